import PyProof.Rows.All
import Wide.All
import OpenK.AllK
import Wide.FinOn
import Lean
import PyProof.EqAt
import PyProof.EqKinds
import PyProof.NeKinds
import PyProof.TupleCall
import KE.KRevIter
import PyProof.SeqI3
import PyProof.ZipIter
import PyProof.EnumIter
import PyProof.EnumStmt
import PyProof.EnumMake
import PyProof.WalksEnum
import PyProof.MeetsSeq
import PyProof.SeqRoads2
import PyProof.DictWalks
import PyProof.Rows.SetFrom
import PySem.Challenge.RW_carry_k35_whole_no_rule_brings_more
set_option linter.all false
set_option bootstrap.genMatcherCode false
set_option compiler.extract_closed false
set_option genSizeOf false
set_option genSizeOfSpec false
def bz:=@List.length_map.{0,0}
def cJ:=@Nat.le_refl
def cS:=@List.map_cons.{0,0}
def dy:=@List.length_append.{0}
def eC:=@List.mem_cons.{0}
def eI:=@List.mem_append.{0}
def eO:=@List.getElem?_eq_some_iff.{0}
def eP:=@List.getElem?_eq_getElem.{0}
def eQ:=@Option.bind_eq_some_iff.{0,0}
def fG:=@PySem.Heap.lt_size
def fH:=@List.size_toArray.{0}
def fI:=@List.nil_append.{0}
def gz:=@List.append_assoc.{0}
def gA:=@List.mem_map.{0,0}
def hG:=@List.mem_append_right.{0}
def hU:=@List.nodup_cons.{0}
def hX:=@List.length_cons.{0}
def iG:=@Nat.lt_of_lt_of_le
def iH:=@List.map_append.{0,0}
theorem iI:type_of% @Option.join_some.{0}:=rfl
def iL:=@Bool.not_true
def iM:=@Option.map_eq_some_iff.{0,0}
def i7:=@List.getElem?_map.{0,0}
def jr:=@List.mem_of_getElem?.{0}
def jB:=@List.mem_filter.{0}
def jC:=@List.length_singleton.{0}
def jD:=@List.mem_singleton.{0}
def jN:=@List.mem_append_left.{0}
def jO:=@PySem.Heap.get?_push_of_some
def kr:=@Nat.zero_le
def kZ:=@List.append_nil.{0}
def ly:=@Nat.ne_of_lt
def lA:=@Bool.false_eq_true
def lB:=@List.all_eq_true.{0}
def lC:=@List.nodup_append.{0}
def lD:=@Bool.not_false
def lS:=@Bool.and_eq_true
def lT:=@Nat.le_trans
def lU:=@List.map_map.{0,0,0}
def mr:=@Array.getElem?_toList.{0}
def mN:=@List.sublist_append_right.{0}
def mO:=@List.length_range
def mW:=@List.mem_cons_self.{0}
def mY:=@Bool.false_ne_true
def oz:=@List.mem_range
def oA:=@List.mem_cons_of_mem.{0}
def oB:=@PySem.Heap.get?_push_size
def oO:=@List.map_nil.{0,0}
def pF:=@Nat.lt_irrefl
theorem pG:type_of% @List.lookup_cons.{0,0}:=rfl
def pH:=@List.drop_zero.{0}
def pI:=@Array.getElem?_eq_getElem.{0}
def ql:=@List.length_take.{0}
def qO:=@List.perm_append_comm.{0}
def qP:=@List.drop_succ_cons.{0}
theorem rH:type_of% @List.all_cons.{0}:=rfl
def rJ:=@List.length_nil.{0}
def tT:=@Bool.eq_iff_iff
def tU:=@Array.getElem?_eq_some_iff.{0}
def tV:=@List.find?_cons.{0}
theorem uy:type_of% @Array.length_toList.{0}:=rfl
def uz:=@Bool.true_and
def uA:=@List.map_singleton.{0,0}
def vD:=@Bool.false_and
def vE:=@List.mem_filterMap.{0,0}
def vF:=@List.length_drop.{0}
def vG:=@PySem.Heap.get?_update_self
def vH:=@List.take_append_drop.{0}
def vI:=@List.getD_eq_getElem?_getD.{0}
def xh:=@List.getElem_mem.{0}
def xi:=@List.nodup_nil.{0}
def yV:=@List.filterMap_cons.{0,0}
def yW:=@List.getElem?_append_right.{0}
def yX:=@List.getElem?_append_left.{0}
def yY:=@Int.le_refl
def Al:=@List.filter_cons.{0}
def Am:=@Nat.lt_succ_self
def An:=@List.any_eq_true.{0}
def Ao:=@Bool.and_false
def As:=@Nat.zero_add
def Au:=@Nat.mul_add
def Aw:=@Nat.mul_comm
def Ay:=@Nat.not_lt_zero
def EB:=@List.getElem?_set_ne.{0}
def EC:=@Bool.or_false
def ED:=@List.length_set.{0}
def EE:=@Nat.le_succ
def EF:=@Bool.not_eq_true
def EG:=@List.contains_iff_mem.{0}
def EH:=@List.take_of_length_le.{0}
theorem EI:type_of% @Option.map_some.{0,0}:=λ_ _=>rfl
theorem EJ:type_of% @List.getElem?_cons_succ.{0}:=rfl
def EK:=@Bool.and_self
def EL:=@Nat.pow_succ
def EM:=@Nat.mul_assoc
def EN:=@Nat.add_zero
def EO:=@Nat.lt_trichotomy
def HY:=@List.getElem?_replicate.{0}
def HL:=@PySem.Heap.get?_update_other
def HM:=@List.mem_iff_getElem.{0}
theorem HN:type_of% @List.cons_append.{0}:=rfl
def HP:=@List.drop_eq_getElem_cons.{0}
def HQ:=@Bool.and_true
def HR:=@Array.getD_eq_getD_getElem?.{0}
def HS:=@List.getElem_of_mem.{0}
def HU:=@List.mem_map_of_mem.{0,0}
def HV:=@List.map_congr_left.{0,0}
theorem HW:type_of% @List.all_nil.{0}:=rfl
def HX:=@List.pairwise_cons.{0}
def MP:=@Option.isSome_iff_exists.{0}
def MQ:=@List.length_replicate.{0}
def MR:=@List.drop_of_length_le.{0}
def MS:=@Int.emod_nonneg
def MT:=@Int.emod_lt_of_pos
def MU:=@List.set_set.{0}
def MV:=@List.getElem?_range
def MW:=@Nat.min_self
def MX:=@Array.forIn_toList.{0,0,0}
def MY:=@List.map_set.{0,0}
def MZ:=@Nat.mul_mod
def M0:=@Nat.mul_one
def M3:=@Nat.add_comm
def M4:=@List.foldl_cons.{0,0}
def M5:=@List.pairwise_map.{0,0}
def M6:=@List.map_drop.{0,0}
def M7:=@List.mem_flatMap.{0,0}
def M8:=@Int.zero_add
def M9:=@Int.not_lt
def M_:=@List.length_filter_le.{0}
def aB:=@PySem.wpAny_bind
def bh:=@PySem.wpAny_pure
def aX:=@if_true.{1}
def aJ:=@if_pos.{1}
def aQ:=@if_neg.{1}
def bS:=@if_false.{1}
def fY:=@decide_eq_true
def iu:=@decide_eq_false
def pJ:=@beq_self_eq_true.{0}
def mZ:=@PySem.wpAny_holding
def ER:=@decide_eq_true_iff
def vJ:=@of_decide_eq_true
def pK:=@beq_eq_false_iff_ne.{0}
def oC:=@Classical.byContradiction
def bQ:=@absurd.{0}
def iJ:=@True.intro
def ku:=@eq_true
namespace Carry.Hd
open Lean Meta PySem PySem.W
abbrev kC:=@mkConst
abbrev aM:=@mkAppM
abbrev nL:=mkRawNatLit
abbrev Ex:=Lean.Expr
def fit(ds:Array (Ex×Ex×Ex)):MetaM (Array (Ex×Ex×Ex)):=do
 let cs:Std.HashSet Ex:=ds.foldl (λz d=>if d.1.isConst then z.insert d.1 else z) {}
 ds.filterM λd=>do
  let ty:=Fast.bareType (<-inferType d.1)
  return (ty.find? λy=>cs.contains y || y.isConstOf ``PySem.W.Frag).isNone
def sT(ds:Array (Ex×Ex×Ex)):Std.HashMap Ex Nat:=ds.zipIdx.foldl (λz d=>z.insert d.1.1 d.2) {}
def parts(tw:Name->MetaM Unit)(v:Ex):MetaM (Array (Ex×Ex×Ex)):=do
 for x in Fast.constsOf v do
  if let .const c _:=x then
   if((<-getEnv).getModuleIdxFor? c).isNone || (`PySem.Challenge).isPrefixOf c then tw c
 fit (<-Fast.twinsIn v)
def twin:Nat->Name->MetaM Unit
 |0,_=>return
 |k+1,c=>do
  let (n,e) <-Fast.stemIn c true
  if(<-getEnv).contains e then return
  if let some none:=(<-Fast.primed.get).get? c then return
  let some (.defnInfo d):=(<-getEnv).find? c|return
  let ds <-parts (twin k) d.value
  if ds.isEmpty then
   Fast.primed.modify λz=>z.insert c none
   return
  let tys <-ds.mapM λx=>inferType x.1
  let ty <-inferType d.value
  let ix:=sT ds
  let G <-Fast.withLocals tys.toList #[] λxs=>mkLambdaFVars xs (Fast.putIn ix (λi=>xs[i]!) d.value)
  let mut B:=#[ty]
  for q in tys.reverse do B:=B.push (<-mkArrow q B.back!)
  let m:=ds.size
  let mut f:=G
  let mut g:=G
  let mut pf:=mkApp2 (kC ``Eq.refl [<-getLevel B[m]!]) B[m]! G
  for i in [0:m] do
   let (x,y,h):=ds[i]!
   pf:=mkAppN (kC ``congr [<-getLevel tys[i]!,<-getLevel B[m - 1 - i]!]) #[tys[i]!,B[m - 1 - i]!,f,g,x,y,pf,h]
   f:=mkApp f x
   g:=mkApp g y
  withOptions (Elab.async.set · false) do
   addDecl (.defnDecl { name:=n,levelParams:=[],type:=d.type,value:=Fast.putIn ix (λi=>ds[i]!.2.1) d.value,hints:=d.hints,safety:=.safe})
   addDecl (.thmDecl { name:=e,levelParams:=[],type:=<-mkEq (kC c) (kC n),value:=pf})
  Fast.primed.modify λz=>z.insert c (some (n,e))
def prep(v:Ex):MetaM (Array (Ex×Ex×Ex)):=parts (twin 9) v
def put(stem:Name)(ty v:Ex):MetaM Ex:=do
 let ds <-prep v
 let c <-defAt stem ty (Fast.putIn (sT ds) (λi=>ds[i]!.2.1) v)
 Fast.primed.modify λz=>z.insert c.constName! none
 return c
abbrev Objs:=Array (Obj×Obj×Ex)
def lay(old:Objs)(s t:Shared):MetaM Objs:=do
 let P:=kC ``Params
 unless s.heap.objs.size == t.heap.objs.size && s.toks == t.toks && toExpr s.drawn == toExpr t.drawn && toExpr s.heap.life == toExpr t.heap.life do throwError ""
 let mut out:=#[]
 for i in [0:s.heap.objs.size] do
  let (a,b):=(s.heap.objs[i]!,t.heap.objs[i]!)
  if let some (a',b',e):=old[i]? then
   if sameObjNow a' a && sameObjNow b' b then
    out:=out.push (a',b',e)
    continue
  let v <-withLocalDeclD `P P λp=>do
   let e:=objE p a
   unless e == objE p b do throwError ""
   mkLambdaFVars #[p] e
  out:=out.push (a,b,<-put `o (<-mkArrow P (kC ``Obj)) v)
 return out
def state(l:Bool)(old:Objs)(s t:Shared):MetaM (Objs×W.State):=do
 let P:=kC ``Params
 let os <-lay old s t
 let life:=toExpr s.heap.life
 let S:W.State:={ heap:=default,gens:=<-gensE s t,drawn:=toExpr s.drawn,toks:=nL s.toks}
 if l then
  let v <-withLocalDeclD `P P λp=>mkLambdaFVars #[p] (mkApp2 (kC ``Heap.mk) (mkApp2 (kC ``Array.mk [0]) (kC ``Obj) (listE (kC ``Obj) (os.toList.map λx=>mkApp x.2.2 p))) life)
  return (os,{ S with heap:=<-put `h (<-mkArrow P (kC ``Heap)) v})
 let v <-withLocalDeclD `P P λp=>mkLambdaFVars #[p] (treeE p (os.map (·.2.2)) 1 0)
 return (os,{ S with tree:=some (<-put `t (<-mkArrow P (kC ``BT)) v,nL s.heap.objs.size,life)})
def aux(ty pf:Ex):MetaM Ex:=do return kC (<-withOptions (Elab.async.set · false) (mkAuxLemma [] ty pf (cache:=false)))
def look:Nat->Ex->Ex->MetaM Ex
 |k,l,r=>do
  let W:=kC ``World
  let O:=kC ``OsState
  let q <-withLocalDeclD `w W λw=>withLocalDeclD `os O λos=>do
   let un (e:Ex):MetaM Ex:=do
    let e:=(mkApp2 e w os).headBeta
    if e.isAppOf ``openSeen || e.isAppOf ``openGood then return (<-unfoldDefinition? e).getD e
    return e
   let (a,b):=(<-un l,<-un r)
   unless a.isAppOfArity ``Prod.mk 4 && b.isAppOfArity ``Prod.mk 4 do return none
   let sh (e:Ex) (i:Nat):MetaM Ex:=mkLambdaFVars #[w,os] (e.getArg! i)
   return some (<-sh a 2,<-sh b 2,<-sh a 3,<-sh b 3)
  match k,q with
  |n+1,some (a1,b1,a2,b2)=>
   let (x,y):=(<-look n a1 b1,<-look n a2 b2)
   let (ty,pf) <-withLocalDeclD `w W λw=>withLocalDeclD `os O λos=>do
    return (<-mkForallFVars #[w,os] (<-mkEq (mkApp2 l w os).headBeta (mkApp2 r w os).headBeta),<-mkLambdaFVars #[w,os] (<-aM ``looks_pair #[mkApp2 x w os,mkApp2 y w os]))
   aux ty pf
  |_,_=>
   let P <-withLocalDeclD `w W λw=>do mkLambdaFVars #[w] (<-mkEq (mkApp l w).headBeta (mkApp r w).headBeta)
   discard <| prep P
   let e <-byKernelQuick P []
   withLocalDeclD `w W λw=>withLocalDeclD `os O λos=>do mkLambdaFVars #[w,os] (<-aM ``congrFun #[mkApp e w,os])
def most:Nat:=3000
def left(g:MVarId)(pE:Ex)(p:Program)(_:List String):MetaM Unit:=g.withContext do
 let a:=(<-instantiateMVars (<-g.getType)).consumeMData.getAppArgs
 let some N <-(Meta.evalNat a[7]!).run|throwError ""
 let (.ok t,.ok t'):=(<-traceTop p N 1,<-traceTop p N 2)|throwError ""
 let tb:=kC ``treeTable
 let (W,O):=(kC ``World,kC ``OsState)
 let m0:=nL t.s0.heap.objs.size
 let ann:=toExpr t.ann
 let main <-aM ``Program.main #[pE]
 let op <-aM ``opening #[pE]
 let e1 <-aux (<-mkEq op (mkApp (kC ``plainProg) (<-aM ``Scope.names #[<-aM ``Module.scope #[main]]))) (<-mkEqRefl op)
 let e2 <-withLocalDeclD `s (kC ``Shared) λs=>do
  let r <-aM ``some #[s]
  aux (<-mkForallFVars #[s] (<-mkEq (mkApp2 (kC ``fenceModules?) pE s) r)) (<-mkLambdaFVars #[s] (<-mkEqRefl r))
 let e3 <-mkDecideProof (<-mkEq (mkApp2 (kC ``Nat.ble) (nL 600) a[7]!) (kC ``Bool.true))
 let boot:=mkAppN (kC ``boot_open) #[pE,a[7]!,e1,e3,e2]
 let bE <-aM ``behindTheImports #[pE]
 let some cells <-cellsD? bE|throwError ""
 let env0 <-Elab.Term.TermElabM.run' do
  let s1 <-Elab.Term.exprToSyntax (<-aM ``Module.scope #[main])
  let s2 <-Elab.Term.exprToSyntax (toExpr t.code)
  let e <-Elab.Term.withSynthesize (Elab.Term.elabTermEnsuringType (<-`(({ scope:=$s1,locals:=mainNs,globals:=mainNs,cells:=[],code:=$s2,frame:=some $(quote t.frame)}:Env))) (kC ``Env))
  instantiateMVars e
 let env <-defAt `env (kC ``Env) env0
 let fp:=toExpr t.framePos
 let cE:=mkApp2 (kC ``Code.body) bE env
 let B:=listE (kC ``Frame) [mkApp (kC ``topFrame) fp]
 let go (f:Name) (more:Array Ex) (n:Nat) (w s th:Ex):Ex:=mkAppN (kC f) (#[tb,pE,w,m0,ann]++more++#[nL n,s,th])
 let one:=#[nL 1]
 let pc (rows:List String) (l r:Ex->Ex->MetaM Ex):MetaM Ex:=do
  for x in [pE,env] do discard <| prep x
  byPiece rows l r
 let en (S:Ex) (pos:Pos):MetaM Ex:=do aM ``some #[<-aM ``Prod.mk #[kC ``Flow.next,<-aM ``Prod.mk #[S,<-aM ``Prod.mk #[cE,toExpr pos]]]]
 let rO (x y:Snap):=(x.rows++y.rows).eraseDups
 let mut o:Objs:=#[]
 for i in [0:t.s0.heap.objs.size] do o:=o.push (t.s0.heap.objs[i]!,t'.s0.heap.objs[i]!,kC ((`PySem.W).str s!"boot_o_{i}"))
 let S0:PySem.W.State:={ heap:=kC ``boot_heap,gens:=mkApp2 (kC ``Array.mk [0]) (kC ``GenState) (mkApp (kC ``List.nil [0]) (kC ``GenState)),drawn:=kC ``boot_drawn,toks:=kC ``boot_toks}
 let (o1,Sa) <-state true o t.pre.s t'.pre.s
 let thA:=mkApp4 (kC ``Thread.mk) (mkApp2 (kC ``denote) tb cE) cE (toExpr t.pre.pos) B
 let stub:=mkApp (kC ``topStub) pE
 let pre <-pc (rO t.pre t'.pre) (λw os=>pure (go ``topGo #[] t.pre.steps w (S0.at w os) stub)) λw os=>do aM ``some #[<-aM ``Prod.mk #[Sa.at w os,thA]]
 let (o2,Sb) <-state false o1 t.block.s t'.block.s
 let block <-pc (rO t.block t'.block) (λw os=>pure (go ``segRun one t.block.steps.succ w (Sa.at w os) (mkAppN (kC ``blockOf) #[bE,env,cE,toExpr t.pre.pos,B]))) λw os=>en (Sb.at w os) t.block.pos
 let mut gs:Array (List Ex×Nat×Snap×Snap×List String):=#[]
 for (st,x,x') in cells.zip (t.pieces.zip t'.pieces) do
  let k:=max x.steps x'.steps
  let rs:=rO x x'
  match gs.back? with
  |some (l,n,_,_,r)=>
   if n+k<=most && (r++rs).eraseDups.length<=3 then gs:=gs.pop.push (l++[st],n+k,x,x',(r++rs).eraseDups) else gs:=gs.push ([st],k,x,x',rs)
  |none=>gs:=gs.push ([st],k,x,x',rs)
 let mut cur:=(o2,Sb,t.block.pos)
 let mut lems:=#[]
 for (sts,n,x,x',rs) in gs do
  let stE <-defAt `st (mkApp (kC ``List [0]) (kC ``Stmt)) (listE (kC ``Stmt) sts)
  discard <| prep stE
  let (o0,S1,p1):=cur
  let (o',S') <-state false o0 x.s x'.s
  let th:=mkAppN (kC ``piecesOf) #[stE,env,cE,toExpr p1,B]
  let h <-pc rs (λw os=>pure (go ``segRunT one n.succ w (S1.atT w os) th)) λw os=>en (S'.atT w os) x.pos
  lems:=lems.push (stE,n.succ,S1,p1,S',x.pos,<-liftT h ``segRun_of)
  cur:=(o',S',x.pos)
 let (oN,SN,pN):=cur
 let (_,Sf) <-state true oN t.fin.s t'.fin.s
 let fin <-pc (rO t.fin t'.fin) (λw os=>pure (go ``topRun #[] t.fin.steps.succ w (SN.at w os) (mkApp4 (kC ``Thread.mk) (mkApp (kC ``doneF) (kC ``Flow.next)) cE (toExpr pN) B))) λw os=>aM ``some #[Sf.at w os]
 let run <-withLocalDeclD `w W λw=>withLocalDeclD `os O λos=>do
  let w1 (l:Ex):MetaM Ex:=do aM ``congrFun #[mkApp l w,os]
  let r:=Sf.at w os
  let com:=#[tb,pE,w,m0,ann,env,fp]
  let mut k <-w1 fin
  let mut M:=nL t.fin.steps.succ
  let mut rest:=listE (kC ``Stmt) []
  for (stE,n,S1,p1,S',p2,h) in lems.toList.reverse do
   k:=mkAppN (kC ``piece_app) (com++#[nL n,M,S1.at w os,S'.at w os,r,stE,rest,cE,toExpr p1,toExpr p2,<-w1 h,k])
   M:=mkApp2 (kC ``Nat.add) (nL n) M
   rest <-aM ``HAppend.hAppend #[stE,rest]
  k:=mkAppN (kC ``piece_block) (com++#[nL t.block.steps.succ,M,Sa.at w os,Sb.at w os,r,bE,cE,toExpr t.pre.pos,toExpr t.block.pos,<-w1 block,k])
  M:=mkApp2 (kC ``Nat.add) (nL t.block.steps.succ) M
  k:=mkAppN (kC ``go_top) #[tb,pE,w,m0,ann,nL t.pre.steps,M,S0.at w os,Sa.at w os,r,stub,thA,<-w1 pre,k]
  M:=mkApp2 (kC ``Nat.add) (nL t.pre.steps) M
  let ty <-mkEq (mkAppN (kC ``topRun) #[tb,pE,w,m0,ann,M,S0.at w os,stub]) (<-aM ``some #[r])
  return (M,<-aux (<-mkForallFVars #[w,os] ty) (<-mkLambdaFVars #[w,os] k))
 let lem:=kC ``LeftO.of_pieces
 let (ms,_,_) <-forallMetaTelescope (<-inferType lem)
 let vs:=#[pE,a[1]!,a[2]!,a[3]!,a[4]!,a[5]!,a[6]!,a[7]!,a[8]!,S0.heap,Sf.heap,S0.gens,Sf.gens,S0.drawn,Sf.drawn,S0.toks,Sf.toks,m0,ann,run.1]
 for (m,v) in ms.zip vs do m.mvarId!.assign v
 let want (i:Nat):MetaM Ex:=do instantiateMVars (<-inferType ms[i]!)
 let .forallE n1 d1 b1 i1 <-want 21|throwError ""
 let size <-byKernelQuick (.lam n1 d1 b1 i1) []
 let .forallE _ _ bl _ <-want 24|throwError ""
 let (l,r) <-withLocalDeclD `w W λw=>do
  let some (_,l,r):=(bl.instantiate1 w).eq?|throwError ""
  return (<-mkLambdaFVars #[w] l,<-mkLambdaFVars #[w] r)
 let h <-look 12 l r
 let looks <-withLocalDeclD `w W λw=>do
  let f <-withLocalDeclD `os O λos=>mkLambdaFVars #[os] (mkApp2 h w os)
  mkLambdaFVars #[w] (<-aM ``funext #[f])
 g.assign (mkAppN lem (vs++#[boot,size,run.2,<-mkDecideProof (<-want 23),looks]))
simproc_decl hd0 (PySem.W.OpenLaw.Holds _):=λe=>do
 if let .const (.str p s) _:=e.appArg! then twin 9 (p.str ("p"++(s.drop 1).toString))
 return .continue
simproc_decl hd (PySem.W.OpenRow.Holds _):=λ_=>do
 PySem.W.leftPieces.set (some left)
 return .continue
end Carry.Hd
noncomputable section
set_option Elab.async false
set_option maxRecDepth 100000
abbrev L2.FG:=PySem.W.Frag
open Nat(reduceAdd reduceLT reduceSub reduceLeDiff)
namespace L2
open PySem PySem.Spec PyProof.Rows
abbrev Key:=Sum Int Str
def wM:Key->Value->Bool
 |.inl k,v=>Value.isInt k v
 |.inr x,v=>Value.isStrOf x v
def LU(w:World):Key->Int
 |.inl k=>hashInt k
 |.inr x=>hashStr w x
theorem uH:∀{k:Key} {v:Value},wM k v=true->(∃i t,k=Sum.inl i/\v=Value.int i t)\/(∃x t,k=Sum.inr x/\v=Value.str x t)
 |.inl i,v,h=>by
  obtain⟨t,e⟩:=Value.isInt_shape (k:=i) (v:=v) h;exact .inl ⟨i,t,rfl,e⟩
 |.inr x,v,h=>by
  obtain⟨t,e⟩:=Value.isStrOf_shape (x:=x) (v:=v) h;exact .inr ⟨x,t,rfl,e⟩
def ZK(a b:Int):decide ((Sum.inl a:Key)=Sum.inl b)=(a == b):=by
 by_cases e:a=b
 .subst e;simp
 .have h:¬(Sum.inl a:Key)=Sum.inl b:=λq=>e (Sum.inl.inj q)
  rw[iu h];exact(pK.mpr e).symm
def ZL(a b:Str):decide ((Sum.inr a:Key)=Sum.inr b)=decide (a=b):=by
 by_cases e:a=b
 .subst e;simp
 .have h:¬(Sum.inr a:Key)=Sum.inr b:=λq=>e (Sum.inr.inj q)
  rw[iu h,iu e]
def ZM(a:Int)(b:Str):decide ((Sum.inl a:Key)=Sum.inr b)=false:=iu (λq=>nomatch q)
def ZN(a:Str)(b:Int):decide ((Sum.inr a:Key)=Sum.inl b)=false:=iu (λq=>nomatch q)
def FN(prog:Program)(w:World):PySem.KeyKind prog w Key where
 is:=wM
 hash:=LU w
 inj:=λv a b ha hb=>by
  rcases uH ha with⟨i,t,rfl,rfl⟩|⟨x,t,rfl,rfl⟩
  .rcases uH hb with⟨j,u,rfl,e⟩|⟨y,u,rfl,e⟩
   .injection e with e1 _;rw[e1]
   .exact nomatch e
  .rcases uH hb with⟨j,u,rfl,e⟩|⟨y,u,rfl,e⟩
   .exact nomatch e
   .injection e with e1 _;rw[e1]
 byValue:=λk v h=>by
  rcases uH h with⟨i,t,rfl,rfl⟩|⟨x,t,rfl,rfl⟩ <;> rfl
 pyHash:=λhv h=>by
  rcases uH hv with⟨i,t,rfl,rfl⟩|⟨x,t,rfl,rfl⟩
  .exact wpAny_pyHash_int h
  .exact wpAny_pyHash_str h
 eqBool:=λhu hv h=>by
  rcases uH hu with⟨i,t,rfl,rfl⟩|⟨x,t,rfl,rfl⟩
  .rcases uH hv with⟨j,u,rfl,rfl⟩|⟨y,u,rfl,rfl⟩
   .rw[ZK] at h;exact wpAny_eqBool_int h
   .rw[ZM] at h;exact SeqAt.EqAt.int_str i t y u _ _ _ _ h
  .rcases uH hv with⟨j,u,rfl,rfl⟩|⟨y,u,rfl,rfl⟩
   .rw[ZN] at h;exact SeqAt.EqAt.str_int x t j u _ _ _ _ h
   .rw[ZL] at h;exact wpAny_eqBool_str h
 «strs»:=λk x t v h=>by
  rcases uH h with⟨i,u,rfl,e⟩|⟨y,u,rfl,e⟩
  .exact nomatch e
  .injection e with e1 _;subst e1;cases v <;> rfl
inductive V where
 |bH|bl (b:Bool)|int (i:Int)|str (x:Str)|zB (b:Array UInt8)|zK (b:UInt64)|ref (a:Addr)|ty (n:String)
 deriving DecidableEq
def RelV:V->Value->Prop
 |.bH,u=>u=Value.none
 |.bl b,u=>u=Value.bool b
 |.int i,u=>∃t,u=Value.int i t
 |.str x,u=>∃t,u=Value.str x t
 |.zB b,u=>∃t,u=Value.bytes b t
 |.zK b,u=>∃t,u=Value.float b t
 |.ref a,u=>u=Value.ref a
 |.ty n,u=>u=Value.type n
abbrev Vals:List V->List Value->Prop:=Paired RelV
theorem Vals.length{xs:List V}{us:List Value}(r:Vals xs us):xs.length=us.length:=Paired.length r
theorem Vals.get:∀{xs:List V} {us:List Value} {i:Nat} {x:V},Vals xs us->xs[i]?=some x->∃u,us[i]?=some u/\RelV x u
 |_,_,_,_,.nil,e=>by simp at e
 |_,_,0,_,.cons r _,e=>by simp at e;subst e;exact⟨_,rfl,r⟩
 |_,_,i+1,x,.cons _ t,e=>by
  obtain⟨u,h1,h2⟩:=Vals.get (i:=i) (x:=x) t (by simpa using e)
  exact⟨u,by simpa using h1,h2⟩
theorem Vals.set{x:V}{u:Value}(r:RelV x u):∀{xs:List V} {us:List Value} (i:Nat),Vals xs us->Vals (xs.set i x) (us.set i u)
 |_,_,_,.nil=>.nil
 |_,_,0,.cons _ t=>.cons r t
 |_,_,i+1,.cons q t=>.cons q (Vals.set r i t)
def Vals.append{xs ys:List V}{us ws:List Value}(h:Vals xs us)(s:Vals ys ws):Vals (xs++ys) (us++ws):=by
 induction h with
 |nil=>exact s
 |cons r t ih=>exact .cons r ih
theorem Vals.take:∀{xs:List V} {us:List Value} (n:Nat),Vals xs us->Vals (xs.take n) (us.take n)
 |_,_,0,_=>.nil
 |_,_,_+1,.nil=>.nil
 |_,_,n+1,.cons r t=>.cons r (Vals.take n t)
theorem Vals.drop:∀{xs:List V} {us:List Value} (n:Nat),Vals xs us->Vals (xs.drop n) (us.drop n)
 |_,_,0,r=>r
 |_,_,_+1,.nil=>.nil
 |_,_,n+1,.cons _ t=>Vals.drop n t
def ng:Option V->Option Value->Prop
 |some v,some u=>RelV v u
 |none,none=>True
 |_,_=>False
def KV{κ:Type}:List (κ×V)->List (κ×Value)->Prop:=Paired λ(p:κ×V) (q:κ×Value)=>p.1=q.1/\RelV p.2 q.2
def kV:Key->V
 |.inl i=>.int i
 |.inr x=>.str x
inductive TK where
 |inl (i:Int)|inr (x:Str)|tp (l:List TK)
mutual
noncomputable def TK.beq:TK->TK->Bool
 |.inl a,.inl b=>decide (a=b)
 |.inr a,.inr b=>decide (a=b)
 |.tp l,.tp m=>TK.o5 l m
 |_,_=>false
noncomputable def TK.o5:List TK->List TK->Bool
 |[],[]=>true
 |a::l,b::m=>TK.beq a b&&TK.o5 l m
 |_,_=>false
end
mutual
theorem TK.beq_iff:∀a b:TK,TK.beq a b=true↔a=b
 |.inl a,.inl b=>by unfold TK.beq;rw[decide_eq_true_eq];exact⟨λe=>by rw[e],λe=>by cases e;rfl⟩
 |.inr a,.inr b=>by unfold TK.beq;rw[decide_eq_true_eq];exact⟨λe=>by rw[e],λe=>by cases e;rfl⟩
 |.tp l,.tp m=>by unfold TK.beq;rw[TK.ny l m];exact⟨λe=>by rw[e],λe=>by cases e;rfl⟩
 |.inl _,.inr _=>by unfold TK.beq;exact⟨λe=>(nomatch e),λe=>(nomatch e)⟩
 |.inl _,.tp _=>by unfold TK.beq;exact⟨λe=>(nomatch e),λe=>(nomatch e)⟩
 |.inr _,.inl _=>by unfold TK.beq;exact⟨λe=>(nomatch e),λe=>(nomatch e)⟩
 |.inr _,.tp _=>by unfold TK.beq;exact⟨λe=>(nomatch e),λe=>(nomatch e)⟩
 |.tp _,.inl _=>by unfold TK.beq;exact⟨λe=>(nomatch e),λe=>(nomatch e)⟩
 |.tp _,.inr _=>by unfold TK.beq;exact⟨λe=>(nomatch e),λe=>(nomatch e)⟩
theorem TK.ny:∀l m:List TK,TK.o5 l m=true↔l=m
 |[],[]=>by unfold TK.o5;exact⟨λ_=>rfl,λ_=>rfl⟩
 |a::l,b::m=>by unfold TK.o5;rw[lS,TK.beq_iff a b,TK.ny l m];exact⟨λe=>by rw[e.1,e.2],λe=>by cases e;exact⟨rfl,rfl⟩⟩
 |[],_::_=>by unfold TK.o5;exact⟨λe=>(nomatch e),λe=>(nomatch e)⟩
 |_::_,[]=>by unfold TK.o5;exact⟨λe=>(nomatch e),λe=>(nomatch e)⟩
end
instance:DecidableEq TK:=λa b=>decidable_of_iff _ (TK.beq_iff a b)
mutual
def TK.hash(w:World):TK->Int
 |.inl i=>hashInt i
 |.inr x=>hashStr w x
 |.tp l=>reduceHash (Builtin.Tuple.tupleHashOf (TK.fw w l))
def TK.fw(w:World):List TK->List Int
 |[]=>[]
 |a::l=>TK.hash w a::TK.fw w l
end
noncomputable def TK.ok:Nat->TK->Bool
 |n+1,.tp l=>l.all (TK.ok n)
 |0,.tp _=>false
 |_,_=>true
def kz(w:World)(e:TK×V×V)(x:DictEntry):Prop:=x.hash=e.1.hash w/\RelV e.2.1 x.key/\RelV e.2.2 x.val/\e.1.ok 8=true
inductive HO where
  |lst (xs:List V)
  |tup (xs:List V)
  |dK (kvs:List (Key×V))|dT (kvs:List (List Key×V))
  |dG (es:List (TK×V×V)) (ep:Nat)
  |set (S:Int->Bool) (n:Nat)
  |ins (C dx:Addr) (fs:List (Str×V))
  |own (x:Addr)
  |xd (fs:List (Str×V))
  |met (f x:Addr)
  |Ml (lo hi:Int)
  |Y (o:Obj) (u:HO)
  |yT (ps:Array Value)
  |ext (φ:Heap->Prop)
abbrev Hp:=Addr->Option HO
noncomputable def upd(H:Hp)(a:Addr)(o:HO):Hp:=λb=>if b=a then some o else H b
def jt{H:Hp}{a:Addr}{o:HO}:upd H a o a=some o:=by unfold upd;rw[aJ rfl]
def cZ{H:Hp}{a b:Addr}{o:HO}(h:b≠a):upd H a o b=H b:=by unfold upd;rw[aQ h]
def mz{H:Hp}{a b:Addr}{o:HO}(h:H a=some o)(h':H b=none):a≠b:=by
 intro e;subst e;rw[h] at h';cases h'
section
variable(P:Program)(w:World)
def cw(H:Hp)(h:Heap)(a:Addr):HO->Prop
 |.lst xs=>xs.length<=sizeLine/\∃(ay:List Value) (n:Nat),Vals xs ay/\h.get? a=some { cls:=.type "list",data:=.seq ay.toArray n}
 |.tup xs=>xs.length<=sizeLine/\∃ay:List Value,Vals xs ay/\IsTup h a ay.toArray
 |.dK kvs=>kvs.length<=sizeLine/\(a == sysModules)=false/\∃vs,KV kvs vs/\h.DictOf (FN P w) a vs
 |.dT kvs=>kvs.length<=sizeLine/\(a == sysModules)=false/\∃xs:List (List Key×Addr×Value),
   Paired (λ(p:List Key×V) (q:List Key×Addr×Value)=>p.1=q.1/\H q.2.1=some (.tup (p.1.map kV))/\RelV p.2 q.2.2) kvs xs/\
   ∃o es ep,h.get? a=some o/\o.ExactDict/\o.data=.dict es ep/\es.toList=xs.map (entryOfKey (tupleKind (FN P w)))/\(xs.map (·.1)).Nodup
 |.dG es ep=>es.length<=sizeLine/\(a == sysModules)=false/\∃o xs,h.get? a=some o/\o.ExactDict/\o.data=.dict xs ep/\Paired (kz w) es xs.toList/\(es.map (·.1)).Nodup
 |.set S n=>h.SetOf (intKind P w) a S n
 |.ins C dx fs=>H dx=some (.own a)/\fs.length<=1000/\dx≠a/\h.get? a=some (PySem.W.instObj C dx)/\
   ∃mA,h.Ns1 dx mA/\(∀f,ng (fs.lookup f) (mA f))/\PySem.Within mA (fs.map (·.1))
 |.own _=>∃o,h.get? a=some o
 |.xd fs=>∃mA,h.Ns1 a mA/\∀f,ng (fs.lookup f) (mA f)
 |.Ml lo hi=>∃t u v,h.get? a=some { cls:=.type "range",data:=.fields #[.int lo t,.int hi u,.int 1 v]}
 |.Y o u=>h.get? a=some o/\cw H h a u
 |.yT ps=>h.get? a=some { cls:=.none,data:=.fields ps}
 |.met f x=>h.get? a=some (PySem.W.methodObj (.ref f) (.ref x))
 |.ext φ=>φ h/\(∃o,h.get? a=some o)/\∀h1 h2:Heap,φ h1->(∀o,h1.get? a=some o->h2.get? a=some o)->φ h2
def kD(H:Hp)(h:Heap):Prop:=∀a o,H a=some o->cw P w H h a o
end
section
variable{P:Program}{w:World}{H H':Hp}{h h':Heap}{a:Addr}{o:HO}
theorem cw.lt(x:cw P w H h a o):a<h.objs.size:=by
 cases o with
 |lst xs=>obtain⟨_,_,_,_,e⟩:=x;exact fG e
 |tup xs=>obtain⟨_,_,_,p⟩:=x;exact p.lt
 |dK kvs=>obtain⟨_,_,_,_,o,_,_,e,_⟩:=x;exact fG e
 |dT kvs=>obtain⟨_,_,_,_,o,_,_,e,_⟩:=x;exact fG e
 |dG es ep=>obtain⟨_,_,o,_,e,_⟩:=x;exact fG e
 |set S n=>obtain⟨o,_,_,_,e,_⟩:=x;exact fG e
 |ins C dx fs=>obtain⟨_,_,_,e,_⟩:=x;exact fG e
 |own y=>obtain⟨_,e⟩:=x;exact fG e
 |xd fs=>obtain⟨_,⟨_,_,_,e,_⟩,_⟩:=x;exact fG e
 |Ml lo hi=>obtain⟨_,_,_,e⟩:=x;exact fG e
 |Y ob u=>obtain⟨e,_⟩:=x;exact fG e
 |yT ps=>exact fG (show h.get? a=some _ from x)
 |met f y=>exact fG (show h.get? a=some _ from x)
 |ext φ=>obtain⟨_,⟨_,e⟩,_⟩:=x;exact fG e
def Paired.L9{α β:Type}{F G:α->β->Prop}{l₁:List α}{l₂:List β}(h:Paired F l₁ l₂)(f:∀a b,F a b->G a b):Paired G l₁ l₂:=by
 induction h with
 |nil=>exact .nil
 |cons r t ih=>exact .cons (f _ _ r) ih
def cw.ot(x:cw P w H h a o)(k:∀b u,(b=a\/H b=some (.own a))->h.get? b=some u->h'.get? b=some u)
  (ho:∀b,H b=some (.own a)->H' b=some (.own a)) (ht:∀b xs,H b=some (.tup xs)->H' b=some (.tup xs)):cw P w H' h' a o:=by
 induction o with
 |lst xs=>obtain⟨z,ay,n,r,e⟩:=x;exact⟨z,ay,n,r,k _ _ (.inl rfl) e⟩
 |tup xs=>obtain⟨z,ay,r,ob,e,c⟩:=x;exact⟨z,ay,r,ob,k _ _ (.inl rfl) e,c⟩
 |dK kvs=>obtain⟨z,y,vs,r,ob,es,ep,e,c⟩:=x;exact⟨z,y,vs,r,ob,es,ep,k _ _ (.inl rfl) e,c⟩
 |dT kvs=>
  obtain⟨z,y,xs,r,ob,es,ep,e,c⟩:=x;exact⟨z,y,xs,Paired.L9 r λp q z=>⟨z.1,ht _ _ z.2.1,z.2.2⟩,ob,es,ep,k _ _ (.inl rfl) e,c⟩
 |dG es ep=>obtain⟨z,y,ob,xs,e,c⟩:=x;exact⟨z,y,ob,xs,k _ _ (.inl rfl) e,c⟩
 |set S n=>obtain⟨ob,es,ep,t,e,c⟩:=x;exact⟨ob,es,ep,t,k _ _ (.inl rfl) e,c⟩
 |ins C dx fs=>
  obtain⟨d,z,ne,e,mA,⟨od,es,ep,e2,c⟩,r⟩:=x;exact⟨ho _ d,z,ne,k _ _ (.inl rfl) e,mA,⟨od,es,ep,k _ _ (.inr d) e2,c⟩,r⟩
 |own y=>obtain⟨ob,e⟩:=x;exact⟨ob,k _ _ (.inl rfl) e⟩
 |xd fs=>obtain⟨mA,⟨od,es,ep,e,c⟩,r⟩:=x;exact⟨mA,⟨od,es,ep,k _ _ (.inl rfl) e,c⟩,r⟩
 |Ml lo hi=>obtain⟨t,u,v,e⟩:=x;exact⟨t,u,v,k _ _ (.inl rfl) e⟩
 |Y ob u ih=>obtain⟨e,q⟩:=x;exact⟨k _ _ (.inl rfl) e,ih q⟩
 |yT ps=>
  have e:h.get? a=some { cls:=.none,data:=.fields ps}:=x;show h'.get? a=some { cls:=.none,data:=.fields ps};exact k a _ (.inl rfl) e
 |met f y=>
  have e:h.get? a=some (PySem.W.methodObj (.ref f) (.ref y)):=x;show h'.get? a=some (PySem.W.methodObj (.ref f) (.ref y));exact k a _ (.inl rfl) e
 |ext φ=>obtain⟨p,⟨o,e⟩,st⟩:=x;exact⟨st _ _ p λo q=>k _ _ (.inl rfl) q,⟨o,k _ _ (.inl rfl) e⟩,st⟩
theorem kD.lt(x:kD P w H h)(e:H a=some o):a<h.objs.size:=(x a o e).lt
def kD.fresh(x:kD P w H h)(e:h.objs.size<=a):H a=none:=by
 cases q:H a with
 |none=>rfl
 |some u=>exact bQ (iG (x.lt q) e) (pF _)
def kD.kept(x:kD P w H h)(k:∀b u,h.get? b=some u->h'.get? b=some u):kD P w H h':=λa o e=>
 (x a o e).ot (λb u _ q=>k b u q) (λ_ q=>q) λ_ _ q=>q
def kD.laid(x:kD P w H h)(k:∀b u,h.get? b=some u->h'.get? b=some u)(hp:h.objs.size<=a)(new:cw P w (upd H a o) h' a o):kD P w (upd H a o) h':=λb u e=>by
 have hn:=x.fresh hp;by_cases hb:b=a
 .subst hb;rw[jt] at e;cases e;exact new
 .rw[cZ hb] at e;exact(x b u e).ot (λc v _ q=>k c v q) (λc q=>by rw[cZ (mz q hn)];exact q) λc xs q=>by rw[cZ (mz q hn)];exact q
end
def Rd(H:Hp)(a:Addr)(u:HO):Prop:=H a=some u\/∃o,H a=some (.Y o u)
def Rd.ok{P:Program}{w:World}{H:Hp}{h:Heap}{a:Addr}{u:HO}(r:Rd H a u)(x:kD P w H h):cw P w H h a u:=by
 rcases r with r|⟨o,r⟩
 .exact x a u r
 .obtain⟨_,q⟩:=x a _ r;exact q
def AW:Option HO->Prop
 |some (.lst _)=>True
 |some (.dK _)=>True
 |some (.dT _)=>True
 |some (.dG _ _)=>True
 |some (.set _ _)=>True
 |some (.ins _ _ _)=>True
 |some (.ext _)=>True
 |_=>False
section
variable{P:Program}{w:World}{H:Hp}{h h':Heap}{x e:Addr}{o':HO}
def kD.write(ok:kD P w H h)(mu:AW (H x))(he:e=x\/H e=some (.own x))(k:∀b u,b≠e->h.get? b=some u->h'.get? b=some u)(zQ:∃u,h'.get? e=some u)
  (new:cw P w (upd H x o') h' x o'):kD P w (upd H x o') h':=λb u q=>by
 have DQ:∀c y,H c=some (.own y)->c≠x:=λc y r z=>by subst z;rw[r] at mu;exact mu
 have Me:∀c xs,H c=some (.tup xs)->c≠x:=λc xs r z=>by subst z;rw[r] at mu;exact mu
 by_cases hb:b=x
 .subst hb;rw[jt] at q;cases q;exact new
 .rw[cZ hb] at q;by_cases ym:b=e
  .have q':H b=some (.own x):=by
    rcases he with z|z
    .exact bQ (ym.trans z) hb
    .rw[ym];exact z
   rw[q] at q';cases q';obtain⟨v,hv⟩:=zQ;exact⟨v,by rw[ym];exact hv⟩
  .refine(ok b u q).ot (λc v hc r=>k c v ?_ r) (λc r=>by rw[cZ (DQ c b r)];exact r) λc xs r=>by rw[cZ (Me c xs r)];exact r
   rcases hc with rfl|hc
   .exact ym
   .rintro rfl;rcases he with z|z
    .exact DQ c b hc z
    .rw[hc] at z;cases z;exact hb rfl
end
structure Un (fs ex:List Addr) (H H':Hp) (h h':Heap):Prop where
 keep:∀b o,h.get? b=some o->H b=none->b∉fs->b∉ex->h'.get? b=some o
 slot:∀b o,h.get? b=some o->H b=none->b∈fs->b∉ex->∃sl,h'.get? b=some { o with slots:=sl}
 free:∀b o,h.get? b=some o->H b=none->b∉ex->H' b=none
 there:∀b o,h.get? b=some o->b∉ex->∃o',h'.get? b=some o'
 mM:∀b xs,H b=some (.tup xs)->H' b=some (.tup xs)
 lM:∀b o u,H b=some (.Y o u)->H' b=some (.Y o u)
 mL:∀b ps,H b=some (.yT ps)->∃more,H' b=some (.yT (ps++more))
section
variable{fs fs' ex ex':List Addr}{H H1 H2:Hp}{h h1 h2 h':Heap}{a x e:Addr}{o:HO}
def Un.any(u:Un fs ex H H1 h h1){b:Addr}{ob:Obj}(q:h.get? b=some ob)(n:H b=none)(hx:b∉ex):∃sl,h1.get? b=some { ob with slots:=sl}:=by
 by_cases hb:b∈fs
 .exact u.slot b ob q n hb hx
 .exact⟨ob.slots,u.keep b ob q n hb hx⟩
def Un.kept(k:∀b u,h.get? b=some u->h'.get? b=some u):Un fs ex H H h h':=
 ⟨λb ob q _ _ _=>k b ob q,λb ob q _ _ _=>⟨ob.slots,k b ob q⟩,λ_ _ _ n _=>n,λb ob q _=>⟨ob,k b ob q⟩,λ_ _ q=>q,λ_ _ _ q=>q,λ_ ps q=>⟨#[],by rw[q];simp⟩⟩
def Un.refl:Un fs ex H H h h:=Un.kept λ_ _ q=>q
def Un.laid(k:∀b u,h.get? b=some u->h'.get? b=some u)(hp:h.objs.size<=a)(hn:H a=none):Un fs ex H (upd H a o) h h' where
 keep:=λb u q _ _ _=>k b u q
 slot:=λb u q _ _ _=>⟨u.slots,k b u q⟩
 free:=λb u q n _=>by rw[cZ (ly (iG (fG q) hp))];exact n
 there:=λb u q _=>⟨u,k b u q⟩
 mM:=λb xs q=>by rw[cZ (mz q hn)];exact q
 lM:=λb u xs q=>by rw[cZ (mz q hn)];exact q
 mL:=λb ps q=>⟨#[],by rw[cZ (mz q hn),q];simp⟩
def Un.write(mu:AW (H x))(he:e=x\/H e=some (.own x))(k:∀b u,b≠e->h.get? b=some u->h'.get? b=some u)(zQ:∃u,h'.get? e=some u):Un fs ex H (upd H x o) h h':=by
 have hx:∀b,H b=none->b≠x:=λb n z=>by subst z;rw[n] at mu;exact mu
 have hb:∀b,H b=none->b≠e:=λb n z=>by
  subst z;rcases he with r|r
  .exact hx b n r
  .rw[n] at r;cases r
 have hm:∀b u,H b=some u->¬AW (some u)->b≠x:=λb u q nm z=>by subst z;rw[q] at mu;exact nm mu
 refine⟨λb u q n _ _=>k b u (hb b n) q,λb u q n _ _=>⟨u.slots,k b u (hb b n) q⟩,λb u q n _=>by rw[cZ (hx b n)];exact n,λb u q _=>?_,
  λb xs q=>by rw[cZ (hm b _ q λz=>z)];exact q,λb u xs q=>by rw[cZ (hm b _ q λz=>z)];exact q,λb ps q=>⟨#[],by rw[cZ (hm b _ q λz=>z),q];simp⟩⟩
 by_cases ym:b=e
 .subst ym;exact zQ
 .exact⟨u,k b u ym q⟩
end
def HJ(h:Heap)(H:Hp):List Addr:=(List.range h.objs.size).filter λa=>(H a).isSome
def mG(h:Heap)(H:Hp):Heap:=PySem.W.hideAll h (HJ h H)
def U'(h:Heap)(H:Hp):(mG h H).objs.size=h.objs.size:=PySem.W.hideAll_size _ _
def Wg{h:Heap}{H:Hp}{b:Addr}{o:Obj}(e:h.get? b=some o)(n:H b=none):(mG h H).get? b=some o:=
 PySem.W.hideAll_get _ e λhm=>by
  have q:(H b).isSome=true:=(jB.mp hm).2;rw[n] at q;simp at q
def XR{h:Heap}{H:Hp}{b:Addr}{o:Obj}(e:(mG h H).get? b=some o):h.get? b=some o/\H b=none:=by
 have e':h.get? b=some o:=PySem.W.of_hideAll (HJ h H) e;refine⟨e',?_⟩;cases q:H b with
 |none=>rfl
 |some x=>
  have hm:b∈HJ h H:=jB.mpr ⟨oz.mpr (fG e'),by simp[q]⟩
  have z:(mG h H).get? b=none:=PySem.W.hideAll_none (HJ h H) hm;rw[z] at e;cases e
def XS(g h:Heap)(L:Addr):List (Addr×Obj):=(List.range h.objs.size).filterMap λa=>if a=L\/(g.get? a).isSome=true then none else(h.get? a).map λo=>(a,o)
def rest(g h:Heap)(L d:Addr):List (Addr×Obj):=(XS g h L).filter λp=>decide (p.1≠d)
structure Mod (K:FG) (mg:Str->Option Value) (base:Heap):Prop where
 LV:K.In base
 glob:base.Ns mainGlobals mg
 blt:∃mb,base.Ns builtinsNs mb/\∀x:Str,x≠"__name__"->mb x=bootBuiltins x
 nolimit:base.NoLimit
set_option genInjectivity false in
structure Cx where
 prog:Program
 w:World
 K:FG
 mg:Str->Option Value
 base:Heap
 A:Around
 N:List Str
 s₀:Shared
 H₀:Hp
 env:Env
 outer:List Env
 stack:List Env
 ex:List Addr
 fn:Str->Bool
 calm:Bool
 pn:List (Addr×Obj)
 xe:Value->Shared->Prop
def rj(l:List Env):List Addr:=l.filterMap (·.frame)
abbrev Cx.fs(X:Cx):List Addr:=rj X.outer
def EY(sc:Scope)(x:Str):Prop:=sc.names.lookup x=some .local \/ sc.names.lookup x=some .cell\/sc.names.lookup x=some .free
def Loc(sc:Scope)(x:Str):Prop:=sc.names.lookup x=some .local \/ sc.names.lookup x=some .cell
def Look(env:Env)(h:Heap)(m:Str->Option Value)(x:Str)(u:Value):Prop:=
 (env.kindOf x=some .local /\ m x=some u)\/((env.kindOf x=some .cell\/env.kindOf x=some .free)/\∃c,env.cells.lookup x=some c/\h.IsCell c (some u))
structure Cx.Ok (X:Cx):Prop where
 mod:Mod X.K X.mg X.base
 kind:X.env.scope.kind=.function
 glob:X.env.globals=mainGlobals
 blt:X.env.builtins=builtinsNs
 above:X.s₀.heap.objs.size<=X.env.locals
 inj:∀x y c,X.env.cells.lookup x=some c->X.env.cells.lookup y=some c->x=y
 has:∀x,(X.env.kindOf x=some .cell\/X.env.kindOf x=some .free)->∃c,X.env.cells.lookup x=some c
 B_:∀x c,X.fn x=true->X.env.cells.lookup x=some c->X.s₀.heap.objs.size<=c
 hd:X.calm=true->X.A.handled=none
 frames:X.A.frames=some X.stack
 HE:X.stack=X.outer\/(X.stack=X.env::X.outer/\X.env.frame=some X.env.locals)
 Sj:∀b∈X.ex,b≠X.env.locals/\∀x c,X.env.cells.lookup x=some c->c≠b
 bs:∀b o,X.base.get? b=some o->X.s₀.heap.get? b=some o/\X.H₀ b=none
 wm:X.base.objs.size<=X.s₀.heap.objs.size
 sU:∀b o,X.base.get? b=some o->b∉X.ex
 uZ:∀b∈X.ex,b∉X.fs
 kL:X.s₀.heap.FunFrames X.base X.outer
 zL:∀b∈X.fs,X.H₀ b=none
structure Inv (X:Cx) (ae:List (Addr×Obj)) (Z:List (Option V)) (H:Hp) (s:Shared):Prop where
 ok:X.Ok
 os:s.os=X.s₀.os
 bare:AllBare s.gens
 base:Un X.fs X.ex X.H₀ H X.s₀.heap s.heap
 loc:∃m,s.heap.Ns X.env.locals m/\∀(i:Nat) (x:Str) (v:V),X.N[i]?=some x->Z[i]?=some (some v)->EY X.env.scope x->∃u,RelV v u/\Look X.env s.heap m x u
 cell:∀x c,X.env.cells.lookup x=some c->∃v,s.heap.IsCell c v
 free:H X.env.locals=none
 ic:∀x c,X.env.cells.lookup x=some c->H c=none
 pin:∀p∈X.pn++ae,s.heap.get? p.1=some p.2/\H p.1=none/\p.1≠X.env.locals/\p.1∉X.fs/\∀v,p.2.data≠.cell v
 cV:kD X.prog X.w H s.heap
 len:Z.length=X.N.length
section
variable{X:Cx}{ae:List (Addr×Obj)}{Z:List (Option V)}{H H':Hp}{s:Shared}{h':Heap}
def Cx.Ok.Md(ok:X.Ok){b:Addr}{o:Obj}(e:X.base.get? b=some o):b∉X.fs:=λhb=>by
 have:=(ok.kL.mem hb).1;rw[e] at this;cases this
theorem Inv.bs(I:Inv X ae Z H s):∀b o,X.base.get? b=some o->s.heap.get? b=some o/\H b=none:=λb o e=>
 ⟨I.base.keep b o (I.ok.bs b o e).1 (I.ok.bs b o e).2 (I.ok.Md e) (I.ok.sU b o e),I.base.free b o (I.ok.bs b o e).1 (I.ok.bs b o e).2 (I.ok.sU b o e)⟩
def Inv.bk(I:Inv X ae Z H s):∀b o,X.base.get? b=some o->s.heap.get? b=some o:=λb o e=>(I.bs b o e).1
theorem Inv.mod(I:Inv X ae Z H s):Mod X.K X.mg X.base:=I.ok.mod
def Inv.zY(I:Inv X ae Z H s):X.K.In s.heap:=I.ok.mod.LV.keeps I.bk
theorem Inv.lt(I:Inv X ae Z H s):X.env.locals<s.heap.objs.size:=let ⟨_,hn,_⟩:=I.loc;hn.lt
def Inv.sz(I:Inv X ae Z H s):X.s₀.heap.objs.size<=s.heap.objs.size:=lT I.ok.above (Nat.le_of_lt I.lt)
def Inv.yC(I:Inv X ae Z H s){a:Addr}(h:s.heap.objs.size<=a):a∉X.fs:=λhb=>by
 obtain⟨_,o,ho,_⟩:=I.ok.kL.mem hb;exact bQ (iG (fG ho) (lT I.sz h)) (pF _)
def Inv.yd(I:Inv X ae Z H s):∀x c,X.env.cells.lookup x=some c->c≠X.env.locals:=λx c e z=>by
 obtain⟨v,o,ho,hd⟩:=I.cell x c e;obtain⟨m,⟨o',es,ep,sJ,Dl,_⟩,_⟩:=I.loc;rw[z,sJ] at ho;cases ho;rw[Dl] at hd;cases hd
theorem Inv.kL(I:Inv X ae Z H s):s.heap.FunFrames X.base X.outer:=by
 have all:∀(l:List Env),(∀b∈rj l,b∈X.fs)->X.s₀.heap.FunFrames X.base l->s.heap.FunFrames X.base l:=by
  intro l
  induction l with
  |nil=>intro _ _;trivial
  |cons env r ih=>
   intro hs hl;obtain⟨hk,⟨L,o,hf,hn,ho,hd⟩,hr⟩:=hl;have hL:L∈X.fs:=hs L (by unfold rj;rw[yV,hf];exact mW)
   obtain⟨sl,e⟩:=I.base.slot L o ho (I.ok.zL L hL) hL λz=>I.ok.uZ L z hL
   exact⟨hk,⟨L,_,hf,hn,e,hd⟩,ih (λb hb=>hs b (by unfold rj;rw[yV,hf];exact oA _ hb)) hr⟩
 exact all X.outer (λ_ hb=>hb) I.ok.kL
def Inv.stack(I:Inv X ae Z H s):s.heap.FunFrames X.base X.stack:=by
 rcases I.ok.HE with e|⟨e,hf⟩
 .rw[e];exact I.kL
 .rw[e];obtain⟨m,hn,_⟩:=I.loc;refine .cons (by rw[I.ok.kind];decide) hf hn ?_ I.kL
  exact Heap.get?_none_of_le (lT I.ok.wm I.ok.above)
def Inv.kW(I:Inv X ae Z H s):∀b∈rj X.stack,b∈X.env.locals::X.fs:=λb hb=>by
 rcases I.ok.HE with e|⟨e,hf⟩
 .rw[e] at hb;exact oA _ hb
 .rw[e] at hb;unfold rj at hb;rw[yV,hf] at hb;exact hb
def Inv.qj(I:Inv X ae Z H s):∀b∈rj X.stack,H b=none:=λb hb=>by
 rcases eC.mp (I.kW b hb) with e|hb
 .rw[e];exact I.free
 .obtain⟨_,o,ho,_⟩:=I.ok.kL.mem hb;exact I.base.free b o ho (I.ok.zL b hb) λz=>I.ok.uZ b z hb
def Inv.step{g':Array GenState}{t':Nat}{d':Drawn}{ch:List Addr}(I:Inv X ae Z H s)
  (rq:∀b∈ch,(b∈X.ex\/X.s₀.heap.objs.size<=b)/\b≠X.env.locals/\(∀x c,X.env.cells.lookup x=some c->c≠b)/\∀p∈X.pn++ae,p.1≠b)
  (keep:∀b o,b≠X.env.locals->b∉X.fs->b∉ch->s.heap.get? b=some o->H b=none->h'.get? b=some o)
  (slot:∀b o,b≠X.env.locals->b∈X.fs->b∉ch->s.heap.get? b=some o->H b=none->∃sl,h'.get? b=some { o with slots:=sl}) (free:∀b o,b∉ch->s.heap.get? b=some o->H b=none->H' b=none)
  (there:∀b o,b∉ch->s.heap.get? b=some o->∃o',h'.get? b=some o')
  (mM:∀b xs,H b=some (.tup xs)->H' b=some (.tup xs)) (lM:∀b o u,H b=some (.Y o u)->H' b=some (.Y o u)) (mL:∀b ps,H b=some (.yT ps)->∃more,H' b=some (.yT (ps++more)))
  (ns:∀m,s.heap.Ns X.env.locals m->h'.Ns X.env.locals m) (cV:kD X.prog X.w H' h') (hg:AllBare g') :
  Inv X ae Z H' { s with heap:=h',gens:=g',drawn:=d',toks:=t'}:=by
 have S7:∀b o,X.s₀.heap.get? b=some o->b≠X.env.locals:=λb o e=>ly (iG (fG e) I.ok.above)
 have Hx:∀b o,X.s₀.heap.get? b=some o->b∉X.ex->b∉ch:=λb o e hx hb=>by
  rcases(rq b hb).1 with z|z
  .exact hx z
  .exact bQ (iG (fG e) z) (pF _)
 have cellK:∀x c,X.env.cells.lookup x=some c->∀v,s.heap.IsCell c v->h'.IsCell c v:=λx c e v ⟨o,ho,hd⟩=>by
  have DJ:c∉ch:=λz=>(rq c z).2.2.1 x c e rfl
  by_cases hc:c∈X.fs
  .obtain⟨sl,q⟩:=slot c o (I.yd x c e) hc DJ ho (I.ic x c e);exact⟨_,q,hd⟩
  .exact⟨o,keep c o (I.yd x c e) hc DJ ho (I.ic x c e),hd⟩
 refine⟨I.ok,I.os,hg,⟨λb o e n hb hx=>?_,λb o e n hb hx=>?_,λb o e n hx=>?_,λb o e hx=>?_,λb xs e=>mM b xs (I.base.mM b xs e),λb o xs e=>lM b o xs (I.base.lM b o xs e),λb ps e=>?_⟩,?_,λx c e=>?_,?_,λx c e=>?_,λp hp=>?_,cV,I.len⟩
 .exact keep b o (S7 b o e) hb (Hx b o e hx) (I.base.keep b o e n hb hx) (I.base.free b o e n hx)
 .obtain⟨sl,e1⟩:=I.base.slot b o e n hb hx;obtain⟨sl',e2⟩:=slot b _ (S7 b o e) hb (Hx b o e hx) e1 (I.base.free b o e n hx);exact⟨sl',e2⟩
 .obtain⟨o',e1⟩:=I.base.there b o e hx;exact free b o' (Hx b o e hx) e1 (I.base.free b o e n hx)
 .obtain⟨o',e1⟩:=I.base.there b o e hx;exact there b o' (Hx b o e hx) e1
 .obtain⟨m1,e1⟩:=I.base.mL b ps e;obtain⟨m2,e2⟩:=mL b _ e1;exact⟨m1++m2,by rw[e2,Array.append_assoc]⟩
 .obtain⟨m,hn,hl⟩:=I.loc;refine⟨m,ns m hn,λi x v e1 e2 e3=>?_⟩
  obtain⟨u,r,l⟩:=hl i x v e1 e2 e3;refine⟨u,r,?_⟩;rcases l with l|⟨k,c,e,z⟩
  .exact .inl l
  .exact .inr ⟨k,c,e,cellK x c e _ z⟩
 .obtain⟨v,z⟩:=I.cell x c e;exact⟨v,cellK x c e v z⟩
 .obtain⟨m,⟨o,_,_,ho,_⟩,_⟩:=I.loc;exact free _ o (λz=>(rq _ z).2.1 rfl) ho I.free
 .obtain⟨v,o,ho,hd⟩:=I.cell x c e;exact free c o (λz=>(rq c z).2.2.1 x c e rfl) ho (I.ic x c e)
 .obtain⟨e,n,ne,nf,d⟩:=I.pin p hp;have DJ:p.1∉ch:=λz=>(rq p.1 z).2.2.2 p hp rfl
  exact⟨keep p.1 p.2 ne nf DJ e n,free p.1 p.2 DJ e n,ne,nf,d⟩
def Inv.un{t':Nat}(I:Inv X ae Z H s)(u:Un X.fs [] H H' s.heap h')(cV:kD X.prog X.w H' h'):Inv X ae Z H' { s with heap:=h',toks:=t'}:=by
 obtain⟨m,⟨o,es,ep,ho,r⟩,_⟩:=id I.loc;obtain⟨sl,hL⟩:=u.any ho I.free (by simp)
 exact I.step (g':=s.gens) (d':=s.drawn) (ch:=[]) (λ_ z=>nomatch z) (λb o _ hb _ e n=>u.keep b o e n hb (by simp)) (λb o _ hb _ e n=>u.slot b o e n hb (by simp)) (λb o _ e n=>u.free b o e n (by simp)) (λb o _ e=>u.there b o e (by simp)) u.mM u.lM u.mL (λm' hm=>by
  obtain⟨o',es',yh,sJ,r'⟩:=hm;rw[ho] at sJ;cases sJ;exact⟨_,es',yh,hL,r'⟩) cV I.bare
def Inv.call{g':Array GenState}{t':Nat}{d':Drawn}{ch:List Addr}(I:Inv X ae Z H s)(u:Un (rj X.stack) ch H H' s.heap h')(cV:kD X.prog X.w H' h')(hg:AllBare g')
  (rq:∀b∈ch,(b∈X.ex\/X.s₀.heap.objs.size<=b)/\b≠X.env.locals/\(∀x c,X.env.cells.lookup x=some c->c≠b)/\∀p∈X.pn++ae,p.1≠b) :
  Inv X ae Z H' { s with heap:=h',gens:=g',drawn:=d',toks:=t'}:=by
 obtain⟨m,⟨o,es,ep,ho,r⟩,_⟩:=id I.loc;obtain⟨sl,hL⟩:=u.any ho I.free λz=>(rq _ z).2.1 rfl
 exact I.step (ch:=ch) rq (λb o hL hb hc e n=>u.keep b o e n (λz=>(eC.mp (I.kW b z)).elim hL hb) hc) (λb o _ _ hc e n=>u.any e n hc) (λb o hc e n=>u.free b o e n hc) (λb o hc e=>u.there b o e hc) u.mM u.lM u.mL (λm' hm=>by
  obtain⟨o',es',yh,sJ,r'⟩:=hm;rw[ho] at sJ;cases sJ;exact⟨_,es',yh,hL,r'⟩) cV hg
def Inv.turned{t':Nat}{it:Addr}(I:Inv X ae Z H s)(k:∀b o,b≠it->s.heap.get? b=some o->h'.get? b=some o)(hn:H it=none)(hL:it≠X.env.locals)
  (h1:it∈X.ex\/X.s₀.heap.objs.size<=it) (h2:∀x c,X.env.cells.lookup x=some c->c≠it) (h3:∀p∈X.pn++ae,p.1≠it):Inv X ae Z H { s with heap:=h',toks:=t'}:=by
 have S8:∀b u,H b=some u->b≠it:=λb u e z=>by rw[z,hn] at e;cases e
 refine I.step (g':=s.gens) (d':=s.drawn) (ch:=[it]) (λb hb=>?_) (λb o _ _ hc e _=>k b o (λz=>hc (by simp[z])) e) (λb o _ _ hc e _=>⟨o.slots,k b o (λz=>hc (by simp[z])) e⟩) (λ_ _ _ _ n=>n)
  (λb o hc e=>⟨o,k b o (λz=>hc (by simp[z])) e⟩) (λ_ _ e=>e) (λ_ _ _ e=>e) (λb ps e=>⟨#[],by rw[e];simp⟩) (λm hm=>?_) (λb u e=>?_) I.bare
 .have e:b=it:=by simpa using hb
  subst e;exact⟨h1,hL,h2,h3⟩
 .obtain⟨o,es,ep,ho,r⟩:=hm;exact⟨o,es,ep,k _ o (Ne.symm hL) ho,r⟩
 .refine(I.cV b u e).ot (λc v hc q=>k c v ?_ q) (λ_ q=>q) λ_ _ q=>q
  rcases hc with z|z
  .rw[z];exact S8 b u e
  .exact S8 c _ z
def Inv.tok(I:Inv X ae Z H s)(t:Nat):Inv X ae Z H { s with toks:=t}:=I.un (h':=s.heap) (t':=t) Un.refl I.cV
theorem Inv.kept{t':Nat}(I:Inv X ae Z H s)(k:∀b u,s.heap.get? b=some u->h'.get? b=some u):Inv X ae Z H { s with heap:=h',toks:=t'}:=I.un (Un.kept k) (I.cV.kept k)
theorem Inv.laid{a:Addr}{o:HO}{t':Nat}(I:Inv X ae Z H s)(k:∀b u,s.heap.get? b=some u->h'.get? b=some u)(hp:s.heap.objs.size<=a)(new:cw X.prog X.w (upd H a o) h' a o):
  Inv X ae Z (upd H a o) { s with heap:=h',toks:=t'}:=I.un (Un.laid k hp (I.cV.fresh hp)) (I.cV.laid k hp new)
theorem Inv.write{x e:Addr}{o:HO}{t':Nat}(I:Inv X ae Z H s)(mu:AW (H x))(he:e=x\/H e=some (.own x))(k:∀b u,b≠e->s.heap.get? b=some u->h'.get? b=some u)(zQ:∃u,h'.get? e=some u)
  (new:cw X.prog X.w (upd H x o) h' x o):Inv X ae Z (upd H x o) { s with heap:=h',toks:=t'}:=I.un (Un.write mu he k zQ) (I.cV.write mu he k zQ new)
def Inv.ko{wW:List (Addr×Obj)}(I:Inv X ae Z H s)(h:∀p∈wW,s.heap.get? p.1=some p.2/\H p.1=none/\p.1≠X.env.locals/\p.1∉X.fs/\∀v,p.2.data≠.cell v):Inv X wW Z H s:=
 ⟨I.ok,I.os,I.bare,I.base,I.loc,I.cell,I.free,I.ic,λp hp=>(eI.mp hp).elim (λz=>I.pin p (jN _ z)) (h p),I.cV,I.len⟩
def OM{N:List Str}(hN:N.Nodup){i j:Nat}{x:Str}(a:N[i]?=some x)(b:N[j]?=some x):i=j:=by
 obtain⟨h1,e1⟩:=eO.mp a;obtain⟨h2,e2⟩:=eO.mp b;exact(List.getElem_inj hN).mp (e1.trans e2.symm)
def NW{M:Model}{A:Around}{E:Value->Shared->Prop}{i:Nat}{x:Str}{v:V}{u:Value}{Q:Unit->Shared->Prop}(I:Inv X ae Z H s)(hN:X.N.Nodup)(hi:X.N[i]?=some x)(hx:Loc X.env.scope x)(r:RelV v u)
  (h:∀s',Inv X ae (Z.set i (some v)) H s'->(∃a,Heap.SameBut a s.heap s'.heap/\(a=X.env.locals\/X.env.cells.lookup x=some a))->Q () s') (hf:X.fn x=true\/X.env.scope.names.lookup x=some .local := by first|exact .inl rfl|exact .inr rfl|assumption):wpAny M A (storeName X.env x u) Q E s:=by
 obtain⟨m,hn,hl⟩:=id I.loc;have Lp:(X.env.scope.kind == .class || (X.env.scope.kind == .module&&X.env.locals != X.env.globals))=false:=by rw[I.ok.kind];rfl
 have SH:i<Z.length:=by rw[I.len];exact(eO.mp hi).1
 have yd:=I.yd;have tracked:∀{a:Addr} {h':Heap},(∃o,s.heap.get? a=some o/\H a=none)->Heap.SameBut a s.heap h'->kD X.prog X.w H h':=λ{a h'} ha hs b ob e=>by
  obtain⟨_,_,wF⟩:=ha;refine(I.cV b ob e).ot (λc w' hc q=>(hs.2 c ?_).trans q) (λ_ q=>q) λ_ _ q=>q
  rintro rfl;rcases hc with rfl|hc
  .rw[wF] at e;cases e
  .rw[wF] at hc;cases hc
 rcases hx with hk|hk
 .refine wpAny_storeName_local hk hn (λh' LD hs=>?_) Lp
  obtain⟨oL,_,_,hoL,_⟩:=id hn;refine h _ ⟨I.ok,I.os,I.bare,⟨λb o e n hb hx=>?_,λb o e n hb hx=>?_,I.base.free,λb o e hx=>?_,I.base.mM,I.base.lM,I.base.mL⟩,⟨_,LD,λj y v' e1 e2 e3=>?_⟩,λy c e=>?_,I.free,I.ic,λp hp=>?_,tracked ⟨oL,hoL,I.free⟩ hs,by simpa using I.len⟩ ⟨_,hs,.inl rfl⟩
  .exact(hs.2 b (ly (iG (fG e) I.ok.above))).trans (I.base.keep b o e n hb hx)
  .obtain⟨sl,e1⟩:=I.base.slot b o e n hb hx;exact⟨sl,(hs.2 b (ly (iG (fG e) I.ok.above))).trans e1⟩
  .obtain⟨o',e1⟩:=I.base.there b o e hx;exact⟨o',(hs.2 b (ly (iG (fG e) I.ok.above))).trans e1⟩
  .by_cases hj:j=i
   .subst hj;rw[hi] at e1;cases e1;rw[List.getElem?_set_self SH] at e2;cases e2;exact⟨u,r,.inl ⟨hk,by simp⟩⟩
   .rw[EB (Ne.symm hj)] at e2;obtain⟨u',r',q⟩:=hl j y v' e1 e2 e3;refine⟨u',r',?_⟩;rcases q with⟨k,e⟩|⟨k,c,e,z⟩
    .refine .inl ⟨k,?_⟩;have:y≠x:=λe=>hj (OM hN e1 (e ▸ hi))
     simp[this,e]
    .exact .inr ⟨k,c,e,z.sameBut hs (yd y c e)⟩
  .obtain⟨w',z⟩:=I.cell y c e;exact⟨w',z.sameBut hs (yd y c e)⟩
  .obtain⟨e,n,ne,nf,d⟩:=I.pin p hp;exact⟨(hs.2 p.1 ne).trans e,n,ne,nf,d⟩
 .have Lu:X.fn x=true:=by
   rcases hf with z|z
   .exact z
   .rw[z] at hk;cases hk
  obtain⟨c,hc⟩:=I.ok.has x (.inl hk);obtain⟨w',z⟩:=I.cell x c hc;refine wpAny_storeName_cell I.ok.kind hk hc z (λh' yn hs=>?_)
  obtain⟨oc,Hk,LH⟩:=id z;refine h { s with heap:=h'} ⟨I.ok,I.os,I.bare,⟨λb o e n hb hx=>?_,λb o e n hb hx=>?_,I.base.free,λb o e hx=>?_,I.base.mM,I.base.lM,I.base.mL⟩,⟨m,hn.sameBut hs (Ne.symm (yd x c hc)),λj y v' e1 e2 e3=>?_⟩,λy c' e=>?_,I.free,I.ic,λp hp=>?_,tracked ⟨oc,Hk,I.ic x c hc⟩ hs,by simpa using I.len⟩ ⟨c,hs,.inr hc⟩
  .exact(hs.2 b (ly (iG (fG e) (I.ok.B_ x c Lu hc)))).trans (I.base.keep b o e n hb hx)
  .obtain⟨sl,e1⟩:=I.base.slot b o e n hb hx;exact⟨sl,(hs.2 b (ly (iG (fG e) (I.ok.B_ x c Lu hc)))).trans e1⟩
  .obtain⟨o',e1⟩:=I.base.there b o e hx;exact⟨o',(hs.2 b (ly (iG (fG e) (I.ok.B_ x c Lu hc)))).trans e1⟩
  .by_cases hj:j=i
   .subst hj;rw[hi] at e1;cases e1;rw[List.getElem?_set_self SH] at e2;cases e2;exact⟨u,r,.inr ⟨.inl hk,c,hc,yn⟩⟩
   .rw[EB (Ne.symm hj)] at e2;obtain⟨u',r',q⟩:=hl j y v' e1 e2 e3;refine⟨u',r',?_⟩;rcases q with q|⟨k,c',e,z'⟩
    .exact .inl q
    .refine .inr ⟨k,c',e,z'.sameBut hs ?_⟩;rintro rfl;exact hj (OM hN e1 (I.ok.inj _ _ _ e hc ▸ hi))
  .by_cases SA:c'=c
   .subst SA;exact⟨_,yn⟩
   .obtain⟨w2,z2⟩:=I.cell y c' e;exact⟨w2,z2.sameBut hs SA⟩
  .obtain⟨e,n,ne,nf,d⟩:=I.pin p hp;refine⟨(hs.2 p.1 ?_).trans e,n,ne,nf,d⟩;intro q;rw[q,Hk] at e;have q':oc=p.2:=Option.some.inj e;exact d w' (by rw[<-q'];exact LH)
def ON{M:Model}{A:Around}{E:Value->Shared->Prop}{i:Nat}{x:Str}{v:V}{u:Value}{Q:Unit->Shared->Prop}(I:Inv X ae Z H s)(hN:X.N.Nodup)(hi:X.N[i]?=some x)(hx:Loc X.env.scope x)(r:RelV v u)
  (h:∀s',Inv X ae (Z.set i (some v)) H s'->Q () s') (hf:X.fn x=true\/X.env.scope.names.lookup x=some .local := by first|exact .inl rfl|exact .inr rfl|assumption):wpAny M A (storeName X.env x u) Q E s:=
 NW I hN hi hx r (λs' I' _=>h s' I') hf
def Inv.Ca{s':Shared}{ch:List Addr}(I:Inv X ae Z H s)(ho:s'.os=s.os)(u:Un (rj X.stack) ch H H' s.heap s'.heap)(cV:kD X.prog X.w H' s'.heap)(hg:AllBare s'.gens)
  (rq:∀b∈ch,(b∈X.ex\/X.s₀.heap.objs.size<=b)/\b≠X.env.locals/\(∀x c,X.env.cells.lookup x=some c->c≠b)/\∀p∈X.pn++ae,p.1≠b):Inv X ae Z H' s':=by
 obtain⟨h',g',d',t',o'⟩:=s';have e:o'=s.os:=ho;subst e;exact I.call (g':=g') (t':=t') (d':=d') u cV hg rq
end
abbrev XK:=Value->Option Addr->Hp->Prop
abbrev St:=List (Option V)
abbrev VK:=V->Hp->Prop
abbrev TE:=St->Hp->VK->Prop
abbrev TT:=St->Hp->(Bool->Hp->Prop)->Prop
abbrev TA:=St->Hp->(List V->Hp->Prop)->Prop
set_option genInjectivity false in
structure Ends where
 nx:St->Hp->Prop
 rt:VK
 bk:St->Hp->Prop:=λ_ _=>False
 ct:St->Hp->Prop:=λ_ _=>False
abbrev TS:=Ends->St->Hp->Prop
def EP(X:Cx)(ae:List (Addr×Obj))(Z:St)(Q:VK)(u:Value)(s':Shared):Prop:=∃v H',Inv X ae Z H' s'/\RelV v u/\Q v H'
def TP(X:Cx)(ae:List (Addr×Obj))(Z:St)(Q:Bool->Hp->Prop)(b:Bool)(s':Shared):Prop:=∃H',Inv X ae Z H' s'/\Q b H'
def AP(X:Cx)(ae:List (Addr×Obj))(Z:St)(Q:List V->Hp->Prop)(us:List Value)(s':Shared):Prop:=∃vs H',Inv X ae Z H' s'/\Vals vs us/\Q vs H'
def SP(X:Cx)(ae:List (Addr×Obj))(D:Ends)(f:Flow)(s':Shared):Prop:=
 match f with
 |.next=>∃Z' H',Inv X ae Z' H' s'/\D.nx Z' H'
 |.brk=>∃Z' H',Inv X ae Z' H' s'/\D.bk Z' H'
 |.cont=>∃Z' H',Inv X ae Z' H' s'/\D.ct Z' H'
 |.ret u=>∃v Z' H',Inv X ae Z' H' s'/\RelV v u/\D.rt v H'
def PE(X:Cx)(e:Expr)(t:TE):Prop:=
 ∀(ae:List (Addr×Obj)) (s:Shared) (Z:St) (H:Hp) (Q:VK),Inv X ae Z H s->t Z H Q->wpAny (model X.prog X.w) X.A (eval e X.env) (EP X ae Z Q) X.xe s
def PT(X:Cx)(e:Expr)(t:TT):Prop:=
 ∀(ae:List (Addr×Obj)) (s:Shared) (Z:St) (H:Hp) (Q:Bool->Hp->Prop),Inv X ae Z H s->t Z H Q->wpAny (model X.prog X.w) X.A (isTrue e X.env (eval e X.env)) (TP X ae Z Q) X.xe s
def PW(X:Cx)(e:Expr)(t:TT):Prop:=
 ∀(whole:Sem Value) (ae:List (Addr×Obj)) (s:Shared) (Z:St) (H:Hp) (Q:Bool->Hp->Prop),Inv X ae Z H s->t Z H Q->wpAny (model X.prog X.w) X.A (isTrue e X.env whole) (TP X ae Z Q) X.xe s
def PW.pt{X:Cx}{e:Expr}{t:TT}(h:PW X e t):PT X e t:=h _
def PA(X:Cx)(es:List Expr)(t:TA):Prop:=
 ∀(pos:Pos) (ae:List (Addr×Obj)) (s:Shared) (Z:St) (H:Hp) (Q:List V->Hp->Prop),Inv X ae Z H s->t Z H Q->wpAny (model X.prog X.w) X.A (spliced (backTo pos (starEach es X.env))) (AP X ae Z Q) X.xe s
def PS(X:Cx)(st:Stmt)(t:TS):Prop:=
 ∀(ae:List (Addr×Obj)) (s:Shared) (Z:St) (H:Hp) (D:Ends),Inv X ae Z H s->t D Z H->wpAny (model X.prog X.w) X.A (exec st X.env) (SP X ae D) X.xe s
def iy(X:Cx)(st:List Stmt)(t:TS):Prop:=
 ∀(ae:List (Addr×Obj)) (s:Shared) (Z:St) (H:Hp) (D:Ends),Inv X ae Z H s->t D Z H->wpAny (model X.prog X.w) X.A (execs st X.env) (SP X ae D) X.xe s
def cB{α:Type}{t:Sem α}{Q Q':α->Shared->Prop}{M:Model}{A:Around}{E:Value->Shared->Prop}{s:Shared}(h:wpAny M A t Q E s)(hQ:∀a s,Q a s->Q' a s):wpAny M A t Q' E s:=wpAny_mono h hQ λ_ _ x=>x
section
variable{X:Cx}
def qN(i:Nat):TE:=λZ H Q=>∃v,Z[i]?=some (some v)/\Q v H
def tC(v:V):TE:=λ_ H Q=>Q v H
def ZO{i:Nat}{x:Str}{pos:Pos}(hN:X.N[i]?=some x)(hv:EY X.env.scope x)(hd:(x == ("__debug__":Str))=false:=by decide)(qE:(x == ("__classdict__":Str))=false:=by decide):PE X (.Name x pos) (qN i):=by
 intro ae s Z H Q I h;obtain⟨v,e,h⟩:=h;obtain⟨m,hn,hl⟩:=I.loc;obtain⟨u,r,l⟩:=hl i x v hN e hv;have fin:EP X ae Z Q u s:=⟨v,H,I,r,h⟩;rcases l with⟨hk,hm⟩|⟨hk,c,hc,p8⟩
 .exact wpAny_Name (wpAny_loadName_local I.ok.kind hk hn hm fin) hd
 .rcases hk with hk|hk
  .exact wpAny_Name (wpAny_loadName_cell I.ok.kind hk hc p8 fin) hd
  .exact wpAny_Name (wpAny_loadName_free I.ok.kind hk hc p8 fin qE) hd
def Gn{i j pos}:PE X (.Constant (.int i) j pos) (tC (.int i)):=λ_ _ _ H _ I h=>wpAny_Constant_int ⟨.int i,H,I.tok _,⟨_,rfl⟩,h⟩
def oZ{b j pos}:PE X (.Constant (.bool b) j pos) (tC (.bl b)):=λ_ _ _ H _ I h=>Constant_bool ⟨.bl b,H,I,rfl,h⟩
def JS{j pos}:PE X (.Constant .none j pos) (tC .bH):=λ_ _ _ H _ I h=>Constant_none ⟨.bH,H,I,rfl,h⟩
def uc{x j pos}:PE X (.Constant (.str x) j pos) (tC (.str x)):=λ_ _ _ H _ I h=>Calls.Constant_str ⟨.str x,H,I.tok _,⟨_,rfl⟩,h⟩
def Gl(X:Cx)(x:Str):Prop:=X.env.kindOf x=some .globalImplicit
def Pz{E:Value->Shared->Prop}{ae:List (Addr×Obj)}{s:Shared}{Z:St}{H:Hp}{x:Str}{u:Value}{pos:Pos}{Q:Value->Shared->Prop}(I:Inv X ae Z H s)(hg:Gl X x)(hm:X.mg x=some u)(h:Q u s)
  (hd:(x == ("__debug__":Str))=false:=by decide):wpAny (model X.prog X.w) X.A (eval (.Name x pos) X.env) Q E s:=
 Calls.Name_function_global I.ok.kind hg (Calls.loadGlobal_global (by rw[I.ok.glob];exact I.mod.glob.keeps I.bk) hm h) hd
def v5{E:Value->Shared->Prop}{ae:List (Addr×Obj)}{s:Shared}{Z:St}{H:Hp}{x:Str}{u:Value}{pos:Pos}{Q:Value->Shared->Prop}(I:Inv X ae Z H s)(hg:Gl X x)(hm:X.mg x=none)(hv:bootBuiltins x=some u)(h:Q u s)
  (hn:x≠"__name__":=by decide) (hd:(x == ("__debug__":Str))=false:=by decide):wpAny (model X.prog X.w) X.A (eval (.Name x pos) X.env) Q E s:=by
 obtain⟨mb,h1,h2⟩:=I.mod.blt;exact Calls.Name_function_global I.ok.kind hg (Calls.loadGlobal_builtin (by rw[I.ok.glob];exact I.mod.glob.keeps I.bk) hm (by rw[I.ok.blt];exact h1.keeps I.bk) ((h2 x hn).trans hv) h) hd
def XT{x:Str}{v:V}{u:Value}{pos:Pos}(hg:Gl X x)(hm:X.mg x=some u)(r:RelV v u)(hd:(x == ("__debug__":Str))=false:=by decide):PE X (.Name x pos) (tC v):=
 λ_ _ _ H _ I h=>Pz I hg hm ⟨v,H,I,r,h⟩ hd
def XU{x:Str}{v:V}{u:Value}{pos:Pos}(hg:Gl X x)(hm:X.mg x=none)(hv:bootBuiltins x=some u)(r:RelV v u)(hn:x≠"__name__":=by decide)(hd:(x == ("__debug__":Str))=false:=by decide):PE X (.Name x pos) (tC v):=
 λ_ _ _ H _ I h=>v5 I hg hm hv ⟨v,H,I,r,h⟩ hn hd
variable{a b:Expr}{ta tb:TE}{pos:Pos}
def tB(t:TE):TT:=λZ H Q=>t Z H λx H1=>∃c,x=.bl c/\Q c H1
variable{tA HF:TT}{rest:List Expr}
def Mq(t u:TT):TT:=λZ H Q=>t Z H λc H1=>if c=true then u Z H1 Q else Q false H1
def tOr(t u:TT):TT:=λZ H Q=>t Z H λc H1=>if c=true then Q true H1 else u Z H1 Q
def Mx(t:TT):TT:=λZ H Q=>t Z H λc H1=>Q (!c) H1
def XW(ha:PT X a tA):PW X (.BoolOp .And [a] pos) tA:=by
 intro wh ae s Z H Q I h;refine isTrue_and (cB (ha ae s Z H Q I h) λc s1 e=>?_)
 cases c with
 |true=>exact isTrue_and_nil e
 |false=>exact e
def ZP(ha:PT X a tA):PW X (.BoolOp .Or [a] pos) tA:=by
 intro wh ae s Z H Q I h;refine isTrue_or (cB (ha ae s Z H Q I h) λc s1 e=>?_)
 cases c with
 |false=>exact isTrue_or_nil e
 |true=>exact e
def ZQ(ha:PT X a tA)(hb:PW X (.BoolOp .And (b::rest) pos) HF):PW X (.BoolOp .And (a::b::rest) pos) (Mq tA HF):=by
 intro wh ae s Z H Q I h;refine isTrue_and (cB (ha ae s Z H _ I h) λc s1 hh=>?_)
 obtain⟨H1,I1,q1⟩:=hh;cases c with
 |true=>exact hb wh ae s1 Z H1 Q I1 q1
 |false=>exact⟨H1,I1,q1⟩
def e8h(ha:PT X a tA)(hb:PW X (.BoolOp .Or (b::rest) pos) HF):PW X (.BoolOp .Or (a::b::rest) pos) (tOr tA HF):=by
 intro wh ae s Z H Q I h;refine isTrue_or (cB (ha ae s Z H _ I h) λc s1 hh=>?_)
 obtain⟨H1,I1,q1⟩:=hh;cases c with
 |true=>exact⟨H1,I1,q1⟩
 |false=>exact hb wh ae s1 Z H1 Q I1 q1
def ZR(ha:PT X a tA):PT X (.UnaryOp .Not a pos) (Mx tA):=by
 intro ae s Z H Q I h;exact isTrue_not (ha ae s Z H (λc H1=>Q (!c) H1) I h)
def El(ta tb:TE):TE:=λZ H Q=>ta Z H λx H1=>∃c,x=.bl c/\if c=true then tb Z H1 Q else Q (.bl false) H1
def Er(ta:TE):TE:=λZ H Q=>ta Z H λx H1=>∃c,x=.bl c/\Q (.bl (!c)) H1
def ZS{op}{t:TE}(h:PE X a t):PE X (.BoolOp op [a] pos) t:=λae s Z H Q I hw=>BoolOp_one (h ae s Z H Q I hw)
def ZT(ha:PE X a ta)(hb:PE X (.BoolOp .And (b::rest) pos) tb):PE X (.BoolOp .And (a::b::rest) pos) (El ta tb):=by
 intro ae s Z H Q I h;refine BoolOp_and (cB (ha ae s Z H _ I h) λv s1 hh=>?_)
 obtain⟨x,H1,I1,r1,q1⟩:=hh;obtain⟨c,rfl,q1⟩:=q1;cases r1;refine wpAny_truthy_bool ?_;cases c with
 |true=>exact hb ae s1 Z H1 Q I1 q1
 |false=>exact⟨.bl false,H1,I1,rfl,q1⟩
def ZU(ha:PE X a ta):PE X (.UnaryOp .Not a pos) (Er ta):=by
 intro ae s Z H Q I h;refine UnaryOp_ (cB (ha ae s Z H _ I h) λv s1 hh=>?_)
 obtain⟨x,H1,I1,r1,q1⟩:=hh;obtain⟨c,rfl,q1⟩:=q1;cases r1;exact not_of (wpAny_truthy_bool ⟨.bl (!c),H1,I1,rfl,q1⟩)
def tIf(t:TT)(ta tb:TE):TE:=λZ H Q=>t Z H λc H1=>if c=true then ta Z H1 Q else tb Z H1 Q
def Wh{c:Expr}(hc:PT X c tA)(ha:PE X a ta)(hb:PE X b tb):PE X (.IfExp c a b pos) (tIf tA ta tb):=by
 intro ae s Z H Q I h;refine wpAny_IfExp (cB (hc ae s Z H _ I h) λd s1 hh=>?_)
 obtain⟨H1,I1,q1⟩:=hh;cases d with
 |true=>exact ha ae s1 Z H1 Q I1 q1
 |false=>exact hb ae s1 Z H1 Q I1 q1
end
def dX(K:FG)(H:Hp)(a:Addr)(xs:List V):Prop:=
 Rd H a (.lst xs)\/
  ∃(o:Obj) (ay:Array Value) (n:Nat),K.lookup a=some o/\o.cls=.type "list"/\o.dict=none/\o.data=.seq ay n/\ay.size<=sizeLine/\Vals xs ay.toList
def gL(K:FG)(H:Hp)(a:Addr)(xs:List V):Prop:=
 Rd H a (.tup xs)\/
  ∃(o:Obj) (ay:Array Value) (n:Nat),K.lookup a=some o/\o.cls=.type "tuple"/\o.data=.seq ay n/\ay.size<=sizeLine/\Vals xs ay.toList
def Ii:Value->Option V
 |.none=>some .bH
 |.bool b=>some (.bl b)
 |.int i _=>some (.int i)
 |.str x _=>some (.str x)
 |.bytes b _=>some (.zB b)
 |.float b _=>some (.zK b)
 |.ref a=>some (.ref a)
 |.type n=>some (.ty n)
 |_=>none
def RelV.abs{x:V}{u:Value}(r:RelV x u):Ii u=some x:=by
 cases x with
 |bH=>cases r;rfl
 |bl _=>cases r;rfl
 |int _=>obtain⟨t,rfl⟩:=r;rfl
 |str _=>obtain⟨t,rfl⟩:=r;rfl
 |zB _=>obtain⟨t,rfl⟩:=r;rfl
 |zK _=>obtain⟨t,rfl⟩:=r;rfl
 |ref _=>cases r;rfl
 |ty _=>cases r;rfl
theorem RelV.inj{x y:V}{u:Value}(r:RelV x u)(q:RelV y u):x=y:=Option.some.inj (r.abs.symm.trans q.abs)
theorem Vals.inj{xs ys:List V}{us:List Value}(h:Vals xs us)(h':Vals ys us):xs=ys:=by
 induction h generalizing ys with
 |nil=>cases h';rfl
 |cons r t ih=>
  cases h' with
  |cons r' t'=>rw[r.inj r',ih t']
section
variable{X:Cx}{ae:List (Addr×Obj)}{Z:St}{H:Hp}{s:Shared}{a:Addr}{xs ys:List V}
def dX.of{K:FG}(h:H a=some (.lst xs)):dX K H a xs:=.inl (.inl h)
def gL.of{K:FG}(h:H a=some (.tup xs)):gL K H a xs:=.inl (.inl h)
def Inv.list(I:Inv X ae Z H s)(h:dX X.K H a xs):∃ay:List Value,Vals xs ay/\PlainL s.heap a ay.toArray/\xs.length<=sizeLine:=by
 rcases h with h|⟨o,ay,n,hk,hc,hd,hs,hz,r⟩
 .obtain⟨z,ay,n,r,e⟩:=h.ok I.cV;exact⟨ay,r,⟨_,n,e,rfl,rfl,rfl⟩,z⟩
 .refine⟨ay.toList,r,⟨o,n,I.zY a o hk,hc,hd,by simpa using hs⟩,?_⟩
  have e:=r.length;simp only[uy] at e;lia
def Inv.tuple(I:Inv X ae Z H s)(h:gL X.K H a xs):∃ay:List Value,Vals xs ay/\IsTup s.heap a ay.toArray/\xs.length<=sizeLine:=by
 rcases h with h|⟨o,ay,n,hk,hc,hs,hz,r⟩
 .obtain⟨z,ay,r,p⟩:=h.ok I.cV;exact⟨ay,r,p,z⟩
 .refine⟨ay.toList,r,⟨o,I.zY a o hk,hc,n,by simpa using hs⟩,?_⟩
  have e:=r.length;simp only[uy] at e;lia
def Inv.nX(I:Inv X ae Z H s)(h:dX X.K H a xs)(h':dX X.K H a ys):xs=ys:=by
 obtain⟨ay,r,⟨o,n,e,_,_,d⟩,_⟩:=I.list h;obtain⟨its',r',⟨o',n',e',_,_,d'⟩,_⟩:=I.list h';rw[e] at e';cases e';rw[d] at d';injection d' with d1 _;have:ay=its':=by simpa using congrArg Array.toList d1
 subst this;exact r.inj r'
def Inv.mj(I:Inv X ae Z H s)(h:gL X.K H a xs)(h':gL X.K H a ys):xs=ys:=by
 obtain⟨ay,r,⟨o,e,_,n,d⟩,_⟩:=I.tuple h;obtain⟨its',r',⟨o',e',_,n',d'⟩,_⟩:=I.tuple h';rw[e] at e';cases e';rw[d] at d';injection d' with d1 _;have:ay=its':=by simpa using congrArg Array.toList d1
 subst this;exact r.inj r'
end
abbrev Cx.lR(X:Cx)(E:Value->Shared->Prop):Cx:={ X with xe:=E}
abbrev Cx.z_(X:Cx):Cx:=X.lR λ_ _=>False
def Cx.Ok.lR{X:Cx}(ok:X.Ok)(E:Value->Shared->Prop):(X.lR E).Ok:=
 ⟨ok.mod,ok.kind,ok.glob,ok.blt,ok.above,ok.inj,ok.has,ok.B_,ok.hd,ok.frames,ok.HE,ok.Sj,ok.bs,ok.wm,ok.sU,ok.uZ,ok.kL,ok.zL⟩
def Cx.Ok.ir{X:Cx}{E:Value->Shared->Prop}(ok:(X.lR E).Ok):X.Ok:=
 ⟨ok.mod,ok.kind,ok.glob,ok.blt,ok.above,ok.inj,ok.has,ok.B_,ok.hd,ok.frames,ok.HE,ok.Sj,ok.bs,ok.wm,ok.sU,ok.uZ,ok.kL,ok.zL⟩
section
variable{X:Cx}{ae:List (Addr×Obj)}{Z:St}{H:Hp}{s:Shared}{E:Value->Shared->Prop}
theorem Inv.lR(I:Inv X ae Z H s)(E:Value->Shared->Prop):Inv (X.lR E) ae Z H s:=⟨I.ok.lR E,I.os,I.bare,I.base,I.loc,I.cell,I.free,I.ic,I.pin,I.cV,I.len⟩
theorem Inv.ir(I:Inv (X.lR E) ae Z H s):Inv X ae Z H s:=⟨I.ok.ir,I.os,I.bare,I.base,I.loc,I.cell,I.free,I.ic,I.pin,I.cV,I.len⟩
theorem SP.ir{D:Ends}{f:Flow}{s':Shared}(h:SP (X.lR E) ae D f s'):SP X ae D f s':=by
 cases f with
 |next=>obtain⟨Z',H',I,q⟩:=h;exact⟨Z',H',I.ir,q⟩
 |brk=>obtain⟨Z',H',I,q⟩:=h;exact⟨Z',H',I.ir,q⟩
 |cont=>obtain⟨Z',H',I,q⟩:=h;exact⟨Z',H',I.ir,q⟩
 |ret u=>obtain⟨v,Z',H',I,r,q⟩:=h;exact⟨v,Z',H',I.ir,r,q⟩
def iy.z_{st:List Stmt}{t:TS}(h:iy X.z_ st t):iy X st t:=λae s Z H D I hw=>
 wpAny_mono (h ae s Z H D (I.lR _) hw) (λ_ _ q=>q.ir) λ_ _ z=>False.elim z
end
section
variable{X:Cx}{st:Stmt}{rest:List Stmt}{t u:TS}{e:Expr}{te:TE}{pos:Pos}
def Ep:TS:=λD Z H=>D.nx Z H
def Mz(t u:TS):TS:=λD Z H=>t { D with nx:=u D} Z H
def vj:iy X [] Ep:=λ_ _ Z H _ I h=>wpAny_execs_nil ⟨Z,H,I,h⟩
def Wi(h1:PS X st t)(h2:iy X rest u):iy X (st::rest) (Mz t u):=by
 intro ae s Z H D I h;refine wpAny_execs_cons (cB (h1 ae s Z H { D with nx:=u D} I h) λf s1 q=>?_)
 cases f with
 |next=>
  obtain⟨Z',H',I',q⟩:=q;exact h2 ae s1 Z' H' D I' q
 |ret v=>exact q
 |brk=>exact q
 |cont=>exact q
def XX(h1:PS X st t):iy X [st] t:=by
 intro ae s Z H D I h;refine wpAny_execs_cons (cB (h1 ae s Z H D I h) λf s1 q=>?_)
 cases f with
 |next=>exact wpAny_execs_nil q
 |ret v=>exact q
 |brk=>exact q
 |cont=>exact q
def Inv.quiet{ae:List (Addr×Obj)}{Z:St}{H:Hp}{s:Shared}(I:Inv X ae Z H s):interactive X.env=false:=by simp[interactive,I.ok.kind]
def Eo(te:TE):TS:=λD Z H=>te Z H λ_ H1=>D.nx Z H1
def XY(he:PE X e te)(hs:swapsWith e none pos.line X.env=pure false:=by rfl):PS X (.Expr e pos) (Eo te):=by
 intro ae s Z H D I h;exact wpAny_Expr_any (cB (he ae s Z H _ I h) λv s1 ⟨x,H1,I1,r1,q1⟩=>⟨Z,H1,I1,q1⟩) I.quiet hs
def My(te:TE):TS:=λD Z H=>te Z H D.rt
def ZV(he:PE X e te):PS X (.Return (some e) pos) (My te):=by
 intro ae s Z H D I h;exact wpAny_Return_some (cB (he ae s Z H _ I h) λv s1 ⟨x,H1,I1,r1,q1⟩=>⟨x,Z,H1,I1,r1,q1⟩)
def Mu(c:TT)(t u:TS):TS:=λD Z H=>c Z H λb H1=>if b=true then t D Z H1 else u D Z H1
def e8i{c:Expr}{a b:List Stmt}{tc:TT}(hc:PT X c tc)(ha:iy X a t)(hb:iy X b u):PS X (.If c a b pos) (Mu tc t u):=by
 intro ae s Z H D I h;refine wpAny_If (cB (hc ae s Z H _ I h) λd s1 hh=>?_)
 obtain⟨H1,I1,q1⟩:=hh;cases d with
 |true=>exact ha ae s1 Z H1 D I1 q1
 |false=>exact hb ae s1 Z H1 D I1 q1
end
abbrev TG:=V->St->Hp->(St->Hp->Prop)->Prop
abbrev t4:=List V->St->Hp->(St->Hp->Prop)->Prop
def PG(X:Cx)(target:Expr)(t:TG):Prop:=
 ∀(ae:List (Addr×Obj)) (s:Shared) (Z:St) (H:Hp) (v:V) (u:Value) (Q:St->Hp->Prop),Inv X ae Z H s->RelV v u->t v Z H Q->
  wpAny (model X.prog X.w) X.A (assign target X.env u) (λ_ s'=>∃Z' H',Inv X ae Z' H' s'/\Q Z' H') X.xe s
def ET(X:Cx)(ts:List Expr)(t:t4):Prop:=
 ∀(ae:List (Addr×Obj)) (s:Shared) (Z:St) (H:Hp) (vs:List V) (us:List Value) (Q:St->Hp->Prop),Inv X ae Z H s->Vals vs us->t vs Z H Q->
  wpAny (model X.prog X.w) X.A (assignInOrder ((assignEach ts X.env).map (·.2)) us) (λ_ s'=>∃Z' H',Inv X ae Z' H' s'/\Q Z' H') X.xe s
abbrev qu:=V->V->V->Hp->(Hp->Prop)->Prop
def uE(X:Cx)(t:qu):Prop:=
 ∀(ae:List (Addr×Obj)) (s:Shared) (Z:St) (H:Hp) (o i v:V) (ov iv u:Value) (Q:Hp->Prop),Inv X ae Z H s->RelV o ov->RelV i iv->RelV v u->t o i v H Q->
  wpAny (model X.prog X.w) X.A (setItem ov iv u) (λ_ s'=>∃H',Inv X ae Z H' s'/\Q H') X.xe s
abbrev EW:=V->V->Hp->VK->Prop
def EU(X:Cx)(op:Operator)(t:EW):Prop:=
 ∀(ae:List (Addr×Obj)) (s:Shared) (Z:St) (H:Hp) (x y:V) (v u:Value) (Q:VK),Inv X ae Z H s->RelV x v->RelV y u->t x y H Q->
  wpAny (model X.prog X.w) X.A (inplaceOp op v u) (EP X ae Z Q) X.xe s
section
variable{X:Cx}{pos:Pos}
def sj(i:Nat):TG:=λv Z H Q=>Q (Z.set i (some v)) H
def fm{i:Nat}{x:Str}(hN:X.N.Nodup)(hi:X.N[i]?=some x)(hx:Loc X.env.scope x)(hf:X.fn x=true\/X.env.scope.names.lookup x=some .local := by first|exact .inl rfl|exact .inr rfl|assumption):PG X (.Name x pos) (sj i):=by
 intro ae s Z H v u Q I r h;exact wpAny_assign_Name (ON I hN hi hx r (λs' I'=>⟨_,H,I',h⟩) hf)
def C_:t4:=λvs Z H Q=>vs=[]/\Q Z H
def wC(t:TG)(u:t4):t4:=λvs Z H Q=>∃v r,vs=v::r/\t v Z H λZ' H'=>u r Z' H' Q
def Jq:ET X [] C_:=by
 intro ae s Z H vs us Q I r h;obtain⟨e,h⟩:=h;subst e;cases r;exact assignInOrder_nil ⟨Z,H,I,h⟩
def t5{e:Expr}{es:List Expr}{t:TG}{u:t4}(h1:PG X e t)(h2:ET X es u)
  (hs:(assignEach (e::es) X.env).map (·.2)=assign e X.env::(assignEach es X.env).map (·.2):=by rfl):ET X (e::es) (wC t u):=by
 intro ae s Z H vs us Q I r h;obtain⟨v,vr,e1,h⟩:=h;subst e1;cases r with
 |cons r rr=>
  rw[hs];refine assignInOrder_cons (cB (h1 ae s Z H _ _ _ I r h) λ_ s1 hh=>?_)
  obtain⟨Z1,H1,I1,q1⟩:=hh;exact h2 ae s1 Z1 H1 _ _ Q I1 rr q1
def Dc(K:FG)(n:Nat)(t:t4):TG:=λv Z H Q=>∃a xs,v=.ref a/\gL K H a xs/\xs.length=n/\t xs Z H Q
def JT{es:List Expr}{k:Nat}{t:t4}{n:Nat}(hc:X.calm=true)(h:ET X es t)
  (hn:(assignEach es X.env).length=n:=by rfl) (rA:(assignEach es X.env).findIdx? (·.1)=none:=by rfl):PG X (.Tuple es k pos) (Dc X.K n t):=by
 intro ae s Z H v u Q I r hw;obtain⟨a,xs,e1,hq,hl,hw⟩:=hw;subst e1;cases r;obtain⟨ay,rv,ht,hz⟩:=I.tuple hq;refine assign_Tuple_tuple (I.ok.hd hc) ht (by simp[hn,<-hl,rv.length]) rA λh' hx=>?_
 have I1:Inv X ae Z H { s with heap:=h'}:=I.kept (t':=s.toks) λb o e=>hx b o (ly (fG e)) e
 exact h ae _ Z H xs _ Q I1 (by simpa using rv) hw
def Le(to ti:TE)(t:qu):TG:=λv Z H Q=>to Z H λo H1=>ti Z H1 λi H2=>t o i v H2 λH3=>Q Z H3
def QT{o i:Expr}{to ti:TE}{t:qu}(ho:PE X o to)(hi:PE X i ti)(hs:uE X t)
  (ha:∀v,assign (.Subscript o i pos) X.env v=(do
   let ov <-holding [v] (eval o X.env)
   let iv <-holding [v,ov] (eval i X.env)
   standAt pos
   holding [v,ov,iv] (setItem ov iv v)
   release [v,ov,iv] []):=by intro _;rfl):PG X (.Subscript o i pos) (Le to ti t):=by
 intro ae s Z H v u Q I r h;rw[ha];refine aB (mZ (cB (ho ae s Z H _ I h) λov s1 hh=>?_))
 obtain⟨x,H1,I1,r1,q1⟩:=hh;refine aB (mZ (cB (hi ae s1 Z H1 _ I1 q1) λiv s2 hh=>?_))
 obtain⟨y,H2,I2,r2,q2⟩:=hh;refine aB (wpAny_standAt (aB (mZ (cB (hs ae s2 Z H2 x y v ov iv u _ I2 r1 r2 r q2) λ_ s3 hh=>?_))))
 obtain⟨H3,I3,q3⟩:=hh;exact wpAny_release ⟨Z,H3,I3,q3⟩
def Em(te:TE)(g:TG):TS:=λD Z H=>te Z H λx H1=>g x Z H1 D.nx
def JU{tg e:Expr}{te:TE}{g:TG}(he:PE X e te)(hg:PG X tg g)(hs:swapsWithSole [tg] e pos.line X.env=pure false:=by rfl)(hw:swappedStores [tg] e X.env=pure none:=by rfl)
  (h1:(assignEach [tg] X.env).map (·.2)=[assign tg X.env]:=by rfl):PS X (.Assign [tg] e pos) (Em te g):=by
 intro ae s Z H D I h;refine wpAny_Assign_stores (cB (he ae s Z H _ I h) λv s1 hh=>?_) hs hw
 obtain⟨x,H1,I1,r1,q1⟩:=hh;rw[h1];exact cB (hg ae s1 Z H1 x v _ I1 r1 q1) λ_ s2 q=>q
def ZW{i:Nat}{x:Str}{e:Expr}{te:TE}{pos':Pos}(hN:X.N.Nodup)(hi:X.N[i]?=some x)(hx:Loc X.env.scope x)(he:PE X e te)(hs:swapsWith e (some (.Name x pos')) pos.line X.env=pure false:=by rfl)(hf:X.fn x=true\/X.env.scope.names.lookup x=some .local := by first|exact .inl rfl|exact .inr rfl|assumption):
  PS X (.Assign [.Name x pos'] e pos) (Em te (sj i)):=by
 intro ae s Z H D I h;refine wpAny_Assign_Name (cB (he ae s Z H _ I h) λv s1 hh=>?_) hs
 obtain⟨y,H1,I1,r1,q1⟩:=hh;exact ON I1 hN hi hx r1 (λs2 I2=>⟨_,H1,I2,q1⟩) hf
def En(to ti te:TE)(vo:V->V->Hp->VK->Prop)(HH:EW)(vx:qu):TS:=λD Z H=>to Z H λo H1=>ti Z H1 λi H2=>vo o i H2 λx H3=>te Z H3 λy H4=>HH x y H4 λz H5=>vx o i z H5 λH6=>D.nx Z H6
def AX(X:Cx)(t:V->V->Hp->VK->Prop):Prop:=
 ∀(ae:List (Addr×Obj)) (s:Shared) (Z:St) (H:Hp) (o i:V) (ov iv:Value) (Q:VK),Inv X ae Z H s->RelV o ov->RelV i iv->t o i H Q->
  wpAny (model X.prog X.w) X.A (getItem ov iv) (EP X ae Z Q) X.xe s
def XZ{o i e:Expr}{to ti te:TE}{vo:V->V->Hp->VK->Prop}{HH:EW}{vx:qu}{op:Operator}{ou:Pos}(ho:PE X o to)(hi:PE X i ti)(hg:AX X vo)(he:PE X e te)(hp:EU X op HH)(hs:uE X vx)
  (ha:∀ov iv new,augStore i ov iv new=(do holding [new,ov,iv] (setItem ov iv new);release [new,ov,iv] [];pure .next):=by intros;rfl):PS X (.AugAssign (.Subscript o i ou) op e pos) (En to ti te vo HH vx):=by
 intro ae s Z H D I h;refine wpAny_AugAssign_SubscriptAny (cB (ho ae s Z H _ I h) λov s1 hh=>?_) ha
 obtain⟨x1,H1,I1,r1,q1⟩:=hh;refine cB (hi ae s1 Z H1 _ I1 q1) λiv s2 hh=>?_
 obtain⟨x2,H2,I2,r2,q2⟩:=hh;refine cB (hg ae s2 Z H2 x1 x2 ov iv _ I2 r1 r2 q2) λold s3 hh=>?_
 obtain⟨x3,H3,I3,r3,q3⟩:=hh;refine cB (he ae s3 Z H3 _ I3 q3) λv s4 hh=>?_
 obtain⟨x4,H4,I4,r4,q4⟩:=hh;refine cB (hp ae s4 Z H4 x3 x4 old v _ I4 r3 r4 q4) λnew s5 hh=>?_
 obtain⟨x5,H5,I5,r5,q5⟩:=hh;exact cB (hs ae s5 Z H5 x1 x2 x5 ov iv new _ I5 r1 r2 r5 q5) λ_ s6 ⟨H6,I6,q6⟩=>⟨Z,H6,I6,q6⟩
def LO(f:Int->Int->Int):EW:=λx y H Q=>∃i j,x=.int i/\y=.int j/\Q (.int (f i j)) H
def ZX:EU X .Add (LO λi j=>i+j):=by
 intro ae s Z H x y v u Q I r1 r2 h;obtain⟨i,j,e1,e2,q⟩:=h;subst e1;subst e2;obtain⟨t,rfl⟩:=r1;obtain⟨t',rfl⟩:=r2;exact iadd_int ⟨.int _,H,I.tok _,⟨_,rfl⟩,q⟩
def ZY:EU X .Sub (LO λi j=>i - j):=by
 intro ae s Z H x y v u Q I r1 r2 h;obtain⟨i,j,e1,e2,q⟩:=h;subst e1;subst e2;obtain⟨t,rfl⟩:=r1;obtain⟨t',rfl⟩:=r2;exact isub_int ⟨.int _,H,I.tok _,⟨_,rfl⟩,q⟩
end
section
variable{X:Cx}{pos:Pos}
def ZZ(c:TT)(tb:TS):TS:=λD Z H=>∃W:Nat->St->Hp->Prop,(∃m,W m Z H)/\∀m Z H,W m Z H->
 c Z H λb H1=>if b=true then ∃N:St->Hp->Prop,(∀Z' H',N Z' H'->∃m',m'<m/\W m' Z' H')/\tb { D with nx:=N,ct:=N,bk:=D.nx} Z H1 else D.nx Z H1
def Wj{c:Expr}{body:List Stmt}{tc:TT}{tb:TS}(hp:PassesOwn (model X.prog X.w) X.A X.env X.xe)(hc:PT X c tc)(hb:iy X body tb):PS X (.While c body [] pos) (ZZ tc tb):=by
 intro ae s Z H D I h;obtain⟨W,⟨m0,w0⟩,turn⟩:=h;refine wpAny_While (codeAny_whileLoop (λn s'=>∃Z' H',Inv X ae Z' H' s'/\W n Z' H') ?_ m0 ⟨Z,H,I,w0⟩)
 rintro n s1 ⟨Z1,H1,I1,w1⟩;refine wpAny_passesOwn hp (cB (hc ae s1 Z1 H1 _ I1 (turn n Z1 H1 w1)) λb s2 hh=>?_)
 obtain⟨H2,I2,q2⟩:=hh;cases b with
 |true=>
  obtain⟨N,hN,q2⟩:=q2;rw[aJ rfl];refine wpAny_passesOwn hp (cB (hb ae s2 Z1 H2 _ I2 q2) λf s3 q3=>?_)
  cases f with
  |next=>
   obtain⟨Z3,H3,I3,n3⟩:=q3;obtain⟨m',hm,w3⟩:=hN Z3 H3 n3;exact⟨m',hm,Z3,H3,I3,w3⟩
  |cont=>
   obtain⟨Z3,H3,I3,n3⟩:=q3;obtain⟨m',hm,w3⟩:=hN Z3 H3 n3;exact⟨m',hm,Z3,H3,I3,w3⟩
  |brk=>exact q3
  |ret v=>exact q3
 |false=>
  rw[aQ mY];exact wpAny_execs_nil ⟨Z1,H2,I2,q2⟩
end
set_option genInjectivity false in
structure It where
 go:Nat->Hp->Prop
 xj:Nat->Hp->V->Hp->Prop
 stop:Nat->Hp->Prop
def jZ(X:Cx)(ae:List (Addr×Obj))(H:Hp)(b:Addr):Prop:=
 H b=none/\b≠X.env.locals/\b∉X.fs/\(b∈X.ex\/X.s₀.heap.objs.size<=b)/\(∀x c,X.env.cells.lookup x=some c->c≠b)/\∀p∈X.pn++ae,p.1≠b
def Inv.se{X:Cx}{ae:List (Addr×Obj)}{Z:St}{H H':Hp}{s:Shared}{b:Addr}(I:Inv X ae Z H s)(hb:s.heap.objs.size<=b)(hn:H' b=none):jZ X ae H' b:=by
 refine⟨hn,Nat.ne_of_gt (iG I.lt hb),I.yC hb,.inr (lT I.sz hb),λx c e z=>?_,λp hp z=>?_⟩
 .obtain⟨v,q⟩:=I.cell x c e;exact bQ (iG q.lt (by rw[z];exact hb)) (pF _)
 .exact bQ (iG (fG (I.pin p hp).1) (by rw[z];exact hb)) (pF _)
structure Turn (P:Program) (w:World) (K:FG) (tg:Expr) (J:It) (fp:List Addr) (it:Addr) (tn:Nat->Heap->Prop):Prop where
 mem:it∈fp
 obj:∀i h,tn i h->∀b∈fp,∃o,h.get? b=some o/\∀v,o.data≠.cell v
 keep:∀i h h',tn i h->(∀b∈fp,∀o,h.get? b=some o->h'.get? b=some o)->tn i h'
 item:∀(X:Cx),X.prog=P->X.w=w->X.K=K->X.calm=true->∀(i:Nat) (ae:List (Addr×Obj)) (s:Shared) (Z:St) (H:Hp) (E:Value->Shared->Prop),Inv X ae Z H s->(∀b∈fp,jZ X ae H b)->tn i s.heap->J.go i H->
  wpAny (model P w) X.A (pyNext (.ref it)) (λr s1=>∃u,r=some u/\
   wpAny (model P w) X.A (letOwnedTupleGo tg (.ref it) u) (λ_ s2=>∃x H',Inv X ae Z H' s2/\RelV x u/\J.xj i H x H'/\tn (i+1) s2.heap/\∀b∈fp,H' b=none) E s1) E s
 done:∀(X:Cx),X.prog=P->X.w=w->X.K=K->X.calm=true->∀(i:Nat) (ae:List (Addr×Obj)) (s:Shared) (Z:St) (H:Hp) (E:Value->Shared->Prop),Inv X ae Z H s->(∀b∈fp,jZ X ae H b)->tn i s.heap->J.stop i H->
  wpAny (model P w) X.A (pyNext (.ref it)) (λr s1=>r=none/\Inv X ae Z H s1) E s
 self:∀(A:Around) (i:Nat) (s:Shared) (Q:Value->Shared->Prop) (E:Value->Shared->Prop),tn i s.heap->Q (.ref it) s->wpAny (model P w) A (pyIter (.ref it)) Q E s
abbrev TI:=St->Hp->(It->Hp->Prop)->Prop
def Nc(X:Cx)(ae:List (Addr×Obj))(Z:St)(tg:Expr)(R:It->Hp->Prop)(Hr:Value)(s2:Shared):Prop:=
 ∃(it:Addr) (fp:List Addr) (tn:Nat->Heap->Prop) (J:It) (H':Hp),Hr=.ref it/\Inv X ae Z H' s2/\Turn X.prog X.w X.K tg J fp it tn/\tn 0 s2.heap/\(∀b∈fp,jZ X ae H' b)/\R J H'
def PI(X:Cx)(tg iter:Expr)(wi:TI):Prop:=
 ∀(ae:List (Addr×Obj)) (s:Shared) (Z:St) (H:Hp) (R:It->Hp->Prop),Inv X ae Z H s->wi Z H R->
  wpAny (model X.prog X.w) X.A (eval iter X.env) (λv s1=>wpAny (model X.prog X.w) X.A (pyIter v) (Nc X ae Z tg R) X.xe s1) X.xe s
def GX{M:Model}{A:Around}{E:Value->Shared->Prop}{s:Shared}{tg:Expr}{it:Addr}{u:Value}{o:Obj}{n:String}{vs:Array Value}{Q:Unit->Shared->Prop}(ho:s.heap.get? it=some o)(hc:o.cls=.type n)(hd:o.data=.fields vs)
  (hn:["enumerate","zip","dict_itemiterator","dict_reverseitemiterator","odict_iterator","itertools.zip_longest","itertools.pairwise"].contains n=false) (hQ:Q () s):wpAny M A (letOwnedTupleGo tg (.ref it) u) Q E s:=by
 unfold letOwnedTupleGo;cases tg <;> first
  |exact bh hQ
  |(cases u <;> first
    |exact bh hQ
    |(refine aB (wpAny_load ho ?_)
      rw[hc,hd];show wpAny M A (if(["enumerate","zip","dict_itemiterator","dict_reverseitemiterator","odict_iterator","itertools.zip_longest","itertools.pairwise"].contains n&&vs[0]? == some (rawInt _))=true then _ else _) Q E s
      rw[aQ (by intro h;rw[hn,vD] at h;cases h)]
      exact bh hQ))
def xo(K:FG)(a:Addr):It:=
 ⟨λi H=>∃xs x,dX K H a xs/\xs[i]?=some x,λi H x H'=>H'=H/\∀xs,dX K H a xs->xs[i]?=some x,λi H=>∃xs,dX K H a xs/\xs.length<=i⟩
def xp(K:FG)(a:Addr):It:=
 ⟨λi H=>∃xs x,gL K H a xs/\xs[i]?=some x,λi H x H'=>H'=H/\∀xs,gL K H a xs->xs[i]?=some x,λi H=>∃xs,gL K H a xs/\xs.length<=i⟩
def tZ(lo:Int)(n:Nat):It:=⟨λi _=>i<n,λi H x H'=>H'=H/\x=.int (lo+i),λi _=>n<=i⟩
def Va{P:Program}{w:World}{K:FG}{tg:Expr}(a it:Addr):Turn P w K tg (xo K a) [it] it (λi h=>h.IsListIter it a i) where
 mem:=by simp
 obj:=λi h st b hb=>by
  have e:b=it:=by simpa using hb
  subst e;obtain⟨o,e,c,d⟩:=st;exact⟨o,e,λv z=>by rw[d] at z;cases z⟩
 keep:=λi h h' st k=>st.at λo e=>k it (by simp) o e
 item:=by
  intro X hP hw hK hc i ae s Z H E I hf st hg;subst hP hw hK;obtain⟨xs,x,hq,hx⟩:=hg;obtain⟨ay,rv,p,hz⟩:=I.list hq;obtain⟨u,hu,ru⟩:=rv.get hx;obtain⟨f0,f1,f2,f3,f4,f5⟩:=hf it (by simp)
  refine wpAny_pyNext_list_item st p.isList (x:=u) (by simpa using hu) λh' tO sb=>?_
  have I1:Inv X ae Z H { s with heap:=h'}:=I.turned (t':=s.toks) (λb o hb e=>(sb.2 b hb).trans e) f0 f1 f3 f4 f5
  obtain⟨o,e,c,d⟩:=id tO;exact⟨u,rfl,GX (s:={ s with heap:=h'}) e c d (by decide) ⟨x,H,I1,ru,⟨rfl,λys hy=>by rw[I.nX hy hq];exact hx⟩,tO,λb hb=>(hf b hb).1⟩⟩
 done:=by
  intro X hP hw hK hc i ae s Z H E I hf st hg;subst hP hw hK;obtain⟨xs,hq,hx⟩:=hg;obtain⟨ay,rv,p,hz⟩:=I.list hq;obtain⟨f0,f1,f2,f3,f4,f5⟩:=hf it (by simp)
  have hl:=rv.length;exact wpAny_pyNext_list_end (I.ok.hd hc) st p.isList (by simp;lia) λh' eb=>⟨rfl,I.turned (t':=s.toks) (λb o hb e=>eb b o hb e) f0 f1 f3 f4 f5⟩
 self:=λ_ _ _ _ _ st h=>wpAny_pyIter_listiter st h
def UE{P:Program}{w:World}{K:FG}{tg:Expr}(a it:Addr):Turn P w K tg (xp K a) [it] it (λi h=>h.IsTupleIter it a i) where
 mem:=by simp
 obj:=λi h st b hb=>by
  have e:b=it:=by simpa using hb
  subst e;obtain⟨o,e,c,d⟩:=st;exact⟨o,e,λv z=>by rw[d] at z;cases z⟩
 keep:=λi h h' st k=>st.at λo e=>k it (by simp) o e
 item:=by
  intro X hP hw hK hc i ae s Z H E I hf st hg;subst hP hw hK;obtain⟨xs,x,hq,hx⟩:=hg;obtain⟨ay,rv,p,hz⟩:=I.tuple hq;obtain⟨u,hu,ru⟩:=rv.get hx;obtain⟨f0,f1,f2,f3,f4,f5⟩:=hf it (by simp)
  refine wpAny_pyNext_tuple_item st (show s.heap.IsTuple a ay.toArray from p) (x:=u) (by simpa using hu) λh' tO sb=>?_
  have I1:Inv X ae Z H { s with heap:=h'}:=I.turned (t':=s.toks) (λb o hb e=>(sb.2 b hb).trans e) f0 f1 f3 f4 f5
  obtain⟨o,e,c,d⟩:=id tO;exact⟨u,rfl,GX (s:={ s with heap:=h'}) e c d (by decide) ⟨x,H,I1,ru,⟨rfl,λys hy=>by rw[I.mj hy hq];exact hx⟩,tO,λb hb=>(hf b hb).1⟩⟩
 done:=by
  intro X hP hw hK hc i ae s Z H E I hf st hg;subst hP hw hK;obtain⟨xs,hq,hx⟩:=hg;obtain⟨ay,rv,p,hz⟩:=I.tuple hq;obtain⟨f0,f1,f2,f3,f4,f5⟩:=hf it (by simp)
  have hl:=rv.length;exact wpAny_pyNext_tuple_end (I.ok.hd hc) st (show s.heap.IsTuple a ay.toArray from p) (by simp;lia) λh' eb=>⟨rfl,I.turned (t':=s.toks) (λb o hb e=>eb b o hb e) f0 f1 f3 f4 f5⟩
 self:=λ_ _ _ _ _ st h=>wpAny_pyIter_tupleiter st h
def UG{P:Program}{w:World}{K:FG}{tg:Expr}(it:Addr)(lo:Int)(n:Nat):Turn P w K tg (tZ lo n) [it] it (λi h=>IsRangeIter h it (lo+(i:Nat)*1) ((n:Int) - (i:Nat)) 1) where
 mem:=by simp
 obj:=λi h st b hb=>by
  have e:b=it:=by simpa using hb
  subst e;exact⟨_,st,λv z=>by
   have z':Data.fields _=Data.cell v:=z;cases z'⟩
 keep:=λi h h' st k=>k it (by simp) _ st
 item:=by
  intro X hP hw hK hc i ae s Z H E I hf st hg;subst hP hw hK;obtain⟨f0,f1,f2,f3,f4,f5⟩:=hf it (by simp)
  have W:=Walks.range (prog:=X.prog) (w:=X.w) (I.ok.hd hc) it lo 1 n;refine W.item i s _ _ hg st λv h' tk hv tO kk=>?_
  obtain⟨t,rfl⟩:=hv;have I1:Inv X ae Z H { s with heap:=h',toks:=tk}:=I.turned (λb o hb e=>kk b o (by simpa using hb) e) f0 f1 f3 f4 f5
  refine⟨_,rfl,GX (s:={ s with heap:=h',toks:=tk}) (n:="range_iterator") tO rfl rfl (by decide) ⟨.int (lo+i),H,I1,⟨t,?_⟩,⟨rfl,rfl⟩,tO,λb hb=>(hf b hb).1⟩⟩
  rw[Int.mul_one]
 done:=by
  intro X hP hw hK hc i ae s Z H E I hf st hg;subst hP hw hK;obtain⟨f0,f1,f2,f3,f4,f5⟩:=hf it (by simp)
  exact wpAny_pyNext_range_end (I.ok.hd hc) st (by have:n<=i:=hg;lia) λh' eb=>⟨rfl,I.turned (t':=s.toks) (λb o hb e=>eb b o hb e) f0 f1 f3 f4 f5⟩
 self:=λ_ _ _ _ _ st h=>wpAny_pyIter_rangeiter st h
section
variable{X:Cx}{tg:Expr}
def nQ(K:FG)(tl:TE):TI:=λZ H R=>tl Z H λx H1=>∃a,x=.ref a/\(∃xs,dX K H1 a xs)/\R (xo K a) H1
def yr(K:FG)(tl:TE):TI:=λZ H R=>tl Z H λx H1=>∃a,x=.ref a/\(∃xs,gL K H1 a xs)/\R (xp K a) H1
def PB{l:Expr}{tl:TE}(hl:PE X l tl):PI X tg l (nQ X.K tl):=by
 intro ae s Z H R I h;refine cB (hl ae s Z H _ I h) λv s1 hh=>?_
 obtain⟨x,H1,I1,r1,q1⟩:=hh;obtain⟨a,e,⟨xs,hq⟩,q⟩:=q1;subst e;cases r1;obtain⟨ay,rv,p,hz⟩:=I1.list hq;refine wpAny_pyIter_list p.isList ?_;refine⟨s1.heap.objs.size,[s1.heap.objs.size],_,_,H1,rfl,I1.kept (t':=s1.toks) λb o e=>jO _ e,Va a _,⟨_,oB _ rfl,rfl,rfl⟩,λb hb=>?_,q⟩
 have e:b=s1.heap.objs.size:=by simpa using hb
 subst e;exact I1.se (cJ _) (I1.cV.fresh (cJ _))
def QU{l:Expr}{tl:TE}(hl:PE X l tl):PI X tg l (yr X.K tl):=by
 intro ae s Z H R I h;refine cB (hl ae s Z H _ I h) λv s1 hh=>?_
 obtain⟨x,H1,I1,r1,q1⟩:=hh;obtain⟨a,e,⟨xs,hq⟩,q⟩:=q1;subst e;cases r1;obtain⟨ay,rv,p,hz⟩:=I1.tuple hq;refine wpAny_pyIter_tuple (show s1.heap.IsTuple a ay.toArray from p) ?_;refine⟨s1.heap.objs.size,[s1.heap.objs.size],_,_,H1,rfl,I1.kept (t':=s1.toks) λb o e=>jO _ e,UE a _,⟨_,oB _ rfl,rfl,rfl⟩,λb hb=>?_,q⟩
 have e:b=s1.heap.objs.size:=by simpa using hb
 subst e;exact I1.se (cJ _) (I1.cV.fresh (cJ _))
def OO{ae:List (Addr×Obj)}{Z:St}{H:Hp}{s:Shared}{R:It->Hp->Prop}{E:Value->Shared->Prop}{lo hi:Int}{t u v:Tok}{tk:Nat}(I:Inv X ae Z H s)(h1:-(2^62)<=lo)(h2:lo<2^62)(h3:-(2^62)<=hi)(h4:hi<2^62)
  (q:R (tZ lo (hi - lo).toNat) H):wpAny (model X.prog X.w) X.A (pyIter (.ref s.heap.objs.size)) (Nc X ae Z tg R) E { s with heap:=s.heap.push { cls:=.type "range",data:=.fields #[.int lo t,.int hi u,.int 1 v]},toks:=tk}:=by
 refine wpAny_pyIter_range (IsRange.new ..) (small_one h1 h2 h3 h4) ?_;have I1:Inv X ae Z H { s with heap:=s.heap.push { cls:=.type "range",data:=.fields #[.int lo t,.int hi u,.int 1 v]},toks:=tk}:=I.kept λb o e=>jO _ e
 refine⟨(s.heap.push { cls:=.type "range",data:=.fields #[.int lo t,.int hi u,.int 1 v]}).objs.size,[(s.heap.push { cls:=.type "range",data:=.fields #[.int lo t,.int hi u,.int 1 v]}).objs.size],_,_,H,rfl,
  I1.kept (t':=tk) λb o e=>jO _ e,UG _ lo (hi - lo).toNat,?_,λb hb=>?_,q⟩
 .have e1:lo+((0:Nat):Int)*1=lo:=by simp
  have e2:(((hi - lo).toNat:Nat):Int) - ((0:Nat):Int)=Builtin.Range.rangeSize lo hi 1:=by rw[rangeSize_one];split <;> lia
  show IsRangeIter _ _ (lo+((0:Nat):Int)*1) ((((hi - lo).toNat:Nat):Int) - ((0:Nat):Int)) 1;rw[e1,e2];exact oB _ rfl
 .have e:b=(s.heap.push { cls:=.type "range",data:=.fields #[.int lo t,.int hi u,.int 1 v]}).objs.size:=by simpa using hb
  subst e;exact I1.se (cJ _) (I1.cV.fresh (cJ _))
def wJ(ta:TA):TI:=λZ H R=>ta Z H λvs H1=>∃j:Int,vs=[.int j] /\ -(2^62)<=j/\j<2^62/\R (tZ 0 j.toNat) H1
def wK(ta:TA):TI:=λZ H R=>ta Z H λvs H1=>∃i j:Int,vs=[.int i,.int j]/\(-(2^62)<=i/\i<2^62 /\ -(2^62)<=j/\j<2^62)/\R (tZ i (j - i).toNat) H1
def Iu{a:Expr}{ta:TA}{p pos:Pos}(hg:Gl X "range")(hm:X.mg "range"=none)(ha:PA X [a] ta)(hs:starEach [a] X.env=[(false,eval a X.env)]:=by rfl):PI X tg (.Call (.Name "range" p) [a] [] pos) (wJ ta):=by
 intro ae s Z H R I h;refine Call_ (v5 I hg hm boot_range (PyProof.Rows.callWith_type1 (cB (ha pos ae s Z H _ I h) λus s1 hh=>?_) hs rfl))
 obtain⟨vs,H1,I1,r1,q1⟩:=hh;obtain⟨j,e,q1,q2,q⟩:=q1;subst e;cases r1 with
 |cons r rr=>
  cases rr;obtain⟨t,rfl⟩:=r;exact call_range_1 (OO I1 (by lia) (by lia) q1 q2 (by simpa using q))
def NX{a b:Expr}{ta:TA}{p pos:Pos}(hg:Gl X "range")(hm:X.mg "range"=none)(ha:PA X [a,b] ta)(hs:starEach [a,b] X.env=[(false,eval a X.env),(false,eval b X.env)]:=by rfl)(nP:starEach [b] X.env=[(false,eval b X.env)]:=by rfl):
  PI X tg (.Call (.Name "range" p) [a,b] [] pos) (wK ta):=by
 intro ae s Z H R I h;refine Call_ (v5 I hg hm boot_range (PyProof.Rows.callWith_type1 (cB (ha pos ae s Z H _ I h) λus s1 ⟨vs,H1,I1,r1,q1⟩=>?_) (by rw[hs,nP]) (by rw[nP];rfl)))
 obtain⟨i,j,e,⟨q1,q2,q3,q4⟩,q⟩:=q1;subst e;cases r1 with
 |cons r rr=>
  cases rr with
  |cons r' rr=>
   cases rr;obtain⟨t,rfl⟩:=r;obtain⟨t',rfl⟩:=r';exact call_range_2 (OO I1 q1 q2 q3 q4 q)
def Mt(wi:TI)(g:TG)(tb:TS):TS:=λD Z H=>wi Z H λJ H1=>∃W:Nat->Nat->St->Hp->Prop,(∃m,W 0 m Z H1)/\∀i m Z H,W i m Z H->
 (J.stop i H/\D.nx Z H)\/(J.go i H/\∃N:St->Hp->Prop,(∀Z' H',N Z' H'->∃m',m'<m/\W (i+1) m' Z' H')/\∀x H',J.xj i H x H'->g x Z H' λZ2 H2=>tb { D with nx:=N,ct:=N,bk:=D.nx} Z2 H2)
def BK(fp:List Addr)(h:Heap):List (Addr×Obj):=fp.filterMap λb=>(h.get? b).map λo=>(b,o)
def E6{fp:List Addr}{h:Heap}{b:Addr}{o:Obj}(hb:b∈fp)(e:h.get? b=some o):(b,o)∈BK fp h:=vE.mpr ⟨b,hb,by rw[e];rfl⟩
def Vb{fp:List Addr}{h:Heap}{p:Addr×Obj}(hp:p∈BK fp h):p.1∈fp/\h.get? p.1=some p.2:=by
 obtain⟨b,hb,e⟩:=vE.mp hp;cases q:h.get? b with
 |none=>rw[q] at e;cases e
 |some o=>
  rw[q] at e;have e':(b,o)=p:=Option.some.inj e;subst e';exact⟨hb,q⟩
def Inv.pinned{ae:List (Addr×Obj)}{Z:St}{H:Hp}{s:Shared}{fp:List Addr}(I:Inv X ae Z H s)(hf:∀b∈fp,jZ X ae H b)(ho:∀b∈fp,∃o,s.heap.get? b=some o/\∀v,o.data≠.cell v):Inv X (ae++BK fp s.heap) Z H s:=
 I.ko λp hp=>(eI.mp hp).elim (λz=>I.pin p (hG _ z)) λz=>by
  obtain⟨hb,e⟩:=Vb z;obtain⟨f0,f1,f2,_⟩:=hf p.1 hb;obtain⟨o,e',d⟩:=ho p.1 hb;rw[e] at e';cases e';exact⟨e,f0,f1,f2,d⟩
def Inv.iq{ae pl:List (Addr×Obj)}{Z:St}{H:Hp}{s:Shared}(I:Inv X (ae++pl) Z H s):Inv X ae Z H s:=I.ko λp hp=>I.pin p (hG _ (jN _ hp))
def zm{iter:Expr}{body:List Stmt}{wi:TI}{g:TG}{tb:TS}{pos:Pos}(hp:PassesOwn (model X.prog X.w) X.A X.env X.xe)(hc:X.calm=true)(hi:PI X tg iter wi)(hg:PG X tg g)(hb:iy X body tb)
  (hs:∀x,foldedSetIterable iter X.env x=pure x:=by intro _;rfl):PS X (.For tg iter body [] pos) (Mt wi g tb):=by
 intro ae s Z H D I h;refine wpAny_For (cB (hi ae s Z H _ I h) λv s1 h1=>cB h1 λHr s2 h2=>?_) hs
 obtain⟨it,fp,tn,J,H2,e,I2,T,w_,f2,W,⟨m0,w0⟩,turn⟩:=h2;subst e;have pz:∀{H':Hp},(∀b∈fp,H' b=none)->∀b∈fp,jZ X ae H' b:=λhn b hb=>⟨hn b hb,(f2 b hb).2⟩
 refine codeAny_forLoop_any (λn s'=>∃i Z' H',Inv X ae Z' H' s'/\tn i s'.heap/\(∀b∈fp,H' b=none)/\W i n Z' H') ?_ m0 ⟨0,Z,H2,I2,w_,λb hb=>(f2 b hb).1,w0⟩
 rintro n s3 ⟨i,Z3,H3,I3,Tj,Sn,w3⟩;rcases turn i n Z3 H3 w3 with⟨stop,qn⟩|⟨go,N,hN,step⟩
 .refine wpAny_passesOwn hp (cB (T.done X rfl rfl rfl hc i ae s3 Z3 H3 X.xe I3 (pz Sn) Tj stop) λr s4 ⟨hr,I4⟩=>?_)
  subst hr;exact wpAny_execs_nil ⟨Z3,H3,I4,qn⟩
 .refine wpAny_passesOwn hp (cB (T.item X rfl rfl rfl hc i ae s3 Z3 H3 X.xe I3 (pz Sn) Tj go) λr s4 ⟨u,hr,h4⟩=>?_)
  subst hr;refine wpAny_passesOwn hp (cB h4 λ_ s5 hh=>?_)
  obtain⟨x,H5,I5,r5,y5,yS,K7⟩:=hh;have H9:=I5.pinned (pz K7) (T.obj _ _ yS);refine wpAny_passesOwn hp (cB (hg _ s5 Z3 H5 x u _ H9 r5 (step x H5 y5)) λ_ s6 hh=>?_)
  obtain⟨Z6,H6,I6,q6⟩:=hh;refine wpAny_passesOwn hp (cB (hb _ s6 Z6 H6 _ I6 q6) λf s7 q7=>?_)
  have again:∀{Z7:St} {H7:Hp},Inv X (ae++BK fp s5.heap) Z7 H7 s7->N Z7 H7->∃m,m<n/\∃i Z' H',Inv X ae Z' H' s7/\tn i s7.heap/\(∀b∈fp,H' b=none)/\W i m Z' H':=λ{Z7 H7} I7 n7=>by
   obtain⟨m',hm,w7⟩:=hN Z7 H7 n7;refine⟨m',hm,i+1,Z7,H7,I7.iq,T.keep _ _ _ yS λb hb o e=>(I7.pin (b,o) (hG _ (hG _ (E6 hb e)))).1,λb hb=>?_,w7⟩
   obtain⟨o,e,d⟩:=T.obj _ _ yS b hb;exact(I7.pin (b,o) (hG _ (hG _ (E6 hb e)))).2.1
  cases f with
  |next=>obtain⟨Z7,H7,I7,n7⟩:=q7;exact again I7 n7
  |cont=>obtain⟨Z7,H7,I7,n7⟩:=q7;exact again I7 n7
  |brk=>obtain⟨Z7,H7,I7,q7⟩:=q7;exact⟨Z7,H7,I7.iq,q7⟩
  |ret v=>obtain⟨x7,Z7,H7,I7,r7,q7⟩:=q7;exact⟨x7,Z7,H7,I7.iq,r7,q7⟩
end
def Wl{K:FG}{a:Addr}{xs:List V}{g:TG}{tb:TS}{D:Ends}{Z:St}{H:Hp}(Pv:Nat->St->Hp->Prop)(h0:Pv 0 Z H)(hl:∀i Z H,i<=xs.length->Pv i Z H->dX K H a xs)
  (hs:∀i x Z H,xs[i]?=some x->Pv i Z H->g x Z H λZ2 H2=>tb { D with nx:=Pv (i+1),ct:=Pv (i+1),bk:=D.nx} Z2 H2) (hd:∀Z H,Pv xs.length Z H->D.nx Z H) :
  ∃W:Nat->Nat->St->Hp->Prop,(∃m,W 0 m Z H)/\∀i m Z H,W i m Z H->
   ((xo K a).stop i H/\D.nx Z H)\/((xo K a).go i H/\∃N:St->Hp->Prop,(∀Z' H',N Z' H'->∃m',m'<m/\W (i+1) m' Z' H')/\∀x H',(xo K a).xj i H x H'->g x Z H' λZ2 H2=>tb { D with nx:=N,ct:=N,bk:=D.nx} Z2 H2):=by
 refine⟨λi m Z H=>m=xs.length - i/\i<=xs.length/\Pv i Z H,⟨xs.length,by simp,kr _,h0⟩,?_⟩
 rintro i m Z H ⟨rfl,hi,p⟩;have q:=hl i Z H hi p;by_cases gI:i<xs.length
 .refine .inr ⟨⟨xs,xs[i],q,by simp[gI]⟩,Pv (i+1),λZ' H' p'=>⟨xs.length - (i+1),by lia,rfl,gI,p'⟩,λx H' y=>?_⟩
  obtain⟨e,y⟩:=y;subst e;exact hs i x Z _ (y xs q) p
 .have e:i=xs.length:=by lia
  subst e;exact .inl ⟨⟨xs,q,cJ _⟩,hd Z H p⟩
def X0{K:FG}{a:Addr}{xs:List V}{g:TG}{tb:TS}{D:Ends}{Z:St}{H:Hp}(Pv:Nat->St->Hp->Prop)(h0:Pv 0 Z H)(hl:∀i Z H,i<=xs.length->Pv i Z H->gL K H a xs)
  (hs:∀i x Z H,xs[i]?=some x->Pv i Z H->g x Z H λZ2 H2=>tb { D with nx:=Pv (i+1),ct:=Pv (i+1),bk:=D.nx} Z2 H2) (hd:∀Z H,Pv xs.length Z H->D.nx Z H) :
  ∃W:Nat->Nat->St->Hp->Prop,(∃m,W 0 m Z H)/\∀i m Z H,W i m Z H->
   ((xp K a).stop i H/\D.nx Z H)\/((xp K a).go i H/\∃N:St->Hp->Prop,(∀Z' H',N Z' H'->∃m',m'<m/\W (i+1) m' Z' H')/\∀x H',(xp K a).xj i H x H'->g x Z H' λZ2 H2=>tb { D with nx:=N,ct:=N,bk:=D.nx} Z2 H2):=by
 refine⟨λi m Z H=>m=xs.length - i/\i<=xs.length/\Pv i Z H,⟨xs.length,by simp,kr _,h0⟩,?_⟩
 rintro i m Z H ⟨rfl,hi,p⟩;have q:=hl i Z H hi p;by_cases gI:i<xs.length
 .refine .inr ⟨⟨xs,xs[i],q,by simp[gI]⟩,Pv (i+1),λZ' H' p'=>⟨xs.length - (i+1),by lia,rfl,gI,p'⟩,λx H' y=>?_⟩
  obtain⟨e,y⟩:=y;subst e;exact hs i x Z _ (y xs q) p
 .have e:i=xs.length:=by lia
  subst e;exact .inl ⟨⟨xs,q,cJ _⟩,hd Z H p⟩
def NY{lo:Int}{n:Nat}{g:TG}{tb:TS}{D:Ends}{Z:St}{H:Hp}(Pv:Nat->St->Hp->Prop)(h0:Pv 0 Z H)
  (hs:∀i Z H,i<n->Pv i Z H->g (.int (lo+i)) Z H λZ2 H2=>tb { D with nx:=Pv (i+1),ct:=Pv (i+1),bk:=D.nx} Z2 H2) (hd:∀Z H,Pv n Z H->D.nx Z H) :
  ∃W:Nat->Nat->St->Hp->Prop,(∃m,W 0 m Z H)/\∀i m Z H,W i m Z H->
   ((tZ lo n).stop i H/\D.nx Z H)\/((tZ lo n).go i H/\∃N:St->Hp->Prop,(∀Z' H',N Z' H'->∃m',m'<m/\W (i+1) m' Z' H')/\∀x H',(tZ lo n).xj i H x H'->g x Z H' λZ2 H2=>tb { D with nx:=N,ct:=N,bk:=D.nx} Z2 H2):=by
 refine⟨λi m Z H=>m=n - i/\i<=n/\Pv i Z H,⟨n,by simp,kr _,h0⟩,?_⟩
 rintro i m Z H ⟨rfl,hi,p⟩;by_cases gI:i<n
 .refine .inr ⟨gI,Pv (i+1),λZ' H' p'=>⟨n - (i+1),by lia,rfl,gI,p'⟩,λx H' y=>?_⟩
  obtain⟨e,y⟩:=y;subst e y;exact hs i Z _ gI p
 .have e:i=n:=by lia
  subst e;exact .inl ⟨cJ _,hd Z H p⟩
abbrev R2:=V->V->Hp->VK->Prop
def gd(X:Cx)(f:Value->Value->Sem Value)(r:R2):Prop:=
 ∀(ae:List (Addr×Obj)) (s:Shared) (Z:St) (H:Hp) (x y:V) (v u:Value) (Q:VK),Inv X ae Z H s->RelV x v->RelV y u->r x y H Q->
  wpAny (model X.prog X.w) X.A (f v u) (EP X ae Z Q) X.xe s
def EX(X:Cx)(f:Value->Sem Value)(r:V->Hp->VK->Prop):Prop:=
 ∀(ae:List (Addr×Obj)) (s:Shared) (Z:St) (H:Hp) (x:V) (v:Value) (Q:VK),Inv X ae Z H s->RelV x v->r x H Q->
  wpAny (model X.prog X.w) X.A (f v) (EP X ae Z Q) X.xe s
def cT(X:Cx)(f:Value)(r:List V->Hp->VK->Prop):Prop:=
 ∀(ae:List (Addr×Obj)) (s:Shared) (Z:St) (H:Hp) (xs:List V) (us:List Value) (Q:VK),Inv X ae Z H s->Vals xs us->r xs H Q->
  wpAny (model X.prog X.w) X.A (call f us) (EP X ae Z Q) X.xe s
def Ia(X:Cx)(r:V->Hp->(Bool->Hp->Prop)->Prop):Prop:=
 ∀(ae:List (Addr×Obj)) (s:Shared) (Z:St) (H:Hp) (x:V) (v:Value) (Q:Bool->Hp->Prop),Inv X ae Z H s->RelV x v->r x H Q->
  wpAny (model X.prog X.w) X.A (truthy v) (TP X ae Z Q) X.xe s
def Es(r:R2)(ta tb:TE):TE:=λZ H Q=>ta Z H λx H1=>tb Z H1 λy H2=>r x y H2 Q
def tUn(r:V->Hp->VK->Prop)(ta:TE):TE:=λZ H Q=>ta Z H λx H1=>r x H1 Q
def rI(C:Int->Int->Prop)(g:Int->Int->V):R2:=λx y H Q=>∃i j,x=.int i/\y=.int j/\C i j/\Q (g i j) H
def rD(g:Int->Int->V):R2:=λx y H Q=>∃i j,x=.int i/\y=.int j/\Q (g i j) H
def rU(g:Int->V):V->Hp->VK->Prop:=λx H Q=>∃i,x=.int i/\Q (g i) H
section
variable{X:Cx}{a b c:Expr}{ta tb tc:TE}{pos:Pos}
def xX(ha:PE X a ta)(hb:PE X b tb){ae:List (Addr×Obj)}{s:Shared}{Z:St}{H:Hp}{R:V->V->Hp->Prop}(I:Inv X ae Z H s)
  (h:ta Z H λx H1=>tb Z H1 λy H2=>R x y H2) {Q:Value->Shared->Prop} {f:Value->Value->Sem Value}
  (hf:∀v u s2 x y H2,Inv X ae Z H2 s2->RelV x v->RelV y u->R x y H2->wpAny (model X.prog X.w) X.A (f v u) Q X.xe s2) :
  wpAny (model X.prog X.w) X.A (eval a X.env) (λv s₁=>wpAny (model X.prog X.w) X.A (eval b X.env) (λu s₂=>wpAny (model X.prog X.w) X.A (f v u) Q X.xe s₂) X.xe s₁) X.xe s:=by
 refine cB (ha ae s Z H _ I h) λv s1 hh=>?_
 obtain⟨x,H1,I1,r1,q1⟩:=hh;refine cB (hb ae s1 Z H1 _ I1 q1) λu s2 hh=>?_
 obtain⟨y,H2,I2,r2,q2⟩:=hh;exact hf v u s2 x y H2 I2 r1 r2 q2
def e8j{op:Operator}{r:R2}(ho:gd X (binaryOp op) r)(ha:PE X a ta)(hb:PE X b tb):PE X (.BinOp a op b pos) (Es r ta tb):=by
 intro ae s Z H Q I h;exact wpAny_BinOp (xX ha hb I h λv u s2 x y H2 I2 rx ry q=>ho ae s2 Z H2 x y v u Q I2 rx ry q)
def e8k{op:UnaryOp}{r:V->Hp->VK->Prop}(ho:EX X (unaryOp op) r)(ha:PE X a ta):PE X (.UnaryOp op a pos) (tUn r ta):=by
 intro ae s Z H Q I h;exact UnaryOp_ (cB (ha ae s Z H _ I h) λv s1 ⟨x,H1,I1,r1,q1⟩=>ho ae s1 Z H1 x v Q I1 r1 q1)
def Mf{f:Value->Value->Sem Value}{C:Int->Int->Prop}{g:Int->Int->Int}
  (rule:∀(i j:Int) (t u:Tok) (s:Shared) (Q:Value->Shared->Prop) (E:Value->Shared->Prop),C i j->Q (.int (g i j) s.toks) { s with toks:=s.toks+1}->wpAny (model X.prog X.w) X.A (f (.int i t) (.int j u)) Q E s) :
  gd X f (rI C λi j=>.int (g i j)):=by
 intro ae s Z H x y v u Q I rx ry h;obtain⟨i,j,rfl,rfl,hc,q⟩:=h;obtain⟨t,rfl⟩:=rx;obtain⟨t',rfl⟩:=ry;exact rule i j t t' s _ _ hc ⟨.int (g i j),H,I.tok _,⟨_,rfl⟩,q⟩
def DU{f:Value->Value->Sem Value}{g:Int->Int->Int}
  (rule:∀(i j:Int) (t u:Tok) (s:Shared) (Q:Value->Shared->Prop) (E:Value->Shared->Prop),Q (.int (g i j) s.toks) { s with toks:=s.toks+1}->wpAny (model X.prog X.w) X.A (f (.int i t) (.int j u)) Q E s) :
  gd X f (rD λi j=>.int (g i j)):=by
 intro ae s Z H x y v u Q I rx ry h;obtain⟨i,j,rfl,rfl,q⟩:=h;obtain⟨t,rfl⟩:=rx;obtain⟨t',rfl⟩:=ry;exact rule i j t t' s _ _ ⟨.int (g i j),H,I.tok _,⟨_,rfl⟩,q⟩
def DT{f:Value->Value->Sem Value}{g:Int->Int->Bool}
  (rule:∀(i j:Int) (t u:Tok) (s:Shared) (Q:Value->Shared->Prop) (E:Value->Shared->Prop),Q (.bool (g i j)) s->wpAny (model X.prog X.w) X.A (f (.int i t) (.int j u)) Q E s) :
  gd X f (rD λi j=>.bl (g i j)):=by
 intro ae s Z H x y v u Q I rx ry h;obtain⟨i,j,rfl,rfl,q⟩:=h;obtain⟨t,rfl⟩:=rx;obtain⟨t',rfl⟩:=ry;exact rule i j t t' s _ _ ⟨.bl (g i j),H,I,rfl,q⟩
def xk(i j:Int):Prop:=0<j/\j<1073741824
def uB(i j:Int):Prop:=(-(2^64)<i/\i<2^64)\/(-(2^64)<j/\j<2^64)
def uB.ok{i j:Int}(h:uB i j):IntMulOk i j:=by
 rcases h with⟨h1,h2⟩|⟨h1,h2⟩
 .exact .of_left (intBits_le_64 h1 h2)
 .exact .of_right (intBits_le_64 h1 h2)
def yG:gd X (binaryOp .Add) (rD λi j=>.int (i+j)):=DU λ_ _ _ _ _ _ _ q=>add_int q
def BL:gd X (binaryOp .Sub) (rD λi j=>.int (i - j)):=DU λ_ _ _ _ _ _ _ q=>sub_int q
def yH:gd X (binaryOp .Mult) (rI uB λi j=>.int (i*j)):=Mf λ_ _ _ _ _ _ _ hc q=>mul_int q hc.ok
def Bs:gd X (binaryOp .FloorDiv) (rI xk λi j=>.int (i / j)):=Mf λi j _ _ _ _ _ hc q=>by
 have h1:(0:Int)<j:=hc.1;have h2:j<1073741824:=hc.2;exact floordiv_int (by lia) (by rw[Int.fdiv_eq_ediv_of_nonneg i (by lia)];exact q) (.inl (PyProof.noPylong_small (by lia)))
def ud:gd X (binaryOp .Mod) (rI (λ_ j=>0<j) λi j=>.int (i%j)):=Mf λi j _ _ _ _ _ hc q=>by
 have h1:(0:Int)<j:=hc;exact mod_int' (by lia) (by rw[Int.fmod_eq_emod_of_nonneg i (by lia)];exact q)
def unI{f:Value->Sem Value}{g:Int->Int}
  (rule:∀(i:Int) (t:Tok) (s:Shared) (Q:Value->Shared->Prop) (E:Value->Shared->Prop),Q (.int (g i) s.toks) { s with toks:=s.toks+1}->wpAny (model X.prog X.w) X.A (f (.int i t)) Q E s) :
  EX X f (rU λi=>.int (g i)):=by
 intro ae s Z H x v Q I rx h;obtain⟨i,rfl,q⟩:=h;obtain⟨t,rfl⟩:=rx;exact rule i t s _ _ ⟨.int (g i),H,I.tok _,⟨_,rfl⟩,q⟩
def QV:EX X (unaryOp .USub) (rU λi=>.int (-i)):=unI λ_ _ _ _ _ q=>neg_int q
end
section
variable{X:Cx}{a b c:Expr}{ta tb tc:TE}{pos:Pos}
def zo{ae:List (Addr×Obj)}{Z:St}{H:Hp}{s:Shared}{Q:VK}{k k':Bool}(I:Inv X ae Z H s)(q:Q (.bl k) H)(e:k=k'):EP X ae Z Q (.bool k') s:=by
 subst e;exact⟨.bl k,H,I,rfl,q⟩
def xY:gd X (compareOp .Lt) (rD λi j=>.bl (decide (i<j))):=DT λ_ _ _ _ _ _ _ q=>lt_int q
def we:gd X (compareOp .Gt) (rD λi j=>.bl (decide (j<i))):=DT λ_ _ _ _ _ _ _ q=>gt_int q
def Vc:gd X (compareOp .In) (λx y H Q=>∃i j,x=.str i/\y=.str j/\Q (.bl (!(Builtin.Str.occurrences j i 0 j.length 1).isEmpty)) H):=by
 intro ae s Z H x y v u Q I rx ry h;obtain⟨i,j,rfl,rfl,q⟩:=h;obtain⟨t,rfl⟩:=rx;obtain⟨t',rfl⟩:=ry;exact in_str (zo I q rfl)
def vf:gd X (compareOp .IsNot) (λx y H Q=>y=.bH/\Q (.bl (!decide (x=.bH))) H):=by
 intro ae s Z H x y v u Q I rx ry h;obtain⟨rfl,q⟩:=h;cases ry;refine isnot_none_gen (zo I q ?_);cases x <;> first
  |(cases rx;rfl)
  |(obtain⟨t,rfl⟩:=rx;rfl)
def Um:gd X (compareOp .NotIn) (λx y H Q=>∃i j,x=.str i/\y=.str j/\Q (.bl (!(!(Builtin.Str.occurrences j i 0 j.length 1).isEmpty))) H):=by
 intro ae s Z H x y v u Q I rx ry h;obtain⟨i,j,rfl,rfl,q⟩:=h;obtain⟨t,rfl⟩:=rx;obtain⟨t',rfl⟩:=ry;exact notIn_str (zo I q rfl)
def gd.or{f:Value->Value->Sem Value}{r r':R2}(h:gd X f r)(h':gd X f r'):gd X f (λx y H Q=>r x y H Q\/r' x y H Q):=by
 intro ae s Z H x y v u Q I rx ry q;rcases q with q|q
 .exact h ae s Z H x y v u Q I rx ry q
 .exact h' ae s Z H x y v u Q I rx ry q
def QW(b:Expr){op:CmpOp}(h:op≠.In:=by decide)(h2:op≠.NotIn:=by decide):behindInMarks op b=false:=by
 have e1:(op == CmpOp.In)=false:=by cases op <;> first|rfl|exact bQ rfl h
 have e2:(op == CmpOp.NotIn)=false:=by cases op <;> first|rfl|exact bQ rfl h2
 cases b <;> simp[behindInMarks,e1,e2]
def X1{op:CmpOp}{r:R2}(ho:gd X (compareOp op) r)(ha:PE X a ta)(hb:PE X b tb)(hm:behindInMarks op b=false):PE X (.Compare a [op] [b] pos) (Es r ta tb):=by
 intro ae s Z H Q I h;exact wpAny_Compare1 (xX ha hb I h λv u s2 x y H2 I2 rx ry q=>ho ae s2 Z H2 x y v u Q I2 rx ry q) hm
def xf(t:TE):TT:=λZ H Q=>t Z H λx H'=>∃k,x=.bl k/\Q k H'
def X2{op:CmpOp}{r:R2}(ho:gd X (compareOp op) r)(ha:PE X a ta)(hb:PE X b tb)(hm:behindInMarks op b=false):PT X (.Compare a [op] [b] pos) (xf (Es r ta tb)):=by
 intro ae s Z H Q I h;refine wpAny_isTrue_Compare1 (cB (ha ae s Z H _ I h) λv s1 ⟨x,H1,I1,r1,q1⟩=>cB (hb ae s1 Z H1 _ I1 q1) λu s2 ⟨y,H2,I2,r2,q2⟩=>
  cB (ho ae s2 Z H2 x y v u _ I2 r1 r2 q2) λc s3 ⟨z,H3,I3,r3,k,e,q3⟩=>?_) hm
 subst e;cases r3;exact wpAny_truthy_bool ⟨H3,I3,q3⟩
def Z0(r r':R2)(ta tb tc:TE):TE:=λZ H Q=>ta Z H λx H1=>tb Z H1 λy H2=>r x y H2 λz H3=>∃k,z=.bl k/\
 (if k=true then tc Z H3 λw' H4=>r' y w' H4 Q else Q (.bl false) H3)
def Wm{op yF:CmpOp}{r r':R2}(ho:gd X (compareOp op) r)(sJ:gd X (compareOp yF) r')(ha:PE X a ta)(hb:PE X b tb)(hc:PE X c tc)
  (hm:lastMarks [op,yF] [b,c]=false:=by with_unfolding_all rfl):PT X (.Compare a [op,yF] [b,c] pos) (xf (Z0 r r' ta tb tc)):=by
 intro ae s Z H Q I h;refine isTrue_chain (cB (ha ae s Z H _ I h) λv s1 ⟨x,H1,I1,r1,q1⟩=>test_link (cB (hb ae s1 Z H1 _ I1 q1) λu s2 ⟨y,H2,I2,r2,q2⟩=>
  cB (ho ae s2 Z H2 x y v u _ I2 r1 r2 q2) λd s3 ⟨z,H3,I3,r3,k,e,q3⟩=>?_)) hm
 subst e;cases r3;refine wpAny_truthy_bool ?_;cases k with
 |false=>
  obtain⟨k',e',q'⟩:=q3;cases e';exact ite_ff ⟨H3,I3,q'⟩
 |true=>
  refine ite_tt (test_last (cB (hc ae s3 Z H3 _ I3 q3) λw' s4 ⟨z',H4,I4,r4,q4⟩=>cB (sJ ae s4 Z H4 y z' u w' _ I4 r2 r4 q4) λd' s5 ⟨z2,H5,I5,r5,k2,e2,q5⟩=>?_))
  subst e2;cases r5;exact wpAny_truthy_bool ⟨H5,I5,q5⟩
def uF(K:FG)(x:V)(H:Hp)(k:Bool):Prop:=
 match x with
 |.bH=>k=false
 |.bl b=>k=b
 |.int i=>k=(i != 0)
 |.str y=>y.length<=sizeLine/\k=((y.length:Int) != 0)
 |.zB y=>y.size<=sizeLine/\k=((y.size:Int) != 0)
 |.ref p=>(∃xs,dX K H p xs/\k = !xs.isEmpty)\/(∃xs,gL K H p xs/\k = !xs.isEmpty)\/∃kvs,H p=some (.dK kvs)/\k = !kvs.isEmpty
 |_=>False
def UH{κ:Type}{kvs:List (κ×V)}{vs:List (κ×Value)}(r:KV kvs vs):(!vs.isEmpty) = !kvs.isEmpty:=by
 cases r <;> rfl
def Nz{xs:List V}{ay:List Value}(r:Vals xs ay):(!ay.toArray.isEmpty) = !xs.isEmpty:=by
 cases r <;> simp
def xO:(sizeLine:Nat)<2^63:=by rw[sizeLine_eq];decide
def Z4:Ia X (λx H Q=>∃k,uF X.K x H k/\Q k H):=by
 intro ae s Z H x v Q I rx h;obtain⟨k,e,q⟩:=h;have hl:=xO;have hs:sizeLine=16777216:=sizeLine_eq;cases x with
 |bH=>
  cases rx;have e':k=false:=e;subst e';exact truthy_none ⟨H,I,q⟩
 |bl b=>
  cases rx;have e':k=b:=e;subst e';exact wpAny_truthy_bool ⟨H,I,q⟩
 |int i=>
  obtain⟨t,rfl⟩:=rx;have e':k=(i != 0):=e;subst e';exact PySem.P.truthy_int ⟨H,I,q⟩
 |str y=>
  obtain⟨t,rfl⟩:=rx;obtain⟨hy,e'⟩:y.length<=sizeLine/\k=((y.length:Int) != 0):=e;subst e';exact PySem.P.truthy_str (by lia) ⟨H,I.tok _,q⟩
 |zB y=>
  obtain⟨t,rfl⟩:=rx;obtain⟨hy,e'⟩:y.size<=sizeLine/\k=((y.size:Int) != 0):=e;subst e';exact PySem.W.truthy_bytes (by lia) ⟨H,I.tok _,q⟩
 |ref p=>
  cases rx;have e':(∃xs,dX X.K H p xs/\k = !xs.isEmpty)\/(∃xs,gL X.K H p xs/\k = !xs.isEmpty)\/∃kvs,H p=some (.dK kvs)/\k = !kvs.isEmpty:=e;rcases e' with⟨xs,hx,e'⟩|⟨xs,hx,e'⟩|⟨kvs,hx,e'⟩
  .subst e';obtain⟨ay,r,pl,hz⟩:=I.list hx;have hlen:=r.length;exact wpAny_truthy_list pl.isList (by simp only[fH];lia) ⟨H,I.tok _,by rw[Nz r];exact q⟩
  .subst e';obtain⟨ay,r,pl,hz⟩:=I.tuple hx;have hlen:=r.length;exact truthy_tuple pl (by simp only[fH];lia) ⟨H,I.tok _,by rw[Nz r];exact q⟩
  .subst e';obtain⟨hz,hS,vs,r,m⟩:kvs.length<=sizeLine/\(p == sysModules)=false/\∃vs,KV kvs vs/\s.heap.DictOf (FN X.prog X.w) p vs:=I.cV p _ hx;have hlen:kvs.length=vs.length:=Paired.length r;exact wpAny_truthy_dict hS m (by lia) ⟨H,I.tok _,by rw[UH r];exact q⟩
 |_=>exact(show False from e).elim
def Wn(ha:PE X a ta)(he:∀whole,isTrue a X.env whole=(do let v <-whole;standAt a.pos;holding [v] (truthy v))):
  PT X a (λZ H Q=>ta Z H λx H'=>∃k,uF X.K x H' k/\Q k H'):=by
 intro ae s Z H Q I h;exact isTrue_plain (cB (ha ae s Z H _ I h) λv s1 ⟨x,H1,I1,r1,q1⟩=>Z4 ae s1 Z H1 x v Q I1 r1 q1) (he _)
def pk:gd X (binaryOp .Add) (λx y H Q=>∃i j,x=.str i/\y=.str j/\i.length+j.length<=sizeLine/\Q (.str (i++j)) H):=by
 intro ae s Z H x y v u Q I rx ry h;obtain⟨i,j,rfl,rfl,hz,q⟩:=h;obtain⟨t,rfl⟩:=rx;obtain⟨t',rfl⟩:=ry;exact add_str (λt' tk=>⟨.str (i++j),H,I.tok _,⟨_,rfl⟩,q⟩) hz
def vals1{x:V}{us:List Value}(r:Vals [x] us):∃u,us=[u]/\RelV x u:=by
 cases r with
 |cons r1 r2=>cases r2;exact⟨_,rfl,r1⟩
def vals2{x y:V}{us:List Value}(r:Vals [x,y] us):∃u w',us=[u,w']/\RelV x u/\RelV y w':=by
 cases r with
 |cons r1 r2=>
  cases r2 with
  |cons r3 r4=>cases r4;exact⟨_,_,rfl,r1,r3⟩
def NZ:cT X (.type "int") (λxs H Q=>(∃i,xs=[.int i]/\Q (.int i) H)\/∃k,xs=[.bl k]/\Q (.int (if k then 1 else 0)) H):=by
 intro ae s Z H xs us Q I r h;rcases h with⟨i,rfl,q⟩|⟨k,rfl,q⟩
 .obtain⟨u,rfl,t,rfl⟩:=vals1 r;exact call_int_int ⟨.int i,H,I,⟨_,rfl⟩,q⟩
 .obtain⟨u,rfl,r1⟩:=vals1 r;cases r1;exact call_int_bool ⟨.int (if k then 1 else 0),H,I.tok _,⟨_,rfl⟩,q⟩
end
structure ObjM (h:Heap) (x dx C:Addr) (mA:Str->Option Value):Prop where
 obj:h.get? x=some (PySem.W.instObj C dx)
 ns:h.Ns1 dx mA
 ne:dx≠x
section
variable{prog:Program}{w:World}{A:Around}{E:Value->Shared->Prop}{s:Shared}{K:FG}{x dx C f:Addr}{mA:Str->Option Value}{name:Str}{v:Value}
end
def ng.some_of{v:V}{o:Option Value}(r:ng (some v) o):∃u,o=some u/\RelV v u:=by
 cases o with
 |none=>exact(show False from r).elim
 |some u=>exact⟨u,rfl,r⟩
section
variable{P:Program}{w:World}{H H':Hp}{h h':Heap}{a C dx:Addr}{fs fs':List (Str×V)}
end
structure Tw (K:FG) (C:Addr):Prop where
 pg:PySem.W.plainGet K C Str.empty=true
 hd:PySem.W.hasDictIn K C=true
 po:PySem.W.plainOver K C=true
 sa:PySem.W.findIn K (.ref C) "__setattr__"=some (some (.builtin "object.__setattr__"))
structure Con (K:FG) (C:Addr) (f:Str) (v:V) (u:Value):Prop where
 at_:PySem.W.findIn K (.ref C) f=some (some u)
 rel:RelV v u
 get:PySem.W.specialIn K u "__get__"=some none
 cp:PySem.W.copiedNames.contains f=false
structure Meth (K:FG) (C:Addr) (m:Str) (f:Addr):Prop where
 at_:PySem.W.findIn K (.ref C) m=some (some (.ref f))
 fn:PySem.W.isFn K (.ref f)=true
 kp:PySem.W.keepIn K (.ref f)=true
section
variable{X:Cx}{ae:List (Addr×Obj)}{Z:St}{H:Hp}{s:Shared}{a C dx:Addr}{fs:List (Str×V)}{f:Str}{v:V}{A:Around}{E:Value->Shared->Prop}
end
section
variable{X:Cx}{o e value:Expr}{f:Str}{pos pos' ou:Pos}{ta tv:TE}
end
section
variable{X:Cx}{ae:List (Addr×Obj)}{Z:St}{H:Hp}{s:Shared}{A:Around}{E:Value->Shared->Prop}{Q:Value->Shared->Prop}{c:Value}{b:Bool}
inductive kH (K:FG) (H:Hp):V->Value->Prop where
 |bH:kH K H .bH (.type "NoneType")
 |bl (x:Bool):kH K H (.bl x) (.type "bool")
 |int (i:Int):kH K H (.int i) (.type "int")
 |str (x:Str):kH K H (.str x) (.type "str")
 |zK (x:UInt64):kH K H (.zK x) (.type "float")
 |lst {a:Addr} {xs:List V} (e:H a=some (.lst xs)):kH K H (.ref a) (.type "list")
 |Y {a:Addr} {o:Obj} {xs:List V} (e:H a=some (.Y o (.lst xs))):kH K H (.ref a) (.type "list")
 |tup {a:Addr} {xs:List V} (e:H a=some (.tup xs)):kH K H (.ref a) (.type "tuple")
 |dK {a:Addr} {kvs:List (Key×V)} (e:H a=some (.dK kvs)):kH K H (.ref a) (.type "dict")
 |dT {a:Addr} {kvs:List (List Key×V)} (e:H a=some (.dT kvs)):kH K H (.ref a) (.type "dict")
 |ins {a C dx:Addr} {fs:List (Str×V)} (e:H a=some (.ins C dx fs)) (cl:Tw K C) (ha:PySem.W.findIn K (.ref C) "__class__"=some (some (.builtin "object.__class__")))
   (hn:PySem.W.specialIn K (.builtin "object.__class__") "__get__"=some (some (.builtin "getset_descriptor.__get__"))) (htk:PySem.W.takesIn K (.builtin "object.__class__")=some true)
   (hm:PySem.W.mroIn K C (.type "object")=some true):kH K H (.ref a) (.ref C)
end
structure eD (k:Nat) (A:Around):Prop where
 hd:A.handled=none
 dp:A.depth+3*k+5<recursionLimit
 un:A.units+16*k+200<cLine
def eD.mono{j k:Nat}{A:Around}(r:eD k A)(h:j<=k):eD j A:=⟨r.hd,by have:=r.dp;lia,by have:=r.un;lia⟩
def eD.deeper{k:Nat}{A:Around}(r:eD (k+1) A)(env:Env):eD k (A.deeper env):=
 ⟨r.hd,by have:=r.dp;show A.depth+1+3*k+5<_;lia,by have:=r.un;show A.units+3+16*k+200<_;lia⟩
def eD.depth{k:Nat}{A:Around}(r:eD k A):A.depth<recursionLimit:=by have:=r.dp;lia
def eD.units{k:Nat}{A:Around}(r:eD k A):A.units+64<cLine:=by have:=r.un;lia
def Mw:TA:=λ_ H Q=>Q [] H
def xc(ta:TE)(tr:TA):TA:=λZ H Q=>ta Z H λx H1=>tr Z H1 λxs H2=>Q (x::xs) H2
section
variable{X:Cx}{e:Expr}{es:List Expr}{te:TE}{t:TA}{pos:Pos}
def yJ:PA X [] Mw:=λ_ _ _ _ H Q I h=>Calls.spliced_nil ⟨[],H,I,.nil,h⟩
def X3(ha:PE X e te)(hr:PA X es t)(hs:starEach (e::es) X.env=(false,eval e X.env)::starEach es X.env:=by rfl):PA X (e::es) (xc te t):=by
 intro pos ae s Z H Q I h;rw[hs];show wpAny _ _ (spliced ((false,eval e X.env)::backTo pos (starEach es X.env))) _ _ s;refine Calls.spliced_cons (cB (ha ae s Z H _ I h) λu s1 hh=>?_)
 obtain⟨x,H1,I1,r1,q1⟩:=hh;exact cB (hr pos ae s1 Z H1 _ I1 q1) λus s2 ⟨xs,H2,I2,r2,q2⟩=>⟨x::xs,H2,I2,.cons r1 r2,q2⟩
def MA(t:TA):TE:=λZ H Q=>t Z H λxs H1=>xs.length<=sizeLine/\∀p,H1 p=none->Q (.ref p) (upd H1 p (.tup xs))
def Mv(t:TA):TE:=λZ H Q=>t Z H λxs H1=>xs.length<=sizeLine/\∀p,H1 p=none->Q (.ref p) (upd H1 p (.lst xs))
def Z5{x1}(h:PA X es t):PE X (.Tuple es x1 pos) (MA t):=by
 intro ae s Z H Q I hq;refine wpAny_Tuple_spliced (cB (h pos ae s Z H _ I hq) λus s1 ⟨xs,H1,I1,r,z,q⟩=>⟨by rw[<-r.length];exact z,?_⟩)
 have hf:H1 s1.heap.objs.size=none:=I1.cV.fresh (cJ _);refine⟨.ref s1.heap.objs.size,upd H1 s1.heap.objs.size (.tup xs),I1.laid (t':=s1.toks) (λb u e=>jO _ e) (cJ _) ?_,rfl,q _ hf⟩
 exact⟨z,us,r,⟨_,oB _ rfl,rfl,_,rfl⟩⟩
def Z8(h:PA X es t):PE X (.List es pos) (Mv t):=by
 intro ae s Z H Q I hq;refine wpAny_List_spliced (cB (h pos ae s Z H _ I hq) λus s1 ⟨xs,H1,I1,r,z,q⟩=>⟨by rw[<-r.length];exact z,?_⟩)
 have hf:H1 s1.heap.objs.size=none:=I1.cV.fresh (cJ _);refine⟨.ref s1.heap.objs.size,upd H1 s1.heap.objs.size (.lst xs),I1.laid (t':=s1.toks) (λb u e=>jO _ e) (cJ _) ?_,rfl,q _ hf⟩
 exact⟨z,us,0,r,oB _ rfl⟩
end
abbrev Sp:=List V->Hp->VK->XK->Prop
abbrev qo:=List Env->Hp->Shared->XK->Value->Shared->Prop
structure uC (P:Program) (w:World) (K:FG) (mg:Str->Option Value) (base:Heap) (A:Around) (outer:List Env) (s:Shared) (H:Hp):Prop where
 frames:A.frames=some outer
 mod:Mod K mg base
 bs:∀b o,base.get? b=some o->s.heap.get? b=some o/\H b=none
 wm:base.objs.size<=s.heap.objs.size
 kL:s.heap.FunFrames base outer
 zL:∀b∈rj outer,H b=none
 cV:kD P w H s.heap
 bare:AllBare s.gens
def CE(outer:List Env)(P:Program)(w:World)(H:Hp)(s:Shared)(Q:VK)(u:Value)(s':Shared):Prop:=
 ∃v H',s'.os=s.os/\AllBare s'.gens/\Un (rj outer) [] H H' s.heap s'.heap/\kD P w H' s'.heap/\RelV v u/\Q v H'
def CR(CX:qo)(outer:List Env)(P:Program)(w:World)(H:Hp)(s:Shared)(Q:VK)(E:XK)(r:Result)(s':Shared):Prop:=
 match r with
 |.ok (.ret u)=>CE outer P w H s Q u s'
 |.ok _=>False
 |.error e=>CX outer H s E e s'
structure bR (P:Program) (w:World) (K:FG) (mg:Str->Option Value) (base:Heap) (CX:qo) (k:Nat) (f:Addr) (fd:FuncData) (ps:List Str) (sp:Sp):Prop where
 len:∀vs H Q E,sp vs H Q E->vs.length=ps.length
 run:∀(A:Around) (outer:List Env) (s:Shared) (H:Hp) (args:Args) (us:List Value) (vs:List V) (Q:VK) (E:XK),eD k A->uC P w K mg base A outer s H->BindsTo s fd args (ps.zip us)->Vals vs us->sp vs H Q E->
  codeAny (model P w) A (.call (.ref f) args) (CR CX outer P w H s Q E) s
def bR.imp{P:Program}{w:World}{K:FG}{mg:Str->Option Value}{base:Heap}{CX:qo}{k:Nat}{f:Addr}{fd:FuncData}{ps:List Str}{sp Tg:Sp}(F:bR P w K mg base CX k f fd ps sp)
  (h:∀vs H Q E,Tg vs H Q E->sp vs H Q E):bR P w K mg base CX k f fd ps Tg:=
 ⟨λvs H Q E q=>F.len vs H Q E (h _ _ _ _ q),λA outer s H args us vs Q E hr he hb hv hs=>F.run A outer s H args us vs Q E hr he hb hv (h _ _ _ _ hs)⟩
section
variable{X:Cx}{ae:List (Addr×Obj)}{Z:St}{H:Hp}{s s':Shared}
def Inv.K1(I:Inv X ae Z H s):uC X.prog X.w X.K X.mg X.base X.A X.stack s H:=
 ⟨I.ok.frames,I.ok.mod,I.bs,lT I.ok.wm I.sz,I.stack,I.qj,I.cV,I.bare⟩
def Inv.after{Q:VK}{u:Value}(I:Inv X ae Z H s)(h:CE X.stack X.prog X.w H s Q u s'):EP X ae Z Q u s':=by
 obtain⟨v,H',os,bare,un,cV,r,q⟩:=h;obtain⟨hh,g,d,t,wU⟩:=s';obtain rfl:wU=s.os:=os;exact⟨v,H',I.call (h':=hh) (g':=g) (d':=d) (t':=t) (ch:=[]) un cV bare (λb z=>bQ z (by simp)),r,q⟩
end
def qk(sp:Sp)(wu:List V)(E:XK)(t:TA):TE:=λZ H Q=>t Z H λvs H1=>sp (vs++wu) H1 Q E
def Binds(K:FG)(fd:FuncData)(ps:List Str)(ds:List Value):Prop:=
 ∀(s:Shared) (us:List Value),K.In s.heap->(us++ds).length=ps.length->BindsTo s fd ⟨us,[]⟩ (ps.zip (us++ds))
def Binds.all{K:FG}{fd:FuncData}{ps:List Str}(h:∀us:List Value,us.length=ps.length->bindArgs fd ⟨us,[]⟩=pure (ps.zip us)):Binds K fd ps []:=λs us _ hl=>by
 rw[kZ] at hl ⊢;exact .of_eq (h us hl)
def JV(CX:qo)(X:Cx)(E:XK):Prop:=∀(ae:List (Addr×Obj)) (Z:St) (H:Hp) (s:Shared) (e:Value) (s':Shared),Inv X ae Z H s->CX X.stack H s E e s'->X.xe e s'
section
variable{X:Cx}{CX:qo}{k:Nat}{f C:Addr}{fd:FuncData}{ps:List Str}{sp:Sp}{wu:List V}{ds:List Value}{E:XK}{x m:Str}{p pos apos:Pos}{e o:Expr}{es:List Expr}{ta:TE}{t:TA}
def Z9{ae:List (Addr×Obj)}{Z:St}{H:Hp}{s:Shared}{Q:VK}{us:List Value}{vs:List V}(F:bR X.prog X.w X.K X.mg X.base CX k f fd ps sp)(hr:eD k X.A)(hb:Binds X.K fd ps ds)(hd:Vals wu ds)(hx:JV CX X E)
  (I:Inv X ae Z H s) (r:Vals vs us) (h:sp (vs++wu) H Q E):wpAny (model X.prog X.w) X.A (call (.ref f) us) (EP X ae Z Q) X.xe s:=by
 have r2:Vals (vs++wu) (us++ds):=r.append hd;have hl:(us++ds).length=ps.length:=by rw[<-r2.length];exact F.len _ _ _ _ h
 refine wpAny_call (codeAny_mono (F.run X.A X.stack s H ⟨us,[]⟩ (us++ds) (vs++wu) Q E hr I.K1 (hb s us I.zY hl) r2 h) λr s' hq=>?_)
 cases r with
 |error e=>exact hx ae Z H s e s' I hq
 |ok fl=>
  cases fl with
  |ret u=>exact I.after hq
  |next=>exact False.elim hq
  |brk=>exact False.elim hq
  |cont=>exact False.elim hq
def X4(F:bR X.prog X.w X.K X.mg X.base CX k f fd ps sp)(hr:eD k X.A)(hg:Gl X x)(hm:X.mg x=some (.ref f))(hk:PySem.W.keepIn X.K (.ref f)=true)(hb:Binds X.K fd ps ds)(hd:Vals wu ds)(hx:JV CX X E)
  (ha:PA X (e::es) t) (o7:(x == ("__debug__":Str))=false:=by decide) (he:starEach (e::es) X.env=(false,eval e X.env)::starEach es X.env:=by rfl) (j8:(backTo pos (starEach es X.env)).any (·.1)=false:=by rfl) :
  PE X (.Call (.Name x p) (e::es) [] pos) (qk sp wu E t):=by
 intro ae s Z H Q I h;refine wpAny_Call_Name_kw (Pz I hg hm ?_ o7);refine PySem.W.callWith_K (h₀:=X.base) I.ok.mod.LV hk (cB (ha pos ae s Z H _ I h) λus s1 ⟨vs,H1,I1,r,q⟩=>⟨I1.zY,?_⟩) he j8
 exact Z9 F hr hb hd hx I1 r q
structure Mk (K:FG) (C f:Addr):Prop where
 makes:PySem.W.makesIn K C=true
 init:PySem.W.findIn K (.ref C) "__init__"=some (some (.ref f))
 fn:PySem.W.isFn K (.ref f)=true
 kp:PySem.W.keepIn K (.ref C)=true
end
section
variable{X:Cx}{CX:qo}{k:Nat}{f C:Addr}{fd:FuncData}{ps ks:List Str}{sp:Sp}{E:XK}{x m:Str}{p pos apos kpos:Pos}{e o:Expr}{es:List Expr}{kws:List Keyword}{te ta:TE}{t tk:TA}{nm:Option Str}
structure KBinds (K:FG) (fd:FuncData) (ps ks:List Str) (g:List Value->List Value->List Value) (gV:List V->List V->List V):Prop where
 to:∀(s:Shared) (us ws:List Value),K.In s.heap->(g us ws).length=ps.length->BindsTo s fd ⟨us,ks.zip ws⟩ (ps.zip (g us ws))
 rel:∀{vs:List V} {us:List Value} {zs:List V} {ws:List Value},Vals vs us->Vals zs ws->Vals (gV vs zs) (g us ws)
variable{g:List Value->List Value->List Value}{gV:List V->List V->List V}
end
structure aM (N P:List Str) (sc:Scope):Prop where
 kind:sc.kind=.function
 co:sc.isCoroutine=false
 gen:sc.isGenerator=false
 nd:N.Nodup
 pre:N.take P.length=P
 par:∀x∈P,sc.names.lookup x=some .local \/ sc.names.lookup x=some .cell
 yB:∀y∈sc.names,y.2≠.free
theorem N4{kindOf:Str->Option NameKind}{x:Str}:∀{binds:List (Str×Value)} {m:Str->Option Value},(∀v,(x,v)∉binds)->bindL kindOf binds m x=m x
 |[],_,_=>rfl
 |(n,v)::r,m,h=>by
  unfold bindL;rw[N4 λw hw=>h w (oA _ hw)]
  split
  .have:x≠n:=by rintro rfl;exact h v mW
   simp[this]
  .rfl
theorem N5{kindOf:Str->Option NameKind}{x:Str}:∀{binds:List (Str×Value)} {m:Str->Option Value},(∀v,(x,v)∉binds)->bindC kindOf binds m x=m x
 |[],_,_=>rfl
 |(n,v)::r,m,h=>by
  unfold bindC;rw[N5 λw hw=>h w (oA _ hw)]
  split
  .rfl
  .have:x≠n:=by rintro rfl;exact h v mW
   simp[this]
theorem N6{kindOf:Str->Option NameKind}{x:Str}{v:Value}:∀{P:List Str} {vs:List Value} {i:Nat} {m:Str->Option Value},P.Nodup->P[i]?=some x->vs[i]?=some v->kindOf x=some .local ->
  bindL kindOf (P.zip vs) m x=some v
 |[],_,_,_,_,h,_,_=>by simp at h
 |_::_,[],_,_,_,_,h,_=>by simp at h
 |p::P,w::vs,0,m,nd,h1,h2,hk=>by
  simp at h1 h2;subst h1;subst h2;show bindL kindOf ((p,w)::P.zip vs) m p=_;unfold bindL;rw[N4 λv hv=>(hU.mp nd).1 (List.of_mem_zip hv).1,aJ hk]
  simp
 |p::P,w::vs,i+1,m,nd,h1,h2,hk=>by
  show bindL kindOf ((p,w)::P.zip vs) m x=_;unfold bindL;exact N6 (i:=i) (hU.mp nd).2 (by simpa using h1) (by simpa using h2) hk
theorem N7{kindOf:Str->Option NameKind}{x:Str}{v:Value}:∀{P:List Str} {vs:List Value} {i:Nat} {m:Str->Option Value},P.Nodup->P[i]?=some x->vs[i]?=some v->kindOf x≠some .local ->
  bindC kindOf (P.zip vs) m x=some v
 |[],_,_,_,_,h,_,_=>by simp at h
 |_::_,[],_,_,_,_,h,_=>by simp at h
 |p::P,w::vs,0,m,nd,h1,h2,hk=>by
  simp at h1 h2;subst h1;subst h2;show bindC kindOf ((p,w)::P.zip vs) m p=_;unfold bindC;rw[N5 λv hv=>(hU.mp nd).1 (List.of_mem_zip hv).1,aQ hk]
  simp
 |p::P,w::vs,i+1,m,nd,h1,h2,hk=>by
  show bindC kindOf ((p,w)::P.zip vs) m x=_;unfold bindC;exact N7 (i:=i) (hU.mp nd).2 (by simpa using h1) (by simpa using h2) hk
def start(N:List Str)(vs:List V):St:=vs.map some++List.replicate (N.length - vs.length) none
def nH(CX:qo)(P:Program)(w:World)(K:FG)(mg:Str->Option Value)(base:Heap)(N:List Str)(qual:Str)(scope:Scope)(f:Addr)(cd:Value)(A:Around)(outer:List Env)(s:Shared)(H:Hp)(E:XK):Cx where
 prog:=P
 w:=w
 K:=K
 mg:=mg
 base:=base
 A:=A.deeper (envOfC qual scope s.heap.objs.size f cd)
 N:=N
 s₀:=s
 H₀:=H
 env:=envOfC qual scope s.heap.objs.size f cd
 outer:=outer
 stack:=envOfC qual scope s.heap.objs.size f cd::outer
 ex:=[]
 calm:=true
 fn:=λ_=>true
 pn:=[]
 xe:=λe s'=>wpAny (model P w) (A.deeper (envOfC qual scope s.heap.objs.size f cd)) (leaving (envOfC qual scope s.heap.objs.size f cd) e) (λ_ Ef=>CX outer H s E e Ef) (λe' Ef=>CX outer H s E e' Ef) s'
def OP{sc:Scope}{n:Nat}{x:Str}(h:sc.names.lookup x=some .cell):∃c,(cellsFrom n sc.names []).lookup x=some c:=by
 have q:=PySem.W.cellsFrom_some sc.names n [] (.inl h);exact MP.mp q
def Vd{CX:qo}{P:Program}{w:World}{K:FG}{mg:Str->Option Value}{base:Heap}{N ps:List Str}{qual:Str}{scope:Scope}{f:Addr}{cd:Value}{A:Around}{outer:List Env}{s s1:Shared}{H:Hp}{E:XK}{us:List Value}{vs:List V}
  (S:aM N ps scope) (hd:A.handled=none) (e0:uC P w K mg base A outer s H) (hl:vs.length=ps.length) (r:Vals vs us)
  (x:InCallC s s.heap.objs.size (bindL (envOfC qual scope s.heap.objs.size f cd).kindOf (ps.zip us) λ_=>none) (cellsFrom (s.heap.objs.size+1) scope.names []) (bindC (envOfC qual scope s.heap.objs.size f cd).kindOf (ps.zip us) λ_=>none) s1) :
  Inv (nH CX P w K mg base N qual scope f cd A outer s H E) [] (start N vs) H s1:=by
 have j8:ps.length<=N.length:=by have:=congrArg List.length S.pre;rw[ql] at this;lia
 obtain⟨h1,tk,rfl,hk⟩:=x.done;have DO:∀b:Addr,b∉(nH CX P w K mg base N qual scope f cd A outer s H E).ex:=λb z=>bQ (show b∈([]:List Addr) from z) (by simp)
 refine⟨⟨e0.mod,S.kind,rfl,rfl,cJ _,λy z c h1 h2=>?_,λy hy=>?_,λy c _ h=>?_,λ_=>hd,Around.frames_deeper e0.frames,.inr ⟨rfl,rfl⟩,λb z=>bQ z (DO b),e0.bs,e0.wm,λb _ _=>DO b,λb z=>bQ z (DO b),e0.kL,e0.zL⟩,
  rfl,e0.bare,Un.kept hk,⟨_,x.toInCall.ns,λi y v h1 h2 h3=>?_⟩,λy c h=>⟨_,x.cell y c h⟩,e0.cV.fresh (cJ _),λy c h=>?_,λp hp=>bQ (show p∈([]:List (Addr×Obj)) from hp) (by simp),e0.cV.kept hk,?_⟩
 .exact name_of_addr x.apart (PySem.mem_of_lookup h1) (PySem.mem_of_lookup h2)
 .have hy:scope.names.lookup y=some .cell\/scope.names.lookup y=some .free:=hy;rcases hy with hy|hy
  .exact OP hy
  .exact bQ rfl (S.yB _ (PySem.mem_of_lookup hy))
 .exact Nat.le_of_lt (x.above y c (PySem.mem_of_lookup h))
 .have hi:i<vs.length:=by
   unfold start at h2;by_cases hi:i<vs.length
   .exact hi
   .rw[yW (by simpa using hi)] at h2
    rw[HY] at h2;split at h2 <;> cases h2
  have ha:vs[i]?=some v:=by
   unfold start at h2;rw[yX (by simpa using hi),i7] at h2
   cases e:vs[i]? with
   |none=>rw[e] at h2;cases h2
   |some a=>rw[e] at h2;cases h2;rfl
  obtain⟨u,hu,rv⟩:=r.get ha;have hp:ps[i]?=some y:=by
   rw[<-S.pre,List.getElem?_take_of_lt (by lia)];exact h1
  have S5:ps.Nodup:=by rw[<-S.pre];exact S.nd.sublist (List.take_sublist _ _)
  refine⟨u,rv,?_⟩;rcases S.par y (jr hp) with k|k
  .exact .inl ⟨k,N6 S5 hp hu k⟩
  .obtain⟨c,e⟩:=OP (n:=s.heap.objs.size+1) k;refine .inr ⟨.inl k,c,e,?_⟩;have q:=x.cell y c e;rw[N7 S5 hp hu (by show scope.names.lookup y≠_;rw[k];decide)] at q
   exact q
 .exact e0.cV.fresh (Nat.le_of_lt (x.above y c (PySem.mem_of_lookup h)))
 .unfold start;show _=N.length;rw[dy,bz,MQ];lia
def e8l{CX:qo}{P:Program}{w:World}{K:FG}{mg:Str->Option Value}{base:Heap}{k:Nat}{f:Addr}{name qual:Str}{params:Arguments}{body:List Stmt}{scope:Scope}{dV kV doc pm dq ct oc:Value}{an od:Option Addr}
  {osl:Array (Option Value)} {N ps:List Str} {sp:Sp} (lk:K.lookup f=some ⟨oc,od,.func (PySem.W.fnOf name qual params body scope dV kV doc pm an dq ct),osl⟩) (qE:PySem.W.codeIn K dq qual=true) (S:aM N ps scope)
  (len:∀vs H Q E,sp vs H Q E->vs.length=ps.length)
  (kN:∀(A:Around) (outer:List Env) (s:Shared) (H:Hp) (vs:List V) (Q:VK) (E:XK),eD k (A.deeper (envOfC qual scope s.heap.objs.size f dq))->sp vs H Q E->
   ∃t,iy (nH CX P w K mg base N qual scope f dq A outer s H E) body t/\t { nx:=λ_ H'=>Q .bH H',rt:=Q} (start N vs) H) :
  bR P w K mg base CX (k+1) f (PySem.W.fnOf name qual params body scope dV kV doc pm an dq ct) ps sp:=by
 refine⟨len,λA outer s H args us vs Q E hr e0 hb r wI=>?_⟩
 have hl:=len _ _ _ _ wI;have KX:K.In s.heap:=e0.mod.LV.keeps λb o e=>(e0.bs b o e).1
 have lim:s.heap.NoLimit:=e0.mod.nolimit.keeps λb o e=>(e0.bs b o e).1
 have Ds:∀y∈ps.zip us,scope.names.lookup y.1=some .local \/ (scope.names.lookup y.1=some .cell/\((cellsFrom (s.heap.objs.size+1) scope.names []).lookup y.1).isSome=true):=λ⟨n,v⟩ hy=>by
  rcases S.par n (List.of_mem_zip hy).1 with q|q
  .exact .inl q
  .exact .inr ⟨q,PySem.W.cellsFrom_some _ _ _ (.inl q)⟩
 refine codeAny_call_function hr.depth (KX _ _ lk) rfl S.co S.gen rfl (PySem.W.codeRec_of KX qE) (hb _ _ _ _ ?_);refine wpAny_newFunctionEnv_cells S.kind Ds λenv he s1 x=>?_
 subst he;refine⟨lim.keeps x.toInCall.keep,codeAny_func ?_⟩;obtain⟨t,ht,hq⟩:=kN A outer s H vs Q E (hr.deeper _) wI;have I:Inv (nH CX P w K mg base N qual scope f dq A outer s H E) [] (start N vs) H s1:=Vd S hr.hd e0 hl r x;refine wpAny_mono (ht [] s1 (start N vs) H _ I hq) (λfl s' hs=>?_) λe s' hs=>hs
 have fin:∀{Z':St} {H':Hp} {v:V} {u:Value},Inv (nH CX P w K mg base N qual scope f dq A outer s H E) [] Z' H' s'->RelV v u->Q v H'->CE outer P w H s Q u s':=
  λ{Z' H' v u} J rv q=>⟨v,H',J.os,J.bare,J.base,J.cV,rv,q⟩
 cases fl with
 |ret u=>
  obtain⟨v,Z',H',J,rv,q⟩:=hs;exact fin J rv q
 |next=>
  obtain⟨Z',H',J,q⟩:=hs;exact fin (v:=V.bH) (u:=Value.none) J rfl q
 |brk=>
  obtain⟨_,_,_,q⟩:=hs;exact False.elim q
 |cont=>
  obtain⟨_,_,_,q⟩:=hs;exact False.elim q
section
variable{X:Cx}{x:Str}{p pos:Pos}{e:Expr}{es:List Expr}{t:TA}{id T:String}{r:List V->Hp->VK->Prop}
def Ms(r:List V->Hp->VK->Prop)(t:TA):TE:=λZ H Q=>t Z H λvs H1=>r vs H1 Q
def Wo(hc:cT X (.builtin id) r)(hg:Gl X x)(hm:X.mg x=none)(hv:bootBuiltins x=some (.builtin id))(ha:PA X (e::es) t)(hn:x≠"__name__":=by decide)(o7:(x == ("__debug__":Str))=false:=by decide)
  (he:starEach (e::es) X.env=(false,eval e X.env)::starEach es X.env:=by rfl) (j8:(backTo pos (starEach es X.env)).any (·.1)=false:=by rfl):PE X (.Call (.Name x p) (e::es) [] pos) (Ms r t):=by
 intro ae s Z H Q I h;refine wpAny_Call_Name_kw (v5 I hg hm hv ?_ hn o7);exact PyProof.Rows.callWith_builtin1 (cB (ha pos ae s Z H _ I h) λus s1 ⟨vs,H1,I1,r1,q1⟩=>hc ae s1 Z H1 vs us Q I1 r1 q1) he j8
def Ve(hc:cT X (.type T) r)(hg:Gl X x)(hm:X.mg x=none)(hv:bootBuiltins x=some (.type T))(ha:PA X (e::es) t)(hn:x≠"__name__":=by decide)(o7:(x == ("__debug__":Str))=false:=by decide)
  (he:starEach (e::es) X.env=(false,eval e X.env)::starEach es X.env:=by rfl) (j8:(backTo pos (starEach es X.env)).any (·.1)=false:=by rfl):PE X (.Call (.Name x p) (e::es) [] pos) (Ms r t):=by
 intro ae s Z H Q I h;refine wpAny_Call_Name_kw (v5 I hg hm hv ?_ hn o7);exact PyProof.Rows.callWith_type1 (cB (ha pos ae s Z H _ I h) λus s1 ⟨vs,H1,I1,r1,q1⟩=>hc ae s1 Z H1 vs us Q I1 r1 q1) he j8
end
end L2
namespace HT
open PySem PyProof.Rows
section
open PySem.SeqAt
open PySem.AutoSeq1 (wpAny_loadPart')
open PySem.MeetsSeq PySem.MeetsSeq2 PySem.MeetsSeq3
end
variable{sl:Addr}{vl vu:Value}{lo hi:Option Int}
section
variable{prog:Program}{w:World}{A:Around}{E:Value->Shared->Prop}{s:Shared}
def dC(n d:Nat):Option Int->Nat
 |none=>d
 |some v=>if v<0 then(v+(n:Int)).toNat else min v.toNat n
def Z_(n d:Nat)(hd:d<=n)(o:Option Int):dC n d o<=n:=by
 cases o with
 |none=>exact hd
 |some v=>
  show(if v<0 then(v+(n:Int)).toNat else min v.toNat n)<=n
  by_cases hv:v<0
  .rw[aJ hv];lia
  .rw[aQ hv];exact Nat.min_le_right _ _
def PC(v:Int)(n d:Nat):(if v<0 then max (v+(n:Int)) 0 else min v (n:Int))=((dC n d (some v):Nat):Int):=by
 show(if v<0 then max (v+(n:Int)) 0 else min v (n:Int))=(((if v<0 then(v+(n:Int)).toNat else min v.toNat n):Nat):Int)
 by_cases hv:v<0
 .simp only[aJ hv];lia
 .simp only[aQ hv];lia
def UI(lo hi:Option Int)(n:Nat):Builtin.Slice.sliceAdjust lo hi 1 (n:Int)=(((dC n 0 lo:Nat):Int),((dC n n hi:Nat):Int)):=by
 have h1:¬((1:Int)<0):=by lia
 unfold Builtin.Slice.sliceAdjust;simp only[h1,bS];refine Prod.ext ?_ ?_
 .cases lo with
  |none=>rfl
  |some v=>exact PC v n 0
 .cases hi with
  |none=>rfl
  |some v=>exact PC v n n
def UJ(i j:Nat):Builtin.Slice.slicePlaces (i:Int) (j:Int) 1=j - i:=by
 unfold Builtin.Slice.slicePlaces;have h1:(1:Int) > 0:=by lia
 simp only[h1,aX,Int.ediv_one];split <;> lia
def NA{v:Value}{o:Option Int}{Q:Option Int->Shared->Prop}(p:IsPart v o)(h:Q o s):wpAny (model prog w) A (Builtin.Slice.slicePartIndex v) Q E s:=by
 cases p with
 |none=>exact slicePart_none h
 |int i t=>exact slicePart_int h
def Ud{n:Nat}{Q:Int×Int×Nat->Shared->Prop}(hs:s.heap.IsSliceOf sl vl vu .none)(pl:IsPart vl lo)(pu:IsPart vu hi)
  (h:Q (((dC n 0 lo:Nat):Int),1,dC n n hi - dC n 0 lo) s):wpAny (model prog w) A (Builtin.Slice.sliceApplied (.ref sl) (pure (n:Int))) Q E s:=by
 obtain⟨os,Du,SD,Ha⟩:=id hs;unfold Builtin.Slice.sliceApplied Builtin.Slice.sliceFields;refine aB (aB (wpAny_field Du Ha (x:=vl) rfl (aB (wpAny_field Du Ha (x:=vu) rfl (aB (wpAny_field Du Ha (x:=.none) rfl (bh ?_)))))));refine aB (slicePart_none ?_);show wpAny _ _ (if((1:Int) == 0)=true then _ else _) _ _ s
 rw[aQ (by decide)]
 refine aB (NA pl (aB (NA pu (aB (bh ?_)))));show wpAny _ _ (match Builtin.Slice.sliceAdjust lo hi 1 (n:Int) with|(lo,hi)=>pure (lo,(1:Int),Builtin.Slice.slicePlaces lo hi 1)) _ _ s
 rw[UI lo hi n];show wpAny _ _ (pure (((dC n 0 lo:Nat):Int),(1:Int),Builtin.Slice.slicePlaces ((dC n 0 lo:Nat):Int) ((dC n n hi:Nat):Int) 1)) _ _ s;rw[UJ];exact bh h
def Wq(xs:Array Value)(i k:Nat):((List.range k).filterMap λ(m:Nat)=>xs[((i:Int)+(m:Int)*1).toNat]?).toArray=((xs.toList.drop i).take k).toArray:=by
 have e:(λ(m:Nat)=>xs[((i:Int)+(m:Int)*1).toNat]?)=λm=>xs[i+m]?:=by
  funext m;have:((i:Int)+(m:Int)*1).toNat=i+m:=by lia
  rw[this]
 rw[e];have:=pick_run xs i k;rw[List.filterMap_map] at this;have e2:((λx=>xs[x]?)∘λx=>i+x)=λm=>xs[i+m]?:=rfl
 rw[e2] at this;rw[this]
def jc{t:Addr}{items:Array Value}{Q:Value->Shared->Prop}(ht:IsTup s.heap t items)(hs:s.heap.IsSliceOf sl vl vu .none)(pl:IsPart vl lo)(pu:IsPart vu hi)
  (hw:¬(dC items.size 0 lo=0/\dC items.size items.size hi=items.size))
  (h:Q (.ref s.heap.objs.size) { s with heap:=s.heap.push { cls:=.type "tuple",data:=.seq ((items.toList.drop (dC items.size 0 lo)).take (dC items.size items.size hi - dC items.size 0 lo)).toArray}})
  (hsz:items.size<=sizeLine):wpAny (model prog w) A (getItem (.ref t) (.ref sl)) Q E s:=by
 have p_:sizeOk (.seq ((items.toList.drop (dC items.size 0 lo)).take (dC items.size items.size hi - dC items.size 0 lo)).toArray):=by
  show((items.toList.drop (dC items.size 0 lo)).take (dC items.size items.size hi - dC items.size 0 lo)).toArray.size<=sizeLine;rw[fH,ql,vF,uy];lia
 have hj:dC items.size items.size hi<=items.size:=Z_ _ _ (cJ _) hi;obtain⟨os,Du,SD,Ha⟩:=id hs;have hTs:s.TypeIs (.ref sl) "slice":=⟨os,Du,SD⟩;unfold getItem;try with_reducible refine mZ ?_
 first|refine aB (bh ?_)|skip
 refine aB (wpAny_sequenceKey ht.typeIs (by decide) ?_)
 refine aB (wpAny_callSpecial?_slot (name:=Str.ofString "__getitem__") ht.typeIs PyProof.Rows.slot_tuple_getitem
  (wpAny_call_entry PyProof.Rows.slot_tuple_getitem ht.typeIs entry_tuple_getitem ?_ (args_tuple_getitem _ _)))
 show wpAny _ _ (Builtin.Tuple.tupleItemsOf (.ref t) >>= _) _ _ s;refine aB (tupleItemsOf_ ht ?_);refine aB (wpAny_typeOf hTs ?_);rw[aJ (by decide)]
 refine aB (Ud hs pl pu ?_);have ur:¬((((dC items.size 0 lo:Nat):Int) == 0&&(1:Int) == 1&&(dC items.size items.size hi - dC items.size 0 lo) == items.size)=true):=by
  intro q;rw[lS,lS] at q;have q1:((dC items.size 0 lo:Nat):Int)=0:=eq_of_beq q.1.1;have q2:dC items.size items.size hi - dC items.size 0 lo=items.size:=eq_of_beq q.2;exact hw ⟨by lia,by lia⟩
 show wpAny _ _ (if(((dC items.size 0 lo:Nat):Int) == 0&&(1:Int) == 1&&(dC items.size items.size hi - dC items.size 0 lo) == items.size)=true then _ else _) _ _ s
 rw[aQ ur,Wq];first
  |exact aB (m:=Builtin.Tuple.tupleExact _) (wpAny_newObj_type (bh ⟨_,rfl,bh h⟩) p_)
  |exact aB (m:=Builtin.Tuple.tupleExact _) (wpAny_newObj_type (aB (bh (bh ⟨_,rfl,bh h⟩))) p_)
  |exact aB (aB (m:=Builtin.Tuple.tupleExact _) (wpAny_newObj_type (bh (bh ⟨_,rfl,bh h⟩)) p_))
  |exact aB (aB (m:=Builtin.Tuple.tupleExact _) (wpAny_newObj_type (bh ⟨_,rfl,bh h⟩) p_))
end
end HT
namespace L2
open PySem PySem.Spec PyProof.Rows
variable{r:V->Option Int->Option Int->Hp->VK->Prop}{n j t':Nat}{i:Int}{ae:List (Addr×Obj)}{Z:St}{H:Hp}{s:Shared}{ay its' us:List Value}{x:V}{h':Heap}
abbrev TO:=St->Hp->(Option Int->Hp->Prop)->Prop
def PO(X:Cx)(e:Option Expr)(t:TO):Prop:=
 ∀(ae:List (Addr×Obj)) (s:Shared) (Z:St) (H:Hp) (Q:Option Int->Hp->Prop),Inv X ae Z H s->t Z H Q->
  wpAny (model X.prog X.w) X.A (evalPart e X.env) (λu s'=>∃o H',Inv X ae Z H' s'/\IsPart u o/\Q o H') X.xe s
def X5:TO:=λ_ H Q=>Q none H
def Et(t:TE):TO:=λZ H Q=>t Z H λx H1=>∃i,x=.int i/\Q (some i) H1
section
variable{X:Cx}{e:Expr}{te:TE}{lo hi:Option Expr}{tl th:TO}{pos p2:Pos}
def X6:PO X none X5:=by
 intro ae s Z H Q I h;rw[evalPart_none];exact bh ⟨none,H,I,.none,h⟩
def X7(h:PE X e te):PO X (some e) (Et te):=by
 intro ae s Z H Q I hw;rw[evalPart_some];refine cB (h ae s Z H _ I hw) λu s1 hh=>?_
 obtain⟨x,H1,I1,r1,q1⟩:=hh;obtain⟨i,rfl,q⟩:=q1;obtain⟨t,rfl⟩:=r1;exact⟨some i,H1,I1,.int i t,q⟩
def rL(X:Cx)(r:V->Option Int->Option Int->Hp->VK->Prop):Prop:=
 ∀(ae:List (Addr×Obj)) (s:Shared) (Z:St) (H:Hp) (x:V) (v vl vu:Value) (lo hi:Option Int) (sl:Addr) (Q:VK),Inv X ae Z H s->RelV x v->s.heap.IsSliceOf sl vl vu .none->IsPart vl lo->IsPart vu hi->r x lo hi H Q->
  ∃T id,typeLookup (.type T) "__getitem__"=pure (some (.builtin id))/\s.TypeIs v T/\wpAny (model X.prog X.w) X.A (getItem v (.ref sl)) (EP X ae Z Q) X.xe s
def rL.or{r':V->Option Int->Option Int->Hp->VK->Prop}(h:rL X r)(h':rL X r'):rL X (λx lo hi H Q=>r x lo hi H Q\/r' x lo hi H Q):=by
 intro ae s Z H x v vl vu lo hi sl Q I rx hs pl pu q;rcases q with q|q
 .exact h ae s Z H x v vl vu lo hi sl Q I rx hs pl pu q
 .exact h' ae s Z H x v vl vu lo hi sl Q I rx hs pl pu q
def tSl(r:V->Option Int->Option Int->Hp->VK->Prop)(te:TE)(tl th:TO):TE:=λZ H Q=>te Z H λx H1=>tl Z H1 λl H2=>th Z H2 λu H3=>r x l u H3 Q
def Wr(hr:rL X r)(he:PE X e te)(hl:PO X lo tl)(hu:PO X hi th):PE X (.Subscript e (.Slice lo hi none p2) pos) (tSl r te tl th):=by
 intro ae s Z H Q I h;refine Subscript_ (cB (he ae s Z H _ I h) λv s1 hh=>?_)
 obtain⟨x,H1,I1,r1,q1⟩:=hh;refine wpAny_Slice (cB (hl ae s1 Z H1 _ I1 q1) λvl s2 ⟨l,H2,I2,pl,q2⟩=>cB (hu ae s2 Z H2 _ I2 q2) λvu s3 ⟨u,H3,I3,pu,q3⟩=>?_)
 rw[evalPart_none];refine bh ?_;have I4:Inv X ae Z H3 { s3 with heap:=s3.heap.push { cls:=.type "slice",data:=.fields #[vl,vu,.none]}}:=I3.kept (t':=s3.toks) λb ob q=>jO _ q
 obtain⟨T,id,hT,ht,hg⟩:=hr ae { s3 with heap:=s3.heap.push { cls:=.type "slice",data:=.fields #[vl,vu,.none]}} Z H3 x v vl vu l u s3.heap.objs.size Q I4 r1 (Heap.IsSliceOf.new ..) pl pu q3;show wpAny (model X.prog X.w) X.A (subscriptTail e (.Slice lo hi none p2) v (.ref s3.heap.objs.size)) (EP X ae Z Q) X.xe { s3 with heap:=s3.heap.push { cls:=.type "slice",data:=.fields #[vl,vu,.none]}};exact tail_any (ops:=[.ref s3.heap.objs.size,v]) ht hT hg (by with_unfolding_all rfl)
def nF(xs:List V)(lo hi:Option Int):List V:=(xs.drop (HT.dC xs.length 0 lo)).take (HT.dC xs.length xs.length hi - HT.dC xs.length 0 lo)
def Np(xs:List V)(lo hi:Option Int):(nF xs lo hi).length<=xs.length:=by
 unfold nF;rw[ql,vF];lia
def yP(K:FG):V->Option Int->Option Int->Hp->VK->Prop:=λx lo hi H Q=>∃a xs,x=.ref a/\gL K H a xs/\
 ¬(HT.dC xs.length 0 lo=0/\HT.dC xs.length xs.length hi=xs.length)/\∀p,H p=none->Q (.ref p) (upd H p (.tup (nF xs lo hi)))
def Γ:rL X (yP X.K):=by
 intro ae s Z H x v vl vu lo hi sl Q I rx hs pl pu h;obtain⟨a,xs,rfl,hx,hw,q⟩:=h;cases rx;obtain⟨ay,r,ht,hz⟩:=I.tuple hx;have hlen:ay.toArray.size=xs.length:=by rw[fH];exact r.length.symm
 refine⟨"tuple",_,PyProof.Rows.slot_tuple_getitem.lookup,ht.typeIs,?_⟩;refine HT.jc ht hs pl pu (by rw[hlen];exact hw) ?_ (by rw[hlen];exact hz)
 rw[hlen];refine⟨.ref s.heap.objs.size,_,I.laid (t':=s.toks) (o:=.tup (nF xs lo hi)) (λb ob q=>jO _ q) (cJ _) ?_,rfl,q _ (I.cV.fresh (cJ _))⟩
 exact⟨lT (Np xs lo hi) hz,_,(r.drop (HT.dC xs.length 0 lo)).take (HT.dC xs.length xs.length hi - HT.dC xs.length 0 lo),IsTup.new _ _⟩
end
def mH(n:Nat)(i:Int):Option Nat:=if 0<=i then(if i<n then some i.toNat else none) else if -(n:Int)<=i then some (i+n).toNat else none
def cN{α:Type}(xs:List α)(i:Int):Option α:=(mH xs.length i).bind λj=>xs[j]?
def Jr(h:mH n i=some j):seqIndex? i n=some j/\j<n /\ -(n:Int)<=i/\i<n:=by
 unfold mH at h;by_cases h0:0<=i
 .rw[aJ h0] at h;by_cases h1:i<n
  .rw[aJ h1] at h;have e:i.toNat=j:=Option.some.inj h;exact⟨by rw[seqIndex_of h0 h1,e],by lia,by lia,h1⟩
  .rw[aQ h1] at h;cases h
 .rw[aQ h0] at h;by_cases h1:-(n:Int)<=i
  .rw[aJ h1] at h;have e:(i+n).toNat=j:=Option.some.inj h;exact⟨by rw[seqIndex_neg (by lia) h1,e],by lia,h1,by lia⟩
  .rw[aQ h1] at h;cases h
def Js{α:Type}{xs:List α}{v:α}(h:cN xs i=some v):∃j,seqIndex? i xs.length=some j/\xs[j]?=some v/\j<xs.length /\ -(xs.length:Int)<=i/\i<xs.length:=by
 unfold cN at h;cases e:mH xs.length i with
 |none=>rw[e] at h;cases h
 |some j=>
  rw[e] at h;obtain⟨h1,h2,h3,h4⟩:=Jr e;exact⟨j,h1,h,h2,h3,h4⟩
def oE{α:Type}{xs:List α}{v:α}(h:xs[j]?=some v):cN xs (j:Int)=some v:=by
 have hj:j<xs.length:=(eO.mp h).1;have e:mH xs.length (j:Int)=some j:=by
  unfold mH;rw[aJ (by lia),aJ (by lia)];simp
 unfold cN;rw[e];exact h
def Bt(b:Expr):Prop:=∀o i,subscripted b false o i=operate [o,i] (getItem o i)
def qr(X:Cx)(r:R2):Prop:=
 ∀(value slice:Expr) (ae:List (Addr×Obj)) (s:Shared) (Z:St) (H:Hp) (x y:V) (v u:Value) (Q:VK),Inv X ae Z H s->RelV x v->RelV y u->r x y H Q->
  subscripted slice false v u=operate [v,u] (getItem v u)->wpAny (model X.prog X.w) X.A (subscriptTail value slice v u) (EP X ae Z Q) X.xe s
def T8(X:Cx)(id:String)(r:V->List V->Hp->VK->Prop):Prop:=
 ∀(ae:List (Addr×Obj)) (s:Shared) (Z:St) (H:Hp) (x:V) (xs:List V) (v:Value) (us:List Value) (Q:VK),Inv X ae Z H s->RelV x v->Vals xs us->r x xs H Q->
  wpAny (model X.prog X.w) X.A (call (.builtin id) (v::us)) (EP X ae Z Q) X.xe s
section
variable{X:Cx}{a b:Expr}{ta tb:TE}{pos:Pos}
def qr.or{r r':R2}(h:qr X r)(h':qr X r'):qr X (λx y H Q=>r x y H Q\/r' x y H Q):=by
 intro value slice ae s Z H x y v u Q I rx ry q hs;rcases q with q|q
 .exact h value slice ae s Z H x y v u Q I rx ry q hs
 .exact h' value slice ae s Z H x y v u Q I rx ry q hs
def Ku{r:R2}(hr:qr X r)(ha:PE X a ta)(hb:PE X b tb)(hs:Bt b):PE X (.Subscript a b pos) (Es r ta tb):=by
 intro ae s Z H Q I h;exact Subscript_ (xX ha hb I h λv u s2 x y H2 I2 rx ry q=>hr a b ae s2 Z H2 x y v u Q I2 rx ry q (hs _ _))
def yM(K:FG):R2:=λx y H Q=>∃p xs i v,x=.ref p/\y=.int i/\dX K H p xs/\cN xs i=some v/\Q v H
def yN(K:FG):R2:=λx y H Q=>∃p xs i v,x=.ref p/\y=.int i/\gL K H p xs/\cN xs i=some v/\Q v H
def Eb:R2:=λx y H Q=>∃z i c,x=.str z/\y=.int i/\z.length<=sizeLine/\cN z.cps.toList i=some c/\Q (.str ⟨#[c]⟩) H
def X8:qr X (yM X.K):=by
 intro value slice ae s Z H x y v u Q I rx ry h hs;obtain⟨p,xs,i,z,rfl,rfl,hq,he,q⟩:=h;cases rx;obtain⟨t,rfl⟩:=ry;obtain⟨ay,r,pl,hz⟩:=I.list hq;obtain⟨j,h1,h2,h3,h4,h5⟩:=Js he;obtain⟨w,ew,rE⟩:=r.get h2;have hl:=r.length;have hn:=xO;have fin:EP X ae Z Q w s:=⟨z,H,I,rE,q⟩;by_cases h0:0<=i
 .have hj:i.toNat=j:=by
   rw[seqIndex_of h0 h5] at h1;exact Option.some.inj h1
  exact item_listR pl.isList h0 (by lia) (by rw[hj];simpa using ew) fin hs
 .have hj:(i+(ay.toArray.size:Int)).toNat=j:=by
   rw[seqIndex_neg (by lia) h4] at h1
   rw[fH,<-hl];exact Option.some.inj h1
  exact subscriptTail_builtinR (x:=w) pl.isList.typeIs slot_list_getitem.lookup
   (wpAny_getItem_list_neg (Q:=λr s'=>r=w/\EP X ae Z Q r s') pl.isList (by lia) (by rw[fH] <;> lia) (by lia) (by rw[hj];simpa using ew) ⟨rfl,fin⟩) hs
def Δ:qr X (yN X.K):=by
 intro value slice ae s Z H x y v u Q I rx ry h hs;obtain⟨p,xs,i,z,rfl,rfl,hq,he,q⟩:=h;cases rx;obtain⟨t,rfl⟩:=ry;obtain⟨ay,r,pl,hz⟩:=I.tuple hq;obtain⟨j,h1,h2,h3,h4,h5⟩:=Js he;obtain⟨w,ew,rE⟩:=r.get h2;have hl:=r.length;have hn:=xO;have fin:EP X ae Z Q w s:=⟨z,H,I,rE,q⟩;exact subscriptTail_builtinR (x:=w) pl.typeIs slot_tuple_getitem.lookup
  (getItem_tuple (j:=j) (Q:=λr s'=>r=w/\EP X ae Z Q r s') pl (by lia) (by lia) (by rw[fH,<-hl];exact h1) (by simpa using ew) ⟨rfl,fin⟩) hs
def yw:qr X Eb:=by
 intro value slice ae s Z H x y v u Q I rx ry h hs;obtain⟨z,i,c,rfl,rfl,hz,he,q⟩:=h;obtain⟨t,rfl⟩:=rx;obtain⟨t',rfl⟩:=ry;obtain⟨j,h1,h2,h3,h4,h5⟩:=Js he;have hl:z.cps.toList.length=z.length:=by simp[Str.length]
 rw[hl] at h1 h4 h5;have hn:=xO;exact tail_any (typeIs_str s z t) slot_str_getitem.lookup (getItem_str (c:=c) (by
  have e1:decide (i < -(2^63:Int))=false:=iu (by lia)
  have e2:decide (i>=2^63)=false:=iu (by lia)
  rw[e1,e2,EC]) (by rw[h1];simpa using h2) ⟨.str ⟨#[c]⟩,H,I.tok _,⟨_,rfl⟩,q⟩) hs
def UK(ay:List Value)(n j:Nat)(u:Value):Obj.mapSeq (·.setIfInBounds j u) { cls:=.type "list",data:=.seq ay.toArray n}={ cls:=.type "list",data:=.seq (ay.set j u).toArray n}:=by
 simp[Obj.mapSeq]
def Inv.lst{ae:List (Addr×Obj)}{Z:St}{H:Hp}{s:Shared}{p:Addr}{xs:List V}(I:Inv X ae Z H s)(h:H p=some (.lst xs)):
  ∃(ay:List Value) (n:Nat),Vals xs ay/\s.heap.get? p=some { cls:=.type "list",data:=.seq ay.toArray n}/\xs.length<=sizeLine:=by
 obtain⟨z,ay,n,r,e⟩:=I.cV p _ h;exact⟨ay,n,r,e,z⟩
def Inv.yz{p:Addr}{xs ys:List V}{n':Nat}{f:Obj->Obj}(I:Inv X ae Z H s)(h:H p=some (.lst xs))
  (ho:s.heap.get? p=some { cls:=.type "list",data:=.seq ay.toArray n}) (hf:f { cls:=.type "list",data:=.seq ay.toArray n}={ cls:=.type "list",data:=.seq its'.toArray n'}) (r:Vals ys its') (hz:ys.length<=sizeLine) (t:Nat) :
  Inv X ae Z (upd H p (.lst ys)) { s with heap:=s.heap.update p f,toks:=t}:=by
 have e:(s.heap.update p f).get? p=some { cls:=.type "list",data:=.seq its'.toArray n'}:=by
  rw[vG f ho (by rw[hf] <;> rfl),hf]
 refine I.write (x:=p) (e:=p) (by rw[h];trivial) (.inl rfl) (λb u hb q=>(HL _ _ (Ne.symm hb)).trans q) ⟨_,e⟩ ?_
 exact⟨hz,its',n',r,e⟩
def w5:V->V->V->Hp->(Hp->Prop)->Prop:=λo i v H Q=>∃p xs k j,o=.ref p/\i=.int k/\H p=some (.lst xs)/\mH xs.length k=some j/\Q (upd H p (.lst (xs.set j v)))
def Ws:uE X w5:=by
 intro ae s Z H o i v ov iv u Q I ro ri rv h;obtain⟨p,xs,k,j,rfl,rfl,hp,hj,q⟩:=h;cases ro;obtain⟨t,rfl⟩:=ri;obtain⟨ay,n,r,ho,hz⟩:=I.lst hp;obtain⟨h1,h2,h3,h4⟩:=Jr hj;have hl:=r.length;have hn:=xO;have I':Inv X ae Z (upd H p (.lst (xs.set j v))) { s with heap:=s.heap.update p (Obj.mapSeq (·.setIfInBounds j u))}:=
  I.yz hp ho (UK ay n j u) (r.set rv j) (by rw[ED];exact hz) s.toks
 by_cases h0:0<=k
 .have hk:k.toNat=j:=by
   rw[seqIndex_of h0 h4] at h1;exact Option.some.inj h1
  exact PySem.W.ki_setAt ho h0 (by lia) (by rw[fH,<-hl];exact h4) (by rw[hk];exact⟨_,I',q⟩)
 .have hk:(k+(ay.toArray.size:Int)).toNat=j:=by
   rw[seqIndex_neg (by lia) h3] at h1
   rw[fH,<-hl];exact Option.some.inj h1
  exact PySem.W.ki_setBack ho (by lia) (by rw[fH,<-hl];exact h3) (by lia) (by rw[hk];exact⟨_,I',q⟩)
def Uo(lo hi:Option Int)(n:Nat):(sliceBounds lo hi none n).1=((HT.dC n 0 lo:Nat):Int)/\(sliceBounds lo hi none n).2.1=((HT.dC n n hi:Nat):Int)/\(sliceBounds lo hi none n).2.2=1:=by
 refine⟨?_,?_,rfl⟩
 .cases lo with
  |none=>simp[sliceBounds,HT.dC]
  |some i=>
   simp only[sliceBounds,HT.dC,Option.getD_none,show(1:Int) > 0 by decide,aX]
   by_cases h:i<0
   .simp only[h,aX] <;> lia
   .simp only[h,bS] <;> lia
 .cases hi with
  |none=>simp[sliceBounds,HT.dC]
  |some i=>
   simp only[sliceBounds,HT.dC,Option.getD_none,show(1:Int) > 0 by decide,aX]
   by_cases h:i<0
   .simp only[h,aX] <;> lia
   .simp only[h,bS] <;> lia
def Ui(ay:List Value)(lo hi:Option Int):slicePick ay.toArray lo hi none=((ay.drop (HT.dC ay.length 0 lo)).take (HT.dC ay.length ay.length hi - HT.dC ay.length 0 lo)).toArray:=by
 obtain⟨h1,h2,h3⟩:=Uo lo hi ay.toArray.size;unfold slicePick;rw[h1,h2,h3];simp only[sliceRange_one,pick_run,fH] <;> rfl
def yO(K:FG):V->Option Int->Option Int->Hp->VK->Prop:=λx lo hi H Q=>∃a xs,x=.ref a/\dX K H a xs/\∀p,H p=none->Q (.ref p) (upd H p (.lst (nF xs lo hi)))
def X9:rL X (yO X.K):=by
 intro ae s Z H x v vl vu lo hi sl Q I rx hs pl pu h;obtain⟨a,xs,rfl,hx,q⟩:=h;cases rx;obtain⟨ay,r,ht,hz⟩:=I.list hx;have hlen:=r.length;refine⟨"list",_,slot_list_getitem.lookup,ht.isList.typeIs,?_⟩;refine wpAny_getItem_list_slice ht.isList hs pl pu .none (by simp) ?_ (by rw[fH] <;> lia)
 rw[Ui,<-hlen];refine⟨.ref s.heap.objs.size,_,I.laid (t':=s.toks) (o:=.lst (nF xs lo hi)) (λb ob q=>jO _ q) (cJ _) ?_,rfl,q _ (I.cV.fresh (cJ _))⟩
 exact⟨lT (Np xs lo hi) hz,_,0,(r.drop (HT.dC xs.length 0 lo)).take (HT.dC xs.length xs.length hi - HT.dC xs.length 0 lo),oB _ rfl⟩
def wz:V->Bool
 |.bH=>true
 |.bl _=>true
 |.int _=>true
 |.str _=>true
 |_=>false
def eqV:V->V->Bool
 |.bH,.bH=>true
 |.bl a,.bl b=>a == b
 |.bl a,.int b=>(if a then 1 else 0) == b
 |.int a,.bl b=>a == (if b then 1 else 0)
 |.int a,.int b=>a == b
 |.str a,.str b=>a == b
 |_,_=>false
def Up:cT X (.builtin "len") (λxs H Q=>∃p ys,xs=[.ref p]/\(dX X.K H p ys\/gL X.K H p ys)/\Q (.int ys.length) H):=by
 intro ae s Z H xs us Q I r h;obtain⟨p,ys,rfl,hq,q⟩:=h;obtain⟨u,rfl,rx⟩:=vals1 r;cases rx;have hn:=xO;rcases hq with hq|hq
 .obtain⟨ay,r',pl,hz⟩:=I.list hq;have hlen:=r'.length;exact Calls.call_len_list pl.isList (by simp only[fH] <;> lia) ⟨.int ys.length,H,I.tok _,⟨s.toks+1,by rw[fH,hlen]⟩,q⟩
 .obtain⟨ay,r',pl,hz⟩:=I.tuple hq;have hlen:=r'.length;exact len_tuple pl (by simp only[fH] <;> lia) ⟨.int ys.length,H,I.tok _,⟨s.toks+1,by rw[fH,hlen]⟩,q⟩
def Uq:cT X (.builtin "len") (λxs H Q=>∃z,xs=[.str z]/\z.length<=sizeLine/\Q (.int z.length) H):=by
 intro ae s Z H xs us Q I r h;obtain⟨z,rfl,hz,q⟩:=h;obtain⟨u,rfl,t,rfl⟩:=vals1 r;have hn:=xO;exact len_str (by lia) ⟨.int z.length,H,I.tok _,⟨_,rfl⟩,q⟩
def cT.or{f:Value}{r r':List V->Hp->VK->Prop}(h:cT X f r)(h':cT X f r'):cT X f (λxs H Q=>r xs H Q\/r' xs H Q):=by
 intro ae s Z H xs us Q I rs q;rcases q with q|q
 .exact h ae s Z H xs us Q I rs q
 .exact h' ae s Z H xs us Q I rs q
def Ur:cT X (.type "list") (λxs H Q=>∃p ys,xs=[.ref p]/\(dX X.K H p ys\/gL X.K H p ys)/\∀l,H l=none->Q (.ref l) (upd H l (.lst ys))):=by
 intro ae s Z H xs us Q I r h;obtain⟨p,ys,rfl,hq,q⟩:=h;obtain⟨u,rfl,rx⟩:=vals1 r;cases rx;have fin:∀(ay:List Value),Vals ys ay->ys.length<=sizeLine->∀(h':Heap) (c':Nat),(∀b o',s.heap.get? b=some o'->h'.get? b=some o')->
   h'.get? s.heap.objs.size=some { cls:=.type "list",dict:=none,data:=.seq ay.toArray c',slots:=#[]}->EP X ae Z Q (.ref s.heap.objs.size) { s with heap:=h'}:=λay r' hz h' c' kp e=>
  ⟨.ref s.heap.objs.size,_,I.laid (t':=s.toks) kp (cJ _) (show cw X.prog X.w _ h' _ (.lst ys) from⟨hz,ay,c',r',e⟩),rfl,q _ (I.cV.fresh (cJ _))⟩
 rcases hq with hq|hq
 .obtain⟨ay,r',pl,hz⟩:=I.list hq;have hlen:=r'.length;obtain⟨o,ho,hc,n,hd⟩:=pl.isList;exact call_list_seq p (.inl rfl) ho hc hd (λh' c' kp e=>fin ay r' hz h' c' kp e) (by simp only[fH] <;> lia)
 .obtain⟨ay,r',pl,hz⟩:=I.tuple hq;have hlen:=r'.length;obtain⟨o,ho,hc,n,hd⟩:=pl;exact call_list_seq p (.inr rfl) ho hc hd (λh' c' kp e=>fin ay r' hz h' c' kp e) (by simp only[fH] <;> lia)
def MC(K:FG)(T:String)(x:V)(H:Hp):Prop:=match x with
 |.str _=>T="str"
 |.int _=>T="int"
 |.ref p=>(T="list"/\∃xs,dX K H p xs)\/(T="tuple"/\∃o,K.lookup p=some o/\o.cls=.type "tuple"/\o.dict=none)\/
   (T="dict"/\((∃kvs,H p=some (.dK kvs))\/(∃kvs,H p=some (.dT kvs))\/∃es ep,H p=some (.dG es ep)))\/(T="set"/\∃S n,H p=some (.set S n))
 |_=>False
def Ξ{T:String}{v:Value}(I:Inv X ae Z H s)(r:RelV x v)(ty:MC X.K T x H):
  s.TypeIs v T/\∀a,v=.ref a->∃ob,s.heap.get? a=some ob/\ob.dict=none:=by
 cases x with
 |str z=>
  obtain⟨t,rfl⟩:=r;cases(show T="str" from ty);exact⟨typeIs_str s z t,λ_ e=>nomatch e⟩
 |int i=>
  obtain⟨t,rfl⟩:=r;cases(show T="int" from ty);exact⟨typeIs_int s i t,λ_ e=>nomatch e⟩
 |ref p=>
  cases r;rcases ty with⟨rfl,xs,hq⟩|⟨rfl,o,hk,hc,hd⟩|⟨rfl,hk⟩|⟨rfl,S,n,hk⟩
  .obtain⟨ay,_,pl,_⟩:=I.list hq;refine⟨pl.isList.typeIs,λa e=>?_⟩
   cases e;obtain⟨o,n,e,c,hd,_⟩:=pl;exact⟨o,e,hd⟩
  .refine⟨⟨o,I.zY p o hk,hc⟩,λa e=>?_⟩
   cases e;exact⟨o,I.zY _ o hk,hd⟩
  .have z:∃o,s.heap.get? p=some o/\o.ExactDict:=by
    rcases hk with⟨kvs,hk⟩|⟨kvs,hk⟩|⟨es,ep,hk⟩
    .obtain⟨_,_,_,_,o,_,_,e,ex,_⟩:=I.cV p _ hk;exact⟨o,e,ex⟩
    .obtain⟨_,_,_,_,o,_,_,e,ex,_⟩:=I.cV p _ hk;exact⟨o,e,ex⟩
    .obtain⟨_,_,o,_,e,ex,_⟩:=I.cV p _ hk;exact⟨o,e,ex⟩
   obtain⟨o,e,ex⟩:=z;refine⟨⟨o,e,ex.1⟩,λa e2=>?_⟩
   cases e2;exact⟨o,e,ex.2.1⟩
  .obtain⟨o,_,_,_,e,ex,_⟩:=I.cV p _ hk;refine⟨⟨o,e,ex.1⟩,λa e2=>?_⟩
   cases e2;exact⟨o,e,ex.2.1⟩
 |_=>exact False.elim ty
def Mr(K:FG)(T:String)(r:V->List V->Hp->VK->Prop)(to:TE)(t:TA):TE:=λZ H Q=>to Z H λx H1=>MC K T x H1/\t Z H1 λxs H2=>r x xs H2 Q
variable{o e:Expr}{es:List Expr}{to:TE}{t:TA}{name:Str}{apos cW:Pos}{T id:String}{r:V->List V->Hp->VK->Prop}
def RU(pa:PlainAttrs T)(slot:Slot T name id)(yq:typeOf (.builtin id)=pure (.type "method_descriptor"))(hm:T8 X id r)(ho:PE X o to)(ha:PA X (e::es) t)
  (nN:attributeBase o name X.env (eval o X.env)=eval o X.env:=by rfl)
  (sE:((backTo cW (starEach (e::es) X.env)).all (λx => !x.1)&&(backToKw cW (keywordEach [] X.env)).all (λx=>x.1.isSome)
   && decide ((e::es).length+([]:List Keyword).length+(if([]:List Keyword).isEmpty then 0 else 1)<30))=true:=by rfl)
  (nO:(apos.endLine == cW.line)=true:=by rfl) (hs:starEach (e::es) X.env=(false,eval e X.env)::starEach es X.env:=by rfl) (kO:(backTo cW (starEach es X.env)).any (·.1)=false:=by rfl) :
  PE X (.Call (.Attribute o name apos) (e::es) [] cW) (Mr X.K T r to t):=by
 intro ae s Z H Q I h;refine wpAny_Call_method_late nN sE nO rfl (cB (ho ae s Z H _ I h) λv s1 hh=>?_)
 obtain⟨x,H1,I1,r1,ty,q1⟩:=hh;obtain⟨h1,h2⟩:=Ξ I1 r1 ty;refine⟨T,id,pa,slot,yq,h1,h2,?_⟩;have hA:=ha cW ae s1 Z H1 _ I1 q1;rw[hs] at hA ⊢;refine Calls.callWith_builtin (by show(false || (backTo cW (starEach es X.env)).any (·.1))=false;rw[kO] <;> rfl) (Calls.evalArgs_plain ?_)
 exact cB hA λus s2 ⟨vs,H2,I2,r2,q2⟩=>hm ae s2 Z H2 x vs v us Q I2 r1 r2 q2
end
def xq(X:Cx)(id:String)(r:V->List V->Hp->VK->Prop):Prop:=
 ∀(ae:List (Addr×Obj)) (s:Shared) (Z:St) (H:Hp) (x:V) (xs:List V) (v:Value) (us:List Value) (Q:VK),Inv X ae Z H s->RelV x v->Vals xs us->r x xs H Q->
  wpAny (model X.prog X.w) X.A (call (.builtin id) (v::us)) (EP X ae Z Q) X.xe s
def Vals.one(h:Vals [x] us):∃u,us=[u]/\RelV x u:=by
 cases h with
 |cons r t=>
  cases t;exact⟨_,rfl,r⟩
def Vals.two{y:V}(h:Vals [x,y] us):∃u v,us=[u,v]/\RelV x u/\RelV y v:=by
 cases h with
 |cons r t=>
  obtain⟨v,rfl,q⟩:=Vals.one t;exact⟨_,_,rfl,r,q⟩
section
variable{X:Cx}{ae:List (Addr×Obj)}{Z:St}{H:Hp}{s:Shared}{l b:Addr}{xs ys zs:List V}
def Inv.yx{f:Array Value->Array Value}(I:Inv X ae Z H s)(hH:H l=some (.lst xs))
  (e:s.heap.get? l=some { cls:=.type "list",data:=.seq ay.toArray n}) (hf:f ay.toArray=its'.toArray) (hv:Vals ys its') (hz:ys.length<=sizeLine) :
  Inv X ae Z (upd H l (.lst ys)) { s with heap:=s.heap.update l (Obj.mapSeq f),toks:=t'}:=by
 have q:=PySem.IsL.update e f;rw[hf] at q;refine I.write (x:=l) (e:=l) (by rw[hH];exact trivial) (.inl rfl) (λb' u hb hu=>(HL s.heap (Obj.mapSeq f) (Ne.symm hb)).trans hu) ⟨_,q⟩ ?_
 exact⟨hz,its',_,hv,q⟩
def Inv.L5(I:Inv X ae Z H s)(hv:Vals ys ay)(hz:ys.length<=sizeLine):
  Inv X ae Z (upd H s.heap.objs.size (.lst ys)) { s with heap:=s.heap.push { cls:=.type "list",data:=.seq ay.toArray},toks:=t'}:=
 I.laid (λ_ _ q=>jO _ q) (cJ _) ⟨hz,ay,0,hv,oB _ rfl⟩
theorem Inv.fresh(I:Inv X ae Z H s):H s.heap.objs.size=none:=I.cV.fresh (cJ _)
def Inv.yy(I:Inv X ae Z H s)(hH:H l=some (.lst xs)):xs.length<=sizeLine/\∃(ay:List Value) (n:Nat),Vals xs ay/\xs.length=ay.length/\s.heap.get? l=some { cls:=.type "list",data:=.seq ay.toArray n}:=by
 obtain⟨z,ay,n,r,e⟩:=I.cV l _ hH;exact⟨z,ay,n,r,r.length,e⟩
end
section
variable{X:Cx}
def PD:V->List V->Hp->VK->Prop:=λx vs H Q=>∃l xs y,x=.ref l/\vs=[y]/\H l=some (.lst xs)/\xs.length<sizeLine/\Q .bH (upd H l (.lst (xs++[y])))
def uI:xq X "list.append" PD:=by
 intro ae s Z H x vs v us Q I rx rv h;obtain⟨l,xs,y,rfl,rfl,hH,hz,q⟩:=h;cases rx;obtain⟨u,rfl,ru⟩:=rv.one;obtain⟨z,ay,n,r,hl,e⟩:=I.yy hH;refine call_meets F.slot_list_append ⟨_,e,rfl⟩ F.entry_list_append (F.args_list_append_2 _ _) (PySem.list_append l ay.toArray n u (by rw[fH];lia)) ⟨e,?_⟩
 refine⟨.bH,_,I.yx (its':=ay++[u]) hH e (by simp) (r.append (.cons ru .nil)) ?_,rfl,q⟩
 rw[dy,jC];lia
end
section
variable{prog:Program}{w:World}{A:Around}{E:Value->Shared->Prop}{s:Shared}
end
section
variable{X:Cx}
end
section
variable{κ:Type}[DecidableEq κ]
def ng.qG{o:Option V}{u:Option Value}(r:ng o u):o.isSome=u.isSome:=by
 cases o with
 |none=>cases u with
  |none=>rfl
  |some _=>exact(show False from r).elim
 |some _=>cases u with
  |none=>exact(show False from r).elim
  |some _=>rfl
end
section
variable{P:Program}{w:World}{H:Hp}{h:Heap}{a:Addr}
end
section
variable{X:Cx}{ae:List (Addr×Obj)}{Z:St}{H:Hp}{s:Shared}{a:Addr}{y v:V}{u r:Value}{o:Option V}{A:Around}{E:Value->Shared->Prop}
def Inv.big(I:Inv X ae Z H s):sysModules<s.heap.objs.size:=by
 have h:mainGlobals<s.heap.objs.size:=(I.mod.glob.keeps I.bk).lt;exact Nat.lt_trans (by decide) h
def PF{ob:HO}(I:Inv X ae Z H s)(mu:AW (H a))(hs:Heap.SameBut a s.heap h')(he:∃q,h'.get? a=some q)(new:cw X.prog X.w (upd H a ob) h' a ob):
  Inv X ae Z (upd H a ob) { s with heap:=h',toks:=t'}:=
 I.write (x:=a) (e:=a) mu (.inl rfl) (λb q hb z=>(hs.2 b hb).trans z) he new
def o6{P:Program}{w:World}{H':Hp}{kvs:List (Key×V)}{vs:List (Key×Value)}(z:kvs.length<=sizeLine)(hd:(a == sysModules)=false)(rel:KV kvs vs)(dd:h'.DictOf (FN P w) a vs):
  cw P w H' h' a (.dK kvs):=⟨z,hd,vs,rel,dd⟩
end
section
variable{X:Cx}{ae:List (Addr×Obj)}{Z:St}{H:Hp}{s:Shared}{a:Addr}{kvs:List (Key×V)}{k:Key}{u:Value}{A:Around}{E:Value->Shared->Prop}
end
section
variable{X:Cx}{o i e value:Expr}{pos pos' ou:Pos}{td ty tv:TE}
end
section
variable{X:Cx}{pos:Pos}
end
abbrev VV:List (V×V)->List (Value×Value)->Prop:=Paired λp q=>RelV p.1 q.1/\RelV p.2 q.2
structure M1 (X:Cx) (o:Expr) (m:Str) (apos:Pos) (e:Expr) (cW:Pos):Prop where
 base:attributeBase o m X.env (eval o X.env)=eval o X.env
 few:((backTo cW (starEach [e] X.env)).all (λx => !x.1)&&(backToKw cW (keywordEach [] X.env)).all (λx=>x.1.isSome)
  && decide (([e]:List Expr).length+([]:List Keyword).length+(if([]:List Keyword).isEmpty then 0 else 1)<30))=true
 line:(apos.endLine == cW.line)=true
 trees:backTo cW (starEach [e] X.env)=[(false,eval e X.env)]
structure M2 (X:Cx) (o:Expr) (m:Str) (apos:Pos) (e f:Expr) (cW:Pos):Prop where
 base:attributeBase o m X.env (eval o X.env)=eval o X.env
 few:((backTo cW (starEach [e,f] X.env)).all (λx => !x.1)&&(backToKw cW (keywordEach [] X.env)).all (λx=>x.1.isSome)
  && decide (([e,f]:List Expr).length+([]:List Keyword).length+(if([]:List Keyword).isEmpty then 0 else 1)<30))=true
 line:(apos.endLine == cW.line)=true
 trees:backTo cW (starEach [e,f] X.env)=[(false,eval e X.env),(false,eval f X.env)]
section
variable{X:Cx}{ae:List (Addr×Obj)}{Z:St}{H:Hp}{s:Shared}{a:Addr}{y d:V}{u r:Value}{o:Option V}{A:Around}{E:Value->Shared->Prop}
end
section
variable{X:Cx}{o e f:Expr}{apos cW:Pos}{td ty tx:TE}
end
section
variable{X:Cx}{ae:List (Addr×Obj)}{Z:St}{H:Hp}{s:Shared}{a:Addr}{kvs:List (Key×V)}{A:Around}{E:Value->Shared->Prop}
end
section
variable{X:Cx}{ae:List (Addr×Obj)}{Z:St}{H:Hp}{s:Shared}{a:Addr}{y:V}{u:Value}{A:Around}{E:Value->Shared->Prop}
end
end L2
namespace M'
open PySem PySem.W PySem.Calls PyProof.Rows
variable{P:Params}{h:Heap}{l:OpenLaw}{n:Nat}
def Ue:∀(ns:List Int) (vs:List Value),WellAll P h vs (ns.map WData.int)->IntsAre vs ns:=by
 intro ns
 induction ns with
 |nil=>
  intro vs w;rw[oO] at w;cases w;exact .nil
 |cons n ns ih=>
  intro vs w;rw[cS] at w;cases w with
  |cons a b=>
   cases a;exact .cons _ _ (ih _ b)
def Vf(hn:l.most=some n){args:List WData}{vals:List Value}
  (u9:l.row.toRowW.claim.pre args=true) (Hl:WellAll P h vals args) :
  ∃a vs ns,vals=[Value.ref a]/\args=[WData.list (ns.map WData.int)]/\h.get? a=some { cls:=.type "list",data:=.seq vs.toArray}/\IntsAre vs ns/\ns.length<=n:=by
 have hsh:WShape.hasAll [] args [.list .int]=true:=(pre_splitW u9).1;have hc:l.pre.holds [] { args:=args}=true:=(pre_splitW u9).2;obtain⟨d,r,rfl,h1,h2⟩:=hasAllW_cons hsh;obtain rfl:=hasAllW_nil h2;obtain⟨xs,rfl,h3⟩:=hasW_list h1;obtain⟨ns,rfl⟩:=items_int h3;have hlen:ns.length<=n:=by
  unfold OpenLaw.pre at hc;have h4:(WTm.not (.lt (.lit (.int (n:Int))) (.len (.arg 0)))).holds [] { args:=[.list (ns.map .int)]}=true:=by
   have h4:=(holds_andW hc).1;rw[hn] at h4;exact h4
  have h5:=condW_of h4 (w_not (w_lt w_lit (w_len_list (w_arg rfl))));rw[bz] at h5;refine Nat.le_of_not_lt λq=>?_
  have q':(n:Int)<((ns.length:Nat):Int):=by lia
  first
   |(rw[fY q'] at h5;exact bQ h5 (by decide))
   |(simp at h5;lia)
 cases Hl with
 |cons w1 w2=>
  cases w2;cases w1 with
  |list ho sA=>exact⟨_,_,ns,rfl,rfl,ho,Ue ns _ sA,hlen⟩
def Vg(l:OpenLaw)(args:List WData):l.row.toRowW.claim.post args (.bool true) args=true:=
 postW_of (r:=l.row.toRowW) (X:=(true == true))
  (show WShape.has [] (.bool true) .bool=true by first|rfl|decide|simp[WShape.has,WShape.arms,WShape.armsAll])
  (show(WTm.eq .res (.lit (.bool true))).value [] { args:=args,res:=some (.bool true),after:=args}=some (.bool (true == true)) from w_eq_bool (w_res rfl) w_lit) rfl
def nt{q:Program}{loose:List Str}{XP:(Str->Option Value)->Heap->Prop}{YP:World->Heap->Prop}{d:DefRec}
  (hn:l.most=some n) (Dm:d.params.defaults=[])
  (call:∀(w:World) (s₀ s₁:Shared) (mg mb:Str->Option Value) (fa:Addr) (o:Obj) (pm cd doc:Value) (a:Addr) (vs:List Value) (ns:List Int),
   Ground q loose [] XP w s₀ mg mb s₁.heap->YP w s₁.heap->
   s₁.heap.get? fa=some o->o.data=.func (docDef d.name d.params d.body d.scope pm cd doc)->s₁.heap.CodeRec cd d.name->mg d.name=some (.ref fa)->
   s₁.heap.get? a=some { cls:=.type "list",data:=.seq vs.toArray}->IntsAre vs ns->ns.length<=n->s₁.gens=#[]->
   codeAny (model l.prog w) callerA (.call (.ref fa) ⟨[.ref a],[]⟩) (λr s'=>r=.ok (.ret (.bool true))/\OldK s₁.heap s'.heap/\s'.os=s₁.os/\AllBare s'.gens) s₁) :
  WalkO q loose XP YP l.row.toRowW d [] (λf vs=>PySem.call f vs):=by
 intro w s₀ s₁ mg mb G Y fa o pm cd doc dV kV ho hd qE hD LB hg args vals as u9 hlay hrd Hl LA;obtain rfl:dV=.none:=Dflts.none hD Dm;obtain rfl:kV=.none:=Dflts.noKw hD;obtain⟨a,vs,ns,rfl,rfl,yp,hints,hlen⟩:=Vf hn u9 Hl;refine enter_call (codeAny_mono (call w s₀ s₁ mg mb fa o pm cd doc a vs ns G Y ho (fd_plain hd) qE LB yp hints hlen hg) λr s' hq=>?_)
 obtain⟨rfl,h2,h3,h4⟩:=hq;exact⟨.inl ⟨.bool true,.bool true,[],rfl,λ_=>rfl,.bool true,Vg l _,λ_=>⟨List.Pairwise.nil,λ_ hm=>(nomatch hm)⟩⟩,h2,h3,h4⟩
section
variable{prog:Program}{w:World}{A:Around}{E:Value->Shared->Prop}{s:Shared}{K:Frag}
end
end M'
namespace L2
open PySem PySem.Spec PyProof.Rows
variable{K:FG}{k:Nat}{a f:Addr}{fd:FuncData}{x qual:Str}{sp:Sp}{ps:List Str}{H H':Hp}
theorem N8:∀{vs:List Value} {ns:List Int},IntsAre vs ns->Vals (ns.map V.int) vs
 |_,_,.nil=>.nil
 |_,_,.cons n t h=>.cons ⟨t,rfl⟩ (N8 h)
def xr(H:Hp):Prop:=∀b,H b=none\/∃o xs,H b=some (.Y o (.lst xs))
def Wt{P:Program}{w:World}{mg mb:Str->Option Value}{CX:qo}{fa:Addr}{s₁:Shared}{vs:List Value}{ns:List Int}
  (KX:K.In s₁.heap) (SS:s₁.heap.Ns mainGlobals mg) (hb:s₁.heap.Ns builtinsNs mb) (hbb:∀x:Str,x≠"__name__"->mb x=bootBuiltins x) (Lz:s₁.heap.NoLimit) (hg:s₁.gens=#[])
  (ha:s₁.heap.get? a=some { cls:=.type "list",data:=.seq vs.toArray}) (hi:IntsAre vs ns) (hl:ns.length<=sizeLine) (hr:eD k callerA)
  (F:∀base:Heap,K.In base->base.Ns mainGlobals mg->bR P w K mg base CX k fa fd [x] sp) (Dj:∀(s:Shared) (u:Value),BindsTo s fd ⟨[u],[]⟩ [(x,u)])
  (wI:∀H:Hp,xr H->dX K H a (ns.map V.int)->sp [.ref a] H (λv _=>v=.bl true) λ_ _ _=>False)
  (Lh:∀H e s',CX [] H s₁ (λ_ _ _=>False) e s'->False) :
  codeAny (model P w) callerA (.call (.ref fa) ⟨[.ref a],[]⟩) (λr s'=>r=.ok (.ret (.bool true))/\OldK s₁.heap s'.heap/\s'.os=s₁.os/\AllBare s'.gens) s₁:=by
 have rv:=N8 hi;have L4:=hi.length;have core:∀H:Hp,xr H->dX K H a (ns.map V.int)->kD P w H s₁.heap->(∀b,H b≠none->b=a)->(H a≠none->K.lookup a=none)->
   codeAny (model P w) callerA (.call (.ref fa) ⟨[.ref a],[]⟩) (λr s'=>r=.ok (.ret (.bool true))/\OldK s₁.heap s'.heap/\s'.os=s₁.os/\AllBare s'.gens) s₁:=by
  intro H hO hS cV hA hK;have pU:∀{b:Addr} {o:Obj},s₁.heap.get? b=some o->H b=none->(mG s₁.heap H).get? b=some o:=λe n=>Wg e n
  have DO:∀{b:Addr} {o:Obj} {es:Array DictEntry} {ep:Nat},s₁.heap.get? b=some o->o.data=.dict es ep->H b=none:=λ{b o es ep} e d=>by
   cases q:H b with
   |none=>rfl
   |some u=>
    have e':b=a:=hA b (by rw[q];simp)
    subst e';rw[ha] at e;cases e;have d':Data.seq vs.toArray _=Data.dict es ep:=d;cases d'
  have Hy:∀{b:Addr} {m:Str->Option Value},s₁.heap.Ns b m->(mG s₁.heap H).Ns b m:=λ{b m} ⟨o,es,ep,e,d,r⟩=>⟨o,es,ep,pU e (DO e d),d,r⟩
  have So:K.In (mG s₁.heap H):=λb o e=>pU (KX b o e) (by
   cases q:H b with
   |none=>rfl
   |some u=>
    have e':b=a:=hA b (by rw[q];simp)
    subst e';rw[hK (by rw[q];simp)] at e;cases e)
  have hM:Mod K mg (mG s₁.heap H):=⟨So,Hy SS,⟨mb,Hy hb,hbb⟩,let ⟨mc,h1,h2⟩:=Lz;⟨mc,Hy h1,h2⟩⟩
  have e0:uC P w K mg (mG s₁.heap H) callerA [] s₁ H:=⟨rfl,hM,λb o e=>XR e,Nat.le_of_eq (U' _ _),trivial,λb hb=>bQ (show b∈([]:List Addr) from hb) (by simp),cV,.of_eq hg⟩
  refine codeAny_mono ((F _ So (Hy SS)).run callerA [] s₁ H ⟨[.ref a],[]⟩ [.ref a] [.ref a] _ _ hr e0 (Dj s₁ (.ref a)) (.cons rfl .nil) (wI H hO hS)) λr s' h=>?_
  cases r with
  |error e=>exact(Lh H e s' h).elim
  |ok fl=>
   cases fl with
   |next=>exact False.elim h
   |brk=>exact False.elim h
   |cont=>exact False.elim h
   |ret u=>
    obtain⟨v,H',os,bare,un,LJ,r',q⟩:=h;have q':v=.bl true:=q;subst q';obtain rfl:u=Value.bool true:=r';refine⟨rfl,OldK.of_keep λb o e=>?_,os,bare⟩
    cases q:H b with
    |none=>exact un.keep b o e q (by intro z;exact bQ (show b∈([]:List Addr) from z) (by simp)) (by simp)
    |some u=>
     rcases hO b with z|⟨ob,xs,z⟩
     .rw[q] at z;cases z
     .have z2:=un.lM b ob _ z;obtain⟨e1,_⟩:=cV b _ z;obtain⟨e2,_⟩:=LJ b _ z2;rw[e] at e1;cases e1;exact e2
 cases hk:K.lookup a with
 |some o=>
  have e:=KX a o hk;rw[ha] at e;cases e;refine core (λ_=>none) (λ_=>.inl rfl) (.inr ⟨_,vs.toArray,_,hk,rfl,rfl,rfl,by rw[fH,L4];exact hl,by simpa using rv⟩) (λb u z=>by have z':(none:Option HO)=some u:=z;cases z') (λb z=>bQ rfl z) λz=>bQ rfl z
 |none=>
  refine core (λb=>if b=a then some (.Y { cls:=.type "list",data:=.seq vs.toArray} (.lst (ns.map V.int))) else none) (λb=>?_) (.inl (.inr ⟨{ cls:=.type "list",data:=.seq vs.toArray},aJ rfl⟩)) (λb u z=>?_) (λb z=>?_) λ_=>hk
  .by_cases hb:b=a
   .exact .inr ⟨_,_,aJ hb⟩
   .exact .inl (aQ hb)
  .by_cases hb:b=a
   .have z':=(aJ hb).symm.trans z;cases z';subst hb;exact⟨ha,by rw[bz];exact hl,vs,_,rv,ha⟩
   .have z':=(aQ hb).symm.trans z;cases z'
  .by_cases hb:b=a
   .exact hb
   .exact bQ (aQ hb) z
def zd(s:Stmt):Arguments:=match s with
 |.FunctionDef _ a _ _ _ _ _ _ _ _=>a
 |_=>{ posonlyargs:=[],args:=[],vararg:=none,kwonlyargs:=[],kw_defaults:=[],kwarg:=none,defaults:=[]}
def uN(s:Stmt):List Stmt:=match s with
 |.FunctionDef _ _ b _ _ _ _ _ _ _=>b
 |_=>[]
def dQ(s:Stmt):Scope:=match s with
 |.FunctionDef _ _ _ _ _ _ sc _ _ _=>sc
 |_=>{ kind:=.function,names:=[],isGenerator:=false,isCoroutine:=false}
abbrev fx:qo:=λ_ _ _ _ _ _=>False
abbrev E0:XK:=λ_ _ _=>False
def DX{X:Cx}:JV fx X E0:=λ_ _ _ _ _ _ _ h=>h.elim
structure tY (K:FG) (x qual:Str) (st:Stmt) (f:Addr) (fd:FuncData):Prop where
 ex:∃(oc:Value) (od:Option Addr) (kV doc pm:Value) (an:Option Addr) (dq ct:Value) (osl:Array (Option Value)),
  fd=PySem.W.fnOf x qual (zd st) (uN st) (dQ st) .none kV doc pm an dq ct/\K.lookup f=some ⟨oc,od,.func fd,osl⟩/\PySem.W.codeIn K dq qual=true
 kp:PySem.W.keepIn K (.ref f)=true
section
variable{P:Program}{w:World}{K:FG}{mg:Str->Option Value}{base:Heap}
def tY.ok{st:Stmt}{N:List Str}(F:tY K x qual st f fd)(S:aM N ps (dQ st))(len:∀vs H Q E,sp vs H Q E->vs.length=ps.length)
  (kN:∀(dq:Value) (A:Around) (outer:List Env) (s:Shared) (H:Hp) (vs:List V) (Q:VK) (E:XK),eD k (A.deeper (envOfC qual (dQ st) s.heap.objs.size f dq))->sp vs H Q E->
   ∃t,iy (nH fx P w K mg base N qual (dQ st) f dq A outer s H E).z_ (uN st) t/\t { nx:=λ_ H'=>Q .bH H',rt:=Q} (start N vs) H):bR P w K mg base fx (k+1) f fd ps sp:=by
 obtain⟨oc,od,kV,doc,pm,an,dq,ct,osl,rfl,lk,qE⟩:=F.ex;refine e8l lk qE S len λA outer s H vs Q E hr wI=>?_
 obtain⟨t,h,q⟩:=kN dq A outer s H vs Q E hr wI;exact⟨t,h.z_,q⟩
def tY.binds{st:Stmt}(F:tY K x qual st f fd)
  (h:∀(kV doc pm:Value) (an:Option Addr) (dq ct:Value) (us:List Value),us.length=ps.length->bindArgs (PySem.W.fnOf x qual (zd st) (uN st) (dQ st) .none kV doc pm an dq ct) ⟨us,[]⟩=pure (ps.zip us)):Binds K fd ps []:=by
 obtain⟨oc,od,kV,doc,pm,an,dq,ct,osl,rfl,lk,qE⟩:=F.ex;exact .all (h kV doc pm an dq ct)
def Φ{st:Stmt}{oc:Value}{od an:Option Addr}{osl:Array (Option Value)}{kV doc pm dq ct:Value}(l:K.lookup f=some ⟨oc,od,.func (PySem.W.fnOf x qual (zd st) (uN st) (dQ st) .none kV doc pm an dq ct),osl⟩)
  (c:PySem.W.codeIn K dq qual=true) (k:PySem.W.keepIn K (.ref f)=true):tY K x qual st f (PySem.W.fnOf x qual (zd st) (uN st) (dQ st) .none kV doc pm an dq ct):=⟨⟨oc,od,kV,doc,pm,an,dq,ct,osl,rfl,l,c⟩,k⟩
end
def hu_of{A:Around}(hr:eD k A):A.units+1<cLine:=Nat.lt_of_le_of_lt (Nat.add_le_add_left (by decide:1<=64) _) hr.units
section
variable{X:Cx}
def pv(i:Nat){pos:Pos}(hN:X.N[i]?=some x:=by rfl)(hv:EY X.env.scope x:=by first|exact Or.inl rfl|exact Or.inr (Or.inl rfl)|exact Or.inr (Or.inr rfl))(hd:(x == ("__debug__":Str))=false:=by decide)
  (qE:(x == ("__classdict__":Str))=false:=by decide):PE X (.Name x pos) (qN i):=ZO hN hv hd qE
end
def pe{A B:Prop}(h:B):if false=true then A else B:=by
 rw[aQ mY];exact h
def ph{A B:Prop}(h:A):if true=true then A else B:=by
 rw[aJ rfl];exact h
def aF(H H':Hp):Prop:=∀b o,H b=some o->H' b=some o
def aF.refl(H:Hp):aF H H:=λ_ _ h=>h
def aF.trans{H1 H2:Hp}(a:aF H H1)(b:aF H1 H2):aF H H2:=λc o h=>b c o (a c o h)
def aF.free(e:aF H H'){l:Addr}(h:H' l=Option.none):H l=Option.none:=by
 cases q:H l with
 |none=>rfl
 |some o=>
  rw[e l o q] at h;cases h
def aF.seq{xs:List V}(e:aF H H')(h:dX K H a xs):dX K H' a xs:=by
 rcases h with(h|⟨o,h⟩)|h
 .exact .inl (.inl (e _ _ h))
 .exact .inl (.inr ⟨o,e _ _ h⟩)
 .exact .inr h
section
variable{κ:Type}[DecidableEq κ]
end
end L2
set_option maxHeartbeats 4000000
namespace L2
open PySem PySem.Spec PyProof.Rows
variable{env:Env}{names:List (Str×NameKind)}{x n:Str}{c a:Addr}{scope:Scope}{X:Cx}{prog q:Program}{w:World}{A:Around}{s:Shared}{H:Hp}{fp:List Addr}{Fin:List V->Hp->Prop}{wi:TI}{g:TG}{tt:TT}{te tl:TE}{τ:St}{k j:Nat}{h:Heap}{l tg:Expr}
def kK(env:Env)(names:List (Str×NameKind)):List (Str×Addr):=((names.filter λy=>y.2 == .free).reverse).map λy=>(y.1,(env.cells.lookup y.1).getD 0)
theorem Nq{g:Str->Addr}{x:Str}:∀{l:List (Str×NameKind)},(∃k,(x,k)∈l)->(l.map λy=>(y.1,g y.1)).lookup x=some (g x)
 |[],h=>by obtain⟨k,h⟩:=h;cases h
 |(n,k)::r,h=>by
  show List.lookup x ((n,g n)::_)=_;cases hx:x == n with
  |true=>
   have e:x=n:=by simpa using hx
   subst e;simp[pG]
  |false=>
   simp only[pG,hx];refine Nq (l:=r) ?_;obtain⟨k',h⟩:=h;rcases eC.mp h with e|e
   .cases e;simp at hx
   .exact⟨k',e⟩
theorem Ng{g:Str->Addr}{x:Str}{c:Addr}:∀{l:List (Str×NameKind)},(l.map λy=>(y.1,g y.1)).lookup x=some c->c=g x/\∃k,(x,k)∈l
 |[],h=>by cases h
 |(n,k)::r,h=>by
  have h:List.lookup x ((n,g n)::(r.map λy=>(y.1,g y.1)))=some c:=h
  cases hx:x == n with
  |true=>
   have e:x=n:=by simpa using hx
   subst e;simp only[pG,hx] at h;exact⟨(Option.some.inj h).symm,k,mW⟩
  |false=>
   simp only[pG,hx] at h;obtain⟨e,k',hk⟩:=Ng h;exact⟨e,k',oA _ hk⟩
def OQ(h:(x,NameKind.free)∈names)(hc:env.cells.lookup x=some c):(kK env names).lookup x=some c:=by
 have:=Nq (g:=λn=>(env.cells.lookup n).getD 0) (x:=x) (l:=(names.filter λy=>y.2 == .free).reverse) ⟨.free,by simp[h]⟩
 unfold kK;rw[this,hc];rfl
def Jt(hf:∀y∈names,y.2=.free->∃c,env.cells.lookup y.1=some c)(h:(kK env names).lookup x=some c):env.cells.lookup x=some c:=by
 obtain⟨e,k,hk⟩:=Ng (g:=λn=>(env.cells.lookup n).getD 0) h
 have sH:=jB.mp (List.mem_reverse.mp hk);obtain⟨c',yn⟩:=hf _ sH.1 (by simpa using sH.2)
 have Lo:env.cells.lookup x=some c':=yn;rw[e,Lo];rfl
theorem Ik{env:Env}:∀(names:List (Str×NameKind)) (cs:List (Str×Addr)),(∀y∈names,y.2=.free->∃c,env.cells.lookup y.1=some c)->
  (forIn names cs (λ(x:Str×NameKind) (r:List (Str×Addr))=>if(x.2 == NameKind.free)=true then(do let a <-cellOf env x.1;pure (ForInStep.yield ((x.1,a)::r))) else(pure (ForInStep.yield r):Sem (ForInStep (List (Str×Addr)))))) =
   pure (kK env names++cs)
 |[],cs,_=>by rw[List.forIn_nil];rfl
 |(n,k)::r,cs,h=>by
  rw[List.forIn_cons];cases hk:k == NameKind.free with
  |true=>
   obtain⟨c,hc⟩:=h (n,k) mW (by simpa using hk)
   have yn:env.cells.lookup n=some c:=hc;have e:cellOf env n=pure c:=by unfold cellOf;rw[yn]
   simp only[hk,aX,e,pure_bind];rw[Ik r _ λy hy=>h y (oA _ hy)]
   congr 1
   unfold kK;rw[Al];simp[hk,yn]
  |false=>
   simp only[hk,lA,bS,pure_bind];rw[Ik r _ λy hy=>h y (oA _ hy)]
   congr 1
   unfold kK;rw[Al];simp[hk]
def Nf(h:∀y∈scope.names,y.2=.free->∃c,env.cells.lookup y.1=some c):closureFor scope env=pure (kK env scope.names):=by
 have:=Ik (env:=env) scope.names [] h;rw[kZ] at this;unfold closureFor;show(forIn scope.names [] _ >>= λr=>pure r)=_
 rw[bind_pure];exact this
theorem Nk{env:Env}:∀{names:List (Str×NameKind)} {x:Str},names.lookup x=some .free->
  (names.map λ(n,k)=>if(k == NameKind.free&&env.scope.kind == .function&&env.kindOf n == some .cell) then(n,NameKind.cell) else(n,k)).lookup x=some .cell\/
  (names.map λ(n,k)=>if(k == NameKind.free&&env.scope.kind == .function&&env.kindOf n == some .cell) then(n,NameKind.cell) else(n,k)).lookup x=some .free
 |[],_,h=>by simp at h
 |(n,k)::r,x,h=>by
  have ih:=@Nk env r x;show List.lookup x ((if(k == NameKind.free&&env.scope.kind == .function&&env.kindOf n == some .cell)=true then(n,NameKind.cell) else(n,k))::_)=_\/List.lookup x ((if(k == NameKind.free&&env.scope.kind == .function&&env.kindOf n == some .cell)=true then(n,NameKind.cell) else(n,k))::_)=_
  cases hx:x == n with
  |true=>
   simp only[pG,hx] at h;cases h;by_cases hc:(NameKind.free == NameKind.free&&env.scope.kind == .function&&env.kindOf n == some .cell)=true
   .rw[aJ hc];simp[pG,hx]
   .rw[aQ hc];simp[pG,hx]
  |false=>
   simp only[pG,hx] at h;by_cases hc:(k == NameKind.free&&env.scope.kind == .function&&env.kindOf n == some .cell)=true
   .rw[aJ hc];simp only[pG,hx];exact ih h
   .rw[aQ hc];simp only[pG,hx];exact ih h
theorem Il{env:Env}:∀{names:List (Str×NameKind)} {x:Str} {q:NameKind},(q=.cell\/q=.free)->(∀y∈names,y.2≠.cell)->
  (names.map λ(n,k)=>if(k == NameKind.free&&env.scope.kind == .function&&env.kindOf n == some .cell) then(n,NameKind.cell) else(n,k)).lookup x=some q->(x,NameKind.free)∈names
 |[],_,_,_,_,h=>by simp at h
 |(n,k)::r,x,q,hq,hn,h=>by
  have ih:=@Il env r x q hq λy hy=>hn y (oA _ hy)
  have hk:k≠.cell:=hn (n,k) mW;have h:List.lookup x ((if(k == NameKind.free&&env.scope.kind == .function&&env.kindOf n == some .cell)=true then(n,NameKind.cell) else(n,k))::_)=some q:=h
  cases hx:x == n with
  |true=>
   have e:x=n:=by simpa using hx
   subst e;by_cases hc:(k == NameKind.free&&env.scope.kind == .function&&env.kindOf x == some .cell)=true
   .have hf:k=.free:=by
     simp only[lS,beq_iff_eq] at hc;exact hc.1.1
    subst hf;exact mW
   .rw[aQ hc] at h;simp only[pG,hx] at h;have e:k=q:=Option.some.inj h;rcases hq with rfl|rfl
    .exact bQ e hk
    .rw[e];exact mW
  |false=>
   by_cases hc:(k == NameKind.free&&env.scope.kind == .function&&env.kindOf n == some .cell)=true
   .rw[aJ hc] at h;simp only[pG,hx] at h;exact oA _ (ih h)
   .rw[aQ hc] at h;simp only[pG,hx] at h;exact oA _ (ih h)
def iB(X:Cx)(scope:Scope)(M:List Str)(C:Addr)(s:Shared)(H:Hp)(fp:List Addr):Cx:=
 {X with N:=M,s₀:=s,H₀:=H,env:=compEnvC scope (kK X.env scope.names) C X.env,outer:=X.stack,ex:=fp,fn:=λ_=>false,pn:=[],xe:=λ_ _=>False}
def iK(k:Nat)(cap:List Nat)(Z:St):St:=List.replicate k none++cap.map λi=>(Z[i]?).join
def qt(X:Cx)(ifs:List Expr)(t:TT):Prop:=
 ∀(ae:List (Addr×Obj)) (s:Shared) (Z:St) (H:Hp) (Q:Bool->Hp->Prop),Inv X ae Z H s->t Z H Q->
  wpAny (model X.prog X.w) X.A (forIn ifs true λc r=>if r=true then do let ok <-isTrue c X.env (eval c X.env);pure (ForInStep.yield ok) else pure (ForInStep.yield r)) (TP X ae Z Q) X.xe s
def MB:TT:=λ_ H Q=>Q true H
def vk:qt X [] MB:=λ_ _ Z H _ I h=>wpAny_tests_nil ⟨H,I,h⟩
def X_{c:Expr}{t:TT}(hc:PT X c t):qt X [c] t:=λae s Z H Q I h=>wpAny_tests_one (hc ae s Z H Q I h)
def Ua{R:Result->Shared->Prop}{elt target iter:Expr}{ifs:List Expr}{pos:Pos}{it ax:Value}(I:Nat->Shared->Prop)
  (turn:∀n s,I n s->wpAny (model prog w) A (pyNext it) (λr s₁=>match r with
   |none=>R (.ok .next) s₁
   |some v=>wpAny (model prog w) A (letOwnedTupleGo target it v) (λ_ s₀=>wpAny (model prog w) A (assign target env v) (λ_ s₂=>
     wpAny (model prog w) A (forIn ifs true λc r=>if r=true then do let ok <-isTrue c env (eval c env);pure (ForInStep.yield ok) else pure (ForInStep.yield r)) (λok s₃=>
      if ok=true then wpAny (model prog w) A (eval elt env) (λx s₄=>
       wpAny (model prog w) A (call (.builtin "list.append") [ax,x]) (λ_ s₅=>∃m,m<n/\I m s₅) (λ_ _=>False) s₄) (λ_ _=>False) s₃
      else ∃m,m<n/\I m s₃) (λ_ _=>False) s₂) (λ_ _=>False) s₀) (λ_ _=>False) s₁) (λ_ _=>False) s)
  (n:Nat) (h:I n s) :
  codeAny (model prog w) A (.compLoop (.ListComp elt [⟨target,iter,ifs,0⟩] scope pos) 0 it ax env) R s:=by
 refine codeAny_loop rfl I (λn s hI=>?_) n h
 show wpAny _ A ((compTurn (.ListComp elt [⟨target,iter,ifs,0⟩] scope pos) 0 it ax env).onRaise (λx=>do noteFrame x env;theTreesLotGoes x)) _ _ s
 refine wpAny_noted ?_;rw[compTurn_list];refine aB (wpAny_standAt (aB (wpAny_mono (turn n s hI) (λr s₁ h₁=>?_) λ_ _ h'=>h'.elim)))
 cases r with
 |none=>exact bh h₁
 |some v=>
  refine aB (wpAny_mono h₁ (λ_ s₀ h₀=>?_) λ_ _ h'=>h'.elim)
  refine aB (wpAny_mono h₀ (λ_ s₂ h₂=>aB (wpAny_mono h₂ (λok s₃ h₃=>?_) λ_ _ h'=>h'.elim)) λ_ _ h'=>h'.elim)
  cases ok with
  |false=>exact bh ⟨rfl,h₃⟩
  |true=>
   exact aB (aB (wpAny_mono h₃ (λx s₄ h₄=>aB (wpAny_mono h₄ (λ_ s₅ h₅=>bh (bh ⟨rfl,h₅⟩)) λ_ _ h'=>h'.elim)) λ_ _ h'=>h'.elim))
def Inv.Ew{ae:List (Addr×Obj)}{Z:St}{o:HO}(I:Inv X ae Z H s)(hn:H a=none)(hy:X.s₀.heap.objs.size<=a)(hL:a≠X.env.locals)(hC:∀x c,X.env.cells.lookup x=some c->c≠a)
  (hP:∀p∈X.pn++ae,p.1≠a) (new:cw X.prog X.w (upd H a o) s.heap a o):Inv X ae Z (upd H a o) s:=by
 refine⟨I.ok,I.os,I.bare,⟨I.base.keep,I.base.slot,λb ob e n hx=>?_,I.base.there,λb xs e=>?_,λb ob u e=>?_,λb ps e=>?_⟩,I.loc,I.cell,?_,λx c e=>?_,λp hp=>?_,λb u e=>?_,I.len⟩
 .rw[cZ (ly (iG (fG e) hy))];exact I.base.free b ob e n hx
 .have z:=I.base.mM b xs e;rw[cZ (mz z hn)];exact z
 .have z:=I.base.lM b ob u e;rw[cZ (mz z hn)];exact z
 .obtain⟨m,z⟩:=I.base.mL b ps e;exact⟨m,by rw[cZ (mz z hn)];exact z⟩
 .rw[cZ (Ne.symm hL)];exact I.free
 .rw[cZ (hC x c e)];exact I.ic x c e
 .obtain⟨e,n,r⟩:=I.pin p hp;exact⟨e,by rw[cZ (hP p hp)];exact n,r⟩
 .by_cases hb:b=a
  .subst hb;rw[jt] at e;cases e;exact new
  .rw[cZ hb] at e;exact(I.cV b u e).ot (λc v _ q=>q) (λc q=>by rw[cZ (mz q hn)];exact q) λc xs q=>by rw[cZ (mz q hn)];exact q
def kx(J:It)(g:TG)(tt:TT)(te:TE)(τ₀:St)(H1:Hp)(Fin:List V->Hp->Prop):Prop:=
 ∃(n:Nat) (W:Nat->St->List V->Hp->Prop),W 0 τ₀ [] H1/\∀i τ ax H,i<=n->W i τ ax H->
  (J.stop i H/\Fin ax H)\/(i<n/\J.go i H/\∀x H',J.xj i H x H'->g x τ H' λτ2 H2=>tt τ2 H2 λb H3=>if b=true then te τ2 H3 λv H4=>ax.length<sizeLine/\W (i+1) τ2 (ax++[v]) H4 else W (i+1) τ2 ax H3)
structure bZ (X:Cx) (scope:Scope) (M:List Str) (k:Nat) (cap:List Nat):Prop where
 kind:scope.kind=.function
 cell:∀y∈scope.names,y.2≠.cell
 free:∀y∈scope.names,y.2=.free->X.env.kindOf y.1=some .cell\/X.env.kindOf y.1=some .free
 names:∀y∈scope.names,y.2=.local -> scope.names.lookup y.1=some .local
 len:M.length=k+cap.length
 Kg:∀(j i:Nat) (x:Str),cap[j]?=some i->M[k+j]?=some x->X.N[i]?=some x/\scope.names.lookup x=some .free
section
variable{X:Cx}{ae:List (Addr×Obj)}{Z:St}{tg elt iter:Expr}{ifs:List Expr}{scope:Scope}{pos:Pos}{M:List Str}{k:Nat}{cap:List Nat}{g:TG}{tt:TT}{te:TE}
def Inv.jg(I:Inv X ae Z H s)(ok:bZ X scope M k cap):∀y∈scope.names,y.2=.free->∃c,X.env.cells.lookup y.1=some c:=λy hy e=>I.ok.has y.1 (ok.free y hy e)
def Inv.block{s4:Shared}{C D:Addr}{oD:Obj}{m:Str->Option Value}(I:Inv X ae Z H s)(ok:bZ X scope M k cap)(f2:∀b∈fp,jZ X ae H b)(Hc:∀b∈fp,∃o,s.heap.get? b=some o/\∀v,o.data≠.cell v)
  (hC:s.heap.objs.size<=C) (Dg:D≠C) (hD:s.heap.objs.size<=D) (old:∀b o,s.heap.get? b=some o->s4.heap.get? b=some o) (os:s4.os=s.os) (gens:s4.gens=s.gens)
  (ns:s4.heap.Ns C m) (hoD:s4.heap.get? D=some oD) (hdD:∀v,oD.data≠.cell v):Inv (iB X scope M C s H fp) [(D,oD)] (iK k cap Z) H s4:=by
 have hf:=I.jg ok;have fr:∀a,s.heap.objs.size<=a->H a=none:=λa ha=>I.cV.fresh ha
 have nfs:∀b∈rj X.stack,b<s.heap.objs.size:=λb hb=>by
  rcases eC.mp (I.kW b hb) with e|e
  .rw[e];exact I.lt
  .exact Nat.lt_of_not_le λz=>I.yC z e
 have cl:∀x c,(kK X.env scope.names).lookup x=some c->X.env.cells.lookup x=some c:=λx c e=>Jt hf e
 refine⟨⟨I.ok.mod,ok.kind,I.ok.glob,I.ok.blt,hC,λx y c e1 e2=>I.ok.inj x y c (cl x c e1) (cl y c e2),λx hx=>?_,λx c e _=>?_,I.ok.hd,I.ok.frames,.inl rfl,λb hb=>?_,I.bs,lT I.ok.wm I.sz,λb o e hb=>?_,λb hb z=>?_,I.stack,I.qj⟩,
  os,by rw[gens];exact I.bare,Un.kept old,⟨m,ns,λi x v h1 h2 h3=>?_⟩,λx c e=>?_,fr C hC,λx c e=>I.ic x c (cl x c e),λp hp=>?_,I.cV.kept old,?_⟩
 .have hx:(relabel scope X.env).names.lookup x=some .cell\/(relabel scope X.env).names.lookup x=some .free:=hx;have hm:(x,NameKind.free)∈scope.names:=by
   rcases hx with h|h
   .exact Il (env:=X.env) (.inl rfl) ok.cell h
   .exact Il (env:=X.env) (.inr rfl) ok.cell h
  obtain⟨c,hc⟩:=hf _ hm rfl;exact⟨c,OQ hm hc⟩
 .cases e
 .obtain⟨f0,f1,f2,f3,f4,f5⟩:=f2 b hb;obtain⟨ob,eb,_⟩:=Hc b hb;exact⟨ly (iG (fG eb) hC),λx c e=>f4 x c (cl x c e)⟩
 .obtain⟨f0,f1,f2,f3,f4,f5⟩:=f2 b hb;rcases f3 with q|q
  .exact I.ok.sU b o e q
  .exact bQ (iG (fG e) (lT I.ok.wm q)) (pF _)
 .obtain⟨f0,f1,f2,f3,f4,f5⟩:=f2 b hb;rcases eC.mp (I.kW b z) with q|q
  .exact f1 q
  .exact f2 q
 .unfold iK at h2;have hk:¬i<k:=λq=>by
   rw[yX (by simpa using q),HY] at h2
   split at h2 <;> cases h2
  rw[yW (by simpa using hk),MQ,i7] at h2
  cases e:cap[i - k]? with
  |none=>rw[e] at h2;cases h2
  |some j=>
   rw[e] at h2;have wD:(Z[j]?).join=some v:=Option.some.inj h2;have hj:Z[j]?=some (some v):=by
    cases q:Z[j]? with
    |none=>rw[q] at wD;cases wD
    |some z=>rw[q] at wD;simp at wD;rw[wD]
   have yo:k+(i - k)=i:=by lia
   obtain⟨hN,SF⟩:=ok.Kg (i - k) j x e (by rw[yo];exact h1)
   have hm:(x,NameKind.free)∈scope.names:=PySem.mem_of_lookup SF;have SO:=ok.free _ hm rfl;obtain⟨mX,hnX,hlX⟩:=I.loc;obtain⟨u,ru,lk⟩:=hlX j x v hN hj (by rcases SO with q|q;exact .inr (.inl q);exact .inr (.inr q))
   refine⟨u,ru,.inr ⟨Nk (env:=X.env) SF,?_⟩⟩;rcases lk with⟨q,_⟩|⟨_,c,hc,p8⟩
   .rcases SO with z|z
    .rw[show X.env.kindOf x=some .cell from z] at q;cases q
    .rw[show X.env.kindOf x=some .free from z] at q;cases q
   .exact⟨c,OQ hm hc,p8.keeps old⟩
 .obtain⟨v,z⟩:=I.cell x c (cl x c e);exact⟨v,z.keeps old⟩
 .have e:p=(D,oD):=by simpa[iB] using hp
  subst e;exact⟨hoD,fr D hD,Dg,λz=>bQ (iG (nfs D z) hD) (pF _),hdD⟩
 .unfold iK;rw[dy,MQ,bz];exact ok.len.symm
def N9{H2:Hp}{s2:Shared}{J:It}{it:Addr}{tn:Nat->Heap->Prop}{RR:Value->Addr->Result->Shared->Prop}{E:Value->Shared->Prop}(I2:Inv X ae Z H2 s2)(hc:X.calm=true)(ok:bZ X scope M k cap)
  (T:Turn X.prog X.w X.K tg J fp it tn) (w_:tn 0 s2.heap) (f2:∀b∈fp,jZ X ae H2 b)
  (hg:∀C s H fp,PG (iB X scope M C s H fp) tg g) (ht:∀C s H fp,qt (iB X scope M C s H fp) ifs tt) (he:∀C s H fp,PE (iB X scope M C s H fp) elt te)
  (hW:kx J g tt te (iK k cap Z) H2 Fin)
  (hRR:∀D C s' H' ax,Inv X ae Z (upd H' D (.lst ax)) s'->jZ X ae (upd H' D (.lst ax)) C->(∃m,s'.heap.Ns C m)->H' D=none->Fin ax H'->RR (.ref D) C (.ok .next) s') :
  wpAny (model X.prog X.w) X.A (newList []) (λax s₃=>wpAny (model X.prog X.w) X.A (newFunctionEnv scope X.env.globals (kK X.env scope.names) [] X.env.qual none .none (some X.env)) (λCb s₄=>
   codeAny (model X.prog X.w) X.A (.compStart (.ListComp elt [⟨tg,iter,ifs,0⟩] scope pos) 0 (.ref it) ax { Cb with scope:=relabel scope X.env}) (RR ax Cb.locals) s₄) E s₃) E s2:=by
 refine wpAny_newObj_type (wpAny_newFunctionEnv ok.cell (by intro y hy;simp at hy) (λh₁ hns₁ hsb₁=>?_) ok.kind)
 dsimp only at hns₁ hsb₁ ⊢;generalize Lj:s2.heap.push { cls:=.type "list",dict:=none,data:=.seq ([]:List Value).toArray}=H3 at hns₁ hsb₁ ⊢;have Li:H3.objs.size=s2.heap.objs.size+1:=by rw[<-Lj,Heap.size_push]
 have Dg:s2.heap.objs.size≠H3.objs.size:=by rw[Li];exact ly (Am _)
 have below:∀b,b<s2.heap.objs.size->b≠H3.objs.size/\b≠s2.heap.objs.size:=λb hb=>⟨by rw[Li];exact ly (Nat.lt_succ_of_lt hb),ly hb⟩
 have old:∀b o,s2.heap.get? b=some o->h₁.get? b=some o:=λb o e=>hsb₁.extBut b o (below b (fG e)).1 (jO _ (Lj ▸ jO _ e))
 have u4:h₁.get? s2.heap.objs.size=some { cls:=.type "list",data:=.seq ([]:List Value).toArray 0}:=hsb₁.extBut _ _ Dg (jO _ (Lj ▸ oB _ rfl));have Hc:=T.obj 0 _ w_;have u3:s2.heap.objs.size<=H3.objs.size:=by rw[Li];exact EE _
 obtain⟨N,W,w0,turn⟩:=hW;have Ti:tn 0 h₁:=T.keep _ _ _ w_ λb _ o e=>old b o e
 have loop:∀s₃:Shared,s₃={ s2 with heap:=h₁,toks:=s2.toks+([]:List (Str×Value)).length}->
   codeAny (model X.prog X.w) X.A (.compLoop (.ListComp elt [⟨tg,iter,ifs,0⟩] scope pos) 0 (.ref it) (.ref s2.heap.objs.size) (compEnvC scope (kK X.env scope.names) H3.objs.size X.env))
    (RR (.ref s2.heap.objs.size) H3.objs.size) s₃:=by
  rintro s₃ rfl;have I3:Inv (iB X scope M H3.objs.size s2 H2 fp) [(s2.heap.objs.size,{ cls:=.type "list",data:=.seq ([]:List Value).toArray 0})] (iK k cap Z) H2 { s2 with heap:=h₁,toks:=s2.toks+([]:List (Str×Value)).length}:=
   I2.block ok f2 Hc u3 Dg (cJ _) old rfl rfl hns₁ u4 (λv z=>by cases z)
  have K5:∀b∈fp,b≠H3.objs.size/\b≠s2.heap.objs.size:=λb hb=>let ⟨o,e,_⟩:=Hc b hb;below b (fG e)
  have pz:∀{H':Hp} {oD:Obj},(∀b∈fp,H' b=none)->∀b∈fp,jZ (iB X scope M H3.objs.size s2 H2 fp) [(s2.heap.objs.size,oD)] H' b:=λ{H' oD} hn b hb=>by
   obtain⟨f0,f1,f2,f3,f4,f5⟩:=f2 b hb;refine⟨hn b hb,(K5 b hb).1,λz=>?_,.inl hb,λx c e=>f4 x c (Jt (I2.jg ok) e),λp hp z=>?_⟩
   .rcases eC.mp (I2.kW b z) with q|q
    .exact f1 q
    .exact f2 q
   .have e:p=(s2.heap.objs.size,oD):=by simpa[iB] using hp
    subst e;exact(K5 b hb).2 z.symm
  refine Ua (λn s'=>∃(i:Nat) (τ:St) (ax:List V) (us:List Value) (c:Nat) (H':Hp),Vals ax us/\ax.length<=sizeLine/\
   Inv (iB X scope M H3.objs.size s2 H2 fp) [(s2.heap.objs.size,{ cls:=.type "list",data:=.seq us.toArray c})] τ H' s'/\tn i s'.heap/\(∀b∈fp,H' b=none)/\n=N - i/\i<=N/\W i τ ax H') ?_ N
   ⟨0,iK k cap Z,[],[],0,H2,.nil,kr _,I3,Ti,λb hb=>(f2 b hb).1,rfl,kr _,w0⟩
  rintro n s3 ⟨i,τ,ax,us,c,H',rv,hlen,I,st,fr,rfl,hiN,w⟩;have pinD:=(I.pin (s2.heap.objs.size,{ cls:=.type "list",data:=.seq us.toArray c}) (by simp[iB]))
  rcases turn i τ ax H' hiN w with⟨stop,qn⟩|⟨gI,go,step⟩
  .refine cB (T.done (iB X scope M H3.objs.size s2 H2 fp) rfl rfl rfl hc i _ s3 τ H' (λ_ _=>False) I (pz fr) st stop) λr s4 ⟨hr,I4⟩=>?_
   subst hr;have tD:=(I4.pin (s2.heap.objs.size,{ cls:=.type "list",data:=.seq us.toArray c}) (by simp[iB]))
   have rq:∀b∈fp,(b∈X.ex\/X.s₀.heap.objs.size<=b)/\b≠X.env.locals/\(∀x c,X.env.cells.lookup x=some c->c≠b)/\∀p∈X.pn++ae,p.1≠b:=λb hb=>by
    obtain⟨f0,f1,f2,f3,f4,f5⟩:=f2 b hb;exact⟨f3,f1,f4,f5⟩
   have J1:Inv X ae Z H' s4:=I2.Ca (ch:=fp) I4.os I4.base I4.cV I4.bare rq;have young:X.s₀.heap.objs.size<=s2.heap.objs.size:=I2.sz;have apart:∀a,s2.heap.objs.size<=a->a≠X.env.locals/\(∀x c,X.env.cells.lookup x=some c->c≠a)/\∀p∈X.pn++ae,p.1≠a:=λa ha=>
    ⟨Nat.ne_of_gt (iG I2.lt ha),λx c e z=>by
     obtain⟨v,q⟩:=I2.cell x c e;exact bQ (iG q.lt (by rw[z];exact ha)) (pF _),λp hp z=>bQ (iG (fG (I2.pin p hp).1) (by rw[z];exact ha)) (pF _)⟩
   have aD:=apart _ (cJ _);have aC:=apart _ u3;have J2:Inv X ae Z (upd H' s2.heap.objs.size (.lst ax)) s4:=J1.Ew tD.2.1 young aD.1 aD.2.1 aD.2.2 ⟨hlen,us,c,rv,tD.1⟩;obtain⟨m,hn,_⟩:=I4.loc;have hCn:H' H3.objs.size=none:=I4.free;refine hRR _ _ s4 H' ax J2 ⟨?_,aC.1,I2.yC u3,.inr (lT young u3),aC.2.1,aC.2.2⟩ ⟨m,hn⟩ tD.2.1 qn;rw[cZ (Ne.symm Dg)];exact hCn
  .refine cB (T.item (iB X scope M H3.objs.size s2 H2 fp) rfl rfl rfl hc i _ s3 τ H' (λ_ _=>False) I (pz fr) st go) λr s4 ⟨u,hr,h4⟩=>?_
   subst hr;refine cB h4 λ_ s5 hh=>?_
   obtain⟨x,H5,I5,r5,y5,yS,K7⟩:=hh;have H9:=I5.pinned (pz K7) (T.obj _ _ yS);refine cB (hg _ _ _ _ _ s5 τ H5 x u _ H9 r5 (step x H5 y5)) λ_ s6 hh=>?_
   obtain⟨τ6,H6,I6,q6⟩:=hh;refine cB (ht _ _ _ _ _ s6 τ6 H6 _ I6 q6) λb s7 hh=>?_
   obtain⟨H7,I7,q7⟩:=hh;have sR:∀{s':Shared} {τ':St} {Hn:Hp},Inv (iB X scope M H3.objs.size s2 H2 fp) ([(s2.heap.objs.size,{ cls:=.type "list",data:=.seq us.toArray c})]++BK fp s5.heap) τ' Hn s'->tn (i+1) s'.heap/\∀b∈fp,Hn b=none:=λ{s' τ' Hn} I'=>by
    refine⟨T.keep _ _ _ yS λb hb o e=>(I'.pin (b,o) (hG _ (hG _ (E6 hb e)))).1,λb hb=>?_⟩
    obtain⟨o,e,d⟩:=T.obj _ _ yS b hb;exact(I'.pin (b,o) (hG _ (hG _ (E6 hb e)))).2.1
   cases b with
   |false=>
    rw[aQ mY] at q7;show ∃m,m<N - i/\_;obtain⟨st7,K8⟩:=sR I7;exact⟨N - (i+1),by lia,i+1,τ6,ax,us,c,H7,rv,hlen,I7.iq,st7,K8,rfl,gI,q7⟩
   |true=>
    rw[aJ rfl] at q7;show wpAny _ _ (eval elt _) _ _ s7;refine cB (he _ _ _ _ _ s7 τ6 H7 _ I7 q7) λv s8 hh=>?_
    obtain⟨y,H8,I8,r8,hl8,w8⟩:=hh;obtain⟨st8,fr8⟩:=sR I8;have l8:=(I8.pin (s2.heap.objs.size,{ cls:=.type "list",data:=.seq us.toArray c}) (by simp[iB]))
    have hul:=rv.length;refine append_at (hsz:=by show us.toArray.size<=sizeLine;rw[fH,<-hul];exact hlen) l8.1 λh9 Tf e9=>?_
    have e9':h9.get? s2.heap.objs.size=some { cls:=.type "list",data:=.seq (us++[v]).toArray (c+1)}:=by rw[e9,List.push_toArray]
    have T7:=I8.iq;have Dh:s2.heap.objs.size≠(iB X scope M H3.objs.size s2 H2 fp).env.locals:=l8.2.2.1;have nx:∀(b:Addr),H8 b≠none->b≠s2.heap.objs.size:=λb hb z=>hb (by rw[z];exact l8.2.1)
    refine⟨N - (i+1),by lia,i+1,τ6,ax++[y],us++[v],c+1,H8,rv.append (.cons r8 .nil),by rw[dy,jC];exact hl8,?_,?_,fr8,rfl,gI,w8⟩
    .have I9:Inv (iB X scope M H3.objs.size s2 H2 fp) [] τ6 H8 s8:=T7.ko (λp hp=>bQ hp (by simp))
     have T6:Inv (iB X scope M H3.objs.size s2 H2 fp) [] τ6 H8 { s8 with heap:=h9}:=I9.turned (t':=s8.toks) (λb o hb e=>(Tf.2 b hb).trans e) l8.2.1 Dh (.inr (cJ _))
      (λx cc e z=>by
       obtain⟨v',q⟩:=I2.cell x cc (Jt (I2.jg ok) e);exact bQ (iG q.lt (by rw[z];exact cJ _)) (pF _)) (λp hp=>bQ hp (by simp[iB]))
     refine T6.ko λp hp=>?_
     have e:p=(s2.heap.objs.size,{ cls:=.type "list",data:=.seq (us++[v]).toArray (c+1)}):=by simpa using hp
     subst e;exact⟨e9',l8.2.1,Dh,l8.2.2.2.1,λv' z=>by cases z⟩
    .exact T.keep _ _ _ st8 λb hb o e=>Tf.extBut b o (K5 b hb).2 e
 exact codeAny_compStart_list (loop _ rfl) (T.self _ 0 _ _ _ Ti (loop _ rfl))
def tQ(wi:TI)(g:TG)(tt:TT)(te:TE)(k:Nat)(cap:List Nat):TE:=λZ H Q=>wi Z H λJ H1=>kx J g tt te (iK k cap Z) H1 λax H'=>∀l,H' l=none->Q (.ref l) (upd H' l (.lst ax))
def X'(hc:X.calm=true)(ok:bZ X scope M k cap)(hi:PI X tg iter wi)
  (hg:∀C s H fp,PG (iB X scope M C s H fp) tg g) (ht:∀C s H fp,qt (iB X scope M C s H fp) ifs tt) (he:∀C s H fp,PE (iB X scope M C s H fp) elt te)
  (hs:∀x,foldedSetIterable iter X.env x=pure x:=by intro _;rfl):PE X (.ListComp elt [⟨tg,iter,ifs,0⟩] scope pos) (tQ wi g tt te k cap):=by
 intro ae s Z H Q I h;rw[eval_ListComp];refine wpAny_comprehension_free (use:=none) rfl hs (Nf (I.jg ok)) ok.kind ok.names (cB (hi ae s Z H _ I h) λv s1 h1=>cB h1 λHr s2 h2=>?_)
 obtain⟨it,fp,tn,J,H2,e,I2,T,w_,f2,hW⟩:=h2;subst e;refine N9 (RR:=λax C=>compPost (model X.prog X.w) X.A X.xe none (EP X ae Z Q) ax C) I2 hc ok T w_ f2 hg ht he hW ?_
 intro D C s' H' ax I' fC ⟨m,hn⟩ hD hq;refine⟨m,hn,λh' sb=>?_⟩
 obtain⟨f0,f1,f2,f3,f4,f5⟩:=fC;exact⟨.ref D,_,I'.turned (t':=s'.toks) (λb o hb e=>(sb.2 b hb).trans e) f0 f1 f3 f4 f5,rfl,hq D hD⟩
def Eg(wi:TI)(g:TG)(tt:TT)(te:TE)(k:Nat)(cap:List Nat)(i:Nat):TS:=λD Z H=>tQ wi g tt te k cap Z H λv H'=>D.nx (Z.set i (some v)) H'
def PH{i:Nat}{px oq:Pos}(hc:X.calm=true)(ok:bZ X scope M k cap)(hN:X.N.Nodup)(yo:X.N[i]?=some x)(hx:Loc X.env.scope x)(hi:PI X tg iter wi)
  (hg:∀C s H fp,PG (iB X scope M C s H fp) tg g) (ht:∀C s H fp,qt (iB X scope M C s H fp) ifs tt) (he:∀C s H fp,PE (iB X scope M C s H fp) elt te)
  (Dw:swapsWith (.ListComp elt [⟨tg,iter,ifs,0⟩] scope pos) (some (.Name x px)) oq.line X.env=pure true)
  (hs:∀x,foldedSetIterable iter X.env x=pure x:=by intro _;rfl) (hf:X.fn x=true\/X.env.scope.names.lookup x=some .local := by first|exact .inl rfl|exact .inr rfl|assumption) :
  PS X (.Assign [.Name x px] (.ListComp elt [⟨tg,iter,ifs,0⟩] scope pos) oq) (Eg wi g tt te k cap i):=by
 intro ae s Z H D I h;rw[exec_Assign_Name_used _ _ _ _ Dw];refine aB (wpAny_standAt (aB ?_));show wpAny _ X.A (do let _ <-comprehension (.ListComp elt [⟨tg,iter,ifs,0⟩] scope pos) scope X.env _ (newList []) false (eval iter X.env) (some (assign (.Name x px) X.env))) _ _ s
 refine aB (wpAny_mono (wpAny_comprehension_free (use:=some (assign (.Name x px) X.env)) (Q:=λ_ s'=>SP X ae D .next s') rfl hs (Nf (I.jg ok)) ok.kind ok.names
  (cB (hi ae s Z H _ I h) λv s1 h1=>cB h1 λHr s2 h2=>?_)) (λ_ s' hq=>bh (bh hq)) λ_ _ e=>e)
 obtain⟨it,fp,tn,J,H2,e,I2,T,w_,f2,hW⟩:=h2;subst e;refine N9 (RR:=λax C=>compPost (model X.prog X.w) X.A X.xe (some (assign (.Name x px) X.env)) (λ_ s'=>SP X ae D .next s') ax C) I2 hc ok T w_ f2 hg ht he hW ?_
 intro D' C s' H' ax I' fC ⟨m,hn⟩ hD hq;obtain⟨f0,f1,f2,f3,f4,f5⟩:=fC;show wpAny _ X.A (assign (.Name x px) X.env (.ref D')) _ _ _;refine wpAny_assign_Name (NW I' hN yo hx (v:=.ref D') rfl (λEf T4 hh=>?_) hf)
 obtain⟨a,sb,ha⟩:=hh;have hCa:C≠a:=by
  rcases ha with e|e
  .rw[e];exact f1
  .exact λz=>f4 _ _ e z.symm
 refine⟨m,hn.sameBut sb hCa,λh' sb'=>⟨_,_,T4.turned (t':=Ef.toks) (λb o hb e=>(sb'.2 b hb).trans e) f0 f1 f3 f4 f5,hq D' hD⟩⟩
end
def yc(c:Nat):Str:=⟨#[c]⟩
def Vh{K:FG}{xs:List V}(Pv:Nat->St->List V->Hp->Prop)(h0:Pv 0 τ [] H)(hl:∀i τ ax H,i<=xs.length->Pv i τ ax H->dX K H a xs)
  (hs:∀i x τ ax H,xs[i]?=some x->Pv i τ ax H->g x τ H λτ2 H2=>tt τ2 H2 λb H3=>if b=true then te τ2 H3 λv H4=>ax.length<sizeLine/\Pv (i+1) τ2 (ax++[v]) H4 else Pv (i+1) τ2 ax H3)
  (hd:∀τ ax H,Pv xs.length τ ax H->Fin ax H):kx (xo K a) g tt te τ H Fin:=by
 refine⟨xs.length,Pv,h0,λi τ ax H hi p=>?_⟩
 have q:=hl i τ ax H hi p;by_cases gI:i<xs.length
 .refine .inr ⟨gI,⟨xs,xs[i],q,by simp[gI]⟩,λx H' y=>?_⟩
  obtain⟨e,y⟩:=y;subst e;exact hs i x τ ax _ (y xs q) p
 .have e:i=xs.length:=by lia
  subst e;exact .inl ⟨⟨xs,q,cJ _⟩,hd τ ax H p⟩
def NB{lo:Int}{n:Nat}(Pv:Nat->St->List V->Hp->Prop)(h0:Pv 0 τ [] H)
  (hs:∀i τ ax H,i<n->Pv i τ ax H->g (.int (lo+i)) τ H λτ2 H2=>tt τ2 H2 λb H3=>if b=true then te τ2 H3 λv H4=>ax.length<sizeLine/\Pv (i+1) τ2 (ax++[v]) H4 else Pv (i+1) τ2 ax H3)
  (hd:∀τ ax H,Pv n τ ax H->Fin ax H):kx (tZ lo n) g tt te τ H Fin:=by
 refine⟨n,Pv,h0,λi τ ax H hi p=>?_⟩
 by_cases gI:i<n
 .refine .inr ⟨gI,gI,λx H' y=>?_⟩
  obtain⟨e,y⟩:=y;subst e y;exact hs i τ ax _ gI p
 .have e:i=n:=by lia
  subst e;exact .inl ⟨cJ _,hd τ ax H p⟩
noncomputable def PJ(names outer:List (Str×NameKind))(N M:List Str)(k:Nat)(cap:List Nat):Bool:=
 names.all (λy=>y.2 != .cell)&&(names.all (λy=>y.2 != .free || (outer.lookup y.1 == some .cell || outer.lookup y.1 == some .free))&&(names.all (λy=>y.2 != .local || names.lookup y.1 == some .local) &&
  (M.length == k+cap.length&&(List.range cap.length).all (λj=>match cap[j]?,M[k+j]? with|some i,some x=>N[i]? == some x&&names.lookup x == some .free|_,_=>true))))
def bZ.of{M:List Str}{cap:List Nat}(outer:List (Str×NameKind))(N:List Str)(h:PJ scope.names outer N M k cap=true)(ho:X.env.scope.names=outer:=by rfl)(hN:X.N=N:=by rfl)(hk:scope.kind=.function:=by rfl):bZ X scope M k cap:=by
 unfold PJ at h;simp only[lS,lB,Bool.or_eq_true,bne_iff_ne,ne_eq,beq_iff_eq] at h;obtain⟨h1,h2,h3,h4,h5⟩:=h;refine⟨hk,h1,λy hy e=>?_,λy hy e=>?_,h4,λj i x e1 e2=>?_⟩
 .rcases h2 y hy with z|z
  .exact bQ e z
  .show X.env.scope.names.lookup y.1=_\/X.env.scope.names.lookup y.1=_;rw[ho];exact z
 .rcases h3 y hy with z|z
  .exact bQ e z
  .exact z
 .have hj:j<cap.length:=(eO.mp e1).1;have:=h5 j (oz.mpr hj);rw[e1,e2] at this;simp only[lS,beq_iff_eq] at this;rw[hN];exact this
section
variable{X:Cx}
def Ya:gd X (compareOp .IsNot) (λx y H Q=>∃a b,x=.bl a/\y=.bl b/\Q (.bl (a != b)) H):=by
 intro ae s Z H x y v u Q I rx ry h;obtain⟨a,b,rfl,rfl,q⟩:=h;cases rx;cases ry;exact isnot_bool (zo I q rfl)
def Gp(K:FG)(H:Hp):V->String->Prop
 |.bH,n=>n="NoneType"
 |.bl _,n=>n="bool"
 |.int _,n=>n="int"
 |.str _,n=>n="str"
 |.ref a,n=>(n="list"/\∃xs,dX K H a xs)\/(n="tuple"/\∃xs,gL K H a xs)
 |_,_=>False
def jJ(k T:String):Bool:=k == T || (k == "bool" && T == "int")
def Wu:cT X (.builtin "isinstance") (λxs H Q=>∃x k T,xs=[x,.ty T]/\Gp X.K H x k/\(T="int"\/T="str"\/T="bool"\/T="list"\/T="tuple")/\Q (.bl (jJ k T)) H):=by
 intro ae s Z H xs us Q I r h;obtain⟨x,k,T,rfl,hk,hT,q⟩:=h;obtain⟨u,w',rfl,rx,ry⟩:=vals2 r;cases ry;have fin:∀b,b=jJ k T->EP X ae Z Q (.bool b) s:=λb e=>zo I q e.symm
 have dr:∀b,b=jJ k T->EP X ae Z Q (.bool b) { s with toks:=s.toks+1}:=λb e=>zo (I.tok _) q e.symm
 cases x with
 |bH=>
  cases rx;have hk:k="NoneType":=hk;subst hk;rcases hT with rfl|rfl|rfl|rfl|rfl
  .exact IsiPair.NoneType_int (dr _ (by decide))
  .exact IsiPair.NoneType_str (dr _ (by decide))
  .exact IsiPair.NoneType_bool (dr _ (by decide))
  .exact IsiPair.NoneType_list (dr _ (by decide))
  .exact IsiPair.NoneType_tuple (dr _ (by decide))
 |bl b=>
  cases rx;have hk:k="bool":=hk;subst hk;rcases hT with rfl|rfl|rfl|rfl|rfl
  .exact IsiPair.bool_int (fin _ (by decide))
  .exact IsiPair.bool_str (dr _ (by decide))
  .exact IsiPair.bool_bool (fin _ (by decide))
  .exact IsiPair.bool_list (dr _ (by decide))
  .exact IsiPair.bool_tuple (dr _ (by decide))
 |int i=>
  obtain⟨t,rfl⟩:=rx;have hk:k="int":=hk;subst hk;rcases hT with rfl|rfl|rfl|rfl|rfl
  .exact IsiPair.int_int (fin _ (by decide))
  .exact IsiPair.int_str (dr _ (by decide))
  .exact IsiPair.int_bool (dr _ (by decide))
  .exact IsiPair.int_list (dr _ (by decide))
  .exact IsiPair.int_tuple (dr _ (by decide))
 |str z=>
  obtain⟨t,rfl⟩:=rx;have hk:k="str":=hk;subst hk;rcases hT with rfl|rfl|rfl|rfl|rfl
  .exact IsiPair.str_int (dr _ (by decide))
  .exact IsiPair.str_str (fin _ (by decide))
  .exact IsiPair.str_bool (dr _ (by decide))
  .exact IsiPair.str_list (dr _ (by decide))
  .exact IsiPair.str_tuple (dr _ (by decide))
 |ref a=>
  cases rx;rcases hk with⟨hk,ys,hs⟩|⟨hk,ys,hs⟩
  .subst hk;obtain⟨ay,_,⟨o,n,e,hc,_⟩,_⟩:=I.list hs;rcases hT with rfl|rfl|rfl|rfl|rfl
   .exact IsiPair.list_int e hc (dr _ (by decide))
   .exact IsiPair.list_str e hc (dr _ (by decide))
   .exact IsiPair.list_bool e hc (dr _ (by decide))
   .exact IsiPair.list_list e hc (fin _ (by decide))
   .exact IsiPair.list_tuple e hc (dr _ (by decide))
  .subst hk;obtain⟨ay,_,⟨o,e,hc,_⟩,_⟩:=I.tuple hs;rcases hT with rfl|rfl|rfl|rfl|rfl
   .exact IsiPair.tuple_int e hc (dr _ (by decide))
   .exact IsiPair.tuple_str e hc (dr _ (by decide))
   .exact IsiPair.tuple_bool e hc (dr _ (by decide))
   .exact IsiPair.tuple_list e hc (dr _ (by decide))
   .exact IsiPair.tuple_tuple e hc (fin _ (by decide))
 |zB _=>exact False.elim hk
 |zK _=>exact False.elim hk
 |ty _=>exact False.elim hk
def qA{n:String}{pos:Pos}(hg:Gl X x)(hm:X.mg x=none)(hv:bootBuiltins x=some (.type n))(hn:x≠"__name__":=by decide)(hd:(x == ("__debug__":Str))=false:=by decide):PE X (.Name x pos) (tC (.ty n)):=
 XU hg hm hv rfl hn hd
def Nr(ay:List Value)(bs:List Bool)(hv:Vals (bs.map V.bl) ay):TruthOf prog w A (λi v=>ay.toArray[i]?=some v) (λi=>bs.getD i false):=by
 intro i v s Q E hP hQ;have Sr:ay[i]?=some v:=by simpa using hP
 have hl:=hv.length;rw[bz] at hl;have hi:i<ay.length:=(eO.mp Sr).1;have hb:(bs.map V.bl)[i]?=some (.bl bs[i]):=by simp[show i<bs.length by lia]
 obtain⟨u,hu,ru⟩:=hv.get hb;rw[Sr] at hu;cases hu;cases ru;have e:bs.getD i false=bs[i]:=by simp[show i<bs.length by lia]
 have Ss:Q (bs.getD i false) s:=hQ;rw[e] at Ss;exact wpAny_truthy_bool Ss
def Vi(bs:List Bool):(List.range bs.length).all (λi=>bs.getD i false)=bs.all id:=by
 rw[tT,lB,lB];constructor
 .intro h b hb;obtain⟨i,hi,e⟩:=HM.mp hb;have:=h i (oz.mpr hi);simp[hi] at this;rw[<-e];exact this
 .intro h i hi;have hi:=oz.mp hi;have:=h bs[i] (xh hi);simp[hi];exact this
def Vj(bs:List Bool):(List.range bs.length).any (λi=>bs.getD i false)=bs.any id:=by
 rw[tT,An,An];constructor
 .rintro⟨i,hi,h⟩;have hi:=oz.mp hi;simp[hi] at h;exact⟨bs[i],xh hi,h⟩
 .rintro⟨b,hb,h⟩;obtain⟨i,hi,e⟩:=HM.mp hb;refine⟨i,oz.mpr hi,?_⟩;simp[hi];rw[e];exact h
def Vk(hc:X.calm=true):cT X (.builtin "all") (λxs H Q=>∃(a:Addr) (bs:List Bool),xs=[.ref a]/\dX X.K H a (bs.map V.bl)/\Q (.bl (bs.all id)) H):=by
 intro ae s Z H xs us Q I r h;obtain⟨a,bs,rfl,hs,q⟩:=h;obtain⟨u,rfl,ru⟩:=vals1 r;cases ru;obtain⟨ay,rv,p,hz⟩:=I.list hs;have hl:=rv.length;rw[bz] at hl;refine call_all_walk (wpAny_pyIter_list p.isList ?_);have i6:a≠s.heap.objs.size:=by obtain⟨o,n,e,_⟩:=p;exact ly (fG e)
 refine⟨s.heap.objs.size,_,_,ay.toArray.size,_,_,λi=>bs.getD i false,rfl,Walks.list (A:=X.A.in1) (show X.A.in1.handled=none from I.ok.hd hc) _ a i6 ay.toArray,⟨⟨_,oB _ rfl,rfl,rfl⟩,?_⟩,Nr ay bs rv,λh' tk hk=>?_⟩
 .exact p.isList.at λo e=>jO _ e
 .have e1:ay.toArray.size=bs.length:=by rw[fH,<-hl]
  refine⟨.bl (bs.all id),H,I.kept (h':=h') (t':=tk) (λb o e=>hk b o (λz=>bQ (iG (fG e) (Nat.le_of_eq (jD.mp z).symm)) (pF _)) (jO _ e)),?_,q⟩
  show Value.bool _=Value.bool _;rw[e1,Vi]
def Vl(hc:X.calm=true):cT X (.builtin "any") (λxs H Q=>∃(a:Addr) (bs:List Bool),xs=[.ref a]/\dX X.K H a (bs.map V.bl)/\Q (.bl (bs.any id)) H):=by
 intro ae s Z H xs us Q I r h;obtain⟨a,bs,rfl,hs,q⟩:=h;obtain⟨u,rfl,ru⟩:=vals1 r;cases ru;obtain⟨ay,rv,p,hz⟩:=I.list hs;have hl:=rv.length;rw[bz] at hl;refine call_any_walk (wpAny_pyIter_list p.isList ?_);have i6:a≠s.heap.objs.size:=by obtain⟨o,n,e,_⟩:=p;exact ly (fG e)
 refine⟨s.heap.objs.size,_,_,ay.toArray.size,_,_,λi=>bs.getD i false,rfl,Walks.list (A:=X.A.in1) (show X.A.in1.handled=none from I.ok.hd hc) _ a i6 ay.toArray,⟨⟨_,oB _ rfl,rfl,rfl⟩,?_⟩,Nr ay bs rv,λh' tk hk=>?_⟩
 .exact p.isList.at λo e=>jO _ e
 .have e1:ay.toArray.size=bs.length:=by rw[fH,<-hl]
  refine⟨.bl (bs.any id),H,I.kept (h':=h') (t':=tk) (λb o e=>hk b o (λz=>bQ (iG (fG e) (Nat.le_of_eq (jD.mp z).symm)) (pF _)) (jO _ e)),?_,q⟩
  show Value.bool _=Value.bool _;rw[e1,Vj]
end
structure aH (K:FG) (mg:Str->Option Value) (x:Str) (st:Stmt) (f:Addr) (fd:FuncData) (ps:List Str):Prop where
 fn:tY K x x st f fd
 mg:mg x=some (.ref f)
 bd:Binds K fd ps []
section
variable{X:Cx}{k:Nat}{f:Addr}{fd:FuncData}{ps:List Str}{sp:Sp}{x:Str}{p pos:Pos}{e:Expr}{es:List Expr}{t:TA}{st:Stmt}
def wV(D:aH X.K X.mg x st f fd ps)(F:bR X.prog X.w X.K X.mg X.base fx k f fd ps sp)(hr:eD k X.A)(ha:PA X (e::es) t)(hg:Gl X x:=by rfl)(o7:(x == ("__debug__":Str))=false:=by decide)
  (he:starEach (e::es) X.env=(false,eval e X.env)::starEach es X.env:=by rfl) (j8:(backTo pos (starEach es X.env)).any (·.1)=false:=by rfl) :
  PE X (.Call (.Name x p) (e::es) [] pos) (qk sp [] E0 t):=X4 F hr hg D.mg D.fn.kp D.bd .nil DX ha o7 he j8
end
section
variable{X:Cx}{a b:Expr}{rest:List Expr}{pos:Pos}{ta tb:TE}{tA tB:TT}
end
def aF.put{H':Hp}{o:HO}(s:aF H H')(h:H' a=none):aF H (upd H' a o):=λb u e=>by
 have z:=s b u e;rw[cZ (mz z h)];exact z
def uK{o:HO}(h:H a=none):aF H (upd H a o):=(aF.refl H).put h
def OR{α:Type}{xs:List α}{k:Int}(d:α)(h0:0<=k)(hk:k<xs.length):cN xs k=some (xs.getD k.toNat d):=by
 have sH:k.toNat<xs.length:=by lia
 have e:xs[k.toNat]?=some (xs.getD k.toNat d):=by simp[sH]
 have z:=oE e
 rwa[show((k.toNat:Nat):Int)=k by lia] at z
def JW:bootBuiltins "int"=some (.type "int"):=by decide +kernel
def BM:bootBuiltins "str"=some (.type "str"):=by decide +kernel
def Yb:bootBuiltins "bool"=some (.type "bool"):=by decide +kernel
def xE:bootBuiltins "list"=some (.type "list"):=by decide +kernel
def Fm:bootBuiltins "tuple"=some (.type "tuple"):=by decide +kernel
def qy:bootBuiltins "isinstance"=some (.builtin "isinstance"):=by decide +kernel
def Ψ:bootBuiltins "all"=some (.builtin "all"):=by decide +kernel
def Ω:bootBuiltins "any"=some (.builtin "any"):=by decide +kernel
def j5:bootBuiltins "len"=some (.builtin "len"):=by decide +kernel
def QX{n:Nat}(h:n<=1000):n<=sizeLine:=lT h (by decide)
def om(h:Heap)(as:List Addr):FG:=as.filterMap λa=>(h.get? a).map λo=>(a,o)
def NC:∀{as:List Addr},a∈as->(om h as).lookup a=h.get? a:=by
 intro as
 induction as with
 |nil=>intro m;cases m
 |cons b r ih=>
  intro m;unfold om;rw[yV];cases e:h.get? b with
  |none=>
   dsimp only[Option.map];by_cases q:a=b
   .subst q;by_cases m':a∈r
    .exact ih m'
    .rw[e];clear ih m
     induction r with
     |nil=>rfl
     |cons c r ih=>
      rw[yV];have q2:a≠c:=λz=>m' (z ▸ .head _)
      cases e2:h.get? c with
      |none=>exact ih λz=>m' (.tail _ z)
      |some o=>dsimp only[Option.map];rw[pG,beq_false_of_ne q2];exact ih λz=>m' (.tail _ z)
   .exact ih ((eC.1 m).resolve_left q)
  |some o=>
   dsimp only[Option.map];rw[pG];by_cases q:a=b
   .subst q;rw[pJ];exact e.symm
   .rw[beq_false_of_ne q];exact ih ((eC.1 m).resolve_left q)
def snap(h:Heap):FG:=om h (List.range h.objs.size)
def b2i{o:Obj}(e:h.get? a=some o):(snap h).lookup a=some o:=(NC (oz.2 (fG e))).trans e
def Yc:(snap h).In h:=λa o e=>by
 have m:a∈List.range h.objs.size:=by
  apply oC;intro m;have:∀as:List Addr,a∉as->(om h as).lookup a=none:=by
   intro as
   induction as with
   |nil=>intro _;rfl
   |cons b r ih=>
    intro m;unfold om;rw[yV];have q2:a≠b:=λz=>m (z ▸ .head _)
    cases e2:h.get? b with
    |none=>exact ih λz=>m (.tail _ z)
    |some o=>dsimp only[Option.map];rw[pG,beq_false_of_ne q2];exact ih λz=>m (.tail _ z)
  rw[snap,this _ m] at e;cases e
 exact(NC m).symm.trans e
def sP(n:Str):Stmt->Bool
 |.FunctionDef m _ _ _ _ _ _ _ _ _=>m == n
 |_=>false
def BN(n:Str):List Stmt->Nat->Bool
 |[],_=>true
 |s::r,0=>sP n s&&r.all λs => !sP n s
 |s::r,j+1 => !sP n s&&BN n r j
def Uv{x:Stmt}:∀{l:List Stmt} {j:Nat},BN n l j=true->l[j]?=some x->l.filter (sP n)=[x]:=by
 intro l
 induction l with
 |nil=>intro j _ h;cases h
 |cons s r ih=>
  intro j c h;cases j with
  |zero=>
   obtain⟨c1,c2⟩:=Bool.and_eq_true_iff.1 c;cases h;rw[List.filter_cons_of_pos c1,List.filter_eq_nil_iff.2 λy hy z=>by have:=lB.1 c2 y hy;rw[z] at this;cases this]
  |succ j=>
   obtain⟨c1,c2⟩:=Bool.and_eq_true_iff.1 c;rw[List.filter_cons_of_neg (by intro z;rw[z] at c1;cases c1)]
   exact ih c2 h
def δ{m:Str}{a:Arguments}{b:List Stmt}{sc:Scope}{r:Option Expr}{y z t}{pos:Pos}(c:BN n q.main.body j=true)(h:q.main.body[j]?=some (.FunctionDef m a b [] r [] sc y z pos))
  (hd:a.defaults=[]) (hk:a.kwonlyargs=[]) (zS:a.kw_defaults=[]) (ht:t=(a,b,sc)):∃p,(⟨n,t.1,t.2.1,t.2.2,p⟩:DefRec)∈recsOf q:=by
 subst ht;have f:=Uv c h;have e:(m == n)=true:=by
  have:Stmt.FunctionDef m a b [] r [] sc y z pos∈q.main.body.filter (sP n):=by rw[f];exact .head _
  exact(jB.1 this).2
 cases(beq_iff_eq.1 e:m=n);refine⟨pos,vE.2 ⟨_,jr h,?_⟩⟩;have g:q.theDef n=some (a,b,sc):=by
  unfold Program.theDef;split
  .rename_i hq;cases hq.symm.trans f;rfl
  .rename_i hq;exact(hq _ _ _ _ _ _ _ _ f).elim
 dsimp only;rw[g];dsimp only;rw[hd,hk,zS];rfl
def Yd{L:List Str}{me}{mg mb:Str->Option Value}(T:Top q L me mg mb h){st:Stmt}(hr:∃p,(⟨n,zd st,uN st,dQ st,p⟩:DefRec)∈recsOf q):
  ∃f fd,mg n=some (.ref f)/\tY (snap h) n n st f fd:=by
 obtain⟨p,hr⟩:=hr;obtain⟨a,o,pm,code,doc,hm,ho,hd,hc⟩:=T.fn _ hr;obtain⟨c,oc,vs,t,rfl,Hk,hdc,hv⟩:=hc;obtain⟨k1,k2,k3,k4⟩:=o;cases(show k3=_ from hd);refine⟨a,_,hm,Φ (oc:=k1) (od:=k2) (osl:=k4) (an:=none) (ct:=.none) (kV:=.none) (b2i ho) ?_ ?_⟩
 .unfold PySem.W.codeIn;dsimp only;rw[b2i Hk];obtain⟨l1,l2,l3,l4⟩:=oc;cases(show l3=_ from hdc);rw[<-mr] at hv;dsimp only
  match hq:vs.toList,hv with
  |_::_::_,hv=>cases hv;exact pJ n
 .unfold PySem.W.keepIn;dsimp only;rw[b2i ho]
def tR{l:PySem.W.OpenLaw}{n:Nat}{loose:List Str}{XP:(Str->Option Value)->Heap->Prop}{YP:World->Heap->Prop}{d:DefRec}{CX:qo}{sp:FG->Sp}
  (hn:l.most=some n) (Hh:n<=sizeLine) (Dm:d.params.defaults=[]) (hr:eD k callerA)
  (F:∀(w:World) (me) (mg mb:Str->Option Value) (fa:Addr) (h:Heap),Top q (PySem.W.looseW q loose) me mg mb h->mg d.name=some (.ref fa)->
   ∃fd:FuncData,(∀(s:Shared) (u:Value),BindsTo s fd ⟨[u],[]⟩ [(x,u)])/\
    ∀base:Heap,bR l.prog w (snap h) mg base CX k fa fd [x] (sp (snap h)))
  (wI:∀(K:FG) (H:Hp) (a:Addr) (ns:List Int),ns.length<=n->xr H->dX K H a (ns.map V.int)->sp K [.ref a] H (λv _=>v=.bl true) λ_ _ _=>False)
  (Lh:∀(H:Hp) (s:Shared) (e:Value) (s':Shared),CX [] H s (λ_ _ _=>False) e s'->False) :
  PySem.W.WalkO q loose XP YP l.row.toRowW d [] (λf vs=>PySem.call f vs):=by
 refine M'.nt hn Dm λw s₀ s₁ mg mb fa o pm cd doc a vs ns G Y ho hd qE LB yp hints hlen hg=>?_
 obtain⟨fd,hb,hF⟩:=F w _ mg mb fa _ G.T LB;exact Wt Yc G.T.g G.T.b G.T.builtins G.T.nolimit hg yp hints (lT hlen Hh) hr (λbase _ _=>hF base) hb (λH hO hS=>wI _ H a ns hlen hO hS) λH e s'=>Lh H s₁ e s'
def yu:Stmt->Bool
 |.FunctionDef _ a _ [] _ [] _ _ _ _=>a.defaults.isEmpty&&a.kwonlyargs.isEmpty&&a.kw_defaults.isEmpty
 |_=>false
def yb(B:List Stmt)(D:List (Str×Nat)):Bool:=D.all λp=>BN p.1 B p.2&&(B[p.2]?).any yu
def ε{st:Stmt}(c:BN n q.main.body j=true)(h:q.main.body[j]?=some st)(hp:yu st=true):∃p,(⟨n,zd st,uN st,dQ st,p⟩:DefRec)∈recsOf q:=by
 unfold yu at hp;split at hp
 .simp only[lS,List.isEmpty_iff] at hp;exact δ c h hp.1.1 hp.1.2 hp.2 rfl
 .cases hp
section
variable{q:Program}{L:List Str}{me:ExcName->Option Value}{mg mb:Str->Option Value}{h:Heap}
def jv(T:Top q L me mg mb h){B:List Stmt}{D:List (Str×Nat)}(hq:q.main.body=B)(c:yb B D=true)(i:Nat){st:Stmt}(hi:D[i]?=some (n,j))(hj:B[j]?=some st):
  ∃f fd,mg n=some (.ref f)/\tY (snap h) n n st f fd:=by
 obtain⟨c1,c2⟩:=Bool.and_eq_true_iff.1 (lB.1 c _ (jr hi));dsimp only at c1 c2;rw[hj] at c2;exact Yd T (ε (by rw[hq];exact c1) (by rw[hq];exact hj) c2)
def ya(q:Program)(L bs:List Str):Bool:=bs.all λx => !startupNames.contains x && !L.contains x && !((recsOf q).map (·.name)).contains x && !((litsOf q).map (·.1)).contains x && !((clssOf q L).map (·.name)).contains x
def qW(T:Top q L me mg mb h){bs:List Str}(c:ya q L bs=true)(i:Nat)(hi:bs[i]?=some x):mg x=none:=by
 have z:=lB.1 c _ (jr hi);simp only[lS,Bool.not_eq_true',<-EF,EG] at z;exact T.free x z.1.1.1.1 z.1.1.1.2 z.1.1.2 z.1.2 z.2
def N_(T:Top q L me mg mb h){y:Str}(hv:valOf q x=some (.str y)):∃t,mg x=some (.str y t):=by
 obtain⟨v,hm,hr⟩:=T.const x _ hv;cases hr h;exact⟨_,hm⟩
end
section
variable{X:Cx}
def qF(xs:List V)(k:Nat)(y:V):List V:=xs.take k++y::xs.drop k
def Uw(xs:List V)(k:Nat)(y:V):(qF xs k y).length=xs.length+1:=by
 unfold qF;rw[dy,hX,ql,vF];lia
def PK:V->List V->Hp->VK->Prop:=λx vs H Q=>∃l xs i y,x=.ref l/\vs=[.int i,y]/\H l=some (.lst xs)/\0<=i/\i<2^62/\xs.length<sizeLine/\Q .bH (upd H l (.lst (qF xs i.toNat y)))
def Be:xq X "list.insert" PK:=by
 intro ae s Z H x vs v us Q I rx rv h;obtain⟨l,xs,i,y,rfl,rfl,hH,h0,hi,hz,q⟩:=h;cases rx;obtain⟨u,u',rfl,⟨t,rfl⟩,ru⟩:=rv.two;obtain⟨z,ay,n,r,hl,e⟩:=I.yy hH;have Ls:¬(!Builtin.List.listFitsIndex i)=true:=by
  unfold Builtin.List.listFitsIndex;simp;lia
 refine call_meets F.slot_list_insert ⟨_,e,rfl⟩ F.entry_list_insert (F.args_list_insert_3 _ _ _) (PySem.AutoSeq1.list_insert_list_int_val_1 l ay.toArray n i t u' Ls (by rw[fH];lia)) ⟨e,?_⟩
 refine⟨.bH,_,I.yx (its':=ay.take i.toNat++u'::ay.drop i.toNat) hH e ?_ ((r.take i.toNat).append (.cons ru (r.drop i.toNat))) ?_,rfl,q⟩
 .have h1:¬i<0:=by lia
  simp only[h1,bS];apply Array.ext';simp only[Array.toList_append,Array.toList_push,Array.toList_extract,fH];rw[List.extract_eq_drop_take,List.extract_eq_drop_take];have e1:min i.toNat ay.length - 0=min i.toNat ay.length:=by lia
  rw[e1];simp only[pH];have e2:ay.take (min i.toNat ay.length)=ay.take i.toNat:=by rw[List.take_eq_take_iff];lia
  rw[e2];by_cases hc:i.toNat<=ay.length
  .rw[Nat.min_eq_left hc,EH (l:=List.drop i.toNat ay) (by rw[vF];lia)]
   simp
  .have hc:ay.length<=i.toNat:=by lia
   rw[Nat.min_eq_right hc,MR (cJ _),MR hc];simp
 .show(qF xs i.toNat y).length<=sizeLine;rw[Uw];lia
def Ee:V->Option Int->Option Int->Hp->VK->Prop:=λx lo hi H Q=>∃z,x=.str z/\z.length<=sizeLine/\Q (.str (Txt.slice z lo hi)) H
def yR:rL X Ee:=by
 intro ae s Z H x v vl vu lo hi sl Q I rx hs pl pu h;obtain⟨z,rfl,hz,q⟩:=h;obtain⟨t,rfl⟩:=rx;refine⟨"str",_,F.slot_str_getitem.lookup,typeIs_str _ _ _,?_⟩;have fin:∀t' k,EP X ae Z Q (.str (Txt.slice z lo hi) t') { s with toks:=k}:=λt' k=>⟨.str _,H,I.tok _,⟨_,rfl⟩,q⟩
 cases pl with
 |none=>
  cases pu with
  |none=>exact wpAny_getItem_str_slice (l:=none) (u:=none) (st:=none) hs rfl (post_val_or_str ⟨lT (Txt.slice_le z _ _) hz,fin⟩)
  |int j tj=>exact wpAny_getItem_str_slice (l:=none) (u:=some (j,tj)) (st:=none) hs rfl (post_val_or_str ⟨lT (Txt.slice_le z _ _) hz,fin⟩)
 |int i ti=>
  cases pu with
  |none=>exact wpAny_getItem_str_slice (l:=some (i,ti)) (u:=none) (st:=none) hs rfl (post_val_or_str ⟨lT (Txt.slice_le z _ _) hz,fin⟩)
  |int j tj=>exact wpAny_getItem_str_slice (l:=some (i,ti)) (u:=some (j,tj)) (st:=none) hs rfl (post_val_or_str ⟨lT (Txt.slice_le z _ _) hz,fin⟩)
def UL:gd X (binaryOp .Mult) (λx y H Q=>∃z n,x=.str z/\y=.int n/\MulOk z n/\Q (.str (Txt.mul z n)) H):=by
 intro ae s Z H x y v u Q I rx ry h;obtain⟨z,n,rfl,rfl,hm,q⟩:=h;obtain⟨t,rfl⟩:=rx;obtain⟨t',rfl⟩:=ry;exact SB.mul hm λt' k=>⟨.str _,H,I.tok _,⟨_,rfl⟩,q⟩
end
inductive xl (K:FG) (H:Hp):Nat->V->V->Bool->Prop
 |flat {d:Nat} {x y:V}:wz x=true->wz y=true->xl K H d x y (eqV x y)
 |same {d:Nat} {a:Addr}:xl K H d (.ref a) (.ref a) true
 |lst {d:Nat} {a b:Addr} {xs ys:List V} {e:Nat->Bool}:a≠b->dX K H a xs->dX K H b ys->xs.length=ys.length->(∀(i:Nat) x y,xs[i]?=some x->ys[i]?=some y->xl K H d x y (e i))->xl K H (d+1) (.ref a) (.ref b) ((List.range xs.length).all e)
 |lstN {d:Nat} {a b:Addr} {xs ys:List V}:a≠b->dX K H a xs->dX K H b ys->xs.length≠ys.length->xl K H (d+1) (.ref a) (.ref b) false
 |tup {d:Nat} {a b:Addr} {xs ys:List V} {e:Nat->Bool}:a≠b->gL K H a xs->gL K H b ys->(∀(i:Nat) x y,xs[i]?=some x->ys[i]?=some y->xl K H d x y (e i))->xl K H (d+1) (.ref a) (.ref b) ((List.range (min xs.length ys.length)).all e&&xs.length == ys.length)
section
variable{X:Cx}{ae:List (Addr×Obj)}{Z:St}{H:Hp}{s:Shared}
theorem Vals.at{xs:List V}{us:List Value}(r:Vals xs us){j:Nat}(h:j<us.toArray.size):∃x,xs[j]?=some x/\RelV x us.toArray[j]:=by
 have hl:=r.length;have h':j<us.length:=by simpa using h
 have hx:xs[j]?=some xs[j]:=by simp[show j<xs.length by lia]
 obtain⟨u,hu,ru⟩:=r.get hx;have:us[j]?=some us[j]:=by simp[h']
 rw[this] at hu;cases hu;exact⟨xs[j],hx,by simpa using ru⟩
end
section
variable{X:Cx}
def Wv(K:FG)(hK:X.K=K:=by rfl):qr X (yM K):=hK ▸ X8
def Ye(K:FG)(hK:X.K=K:=by rfl):qr X (yN K):=hK ▸ Δ
def Uj(K:FG)(hK:X.K=K:=by rfl):cT X (.builtin "len") (λxs H Q=>∃p ys,xs=[.ref p]/\(dX K H p ys\/gL K H p ys)/\Q (.int ys.length) H):=hK ▸ Up
def Ww(K:FG)(hK:X.K=K:=by rfl):rL X (yO K):=hK ▸ X9
def Yf(K:FG)(hK:X.K=K:=by rfl):rL X (yP K):=hK ▸ Γ
def qv(K:FG)(hK:X.K=K:=by rfl):cT X (.builtin "isinstance") (λxs H Q=>∃x k T,xs=[x,.ty T]/\Gp K H x k/\(T="int"\/T="str"\/T="bool"\/T="list"\/T="tuple")/\Q (.bl (jJ k T)) H):=hK ▸ Wu
def E2(K:FG)(hK:X.K=K:=by rfl):cT X (.type "list") (λxs H Q=>∃p ys,xs=[.ref p]/\(dX K H p ys\/gL K H p ys)/\∀l,H l=none->Q (.ref l) (upd H l (.lst ys))):=hK ▸ Ur
def Vm(K:FG){a:Expr}{ta:TE}(ha:PE X a ta)(he:∀whole,isTrue a X.env whole=(do let v <-whole;standAt a.pos;holding [v] (truthy v)))(hK:X.K=K:=by rfl):
  PT X a (λZ H Q=>ta Z H λx H'=>∃k,uF K x H' k/\Q k H'):=hK ▸ Wn ha he
def vO(K:FG)(hl:PE X l tl)(hK:X.K=K:=by rfl):PI X tg l (nQ K tl):=hK ▸ PB hl
def Yg(K:FG)(hl:PE X l tl)(hK:X.K=K:=by rfl):PI X tg l (yr K tl):=hK ▸ QU hl
end
def qX(hr:eD k A):A.units+40<cLine:=Nat.lt_of_le_of_lt (Nat.add_le_add_left (by decide:40<=64) _) hr.units
end L2
namespace Carry
open PySem L2
variable{m:Int}
def SB(f:Addr)(H H':Hp):Prop:=∀b o,H b=some o->b≠f->H' b=some o
structure aZ where
 ns:List Int
 pl:Int
 xb:Int
 mode:Int
 num:Int
def C5(sl:Addr)(F:aZ):HO:=.lst [.ref sl,.int F.pl,.int F.xb,.int F.mode,.int F.num]
structure FeedAt (H:Hp) (f sl:Addr) (F:aZ):Prop where
 fo:H f=some (C5 sl F)
 so:H sl=some (.lst (F.ns.map V.int))
 pos:0<=F.pl
 len:F.ns.length<=63
def cellOf(F:aZ):Int:=if 0<F.ns.length then F.ns.getD (F.pl%F.ns.length).toNat 0+F.pl / F.ns.length*31 else F.pl
def aG(F:aZ)(m:Int):Int:=if F.mode=1 then F.num%m else(cellOf F*48271+31*F.pl)%1000003*69621%999983%m
def aA(F:aZ)(m:Int):aZ:=if F.mode=1 then{ F with num:=F.num / m} else{ F with pl:=F.pl+1}
theorem qS(F:aZ)(h:0<m):0<=aG F m:=by
 unfold aG;split
 .exact MS _ (by lia)
 .exact MS _ (by lia)
theorem qT(F:aZ)(h:0<m):aG F m<m:=by
 unfold aG;split
 .exact MT _ h
 .exact MT _ h
theorem Wx(F:aZ)(m:Int):(aA F m).ns=F.ns:=by unfold aA;split <;> rfl
theorem Wz(F:aZ)(m:Int)(h:0<=F.pl):0<=(aA F m).pl:=by
 unfold aA;split
 .exact h
 .show 0<=F.pl+1;lia
theorem JX{x:Int}{n:Nat}(h0:0<=x)(h1:x<n):∃k:Nat,x=k/\k<n:=⟨x.toNat,by lia,by lia⟩
structure bc where
 name:Str
 long:Int
 ring:Bool
 outs:List Str
structure aw where
 aO:List bc
 aT:List Str
def xa(xs:List Str):List V:=xs.map V.str
def ζ(H:Hp)(v:V)(b:bc):Prop:=∃p o,v=.ref p/\H p=some (.tup [.str b.name,.int b.long,.bl b.ring,.ref o])/\H o=some (.lst (xa b.outs))
structure HouseAt (H:Hp) (p pb pc:Addr) (refs:List V) (h:aw):Prop where
 top:H p=some (.tup [.ref pb,.ref pc])
 bl:H pb=some (.lst refs)
 ct:H pc=some (.lst (xa h.aT))
 each:Paired (ζ H) refs h.aO
def o_(xs:List Str)(k:Nat)(y:Str):List Str:=xs.take k++y::xs.drop k
theorem WA(xs:List Str)(k:Nat)(y:Str):(o_ xs k y).length=xs.length+1:=by
 unfold o_;rw[dy,hX,ql,vF];lia
theorem WB{xs:List Str}{k:Nat}{y z:Str}:z∈o_ xs k y↔z=y\/z∈xs:=by
 unfold o_;rw[eI,eC];constructor
 .rintro(h|h|h)
  .exact .inr (List.mem_of_mem_take h)
  .exact .inl h
  .exact .inr (List.mem_of_mem_drop h)
 .rintro(h|h)
  .exact .inr (.inl h)
  .rw[<-vH k xs,eI] at h;rcases h with h|h
   .exact .inl h
   .exact .inr (.inr h)
end Carry
namespace L2
open PySem PySem.Spec PyProof.Rows
inductive D where
 |bH|bl (b:Bool)|int (i:Int)|str (x:Str)|ty (n:String)
 |lst (xs:List D)|tup (xs:List D)|aE (kvs:List (TK×D))|fK (ns:List Int)|exc (C:Addr) (l:Option Int)
mutual
def TK.d:TK->D
 |.inl i=>.int i
 |.inr x=>.str x
 |.tp l=>.tup (TK.dl l)
def TK.dl:List TK->List D
 |[]=>[]
 |k::l=>TK.d k::TK.dl l
end
def oF:D->Option V
 |.bH=>some .bH
 |.bl b=>some (.bl b)
 |.int i=>some (.int i)
 |.str x=>some (.str x)
 |.ty n=>some (.ty n)
 |_=>none
def CH(C t:Addr)(d:Option Addr):Obj:={ cls:=.ref C,dict:=d,data:=.fields #[.ref t,.none,.none,.none,.bool false,.none]}
def uD(F:Hp)(a C:Addr):Option Int->Prop
 |none=>∃t,F a=some (.Y (CH C t none) (.own 0))
 |some n=>∃t dx,F a=some (.Y (CH C t (some dx)) (.own 0))/\F dx=some (.xd [("line",.int n)])
inductive aj (K:FG) (F:Hp):List V->List D->Prop
 |nil:aj K F [] []
 |flat {v:V} {d:D} {vs:List V} {ds:List D}:oF d=some v->aj K F vs ds->aj K F (v::vs) (d::ds)
 |lst {a:Addr} {ws vs:List V} {es ds:List D}:Rd F a (.lst ws)->aj K F ws es->aj K F vs ds->aj K F (.ref a::vs) (.lst es::ds)
 |tup {a:Addr} {ws vs:List V} {es ds:List D}:gL K F a ws->aj K F ws es->aj K F vs ds->aj K F (.ref a::vs) (.tup es::ds)
 |aE {a:Addr} {kvs:List (TK×V×V)} {es:List (TK×D)} {ep:Nat} {vs:List V} {ds:List D}:F a=some (.dG kvs ep)->kvs.map (·.1)=es.map (·.1)->aj K F (kvs.map (·.2.1)) (es.map (·.1.d))->aj K F (kvs.map (·.2.2)) (es.map (·.2))->aj K F vs ds->aj K F (.ref a::vs) (.aE es::ds)
 |fK {a:Addr} {ns:List Int} {vs:List V} {ds:List D}:dX K F a (ns.map V.int)->aj K F vs ds->aj K F (.ref a::vs) (.fK ns::ds)
 |exc {a C:Addr} {l:Option Int} {vs:List V} {ds:List D}:uD F a C l->aj K F vs ds->aj K F (.ref a::vs) (.exc C l::ds)
def aF.rd{H H':Hp}{a:Addr}{u:HO}(e:aF H H')(h:Rd H a u):Rd H' a u:=by
 rcases h with h|⟨o,h⟩
 .exact .inl (e _ _ h)
 .exact .inr ⟨o,e _ _ h⟩
def aF.mK{K:FG}{H H':Hp}{a:Addr}{xs:List V}(e:aF H H')(h:gL K H a xs):gL K H' a xs:=by
 rcases h with(h|⟨o,h⟩)|h
 .exact .inl (.inl (e _ _ h))
 .exact .inl (.inr ⟨o,e _ _ h⟩)
 .exact .inr h
section
variable{K:FG}{F F':Hp}
def uD.mono{F F':Hp}{a C:Addr}{l:Option Int}(s:aF F F')(h:uD F a C l):uD F' a C l:=by
 cases l with
 |none=>obtain⟨t,e⟩:=h;exact⟨t,s _ _ e⟩
 |some n=>obtain⟨t,dx,e,q⟩:=h;exact⟨t,dx,s _ _ e,s _ _ q⟩
theorem aj.mono(s:aF F F'){vs:List V}{ds:List D}(h:aj K F vs ds):aj K F' vs ds:=by
 induction h with
 |nil=>exact .nil
 |flat e _ ih=>exact .flat e ih
 |lst e _ _ i1 i2=>exact .lst (s.rd e) i1 i2
 |tup e _ _ i1 i2=>exact .tup (s.mK e) i1 i2
 |aE e k _ _ _ i0 i1 i2=>exact .aE (s _ _ e) k i0 i1 i2
 |fK e _ i=>exact .fK (s.seq e) i
 |exc e _ i=>exact .exc (e.mono s) i
def aj.length{vs:List V}{ds:List D}(h:aj K F vs ds):vs.length=ds.length:=by
 induction h with
 |nil=>rfl
 |flat _ _ ih=>simp[ih]
 |lst _ _ _ _ ih=>simp[ih]
 |tup _ _ _ _ ih=>simp[ih]
 |aE _ _ _ _ _ _ _ ih=>simp[ih]
 |fK _ _ ih=>simp[ih]
 |exc _ _ ih=>simp[ih]
def aj.inv{v:V}{vs:List V}{d:D}{ds:List D}(h:aj K F (v::vs) (d::ds)):aj K F [v] [d]/\aj K F vs ds:=by
 cases h with
 |flat e t=>exact⟨.flat e .nil,t⟩
 |lst e i t=>exact⟨.lst e i .nil,t⟩
 |tup e i t=>exact⟨.tup e i .nil,t⟩
 |aE e k j i t=>exact⟨.aE e k j i .nil,t⟩
 |fK e t=>exact⟨.fK e .nil,t⟩
 |exc e t=>exact⟨.exc e .nil,t⟩
def aj.cons{v:V}{vs:List V}{d:D}{ds:List D}(h:aj K F [v] [d])(t:aj K F vs ds):aj K F (v::vs) (d::ds):=by
 cases h with
 |flat e _=>exact .flat e t
 |lst e i _=>exact .lst e i t
 |tup e i _=>exact .tup e i t
 |aE e k j i _=>exact .aE e k j i t
 |fK e _=>exact .fK e t
 |exc e _=>exact .exc e t
theorem aj.get:∀{vs:List V} {ds:List D} {i:Nat} {d:D},aj K F vs ds->ds[i]?=some d->∃v,vs[i]?=some v/\aj K F [v] [d]
 |[],[],i,d,_,e=>by simp at e
 |v::vs,d'::ds,0,d,h,e=>by simp at e;subst e;exact⟨v,rfl,h.inv.1⟩
 |v::vs,d'::ds,i+1,d,h,e=>by
  obtain⟨u,h1,h2⟩:=aj.get (i:=i) h.inv.2 (by simpa using e)
  exact⟨u,by simpa using h1,h2⟩
 |[],_::_,_,_,h,_=>by have:=h.length;simp at this
 |_::_,[],_,_,h,_=>by have:=h.length;simp at this
theorem aj.append:∀{vs:List V} {ds:List D} {ws:List V} {es:List D},aj K F vs ds->aj K F ws es->aj K F (vs++ws) (ds++es)
 |[],[],_,_,_,h=>h
 |v::vs,d::ds,_,_,h,t=>.cons h.inv.1 (aj.append h.inv.2 t)
 |[],_::_,_,_,h,_=>by have:=h.length;simp at this
 |_::_,[],_,_,h,_=>by have:=h.length;simp at this
theorem aj.take:∀{vs:List V} {ds:List D} (n:Nat),aj K F vs ds->aj K F (vs.take n) (ds.take n)
 |[],[],_,_=>by simp;exact .nil
 |v::vs,d::ds,0,_=>.nil
 |v::vs,d::ds,n+1,h=>.cons h.inv.1 (aj.take n h.inv.2)
 |[],_::_,_,h=>by have:=h.length;simp at this
 |_::_,[],_,h=>by have:=h.length;simp at this
theorem aj.drop:∀{vs:List V} {ds:List D} (n:Nat),aj K F vs ds->aj K F (vs.drop n) (ds.drop n)
 |[],[],_,_=>by simp;exact .nil
 |v::vs,d::ds,0,h=>h
 |v::vs,d::ds,n+1,h=>by simpa using aj.drop n h.inv.2
 |[],_::_,_,h=>by have:=h.length;simp at this
 |_::_,[],_,h=>by have:=h.length;simp at this
end
inductive O where
 |Y (d:D)|lst (xs:List O)|tup (xs:List O)|aE (kvs:List (TK×O))
abbrev Gm:=List (Option O)
inductive ag (K:FG) (F H:Hp):St->Gm->List Addr->Prop
 |nil:ag K F H [] [] []
 |skip {x:Option V} {Z:St} {Q0:Gm} {B:List Addr}:ag K F H Z Q0 B->ag K F H (x::Z) (none::Q0) B
 |Y {v:V} {d:D} {Z:St} {Q0:Gm} {B:List Addr}:aj K F [v] [d]->ag K F H Z Q0 B->ag K F H (some v::Z) (some (.Y d)::Q0) B
 |lst {a:Addr} {ws:List V} {ps:List O} {A B:List Addr} {Z:St} {Q0:Gm}:H a=some (.lst ws)->ag K F H (ws.map some) (ps.map some) A->ag K F H Z Q0 B->ag K F H (some (.ref a)::Z) (some (.lst ps)::Q0) (a::A++B)
 |tup {a:Addr} {ws:List V} {ps:List O} {A B:List Addr} {Z:St} {Q0:Gm}:H a=some (.tup ws)->ag K F H (ws.map some) (ps.map some) A->ag K F H Z Q0 B->ag K F H (some (.ref a)::Z) (some (.tup ps)::Q0) (a::A++B)
 |aE {a:Addr} {kvs:List (TK×V×V)} {ps:List (TK×O)} {ep:Nat} {A B:List Addr} {Z:St} {Q0:Gm}:H a=some (.dG kvs ep)->kvs.map (·.1)=ps.map (·.1)->aj K F (kvs.map (·.2.1)) (ps.map (·.1.d))->ag K F H (kvs.map λp=>some p.2.2) (ps.map λp=>some p.2) A->ag K F H Z Q0 B->
   ag K F H (some (.ref a)::Z) (some (.aE ps)::Q0) (a::A++B)
section
variable{K:FG}{F F' H H':Hp}{Z τ:St}{Q0 Θ:Gm}{A B:List Addr}
def ag.keep(h:ag K F H Z Q0 A)(s:aF F F')(k:∀a∈A,∀o,H a=some o->H' a=some o):ag K F' H' Z Q0 A:=by
 induction h with
 |nil=>exact .nil
 |skip _ ih=>exact .skip (ih k)
 |Y r _ ih=>exact .Y (r.mono s) (ih k)
 |lst e _ _ i1 i2=>exact .lst (k _ (by simp) _ e) (i1 λa ha=>k a (by simp[ha])) (i2 λa ha=>k a (by simp[ha]))
 |tup e _ _ i1 i2=>exact .tup (k _ (by simp) _ e) (i1 λa ha=>k a (by simp[ha])) (i2 λa ha=>k a (by simp[ha]))
 |aE e q r _ _ i1 i2=>exact .aE (k _ (by simp) _ e) q (r.mono s) (i1 λa ha=>k a (by simp[ha])) (i2 λa ha=>k a (by simp[ha]))
def ag.there(h:ag K F H Z Q0 A):∀a∈A,H a≠none:=by
 induction h with
 |nil=>intro a ha;cases ha
 |skip _ ih=>exact ih
 |Y _ _ ih=>exact ih
 |lst e _ _ i1 i2=>
  intro a ha;rcases eC.mp ha with rfl|ha
  .rw[e];exact λz=>by cases z
  .rcases eI.mp ha with ha|ha
   .exact i1 a ha
   .exact i2 a ha
 |tup e _ _ i1 i2=>
  intro a ha;rcases eC.mp ha with rfl|ha
  .rw[e];exact λz=>by cases z
  .rcases eI.mp ha with ha|ha
   .exact i1 a ha
   .exact i2 a ha
 |aE e _ _ _ _ i1 i2=>
  intro a ha;rcases eC.mp ha with rfl|ha
  .rw[e];exact λz=>by cases z
  .rcases eI.mp ha with ha|ha
   .exact i1 a ha
   .exact i2 a ha
def ag.length(h:ag K F H Z Q0 A):Z.length=Q0.length:=by
 induction h <;> simp_all
def ag.app(h:ag K F H τ Θ B)(t:ag K F H Z Q0 A):ag K F H (τ++Z) (Θ++Q0) (B++A):=by
 induction h with
 |nil=>exact t
 |skip _ ih=>exact .skip ih
 |Y r _ ih=>exact .Y r ih
 |lst e i _ _ ih=>simp only[HN,gz];exact .lst e i ih
 |tup e i _ _ ih=>simp only[HN,gz];exact .tup e i ih
 |aE e q r i _ _ ih=>simp only[HN,gz];exact .aE e q r i ih
theorem ag.split:∀{τ:St} {Θ:Gm} {A:List Addr},τ.length=Θ.length->ag K F H (τ++Z) (Θ++Q0) A->∃B C,ag K F H τ Θ B/\ag K F H Z Q0 C/\A=B++C
 |[],[],A,_,h=>⟨[],A,.nil,h,rfl⟩
 |[],_::_,_,e,_=>by simp at e
 |_::_,[],_,e,_=>by simp at e
 |x::τ,y::Θ,A,e,h=>by
  have e':τ.length=Θ.length:=by simpa using e
  cases h with
  |skip t=>obtain⟨B,C,h1,h2,h3⟩:=ag.split e' t;exact⟨B,C,.skip h1,h2,h3⟩
  |Y r t=>obtain⟨B,C,h1,h2,h3⟩:=ag.split e' t;exact⟨B,C,.Y r h1,h2,h3⟩
  |lst q i t=>obtain⟨B,C,h1,h2,h3⟩:=ag.split e' t;subst h3;exact⟨_,C,.lst q i h1,h2,by simp⟩
  |tup q i t=>obtain⟨B,C,h1,h2,h3⟩:=ag.split e' t;subst h3;exact⟨_,C,.tup q i h1,h2,by simp⟩
  |aE q z r i t=>obtain⟨B,C,h1,h2,h3⟩:=ag.split e' t;subst h3;exact⟨_,C,.aE q z r i h1,h2,by simp⟩
def ag.one{x:Option V}{y:Option O}(h:ag K F H (x::Z) (y::Q0) A):∃B C,ag K F H [x] [y] B/\ag K F H Z Q0 C/\A=B++C:=ag.split (τ:=[x]) (Θ:=[y]) rfl h
theorem ag.take:∀{Z:St} {Q0:Gm} {A:List Addr} {i:Nat} {o:O},ag K F H Z Q0 A->Q0[i]?=some (some o)->∃v Ai B,Z[i]?=some (some v)/\ag K F H [some v] [some o] Ai/\ag K F H Z (Q0.set i none) B/\A.Perm (Ai++B)
 |_,[],_,_,_,_,e=>by simp at e
 |[],_::_,_,_,_,h,_=>by have:=h.length;simp at this
 |x::Z,y::Q0,A,0,o,h,e=>by
  have e:y=some o:=by simpa using e
  subst e;obtain⟨B,C,h1,h2,h3⟩:=h.one;cases x with
  |none=>cases h1
  |some v=>exact⟨v,B,C,rfl,h1,.skip h2,by rw[h3]⟩
 |x::Z,y::Q0,A,i+1,o,h,e=>by
  obtain⟨B,C,h1,h2,h3⟩:=h.one;obtain⟨v,Ai,B',g1,g2,g3,g4⟩:=ag.take (i:=i) h2 (by simpa using e)
  refine⟨v,Ai,B++B',by simpa using g1,g2,h1.app g3,?_⟩
  subst h3;exact(List.Perm.append_left B g4).trans (by rw[<-gz,<-gz];exact(qO).append_right _)
theorem ag.forget:∀{Z:St} {Q0:Gm} {A:List Addr} (i:Nat),ag K F H Z Q0 A->∃B,ag K F H Z (Q0.set i none) B/\B.Sublist A
 |Z,[],A,i,h=>⟨A,by simpa using h,List.Sublist.refl _⟩
 |[],_::_,_,_,h=>by have:=h.length;simp at this
 |x::Z,y::Q0,A,0,h=>by
  obtain⟨B,C,h1,h2,h3⟩:=h.one;subst h3;exact⟨C,.skip h2,mN _ _⟩
 |x::Z,y::Q0,A,i+1,h=>by
  obtain⟨B,C,h1,h2,h3⟩:=h.one;obtain⟨B',g1,g2⟩:=ag.forget i h2;subst h3;exact⟨B++B',h1.app g1,g2.append_left _⟩
theorem ag.put{v:V}{o:O}{Ai:List Addr}(q:ag K F H [some v] [some o] Ai):∀{Z:St} {Q0:Gm} {A:List Addr} (i:Nat),ag K F H Z Q0 A->i<Q0.length->∃B,ag K F H (Z.set i (some v)) (Q0.set i (some o)) B/\∃C,B.Perm (Ai++C)/\C.Sublist A
 |_,[],_,_,_,hi=>by simp at hi
 |[],_::_,_,_,h,_=>by have:=h.length;simp at this
 |x::Z,y::Q0,A,0,h,hi=>by
  obtain⟨B,C,h1,h2,h3⟩:=h.one;subst h3;exact⟨Ai++C,q.app h2,C,.refl _,mN _ _⟩
 |x::Z,y::Q0,A,i+1,h,hi=>by
  obtain⟨B,C,h1,h2,h3⟩:=h.one;obtain⟨B',g1,C',g2,g3⟩:=ag.put q i h2 (by simpa using hi)
  subst h3;refine⟨B++B',h1.app g1,B++C',?_,g3.append_left _⟩;exact(List.Perm.append_left B g2).trans (by rw[<-gz,<-gz];exact(qO).append_right _)
end
structure OK (K:FG) (F H:Hp) (Z:St) (Q0:Gm) (A:List Addr):Prop where
 le:aF F H
 os:ag K F H Z Q0 A
 nd:A.Nodup
 fr:∀a∈A,F a=none
structure Ext (F H:Hp) (A:List Addr) (F' H':Hp) (A':List Addr):Prop where
 ff:aF F F'
 keep:∀a o,H a=some o->a∉A->H' a=some o
 r6:∀a,H a≠none->H' a≠none
 new:∀a,F' a≠none->F a≠none\/a∈A\/H a=none
 own:∀a∈A',a∈A\/H a=none
section
variable{K:FG}{F F' F1 F2 H H' H1 H2:Hp}{Z Z' τ:St}{Q0 Q0' Θ:Gm}{A A' A1 A2 B C:List Addr}
theorem Ext.refl:Ext F H A F H A:=⟨aF.refl _,λ_ _ e _=>e,λ_ h=>h,λ_ h=>.inl h,λ_ h=>.inl h⟩
theorem Ext.trans(x:Ext F H A F1 H1 A1)(y:Ext F1 H1 A1 F2 H2 A2):Ext F H A F2 H2 A2 where
 ff:=x.ff.trans y.ff
 keep:=λa o e n=>y.keep a o (x.keep a o e n) λm=>by
  rcases x.own a m with z|z
  .exact n z
  .rw[e] at z;cases z
 r6:=λa h=>y.r6 a (x.r6 a h)
 new:=λa h=>by
  rcases y.new a h with z|z|z
  .exact x.new a z
  .exact .inr (x.own a z)
  .exact .inr (.inr (oC λq=>x.r6 a q z))
 own:=λa h=>by
  rcases y.own a h with z|z
  .exact x.own a z
  .exact .inr (oC λq=>x.r6 a q z)
def Ext.lP(x:Ext F H A F' H' A')(h:∀a∈B,a∈A'):Ext F H A F' H' B:=⟨x.ff,x.keep,x.r6,x.new,λa m=>x.own a (h a m)⟩
def OK.perm(k:ag K F H Z Q0 A)(le:aF F H)(nd:B.Nodup)(fr:∀a∈B,F a=none)(p:A.Perm B):OK K F H Z Q0 A:=⟨le,k,p.nodup_iff.mpr nd,λa m=>fr a (p.mem_iff.mp m)⟩
def OK.p5(k:OK K F H (τ++Z) (Θ++Q0) (B++C))(h1:ag K F H τ Θ B)(h2:ag K F H Z Q0 C):OK K F H Z Q0 C/\∀F' H' Z' Q0' A',Ext F H C F' H' A'->OK K F' H' Z' Q0' A'->∃qm,Ext F H (B++C) F' H' qm/\OK K F' H' (τ++Z') (Θ++Q0') qm:=by
 obtain⟨n1,n2,n3⟩:=lC.mp k.nd;have nB:∀a∈B,a∉C:=λa h1 h2=>n3 a h1 a h2 rfl
 refine⟨⟨k.le,h2,n2,λa m=>k.fr a (hG _ m)⟩,λF' H' Z' Q0' A' x k'=>?_⟩
 have hB:∀a∈B,F' a=none:=λa m=>by
  cases e:F' a with
  |none=>rfl
  |some o=>
   rcases x.new a (by rw[e];exact λz=>by cases z) with z|z|z
   .exact bQ (k.fr a (jN _ m)) z
   .exact bQ z (nB a m)
   .exact bQ z (h1.there a m)
 refine⟨B++A',⟨x.ff,λa o e n=>x.keep a o e λm=>n (hG _ m),x.r6,λa h=>?_,λa m=>?_⟩,k'.le,(h1.keep x.ff λa m o e=>x.keep a o e (nB a m)).app k'.os,?_,?_⟩
 .rcases x.new a h with z|z|z
  .exact .inl z
  .exact .inr (.inl (hG _ z))
  .exact .inr (.inr z)
 .rcases eI.mp m with m|m
  .exact .inl (jN _ m)
  .rcases x.own a m with z|z
   .exact .inl (hG _ z)
   .exact .inr z
 .refine lC.mpr ⟨n1,k'.nd,λa m b m' e=>?_⟩
  subst e;rcases x.own a m' with z|z
  .exact nB a m z
  .exact h1.there a m z
 .intro a m;rcases eI.mp m with m|m
  .exact hB a m
  .exact k'.fr a m
def OK.frame(k:OK K F H (τ++Z) (Θ++Q0) A)(hl:τ.length=Θ.length):∃C,OK K F H Z Q0 C/\∀F' H' Z' Q0' A',Ext F H C F' H' A'->OK K F' H' Z' Q0' A'->∃qm,Ext F H A F' H' qm/\OK K F' H' (τ++Z') (Θ++Q0') qm:=by
 obtain⟨B,C,h1,h2,h3⟩:=ag.split hl k.os;subst h3;exact⟨C,k.p5 h1 h2⟩
def OK.swap(k:OK K F H (τ++Z) (Θ++Q0) A)(hl:τ.length=Θ.length):∃B,B.Perm A/\OK K F H (Z++τ) (Q0++Θ) B:=by
 obtain⟨B,C,h1,h2,h3⟩:=ag.split hl k.os;subst h3;exact⟨C++B,qO,.perm (h2.app h1) k.le k.nd k.fr qO⟩
def OK.part(k:OK K F H (τ++Z) (Θ++Q0) A)(hl:τ.length=Θ.length):∃B,OK K F H Z Q0 B/\∀a∈B,a∈A:=by
 obtain⟨B,C,h1,h2,h3⟩:=ag.split hl k.os;subst h3;exact⟨C,⟨k.le,h2,(lC.mp k.nd).2.1,λa m=>k.fr a (hG _ m)⟩,λa m=>hG _ m⟩
def OK.push{v:V}{o:O}{Av:List Addr}(k:OK K F H Z Q0 A)(s:aF H H')(q:ag K F H' [some v] [some o] Av)(nd:Av.Nodup)(fresh:∀a∈Av,H a=none):
  OK K F H' (some v::Z) (some o::Q0) (Av++A)/\Ext F H A F H' (Av++A):=by
 have ne:∀a∈Av,a∉A:=λa m z=>k.os.there a z (fresh a m)
 refine⟨⟨k.le.trans s,q.app (k.os.keep (aF.refl _) λa _ o e=>s a o e),lC.mpr ⟨nd,k.nd,λa m b m' e=>?_⟩,λa m=>?_⟩,aF.refl _,λa o e _=>s a o e,λa h z=>?_,λa h=>.inl h,λa m=>?_⟩
 .subst e;exact ne a m m'
 .rcases eI.mp m with m|m
  .exact k.le.free (fresh a m)
  .exact k.fr a m
 .exact h (s.free z)
 .rcases eI.mp m with m|m
  .exact .inr (fresh a m)
  .exact .inl m
end
inductive R where
 |own (o:O)|var (i:Nat)
def R.o:R->Option O
 |.own o=>some o
 |.var _=>none
abbrev GE:=Gm->Option (R×Gm)
abbrev GA:=Gm->Option (List R×Gm)
abbrev GT:=Gm->Option (Bool×Gm)
def iP(Z:St):List R->List V->Prop
 |[],[]=>True
 |.own _::rs,_::vs=>iP Z rs vs
 |.var i::rs,v::vs=>Z[i]?=some (some v)/\iP Z rs vs
 |_,_=>False
def fy(K:FG)(F H:Hp)(A:List Addr)(Z:St)(Q0':Gm)(rs:List R)(vs:List V)(H':Hp):Prop:=
 ∃F' A',Ext F H A F' H' A'/\OK K F' H' (vs.map some++Z) (rs.map R.o++Q0') A'/\iP Z rs vs
def tG(K:FG)(f:GE):TE:=λZ H Q=>∃F A Q0 r Q0',OK K F H Z Q0 A/\f Q0=some (r,Q0')/\∀v H',fy K F H A Z Q0' [r] [v] H'->Q v H'
def kb(K:FG)(f:GA):TA:=λZ H Q=>∃F A Q0 rs Q0',OK K F H Z Q0 A/\f Q0=some (rs,Q0')/\∀vs H',fy K F H A Z Q0' rs vs H'->Q vs H'
def g_(K:FG)(f:GT):TT:=λZ H Q=>∃F A Q0 b Q0',OK K F H Z Q0 A/\f Q0=some (b,Q0')/\∀H',fy K F H A Z Q0' [] [] H'->Q b H'
theorem iP.length:∀{Z:St} {rs:List R} {vs:List V},iP Z rs vs->rs.length=vs.length
 |_,[],[],_=>rfl
 |_,.own _::rs,_::vs,h=>by simp[iP.length (Z:=_) (rs:=rs) (vs:=vs) h]
 |_,.var _::rs,_::vs,h=>by simp[iP.length (Z:=_) (rs:=rs) (vs:=vs) h.2]
 |_,[],_::_,h=>h.elim
 |_,.own _::_,[],h=>h.elim
 |_,.var _::_,[],h=>h.elim
def iP.one{Z:St}{r:R}{vs:List V}{rs:List R}{v:V}(h:iP Z [r] [v])(t:iP Z rs vs):iP Z (r::rs) (v::vs):=by
 cases r with
 |own o=>exact t
 |var i=>exact⟨h.1,t⟩
def PE.mono{X:Cx}{e:Expr}{t t':TE}(h:PE X e t)(m:∀Z H Q,t' Z H Q->t Z H Q):PE X e t':=λae s Z H Q I q=>h ae s Z H Q I (m _ _ _ q)
def PT.mono{X:Cx}{e:Expr}{t t':TT}(h:PT X e t)(m:∀Z H Q,t' Z H Q->t Z H Q):PT X e t':=λae s Z H Q I q=>h ae s Z H Q I (m _ _ _ q)
def PW.mono{X:Cx}{e:Expr}{t t':TT}(h:PW X e t)(m:∀Z H Q,t' Z H Q->t Z H Q):PW X e t':=λwh ae s Z H Q I q=>h wh ae s Z H Q I (m _ _ _ q)
def PA.mono{X:Cx}{e:List Expr}{t t':TA}(h:PA X e t)(m:∀Z H Q,t' Z H Q->t Z H Q):PA X e t':=λpos ae s Z H Q I q=>h pos ae s Z H Q I (m _ _ _ q)
def PS.mono{X:Cx}{e:Stmt}{t t':TS}(h:PS X e t)(m:∀D Z H,t' D Z H->t D Z H):PS X e t':=λae s Z H D I q=>h ae s Z H D I (m _ _ _ q)
def iy.mono{X:Cx}{e:List Stmt}{t t':TS}(h:iy X e t)(m:∀D Z H,t' D Z H->t D Z H):iy X e t':=λae s Z H D I q=>h ae s Z H D I (m _ _ _ q)
section
variable{K:FG}{F H:Hp}{A:List Addr}{Z:St}{Q0 Q0':Gm}
def j_(Q0:Gm):R->Option O
 |.own o=>some o
 |.var i=>(Q0[i]?).join
noncomputable def fV(Q0:Gm):List R->Option (List O)
 |[]=>some []
 |r::rs=>(j_ Q0 r).bind λo=>(fV Q0 rs).bind λos=>some (o::os)
def mw(K:FG)(F H:Hp):List V->List O->Prop:=Paired λv o=>∃B,ag K F H [some v] [some o] B
theorem FO:∀{rs:List R} {vs:List V} {os:List O} {B:List Addr},ag K F H Z Q0 A->ag K F H (vs.map some) (rs.map R.o) B->iP Z rs vs->fV Q0 rs=some os->mw K F H vs os
 |[],[],os,_,_,_,_,e=>by cases e;exact .nil
 |r::rs,v::vs,os,B,k,h,hh,e=>by
  obtain⟨B1,C1,h1,h2,_⟩:=ag.one h;unfold fV at e;cases e1:j_ Q0 r with
  |none=>rw[e1] at e;cases e
  |some o=>
   rw[e1] at e;cases e2:fV Q0 rs with
   |none=>rw[e2] at e;cases e
   |some wU=>
    rw[e2] at e;cases e;cases r with
    |own o'=>cases e1;exact .cons ⟨_,h1⟩ (FO k h2 hh e2)
    |var i=>
     have e3:Q0[i]?=some (some o):=by
      have:(Q0[i]?).join=some o:=e1;cases q:Q0[i]? with
      |none=>rw[q] at this;cases this
      |some z=>rw[q] at this;exact congrArg some this
     obtain⟨v',Ai,B',g1,g2,_⟩:=k.take e3;have:=hh.1;rw[g1] at this;cases this;exact .cons ⟨_,g2⟩ (FO k h2 hh.2 e2)
 |[],_::_,_,_,_,_,h,_=>h.elim
 |.own _::_,[],_,_,_,_,h,_=>h.elim
 |.var _::_,[],_,_,_,_,h,_=>h.elim
def Res(K:FG)(F H:Hp)(o:O)(Q:VK):Prop:=∀v H' Av,aF H H'->ag K F H' [some v] [some o] Av->Av.Nodup->(∀a∈Av,H a=none)->Q v H'
def fy.res{rs:List R}{vs:List V}{H1:Hp}{os:List O}{o:O}{Q:VK}(h:fy K F H A Z Q0' rs vs H1)(e:fV Q0' rs=some os)(q:∀v H',fy K F H A Z Q0' [.own o] [v] H'->Q v H'):
  ∃F1,aF F1 H1/\mw K F1 H1 vs os/\Res K F1 H1 o Q:=by
 obtain⟨F1,A1,x,k,hh⟩:=h;have hl:(vs.map some).length=(rs.map R.o).length:=by rw[bz,bz,hh.length]
 obtain⟨B,C,h1,h2,h3⟩:=ag.split hl k.os;refine⟨F1,k.le,FO h2 h1 hh e,λv H' Av s w nd fresh=>q v H' ?_⟩
 obtain⟨B',kB,sub⟩:=k.part hl;obtain⟨k2,x2⟩:=kB.push s w nd fresh;exact⟨F1,Av++B',x.trans ((Ext.lP Ext.refl sub).trans x2),k2,iJ⟩
theorem Res.flat{d:D}{v:V}{Q:VK}(h:Res K F H (.Y d) Q)(e:oF d=some v):Q v H:=h v H [] (aF.refl _) (.Y (.flat e .nil) .nil) .nil (λ_ m=>by cases m)
theorem Res.Y{d:D}{v:V}{Q:VK}(h:Res K F H (.Y d) Q)(e:aj K F [v] [d]):Q v H:=h v H [] (aF.refl _) (.Y e .nil) .nil (λ_ m=>by cases m)
end
noncomputable def gC(d:D):GE:=λQ0=>some (.own (.Y d),Q0)
noncomputable def aa(i:Nat):GE:=λQ0=>match Q0[i]? with
 |some (some (.Y d))=>some (.own (.Y d),Q0)
 |some (some _)=>some (.var i,Q0)
 |_=>none
section
variable{X:Cx}{K:FG}{e a b:Expr}{es:List Expr}{fa fb:GE}{fs:GA}{pos:Pos}
def eH{v:V}{d:D}(h:PE X e (tC v))(q:oF d=some v:=by rfl):PE X e (tG K (gC d)):=h.mono λZ H Q t=>by
 obtain⟨F,A,Q0,r,Q0',k,e,w⟩:=t;cases e;obtain⟨k2,x⟩:=k.push (v:=v) (o:=.Y d) (Av:=[]) (aF.refl _) (.Y (.flat q .nil) .nil) .nil (λ_ m=>by cases m)
 exact w v H ⟨F,_,x,k2,iJ⟩
def η{i:Nat}(h:PE X e (qN i)):PE X e (tG K (aa i)):=h.mono λZ H Q t=>by
 obtain⟨F,A,Q0,r,Q0',k,e,w⟩:=t;unfold aa at e;cases q:Q0[i]? with
 |none=>rw[q] at e;cases e
 |some z=>
  cases z with
  |none=>rw[q] at e;cases e
  |some o=>
   rw[q] at e;obtain⟨v,Ai,B,g1,g2,g3,g4⟩:=k.os.take q;refine⟨v,g1,w v H ?_⟩;cases o with
   |Y d=>
    cases e;cases g2 with
    |Y rp _=>
     obtain⟨k2,x⟩:=k.push (v:=v) (o:=.Y d) (Av:=[]) (aF.refl _) (.Y rp .nil) .nil (λ_ m=>by cases m)
     exact⟨F,_,x,k2,iJ⟩
   |_=>
    cases e;exact⟨F,A,Ext.refl,⟨k.le,.skip k.os,k.nd,k.fr⟩,g1,iJ⟩
noncomputable def gN:GA:=λQ0=>some ([],Q0)
def ai(f:GE)(g:GA):GA:=λQ0=>(f Q0).bind λp=>(g p.2).bind λq=>some (p.1::q.1,q.2)
def ND{f:GE}{g:GA}{Q0 Q0':Gm}{rs:List R}(e:ai f g Q0=some (rs,Q0')):∃r az Mm,f Q0=some (r,az)/\g az=some (Mm,Q0')/\rs=r::Mm:=by
 unfold ai at e;cases e1:f Q0 with
 |none=>rw[e1] at e;cases e
 |some p=>
  rw[e1] at e;dsimp only[Option.bind] at e;cases e2:g p.2 with
  |none=>rw[e2] at e;cases e
  |some q=>rw[e2] at e;cases e;exact⟨p.1,p.2,q.1,rfl,e2,rfl⟩
def aK:PA X [] (kb K gN):=yJ.mono λZ H Q t=>by
 obtain⟨F,A,Q0,r,Q0',k,e,w⟩:=t;cases e;exact w [] H ⟨F,A,Ext.refl,k,iJ⟩
def xy{Z:St}{H:Hp}{Q:List V->Hp->Prop}(t:kb K (ai fa fs) Z H Q):xc (tG K fa) (kb K fs) Z H Q:=by
 obtain⟨F,A,Q0,r,Q0',k,e,w⟩:=t;obtain⟨r1,az,rs,e1,e2,rfl⟩:=ND e;refine⟨F,A,Q0,r1,az,k,e1,λv H1 p=>?_⟩
 obtain⟨F1,A1,x,k1,hh⟩:=id p;obtain⟨C,kC,fr⟩:=OK.frame (τ:=[some v]) (Θ:=[r1.o]) k1 rfl;refine⟨F1,C,az,rs,Q0',kC,e2,λvs H2 p2=>w (v::vs) H2 ?_⟩
 obtain⟨F2,A2,x2,k2,h2⟩:=p2;obtain⟨A3,x3,k3⟩:=fr _ _ _ _ _ x2 k2;exact⟨F2,A3,x.trans x3,k3,iP.one hh h2⟩
def ao(ha:PE X e (tG K fa))(hs:PA X es (kb K fs))(hp:starEach (e::es) X.env=(false,eval e X.env)::starEach es X.env:=by rfl):PA X (e::es) (kb K (ai fa fs)):=
 (X3 ha hs hp).mono λZ H Q t=>xy t
def gO(g:List O->Option O)(fs:GA):GE:=λQ0=>(fs Q0).bind λp=>(fV p.2 p.1).bind λos=>(g os).bind λo=>some (.own o,p.2)
abbrev gB(g:List O->Option O)(fa fb:GE):GE:=gO g (ai fa (ai fb gN))
abbrev G'(g:List O->Option O)(fa:GE):GE:=gO g (ai fa gN)
def Yh{g:List O->Option O}{Q0 Q0':Gm}{r:R}(e:gO g fs Q0=some (r,Q0')):∃rs os o,fs Q0=some (rs,Q0')/\fV Q0' rs=some os/\g os=some o/\r=.own o:=by
 unfold gO at e;cases e1:fs Q0 with
 |none=>rw[e1] at e;cases e
 |some p=>
  rw[e1] at e;dsimp only[Option.bind] at e;cases e2:fV p.2 p.1 with
  |none=>rw[e2] at e;cases e
  |some os=>
   rw[e2] at e;dsimp only at e;cases e3:g os with
   |none=>rw[e3] at e;cases e
   |some o=>rw[e3] at e;cases e;exact⟨p.1,os,o,rfl,e2,e3,rfl⟩
def cM(K:FG)(r:List V->Hp->VK->Prop)(g:List O->Option O):Prop:=
 ∀(F H:Hp) (vs:List V) (os:List O) (o:O) (Q:VK),aF F H->mw K F H vs os->g os=some o->Res K F H o Q->r vs H Q
def B8{r:List V->Hp->VK->Prop}{g:List O->Option O}(ok:cM K r g){Z:St}{H:Hp}{Q:VK}(t:tG K (gO g fs) Z H Q):kb K fs Z H λvs H1=>r vs H1 Q:=by
 obtain⟨F,A,Q0,rr,Q0',k,e,w⟩:=t;obtain⟨rs,os,o,e1,e2,e3,rfl⟩:=Yh e;refine⟨F,A,Q0,rs,Q0',k,e1,λvs H1 p=>?_⟩
 obtain⟨F1,le,eY,res⟩:=p.res e2 w;exact ok F1 H1 vs os o Q le eY e3 res
def mV(r:R2):List V->Hp->VK->Prop:=λvs H Q=>∃x y,vs=[x,y]/\r x y H Q
def Mi(r:V->Hp->VK->Prop):List V->Hp->VK->Prop:=λvs H Q=>∃x,vs=[x]/\r x H Q
def tG.mono{f:GE}{Q1 Q2:VK}{Z:St}{H:Hp}(t:tG K f Z H Q1)(q:∀v H',Q1 v H'->Q2 v H'):tG K f Z H Q2:=by
 obtain⟨F,A,Q0,rr,Q0',k,e,w⟩:=t;exact⟨F,A,Q0,rr,Q0',k,e,λv H' p=>q _ _ (w v H' p)⟩
def Gq{r:R2}{g:List O->Option O}(ok:cM K (mV r) g){Z:St}{H:Hp}{Q:VK}(t:tG K (gB g fa fb) Z H Q):Es r (tG K fa) (tG K fb) Z H Q:=by
 show tG K fa Z H λx H1=>tG K fb Z H1 λy H2=>r x y H2 Q
 refine tG.mono (xy (B8 ok t)) λx H1 h=>tG.mono (xy h) λy H2 h2=>?_
 obtain⟨F,A,Q0,rs,Q0',k,e,w⟩:=h2;cases e;obtain⟨x',y',e1,h3⟩:=w [] H2 ⟨F,A,Ext.refl,k,iJ⟩;cases e1;exact h3
def e8m{r:V->Hp->VK->Prop}{g:List O->Option O}(ok:cM K (Mi r) g){Z:St}{H:Hp}{Q:VK}(t:tG K (G' g fa) Z H Q):tG K fa Z H λx H1=>r x H1 Q:=by
 refine tG.mono (xy (B8 ok t)) λx H1 h=>?_
 obtain⟨F,A,Q0,rs,Q0',k,e,w⟩:=h;cases e;obtain⟨x',e1,h3⟩:=w [] H1 ⟨F,A,Ext.refl,k,iJ⟩;cases e1;exact h3
def de{op:Operator}{r:R2}{g:List O->Option O}(ho:gd X (binaryOp op) r)(ok:cM K (mV r) g)(ha:PE X a (tG K fa))(hb:PE X b (tG K fb)):PE X (.BinOp a op b pos) (tG K (gB g fa fb)):=
 (e8j ho ha hb).mono λ_ _ _ t=>Gq ok t
def JY{op:CmpOp}{r:R2}{g:List O->Option O}(ho:gd X (compareOp op) r)(ok:cM K (mV r) g)(ha:PE X a (tG K fa))(hb:PE X b (tG K fb))(hm:behindInMarks op b=false:=by first|rfl|exact QW _):PE X (.Compare a [op] [b] pos) (tG K (gB g fa fb)):=
 (X1 ho ha hb hm).mono λ_ _ _ t=>Gq ok t
def e8n{r:R2}{g:List O->Option O}(hr:qr X r)(ok:cM K (mV r) g)(ha:PE X a (tG K fa))(hb:PE X b (tG K fb))(hs:Bt b:=by exact λ_ _=>rfl):PE X (.Subscript a b pos) (tG K (gB g fa fb)):=
 (Ku hr ha hb hs).mono λ_ _ _ t=>Gq ok t
def RV{op:UnaryOp}{r:V->Hp->VK->Prop}{g:List O->Option O}(ho:EX X (unaryOp op) r)(ok:cM K (Mi r) g)(ha:PE X a (tG K fa)):PE X (.UnaryOp op a pos) (tG K (G' g fa)):=
 (e8k ho ha).mono λ_ _ _ t=>e8m ok t
variable{x:Str}{p:Pos}{id T:String}{r:List V->Hp->VK->Prop}{g:List O->Option O}
def gj(hc:cT X (.builtin id) r)(ok:cM K r g)(hm:X.mg x=none)(hv:bootBuiltins x=some (.builtin id))(ha:PA X (e::es) (kb K fs))(hg:Gl X x:=by rfl)(hn:x≠"__name__":=by decide)(o7:(x == ("__debug__":Str))=false:=by decide)
  (he:starEach (e::es) X.env=(false,eval e X.env)::starEach es X.env:=by rfl) (j8:(backTo pos (starEach es X.env)).any (·.1)=false:=by rfl):PE X (.Call (.Name x p) (e::es) [] pos) (tG K (gO g fs)):=
 (Wo hc hg hm hv ha hn o7 he j8).mono λ_ _ _ t=>B8 ok t
def xu(hc:cT X (.type T) r)(ok:cM K r g)(hm:X.mg x=none)(hv:bootBuiltins x=some (.type T))(ha:PA X (e::es) (kb K fs))(hg:Gl X x:=by rfl)(hn:x≠"__name__":=by decide)(o7:(x == ("__debug__":Str))=false:=by decide)
  (he:starEach (e::es) X.env=(false,eval e X.env)::starEach es X.env:=by rfl) (j8:(backTo pos (starEach es X.env)).any (·.1)=false:=by rfl):PE X (.Call (.Name x p) (e::es) [] pos) (tG K (gO g fs)):=
 (Ve hc hg hm hv ha hn o7 he j8).mono λ_ _ _ t=>B8 ok t
mutual
noncomputable def O.d:O->D
 |.Y d=>d
 |.lst xs=>.lst (O.dl xs)
 |.tup xs=>.tup (O.dl xs)
 |.aE kvs=>.aE (O.dk kvs)
noncomputable def O.dl:List O->List D
 |[]=>[]
 |x::xs=>x.d::O.dl xs
noncomputable def O.dk:List (TK×O)->List (TK×D)
 |[]=>[]
 |(k,x)::xs=>(k,x.d)::O.dk xs
end
end
def ag.rep{K:FG}{F F' H:Hp}{Z:St}{Q0:Gm}{A:List Addr}(h:ag K F H Z Q0 A)(s:aF F F')(k:∀a∈A,∀o,H a=some o->F' a=some o):
  ∀(vs:List V) (os:List O),Z=vs.map some->Q0=os.map some->aj K F' vs (O.dl os):=by
 induction h with
 |nil=>
  intro vs os e1 e2;cases vs with
  |nil=>cases os with
   |nil=>exact .nil
   |cons _ _=>cases e2
  |cons _ _=>cases e1
 |skip _ _=>
  intro vs os e1 e2;cases os with
  |nil=>cases e2
  |cons _ _=>injection e2 with e3 _;cases e3
 |Y r _ ih=>
  intro vs os e1 e2;cases vs with
  |nil=>cases e1
  |cons v vs=>cases os with
   |nil=>cases e2
   |cons o os=>
    injection e1 with e3 e4;injection e2 with e5 e6;cases e3;cases e5;exact .cons (r.mono s) (ih k vs os e4 e6)
 |lst e _ _ i1 i2=>
  intro vs os e1 e2;cases vs with
  |nil=>cases e1
  |cons v vs=>cases os with
   |nil=>cases e2
   |cons o os=>
    injection e1 with e3 e4;injection e2 with e5 e6;cases e3;cases e5;exact .lst (.inl (k _ (by simp) _ e)) (i1 (λa m=>k a (by simp[m])) _ _ rfl rfl) (i2 (λa m=>k a (by simp[m])) vs os e4 e6)
 |tup e _ _ i1 i2=>
  intro vs os e1 e2;cases vs with
  |nil=>cases e1
  |cons v vs=>cases os with
   |nil=>cases e2
   |cons o os=>
    injection e1 with e3 e4;injection e2 with e5 e6;cases e3;cases e5;exact .tup (gL.of (k _ (by simp) _ e)) (i1 (λa m=>k a (by simp[m])) _ _ rfl rfl) (i2 (λa m=>k a (by simp[m])) vs os e4 e6)
 |@aE a kvs ps ep A B Z Q0 e q r _ _ i1 i2=>
  intro vs os e1 e2;cases vs with
  |nil=>cases e1
  |cons v vs=>cases os with
   |nil=>cases e2
   |cons o os=>
    injection e1 with e3 e4;injection e2 with e5 e6;cases e3;cases e5;have hk:∀ps:List (TK×O),(O.dk ps).map (·.1)=ps.map (·.1)/\(O.dk ps).map (·.2)=O.dl (ps.map (·.2))/\(O.dk ps).map (·.1.d)=ps.map (·.1.d):=by
     intro ps
     induction ps with
     |nil=>exact⟨rfl,rfl,rfl⟩
     |cons p ps ih=>obtain⟨a,b⟩:=p;exact⟨by simp[O.dk,ih.1],by simp[O.dk,O.dl,ih.2.1],by simp[O.dk,ih.2.2]⟩
    refine .aE (k _ (by simp) _ e) (q.trans (hk ps).1.symm) (by rw[(hk ps).2.2];exact r.mono s) ?_ (i2 (λa m=>k a (by simp[m])) vs os e4 e6)
    rw[(hk ps).2.1];exact i1 (λa m=>k a (by simp[m])) _ _ (by simp) (by simp)
section
variable{K:FG}{F H:Hp}{A:List Addr}{Z:St}{Q0:Gm}
def OK.freeze{v:V}{o:O}(k:OK K F H (some v::Z) (some o::Q0) A):∃F' A',OK K F' H (some v::Z) (some (.Y o.d)::Q0) A'/\Ext F H A F' H A':=by
 obtain⟨B,C,h1,h2,h3⟩:=k.os.one;subst h3;obtain⟨n1,n2,n3⟩:=lC.mp k.nd
 let F':Hp:=λa=>if a∈B then H a else F a
 have SV:∀a,a∈B->F' a=H a:=λa m=>aJ m
 have vh:∀a,a∉B->F' a=F a:=λa m=>aQ m
 have s:aF F F':=λa u e=>by
  rw[vh a λm=>by rw[k.fr a (jN _ m)] at e;cases e]
  exact e
 have le:aF F' H:=λa u e=>by
  by_cases m:a∈B
  .rw[SV a m] at e;exact e
  .rw[vh a m] at e;exact k.le a u e
 have rp:aj K F' [v] [o.d]:=h1.rep s (λa m u e=>by rw[SV a m];exact e) [v] [o] rfl rfl
 refine⟨F',C,⟨le,.Y rp (h2.keep s λa _ u e=>e),n2,λa m=>?_⟩,s,λa u e _=>e,λa h=>h,λa h=>?_,λa m=>.inl (hG _ m)⟩
 .rw[vh a λz=>n3 a z a m rfl]
  exact k.fr a (hG _ m)
 .by_cases m:a∈B
  .exact .inr (.inl (jN _ m))
  .rw[vh a m] at h;exact .inl h
def OK.Df{v:V}{o:O}{i:Nat}{A:List Addr}(k:OK K F H (some v::Z) (none::Q0) A)(hv:Z[i]?=some (some v))(ho:Q0[i]?=some (some o)):∃A',OK K F H (some v::Z) (some o::Q0.set i none) A'/\Ext F H A F H A':=by
 obtain⟨B,C,h1,h2,h3⟩:=k.os.one;subst h3;have eB:B=[]:=by cases h1 with|skip t=>cases t;rfl
 subst eB;obtain⟨v',Ai,B',g1,g2,g3,g4⟩:=h2.take ho;rw[hv] at g1;cases g1;have nd:=k.nd;have fr:=k.fr;rw[fI] at nd fr;exact⟨Ai++B',.perm (g2.app g3) k.le nd fr g4.symm,Ext.lP Ext.refl λa m=>g4.mem_iff.mpr m⟩
end
def av(f:GE):GE:=λQ0=>(f Q0).bind λp=>match p.1 with
 |.own o=>some (.own (.Y o.d),p.2)
 |.var i=>match p.2[i]? with
  |some (some o)=>some (.own (.Y o.d),p.2.set i (some (.Y o.d)))
  |_=>none
def fP(f:GE):GE:=λQ0=>(f Q0).bind λp=>match p.1 with
 |.own o=>some (.own o,p.2)
 |.var i=>match p.2[i]? with
  |some (some o)=>some (.own o,p.2.set i none)
  |_=>none
section
variable{X:Cx}{K:FG}{e a b:Expr}{es:List Expr}{fa fb:GE}{fs:GA}{pos:Pos}
theorem xA{α:Type}:∀{l:List α} {i:Nat} {x:α},l[i]?=some x->l.set i x=l
 |[],_,_,e=>by simp at e
 |y::l,0,x,e=>by simp at e;subst e;rfl
 |y::l,i+1,x,e=>by rw[List.set_cons_succ,xA (by simpa using e)]
theorem fy.Y{F H:Hp}{A:List Addr}{Z:St}{Q0 az Q0':Gm}{r r':R}{v:V}{H':Hp}{f:GE}(e:f Q0=some (r,az))(e':av f Q0=some (r',Q0'))(h:fy K F H A Z az [r] [v] H'):fy K F H A Z Q0' [r'] [v] H':=by
 obtain⟨F1,A1,x,k,hh⟩:=h;unfold av at e';rw[e] at e';cases r with
 |own o=>
  cases e';obtain⟨F2,A2,k2,x2⟩:=OK.freeze (Z:=Z) (Q0:=az) k;exact⟨F2,A2,x.trans x2,k2,iJ⟩
 |var i=>
  dsimp only[Option.bind] at e';cases q:az[i]? with
  |none=>rw[q] at e';cases e'
  |some z=>
   cases z with
   |none=>rw[q] at e';cases e'
   |some o=>
    rw[q] at e';cases e';have hv:Z[i]?=some (some v):=hh.1;obtain⟨A2,k2,x2⟩:=OK.Df (Z:=Z) (Q0:=az) k hv q;obtain⟨F3,A3,k3,x3⟩:=OK.freeze k2;obtain⟨B,C,h1,h2,h3⟩:=k3.os.one;have hi:i<(az.set i none).length:=by
     rw[ED];exact(eO.mp q).1
    have rp:aj K F3 [v] [o.d]:=by cases h1 with|Y r _=>exact r
    have eB:B=[]:=by cases h1 with|Y _ t=>cases t;rfl
    subst eB;obtain⟨B2,g1,C2,g2,g3⟩:=ag.put (.Y rp .nil) i h2 hi;rw[xA hv,MU] at g1;rw[fI] at g2 h3;subst h3;have DL:B2.Nodup:=g2.nodup_iff.mpr (k3.nd.sublist g3);have sub:∀a∈B2,a∈A3:=λa m=>g3.subset (g2.mem_iff.mp m)
    exact⟨F3,B2,(x.trans (x2.trans x3)).lP sub,⟨k3.le,.Y rp g1,DL,λa m=>k3.fr a (sub a m)⟩,iJ⟩
def WC{f:GE}{Q0 Q0':Gm}{r:R}(e:av f Q0=some (r,Q0')):∃r1 az,f Q0=some (r1,az):=by
 unfold av at e;cases q:f Q0 with
 |none=>rw[q] at e;cases e
 |some p=>exact⟨p.1,p.2,rfl⟩
def QY{Z:St}{H:Hp}{Q:VK}(t:tG K (av fa) Z H Q):tG K fa Z H Q:=by
 obtain⟨F,A,Q0,rr,Q0',k,e,w⟩:=t;obtain⟨r1,az,e1⟩:=WC e;exact⟨F,A,Q0,r1,az,k,e1,λv H' p=>w v H' (p.Y e1 e)⟩
def cq(h:PE X e (tG K fa)):PE X e (tG K (av fa)):=h.mono λ_ _ _ t=>QY t
def Yi{Z:St}{H:Hp}{Q:VK}(t:tG K (fP fa) Z H Q):tG K fa Z H Q:=by
 obtain⟨F,A,Q0,rr,Q0',k,e,w⟩:=t;unfold fP at e;cases q:fa Q0 with
 |none=>rw[q] at e;cases e
 |some p=>
  rw[q] at e;refine⟨F,A,Q0,p.1,p.2,k,q,λv H' pp=>w v H' ?_⟩
  obtain⟨r,az⟩:=p;cases r with
  |own o=>cases e;exact pp
  |var i=>
   dsimp only[Option.bind] at e;cases q:az[i]? with
   |none=>rw[q] at e;cases e
   |some z=>
    cases z with
    |none=>rw[q] at e;cases e
    |some o=>
     rw[q] at e;cases e;obtain⟨F1,A1,x,k,hh⟩:=pp;obtain⟨A2,k2,x2⟩:=OK.Df (Z:=Z) (Q0:=az) k hh.1 q;exact⟨F1,A2,x.trans x2,k2,iJ⟩
def vW(h:PE X e (tG K fa)):PE X e (tG K (fP fa)):=h.mono λ_ _ _ t=>Yi t
noncomputable def fT:List R->Option (List O)
 |[]=>some []
 |.own o::rs=>(fT rs).bind λos=>some (o::os)
 |.var _::_=>none
theorem uL:∀{rs:List R} {os:List O},fT rs=some os->rs.map R.o=os.map some
 |[],os,e=>by cases e;rfl
 |.own o::rs,os,e=>by
  unfold fT at e;cases q:fT rs with
  |none=>rw[q] at e;cases e
  |some wU=>rw[q] at e;cases e;simp[uL q,R.o]
 |.var _::_,_,e=>by cases e
def bA(c:List O->O)(fs:GA):GE:=λQ0=>(fs Q0).bind λp=>if p.1.length<=1000 then(fT p.1).bind λos=>some (.own (c os),p.2) else none
def OS{c:List O->O}{Q0 Q0':Gm}{r:R}(e:bA c fs Q0=some (r,Q0')):∃rs os,fs Q0=some (rs,Q0')/\rs.length<=1000/\fT rs=some os/\r=.own (c os):=by
 unfold bA at e;cases e1:fs Q0 with
 |none=>rw[e1] at e;cases e
 |some p=>
  rw[e1] at e;dsimp only[Option.bind] at e;split at e
  .cases e2:fT p.1 with
   |none=>rw[e2] at e;cases e
   |some os=>rw[e2] at e;cases e;exact⟨p.1,os,rfl,by assumption,e2,rfl⟩
  .cases e
def mD(h:PA X es (kb K fs)):PE X (.List es pos) (tG K (bA .lst fs)):=(Z8 h).mono λZ H Q t=>by
 obtain⟨F,A,Q0,rr,Q0',k,e,w⟩:=t;obtain⟨rs,os,e1,e2,e3,rfl⟩:=OS e;refine⟨F,A,Q0,rs,Q0',k,e1,λvs H1 p=>?_⟩
 obtain⟨F1,A1,x,k1,hh⟩:=p;rw[uL e3] at k1;have hl:=hh.length;have ho:os.length=rs.length:=by have:=congrArg List.length (uL e3);simpa using this.symm
 refine⟨QX (by lia),λl hn=>w (.ref l) _ ?_⟩
 obtain⟨B,C,h1,h2,h3⟩:=ag.split (by simp only[bz];lia) k1.os
 have nl:∀a∈A1,a≠l:=λa m z=>k1.os.there a m (by rw[z];exact hn)
 have kp:∀a∈A1,∀o,H1 a=some o->upd H1 l (.lst vs) a=some o:=λa m o e=>by rw[cZ (nl a m)];exact e
 subst h3;refine⟨F1,l::B++C,x.trans ⟨aF.refl _,λa o e _=>?_,λa h=>?_,λa h=>.inl h,λa m=>?_⟩,⟨λa o e=>?_,?_,?_,?_⟩,iJ⟩
 .rw[cZ (mz e hn)];exact e
 .by_cases z:a=l
  .rw[z,jt];exact λz=>by cases z
  .rw[cZ z];exact h
 .rcases eC.mp m with rfl|m
  .exact .inr hn
  .exact .inl m
 .have:=k1.le a o e;rw[cZ (mz this hn)];exact this
 .exact .lst jt (h1.keep (aF.refl _) λa m=>kp a (jN _ m)) (h2.keep (aF.refl _) λa m=>kp a (hG _ m))
 .exact hU.mpr ⟨λm=>nl l m rfl,k1.nd⟩
 .intro a m;rcases eC.mp m with rfl|m
  .exact k1.le.free hn
  .exact k1.fr a m
def lj{x1}(h:PA X es (kb K fs)):PE X (.Tuple es x1 pos) (tG K (bA .tup fs)):=(Z5 h).mono λZ H Q t=>by
 obtain⟨F,A,Q0,rr,Q0',k,e,w⟩:=t;obtain⟨rs,os,e1,e2,e3,rfl⟩:=OS e;refine⟨F,A,Q0,rs,Q0',k,e1,λvs H1 p=>?_⟩
 obtain⟨F1,A1,x,k1,hh⟩:=p;rw[uL e3] at k1;have hl:=hh.length;have ho:os.length=rs.length:=by have:=congrArg List.length (uL e3);simpa using this.symm
 refine⟨QX (by lia),λl hn=>w (.ref l) _ ?_⟩
 obtain⟨B,C,h1,h2,h3⟩:=ag.split (by simp only[bz];lia) k1.os
 have nl:∀a∈A1,a≠l:=λa m z=>k1.os.there a m (by rw[z];exact hn)
 have kp:∀a∈A1,∀o,H1 a=some o->upd H1 l (.tup vs) a=some o:=λa m o e=>by rw[cZ (nl a m)];exact e
 subst h3;refine⟨F1,l::B++C,x.trans ⟨aF.refl _,λa o e _=>?_,λa h=>?_,λa h=>.inl h,λa m=>?_⟩,⟨λa o e=>?_,?_,?_,?_⟩,iJ⟩
 .rw[cZ (mz e hn)];exact e
 .by_cases z:a=l
  .rw[z,jt];exact λz=>by cases z
  .rw[cZ z];exact h
 .rcases eC.mp m with rfl|m
  .exact .inr hn
  .exact .inl m
 .have:=k1.le a o e;rw[cZ (mz this hn)];exact this
 .exact .tup jt (h1.keep (aF.refl _) λa m=>kp a (jN _ m)) (h2.keep (aF.refl _) λa m=>kp a (hG _ m))
 .exact hU.mpr ⟨λm=>nl l m rfl,k1.nd⟩
 .intro a m;rcases eC.mp m with rfl|m
  .exact k1.le.free hn
  .exact k1.fr a m
def zp:GE:=λQ0=>some (.own (.aE []),Q0)
def OT{P:Program}{w:World}{H:Hp}(h:Heap)(hb:sysModules<h.objs.size):cw P w H (h.push { cls:=.type "dict",data:=.dict #[]}) h.objs.size (.dG [] 0):=
 ⟨kr _,pK.mpr (Ne.symm (ly hb)),_,#[],oB _ rfl,⟨rfl,rfl,rfl⟩,rfl,.nil,xi⟩
def θ:TE:=λ_ H Q=>∀p,H p=none->Q (.ref p) (upd H p (.dG [] 0))
def tu:PE X (.Dict [] [] pos) θ:=λae s Z H Q I h=>
 wpAny_Dict_empty ⟨.ref s.heap.objs.size,_,I.laid (a:=s.heap.objs.size) (o:=.dG [] 0) (t':=s.toks) (λ_ _ q=>jO _ q) (cJ _) (OT s.heap I.big),rfl,h _ (I.cV.fresh (cJ _))⟩
def IP:PE X (.Dict [] [] pos) (tG K zp):=tu.mono λZ H Q t=>by
 obtain⟨F,A,Q0,rr,Q0',k,e,w⟩:=t;cases e;intro l hn;refine w (.ref l) _ ?_;have s:aF H (upd H l (.dG [] 0)):=uK hn;obtain⟨k2,x⟩:=k.push (v:=.ref l) (o:=.aE []) (Av:=[l]++[]++[]) s (.aE (kvs:=[]) jt rfl .nil .nil .nil) (by simp) (λa m=>by simp at m;rw[m];exact hn)
 exact⟨F,_,x,k2,iJ⟩
def gT(f:GE):GT:=λQ0=>(f Q0).bind λp=>match p.1 with
 |.own (.Y (.bl b))=>some (b,p.2)
 |_=>none
def fy.drop{F H:Hp}{A:List Addr}{Z:St}{Q0':Gm}{rs:List R}{vs:List V}{H':Hp}(h:fy K F H A Z Q0' rs vs H'):fy K F H A Z Q0' [] [] H':=by
 obtain⟨F1,A1,x,k,hh⟩:=h;obtain⟨B,kB,sub⟩:=k.part (by rw[bz,bz,hh.length])
 exact⟨F1,B,x.lP sub,kB,iJ⟩
theorem fy.flat{F H:Hp}{A:List Addr}{Z:St}{Q0':Gm}{d:D}{v w:V}{H':Hp}(h:fy K F H A Z Q0' [.own (.Y d)] [v] H')(e:oF d=some w):v=w:=by
 obtain⟨F1,A1,x,k,hh⟩:=h;obtain⟨B,C,h1,_⟩:=ag.one (Z:=Z) (Q0:=Q0') k.os;cases h1 with
 |Y r _=>
  cases r with
  |flat e' _=>rw[e] at e';exact(Option.some.inj e').symm
  |lst _ _ _=>cases e
  |tup _ _ _=>cases e
  |aE _ _ _ _ _=>cases e
  |fK _ _=>cases e
  |exc _ _=>cases e
def Ju{f:GE}{Z:St}{H:Hp}{Q:Bool->Hp->Prop}(t:g_ K (gT f) Z H Q):tG K f Z H λx H'=>∃k,x=.bl k/\Q k H':=by
 obtain⟨F,A,Q0,b,Q0',k,e,w⟩:=t;unfold gT at e;cases q:f Q0 with
 |none=>rw[q] at e;cases e
 |some p=>
  obtain⟨r,az⟩:=p;rw[q] at e;dsimp only[Option.bind] at e;cases r with
  |var i=>cases e
  |own o=>
   cases o with
   |Y d=>
    cases d with
    |bl b'=>
     cases e;exact⟨F,A,Q0,_,_,k,q,λv H' pp=>⟨_,pp.flat rfl,w H' pp.drop⟩⟩
    |_=>cases e
   |_=>cases e
def eS{op:CmpOp}{r:R2}{g:List O->Option O}(ho:gd X (compareOp op) r)(ok:cM K (mV r) g)(ha:PE X a (tG K fa))(hb:PE X b (tG K fb))(hm:behindInMarks op b=false:=by first|rfl|exact QW _):PT X (.Compare a [op] [b] pos) (g_ K (gT (gB g fa fb))):=
 (X2 ho ha hb hm).mono λ_ _ _ t=>Gq ok (Ju t)
noncomputable def pD:O->Option Bool
 |.Y .bH=>some false
 |.Y (.bl b)=>some b
 |.Y (.int i)=>some (i != 0)
 |.Y (.str x)=>if x.length<=1000000 then some ((x.length:Int) != 0) else none
 |.Y (.lst xs)=>some (!xs.isEmpty)
 |.Y (.tup xs)=>some (!xs.isEmpty)
 |.lst xs=>some (!xs.isEmpty)
 |.tup xs=>some (!xs.isEmpty)
 |_=>none
def dR(f:GE):GT:=λQ0=>(f Q0).bind λp=>(j_ p.2 p.1).bind λo=>(pD o).bind λb=>some (b,p.2)
def E5{α β:Type}{xs:List α}{ys:List β}(h:xs.length=ys.length):(!xs.isEmpty) = !ys.isEmpty:=by
 cases xs <;> cases ys <;> simp_all
def Yj{F H:Hp}{v:V}{o:O}{b:Bool}{B:List Addr}(le:aF F H)(h:ag K F H [some v] [some o] B)(e:pD o=some b):uF K v H b:=by
 cases h with
 |lst q i _=>cases e;exact .inl ⟨_,dX.of q,E5 (by have:=i.length;simpa using this.symm)⟩
 |tup q i _=>cases e;exact .inr (.inl ⟨_,gL.of q,E5 (by have:=i.length;simpa using this.symm)⟩)
 |aE q z r i _=>cases e
 |@Y v d Z Q0 B r _=>
  cases r with
  |lst q i _=>cases e;exact .inl ⟨_,.inl (le.rd q),E5 i.length.symm⟩
  |tup q i _=>cases e;exact .inr (.inl ⟨_,le.mK q,E5 i.length.symm⟩)
  |aE q z r i _=>cases e
  |fK _ _=>cases e
  |exc _ _=>cases e
  |flat q _=>
   cases d with
   |bH=>cases q;cases e;rfl
   |bl b'=>cases q;cases e;rfl
   |int i=>cases q;cases e;rfl
   |str x=>
    cases q;unfold pD at e;dsimp only at e;split at e
    .cases e;exact⟨lT (by assumption) (by decide),rfl⟩
    .cases e
   |ty n=>cases e
   |lst _=>cases q
   |tup _=>cases q
   |aE _=>cases q
   |fK _=>cases q
   |exc _ _=>cases q
def mE{X:Cx}{a:Expr}{fa:GE}(ha:PE X a (tG K fa))(he:∀whole,isTrue a X.env whole=(do let v <-whole;standAt a.pos;holding [v] (truthy v)):=by exact λ_=>rfl)(hK:X.K=K:=by rfl):PT X a (g_ K (dR fa)):=
 (Vm K ha he hK).mono λZ H Q t=>by
  obtain⟨F,A,Q0,b,Q0',k,e,w⟩:=t;unfold dR at e;cases q:fa Q0 with
  |none=>rw[q] at e;cases e
  |some p=>
   obtain⟨r,az⟩:=p;rw[q] at e;dsimp only[Option.bind] at e;cases q2:j_ az r with
   |none=>rw[q2] at e;cases e
   |some o=>
    rw[q2] at e;dsimp only at e;cases q3:pD o with
    |none=>rw[q3] at e;cases e
    |some b'=>
     rw[q3] at e;cases e;refine⟨F,A,Q0,r,_,k,q,λv H' pp=>⟨_,?_,w H' pp.drop⟩⟩
     obtain⟨F1,le,eY,_⟩:=fy.res (Q:=λ_ _=>True) (o:=.Y .bH) pp (os:=[o]) (by unfold fV;rw[q2];rfl) (λ_ _ _=>iJ)
     cases eY with
     |cons hs _=>obtain⟨B,hB⟩:=hs;exact Yj le hB q3
def dO(f:GT):GT:=λQ0=>(f Q0).bind λp=>some (!p.1,p.2)
def ie(f g:GT):GT:=λQ0=>(f Q0).bind λp=>if p.1=true then g p.2 else some (false,p.2)
def iW(f g:GT):GT:=λQ0=>(f Q0).bind λp=>if p.1=true then some (true,p.2) else g p.2
def IQ{f:GT}{h:GT}{φ:Bool->GT}(eh:∀Q0,h Q0=(f Q0).bind λp=>φ p.1 p.2){Z:St}{H:Hp}{Q:Bool->Hp->Prop}(t:g_ K h Z H Q):g_ K f Z H λc H1=>g_ K (φ c) Z H1 Q:=by
 obtain⟨F,A,Q0,b,Q0',k,e,w⟩:=t;rw[eh] at e;cases q:f Q0 with
 |none=>rw[q] at e;cases e
 |some p=>
  obtain⟨c,az⟩:=p;rw[q] at e;refine⟨F,A,Q0,c,az,k,q,λH1 pp=>?_⟩
  obtain⟨F1,A1,x,k1,_⟩:=pp;exact⟨F1,A1,az,b,Q0',k1,e,λH2 p2=>w H2 (by obtain⟨F2,A2,x2,k2,h2⟩:=p2;exact⟨F2,A2,x.trans x2,k2,h2⟩)⟩
def Fo{b:Bool}{Z:St}{H:Hp}{Q:Bool->Hp->Prop}(t:g_ K (λQ0=>some (b,Q0)) Z H Q):Q b H:=by
 obtain⟨F,A,Q0,b',Q0',k,e,w⟩:=t;cases e;exact w H ⟨F,A,Ext.refl,k,iJ⟩
def g_.mono{f:GT}{Q1 Q2:Bool->Hp->Prop}{Z:St}{H:Hp}(t:g_ K f Z H Q1)(q:∀v H',Q1 v H'->Q2 v H'):g_ K f Z H Q2:=by
 obtain⟨F,A,Q0,rr,Q0',k,e,w⟩:=t;exact⟨F,A,Q0,rr,Q0',k,e,λH' p=>q _ _ (w H' p)⟩
variable{ft gt:GT}{rest:List Expr}
def oW(h:PT X a (g_ K ft)):PT X (.UnaryOp .Not a pos) (g_ K (dO ft)):=(ZR h).mono λZ H Q t=>
 (IQ (φ:=λc Q0=>some (!c,Q0)) (λ_=>rfl) t).mono λc H1 h=>Fo h
def xF(h:PT X a (g_ K ft)):PW X (.BoolOp .And [a] pos) (g_ K ft):=XW h
def xP(h:PT X a (g_ K ft)):PW X (.BoolOp .Or [a] pos) (g_ K ft):=ZP h
def v7(ha:PT X a (g_ K ft))(hb:PW X (.BoolOp .And (b::rest) pos) (g_ K gt)):PW X (.BoolOp .And (a::b::rest) pos) (g_ K (ie ft gt)):=(ZQ ha hb).mono λZ H Q t=>
 (IQ (φ:=λc Q0=>if c=true then gt Q0 else some (false,Q0)) (λ_=>rfl) t).mono λc H1 h=>by
  cases c with
  |true=>exact ph (by simpa using h)
  |false=>exact pe (Fo (by simpa using h))
def rV(ha:PT X a (g_ K ft))(hb:PW X (.BoolOp .Or (b::rest) pos) (g_ K gt)):PW X (.BoolOp .Or (a::b::rest) pos) (g_ K (iW ft gt)):=(e8h ha hb).mono λZ H Q t=>
 (IQ (φ:=λc Q0=>if c=true then some (true,Q0) else gt Q0) (λ_=>rfl) t).mono λc H1 h=>by
  cases c with
  |true=>exact ph (Fo (by simpa using h))
  |false=>exact pe (by simpa using h)
def zM(c:GT)(f g:GE):GE:=λQ0=>(c Q0).bind λp=>if p.1=true then f p.2 else g p.2
def si(f g:GE):GE:=λQ0=>(gT f Q0).bind λp=>if p.1=true then g p.2 else gC (.bl false) p.2
def sk(f:GE):GE:=λQ0=>(gT f Q0).bind λp=>gC (.bl (!p.1)) p.2
def JZ{f:GT}{h:GE}{φ:Bool->GE}(eh:∀Q0,h Q0=(f Q0).bind λp=>φ p.1 p.2){Z:St}{H:Hp}{Q:VK}(t:tG K h Z H Q):g_ K f Z H λc H1=>tG K (φ c) Z H1 Q:=by
 obtain⟨F,A,Q0,b,Q0',k,e,w⟩:=t;rw[eh] at e;cases q:f Q0 with
 |none=>rw[q] at e;cases e
 |some p=>
  obtain⟨c,az⟩:=p;rw[q] at e;refine⟨F,A,Q0,c,az,k,q,λH1 pp=>?_⟩
  obtain⟨F1,A1,x,k1,_⟩:=pp;exact⟨F1,A1,az,b,Q0',k1,e,λv H2 p2=>w v H2 (by obtain⟨F2,A2,x2,k2,h2⟩:=p2;exact⟨F2,A2,x.trans x2,k2,h2⟩)⟩
def Sd{d:D}{v:V}{Z:St}{H:Hp}{Q:VK}(t:tG K (gC d) Z H Q)(q:oF d=some v):Q v H:=by
 obtain⟨F,A,Q0,r,Q0',k,e,w⟩:=t;cases e;obtain⟨k2,x⟩:=k.push (v:=v) (o:=.Y d) (Av:=[]) (aF.refl _) (.Y (.flat q .nil) .nil) .nil (λ_ m=>by cases m)
 exact w v H ⟨F,_,x,k2,iJ⟩
def Kv{c:Expr}{fc:GT}(hc:PT X c (g_ K fc))(ha:PE X a (tG K fa))(hb:PE X b (tG K fb)):PE X (.IfExp c a b pos) (tG K (zM fc fa fb)):=(Wh hc ha hb).mono λZ H Q t=>
 (JZ (φ:=λc Q0=>if c=true then fa Q0 else fb Q0) (λ_=>rfl) t).mono λc H1 h=>by
  cases c with
  |true=>exact ph (by simpa using h)
  |false=>exact pe (by simpa using h)
def ι{op}(h:PE X a (tG K fa)):PE X (.BoolOp op [a] pos) (tG K fa):=ZS h
def μ(ha:PE X a (tG K fa))(hb:PE X (.BoolOp .And (b::rest) pos) (tG K fb)):PE X (.BoolOp .And (a::b::rest) pos) (tG K (si fa fb)):=(ZT ha hb).mono λZ H Q t=>
 tG.mono (Ju (JZ (φ:=λc Q0=>if c=true then fb Q0 else gC (.bl false) Q0) (λ_=>rfl) t)) λv H1 ⟨c,e,h⟩=>⟨c,e,by
  cases c with
  |true=>exact ph (by simpa using h)
  |false=>exact pe (Sd (d:=.bl false) (by simpa using h) rfl)⟩
def ξ(ha:PE X a (tG K fa)):PE X (.UnaryOp .Not a pos) (tG K (sk fa)):=(ZU ha).mono λZ H Q t=>
 tG.mono (Ju (JZ (φ:=λc=>gC (.bl (!c))) (λ_=>rfl) t)) λv H1 ⟨c,e,h⟩=>⟨c,e,Sd h rfl⟩
end
def aS(A B:List Addr):Prop:=∃L,A.Perm L/\L.Sublist B
theorem aS.refl(A:List Addr):aS A A:=⟨A,.refl _,List.Sublist.refl _⟩
def aS.bV{A B:List Addr}(p:A.Perm B):aS A B:=⟨B,p,List.Sublist.refl _⟩
def aS.bD{A B:List Addr}(p:A.Sublist B):aS A B:=⟨A,.refl _,p⟩
theorem aS.trans{A B C:List Addr}(x:aS A B)(y:aS B C):aS A C:=by
 obtain⟨L,p,s⟩:=x;obtain⟨M,q,t⟩:=y;obtain⟨N,n1,n2⟩:=List.exists_perm_sublist s q;exact⟨N,p.trans n1.symm,n2.trans t⟩
def aS.mem{A B:List Addr}(x:aS A B):∀a∈A,a∈B:=λa m=>let ⟨_,p,s⟩:=x;s.subset (p.mem_iff.mp m)
def aS.nodup{A B:List Addr}(x:aS A B)(n:B.Nodup):A.Nodup:=let ⟨_,p,s⟩:=x;p.nodup_iff.mpr (n.sublist s)
def aS.app{A B C D:List Addr}(x:aS A B)(y:aS C D):aS (A++C) (B++D):=let ⟨_,p,s⟩:=x;let ⟨_,q,t⟩:=y;⟨_,p.append q,s.append t⟩
def OK.sub{K:FG}{F H:Hp}{Z Z':St}{Q0 Q0':Gm}{A B:List Addr}(k:OK K F H Z Q0 A)(h:ag K F H Z' Q0' B)(s:aS B A):OK K F H Z' Q0' B/\Ext F H A F H B:=
 ⟨⟨k.le,h,s.nodup k.nd,λa m=>k.fr a (s.mem a m)⟩,Ext.lP Ext.refl s.mem⟩
inductive Fl where
 |nx|bk|ct|rt (o:O)
abbrev GS:=Gm->Option (Fl×Gm)
def Kept(m:List Bool)(Z Z':St):Prop:=∀j:Nat,m[j]?=some true->Z'[j]?=Z[j]?
def Kept.refl{m:List Bool}{Z:St}:Kept m Z Z:=λ_ _=>rfl
theorem Kept.trans{m:List Bool}{Z Z1 Z2:St}(a:Kept m Z Z1)(b:Kept m Z1 Z2):Kept m Z Z2:=λj h=>(b j h).trans (a j h)
def Kept.set{m:List Bool}{Z:St}{i:Nat}{v:Option V}(h:(m[i]? == some true)=false):Kept m Z (Z.set i v):=λj hj=>by
 by_cases e:i=j
 .subst e;rw[hj] at h;simp at h
 .rw[EB e]
def rK(K:FG)(F H:Hp)(A:List Addr)(m:List Bool)(Z:St)(Q0':Gm)(Z':St)(H':Hp):Prop:=∃F' A',Ext F H A F' H' A'/\OK K F' H' Z' Q0' A'/\Kept m Z Z'
def AZ(K:FG)(F H:Hp)(A:List Addr)(m:List Bool)(Z:St)(Q0':Gm)(o:O)(v:V)(Z':St)(H':Hp):Prop:=∃F' A',Ext F H A F' H' A'/\OK K F' H' (some v::Z') (some o::Q0') A'/\Kept m Z Z'
def Done(K:FG)(m:List Bool)(D:Ends)(F H:Hp)(A:List Addr)(Z:St):Fl->Gm->Prop
 |.nx,Q0'=>∀Z' H',rK K F H A m Z Q0' Z' H'->D.nx Z' H'
 |.bk,Q0'=>∀Z' H',rK K F H A m Z Q0' Z' H'->D.bk Z' H'
 |.ct,Q0'=>∀Z' H',rK K F H A m Z Q0' Z' H'->D.ct Z' H'
 |.rt o,Q0'=>∀v Z' H',AZ K F H A m Z Q0' o v Z' H'->D.rt v H'
def tS(K:FG)(m:List Bool)(f:GS):TS:=λD Z H=>∃F A Q0 fl Q0',OK K F H Z Q0 A/\f Q0=some (fl,Q0')/\Done K m D F H A Z fl Q0'
def Done.step{K:FG}{m:List Bool}{D:Ends}{F H F1 H1:Hp}{A A1:List Addr}{Z Z1:St}{fl:Fl}{Q0':Gm}(d:Done K m D F H A Z fl Q0')(x:Ext F H A F1 H1 A1)(kp:Kept m Z Z1):Done K m D F1 H1 A1 Z1 fl Q0':=by
 cases fl with
 |nx=>exact λZ' H' ⟨F',A',x',k,q⟩=>d Z' H' ⟨F',A',x.trans x',k,kp.trans q⟩
 |bk=>exact λZ' H' ⟨F',A',x',k,q⟩=>d Z' H' ⟨F',A',x.trans x',k,kp.trans q⟩
 |ct=>exact λZ' H' ⟨F',A',x',k,q⟩=>d Z' H' ⟨F',A',x.trans x',k,kp.trans q⟩
 |rt o=>exact λv Z' H' ⟨F',A',x',k,q⟩=>d v Z' H' ⟨F',A',x.trans x',k,kp.trans q⟩
section
variable{X:Cx}{K:FG}{m:List Bool}{st:Stmt}{rest sa sb:List Stmt}{e:Expr}{f g:GS}{fa:GE}{ft:GT}{pos:Pos}
def bw:GS:=λQ0=>some (.nx,Q0)
def aR(f g:GS):GS:=λQ0=>(f Q0).bind λp=>match p.1 with
 |.nx=>g p.2
 |.bk=>some (.bk,p.2)
 |.ct=>some (.ct,p.2)
 |.rt o=>some (.rt o,p.2)
def hY:iy X [] (tS K m bw):=vj.mono λD Z H t=>by
 obtain⟨F,A,Q0,fl,Q0',k,e,w⟩:=t;cases e;exact w Z H ⟨F,A,Ext.refl,k,Kept.refl⟩
def bC(h1:PS X st (tS K m f))(h2:iy X rest (tS K m g)):iy X (st::rest) (tS K m (aR f g)):=(Wi h1 h2).mono λD Z H t=>by
 obtain⟨F,A,Q0,fl,Q0',k,e,w⟩:=t;unfold aR at e;cases q:f Q0 with
 |none=>rw[q] at e;cases e
 |some p=>
  obtain⟨C6,az⟩:=p;rw[q] at e;dsimp only[Option.bind] at e;refine⟨F,A,Q0,C6,az,k,q,?_⟩;cases C6 with
  |nx=>
   intro Z' H' ⟨F1,A1,x,k1,kp⟩;exact⟨F1,A1,az,fl,Q0',k1,e,w.step x kp⟩
  |bk=>cases e;exact w
  |ct=>cases e;exact w
  |rt o=>cases e;exact w
def bW(h1:PS X st (tS K m f)):iy X [st] (tS K m f):=XX h1
def aP(f:GE):GS:=λQ0=>(f Q0).bind λp=>match p.1 with
 |.own o=>some (.rt o,p.2)
 |.var _=>none
def fu(h:PE X e (tG K fa)):PS X (.Return (some e) pos) (tS K m (aP fa)):=(ZV h).mono λD Z H t=>by
 obtain⟨F,A,Q0,fl,Q0',k,e,w⟩:=t;unfold aP at e;cases q:fa Q0 with
 |none=>rw[q] at e;cases e
 |some p=>
  obtain⟨r,az⟩:=p;rw[q] at e;cases r with
  |var i=>cases e
  |own o=>
   cases e;exact⟨F,A,Q0,_,_,k,q,λv H' ⟨F1,A1,x,k1,_⟩=>w v Z H' ⟨F1,A1,x,k1,Kept.refl⟩⟩
def ck(c:GT)(f g:GS):GS:=λQ0=>(c Q0).bind λp=>if p.1=true then f p.2 else g p.2
def gX{c:Expr}(hc:PT X c (g_ K ft))(ha:iy X sa (tS K m f))(hb:iy X sb (tS K m g)):PS X (.If c sa sb pos) (tS K m (ck ft f g)):=(e8i hc ha hb).mono λD Z H t=>by
 obtain⟨F,A,Q0,fl,Q0',k,e,w⟩:=t;unfold ck at e;cases q:ft Q0 with
 |none=>rw[q] at e;cases e
 |some p=>
  obtain⟨b,az⟩:=p;rw[q] at e;refine⟨F,A,Q0,b,az,k,q,λH1 hh=>?_⟩
  obtain⟨F1,A1,x,k1,_⟩:=hh;cases b with
  |true=>exact ph ⟨F1,A1,az,fl,Q0',k1,e,w.step x Kept.refl⟩
  |false=>exact pe ⟨F1,A1,az,fl,Q0',k1,e,w.step x Kept.refl⟩
def jw(f:GE):GS:=λQ0=>(f Q0).bind λp=>some (.nx,p.2)
def lI(he:PE X e (tG K fa))(hs:swapsWith e none pos.line X.env=pure false:=by rfl):PS X (.Expr e pos) (tS K m (jw fa)):=(XY he hs).mono λD Z H t=>by
 obtain⟨F,A,Q0,fl,Q0',k,e,w⟩:=t;unfold jw at e;cases q:fa Q0 with
 |none=>rw[q] at e;cases e
 |some p=>
  rw[q] at e;cases e;exact⟨F,A,Q0,p.1,p.2,k,q,λv H' pp=>by obtain⟨F1,A1,x,k1,_⟩:=pp.drop;exact w Z H' ⟨F1,A1,x,k1,Kept.refl⟩⟩
def ak(i:Nat)(f:GE):GS:=λQ0=>(f Q0).bind λp=>match p.1 with
 |.own o=>if i<p.2.length then some (.nx,p.2.set i (some o)) else none
 |.var _=>none
def OK.store{F H:Hp}{A:List Addr}{Z:St}{Q0:Gm}{v:V}{o:O}{i:Nat}(k:OK K F H (some v::Z) (some o::Q0) A)(hi:i<Q0.length):∃B,OK K F H (Z.set i (some v)) (Q0.set i (some o)) B/\Ext F H A F H B:=by
 obtain⟨B,C,h1,h2,h3⟩:=k.os.one;obtain⟨B2,g1,C2,g2,g3⟩:=ag.put h1 i h2 hi;subst h3;exact⟨B2,k.sub g1 ((aS.bV g2).trans ((aS.refl B).app (.bD g3)))⟩
def dg{i:Nat}{x:Str}{pos':Pos}(hN:X.N.Nodup)(hi:X.N[i]?=some x)(hx:Loc X.env.scope x)(he:PE X e (tG K fa))(hm:(m[i]? == some true)=false:=by rfl)(hs:swapsWith e (some (.Name x pos')) pos.line X.env=pure false:=by rfl)(hf:X.fn x=true\/X.env.scope.names.lookup x=some .local := by first|exact .inl rfl|exact .inr rfl):
  PS X (.Assign [.Name x pos'] e pos) (tS K m (ak i fa)):=(ZW hN hi hx he hs hf).mono λD Z H t=>by
 obtain⟨F,A,Q0,fl,Q0',k,e,w⟩:=t;unfold ak at e;cases q:fa Q0 with
 |none=>rw[q] at e;cases e
 |some p=>
  obtain⟨r,az⟩:=p;rw[q] at e;cases r with
  |var i=>cases e
  |own o=>
   dsimp only[Option.bind] at e;split at e
   .cases e;refine⟨F,A,Q0,_,az,k,q,λv H' hh=>?_⟩
    obtain⟨F1,A1,x,k1,_⟩:=hh;obtain⟨B,k2,x2⟩:=OK.store (Z:=Z) (Q0:=az) k1 (by assumption)
    exact w _ H' ⟨F1,B,x.trans x2,k2,Kept.set hm⟩
   .cases e
noncomputable def iT(c:GT)(f:GS):Nat->GS
 |0=>λ_=>none
 |n+1=>λQ0=>(c Q0).bind λp=>if p.1=true then(f p.2).bind λq=>match q.1 with
   |.nx=>iT c f n q.2
   |.ct=>iT c f n q.2
   |.bk=>some (.nx,q.2)
   |.rt o=>some (.rt o,q.2)
  else some (.nx,p.2)
def Fp(n:Nat){c:Expr}(hp:PassesOwn (model X.prog X.w) X.A X.env X.xe)(hc:PT X c (g_ K ft))(hb:iy X sa (tS K m f)):PS X (.While c sa [] pos) (tS K m (iT ft f n)):=(Wj hp hc hb).mono λD Z H t=>by
 obtain⟨F,A,Q0,fl,Q0',k,e,w⟩:=t;refine⟨λn Z H=>∃F A Q0,OK K F H Z Q0 A/\iT ft f n Q0=some (fl,Q0')/\Done K m D F H A Z fl Q0',⟨n,F,A,Q0,k,e,w⟩,?_⟩
 rintro n Z H ⟨F,A,Q0,k,e,w⟩;cases n with
 |zero=>cases e
 |succ n=>
  unfold iT at e;cases q:ft Q0 with
  |none=>rw[q] at e;cases e
  |some p=>
   obtain⟨b,az⟩:=p;rw[q] at e;refine⟨F,A,Q0,b,az,k,q,λH1 hh=>?_⟩
   obtain⟨F1,A1,x,k1,_⟩:=hh;have k1:OK K F1 H1 Z az A1:=k1;have w1:=w.step x (Kept.refl (m:=m) (Z:=Z));cases b with
   |false=>
    cases e;exact pe (w1 Z H1 ⟨F1,A1,Ext.refl,k1,Kept.refl⟩)
   |true=>
    refine ph ⟨λZ' H'=>∃F A Q0,OK K F H' Z' Q0 A/\iT ft f n Q0=some (fl,Q0')/\Done K m D F H' A Z' fl Q0',λZ' H' h=>⟨n,Am _,h⟩,?_⟩
    have e:((f az).bind λq=>match q.1 with
      |.nx=>iT ft f n q.2
      |.ct=>iT ft f n q.2
      |.bk=>some (.nx,q.2)
      |.rt o=>some (.rt o,q.2))=some (fl,Q0'):=e
    cases q2:f az with
    |none=>rw[q2] at e;cases e
    |some p2=>
     obtain⟨Sm,cu⟩:=p2;rw[q2] at e;dsimp only[Option.bind] at e;refine⟨F1,A1,az,Sm,cu,k1,q2,?_⟩;cases Sm with
     |nx=>exact λZ' H' ⟨F2,A2,x2,k2,kp⟩=>⟨F2,A2,cu,k2,e,w1.step x2 kp⟩
     |ct=>exact λZ' H' ⟨F2,A2,x2,k2,kp⟩=>⟨F2,A2,cu,k2,e,w1.step x2 kp⟩
     |bk=>cases e;exact w1
     |rt o=>cases e;exact w1
abbrev GG:=D->Gm->Option Gm
def gf(K:FG)(m:List Bool)(t:TG)(g:GG):Prop:=
 ∀(F H:Hp) (Z:St) (Q0 az:Gm) (A:List Addr) (x:V) (d:D) (Q:St->Hp->Prop),OK K F H Z Q0 A->aj K F [x] [d]->g d Q0=some az->(∀Z' A',OK K F H Z' az A'->Ext F H A F H A'->Kept m Z Z'->Q Z' H)->t x Z H Q
def bj(i:Nat):GG:=λd Q0=>if i<Q0.length then some (Q0.set i (some (.Y d))) else none
def fq{i:Nat}(hm:(m[i]? == some true)=false:=by rfl):gf K m (sj i) (bj i):=by
 intro F H Z Q0 az A x d Q k r e w;unfold bj at e;split at e
 .cases e;obtain⟨k1,x1⟩:=k.push (v:=x) (o:=.Y d) (Av:=[]) (aF.refl _) (.Y r .nil) .nil (λ_ m=>by cases m)
  obtain⟨B,k2,x2⟩:=OK.store k1 (by assumption)
  exact w _ _ k2 (x1.trans x2) (Kept.set hm)
 .cases e
def ig:List GG->List D->Gm->Option Gm
 |[],[],Q0=>some Q0
 |g::gs,d::ds,Q0=>(g d Q0).bind λaz=>ig gs ds az
 |_,_,_=>none
def pL(K:FG)(m:List Bool)(t:t4)(g:List GG):Prop:=
 ∀(F H:Hp) (Z:St) (Q0 az:Gm) (A:List Addr) (xs:List V) (ds:List D) (Q:St->Hp->Prop),OK K F H Z Q0 A->aj K F xs ds->ig g ds Q0=some az->(∀Z' A',OK K F H Z' az A'->Ext F H A F H A'->Kept m Z Z'->Q Z' H)->t xs Z H Q
def Jv:pL K m C_ []:=by
 intro F H Z Q0 az A xs ds Q k r e w;cases ds with
 |nil=>
  cases e;cases xs with
  |nil=>exact⟨rfl,w Z A k Ext.refl Kept.refl⟩
  |cons _ _=>have:=r.length;simp at this
 |cons _ _=>cases e
def t6{t:TG}{ts:t4}{g:GG}{gs:List GG}(h1:gf K m t g)(h2:pL K m ts gs):pL K m (L2.wC t ts) (g::gs):=by
 intro F H Z Q0 az A xs ds Q k r e w;cases ds with
 |nil=>cases e
 |cons d ds=>
  cases xs with
  |nil=>have:=r.length;simp at this
  |cons x xs=>
   unfold ig at e;cases q:g d Q0 with
   |none=>rw[q] at e;cases e
   |some cu=>
    rw[q] at e;refine⟨x,xs,rfl,h1 F H Z Q0 cu A x d _ k r.inv.1 q λZ1 A1 k1 x1 kp1=>?_⟩
    exact h2 F H Z1 cu az A1 xs ds _ k1 r.inv.2 e λZ2 A2 k2 x2 wN=>w Z2 A2 k2 (x1.trans x2) (kp1.trans wN)
def gr(gs:List GG):GG:=λd Q0=>match d with
 |.tup ds=>ig gs ds Q0
 |_=>none
theorem Oa:∀{gs:List GG} {ds:List D} {Q0 az:Gm},ig gs ds Q0=some az->ds.length=gs.length
 |[],[],_,_,_=>rfl
 |g::gs,d::ds,Q0,az,e=>by
  unfold ig at e;cases q:g d Q0 with
  |none=>rw[q] at e;cases e
  |some cu=>rw[q] at e;simp[Oa (gs:=gs) (ds:=ds) e]
 |[],_::_,_,_,e=>by cases e
 |_::_,[],_,_,e=>by cases e
def J0{ts:t4}{gs:List GG}{n:Nat}(h:pL K m ts gs)(hn:n=gs.length:=by rfl):gf K m (Dc K n ts) (gr gs):=by
 intro F H Z Q0 az A x d Q k r e w;cases d with
 |tup ds=>
  have e:ig gs ds Q0=some az:=e;cases r with
  |flat z _=>cases z
  |tup q i _=>exact⟨_,_,rfl,k.le.mK q,by rw[hn,i.length,Oa e],h F H Z Q0 az A _ ds Q k i e w⟩
 |_=>cases e
def fz(g:GG)(f:GS):List D->GS
 |[]=>λQ0=>some (.nx,Q0)
 |d::ds=>λQ0=>(g d Q0).bind λaz=>(f az).bind λq=>match q.1 with
   |.nx=>fz g f ds q.2
   |.ct=>fz g f ds q.2
   |.bk=>some (.nx,q.2)
   |.rt o=>some (.rt o,q.2)
def Ob{t:TG}{g:GG}(tg:gf K m t g){F H:Hp}{Z:St}{Q0 Q0':Gm}{A:List Addr}{x:V}{d:D}{ds:List D}{fl:Fl}{E:Ends}{Pv:St->Hp->Prop}(k:OK K F H Z Q0 A)(r:aj K F [x] [d])
  (e:fz g f (d::ds) Q0=some (fl,Q0')) (w:Done K m E F H A Z fl Q0')
  (DR:∀F1 H1 Z1 az A1,Ext F H A F1 H1 A1->OK K F1 H1 Z1 az A1->fz g f ds az=some (fl,Q0')->Done K m E F1 H1 A1 Z1 fl Q0'->Pv Z1 H1):t x Z H λZ2 H2=>tS K m f { E with nx:=Pv,ct:=Pv,bk:=E.nx} Z2 H2:=by
 unfold fz at e;cases q:g d Q0 with
 |none=>rw[q] at e;cases e
 |some az=>
  rw[q] at e;dsimp only[Option.bind] at e;cases q2:f az with
  |none=>rw[q2] at e;cases e
  |some p=>
   obtain⟨C6,cu⟩:=p;rw[q2] at e;dsimp only at e;refine tg F H Z Q0 az A x d _ k r q λZ1 A1 k1 x1 kp=>⟨F,A1,az,C6,cu,k1,q2,?_⟩
   have w1:=w.step x1 kp;cases C6 with
   |nx=>exact λZ' H' ⟨F2,A2,x2,k2,wN⟩=>DR F2 H' Z' cu A2 (x1.trans x2) k2 e (w1.step x2 wN)
   |ct=>exact λZ' H' ⟨F2,A2,x2,k2,wN⟩=>DR F2 H' Z' cu A2 (x1.trans x2) k2 e (w1.step x2 wN)
   |bk=>cases e;exact w1
   |rt o=>cases e;exact w1
def WD{g:GG}{F H:Hp}{Z:St}{Q0 Q0':Gm}{A:List Addr}{fl:Fl}{E:Ends}(k:OK K F H Z Q0 A)(e:fz g f [] Q0=some (fl,Q0'))(w:Done K m E F H A Z fl Q0'):E.nx Z H:=by
 cases e;exact w Z H ⟨F,A,Ext.refl,k,Kept.refl⟩
def ef(it:GE)(g:GG)(f:GS):GS:=λQ0=>(av it Q0).bind λp=>match p.1 with
 |.own (.Y (.lst ds))=>fz g f ds p.2
 |_=>none
def BO(it:GE)(g:GG)(f:GS):GS:=λQ0=>(av it Q0).bind λp=>match p.1 with
 |.own (.Y (.tup ds))=>fz g f ds p.2
 |_=>none
variable{tg iter:Expr}{t:TG}{gg:GG}{body:List Stmt}
def LI(K:FG)(m:List Bool)(gg:GG)(f:GS)(E:Ends)(F1:Hp)(fl:Fl)(Q0':Gm)(ds:List D)(i:Nat)(Z:St)(H:Hp):Prop:=∃F A Q0,OK K F H Z Q0 A/\fz gg f (ds.drop i) Q0=some (fl,Q0')/\Done K m E F H A Z fl Q0'/\aF F1 F
section
variable{F1 H1:Hp}{Z:St}{ds:List D}{i:Nat}{E:Ends}{fl:Fl}{Q0':Gm}
def LI.same(p:LI K m gg f E F1 fl Q0' ds i Z H1):aF F1 H1:=by
 obtain⟨F',A',qR,k',e',w',s'⟩:=p;exact s'.trans k'.le
def LI.turn(p:LI K m gg f E F1 fl Q0' ds i Z H1)(ht:gf K m t gg){x:V}{d:D}(hd:ds[i]?=some d)(r:aj K F1 [x] [d]):t x Z H1 λZ2 H2=>tS K m f { E with nx:=LI K m gg f E F1 fl Q0' ds (i+1),ct:=LI K m gg f E F1 fl Q0' ds (i+1),bk:=E.nx} Z2 H2:=by
 obtain⟨F',A',qR,k',e',w',s'⟩:=p;obtain⟨hi,he⟩:=eO.mp hd;rw[HP hi,he] at e';exact Ob ht k' (r.mono s') e' w' λF2 H2 Z2 cu A2 x2 k2 e2 w2=>⟨F2,A2,cu,k2,e2,w2,s'.trans x2.ff⟩
def LI.step(p:LI K m gg f E F1 fl Q0' ds i Z H1)(ht:gf K m t gg){ws:List V}(ri:aj K F1 ws ds){x:V}(hx:ws[i]?=some x):t x Z H1 λZ2 H2=>tS K m f { E with nx:=LI K m gg f E F1 fl Q0' ds (i+1),ct:=LI K m gg f E F1 fl Q0' ds (i+1),bk:=E.nx} Z2 H2:=by
 have hi:i<ds.length:=by rw[<-ri.length];exact(eO.mp hx).1
 obtain⟨x2,sM,rx⟩:=ri.get (eP hi);rw[hx] at sM;cases sM;exact p.turn ht (eP hi) rx
def LI.fin(p:LI K m gg f E F1 fl Q0' ds i Z H1)(h:ds.length<=i):E.nx Z H1:=by
 obtain⟨F',A',qR,k',e',w',s'⟩:=p;rw[MR h] at e';exact WD k' e' w'
def LI.start{F H:Hp}{A A1:List Addr}{v:V}{d:D}{az:Gm}(k1:OK K F1 H1 (some v::Z) (some (.Y d)::az) A1)(x:Ext F H A F1 H1 A1)(w:Done K m E F H A Z fl Q0')(e:fz gg f ds az=some (fl,Q0')):aj K F1 [v] [d]/\LI K m gg f E F1 fl Q0' ds 0 Z H1:=by
 obtain⟨B,C,h1,h2,h3⟩:=ag.one (Z:=Z) (Q0:=az) k1.os;subst h3;cases h1 with
 |Y rp tl=>exact⟨rp,F1,_,az,(k1.sub h2 (.bD (mN _ _))).1,e,w.step (x.lP λa m=>hG _ m) Kept.refl,aF.refl _⟩
def Yk{α:Type}{φ:List D->Gm->Option α}{z:α}{Q0:Gm}(e:((av fa Q0).bind λp=>match p.1 with|.own (.Y (.lst ds))=>φ ds p.2|_=>none)=some z):∃ds az,av fa Q0=some (.own (.Y (.lst ds)),az)/\φ ds az=some z:=by
 obtain⟨⟨r,az⟩,q,e⟩:=eQ.mp e;dsimp only at e;split at e
 .exact⟨_,az,q,e⟩
 .cases e
def PM{v:V}(h:aj K F1 [v] [.lst ds]):∃a ws,v=.ref a/\Rd F1 a (.lst ws)/\aj K F1 ws ds:=by
 cases h with
 |flat z _=>cases z
 |@lst a ws vs es Kx sq ri _=>exact⟨a,ws,rfl,sq,ri⟩
end
def qZ(hp:PassesOwn (model X.prog X.w) X.A X.env X.xe)(hi:PE X iter (tG K fa))(hg:PG X tg t)(ht:gf K m t gg)(hb:iy X body (tS K m f))(hc:X.calm=true:=by rfl)(hK:X.K=K:=by rfl)(hs:∀x,foldedSetIterable iter X.env x=pure x:=by intro _;rfl):PS X (.For tg iter body [] pos) (tS K m (ef fa gg f)):=by
 subst hK;refine(zm hp hc (PB (cq hi)) hg hb hs).mono λD Z H tt=>?_
 obtain⟨F,A,Q0,fl,Q0',k,e,w⟩:=tt;obtain⟨ds,az,q,e⟩:=Yk (φ:=λds Q0=>fz gg f ds Q0) e
 refine⟨F,A,Q0,_,az,k,q,λv H1 pp=>?_⟩
 obtain⟨F1,A1,x,k1,_⟩:=pp;obtain⟨rp,st⟩:=LI.start k1 x w e;obtain⟨a,ws,rfl,sq,ri⟩:=PM rp;exact⟨a,rfl,⟨ws,.inl (k1.le.rd sq)⟩,Wl (xs:=ws) (LI X.K m gg f D F1 fl Q0' ds) st (λi Z' H' _ p=>.inl (p.same.rd sq)) (λi x' Z' H' hx p=>p.step ht ri hx) λZ' H' p=>p.fin (by rw[ri.length];exact cJ _)⟩
def Yl(hp:PassesOwn (model X.prog X.w) X.A X.env X.xe)(hi:PE X iter (tG K fa))(hg:PG X tg t)(ht:gf K m t gg)(hb:iy X body (tS K m f))(hc:X.calm=true:=by rfl)(hK:X.K=K:=by rfl)(hs:∀x,foldedSetIterable iter X.env x=pure x:=by intro _;rfl):PS X (.For tg iter body [] pos) (tS K m (BO fa gg f)):=by
 subst hK;refine(zm hp hc (QU (cq hi)) hg hb hs).mono λD Z H tt=>?_
 obtain⟨F,A,Q0,fl,Q0',k,e,w⟩:=tt;unfold BO at e;obtain⟨⟨r,az⟩,q,e⟩:=eQ.mp e;dsimp only at e;split at e
 .rename_i ds
  refine⟨F,A,Q0,_,az,k,q,λv H1 pp=>?_⟩
  obtain⟨F1,A1,x,k1,_⟩:=pp;obtain⟨rp,st⟩:=LI.start k1 x w e;cases rp with
  |flat z _=>cases z
  |@tup a ws vs es Kx sq ri _=>exact⟨a,rfl,⟨ws,k1.le.mK sq⟩,X0 (xs:=ws) (LI X.K m gg f D F1 fl Q0' ds) st (λi Z' H' _ p=>p.same.mK sq) (λi x' Z' H' hx p=>p.step ht ri hx) λZ' H' p=>p.fin (by rw[ri.length];exact cJ _)⟩
 .cases e
end
noncomputable def fE(lo:Int)(n:Nat):List D:=(List.range n).map λ(k:Nat)=>D.int (lo+(k:Int))
def Nh{α:Type}(h:Nat->α){i n:Nat}(hi:i<n):((List.range n).map h).drop i=h i::((List.range n).map h).drop (i+1):=by
 have e:i<((List.range n).map h).length:=by simpa using hi
 rw[HP e];simp
def gK:List R->Option Int
 |[.own (.Y (.int j))]=>if Nat.ble j.natAbs 1000000000000=true then some j else none
 |_=>none
def kP:List R->Option (Int×Int)
 |[.own (.Y (.int i)),.own (.Y (.int j))]=>if Nat.ble i.natAbs 1000000000000=true/\Nat.ble j.natAbs 1000000000000=true then some (i,j) else none
 |_=>none
def OU{rs:List R}{j:Int}(e:gK rs=some j):rs=[.own (.Y (.int j))] /\ -(2^62)<=j/\j<2^62:=by
 unfold gK at e;split at e
 .split at e
  .rename_i h
   have h:=Nat.le_of_ble_eq_true h;cases e;exact⟨rfl,by lia,by lia⟩
  .cases e
 .cases e
def OV{rs:List R}{p:Int×Int}(e:kP rs=some p):rs=[.own (.Y (.int p.1)),.own (.Y (.int p.2))] /\ -(2^62)<=p.1/\p.1<2^62 /\ -(2^62)<=p.2/\p.2<2^62:=by
 unfold kP at e;split at e
 .split at e
  .rename_i h
   have h1:=Nat.le_of_ble_eq_true h.1;have h2:=Nat.le_of_ble_eq_true h.2;cases e;exact⟨rfl,by lia,by lia,by lia,by lia⟩
  .cases e
 .cases e
def uO{j:Int}(h:j.natAbs<=1000000):gK [.own (.Y (.int j))]=some j:=by
 unfold gK;dsimp only;rw[aJ (Nat.ble_eq_true_of_le (by lia))]
def uM(fs:GA)(g:GG)(f:GS):GS:=λQ0=>(fs Q0).bind λp=>(gK p.1).bind λj=>fz g f (fE 0 j.toNat) p.2
def Fq(fs:GA)(g:GG)(f:GS):GS:=λQ0=>(fs Q0).bind λp=>(kP p.1).bind λj=>fz g f (fE j.1 (j.2 - j.1).toNat) p.2
section
variable{X:Cx}{K:FG}{m:List Bool}{f:GS}{fa:GE}{fs:GA}{pos p:Pos}{tg a b c:Expr}{t:TG}{gg:GG}{body:List Stmt}
def uP{F H:Hp}{Z:St}{Q0:Gm}{A:List Addr}{v:V}{i:Int}(h:ag K F H (some v::Z) (some (.Y (.int i))::Q0) A):v=.int i/\ag K F H Z Q0 A:=by
 cases h with
 |Y r t=>
  cases r with
  |flat e _=>cases e;exact⟨rfl,t⟩
theorem RX{α:Type}:∀{l:List α},1=l.length->∃a,l=[a]
 |[a],_=>⟨a,rfl⟩
theorem Kw{α:Type}:∀{l:List α},2=l.length->∃a b,l=[a,b]
 |[a,b],_=>⟨a,b,rfl⟩
theorem e8o{α:Type}:∀{l:List α},3=l.length->∃a b c,l=[a,b,c]
 |[a,b,c],_=>⟨a,b,c,rfl⟩
def LI.ints{F1 H1:Hp}{Z:St}{E:Ends}{fl:Fl}{Q0' az:Gm}{F H:Hp}{A A1:List Addr}{τ:St}{Θ:Gm}{ds:List D}(k1:OK K F1 H1 τ Θ A1)(h:ag K F1 H1 Z az A1)(x:Ext F H A F1 H1 A1)(w:Done K m E F H A Z fl Q0')(e:fz gg f ds az=some (fl,Q0')):LI K m gg f E F1 fl Q0' ds 0 Z H1:=
 ⟨F1,A1,az,(k1.sub h (aS.refl _)).1,e,w.step x Kept.refl,aF.refl _⟩
def QZ{g:Nat->D}{n i:Nat}(h:i<n):((List.range n).map g)[i]?=some (g i):=by rw[i7,MV h];rfl
def xv(hp:PassesOwn (model X.prog X.w) X.A X.env X.xe)(hm:X.mg "range"=none)(ha:PA X [a] (kb K fs))(hg:PG X tg t)(ht:gf K m t gg)(hb:iy X body (tS K m f))(hc:X.calm=true:=by rfl)(u7:Gl X "range":=by rfl)
  (hs:starEach [a] X.env=[(false,eval a X.env)]:=by rfl) (hf:∀x,foldedSetIterable (.Call (.Name "range" p) [a] [] pos) X.env x=pure x:=by intro _;rfl) {fp:Pos}:PS X (.For tg (.Call (.Name "range" p) [a] [] pos) body [] fp) (tS K m (uM fs gg f)):=by
 refine(zm hp hc (Iu u7 hm ha hs) hg hb hf).mono λD Z H tt=>?_
 obtain⟨F,A,Q0,fl,Q0',k,e,w⟩:=tt;obtain⟨⟨rs,az⟩,q,e⟩:=eQ.mp e;obtain⟨j,q2,e⟩:=eQ.mp e;obtain⟨hj,hb⟩:=OU q2;subst hj;refine⟨F,A,Q0,_,az,k,q,λvs H1 pp=>?_⟩
 obtain⟨F1,A1,x,k1,hh⟩:=pp;obtain⟨v,rfl⟩:=RX hh.length;obtain⟨rfl,h2⟩:=uP (Z:=Z) (Q0:=az) k1.os;exact⟨j,rfl,hb.1,hb.2,NY (LI K m gg f D F1 fl Q0' (fE 0 j.toNat)) (.ints k1 h2 x w e) (λi Z' H' hi p=>p.turn ht (QZ hi) (.flat rfl .nil)) λZ' H' p=>p.fin (by simp[fE])⟩
def Oc(hp:PassesOwn (model X.prog X.w) X.A X.env X.xe)(hm:X.mg "range"=none)(ha:PA X [a,b] (kb K fs))(hg:PG X tg t)(ht:gf K m t gg)(hb:iy X body (tS K m f))(hc:X.calm=true:=by rfl)(u7:Gl X "range":=by rfl)
  (hs:starEach [a,b] X.env=[(false,eval a X.env),(false,eval b X.env)]:=by rfl) (nP:starEach [b] X.env=[(false,eval b X.env)]:=by rfl) (hf:∀x,foldedSetIterable (.Call (.Name "range" p) [a,b] [] pos) X.env x=pure x:=by intro _;rfl) {fp:Pos} :
  PS X (.For tg (.Call (.Name "range" p) [a,b] [] pos) body [] fp) (tS K m (Fq fs gg f)):=by
 refine(zm hp hc (NX u7 hm ha hs nP) hg hb hf).mono λD Z H tt=>?_
 obtain⟨F,A,Q0,fl,Q0',k,e,w⟩:=tt;obtain⟨⟨rs,az⟩,q,e⟩:=eQ.mp e;obtain⟨⟨i0,j⟩,q2,e⟩:=eQ.mp e;obtain⟨hj,hb⟩:=OV q2;subst hj;refine⟨F,A,Q0,_,az,k,q,λvs H1 pp=>?_⟩
 obtain⟨F1,A1,x,k1,hh⟩:=pp;obtain⟨v,v',rfl⟩:=Kw hh.length;obtain⟨rfl,h1⟩:=uP (Z:=some v'::Z) (Q0:=some (.Y (.int j))::az) k1.os;obtain⟨rfl,h2⟩:=uP (Z:=Z) (Q0:=az) h1;exact⟨i0,j,rfl,hb,NY (LI K m gg f D F1 fl Q0' (fE i0 (j - i0).toNat)) (.ints k1 h2 x w e) (λi Z' H' hi p=>p.turn ht (QZ hi) (.flat rfl .nil)) λZ' H' p=>p.fin (by simp[fE])⟩
end
abbrev GM:=List O->Option (O×Gm)
def AY(K:FG)(F H:Hp)(A:List Addr)(vs:List V)(fin:Gm)(o:O)(v:V)(H':Hp):Prop:=∃F' A',Ext F H A F' H' A'/\OK K F' H' (some v::vs.map some) (some o::fin) A'
def fL(K:FG)(n:Nat)(M:GM):Sp:=λvs H Q _=>vs.length=n/\∃F A os o fin,OK K F H (vs.map some) (os.map some) A/\M os=some (o,fin)/\∀v H',AY K F H A vs fin o v H'->Q v H'
noncomputable def gu:List Bool->Gm->Gm
 |true::m,x::Q0=>x::gu m Q0
 |false::m,_::Q0=>none::gu m Q0
 |[],_::Q0=>none::gu [] Q0
 |_,[]=>[]
def Fl.val:Fl->Option O
 |.rt o=>some o
 |.nx=>some (.Y .bH)
 |_=>none
def runM(n:Nat)(m:List Bool)(f:GS):GM:=λos=>(f (os.map some++List.replicate (n - os.length) none)).bind λp=>p.1.val.bind λo=>if p.2.length=n then some (o,gu m (p.2.take os.length)) else none
section
variable{K:FG}{F H:Hp}{Z:St}{Q0:Gm}{A:List Addr}
theorem Iv:∀n:Nat,ag K F H (List.replicate n none) (List.replicate n none) []
 |0=>.nil
 |n+1=>.skip (Iv n)
theorem IS:∀{m:List Bool} {vs:List V} {Z':St} {Q0:Gm} {B:List Addr},ag K F H Z' Q0 B->Z'.length=vs.length->(∀j:Nat,m[j]?=some true->Z'[j]?=(vs.map some)[j]?)->∃C,ag K F H (vs.map some) (gu m Q0) C/\C.Sublist B
 |m,[],[],[],B,h,_,_=>by
  cases m with
  |nil=>exact⟨B,h,List.Sublist.refl _⟩
  |cons b m=>cases b <;> exact⟨B,h,List.Sublist.refl _⟩
 |m,v::vs,x::Z',y::Q0,B,h,hl,hk=>by
  obtain⟨B1,B2,h1,h2,h3⟩:=h.one;subst h3;have uq:Z'.length=vs.length:=by simpa using hl
  cases m with
  |nil=>
   obtain⟨C,g1,g2⟩:=IS (m:=[]) h2 uq (λj hj=>by simp at hj)
   exact⟨C,.skip g1,g2.trans (mN _ _)⟩
  |cons b m=>
   obtain⟨C,g1,g2⟩:=IS (m:=m) h2 uq (λj hj=>by simpa using hk (j+1) (by simpa using hj))
   cases b with
   |false=>exact⟨C,.skip g1,g2.trans (mN _ _)⟩
   |true=>
    have hx:x=some v:=by simpa using hk 0 rfl
    subst hx;exact⟨B1++C,h1.app g1,g2.append_left _⟩
 |_,[],_::_,_,_,_,hl,_=>by simp at hl
 |_,_::_,[],_,_,_,hl,_=>by simp at hl
 |_,[],[],_::_,_,h,_,_=>by have:=h.length;simp at this
 |_,_::_,_::_,[],_,h,_,_=>by have:=h.length;simp at this
def OK.params{m:List Bool}{vs:List V}{Z':St}{Q0':Gm}{v:V}{o:O}{rest:St}(k:OK K F H (some v::Z') (some o::Q0') A)(hl:vs.length<=Z'.length)(kp:Kept m (vs.map some++rest) Z')(hm:m.length<=vs.length):
  ∃B,OK K F H (some v::vs.map some) (some o::gu m (Q0'.take vs.length)) B/\Ext F H A F H B:=by
 obtain⟨B,C,h1,h2,h3⟩:=k.os.one;subst h3;have yl:=h2.length;have e1:Z'=Z'.take vs.length++Z'.drop vs.length:=(vH _ _).symm;have e2:Q0'=Q0'.take vs.length++Q0'.drop vs.length:=(vH _ _).symm;have wD:ag K F H (Z'.take vs.length++Z'.drop vs.length) (Q0'.take vs.length++Q0'.drop vs.length) C:=by rw[<-e1,<-e2];exact h2
 obtain⟨C1,C2,g1,g2,g3⟩:=ag.split (by rw[ql,ql];lia) wD
 subst g3;obtain⟨C3,j1,j2⟩:=IS (m:=m) (vs:=vs) g1 (by rw[ql];lia) (λj hj=>by
  have gI:j<vs.length:=by
   have:=(eO.mp hj).1;lia
  rw[List.getElem?_take_of_lt gI,kp j hj,yX (by simpa using gI)])
 exact⟨B++C3,k.sub (h1.app j1) ((aS.refl B).app (.bD (j2.trans (List.sublist_append_left _ _))))⟩
end
section
variable{P:Program}{w:World}{K:FG}{mg:Str->Option Value}{base:Heap}
def Vn{x qual:Str}{st:Stmt}{fa:Addr}{fd:FuncData}{N ps:List Str}{k:Nat}(m:List Bool)(f:GS)(Fn:tY K x qual st fa fd)(S:aM N ps (dQ st))(hm:m.length<=ps.length)
  (kN:∀(dq:Value) (A:Around) (outer:List Env) (s:Shared) (H:Hp) (E:XK),eD k (A.deeper (envOfC qual (dQ st) s.heap.objs.size fa dq))->
   iy (nH fx P w K mg base N qual (dQ st) fa dq A outer s H E).z_ (uN st) (tS K m f)):bR P w K mg base fx (k+1) fa fd ps (fL K ps.length (runM N.length m f)):=by
 refine Fn.ok S (λvs H Q E h=>h.1) λdq A outer s H vs Q E hr h=>⟨_,kN dq A outer s H E hr,?_⟩
 obtain⟨hl,F,A0,os,o,fin,k0,e,q⟩:=h;have LA:vs.length=os.length:=by have:=k0.os.length;simpa using this
 have hN:ps.length<=N.length:=by have:=congrArg List.length S.pre;rw[ql] at this;lia
 unfold runM at e;cases q1:f (os.map some++List.replicate (N.length - os.length) none) with
 |none=>rw[q1] at e;cases e
 |some p=>
  obtain⟨fl,Q0'⟩:=p;rw[q1] at e;dsimp only[Option.bind] at e;have k1:OK K F H (start N vs) (os.map some++List.replicate (N.length - os.length) none) A0:=by
   unfold start;rw[LA];have z:=k0.os.app (Iv (K:=K) (F:=F) (H:=H) (N.length - os.length));rw[kZ] at z;exact⟨k0.le,z,k0.nd,k0.fr⟩
  cases q2:fl.val with
  |none=>rw[q2] at e;cases e
  |some o'=>
   rw[q2] at e;dsimp only at e;split at e
   .rename_i hlen
    cases e;refine⟨F,A0,_,fl,Q0',k1,q1,?_⟩;have dr:∀{F' H':Hp} {A':List Addr} {v:V} {Z':St},Ext F H A0 F' H' A'->OK K F' H' (some v::Z') (some o::Q0') A'->Kept m (start N vs) Z'->Q v H':=by
     intro F' H' A' v Z' x k' kp;unfold start at kp;have hs:Z'.length=Q0'.length:=by have:=k'.os.length;simpa using this
     obtain⟨B,k2,x2⟩:=OK.params (m:=m) (vs:=vs) k' (by lia) kp (by lia)
     rw[LA] at k2;exact q v H' ⟨F',B,x.trans x2,k2⟩
    cases fl with
    |nx=>
     cases q2;intro Z' H' ⟨F',A',x,k',kp⟩;obtain⟨k2,x2⟩:=k'.push (v:=.bH) (o:=.Y .bH) (Av:=[]) (aF.refl _) (.Y (.flat rfl .nil) .nil) .nil (λ_ m=>by cases m)
     exact dr (x.trans x2) k2 kp
    |rt o1=>
     cases q2;intro v Z' H' ⟨F',A',x,k',kp⟩;exact dr x k' kp
    |bk=>cases q2
    |ct=>cases q2
   .cases e
def jx{x qual:Str}{st:Stmt}{fa:Addr}{fd:FuncData}{N ps:List Str}{k:Nat}(m:List Bool)(f:GS)(Fn:tY K x qual st fa fd)(S:aM N ps (dQ st)){n pn:Nat}(hn:N.length=n)(hp:ps.length=pn)(hm:m.length<=ps.length)
  (kN:∀(dq:Value) (A:Around) (outer:List Env) (s:Shared) (H:Hp) (E:XK),eD k (A.deeper (envOfC qual (dQ st) s.heap.objs.size fa dq))->
   ∃f',iy (nH fx P w K mg base N qual (dQ st) fa dq A outer s H E).z_ (uN st) (tS K m f')/\f'=f):bR P w K mg base fx (k+1) fa fd ps (fL K pn (runM n m f)):=by
 subst hn hp;exact Vn m f Fn S hm λdq A outer s H E hr=>by
  obtain⟨f',h,e⟩:=kN dq A outer s H E hr;rw[<-e];exact h
end
noncomputable def oS:List R->Gm->Option (List O×Gm)
 |[],Q0=>some ([],Q0)
 |.own o::rs,Q0=>(oS rs Q0).bind λp=>some (o::p.1,p.2)
 |.var i::rs,Q0=>match Q0[i]? with
  |some (some o)=>(oS rs (Q0.set i none)).bind λp=>some (o::p.1,p.2)
  |_=>none
def qY:List R->Gm->Gm->Gm
 |.own _::rs,_::fin,Q0=>qY rs fin Q0
 |.var i::rs,f::fin,Q0=>(qY rs fin Q0).set i f
 |_,_,Q0=>Q0
def aI(M:GM)(fs:GA):GE:=λQ0=>(fs Q0).bind λp=>(oS p.1 p.2).bind λq=>(M q.1).bind λr=>some (.own r.1,qY p.1 r.2 q.2)
section
variable{K:FG}{F H:Hp}{Z:St}
theorem Iw:∀{rs:List R} {vs:List V} {Q0 cu:Gm} {os:List O} {B C:List Addr},ag K F H (vs.map some) (rs.map R.o) B->ag K F H Z Q0 C->iP Z rs vs->oS rs Q0=some (os,cu)->
  ∃B' C',ag K F H (vs.map some) (os.map some) B'/\ag K F H Z cu C'/\(B'++C').Perm (B++C)
 |[],[],Q0,cu,os,B,C,h1,h2,_,e=>by cases e;exact⟨B,C,h1,h2,.refl _⟩
 |.own o::rs,v::vs,Q0,cu,os,B,C,h1,h2,hh,e=>by
  obtain⟨B1,B2,g1,g2,rfl⟩:=ag.one h1;unfold oS at e;cases q:oS rs Q0 with
  |none=>rw[q] at e;cases e
  |some p=>
   rw[q] at e;cases e;obtain⟨B',C',j1,j2,j3⟩:=Iw g2 h2 hh q;exact⟨B1++B',C',g1.app j1,j2,by rw[gz,gz];exact .append_left _ j3⟩
 |.var i::rs,v::vs,Q0,cu,os,B,C,h1,h2,hh,e=>by
  obtain⟨B1,B2,g1,g2,rfl⟩:=ag.one h1;have eB:B1=[]:=by cases g1 with|skip t=>cases t;rfl
  subst eB;unfold oS at e;cases q0:Q0[i]? with
  |none=>rw[q0] at e;cases e
  |some z=>
   cases z with
   |none=>rw[q0] at e;cases e
   |some o=>
    rw[q0] at e;dsimp only at e;cases q:oS rs (Q0.set i none) with
    |none=>rw[q] at e;cases e
    |some p=>
     rw[q] at e;cases e;obtain⟨v',Ai,C1,k1,k2,k3,k4⟩:=h2.take q0;rw[hh.1] at k1;cases k1;obtain⟨B',C',j1,j2,j3⟩:=Iw g2 k3 hh.2 q;refine⟨Ai++B',C',k2.app j1,j2,?_⟩;rw[gz,fI];refine(List.Perm.append_left Ai j3).trans ?_;rw[<-gz];refine(List.Perm.append_right C1 qO).trans ?_;rw[gz];exact .append_left _ k4.symm
 |[],_::_,_,_,_,_,_,_,_,h,_=>h.elim
 |.own _::_,[],_,_,_,_,_,_,_,h,_=>h.elim
 |.var _::_,[],_,_,_,_,_,_,_,h,_=>h.elim
theorem IT:∀{rs:List R} {vs:List V} {fin Q0:Gm} {B C:List Addr},ag K F H (vs.map some) fin B->ag K F H Z Q0 C->iP Z rs vs->∃D,ag K F H Z (qY rs fin Q0) D/\aS D (B++C)
 |[],[],fin,Q0,B,C,h1,h2,_=>by
  cases h1;exact⟨C,h2,.bD (mN _ _)⟩
 |.own o::rs,v::vs,[],Q0,B,C,h1,h2,hh=>by have:=h1.length;simp at this
 |.var i::rs,v::vs,[],Q0,B,C,h1,h2,hh=>by have:=h1.length;simp at this
 |.own o::rs,v::vs,f::fin,Q0,B,C,h1,h2,hh=>by
  obtain⟨B1,B2,g1,g2,rfl⟩:=ag.one h1;obtain⟨D,j1,j2⟩:=IT g2 h2 hh;exact⟨D,j1,j2.trans (by rw[gz];exact .bD (mN _ _))⟩
 |.var i::rs,v::vs,f::fin,Q0,B,C,h1,h2,hh=>by
  obtain⟨B1,B2,g1,g2,rfl⟩:=ag.one h1;obtain⟨D,j1,j2⟩:=IT g2 h2 hh.2;cases f with
  |none=>
   obtain⟨D',k1,k2⟩:=ag.forget i j1;exact⟨D',k1,(aS.bD k2).trans (j2.trans (by rw[gz];exact .bD (mN _ _)))⟩
  |some o=>
   have hi:i<(qY rs fin Q0).length:=by
    rw[<-j1.length];exact(eO.mp hh.1).1
   obtain⟨D',k1,C',k2,k3⟩:=ag.put g1 i j1 hi;rw[xA hh.1] at k1;refine⟨D',k1,(aS.bV k2).trans ?_⟩;rw[gz];exact(aS.refl B1).app ((aS.bD k3).trans j2)
 |[],_::_,_,_,_,_,_,_,h=>h.elim
 |.own _::_,[],_,_,_,_,_,_,h=>h.elim
 |.var _::_,[],_,_,_,_,_,_,h=>h.elim
end
section
variable{X:Cx}{K:FG}{k n:Nat}{f:Addr}{fd:FuncData}{ps:List Str}{x:Str}{p pos:Pos}{e:Expr}{es:List Expr}{fs:GA}{st:Stmt}{M:GM}
def Ym{Z:St}{H:Hp}{Q:VK}(t:tG K (aI M fs) Z H Q)(hn:∀rs Q0 Q0',fs Q0=some (rs,Q0')->rs.length=n):qk (fL K n M) [] E0 (kb K fs) Z H Q:=by
 obtain⟨F,A,Q0,rr,Q0',k,e,w⟩:=t;unfold aI at e;cases q:fs Q0 with
 |none=>rw[q] at e;cases e
 |some pr=>
  obtain⟨rs,az⟩:=pr;rw[q] at e;dsimp only[Option.bind] at e;cases q2:oS rs az with
  |none=>rw[q2] at e;cases e
  |some pr2=>
   obtain⟨os,cu⟩:=pr2;rw[q2] at e;dsimp only at e;cases q3:M os with
   |none=>rw[q3] at e;cases e
   |some pr3=>
    obtain⟨o,fin⟩:=pr3;rw[q3] at e;cases e;refine⟨F,A,Q0,rs,az,k,q,λvs H1 pp=>?_⟩
    show fL K n M (vs++[]) H1 Q E0;rw[kZ];obtain⟨F1,A1,x,k1,hh⟩:=pp;have hl:(vs.map some).length=(rs.map R.o).length:=by rw[bz,bz,hh.length]
    obtain⟨B,C,h1,h2,h3⟩:=ag.split hl k1.os;subst h3;obtain⟨B',C',j1,j2,j3⟩:=Iw h1 h2 hh q2;have k2:OK K F1 H1 (vs.map some++Z) (os.map some++cu) (B'++C'):=.perm (j1.app j2) k1.le k1.nd k1.fr j3;obtain⟨A3,p3,k3⟩:=k2.swap j1.length;obtain⟨A4,k4,fr⟩:=k3.frame j2.length;refine⟨by rw[<-hh.length];exact hn rs Q0 az q,F1,A4,os,o,fin,k4,q3,λv H' pc=>w v H' ?_⟩
    obtain⟨F5,A5,x5,k5⟩:=pc;obtain⟨A6,x6,k6⟩:=fr _ _ _ _ _ x5 k5;obtain⟨D1,D2,g1,g2,g3⟩:=ag.split j2.length k6.os;subst g3;obtain⟨D3,D4,g4,g5,g6⟩:=g2.one;subst g6;obtain⟨D5,g7,g8⟩:=IT g5 g1 hh;have s1:aS (D3++D5) (D1++(D3++D4)):=by
     refine((aS.refl D3).app g8).trans (.bV ?_);rw[<-gz];exact qO
    obtain⟨k7,x7⟩:=k6.sub (Z':=some v::Z) (Q0':=some o::qY rs fin cu) (g4.app g7) s1;have x3:Ext F1 H1 (B++C) F1 H1 A3:=Ext.lP Ext.refl λa m=>j3.mem_iff.mp (p3.mem_iff.mp m)
    exact⟨F5,D3++D5,((x.trans x3).trans x6).trans x7,k7,iJ⟩
def dY:∀rs Q0 Q0',gN Q0=some (rs,Q0')->rs.length=0:=λrs Q0 Q0' e=>by cases e;rfl
def bf{f:GE}{g:GA}{n:Nat}(h:∀rs Q0 Q0',g Q0=some (rs,Q0')->rs.length=n):∀rs Q0 Q0',ai f g Q0=some (rs,Q0')->rs.length=n+1:=λrs Q0 Q0' e=>by
 obtain⟨r,az,Mm,_,e2,rfl⟩:=ND e;simp[h _ _ _ e2]
def eR(D:aH X.K X.mg x st f fd ps)(Fn:bR X.prog X.w X.K X.mg X.base fx k f fd ps (fL K n M))(hr:eD k X.A)(ha:PA X (e::es) (kb K fs))(hn:∀rs Q0 Q0',fs Q0=some (rs,Q0')->rs.length=n)(hg:Gl X x:=by rfl)(o7:(x == ("__debug__":Str))=false:=by decide)
  (he:starEach (e::es) X.env=(false,eval e X.env)::starEach es X.env:=by rfl) (j8:(backTo pos (starEach es X.env)).any (·.1)=false:=by rfl) :
  PE X (.Call (.Name x p) (e::es) [] pos) (tG K (aI M fs)):=(wV D Fn hr ha hg o7 he j8).mono λ_ _ _ t=>Ym t hn
end
noncomputable def j6:List O->Option (List D)
 |[]=>some []
 |.Y d::os=>(j6 os).bind λds=>some (d::ds)
 |_::_=>none
def dH:O->Option (List D)
 |.Y (.lst ds)=>some ds
 |.Y (.fK ns)=>some (ns.map .int)
 |.lst os=>j6 os
 |_=>none
def vy:O->Option (List D)
 |.Y (.tup ds)=>some ds
 |.tup os=>j6 os
 |_=>none
theorem y8:∀ds:List D,j6 (ds.map .Y)=some ds
 |[]=>rfl
 |d::ds=>by rw[cS,j6,y8 ds];rfl
theorem nq:∀ds:List D,O.dl (ds.map .Y)=ds
 |[]=>rfl
 |d::ds=>by rw[cS,O.dl,nq ds];rfl
section
variable{K:FG}{F H:Hp}{x y v:V}{o:O}{B:List Addr}{ds:List D}{d:D}{ws:List V}
theorem IU:∀{ws:List V} {os:List O} {ds:List D} {B:List Addr},ag K F H (ws.map some) (os.map some) B->j6 os=some ds->aj K F ws ds
 |[],[],_,_,_,e=>by cases e;exact .nil
 |w::ws,o::os,ds,B,h,e=>by
  obtain⟨B1,B2,h1,h2,_⟩:=ag.one h;cases o with
  |Y d=>
   unfold j6 at e;cases q:j6 os with
   |none=>rw[q] at e;cases e
   |some Kx=>
    rw[q] at e;cases e;cases h1 with
    |Y r _=>exact .cons r (IU h2 q)
  |_=>cases e
 |[],_::_,_,_,h,_=>by have:=h.length;simp at this
 |_::_,[],_,_,h,_=>by have:=h.length;simp at this
theorem Fs:∀{ws:List V} {ds:List D},aj K F ws ds->ag K F H (ws.map some) ((ds.map .Y).map some) []
 |[],[],_=>.nil
 |w::ws,d::ds,h=>.Y h.inv.1 (Fs h.inv.2)
 |[],_::_,h=>by have:=h.length;simp at this
 |_::_,[],h=>by have:=h.length;simp at this
theorem IV:∀ns:List Int,aj K F (ns.map V.int) (ns.map D.int)
 |[]=>.nil
 |n::ns=>.flat rfl (IV ns)
def vP(le:aF F H)(h:ag K F H [some x] [some o] B)(e:dH o=some ds):∃a ws,x=.ref a/\dX K H a ws/\aj K F ws ds:=by
 cases h with
 |@Y _ d _ _ _ r _=>
  cases r with
  |lst q i _=>cases e;exact⟨_,_,rfl,.inl (le.rd q),i⟩
  |exc _ _=>cases e
  |fK q _=>cases e;exact⟨_,_,rfl,le.seq q,IV _⟩
  |flat q _=>cases d <;> first|(cases q;done)|cases e
  |tup _ _ _=>cases e
  |aE _ _ _ _ _=>cases e
 |lst q i _=>exact⟨_,_,rfl,dX.of q,IU i e⟩
 |tup _ _ _=>cases e
 |aE _ _ _ _ _=>cases e
def PN(le:aF F H)(h:ag K F H [some x] [some o] B)(e:vy o=some ds):∃a ws,x=.ref a/\gL K H a ws/\aj K F ws ds:=by
 cases h with
 |@Y _ d _ _ _ r _=>
  cases r with
  |tup q i _=>cases e;exact⟨_,_,rfl,le.mK q,i⟩
  |fK q _=>cases e
  |exc _ _=>cases e
  |flat q _=>cases d <;> first|(cases q;done)|cases e
  |lst _ _ _=>cases e
  |aE _ _ _ _ _=>cases e
 |tup q i _=>exact⟨_,_,rfl,gL.of q,IU i e⟩
 |lst _ _ _=>cases e
 |aE _ _ _ _ _=>cases e
def iS(h:ag K F H [some x] [some (.Y d)] B)(e:oF d=some v):x=v:=by
 cases h with
 |Y r _=>
  cases r with
  |flat q _=>rw[e] at q;exact(Option.some.inj q).symm
  |lst _ _ _=>cases e
  |tup _ _ _=>cases e
  |aE _ _ _ _ _=>cases e
  |fK _ _=>cases e
  |exc _ _=>cases e
def pP(le:aF F H)(h:ag K F H [some x] [some o] B):aj K H [x] [o.d]:=h.rep le (λ_ _ _ e=>e) [x] [o] rfl rfl
theorem Res.lst{Q:VK}(h:Res K F H (.lst (ds.map .Y)) Q)(r:aj K F ws ds){l:Addr}(hn:H l=none):Q (.ref l) (upd H l (.lst ws)):=
 h (.ref l) _ ([l]++[]++[]) (uK hn) (.lst jt (Fs r) .nil) (by simp) (λa m=>by simp at m;rw[m];exact hn)
theorem Res.tup{Q:VK}(h:Res K F H (.tup (ds.map .Y)) Q)(r:aj K F ws ds){l:Addr}(hn:H l=none):Q (.ref l) (upd H l (.tup ws)):=
 h (.ref l) _ ([l]++[]++[]) (uK hn) (.tup jt (Fs r) .nil) (by simp) (λa m=>by simp at m;rw[m];exact hn)
def mw.one{o:O}{vs:List V}(h:mw K F H vs [o]):∃x B,vs=[x]/\ag K F H [some x] [some o] B:=by
 cases h with
 |cons a t=>cases t;obtain⟨B,a⟩:=a;exact⟨_,B,rfl,a⟩
def mw.two{o o':O}{vs:List V}(h:mw K F H vs [o,o']):∃x y B C,vs=[x,y]/\ag K F H [some x] [some o] B/\ag K F H [some y] [some o'] C:=by
 cases h with
 |cons a t=>cases t with
  |cons b t=>cases t;obtain⟨B,a⟩:=a;obtain⟨C,b⟩:=b;exact⟨_,_,B,C,rfl,a,b⟩
end
section
variable{X:Cx}
def tI(K:FG):R2:=λx y H Q=>∃l b xs zs,x=.ref l/\y=.ref b/\dX K H l xs/\dX K H b zs/\xs.length+zs.length<=sizeLine/\∀p,H p=none->Q (.ref p) (upd H p (.lst (xs++zs)))
def Yn:gd X (binaryOp .Add) (tI X.K):=by
 intro ae s Z H x y v u Q I rx ry h;obtain⟨l,b,xs,zs,rfl,rfl,hH,hB,hz,q⟩:=h;cases rx;cases ry;obtain⟨ay,r,pl,_⟩:=I.list hH;obtain⟨kR,r2,Mh,_⟩:=I.list hB;have hl:=r.length;have Ly:=r2.length;obtain⟨⟨cls,dd,data,sl⟩,ho,hc,n,hd⟩:=id pl.isList;obtain⟨⟨cls2,CF,data2,sl2⟩,Hj,Sy,n2,hd2⟩:=id Mh.isList;simp only at hc hd Sy hd2;subst hc hd Sy hd2;have ea:ay.toArray++kR.toArray=(ay++kR).toArray:=by simp
 refine concat_meets ⟨_,ho,rfl⟩ ⟨_,Hj,rfl⟩ noFill_list_add seq_list_add PySem.F.slot_list_add PySem.F.entry_list_add (PySem.F.args_list_add_2 _ _) (list_addW l b ay.toArray kR.toArray n n2 dd CF sl sl2 (by simp only[fH];lia)) ⟨ho,Hj,?_⟩
 rw[ea];exact⟨.ref _,_,I.L5 (t':=s.toks) (r.append r2) (by rw[dy];lia),rfl,q _ I.fresh⟩
def WE(K:FG)(hK:X.K=K:=by rfl):gd X (binaryOp .Add) (tI K):=hK ▸ Yn
def uV:O->O->Option (Option O)
 |.Y (.int i),.Y (.int j)=>some (some (.Y (.int (i+j))))
 |.Y (.str x),.Y (.str y)=>some (if x.length+y.length<=1000000 then some (.Y (.str (x++y))) else none)
 |_,_=>none
def b_:List O->Option O
 |[a,b]=>match uV a b with
  |some r=>r
  |none=>(dH a).bind λxs=>(dH b).bind λys=>if xs.length+ys.length<=1000000 then some (.lst ((xs++ys).map .Y)) else none
 |_=>none
def wX(K:FG):R2:=λx y H Q=>rD (λi j=>.int (i+j)) x y H Q\/(∃i j,x=.str i/\y=.str j/\i.length+j.length<=sizeLine/\Q (.str (i++j)) H)\/tI K x y H Q
def gM(K:FG)(hK:X.K=K:=by rfl):gd X (binaryOp .Add) (wX K):=yG.or (pk.or (WE K hK))
def ml{n:Nat}(h:n<=1000000):n<=sizeLine:=lT h (by decide)
def gP{K:FG}:cM K (mV (wX K)) b_:=by
 intro F H vs os o Q le eY e res;unfold b_ at e;split at e
 .rename_i a b
  obtain⟨x,y,B,C,rfl,h1,h2⟩:=eY.two;split at e
  .rename_i r q
   unfold uV at q;split at q
   .cases q;cases e;cases iS h1 rfl;cases iS h2 rfl;exact⟨_,_,rfl,.inl ⟨_,_,rfl,rfl,res.flat rfl⟩⟩
   .cases q;split at e
    .cases e;cases iS h1 rfl;cases iS h2 rfl;exact⟨_,_,rfl,.inr (.inl ⟨_,_,rfl,rfl,ml (by assumption),res.flat rfl⟩)⟩
    .cases e
   .cases q
  .cases q1:dH a with
   |none=>rw[q1] at e;cases e
   |some xs=>
    rw[q1] at e;cases q2:dH b with
    |none=>rw[q2] at e;cases e
    |some ys=>
     rw[q2] at e;dsimp only[Option.bind] at e;split at e
     .cases e;obtain⟨a1,MI,rfl,s1,r1⟩:=vP le h1 q1;obtain⟨a2,EA,rfl,s2,r2⟩:=vP le h2 q2;refine⟨_,_,rfl,.inr (.inr ⟨a1,a2,MI,EA,rfl,rfl,s1,s2,ml (by rw[r1.length,r2.length];assumption),λp hp=>res.lst (r1.append r2) hp⟩)⟩
     .cases e
 .cases e
noncomputable def n6(C:Int->Int->Bool)(f:Int->Int->D):List O->Option O
 |[.Y (.int i),.Y (.int j)]=>if C i j=true then some (.Y (f i j)) else none
 |_=>none
def BP{K:FG}{r:R2}{C:Int->Int->Bool}{f:Int->Int->D}{g:Int->Int->V}(hf:∀i j,oF (f i j)=some (g i j))(hr:∀i j H Q,C i j=true->Q (g i j) H->r (.int i) (.int j) H Q):cM K (mV r) (n6 C f):=by
 intro F H vs os o Q le eY e res;unfold n6 at e;split at e
 .split at e
  .cases e;obtain⟨x,y,B,C,rfl,h1,h2⟩:=eY.two;cases iS h1 rfl;cases iS h2 rfl;exact⟨_,_,rfl,hr _ _ _ _ (by assumption) (res.flat (hf _ _))⟩
  .cases e
 .cases e
abbrev qK:=n6 (λ_ _=>true) λi j=>.int (i - j)
abbrev l6:=n6 (λ_ j=>decide (0<j/\j<1073741824)) λi j=>.int (i / j)
abbrev oMod:=n6 (λ_ j=>decide (0<j)) λi j=>.int (i%j)
abbrev oLt:=n6 (λ_ _=>true) λi j=>.bl (decide (i<j))
abbrev sX:=n6 (λ_ _=>true) λi j=>.bl (decide (j<i))
def BQ{K:FG}:cM K (mV (rD λi j=>.int (i - j))) qK:=BP (λ_ _=>rfl) λ_ _ _ _ _ q=>⟨_,_,rfl,rfl,q⟩
def Bu{K:FG}:cM K (mV (rI xk λi j=>.int (i / j))) l6:=BP (λ_ _=>rfl) λi j _ _ c q=>⟨_,_,rfl,rfl,show xk i j from vJ (p:=0<j/\j<1073741824) c,q⟩
def ue{K:FG}:cM K (mV (rI (λ_ j=>0<j) λi j=>.int (i%j))) oMod:=BP (λ_ _=>rfl) λ_ _ _ _ c q=>⟨_,_,rfl,rfl,vJ c,q⟩
def B9{K:FG}:cM K (mV (rD λi j=>.bl (decide (i<j)))) oLt:=BP (λ_ _=>rfl) λ_ _ _ _ _ q=>⟨_,_,rfl,rfl,q⟩
def wg{K:FG}:cM K (mV (rD λi j=>.bl (decide (j<i)))) sX:=BP (λ_ _=>rfl) λ_ _ _ _ _ q=>⟨_,_,rfl,rfl,q⟩
end
instance (z:Str) (n:Int):Decidable (MulOk z n):=by unfold MulOk;infer_instance
section
variable{X:Cx}
def DH(j:Int):O->Option O
 |.Y (.int i)=>if(-(2^64)<i/\i<2^64)\/(-(2^64)<j/\j<2^64) then some (.Y (.int (i*j))) else none
 |.Y (.str z)=>if MulOk z j then some (.Y (.str (Txt.mul z j))) else none
 |_=>none
def gv:List O->Option O
 |[a,.Y (.int j)]=>DH j a
 |_=>none
def wZ:R2:=λx y H Q=>rI uB (λi j=>.int (i*j)) x y H Q\/∃z n,x=.str z/\y=.int n/\MulOk z n/\Q (.str (Txt.mul z n)) H
def vX:gd X (binaryOp .Mult) wZ:=yH.or UL
def v8{K:FG}:cM K (mV wZ) gv:=by
 intro F H vs os o Q le eY e res;unfold gv at e;split at e
 .obtain⟨x,y,B,C,rfl,h1,h2⟩:=eY.two;unfold DH at e;split at e
  .split at e
   .cases e;cases iS h1 rfl;cases iS h2 rfl;exact⟨_,_,rfl,.inl ⟨_,_,rfl,rfl,by assumption,res.flat rfl⟩⟩
   .cases e
  .split at e
   .cases e;cases iS h1 rfl;cases iS h2 rfl;exact⟨_,_,rfl,.inr ⟨_,_,rfl,rfl,by assumption,res.flat rfl⟩⟩
   .cases e
  .cases e
 .cases e
def sY:List O->Option O
 |[.Y (.int i)]=>some (.Y (.int (-i)))
 |_=>none
def Q3{K:FG}:cM K (Mi (rU λi=>.int (-i))) sY:=by
 intro F H vs os o Q le eY e res;unfold sY at e;split at e
 .cases e;obtain⟨x,B,rfl,h1⟩:=eY.one;cases iS h1 rfl;exact⟨_,rfl,_,rfl,res.flat rfl⟩
 .cases e
mutual
noncomputable def aU:D->D->Bool
 |.lst xs,.lst ys=>eU xs ys
 |.tup xs,.tup ys=>eU xs ys
 |.bH,.bH=>true
 |.bl a,.bl b=>a == b
 |.bl a,.int b=>(if a then 1 else 0) == b
 |.int a,.bl b=>a == (if b then 1 else 0)
 |.int a,.int b=>a == b
 |.str a,.str b=>a == b
 |_,_=>false
noncomputable def eU:List D->List D->Bool
 |[],[]=>true
 |x::xs,y::ys=>aU x y&&eU xs ys
 |_,_=>false
end
def cQ:Nat->D->Bool
 |n+1,.lst xs=>xs.all (cQ n)
 |n+1,.tup xs=>xs.all (cQ n)
 |_,.bH=>true
 |_,.bl _=>true
 |_,.int _=>true
 |_,.str _=>true
 |_,_=>false
theorem Bm:∀{xs ys:List D},xs.length≠ys.length->eU xs ys=false
 |[],[],h=>bQ rfl h
 |[],_::_,_=>by unfold eU;rfl
 |_::_,[],_=>by unfold eU;rfl
 |x::xs,y::ys,h=>by unfold eU;rw[Bm (by simpa using h),Ao]
theorem Bn:∀{xs ys:List D} (n:Nat),xs.length=n->ys.length=n->eU xs ys=(List.range n).all λj=>aU (xs.getD j .bH) (ys.getD j .bH)
 |[],[],0,_,_=>by unfold eU;rfl
 |x::xs,y::ys,n+1,h1,h2=>by
  unfold eU;rw[Bn n (by simpa using h1) (by simpa using h2),List.range_succ_eq_map,rH,List.all_map]
  rfl
 |[],_,_+1,h,_=>by simp at h
 |_::_,[],_+1,_,h=>by simp at h
 |_::_,_,0,h,_=>by simp at h
 |[],_::_,0,_,h=>by simp at h
variable{ae:List (Addr×Obj)}{Z:St}{H:Hp}{s:Shared}
def v9{K:FG}{F:Hp}{ws:List V}{es:List D}(r:aj K F ws es){ay:List Value}(rv:Vals ws ay){j:Nat}(h:j<ay.toArray.size):∃x,RelV x ay.toArray[j]/\aj K F [x] [es.getD j .bH]/\j<es.length:=by
 obtain⟨x,hx,rx⟩:=rv.at h;have hl:=r.length;have hj:j<es.length:=by
  have:=(eO.mp hx).1;lia
 obtain⟨y,hy,ry⟩:=r.get (i:=j) (d:=es[j]) (by simp[hj])
 rw[hx] at hy;cases hy;refine⟨x,rx,?_,hj⟩;rw[show es.getD j .bH=es[j] by simp[hj]]
 exact ry
def vQ{p:D->Bool}{es:List D}(h:es.all p=true){j:Nat}(hj:j<es.length):p (es.getD j .bH)=true:=by
 rw[show es.getD j .bH=es[j] by simp[hj]]
 exact lB.mp h _ (xh hj)
inductive xt (K:FG) (H:Hp) (s:Shared):Value->D->Prop
 |none:xt K H s .none .bH
 |bool (b:Bool):xt K H s (.bool b) (.bl b)
 |int (i:Int) (t:Tok):xt K H s (.int i t) (.int i)
 |str (x:Str) (t:Tok):xt K H s (.str x t) (.str x)
 |list {a:Addr} {ay:List Value} {ws:List V} {es:List D}:s.heap.IsList a ay.toArray->Vals ws ay->aj K H ws es->xt K H s (.ref a) (.lst es)
 |tuple {a:Addr} {ay:List Value} {ws:List V} {es:List D}:s.heap.IsTuple a ay.toArray->Vals ws ay->aj K H ws es->xt K H s (.ref a) (.tup es)
def Gr(I:Inv X ae Z H s){n:Nat}{x:V}{u:Value}{d:D}(r:aj X.K H [x] [d])(ru:RelV x u)(ok:cQ n d=true):xt X.K H s u d:=by
 cases r with
 |lst q i _=>
  cases ru;obtain⟨ay,rv,pl,_⟩:=I.list (.inl q);exact .list pl.isList rv i
 |tup q i _=>
  cases ru;obtain⟨ay,rv,pl,_⟩:=I.tuple q;exact .tuple pl rv i
 |aE _ _ _ _ _=>cases n <;> cases ok
 |fK _ _=>cases n <;> cases ok
 |exc _ _=>cases n <;> cases ok
 |flat q _=>
  cases d with
  |bH=>cases q;cases ru;exact .none
  |bl b=>cases q;cases ru;exact .bool b
  |int i=>cases q;obtain⟨t,rfl⟩:=ru;exact .int i t
  |str z=>cases q;obtain⟨t,rfl⟩:=ru;exact .str z t
  |ty _=>cases n <;> cases ok
  |lst _=>cases q
  |tup _=>cases q
  |aE _=>cases q
  |fK _=>cases q
  |exc _ _=>cases q
def ze{n:Nat}{es:List D}(h:cQ n (.lst es)=true):∃m,n=m+1/\es.all (cQ m)=true:=by
 cases n with
 |zero=>cases h
 |succ n=>exact⟨n,rfl,h⟩
def zf{n:Nat}{es:List D}(h:cQ n (.tup es)=true):∃m,n=m+1/\es.all (cQ m)=true:=by
 cases n with
 |zero=>cases h
 |succ n=>exact⟨n,rfl,h⟩
def Od{es:List D}(h:∀d∈es,aU d d=true):eU es es=true:=by
 induction es with
 |nil=>unfold eU;rfl
 |cons d es ih=>unfold eU;rw[h d (by simp),ih λd m=>h d (by simp[m])];rfl
def IW:∀(n:Nat) {d:D},cQ n d=true->aU d d=true:=by
 intro n
 induction n with
 |zero=>intro d h;cases d <;> first|(cases h;done)|simp[aU]
 |succ n ih=>
  intro d h;cases d with
  |lst es=>simp only[aU];exact Od λd m=>ih (lB.mp h d m)
  |tup es=>simp only[aU];exact Od λd m=>ih (lB.mp h d m)
  |aE _=>cases h
  |fK _=>cases h
  |exc _ _=>cases h
  |ty _=>cases h
  |_=>simp[aU]
def Us{xs ys:List D}(hl:xs.length=ys.length)(h:∀j,j<xs.length->xs.getD j .bH=ys.getD j .bH):xs=ys:=by
 apply List.ext_getElem hl;intro j h1 h2;have:=h j h1;simpa[h1,h2] using this
def MD:V->D
 |.bl b=>.bl b
 |.int i=>.int i
 |.str x=>.str x
 |.ty n=>.ty n
 |_=>.bH
def Oe{d:D}{v:V}(h:oF d=some v):d=MD v:=by cases d <;> cases h <;> rfl
def xB{d:D}{a:Addr}(h:oF d=some (.ref a)):False:=by cases d <;> cases h
def Bw(I:Inv X ae Z H s):∀(n m:Nat) {x:V} {d e:D},aj X.K H [x] [d]->aj X.K H [x] [e]->cQ n d=true->cQ m e=true->d=e:=by
 intro n
 induction n using Nat.strongRecOn with
 |ind n ih=>
 intro m x d e rd re od oe;have go:∀{ws:List V} {es lW:List D} {n' m':Nat},n'<n->aj X.K H ws es->aj X.K H ws lW->es.all (cQ n')=true->lW.all (cQ m')=true->es=lW:=by
  intro ws es lW n' m' hn r1 r2 o1 o2;have l1:=r1.length;have l2:=r2.length;refine Us (by lia) λj hj=>?_
  have Lw:j<lW.length:=by lia
  obtain⟨v,g1,g2⟩:=r1.get (i:=j) (d:=es[j]) (by simp[hj])
  obtain⟨v',p1,p2⟩:=r2.get (i:=j) (d:=lW[j]) (by simp[Lw])
  rw[g1] at p1;cases p1;rw[show es.getD j .bH=es[j] by simp[hj],show lW.getD j .bH=lW[j] by simp[Lw]]
  exact ih n' hn m' g2 p2 (lB.mp o1 _ (xh hj)) (lB.mp o2 _ (xh Lw))
 cases rd with
 |flat q _=>
  cases re with
  |flat q' _=>
   rw[Oe q,Oe q']
  |lst _ _ _=>exact(xB q).elim
  |tup _ _ _=>exact(xB q).elim
  |aE _ _ _ _ _=>exact(xB q).elim
  |fK _ _=>exact(xB q).elim
  |exc _ _=>exact(xB q).elim
 |lst q i _=>
  obtain⟨n',rfl,sZ⟩:=ze od;cases re with
  |flat q' _=>exact(xB q').elim
  |lst q' i' _=>
   obtain⟨m',rfl,s9⟩:=ze oe;cases I.nX (.inl q) (.inl q');rw[go (Am _) i i' sZ s9]
  |tup q' i' _=>
   obtain⟨_,_,p1,_⟩:=I.list (.inl q);obtain⟨_,_,p2,_⟩:=I.tuple q';exact bQ rfl (SeqAt.ne_of_list_tuple p1.isList p2)
  |aE _ _ _ _ _=>cases m <;> cases oe
  |fK _ _=>cases m <;> cases oe
  |exc _ _=>cases m <;> cases oe
 |tup q i _=>
  obtain⟨n',rfl,sZ⟩:=zf od;cases re with
  |flat q' _=>exact(xB q').elim
  |tup q' i' _=>
   obtain⟨m',rfl,s9⟩:=zf oe;cases I.mj q q';rw[go (Am _) i i' sZ s9]
  |lst q' i' _=>
   obtain⟨_,_,p1,_⟩:=I.list (.inl q');obtain⟨_,_,p2,_⟩:=I.tuple q;exact bQ rfl (SeqAt.ne_of_list_tuple p1.isList p2)
  |aE _ _ _ _ _=>cases m <;> cases oe
  |fK _ _=>cases m <;> cases oe
  |exc _ _=>cases m <;> cases oe
 |aE _ _ _ _ _=>cases n <;> cases od
 |fK _ _=>cases n <;> cases od
 |exc _ _=>cases n <;> cases od
def zq(I:Inv X ae Z H s):∀(n m:Nat) {A:Around} {x y:V} {u v:Value} {d e:D},aj X.K H [x] [d]->aj X.K H [y] [e]->cQ n d=true->cQ m e=true->RelV x u->RelV y v->A.units+n<cLine->
  SeqAt.EqAt A s u v (aU d e)/\SeqAt.RcAt A s u v (aU d e):=by
 intro n
 induction n using Nat.strongRecOn with
 |ind n ih=>
 intro m A x y u v d e rd re od oe ru rv hu;have dE:A.units<cLine:=by lia
 have s1:=Gr I rd ru od;have s2:=Gr I re rv oe;cases s1 with
 |none=>
  cases s2 with
  |none=>
   exact⟨SeqAt.EqAt.same _,SeqAt.RcAt.none_none⟩
  |bool a2=>
   simp only[aU];exact⟨SeqAt.EqAt.none_bool a2,SeqAt.RcAt.none_bool a2⟩
  |int a2 t2=>
   simp only[aU];exact⟨SeqAt.EqAt.none_int a2 t2,SeqAt.RcAt.none_int a2 t2⟩
  |str a2 t2=>
   simp only[aU];exact⟨SeqAt.EqAt.none_str a2 t2,SeqAt.RcAt.none_str a2 t2⟩
  |list l2 v2 r2=>
   simp only[aU];exact⟨SeqAt.EqAt.none_list l2 dE,SeqAt.RcAt.none_list l2 dE⟩
  |tuple l2 v2 r2=>
   simp only[aU];exact⟨SeqAt.EqAt.none_tuple l2 dE,SeqAt.RcAt.none_tuple l2 dE⟩
 |bool a1=>
  cases s2 with
  |none=>
   simp only[aU];exact⟨SeqAt.EqAt.bool_none a1,SeqAt.RcAt.bool_none a1⟩
  |bool a2=>
   simp only[aU];exact⟨SeqAt.EqAt.bool_bool a1 a2,SeqAt.RcAt.bool_bool a1 a2⟩
  |int a2 t2=>
   simp only[aU];exact⟨SeqAt.EqAt.bool_int a1 a2 t2,SeqAt.RcAt.bool_int a1 a2 t2⟩
  |str a2 t2=>
   simp only[aU];exact⟨SeqAt.EqAt.bool_str a1 a2 t2,SeqAt.RcAt.bool_str a1 a2 t2⟩
  |list l2 v2 r2=>
   simp only[aU];exact⟨SeqAt.EqAt.bool_list a1 l2 dE,SeqAt.RcAt.bool_list a1 l2 dE⟩
  |tuple l2 v2 r2=>
   simp only[aU];exact⟨SeqAt.EqAt.bool_tuple a1 l2 dE,SeqAt.RcAt.bool_tuple a1 l2 dE⟩
 |int a1 t1=>
  cases s2 with
  |none=>
   simp only[aU];exact⟨SeqAt.EqAt.int_none a1 t1,SeqAt.RcAt.int_none a1 t1⟩
  |bool a2=>
   simp only[aU];exact⟨SeqAt.EqAt.int_bool a1 t1 a2,SeqAt.RcAt.int_bool a1 t1 a2⟩
  |int a2 t2=>
   simp only[aU];exact⟨SeqAt.EqAt.int_int a1 t1 a2 t2,SeqAt.RcAt.int_int a1 t1 a2 t2⟩
  |str a2 t2=>
   simp only[aU];exact⟨SeqAt.EqAt.int_str a1 t1 a2 t2,SeqAt.RcAt.int_str a1 t1 a2 t2⟩
  |list l2 v2 r2=>
   simp only[aU];exact⟨SeqAt.EqAt.int_list a1 t1 l2 dE,SeqAt.RcAt.int_list a1 t1 l2 dE⟩
  |tuple l2 v2 r2=>
   simp only[aU];exact⟨SeqAt.EqAt.int_tuple a1 t1 l2 dE,SeqAt.RcAt.int_tuple a1 t1 l2 dE⟩
 |str a1 t1=>
  cases s2 with
  |none=>
   simp only[aU];exact⟨SeqAt.EqAt.str_none a1 t1,SeqAt.RcAt.str_none a1 t1⟩
  |bool a2=>
   simp only[aU];exact⟨SeqAt.EqAt.str_bool a1 t1 a2,SeqAt.RcAt.str_bool a1 t1 a2⟩
  |int a2 t2=>
   simp only[aU];exact⟨SeqAt.EqAt.str_int a1 t1 a2 t2,SeqAt.RcAt.str_int a1 t1 a2 t2⟩
  |str a2 t2=>
   simp only[aU];exact⟨SeqAt.EqAt.str_str a1 t1 a2 t2,SeqAt.RcAt.str_str a1 t1 a2 t2⟩
  |list l2 v2 r2=>
   simp only[aU];exact⟨SeqAt.EqAt.str_list a1 t1 l2 dE,SeqAt.RcAt.str_list a1 t1 l2 dE⟩
  |tuple l2 v2 r2=>
   simp only[aU];exact⟨SeqAt.EqAt.str_tuple a1 t1 l2 dE,SeqAt.RcAt.str_tuple a1 t1 l2 dE⟩
 |list l1 v1 r1=>
  cases s2 with
  |none=>
   simp only[aU];exact⟨SeqAt.EqAt.list_none l1 dE,SeqAt.RcAt.list_none l1 dE⟩
  |bool a2=>
   simp only[aU];exact⟨SeqAt.EqAt.list_bool a2 l1 dE,SeqAt.RcAt.list_bool a2 l1 dE⟩
  |int a2 t2=>
   simp only[aU];exact⟨SeqAt.EqAt.list_int a2 t2 l1 dE,SeqAt.RcAt.list_int a2 t2 l1 dE⟩
  |str a2 t2=>
   simp only[aU];exact⟨SeqAt.EqAt.list_str a2 t2 l1 dE,SeqAt.RcAt.list_str a2 t2 l1 dE⟩
  |list l2 v2 r2=>
   rename_i a ay ws es b kR EA lW
   obtain⟨n',rfl,sZ⟩:=ze od;obtain⟨m',rfl,s9⟩:=ze oe;have la:=v1.length;have lb:=v2.length;have LY:=r1.length;have LZ:=r2.length;have rc:SeqAt.RcAt A s (.ref a) (.ref b) (aU (.lst es) (.lst lW)):=by
    simp only[aU];by_cases hl:es.length=lW.length
    .rw[Bn ay.toArray.size (by simp only[fH];lia) (by simp only[fH];lia)]
     refine SeqAt.RcAt.lists (A:=A) l1 l2 (by simp only[fH];lia) dE λj h1 h2=>?_
     obtain⟨x1,q1,q2,q3⟩:=v9 r1 v1 h1;obtain⟨y1,p1,p2,p3⟩:=v9 r2 v2 h2;exact(ih n' (Am _) m' q2 p2 (vQ sZ q3) (vQ s9 p3) q1 p1 (by show A.units+1+n'<cLine;lia)).1
    .rw[Bm hl];exact SeqAt.RcAt.lists_lengths (A:=A) l1 l2 (by simp only[fH,bne_iff_ne,ne_eq];lia) dE
   refine⟨?_,rc⟩;by_cases j7:a=b
   .subst j7;have K4:x=y:=RelV.inj ru rv;subst K4;have e2:=Bw I _ _ rd re od oe;cases e2;rw[IW _ od];exact SeqAt.EqAt.same _
   .exact SeqAt.EqAt.of_refs j7 rc
  |tuple l2 v2 r2=>
   simp only[aU];exact⟨SeqAt.EqAt.list_tuple l1 l2 dE,SeqAt.RcAt.list_tuple l1 l2 dE⟩
 |tuple l1 v1 r1=>
  cases s2 with
  |none=>
   simp only[aU];exact⟨SeqAt.EqAt.tuple_none l1 dE,SeqAt.RcAt.tuple_none l1 dE⟩
  |bool a2=>
   simp only[aU];exact⟨SeqAt.EqAt.tuple_bool a2 l1 dE,SeqAt.RcAt.tuple_bool a2 l1 dE⟩
  |int a2 t2=>
   simp only[aU];exact⟨SeqAt.EqAt.tuple_int a2 t2 l1 dE,SeqAt.RcAt.tuple_int a2 t2 l1 dE⟩
  |str a2 t2=>
   simp only[aU];exact⟨SeqAt.EqAt.tuple_str a2 t2 l1 dE,SeqAt.RcAt.tuple_str a2 t2 l1 dE⟩
  |list l2 v2 r2=>
   simp only[aU];exact⟨SeqAt.EqAt.tuple_list l1 l2 dE,SeqAt.RcAt.tuple_list l1 l2 dE⟩
  |tuple l2 v2 r2=>
   rename_i a ay ws es b kR EA lW
   obtain⟨n',rfl,sZ⟩:=zf od;obtain⟨m',rfl,s9⟩:=zf oe;have la:=v1.length;have lb:=v2.length;have LY:=r1.length;have LZ:=r2.length;have rc:SeqAt.RcAt A s (.ref a) (.ref b) (aU (.tup es) (.tup lW)):=by
    have z:=SeqAt.RcAt.tuples (A:=A) (e:=λj=>aU (es.getD j .bH) (lW.getD j .bH)) l1 l2 dE λj h1 h2=>by
     obtain⟨x1,q1,q2,q3⟩:=v9 r1 v1 h1;obtain⟨y1,p1,p2,p3⟩:=v9 r2 v2 h2;exact(ih n' (Am _) m' q2 p2 (vQ sZ q3) (vQ s9 p3) q1 p1 (by show A.units+1+n'<cLine;lia)).1
    simp only[aU];by_cases hl:es.length=lW.length
    .rw[Bn ay.toArray.size (by simp only[fH];lia) (by simp only[fH];lia)]
     have e1:kR.toArray.size=ay.toArray.size:=by simp only[fH];lia
     rw[e1,MW,pJ,HQ] at z;exact z
    .rw[Bm hl];have e1:(ay.toArray.size == kR.toArray.size)=false:=by rw[pK];simp only[fH];lia
     rw[e1,Ao] at z;exact z
   refine⟨?_,rc⟩;by_cases j7:a=b
   .subst j7;have K4:x=y:=RelV.inj ru rv;subst K4;have e2:=Bw I _ _ rd re od oe;cases e2;rw[IW _ od];exact SeqAt.EqAt.same _
   .exact SeqAt.EqAt.of_refs j7 rc
end
mutual
theorem zg:∀k j:TK,aU k.d j.d=decide (k=j)
 |.inl a,.inl b=>by simp only[TK.d,aU];rw[tT];simp
 |.inr a,.inr b=>by simp only[TK.d,aU];rw[tT];simp
 |.tp l,.tp m=>by simp only[TK.d,aU];rw[nI l m,tT];simp
 |.inl _,.inr _=>by simp[TK.d,aU]
 |.inl _,.tp _=>by simp[TK.d,aU]
 |.inr _,.inl _=>by simp[TK.d,aU]
 |.inr _,.tp _=>by simp[TK.d,aU]
 |.tp _,.inl _=>by simp[TK.d,aU]
 |.tp _,.inr _=>by simp[TK.d,aU]
theorem nI:∀l m:List TK,eU (TK.dl l) (TK.dl m)=decide (l=m)
 |[],[]=>by simp[TK.dl,eU]
 |a::l,b::m=>by simp only[TK.dl,eU];rw[zg a b,nI l m,tT];simp
 |[],_::_=>by simp[TK.dl,eU]
 |_::_,[]=>by simp[TK.dl,eU]
end
theorem Q4:∀l:List TK,TK.dl l=l.map TK.d
 |[]=>by simp[TK.dl]
 |a::l=>by simp[TK.dl,Q4 l]
theorem t_:∀(n:Nat) {k:TK},k.ok n=true->cQ n k.d=true
 |n,.inl i,_=>by cases n <;> simp[TK.d,cQ]
 |n,.inr i,_=>by cases n <;> simp[TK.d,cQ]
 |0,.tp l,h=>by simp[TK.ok] at h
 |n+1,.tp l,h=>by
  simp only[TK.d,cQ,Q4,List.all_map];refine lB.mpr λa m=>?_
  exact t_ n (lB.mp (by simpa only[TK.ok] using h) a m)
def Vo{α:Type}{M:Model}{A:Around}{E:Value->Shared->Prop}{s:Shared}{c:Prop}[Decidable c]{a b:Sem α}{Q:α->Shared->Prop}(h1:wpAny M A a Q E s)(h2:wpAny M A b Q E s):wpAny M A (if c then a else b) Q E s:=by
 split
 .exact h1
 .exact h2
theorem Nl(w:World):∀l m:List TK,TK.fw w (l++m)=TK.fw w l++TK.fw w m
 |[],m=>by simp[TK.fw]
 |a::l,m=>by simp[TK.fw,Nl w l m]
theorem Iy{α β:Type}{R:α->β->Prop}:∀{l:List α} {m:List β} (i:Nat) {b:β},Paired R l m->m[i]?=some b->∃a,l[i]?=some a/\R a b
 |_,_,_,_,.nil,e=>by simp at e
 |_,_,0,_,.cons r _,e=>by simp at e;subst e;exact⟨_,rfl,r⟩
 |_,_,i+1,_,.cons _ t,e=>by
  obtain⟨a,h1,h2⟩:=Iy i t (by simpa using e)
  exact⟨a,by simpa using h1,h2⟩
theorem y7{α β:Type}{R:α->β->Prop}:∀{l:List α} {m:List β} (i:Nat) {a:α},Paired R l m->l[i]?=some a->∃b,m[i]?=some b/\R a b
 |_,_,_,_,.nil,e=>by simp at e
 |_,_,0,_,.cons r _,e=>by simp at e;subst e;exact⟨_,rfl,r⟩
 |_,_,i+1,_,.cons _ t,e=>by
  obtain⟨a,h1,h2⟩:=y7 i t (by simpa using e)
  exact⟨a,by simpa using h1,h2⟩
section
variable{X:Cx}{ae:List (Addr×Obj)}{Z:St}{H:Hp}
def PQ{A:Around}{E:Value->Shared->Prop}{s:Shared}{y:V}{u:Value}{i:Int}{Q:Int->Shared->Prop}(r:aj X.K H [y] [TK.d (.inl i)])(ru:RelV y u)(h:∀t,Q (TK.hash X.w (.inl i)) { s with toks:=t}):wpAny (model X.prog X.w) A (pyHash u) Q E s:=by
 simp only[TK.d] at r;cases r with
 |flat q _=>cases q;obtain⟨t,rfl⟩:=ru;exact wpAny_pyHash_int (by simpa only[TK.hash] using h _)
def PR{A:Around}{E:Value->Shared->Prop}{s:Shared}{y:V}{u:Value}{i:Str}{Q:Int->Shared->Prop}(r:aj X.K H [y] [TK.d (.inr i)])(ru:RelV y u)(h:∀t,Q (TK.hash X.w (.inr i)) { s with toks:=t}):wpAny (model X.prog X.w) A (pyHash u) Q E s:=by
 simp only[TK.d] at r;cases r with
 |flat q _=>cases q;obtain⟨t,rfl⟩:=ru;exact wpAny_pyHash_str (by simpa only[TK.hash] using h _)
def IX:∀(n:Nat) {A:Around} {E:Value->Shared->Prop} {s:Shared} {y:V} {u:Value} {k:TK} {Q:Int->Shared->Prop},Inv X ae Z H s->aj X.K H [y] [k.d]->k.ok n=true->RelV y u->A.units+n<cLine->
  (∀t,Q (k.hash X.w) { s with toks:=t})->wpAny (model X.prog X.w) A (pyHash u) Q E s:=by
 intro n
 induction n with
 |zero=>
  intro A E s y u k Q I r ok ru hu h;cases k with
  |tp l=>simp[TK.ok] at ok
  |inl i=>exact PQ r ru h
  |inr x=>exact PR r ru h
 |succ n ih=>
  intro A E s y u k Q I r ok ru hu h;cases k with
  |inl i=>exact PQ r ru h
  |inr x=>exact PR r ru h
  |tp l=>
   simp only[TK.d] at r;cases r with
   |flat q _=>cases q
   |@tup a ws _ _ _ q i _=>
    cases ru;obtain⟨ay,rv,pl,_⟩:=I.tuple q;have hT:s.TypeIs (.ref a) "tuple":=pl.typeIs;obtain⟨o,g1,g2,nn,g3⟩:=pl;have ok:l.all (TK.ok n)=true:=by simpa only[TK.ok] using ok
    show wpAny _ _ (pyHashByItsType (.ref a)) Q E s;unfold pyHashByItsType;refine aB (wpAny_cRoomFor_or (.inr (by lia)) (aB (wpAny_specialOf hT F.slot_tuple_hash.lookup ?_)))
    dsimp only;rw[aQ (by rw[beq_builtin_none];exact mY)]
    refine aB (wpAny_specialOf hT F.slot_tuple_hash.lookup (aB ?_));refine wpAny_callSpecialIfBoundUnlessNone?_slot hT F.slot_tuple_hash (wpAny_call_entry F.slot_tuple_hash hT F.entry_tuple_hash ?_ (F.args_tuple_hash_1 _));show wpAny _ _ (Builtin.Tuple.tupleItemsOf (.ref a) >>= λz=>_) _ _ s
    refine aB (wpAny_tupleItemsOf g1 g3 (aB ?_));rw[<-MX];refine wpAny_forIn_list _ (λrest (b:Array Int) s'=>∃done left wl t,l=done++left/\aj X.K H wl (TK.dl left)/\Vals wl rest/\b.toList=TK.fw X.w done/\s'={ s with toks:=t}) _ ?_ ?_ _ _ ⟨[],l,ws,s.toks,rfl,i,rv,by simp[TK.fw],rfl⟩
    .rintro x rest b s' ⟨done,left,wl,t,e,r',v',hb,rfl⟩;cases v' with
     |@cons w1 _ wl _ yQ v'=>
      cases left with
      |nil=>have:=r'.length;simp[TK.dl] at this
      |cons k1 left=>
       simp only[TK.dl] at r';have yE:k1.ok n=true:=lB.mp ok k1 (by rw[e];simp)
       have fin:∀t',∃wt dP To t'',l=wt++dP/\aj X.K H To (TK.dl dP)/\Vals To rest/\(b.push (k1.hash X.w)).toList=TK.fw X.w wt/\({ s with toks:=t'}:Shared)={ s with toks:=t''}:=
        λt'=>⟨done++[k1],left,wl,t',by simp[e],r'.inv.2,v',by rw[Nl,<-hb];simp[TK.fw],rfl⟩
       exact aB (ih (I.tok t) r'.inv.1 yE yQ (by show A.units+1+n<cLine;lia) λt'=>by
        first
         |exact bh (fin t')
         |exact aB (bh (bh (fin t'))))
    .rintro b s' ⟨done,left,wl,t,e,r',v',hb,rfl⟩;cases v';have hl:left=[]:=by
      cases left with
      |nil=>rfl
      |cons _ _=>have:=r'.length;simp[TK.dl] at this
     subst hl;rw[kZ] at e;subst e;show wpAny _ _ (retInt (Builtin.Tuple.tupleHashOf b.toList)) _ _ _;rw[hb];refine wpAny_ret_mkInt ?_;have h':∀t,Q (reduceHash (Builtin.Tuple.tupleHashOf (TK.fw X.w l))) { s with toks:=t}:=λt=>by simpa only[TK.hash] using h t
     unfold reduceHash at h';show wpAny _ _ (if(decide (-(2:Int)^63<=Builtin.Tuple.tupleHashOf (TK.fw X.w l))&&decide (Builtin.Tuple.tupleHashOf (TK.fw X.w l)<2^63))=true then _ else _) Q E _
     split
     .rename_i hc
      rw[aJ hc] at h';exact bh (h' _)
     .rename_i hc
      rw[aQ hc] at h';exact aB (wpAny_rule (bh (h' _)))
def E':∀(n:Nat) {A:Around} {E:Value->Shared->Prop} {s:Shared} {y:V} {u:Value} {k:TK} {Q:Bool->Shared->Prop},Inv X ae Z H s->aj X.K H [y] [k.d]->k.ok n=true->RelV y u->Q true s->
  wpAny (model X.prog X.w) A (eqIsQuiet n u) Q E s:=by
 intro n
 induction n with
 |zero=>
  intro A E s y u k Q I r ok ru h;cases k with
  |tp l=>simp[TK.ok] at ok
  |inl i=>simp only[TK.d] at r;cases r with|flat q _=>cases q;obtain⟨t,rfl⟩:=ru;rw[eqIsQuiet_byValue 0 rfl];exact bh h
  |inr i=>simp only[TK.d] at r;cases r with|flat q _=>cases q;obtain⟨t,rfl⟩:=ru;rw[eqIsQuiet_byValue 0 rfl];exact bh h
 |succ n ih=>
  intro A E s y u k Q I r ok ru h;cases k with
  |inl i=>simp only[TK.d] at r;cases r with|flat q _=>cases q;obtain⟨t,rfl⟩:=ru;rw[eqIsQuiet_byValue (n+1) rfl];exact bh h
  |inr i=>simp only[TK.d] at r;cases r with|flat q _=>cases q;obtain⟨t,rfl⟩:=ru;rw[eqIsQuiet_byValue (n+1) rfl];exact bh h
  |tp l=>
   simp only[TK.d] at r;cases r with
   |flat q _=>cases q
   |@tup a ws _ _ _ q i _=>
    cases ru;obtain⟨ay,rv,pl,_⟩:=I.tuple q;have hT:s.TypeIs (.ref a) "tuple":=pl.typeIs;obtain⟨o,g1,g2,nn,g3⟩:=pl;have ok:l.all (TK.ok n)=true:=by simpa only[TK.ok] using ok
    unfold eqIsQuiet;refine aB (wpAny_specialOf hT F.slot_tuple_eq.lookup (aB (wpAny_isInstance hT isSubtype_tuple_tuple ?_)));simp only[iL,lA,bS];refine aB (wpAny_seqItems g1 g3 (aB ?_));show wpAny _ _ (forIn ay.toArray _ _) _ _ s;rw[<-MX];refine wpAny_forIn_list _ (λrest r s'=>r.1=none/\s'=s/\∃left wl,aj X.K H wl (TK.dl left)/\Vals wl rest/\∀x∈left,x.ok n=true) _ ?_ ?_ _ _ ⟨rfl,rfl,l,ws,i,rv,λx m=>lB.mp ok x m⟩
    .rintro v rest r s' ⟨hr,rfl,left,wl,r',v',hk⟩;cases v' with
     |@cons w1 _ wl _ yQ v'=>
      cases left with
      |nil=>have:=r'.length;simp[TK.dl] at this
      |cons k1 left=>
       simp only[TK.dl] at r';refine aB (ih I r'.inv.1 (hk k1 (by simp)) yQ ?_)
       simp only[iL,lA,bS];exact bh ⟨rfl,rfl,left,wl,r'.inv.2,v',λx m=>hk x (by simp[m])⟩
    .rintro⟨r1,r2⟩ s' ⟨hr,rfl,_⟩;cases(show r1=none from hr);exact bh h
structure AA (X:Cx) (A:Around) (E:Value->Shared->Prop) (s:Shared) (xs:Array DictEntry) (es:List (TK×V×V)) (k:TK) (u:Value):Prop where
 ent:∀(j:Nat) (x:DictEntry),xs[j]?=some x->∃e,es[j]?=some e/\kz X.w e x/\(∀(R:Bool->Shared->Prop),R (decide (e.1=k)) s->wpAny (model X.prog X.w) A (eqBool x.key u) R E s)/\
  ∀(R:Bool->Shared->Prop),R true s->wpAny (model X.prog X.w) A (eqIsQuiet 8 x.key) R E s
 ents:∀(j:Nat) (e:TK×V×V),es[j]?=some e->∃x:DictEntry,xs[j]?=some x/\kz X.w e x
 uniq:∀(i j:Nat) (e f:TK×V×V),es[i]?=some e->es[j]?=some f->e.1=k->f.1=k->i=j
def ο{A:Around}{E:Value->Shared->Prop}{s:Shared}{xs:Array DictEntry}{es:List (TK×V×V)}{k:TK}{y:V}{u:Value}(I:Inv X ae Z H s)(g3:Paired (kz X.w) es xs.toList)(g4:(es.map (·.1)).Nodup)
  (rk:aj X.K H (es.map (·.2.1)) (es.map (·.1.d))) (ry:aj X.K H [y] [k.d]) (ok:k.ok 8=true) (ru:RelV y u) (hu:A.units+8<cLine):AA X A E s xs es k u where
 ent:=λj x hx=>by
  obtain⟨e,e1,e2⟩:=Iy j g3 (by rw[mr];exact hx)
  obtain⟨v,v1,v2⟩:=rk.get (i:=j) (d:=e.1.d) (by rw[i7,e1];rfl)
  rw[i7,e1] at v1;cases v1;refine⟨e,e1,e2,λR hR=>?_,λR hR=>E' 8 I v2 e2.2.2.2 e2.2.1 hR⟩
  refine(zq I 8 8 v2 ry (t_ 8 e2.2.2.2) (t_ 8 ok) e2.2.1 ru hu).1 X.prog X.w E R ?_;rw[zg];exact hR
 ents:=λj e he=>by
  obtain⟨x,x1,x2⟩:=y7 j g3 he;exact⟨x,by rw[<-mr];exact x1,x2⟩
 uniq:=λi j e f he hf ek fk=>by
  have hi:(es.map (·.1))[i]?=some k:=by rw[i7,he,<-ek];rfl
  have hj:(es.map (·.1))[j]?=some k:=by rw[i7,hf,<-fk];rfl
  exact(List.getElem?_inj (eO.mp hi).1 g4).mp (hi.trans hj.symm)
section
variable{A:Around}{E:Value->Shared->Prop}{s:Shared}{d:Addr}{o:Obj}{xs:Array DictEntry}{ep:Nat}{es:List (TK×V×V)}{k:TK}{u:Value}{Q:Option Nat->Shared->Prop}
abbrev oa(xs:Array DictEntry)(h:Int):List Nat:=placesWithHash xs.size (λi=>xs[i]?.map (·.hash)) h
def mI{h:Int}{i:Nat}:i∈oa xs h↔∃x,xs[i]?=some x/\x.hash=h:=by
 unfold oa placesWithHash;rw[jB,oz];constructor
 .rintro⟨h1,h2⟩;refine⟨xs[i],pI h1,?_⟩;dsimp only at h2;rw[pI h1] at h2;simpa using h2
 .rintro⟨x,h1,h2⟩;refine⟨(tU.mp h1).1,?_⟩;dsimp only;rw[h1,EI,h2];simp
def Vp{h:Int}:(oa xs h).Nodup:=List.Nodup.sublist List.filter_sublist List.nodup_range
def AA.oa(D:AA X A E s xs es k u){j:Nat}{e:TK×V×V}(he:es[j]?=some e)(ek:e.1=k):j∈oa xs (k.hash X.w):=by
 obtain⟨x,x1,x2⟩:=D.ents j e he;exact mI.mpr ⟨x,x1,by rw[x2.1,ek]⟩
def Vq(D:AA X A E s xs es k u)(g1:s.heap.get? d=some o)(g2:o.data=.dict xs ep)
  (q0:(∀(j:Nat) (e:TK×V×V),es[j]?=some e->e.1≠k)->Q none s) (q1:∀(j:Nat) (e:TK×V×V),es[j]?=some e->e.1=k->Q (some j) s) :
  wpAny (model X.prog X.w) A (dictWalkPlain d u (k.hash X.w) xs (oa xs (k.hash X.w))) Q E s:=by
 unfold dictWalkPlain;refine aB (wpAny_forIn_list _ (λrest b s'=>s'=s/\b=(none,())/\∃done,oa xs (k.hash X.w)=done++rest/\∀j e,j∈done->es[j]?=some e->e.1≠k) _ ?_ ?_ _ _ ⟨rfl,rfl,[],rfl,λ_ _ m=>by cases m⟩)
 .rintro i rest b s' ⟨rfl,rfl,done,hd,ur⟩;obtain⟨x,x1,x2⟩:=mI.mp (show i∈oa xs (k.hash X.w) by rw[hd];simp)
  obtain⟨e,e1,e2,eq,_⟩:=D.ent i x x1;simp only[x1];rw[aJ (by rw[x2];simp)]
  refine aB (wpAny_dictEpoch g1 g2 (aB (eq _ (aB (wpAny_dictEpoch g1 g2 ?_)))));rw[aQ (by simp)]
  by_cases ek:e.1=k
  .rw[fY ek];exact aB (wpAny_rule (bh (bh (q1 i e e1 ek))))
  .rw[iu ek];refine aB (wpAny_rule (bh ⟨rfl,rfl,done++[i],by simp[hd],λj f m hf=>?_⟩))
   rcases eI.mp m with m|m
   .exact ur j f m hf
   .simp at m;subst m;rw[e1] at hf;cases hf;exact ek
 .rintro b s' ⟨rfl,rfl,done,hd,ur⟩;refine bh (q0 λj e he ek=>ur j e ?_ he ek)
  have:=D.oa he ek;rw[hd] at this;simpa using this
def idv(u:Value):Value:=u
def WG(D:AA X A E s xs es k u)(g1:s.heap.get? d=some o)(g2:o.data=.dict xs ep)(hq:∀(R:Bool->Shared->Prop),R true s->wpAny (model X.prog X.w) A (eqIsQuiet 8 u) R E s)
  (hs:∀z t,u=.str z t->k=.inr z) (rA:∀(j:Nat) (x:DictEntry) (e:TK×V×V) z t,xs[j]?=some x->es[j]?=some e->x.key=.str z t->e.1=.inr z) (hh:∀a (j:Nat) (x:DictEntry) (e:TK×V×V),u=.ref a->xs[j]?=some x->es[j]?=some e->x.key=u->e.1=k)
  (q0:(∀(j:Nat) (e:TK×V×V),es[j]?=some e->e.1≠k)->Q none s) (q1:∀(j:Nat) (e:TK×V×V),es[j]?=some e->e.1=k->Q (some j) s) :
  wpAny (model X.prog X.w) A (dictFind d u (k.hash X.w)) Q E s:=by
 have walk:=Vq D g1 g2 q0 q1;have stored:∀v∈(oa xs (k.hash X.w)).filterMap (λi=>xs[i]?.map (·.key)),∀(R:Bool->Shared->Prop),R true s->wpAny (model X.prog X.w) A (eqIsQuiet 8 v) R E s:=by
  intro v hv R hR;obtain⟨i,_,hi⟩:=vE.mp hv;cases hx:xs[i]? with
  |none=>rw[hx] at hi;cases hi
  |some x=>
   rw[hx] at hi;obtain rfl:x.key=v:=by simpa using hi
   obtain⟨e,_,_,_,h⟩:=D.ent i x hx;exact h R hR
 have tell:∀(R:Bool->Shared->Prop),R false s->wpAny (model X.prog X.w) A (tableMayTell u ((oa xs (k.hash X.w)).filterMap λi=>xs[i]?.map (·.key))) R E s:=by
  intro R hR;unfold tableMayTell;split
  .exact bh hR
  .refine aB (hq _ ?_);simp only[iL,lA,bS];refine aB (wpAny_forIn_list _ (λrest r s'=>s'=s/\r=(none,())/\∀v∈rest,∀(R:Bool->Shared->Prop),R true s->wpAny (model X.prog X.w) A (eqIsQuiet 8 v) R E s) _ ?_ ?_ _ _ ⟨rfl,rfl,stored⟩)
   .rintro x rest r s' ⟨rfl,rfl,hr⟩;refine aB (hr x (by simp) _ ?_)
    simp only[iL,lA,bS];exact bh ⟨rfl,rfl,λv hv=>hr v (by simp[hv])⟩
   .rintro r s' ⟨rfl,rfl,_⟩;exact bh hR
 have tell2:∀(R:Bool->Shared->Prop),R false s->wpAny (model X.prog X.w) A (if((oa xs (k.hash X.w)).filterMap (λi=>xs[i]?.map (·.key)) == [u])=true then pure false else tableMayTell u ((oa xs (k.hash X.w)).filterMap λi=>xs[i]?.map (·.key))) R E s:=by
  intro R hR;split
  .exact bh hR
  .exact tell R hR
 have fin:∀(i:Nat) (x:DictEntry) (e:TK×V×V),xs[i]?=some x->es[i]?=some e->kz X.w e x->(x.hash == k.hash X.w)=false->e.1≠k:=λi x e _ _ he hf ek=>by
  rw[he.1,ek] at hf;simp at hf
 unfold dictFind
 (try with_reducible refine mZ ?_);refine aB (wpAny_dictEntries g1 g2 ?_)
 dsimp only;by_cases sA:((u::(oa xs (k.hash X.w)).filterMap λi=>xs[i]?.map (·.key)).all carriedByValue)=true
 .rw[aJ sA];split;next z t=>
   split;next LM=>
    unfold foundByValue;cases hf:xs.findIdx? (λe=>e.key.isStr z) with
    |none=>
     refine bh (q0 λj e he ek=>?_)
     obtain⟨x,x1,x2⟩:=D.ents j e he;have n1:=Array.findIdx?_eq_none_iff.mp hf x (Array.mem_of_getElem? x1);have e2:=x2.2.1;have n2:isExactStrKey x.key=true:=by
      have h:=Array.all_eq_true.mp LM j (tU.mp x1).1;rw[(tU.mp x1).2] at h;exact h
     cases hk:x.key with
     |str z2 t2=>
      have e3:=rA j x e z2 t2 x1 he hk;rw[ek,hs z t rfl] at e3;cases e3;rw[hk] at n1;simp[Value.isStr] at n1
     |_=>rw[hk] at n2;cases n2
    |some i=>
     obtain⟨gI,hi,_⟩:=Array.findIdx?_eq_some_iff_getElem.mp hf;obtain⟨e,e1,e2,eq,_⟩:=D.ent i xs[i] (pI gI);have ek:e.1=k:=by
      cases hk:xs[i].key with
      |str z2 t2=>
       rw[hk] at hi;have:z2=z:=by simpa[Value.isStr] using hi
       subst this;rw[rA i _ e z2 t2 (pI gI) e1 hk,hs z2 t rfl]
      |_=>rw[hk] at hi;simp[Value.isStr] at hi
     simp only[pI gI];refine aB (wpAny_dictEpoch g1 g2 (aB (eq _ (aB (wpAny_dictEpoch g1 g2 ?_)))));rw[aQ (by simp),fY ek]
     exact aB (wpAny_rule (bh (q1 i e e1 ek)))
   next=>exact walk
  next=>exact walk
 .rw[aQ sA];have DP:∀z t,u=.str z t->¬(xs.all λe=>isExactStrKey e.key)=true:=by
   intro z t hu hx;refine sA (lB.mpr λv hv=>?_)
   rcases eC.mp hv with rfl|hv
   .rw[hu];rfl
   .obtain⟨i,_,hi⟩:=vE.mp hv;cases uu:xs[i]? with
    |none=>rw[uu] at hi;cases hi
    |some x=>
     rw[uu] at hi;obtain rfl:x.key=v:=by simpa using hi
     have h:=Array.all_eq_true.mp hx i (tU.mp uu).1;rw[(tU.mp uu).2] at h;cases hk:x.key with
     |str _ _=>rfl
     |_=>rw[hk] at h;cases h
  have wR:∀a,u=.ref a->¬(xs.any λe=>e.key == u&&e.hash != k.hash X.w)=true:=by
   intro a hu hx;rw[Array.any_eq_true] at hx;obtain⟨i,hi,hc⟩:=hx;rw[lS,beq_iff_eq,bne_iff_ne] at hc;obtain⟨e,e1,e2,_⟩:=D.ent i xs[i] (pI hi);have:=hh a i _ e hu (pI hi) e1 hc.1;exact hc.2 (by rw[e2.1,this])
  have Lv:u=idv u:=rfl;refine(λ(key:?P)=>?main) ?k
  case main=>
   rw(occs:=.pos [1]) [Lv];split
   .rename_i z t hz
    rw[aQ (DP z t hz)];rw(occs:=.pos [1]) [Lv];split
    .rename_i a ha
     rw[aQ (wR a ha)];exact key
    .exact key
   .rw(occs:=.pos [1]) [Lv];split
    .rename_i a ha
     rw[aQ (wR a ha)];exact key
    .exact key
  refine(λ(DC:?P2)=>?DG) ?k2
  case DG=>
   refine Vo ?_ ?_
   .refine aB (bh ?_);exact DC
   .refine aB (tell _ ?_);exact DC
  all_goals (
   show wpAny _ _ (if(false&&_)=true then _ else _) _ _ _
   rw[aQ (by rw[vD];exact mY)]
   refine aB (wpAny_forIn_list _ (λrest b s'=>s'=s/\∃hit done,b=(none,hit)/\oa xs (k.hash X.w)=done++rest/\((hit=none/\∀(j:Nat) (e:TK×V×V),j∈done->es[j]?=some e->e.1≠k)\/∃(j:Nat) (e:TK×V×V),hit=some j/\j∈done/\es[j]?=some e/\e.1=k)) _ ?_ ?_ _ _
    ⟨rfl,none,[],rfl,rfl,.inl ⟨rfl,λ_ _ m=>by cases m⟩⟩)
   .rintro i rest b s' ⟨rfl,hit,done,rfl,hd,hH⟩;obtain⟨x,x1,x2⟩:=mI.mp (show i∈oa xs (k.hash X.w) by rw[hd];simp)
    obtain⟨e,e1,e2,eq,_⟩:=D.ent i x x1;have hni:i∉done:=λm=>by
     have:=Vp (xs:=xs) (h:=k.hash X.w);rw[hd] at this;exact(lC.mp this).2.2 i m i (by simp) rfl
    simp only[x1];rw[aJ (by rw[x2];simp)]
    refine aB (wpAny_dictEpoch g1 g2 (aB (eq _ (aB (wpAny_dictEpoch g1 g2 ?_)))));rw[aQ (by simp)]
    by_cases ek:e.1=k
    .rw[fY ek];rcases hH with⟨rfl,ur⟩|⟨j,f,rfl,jd,jf,fk⟩
     .first|rw[aJ rfl]|skip
      simp only[Option.isSome_none,lA,bS];first|refine aB (bh ?_)|skip
      refine aB (wpAny_rule ?_);split
      .exact bh (bh (q1 i e e1 ek))
      .exact bh ⟨rfl,some i,done++[i],rfl,by simp[hd],.inr ⟨i,e,rfl,by simp,e1,ek⟩⟩
     .exact bQ (D.uniq i j e f e1 jf ek fk) λz=>hni (by rw[z];exact jd)
    .rw[iu ek];have nx:(hit=none/\∀(j:Nat) (e:TK×V×V),j∈done++[i]->es[j]?=some e->e.1≠k)\/∃(j:Nat) (e:TK×V×V),hit=some j/\j∈done++[i]/\es[j]?=some e/\e.1=k:=by
      rcases hH with⟨h0,ur⟩|⟨j,f,h0,jd,jf,fk⟩
      .refine .inl ⟨h0,λj f m hf=>?_⟩
       rcases eI.mp m with m|m
       .exact ur j f m hf
       .simp at m;subst m;rw[e1] at hf;cases hf;exact ek
      .exact .inr ⟨j,f,h0,by simp[jd],jf,fk⟩
     simp only[lA,bS];refine aB (wpAny_rule ?_);first|rw[aQ (by simp)]|skip
     first
      |exact bh ⟨rfl,hit,done++[i],rfl,by simp[hd],nx⟩
      |exact aB (bh (bh ⟨rfl,hit,done++[i],rfl,by simp[hd],nx⟩))
   .rintro b s' ⟨rfl,hit,done,rfl,hd,hH⟩;rcases hH with⟨rfl,ur⟩|⟨j,f,rfl,jd,jf,fk⟩
    .refine bh (q0 λj e he ek=>ur j e ?_ he ek)
     have:=D.oa he ek;rw[hd] at this;simpa using this
    .exact bh (q1 j f jf fk))
end
end
def jq(es:List (TK×V×V))(k:TK):Option V:=(es.find? λe=>decide (e.1=k)).map (·.2.2)
def gk:List (TK×V×V)->TK->V->V->List (TK×V×V)
 |[],k,y,v=>[(k,y,v)]
 |e::es,k,y,v=>if e.1=k then(e.1,e.2.1,v)::es else e::gk es k y v
def tH(es:List (TK×V×V))(k:TK)(ep:Nat):Nat:=if(es.any λe=>decide (e.1=k))=true then ep else ep+1
def i_(K:FG)(H:Hp)(a:Addr)(y:V)(r:Option V):Prop:=∃es ep k,H a=some (.dG es ep)/\aj K H (es.map (·.2.1)) (es.map (·.1.d))/\aj K H [y] [k.d]/\k.ok 8=true/\r=jq es k
def uG(K:FG)(H:Hp)(a:Addr)(y v:V)(H':Hp):Prop:=∃es ep k,H a=some (.dG es ep)/\aj K H (es.map (·.2.1)) (es.map (·.1.d))/\aj K H [y] [k.d]/\k.ok 8=true/\es.length<sizeLine/\H'=upd H a (.dG (gk es k y v) (tH es k ep))
def Yo{k j:TK}(e:k.d=j.d)(h:k.ok 8=true):k=j:=by
 have h1:=zg k j;rw[<-e,IW 8 (t_ 8 h)] at h1;exact vJ h1.symm
section
variable{X:Cx}{ae:List (Addr×Obj)}{Z:St}{H:Hp}
def PU{y:V}{z:Str}{t:Tok}{k:TK}(r:aj X.K H [y] [k.d])(ru:RelV y (.str z t)):k=.inr z:=by
 cases k with
 |inl i=>simp only[TK.d] at r;cases r with|flat q _=>cases q;obtain⟨t,e⟩:=ru;cases e
 |inr i=>simp only[TK.d] at r;cases r with|flat q _=>cases q;obtain⟨t,e⟩:=ru;cases e;rfl
 |tp l=>simp only[TK.d] at r;cases r with|flat q _=>cases q|tup q _ _=>cases ru
def PV{y:V}{a:Addr}(ru:RelV y (.ref a)):y=.ref a:=by
 cases y with
 |ref b=>cases ru;rfl
 |bH=>cases ru
 |bl _=>cases ru
 |ty _=>cases ru
 |_=>obtain⟨t,e⟩:=ru;cases e
section
variable{A:Around}{E:Value->Shared->Prop}{s:Shared}{d:Addr}{es:List (TK×V×V)}{k:TK}{y v:V}{u r:Value}
def Q5{o:Obj}{xs:Array DictEntry}{ep:Nat}{Q:Option Nat->Shared->Prop}(I:Inv X ae Z H s)(g1:s.heap.get? d=some o)(g2:o.data=.dict xs ep)(g3:Paired (kz X.w) es xs.toList)(g4:(es.map (·.1)).Nodup)
  (rk:aj X.K H (es.map (·.2.1)) (es.map (·.1.d))) (ry:aj X.K H [y] [k.d]) (ok:k.ok 8=true) (ru:RelV y u) (hu:A.units+8<cLine)
  (q0:(∀(j:Nat) (e:TK×V×V),es[j]?=some e->e.1≠k)->Q none s) (q1:∀(j:Nat) (e:TK×V×V),es[j]?=some e->e.1=k->Q (some j) s):wpAny (model X.prog X.w) A (dictFind d u (k.hash X.w)) Q E s:=by
 have at':∀(j:Nat) (x:DictEntry) (e:TK×V×V),xs[j]?=some x->es[j]?=some e->kz X.w e x/\aj X.K H [e.2.1] [e.1.d]:=by
  intro j x e hx he;obtain⟨e',e1,e2⟩:=Iy j g3 (by rw[mr];exact hx)
  rw[he] at e1;cases e1;obtain⟨v,v1,v2⟩:=rk.get (i:=j) (d:=e.1.d) (by rw[i7,he];rfl)
  rw[i7,he] at v1;cases v1;exact⟨e2,v2⟩
 refine WG (ο I g3 g4 rk ry ok ru hu) g1 g2 (λR hR=>E' 8 I ry ok ru hR) (λz t e=>PU ry (by rw[<-e];exact ru)) (λj x e z t hx he hk=>?_) (λa j x e sL hx he hk=>?_) q0 q1
 .obtain⟨g,r'⟩:=at' j x e hx he;exact PU r' (by rw[<-hk];exact g.2.1)
 .obtain⟨g,r'⟩:=at' j x e hx he;have h1:=g.2.1;rw[hk,sL] at h1;rw[sL] at ru;rw[PV h1] at r';rw[PV ru] at ry;exact Yo (Bw I 8 8 r' ry (t_ 8 g.2.2.2) (t_ 8 ok)) g.2.2.2
def Vr(h:∀(j:Nat) (e:TK×V×V),es[j]?=some e->e.1≠k):jq es k=none:=by
 unfold jq;rw[List.find?_eq_none.mpr λe m z=>?_,Option.map_none]
 obtain⟨j,hj⟩:=List.mem_iff_getElem?.mp m;exact h j e hj (vJ z)
def Vs(hn:(es.map (·.1)).Nodup){j:Nat}{e:TK×V×V}(he:es[j]?=some e)(ek:e.1=k):jq es k=some e.2.2:=by
 induction es generalizing j with
 |nil=>simp at he
 |cons x es ih=>
  rw[cS,hU] at hn;unfold jq;rw[tV];cases j with
  |zero=>
   simp only[List.getElem?_cons_zero,Option.some.injEq] at he;subst he;rw[fY ek];rfl
  |succ j=>
   simp only[EJ] at he;have ne:¬x.1=k:=λz=>hn.1 (by rw[z,<-ek];exact gA.mpr ⟨e,jr he,rfl⟩)
   rw[iu ne];exact ih hn.2 he
def Of{o:Option V}{Q:Option Value->Shared->Prop}(hu:A.units+8<cLine)(I:Inv X ae Z H s)(g:i_ X.K H d y o)(ru:RelV y u)(h:∀w t,ng o w->Q w { s with toks:=t}):
  wpAny (model X.prog X.w) A (dictGet d u) Q E s:=by
 obtain⟨es,ep,k,hd,rk,ry,ok,rfl⟩:=g;obtain⟨_,_,ob,xs,g1,_,g2,g3,g4⟩:=(show cw X.prog X.w H s.heap d (.dG es ep) from I.cV d _ hd);unfold dictGet
 (try with_reducible refine mZ ?_);refine aB (IX 8 I ry ok ru hu λt=>aB (Q5 (I.tok t) g1 g2 g3 g4 rk ry ok ru hu (λq0=>?_) (λj e he ek=>?_)))
 .exact bh (h none t (by rw[Vr q0];exact iJ))
 .obtain⟨x,x1,x2⟩:=y7 j g3 he;refine aB (wpAny_dictEntries (s:={ s with toks:=t}) g1 g2 (bh ?_));rw[<-mr,x1];exact h (some x.val) t (by rw[Vs g4 he ek];exact x2.2.2.1)
def i_.ty{o:Option V}(I:Inv X ae Z H s)(g:i_ X.K H d y o):s.TypeIs (.ref d) "dict"/\(d == sysModules)=false:=by
 obtain⟨es,ep,k,hd,_⟩:=g;obtain⟨_,z,ob,xs,g1,g5,_⟩:=(show cw X.prog X.w H s.heap d (.dG es ep) from I.cV d _ hd);exact⟨⟨ob,g1,g5.1⟩,z⟩
def Og{Q:Value->Shared->Prop}(hu:A.units+9<cLine)(I:Inv X ae Z H s)(g:i_ X.K H d y (some v))(ru:RelV y u)(h:∀w' s',Inv X ae Z H s'->RelV v w'->Q w' s'):wpAny (model X.prog X.w) A (getItem (.ref d) u) Q E s:=by
 have hT:=(g.ty I).1;unfold getItem
 (try with_reducible refine mZ ?_);refine aB (wpAny_sequenceKey hT (by decide) (aB (wpAny_callSpecial?_slot (name:=Str.ofString "__getitem__") hT slot_dict_getitem (wpAny_call_entry slot_dict_getitem hT entry_dict_getitem ?_ (args_dict_getitem _ _)))))
 show wpAny _ _ (dictGet d u >>= _) _ _ s;refine aB (Of (by show A.units+1+8<cLine;lia) I g ru λw t rE=>?_)
 obtain⟨w',rfl,r'⟩:=ng.some_of rE;exact bh ⟨w',rfl,bh (h w' _ (I.tok t) r')⟩
def NF{o:Option V}{Q:Bool->Shared->Prop}(hu:A.units+9<cLine)(I:Inv X ae Z H s)(g:i_ X.K H d y o)(ru:RelV y u)(h:∀s',Inv X ae Z H s'->Q o.isSome s'):wpAny (model X.prog X.w) A (contains (.ref d) u) Q E s:=by
 obtain⟨hT,hd⟩:=g.ty I;unfold contains
 (try with_reducible refine mZ ?_);refine aB (wpAny_specialOf hT slot_dict_contains.lookup ?_)
 dsimp only;rw[aQ (by rw[beq_builtin_none];exact mY)]
 refine aB (wpAny_callSpecialUnlessNone?_slot (name:=Str.ofString "__contains__") hT slot_dict_contains (wpAny_call_entry slot_dict_contains hT entry_dict_contains ?_ (args_dict_contains _ _)));show wpAny _ _ (dictGet d u >>= _) _ _ s;refine aB (Of (by show A.units+1+8<cLine;lia) I g ru λw t rE=>?_)
 have e:=rE.qG;cases w with
 |some w=>
  show wpAny _ _ (ret (.bool true)) _ _ _;refine bh ⟨_,rfl,wpAny_truthy_bool ?_⟩;have:=h _ (I.tok t);rw[e] at this;exact this
 |none=>
  show wpAny _ _ (Builtin.Dict.pendingKey? d u >>= _) _ _ _;refine aB (wpAny_pendingKey_other hd (bh ⟨_,rfl,wpAny_truthy_bool ?_⟩));have:=h _ (I.tok t);rw[e] at this;exact this
def MJ{o:Option V}{Q:Value->Shared->Prop}(hu:A.units+9<cLine)(I:Inv X ae Z H s)(g:i_ X.K H d y o)(ru:RelV y u)(h:∀s',Inv X ae Z H s'->Q (.bool o.isSome) s'):wpAny (model X.prog X.w) A (compareOp .In u (.ref d)) Q E s:=
 aB (NF hu I g ru λs' I'=>bh (h s' I'))
def Yq{o:Option V}{Q:Value->Shared->Prop}(hu:A.units+9<cLine)(I:Inv X ae Z H s)(g:i_ X.K H d y o)(ru:RelV y u)(h:∀s',Inv X ae Z H s'->Q (.bool (!o.isSome)) s'):wpAny (model X.prog X.w) A (compareOp .NotIn u (.ref d)) Q E s:=
 aB (NF hu I g ru λs' I'=>bh (h s' I'))
theorem Nu(k:TK)(y v:V):∀es:List (TK×V×V),(gk es k y v).length<=es.length+1
 |[]=>by simp[gk]
 |e::es=>by
  unfold gk;have:=Nu k y v es;split <;> simp <;> lia
theorem OW:∀{es:List (TK×V×V)},(∀(j:Nat) (e:TK×V×V),es[j]?=some e->e.1≠k)->gk es k y v=es++[(k,y,v)]
 |[],_=>rfl
 |e::es,h=>by
  unfold gk;rw[aQ (h 0 e rfl),OW λj x hx=>h (j+1) x (by simpa using hx)]
  rfl
def Yr{w:World}{xs:List DictEntry}(g3:Paired (kz w) es xs)(ry:RelV y u)(rv:RelV v r)(ok:k.ok 8=true):Paired (kz w) (es++[(k,y,v)]) (xs++[⟨k.hash w,u,r⟩]):=by
 induction g3 with
 |nil=>exact .cons ⟨rfl,ry,rv,ok⟩ .nil
 |cons a _ ih=>exact .cons a ih
theorem PX{w:World}:∀{es:List (TK×V×V)} {xs:List DictEntry} {j:Nat} {e:TK×V×V},Paired (kz w) es xs->(es.map (·.1)).Nodup->es[j]?=some e->e.1=k->RelV v r->
  Paired (kz w) (gk es k y v) (xs.modify j λx=>{ x with val:=r})/\(gk es k y v).map (·.1)=es.map (·.1)
 |_,_,_,_,.nil,_,he,_,_=>by simp at he
 |_::es,_::xs,0,e,.cons a t,hn,he,ek,rv=>by
  simp only[List.getElem?_cons_zero,Option.some.injEq] at he;subst he;unfold gk;rw[aJ ek];exact⟨.cons ⟨a.1,a.2.1,rv,a.2.2.2⟩ t,rfl⟩
 |x::es,_::xs,j+1,e,.cons a t,hn,he,ek,rv=>by
  simp only[EJ] at he;rw[cS,hU] at hn;have ne:¬x.1=k:=λz=>hn.1 (by rw[z,<-ek];exact gA.mpr ⟨e,jr he,rfl⟩)
  unfold gk;rw[aQ ne];have ih:=PX t hn.2 he ek rv;exact⟨.cons a ih.1,by rw[cS,cS,ih.2]⟩
def Oh{H':Hp}{Q:Unit->Shared->Prop}(hu:A.units+8<cLine)(I:Inv X ae Z H s)(g:uG X.K H d y v H')(ru:RelV y u)(rv:RelV v r)(h:∀s',Inv X ae Z H' s'->Q () s'):
  wpAny (model X.prog X.w) A (dictSet d u r) Q E s:=by
 obtain⟨es,ep,k,hd,rk,ry,ok,hl,rfl⟩:=g;obtain⟨_,z,ob,xs,g1,g5,g2,g3,g4⟩:=(show cw X.prog X.w H s.heap d (.dG es ep) from I.cV d _ hd);have hz:xs.size<=sizeLine:=by have:=Paired.length g3;simp at this;lia
 have Ly:(gk es k y v).length<=sizeLine:=by have:=Nu k y v es;lia
 unfold dictSet
 (try with_reducible refine mZ ?_);refine aB (IX 8 I ry ok ru hu λt=>?_)
 unfold dictSetHashed
 (try with_reducible refine mZ ?_);refine aB (Q5 (I.tok t) g1 g2 g3 g4 rk ry ok ru hu (λq0=>?_) (λj e he ek=>?_))
 .have Sh:gk es k y v=es++[(k,y,v)]:=OW q0;have K2:tH es k ep=ep+1:=aQ (by
   rw[An];rintro⟨e,m,q⟩;obtain⟨j,hj⟩:=List.mem_iff_getElem?.mp m;exact q0 j e hj (vJ q))
  rw[K2] at h;refine aB (wpAny_rule (wpAny_updateDictKeys (hz:=hz) (s:={ s with toks:=t}) g1 g2 (h _ ?_)));refine PF (I.tok t) (by rw[hd];exact iJ) (Heap.SameBut.update ..) ⟨_,vG _ g1 (Obj.isFreed_of_dict (Obj.data_mapDictKeys g2 _))⟩ ⟨Ly,z,_,_,vG _ g1 (Obj.isFreed_of_dict (Obj.data_mapDictKeys g2 _)),g5.mapDictKeys _,Obj.data_mapDictKeys g2 _,?_,?_⟩
  .rw[Sh,Array.toList_push];exact Yr g3 ru rv ok
  .rw[Sh,iH,lC];refine⟨g4,by simp,λa m b m' e=>?_⟩
   simp at m';subst m';obtain⟨x,mx,rfl⟩:=gA.mp m;obtain⟨j,hj⟩:=List.mem_iff_getElem?.mp mx;exact q0 j x hj e
 .have em:=PX (y:=y) g3 g4 he ek rv;have K2:tH es k ep=ep:=aJ (An.mpr ⟨e,jr he,fY ek⟩);rw[K2] at h;refine aB (wpAny_rule (aB (wpAny_updateDict (s:={ s with toks:=t}) g1 g2 (wpAny_point (h _ ?_)))));refine PF (I.tok t) (by rw[hd];exact iJ) (Heap.SameBut.update ..) ⟨_,vG _ g1 (Obj.isFreed_of_dict (Obj.data_mapDict g2 _))⟩ ⟨Ly,z,_,_,vG _ g1 (Obj.isFreed_of_dict (Obj.data_mapDict g2 _)),g5.mapDict _,Obj.data_mapDict g2 _,?_,?_⟩
  .obtain⟨l⟩:=xs;simpa using em.1
  .rw[em.2];exact g4
def Vt{H':Hp}{Q:Unit->Shared->Prop}(hu:A.units+9<cLine)(I:Inv X ae Z H s)(g:uG X.K H d y v H')(ru:RelV y u)(rv:RelV v r)(h:∀s',Inv X ae Z H' s'->Q () s'):
  wpAny (model X.prog X.w) A (setItem (.ref d) u r) Q E s:=by
 have hT:s.TypeIs (.ref d) "dict":=by
  obtain⟨es,ep,k,hd,rk,ry,ok,_⟩:=g;exact(i_.ty I ⟨es,ep,k,hd,rk,ry,ok,rfl⟩).1
 unfold setItem
 (try with_reducible refine mZ ?_);refine aB (wpAny_sequenceKey hT (by decide) (aB (wpAny_callSpecial?_slot (name:=Str.ofString "__setitem__") hT slot_dict_setitem (wpAny_call_entry slot_dict_setitem hT entry_dict_setitem ?_ (args_dict_setitem _ _ _)))))
 show wpAny _ _ (Builtin.Dict.notOrdered "__setitem__" ⟨[.ref d,u,r],[]⟩ >>= _) _ _ s;refine aB (wpAny_notOrdered_dict hT ?_);show wpAny _ _ (dictSet d u r >>= λz=>_) _ _ s
 exact aB (Oh (by show A.units+1+8<cLine;lia) I g ru rv λs' I'=>bh ⟨.none,rfl,bh (h s' I')⟩)
end
end
section
variable{X:Cx}{K:FG}
def DZ(K:FG):R2:=λx y H Q=>∃d e,aj K H [x] [d]/\aj K H [y] [e]/\cQ 40 d=true/\cQ 40 e=true/\Q (.bl (aU d e)) H
def rP(K:FG)(hu:X.A.units+40<cLine)(hK:X.K=K:=by rfl):gd X (compareOp .Eq) (DZ K):=by
 subst hK;intro ae s Z H x y v u Q I rx ry h;obtain⟨d,e,r1,r2,o1,o2,q⟩:=h;exact(zq I 40 40 r1 r2 o1 o2 rx ry hu).2 X.prog X.w _ _ ⟨.bl _,H,I,rfl,q⟩
open Classical in
noncomputable def mU (K:FG) (H:Hp) (dx:D) (u:Value):Bool:=decide (∃x d,RelV x u/\aj K H [x] [d]/\cQ 40 d=true/\aU d dx=true)
open Classical in
def J3{ae:List (Addr×Obj)}{s:Shared}{Z:St}{H:Hp}(I:Inv X ae Z H s){dx d:D}{x:V}{u:Value}(rx:RelV x u)(r:aj X.K H [x] [d])(ok:cQ 40 d=true):mU X.K H dx u=aU d dx:=by
 unfold mU;rw[tT,ER];constructor
 .rintro⟨x',d',rx',r',ok',e⟩;have:=RelV.inj rx rx';subst this;rw[Bw I 40 40 r r' ok ok'];exact e
 .exact λe=>⟨x,d,rx,r,ok,e⟩
def Gs{ae:List (Addr×Obj)}{s:Shared}{Z:St}{H:Hp}(I:Inv X ae Z H s){dx:D}{ws:List V}{ay:List Value}{ds:List D}(t:Vals ws ay)(rp:aj X.K H ws ds)(ok:ds.all (cQ 40)=true):ay.any (mU X.K H dx)=ds.any λd=>aU d dx:=by
 induction t generalizing ds with
 |nil=>
  cases ds with
  |nil=>rfl
  |cons _ _=>have:=rp.length;simp at this
 |cons r t ih=>
  cases ds with
  |nil=>have:=rp.length;simp at this
  |cons d ds=>
   rw[rH,lS] at ok;rw[List.any_cons,List.any_cons,J3 I r rp.inv.1 ok.1,ih rp.inv.2 ok.2]
def BR{ae:List (Addr×Obj)}{s:Shared}{Z:St}{H:Hp}(I:Inv X ae Z H s){dx:D}{y:V}{v:Value}{A:Around}(rv:RelV y v)(ry:aj X.K H [y] [dx])(oy:cQ 40 dx=true)(hu:A.units+40<cLine):
  ∀{ws:List V} {ay:List Value} {ds:List D},Vals ws ay->aj X.K H ws ds->ds.all (cQ 40)=true->∀u∈ay,SeqAt.EqAt A s u v (mU X.K H dx u):=by
 intro ws ay ds t
 induction t generalizing ds with
 |nil=>intro _ _ u m;cases m
 |cons r t ih=>
  intro rp ok u' m;cases ds with
  |nil=>have:=rp.length;simp at this
  |cons d ds=>
   rw[rH,lS] at ok;rcases eC.mp m with rfl|m
   .rw[J3 I r rp.inv.1 ok.1];exact(zq I 40 40 rp.inv.1 ry ok.1 oy r rv hu).1
   .exact ih rp.inv.2 ok.2 u' m
def oj:D->Option (List D)
 |.lst ds=>some ds
 |.tup ds=>some ds
 |_=>none
def yL(K:FG)(neg:Bool):R2:=λx y H Q=>
 (∃d e ds,aj K H [x] [d]/\aj K H [y] [e]/\oj e=some ds/\cQ 40 d=true/\ds.all (cQ 40)=true/\Q (.bl (if neg then !ds.any λz=>aU z d else ds.any λz=>aU z d)) H)\/
 (∃i j,x=.str i/\y=.str j/\Q (.bl (if neg then !(!(Builtin.Str.occurrences j i 0 j.length 1).isEmpty) else !(Builtin.Str.occurrences j i 0 j.length 1).isEmpty)) H)\/
 ∃a o,y=.ref a/\i_ K H a x o/\Q (.bl (if neg then !o.isSome else o.isSome)) H
def v_(K:FG)(hu:X.A.units+41<cLine)(hK:X.K=K:=by rfl):gd X (compareOp .In) (yL K false):=by
 subst hK;intro ae s Z H x y v u Q I rx ry h;rcases h with⟨d,e,ds,r1,r2,es,o1,o2,q⟩|⟨i,j,rfl,rfl,q⟩|⟨a,o,rfl,g,q⟩
 .have sL:X.A.in1.units+40<cLine:=by show X.A.units+1+40<cLine;lia
  cases r2 with
  |flat z _=>cases e <;> first|(cases z;done)|cases es
  |lst sq i _=>
   cases es;cases ry;obtain⟨ay,r,pl,hz⟩:=I.list (.inl sq);refine SeqAt.in_listAt (mU X.K H d) pl.isList (λw hw=>BR I rx r1 o1 sL r i o2 w (by simpa using hw)) ⟨.bl _,H,I,rfl,?_⟩
   rw[show ay.toArray.any (mU X.K H d)=ay.any (mU X.K H d) by simp,Gs I r i o2]
   exact q
  |tup sq i _=>
   cases es;cases ry;obtain⟨ay,r,pl,hz⟩:=I.tuple sq;refine SeqAt.in_tupleAt (mU X.K H d) pl (λw hw=>BR I rx r1 o1 sL r i o2 w (by simpa using hw)) ⟨.bl _,H,I,rfl,?_⟩
   rw[show ay.toArray.any (mU X.K H d)=ay.any (mU X.K H d) by simp,Gs I r i o2]
   exact q
  |aE _ _ _ _ _=>cases es
  |fK _ _=>cases es
  |exc _ _=>cases es
 .exact Vc ae s Z H _ _ v u Q I rx ry ⟨i,j,rfl,rfl,q⟩
 .cases ry;exact MJ (by lia) I g rx λs3 I3=>⟨.bl o.isSome,H,I3,rfl,q⟩
def vL(K:FG)(hu:X.A.units+41<cLine)(hK:X.K=K:=by rfl):gd X (compareOp .NotIn) (yL K true):=by
 subst hK;intro ae s Z H x y v u Q I rx ry h;rcases h with⟨d,e,ds,r1,r2,es,o1,o2,q⟩|⟨i,j,rfl,rfl,q⟩|⟨a,o,rfl,g,q⟩
 .have sL:X.A.in1.units+40<cLine:=by show X.A.units+1+40<cLine;lia
  cases r2 with
  |flat z _=>cases e <;> first|(cases z;done)|cases es
  |lst sq i _=>
   cases es;cases ry;obtain⟨ay,r,pl,hz⟩:=I.list (.inl sq);refine SeqAt.notIn_listAt (mU X.K H d) pl.isList (λw hw=>BR I rx r1 o1 sL r i o2 w (by simpa using hw)) ⟨.bl _,H,I,rfl,?_⟩
   rw[show ay.toArray.any (mU X.K H d)=ay.any (mU X.K H d) by simp,Gs I r i o2]
   exact q
  |tup sq i _=>
   cases es;cases ry;obtain⟨ay,r,pl,hz⟩:=I.tuple sq;refine SeqAt.notIn_tupleAt (mU X.K H d) pl (λw hw=>BR I rx r1 o1 sL r i o2 w (by simpa using hw)) ⟨.bl _,H,I,rfl,?_⟩
   rw[show ay.toArray.any (mU X.K H d)=ay.any (mU X.K H d) by simp,Gs I r i o2]
   exact q
  |aE _ _ _ _ _=>cases es
  |fK _ _=>cases es
  |exc _ _=>cases es
 .exact Um ae s Z H _ _ v u Q I rx ry ⟨i,j,rfl,rfl,q⟩
 .cases ry;exact Yq (by lia) I g rx λs3 I3=>⟨.bl (!o.isSome),H,I3,rfl,q⟩
def oEq:List O->Option O
 |[a,b]=>if cQ 40 a.d=true/\cQ 40 b.d=true then some (.Y (.bl (aU a.d b.d))) else none
 |_=>none
def rW:cM K (mV (DZ K)) oEq:=by
 intro F H vs os o Q le eY e res;unfold oEq at e;split at e
 .split at e
  .cases e;obtain⟨x,y,B,C,rfl,h1,h2⟩:=eY.two
   rename_i hh
   exact⟨_,_,rfl,_,_,pP le h1,pP le h2,hh.1,hh.2,res.flat rfl⟩
  .cases e
 .cases e
mutual
def oM:D->Option TK
 |.int i=>some (.inl i)
 |.str x=>some (.inr x)
 |.tup l=>(lQ l).map .tp
 |_=>none
def lQ:List D->Option (List TK)
 |[]=>some []
 |d::l=>(oM d).bind λk=>(lQ l).map λks=>k::ks
end
def cL:D->Option TK
 |.int i=>some (.inl i)
 |.str x=>some (.inr x)
 |.tup l=>(lQ l).bind λks=>if TK.ok 8 (.tp ks)=true then some (.tp ks) else none
 |_=>none
mutual
theorem e8p:∀{d:D} {k:TK},oM d=some k->k.d=d
 |.int i,k,e=>by simp only[oM] at e;cases e;simp[TK.d]
 |.str i,k,e=>by simp only[oM] at e;cases e;simp[TK.d]
 |.tup l,k,e=>by
  simp only[oM] at e;obtain⟨ks,h1,rfl⟩:=iM.mp e;simp only[TK.d];rw[pA h1]
 |.bH,k,e=>by simp[oM] at e
 |.bl _,k,e=>by simp[oM] at e
 |.ty _,k,e=>by simp[oM] at e
 |.lst _,k,e=>by simp[oM] at e
 |.aE _,k,e=>by simp[oM] at e
 |.fK _,k,e=>by simp[oM] at e
 |.exc _ _,k,e=>by simp[oM] at e
theorem pA:∀{l:List D} {ks:List TK},lQ l=some ks->TK.dl ks=l
 |[],ks,e=>by simp only[lQ] at e;cases e;simp[TK.dl]
 |d::l,ks,e=>by
  simp only[lQ] at e;obtain⟨k,h1,e⟩:=eQ.mp e;obtain⟨ks',h2,rfl⟩:=iM.mp e;simp only[TK.dl];rw[e8p h1,pA h2]
end
def mS{d:D}{k:TK}(e:cL d=some k):k.d=d/\k.ok 8=true:=by
 cases d with
 |int i=>cases e;exact⟨by simp[TK.d],rfl⟩
 |str i=>cases e;exact⟨by simp[TK.d],rfl⟩
 |tup l=>
  simp only[cL] at e;obtain⟨ks,h1,e⟩:=eQ.mp e;split at e
  .rename_i h
   cases e;exact⟨by simp only[TK.d];rw[pA h1],h⟩
  .cases e
 |_=>cases e
def jb:O->Option (List (TK×D))
 |.Y (.aE kvs)=>some kvs
 |.aE kvs=>some (O.dk kvs)
 |_=>none
def xQ{α β:Type}:∀{ws:List (TK×α)} {kvs:List (TK×β)},ws.map (·.1)=kvs.map (·.1)->ws.map (·.1.d)=kvs.map (·.1.d):=λ{ws kvs} h=>by
 have:=congrArg (List.map TK.d) h;rw[lU,lU] at this;exact this
def WH{F H:Hp}{x:V}{o:O}{B:List Addr}{kvs:List (TK×D)}(le:aF F H)(h:ag K F H [some x] [some o] B)(e:jb o=some kvs):∃a ws ep,x=.ref a/\H a=some (.dG ws ep)/\ws.map (·.1)=kvs.map (·.1)/\aj K H (ws.map (·.2.1)) (ws.map (·.1.d))/\aj K H (ws.map (·.2.2)) (kvs.map (·.2)):=by
 have r:=pP le h;have ed:o.d=.aE kvs:=by
  cases o with
  |Y d=>cases d <;> cases e;rfl
  |aE _=>cases e;rfl
  |_=>cases e
 rw[ed] at r;cases r with
 |flat z _=>cases z
 |aE q k r i _=>exact⟨_,_,_,rfl,q,k,by rw[xQ k];exact r,i⟩
def jM(kvs:List (TK×D))(k:TK):Option D:=(kvs.find? λkv=>decide (kv.1=k)).map (·.2)
theorem Jw{F:Hp}{k:TK}:∀{ws:List (TK×V×V)} {kvs:List (TK×D)},ws.map (·.1)=kvs.map (·.1)->aj K F (ws.map (·.2.2)) (kvs.map (·.2))->(jq ws k=none/\jM kvs k=none)\/∃v d,jq ws k=some v/\jM kvs k=some d/\aj K F [v] [d]
 |[],[],_,_=>.inl ⟨rfl,rfl⟩
 |w::ws,p::kvs,h,r=>by
  rw[cS,cS] at h;injection h with h1 h2;unfold jq jM;rw[tV,tV,h1];by_cases e:p.1=k
  .rw[fY e];exact .inr ⟨w.2.2,p.2,rfl,rfl,r.inv.1⟩
  .rw[iu e];exact Jw h2 r.inv.2
 |[],_::_,h,_=>by simp at h
 |_::_,[],h,_=>by simp at h
def UM{F:Hp}{k:TK}{ws:List (TK×V×V)}{kvs:List (TK×D)}(h:ws.map (·.1)=kvs.map (·.1))(r:aj K F (ws.map (·.2.2)) (kvs.map (·.2))):(jq ws k).isSome=(jM kvs k).isSome:=by
 rcases Jw (k:=k) h r with⟨e1,e2⟩|⟨v,d,e1,e2,_⟩ <;> rw[e1,e2] <;> rfl
def cg(neg:Bool):List O->Option O
 |[a,b]=>match jb b with
  |some kvs=>(match a with
   |.Y d=>(cL d).bind λk=>some (.Y (.bl (if neg then !(jM kvs k).isSome else(jM kvs k).isSome)))
   |_=>none)
  |none=>(match a,b with
   |.Y (.str i),.Y (.str j)=>some (.Y (.bl (if neg then !(!(Builtin.Str.occurrences j i 0 j.length 1).isEmpty) else !(Builtin.Str.occurrences j i 0 j.length 1).isEmpty)))
   |a,b=>(oj b.d).bind λds=>if cQ 40 a.d=true/\ds.all (cQ 40)=true then some (.Y (.bl (if neg then !ds.any λz=>aU z a.d else ds.any λz=>aU z a.d))) else none)
 |_=>none
def oI(neg:Bool):cM K (mV (yL K neg)) (cg neg):=by
 intro F H vs os o Q le eY e res;unfold cg at e;split at e
 .rename_i a b
  obtain⟨x,y,B,C,rfl,h1,h2⟩:=eY.two;cases q:jb b with
  |some kvs=>
   rw[q] at e;dsimp only at e;cases a with
   |Y d=>
    dsimp only at e;cases q2:cL d with
    |none=>rw[q2] at e;cases e
    |some k=>
     rw[q2] at e;cases e;obtain⟨p,ws,ep,rfl,hp,hk,rk,hr⟩:=WH le h2 q;refine⟨_,_,rfl,.inr (.inr ⟨p,jq ws k,rfl,⟨ws,ep,k,hp,rk,by rw[(mS q2).1];exact pP le h1,(mS q2).2,rfl⟩,?_⟩)⟩
     rw[UM hk hr];exact res.flat rfl
   |_=>cases e
  |none=>
   rw[q] at e;dsimp only at e;split at e
   .cases e;cases iS h1 rfl;cases iS h2 rfl;exact⟨_,_,rfl,.inr (.inl ⟨_,_,rfl,rfl,res.flat rfl⟩)⟩
   .cases q3:oj b.d with
    |none=>rw[q3] at e;cases e
    |some ds=>
     rw[q3] at e;dsimp only[Option.bind] at e;split at e
     .rename_i hh
      cases e;exact⟨_,_,rfl,.inl ⟨_,_,ds,pP le h1,pP le h2,q3,hh.1,hh.2,res.flat rfl⟩⟩
     .cases e
 .cases e
def D_(neg:Bool):R2:=λx y H Q=>(y=.bH/\Q (.bl (if neg then !decide (x=.bH) else decide (x=.bH))) H)\/∃a b,x=.bl a/\y=.bl b/\Q (.bl (if neg then a != b else a == b)) H
def Ys:gd X (compareOp .IsNot) (D_ true):=vf.or Ya
def sW:O->Bool
 |.Y .bH=>true
 |_=>false
def SW(neg b:Bool):O->Option O
 |.Y (.bl a)=>some (.Y (.bl (if neg then a != b else a == b)))
 |_=>none
def SX(neg:Bool)(a:O):O->Option O
 |.Y .bH=>some (.Y (.bl (if neg then !sW a else sW a)))
 |.Y (.bl b)=>SW neg b a
 |_=>none
def qJ(neg:Bool):List O->Option O
 |[a,b]=>SX neg a b
 |_=>none
def WI{F H:Hp}{x:V}{o:O}{B:List Addr}(h:ag K F H [some x] [some o] B):decide (x=.bH)=sW o:=by
 cases h with
 |@Y _ d _ _ _ r _=>
  cases r with
  |flat q _=>cases d <;> cases q <;> rfl
  |lst _ _ _=>rfl
  |tup _ _ _=>rfl
  |aE _ _ _ _ _=>rfl
  |fK _ _=>rfl
  |exc _ _=>rfl
 |lst _ _ _=>rfl
 |tup _ _ _=>rfl
 |aE _ _ _ _ _=>rfl
def e8q(neg:Bool):cM K (mV (D_ neg)) (qJ neg):=by
 intro F H vs os o Q le eY e res;unfold qJ at e;split at e
 .obtain⟨x,y,B,C,rfl,h1,h2⟩:=eY.two;unfold SX at e;split at e
  .cases e;cases iS h2 rfl;refine⟨_,_,rfl,.inl ⟨rfl,?_⟩⟩;rw[WI h1];exact res.flat rfl
  .unfold SW at e;split at e
   .cases e;cases iS h1 rfl;cases iS h2 rfl;exact⟨_,_,rfl,.inr ⟨_,_,rfl,rfl,res.flat rfl⟩⟩
   .cases e
  .cases e
 .cases e
def Ea(K:FG):R2:=λx y H Q=>yM K x y H Q\/yN K x y H Q\/Eb x y H Q\/∃a v,x=.ref a/\i_ K H a y (some v)/\Q v H
def Yt(hu:X.A.units+9<cLine):qr X (λx y H Q=>∃a v,x=.ref a/\i_ X.K H a y (some v)/\Q v H):=by
 intro value slice ae s Z H x y v u Q I rx ry h hs;obtain⟨a,w,rfl,g,q⟩:=h;cases rx;exact tail_any (g.ty I).1 PySem.F.slot_dict_getitem.lookup (Og hu I g ry λw' s3 I3 rE=>⟨w,H,I3,rE,q⟩) hs
def KW(K:FG)(hu:X.A.units+41<cLine)(hK:X.K=K:=by rfl):qr X (Ea K):=by
 subst hK;exact(Wv X.K rfl).or ((Ye X.K rfl).or (yw.or (Yt (by lia))))
def jn:O->Option O
 |.Y d=>some (.Y d)
 |_=>none
def jo(kvs:List (TK×O))(k:TK):Option O:=(kvs.find? λkv=>decide (kv.1=k)).map (·.2)
def intD:D->Option Int
 |.int k=>some k
 |_=>none
def xG{i:D}{k:Int}(h:intD i=some k):i=.int k:=by
 cases i with
 |int _=>cases h;rfl
 |_=>cases h
def ixD(d i:D):Option O:=match d with
 |.lst ds=>(intD i).bind λk=>(cN ds k).map .Y
 |.tup ds=>(intD i).bind λk=>(cN ds k).map .Y
 |.fK ns=>(intD i).bind λk=>(cN (ns.map D.int) k).map .Y
 |.str z=>(intD i).bind λk=>if z.length<=1000000 then(cN z.cps.toList k).map λc=>.Y (.str ⟨#[c]⟩) else none
 |.aE kvs=>(cL i).bind λk=>(jM kvs k).map .Y
 |_=>none
def eE(a:O)(i:D):Option O:=match a with
 |.Y d=>ixD d i
 |.lst os=>(intD i).bind λk=>(cN os k).bind jn
 |.tup os=>(intD i).bind λk=>(cN os k).bind jn
 |.aE kvs=>(cL i).bind λk=>(jo kvs k).bind jn
def bB:List O->Option O
 |[a,.Y i]=>eE a i
 |_=>none
def Jx{F:Hp}{ws:List V}{ds:List D}{i:Int}{d:D}(r:aj K F ws ds)(e:cN ds i=some d):∃v,cN ws i=some v/\aj K F [v] [d]:=by
 unfold cN at e ⊢;rw[r.length];cases q:mH ds.length i with
 |none=>rw[q] at e;cases e
 |some j=>
  rw[q] at e;exact r.get e
theorem PY{F H:Hp}:∀{ws:List V} {os:List O} {B:List Addr} {j:Nat} {d:D},ag K F H (ws.map some) (os.map some) B->os[j]?=some (.Y d)->∃v,ws[j]?=some v/\aj K F [v] [d]
 |w::ws,o::os,B,0,d,h,e=>by
  obtain⟨B1,B2,h1,h2,_⟩:=ag.one h;simp at e;subst e;cases h1 with
  |Y r _=>exact⟨w,rfl,r⟩
 |w::ws,o::os,B,j+1,d,h,e=>by
  obtain⟨B1,B2,h1,h2,_⟩:=ag.one h;obtain⟨v,g1,g2⟩:=PY (j:=j) h2 (by simpa using e)
  exact⟨v,by simpa using g1,g2⟩
 |[],[],_,_,_,_,e=>by simp at e
 |[],_::_,_,_,_,h,_=>by have:=h.length;simp at this
 |_::_,[],_,_,_,h,_=>by have:=h.length;simp at this
def PZ{F H:Hp}{ws:List V}{os:List O}{B:List Addr}{i:Int}{o:O}(r:ag K F H (ws.map some) (os.map some) B)(e:(cN os i).bind jn=some o):∃v d,cN ws i=some v/\aj K F [v] [d]/\o=.Y d:=by
 have hl:ws.length=os.length:=by have:=r.length;simpa using this
 unfold cN at e ⊢;rw[hl];cases q:mH os.length i with
 |none=>rw[q] at e;cases e
 |some j=>
  rw[q] at e;dsimp only[Option.bind] at e;cases q2:os[j]? with
  |none=>rw[q2] at e;cases e
  |some o'=>
   rw[q2] at e;dsimp only at e;cases o' with
   |Y d=>cases e;obtain⟨v,g1,g2⟩:=PY r q2;exact⟨v,d,g1,g2,rfl⟩
   |_=>cases e
def qU{F H:Hp}{v:V}{d:D}{B:List Addr}(h:ag K F H [some v] [some (.Y d)] B):aj K F [v] [d]:=by
 cases h with
 |Y r _=>exact r
theorem P0{F H:Hp}{k:TK}{d:D}:∀{ws:List (TK×V×V)} {kvs:List (TK×O)} {B:List Addr},ws.map (·.1)=kvs.map (·.1)->ag K F H (ws.map λp=>some p.2.2) (kvs.map λp=>some p.2) B->jo kvs k=some (.Y d)->∃v,jq ws k=some v/\aj K F [v] [d]
 |[],[],_,_,_,e=>by cases e
 |w::ws,p::kvs,B,h,r,e=>by
  rw[cS,cS] at h;injection h with h1 h2;obtain⟨B1,B2,g1,g2,_⟩:=ag.one r;unfold jo at e;unfold jq;rw[tV] at e ⊢;rw[h1];by_cases q:p.1=k
  .rw[fY q] at e ⊢;have e:some p.2=some (.Y d):=e;injection e with e;have g1:ag K F H [some w.2.2] [some p.2] B1:=g1;rw[e] at g1;exact⟨w.2.2,rfl,qU g1⟩
  .rw[iu q] at e ⊢;exact P0 h2 g2 e
 |[],_::_,_,h,_,_=>by simp at h
 |_::_,[],_,h,_,_=>by simp at h
def e8s:cM K (mV (Ea K)) bB:=by
 intro F H vs os o Q le eY e res;unfold bB at e;split at e
 .rename_i a i
  obtain⟨x,y,B,C,rfl,h1,h2⟩:=eY.two;refine⟨_,_,rfl,?_⟩;cases h1 with
  |@Y _ da _ _ _ r _=>
   cases r with
   |lst sq ri _=>
    obtain⟨k,hk,ee⟩:=eQ.mp (show(intD i).bind (λk=>(cN _ k).map O.Y)=some o from e)
    cases xG hk;cases iS h2 rfl;obtain⟨d,q1,q2⟩:=iM.mp ee;subst q2;obtain⟨v,g1,g2⟩:=Jx ri q1;exact .inl ⟨_,_,_,v,rfl,rfl,.inl (le.rd sq),g1,res.Y g2⟩
   |exc _ _=>cases e
   |@fK _ ns _ _ sq _=>
    obtain⟨k,hk,ee⟩:=eQ.mp (show(intD i).bind (λk=>(cN (ns.map D.int) k).map O.Y)=some o from e)
    cases xG hk;cases iS h2 rfl;obtain⟨d,q1,q2⟩:=iM.mp ee;subst q2;obtain⟨v,g1,g2⟩:=Jx (IV (K:=K) (F:=F) ns) q1;exact .inl ⟨_,_,_,v,rfl,rfl,le.seq sq,g1,res.Y g2⟩
   |tup sq ri _=>
    obtain⟨k,hk,ee⟩:=eQ.mp (show(intD i).bind (λk=>(cN _ k).map O.Y)=some o from e)
    cases xG hk;cases iS h2 rfl;obtain⟨d,q1,q2⟩:=iM.mp ee;subst q2;obtain⟨v,g1,g2⟩:=Jx ri q1;exact .inr (.inl ⟨_,_,_,v,rfl,rfl,le.mK sq,g1,res.Y g2⟩)
   |@aE _ ws es ep _ _ hd hk rk ri _=>
    obtain⟨k,q,e⟩:=eQ.mp (show(cL i).bind (λk=>(jM es k).map O.Y)=some o from e)
    obtain⟨d,q1,q2⟩:=iM.mp e;subst q2;rcases Jw (k:=k) hk ri with⟨_,z⟩|⟨v,d',g1,g2,g3⟩
    .rw[q1] at z;cases z
    .rw[q1] at g2;cases g2;exact .inr (.inr (.inr ⟨_,v,rfl,⟨ws,ep,k,le _ _ hd,by rw[xQ hk];exact rk.mono le,by rw[(mS q).1];exact pP le h2,(mS q).2,g1.symm⟩,res.Y g3⟩))
   |flat z _=>
    cases da with
    |str zz=>
     obtain⟨k,hk,ee⟩:=eQ.mp (show(intD i).bind (λk=>if zz.length<=1000000 then(cN zz.cps.toList k).map λc=>O.Y (.str ⟨#[c]⟩) else none)=some o from e)
     cases xG hk;split at ee
     .obtain⟨c,q1,q2⟩:=iM.mp ee;subst q2;cases z;cases iS h2 rfl;exact .inr (.inr (.inl ⟨_,_,c,rfl,rfl,ml (by assumption),q1,res.flat rfl⟩))
     .cases ee
    |bH=>cases e
    |bl _=>cases e
    |int _=>cases e
    |ty _=>cases e
    |_=>cases z
  |lst sq ri _=>
   obtain⟨k,hk,ee⟩:=eQ.mp (show(intD i).bind (λk=>(cN _ k).bind jn)=some o from e)
   cases xG hk;cases iS h2 rfl;obtain⟨v,d,g1,g2,rfl⟩:=PZ ri ee;exact .inl ⟨_,_,_,v,rfl,rfl,dX.of sq,g1,res.Y g2⟩
  |tup sq ri _=>
   obtain⟨k,hk,ee⟩:=eQ.mp (show(intD i).bind (λk=>(cN _ k).bind jn)=some o from e)
   cases xG hk;cases iS h2 rfl;obtain⟨v,d,g1,g2,rfl⟩:=PZ ri ee;exact .inr (.inl ⟨_,_,_,v,rfl,rfl,gL.of sq,g1,res.Y g2⟩)
  |@aE _ ws es ep _ _ _ _ hd hk rk ri _=>
   obtain⟨k,q,e⟩:=eQ.mp (show(cL i).bind (λk=>(jo es k).bind jn)=some o from e)
   obtain⟨o',q2,e⟩:=eQ.mp e;cases o' with
   |Y d=>
    cases e;obtain⟨v,g1,g2⟩:=P0 hk ri q2;exact .inr (.inr (.inr ⟨_,v,rfl,⟨ws,ep,k,hd,by rw[xQ hk];exact rk.mono le,by rw[(mS q).1];exact pP le h2,(mS q).2,g1.symm⟩,res.Y g2⟩))
   |_=>cases e
 .cases e
def wY(K:FG):List V->Hp->VK->Prop:=λxs H Q=>(∃p ys,xs=[.ref p]/\(dX K H p ys\/gL K H p ys)/\Q (.int ys.length) H)\/(∃z,xs=[.str z]/\z.length<=sizeLine/\Q (.int z.length) H)
def kc(K:FG)(hK:X.K=K:=by rfl):cT X (.builtin "len") (wY K):=(Uj K hK).or Uq
def vc:D->Option Int
 |.lst ds=>some ds.length
 |.tup ds=>some ds.length
 |.str z=>if z.length<=1000000 then some z.length else none
 |.fK ns=>some ns.length
 |_=>none
def cI:List O->Option O
 |[a]=>(vc a.d).map λn=>.Y (.int n)
 |_=>none
def ke:cM K (wY K) cI:=by
 intro F H vs os o Q le eY e res;unfold cI at e;split at e
 .rename_i a
  obtain⟨x,B,rfl,h1⟩:=eY.one;obtain⟨n,q1,q2⟩:=iM.mp e;subst q2;have r:=pP le h1;cases hd:a.d with
  |lst ds=>
   rw[hd] at q1 r;cases q1;cases r with
   |flat z _=>cases z
   |lst sq ri _=>exact .inl ⟨_,_,rfl,.inl (.inl sq),by rw[ri.length];exact res.flat rfl⟩
  |tup ds=>
   rw[hd] at q1 r;cases q1;cases r with
   |flat z _=>cases z
   |tup sq ri _=>exact .inl ⟨_,_,rfl,.inr sq,by rw[ri.length];exact res.flat rfl⟩
  |str z=>
   rw[hd] at q1 r;unfold vc at q1;dsimp only at q1;split at q1
   .cases q1;cases r with
    |flat z _=>cases z;exact .inr ⟨_,rfl,ml (by assumption),res.flat rfl⟩
   .cases q1
  |fK ns=>
   rw[hd] at q1 r;cases q1;cases r with
   |flat z _=>cases z
   |fK sq _=>exact .inl ⟨_,_,rfl,.inl sq,by rw[bz];exact res.flat rfl⟩
  |_=>rw[hd] at q1;cases q1
 .cases e
def jh:D->Option String
 |.bH=>some "NoneType"
 |.bl _=>some "bool"
 |.int _=>some "int"
 |.str _=>some "str"
 |.lst _=>some "list"
 |.tup _=>some "tuple"
 |_=>none
def cx:List O->Option O
 |[a,.Y (.ty T)]=>if T="int"\/T="str"\/T="bool"\/T="list"\/T="tuple" then(jh a.d).map λk=>.Y (.bl (jJ k T)) else none
 |_=>none
def WJ{H:Hp}{x:V}{d:D}{k:String}(r:aj K H [x] [d])(e:jh d=some k):Gp K H x k:=by
 cases r with
 |flat q _=>cases d <;> cases e <;> cases q <;> rfl
 |lst sq _ _=>cases e;exact .inl ⟨rfl,_,.inl sq⟩
 |tup sq _ _=>cases e;exact .inr ⟨rfl,_,sq⟩
 |aE _ _ _ _ _=>cases e
 |fK _ _=>cases e
 |exc _ _=>cases e
def qz:cM K (λxs H Q=>∃x k T,xs=[x,.ty T]/\Gp K H x k/\(T="int"\/T="str"\/T="bool"\/T="list"\/T="tuple")/\Q (.bl (jJ k T)) H) cx:=by
 intro F H vs os o Q le eY e res;unfold cx at e;split at e
 .split at e
  .obtain⟨x,y,B,C,rfl,h1,h2⟩:=eY.two;obtain⟨k,q1,q2⟩:=iM.mp e;subst q2;cases iS h2 rfl;exact⟨x,k,_,rfl,WJ (pP le h1) q1,by assumption,res.flat rfl⟩
  .cases e
 .cases e
def n8:List O->Option O
 |[.Y (.int i)]=>some (.Y (.int i))
 |[.Y (.bl b)]=>some (.Y (.int (if b then 1 else 0)))
 |_=>none
def P1:cM K (λxs H Q=>(∃i,xs=[.int i]/\Q (.int i) H)\/∃k,xs=[.bl k]/\Q (.int (if k then 1 else 0)) H) n8:=by
 intro F H vs os o Q le eY e res;unfold n8 at e;split at e
 .cases e;obtain⟨x,B,rfl,h1⟩:=eY.one;cases iS h1 rfl;exact .inl ⟨_,rfl,res.flat rfl⟩
 .cases e;obtain⟨x,B,rfl,h1⟩:=eY.one;cases iS h1 rfl;exact .inr ⟨_,rfl,res.flat rfl⟩
 .cases e
def Ei(o:O):Option (List D):=match dH o with
 |some ds=>some ds
 |none=>vy o
def iO:List O->Option O
 |[a]=>(Ei a).map λds=>.lst (ds.map .Y)
 |_=>none
def FQ:cM K (λxs H Q=>∃p ys,xs=[.ref p]/\(dX K H p ys\/gL K H p ys)/\∀l,H l=none->Q (.ref l) (upd H l (.lst ys))) iO:=by
 intro F H vs os o Q le eY e res;unfold iO at e;split at e
 .rename_i a
  obtain⟨x,B,rfl,h1⟩:=eY.one;obtain⟨ds,q1,q2⟩:=iM.mp e;subst q2;unfold Ei at q1;cases q:dH a with
  |some Kx=>
   rw[q] at q1;cases q1;obtain⟨p,ws,rfl,sq,r⟩:=vP le h1 q;exact⟨p,ws,rfl,.inl sq,λl hl=>res.lst r hl⟩
  |none=>
   rw[q] at q1;obtain⟨p,ws,rfl,sq,r⟩:=PN le h1 q1;exact⟨p,ws,rfl,.inr sq,λl hl=>res.lst r hl⟩
 .cases e
end
def kF(K:FG)(r:V->List V->Hp->VK->Prop)(g:O->List O->Option (O×O)):Prop:=
 ∀(F H:Hp) (x:V) (vs:List V) (o:O) (os:List O) (o' res:O) (Ai Aτ:List Addr) (Q:VK),aF F H->ag K F H [some x] [some o] Ai->ag K F H (vs.map some) (os.map some) Aτ->(Ai++Aτ).Nodup->(∀a∈Ai++Aτ,F a=none)->
  g o os=some (o',res)->
  (∀v H' A' Ar,(∀a u,a∉Ai->H a=some u->H' a=some u)->(∀a,H a≠none->H' a≠none)->ag K F H' [some x] [some o'] A'->ag K F H' [some v] [some res] Ar->aS (Ar++A') (Ai++Aτ)->Q v H')->r x vs H Q
def fA(g:O->List O->Option (O×O))(fo:GE)(fs:GA):GE:=λQ0=>(fo Q0).bind λp=>match p.1 with
 |.var i=>match p.2[i]? with
  |some (some (.lst _))=>(fs p.2).bind λq=>(fT q.1).bind λos=>match q.2[i]? with
   |some (some o)=>(g o os).bind λz=>some (.own z.2,q.2.set i (some z.1))
   |_=>none
  |_=>none
 |_=>none
section
variable{K:FG}{F H:Hp}{A:List Addr}{Z:St}{Q0:Gm}
def WK{g:O->List O->Option (O×O)}{fo:GE}{fs:GA}{Q0 Q0':Gm}{r:R}(e:fA g fo fs Q0=some (r,Q0')):
  ∃i az ps rs cu os o z,fo Q0=some (.var i,az)/\az[i]?=some (some (.lst ps))/\fs az=some (rs,cu)/\fT rs=some os/\cu[i]?=some (some o)/\g o os=some z/\r=.own z.2/\Q0'=cu.set i (some z.1):=by
 unfold fA at e;cases q:fo Q0 with
 |none=>rw[q] at e;cases e
 |some p=>
  obtain⟨r1,az⟩:=p;rw[q] at e;dsimp only[Option.bind] at e;cases r1 with
  |own _=>cases e
  |var i=>
   dsimp only at e;split at e
   .rename_i ps h1
    cases q2:fs az with
    |none=>rw[q2] at e;cases e
    |some p2=>
     obtain⟨rs,cu⟩:=p2;rw[q2] at e;dsimp only at e;cases q3:fT rs with
     |none=>rw[q3] at e;cases e
     |some os=>
      rw[q3] at e;dsimp only at e;split at e
      .rename_i o h2
       cases q4:g o os with
       |none=>rw[q4] at e;cases e
       |some z=>rw[q4] at e;cases e;exact⟨i,az,ps,rs,cu,os,o,z,rfl,h1,q2,q3,h2,q4,rfl,rfl⟩
      .cases e
   .cases e
def OK.sT{vs:List V}{os:List O}{i:Nat}{x:V}{o o' res:O}{g:O->List O->Option (O×O)}{r:V->List V->Hp->VK->Prop}{Q:VK}(ok:kF K r g)(k:OK K F H (vs.map some++Z) (os.map some++Q0) A)(hx:Z[i]?=some (some x))(ho:Q0[i]?=some (some o))
  (hl:vs.length=os.length) (e:g o os=some (o',res)) (q:∀v H' A',Ext F H A F H' A'->OK K F H' (some v::Z) (some res::Q0.set i (some o')) A'->Q v H'):r x vs H Q:=by
 obtain⟨B,C,h1,h2,h3⟩:=ag.split (by simpa using hl) k.os
 subst h3;obtain⟨x',Ai,C',g1,g2,g3,g4⟩:=h2.take ho;rw[hx] at g1;cases g1;have p1:(B++C).Perm ((Ai++B)++C'):=by
  refine(List.Perm.append_left B g4).trans ?_;rw[<-gz];exact qO.append_right _
 have nd:((Ai++B)++C').Nodup:=p1.nodup_iff.mp k.nd;have fr:∀a∈(Ai++B)++C',F a=none:=λa m=>k.fr a (p1.mem_iff.mpr m)
 obtain⟨n1,n2,n3⟩:=lC.mp nd;have nC:∀a∈C',a∉Ai:=λa m z=>n3 a (jN _ z) a m rfl
 refine ok F H x vs o os o' res Ai B Q k.le g2 h1 n1 (λa m=>fr a (jN _ m)) e λv H' A' Ar kp dm w1 w2 sp=>?_
 have s2:aS ((Ar++A')++C') ((Ai++B)++C'):=sp.app (aS.refl C');have hi:i<Q0.length:=(eO.mp ho).1;have Lc:ag K F H' Z (Q0.set i none) C':=g3.keep (aF.refl _) λa m u e=>kp a u (nC a m) e
 obtain⟨D,j1,C2,j2,j3⟩:=ag.put w1 i Lc (by rw[ED];exact hi)
 rw[xA hx,MU] at j1;have s3:aS (Ar++D) (B++C):=by
  have a1:aS (Ar++D) (Ar++(A'++C')):=(aS.refl Ar).app ((aS.bV j2).trans ((aS.refl A').app (.bD j3)));rw[<-gz] at a1;exact a1.trans (s2.trans (.bV p1.symm))
 refine q v H' (Ar++D) ⟨aF.refl _,λa u e n=>kp a u (λm=>n (p1.mem_iff.mpr (by simp[m]))) e,dm,λa h=>.inl h,λa m=>.inl (s3.mem a m)⟩ ⟨λa u e=>?_,w2.app j1,s3.nodup k.nd,λa m=>k.fr a (s3.mem a m)⟩
 refine kp a u (λm=>?_) (k.le a u e)
 rw[fr a (by simp[m])] at e
 cases e
end
section
variable{X:Cx}{K:FG}{o e:Expr}{es:List Expr}{fo:GE}{fs:GA}{name:Str}{apos cW:Pos}{id:String}{r:V->List V->Hp->VK->Prop}{g:O->List O->Option (O×O)}
def ρ(ok:kF K r g){Z:St}{H:Hp}{Q:VK}(t:tG K (fA g fo fs) Z H Q):Mr K "list" r (tG K fo) (kb K fs) Z H Q:=by
 obtain⟨F,A,Q0,rr,Q0',k,e,w⟩:=t;obtain⟨i,az,ps,rs,cu,os,o,z,e1,e2,e3,e4,e5,e6,rfl,rfl⟩:=WK e;refine⟨F,A,Q0,_,az,k,e1,λx H1 p=>?_⟩
 obtain⟨F1,A1,x1,k1,hh⟩:=p;have hx:Z[i]?=some (some x):=hh.1;obtain⟨k2,x2⟩:=k1.sub (Z':=Z) (Q0':=az) (by cases k1.os with|skip t=>exact t) (aS.refl _)
 refine⟨?_,F1,A1,az,rs,cu,k2,e3,λvs H2 p2=>?_⟩
 .obtain⟨v,Ai,B,g1,g2,_⟩:=k2.os.take e2;rw[hx] at g1;cases g1;cases g2 with
  |lst hq _ _=>exact .inl ⟨rfl,_,dX.of hq⟩
 .obtain⟨F3,A3,x3,k3,h3⟩:=p2;rw[uL e4] at k3;have hl:vs.length=os.length:=by
   have:=h3.length;have h4:=congrArg List.length (uL e4);simp at h4;lia
  exact OK.sT ok k3 hx e5 hl e6 λv H' A' x4 k4=>w v H' ⟨F3,A',(x1.trans (x2.trans (x3.trans x4))),k4,iJ⟩
def oG(slot:Slot "list" name id)(yq:typeOf (.builtin id)=pure (.type "method_descriptor"))(hm:xq X id r)(ok:kF K r g)(ho:PE X o (tG K fo))(ha:PA X (e::es) (kb K fs))
  (nN:attributeBase o name X.env (eval o X.env)=eval o X.env:=by rfl)
  (sE:((backTo cW (starEach (e::es) X.env)).all (λx => !x.1)&&(backToKw cW (keywordEach [] X.env)).all (λx=>x.1.isSome)
   && decide ((e::es).length+([]:List Keyword).length+(if([]:List Keyword).isEmpty then 0 else 1)<30))=true:=by rfl)
  (nO:(apos.endLine == cW.line)=true:=by rfl) (hs:starEach (e::es) X.env=(false,eval e X.env)::starEach es X.env:=by rfl) (kO:(backTo cW (starEach es X.env)).any (·.1)=false:=by rfl) (hK:X.K=K:=by rfl) :
  PE X (.Call (.Attribute o name apos) (e::es) [] cW) (tG K (fA g fo fs)):=by
 subst hK;exact(RU PySem.F.plainAttrs_list slot yq hm ho ha nN sE nO hs kO).mono λ_ _ _ t=>ρ ok t
end
section
variable{K:FG}{F H:Hp}{l:Addr}{ws Ak:List V}{ps Ab:List O}{Ap A':List Addr}
def UN(hn:l∉A')(h:ag K F H (Ak.map some) (Ab.map some) A'):ag K F (upd H l (.lst Ak)) [some (.ref l)] [some (.lst Ab)] (l::A'++[]):=
 .lst jt (h.keep (aF.refl _) λa m u e=>by rw[cZ (λz=>hn (by rw[<-z];exact m):a≠l)];exact e) .nil
def OX{o:HO}{Ai:List Addr}(hm:l∈Ai):∀a u,a∉Ai->H a=some u->upd H l o a=some u:=λa u n e=>by
 rw[cZ (λz=>n (by rw[z];exact hm):a≠l)];exact e
def By{o:HO}:∀a,H a≠none->upd H l o a≠none:=λa h=>by
 by_cases z:a=l
 .rw[z,jt];exact λz=>by cases z
 .rw[cZ z];exact h
def Ft{x:V}{Ai Aτ:List Addr}{Q:VK}{o:O}(h:ag K F H [some x] [some o] Ai)(hps:o=.lst ps)(nd:(Ai++Aτ).Nodup){o' res:O}
  (q:∀v H' A' Ar,(∀a u,a∉Ai->H a=some u->H' a=some u)->(∀a,H a≠none->H' a≠none)->ag K F H' [some x] [some o'] A'->ag K F H' [some v] [some res] Ar->aS (Ar++A') (Ai++Aτ)->Q v H') :
  ∃l ws Ap,x=.ref l/\H l=some (.lst ws)/\ag K F H (ws.map some) (ps.map some) Ap/\(Ap++Aτ).Nodup/\∀Ak Ab A' v Ar,o'=.lst Ab->ag K F H (Ak.map some) (Ab.map some) A'->ag K F H [some v] [some res] Ar->aS (Ar++A') (Ap++Aτ)->Q v (upd H l (.lst Ak)):=by
 subst hps;cases h with
 |@lst l ws _ Ap B _ _ hl i t=>
  have eB:B=[]:=by cases t;rfl
  subst eB;rw[kZ] at nd q;obtain⟨nl,DK⟩:=hU.mp (by simpa using nd:(l::(Ap++Aτ)).Nodup)
  refine⟨l,ws,Ap,rfl,hl,i,DK,λAk Ab A' v Ar eo w1 w2 sp=>?_⟩
  subst eo;have nA:l∉A':=λm=>nl (sp.mem l (hG _ m))
  have nR:l∉Ar:=λm=>nl (sp.mem l (jN _ m))
  refine q v _ _ Ar (OX (by simp)) By (UN nA w1) (w2.keep (aF.refl _) λa m u e=>by rw[cZ (λz=>nR (by rw[<-z];exact m):a≠l)];exact e) ?_
  rw[kZ];have s1:aS (Ar++l::A') (l::(Ar++A')):=.bV (by simpa using List.perm_middle)
  refine s1.trans ?_;obtain⟨L,p1,p2⟩:=sp;exact⟨l::L,p1.cons l,by rw[HN];exact p2.cons_cons l⟩
def Bz:ag K F H [some .bH] [some (.Y .bH)] []:=.Y (.flat rfl .nil) .nil
def pQ:O->List O->Option (O×O)
 |.lst ps,[y]=>if ps.length<1000000 then some (.lst (ps++[y]),.Y .bH) else none
 |_,_=>none
def uJ:kF K PD pQ:=by
 intro F H x vs o os o' res Ai Aτ Q le h1 h2 nd fr e q;unfold pQ at e;split at e
 .rename_i ps y
  split at e
  .rename_i hz
   cases e;obtain⟨l,ws,Ap,rfl,hl,i,DK,go⟩:=Ft h1 rfl nd q
   match vs,h2 with
   |[v],h2=>
    have hlen:ws.length=ps.length:=by have:=i.length;simpa using this
    refine⟨l,ws,v,rfl,rfl,hl,iG (by lia:ws.length<1000000) (by decide),?_⟩
    refine go (ws++[v]) (ps++[y]) (Ap++Aτ) .bH [] rfl ?_ Bz (aS.refl _);rw[iH,iH];exact i.app h2
   |[],h2=>have:=h2.length;simp at this
   |_::_::_,h2=>have:=h2.length;simp at this
  .cases e
 .cases e
def vY:O->List O->Option (O×O)
 |.lst ps,[.Y (.int i),y]=>if 0<=i/\i<1000000/\ps.length<1000000 then some (.lst (ps.take i.toNat++y::ps.drop i.toNat),.Y .bH) else none
 |_,_=>none
def Bf:kF K PK vY:=by
 intro F H x vs o os o' res Ai Aτ Q le h1 h2 nd fr e q;unfold vY at e;split at e
 .rename_i ps k y
  split at e
  .rename_i hz
   cases e;obtain⟨l,ws,Ap,rfl,hl,i,DK,go⟩:=Ft h1 rfl nd q
   match vs,h2 with
   |[v,v'],h2=>
    have hlen:ws.length=ps.length:=by have:=i.length;simpa using this
    obtain⟨rfl,h3⟩:=uP h2;refine⟨l,ws,k,v',rfl,rfl,hl,hz.1,by lia,iG (by lia:ws.length<1000000) (by decide),?_⟩
    have es:ag K F H ((ws.take k.toNat).map some++(ws.drop k.toNat).map some) ((ps.take k.toNat).map some++(ps.drop k.toNat).map some) Ap:=by
     rw[<-iH,<-iH,vH,vH];exact i
    obtain⟨B,C,g1,g2,g3⟩:=ag.split (by simp[hlen]) es
    subst g3;refine go (qF ws k.toNat v') (ps.take k.toNat++y::ps.drop k.toNat) (B++(Aτ++C)) .bH [] rfl ?_ Bz ?_
    .unfold qF;rw[iH,iH,cS,cS];exact g1.app (h3.app g2)
    .rw[fI,gz];exact(aS.refl B).app (.bV qO)
   |[],h2=>have:=h2.length;simp at this
   |[_],h2=>have:=h2.length;simp at this
   |_::_::_::_,h2=>have:=h2.length;simp at this
  .cases e
 .cases e
end
def tJ(K:FG):qu:=λo i v H Q=>w5 o i v H Q\/∃a H4,o=.ref a/\uG K H a i v H4/\Q H4
def Ky{X:Cx}(hu:X.A.units+41<cLine):uE X (tJ X.K):=by
 intro ae s Z H o i v ov iv u Q I ro ri rv h;rcases h with h|⟨a,H4,rfl,g,q⟩
 .exact Ws ae s Z H o i v ov iv u Q I ro ri rv h
 .cases ro;exact Vt (by lia) I g ri rv λs4 I4=>⟨H4,I4,q⟩
def c_{α:Type}:List (TK×α)->TK->α->List (TK×α)
 |[],k,v=>[(k,v)]
 |e::es,k,v=>if e.1=k then(e.1,v)::es else e::c_ es k v
def Ej(v:O)(i:D):O->Option (O×O)
 |.lst ps=>(intD i).bind λk=>(mH ps.length k).map λj=>(.lst (ps.set j v),.Y .bH)
 |.aE kvs=>(cL i).bind λk=>if kvs.length<1000000 then some (.aE (c_ kvs k v),.Y .bH) else none
 |_=>none
def jK(o:O):List O->Option (O×O)
 |[v,.Y i]=>Ej v i o
 |_=>none
def w6(K:FG):V->List V->Hp->VK->Prop:=λx vs H Q=>∃v i,vs=[v,i]/\tJ K x i v H λH'=>Q .bH H'
section
variable{K:FG}{F H:Hp}
theorem IY{k:TK}{y v:V}{o:O}{Bv:List Addr}(q:ag K F H [some v] [some o] Bv)(ry:aj K F [y] [k.d]):∀{ws:List (TK×V×V)} {kvs:List (TK×O)} {B:List Addr},ws.map (·.1)=kvs.map (·.1)->aj K F (ws.map (·.2.1)) (kvs.map (·.1.d))->
  ag K F H (ws.map λp=>some p.2.2) (kvs.map λp=>some p.2) B->∃C,ag K F H ((gk ws k y v).map λp=>some p.2.2) ((c_ kvs k o).map λp=>some p.2) C/\aS C (Bv++B)/\(gk ws k y v).map (·.1)=(c_ kvs k o).map (·.1)/\
   aj K F ((gk ws k y v).map (·.2.1)) ((c_ kvs k o).map (·.1.d))
 |[],[],B,_,_,h=>⟨Bv,q,.bD (List.sublist_append_left _ _),rfl,ry⟩
 |w::ws,p::kvs,B,hk,rk,h=>by
  rw[cS,cS] at hk;injection hk with h1 h2;obtain⟨B1,B2,g1,g2,rfl⟩:=ag.one h;unfold gk c_;rw[h1];by_cases e:p.1=k
  .rw[aJ e,aJ e];refine⟨Bv++B2,ag.app (τ:=[some v]) (Θ:=[some o]) q g2,.bD ((List.Sublist.refl _).append (mN _ _)),?_,?_⟩
   .simp only[cS,h2]
   .simp only[cS];exact rk
  .rw[aQ e,aQ e];obtain⟨C,j1,j2,j3,j4⟩:=IY q ry h2 rk.inv.2 g2;refine⟨B1++C,ag.app (τ:=[some w.2.2]) (Θ:=[some p.2]) g1 j1,?_,?_,?_⟩
   .refine((aS.refl B1).app j2).trans (.bV ?_);rw[<-gz,<-gz];exact qO.append_right _
   .simp only[cS,h1,j3]
   .exact .cons rk.inv.1 j4
 |[],_::_,_,h,_,_=>by simp at h
 |_::_,[],_,h,_,_=>by simp at h
def Jy{F H:Hp}{v:V}{kvs:List (TK×O)}{A:List Addr}(h:ag K F H [some v] [some (.aE kvs)] A):∃a ws ep Ap,v=.ref a/\A=a::Ap/\H a=some (.dG ws ep)/\ws.map (·.1)=kvs.map (·.1)/\aj K F (ws.map (·.2.1)) (kvs.map (·.1.d))/\ag K F H (ws.map λp=>some p.2.2) (kvs.map λp=>some p.2) Ap:=by
 cases h with
 |@aE a ws _ ep Ap B _ _ hl hk rk ch t=>
  cases t;exact⟨a,ws,ep,Ap,rfl,kZ _,hl,hk,rk,ch⟩
def σ:kF K (w6 K) jK:=by
 intro F H x vs o os o' res Ai Aτ Q le h1 h2 nd fr e q;unfold jK at e;split at e
 case h_2=>cases e
 rename_i ov i
 unfold Ej at e;split at e
 .rename_i ps
  obtain⟨k,hk,e⟩:=eQ.mp e;cases xG hk;obtain⟨j,e1,e2⟩:=iM.mp e;cases e2;obtain⟨l,ws,Ap,rfl,hl,i,DK,go⟩:=Ft h1 rfl nd q;obtain⟨v,v',rfl⟩:=Kw (l:=vs) (by have:=h2.length;simp at this;lia)
  have hlen:ws.length=ps.length:=by have:=i.length;simpa using this
  obtain⟨B1,B2,g1,g2,rfl⟩:=ag.one h2;obtain⟨rfl,g3⟩:=uP g2;cases g3;have hj:j<ps.length:=(Jr e1).2.1;refine⟨v,.int k,rfl,.inl ⟨l,ws,k,j,rfl,rfl,hl,by rw[hlen];exact e1,?_⟩⟩
  obtain⟨D,j1,C2,j2,j3⟩:=ag.put g1 j i (by simpa using hj)
  refine go (ws.set j v) (ps.set j ov) D .bH [] rfl (by rw[MY,MY];exact j1) Bz ?_
  rw[fI,kZ];exact((aS.bV j2).trans ((aS.refl B1).app (.bD j3))).trans (.bV qO)
 .rename_i kvs
  cases q1:cL i with
  |none=>rw[q1] at e;cases e
  |some k=>
   rw[q1] at e;dsimp only[Option.bind] at e;split at e
   .rename_i hz
    cases e;obtain⟨v,v',rfl⟩:=Kw (l:=vs) (by have:=h2.length;simp at this;lia)
    obtain⟨B1,B2,g1,g2,rfl⟩:=ag.one h2;have ry:aj K F [v'] [k.d]:=by rw[(mS q1).1];exact qU g2
    obtain⟨l,ws,ep,Ap,rfl,rfl,hl,hk,rk,ch⟩:=Jy h1;obtain⟨C,j1,j2,j3,j4⟩:=IY (k:=k) g1 ry hk rk ch;have hlen:ws.length=kvs.length:=by have:=congrArg List.length hk;simpa using this
    have nd1:(l::(Ap++(B1++B2))).Nodup:=by simpa using nd
    have nC:l∉C:=λm=>(hU.mp nd1).1 (by
     rcases eI.mp (j2.mem l m) with z|z
     .simp[z]
     .simp[z])
    refine⟨v,v',rfl,.inr ⟨l,_,rfl,⟨ws,ep,k,hl,by rw[xQ hk];exact rk.mono le,ry.mono le,(mS q1).2,iG (by lia:ws.length<1000000) (by decide),rfl⟩,?_⟩⟩
    refine q .bH _ (l::C++[]) [] (OX (by simp)) By (.aE jt j3 j4 (j1.keep (aF.refl _) λa m u e=>by rw[cZ (λz=>nC (by rw[<-z];exact m):a≠l)];exact e) .nil) Bz ?_
    rw[fI,kZ];refine((aS.refl [l]).app j2).trans ⟨l::(Ap++B1),?_,?_⟩
    .show(l::(B1++Ap)).Perm _;exact qO.cons l
    .exact((List.Sublist.refl Ap).append (List.sublist_append_left B1 B2)).cons_cons l
   .cases e
 .cases e
end
def fR(fv fo fi:GE):GS:=λQ0=>(fv Q0).bind λp=>(fo p.2).bind λq=>(fi q.2).bind λr=>match p.1,q.1,r.1 with
 |.own v,.var i,.own y=>match r.2[i]? with
  |some (some o)=>(jK o [v,y]).bind λz=>some (.nx,r.2.set i (some z.1))
  |_=>none
 |_,_,_=>none
section
variable{X:Cx}{K:FG}{m:List Bool}{e o i:Expr}{fv fo fi:GE}{pos pos':Pos}
def Vu{Q0 Q0':Gm}{fl:Fl}(e:fR fv fo fi Q0=some (fl,Q0')):∃v az j cu y oR o z,fv Q0=some (.own v,az)/\fo az=some (.var j,cu)/\fi cu=some (.own y,oR)/\oR[j]?=some (some o)/\jK o [v,y]=some z/\fl=.nx/\Q0'=oR.set j (some z.1):=by
 unfold fR at e;cases q1:fv Q0 with
 |none=>rw[q1] at e;cases e
 |some p=>
  obtain⟨r1,az⟩:=p;rw[q1] at e;dsimp only[Option.bind] at e;cases q2:fo az with
  |none=>rw[q2] at e;cases e
  |some p=>
   obtain⟨r2,cu⟩:=p;rw[q2] at e;dsimp only at e;cases q3:fi cu with
   |none=>rw[q3] at e;cases e
   |some p=>
    obtain⟨r3,oR⟩:=p;rw[q3] at e;dsimp only at e;cases r1 with
    |var _=>cases e
    |own v=>
     cases r2 with
     |own _=>cases e
     |var j=>
      cases r3 with
      |var _=>cases e
      |own y=>
       dsimp only at e;split at e
       .rename_i oo h
        cases q4:jK oo [v,y] with
        |none=>rw[q4] at e;cases e
        |some z=>rw[q4] at e;cases e;exact⟨v,az,j,cu,y,oR,oo,z,rfl,q2,q3,h,q4,rfl,rfl⟩
       .cases e
def xR(he:PE X e (tG K fv))(ho:PE X o (tG K fo))(hi:PE X i (tG K fi))(hu:X.A.units+41<cLine)
  (ha:∀v,assign (.Subscript o i pos') X.env v=(do
   let ov <-holding [v] (eval o X.env)
   let iv <-holding [v,ov] (eval i X.env)
   standAt pos'
   holding [v,ov,iv] (setItem ov iv v)
   release [v,ov,iv] []):=by intro _;rfl)
  (hs:swapsWithSole [.Subscript o i pos'] e pos.line X.env=pure false:=by rfl) (hw:swappedStores [.Subscript o i pos'] e X.env=pure none:=by rfl)
  (h1:(assignEach [.Subscript o i pos'] X.env).map (·.2)=[assign (.Subscript o i pos') X.env]:=by rfl) (hK:X.K=K:=by rfl):PS X (.Assign [.Subscript o i pos'] e pos) (tS K m (fR fv fo fi)):=by
 subst hK;refine(JU he (QT ho hi (Ky hu) ha) hs hw h1).mono λD Z H t=>?_
 obtain⟨F,A,Q0,fl,Q0',k,e,w⟩:=t;obtain⟨v,az,j,cu,y,oR,oo,z,e1,e2,e3,e4,e5,rfl,rfl⟩:=Vu e;have t:kb X.K (ai fv (ai fo (ai fi gN))) Z H λvs H'=>∃a b c,vs=[a,b,c]/\tJ X.K b c a H' λH4=>D.nx Z H4:=by
  refine⟨F,A,Q0,[.own v,.var j,.own y],oR,k,?_,λvs H1 p=>?_⟩
  .unfold ai;simp only[e1,e2,e3,Option.bind,gN]
  .obtain⟨F1,A1,x,k1,hh⟩:=p;obtain⟨a,b,c,rfl⟩:=e8o hh.length;refine⟨a,b,c,rfl,?_⟩;have hx:Z[j]?=some (some b):=hh.1;have k2:OK X.K F1 H1 ([a,c].map some++Z) ([v,y].map some++oR) A1:=by
    obtain⟨B1,C1,g1,g2,g3⟩:=ag.one (Z:=some b::some c::Z) (Q0:=none::some y::oR) k1.os;cases g2 with
    |skip g2=>subst g3;exact⟨k1.le,g1.app g2,k1.nd,k1.fr⟩
   have z':=OK.sT (r:=w6 X.K) (g:=jK) (Q:=λ_ H4=>D.nx Z H4) (o':=z.1) (res:=z.2) σ k2 hx e4 rfl e5 λv' H' A' x4 k4=>by
    obtain⟨B2,k5,sub⟩:=OK.part (τ:=[some v']) (Θ:=[some z.2]) k4 rfl;exact w Z H' ⟨F1,B2,(x.trans x4).lP sub,k5,Kept.refl⟩
   obtain⟨v',i',ee,q⟩:=z';cases ee;exact q
 have t1:=xy t;refine tG.mono t1 λa H1 h=>tG.mono (xy h) λb H2 h2=>tG.mono (xy h2) λc H3 h3=>?_
 obtain⟨F,A,Q0,rs,Q0',k,e,w⟩:=h3;cases e;obtain⟨a',b',c',ee,q⟩:=w [] H3 ⟨F,A,Ext.refl,k,iJ⟩;cases ee;exact q
end
abbrev GO:=Gm->Option (Option Int×Gm)
def HG(K:FG)(f:GO):TO:=λZ H Q=>∃F A Q0 b Q0',OK K F H Z Q0 A/\f Q0=some (b,Q0')/\∀H',fy K F H A Z Q0' [] [] H'->Q b H'
def xS:GO:=λQ0=>some (none,Q0)
def u_:R->Option Int
 |.own (.Y (.int i))=>some i
 |_=>none
def wa(f:GE):GO:=λQ0=>(f Q0).bind λp=>(u_ p.1).map λi=>(some i,p.2)
section
variable{X:Cx}{K:FG}{e:Expr}{fa:GE}{lo hi:Option Expr}{fl fh:GO}{pos p2:Pos}
def BA:PO X none (HG K xS):=by
 intro ae s Z H Q I t;refine X6 ae s Z H Q I ?_;obtain⟨F,A,Q0,b,Q0',k,e,w⟩:=t;cases e;exact w H ⟨F,A,Ext.refl,k,iJ⟩
def BB(h:PE X e (tG K fa)):PO X (some e) (HG K (wa fa)):=by
 intro ae s Z H Q I t;refine X7 h ae s Z H Q I ?_;obtain⟨F,A,Q0,b,Q0',k,e,w⟩:=t;unfold wa at e;cases q:fa Q0 with
 |none=>rw[q] at e;cases e
 |some p=>
  obtain⟨r,az⟩:=p;rw[q] at e;obtain⟨i,e1,e2⟩:=iM.mp e;cases e2;have er:r=.own (.Y (.int i)):=by
   unfold u_ at e1;split at e1
   .rename_i hh;cases e1;exact hh
   .cases e1
  subst er;exact⟨F,A,Q0,_,_,k,q,λv H' pp=>⟨i,pp.flat rfl,w H' pp.drop⟩⟩
def cutD(ds:List D)(lo hi:Option Int):List D:=(ds.drop (HT.dC ds.length 0 lo)).take (HT.dC ds.length ds.length hi - HT.dC ds.length 0 lo)
def uw(o:O)(lo hi:Option Int):Option O:=match o,dH o,vy o with
 |.Y (.str z),_,_=>if z.length<=1000000 then some (.Y (.str (Txt.slice z lo hi))) else none
 |_,some ds,_=>some (.lst ((cutD ds lo hi).map .Y))
 |_,none,some ds=>if HT.dC ds.length 0 lo=0/\HT.dC ds.length ds.length hi=ds.length then none else some (.tup ((cutD ds lo hi).map .Y))
 |_,_,_=>none
def Ed(K:FG):V->Option Int->Option Int->Hp->VK->Prop:=λx lo hi H Q=>Ee x lo hi H Q\/yO K x lo hi H Q\/yP K x lo hi H Q
def Mp(K:FG)(hK:X.K=K:=by rfl):rL X (Ed K):=yR.or ((Ww K hK).or (Yf K hK))
def e8t{F H:Hp}{x:V}{o o':O}{B:List Addr}{Q:VK}{lo hi:Option Int}(le:aF F H)(h:ag K F H [some x] [some o] B)(e:uw o lo hi=some o')(res:Res K F H o' Q):Ed K x lo hi H Q:=by
 unfold uw at e;split at e
 .split at e
  .cases e;cases iS h rfl;exact .inl ⟨_,rfl,ml (by assumption),res.flat rfl⟩
  .cases e
 .rename_i ds _ _ q1 _
  cases e;obtain⟨a,ws,rfl,sq,r⟩:=vP le h (by assumption)
  refine .inr (.inl ⟨a,ws,rfl,sq,λp hp=>res.lst ?_ hp⟩)
  unfold nF cutD;rw[r.length];exact(r.drop _).take _
 .split at e
  .cases e
  .rename_i i6
   cases e;obtain⟨a,ws,rfl,sq,r⟩:=PN le h (by assumption)
   refine .inr (.inr ⟨a,ws,rfl,sq,by rw[r.length];exact i6,λp hp=>res.tup ?_ hp⟩)
   unfold nF cutD;rw[r.length];exact(r.drop _).take _
 .cases e
def uQ(f:GE)(lo hi:GO):GE:=λQ0=>(f Q0).bind λp=>(lo p.2).bind λq=>(hi q.2).bind λr=>(j_ r.2 p.1).bind λo=>(uw o q.1 r.1).bind λo'=>some (.own o',r.2)
def UO{Q0 Q0':Gm}{r:R}(e:uQ fa fl fh Q0=some (r,Q0')):∃r1 az l cu u o o',fa Q0=some (r1,az)/\fl az=some (l,cu)/\fh cu=some (u,Q0')/\j_ Q0' r1=some o/\uw o l u=some o'/\r=.own o':=by
 unfold uQ at e;cases q1:fa Q0 with
 |none=>rw[q1] at e;cases e
 |some p=>
  rw[q1] at e;dsimp only[Option.bind] at e;cases q2:fl p.2 with
  |none=>rw[q2] at e;cases e
  |some q=>
   rw[q2] at e;dsimp only at e;cases q3:fh q.2 with
   |none=>rw[q3] at e;cases e
   |some w=>
    rw[q3] at e;dsimp only at e;cases q4:j_ w.2 p.1 with
    |none=>rw[q4] at e;cases e
    |some o=>
     rw[q4] at e;dsimp only at e;cases q5:uw o q.1 w.1 with
     |none=>rw[q5] at e;cases e
     |some o'=>rw[q5] at e;cases e;exact⟨p.1,p.2,q.1,q.2,w.1,o,o',rfl,q2,q3,q4,q5,rfl⟩
def Bo(he:PE X e (tG K fa))(hl:PO X lo (HG K fl))(hu:PO X hi (HG K fh))(hK:X.K=K:=by rfl):PE X (.Subscript e (.Slice lo hi none p2) pos) (tG K (uQ fa fl fh)):=by
 refine(Wr (Mp K hK) he hl hu).mono λZ H Q t=>?_
 obtain⟨F,A,Q0,rr,Q0',k,e,w⟩:=t;obtain⟨r1,az,l,cu,u,o,o',e1,e2,e3,e4,e5,rfl⟩:=UO e;refine⟨F,A,Q0,r1,az,k,e1,λv H1 p=>?_⟩
 obtain⟨F1,A1,x1,k1,hh⟩:=p;obtain⟨C,kC,fr⟩:=OK.frame (τ:=[some v]) (Θ:=[r1.o]) k1 rfl;refine⟨F1,C,az,l,cu,kC,e2,λH2 p2=>?_⟩
 obtain⟨F2,A2,x2,k2,_⟩:=p2;obtain⟨A3,x3,k3⟩:=fr _ _ _ _ _ x2 k2;obtain⟨C2,kC2,fr2⟩:=OK.frame (τ:=[some v]) (Θ:=[r1.o]) k3 rfl;refine⟨F2,C2,cu,u,Q0',kC2,e3,λH3 p3=>?_⟩
 obtain⟨F4,A4,x4,k4,_⟩:=p3;obtain⟨A5,x5,k5⟩:=fr2 _ _ _ _ _ x4 k4;have pp:fy K F H A Z Q0' [r1] [v] H3:=⟨F4,A5,x1.trans (x3.trans x5),k5,hh⟩;obtain⟨F6,le,eY,res⟩:=pp.res (os:=[o]) (o:=o') (by unfold fV;rw[e4];rfl) w
 obtain⟨x,B,ev,h1⟩:=eY.one;cases ev;exact e8t le h1 e5 res
end
def cD:List Nat->Gm->Gm×Gm
 |[],Q0=>([],Q0)
 |i::cap,Q0=>let p:=cD cap (Q0.set i none);((Q0[i]?).join::p.1,p.2)
def uf:List Nat->Gm->Gm->Gm
 |i::cap,x::k_,Q0=>(uf cap k_ Q0).set i x
 |_,_,Q0=>Q0
noncomputable def compLoop(g:GG)(ct:GT)(ce:GE):List D->Gm->List O->Option (List O×Gm)
 |[],Q0,ax=>some (ax,Q0)
 |d::ds,Q0,ax=>(g d Q0).bind λaz=>(ct az).bind λp=>if p.1=true then
   (ce p.2).bind λq=>(fT [q.1]).bind λos=>if ax.length<1000000 then compLoop g ct ce ds q.2 (ax++os) else none
  else compLoop g ct ce ds p.2 ax
section
variable{K:FG}{F H:Hp}{Z:St}
theorem Gu:∀{cap:List Nat} {Q0:Gm} {C:List Addr},ag K F H Z Q0 C->∃B C',ag K F H (cap.map λi=>(Z[i]?).join) (cD cap Q0).1 B/\ag K F H Z (cD cap Q0).2 C'/\aS (B++C') C
 |[],Q0,C,h=>⟨[],C,.nil,h,aS.refl _⟩
 |i::cap,Q0,C,h=>by
  cases q:Q0[i]? with
  |none=>
   obtain⟨C1,g1,g2⟩:=ag.forget i h;obtain⟨B,C',j1,j2,j3⟩:=Gu (cap:=cap) g1;refine⟨B,C',?_,j2,j3.trans (.bD g2)⟩;unfold cD;simp only[q,cS];exact .skip j1
  |some z=>
   cases z with
   |none=>
    obtain⟨C1,g1,g2⟩:=ag.forget i h;obtain⟨B,C',j1,j2,j3⟩:=Gu (cap:=cap) g1;refine⟨B,C',?_,j2,j3.trans (.bD g2)⟩;unfold cD;simp only[q,cS];exact .skip j1
   |some o=>
    obtain⟨v,Ai,C1,g1,g2,g3,g4⟩:=h.take q;obtain⟨B,C',j1,j2,j3⟩:=Gu (cap:=cap) g3;refine⟨Ai++B,C',?_,j2,?_⟩
    .unfold cD;simp only[q,cS,g1];exact g2.app j1
    .rw[gz];exact((aS.refl Ai).app j3).trans (.bV g4.symm)
theorem P4:∀{cap:List Nat} {τ:St} {k_ Q0:Gm} {B C:List Addr},ag K F H τ k_ B->ag K F H Z Q0 C->τ=(cap.map λi=>(Z[i]?).join)->∃D,ag K F H Z (uf cap k_ Q0) D/\aS D (B++C)
 |[],_,k_,Q0,B,C,h1,h2,e=>by
  subst e;cases h1;exact⟨C,h2,.bD (mN _ _)⟩
 |i::cap,τ,[],Q0,B,C,h1,h2,e=>by subst e;have:=h1.length;simp at this
 |i::cap,τ,x::k_,Q0,B,C,h1,h2,e=>by
  subst e;obtain⟨B1,B2,g1,g2,rfl⟩:=ag.one h1;obtain⟨D,j1,j2⟩:=P4 (cap:=cap) g2 h2 rfl;have s1:aS D ((B1++B2)++C):=j2.trans (by rw[gz];exact .bD (mN _ _))
  cases x with
  |none=>
   obtain⟨D',k1,k2⟩:=ag.forget i j1;exact⟨D',k1,(aS.bD k2).trans s1⟩
  |some o=>
   have g1:ag K F H [(Z[i]?).join] [some o] B1:=g1;cases q:Z[i]? with
   |none=>rw[q] at g1;cases g1
   |some z=>
    cases z with
    |none=>rw[q] at g1;cases g1
    |some v=>
     rw[q] at g1;have hi:i<(uf cap k_ Q0).length:=by rw[<-j1.length];exact(eO.mp q).1
     obtain⟨D',k1,C',k2,k3⟩:=ag.put (show ag K F H [some v] [some o] B1 from g1) i j1 hi;rw[xA q] at k1;refine⟨D',k1,(aS.bV k2).trans ?_⟩;rw[gz];exact(aS.refl B1).app ((aS.bD k3).trans j2)
end
def nD(k:Nat)(cap:List Nat):List Bool:=List.replicate k false++List.replicate cap.length true
def kJ(src:Gm->Option (List D×Gm))(g:GG)(ct:GT)(ce:GE)(k:Nat)(cap:List Nat):GE:=λQ0=>(src Q0).bind λp=>
 (compLoop g ct ce p.1 (List.replicate k none++(cD cap p.2).1) []).bind λq=>if q.2.length=k+cap.length then some (.own (.lst q.1),uf cap (q.2.drop k) (cD cap p.2).2) else none
section
variable{K:FG}
structure Az (K:FG) (m:List Bool) (g:GG) (ct:GT) (ce:GE) (ds:List D) (fin:List O×Gm) (F1 H1:Hp) (C:List Addr) (τ₀:St) (i:Nat) (τ:St) (ax:List V) (H:Hp):Prop where
 ex:∃F A qR gG,OK K F H (ax.map some++τ) (gG.map some++qR) A/\Ext F1 H1 C F H A/\compLoop g ct ce (ds.drop i) qR gG=some fin/\ax.length=gG.length/\Kept m τ₀ τ
def Vv{m:List Bool}{t:TG}{g:GG}{ct:GT}{ce:GE}(tg:gf K m t g){ds:List D}{fin:List O×Gm}{F1 H1:Hp}{C:List Addr}{τ₀:St}{i:Nat}{τ:St}{ax:List V}{H:Hp}{x:V}{d:D}(p:Az K m g ct ce ds fin F1 H1 C τ₀ i τ ax H)
  (ed:ds.drop i=d::ds.drop (i+1)) (rx:∀F,aF F1 F->aj K F [x] [d]) :
  t x τ H λτ2 H2=>g_ K ct τ2 H2 λb H3=>if b=true then tG K ce τ2 H3 λv H4=>ax.length<sizeLine/\Az K m g ct ce ds fin F1 H1 C τ₀ (i+1) τ2 (ax++[v]) H4 else Az K m g ct ce ds fin F1 H1 C τ₀ (i+1) τ2 ax H3:=by
 obtain⟨F,A,qR,gG,k,x0,e,hl,kp⟩:=p.ex;rw[ed] at e;unfold compLoop at e;cases q1:g d qR with
 |none=>rw[q1] at e;cases e
 |some az=>
  rw[q1] at e;dsimp only[Option.bind] at e;cases q2:ct az with
  |none=>rw[q2] at e;cases e
  |some pb=>
   obtain⟨b,cu⟩:=pb;rw[q2] at e;dsimp only at e;have hle:(ax.map some).length=(gG.map some).length:=by simp[hl]
   obtain⟨C1,k1,fr1⟩:=k.frame hle;refine tg F H τ qR az C1 x d _ k1 (rx F x0.ff) q1 λτ2 A2 k2 x2 wN=>?_
   obtain⟨A3,x3,k3⟩:=fr1 _ _ _ _ _ x2 k2;obtain⟨C4,k4,fr4⟩:=k3.frame hle;refine⟨F,C4,az,b,cu,k4,q2,λH3 pp=>?_⟩
   obtain⟨F5,A5,x5,k5,_⟩:=pp;obtain⟨A6,x6,k6⟩:=fr4 _ _ _ _ _ x5 k5;cases b with
   |false=>exact pe ⟨F5,A6,cu,gG,k6,x0.trans (x3.trans x6),e,hl,kp.trans wN⟩
   |true=>
    have e:((ce cu).bind λq=>(fT [q.1]).bind λos=>if gG.length<1000000 then compLoop g ct ce (ds.drop (i+1)) q.2 (gG++os) else none)=some fin:=e
    cases q3:ce cu with
    |none=>rw[q3] at e;cases e
    |some pr=>
     obtain⟨r,oR⟩:=pr;rw[q3] at e;dsimp only[Option.bind] at e;cases q4:fT [r] with
     |none=>rw[q4] at e;cases e
     |some os=>
      rw[q4] at e;dsimp only at e;split at e
      .rename_i hz
       obtain⟨C7,k7,K8⟩:=k6.frame hle;refine ph ⟨F5,C7,cu,r,oR,k7,q3,λv H4 pp=>⟨iG (by lia:ax.length<1000000) (by decide),?_⟩⟩
       obtain⟨F8,A8,x8,k8,_⟩:=pp;rw[uL q4] at k8;obtain⟨A9,x9,k9⟩:=K8 _ _ _ _ _ x8 k8;refine⟨F8,A9,oR,gG++os,?_,x0.trans (x3.trans (x6.trans x9)),e,?_,kp.trans wN⟩
       .rw[iH,iH,gz,gz];exact k9
       .have:=congrArg List.length (uL q4);simp at this;simp[hl,this]
      .cases e
def WL{m:List Bool}{g:GG}{ct:GT}{ce:GE}{ds:List D}{fin:List O×Gm}{F1 H1:Hp}{C:List Addr}{τ₀:St}{τ:St}{ax:List V}{H:Hp}(p:Az K m g ct ce ds fin F1 H1 C τ₀ ds.length τ ax H):
  ∃F A,OK K F H (ax.map some++τ) (fin.1.map some++fin.2) A/\Ext F1 H1 C F H A/\ax.length=fin.1.length/\Kept m τ₀ τ:=by
 obtain⟨F,A,qR,gG,k,x0,e,hl,kp⟩:=p.ex;rw[MR (cJ _)] at e;cases e;exact⟨F,A,k,x0,hl,kp⟩
theorem Oi:∀{cap:List Nat} {Q0:Gm} {j:Nat},j∉cap->(cD cap Q0).2[j]?=Q0[j]?
 |[],Q0,j,_=>rfl
 |i::cap,Q0,j,h=>by
  unfold cD;dsimp only;rw[Oi (λz=>h (oA _ z)),EB (λz=>h (by rw[z];exact mW))]
def WM{F H:Hp}{Z:St}{Q0:Gm}{A:List Addr}{j:Nat}{ps:List O}{a:Addr}(h:ag K F H Z Q0 A)(yl:Q0[j]?=some (some (.lst ps)))(hZ:Z[j]?=some (some (.ref a))):a∈A:=by
 obtain⟨v,Ai,B,g1,g2,_,g4⟩:=h.take yl;rw[hZ] at g1;cases g1;cases g2 with
 |lst _ _ _=>exact g4.mem_iff.mpr (by simp)
def UP{k:Nat}{cap:List Nat}{F H:Hp}{Z:St}{Q0:Gm}{A:List Addr}(ok:OK K F H Z Q0 A):∃C,OK K F H (iK k cap Z) (List.replicate k none++(cD cap Q0).1) C/\
  (∀j ps a,j∉cap->Q0[j]?=some (some (.lst ps))->Z[j]?=some (some (.ref a))->a∉C)/\
  ∀F' H' τ' gG ax k_ A',Ext F H C F' H' A'->OK K F' H' (ax.map some++τ') (gG.map some++k_) A'->ax.length=gG.length->Kept (nD k cap) (iK k cap Z) τ'->k_.length=k+cap.length->∀l,H' l=none->
   ∃qm,Ext F H A F' (upd H' l (.lst ax)) qm/\OK K F' (upd H' l (.lst ax)) (some (.ref l)::Z) (some (.lst gG)::uf cap (k_.drop k) (cD cap Q0).2) qm:=by
 obtain⟨B,C',h1,h2,h3⟩:=Gu (cap:=cap) ok.os;have k0:ag K F H (iK k cap Z++Z) ((List.replicate k none++(cD cap Q0).1)++(cD cap Q0).2) (B++C'):=by
  have:=(Iv (K:=K) (F:=F) (H:=H) k).app h1;exact this.app h2
 obtain⟨k1,x1⟩:=ok.sub k0 h3;have hl0:(iK k cap Z).length=(List.replicate k (none:Option O)++(cD cap Q0).1).length:=by
  have:=h1.length;unfold iK;simp at this ⊢;lia
 obtain⟨A1,p1,k2⟩:=k1.swap hl0;have k2':=k2;obtain⟨D0,C,hd0,hd1,hd2⟩:=ag.split h2.length k2.os;have nn:∀a∈D0,a∉C:=λa m z=>(lC.mp (hd2 ▸ k2.nd)).2.2 a m a z rfl
 obtain⟨k3,fr⟩:OK K F H (iK k cap Z) (List.replicate k none++(cD cap Q0).1) C/\∀F' H' Z' Q0' A',Ext F H C F' H' A'->OK K F' H' Z' Q0' A'->∃qm,Ext F H A1 F' H' qm/\OK K F' H' (Z++Z') ((cD cap Q0).2++Q0') qm:=by
  subst hd2;exact k2.p5 hd0 hd1
 refine⟨C,k3,λj ps a hj Lk hZj=>nn a (WM hd0 (by rw[Oi hj];exact Lk) hZj),λF' H' τ' gG ax k_ A' x k' hl kp yl l hn=>?_⟩
 have hQ0l:=k'.os.length;have k5:∃A5,OK K F' (upd H' l (.lst ax)) (some (.ref l)::τ') (some (.lst gG)::k_) A5/\Ext F' H' A' F' (upd H' l (.lst ax)) A5:=by
  obtain⟨B1,C1,g1,g2,g3⟩:=ag.split (by simp[hl]) k'.os
  have nl:∀a∈A',a≠l:=λa m z=>k'.os.there a m (by rw[z];exact hn)
  have SY:∀a∈A',∀o,H' a=some o->upd H' l (.lst ax) a=some o:=λa m o e=>by rw[cZ (nl a m)];exact e
  subst g3;refine⟨l::B1++C1,⟨λa o e=>?_,.lst jt (g1.keep (aF.refl _) λa m=>SY a (jN _ m)) (g2.keep (aF.refl _) λa m=>SY a (hG _ m)),hU.mpr ⟨λm=>nl l m rfl,k'.nd⟩,λa m=>?_⟩,
   aF.refl _,λa o e _=>?_,By,λa h=>.inl h,λa m=>?_⟩
  .have:=k'.le a o e;rw[cZ (mz this hn)];exact this
  .rcases eC.mp m with rfl|m
   .exact k'.le.free hn
   .exact k'.fr a m
  .rw[cZ (mz e hn)];exact e
  .rcases eC.mp m with rfl|m
   .exact .inr hn
   .exact .inl m
 obtain⟨A5,k5,x5⟩:=k5;obtain⟨A6,x6,k6⟩:=fr _ _ _ _ _ (x.trans x5) k5;obtain⟨D1,D2,g1,g2,g3⟩:=ag.split h2.length k6.os;subst g3;obtain⟨D3,D4,g4,g5,g6⟩:=g2.one;subst g6;have hτ:τ'.length=k+cap.length:=by
  have:=g5.length;lia
 have e1:τ'=τ'.take k++τ'.drop k:=(vH _ _).symm;have e2:k_=k_.take k++k_.drop k:=(vH _ _).symm;have g5':ag K F' (upd H' l (.lst ax)) (τ'.take k++τ'.drop k) (k_.take k++k_.drop k) D4:=by rw[<-e1,<-e2];exact g5
 obtain⟨D5,D6,g7,g8,g9⟩:=ag.split (by rw[ql,ql];lia) g5'
 subst g9;have eτ:τ'.drop k=cap.map λi=>(Z[i]?).join:=by
  apply List.ext_getElem?;intro j;by_cases hj:j<cap.length
  .have hm:(nD k cap)[k+j]?=some true:=by
    unfold nD;rw[yW (by simp)]
    simp[hj]
   have:=kp (k+j) hm;rw[List.getElem?_drop,this];unfold iK;rw[yW (by simp)]
   simp
  .rw[List.getElem?_eq_none (by rw[vF];lia),List.getElem?_eq_none (by rw[bz];lia)]
 obtain⟨D7,K9,K_⟩:=P4 g8 g1 eτ;have s1:aS (D3++D7) (D1++(D3++(D5++D6))):=by
  refine((aS.refl D3).app K_).trans ?_;refine aS.trans (B:=D3++(D5++D6)++D1) ?_ (.bV qO);rw[gz];refine(aS.refl D3).app ?_;rw[gz];exact .bD (mN _ _)
 obtain⟨k7,x7⟩:=k6.sub (Z':=some (.ref l)::Z) (Q0':=some (.lst gG)::uf cap (k_.drop k) (cD cap Q0).2) (g4.app K9) s1;exact⟨D3++D7,(x1.trans (Ext.lP Ext.refl λa m=>p1.mem_iff.mp m)).trans (x6.trans x7),k7⟩
end
def ka(it:GE):Gm->Option (List D×Gm):=λQ0=>(av it Q0).bind λp=>match p.1 with
 |.own (.Y (.lst ds))=>some (ds,p.2)
 |_=>none
def vn(it:GE):Gm->Option (List D×Gm):=λQ0=>(av it Q0).bind λp=>match p.1 with
 |.own (.Y (.tup ds))=>some (ds,p.2)
 |_=>none
def mh(fs:GA):Gm->Option (List D×Gm):=λQ0=>(fs Q0).bind λp=>(gK p.1).map λj=>(fE 0 j.toNat,p.2)
def qf(fs:GA):Gm->Option (List D×Gm):=λQ0=>(fs Q0).bind λp=>(kP p.1).map λj=>(fE j.1 (j.2 - j.1).toNat,p.2)
def i9(K:FG)(cap:List Nat)(wi:TI)(src:Gm->Option (List D×Gm)):Prop:=
 ∀(Z:St) (F H:Hp) (A:List Addr) (Q0 az:Gm) (ds:List D) (R:It->Hp->Prop),OK K F H Z Q0 A->src Q0=some (ds,az)->
  (∀J H1 F1 A1,Ext F H A F1 H1 A1->OK K F1 H1 Z az A1->
   (∀(g:TG) (tt:TT) (te:TE) (τ:St) (Fin:List V->Hp->Prop) (Pv:Nat->St->List V->Hp->Prop),Pv 0 τ [] H1->(∀i τ ax H,Pv i τ ax H->(∃F,aF F1 F/\aF F H)/\∀(j:Nat) ps a o,j∉cap->az[j]?=some (some (.lst ps))->Z[j]?=some (some (.ref a))->H1 a=some o->H a=some o)->
    (∀i d x τ ax H,ds.drop i=d::ds.drop (i+1)->(∀F,aF F1 F->aj K F [x] [d])->Pv i τ ax H->g x τ H λτ2 H2=>tt τ2 H2 λb H3=>if b=true then te τ2 H3 λv H4=>ax.length<sizeLine/\Pv (i+1) τ2 (ax++[v]) H4 else Pv (i+1) τ2 ax H3)->
    (∀τ ax H,Pv ds.length τ ax H->Fin ax H)->kx J g tt te τ H1 Fin)->R J H1)->wi Z H R
section
variable{X:Cx}{K:FG}{fa:GE}{fs:GA}
def Jz{α:Type}{l:List α}{i:Nat}{x:α}(h:l[i]?=some x):l.drop i=x::l.drop (i+1):=by
 obtain⟨hi,e⟩:=eO.mp h;rw[HP hi,e]
def vR{cap:List Nat}:i9 K cap (nQ K (tG K (av fa))) (ka fa):=by
 intro Z F H A Q0 az ds R k e w;unfold ka at e;cases q:av fa Q0 with
 |none=>rw[q] at e;cases e
 |some p=>
  obtain⟨r,cu⟩:=p;rw[q] at e;dsimp only[Option.bind] at e;cases r with
  |var i=>cases e
  |own o=>
   cases o with
   |Y d=>
    cases d with
    |lst es=>
     cases e;refine⟨F,A,Q0,_,_,k,q,λv H1 pp=>?_⟩
     obtain⟨F1,A1,x,k1,_⟩:=pp;obtain⟨B,C,h1,h2,h3⟩:=ag.one (Z:=Z) k1.os;have rp:=qU h1;subst h3;obtain⟨k2,x2⟩:=k1.sub h2 (.bD (mN _ _));cases rp with
     |flat z _=>cases z
     |@lst a ws _ _ _ sq ri _=>
      refine⟨a,rfl,⟨ws,.inl (k1.le.rd sq)⟩,w (xo K a) H1 F1 C (x.trans x2) k2 λg tt te τ Fin Pv h0 hF hs hd=>?_⟩
      have hl:=ri.length;refine Vh (xs:=ws) Pv h0 (λi τ ax H hi p=>?_) (λi x τ ax H hx p=>?_) (λτ ax H p=>hd τ ax H (by rw[<-hl];exact p))
      .obtain⟨⟨F',s1,s2⟩,_⟩:=hF i τ ax H p;exact .inl ((s1.trans s2).rd sq)
      .have hi:i<ds.length:=by
        have:=(eO.mp hx).1;lia
       obtain⟨x2,sM,rx⟩:=ri.get (i:=i) (d:=ds[i]) (by simp[hi])
       rw[hx] at sM;cases sM;exact hs i ds[i] x τ ax H (Jz (by simp[hi])) (λF' s=>rx.mono s) p
    |_=>cases e
   |_=>cases e
def Q6{cap:List Nat}:i9 K cap (wJ (kb K fs)) (mh fs):=by
 intro Z F H A Q0 az ds R k e w;unfold mh at e;cases q:fs Q0 with
 |none=>rw[q] at e;cases e
 |some p=>
  obtain⟨rs,cu⟩:=p;rw[q] at e;obtain⟨j,e1,e2⟩:=iM.mp e;cases e2;obtain⟨hj,hb⟩:=OU e1;have hj:rs=_:=hj;subst hj;refine⟨F,A,Q0,_,_,k,q,λvs H1 pp=>?_⟩
  obtain⟨F1,A1,x,k1,hh⟩:=pp
  match vs,hh with
  |[v],_=>
   obtain⟨rfl,h2⟩:=uP (Z:=Z) k1.os;obtain⟨k2,x2⟩:=k1.sub h2 (aS.refl _);refine⟨j,rfl,hb.1,hb.2,w (tZ 0 j.toNat) H1 F1 A1 x k2 λg tt te τ Fin Pv h0 hF hs hd=>?_⟩
   refine NB Pv h0 (λi τ ax H hi p=>?_) (λτ ax H p=>hd τ ax H (by simpa[fE] using p))
   exact hs i (.int (0+(i:Int))) _ τ ax H (by unfold fE;exact Nh _ hi) (λF' s=>.flat rfl .nil) p
def υ{cap:List Nat}:i9 K cap (wK (kb K fs)) (qf fs):=by
 intro Z F H A Q0 az ds R k e w;unfold qf at e;cases q:fs Q0 with
 |none=>rw[q] at e;cases e
 |some p=>
  obtain⟨rs,cu⟩:=p;rw[q] at e;obtain⟨jj,e1,e2⟩:=iM.mp e;cases e2;obtain⟨hj,hb⟩:=OV e1;have hj:rs=_:=hj;subst hj;obtain⟨i0,j⟩:=jj;refine⟨F,A,Q0,_,_,k,q,λvs H1 pp=>?_⟩
  obtain⟨F1,A1,x,k1,hh⟩:=pp
  match vs,hh with
  |[v,v'],_=>
   obtain⟨rfl,h1⟩:=uP (Z:=some v'::Z) k1.os;obtain⟨rfl,h2⟩:=uP (Z:=Z) h1;obtain⟨k2,x2⟩:=k1.sub h2 (aS.refl _);refine⟨i0,j,rfl,hb,w (tZ i0 (j - i0).toNat) H1 F1 A1 x k2 λg tt te τ Fin Pv h0 hF hs hd=>?_⟩
   refine NB Pv h0 (λi τ ax H hi p=>?_) (λτ ax H p=>hd τ ax H (by simpa[fE] using p))
   exact hs i (.int (i0+(i:Int))) _ τ ax H (by unfold fE;exact Nh _ hi) (λF' s=>.flat rfl .nil) p
def qt.mono{ifs:List Expr}{t t':TT}(h:qt X ifs t)(m:∀Z H Q,t' Z H Q->t Z H Q):qt X ifs t':=λae s Z H Q I q=>h ae s Z H Q I (m _ _ _ q)
def fQ:GT:=λQ0=>some (true,Q0)
def xH:qt X [] (g_ K fQ):=vk.mono λZ H Q t=>Fo t
def BC{c:Expr}{ft:GT}(h:PT X c (g_ K ft)):qt X [c] (g_ K ft):=X_ h
variable{tg elt iter:Expr}{ifs:List Expr}{scope:Scope}{pos:Pos}{M:List Str}{k:Nat}{cap:List Nat}{t:TG}{gg:GG}{ct:GT}{ce:GE}{wi:TI}{src:Gm->Option (List D×Gm)}
def JA(so:i9 K cap wi src)(yU:gf K (nD k cap) t gg){Z:St}{H:Hp}{Q:VK}(tt:tG K (kJ src gg ct ce k cap) Z H Q):tQ wi t (g_ K ct) (tG K ce) k cap Z H Q:=by
 obtain⟨F,A,Q0,rr,Q0',ok,e,w⟩:=tt;unfold kJ at e;cases q1:src Q0 with
 |none=>rw[q1] at e;cases e
 |some p=>
  obtain⟨ds,az⟩:=p;rw[q1] at e;dsimp only[Option.bind] at e;cases q2:compLoop gg ct ce ds (List.replicate k none++(cD cap az).1) [] with
  |none=>rw[q2] at e;cases e
  |some fin=>
   rw[q2] at e;dsimp only at e;split at e
   .rename_i hlen
    cases e;refine so Z F H A Q0 az ds _ ok q1 λJ H1 F1 A1 x1 k1 mk=>?_
    obtain⟨C,kC,nC,back⟩:=UP (k:=k) (cap:=cap) k1;refine mk t (g_ K ct) (tG K ce) (iK k cap Z) _ (Az K (nD k cap) gg ct ce ds fin F1 H1 C (iK k cap Z)) ?_ ?_ ?_ ?_
    .exact⟨F1,C,_,[],kC,Ext.refl,q2,rfl,Kept.refl⟩
    .rintro i τ ax H ⟨F',A',qR,gG,k',x',_⟩;exact⟨⟨F',x'.ff,k'.le⟩,λj ps a o hj h1 h2 h3=>x'.keep a o h3 (nC j ps a hj h1 h2)⟩
    .intro i d x τ ax H ed rx p;exact Vv yU p ed rx
    .intro τ ax H p l hn;obtain⟨F',A',k',x',hl,kp⟩:=WL p;obtain⟨qm,x'',k''⟩:=back F' H τ fin.1 ax fin.2 A' x' k' hl kp hlen l hn;exact w _ _ ⟨F',qm,x1.trans x'',k'',iJ⟩
   .cases e
def FR(so:i9 K cap wi src)(yU:gf K (nD k cap) t gg)(ok:bZ X scope M k cap)(hi:PI X tg iter wi)
  (hg:∀C s H fp,PG (iB X scope M C s H fp) tg t) (ht:∀C s H fp,qt (iB X scope M C s H fp) ifs (g_ K ct)) (he:∀C s H fp,PE (iB X scope M C s H fp) elt (tG K ce)) (hc:X.calm=true:=by rfl)
  (hs:∀x,foldedSetIterable iter X.env x=pure x:=by intro _;rfl):PE X (.ListComp elt [⟨tg,iter,ifs,0⟩] scope pos) (tG K (kJ src gg ct ce k cap)):=
 (X' hc ok hi hg ht he hs).mono λ_ _ _ t=>JA so yU t
variable{m:List Bool}
def Yu{i:Nat}{x:Str}{px oq:Pos}(so:i9 K cap wi src)(yU:gf K (nD k cap) t gg)(ok:bZ X scope M k cap)(hN:X.N.Nodup)(yo:X.N[i]?=some x)(hx:Loc X.env.scope x)(hi:PI X tg iter wi)
  (hg:∀C s H fp,PG (iB X scope M C s H fp) tg t) (ht:∀C s H fp,qt (iB X scope M C s H fp) ifs (g_ K ct)) (he:∀C s H fp,PE (iB X scope M C s H fp) elt (tG K ce)) (hc:X.calm=true:=by rfl) (hm:(m[i]? == some true)=false:=by rfl)
  (Dw:swapsWith (.ListComp elt [⟨tg,iter,ifs,0⟩] scope pos) (some (.Name x px)) oq.line X.env=pure true:=by rfl)
  (hs:∀x,foldedSetIterable iter X.env x=pure x:=by intro _;rfl) (hf:X.fn x=true\/X.env.scope.names.lookup x=some .local := by first|exact .inl rfl|exact .inr rfl) :
  PS X (.Assign [.Name x px] (.ListComp elt [⟨tg,iter,ifs,0⟩] scope pos) oq) (tS K m (ak i (kJ src gg ct ce k cap))):=(PH hc ok hN yo hx hi hg ht he Dw hs hf).mono λD Z H tt=>by
 obtain⟨F,A,Q0,fl,Q0',k,e,w⟩:=tt;unfold ak at e;cases q:kJ src gg ct ce _ cap Q0 with
 |none=>rw[q] at e;cases e
 |some p=>
  obtain⟨r,az⟩:=p;rw[q] at e;cases r with
  |var i=>cases e
  |own o=>
   dsimp only[Option.bind] at e;split at e
   .cases e;refine JA so yU ⟨F,A,Q0,_,az,k,q,λv H' hh=>?_⟩
    obtain⟨F1,A1,x,k1,_⟩:=hh;obtain⟨B,k2,x2⟩:=OK.store (Z:=Z) (Q0:=az) k1 (by assumption)
    exact w _ H' ⟨F1,B,x.trans x2,k2,Kept.set hm⟩
   .cases e
def xC{i:Nat}{x:Str}{px oq:Pos}(so:i9 K cap wi src)(yU:gf K (nD k cap) t gg)(ok:bZ X scope M k cap)(hN:X.N.Nodup)(yo:X.N[i]?=some x)(hx:Loc X.env.scope x)(hi:PI X tg iter wi)
  (hg:∀C s H fp,PG (iB X scope M C s H fp) tg t) (ht:∀C s H fp,qt (iB X scope M C s H fp) ifs (g_ K ct)) (he:∀C s H fp,PE (iB X scope M C s H fp) elt (tG K ce)) (hc:X.calm=true:=by rfl) (hm:(m[i]? == some true)=false:=by rfl)
  (Dw:swapsWith (.ListComp elt [⟨tg,iter,ifs,0⟩] scope pos) (some (.Name x px)) oq.line X.env=pure true:=by rfl)
  (hs:∀x,foldedSetIterable iter X.env x=pure x:=by intro _;rfl) (hf:X.fn x=true\/X.env.scope.names.lookup x=some .local := by first|exact .inl rfl|exact .inr rfl) :
  PS X (.Assign [.Name x px] (.ListComp elt [⟨tg,iter,ifs,0⟩] scope pos) oq) (tS K m (ak i (av (kJ src gg ct ce k cap)))):=(PH hc ok hN yo hx hi hg ht he Dw hs hf).mono λD Z H tt=>by
 obtain⟨F,A,Q0,fl,Q0',k,e,w⟩:=tt;unfold ak at e;cases q:av (kJ src gg ct ce _ cap) Q0 with
 |none=>rw[q] at e;cases e
 |some p=>
  obtain⟨r,az⟩:=p;rw[q] at e;cases r with
  |var i=>cases e
  |own o=>
   dsimp only[Option.bind] at e;split at e
   .cases e;refine JA so yU (QY ⟨F,A,Q0,_,az,k,q,λv H' hh=>?_⟩)
    obtain⟨F1,A1,x,k1,_⟩:=hh;obtain⟨B,k2,x2⟩:=OK.store (Z:=Z) (Q0:=az) k1 (by assumption)
    exact w _ H' ⟨F1,B,x.trans x2,k2,Kept.set hm⟩
   .cases e
end
inductive Wk (K:FG) (H:Hp):V->List Nat->V->Prop
 |nil {x:V}:Wk K H x [] x
 |cons {p:Addr} {ws:List V} {j:Nat} {y v:V} {π:List Nat}:(dX K H p ws\/gL K H p ws)->ws[j]?=some y->Wk K H y π v->Wk K H (.ref p) (j::π) v
section
variable{X:Cx}{K:FG}{e:Expr}{i j:Nat}{π:List Nat}{pos p1 p2:Pos}{n:Nat}
end
section
variable{K:FG}{F H:Hp}
end
section
variable{X:Cx}{K:FG}{o e:Expr}{es:List Expr}{i:Nat}{π:List Nat}{t:TA}{name:Str}{apos cW:Pos}{id:String}{r:V->List V->Hp->VK->Prop}{g:O->List O->Option (O×O)}{ds:List D}{vs:List V}
end
def oX(M:GM)(fs:GA):GE:=λQ0=>(fs Q0).bind λp=>(fV p.2 p.1).bind λos=>(M ((O.dl os).map .Y)).bind λr=>match r.1 with
 |.Y d=>(oF d).bind λ_=>some (.own (.Y d),p.2)
 |_=>none
section
variable{K:FG}
def WN{F H:Hp}(le:aF F H){vs:List V}{os:List O}(h:mw K F H vs os):aj K H vs (O.dl os):=by
 unfold mw at h
 induction h with
 |nil=>exact .nil
 |cons p t ih=>obtain⟨B,h⟩:=p;exact .cons (pP le h) ih
def UQ{M:GM}{fs:GA}{Q0 Q0':Gm}{r:R}(e:oX M fs Q0=some (r,Q0')):∃rs os d fin v,fs Q0=some (rs,Q0')/\fV Q0' rs=some os/\M ((O.dl os).map .Y)=some (.Y d,fin)/\oF d=some v/\r=.own (.Y d):=by
 unfold oX at e;cases q1:fs Q0 with
 |none=>rw[q1] at e;cases e
 |some p=>
  rw[q1] at e;dsimp only[Option.bind] at e;cases q2:fV p.2 p.1 with
  |none=>rw[q2] at e;cases e
  |some os=>
   rw[q2] at e;dsimp only at e;cases q3:M ((O.dl os).map .Y) with
   |none=>rw[q3] at e;cases e
   |some z=>
    obtain⟨o,fin⟩:=z;rw[q3] at e;dsimp only at e;cases o with
    |Y d=>
     dsimp only at e;cases q4:oF d with
     |none=>rw[q4] at e;cases e
     |some v=>rw[q4] at e;cases e;exact⟨p.1,os,d,fin,v,rfl,q2,q3,q4,rfl⟩
    |_=>cases e
variable{X:Cx}{k n:Nat}{f:Addr}{fd:FuncData}{ps:List Str}{x:Str}{p pos:Pos}{e:Expr}{es:List Expr}{fs:GA}{st:Stmt}{M:GM}
def WO{Z:St}{H:Hp}{Q:VK}(t:tG K (oX M fs) Z H Q)(hn:∀rs Q0 Q0',fs Q0=some (rs,Q0')->rs.length=n):qk (fL K n M) [] E0 (kb K fs) Z H Q:=by
 obtain⟨F,A,Q0,rr,Q0',k,e,w⟩:=t;obtain⟨rs,os,d,fin,v0,e1,e2,e3,e4,rfl⟩:=UQ e;refine⟨F,A,Q0,rs,Q0',k,e1,λvs H1 pp=>?_⟩
 show fL K n M (vs++[]) H1 Q E0;rw[kZ];obtain⟨F1,le,eY,res⟩:=pp.res e2 w;obtain⟨_,_,_,_,hh⟩:=pp;refine⟨by rw[<-hh.length];exact hn rs Q0 Q0' e1,H1,[],(O.dl os).map .Y,.Y d,fin,⟨aF.refl _,Fs (WN le eY),.nil,λ_ m=>by cases m⟩,e3,λv H' pc=>?_⟩
 obtain⟨F5,A5,x5,k5⟩:=pc;have s:aF H1 H':=λa o e=>x5.keep a o e (by simp)
 have ev:v=v0:=by
  obtain⟨B,C,h1,_⟩:=k5.os.one;exact iS h1 e4
 subst ev;exact res v H' [] s (.Y (.flat e4 .nil) .nil) .nil (λ_ m=>by cases m)
def xD(D:aH X.K X.mg x st f fd ps)(Fn:bR X.prog X.w X.K X.mg X.base fx k f fd ps (fL K n M))(hr:eD k X.A)(ha:PA X (e::es) (kb K fs))(hn:∀rs Q0 Q0',fs Q0=some (rs,Q0')->rs.length=n)(hg:Gl X x:=by rfl)(o7:(x == ("__debug__":Str))=false:=by decide)
  (he:starEach (e::es) X.env=(false,eval e X.env)::starEach es X.env:=by rfl) (j8:(backTo pos (starEach es X.env)).any (·.1)=false:=by rfl) :
  PE X (.Call (.Name x p) (e::es) [] pos) (tG K (oX M fs)):=(wV D Fn hr ha hg o7 he j8).mono λ_ _ _ t=>WO t hn
def Yv{P:Program}{w:World}{mg:Str->Option Value}{base:Heap}{k:Nat}{f:Addr}{fd:FuncData}{ps:List Str}{M:GM}(F:bR P w K mg base fx k f fd ps (fL K 1 M))(h:∀ns:List Int,ns.length<=63->∃fin,M [.Y (.fK ns)]=some (.Y (.bl true),fin)):
  bR P w K mg base fx k f fd ps (λvs H Q _=>∃(a:Addr) (ns:List Int),vs=[.ref a]/\dX K H a (ns.map V.int)/\ns.length<=63/\∀H',Q (.bl true) H'):=F.imp λvs H Q E q=>by
 obtain⟨a,ns,rfl,hS,hl,q⟩:=q;obtain⟨fin,e⟩:=h ns hl;refine⟨rfl,H,[],[.Y (.fK ns)],_,fin,⟨aF.refl _,.Y (.fK hS .nil) .nil,.nil,λ_ m=>by cases m⟩,e,λv H' pc=>?_⟩
 obtain⟨F5,A5,x5,k5⟩:=pc;obtain⟨B,C,h1,_⟩:=k5.os.one;cases iS h1 rfl;exact q H'
end
end L2
namespace L2
open PySem
open Lean Meta in
simproc_decl af (Option.bind _ _):=λe=>do
 let a:=e.getAppArgs
 unless a.size == 4 do return .continue
 let r0 <-Simp.simp a[2]!
 let r:={ r0 with expr:=(<-instantiateMVars r0.expr).cleanupAnnotations.headBeta}
 let pr <-match r.proof? with
  |none=>pure none
  |some p=>pure (some (<-mkCongrArg (.lam `z (<-inferType a[2]!) (mkApp4 e.getAppFn a[0]! a[1]! (.bvar 0) a[3]!) .default) p))
 if r.expr.isAppOfArity ``Option.some 2 then
  return .visit { expr:=(mkApp a[3]! r.expr.appArg!).headBeta,proof?:=pr}
 if r.expr.isAppOfArity ``Option.none 1 then
  return .done { expr:=mkApp (.const ``Option.none (e.getAppFn.constLevels!.drop 1)) a[1]!,proof?:=pr}
 return .done { expr:=mkApp4 e.getAppFn a[0]! a[1]! r.expr a[3]!,proof?:=pr}
open Lean Meta in
simproc_decl evMap (Option.map _ _):=λe=>do
 let a:=e.getAppArgs
 unless a.size == 4 do return .continue
 let r0 <-Simp.simp a[3]!
 let r:={ r0 with expr:=(<-instantiateMVars r0.expr).cleanupAnnotations.headBeta}
 let pr <-match r.proof? with
  |none=>pure none
  |some p=>pure (some (<-mkCongrArg (.lam `z (<-inferType a[3]!) (mkApp4 e.getAppFn a[0]! a[1]! a[2]! (.bvar 0)) .default) p))
 if r.expr.isAppOfArity ``Option.some 2 then
  return .visit { expr:=mkApp2 (.const ``Option.some (e.getAppFn.constLevels!.drop 1)) a[1]! (mkApp a[2]! r.expr.appArg!).headBeta,proof?:=pr}
 if r.expr.isAppOfArity ``Option.none 1 then
  return .done { expr:=mkApp (.const ``Option.none (e.getAppFn.constLevels!.drop 1)) a[1]!,proof?:=pr}
 return .done { expr:=mkApp4 e.getAppFn a[0]! a[1]! a[2]! r.expr,proof?:=pr}
section
variable(f g h:GS)(fa fb fc:GE)(fs:GA)(ft gt:GT)(lo hi:GO)(Q0:Gm)(i n:Nat)(o:O)(d:D)(ds:List D)(os:List O)(gg:GG)(M:GM)(op:List O->Option O)(mu:O->List O->Option (O×O))(c:List O->O)
theorem cY:aR f g Q0=(f Q0).bind λp=>match p.1 with
 |.nx=>g p.2
 |.bk=>some (.bk,p.2)
 |.ct=>some (.ct,p.2)
 |.rt o=>some (.rt o,p.2):=rfl
def dA:bw Q0=some (.nx,Q0):=rfl
theorem eJ:ak i fa Q0=(fa Q0).bind λp=>match p.1 with
 |.own o=>if i<p.2.length then some (.nx,p.2.set i (some o)) else none
 |.var _=>none:=rfl
theorem eG:aP fa Q0=(fa Q0).bind λp=>match p.1 with
 |.own o=>some (.rt o,p.2)
 |.var _=>none:=rfl
def jP:jw fa Q0=(fa Q0).bind λp=>some (.nx,p.2):=rfl
def dh:ck ft f g Q0=(ft Q0).bind λp=>if p.1=true then f p.2 else g p.2:=rfl
theorem rQ:fR fa fb fc Q0=(fa Q0).bind λp=>(fb p.2).bind λq=>(fc q.2).bind λr=>match p.1,q.1,r.1 with
 |.own v,.var i,.own y=>match r.2[i]? with
  |some (some o)=>(jK o [v,y]).bind λz=>some (.nx,r.2.set i (some z.1))
  |_=>none
 |_,_,_=>none:=rfl
theorem pS:ef fa gg f Q0=(av fa Q0).bind λp=>match p.1 with
 |.own (.Y (.lst ds))=>fz gg f ds p.2
 |_=>none:=rfl
def xZ:uM fs gg f Q0=(fs Q0).bind λp=>(gK p.1).bind λj=>fz gg f (fE 0 j.toNat) p.2:=rfl
def Kz:Fq fs gg f Q0=(fs Q0).bind λp=>(kP p.1).bind λj=>fz gg f (fE j.1 (j.2 - j.1).toNat) p.2:=rfl
def bI:gC d Q0=some (.own (.Y d),Q0):=rfl
theorem aV:aa i Q0=match Q0[i]? with
 |some (some (.Y d))=>some (.own (.Y d),Q0)
 |some (some _)=>some (.var i,Q0)
 |_=>none:=rfl
theorem cU:av fa Q0=(fa Q0).bind λp=>match p.1 with
 |.own o=>some (.own (.Y o.d),p.2)
 |.var i=>match p.2[i]? with
  |some (some o)=>some (.own (.Y o.d),p.2.set i (some (.Y o.d)))
  |_=>none:=rfl
theorem ua:fP fa Q0=(fa Q0).bind λp=>match p.1 with
 |.own o=>some (.own o,p.2)
 |.var i=>match p.2[i]? with
  |some (some o)=>some (.own o,p.2.set i none)
  |_=>none:=rfl
def bb:gN Q0=some ([],Q0):=rfl
def ba:ai fa fs Q0=(fa Q0).bind λp=>(fs p.2).bind λq=>some (p.1::q.1,q.2):=rfl
def bu:gO op fs Q0=(fs Q0).bind λp=>(fV p.2 p.1).bind λos=>(op os).bind λo=>some (.own o,p.2):=rfl
def fM:bA c fs Q0=(fs Q0).bind λp=>if p.1.length<=1000 then(fT p.1).bind λos=>some (.own (c os),p.2) else none:=rfl
def Fu:zp Q0=some (.own (.aE []),Q0):=rfl
theorem cH:gT fa Q0=(fa Q0).bind λp=>match p.1 with
 |.own (.Y (.bl b))=>some (b,p.2)
 |_=>none:=rfl
def jR:dR fa Q0=(fa Q0).bind λp=>(j_ p.2 p.1).bind λo=>(pD o).bind λb=>some (b,p.2):=rfl
def oT:dO ft Q0=(ft Q0).bind λp=>some (!p.1,p.2):=rfl
def lJ:ie ft gt Q0=(ft Q0).bind λp=>if p.1=true then gt p.2 else some (false,p.2):=rfl
def uh:iW ft gt Q0=(ft Q0).bind λp=>if p.1=true then some (true,p.2) else gt p.2:=rfl
def x_:zM ft fa fb Q0=(ft Q0).bind λp=>if p.1=true then fa p.2 else fb p.2:=rfl
def Yw:si fa fb Q0=(gT fa Q0).bind λp=>if p.1=true then fb p.2 else gC (.bl false) p.2:=rfl
def Yx:sk fa Q0=(gT fa Q0).bind λp=>gC (.bl (!p.1)) p.2:=rfl
def gc:aI M fs Q0=(fs Q0).bind λp=>(oS p.1 p.2).bind λq=>(M q.1).bind λr=>some (.own r.1,qY p.1 r.2 q.2):=rfl
theorem lV:fA mu fa fs Q0=(fa Q0).bind λp=>match p.1 with
 |.var i=>match p.2[i]? with
  |some (some (.lst _))=>(fs p.2).bind λq=>(fT q.1).bind λos=>match q.2[i]? with
   |some (some o)=>(mu o os).bind λz=>some (.own z.2,q.2.set i (some z.1))
   |_=>none
  |_=>none
 |_=>none:=rfl
def FT:xS Q0=some (none,Q0):=rfl
def FU:wa fa Q0=(fa Q0).bind λp=>(u_ p.1).map λi=>(some i,p.2):=rfl
def Fv:uQ fa lo hi Q0=(fa Q0).bind λp=>(lo p.2).bind λq=>(hi q.2).bind λr=>(j_ r.2 p.1).bind λo=>(uw o q.1 r.1).bind λo'=>some (.own o',r.2):=rfl
def oU(src:Gm->Option (List D×Gm))(k:Nat)(cap:List Nat):kJ src gg ft fa k cap Q0=(src Q0).bind λp=>
 (compLoop gg ft fa p.1 (List.replicate k none++(cD cap p.2).1) []).bind λq=>if q.2.length=k+cap.length then some (.own (.lst q.1),uf cap (q.2.drop k) (cD cap p.2).2) else none:=rfl
theorem vZ:ka fa Q0=(av fa Q0).bind λp=>match p.1 with
 |.own (.Y (.lst ds))=>some (ds,p.2)
 |_=>none:=rfl
def OY:mh fs Q0=(fs Q0).bind λp=>(gK p.1).map λj=>(fE 0 j.toNat,p.2):=rfl
def IZ:qf fs Q0=(fs Q0).bind λp=>(kP p.1).map λj=>(fE j.1 (j.2 - j.1).toNat,p.2):=rfl
def wc:fQ Q0=some (true,Q0):=rfl
def iz:bj i d Q0=if i<Q0.length then some (Q0.set i (some (.Y d))) else none:=rfl
def JB(gs:List GG):gr gs (.tup ds) Q0=ig gs ds Q0:=rfl
def I_:ig [] [] Q0=some Q0:=rfl
def Ja(gs:List GG):ig (gg::gs) (d::ds) Q0=(gg d Q0).bind λaz=>ig gs ds az:=rfl
def gn(m:List Bool):runM n m f os=(f (os.map some++List.replicate (n - os.length) none)).bind λp=>p.1.val.bind λo=>if p.2.length=n then some (o,gu m (p.2.take os.length)) else none:=rfl
def WQ:fz gg f [] Q0=some (.nx,Q0):=rfl
theorem y9:fz gg f (d::ds) Q0=(gg d Q0).bind λaz=>(f az).bind λq=>match q.1 with
 |.nx=>fz gg f ds q.2
 |.ct=>fz gg f ds q.2
 |.bk=>some (.nx,q.2)
 |.rt o=>some (.rt o,q.2):=rfl
def J4:compLoop gg ft fa [] Q0 os=some (os,Q0):=rfl
def J5:compLoop gg ft fa (d::ds) Q0 os=(gg d Q0).bind λaz=>(ft az).bind λp=>if p.1=true then
   (fa p.2).bind λq=>(fT [q.1]).bind λwU=>if os.length<1000000 then compLoop gg ft fa ds q.2 (os++wU) else none
  else compLoop gg ft fa ds p.2 os:=rfl
def Vw:uw (.Y (.lst ds)) l u=some (.lst ((cutD ds l u).map .Y)):=rfl
def Vx(z:Str):uw (.Y (.str z)) l u=if z.length<=1000000 then some (.Y (.str (Txt.slice z l u))) else none:=rfl
def Q7:dH (.Y (.lst ds))=some ds:=rfl
def Gv:dH (.lst (ds.map .Y))=some ds:=y8 ds
def Gw:dH (.lst os)=j6 os:=rfl
def J6:j6 []=some []:=rfl
def J7:j6 (.Y d::os)=(j6 os).bind λds=>some (d::ds):=rfl
def iA(a b:Int):b_ [.Y (.int a),.Y (.int b)]=some (.Y (.int (a+b))):=rfl
def Yy(a b:Str):b_ [.Y (.str a),.Y (.str b)]=if a.length+b.length<=1000000 then some (.Y (.str (a++b))) else none:=rfl
def FV(a b:List O):b_ [.lst a,.lst b]=(dH (.lst a)).bind λxs=>(dH (.lst b)).bind λys=>if xs.length+ys.length<=1000000 then some (.lst ((xs++ys).map .Y)) else none:=rfl
def WR(a:List D)(b:List O):b_ [.Y (.lst a),.lst b]=(dH (.lst b)).bind λys=>if a.length+ys.length<=1000000 then some (.lst ((a++ys).map .Y)) else none:=rfl
def fN(C:Int->Int->Bool)(q:Int->Int->D)(a b:Int):n6 C q [.Y (.int a),.Y (.int b)]=if C a b=true then some (.Y (q a b)) else none:=rfl
def zh(a b:Int):gv [.Y (.int a),.Y (.int b)]=if(-(2^64)<a/\a<2^64)\/(-(2^64)<b/\b<2^64) then some (.Y (.int (a*b))) else none:=rfl
def FW(a:Str)(b:Int):gv [.Y (.str a),.Y (.int b)]=if MulOk a b then some (.Y (.str (Txt.mul a b))) else none:=rfl
def Gx(a:Int):sY [.Y (.int a)]=some (.Y (.int (-a))):=rfl
def cG(a:O):bB [a,.Y d]=eE a d:=rfl
def jS(k:Int):eE (.Y (.lst ds)) (.int k)=(cN ds k).map .Y:=rfl
def jE(k:Int):eE (.Y (.tup ds)) (.int k)=(cN ds k).map .Y:=rfl
def zr(k:Int):eE (.lst os) (.int k)=(cN os k).bind jn:=rfl
def Gy(z:Str)(k:Int):eE (.Y (.str z)) (.int k)=if z.length<=1000000 then(cN z.cps.toList k).map λc=>.Y (.str ⟨#[c]⟩) else none:=rfl
def y_:jn (.Y d)=some (.Y d):=rfl
def oY(a:O):cI [a]=(vc a.d).map λn=>.Y (.int n):=rfl
def pR:vc (.lst ds)=some (ds.length:Int):=rfl
def nr(a b:O):oEq [a,b]=if cQ 40 a.d=true/\cQ 40 b.d=true then some (.Y (.bl (aU a.d b.d))) else none:=rfl
def χ(a:Bool):n8 [.Y (.bl a)]=some (.Y (.int (if a then 1 else 0))):=rfl
def FX(ps:List O)(v:O)(k:Int):jK (.lst ps) [v,.Y (.int k)]=(mH ps.length k).map λj=>(.lst (ps.set j v),.Y .bH):=rfl
def f_:oS [] Q0=some ([],Q0):=rfl
def gb(rs:List R):oS (.own o::rs) Q0=(oS rs Q0).bind λp=>some (o::p.1,p.2):=rfl
theorem ja(rs:List R):oS (.var i::rs) Q0=match Q0[i]? with
  |some (some o)=>(oS rs (Q0.set i none)).bind λp=>some (o::p.1,p.2)
  |_=>none:=rfl
def gQ(fin:Gm):qY [] fin Q0=Q0:=by cases fin <;> rfl
def gR(rs:List R)(x:Option O)(fin:Gm):qY (.own o::rs) (x::fin) Q0=qY rs fin Q0:=rfl
def jT(rs:List R)(x:Option O)(fin:Gm):qY (.var i::rs) (x::fin) Q0=(qY rs fin Q0).set i x:=rfl
def bp:fV Q0 []=some []:=rfl
def bq(r:R)(rs:List R):fV Q0 (r::rs)=(j_ Q0 r).bind λo=>(fV Q0 rs).bind λos=>some (o::os):=rfl
def br:j_ Q0 (.own o)=some o:=rfl
def ju:j_ Q0 (.var i)=(Q0[i]?).join:=rfl
def eZ:fT []=some []:=rfl
def gD(rs:List R):fT (.own o::rs)=(fT rs).bind λos=>some (o::os):=rfl
def FY(k:Int):u_ (.own (.Y (.int k)))=some k:=rfl
def q_(m:List Bool)(x:Option O):gu (true::m) (x::Q0)=x::gu m Q0:=rfl
def gE(m:List Bool)(x:Option O):gu (false::m) (x::Q0)=none::gu m Q0:=rfl
def gp(m:List Bool):gu m []=[]:=by
 cases m with
 |nil=>rfl
 |cons b m=>cases b <;> rfl
def gY:(Fl.rt o).val=some o:=rfl
def RY:Fl.nx.val=some (.Y .bH):=rfl
def kI(b:Bool):pD (.Y (.bl b))=some b:=rfl
def P5:pD (.Y (.lst ds))=some (!ds.isEmpty):=rfl
def bX:(O.Y d).d=d:=rfl
def jy:(O.lst os).d=.lst (O.dl os):=rfl
def jU:(O.tup os).d=.tup (O.dl os):=rfl
def h_:O.dl []=[]:=rfl
def ia:O.dl (o::os)=o.d::O.dl os:=rfl
def rR:O.dl (ds.map .Y)=ds:=nq ds
end
def lG{α:Type}(a:α)(l:List α):cN (a::l) 0=some a:=oE (j:=0) rfl
def mR{α:Type}(a b:α)(l:List α):cN (a::b::l) 1=some b:=oE (j:=1) rfl
def Jb{α:Type}(a b c:α)(l:List α):cN (a::b::c::l) 2=some c:=oE (j:=2) rfl
def za{α:Type}(a b c d:α)(l:List α):cN (a::b::c::d::l) 3=some d:=oE (j:=3) rfl
def Jc{α:Type}(a b c d e:α)(l:List α):cN (a::b::c::d::e::l) 4=some e:=oE (j:=4) rfl
def Vy(ns:List Int)(l u:Option Int):uw (.Y (.fK ns)) l u=some (.lst ((cutD (ns.map D.int) l u).map .Y)):=rfl
def pM(Q0:Gm):cD [] Q0=([],Q0):=rfl
def t7(i:Nat)(cap:List Nat)(Q0:Gm):cD (i::cap) Q0=((Q0[i]?).join::(cD cap (Q0.set i none)).1,(cD cap (Q0.set i none)).2):=rfl
def pO(x Q0:Gm):uf [] x Q0=Q0:=by cases x <;> rfl
def t8(i:Nat)(cap:List Nat)(x:Option O)(k_ Q0:Gm):uf (i::cap) (x::k_) Q0=(uf cap k_ Q0).set i x:=rfl
theorem vS(M:GM)(fs:GA)(Q0:Gm):oX M fs Q0=(fs Q0).bind λp=>(fV p.2 p.1).bind λos=>(M ((O.dl os).map .Y)).bind λr=>match r.1 with
 |.Y d=>(oF d).bind λ_=>some (.own (.Y d),p.2)
 |_=>none:=rfl
def Yz(a:Str):oF (.str a)=some (.str a):=rfl
def zi(a:Bool):oF (.bl a)=some (.bl a):=rfl
def mT(n:Nat)(a:Int):cQ n (.int a)=true:=by cases n <;> rfl
def qx(n:Nat)(a:Str):cQ n (.str a)=true:=by cases n <;> rfl
def oH(a b:Int):aU (.int a) (.int b)=(a == b):=by unfold aU;rfl
def BS(a b:Str):aU (.str a) (.str b)=(a == b):=by unfold aU;rfl
end L2
namespace L2
open PySem PySem.Spec PyProof.Rows
section
variable{X:Cx}{ae:List (Addr×Obj)}{s:Shared}{Z:St}{H:Hp}
def ψ(I:Inv X ae Z H s){n m:Nat}{A:Around}{x y:V}{u v:Value}{d e:D}(rd:aj X.K H [x] [d])(re:aj X.K H [y] [e])(od:cQ n d=true)(oe:cQ m e=true)(ru:RelV x u)(rv:RelV y v)(hu:A.units+n<cLine):SeqAt.RcNeAt A s u v (!aU d e):=by
 have dE:A.units<cLine:=by lia
 have s1:=Gr I rd ru od;have s2:=Gr I re rv oe;cases s1 with
 |none=>
  cases s2 with
  |none=>
   simp only[aU];exact SeqAt.RcNeAt.none_none
  |bool a2=>
   simp only[aU];exact SeqAt.RcNeAt.none_bool a2
  |int a2 t2=>
   simp only[aU];exact SeqAt.RcNeAt.none_int a2 t2
  |str a2 t2=>
   simp only[aU];exact SeqAt.RcNeAt.none_str a2 t2
  |list l2 v2 r2=>
   simp only[aU];exact SeqAt.RcNeAt.none_list l2 dE
  |tuple l2 v2 r2=>
   simp only[aU];exact SeqAt.RcNeAt.none_tuple l2 dE
 |bool a1=>
  cases s2 with
  |none=>
   simp only[aU];exact SeqAt.RcNeAt.bool_none a1
  |bool a2=>
   simp only[aU];exact SeqAt.RcNeAt.bool_bool a1 a2
  |int a2 t2=>
   simp only[aU];exact SeqAt.RcNeAt.bool_int a1 a2 t2
  |str a2 t2=>
   simp only[aU];exact SeqAt.RcNeAt.bool_str a1 a2 t2
  |list l2 v2 r2=>
   simp only[aU];exact SeqAt.RcNeAt.bool_list a1 l2 dE
  |tuple l2 v2 r2=>
   simp only[aU];exact SeqAt.RcNeAt.bool_tuple a1 l2 dE
 |int a1 t1=>
  cases s2 with
  |none=>
   simp only[aU];exact SeqAt.RcNeAt.int_none a1 t1
  |bool a2=>
   simp only[aU];exact SeqAt.RcNeAt.int_bool a1 t1 a2
  |int a2 t2=>
   simp only[aU];exact SeqAt.RcNeAt.int_int a1 t1 a2 t2
  |str a2 t2=>
   simp only[aU];exact SeqAt.RcNeAt.int_str a1 t1 a2 t2
  |list l2 v2 r2=>
   simp only[aU];exact SeqAt.RcNeAt.int_list a1 t1 l2 dE
  |tuple l2 v2 r2=>
   simp only[aU];exact SeqAt.RcNeAt.int_tuple a1 t1 l2 dE
 |str a1 t1=>
  cases s2 with
  |none=>
   simp only[aU];exact SeqAt.RcNeAt.str_none a1 t1
  |bool a2=>
   simp only[aU];exact SeqAt.RcNeAt.str_bool a1 t1 a2
  |int a2 t2=>
   simp only[aU];exact SeqAt.RcNeAt.str_int a1 t1 a2 t2
  |str a2 t2=>
   simp only[aU];exact SeqAt.RcNeAt.str_str a1 t1 a2 t2
  |list l2 v2 r2=>
   simp only[aU];exact SeqAt.RcNeAt.str_list a1 t1 l2 dE
  |tuple l2 v2 r2=>
   simp only[aU];exact SeqAt.RcNeAt.str_tuple a1 t1 l2 dE
 |list l1 v1 r1=>
  cases s2 with
  |none=>
   simp only[aU];exact SeqAt.RcNeAt.list_none l1 dE
  |bool a2=>
   simp only[aU];exact SeqAt.RcNeAt.list_bool a2 l1 dE
  |int a2 t2=>
   simp only[aU];exact SeqAt.RcNeAt.list_int a2 t2 l1 dE
  |str a2 t2=>
   simp only[aU];exact SeqAt.RcNeAt.list_str a2 t2 l1 dE
  |list l2 v2 r2=>
   rename_i a ay ws es b kR EA lW
   obtain⟨n',rfl,sZ⟩:=ze od;obtain⟨m',rfl,s9⟩:=ze oe;have la:=v1.length;have lb:=v2.length;have LY:=r1.length;have LZ:=r2.length;simp only[aU];by_cases hl:es.length=lW.length
   .rw[Bn ay.toArray.size (by simp only[fH];lia) (by simp only[fH];lia)]
    refine SeqAt.RcNeAt.lists (A:=A) l1 l2 (by simp only[fH];lia) dE λj h1 h2=>?_
    obtain⟨x1,q1,q2,q3⟩:=v9 r1 v1 h1;obtain⟨y1,p1,p2,p3⟩:=v9 r2 v2 h2;exact(zq I n' m' q2 p2 (vQ sZ q3) (vQ s9 p3) q1 p1 (by show A.units+1+n'<cLine;lia)).1
   .rw[Bm hl];exact SeqAt.RcNeAt.lists_lengths (A:=A) l1 l2 (by simp only[fH,bne_iff_ne,ne_eq];lia) dE
  |tuple l2 v2 r2=>
   simp only[aU];exact SeqAt.RcNeAt.list_tuple l1 l2 dE
 |tuple l1 v1 r1=>
  cases s2 with
  |none=>
   simp only[aU];exact SeqAt.RcNeAt.tuple_none l1 dE
  |bool a2=>
   simp only[aU];exact SeqAt.RcNeAt.tuple_bool a2 l1 dE
  |int a2 t2=>
   simp only[aU];exact SeqAt.RcNeAt.tuple_int a2 t2 l1 dE
  |str a2 t2=>
   simp only[aU];exact SeqAt.RcNeAt.tuple_str a2 t2 l1 dE
  |list l2 v2 r2=>
   simp only[aU];exact SeqAt.RcNeAt.tuple_list l1 l2 dE
  |tuple l2 v2 r2=>
   rename_i a ay ws es b kR EA lW
   obtain⟨n',rfl,sZ⟩:=zf od;obtain⟨m',rfl,s9⟩:=zf oe;have la:=v1.length;have lb:=v2.length;have LY:=r1.length;have LZ:=r2.length;have z:=SeqAt.RcNeAt.tuples (A:=A) (e:=λj=>aU (es.getD j .bH) (lW.getD j .bH)) l1 l2 dE λj h1 h2=>by
    obtain⟨x1,q1,q2,q3⟩:=v9 r1 v1 h1;obtain⟨y1,p1,p2,p3⟩:=v9 r2 v2 h2;exact(zq I n' m' q2 p2 (vQ sZ q3) (vQ s9 p3) q1 p1 (by show A.units+1+n'<cLine;lia)).1
   simp only[aU];by_cases hl:es.length=lW.length
   .rw[Bn ay.toArray.size (by simp only[fH];lia) (by simp only[fH];lia)]
    have e1:kR.toArray.size=ay.toArray.size:=by simp only[fH];lia
    rw[e1,MW,pJ,HQ] at z;exact z
   .rw[Bm hl];have e1:(ay.toArray.size == kR.toArray.size)=false:=by rw[pK];simp only[fH];lia
    rw[e1,Ao] at z;exact z
end
section
variable{X:Cx}{K:FG}
def Ec(K:FG):R2:=λx y H Q=>∃d e,aj K H [x] [d]/\aj K H [y] [e]/\cQ 40 d=true/\cQ 40 e=true/\Q (.bl (!aU d e)) H
def uR(K:FG)(hu:X.A.units+40<cLine)(hK:X.K=K:=by rfl):gd X (compareOp .NotEq) (Ec K):=by
 subst hK;intro ae s Z H x y v u Q I rx ry h;obtain⟨d,e,r1,r2,o1,o2,q⟩:=h;exact(ψ I r1 r2 o1 o2 rx ry hu) X.prog X.w _ _ ⟨.bl _,H,I,rfl,q⟩
def dM:List O->Option O
 |[a,b]=>if cQ 40 a.d=true/\cQ 40 b.d=true then some (.Y (.bl (!aU a.d b.d))) else none
 |_=>none
def uS:cM K (mV (Ec K)) dM:=by
 intro F H vs os o Q le eY e res;unfold dM at e;split at e
 .split at e
  .cases e;obtain⟨x,y,B,C,rfl,h1,h2⟩:=eY.two
   rename_i hh
   exact⟨_,_,rfl,_,_,pP le h1,pP le h2,hh.1,hh.2,res.flat rfl⟩
  .cases e
 .cases e
end
end L2
namespace L2
open PySem
variable{g:GG}{ct:GT}{ce:GE}
def rM(g:GG)(ct:GT)(ce:GE)(d:D)(Q0:Gm):Option (Option R×Gm):=(g d Q0).bind λaz=>(ct az).bind λp=>if p.1=true then(ce p.2).bind λq=>some (some q.1,q.2) else some (none,p.2)
theorem Oj{d:D}{ds:List D}{Q0 Q0':Gm}{os:List O}{r:Option R}(h:rM g ct ce d Q0=some (r,Q0')):
  compLoop g ct ce (d::ds) Q0 os=match r with
   |some r=>(fT [r]).bind λwU=>if os.length<1000000 then compLoop g ct ce ds Q0' (os++wU) else none
   |none=>compLoop g ct ce ds Q0' os:=by
 rw[J5];unfold rM at h;cases e1:g d Q0 with
 |none=>rw[e1] at h;cases h
 |some az=>
  rw[e1] at h;rw[Option.bind_some] at h ⊢;cases e2:ct az with
  |none=>rw[e2] at h;cases h
  |some p=>
   rw[e2] at h;rw[Option.bind_some] at h ⊢;by_cases hp:p.1=true
   .rw[aJ hp] at h ⊢;cases e3:ce p.2 with
    |none=>rw[e3] at h;cases h
    |some q=>rw[e3] at h;cases h;rfl
   .rw[aQ hp] at h ⊢;cases h;rfl
theorem vT{α:Type}{g:GG}{ct:GT}{ce:GE}(St:Gm->Prop)(enc:α->D)(p:α->Bool)(val:α->D):∀(xs:List α) (ax:List D) (Q0:Gm),St Q0->ax.length+xs.length<1000000->
  (∀x∈xs,∀Q0,St Q0->∃Q0',rM g ct ce (enc x) Q0=some (if p x=true then some (.own (.Y (val x))) else none,Q0')/\St Q0')->
  ∃Q0',St Q0'/\compLoop g ct ce (xs.map enc) Q0 (ax.map .Y)=some ((ax++(xs.filter p).map val).map .Y,Q0')
 |[],ax,Q0,hS,_,_=>⟨Q0,hS,by rw[oO,J4,List.filter_nil,oO,kZ]⟩
 |x::xs,ax,Q0,hS,hl,h=>by
  rw[hX] at hl;obtain⟨az,e1,s1⟩:=h x (.head _) Q0 hS;by_cases hp:p x=true
  .rw[aJ hp] at e1;rw[cS,Oj e1];obtain⟨cu,s2,e2⟩:=vT St enc p val xs (ax++[val x]) az s1 (by rw[dy,jC];lia) λy hy=>h y (.tail _ hy)
   refine⟨cu,s2,?_⟩;show(if(ax.map O.Y).length<1000000 then compLoop g ct ce (xs.map enc) az (ax.map O.Y++[O.Y (val x)]) else none)=_
   rw[aJ (by rw[bz];lia),List.filter_cons_of_pos hp,cS,show ax++val x::(xs.filter p).map val=ax++[val x]++(xs.filter p).map val by simp,<-e2,iH]
   rfl
  .rw[aQ hp] at e1;rw[cS,Oj e1];obtain⟨cu,s2,e2⟩:=vT St enc p val xs ax az s1 (by lia) λy hy=>h y (.tail _ hy)
   refine⟨cu,s2,?_⟩;rw[List.filter_cons_of_neg hp];exact e2
def Bp{α:Type}(St:Gm->Prop)(enc:α->D)(val:α->D)(xs:List α)(Q0:Gm)(hS:St Q0)(hl:xs.length<1000000)
  (h:∀x∈xs,∀Q0,St Q0->∃Q0',rM g ct ce (enc x) Q0=some (some (.own (.Y (val x))),Q0')/\St Q0'):∃Q0',St Q0'/\compLoop g ct ce (xs.map enc) Q0 []=some ((xs.map val).map .Y,Q0'):=by
 obtain⟨Q0',s,e⟩:=vT St enc (λ_=>true) val xs [] Q0 hS (by rw[rJ];lia) λx hx Q0 yl=>h x hx Q0 yl
 refine⟨Q0',s,?_⟩;rw[fI,List.filter_eq_self.mpr (λ_ _=>rfl)] at e
 exact e
def vU(g:GG)(ct:GT)(ce:GE)(d:D)(Q0:Gm):rM g ct ce d Q0=(g d Q0).bind λaz=>(ct az).bind λp=>if p.1=true then(ce p.2).bind λq=>some (some q.1,q.2) else some (none,p.2):=rfl
def J8(a b:O):dM [a,b]=if cQ 40 a.d=true/\cQ 40 b.d=true then some (.Y (.bl (!aU a.d b.d))) else none:=rfl
def J9(a b:Int):dM [.Y (.int a),.Y (.int b)]=some (.Y (.bl (!(a == b)))):=by
 unfold dM;simp[O.d,cQ,aU]
def ω(a b:Str):dM [.Y (.str a),.Y (.str b)]=some (.Y (.bl (!(a == b)))):=by
 unfold dM;simp[O.d,cQ,aU]
def q8(ds:List D)(d:D):pQ (.lst (ds.map .Y)) [.Y d]=if ds.length<1000000 then some (.lst ((ds++[d]).map .Y),.Y .bH) else none:=by
 show(if(ds.map O.Y).length<1000000 then _ else _)=_
 rw[bz,iH];rfl
theorem mB{α:Type}{g:GG}{f:GS}(enc:α->D)(P:List α->Gm->Prop):∀(xs pre:List α) (Q0:Gm),P pre Q0->
  (∀q x post Q0,xs=q++x::post->P (pre++q) Q0->∃cu,(g (enc x) Q0).bind f=some (.nx,cu)/\P (pre++q++[x]) cu)->∃Q0',fz g f (xs.map enc) Q0=some (.nx,Q0')/\P (pre++xs) Q0'
 |[],pre,Q0,h,_=>⟨Q0,rfl,by rw[kZ];exact h⟩
 |x::xs,pre,Q0,h,st=>by
  obtain⟨cu,h2,h3⟩:=st [] x xs Q0 rfl (by rw[kZ];exact h)
  rw[kZ] at h3;obtain⟨Q0',h4,h5⟩:=mB enc P xs (pre++[x]) cu h3 λq y post Q0 e p=>by
   obtain⟨cu,b,c⟩:=st (x::q) y post Q0 (by rw[e];rfl) (by rw[show pre++x::q=pre++[x]++q by simp];exact p)
   exact⟨cu,b,by rw[show pre++[x]++q++[y]=pre++x::q++[y] by simp];exact c⟩
  refine⟨Q0',?_,by rw[show pre++x::xs=pre++[x]++xs by simp];exact h5⟩
  rw[cS,y9];cases q:g (enc x) Q0 with
  |none=>rw[q] at h2;cases h2
  |some az=>
   rw[q] at h2;have h2:f az=some (.nx,cu):=h2;show(f az).bind _=_;rw[h2];exact h4
def Jd{α:Type}{f:GS}(enc:α->D)(P:Gm->Prop)(xs:List α)(Q0:Gm)(h:P Q0)(st:∀x∈xs,∀Q0,P Q0->∃cu,(g (enc x) Q0).bind f=some (.nx,cu)/\P cu):∃Q0',fz g f (xs.map enc) Q0=some (.nx,Q0')/\P Q0':=
 mB enc (λ_ Q0=>P Q0) xs [] Q0 h λq x post Q0 e p=>st x (by rw[e];simp) Q0 p
def qV(lo:Int)(n:Nat):fE lo n=(List.range n).map λ(k:Nat)=>D.int (lo+(k:Int)):=rfl
end L2
namespace L2
open PySem PySem.Spec PyProof.Rows
section
variable{X:Cx}{K:FG}{fa fk fv:GE}{f:GS}{m:List Bool}{tg l:Expr}{t:TG}{gg:GG}{body:List Stmt}{p0 p1 pos:Pos}
theorem NG:∀{is:List Int} {ay:List Value},Vals (is.map V.int) ay->∃ps:List (Int×Tok),ay=ps.map (λp=>Value.int p.1 p.2)/\ps.map (·.1)=is
 |[],ay,h=>by
  rw[oO] at h;cases h;exact⟨[],rfl,rfl⟩
 |i::is,ay,h=>by
  rw[cS] at h;cases h with
  |cons r t=>
   obtain⟨ps,e1,e2⟩:=NG t;obtain⟨tk,rfl⟩:=r;exact⟨(i,tk)::ps,by rw[e1];rfl,by rw[cS,e2]⟩
def BU(fk fv:GE):GE:=λQ0=>(fk Q0).bind λp=>(fv p.2).bind λq=>match p.1,q.1 with
 |.own (.Y dk),.own (.Y dv)=>(cL dk).map λk=>(.own (.aE [(k,.Y dv)]),q.2)
 |_,_=>none
theorem WS(fk fv:GE)(Q0:Gm):BU fk fv Q0=(fk Q0).bind λp=>(fv p.2).bind λq=>match p.1,q.1 with
 |.own (.Y dk),.own (.Y dv)=>(cL dk).map λk=>(.own (.aE [(k,.Y dv)]),q.2)
 |_,_=>none:=rfl
def e5r(K:FG)(tk tv:TE):TE:=λZ H Q=>∀p,H p=none->tk Z (upd H p (.dG [] 0)) λx H1=>tv Z H1 λy H2=>∃k:TK,H2 p=some (.dG [] 0)/\aj K H2 [x] [k.d]/\k.ok 8=true/\Q (.ref p) (upd H2 p (.dG [(k,x,y)] 1))
def OZ{ek ev:Expr}{tk tv:TE}(hu:X.A.units+41<cLine)(hk:PE X ek tk)(hv:PE X ev tv):PE X (.Dict [some ek] [ev] pos) (e5r X.K tk tv):=by
 intro ae s Z H Q I q;have hn:=I.cV.fresh (cJ s.heap.objs.size);have I1:=I.laid (a:=s.heap.objs.size) (o:=.dG [] 0) (h':=s.heap.push { cls:=.type "dict",data:=.dict #[]}) (t':=s.toks) (λ_ _ q=>jO _ q) (cJ _) (OT s.heap I.big)
 rw[arm_eval_Dict,zip_pairTrees [some ek] [ev] X.env pos rfl rfl,dictDisplay_pairs _ (by simp[pairTrees]) (by show 1<17;decide)]
 refine aB (wpAny_standAt (aB ?_));unfold subDict;refine aB (wpAny_alloc (aB (mZ ?_)));rw[aJ (by show 1<=15;decide)]
 refine aB (pairTrees_cons_walk (cB (hk ae _ Z _ _ I1 (q _ hn)) λu s1 hh=>?_))
 obtain⟨x,H1,T5,rx,q1⟩:=hh;refine cB (hv ae s1 Z H1 _ T5 q1) λw2 s2 hh=>pairTrees_nil_walk ?_
 obtain⟨y,H2,I2,ry,k,e,rk,ok,q2⟩:=hh;refine mZ (aB ?_);rw[List.forIn_cons];refine aB (aB (Oh (by lia) I2 ⟨[],0,k,e,.nil,rk,ok,by rw[sizeLine_eq];decide,rfl⟩ rx ry λs' I'=>bh ?_))
 dsimp only;rw[List.forIn_nil];exact bh (bh (bh (bh ⟨.ref _,_,I',rfl,q2⟩)))
def WT{ek ev:Expr}(hu:X.A.units+41<cLine)(hk:PE X ek (tG K fk))(hv:PE X ev (tG K fv))(hK:X.K=K:=by rfl):PE X (.Dict [some ek] [ev] pos) (tG K (BU fk fv)):=(OZ hu hk hv).mono λZ H Q t=>by
 subst hK;obtain⟨F,A,Q0,rr,Q0',k,e,w⟩:=t;unfold BU at e;obtain⟨⟨r1,az⟩,e1,e'⟩:=eQ.mp e;clear e;obtain⟨⟨r2,cu⟩,e2,e⟩:=eQ.mp e';clear e';dsimp only at e2 e;split at e
 .rename_i dk dv
  obtain⟨key,ek,e⟩:=iM.mp e;cases e;intro p hn;have nA:p∉A:=λm=>k.os.there p m hn
  have s:aF H (upd H p (.dG [] 0)):=uK hn;have k0:OK X.K F (upd H p (.dG [] 0)) Z Q0 A:=⟨k.le.trans s,k.os.keep (aF.refl _) λa _ o e=>s a o e,k.nd,k.fr⟩
  refine⟨F,A,Q0,_,az,k0,e1,λx H1 pp=>?_⟩
  obtain⟨F1,A1,x1,k1,hh1⟩:=pp;have k1:OK X.K F1 H1 ([some x]++Z) ([some (.Y dk)]++az) A1:=k1;obtain⟨C,kC,fr⟩:=k1.frame rfl;refine⟨F1,C,az,_,Q0',kC,e2,λy H2 pp=>?_⟩
  obtain⟨F2,A2,x2,k2,SG⟩:=pp;obtain⟨A3,x3,k3⟩:=fr _ _ _ _ _ x2 k2;have k3:OK X.K F2 H2 (some x::some y::Z) (some (.Y dk)::some (.Y dv)::Q0') A3:=k3;have ox:=x1.trans x3;have Dv:H2 p=some (.dG [] 0):=ox.keep p _ jt nA;obtain⟨B1,C1,o1,o2,q1⟩:=ag.one k3.os;obtain⟨B2,C2,o3,o4,q2⟩:=ag.one o2;have rx:aj X.K F2 [x] [key.d]:=by rw[(mS ek).1];exact qU o1
  have rv:=qU o3;refine⟨key,Dv,rx.mono k3.le,(mS ek).2,w (.ref p) _ ?_⟩;have np:∀a∈A3,a≠p:=λa m z=>by
   subst z;rcases ox.own a m with z|z
   .exact nA z
   .rw[jt] at z;cases z
  have kp:∀a∈A3,∀o,H2 a=some o->upd H2 p (.dG [(key,x,y)] 1) a=some o:=λa m o e=>by rw[cZ (np a m)];exact e
  subst q2 q1;have jI:∀a∈C2,a∈B1++(B2++C2):=λa m=>hG _ (hG _ m)
  have AS:F2 p=none:=by
   cases eF:F2 p with
   |none=>rfl
   |some o=>
    rcases ox.new p (by rw[eF];exact λz=>by cases z) with z|z|z
    .exact bQ (k.le.free hn) z
    .exact bQ z nA
    .rw[jt] at z;cases z
  have DM:=k3.nd;rw[lC] at DM;have S4:=DM.2.1;rw[lC] at S4;refine⟨F2,p::[]++C2,⟨ox.ff,λa o e n=>?_,λa h=>?_,λa h=>?_,λa m=>?_⟩,⟨λa o e=>?_,?_,?_,?_⟩,iJ⟩
  .have:=ox.keep a o (s a o e) n;rw[cZ (mz e hn)];exact this
  .by_cases z:a=p
   .rw[z,jt];exact λz=>by cases z
   .rw[cZ z];exact ox.r6 a (λz'=>h (s.free z'))
  .rcases ox.new a h with z|z|z
   .exact .inl z
   .exact .inr (.inl z)
   .exact .inr (.inr (s.free z))
  .rcases eC.mp m with rfl|m
   .exact .inr hn
   .rcases ox.own a (jI a m) with z|z
    .exact .inl z
    .exact .inr (s.free z)
  .have h1:=k3.le a o e;rw[cZ (λz=>by rw[z,AS] at e;cases e)];exact h1
  .exact .aE (A:=[]) (B:=C2) jt rfl rx (.Y rv .nil) (o4.keep (aF.refl _) λa m=>kp a (jI a m))
  .exact hU.mpr ⟨λm=>np p (jI p m) rfl,S4.2.1⟩
  .intro a m;rcases eC.mp m with rfl|m
   .exact AS
   .exact k3.fr a (jI a m)
 .cases e
end
variable{L A:List Addr}{t' x1 n i ep:Nat}{P:Program}{w:World}{K:FG}{elts:List Expr}{it a:Addr}{Src:Hp->Prop}{g:TG}{tb:TS}{Z:St}{H F:Hp}{l tg:Expr}{X:Cx}{Q0:Gm}{Q:Option Value->Shared->Prop}{ob:Obj}{xs:Array DictEntry}{tl:TE}{es:List (TK×V×V)}
section
variable{X:Cx}{K:FG}{fo f:GE}{fs:GA}{g:List O->Option O}{r:V->List V->Hp->VK->Prop}{o e:Expr}{es:List Expr}{name:Str}{id:String}{apos cW pos:Pos}
def qe(r:V->List V->Hp->VK->Prop):List V->Hp->VK->Prop:=λvs H Q=>∃x xs,vs=x::xs/\r x xs H Q
def kX:List D->Option (List Str)
 |[]=>some []
 |.str x::ds=>(kX ds).map λxs=>x::xs
 |_=>none
theorem Ol:∀xs:List Str,kX (xs.map .str)=some xs
 |[]=>rfl
 |i::is=>by rw[cS];show(kX (is.map .str)).map _=_;rw[Ol is];rfl
theorem Om:∀{ds:List D} {xs:List Str},kX ds=some xs->ds=xs.map .str
 |[],xs,e=>by cases e;rfl
 |d::ds,xs,e=>by
  cases d with
  |str i=>
   obtain⟨js,e1,e2⟩:=iM.mp (show(kX ds).map _=some xs from e);rw[<-e2,Om e1];rfl
  |_=>cases e
theorem Nv{F:Hp}:∀{ws:List V} {xs:List Str},aj K F ws (xs.map .str)->ws=xs.map .str
 |[],[],_=>rfl
 |[],_::_,h=>by have:=h.length;simp at this
 |_::_,[],h=>by have:=h.length;simp at this
 |w::ws,i::is,h=>by
  rw[cS] at h;have h1:=h.inv.1;have h2:=Nv h.inv.2;rw[h2,cS];cases h1 with
  |flat e _=>cases e;rfl
theorem NH:∀{xs:List Str} {ay:List Value},Vals (xs.map V.str) ay->∃ps:List (Str×Tok),ay=ps.map (λp=>Value.str p.1 p.2)/\ps.map (·.1)=xs
 |[],ay,h=>by
  rw[oO] at h;cases h;exact⟨[],rfl,rfl⟩
 |i::is,ay,h=>by
  rw[cS] at h;cases h with
  |cons r t=>
   obtain⟨ps,e1,e2⟩:=NH t;obtain⟨tk,rfl⟩:=r;exact⟨(i,tk)::ps,by rw[e1];rfl,by rw[cS,e2]⟩
end
section
variable{X:Cx}{ae:List (Addr×Obj)}{Z:List (Option V)}{H:Hp}{s:Shared}{h':Heap}
def Inv.vz{T:Addr}{o:HO}(I:Inv X ae Z H s)(k:∀b ob,b∉L->s.heap.get? b=some ob->h'.get? b=some ob)(hL:∀b∈L,jZ X ae H b)(hT:s.heap.objs.size<=T)
  (new:cw X.prog X.w (upd H T o) h' T o):Inv X ae Z (upd H T o) { s with heap:=h',toks:=t'}:=by
 have hn:H T=none:=I.cV.fresh hT;have nL:∀b u,H b=some u->b∉L:=λb u e z=>by rw[(hL b z).1] at e;cases e
 have nT:∀b u,H b=some u->b≠T:=λb u e z=>by rw[z,hn] at e;cases e
 refine I.step (g':=s.gens) (d':=s.drawn) (ch:=L) (λb hb=>?_) (λb ob _ _ hc e _=>k b ob hc e) (λb ob _ _ hc e _=>⟨ob.slots,k b ob hc e⟩) (λb ob _ e n=>?_)
  (λb ob hc e=>⟨ob,k b ob hc e⟩) (λb xs e=>?_) (λb ob u e=>?_) (λb ps e=>⟨#[],?_⟩) (λm hm=>?_) (λb u e=>?_) I.bare
 .obtain⟨f0,f1,f2,f3,f4,f5⟩:=hL b hb;exact⟨f3,f1,f4,f5⟩
 .rw[cZ (λz=>by subst z;exact bQ (iG (fG e) hT) (pF _))];exact n
 .rw[cZ (nT b _ e)];exact e
 .rw[cZ (nT b _ e)];exact e
 .rw[cZ (nT b _ e),e];simp
 .obtain⟨ob,es,ep,ho,r⟩:=hm;exact⟨ob,es,ep,k _ ob (λz=>(hL _ z).2.1 rfl) ho,r⟩
 .by_cases hb:b=T
  .subst hb;rw[jt] at e;cases e;exact new
  .rw[cZ hb] at e;refine(I.cV b u e).ot (λc v hc q=>k c v ?_ q) (λc q=>by rw[cZ (nT c _ q)];exact q) λc xs q=>by rw[cZ (nT c _ q)];exact q
   rcases hc with z|z
   .rw[z];exact nL b u e
   .exact nL c _ z
def Inv.Ey(I:Inv X ae Z H s)(k:∀b ob,b∉L->s.heap.get? b=some ob->h'.get? b=some ob)(hL:∀b∈L,jZ X ae H b):Inv X ae Z H { s with heap:=h',toks:=t'}:=by
 have nL:∀b u,H b=some u->b∉L:=λb u e z=>by rw[(hL b z).1] at e;cases e
 refine I.step (g':=s.gens) (d':=s.drawn) (ch:=L) (λb hb=>?_) (λb ob _ _ hc e _=>k b ob hc e) (λb ob _ _ hc e _=>⟨ob.slots,k b ob hc e⟩) (λb ob _ e n=>n)
  (λb ob hc e=>⟨ob,k b ob hc e⟩) (λb xs e=>e) (λb ob u e=>e) (λb ps e=>⟨#[],by rw[e];simp⟩) (λm hm=>?_) (λb u e=>?_) I.bare
 .obtain⟨f0,f1,f2,f3,f4,f5⟩:=hL b hb;exact⟨f3,f1,f4,f5⟩
 .obtain⟨ob,es,ep,ho,r⟩:=hm;exact⟨ob,es,ep,k _ ob (λz=>(hL _ z).2.1 rfl) ho,r⟩
 .refine(I.cV b u e).ot (λc v hc q=>k c v ?_ q) (λc q=>q) λc xs q=>q
  rcases hc with z|z
  .rw[z];exact nL b u e
  .exact nL c _ z
end
def y3(Src:Hp->Prop)(n:Nat)(val:Nat->List V->Prop):It:=
 ⟨λi H=>i<n/\Src H,λi H x H'=>∃p ws,x=.ref p/\H p=none/\val i ws/\H'=upd H p (.tup ws),λi H=>n<=i/\Src H⟩
def Vz{pos:Pos}{FP wr:List Addr}{val:Nat->List V->Prop}{tn:Nat->Heap->Prop}(mem:it∈FP)(sub:∀b∈wr,b∈FP)
  (obj:∀i h,tn i h->∀b∈FP,∃o,h.get? b=some o/\∀v,o.data≠.cell v) (keep:∀i h h',tn i h->(∀b∈FP,∀o,h.get? b=some o->h'.get? b=some o)->tn i h')
  (hW:∀(X:Cx),X.prog=P->X.w=w->X.K=K->X.calm=true->∀(ae:List (Addr×Obj)) (s:Shared) (Z:St) (H:Hp),Inv X ae Z H s->Src H->∃(K6:List Addr) (Pt:Nat->Array Value->Prop) (St:Nat->Heap->Prop) (H_:Nat->Addr->Heap->Prop),
   WalksT P w X.A it K6 wr n Pt St H_/\(∀i,tn i s.heap->St i s.heap)/\(∀i h,St i h->tn i h)/\∀i vals,Pt i vals->∃ws,val i ws/\Vals ws vals.toList/\ws.length<=10)
  (self:∀(A:Around) (i:Nat) (s:Shared) (Q:Value->Shared->Prop) (E:Value->Shared->Prop),tn i s.heap->Q (.ref it) s->wpAny (model P w) A (pyIter (.ref it)) Q E s) :
  Turn P w K (.Tuple elts x1 pos) (y3 Src n val) FP it (λi h=>i<=n/\tn i h) where
 mem:=mem
 obj:=λi h st=>obj i h st.2
 keep:=λi h h' st k=>⟨st.1,keep i h h' st.2 k⟩
 item:=by
  intro X hP hw hK hc i ae s Z H E I hf st hg;obtain⟨K6,Pt,St,H_,W,toSt,DS,pv⟩:=hW X hP hw hK hc ae s Z H I hg.2;subst hP hw hK;refine W.item i s _ E hg.1 (toSt i st.2) λT vals h1 tk hPt hsz Ln Di SK=>?_
  refine⟨.ref T,rfl,W.go elts x1 pos i T _ _ E Di λh2 hSt zS=>?_⟩
  obtain⟨ws,hv,rv,Hl⟩:=pv i vals hPt;have Lm:IsTup h2 T vals:=by
   obtain⟨o,e,c⟩:=Ln;exact⟨o,zS T o (W.apart i T h1 Di) e,c⟩
  have hn:H T=none:=I.cV.fresh hsz;have I2:Inv X ae Z (upd H T (.tup ws)) { s with heap:=h2,toks:=tk}:=I.vz (L:=wr) (λb ob hb e=>zS b ob hb (SK b ob hb e)) (λb hb=>hf b (sub b hb)) hsz ⟨by rw[sizeLine_eq];lia,vals.toList,rv,by simpa using Lm⟩
  refine⟨.ref T,_,I2,rfl,⟨T,ws,rfl,hn,hv,rfl⟩,⟨by have:=hg.1;lia,DS _ _ hSt⟩,λb hb=>?_⟩
  have hb0:=(hf b hb).1;rw[cZ]
  .exact hb0
  .intro z;subst z;obtain⟨o,e,_⟩:=obj i s.heap st.2 b hb;exact bQ (iG (fG e) hsz) (pF _)
 done:=by
  intro X hP hw hK hc i ae s Z H E I hf st hg;obtain⟨K6,Pt,St,H_,W,toSt,DS,pv⟩:=hW X hP hw hK hc ae s Z H I hg.2;subst hP hw hK;have ei:i=n:=by have:=hg.1;have:=st.1;lia
  subst ei;exact W.done s _ E (toSt i st.2) λh2 tk hk=>⟨rfl,I.Ey (L:=wr) (λb ob hb e=>hk b ob hb e) λb hb=>hf b (sub b hb)⟩
 self:=λA i s Q E st h=>self A i s Q E st.2 h
def WU{val:Nat->List V->Prop}{D:Ends}(Pv:Nat->St->Hp->Prop)(h0:Pv 0 Z H)(hl:∀i Z H,i<=n->Pv i Z H->Src H)
  (hs:∀i p ws Z H,i<n->H p=none->val i ws->Pv i Z H->g (.ref p) Z (upd H p (.tup ws)) λZ2 H2=>tb { D with nx:=Pv (i+1),ct:=Pv (i+1),bk:=D.nx} Z2 H2) (hd:∀Z H,Pv n Z H->D.nx Z H) :
  ∃W:Nat->Nat->St->Hp->Prop,(∃m,W 0 m Z H)/\∀i m Z H,W i m Z H->
   ((y3 Src n val).stop i H/\D.nx Z H)\/((y3 Src n val).go i H/\∃N:St->Hp->Prop,(∀Z' H',N Z' H'->∃m',m'<m/\W (i+1) m' Z' H')/\∀x H',(y3 Src n val).xj i H x H'->g x Z H' λZ2 H2=>tb { D with nx:=N,ct:=N,bk:=D.nx} Z2 H2):=by
 refine⟨λi m Z H=>m=n - i/\i<=n/\Pv i Z H,⟨n,by simp,kr _,h0⟩,?_⟩
 rintro i m Z H ⟨rfl,hi,p⟩;have q:=hl i Z H hi p;by_cases gI:i<n
 .refine .inr ⟨⟨gI,q⟩,Pv (i+1),λZ' H' p'=>⟨n - (i+1),by lia,rfl,gI,p'⟩,λx H' y=>?_⟩
  obtain⟨pp,ws,rfl,hn,hv,rfl⟩:=y;exact hs i pp ws Z H gI hn hv p
 .have e:i=n:=by lia
  subst e;exact .inl ⟨⟨cJ _,q⟩,hd Z H p⟩
def WV{h:Heap}{l:Addr}(p:h.IsListIter a l i):∃o,h.get? a=some o/\∀v,o.data≠.cell v:=by
 obtain⟨o,e,_,d⟩:=p;exact⟨o,e,λv z=>by rw[d] at z;cases z⟩
def Ez(xs:List V)(i:Nat)(ws:List V):Prop:=∃x,xs[i]?=some x/\ws=[.int i,x]
def VA{pos:Pos}{e l:Addr}(n1:e≠it)(n2:l≠e)(n3:l≠it)(xs:List V):
  Turn P w K (.Tuple elts x1 pos) (y3 (λH=>dX K H l xs) xs.length (Ez xs)) [e,it] e (λi h=>i<=xs.length/\((∃old,IsEnum h e it (i:Int) old)/\h.IsListIter it l i)):=by
 refine Vz (FP:=[e,it]) (wr:=[e,it]) (by simp) (λb hb=>hb) (λi h st b hb=>?_) (λi h h' st k=>?_) (λX hP hw hK hc ae s Z H I hS=>?_) (λA i s Q E st h=>?_)
 .obtain⟨⟨old,s1⟩,s2⟩:=st;simp only[eC,List.not_mem_nil,or_false] at hb;rcases hb with rfl|rfl
  .exact⟨_,s1,λv z=>by cases z⟩
  .exact WV s2
 .obtain⟨⟨old,s1⟩,s2⟩:=st;exact⟨⟨old,k e (by simp) _ s1⟩,s2.at λo q=>k it (by simp) o q⟩
 .subst hP hw hK;obtain⟨vb,Mn,p1,_⟩:=I.list hS;have e1:=Mn.length;have W:=WalksT.enumerate (prog:=X.prog) (w:=X.w) (A:=X.A) (I.ok.hd hc) e it l n1 n2 n3 vb.toArray;rw[show vb.toArray.size=xs.length by rw[fH,<-e1]] at W
  refine⟨_,_,_,_,W,λi st=>?_,λi h st=>?_,λi vals hp=>?_⟩
  .exact⟨st.1,st.2,p1.isList⟩
  .exact⟨st.1,st.2.1⟩
  .obtain⟨t,u,hu,rfl⟩:=hp;have hu:vb[i]?=some u:=by simpa using hu
   have zR:i<xs.length:=by have:=(eO.mp hu).1;lia
   obtain⟨u',sL,ru⟩:=Mn.get (eP zR);rw[hu] at sL;cases sL;exact⟨[.int i,xs[i]],⟨_,eP zR,rfl⟩,.cons ⟨t,rfl⟩ (.cons ru .nil),by show 2<=10;decide⟩
 .obtain⟨old,s1⟩:=st.1;exact wpAny_pyIter_enum s1 h
def Dy(K:FG)(ta:TA):TI:=λZ H R=>ta Z H λvs H1=>∃a xs,vs=[.ref a]/\dX K H1 a xs/\R (y3 (λH=>dX K H a xs) xs.length (Ez xs)) H1
def YA{ou:Pos}{a:Expr}{ta:TA}{p pos:Pos}(hg:Gl X "enumerate")(hm:X.mg "enumerate"=none)(ha:PA X [a] ta)(hs:starEach [a] X.env=[(false,eval a X.env)]:=by rfl):
  PI X (.Tuple elts x1 ou) (.Call (.Name "enumerate" p) [a] [] pos) (Dy X.K ta):=by
 intro ae s Z H R I h;refine Call_ (v5 I hg hm PyProof.Rows.Boot.enumerate (PyProof.Rows.callWith_type1 (cB (ha pos ae s Z H _ I h) λus s1 hh=>?_) hs rfl))
 obtain⟨vs,H1,I1,r1,q1⟩:=hh;obtain⟨l1,xs,e,hq1,q⟩:=q1;subst e;cases r1 with
 |cons r rr=>
  cases rr;cases r;obtain⟨vb,Mn,p1,_⟩:=I1.list hq1;refine call_enumerate_list p1.isList λh' z1 z2 z3 z4=>?_
  have L1:l1<s1.heap.objs.size:=by obtain⟨o,n,e,_⟩:=p1;exact fG e
  refine wpAny_pyIter_enum z1 ?_;refine⟨s1.heap.objs.size+1,[s1.heap.objs.size+1,s1.heap.objs.size],_,_,H1,rfl,I1.kept (t':=s1.toks) z4,VA (e:=s1.heap.objs.size+1) (it:=s1.heap.objs.size) (l:=l1) (Nat.ne_of_gt (by lia)) (ly (iG L1 (Nat.le_add_right _ _))) (ly L1) xs,⟨kr _,⟨_,z1⟩,z2⟩,λb hb=>?_,q⟩
  simp only[eC,List.not_mem_nil,or_false] at hb;have Su:s1.heap.objs.size<=b:=by rcases hb with rfl|rfl <;> lia
  exact I1.se Su (I1.cV.fresh Su)
section
variable{X:Cx}{K:FG}{fa fb:GE}{f:GS}{m:List Bool}{l l':Expr}{elts:List Expr}{x1:Nat}{ou:Pos}{t:TG}{gg:GG}{body:List Stmt}{p0 p1 pos:Pos}
def YB{p:Addr}{ws:List V}(k:OK K F H Z Q0 A)(hn:H p=none):OK K (upd F p (.tup ws)) (upd H p (.tup ws)) Z Q0 A/\Ext F H A (upd F p (.tup ws)) (upd H p (.tup ws)) A:=by
 have hF:F p=none:=k.le.free hn;have np:∀a∈A,a≠p:=λa m z=>k.os.there a m (by rw[z];exact hn)
 refine⟨⟨λa o e=>?_,k.os.keep (uK hF) λa m o e=>by rw[cZ (np a m)];exact e,k.nd,λa m=>by rw[cZ (np a m)];exact k.fr a m⟩,⟨uK hF,λa o e _=>uK hn a o e,λa h z=>h ((uK hn).free z),λa h=>?_,λa m=>.inl m⟩⟩
 .by_cases z:a=p
  .subst z;rw[jt] at e ⊢;exact e
  .rw[cZ z] at e ⊢;exact k.le a o e
 .by_cases z:a=p
  .subst z;exact .inr (.inr hn)
  .rw[cZ z] at h;exact .inl h
theorem LI.tup{m:List Bool}{gg:GG}{f:GS}{t:TG}{F1 H1:Hp}{Z:St}{ds es:List D}{i:Nat}{E:Ends}{fl:Fl}{Q0':Gm}{p:Addr}{us:List V}(q:LI K m gg f E F1 fl Q0' ds i Z H1)(ht:gf K m t gg)(hn:H1 p=none)(hd:ds[i]?=some (.tup es))(r:aj K F1 us es):
  t (.ref p) Z (upd H1 p (.tup us)) λZ2 H2=>tS K m f { E with nx:=LI K m gg f E F1 fl Q0' ds (i+1),ct:=LI K m gg f E F1 fl Q0' ds (i+1),bk:=E.nx} Z2 H2:=by
 obtain⟨F',A',qR,k',e',w',s'⟩:=q;obtain⟨k2,x2⟩:=YB (ws:=us) k' hn;have s2:aF F1 (upd F' p (.tup us)):=s'.trans x2.ff;obtain⟨hi,he⟩:=eO.mp hd;rw[HP hi,he] at e';exact Ob ht k2 (.tup (.inl (.inl jt)) (r.mono s2) .nil) e' (w'.step x2 Kept.refl) λF2 H2 Z2 oR A2 x3 k3 e3 w3=>⟨F2,A2,oR,k3,e3,w3,s2.trans x3.ff⟩
def jV(ds:List D):List D:=(List.range ds.length).zipWith (λ(i:Nat) d=>D.tup [.int i,d]) ds
def Gz(fa:GE)(gg:GG)(f:GS):GS:=λQ0=>(av fa Q0).bind λp=>match p.1 with
 |.own (.Y (.lst ds))=>fz gg f (jV ds) p.2
 |_=>none
theorem YC(fa:GE)(gg:GG)(f:GS)(Q0:Gm):Gz fa gg f Q0=(av fa Q0).bind λp=>match p.1 with
 |.own (.Y (.lst ds))=>fz gg f (jV ds) p.2
 |_=>none:=rfl
def YD(hp:PassesOwn (model X.prog X.w) X.A X.env X.xe)(hm:X.mg "enumerate"=none)(hi:PE X l (tG K fa))(hg:PG X (.Tuple elts x1 ou) t)(ht:gf K m t gg)(hb:iy X body (tS K m f))(hc:X.calm=true:=by rfl)(u7:Gl X "enumerate":=by rfl)(rA:starEach [l] X.env=(false,eval l X.env)::starEach [] X.env:=by rfl)(LL:starEach [l] X.env=[(false,eval l X.env)]:=by rfl)(hK:X.K=K:=by rfl)(hs:∀x,foldedSetIterable (.Call (.Name "enumerate" p0) [l] [] p1) X.env x=pure x:=by intro _;rfl):PS X (.For (.Tuple elts x1 ou) (.Call (.Name "enumerate" p0) [l] [] p1) body [] pos) (tS K m (Gz fa gg f)):=by
 subst hK;refine(zm hp hc (YA u7 hm (ao (cq hi) aK rA) LL) hg hb hs).mono λDe Z H tt=>?_
 obtain⟨F,A,Q0,fl,Q0',k,e,w⟩:=tt;unfold Gz at e;obtain⟨⟨r1,az⟩,q1,e'⟩:=eQ.mp e;clear e;dsimp only at e';split at e'
 .rename_i ds
  refine⟨F,A,Q0,[.own (.Y (.lst ds))],az,k,by rw[ba,q1];rfl,λvs H1 pp=>?_⟩
  obtain⟨F1,A1,x,k1,hh⟩:=pp;have hlv:=hh.length;obtain⟨v1,rfl⟩:=RX hlv;obtain⟨rp1,st⟩:=LI.start k1 x w e';obtain⟨a,MI,rfl,Th,Tc⟩:=PM rp1;have hl1:=Tc.length;refine⟨a,MI,rfl,.inl (k1.le.rd Th),WU (LI X.K m gg f De F1 fl Q0' (jV ds)) st (λi Z' H' _ p=>.inl (p.same.rd Th)) ?_ λZ' H' p=>p.fin (by unfold jV;rw[List.length_zipWith,mO,hl1,MW];exact cJ _)⟩
  rintro i p ws Z' H' gI hn ⟨u1,hu1,rfl⟩ q;have zR:i<ds.length:=by lia
  obtain⟨y1,uv,ry1⟩:=Tc.get (i:=i) (d:=ds[i]) (eP zR);rw[hu1] at uv;cases uv;exact q.tup ht hn (by unfold jV;rw[List.getElem?_zipWith,MV zR,eP zR]) (.flat rfl (.cons ry1 .nil))
 .cases e'
end
section
variable{X:Cx}{K:FG}{fa fo:GE}{fs:GA}{f:GS}{m:List Bool}{e o:Expr}{es:List Expr}{tg:Expr}{t:TG}{gg:GG}{pos apos cW:Pos}{name:Str}{Hm:String}{g:List O->Option O}{r:V->List V->Hp->VK->Prop}
def p7(gg:GG)(fa:GE):GS:=λQ0=>(av fa Q0).bind λp=>match p.1 with
 |.own (.Y d)=>(gg d p.2).map λQ0'=>(.nx,Q0')
 |_=>none
theorem e5s(gg:GG)(fa:GE)(Q0:Gm):p7 gg fa Q0=(av fa Q0).bind λp=>match p.1 with
 |.own (.Y d)=>(gg d p.2).map λQ0'=>(.nx,Q0')
 |_=>none:=rfl
def e5t(he:PE X e (tG K fa))(hg:PG X tg t)(ht:gf K m t gg)(hs:swapsWithSole [tg] e pos.line X.env=pure false:=by rfl)(hw:swappedStores [tg] e X.env=pure none:=by rfl)
  (h1:(assignEach [tg] X.env).map (·.2)=[assign tg X.env]:=by rfl):PS X (.Assign [tg] e pos) (tS K m (p7 gg fa)):=(JU (cq he) hg hs hw h1).mono λDe Z H tt=>by
 obtain⟨F,A,Q0,fl,Q0',k,e,w⟩:=tt;unfold p7 at e;obtain⟨⟨r1,az⟩,q1,e'⟩:=eQ.mp e;clear e;dsimp only at e';split at e'
 .rename_i d
  obtain⟨cu,q2,e2⟩:=iM.mp e';cases e2;refine⟨F,A,Q0,_,az,k,q1,λv H1 pp=>?_⟩
  obtain⟨F1,A1,x,k1,hh⟩:=pp;obtain⟨B,C,h1,h2,h3⟩:=ag.one (Z:=Z) (Q0:=az) k1.os;have rp:=qU h1;subst h3;obtain⟨k2,x2⟩:=k1.sub h2 (.bD (mN _ _));exact ht F1 H1 Z az Q0' C v d De.nx k2 rp q2 λZ' A' k3 x3 kp=>w Z' H1 ⟨F1,A',(x.trans x2).trans x3,k3,kp⟩
 .cases e'
def xT:List D->Option (List Bool)
 |[]=>some []
 |.bl b::ds=>(xT ds).map λbs=>b::bs
 |_=>none
theorem NI:∀bs:List Bool,xT (bs.map .bl)=some bs
 |[]=>rfl
 |i::is=>by rw[cS];show(xT (is.map .bl)).map _=_;rw[NI is];rfl
theorem NJ:∀{ds:List D} {bs:List Bool},xT ds=some bs->ds=bs.map .bl
 |[],bs,e=>by cases e;rfl
 |d::ds,bs,e=>by
  cases d with
  |bl i=>
   obtain⟨js,e1,e2⟩:=iM.mp (show(xT ds).map _=some bs from e);rw[<-e2,NJ e1];rfl
  |_=>cases e
theorem NK{F:Hp}:∀{ws:List V} {bs:List Bool},aj K F ws (bs.map .bl)->ws=bs.map .bl
 |[],[],_=>rfl
 |[],_::_,h=>by have:=h.length;simp at this
 |_::_,[],h=>by have:=h.length;simp at this
 |w::ws,i::is,h=>by
  rw[cS] at h;have h1:=h.inv.1;have h2:=NK h.inv.2;rw[h2,cS];cases h1 with
  |flat e _=>cases e;rfl
def zt(q:List Bool->Bool):List O->Option O
 |[o]=>(dH o).bind λds=>(xT ds).bind λbs=>some (.Y (.bl (q bs)))
 |_=>none
def O0(q:List Bool->Bool):cM K (λxs H Q=>∃(a:Addr) (bs:List Bool),xs=[.ref a]/\dX K H a (bs.map V.bl)/\Q (.bl (q bs)) H) (zt q):=by
 intro F H vs os o Q le eY e res;unfold zt at e;split at e
 .obtain⟨ds,e1,e2⟩:=eQ.mp e;obtain⟨bs,e3,e4⟩:=eQ.mp e2;cases e4;obtain⟨x,B,rfl,h1⟩:=eY.one;obtain⟨a,ws,rfl,sq,ri⟩:=vP le h1 e1;rw[NJ e3] at ri;have:=NK ri;subst this;exact⟨a,bs,rfl,sq,res.flat rfl⟩
 .cases e
def VB(K:FG)(hc:X.calm=true:=by rfl)(hK:X.K=K:=by rfl):cT X (.builtin "any") (λxs H Q=>∃(a:Addr) (bs:List Bool),xs=[.ref a]/\dX K H a (bs.map V.bl)/\Q (.bl (bs.any id)) H):=hK ▸ Vl hc
def VD(K:FG)(hc:X.calm=true:=by rfl)(hK:X.K=K:=by rfl):cT X (.builtin "all") (λxs H Q=>∃(a:Addr) (bs:List Bool),xs=[.ref a]/\dX K H a (bs.map V.bl)/\Q (.bl (bs.all id)) H):=hK ▸ Vk hc
def Iz(q:List Bool->Bool)(bs:List Bool):zt q [.lst ((bs.map D.bl).map .Y)]=some (.Y (.bl (q bs))):=by
 show((dH (.lst ((bs.map D.bl).map .Y))).bind λds=>(xT ds).bind λbs=>some (O.Y (.bl (q bs))))=_
 rw[Gv,Option.bind_some,NI,Option.bind_some]
def zu(g:List O->Option O)(fo:GE)(fs:GA):GE:=λQ0=>(fo Q0).bind λp=>match p.1 with
 |.own (.Y (.lst ds))=>(fs p.2).bind λq=>(fV q.2 q.1).bind λos=>(g (.Y (.lst ds)::os)).bind λo=>some (.own o,q.2)
 |_=>none
theorem O3(g:List O->Option O)(fo:GE)(fs:GA)(Q0:Gm):zu g fo fs Q0=(fo Q0).bind λp=>match p.1 with
 |.own (.Y (.lst ds))=>(fs p.2).bind λq=>(fV q.2 q.1).bind λos=>(g (.Y (.lst ds)::os)).bind λo=>some (.own o,q.2)
 |_=>none:=rfl
def WW(ok:cM K (qe r) g){Q:VK}(t:tG K (zu g fo fs) Z H Q):Mr K "list" r (tG K fo) (kb K fs) Z H Q:=by
 obtain⟨F,A,Q0,rr,Q0',k,e,w⟩:=t;unfold zu at e;obtain⟨⟨r1,az⟩,e1,e'⟩:=eQ.mp e;clear e;dsimp only at e';split at e'
 .rename_i ds
  obtain⟨⟨rs,cu⟩,e2,e3⟩:=eQ.mp e';obtain⟨os,e4,e5⟩:=eQ.mp e3;obtain⟨ob,e6,e7⟩:=eQ.mp e5;cases e7;refine⟨F,A,Q0,_,az,k,e1,λv H1 pp=>?_⟩
  obtain⟨F1,A1,x1,k1,hh⟩:=pp;obtain⟨B,C,h1,h2,h3⟩:=ag.one (Z:=Z) (Q0:=az) k1.os;have rp:=qU h1;subst h3;obtain⟨k2,x2⟩:=k1.sub h2 (.bD (mN _ _));have yq:MC K "list" v H1:=by
   cases rp with
   |flat z _=>cases z
   |lst sq ri _=>exact .inl ⟨rfl,_,.inl (k1.le.rd sq)⟩
  refine⟨yq,F1,C,az,rs,_,k2,e2,λvs H2 p2=>?_⟩
  obtain⟨F2,A2,x3,k3,He⟩:=p2;have p3:fy K F1 H1 C Z cu rs vs H2:=⟨F2,A2,x3,k3,He⟩;have hl:(vs.map some).length=(rs.map R.o).length:=by rw[bz,bz,He.length]
  obtain⟨B3,C3,o1,o2,o3⟩:=ag.split hl k3.os;have eY:=FO o2 o1 He e4;have res:Res K F2 H2 ob Q:=λv' H' Av s' w' nd fresh=>by
   obtain⟨B',kB,sub⟩:=k3.part hl;obtain⟨k4,x4⟩:=kB.push s' w' nd fresh;exact w v' H' ⟨F2,Av++B',(x1.trans x2).trans (x3.trans ((Ext.lP Ext.refl sub).trans x4)),k4,iJ⟩
  obtain⟨y,ys,exs,rr'⟩:=ok F2 H2 (v::vs) (.Y (.lst ds)::os) ob Q k3.le (.cons ⟨[],.Y (rp.mono x3.ff) .nil⟩ eY) e6 res;cases exs;exact rr'
 .cases e'
def O4(slot:Slot "list" name Hm)(yq:typeOf (.builtin Hm)=pure (.type "method_descriptor"))(hm:xq X Hm r)(ok:cM K (qe r) g)(ho:PE X o (tG K fo))(ha:PA X (e::es) (kb K fs))
  (nN:attributeBase o name X.env (eval o X.env)=eval o X.env:=by rfl)
  (sE:((backTo cW (starEach (e::es) X.env)).all (λx => !x.1)&&(backToKw cW (keywordEach [] X.env)).all (λx=>x.1.isSome)
   && decide ((e::es).length+([]:List Keyword).length+(if([]:List Keyword).isEmpty then 0 else 1)<30))=true:=by rfl)
  (nO:(apos.endLine == cW.line)=true:=by rfl) (hs:starEach (e::es) X.env=(false,eval e X.env)::starEach es X.env:=by rfl) (kO:(backTo cW (starEach es X.env)).any (·.1)=false:=by rfl) (hK:X.K=K:=by rfl) :
  PE X (.Call (.Attribute o name apos) (e::es) [] cW) (tG K (zu g fo fs)):=by
 subst hK;exact(RU PySem.F.plainAttrs_list slot yq hm ho ha nN sE nO hs kO).mono λ_ _ _ t=>WW ok t
def J_(z:Str):Value->Bool
 |.str y _=>y == z
 |_=>false
def Q8(K:FG):V->List V->Hp->VK->Prop:=λx xs H Q=>∃(a:Addr) (ys:List Str) (z:Str) (j:Nat),x=.ref a/\xs=[.str z]/\dX K H a (ys.map V.str)/\ys[j]?=some z/\(∀i y,i<j->ys[i]?=some y->y≠z)/\Q (.int (j:Nat)) H
theorem WX(K:FG)(hK:X.K=K:=by rfl):xq X "list.index" (Q8 K):=by
 subst hK;intro ae s Z H x xs v us Q I rx rs h;obtain⟨a,ys,z,j,rfl,rfl,hq,hj,i6,q⟩:=h;cases rx;obtain⟨u,rfl,ru⟩:=vals1 rs;obtain⟨t,rfl⟩:=ru;obtain⟨ay,rv,p,hz⟩:=I.list hq;obtain⟨ps,e1,e2⟩:=NH rv;subst e1;obtain⟨ob,n,eo,zP,hdi,Lq⟩:=p;have hlen:ps.length=ys.length:=by rw[<-e2,bz]
 have Hf:j<ys.length:=(eO.mp hj).1;have hit:∀i (hi:i<ps.length),(ps.map λp=>Value.str p.1 p.2)[i]?=some (Value.str ps[i].1 ps[i].2):=λi hi=>by simp[hi]
 have Dx:∀i (hi:i<ps.length),ys[i]?=some ps[i].1:=λi hi=>by rw[<-e2];simp[hi]
 have hsz:(ps.map λp=>Value.str p.1 p.2).toArray.size=ps.length:=by simp
 have Lx:ps[j].1=z:=by
  have:=Dx j (by lia)
  rw[hj] at this;exact(Option.some.inj this).symm
 obtain⟨cl,di,da,sl⟩:=ob;cases zP;cases Lq;have hz':ys.length<=16777216:=by rw[bz,sizeLine_eq] at hz;exact hz
 refine call_meets F.slot_list_index ⟨_,eo,rfl⟩ F.entry_list_index (F.args_list_index_2 _ _) (SeqAt.list_indexAt a _ n di sl (.str z t) (J_ z) j (by rw[hsz];lia) (by lia) ?_ ?_) ⟨eo,?_,?_⟩
 .simp[J_,Lx]
 .intro i hi Dn;rw[hsz] at hi;have:=i6 i _ Dn (Dx i hi);simp[J_];exact this
 .intro y hy;simp at hy;obtain⟨b,t',_,rfl⟩:=hy;exact SeqAt.EqAt.str_str b t' z t
 .exact⟨.int (j:Nat),H,I.tok _,⟨_,rfl⟩,q⟩
def findS(ys:List Str)(z:Str):Option Nat:=ys.findIdx? (· == z)
def BV:List O->Option O
 |[.Y (.lst ds),.Y (.str z)]=>(kX ds).bind λys=>(findS ys z).map λj=>.Y (.int (j:Nat))
 |_=>none
def NL{ys:List Str}{z:Str}{j:Nat}(e:findS ys z=some j):ys[j]?=some z/\∀i y,i<j->ys[i]?=some y->y≠z:=by
 unfold findS at e;rw[List.findIdx?_eq_some_iff_getElem] at e;obtain⟨h,h1,h2⟩:=e;refine⟨by rw[eP h];congr 1;exact eq_of_beq h1,λi y hi ey=>?_⟩
 have:=h2 i hi;obtain⟨hl,e3⟩:=eO.mp ey;rw[e3] at this;intro z';subst z';simp at this
def WY:cM K (qe (Q8 K)) BV:=by
 intro F H vs os o Q le eY e res;unfold BV at e;split at e
 .rename_i ds z
  obtain⟨ys,e1,e2⟩:=eQ.mp e;obtain⟨j,e3,e4⟩:=iM.mp e2;cases e4;obtain⟨x,y,B,C,rfl,h1,h2⟩:=eY.two;obtain⟨a,ws,rfl,sq,ri⟩:=vP le h1 (Q7 _);rw[Om e1] at ri;have:=Nv ri;subst this;cases iS h2 rfl;obtain⟨s1,s2⟩:=NL e3;exact⟨_,_,rfl,a,ys,z,j,rfl,rfl,sq,s1,s2,res.flat rfl⟩
 .cases e
def WZ(ys:List Str)(z:Str):BV [.Y (.lst (ys.map .str)),.Y (.str z)]=(findS ys z).map λj=>.Y (.int (j:Nat)):=by
 show((kX (ys.map .str)).bind λys=>(findS ys z).map λj=>O.Y (.int (j:Nat)))=_
 rw[Ol,Option.bind_some]
end
section
variable{X:Cx}{K:FG}{fo f:GE}{fs:GA}{g:List O->Option O}{r:V->List V->Hp->VK->Prop}{o e:Expr}{es:List Expr}{name:Str}{Hm:String}{apos cW pos:Pos}
end
section
variable{P:Program}{w:World}{A:Around}{E:Value->Shared->Prop}{s:Shared}
end
section
variable{X:Cx}{K:FG}
end
section
variable{X:Cx}{ae:List (Addr×Obj)}{Z:St}{H:Hp}{A:Around}{E:Value->Shared->Prop}{s:Shared}{d it:Addr}{es:List (TK×V×V)}{ep i:Nat}
theorem O5{Q:Value->Shared->Prop}(I:Inv X ae Z H s)(hd:H d=some (.dG es ep))
  (hQ:Q (.ref s.heap.objs.size) { s with heap:=s.heap.push { cls:=.type "dict_keyiterator",data:=.fields #[.ref d,.int 0 0,.int es.length 0,.int ep 0]}}):wpAny (model X.prog X.w) A (pyIter (.ref d)) Q E s:=by
 obtain⟨_,z,ob,xs,g1,g5,g2,g3,g4⟩:=(show cw X.prog X.w H s.heap d (.dG es ep) from I.cV d _ hd);have hT:s.TypeIs (.ref d) "dict":=⟨ob,g1,g5.1⟩;have hl:xs.size=es.length:=by have:=Paired.length g3;simpa using this.symm
 refine wpAny_pyIter_slot hT F.slot_dict_iter (wpAny_call_entry F.slot_dict_iter hT F.entry_dict_iter ?_ (F.args_dict_iter_1 _));unfold Builtin.«dict.__iter__»;refine aB ?_;unfold Builtin.Dict.dictSlotNone;refine aB (wpAny_notOrdered_dict hT (show wpAny _ _ (pure (Value.ref d)) _ _ s from bh (show wpAny _ _ (Builtin.Dict.showsAll d >>= _) _ _ s from ?_)));unfold Builtin.Dict.showsAll;rw[aQ (by rw[z];exact mY)]
 refine aB (bh (aB (wpAny_dictEntries g1 g2 (aB (wpAny_dictEpoch g1 g2 ?_)))));refine aB (wpAny_newObj_type (bh ⟨_,rfl,"dict_keyiterator",_,⟨_,oB _ rfl,rfl⟩,F.slot_dict_keyiterator_next.lookup,?_⟩));simpa[rawInt,hl] using hQ
theorem NM(g1:s.heap.get? d=some ob)(g2:ob.data=.dict xs ep)(hl:xs.size=n)(hit:s.heap.IsKeyIter it d i n ep)(lt':i<xs.size)
  (hQ:∀h',h'.IsKeyIter it d (i+1) n ep->Heap.SameBut it s.heap h'->Q (some xs[i].key) { s with heap:=h'}):wpAny (model P w) A (pyNext (.ref it)) Q E s:=by
 obtain⟨o,k1,k2,k3⟩:=id hit;unfold pyNext;refine aB (wpAny_attempt (wpAny_callSpecial?_slot (name:=Str.ofString "__next__") hit.typeIs F.slot_dict_keyiterator_next (wpAny_call_entry F.slot_dict_keyiterator_next hit.typeIs F.entry_dict_keyiterator_next (aB (bh (aB (aB ?_)))) (F.args_dict_keyiterator_next_1 _))))
 (first|refine aB (wpAny_typeNameOfWhole_keyiter hit.typeIs (bh ?_))|refine aB (wpAny_typeNameOf_keyiter hit.typeIs (bh ?_)));refine aB (wpAny_fieldsOf k1 k3 ?_)
 have yI:Builtin.Dict_items.ownsTuple "dict_keyiterator"=false:=by decide
 simp only[yI,lA,bS]
 (show wpAny _ _ (if(Value.ref d == Value.none)=true then _ else _) _ _ s);rw[aQ (show ¬((Value.ref d == Value.none)=true) from mY)]
 refine aB (bh (aB (wpAny_dictEntries g1 g2 ?_)));rw[aQ (by rw[hl];simp)]
 refine aB (bh (aB (wpAny_dictEpoch g1 g2 ?_)));rw[aQ (by simp)]
 refine bh ?_;simp only[show ¬((i:Int)<0) from by lia,bS,Int.toNat_natCast,pI lt']
 refine aB ?_
 (first|refine aB (wpAny_typeNameOfWhole_keyiter hit.typeIs (bh ?_))|refine aB (wpAny_typeNameOf_keyiter hit.typeIs (bh ?_)));refine aB (wpAny_isOneOf_keyiter hit.typeIs ?_)
 (show wpAny _ _ (setField (.ref it) 1 (rawInt ((i:Int)+1)) >>= _) _ _ s);refine aB (wpAny_setField k1 k3 (by simp) ?_)
 have Dq:(s.heap.update it (Obj.mapFields (·.setIfInBounds 1 (rawInt ((i:Int)+1))))).IsKeyIter it d (i+1) n ep:=
  ⟨_,vG _ k1 (Obj.isFreed_of_fields (Obj.data_mapFields k3 _)),(Obj.cls_mapFields ..).trans k2,by rw[Obj.data_mapFields k3];simp[rawInt]⟩
 refine aB (mZ (aB (wpAny_isOneOf_keyiter (s:={ s with heap:=s.heap.update it (Obj.mapFields (·.setIfInBounds 1 (rawInt ((i:Int)+1))))}) Dq.typeIs ?_)))
 show wpAny _ _ (pure xs[i].key) _ _ _;exact bh (bh ⟨_,rfl,bh (hQ _ Dq (Heap.SameBut.update ..))⟩)
def UR(I:Inv X ae Z H s)(hd:H d=some (.dG es ep))(hit:s.heap.IsKeyIter it d i es.length ep){e:TK×V×V}(hx:es[i]?=some e)
  (hQ:∀key h',RelV e.2.1 key->h'.IsKeyIter it d (i+1) es.length ep->Heap.SameBut it s.heap h'->Q (some key) { s with heap:=h'}):wpAny (model X.prog X.w) A (pyNext (.ref it)) Q E s:=by
 obtain⟨_,z,ob,xs,g1,g5,g2,g3,g4⟩:=(show cw X.prog X.w H s.heap d (.dG es ep) from I.cV d _ hd);have hl:xs.size=es.length:=by have:=Paired.length g3;simpa using this.symm
 obtain⟨x,x1,x2⟩:=y7 i g3 hx;have lt':i<xs.size:=by
  have:=(eO.mp hx).1;lia
 have ex:xs[i]=x:=by
  have:xs[i]?=some x:=by rw[<-mr];exact x1
  rw[pI lt'] at this;exact Option.some.inj this
 exact NM g1 g2 hl hit lt' λh' DA sb=>hQ _ h' (by rw[ex];exact x2.2.1) DA sb
theorem Oo(hh:A.handled=none)(g1:s.heap.get? d=some ob)(g2:ob.data=.dict xs ep)(hl:xs.size=n)(hit:s.heap.IsKeyIter it d i n ep)(hx:n<=i)
  (hQ:∀h',Heap.ExtBut it s.heap h'->Q none { s with heap:=h'}):wpAny (model P w) A (pyNext (.ref it)) Q E s:=by
 obtain⟨o,k1,k2,k3⟩:=id hit;unfold pyNext;refine aB (wpAny_attempt (wpAny_callSpecial?_slot (name:=Str.ofString "__next__") hit.typeIs F.slot_dict_keyiterator_next (wpAny_call_entry F.slot_dict_keyiterator_next hit.typeIs F.entry_dict_keyiterator_next (aB (bh (aB (aB ?_)))) (F.args_dict_keyiterator_next_1 _))))
 (first|refine aB (wpAny_typeNameOfWhole_keyiter hit.typeIs (bh ?_))|refine aB (wpAny_typeNameOf_keyiter hit.typeIs (bh ?_)));refine aB (wpAny_fieldsOf k1 k3 ?_)
 have yI:Builtin.Dict_items.ownsTuple "dict_keyiterator"=false:=by decide
 simp only[yI,lA,bS]
 (show wpAny _ _ (if(Value.ref d == Value.none)=true then _ else _) _ _ s);rw[aQ (show ¬((Value.ref d == Value.none)=true) from mY)]
 refine aB (bh (aB (wpAny_dictEntries g1 g2 ?_)));rw[aQ (by rw[hl];simp)]
 refine aB (bh (aB (wpAny_dictEpoch g1 g2 ?_)));rw[aQ (by simp)]
 refine bh ?_;have hge:xs.size<=i:=by lia
 simp only[show ¬((i:Int)<0) from by lia,bS,Int.toNat_natCast,Array.getElem?_eq_none hge]
 refine aB ?_
 (first|refine aB (wpAny_typeNameOfWhole_keyiter hit.typeIs (bh ?_))|refine aB (wpAny_typeNameOf_keyiter hit.typeIs (bh ?_)));(show wpAny _ _ (setField (.ref it) 0 .none >>= _) _ _ s);refine aB (wpAny_setField k1 k3 (by simp) ?_)
 (show wpAny _ _ (newExc (.type "StopIteration") [] >>= _) _ _ _);refine aB ?_
 simp only[newExc,newTuple];refine aB (wpAny_newObj_type (aB (m:=firstArgMember _ _) (wpAny_of_eq (a:=Value.none) (by first|rfl|(simp only[firstArgMember];rfl)) (wpAny_newObj_type ?_ (by size_fits)))) (by size_fits))
 simp only[raiseNew];refine aB (wpAny_handled ?_);rw[show A.in1.handled=none from hh]
 (refine aB (bh (wpAny_throw ?_)));refine aB (wpAny_isInstance (T:="StopIteration") (b:=true) ⟨_,oB _ rfl,rfl⟩ isSubtype_stop ?_)
 exact bh (hQ _ (((Heap.SameBut.update ..).extBut.push _).push _))
def VE(hh:A.handled=none)(I:Inv X ae Z H s)(hd:H d=some (.dG es ep))(hit:s.heap.IsKeyIter it d i es.length ep)(hx:es.length<=i)
  (hQ:∀h',Heap.ExtBut it s.heap h'->Q none { s with heap:=h'}):wpAny (model X.prog X.w) A (pyNext (.ref it)) Q E s:=by
 obtain⟨_,z,ob,xs,g1,g5,g2,g3,g4⟩:=(show cw X.prog X.w H s.heap d (.dG es ep) from I.cV d _ hd);exact Oo hh g1 g2 (by have:=Paired.length g3;simpa using this.symm) hit hx hQ
end
def xm(a:Addr)(n ep:Nat):It:=
 ⟨λi H=>∃es,H a=some (.dG es ep)/\es.length=n/\i<n,λi H x H'=>H'=H/\∀es,H a=some (.dG es ep)->∃e,es[i]?=some e/\e.2.1=x,λi H=>∃es,H a=some (.dG es ep)/\es.length=n/\n<=i⟩
def VF(a it:Addr)(n ep:Nat):Turn P w K tg (xm a n ep) [it] it (λi h=>h.IsKeyIter it a i n ep) where
 mem:=by simp
 obj:=λi h st b hb=>by
  have e:b=it:=by simpa using hb
  subst e;obtain⟨o,e,c,d⟩:=st;exact⟨o,e,λv z=>by rw[d] at z;cases z⟩
 keep:=λi h h' st k=>st.at λo e=>k it (by simp) o e
 item:=by
  intro X hP hw hK hc i ae s Z H E I hf st hg;subst hP hw hK;obtain⟨es,hd,hl,hi⟩:=hg;subst hl;obtain⟨f0,f1,f2,f3,f4,f5⟩:=hf it (by simp)
  refine UR I hd st (e:=es[i]) (eP hi) λkey h' rk tO sb=>?_
  have I1:Inv X ae Z H { s with heap:=h'}:=I.turned (t':=s.toks) (λb o hb e=>(sb.2 b hb).trans e) f0 f1 f3 f4 f5
  obtain⟨o,e,c,d⟩:=id tO;refine⟨key,rfl,GX (s:={ s with heap:=h'}) e c d (by decide) ⟨es[i].2.1,H,I1,rk,⟨rfl,λys hy=>?_⟩,tO,λb hb=>(hf b hb).1⟩⟩
  rw[hd] at hy;cases hy;exact⟨_,eP hi,rfl⟩
 done:=by
  intro X hP hw hK hc i ae s Z H E I hf st hg;subst hP hw hK;obtain⟨es,hd,hl,hi⟩:=hg;subst hl;obtain⟨f0,f1,f2,f3,f4,f5⟩:=hf it (by simp)
  exact VE (I.ok.hd hc) I hd st hi λh' eb=>⟨rfl,I.turned (t':=s.toks) (λb o hb e=>eb b o hb e) f0 f1 f3 f4 f5⟩
 self:=λ_ _ _ _ _ st h=>wpAny_pyIter_keyiter st h
def sN(tl:TE):TI:=λZ H R=>tl Z H λx H1=>∃a es ep,x=.ref a/\H1 a=some (.dG es ep)/\R (xm a es.length ep) H1
def P6(hl:PE X l tl):PI X tg l (sN tl):=by
 intro ae s Z H R I h;refine cB (hl ae s Z H _ I h) λv s1 hh=>?_
 obtain⟨x,H1,I1,r1,q1⟩:=hh;obtain⟨a,es,ep,e,hd,q⟩:=q1;subst e;cases r1;refine O5 I1 hd ?_;refine⟨s1.heap.objs.size,[s1.heap.objs.size],_,_,H1,rfl,I1.kept (t':=s1.toks) λb o e=>jO _ e,VF a _ _ _,⟨_,oB _ rfl,rfl,rfl⟩,λb hb=>?_,q⟩
 have e:b=s1.heap.objs.size:=by simpa using hb
 subst e;exact I1.se (cJ _) (I1.cV.fresh (cJ _))
def e8u{w1 w2:TI}(h1:PI X tg l w1)(h2:PI X tg l w2):PI X tg l (λZ H R=>w1 Z H R\/w2 Z H R):=by
 intro ae s Z H R I h;rcases h with h|h
 .exact h1 ae s Z H R I h
 .exact h2 ae s Z H R I h
def VG{tt:TT}{te:TE}{τ:St}{Fin:List V->Hp->Prop}(Pv:Nat->St->List V->Hp->Prop)(h0:Pv 0 τ [] H)(hl:∀i τ ax H,i<=es.length->Pv i τ ax H->H a=some (.dG es ep))
  (hs:∀i e τ ax H,es[i]?=some e->Pv i τ ax H->g e.2.1 τ H λτ2 H2=>tt τ2 H2 λb H3=>if b=true then te τ2 H3 λv H4=>ax.length<sizeLine/\Pv (i+1) τ2 (ax++[v]) H4 else Pv (i+1) τ2 ax H3)
  (hd:∀τ ax H,Pv es.length τ ax H->Fin ax H):kx (xm a es.length ep) g tt te τ H Fin:=by
 refine⟨es.length,Pv,h0,λi τ ax H hi p=>?_⟩
 have q:=hl i τ ax H hi p;by_cases gI:i<es.length
 .refine .inr ⟨gI,⟨es,q,rfl,gI⟩,λx H' y=>?_⟩
  obtain⟨e,y⟩:=y;subst e;obtain⟨e,e1,e2⟩:=y es q;subst e2;exact hs i e τ ax _ e1 p
 .have e:i=es.length:=by lia
  subst e;exact .inl ⟨⟨es,q,rfl,cJ _⟩,hd τ ax H p⟩
def tN(it:GE):Gm->Option (List D×Gm):=λQ0=>(av it Q0).bind λp=>match p.1 with
 |.own (.Y (.lst ds))=>some (ds,p.2)
 |.own (.Y (.aE kvs))=>some (kvs.map (·.1.d),p.2)
 |_=>none
def W0{fa:GE}{cap:List Nat}:i9 K cap (λZ H R=>nQ K (tG K (av fa)) Z H R\/sN (tG K (av fa)) Z H R) (tN fa):=by
 intro Z F H A Q0 az ds R k e w;unfold tN at e;obtain⟨⟨r,cu⟩,q,e'⟩:=eQ.mp e;dsimp only at e';split at e'
 .cases e';exact .inl (vR Z F H A Q0 az ds R k (by unfold ka;rw[q];rfl) w)
 .rename_i kvs
  cases e';refine .inr ⟨F,A,Q0,_,_,k,q,λv H1 pp=>?_⟩
  obtain⟨F1,A1,x,k1,_⟩:=pp;obtain⟨B,C,h1,h2,h3⟩:=ag.one (Z:=Z) k1.os;have rp:=qU h1;subst h3;obtain⟨k2,x2⟩:=k1.sub h2 (.bD (mN _ _));cases rp with
  |flat z _=>cases z
  |@aE a ws _ ep _ _ hd hk rk ri _=>
   refine⟨a,ws,ep,rfl,k1.le _ _ hd,w (xm a ws.length ep) H1 F1 C (x.trans x2) k2 λg tt te τ Fin Pv h0 hF hs Lr=>?_⟩
   have hl:ws.length=(kvs.map (·.1.d)).length:=by have:=rk.length;simpa using this
   refine VG (es:=ws) Pv h0 (λi τ ax H hi p=>?_) (λi e τ ax H hx p=>?_) (λτ ax H p=>Lr τ ax H (by rw[<-hl];exact p))
   .obtain⟨⟨F',s1,s2⟩,_⟩:=hF i τ ax H p;exact(s1.trans s2) _ _ hd
   .have hi:i<(kvs.map (·.1.d)).length:=by
     have:=(eO.mp hx).1;lia
    obtain⟨x2,sM,rx⟩:=rk.get (i:=i) (d:=(kvs.map (·.1.d))[i]) (eP hi)
    rw[i7,hx] at sM;cases sM;exact hs i _ e.2.1 τ ax H (Jz (eP hi)) (λF' s=>rx.mono s) p
 .cases e'
def YE(K:FG)(hl:PE X l tl)(hK:X.K=K:=by rfl):PI X tg l (λZ H R=>nQ K tl Z H R\/sN tl Z H R):=e8u (vO K hl hK) (P6 hl)
theorem YF(it:GE)(Q0:Gm):tN it Q0=(av it Q0).bind λp=>match p.1 with
 |.own (.Y (.lst ds))=>some (ds,p.2)
 |.own (.Y (.aE kvs))=>some (kvs.map (·.1.d),p.2)
 |_=>none:=rfl
section
variable{X:Cx}{K:FG}
end
section
variable{K:FG}{F H:Hp}
theorem Im{k:TK}{c:O}:∀{ws:List (TK×V×V)} {kvs:List (TK×O)} {A:List Addr},ws.map (·.1)=kvs.map (·.1)->ag K F H (ws.map λp=>some p.2.2) (kvs.map λp=>some p.2) A->jo kvs k=some c->
  ∃v Ac B,jq ws k=some v/\ag K F H [some v] [some c] Ac/\A.Perm (Ac++B)/\
   ∀F' H' c' A',aF F F'->(∀a∈B,∀u,H a=some u->H' a=some u)->ag K F' H' [some v] [some c'] A'->∃D,ag K F' H' (ws.map λp=>some p.2.2) ((c_ kvs k c').map λp=>some p.2) D/\aS D (A'++B)/\(c_ kvs k c').map (·.1)=kvs.map (·.1)
 |[],[],A,_,_,e=>by cases e
 |w::ws,p::kvs,A,hk,h,e=>by
  rw[cS,cS] at hk;injection hk with h1 h2;obtain⟨B1,B2,g1,g2,rfl⟩:=ag.one h;unfold jo at e;rw[tV] at e;unfold jq;rw[tV,h1];by_cases q:p.1=k
  .rw[fY q] at e ⊢;dsimp only at e ⊢;cases e;refine⟨w.2.2,B1,B2,rfl,g1,.refl _,λF' H' c' A' sf kp w'=>⟨A'++B2,?_,aS.refl _,?_⟩⟩
   .unfold c_;rw[aJ q];exact ag.app (τ:=[some w.2.2]) (Θ:=[some c']) w' (g2.keep sf kp)
   .unfold c_;rw[aJ q];rfl
  .rw[iu q] at e ⊢;dsimp only at e ⊢;obtain⟨v,Ac,B,j1,j2,j3,j4⟩:=Im (k:=k) (c:=c) h2 g2 e;refine⟨v,Ac,B1++B,j1,j2,?_,λF' H' c' A' sf kp w'=>?_⟩
   .refine(j3.append_left B1).trans ?_;rw[<-gz,<-gz];exact qO.append_right _
   .obtain⟨D,z1,z2,z3⟩:=j4 F' H' c' A' sf (λa m=>kp a (hG _ m)) w'
    refine⟨B1++D,?_,?_,?_⟩
    .unfold c_;rw[aQ q];exact ag.app (τ:=[some w.2.2]) (Θ:=[some p.2]) (g1.keep sf λa m=>kp a (jN _ m)) z1
    .refine((aS.refl B1).app z2).trans (.bV ?_);rw[<-gz,<-gz];exact qO.append_right _
    .unfold c_;rw[aQ q,cS,z3];rfl
 |[],_::_,_,h,_,_=>by simp at h
 |_::_,[],_,h,_,_=>by simp at h
def nest{kvs inner:List (TK×O)}{d1:D}{k1:TK}{y1:V}(k:OK K F H Z Q0 A)(ho:Q0[i]?=some (some (.aE kvs)))(e1:cL d1=some k1)(r1:aj K F [y1] [d1])(ev:jo kvs k1=some (.aE inner)):
  ∃a b,Z[i]?=some (some (.ref a))/\i_ K H a y1 (some (.ref b))/\
   (∀(d2:D) (k2:TK) (y2:V) (n:Int),cL d2=some k2->aj K F [y2] [d2]->jo inner k2=some (.Y (.int n))->i_ K H b y2 (some (.int n)))/\
   ∀(d2:D) (k2:TK) (y2 v:V) (d:D),cL d2=some k2->aj K F [y2] [d2]->aj K F [v] [d]->inner.length<1000000->∃H4 A',uG K H b y2 v H4/\OK K F H4 Z (Q0.set i (some (.aE (c_ kvs k1 (.aE (c_ inner k2 (.Y d))))))) A'/\Ext F H A F H4 A':=by
 obtain⟨x,Ai,C,g1,g2,g3,g4⟩:=k.os.take ho;have nd:(Ai++C).Nodup:=g4.nodup_iff.mp k.nd;have fr:∀a∈Ai++C,F a=none:=λa m=>k.fr a (g4.mem_iff.mpr m)
 obtain⟨n1,n2,n3⟩:=lC.mp nd;obtain⟨a,ws,ep,Ap,rfl,rfl,hl,hk,rk,ch⟩:=Jy g2
 .obtain⟨na,nAp⟩:=hU.mp n1;obtain⟨v1,Ac,B1,j1,j2,j3,j4⟩:=Im hk ch ev;have DL:(Ac++B1).Nodup:=j3.nodup_iff.mp nAp;obtain⟨m1,m2,m3⟩:=lC.mp DL;obtain⟨b,wi,G8,Aq,rfl,rfl,SQ,Dr,Mj,Qk⟩:=Jy j2
  .obtain⟨nb,nAq⟩:=hU.mp m1;have Ho:∀z,z∈b::Aq->z∈Ap:=λz m=>j3.mem_iff.mpr (jN _ m)
   have RS:=mS e1;refine⟨a,b,g1,⟨ws,ep,k1,hl,by rw[xQ hk];exact rk.mono k.le,by rw[RS.1];exact r1.mono k.le,RS.2,j1.symm⟩,λd2 k2 y2 n e2 r2 ev2=>?_,λd2 k2 y2 v d e2 r2 rv hz=>?_⟩
   .have zH:=mS e2;obtain⟨v2,Ad,B3,z1,z2,_⟩:=Im Dr Qk ev2;obtain⟨rfl,_⟩:=uP z2;exact⟨wi,G8,k2,SQ,by rw[xQ Dr];exact Mj.mono k.le,by rw[zH.1];exact r2.mono k.le,zH.2,z1.symm⟩
   .have zH:=mS e2;have hlen:wi.length=inner.length:=by have:=congrArg List.length Dr;simpa using this
    obtain⟨E,p1,p2,p3,p4⟩:=IY (k:=k2) (y:=y2) (ag.Y rv .nil) (by rw[zH.1];exact r2) Dr Mj Qk
    rw[fI] at p2;have nbE:b∉E:=λm=>nb (p2.mem b m)
    obtain⟨H4,yk⟩:∃H4,upd H b (.dG (gk wi k2 y2 v) (tH wi k2 G8))=H4:=⟨_,rfl⟩;have hb4:H4 b=some (.dG (gk wi k2 y2 v) (tH wi k2 G8)):=by rw[<-yk];exact jt
    have Hi:∀z,z≠b->H4 z=H z:=λz q=>by rw[<-yk,cZ q]
    have hd4:∀z,H z≠none->H4 z≠none:=λz h=>by rw[<-yk];exact By z h
    have yt:ag K F H4 [some (.ref b)] [some (.aE (c_ inner k2 (.Y d)))] (b::E++[]):=
     .aE hb4 p3 p4 (p1.keep (aF.refl _) λz m u e=>by rw[Hi z λq=>nbE (by rw[<-q];exact m)];exact e) .nil
    obtain⟨D,q1,q2,q3⟩:=j4 F H4 (.aE (c_ inner k2 (.Y d))) (b::E++[]) (aF.refl _) (λz m u e=>by
     rw[Hi z λq=>m3 b (mW ..) z m q.symm];exact e) yt
    rw[kZ] at q2;have ab:a≠b:=λq=>na (by rw[q];exact Ho b (mW ..))
    have sD:aS D Ap:=(q2.trans ((((aS.refl [b]).app p2:aS ([b]++E) ([b]++Aq))).app (aS.refl B1))).trans (.bV j3.symm);have ha4:H4 a=some (.dG ws ep):=by rw[Hi a ab];exact hl
    have outer:ag K F H4 [some (.ref a)] [some (.aE (c_ kvs k1 (.aE (c_ inner k2 (.Y d)))))] (a::D++[]):=by
     refine .aE ha4 (by rw[q3];exact hk) ?_ q1 .nil
     have em:(c_ kvs k1 (.aE (c_ inner k2 (.Y d)))).map (·.1.d)=kvs.map (·.1.d):=by
      rw[show(λx:TK×O=>x.1.d)=TK.d∘(λx:TK×O=>x.1) from rfl,<-lU,q3,lU]
     rw[em];exact rk
    rw[kZ] at outer;have nbC:b∉C:=λm=>n3 b (oA _ (Ho b (mW ..))) b m rfl
    have Lc:ag K F H4 Z (Q0.set i none) C:=g3.keep (aF.refl _) λz m u e=>by rw[Hi z λq=>nbC (by rw[<-q];exact m)];exact e
    have hi:i<Q0.length:=(eO.mp ho).1;obtain⟨G,w1,C2,w2,w3⟩:=ag.put outer i Lc (by rw[ED];exact hi)
    rw[xA g1,MU] at w1;have sG:aS G A:=((aS.bV w2).trans (((aS.refl [a]).app sD:aS ([a]++D) ([a]++Ap)).app (.bD w3))).trans (.bV g4.symm);refine⟨H4,G,⟨wi,G8,k2,SQ,by rw[xQ Dr];exact Mj.mono k.le,by rw[zH.1];exact r2.mono k.le,zH.2,iG (by lia:wi.length<1000000) (by decide),yk.symm⟩,⟨λz u e=>?_,w1,sG.nodup k.nd,λz m=>k.fr z (sG.mem z m)⟩,aF.refl _,λz u e nz=>?_,λz h=>?_,λz h=>.inl h,λz m=>.inl (sG.mem z m)⟩
    .rw[<-yk,cZ]
     .exact k.le z u e
     .intro q;rw[q,fr b (jN _ (oA _ (Ho b (mW ..))))] at e;cases e
    .rw[<-yk,cZ]
     .exact e
     .intro q;exact nz (by rw[q];exact g4.mem_iff.mpr (jN _ (oA _ (Ho b (mW ..)))))
    .rw[<-yk];exact By z h
end
def sV(i:Nat):Gm->Option D:=λQ0=>match Q0[i]? with|some (some (.Y d))=>some d|_=>none
def sC(d:D):Gm->Option D:=λ_=>some d
def nk(K:FG)(te:TE)(f:Gm->Option D):Prop:=∀(F H:Hp) (Z:St) (Q0:Gm) (A:List Addr) (d:D) (Q:VK),OK K F H Z Q0 A->f Q0=some d->(∀v,aj K F [v] [d]->Q v H)->te Z H Q
def uT:nk K (qN i) (sV i):=by
 intro F H Z Q0 A d Q k e q;unfold sV at e;split at e
 .rename_i d' h
  cases e;obtain⟨v,Ai,B,g1,g2,_⟩:=k.os.take h;exact⟨v,g1,q v (qU g2)⟩
 .cases e
def KY{d:D}{v:V}(h:oF d=some v):nk K (tC v) (sC d):=by
 intro F H Z Q0 A d' Q k e q;cases e;exact q v (.flat h .nil)
def ui(i:Nat)(f1 f2 fv:Gm->Option D):GS:=λQ0=>(fv Q0).bind λv=>(f1 Q0).bind λd1=>(cL d1).bind λk1=>(f2 Q0).bind λd2=>(cL d2).bind λk2=>match Q0[i]? with
 |some (some (.aE kvs))=>match jo kvs k1 with
  |some (.aE inner)=>if inner.length<1000000 then some (.nx,Q0.set i (some (.aE (c_ kvs k1 (.aE (c_ inner k2 (.Y v))))))) else none
  |_=>none
 |_=>none
def uj(op:Int->Int->Int)(i:Nat)(f1 f2 fv:Gm->Option D):GS:=λQ0=>(f1 Q0).bind λd1=>(cL d1).bind λk1=>(f2 Q0).bind λd2=>(cL d2).bind λk2=>match Q0[i]?,fv Q0 with
 |some (some (.aE kvs)),some (.int j)=>match jo kvs k1 with
  |some (.aE inner)=>match jo inner k2 with
   |some (.Y (.int n))=>if inner.length<1000000 then some (.nx,Q0.set i (some (.aE (c_ kvs k1 (.aE (c_ inner k2 (.Y (.int (op n j))))))))) else none
   |_=>none
  |_=>none
 |_,_=>none
section
variable{X:Cx}{K:FG}{m:List Bool}{e o e1 e2:Expr}{t1 t2 tv:TE}{f1 f2 fv:Gm->Option D}{i:Nat}{pos pos' p1:Pos}
def P7(hv:PE X e tv)(sv:nk K tv fv)(ho:PE X o (qN i))(h1:PE X e1 t1)(s1:nk K t1 f1)(h2:PE X e2 t2)(s2:nk K t2 f2)(hu:X.A.units+41<cLine)(hp:Bt e1:=by exact λ_ _=>rfl)
  (ha:∀v,assign (.Subscript (.Subscript o e1 p1) e2 pos') X.env v=(do
   let ov <-holding [v] (eval (.Subscript o e1 p1) X.env)
   let iv <-holding [v,ov] (eval e2 X.env)
   standAt pos'
   holding [v,ov,iv] (setItem ov iv v)
   release [v,ov,iv] []):=by intro _;rfl)
  (hs:swapsWithSole [.Subscript (.Subscript o e1 p1) e2 pos'] e pos.line X.env=pure false:=by rfl) (hw:swappedStores [.Subscript (.Subscript o e1 p1) e2 pos'] e X.env=pure none:=by rfl)
  (hn:(assignEach [.Subscript (.Subscript o e1 p1) e2 pos'] X.env).map (·.2)=[assign (.Subscript (.Subscript o e1 p1) e2 pos') X.env]:=by rfl) (hK:X.K=K:=by rfl):PS X (.Assign [.Subscript (.Subscript o e1 p1) e2 pos'] e pos) (tS K m (ui i f1 f2 fv)):=by
 subst hK;refine(JU hv (QT (Ku (KW X.K hu) ho h1 hp) h2 (Ky hu) ha) hs hw hn).mono λD Z H t=>?_
 obtain⟨F,A,Q0,fl,Q0',k,e,w⟩:=t;unfold ui at e;obtain⟨v,q1,e⟩:=eQ.mp e;obtain⟨d1,q2,e⟩:=eQ.mp e;obtain⟨k1,q3,e⟩:=eQ.mp e;obtain⟨d2,q4,e⟩:=eQ.mp e;obtain⟨k2,q5,e⟩:=eQ.mp e;split at e
 .rename_i kvs hi
  split at e
  .rename_i inner wH
   split at e
   .rename_i hz
    cases e;refine sv F H Z Q0 A v _ k q1 λvv rv=>?_
    obtain⟨x,Ax,Bx,gx,_⟩:=k.os.take hi;refine⟨x,gx,s1 F H Z Q0 A d1 _ k q2 λy1 r1=>?_⟩
    obtain⟨a,b,n1,n2,n3,n4⟩:=nest k hi q3 r1 wH;rw[gx] at n1;cases n1;refine .inr (.inr (.inr ⟨a,_,rfl,n2,?_⟩));refine s2 F H Z Q0 A d2 _ k q4 λy2 r2=>?_
    obtain⟨H4,A',x1,x2,x3⟩:=n4 d2 k2 y2 vv v q5 r2 rv hz;exact .inr ⟨b,H4,rfl,x1,w Z H4 ⟨F,A',x3,x2,Kept.refl⟩⟩
   .cases e
  .cases e
 .cases e
def W2(hu:X.A.units+41<cLine):AX X (λo i H Q=>∃a v,o=.ref a/\i_ X.K H a i (some v)/\Q v H):=by
 intro ae s Z H o i ov iv Q I ro ri h;obtain⟨a,v,rfl,g,q⟩:=h;cases ro;exact Og (by lia) I g ri λw' s' I' r'=>⟨v,H,I',r',q⟩
def P8{op:Operator}{g:Int->Int->Int}(hop:EU X op (LO g))(ho:PE X o (qN i))(h1:PE X e1 t1)(s1:nk K t1 f1)(h2:PE X e2 t2)(s2:nk K t2 f2)(hv:PE X e tv)(sv:nk K tv fv)(hu:X.A.units+41<cLine)(hp:Bt e1:=by exact λ_ _=>rfl)
  (ha:∀ov iv new,augStore e2 ov iv new=(do holding [new,ov,iv] (setItem ov iv new);release [new,ov,iv] [];pure .next):=by intros;rfl) (hK:X.K=K:=by rfl):PS X (.AugAssign (.Subscript (.Subscript o e1 p1) e2 pos') op e pos) (tS K m (uj g i f1 f2 fv)):=by
 subst hK;refine(XZ (Ku (KW X.K hu) ho h1 hp) h2 (W2 hu) hv hop (Ky hu) ha).mono λD Z H t=>?_
 obtain⟨F,A,Q0,fl,Q0',k,e,w⟩:=t;unfold uj at e;obtain⟨d1,q2,e⟩:=eQ.mp e;obtain⟨k1,q3,e⟩:=eQ.mp e;obtain⟨d2,q4,e⟩:=eQ.mp e;obtain⟨k2,q5,e⟩:=eQ.mp e;split at e
 .rename_i kvs j hi q1
  split at e
  .rename_i inner wH
   split at e
   .rename_i n hn
    split at e
    .rename_i hz
     cases e;obtain⟨x,Ax,Bx,gx,_⟩:=k.os.take hi;refine⟨x,gx,s1 F H Z Q0 A d1 _ k q2 λy1 r1=>?_⟩
     obtain⟨a,b,n1,n2,n3,n4⟩:=nest k hi q3 r1 wH;rw[gx] at n1;cases n1;refine .inr (.inr (.inr ⟨a,_,rfl,n2,?_⟩));refine s2 F H Z Q0 A d2 _ k q4 λy2 r2=>?_
     refine⟨b,_,rfl,n3 d2 k2 y2 n q5 r2 hn,sv F H Z Q0 A _ _ k q1 λvv rv=>?_⟩
     have evv:vv=.int j:=by
      cases rv with
      |flat z _=>cases z;rfl
     subst evv;refine⟨n,j,rfl,rfl,?_⟩;obtain⟨H4,A',x1,x2,x3⟩:=n4 d2 k2 y2 (.int (g n j)) (.int (g n j)) q5 r2 (.flat rfl .nil) hz;exact .inr ⟨b,H4,rfl,x1,w Z H4 ⟨F,A',x3,x2,Kept.refl⟩⟩
    .cases e
   .cases e
  .cases e
 .cases e
end
def sx(i:Nat)(f:GS):GS:=λQ0=>match Q0[i]? with
 |some (some o)=>f (Q0.set i (some (.Y o.d)))
 |_=>none
section
variable{X:Cx}{K:FG}{m:List Bool}{body:List Stmt}{f:GS}{i:Nat}
def OK.sg{o:O}(k:OK K F H Z Q0 A)(ho:Q0[i]?=some (some o)):∃F' A',OK K F' H Z (Q0.set i (some (.Y o.d))) A'/\Ext F H A F' H A':=by
 obtain⟨v,Ai,B,g1,g2,g3,g4⟩:=k.os.take ho;have nd:(Ai++B).Nodup:=g4.nodup_iff.mp k.nd;have k1:OK K F H (some v::Z) (some o::Q0.set i none) (Ai++B):=⟨k.le,g2.app g3,nd,λa m=>k.fr a (g4.mem_iff.mpr m)⟩
 obtain⟨F',A',k2,x⟩:=k1.freeze;obtain⟨B1,C1,h1,h2,h3⟩:=ag.one k2.os;have eB:B1=[]:=by cases h1 with|Y _ t=>cases t;rfl
 subst eB;rw[fI] at h3;subst h3;have hi:i<Q0.length:=(eO.mp ho).1;obtain⟨G,w1,C2,w2,w3⟩:=ag.put h1 i h2 (by rw[ED];exact hi)
 rw[xA g1,MU] at w1;have sG:aS G A':=(aS.bV w2).trans (by rw[fI];exact .bD w3)
 refine⟨F',G,⟨k2.le,w1,sG.nodup k2.nd,λa m=>k2.fr a (sG.mem a m)⟩,⟨x.ff,λa u e n=>x.keep a u e (λm=>n (g4.mem_iff.mpr m)),x.r6,λa h=>?_,λa m=>?_⟩⟩
 .rcases x.new a h with z|z|z
  .exact .inl z
  .exact .inr (.inl (g4.mem_iff.mpr z))
  .exact .inr (.inr z)
 .rcases x.own a (sG.mem a m) with z|z
  .exact .inl (g4.mem_iff.mpr z)
  .exact .inr z
def RZ(h:iy X body (tS K m f)):iy X body (tS K m (sx i f)):=by
 intro ae s Z H D I t;refine h ae s Z H D I ?_;obtain⟨F,A,Q0,fl,Q0',k,e,w⟩:=t;unfold sx at e;split at e
 .rename_i o ho
  obtain⟨F',A',k',x⟩:=k.sg ho;exact⟨F',A',_,fl,Q0',k',e,w.step x Kept.refl⟩
 .cases e
end
def W3{D:Ends}(Pv:Nat->St->Hp->Prop)(h0:Pv 0 Z H)(hl:∀i Z H,i<=es.length->Pv i Z H->H a=some (.dG es ep))
  (hs:∀i e Z H,es[i]?=some e->Pv i Z H->g e.2.1 Z H λZ2 H2=>tb { D with nx:=Pv (i+1),ct:=Pv (i+1),bk:=D.nx} Z2 H2) (hd:∀Z H,Pv es.length Z H->D.nx Z H) :
  ∃W:Nat->Nat->St->Hp->Prop,(∃m,W 0 m Z H)/\∀i m Z H,W i m Z H->
   ((xm a es.length ep).stop i H/\D.nx Z H)\/((xm a es.length ep).go i H/\∃N:St->Hp->Prop,(∀Z' H',N Z' H'->∃m',m'<m/\W (i+1) m' Z' H')/\∀x H',(xm a es.length ep).xj i H x H'->g x Z H' λZ2 H2=>tb { D with nx:=N,ct:=N,bk:=D.nx} Z2 H2):=by
 refine⟨λi m Z H=>m=es.length - i/\i<=es.length/\Pv i Z H,⟨es.length,by simp,kr _,h0⟩,?_⟩
 rintro i m Z H ⟨rfl,hi,p⟩;have q:=hl i Z H hi p;by_cases lt:i<es.length
 .refine .inr ⟨⟨es,q,rfl,lt⟩,Pv (i+1),λZ' H' p'=>⟨es.length - (i+1),by lia,rfl,lt,p'⟩,λx H' y=>?_⟩
  obtain⟨e,y⟩:=y;subst e;obtain⟨e,e1,e2⟩:=y es q;subst e2;exact hs i e Z _ e1 p
 .have e:i=es.length:=by lia
  subst e;exact .inl ⟨⟨es,q,rfl,cJ _⟩,hd Z H p⟩
def BW(it:GE)(g:GG)(f:GS):GS:=λQ0=>(av it Q0).bind λp=>match p.1 with
 |.own (.Y (.aE kvs))=>fz g f (kvs.map (·.1.d)) p.2
 |_=>none
section
variable{X:Cx}{K:FG}{m:List Bool}{f:GS}{fa:GE}{tg iter:Expr}{t:TG}{gg:GG}{body:List Stmt}{pos:Pos}
def YG(hp:PassesOwn (model X.prog X.w) X.A X.env X.xe)(hi:PE X iter (tG K fa))(hg:PG X tg t)(ht:gf K m t gg)(hb:iy X body (tS K m f))(hc:X.calm=true:=by rfl)(hK:X.K=K:=by rfl)(hs:∀x,foldedSetIterable iter X.env x=pure x:=by intro _;rfl):PS X (.For tg iter body [] pos) (tS K m (BW fa gg f)):=by
 subst hK;refine(zm hp hc (P6 (cq hi)) hg hb hs).mono λD Z H tt=>?_
 obtain⟨F,A,Q0,fl,Q0',k,e,w⟩:=tt;unfold BW at e;obtain⟨⟨r,az⟩,q,e⟩:=eQ.mp e;dsimp only at e;split at e
 .rename_i kvs
  refine⟨F,A,Q0,_,az,k,q,λv H1 pp=>?_⟩
  obtain⟨F1,A1,x,k1,_⟩:=pp;obtain⟨rp,st⟩:=LI.start k1 x w e;cases rp with
  |flat z _=>cases z
  |@aE a ws _ ep _ _ hd hk rk ri _=>
   have hlen:=rk.length;refine⟨a,ws,ep,rfl,k1.le _ _ hd,W3 (es:=ws) (LI X.K m gg f D F1 fl Q0' (kvs.map (·.1.d))) st (λi Z' H' _ p=>p.same _ _ hd) (λi x' Z' H' hx p=>p.step ht rk (by rw[i7,hx];rfl)) λZ' H' p=>p.fin (by rw[<-hlen,bz];exact cJ _)⟩
 .cases e
end
mutual
def rh:D->Bool
 |.aE _=>false
 |.exc _ _=>false
 |.lst xs=>ib xs
 |.tup xs=>ib xs
 |_=>true
def ib:List D->Bool
 |[]=>true
 |d::ds=>rh d&&ib ds
end
mutual
def qB:O->Bool
 |.Y d=>rh d
 |.lst os=>qC os
 |.tup os=>qC os
 |.aE kvs=>nE kvs
def qC:List O->Bool
 |[]=>true
 |o::os=>qB o&&qC os
def nE:List (TK×O)->Bool
 |[]=>true
 |p::kvs=>qB p.2&&nE kvs
end
def oJ:Gm->Bool
 |[]=>true
 |none::Q0=>oJ Q0
 |some o::Q0=>qB o&&oJ Q0
mutual
theorem J':∀k:TK,rh k.d=true
 |.inl _=>by simp only[TK.d,rh]
 |.inr _=>by simp only[TK.d,rh]
 |.tp l=>by simp only[TK.d,rh];exact pX l
theorem pX:∀l:List TK,ib (TK.dl l)=true
 |[]=>by simp only[TK.dl,ib]
 |k::l=>by simp only[TK.dl,ib,J' k,pX l,EK]
end
theorem R0:∀l:List (TK×O),ib (l.map (·.1.d))=true
 |[]=>by simp only[oO,ib]
 |p::l=>by simp only[cS,ib,J',R0 l,EK]
theorem Ka:∀os:List O,oJ (os.map some)=qC os
 |[]=>by simp only[oO,oJ,qC]
 |o::os=>by simp only[cS,oJ,qC,Ka os]
theorem Q9:∀l:List (TK×O),oJ (l.map λp=>some p.2)=nE l
 |[]=>by simp only[oO,oJ,nE]
 |p::l=>by simp only[cS,oJ,nE,Q9 l]
def iR(F F':Hp):Prop:=∀a u,F a=some u->(∀es ep,u≠.dG es ep)->F' a=some u
section
variable{K:FG}{F F' H:Hp}
def iR.rd{a:Addr}{u:HO}(d:iR F F')(h:Rd F a u)(hn:∀es ep,u≠.dG es ep):Rd F' a u:=by
 rcases h with h|⟨o,h⟩
 .exact .inl (d _ _ h hn)
 .exact .inr ⟨o,d _ _ h λes ep z=>by cases z⟩
def iR.sqT{a:Addr}{xs:List V}(d:iR F F')(h:gL K F a xs):gL K F' a xs:=by
 rcases h with h|h
 .exact .inl (d.rd h λes ep z=>by cases z)
 .exact .inr h
def NN(d:iR F F'){vs:List V}{ds:List D}(h:aj K F vs ds):ib ds=true->aj K F' vs ds:=by
 induction h with
 |nil=>exact λ_=>.nil
 |flat e _ ih=>intro c;simp only[ib,lS] at c;exact .flat e (ih c.2)
 |lst e _ _ i1 i2=>intro c;simp only[ib,rh,lS] at c;exact .lst (d.rd e λes ep z=>by cases z) (i1 c.1) (i2 c.2)
 |tup e _ _ i1 i2=>intro c;simp only[ib,rh,lS] at c;exact .tup (d.sqT e) (i1 c.1) (i2 c.2)
 |aE e k _ _ _ i0 i1 i2=>intro c;simp only[ib,rh,vD] at c;cases c
 |exc e _ i=>intro c;simp only[ib,rh,vD] at c;cases c
 |fK e _ i=>
  intro c;simp only[ib,rh,uz] at c;refine .fK ?_ (i c);rcases e with e|e
  .exact .inl (d.rd e λes ep z=>by cases z)
  .exact .inr e
def NO(d:iR F F'){Z:St}{Q0:Gm}{A:List Addr}(h:ag K F H Z Q0 A):oJ Q0=true->ag K F' H Z Q0 A:=by
 induction h with
 |nil=>exact λ_=>.nil
 |skip _ ih=>intro c;simp only[oJ] at c;exact .skip (ih c)
 |Y r _ ih=>intro c;simp only[oJ,qB,lS] at c;exact .Y (NN d r (by simp only[ib,c.1,EK])) (ih c.2)
 |lst e _ _ i1 i2=>intro c;simp only[oJ,qB,lS] at c;exact .lst e (i1 (by rw[Ka];exact c.1)) (i2 c.2)
 |tup e _ _ i1 i2=>intro c;simp only[oJ,qB,lS] at c;exact .tup e (i1 (by rw[Ka];exact c.1)) (i2 c.2)
 |aE e q r _ _ i1 i2=>intro c;simp only[oJ,qB,lS] at c;exact .aE e q (NN d r (R0 _)) (i1 (by rw[Q9];exact c.1)) (i2 c.2)
def C9:O->Bool
 |.Y _=>true
 |_=>false
def RQ:O->Bool
 |.aE kvs=>kvs.all λp=>C9 p.2
 |.Y _=>true
 |_=>false
def CF:O->Bool
 |.aE kvs=>kvs.all λp=>RQ p.2
 |_=>false
theorem O6:∀{ws:List (Option V)} {kvs:List (TK×O)} {A:List Addr},ag K F H ws (kvs.map λp=>some p.2) A->(kvs.all λp=>C9 p.2)=true->A=[]
 |_,[],_,h,_=>by cases h;rfl
 |_,(k,o)::kvs,_,h,c=>by
  rw[rH,lS] at c;rw[cS] at h;cases h with
  |Y _ t=>exact O6 t c.2
  |lst _ _ _=>cases c.1
  |tup _ _ _=>cases c.1
  |aE _ _ _ _ _=>cases c.1
theorem Kb:∀{ws:List (Option V)} {kvs:List (TK×O)} {A:List Addr},ag K F H ws (kvs.map λp=>some p.2) A->(kvs.all λp=>RQ p.2)=true->∀a∈A,∃es ep,H a=some (.dG es ep)
 |_,[],_,h,_=>by cases h;intro a m;cases m
 |_,(k,o)::kvs,_,h,c=>by
  rw[rH,lS] at c;rw[cS] at h;cases h with
  |Y _ t=>exact Kb t c.2
  |lst _ _ _=>cases c.1
  |tup _ _ _=>cases c.1
  |@aE b kv ps ep A1 B1 _ _ e q r i t=>
   have h0:A1=[]:=O6 i c.1;subst h0;intro a m;rcases eC.mp m with m|m
   .rw[m];exact⟨_,_,e⟩
   .exact Kb t c.2 a (by simpa using m)
def e5w{v:V}{o:O}{A:List Addr}(h:ag K F H [some v] [some o] A)(c:CF o=true):∀a∈A,∃es ep,H a=some (.dG es ep):=by
 cases o with
 |aE kvs=>
  cases h with
  |@aE b kv ps ep A1 B1 _ _ e q r i t=>
   have h0:B1=[]:=by cases t;rfl
   subst h0;intro a m;rcases eC.mp m with m|m
   .rw[m];exact⟨_,_,e⟩
   .exact Kb i c a (by simpa using m)
 |_=>cases c
def bor(M:GM):GM:=λos=>match os with
 |o::os=>if CF o=true then(M (.Y o.d::os)).bind λr=>match r.2 with
   |none::fin=>if qB r.1=true/\oJ fin=true then some (r.1,some o::fin) else none
   |_=>none
  else none
 |_=>none
def e5x{n:Nat}{M:GM}{vs:List V}{Q:VK}{E:XK}(s:fL K n (bor M) vs H Q E):fL K n M vs H Q E:=by
 obtain⟨hn,F,A,os,o,fin,k,e,w⟩:=s;refine⟨hn,?_⟩;unfold bor at e;split at e
 .rename_i ow os
  split at e
  .rename_i hd
   obtain⟨⟨r,fn⟩,e1,e2⟩:=eQ.mp e;dsimp only at e2;split at e2
   .rename_i dr
    split at e2
    .rename_i hc
     cases e2;have hl:=k.os.length
     match vs,hl with
     |[],hl=>simp at hl
     |x::vs,_=>
      obtain⟨Aj,C,h1,h2,h3⟩:=ag.one (x:=some x) (y:=some ow) k.os;subst h3;obtain⟨n1,n2,n3⟩:=lC.mp k.nd;have wq:=e5w h1 hd
      let F1:Hp:=λa=>if a∈Aj then H a else F a
      have in1:∀a,a∈Aj->F1 a=H a:=λa m=>aJ m
      have vi:∀a,a∉Aj->F1 a=F a:=λa m=>aQ m
      have s1:aF F F1:=λa u e=>by
       rw[vi a λm=>by rw[k.fr a (jN _ m)] at e;cases e]
       exact e
      have le1:aF F1 H:=λa u e=>by
       by_cases m:a∈Aj
       .rw[in1 a m] at e;exact e
       .rw[vi a m] at e;exact k.le a u e
      have r1:aj K F1 [x] [ow.d]:=h1.rep s1 (λa m u e=>by rw[in1 a m];exact e) [x] [ow] rfl rfl
      refine⟨F1,C,.Y ow.d::os,_,_,⟨le1,.Y r1 (h2.keep s1 λa m u e=>e),n2,λa m=>by
       rw[vi a λz=>n3 a z a m rfl];exact k.fr a (hG _ m)⟩,e1,λv H' pc=>?_⟩
      obtain⟨F',A',x',k'⟩:=pc;refine w v H' ?_;obtain⟨B1,C1,j1,j2,j3⟩:=ag.one k'.os;subst j3;have j2:ag K F' H' (some x::vs.map some) (none::dr) C1:=j2;have j4:ag K F' H' (vs.map some) dr C1:=by cases j2 with|skip t=>exact t
      let F2:Hp:=λa=>if a∈Aj then none else F' a
      have LN:∀a,a∈Aj->F2 a=none:=λa m=>aJ m
      have s_:∀a,a∉Aj->F2 a=F' a:=λa m=>aQ m
      have Ij:∀a,a∈Aj->∀u,H a=some u->F' a=some u:=λa m u e=>x'.ff a u (by rw[in1 a m];exact e)
      have Tn:iR F' F2:=λa u e nd=>by
       rw[s_ a λm=>by
        obtain⟨es,ep,z⟩:=wq a m;rw[Ij a m _ z] at e;cases e;exact nd es ep rfl]
       exact e
      have sF:aF F F2:=λa u e=>by
       rw[s_ a λm=>by rw[k.fr a (jN _ m)] at e;cases e]
       exact x'.ff a u (s1 a u e)
      have Lf:ag K F2 H' [some x] [some ow] Aj:=h1.keep sF λa m u e=>k'.le a u (Ij a m u e)
      have j1':ag K F2 H' [some v] [some o] B1:=NO Tn j1 (by simp only[oJ,hc.1,EK])
      have j4':ag K F2 H' (vs.map some) dr C1:=NO Tn j4 hc.2;have S6:∀a,a∈Aj->a∉B1++C1:=λa m z=>by
       obtain⟨es,ep,q⟩:=wq a m;have:=Ij a m _ q;rw[k'.fr a z] at this;cases this
      obtain⟨p1,p2,p3⟩:=lC.mp k'.nd;refine⟨F2,B1++(Aj++C1),⟨sF,λa u e nz=>x'.keep a u e λm=>nz (hG _ m),x'.r6,λa h=>?_,λa m=>?_⟩,⟨λa u e=>?_,j1'.app (Lf.app j4'),?_,λa m=>?_⟩⟩
      .by_cases z:a∈Aj
       .rw[LN a z] at h;exact bQ rfl h
       .rw[s_ a z] at h;rcases x'.new a h with q|q|q
        .rw[vi a z] at q;exact .inl q
        .exact .inr (.inl (hG _ q))
        .exact .inr (.inr q)
      .by_cases z:a∈Aj
       .exact .inl (jN _ z)
       .have:a∈B1++C1:=by
         rcases eI.mp m with m|m
         .exact jN _ m
         .exact hG _ ((eI.mp m).elim (λq=>bQ q z) id)
        exact(x'.own a this).imp (λq=>hG _ q) id
      .by_cases z:a∈Aj
       .rw[LN a z] at e;cases e
       .rw[s_ a z] at e;exact k'.le a u e
      .refine lC.mpr ⟨p1,lC.mpr ⟨n1,p2,λa m b m' q=>?_⟩,λa m b m' q=>?_⟩
       .subst q;exact S6 a m (hG _ m')
       .subst q;rcases eI.mp m' with m'|m'
        .exact S6 a m' (jN _ m)
        .exact p3 a m a m' rfl
      .by_cases z:a∈Aj
       .exact LN a z
       .rw[s_ a z];refine k'.fr a ?_;rcases eI.mp m with m|m
        .exact jN _ m
        .exact hG _ ((eI.mp m).elim (λq=>bQ q z) id)
    .cases e2
   .cases e2
  .cases e
 .cases e
def Q_{P:Program}{w:World}{mg:Str->Option Value}{base:Heap}{CX:qo}{k:Nat}{f:Addr}{fd:FuncData}{ps:List Str}{n:Nat}{M:GM}(Fn:bR P w K mg base CX k f fd ps (fL K n M)):bR P w K mg base CX k f fd ps (fL K n (bor M)):=
 Fn.imp λ_ _ _ _ q=>e5x q
end
section
variable{X:Cx}{K:FG}{pos:Pos}
def xw{x z:Str}(hg:Gl X x)(hm:∃t,X.mg x=some (.str z t))(hd:(x == ("__debug__":Str))=false:=by decide):PE X (.Name x pos) (tC (.str z)):=by
 obtain⟨t,h⟩:=hm;exact XT hg h ⟨t,rfl⟩ hd
def FZ(fk fv:GE):GE:=λQ0=>(fk Q0).bind λp=>(fv p.2).bind λq=>match p.1,q.1 with
 |.own (.Y dk),.own o=>(cL dk).map λk=>(.own (.aE [(k,o)]),q.2)
 |_,_=>none
theorem VH(fk fv:GE)(Q0:Gm):FZ fk fv Q0=(fk Q0).bind λp=>(fv p.2).bind λq=>match p.1,q.1 with
 |.own (.Y dk),.own o=>(cL dk).map λk=>(.own (.aE [(k,o)]),q.2)
 |_,_=>none:=rfl
def VI{ek ev:Expr}{fk fv:GE}(hu:X.A.units+41<cLine)(hk:PE X ek (tG K fk))(hv:PE X ev (tG K fv))(hK:X.K=K:=by rfl):PE X (.Dict [some ek] [ev] pos) (tG K (FZ fk fv)):=(OZ hu hk hv).mono λZ H Q t=>by
 subst hK;obtain⟨F,A,Q0,rr,Q0',k,e,w⟩:=t;unfold FZ at e;obtain⟨⟨r1,az⟩,e1,e'⟩:=eQ.mp e;clear e;obtain⟨⟨r2,cu⟩,e2,e⟩:=eQ.mp e';clear e';dsimp only at e2 e;split at e
 .rename_i dk ov
  obtain⟨key,ek,e⟩:=iM.mp e;cases e;intro p hn;have nA:p∉A:=λm=>k.os.there p m hn
  have s:aF H (upd H p (.dG [] 0)):=uK hn;have k0:OK X.K F (upd H p (.dG [] 0)) Z Q0 A:=⟨k.le.trans s,k.os.keep (aF.refl _) λa _ o e=>s a o e,k.nd,k.fr⟩
  refine⟨F,A,Q0,_,az,k0,e1,λx H1 pp=>?_⟩
  obtain⟨F1,A1,x1,k1,hh1⟩:=pp;have k1:OK X.K F1 H1 ([some x]++Z) ([some (.Y dk)]++az) A1:=k1;obtain⟨C,kC,fr⟩:=k1.frame rfl;refine⟨F1,C,az,_,Q0',kC,e2,λy H2 pp=>?_⟩
  obtain⟨F2,A2,x2,k2,SG⟩:=pp;obtain⟨A3,x3,k3⟩:=fr _ _ _ _ _ x2 k2;have k3:OK X.K F2 H2 (some x::some y::Z) (some (.Y dk)::some ov::Q0') A3:=k3;have ox:=x1.trans x3;have Dv:H2 p=some (.dG [] 0):=ox.keep p _ jt nA;obtain⟨B1,C1,o1,o2,q1⟩:=ag.one k3.os;obtain⟨B2,C2,o3,o4,q2⟩:=ag.one o2;have rx:aj X.K F2 [x] [key.d]:=by rw[(mS ek).1];exact qU o1
  refine⟨key,Dv,rx.mono k3.le,(mS ek).2,w (.ref p) _ ?_⟩;have np:∀a∈A3,a≠p:=λa m z=>by
   subst z;rcases ox.own a m with z|z
   .exact nA z
   .rw[jt] at z;cases z
  have kp:∀a∈A3,∀o,H2 a=some o->upd H2 p (.dG [(key,x,y)] 1) a=some o:=λa m o e=>by rw[cZ (np a m)];exact e
  subst q2 q1;have jI:∀a∈B2++C2,a∈B1++(B2++C2):=λa m=>hG _ m
  have AS:F2 p=none:=by
   cases eF:F2 p with
   |none=>rfl
   |some o=>
    rcases ox.new p (by rw[eF];exact λz=>by cases z) with z|z|z
    .exact bQ (k.le.free hn) z
    .exact bQ z nA
    .rw[jt] at z;cases z
  have DM:=k3.nd;rw[lC] at DM;refine⟨F2,p::B2++C2,⟨ox.ff,λa o e n=>?_,λa h=>?_,λa h=>?_,λa m=>?_⟩,⟨λa o e=>?_,?_,?_,?_⟩,iJ⟩
  .have:=ox.keep a o (s a o e) n;rw[cZ (mz e hn)];exact this
  .by_cases z:a=p
   .rw[z,jt];exact λz=>by cases z
   .rw[cZ z];exact ox.r6 a (λz'=>h (s.free z'))
  .rcases ox.new a h with z|z|z
   .exact .inl z
   .exact .inr (.inl z)
   .exact .inr (.inr (s.free z))
  .rcases eC.mp m with rfl|m
   .exact .inr hn
   .rcases ox.own a (jI a m) with z|z
    .exact .inl z
    .exact .inr (s.free z)
  .have h1:=k3.le a o e;rw[cZ (λz=>by rw[z,AS] at e;cases e)];exact h1
  .exact .aE (A:=B2) (B:=C2) jt rfl rx (o3.keep (aF.refl _) λa m=>kp a (jI a (jN _ m))) (o4.keep (aF.refl _) λa m=>kp a (jI a (hG _ m)))
  .exact hU.mpr ⟨λm=>np p (jI p m) rfl,DM.2.1⟩
  .intro a m;rcases eC.mp m with rfl|m
   .exact AS
   .exact k3.fr a (jI a m)
 .cases e
end
theorem Ux{Q:Bool->Shared->Prop}{P:Program}{w:World}{A:Around}{E:Value->Shared->Prop}{s:Shared}{d:Addr}(hT:s.TypeIs (.ref d) "dict")(h:Q false s):wpAny (model P w) A (Builtin.List.listLengthHint (.ref d)) Q E s:=by
 unfold Builtin.List.listLengthHint;refine aB (wpAny_specialOf hT F.slot_dict_len.lookup ?_);dsimp only;rw[show splitId "dict.__len__"=some ("dict","__len__") from by decide +kernel]
 dsimp only;refine aB (wpAny_isInstance (b:=true) hT (by rw[isSubtype_type];kernel_rfl) ?_)
 rw[aQ (by decide)]
 refine wpAny_ite_true (by decide +kernel) (aB (wpAny_typeOf hT ?_))
 exact bh h
section
variable{P:Program}{w:World}{A:Around}{E:Value->Shared->Prop}{s:Shared}
def VJ{n ep:Nat}{ob:Obj}{xs:Array DictEntry}(hh:A.handled=none)(J d:Addr)(i6:d≠J)(g2:ob.data=.dict xs ep)(hl:xs.size=n):
  Walks P w A J [J,d] [J] n (λi v=>xs[i]?.map (·.key)=some v) (λi h=>h.IsKeyIter J d i n ep/\h.get? d=some ob) where
 sub:=λb hb=>by simp at hb;simp[hb]
 frame:=λ_ _ _ st hk=>⟨st.1.at λo e=>hk J (by simp) o e,hk d (by simp) _ st.2⟩
 item:=λi s Q E hi st hQ=>by
  have lt:i<xs.size:=by lia
  refine NM st.2 g2 hl st.1 lt λh' DA sb=>?_
  exact hQ _ h' s.toks (by rw[pI lt];rfl) ⟨DA,(sb.2 d i6).trans st.2⟩ λb o hb e=>sb.extBut b o (λh=>hb (by simp[h])) e
 done:=λs Q E st hQ=>Oo hh st.2 g2 hl st.1 (cJ _) λh' Hb=>hQ h' s.toks λb o hb e=>Hb b o (λh=>hb (by simp[h])) e
 self:=λ_ _ _ _ st hQ=>wpAny_pyIter_keyiter st.1 hQ
end
theorem P9:∀{ys:List V} {us:List Value},ys.length=us.length->(∀(j:Nat) (y:V) (u:Value),ys[j]?=some y->us[j]?=some u->RelV y u)->Vals ys us
 |[],[],_,_=>.nil
 |y::ys,u::us,hl,h=>.cons (h 0 y u rfl rfl) (P9 (by simpa using hl) λj y' u' e1 e2=>h (j+1) y' u' (by simpa using e1) (by simpa using e2))
 |[],_::_,h,_=>by simp at h
 |_::_,[],h,_=>by simp at h
section
variable{X:Cx}{ae:List (Addr×Obj)}{Z:St}{H:Hp}
theorem Uh{E:Value->Shared->Prop}{A:Around}{s:Shared}{d:Addr}{es:List (TK×V×V)}{ep:Nat}{Q:Value->Shared->Prop}(hh:A.handled=none)(I:Inv X ae Z H s)(hd:H d=some (.dG es ep))
  (hQ:∀s',(∀b u,s.heap.get? b=some u->s'.heap.get? b=some u)->s'={ s with heap:=s'.heap,toks:=s'.toks}->(∃ay c,Vals (es.map (·.2.1)) ay/\s'.heap.get? s.heap.objs.size=some { cls:=.type "list",data:=.seq ay.toArray c})->Q (.ref s.heap.objs.size) s') :
  wpAny (model X.prog X.w) A (call (.type "list") [.ref d]) Q E s:=by
 obtain⟨hz,z,ob,xs,g1,g5,g2,g3,g4⟩:=(show cw X.prog X.w H s.heap d (.dG es ep) from I.cV d _ hd);have hl:xs.size=es.length:=by have:=Paired.length g3;simpa using this.symm
 have ld:d<s.heap.objs.size:=fG g1;refine callType_codes (Q₁:=λobj s₁=>obj=.ref s.heap.objs.size/\s₁={ s with heap:=s.heap.push { cls:=.type "list",data:=.seq #[]}}) F.called_list (F.typeCall_list_1 _) F.entry_list_init (code_list_new _ ⟨rfl,rfl⟩) λobj s₁ q₁=>?_
 obtain⟨rfl,rfl⟩:=q₁;have gS:(s.heap.push { cls:=.type "list",data:=.seq #[]}).get? s.heap.objs.size=some { cls:=.type "list",data:=.seq #[]}:=oB _ rfl;refine⟨⟨_,gS,rfl⟩,F.args_list_init_2 _ _,?_⟩;show wpAny _ _ (do let old <-Builtin.List.listItems (.ref s.heap.objs.size);Builtin.List.listUpdate (.ref s.heap.objs.size) (λ_=>#[]);letGo old.toList.reverse;Builtin.List.listExtendWith (.ref s.heap.objs.size) (.ref d) .none) _ _ _
 refine aB ?_;unfold Builtin.List.listItems;refine aB (wpAny_seqItems gS rfl (bh ?_));show wpAny _ _ (updateSeq s.heap.objs.size (λ_=>#[]) >>= λ_=>letGo (#[]:Array Value).toList.reverse >>= λ_=>Builtin.List.listExtendWith (.ref s.heap.objs.size) (.ref d) .none) _ _ _
 refine aB (wpAny_updateSeq gS rfl ?_);have gT:=vG (Obj.mapSeq (λ_=>(#[]:Array Value))) gS rfl
 refine aB (wpAny_letGo ?_);have nS:∀b u,s.heap.get? b=some u->b≠s.heap.objs.size:=λb u e z=>by rw[z] at e;exact pF _ (fG e)
 have k1:∀b u,s.heap.get? b=some u->((s.heap.push { cls:=.type "list",data:=.seq #[]}).update s.heap.objs.size (Obj.mapSeq (λ_=>(#[]:Array Value)))).get? b=some u:=
  λb u e=>(HL _ _ (Ne.symm (nS b u e))).trans (jO _ e)
 have Af:((s.heap.push { cls:=.type "list",data:=.seq #[]}).update s.heap.objs.size (Obj.mapSeq (λ_=>(#[]:Array Value)))).objs.size=s.heap.objs.size+1:=by simp[Heap.update,Heap.push]
 generalize(s.heap.push { cls:=.type "list",data:=.seq #[]}).update s.heap.objs.size (Obj.mapSeq (λ_=>(#[]:Array Value)))=h1 at *
 have I1:Inv X ae Z H { s with heap:=h1,toks:=s.toks}:=I.kept k1;have hT1:Shared.TypeIs { s with heap:=h1} (.ref d) "dict":=⟨ob,k1 _ _ g1,g5.1⟩;unfold Builtin.List.listExtendWith;refine aB (wpAny_typeOf hT1 ?_);have ne:s.heap.objs.size≠d:=λe=>pF _ (e ▸ ld)
 have c1:Builtin.List.listSameRef (.ref s.heap.objs.size) (.ref d)=false:=by simp[Builtin.List.listSameRef,ne]
 have c2:(Value.type "dict" == Value.type "list")=false:=by decide
 have c3:(Value.type "dict" == Value.type "tuple")=false:=by decide
 simp only[c1,c2,c3,EC,lA,bS];refine aB (O5 I1 hd ?_);have Lm:Shared.TypeIs { s with heap:=h1.push { cls:=.type "dict_keyiterator",data:=.fields #[.ref d,.int 0 0,.int es.length 0,.int ep 0]}} (.ref d) "dict":=⟨ob,jO _ (k1 _ _ g1),g5.1⟩;refine aB (mZ (Ux Lm ?_));refine wpAny_ite_true (by decide +kernel) (aB (wpAny_rule (aB ?_)))
 show wpAny _ _ (updateSeq s.heap.objs.size (·.push .none) >>= λ_=>updateSeq s.heap.objs.size (·.pop)) _ _ _
 have gU:=jO { cls:=.type "dict_keyiterator",data:=.fields #[.ref d,.int 0 0,.int es.length 0,.int ep 0]} gT;refine aB (wpAny_updateSeq gU rfl ?_);have gV:=vG (Obj.mapSeq (·.push Value.none)) gU rfl
 refine wpAny_updateSeq (hz:=by seq_fits) gV rfl ?_
 have gW:=vG (Obj.mapSeq (·.pop)) gV rfl
 have gJ:(h1.push { cls:=.type "dict_keyiterator",data:=.fields #[.ref d,.int 0 0,.int es.length 0,.int ep 0]}).get? h1.objs.size=some { cls:=.type "dict_keyiterator",data:=.fields #[.ref d,.int 0 0,.int es.length 0,.int ep 0]}:=oB _ rfl;have Mg:∀b o,b≠s.heap.objs.size->(h1.push { cls:=.type "dict_keyiterator",data:=.fields #[.ref d,.int 0 0,.int es.length 0,.int ep 0]}).get? b=some o->
   (((h1.push { cls:=.type "dict_keyiterator",data:=.fields #[.ref d,.int 0 0,.int es.length 0,.int ep 0]}).update s.heap.objs.size (Obj.mapSeq (·.push Value.none))).update s.heap.objs.size (Obj.mapSeq (·.pop))).get? b=some o:=
  λb o hb e=>(HL _ _ (Ne.symm hb)).trans ((HL _ _ (Ne.symm hb)).trans e)
 have hJ:h1.objs.size≠s.heap.objs.size:=by rw[Af];exact Nat.succ_ne_self _
 have dJ:d≠h1.objs.size:=ly (by rw[Af];exact Nat.lt_succ_of_lt ld)
 have W:=(VJ (P:=X.prog) (w:=X.w) (A:=A.in1.in1) (n:=es.length) (ep:=ep) hh h1.objs.size d dJ g2 hl).toS;have hSf:s.heap.objs.size∉[h1.objs.size,d]:=λm=>by
  simp at m;rcases m with m|m
  .exact hJ m.symm
  .exact ne m
 refine bh ⟨plainId_quiet F.plain_extend_loop _,codeAny_extend_loopS W hz _ hSf _ es.length 0 _ _ _ rfl (kr _) ⟨⟨_,Mg _ _ hJ gJ,rfl,rfl⟩,Mg _ _ (Ne.symm ne) (jO _ (k1 _ _ g1))⟩ gW (ItemsOf.nil _) λs' Br c' hm hS' u4=>?_⟩
 obtain⟨m1,m2,m3,m4,m5⟩:=hm;have es':s'={ s with heap:=s'.heap,toks:=s'.toks}:=by
  cases s';cases m2;cases m3;cases m4;rfl
 refine⟨rfl,hQ s' (λb u e=>m1 b u (λq=>?_) (Mg b u (nS b u e) (jO _ (k1 b u e)))) es' ⟨Br.toList,c',?_,by simpa using hS'⟩⟩
 .rcases eC.mp q with q|q
  .exact nS b u e q
  .rw[jD] at q;have:=fG e;rw[q,Af] at this;exact bQ this (Nat.not_lt.mpr (EE _))
 .have h2:Br.size=es.length:=u4.1;refine P9 (by simp[h2]) λj y u e1 e2=>?_
  rw[i7] at e1;obtain⟨e,e3,rfl⟩:=iM.mp e1;obtain⟨x,x1,x2⟩:=y7 j g3 e3;have h3:=u4.2 j u (by rw[<-mr];exact e2)
  have x1:xs[j]?=some x:=by rw[<-mr];exact x1
  have h3:Option.map (λx=>x.key) xs[j]?=some u:=h3
  rw[x1] at h3;cases h3;exact x2.2.1
def Tb(K:FG):List V->Hp->VK->Prop:=λxs H Q=>∃d es ep,xs=[.ref d]/\H d=some (.dG es ep)/\∀l,H l=none->Q (.ref l) (upd H l (.lst (es.map (·.2.1))))
def US(hc:X.calm=true):cT X (.type "list") (Tb X.K):=by
 intro ae s Z H xs us Q I r h;obtain⟨d,es,ep,rfl,hd,q⟩:=h;obtain⟨u,rfl,ru⟩:=vals1 r;cases ru;refine Uh (I.ok.hd hc) I hd λs' kp es' hh=>?_
 obtain⟨ay,c,rv,g⟩:=hh;have hz:=(show cw X.prog X.w H s.heap d (.dG es ep) from I.cV d _ hd).1;rw[es'];exact⟨.ref s.heap.objs.size,_,I.laid kp (cJ _) (show cw X.prog X.w _ s'.heap _ (.lst (es.map (·.2.1))) from⟨by rw[bz];exact hz,ay,c,rv,g⟩),rfl,q _ (I.cV.fresh (cJ _))⟩
def BX:List O->Option O
 |[.aE kvs]=>some (.lst ((kvs.map (·.1.d)).map .Y))
 |[.Y (.aE kvs)]=>some (.lst ((kvs.map (·.1.d)).map .Y))
 |_=>none
def W4{K:FG}:cM K (Tb K) BX:=by
 intro F H vs os o Q le eY e res;unfold BX at e;split at e
 .rename_i kvs
  obtain⟨x,B,rfl,h1⟩:=eY.one;cases e;cases h1 with
  |@aE a ws _ ep A1 B1 _ _ hd hk rk ch t=>exact⟨a,ws,ep,rfl,hd,λl hl=>res.lst rk hl⟩
 .rename_i kvs
  obtain⟨x,B,rfl,h1⟩:=eY.one;cases e;have rp:=qU h1;cases rp with
  |flat z _=>cases z
  |@aE a ws _ ep _ _ hd hk rk ri _=>exact⟨a,ws,ep,rfl,le _ _ hd,λl hl=>res.lst rk hl⟩
 .cases e
def W5{K:FG}{e:Expr}{fs:GA}{p pos:Pos}(hm:X.mg "list"=none)(ha:PA X [e] (kb K fs))(hc:X.calm=true:=by rfl)(hg:Gl X "list":=by rfl)(he:starEach [e] X.env=(false,eval e X.env)::starEach [] X.env:=by rfl)(j8:(backTo pos (starEach [] X.env)).any (·.1)=false:=by rfl)(hK:X.K=K:=by rfl):PE X (.Call (.Name "list" p) [e] [] pos) (tG K (gO BX fs)):=by
 subst hK;exact xu (US hc) W4 hm xE ha hg (by decide) (by decide) he j8
end
section
variable{X:Cx}{K:FG}{fa fb fc:GE}{m:List Bool}{a b c:Expr}{pos:Pos}
def GB(c1 c2:Int->Int->Bool)(fa fb fc:GE):GT:=λQ0=>(fa Q0).bind λp=>(fb p.2).bind λq=>match p.1,q.1 with
 |.own (.Y (.int x)),.own (.Y (.int y))=>if c1 x y=true then(fc q.2).bind λr=>match r.1 with
   |.own (.Y (.int z))=>some (c2 y z,r.2)
   |_=>none
  else some (false,q.2)
 |_,_=>none
theorem W6(c1 c2:Int->Int->Bool)(fa fb fc:GE)(Q0:Gm):GB c1 c2 fa fb fc Q0=(fa Q0).bind λp=>(fb p.2).bind λq=>match p.1,q.1 with
 |.own (.Y (.int x)),.own (.Y (.int y))=>if c1 x y=true then(fc q.2).bind λr=>match r.1 with
   |.own (.Y (.int z))=>some (c2 y z,r.2)
   |_=>none
  else some (false,q.2)
 |_,_=>none:=rfl
def W7{op yF:CmpOp}{c1 c2:Int->Int->Bool}(ho:gd X (compareOp op) (rD λi j=>.bl (c1 i j)))(sJ:gd X (compareOp yF) (rD λi j=>.bl (c2 i j)))(ha:PE X a (tG K fa))(hb:PE X b (tG K fb))(hc:PE X c (tG K fc))
  (hm:lastMarks [op,yF] [b,c]=false:=by with_unfolding_all rfl):PT X (.Compare a [op,yF] [b,c] pos) (g_ K (GB c1 c2 fa fb fc)):=(Wm ho sJ ha hb hc hm).mono λZ H Q t=>by
 obtain⟨F,A,Q0,rb,Q0',k,e,w⟩:=t;unfold GB at e;obtain⟨⟨r1,az⟩,e1,e'⟩:=eQ.mp e;clear e;obtain⟨⟨r2,cu⟩,e2,e⟩:=eQ.mp e';clear e';dsimp only at e2 e;split at e
 .rename_i x y
  refine⟨F,A,Q0,_,az,k,e1,λv H1 pp=>?_⟩
  have hv:v=.int x:=fy.flat pp rfl;subst hv;obtain⟨F1,A1,x1,k1,hh⟩:=pp;obtain⟨B,C,h1,h2,h3⟩:=ag.one (Z:=Z) (Q0:=az) k1.os;subst h3;obtain⟨k2,x2⟩:=k1.sub h2 (.bD (mN _ _));refine⟨F1,C,az,_,cu,k2,e2,λv2 H2 S_=>?_⟩
  have hv2:v2=.int y:=fy.flat S_ rfl;subst hv2;obtain⟨F2,A2,x3,k3,SG⟩:=S_;obtain⟨B2,C2,h4,h5,h6⟩:=ag.one (Z:=Z) (Q0:=cu) k3.os;subst h6;obtain⟨k4,x4⟩:=k3.sub h5 (.bD (mN _ _));have Tq:=(x1.trans x2).trans (x3.trans x4);refine⟨x,y,rfl,rfl,c1 x y,rfl,?_⟩;cases Sx:c1 x y with
  |true=>
   rw[Sx,aJ rfl] at e;rw[aJ rfl];obtain⟨⟨r3,oR⟩,e3,e4⟩:=eQ.mp e;dsimp only at e4;split at e4
   .rename_i z
    cases e4;refine⟨F2,C2,cu,_,_,k4,e3,λv3 H3 Ta=>?_⟩
    have hv3:v3=.int z:=fy.flat Ta rfl;subst hv3;obtain⟨F3,A3,x5,k5,He⟩:=Ta;obtain⟨B3,C3,h7,h8,h9⟩:=ag.one (Z:=Z) k5.os;subst h9;obtain⟨k6,x6⟩:=k5.sub h8 (.bD (mN _ _));exact⟨y,z,rfl,rfl,_,rfl,w H3 ⟨F3,C3,Tq.trans (x5.trans x6),k6,iJ⟩⟩
   .cases e4
  |false=>
   rw[Sx,aQ mY] at e;rw[aQ mY];cases e;exact⟨_,rfl,w H2 ⟨F2,C2,Tq,k4,iJ⟩⟩
 .cases e
end
section
variable{X:Cx}{K:FG}{a b c d:Expr}{ta tb tc td:TE}{fa fb fc fd:GE}{pos:Pos}
end
end L2
namespace L2
open PySem
variable{mask i k j:Nat}{t:SetTable}{es:Array (Int×Value)}{hs:List Int}{ow:Array (Option Nat)}{js:List Nat}
def qb:Nat->Nat->Nat
 |0,x=>x
 |n+1,x=>qb n (5*x+1)
theorem F_:∀(m n x:Nat),qb (m+n) x=qb n (qb m x)
 |0,n,x=>by rw[As];rfl
 |m+1,n,x=>by rw[Nat.succ_add];exact F_ m n _
def YH(k:Nat):∃c,c%2=1/\∀x,qb (2^k) x=x+2^k*(c*(4*x+1)):=by
 induction k with
 |zero=>exact⟨1,rfl,λx=>by show 5*x+1=_;lia⟩
 |succ k ih=>
  obtain⟨c,hc,e⟩:=ih;refine⟨c*(1+2*(2^k*c)),by rw[MZ,hc];lia,λx=>?_⟩
  rw[EL,show 2^k*2=2^k+2^k from by lia,F_,e,e]
  generalize 2^k=p;generalize hz:4*x+1=z;have h1:4*(x+p*(c*z))+1=z*(1+4*(p*c)):=by
   rw[Au z,M0,<-hz,show(4*x+1)*(4*(p*c))=4*(p*(c*(4*x+1))) from by
    rw[Aw (4*x+1),EM,EM]]
   lia
  rw[h1];have h2:p*(c*(z*(1+4*(p*c))))=p*(c*z)+4*(p*(c*z)*(p*c)):=by
   rw[Au z,Au c,Au p,M0]
   congr 1
   simp only[Aw,Nat.mul_left_comm,EM]
  have h3:(p+p)*(c*(1+2*(p*c))*z)=2*(p*(c*z))+4*(p*(c*z)*(p*c)):=by
   rw[<-Nat.two_mul,Au c,M0,Nat.add_mul c,Au (2*p)]
   congr 1
   .rw[EM]
   .rw[show(4:Nat)=2*2 from rfl];simp only[Aw,Nat.mul_left_comm,EM]
  rw[h2,h3];lia
def W8(k:Nat):∀x y,∃n,n<2^k/\qb n x%2^k=y%2^k:=by
 induction k with
 |zero=>exact λx y=>⟨0,by decide,by lia⟩
 |succ k ih=>
  intro x y;obtain⟨n,hn,e⟩:=ih x y;obtain⟨c,hc,g⟩:=YH k;have ep:2^(k+1)=2*2^k:=by rw[EL];lia
  have hp:0<2^k:=Nat.pow_pos (by decide)
  by_cases h:qb n x%2^(k+1)=y%2^(k+1)
  .exact⟨n,by lia,h⟩
  .refine⟨n+2^k,by lia,?_⟩
   rw[F_,g];have ho:∃w,c*(4*qb n x+1)=2*w+1:=⟨c*(4*qb n x+1) / 2,by
    have:(c*(4*qb n x+1))%2=1:=by rw[MZ,hc];lia
    lia⟩
   obtain⟨w,ew⟩:=ho;rw[ew];generalize qb n x=z at *;rw[ep] at h ⊢;generalize 2^k=p at *;have e3:z+p*(2*w+1)=z+p+2*p*w:=by rw[Au,M0,Nat.mul_left_comm,EM];lia
   rw[e3,Nat.add_mul_mod_self_left];have a1:=Nat.div_add_mod z p;have a2:=Nat.div_add_mod y p;have b1:z%(2*p)=p*(z / p%2)+z%p:=by rw[Aw 2 p,Nat.mod_mul,M3]
   have b2:y%(2*p)=p*(y / p%2)+y%p:=by rw[Aw 2 p,Nat.mod_mul,M3]
   have b3:(z+p)%(2*p)=p*((z / p+1)%2)+z%p:=by
    rw[Aw 2 p,Nat.mod_mul,M3,Nat.add_div_right _ hp,Nat.add_mod_right]
   rw[b1,b2,e] at h;rw[b3,b2,e];have c1:z / p%2≠y / p%2:=λq=>h (by rw[q])
   have c2:(z / p+1)%2=y / p%2:=by lia
   rw[c2]
def fJ(mask:Nat)(h:Int):Nat->Nat×Nat
 |0=>(SetTable.bits h%(mask+1),SetTable.bits h)
 |n+1=>SetTable.leap mask (fJ mask h n).1 (fJ mask h n).2
def nZ(mask i:Nat):Nat:=SetTable.runEnd mask i - i
def lO(mask:Nat)(h:Int):Nat->Nat
 |0=>0
 |n+1=>lO mask h n+nZ mask (fJ mask h n).1+1
def lK(mask:Nat)(p:SetTable.Probe):SetTable.Probe:=if p.more > 0 then{ p with j:=p.j+1,more:=p.more - 1} else
 {p with j:=(SetTable.leap mask p.i p.perturb).1,more:=nZ mask (SetTable.leap mask p.i p.perturb).1,i:=(SetTable.leap mask p.i p.perturb).1,perturb:=(SetTable.leap mask p.i p.perturb).2}
def HB(mask:Nat)(q:Nat×Nat)(d:Nat):SetTable.Probe:={ j:=q.1+d,more:=nZ mask q.1 - d,i:=q.1,perturb:=q.2,dummy:=none}
def bF(mask:Nat)(h:Int):Nat->SetTable.Probe
 |0=>HB mask (fJ mask h 0) 0
 |n+1=>lK mask (bF mask h n)
def e8w(mask i:Nat):nZ mask i<=9:=by unfold nZ SetTable.runEnd;split <;> lia
def KA(hi:i<=mask):i+nZ mask i<=mask:=by unfold nZ SetTable.runEnd;split <;> lia
def KC(mask:Nat)(h:Int)(L:Nat):(fJ mask h L).1<=mask:=by
 cases L with
 |zero=>exact Nat.le_of_lt_succ (Nat.mod_lt _ (by lia))
 |succ L=>exact Nat.le_of_lt_succ (Nat.mod_lt _ (by lia))
theorem Ga(mask:Nat)(h:Int):∀(L d:Nat),d<=nZ mask (fJ mask h L).1->bF mask h (lO mask h L+d)=HB mask (fJ mask h L) d
 |0,0,_=>rfl
 |L+1,0,_=>by
  show bF mask h (lO mask h L+nZ mask (fJ mask h L).1+1)=_;show lK mask (bF mask h (lO mask h L+nZ mask (fJ mask h L).1))=_;rw[Ga mask h L _ (cJ _)];unfold lK HB;rw[aQ (by dsimp only;lia)]
  rfl
 |L,d+1,hd=>by
  rw[<-Nat.add_assoc];show lK mask (bF mask h (lO mask h L+d))=_;rw[Ga mask h L d (by lia)]
  unfold lK HB;rw[aJ (by dsimp only;lia)]
  simp only[SetTable.Probe.mk.injEq,and_true,true_and];lia
theorem R1(mask:Nat)(h:Int):∀L,lO mask h L<=10*L
 |0=>cJ _
 |L+1=>by
  have:=R1 mask h L;have:=e8w mask (fJ mask h L).1;show lO mask h L+_+1<=_;lia
def VL(mask:Nat)(h:Int)(L:Nat):(bF mask h (lO mask h L)).j=(fJ mask h L).1:=by
 have:=Ga mask h L 0 (kr _);rw[EN] at this;rw[this];rfl
def VM(mask:Nat)(p:SetTable.Probe):(lK mask p).dummy=p.dummy:=by unfold lK;split <;> rfl
theorem Oq(mask:Nat)(h:Int):∀n,(bF mask h n).dummy=none
 |0=>rfl
 |n+1=>(VM mask _).trans (Oq mask h n)
def YI(h:Int):SetTable.bits h<2^64:=by
 unfold SetTable.bits;have h1:=MT h (show(0:Int)<2^64 by decide)
 have h2:=MS h (show(2^64:Int)≠0 by decide)
 generalize h%2^64=z at *;lia
theorem P_(mask:Nat)(h:Int):∀L,(fJ mask h L).2=SetTable.bits h / 32^L
 |0=>by rw[Nat.pow_zero,Nat.div_one];rfl
 |L+1=>by
  show(fJ mask h L).2 / 32=_;rw[P_ mask h L,Nat.div_div_eq_div_mul,<-EL]
def YJ(mask:Nat)(h:Int)(n:Nat):(fJ mask h (13+n)).2=0:=by
 rw[P_];apply Nat.div_eq_of_lt;have h1:=YI h;have h2:32^13<=32^(13+n):=Nat.pow_le_pow_right (by decide) (by lia)
 exact iG (iG h1 (by decide)) h2
theorem R3(mask:Nat)(h:Int):∀n,(fJ mask h (13+n)).1=qb n (fJ mask h 13).1%(mask+1)
 |0=>(Nat.mod_eq_of_lt (Nat.lt_succ_of_le (KC mask h 13))).symm
 |n+1=>by
  show((fJ mask h (13+n)).1*5+1+(fJ mask h (13+n)).2 / 32)%(mask+1)=_;rw[YJ,R3 mask h n,F_ n 1];show(qb n _%(mask+1)*5+1+0)%(mask+1)=(5*qb n _+1)%(mask+1);rw[EN,Nat.add_mod,MZ,Nat.mod_mod,<-MZ,<-Nat.add_mod,Aw]
def Qa(hk:mask+1=2^k)(h:Int)(j:Nat)(hj:j<=mask):∃L,L<mask+14/\(fJ mask h L).1=j:=by
 obtain⟨n,hn,e⟩:=W8 k (fJ mask h 13).1 j;refine⟨13+n,by lia,?_⟩
 rw[R3,hk,e,<-hk];exact Nat.mod_eq_of_lt (Nat.lt_succ_of_le hj)
def qp(xs:Array Nat):Prop:=∀(i k u v:Nat),i<k->xs[i]?=some u->xs[k]?=some v->u<v
theorem Je{xs:Array Nat}(inc:qp xs)(j:Nat):∀(fuel lo hi:Nat),hi - lo<=fuel->lo<=hi->hi<=xs.size->(∀i v,i<lo->xs[i]?=some v->v<j)->(∀i v,hi<=i->xs[i]?=some v->j<=v)->
  (∀i v,i<SetTable.below.go xs j fuel lo hi->xs[i]?=some v->v<j)/\(∀i v,SetTable.below.go xs j fuel lo hi<=i->xs[i]?=some v->j<=v)/\SetTable.below.go xs j fuel lo hi<=xs.size
 |0,lo,hi,hf,hl,hh,h1,h2=>by
  have e:lo=hi:=by lia
  subst e;exact⟨h1,h2,hh⟩
 |fuel+1,lo,hi,hf,hl,hh,h1,h2=>by
  unfold SetTable.below.go;by_cases c:lo<hi
  .rw[aJ c];have hm:(lo+hi) / 2<xs.size:=by lia
   have em:xs[(lo+hi) / 2]?=some xs[(lo+hi) / 2]:=pI hm;have eg:xs.getD ((lo+hi) / 2) j=xs[(lo+hi) / 2]:=by rw[HR,em];rfl
   dsimp only;rw[eg];by_cases c2:xs[(lo+hi) / 2]<j
   .rw[aJ c2];refine Je inc j fuel _ hi (by lia) (by lia) hh (λi v hi' e=>?_) h2
    by_cases c3:i=(lo+hi) / 2
    .subst c3;rw[em] at e;cases e;exact c2
    .exact Nat.lt_trans (inc i _ _ _ (by lia) e em) c2
   .rw[aQ c2];refine Je inc j fuel lo _ (by lia) (by lia) (by lia) h1 (λi v hi' e=>?_)
    by_cases c3:i=(lo+hi) / 2
    .subst c3;rw[em] at e;cases e;lia
    .have:=inc _ i _ _ (by lia) em e
     lia
  .rw[aQ c];have e:lo=hi:=by lia
   subst e;exact⟨h1,h2,hh⟩
def O7{xs:Array Nat}(inc:qp xs)(j:Nat):(∀i v,i<SetTable.below xs j->xs[i]?=some v->v<j)/\(∀i v,SetTable.below xs j<=i->xs[i]?=some v->j<=v)/\SetTable.below xs j<=xs.size:=
 Je inc j xs.size 0 xs.size (by lia) (by lia) (by lia) (λi v h=>bQ h (Ay _)) λi v h e=>by
  have:=(tU.mp e).1;lia
def JC(inc:qp t.place)(h:t.place[i]?=some j):t.slot j=.live i:=by
 obtain⟨b1,b2,b3⟩:=O7 inc j;have e:SetTable.below t.place j=i:=by
  rcases EO (SetTable.below t.place j) i with c|c|c
  .have hl:=(tU.mp h).1;have e2:t.place[SetTable.below t.place j]?=some t.place[SetTable.below t.place j]:=pI (by lia)
   have:=inc _ _ _ _ c e2 h;have:=b2 _ _ (cJ _) e2;lia
  .exact c
  .have:=b1 i j c h;lia
 unfold SetTable.slot;dsimp only;rw[e,h];simp
def Qb(inc:qp t.place)(dm:t.dummies=#[])(h:j∉t.place.toList):t.slot j=.empty:=by
 unfold SetTable.slot;dsimp only;have e1:(t.place[SetTable.below t.place j]? == some j)=false:=by
  rw[pK];intro e;obtain⟨hl,e⟩:=tU.mp e;exact h (by rw[<-e];exact Array.getElem_mem_toList hl)
 rw[e1];have e2:SetTable.has t.dummies j=false:=by unfold SetTable.has;rw[dm];simp
 rw[e2];rfl
def UT(inc:qp t.place)(dm:t.dummies=#[])(j:Nat):(j∉t.place.toList/\t.slot j=.empty)\/∃i,t.place[i]?=some j/\t.slot j=.live i:=by
 by_cases h:j∈t.place.toList
 .right;obtain⟨i,hi,e⟩:=HS h;have e':t.place[i]?=some j:=by rw[<-mr,eP hi,e]
  exact⟨i,e',JC inc e'⟩
 .exact .inl ⟨h,Qb inc dm h⟩
theorem GC:∀(n:Nat) (l:List Nat),(∀j,j<n->j∈l)->n<=l.length
 |0,_,_=>kr _
 |n+1,l,h=>by
  have m:=h n (by lia)
  have:=GC n (l.erase n) λj hj=>(List.mem_erase_of_ne (by lia)).mpr (h j (by lia))
  rw[List.length_erase_of_mem m] at this;have:=List.length_pos_of_mem m;lia
theorem Kc{p:Nat->Prop}:∀(d n:Nat),p (n+d)->∃M,n<=M/\M<=n+d/\p M/\∀m,n<=m->m<M->¬p m
 |0,n,h=>⟨n,cJ _,cJ _,h,λm h1 h2=>bQ h2 (by lia)⟩
 |d+1,n,h=>by
  by_cases c:p n
  .exact⟨n,cJ _,by lia,c,λm h1 h2=>bQ h2 (by lia)⟩
  .obtain⟨M,h1,h2,h3,h4⟩:=Kc (p:=p) d (n+1) (by rw[Nat.add_right_comm];exact h)
   refine⟨M,by lia,by lia,h3,λm g1 g2=>?_⟩
   by_cases e:m=n
   .subst e;exact c
   .exact h4 m (by lia) g2
theorem Qc{t:SetTable}{ha:Nat->Int}{h:Int}:∀(d n fuel:Nat),d<fuel->(∀m,n<=m->m<n+d->∃i,t.slot (bF t.mask h m).j=.live i/\(ha i == h)=false)->
  (t.slot (bF t.mask h (n+d)).j=.empty->SetTable.probe.go t ha h fuel (bF t.mask h n)=some (.empty (bF t.mask h (n+d)).j none))/\
  ∀i,t.slot (bF t.mask h (n+d)).j=.live i->(ha i == h)=true->SetTable.probe.go t ha h fuel (bF t.mask h n)=some (.candidate (bF t.mask h (n+d)).j i (bF t.mask h (n+d+1)))
 |d,n,0,hf,_=>bQ hf (Ay _)
 |0,n,fuel+1,hf,_=>by
  refine⟨λe=>?_,λi e e2=>?_⟩
  .rw[EN] at e ⊢;unfold SetTable.probe.go;rw[e];dsimp only;rw[Oq];rfl
  .rw[EN] at e ⊢;unfold SetTable.probe.go;rw[e];dsimp only;rw[aJ e2];rfl
 |d+1,n,fuel+1,hf,hm=>by
  obtain⟨i,e,e2⟩:=hm n (cJ _) (by lia)
  have ih:=Qc (t:=t) (ha:=ha) (h:=h) d (n+1) fuel (by lia) λm h1 h2=>hm m (by lia) (by lia)
  have eq:SetTable.probe.go t ha h (fuel+1) (bF t.mask h n)=SetTable.probe.go t ha h fuel (bF t.mask h (n+1)):=by
   conv=>lhs;unfold SetTable.probe.go
   rw[e];dsimp only;rw[e2];rfl
  rw[eq,show n+(d+1)=n+1+d from by lia]
  exact ih
structure iQ (t:SetTable) (es:Array (Int×Value)):Prop where
 yg:t.dummies=#[]
 sz:t.place.size=es.size
 pw:∃k,3<=k/\t.mask+1=2^k
 inc:qp t.place
 le:∀(i v:Nat),t.place[i]?=some v->v<=t.mask
 lt:es.size<=t.mask
 yi:∀(i v:Nat) (e:Int×Value),t.place[i]?=some v->es[i]?=some e->∃n,(bF t.mask e.1 n).j=v/\∀m,m<n->(bF t.mask e.1 m).j∈t.place.toList
theorem iQ.fits{t:SetTable}{es:Array (Int×Value)}(T:iQ t es):t.fits es.size=true:=by
 unfold SetTable.fits SetTable.fill;rw[T.yg,T.sz];simp[T.lt]
def iQ.way(T:iQ t es):t.gaveWay=false:=by
 obtain⟨k,hk,e⟩:=T.pw;unfold SetTable.gaveWay;obtain⟨m,rfl⟩:∃m,k=m+1:=⟨k - 1,by lia⟩
 rw[EL] at e;rw[pK];lia
def iQ.hole(T:iQ t es)(h:Int):∃N,N<10*(t.mask+14)/\(bF t.mask h N).j∉t.place.toList:=by
 have:∃j,j<t.mask+1/\j∉t.place.toList:=by
  apply oC;intro c;have:=GC (t.mask+1) t.place.toList λj hj=>oC λq=>c ⟨j,hj,q⟩
  rw[uy,T.sz] at this;have:=T.lt;lia
 obtain⟨j,hj,hn⟩:=this;obtain⟨k,_,e⟩:=T.pw;obtain⟨L,hL,eL⟩:=Qa e h j (by lia)
 refine⟨lO t.mask h L,?_,by rw[VL,eL];exact hn⟩
 have:=R1 t.mask h L;lia
def O8{α:Type}(xs:Array α)(p:Nat)(x:α)(hp:p<=xs.size)(i:Nat):(SetTable.insertAt xs p x)[i]?=if i<p then xs[i]? else if i=p then some x else xs[i - 1]?:=by
 rw[<-mr,SetTable.toList_insertAt,List.getElem?_append,ql,uy,Nat.min_eq_left hp];split
 .rename_i h
  rw[List.getElem?_take_of_lt h,mr]
 .rename_i h
  split
  .rename_i h2
   subst h2;simp
  .rename_i h2
   obtain⟨k,hk⟩:∃k,i - p=k+1:=⟨i - p - 1,by lia⟩
   rw[hk,EJ,List.getElem?_drop,mr]
   congr 1
   lia
def O9{α:Type}(xs:Array α)(p:Nat)(x y:α):y∈(SetTable.insertAt xs p x).toList↔y=x\/y∈xs.toList:=by
 have:=(SetTable.insertAt_perm xs p x).mem_iff (a:=y);rw[this,Array.toList_push,eI,jD];exact Or.comm
theorem iQ.put{t:SetTable}{es:Array (Int×Value)}(T:iQ t es){h:Int}{x:Value}{N:Nat}(hN:(bF t.mask h N).j∉t.place.toList)(hb:∀m,m<N->(bF t.mask h m).j∈t.place.toList)(hj:(bF t.mask h N).j<=t.mask)(hr:es.size+1<=t.mask):
  (t.put (bF t.mask h N).j).2<=es.size/\(t.put (bF t.mask h N).j).1.mask=t.mask/\iQ (t.put (bF t.mask h N).j).1 (SetTable.insertAt es (t.put (bF t.mask h N).j).2 (h,x)):=by
 generalize hjj:(bF t.mask h N).j=j at *;obtain⟨b1,b2,b3⟩:=O7 T.inc j;have e2:SetTable.has t.dummies j=false:=by unfold SetTable.has;rw[T.yg];simp
 have ep:t.put j=({ t with place:=SetTable.insertAt t.place (SetTable.below t.place j) j,dummies:=t.dummies},SetTable.below t.place j):=by
  unfold SetTable.put;rw[e2];rfl
 rw[ep];dsimp only;generalize SetTable.below t.place j=p at *;have ge:=O8 t.place p j b3;have ge2:=O8 es p (h,x) (by rw[<-T.sz];exact b3)
 have nj:∀i v,t.place[i]?=some v->v≠j:=λi v e q=>hN (by
  obtain⟨hl,e⟩:=tU.mp e;rw[<-q,<-e];exact Array.getElem_mem_toList hl)
 refine⟨by rw[<-T.sz];exact b3,rfl,T.yg,?_,T.pw,?_,?_,?_,?_⟩
 .show(SetTable.insertAt t.place p j).size=_;have h1:=(SetTable.insertAt_perm t.place p j).length_eq;have h2:=(SetTable.insertAt_perm es p (h,x)).length_eq;simp only[uy,Array.size_push] at h1 h2;rw[h1,h2,T.sz]
 .intro i k u v Dp e1 e2;show u<v;have e1:(SetTable.insertAt t.place p j)[i]?=some u:=e1;have e2:(SetTable.insertAt t.place p j)[k]?=some v:=e2;rw[ge] at e1 e2;split at e1
  .split at e2
   .exact T.inc i k u v Dp e1 e2
   .split at e2
    .cases e2;exact b1 i u (by assumption) e1
    .have h1:=b1 i u (by assumption) e1
     have h2:=b2 (k - 1) v (by lia) e2
     lia
  .split at e1
   .cases e1;split at e2
    .lia
    .split at e2
     .lia
     .have h2:=b2 (k - 1) v (by lia) e2
      have:=nj _ _ e2;lia
   .split at e2
    .lia
    .split at e2
     .lia
     .exact T.inc (i - 1) (k - 1) u v (by lia) e1 e2
 .intro i v e;have e:(SetTable.insertAt t.place p j)[i]?=some v:=e;rw[ge] at e;split at e
  .exact T.le i v e
  .split at e
   .cases e;exact hj
   .exact T.le _ v e
 .have h2:=(SetTable.insertAt_perm es p (h,x)).length_eq;simp only[uy,Array.size_push] at h2;show(SetTable.insertAt es p (h,x)).size<=t.mask;lia
 .intro i v e g1 g2;have g1:(SetTable.insertAt t.place p j)[i]?=some v:=g1;rw[ge] at g1;rw[ge2] at g2;have up:∀y,y∈t.place.toList->y∈(SetTable.insertAt t.place p j).toList:=λy m=>(O9 _ _ _ _).mpr (.inr m)
  split at g1
  .rename_i c
   rw[aJ c] at g2;obtain⟨n,q1,q2⟩:=T.yi i v e g1 g2;exact⟨n,q1,λm hm=>up _ (q2 m hm)⟩
  .rename_i c
   rw[aQ c] at g2;split at g1
   .rename_i c2
    rw[aJ c2] at g2;cases g1;cases g2;exact⟨N,hjj,λm hm=>up _ (hb m hm)⟩
   .rename_i c2
    rw[aQ c2] at g2;obtain⟨n,q1,q2⟩:=T.yi _ v e g1 g2;exact⟨n,q1,λm hm=>up _ (q2 m hm)⟩
theorem Qd{α:Type}[DecidableEq α]:∀(l l':List α),l.Nodup->(∀x,x∈l->x∈l')->l.length<=l'.length
 |[],_,_,_=>kr _
 |x::l,l',nd,h=>by
  obtain⟨h1,h2⟩:=hU.mp nd;have m:=h x (by simp)
  have:=Qd l (l'.erase x) h2 λy hy=>(List.mem_erase_of_ne (λe=>h1 (by rw[<-e];exact hy))).mpr (h y (by simp[hy]))
  rw[List.length_erase_of_mem m] at this;have:=List.length_pos_of_mem m;rw[hX];lia
structure kE (mask:Nat) (hs:List Int) (ow:Array (Option Nat)) (js:List Nat):Prop where
 DV:ow.size=mask+1
 len:js.length=hs.length
 own:∀(j k:Nat),ow[j]?=some (some k)↔js[k]?=some j
 yi:∀(k:Nat) (h:Int) (j:Nat),hs[k]?=some h->js[k]?=some j->∃n,(bF mask h n).j=j/\∀m,m<n->(bF mask h m).j∈js
def kE.Aa(I:kE mask hs ow js)(hj:j<=mask):(ow.getD j (some 0)).isNone=true↔j∉js:=by
 have hl:j<ow.size:=by rw[I.DV];lia
 have e:ow[j]?=some ow[j]:=pI hl;rw[HR,e,Option.getD_some];constructor
 .intro h m;obtain⟨k,hk,e2⟩:=HS m;have:=(I.own j k).mpr (by rw[eP hk,e2])
  rw[e] at this;injection this with q;rw[q] at h;cases h
 .intro h;cases q:ow[j] with
  |none=>rfl
  |some k=>
   rw[q] at e;exact bQ (jr ((I.own j k).mp e)) h
theorem Qe{mask k:Nat}{hs:List Int}{ow:Array (Option Nat)}{js:List Nat}(I:kE mask hs ow js)(hk:mask+1=2^k)(h:Int){L0:Nat}(h0:(fJ mask h L0).1∉js):∀(fuel L:Nat),L<=L0->L0<L+fuel->(∀m,m<lO mask h L->(bF mask h m).j∈js)->
  ∃n,SetTable.layClean.free mask ow fuel (fJ mask h L).1 (fJ mask h L).2=some (bF mask h n).j/\(bF mask h n).j<=mask/\(bF mask h n).j∉js/\∀m,m<n->(bF mask h m).j∈js
 |0,L,h1,h2,_=>bQ h2 (by lia)
 |fuel+1,L,h1,h2,hb=>by
  have hi:=KC mask h L;have run:=Ga mask h L;have hmr:SetTable.runEnd mask (fJ mask h L).1+1 - (fJ mask h L).1=nZ mask (fJ mask h L).1+1:=by
   unfold nZ SetTable.runEnd;split <;> lia
  have wH:=KA hi;have step:SetTable.layClean.free mask ow (fuel+1) (fJ mask h L).1 (fJ mask h L).2=(match(List.range (nZ mask (fJ mask h L).1+1)).find? λk=>(ow.getD ((fJ mask h L).1+k) (some 0)).isNone with
    |some k=>some ((fJ mask h L).1+k)
    |none=>SetTable.layClean.free mask ow fuel (fJ mask h (L+1)).1 (fJ mask h (L+1)).2):=by
   conv=>lhs;unfold SetTable.layClean.free
   rw[hmr];rfl
  rw[step];cases q:(List.range (nZ mask (fJ mask h L).1+1)).find? λk=>(ow.getD ((fJ mask h L).1+k) (some 0)).isNone with
  |some d=>
   obtain⟨p1,p2,p3⟩:=List.find?_range_eq_some.mp q;have hd:d<=nZ mask (fJ mask h L).1:=by have:=oz.mp p2;lia
   have ej:(bF mask h (lO mask h L+d)).j=(fJ mask h L).1+d:=by rw[run d hd];rfl
   refine⟨lO mask h L+d,by rw[ej],by rw[ej];lia,by rw[ej];exact(I.Aa (by lia)).mp p1,λm hm=>?_⟩
   by_cases c:m<lO mask h L
   .exact hb m c
   .obtain⟨d',e⟩:∃d',m=lO mask h L+d':=⟨m - lO mask h L,by lia⟩
    subst e;have e2:(bF mask h (lO mask h L+d')).j=(fJ mask h L).1+d':=by rw[run d' (by lia)];rfl
    have:=p3 d' (by lia)
    rw[e2];apply oC;intro z;rw[(I.Aa (by lia)).mpr z] at this
    cases this
  |none=>
   have p:=List.find?_range_eq_none.mp q;have Aa:∀d,d<=nZ mask (fJ mask h L).1->(fJ mask h L).1+d∈js:=λd hd=>by
    have:=p d (by lia)
    apply oC;intro z;rw[(I.Aa (by lia)).mpr z] at this
    cases this
   have ne:L≠L0:=λe=>by
    subst e;have:=Aa 0 (kr _);rw[EN] at this;exact h0 this
   refine Qe I hk h h0 fuel (L+1) (by lia) (by lia) λm hm=>?_
   have hm:m<lO mask h L+nZ mask (fJ mask h L).1+1:=hm;by_cases c:m<lO mask h L
   .exact hb m c
   .obtain⟨d',e⟩:∃d',m=lO mask h L+d':=⟨m - lO mask h L,by lia⟩
    subst e;have e2:(bF mask h (lO mask h L+d')).j=(fJ mask h L).1+d':=by rw[run d' (by lia)];rfl
    rw[e2];exact Aa d' (by lia)
def kE.next(I:kE mask hs ow js)(hk:mask+1=2^k)(h:Int)(hl:hs.length<=mask):
  ∃j,SetTable.layClean.free mask ow (SetTable.turns mask) (SetTable.bits h%(mask+1)) (SetTable.bits h)=some j/\kE mask (hs++[h]) (ow.setIfInBounds j (some hs.length)) (js++[j]):=by
 have:∃j,j<mask+1/\j∉js:=by
  apply oC;intro c;have:=GC (mask+1) js λj hj=>oC λq=>c ⟨j,hj,q⟩
  rw[I.len] at this;lia
 obtain⟨j0,hj0,hn0⟩:=this;obtain⟨L,hL,eL⟩:=Qa hk h j0 (by lia)
 obtain⟨n,e,h1,h2,h3⟩:=Qe I hk h (L0:=L) (by rw[eL];exact hn0) (SetTable.turns mask) 0 (kr _) (by unfold SetTable.turns;lia) (λm hm=>bQ hm (Ay _))
 refine⟨_,e,?_⟩;generalize hj:(bF mask h n).j=j at *;have len:=I.len;refine⟨by rw[Array.size_setIfInBounds,I.DV],by rw[dy,dy,len];rfl,λj' k'=>?_,λk' h' j' e1 e2=>?_⟩
 .rw[Array.getElem?_setIfInBounds,I.DV];by_cases c:j=j'
  .subst c;rw[aJ rfl,aJ (by lia)]
   constructor
   .intro q;cases q;rw[<-len];simp
   .intro q;rcases EO k' js.length with z|z|z
    .rw[yX z] at q;exact bQ (jr q) h2
    .rw[z,len]
    .rw[yW (by lia)] at q
     have:=(eO.mp q).1;simp at this;lia
  .rw[aQ c,I.own];rcases EO k' js.length with z|z|z
   .rw[yX z]
   .subst z;constructor
    .intro q;have:=(eO.mp q).1;lia
    .intro q;simp at q;exact bQ q c
   .rw[yW (by lia)]
    constructor
    .intro q;have:=(eO.mp q).1;lia
    .intro q;have:=(eO.mp q).1;simp at this;lia
 .have up:∀y,y∈js->y∈js++[j]:=λy m=>jN _ m
  rcases EO k' js.length with z|z|z
  .rw[yX (by lia)] at e1
   rw[yX z] at e2;obtain⟨n',q1,q2⟩:=I.yi k' h' j' e1 e2;exact⟨n',q1,λm hm=>up _ (q2 m hm)⟩
  .subst z;rw[len] at e1;simp at e1 e2;subst e1;subst e2;exact⟨n,hj,λm hm=>up _ (h3 m hm)⟩
  .rw[yW (by lia)] at e2
   have:=(eO.mp e2).1;simp at this;lia
def BD(mask:Nat)(ax:Option (Array (Option Nat)×Nat))(h:Int):Option (Array (Option Nat)×Nat):=do
 let (ow,k) <-ax
 let j <-SetTable.layClean.free mask ow (SetTable.turns mask) (SetTable.bits h%(mask+1)) (SetTable.bits h)
 pure (ow.setIfInBounds j (some k),k+1)
theorem O_{mask k:Nat}(hk:mask+1=2^k):∀(rest hs:List Int) (ow:Array (Option Nat)) (js:List Nat),kE mask hs ow js->hs.length+rest.length<=mask+1->
  ∃HA LS,rest.foldl (BD mask) (some (ow,hs.length))=some (HA,hs.length+rest.length)/\kE mask (hs++rest) HA LS
 |[],hs,ow,js,I,_=>⟨ow,js,rfl,by rw[kZ];exact I⟩
 |h::rest,hs,ow,js,I,hl=>by
  rw[hX] at hl;obtain⟨j,e,I2⟩:=I.next hk h (by lia)
  have e1:BD mask (some (ow,hs.length)) h=some (ow.setIfInBounds j (some hs.length),(hs++[h]).length):=by
   unfold BD;show(SetTable.layClean.free mask ow _ _ _).bind _=_;rw[e];show some (_,hs.length+1)=_;rw[dy];rfl
  obtain⟨HA,LS,e2,I3⟩:=O_ hk rest (hs++[h]) _ _ I2 (by rw[dy];simp;lia)
  refine⟨HA,LS,?_,by rw[gz] at I3;exact I3⟩
  rw[M4,e1,e2,dy,hX];simp;lia
def Uy(hk:mask+1=2^k)(hashes:Array Int)(hl:hashes.size<=mask+1):∃ow js,SetTable.layClean mask hashes=some ow/\kE mask hashes.toList ow js:=by
 have I0:kE mask [] (Array.replicate (mask+1) none) []:=⟨Array.size_replicate,rfl,λj k=>by
  rw[Array.getElem?_replicate];constructor
  .intro q;split at q
   .cases q
   .cases q
  .intro q;simp at q,λk h j e1 e2=>by simp at e2⟩
 obtain⟨ow,js,e,I⟩:=O_ hk hashes.toList [] _ [] I0 (by simpa using hl)
 refine⟨ow,js,?_,by simpa using I⟩
 unfold SetTable.layClean;rw[<-Array.foldl_toList];show((hashes.toList.foldl (BD mask) (some (Array.replicate (mask+1) none,0))).map (·.1))=_
 have e:hashes.toList.foldl (BD mask) (some (Array.replicate (mask+1) none,0))=_:=e;rw[e];rfl
def kS(mask:Nat)(ow:Array (Option Nat)):List (Nat×Nat):=(List.range (mask+1)).filterMap λj=>(ow.getD j none).map (j,·)
def W9(I:kE mask hs ow js)(j k:Nat):(j,k)∈kS mask ow↔js[k]?=some j:=by
 unfold kS;rw[vE];constructor
 .rintro⟨j',h1,h2⟩;obtain⟨k',e1,e2⟩:=iM.mp h2;cases e2;rw[<-I.own,<-e1,HR];cases q:ow[j]? with
  |none=>rw[HR,q] at e1;cases e1
  |some o=>rfl
 .intro e;have o:=(I.own j k).mpr e;have hl:=(tU.mp o).1;rw[I.DV] at hl;refine⟨j,oz.mpr hl,?_⟩;rw[HR,o];rfl
def W_(mask:Nat)(ow:Array (Option Nat)):(kS mask ow).Pairwise λa b=>a.1<b.1:=by
 unfold kS;rw[List.pairwise_filterMap];refine List.pairwise_lt_range.imp λ{a b} h x hx y hy=>?_
 obtain⟨_,_,e1⟩:=iM.mp hx;obtain⟨_,_,e2⟩:=iM.mp hy;cases e1;cases e2;exact h
def e6a{α:Type}{R:α->α->Prop}{l:List α}(h:l.Pairwise R){a b:α}(Dp:i<k)(e1:l[i]?=some a)(e2:l[k]?=some b):R a b:=by
 obtain⟨h1,g1⟩:=eO.mp e1;obtain⟨h2,g2⟩:=eO.mp e2;have:=List.pairwise_iff_getElem.mp h i k h1 h2 Dp;rw[g1,g2] at this;exact this
theorem Ra{α β:Type}{f:α->Option β}:∀(l:List α),(∀x,x∈l->∃y,f x=some y)->∀(i:Nat) (x:α),l[i]?=some x->(l.filterMap f)[i]?=f x
 |[],_,i,x,e=>by simp at e
 |a::l,h,i,x,e=>by
  obtain⟨y,hy⟩:=h a (by simp)
  rw[yV,hy];dsimp only;cases i with
  |zero=>simp at e;subst e;rw[List.getElem?_cons_zero,hy]
  |succ i=>
   rw[EJ] at e ⊢;exact Ra l (λx hx=>h x (by simp[hx])) i x e
theorem Rb{α β:Type}{f:α->Option β}:∀(l:List α),(∀x,x∈l->∃y,f x=some y)->(l.filterMap f).length=l.length
 |[],_=>rfl
 |a::l,h=>by
  obtain⟨y,hy⟩:=h a (by simp)
  rw[yV,hy];dsimp only;rw[hX,hX,Rb l λx hx=>h x (by simp[hx])]
def YK{fg mv:Nat}{ld pl:Bool}(hk3:3<=k)(hk:mask+1=2^k)(es:Array (Int×Value))(hl:es.size<=mask):
  ∃t order,SetTable.laid mask fg mv ld pl (es.map (·.1))=some (t,order)/\(order.filterMap (es[·]?)).size=es.size/\t.mask=mask/\iQ t (order.filterMap (es[·]?))/\∀e,e∈(order.filterMap (es[·]?)).toList↔e∈es.toList:=by
 obtain⟨ow,js,e,I⟩:=Uy hk (es.map (·.1)) (by rw[Array.size_map];lia)
 have lm:=W9 I;have S2:=W_ mask ow;have hjs:js.length=es.size:=by rw[I.len,uy,Array.size_map]
 generalize hL:kS mask ow=L at *;have LK:∀p,p∈L->p.2<es.size:=λp hp=>by
  have:=(lm p.1 p.2).mp hp;have:=(eO.mp this).1;lia
 have all:∀x,x∈L.map (·.2)->∃y,es[x]?=some y:=λx hx=>by
  obtain⟨p,hp,rfl⟩:=gA.mp hx;exact⟨es[p.2]'(LK p hp),pI _⟩
 have n1:L.length<=js.length:=by
  have nd:(L.map (·.1)).Nodup:=(M5.mpr (S2.imp λh=>ly h))
  have:=Qd (L.map (·.1)) js nd λx hx=>by
   obtain⟨p,hp,rfl⟩:=gA.mp hx;exact jr ((lm p.1 p.2).mp hp)
  rw[bz] at this;exact this
 have n2:es.size<=L.length:=by
  have:=GC es.size (L.map (·.2)) λj hj=>by
   have e2:js[j]?=some (js[j]'(by lia)):=eP _
   exact gA.mpr ⟨_,(lm _ j).mpr e2,rfl⟩
  rw[bz] at this;exact this
 have Sq:L.length=es.size:=by lia
 have fl:((L.map (·.2)).toArray.filterMap (es[·]?)).toList=(L.map (·.2)).filterMap (es[·]?):=by rw[Array.toList_filterMap]
 have fs:((L.map (·.2)).toArray.filterMap (es[·]?)).size=es.size:=by
  rw[<-uy,fl,Rb _ all,bz,Sq]
 refine⟨SetTable.mk mask (L.map (·.1)).toArray #[] fg ld mv pl,(L.map (·.2)).toArray,?_,fs,rfl,⟨rfl,?_,⟨k,hk3,hk⟩,?_,?_,?_,?_⟩,?_⟩
 .unfold SetTable.laid;rw[e];show some (SetTable.mk mask ((kS mask ow).map (·.1)).toArray #[] fg ld mv pl,((kS mask ow).map (·.2)).toArray)=_
  rw[hL]
 .rw[fs];show(L.map (·.1)).toArray.size=_
  rw[fH,bz,Sq]
 .intro i k u v Dp e1 e2;have e1:(L.map (·.1)).toArray[i]?=some u:=e1
  have e2:(L.map (·.1)).toArray[k]?=some v:=e2
  rw[List.getElem?_toArray,i7] at e1 e2;obtain⟨a,ea,rfl⟩:=iM.mp e1;obtain⟨b,eb,rfl⟩:=iM.mp e2;exact e6a S2 Dp ea eb
 .intro i v e1;have e1:(L.map (·.1)).toArray[i]?=some v:=e1
  rw[List.getElem?_toArray,i7] at e1;obtain⟨a,ea,rfl⟩:=iM.mp e1;have o:=(I.own a.1 a.2).mpr ((lm a.1 a.2).mp (jr ea));have hl:=(tU.mp o).1;rw[I.DV] at hl;show a.1<=mask;lia
 .rw[fs];exact hl
 .intro i v e1 g1 g2;have g1:(L.map (·.1)).toArray[i]?=some v:=g1
  rw[List.getElem?_toArray,i7] at g1;obtain⟨a,ea,rfl⟩:=iM.mp g1;rw[<-mr,fl,Ra _ all i a.2 (by rw[i7,ea];rfl)] at g2
  obtain⟨n,q1,q2⟩:=I.yi a.2 e1.1 a.1 (by rw[mr,Array.getElem?_map,g2];rfl) ((lm a.1 a.2).mp (jr ea))
  refine⟨n,q1,λm hm=>?_⟩
  have:=q2 m hm;obtain⟨k',sH,e'⟩:=HS this;show _∈L.map (·.1)
  exact gA.mpr ⟨(_,k'),(lm _ k').mpr (by rw[eP sH,e']),rfl⟩
 .intro x;rw[fl,vE];constructor
  .rintro⟨k',h1,h2⟩;rw[<-mr] at h2;exact jr h2
  .intro hx;obtain⟨k',sH,e'⟩:=HS hx;rw[uy] at sH;refine⟨k',gA.mpr ⟨(js[k']'(by lia),k'),(lm _ k').mpr (eP _),rfl⟩,?_⟩
   rw[<-mr,eP (by rw[uy];exact sH),e']
theorem O'(n:Nat):∀(fuel k:Nat),n<2^(k+fuel)->∃k',k<=k'/\SetTable.sizeAbove.go n fuel (2^k)=2^k'/\n<2^k'/\(2^k'<=2*n\/k'=k)
 |0,k,h=>⟨k,cJ _,rfl,by simpa using h,.inr rfl⟩
 |fuel+1,k,h=>by
  unfold SetTable.sizeAbove.go;by_cases c:2^k<=n
  .rw[aJ c,<-EL];obtain⟨k',h1,h2,h3,h4⟩:=O' n fuel (k+1) (by rw[show k+1+fuel=k+(fuel+1) from by lia];exact h)
   refine⟨k',by lia,h2,h3,.inl ?_⟩
   rcases h4 with h4|h4
   .exact h4
   .rw[h4,EL];lia
  .rw[aQ c];exact⟨k,cJ _,rfl,by lia,.inr rfl⟩
def W'{n:Nat}(h:n<2^60):∃k,3<=k/\SetTable.sizeAbove n=2^k/\n<2^k/\2^k<=2*n+8:=by
 obtain⟨k,h1,h2,h3,h4⟩:=O' n 64 3 (Nat.lt_trans h (by decide))
 refine⟨k,h1,h2,h3,?_⟩;rcases h4 with h4|h4
 .lia
 .subst h4;lia
end L2
namespace L2
open PySem PySem.Spec PyProof.Rows
variable{A:Around}{E:Value->Shared->Prop}{s z:Shared}{hp:Heap}{Q:Bool->Shared->Prop}{k:TK}{ks:List TK}{ys:List V}{vs:List Value}{S l:Addr}{i:Nat}{p p1 og:Pos}{H:Hp}
structure EV (P:Program) (w:World) (A:Around) (E:Value->Shared->Prop) (s:Shared) (a:Addr) (o:Obj) (es:Array (Int×Value)) (ep:Nat) (t:SetTable) (x:Value) (h:Int) (eqv:Int×Value->Bool):Prop where
 ho:s.heap.get? a=some o
 hd:o.data=.set es ep t
 tab:iQ t es
 rf:∀e,e∈es.toList->∃b,e.2=.ref b
 eqs:∀e,e∈es.toList->e.1=h->∀(R:Bool->Shared->Prop),R (eqv e) s->wpAny (model P w) A (eqBool e.2 x) R E s
 seen:∀(l:List Value),(∀y,y∈l->∃e,e∈es.toList/\e.2=y)->∀(R:Bool->Shared->Prop),R false s->wpAny (model P w) A (searchCouldBeSeen x l) R E s
def YL{α:Type}{M:Model}{c:Prop}[Decidable c]{m:Sem Bool}{u r:Sem α}{Q:α->Shared->Prop}(h1:c->∀(R:Bool->Shared->Prop),R false s->wpAny M A m R E s)(h:wpAny M A r Q E s):
  wpAny M A (if c then m >>= λb=>if b=true then u else r else r) Q E s:=by
 by_cases z:c
 .rw[aJ z];refine aB (h1 z _ ?_);rw[aQ (by decide)]
  exact h
 .rw[aQ z];exact h
section
variable{P:Program}{w:World}{A:Around}{E:Value->Shared->Prop}{s:Shared}{a:Addr}{o:Obj}{es:Array (Int×Value)}{ep:Nat}{t:SetTable}{x:Value}{h:Int}{eqv:Int×Value->Bool}
def Rc{es':Array (Int×Value)}{t':SetTable}(ho:hp.get? a=some o)(hd:o.data=.set es ep t):(hp.update a (Obj.putSet es' t')).get? a=some { o with data:=.set es' (ep+1) t'}/\Heap.SameBut a hp (hp.update a (Obj.putSet es' t')):=by
 have z:=vG (Obj.putSet es' t') ho (by rw[putSet_of es' t' hd];rfl)
 rw[putSet_of es' t' hd] at z;exact⟨z,Heap.SameBut.update _ a _⟩
def xU(t:SetTable)(h:Int)(m:Nat):Prop:=(bF t.mask h m).j∉t.place.toList
def BY(t:SetTable)(es:Array (Int×Value))(h:Int)(eqv:Int×Value->Bool)(m:Nat):Prop:=∃(i:Nat) (e:Int×Value),t.place[i]?=some (bF t.mask h m).j/\es[i]?=some e/\e.1=h/\eqv e=true
def Rf(t:SetTable)(es:Array (Int×Value))(h:Int)(m:Nat):Prop:=∃(i:Nat) (e:Int×Value),t.place[i]?=some (bF t.mask h m).j/\es[i]?=some e/\e.1=h
def GY(S:EV P w A E s a o es ep t x h eqv){Q:(Array (Int×Value)×Nat×SetTable)->Shared->Prop}(q:Q (es,ep,t) s):wpAny (model P w) A (setState a) Q E s:=wpAny_setState_of S.ho S.hd S.tab.fits q
theorem Nw(S:EV P w A E s a o es ep t x h eqv){N:Nat}(hN:N<10*(t.mask+14)){R:SetFound->Shared->Prop}(stop:xU t h N\/BY t es h eqv N)(before:∀m,m<N->¬xU t h m/\¬BY t es h eqv m)
  (q1:xU t h N->R (.free (bF t.mask h N).j false) s) (q2:BY t es h eqv N->R (.there none) s):∀(fuel n:Nat) (qg:Option SetTable.Probe),n<=N->N<n+fuel->qg.getD (t.probeStart h)=bF t.mask h n->wpAny (model P w) A (setSearchFrom a x h true fuel qg) R E s
 |0,n,qg,hn,hf,_=>bQ hf (by lia)
 |fuel+1,n,qg,hn,hf,hs=>by
  have T:=S.tab;obtain⟨d,rfl⟩:∃d,N=n+d:=⟨N - n,by lia⟩
  have pN:xU t h (n+d)\/Rf t es h (n+d):=stop.imp id λ⟨i,e,e1,e2,e3,_⟩=>⟨i,e,e1,e2,e3⟩
  obtain⟨M,hM1,hM2,hM3,hM4⟩:=Kc (p:=λm=>xU t h m\/Rf t es h m) d n pN
  obtain⟨c,rfl⟩:∃c,M=n+c:=⟨M - n,by lia⟩
  have L_:∀m,n<=m->m<n+c->∃i,t.slot (bF t.mask h m).j=.live i/\((λi=>(es[i]?.map (·.1)).getD 0) i == h)=false:=λm h1 h2=>by
   have no:=hM4 m h1 h2;rcases UT T.inc T.yg (bF t.mask h m).j with⟨z,_⟩|⟨i,e1,e2⟩
   .exact bQ (.inl z) no
   .refine⟨i,e2,?_⟩;have hl:i<es.size:=by rw[<-T.sz];exact(tU.mp e1).1
    have ei:es[i]?=some es[i]:=pI hl;dsimp only;rw[ei,pK];intro z;exact no (.inr ⟨i,es[i],e1,ei,z⟩)
  obtain⟨g1,g2⟩:=Qc (t:=t) (ha:=λi=>(es[i]?.map (·.1)).getD 0) (h:=h) c n (10*SetTable.turns t.mask) (by unfold SetTable.turns;lia) L_
  unfold setSearchFrom;refine aB (GY S ?_);dsimp only;rw[T.way];simp only[lA,bS];rw[hs];rcases hM3 with z|⟨i,e,e1,e2,e3⟩
  .have hM:n+c=n+d:=by
    by_cases k:n+c=n+d
    .exact k
    .exact bQ z (before (n+c) (by lia)).1
   have g1:t.probe (λi=>(es[i]?.map (·.1)).getD 0) h (bF t.mask h n)=_:=g1 (Qb T.inc T.yg z)
   erw [g1]
   dsimp only;refine bh ?_;rw[hM] at z ⊢;exact q1 z
  .have sl:=JC T.inc e1;have he:e∈es.toList:=jr (by rw[mr];exact e2)
   obtain⟨b,hb⟩:=S.rf e he;have g2:t.probe (λi=>(es[i]?.map (·.1)).getD 0) h (bF t.mask h n)=_:=g2 i sl (by rw[e2];simp[e3])
   erw [g2]
   dsimp only;refine YL (λ_ R hR=>S.seen _ (λy hy=>?_) R hR) ?_
   .obtain⟨f,hf,rfl⟩:=gA.mp hy;have hf:f∈es/\f.1=h:=by simpa using hf
    exact⟨f,by simpa using hf.1,rfl⟩
   rw[e2];dsimp only;refine aB (mZ (S.eqs e he e3 _ ?_));refine aB (GY S ?_);dsimp only;by_cases k:eqv e=true
   .rw[k];simp only[EK,aX];have sm:BY t es h eqv (n+c):=⟨i,e,e1,e2,e3,k⟩;have hM:n+c=n+d:=by
     by_cases k:n+c=n+d
     .exact k
     .exact bQ sm (before (n+c) (by lia)).2
    rw[hM] at sm;exact bh (q2 sm)
   .have k:eqv e=false:=by cases q:eqv e with|true=>exact bQ q k|false=>rfl
    rw[k];simp only[Ao,lA,bS];have hsm:t.sameMemory t.moves t.mask=some true:=by unfold SetTable.sameMemory;simp
    rw[hsm];dsimp only;rw[aJ rfl,sl];dsimp only;rw[e2];dsimp only;rw[hb];refine aB (wpAny_isSame_ref_self (aB (bh ?_)));rw[aJ rfl];dsimp only;have ne:n+c≠n+d:=λz=>by
     rcases stop with y|⟨i',f,f1,f2,f3,f4⟩
     .rw[<-z] at y;exact y (jr (by rw[mr];exact e1))
     .rw[<-z] at f1;have:=JC T.inc f1;rw[sl] at this;cases this;rw[e2] at f2;cases f2;rw[k] at f4;cases f4
    exact Nw S hN stop before q1 q2 fuel (n+c+1) _ (by lia) (by lia) rfl
def VN(S:EV P w A E s a o es ep t x h eqv)(hm:t.mask<9000){R:SetFound->Shared->Prop}
  (q1:(∀e,e∈es.toList->e.1=h->eqv e=false)->∀N,(bF t.mask h N).j∉t.place.toList->(∀m,m<N->(bF t.mask h m).j∈t.place.toList)->R (.free (bF t.mask h N).j false) s)
  (q2:(∃e,e∈es.toList/\e.1=h/\eqv e=true)->R (.there none) s):wpAny (model P w) A (setSearch a x h true) R E s:=by
 have T:=S.tab;obtain⟨N0,hN0,hole⟩:=T.hole h;obtain⟨N,_,hN,stop,before⟩:=Kc (p:=λm=>xU t h m\/BY t es h eqv m) N0 0 (by rw[As];exact .inl hole)
 rw[As] at hN;refine Nw S (N:=N) (by lia) stop (λm hm=>not_or.mp (before m (kr _) hm)) (λz=>?_) (λ⟨i,e,e1,e2,e3,e4⟩=>q2 ⟨e,jr (by rw[mr];exact e2),e3,e4⟩) 100000 0 none (kr _) (by lia) rfl
 have Jp:∀m,m<N->(bF t.mask h m).j∈t.place.toList:=λm hm=>oC λc=>before m (kr _) hm (.inl c)
 refine q1 (λe he eh=>?_) N z Jp
 cases q:eqv e with
 |false=>rfl
 |true=>
  obtain⟨i,hi,ei⟩:=HS he;have e2:es[i]?=some e:=by rw[<-mr,eP hi,ei]
  have hp:i<t.place.size:=by rw[T.sz];simpa using hi
  have e1:t.place[i]?=some t.place[i]:=pI hp;obtain⟨n,g1,g2⟩:=T.yi i _ e e1 e2;rw[eh] at g1 g2;rcases Nat.lt_or_ge N n with c|c
  .exact bQ (g2 N c) z
  .rcases Nat.lt_or_eq_of_le c with c|c
   .exact bQ (.inr ⟨i,e,by rw[g1];exact e1,e2,eh,q⟩) (before n (kr _) c)
   .rw[<-c,xU,g1] at z;exact bQ (jr (by rw[mr];exact e1)) z
def e6b(mask:Nat)(h:Int)(n:Nat):(bF mask h n).j+(bF mask h n).more<=mask:=by
 induction n with
 |zero=>exact KA (KC mask h 0)
 |succ n ih=>
  show(lK mask (bF mask h n)).j+(lK mask (bF mask h n)).more<=mask;unfold lK;split
  .dsimp only;lia
  .dsimp only;exact KA (Nat.le_of_lt_succ (Nat.mod_lt _ (by lia)))
def e6c(S:EV P w A E s a o es ep t x h eqv)(hm:t.mask<9000)(room:es.size*5<t.mask*3)(hx:∃b,x=.ref b)(hv:∀(R:Bool->Shared->Prop),(∀b,R b s)->wpAny (model P w) A (hashByValue 8 x) R E s)
  (q2:(∃e,e∈es.toList/\e.1=h/\eqv e=true)->Q false s)
  (q1:(∀e,e∈es.toList->e.1=h->eqv e=false)->∀(es':Array (Int×Value)) (yh:Nat) (t':SetTable),iQ t' es'->es'.size*5<t'.mask*3->(t'.mask<=t.mask\/t'.mask<=8*es.size+15)->es'.size=es.size+1->(∀e,e∈es'.toList↔e=(h,x)\/e∈es.toList)->
   ∀h',Heap.SameBut a s.heap h'->h'.get? a=some { o with data:=.set es' yh t'}->Q true { s with heap:=h'}):wpAny (model P w) A (setAddHashed a x h) Q E s:=by
 have T:=S.tab;obtain⟨b,rfl⟩:=hx;unfold setAddHashed setAddHashedIn;refine mZ (aB (GY S ?_));dsimp only;have hb:byScan (.ref b) es=false:=rfl;rw[hb];simp only[lA,bS];refine aB (VN S hm (λno N hN Jp=>?_) λyes=>?_)
 .dsimp only;refine aB (GY S ?_);dsimp only;obtain⟨p1,p2,p3⟩:=T.put (x:=.ref b) hN Jp (by have:=e6b t.mask h N;lia) (by lia)
  have ip:=SetTable.insertAt_perm es (t.put (bF t.mask h N).j).2 (h,Value.ref b);have im:=O9 es (t.put (bF t.mask h N).j).2 (h,Value.ref b);generalize t.put (bF t.mask h N).j=tp at *;obtain⟨t1,p⟩:=tp;dsimp only at *;generalize SetTable.insertAt es p (h,Value.ref b)=pZ at *;have Af:pZ.size=es.size+1:=by
   have:=ip.length_eq;simpa using this
  have step:∀(b1:Bool),wpAny (model P w) A (do
    storeSet a pZ (if b1 then t1 else{ t1 with plain:=false})
    if !false&&(if b1 then t1 else{ t1 with plain:=false}:SetTable).tooFull then setRelay a (SetTable.grown (es.size+1))
    return true) Q E s:=by
   intro b1;have T1:iQ (if b1 then t1 else{ t1 with plain:=false}:SetTable) pZ:=by
    cases b1 with
    |true=>exact p3
    |false=>exact⟨p3.yg,p3.sz,p3.pw,p3.inc,p3.le,p3.lt,p3.yi⟩
   have m1:(if b1 then t1 else{ t1 with plain:=false}:SetTable).mask=t.mask:=by cases b1 <;> exact p2
   generalize(if b1 then t1 else{ t1 with plain:=false}:SetTable)=t2 at *
   have k0:pZ.size<=sizeLine:=by rw[sizeLine_eq];lia
   refine aB (wpAny_storeSet_of S.ho S.hd ?_ k0);obtain⟨g1,w9⟩:=Rc (es':=pZ) (t':=t2) S.ho S.hd;have fl:t2.fill=pZ.size:=by unfold SetTable.fill;rw[T1.yg,T1.sz];rfl
   by_cases c:t2.tooFull=true
   .rw[c];simp only[lD,EK,aX];have hw:SetTable.grown (es.size+1)=(es.size+1)*4:=by unfold SetTable.grown;rw[aQ (by lia)]
    rw[hw];obtain⟨k,k3,ek,k1,k2⟩:=W' (n:=(es.size+1)*4) (by lia)
    obtain⟨t3,order,el,ez,em,T3,me⟩:=YK (mask:=2^k - 1) (k:=k) (fg:=t2.finger) (mv:=t2.movedTo (2^k - 1)) (ld:=t2.led) (pl:=t2.plain) k3 (by lia) pZ (by lia)
    refine aB ?_;unfold setRelay;refine aB (wpAny_setState_of g1 rfl T1.fits ?_);dsimp only;rw[ek,aQ (by rw[sizeLine_eq];lia)]
    have er:t2.relaid (pZ.map (·.1)) ((es.size+1)*4)=some (t3,order):=by
     unfold SetTable.relaid;rw[ek];exact el
    rw[er];refine aB ?_;show wpAny _ _ (if(order.filterMap (pZ[·]?)).size != pZ.size then _ else pure (order.filterMap (pZ[·]?),t3)) _ _ _
    rw[ez];simp only[bne_self_eq_false,lA,bS];generalize order.filterMap (pZ[·]?)=Si at *
    refine bh ?_;dsimp only;refine wpAny_storeSet_of g1 rfl ?_ (by rw[ez];exact k0)
    obtain⟨g3,Eh⟩:=Rc (es':=Si) (t':=t3) g1 rfl;refine bh (q1 no Si _ t3 T3 ?_ ?_ (ez.trans Af) (λe=>(me e).trans (im e)) _ (w9.trans Eh) g3)
    .rw[ez,em];lia
    .right;rw[em];lia
   .have c':t2.tooFull=false:=by cases q:t2.tooFull with|true=>exact bQ q c|false=>rfl
    rw[c'];simp only[Ao,lA,bS];have c2:pZ.size*5<t2.mask*3:=by
     unfold SetTable.tooFull at c';rw[fl,decide_eq_false_iff_not] at c';lia
    exact bh (q1 no pZ _ t2 T1 c2 (.inl (by lia)) Af im _ w9 g1)
  split
  .refine aB (hv _ λb1=>?_)
   exact step b1
  .exact aB (bh (step true))
 .dsimp only;exact bh (q2 yes)
end
def pT(ax:List TK)(k:TK):List TK:=if k∈ax then ax else ax++[k]
def dk(l:List TK):List TK:=l.foldl pT []
def YM(l:List TK)(k:TK):dk (l++[k])=pT (dk l) k:=by unfold dk;rw[List.foldl_append];rfl
theorem Qf:∀(l ax:List TK) (k:TK),k∈l.foldl pT ax↔k∈ax\/k∈l
 |[],ax,k=>by simp
 |a::l,ax,k=>by
  rw[M4,Qf l,eC];unfold pT;split
  .rename_i h
   exact⟨λq=>q.imp id .inr,λq=>q.elim .inl λq=>q.elim (λq=>.inl (by rw[q];exact h)) .inr⟩
  .rw[eI,jD,or_assoc]
def Rg(l:List TK)(k:TK):k∈dk l↔k∈l:=by unfold dk;rw[Qf];simp
section
variable{X:Cx}{ae:List (Addr×Obj)}{Z:St}{H:Hp}
def Qg:∀(n:Nat) {A:Around} {E:Value->Shared->Prop} {s:Shared} {y:V} {u:Value} {k:TK} {Q:Bool->Shared->Prop},Inv X ae Z H s->aj X.K H [y] [k.d]->k.ok n=true->RelV y u->Q false s->
  wpAny (model X.prog X.w) A (ofAClassStatement n u) Q E s:=by
 intro n
 induction n with
 |zero=>
  intro A E s y u k Q I r ok ru h;cases k with
  |tp l=>simp[TK.ok] at ok
  |inl i=>simp only[TK.d] at r;cases r with|flat q _=>cases q;obtain⟨t,rfl⟩:=ru;exact bh h
  |inr i=>simp only[TK.d] at r;cases r with|flat q _=>cases q;obtain⟨t,rfl⟩:=ru;exact bh h
 |succ n ih=>
  intro A E s y u k Q I r ok ru h;cases k with
  |inl i=>simp only[TK.d] at r;cases r with|flat q _=>cases q;obtain⟨t,rfl⟩:=ru;exact bh h
  |inr i=>simp only[TK.d] at r;cases r with|flat q _=>cases q;obtain⟨t,rfl⟩:=ru;exact bh h
  |tp l=>
   simp only[TK.d] at r;cases r with
   |flat q _=>cases q
   |@tup a ws _ _ _ q i _=>
    cases ru;obtain⟨ay,rv,pl,_⟩:=I.tuple q;have hT:s.TypeIs (.ref a) "tuple":=pl.typeIs;obtain⟨o,g1,g2,nn,g3⟩:=pl;have ok:l.all (TK.ok n)=true:=by simpa only[TK.ok] using ok
    unfold ofAClassStatement;refine aB (wpAny_typeOf hT ?_);dsimp only;rw[aJ (by decide)]
    refine aB (bh ?_);simp only[iL,lA,bS];refine aB (wpAny_seqItems g1 g3 ?_);dsimp only;refine aB ?_;show wpAny _ _ (forIn ay.toArray _ _) _ _ s;rw[<-MX];refine wpAny_forIn_list _ (λrest r s'=>r.1=none/\s'=s/\∃left wl,aj X.K H wl (TK.dl left)/\Vals wl rest/\∀x∈left,x.ok n=true) _ ?_ ?_ _ _ ⟨rfl,rfl,l,ws,i,rv,λx m=>lB.mp ok x m⟩
    .rintro v rest r s' ⟨hr,rfl,left,wl,r',v',hk⟩;cases v' with
     |@cons w1 _ wl _ yQ v'=>
      cases left with
      |nil=>have:=r'.length;simp[TK.dl] at this
      |cons k1 left=>
       simp only[TK.dl] at r';refine aB (ih I r'.inv.1 (hk k1 (by simp)) yQ ?_)
       simp only[lA,bS];exact bh ⟨rfl,rfl,left,wl,r'.inv.2,v',λx m=>hk x (by simp[m])⟩
    .rintro⟨r1,r2⟩ s' ⟨hr,rfl,_⟩;cases(show r1=none from hr);exact bh h
def YN:∀(n:Nat) {A:Around} {E:Value->Shared->Prop} {s:Shared} {y:V} {u:Value} {k:TK} {Q:Bool->Shared->Prop},Inv X ae Z H s->aj X.K H [y] [k.d]->k.ok n=true->RelV y u->(∀b,Q b s)->
  wpAny (model X.prog X.w) A (hashByValue n u) Q E s:=by
 intro n
 induction n with
 |zero=>
  intro A E s y u k Q I r ok ru h;cases k with
  |tp l=>simp[TK.ok] at ok
  |inl i=>simp only[TK.d] at r;cases r with|flat q _=>cases q;obtain⟨t,rfl⟩:=ru;exact bh (h _)
  |inr i=>simp only[TK.d] at r;cases r with|flat q _=>cases q;obtain⟨t,rfl⟩:=ru;exact bh (h _)
 |succ n ih=>
  intro A E s y u k Q I r ok ru h;cases k with
  |inl i=>simp only[TK.d] at r;cases r with|flat q _=>cases q;obtain⟨t,rfl⟩:=ru;exact bh (h _)
  |inr i=>simp only[TK.d] at r;cases r with|flat q _=>cases q;obtain⟨t,rfl⟩:=ru;exact bh (h _)
  |tp l=>
   simp only[TK.d] at r;cases r with
   |flat q _=>cases q
   |@tup a ws _ _ _ q i _=>
    cases ru;obtain⟨ay,rv,pl,_⟩:=I.tuple q;have hT:s.TypeIs (.ref a) "tuple":=pl.typeIs;obtain⟨o,g1,g2,nn,g3⟩:=pl;have ok:l.all (TK.ok n)=true:=by simpa only[TK.ok] using ok
    unfold hashByValue;refine aB (wpAny_specialOf hT F.slot_tuple_hash.lookup ?_);dsimp only;refine aB (wpAny_seqItems g1 g3 ?_);refine aB ?_;show wpAny _ _ (forIn ay.toArray _ _) _ _ s;rw[<-MX];refine wpAny_forIn_list _ (λrest r s'=>s'=s/\∃left wl,aj X.K H wl (TK.dl left)/\Vals wl rest/\∀x∈left,x.ok n=true) _ ?_ ?_ _ _ ⟨rfl,l,ws,i,rv,λx m=>lB.mp ok x m⟩
    .rintro v rest r s' ⟨rfl,left,wl,r',v',hk⟩;cases v' with
     |@cons w1 _ wl _ yQ v'=>
      cases left with
      |nil=>have:=r'.length;simp[TK.dl] at this
      |cons k1 left=>
       simp only[TK.dl] at r';refine aB (ih I r'.inv.1 (hk k1 (by simp)) yQ λb=>?_)
       cases b with
       |true=>
        simp only[iL,lA,bS];exact bh ⟨rfl,left,wl,r'.inv.2,v',λx m=>hk x (by simp[m])⟩
       |false=>
        simp only[lD,aX];refine bh ?_;exact bh (h _)
    .rintro⟨r1,r2⟩ s' ⟨rfl,_⟩;cases r1 with
     |none=>exact bh (h _)
     |some b=>exact bh (h _)
def e8x{j:TK}(e:k.d=j.d):k=j:=by
 have h:=zg k j;rw[<-e,zg,fY rfl] at h;exact vJ h.symm
structure vK (X:Cx) (H:Hp) (ks:List TK) (ys:List V) (vs:List Value):Prop where
 rep:aj X.K H ys (ks.map TK.d)
 val:Vals ys vs
 ok:∀k,k∈ks->k.ok 8=true/\∃l,k=.tp l
theorem vK.at{ks:List TK}{ys:List V}{vs:List Value}(L:vK X H ks ys vs){j:Nat}{k:TK}(e:ks[j]?=some k):∃a,vs[j]?=some (.ref a)/\aj X.K H [.ref a] [k.d]:=by
 obtain⟨y,h1,h2⟩:=L.rep.get (i:=j) (d:=k.d) (by rw[i7,e];rfl)
 obtain⟨_,l,rfl⟩:=L.ok k (jr e);obtain⟨u,u1,u2⟩:=y7 j L.val h1;simp only[TK.d] at h2;cases h2 with
 |flat q _=>cases q
 |@tup a ws _ _ _ q i t=>
  cases u2;exact⟨a,u1,by simp only[TK.d];exact .tup q i .nil⟩
def vK.len(L:vK X H ks ys vs):vs.length=ks.length:=by
 have h1:=L.rep.length;have h2:=L.val.length;rw[bz] at h1;lia
def jl(es:Array (Int×Value))(ep:Nat)(t:SetTable):Obj:={ cls:=.type "set",dict:=none,data:=.set es ep t}
structure lF (X:Cx) (S:Addr) (ks:List TK) (vs:List Value) (i:Nat) (hp:Heap):Prop where
 obj:∃es ep t,hp.get? S=some (jl es ep t)/\iQ t es/\es.size*5<t.mask*3/\t.mask<=8*es.size+15/\es.size=(dk (ks.take i)).length/\es.size<=i/\
  (∀e,e∈es.toList->∃(j:Nat) (k:TK) (v:Value),ks[j]?=some k/\vs[j]?=some v/\e=(k.hash X.w,v)/\k∈ks.take i)/\
  ∀k,k∈ks.take i->∃e,e∈es.toList/\∃(j:Nat) (v:Value),ks[j]?=some k/\vs[j]?=some v/\e=(k.hash X.w,v)
def YO{v:Value}(L:vK X H ks ys vs)(I:Inv X ae Z H s)(hu:A.units+9<cLine)(Z:lF X S ks vs i s.heap)(hi:i<1000)
  (ek:ks[i]?=some k) (ev:vs[i]?=some v)  (q:∀(b:Bool) (h':Heap) (t':Nat),Heap.SameBut S s.heap h'->lF X S ks vs (i+1) h'->Q b { s with heap:=h',toks:=t'}):wpAny (model X.prog X.w) A (setAdd S v) Q E s:=by
 obtain⟨b,eb,rb⟩:=L.at ek;rw[ev] at eb;cases eb;obtain⟨ok,l,hl⟩:=L.ok k (jr ek);obtain⟨es,ep,t,g1,T,g2,g3,g4,g5,g6,g7⟩:=Z.obj;unfold setAdd;refine mZ (aB (IX 8 I rb ok rfl (by lia) λtk=>?_))
 have I':=I.tok tk;have take1:ks.take (i+1)=ks.take i++[k]:=by rw[List.take_succ,ek];rfl
 have RT:dk (ks.take (i+1))=pT (dk (ks.take i)) k:=by rw[take1,YM]
 have eqv:∀e,e∈es.toList->∃(j:Nat) (k':TK) (a:Addr),ks[j]?=some k'/\vs[j]?=some (.ref a)/\e=(k'.hash X.w,.ref a)/\k'∈ks.take i/\aj X.K H [.ref a] [k'.d]/\k'.ok 8=true:=λe he=>by
  obtain⟨j,k',v',h1,h2,h3,h4⟩:=g6 e he;obtain⟨a,a1,a2⟩:=L.at h1;rw[a1] at h2;cases h2;exact⟨j,k',a,h1,a1,h3,h4,a2,(L.ok k' (jr h1)).1⟩
 have key:∀{j j':Nat} {k1 k2:TK} {a:Addr},ks[j]?=some k1->ks[j']?=some k2->vs[j]?=some (.ref a)->vs[j']?=some (.ref a)->k1=k2:=λ{j j' k1 k2 a} h1 h2 h3 h4=>by
  obtain⟨a1,b1,c1⟩:=L.at h1;obtain⟨a2,b2,c2⟩:=L.at h2;rw[h3] at b1;rw[h4] at b2;cases b1;cases b2;exact e8x (Bw I 8 8 c1 c2 (t_ 8 (L.ok _ (jr h1)).1) (t_ 8 (L.ok _ (jr h2)).1))
 classical
 refine e6c (P:=X.prog) (w:=X.w) (s:={ s with toks:=tk}) (h:=k.hash X.w) (x:=.ref b) (o:=jl es ep t) (eqv:=λe=>decide (∃j:Nat,ks[j]?=some k/\vs[j]?=some e.2)) ⟨g1,rfl,T,λe he=>?_,λe he eh R hR=>?_,λst rA R hR=>?_⟩ (by lia) g2 ⟨b,rfl⟩ (λR hR=>YN 8 I' rb ok rfl hR) (λ⟨e,he,eh,ee⟩=>?_) λno es' yh t' T' r' m' z' me h' sb gh=>?_
 .obtain⟨j,k',a,_,_,rfl,_⟩:=eqv e he;exact⟨a,rfl⟩
 .obtain⟨j,k',a,h1,h2,rfl,h4,h5,h6⟩:=eqv e he;refine(zq I' 8 8 h5 rb (t_ 8 h6) (t_ 8 ok) rfl rfl (by lia)).1 X.prog X.w E R ?_
  rw[zg];have ee:decide (k'=k)=decide (∃j:Nat,ks[j]?=some k/\vs[j]?=some (Value.ref a)):=by
   rw[decide_eq_decide];exact⟨λz=>⟨j,by rw[<-z];exact h1,h2⟩,λ⟨j',z1,z2⟩=>key h1 z1 h2 z2⟩
  rw[ee];exact hR
 .unfold searchCouldBeSeen;refine aB (wpAny_forIn_list _ (λrest r s'=>r.1=none/\s'={ s with toks:=tk}/\∀y,y∈rest->∃e,e∈es.toList/\e.2=y) _ ?_ ?_ _ _ ⟨rfl,rfl,rA⟩)
  .rintro y rest r s' ⟨hr,rfl,hy⟩;obtain⟨e,he,rfl⟩:=hy _ (mW ..);obtain⟨j,k',a,h1,h2,rfl,h4,h5,h6⟩:=eqv e he;have DR:∀y,y∈rest->∃e,e∈es.toList/\e.2=y:=λy m=>hy y (oA _ m)
   dsimp only;split
   .exact bh ⟨rfl,rfl,DR⟩
   .refine aB (E' 8 I' rb ok rfl ?_);simp only[iL,lA,bS];refine aB (E' 8 I' h5 h6 rfl ?_);simp only[iL,lA,bS];refine aB (Qg 8 I' rb ok rfl ?_);simp only[lA,bS];refine aB (Qg 8 I' h5 h6 rfl ?_);simp only[lA,bS];exact bh ⟨rfl,rfl,DR⟩
  .rintro⟨r1,r2⟩ s' ⟨hr,rfl,_⟩;cases(show r1=none from hr);exact bh hR
 .obtain⟨j,k',a,h1,h2,rfl,h4,h5,h6⟩:=eqv e he;obtain⟨j',z1,z2⟩:=vJ ee;have kk:k'=k:=key h1 z1 h2 z2;subst kk;have wH:k'∈dk (ks.take i):=(Rg _ _).mpr h4;refine q false s.heap tk (Heap.SameBut.refl S s.heap) ⟨es,ep,t,g1,T,g2,g3,?_,by lia,λe he=>?_,λk2 h2=>?_⟩
  .rw[RT,g4];unfold pT;rw[aJ wH]
  .obtain⟨j,k',v',h1,h2,h3,h4⟩:=g6 e he;exact⟨j,k',v',h1,h2,h3,by rw[take1];exact jN _ h4⟩
  .rw[take1,eI,jD] at h2;rcases h2 with h2|h2
   .exact g7 k2 h2
   .subst h2;exact g7 _ h4
 .have LG:k∉dk (ks.take i):=λm=>by
   obtain⟨e,he,j,v',h1,h2,rfl⟩:=g7 k ((Rg _ _).mp m);have:=no _ he rfl;rw[decide_eq_false_iff_not] at this;exact this ⟨j,h1,h2⟩
  refine q true h' tk sb ⟨es',yh,t',gh,T',r',by lia,?_,by lia,λe he=>?_,λk2 h2=>?_⟩
  .rw[RT];unfold pT;rw[aQ LG,dy,<-g4,z'];rfl
  .rcases(me e).mp he with z|z
   .exact⟨i,k,_,ek,ev,z,by rw[take1];simp⟩
   .obtain⟨j,k',v',h1,h2,h3,h4⟩:=g6 e z;exact⟨j,k',v',h1,h2,h3,by rw[take1];exact jN _ h4⟩
  .rw[take1,eI,jD] at h2;rcases h2 with h2|h2
   .obtain⟨e,he,z⟩:=g7 k2 h2;exact⟨e,(me e).mpr (.inr he),z⟩
   .subst h2;exact⟨_,(me _).mpr (.inl rfl),i,_,ek,ev,rfl⟩
end
section
variable{X:Cx}{ae:List (Addr×Obj)}{Z:St}{H:Hp}
structure oP (z s:Shared):Prop where
 eq:s={ z with heap:=s.heap,toks:=s.toks}
 keep:∀b u,z.heap.get? b=some u->s.heap.get? b=some u
def oP.inv(g:oP z s)(I:Inv X ae Z H z):Inv X ae Z H s:=by
 rw[g.eq];exact I.kept g.keep
def lF.move{SU:Heap}(Z:lF X S ks vs i hp)(k:∀u,hp.get? S=some u->SU.get? S=some u):lF X S ks vs i SU:=by
 obtain⟨es,ep,t,g,r⟩:=Z.obj;exact⟨es,ep,t,k _ g,r⟩
def iE{R:Result->Shared->Prop}{J:Addr}(L:vK X H ks ys vs)(I:Inv X ae Z H z)(hu:A.units+10<cLine)(hh:A.handled=none)(hn:vs.length<1000)(nS:z.heap.get? S=none)(nJ:z.heap.get? J=none)(Ll:S≠J)(hl:z.heap.IsList l vs.toArray)
  (fin:∀s,oP z s->lF X S ks vs vs.length s.heap->R (.ok (.ret .none)) s) :
  ∀(d i:Nat) (s:Shared),vs.length - i=d->i<=vs.length->oP z s->s.heap.IsListIter J l i->lF X S ks vs i s.heap->codeAny (model X.prog X.w) A (.builtin "set.update.loop" ⟨[.ref S,.ref J],[]⟩) R s:=by
 intro d
 induction d with
 |zero=>
  intro i s hd hi g it Z;have e:i=vs.length:=by lia
  subst e;refine codeAny_builtin F.entry_set_update_loop ?_;rw[Around.under_plainId F.plain_set_update_loop _];show wpAny _ A.in1 (pyNext (.ref J) >>= _) _ _ s;have uq:s.heap.IsList l vs.toArray:=hl.at λo e=>g.keep _ _ e
  refine aB (wpAny_pyNext_list_end hh it uq (by simp) λh' Hb=>?_)
  refine bh (fin _ ⟨by rw[g.eq],λb u e=>Hb b u (λq=>by rw[q,nJ] at e;cases e) (g.keep b u e)⟩ (Z.move λu e=>Hb S u Ll e))
 |succ d ih=>
  intro i s hd hi g it Z;have lt:i<vs.length:=by lia
  refine codeAny_builtin F.entry_set_update_loop ?_;rw[Around.under_plainId F.plain_set_update_loop _];show wpAny _ A.in1 (pyNext (.ref J) >>= _) _ _ s;have uq:s.heap.IsList l vs.toArray:=hl.at λo e=>g.keep _ _ e
  have ev:vs[i]?=some vs[i]:=eP lt;refine aB (wpAny_pyNext_list_item it uq (x:=vs[i]) (by simp[lt]) λh' DA sb=>?_)
  have g':oP z { s with heap:=h'}:=⟨by rw[g.eq],λb u e=>(sb.extBut b u (λq=>by rw[q,nJ] at e;cases e) (g.keep b u e))⟩
  have ek:ks[i]?=some (ks[i]'(by rw[<-L.len];exact lt)):=eP _
  show wpAny _ A.in1 (holding [vs[i]] (setAdd S vs[i]) >>= _) _ _ _;refine aB (mZ (YO L (g'.inv I) (show A.in1.units+9<cLine from ?_) (Z.move λu e=>sb.extBut S u Ll e) (by lia) ek ev λb h2 t2 s2 Z2=>?_))
  .have e:A.in1.units=A.units+1:=rfl;lia
  .refine bh ⟨plainId_quiet F.plain_set_update_loop _,ih (i+1) _ (by lia) lt ⟨by rw[g.eq],λb u e=>?_⟩ ?_ Z2⟩
   .rw[s2.2 b (λq=>by rw[q,nS] at e;cases e)]
    exact g'.keep b u e
   .exact DA.at λo e=>by rw[s2.2 J (Ne.symm Ll)];exact e
def Pa{b:Addr}(h:hp.objs.size<=b):hp.get? b=none:=by
 cases q:hp.get? b with
 |none=>rfl
 |some u=>exact bQ (fG q) (Nat.not_lt.mpr h)
def e6d:bootBuiltins "set"=some (.type "set"):=by decide +kernel
def VO(ld:Bool):iQ (.fresh 0 0 ld) #[]:=⟨rfl,rfl,⟨3,by decide,rfl⟩,λi k u v _ e=>by simp[SetTable.fresh] at e,λi v e=>by simp[SetTable.fresh] at e,by simp,λi v e g=>by simp[SetTable.fresh] at g⟩
def Xa{ld:Bool}(g:hp.get? S=some (jl #[] 0 (.fresh 0 0 ld))):lF X S ks vs 0 hp:=
 ⟨#[],0,_,g,VO ld,by simp[SetTable.fresh],by simp[SetTable.fresh],rfl,kr _,λe m=>by simp at m,λk m=>by simp at m⟩
def Uk{Q:Value->Shared->Prop}(L:vK X H ks ys vs)(I:Inv X ae Z H s)(hu:A.units+20<cLine)(hh:A.handled=none)(hn:vs.length<1000)(hl:s.heap.IsList l vs.toArray)
  (q:∀s',oP s s'->lF X s.heap.objs.size ks vs vs.length s'.heap->Q (.ref s.heap.objs.size) s'):wpAny (model X.prog X.w) A (call (.type "set") [.ref l]) Q E s:=by
 obtain⟨c,tl,cm⟩:=F.called_set.mro;have ma:=F.called_set.made;have su:=F.called_set.sub;refine wpAny_call (codeAny_of_tree ?_);show wpAny _ _ (callAny (.type "set") _) _ _ _;refine bh ⟨Code.quiet_builtin _ (by decide +kernel),codeAny_builtin F.entry_type_call ?_⟩
 rw[Around.under_plain (weight_type_call_type "set" [.ref l] []) rfl];have h1:=F.called_set.notType;have h2:=F.called_set.canCreate;have h3:=F.typeCall_set_1 (.ref l)
 repeat (any_goals (first|assumption|wp_step))
 refine codeAny_mono (code_set_new_1 (.ref l) (E:=E) (Q₁:=λob z=>∃ld:Bool,ob=.ref s.heap.objs.size/\z={ s with heap:=s.heap.push (jl #[] 0 (.fresh 0 0 ld))}) λld=>⟨ld,rfl,rfl⟩) λr z hr=>?_
 cases r with
 |error e=>exact hr
 |ok fl=>
  cases fl with
  |ret ob=>
   obtain⟨ld,rfl,rfl⟩:=hr;have gS:(s.heap.push (jl #[] 0 (.fresh 0 0 ld))).get? s.heap.objs.size=some (jl #[] 0 (.fresh 0 0 ld)):=oB _ rfl;have hT:Shared.TypeIs { s with heap:=s.heap.push (jl #[] 0 (.fresh 0 0 ld))} (.ref s.heap.objs.size) "set":=⟨_,gS,rfl⟩;have h4:=F.called_set.init.lookup;have h5:=F.called_set.init.bind (.ref s.heap.objs.size)
   repeat (any_goals (first|assumption|wp_step))
   refine codeAny_mono (codeAny_call_builtin (R:=wants (λr z=>r=.none/\oP s z/\lF X s.heap.objs.size ks vs vs.length z.heap) E) F.called_set.init.plain F.entry_set_init (check_set_init_1 hT ?_)) λr z hr=>?_
   .have gl:(s.heap.push (jl #[] 0 (.fresh 0 0 ld))).IsList l vs.toArray:=hl.push _;obtain⟨ol,hol,zP,nl,SE⟩:=gl;obtain⟨ocls,odict,odata,oslots⟩:=ol;simp only at zP SE;subst zP;subst SE;have k1:=F.sub_list_set;have k2:=F.sub_list_frozenset;have k3:(Value.type "list" == Value.type "dict")=false:=by decide
    unfold Builtin.«set.__init__» noKeywords Builtin.Frozenset.updateFrom;unfold jl at *;generalize hPI:pyIter=PI
    wp_walk
    subst hPI;refine wpAny_pyIter_list ⟨_,hol,rfl,nl,rfl⟩ ?_;refine aB (wpAny_runValue ?_);have sz:(s.heap.push { cls:=.type "set",dict:=none,data:=.set #[] 0 (.fresh 0 0 ld)}).objs.size=s.heap.objs.size+1:=by simp[Heap.push]
    refine iE (A:=A.in1.in1) (J:=(s.heap.push { cls:=.type "set",dict:=none,data:=.set #[] 0 (.fresh 0 0 ld)}).objs.size) L I ?_ (show A.in1.in1.handled=none from hh) hn (Pa (cJ _)) (Pa (by rw[sz];exact EE _)) (ly (by rw[sz];exact Am _)) hl (λz g Z=>?_) (vs.length - 0) 0 _ rfl (kr _) ?_ ?_ ?_
    .simp only[Around.in1_units];lia
    .refine bh ?_;show wpAny _ _ (ret Value.none) _ _ _;exact bh ⟨rfl,g,Z⟩
    .exact⟨rfl,λb u e=>jO _ (jO _ e)⟩
    .exact⟨_,oB _ rfl,rfl,rfl⟩
    .exact Xa (jO _ gS)
   .cases r with
    |error e=>exact hr
    |ok fl=>
     cases fl with
     |ret r=>
      obtain⟨rfl,g,Z⟩:=hr
      repeat (any_goals (first|assumption|wp_step))
      exact q _ g Z
     |_=>exact hr.elim
  |_=>exact hr.elim
def qH:List D->Option (List TK)
 |[]=>some []
 |d::ds=>(cL d).bind λk=>match k with|.tp _=>(qH ds).map (k::·)|_=>none
theorem Qh:∀{ds:List D} {ks:List TK},qH ds=some ks->ks.map TK.d=ds/\∀k,k∈ks->k.ok 8=true/\∃l,k=.tp l
 |[],ks,e=>by cases e;exact⟨rfl,λk m=>by cases m⟩
 |d::ds,ks,e=>by
  unfold qH at e;cases q:cL d with
  |none=>rw[q] at e;cases e
  |some k=>
   rw[q] at e;cases k with
   |inl i=>cases e
   |inr i=>cases e
   |tp l=>
    obtain⟨ks',e1,e2⟩:=iM.mp e;subst e2;obtain⟨h1,h2⟩:=Qh e1;obtain⟨g1,g2⟩:=mS q;refine⟨by rw[cS,h1,g1],λk m=>?_⟩
    rcases eC.mp m with m|m
    .subst m;exact⟨g2,l,rfl⟩
    .exact h2 k m
def Qi(K:FG):List V->Hp->VK->Prop:=λvs H Q=>∃a ws ks,vs=[.ref a]/\dX K H a ws/\aj K H ws (ks.map TK.d)/\(∀k,k∈ks->k.ok 8=true/\∃l,k=.tp l)/\ks.length<1000/\Q (.int (dk ks).length) H
def VQ{l:Expr}{ta:TA}{pos:Pos}(u7:Gl X "len")(Hg:X.mg "len"=none)(hg:Gl X "set")(hm:X.mg "set"=none)(ha:PA X [l] ta)(hc:X.calm=true)(hu:X.A.units+41<cLine)(hs:starEach [l] X.env=[(false,eval l X.env)]:=by rfl)
  (nP:starEach [.Call (.Name "set" p1) [l] [] og] X.env=[(false,eval (.Call (.Name "set" p1) [l] [] og) X.env)]:=by rfl):PE X (.Call (.Name "len" p) [.Call (.Name "set" p1) [l] [] og] [] pos) (Ms (Qi X.K) ta):=by
 intro ae s Z H Q I h;refine Call_ (v5 I u7 Hg j5 (PyProof.Rows.callWith_builtin1 ?_ nP rfl));rw[nP];show wpAny _ _ (spliced ((false,eval (.Call (.Name "set" p1) [l] [] og) X.env)::[])) _ _ s;refine Calls.spliced_cons (Call_ (v5 I hg hm e6d (PyProof.Rows.callWith_type1 (cB (ha og ae s Z H _ I h) λus s1 ⟨vs,H1,I1,r1,q1⟩=>?_) hs rfl)))
 obtain⟨a,ws,ks,e,hq,rk,ok,hn,q⟩:=q1;subst e;cases r1 with
 |cons r rr=>
  cases rr;cases r;obtain⟨ay,rv,pl,hz⟩:=I1.list hq;have L:vK X H1 ks ws ay:=⟨rk,rv,ok⟩;refine Uk L I1 (by lia) (I1.ok.hd hc) (by rw[L.len];exact hn) pl.isList λs' g Z=>Calls.spliced_nil ?_
  obtain⟨es,ep,t,g1,T,_,_,g4,g5,_⟩:=Z.obj;rw[L.len] at g4 g5;rw[List.take_length] at g4;refine call_len_set g1 ⟨rfl,rfl,rfl⟩ rfl T.fits (by lia) ?_
  rw[g4];have I2:=g.inv I1;exact⟨.int (dk ks).length,H1,I2.tok _,⟨_,rfl⟩,q⟩
end
section
variable{X:Cx}{K:FG}
def BE:List O->Option O
 |[a]=>(dH a).bind λds=>(qH ds).bind λks=>if ks.length<1000 then some (.Y (.int (dk ks).length)) else none
 |_=>none
def VR:cM K (Qi K) BE:=by
 intro F H vs os o Q le eY e res;unfold BE at e;split at e
 .rename_i a
  obtain⟨x,B,rfl,h1⟩:=eY.one;obtain⟨ds,q1,e⟩:=eQ.mp e;obtain⟨ks,q2,e⟩:=eQ.mp e;split at e
  .rename_i hn
   cases e;obtain⟨p,ws,rfl,sq,r⟩:=vP le h1 q1;obtain⟨k1,k2⟩:=Qh q2;exact⟨p,ws,ks,rfl,sq,by rw[k1];exact r.mono le,k2,hn,res.flat rfl⟩
  .cases e
 .cases e
def VS{l:Expr}{fs:GA}{pos:Pos}(Hg:X.mg "len"=none)(hm:X.mg "set"=none)(ha:PA X [l] (kb K fs))(hu:X.A.units+41<cLine)(hc:X.calm=true:=by rfl)(u7:Gl X "len":=by rfl)(hg:Gl X "set":=by rfl)(hs:starEach [l] X.env=[(false,eval l X.env)]:=by rfl)
  (nP:starEach [.Call (.Name "set" p1) [l] [] og] X.env=[(false,eval (.Call (.Name "set" p1) [l] [] og) X.env)]:=by rfl) (hK:X.K=K:=by rfl):PE X (.Call (.Name "len" p) [.Call (.Name "set" p1) [l] [] og] [] pos) (tG K (gO BE fs)):=by
 subst hK;exact(VQ u7 Hg hg hm ha hc hu hs nP).mono λ_ _ _ t=>B8 VR t
end
section
variable{X:Cx}{K:FG}
def Kd(z:Int):Value->Bool
 |.int y _=>y == z
 |_=>false
def Pb:V->List V->Hp->VK->Prop:=λx xs H Q=>∃(l:Addr) (ys:List Int) (z:Int) (j:Nat),x=.ref l/\xs=[.int z]/\H l=some (.lst (ys.map V.int))/\ys[j]?=some z/\(∀i y,i<j->ys[i]?=some y->y≠z)/\Q .bH (upd H l (.lst ((ys.eraseIdx j).map V.int)))
theorem Fb{α β:Type}(f:α->β):∀(xs:List α) (j:Nat),(xs.map f).eraseIdx j=(xs.eraseIdx j).map f
 |[],j=>by simp
 |_::_,0=>rfl
 |x::xs,j+1=>by show f x::(xs.map f).eraseIdx j=f x::(xs.eraseIdx j).map f;rw[Fb f xs j]
theorem Nj:∀{ps:List (Int×Tok)},Vals ((ps.map (·.1)).map V.int) (ps.map λp=>Value.int p.1 p.2)
 |[]=>.nil
 |p::ps=>.cons ⟨p.2,rfl⟩ Nj
def NP:xq X "list.remove" Pb:=by
 intro ae s Z H x xs v us Q I rx rs h;obtain⟨l,ys,z,j,rfl,rfl,hH,hj,i6,q⟩:=h;cases rx;obtain⟨u,rfl,ru⟩:=vals1 rs;obtain⟨t,rfl⟩:=ru;obtain⟨hz,ay,n,rv,hl,eo⟩:=I.yy hH;obtain⟨ps,e1,e2⟩:=NG rv;subst e1;have hlen:ps.length=ys.length:=by rw[<-e2,bz]
 have Hf:j<ys.length:=(eO.mp hj).1;have Dx:∀i (hi:i<ps.length),ys[i]?=some ps[i].1:=λi hi=>by rw[<-e2];simp[hi]
 have hsz:(ps.map λp=>Value.int p.1 p.2).toArray.size=ps.length:=by simp
 have Lx:ps[j].1=z:=by
  have:=Dx j (by lia)
  rw[hj] at this;exact(Option.some.inj this).symm
 refine call_meets F.slot_list_remove ⟨_,eo,rfl⟩ F.entry_list_remove (F.args_list_remove_2 _ _) (MeetsSeq.list_remove l _ n (.int z t) (Kd z) ?_ j (by rw[hsz];lia) ?_ ?_ (by rw[hsz,hlen];simpa using hz)) ⟨eo,?_⟩
 .intro y hy;simp at hy;obtain⟨b,t',_,rfl⟩:=hy;exact MeetsSeq.EqGives.int b z t' t
 .simp[Kd,Lx]
 .intro i hi Dn;rw[hsz] at hi;have:=i6 i _ Dn (Dx i hi);simp[Kd];exact this
 .refine⟨.bH,_,I.yx (its':=(ps.eraseIdx j).map λp=>Value.int p.1 p.2) hH eo ?_ ?_ ?_,rfl,q⟩
  .apply Array.toList_inj.mp;simp[Array.toList_eraseIdxIfInBounds,Fb]
  .rw[<-e2,Fb];exact Nj
  .rw[bz];have:=List.length_eraseIdx_le ys j;rw[bz] at hz;lia
def kQ:List O->Option (List Int)
 |[]=>some []
 |.Y (.int x)::os=>(kQ os).map λxs=>x::xs
 |_=>none
abbrev rn(y:Int):O:=.Y (.int y)
theorem Ot:∀xs:List Int,kQ (xs.map rn)=some xs
 |[]=>rfl
 |i::is=>by rw[cS];show(kQ (is.map rn)).map _=_;rw[Ot is];rfl
theorem Ou:∀{os:List O} {xs:List Int},kQ os=some xs->os=xs.map rn
 |[],xs,e=>by cases e;rfl
 |o::os,xs,e=>by
  unfold kQ at e;split at e
  .cases e
   rename_i h
   cases h
  .rename_i x wU h
   cases h;obtain⟨ys,e1,e2⟩:=iM.mp e;subst e2;rw[cS,<-Ou e1]
  .cases e
theorem Nm{F H:Hp}:∀{ws:List V} {xs:List Int} {A:List Addr},ag K F H (ws.map some) ((xs.map rn).map some) A->ws=xs.map .int
 |[],[],_,_=>rfl
 |[],_::_,_,h=>by have:=h.length;simp at this
 |_::_,[],_,h=>by have:=h.length;simp at this
 |w::ws,i::is,A,h=>by
  obtain⟨B1,B2,g1,g2,rfl⟩:=ag.one h;cases iS g1 rfl;rw[Nm g2];rfl
theorem Ov{F H:Hp}:∀(xs:List Int),ag K F H ((xs.map V.int).map some) ((xs.map rn).map some) []
 |[]=>.nil
 |_::xs=>.Y (.flat rfl .nil) (Ov xs)
def lX(ys:List Int)(z:Int):Option Nat:=ys.findIdx? (· == z)
def NQ{ys:List Int}{z:Int}{j:Nat}(e:lX ys z=some j):ys[j]?=some z/\∀i y,i<j->ys[i]?=some y->y≠z:=by
 unfold lX at e;rw[List.findIdx?_eq_some_iff_getElem] at e;obtain⟨h,h1,h2⟩:=e;refine⟨by rw[eP h];congr 1;exact eq_of_beq h1,λi y hi ey=>?_⟩
 have:=h2 i hi;obtain⟨hl,e3⟩:=eO.mp ey;rw[e3] at this;intro z';subst z';simp at this
def t9:O->List O->Option (O×O)
 |.lst ps,[.Y (.int z)]=>(kQ ps).bind λys=>(lX ys z).map λj=>(.lst ((ys.eraseIdx j).map rn),.Y .bH)
 |_,_=>none
def NR:kF K Pb t9:=by
 intro F H x vs o os o' res Ai Aτ Q le h1 h2 nd fr e q;unfold t9 at e;split at e
 .rename_i ps z
  obtain⟨ys,e1,e2⟩:=eQ.mp e;obtain⟨j,e3,e4⟩:=iM.mp e2;cases e4;cases Ou e1;obtain⟨l,ws,Ap,rfl,hl,i,DK,go⟩:=Ft h1 rfl nd q
  match vs,h2 with
  |[v],h2=>
   cases iS h2 rfl;cases Nm i;obtain⟨s1,s2⟩:=NQ e3;exact⟨l,ys,z,j,rfl,rfl,hl,s1,s2,go _ _ [] .bH [] rfl (Ov _) Bz ⟨_,List.Perm.refl _,List.nil_sublist _⟩⟩
  |[],h2=>have:=h2.length;simp at this
  |_::_::_,h2=>have:=h2.length;simp at this
 .cases e
def UU(ys:List Int)(z:Int):t9 (.lst (ys.map rn)) [.Y (.int z)]=(lX ys z).map λj=>(.lst ((ys.eraseIdx j).map rn),.Y .bH):=by
 show((kQ (ys.map rn)).bind _)=_;rw[Ot,Option.bind_some]
def Rh(K:FG):V->List V->Hp->VK->Prop:=λx xs H Q=>∃(a:Addr) (ws:List V) (ds:List D) (y:V) (d:D),x=.ref a/\xs=[y]/\dX K H a ws/\aj K H ws ds/\aj K H [y] [d]/\cQ 40 d=true/\ds.all (cQ 40)=true/\Q (.int ((ds.countP λz=>aU z d:Nat):Int)) H
def Xb{ae:List (Addr×Obj)}{Z:St}(I:Inv X ae Z H s){dx:D}:∀{ws:List V} {ay:List Value} {ds:List D},Vals ws ay->aj X.K H ws ds->ds.all (cQ 40)=true->ay.countP (mU X.K H dx)=ds.countP λz=>aU z dx:=by
 intro ws ay ds t
 induction t generalizing ds with
 |nil=>intro rp _;cases rp;rfl
 |cons r t ih=>
  intro rp ok;cases ds with
  |nil=>have:=rp.length;simp at this
  |cons d ds=>
   rw[rH,lS] at ok;rw[List.countP_cons,List.countP_cons,J3 I r rp.inv.1 ok.1,ih rp.inv.2 ok.2]
def Xc(K:FG)(hu:X.A.units+41<cLine)(hK:X.K=K:=by rfl):xq X "list.count" (Rh K):=by
 subst hK;intro ae s Z H x xs v us Q I rx rs h;obtain⟨a,ws,ds,y,d,rfl,rfl,hq,rE,ry,o1,o2,q⟩:=h;cases rx;obtain⟨u,rfl,ru⟩:=vals1 rs;obtain⟨ay,rv,p,hz⟩:=I.list hq;obtain⟨ob,n,eo,zP,hdi,Lq⟩:=p;obtain⟨cl,di,da,sl⟩:=ob;cases zP;cases Lq;refine call_meets F.slot_list_count ⟨_,eo,rfl⟩ F.entry_list_count (F.args_list_count_2 _ _) (SeqAt.list_countAt a _ n di sl u (mU X.K H d)) ⟨eo,?_,?_⟩
 .intro y' hy;exact BR I ru ry o1 (by show X.A.units+1+40<cLine;lia) rv rE o2 y' (by simpa using hy)
 .refine⟨.int _,H,I.tok _,⟨_,rfl⟩,?_⟩;rw[Xb I rv rE o2];exact q
def GD:List O->Option O
 |[.Y (.lst ds),.Y d]=>if cQ 40 d=true/\ds.all (cQ 40)=true then some (.Y (.int ((ds.countP λz=>aU z d:Nat):Int))) else none
 |_=>none
def Xd:cM K (qe (Rh K)) GD:=by
 intro F H vs os o Q le eY e res;unfold GD at e;split at e
 .rename_i ds d
  split at e
  .rename_i hh
   obtain⟨k1,k2⟩:=hh;cases e;obtain⟨x,y,B,C,rfl,h1,h2⟩:=eY.two;obtain⟨a,ws,rfl,sq,ri⟩:=vP le h1 (Q7 _);exact⟨_,_,rfl,a,ws,ds,y,d,rfl,rfl,sq,ri.mono le,pP le h2,k1,k2,res.flat rfl⟩
  .cases e
 .cases e
def VT{K:FG}{a:Addr}{xs:List V}{g:TG}{tt:TT}{te:TE}{τ:St}{Fin:List V->Hp->Prop}(Pv:Nat->St->List V->Hp->Prop)(h0:Pv 0 τ [] H)(hl:∀i τ ax H,i<=xs.length->Pv i τ ax H->gL K H a xs)
  (hs:∀i x τ ax H,xs[i]?=some x->Pv i τ ax H->g x τ H λτ2 H2=>tt τ2 H2 λb H3=>if b=true then te τ2 H3 λv H4=>ax.length<sizeLine/\Pv (i+1) τ2 (ax++[v]) H4 else Pv (i+1) τ2 ax H3)
  (hd:∀τ ax H,Pv xs.length τ ax H->Fin ax H):kx (xp K a) g tt te τ H Fin:=by
 refine⟨xs.length,Pv,h0,λi τ ax H hi p=>?_⟩
 have q:=hl i τ ax H hi p;by_cases gI:i<xs.length
 .refine .inr ⟨gI,⟨xs,xs[i],q,by simp[gI]⟩,λx H' y=>?_⟩
  obtain⟨e,y⟩:=y;subst e;exact hs i x τ ax _ (y xs q) p
 .have e:i=xs.length:=by lia
  subst e;exact .inl ⟨⟨xs,q,cJ _⟩,hd τ ax H p⟩
def YQ{fa:GE}{cap:List Nat}:i9 K cap (yr K (tG K (av fa))) (vn fa):=by
 intro Z F H A Q0 az ds R k e w;unfold vn at e;cases q:av fa Q0 with
 |none=>rw[q] at e;cases e
 |some p=>
  obtain⟨r,cu⟩:=p;rw[q] at e;dsimp only[Option.bind] at e;cases r with
  |var i=>cases e
  |own o=>
   cases o with
   |Y d=>
    cases d with
    |tup es=>
     cases e;refine⟨F,A,Q0,_,_,k,q,λv H1 pp=>?_⟩
     obtain⟨F1,A1,x,k1,_⟩:=pp;obtain⟨B,C,h1,h2,h3⟩:=ag.one (Z:=Z) k1.os;have rp:=qU h1;subst h3;obtain⟨k2,x2⟩:=k1.sub h2 (.bD (mN _ _));cases rp with
     |flat z _=>cases z
     |@tup a ws _ _ _ sq ri _=>
      refine⟨a,rfl,⟨ws,k1.le.mK sq⟩,w (xp K a) H1 F1 C (x.trans x2) k2 λg tt te τ Fin Pv h0 hF hs hd=>?_⟩
      have hl:=ri.length;refine VT (xs:=ws) Pv h0 (λi τ ax H hi p=>?_) (λi x τ ax H hx p=>?_) (λτ ax H p=>hd τ ax H (by rw[<-hl];exact p))
      .obtain⟨⟨F',s1,s2⟩,_⟩:=hF i τ ax H p;exact(s1.trans s2).mK sq
      .have hi:i<ds.length:=by
        have:=(eO.mp hx).1;lia
       obtain⟨x2,sM,rx⟩:=ri.get (i:=i) (d:=ds[i]) (by simp[hi])
       rw[hx] at sM;cases sM;exact hs i ds[i] x τ ax H (Jz (by simp[hi])) (λF' s=>rx.mono s) p
    |_=>cases e
   |_=>cases e
theorem YR(it:GE)(Q0:Gm):vn it Q0=(av it Q0).bind λp=>match p.1 with
 |.own (.Y (.tup ds))=>some (ds,p.2)
 |_=>none:=rfl
end
end L2
namespace L2
def jQ{A:PySem.Around}{k:Nat}(hr:eD k A):A.units+41<PySem.cLine:=Nat.lt_of_le_of_lt (Nat.add_le_add_left (by decide:41<=64) _) hr.units
end L2
namespace Carry
open PySem L2
variable{X:Cx}{K:FG}
seal PE PA PT PS iy
theorem dI{i:Int}{j pos}:PE X (.Constant (.int i) j pos) (tG K (gC (.int i))):=eH Gn
theorem ah(i:Nat){x:Str}{pos:Pos}(hN:X.N[i]?=some x:=by rfl)(hv:EY X.env.scope x:=by first|exact Or.inl rfl|exact Or.inr (Or.inl rfl)|exact Or.inr (Or.inr rfl))(hd:(x == ("__debug__":Str))=false:=by decide)(qE:(x == ("__classdict__":Str))=false:=by decide):PE X (.Name x pos) (tG K (aa i)):=η (pv i hN hv hd qE)
theorem cb{a b:Expr}{pos:Pos}{fa fb:GE}(hu:X.A.units+41<cLine)(ha:PE X a (tG K fa))(hb:PE X b (tG K fb))(hs:Bt b:=by exact λ_ _=>rfl)(hK:X.K=K:=by rfl):PE X (.Subscript a b pos) (tG K (gB bB fa fb)):=e8n (KW K hu hK) e8s ha hb hs
noncomputable def top(i:Nat):Stmt:=PySem.Challenge.pw_carry_k35_whole_no_rule_brings_more.main.body.getD i (.Pass ⟨0,0,0,0⟩)
abbrev GZ:=top 1
abbrev GF:=top 2
abbrev Fw:=top 3
abbrev GH:=top 4
abbrev Fc:=top 6
abbrev BF:=top 8
abbrev Gb:=top 9
abbrev Bg:=top 13
abbrev GI:=top 14
abbrev Fd:=top 15
abbrev Bc:=top 16
abbrev E7:=top 17
abbrev BG:=top 18
abbrev Fx:=top 20
abbrev Fy:=top 21
abbrev Fz:=top 22
abbrev Bq:=top 23
abbrev Bh:=top 24
abbrev Bi:=top 25
abbrev Bj:=top 26
abbrev Fe:=top 27
abbrev FA:=top 28
abbrev E3:=top 29
abbrev E8:=top 30
abbrev zj:=top 31
abbrev A_:=top 32
abbrev Ba:=top 33
abbrev G0:=top 34
set_option genInjectivity false in
set_option genSizeOfSpec false in
structure HZ where
 f0:Addr
 d0:FuncData
 f1:Addr
 d1:FuncData
 f2:Addr
 d2:FuncData
 f3:Addr
 d3:FuncData
 f4:Addr
 d4:FuncData
 f5:Addr
 d5:FuncData
 f6:Addr
 d6:FuncData
 f7:Addr
 d7:FuncData
 f8:Addr
 d8:FuncData
 f9:Addr
 d9:FuncData
 CI:Addr
 zE:FuncData
 CJ:Addr
 zF:FuncData
 CK:Addr
 Ci:FuncData
 CL:Addr
 Cj:FuncData
 CM:Addr
 Ck:FuncData
 CN:Addr
 Cn:FuncData
 CO:Addr
 Co:FuncData
 CP:Addr
 Cp:FuncData
 CQ:Addr
 Cq:FuncData
 CS:Addr
 Cr:FuncData
 CT:Addr
 Cw:FuncData
 CU:Addr
 Cy:FuncData
 CV:Addr
 Cz:FuncData
 CW:Addr
 CA:FuncData
 CY:Addr
 CB:FuncData
 CZ:Addr
 CC:FuncData
 C0:Addr
 CD:FuncData
 zJ:Addr
 zG:FuncData
structure Txt (K:FG) (mg:Str->Option Value) (t:HZ):Prop where
 F0:aH K mg "lay" GZ t.f0 t.d0 ["net","here","there","room"]
 F1:aH K mg "fill" GF t.f1 t.d1 ["net","start","end"]
 F2:aH K mg "search" Fw t.f2 t.d2 ["net","start"]
 F3:aH K mg "push" GH t.f3 t.d3 ["net","came","end"]
 F4:aH K mg "belt_of" Fc t.f4 t.d4 ["house","name"]
 F5:aH K mg "steps" BF t.f5 t.d5 ["house","place"]
 F6:aH K mg "moves" Gb t.f6 t.d6 ["house","place"]
 F7:aH K mg "in_time" Bg t.f7 t.d7 ["house","places","cart","turns"]
 F8:aH K mg "into" GI t.f8 t.d8 ["place","moment"]
 F9:aH K mg "lay_net" Fd t.f9 t.d9 ["net","house","places","cart","turns"]
 AB:aH K mg "lay_spot" Bc t.CI t.zE ["net","house","place","moment","cart","plenty"]
 AD:aH K mg "followed" E7 t.CJ t.zF ["net","first","cart"]
 AE:aH K mg "taken" BG t.CK t.Ci ["net","behind"]
 AF:aH K mg "_law_feed" Fx t.CL t.Cj ["_law_script"]
 kA:aH K mg "_law_draw" Fy t.CM t.Ck ["_law_feed_here","_law_many"]
 AG:aH K mg "_law_name" Fz t.CN t.Cn ["_law_style","_law_k"]
 AH:aH K mg "_law_outs" Bq t.CO t.Co ["_law_feed_here","_law_names","_law_k","_law_many"]
 AI:aH K mg "_law_house" Bh t.CP t.Cp ["_law_feed_here"]
 AJ:aH K mg "_law_cells" Bi t.CQ t.Cq ["_law_house_here"]
 yZ:aH K mg "_law_steps" Bj t.CS t.Cr ["_law_house_here","_law_place"]
 y0:aH K mg "_law_whole" Fe t.CT t.Cw ["_law_found"]
 AK:aH K mg "_law_goes" FA t.CU t.Cy ["_law_house_here","_law_place","_law_cart","_law_told"]
 AL:aH K mg "_law_together" E3 t.CV t.Cz ["_law_ways"]
 AM:aH K mg "_law_places" E8 t.CW t.CA ["_law_feed_here","_law_house_here","_law_most"]
 AN:aH K mg "_law_run" zj t.CY t.CB ["_law_feed_here","_law_house_here","_law_places_here","_law_cart","_law_turns"]
 AO:aH K mg "_law_ways_right" A_ t.CZ t.CC ["_law_house_here","_law_places_here","_law_cart","_law_turns","_law_ways"]
 AQ:aH K mg "_law_is_spot" Ba t.C0 t.CD ["_law_spot","_law_size"]
 AR:aH K mg "law" G0 t.zJ t.zG ["_law_script"]
 cC:mg "len"=none
 aY:mg "isinstance"=none
 rX:mg "int"=none
 xW:mg "bool"=none
 nv:mg "str"=none
 iV:mg "list"=none
 kg:mg "tuple"=none
 df:mg "range"=none
 B4:mg "any"=none
 B0:mg "all"=none
 nu:mg "enumerate"=none
 B5:mg "set"=none
 kh:∃t,mg "START"=some (.str "the start" t)
 rY:∃t,mg "END"=some (.str "the end" t)
section
variable{P:Program}{w:World}{K:FG}{mg:Str->Option Value}{base:Heap}{t:HZ}
theorem tL:aM ["net","here","there","room","node"] ["net","here","there","room"] (dQ GZ):=⟨rfl,rfl,rfl,by decide +kernel,rfl,by decide +kernel,by decide +kernel⟩
def KD:GS:=(aR (BO (bA .tup (ai (aa 1) (ai (aa 2) gN))) (bj 4)
  (ck (gT (gB (cg true) (aa 4) (aa 0)))
  (fR zp (aa 0) (aa 4))
  bw))
 (aR (ui 0 (sV 1) (sV 2) (sV 3))
 (ui 0 (sV 2) (sV 1) (sC (.int 0)))))
def um:GM:=runM 5 [true,false,false,false] KD
variable(P w K mg base t)in
abbrev KG:Prop:=bR P w K mg base fx 1 t.f0 t.d0 ["net","here","there","room"] (fL K 4 um)
theorem e6e(T:Txt K mg t):KG P w K mg base t:=
 jx (k:=0) [true,false,false,false] KD T.F0.fn tL rfl rfl (by decide) λdq A outer s H E hr=>(by
  have aq:=jQ hr;exact⟨_,(bC (Yl PassesOwn.never (lj (ao (ah 1) (ao (ah 2) aK))) (fm (i:=4) tL.nd rfl (Or.inl rfl)) fq
   (bW (gX (eS (vL K (by exact aq)) (oI true) (ah 4) (ah 0))
   (bW (xR IP (ah 0) (ah 4) (by exact aq)))
   hY)))
   (bC (P7 (pv 3) uT (pv 0) (pv 1) uT (pv 2) uT (by exact aq))
   (bW (P7 Gn (KY (d:=.int 0) rfl) (pv 0) (pv 2) uT (pv 1) uT (by exact aq))))),rfl⟩)
theorem dW:aM ["net","start","came","rim","further","here","there"] ["net","start"] (dQ Fw):=⟨rfl,rfl,rfl,by decide +kernel,rfl,by decide +kernel,by decide +kernel⟩
def Jf:GS:=(aR (ak 2 (BU (aa 1) (gC .bH)))
 (aR (ak 3 (av (bA .lst (ai (aa 1) gN))))
 (aR (iT (dR (aa 3)) (aR (ak 4 (bA .lst gN))
 (aR (ef (aa 3) (bj 5)
  (BW (gB bB (aa 0) (aa 5)) (bj 6)
  (ck (ie (gT (gB sX (gB bB (gB bB (aa 0) (aa 5)) (aa 6)) (gC (.int 0)))) (gT (gB (cg true) (aa 6) (aa 2))))
  (aR (fR (aa 5) (aa 2) (aa 6))
 (jw (fA pQ (aa 4) (ai (aa 6) gN))))
  bw)))
 (ak 3 (av (aa 4))))) 1000000)
 (aP (fP (aa 2))))))
def rN:GM:=runM 7 [false,false] Jf
variable(P w K mg base t)in
abbrev Pc:Prop:=bR P w K mg base fx 1 t.f2 t.d2 ["net","start"] (fL K 2 rN)
theorem VU(T:Txt K mg t):Pc P w K mg base t:=
 jx (k:=0) [false,false] Jf T.F2.fn dW rfl rfl (by decide) λdq A outer s H E hr=>(by
  have aq:=jQ hr;exact⟨_,(bC (dg (i:=2) dW.nd rfl (Or.inl rfl) (WT (by exact aq) (ah 1) (eH (d:=.bH) JS)))
   (bC (dg (i:=3) dW.nd rfl (Or.inl rfl) (cq (mD (ao (ah 1) aK))))
   (bC (Fp 1000000 PassesOwn.never (mE (ah 3))
   (bC (dg (i:=4) dW.nd rfl (Or.inl rfl) (mD aK))
   (bC (qZ PassesOwn.never (ah 3) (fm (i:=5) dW.nd rfl (Or.inl rfl)) fq
   (bW (YG PassesOwn.never (cb (by exact aq) (ah 0) (ah 5)) (fm (i:=6) dW.nd rfl (Or.inl rfl)) fq
   (bW (gX (PW.pt (v7 (eS we wg (cb (by exact aq) (cb (by exact aq) (ah 0) (ah 5)) (ah 6)) dI) (xF (eS (vL K (by exact aq)) (oI true) (ah 6) (ah 2)))))
   (bC (xR (ah 5) (ah 2) (ah 6) (by exact aq))
   (bW (lI (oG PySem.F.slot_list_append PySem.F.type_list_append uI uJ (ah 4) (ao (ah 6) aK)))))
   hY)))))
   (bW (dg (i:=3) dW.nd rfl (Or.inl rfl) (cq (ah 4)))))))
   (bW (fu (vW (ah 2))))))),rfl⟩)
theorem kq:aM ["net","came","end","there","here"] ["net","came","end"] (dQ GH):=⟨rfl,rfl,rfl,by decide +kernel,rfl,by decide +kernel,by decide +kernel⟩
def Ke:GS:=(aR (ak 3 (aa 2))
 (iT (gT (gB (qJ true) (gB bB (aa 1) (aa 3)) (gC .bH))) (aR (ak 4 (gB bB (aa 1) (aa 3)))
 (aR (uj (λi j=>i - j) 0 (sV 4) (sV 3) (sC (.int 1)))
 (aR (uj (λi j=>i+j) 0 (sV 3) (sV 4) (sC (.int 1)))
 (ak 3 (aa 4))))) 1000000))
def zv:GM:=runM 5 [true,false,false] Ke
variable(P w K mg base t)in
abbrev Ri:Prop:=bR P w K mg base fx 1 t.f3 t.d3 ["net","came","end"] (fL K 3 zv)
theorem YS(T:Txt K mg t):Ri P w K mg base t:=
 jx (k:=0) [true,false,false] Ke T.F3.fn kq rfl rfl (by decide) λdq A outer s H E hr=>(by
  have aq:=jQ hr;exact⟨_,(bC (dg (i:=3) kq.nd rfl (Or.inl rfl) (ah 2))
   (bW (Fp 1000000 PassesOwn.never (eS Ys (e8q true) (cb (by exact aq) (ah 1) (ah 3)) (eH (d:=.bH) JS))
   (bC (dg (i:=4) kq.nd rfl (Or.inl rfl) (cb (by exact aq) (ah 1) (ah 3)))
   (bC (P8 ZY (pv 0) (pv 4) uT (pv 3) uT Gn (KY (d:=.int 1) rfl) (by exact aq))
   (bC (P8 ZX (pv 0) (pv 3) uT (pv 4) uT Gn (KY (d:=.int 1) rfl) (by exact aq))
   (bW (dg (i:=3) kq.nd rfl (Or.inl rfl) (ah 4))))))))),rfl⟩)
theorem kT:aM ["house","name","belt"] ["house","name"] (dQ Fc):=⟨rfl,rfl,rfl,by decide +kernel,rfl,by decide +kernel,by decide +kernel⟩
def IA:GS:=(aR (ef (gB bB (aa 0) (gC (.int 0))) (bj 2)
  (ck (gT (gB oEq (gB bB (aa 2) (gC (.int 0))) (aa 1)))
  (aP (bA .tup (ai (gB bB (aa 2) (gC (.int 0))) (ai (gB bB (aa 2) (gC (.int 1))) (ai (gB bB (aa 2) (gC (.int 2))) (ai (av (gO iO (ai (gB bB (aa 2) (gC (.int 3))) gN))) gN))))))
  bw))
 (aP (gC .bH)))
def Bk:GM:=runM 3 [false,false] IA
variable(P w K mg base t)in
abbrev Ow:Prop:=bR P w K mg base fx 1 t.f4 t.d4 ["house","name"] (fL K 2 Bk)
theorem UW(T:Txt K mg t):Ow P w K mg base t:=
 jx (k:=0) [false,false] IA T.F4.fn kT rfl rfl (by decide) λdq A outer s H E hr=>(by
  have dt:=qX hr;have aq:=jQ hr;exact⟨_,(bC (qZ PassesOwn.never (cb (by exact aq) (ah 0) dI) (fm (i:=2) kT.nd rfl (Or.inl rfl)) fq
   (bW (gX (eS (rP K (by exact dt)) rW (cb (by exact aq) (ah 2) dI) (ah 1))
   (bW (fu (lj (ao (cb (by exact aq) (ah 2) dI) (ao (cb (by exact aq) (ah 2) dI) (ao (cb (by exact aq) (ah 2) dI) (ao (cq (xu (E2 K) FQ T.iV xE (ao (cb (by exact aq) (ah 2) dI) aK))) aK)))))))
   hY)))
   (bW (fu (eH (d:=.bH) JS)))),rfl⟩)
theorem YT:aM ["place","moment"] ["place","moment"] (dQ GI):=⟨rfl,rfl,rfl,by decide +kernel,rfl,by decide +kernel,by decide +kernel⟩
def Kf:GS:=(aP (bA .tup (ai (av (bA .tup (ai (gB bB (aa 0) (gC (.int 0))) (ai (gB bB (aa 0) (gC (.int 1))) (ai (aa 1) gN))))) (ai (gC (.str "into")) gN))))
def uk:GM:=runM 2 [false,false] Kf
variable(P w K mg base t)in
abbrev GJ:Prop:=bR P w K mg base fx 1 t.f8 t.d8 ["place","moment"] (fL K 2 uk)
theorem YU(T:Txt K mg t):GJ P w K mg base t:=
 jx (k:=0) [false,false] Kf T.F8.fn YT rfl rfl (by decide) λdq A outer s H E hr=>(by
  have aq:=jQ hr;exact⟨_,(bW (fu (lj (ao (cq (lj (ao (cb (by exact aq) (ah 0) dI) (ao (cb (by exact aq) (ah 0) dI) (ao (ah 1) aK))))) (ao (eH (d:=.str "into") uc) aK))))),rfl⟩)
theorem oi:aM ["net","behind","went"] ["net","behind"] (dQ BG):=⟨rfl,rfl,rfl,by decide +kernel,rfl,by decide +kernel,by decide +kernel⟩
def JD:GS:=(aR (ak 2 (av (kJ (tN (gB bB (aa 0) (aa 1))) (bj 0) (gT (gB sX (gB bB (gB bB (aa 2) (aa 0)) (aa 1)) (gC (.int 0)))) (aa 0) 1 [1,0])))
 (aP (gB bB (aa 2) (gC (.int 0)))))
def xI:GM:=runM 3 [false,false] JD
variable(P w K mg base t)in
abbrev Qj:Prop:=bR P w K mg base fx 1 t.CK t.Ci ["net","behind"] (fL K 2 xI)
theorem Xe(T:Txt K mg t):Qj P w K mg base t:=
 jx (k:=0) [false,false] JD T.AE.fn oi rfl rfl (by decide) λdq A outer s H E hr=>(by
  have aq:=jQ hr;exact⟨_,(bC (xC (i:=2) W0 (k:=1) (cap:=[1,0]) fq (M:=["there","behind","net"]) (bZ.of (dQ BG).names ["net","behind","went"] (by decide +kernel)) oi.nd rfl (Or.inl rfl) (YE K (cq (cb (by exact aq) (ah 0) (ah 1))))
    (λ_ _ _ _=>(fm (i:=0) (show List.Nodup (["there","behind","net"]:List Str) by decide +kernel) rfl (Or.inl rfl))) (λ_ _ _ _=>(BC (eS we wg (cb (by exact aq) (cb (by exact aq) (ah 2) (ah 0)) (ah 1)) dI))) (λ_ _ _ _=>(ah 0)))
   (bW (fu (cb (by exact aq) (ah 2) dI)))),rfl⟩)
theorem l9:aM ["_law_script","_law_cells_here"] ["_law_script"] (dQ Fx):=⟨rfl,rfl,rfl,by decide +kernel,rfl,by decide +kernel,by decide +kernel⟩
def Jg:GS:=(aR (ak 1 (av (gB b_ (uQ (aa 0) xS (wa (gC (.int 2)))) (bA .lst (ai (gC (.int 0)) (ai (gC (.int 0)) gN))))))
 (aP (bA .lst (ai (av (uQ (aa 0) xS (wa (gC (.int 63))))) (ai (gC (.int 0)) (ai (gC (.int 0)) (ai (gB oMod (gB bB (aa 1) (gC (.int 0))) (gC (.int 2))) (ai (gB bB (aa 1) (gC (.int 1))) gN))))))))
def FC:GM:=runM 2 [false] Jg
variable(P w K mg base t)in
abbrev Pd:Prop:=bR P w K mg base fx 1 t.CL t.Cj ["_law_script"] (fL K 1 FC)
theorem VW(T:Txt K mg t):Pd P w K mg base t:=
 jx (k:=0) [false] Jg T.AF.fn l9 rfl rfl (by decide) λdq A outer s H E hr=>(by
  have aq:=jQ hr;exact⟨_,(bC (dg (i:=1) l9.nd rfl (Or.inl rfl) (cq (de (gM K) gP (Bo (ah 0) BA (BB dI)) (mD (ao dI (ao dI aK))))))
   (bW (fu (mD (ao (cq (Bo (ah 0) BA (BB dI))) (ao dI (ao dI (ao (de ud ue (cb (by exact aq) (ah 1) dI) dI) (ao (cb (by exact aq) (ah 1) dI) aK))))))))),rfl⟩)
theorem fU:aM ["_law_feed_here","_law_many","_law_found","_law_at","_law_cell"] ["_law_feed_here","_law_many"] (dQ Fy):=⟨rfl,rfl,rfl,by decide +kernel,rfl,by decide +kernel,by decide +kernel⟩
def Jh:GS:=(aR (ck (gT (gB oEq (gB bB (aa 0) (gC (.int 3))) (gC (.int 1))))
  (aR (ak 2 (gB oMod (gB bB (aa 0) (gC (.int 4))) (aa 1)))
 (aR (fR (gB l6 (gB bB (aa 0) (gC (.int 4))) (aa 1)) (aa 0) (gC (.int 4)))
 (aP (aa 2))))
  bw)
 (aR (ak 3 (gB bB (aa 0) (gC (.int 1))))
 (aR (fR (av (gB b_ (aa 3) (gC (.int 1)))) (aa 0) (gC (.int 1)))
 (aR (ak 4 (aa 3))
 (aR (ck (gT (gB sX (gO cI (ai (gB bB (aa 0) (gC (.int 0))) gN)) (gC (.int 0))))
  (ak 4 (av (gB b_ (gB bB (gB bB (aa 0) (gC (.int 0))) (gB oMod (aa 3) (gO cI (ai (gB bB (aa 0) (gC (.int 0))) gN)))) (gB gv (gB l6 (aa 3) (gO cI (ai (gB bB (aa 0) (gC (.int 0))) gN))) (gC (.int 31))))))
  bw)
 (aP (gB oMod (gB oMod (gB gv (gB oMod (gB b_ (gB gv (aa 4) (gC (.int 48271))) (gB gv (gC (.int 31)) (aa 3))) (gC (.int 1000003))) (gC (.int 69621))) (gC (.int 999983))) (aa 1))))))))
def lH:GM:=runM 5 [true,false] Jh
variable(P w K mg base t)in
abbrev zb:Prop:=bR P w K mg base fx 1 t.CM t.Ck ["_law_feed_here","_law_many"] (fL K 2 lH)
theorem VX(T:Txt K mg t):zb P w K mg base t:=
 jx (k:=0) [true,false] Jh T.kA.fn fU rfl rfl (by decide) λdq A outer s H E hr=>(by
  have dt:=qX hr;have aq:=jQ hr;exact⟨_,(bC (gX (eS (rP K (by exact dt)) rW (cb (by exact aq) (ah 0) dI) dI)
   (bC (dg (i:=2) fU.nd rfl (Or.inl rfl) (de ud ue (cb (by exact aq) (ah 0) dI) (ah 1)))
   (bC (xR (de Bs Bu (cb (by exact aq) (ah 0) dI) (ah 1)) (ah 0) dI (by exact aq))
   (bW (fu (ah 2)))))
   hY)
   (bC (dg (i:=3) fU.nd rfl (Or.inl rfl) (cb (by exact aq) (ah 0) dI))
   (bC (xR (cq (de (gM K) gP (ah 3) dI)) (ah 0) dI (by exact aq))
   (bC (dg (i:=4) fU.nd rfl (Or.inl rfl) (ah 3))
   (bC (gX (eS we wg (gj (kc K) ke T.cC j5 (ao (cb (by exact aq) (ah 0) dI) aK)) dI)
   (bW (dg (i:=4) fU.nd rfl (Or.inl rfl) (cq (de (gM K) gP (cb (by exact aq) (cb (by exact aq) (ah 0) dI) (de ud ue (ah 3) (gj (kc K) ke T.cC j5 (ao (cb (by exact aq) (ah 0) dI) aK)))) (de vX v8 (de Bs Bu (ah 3) (gj (kc K) ke T.cC j5 (ao (cb (by exact aq) (ah 0) dI) aK))) dI)))))
   hY)
   (bW (fu (de ud ue (de ud ue (de vX v8 (de ud ue (de (gM K) gP (de vX v8 (ah 4) dI) (de vX v8 dI (ah 3))) dI) dI) dI) (ah 1))))))))),rfl⟩)
theorem mf:aM ["_law_style","_law_k","_law_letter"] ["_law_style","_law_k"] (dQ Fz):=⟨rfl,rfl,rfl,by decide +kernel,rfl,by decide +kernel,by decide +kernel⟩
def Ji:GS:=(aR (ak 2 (gB bB (gC (.str "abcdefghijk")) (gB oMod (gB b_ (gB gv (aa 1) (gC (.int 4))) (aa 0)) (gC (.int 11)))))
 (aR (ck (gT (gB oEq (gB oMod (aa 0) (gC (.int 3))) (gC (.int 0))))
  (aP (gB b_ (gB b_ (gB gv (gC (.str "q")) (gB oMod (gB l6 (aa 0) (gC (.int 3))) (gC (.int 3)))) (aa 2)) (uQ (gC (.str "zq")) xS (wa (gB l6 (aa 0) (gC (.int 9)))))))
  bw)
 (aR (ck (gT (gB oEq (gB oMod (aa 0) (gC (.int 3))) (gC (.int 1))))
  (aP (zM (gT (gB oLt (aa 1) (gC (.int 8)))) (gB gv (gC (.str "b")) (gB b_ (aa 1) (gC (.int 1)))) (gB gv (gC (.str "c")) (gB qK (aa 1) (gC (.int 7))))))
  bw)
 (aP (aa 2)))))
def vV:GM:=runM 3 [false,false] Ji
variable(P w K mg base t)in
abbrev Pe:Prop:=bR P w K mg base fx 1 t.CN t.Cn ["_law_style","_law_k"] (fL K 2 vV)
theorem VY(T:Txt K mg t):Pe P w K mg base t:=
 jx (k:=0) [false,false] Ji T.AG.fn mf rfl rfl (by decide) λdq A outer s H E hr=>(by
  have dt:=qX hr;have aq:=jQ hr;exact⟨_,(bC (dg (i:=2) mf.nd rfl (Or.inl rfl) (cb (by exact aq) (eH (d:=.str "abcdefghijk") uc) (de ud ue (de (gM K) gP (de vX v8 (ah 1) dI) (ah 0)) dI)))
   (bC (gX (eS (rP K (by exact dt)) rW (de ud ue (ah 0) dI) dI)
   (bW (fu (de (gM K) gP (de (gM K) gP (de vX v8 (eH (d:=.str "q") uc) (de ud ue (de Bs Bu (ah 0) dI) dI)) (ah 2)) (Bo (eH (d:=.str "zq") uc) BA (BB (de Bs Bu (ah 0) dI))))))
   hY)
   (bC (gX (eS (rP K (by exact dt)) rW (de ud ue (ah 0) dI) dI)
   (bW (fu (Kv (eS xY B9 (ah 1) dI) (de vX v8 (eH (d:=.str "b") uc) (de (gM K) gP (ah 1) dI)) (de vX v8 (eH (d:=.str "c") uc) (de BL BQ (ah 1) dI)))))
   hY)
   (bW (fu (ah 2)))))),rfl⟩)
theorem du:aM ["_law_house_here","_law_found","_law_name_here","_law_long","_law_ring","_law_outs_here"] ["_law_house_here"] (dQ Bi):=⟨rfl,rfl,rfl,by decide +kernel,rfl,by decide +kernel,by decide +kernel⟩
def IB:GS:=(aR (ak 1 (av (bA .lst gN)))
 (aR (ef (gB bB (aa 0) (gC (.int 0))) (gr [(bj 2),(bj 3),(bj 4),(bj 5)])
  (ak 1 (av (gB b_ (aa 1) (kJ (mh (ai (aa 3) gN)) (bj 0) fQ (av (bA .tup (ai (aa 1) (ai (aa 0) gN)))) 1 [2])))))
 (aP (aa 1))))
def Ff:GM:=runM 6 [false] IB
variable(P w K mg base t)in
abbrev Ox:Prop:=bR P w K mg base fx 1 t.CQ t.Cq ["_law_house_here"] (fL K 1 Ff)
theorem UX(T:Txt K mg t):Ox P w K mg base t:=
 jx (k:=0) [false] IB T.AJ.fn du rfl rfl (by decide) λdq A outer s H E hr=>(by
  have aq:=jQ hr;exact⟨_,(bC (dg (i:=1) du.nd rfl (Or.inl rfl) (cq (mD aK)))
   (bC (qZ PassesOwn.never (cb (by exact aq) (ah 0) dI) (JT rfl (t5 (fm (i:=2) du.nd rfl (Or.inr rfl)) (t5 (fm (i:=3) du.nd rfl (Or.inl rfl)) (t5 (fm (i:=4) du.nd rfl (Or.inl rfl)) (t5 (fm (i:=5) du.nd rfl (Or.inl rfl)) Jq))))) (J0 (t6 fq (t6 fq (t6 fq (t6 fq Jv)))))
   (bW (dg (i:=1) du.nd rfl (Or.inl rfl) (cq (de (gM K) gP (ah 1) (FR Q6 (k:=1) (cap:=[2]) fq (M:=["_law_cell","_law_name_here"]) (bZ.of (dQ Bi).names ["_law_house_here","_law_found","_law_name_here","_law_long","_law_ring","_law_outs_here"] (by decide +kernel)) (Iu (by rfl) T.df (ao (ah 3) aK))
    (λ_ _ _ _=>(fm (i:=0) (show List.Nodup (["_law_cell","_law_name_here"]:List Str) by decide +kernel) rfl (Or.inl rfl))) (λ_ _ _ _=>xH) (λ_ _ _ _=>(cq (lj (ao (ah 1) (ao (ah 0) aK)))))))))))
   (bW (fu (ah 1))))),rfl⟩)
theorem cO:aM ["_law_house_here","_law_place","_law_names","_law_name_here","_law_long","_law_ring","_law_outs_here","_law_found","_law_out"] ["_law_house_here","_law_place"] (dQ Bj):=⟨rfl,rfl,rfl,by decide +kernel,rfl,by decide +kernel,by decide +kernel⟩
def qi:GS:=(jw (fA pQ (aa 7) (ai (av (zM (gT (gB (cg false) (aa 8) (aa 2))) (bA .tup (ai (aa 8) (ai (gC (.int 0)) gN))) (aa 8))) gN)))
def stepT:GS:=(aR (ck (gT (gB oLt (gB b_ (gB bB (aa 1) (gC (.int 1))) (gC (.int 1))) (aa 4)))
  (aP (bA .lst (ai (av (bA .tup (ai (aa 3) (ai (av (gB b_ (gB bB (aa 1) (gC (.int 1))) (gC (.int 1)))) gN)))) gN)))
  bw)
 (aR (ak 7 (bA .lst gN))
 (aR (ef (aa 6) (bj 8) qi)
 (aR (ck (dR (aa 5))
  (jw (fA pQ (aa 7) (ai (av (bA .tup (ai (aa 3) (ai (gC (.int 0)) gN)))) gN)))
  bw)
 (aP (fP (aa 7)))))))
def IC:GS:=aR (ak 2 (av (kJ (ka (gB bB (aa 0) (gC (.int 0)))) (bj 0) fQ (gB bB (aa 0) (gC (.int 0))) 1 []))) (aR (p7 (gr [(bj 3),(bj 4),(bj 5),(bj 6)]) (gB bB (gB bB (aa 0) (gC (.int 0))) (zu BV (aa 2) (ai (gB bB (aa 1) (gC (.int 0))) gN)))) stepT)
def xx:GM:=runM 9 [false,false] IC
variable(P w K mg base t)in
abbrev ID:Prop:=bR P w K mg base fx 1 t.CS t.Cr ["_law_house_here","_law_place"] (fL K 2 xx)
theorem UY(T:Txt K mg t):ID P w K mg base t:=
 jx (k:=0) [false,false] IC T.yZ.fn cO rfl rfl (by decide) λdq A outer s H E hr=>(by
  have aq:=jQ hr;exact⟨_,(bC (xC (i:=2) vR (k:=1) (cap:=[]) fq (M:=["_law_belt"]) (bZ.of (dQ Bj).names ["_law_house_here","_law_place","_law_names","_law_name_here","_law_long","_law_ring","_law_outs_here","_law_found","_law_out"] (by decide +kernel)) cO.nd rfl (Or.inl rfl) (vO K (cq (cb (by exact aq) (ah 0) dI)))
    (λ_ _ _ _=>(fm (i:=0) (show List.Nodup (["_law_belt"]:List Str) by decide +kernel) rfl (Or.inl rfl))) (λ_ _ _ _=>xH) (λ_ _ _ _=>(cb (by exact aq) (ah 0) dI)))
   (bC (e5t (cb (by exact aq) (cb (by exact aq) (ah 0) dI) (O4 PySem.F.slot_list_index PySem.F.type_list_index (WX K) WY (ah 2) (ao (cb (by exact aq) (ah 1) dI) aK))) (JT rfl (t5 (fm (i:=3) cO.nd rfl (Or.inl rfl)) (t5 (fm (i:=4) cO.nd rfl (Or.inl rfl)) (t5 (fm (i:=5) cO.nd rfl (Or.inl rfl)) (t5 (fm (i:=6) cO.nd rfl (Or.inl rfl)) Jq))))) (J0 (t6 fq (t6 fq (t6 fq (t6 fq Jv))))))
   (bC (gX (eS xY B9 (de (gM K) gP (cb (by exact aq) (ah 1) dI) dI) (ah 4))
   (bW (fu (mD (ao (cq (lj (ao (ah 3) (ao (cq (de (gM K) gP (cb (by exact aq) (ah 1) dI) dI)) aK)))) aK))))
   hY)
   (bC (dg (i:=7) cO.nd rfl (Or.inl rfl) (mD aK))
   (bC (qZ PassesOwn.never (ah 6) (fm (i:=8) cO.nd rfl (Or.inl rfl)) fq
   (bW (lI (oG PySem.F.slot_list_append PySem.F.type_list_append uI uJ (ah 7) (ao (cq (Kv (eS (v_ K (by exact aq)) (oI false) (ah 8) (ah 2)) (lj (ao (ah 8) (ao dI aK))) (ah 8))) aK)))))
   (bC (gX (mE (ah 5))
   (bW (lI (oG PySem.F.slot_list_append PySem.F.type_list_append uI uJ (ah 7) (ao (cq (lj (ao (ah 3) (ao dI aK)))) aK))))
   hY)
   (bW (fu (vW (ah 7)))))))))),rfl⟩)
theorem UZ:aM ["_law_found"] ["_law_found"] (dQ Fe):=⟨rfl,rfl,rfl,by decide +kernel,rfl,by decide +kernel,by decide +kernel⟩
def IE:GS:=(aP (si (gO cx (ai (aa 0) (ai (gC (.ty "int")) gN))) (sk (gO cx (ai (aa 0) (ai (gC (.ty "bool")) gN))))))
def Bl:GM:=runM 1 [false] IE
variable(P w K mg base t)in
abbrev IF:Prop:=bR P w K mg base fx 1 t.CT t.Cw ["_law_found"] (fL K 1 Bl)
theorem U0(T:Txt K mg t):IF P w K mg base t:=
 jx (k:=0) [false] IE T.y0.fn UZ rfl rfl (by decide) λdq A outer s H E hr=>(by
  exact⟨_,(bW (fu (μ (gj (qv K) qz T.aY qy (ao (ah 0) (ao (eH (d:=.ty "int") (qA (by rfl) T.rX JW)) aK))) (ι (ξ (gj (qv K) qz T.aY qy (ao (ah 0) (ao (eH (d:=.ty "bool") (qA (by rfl) T.xW Yb)) aK)))))))),rfl⟩)
theorem d_:aM ["_law_ways","_law_met","_law_road","_law_moment"] ["_law_ways"] (dQ E3):=⟨rfl,rfl,rfl,by decide +kernel,rfl,by decide +kernel,by decide +kernel⟩
def ltB:GS:=(ck (dO (dR (gO cx (ai (gB bB (aa 2) (aa 3)) (ai (gC (.ty "str")) gN)))))
  (jw (fA pQ (aa 1) (ai (av (bA .tup (ai (aa 3) (ai (gB bB (aa 2) (aa 3)) gN)))) gN)))
  bw)
def zZ:GS:=(uM (ai (gO cI (ai (aa 2) gN)) gN) (bj 3) ltB)
def Ig:GS:=(aR (ak 1 (bA .lst gN)) (aR (ef (aa 0) (bj 2) zZ) (aP (gB oEq (gO BE (ai (aa 1) gN)) (gO cI (ai (aa 1) gN))))))
def E4:GM:=runM 4 [false] Ig
variable(P w K mg base t)in
abbrev Nn:Prop:=bR P w K mg base fx 1 t.CV t.Cz ["_law_ways"] (fL K 1 E4)
theorem Ul(T:Txt K mg t):Nn P w K mg base t:=
 jx (k:=0) [false] Ig T.AL.fn d_ rfl rfl (by decide) λdq A outer s H E hr=>(by
  have dt:=qX hr;have aq:=jQ hr;exact⟨_,(bC (dg (i:=1) d_.nd rfl (Or.inl rfl) (mD aK))
   (bC (qZ PassesOwn.never (ah 0) (fm (i:=2) d_.nd rfl (Or.inl rfl)) fq
   (bW (xv PassesOwn.never T.df (ao (gj (kc K) ke T.cC j5 (ao (ah 2) aK)) aK) (fm (i:=3) d_.nd rfl (Or.inl rfl)) fq
   (bW (gX (oW (mE (gj (qv K) qz T.aY qy (ao (cb (by exact aq) (ah 2) (ah 3)) (ao (eH (d:=.ty "str") (qA (by rfl) T.nv BM)) aK)))))
   (bW (lI (oG PySem.F.slot_list_append PySem.F.type_list_append uI uJ (ah 1) (ao (cq (lj (ao (ah 3) (ao (cb (by exact aq) (ah 2) (ah 3)) aK)))) aK))))
   hY)))))
   (bW (fu (JY (rP K (by exact dt)) rW (VS T.cC T.B5 (ao (ah 1) aK) (by exact aq)) (gj (kc K) ke T.cC j5 (ao (ah 1) aK))))))),rfl⟩)
theorem mJ:aM ["net","start","end","came"] ["net","start","end"] (dQ GF):=⟨rfl,rfl,rfl,by decide +kernel,rfl,by decide +kernel,by decide +kernel⟩
def Ki:GS:=(aR (ak 3 (av (aI (bor rN) (ai (aa 0) (ai (aa 1) gN)))))
 (aR (iT (gT (gB (cg false) (aa 2) (aa 3))) (aR (jw (aI zv (ai (aa 0) (ai (aa 3) (ai (aa 2) gN)))))
 (ak 3 (av (aI (bor rN) (ai (aa 0) (ai (aa 1) gN)))))) 1000000)
 (aP (aa 3))))
def GK:GM:=runM 4 [true,false,false] Ki
variable(P w K mg base t)in
abbrev Rj:Prop:=bR P w K mg base fx 2 t.f1 t.d1 ["net","start","end"] (fL K 3 GK)
theorem YV(T:Txt K mg t)(g3:Ri P w K mg base t)(g2:Pc P w K mg base t):Rj P w K mg base t:=
 jx (k:=1) [true,false,false] Ki T.F1.fn mJ rfl rfl (by decide) λdq A outer s H E hr=>(by
  have aq:=jQ hr;exact⟨_,(bC (dg (i:=3) mJ.nd rfl (Or.inl rfl) (cq (eR T.F2 (Q_ g2) (by exact hr.mono (by decide)) (ao (ah 0) (ao (ah 1) aK)) (bf (bf dY)))))
   (bC (Fp 1000000 PassesOwn.never (eS (v_ K (by exact aq)) (oI false) (ah 2) (ah 3))
   (bC (lI (eR T.F3 g3 (by exact hr.mono (by decide)) (ao (ah 0) (ao (ah 3) (ao (ah 2) aK))) (bf (bf (bf dY)))))
   (bW (dg (i:=3) mJ.nd rfl (Or.inl rfl) (cq (eR T.F2 (Q_ g2) (by exact hr.mono (by decide)) (ao (ah 0) (ao (ah 1) aK)) (bf (bf dY))))))))
   (bW (fu (ah 3))))),rfl⟩)
theorem kU:aM ["house","place","belt","told"] ["house","place"] (dQ BF):=⟨rfl,rfl,rfl,by decide +kernel,rfl,by decide +kernel,by decide +kernel⟩
def JE:GS:=(aR (ak 2 (av (aI Bk (ai (aa 0) (ai (gB bB (aa 1) (gC (.int 0))) gN)))))
 (aR (ck (gT (gB oLt (gB b_ (gB bB (aa 1) (gC (.int 1))) (gC (.int 1))) (gB bB (aa 2) (gC (.int 1)))))
  (aP (bA .lst (ai (av (bA .tup (ai (gB bB (aa 1) (gC (.int 0))) (ai (av (gB b_ (gB bB (aa 1) (gC (.int 1))) (gC (.int 1)))) gN)))) gN)))
  bw)
 (aR (ak 3 (kJ (ka (gB bB (aa 2) (gC (.int 3)))) (bj 0) fQ (av (zM (gT (gB (cg false) (aa 0) (gB bB (aa 1) (gC (.int 1))))) (aa 0) (bA .tup (ai (aa 0) (ai (gC (.int 0)) gN))))) 1 [0]))
 (aR (ck (dR (gB bB (aa 2) (gC (.int 2))))
  (jw (fA pQ (aa 3) (ai (av (bA .tup (ai (gB bB (aa 1) (gC (.int 0))) (ai (gC (.int 0)) gN)))) gN)))
  bw)
 (aP (fP (aa 3)))))))
def Gd:GM:=runM 4 [false,false] JE
variable(P w K mg base t)in
abbrev Ql:Prop:=bR P w K mg base fx 2 t.f5 t.d5 ["house","place"] (fL K 2 Gd)
theorem Xf(T:Txt K mg t)(g4:Ow P w K mg base t):Ql P w K mg base t:=
 jx (k:=1) [false,false] JE T.F5.fn kU rfl rfl (by decide) λdq A outer s H E hr=>(by
  have aq:=jQ hr;exact⟨_,(bC (dg (i:=2) kU.nd rfl (Or.inl rfl) (cq (eR T.F4 g4 (by exact hr.mono (by decide)) (ao (ah 0) (ao (cb (by exact aq) (ah 1) dI) aK)) (bf (bf dY)))))
   (bC (gX (eS xY B9 (de (gM K) gP (cb (by exact aq) (ah 1) dI) dI) (cb (by exact aq) (ah 2) dI))
   (bW (fu (mD (ao (cq (lj (ao (cb (by exact aq) (ah 1) dI) (ao (cq (de (gM K) gP (cb (by exact aq) (ah 1) dI) dI)) aK)))) aK))))
   hY)
   (bC (Yu (i:=3) vR (k:=1) (cap:=[0]) fq (M:=["out","house"]) (bZ.of (dQ BF).names ["house","place","belt","told"] (by decide +kernel)) kU.nd rfl (Or.inl rfl) (vO K (cq (cb (by exact aq) (ah 2) dI)))
    (λ_ _ _ _=>(fm (i:=0) (show List.Nodup (["out","house"]:List Str) by decide +kernel) rfl (Or.inl rfl))) (λ_ _ _ _=>xH) (λ_ _ _ _=>(cq (Kv (eS (v_ K (by exact aq)) (oI false) (ah 0) (cb (by exact aq) (ah 1) dI)) (ah 0) (lj (ao (ah 0) (ao dI aK)))))))
   (bC (gX (mE (cb (by exact aq) (ah 2) dI))
   (bW (lI (oG PySem.F.slot_list_append PySem.F.type_list_append uI uJ (ah 3) (ao (cq (lj (ao (cb (by exact aq) (ah 1) dI) (ao dI aK)))) aK))))
   hY)
   (bW (fu (vW (ah 3)))))))),rfl⟩)
theorem eu:aM ["net","first","cart","told","gate","spot"] ["net","first","cart"] (dQ E7):=⟨rfl,rfl,rfl,by decide +kernel,rfl,by decide +kernel,by decide +kernel⟩
def Io:GS:=(aR (ak 3 (bA .lst gN))
 (aR (ak 4 (aa 1))
 (aR (iT (gT (gB dM (aa 4) (gC (.str "the end")))) (aR (ak 5 (gB bB (aa 4) (gC (.int 0))))
 (aR (jw (fA pQ (aa 3) (ai (av (bA .tup (ai (gB bB (aa 5) (gC (.int 0))) (ai (gB bB (aa 5) (gC (.int 1))) gN)))) gN)))
 (ak 4 (av (aI xI (ai (aa 0) (ai (av (bA .tup (ai (aa 5) (ai (gC (.str "out of")) gN)))) gN))))))) 1000000)
 (aP (gB b_ (aa 3) (bA .lst (ai (aa 2) gN)))))))
def Bd:GM:=runM 6 [false,false,false] Io
variable(P w K mg base t)in
abbrev NS:Prop:=bR P w K mg base fx 2 t.CJ t.zF ["net","first","cart"] (fL K 3 Bd)
theorem Uz(T:Txt K mg t)(g12:Qj P w K mg base t):NS P w K mg base t:=
 jx (k:=1) [false,false,false] Io T.AD.fn eu rfl rfl (by decide) λdq A outer s H E hr=>(by
  have dt:=qX hr;have aq:=jQ hr;exact⟨_,(bC (dg (i:=3) eu.nd rfl (Or.inl rfl) (mD aK))
   (bC (dg (i:=4) eu.nd rfl (Or.inl rfl) (ah 1))
   (bC (Fp 1000000 PassesOwn.never (eS (uR K (by exact dt)) uS (ah 4) (eH (d:=(.str "the end")) (xw (by rfl) T.rY)))
   (bC (dg (i:=5) eu.nd rfl (Or.inl rfl) (cb (by exact aq) (ah 4) dI))
   (bC (lI (oG PySem.F.slot_list_append PySem.F.type_list_append uI uJ (ah 3) (ao (cq (lj (ao (cb (by exact aq) (ah 5) dI) (ao (cb (by exact aq) (ah 5) dI) aK)))) aK)))
   (bW (dg (i:=4) eu.nd rfl (Or.inl rfl) (cq (eR T.AE g12 (by exact hr.mono (by decide)) (ao (ah 0) (ao (cq (lj (ao (ah 5) (ao (eH (d:=.str "out of") uc) aK)))) aK)) (bf (bf dY)))))))))
   (bW (fu (de (gM K) gP (ah 3) (mD (ao (ah 2) aK)))))))),rfl⟩)
theorem jL:aM ["_law_feed_here","_law_names","_law_k","_law_many","_law_outs_here","_law_j"] ["_law_feed_here","_law_names","_law_k","_law_many"] (dQ Bq):=⟨rfl,rfl,rfl,by decide +kernel,rfl,by decide +kernel,by decide +kernel⟩
def sO(ge:GE):GS:=(jw (fA vY (aa 4) (ai (av (aI lH (ai (aa 0) (ai (av (gB b_ (gO cI (ai (aa 4) gN)) (gC (.int 1)))) gN)))) (ai ge gN))))
def qd:GS:=(ck (gT (gB oEq (aI lH (ai (aa 0) (ai (gC (.int 3)) gN))) (gC (.int 0))))
  (sO (gB bB (aa 1) (aa 5)))
  bw)
def l7:GS:=ck (ie (gT (gB oLt (gB b_ (aa 2) (gC (.int 1))) (aa 3))) (ie (gT (gB sX (aI lH (ai (aa 0) (ai (gC (.int 4)) gN))) (gC (.int 0)))) (gT (gB (cg true) (gB bB (aa 1) (gB b_ (aa 2) (gC (.int 1)))) (aa 4)))))
  (sO (gB bB (aa 1) (gB b_ (aa 2) (gC (.int 1)))))
  bw
def n_:GS:=ck (ie (gT (gB (cg true) (gB bB (aa 1) (aa 3)) (aa 4))) (dO (dR (gO (zt λbs=>bs.any id) (ai (kJ (qf (ai (gB b_ (aa 2) (gC (.int 1))) (ai (aa 3) gN))) (bj 0) fQ (gB (cg false) (gB bB (aa 2) (aa 0)) (aa 1)) 1 [4,1]) gN)))))
  (sO (gB bB (aa 1) (aa 3)))
  bw
def Jj:GS:=aR (ak 4 (bA .lst gN)) (aR (Fq (ai (gB b_ (aa 2) (gC (.int 1))) (ai (gO cI (ai (aa 1) gN)) gN)) (bj 5) qd) (aR l7 (aR n_ (aP (fP (aa 4))))))
def FD:GM:=runM 6 [true,false,false,false] Jj
variable(P w K mg base t)in
abbrev Pf:Prop:=bR P w K mg base fx 2 t.CO t.Co ["_law_feed_here","_law_names","_law_k","_law_many"] (fL K 4 FD)
theorem V2(T:Txt K mg t)(kM:zb P w K mg base t):Pf P w K mg base t:=
 jx (k:=1) [true,false,false,false] Jj T.AH.fn jL rfl rfl (by decide) λdq A outer s H E hr=>(by
  have dt:=qX hr;have aq:=jQ hr;exact⟨_,(bC (dg (i:=4) jL.nd rfl (Or.inr rfl) (mD aK))
   (bC (Oc PassesOwn.never T.df (ao (de (gM K) gP (ah 2) dI) (ao (gj (kc K) ke T.cC j5 (ao (ah 1) aK)) aK)) (fm (i:=5) jL.nd rfl (Or.inl rfl)) fq
   (bW (gX (eS (rP K (by exact dt)) rW (eR T.kA kM (by exact hr.mono (by decide)) (ao (ah 0) (ao dI aK)) (bf (bf dY))) dI)
   (bW (lI (oG PySem.F.slot_list_insert PySem.F.type_list_insert Be Bf (ah 4) (ao (cq (eR T.kA kM (by exact hr.mono (by decide)) (ao (ah 0) (ao (cq (de (gM K) gP (gj (kc K) ke T.cC j5 (ao (ah 4) aK)) dI)) aK)) (bf (bf dY)))) (ao (cb (by exact aq) (ah 1) (ah 5)) aK)))))
   hY)))
   (bC (gX (PW.pt (v7 (eS xY B9 (de (gM K) gP (ah 2) dI) (ah 3)) (v7 (eS we wg (eR T.kA kM (by exact hr.mono (by decide)) (ao (ah 0) (ao dI aK)) (bf (bf dY))) dI) (xF (eS (vL K (by exact aq)) (oI true) (cb (by exact aq) (ah 1) (de (gM K) gP (ah 2) dI)) (ah 4))))))
   (bW (lI (oG PySem.F.slot_list_insert PySem.F.type_list_insert Be Bf (ah 4) (ao (cq (eR T.kA kM (by exact hr.mono (by decide)) (ao (ah 0) (ao (cq (de (gM K) gP (gj (kc K) ke T.cC j5 (ao (ah 4) aK)) dI)) aK)) (bf (bf dY)))) (ao (cb (by exact aq) (ah 1) (de (gM K) gP (ah 2) dI)) aK)))))
   hY)
   (bC (gX (PW.pt (v7 (eS (vL K (by exact aq)) (oI true) (cb (by exact aq) (ah 1) (ah 3)) (ah 4)) (xF (oW (mE (gj (VB K) (O0 _) T.B4 Ω (ao (FR υ (k:=1) (cap:=[4,1]) fq (M:=["_law_j","_law_outs_here","_law_names"]) (bZ.of (dQ Bq).names ["_law_feed_here","_law_names","_law_k","_law_many","_law_outs_here","_law_j"] (by decide +kernel)) (NX (by rfl) T.df (ao (de (gM K) gP (ah 2) dI) (ao (ah 3) aK)))
    (λ_ _ _ _=>(fm (i:=0) (show List.Nodup (["_law_j","_law_outs_here","_law_names"]:List Str) by decide +kernel) rfl (Or.inl rfl))) (λ_ _ _ _=>xH) (λ_ _ _ _=>(JY (v_ K (by exact aq)) (oI false) (cb (by exact aq) (ah 2) (ah 0)) (ah 1)))) aK)))))))
   (bW (lI (oG PySem.F.slot_list_insert PySem.F.type_list_insert Be Bf (ah 4) (ao (cq (eR T.kA kM (by exact hr.mono (by decide)) (ao (ah 0) (ao (cq (de (gM K) gP (gj (kc K) ke T.cC j5 (ao (ah 4) aK)) dI)) aK)) (bf (bf dY)))) (ao (cb (by exact aq) (ah 1) (ah 3)) aK)))))
   hY)
   (bW (fu (vW (ah 4)))))))),rfl⟩)
theorem l_:aM ["_law_house_here","_law_place","_law_cart","_law_told","_law_k"] ["_law_house_here","_law_place","_law_cart","_law_told"] (dQ FA):=⟨rfl,rfl,rfl,by decide +kernel,rfl,by decide +kernel,by decide +kernel⟩
def p9(one:GE):GT:=(iW (gT (gB oLt (gO cI (ai (aa 3) gN)) (gC (.int 2)))) (iW (gT (gB dM (gB bB (aa 3) (gC (.int 0))) (aa 1))) (gT (gB dM (gB bB (aa 3) (G' sY (gC (.int 1)))) one))))
def vd:GS:=(aR (ck (dR (gO cx (ai (gB bB (aa 3) (gB qK (aa 4) (gC (.int 1)))) (ai (gC (.ty "str")) gN))))
  (aP (gC (.bl false)))
  bw)
 (ck (ie (gT (gB dM (gB bB (aa 3) (aa 4)) (gB bB (aa 3) (gB qK (aa 4) (gC (.int 1)))))) (gT (gB (cg true) (gB bB (aa 3) (aa 4)) (aI xx (ai (aa 0) (ai (gB bB (aa 3) (gB qK (aa 4) (gC (.int 1)))) gN))))))
  (aP (gC (.bl false)))
  bw))
def Jk:GS:=aR (ck (p9 (aa 2)) (aP (gC (.bl false))) bw) (aR (Fq (ai (gC (.int 1)) (ai (gO cI (ai (aa 3) gN)) gN)) (bj 4) vd) (aP (gC (.bl true))))
def zc:GM:=runM 5 [false,false,false,false] Jk
variable(P w K mg base t)in
abbrev Pg:Prop:=bR P w K mg base fx 2 t.CU t.Cy ["_law_house_here","_law_place","_law_cart","_law_told"] (fL K 4 zc)
theorem V3(T:Txt K mg t)(La:ID P w K mg base t):Pg P w K mg base t:=
 jx (k:=1) [false,false,false,false] Jk T.AK.fn l_ rfl rfl (by decide) λdq A outer s H E hr=>(by
  have dt:=qX hr;have aq:=jQ hr;exact⟨_,(bC (gX (PW.pt (rV (eS xY B9 (gj (kc K) ke T.cC j5 (ao (ah 3) aK)) dI) (rV (eS (uR K (by exact dt)) uS (cb (by exact aq) (ah 3) dI) (ah 1)) (xP (eS (uR K (by exact dt)) uS (cb (by exact aq) (ah 3) (RV QV Q3 dI)) (ah 2))))))
   (bW (fu (eH (d:=.bl false) oZ)))
   hY)
   (bC (Oc PassesOwn.never T.df (ao dI (ao (gj (kc K) ke T.cC j5 (ao (ah 3) aK)) aK)) (fm (i:=4) l_.nd rfl (Or.inl rfl)) fq
   (bC (gX (mE (gj (qv K) qz T.aY qy (ao (cb (by exact aq) (ah 3) (de BL BQ (ah 4) dI)) (ao (eH (d:=.ty "str") (qA (by rfl) T.nv BM)) aK))))
   (bW (fu (eH (d:=.bl false) oZ)))
   hY)
   (bW (gX (PW.pt (v7 (eS (uR K (by exact dt)) uS (cb (by exact aq) (ah 3) (ah 4)) (cb (by exact aq) (ah 3) (de BL BQ (ah 4) dI))) (xF (eS (vL K (by exact aq)) (oI true) (cb (by exact aq) (ah 3) (ah 4)) (eR T.yZ La (by exact hr.mono (by decide)) (ao (ah 0) (ao (cb (by exact aq) (ah 3) (de BL BQ (ah 4) dI)) aK)) (bf (bf dY)))))))
   (bW (fu (eH (d:=.bl false) oZ)))
   hY))))
   (bW (fu (eH (d:=.bl true) oZ))))),rfl⟩)
theorem eA:aM ["_law_feed_here","_law_house_here","_law_most","_law_cells_here","_law_places_here","_law_k","_law_place"] ["_law_feed_here","_law_house_here","_law_most"] (dQ E8):=⟨rfl,rfl,rfl,by decide +kernel,rfl,by decide +kernel,by decide +kernel⟩
def tF:GS:=(jw (fA vY (aa 4) (ai (av (aI lH (ai (aa 0) (ai (av (gB b_ (gO cI (ai (aa 4) gN)) (gC (.int 1)))) gN)))) (ai (aa 6) gN))))
def qL:GS:=(aR (ak 6 (gB bB (aa 3) (aI lH (ai (aa 0) (ai (gO cI (ai (aa 3) gN)) gN)))))
 (ck (gT (gB (cg true) (aa 6) (aa 4))) tF bw))
def Ip:GS:=(aR (ak 3 (av (aI Ff (ai (aa 1) gN))))
 (aR (ak 4 (bA .lst gN))
 (aR (uM (ai (aI lH (ai (aa 0) (ai (av (gB b_ (aa 2) (gC (.int 1)))) gN))) gN) (bj 5) qL)
 (aP (fP (aa 4))))))
def E9:GM:=runM 7 [true,false,false] Ip
variable(P w K mg base t)in
abbrev NT:Prop:=bR P w K mg base fx 2 t.CW t.CA ["_law_feed_here","_law_house_here","_law_most"] (fL K 3 E9)
theorem UA(T:Txt K mg t)(g18:Ox P w K mg base t)(kM:zb P w K mg base t):NT P w K mg base t:=
 jx (k:=1) [true,false,false] Ip T.AM.fn eA rfl rfl (by decide) λdq A outer s H E hr=>(by
  have aq:=jQ hr;exact⟨_,(bC (dg (i:=3) eA.nd rfl (Or.inl rfl) (cq (eR T.AJ g18 (by exact hr.mono (by decide)) (ao (ah 1) aK) (bf dY))))
   (bC (dg (i:=4) eA.nd rfl (Or.inl rfl) (mD aK))
   (bC (xv PassesOwn.never T.df (ao (eR T.kA kM (by exact hr.mono (by decide)) (ao (ah 0) (ao (cq (de (gM K) gP (ah 2) dI)) aK)) (bf (bf dY))) aK) (fm (i:=5) eA.nd rfl (Or.inl rfl)) fq
   (bC (dg (i:=6) eA.nd rfl (Or.inl rfl) (cb (by exact aq) (ah 3) (eR T.kA kM (by exact hr.mono (by decide)) (ao (ah 0) (ao (gj (kc K) ke T.cC j5 (ao (ah 3) aK)) aK)) (bf (bf dY)))))
   (bW (gX (eS (vL K (by exact aq)) (oI true) (ah 6) (ah 4))
   (bW (lI (oG PySem.F.slot_list_insert PySem.F.type_list_insert Be Bf (ah 4) (ao (cq (eR T.kA kM (by exact hr.mono (by decide)) (ao (ah 0) (ao (cq (de (gM K) gP (gj (kc K) ke T.cC j5 (ao (ah 4) aK)) dI)) aK)) (bf (bf dY)))) (ao (ah 6) aK)))))
   hY))))
   (bW (fu (vW (ah 4))))))),rfl⟩)
theorem dN:aM ["_law_feed_here","_law_house_here","_law_places_here","_law_cart","_law_turns","_law_here","_law_moment","_law_order","_law_k","_law_left","_law_some","_law_free"] ["_law_feed_here","_law_house_here","_law_places_here","_law_cart","_law_turns"] (dQ zj):=⟨rfl,rfl,rfl,by decide +kernel,rfl,by decide +kernel,by decide +kernel⟩
def n9:GS:=(ck (gT (gB dM (gB bB (aa 5) (aa 8)) (aa 3)))
  (jw (fA vY (aa 7) (ai (av (aI lH (ai (aa 0) (ai (av (gB b_ (gO cI (ai (aa 7) gN)) (gC (.int 1)))) gN)))) (ai (aa 8) gN))))
  bw)
def Ek:GE:=(kJ (ka (aI xx (ai (aa 1) (ai (gB bB (aa 5) (aa 8)) gN)))) (bj 0) (iW (gT (gB oEq (aa 0) (aa 1))) (dO (dR (gO cx (ai (aa 0) (ai (gC (.ty "str")) gN)))))) (aa 0) 1 [3])
def C8:GE:=(kJ (ka (aa 10)) (bj 0) (iW (gT (gB oEq (aa 0) (aa 1))) (gT (gB (cg true) (aa 0) (aa 2)))) (aa 0) 1 [3,5])
def DI:GS:=(aR (fR (aa 3) (aa 5) (aa 8))
 (jw (fA t9 (aa 9) (ai (aa 8) gN))))
def Hw:GT:=(ie (gT (gB dM (aa 11) (bA .lst gN))) (gT (gB sX (aI lH (ai (aa 0) (ai (gC (.int 6)) gN))) (gC (.int 0)))))
def Hv:GS:=(aR (fR (gB bB (aa 11) (aI lH (ai (aa 0) (ai (gO cI (ai (aa 11) gN)) gN)))) (aa 5) (aa 8))
 (jw (fA t9 (aa 9) (ai (aa 8) gN))))
def rB:GS:=(ck (gT (gB (cg false) (aa 3) (aa 11))) DI (ck Hw Hv bw))
def wO:GS:=(ck (gT (gB (cg false) (aa 8) (aa 9))) (aR (ak 10 (av Ek)) (aR (ak 11 (av C8)) rB)) bw)
def Eu:GS:=(aR (ak 7 (bA .lst gN))
 (aR (uM (ai (gO cI (ai (aa 5) gN)) gN) (bj 8) n9)
 (aR (ak 9 (gO iO (ai (aa 7) gN))) (ef (gB b_ (aa 7) (aa 7)) (bj 8) wO))))
def JF:GS:=(aR (ak 5 (gO iO (ai (aa 2) gN)))
 (aR (uM (ai (aa 4) gN) (bj 6) Eu) (sx 5 (aP (zu GD (aa 5) (ai (aa 3) gN))))))
def Ge:GM:=runM 12 [true,false,false,false,false] JF
variable(P w K mg base t)in
abbrev Qm:Prop:=bR P w K mg base fx 2 t.CY t.CB ["_law_feed_here","_law_house_here","_law_places_here","_law_cart","_law_turns"] (fL K 5 Ge)
theorem Xg(T:Txt K mg t)(kM:zb P w K mg base t)(La:ID P w K mg base t):Qm P w K mg base t:=
 jx (k:=1) [true,false,false,false,false] JF T.AN.fn dN rfl rfl (by decide) λdq A outer s H E hr=>(by
  have dt:=qX hr;have aq:=jQ hr;exact⟨_,(bC (dg (i:=5) dN.nd rfl (Or.inr rfl) (xu (E2 K) FQ T.iV xE (ao (ah 2) aK)))
   (bC (xv PassesOwn.never T.df (ao (ah 4) aK) (fm (i:=6) dN.nd rfl (Or.inl rfl)) fq
   (bC (dg (i:=7) dN.nd rfl (Or.inl rfl) (mD aK))
   (bC (xv PassesOwn.never T.df (ao (gj (kc K) ke T.cC j5 (ao (ah 5) aK)) aK) (fm (i:=8) dN.nd rfl (Or.inl rfl)) fq
   (bW (gX (eS (uR K (by exact dt)) uS (cb (by exact aq) (ah 5) (ah 8)) (ah 3))
   (bW (lI (oG PySem.F.slot_list_insert PySem.F.type_list_insert Be Bf (ah 7) (ao (cq (eR T.kA kM (by exact hr.mono (by decide)) (ao (ah 0) (ao (cq (de (gM K) gP (gj (kc K) ke T.cC j5 (ao (ah 7) aK)) dI)) aK)) (bf (bf dY)))) (ao (ah 8) aK)))))
   hY)))
   (bC (dg (i:=9) dN.nd rfl (Or.inl rfl) (xu (E2 K) FQ T.iV xE (ao (ah 7) aK)))
   (bW (qZ PassesOwn.never (de (gM K) gP (ah 7) (ah 7)) (fm (i:=8) dN.nd rfl (Or.inl rfl)) fq
   (bW (gX (eS (v_ K (by exact aq)) (oI false) (ah 8) (ah 9))
   (bC (xC (i:=10) vR (k:=1) (cap:=[3]) fq (M:=["_law_step","_law_cart"]) (bZ.of (dQ zj).names ["_law_feed_here","_law_house_here","_law_places_here","_law_cart","_law_turns","_law_here","_law_moment","_law_order","_law_k","_law_left","_law_some","_law_free"] (by decide +kernel)) dN.nd rfl (Or.inl rfl) (vO K (cq (eR T.yZ La (by exact hr.mono (by decide)) (ao (ah 1) (ao (cb (by exact aq) (ah 5) (ah 8)) aK)) (bf (bf dY)))))
    (λ_ _ _ _=>(fm (i:=0) (show List.Nodup (["_law_step","_law_cart"]:List Str) by decide +kernel) rfl (Or.inl rfl))) (λ_ _ _ _=>(BC (PW.pt (rV (eS (rP K (by exact dt)) rW (ah 0) (ah 1)) (xP (oW (mE (gj (qv K) qz (by exact T.aY) qy (ao (ah 0) (ao (eH (d:=.ty "str") (qA (by rfl) (by exact T.nv) BM)) aK)))))))))) (λ_ _ _ _=>(ah 0)))
   (bC (xC (i:=11) vR (k:=1) (cap:=[3,5]) fq (M:=["_law_step","_law_cart","_law_here"]) (bZ.of (dQ zj).names ["_law_feed_here","_law_house_here","_law_places_here","_law_cart","_law_turns","_law_here","_law_moment","_law_order","_law_k","_law_left","_law_some","_law_free"] (by decide +kernel)) dN.nd rfl (Or.inl rfl) (vO K (cq (ah 10)))
    (λ_ _ _ _=>(fm (i:=0) (show List.Nodup (["_law_step","_law_cart","_law_here"]:List Str) by decide +kernel) rfl (Or.inl rfl))) (λ_ _ _ _=>(BC (PW.pt (rV (eS (rP K (by exact dt)) rW (ah 0) (ah 1)) (xP (eS (vL K (by exact aq)) (oI true) (ah 0) (ah 2))))))) (λ_ _ _ _=>(ah 0)))
   (bW (gX (eS (v_ K (by exact aq)) (oI false) (ah 3) (ah 11))
   (bC (xR (ah 3) (ah 5) (ah 8) (by exact aq))
   (bW (lI (oG PySem.F.slot_list_remove PySem.F.type_list_remove NP NR (ah 9) (ao (ah 8) aK)))))
   (bW (gX (PW.pt (v7 (eS (uR K (by exact dt)) uS (ah 11) (mD aK)) (xF (eS we wg (eR T.kA kM (by exact hr.mono (by decide)) (ao (ah 0) (ao dI aK)) (bf (bf dY))) dI))))
   (bC (xR (cb (by exact aq) (ah 11) (eR T.kA kM (by exact hr.mono (by decide)) (ao (ah 0) (ao (gj (kc K) ke T.cC j5 (ao (ah 11) aK)) aK)) (bf (bf dY)))) (ah 5) (ah 8) (by exact aq))
   (bW (lI (oG PySem.F.slot_list_remove PySem.F.type_list_remove NP NR (ah 9) (ao (ah 8) aK)))))
   hY))))))
   hY))))))))
   (RZ (i:=5) (bW (fu (O4 PySem.F.slot_list_count PySem.F.type_list_count (Xc K (by exact aq)) Xd (ah 5) (ao (ah 3) aK))))))),rfl⟩)
theorem Ut:aM ["_law_spot","_law_size"] ["_law_spot","_law_size"] (dQ Ba):=⟨rfl,rfl,rfl,by decide +kernel,rfl,by decide +kernel,by decide +kernel⟩
def Ih:GS:=(aR (ck (iW (dO (dR (gO cx (ai (aa 0) (ai (gC (.ty "tuple")) gN))))) (iW (gT (gB dM (gO cI (ai (aa 0) gN)) (aa 1))) (dO (dR (gO cx (ai (gB bB (aa 0) (gC (.int 0))) (ai (gC (.ty "str")) gN)))))))
  (aP (gC (.bl false)))
  bw)
 (aP (gO (zt λbs=>bs.all id) (ai (kJ (vn (uQ (aa 0) (wa (gC (.int 1))) xS)) (bj 0) fQ (oX Bl (ai (aa 0) gN)) 1 []) gN))))
def Bb:GM:=runM 2 [false,false] Ih
variable(P w K mg base t)in
abbrev Nx:Prop:=bR P w K mg base fx 2 t.C0 t.CD ["_law_spot","_law_size"] (fL K 2 Bb)
theorem Uu(T:Txt K mg t)(Lb:IF P w K mg base t):Nx P w K mg base t:=
 jx (k:=1) [false,false] Ih T.AQ.fn Ut rfl rfl (by decide) λdq A outer s H E hr=>(by
  have dt:=qX hr;have aq:=jQ hr;exact⟨_,(bC (gX (PW.pt (rV (oW (mE (gj (qv K) qz T.aY qy (ao (ah 0) (ao (eH (d:=.ty "tuple") (qA (by rfl) T.kg Fm)) aK))))) (rV (eS (uR K (by exact dt)) uS (gj (kc K) ke T.cC j5 (ao (ah 0) aK)) (ah 1)) (xP (oW (mE (gj (qv K) qz T.aY qy (ao (cb (by exact aq) (ah 0) dI) (ao (eH (d:=.ty "str") (qA (by rfl) T.nv BM)) aK)))))))))
   (bW (fu (eH (d:=.bl false) oZ)))
   hY)
   (bW (fu (gj (VD K) (O0 _) T.B0 Ψ (ao (FR YQ (k:=1) (cap:=[]) fq (M:=["_law_number"]) (bZ.of (dQ Ba).names ["_law_spot","_law_size"] (by decide +kernel)) (Yg K (cq (Bo (ah 0) (BB dI) BA)))
    (λ_ _ _ _=>(fm (i:=0) (show List.Nodup (["_law_number"]:List Str) by decide +kernel) rfl (Or.inl rfl))) (λ_ _ _ _=>xH) (λ_ _ _ _=>(xD T.y0 Lb (by exact hr.mono (by decide)) (ao (ah 0) aK) (bf dY)))) aK))))),rfl⟩)
theorem Xh:aM ["house","place"] ["house","place"] (dQ Gb):=⟨rfl,rfl,rfl,by decide +kernel,rfl,by decide +kernel,by decide +kernel⟩
def JG:GS:=(aP (gB b_ (aI Gd (ai (aa 0) (ai (aa 1) gN))) (bA .lst (ai (aa 1) gN))))
def zk:GM:=runM 2 [false,false] JG
variable(P w K mg base t)in
abbrev Qn:Prop:=bR P w K mg base fx 3 t.f6 t.d6 ["house","place"] (fL K 2 zk)
theorem Xi(T:Txt K mg t)(g5:Ql P w K mg base t):Qn P w K mg base t:=
 jx (k:=2) [false,false] JG T.F6.fn Xh rfl rfl (by decide) λdq A outer s H E hr=>(by
  exact⟨_,(bW (fu (de (gM K) gP (eR T.F5 g5 (by exact hr.mono (by decide)) (ao (ah 0) (ao (ah 1) aK)) (bf (bf dY))) (mD (ao (ah 1) aK))))),rfl⟩)
theorem bG:aM ["_law_feed_here","_law_many","_law_long","_law_great","_law_style","_law_names","_law_belts","_law_k","_law_ring","_law_cells_here"] ["_law_feed_here"] (dQ Bh):=⟨rfl,rfl,rfl,by decide +kernel,rfl,by decide +kernel,by decide +kernel⟩
def zU:GS:=(ck (gT (gB oEq (aa 3) (gC (.int 5))))
  (aR (ak 1 (gC (.int 6)))
 (ak 2 (gC (.int 5))))
  bw)
def zV:GS:=(ck (gT (gB oEq (aa 3) (gC (.int 6))))
  (aR (ak 1 (av (gB b_ (gC (.int 1)) (gB l6 (aa 1) (gC (.int 3))))))
 (ak 2 (gC (.int 14))))
  bw)
def wQ:GE:=(kJ (mh (ai (gB b_ (gB b_ (aa 1) (gC (.int 1))) (aI lH (ai (aa 0) (ai (gC (.int 3)) gN)))) gN)) (bj 0) fQ (oX vV (ai (aa 1) (ai (aa 0) gN))) 1 [4])
def pV:GS:=(aR (ak 8 (gB oEq (aI lH (ai (aa 0) (ai (gC (.int 3)) gN))) (gC (.int 0))))
 (aR (ak 9 (av (gB b_ (gB b_ (gC (.int 1)) (gO n8 (ai (aa 8) gN))) (aI lH (ai (aa 0) (ai (gB qK (aa 2) (gO n8 (ai (aa 8) gN))) gN))))))
 (jw (fA pQ (aa 6) (ai (av (bA .tup (ai (gB bB (aa 5) (aa 7)) (ai (aa 9) (ai (aa 8) (ai (av (aI FD (ai (aa 0) (ai (aa 5) (ai (aa 7) (ai (aa 1) gN)))))) gN)))))) gN)))))
def oh:GS:=(aR (ak 4 (av (aI lH (ai (aa 0) (ai (gC (.int 27)) gN)))))
 (aR (ak 5 (av wQ))
 (aR (ak 6 (bA .lst gN))
 (aR (uM (ai (aa 1) gN) (bj 7) pV)
 (aP (bA .tup (ai (fP (aa 6)) (ai (av (uQ (aa 5) (wa (aa 1)) xS)) gN))))))))
def IG:GS:=aR (ak 1 (av (gB b_ (gC (.int 1)) (aI lH (ai (aa 0) (ai (gC (.int 4)) gN)))))) (aR (ak 2 (gC (.int 4))) (aR (ak 3 (av (aI lH (ai (aa 0) (ai (gC (.int 8)) gN))))) (aR zU (aR zV oh))))
def Fg:GM:=runM 10 [true] IG
variable(P w K mg base t)in
abbrev Oy:Prop:=bR P w K mg base fx 3 t.CP t.Cp ["_law_feed_here"] (fL K 1 Fg)
theorem U1(T:Txt K mg t)(kM:zb P w K mg base t)(g15:Pe P w K mg base t)(g16:Pf P w K mg base t):Oy P w K mg base t:=
 jx (k:=2) [true] IG T.AI.fn bG rfl rfl (by decide) λdq A outer s H E hr=>(by
  have dt:=qX hr;have aq:=jQ hr;exact⟨_,(bC (dg (i:=1) bG.nd rfl (Or.inl rfl) (cq (de (gM K) gP dI (eR T.kA kM (by exact hr.mono (by decide)) (ao (ah 0) (ao dI aK)) (bf (bf dY))))))
   (bC (dg (i:=2) bG.nd rfl (Or.inl rfl) dI)
   (bC (dg (i:=3) bG.nd rfl (Or.inl rfl) (cq (eR T.kA kM (by exact hr.mono (by decide)) (ao (ah 0) (ao dI aK)) (bf (bf dY)))))
   (bC (gX (eS (rP K (by exact dt)) rW (ah 3) dI)
   (bC (dg (i:=1) bG.nd rfl (Or.inl rfl) dI)
   (bW (dg (i:=2) bG.nd rfl (Or.inl rfl) dI)))
   hY)
   (bC (gX (eS (rP K (by exact dt)) rW (ah 3) dI)
   (bC (dg (i:=1) bG.nd rfl (Or.inl rfl) (cq (de (gM K) gP dI (de Bs Bu (ah 1) dI))))
   (bW (dg (i:=2) bG.nd rfl (Or.inl rfl) dI)))
   hY)
   (bC (dg (i:=4) bG.nd rfl (Or.inr rfl) (cq (eR T.kA kM (by exact hr.mono (by decide)) (ao (ah 0) (ao dI aK)) (bf (bf dY)))))
   (bC (xC (i:=5) Q6 (k:=1) (cap:=[4]) fq (M:=["_law_k","_law_style"]) (bZ.of (dQ Bh).names ["_law_feed_here","_law_many","_law_long","_law_great","_law_style","_law_names","_law_belts","_law_k","_law_ring","_law_cells_here"] (by decide +kernel)) bG.nd rfl (Or.inl rfl) (Iu (by rfl) T.df (ao (de (gM K) gP (de (gM K) gP (ah 1) dI) (eR T.kA kM (by exact hr.mono (by decide)) (ao (ah 0) (ao dI aK)) (bf (bf dY)))) aK))
    (λ_ _ _ _=>(fm (i:=0) (show List.Nodup (["_law_k","_law_style"]:List Str) by decide +kernel) rfl (Or.inl rfl))) (λ_ _ _ _=>xH) (λ_ _ _ _=>(xD T.AG g15 (by exact hr.mono (by decide)) (ao (ah 1) (ao (ah 0) aK)) (bf (bf dY)))))
   (bC (dg (i:=6) bG.nd rfl (Or.inl rfl) (mD aK))
   (bC (xv PassesOwn.never T.df (ao (ah 1) aK) (fm (i:=7) bG.nd rfl (Or.inl rfl)) fq
   (bC (dg (i:=8) bG.nd rfl (Or.inl rfl) (JY (rP K (by exact dt)) rW (eR T.kA kM (by exact hr.mono (by decide)) (ao (ah 0) (ao dI aK)) (bf (bf dY))) dI))
   (bC (dg (i:=9) bG.nd rfl (Or.inl rfl) (cq (de (gM K) gP (de (gM K) gP dI (xu NZ P1 T.rX JW (ao (ah 8) aK))) (eR T.kA kM (by exact hr.mono (by decide)) (ao (ah 0) (ao (de BL BQ (ah 2) (xu NZ P1 T.rX JW (ao (ah 8) aK))) aK)) (bf (bf dY))))))
   (bW (lI (oG PySem.F.slot_list_append PySem.F.type_list_append uI uJ (ah 6) (ao (cq (lj (ao (cb (by exact aq) (ah 5) (ah 7)) (ao (ah 9) (ao (ah 8) (ao (cq (eR T.AH g16 (by exact hr.mono (by decide)) (ao (ah 0) (ao (ah 5) (ao (ah 7) (ao (ah 1) aK)))) (bf (bf (bf (bf dY)))))) aK)))))) aK)))))))
   (bW (fu (lj (ao (vW (ah 6)) (ao (cq (Bo (ah 5) (BB (ah 1)) BA)) aK)))))))))))))),rfl⟩)
theorem cF:aM ["_law_house_here","_law_places_here","_law_cart","_law_turns","_law_ways","_law_last","_law_one","_law_spot"] ["_law_house_here","_law_places_here","_law_cart","_law_turns","_law_ways"] (dQ A_):=⟨rfl,rfl,rfl,by decide +kernel,rfl,by decide +kernel,by decide +kernel⟩
def vA:GT:=(iW (dO (dR (gO cx (ai (aa 6) (ai (gC (.ty "tuple")) gN))))) (iW (gT (gB dM (gO cI (ai (aa 6) gN)) (gC (.int 2)))) (iW (dO (dR (oX Bl (ai (gB bB (aa 6) (gC (.int 0))) gN)))) (dO (dR (gO cx (ai (gB bB (aa 6) (gC (.int 1))) (ai (gC (.ty "list")) gN))))))))
def vB:GT:=(iW (dO (GB (λi j=>decide (i<j)) (λi j=>decide (i<j)) (aa 5) (gB bB (aa 6) (gC (.int 0))) (gO cI (ai (aa 1) gN)))) (gT (gB sX (gO cI (ai (gB bB (aa 6) (gC (.int 1))) gN)) (gB b_ (aa 3) (gC (.int 1))))))
def Ah:GS:=(ck (ie (dO (dR (gO cx (ai (aa 7) (ai (gC (.ty "str")) gN))))) (dO (dR (oX Bb (ai (aa 7) (ai (gC (.int 2)) gN))))))
  (aP (gC (.bl false)))
  bw)
def HK:GS:=ef (gB bB (aa 6) (gC (.int 1))) (bj 7) Ah
def vC:GT:=(dO (dR (oX zc (ai (aa 0) (ai (gB bB (aa 1) (aa 5)) (ai (aa 2) (ai (gB bB (aa 6) (gC (.int 1))) gN)))))))
def Ag:GS:=aR (ck vA (aP (gC (.bl false))) bw) (aR (ck vB (aP (gC (.bl false))) bw) (aR (ak 5 (gB bB (aa 6) (gC (.int 0)))) (aR HK (ck vC (aP (gC (.bl false))) bw))))
def Tp:GE:=kJ (ka (aa 4)) (bj 0) fQ (gB bB (aa 0) (gC (.int 1))) 1 []
def Ie:GS:=aR (ck (dO (dR (gO cx (ai (aa 4) (ai (gC (.ty "list")) gN))))) (aP (gC (.bl false))) bw) (aR (ak 5 (G' sY (gC (.int 1)))) (aR (ef (aa 4) (bj 6) Ag) (aP (oX E4 (ai Tp gN)))))
def E1:GM:=runM 8 [false,false,false,false,false] Ie
variable(P w K mg base t)in
abbrev Ni:Prop:=bR P w K mg base fx 3 t.CZ t.CC ["_law_house_here","_law_places_here","_law_cart","_law_turns","_law_ways"] (fL K 5 E1)
theorem Ug(T:Txt K mg t)(g21:Pg P w K mg base t)(g26:Nx P w K mg base t)(g22:Nn P w K mg base t)(Lb:IF P w K mg base t):Ni P w K mg base t:=
 jx (k:=2) [false,false,false,false,false] Ie T.AO.fn cF rfl rfl (by decide) λdq A outer s H E hr=>(by
  have dt:=qX hr;have aq:=jQ hr;exact⟨_,(bC (gX (oW (mE (gj (qv K) qz T.aY qy (ao (ah 4) (ao (eH (d:=.ty "list") (qA (by rfl) T.iV xE)) aK)))))
   (bW (fu (eH (d:=.bl false) oZ)))
   hY)
   (bC (dg (i:=5) cF.nd rfl (Or.inl rfl) (RV QV Q3 dI))
   (bC (qZ PassesOwn.never (ah 4) (fm (i:=6) cF.nd rfl (Or.inl rfl)) fq
   (bC (gX (PW.pt (rV (oW (mE (gj (qv K) qz T.aY qy (ao (ah 6) (ao (eH (d:=.ty "tuple") (qA (by rfl) T.kg Fm)) aK))))) (rV (eS (uR K (by exact dt)) uS (gj (kc K) ke T.cC j5 (ao (ah 6) aK)) dI) (rV (oW (mE (xD T.y0 Lb (by exact hr.mono (by decide)) (ao (cb (by exact aq) (ah 6) dI) aK) (bf dY)))) (xP (oW (mE (gj (qv K) qz T.aY qy (ao (cb (by exact aq) (ah 6) dI) (ao (eH (d:=.ty "list") (qA (by rfl) T.iV xE)) aK))))))))))
   (bW (fu (eH (d:=.bl false) oZ)))
   hY)
   (bC (gX (PW.pt (rV (oW (W7 xY xY (ah 5) (cb (by exact aq) (ah 6) dI) (gj (kc K) ke T.cC j5 (ao (ah 1) aK)))) (xP (eS we wg (gj (kc K) ke T.cC j5 (ao (cb (by exact aq) (ah 6) dI) aK)) (de (gM K) gP (ah 3) dI)))))
   (bW (fu (eH (d:=.bl false) oZ)))
   hY)
   (bC (dg (i:=5) cF.nd rfl (Or.inl rfl) (cb (by exact aq) (ah 6) dI))
   (bC (qZ PassesOwn.never (cb (by exact aq) (ah 6) dI) (fm (i:=7) cF.nd rfl (Or.inl rfl)) fq
   (bW (gX (PW.pt (v7 (oW (mE (gj (qv K) qz T.aY qy (ao (ah 7) (ao (eH (d:=.ty "str") (qA (by rfl) T.nv BM)) aK))))) (xF (oW (mE (xD T.AQ g26 (by exact hr.mono (by decide)) (ao (ah 7) (ao dI aK)) (bf (bf dY))))))))
   (bW (fu (eH (d:=.bl false) oZ)))
   hY)))
   (bW (gX (oW (mE (xD T.AK g21 (by exact hr.mono (by decide)) (ao (ah 0) (ao (cb (by exact aq) (ah 1) (ah 5)) (ao (ah 2) (ao (cb (by exact aq) (ah 6) dI) aK)))) (bf (bf (bf (bf dY)))))))
   (bW (fu (eH (d:=.bl false) oZ)))
   hY)))))))
   (bW (fu (xD T.AL g22 (by exact hr.mono (by decide)) (ao (FR vR (k:=1) (cap:=[]) fq (M:=["_law_one"]) (bZ.of (dQ A_).names ["_law_house_here","_law_places_here","_law_cart","_law_turns","_law_ways","_law_last","_law_one","_law_spot"] (by decide +kernel)) (vO K (cq (ah 4)))
    (λ_ _ _ _=>(fm (i:=0) (show List.Nodup (["_law_one"]:List Str) by decide +kernel) rfl (Or.inl rfl))) (λ_ _ _ _=>xH) (λ_ _ _ _=>(cb (by exact aq) (ah 0) dI))) aK) (bf dY))))))),rfl⟩)
theorem dD:aM ["net","house","place","moment","cart","plenty","gate","behind","goals","places","goal"] ["net","house","place","moment","cart","plenty"] (dQ Bc):=⟨rfl,rfl,rfl,by decide +kernel,rfl,by decide +kernel,by decide +kernel⟩
def Iq:GS:=(aR (ak 6 (av (aI uk (ai (aa 2) (ai (aa 3) gN)))))
 (aR (ak 7 (av (bA .tup (ai (gB bB (aa 6) (gC (.int 0))) (ai (gC (.str "out of")) gN)))))
 (aR (jw (aI um (ai (aa 0) (ai (aa 6) (ai (aa 7) (ai (gC (.int 1)) gN))))))
 (aR (ak 8 (av (aI zk (ai (aa 1) (ai (aa 2) gN)))))
 (aR (ck (gT (gB (cg false) (aa 4) (aa 8)))
  (jw (aI um (ai (aa 0) (ai (aa 7) (ai (av (gC (.str "the end"))) (ai (aa 5) gN))))))
  bw)
 (aR (ak 9 (av (kJ (ka (aa 8)) (bj 0) (dR (gO cx (ai (aa 0) (ai (gC (.ty "tuple")) gN)))) (aa 0) 1 [])))
 (aR (ef (aa 9) (bj 10)
  (jw (aI um (ai (aa 0) (ai (aa 7) (ai (av (aI uk (ai (aa 10) (ai (av (gB b_ (aa 3) (gC (.int 1)))) gN)))) (ai (aa 5) gN)))))))
 (aP (aa 9)))))))))
def E_:GM:=runM 11 [true,false,false,false,false,false] Iq
variable(P w K mg base t)in
abbrev NU:Prop:=bR P w K mg base fx 4 t.CI t.zE ["net","house","place","moment","cart","plenty"] (fL K 6 E_)
theorem UB(T:Txt K mg t)(g8:GJ P w K mg base t)(g0:KG P w K mg base t)(g6:Qn P w K mg base t):NU P w K mg base t:=
 jx (k:=3) [true,false,false,false,false,false] Iq T.AB.fn dD rfl rfl (by decide) λdq A outer s H E hr=>(by
  have aq:=jQ hr;exact⟨_,(bC (dg (i:=6) dD.nd rfl (Or.inl rfl) (cq (eR T.F8 g8 (by exact hr.mono (by decide)) (ao (ah 2) (ao (ah 3) aK)) (bf (bf dY)))))
   (bC (dg (i:=7) dD.nd rfl (Or.inl rfl) (cq (lj (ao (cb (by exact aq) (ah 6) dI) (ao (eH (d:=.str "out of") uc) aK)))))
   (bC (lI (eR T.F0 g0 (by exact hr.mono (by decide)) (ao (ah 0) (ao (ah 6) (ao (ah 7) (ao dI aK)))) (bf (bf (bf (bf dY))))))
   (bC (dg (i:=8) dD.nd rfl (Or.inl rfl) (cq (eR T.F6 g6 (by exact hr.mono (by decide)) (ao (ah 1) (ao (ah 2) aK)) (bf (bf dY)))))
   (bC (gX (eS (v_ K (by exact aq)) (oI false) (ah 4) (ah 8))
   (bW (lI (eR T.F0 g0 (by exact hr.mono (by decide)) (ao (ah 0) (ao (ah 7) (ao (cq (eH (d:=(.str "the end")) (xw (by rfl) T.rY))) (ao (ah 5) aK)))) (bf (bf (bf (bf dY)))))))
   hY)
   (bC (xC (i:=9) vR (k:=1) (cap:=[]) fq (M:=["goal"]) (bZ.of (dQ Bc).names ["net","house","place","moment","cart","plenty","gate","behind","goals","places","goal"] (by decide +kernel)) dD.nd rfl (Or.inl rfl) (vO K (cq (ah 8)))
    (λ_ _ _ _=>(fm (i:=0) (show List.Nodup (["goal"]:List Str) by decide +kernel) rfl (Or.inl rfl))) (λ_ _ _ _=>(BC (mE (gj (qv K) qz T.aY qy (ao (ah 0) (ao (eH (d:=.ty "tuple") (qA (by rfl) T.kg Fm)) aK)))))) (λ_ _ _ _=>(ah 0)))
   (bC (qZ PassesOwn.never (ah 9) (fm (i:=10) dD.nd rfl (Or.inl rfl)) fq
   (bW (lI (eR T.F0 g0 (by exact hr.mono (by decide)) (ao (ah 0) (ao (ah 7) (ao (cq (eR T.F8 g8 (by exact hr.mono (by decide)) (ao (ah 10) (ao (cq (de (gM K) gP (ah 3) dI)) aK)) (bf (bf dY)))) (ao (ah 5) aK)))) (bf (bf (bf (bf dY))))))))
   (bW (fu (ah 9)))))))))),rfl⟩)
theorem cn:aM ["net","house","places","cart","turns","plenty","spots","now","place","moment","reach","goal"] ["net","house","places","cart","turns"] (dQ Fd):=⟨rfl,rfl,rfl,by decide +kernel,rfl,by decide +kernel,by decide +kernel⟩
def BZ:GS:=jw (aI um (ai (aa 0) (ai (av (gC (.str "the start"))) (ai (av (aI uk (ai (aa 8) (ai (gC (.int 0)) gN)))) (ai (aa 5) gN)))))
def tK:GS:=fR (gC (.bl true)) (aa 10) (aa 11)
def DY:GS:=aR (jw (fA pQ (aa 6) (ai (av (bA .tup (ai (gB bB (aa 8) (gC (.int 0))) (ai (gB bB (aa 8) (gC (.int 1))) (ai (aa 9) gN))))) gN)))
 (ef (aI E_ (ai (aa 0) (ai (aa 1) (ai (aa 8) (ai (aa 9) (ai (aa 3) (ai (aa 5) gN))))))) (bj 11) tK)
def sS:GS:=aR (ak 10 zp) (aR (ef (aa 7) (bj 8) DY) (ak 7 (av (gO BX (ai (aa 10) gN)))))
def IH:GS:=aR (ak 5 (av (gB b_ (gO cI (ai (aa 2) gN)) (gC (.int 1)))))
 (aR (ak 6 (bA .lst gN))
 (aR (ak 7 (aa 2))
 (aR (ef (aa 2) (bj 8) BZ)
 (aR (uM (ai (aa 4) gN) (bj 9) sS)
 (aP (fP (aa 6)))))))
def Fh:GM:=runM 12 [true,false,false,false,false] IH
variable(P w K mg base t)in
abbrev Oz:Prop:=bR P w K mg base fx 5 t.f9 t.d9 ["net","house","places","cart","turns"] (fL K 5 Fh)
theorem U2(T:Txt K mg t)(g8:GJ P w K mg base t)(g0:KG P w K mg base t)(K9:NU P w K mg base t):Oz P w K mg base t:=
 jx (k:=4) [true,false,false,false,false] IH T.F9.fn cn rfl rfl (by decide) λdq A outer s H E hr=>(by
  have aq:=jQ hr;exact⟨_,(bC (dg (i:=5) cn.nd rfl (Or.inl rfl) (cq (de (gM K) gP (gj (kc K) ke T.cC j5 (ao (ah 2) aK)) dI)))
   (bC (dg (i:=6) cn.nd rfl (Or.inl rfl) (mD aK))
   (bC (dg (i:=7) cn.nd rfl (Or.inl rfl) (ah 2))
   (bC (qZ PassesOwn.never (ah 2) (fm (i:=8) cn.nd rfl (Or.inl rfl)) fq
   (bW (lI (eR T.F0 g0 (by exact hr.mono (by decide)) (ao (ah 0) (ao (cq (eH (d:=(.str "the start")) (xw (by rfl) T.kh))) (ao (cq (eR T.F8 g8 (by exact hr.mono (by decide)) (ao (ah 8) (ao dI aK)) (bf (bf dY)))) (ao (ah 5) aK)))) (bf (bf (bf (bf dY))))))))
   (bC (xv PassesOwn.never T.df (ao (ah 4) aK) (fm (i:=9) cn.nd rfl (Or.inl rfl)) fq
   (bC (dg (i:=10) cn.nd rfl (Or.inl rfl) IP)
   (bC (qZ PassesOwn.never (ah 7) (fm (i:=8) cn.nd rfl (Or.inl rfl)) fq
   (bC (lI (oG PySem.F.slot_list_append PySem.F.type_list_append uI uJ (ah 6) (ao (cq (lj (ao (cb (by exact aq) (ah 8) dI) (ao (cb (by exact aq) (ah 8) dI) (ao (ah 9) aK))))) aK)))
   (bW (qZ PassesOwn.never (eR T.AB K9 (by exact hr.mono (by decide)) (ao (ah 0) (ao (ah 1) (ao (ah 8) (ao (ah 9) (ao (ah 3) (ao (ah 5) aK)))))) (bf (bf (bf (bf (bf (bf dY))))))) (fm (i:=11) cn.nd rfl (Or.inl rfl)) fq
   (bW (xR (eH (d:=.bl true) oZ) (ah 10) (ah 11) (by exact aq)))))))
   (bW (dg (i:=7) cn.nd rfl (Or.inl rfl) (cq (W5 T.iV (ao (ah 10) aK))))))))
   (bW (fu (vW (ah 6))))))))),rfl⟩)
theorem cA:aM ["house","places","cart","turns","net","spots","near","ways","k","place","first","cut"] ["house","places","cart","turns"] (dQ Bg):=⟨rfl,rfl,rfl,by decide +kernel,rfl,by decide +kernel,by decide +kernel⟩
def zX:GS:=ck (gT (gB sX (gB bB (gB bB (aa 4) (aa 10)) (gC (.str "the start"))) (gC (.int 0))))
  (jw (fA pQ (aa 7) (ai (av (bA .tup (ai (aa 8) (ai (av (aI Bd (ai (av (aa 4)) (ai (aa 10) (ai (aa 2) gN))))) gN)))) gN)))
  bw
def yv:GS:=aR (ak 10 (av (aI uk (ai (aa 9) (ai (gC (.int 0)) gN))))) zX
def LQ:GT:=ie (gT (gB (cg false) (av (bA .tup (ai (aa 0) (ai (gC (.str "into")) gN)))) (aa 1))) (gT (gB (cg true) (av (bA .tup (ai (aa 0) (ai (gC (.str "out of")) gN)))) (aa 1)))
def LP:GE:=kJ (ka (aa 5)) (bj 0) LQ (aa 0) 1 [6]
def II:GS:=aR (ak 4 (FZ (gC (.str "the start")) zp))
 (aR (ak 5 (av (aI Fh (ai (aa 4) (ai (aa 0) (ai (aa 1) (ai (aa 2) (ai (aa 3) gN))))))))
 (aR (ak 6 (av (aI GK (ai (aa 4) (ai (av (gC (.str "the start"))) (ai (av (gC (.str "the end"))) gN))))))
 (sx 4 (aR (ak 7 (bA .lst gN))
 (aR (Gz (aa 1) (gr [(bj 8),(bj 9)]) yv)
 (aR (ak 11 (av LP))
 (aP (bA .tup (ai (fP (aa 7)) (ai (aa 11) gN))))))))))
def Fi:GM:=runM 12 [false,false,false,false] II
variable(P w K mg base t)in
abbrev OA:Prop:=bR P w K mg base fx 6 t.f7 t.d7 ["house","places","cart","turns"] (fL K 4 Fi)
theorem U3(T:Txt K mg t)(g1:Rj P w K mg base t)(K_:NS P w K mg base t)(g8:GJ P w K mg base t)(g9:Oz P w K mg base t):OA P w K mg base t:=
 jx (k:=5) [false,false,false,false] II T.F7.fn cA rfl rfl (by decide) λdq A outer s H E hr=>(by
  have aq:=jQ hr;exact⟨_,(bC (dg (i:=4) cA.nd rfl (Or.inl rfl) (VI (by exact aq) (eH (d:=(.str "the start")) (xw (by rfl) T.kh)) IP))
   (bC (dg (i:=5) cA.nd rfl (Or.inl rfl) (cq (eR T.F9 g9 (by exact hr.mono (by decide)) (ao (ah 4) (ao (ah 0) (ao (ah 1) (ao (ah 2) (ao (ah 3) aK))))) (bf (bf (bf (bf (bf dY))))))))
   (bC (dg (i:=6) cA.nd rfl (Or.inr rfl) (cq (eR T.F1 g1 (by exact hr.mono (by decide)) (ao (ah 4) (ao (cq (eH (d:=(.str "the start")) (xw (by rfl) T.kh))) (ao (cq (eH (d:=(.str "the end")) (xw (by rfl) T.rY))) aK))) (bf (bf (bf dY))))))
   (RZ (i:=4) (bC (dg (i:=7) cA.nd rfl (Or.inl rfl) (mD aK))
   (bC (YD PassesOwn.never T.nu (ah 1) (JT rfl (t5 (fm (i:=8) cA.nd rfl (Or.inl rfl)) (t5 (fm (i:=9) cA.nd rfl (Or.inl rfl)) Jq))) (J0 (t6 fq (t6 fq Jv)))
   (bC (dg (i:=10) cA.nd rfl (Or.inl rfl) (cq (eR T.F8 g8 (by exact hr.mono (by decide)) (ao (ah 9) (ao dI aK)) (bf (bf dY)))))
   (bW (gX (eS we wg (cb (by exact aq) (cb (by exact aq) (ah 4) (ah 10)) (eH (d:=(.str "the start")) (xw (by rfl) T.kh))) dI)
   (bW (lI (oG PySem.F.slot_list_append PySem.F.type_list_append uI uJ (ah 7) (ao (cq (lj (ao (ah 8) (ao (cq (eR T.AD K_ (by exact hr.mono (by decide)) (ao (cq (ah 4)) (ao (ah 10) (ao (ah 2) aK))) (bf (bf (bf dY))))) aK)))) aK))))
   hY))))
   (bC (xC (i:=11) vR (k:=1) (cap:=[6]) fq (M:=["spot","near"]) (bZ.of (dQ Bg).names ["house","places","cart","turns","net","spots","near","ways","k","place","first","cut"] (by decide +kernel)) cA.nd rfl (Or.inl rfl) (vO K (cq (ah 5)))
    (λ_ _ _ _=>(fm (i:=0) (show List.Nodup (["spot","near"]:List Str) by decide +kernel) rfl (Or.inl rfl))) (λ_ _ _ _=>(BC (PW.pt (v7 (eS (v_ K (by exact aq)) (oI false) (cq (lj (ao (ah 0) (ao (eH (d:=.str "into") uc) aK)))) (ah 1)) (xF (eS (vL K (by exact aq)) (oI true) (cq (lj (ao (ah 0) (ao (eH (d:=.str "out of") uc) aK)))) (ah 1))))))) (λ_ _ _ _=>(ah 0)))
   (bW (fu (lj (ao (vW (ah 7)) (ao (ah 11) aK)))))))))))),rfl⟩)
theorem ik:aM ["_law_script","_law_feed_here","_law_house_here","_law_places_here","_law_cart","_law_turns","_law_found","_law_k"] ["_law_script"] (dQ G0):=⟨rfl,rfl,rfl,by decide +kernel,rfl,by decide +kernel,by decide +kernel⟩
def Hs:GS:=(ck (iW (dO (dR (gO cx (ai (aa 6) (ai (gC (.ty "tuple")) gN))))) (gT (gB dM (gO cI (ai (aa 6) gN)) (gC (.int 2)))))
  (aP (gC (.bl false)))
  bw)
def Ht:GS:=(ck (dO (dR (oX E1 (ai (aa 2) (ai (aa 3) (ai (aa 4) (ai (aa 5) (ai (gB bB (aa 6) (gC (.int 0))) gN))))))))
  (aP (gC (.bl false)))
  bw)
def DF:GS:=(ck (gT (gB sX (aI Ge (ai (aa 1) (ai (aa 2) (ai (aa 3) (ai (aa 4) (ai (aa 5) gN)))))) (gO cI (ai (gB bB (aa 6) (gC (.int 0))) gN))))
  (aP (gC (.bl false)))
  bw)
def Hu:GS:=(uM (ai (gC (.int 6)) gN) (bj 7) DF)
def KH:GS:=aR (ak 1 (aI FC (ai (aa 0) gN)))
 (aR (ak 2 (av (aI Fg (ai (aa 1) gN))))
 (aR (ak 3 (av (aI E9 (ai (aa 1) (ai (aa 2) (ai (gC (.int 8)) gN))))))
 (aR (ak 4 (gB bB (gB bB (aa 2) (gC (.int 1))) (aI lH (ai (aa 1) (ai (gO cI (ai (gB bB (aa 2) (gC (.int 1))) gN)) gN)))))
 (aR (ak 5 (av (aI lH (ai (aa 1) (ai (gC (.int 13)) gN)))))
 (aR (ak 6 (av (aI Fi (ai (aa 2) (ai (av (gO iO (ai (aa 3) gN))) (ai (aa 4) (ai (aa 5) gN)))))))
 (aR Hs (aR Ht (aR Hu (aP (gC (.bl true)))))))))))
def KI:GM:=runM 8 [false] KH
theorem e6f(T:Txt K mg t)(kM:zb P w K mg base t)(g13:Pd P w K mg base t)(g17:Oy P w K mg base t)(g23:NT P w K mg base t)(g24:Qm P w K mg base t)(g25:Ni P w K mg base t)(g7:OA P w K mg base t):bR P w K mg base fx 7 t.zJ t.zG ["_law_script"] (fL K 1 KI):=
 jx (k:=6) [false] KH T.AR.fn ik rfl rfl (by decide) λdq A outer s H E hr=>(by
  have dt:=qX hr;have aq:=jQ hr;exact⟨_,(bC (dg (i:=1) ik.nd rfl (Or.inl rfl) (eR T.AF g13 (by exact hr.mono (by decide)) (ao (ah 0) aK) (bf dY)))
   (bC (dg (i:=2) ik.nd rfl (Or.inl rfl) (cq (eR T.AI g17 (by exact hr.mono (by decide)) (ao (ah 1) aK) (bf dY))))
   (bC (dg (i:=3) ik.nd rfl (Or.inl rfl) (cq (eR T.AM g23 (by exact hr.mono (by decide)) (ao (ah 1) (ao (ah 2) (ao dI aK))) (bf (bf (bf dY))))))
   (bC (dg (i:=4) ik.nd rfl (Or.inl rfl) (cb (by exact aq) (cb (by exact aq) (ah 2) dI) (eR T.kA kM (by exact hr.mono (by decide)) (ao (ah 1) (ao (gj (kc K) ke T.cC j5 (ao (cb (by exact aq) (ah 2) dI) aK)) aK)) (bf (bf dY)))))
   (bC (dg (i:=5) ik.nd rfl (Or.inl rfl) (cq (eR T.kA kM (by exact hr.mono (by decide)) (ao (ah 1) (ao dI aK)) (bf (bf dY)))))
   (bC (dg (i:=6) ik.nd rfl (Or.inl rfl) (cq (eR T.F7 g7 (by exact hr.mono (by decide)) (ao (ah 2) (ao (cq (xu (E2 K) FQ T.iV xE (ao (ah 3) aK))) (ao (ah 4) (ao (ah 5) aK)))) (bf (bf (bf (bf dY)))))))
   (bC (gX (PW.pt (rV (oW (mE (gj (qv K) qz T.aY qy (ao (ah 6) (ao (eH (d:=.ty "tuple") (qA (by rfl) T.kg Fm)) aK))))) (xP (eS (uR K (by exact dt)) uS (gj (kc K) ke T.cC j5 (ao (ah 6) aK)) dI))))
   (bW (fu (eH (d:=.bl false) oZ)))
   hY)
   (bC (gX (oW (mE (xD T.AO g25 (by exact hr.mono (by decide)) (ao (ah 2) (ao (ah 3) (ao (ah 4) (ao (ah 5) (ao (cb (by exact aq) (ah 6) dI) aK))))) (bf (bf (bf (bf (bf dY))))))))
   (bW (fu (eH (d:=.bl false) oZ)))
   hY)
   (bC (xv PassesOwn.never T.df (ao dI aK) (fm (i:=7) ik.nd rfl (Or.inl rfl)) fq
   (bW (gX (eS we wg (eR T.AN g24 (by exact hr.mono (by decide)) (ao (ah 1) (ao (ah 2) (ao (ah 3) (ao (ah 4) (ao (ah 5) aK))))) (bf (bf (bf (bf (bf dY)))))) (gj (kc K) ke T.cC j5 (ao (cb (by exact aq) (ah 6) dI) aK)))
   (bW (fu (eH (d:=.bl false) oZ)))
   hY)))
   (bW (fu (eH (d:=.bl true) oZ)))))))))))),rfl⟩)
end
end Carry
namespace Carry
open PySem L2
variable{i n r k:Nat}{F:aZ}{s ri:Int}
def wx(F:aZ):List O:=[.Y (.lst (F.ns.map .int)),.Y (.int F.pl),.Y (.int F.xb),.Y (.int F.mode),.Y (.int F.num)]
abbrev bx(F:aZ):O:=.lst (wx F)
def r_(ns:List Int):aZ:=⟨ns,0,0,ns.getD 0 0%2,ns.getD 1 0⟩
theorem Rk(ds:List D)(n:Nat):cutD ds none (some (n:Int))=ds.take n:=by
 unfold cutD;have e1:HT.dC ds.length 0 none=0:=rfl;have e2:HT.dC ds.length ds.length (some (n:Int))=min n ds.length:=by
  unfold HT.dC;simp;try lia
 rw[e1,e2];simp only[pH,Nat.sub_zero];rw[List.take_eq_take_iff];lia
theorem Kh(ds:List D):cutD ds none (some 2)=ds.take 2:=Rk ds 2
theorem Cc(ds:List D):cutD ds none (some 63)=ds.take 63:=Rk ds 63
theorem LR:mH 5 4=some 4:=by decide
theorem DB:mH 5 1=some 1:=by decide
theorem Ub(ns:List Int):cN ((ns.map D.int).take 2++[D.int 0,D.int 0]) 0=some (.int (ns.getD 0 0)):=by
 refine oE (j:=0) ?_
 match ns with
 |[]=>rfl
 |[x]=>rfl
 |x::y::r=>rfl
theorem Uc(ns:List Int):cN ((ns.map D.int).take 2++[D.int 0,D.int 0]) 1=some (.int (ns.getD 1 0)):=by
 refine oE (j:=1) ?_
 match ns with
 |[]=>rfl
 |[x]=>rfl
 |x::y::r=>rfl
theorem aW{α:Type _}{a:α}{l:List α}:(a::l)[0]?=some a:=rfl
theorem bg{α:Type _}{a:α}{l:List α}:(a::l)[i+1]?=l[i]?:=rfl
theorem bO{α:Type _}{a:α}{l:List α}:(a::l).length=l.length+1:=rfl
theorem bM{α:Type _}:([]:List α).length=0:=rfl
theorem bK{α:Type _}{x a:α}{l:List α}:(x::l).set 0 a=a::l:=rfl
theorem cy{α:Type _}{x a:α}{l:List α}:(x::l).set (n+1) a=x::l.set n a:=rfl
theorem eM{α β:Type _}{f:α->β}{a:α}{l:List α}:(a::l).map f=f a::l.map f:=rfl
theorem eX{α β:Type _}{f:α->β}:([]:List α).map f=[]:=rfl
theorem e8{α:Type _}{a:α}:List.replicate 0 a=[]:=rfl
theorem fD{α:Type _}{a:α}:List.replicate (n+1) a=a::List.replicate n a:=rfl
theorem gw{α:Type _}{a:α}{l:List α}:(a::l).take (i+1)=a::l.take i:=rfl
theorem e_{α:Type _}{a:α}{l r:List α}:(a::l)++r=a::(l++r):=rfl
theorem fe{α:Type _}(l:List α):[]++l=l:=rfl
theorem gy{α:Type _}{l:List α}:l.take 0=[]:=rfl
theorem cR:(false=true)=False:=lA
theorem bP(n:Nat):0+n=n:=As n
theorem e6g(ns:List Int)(h:ns.length<=63):FC [.Y (.fK ns)]=some (bx (r_ ns),[none]):=by
 have c1:(min 2 ns.length<=999998)=True:=ku (by lia)
 have c2:(ns.map D.int).take 63=ns.map D.int:=EH (by rw[bz];lia)
 unfold FC Jg;simp only[gn,eM,eX,bO,bM,bP,reduceSub,fD,e8,e_,fe,cY,eJ,cU,bu,ba,Fv,aV,aW,↓af,FT,FU,bI,FY,↓evMap,br,Vy,Kh,fM,bb,reduceAdd,reduceLeDiff,gD,eZ,aX,bq,bp,FV,Gw,y8,J7,J6,ql,bz,c1,jy,rR,reduceLT,cy,bK,eG,Cc,c2,bg,cG,jS,Ub,fN,Int.reduceLT,decide_true,Uc,gY,gw,gy,gE,gp];rfl
theorem e6h(F:aZ)(m:Int)(h0:0<m)(h1:m<1073741824)(hp:0<=F.pl)(hl:F.ns.length<=63):lH [bx F,.Y (.int m)]=some (.Y (.int (aG F m)),[some (bx (aA F m)),none]):=by
 unfold lH Jh bx wx;by_cases hm:F.mode=1
 .have e1:aG F m=F.num%m:=by unfold aG;rw[aJ hm]
  have e2:aA F m={ F with num:=F.num / m}:=by unfold aA;rw[aJ hm]
  rw[e1,e2];simp only[hm,gn,eM,eX,bO,bM,bP,reduceAdd,reduceSub,fD,e8,e_,fe,cY,dh,cH,bu,ba,aV,aW,↓af,bI,bb,bq,ju,iI,br,bp,cG,zr,za,y_,nr,bX,mT,and_self,oH,pJ,aX,eJ,Jc,bg,fN,h0,decide_true,reduceLT,cy,bK,rQ,h1,FX,LR,↓evMap,eG,dA,gY,gw,gy,q_,gE,gp]
 .have SR:(F.mode == 1)=false:=by simpa using hm
  have e1:aG F m=(cellOf F*48271+31*F.pl)%1000003*69621%999983%m:=by unfold aG;rw[aQ hm]
  have e2:aA F m={ F with pl:=F.pl+1}:=by unfold aA;rw[aQ hm]
  rw[e1,e2];have m1:∀x:Int,((-(2^64)<x/\x<2^64\/(-(2^64):Int)<31/\(31:Int)<2^64)=True):=λx=>ku (.inr ⟨by decide,by decide⟩)
  have m2:∀x:Int,((-(2^64)<x/\x<2^64\/(-(2^64):Int)<48271/\(48271:Int)<2^64)=True):=λx=>ku (.inr ⟨by decide,by decide⟩)
  have m3:∀x:Int,((-(2^64)<x/\x<2^64\/(-(2^64):Int)<69621/\(69621:Int)<2^64)=True):=λx=>ku (.inr ⟨by decide,by decide⟩)
  have m4:∀x:Int,(((-(2^64):Int)<31/\(31:Int)<2^64 \/ -(2^64)<x/\x<2^64)=True):=λx=>ku (.inl ⟨by decide,by decide⟩)
  by_cases hc:(0:Int)<F.ns.length
  .have hs:(F.ns.length:Int)<1073741824:=by lia
   have hmod:0<=F.pl%(F.ns.length:Int)/\F.pl%(F.ns.length:Int)<F.ns.length:=⟨MS _ (by lia),MT _ hc⟩
   have hat:cN (F.ns.map D.int) (F.pl%(F.ns.length:Int))=some (.int (F.ns.getD (F.pl%F.ns.length).toNat 0)):=by
    have sH:(F.pl%(F.ns.length:Int)).toNat<F.ns.length:=by lia
    have e:(F.ns.map D.int)[(F.pl%(F.ns.length:Int)).toNat]?=some (.int (F.ns.getD (F.pl%F.ns.length).toNat 0)):=by simp[sH]
    have z:=oE e
    rwa[show(((F.pl%(F.ns.length:Int)).toNat:Nat):Int)=F.pl%(F.ns.length:Int) by lia] at z
   have ec:cellOf F=F.ns.getD (F.pl%F.ns.length).toNat 0+F.pl / F.ns.length*31:=by unfold cellOf;rw[aJ (by lia)]
   rw[ec];simp only[gn,eM,eX,bO,bM,bP,reduceAdd,reduceSub,fD,e8,e_,fe,cY,dh,cH,bu,ba,aV,aW,↓af,bI,bb,bq,ju,iI,br,bp,cG,zr,za,y_,nr,bX,mT,and_self,oH,SR,aX,cR,eJ,Jc,bg,fN,h0,decide_true,reduceLT,cy,bK,rQ,h1,FX,↓evMap,dA,bS,mR,cU,iA,DB,lG,oY,pR,bz,hc,jS,hat,hs,zh,m1,eG,m2,m4,Int.reduceLT,m3,gY,gw,gy,q_,gE,gp]
  .have ec:cellOf F=F.pl:=by unfold cellOf;rw[aQ (by lia)]
   rw[ec];simp only[gn,eM,eX,bO,bM,bP,reduceAdd,reduceSub,fD,e8,e_,fe,cY,dh,cH,bu,ba,aV,aW,↓af,bI,bb,bq,ju,iI,br,bp,cG,zr,za,y_,nr,bX,mT,and_self,oH,SR,aX,cR,eJ,Jc,bg,fN,h0,decide_true,reduceLT,cy,bK,rQ,h1,FX,↓evMap,dA,bS,mR,cU,iA,DB,lG,oY,pR,bz,hc,decide_false,eG,zh,m2,m4,Int.reduceLT,m3,gY,gw,gy,q_,gE,gp]
abbrev fS(x:Str):O:=.Y (.str x)
theorem Kj(xs:List Str):xs.map fS=(xs.map D.str).map .Y:=by rw[lU];rfl
theorem Ce(xs:List Str):O.dl (xs.map fS)=xs.map D.str:=by rw[Kj,nq]
theorem JH(x:Str):∀xs:List Str,((xs.map D.str).any λz=>aU z (.str x))=xs.contains x
 |[]=>rfl
 |y::r=>by
  rw[cS,List.any_cons,JH x r,List.contains_cons,BS]
  congr 1
  exact BEq.comm
theorem Qo(n:Nat)(xs:List Str):(xs.map D.str).all (cQ n)=true:=by
 rw[lB];intro d hd;obtain⟨y,_,rfl⟩:=gA.mp hd;exact qx n y
theorem zw(neg:Bool)(x:Str)(xs:List Str):cg neg [.Y (.str x),.lst (xs.map fS)]=some (.Y (.bl (if neg then !xs.contains x else xs.contains x))):=by
 unfold cg;have e:oj (O.lst (xs.map fS)).d=some (xs.map D.str):=by rw[Kj];show some (O.dl _)=_;rw[nq]
 simp only[jb,e,Option.bind_some,bX,qx,Qo,and_self,aX,JH]
theorem GL(neg:Bool)(x:Str)(xs:List Str):cg neg [.Y (.str x),.Y (.lst (xs.map D.str))]=some (.Y (.bl (if neg then !xs.contains x else xs.contains x))):=by
 unfold cg;have e:oj (.lst (xs.map D.str))=some (xs.map D.str):=rfl;simp only[jb,e,Option.bind_some,bX,qx,Qo,and_self,aX,JH]
theorem YW(xs:List Str)(i:Int)(y:Str)(h0:0<=i)(h1:i<1000000)(hl:xs.length<1000000):vY (.lst (xs.map fS)) [.Y (.int i),.Y (.str y)]=some (.lst ((o_ xs i.toNat y).map fS),.Y .bH):=by
 unfold vY;dsimp only;rw[aJ ⟨h0,h1,by rw[bz];exact hl⟩]
 unfold o_;rw[iH,cS,List.map_take,M6]
structure a_ (F:aZ):Prop where
 pos:0<=F.pl
 len:F.ns.length<=63
theorem a_.draw(h:a_ F)(m:Int):a_ (aA F m):=⟨Wz F m h.pos,by rw[Wx];exact h.len⟩
theorem xd(h:a_ F){m:Int}(h0:0<m)(h1:m<1073741824):lH [bx F,.Y (.int m)]=some (.Y (.int (aG F m)),[some (bx (aA F m)),none]):=e6h F m h0 h1 h.pos h.len
noncomputable def bY(b:bc):D:=.tup [.str b.name,.int b.long,.bl b.ring,.lst (b.outs.map .str)]
def dZ(h:aw):D:=.tup [.lst (h.aO.map bY),.lst (h.aT.map .str)]
abbrev fB(b:bc):O:=.Y (bY b)
theorem e8y(xs:List bc):O.dl (xs.map fB)=xs.map bY:=by rw[show xs.map fB=(xs.map bY).map .Y by rw[lU];rfl,nq]
theorem NV:∀(xs:List bc) (ax:List Str) (a:Option O),ax.length+xs.length<1000000->∃a',compLoop (bj 0) fQ (gB bB (aa 0) (gC (.int 0))) (xs.map bY) [a] (ax.map fS)=some ((ax++xs.map bc.name).map fS,[a'])
 |[],ax,a,_=>⟨a,by rw[oO,J4,oO,kZ]⟩
 |x::xs,ax,a,h=>by
  rw[hX] at h;have hl:(ax.map fS).length<1000000:=by rw[bz];lia
  obtain⟨a',e⟩:=NV xs (ax++[x.name]) (some (fB x)) (by rw[dy,jC];lia)
  refine⟨a',?_⟩;rw[cS (f:=bc.name),show ax++x.name::xs.map bc.name=ax++[x.name]++xs.map bc.name by simp]
  rw[<-e,iH];simp only[eM,bY,J5,iz,bO,bM,bP,reduceLT,bK,aX,↓af,wc,bu,ba,aV,aW,bI,bb,bq,br,bp,cG,jE,lG,↓evMap,gD,eZ,hl,eX];rfl
def qI(st k:Nat):Str:=yc (("abcdefghijk":Str).cps.toList.getD (((k:Int)*4+(st:Int))%11).toNat 0)
def nm(st k:Nat):Str:=
 if st%3=0 then Txt.mul "q" ((st / 3%3:Nat):Int)++qI st k++Txt.slice "zq" none (some ((st / 9:Nat):Int))
 else if st%3=1 then(if k<8 then Txt.mul "b" ((k:Int)+1) else Txt.mul "c" ((k:Int) - 7)) else qI st k
theorem e6i:∀st:Nat,st<27->∀i:Nat,i<9->∀j:Nat,j<9->nm st i=nm st j->i=j:=by decide +kernel
theorem mulQ:∀n:Nat,n<3->MulOk "q" (n:Int):=by unfold MulOk;decide +kernel
theorem Ma:∀n:Nat,n<9->MulOk "b" ((n:Int)+1):=by unfold MulOk;decide +kernel
theorem mulC:∀n:Nat,n<9->MulOk "c" ((n:Int) - 7):=by unfold MulOk;decide +kernel
theorem L3:∀n:Nat,n<3->(Txt.mul "q" (n:Int)).length<=3:=by decide +kernel
theorem lenZ:∀n:Nat,n<3->(Txt.slice "zq" none (some (n:Int))).length<=3:=by decide +kernel
theorem YX(c:Nat):(yc c).length=1:=rfl
theorem LX:("abcdefghijk":Str).cps.toList.length=11:=by decide +kernel
theorem e6j(st k:Nat):cN ("abcdefghijk":Str).cps.toList (((k:Int)*4+st)%11)=some (("abcdefghijk":Str).cps.toList.getD (((k:Int)*4+st)%11).toNat 0):=OR 0 (by lia) (by rw[LX];lia)
theorem R4{st:Nat}(es:s=st)(er:ri=r)(h:st%3=r):(s%3 == ri)=true:=by rw[beq_iff_eq];lia
theorem Se{st:Nat}(es:s=st)(er:ri=r)(h:¬st%3=r):(s%3 == ri)=false:=by rw[pK];lia
theorem e8z{st:Nat}(es:s=st):((st / 3%3:Nat):Int)=s / 3%3:=by lia
theorem e9a{st:Nat}(es:s=st):((st / 9:Nat):Int)=s / 9:=by lia
theorem KJ{st:Nat}(hs:st<27):st / 3%3<3/\st / 9<3:=by lia
theorem Sk{a b:Nat}(ha:a<=3)(hb:b<=4):a+b<=1000000:=by lia
theorem k8{i:Int}(ek:i=k):(i<8)=(k<8):=by rw[eq_iff_iff];lia
theorem YY(s i:Int)(st k:Nat)(es:s=st)(ek:i=k)(hs:st<27)(hk:k<9):vV [.Y (.int s),.Y (.int i)]=some (.Y (.str (nm st k)),[none,none]):=by
 have m1:((-(2^64)<i/\i<2^64)\/((-(2^64):Int)<4/\(4:Int)<2^64))=True:=ku (.inr ⟨by decide,by decide⟩)
 have ea:=e6j st k;rw[<-es,<-ek] at ea;have el:(⟨#[("abcdefghijk":Str).cps.toList.getD ((i*4+s)%11).toNat 0]⟩:Str)=qI st k:=by unfold qI yc;rw[es,ek]
 have c0:(("abcdefghijk":Str).length<=1000000)=True:=ku (by decide +kernel)
 have ll:(qI st k).length=1:=YX _;unfold vV Ji nm;generalize qI st k=lt at *;generalize("abcdefghijk":Str).cps.toList.getD ((i*4+s)%11).toNat 0=ch at *;generalize("abcdefghijk":Str)=S at *;by_cases h0:st%3=0
 .rw[aJ h0];have q0:(s%3 == 0)=true:=R4 es rfl h0;have e3:((st / 3%3:Nat):Int)=s / 3%3:=e8z es;have e9:((st / 9:Nat):Int)=s / 9:=e9a es;have mq:=ku (mulQ (st / 3%3) (KJ hs).1);have lq:=L3 (st / 3%3) (KJ hs).1;have lz:=lenZ (st / 9) (KJ hs).2;rw[e3] at mq lq ⊢;rw[e9] at lz ⊢;have c1:((Txt.mul "q" (s / 3%3)).length+lt.length<=1000000)=True:=ku (Sk lq (by rw[ll];decide))
  have c2:((Txt.mul "q" (s / 3%3)++lt).length+(Txt.slice "zq" none (some (s / 9))).length<=1000000)=True:=ku (by rw[Str.length_append,M3];exact Sk lz (by rw[ll];exact Nat.succ_le_succ lq))
  have cz:(("zq":Str).length<=1000000)=True:=ku (by decide +kernel)
  generalize("zq":Str)=Z at *;generalize("q":Str)=Q at *;have d3:decide (0<(3:Int)/\(3:Int)<1073741824)=true:=by decide
  have d9:decide (0<(9:Int)/\(9:Int)<1073741824)=true:=by decide
  simp only[gn,eM,eX,bO,bM,bP,reduceAdd,reduceSub,fD,e8,e_,fe,cY,eJ,bu,ba,bI,↓af,aV,bg,aW,bb,bq,br,bp,zh,m1,aX,iA,fN,Int.reduceLT,decide_true,cG,Gy,c0,ea,↓evMap,el,reduceLT,cy,bK,dh,cH,nr,bX,mT,and_self,oH,q0,eG,FW,mq,Yy,c1,Fv,FT,FU,FY,Vx,cz,c2,dA,gY,gw,gy,gE,gp]
 .have q0:(s%3 == 0)=false:=Se es rfl h0;rw[aQ h0];by_cases h1:st%3=1
  .rw[aJ h1];have q1:(s%3 == 1)=true:=R4 es rfl h1;by_cases h8:k<8
   .rw[aJ h8];have Lg:i<8:=by rw[k8 ek];exact h8
    have mb:=ku (Ma k hk);rw[<-ek] at mb ⊢;generalize("b":Str)=Q at *;simp only[gn,eM,eX,bO,bM,bP,reduceAdd,reduceSub,fD,e8,e_,fe,cY,eJ,bu,ba,bI,↓af,aV,bg,aW,bb,bq,br,bp,zh,m1,aX,iA,fN,Int.reduceLT,decide_true,cG,Gy,c0,ea,↓evMap,el,reduceLT,cy,bK,dh,cH,nr,bX,mT,and_self,oH,q0,cR,eG,FW,dA,bS,q1,x_,Lg,mb,gY,gw,gy,gE,gp]
   .rw[aQ h8];have Lg:¬i<8:=by rw[k8 ek];exact h8
    have mb:=ku (mulC k hk);rw[<-ek] at mb ⊢;generalize("c":Str)=Q at *;simp only[gn,eM,eX,bO,bM,bP,reduceAdd,reduceSub,fD,e8,e_,fe,cY,eJ,bu,ba,bI,↓af,aV,bg,aW,bb,bq,br,bp,zh,m1,aX,iA,fN,Int.reduceLT,decide_true,cG,Gy,c0,ea,↓evMap,el,reduceLT,cy,bK,dh,cH,nr,bX,mT,and_self,oH,q0,cR,eG,FW,dA,bS,q1,x_,Lg,decide_false,mb,gY,gw,gy,gE,gp]
  .rw[aQ h1];have q1:(s%3 == 1)=false:=Se es rfl h1;simp only[gn,eM,eX,bO,bM,bP,reduceAdd,reduceSub,fD,e8,e_,fe,cY,eJ,bu,ba,bI,↓af,aV,bg,aW,bb,bq,br,bp,zh,m1,aX,iA,fN,Int.reduceLT,decide_true,cG,Gy,c0,ea,↓evMap,el,reduceLT,cy,bK,dh,cH,nr,bX,mT,and_self,oH,q0,cR,eG,FW,dA,bS,q1,x_,decide_eq_true_eq,gY,gw,gy,gE,gp]
theorem JI{i j:Int}(h:i.natAbs<=1000000)(h2:j.natAbs<=1000000):kP [.own (.Y (.int i)),.own (.Y (.int j))]=some (i,j):=by
 unfold kP;dsimp only;rw[aJ ⟨Nat.ble_eq_true_of_le (by lia),Nat.ble_eq_true_of_le (by lia)⟩]
theorem KL(ge:GE)(F:aZ)(g:a_ F)(s1 s2 s3:O)(a5:Option O)(outs:List Str)(hl:outs.length<=30)(y:Str)(hE:∀F':aZ,ge [some (bx F'),some s1,some s2,some s3,some (.lst (outs.map fS)),a5]=some (.own (fS y),[some (bx F'),some s1,some s2,some s3,some (.lst (outs.map fS)),a5])):
  ∃(F':aZ) (tm:List Str),a_ F'/\(∀o,o∈tm↔o=y\/o∈outs)/\tm.length=outs.length+1/\sO ge [some (bx F),some s1,some s2,some s3,some (.lst (outs.map fS)),a5]=some (.nx,[some (bx F'),some s1,some s2,some s3,some (.lst (tm.map fS)),a5]):=by
 have hm:(0:Int)<(outs.length:Int)+1:=by lia
 have e1:=xd g (m:=(outs.length:Int)+1) hm (by lia)
 have d0:=qS F hm;have d1:=qT F hm;have ei:=YW outs (aG F ((outs.length:Int)+1)) y d0 (by lia) (by lia)
 have hF:=hE (aA F ((outs.length:Int)+1));refine⟨aA F ((outs.length:Int)+1),o_ outs (aG F ((outs.length:Int)+1)).toNat y,g.draw _,λo=>WB,WA _ _ _,?_⟩
 have el:((outs.map D.str).length:Int)=(outs.length:Int):=by rw[bz]
 generalize(outs.length:Int)=ol at *;unfold sO;simp only[jP,lV,aV,bg,aW,↓af,ba,cU,gc,bu,bb,bq,ju,iI,bp,oY,jy,Ce,pR,el,↓evMap,bI,br,iA,bX,ja,bK,gb,f_,e1,jT,gR,gQ,hF,gD,eZ,ei,cy]
structure oQ (names:List Str) (k:Nat) (outs:List Str):Prop where
 sub:∀o∈outs,o∈names.drop (k+1)
 len:outs.length<=20
theorem Jl{names:List Str}{j:Nat}{y:Str}(h:names[j]?=some y)(hk:k<=j):y∈names.drop k:=by
 obtain⟨hj,e⟩:=eO.mp h;have:(names.drop k)[j - k]?=some y:=by rw[List.getElem?_drop,show k+(j - k)=j by lia];exact h
 exact jr this
theorem Xj(names outs:List Str)(lo:Int)(l0:0<=lo):∀(n:Nat),lo+n<=names.length->n<1000->∃(a:Option O) (bs:List Bool),compLoop (bj 0) fQ (gB (cg false) (gB bB (aa 2) (aa 0)) (aa 1)) (fE lo n) [none,some (.lst (outs.map fS)),some (.Y (.lst (names.map .str)))] []=some ((bs.map D.bl).map .Y,[a,some (.lst (outs.map fS)),some (.Y (.lst (names.map .str)))])/\bs=(List.range n).map λ(i:Nat)=>outs.contains (names.getD (lo+(i:Int)).toNat ""):=by
 intro n hn Hh;obtain⟨Q0',⟨a,rfl⟩,e⟩:=Bp (g:=bj 0) (ct:=fQ) (ce:=gB (cg false) (gB bB (aa 2) (aa 0)) (aa 1)) (λQ0=>∃a,Q0=[a,some (.lst (outs.map fS)),some (.Y (.lst (names.map .str)))]) (λ(i:Nat)=>D.int (lo+(i:Int))) (λ(i:Nat)=>D.bl (outs.contains (names.getD (lo+(i:Int)).toNat ""))) (List.range n) [none,some (.lst (outs.map fS)),some (.Y (.lst (names.map .str)))] ⟨_,rfl⟩ (by rw[mO];lia) (by
  rintro i hi Q0 ⟨a,rfl⟩;rw[oz] at hi;have ea:cN (names.map D.str) (lo+(i:Int))=some (.str (names.getD (lo+(i:Int)).toNat "")):=by
   have:=OR (xs:=names.map D.str) (k:=lo+(i:Int)) (D.str "") (by lia) (by rw[bz];lia)
   rw[this,vI,vI,i7];cases names[(lo+(i:Int)).toNat]? <;> rfl
  refine⟨[some (.Y (.int (lo+(i:Int)))),some (.lst (outs.map fS)),some (.Y (.lst (names.map .str)))],?_,_,rfl⟩;generalize lo+(i:Int)=ix at *;simp only[vU,iz,bO,bM,bP,reduceAdd,reduceLT,bK,aX,↓af,wc,bu,ba,aV,bg,aW,bb,bq,br,bp,cG,jS,ea,↓evMap,ju,iI,zw,cR,bS])
 exact⟨a,_,by rw[qV,e,lU (g:=D.bl)];rfl,rfl⟩
theorem e6l(F:aZ)(g:a_ F)(names:List Str)(k aN:Nat)(SM:k<aN)(hm:aN<names.length)(hl:names.length<=12):
  ∃(F':aZ) (outs:List Str),a_ F'/\oQ names k outs/\outs≠[]/\FD [bx F,.Y (.lst (names.map .str)),.Y (.int (k:Int)),.Y (.int (aN:Int))]=some (.lst (outs.map fS),[some (bx F'),none,none,none]):=by
 have ga:∀j:Nat,j<names.length->cN (names.map D.str) (j:Int)=some (.str (names.getD j "")):=λj hj=>by
  apply oE;rw[i7,eP hj,vI,eP hj];rfl
 have gm:∀j:Nat,j<names.length->names[j]?=some (names.getD j ""):=λj hj=>by
  rw[eP hj,vI,eP hj];rfl
 obtain⟨az,e1,F1,o1,a5,g1,yE,rfl⟩:=mB (g:=bj 5) (f:=qd) (λ(i:Nat)=>D.int (((k:Int)+1)+(i:Int))) (λpre Q0=>∃(F':aZ) (outs:List Str) (a5:Option O),a_ F'/\((∀o∈outs,o∈names.drop (k+1))/\outs.length<=pre.length)/\Q0=[some (bx F'),some (.Y (.lst (names.map .str))),some (.Y (.int (k:Int))),some (.Y (.int (aN:Int))),some (.lst (outs.map fS)),a5]) (List.range ((names.length:Int) - ((k:Int)+1)).toNat) []
  [some (bx F),some (.Y (.lst (names.map .str))),some (.Y (.int (k:Int))),some (.Y (.int (aN:Int))),some (.lst []),none] ⟨F,[],none,g,⟨λo m=>(by cases m),cJ _⟩,rfl⟩ (by
   rintro q i post Q0 eq ⟨F',outs,a5,gF,⟨sb,ln⟩,rfl⟩;have hi:i<((names.length:Int) - ((k:Int)+1)).toNat:=by
    have:i∈List.range ((names.length:Int) - ((k:Int)+1)).toNat:=by rw[eq];simp
    exact oz.mp this
   have hq:q.length<12:=by
    have:=congrArg List.length eq;simp at this;lia
   have ed:=xd gF (m:=3) (by decide) (by decide)
   rw[fI] at *;have ej:((k:Int)+1)+(i:Int)=((k+1+i:Nat):Int):=by lia
   have ea:=ga (k+1+i) (by lia)
   rw[<-ej] at ea;by_cases hd:aG F' 3=0
   .obtain⟨F2,tq,g2,m2,l2,e2⟩:=KL (gB bB (aa 1) (aa 5)) (aA F' 3) (gF.draw 3) (.Y (.lst (names.map .str))) (.Y (.int (k:Int))) (.Y (.int (aN:Int))) (some (.Y (.int (((k:Int)+1)+(i:Int))))) outs (by lia) (names.getD (k+1+i) "") (λNa=>by
     generalize((k:Int)+1)+(i:Int)=ix at *;simp only[bu,ba,aV,bg,aW,↓af,bb,bq,br,bp,cG,jS,ea,↓evMap])
    refine⟨_,?_,F2,tq,some (.Y (.int (((k:Int)+1)+(i:Int)))),g2,⟨λo ho=>?_,by rw[l2,dy,jC];lia⟩,rfl⟩
    .have Dl:(aG F' 3 == 0)=true:=by rw[hd];rfl
     unfold qd;generalize((k:Int)+1)+(i:Int)=ix at *;simp only[iz,bO,bM,bP,reduceAdd,reduceLT,cy,bK,aX,↓af,dh,cH,bu,ba,gc,aV,aW,bI,bb,ja,gb,f_,ed,jT,gR,gQ,bq,br,bp,nr,bX,mT,and_self,oH,Dl,e2,dA]
    .rcases(m2 o).mp ho with z|z
     .rw[z];exact Jl (gm (k+1+i) (by lia)) (by lia)
     .exact sb o z
   .have Dl:(aG F' 3 == 0)=false:=by rw[pK];exact hd
    refine⟨_,?_,aA F' 3,outs,some (.Y (.int (((k:Int)+1)+(i:Int)))),gF.draw 3,⟨sb,by rw[dy,jC];lia⟩,rfl⟩
    unfold qd;generalize((k:Int)+1)+(i:Int)=ix at *;simp only[iz,bO,bM,bP,reduceAdd,reduceLT,cy,bK,aX,↓af,dh,cH,bu,ba,gc,aV,aW,bI,bb,ja,gb,f_,ed,jT,gR,gQ,bq,br,bp,nr,bX,mT,and_self,oH,Dl,cR,dA,bS])
 rw[fI] at yE;obtain⟨HD,ln1⟩:=yE;rw[mO] at ln1;rw[<-qV] at e1;obtain⟨F2,o2,g2,Mo,ln2,e2⟩:∃(F2:aZ) (o2:List Str),a_ F2/\(∀o∈o2,o∈names.drop (k+1))/\o2.length<=15/\l7 [some (bx F1),some (.Y (.lst (names.map .str))),some (.Y (.int (k:Int))),some (.Y (.int (aN:Int))),some (.lst (o1.map fS)),a5]=some (.nx,[some (bx F2),some (.Y (.lst (names.map .str))),some (.Y (.int (k:Int))),some (.Y (.int (aN:Int))),some (.lst (o2.map fS)),a5]):=by
  have ed:=xd g1 (m:=4) (by decide) (by decide)
  by_cases SK:k+1<aN
  .have sI:((k:Int)+1<(aN:Int)):=by lia
   have ea:=ga (k+1) (by lia)
   rw[show((k+1:Nat):Int)=(k:Int)+1 by lia] at ea
   by_cases hd:0<aG F1 4
   .by_cases hc:o1.contains (names.getD (k+1) "")=true
    .refine⟨aA F1 4,o1,g1.draw 4,HD,by lia,?_⟩
     unfold l7;generalize(k:Int)=ki at *;generalize(aN:Int)=mi at *;simp only[dh,lJ,cH,bu,ba,aV,bg,aW,↓af,bI,bb,bq,br,bp,iA,fN,sI,decide_true,aX,gc,ja,bK,gb,f_,ed,jT,gR,gQ,hd,cG,jS,ea,↓evMap,ju,iI,zw,hc,iL,cR,dA,bS]
    .rw[EF] at hc;obtain⟨F2,tq,g2,m2,l2,e2⟩:=KL (gB bB (aa 1) (gB b_ (aa 2) (gC (.int 1)))) (aA F1 4) (g1.draw 4) (.Y (.lst (names.map .str))) (.Y (.int (k:Int))) (.Y (.int (aN:Int))) a5 o1 (by lia) (names.getD (k+1) "") (λNa=>by
      generalize(k:Int)=ki at *;simp only[bu,ba,aV,bg,aW,↓af,bI,bb,bq,br,bp,iA,cG,jS,ea,↓evMap])
     refine⟨F2,tq,g2,λo ho=>?_,by lia,?_⟩
     .rcases(m2 o).mp ho with z|z
      .rw[z];exact Jl (gm (k+1) (by lia)) (by lia)
      .exact HD o z
     .unfold l7;generalize(k:Int)=ki at *;generalize(aN:Int)=mi at *;simp only[dh,lJ,cH,bu,ba,aV,bg,aW,↓af,bI,bb,bq,br,bp,iA,fN,sI,decide_true,aX,gc,ja,bK,gb,f_,ed,jT,gR,gQ,hd,cG,jS,ea,↓evMap,ju,iI,zw,hc,lD,e2,dA]
   .refine⟨aA F1 4,o1,g1.draw 4,HD,by lia,?_⟩
    unfold l7;generalize(k:Int)=ki at *;generalize(aN:Int)=mi at *;simp only[dh,lJ,cH,bu,ba,aV,bg,aW,↓af,bI,bb,bq,br,bp,iA,fN,sI,decide_true,aX,gc,ja,bK,gb,f_,ed,jT,gR,gQ,hd,decide_false,cR,cG,jS,↓evMap,bS,dA]
  .have sI:¬((k:Int)+1<(aN:Int)):=by lia
   refine⟨F1,o1,g1,HD,by lia,?_⟩
   unfold l7;generalize(k:Int)=ki at *;generalize(aN:Int)=mi at *;simp only[dh,lJ,cH,bu,ba,aV,bg,aW,↓af,bI,bb,bq,br,bp,iA,fN,sI,decide_false,aX,cR,gc,ja,bK,gb,f_,bS,dA]
 obtain⟨F3,o3,g3,Hz,ne3,e3⟩:∃(F3:aZ) (o3:List Str),a_ F3/\oQ names k o3/\o3≠[]/\n_ [some (bx F2),some (.Y (.lst (names.map .str))),some (.Y (.int (k:Int))),some (.Y (.int (aN:Int))),some (.lst (o2.map fS)),a5]=some (.nx,[some (bx F3),some (.Y (.lst (names.map .str))),some (.Y (.int (k:Int))),some (.Y (.int (aN:Int))),some (.lst (o3.map fS)),a5]):=by
  have ea:=ga aN (by lia)
  by_cases hc:o2.contains (names.getD aN "")=true
  .refine⟨F2,o2,g2,⟨Mo,by lia⟩,λz=>?_,?_⟩
   .rw[z] at hc;cases hc
   .unfold n_;generalize(k:Int)=ki at *;generalize(aN:Int)=mi at *;simp only[dh,lJ,cH,bu,ba,aV,bg,aW,↓af,bb,bq,br,bp,cG,jS,ea,↓evMap,ju,iI,zw,hc,iL,aX,cR,oT,jR,oU,IZ,bI,iA,bS,dA]
  .rw[EF] at hc;obtain⟨a,bs,ec,zO⟩:=Xj names o2 ((k:Int)+1) (by lia) ((aN:Int) - ((k:Int)+1)).toNat (by lia) (by lia)
   have i2:kP [.own (.Y (.int ((k:Int)+1))),.own (.Y (.int (aN:Int)))]=some ((k:Int)+1,(aN:Int)):=JI (by lia) (by lia)
   cases u5:bs.any id with
   |true=>
    refine⟨F2,o2,g2,⟨Mo,by lia⟩,λz=>?_,?_⟩
    .rw[An] at u5;obtain⟨b,hb,Sv⟩:=u5;rw[zO] at hb;obtain⟨i,_,e⟩:=gA.mp hb;rw[<-e,z] at Sv;cases Sv
    .unfold n_;generalize(k:Int)=ki at *;generalize(aN:Int)=mi at *;simp only[dh,lJ,cH,bu,ba,aV,bg,aW,↓af,bb,bq,br,bp,cG,jS,ea,↓evMap,ju,iI,zw,hc,lD,aX,oT,jR,oU,IZ,bI,iA,i2,fD,e8,t7,cy,bK,pM,e_,fe,ec,bO,bM,bP,reduceAdd,qP,pH,t8,pO,Iz,u5,kI,iL,cR,dA,bS]
   |false=>
    obtain⟨F3,DW,g3,m3,l3,e3⟩:=KL (gB bB (aa 1) (aa 3)) F2 g2 (.Y (.lst (names.map .str))) (.Y (.int (k:Int))) (.Y (.int (aN:Int))) a5 o2 (by lia) (names.getD aN "") (λNa=>by
      generalize(aN:Int)=mi at *;simp only[bu,ba,aV,bg,aW,↓af,bb,bq,br,bp,cG,jS,ea,↓evMap])
    refine⟨F3,DW,g3,⟨λo ho=>?_,by lia⟩,λz=>?_,?_⟩
    .rcases(m3 o).mp ho with z|z
     .rw[z];exact Jl (gm aN (by lia)) (by lia)
     .exact Mo o z
    .have:=(m3 (names.getD aN "")).mpr (.inl rfl);rw[z] at this;cases this
    .unfold n_;generalize(k:Int)=ki at *;generalize(aN:Int)=mi at *;simp only[dh,lJ,cH,bu,ba,aV,bg,aW,↓af,bb,bq,br,bp,cG,jS,ea,↓evMap,ju,iI,zw,hc,lD,aX,oT,jR,oU,IZ,bI,iA,i2,fD,e8,t7,cy,bK,pM,e_,fe,ec,bO,bM,bP,reduceAdd,qP,pH,t8,pO,Iz,u5,kI,e3,dA]
 refine⟨F3,o3,g3,Hz,ne3,?_⟩;have i2:kP [.own (.Y (.int ((k:Int)+1))),.own (.Y (.int (names.length:Int)))]=some ((k:Int)+1,(names.length:Int)):=JI (by lia) (by lia)
 unfold FD;unfold Jj;have zT:((names.map D.str).length:Int)=(names.length:Int):=by rw[bz]
 generalize(k:Int)=ki at *;generalize(aN:Int)=mi at *;generalize(names.length:Int)=nl at *;simp only[gn,eM,eX,bO,bM,bP,reduceAdd,reduceSub,fD,e8,e_,fe,cY,eJ,fM,bb,↓af,reduceLeDiff,eZ,aX,reduceLT,cy,bK,Kz,ba,bu,aV,bg,aW,bI,bq,br,bp,iA,oY,bX,pR,zT,↓evMap,i2,e1,e2,e3,eG,ua,gY,gw,gy,q_,gE,gp]
def qQ(aT:List Str):List bc->Prop
 |[]=>True
 |b::bs=>(∀o∈b.outs,o∈bs.map bc.name\/o∈aT)/\b.name∉bs.map bc.name/\b.name∉aT/\qQ aT bs
structure H0 (b:bc):Prop where
 lg:1<=b.long/\b.long<=20
 ol:b.outs.length<=20
 on:b.outs≠[]
structure fZ (h:aw):Prop where
 bl:0<h.aO.length/\h.aO.length<=6
 ct:0<h.aT.length/\h.aT.length<=3
 bk:∀b∈h.aO,H0 b
 fwd:qQ h.aT h.aO
theorem Xk(ds:List D)(n:Nat):cutD ds (some (n:Int)) none=ds.drop n:=by
 unfold cutD;have e:HT.dC ds.length 0 (some (n:Int))=min n ds.length:=by
  unfold HT.dC;simp;lia
 have e2:HT.dC ds.length ds.length none=ds.length:=rfl;rw[e,e2];by_cases h:n<=ds.length
 .rw[Nat.min_eq_left h];exact EH (by rw[vF];exact cJ _)
 .rw[Nat.min_eq_right (by lia),List.drop_eq_nil_of_le (cJ _),List.drop_eq_nil_of_le (by lia),List.take_nil]
theorem e6m(F:aZ)(g:a_ F)(names:List Str)(aN long k:Nat)(SM:k<aN)(hm:aN<names.length)(hl:names.length<=12)(l0:4<=long)(l1:long<=14)(bs:List bc)(hb:bs.length<=100)(a3 a4 a8 a9:Option O):
  ∃(F':aZ) (b:bc) (b8 b9:Option O),a_ F'/\H0 b/\b.name=names.getD k ""/\oQ names k b.outs/\
   pV [some (bx F),some (.Y (.int (aN:Int))),some (.Y (.int (long:Int))),a3,a4,some (.Y (.lst (names.map .str))),some (.lst ((bs.map bY).map .Y)),some (.Y (.int (k:Int))),a8,a9] =
   some (.nx,[some (bx F'),some (.Y (.int (aN:Int))),some (.Y (.int (long:Int))),a3,a4,some (.Y (.lst (names.map .str))),some (.lst (((bs++[b]).map bY).map .Y)),some (.Y (.int (k:Int))),b8,b9]):=by
 have e1:=xd g (m:=3) (by decide) (by decide)
 have ga:cN (names.map D.str) (k:Int)=some (.str (names.getD k "")):=by
  apply oE;rw[i7,eP (by lia),vI,eP (by lia)]
  rfl
 generalize hr:(aG F 3 == 0)=ring at *;have u6:(if ring=true then(1:Int) else 0)=0\/(if ring=true then(1:Int) else 0)=1:=by cases ring <;> simp
 have LC:0<(long:Int) - (if ring=true then 1 else 0):=by rcases u6 with z|z <;> rw[z] <;> lia
 have hm2:(long:Int) - (if ring=true then 1 else 0)<1073741824:=by rcases u6 with z|z <;> rw[z] <;> lia
 have e2:=xd (g.draw 3) LC hm2;have d0:=qS (aA F 3) LC;have d1:=qT (aA F 3) LC;obtain⟨F3,outs,g3,Hz,ne3,e3⟩:=e6l (aA (aA F 3) ((long:Int) - (if ring=true then 1 else 0))) ((g.draw 3).draw _) names k aN SM hm hl
 refine⟨F3,⟨names.getD k "",1+(if ring=true then 1 else 0)+aG (aA F 3) ((long:Int) - (if ring=true then 1 else 0)),ring,outs⟩,some (.Y (.bl ring)),some (.Y (.int (1+(if ring=true then 1 else 0)+aG (aA F 3) ((long:Int) - (if ring=true then 1 else 0))))),g3,⟨⟨?_,?_⟩,Hz.len,ne3⟩,rfl,Hz,?_⟩
 .dsimp only;rcases u6 with z|z <;> rw[z] at d0 d1 ⊢ <;> lia
 .dsimp only;rcases u6 with z|z <;> rw[z] at d0 d1 ⊢ <;> lia
 .have hla:((bs.map bY).length<1000000)=True:=ku (by rw[bz];lia)
  rw[iH (f:=bY),show[(⟨names.getD k "",1+(if ring=true then 1 else 0)+aG (aA F 3) ((long:Int) - (if ring=true then 1 else 0)),ring,outs⟩:bc)].map bY=[.tup [.str (names.getD k ""),.int (1+(if ring=true then 1 else 0)+aG (aA F 3) ((long:Int) - (if ring=true then 1 else 0))),.bl ring,.lst (outs.map .str)]] from rfl]
  unfold pV;generalize hrb:(if ring=true then(1:Int) else 0)=rb at *
  generalize(aN:Int)=mi at *;generalize(long:Int)=li at *;generalize(k:Int)=ki at *;simp only[cY,eJ,bu,ba,gc,aV,aW,↓af,bI,bb,ja,bK,gb,f_,e1,jT,gR,gQ,bq,br,bp,nr,bX,mT,and_self,oH,hr,aX,bO,bM,bP,reduceAdd,reduceLT,cy,cU,bg,χ,hrb,iA,fN,e2,jP,lV,fM,cG,jS,ga,↓evMap,e3,jy,Ce,reduceLeDiff,gD,eZ,jU,ia,h_,q8,hla]
theorem OB(names:List Str)(nd:names.Nodup)(aN:Nat)(hm:aN<=names.length):∀(bs:List bc) (j:Nat),j+bs.length=aN->(∀i b,bs[i]?=some b->b.name=names.getD (j+i) ""/\∀o∈b.outs,o∈names.drop (j+i+1))->bs.map bc.name=(names.drop j).take bs.length/\qQ (names.drop aN) bs
 |[],j,hj,_=>⟨rfl,iJ⟩
 |b::bs,j,hj,h=>by
  rw[hX] at hj;have h0:=h 0 b rfl;rw[EN] at h0;obtain⟨i1,i2⟩:=OB names nd aN hm bs (j+1) (by lia) λi c e=>by
   have:=h (i+1) c (by rw[EJ];exact e)
   rw[show j+(i+1)=j+1+i by lia] at this
   exact this
  have Hf:j<names.length:=by lia
  have ed:names.drop j=names.getD j ""::names.drop (j+1):=by
   rw[HP Hf,vI,eP Hf];rfl
  have r9:names.drop (j+1)=bs.map bc.name++names.drop aN:=by
   rw[i1];have:=vH bs.length (names.drop (j+1));rw[List.drop_drop,show j+1+bs.length=aN by lia] at this
   exact this.symm
  have DL:(names.getD j ""::names.drop (j+1)).Nodup:=by rw[<-ed];exact nd.sublist (List.drop_sublist _ _)
  have nn:=(hU.mp DL).1;rw[r9] at nn;refine⟨by rw[cS,h0.1,i1,ed];rfl,⟨λo ho=>?_,λz=>nn (jN _ (by rw[<-h0.1];exact z)),λz=>nn (hG _ (by rw[<-h0.1];exact z)),i2⟩⟩
  have:=h0.2 o ho;rw[r9] at this;exact eI.mp this
theorem V4(sv ix:Int)(z:Str)(a:Option O)(xn:vV [.Y (.int sv),.Y (.int ix)]=some (.Y (.str z),[none,none])):rM (bj 0) fQ (oX vV (ai (aa 1) (ai (aa 0) gN))) (.int ix) [a,some (.Y (.int sv))]=some (some (.own (.Y (.str z))),[some (.Y (.int ix)),some (.Y (.int sv))]):=by
 simp only[vU,iz,bO,bM,bP,reduceAdd,reduceLT,bK,aX,↓af,wc,vS,ba,aV,bg,aW,bb,bq,br,bp,ia,bX,h_,eM,eX,xn,Yz]
theorem YZ(sv:Int)(st n:Nat)(rA:sv=st)(hs:st<27)(hn:n<=9):∃a,compLoop (bj 0) fQ (oX vV (ai (aa 1) (ai (aa 0) gN))) ((List.range n).map λ(i:Nat)=>D.int (0+(i:Int))) [none,some (.Y (.int sv))] []=some (((List.range n).map λi=>D.str (nm st i)).map .Y,[a,some (.Y (.int sv))]):=by
 obtain⟨Q0n,⟨an,rfl⟩,en⟩:=Bp (g:=bj 0) (ct:=fQ) (ce:=oX vV (ai (aa 1) (ai (aa 0) gN))) (λQ0=>∃a,Q0=[a,some (.Y (.int sv))]) (λ(i:Nat)=>D.int (0+(i:Int))) (λi=>.str (nm st i)) (List.range n) [none,some (.Y (.int sv))] ⟨_,rfl⟩ (by rw[mO];lia) (by
  rintro i hi Q0 ⟨a,rfl⟩;rw[oz] at hi;exact⟨_,V4 sv (0+(i:Int)) (nm st i) a (YY sv (0+(i:Int)) st i rA (by lia) hs (by lia)),_,rfl⟩)
 exact⟨an,en⟩
theorem e6n(F:aZ)(g:a_ F)(aN long:Nat)(m0:1<=aN)(m1:aN<=6)(l0:4<=long)(l1:long<=14)(a3:Option O):
  ∃(F':aZ) (h:aw) (b1 b2 b3 b4 b5 b6 b7 b8 b9:Option O),a_ F'/\fZ h/\oh [some (bx F),some (.Y (.int (aN:Int))),some (.Y (.int (long:Int))),a3,none,none,none,none,none,none] =
   some (.rt (.tup [.lst (h.aO.map fB),.Y (.lst (h.aT.map .str))]),[some (bx F'),b1,b2,b3,b4,b5,b6,b7,b8,b9]):=by
 have e1:=xd g (m:=27) (by decide) (by decide)
 have s0:=qS F (m:=27) (by decide)
 have s1:=qT F (m:=27) (by decide)
 have e2:=xd (g.draw 27) (m:=3) (by decide) (by decide)
 have n0:=qS (aA F 27) (m:=3) (by decide)
 have n1:=qT (aA F 27) (m:=3) (by decide)
 obtain⟨st,rA,hs⟩:=JX (n:=27) s0 s1;obtain⟨nx,hnx,hx⟩:=JX (n:=3) n0 n1;have i1:gK [.own (.Y (.int ((aN:Int)+1+aG (aA F 27) 3)))]=some ((aN:Int)+1+aG (aA F 27) 3):=uO (by lia)
 have hN:((aN:Int)+1+aG (aA F 27) 3).toNat=aN+1+nx:=by lia
 obtain⟨an,en⟩:=YZ (aG F 27) st (aN+1+nx) rA hs (by lia)
 rw[<-qV,<-hN] at en;obtain⟨names,o8⟩:∃names:List Str,names=(List.range (aN+1+nx)).map (nm st):=⟨_,rfl⟩;have enm:((List.range ((aN:Int)+1+aG (aA F 27) 3).toNat).map λi=>D.str (nm st i))=names.map D.str:=by rw[o8,hN,lU];rfl
 rw[enm] at en;have hnl:names.length=aN+1+nx:=by rw[o8,bz,mO]
 have nd:names.Nodup:=by
  rw[o8];unfold List.Nodup;rw[M5];refine List.Pairwise.imp_of_mem ?_ (List.nodup_range (n:=aN+1+nx));intro i j hi hj Dn e;rw[oz] at hi hj;exact Dn (e6i st hs i (by lia) j (by lia) e)
 obtain⟨Q0',eL,F',bs,a7,a8,a9,Ld,hlen,zO,rfl⟩:=mB (g:=bj 7) (f:=pV) (λ(i:Nat)=>D.int (0+(i:Int))) (λpre Q0=>∃(F':aZ) (bs:List bc) (a7 a8 a9:Option O),a_ F'/\bs.length=pre.length/\(∀i b,bs[i]?=some b->H0 b/\b.name=names.getD (0+i) ""/\∀o∈b.outs,o∈names.drop (0+i+1))/\
   Q0=[some (bx F'),some (.Y (.int (aN:Int))),some (.Y (.int (long:Int))),a3,some (.Y (.int (aG F 27))),some (.Y (.lst (names.map .str))),some (.lst ((bs.map bY).map .Y)),a7,a8,a9]) (List.range aN) []
  [some (bx (aA (aA F 27) 3)),some (.Y (.int (aN:Int))),some (.Y (.int (long:Int))),a3,some (.Y (.int (aG F 27))),some (.Y (.lst (names.map .str))),some (.lst []),none,none,none] ⟨_,[],none,none,none,(g.draw 27).draw 3,rfl,λi b e=>(by simp at e),rfl⟩ (by
   rintro q k post Q0 eq ⟨F',bs,a7,a8,a9,gF,zT,zO,rfl⟩;rw[fI] at *;have hq:q.length=k/\k<aN:=by
    have e0:=congrArg (λl=>l[q.length]?) eq
    have hlen:=congrArg List.length eq;simp at hlen;simp at e0;rw[MV (by lia)] at e0
    exact⟨Option.some.inj e0,by have:=Option.some.inj e0;lia⟩
   obtain⟨F2,b,b8,b9,g2,bo,bn,oo,e⟩:=e6m F' gF names aN long k hq.2 (by lia) (by lia) l0 l1 bs (by lia) a3 (some (.Y (.int (aG F 27)))) a8 a9
   rw[show(k:Int)=0+(k:Int) by lia] at e
   refine⟨_,e,F2,bs++[b],_,b8,b9,g2,by rw[dy,dy,zT,jC,jC],λi c ec=>?_,rfl⟩
   by_cases hi:i<bs.length
   .rw[yX hi] at ec;exact zO i c ec
   .rw[yW (by lia)] at ec
    have hi0:i - bs.length=0:=by
     have:=(eO.mp ec).1;simp at this;lia
    rw[hi0] at ec;cases ec;have:0+i=k:=by lia
    rw[this];exact⟨bo,bn,oo.sub⟩)
 rw[fI,mO] at hlen;rw[<-qV] at eL;obtain⟨f1,f2⟩:=OB names nd aN (by lia) bs 0 (by lia) λi b e=>(zO i b e).2
 refine⟨F',⟨bs,names.drop aN⟩,some (.Y (.int (aN:Int))),some (.Y (.int (long:Int))),a3,some (.Y (.int (aG F 27))),some (.Y (.lst (names.map .str))),none,a7,a8,a9,Ld,⟨⟨by show 0<bs.length;lia,by show bs.length<=6;lia⟩,⟨?_,?_⟩,λb hb=>?_,f2⟩,?_⟩
 .show 0<(names.drop aN).length;rw[vF];lia
 .show(names.drop aN).length<=3;rw[vF];lia
 .obtain⟨i,hi,e⟩:=HM.mp hb;exact(zO i b (by rw[<-e];exact eP hi)).1
 .have im:gK [.own (.Y (.int (aN:Int)))]=some (aN:Int):=uO (by lia)
  have mt:(aN:Int).toNat=aN:=by lia
  have ct:=Xk (names.map D.str) aN;have ec:(names.drop aN).map D.str=(names.map D.str).drop aN:=M6 ..;have eb:(bs.map bY).map O.Y=bs.map fB:=by rw[lU];rfl
  unfold oh wQ;dsimp only;rw[ec];rw[eb] at eL;generalize(aN:Int)=mi at *;generalize(long:Int)=li at *;simp only[cY,eJ,cU,gc,ba,aV,aW,↓af,bI,bb,ja,bK,gb,f_,e1,jT,gR,gQ,bX,bO,bM,bP,reduceAdd,reduceLT,cy,aX,oU,OY,bu,bg,bq,br,bp,iA,e2,i1,↓evMap,fD,e8,t7,iI,pM,e_,fe,en,qP,pH,t8,pO,jy,rR,fM,reduceLeDiff,eZ,xZ,im,mt,eL,eG,ua,Fv,FU,FY,FT,Vw,ct,gD]
theorem Y0(F:aZ)(g:a_ F):∃(F':aZ) (h:aw),a_ F'/\fZ h/\Fg [bx F]=some (.tup [.lst (h.aO.map fB),.Y (.lst (h.aT.map .str))],[some (bx F')]):=by
 have e1:=xd g (m:=4) (by decide) (by decide)
 have d0:=qS F (m:=4) (by decide)
 have d1:=qT F (m:=4) (by decide)
 have e2:=xd (g.draw 4) (m:=8) (by decide) (by decide)
 obtain⟨mn,hmn,Hg⟩:=JX (n:=4) d0 d1;have e4:(4:Int)=((4:Nat):Int):=rfl;have main:∃(aN long:Nat) ,1<=aN/\aN<=6/\4<=long/\long<=14/\∀r,aR zU (aR zV r) [some (bx (aA (aA F 4) 8)),some (.Y (.int (1+aG F 4))),some (.Y (.int 4)),some (.Y (.int (aG (aA F 4) 8))),none,none,none,none,none,none]=r [some (bx (aA (aA F 4) 8)),some (.Y (.int (aN:Int))),some (.Y (.int (long:Int))),some (.Y (.int (aG (aA F 4) 8))),none,none,none,none,none,none]:=by
  by_cases h5:aG (aA F 4) 8=5
  .refine⟨6,5,by lia,by lia,by lia,by lia,λr=>?_⟩
   have q5:(aG (aA F 4) 8 == 5)=true:=by rw[h5];rfl
   have q6:(aG (aA F 4) 8 == 6)=false:=by rw[h5];rfl
   have z6:((6:Nat):Int)=6:=rfl;have z5:((5:Nat):Int)=5:=rfl;rw[z6,z5];unfold zU zV;simp only[cY,dh,cH,bu,ba,aV,bg,aW,↓af,bI,bb,bq,br,bp,nr,bX,mT,and_self,oH,q5,aX,eJ,bO,bM,bP,reduceAdd,reduceLT,cy,bK,dA,q6,cR,cU,fN,Int.reduceLT,decide_true,iA,bS]
  .have q5:(aG (aA F 4) 8 == 5)=false:=by rw[pK];exact h5
   by_cases h6:aG (aA F 4) 8=6
   .refine⟨1+(1+mn) / 3,14,by lia,by lia,by lia,by lia,λr=>?_⟩
    have q6:(aG (aA F 4) 8 == 6)=true:=by rw[h6];rfl
    have z6:((1+(1+mn) / 3:Nat):Int)=1+(1+aG F 4) / 3:=by lia
    have z5:((14:Nat):Int)=14:=rfl;have d3:decide (0<(3:Int)/\(3:Int)<1073741824)=true:=by decide
    rw[z6,z5];unfold zU zV;simp only[cY,dh,cH,bu,ba,aV,bg,aW,↓af,bI,bb,bq,br,bp,nr,bX,mT,and_self,oH,q5,aX,cR,eJ,bO,bM,bP,reduceAdd,reduceLT,cy,bK,dA,bS,q6,cU,fN,Int.reduceLT,decide_true,iA]
   .have q6:(aG (aA F 4) 8 == 6)=false:=by rw[pK];exact h6
    refine⟨1+mn,4,by lia,by lia,by lia,by lia,λr=>?_⟩
    have z6:((1+mn:Nat):Int)=1+aG F 4:=by lia
    rw[z6,<-e4];unfold zU zV;simp only[cY,dh,cH,bu,ba,aV,bg,aW,↓af,bI,bb,bq,br,bp,nr,bX,mT,and_self,oH,q5,aX,cR,eJ,bO,bM,bP,reduceAdd,reduceLT,cy,bK,dA,bS,q6,cU,fN,Int.reduceLT,decide_true,iA]
 obtain⟨aN,long,m0,m1,l0,l1,em⟩:=main;obtain⟨F',h,b1,b2,b3,b4,b5,b6,b7,b8,b9,Ld,ok,er⟩:=e6n (aA (aA F 4) 8) ((g.draw 4).draw 8) aN long m0 m1 l0 l1 (some (.Y (.int (aG (aA F 4) 8))));have Sg:=em oh;rw[er] at Sg;refine⟨F',h,Ld,ok,?_⟩;unfold Fg;unfold IG;generalize aR zU (aR zV oh)=rest at *;simp only[gn,eM,eX,bO,bM,bP,reduceSub,fD,e8,e_,fe,cY,eJ,cU,bu,ba,bI,↓af,gc,aV,aW,bb,ja,bK,gb,f_,e1,jT,gR,gQ,bq,br,bp,iA,bX,reduceAdd,reduceLT,cy,aX,e2,Sg,gY,gw,gy,q_,gp]
def findB(bs:List bc)(n:Str):Option bc:=bs.find? λb=>b.name == n
theorem Ph{aT:List Str}:∀{bs:List bc},qQ aT bs->∀x∈bs,∀y∈bs,x.name=y.name->x=y
 |z::bs,f,x,hx,y,hy,e=>by
  rcases eC.mp hx with uu|uu
  .rcases eC.mp hy with uv|uv
   .rw[uu,uv]
   .exact bQ (HU (f:=bc.name) uv) (by rw[<-e,uu];exact f.2.1)
  .rcases eC.mp hy with uv|uv
   .exact bQ (HU (f:=bc.name) uu) (by rw[e,uv];exact f.2.1)
   .exact Ph f.2.2.2 x uu y uv e
theorem IJ{aT:List Str}:∀{bs:List bc},qQ aT bs->∀c∈aT,c∉bs.map bc.name
 |[],_,c,_,h=>by cases h
 |b::bs,f,c,hc,h=>by
  rcases eC.mp h with z|z
  .exact f.2.2.1 (by rw[<-z];exact hc)
  .exact IJ f.2.2.2 c hc z
theorem Ir{aT:List Str}:∀{bs:List bc},qQ aT bs->∀b∈bs,findB bs b.name=some b
 |x::bs,f,b,hb=>by
  rcases eC.mp hb with rfl|hb
  .unfold findB;rw[tV,pJ]
  .have:(x.name == b.name)=false:=by
    rw[pK];exact λe=>f.2.1 (by rw[e];exact HU (f:=bc.name) hb)
   unfold findB;rw[tV,this];exact Ir f.2.2.2 b hb
theorem KN(x:Str):cx [.Y (.str x),.Y (.ty "str")]=some (.Y (.bl true)):=by unfold cx;simp[jh,jJ,O.d]
theorem G1(ds:List D):cx [.Y (.tup ds),.Y (.ty "tuple")]=some (.Y (.bl true)):=by unfold cx;simp[jh,jJ,O.d]
theorem e6o(x:Int):cx [.Y (.int x),.Y (.ty "bool")]=some (.Y (.bl false)):=by unfold cx;simp[jh,jJ,O.d]
theorem Rl(ds:List D):cx [.Y (.tup ds),.Y (.ty "str")]=some (.Y (.bl false)):=by unfold cx;simp[jh,jJ,O.d]
theorem e6p(n:Nat)(h:n<=1000):gK [.own (.Y (.int (n:Int)))]=some (n:Int):=uO (by lia)
theorem Tt(h:aw):eE (.Y (dZ h)) (.int 0)=some (.Y (.lst (h.aO.map bY))):=by unfold dZ;simp only[jE,lG,EI]
theorem MO(h:aw):eE (.Y (dZ h)) (.int 1)=some (.Y (.lst (h.aT.map .str))):=by unfold dZ;simp only[jE,mR,EI]
theorem MN(b:bc):eE (.Y (bY b)) (.int 1)=some (.Y (.int b.long)):=by unfold bY;simp only[jE,mR,EI]
theorem Tr(b:bc):eE (.Y (bY b)) (.int 2)=some (.Y (.bl b.ring)):=by unfold bY;simp only[jE,Jb,EI]
theorem Ts(b:bc):eE (.Y (bY b)) (.int 3)=some (.Y (.lst (b.outs.map .str))):=by unfold bY;simp only[jE,za,EI]
def xg(b:bc):List O:=[.Y (.str b.name),.Y (.int b.long),.Y (.bl b.ring),.Y (.lst (b.outs.map .str))]
abbrev jY(b:bc):O:=.tup (xg b)
theorem V5(xs:List Str):iO [.Y (.lst (xs.map .str))]=some (.lst (xs.map fS)):=by
 rw[Kj];rfl
theorem Qp(n:Str)(hd:D):∀(bs:List bc) (a:Option O),∃Q0',fz (bj 2) (ck (gT (gB oEq (gB bB (aa 2) (gC (.int 0))) (aa 1)))
  (aP (bA .tup (ai (gB bB (aa 2) (gC (.int 0))) (ai (gB bB (aa 2) (gC (.int 1))) (ai (gB bB (aa 2) (gC (.int 2))) (ai (av (gO iO (ai (gB bB (aa 2) (gC (.int 3))) gN))) gN))))))
  bw) (bs.map bY) [some (.Y hd),some (fS n),a]=some (match findB bs n with|some b=>.rt (jY b)|none=>.nx,[some (.Y hd),some (fS n),Q0'])
 |[],a=>⟨a,rfl⟩
 |b::bs,a=>by
  cases hc:b.name == n with
  |true=>
   have e:findB (b::bs) n=some b:=by unfold findB;rw[tV,hc]
   refine⟨some (fB b),?_⟩;rw[e];simp only[eM,bY,y9,iz,bO,bM,bP,reduceAdd,reduceLT,cy,bK,aX,↓af,dh,cH,bu,ba,aV,bg,aW,bI,bb,bq,br,bp,cG,jE,lG,↓evMap,nr,bX,qx,and_self,BS,hc,eG,fM,mR,Jb,cU,za,V5,jy,Ce,reduceLeDiff,gD,eZ,dA];rfl
  |false=>
   have e:findB (b::bs) n=findB bs n:=by unfold findB;rw[tV,hc]
   obtain⟨g',e'⟩:=Qp n hd bs (some (fB b));refine⟨g',?_⟩;rw[e,<-e'];unfold bY at *;simp only[eM,y9,iz,bO,bM,bP,reduceAdd,reduceLT,cy,bK,aX,↓af,dh,cH,bu,ba,aV,bg,aW,bI,bb,bq,br,bp,cG,jE,lG,↓evMap,nr,bX,qx,and_self,BS,hc,cR,eG,fM,mR,Jb,cU,za,dA,bS];rfl
theorem MM(h:aw)(n:Str):Bk [.Y (dZ h),fS n]=some (match findB h.aO n with|some b=>jY b|none=>.Y .bH,[none,none]):=by
 obtain⟨g',e⟩:=Qp n (dZ h) h.aO none;unfold Bk IA;unfold dZ at *;cases q:findB h.aO n with
 |none=>
  rw[q] at e;simp only[gn,eM,eX,bO,bM,bP,reduceAdd,reduceSub,fD,e8,e_,fe,cY,pS,cU,bu,ba,aV,aW,↓af,bI,bb,bq,br,bp,cG,jE,lG,↓evMap,bX,e,eG,gY,gw,gy,gE,gp,aX]
 |some b=>
  rw[q] at e;simp only[gn,eM,eX,bO,bM,bP,reduceAdd,reduceSub,fD,e8,e_,fe,cY,pS,cU,bu,ba,aV,aW,↓af,bI,bb,bq,br,bp,cG,jE,lG,↓evMap,bX,e,gY,gw,gy,gE,gp,aX]
theorem e6q(b:bc):(jY b).d=bY b:=by unfold jY xg bY;simp only[ia,h_,bX,jy,jU,Ce]
theorem e9b(h:aw)(b:bc)(f:qQ h.aT h.aO)(hb:b∈h.aO):Bk [.Y (dZ h),fS b.name]=some (jY b,[none,none]):=by
 have e:=MM h b.name;rw[Ir f b hb] at e;exact e
def nK(h:aw)(o:Str):D:=if h.aT.contains o=true then .str o else .tup [.str o,.int 0]
def qc(h:aw)(b:bc):List D:=b.outs.map (nK h)++if b.ring=true then[.tup [.str b.name,.int 0]] else[]
def zx(h:aw)(b:bc)(c:Int):List D:=if c+1<b.long then[.tup [.str b.name,.int (c+1)]] else qc h b
theorem Y1(h:aw)(b:bc)(c:Int)(f:qQ h.aT h.aO)(hb:b∈h.aO)(ol:b.outs.length<=24):Gd [.Y (dZ h),.Y (.tup [.str b.name,.int c])]=some (.lst ((zx h b c).map .Y),[none,none]):=by
 have e1:=e9b h b f hb;have td:=e6q b;unfold Gd JE zx;by_cases hc:c+1<b.long
 .rw[aJ hc];generalize jY b=tb at *;simp only[gn,eM,eX,bO,bM,bP,reduceAdd,reduceSub,fD,e8,e_,fe,cY,eJ,cU,gc,ba,aV,aW,↓af,bu,bg,bI,bb,bq,br,bp,cG,jE,lG,↓evMap,gb,f_,e1,gR,gQ,td,reduceLT,cy,bK,aX,dh,cH,mR,iA,MN,fN,hc,decide_true,eG,fM,bX,reduceLeDiff,gD,eZ,jU,ia,h_,dA,gY,gw,gy,gE,gp]
 .rw[aQ hc];obtain⟨Q0',⟨a,rfl⟩,e2⟩:=Bp (g:=bj 0) (ct:=fQ) (ce:=av (zM (gT (gB (cg false) (aa 0) (gB bB (aa 1) (gC (.int 1))))) (aa 0) (bA .tup (ai (aa 0) (ai (gC (.int 0)) gN))))) (λQ0=>∃a,Q0=[a,some (.Y (dZ h))]) D.str (nK h) b.outs [none,some (.Y (dZ h))] ⟨_,rfl⟩ (by lia) (by
   rintro x hx Q0 ⟨a,rfl⟩;refine⟨[some (fS x),some (.Y (dZ h))],?_,_,rfl⟩;unfold nK;by_cases hx:h.aT.contains x=true
   .rw[aJ hx];simp only[vU,iz,bO,bM,bP,reduceAdd,reduceLT,bK,aX,↓af,wc,cU,x_,cH,bu,ba,aV,aW,bg,bI,bb,bq,br,bp,cG,MO,GL,cR,hx,bS,fM,reduceLeDiff,gD,eZ,bX]
   .rw[aQ hx];rw[EF] at hx;simp only[vU,iz,bO,bM,bP,reduceAdd,reduceLT,bK,aX,↓af,wc,cU,x_,cH,bu,ba,aV,aW,bg,bI,bb,bq,br,bp,cG,MO,GL,cR,hx,bS,fM,reduceLeDiff,gD,eZ,jU,ia,bX,h_])
  unfold qc;by_cases hr:b.ring=true
  .rw[aJ hr];have l1:((b.outs.map (nK h)).length<1000000)=True:=ku (by rw[bz];lia)
   generalize jY b=tb at *;simp only[gn,eM,eX,bO,bM,bP,reduceAdd,reduceSub,fD,e8,e_,fe,cY,eJ,cU,gc,ba,aV,aW,↓af,bu,bg,bI,bb,bq,br,bp,cG,jE,lG,↓evMap,gb,f_,e1,gR,gQ,td,reduceLT,cy,bK,aX,dh,cH,mR,iA,MN,fN,hc,decide_false,cR,eG,fM,bX,reduceLeDiff,gD,eZ,jU,ia,h_,dA,bS,oU,vZ,Ts,t7,iI,pM,e2,qP,pH,t8,pO,jR,Tr,hr,kI,jP,lV,q8,l1,ua,gY,gw,gy,gE,gp]
  .rw[aQ hr,kZ];rw[EF] at hr;generalize jY b=tb at *;simp only[gn,eM,eX,bO,bM,bP,reduceAdd,reduceSub,fD,e8,e_,fe,cY,eJ,cU,gc,ba,aV,aW,↓af,bu,bg,bI,bb,bq,br,bp,cG,jE,lG,↓evMap,gb,f_,e1,gR,gQ,td,reduceLT,cy,bK,aX,dh,cH,mR,iA,MN,fN,hc,decide_false,cR,eG,fM,bX,reduceLeDiff,gD,eZ,jU,ia,h_,dA,bS,oU,vZ,Ts,t7,iI,pM,e2,qP,pH,t8,pO,jR,Tr,hr,kI,jP,lV,q8,ua,gY,gw,gy,gE,gp]
theorem Jm{aT:List Str}:∀{bs:List bc},qQ aT bs->∀b∈bs,∀o∈b.outs,o∈bs.map bc.name\/o∈aT
 |x::bs,f,b,hb,o,ho=>by
  rcases eC.mp hb with rfl|hb
  .rcases f.1 o ho with z|z
   .exact .inl (.tail _ z)
   .exact .inr z
  .rcases Jm f.2.2.2 b hb o ho with z|z
   .exact .inl (.tail _ z)
   .exact .inr z
def au:Str ⊕ (Str×Int)->D
 |.inl x=>.str x
 |.inr (x,i)=>.tup [.str x,.int i]
noncomputable def iZ(h:aw)(b:bc)(c:Int):List (Str ⊕ (Str×Int)):=if c+1<b.long then[.inr (b.name,c+1)] else(b.outs.map λo=>if h.aT.contains o=true then .inl o else .inr (o,0))++if b.ring=true then[.inr (b.name,0)] else[]
theorem Pj(h:aw)(b:bc)(c:Int):(iZ h b c).map au=zx h b c:=by
 unfold iZ zx qc;split
 .rfl
 .rw[iH,lU]
  congr 1
  .apply HV;intro o _;show au (if _ then _ else _)=nK h o
   unfold nK;split <;> rfl
  .split <;> rfl
abbrev Sp:=Str ⊕ (Str×Int)
theorem e9c(x y:Str)(i j:Int):aU (.tup [.str x,.int i]) (.tup [.str y,.int j])=(x == y&&i == j):=by
 unfold aU eU;rw[BS];unfold eU;rw[oH];unfold eU;rw[HQ]
theorem G2(a b:Sp):aU (au a) (au b)=decide (a=b):=by
 cases a with
 |inl x=>
  cases b with
  |inl y=>
   show aU (.str x) (.str y)=_;rw[BS];by_cases h:x=y
   .rw[h,pJ,fY rfl]
   .rw[show(x == y)=false by rw[pK];exact h,iu (λz=>h (Sum.inl.inj z))]
  |inr q=>show aU (.str x) (.tup _)=_;unfold aU;rw[iu (λz=>by cases z)]
 |inr p=>
  cases b with
  |inl y=>show aU (.tup _) (.str y)=_;unfold aU;rw[iu (λz=>by cases z)]
  |inr q=>
   obtain⟨x,i⟩:=p;obtain⟨y,j⟩:=q;show aU (.tup [.str x,.int i]) (.tup [.str y,.int j])=_;rw[e9c];by_cases h1:x=y
   .by_cases h2:i=j
    .rw[h1,h2,pJ,pJ,fY rfl];rfl
    .rw[show(i == j)=false by rw[pK];exact h2,Ao,iu (λz=>h2 (by cases z;rfl))]
   .rw[show(x == y)=false by rw[pK];exact h1,vD,iu (λz=>h1 (by cases z;rfl))]
theorem e9d(n:Nat)(x:Str)(i:Int):cQ (n+1) (.tup [.str x,.int i])=true:=by
 show([D.str x,.int i]:List D).all (cQ n)=true;simp only[rH,HW,qx,mT,uz]
theorem wj(n:Nat)(a:Sp):cQ (n+1) (au a)=true:=by
 cases a with
 |inl x=>exact qx _ x
 |inr p=>obtain⟨x,i⟩:=p;exact e9d n x i
theorem GN(n:Nat)(as:List Sp):(as.map au).all (cQ (n+1))=true:=by
 rw[lB];intro d hd;obtain⟨a,_,rfl⟩:=gA.mp hd;exact wj n a
theorem Cf(a b:Sp):dM [.Y (au a),.Y (au b)]=some (.Y (.bl (!decide (a=b)))):=by
 rw[J8,bX,bX,aJ ⟨wj 39 a,wj 39 b⟩,G2]
def cP(x:Sp)(as:List Sp):Bool:=as.any λa=>decide (a=x)
theorem ij{x:Sp}{as:List Sp}:cP x as=true↔x∈as:=by
 unfold cP;rw[An];constructor
 .rintro⟨a,ha,e⟩;rw[ER] at e;rw[<-e];exact ha
 .exact λh=>⟨x,h,fY rfl⟩
theorem Rm(x:Sp)(as:List Sp):((as.map au).any λz=>aU z (au x))=cP x as:=by
 unfold cP;rw[List.any_map]
 congr 1
 funext a;exact G2 a x
theorem Kk(neg:Bool)(x:Sp)(as:List Sp):cg neg [.Y (au x),.lst ((as.map au).map .Y)]=some (.Y (.bl (if neg then !cP x as else cP x as))):=by
 have hd:jb (.lst ((as.map au).map .Y))=none:=rfl;have key:((oj (O.lst ((as.map au).map O.Y)).d).bind λds=>if cQ 40 (O.Y (au x)).d=true/\ds.all (cQ 40)=true then some (O.Y (.bl (if neg then !ds.any λz=>aU z (O.Y (au x)).d else ds.any λz=>aU z (O.Y (au x)).d))) else none)=some (.Y (.bl (if neg then !cP x as else cP x as))):=by
  rw[jy,nq,bX];show(Option.bind (some (as.map au)) _)=_;rw[Option.bind_some,aJ ⟨wj 39 x,GN 39 as⟩,Rm]
 cases x with
 |inl y=>exact key
 |inr p=>exact key
theorem JJ(a:Sp):cx [.Y (au a),.Y (.ty "str")]=some (.Y (.bl a.isLeft)):=by
 cases a with
 |inl x=>exact KN x
 |inr p=>exact Rl _
theorem Y2(a:Sp):cx [.Y (au a),.Y (.ty "tuple")]=some (.Y (.bl (!a.isLeft))):=by
 cases a with
 |inl x=>
  unfold cx;simp[jh,jJ,O.d,au]
 |inr p=>exact G1 _
def Ib(h:aw):Sp->Prop
 |.inl c=>c∈h.aT
 |.inr (n,_)=>∃b∈h.aO,b.name=n
def fX(h:aw):Sp->List Sp
 |.inl _=>[]
 |.inr (n,c)=>match findB h.aO n with
  |some b=>iZ h b c
  |none=>[]
theorem JK{h:aw}(f:qQ h.aT h.aO){b:bc}(hb:b∈h.aO)(c:Int):fX h (.inr (b.name,c))=iZ h b c:=by
 show(match findB h.aO b.name with|some b=>iZ h b c|none=>[])=_
 rw[Ir f b hb]
theorem OC(h:aw)(b:bc)(c:Int)(ol:b.outs.length<=20):(iZ h b c).length<=30:=by
 unfold iZ;split
 .rw[jC];lia
 .rw[dy,bz];split
  .rw[jC];lia
  .rw[rJ];lia
theorem Pk{α:Type}{g:GG}{f:GS}(enc:α->D)(St:Gm->Prop)(p:α->Bool)(o:O):∀(xs:List α) (Q0:Gm),St Q0->(∀x∈xs,∀Q0,St Q0->∃cu,(g (enc x) Q0).bind f=some (if p x=true then .nx else .rt o,cu)/\St cu)->
  ∃Q0',fz g f (xs.map enc) Q0=some (if xs.all p=true then .nx else .rt o,Q0')/\St Q0'
 |[],Q0,h,_=>⟨Q0,rfl,h⟩
 |x::xs,Q0,h,st=>by
  obtain⟨cu,h2,h3⟩:=st x (.head _) Q0 h;rw[cS,y9];cases q:g (enc x) Q0 with
  |none=>rw[q] at h2;cases h2
  |some az=>
   rw[q] at h2;have h2:f az=some (if p x=true then .nx else .rt o,cu):=h2
   rw[Option.bind_some,h2,Option.bind_some,rH];cases hp:p x with
   |true=>
    obtain⟨Q0',e,s⟩:=Pk enc St p o xs cu h3 λy hy=>st y (.tail _ hy)
    exact⟨Q0',by rw[uz,<-e];rfl,s⟩
   |false=>exact⟨cu,rfl,h3⟩
def wo:GE:=(kJ (mh (ai (aa 3) gN)) (bj 0) fQ (av (bA .tup (ai (aa 1) (ai (aa 0) gN)))) 1 [2])
def GP:GS:=(ak 1 (av (gB b_ (aa 1) wo)))
theorem V6(n:Str)(ix:Int)(a:Option O):rM (bj 0) fQ (av (bA .tup (ai (aa 1) (ai (aa 0) gN)))) (.int ix) [a,some (fS n)]=some (some (.own (.Y (.tup [.str n,.int ix]))),[some (.Y (.int ix)),some (fS n)]):=by
 simp only[vU,iz,bO,bM,bP,reduceAdd,reduceLT,bK,aX,↓af,wc,cU,fM,ba,aV,bg,aW,bb,reduceLeDiff,gD,eZ,jU,ia,bX,h_]
theorem U4(s0 a4 a5:Option O)(cs:List Sp)(n:Str)(long:Int)(l0:1<=long)(l1:long<=20)(hc:cs.length<=200):
  ∃new:List Sp,(∀s∈new,∃i:Int,s=.inr (n,i)/\0<=i/\i<long)/\0<new.length/\new.length<=20/\GP [s0,some (.Y (.lst (cs.map au))),some (fS n),some (.Y (.int long)),a4,a5]=some (.nx,[s0,some (.Y (.lst ((cs++new).map au))),some (fS n),some (.Y (.int long)),a4,a5]):=by
 obtain⟨Q0',⟨a,rfl⟩,e⟩:=Bp (g:=bj 0) (ct:=fQ) (ce:=av (bA .tup (ai (aa 1) (ai (aa 0) gN)))) (λQ0=>∃a,Q0=[a,some (fS n)]) (λ(i:Nat)=>D.int (0+(i:Int))) (λ(i:Nat)=>.tup [.str n,.int (0+(i:Int))]) (List.range long.toNat) [none,some (fS n)] ⟨_,rfl⟩ (by rw[mO];lia) (by
  rintro i hi Q0 ⟨a,rfl⟩;exact⟨_,V6 n (0+(i:Int)) a,_,rfl⟩)
 refine⟨(List.range long.toNat).map λ(i:Nat)=>.inr (n,0+(i:Int)),λs hs=>?_,by rw[bz,mO];lia,by rw[bz,mO];lia,?_⟩
 .obtain⟨i,hi,rfl⟩:=gA.mp hs;rw[oz] at hi;exact⟨_,rfl,by lia,by lia⟩
 .have en:(List.range long.toNat).map (λ(i:Nat)=>D.tup [.str n,.int (0+(i:Int))])=((List.range long.toNat).map λ(i:Nat)=>(Sum.inr (n,0+(i:Int)):Sp)).map au:=by rw[lU];rfl
  rw[en] at e;have hl:((List.range long.toNat).map λ(i:Nat)=>(Sum.inr (n,0+(i:Int)):Sp)).length<=20:=by rw[bz,mO];lia
  generalize((List.range long.toNat).map λ(i:Nat)=>(Sum.inr (n,0+(i:Int)):Sp))=new at *
  rw[<-qV] at e;have i1:gK [.own (.Y (.int long))]=some long:=uO (by lia)
  have c1:((cs.map au).length+(new.map au).length<=1000000)=True:=ku (by rw[bz,bz];lia)
  rw[iH (f:=au)];unfold GP wo;simp only[eJ,cU,bu,ba,aV,bg,aW,↓af,oU,OY,bb,i1,↓evMap,fD,e8,t7,iI,cy,bK,pM,e_,fe,e,bO,bM,bP,reduceAdd,qP,pH,t8,pO,aX,bq,br,bp,WR,Gw,y8,c1,jy,rR,reduceLT]
def VC(h:aw)(s:Sp):Prop:=∃b∈h.aO,∃c:Int,s=.inr (b.name,c)/\0<=c/\c<b.long
theorem Y3(h:aw)(ok:fZ h):∃cs:List Sp,(∀s∈cs,VC h s)/\0<cs.length/\cs.length<=120/\Ff [.Y (dZ h)]=some (.Y (.lst (cs.map au)),[none]):=by
 obtain⟨Q0',e,cs,a2,a3,a4,a5,v,l0,l1,rfl⟩:=mB (g:=gr [(bj 2),(bj 3),(bj 4),(bj 5)]) (f:=GP) bY (λpre Q0=>∃(cs:List Sp) (a2 a3 a4 a5:Option O),(∀s∈cs,VC h s)/\pre.length<=cs.length/\cs.length<=pre.length*20/\Q0=[some (.Y (dZ h)),some (.Y (.lst (cs.map au))),a2,a3,a4,a5]) h.aO []
  [some (.Y (dZ h)),some (.Y (.lst [])),none,none,none,none] ⟨[],none,none,none,none,λs m=>(by cases m),cJ _,cJ _,rfl⟩ (by
   rintro q b post Q0 eq ⟨cs,a2,a3,a4,a5,v,l0,l1,rfl⟩;rw[fI] at *;have hb:b∈h.aO:=by rw[eq];simp
   have bl:=ok.bl;have hql:h.aO.length=q.length+(post.length+1):=by rw[eq,dy,hX]
   have lg:=(ok.bk b hb).lg;obtain⟨new,n1,n2,n3,e⟩:=U4 (some (.Y (dZ h))) (some (.Y (.bl b.ring))) (some (.Y (.lst (b.outs.map .str)))) cs b.name b.long lg.1 lg.2 (by lia)
   refine⟨[some (.Y (dZ h)),some (.Y (.lst ((cs++new).map au))),some (fS b.name),some (.Y (.int b.long)),some (.Y (.bl b.ring)),some (.Y (.lst (b.outs.map .str)))],?_,cs++new,_,_,_,_,λs hs=>?_,by rw[dy,dy,jC];lia,by rw[dy,dy,jC];lia,rfl⟩
   .unfold bY;simp only[JB,Ja,iz,bO,bM,bP,reduceAdd,reduceLT,cy,bK,aX,↓af,I_,e]
   .rcases eI.mp hs with z|z
    .exact v s z
    .obtain⟨i,rfl,i0,i1⟩:=n1 s z;exact⟨b,hb,i,rfl,i0,i1⟩)
 rw[fI] at *;have bl:=ok.bl;refine⟨cs,v,by lia,by lia,?_⟩
 have me:IB=aR (ak 1 (av (bA .lst gN))) (aR (ef (gB bB (aa 0) (gC (.int 0))) (gr [(bj 2),(bj 3),(bj 4),(bj 5)]) GP) (aP (aa 1))):=rfl;unfold Ff;rw[me];simp only[gn,eM,eX,bO,bM,bP,reduceSub,fD,e8,e_,fe,cY,eJ,cU,fM,bb,↓af,reduceLeDiff,eZ,aX,jy,h_,reduceAdd,reduceLT,cy,bK,pS,bu,ba,aV,aW,bI,bq,br,bp,cG,Tt,bX,e,eG,bg,gY,gw,gy,gE,gp]
theorem Y4(h:aw)(ok:fZ h)(b:bc)(hb:b∈h.aO)(c:Int):zk [.Y (dZ h),.Y (.tup [.str b.name,.int c])]=some (.lst (((iZ h b c++[(Sum.inr (b.name,c):Sp)]).map au).map .Y),[none,none]):=by
 have e1:=Y1 h b c ok.fwd hb (by have:=(ok.bk b hb).ol;lia)
 rw[<-Pj] at e1;have hl:=OC h b c (ok.bk b hb).ol;have c1:(((iZ h b c).map au).length+1<=1000000)=True:=ku (by rw[bz];lia)
 rw[iH (f:=au),show[(Sum.inr (b.name,c):Sp)].map au=[.tup [.str b.name,.int c]] from rfl];unfold zk JG;simp only[gn,eM,eX,bO,bM,bP,reduceAdd,reduceSub,e8,e_,fe,eG,bu,ba,gc,aV,aW,↓af,bg,bb,gb,f_,e1,gR,gQ,fM,reduceLeDiff,gD,eZ,aX,bq,br,bp,FV,Gw,y8,J7,J6,c1,gY,gw,gy,gE,gp]
theorem Xl(x a:Sp)(as:List Sp):cP x (as++[a])=(cP x as || decide (a=x)):=by
 unfold cP;rw[List.any_append];show(_ || (decide (a=x) || false))=_;rw[EC]
end Carry
namespace Carry
section
variable{ν:Type}[DecidableEq ν]
def sm(f:ν->Int):List ν->Int
 |[]=>0
 |v::l=>f v+sm f l
theorem rO{f g:ν->Int}:∀{l:List ν},(∀v,v∈l->f v=g v)->sm f l=sm g l
 |[],_=>rfl
 |v::l,h=>by
  show f v+sm f l=g v+sm g l;rw[h v (.head _),rO λv m=>h v (.tail _ m)]
theorem uU(f g:ν->Int):∀l:List ν,sm (λv=>f v+g v) l=sm f l+sm g l
 |[]=>rfl
 |v::l=>by
  show f v+g v+sm _ l=f v+sm f l+(g v+sm g l);rw[uU f g l];lia
theorem Kl(f:ν->Int):∀l:List ν,sm (λv => - f v) l = - sm f l
 |[]=>rfl
 |v::l=>by
  show - f v+sm _ l = - (f v+sm f l);rw[Kl f l];lia
theorem zl{f:ν->Int}:∀{l:List ν},(∀v,v∈l->f v=0)->sm f l=0
 |[],_=>rfl
 |v::l,h=>by
  show f v+sm f l=0;rw[h v (.head _),zl λv m=>h v (.tail _ m)];rfl
theorem Fj{f:ν->Int}:∀{l:List ν},(∀v,v∈l->0<=f v)->0<=sm f l
 |[],_=>yY 0
 |v::l,h=>by
  have h1:=h v (.head _);have h2:=Fj λv m=>h v (.tail _ m)
  show 0<=f v+sm f l;lia
theorem GQ{f:ν->Int}:∀{l:List ν},(∀v,v∈l->0<=f v)->∀x,x∈l->f x<=sm f l
 |v::l,h,x,m=>by
  have h1:=h v (.head _);have h2:=Fj λv m=>h v (.tail _ m)
  show f x<=f v+sm f l;rcases eC.mp m with m|m
  .subst m;lia
  .have:=GQ (λv m=>h v (.tail _ m)) x m
   lia
theorem Qq(g:ν->ν->Int):∀A B:List ν,sm (λv=>sm (g v) B) A=sm (λb=>sm (λv=>g v b) A) B
 |[],B=>(zl λ_ _=>rfl).symm
 |a::A,B=>by
  show sm (g a) B+sm (λv=>sm (g v) B) A=sm (λb=>g a b+sm (λv=>g v b) A) B
  rw[Qq g A B,uU]
theorem Qr{g:ν->ν->Int}(h:∀v b,g v b = - g b v)(S:List ν):sm (λv=>sm (g v) S) S=0:=by
 have e1:=Qq g S S;have e2:sm (λb=>sm (λv=>g v b) S) S = - sm (λv=>sm (g v) S) S:=by
  rw[<-Kl];exact rO λb _=>by rw[<-Kl];exact rO λv _=>h v b
 lia
theorem FE(f:ν->Int)(p:ν->Bool):∀l:List ν,sm f l=sm f (l.filter p)+sm f (l.filter λv => !p v)
 |[]=>rfl
 |v::l=>by
  show f v+sm f l=_;rw[FE f p l,Al,Al];cases p v with
  |true=>show _=(f v+sm f (l.filter p))+sm f (l.filter λv => !p v);lia
  |false=>show _=sm f (l.filter p)+(f v+sm f (l.filter λv => !p v));lia
theorem qw{x:ν}(d:Int):∀{l:List ν},l.Nodup->sm (λv=>if v=x then d else 0) l=if x∈l then d else 0
 |[],_=>rfl
 |v::l,nd=>by
  rw[hU] at nd;show(if v=x then d else 0)+sm _ l=_
  rw[qw d nd.2];by_cases e:v=x
  .subst e;rw[aJ rfl,aQ nd.1,aJ (.head _)];lia
  .rw[aQ e];by_cases m:x∈l
   .rw[aJ m,aJ (.tail _ m)];lia
   .rw[aQ m,aQ λz=>by
     rcases eC.mp z with z|z
     .exact e z.symm
     .exact m z]
    rfl
structure i8 (V:List ν) (s t:ν) (r0 r:ν->ν->Int):Prop where
 nn:∀v b,0<=r v b
 an:∀v b,r0 v b - r v b = - (r0 b v - r b v)
 cs:∀v,v∈V->v≠s->v≠t->sm (λb=>r0 v b - r v b) V=0
 sp:∀v b,(v∉V\/b∉V)->r0 v b=0/\r v b=0
 ns:s≠t
 ms:s∈V
 mt:t∈V
 nd:V.Nodup
def aug(r:ν->ν->Int)(a b:ν):ν->ν->Int:=λv w=>if v=a/\w=b then r v w - 1 else if v=b/\w=a then r v w+1 else r v w
def ex(V:List ν)(r0 r:ν->ν->Int)(v:ν):Int:=sm (λb=>r0 v b - r v b) V
theorem e6r{V:List ν}{r0 r:ν->ν->Int}{a b:ν}(nd:V.Nodup)(j7:a≠b)(ha:a∈V)(hb:b∈V)(v:ν):ex V r0 (aug r a b) v=ex V r0 r v+(if v=a then 1 else 0) - (if v=b then 1 else 0):=by
 have key:∀w,r0 v w - aug r a b v w=(r0 v w - r v w)+((if w=b then(if v=a then 1 else 0) else 0)+(if w=a then - (if v=b then 1 else 0) else 0)):=by
  intro w;unfold aug;by_cases h1:v=a
  .have h2:v≠b:=λz=>j7 (h1.symm.trans z)
   by_cases h3:w=b
   .have h4:w≠a:=λz=>j7 (z.symm.trans h3)
    simp only[h1,h3,and_self,aX];have:a≠b:=j7;simp[this,this.symm];lia
   .simp[h1,h3,j7]
  .by_cases h2:v=b
   .by_cases h3:w=a
    .simp[h2,h3,j7,j7.symm];lia
    .simp[h2,h3,j7.symm]
   .simp[h1,h2]
 unfold ex;rw[rO λw _=>key w,uU,uU]
 have e1:=qw (x:=b) (if v=a then(1:Int) else 0) nd
 have e2:=qw (x:=a) (- (if v=b then(1:Int) else 0)) nd
 rw[aJ hb] at e1;rw[aJ ha] at e2;rw[e1,e2];lia
def jG(r:ν->ν->Int):List ν->(ν->ν->Int)
 |b::a::p=>jG (aug r a b) (a::p)
 |_=>r
theorem Qs{r:ν->ν->Int}{a b v w:ν}(h:¬(v=a/\w=b))(h':¬(v=b/\w=a)):aug r a b v w=r v w:=by unfold aug;rw[aQ h,aQ h']
theorem Qt{V:List ν}{r0:ν->ν->Int}(nd:V.Nodup):∀(p:List ν) (r:ν->ν->Int) (b e:ν),(b::p).Nodup->(∀v,v∈b::p->v∈V)->(b::p).getLast?=some e->b≠e->∀v,ex V r0 (jG r (b::p)) v=ex V r0 r v+(if v=e then 1 else 0) - (if v=b then 1 else 0)
 |[],r,b,e,_,_,hl,i6,v=>by simp at hl;exact bQ hl i6
 |a::p,r,b,e,hn,hv,hl,i6,v=>by
  have j7:a≠b:=λz=>(hU.mp hn).1 (by rw[<-z];exact .head _)
  show ex V r0 (jG (aug r a b) (a::p)) v=_;have e1:=e6r (r0:=r0) (r:=r) nd j7 (hv a (.tail _ (.head _))) (hv b (.head _)) v;by_cases c:p=[]
  .subst c;have he:a=e:=by simpa using hl
   subst he;show ex V r0 (aug r a b) v=_;rw[e1]
  .have uq:(a::p).getLast?=some e:=by
    rw[List.getLast?_cons_cons] at hl;exact hl
   have hae:a≠e:=λz=>by
    subst z;have Hh:=hU.mp (hU.mp hn).2;have hm:a∈p:=by
     cases p with
     |nil=>exact bQ rfl c
     |cons y q=>
      rw[List.getLast?_cons_cons] at uq;exact List.mem_of_getLast? uq
    exact Hh.1 hm
   rw[Qt nd p (aug r a b) a e (hU.mp hn).2 (λv m=>hv v (.tail _ m)) uq hae v,e1]
   lia
def kG(r:ν->ν->Int):List ν->Prop
 |b::a::p=>0<r a b/\kG r (a::p)
 |_=>True
theorem OD{r:ν->ν->Int}{a b:ν}:∀(p:List ν),b∉p->kG r p->kG (aug r a b) p
 |[],_,_=>iJ
 |[_],_,_=>iJ
 |y::x::p,hb,h=>⟨by
   rw[Qs (λz=>hb (by rw[<-z.2];exact .head _)) (λz=>hb (by rw[<-z.1];exact .tail _ (.head _)))]
   exact h.1,OD (x::p) (λm=>hb (.tail _ m)) h.2⟩
theorem Qu{V:List ν}{s t:ν}{r0:ν->ν->Int}:∀(p:List ν) (r:ν->ν->Int),p.Nodup->kG r p->(∀v b,0<=r v b)->∀v b,0<=jG r p v b
 |[],r,_,_,h=>h
 |[_],r,_,_,h=>h
 |b::a::p,r,hn,hr,h=>Qu (V:=V) (s:=s) (t:=t) (r0:=r0) (a::p) (aug r a b) (hU.mp hn).2 (OD (a::p) (hU.mp hn).1 hr.2) λv w=>by
   have h1:=h v w;unfold aug;split
   .rename_i z
    have:=hr.1;rw[<-z.1,<-z.2] at this;lia
   .split
    .lia
    .exact h1
theorem e6s{r0 r:ν->ν->Int}{a b:ν}(j7:a≠b)(h:∀v b,r0 v b - r v b = - (r0 b v - r b v))(v w:ν):r0 v w - aug r a b v w = - (r0 w v - aug r a b w v):=by
 have h1:=h v w;unfold aug;by_cases c1:v=a/\w=b
 .have c2:¬(w=a/\v=b):=λz=>j7 (c1.1.symm.trans z.2)
  rw[aJ c1,aQ c2,aJ ⟨c1.2,c1.1⟩];lia
 .rw[aQ c1];by_cases c3:v=b/\w=a
  .rw[aJ c3,aJ ⟨c3.2,c3.1⟩];lia
  .rw[aQ c3,aQ (λz=>c3 ⟨z.2,z.1⟩),aQ (λz=>c1 ⟨z.2,z.1⟩)];exact h1
theorem Qv{r0:ν->ν->Int}:∀(p:List ν) (r:ν->ν->Int),p.Nodup->(∀v b,r0 v b - r v b = - (r0 b v - r b v))->∀v b,r0 v b - jG r p v b = - (r0 b v - jG r p b v)
 |[],r,_,h=>h
 |[_],r,_,h=>h
 |b::a::p,r,hn,h=>Qv (a::p) (aug r a b) (hU.mp hn).2 (e6s (λz=>(hU.mp hn).1 (by rw[<-z];exact .head _)) h)
theorem Qw{V:List ν}:∀(p:List ν) (r:ν->ν->Int),(∀v,v∈p->v∈V)->(∀v b,(v∉V\/b∉V)->r v b=0)->∀v b,(v∉V\/b∉V)->jG r p v b=0
 |[],r,_,h=>h
 |[_],r,_,h=>h
 |b::a::p,r,hv,h=>Qw (a::p) (aug r a b) (λv m=>hv v (.tail _ m)) λv w z=>by
   have ha:=hv a (.tail _ (.head _));have hb:=hv b (.head _);rw[Qs (λq=>by
    rcases z with z|z
    .exact z (by rw[q.1];exact ha)
    .exact z (by rw[q.2];exact hb)) (λq=>by
    rcases z with z|z
    .exact z (by rw[q.1];exact hb)
    .exact z (by rw[q.2];exact ha))]
   exact h v w z
theorem i8.push{V:List ν}{s t:ν}{r0 r:ν->ν->Int}(F:i8 V s t r0 r){p:List ν}(hn:(t::p).Nodup)(hv:∀v,v∈t::p->v∈V)(hl:(t::p).getLast?=some s)(hr:kG r (t::p)):
  i8 V s t r0 (jG r (t::p))/\ex V r0 (jG r (t::p)) s=ex V r0 r s+1:=by
 have e:=Qt (r0:=r0) F.nd p r t s hn hv hl (Ne.symm F.ns);refine⟨⟨Qu (V:=V) (s:=s) (t:=t) (r0:=r0) _ r hn hr F.nn,Qv _ r hn F.an,λv m h1 h2=>?_,λv b z=>⟨(F.sp v b z).1,Qw _ r hv (λv b z=>(F.sp v b z).2) v b z⟩,F.ns,F.ms,F.mt,F.nd⟩,?_⟩
 .have:=e v;rw[aQ h1,aQ h2] at this;have h3:ex V r0 r v=0:=F.cs v m h1 h2;show ex V r0 (jG r (t::p)) v=0;lia
 .rw[e s,aJ rfl,aQ F.ns];lia
theorem i8.cut{V:List ν}{s t:ν}{r0 r:ν->ν->Int}(F:i8 V s t r0 r)(S:ν->Bool)(hs:S s=true)(ht:S t=false)(hc:∀v b,v∈V->b∈V->S v=true->S b=false->r v b=0):
  ex V r0 r s=sm (λv=>sm (λb=>r0 v b) (V.filter λb => !S b)) (V.filter S):=by
 have e1:sm (ex V r0 r) (V.filter S)=ex V r0 r s:=by
  have h1:∀v,v∈V.filter S->ex V r0 r v=if v=s then ex V r0 r s else 0:=λv m=>by
   obtain⟨m1,m2⟩:=jB.mp m;by_cases c:v=s
   .rw[aJ c,c]
   .rw[aQ c];exact F.cs v m1 c λz=>by rw[z,ht] at m2;cases m2
  rw[rO h1,qw _ (F.nd.filter _),aJ (jB.mpr ⟨F.ms,hs⟩)]
 have e2:sm (ex V r0 r) (V.filter S)=sm (λv=>sm (λb=>r0 v b - r v b) (V.filter S)) (V.filter S)+sm (λv=>sm (λb=>r0 v b - r v b) (V.filter λb => !S b)) (V.filter S):=by
  rw[<-uU];exact rO λv _=>FE _ S V
 have e3:=Qr (g:=λv b=>r0 v b - r v b) F.an (V.filter S)
 have e4:sm (λv=>sm (λb=>r0 v b - r v b) (V.filter λb => !S b)) (V.filter S)=sm (λv=>sm (λb=>r0 v b) (V.filter λb => !S b)) (V.filter S):=rO λv mv=>rO λb mb=>by
  obtain⟨m1,m2⟩:=jB.mp mv;obtain⟨m3,m4⟩:=jB.mp mb;have m4:S b=false:=by simpa using m4
  rw[hc v b m1 m3 m2 m4];lia
 lia
end
end Carry
namespace Carry
open L2 PySem
section
variable{α β γ:Type}[DecidableEq α]
def lk:List (α×β)->α->Option β
 |[],_=>none
 |e::l,k=>if e.1=k then some e.2 else lk l k
def pt:List (α×β)->α->β->List (α×β)
 |[],k,v=>[(k,v)]
 |e::l,k,v=>if e.1=k then(e.1,v)::l else e::pt l k v
theorem lh(e:α×β)(l:List (α×β))(k:α):lk (e::l) k=if e.1=k then some e.2 else lk l k:=rfl
theorem wk(k j:α)(v:β):∀l:List (α×β),lk (pt l k v) j=if k=j then some v else lk l j
 |[]=>rfl
 |e::l=>by
  show lk (if e.1=k then(e.1,v)::l else e::pt l k v) j=_
  by_cases h:e.1=k
  .rw[aJ h,lh,lh];dsimp only;rw[h];split
   .rfl
   .rfl
  .rw[aQ h,lh,lh,wk k j v l];by_cases h2:e.1=j
   .rw[aJ h2,aQ (λz=>h (h2.trans z.symm)),aJ h2]
   .rw[aQ h2,aQ h2]
theorem eV:∀{l:List (α×β)} {k:α},(∃v,lk l k=some v)↔k∈l.map (·.1)
 |[],k=>⟨λ⟨v,h⟩=>(by cases h),λh=>(by cases h)⟩
 |e::l,k=>by
  rw[lh,cS,eC];by_cases h:e.1=k
  .rw[aJ h];exact⟨λ_=>.inl h.symm,λ_=>⟨_,rfl⟩⟩
  .rw[aQ h,eV];exact⟨.inr,λz=>z.resolve_left λq=>h q.symm⟩
theorem km{l:List (α×β)}{k:α}:lk l k=none↔k∉l.map (·.1):=by
 rw[<-eV];constructor
 .rintro h ⟨v,e⟩;rw[h] at e;cases e
 .intro h;cases q:lk l k with
  |none=>rfl
  |some v=>exact bQ ⟨v,q⟩ h
theorem BH(k:α)(v:β):∀l:List (α×β),(pt l k v).map (·.1)=if k∈l.map (·.1) then l.map (·.1) else l.map (·.1)++[k]
 |[]=>rfl
 |e::l=>by
  show(if e.1=k then(e.1,v)::l else e::pt l k v).map (·.1)=_
  rw[cS];by_cases h:e.1=k
  .rw[aJ h,aJ (by rw[h];exact .head _),cS]
  .rw[aQ h,cS,BH k v l];by_cases h2:k∈l.map (·.1)
   .rw[aJ h2,aJ (.tail _ h2)]
   .rw[aQ h2,aQ (λz=>by
     rcases eC.mp z with z|z
     .exact h z.symm
     .exact h2 z)]
    rfl
theorem e9e{k:α}{v:β}{l:List (α×β)}(h:(l.map (·.1)).Nodup):((pt l k v).map (·.1)).Nodup:=by
 rw[BH];split
 .exact h
 .rename_i z
  exact lC.mpr ⟨h,by simp,λa ha b hb e=>by
   rw[jD] at hb;exact z (by rw[<-hb,<-e];exact ha)⟩
theorem Km{k:α}{v:β}:∀{l:List (α×β)},lk l k=none->pt l k v=l++[(k,v)]
 |[],h=>rfl
 |e::l,h=>by
  rw[lh] at h;show(if e.1=k then(e.1,v)::l else e::pt l k v)=_
  by_cases q:e.1=k
  .rw[aJ q] at h;cases h
  .rw[aQ q] at h ⊢;rw[Km h];rfl
end
variable{n x j k m:Nat}{Q0:Gm}{f1 f2 fv:Gm->Option D}{h:aw}{a2 a4:Option O}{cart:Str}{pl:Int}{post:List Nat}{b':Bool}{s:Sp}{W:List D}{hs h0:List Sp}{mg:Str->Option Value}{us:List Value}
section
variable{α β:Type}[DecidableEq α](kk:α->TK)(inj:∀a b,kk a=kk b->a=b)
def kj(f:β->O)(l:List (α×β)):List (TK×O):=l.map λe=>(kk e.1,f e.2)
def uX(f:β->D)(l:List (α×β)):List (TK×D):=l.map λe=>(kk e.1,f e.2)
include inj in
theorem Gf(f:β->O)(k:α):∀l:List (α×β),jo (kj kk f l) (kk k)=(lk l k).map f
 |[]=>rfl
 |e::l=>by
  have ih:=Gf f k l;unfold jo kj at *;rw[cS,tV,lh];dsimp only;by_cases h:e.1=k
  .rw[fY (by rw[h]:kk e.1=kk k),aJ h];rfl
  .rw[iu (λz=>h (inj _ _ z)),aQ h]
   exact ih
include inj in
theorem xJ(f:β->D)(k:α):∀l:List (α×β),jM (uX kk f l) (kk k)=(lk l k).map f
 |[]=>rfl
 |e::l=>by
  have ih:=xJ f k l;unfold jM uX at *;rw[cS,tV,lh];dsimp only;by_cases h:e.1=k
  .rw[fY (by rw[h]:kk e.1=kk k),aJ h];rfl
  .rw[iu (λz=>h (inj _ _ z)),aQ h]
   exact ih
include inj in
theorem xK(f:β->O)(k:α)(v:β):∀l:List (α×β),c_ (kj kk f l) (kk k) (f v)=kj kk f (pt l k v)
 |[]=>rfl
 |e::l=>by
  show c_ ((kk e.1,f e.2)::kj kk f l) (kk k) (f v)=kj kk f (if e.1=k then(e.1,v)::l else e::pt l k v)
  show(if kk e.1=kk k then(kk e.1,f v)::kj kk f l else(kk e.1,f e.2)::c_ (kj kk f l) (kk k) (f v))=_
  by_cases h:e.1=k
  .rw[aJ h,aJ (by rw[h])];rfl
  .rw[aQ h,aQ (λz=>h (inj _ _ z)),xK f k v l];rfl
theorem Cg(f:β->O)(g:β->D)(h:∀b,(f b).d=g b):∀l:List (α×β),O.dk (kj kk f l)=uX kk g l
 |[]=>rfl
 |e::l=>by
  show(kk e.1,(f e.2).d)::O.dk (kj kk f l)=(kk e.1,g e.2)::uX kk g l;rw[Cg f g h l,h]
theorem Pm(g:β->D)(l:List (α×β)):(uX kk g l).map (·.1.d)=l.map λe=>(kk e.1).d:=by
 unfold uX;rw[lU];rfl
end
abbrev Ct:=Str×Int×Int
variable{c:Ct}{C:List Ct}{f:List (Option Ct)}
def gH(c:Ct):D:=.tup [.str c.1,.int c.2.1,.int c.2.2]
noncomputable def ye(c:Ct):TK:=.tp [.inr c.1,.inl c.2.1,.inl c.2.2]
inductive Nd where
 |st|en|gi (c:Ct)|go (c:Ct)
 deriving DecidableEq
variable{a b v w y u:Nd}{r:Nd->Nd->Int}
def aL:Nd->D
 |.st=>.str "the start"
 |.en=>.str "the end"
 |.gi c=>.tup [gH c,.str "into"]
 |.go c=>.tup [gH c,.str "out of"]
def dU:Nd->TK
 |.st=>.inr "the start"
 |.en=>.inr "the end"
 |.gi c=>.tp [ye c,.inr "into"]
 |.go c=>.tp [ye c,.inr "out of"]
theorem q9(v:Nd):cL (aL v)=some (dU v):=by
 cases v with
 |st=>rfl
 |en=>rfl
 |gi c=>simp[aL,dU,gH,ye,cL,lQ,oM,TK.ok]
 |go c=>simp[aL,dU,gH,ye,cL,lQ,oM,TK.ok]
theorem Qx{a b:Ct}(h:ye a=ye b):a=b:=by
 obtain⟨x,i,m⟩:=a;obtain⟨y,j,n⟩:=b;unfold ye at h;injection h with h;injection h with h1 h;injection h with h2 h;injection h with h3 h;injection h1 with h1;injection h2 with h2;injection h3 with h3;dsimp only at h1 h2 h3;rw[h1,h2,h3]
theorem Rn:("the start":Str)≠"the end":=by decide
theorem Ro:("into":Str)≠"out of":=by decide
theorem oV:∀a b:Nd,dU a=dU b->a=b:=by
 intro a b h;cases a with
 |st=>
  cases b with
  |st=>rfl
  |en=>unfold dU at h;injection h with h;exact bQ h Rn
  |_=>unfold dU at h;cases h
 |en=>
  cases b with
  |en=>rfl
  |st=>unfold dU at h;injection h with h;exact bQ h.symm Rn
  |_=>unfold dU at h;cases h
 |gi c=>
  cases b with
  |gi d=>unfold dU at h;injection h with h;injection h with h1 h;rw[Qx h1]
  |go d=>unfold dU at h;injection h with h;injection h with h1 h;injection h with h2 h;injection h2 with h2;exact bQ h2 Ro
  |_=>unfold dU at h;cases h
 |go c=>
  cases b with
  |go d=>unfold dU at h;injection h with h;injection h with h1 h;rw[Qx h1]
  |gi d=>unfold dU at h;injection h with h;injection h with h1 h;injection h with h2 h;injection h2 with h2;exact bQ h2.symm Ro
  |_=>unfold dU at h;cases h
theorem KO(v:Nd):(dU v).d=aL v:=(mS (q9 v)).1
abbrev qq:=List (Nd×Int)
variable{i:qq}
abbrev Net:=List (Nd×qq)
variable{N N':Net}
def Hq(i:qq):List (TK×O):=kj dU (λn=>.Y (.int n)) i
def o9(i:qq):List (TK×D):=uX dU (λn=>.int n) i
abbrev zW(i:qq):O:=.aE (Hq i)
abbrev inD(i:qq):D:=.aE (o9 i)
def pj(N:Net):List (TK×O):=kj dU zW N
def n5(N:Net):List (TK×D):=uX dU inD N
abbrev bL(N:Net):O:=.aE (pj N)
abbrev cX(N:Net):D:=.aE (n5 N)
theorem R5(i:qq):(zW i).d=inD i:=by
 show D.aE (O.dk (kj dU _ i))=_;rw[Cg dU _ (λn=>.int n) λ_=>rfl];rfl
theorem Rp(N:Net):(bL N).d=cX N:=by
 show D.aE (O.dk (kj dU zW N))=_;rw[Cg dU _ inD R5];rfl
def rr(N:Net)(v w:Nd):Int:=((lk N v).bind λi=>lk i w).getD 0
def kf(N:Net)(v w:Nd):Prop:=∃i,lk N v=some i/\∃n,lk i w=some n
structure m_ (N:Net):Prop where
 sy:∀v w,kf N v w->kf N w v
 st:.st∈N.map (·.1)
 nd:(N.map (·.1)).Nodup
 ni:∀v i,lk N v=some i->(i.map (·.1)).Nodup
 nl:N.length<900000
 il:∀v i,lk N v=some i->i.length<900000
def jA(N:Net)(a b:Nd)(n:Int):Net:=match lk N a with
 |some i=>pt N a (pt i b n)
 |none=>N
theorem Rq{n:Int}(h:lk N a=some i)(v w:Nd):kf (jA N a b n) v w↔kf N v w\/(v=a/\w=b):=by
 unfold jA;rw[h];dsimp only;unfold kf;rw[wk];by_cases c:a=v
 .subst c;rw[aJ rfl,h];constructor
  .rintro⟨j,e,m,e2⟩;cases e;rw[wk] at e2;by_cases c2:b=w
   .exact .inr ⟨rfl,c2.symm⟩
   .rw[aQ c2] at e2;exact .inl ⟨i,rfl,m,e2⟩
  .rintro(⟨j,e,m,e2⟩|⟨_,rfl⟩)
   .cases e;refine⟨_,rfl,?_⟩;rw[wk];by_cases c2:b=w
    .exact⟨_,aJ c2⟩
    .exact⟨m,by rw[aQ c2];exact e2⟩
   .exact⟨_,rfl,n,by rw[wk,aJ rfl]⟩
 .rw[aQ c];exact⟨.inl,λz=>z.resolve_right λq=>c q.1.symm⟩
theorem G3{n:Int}(h:lk N a=some i)(v w:Nd):rr (jA N a b n) v w=if v=a/\w=b then n else rr N v w:=by
 unfold jA;rw[h];dsimp only;unfold rr;rw[wk];by_cases c:a=v
 .subst c;rw[aJ rfl,h,Option.bind_some,Option.bind_some,wk];by_cases c2:b=w
  .rw[aJ c2,aJ ⟨rfl,c2.symm⟩];rfl
  .rw[aQ c2,aQ λz=>c2 z.2.symm]
 .rw[aQ c,aQ λz=>c z.1.symm]
theorem BI{n:Int}(h:lk N a=some i):(jA N a b n).map (·.1)=N.map (·.1):=by
 unfold jA;rw[h];dsimp only;rw[BH,aJ (eV.mp ⟨i,h⟩)]
theorem Cs{n:Int}(h:lk N a=some i)(v:Nd):lk (jA N a b n) v=if a=v then some (pt i b n) else lk N v:=by
 unfold jA;rw[h];exact wk ..
theorem Qy{n:Int}(h:lk N a=some i)(hl:i.length<1000000)(h0:Q0[x]?=some (some (bL N)))(h1:f1 Q0=some (aL a))(h2:f2 Q0=some (aL b))(h3:fv Q0=some (.int n)):ui x f1 f2 fv Q0=some (.nx,Q0.set x (some (bL (jA N a b n)))):=by
 unfold ui;rw[h1,h2,h3,h0];simp only[Option.bind_some,q9];unfold pj;rw[Gf dU oV,h];show(if(kj dU (λn=>O.Y (.int n)) i).length<1000000 then _ else _)=_
 rw[aJ (by unfold kj;rw[bz];exact hl),show c_ (Hq i) (dU b) (O.Y (.int n))=_ from xK dU oV (λn=>O.Y (.int n)) b n i,show O.aE (kj dU (λn=>O.Y (.int n)) (pt i b n))=zW (pt i b n) from rfl,xK dU oV]
 unfold jA;rw[h];rfl
theorem Qz{op:Int->Int->Int}{n j:Int}(h:lk N a=some i)(h':lk i b=some n)(hl:i.length<1000000)(h0:Q0[x]?=some (some (bL N)))(h1:f1 Q0=some (aL a))(h2:f2 Q0=some (aL b))(h3:fv Q0=some (.int j)):uj op x f1 f2 fv Q0=some (.nx,Q0.set x (some (bL (jA N a b (op n j))))):=by
 unfold uj;rw[h1,h2,h3,h0];simp only[Option.bind_some,q9];unfold pj;rw[Gf dU oV,h];show(match jo (kj dU (λn=>O.Y (.int n)) i) (dU b) with|some (.Y (.int n))=>_|_=>_)=_
 rw[Gf dU oV,h'];show(if(kj dU (λn=>O.Y (.int n)) i).length<1000000 then _ else _)=_
 rw[aJ (by unfold kj;rw[bz];exact hl),show c_ (Hq i) (dU b) (O.Y (.int (op n j)))=_ from xK dU oV (λn=>O.Y (.int n)) b (op n j) i,show O.aE (kj dU (λn=>O.Y (.int n)) (pt i b (op n j)))=zW (pt i b (op n j)) from rfl,xK dU oV]
 unfold jA;rw[h];rfl
theorem e6u{α β:Type}[DecidableEq α]{l:List (α×β)}{k:α}{v:β}:(pt l k v).length<=l.length+1/\(k∈l.map (·.1)->(pt l k v).length=l.length):=by
 have e:=congrArg List.length (BH k v l);rw[bz] at e;constructor
 .rw[e];split <;> simp
 .intro h;rw[aJ h,bz] at e;exact e
theorem Y5(fa:GE)(gg:GG)(f:GS)(Q0:Gm):BO fa gg f Q0=(av fa Q0).bind λp=>match p.1 with
 |.own (.Y (.tup ds))=>fz gg f ds p.2
 |_=>none:=rfl
def iD(N:Net)(v:Nd):Net:=if v∈N.map (·.1) then N else N++[(v,[])]
theorem zy{α β:Type}[DecidableEq α](k:α):∀l m:List (α×β),lk (l++m) k=match lk l k with|some v=>some v|none=>lk m k
 |[],m=>rfl
 |e::l,m=>by
  rw[HN,lh,lh,zy k l m];split <;> rfl
theorem Y6(N:Net):O.dk (pj N)=n5 N:=Cg dU _ inD R5 N
theorem Rr(N:Net)(v:Nd)(b:Bool)(hb:b=true↔v∈N.map (·.1)):cg true [.Y (aL v),bL N]=some (.Y (.bl (!b))):=by
 have e:(lk N v).isSome=b:=by
  rw[tT,hb,<-eV,MP]
 unfold cg;simp only[jb,Y6,q9,Option.bind_some];unfold n5;rw[xJ dU oV,Option.isSome_map,e];rfl
theorem JL(kvs:List (TK×O))(v:O)(d:D):jK (.aE kvs) [v,.Y d]=(cL d).bind λk=>if kvs.length<1000000 then some (O.aE (c_ kvs k v),O.Y D.bH) else none:=by
 cases d <;> rfl
theorem Y7(N:Net)(v:Nd)(hv:v∉N.map (·.1))(hl:N.length<1000000):jK (bL N) [.aE [],.Y (aL v)]=some (bL (iD N v),.Y .bH):=by
 rw[JL,q9,Option.bind_some,aJ (by unfold pj kj;rw[bz];exact hl),show(O.aE [])=zW [] from rfl]
 unfold bL pj;rw[xK dU oV,Km (km.mpr hv)];unfold iD;rw[aQ hv]
def layB:GS:=ck (gT (gB (cg true) (aa 4) (aa 0)))
  (fR zp (aa 0) (aa 4))
  bw
theorem Pn(N:Net)(v:Nd)(a1 a2 a3:Option O)(hl:N.length<1000000):layB [some (bL N),a1,a2,a3,some (.Y (aL v))]=some (.nx,[some (bL (iD N v)),a1,a2,a3,some (.Y (aL v))]):=by
 unfold layB;by_cases h:v∈N.map (·.1)
 .have e:=Rr N v true ⟨λ_=>h,λ_=>rfl⟩
  have e2:iD N v=N:=aJ h;rw[e2];simp only[dh,cH,bu,ba,aV,bg,aW,↓af,bb,bq,br,ju,iI,bp,e,iL,cR,rQ,Fu,dA,bS]
 .have e:=Rr N v false ⟨λz=>(by cases z),λz=>bQ z h⟩
  have e2:=Y7 N v h hl;simp only[dh,cH,bu,ba,aV,bg,aW,↓af,bb,bq,br,ju,iI,bp,e,lD,rQ,Fu,e2,bK,dA,aX]
theorem zA(N:Net)(v w:Nd):lk (iD N v) w=match lk N w with|some i=>some i|none=>if v=w then some [] else none:=by
 unfold iD;by_cases h:v∈N.map (·.1)
 .rw[aJ h];cases e:lk N w with
  |some i=>rfl
  |none=>
   have:v≠w:=λz=>km.mp e (by rw[<-z];exact h)
   dsimp only;rw[aQ this]
 .rw[aQ h,zy];cases lk N w <;> rfl
theorem QA(N:Net)(v:Nd):∃i,lk (iD N v) v=some i:=by
 rw[zA];cases lk N v with
 |some i=>exact⟨i,rfl⟩
 |none=>exact⟨[],aJ rfl⟩
theorem Y8(N:Net)(v:Nd):(iD N v).length<=N.length+1:=by
 unfold iD;split
 .lia
 .rw[dy];exact cJ _
def fj(N:Net)(a b:Nd)(r:Int):Net:=jA (jA (iD (iD N a) b) a b r) b a 0
structure Sz (N:Net) (k:Nat):Prop where
 l:N.length<=k+1
 i:∀v i,lk N v=some i->i.length<=k
theorem GR(v:Nd)(s:Sz N k):Sz (iD N v) (k+1):=⟨by have:=Y8 N v;have:=s.l;lia,λw i e=>by
 rw[zA] at e;cases q:lk N w with
 |some j=>rw[q] at e;cases e;have:=s.i w _ q;lia
 |none=>
  rw[q] at e;dsimp only at e;split at e
  .cases e;exact kr _
  .cases e⟩
theorem KP{n:Int}(h:lk N a=some i)(s:Sz N k):Sz (jA N a b n) (k+1):=⟨by
  have:=congrArg List.length (BI (b:=b) (n:=n) h);rw[bz,bz] at this;have:=s.l;lia,λv j e=>by
  rw[Cs h] at e;split at e
  .cases e;have:=(e6u (l:=i) (k:=b) (v:=n)).1;have:=s.i a i h;lia
  .have:=s.i v j e;lia⟩
theorem JM(r:Int):∃i j,lk (iD (iD N a) b) a=some i/\lk (jA (iD (iD N a) b) a b r) b=some j:=by
 obtain⟨i0,e0⟩:=QA N a;obtain⟨j0,f0⟩:=QA (iD N a) b;have e1:lk (iD (iD N a) b) a=some i0:=by rw[zA,e0]
 refine⟨i0,?_⟩;by_cases c:a=b
 .exact⟨_,e1,by rw[Cs e1,aJ c]⟩
 .exact⟨j0,e1,by rw[Cs e1,aQ c];exact f0⟩
theorem Rt(a b:Nd)(r:Int)(s:Sz N k):Sz (fj N a b r) (k+4):=by
 obtain⟨i,j,e1,e2⟩:=JM (N:=N) (a:=a) (b:=b) r;exact KP e2 (KP e1 (GR b (GR a s)))
theorem G4(N:Net)(k:Nat)(a b:Nd)(r:Int)(s:Sz N k)(hk:k<900000):um [bL N,.Y (aL a),.Y (aL b),.Y (.int r)]=some (.Y .bH,[some (bL (fj N a b r)),none,none,none]):=by
 have me:KD=aR (BO (bA .tup (ai (aa 1) (ai (aa 2) gN))) (bj 4) layB) (aR (ui 0 (sV 1) (sV 2) (sV 3)) (ui 0 (sV 2) (sV 1) (sC (.int 0)))):=rfl;have hN:=s.l;have s1:=GR a s;have s2:=GR b s1;obtain⟨i,j,e1,e2⟩:=JM (N:=N) (a:=a) (b:=b) r;have s3:=KP (b:=b) (n:=r) e1 s2;have l1:=Pn N a (some (.Y (aL a))) (some (.Y (aL b))) (some (.Y (.int r))) (by lia)
 have l2:=Pn (iD N a) b (some (.Y (aL a))) (some (.Y (aL b))) (some (.Y (.int r))) (by have:=s1.l;lia)
 have p1:ui 0 (sV 1) (sV 2) (sV 3) [some (bL (iD (iD N a) b)),some (.Y (aL a)),some (.Y (aL b)),some (.Y (.int r)),some (.Y (aL b))]=some (.nx,[some (bL (jA (iD (iD N a) b) a b r)),some (.Y (aL a)),some (.Y (aL b)),some (.Y (.int r)),some (.Y (aL b))]):=Qy e1 (by have:=s2.i _ _ e1;lia) rfl rfl rfl rfl
 have p2:ui 0 (sV 2) (sV 1) (sC (.int 0)) [some (bL (jA (iD (iD N a) b) a b r)),some (.Y (aL a)),some (.Y (aL b)),some (.Y (.int r)),some (.Y (aL b))]=some (.nx,[some (bL (fj N a b r)),some (.Y (aL a)),some (.Y (aL b)),some (.Y (.int r)),some (.Y (aL b))]):=Qy e2 (by have:=s3.i _ _ e2;lia) rfl rfl rfl rfl
 unfold um;rw[me];simp only[gn,eM,eX,bO,bM,bP,reduceAdd,reduceSub,fD,e8,e_,fe,cY,Y5,cU,fM,ba,aV,bg,aW,↓af,bb,reduceLeDiff,gD,eZ,aX,jU,ia,bX,h_,y9,iz,reduceLT,cy,bK,l1,l2,WQ,p1,p2,RY,gw,gy,q_,gE,gp]
theorem e6v(b:Str)(i m:Int):uk [.Y (.tup [.str b,.int i]),.Y (.int m)]=some (.tup [.Y (gH (b,i,m)),.Y (.str "into")],[none,none]):=by
 unfold uk Kf gH;simp only[gn,eM,eX,bO,bM,bP,reduceAdd,reduceSub,e8,e_,fe,eG,fM,ba,cU,bu,aV,aW,↓af,bI,bb,bq,br,bp,cG,jE,lG,↓evMap,mR,bg,reduceLeDiff,gD,eZ,aX,jU,ia,bX,h_,gY,gw,gy,gE,gp]
structure Laid (N:Net) (L:List (Nd×Nd×Int)):Prop where
 ar:∀v w,kf N v w↔(∃r,(v,w,r)∈L)\/∃r,(w,v,r)∈L
 rm:∀v w r,(v,w,r)∈L->rr N v w=r
 rz:∀v w,(∀r,(v,w,r)∉L)->rr N v w=0
 ky:∀v,v∈N.map (·.1)↔v=.st\/∃w r,(v,w,r)∈L\/(w,v,r)∈L
 nd:(N.map (·.1)).Nodup
 ni:∀v i,lk N v=some i->(i.map (·.1)).Nodup
theorem QB(N:Net)(u v w:Nd):kf (iD N u) v w↔kf N v w:=by
 unfold kf;rw[zA];cases e:lk N v with
 |some i=>exact Iff.rfl
 |none=>
  dsimp only;constructor
  .rintro⟨i,h,n,h2⟩;split at h
   .cases h;cases h2
   .cases h
  .rintro⟨i,h,_⟩;cases h
theorem Ru(N:Net)(u v w:Nd):rr (iD N u) v w=rr N v w:=by
 unfold rr;rw[zA];cases e:lk N v with
 |some i=>rfl
 |none=>
  dsimp only;split <;> rfl
theorem mC(N:Net)(u v:Nd):v∈(iD N u).map (·.1)↔v∈N.map (·.1)\/v=u:=by
 unfold iD;split
 .rename_i h
  exact⟨.inl,λz=>z.elim id λq=>by rw[q];exact h⟩
 .rw[iH,eI,uA,jD]
theorem Kn(u:Nd)(h:(N.map (·.1)).Nodup):((iD N u).map (·.1)).Nodup:=by
 unfold iD;split
 .exact h
 .rename_i z
  rw[iH];exact lC.mpr ⟨h,by simp,λa ha b hb e=>by
   rw[uA,jD] at hb;exact z (by rw[show u=b from hb.symm,<-e];exact ha)⟩
theorem Rv(u:Nd)(h:∀v i,lk N v=some i->(i.map (·.1)).Nodup):∀v i,lk (iD N u) v=some i->(i.map (·.1)).Nodup:=by
 intro v i e;rw[zA] at e;cases q:lk N v with
 |some j=>rw[q] at e;cases e;exact h v _ q
 |none=>
  rw[q] at e;dsimp only at e;split at e
  .cases e;exact xi
  .cases e
theorem R6{n:Int}(h:lk N a=some i)(hn:∀v i,lk N v=some i->(i.map (·.1)).Nodup):∀v j,lk (jA N a b n) v=some j->(j.map (·.1)).Nodup:=by
 intro v j e;rw[Cs h] at e;split at e
 .cases e;exact e9e (hn a i h)
 .exact hn v j e
theorem Laid.lay{L:List (Nd×Nd×Int)}{r:Int}(l:Laid N L)(j7:a≠b)(hf:∀r',(a,b,r')∈L->r'=r)(ha:∀r',(b,a,r')∉L):Laid (fj N a b r) (L++[(a,b,r)]):=by
 obtain⟨i,j,e1,e2⟩:=JM (N:=N) (a:=a) (b:=b) r;have mm:∀v w q,(v,w,q)∈L++[(a,b,r)]↔(v,w,q)∈L\/(v=a/\w=b/\q=r):=λv w q=>by
  rw[eI,jD,Prod.mk.injEq,Prod.mk.injEq]
 have rl:∀v w,rr (fj N a b r) v w=if v=b/\w=a then 0 else if v=a/\w=b then r else rr N v w:=λv w=>by
  unfold fj;rw[G3 e2,G3 e1,Ru,Ru]
 refine⟨λv w=>?_,λv w q hm=>?_,λv w hm=>?_,λv=>?_,?_,R6 e2 (R6 e1 (Rv b (Rv a l.ni)))⟩
 .unfold fj;rw[Rq e2,Rq e1,QB,QB,l.ar];constructor
  .rintro((h|h)|h)
   .rcases h with⟨q,h⟩|⟨q,h⟩
    .exact .inl ⟨q,(mm ..).mpr (.inl h)⟩
    .exact .inr ⟨q,(mm ..).mpr (.inl h)⟩
   .exact .inl ⟨r,(mm ..).mpr (.inr ⟨h.1,h.2,rfl⟩)⟩
   .exact .inr ⟨r,(mm ..).mpr (.inr ⟨h.2,h.1,rfl⟩)⟩
  .rintro(⟨q,h⟩|⟨q,h⟩)
   .rcases(mm ..).mp h with h|h
    .exact .inl (.inl (.inl ⟨q,h⟩))
    .exact .inl (.inr ⟨h.1,h.2.1⟩)
   .rcases(mm ..).mp h with h|h
    .exact .inl (.inl (.inr ⟨q,h⟩))
    .exact .inr ⟨h.2.1,h.1⟩
 .rw[rl];rcases(mm ..).mp hm with h|h
  .have n1:¬(v=b/\w=a):=λz=>ha q (by rw[<-z.1,<-z.2];exact h)
   rw[aQ n1];by_cases c:v=a/\w=b
   .rw[aJ c];exact(hf q (by rw[<-c.1,<-c.2];exact h)).symm
   .rw[aQ c];exact l.rm v w q h
  .rw[aQ (λz=>j7 (h.1.symm.trans z.1)),aJ ⟨h.1,h.2.1⟩]
   exact h.2.2.symm
 .rw[rl];by_cases c:v=b/\w=a
  .rw[aJ c]
  .rw[aQ c];by_cases c2:v=a/\w=b
   .exact bQ ((mm ..).mpr (.inr ⟨c2.1,c2.2,rfl⟩)) (hm r)
   .rw[aQ c2];exact l.rz v w λq h=>hm q ((mm ..).mpr (.inl h))
 .unfold fj;rw[BI e2,BI e1,mC,mC,l.ky];constructor
  .rintro((h|h)|h)
   .rcases h with h|⟨w,q,h|h⟩
    .exact .inl h
    .exact .inr ⟨w,q,.inl ((mm ..).mpr (.inl h))⟩
    .exact .inr ⟨w,q,.inr ((mm ..).mpr (.inl h))⟩
   .exact .inr ⟨b,r,.inl ((mm ..).mpr (.inr ⟨h,rfl,rfl⟩))⟩
   .exact .inr ⟨a,r,.inr ((mm ..).mpr (.inr ⟨rfl,h,rfl⟩))⟩
  .rintro(h|⟨w,q,h|h⟩)
   .exact .inl (.inl (.inl h))
   .rcases(mm ..).mp h with h|h
    .exact .inl (.inl (.inr ⟨w,q,.inl h⟩))
    .exact .inl (.inr h.1)
   .rcases(mm ..).mp h with h|h
    .exact .inl (.inl (.inr ⟨w,q,.inr h⟩))
    .exact .inr h.2.1
 .unfold fj;rw[BI e2,BI e1];exact Kn b (Kn a l.nd)
theorem DD:Laid [(.st,[])] [] where
 ar v w:=by
  constructor
  .rintro⟨i,h,n,h2⟩;rw[lh] at h;split at h
   .cases h;cases h2
   .cases h
  .rintro(⟨r,h⟩|⟨r,h⟩) <;> cases h
 rm v w r h:=by cases h
 rz v w _:=by
  unfold rr;rw[lh];split <;> rfl
 ky v:=by
  rw[cS,oO,jD];constructor
  .exact .inl
  .rintro(h|⟨w,r,h|h⟩)
   .exact h
   .cases h
   .cases h
 nd:=by simp
 ni v i h:=by
  rw[lh] at h;split at h
  .cases h;exact xi
  .cases h
theorem Y9(fa:GE)(gg:GG)(f:GS)(Q0:Gm):BW fa gg f Q0=(av fa Q0).bind λp=>match p.1 with
 |.own (.Y (.aE kvs))=>fz gg f (kvs.map (·.1.d)) p.2
 |_=>none:=rfl
abbrev cK:=List (Nd×Option Nd)
variable{l:cK}
def GW:Option Nd->O
 |none=>.Y .bH
 |some v=>.Y (aL v)
def zD:Option Nd->D
 |none=>.bH
 |some v=>aL v
def iC(l:cK):List (TK×O):=kj dU GW l
def dF(l:cK):List (TK×D):=uX dU zD l
theorem Rw(l:cK):O.dk (iC l)=dF l:=Cg dU _ zD (λb=>by cases b <;> rfl) l
inductive Cm (N:Net):cK->Prop
 |base:Cm N [(.st,none)]
 |ext {l:cK} {x y:Nd}:Cm N l->y∈l.map (·.1)->x∉l.map (·.1)->0<rr N y x->kf N y x->Cm N (l++[(x,some y)])
theorem vM(l:cK)(x:Nd)(y:Option Nd)(z:Nd):z∈(l++[(x,y)]).map (·.1)↔z∈l.map (·.1)\/z=x:=by
 rw[iH,eI,uA,jD]
theorem Cm.nd(c:Cm N l):(l.map (·.1)).Nodup:=by
 induction c with
 |base=>simp
 |@ext l x y h1 h2 h3 h4 h5 ih=>
  rw[iH];exact lC.mpr ⟨ih,by simp,λa ha b hb e=>by
   rw[uA,jD] at hb;exact h3 (by rw[show x=b from hb.symm,<-e];exact ha)⟩
theorem Cm.st{N:Net}{l:cK}(c:Cm N l):.st∈l.map (·.1):=by
 induction c with
 |base=>exact .head _
 |@ext l x y h1 h2 h3 h4 h5 ih=>exact(vM ..).mpr (.inl ih)
theorem Y_(h:kf N v w):v∈N.map (·.1):=by
 obtain⟨i,e,_⟩:=h;exact eV.mp ⟨i,e⟩
theorem Cm.sub(ok:m_ N)(c:Cm N l):∀x,x∈l.map (·.1)->x∈N.map (·.1):=by
 induction c with
 |base=>intro x h;rw[uA,jD] at h;rw[h];exact ok.st
 |@ext l x y h1 h2 h3 h4 h5 ih=>
  intro z h;rcases(vM ..).mp h with h|h
  .exact ih z h
  .rw[h];exact Y_ (ok.sy y x h5)
theorem vN{α:Type}[DecidableEq α]:∀{l m:List α},l.Nodup->(∀x,x∈l->x∈m)->l.length<=m.length
 |[],m,_,_=>kr _
 |x::l,m,h,s=>by
  rw[hU] at h;have hx:=s x (.head _);have ih:=vN (m:=m.erase x) h.2 λy hy=>(List.mem_erase_of_ne (λe=>h.1 (by rw[<-e];exact hy))).mpr (s y (.tail _ hy))
  have e:=List.length_erase_of_mem hx;have p:0<m.length:=List.length_pos_of_mem hx;rw[hX];lia
theorem Cm.len(ok:m_ N)(c:Cm N l):l.length<=N.length:=by
 have:=vN c.nd (c.sub ok);rw[bz,bz] at this;exact this
theorem xV{h:Nd}(e:lk N h=some i):eE (.Y (cX N)) (aL h)=some (.Y (inD i)):=by
 have q:eE (.Y (cX N)) (aL h)=(cL (aL h)).bind λk=>(jM (n5 N) k).map .Y:=by
  cases h <;> rfl
 rw[q,q9,Option.bind_some];unfold n5;rw[xJ dU oV,e];rfl
theorem Cu{n:Int}(e:lk i w=some n):eE (.Y (inD i)) (aL w)=some (.Y (.int n)):=by
 have q:eE (.Y (inD i)) (aL w)=(cL (aL w)).bind λk=>(jM (o9 i) k).map .Y:=by
  cases w <;> rfl
 rw[q,q9,Option.bind_some];unfold o9;rw[xJ dU oV,e];rfl
theorem QC(neg:Bool)(l:cK)(v:Nd)(b:Bool)(hb:b=true↔v∈l.map (·.1)):cg neg [.Y (aL v),.aE (iC l)]=some (.Y (.bl (if neg then !b else b))):=by
 have e:(lk l v).isSome=b:=by
  rw[tT,hb,<-eV,MP]
 unfold cg;simp only[jb,Rw,q9,Option.bind_some];unfold dF;rw[xJ dU oV,Option.isSome_map,e]
theorem Jn(neg:Bool)(l:cK)(v:Nd)(b:Bool)(hb:b=true↔v∈l.map (·.1)):cg neg [.Y (aL v),.Y (.aE (dF l))]=some (.Y (.bl (if neg then !b else b))):=by
 have e:(lk l v).isSome=b:=by
  rw[tT,hb,<-eV,MP]
 unfold cg;simp only[jb,q9,Option.bind_some];unfold dF;rw[xJ dU oV,Option.isSome_map,e]
theorem Xm(l:cK)(h w:Nd)(hw:w∉l.map (·.1))(hl:l.length<1000000):jK (.aE (iC l)) [.Y (aL h),.Y (aL w)]=some (.aE (iC (l++[(w,some h)])),.Y .bH):=by
 rw[JL,q9,Option.bind_some,aJ (by unfold iC kj;rw[bz];exact hl),show O.Y (aL h)=GW (some h) from rfl]
 unfold iC;rw[xK dU oV,Km (km.mpr hw)]
def Ae:GS:=ck (ie (gT (gB sX (gB bB (gB bB (aa 0) (aa 5)) (aa 6)) (gC (.int 0)))) (gT (gB (cg true) (aa 6) (aa 2))))
  (aR (fR (aa 5) (aa 2) (aa 6))
 (jw (fA pQ (aa 4) (ai (aa 6) gN))))
  bw
theorem Y'(N:Net)(l:cK)(F:List Nd)(h w:Nd)(i:qq)(n:Int)(a1 a3:Option O)(e1:lk N h=some i)(e2:lk i w=some n)(hn:0<n)(hw:w∉l.map (·.1))(hl:l.length<1000000)(hF:F.length<1000000):
  Ae [some (.Y (cX N)),a1,some (.aE (iC l)),a3,some (.lst ((F.map aL).map .Y)),some (.Y (aL h)),some (.Y (aL w))]=some (.nx,[some (.Y (cX N)),a1,some (.aE (iC (l++[(w,some h)]))),a3,some (.lst (((F++[w]).map aL).map .Y)),some (.Y (aL h)),some (.Y (aL w))]):=by
 unfold Ae;have f1:=xV e1;have f2:=Cu e2;have f3:=QC true l w false ⟨λz=>(by cases z),λz=>bQ z hw⟩
 have f4:=Xm l h w hw hl;have f5:((F.map aL).length<1000000)=True:=ku (by rw[bz];exact hF)
 have f6:decide ((0:Int)<n)=true:=fY hn;rw[iH (f:=aL),show[w].map aL=[aL w] from rfl];simp only[dh,lJ,cH,bu,ba,aV,aW,↓af,bg,bb,bq,br,bp,cG,f1,f2,bI,fN,f6,aX,ju,iI,f3,lD,cY,rQ,f4,cy,bK,jP,lV,gD,eZ,q8,f5,dA]
theorem Za(N:Net)(l:cK)(F:List Nd)(h w:Nd)(i:qq)(n:Int)(a1 a3:Option O)(e1:lk N h=some i)(e2:lk i w=some n)(hn:0<n->w∈l.map (·.1)):
  Ae [some (.Y (cX N)),a1,some (.aE (iC l)),a3,some (.lst ((F.map aL).map .Y)),some (.Y (aL h)),some (.Y (aL w))]=some (.nx,[some (.Y (cX N)),a1,some (.aE (iC l)),a3,some (.lst ((F.map aL).map .Y)),some (.Y (aL h)),some (.Y (aL w))]):=by
 unfold Ae;have f1:=xV e1;have f2:=Cu e2;by_cases c:0<n
 .have f3:=QC true l w true ⟨λ_=>hn c,λ_=>rfl⟩
  have f6:decide ((0:Int)<n)=true:=fY c;simp only[dh,lJ,cH,bu,ba,aV,aW,↓af,bg,bb,bq,br,bp,cG,f1,f2,bI,fN,f6,aX,ju,iI,f3,iL,cR,cY,rQ,dA,bS]
 .have f6:decide ((0:Int)<n)=false:=iu c;simp only[dh,lJ,cH,bu,ba,aV,aW,↓af,bg,bb,bq,br,bp,cG,f1,f2,bI,fN,f6,aX,cR,ju,iI,bS,cY,rQ,dA]
structure SI (N:Net) (l0 l:cK) (F:List Nd):Prop where
 cm:Cm N l
 sub:∀x,x∈l.map (·.1)↔x∈l0.map (·.1)\/x∈F
 len:l.length=l0.length+F.length
theorem SI.add{l0:cK}{F:List Nd}{h:Nd}(s:SI N l0 l F)(hh:h∈l0.map (·.1))(hw:w∉l.map (·.1))(hr:0<rr N h w)(ha:kf N h w):SI N l0 (l++[(w,some h)]) (F++[w]):=
 ⟨.ext s.cm ((s.sub h).mpr (.inl hh)) hw hr ha,λx=>by
  rw[vM,s.sub,eI,jD,or_assoc],by
  rw[dy,dy,s.len];rfl⟩
theorem KQ{β:Type}{i:List (Nd×β)}{n:β}(h:(i.map (·.1)).Nodup)(m:(w,n)∈i):lk i w=some n:=by
 induction i with
 |nil=>cases m
 |cons e i ih=>
  rw[cS,hU] at h;rw[lh];rcases eC.mp m with m|m
  .rw[<-m,aJ rfl]
  .rw[aQ (λz=>h.1 (by rw[z];exact gA.mpr ⟨_,m,rfl⟩))]
   exact ih h.2 m
theorem KR{α β:Type}[DecidableEq α]:∀{i:List (α×β)} {w:α} {n:β},lk i w=some n->(w,n)∈i
 |e::i,w,n,h=>by
  rw[lh] at h;split at h
  .rename_i z;cases h;rw[<-z];exact .head _
  .exact .tail _ (KR h)
def vm:GS:=BW (gB bB (aa 0) (aa 5)) (bj 6) Ae
theorem zC{h:Nd}(e:lk N h=some i):rr N h w=(lk i w).getD 0:=by
 unfold rr;rw[e];rfl
theorem Zb(N:Net)(ok:m_ N)(l0 l:cK)(F:List Nd)(h:Nd)(a1 a3 a6:Option O)(s:SI N l0 l F)(hh:h∈l0.map (·.1))(hk:h∈N.map (·.1)):
  ∃l' F' b6,SI N l0 l' F'/\(∀x,x∈l.map (·.1)->x∈l'.map (·.1))/\(∀x,0<rr N h x->x∈l'.map (·.1))/\
   vm [some (.Y (cX N)),a1,some (.aE (iC l)),a3,some (.lst ((F.map aL).map .Y)),some (.Y (aL h)),a6]=some (.nx,[some (.Y (cX N)),a1,some (.aE (iC l')),a3,some (.lst ((F'.map aL).map .Y)),some (.Y (aL h)),b6]):=by
 obtain⟨i,ei⟩:=eV.mpr hk;obtain⟨Q0',e,l',F',b6,rfl,s',sb,dn⟩:=mB (g:=bj 6) (f:=Ae) (λe:Nd×Int=>aL e.1) (λpre Q0=>∃(l':cK) (F':List Nd) (b6:Option O),Q0=[some (.Y (cX N)),a1,some (.aE (iC l')),a3,some (.lst ((F'.map aL).map .Y)),some (.Y (aL h)),b6]/\SI N l0 l' F'/\(∀x,x∈l.map (·.1)->x∈l'.map (·.1))/\∀e∈pre,0<e.2->e.1∈l'.map (·.1)) i []
  [some (.Y (cX N)),a1,some (.aE (iC l)),a3,some (.lst ((F.map aL).map .Y)),some (.Y (aL h)),a6] ⟨l,F,a6,rfl,s,λ_ z=>z,λ_ z=>(by cases z)⟩ (by
   rintro q ⟨w,n⟩ post Q0 eq ⟨l',F',b6,rfl,s',sb,dn⟩;have en:lk i w=some n:=KQ (ok.ni h i ei) (by rw[eq];simp)
   have ll:=s'.cm.len ok;have nl:=ok.nl;have sl:=s'.len;by_cases c:0<n/\w∉l'.map (·.1)
   .have st:=Y' N l' F' h w i n a1 a3 ei en c.1 c.2 (by lia) (by lia)
    refine⟨[some (.Y (cX N)),a1,some (.aE (iC (l'++[(w,some h)]))),a3,some (.lst (((F'++[w]).map aL).map .Y)),some (.Y (aL h)),some (.Y (aL w))],?_,l'++[(w,some h)],F'++[w],_,rfl,s'.add hh c.2 (by rw[zC ei,en];exact c.1) ⟨i,ei,n,en⟩,λx z=>(vM ..).mpr (.inl (sb x z)),λe z hz=>?_⟩
    .simp only[iz,bO,bM,bP,reduceAdd,reduceLT,cy,bK,aX,↓af,st]
    .rw[vM];rcases eI.mp z with z|z
     .exact .inl (dn e (by simpa using z) hz)
     .rw[jD] at z;rw[z];exact .inr rfl
   .have hn:0<n->w∈l'.map (·.1):=λz=>oC λy=>c ⟨z,y⟩
    have st:=Za N l' F' h w i n a1 a3 ei en hn;refine⟨[some (.Y (cX N)),a1,some (.aE (iC l')),a3,some (.lst ((F'.map aL).map .Y)),some (.Y (aL h)),some (.Y (aL w))],?_,l',F',_,rfl,s',sb,λe z hz=>?_⟩
    .simp only[iz,bO,bM,bP,reduceAdd,reduceLT,cy,bK,aX,↓af,st]
    .rcases eI.mp z with z|z
     .exact dn e (by simpa using z) hz
     .rw[jD] at z;rw[z] at hz ⊢;exact hn hz)
 rw[fI] at dn;refine⟨l',F',b6,s',sb,λx hx=>?_,?_⟩
 .rw[zC ei] at hx;cases q:lk i x with
  |none=>rw[q] at hx;exact bQ hx (Int.lt_irrefl 0)
  |some n=>rw[q] at hx;exact dn (x,n) (KR q) hx
 .have f1:=xV ei;have f2:(o9 i).map (·.1.d)=i.map λe=>aL e.1:=by
   unfold o9;rw[Pm];exact HV λe _=>KO e.1
  unfold vm;simp only[Y9,cU,bu,ba,aV,aW,↓af,bg,bb,bq,br,bp,cG,f1,bX,f2,e]
def HC:GS:=aR (ak 4 (bA .lst gN)) (aR (ef (aa 3) (bj 5) vm) (ak 3 (av (aa 4))))
theorem e6x(N:Net)(ok:m_ N)(l:cK)(R:List Nd)(a1 a4 a5 a6:Option O)(c:Cm N l)(hR:∀x,x∈R->x∈l.map (·.1))(cl:∀y,y∈l.map (·.1)->y∉R->∀x,0<rr N y x->x∈l.map (·.1)):
  ∃l' F b4 b5 b6,SI N l l' F/\(∀y,y∈l'.map (·.1)->y∉F->∀x,0<rr N y x->x∈l'.map (·.1))/\
   HC [some (.Y (cX N)),a1,some (.aE (iC l)),some (.Y (.lst (R.map aL))),a4,a5,a6]=some (.nx,[some (.Y (cX N)),a1,some (.aE (iC l')),some (.Y (.lst (F.map aL))),b4,b5,b6]):=by
 obtain⟨Q0',e,l',F,b5,b6,rfl,s,dn⟩:=mB (g:=bj 5) (f:=vm) aL (λpre Q0=>∃(l':cK) (F:List Nd) (b5 b6:Option O),Q0=[some (.Y (cX N)),a1,some (.aE (iC l')),some (.Y (.lst (R.map aL))),some (.lst ((F.map aL).map .Y)),b5,b6]/\SI N l l' F/\∀h∈pre,∀x,0<rr N h x->x∈l'.map (·.1)) R []
  [some (.Y (cX N)),a1,some (.aE (iC l)),some (.Y (.lst (R.map aL))),some (.lst []),a5,a6] ⟨l,[],a5,a6,rfl,⟨c,λx=>(by simp),rfl⟩,λ_ z=>(by cases z)⟩ (by
   rintro q h post Q0 eq ⟨l',F,b5,b6,rfl,s,dn⟩;have hm:h∈R:=by rw[eq];simp
   obtain⟨l2,F2,c6,s2,sb,d2,st⟩:=Zb N ok l l' F h a1 (some (.Y (.lst (R.map aL)))) b6 s (hR h hm) (c.sub ok h (hR h hm));refine⟨[some (.Y (cX N)),a1,some (.aE (iC l2)),some (.Y (.lst (R.map aL))),some (.lst ((F2.map aL).map .Y)),some (.Y (aL h)),c6],?_,l2,F2,_,c6,rfl,s2,λy z x hx=>?_⟩
   .simp only[iz,bO,bM,bP,reduceAdd,reduceLT,cy,bK,aX,↓af,st]
   .rcases eI.mp z with z|z
    .exact sb x (dn y (by simpa using z) x hx)
    .rw[jD] at z;rw[z] at hx;exact d2 x hx)
 rw[fI] at dn;refine⟨l',F,some (.Y (.lst (F.map aL))),b5,b6,s,λy hy hF x hx=>?_,?_⟩
 .have hy:y∈l.map (·.1):=((s.sub y).mp hy).resolve_right hF
  by_cases m:y∈R
  .exact dn y m x hx
  .exact(s.sub x).mpr (.inl (cl y hy m x hx))
 .unfold HC;simp only[cY,eJ,fM,bb,↓af,bM,reduceLeDiff,eZ,aX,bO,bP,reduceAdd,reduceLT,cy,bK,pS,cU,aV,bg,aW,bX,e,jy,rR]
theorem Po(N:Net)(ok:m_ N)(a1:Option O):∀(n:Nat) (l:cK) (R:List Nd) (a4 a5 a6:Option O),Cm N l->(∀x,x∈R->x∈l.map (·.1))->(∀y,y∈l.map (·.1)->y∉R->∀x,0<rr N y x->x∈l.map (·.1))->N.length+2<=n+l.length+(if R=[] then 1 else 0)->
  ∃l' b3 b4 b5 b6,Cm N l'/\(∀y,y∈l'.map (·.1)->∀x,0<rr N y x->x∈l'.map (·.1))/\iT (dR (aa 3)) HC n [some (.Y (cX N)),a1,some (.aE (iC l)),some (.Y (.lst (R.map aL))),a4,a5,a6]=some (.nx,[some (.Y (cX N)),a1,some (.aE (iC l')),b3,b4,b5,b6])
 |0,l,R,a4,a5,a6,c,_,_,hn=>by
  have:=c.len ok;split at hn <;> lia
 |n+1,l,R,a4,a5,a6,c,hR,cl,hn=>by
  by_cases q:R=[]
  .subst q;refine⟨l,some (.Y (.lst [])),a4,a5,a6,c,λy hy=>cl y hy (by simp),?_⟩
   unfold iT;simp only[eX,jR,aV,bg,aW,↓af,br,P5,List.isEmpty_nil,iL,cR,bS]
  .obtain⟨l2,F,b4,b5,b6,s,V0,st⟩:=e6x N ok l R a1 a4 a5 a6 c hR cl;rw[aQ q] at hn;obtain⟨l',c3,c4,c5,c6,r1,r2,r3⟩:=Po N ok a1 n l2 F b4 b5 b6 s.cm (λx hx=>(s.sub x).mpr (.inr hx)) V0 (by
    have:=s.len;cases F with
    |nil=>rw[aJ rfl];rw[rJ] at this;lia
    |cons x F=>rw[hX] at this;split <;> lia)
   refine⟨l',c3,c4,c5,c6,r1,r2,?_⟩;rw[<-r3];have ne:(R.map aL).isEmpty=false:=by
    cases R with
    |nil=>exact bQ rfl q
    |cons x R=>rfl
   rw[iT];simp only[jR,aV,bg,aW,↓af,br,P5,ne,lD,st,aX]
theorem Xn(N:Net)(ok:m_ N):∃l,Cm N l/\(∀y,y∈l.map (·.1)->∀x,0<rr N y x->x∈l.map (·.1))/\rN [.Y (cX N),.Y (aL .st)]=some (.aE (iC l),[none,none]):=by
 have hn:=ok.nl;obtain⟨l,b3,b4,b5,b6,c,cl,e⟩:=Po N ok (some (.Y (aL .st))) 1000000 [(.st,none)] [.st] none none none .base (λx hx=>hx) (λy hy hR=>bQ hy hR) (by
  rw[jC];split <;> lia)
 refine⟨l,c,cl,?_⟩;have me:Jf=aR (ak 2 (BU (aa 1) (gC .bH))) (aR (ak 3 (av (bA .lst (ai (aa 1) gN)))) (aR (iT (dR (aa 3)) HC 1000000) (aP (fP (aa 2))))):=rfl;have e0:iC [(.st,none)]=[(dU .st,.Y .bH)]:=rfl;have e1:[Nd.st].map aL=[aL .st]:=rfl;rw[e0,e1] at e;unfold rN;rw[me];simp only[gn,eM,eX,bO,bM,bP,reduceAdd,reduceSub,fD,e8,e_,fe,cY,eJ,WS,aV,bg,aW,↓af,bI,q9,↓evMap,reduceLT,cy,bK,aX,cU,fM,ba,bb,reduceLeDiff,gD,eZ,jy,ia,bX,h_,e,eG,ua,gY,gw,gy,gE,gp]
theorem U5(N:Net)(l:cK)(h:rN [.Y (cX N),.Y (aL .st)]=some (.aE (iC l),[none,none])):bor rN [bL N,.Y (aL .st)]=some (.aE (iC l),[some (bL N),none]):=by
 have d2:CF (bL N)=true:=by
  show(pj N).all _=true;rw[lB];intro p hp;obtain⟨e,_,rfl⟩:=gA.mp hp;show(Hq e.2).all _=true;rw[lB];intro p hp;obtain⟨e,_,rfl⟩:=gA.mp hp;rfl
 have c1:qB (.aE (iC l))=true:=by
  have:∀l:cK,nE (iC l)=true:=by
   intro l
   induction l with
   |nil=>rfl
   |cons e l ih=>
    show nE ((dU e.1,GW e.2)::iC l)=true;simp only[nE,ih,HQ];cases e.2 with
    |none=>simp[GW,qB,rh]
    |some v=>
     show qB (.Y (aL v))=true;simp only[qB];rw[<-KO];exact J' _
  simp only[qB];exact this l
 unfold bor;dsimp only;rw[aJ d2,Rp,h];dsimp only[Option.bind_some];rw[aJ ⟨c1,rfl⟩]
def iF(N:Net):List (Nd×List Nd):=N.map λe=>(e.1,e.2.map (·.1))
theorem GU(v:Nd):∀N:Net,lk (iF N) v=(lk N v).map (·.map (·.1))
 |[]=>rfl
 |e::N=>by
  show lk ((e.1,e.2.map (·.1))::iF N) v=_
  rw[lh,lh,GU v N];split <;> rfl
theorem ub:kf N v w↔∃ks,lk (iF N) v=some ks/\w∈ks:=by
 rw[GU];unfold kf;constructor
 .rintro⟨i,e,n,e2⟩;exact⟨_,by rw[e];rfl,eV.mp ⟨n,e2⟩⟩
 .rintro⟨ks,e,m⟩;cases q:lk N v with
  |none=>rw[q] at e;cases e
  |some i=>
   rw[q] at e;cases e;exact⟨i,rfl,eV.mpr m⟩
theorem FF(N:Net):N.map (·.1)=(iF N).map (·.1):=by
 unfold iF;rw[lU];rfl
theorem m_.same(ok:m_ N)(h:iF N'=iF N):m_ N':=by
 have hk:N'.map (·.1)=N.map (·.1):=by rw[FF,FF,h]
 have hl:∀v i,lk N' v=some i->∃j,lk N v=some j/\i.map (·.1)=j.map (·.1):=λv i e=>by
  have a:=GU v N;have b:=GU v N';rw[h,a,e] at b;cases q:lk N v with
  |none=>rw[q] at b;cases b
  |some j=>rw[q] at b;injection b with b;exact⟨j,rfl,b.symm⟩
 refine⟨λv w=>?_,by rw[hk];exact ok.st,by rw[hk];exact ok.nd,λv i e=>?_,?_,λv i e=>?_⟩
 .rw[ub,ub,h,<-ub,<-ub];exact ok.sy v w
 .obtain⟨j,e1,e2⟩:=hl v i e;rw[e2];exact ok.ni v j e1
 .have:=congrArg List.length hk;rw[bz,bz] at this;rw[this];exact ok.nl
 .obtain⟨j,e1,e2⟩:=hl v i e;have:=congrArg List.length e2;rw[bz,bz] at this;rw[this];exact ok.il v j e1
theorem Rx{a:Nd}{i i':qq}(hi:i'.map (·.1)=i.map (·.1)):∀{N:Net},lk N a=some i->iF (pt N a i')=iF N
 |[],h=>by cases h
 |e::N,h=>by
  rw[lh] at h;show iF (if e.1=a then(e.1,i')::N else e::pt N a i')=_
  by_cases q:e.1=a
  .rw[aJ q] at h ⊢;injection h with h;show(e.1,i'.map (·.1))::iF N=(e.1,e.2.map (·.1))::iF N
   rw[hi,h]
  .rw[aQ q] at h ⊢;show(e.1,e.2.map (·.1))::iF (pt N a i')=(e.1,e.2.map (·.1))::iF N
   rw[Rx hi h]
theorem Ry{n m:Int}(h:lk N a=some i)(h2:lk i b=some m):iF (jA N a b n)=iF N:=by
 unfold jA;rw[h];exact Rx (by rw[BH,aJ (eV.mp ⟨m,h2⟩)]) h
def A7(l:cK):List Nd->Prop
 |[]=>False
 |[x]=>lk l x=some none
 |x::y::p=>lk l x=some (some y)/\A7 l (y::p)
theorem Cm.step{N:Net}{l:cK}(c:Cm N l):∀x y,lk l x=some (some y)->0<rr N y x/\kf N y x/\x≠y:=by
 induction c with
 |base=>
  intro x y h;rw[lh] at h;split at h
  .cases h
  .cases h
 |@ext l a b h1 h2 h3 h4 h5 ih=>
  intro x y h;rw[zy] at h;cases q:lk l x with
  |some z=>rw[q] at h;exact ih x y (by rw[q];exact h)
  |none=>
   rw[q] at h;have h:lk [(a,some b)] x=some (some y):=h;rw[lh] at h;split at h
   .rename_i e
    cases h;dsimp only at e;rw[<-e];exact⟨h4,h5,λz=>h3 (by rw[z];exact h2)⟩
   .cases h
theorem Jo{l m:cK}:∀{p:List Nd},(∀v,v∈p->v∈l.map (·.1))->A7 l p->A7 (l++m) p
 |[],_,h=>h
 |[x],hv,h=>by
  show lk (l++m) x=some none;have h:lk l x=some none:=h;rw[zy,h]
 |x::y::p,hv,h=>by
  refine⟨?_,Jo (λv z=>hv v (.tail _ z)) h.2⟩
  rw[zy,h.1]
theorem Cm.path(c:Cm N l):∀x,x∈l.map (·.1)->∃p,A7 l (x::p)/\(x::p).Nodup/\(∀v,v∈x::p->v∈l.map (·.1))/\(x::p).getLast?=some .st/\kG (rr N) (x::p):=by
 induction c with
 |base=>
  intro x h;rw[uA,jD] at h;subst h;exact⟨[],rfl,by simp,λv z=>z,rfl,iJ⟩
 |@ext l a b h1 h2 h3 h4 h5 ih=>
  intro x h;rcases(vM ..).mp h with h|h
  .obtain⟨p,q1,q2,q3,q4,q5⟩:=ih x h;exact⟨p,Jo q3 q1,q2,λv z=>(vM ..).mpr (.inl (q3 v z)),q4,q5⟩
  .subst h;obtain⟨p,q1,q2,q3,q4,q5⟩:=ih b h2;refine⟨b::p,⟨?_,Jo q3 q1⟩,hU.mpr ⟨λz=>h3 (q3 _ z),q2⟩,λv z=>?_,by rw[List.getLast?_cons_cons];exact q4,h4,q5⟩
   .rw[zy,km.mpr h3];show lk [(x,some b)] x=_;rw[lh,aJ rfl]
   .rw[vM];rcases eC.mp z with z|z
    .exact .inr z
    .exact .inl (q3 v z)
theorem JN{x:Nd}{y:Option Nd}(e:lk l x=some y):eE (.Y (.aE (dF l))) (aL x)=some (.Y (zD y)):=by
 have q:eE (.Y (.aE (dF l))) (aL x)=(cL (aL x)).bind λk=>(jM (dF l) k).map .Y:=by
  cases x <;> rfl
 rw[q,q9,Option.bind_some];unfold dF;rw[xJ dU oV,e];rfl
def pC:GT:=gT (gB (qJ true) (gB bB (aa 1) (aa 3)) (gC .bH))
def pB:GS:=aR (ak 4 (gB bB (aa 1) (aa 3)))
 (aR (uj (λi j=>i - j) 0 (sV 4) (sV 3) (sC (.int 1)))
 (aR (uj (λi j=>i+j) 0 (sV 3) (sV 4) (sC (.int 1)))
 (ak 3 (aa 4))))
theorem Zc(v:Nd):qJ true [.Y (aL v),.Y .bH]=some (.Y (.bl true)):=by
 cases v <;> rfl
theorem Zd:qJ true [.Y .bH,.Y .bH]=some (.Y (.bl false)):=rfl
theorem e6y{x:Nd}(e:lk l x=some (some y)):pC [some (bL N),some (.Y (.aE (dF l))),a2,some (.Y (aL x)),a4]=some (true,[some (bL N),some (.Y (.aE (dF l))),a2,some (.Y (aL x)),a4]):=by
 have f:=JN e;have f2:=Zc y;rw[show zD (some y)=aL y from rfl] at f;unfold pC;simp only[cH,bu,ba,aV,bg,aW,↓af,bb,bq,br,bp,cG,f,bI,f2]
theorem e9f{x:Nd}(e:lk l x=some none):pC [some (bL N),some (.Y (.aE (dF l))),a2,some (.Y (aL x)),a4]=some (false,[some (bL N),some (.Y (.aE (dF l))),a2,some (.Y (aL x)),a4]):=by
 have f:=JN e;rw[show zD none=.bH from rfl] at f;unfold pC;simp only[cH,bu,ba,aV,bg,aW,↓af,bb,bq,br,bp,cG,f,bI,Zd]
theorem V7(ok:m_ N){x:Nd}(e:lk l x=some (some y))(ha:kf N y x)(i6:x≠y):
  ∃N',iF N'=iF N/\(∀v w,rr N' v w=aug (rr N) y x v w)/\pB [some (bL N),some (.Y (.aE (dF l))),a2,some (.Y (aL x)),a4]=some (.nx,[some (bL N'),some (.Y (.aE (dF l))),a2,some (.Y (aL y)),some (.Y (aL y))]):=by
 have ha':=ok.sy y x ha;obtain⟨i,e1,n,e2⟩:=ha;obtain⟨j,e3,m,e4⟩:=ha';have e5:lk (jA N y x (n - 1)) x=some j:=by rw[Cs e1,aQ (Ne.symm i6)];exact e3
 refine⟨jA (jA N y x (n - 1)) x y (m+1),by rw[Ry e5 e4,Ry e1 e2],λv w=>?_,?_⟩
 .rw[G3 e5,G3 e1];unfold aug;by_cases c1:v=y/\w=x
  .rw[aQ (λz=>i6 (z.1.symm.trans c1.1)),aJ c1,aJ c1,c1.1,c1.2,zC e1,e2];rfl
  .rw[aQ c1];by_cases c2:v=x/\w=y
   .rw[aJ c2,aQ c1,aJ c2,c2.1,c2.2,zC e3,e4];rfl
   .rw[aQ c2,aQ c1,aQ c2]
 .have f:=JN e;rw[show zD (some y)=aL y from rfl] at f;have p1:uj (λi j=>i - j) 0 (sV 4) (sV 3) (sC (.int 1)) [some (bL N),some (.Y (.aE (dF l))),a2,some (.Y (aL x)),some (.Y (aL y))]=some (.nx,[some (bL (jA N y x (n - 1))),some (.Y (.aE (dF l))),a2,some (.Y (aL x)),some (.Y (aL y))]):=Qz e1 e2 (by have:=ok.il _ _ e1;lia) rfl rfl rfl rfl
  have p2:uj (λi j=>i+j) 0 (sV 3) (sV 4) (sC (.int 1)) [some (bL (jA N y x (n - 1))),some (.Y (.aE (dF l))),a2,some (.Y (aL x)),some (.Y (aL y))]=some (.nx,[some (bL (jA (jA N y x (n - 1)) x y (m+1))),some (.Y (.aE (dF l))),a2,some (.Y (aL x)),some (.Y (aL y))]):=Qz e5 e4 (by have:=ok.il _ _ e3;lia) rfl rfl rfl rfl
  unfold pB;simp only[cY,eJ,bu,ba,aV,bg,aW,↓af,bb,bq,br,bp,cG,f,bO,bM,bP,reduceAdd,reduceLT,cy,bK,aX,p1,p2]
theorem OE(l:cK)(a2:Option O):∀(p:List Nd) (x:Nd) (N:Net) (n:Nat) (a4:Option O),m_ N->A7 l (x::p)->(∀x y,lk l x=some (some y)->kf N y x/\x≠y)->p.length<n->
  ∃N' b3 b4,iF N'=iF N/\(∀v w,rr N' v w=jG (rr N) (x::p) v w)/\iT pC pB n [some (bL N),some (.Y (.aE (dF l))),a2,some (.Y (aL x)),a4]=some (.nx,[some (bL N'),some (.Y (.aE (dF l))),a2,b3,b4])
 |p,x,N,0,a4,ok,hp,ha,hn=>bQ hn (Ay _)
 |[],x,N,n+1,a4,ok,hp,ha,hn=>by
  have hp:lk l x=some none:=hp;refine⟨N,some (.Y (aL x)),a4,rfl,λ_ _=>rfl,?_⟩
  have f:=e9f (N:=N) (a2:=a2) (a4:=a4) hp;rw[iT];simp only[f,↓af,cR,bS]
 |y::p,x,N,n+1,a4,ok,hp,ha,hn=>by
  obtain⟨N1,s1,r1,st⟩:=V7 ok (a2:=a2) (a4:=a4) hp.1 (ha x y hp.1).1 (ha x y hp.1).2;have f:=e6y (N:=N) (a2:=a2) (a4:=a4) hp.1;obtain⟨N',b3,b4,s2,r2,e⟩:=OE l a2 p y N1 n (some (.Y (aL y))) (ok.same s1) hp.2 (λx y h=>⟨by rw[ub,s1,<-ub];exact(ha x y h).1,(ha x y h).2⟩) (Nat.lt_of_succ_lt_succ hn)
  refine⟨N',b3,b4,s2.trans s1,λv w=>?_,?_⟩
  .rw[r2];have:(rr N1)=aug (rr N) y x:=by funext v w;exact r1 v w
   rw[this];rfl
  .rw[<-e,iT];simp only[f,↓af,st,aX]
theorem e6z(N:Net)(ok:m_ N)(l:cK)(c:Cm N l)(he:.en∈l.map (·.1)):∃N' p,iF N'=iF N/\(∀v w,rr N' v w=jG (rr N) (.en::p) v w)/\(Nd.en::p).Nodup/\(∀v,v∈Nd.en::p->v∈N.map (·.1))/\(Nd.en::p).getLast?=some .st/\kG (rr N) (.en::p)/\zv [bL N,.Y (.aE (dF l)),.Y (aL .en)]=some (.Y .bH,[some (bL N'),none,none]):=by
 obtain⟨p,q1,q2,q3,q4,q5⟩:=c.path .en he;have hl:=vN q2 q3;rw[bz,hX] at hl;have h2:=c.len ok;have h3:=ok.nl;obtain⟨N',b3,b4,s,r,e⟩:=OE l (some (.Y (aL .en))) p .en N 1000000 none ok q1 (λx y h=>(c.step x y h).2) (by lia)
 refine⟨N',p,s,r,q2,λv z=>c.sub ok v (q3 v z),q4,q5,?_⟩
 have me:Ke=aR (ak 3 (aa 2)) (iT pC pB 1000000):=rfl;unfold zv;rw[me];simp only[gn,eM,eX,bO,bM,bP,reduceAdd,reduceSub,fD,e8,e_,fe,cY,eJ,aV,bg,aW,↓af,reduceLT,cy,bK,aX,e,RY,gw,gy,q_,gE,gp]
theorem Sl(l:cK):(O.aE (iC l)).d=.aE (dF l):=by show D.aE (O.dk (iC l))=_;rw[Rw]
theorem QD(N:Net)(ok:m_ N):∃l,Cm N l/\(∀y,y∈l.map (·.1)->∀x,0<rr N y x->x∈l.map (·.1))/\bor rN [bL N,.Y (aL .st)]=some (.aE (iC l),[some (bL N),none]):=by
 obtain⟨l,c,cl,e⟩:=Xn N ok;exact⟨l,c,cl,U5 N l e⟩
def G_:GT:=gT (gB (cg false) (aa 2) (aa 3))
def G9:GS:=aR (jw (aI zv (ai (aa 0) (ai (aa 3) (ai (aa 2) gN))))) (ak 3 (av (aI (bor rN) (ai (aa 0) (ai (aa 1) gN)))))
def u0(N:Net)(l:cK):Gm:=[some (bL N),some (.Y (aL .st)),some (.Y (aL .en)),some (.Y (.aE (dF l)))]
theorem R7(N:Net)(l:cK)(b:Bool)(hb:b=true↔.en∈l.map (·.1)):G_ (u0 N l)=some (b,u0 N l):=by
 have f:=Jn false l .en b hb;unfold G_ u0;simp only[cH,bu,ba,aV,bg,aW,↓af,bb,bq,br,bp,f,cR,bS]
theorem e9g(N N1:Net)(l l1:cK)(h1:zv [bL N,.Y (.aE (dF l)),.Y (aL .en)]=some (.Y .bH,[some (bL N1),none,none]))(h2:bor rN [bL N1,.Y (aL .st)]=some (.aE (iC l1),[some (bL N1),none])):G9 (u0 N l)=some (.nx,u0 N1 l1):=by
 unfold G9 u0;simp only[cY,jP,gc,ba,aV,aW,↓af,bg,bb,ja,bK,gb,f_,h1,jT,gR,gQ,eJ,cU,h2,Sl,bO,bM,bP,reduceAdd,reduceLT,cy,aX]
theorem iE{V:List Nd}{r0:Nd->Nd->Int}{B:Int}(hB:∀r,i8 V .st .en r0 r->ex V r0 r .st<=B):∀(n:Nat) (N:Net) (l:cK),m_ N->(∀v,v∈N.map (·.1)->v∈V)->i8 V .st .en r0 (rr N)->Cm N l->(∀y,y∈l.map (·.1)->∀x,0<rr N y x->x∈l.map (·.1))->B<ex V r0 (rr N) .st+n->
  ∃N' l',iF N'=iF N/\i8 V .st .en r0 (rr N')/\Cm N' l'/\(∀y,y∈l'.map (·.1)->∀x,0<rr N' y x->x∈l'.map (·.1))/\.en∉l'.map (·.1)/\iT G_ G9 n (u0 N l)=some (.nx,u0 N' l')
 |0,N,l,ok,hV,F,c,cl,hn=>by
  have:=hB _ F;simp only[Int.natCast_zero,Int.add_zero] at hn;lia
 |n+1,N,l,ok,hV,F,c,cl,hn=>by
  by_cases he:Nd.en∈l.map (·.1)
  .obtain⟨N1,p,s1,r1,n1,v1,g1,m1,e1⟩:=e6z N ok l c he;have er:rr N1=jG (rr N) (.en::p):=by funext v w;exact r1 v w
   obtain⟨F1,x1⟩:=F.push n1 (λv z=>hV v (v1 v z)) g1 m1
   rw[<-er] at F1 x1;have yE:=ok.same s1;obtain⟨l1,c1,VZ,e2⟩:=QD N1 yE;have hk:N1.map (·.1)=N.map (·.1):=by rw[FF,FF,s1]
   obtain⟨N',l',q1,q2,q3,q4,q5,q6⟩:=iE hB n N1 l1 yE (by rw[hk];exact hV) F1 c1 VZ (by
    rw[x1];have:((n+1:Nat):Int)=(n:Int)+1:=rfl;lia)
   refine⟨N',l',q1.trans s1,q2,q3,q4,q5,?_⟩;have f1:=R7 N l true ⟨λ_=>he,λ_=>rfl⟩
   have f2:=e9g N N1 l l1 e1 e2;rw[<-q6,iT];simp only[f1,↓af,f2,aX]
  .refine⟨N,l,rfl,F,c,cl,he,?_⟩;have f1:=R7 N l false ⟨λz=>(by cases z),λz=>bQ z he⟩
   rw[iT];simp only[f1,↓af,cR,bS]
theorem e7b{V:List Nd}{B:Int}(N:Net)(ok:m_ N)(hV:∀v,v∈N.map (·.1)->v∈V)(F:i8 V .st .en (rr N) (rr N))(hB:∀r,i8 V .st .en (rr N) r->ex V (rr N) r .st<=B)(hb:B<1000):
  ∃N' l',iF N'=iF N/\i8 V .st .en (rr N) (rr N')/\Cm N' l'/\(∀y,y∈l'.map (·.1)->∀x,0<rr N' y x->x∈l'.map (·.1))/\.en∉l'.map (·.1)/\GK [bL N,.Y (aL .st),.Y (aL .en)]=some (.Y (.aE (dF l')),[some (bL N'),none,none]):=by
 obtain⟨l,c,cl,e⟩:=QD N ok;have e0:ex V (rr N) (rr N) .st=0:=zl λv _=>by lia
 obtain⟨N',l',q1,q2,q3,q4,q5,q6⟩:=iE hB 1000000 N l ok hV F c cl (by rw[e0];lia)
 refine⟨N',l',q1,q2,q3,q4,q5,?_⟩;unfold u0 at q6;have me:Ki=aR (ak 3 (av (aI (bor rN) (ai (aa 0) (ai (aa 1) gN))))) (aR (iT G_ G9 1000000) (aP (aa 3))):=rfl;unfold GK;rw[me];simp only[gn,eM,eX,bO,bM,bP,reduceAdd,reduceSub,fD,e8,e_,fe,cY,eJ,cU,gc,ba,aV,aW,↓af,bg,bb,ja,bK,gb,f_,e,jT,gR,gQ,Sl,reduceLT,cy,aX,q6,eG,gY,gw,gy,q_,gE,gp]
section
variable{α:Type}[DecidableEq α](kk:α->TK)(inj:∀a b,kk a=kk b->a=b)
def kl(ks:List α):List (TK×O):=ks.map λk=>(kk k,.Y (.bl true))
def iU(ks:List α)(c:α):List α:=if c∈ks then ks else ks++[c]
def dB(ks cs:List α):List α:=cs.foldl iU ks
include inj in
theorem QE(c:α):∀ks:List α,c_ (kl kk ks) (kk c) (.Y (.bl true))=kl kk (iU ks c)
 |[]=>rfl
 |k::ks=>by
  have ih:=QE c ks;show(if kk k=kk c then(kk k,O.Y (.bl true))::kl kk ks else(kk k,O.Y (.bl true))::c_ (kl kk ks) (kk c) (.Y (.bl true)))=_
  unfold iU at *;by_cases e:k=c
  .rw[aJ (by rw[e]),aJ (by rw[e];exact .head _)];rfl
  .rw[aQ (λz=>e (inj _ _ z)),ih]
   by_cases m:c∈ks
   .rw[aJ m,aJ (.tail _ m)];rfl
   .rw[aQ m,aQ (λz=>by
     rcases eC.mp z with z|z
     .exact e z.symm
     .exact m z)]
    rfl
include inj in
theorem e7c(d:D)(c:α)(hd:cL d=some (kk c))(ks:List α)(hl:ks.length<1000000):jK (.aE (kl kk ks)) [.Y (.bl true),.Y d]=some (.aE (kl kk (iU ks c)),.Y .bH):=by
 rw[JL,hd,Option.bind_some,aJ (by unfold kl;rw[bz];exact hl),QE kk inj]
end
section
variable{α:Type}[DecidableEq α]
theorem Xo{ks:List α}{c x:α}:x∈iU ks c↔x∈ks\/x=c:=by
 unfold iU;split
 .rename_i m
  exact⟨.inl,λz=>z.elim id λe=>by rw[e];exact m⟩
 .rw[eI,jD]
theorem jF:∀{cs ks:List α} {x:α},x∈dB ks cs↔x∈ks\/x∈cs
 |[],ks,x=>by show x∈ks↔_;simp
 |c::cs,ks,x=>by
  show x∈dB (iU ks c) cs↔_;rw[jF,Xo,eC,or_assoc]
theorem U6{ks:List α}{c:α}(h:ks.Nodup):(iU ks c).Nodup:=by
 unfold iU;split
 .exact h
 .rename_i m
  rw[lC];exact⟨h,by simp,λa ha b hb e=>by simp at hb;subst hb e;exact m ha⟩
theorem Ny:∀{cs ks:List α},ks.Nodup->(dB ks cs).Nodup
 |[],ks,h=>h
 |c::cs,ks,h=>Ny (cs:=cs) (U6 h)
theorem OF(ks cs ds:List α):dB ks (cs++ds)=dB (dB ks cs) ds:=by unfold dB;rw[List.foldl_append]
theorem IK:∀{cs ks:List α},(dB ks cs).length<=ks.length+cs.length
 |[],ks=>cJ _
 |c::cs,ks=>by
  have h1:=IK (cs:=cs) (ks:=iU ks c);have h2:(iU ks c).length<=ks.length+1:=by
   unfold iU;split
   .exact EE _
   .simp
  show(dB (iU ks c) cs).length<=_;rw[hX];lia
end
abbrev Pl:=Str×Int
variable{p q:Pl}{P:List Pl}{ys:List (Nat×List Pl)}
def bT(p:Pl):D:=.tup [.str p.1,.int p.2]
def lx(p:Pl):TK:=.tp [.inr p.1,.inl p.2]
theorem Rz(p:Pl):cL (bT p)=some (lx p):=by
 simp[bT,lx,cL,lQ,oM,TK.ok]
theorem Ze(a b:Pl)(e:lx a=lx b):a=b:=by
 obtain⟨x,i⟩:=a;obtain⟨y,j⟩:=b;unfold lx at e;injection e with e;injection e with e1 e;injection e with e2 e;injection e1 with e1;injection e2 with e2;dsimp only at e1 e2;rw[e1,e2]
def jz(h:aw)(p:Pl):List Sp:=fX h (.inr p)++[.inr p]
def yK:Sp->Option Pl
 |.inl _=>none
 |.inr p=>some p
def iX(h:aw)(p:Pl):List Pl:=(jz h p).filterMap yK
theorem je:q∈iX h p↔Sum.inr q∈jz h p:=by
 unfold iX;rw[vE];constructor
 .rintro⟨s,hs,e⟩;cases s with
  |inl x=>cases e
  |inr r=>cases e;exact hs
 .exact λz=>⟨_,z,rfl⟩
theorem JO:∀ss:List Sp,(ss.filter λs => !s.isLeft).map au=(ss.filterMap yK).map bT
 |[]=>rfl
 |.inl x::ss=>JO ss
 |.inr p::ss=>by
  show au (.inr p)::(ss.filter λs => !s.isLeft).map au=bT p::(ss.filterMap yK).map bT
  rw[JO ss];rfl
def VP(h:aw)(p:Pl):Prop:=∃b∈h.aO,b.name=p.1/\0<=p.2/\p.2<b.long
theorem Ko(ok:fZ h){b:bc}(hb:b∈h.aO)(c:Int):jz h (b.name,c)=iZ h b c++[.inr (b.name,c)]:=by
 unfold jz;rw[JK ok.fwd hb]
theorem JP(ok:fZ h)(v:VP h p):(jz h p).length<=31:=by
 obtain⟨n,c⟩:=p;obtain⟨b,hb,e,_⟩:=v;dsimp only at e;subst e;rw[Ko ok hb,dy,jC];have:=OC h b c (ok.bk b hb).ol;lia
theorem Gg(ok:fZ h)(v:VP h p):(iX h p).length<=31:=
 lT (List.length_filterMap_le _ _) (JP ok v)
theorem OG(ok:fZ h)(v:VP h p)(hq:q∈iX h p):VP h q:=by
 rw[je] at hq;obtain⟨n,c⟩:=p;obtain⟨b,hb,e,c0,c1⟩:=v;dsimp only at e c0 c1;subst e;rw[Ko ok hb] at hq;rcases eI.mp hq with hq|hq
 .unfold iZ at hq;split at hq
  .rename_i hc
   rw[jD] at hq;cases hq;exact⟨b,hb,rfl,by show 0<=c+1;lia,hc⟩
  .rcases eI.mp hq with z|z
   .obtain⟨o,ho,e⟩:=gA.mp z;split at e
    .cases e
    .rename_i hc
     cases e;rcases Jm ok.fwd b hb o ho with y|y
     .obtain⟨x,hx,ex⟩:=gA.mp y;exact⟨x,hx,ex,yY 0,by have:=(ok.bk x hx).lg.1;show 0<x.long;lia⟩
     .exact bQ (EG.mpr y) hc
   .split at z
    .rw[jD] at z;cases z;exact⟨b,hb,rfl,yY 0,by show 0<b.long;lia⟩
    .cases z
 .rw[jD] at hq;cases hq;exact⟨b,hb,rfl,c0,c1⟩
theorem ML(ok:fZ h)(v:VP h p):zk [.Y (dZ h),.Y (bT p)]=some (.lst (((jz h p).map au).map .Y),[none,none]):=by
 obtain⟨n,c⟩:=p;obtain⟨b,hb,e,_⟩:=v;dsimp only at e;subst e;rw[Ko ok hb];exact Y4 h ok b hb c
def at'(p:Pl)(m:Int):Ct:=(p.1,p.2,m)
def rF(h:aw)(cart:Str)(pl:Int)(p:Pl)(m:Int):List (Nd×Nd×Int):=
 (Nd.gi (at' p m),Nd.go (at' p m),1)::((if cP (.inl cart) (jz h p)=true then[(Nd.go (at' p m),Nd.en,pl)] else[])++(iX h p).map λq=>(Nd.go (at' p m),Nd.gi (at' q (m+1)),pl))
def cf(N:Net)(L:List (Nd×Nd×Int)):Net:=L.foldl (λN e=>fj N e.1 e.2.1 e.2.2) N
theorem FH(N:Net)(L M:List (Nd×Nd×Int)):cf N (L++M)=cf (cf N L) M:=by unfold cf;rw[List.foldl_append]
theorem xM:∀(L:List (Nd×Nd×Int)) {N:Net} {k:Nat},Sz N k->Sz (cf N L) (k+4*L.length)
 |[],N,k,s=>s
 |e::L,N,k,s=>by
  have:=xM L (Rt e.1 e.2.1 e.2.2 s);rw[hX,show k+4*(L.length+1)=k+4+4*L.length by lia]
  exact this
theorem Sz.mono(s:Sz N k)(h:k<=j):Sz N j:=⟨by have:=s.l;lia,λv i e=>by have:=s.i v i e;lia⟩
theorem Zf(ok:fZ h){m:Int}(v:VP h p):(rF h cart pl p m).length<=33:=by
 unfold rF;rw[hX,dy,bz];have:=Gg ok v;have:(if cP (.inl cart) (jz h p)=true then[(Nd.go (at' p m),Nd.en,pl)] else[]).length<=1:=by split <;> simp
 lia
theorem BJ(neg:Bool)(x:Sp)(as:List Sp):cg neg [.Y (au x),.Y (.lst (as.map au))]=some (.Y (.bl (if neg then !cP x as else cP x as))):=by
 have key:((oj (O.Y (.lst (as.map au))).d).bind λds=>if cQ 40 (O.Y (au x)).d=true/\ds.all (cQ 40)=true then some (O.Y (.bl (if neg then !ds.any λz=>aU z (O.Y (au x)).d else ds.any λz=>aU z (O.Y (au x)).d))) else none)=some (.Y (.bl (if neg then !cP x as else cP x as))):=by
  rw[bX,bX];show(Option.bind (some (as.map au)) _)=_;rw[Option.bind_some,aJ ⟨wj 39 x,GN 39 as⟩,Rm]
 cases x with
 |inl y=>exact key
 |inr p=>exact key
theorem Gh(p:Pl)(m:Int):uk [.Y (bT p),.Y (.int m)]=some (.tup [.Y (gH (at' p m)),.Y (.str "into")],[none,none]):=e6v p.1 p.2 m
theorem yj(c:Ct):D.tup [gH c,.str "into"]=aL (.gi c):=rfl
theorem Dd(c:Ct):D.tup [gH c,.str "out of"]=aL (.go c):=rfl
theorem R8(c:Ct):eE (.Y (aL (.gi c))) (.int 0)=some (.Y (gH c)):=rfl
def nM:GS:=jw (aI um (ai (aa 0) (ai (aa 7) (ai (av (aI uk (ai (aa 10) (ai (av (gB b_ (aa 3) (gC (.int 1)))) gN)))) (ai (aa 5) gN)))))
def sr:GE:=kJ (ka (aa 8)) (bj 0) (dR (gO cx (ai (aa 0) (ai (gC (.ty "tuple")) gN)))) (aa 0) 1 []
def uY:GS:=ck (gT (gB (cg false) (aa 4) (aa 8)))
  (jw (aI um (ai (aa 0) (ai (aa 7) (ai (av (gC (.str "the end"))) (ai (aa 5) gN))))))
  bw
def lZ(h:aw)(cart:Str)(pl:Int)(p:Pl)(m:Int)(N:Net)(a8 a9 bN:Option O):Gm:=
 [some (bL N),some (.Y (dZ h)),some (.Y (bT p)),some (.Y (.int m)),some (fS cart),some (.Y (.int pl)),some (.Y (aL (.gi (at' p m)))),some (.Y (aL (.go (at' p m)))),a8,a9,bN]
theorem V8(h:aw)(cart:Str)(pl:Int)(p q:Pl)(m:Int)(N:Net)(k:Nat)(s:Sz N k)(hk:k<900000)(a8 a9:Option O):
  nM (lZ h cart pl p m N a8 a9 (some (.Y (bT q))))=some (.nx,lZ h cart pl p m (fj N (.go (at' p m)) (.gi (at' q (m+1))) pl) a8 a9 (some (.Y (bT q)))):=by
 have e1:=Gh q (m+1);have e2:=G4 N k (.go (at' p m)) (.gi (at' q (m+1))) pl s hk;unfold nM lZ;simp only[jP,gc,ba,aV,aW,↓af,bg,cU,bu,bI,bb,bq,br,bp,iA,bX,gb,f_,e1,gR,gQ,jU,ia,h_,yj,ja,bK,e2,jT]
theorem Xp(h:aw)(cart:Str)(pl:Int)(p:Pl)(m:Int)(N:Net)(k:Nat)(s:Sz N k)(hk:k<900000)(a9 bN:Option O):
  uY (lZ h cart pl p m N (some (.Y (.lst ((jz h p).map au)))) a9 bN)=some (.nx,lZ h cart pl p m (cf N (if cP (.inl cart) (jz h p)=true then[(Nd.go (at' p m),Nd.en,pl)] else[])) (some (.Y (.lst ((jz h p).map au)))) a9 bN):=by
 have e1:=BJ false (.inl cart) (jz h p);rw[show au (.inl cart)=.str cart from rfl] at e1;have e2:=G4 N k (.go (at' p m)) .en pl s hk;rw[show aL .en=.str "the end" from rfl] at e2;unfold uY lZ;cases c:cP (.inl cart) (jz h p) with
 |true=>
  rw[c] at e1;simp only[dh,cH,bu,ba,aV,bg,aW,↓af,bb,bq,br,bp,e1,cR,bS,jP,gc,cU,bI,bX,ja,bK,gb,f_,e2,jT,gR,gQ,dA,aX];rfl
 |false=>
  rw[c] at e1;simp only[dh,cH,bu,ba,aV,bg,aW,↓af,bb,bq,br,bp,e1,cR,bS,jP,gc,cU,bI,bX,ja,bK,gb,f_,dA];rfl
theorem V9(h:aw)(ok:fZ h)(cart:Str)(pl:Int)(p:Pl)(v:VP h p)(m:Int)(N:Net)(a9 bN:Option O):
  sr (lZ h cart pl p m N (some (.Y (.lst ((jz h p).map au)))) a9 bN)=some (.own (.lst (((iX h p).map bT).map .Y)),lZ h cart pl p m N (some (.Y (.lst ((jz h p).map au)))) a9 bN):=by
 have hl:=JP ok v;obtain⟨Q0',⟨a,rfl⟩,e⟩:=vT (g:=bj 0) (ct:=dR (gO cx (ai (aa 0) (ai (gC (.ty "tuple")) gN)))) (ce:=aa 0) (λQ0=>∃a,Q0=[a]) au (λs => !s.isLeft) au (jz h p) [] [none] ⟨_,rfl⟩ (by rw[rJ];lia) (by
  rintro s hs Q0 ⟨a,rfl⟩;refine⟨[some (.Y (au s))],?_,_,rfl⟩;have f:=Y2 s;unfold rM;cases q:s.isLeft with
  |true=>
   rw[q] at f;simp only[iz,bO,bM,bP,reduceLT,bK,aX,↓af,jR,bu,ba,aV,aW,bI,bb,bq,br,bp,f,iL,kI,cR,bS]
  |false=>
   rw[q] at f;simp only[iz,bO,bM,bP,reduceLT,bK,aX,↓af,jR,bu,ba,aV,aW,bI,bb,bq,br,bp,f,lD,kI])
 rw[fI,JO] at e;rw[show([]:List D).map O.Y=[] from rfl] at e;unfold sr lZ iX;simp only[oU,vZ,cU,aV,bg,aW,↓af,bX,fD,e8,pM,e_,fe,e,bO,bM,bP,reduceAdd,qP,pH,pO,aX]
theorem Zg(h:aw)(cart:Str)(pl:Int)(p x:Pl)(m:Int)(N:Net)(a8 a9 gZ:Option O):bj 10 (bT x) (lZ h cart pl p m N a8 a9 gZ)=some (lZ h cart pl p m N a8 a9 (some (.Y (bT x)))):=by
 unfold lZ;simp only[iz,bO,bM,bP,reduceAdd,reduceLT,cy,bK,aX]
def zN(p:Pl)(m pl:Int)(q:Pl):Nd×Nd×Int:=(.go (at' p m),.gi (at' q (m+1)),pl)
theorem OH(N:Net)(L:List (Nd×Nd×Int))(e:Nd×Nd×Int):cf N (L++[e])=fj (cf N L) e.1 e.2.1 e.2.2:=FH N L [e]
theorem V_(h:aw)(cart:Str)(pl:Int)(p:Pl)(m:Int)(N:Net)(k:Nat)(s:Sz N k)(hk:k<850000)(gs:List Pl)(hg:gs.length<=31)(a8 a9:Option O):
  ∃gZ,fz (bj 10) nM (gs.map bT) (lZ h cart pl p m N a8 a9 none)=some (.nx,lZ h cart pl p m (cf N (gs.map (zN p m pl))) a8 a9 gZ):=by
 obtain⟨Q0',e6,gZ,rfl⟩:=mB (g:=bj 10) (f:=nM) bT (λpre Q0=>∃gZ:Option O,Q0=lZ h cart pl p m (cf N (pre.map (zN p m pl))) a8 a9 gZ) gs []
  (lZ h cart pl p m N a8 a9 none) ⟨none,rfl⟩ (by
   rintro q x post Q0 eq ⟨gZ,rfl⟩;rw[fI];have hq:gs.length=q.length+(post.length+1):=by rw[eq,dy,hX]
   have sq:=xM (q.map (zN p m pl)) s;rw[bz] at sq;have st:=V8 h cart pl p x m _ _ sq (by lia) a8 a9
   refine⟨lZ h cart pl p m (fj (cf N (q.map (zN p m pl))) (.go (at' p m)) (.gi (at' x (m+1))) pl) a8 a9 (some (.Y (bT x))),?_,some (.Y (bT x)),?_⟩
   .rw[Zg,Option.bind_some,st]
   .rw[iH,uA,OH];rfl)
 exact⟨gZ,e6⟩
def qD(h:aw)(cart:Str)(p:Pl)(m pl:Int):List (Nd×Nd×Int):=if cP (.inl cart) (jz h p)=true then[(Nd.go (at' p m),Nd.en,pl)] else[]
theorem Xq(h:aw)(cart:Str)(p:Pl)(m pl:Int):(qD h cart p m pl).length<=1:=by unfold qD;split <;> simp
theorem U7(h:aw)(ok:fZ h)(cart:Str)(pl:Int)(p:Pl)(v:VP h p)(m:Int)(N:Net)(k:Nat)(s:Sz N k)(hk:k<800000):
  E_ [bL N,.Y (dZ h),.Y (bT p),.Y (.int m),.Y (.str cart),.Y (.int pl)]=some (.Y (.lst ((iX h p).map bT)),[some (bL (cf N (rF h cart pl p m))),none,none,none,none,none]):=by
 have e1:=Gh p m;have e2:=G4 N k (.gi (at' p m)) (.go (at' p m)) 1 s (by lia)
 have s1:=Rt (.gi (at' p m)) (.go (at' p m)) 1 s;have e3:=ML ok v;have e4:∀a9 bN,uY (lZ h cart pl p m (fj N (.gi (at' p m)) (.go (at' p m)) 1) (some (.Y (.lst ((jz h p).map au)))) a9 bN)=some (.nx,lZ h cart pl p m (cf (fj N (.gi (at' p m)) (.go (at' p m)) 1) (qD h cart p m pl)) (some (.Y (.lst ((jz h p).map au)))) a9 bN):=λa9 bN=>Xp h cart pl p m (fj N (.gi (at' p m)) (.go (at' p m)) 1) _ s1 (by lia) a9 bN
 have s2:=(xM (qD h cart p m pl) s1).mono (j:=k+8) (by have:=Xq h cart p m pl;lia)
 have eN:cf N (rF h cart pl p m)=cf (cf (fj N (.gi (at' p m)) (.go (at' p m)) 1) (qD h cart p m pl)) ((iX h p).map (zN p m pl)):=by
  rw[<-FH];rfl
 rw[eN];generalize cf (fj N (.gi (at' p m)) (.go (at' p m)) 1) (qD h cart p m pl)=N2 at e4 s2 ⊢;have e5:=λa9 bN=>V9 h ok cart pl p v m N2 a9 bN
 obtain⟨gZ,e6⟩:=V_ h cart pl p m N2 _ s2 (by lia) (iX h p) (Gg ok v) (some (.Y (.lst ((jz h p).map au)))) (some (.Y (.lst ((iX h p).map bT))))
 generalize cf N2 ((iX h p).map (zN p m pl))=N3 at e6 ⊢;generalize fj N (.gi (at' p m)) (.go (at' p m)) 1=N1 at e2 e4 ⊢;have me:Iq=aR (ak 6 (av (aI uk (ai (aa 2) (ai (aa 3) gN)))))
  (aR (ak 7 (av (bA .tup (ai (gB bB (aa 6) (gC (.int 0))) (ai (gC (.str "out of")) gN)))))
  (aR (jw (aI um (ai (aa 0) (ai (aa 6) (ai (aa 7) (ai (gC (.int 1)) gN))))))
  (aR (ak 8 (av (aI zk (ai (aa 1) (ai (aa 2) gN)))))
  (aR uY (aR (ak 9 (av sr)) (aR (ef (aa 9) (bj 10) nM) (aP (aa 9)))))))):=rfl
 unfold lZ at e4 e5 e6;unfold E_;rw[me];simp only[gn,eM,eX,bO,bM,bP,reduceAdd,reduceSub,fD,e8,e_,fe,cY,eJ,cU,gc,ba,aV,bg,aW,↓af,bb,gb,f_,e1,gR,gQ,jU,ia,bX,h_,yj,reduceLT,cy,bK,aX,fM,bu,bI,bq,br,bp,cG,R8,reduceLeDiff,gD,eZ,Dd,jP,ja,e2,jT,e3,jy,rR,e4,e5,pS,e6,eG,gY,gw,gy,q_,gE,gp]
def nG(h:aw)(P:List Pl)(cart:Str)(T pl:Int)(N:Net)(S:List Ct)(Q:List Pl)(a8 a9 bN bU:Option O):Gm:=
 [some (bL N),some (.Y (dZ h)),some (.Y (.lst (P.map bT))),some (fS cart),some (.Y (.int T)),some (.Y (.int pl)),some (.lst ((S.map gH).map .Y)),some (.Y (.lst (Q.map bT))),a8,a9,bN,bU]
section
variable(h:aw)(P:List Pl)(cart:Str)(T pl:Int)
theorem U8(N:Net)(k:Nat)(s:Sz N k)(hk:k<900000)(S:List Ct)(Q:List Pl)(p:Pl)(a9 bN bU:Option O):
  BZ (nG h P cart T pl N S Q (some (.Y (bT p))) a9 bN bU)=some (.nx,nG h P cart T pl (fj N .st (.gi (at' p 0)) pl) S Q (some (.Y (bT p))) a9 bN bU):=by
 have e1:=Gh p 0;have e2:=G4 N k .st (.gi (at' p 0)) pl s hk;rw[show aL .st=.str "the start" from rfl] at e2;unfold BZ nG;simp only[jP,gc,ba,aV,aW,↓af,cU,bI,bX,bg,bb,gb,f_,e1,gR,gQ,jU,ia,h_,yj,ja,bK,e2,jT]
theorem S9(N:Net)(S:List Ct)(Q:List Pl)(d:D)(a8 a9 bN bU:Option O):bj 8 d (nG h P cart T pl N S Q a8 a9 bN bU)=some (nG h P cart T pl N S Q (some (.Y d)) a9 bN bU):=by
 unfold nG;simp only[iz,bO,bM,bP,reduceAdd,reduceLT,cy,bK,aX]
theorem nm9(N:Net)(S:List Ct)(Q:List Pl)(d:D)(a8 a9 bN bU:Option O):bj 9 d (nG h P cart T pl N S Q a8 a9 bN bU)=some (nG h P cart T pl N S Q a8 (some (.Y d)) bN bU):=by
 unfold nG;simp only[iz,bO,bM,bP,reduceAdd,reduceLT,cy,bK,aX]
theorem Mc(N:Net)(S:List Ct)(Q:List Pl)(d:D)(a8 a9 bN bU:Option O):bj 11 d (nG h P cart T pl N S Q a8 a9 bN bU)=some (nG h P cart T pl N S Q a8 a9 bN (some (.Y d))):=by
 unfold nG;simp only[iz,bO,bM,bP,reduceAdd,reduceLT,cy,bK,aX]
def tP(pl:Int)(p:Pl):Nd×Nd×Int:=(.st,.gi (at' p 0),pl)
theorem U9(N:Net)(k:Nat)(s:Sz N k)(hk:k<800000)(S:List Ct)(Q:List Pl)(ps:List Pl)(hp:ps.length<=100)(a9 bN bU:Option O):
  ∃b8,fz (bj 8) BZ (ps.map bT) (nG h P cart T pl N S Q none a9 bN bU)=some (.nx,nG h P cart T pl (cf N (ps.map (tP pl))) S Q b8 a9 bN bU):=by
 obtain⟨Q0',e6,b8,rfl⟩:=mB (g:=bj 8) (f:=BZ) bT (λpre Q0=>∃b8:Option O,Q0=nG h P cart T pl (cf N (pre.map (tP pl))) S Q b8 a9 bN bU) ps []
  (nG h P cart T pl N S Q none a9 bN bU) ⟨none,rfl⟩ (by
   rintro q x post Q0 eq ⟨b8,rfl⟩;rw[fI];have hq:ps.length=q.length+(post.length+1):=by rw[eq,dy,hX]
   have sq:=xM (q.map (tP pl)) s;rw[bz] at sq;have st:=U8 h P cart T pl _ _ sq (by lia) S Q x a9 bN bU
   refine⟨nG h P cart T pl (fj (cf N (q.map (tP pl))) .st (.gi (at' x 0)) pl) S Q (some (.Y (bT x))) a9 bN bU,?_,some (.Y (bT x)),?_⟩
   .rw[S9,Option.bind_some,st]
   .rw[iH,uA,OH];rfl)
 exact⟨b8,e6⟩
theorem Xr(N:Net)(S:List Ct)(Q:List Pl)(ks:List Pl)(hl:ks.length<1000000)(q:Pl)(a8 a9:Option O):
  tK (nG h P cart T pl N S Q a8 a9 (some (.aE (kl lx ks))) (some (.Y (bT q))))=some (.nx,nG h P cart T pl N S Q a8 a9 (some (.aE (kl lx (iU ks q)))) (some (.Y (bT q)))):=by
 have e:=e7c lx Ze (bT q) q (Rz q) ks hl;unfold tK nG;simp only[rQ,bI,↓af,aV,bg,aW,e,cy,bK]
theorem Xs(N:Net)(S:List Ct)(Q:List Pl)(ks gs:List Pl)(hl:ks.length+gs.length<1000000)(a8 a9 bU:Option O):
  ∃gq,fz (bj 11) tK (gs.map bT) (nG h P cart T pl N S Q a8 a9 (some (.aE (kl lx ks))) bU)=some (.nx,nG h P cart T pl N S Q a8 a9 (some (.aE (kl lx (dB ks gs)))) gq):=by
 obtain⟨Q0',e6,gq,rfl⟩:=mB (g:=bj 11) (f:=tK) bT (λpre Q0=>∃gq:Option O,Q0=nG h P cart T pl N S Q a8 a9 (some (.aE (kl lx (dB ks pre)))) gq) gs []
  (nG h P cart T pl N S Q a8 a9 (some (.aE (kl lx ks))) bU) ⟨bU,rfl⟩ (by
   rintro q x post Q0 eq ⟨gq,rfl⟩;rw[fI];have hq:gs.length=q.length+(post.length+1):=by rw[eq,dy,hX]
   have hk:=IK (cs:=q) (ks:=ks);have st:=Xr h P cart T pl N S Q (dB ks q) (by lia) x a8 a9
   refine⟨nG h P cart T pl N S Q a8 a9 (some (.aE (kl lx (iU (dB ks q) x)))) (some (.Y (bT x))),?_,some (.Y (bT x)),?_⟩
   .rw[Mc,Option.bind_some,st]
   .rw[OF];rfl)
 exact⟨gq,e6⟩
theorem e7e(p:Pl):eE (.Y (bT p)) (.int 0)=some (.Y (.str p.1)):=rfl
theorem e7f(p:Pl):eE (.Y (bT p)) (.int 1)=some (.Y (.int p.2)):=rfl
theorem V1(p:Pl)(m:Int):D.tup [.str p.1,.int p.2,.int m]=gH (at' p m):=rfl
theorem Zh(ok:fZ h)(N:Net)(k:Nat)(s:Sz N k)(hk:k<800000)(S:List Ct)(hS:S.length<1000000)(Q:List Pl)(ks:List Pl)(hl:ks.length<900000)(p:Pl)(v:VP h p)(m:Int)(bU:Option O):
  ∃gq,DY (nG h P cart T pl N S Q (some (.Y (bT p))) (some (.Y (.int m))) (some (.aE (kl lx ks))) bU)=some (.nx,nG h P cart T pl (cf N (rF h cart pl p m)) (S++[at' p m]) Q (some (.Y (bT p))) (some (.Y (.int m))) (some (.aE (kl lx (dB ks (iX h p))))) gq):=by
 have e1:=U7 h ok cart pl p v m N k s hk;have gl:=Gg ok v;obtain⟨gq,e2⟩:=Xs h P cart T pl (cf N (rF h cart pl p m)) (S++[at' p m]) Q ks (iX h p) (by lia) (some (.Y (bT p))) (some (.Y (.int m))) bU
 refine⟨gq,?_⟩;generalize cf N (rF h cart pl p m)=N1 at e1 e2 ⊢;have c1:((S.map gH).length<1000000)=True:=ku (by rw[bz];exact hS)
 unfold nG at e2 ⊢;rw[iH (f:=gH),uA] at e2 ⊢;unfold DY;simp only[cY,jP,lV,aV,bg,aW,↓af,ba,cU,fM,bu,bI,bb,bq,br,bp,cG,e7e,e7f,bO,bM,bP,reduceAdd,reduceLeDiff,gD,eZ,aX,jU,ia,bX,h_,V1,q8,c1,cy,bK,pS,gc,ja,gb,f_,e1,jT,gR,gQ,e2]
def iY(Q:List Pl)(m:Int):List (Nd×Nd×Int):=Q.flatMap λp=>rF h cart pl p m
theorem Zi(ok:fZ h)(N:Net)(k:Nat)(s:Sz N k)(S:List Ct)(hS:S.length<100000)(Q qs:List Pl)(hv:∀p,p∈qs->VP h p)(hq:qs.length<=150)(hk:k<700000)(m:Int)(a8 bU:Option O):
  ∃b8 gq,fz (bj 8) DY (qs.map bT) (nG h P cart T pl N S Q a8 (some (.Y (.int m))) (some (.aE (kl lx []))) bU)=some (.nx,nG h P cart T pl (cf N (iY h cart pl qs m)) (S++qs.map (at' · m)) Q b8 (some (.Y (.int m))) (some (.aE (kl lx (dB [] (qs.flatMap (iX h)))))) gq)/\(iY h cart pl qs m).length<=33*qs.length/\(qs.flatMap (iX h)).length<=31*qs.length:=by
 obtain⟨Q0',e6,b8,gq,rfl,l1,l2⟩:=mB (g:=bj 8) (f:=DY) bT (λpre Q0=>∃b8 gq:Option O,Q0=nG h P cart T pl (cf N (iY h cart pl pre m)) (S++pre.map (at' · m)) Q b8 (some (.Y (.int m))) (some (.aE (kl lx (dB [] (pre.flatMap (iX h)))))) gq/\(iY h cart pl pre m).length<=33*pre.length/\(pre.flatMap (iX h)).length<=31*pre.length) qs []
  (nG h P cart T pl N S Q a8 (some (.Y (.int m))) (some (.aE (kl lx []))) bU) ⟨a8,bU,by rw[oO,kZ];rfl,cJ _,cJ _⟩ (by
   rintro q x post Q0 eq ⟨b8,gq,rfl,l1,l2⟩;rw[fI] at l1 l2 ⊢;have hx:=hv x (by rw[eq];simp)
   have hq2:qs.length=q.length+(post.length+1):=by rw[eq,dy,hX]
   have sq:=xM (iY h cart pl q m) s;have zS:=IK (cs:=q.flatMap (iX h)) (ks:=[]);rw[rJ] at zS;obtain⟨pW,st⟩:=Zh h P cart T pl ok _ _ sq (by lia) (S++q.map (at' · m)) (by rw[dy,bz];lia) Q (dB [] (q.flatMap (iX h))) (by lia) x hx m gq
   have g1:=Gg ok hx;have g2:=Zf ok (cart:=cart) (pl:=pl) (m:=m) hx;have f1:iY h cart pl (q++[x]) m=iY h cart pl q m++rF h cart pl x m:=by
    unfold iY;rw[List.flatMap_append,List.flatMap_singleton]
   have f2:(q++[x]).flatMap (iX h)=q.flatMap (iX h)++iX h x:=by
    rw[List.flatMap_append,List.flatMap_singleton]
   refine⟨_,by rw[S9,Option.bind_some,st],some (.Y (bT x)),pW,?_,?_,?_⟩
   .rw[f1,f2,FH,OF,iH,uA,gz]
   .rw[f1,dy,dy,jC];lia
   .rw[f2,dy,dy,jC];lia)
 exact⟨b8,gq,e6,l1,l2⟩
def yD(Q:List Pl):List Pl:=dB [] (Q.flatMap (iX h))
theorem LW(ks:List Pl):(kl lx ks).map (·.1.d)=ks.map bT:=by
 unfold kl;rw[lU];exact HV λp _=>(mS (Rz p)).1
theorem Xt(kvs:List (TK×O)):BX [.aE kvs]=some (.lst ((kvs.map (·.1.d)).map .Y)):=rfl
theorem e7g(ok:fZ h)(N:Net)(k:Nat)(s:Sz N k)(S:List Ct)(hS:S.length<100000)(Q:List Pl)(hv:∀p,p∈Q->VP h p)(hq:Q.length<=150)(hk:k<700000)(m:Int)(a8 bN bU:Option O):
  ∃b8 gZ gq,sS (nG h P cart T pl N S Q a8 (some (.Y (.int m))) bN bU)=some (.nx,nG h P cart T pl (cf N (iY h cart pl Q m)) (S++Q.map (at' · m)) (yD h Q) b8 (some (.Y (.int m))) gZ gq)/\(iY h cart pl Q m).length<=33*Q.length:=by
 obtain⟨b8,gq,e,l1,l2⟩:=Zi h P cart T pl ok N k s S hS Q Q hv hq hk m a8 bU;refine⟨b8,some (.aE (kl lx (yD h Q))),gq,?_,l1⟩;have e2:=LW (yD h Q);rw[show dB [] (Q.flatMap (iX h))=yD h Q from rfl] at e;generalize yD h Q=Q' at e e2 ⊢;generalize cf N (iY h cart pl Q m)=N1 at e ⊢;rw[show kl lx []=[] from rfl] at e;unfold nG at e ⊢;unfold sS;simp only[cY,eJ,Fu,↓af,bO,bM,bP,reduceAdd,reduceLT,cy,bK,aX,pS,cU,aV,bg,aW,bX,e,bu,ba,bb,bq,ju,iI,bp,Xt,e2,jy,rR]
def nw:Nat->List Pl
 |0=>P
 |m+1=>yD h (nw m)
def lL:Nat->List (Nd×Nd×Int)
 |0=>P.map (tP pl)
 |m+1=>lL m++iY h cart pl (nw h P m) (m:Int)
def fF:Nat->List Ct
 |0=>[]
 |m+1=>fF m++(nw h P m).map (at' · (m:Int))
end
def rZ(h:aw):List Pl:=h.aO.flatMap λb=>(List.range b.long.toNat).map λ(i:Nat)=>(b.name,(i:Int))
theorem Xu(v:VP h p):p∈rZ h:=by
 obtain⟨b,hb,e,c0,c1⟩:=v;unfold rZ;rw[M7];refine⟨b,hb,?_⟩;rw[gA];refine⟨p.2.toNat,oz.mpr (by lia),?_⟩
 obtain⟨n,c⟩:=p;dsimp only at e c0 ⊢;rw[e,Int.toNat_of_nonneg c0]
theorem Pp:∀bs:List bc,(∀b∈bs,b.long<=20)->(bs.flatMap λb=>(List.range b.long.toNat).map λ(i:Nat)=>(b.name,(i:Int))).length<=20*bs.length
 |[],_=>cJ _
 |b::bs,hb=>by
  have ih:=Pp bs λb m=>hb b (.tail _ m)
  have h1:=hb b (.head _);rw[List.flatMap_cons,dy,bz,mO,hX];lia
theorem RA(ok:fZ h){Q:List Pl}(nd:Q.Nodup)(v:∀p,p∈Q->VP h p):Q.length<=120:=by
 have h1:=vN nd λp m=>Xu (v p m)
 have h2:=Pp h.aO λb hb=>(ok.bk b hb).lg.2
 have h3:=ok.bl.2;have h4:(rZ h).length<=20*h.aO.length:=h2;lia
theorem Cv{h:aw}(ok:fZ h){P:List Pl}(nd:P.Nodup)(v:∀p,p∈P->VP h p):∀m,(nw h P m).Nodup/\∀p,p∈nw h P m->VP h p
 |0=>⟨nd,v⟩
 |m+1=>by
  obtain⟨i1,i2⟩:=Cv ok nd v m;refine⟨Ny (by simp),λp hp=>?_⟩
  rcases jF.mp hp with z|z
  .cases z
  .obtain⟨q,hq,z⟩:=M7.mp z;exact OG ok (i2 q hq) z
theorem Xv{q:List Nat}(e:List.range n=q++x::post):x=q.length:=by
 have h1:(List.range n)[q.length]?=some x:=by rw[e];simp
 rw[MV] at h1
 .injection h1 with h1;exact h1.symm
 .have:=congrArg List.length e;rw[mO,dy,hX] at this;lia
theorem Xw(ok:fZ h)(nd:P.Nodup)(v:∀p,p∈P->VP h p)(cart:Str)(T pl:Int)(n:Nat)(hn:n<=12)(hP:P.length<=20)(b8:Option O)(s0:Sz (cf [(.st,[])] (P.map (tP pl))) 1000):
  ∃c8 c9 ra pW,fz (bj 9) sS (fE 0 n) (nG h P cart T pl (cf [(.st,[])] (lL h P cart pl 0)) [] P b8 none none none)=some (.nx,nG h P cart T pl (cf [(.st,[])] (lL h P cart pl n)) (fF h P n) (nw h P n) c8 c9 ra pW)/\Sz (cf [(.st,[])] (lL h P cart pl n)) (1000+20000*n):=by
 rw[qV];obtain⟨Q0',e6,c8,c9,ra,pW,rfl,sz,sl⟩:=mB (g:=bj 9) (f:=sS) (λ(k:Nat)=>D.int (0+(k:Int))) (λpre Q0=>∃c8 c9 ra pW:Option O,Q0=nG h P cart T pl (cf [(.st,[])] (lL h P cart pl pre.length)) (fF h P pre.length) (nw h P pre.length) c8 c9 ra pW/\Sz (cf [(.st,[])] (lL h P cart pl pre.length)) (1000+20000*pre.length)/\(fF h P pre.length).length<=200*pre.length) (List.range n) []
  (nG h P cart T pl (cf [(.st,[])] (lL h P cart pl 0)) [] P b8 none none none) ⟨b8,none,none,none,rfl,s0,cJ _⟩ (by
   rintro q x post Q0 eq ⟨c8,c9,ra,pW,rfl,sz,sl⟩;rw[fI] at sz sl ⊢;have hx:=Xv eq;subst hx;have hq2:n=q.length+(post.length+1):=by
    have:=congrArg List.length eq;rw[mO,dy,hX] at this;exact this
   rw[dy,jC];obtain⟨o1,o2⟩:=Cv ok nd v q.length;have hl:=RA ok o1 o2;rw[M8];have ee:lL h P cart pl (q.length+1)=lL h P cart pl q.length++iY h cart pl (nw h P q.length) (q.length:Int):=rfl;have es:fF h P (q.length+1)=fF h P q.length++(nw h P q.length).map (at' · (q.length:Int)):=rfl
   have en:nw h P (q.length+1)=yD h (nw h P q.length):=rfl;rw[ee,es,en,FH];generalize(q.length:Int)=mi at *;obtain⟨d8,zE,zF,st,lm⟩:=e7g h P cart T pl ok _ _ sz (fF h P q.length) (by lia) (nw h P q.length) o2 (by lia) (by lia) mi c8 ra pW
   refine⟨_,by rw[nm9,Option.bind_some,st],_,_,_,_,rfl,(xM _ sz).mono (by lia),?_⟩
   rw[dy,bz];lia)
 rw[fI,mO] at *;exact⟨c8,c9,ra,pW,e6,sz⟩
theorem V'(ok:fZ h)(nd:P.Nodup)(v:∀p,p∈P->VP h p)(cart:Str)(T pl:Int)(n:Nat)(hT:T=n)(hn:n<=12)(hP:P.length<=20)(j8:(P.length:Int)+1=pl):
  Fh [bL [(.st,[])],.Y (dZ h),.Y (.lst (P.map bT)),.Y (.str cart),.Y (.int T)]=some (.lst (((fF h P n).map gH).map .Y),[some (bL (cf [(.st,[])] (lL h P cart pl n))),none,none,none,none])/\Sz (cf [(.st,[])] (lL h P cart pl n)) 300000:=by
 have Te:Sz [(Nd.st,([]:qq))] 0:=⟨cJ _,λv i e=>by
  rw[lh] at e;split at e
  .cases e;exact cJ _
  .cases e⟩
 obtain⟨b8,e1⟩:=U9 h P cart T pl [(.st,[])] 0 Te (by lia) [] P P (by lia) none none none
 have s0:=(xM (P.map (tP pl)) Te).mono (j:=1000) (by rw[bz];lia)
 obtain⟨c8,c9,ra,pW,e2,sz⟩:=Xw ok nd v cart T pl n hn hP b8 s0;refine⟨?_,sz.mono (by lia)⟩
 have Dv:((P.map bT).length:Int)+1=pl:=by rw[bz];exact j8
 have hi:gK [.own (.Y (.int T))]=some T:=uO (by lia)
 have ht:T.toNat=n:=by rw[hT];rfl
 rw[show lL h P cart pl 0=P.map (tP pl) from rfl] at e2;generalize cf [(.st,[])] (P.map (tP pl))=N1 at e1 e2;generalize cf [(.st,[])] (lL h P cart pl n)=N2 at e2 ⊢;generalize fF h P n=S at e2 ⊢;generalize nw h P n=Q2 at e2;unfold nG at e1 e2;rw[show([]:List Ct).map gH=[] from rfl,show([]:List D).map O.Y=[] from rfl] at e1 e2;unfold Fh;unfold IH;simp only[gn,eM,eX,bO,bM,bP,reduceAdd,reduceSub,fD,e8,e_,fe,cY,eJ,cU,bu,ba,aV,bg,aW,↓af,bb,bq,br,bp,oY,bX,pR,↓evMap,bI,iA,Dv,reduceLT,cy,bK,aX,fM,reduceLeDiff,eZ,pS,e1,xZ,hi,ht,e2,eG,ua,gY,gw,gy,q_,gE,gp]
inductive iw (h:aw) (P:List Pl) (cart:Str) (n:Nat):Nd->Nd->Bool->Prop
 |s {p:Pl}:p∈P->iw h P cart n .st (.gi (at' p 0)) false
 |g {m:Nat} {p:Pl}:m<n->p∈nw h P m->iw h P cart n (.gi (at' p m)) (.go (at' p m)) true
 |e {m:Nat} {p:Pl}:m<n->p∈nw h P m->cP (.inl cart) (jz h p)=true->iw h P cart n (.go (at' p m)) .en false
 |w {m:Nat} {p q:Pl}:m<n->p∈nw h P m->q∈iX h p->iw h P cart n (.go (at' p m)) (.gi (at' q (m+1))) false
def cp(pl:Int)(b:Bool):Int:=if b=true then 1 else pl
theorem QF{h:aw}{P:List Pl}{cart:Str}{pl:Int}{e:Nd×Nd×Int}:∀{n:Nat},e∈lL h P cart pl n↔e∈P.map (tP pl)\/∃m,m<n/\∃p∈nw h P m,e∈rF h cart pl p m
 |0=>⟨.inl,λz=>z.elim id λ⟨m,hm,_⟩=>bQ hm (Ay _)⟩
 |n+1=>by
  show e∈lL h P cart pl n++iY h cart pl (nw h P n) (n:Int)↔_;rw[eI,QF,or_assoc];unfold iY;rw[M7];constructor
  .rintro(z|⟨m,hm,z⟩|⟨p,hp,z⟩)
   .exact .inl z
   .exact .inr ⟨m,by lia,z⟩
   .exact .inr ⟨n,by lia,p,hp,z⟩
  .rintro(z|⟨m,hm,p,hp,z⟩)
   .exact .inl z
   .by_cases c:m=n
    .subst c;exact .inr (.inr ⟨p,hp,z⟩)
    .exact .inr (.inl ⟨m,by lia,p,hp,z⟩)
theorem eT{r:Int}:(v,w,r)∈lL h P cart pl n↔∃b,iw h P cart n v w b/\r=cp pl b:=by
 rw[QF];constructor
 .rintro(z|⟨m,hm,p,hp,z⟩)
  .obtain⟨p,hp,e⟩:=gA.mp z;unfold tP at e;cases e;exact⟨false,.s hp,rfl⟩
  .unfold rF at z;rcases eC.mp z with z|z
   .cases z;exact⟨true,.g hm hp,rfl⟩
   .rcases eI.mp z with z|z
    .split at z
     .rename_i c
      rw[jD] at z;cases z;exact⟨false,.e hm hp c,rfl⟩
     .cases z
    .obtain⟨q,hq,e⟩:=gA.mp z;cases e;exact⟨false,.w hm hp hq,rfl⟩
 .rintro⟨b,e,rfl⟩;cases e with
  |@s p hp=>exact .inl (gA.mpr ⟨p,hp,rfl⟩)
  |@g m p hm hp=>exact .inr ⟨m,hm,p,hp,.head _⟩
  |@e m p hm hp c=>exact .inr ⟨m,hm,p,hp,by
    unfold rF;refine .tail _ (eI.mpr (.inl ?_));rw[aJ c];exact .head _⟩
  |@w m p q hm hp hq=>exact .inr ⟨m,hm,p,hp,.tail _ (eI.mpr (.inr (gA.mpr ⟨q,hq,rfl⟩)))⟩
theorem mF{m k:Int}(e:at' p m=at' q k):p=q/\m=k:=by
 obtain⟨a,b⟩:=p;obtain⟨c,d⟩:=q;unfold at' at e;injection e with e1 e;injection e with e2 e3;dsimp only at e1 e2;rw[e1,e2];exact⟨rfl,e3⟩
section
variable{h:aw}{P:List Pl}{cart:Str}{n:Nat}
theorem RB{b:Bool}(e:iw h P cart n v w b):v≠w:=by cases e <;> exact λz=>by cases z
def Dz:Nd->Bool
 |.gi _=>true
 |_=>false
theorem KS{b:Bool}(e:iw h P cart n v w b):b=Dz v:=by cases e <;> rfl
theorem Zj{b:Bool}(e:iw h P cart n v w b)(e':iw h P cart n v w b'):b=b':=(KS e).trans (KS e').symm
theorem FI{b:Bool}(e:iw h P cart n v w b)(e':iw h P cart n w v b'):False:=by
 generalize hx:v=x at e';generalize hy:w=y at e';cases e with
 |s _=>cases e' <;> cases hx <;> cases hy
 |@g m p _ _=>
  cases e' with
  |@w m2 p2 q2 _ _ _=>
   injection hx with hx;injection hy with hy;have h1:=(mF hx).2;have h2:=(mF hy).2;lia
  |_=>first|cases hx|cases hy
 |e _ _ _=>cases e' <;> first|cases hx|cases hy
 |@w m p q _ _ _=>
  cases e' with
  |@g m2 p2 _ _=>
   injection hx with hx;injection hy with hy;have h1:=(mF hx).2;have h2:=(mF hy).2;lia
  |_=>first|cases hx|cases hy
end
theorem OI{h:aw}{P:List Pl}{cart:Str}{n:Nat}{pl:Int}:∀(L' L:List (Nd×Nd×Int)) (N:Net),Laid N L->(∀v w r,(v,w,r)∈L++L'->∃b,iw h P cart n v w b/\r=cp pl b)->Laid (cf N L') (L++L')
 |[],L,N,l,_=>by rw[kZ];exact l
 |(a,b,r)::L',L,N,l,hs=>by
  have e:L++(a,b,r)::L'=(L++[(a,b,r)])++L':=by rw[gz];rfl
  rw[e] at hs ⊢;obtain⟨t,et,rt⟩:=hs a b r (eI.mpr (.inl (eI.mpr (.inr (.head _)))));refine OI L' (L++[(a,b,r)]) (fj N a b r) (l.lay (RB et) (λr' m=>?_) λr' m=>?_) hs
  .obtain⟨t',K3,Td⟩:=hs a b r' (eI.mpr (.inl (eI.mpr (.inl m))));rw[rt,Td,Zj et K3]
  .obtain⟨t',K3,Td⟩:=hs b a r' (eI.mpr (.inl (eI.mpr (.inl m))));exact FI et K3
structure Nt (h:aw) (P:List Pl) (cart:Str) (n:Nat) (pl:Int) (N:Net):Prop where
 ok:m_ N
 ar:∀v w,kf N v w↔(∃b,iw h P cart n v w b)\/∃b,iw h P cart n w v b
 rm:∀v w b,iw h P cart n v w b->rr N v w=cp pl b
 rz:∀v w,(∀b,¬iw h P cart n v w b)->rr N v w=0
 ky:∀v,v∈N.map (·.1)↔v=.st\/∃w b,iw h P cart n v w b\/iw h P cart n w v b
theorem e9h(s:Sz (cf [(.st,[])] (lL h P cart pl n)) 300000):Nt h P cart n pl (cf [(.st,[])] (lL h P cart pl n)):=by
 have l:=OI (h:=h) (P:=P) (cart:=cart) (n:=n) (pl:=pl) (lL h P cart pl n) [] [(.st,[])] DD λv w r m=>eT.mp (by simpa using m)
 rw[fI] at l;generalize cf [(.st,[])] (lL h P cart pl n)=N at *;have ar:∀v w,kf N v w↔(∃b,iw h P cart n v w b)\/∃b,iw h P cart n w v b:=λv w=>by
  rw[l.ar];constructor
  .rintro(⟨r,z⟩|⟨r,z⟩)
   .obtain⟨b,e,_⟩:=eT.mp z;exact .inl ⟨b,e⟩
   .obtain⟨b,e,_⟩:=eT.mp z;exact .inr ⟨b,e⟩
  .rintro(⟨b,e⟩|⟨b,e⟩)
   .exact .inl ⟨_,eT.mpr ⟨b,e,rfl⟩⟩
   .exact .inr ⟨_,eT.mpr ⟨b,e,rfl⟩⟩
 have ky:∀v,v∈N.map (·.1)↔v=.st\/∃w b,iw h P cart n v w b\/iw h P cart n w v b:=λv=>by
  rw[l.ky];constructor
  .rintro(z|⟨w,r,z|z⟩)
   .exact .inl z
   .obtain⟨b,e,_⟩:=eT.mp z;exact .inr ⟨w,b,.inl e⟩
   .obtain⟨b,e,_⟩:=eT.mp z;exact .inr ⟨w,b,.inr e⟩
  .rintro(z|⟨w,b,z|z⟩)
   .exact .inl z
   .exact .inr ⟨w,_,.inl (eT.mpr ⟨b,z,rfl⟩)⟩
   .exact .inr ⟨w,_,.inr (eT.mpr ⟨b,z,rfl⟩)⟩
 refine⟨⟨λv w z=>?_,(ky _).mpr (.inl rfl),l.nd,l.ni,by have:=s.l;lia,λv i e=>by have:=s.i v i e;lia⟩,ar,λv w b e=>l.rm v w _ (eT.mpr ⟨b,e,rfl⟩),λv w z=>l.rz v w λr m=>?_,ky⟩
 .rw[ar] at z ⊢;exact z.symm
 .obtain⟨b,e,_⟩:=eT.mp m;exact z b e
def VV(N:Net):List Nd:=(iD N .en).map (·.1)
section
variable{h:aw}{P:List Pl}{cart:Str}{n:Nat}{pl:Int}{N:Net}
theorem Nt.off(t:Nt h P cart n pl N)(z:v∉VV N\/w∉VV N):∀b,¬iw h P cart n v w b:=by
 intro b e;rcases z with z|z
 .exact z ((mC ..).mpr (.inl ((t.ky v).mpr (.inr ⟨w,b,.inl e⟩))))
 .exact z ((mC ..).mpr (.inl ((t.ky w).mpr (.inr ⟨v,b,.inr e⟩))))
theorem Nt.nn(t:Nt h P cart n pl N)(hp:0<=pl)(v w:Nd):0<=rr N v w:=by
 by_cases c:∃b,iw h P cart n v w b
 .obtain⟨b,e⟩:=c;rw[t.rm v w b e];unfold cp;split <;> lia
 .rw[t.rz v w λb e=>c ⟨b,e⟩];exact yY 0
theorem Nt.flo(t:Nt h P cart n pl N)(hp:0<=pl):i8 (VV N) .st .en (rr N) (rr N) where
 nn:=t.nn hp
 an v b:=by lia
 cs v m h1 h2:=zl λb _=>by lia
 sp v b z:=⟨t.rz v b (t.off z),t.rz v b (t.off z)⟩
 ns:=λz=>by cases z
 ms:=(mC ..).mpr (.inl t.ok.st)
 mt:=(mC ..).mpr (.inr rfl)
 nd:=Kn _ t.ok.nd
theorem uW{f g:Nd->Int}:∀{l:List Nd},(∀v,v∈l->f v<=g v)->sm f l<=sm g l
 |[],_=>yY 0
 |v::l,h=>by
  have h1:=h v (.head _);have h2:=uW λv m=>h v (.tail _ m)
  show f v+sm f l<=g v+sm g l;lia
variable{r:Nd->Nd->Int}
theorem Nt.pos(t:Nt h P cart n pl N)(F:i8 (VV N) .st .en (rr N) r)(z:0<rr N v w - r v w):∃b,iw h P cart n v w b:=by
 refine oC λc=>?_
 have e:=t.rz v w λb e=>c ⟨b,e⟩
 have:=F.nn v w;lia
theorem B6{b:Bool}(e:iw h P cart n (.gi c) w b):w=.go c/\b=true/\∃m p,m<n/\p∈nw h P m/\c=at' p m:=by
 generalize hx:Nd.gi c=x at e;cases e with
 |@g m p hm hp=>injection hx with hx;subst hx;exact⟨rfl,rfl,m,p,hm,hp,rfl⟩
 |_=>cases hx
theorem Nt.vt(t:Nt h P cart n pl N)(F:i8 (VV N) .st .en (rr N) r)(z:0<rr N u (.gi c) - r u (.gi c)):rr N u (.gi c) - r u (.gi c)<=rr N (.gi c) (.go c) - r (.gi c) (.go c)/\rr N (.gi c) (.go c) - r (.gi c) (.go c)=1/\r (.gi c) (.go c)=0/\∃m p,m<n/\p∈nw h P m/\c=at' p m:=by
 obtain⟨b,e⟩:=t.pos F z;have hu:u∈VV N:=(mC ..).mpr (.inl ((t.ky u).mpr (.inr ⟨_,b,.inl e⟩)));have hc:Nd.gi c∈VV N:=(mC ..).mpr (.inl ((t.ky _).mpr (.inr ⟨_,b,.inr e⟩)));have cs:=F.cs (.gi c) hc (λz=>by cases z) (λz=>by cases z)
 have ug:u≠.go c:=λq=>by
  rw[q] at e;have hx:=RB e;generalize hx:Nd.go c=x at e;generalize hy:Nd.gi c=y at e;cases e with
  |@w m p q _ _ _=>
   injection hx with hx;injection hy with hy;have:=(mF (hx.symm.trans hy)).2;lia
  |_=>first|(cases hy;done)|(cases hx;done)
 have an:=F.an u (.gi c);have key:sm (λb=>rr N (.gi c) b - r (.gi c) b) (VV N)<=sm (λb=>(if b=.go c then rr N (.gi c) (.go c) - r (.gi c) (.go c) else 0)+(if b=u then rr N (.gi c) u - r (.gi c) u else 0)) (VV N):=uW λb _=>by
  by_cases c1:b=.go c
  .rw[aJ c1,aQ (λq=>ug (q.symm.trans c1)),c1];lia
  .rw[aQ c1];by_cases c2:b=u
   .rw[aJ c2,c2];lia
   .rw[aQ c2];refine M9.mp λq=>?_
    obtain⟨b',e'⟩:=t.pos F (v:=.gi c) (w:=b) (by lia)
    exact c1 (B6 e').1
 rw[cs,uU,qw _ F.nd,qw _ F.nd,aJ hu] at key;by_cases m:Nd.go c∈VV N
 .rw[aJ m] at key;obtain⟨b',e'⟩:=t.pos F (v:=.gi c) (w:=.go c) (by lia)
  obtain⟨_,rfl,mp⟩:=B6 e';have h1:=t.rm _ _ _ e';have h2:=F.nn (.gi c) (.go c);have h3:cp pl true=1:=rfl;exact⟨by lia,by lia,by lia,mp⟩
 .rw[aQ m] at key;lia
theorem Nt.on(t:Nt h P cart n pl N)(F:i8 (VV N) .st .en (rr N) r)(z:0<rr N (.gi c) (.go c) - r (.gi c) (.go c)):∃w,0<rr N (.go c) w - r (.go c) w:=by
 obtain⟨b,e⟩:=t.pos F z;have hc:Nd.go c∈VV N:=(mC ..).mpr (.inl ((t.ky _).mpr (.inr ⟨_,b,.inr e⟩)));have hg:Nd.gi c∈VV N:=(mC ..).mpr (.inl ((t.ky _).mpr (.inr ⟨_,b,.inl e⟩)));have cs:=F.cs (.go c) hc (λz=>by cases z) (λz=>by cases z)
 refine oC λq=>?_
 have an:=F.an (.gi c) (.go c);have key:sm (λb=>rr N (.go c) b - r (.go c) b) (VV N)<=sm (λb=>if b=.gi c then rr N (.go c) (.gi c) - r (.go c) (.gi c) else 0) (VV N):=uW λb _=>by
  by_cases c1:b=.gi c
  .rw[aJ c1,c1];exact yY _
  .rw[aQ c1];exact M9.mp λy=>q ⟨b,y⟩
 rw[cs,qw _ F.nd,aJ hg] at key;lia
theorem Nt.from(t:Nt h P cart n pl N)(F:i8 (VV N) .st .en (rr N) r)(w:Nd):0<=rr N .st w - r .st w:=by
 refine M9.mp λq=>?_
 have an:=F.an .st w;obtain⟨b,e⟩:=t.pos F (v:=w) (w:=.st) (by lia)
 generalize hx:Nd.st=x at e;cases e <;> cases hx
theorem e7h{b:Bool}(e:iw h P cart n .st w b):∃p∈P,w=.gi (at' p 0):=by
 generalize hx:Nd.st=x at e;cases e with
 |@s p hp=>exact⟨p,hp,rfl⟩
 |_=>cases hx
theorem RC{g:Nd->Int}:∀{W V:List Nd},W.Nodup->V.Nodup->(∀v,v∈W->v∈V)->(∀v,v∈V->v∉W->g v=0)->sm g V=sm g W
 |[],V,_,_,_,hz=>zl λv m=>hz v m (by simp)
 |x::W,V,nW,nV,hs,hz=>by
  rw[hU] at nW;have e:=FE g (λv=>decide (v=x)) V
  have e1:sm g (V.filter λv=>decide (v=x))=g x:=by
   have a:sm g (V.filter λv=>decide (v=x))=sm (λv=>if v=x then g x else 0) (V.filter λv=>decide (v=x)):=rO λv m=>by
    have:=(jB.mp m).2;rw[decide_eq_true_eq] at this;rw[aJ this,this]
   rw[a,qw _ (nV.filter _),aJ (jB.mpr ⟨hs x (.head _),fY rfl⟩)]
  have e2:=RC (g:=g) (W:=W) (V:=V.filter λv => !decide (v=x)) nW.2 (nV.filter _) (λv m=>jB.mpr ⟨hs v (.tail _ m),by
   have:v≠x:=λq=>nW.1 (by rw[<-q];exact m)
   simp[this]⟩) (λv m hv=>by
   obtain⟨m1,m2⟩:=jB.mp m;have:v≠x:=by simpa using m2
   exact hz v m1 λq=>by
    rcases eC.mp q with q|q
    .exact this q
    .exact hv q)
  show sm g V=g x+sm g W;lia
def used(N:Net)(r:Nd->Nd->Int)(p:Pl):Bool:=decide (0<rr N .st (.gi (at' p 0)) - r .st (.gi (at' p 0)))
theorem Kp{α:Type}(f:α->Nd)(g:Nd->Int)(q:α->Bool):∀l:List α,(∀a,a∈l->g (f a)=if q a=true then 1 else 0)->sm g (l.map f)=((l.filter q).length:Int)
 |[],_=>rfl
 |a::l,hg=>by
  have ih:=Kp f g q l λa m=>hg a (.tail _ m)
  have h1:=hg a (.head _);show g (f a)+sm g (l.map f)=_;rw[ih,h1,Al];cases q a with
  |true=>
   show(1:Int)+_=((a::l.filter q).length:Int);rw[hX];lia
  |false=>
   show(0:Int)+_=_;rw[M8];rfl
theorem Nt.value(t:Nt h P cart n pl N)(nd:P.Nodup)(F:i8 (VV N) .st .en (rr N) r):ex (VV N) (rr N) r .st=((P.filter (used N r)).length:Int):=by
 unfold ex;have wH:∀v,v∈P.map (λp=>Nd.gi (at' p 0))->v∈VV N:=λv m=>by
  obtain⟨p,hp,rfl⟩:=gA.mp m;exact(mC ..).mpr (.inl ((t.ky _).mpr (.inr ⟨_,_,.inr (.s hp)⟩)))
 have hnd:(P.map λp=>Nd.gi (at' p 0)).Nodup:=List.Pairwise.map _ (λa b j7 e=>j7 (by injection e with e;exact(mF e).1)) nd
 rw[RC hnd F.nd wH λv _ hv=>?_]
 .refine Kp _ _ _ P λp hp=>?_
  have h0:=t.from F (.gi (at' p 0));unfold used;by_cases c:0<rr N .st (.gi (at' p 0)) - r .st (.gi (at' p 0))
  .rw[fY c,aJ rfl];obtain⟨k1,k2,_⟩:=t.vt F c;lia
  .rw[iu c,aQ (by simp)]
   lia
 .have h0:=t.from F v;refine oC λq=>?_
  obtain⟨b,e⟩:=t.pos F (v:=.st) (w:=v) (by lia)
  obtain⟨p,hp,rfl⟩:=e7h e;exact hv (gA.mpr ⟨p,hp,rfl⟩)
theorem Nt.most(t:Nt h P cart n pl N)(nd:P.Nodup)(F:i8 (VV N) .st .en (rr N) r):ex (VV N) (rr N) r .st<=(P.length:Int):=by
 rw[t.value nd F];have:=M_ (used N r) P;lia
end
def HI:GT:=gT (gB sX (gB bB (gB bB (aa 2) (aa 0)) (aa 1)) (gC (.int 0)))
theorem Zk{j:qq}{x:Int}{a:Option O}(e1:lk N w=some j)(e2:lk j b=some x):
  rM (bj 0) HI (aa 0) (aL w) [a,some (.Y (aL b)),some (.Y (cX N))]=some (if decide (0<rr N w b)=true then some (.own (.Y (aL w))) else none,[some (.Y (aL w)),some (.Y (aL b)),some (.Y (cX N))]):=by
 have f1:=xV e1;have f2:=Cu e2;rw[zC e1,e2];show _=some (if decide (0<x)=true then _ else _,_)
 unfold rM HI;cases c:decide (0<x) with
 |true=>simp only[iz,bO,bM,bP,reduceAdd,reduceLT,bK,aX,↓af,cH,bu,ba,aV,bg,aW,bb,bq,br,bp,cG,f1,f2,bI,fN,c]
 |false=>simp only[iz,bO,bM,bP,reduceAdd,reduceLT,bK,aX,↓af,cH,bu,ba,aV,bg,aW,bb,bq,br,bp,cG,f1,f2,bI,fN,c,cR,bS]
theorem Zl(ok:m_ N)(hw:∃w,kf N b w/\0<rr N w b):∃w,kf N b w/\0<rr N w b/\xI [.Y (cX N),.Y (aL b)]=some (.Y (aL w),[none,none]):=by
 obtain⟨w0,⟨i,ei,n0,en0⟩,hp0⟩:=hw;have il:=ok.il b i ei;obtain⟨Q0',⟨a,rfl⟩,e⟩:=vT (g:=bj 0) (ct:=HI) (ce:=aa 0) (λQ0=>∃a,Q0=[a,some (.Y (aL b)),some (.Y (cX N))]) (λe:Nd×Int=>aL e.1) (λe=>decide (0<rr N e.1 b)) (λe=>aL e.1) i [] [none,some (.Y (aL b)),some (.Y (cX N))] ⟨_,rfl⟩ (by rw[rJ];lia) (by
  rintro⟨w,x⟩ hx Q0 ⟨a,rfl⟩;obtain⟨j,ej,y,ey⟩:=ok.sy b w ⟨i,ei,x,KQ (ok.ni b i ei) hx⟩;exact⟨_,Zk ej ey,_,rfl⟩)
 rw[fI,show([]:List D).map O.Y=[] from rfl] at e;have f1:=xV ei;have f2:(o9 i).map (·.1.d)=i.map λe=>aL e.1:=by
  unfold o9;rw[Pm];exact HV λe _=>KO e.1
 have me:JD=aR (ak 2 (av (kJ (tN (gB bB (aa 0) (aa 1))) (bj 0) HI (aa 0) 1 [1,0]))) (aP (gB bB (aa 2) (gC (.int 0)))):=rfl;cases q:i.filter λe=>decide (0<rr N e.1 b) with
 |nil=>
  have:(w0,n0)∈i.filter λe=>decide (0<rr N e.1 b):=jB.mpr ⟨KR en0,fY hp0⟩
  rw[q] at this;cases this
 |cons x xs=>
  obtain⟨w,y⟩:=x;have hm:(w,y)∈i.filter λe=>decide (0<rr N e.1 b):=by rw[q];exact .head _
  obtain⟨m1,m2⟩:=jB.mp hm;refine⟨w,⟨i,ei,y,KQ (ok.ni b i ei) m1⟩,by simpa using m2,?_⟩
  rw[q,cS] at e;unfold xI;rw[me];simp only[gn,eM,eX,bO,bM,bP,reduceAdd,reduceSub,fD,e8,e_,fe,cY,eJ,cU,oU,YF,bu,ba,aV,aW,↓af,bg,bb,bq,br,bp,cG,f1,bX,f2,t7,iI,cy,bK,pM,e,qP,pH,t8,pO,aX,jy,ia,rR,reduceLT,eG,bI,jS,lG,↓evMap,gY,gw,gy,gE,gp]
inductive tX (N:Net) (r:Nd->Nd->Int):Ct->List Pl->Prop
 |last {c:Ct}:0<rr N (.go c) .en - r (.go c) .en->tX N r c [(c.1,c.2.1)]
 |step {c d:Ct} {t:List Pl}:0<rr N (.go c) (.gi d) - r (.go c) (.gi d)->tX N r d t->tX N r c ((c.1,c.2.1)::t)
theorem Kq{b:Bool}(e:iw h P cart n (.go c) w b):∃m p,m<n/\p∈nw h P m/\c=at' p m/\(w=.en/\cP (.inl cart) (jz h p)=true\/∃q∈iX h p,w=.gi (at' q (m+1))):=by
 generalize hx:Nd.go c=x at e;cases e with
 |@e m p hm hp z=>injection hx with hx;exact⟨m,p,hm,hp,hx,.inl ⟨rfl,z⟩⟩
 |@w m p q hm hp hq=>injection hx with hx;exact⟨m,p,hm,hp,hx,.inr ⟨q,hq,rfl⟩⟩
 |_=>cases hx
theorem Xx(t:Nt h P cart n pl N)(F:i8 (VV N) .st .en (rr N) (rr N'))(hs:iF N'=iF N)(z:0<rr N (.gi c) (.go c) - rr N' (.gi c) (.go c)):
  ∃w,0<rr N (.go c) w - rr N' (.go c) w/\xI [.Y (cX N'),.Y (aL (.go c))]=some (.Y (aL w),[none,none]):=by
 have ha:∀v w,kf N' v w↔kf N v w:=λv w=>by rw[ub,ub,hs]
 obtain⟨w0,h0⟩:=t.on F z;obtain⟨b0,e0⟩:=t.pos F h0;have an0:=F.an (.go c) w0;have z0:=t.rz w0 (.go c) λb e=>FI e0 e
 obtain⟨w,a1,a2,a3⟩:=Zl (t.ok.same hs) (b:=.go c) ⟨w0,(ha ..).mpr ((t.ar ..).mpr (.inl ⟨b0,e0⟩)),by lia⟩
 refine⟨w,?_,a3⟩;rcases(t.ar ..).mp ((ha ..).mp a1) with⟨b,e⟩|⟨b,e⟩
 .have z1:=t.rz w (.go c) λb e'=>FI e e'
  have an:=F.an (.go c) w;lia
 .
  have hw:w=.gi c:=by
   generalize hx:Nd.go c=x at e;cases e with
   |g _ _=>injection hx with hx;rw[hx]
   |_=>cases hx
  subst hw;have h1:=t.rm _ _ _ e;have hb:=KS e;subst hb;have h2:cp pl (Dz (.gi c))=1:=rfl;lia
def wB:GT:=gT (gB dM (aa 4) (gC (.str "the end")))
def wA:GS:=aR (ak 5 (gB bB (aa 4) (gC (.int 0))))
 (aR (jw (fA pQ (aa 3) (ai (av (bA .tup (ai (gB bB (aa 5) (gC (.int 0))) (ai (gB bB (aa 5) (gC (.int 1))) gN)))) gN)))
 (ak 4 (av (aI xI (ai (aa 0) (ai (av (bA .tup (ai (aa 5) (ai (gC (.str "out of")) gN)))) gN))))))
def lY(N:Net)(a1:Option O)(cart:Str)(t:List Pl)(g:Nd)(a5:Option O):Gm:=[some (.Y (cX N)),a1,some (fS cart),some (.lst ((t.map bT).map .Y)),some (.Y (aL g)),a5]
theorem R9(n:Nat)(c:Ct):cQ (n+1) (gH c)=true:=by
 show([D.str c.1,.int c.2.1,.int c.2.2]:List D).all (cQ n)=true;simp only[rH,HW,qx,mT,uz]
theorem e9i(n:Nat)(v:Nd):cQ (n+2) (aL v)=true:=by
 cases v with
 |st=>exact qx ..
 |en=>exact qx ..
 |gi c=>
  show([gH c,D.str "into"]:List D).all (cQ (n+1))=true;simp only[rH,HW,qx,R9,uz]
 |go c=>
  show([gH c,D.str "out of"]:List D).all (cQ (n+1))=true;simp only[rH,HW,qx,R9,uz]
theorem e9j(c:Ct):dM [.Y (aL (.gi c)),.Y (.str "the end")]=some (.Y (.bl true)):=by
 rw[J8,bX,bX,aJ ⟨e9i 38 _,qx ..⟩];show some (O.Y (.bl (!aU (.tup _) (.str _))))=_;unfold aU;rfl
theorem e9k:dM [.Y (aL .en),.Y (.str "the end")]=some (.Y (.bl false)):=by
 show dM [.Y (.str "the end"),.Y (.str "the end")]=_;rw[ω,pJ];rfl
theorem e9l(N:Net)(a1:Option O)(cart:Str)(t:List Pl)(c:Ct)(a5:Option O):wB (lY N a1 cart t (.gi c) a5)=some (true,lY N a1 cart t (.gi c) a5):=by
 have f:=e9j c;unfold wB lY;simp only[cH,bu,ba,aV,bg,aW,↓af,bI,bb,bq,br,bp,f]
theorem e9m(N:Net)(a1:Option O)(cart:Str)(t:List Pl)(a5:Option O):wB (lY N a1 cart t .en a5)=some (false,lY N a1 cart t .en a5):=by
 have f:=e9k;unfold wB lY;simp only[cH,bu,ba,aV,bg,aW,↓af,bI,bb,bq,br,bp,f]
theorem e7j(c:Ct):eE (.Y (gH c)) (.int 0)=some (.Y (.str c.1)):=rfl
theorem e7k(c:Ct):eE (.Y (gH c)) (.int 1)=some (.Y (.int c.2.1)):=rfl
theorem plF(c:Ct):D.tup [.str c.1,.int c.2.1]=bT (c.1,c.2.1):=rfl
theorem Zm(N:Net)(a1:Option O)(cart:Str)(t:List Pl)(ht:t.length<1000)(c:Ct)(w:Nd)(a5:Option O)(e:xI [.Y (cX N),.Y (aL (.go c))]=some (.Y (aL w),[none,none])):
  wA (lY N a1 cart t (.gi c) a5)=some (.nx,lY N a1 cart (t++[(c.1,c.2.1)]) w (some (.Y (gH c)))):=by
 have c1:((t.map bT).length<1000000)=True:=ku (by rw[bz];lia)
 unfold wA lY;rw[iH (f:=bT),uA];simp only[cY,eJ,bu,ba,aV,bg,aW,↓af,bI,bb,bq,br,bp,cG,R8,bO,bM,bP,reduceAdd,reduceLT,cy,bK,aX,jP,lV,cU,fM,e7j,e7k,reduceLeDiff,gD,eZ,jU,ia,bX,h_,plF,q8,c1,gc,Dd,gb,f_,e,gR,gQ]
theorem QG{h:aw}{P:List Pl}{cart:Str}{n:Nat}{pl:Int}{N N':Net}(t:Nt h P cart n pl N)(F:i8 (VV N) .st .en (rr N) (rr N'))(hs:iF N'=iF N)(a1:Option O):∀(j m:Nat) (p:Pl) (K:Nat) (ax:List Pl) (a5:Option O),n=m+j->j<K->ax.length+j<1000->0<rr N (.gi (at' p m)) (.go (at' p m)) - rr N' (.gi (at' p m)) (.go (at' p m))->
  ∃w b5,tX N (rr N') (at' p m) w/\w.length<=j/\iT wB wA K (lY N' a1 cart ax (.gi (at' p m)) a5)=some (.nx,lY N' a1 cart (ax++w) .en b5)
 |0,m,p,K,ax,a5,en,hK,hl,z=>by
  obtain⟨b,e⟩:=t.pos F z;obtain⟨_,_,m',p',hm,_,ec⟩:=B6 e;have:=(mF ec).2;lia
 |j+1,m,p,0,ax,a5,en,hK,hl,z=>bQ hK (Ay _)
 |j+1,m,p,K+1,ax,a5,en,hK,hl,z=>by
  obtain⟨w,hw,ew⟩:=Xx t F hs z;have f1:=e9l N' a1 cart ax (at' p m) a5;have f2:=Zm N' a1 cart ax (by lia) (at' p m) w a5 ew
  obtain⟨b,e⟩:=t.pos F hw;obtain⟨m',p',hm,hp,ec,Dt⟩:=Kq e;obtain⟨rfl,em⟩:=mF ec;have em:m=m':=by lia
  subst em;rcases Dt with⟨rfl,_⟩|⟨q,hq,rfl⟩
  .refine⟨[(p.1,p.2)],some (.Y (gH (at' p m))),.last hw,by rw[jC];lia,?_⟩
   have f3:=e9m N' a1 cart (ax++[(p.1,p.2)]) (some (.Y (gH (at' p m))));have f2:wA (lY N' a1 cart ax (.gi (at' p m)) a5)=some (.nx,lY N' a1 cart (ax++[(p.1,p.2)]) .en (some (.Y (gH (at' p m))))):=f2;obtain⟨K',rfl⟩:∃K',K=K'+1:=⟨K - 1,by lia⟩
   rw[iT];simp only[f1,↓af,f2,aX];rw[iT];simp only[f3,↓af,cR,bS]
  .have ez:((m:Int)+1)=((m+1:Nat):Int):=rfl;rw[ez] at hw f2;obtain⟨_,k2,_⟩:=t.vt F hw;obtain⟨w2,b5,q1,q2,q3⟩:=QG t F hs a1 j (m+1) q K (ax++[(p.1,p.2)]) (some (.Y (gH (at' p m)))) (by lia) (by lia) (by rw[dy,jC];lia) (by lia)
   refine⟨(p.1,p.2)::w2,b5,.step hw q1,by rw[hX];lia,?_⟩
   have f2:wA (lY N' a1 cart ax (.gi (at' p m)) a5)=some (.nx,lY N' a1 cart (ax++[(p.1,p.2)]) (.gi (at' q ((m+1:Nat):Int))) (some (.Y (gH (at' p m))))):=f2;rw[gz] at q3;have q3:iT wB wA K (lY N' a1 cart (ax++[(p.1,p.2)]) (.gi (at' q ((m+1:Nat):Int))) (some (.Y (gH (at' p m)))))=some (.nx,lY N' a1 cart (ax++(p.1,p.2)::w2) .en b5):=q3;rw[<-q3,iT];simp only[f1,↓af,f2,aX]
theorem U_(t:Nt h P cart n pl N)(F:i8 (VV N) .st .en (rr N) (rr N'))(hs:iF N'=iF N)(hn:n<=12)(p:Pl)(z:0<rr N (.gi (at' p 0)) (.go (at' p 0)) - rr N' (.gi (at' p 0)) (.go (at' p 0))):
  ∃w,tX N (rr N') (at' p 0) w/\w.length<=12/\Bd [.Y (cX N'),.Y (aL (.gi (at' p 0))),.Y (.str cart)]=some (.lst ((w.map bT++[D.str cart]).map .Y),[none,none,none]):=by
 obtain⟨w,b5,q1,q2,q3⟩:=QG t F hs (some (.Y (aL (.gi (at' p 0))))) n 0 p 1000000 [] none (by lia) (by lia) (by rw[rJ];lia) z
 refine⟨w,q1,by lia,?_⟩
 have q3:iT wB wA 1000000 (lY N' (some (.Y (aL (.gi (at' p 0))))) cart [] (.gi (at' p 0)) none)=some (.nx,lY N' (some (.Y (aL (.gi (at' p 0))))) cart w .en b5):=q3;have me:Io=aR (ak 3 (bA .lst gN)) (aR (ak 4 (aa 1)) (aR (iT wB wA 1000000) (aP (gB b_ (aa 3) (bA .lst (ai (aa 2) gN)))))):=rfl;unfold lY at q3;rw[show([]:List Pl).map bT=[] from rfl,show([]:List D).map O.Y=[] from rfl] at q3;have c1:((w.map bT).length+1<=1000000)=True:=ku (by rw[bz];lia)
 unfold Bd;rw[me];simp only[gn,eM,eX,bO,bM,bP,reduceAdd,reduceSub,fD,e8,e_,fe,cY,eJ,fM,bb,↓af,reduceLeDiff,eZ,aX,reduceLT,cy,bK,aV,bg,aW,q3,eG,bu,ba,gD,bq,ju,iI,br,bp,FV,Gw,y8,J7,J6,c1,gY,gw,gy,gE,gp]
theorem R_(i:Nat)(f:GS)(Q0:Gm):sx i f Q0=match Q0[i]? with
 |some (some o)=>f (Q0.set i (some (.Y o.d)))
 |_=>none:=rfl
def lu(h:aw)(P:List Pl)(cart:Str)(T:Int)(N:Net)(S:List Ct)(l:cK)(W:List D)(a8 a9 bN bU:Option O):Gm:=
 [some (.Y (dZ h)),some (.Y (.lst (P.map bT))),some (fS cart),some (.Y (.int T)),some (.Y (cX N)),some (.Y (.lst (S.map gH))),some (.Y (.aE (dF l))),some (.lst (W.map .Y)),a8,a9,bN,bU]
section
variable(h:aw)(P:List Pl)(cart:Str)(T:Int)(N:Net)(S:List Ct)(l:cK)
theorem e9n{x:Int}(e1:lk N v=some i)(e2:lk i .st=some x)(hx:¬0<x)(W:List D)(a8 a9 bU:Option O):zX (lu h P cart T N S l W a8 a9 (some (.Y (aL v))) bU)=some (.nx,lu h P cart T N S l W a8 a9 (some (.Y (aL v))) bU):=by
 have f1:=xV e1;have f2:=Cu e2;rw[show aL .st=.str "the start" from rfl] at f2;have f3:decide ((0:Int)<x)=false:=iu hx;unfold zX lu;simp only[dh,cH,bu,ba,aV,bg,aW,↓af,bb,bq,br,bp,cG,f1,bI,f2,fN,f3,aX,cR,jP,lV,cU,fM,dA,bS]
theorem e7m{x:Int}(e1:lk N v=some i)(e2:lk i .st=some x)(hx:0<x)(ki:Int)(ds:List D)(e3:Bd [.Y (cX N),.Y (aL v),.Y (.str cart)]=some (.lst (ds.map .Y),[none,none,none]))(W:List D)(hW:W.length<1000)(a9 bU:Option O):zX (lu h P cart T N S l W (some (.Y (.int ki))) a9 (some (.Y (aL v))) bU)=some (.nx,lu h P cart T N S l (W++[.tup [.int ki,.lst ds]]) (some (.Y (.int ki))) a9 (some (.Y (aL v))) bU):=by
 have f1:=xV e1;have f2:=Cu e2;rw[show aL .st=.str "the start" from rfl] at f2;have f3:decide ((0:Int)<x)=true:=fY hx;have c1:(W.length<1000000)=True:=ku (by lia)
 unfold zX lu;simp only[dh,cH,bu,ba,aV,bg,aW,↓af,bb,bq,br,bp,cG,f1,bI,f2,fN,f3,aX,jP,lV,cU,fM,gc,bX,gb,f_,e3,gR,gQ,jy,rR,bO,bM,bP,reduceAdd,reduceLeDiff,gD,eZ,jU,ia,h_,q8,c1,cy,bK,dA]
theorem QH(W:List D)(p:Pl)(a8 bN bU:Option O):yv (lu h P cart T N S l W a8 (some (.Y (bT p))) bN bU)=zX (lu h P cart T N S l W a8 (some (.Y (bT p))) (some (.Y (aL (.gi (at' p 0))))) bU):=by
 have e1:=Gh p 0;unfold yv lu;simp only[cY,eJ,cU,gc,ba,aV,bg,aW,↓af,bI,bb,gb,f_,e1,gR,gQ,jU,ia,bX,h_,yj,bO,bM,bP,reduceAdd,reduceLT,cy,bK,aX]
theorem DN(W:List D)(ki:Int)(d:D)(a8 a9 bN bU:Option O):gr [(bj 8),(bj 9)] (.tup [.int ki,d]) (lu h P cart T N S l W a8 a9 bN bU)=some (lu h P cart T N S l W (some (.Y (.int ki))) (some (.Y d)) bN bU):=by
 unfold lu;simp only[JB,Ja,iz,bO,bM,bP,reduceAdd,reduceLT,cy,bK,aX,↓af,I_]
theorem e7n(hS:S.length<100000)(W:List D)(a8 a9 bN bU:Option O):LP (lu h P cart T N S l W a8 a9 bN bU)=some (.own (.lst (((S.filter λc=>decide (Nd.gi c∈l.map (·.1)) && !decide (Nd.go c∈l.map (·.1))).map gH).map .Y)),lu h P cart T N S l W a8 a9 bN bU):=by
 obtain⟨Q0',⟨a,rfl⟩,e⟩:=vT (g:=bj 0) (ct:=LQ) (ce:=aa 0) (λQ0=>∃a,Q0=[a,some (.Y (.aE (dF l)))]) gH (λc=>decide (Nd.gi c∈l.map (·.1)) && !decide (Nd.go c∈l.map (·.1))) gH S [] [none,some (.Y (.aE (dF l)))] ⟨_,rfl⟩ (by rw[rJ];lia) (by
  rintro c hc Q0 ⟨a,rfl⟩;refine⟨[some (.Y (gH c)),some (.Y (.aE (dF l)))],?_,_,rfl⟩;have f1:=Jn false l (.gi c) _ (ER (p:=Nd.gi c∈l.map (·.1)))
  have f2:=Jn true l (.go c) _ (ER (p:=Nd.go c∈l.map (·.1)))
  generalize decide (Nd.gi c∈l.map (·.1))=b1 at f1 ⊢
  generalize decide (Nd.go c∈l.map (·.1))=b2 at f2 ⊢
  unfold rM LQ;cases b1 with
  |true=>
   cases b2 with
   |true=>simp only[iz,bO,bM,bP,reduceAdd,reduceLT,bK,aX,↓af,lJ,cH,bu,ba,cU,fM,aV,aW,bI,bb,reduceLeDiff,gD,eZ,jU,ia,bX,h_,yj,bg,bq,br,bp,f1,cR,iL,bS,Dd,f2,Ao]
   |false=>simp only[iz,bO,bM,bP,reduceAdd,reduceLT,bK,aX,↓af,lJ,cH,bu,ba,cU,fM,aV,aW,bI,bb,reduceLeDiff,gD,eZ,jU,ia,bX,h_,yj,bg,bq,br,bp,f1,cR,bS,Dd,f2,lD,HQ]
  |false=>simp only[iz,bO,bM,bP,reduceAdd,reduceLT,bK,aX,↓af,lJ,cH,bu,ba,cU,fM,aV,aW,bI,bb,reduceLeDiff,gD,eZ,jU,ia,bX,h_,yj,bg,bq,br,bp,f1,cR,bS,Dd,vD])
 rw[fI,show([]:List D).map O.Y=[] from rfl] at e;generalize(S.filter λc=>decide (Nd.gi c∈l.map (·.1)) && !decide (Nd.go c∈l.map (·.1)))=C at e ⊢
 unfold LP lu;simp only[oU,vZ,cU,aV,bg,aW,↓af,bX,fD,e8,t7,iI,cy,bK,pM,e_,fe,e,bO,bM,bP,reduceAdd,qP,pH,t8,pO,aX]
end
def pY:Nat->List Pl->List (Nat×Pl)
 |_,[]=>[]
 |k,p::ps=>(k,p)::pY (k+1) ps
def CG(x:Nat×Pl):D:=.tup [.int (x.1:Int),bT x.2]
theorem QI:∀(ps:List Pl) (k:Nat),(List.range' k ps.length).zipWith (λ(i:Nat) d=>D.tup [.int i,d]) (ps.map bT)=(pY k ps).map CG
 |[],k=>rfl
 |p::ps,k=>by
  have ih:=QI ps (k+1);show(List.range' k (ps.length+1)).zipWith _ (bT p::ps.map bT)=CG (k,p)::(pY (k+1) ps).map CG;rw[List.range'_succ,List.zipWith_cons_cons,ih];rfl
theorem Zn(ps:List Pl):jV (ps.map bT)=(pY 0 ps).map CG:=by
 unfold jV;rw[bz,List.range_eq_range',QI]
theorem Gi:∀(ps:List Pl) (k:Nat),(pY k ps).map (·.2)=ps
 |[],_=>rfl
 |p::ps,k=>by
  show p::(pY (k+1) ps).map (·.2)=_
  rw[Gi ps (k+1)]
structure Way (N:Net) (r:Nd->Nd->Int) (cart:Str) (x:Nat×Pl) (d:D):Prop where
 w:∃w,tX N r (at' x.2 0) w/\d=.tup [.int (x.1:Int),.lst (w.map bT++[D.str cart])]
theorem Xy{α β:Type}{R:α->β->Prop}{a a':List α}{b b':List β}(p:Paired R a b)(q:Paired R a' b'):Paired R (a++a') (b++b'):=by
 induction p with
 |nil=>exact q
 |cons h _ ih=>exact .cons h ih
theorem Zo(t:Nt h P cart n pl N)(F:i8 (VV N) .st .en (rr N) (rr N'))(hs:iF N'=iF N)(hn:n<=12)(hP:P.length<=20)(T:Int)(S:List Ct)(l:cK):
  ∃W b8 b9 gZ,fz (gr [(bj 8),(bj 9)]) yv (jV (P.map bT)) (lu h P cart T N' S l [] none none none none)=some (.nx,lu h P cart T N' S l W b8 b9 gZ none)/\Paired (Way N (rr N') cart) ((pY 0 P).filter λx=>used N (rr N') x.2) W:=by
 rw[Zn];obtain⟨Q0',e,W,b8,b9,gZ,rfl,pr⟩:=mB (g:=gr [(bj 8),(bj 9)]) (f:=yv) CG (λpre Q0=>∃(W:List D) (b8 b9 gZ:Option O),Q0=lu h P cart T N' S l W b8 b9 gZ none/\Paired (Way N (rr N') cart) (pre.filter λx=>used N (rr N') x.2) W) (pY 0 P) []
  (lu h P cart T N' S l [] none none none none) ⟨[],none,none,none,rfl,.nil⟩ (by
   rintro q ⟨k,p⟩ post Q0 eq ⟨W,b8,b9,gZ,rfl,pr⟩;rw[fI] at pr ⊢;have hp:p∈P:=by
    rw[<-Gi P 0,eq];simp
   have hW:W.length<=20:=by
    have h1:=Paired.length pr;have h2:=M_ (λx:Nat×Pl=>used N (rr N') x.2) q
    have h3:=congrArg List.length eq;have h4:=congrArg List.length (Gi P 0);rw[bz] at h4;rw[dy,hX] at h3;lia
   have e0:iw h P cart n .st (.gi (at' p 0)) false:=.s hp;have ha:kf N' (.gi (at' p 0)) .st:=by
    rw[ub,hs,<-ub,t.ar];exact .inr ⟨_,e0⟩
   obtain⟨i,ei,x,ex⟩:=ha;have hx:x=rr N .st (.gi (at' p 0)) - rr N' .st (.gi (at' p 0)):=by
    have h1:rr N' (.gi (at' p 0)) .st=x:=by rw[zC ei,ex];rfl
    have h2:=F.an .st (.gi (at' p 0));have h3:=t.rz (.gi (at' p 0)) .st λb e=>FI e0 e
    lia
   by_cases c:0<x
   .have hu:used N (rr N') p=true:=fY (by rw[<-hx];exact c)
    obtain⟨_,k2,_⟩:=t.vt F (u:=.st) (c:=at' p 0) (by rw[<-hx];exact c)
    obtain⟨w,q1,q2,q3⟩:=U_ t F hs hn p (by lia)
    have st:=e7m h P cart T N' S l ei ex c (k:Int) (w.map bT++[D.str cart]) q3 W (by lia) (some (.Y (bT p))) none
    refine⟨lu h P cart T N' S l (W++[.tup [.int (k:Int),.lst (w.map bT++[D.str cart])]]) (some (.Y (.int (k:Int)))) (some (.Y (bT p))) (some (.Y (aL (.gi (at' p 0))))) none,?_,_,_,_,_,rfl,?_⟩
    .show(gr _ (.tup [.int (k:Int),bT p]) _).bind yv=_;rw[DN,Option.bind_some,QH,st]
    .rw[List.filter_append,Al,hu];exact Xy pr (.cons ⟨w,q1,rfl⟩ .nil)
   .have hu:used N (rr N') p=false:=iu (by rw[<-hx];exact c)
    have st:=e9n h P cart T N' S l ei ex c W (some (.Y (.int (k:Int)))) (some (.Y (bT p))) none;refine⟨lu h P cart T N' S l W (some (.Y (.int (k:Int)))) (some (.Y (bT p))) (some (.Y (aL (.gi (at' p 0))))) none,?_,W,_,_,_,rfl,?_⟩
    .show(gr _ (.tup [.int (k:Int),bT p]) _).bind yv=_;rw[DN,Option.bind_some,QH,st]
    .rw[List.filter_append,Al,hu];simpa using pr)
 rw[fI] at pr;exact⟨W,b8,b9,gZ,e,pr⟩
structure Told (h:aw) (P:List Pl) (cart:Str) (n:Nat) (W:List D) (C:List Ct):Prop where
 ex:∃(pl:Int) (N N':Net) (l:cK),pl=(P.length:Int)+1/\Nt h P cart n pl N/\i8 (VV N) .st .en (rr N) (rr N')/\.st∈l.map (·.1)/\.en∉l.map (·.1)/\(∀y,y∈l.map (·.1)->∀x,0<rr N' y x->x∈l.map (·.1))/\
  Paired (Way N (rr N') cart) ((pY 0 P).filter λx=>used N (rr N') x.2) W/\C=(fF h P n).filter λc=>decide (Nd.gi c∈l.map (·.1)) && !decide (Nd.go c∈l.map (·.1))
theorem QJ{h:aw}(ok:fZ h){P:List Pl}(nd:P.Nodup)(v:∀p,p∈P->VP h p):∀n,(fF h P n).length<=200*n
 |0=>cJ _
 |n+1=>by
  have ih:=QJ ok nd v n;obtain⟨o1,o2⟩:=Cv ok nd v n;have hl:=RA ok o1 o2;show(fF h P n++(nw h P n).map (at' · (n:Int))).length<=_
  rw[dy,bz];lia
theorem Wa(ok:fZ h)(nd:P.Nodup)(v:∀p,p∈P->VP h p)(cart:Str)(T:Int)(n:Nat)(hT:T=n)(hn:n<=12)(hP:P.length<=20):
  ∃W C,Told h P cart n W C/\Fi [.Y (dZ h),.Y (.lst (P.map bT)),.Y (.str cart),.Y (.int T)]=some (.tup [.lst (W.map .Y),.Y (.lst (C.map gH))],[none,none,none,none]):=by
 obtain⟨pl,j8⟩:∃pl:Int,(P.length:Int)+1=pl:=⟨_,rfl⟩;obtain⟨e1,sz⟩:=V' ok nd v cart T pl n hT hn hP j8;have t:=e9h sz;generalize cf [(.st,[])] (lL h P cart pl n)=N at *;have F0:=t.flo (by lia)
 obtain⟨N',l,s1,F,c,cl,he,e2⟩:=e7b (V:=VV N) (B:=(P.length:Int)) N t.ok (λv m=>(mC ..).mpr (.inl m)) F0 (λr F=>t.most nd F) (by lia)
 obtain⟨W,b8,b9,gZ,e3,pr⟩:=Zo t F s1 hn hP T (fF h P n) l;have sl:=QJ ok nd v n;have e4:=e7n h P cart T N' (fF h P n) l (by lia) W b8 b9 gZ none
 refine⟨W,_,⟨pl,N,N',l,j8.symm,t,F,c.st,he,cl,pr,rfl⟩,?_⟩;have e5:=Rp N';have e0:bL [(Nd.st,([]:qq))]=.aE [(dU .st,.aE [])]:=rfl;have k0:cL (.str "the start")=some (dU .st):=rfl;rw[e0] at e1;rw[show aL .st=.str "the start" from rfl,show aL .en=.str "the end" from rfl] at e2;generalize(fF h P n).filter (λc=>decide (Nd.gi c∈l.map (·.1)) && !decide (Nd.go c∈l.map (·.1)))=C at e4 ⊢
 generalize fF h P n=S at e1 e3 e4;unfold lu at e3 e4;rw[show([]:List D).map O.Y=[] from rfl] at e3;unfold Fi;unfold II;simp only[gn,eM,eX,bO,bM,bP,reduceAdd,reduceSub,fD,e8,e_,fe,cY,eJ,VH,bI,↓af,Fu,k0,↓evMap,reduceLT,cy,bK,aX,cU,gc,ba,aV,bg,aW,bb,ja,gb,f_,e1,jT,gR,gQ,jy,rR,bX,e2,R_,e5,fM,reduceLeDiff,eZ,YC,e3,e4,eG,ua,gD,gY,gw,gy,gE,gp]
def y4(h:aw)(P:List Pl)(C:List Ct):Nat->Pl->Prop
 |0,p=>p∈P
 |m+1,q=>∃p,y4 h P C m p/\at' p (m:Int)∉C/\q∈iX h p
def Sep(h:aw)(P:List Pl)(cart:Str)(n:Nat)(C:List Ct):Prop:=∀m,m<n->∀p,y4 h P C m p->at' p (m:Int)∉C->¬cP (.inl cart) (jz h p)=true
theorem ve:q∈nw h P (m+1)↔∃p∈nw h P m,q∈iX h p:=by
 show q∈dB [] ((nw h P m).flatMap (iX h))↔_;rw[jF,M7];exact⟨λz=>z.resolve_left (by simp),.inr⟩
theorem B7{h:aw}{P:List Pl}{C:List Ct}:∀{m:Nat} {p:Pl},y4 h P C m p->p∈nw h P m
 |0,p,z=>z
 |m+1,q,⟨p,z,_,hq⟩=>ve.mpr ⟨p,B7 z,hq⟩
theorem jk{h:aw}{P:List Pl}{c:Ct}:∀{n:Nat},c∈fF h P n↔∃m,m<n/\∃p∈nw h P m,c=at' p (m:Int)
 |0=>⟨λz=>(by cases z),λ⟨m,hm,_⟩=>bQ hm (Ay _)⟩
 |n+1=>by
  show c∈fF h P n++(nw h P n).map (at' · (n:Int))↔_
  rw[eI,jk,gA];constructor
  .rintro(⟨m,hm,z⟩|⟨p,hp,e⟩)
   .exact⟨m,by lia,z⟩
   .exact⟨n,by lia,p,hp,e.symm⟩
  .rintro⟨m,hm,p,hp,e⟩;by_cases q:m=n
   .subst q;exact .inr ⟨p,hp,e.symm⟩
   .exact .inl ⟨m,by lia,p,hp,e⟩
theorem RD{h:aw}(ok:fZ h){P:List Pl}(nd:P.Nodup)(v:∀p,p∈P->VP h p):∀n,(fF h P n).Nodup
 |0=>xi
 |n+1=>by
  show(fF h P n++(nw h P n).map (at' · (n:Int))).Nodup
  refine lC.mpr ⟨RD ok nd v n,List.Pairwise.map _ (λa b j7 e=>j7 (mF e).1) (Cv ok nd v n).1,λa ha b hb e=>?_⟩
  obtain⟨m,hm,p,hp,e1⟩:=jk.mp ha;obtain⟨q,hq,e2⟩:=gA.mp hb;have:=(mF (e1.symm.trans (e.trans e2.symm))).2;lia
theorem i8.yf{V:List Nd}{s t:Nd}{r0:Nd->Nd->Int}(F:i8 V s t r0 r)(S:Nd->Bool)(hs:S s=true)(ht:S t=false):
  ex V r0 r s<=sm (λv=>sm (λb=>r0 v b) (V.filter λb => !S b)) (V.filter S):=by
 have e1:sm (ex V r0 r) (V.filter S)=ex V r0 r s:=by
  have h1:∀v,v∈V.filter S->ex V r0 r v=if v=s then ex V r0 r s else 0:=λv m=>by
   obtain⟨m1,m2⟩:=jB.mp m;by_cases c:v=s
   .rw[aJ c,c]
   .rw[aQ c];exact F.cs v m1 c λz=>by rw[z,ht] at m2;cases m2
  rw[rO h1,qw _ (F.nd.filter _),aJ (jB.mpr ⟨F.ms,hs⟩)]
 have e2:sm (ex V r0 r) (V.filter S)=sm (λv=>sm (λb=>r0 v b - r v b) (V.filter S)) (V.filter S)+sm (λv=>sm (λb=>r0 v b - r v b) (V.filter λb => !S b)) (V.filter S):=by
  rw[<-uU];exact rO λv _=>FE _ S V
 have e3:=Qr (g:=λv b=>r0 v b - r v b) F.an (V.filter S)
 have e4:sm (λv=>sm (λb=>r0 v b - r v b) (V.filter λb => !S b)) (V.filter S)<=sm (λv=>sm (λb=>r0 v b) (V.filter λb => !S b)) (V.filter S):=uW λv mv=>uW λb mb=>by
  have:=F.nn v b;lia
 lia
theorem RE(W:List Nd):∀V:List Nd,sm (λv=>if v∈W then 1 else 0) V=((V.filter λv=>decide (v∈W)).length:Int)
 |V=>by
  have:=Kp (λv:Nd=>v) (λv=>if v∈W then 1 else 0) (λv=>decide (v∈W)) V λv _=>by
   by_cases c:v∈W
   .rw[aJ c,fY c,aJ rfl]
   .rw[aQ c,iu c,aQ (by simp)]
  rw[List.map_id'] at this;exact this
section
variable{h:aw}{P:List Pl}{cart:Str}{n:Nat}{pl:Int}{N:Net}{r:Nd->Nd->Int}
theorem Nt.weak(t:Nt h P cart n pl N)(F:i8 (VV N) .st .en (rr N) r)(s:Sep h P cart n C):ex (VV N) (rr N) r .st<=(C.length:Int):=by
 let Q:Ct->Prop:=λc=>∃(m:Nat) (p:Pl),c=at' p (m:Int)/\y4 h P C m p
 let SP:Nd->Prop:=λv=>match v with
  |.st=>True
  |.en=>False
  |.gi c=>Q c
  |.go c=>Q c/\c∉C
 have dec:∀v,Decidable (SP v):=λv=>Classical.propDecidable _
 have hcr:∀v b t',SP v->¬SP b->iw h P cart n v b t'->∃c∈C,v=.gi c/\b=.go c:=by
  intro v b t' hv hb e;cases e with
  |@s p hp=>exact bQ (show Q _ from⟨0,p,rfl,hp⟩) hb
  |@g m p hm hp=>
   refine⟨at' p m,?_,rfl,rfl⟩;exact oC λz=>hb ⟨hv,z⟩
  |@e m p hm hp z=>
   obtain⟨⟨m',p',e1,e2⟩,e3⟩:=hv;obtain⟨rfl,em⟩:=mF e1;have em:m=m':=by lia
   subst em;exact bQ z (s m hm p e2 e3)
  |@w m p q hm hp hq=>
   obtain⟨⟨m',p',e1,e2⟩,e3⟩:=hv;obtain⟨rfl,em⟩:=mF e1;have em:m=m':=by lia
   subst em;exact bQ (show Q _ from⟨m+1,q,rfl,p,e2,e3,hq⟩) hb
 have c1:=F.yf (λv=>@decide (SP v) (dec v)) (@decide_eq_true (SP .st) (dec .st) iJ) (@decide_eq_false (SP .en) (dec .en) (λz=>z))
 have c2:sm (λv=>sm (λb=>rr N v b) ((VV N).filter λb => !(@decide (SP b) (dec b)))) ((VV N).filter λv=>@decide (SP v) (dec v))<=sm (λv=>if v∈C.map Nd.gi then 1 else 0) ((VV N).filter λv=>@decide (SP v) (dec v)):=uW λv mv=>by
  have hv:SP v:=vJ (jB.mp mv).2;have hb:∀b,b∈((VV N).filter λb => !(@decide (SP b) (dec b)))->¬SP b:=λb mb z=>by
   have:=(jB.mp mb).2;rw[@decide_eq_true _ (dec b) z] at this;cases this
  by_cases c:v∈C.map Nd.gi
  .rw[aJ c];obtain⟨c0,_,rfl⟩:=gA.mp c;have:sm (λb=>rr N (.gi c0) b) ((VV N).filter λb => !(@decide (SP b) (dec b)))<=sm (λb=>if b=.go c0 then 1 else 0) ((VV N).filter λb => !(@decide (SP b) (dec b))):=uW λb _=>by
    by_cases q:∃t',iw h P cart n (.gi c0) b t'
    .obtain⟨t',e⟩:=q;obtain⟨rfl,rfl,_⟩:=B6 e;rw[t.rm _ _ _ e,aJ rfl];exact yY 1
    .rw[t.rz _ _ λt' e=>q ⟨t',e⟩]
     split <;> lia
   rw[qw _ (F.nd.filter _)] at this;split at this <;> lia
  .rw[aQ c];have:sm (λb=>rr N v b) ((VV N).filter λb => !(@decide (SP b) (dec b)))=0:=zl λb mb=>t.rz _ _ λt' e=>by
    obtain⟨c0,hc,rfl,_⟩:=hcr v b t' hv (hb b mb) e;exact c (gA.mpr ⟨c0,hc,rfl⟩)
   lia
 rw[RE] at c2;have c3:=vN (l:=((VV N).filter λv=>@decide (SP v) (dec v)).filter λv=>decide (v∈C.map Nd.gi)) (m:=C.map Nd.gi) ((F.nd.filter _).filter _) λx m=>by
  have:=(jB.mp m).2;exact vJ this
 rw[bz] at c3;lia
end
theorem Xz(ok:fZ h)(nd:P.Nodup)(v:∀p,p∈P->VP h p)(td:Told h P cart n W C):
  Sep h P cart n C/\C.length<=W.length/\∀C',Sep h P cart n C'->W.length<=C'.length:=by
 obtain⟨pl,N,N',l,j8,t,F,ms,me,cl,pr,hC⟩:=td.ex;have val:=t.value nd F;have hW:W.length=(P.filter (used N (rr N'))).length:=by
  have h1:=Paired.length pr;have h2:((pY 0 P).filter λx=>used N (rr N') x.2).map (·.2)=P.filter (used N (rr N')):=by
   have:=List.filter_map (f:=λx:Nat×Pl=>x.2) (p:=used N (rr N')) (l:=pY 0 P)
   rw[Gi] at this;exact this.symm
  rw[<-h2,bz];exact h1.symm
 have Dk:=F.cut (λv=>decide (v∈l.map (·.1))) (fY ms) (iu me) λa b _ _ ha hb=>by
  have h1:=F.nn a b;have h2:¬0<rr N' a b:=λz=>by
   have:=cl a (vJ ha) b z;rw[fY this] at hb;cases hb
  lia
 have nn:=t.nn (by lia)
 have hx:∀a b,a∈VV N->b∈VV N->a∈l.map (·.1)->b∉l.map (·.1)->rr N a b<=ex (VV N) (rr N) (rr N') .st:=λa b ma mb ha hb=>by
  rw[Dk];have h1:rr N a b<=sm (λb=>rr N a b) ((VV N).filter λb => !decide (b∈l.map (·.1))):=GQ (f:=λb=>rr N a b) (λw _=>nn a w) b (jB.mpr ⟨mb,by rw[iu hb];rfl⟩)
  have h2:=GQ (f:=λv=>sm (λb=>rr N v b) ((VV N).filter λb => !decide (b∈l.map (·.1)))) (l:=(VV N).filter λv=>decide (v∈l.map (·.1))) (λw _=>Fj λb _=>nn w b) a (jB.mpr ⟨ma,fY ha⟩)
  lia
 have most:=t.most nd F;have go:∀a b,iw h P cart n a b false->a∈l.map (·.1)->b∈l.map (·.1):=λa b e ha=>oC λhb=>by
  have h1:=hx a b ((mC ..).mpr (.inl ((t.ky a).mpr (.inr ⟨b,_,.inl e⟩)))) ((mC ..).mpr (.inl ((t.ky b).mpr (.inr ⟨a,_,.inr e⟩)))) ha hb;rw[t.rm a b _ e] at h1;have h2:cp pl false=pl:=rfl;lia
 have memC:∀c,c∈C↔c∈fF h P n/\Nd.gi c∈l.map (·.1)/\Nd.go c∉l.map (·.1):=λc=>by
  rw[hC,jB,lS,decide_eq_true_eq,Bool.not_eq_true',decide_eq_false_iff_not]
 have gate:∀m p,m<n->p∈nw h P m->Nd.gi (at' p (m:Int))∈l.map (·.1)->at' p (m:Int)∉C->Nd.go (at' p (m:Int))∈l.map (·.1):=λm p hm hp hg hc=>oC λz=>hc ((memC _).mpr ⟨jk.mpr ⟨m,hm,p,hp,rfl⟩,hg,z⟩)
 have rin:∀m p,m<=n->y4 h P C m p->Nd.gi (at' p (m:Int))∈l.map (·.1):=by
  intro m
  induction m with
  |zero=>intro p _ z;exact go _ _ (.s z) ms
  |succ m ih=>
   rintro q hm ⟨p,z,hc,hq⟩;exact go _ _ (.w (by lia) (B7 z) hq) (gate m p (by lia) (B7 z) (ih p (by lia) z) hc)
 refine⟨λm hm p z hc q=>?_,?_,λC' s=>?_⟩
 .exact me (go _ _ (.e hm (B7 z) q) (gate m p hm (B7 z) (rin m p (by lia) z) hc))
 .have h1:sm (λv=>if v∈C.map Nd.gi then 1 else 0) ((VV N).filter λv=>decide (v∈l.map (·.1)))<=ex (VV N) (rr N) (rr N') .st:=by
   rw[Dk];refine uW λa ma=>?_
   by_cases c:a∈C.map Nd.gi
   .rw[aJ c];obtain⟨c0,hc,rfl⟩:=gA.mp c;obtain⟨k1,k2,k3⟩:=(memC c0).mp hc;obtain⟨m,hm,p,hp,rfl⟩:=jk.mp k1;have e:iw h P cart n (.gi (at' p m)) (.go (at' p m)) true:=.g hm hp;have h1:rr N (.gi (at' p m)) (.go (at' p m))<=sm (λb=>rr N (.gi (at' p m)) b) ((VV N).filter λb => !decide (b∈l.map (·.1))):=GQ (f:=λb=>rr N (.gi (at' p m)) b) (λw _=>nn _ w) _ (jB.mpr ⟨(mC ..).mpr (.inl ((t.ky _).mpr (.inr ⟨_,_,.inr e⟩))),by rw[iu k3];rfl⟩)
    rw[t.rm _ _ _ e] at h1;exact h1
   .rw[aQ c];exact Fj λb _=>nn a b
  rw[RE] at h1;have Mb:C.Nodup:=by rw[hC];exact(RD ok nd v n).filter _
  have ndC:(C.map Nd.gi).Nodup:=List.Pairwise.map _ (λa b j7 e=>j7 (by injection e)) Mb
  have h2:=vN ndC (m:=((VV N).filter λv=>decide (v∈l.map (·.1))).filter λv=>decide (v∈C.map Nd.gi)) λx m=>by
   refine jB.mpr ⟨jB.mpr ?_,fY m⟩;obtain⟨c0,hc,rfl⟩:=gA.mp m;obtain⟨k1,k2,k3⟩:=(memC c0).mp hc;obtain⟨m,hm,p,hp,rfl⟩:=jk.mp k1;exact⟨(mC ..).mpr (.inl ((t.ky _).mpr (.inr ⟨_,_,.inl (.g hm hp)⟩))),fY k2⟩
  rw[bz] at h2;lia
 .have:=t.weak F s;lia
section
variable{h:aw}{P P':List Pl}{cart:Str}{n k k':Nat}
end
abbrev jX(as:List Sp):O:=.lst ((as.map au).map .Y)
section
variable{α:Type}
def lN(xs:List α)(k:Nat)(y:α):List α:=xs.take k++y::xs.drop k
theorem nU{xs:List α}{y x:α}:x∈lN xs k y↔x=y\/x∈xs:=by
 unfold lN;rw[eI,eC]
 conv=>rhs;rw[<-vH k xs,eI]
 constructor
 .rintro(z|z|z)
  .exact .inr (.inl z)
  .exact .inl z
  .exact .inr (.inr z)
 .rintro(z|z|z)
  .exact .inr (.inl z)
  .exact .inl z
  .exact .inr (.inr z)
theorem Pq(xs:List α)(k:Nat)(y:α):(lN xs k y).length=xs.length+1:=by
 unfold lN;rw[dy,hX,ql,vF];lia
theorem QK{xs:List α}{y:α}(h:xs.Nodup)(hy:y∉xs):(lN xs k y).Nodup:=by
 unfold lN;rw[List.perm_middle.nodup_iff,vH];exact hU.mpr ⟨hy,h⟩
theorem QL(enc:α->D)(xs:List α)(i:Int)(y:α)(h0:0<=i)(h1:i<1000000)(hl:xs.length<1000000):vY (.lst ((xs.map enc).map .Y)) [.Y (.int i),.Y (enc y)]=some (.lst (((lN xs i.toNat y).map enc).map .Y),.Y .bH):=by
 show(if 0<=i/\i<1000000/\((xs.map enc).map O.Y).length<1000000 then _ else _)=_
 rw[aJ ⟨h0,h1,by rw[bz,bz];exact hl⟩]
 unfold lN;rw[iH,cS,iH,cS,List.map_take,M6,List.map_take,M6]
theorem Kr(enc:α->D)(xs:List α)(i:Int)(h0:0<=i)(h1:i<xs.length):∃x,x∈xs/\cN (xs.map enc) i=some (enc x):=by
 have hi:i.toNat<xs.length:=by lia
 refine⟨xs[i.toNat],xh hi,?_⟩;unfold cN mH;rw[bz,aJ h0,aJ h1];show(xs.map enc)[i.toNat]?=_;rw[i7,eP hi];rfl
end
theorem Gj(xs:List D):cI [.Y (.lst xs)]=some (.Y (.int (xs.length:Nat))):=rfl
theorem XA(F:aZ)(g:a_ F)(s1 s2 s3 a5:Option O)(pl:List Sp)(hl:pl.length<=100)(nd:pl.Nodup)(s:Sp)(hs:s∉pl):∃(F':aZ) (tE:List Sp),a_ F'/\(∀x,x∈tE↔x=s\/x∈pl)/\tE.length=pl.length+1/\tE.Nodup/\
  tF [some (bx F),s1,s2,s3,some (jX pl),a5,some (.Y (au s))]=some (.nx,[some (bx F'),s1,s2,s3,some (jX tE),a5,some (.Y (au s))]):=by
 have hm:(0:Int)<(pl.length:Int)+1:=by lia
 have e1:=xd g (m:=(pl.length:Int)+1) hm (by lia)
 have d0:=qS F hm;have d1:=qT F hm;have ei:=QL au pl (aG F ((pl.length:Int)+1)) s d0 (by lia) (by lia)
 refine⟨aA F ((pl.length:Int)+1),lN pl (aG F ((pl.length:Int)+1)).toNat s,g.draw _,λx=>nU,Pq _ _ _,QK nd hs,?_⟩
 have dl:O.dl ((pl.map au).map .Y)=pl.map au:=nq _;have el:((pl.map au).length:Int)=(pl.length:Int):=by rw[bz]
 generalize(pl.length:Int)=ol at *;unfold tF;generalize au s=sd at *;simp only[jP,lV,aV,bg,aW,↓af,ba,cU,gc,bu,bb,bq,ju,iI,bp,oY,jy,dl,pR,el,↓evMap,bI,br,iA,bX,ja,bK,gb,f_,e1,jT,gR,gQ,gD,eZ,ei,cy]
theorem XB(F:aZ)(g:a_ F)(s1 s2:Option O)(cs:List Sp)(c0:0<cs.length)(c1:cs.length<=200)(a5 a6:Option O)(pl:List Sp)(hl:pl.length<=100)(nd:pl.Nodup):∃(F':aZ) (tE:List Sp) (Ic:Option O),a_ F'/\(∀x,x∈tE->x∈pl\/x∈cs)/\tE.length<=pl.length+1/\tE.Nodup/\
  qL [some (bx F),s1,s2,some (.Y (.lst (cs.map au))),some (jX pl),a5,a6]=some (.nx,[some (bx F'),s1,s2,some (.Y (.lst (cs.map au))),some (jX tE),a5,Ic]):=by
 have hm:(0:Int)<(cs.length:Int):=by lia
 have e1:=xd g (m:=(cs.length:Int)) hm (by lia)
 have d0:=qS F hm;have d1:=qT F hm;obtain⟨s,ms,es⟩:=Kr au cs (aG F (cs.length:Int)) d0 d1;have e2:=Kk true s pl;have el:cI [.Y (.lst (cs.map au))]=some (.Y (.int (cs.length:Nat))):=by rw[Gj,bz]
 have ex:eE (.Y (.lst (cs.map au))) (.int (aG F (cs.length:Int)))=some (.Y (au s)):=by
  show(cN (cs.map au) _).map O.Y=_;rw[es];rfl
 cases hb:cP s pl with
 |true=>
  rw[hb] at e2;refine⟨aA F (cs.length:Int),pl,some (.Y (au s)),g.draw _,λx m=>.inl m,EE _,nd,?_⟩
  generalize(cs.length:Int)=ol at *;unfold qL;generalize tF=pi at *;generalize au s=sd at *;simp only[cY,eJ,bu,ba,aV,bg,aW,↓af,gc,bb,bq,br,bp,el,ja,bK,gb,f_,e1,jT,gR,gQ,cG,ex,bO,bM,bP,reduceAdd,reduceLT,cy,aX,dh,cH,ju,iI,e2,iL,cR,dA,bS]
 |false=>
  rw[hb] at e2;have hs:s∉pl:=λz=>by rw[ij.mpr z] at hb;cases hb
  obtain⟨F',tE,g',m',l',n',e3⟩:=XA (aA F (cs.length:Int)) (g.draw _) s1 s2 (some (.Y (.lst (cs.map au)))) a5 pl hl nd s hs;refine⟨F',tE,some (.Y (au s)),g',λx m=>((m' x).mp m).elim (λe=>.inr (by rw[e];exact ms)) .inl,by lia,n',?_⟩
  generalize(cs.length:Int)=ol at *;unfold qL;generalize tF=pi at *;generalize au s=sd at *;simp only[cY,eJ,bu,ba,aV,bg,aW,↓af,gc,bb,bq,br,bp,el,ja,bK,gb,f_,e1,jT,gR,gQ,cG,ex,bO,bM,bP,reduceAdd,reduceLT,cy,aX,dh,cH,ju,iI,e2,lD,e3,dA]
theorem XC(ok:fZ h)(F:aZ)(g:a_ F):∃(F':aZ) (pl:List Sp),a_ F'/\(∀s∈pl,VC h s)/\pl.length<=8/\pl.Nodup/\E9 [bx F,.Y (dZ h),.Y (.int 8)]=some (jX pl,[some (bx F'),none,none]):=by
 obtain⟨cs,cv,c0,c1,ec⟩:=Y3 h ok;have e1:=xd g (m:=9) (by decide) (by decide)
 have d0:=qS F (m:=9) (by decide)
 have d1:=qT F (m:=9) (by decide)
 obtain⟨Q0',el,F',pl,a5,a6,g',m',l',n',rfl⟩:=mB (g:=bj 5) (f:=qL) (λk:Nat=>D.int (0+(k:Int))) (λpre Q0=>∃(F':aZ) (pl:List Sp) (a5 a6:Option O),a_ F'/\(∀x∈pl,x∈cs)/\pl.length<=pre.length/\pl.Nodup/\Q0=[some (bx F'),some (.Y (dZ h)),some (.Y (.int 8)),some (.Y (.lst (cs.map au))),some (jX pl),a5,a6]) (List.range (aG F 9).toNat) []
  [some (bx (aA F 9)),some (.Y (dZ h)),some (.Y (.int 8)),some (.Y (.lst (cs.map au))),some (jX []),none,none] ⟨aA F 9,[],none,none,g.draw _,(λx m=>by cases m),cJ _,xi,rfl⟩ (by
   rintro q x post Q0 ex ⟨F',pl,a5,a6,g',m',l',n',rfl⟩;rw[fI] at *;have lq:q.length<=9:=by have:=congrArg List.length ex;simp at this;lia
   obtain⟨F2,Mh,Ic,g2,m2,l2,n2,e⟩:=XB F' g' (some (.Y (dZ h))) (some (.Y (.int 8))) cs c0 (by lia) (some (.Y (.int (0+(x:Int))))) a6 pl (by lia) n'
   refine⟨_,e,F2,Mh,_,Ic,g2,λy my=>(m2 y my).elim (m' y) id,?_,n2,rfl⟩
   rw[dy,jC];lia)
 rw[fI] at *;rw[mO] at l';refine⟨F',pl,g',λs ms=>cv s (m' s ms),by lia,n',?_⟩
 rw[<-qV] at el;have i1:gK [.own (.Y (.int (aG F 9)))]=some (aG F 9):=uO (by lia)
 have e0:(jX []:O)=.lst []:=rfl;rw[e0] at el;have T_:(8:Int)+1=9:=rfl;unfold E9;unfold Ip;generalize qL=pb at *;simp only[gn,eM,eX,bO,bM,bP,reduceAdd,reduceSub,fD,e8,e_,fe,cY,eJ,cU,gc,ba,aV,bg,aW,↓af,bb,gb,f_,ec,gR,gQ,bX,reduceLT,cy,bK,aX,fM,reduceLeDiff,eZ,xZ,bu,bI,bq,br,bp,iA,T_,ja,e1,jT,i1,el,eG,ua,gY,gw,gy,q_,gE,gp]
theorem OJ{h:aw}:∀{pl:List Sp},(∀s∈pl,VC h s)->pl.Nodup->∃P:List Pl,pl=P.map Sum.inr/\P.Nodup/\∀p,p∈P->VP h p
 |[],_,_=>⟨[],rfl,xi,λp m=>(by cases m)⟩
 |s::pl,hv,nd=>by
  rw[hU] at nd;obtain⟨P,e,n,v⟩:=OJ (pl:=pl) (λs m=>hv s (.tail _ m)) nd.2
  obtain⟨b,hb,c,es,c0,c1⟩:=hv s (.head _);refine⟨(b.name,c)::P,by rw[es,e];rfl,hU.mpr ⟨λm=>nd.1 ?_,n⟩,λp m=>?_⟩
  .rw[es,e];exact gA.mpr ⟨_,m,rfl⟩
  .rcases eC.mp m with m|m
   .rw[m];exact⟨b,hb,rfl,c0,c1⟩
   .exact v p m
theorem QM(P:List Pl):(P.map Sum.inr).map au=P.map bT:=by
 rw[lU];exact HV λp _=>rfl
theorem RF(ds:List D):iO [.Y (.lst ds)]=some (.lst (ds.map .Y)):=rfl
theorem Zp(f:qQ h.aT h.aO){b:bc}(hb:b∈h.aO):∃j:Nat,findS (h.aO.map bc.name) b.name=some j/\h.aO[j]?=some b:=by
 cases q:findS (h.aO.map bc.name) b.name with
 |none=>
  unfold findS at q;rw[List.findIdx?_eq_none_iff] at q;have:=q b.name (HU (f:=bc.name) hb);rw[pJ] at this;cases this
 |some j=>
  obtain⟨e,_⟩:=NL q;rw[i7] at e;cases r:h.aO[j]? with
  |none=>rw[r] at e;cases e
  |some x=>
   rw[r] at e;have e:x.name=b.name:=Option.some.inj e;rw[Ph f x (jr r) b hb e] at r;exact⟨j,rfl,r⟩
theorem Wb(h:aw)(f:qQ h.aT h.aO)(b:bc)(hb:b∈h.aO)(ol:b.outs.length<=20)(s0 s1 s3 s4 s5 s6:Option O):
  ∃a8,fz (bj 8) qi (b.outs.map D.str) [s0,s1,some (.Y (.lst ((h.aO.map bc.name).map .str))),s3,s4,s5,s6,some (.lst []),none] =
   some (.nx,[s0,s1,some (.Y (.lst ((h.aO.map bc.name).map .str))),s3,s4,s5,s6,some (.lst ((b.outs.map (nK h)).map .Y)),a8]):=by
 obtain⟨Q0',e,a8,rfl⟩:=mB (g:=bj 8) (f:=qi) D.str (λpre Q0=>∃a8,Q0=[s0,s1,some (.Y (.lst ((h.aO.map bc.name).map .str))),s3,s4,s5,s6,some (.lst ((pre.map (nK h)).map .Y)),a8]) b.outs []
  [s0,s1,some (.Y (.lst ((h.aO.map bc.name).map .str))),s3,s4,s5,s6,some (.lst []),none] ⟨_,rfl⟩ (by
   rintro q x post Q0 eq ⟨a8,rfl⟩;rw[fI];have hx:x∈b.outs:=by rw[eq];simp
   have hl:((q.map (nK h)).length<1000000)=True:=ku (by
    have:b.outs.length=q.length+(post.length+1):=by rw[eq,dy,hX]
    rw[bz];lia)
   rw[iH (l₁:=q) (l₂:=[x]),cS (f:=nK h),oO (f:=nK h)];refine⟨_,?_,some (fS x),rfl⟩;unfold qi;generalize q.map (nK h)=Q at *;rcases Jm f b hb x hx with z|z
   .have c1:(h.aO.map bc.name).contains x=true:=EG.mpr z;have c2:¬h.aT.contains x=true:=λy=>IJ f x (EG.mp y) z
    have eg:nK h x=.tup [.str x,.int 0]:=by unfold nK;rw[aQ c2]
    rw[eg];simp only[iz,bO,bM,bP,reduceAdd,reduceLT,cy,bK,aX,↓af,jP,lV,aV,bg,aW,ba,cU,x_,cH,bu,bb,bq,br,bp,GL,cR,c1,bS,fM,bI,reduceLeDiff,gD,eZ,jU,ia,bX,h_,q8,hl]
   .have c2:h.aT.contains x=true:=EG.mpr z;have c1:(h.aO.map bc.name).contains x=false:=by
     rw[<-EF,EG];exact IJ f x z
    have eg:nK h x=.str x:=by unfold nK;rw[aJ c2]
    rw[eg];simp only[iz,bO,bM,bP,reduceAdd,reduceLT,cy,bK,aX,↓af,jP,lV,aV,bg,aW,ba,cU,x_,cH,bu,bb,bq,br,bp,GL,cR,c1,bS,fM,bI,reduceLeDiff,gD,eZ,bX,q8,hl])
 rw[fI] at e;exact⟨a8,e⟩
theorem Pr(h:aw)(ok:fZ h)(b:bc)(hb:b∈h.aO)(c:Int):xx [.Y (dZ h),.Y (.tup [.str b.name,.int c])]=some (.lst (((iZ h b c).map au).map .Y),[none,none]):=by
 rw[Pj];have ol:=(ok.bk b hb).ol;have bl:=ok.bl;obtain⟨a',e1⟩:=NV h.aO [] none (by rw[rJ];lia)
 rw[oO,fI] at e1;obtain⟨j,j1,j2⟩:=Zp ok.fwd hb;have ea:cN (h.aO.map bY) (j:Int)=some (bY b):=oE (by rw[i7,j2];rfl)
 obtain⟨a8,e2⟩:=Wb h ok.fwd b hb ol (some (.Y (dZ h))) (some (.Y (.tup [.str b.name,.int c]))) (some (.Y (.str b.name))) (some (.Y (.int b.long))) (some (.Y (.bl b.ring))) (some (.Y (.lst (b.outs.map .str))));have et:∃Q0',stepT [some (.Y (dZ h)),some (.Y (.tup [.str b.name,.int c])),some (.Y (.lst ((h.aO.map bc.name).map .str))),some (.Y (.str b.name)),some (.Y (.int b.long)),some (.Y (.bl b.ring)),some (.Y (.lst (b.outs.map .str))),none,none]=some (.rt (.lst ((zx h b c).map .Y)),some (.Y (dZ h))::some (.Y (.tup [.str b.name,.int c]))::Q0')/\Q0'.length=7:=by
  unfold stepT zx;by_cases hc:c+1<b.long
  .rw[aJ hc];refine⟨[some (.Y (.lst ((h.aO.map bc.name).map .str))),some (.Y (.str b.name)),some (.Y (.int b.long)),some (.Y (.bl b.ring)),some (.Y (.lst (b.outs.map .str))),none,none],?_,rfl⟩;simp only[cY,dh,cH,bu,ba,aV,bg,aW,↓af,bI,bb,bq,br,bp,cG,jE,mR,↓evMap,iA,fN,hc,decide_true,aX,eG,fM,cU,bX,bO,bM,bP,reduceAdd,reduceLeDiff,gD,eZ,jU,ia,h_,dA,eM,eX]
  .rw[aQ hc];unfold qc;have l1:((b.outs.map (nK h)).length<1000000)=True:=ku (by rw[bz];lia)
   refine⟨[some (.Y (.lst ((h.aO.map bc.name).map .str))),some (.Y (.str b.name)),some (.Y (.int b.long)),some (.Y (.bl b.ring)),some (.Y (.lst (b.outs.map .str))),none,a8],?_,rfl⟩;cases hr:b.ring with
   |true=>
    rw[aJ rfl];rw[hr] at e2;simp only[cY,dh,cH,bu,ba,aV,bg,aW,↓af,bI,bb,bq,br,bp,cG,jE,mR,↓evMap,iA,fN,hc,decide_false,aX,cR,eG,fM,cU,bX,bO,bM,bP,reduceAdd,reduceLeDiff,gD,eZ,jU,ia,h_,dA,bS,eJ,reduceLT,cy,bK,pS,e2,jR,kI,jP,lV,q8,l1,ua]
   |false=>
    rw[aQ mY,kZ];rw[hr] at e2;simp only[cY,dh,cH,bu,ba,aV,bg,aW,↓af,bI,bb,bq,br,bp,cG,jE,mR,↓evMap,iA,fN,hc,decide_false,aX,cR,eG,fM,cU,bX,bO,bM,bP,reduceAdd,reduceLeDiff,gD,eZ,jU,ia,h_,dA,bS,eJ,reduceLT,cy,bK,pS,e2,jR,kI,jP,lV,q8,ua]
 obtain⟨Q0',et,yl⟩:=et;unfold xx;unfold IC;have ix:BV [.Y (.lst ((h.aO.map bc.name).map .str)),.Y (.str b.name)]=some (.Y (.int (j:Int))):=by rw[WZ,j1];rfl
 have ea:cN (h.aO.map bY) (j:Int)=some (.tup [.str b.name,.int b.long,.bl b.ring,.lst (b.outs.map .str)]):=ea;generalize(j:Int)=ji at *;simp only[gn,eM,eX,bO,bM,bP,reduceAdd,reduceSub,fD,e8,e_,fe,cY,eJ,cU,oU,vZ,bu,ba,aV,aW,↓af,bI,bb,bq,br,bp,cG,Tt,bX,pM,e1,qP,pH,pO,aX,jy,Ce,reduceLT,cy,bK,e5s,O3,bg,jE,lG,↓evMap,ix,jS,ea,JB,Ja,iz,I_,et,gY,yl,gw,gy,gE,gp]
def pairs(r:List Sp):List (Sp×Sp):=r.zip r.tail
def rC(h:aw)(p:Sp×Sp):Bool := !p.1.isLeft&&(cP p.2 (fX h p.1) || decide (p.1=p.2))
def jW(r:List Sp):Sp:=r.headD (.inl "")
def rS(r:List Sp):Sp:=r.getLastD (.inl "")
def p6(h:aw)(place one:Sp)(road:List Sp):Bool:=decide (2<=road.length)&&(decide (jW road=place)&&(decide (rS road=one)&&(pairs road).all (rC h)))
theorem Zq{α:Type}(xs:List α)(x:α):cN (xs++[x]) (-1)=some x:=by
 unfold cN mH;have hl:(xs++[x]).length=xs.length+1:=by simp
 rw[hl];rw[aQ (by decide),aJ (by lia)]
 show(xs++[x])[_]?=some x;rw[show -1+((xs.length+1:Nat):Int)=(xs.length:Int) by lia]
 simp
theorem Zr(r:List Sp)(hr:r≠[]):cN (r.map au) (-1)=some (au (rS r)):=by
 have e:rS r=r.getLast hr:=by
  unfold rS;rw[List.getLastD_eq_getLast?,List.getLast?_eq_some_getLast hr];rfl
 rw[e]
 conv=>lhs;rw[<-List.dropLast_concat_getLast hr,iH]
 exact Zq _ _
theorem Zs(r:List Sp)(hr:r≠[]):cN (r.map au) 0=some (au (jW r)):=by
 cases r with
 |nil=>exact bQ rfl hr
 |cons a as=>rw[cS];exact lG _ _
theorem Zt(h:aw)(place one:Sp)(road:List Sp)(hl:road.length<=1000)(tl:Gm):p9 (aa 2) (some (.Y (dZ h))::some (.Y (au place))::some (.Y (au one))::some (.Y (.lst (road.map au)))::tl) =
  some (!(decide (2<=road.length)&&(decide (jW road=place)&&decide (rS road=one))),some (.Y (dZ h))::some (.Y (au place))::some (.Y (au one))::some (.Y (.lst (road.map au)))::tl):=by
 unfold p9;have n0:=Cf (jW road) place;have n1:=Cf (rS road) one;by_cases h2:2<=road.length
 .have c0:¬(((road.map au).length:Nat):Int)<2:=by rw[bz];lia
  have hr:road≠[]:=λz=>by rw[z] at h2;simp at h2
  have a0:=Zs road hr;have a1:=Zr road hr;rw[fY h2,uz];generalize road.map au=L at *;generalize decide (jW road=place)=q0 at *;generalize decide (rS road=one)=q1 at *;generalize au (jW road)=d0 at *;generalize au (rS road)=dz at *;generalize au place=dp at *;generalize au one=G5 at *
  cases q0 with
  |false=>
   have n0:dM [.Y d0,.Y dp]=some (.Y (.bl true)):=n0;rw[vD,lD];simp only[uh,cH,bu,ba,aV,bg,aW,↓af,bb,bq,br,bp,oY,bX,pR,↓evMap,bI,fN,c0,decide_false,aX,cR,cG,jS,a0,n0,Gx,Int.reduceNeg,bS]
  |true=>
   have n0:dM [.Y d0,.Y dp]=some (.Y (.bl false)):=n0;rw[uz];cases q1 with
   |false=>
    have n1:dM [.Y dz,.Y G5]=some (.Y (.bl true)):=n1
    rw[lD];simp only[uh,cH,bu,ba,aV,bg,aW,↓af,bb,bq,br,bp,oY,bX,pR,↓evMap,bI,fN,c0,decide_false,aX,cR,cG,jS,a0,n0,Gx,Int.reduceNeg,a1,n1,bS]
   |true=>
    have n1:dM [.Y dz,.Y G5]=some (.Y (.bl false)):=n1
    rw[iL];simp only[uh,cH,bu,ba,aV,bg,aW,↓af,bb,bq,br,bp,oY,bX,pR,↓evMap,bI,fN,c0,decide_false,aX,cR,cG,jS,a0,n0,Gx,Int.reduceNeg,a1,n1,bS]
 .have c0:(((road.map au).length:Nat):Int)<2:=by rw[bz];lia
  rw[iu h2,vD,lD];generalize road.map au=L at *;generalize au place=dp at *;generalize au one=G5 at *
  simp only[uh,cH,bu,ba,aV,bg,aW,↓af,bb,bq,br,bp,oY,bX,pR,↓evMap,bI,fN,c0,decide_true,aX,cG,jS]
abbrev dS:Sp:=.inl ""
theorem UC(road:List Sp):pairs road=(List.range (road.length - 1)).map λi=>(road.getD i dS,road.getD (i+1) dS):=by
 unfold pairs;apply List.ext_getElem
 .rw[List.length_zip,List.length_tail,bz,mO];lia
 .intro i h1 h2;rw[List.length_zip,List.length_tail] at h1;rw[List.getElem_zip,List.getElem_map,List.getElem_range,List.getElem_tail];rw[vI,vI,eP (by lia),eP (by lia)]
  rfl
theorem XD(h:aw)(ok:fZ h)(L:List D)(k:Int)(a b:Sp)(va:Ib h a)(ea:cN L (k - 1)=some (au a))(eb:cN L k=some (au b))(s1 s2:Option O):vd [some (.Y (dZ h)),s1,s2,some (.Y (.lst L)),some (.Y (.int k))]=some (if rC h (a,b)=true then .nx else .rt (.Y (.bl false)),[some (.Y (dZ h)),s1,s2,some (.Y (.lst L)),some (.Y (.int k))]):=by
 have i1:=JJ a;unfold vd rC;cases a with
 |inl x=>
  generalize au b=db at *;generalize au (.inl x)=da at *;have i1:cx [.Y da,.Y (.ty "str")]=some (.Y (.bl true)):=i1;rw[show(!(Sum.inl x:Sp).isLeft)=false from rfl,vD,aQ mY];simp only[cY,dh,jR,bu,ba,aV,bg,aW,↓af,bI,bb,bq,br,bp,fN,aX,cG,jS,ea,↓evMap,i1,kI,eG,dA]
 |inr p=>
  obtain⟨n,c⟩:=p;obtain⟨bt,Sw,rfl⟩:=va;have e1:=Pr h ok bt Sw c;have es:=JK ok.fwd Sw c;have m1:=Kk true b (iZ h bt c);have n1:=Cf b (.inr (bt.name,c));have i1:cx [.Y (au (.inr (bt.name,c))),.Y (.ty "str")]=some (.Y (.bl false)):=i1;have e1:xx [.Y (dZ h),.Y (au (.inr (bt.name,c)))]=_:=e1;rw[show(!(Sum.inr (bt.name,c):Sp).isLeft)=true from rfl,uz];dsimp only;rw[es];have hd:decide ((Sum.inr (bt.name,c):Sp)=b)=decide (b=.inr (bt.name,c)):=by
   by_cases z:b=.inr (bt.name,c)
   .rw[fY z,fY z.symm]
   .rw[iu z,iu (λy=>z y.symm)]
  rw[hd];generalize((iZ h bt c).map au).map O.Y=mv at *;generalize decide (b=.inr (bt.name,c))=q1 at *;generalize cP b (iZ h bt c)=q2 at *;generalize au b=db at *;generalize au (.inr (bt.name,c))=da at *;cases q1 with
  |true=>
   have n1:dM [.Y db,.Y da]=some (.Y (.bl false)):=n1;rw[Bool.or_true,aJ rfl];simp only[cY,dh,jR,bu,ba,aV,bg,aW,↓af,bI,bb,bq,br,bp,fN,aX,cG,jS,ea,↓evMap,i1,kI,cR,eG,dA,bS,lJ,cH,eb,n1,gc,gb,f_]
  |false=>
   have n1:dM [.Y db,.Y da]=some (.Y (.bl true)):=n1;rw[EC];cases q2 with
   |true=>
    have m1:cg true [.Y db,.lst mv]=some (.Y (.bl false)):=m1;rw[aJ rfl];simp only[cY,dh,jR,bu,ba,aV,bg,aW,↓af,bI,bb,bq,br,bp,fN,aX,cG,jS,ea,↓evMap,i1,kI,cR,eG,dA,bS,lJ,cH,eb,n1,gc,gb,f_,e1,gR,gQ,m1]
   |false=>
    have m1:cg true [.Y db,.lst mv]=some (.Y (.bl true)):=m1;rw[aQ mY];simp only[cY,dh,jR,bu,ba,aV,bg,aW,↓af,bI,bb,bq,br,bp,fN,aX,cG,jS,ea,↓evMap,i1,kI,cR,eG,dA,bS,lJ,cH,eb,n1,gc,gb,f_,e1,gR,gQ,m1]
theorem R'(road:List Sp)(i:Nat)(hi:i<road.length):cN (road.map au) (i:Int)=some (au (road.getD i dS)):=by
 apply oE;rw[i7,eP hi,vI,eP hi];rfl
theorem Zu(h:aw)(ok:fZ h)(place one:Sp)(road:List Sp)(hv:∀s∈road,Ib h s)(hl:road.length<=500):zc [.Y (dZ h),.Y (au place),.Y (au one),.Y (.lst (road.map au))]=some (.Y (.bl (p6 h place one road)),[none,none,none,none]):=by
 have e1:=Zt h place one road (by lia) [none]
 obtain⟨Q0',e2,a4,rfl⟩:=Pk (g:=bj 4) (f:=vd) (λ(i:Nat)=>D.int (1+(i:Int))) (λQ0=>∃a4,Q0=[some (.Y (dZ h)),some (.Y (au place)),some (.Y (au one)),some (.Y (.lst (road.map au))),a4]) (λi=>rC h (road.getD i dS,road.getD (i+1) dS)) (.Y (.bl false)) (List.range ((road.length:Int) - 1).toNat) [some (.Y (dZ h)),some (.Y (au place)),some (.Y (au one)),some (.Y (.lst (road.map au))),none] ⟨_,rfl⟩ (by
  rintro i hi Q0 ⟨a4,rfl⟩;rw[oz] at hi;have ea:=R' road i (by lia)
  have eb:=R' road (i+1) (by lia)
  rw[show((i:Nat):Int)=1+(i:Int) - 1 by lia] at ea
  rw[show((i+1:Nat):Int)=1+(i:Int) by lia] at eb
  have hm:road.getD i dS∈road:=by
   rw[vI,eP (by lia)]
   exact xh _
  exact⟨_,XD h ok (road.map au) (1+(i:Int)) _ _ (hv _ hm) ea eb (some (.Y (au place))) (some (.Y (au one))),_,rfl⟩)
 have ep:(pairs road).all (rC h)=(List.range ((road.length:Int) - 1).toNat).all λi=>rC h (road.getD i dS,road.getD (i+1) dS):=by
  rw[UC,List.all_map,show((road.length:Int) - 1).toNat=road.length - 1 by lia]
  rfl
 rw[<-ep,<-qV] at e2;have i2:kP [.own (.Y (.int 1)),.own (.Y (.int (road.length:Int)))]=some (1,(road.length:Int)):=JI (by decide) (by lia)
 have zT:((road.map au).length:Int)=(road.length:Int):=by rw[bz]
 unfold zc p6;unfold Jk;rw[<-Bool.and_assoc,<-Bool.and_assoc,Bool.and_assoc (decide (2<=road.length))];generalize(decide (2<=road.length)&&(decide (jW road=place)&&decide (rS road=one)))=qh at *;generalize(pairs road).all (rC h)=qa at *;generalize p9 (aa 2)=hg at *;generalize road.map au=L at *;generalize au place=dp at *;generalize au one=G5 at *
 generalize(road.length:Int)=rl at *;cases qh with
 |false=>
  rw[lD] at e1;rw[vD];simp only[gn,eM,eX,bO,bM,bP,reduceAdd,reduceSub,fD,e8,e_,fe,cY,dh,e1,↓af,eG,bI,dA,aX,gY,gw,gy,gE,gp]
 |true=>
  rw[iL] at e1;rw[uz];cases qa with
  |true=>
   rw[aJ rfl] at e2;simp only[gn,eM,eX,bO,bM,bP,reduceAdd,reduceSub,fD,e8,e_,fe,cY,dh,e1,↓af,cR,eG,bI,dA,bS,Kz,ba,bu,aV,bg,aW,bb,bq,br,bp,oY,bX,pR,zT,↓evMap,i2,e2,gY,gw,gy,gE,gp,aX]
  |false=>
   rw[aQ mY] at e2;simp only[gn,eM,eX,bO,bM,bP,reduceAdd,reduceSub,fD,e8,e_,fe,cY,dh,e1,↓af,cR,eG,bI,dA,bS,Kz,ba,bu,aV,bg,aW,bb,bq,br,bp,oY,bX,pR,zT,↓evMap,i2,e2,gY,gw,gy,gE,gp,aX]
abbrev mQ:=(Str×Int)×Int
abbrev Wy:=List (Str×Int)×Str
def rg(p:Str×Int):D:=.tup [.str p.1,.int p.2]
def ux(w:Wy):List D:=w.1.map rg++[.str w.2]
def kY(w:Wy):D:=.lst (ux w)
def jm(i:Nat):List (Str×Int)->List mQ
 |[]=>[]
 |p::l=>(p,(i:Int))::jm (i+1) l
def qM(w:Wy):List mQ:=jm 0 w.1
def fW(ws:List Wy):List mQ:=(ws.map qM).flatten
theorem Pu(i:Nat):∀(l:List (Str×Int)) (p:Str×Int),jm i (l++[p])=jm i l++[(p,((i+l.length:Nat):Int))]
 |[],p=>rfl
 |a::l,p=>by
  show _::jm (i+1) (l++[p])=_::(jm (i+1) l++_);rw[Pu (i+1) l p,hX,show i+1+l.length=i+(l.length+1) from by lia]
theorem FJ(i:Nat):∀l:List (Str×Int),(jm i l).length=l.length
 |[]=>rfl
 |a::l=>by show(jm (i+1) l).length+1=_;rw[FJ (i+1) l];rfl
def j9(ks:List mQ):List mQ->Bool
 |[]=>true
 |c::cs=>if c∈ks then false else j9 (ks++[c]) cs
def l5(c:mQ):D:=.tup [.int c.2,rg c.1]
def oK(c:mQ):TK:=.tp [.inl c.2,.tp [.inr c.1.1,.inl c.1.2]]
theorem Zv(a b:mQ)(e:oK a=oK b):a=b:=by
 obtain⟨⟨x,i⟩,m⟩:=a;obtain⟨⟨y,j⟩,n⟩:=b;unfold oK at e;injection e with e;injection e with e1 e2;injection e1 with e1;injection e2 with e2 _;injection e2 with e2;injection e2 with e2 e3;injection e2 with e2;injection e3 with e3 _;injection e3 with e3;dsimp only at e1 e2 e3;rw[e1,e2,e3]
theorem e7p(a:mQ):cL (l5 a)=some (oK a):=by unfold l5 oK rg;simp[cL,lQ,oM,TK.ok]
theorem QN:∀cs:List mQ,qH (cs.map l5)=some (cs.map oK)
 |[]=>rfl
 |c::cs=>by
  rw[cS,cS];unfold qH;rw[e7p,Option.bind_some,QN cs];rfl
theorem RG:∀(l ax:List TK),(l.foldl pT ax).length<=ax.length+l.length
 |[],ax=>cJ _
 |a::l,ax=>by
  rw[M4,hX];have h1:=RG l (pT ax a);have h2:(pT ax a).length<=ax.length+1:=by
   unfold pT;split
   .exact EE _
   .simp
  lia
theorem o6:∀(cs ks:List mQ),((cs.map oK).foldl pT (ks.map oK)).length=ks.length+cs.length↔j9 ks cs=true
 |[],ks=>by simp[j9]
 |c::cs,ks=>by
  rw[cS,M4,hX];have e:j9 ks (c::cs)=if c∈ks then false else j9 (ks++[c]) cs:=rfl
  rw[e];unfold pT;by_cases m:c∈ks
  .rw[aJ m,aJ (HU m)];constructor
   .intro z;have:=RG (cs.map oK) (ks.map oK);rw[bz,bz] at this;have z:((cs.map oK).foldl pT (ks.map oK)).length=_:=z;lia
   .intro z;cases z
  .rw[aQ m,aQ (λz=>by
    obtain⟨c',h1,h2⟩:=gA.mp z;rw[Zv _ _ h2] at h1;exact m h1)]
   have h:=o6 cs (ks++[c]);rw[iH,dy,jC,show ks.length+1+cs.length=ks.length+(cs.length+1) from by lia] at h
   exact h
theorem Wc(cs:List mQ)(hl:cs.length<1000):BE [.lst ((cs.map l5).map .Y)]=some (.Y (.int (dk (cs.map oK)).length)):=by
 show(dH (.lst ((cs.map l5).map .Y))).bind _=_;rw[Gv,Option.bind_some,QN,Option.bind_some,aJ (by rw[bz];exact hl)]
theorem Zw(cs:List mQ):((((dk (cs.map oK)).length:Nat):Int) == ((cs.length:Nat):Int))=j9 [] cs:=by
 have h:=o6 cs [];rw[rJ,As] at h;have h:(dk (cs.map oK)).length=cs.length↔j9 [] cs=true:=h;rw[tT,<-h,beq_iff_eq];lia
theorem Zx(s0:Option O)(ms:List mQ)(hl:ms.length<1000000)(L:List D)(p:Str×Int)(i:Int)(ea:cN L i=some (rg p)):ltB [s0,some (.lst ((ms.map l5).map .Y)),some (.Y (.lst L)),some (.Y (.int i))] =
  some (.nx,[s0,some (.lst (((ms++[(p,i)]).map l5).map .Y)),some (.Y (.lst L)),some (.Y (.int i))]):=by
 have e1:((ms.map l5).length<1000000)=True:=ku (by rw[bz];exact hl)
 have i1:cx [.Y (rg p),.Y (.ty "str")]=some (.Y (.bl false)):=Rl _;have e2:D.tup [.int i,rg p]=l5 (p,i):=rfl;rw[iH,cS,oO];generalize ms.map l5=M at *;generalize l5 (p,i)=md at *;generalize rg p=cp at *;unfold ltB;simp only[dh,oT,jR,bu,ba,aV,bg,aW,↓af,bb,bq,br,bp,cG,jS,ea,↓evMap,bI,i1,kI,lD,jP,lV,cU,fM,bO,bM,bP,reduceAdd,reduceLeDiff,gD,eZ,aX,jU,ia,bX,h_,e2,q8,e1,cy,bK,dA]
theorem Zy(s0 s1:Option O)(L:List D)(x:Str)(i:Int)(ea:cN L i=some (.str x)):ltB [s0,s1,some (.Y (.lst L)),some (.Y (.int i))]=some (.nx,[s0,s1,some (.Y (.lst L)),some (.Y (.int i))]):=by
 have i1:cx [.Y (.str x),.Y (.ty "str")]=some (.Y (.bl true)):=KN x;unfold ltB;simp only[dh,oT,jR,bu,ba,aV,bg,aW,↓af,bb,bq,br,bp,cG,jS,ea,↓evMap,bI,i1,kI,iL,cR,jP,lV,dA,bS]
theorem IL{q:List Nat}(h:List.range n=q++x::post):x=q.length/\q.length<n:=by
 have e:(List.range n)[q.length]?=some x:=by rw[h];simp
 obtain⟨h1,h2⟩:=eO.mp e;rw[mO] at h1;rw[List.getElem_range] at h2;exact⟨h2.symm,h1⟩
theorem Zz{α:Type}(L:List α)(k:Nat)(hk:k<L.length):cN L (k:Int)=some L[k]:=by
 unfold cN mH;rw[aJ (by lia),aJ (by lia)]
 show L[((k:Int)).toNat]?=_;rw[show((k:Int)).toNat=k from by lia]
 exact eP hk
theorem e7q(s0 a3:Option O)(w:Wy)(ms:List mQ)(hl:ms.length+w.1.length<1000000)(hw:w.1.length<900):∃b3,zZ [s0,some (.lst ((ms.map l5).map .Y)),some (.Y (kY w)),a3] =
  some (.nx,[s0,some (.lst (((ms++qM w).map l5).map .Y)),some (.Y (kY w)),b3]):=by
 have hlen:(ux w).length=w.1.length+1:=by unfold ux;simp
 obtain⟨Q0',e,b3,rfl⟩:=mB (g:=bj 3) (f:=ltB) (λk:Nat=>D.int (0+(k:Int))) (λpre Q0=>∃b3,Q0=[s0,some (.lst (((ms++jm 0 (w.1.take pre.length)).map l5).map .Y)),some (.Y (kY w)),b3]) (List.range (w.1.length+1)) [] [s0,some (.lst ((ms.map l5).map .Y)),some (.Y (kY w)),a3] ⟨a3,by simp[jm]⟩ (by
  rintro q x post Q0 hx ⟨b3,rfl⟩;obtain⟨e1,e2⟩:=IL hx;rw[e1,fI,dy,jC];have hn:∀(s1:Option O),bj 3 (.int (0+(q.length:Int))) [s0,s1,some (.Y (kY w)),b3]=some [s0,s1,some (.Y (kY w)),some (.Y (.int (q.length:Int)))]:=λs1=>by rw[M8];rfl
  rw[hn,Option.bind_some];have ea:=Zz (ux w) q.length (by lia)
  by_cases c:q.length<w.1.length
  .have eb:(ux w)[q.length]'(by lia)=rg w.1[q.length]:=by
    show(w.1.map rg++[D.str w.2])[q.length]'(by rw[dy,bz];exact iG c (Nat.le_add_right _ _))=_
    have hx:q.length<(w.1.map rg).length:=by rw[bz];exact c
    rw[List.getElem_append_left hx,List.getElem_map]
   rw[eb] at ea;have et:w.1.take (q.length+1)=w.1.take q.length++[w.1[q.length]]:=by rw[List.take_succ,eP c];rfl
   have tl:(w.1.take q.length).length=q.length:=by rw[ql];lia
   have:=Zx s0 (ms++jm 0 (w.1.take q.length)) (by rw[dy,FJ,tl];lia) (ux w) _ _ ea
   refine⟨_,this,some (.Y (.int (q.length:Int))),?_⟩;rw[et,Pu,tl,As,gz];rfl
  .have c:q.length=w.1.length:=by lia
   have eb:(ux w)[q.length]'(by lia)=.str w.2:=by
    show(w.1.map rg++[D.str w.2])[q.length]'(by rw[dy,bz,jC];lia)=_
    have hx:(w.1.map rg).length<=q.length:=by rw[bz];lia
    rw[List.getElem_append_right hx];simp[c]
   rw[eb] at ea;refine⟨_,Zy s0 _ (ux w) w.2 _ ea,some (.Y (.int (q.length:Int))),?_⟩;rw[EH (by lia),EH (by lia)]
   rfl)
 refine⟨b3,?_⟩;rw[<-qV,fI,mO,EH (by lia)] at e
 have el:cI [.Y (kY w)]=some (.Y (.int ((w.1.length+1:Nat):Int))):=by rw[<-hlen];rfl
 have i1:gK [.own (.Y (.int ((w.1.length+1:Nat):Int)))]=some ((w.1.length+1:Nat):Int):=e6p _ (by lia)
 have et:((w.1.length+1:Nat):Int).toNat=w.1.length+1:=by lia
 unfold qM;unfold zZ;rw[<-et] at e;generalize((w.1.length+1:Nat):Int)=n at *;generalize kY w=wd at *;generalize ltB=lb at *;simp only[xZ,ba,bu,aV,bg,aW,↓af,bb,bq,br,bp,el,i1,e]
theorem RH(s0:Option O):∀(ws:List Wy) (ms:List mQ) (a2 a3:Option O),ms.length+(fW ws).length<900->∃b2 b3,fz (bj 2) zZ (ws.map kY) [s0,some (.lst ((ms.map l5).map .Y)),a2,a3]=some (.nx,[s0,some (.lst (((ms++fW ws).map l5).map .Y)),b2,b3])
 |[],ms,a2,a3,_=>⟨a2,a3,by show some _=_;rw[show fW []=[] from rfl,kZ]⟩
 |w::ws,ms,a2,a3,hl=>by
  have es:fW (w::ws)=qM w++fW ws:=rfl;rw[es,dy] at hl;have hw:(qM w).length=w.1.length:=FJ 0 _;have hn:∀s1:Option O,bj 2 (kY w) [s0,s1,a2,a3]=some [s0,s1,some (.Y (kY w)),a3]:=λ_=>rfl
  obtain⟨b3,e1⟩:=e7q s0 a3 w ms (by lia) (by lia)
  obtain⟨c2,c3,e2⟩:=RH s0 ws (ms++qM w) (some (.Y (kY w))) b3 (by rw[dy];lia)
  refine⟨c2,c3,?_⟩;rw[cS,y9,hn,Option.bind_some,e1,Option.bind_some,es,<-gz];exact e2
theorem UD(ws:List Wy)(hl:(fW ws).length<900):E4 [.Y (.lst (ws.map kY))]=some (.Y (.bl (j9 [] (fW ws))),[none]):=by
 obtain⟨b2,b3,e⟩:=RH (some (.Y (.lst (ws.map kY)))) ws [] none none (by rw[rJ];lia)
 rw[fI] at e;have e:fz (bj 2) zZ (ws.map kY) [some (.Y (.lst (ws.map kY))),some (.lst []),none,none]=_:=e;have e1:=Wc (fW ws) (by lia)
 have e2:cI [.lst (((fW ws).map l5).map .Y)]=some (.Y (.int ((fW ws).length:Nat))):=by
  rw[oY,jy,nq];show some (O.Y (.int (((fW ws).map l5).length:Nat)))=_;rw[bz]
 have e3:=Zw (fW ws);generalize ws.map kY=L at *;generalize((fW ws).map l5).map O.Y=M at *;generalize(((fW ws).length:Nat):Int)=n at *;generalize(((dk ((fW ws).map oK)).length:Nat):Int)=k at *;generalize j9 [] (fW ws)=b at *;unfold E4;unfold Ig;generalize zZ=le at *;simp only[gn,eM,eX,bO,bM,bP,reduceSub,fD,e8,e_,fe,cY,eJ,fM,bb,↓af,reduceLeDiff,eZ,aX,reduceAdd,reduceLT,cy,bK,pS,cU,aV,aW,bX,e,eG,bu,ba,bg,bq,ju,iI,bp,e1,e2,br,nr,mT,and_self,oH,e3,gY,gw,gy,gE,gp]
section
variable{h:aw}{P:List Pl}{cart:Str}{n:Nat}{pl:Int}{N:Net}{r:Nd->Nd->Int}
theorem RI{b:Bool}(e:iw h P cart n u (.gi c) b):u≠.go c:=λq=>by
 rw[q] at e;generalize hx:Nd.go c=x at e;generalize hy:Nd.gi c=y at e;cases e with
 |@w m p q _ _ _=>
  injection hx with hx;injection hy with hy;have:=(mF (hx.symm.trans hy)).2;lia
 |_=>first|(cases hy;done)|(cases hx;done)
theorem Nt.one(t:Nt h P cart n pl N)(F:i8 (VV N) .st .en (rr N) r)(z1:0<rr N u (.gi c) - r u (.gi c))(z2:0<rr N v (.gi c) - r v (.gi c)):u=v:=oC λhuv=>by
 obtain⟨b,e⟩:=t.pos F z1;obtain⟨b2,e2⟩:=t.pos F z2;have hu:u∈VV N:=(mC ..).mpr (.inl ((t.ky u).mpr (.inr ⟨_,b,.inl e⟩)));have hv:v∈VV N:=(mC ..).mpr (.inl ((t.ky v).mpr (.inr ⟨_,b2,.inl e2⟩)));have hc:Nd.gi c∈VV N:=(mC ..).mpr (.inl ((t.ky _).mpr (.inr ⟨_,b,.inr e⟩)));have cs:=F.cs (.gi c) hc (λz=>by cases z) (λz=>by cases z)
 have ug:=RI e;have vg:=RI e2;have an:=F.an u (.gi c);have an2:=F.an v (.gi c);have th:=(t.vt F z1).2.1;have key:sm (λb=>rr N (.gi c) b - r (.gi c) b) (VV N)<=sm (λb=>((if b=.go c then rr N (.gi c) (.go c) - r (.gi c) (.go c) else 0)+(if b=u then rr N (.gi c) u - r (.gi c) u else 0))+(if b=v then rr N (.gi c) v - r (.gi c) v else 0)) (VV N):=uW λb _=>by
  by_cases c1:b=.go c
  .rw[aJ c1,aQ (λq=>ug (q.symm.trans c1)),aQ (λq=>vg (q.symm.trans c1)),c1];lia
  .rw[aQ c1];by_cases c2:b=u
   .rw[aJ c2,aQ (λq=>huv (c2.symm.trans q)),c2];lia
   .rw[aQ c2];by_cases c3:b=v
    .rw[aJ c3,c3];lia
    .rw[aQ c3];refine M9.mp λq=>?_
     obtain⟨b',e'⟩:=t.pos F (v:=.gi c) (w:=b) (by lia)
     exact c1 (B6 e').1
 rw[cs,uU,uU,qw _ F.nd,qw _ F.nd,qw _ F.nd,aJ hu,aJ hv] at key;by_cases m:Nd.go c∈VV N
 .rw[aJ m] at key;lia
 .rw[aQ m] at key;lia
def AU(h:aw)(cart:Str):List Pl->Prop
 |[]=>False
 |[a]=>cP (.inl cart) (jz h a)=true
 |a::b::l=>b∈iX h a/\AU h cart (b::l)
def flw(N:Net)(r:Nd->Nd->Int)(a b:Nd):Prop:=0<rr N a b - r a b
theorem JQ(t:Nt h P cart n pl N)(F:i8 (VV N) .st .en (rr N) r){w:List Pl}(f:tX N r c w):∀(m:Nat) (p:Pl),c=at' p m->
  w.length+m<=n/\(∃l,w=p::l)/\(∀q,q∈w->∃k,q∈nw h P k)/\AU h cart w/\∀(i:Nat) (a b:Pl),w[i]?=some a->w[i+1]?=some b->flw N r (.go (at' a ((m+i:Nat):Int))) (.gi (at' b ((m+i+1:Nat):Int))):=by
 induction f with
 |@last c z=>
  intro m p ec;obtain⟨b,e⟩:=t.pos F z;obtain⟨m',p',hm,hp,K0,Dt⟩:=Kq e;obtain⟨rfl,em⟩:=mF (ec.symm.trans K0);have em:m=m':=by lia
  subst em;subst ec;refine⟨by rw[jC];lia,⟨[],rfl⟩,λq mq=>?_,?_,λi a b ha hb=>by simp at hb⟩
  .rw[jD] at mq;subst mq;exact⟨m,hp⟩
  .rcases Dt with⟨_,q⟩|⟨q,_,z'⟩
   .exact q
   .cases z'
 |@step c d l z f ih=>
  intro m p ec;obtain⟨b,e⟩:=t.pos F z;obtain⟨m',p',hm,hp,K0,Dt⟩:=Kq e;obtain⟨rfl,em⟩:=mF (ec.symm.trans K0);have em:m=m':=by lia
  subst em;subst ec;rcases Dt with⟨z',_⟩|⟨q,hq,z'⟩
  .cases z'
  .injection z' with ed;have ed:d=at' q ((m+1:Nat):Int):=ed;obtain⟨i1,⟨l',rfl⟩,i3,i4,i5⟩:=ih (m+1) q ed;refine⟨by rw[hX];lia,⟨q::l',rfl⟩,λx mx=>?_,⟨hq,i4⟩,λi a b ha hb=>?_⟩
   .rcases eC.mp mx with mx|mx
    .subst mx;exact⟨m,hp⟩
    .exact i3 x mx
   .cases i with
    |zero=>
     have ha:some p=some a:=ha;have hb:some q=some b:=hb;cases ha;cases hb;rw[ed] at z;exact z
    |succ i=>
     have:=i5 i a b ha hb;rw[show m+1+i=m+(i+1) by lia] at this
     exact this
theorem XE(t:Nt h P cart n pl N)(F:i8 (VV N) .st .en (rr N) r){w v:List Pl}(f1:tX N r (at' p ((0:Nat):Int)) w)(f2:tX N r (at' q ((0:Nat):Int)) v):∀(i:Nat) (a:Pl),w[i]?=some a->v[i]?=some a->p=q:=by
 obtain⟨_,⟨l1,e1⟩,_,_,g1⟩:=JQ t F f1 0 p rfl;obtain⟨_,⟨l2,e2⟩,_,_,g2⟩:=JQ t F f2 0 q rfl;intro i
 induction i with
 |zero=>
  intro a h1 h2;rw[e1] at h1;rw[e2] at h2;have h1:some p=some a:=h1;have h2:some q=some a:=h2;cases h1;cases h2;rfl
 |succ i ih=>
  intro a h1 h2;have k1:i<w.length:=by have:=(eO.mp h1).1;lia
  have k2:i<v.length:=by have:=(eO.mp h2).1;lia
  have j1:=g1 i w[i] a (eP k1) h1;have j2:=g2 i v[i] a (eP k2) h2;have:=t.one F j1 j2;injection this with this;have:=(mF this).1;exact ih w[i] (eP k1) (by rw[this];exact eP k2)
end
theorem e7r(i:Int):cx [.Y (.int i),.Y (.ty "int")]=some (.Y (.bl true)):=by unfold cx;simp[jh,jJ,O.d]
theorem RJ(ds:List D):cx [.Y (.lst ds),.Y (.ty "list")]=some (.Y (.bl true)):=by unfold cx;simp[jh,jJ,O.d]
theorem QO(i:Int):Bl [.Y (.int i)]=some (.Y (.bl true),[none]):=by
 have e1:=e7r i;have e2:=e6o i;unfold Bl IE;simp only[gn,eM,eX,bO,bM,bP,reduceSub,e8,e_,fe,eG,Yw,cH,bu,ba,aV,aW,↓af,bI,bb,bq,br,bp,e1,Yx,e2,lD,aX,gY,gw,gy,gE,gp]
theorem e7s(p:Pl):Bb [.Y (bT p),.Y (.int 2)]=some (.Y (.bl true),[none,none]):=by
 obtain⟨n,c⟩:=p;have e1:=G1 [D.str n,.int c];have e2:=KN n;have e3:=J9 2 2;rw[pJ] at e3;have e4:=QO c;have e5:uw (.Y (.tup [D.str n,.int c])) (some 1) none=some (.tup [.Y (.int c)]):=rfl;have e6:=Iz (λbs=>bs.all id) [true]
 have e6:zt (λbs=>bs.all id) [.lst [.Y (.bl true)]]=some (.Y (.bl true)):=e6
 have e7:cI [.Y (.tup [D.str n,.int c])]=some (.Y (.int 2)):=rfl;unfold bT Bb Ih;simp only[gn,eM,eX,bO,bM,bP,reduceAdd,reduceSub,e8,e_,fe,cY,dh,uh,oT,jR,bu,ba,aV,aW,↓af,bI,bb,bq,br,bp,e1,kI,iL,cR,cH,e7,bg,e3,cG,jE,lG,↓evMap,e2,bS,eG,dA,oU,YR,cU,Fv,FU,FY,FT,e5,jU,ia,bX,h_,fD,pM,J5,iz,reduceLT,bK,aX,wc,vS,e4,zi,gD,eZ,J4,qP,pH,pO,e6,gY,gw,gy,gE,gp]
def fO(cart:Str)(x:Nat×List Pl):D:=.tup [.int (x.1:Int),kY (x.2,cart)]
structure RW (N:Net) (r:Nd->Nd->Int) (x:Nat×Pl) (y:Nat×List Pl):Prop where
 k:y.1=x.1
 f:tX N r (at' x.2 ((0:Nat):Int)) y.2
theorem ZA{a:List (Nat×Pl)}(p:Paired (Way N r cart) a W):∃ws,Paired (RW N r) a ws/\W=ws.map (fO cart):=by
 induction p with
 |nil=>exact⟨[],.nil,rfl⟩
 |@cons x d a W hx _ ih=>
  obtain⟨ws,q1,q2⟩:=ih;obtain⟨w,f,e⟩:=hx.w;exact⟨(x.1,w)::ws,.cons ⟨rfl,f⟩ q1,by rw[cS,<-q2,e];rfl⟩
def pq(cart:Str)(w:List Pl):List Sp:=w.map Sum.inr++[.inl cart]
theorem e9o(cart:Str)(w:List Pl):(pq cart w).map au=ux (w,cart):=by
 unfold pq ux;rw[iH,lU];rfl
theorem QP(m:cP s (jz h p)=true):rC h (.inr p,s)=true:=by
 unfold jz at m;rw[Xl] at m;unfold rC;rw[show(!(Sum.inr p:Sp).isLeft)=true from rfl,uz];exact m
theorem OL{h:aw}{cart:Str}:∀{w:List Pl},AU h cart w->(pairs (pq cart w)).all (rC h)=true
 |[],l=>bQ l id
 |[a],l=>by
  show([((Sum.inr a:Sp),(Sum.inl cart:Sp))].all (rC h))=true;rw[rH,HW,QP l];rfl
 |a::b::w,⟨l1,l2⟩=>by
  have ih:=OL l2;show((((Sum.inr a:Sp),(Sum.inr b:Sp))::pairs (pq cart (b::w))).all (rC h))=true;rw[rH,ih,QP (ij.mpr (je.mp l1))];rfl
theorem We{w:List Pl}(l:AU h cart (p::w)):p6 h (.inr p) (.inl cart) (pq cart (p::w))=true:=by
 unfold p6;rw[OL l];have h1:2<=(pq cart (p::w)).length:=by unfold pq;rw[dy,bz,hX,jC];lia
 have h2:jW (pq cart (p::w))=.inr p:=rfl;have h3:rS (pq cart (p::w))=.inl cart:=by
  unfold rS pq;rw[List.getLastD_concat]
 rw[fY h1,fY h2,fY h3];rfl
def wG(H:D)(PL:List D)(c:Str)(T:Int)(W:List D)(k:Int)(a6 a7:Option O):Gm:=[some (.Y H),some (.Y (.lst PL)),some (.Y (.str c)),some (.Y (.int T)),some (.Y (.lst W)),some (.Y (.int k)),a6,a7]
section
variable(H:D)(PL:List D)(c:Str)(T:Int)(W:List D)
theorem e9p(k0 k:Int)(L:List D)(a7:Option O):vA (wG H PL c T W k0 (some (.Y (.tup [.int k,.lst L]))) a7)=some (false,wG H PL c T W k0 (some (.Y (.tup [.int k,.lst L]))) a7):=by
 have e1:=G1 [D.int k,.lst L];have e2:cI [.Y (.tup [D.int k,.lst L])]=some (.Y (.int 2)):=rfl;have e3:=J9 2 2;rw[pJ] at e3;have e4:=QO k;have e5:=RJ L;unfold vA wG;simp only[uh,oT,jR,bu,ba,aV,bg,aW,↓af,bI,bb,bq,br,bp,e1,kI,iL,cR,cH,e2,e3,vS,cG,jE,lG,↓evMap,ia,bX,h_,eM,eX,e4,zi,mR,e5,bS]
theorem e9q(k0 k:Int)(L:List D)(a7:Option O)(h1:k0<k)(h2:k<(PL.length:Int))(h3:¬(T+1<(L.length:Int))):vB (wG H PL c T W k0 (some (.Y (.tup [.int k,.lst L]))) a7)=some (false,wG H PL c T W k0 (some (.Y (.tup [.int k,.lst L]))) a7):=by
 have e1:cI [.Y (.lst PL)]=some (.Y (.int (PL.length:Int))):=rfl;have e2:cI [.Y (.lst L)]=some (.Y (.int (L.length:Int))):=rfl;generalize(PL.length:Int)=n1 at *;generalize(L.length:Int)=n2 at *;have c1:=fY h1;have c2:=fY h2;unfold vB wG;simp only[uh,oT,W6,aV,bg,aW,↓af,bu,ba,bI,bb,bq,br,bp,cG,jE,lG,↓evMap,c1,e1,c2,aX,iL,cR,cH,mR,e2,iA,fN,h3,decide_false,bS]
theorem e9r(k:Int)(L:List D)(pd:D)(a7:Option O)(ha:cN PL k=some pd)(hg:zc [.Y H,.Y pd,.Y (.str c),.Y (.lst L)]=some (.Y (.bl true),[none,none,none,none])):vC (wG H PL c T W k (some (.Y (.tup [.int k,.lst L]))) a7)=some (false,wG H PL c T W k (some (.Y (.tup [.int k,.lst L]))) a7):=by
 unfold vC wG;simp only[oT,jR,vS,ba,aV,aW,↓af,bu,bg,bb,bq,br,bp,cG,jS,ha,↓evMap,bI,jE,mR,ia,bX,h_,eM,eX,hg,zi,kI,iL]
theorem MH(k:Int)(a6:Option O)(s:Sp):Ah (wG H PL c T W k a6 (some (.Y (au s))))=some (.nx,wG H PL c T W k a6 (some (.Y (au s)))):=by
 have e1:=JJ s;cases s with
 |inl x=>
  have e1:cx [.Y (au (.inl x)),.Y (.ty "str")]=some (.Y (.bl true)):=e1;generalize au (.inl x)=d at *;unfold Ah wG;simp only[dh,lJ,oT,jR,bu,ba,aV,bg,aW,↓af,bI,bb,bq,br,bp,e1,kI,iL,cR,vS,ia,bX,h_,eM,eX,bS,eG,dA]
 |inr p=>
  have e1:cx [.Y (au (.inr p)),.Y (.ty "str")]=some (.Y (.bl false)):=e1;have e2:Bb [.Y (au (.inr p)),.Y (.int 2)]=some (.Y (.bl true),[none,none]):=e7s p;generalize au (.inr p)=d at *;unfold Ah wG;simp only[dh,lJ,oT,jR,bu,ba,aV,bg,aW,↓af,bI,bb,bq,br,bp,e1,kI,lD,vS,ia,bX,h_,eM,eX,e2,zi,iL,aX,cR,eG,dA,bS]
theorem MG(k:Int)(rd:List Sp)(a7:Option O):∃b7,HK (wG H PL c T W k (some (.Y (.tup [.int k,.lst (rd.map au)]))) a7)=some (.nx,wG H PL c T W k (some (.Y (.tup [.int k,.lst (rd.map au)]))) b7):=by
 obtain⟨Q0',e,b7,rfl⟩:=Jd (g:=bj 7) (f:=Ah) au (λQ0=>∃b7,Q0=wG H PL c T W k (some (.Y (.tup [.int k,.lst (rd.map au)]))) b7) rd (wG H PL c T W k (some (.Y (.tup [.int k,.lst (rd.map au)]))) a7) ⟨a7,rfl⟩ (by
  rintro s _ Q0 ⟨b7,rfl⟩;have hn:bj 7 (au s) (wG H PL c T W k (some (.Y (.tup [.int k,.lst (rd.map au)]))) b7)=some (wG H PL c T W k (some (.Y (.tup [.int k,.lst (rd.map au)]))) (some (.Y (au s)))):=rfl;rw[hn,Option.bind_some];exact⟨_,MH H PL c T W k _ s,_,rfl⟩)
 refine⟨b7,?_⟩;generalize rd.map au=L at *;unfold wG at e;unfold HK wG;generalize Ah=ws at *;simp only[pS,cU,bu,ba,aV,bg,aW,↓af,bI,bb,bq,br,bp,cG,jE,mR,↓evMap,bX,e]
theorem MF(k0 k:Int)(rd:List Sp)(pd:D)(a7:Option O)(h1:k0<k)(h2:k<(PL.length:Int))(h3:¬(T+1<(rd.length:Int)))(ha:cN PL k=some pd)(hg:zc [.Y H,.Y pd,.Y (.str c),.Y (.lst (rd.map au))]=some (.Y (.bl true),[none,none,none,none])):
  ∃b7,Ag (wG H PL c T W k0 (some (.Y (.tup [.int k,.lst (rd.map au)]))) a7)=some (.nx,wG H PL c T W k (some (.Y (.tup [.int k,.lst (rd.map au)]))) b7):=by
 have e1:=e9p H PL c T W k0 k (rd.map au) a7;have e2:=e9q H PL c T W k0 k (rd.map au) a7 h1 h2 (by rw[bz];exact h3)
 obtain⟨b7,e3⟩:=MG H PL c T W k rd a7;have e4:=e9r H PL c T W k (rd.map au) pd b7 ha hg;refine⟨b7,?_⟩;generalize rd.map au=L at *;unfold Ag;unfold wG at *;generalize vA=t1 at *;generalize vB=t2 at *;generalize vC=t3 at *;generalize HK=tf at *;simp only[cY,dh,e1,↓af,cR,eG,bI,dA,bS,e2,eJ,bu,ba,aV,bg,aW,bb,bq,br,bp,cG,jE,lG,↓evMap,bO,bM,bP,reduceAdd,reduceLT,cy,bK,aX,e3,e4]
end
theorem QQ:∀(cs ks:List mQ),cs.Nodup->(∀c,c∈cs->c∉ks)->j9 ks cs=true
 |[],ks,_,_=>rfl
 |c::cs,ks,nd,dj=>by
  obtain⟨n1,n2⟩:=hU.mp nd;show(if c∈ks then false else j9 (ks++[c]) cs)=true
  rw[aQ (dj c mW)];refine QQ cs _ n2 λx m z=>?_
  rcases eI.mp z with z|z
  .exact dj x (oA _ m) z
  .rw[jD] at z;subst z;exact n1 m
theorem FK:∀{w:List Pl} {k:Nat} {c:mQ},c∈jm k w->∃j:Nat,w[j]?=some c.1/\c.2=((k+j:Nat):Int)
 |p::w,k,c,m=>by
  rcases eC.mp m with m|m
  .subst m;exact⟨0,rfl,rfl⟩
  .obtain⟨j,h1,h2⟩:=FK m;exact⟨j+1,h1,by rw[h2];congr 1;lia⟩
theorem QR:∀(w:List Pl) (k:Nat),(jm k w).Nodup
 |[],_=>xi
 |p::w,k=>hU.mpr ⟨λm=>by
   obtain⟨j,_,e⟩:=FK m;have e:(k:Int)=((k+1+j:Nat):Int):=e;lia,QR w (k+1)⟩
theorem Pw{α β:Type}{R:α->β->Prop}{a:List α}{b:List β}(p:Paired R a b):∀y,y∈b->∃x,x∈a/\R x y:=by
 induction p with
 |nil=>intro y m;cases m
 |cons h _ ih=>
  intro y m;rcases eC.mp m with m|m
  .subst m;exact⟨_,mW,h⟩
  .obtain⟨x,m1,r⟩:=ih y m;exact⟨x,oA _ m1,r⟩
theorem QS{α β:Type}{R:α->β->Prop}{S:α->α->Prop}{T:β->β->Prop}{a:List α}{b:List β}(p:Paired R a b)(st:∀x x' y y',R x y->R x' y'->S x x'->T y y'):a.Pairwise S->b.Pairwise T:=by
 induction p with
 |nil=>intro _;exact .nil
 |cons h t ih=>
  intro s;obtain⟨s1,s2⟩:=HX.mp s;refine HX.mpr ⟨λy m=>?_,ih s2⟩
  obtain⟨x,m1,r⟩:=Pw t y m;exact st _ _ _ _ h r (s1 x m1)
theorem Gk:∀{ps:List Pl} {k:Nat} {x:Nat×Pl},x∈pY k ps->∃j:Nat,ps[j]?=some x.2/\x.1=k+j
 |p::ps,k,x,m=>by
  rcases eC.mp m with m|m
  .subst m;exact⟨0,rfl,rfl⟩
  .obtain⟨j,h1,h2⟩:=Gk m;exact⟨j+1,h1,by lia⟩
theorem RK:∀(ps:List Pl) (k:Nat),(pY k ps).Pairwise λx y=>x.1<y.1
 |[],_=>.nil
 |p::ps,k=>HX.mpr ⟨λy m=>by
   obtain⟨j,_,e⟩:=Gk m;show k<y.1;lia,RK ps (k+1)⟩
theorem RL:∀{ps:List Pl} (k:Nat),ps.Nodup->(pY k ps).Pairwise λx y=>x.2≠y.2
 |[],_,_=>.nil
 |p::ps,k,nd=>by
  obtain⟨n1,n2⟩:=hU.mp nd;refine HX.mpr ⟨λy m z=>?_,RL (k+1) n2⟩
  obtain⟨j,e,_⟩:=Gk m;have z:p=y.2:=z;rw[<-z] at e;exact n1 (jr e)
structure EZ (h:aw) (P:List Pl) (cart:Str) (n:Nat) (ys:List (Nat×List Pl)):Prop where
 up:ys.Pairwise λx y=>x.1<y.1
 el:∀y,y∈ys->∃p l,y.2=p::l/\P[y.1]?=some p/\y.2.length<=n/\AU h cart y.2/\∀q,q∈y.2->VP h q
 tg:j9 [] (fW (ys.map λy=>(y.2,cart)))=true
theorem Wf(ok:fZ h)(nd:P.Nodup)(v:∀p,p∈P->VP h p)(td:Told h P cart n W C):∃ys,EZ h P cart n ys/\W=ys.map (fO cart):=by
 obtain⟨pl,N,N',l,j8,t,F,ms,me,cl,pr,hC⟩:=td.ex;obtain⟨ys,p2,eW⟩:=ZA pr;refine⟨ys,⟨?_,?_,?_⟩,eW⟩
 .exact QS p2 (λx x' y y' r r' s=>by rw[r.k,r'.k];exact s) ((RK P 0).filter _)
 .intro y m;obtain⟨x,mx,r⟩:=Pw p2 y m;obtain⟨j,ej,hj⟩:=Gk (jB.mp mx).1;obtain⟨f1,⟨lw,f2⟩,f3,f4,_⟩:=JQ t F r.f 0 x.2 rfl;refine⟨x.2,lw,f2,by rw[r.k,hj,As];exact ej,by lia,f4,λq mq=>?_⟩
  obtain⟨k,hk⟩:=f3 q mq;exact(Cv ok nd v k).2 q hk
 .refine QQ _ _ ?_ λc _ z=>by cases z
  unfold fW;refine List.pairwise_flatten.mpr ⟨λs m=>?_,?_⟩
  .obtain⟨w,_,rfl⟩:=gA.mp m;exact QR _ _
  .rw[lU];refine M5.mpr (QS p2 (λx x' y y' r r' s=>?_) ((RL 0 nd).filter _))
   intro c m1 c' m2 e;subst e;obtain⟨j,h1,h2⟩:=FK m1;obtain⟨j',Lf,wD⟩:=FK m2;have ej:j=j':=by lia
   subst ej;exact s (XE t F r.f r'.f j c.1 h1 Lf)
theorem Px(cart:Str)(n:Nat):∀ys:List (Nat×List Pl),(∀y,y∈ys->y.2.length<=n)->(fW (ys.map λy=>(y.2,cart))).length<=ys.length*n
 |[],_=>kr _
 |y::ys,hl=>by
  have ih:=Px cart n ys λy m=>hl y (oA _ m)
  have h1:=hl y mW;show(jm 0 y.2++fW (ys.map λy=>(y.2,cart))).length<=_
  rw[dy,FJ,hX,Nat.add_mul];lia
theorem e7t{N:Nat}(up:ys.Pairwise λx y=>x.1<y.1)(hb:∀y,y∈ys->y.1<N):ys.length<=N:=by
 have nd:(ys.map (·.1)).Nodup:=M5.mpr (up.imp λh=>ly h)
 have:=vN nd (m:=List.range N) λx m=>by
  obtain⟨y,my,rfl⟩:=gA.mp m;exact oz.mpr (hb y my)
 rw[bz,mO] at this;exact this
def iN:List (Nat×List Pl)->Int
 |[] => -1
 |y::ys=>match ys with
  |[]=>(y.1:Int)
  |_=>iN ys
theorem IM:∀(ys:List (Nat×List Pl)) (y:Nat×List Pl),iN (ys++[y])=(y.1:Int)
 |[],y=>rfl
 |[a],y=>rfl
 |a::b::ys,y=>by
  show iN (b::ys++[y])=_;exact IM (b::ys) y
theorem XF{q:List (Nat×List Pl)}{y:Nat×List Pl}{post:List (Nat×List Pl)}(up:(q++y::post).Pairwise λx y=>x.1<y.1):iN q<(y.1:Int):=by
 rcases List.eq_nil_or_concat q with e|⟨q',z,e⟩
 .subst e;show(-1:Int)<_;lia
 .subst e;rw[List.concat_eq_append,IM];rw[List.concat_eq_append,gz] at up;have:=(List.pairwise_append.mp up).2.1;have:=(HX.mp this).1 y mW;lia
theorem e9s(v:VP h p):Ib h (.inr p):=by
 obtain⟨n,c⟩:=p;obtain⟨b,hb,e,_⟩:=v;exact⟨b,hb,e⟩
theorem ZC(ok:fZ h)(hc:cart∈h.aT)(T:Int)(n:Nat)(hT:T=n)(hn:n<=12)(hP:P.length<=20)(wy:EZ h P cart n ys)(Wd:List D):
  ∃b6 b7,fz (bj 6) Ag (ys.map (fO cart)) (wG (dZ h) (P.map bT) cart T Wd (-1) none none)=some (.nx,wG (dZ h) (P.map bT) cart T Wd (iN ys) b6 b7):=by
 obtain⟨Q0',e,b6,b7,rfl⟩:=mB (g:=bj 6) (f:=Ag) (fO cart) (λpre Q0=>∃b6 b7,Q0=wG (dZ h) (P.map bT) cart T Wd (iN pre) b6 b7) ys [] (wG (dZ h) (P.map bT) cart T Wd (-1) none none) ⟨none,none,rfl⟩ (by
  rintro q y post Q0 ey ⟨b6,b7,rfl⟩;rw[fI] at *;have my:y∈ys:=by rw[ey];simp
  obtain⟨p,l,e1,e2,e3,e4,e5⟩:=wy.el y my;have up:=wy.up;rw[ey] at up;have k1:=XF up;rw[IM];obtain⟨hk,_⟩:=eO.mp e2;have hg:=Zu h ok (.inr p) (.inl cart) (pq cart y.2) (λs m=>by
   rcases eI.mp m with m|m
   .obtain⟨q,mq,rfl⟩:=gA.mp m;exact e9s (e5 q mq)
   .rw[jD] at m;subst m;exact hc) (by unfold pq;rw[dy,bz,jC];lia)
  rw[e1] at e4;have gt:=We e4;rw[<-e1] at gt;rw[gt] at hg;have ha:cN (P.map bT) (y.1:Int)=some (bT p):=by
   apply oE;rw[i7,e2];rfl
  have hn:bj 6 (fO cart y) (wG (dZ h) (P.map bT) cart T Wd (iN q) b6 b7)=some (wG (dZ h) (P.map bT) cart T Wd (iN q) (some (.Y (fO cart y))) b7):=rfl;rw[hn,Option.bind_some];have ee:fO cart y=.tup [.int (y.1:Int),.lst ((pq cart y.2).map au)]:=by
   rw[e9o];rfl
  rw[ee];obtain⟨c7,st⟩:=MF (dZ h) (P.map bT) cart T Wd (iN q) (y.1:Int) (pq cart y.2) (bT p) b7 k1 (by rw[bz];lia) (by unfold pq;rw[dy,bz,jC];lia) ha hg
  exact⟨_,st,_,c7,rfl⟩)
 exact⟨b6,b7,e⟩
theorem e7u(ok:fZ h)(hc:cart∈h.aT)(T:Int)(n:Nat)(hT:T=n)(hn:n<=12)(hP:P.length<=20)(wy:EZ h P cart n ys):
  E1 [.Y (dZ h),.Y (.lst (P.map bT)),.Y (.str cart),.Y (.int T),.Y (.lst (ys.map (fO cart)))]=some (.Y (.bl true),[none,none,none,none,none]):=by
 obtain⟨b6,b7,e1⟩:=ZC ok hc T n hT hn hP wy (ys.map (fO cart));have hl:ys.length<=P.length:=e7t wy.up λy m=>by
  obtain⟨p,l,_,e2,_⟩:=wy.el y m;exact(eO.mp e2).1
 have hs:=Px cart n ys λy m=>by
  obtain⟨p,l,_,_,e3,_⟩:=wy.el y m;exact e3
 have nP:ys.length*n<=20*12:=Nat.mul_le_mul (by lia) hn
 have e2:=UD (ys.map λy=>(y.2,cart)) (by lia)
 rw[wy.tg,lU] at e2;obtain⟨qR,⟨x0,rfl⟩,e3⟩:=Bp (g:=bj 0) (ct:=fQ) (ce:=gB bB (aa 0) (gC (.int 1))) (λQ0=>∃x0,Q0=[x0]) (fO cart) (λy=>kY (y.2,cart)) ys [none] ⟨none,rfl⟩ (by lia) (by
  rintro y m Q0 ⟨x0,rfl⟩;refine⟨[some (.Y (fO cart y))],?_,_,rfl⟩;unfold fO;generalize kY (y.2,cart)=d;generalize(y.1:Int)=k;simp only[vU,iz,bO,bM,bP,reduceLT,bK,aX,↓af,wc,bu,ba,aV,aW,bI,bb,bq,br,bp,cG,jE,mR,↓evMap])
 have e4:=RJ (ys.map (fO cart));have e5:ys.map (kY∘λy=>(y.2,cart))=ys.map λy=>kY (y.2,cart):=rfl
 rw[e5] at e2;generalize ys.map (fO cart)=W at *;generalize(ys.map λy=>kY (y.2,cart))=L at *
 generalize iN ys=lk at *;unfold wG at e1;unfold E1;unfold Ie;unfold Tp;generalize Ag=wb at *;simp only[gn,eM,eX,bO,bM,bP,reduceAdd,reduceSub,fD,e8,e_,fe,cY,dh,oT,jR,bu,ba,aV,bg,aW,↓af,bI,bb,bq,br,bp,e4,kI,iL,cR,eG,dA,bS,eJ,Gx,Int.reduceNeg,reduceLT,cy,bK,aX,pS,cU,bX,e1,vS,oU,vZ,pM,e3,qP,pH,pO,ia,jy,rR,h_,e2,zi,gY,gw,gy,gE,gp]
structure lE (h:aw) (cart:Str) (hs:List Sp):Prop where
 v:∀s,s∈hs->s=.inl cart\/∃p,s=.inr p/\VP h p
 d:∀(i j:Nat) (p:Pl),hs[i]?=some (.inr p)->hs[j]?=some (.inr p)->i=j
def T9(h:aw)(cart:Str)(a b:Sp):Prop:=a=b\/∃p,a=.inr p/\b∈fX h (.inr p)/\(b=.inl cart\/∃q,b=.inr q)
structure y6 (h:aw) (cart:Str) (h0 hs:List Sp):Prop where
 l:hs.length=h0.length
 s:∀(k:Nat) (a b:Sp),h0[k]?=some a->hs[k]?=some b->T9 h cart a b
theorem Ks(m:s∈fX h (.inr p)):s∈jz h p:=jN _ m
structure AV (h:aw) (P:List Pl) (C:List Ct) (m:Nat) (hs:List Sp) (f:List (Option Ct)):Prop where
 l:f.length=hs.length
 n:∀(i j:Nat) (c:Ct),f[i]?=some (some c)->f[j]?=some (some c)->i=j
 c:∀(i:Nat) (x:Ct),f[i]?=some (some x)->x∈C/\∃(p:Pl) (k:Nat),x=at' p (k:Int)/\k<m
 u:∀k:Nat,f[k]?=some none->∃p,hs[k]?=some (.inr p)/\y4 h P C m p
def yA(C:List Ct)(m:Nat)(o:Option Ct)(s:Sp):Option Ct:=match o with
 |some c=>some c
 |none=>match s with
  |.inr p=>if at' p (m:Int)∈C then some (at' p (m:Int)) else none
  |.inl _=>none
theorem GV(hl:f.length=hs.length){o:Option Ct}(e:(List.zipWith (yA C m) f hs)[k]?=some o):∃a s,f[k]?=some a/\hs[k]?=some s/\yA C m a s=o:=by
 rw[List.getElem?_zipWith] at e;cases ha:f[k]? with
 |none=>rw[ha] at e;cases e
 |some a=>
  cases hb:hs[k]? with
  |none=>rw[ha,hb] at e;cases e
  |some s=>
   rw[ha,hb] at e;cases e;exact⟨a,s,rfl,rfl,rfl⟩
theorem FL{o:Option Ct}(e:yA C m o s=some c):o=some c\/(o=none/\∃p,s=.inr p/\at' p (m:Int)∈C/\c=at' p (m:Int)):=by
 unfold yA at e;cases o with
 |some x=>exact .inl e
 |none=>
  cases s with
  |inl x=>cases e
  |inr p=>
   dsimp only at e;split at e
   .rename_i hc
    cases e;exact .inr ⟨rfl,p,rfl,hc,rfl⟩
   .cases e
theorem XG{o:Option Ct}(e:yA C m o (.inr p)=none):o=none/\at' p (m:Int)∉C:=by
 unfold yA at e;cases o with
 |some x=>cases e
 |none=>
  dsimp only at e;split at e
  .cases e
  .rename_i hc
   exact⟨rfl,hc⟩
theorem ZD{jH:List Sp}(k:AV h P C m hs f)(o:lE h cart hs)(t:y6 h cart hs jH)(sp:Sep h P cart n C)(hm:m<n):AV h P C (m+1) jH (List.zipWith (yA C m) f hs) where
 l:=by rw[List.length_zipWith,k.l,t.l,MW]
 n:=by
  intro i j c e1 e2;obtain⟨a,s,a1,s1,r1⟩:=GV k.l e1;obtain⟨b,s',b1,s2,r2⟩:=GV k.l e2;rcases FL r1 with q1|⟨q1,p,q2,q3,q4⟩
  .rcases FL r2 with w1|⟨w1,p',w2,w3,w4⟩
   .rw[q1] at a1;rw[w1] at b1;exact k.n i j c a1 b1
   .rw[q1] at a1;obtain⟨_,p2,k2,e,lt⟩:=k.c i c a1;have:=(mF (w4.symm.trans e)).2;lia
  .rcases FL r2 with w1|⟨w1,p',w2,w3,w4⟩
   .rw[w1] at b1;obtain⟨_,p2,k2,e,lt⟩:=k.c j c b1;have:=(mF (q4.symm.trans e)).2;lia
   .have:=(mF (q4.symm.trans w4)).1;subst this;rw[q2] at s1;rw[w2] at s2;exact o.d i j p s1 s2
 c:=by
  intro i x e;obtain⟨a,s,a1,s1,r1⟩:=GV k.l e;rcases FL r1 with q1|⟨q1,p,q2,q3,q4⟩
  .rw[q1] at a1;obtain⟨h1,p2,k2,e2,lt⟩:=k.c i x a1;exact⟨h1,p2,k2,e2,by lia⟩
  .rw[q4];exact⟨q3,p,m,rfl,by lia⟩
 u:=by
  intro i e;obtain⟨a,s,a1,s1,r1⟩:=GV k.l e;have a0:a=none:=by
   cases a with
   |none=>rfl
   |some c=>cases r1
  subst a0;obtain⟨p,hp,rc⟩:=k.u i a1;rw[s1] at hp;cases hp;obtain⟨_,nc⟩:=XG r1;have hi:i<jH.length:=by rw[t.l];exact(eO.mp s1).1
  have st:=t.s i _ _ s1 (eP hi);rcases st with st|⟨p',ep,ms,hq⟩
  .refine⟨p,by rw[eP hi,<-st],p,rc,nc,je.mpr (hG _ (jD.mpr rfl))⟩
  .cases ep;rcases hq with hq|⟨q,hq⟩
   .rw[hq] at ms;exact bQ (ij.mpr (Ks ms)) (sp m hm p rc nc)
   .rw[hq] at ms;exact⟨q,by rw[eP hi,hq],p,rc,nc,je.mpr (Ks ms)⟩
theorem KU:∀(f:List (Option Ct)),(∀(i j:Nat) (c:Ct),f[i]?=some (some c)->f[j]?=some (some c)->i=j)->(f.filterMap id).Nodup
 |[],_=>xi
 |none::f,h=>KU f λi j c e1 e2=>by have:=h (i+1) (j+1) c e1 e2;lia
 |some x::f,h=>by
  show(x::f.filterMap id).Nodup;refine hU.mpr ⟨λm=>?_,KU f λi j c e1 e2=>by have:=h (i+1) (j+1) c e1 e2;lia⟩
  obtain⟨a,ma,ea⟩:=vE.mp m;have ea:a=some x:=ea;subst ea;obtain⟨j,hj,ej⟩:=HM.mp ma;have:=h 0 (j+1) x rfl (by rw[EJ,eP hj,ej])
  lia
theorem RM(cart:Str):∀(hs:List Sp) (f:List (Option Ct)),f.length=hs.length->(∀k:Nat,f[k]?=some none->∃p,hs[k]?=some (.inr p))->(hs.countP λs=>decide (s=.inl cart))<=(f.filterMap id).length
 |[],f,_,_=>kr _
 |s::hs,[],hl,_=>by cases hl
 |s::hs,o::f,hl,u=>by
  have ih:=RM cart hs f (by rw[hX,hX] at hl;lia) λk e=>u (k+1) e
  rw[List.countP_cons];cases o with
  |none=>
   obtain⟨p,e⟩:=u 0 rfl;have e:some s=some (.inr p):=e;cases e;show _<=(f.filterMap id).length;rw[show decide ((Sum.inr p:Sp)=.inl cart)=false from iu λz=>by cases z]
   simpa using ih
  |some x=>
   show _<=(f.filterMap id).length+1;split <;> lia
theorem e7v(k:AV h P C m hs f):(hs.countP λs=>decide (s=.inl cart))<=C.length:=by
 refine lT (RM cart hs f k.l λi e=>?_) (vN (KU f k.n) λx mx=>?_)
 .obtain⟨p,e,_⟩:=k.u i e;exact⟨p,e⟩
 .obtain⟨a,ma,ea⟩:=vE.mp mx;have ea:a=some x:=ea;subst ea;obtain⟨j,hj,ej⟩:=HM.mp ma;exact(k.c j x (by rw[eP hj,ej])).1
theorem XH:AV h P C 0 (P.map Sum.inr) (List.replicate P.length none) where
 l:=by rw[MQ,bz]
 n:=by
  intro i j c e;rw[HY] at e;split at e <;> cases e
 c:=by
  intro i c e;rw[HY] at e;split at e <;> cases e
 u:=by
  intro k e;rw[HY] at e;split at e
  .rename_i hk
   exact⟨P[k],by rw[i7,eP hk];rfl,xh hk⟩
  .cases e
theorem XI(nd:P.Nodup)(v:∀p,p∈P->VP h p):lE h cart (P.map Sum.inr) where
 v:=by
  intro s m;obtain⟨p,mp,rfl⟩:=gA.mp m;exact .inr ⟨p,rfl,v p mp⟩
 d:=by
  intro i j p e1 e2;rw[i7] at e1 e2;obtain⟨a,a1,a2⟩:=iM.mp e1;obtain⟨b,b1,b2⟩:=iM.mp e2;cases a2;cases b2;obtain⟨hi,ei⟩:=eO.mp a1;obtain⟨hj,ej⟩:=eO.mp b1;have pw:=List.pairwise_iff_getElem.mp nd;rcases EO i j with c|c|c
  .exact bQ (ei.trans ej.symm) (pw i j hi hj c)
  .exact c
  .exact bQ (ej.trans ei.symm) (pw j i hj hi c)
theorem e7w(ok:fZ h)(o:lE h cart hs)(t:y6 h cart h0 hs)(e0:h0[k]?=some (.inr p))(e1:hs[k]?=some (.inr p))(ms:s∈fX h (.inr p))(hf:s=.inl cart\/∃q,s=.inr q/\s∉hs):lE h cart (hs.set k s)/\y6 h cart h0 (hs.set k s):=by
 have hk:k<hs.length:=(eO.mp e1).1;have vp:VP h p:=by
  rcases o.v _ (jr e1) with z|⟨p',z,v⟩
  .cases z
  .cases z;exact v
 have xN:(hs.set k s)[k]?=some s:=by rw[List.getElem?_set_self hk]
 have rT:∀i,i≠k->(hs.set k s)[i]?=hs[i]?:=λi hi=>EB (λz=>hi z.symm)
 refine⟨⟨λx m=>?_,λi j q e2 e3=>?_⟩,⟨by rw[ED,t.l],λi a b e2 e3=>?_⟩⟩
 .rcases List.mem_or_eq_of_mem_set m with m|m
  .exact o.v x m
  .rw[m];rcases hf with hf|⟨q,hf,_⟩
   .exact .inl hf
   .rw[hf] at ms;exact .inr ⟨q,hf,OG ok vp (je.mpr (Ks ms))⟩
 .by_cases ci:i=k
  .by_cases cj:j=k
   .rw[ci,cj]
   .rw[ci,xN] at e2;rw[rT j cj] at e3;cases e2;rcases hf with hf|⟨q',hf,nh⟩
    .cases hf
    .exact bQ (jr e3) nh
  .by_cases cj:j=k
   .rw[cj,xN] at e3;rw[rT i ci] at e2;cases e3;rcases hf with hf|⟨q',hf,nh⟩
    .cases hf
    .exact bQ (jr e2) nh
   .rw[rT i ci] at e2;rw[rT j cj] at e3;exact o.d i j q e2 e3
 .by_cases ci:i=k
  .subst ci;rw[xN] at e3;cases e3;rw[e0] at e2;cases e2;refine .inr ⟨p,rfl,ms,?_⟩;rcases hf with hf|⟨q,hf,_⟩
   .exact .inl hf
   .exact .inr ⟨q,hf⟩
  .rw[rT i ci] at e3;exact t.s i a b e2 e3
def bJ(k:Nat):D:=.int (k:Int)
abbrev eK(os:List Nat):O:=.lst ((os.map bJ).map .Y)
theorem Kt{L:List D}{k:Int}{d:D}(ha:cN L k=some d):cN (L.map O.Y) k=some (.Y d):=by
 unfold cN at *;rw[bz];cases e:mH L.length k with
 |none=>rw[e] at ha;cases ha
 |some j=>
  rw[e] at ha;have ha:L[j]?=some d:=ha;show(L.map O.Y)[j]?=_;rw[i7,ha];rfl
section
variable(h:aw)(P:List Pl)(cart:Str)(T:Int)
def rG(F:aZ)(hs:List Sp)(a6 a7 a8 a9 bN bU:Option O):Gm:=[some (bx F),some (.Y (dZ h)),some (.Y (.lst (P.map bT))),some (.Y (au (.inl cart))),some (.Y (.int T)),some (jX hs),a6,a7,a8,a9,bN,bU]
theorem e7x(F:aZ)(hs:List Sp)(k:Int)(a6 a7 a9 bN bU:Option O)(ha:cN (hs.map au) k=some (au (.inl cart))):n9 (rG h P cart T F hs a6 a7 (some (.Y (.int k))) a9 bN bU)=some (.nx,rG h P cart T F hs a6 a7 (some (.Y (.int k))) a9 bN bU):=by
 have n1:=Cf (.inl cart) (.inl cart);rw[fY rfl] at n1;have ha:=Kt ha;unfold n9 rG jX;generalize hs.map au=L at *;generalize au (.inl cart)=dc at *;simp only[dh,cH,bu,ba,aV,bg,aW,↓af,bb,bq,ju,iI,br,bp,cG,zr,ha,y_,n1,iL,cR,jP,lV,dA,bS]
theorem ZE(F:aZ)(g:a_ F)(hs:List Sp)(s:Sp)(i6:s≠.inl cart)(k:Int)(kn:Nat)(hk:k=kn)(os:List Nat)(hl:os.length<=100)(a6 a9 bN bU:Option O)(ha:cN (hs.map au) k=some (au s)):
  ∃(F':aZ) (i:Nat),a_ F'/\n9 (rG h P cart T F hs a6 (some (eK os)) (some (.Y (.int k))) a9 bN bU)=some (.nx,rG h P cart T F' hs a6 (some (eK (lN os i kn))) (some (.Y (.int k))) a9 bN bU):=by
 have hm:(0:Int)<(os.length:Int)+1:=by lia
 have e1:=xd g (m:=(os.length:Int)+1) hm (by lia)
 have d0:=qS F hm;have d1:=qT F hm;have ei:=QL bJ os (aG F ((os.length:Int)+1)) kn d0 (by lia) (by lia)
 refine⟨aA F ((os.length:Int)+1),(aG F ((os.length:Int)+1)).toNat,g.draw _,?_⟩;have ek:D.int k=bJ kn:=by rw[hk];rfl
 have n1:=Cf s (.inl cart);rw[iu i6] at n1;have dl:O.dl ((os.map bJ).map .Y)=os.map bJ:=nq _;have el:((os.map bJ).length:Int)=(os.length:Int):=by rw[bz]
 rw[<-ek] at ei;generalize(os.length:Int)=ol at *;have ha:=Kt ha;unfold n9 rG jX;generalize hs.map au=L at *;generalize au (.inl cart)=dc at *;generalize au s=sd at *;simp only[dh,cH,bu,ba,aV,bg,aW,↓af,bb,bq,ju,iI,br,bp,cG,zr,ha,y_,n1,lD,jP,lV,cU,gc,oY,jy,dl,pR,el,↓evMap,bI,iA,bX,ja,bK,gb,f_,e1,jT,gR,gQ,gD,eZ,ei,cy,dA,aX]
end
theorem RN(a b:Nat):aU (bJ a) (bJ b)=decide (a=b):=by
 unfold bJ;rw[oH];by_cases e:a=b
 .rw[fY e,e,pJ]
 .rw[iu e,pK];lia
theorem ZF(os:List Nat):(os.map bJ).all (cQ 40)=true:=by
 rw[lB];intro d hd;obtain⟨a,_,rfl⟩:=gA.mp hd;exact mT _ _
theorem ZG(x:Nat)(os:List Nat):((os.map bJ).any λz=>aU z (bJ x))=decide (x∈os):=by
 rw[List.any_map,tT,An,ER];constructor
 .rintro⟨a,ma,e⟩;have e:aU (bJ a) (bJ x)=true:=e;rw[RN,ER] at e;rw[<-e];exact ma
 .intro m;exact⟨x,m,by show aU (bJ x) (bJ x)=true;rw[RN,fY rfl]⟩
theorem ZH(x:Nat)(os:List Nat):cg false [.Y (bJ x),.lst ((os.map bJ).map .Y)]=some (.Y (.bl (decide (x∈os)))):=by
 have key:((oj (O.lst ((os.map bJ).map O.Y)).d).bind λds=>if cQ 40 (O.Y (bJ x)).d=true/\ds.all (cQ 40)=true then some (O.Y (.bl (if false=true then !ds.any λz=>aU z (O.Y (bJ x)).d else ds.any λz=>aU z (O.Y (bJ x)).d))) else none)=some (.Y (.bl (decide (x∈os)))):=by
  rw[jy,nq,bX];show(Option.bind (some (os.map bJ)) _)=_;rw[Option.bind_some,aJ ⟨mT _ _,ZF os⟩,ZG,aQ mY]
 exact key
theorem RO(hs:List Sp)(s:Sp)(k:Int)(kn:Nat)(hk:k=kn)(hl:kn<hs.length):jK (.lst ((hs.map au).map .Y)) [.Y (au s),.Y (.int k)]=some (.lst (((hs.set kn s).map au).map .Y),.Y .bH):=by
 rw[FX];have e:mH ((hs.map au).map O.Y).length k=some kn:=by
  unfold mH;rw[bz,bz,aJ (by lia),aJ (by lia)]
  congr 1
  lia
 rw[e,MY,MY];rfl
theorem e7y(os:List Nat)(x:Nat)(m:x∈os):∃j:Nat,os[j]?=some x/\t9 (.lst ((os.map bJ).map .Y)) [.Y (bJ x)]=some (.lst (((os.eraseIdx j).map bJ).map .Y),.Y .bH):=by
 have e0:(os.map bJ).map O.Y=(os.map λk:Nat=>(k:Int)).map rn:=by rw[lU,lU];rfl
 have e1:=UU (os.map λk:Nat=>(k:Int)) (x:Int)
 cases hf:lX (os.map λk:Nat=>(k:Int)) (x:Int) with
 |none=>
  unfold lX at hf;rw[List.findIdx?_eq_none_iff] at hf;have:=hf (x:Int) (gA.mpr ⟨x,m,rfl⟩);rw[pJ] at this;cases this
 |some j=>
  obtain⟨s1,_⟩:=NQ hf;rw[i7] at s1;obtain⟨y,y1,y2⟩:=iM.mp s1;have:y=x:=by lia
  subst this;refine⟨j,y1,?_⟩;rw[e0];rw[hf] at e1;have e1:t9 (.lst ((os.map λk:Nat=>(k:Int)).map rn)) [.Y (bJ y)]=_:=e1
  rw[e1];show some (O.lst (((os.map λk:Nat=>(k:Int)).eraseIdx j).map rn),O.Y .bH)=_
  rw[Fb,lU,lU];rfl
theorem RP(a b:Sp):oEq [.Y (au a),.Y (au b)]=some (.Y (.bl (decide (a=b)))):=by
 rw[nr,bX,bX,aJ ⟨wj 39 a,wj 39 b⟩,G2]
theorem JR(A:List Sp):dM [.Y (.lst (A.map au)),.lst []]=some (.Y (.bl (decide (A≠[])))):=by
 rw[J8,bX,jy,aJ ⟨GN 38 A,rfl⟩];cases A with
 |nil=>
  show some (O.Y (.bl (!aU (.lst []) (.lst []))))=_;unfold aU eU;rfl
 |cons p A=>
  show some (O.Y (.bl (!aU (.lst (au p::A.map au)) (.lst []))))=_;unfold aU eU;rfl
theorem MK(ok:fZ h)(v:VP h p):xx [.Y (dZ h),.Y (au (.inr p))]=some (.lst (((fX h (.inr p)).map au).map .Y),[none,none]):=by
 obtain⟨n,c⟩:=p;obtain⟨b,hb,rfl,_⟩:=v;rw[JK ok.fwd hb c];exact Pr h ok b hb c
theorem Py(ok:fZ h)(v:VP h p):(fX h (.inr p)).length<=31:=by
 have:=JP ok v;unfold jz at this;rw[dy] at this;lia
def sQ(cart:Str)(s:Sp):Bool:=decide (s=.inl cart) || !s.isLeft
def wL(cart:Str)(hs:List Sp)(s:Sp):Bool:=decide (s=.inl cart) || !cP s hs
section
variable(h:aw)(P:List Pl)(cart:Str)(T:Int)
theorem e9t(ok:fZ h)(F:aZ)(hs:List Sp)(p:Pl)(v:VP h p)(k:Int)(ha:cN (hs.map au) k=some (au (.inr p)))(a6 a7 a9 bN bU:Option O):
  Ek (rG h P cart T F hs a6 a7 (some (.Y (.int k))) a9 bN bU)=some (.own (.lst ((((fX h (.inr p)).filter (sQ cart)).map au).map .Y)),rG h P cart T F hs a6 a7 (some (.Y (.int k))) a9 bN bU):=by
 have e1:=MK ok v;have hl:=Py ok v;obtain⟨Q0',⟨x0,rfl⟩,e2⟩:=vT (g:=bj 0) (ct:=iW (gT (gB oEq (aa 0) (aa 1))) (dO (dR (gO cx (ai (aa 0) (ai (gC (.ty "str")) gN)))))) (ce:=aa 0) (λQ0=>∃x0,Q0=[x0,some (.Y (au (.inl cart)))]) au (sQ cart) au (fX h (.inr p)) [] [none,some (.Y (au (.inl cart)))] ⟨none,rfl⟩ (by rw[rJ];lia) (by
  rintro s _ Q0 ⟨x0,rfl⟩;refine⟨[some (.Y (au s)),some (.Y (au (.inl cart)))],?_,_,rfl⟩;have q1:=RP s (.inl cart);have q2:=JJ s;unfold sQ;generalize decide (s=.inl cart)=b1 at *;generalize s.isLeft=b2 at *;generalize au (.inl cart)=dc at *;generalize au s=sd at *;cases b1 <;> cases b2 <;> simp only[Bool.or_true,EC,iL,lD,aX,cR,bS] <;> simp only[vU,iz,bO,bM,bP,reduceAdd,reduceLT,bK,aX,↓af,uh,cH,bu,ba,aV,aW,bg,bb,bq,br,bp,q1,cR,oT,jR,bI,q2,kI,lD,bS,iL])
 rw[oO,fI] at e2;have ha:=Kt ha;generalize(fX h (.inr p)).filter (sQ cart)=R at *;generalize(fX h (.inr p)).map au=S at *;unfold Ek rG jX;generalize hs.map au=L at *;generalize au (.inl cart)=dc at *;generalize au (.inr p)=dp at *;simp only[oU,vZ,cU,gc,ba,aV,bg,aW,↓af,bu,bb,bq,ju,iI,br,bp,cG,zr,ha,y_,gb,f_,e1,gR,gQ,jy,rR,fD,e8,t7,cy,bK,pM,e_,fe,e2,bO,bM,bP,reduceAdd,qP,pH,t8,pO,aX]
theorem e9u(F:aZ)(hs sm:List Sp)(hl:sm.length<=100)(a6 a7 a8 a9 bU:Option O):
  C8 (rG h P cart T F hs a6 a7 a8 a9 (some (.Y (.lst (sm.map au)))) bU)=some (.own (.lst (((sm.filter (wL cart hs)).map au).map .Y)),rG h P cart T F hs a6 a7 a8 a9 (some (.Y (.lst (sm.map au)))) bU):=by
 obtain⟨Q0',⟨x0,rfl⟩,e2⟩:=vT (g:=bj 0) (ct:=iW (gT (gB oEq (aa 0) (aa 1))) (gT (gB (cg true) (aa 0) (aa 2)))) (ce:=aa 0) (λQ0=>∃x0,Q0=[x0,some (.Y (au (.inl cart))),some (jX hs)]) au (wL cart hs) au sm [] [none,some (.Y (au (.inl cart))),some (jX hs)] ⟨none,rfl⟩ (by rw[rJ];lia) (by
  rintro s _ Q0 ⟨x0,rfl⟩;refine⟨[some (.Y (au s)),some (.Y (au (.inl cart))),some (jX hs)],?_,_,rfl⟩;have q1:=RP s (.inl cart);have q2:=Kk true s hs;rw[aJ rfl] at q2;unfold wL jX;generalize decide (s=.inl cart)=b1 at *;generalize cP s hs=b2 at *;generalize au (.inl cart)=dc at *;generalize au s=sd at *;cases b1 <;> cases b2 <;> simp only[Bool.or_true,EC,iL,lD,aX,cR,bS] <;> simp only[vU,iz,bO,bM,bP,reduceAdd,reduceLT,bK,aX,↓af,uh,cH,bu,ba,aV,aW,bg,bb,bq,br,bp,q1,cR,ju,iI,q2,lD,bS,iL])
 rw[oO,fI] at e2;generalize sm.filter (wL cart hs)=R at *;generalize sm.map au=S at *;unfold C8 rG;unfold jX at *;generalize hs.map au=L at *;generalize au (.inl cart)=dc at *;simp only[oU,vZ,cU,aV,bg,aW,↓af,bX,fD,e8,t7,iI,cy,bK,pM,e_,fe,e2,bO,bM,bP,reduceAdd,qP,pH,t8,pO,aX]
end
structure TI (h:aw) (cart:Str) (h0 hs:List Sp) (left:List Nat):Prop where
 o:lE h cart hs
 t:y6 h cart h0 hs
 n:left.Nodup
 e:∀k,k∈left->hs[k]?=h0[k]?/\∃p,h0[k]?=some (.inr p)
theorem TI.go(ok:fZ h){left:List Nat}(ti:TI h cart h0 hs left)(hj:left[j]?=some k)(e1:hs[k]?=some (.inr p))(ms:s∈fX h (.inr p))(hf:s=.inl cart\/∃q,s=.inr q/\s∉hs):TI h cart h0 (hs.set k s) (left.eraseIdx j):=by
 have mk:=jr hj;have e0:h0[k]?=some (.inr p):=by rw[<-(ti.e k mk).1];exact e1
 obtain⟨o,t⟩:=e7w ok ti.o ti.t e0 e1 ms hf;refine⟨o,t,(List.eraseIdx_sublist _ _).nodup ti.n,λi mi=>?_⟩
 obtain⟨i1,i2⟩:=ti.e i ((List.eraseIdx_sublist _ _).subset mi);have ne:i≠k:=λz=>by
  subst z;obtain⟨a,ha,i6,ea⟩:=List.mem_eraseIdx_iff_getElem.mp mi;obtain⟨SJ,ej⟩:=eO.mp hj;have pw:=List.pairwise_iff_getElem.mp ti.n;rcases EO a j with c|c|c
  .exact pw a j ha SJ c (ea.trans ej.symm)
  .exact i6 c
  .exact pw j a SJ ha c (ej.trans ea.symm)
 refine⟨?_,i2⟩;rw[EB (λz=>ne z.symm)]
 exact i1
section
variable(h:aw)(P:List Pl)(cart:Str)(T:Int)
theorem XJ(F:aZ)(hs fr:List Sp)(left:List Nat)(k:Int)(kn:Nat)(hk:k=kn)(hl:kn<hs.length)(dP:List Nat)(rm:t9 (eK left) [.Y (.int k)]=some (eK dP,.Y .bH))(hm:cP (.inl cart) fr=true)(a6 a7 bN:Option O):
  rB (rG h P cart T F hs a6 a7 (some (.Y (.int k))) (some (eK left)) bN (some (.Y (.lst (fr.map au)))))=some (.nx,rG h P cart T F (hs.set kn (.inl cart)) a6 a7 (some (.Y (.int k))) (some (eK dP)) bN (some (.Y (.lst (fr.map au))))):=by
 have i1:=BJ false (.inl cart) fr;rw[aQ mY,hm] at i1;have pt:=RO hs (.inl cart) k kn hk hl;unfold rB DI rG;unfold jX;generalize(hs.set kn (.inl cart)).map au=L' at *;generalize hs.map au=L at *;generalize fr.map au=R at *;unfold eK at *;generalize dP.map bJ=Nb at *;generalize left.map bJ=LF at *;generalize au (.inl cart)=dc at *;simp only[dh,cH,bu,ba,aV,bg,aW,↓af,bb,bq,br,bp,i1,cY,rQ,pt,cy,bK,jP,lV,gD,eZ,rm,aX]
theorem XM(F:aZ)(hs:List Sp)(k:Int)(a6 a7 a9 bN:Option O):
  rB (rG h P cart T F hs a6 a7 (some (.Y (.int k))) a9 bN (some (.Y (.lst (([]:List Sp).map au)))))=some (.nx,rG h P cart T F hs a6 a7 (some (.Y (.int k))) a9 bN (some (.Y (.lst (([]:List Sp).map au))))):=by
 have i1:=BJ false (.inl cart) [];have i1:cg false [.Y (au (.inl cart)),.Y (.lst (([]:List Sp).map au))]=some (.Y (.bl false)):=i1;have nn:=JR [];have nn:dM [.Y (.lst (([]:List Sp).map au)),.lst []]=some (.Y (.bl false)):=nn;unfold rB Hw rG;generalize([]:List Sp).map au=R at *;generalize DI=ma at *;generalize Hv=mc at *;generalize au (.inl cart)=dc at *;simp only[dh,cH,bu,ba,aV,bg,aW,↓af,bb,bq,br,bp,i1,cR,lJ,fM,bM,reduceLeDiff,eZ,aX,nn,gc,bI,ja,bK,gb,f_,bS,dA]
theorem XN(F:aZ)(g:a_ F)(hs fr:List Sp)(k:Int)(hm:cP (.inl cart) fr=false)(i6:fr≠[])(hd:¬0<aG F 6)(a6 a7 a9 bN:Option O):
  rB (rG h P cart T F hs a6 a7 (some (.Y (.int k))) a9 bN (some (.Y (.lst (fr.map au)))))=some (.nx,rG h P cart T (aA F 6) hs a6 a7 (some (.Y (.int k))) a9 bN (some (.Y (.lst (fr.map au))))):=by
 have i1:=BJ false (.inl cart) fr;rw[aQ mY,hm] at i1;have nn:=JR fr;rw[fY i6] at nn;have e1:=xd g (m:=6) (by decide) (by decide)
 unfold rB Hw rG;generalize fr.map au=R at *;generalize DI=ma at *;generalize Hv=mc at *;generalize au (.inl cart)=dc at *;simp only[dh,cH,bu,ba,aV,bg,aW,↓af,bb,bq,br,bp,i1,cR,lJ,fM,bM,reduceLeDiff,eZ,aX,nn,gc,bI,ja,bK,gb,f_,e1,jT,gR,gQ,fN,hd,decide_false,dA,bS]
theorem e7z(F:aZ)(g:a_ F)(hs fr:List Sp)(left:List Nat)(k:Int)(kn:Nat)(hk:k=kn)(hl:kn<hs.length)(dP:List Nat)(rm:t9 (eK left) [.Y (.int k)]=some (eK dP,.Y .bH))(hm:cP (.inl cart) fr=false)(i6:fr≠[])(hlen:fr.length<=100)(hd:0<aG F 6)(a6 a7 bN:Option O):
  ∃s,s∈fr/\rB (rG h P cart T F hs a6 a7 (some (.Y (.int k))) (some (eK left)) bN (some (.Y (.lst (fr.map au)))))=some (.nx,rG h P cart T (aA (aA F 6) (fr.length:Int)) (hs.set kn s) a6 a7 (some (.Y (.int k))) (some (eK dP)) bN (some (.Y (.lst (fr.map au))))):=by
 have i1:=BJ false (.inl cart) fr;rw[aQ mY,hm] at i1;have nn:=JR fr;rw[fY i6] at nn;have e1:=xd g (m:=6) (by decide) (by decide)
 have h0:(0:Int)<(fr.length:Int):=by
  have:=List.length_pos_iff.mpr i6;lia
 have e2:=xd (g.draw 6) (m:=(fr.length:Int)) h0 (by lia)
 have d0:=qS (aA F 6) h0;have d1:=qT (aA F 6) h0;obtain⟨s,ms,es⟩:=Kr au fr (aG (aA F 6) (fr.length:Int)) d0 d1;refine⟨s,ms,?_⟩;have pt:=RO hs s k kn hk hl;have el:cI [.Y (.lst (fr.map au))]=some (.Y (.int (fr.length:Nat))):=by rw[Gj,bz]
 have ex:eE (.Y (.lst (fr.map au))) (.int (aG (aA F 6) (fr.length:Int)))=some (.Y (au s)):=by
  show(cN (fr.map au) _).map O.Y=_;rw[es];rfl
 generalize(fr.length:Int)=fl at *;unfold rB Hw Hv rG;unfold jX;generalize(hs.set kn s).map au=L' at *;generalize hs.map au=L at *;generalize fr.map au=R at *;unfold eK at *;generalize dP.map bJ=Nb at *;generalize left.map bJ=LF at *;generalize au (.inl cart)=dc at *;generalize au s=sd at *;generalize DI=ma at *;simp only[dh,cH,bu,ba,aV,bg,aW,↓af,bb,bq,br,bp,i1,cR,lJ,fM,bM,reduceLeDiff,eZ,aX,nn,gc,bI,ja,bK,gb,f_,e1,jT,gR,gQ,fN,hd,decide_true,cY,rQ,el,e2,cG,ex,pt,cy,jP,lV,gD,rm,dA,bS]
theorem ZI(ok:fZ h)(F:aZ)(g:a_ F)(h0 hs:List Sp)(left:List Nat)(ti:TI h cart h0 hs left)(kn:Nat)(a6 a7 bN bU:Option O):
  ∃(F':aZ) (jH:List Sp) (dP:List Nat) (gZ gq:Option O),a_ F'/\TI h cart h0 jH dP/\wO (rG h P cart T F hs a6 a7 (some (.Y (bJ kn))) (some (eK left)) bN bU)=some (.nx,rG h P cart T F' jH a6 a7 (some (.Y (bJ kn))) (some (eK dP)) gZ gq):=by
 have i1:=ZH kn left;obtain⟨k,hk⟩:∃k:Int,k=kn:=⟨_,rfl⟩;have ek:bJ kn=.int k:=by rw[hk];rfl
 by_cases m:kn∈left
 .rw[fY m] at i1;obtain⟨e1,p,e0⟩:=ti.e kn m;rw[e0] at e1;obtain⟨j,hj,rm⟩:=e7y left kn m;have hl:kn<hs.length:=(eO.mp e1).1;have vp:VP h p:=by
   rcases ti.o.v _ (jr e1) with z|⟨p',z,v⟩
   .cases z
   .cases z;exact v
  have ha:cN (hs.map au) k=some (au (.inr p)):=by
   rw[hk];apply oE;rw[i7,e1];rfl
  rw[ek] at i1 rm ⊢;have s1:=e9t h P cart T ok F hs p vp k ha a6 a7 (some (eK left)) bN bU;have sl:=Py ok vp;have jI:∀s,s∈((fX h (.inr p)).filter (sQ cart)).filter (wL cart hs)->s∈fX h (.inr p)/\(s=.inl cart\/∃q,s=.inr q/\s∉hs):=λs ms=>by
   obtain⟨m1,m2⟩:=jB.mp ms;obtain⟨m3,m4⟩:=jB.mp m1;refine⟨m3,?_⟩;by_cases c:s=.inl cart
   .exact .inl c
   .unfold sQ at m4;unfold wL at m2;rw[iu c,Bool.false_or] at m2 m4;cases s with
    |inl x=>cases m4
    |inr q=>
     refine .inr ⟨q,rfl,λz=>?_⟩
     rw[ij.mpr z] at m2;cases m2
  have fl:((fX h (.inr p)).filter (sQ cart)).length<=31:=lT (M_ _ _) sl;have s2:=e9u h P cart T F hs ((fX h (.inr p)).filter (sQ cart)) (by lia) a6 a7 (some (.Y (.int k))) (some (eK left)) bU
  have rl:(((fX h (.inr p)).filter (sQ cart)).filter (wL cart hs)).length<=31:=lT (M_ _ _) fl;generalize((fX h (.inr p)).filter (sQ cart)).filter (wL cart hs)=fr at *;generalize(fX h (.inr p)).filter (sQ cart)=sm at *;have go:∀(F':aZ) (jH:List Sp) (dP:List Nat),rB (rG h P cart T F hs a6 a7 (some (.Y (.int k))) (some (eK left)) (some (.Y (.lst (sm.map au)))) (some (.Y (.lst (fr.map au)))))=some (.nx,rG h P cart T F' jH a6 a7 (some (.Y (.int k))) (some (eK dP)) (some (.Y (.lst (sm.map au)))) (some (.Y (.lst (fr.map au)))))->
    wO (rG h P cart T F hs a6 a7 (some (.Y (.int k))) (some (eK left)) bN bU)=some (.nx,rG h P cart T F' jH a6 a7 (some (.Y (.int k))) (some (eK dP)) (some (.Y (.lst (sm.map au)))) (some (.Y (.lst (fr.map au))))):=λF' jH dP e=>by
   have i1:cg false [.Y (.int k),eK left]=some (.Y (.bl true)):=i1;have d1:O.dl ((sm.map au).map .Y)=sm.map au:=nq _;have d2:O.dl ((fr.map au).map .Y)=fr.map au:=nq _;generalize fr.map au=R at *;generalize sm.map au=S at *;unfold wO;unfold rG at *;unfold jX eK at *;generalize jH.map au=L' at *;generalize hs.map au=L at *;generalize dP.map bJ=Nb at *;generalize left.map bJ=LF at *;generalize au (.inl cart)=dc at *;generalize Ek=c1 at *;generalize C8=c2 at *;generalize rB=md at *;simp only[dh,cH,bu,ba,aV,bg,aW,↓af,bb,bq,br,ju,iI,bp,i1,cY,eJ,cU,s1,jy,d1,bO,bM,bP,reduceAdd,reduceLT,cy,bK,aX,s2,d2,e,dA]
  have rm:t9 (eK left) [.Y (.int k)]=some (eK (left.eraseIdx j),.Y .bH):=rm;cases hm:cP (.inl cart) fr with
  |true=>
   obtain⟨q1,q2⟩:=jI _ (ij.mp hm);exact⟨F,_,_,_,_,g,ti.go ok hj e1 q1 (.inl rfl),go _ _ _ (XJ h P cart T F hs fr left k kn hk hl _ rm hm a6 a7 _)⟩
  |false=>
   by_cases i6:fr=[]
   .subst i6;exact⟨F,hs,left,_,_,g,ti,go _ _ _ (XM h P cart T F hs k a6 a7 (some (eK left)) _)⟩
   .by_cases hd:0<aG F 6
    .obtain⟨s,ms,es⟩:=e7z h P cart T F g hs fr left k kn hk hl _ rm hm i6 (by lia) hd a6 a7 (some (.Y (.lst (sm.map au))))
     obtain⟨q1,q2⟩:=jI _ ms;exact⟨_,_,_,_,_,(g.draw 6).draw _,ti.go ok hj e1 q1 q2,go _ _ _ es⟩
    .exact⟨_,hs,left,_,_,g.draw 6,ti,go _ _ _ (XN h P cart T F g hs fr k hm i6 hd a6 a7 (some (eK left)) _)⟩
 .rw[iu m] at i1;refine⟨F,hs,left,bN,bU,g,ti,?_⟩;have i1:cg false [.Y (bJ kn),eK left]=some (.Y (.bl false)):=i1;unfold wO rG;unfold jX eK at *;generalize bJ kn=kd at *;generalize left.map bJ=LF at *;generalize hs.map au=L at *;generalize Ek=c1 at *;generalize C8=c2 at *;generalize rB=md at *;simp only[dh,cH,bu,ba,aV,bg,aW,↓af,bb,bq,br,ju,iI,bp,i1,cR,cY,eJ,cU,dA,bS]
end
theorem e8a(cart:Str)(hs:List Sp):GD [.Y (.lst (hs.map au)),.Y (au (.inl cart))]=some (.Y (.int (((hs.countP λs=>decide (s=.inl cart)):Nat):Int))):=by
 show(if cQ 40 (au (.inl cart))=true/\(hs.map au).all (cQ 40)=true then _ else none)=_
 rw[aJ ⟨wj 39 _,GN 39 hs⟩,List.countP_map];have:((λz=>aU z (au (.inl cart)))∘au)=λs:Sp=>decide (s=.inl cart):=by
  funext s;exact G2 s (.inl cart)
 rw[this]
theorem e8b(ds:List D):iO [.lst (ds.map .Y)]=some (.lst (ds.map .Y)):=by
 show Option.map (λds=>O.lst (List.map O.Y ds)) (match dH (.lst (ds.map .Y)) with|some ds=>some ds|none=>vy (.lst (ds.map .Y)))=_
 rw[Gv];rfl
theorem XO(h:aw)(cart:Str)(hs:List Sp):y6 h cart hs hs:=⟨rfl,λk a b e1 e2=>by rw[e1] at e2;cases e2;exact .inl rfl⟩
theorem uV(os:List Nat)(hl:os.length<=1000):b_ [.lst ((os.map bJ).map .Y),.lst ((os.map bJ).map .Y)]=some (.lst (((os++os).map bJ).map .Y)):=by
 rw[FV,Gv,Option.bind_some,Option.bind_some,aJ (by rw[bz];lia),iH (f:=bJ)]
section
variable(h:aw)(P:List Pl)(cart:Str)(T:Int)
theorem XQ(F:aZ)(g:a_ F)(hs:List Sp)(ho:lE h cart hs)(hl:hs.length<=100)(a6 a8 a9 bN bU:Option O):
  ∃(F':aZ) (os:List Nat) (b8:Option O),a_ F'/\os.Nodup/\os.length<=100/\(∀k,k∈os->∃p,hs[k]?=some (.inr p))/\fz (bj 8) n9 (fE 0 hs.length) (rG h P cart T F hs a6 (some (.lst [])) a8 a9 bN bU)=some (.nx,rG h P cart T F' hs a6 (some (eK os)) b8 a9 bN bU):=by
 obtain⟨Q0',e,F',os,b8,g',n',l',m',rfl⟩:=mB (g:=bj 8) (f:=n9) (λk:Nat=>D.int (0+(k:Int))) (λpre Q0=>∃(F':aZ) (os:List Nat) (b8:Option O),a_ F'/\os.Nodup/\os.length<=pre.length/\(∀k,k∈os->k<pre.length/\∃p,hs[k]?=some (.inr p))/\Q0=rG h P cart T F' hs a6 (some (eK os)) b8 a9 bN bU) (List.range hs.length) []
  (rG h P cart T F hs a6 (some (.lst [])) a8 a9 bN bU) ⟨F,[],a8,g,xi,cJ _,(λk m=>by cases m),rfl⟩ (by
   rintro q x post Q0 ex ⟨F',os,b8,g',n',l',m',rfl⟩;rw[fI] at *;obtain⟨ex1,ex2⟩:=IL ex;have hn:bj 8 (.int (0+(x:Int))) (rG h P cart T F' hs a6 (some (eK os)) b8 a9 bN bU)=some (rG h P cart T F' hs a6 (some (eK os)) (some (.Y (.int (0+(x:Int))))) a9 bN bU):=rfl;rw[hn,Option.bind_some,dy,jC];have hx:x<hs.length:=by lia
   have ha:cN (hs.map au) (0+(x:Int))=some (au hs[x]):=by
    rw[M8];apply oE;rw[i7,eP hx];rfl
   rcases ho.v hs[x] (xh hx) with z|⟨p,z,_⟩
   .rw[z] at ha;exact⟨_,e7x h P cart T F' hs _ a6 _ a9 bN bU ha,F',os,_,g',n',by lia,λk m=>⟨by have:=(m' k m).1;lia,(m' k m).2⟩,rfl⟩
   .obtain⟨F2,i,g2,e2⟩:=ZE h P cart T F' g' hs hs[x] (λy=>by rw[z] at y;cases y) (0+(x:Int)) x (by lia) os (by lia) a6 a9 bN bU ha
    refine⟨_,e2,F2,_,_,g2,QK n' (λm=>?_),by rw[Pq];lia,λk m=>?_,rfl⟩
    .have:=(m' x m).1;lia
    .rcases nU.mp m with m|m
     .subst m;exact⟨by lia,p,by rw[eP hx,z]⟩
     .exact⟨by have:=(m' k m).1;lia,(m' k m).2⟩)
 rw[fI] at *;rw[mO] at l';rw[<-qV] at e;exact⟨F',os,b8,g',n',by lia,λk m=>(m' k m).2,e⟩
theorem ZJ(ok:fZ h)(F:aZ)(g:a_ F)(hs:List Sp)(ho:lE h cart hs)(os:List Nat)(nd:os.Nodup)(hp:∀k,k∈os->∃p,hs[k]?=some (.inr p))(a6 a8 bN bU:Option O):
  ∃(F':aZ) (jH:List Sp) (left:List Nat) (b8 gZ gq:Option O),a_ F'/\TI h cart hs jH left/\fz (bj 8) wO ((os++os).map bJ) (rG h P cart T F hs a6 (some (eK os)) a8 (some (eK os)) bN bU)=some (.nx,rG h P cart T F' jH a6 (some (eK os)) b8 (some (eK left)) gZ gq):=by
 obtain⟨Q0',e,F',jH,left,b8,gZ,gq,g',ti,rfl⟩:=Jd (g:=bj 8) (f:=wO) bJ (λQ0=>∃(F':aZ) (jH:List Sp) (left:List Nat) (b8 gZ gq:Option O),a_ F'/\TI h cart hs jH left/\Q0=rG h P cart T F' jH a6 (some (eK os)) b8 (some (eK left)) gZ gq) (os++os)
  (rG h P cart T F hs a6 (some (eK os)) a8 (some (eK os)) bN bU) ⟨F,hs,os,a8,bN,bU,g,⟨ho,XO h cart hs,nd,λk m=>⟨rfl,hp k m⟩⟩,rfl⟩ (by
   rintro k _ Q0 ⟨F',jH,left,b8,gZ,gq,g',ti,rfl⟩;have hn:bj 8 (bJ k) (rG h P cart T F' jH a6 (some (eK os)) b8 (some (eK left)) gZ gq)=some (rG h P cart T F' jH a6 (some (eK os)) (some (.Y (bJ k))) (some (eK left)) gZ gq):=rfl;rw[hn,Option.bind_some];obtain⟨F2,nP,DE,ra,pW,g2,ti2,e2⟩:=ZI h P cart T ok F' g' hs jH left ti k a6 (some (eK os)) gZ gq;exact⟨_,e2,F2,nP,DE,_,ra,pW,g2,ti2,rfl⟩)
 exact⟨F',jH,left,b8,gZ,gq,g',ti,e⟩
theorem e8c(ok:fZ h)(F:aZ)(g:a_ F)(hs:List Sp)(ho:lE h cart hs)(hl:hs.length<=100)(a6 a7 a8 a9 bN bU:Option O):
  ∃(F':aZ) (jH:List Sp) (b7 b8 b9 gZ gq:Option O),a_ F'/\lE h cart jH/\y6 h cart hs jH/\Eu (rG h P cart T F hs a6 a7 a8 a9 bN bU)=some (.nx,rG h P cart T F' jH a6 b7 b8 b9 gZ gq):=by
 obtain⟨F1,os,b8,g1,n1,l1,p1,e1⟩:=XQ h P cart T F g hs ho hl a6 a8 a9 bN bU;obtain⟨F2,nP,left,c8,ra,pW,g2,ti,e2⟩:=ZJ h P cart T ok F1 g1 hs ho os n1 p1 a6 b8 bN bU;refine⟨F2,nP,some (eK os),c8,some (eK left),ra,pW,g2,ti.o,ti.t,?_⟩;have lo:=e8b (os.map bJ);have ad:=uV os (by lia)
 have el:((hs.map au).length:Int)=(hs.length:Int):=by rw[bz]
 have i1:gK [.own (.Y (.int (hs.length:Int)))]=some (hs.length:Int):=uO (by lia)
 have et:(hs.length:Int).toNat=hs.length:=by lia
 rw[<-et] at e1;have dl:O.dl ((hs.map au).map .Y)=hs.map au:=nq _;have d2:O.dl (((os++os).map bJ).map .Y)=(os++os).map bJ:=nq _;unfold Eu;unfold rG at *;unfold jX eK at *;generalize(hs.length:Int)=n at *;generalize nP.map au=L2 at *;generalize hs.map au=L at *;generalize(os++os).map bJ=O2 at *;generalize os.map bJ=O1 at *;generalize left.map bJ=LF at *;generalize n9=ob at *;generalize wO=mb at *;simp only[cY,eJ,fM,bb,↓af,bM,reduceLeDiff,eZ,aX,bO,bP,reduceAdd,reduceLT,cy,bK,xZ,ba,bu,aV,bg,aW,bq,ju,iI,bp,oY,jy,dl,pR,el,↓evMap,i1,e1,lo,pS,cU,ad,d2,e2]
end
theorem e9v(ok:fZ h)(nd:P.Nodup)(v:∀p,p∈P->VP h p)(cart:Str)(T:Int)(n:Nat)(hT:T=n)(hn:n<=12)(hP:P.length<=20)(sp:Sep h P cart n C)(F:aZ)(g:a_ F):
  ∃(F':aZ) (c:Int),a_ F'/\c<=(C.length:Int)/\Ge [bx F,.Y (dZ h),.Y (.lst (P.map bT)),.Y (.str cart),.Y (.int T)]=some (.Y (.int c),[some (bx F'),none,none,none,none]):=by
 obtain⟨Q0',e,F',hs,f,a6,a7,a8,a9,bN,bU,g',ho,hl,mk,rfl⟩:=mB (g:=bj 6) (f:=Eu) (λk:Nat=>D.int (0+(k:Int))) (λpre Q0=>∃(F':aZ) (hs:List Sp) (f:List (Option Ct)) (a6 a7 a8 a9 bN bU:Option O),a_ F'/\lE h cart hs/\hs.length=P.length/\AV h P C pre.length hs f/\Q0=rG h P cart T F' hs a6 a7 a8 a9 bN bU) (List.range n) []
  (rG h P cart T F (P.map Sum.inr) none none none none none none) ⟨F,_,_,none,none,none,none,none,none,g,XI nd v,bz ..,XH,rfl⟩ (by
   rintro q x post Q0 ex ⟨F',hs,f,a6,a7,a8,a9,bN,bU,g',ho,hl,mk,rfl⟩;rw[fI] at *;obtain⟨ex1,ex2⟩:=IL ex;have hn:bj 6 (.int (0+(x:Int))) (rG h P cart T F' hs a6 a7 a8 a9 bN bU)=some (rG h P cart T F' hs (some (.Y (.int (0+(x:Int))))) a7 a8 a9 bN bU):=rfl;rw[hn,Option.bind_some,dy,jC];obtain⟨F2,nP,b7,b8,b9,gZ,gq,g2,Hj,t2,e2⟩:=e8c h P cart T ok F' g' hs ho (by lia) (some (.Y (.int (0+(x:Int))))) a7 a8 a9 bN bU
   exact⟨_,e2,F2,nP,_,_,b7,b8,b9,gZ,gq,g2,Hj,by rw[t2.l,hl],ZD mk ho t2 sp (by lia),rfl⟩)
 have le:=e7v (cart:=cart) mk;rw[<-qV] at e;have i1:gK [.own (.Y (.int T))]=some T:=uO (by lia)
 have et:T.toNat=n:=by lia
 rw[<-et] at e;have ec:=e8a cart hs;refine⟨F',((hs.countP λs=>decide (s=.inl cart):Nat):Int),g',by lia,?_⟩
 have l1:=RF (P.map bT);have e0:jX (P.map Sum.inr)=.lst ((P.map bT).map .Y):=by
  unfold jX;rw[QM]
 have dl:O.dl ((hs.map au).map .Y)=hs.map au:=nq _;have ed:(O.lst ((hs.map au).map .Y)).d=.lst (hs.map au):=by rw[jy,dl]
 generalize((hs.countP λs=>decide (s=.inl cart):Nat):Int)=c at *
 unfold Ge;unfold JF;rw[show(D.str cart)=au (.inl cart) from rfl];unfold rG at *;rw[e0] at e;unfold jX at e;generalize hs.map au=L at *;generalize P.map bT=PL at *;generalize au (.inl cart)=dc at *;generalize Eu=tb at *;simp only[gn,eM,eX,bO,bM,bP,reduceAdd,reduceSub,fD,e8,e_,fe,cY,eJ,bu,ba,aV,bg,aW,↓af,bb,bq,br,bp,l1,reduceLT,cy,bK,aX,xZ,i1,e,R_,ed,eG,O3,ec,gY,gw,gy,q_,gE,gp]
def nY(ns:List Int)(F:aZ)(h:aw)(P:List Pl)(cart:Str)(T:Int)(W C:List D)(a7:Option O):Gm:=
 [some (.Y (.fK ns)),some (bx F),some (.Y (dZ h)),some (.Y (.lst (P.map bT))),some (fS cart),some (.Y (.int T)),some (.Y (.tup [.lst W,.lst C])),a7]
section
variable{h:aw}(ok:fZ h){P:List Pl}(nd:P.Nodup)(vq:∀p,p∈P->VP h p)(hP:P.length<=8){cart:Str}{n:Nat}(hn:n<=12){T:Int}(hT:T=n)(ns:List Int)
theorem L6(F:aZ)(W C:List D)(a7:Option O):Hs (nY ns F h P cart T W C a7)=some (.nx,nY ns F h P cart T W C a7):=by
 have f2:=G1 [D.lst W,D.lst C];have f3:cI [.Y (.tup [D.lst W,D.lst C])]=some (.Y (.int 2)):=rfl;have f4:=J9 2 2;rw[pJ] at f4;unfold Hs nY;simp only[dh,uh,oT,jR,bu,ba,aV,bg,aW,↓af,bI,bb,bq,br,bp,f2,kI,iL,cR,cH,f3,f4,bS,eG,dA]
include ok hP hn hT
theorem L7(hc:cart∈h.aT)(F:aZ)(wy:EZ h P cart n ys)(C:List D)(a7:Option O):Ht (nY ns F h P cart T (ys.map (fO cart)) C a7)=some (.nx,nY ns F h P cart T (ys.map (fO cart)) C a7):=by
 have e1:=e7u ok hc T n hT hn (by lia) wy
 generalize ys.map (fO cart)=W at *;unfold Ht nY;simp only[dh,oT,jR,vS,ba,aV,bg,aW,↓af,bu,bI,bb,bq,br,bp,cG,jE,lG,↓evMap,ia,bX,h_,eM,eX,e1,zi,kI,iL,cR,eG,dA,bS]
include nd vq
theorem L8(F:aZ)(g:a_ F)(sp:Sep h P cart n C)(W Cd:List D)(hl:C.length<=W.length)(a7:Option O):∃(F':aZ) (b7:Option O),Hu (nY ns F h P cart T W Cd a7)=some (.nx,nY ns F' h P cart T W Cd b7):=by
 obtain⟨Q0',e,F',b7,g',rfl⟩:=Jd (g:=bj 7) (f:=DF) (λk:Nat=>D.int (0+(k:Int))) (λQ0=>∃(F':aZ) (b7:Option O),a_ F'/\Q0=nY ns F' h P cart T W Cd b7) (List.range 6) (nY ns F h P cart T W Cd a7) ⟨F,a7,g,rfl⟩ (by
  rintro k _ Q0 ⟨F',b7,g',rfl⟩;have LD:bj 7 (.int (0+(k:Int))) (nY ns F' h P cart T W Cd b7)=some (nY ns F' h P cart T W Cd (some (.Y (.int (0+(k:Int)))))):=rfl;rw[LD,Option.bind_some];obtain⟨F2,c,g2,le,e2⟩:=e9v ok nd vq cart T n hT hn (by lia) sp F' g'
  refine⟨nY ns F2 h P cart T W Cd (some (.Y (.int (0+(k:Int))))),?_,F2,_,g2,rfl⟩;have el:cI [.Y (.lst W)]=some (.Y (.int (W.length:Nat))):=Gj W;have hd:¬(W.length:Int)<c:=by lia
  generalize(W.length:Int)=wl at *;generalize(0+(k:Int))=ki;unfold DF nY;simp only[dh,cH,bu,ba,gc,aV,bg,aW,↓af,bb,ja,cy,bK,gb,f_,e2,jT,gR,gQ,bI,bq,br,bp,cG,jE,lG,↓evMap,el,fN,hd,decide_false,aX,cR,eG,dA,bS])
 refine⟨F',b7,?_⟩;rw[<-qV] at e;have i1:gK [.own (.Y (.int 6))]=some 6:=uO (by decide)
 have e:fz (bj 7) DF (fE 0 (6:Int).toNat) (nY ns F h P cart T W Cd a7)=_:=e;unfold Hu;unfold nY at *;generalize DF=lr at *;simp only[xZ,ba,bI,↓af,bb,i1,e]
end
theorem e9w(ns:List Int)(hn:ns.length<=63):∃fin,KI [.Y (.fK ns)]=some (.Y (.bl true),fin):=by
 have e1:=e6g ns hn;have g0:a_ (r_ ns):=⟨yY 0,hn⟩;obtain⟨F1,h,g1,ok,e2⟩:=Y0 (r_ ns) g0;have hd:D.tup [.lst (O.dl (h.aO.map fB)),.lst (h.aT.map .str)]=dZ h:=by rw[e8y];rfl
 obtain⟨F2,pl,g2,vp,lp,np,e3⟩:=XC ok F1 g1;obtain⟨P,rfl,nd,v⟩:=OJ vp np;rw[bz] at lp;unfold jX at e3;rw[QM] at e3;have ct:=ok.ct;have hm:(0:Int)<(h.aT.length:Int):=by lia
 have e4:=xd g2 (m:=(h.aT.length:Int)) hm (by lia)
 have d0:=qS F2 hm;have d1:=qT F2 hm;obtain⟨cart,mc,ea⟩:=Kr D.str h.aT (aG F2 (h.aT.length:Int)) d0 d1;have el:cI [.Y (.lst (h.aT.map .str))]=some (.Y (.int (h.aT.length:Nat))):=by rw[Gj,bz]
 have ex:eE (.Y (.lst (h.aT.map .str))) (.int (aG F2 (h.aT.length:Int)))=some (.Y (.str cart)):=by
  show(cN (h.aT.map .str) _).map O.Y=_;rw[ea];rfl
 have g3:=g2.draw (h.aT.length:Int);generalize aA F2 (h.aT.length:Int)=F3 at *;have e5:=xd g3 (m:=13) (by decide) (by decide)
 have t0:=qS F3 (m:=13) (by decide)
 have t1:=qT F3 (m:=13) (by decide)
 have g4:=g3.draw 13;generalize aA F3 13=F4 at *;generalize aG F3 13=tv at *;generalize(h.aT.length:Int)=ol at *;generalize aG F2 ol=cv at *;obtain⟨W,C,td,e6⟩:=Wa ok nd v cart tv tv.toNat (by lia) (by lia) (by lia)
 obtain⟨k1,k2,k3⟩:=Xz ok nd v td;obtain⟨ys,wy,rfl⟩:=Wf ok nd v td;have s1:=L6 (h:=h) (P:=P) (cart:=cart) (T:=tv) ns F4 (ys.map (fO cart)) (C.map gH) none;have s2:=L7 ok lp (n:=tv.toNat) (by lia) (T:=tv) (by lia) ns mc F4 wy (C.map gH) none
 obtain⟨F5,a7,s3⟩:=L8 ok nd v lp (cart:=cart) (n:=tv.toNat) (by lia) (T:=tv) (by lia) ns F4 g4 k1 (ys.map (fO cart)) (C.map gH) k2 none
 have Yp:O.dl ((P.map bT).map .Y)=P.map bT:=nq _;have f1:=RF (P.map bT);generalize ys.map (fO cart)=W at *;have dw:O.dl (W.map .Y)=W:=nq _;refine⟨[none],?_⟩;unfold KI;unfold KH;unfold nY at s1 s2 s3;generalize Hs=l1 at *;generalize Ht=l2 at *;generalize Hu=l3 at *;simp only[gn,eM,eX,bO,bM,bP,reduceSub,fD,e8,e_,fe,cY,eJ,gc,ba,aV,aW,↓af,bb,gb,f_,e1,gR,gQ,reduceAdd,reduceLT,cy,bK,aX,cU,bg,ja,e2,jT,jU,ia,jy,bX,h_,hd,bI,e3,Yp,bu,bq,br,bp,cG,MO,el,e4,ex,e5,f1,e6,dw,s1,s2,s3,eG,gY,gw,gy,gE,gp]
def tM(K:FG):L2.Sp:=λvs H Q _=>∃(a:Addr) (ns:List Int),vs=[.ref a]/\dX K H a (ns.map V.int)/\ns.length<=63/\∀H',Q (.bl true) H'
theorem e8d{P:Program}{w:World}{K:FG}{base:Heap}{t:HZ}(T:Txt K mg t):bR P w K mg base fx 7 t.zJ t.zG ["_law_script"] (tM K):=by
 have z0:=e6e (P:=P) (w:=w) (base:=base) T;have z2:=VU (P:=P) (w:=w) (base:=base) T;have z3:=YS (P:=P) (w:=w) (base:=base) T;have z4:=UW (P:=P) (w:=w) (base:=base) T;have z8:=YU (P:=P) (w:=w) (base:=base) T;have z12:=Xe (P:=P) (w:=w) (base:=base) T;have z13:=VW (P:=P) (w:=w) (base:=base) T;have ES:=VX (P:=P) (w:=w) (base:=base) T;have z15:=VY (P:=P) (w:=w) (base:=base) T;have z18:=UX (P:=P) (w:=w) (base:=base) T;have Tu:=UY (P:=P) (w:=w) (base:=base) T;have Tv:=U0 (P:=P) (w:=w) (base:=base) T;have z22:=Ul (P:=P) (w:=w) (base:=base) T;have z1:=YV (P:=P) (w:=w) (base:=base) T z3 z2;have z5:=Xf (P:=P) (w:=w) (base:=base) T z4;have z11:=Uz (P:=P) (w:=w) (base:=base) T z12;have z16:=V2 (P:=P) (w:=w) (base:=base) T ES;have z21:=V3 (P:=P) (w:=w) (base:=base) T Tu;have z23:=UA (P:=P) (w:=w) (base:=base) T z18 ES;have z24:=Xg (P:=P) (w:=w) (base:=base) T ES Tu;have z26:=Uu (P:=P) (w:=w) (base:=base) T Tv;have z6:=Xi (P:=P) (w:=w) (base:=base) T z5;have z17:=U1 (P:=P) (w:=w) (base:=base) T ES z15 z16;have z25:=Ug (P:=P) (w:=w) (base:=base) T z21 z26 z22 Tv;have z10:=UB (P:=P) (w:=w) (base:=base) T z8 z0 z6;have z9:=U2 (P:=P) (w:=w) (base:=base) T z8 z0 z10;have z7:=U3 (P:=P) (w:=w) (base:=base) T z1 z11 z8 z9;exact Yv (e6f T ES z13 z17 z23 z24 z25 z7) e9w
theorem zI(h:us.length=1):∃a0,us=[a0]:=by
 obtain _|⟨a0,us⟩:=us
 .cases h
 obtain _|⟨z,us⟩:=us
 .exact⟨a0,rfl⟩
 .simp at h
theorem uo(h:us.length=2):∃a0 a1,us=[a0,a1]:=by
 obtain _|⟨a0,us⟩:=us
 .cases h
 obtain _|⟨a1,us⟩:=us
 .cases h
 obtain _|⟨z,us⟩:=us
 .exact⟨a0,a1,rfl⟩
 .simp at h
theorem G6(h:us.length=3):∃a0 a1 a2,us=[a0,a1,a2]:=by
 obtain _|⟨a0,us⟩:=us
 .cases h
 obtain _|⟨a1,us⟩:=us
 .cases h
 obtain _|⟨a2,us⟩:=us
 .cases h
 obtain _|⟨z,us⟩:=us
 .exact⟨a0,a1,a2,rfl⟩
 .simp at h
theorem G7(h:us.length=4):∃a0 a1 a2 a3,us=[a0,a1,a2,a3]:=by
 obtain _|⟨a0,us⟩:=us
 .cases h
 obtain _|⟨a1,us⟩:=us
 .cases h
 obtain _|⟨a2,us⟩:=us
 .cases h
 obtain _|⟨a3,us⟩:=us
 .cases h
 obtain _|⟨z,us⟩:=us
 .exact⟨a0,a1,a2,a3,rfl⟩
 .simp at h
theorem KZ(h:us.length=5):∃a0 a1 a2 a3 a4,us=[a0,a1,a2,a3,a4]:=by
 obtain _|⟨a0,us⟩:=us
 .cases h
 obtain _|⟨a1,us⟩:=us
 .cases h
 obtain _|⟨a2,us⟩:=us
 .cases h
 obtain _|⟨a3,us⟩:=us
 .cases h
 obtain _|⟨a4,us⟩:=us
 .cases h
 obtain _|⟨z,us⟩:=us
 .exact⟨a0,a1,a2,a3,a4,rfl⟩
 .simp at h
theorem ME(h:us.length=6):∃a0 a1 a2 a3 a4 a5,us=[a0,a1,a2,a3,a4,a5]:=by
 obtain _|⟨a0,us⟩:=us
 .cases h
 obtain _|⟨a1,us⟩:=us
 .cases h
 obtain _|⟨a2,us⟩:=us
 .cases h
 obtain _|⟨a3,us⟩:=us
 .cases h
 obtain _|⟨a4,us⟩:=us
 .cases h
 obtain _|⟨a5,us⟩:=us
 .cases h
 obtain _|⟨z,us⟩:=us
 .exact⟨a0,a1,a2,a3,a4,a5,rfl⟩
 .simp at h
open PyProof.Rows
def vw:List Stmt:=[1,2,3,4,6,8,9,11,12,13,14,15,16,17,18,20,21,22,23,24,25,26,27,28,29,30,31,32,33,34].map top
noncomputable def dl:List (Str×Nat):=[("lay",0),("fill",1),("search",2),("push",3),("belt_of",4),("steps",5),("moves",6),("in_time",9),("into",10),("lay_net",11),("lay_spot",12),("followed",13),("taken",14),("_law_feed",15),("_law_draw",16),("_law_name",17),("_law_outs",18),("_law_house",19),("_law_cells",20),("_law_steps",21),("_law_whole",22),("_law_goes",23),("_law_together",24),("_law_places",25),("_law_run",26),("_law_ways_right",27),("_law_is_spot",28),("law",29)]
def bl:List Str:=["len","isinstance","int","bool","str","list","tuple","range","any","all","enumerate","set"]
theorem e8e{l:PySem.W.OpenLaw}{w:World}{q:Program}{L:List Str}{me:ExcName->Option Value}{mb:Str->Option Value}{h:Heap}{fa:Addr}(T:Top q L me mg mb h)(hfa:mg "law"=some (.ref fa))(hq:q.main.body=vw)(hD:yb vw dl=true)(hB:ya q L bl=true)(mP:valOf q "START"=some (.str "the start"))(tW:valOf q "END"=some (.str "the end")):
  ∃fd:FuncData,(∀(s:Shared) (v:Value),BindsTo s fd ⟨[v],[]⟩ [("_law_script",v)])/\∀base:Heap,bR l.prog w (snap h) mg base fx 7 fa fd ["_law_script"] (tM (snap h)):=by
 obtain⟨f0,d0,m0,F0⟩:=jv (st:=GZ) T hq hD 0 rfl rfl;have D0:aH (snap h) mg "lay" GZ f0 d0 ["net","here","there","room"]:=⟨F0,m0,F0.binds λ_ _ _ _ _ _ us hl=>by obtain⟨_,_,_,_,rfl⟩:=G7 hl;rfl⟩
 obtain⟨f1,d1,m1,F1⟩:=jv (st:=GF) T hq hD 1 rfl rfl;have D1:aH (snap h) mg "fill" GF f1 d1 ["net","start","end"]:=⟨F1,m1,F1.binds λ_ _ _ _ _ _ us hl=>by obtain⟨_,_,_,rfl⟩:=G6 hl;rfl⟩
 obtain⟨f2,d2,m2,F2⟩:=jv (st:=Fw) T hq hD 2 rfl rfl;have D2:aH (snap h) mg "search" Fw f2 d2 ["net","start"]:=⟨F2,m2,F2.binds λ_ _ _ _ _ _ us hl=>by obtain⟨_,_,rfl⟩:=uo hl;rfl⟩
 obtain⟨f3,d3,m3,F3⟩:=jv (st:=GH) T hq hD 3 rfl rfl;have D3:aH (snap h) mg "push" GH f3 d3 ["net","came","end"]:=⟨F3,m3,F3.binds λ_ _ _ _ _ _ us hl=>by obtain⟨_,_,_,rfl⟩:=G6 hl;rfl⟩
 obtain⟨f4,d4,m4,F4⟩:=jv (st:=Fc) T hq hD 4 rfl rfl;have D4:aH (snap h) mg "belt_of" Fc f4 d4 ["house","name"]:=⟨F4,m4,F4.binds λ_ _ _ _ _ _ us hl=>by obtain⟨_,_,rfl⟩:=uo hl;rfl⟩
 obtain⟨f5,d5,m5,F5⟩:=jv (st:=BF) T hq hD 5 rfl rfl;have D5:aH (snap h) mg "steps" BF f5 d5 ["house","place"]:=⟨F5,m5,F5.binds λ_ _ _ _ _ _ us hl=>by obtain⟨_,_,rfl⟩:=uo hl;rfl⟩
 obtain⟨f6,d6,m6,F6⟩:=jv (st:=Gb) T hq hD 6 rfl rfl;have D6:aH (snap h) mg "moves" Gb f6 d6 ["house","place"]:=⟨F6,m6,F6.binds λ_ _ _ _ _ _ us hl=>by obtain⟨_,_,rfl⟩:=uo hl;rfl⟩
 obtain⟨f7,d7,m7,F7⟩:=jv (st:=Bg) T hq hD 7 rfl rfl;have D7:aH (snap h) mg "in_time" Bg f7 d7 ["house","places","cart","turns"]:=⟨F7,m7,F7.binds λ_ _ _ _ _ _ us hl=>by obtain⟨_,_,_,_,rfl⟩:=G7 hl;rfl⟩
 obtain⟨f8,d8,m8,F8⟩:=jv (st:=GI) T hq hD 8 rfl rfl;have D8:aH (snap h) mg "into" GI f8 d8 ["place","moment"]:=⟨F8,m8,F8.binds λ_ _ _ _ _ _ us hl=>by obtain⟨_,_,rfl⟩:=uo hl;rfl⟩
 obtain⟨f9,d9,m9,F9⟩:=jv (st:=Fd) T hq hD 9 rfl rfl;have D9:aH (snap h) mg "lay_net" Fd f9 d9 ["net","house","places","cart","turns"]:=⟨F9,m9,F9.binds λ_ _ _ _ _ _ us hl=>by obtain⟨_,_,_,_,_,rfl⟩:=KZ hl;rfl⟩
 obtain⟨CI,zE,m10,AB⟩:=jv (st:=Bc) T hq hD 10 rfl rfl;have Tx:aH (snap h) mg "lay_spot" Bc CI zE ["net","house","place","moment","cart","plenty"]:=⟨AB,m10,AB.binds λ_ _ _ _ _ _ us hl=>by obtain⟨_,_,_,_,_,_,rfl⟩:=ME hl;rfl⟩
 obtain⟨CJ,zF,m11,AD⟩:=jv (st:=E7) T hq hD 11 rfl rfl;have Tz:aH (snap h) mg "followed" E7 CJ zF ["net","first","cart"]:=⟨AD,m11,AD.binds λ_ _ _ _ _ _ us hl=>by obtain⟨_,_,_,rfl⟩:=G6 hl;rfl⟩
 obtain⟨CK,Ci,m12,AE⟩:=jv (st:=BG) T hq hD 12 rfl rfl;have TB:aH (snap h) mg "taken" BG CK Ci ["net","behind"]:=⟨AE,m12,AE.binds λ_ _ _ _ _ _ us hl=>by obtain⟨_,_,rfl⟩:=uo hl;rfl⟩
 obtain⟨CL,Cj,m13,AF⟩:=jv (st:=Fx) T hq hD 13 rfl rfl;have TC:aH (snap h) mg "_law_feed" Fx CL Cj ["_law_script"]:=⟨AF,m13,AF.binds λ_ _ _ _ _ _ us hl=>by obtain⟨_,rfl⟩:=zI hl;rfl⟩
 obtain⟨CM,Ck,m14,kA⟩:=jv (st:=Fy) T hq hD 14 rfl rfl;have TF:aH (snap h) mg "_law_draw" Fy CM Ck ["_law_feed_here","_law_many"]:=⟨kA,m14,kA.binds λ_ _ _ _ _ _ us hl=>by obtain⟨_,_,rfl⟩:=uo hl;rfl⟩
 obtain⟨CN,Cn,m15,AG⟩:=jv (st:=Fz) T hq hD 15 rfl rfl;have TH:aH (snap h) mg "_law_name" Fz CN Cn ["_law_style","_law_k"]:=⟨AG,m15,AG.binds λ_ _ _ _ _ _ us hl=>by obtain⟨_,_,rfl⟩:=uo hl;rfl⟩
 obtain⟨CO,Co,m16,AH⟩:=jv (st:=Bq) T hq hD 16 rfl rfl;have TJ:aH (snap h) mg "_law_outs" Bq CO Co ["_law_feed_here","_law_names","_law_k","_law_many"]:=⟨AH,m16,AH.binds λ_ _ _ _ _ _ us hl=>by obtain⟨_,_,_,_,rfl⟩:=G7 hl;rfl⟩
 obtain⟨CP,Cp,m17,AI⟩:=jv (st:=Bh) T hq hD 17 rfl rfl;have TL:aH (snap h) mg "_law_house" Bh CP Cp ["_law_feed_here"]:=⟨AI,m17,AI.binds λ_ _ _ _ _ _ us hl=>by obtain⟨_,rfl⟩:=zI hl;rfl⟩
 obtain⟨CQ,Cq,m18,AJ⟩:=jv (st:=Bi) T hq hD 18 rfl rfl;have TM:aH (snap h) mg "_law_cells" Bi CQ Cq ["_law_house_here"]:=⟨AJ,m18,AJ.binds λ_ _ _ _ _ _ us hl=>by obtain⟨_,rfl⟩:=zI hl;rfl⟩
 obtain⟨CS,Cr,m19,yZ⟩:=jv (st:=Bj) T hq hD 19 rfl rfl;have TN:aH (snap h) mg "_law_steps" Bj CS Cr ["_law_house_here","_law_place"]:=⟨yZ,m19,yZ.binds λ_ _ _ _ _ _ us hl=>by obtain⟨_,_,rfl⟩:=uo hl;rfl⟩
 obtain⟨CT,Cw,m20,y0⟩:=jv (st:=Fe) T hq hD 20 rfl rfl;have TQ:aH (snap h) mg "_law_whole" Fe CT Cw ["_law_found"]:=⟨y0,m20,y0.binds λ_ _ _ _ _ _ us hl=>by obtain⟨_,rfl⟩:=zI hl;rfl⟩
 obtain⟨CU,Cy,m21,AK⟩:=jv (st:=FA) T hq hD 21 rfl rfl;have TR:aH (snap h) mg "_law_goes" FA CU Cy ["_law_house_here","_law_place","_law_cart","_law_told"]:=⟨AK,m21,AK.binds λ_ _ _ _ _ _ us hl=>by obtain⟨_,_,_,_,rfl⟩:=G7 hl;rfl⟩
 obtain⟨CV,Cz,m22,AL⟩:=jv (st:=E3) T hq hD 22 rfl rfl;have TU:aH (snap h) mg "_law_together" E3 CV Cz ["_law_ways"]:=⟨AL,m22,AL.binds λ_ _ _ _ _ _ us hl=>by obtain⟨_,rfl⟩:=zI hl;rfl⟩
 obtain⟨CW,CA,m23,AM⟩:=jv (st:=E8) T hq hD 23 rfl rfl;have TV:aH (snap h) mg "_law_places" E8 CW CA ["_law_feed_here","_law_house_here","_law_most"]:=⟨AM,m23,AM.binds λ_ _ _ _ _ _ us hl=>by obtain⟨_,_,_,rfl⟩:=G6 hl;rfl⟩
 obtain⟨CY,CB,m24,AN⟩:=jv (st:=zj) T hq hD 24 rfl rfl;have TX:aH (snap h) mg "_law_run" zj CY CB ["_law_feed_here","_law_house_here","_law_places_here","_law_cart","_law_turns"]:=⟨AN,m24,AN.binds λ_ _ _ _ _ _ us hl=>by obtain⟨_,_,_,_,_,rfl⟩:=KZ hl;rfl⟩
 obtain⟨CZ,CC,m25,AO⟩:=jv (st:=A_) T hq hD 25 rfl rfl;have TY:aH (snap h) mg "_law_ways_right" A_ CZ CC ["_law_house_here","_law_places_here","_law_cart","_law_turns","_law_ways"]:=⟨AO,m25,AO.binds λ_ _ _ _ _ _ us hl=>by obtain⟨_,_,_,_,_,rfl⟩:=KZ hl;rfl⟩
 obtain⟨C0,CD,m26,AQ⟩:=jv (st:=Ba) T hq hD 26 rfl rfl;have TZ:aH (snap h) mg "_law_is_spot" Ba C0 CD ["_law_spot","_law_size"]:=⟨AQ,m26,AQ.binds λ_ _ _ _ _ _ us hl=>by obtain⟨_,_,rfl⟩:=uo hl;rfl⟩
 obtain⟨zJ,zG,S3,AR⟩:=jv (st:=G0) T hq hD 27 rfl rfl;have T2:aH (snap h) mg "law" G0 zJ zG ["_law_script"]:=⟨AR,S3,AR.binds λ_ _ _ _ _ _ us hl=>by obtain⟨_,rfl⟩:=zI hl;rfl⟩
 have T:Txt (snap h) mg ⟨f0,d0,f1,d1,f2,d2,f3,d3,f4,d4,f5,d5,f6,d6,f7,d7,f8,d8,f9,d9,CI,zE,CJ,zF,CK,Ci,CL,Cj,CM,Ck,CN,Cn,CO,Co,CP,Cp,CQ,Cq,CS,Cr,CT,Cw,CU,Cy,CV,Cz,CW,CA,CY,CB,CZ,CC,C0,CD,zJ,zG⟩:=⟨D0,D1,D2,D3,D4,D5,D6,D7,D8,D9,Tx,Tz,TB,TC,TF,TH,TJ,TL,TM,TN,TQ,TR,TU,TV,TX,TY,TZ,T2,qW T hB 0 rfl,qW T hB 1 rfl,qW T hB 2 rfl,qW T hB 3 rfl,qW T hB 4 rfl,qW T hB 5 rfl,qW T hB 6 rfl,qW T hB 7 rfl,qW T hB 8 rfl,qW T hB 9 rfl,qW T hB 10 rfl,qW T hB 11 rfl,N_ T mP,N_ T tW⟩;have e:=hfa.symm.trans S3;cases e;obtain⟨oc,od,kV,doc,pm,an,dq,ct,osl,rfl,_,_⟩:=AR.ex;exact⟨_,λs v=>.of_eq rfl,λbase=>e8d T⟩
theorem walk{l:PySem.W.OpenLaw}{q:Program}{loose:List Str}{XP:(Str->Option Value)->Heap->Prop}{YP:World->Heap->Prop}{d:DefRec}(hn:l.most=some 63)(Dm:d.params.defaults=[])(Lr:d.name="law")
  (hq:q.main.body=vw) (hD:yb vw dl=true) (hB:ya q (PySem.W.looseW q loose) bl=true) (mP:valOf q "START"=some (.str "the start")) (tW:valOf q "END"=some (.str "the end")) :
  PySem.W.WalkO q loose XP YP l.row.toRowW d [] (λf vs=>PySem.call f vs):=
 L2.tR (n:=63) (k:=7) (x:="_law_script") (CX:=fx) (sp:=tM) hn (by decide) Dm ⟨rfl,by decide,by decide⟩ (λ_ _ _ _ _ _ T hm=>e8e T (Lr ▸ hm) hq hD hB mP tW) (λ_ _ a ns hl _ hS=>⟨a,ns,rfl,hS,hl,λ_=>rfl⟩) λ_ _ _ _ z=>z
end Carry
end
open PySem PySem.W PyProof.Rows
set_option maxRecDepth 100000 in
set_option maxHeartbeats 0 in
theorem PySem.Challenge.cw_carry_k35_whole_no_rule_brings_more_holds : PySem.Challenge.rw_carry_k35_whole_no_rule_brings_more.Holds := by
 simp -failIfUnchanged only[Carry.Hd.hd0];w_on;o_law;(try simp only[Carry.Hd.hd]);o_head Hook.none;(case hw=>w_witness2)
 exact Carry.walk (l:=PySem.Challenge.rw_carry_k35_whole_no_rule_brings_more) rfl rfl rfl (by kernel_rfl) (by k_qdec) (by k_qdec) (by kernel_rfl) (by kernel_rfl)