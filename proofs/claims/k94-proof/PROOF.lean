import PyProof.Rows.All
import Wide.All
import OpenK.AllK
import Wide.FinOn
import Lean
import PyProof.EqAt
import PyProof.EqKinds
import PyProof.TupleCall
import PyProof.StationsW
import PyProof.ExcClass3
import PyProof.ExcInit
import PyProof.ExcBaseAll.ValueError
import PyProof.ExcArgsOwn
import KE.KIsAll
import PyProof.ExcAttrAll.ValueError
import PyProof.InstStoreFacts
import KE.KTryMore
import PyProof.RulesAs
import PyProof.NsDelKeeps
import KE.KRevIter
import PyProof.SeqI3
import PyProof.DictWalks
import PyProof.EnumIter
import PyProof.EnumStmt
import PyProof.EnumMake
import PyProof.WalksEnum
import PyProof.FactsAll.NoneType_1
import PyProof.NeKinds
import KE.KDictList
import KE.KItemsList
import PyProof.Rows.SortShell
import PyProof.WalkInts
import PyProof.MeetsSeq
import PyProof.SeqRoads2
import KE.KDictOf
import PyProof.AttrMissHeap
import KE.KSortTup
import PyProof.Rows.SortWalk
import PyProof.Rows.SumAny
import PyProof.Rows.SortStr
import PySem.Challenge.RW_carry_k94_whole_elsewhere_and_later
set_option linter.all false
set_option bootstrap.genMatcherCode false
set_option compiler.extract_closed false
set_option compiler.reuse false
set_option genSizeOf false
set_option genSizeOfSpec false
def aY:=@List.length_map.{0,0}
def bG:=@Nat.le_refl
def bY:=@List.map_cons.{0,0}
def cg:=@Option.bind_eq_some_iff.{0,0}
def cB:=@List.length_append.{0}
def cD:=@PySem.Heap.lt_size
def cO:=@PySem.Heap.get?_push_of_some
def y07:=@List.mem_cons.{0}
def cW:=@Option.map_eq_some_iff.{0,0}
def cX:=@List.mem_map.{0,0}
def de:=@List.size_toArray.{0}
def dq:=@List.map_append.{0,0}
theorem dO:type_of% @Option.any_some.{0}:=rfl
def eS:=@List.getElem?_eq_some_iff.{0}
def eU:=@List.map_map.{0,0,0}
def e_:=@List.mem_append.{0}
def fM:=@Nat.lt_of_lt_of_le
def gp:=@Nat.ne_of_lt
def gq:=@List.getElem?_map.{0,0}
def gu:=@Nat.max_self
def gP:=@List.contains_iff_mem.{0}
def iI:=@List.nodup_append.{0}
def jo:=@Nat.le_trans
def jq:=@PySem.Heap.get?_push_size
theorem jr:type_of% @List.length_cons.{0}:=rfl
def jt:=@List.getElem?_eq_getElem.{0}
def jQ:=@Nat.lt_irrefl
def jR:=@List.all_cons.{0}
def kI:=@Bool.not_true
def kR:=@List.mem_singleton.{0}
def kS:=@List.mem_map_of_mem.{0,0}
def lC:=@Bool.and_eq_true
def lD:=@Nat.zero_le
def lE:=@List.prefix_refl.{0}
def l9:=@List.append_nil.{0}
def m_:=@List.all_eq_true.{0}
def nq:=@List.length_set.{0}
def nt:=@List.append_assoc.{0}
def nv:=@Bool.not_false
def ny:=@List.map_congr_left.{0,0}
def oW:=@Bool.false_ne_true
def oX:=@List.find?_cons.{0}
def pk:=@List.mem_append_right.{0}
def pZ:=@List.mem_cons_of_mem.{0}
def p4:=@PySem.Heap.get?_update_other
def qC:=@List.mem_filter.{0}
def qD:=@Nat.le_succ
def qE:=@List.nodup_cons.{0}
def rn:=@List.filterMap_cons.{0,0}
def rq:=@List.mem_cons_self.{0}
theorem rA:type_of% @List.lookup_cons.{0,0}:=rfl
def rP:=@List.mem_filterMap.{0,0}
def rQ:=@PySem.Heap.get?_update_self
def rR:=@Bool.false_eq_true
def uc:=@List.mem_of_getElem?.{0}
def ud:=@List.length_singleton.{0}
def ue:=@List.filter_cons.{0}
def uI:=@List.mem_range
def uJ:=@Array.getElem?_eq_getElem.{0}
def uK:=@List.length_range
def uL:=@List.nil_append.{0}
def vZ:=@List.getElem?_set_self.{0}
def v3:=@Nat.lt_succ_self
def v5:=@List.getElem?_append_right.{0}
def v7:=@List.find?_eq_none.{0}
def xR:=@Nat.ne_of_gt
def xS:=@List.getElem?_append_left.{0}
def xV:=@List.take_of_length_le.{0}
def xW:=@Option.bind_some.{0,0}
def xX:=@Array.getElem?_toList.{0}
def xY:=@List.all_map.{0,0}
def xZ:=@List.length_filter_le.{0}
def Ac:=@List.length_take.{0}
def Ad:=@Nat.lt_succ_of_lt
def Ae:=@Bool.eq_iff_iff
theorem Af:type_of% @List.length_nil.{0}:=rfl
def Ag:=@List.getElem?_range
def Ah:=@Nat.le_of_ble_eq_true
theorem Ai:type_of% @Option.isSome_none.{0}:=rfl
def Aj:=@List.getElem?_eq_none.{0}
def Ak:=@Bool.eq_false_iff
theorem Al:type_of% @Option.isSome_some.{0}:=rfl
def Bq:=@List.getElem?_set_ne.{0}
def Br:=@Nat.le_of_eq
def Bs:=@List.map_nil.{0,0}
def Bt:=@List.length_replicate.{0}
def Bu:=@Array.getElem?_eq_some_iff.{0}
def y1p:=@List.not_mem_nil.{0}
def Bv:=@Bool.and_eq_true_iff
theorem Bw:type_of% @List.foldl_cons.{0,0}:=rfl
def By:=@List.filterMap_nil.{0,0}
def Bz:=@List.mem_of_find?_eq_some.{0}
def Ep:=@List.mem_append_left.{0}
def Er:=@List.length_drop.{0}
def Es:=@List.mem_iff_getElem?.{0}
def Et:=@Int.le_refl
def Eu:=@List.nodup_nil.{0}
def Ew:=@PySem.Heap.get?_push_ne
def Em:=@Nat.ble_eq_true_of_le
def En:=@List.find?_some.{0}
def Eo:=@Option.getD_some.{0}
def Hf:=@List.getElem_inj.{0}
theorem Hg:type_of% @Array.length_toList.{0}:=rfl
def Hh:=@List.getElem_mem.{0}
def Hi:=@List.drop_of_length_le.{0}
def Hj:=@Nat.le_add_right
def Hk:=@List.filter_sublist.{0}
def Hm:=@Bool.or_false
def Ho:=@List.foldl_append.{0,0}
def Hq:=@PySem.Heap.get?_update_ne
def Hr:=@List.getD_eq_getElem?_getD.{0}
def Hs:=@List.map_drop.{0,0}
def Ht:=@List.set_set.{0}
def Hu:=@Bool.or_true
def Hv:=@List.filter_congr.{0}
def Hw:=@List.length_filterMap_le.{0,0}
def L7:=@Nat.le_of_lt
def L8:=@Array.mem_toList_iff.{0}
def L9:=@List.getElem?_replicate.{0}
def L_:=@List.mem_reverse.{0}
def Ma:=@Nat.sub_self
def Mb:=@Nat.lt_of_le_of_lt
def Mc:=@List.length_reverse.{0}
def Md:=@List.any_eq_true.{0}
def Me:=@List.ext_getElem?.{0}
def Mf:=@List.take_length.{0}
def Mg:=@PySem.Heap.size_update
def Mh:=@List.take_append_drop.{0}
def Mi:=@List.filterMap_cons_none.{0,0}
def Mj:=@List.filterMap_cons_some.{0,0}
def Ml:=@List.mem_of_mem_drop.{0}
def Mm:=@List.contains_cons.{0}
def Mn:=@Bool.true_or
def Mo:=@List.pairwise_map.{0,0}
def Mp:=@List.filterMap_append.{0,0}
def Mq:=@List.set_getElem_self.{0}
def ay:=@PySem.wpAny_bind
def aS:=@PySem.wpAny_pure
def uf:=@if_true.{1}
def aN:=@if_pos.{1}
def aJ:=@if_neg.{1}
def l_:=@if_false.{1}
def qF:=@decide_eq_true
def rS:=@decide_eq_false
def jD:=@beq_self_eq_true.{0}
def kT:=@PySem.wpAny_holding
def y9a:=@decide_eq_true_iff
def Am:=@of_decide_eq_true
def nc:=@beq_eq_false_iff_ne.{0}
def y9d:=@Classical.byContradiction
def bT:=@absurd.{0}
def ug:=@True.intro
def bH:=@eq_true
namespace Carry.Hd
open Lean Meta PySem PySem.W
abbrev kC:=@mkConst
abbrev aM:=@mkAppM
abbrev nL:=mkRawNatLit
abbrev Ex:=Lean.Expr
def fit(ds:Array (Ex×Ex×Ex)):MetaM (Array (Ex×Ex×Ex)):=do
 let cs:Std.HashSet Ex:=ds.foldl (λz d=>if d.1.isConst then z.insert d.1 else z) {}
 ds.filterM λd=>do
  let ty:=Fast.bareType (<-inferType d.1)
  return (ty.find? λy=>cs.contains y || y.isConstOf ``PySem.W.Frag).isNone
def spots(ds:Array (Ex×Ex×Ex)):Std.HashMap Ex Nat:=ds.zipIdx.foldl (λz d=>z.insert d.1.1 d.2) {}
def parts(tw:Name->MetaM Unit)(v:Ex):MetaM (Array (Ex×Ex×Ex)):=do
 for x in Fast.constsOf v do
  if let .const c _:=x then
   if((<-getEnv).getModuleIdxFor? c).isNone || (`PySem.Challenge).isPrefixOf c then tw c
 fit (<-Fast.twinsIn v)
def twin:Nat->Name->MetaM Unit
 |0,_=>return
 |k+1,c=>do
  let (n,e) <-Fast.stemIn c true
  if(<-getEnv).contains e then return
  if let some none:=(<-Fast.primed.get).get? c then return
  let some (.defnInfo d):=(<-getEnv).find? c|return
  let ds <-parts (twin k) d.value
  if ds.isEmpty then
   Fast.primed.modify λz=>z.insert c none
   return
  let ix:=spots ds
  withOptions (Elab.async.set · false) do
   addDecl (.defnDecl { name:=n,levelParams:=[],type:=d.type,value:=Fast.putIn ix (λi=>ds[i]!.2.1) d.value,hints:=d.hints,safety:=.safe})
   addDecl (.thmDecl { name:=e,levelParams:=[],type:=<-mkEq (kC c) (kC n),value:=<-mkEqRefl (kC c)})
  Fast.primed.modify λz=>z.insert c (some (n,e))
def prep(v:Ex):MetaM (Array (Ex×Ex×Ex)):=parts (twin 9) v
def put(stem:Name)(ty v:Ex):MetaM Ex:=do
 let ds <-prep v
 let c <-defAt stem ty (Fast.putIn (spots ds) (λi=>ds[i]!.2.1) v)
 Fast.primed.modify λz=>z.insert c.constName! none
 return c
abbrev Objs:=Array (Obj×Obj×Ex)
def lay(old:Objs)(s t:Shared):MetaM Objs:=do
 let P:=kC ``Params
 unless s.heap.objs.size == t.heap.objs.size && s.toks == t.toks && toExpr s.drawn == toExpr t.drawn && toExpr s.heap.life == toExpr t.heap.life do throwError "the worlds part"
 let mut out:=#[]
 for i in [0:s.heap.objs.size] do
  let (a,b):=(s.heap.objs[i]!,t.heap.objs[i]!)
  if let some (a',b',e):=old[i]? then
   if sameObjNow a' a && sameObjNow b' b then
    out:=out.push (a',b',e)
    continue
  let v <-withLocalDeclD `P P λp=>do
   let e:=objE p a
   unless e == objE p b do throwError "an object is the world's"
   mkLambdaFVars #[p] e
  out:=out.push (a,b,<-put `o (<-mkArrow P (kC ``Obj)) v)
 return out
def state(l:Bool)(old:Objs)(s t:Shared):MetaM (Objs×W.State):=do
 let P:=kC ``Params
 let os <-lay old s t
 let life:=toExpr s.heap.life
 let S:W.State:={ heap:=default,gens:=<-gensE s t,drawn:=toExpr s.drawn,toks:=nL s.toks}
 if l then
  let v <-withLocalDeclD `P P λp=>mkLambdaFVars #[p] (mkApp2 (kC ``Heap.mk) (mkApp2 (kC ``Array.mk [0]) (kC ``Obj) (listE (kC ``Obj) (os.toList.map λx=>mkApp x.2.2 p))) life)
  return (os,{ S with heap:=<-put `h (<-mkArrow P (kC ``Heap)) v})
 let v <-withLocalDeclD `P P λp=>mkLambdaFVars #[p] (treeE p (os.map (·.2.2)) 1 0)
 return (os,{ S with tree:=some (<-put `t (<-mkArrow P (kC ``BT)) v,nL s.heap.objs.size,life)})
def aux(ty pf:Ex):MetaM Ex:=do return kC (<-withOptions (Elab.async.set · false) (mkAuxLemma [] ty pf (cache:=false)))
def look:Nat->Ex->Ex->MetaM Ex
 |k,l,r=>do
  let W:=kC ``World
  let O:=kC ``OsState
  let q <-withLocalDeclD `w W λw=>withLocalDeclD `os O λos=>do
   let un (e:Ex):MetaM Ex:=do
    let e:=(mkApp2 e w os).headBeta
    if e.isAppOf ``openSeen || e.isAppOf ``openGood then return (<-unfoldDefinition? e).getD e
    return e
   let (a,b):=(<-un l,<-un r)
   unless a.isAppOfArity ``Prod.mk 4 && b.isAppOfArity ``Prod.mk 4 do return none
   let sh (e:Ex) (i:Nat):MetaM Ex:=mkLambdaFVars #[w,os] (e.getArg! i)
   return some (<-sh a 2,<-sh b 2,<-sh a 3,<-sh b 3)
  match k,q with
  |n+1,some (a1,b1,a2,b2)=>
   let (x,y):=(<-look n a1 b1,<-look n a2 b2)
   let (ty,pf) <-withLocalDeclD `w W λw=>withLocalDeclD `os O λos=>do
    return (<-mkForallFVars #[w,os] (<-mkEq (mkApp2 l w os).headBeta (mkApp2 r w os).headBeta),<-mkLambdaFVars #[w,os] (<-aM ``looks_pair #[mkApp2 x w os,mkApp2 y w os]))
   aux ty pf
  |_,_=>
   let P <-withLocalDeclD `w W λw=>do mkLambdaFVars #[w] (<-mkEq (mkApp l w).headBeta (mkApp r w).headBeta)
   discard <| prep P
   let e <-byKernelQuick P []
   withLocalDeclD `w W λw=>withLocalDeclD `os O λos=>do mkLambdaFVars #[w,os] (<-aM ``congrFun #[mkApp e w,os])
def most:Nat:=3000
def left(g:MVarId)(pE:Ex)(p:Program)(_:List String):MetaM Unit:=g.withContext do
 let a:=(<-instantiateMVars (<-g.getType)).consumeMData.getAppArgs
 let some N <-(Meta.evalNat a[7]!).run|throwError "no number"
 let (.ok t,.ok t'):=(<-traceTop p N 1,<-traceTop p N 2)|throwError "no trace"
 let tb:=kC ``treeTable
 let (W,O):=(kC ``World,kC ``OsState)
 let m0:=nL t.s0.heap.objs.size
 let ann:=toExpr t.ann
 let main <-aM ``Program.main #[pE]
 let op <-aM ``opening #[pE]
 let e1 <-aux (<-mkEq op (mkApp (kC ``plainProg) (<-aM ``Scope.names #[<-aM ``Module.scope #[main]]))) (<-mkEqRefl op)
 let e2 <-withLocalDeclD `s (kC ``Shared) λs=>do
  let r <-aM ``some #[s]
  aux (<-mkForallFVars #[s] (<-mkEq (mkApp2 (kC ``fenceModules?) pE s) r)) (<-mkLambdaFVars #[s] (<-mkEqRefl r))
 let e3 <-mkDecideProof (<-mkEq (mkApp2 (kC ``Nat.ble) (nL 600) a[7]!) (kC ``Bool.true))
 let boot:=mkAppN (kC ``boot_open) #[pE,a[7]!,e1,e3,e2]
 let bE <-aM ``behindTheImports #[pE]
 let some cells <-cellsD? bE|throwError "no body"
 let env0 <-Elab.Term.TermElabM.run' do
  let s1 <-Elab.Term.exprToSyntax (<-aM ``Module.scope #[main])
  let s2 <-Elab.Term.exprToSyntax (toExpr t.code)
  let e <-Elab.Term.withSynthesize (Elab.Term.elabTermEnsuringType (<-`(({ scope:=$s1,locals:=mainNs,globals:=mainNs,cells:=[],code:=$s2,frame:=some $(quote t.frame)}:Env))) (kC ``Env))
  instantiateMVars e
 let env <-defAt `env (kC ``Env) env0
 let fp:=toExpr t.framePos
 let cE:=mkApp2 (kC ``Code.body) bE env
 let B:=listE (kC ``Frame) [mkApp (kC ``topFrame) fp]
 let go (f:Name) (more:Array Ex) (n:Nat) (w s th:Ex):Ex:=mkAppN (kC f) (#[tb,pE,w,m0,ann]++more++#[nL n,s,th])
 let one:=#[nL 1]
 let piece (rows:List String) (l r:Ex->Ex->MetaM Ex):MetaM Ex:=do
  for x in [pE,env] do discard <| prep x
  byPiece rows l r
 let ends (S:Ex) (pos:Pos):MetaM Ex:=do aM ``some #[<-aM ``Prod.mk #[kC ``Flow.next,<-aM ``Prod.mk #[S,<-aM ``Prod.mk #[cE,toExpr pos]]]]
 let rowsOf (x y:Snap):=(x.rows++y.rows).eraseDups
 let mut o:Objs:=#[]
 for i in [0:t.s0.heap.objs.size] do o:=o.push (t.s0.heap.objs[i]!,t'.s0.heap.objs[i]!,kC ((`PySem.W).str s!"boot_o_{i}"))
 let S0:PySem.W.State:={ heap:=kC ``boot_heap,gens:=mkApp2 (kC ``Array.mk [0]) (kC ``GenState) (mkApp (kC ``List.nil [0]) (kC ``GenState)),drawn:=kC ``boot_drawn,toks:=kC ``boot_toks}
 let (o1,Sa) <-state true o t.pre.s t'.pre.s
 let thA:=mkApp4 (kC ``Thread.mk) (mkApp2 (kC ``denote) tb cE) cE (toExpr t.pre.pos) B
 let stub:=mkApp (kC ``topStub) pE
 let pre <-piece (rowsOf t.pre t'.pre) (λw os=>pure (go ``topGo #[] t.pre.steps w (S0.at w os) stub)) λw os=>do aM ``some #[<-aM ``Prod.mk #[Sa.at w os,thA]]
 let (o2,Sb) <-state false o1 t.block.s t'.block.s
 let block <-piece (rowsOf t.block t'.block) (λw os=>pure (go ``segRun one t.block.steps.succ w (Sa.at w os) (mkAppN (kC ``blockOf) #[bE,env,cE,toExpr t.pre.pos,B]))) λw os=>ends (Sb.at w os) t.block.pos
 let mut gs:Array (List Ex×Nat×Snap×Snap×List String):=#[]
 for (st,x,x') in cells.zip (t.pieces.zip t'.pieces) do
  let k:=max x.steps x'.steps
  let rs:=rowsOf x x'
  match gs.back? with
  |some (l,n,_,_,r)=>
   if n+k<=most && (r++rs).eraseDups.length<=3 then gs:=gs.pop.push (l++[st],n+k,x,x',(r++rs).eraseDups) else gs:=gs.push ([st],k,x,x',rs)
  |none=>gs:=gs.push ([st],k,x,x',rs)
 let mut cur:=(o2,Sb,t.block.pos)
 let mut lems:=#[]
 for (sts,n,x,x',rs) in gs do
  let stE <-defAt `st (mkApp (kC ``List [0]) (kC ``Stmt)) (listE (kC ``Stmt) sts)
  discard <| prep stE
  let (o0,S1,p1):=cur
  let (o',S') <-state false o0 x.s x'.s
  let th:=mkAppN (kC ``piecesOf) #[stE,env,cE,toExpr p1,B]
  let h <-piece rs (λw os=>pure (go ``segRunT one n.succ w (S1.atT w os) th)) λw os=>ends (S'.atT w os) x.pos
  lems:=lems.push (stE,n.succ,S1,p1,S',x.pos,<-liftT h ``segRun_of)
  cur:=(o',S',x.pos)
  logInfo m!"PIECE {sts.length} {n} {x.s.heap.objs.size}"
 let (oN,SN,pN):=cur
 let (_,Sf) <-state true oN t.fin.s t'.fin.s
 let fin <-piece (rowsOf t.fin t'.fin) (λw os=>pure (go ``topRun #[] t.fin.steps.succ w (SN.at w os) (mkApp4 (kC ``Thread.mk) (mkApp (kC ``doneF) (kC ``Flow.next)) cE (toExpr pN) B))) λw os=>aM ``some #[Sf.at w os]
 let run <-withLocalDeclD `w W λw=>withLocalDeclD `os O λos=>do
  let w1 (l:Ex):MetaM Ex:=do aM ``congrFun #[mkApp l w,os]
  let r:=Sf.at w os
  let com:=#[tb,pE,w,m0,ann,env,fp]
  let mut k <-w1 fin
  let mut M:=nL t.fin.steps.succ
  let mut rest:=listE (kC ``Stmt) []
  for (stE,n,S1,p1,S',p2,h) in lems.toList.reverse do
   k:=mkAppN (kC ``piece_app) (com++#[nL n,M,S1.at w os,S'.at w os,r,stE,rest,cE,toExpr p1,toExpr p2,<-w1 h,k])
   M:=mkApp2 (kC ``Nat.add) (nL n) M
   rest <-aM ``HAppend.hAppend #[stE,rest]
  k:=mkAppN (kC ``piece_block) (com++#[nL t.block.steps.succ,M,Sa.at w os,Sb.at w os,r,bE,cE,toExpr t.pre.pos,toExpr t.block.pos,<-w1 block,k])
  M:=mkApp2 (kC ``Nat.add) (nL t.block.steps.succ) M
  k:=mkAppN (kC ``go_top) #[tb,pE,w,m0,ann,nL t.pre.steps,M,S0.at w os,Sa.at w os,r,stub,thA,<-w1 pre,k]
  M:=mkApp2 (kC ``Nat.add) (nL t.pre.steps) M
  let ty <-mkEq (mkAppN (kC ``topRun) #[tb,pE,w,m0,ann,M,S0.at w os,stub]) (<-aM ``some #[r])
  return (M,<-aux (<-mkForallFVars #[w,os] ty) (<-mkLambdaFVars #[w,os] k))
 let lem:=kC ``LeftO.of_pieces
 let (ms,_,_) <-forallMetaTelescope (<-inferType lem)
 let vs:=#[pE,a[1]!,a[2]!,a[3]!,a[4]!,a[5]!,a[6]!,a[7]!,a[8]!,S0.heap,Sf.heap,S0.gens,Sf.gens,S0.drawn,Sf.drawn,S0.toks,Sf.toks,m0,ann,run.1]
 for (m,v) in ms.zip vs do m.mvarId!.assign v
 let want (i:Nat):MetaM Ex:=do instantiateMVars (<-inferType ms[i]!)
 let .forallE n1 d1 b1 i1 <-want 21|throwError "size"
 let size <-byKernelQuick (.lam n1 d1 b1 i1) []
 let .forallE _ _ bl _ <-want 24|throwError "looks"
 let (l,r) <-withLocalDeclD `w W λw=>do
  let some (_,l,r):=(bl.instantiate1 w).eq?|throwError "looks"
  return (<-mkLambdaFVars #[w] l,<-mkLambdaFVars #[w] r)
 let h <-look 12 l r
 let looks <-withLocalDeclD `w W λw=>do
  let f <-withLocalDeclD `os O λos=>mkLambdaFVars #[os] (mkApp2 h w os)
  mkLambdaFVars #[w] (<-aM ``funext #[f])
 g.assign (mkAppN lem (vs++#[boot,size,run.2,<-mkDecideProof (<-want 23),looks]))
simproc_decl hd0 (PySem.W.OpenLaw.Holds _):=λe=>do
 if let .const (.str p s) _:=e.appArg! then twin 9 (p.str ("p"++(s.drop 1).toString))
 return .continue
simproc_decl hd (PySem.W.OpenRow.Holds _):=λ_=>do
 PySem.W.leftPieces.set (some left)
 return .continue
end Carry.Hd
noncomputable section
set_option Elab.async false
set_option maxRecDepth 100000
abbrev ai:=@PySem.Value
abbrev aq:=@PySem.Shared
abbrev ag:=@PySem.Addr
abbrev aj:=@Option.{0}
abbrev bR:=@PySem.FuncData
abbrev cF:=@PySem.Around
abbrev cS:=@PySem.Program
abbrev p5:=@PySem.NameKind
abbrev bJ:=@PySem.Heap
abbrev ck:=@PySem.World
namespace L2
open PySem PySem.Spec PyProof.Rows
abbrev Key:=Sum Int Str
noncomputable def xm:Key->ai->Bool
 |.inl k,v=>Value.isInt k v
 |.inr x,v=>Value.isStrOf x v
noncomputable def KP(w:ck):Key->Int
 |.inl k=>hashInt k
 |.inr x=>hashStr w x
theorem yo:∀{k:Key} {v:ai},xm k v=true->(∃i t,k=Sum.inl i/\v=Value.int i t)\/(∃x t,k=Sum.inr x/\v=Value.str x t)
 |.inl i,v,h=>by
  obtain⟨t,e⟩:=Value.isInt_shape (k:=i) (v:=v) h;exact .inl ⟨i,t,rfl,e⟩
 |.inr x,v,h=>by
  obtain⟨t,e⟩:=Value.isStrOf_shape (x:=x) (v:=v) h;exact .inr ⟨x,t,rfl,e⟩
def Δ(a b:Int):decide ((Sum.inl a:Key)=Sum.inl b)=(a == b):=by
 by_cases e:a=b
 .subst e;simp
 .have h:¬(Sum.inl a:Key)=Sum.inl b:=λq=>e (Sum.inl.inj q)
  rw[rS h];exact(nc.mpr e).symm
def Θ(a b:Str):decide ((Sum.inr a:Key)=Sum.inr b)=decide (a=b):=by
 by_cases e:a=b
 .subst e;simp
 .have h:¬(Sum.inr a:Key)=Sum.inr b:=λq=>e (Sum.inr.inj q)
  rw[rS h,rS e]
def Ξ(a:Int)(b:Str):decide ((Sum.inl a:Key)=Sum.inr b)=false:=rS (λq=>nomatch q)
def Φ(a:Str)(b:Int):decide ((Sum.inr a:Key)=Sum.inl b)=false:=rS (λq=>nomatch q)
def IX(prog:cS)(w:ck):PySem.KeyKind prog w Key where
 is:=xm
 hash:=KP w
 inj:=λv a b ha hb=>by
  grind [yo]
 byValue:=λk v h=>by
  rcases yo h with⟨i,t,rfl,rfl⟩|⟨x,t,rfl,rfl⟩ <;> rfl
 pyHash:=λhv h=>by
  rcases yo hv with⟨i,t,rfl,rfl⟩|⟨x,t,rfl,rfl⟩
  .exact wpAny_pyHash_int h
  .exact wpAny_pyHash_str h
 eqBool:=λhu hv h=>by
  rcases yo hu with⟨i,t,rfl,rfl⟩|⟨x,t,rfl,rfl⟩
  .rcases yo hv with⟨j,u,rfl,rfl⟩|⟨y,u,rfl,rfl⟩
   .rw[Δ] at h;exact wpAny_eqBool_int h
   .rw[Ξ] at h;exact SeqAt.EqAt.int_str i t y u _ _ _ _ h
  .rcases yo hv with⟨j,u,rfl,rfl⟩|⟨y,u,rfl,rfl⟩
   .rw[Φ] at h;exact SeqAt.EqAt.str_int x t j u _ _ _ _ h
   .rw[Θ] at h;exact wpAny_eqBool_str h
 «strs»:=λk x t v h=>by
  rcases yo h with⟨i,u,rfl,e⟩|⟨y,u,rfl,e⟩
  .exact nomatch e
  .injection e with e1 _;subst e1;cases v <;> rfl
inductive V where
 |aF|bl (b:Bool)|int (i:Int)|str (x:Str)|wy (b:Array UInt8)|wN (b:UInt64)|ref (a:ag)|ty (n:String)
 deriving DecidableEq
def RelV:V->ai->Prop
 |.aF,u=>u=Value.none
 |.bl b,u=>u=Value.bool b
 |.int i,u=>∃t,u=Value.int i t
 |.str x,u=>∃t,u=Value.str x t
 |.wy b,u=>∃t,u=Value.bytes b t
 |.wN b,u=>∃t,u=Value.float b t
 |.ref a,u=>u=Value.ref a
 |.ty n,u=>u=Value.type n
abbrev Vals:List V->List ai->Prop:=Paired RelV
theorem Vals.length{xs:List V}{us:List ai}(r:Vals xs us):xs.length=us.length:=Paired.length r
theorem Vals.get:∀{xs:List V} {us:List ai} {i:Nat} {x:V},Vals xs us->xs[i]?=some x->∃u,us[i]?=some u/\RelV x u
 |_,_,_,_,.nil,e=>by simp at e
 |_,_,0,_,.cons r _,e=>by simp at e;subst e;exact⟨_,rfl,r⟩
 |_,_,i+1,x,.cons _ t,e=>by
  obtain⟨u,h1,h2⟩:=Vals.get (i:=i) (x:=x) t (by simpa using e)
  exact⟨u,by simpa using h1,h2⟩
theorem Vals.set{x:V}{u:ai}(r:RelV x u):∀{xs:List V} {us:List ai} (i:Nat),Vals xs us->Vals (xs.set i x) (us.set i u)
 |_,_,_,.nil=>.nil
 |_,_,0,.cons _ t=>.cons r t
 |_,_,i+1,.cons q t=>.cons q (Vals.set r i t)
def Vals.append{xs ys:List V}{us ws:List ai}(h:Vals xs us)(s:Vals ys ws):Vals (xs++ys) (us++ws):=by
 induction h with
 |nil=>exact s
 |cons r t ih=>exact .cons r ih
theorem Vals.take:∀{xs:List V} {us:List ai} (n:Nat),Vals xs us->Vals (xs.take n) (us.take n)
 |_,_,0,_=>.nil
 |_,_,_+1,.nil=>.nil
 |_,_,n+1,.cons r t=>.cons r (Vals.take n t)
theorem Vals.drop:∀{xs:List V} {us:List ai} (n:Nat),Vals xs us->Vals (xs.drop n) (us.drop n)
 |_,_,0,r=>r
 |_,_,_+1,.nil=>.nil
 |_,_,n+1,.cons _ t=>Vals.drop n t
def hV:aj V->aj ai->Prop
 |some v,some u=>RelV v u
 |none,none=>True
 |_,_=>False
def KV{κ:Type}:List (κ×V)->List (κ×ai)->Prop:=Paired λ(p:κ×V) (q:κ×ai)=>p.1=q.1/\RelV p.2 q.2
def kV:Key->V
 |.inl i=>.int i
 |.inr x=>.str x
inductive TK where
 |inl (i:Int)|inr (x:Str)|tp (l:List TK)|aF
mutual
def TK.beq:TK->TK->Bool
 |.inl a,.inl b=>decide (a=b)
 |.inr a,.inr b=>decide (a=b)
 |.tp l,.tp m=>TK.pO l m
 |.aF,.aF=>true
 |_,_=>false
def TK.pO:List TK->List TK->Bool
 |[],[]=>true
 |a::l,b::m=>TK.beq a b&&TK.pO l m
 |_,_=>false
end
mutual
theorem TK.beq_iff:∀a b:TK,TK.beq a b=true↔a=b
 |.inl a,.inl b=>by unfold TK.beq;rw[decide_eq_true_eq];exact⟨λe=>by rw[e],λe=>by cases e;rfl⟩
 |.inr a,.inr b=>by unfold TK.beq;rw[decide_eq_true_eq];exact⟨λe=>by rw[e],λe=>by cases e;rfl⟩
 |.tp l,.tp m=>by unfold TK.beq;rw[TK.nK l m];exact⟨λe=>by rw[e],λe=>by cases e;rfl⟩
 |.inl _,.inr _=>by unfold TK.beq;exact⟨λe=>(nomatch e),λe=>(nomatch e)⟩
 |.inl _,.tp _=>by unfold TK.beq;exact⟨λe=>(nomatch e),λe=>(nomatch e)⟩
 |.inr _,.inl _=>by unfold TK.beq;exact⟨λe=>(nomatch e),λe=>(nomatch e)⟩
 |.inr _,.tp _=>by unfold TK.beq;exact⟨λe=>(nomatch e),λe=>(nomatch e)⟩
 |.tp _,.inl _=>by unfold TK.beq;exact⟨λe=>(nomatch e),λe=>(nomatch e)⟩
 |.tp _,.inr _=>by unfold TK.beq;exact⟨λe=>(nomatch e),λe=>(nomatch e)⟩
 |.aF,.aF=>by unfold TK.beq;exact⟨λ_=>rfl,λ_=>rfl⟩
 |.aF,.inl _=>by unfold TK.beq;exact⟨λe=>(nomatch e),λe=>(nomatch e)⟩
 |.aF,.inr _=>by unfold TK.beq;exact⟨λe=>(nomatch e),λe=>(nomatch e)⟩
 |.aF,.tp _=>by unfold TK.beq;exact⟨λe=>(nomatch e),λe=>(nomatch e)⟩
 |.inl _,.aF=>by unfold TK.beq;exact⟨λe=>(nomatch e),λe=>(nomatch e)⟩
 |.inr _,.aF=>by unfold TK.beq;exact⟨λe=>(nomatch e),λe=>(nomatch e)⟩
 |.tp _,.aF=>by unfold TK.beq;exact⟨λe=>(nomatch e),λe=>(nomatch e)⟩
theorem TK.nK:∀l m:List TK,TK.pO l m=true↔l=m
 |[],[]=>by unfold TK.pO;exact⟨λ_=>rfl,λ_=>rfl⟩
 |a::l,b::m=>by unfold TK.pO;rw[lC,TK.beq_iff a b,TK.nK l m];exact⟨λe=>by rw[e.1,e.2],λe=>by cases e;exact⟨rfl,rfl⟩⟩
 |[],_::_=>by unfold TK.pO;exact⟨λe=>(nomatch e),λe=>(nomatch e)⟩
 |_::_,[]=>by unfold TK.pO;exact⟨λe=>(nomatch e),λe=>(nomatch e)⟩
end
instance:DecidableEq TK:=λa b=>decidable_of_iff _ (TK.beq_iff a b)
mutual
def TK.hash(w:ck):TK->Int
 |.inl i=>hashInt i
 |.inr x=>hashStr w x
 |.tp l=>reduceHash (Builtin.Tuple.tupleHashOf (TK.dA w l))
 |.aF=>4238894112
def TK.dA(w:ck):List TK->List Int
 |[]=>[]
 |a::l=>TK.hash w a::TK.dA w l
end
def TK.ok:Nat->TK->Bool
 |n+1,.tp l=>l.all (TK.ok n)
 |0,.tp _=>false
 |_,_=>true
def iJ(w:ck)(e:TK×V×V)(x:DictEntry):Prop:=x.hash=e.1.hash w/\RelV e.2.1 x.key/\RelV e.2.2 x.val/\e.1.ok 8=true
inductive HO where
  |lst (xs:List V)
  |tup (xs:List V)
  |dK (kvs:List (Key×V))|dT (kvs:List (List Key×V))
  |dG (es:List (TK×V×V)) (ep:Nat)
  |set (S:Int->Bool) (n:Nat)
  |ins (C dx:ag) (fs:List (Str×V))
  |own (x:ag)
  |xd (fs:List (Str×V))
  |met (f x:ag)
  |Lr (lo hi:Int)
  |Y (o:Obj) (u:HO)
  |z8 (ps:Array ai)
  |ext (φ:bJ->Prop)
abbrev Hp:=ag->aj HO
noncomputable def upd(H:Hp)(a:ag)(o:HO):Hp:=λb=>if b=a then some o else H b
theorem aI{H:Hp}{a:ag}{o:HO}:upd H a o a=some o:=by unfold upd;rw[aN rfl]
def cP{H:Hp}{a b:ag}{o:HO}(h:b≠a):upd H a o b=H b:=by unfold upd;rw[aJ h]
def Xt{H:Hp}{a:ag}{o u:HO}:upd (upd H a o) a u=upd H a u:=by
 funext b;unfold upd;split <;> rfl
def sC{H:Hp}{a b:ag}{o:HO}(h:H a=some o)(h':H b=none):a≠b:=by
 lia
section
variable(P:cS)(w:ck)
def bq(H:Hp)(h:bJ)(a:ag):HO->Prop
 |.lst xs=>xs.length<=sizeLine/\∃(aE:List ai) (n:Nat),Vals xs aE/\h.get? a=some { cls:=.type "list",data:=.seq aE.toArray n}
 |.tup xs=>xs.length<=sizeLine/\∃aE:List ai,Vals xs aE/\IsTup h a aE.toArray
 |.dK kvs=>kvs.length<=sizeLine/\(a == sysModules)=false/\∃vs,KV kvs vs/\h.DictOf (IX P w) a vs
 |.dT kvs=>kvs.length<=sizeLine/\(a == sysModules)=false/\∃xs:List (List Key×ag×ai),
   Paired (λ(p:List Key×V) (q:List Key×ag×ai)=>p.1=q.1/\H q.2.1=some (.tup (p.1.map kV))/\RelV p.2 q.2.2) kvs xs/\
   ∃o es ep,h.get? a=some o/\o.ExactDict/\o.data=.dict es ep/\es.toList=xs.map (entryOfKey (tupleKind (IX P w)))/\(xs.map (·.1)).Nodup
 |.dG es ep=>es.length<=sizeLine/\(a == sysModules)=false/\∃o xs,h.get? a=some o/\o.ExactDict/\o.data=.dict xs ep/\Paired (iJ w) es xs.toList/\(es.map (·.1)).Nodup
 |.set S n=>h.SetOf (intKind P w) a S n
 |.ins C dx fs=>H dx=some (.own a)/\fs.length<=1000/\dx≠a/\h.get? a=some (PySem.W.instObj C dx)/\
   ∃mA,h.Ns1 dx mA/\(∀f,hV (fs.lookup f) (mA f))/\PySem.Within mA (fs.map (·.1))
 |.own _=>∃o,h.get? a=some o
 |.xd fs=>∃mA,h.Ns1 a mA/\∀f,hV (fs.lookup f) (mA f)
 |.Lr lo hi=>∃t u v,h.get? a=some { cls:=.type "range",data:=.fields #[.int lo t,.int hi u,.int 1 v]}
 |.Y o u=>h.get? a=some o/\bq H h a u
 |.z8 ps=>h.get? a=some { cls:=.none,data:=.fields ps}
 |.met f x=>h.get? a=some (PySem.W.methodObj (.ref f) (.ref x))
 |.ext φ=>φ h/\(∃o,h.get? a=some o)/\∀h1 h2:bJ,φ h1->(∀o,h1.get? a=some o->h2.get? a=some o)->φ h2
def iO(H:Hp)(h:bJ):Prop:=∀a o,H a=some o->bq P w H h a o
end
section
variable{P:cS}{w:ck}{H H':Hp}{h h':bJ}{a:ag}{o:HO}
theorem bq.lt(x:bq P w H h a o):a<h.objs.size:=by
 cases o with
 |lst xs=>obtain⟨_,_,_,_,e⟩:=x;exact cD e
 |tup xs=>obtain⟨_,_,_,p⟩:=x;exact p.lt
 |dK kvs=>obtain⟨_,_,_,_,o,_,_,e,_⟩:=x;exact cD e
 |dT kvs=>obtain⟨_,_,_,_,o,_,_,e,_⟩:=x;exact cD e
 |dG es ep=>obtain⟨_,_,o,_,e,_⟩:=x;exact cD e
 |set S n=>obtain⟨o,_,_,_,e,_⟩:=x;exact cD e
 |ins C dx fs=>obtain⟨_,_,_,e,_⟩:=x;exact cD e
 |own y=>obtain⟨_,e⟩:=x;exact cD e
 |xd fs=>obtain⟨_,⟨_,_,_,e,_⟩,_⟩:=x;exact cD e
 |Lr lo hi=>obtain⟨_,_,_,e⟩:=x;exact cD e
 |Y ob u=>obtain⟨e,_⟩:=x;exact cD e
 |z8 ps=>exact cD (show h.get? a=some _ from x)
 |met f y=>exact cD (show h.get? a=some _ from x)
 |ext φ=>obtain⟨_,⟨_,e⟩,_⟩:=x;exact cD e
def Paired.DF{α β:Type}{F G:α->β->Prop}{l₁:List α}{l₂:List β}(h:Paired F l₁ l₂)(f:∀a b,F a b->G a b):Paired G l₁ l₂:=by
 induction h with
 |nil=>exact .nil
 |cons r t ih=>exact .cons (f _ _ r) ih
def bq.m7(x:bq P w H h a o)(k:∀b u,(b=a\/H b=some (.own a))->h.get? b=some u->h'.get? b=some u)
  (ho:∀b,H b=some (.own a)->H' b=some (.own a)) (ht:∀b xs,H b=some (.tup xs)->H' b=some (.tup xs)):bq P w H' h' a o:=by
 induction o with
 |lst xs=>obtain⟨z,aE,n,r,e⟩:=x;exact⟨z,aE,n,r,k _ _ (.inl rfl) e⟩
 |tup xs=>obtain⟨z,aE,r,ob,e,c⟩:=x;exact⟨z,aE,r,ob,k _ _ (.inl rfl) e,c⟩
 |dK kvs=>obtain⟨z,y,vs,r,ob,es,ep,e,c⟩:=x;exact⟨z,y,vs,r,ob,es,ep,k _ _ (.inl rfl) e,c⟩
 |dT kvs=>
  obtain⟨z,y,xs,r,ob,es,ep,e,c⟩:=x;exact⟨z,y,xs,Paired.DF r λp q z=>⟨z.1,ht _ _ z.2.1,z.2.2⟩,ob,es,ep,k _ _ (.inl rfl) e,c⟩
 |dG es ep=>obtain⟨z,y,ob,xs,e,c⟩:=x;exact⟨z,y,ob,xs,k _ _ (.inl rfl) e,c⟩
 |set S n=>obtain⟨ob,es,ep,t,e,c⟩:=x;exact⟨ob,es,ep,t,k _ _ (.inl rfl) e,c⟩
 |ins C dx fs=>
  obtain⟨d,z,ne,e,mA,⟨od,es,ep,e2,c⟩,r⟩:=x;exact⟨ho _ d,z,ne,k _ _ (.inl rfl) e,mA,⟨od,es,ep,k _ _ (.inr d) e2,c⟩,r⟩
 |own y=>obtain⟨ob,e⟩:=x;exact⟨ob,k _ _ (.inl rfl) e⟩
 |xd fs=>obtain⟨mA,⟨od,es,ep,e,c⟩,r⟩:=x;exact⟨mA,⟨od,es,ep,k _ _ (.inl rfl) e,c⟩,r⟩
 |Lr lo hi=>obtain⟨t,u,v,e⟩:=x;exact⟨t,u,v,k _ _ (.inl rfl) e⟩
 |Y ob u ih=>obtain⟨e,q⟩:=x;exact⟨k _ _ (.inl rfl) e,ih q⟩
 |z8 ps=>
  have e:h.get? a=some { cls:=.none,data:=.fields ps}:=x;show h'.get? a=some { cls:=.none,data:=.fields ps};exact k a _ (.inl rfl) e
 |met f y=>
  have e:h.get? a=some (PySem.W.methodObj (.ref f) (.ref y)):=x;show h'.get? a=some (PySem.W.methodObj (.ref f) (.ref y));exact k a _ (.inl rfl) e
 |ext φ=>obtain⟨p,⟨o,e⟩,st⟩:=x;exact⟨st _ _ p λo q=>k _ _ (.inl rfl) q,⟨o,k _ _ (.inl rfl) e⟩,st⟩
theorem iO.lt(x:iO P w H h)(e:H a=some o):a<h.objs.size:=(x a o e).lt
def iO.fresh(x:iO P w H h)(e:h.objs.size<=a):H a=none:=by
 cases q:H a with
 |none=>rfl
 |some u=>exact bT (fM (x.lt q) e) (jQ _)
def iO.kept(x:iO P w H h)(k:∀b u,h.get? b=some u->h'.get? b=some u):iO P w H h':=λa o e=>
 (x a o e).m7 (λb u _ q=>k b u q) (λ_ q=>q) λ_ _ q=>q
def iO.laid(x:iO P w H h)(k:∀b u,h.get? b=some u->h'.get? b=some u)(hp:h.objs.size<=a)(new:bq P w (upd H a o) h' a o):iO P w (upd H a o) h':=λb u e=>by
 have hn:=x.fresh hp;by_cases hb:b=a
 .subst hb;rw[aI] at e;cases e;exact new
 .rw[cP hb] at e;exact(x b u e).m7 (λc v _ q=>k c v q) (λc q=>by rw[cP (sC q hn)];exact q) λc xs q=>by rw[cP (sC q hn)];exact q
end
def Rd(H:Hp)(a:ag)(u:HO):Prop:=H a=some u\/∃o,H a=some (.Y o u)
def Rd.ok{P:cS}{w:ck}{H:Hp}{h:bJ}{a:ag}{u:HO}(r:Rd H a u)(x:iO P w H h):bq P w H h a u:=by
 rcases r with r|⟨o,r⟩
 .exact x a u r
 .obtain⟨_,q⟩:=x a _ r;exact q
def BG:aj HO->Prop
 |some (.lst _)=>True
 |some (.dK _)=>True
 |some (.dT _)=>True
 |some (.dG _ _)=>True
 |some (.set _ _)=>True
 |some (.ins _ _ _)=>True
 |some (.ext _)=>True
 |_=>False
section
variable{P:cS}{w:ck}{H:Hp}{h h':bJ}{x e:ag}{o':HO}
def iO.write(ok:iO P w H h)(mu:BG (H x))(he:e=x\/H e=some (.own x))(k:∀b u,b≠e->h.get? b=some u->h'.get? b=some u)(Bc:∃u,h'.get? e=some u)
  (new:bq P w (upd H x o') h' x o'):iO P w (upd H x o') h':=λb u q=>by
 have K5:∀c y,H c=some (.own y)->c≠x:=λc y r z=>by subst z;rw[r] at mu;exact mu
 have K6:∀c xs,H c=some (.tup xs)->c≠x:=λc xs r z=>by subst z;rw[r] at mu;exact mu
 by_cases hb:b=x
 .grind [aI]
 .rw[cP hb] at q;by_cases A':b=e
  .have q':H b=some (.own x):=by
    rcases he with z|z
    .exact bT (A'.trans z) hb
    .rw[A'];exact z
   rw[q] at q';cases q';obtain⟨v,hv⟩:=Bc;exact⟨v,by rw[A'];exact hv⟩
  .refine(ok b u q).m7 (λc v hc r=>k c v ?_ r) (λc r=>by rw[cP (K5 c b r)];exact r) λc xs r=>by rw[cP (K6 c xs r)];exact r
   grind
end
structure Un (fs ex:List ag) (H H':Hp) (h h':bJ):Prop where
 keep:∀b o,h.get? b=some o->H b=none->b∉fs->b∉ex->h'.get? b=some o
 slot:∀b o,h.get? b=some o->H b=none->b∈fs->b∉ex->∃sl,h'.get? b=some { o with slots:=sl}
 free:∀b o,h.get? b=some o->H b=none->b∉ex->H' b=none
 there:∀b o,h.get? b=some o->b∉ex->∃o',h'.get? b=some o'
 lB:∀b xs,H b=some (.tup xs)->H' b=some (.tup xs)
 kj:∀b o u,H b=some (.Y o u)->H' b=some (.Y o u)
 lA:∀b ps,H b=some (.z8 ps)->∃more,H' b=some (.z8 (ps++more))
section
variable{fs A_ ex ex':List ag}{H H1 H2:Hp}{h h1 h2 h':bJ}{a x e:ag}{o:HO}
def Un.any(u:Un fs ex H H1 h h1){b:ag}{ob:Obj}(q:h.get? b=some ob)(n:H b=none)(hx:b∉ex):∃sl,h1.get? b=some { ob with slots:=sl}:=by
 by_cases hb:b∈fs
 .exact u.slot b ob q n hb hx
 .exact⟨ob.slots,u.keep b ob q n hb hx⟩
def Un.kept(k:∀b u,h.get? b=some u->h'.get? b=some u):Un fs ex H H h h':=
 ⟨λb ob q _ _ _=>k b ob q,λb ob q _ _ _=>⟨ob.slots,k b ob q⟩,λ_ _ _ n _=>n,λb ob q _=>⟨ob,k b ob q⟩,λ_ _ q=>q,λ_ _ _ q=>q,λ_ ps q=>⟨#[],by rw[q];simp⟩⟩
def Un.refl:Un fs ex H H h h:=Un.kept λ_ _ q=>q
def Un.laid(k:∀b u,h.get? b=some u->h'.get? b=some u)(hp:h.objs.size<=a)(hn:H a=none):Un fs ex H (upd H a o) h h' where
 keep:=λb u q _ _ _=>k b u q
 slot:=λb u q _ _ _=>⟨u.slots,k b u q⟩
 free:=λb u q n _=>by rw[cP (gp (fM (cD q) hp))];exact n
 there:=λb u q _=>⟨u,k b u q⟩
 lB:=λb xs q=>by rw[cP (sC q hn)];exact q
 kj:=λb u xs q=>by rw[cP (sC q hn)];exact q
 lA:=λb ps q=>⟨#[],by rw[cP (sC q hn),q];simp⟩
def Un.write(mu:BG (H x))(he:e=x\/H e=some (.own x))(k:∀b u,b≠e->h.get? b=some u->h'.get? b=some u)(Bc:∃u,h'.get? e=some u):Un fs ex H (upd H x o) h h':=by
 have hx:∀b,H b=none->b≠x:=λb n z=>by subst z;rw[n] at mu;exact mu
 have hb:∀b,H b=none->b≠e:=λb n z=>by
  subst z;rcases he with r|r
  .exact hx b n r
  .rw[n] at r;cases r
 have hm:∀b u,H b=some u->¬BG (some u)->b≠x:=λb u q nm z=>by subst z;rw[q] at mu;exact nm mu
 refine⟨λb u q n _ _=>k b u (hb b n) q,λb u q n _ _=>⟨u.slots,k b u (hb b n) q⟩,λb u q n _=>by rw[cP (hx b n)];exact n,λb u q _=>?_,
  λb xs q=>by rw[cP (hm b _ q λz=>z)];exact q,λb u xs q=>by rw[cP (hm b _ q λz=>z)];exact q,λb ps q=>⟨#[],by rw[cP (hm b _ q λz=>z),q];simp⟩⟩
 by_cases A':b=e
 .subst A';exact Bc
 .exact⟨u,k b u A' q⟩
end
noncomputable def Hb(h:bJ)(H:Hp):List ag:=(List.range h.objs.size).filter λa=>(H a).isSome
def mK(h:bJ)(H:Hp):bJ:=PySem.W.hideAll h (Hb h H)
def Ue(h:bJ)(H:Hp):(mK h H).objs.size=h.objs.size:=PySem.W.hideAll_size _ _
def Vs{h:bJ}{H:Hp}{b:ag}{o:Obj}(e:h.get? b=some o)(n:H b=none):(mK h H).get? b=some o:=
 PySem.W.hideAll_get _ e λhm=>by
  have q:(H b).isSome=true:=(qC.mp hm).2;rw[n] at q;simp at q
def XE{h:bJ}{H:Hp}{b:ag}{o:Obj}(e:(mK h H).get? b=some o):h.get? b=some o/\H b=none:=by
 have e':h.get? b=some o:=PySem.W.of_hideAll (Hb h H) e;refine⟨e',?_⟩;cases q:H b with
 |none=>rfl
 |some x=>
  have hm:b∈Hb h H:=qC.mpr ⟨uI.mpr (cD e'),by simp[q]⟩
  have z:(mK h H).get? b=none:=PySem.W.hideAll_none (Hb h H) hm;rw[z] at e;cases e
noncomputable def XF(g h:bJ)(L:ag):List (ag×Obj):=(List.range h.objs.size).filterMap λa=>if a=L\/(g.get? a).isSome=true then none else(h.get? a).map λo=>(a,o)
def rest(g h:bJ)(L d:ag):List (ag×Obj):=(XF g h L).filter λp=>decide (p.1≠d)
variable{t' i:Nat}{ch:List ag}{x:Str}{M:Model}{A:cF}{E:ai->aq->Prop}{v:V}{u:ai}{Q:Unit->aq->Prop}
structure Mod (K:PySem.W.Frag) (mg:Str->aj ai) (base:bJ):Prop where
 Bg:K.In base
 glob:base.Ns mainGlobals mg
 blt:∃mb,base.Ns builtinsNs mb/\∀x:Str,x≠"__name__"->mb x=bootBuiltins x
 nolimit:base.NoLimit
set_option genInjectivity false in
structure Cx where
 prog:cS
 w:ck
 K:PySem.W.Frag
 mg:Str->aj ai
 base:bJ
 A:cF
 N:List Str
 s₀:aq
 H₀:Hp
 env:Env
 outer:List Env
 stack:List Env
 ex:List ag
 fn:Str->Bool
 calm:Bool
 pn:List (ag×Obj)
 xe:ai->aq->Prop
noncomputable def kh(l:List Env):List ag:=l.filterMap (·.frame)
abbrev Cx.fs(X:Cx):List ag:=kh X.outer
def EF(sc:Scope)(x:Str):Prop:=sc.names.lookup x=some .local \/ sc.names.lookup x=some .cell\/sc.names.lookup x=some .free
def Loc(sc:Scope)(x:Str):Prop:=sc.names.lookup x=some .local \/ sc.names.lookup x=some .cell
def Look(env:Env)(h:bJ)(m:Str->aj ai)(x:Str)(u:ai):Prop:=
 (env.kindOf x=some .local /\ m x=some u)\/((env.kindOf x=some .cell\/env.kindOf x=some .free)/\∃c,env.cells.lookup x=some c/\h.IsCell c (some u))
structure Cx.Ok (X:Cx):Prop where
 mod:Mod X.K X.mg X.base
 kind:X.env.scope.kind=.function
 glob:X.env.globals=mainGlobals
 blt:X.env.builtins=builtinsNs
 above:X.s₀.heap.objs.size<=X.env.locals
 inj:∀x y c,X.env.cells.lookup x=some c->X.env.cells.lookup y=some c->x=y
 has:∀x,(X.env.kindOf x=some .cell\/X.env.kindOf x=some .free)->∃c,X.env.cells.lookup x=some c
 yP:∀x c,X.fn x=true->X.env.cells.lookup x=some c->X.s₀.heap.objs.size<=c
 hd:X.calm=true->X.A.handled=none
 frames:X.A.frames=some X.stack
 Bm:X.stack=X.outer\/(X.stack=X.env::X.outer/\X.env.frame=some X.env.locals)
 Gq:∀b∈X.ex,b≠X.env.locals/\∀x c,X.env.cells.lookup x=some c->c≠b
 bs:∀b o,X.base.get? b=some o->X.s₀.heap.get? b=some o/\X.H₀ b=none
 sH:X.base.objs.size<=X.s₀.heap.objs.size
 pT:∀b o,X.base.get? b=some o->b∉X.ex
 qV:∀b∈X.ex,b∉X.fs
 iB:X.s₀.heap.FunFrames X.base X.outer
 vi:∀b∈X.fs,X.H₀ b=none
structure Inv (X:Cx) (aa:List (ag×Obj)) (Z:List (aj V)) (H:Hp) (s:aq):Prop where
 ok:X.Ok
 os:s.os=X.s₀.os
 bare:AllBare s.gens
 base:Un X.fs X.ex X.H₀ H X.s₀.heap s.heap
 loc:∃m,s.heap.Ns X.env.locals m/\∀(i:Nat) (x:Str) (v:V),X.N[i]?=some x->Z[i]?=some (some v)->EF X.env.scope x->∃u,RelV v u/\Look X.env s.heap m x u
 cell:∀x c,X.env.cells.lookup x=some c->∃v,s.heap.IsCell c v
 free:H X.env.locals=none
 ed:∀x c,X.env.cells.lookup x=some c->H c=none
 pin:∀p∈X.pn++aa,s.heap.get? p.1=some p.2/\H p.1=none/\p.1≠X.env.locals/\p.1∉X.fs/\∀v,p.2.data≠.cell v
 bh:iO X.prog X.w H s.heap
 len:Z.length=X.N.length
section
variable{X:Cx}{aa:List (ag×Obj)}{Z:List (aj V)}{H H':Hp}{s:aq}{h':bJ}
def Cx.Ok.K4(ok:X.Ok){b:ag}{o:Obj}(e:X.base.get? b=some o):b∉X.fs:=λhb=>by
 have:=(ok.iB.mem hb).1
 lia
theorem Inv.bs(I:Inv X aa Z H s):∀b o,X.base.get? b=some o->s.heap.get? b=some o/\H b=none:=λb o e=>
 ⟨I.base.keep b o (I.ok.bs b o e).1 (I.ok.bs b o e).2 (I.ok.K4 e) (I.ok.pT b o e),I.base.free b o (I.ok.bs b o e).1 (I.ok.bs b o e).2 (I.ok.pT b o e)⟩
def Inv.bk(I:Inv X aa Z H s):∀b o,X.base.get? b=some o->s.heap.get? b=some o:=λb o e=>(I.bs b o e).1
theorem Inv.mod(I:Inv X aa Z H s):Mod X.K X.mg X.base:=I.ok.mod
def Inv.jL(I:Inv X aa Z H s):X.K.In s.heap:=I.ok.mod.Bg.keeps I.bk
theorem Inv.lt(I:Inv X aa Z H s):X.env.locals<s.heap.objs.size:=let ⟨_,hn,_⟩:=I.loc;hn.lt
def Inv.sz(I:Inv X aa Z H s):X.s₀.heap.objs.size<=s.heap.objs.size:=jo I.ok.above (L7 I.lt)
def Inv.zH(I:Inv X aa Z H s){a:ag}(h:s.heap.objs.size<=a):a∉X.fs:=λhb=>by
 obtain⟨_,o,ho,_⟩:=I.ok.iB.mem hb;exact bT (fM (cD ho) (jo I.sz h)) (jQ _)
def Inv.yR(I:Inv X aa Z H s):∀x c,X.env.cells.lookup x=some c->c≠X.env.locals:=λx c e z=>by
 obtain⟨v,o,ho,hd⟩:=I.cell x c e;obtain⟨m,⟨o',es,ep,tf,Rm,_⟩,_⟩:=I.loc
 lia
theorem Inv.iB(I:Inv X aa Z H s):s.heap.FunFrames X.base X.outer:=by
 have all:∀(l:List Env),(∀b∈kh l,b∈X.fs)->X.s₀.heap.FunFrames X.base l->s.heap.FunFrames X.base l:=by
  intro l
  induction l with
  |nil=>intro _ _;trivial
  |cons env r ih=>
   intro hs hl;obtain⟨hk,⟨L,o,hf,hn,ho,hd⟩,hr⟩:=hl;have hL:L∈X.fs:=hs L (by unfold kh;rw[rn,hf];exact rq)
   obtain⟨sl,e⟩:=I.base.slot L o ho (I.ok.vi L hL) hL λz=>I.ok.qV L z hL
   exact⟨hk,⟨L,_,hf,hn,e,hd⟩,ih (λb hb=>hs b (by unfold kh;rw[rn,hf];exact pZ _ hb)) hr⟩
 exact all X.outer (λ_ hb=>hb) I.ok.iB
def Inv.stack(I:Inv X aa Z H s):s.heap.FunFrames X.base X.stack:=by
 rcases I.ok.Bm with e|⟨e,hf⟩
 .rw[e];exact I.iB
 .rw[e];obtain⟨m,hn,_⟩:=I.loc;refine .cons (by rw[I.ok.kind];decide) hf hn ?_ I.iB
  exact Heap.get?_none_of_le (jo I.ok.sH I.ok.above)
def Inv.kG(I:Inv X aa Z H s):∀b∈kh X.stack,b∈X.env.locals::X.fs:=λb hb=>by
 rcases I.ok.Bm with e|⟨e,hf⟩
 .rw[e] at hb;exact pZ _ hb
 .rw[e] at hb;unfold kh at hb;rw[rn,hf] at hb;exact hb
def Inv.jP(I:Inv X aa Z H s):∀b∈kh X.stack,H b=none:=λb hb=>by
 rcases y07.mp (I.kG b hb) with e|hb
 .rw[e];exact I.free
 .obtain⟨_,o,ho,_⟩:=I.ok.iB.mem hb;exact I.base.free b o ho (I.ok.vi b hb) λz=>I.ok.qV b z hb
def Inv.step{g':Array GenState}{t':Nat}{d':Drawn}{ch:List ag}(I:Inv X aa Z H s)
  (kO:∀b∈ch,(b∈X.ex\/X.s₀.heap.objs.size<=b)/\b≠X.env.locals/\(∀x c,X.env.cells.lookup x=some c->c≠b)/\∀p∈X.pn++aa,p.1≠b)
  (keep:∀b o,b≠X.env.locals->b∉X.fs->b∉ch->s.heap.get? b=some o->H b=none->h'.get? b=some o)
  (slot:∀b o,b≠X.env.locals->b∈X.fs->b∉ch->s.heap.get? b=some o->H b=none->∃sl,h'.get? b=some { o with slots:=sl}) (free:∀b o,b∉ch->s.heap.get? b=some o->H b=none->H' b=none)
  (there:∀b o,b∉ch->s.heap.get? b=some o->∃o',h'.get? b=some o')
  (lB:∀b xs,H b=some (.tup xs)->H' b=some (.tup xs)) (kj:∀b o u,H b=some (.Y o u)->H' b=some (.Y o u)) (lA:∀b ps,H b=some (.z8 ps)->∃more,H' b=some (.z8 (ps++more)))
  (ns:∀m,s.heap.Ns X.env.locals m->h'.Ns X.env.locals m) (bh:iO X.prog X.w H' h') (hg:AllBare g') :
  Inv X aa Z H' { s with heap:=h',gens:=g',drawn:=d',toks:=t'}:=by
 have RQ:∀b o,X.s₀.heap.get? b=some o->b≠X.env.locals:=λb o e=>gp (fM (cD e) I.ok.above)
 have G3:∀b o,X.s₀.heap.get? b=some o->b∉X.ex->b∉ch:=λb o e hx hb=>by
  rcases(kO b hb).1 with z|z
  .exact hx z
  .exact bT (fM (cD e) z) (jQ _)
 have cellK:∀x c,X.env.cells.lookup x=some c->∀v,s.heap.IsCell c v->h'.IsCell c v:=λx c e v ⟨o,ho,hd⟩=>by
  have vy:c∉ch:=λz=>(kO c z).2.2.1 x c e rfl
  by_cases hc:c∈X.fs
  .obtain⟨sl,q⟩:=slot c o (I.yR x c e) hc vy ho (I.ed x c e);exact⟨_,q,hd⟩
  .exact⟨o,keep c o (I.yR x c e) hc vy ho (I.ed x c e),hd⟩
 refine⟨I.ok,I.os,hg,⟨λb o e n hb hx=>?_,λb o e n hb hx=>?_,λb o e n hx=>?_,λb o e hx=>?_,λb xs e=>lB b xs (I.base.lB b xs e),λb o xs e=>kj b o xs (I.base.kj b o xs e),λb ps e=>?_⟩,?_,λx c e=>?_,?_,λx c e=>?_,λp hp=>?_,bh,I.len⟩
 .exact keep b o (RQ b o e) hb (G3 b o e hx) (I.base.keep b o e n hb hx) (I.base.free b o e n hx)
 .obtain⟨sl,e1⟩:=I.base.slot b o e n hb hx;obtain⟨Lz,e2⟩:=slot b _ (RQ b o e) hb (G3 b o e hx) e1 (I.base.free b o e n hx);exact⟨Lz,e2⟩
 .obtain⟨o',e1⟩:=I.base.there b o e hx;exact free b o' (G3 b o e hx) e1 (I.base.free b o e n hx)
 .obtain⟨o',e1⟩:=I.base.there b o e hx;exact there b o' (G3 b o e hx) e1
 .obtain⟨m1,e1⟩:=I.base.lA b ps e;obtain⟨m2,e2⟩:=lA b _ e1;exact⟨m1++m2,by rw[e2,Array.append_assoc]⟩
 .obtain⟨m,hn,hl⟩:=I.loc;refine⟨m,ns m hn,λi x v e1 e2 e3=>?_⟩
  obtain⟨u,r,l⟩:=hl i x v e1 e2 e3;refine⟨u,r,?_⟩;rcases l with l|⟨k,c,e,z⟩
  .exact .inl l
  .exact .inr ⟨k,c,e,cellK x c e _ z⟩
 .obtain⟨v,z⟩:=I.cell x c e;exact⟨v,cellK x c e v z⟩
 .obtain⟨m,⟨o,_,_,ho,_⟩,_⟩:=I.loc;exact free _ o (λz=>(kO _ z).2.1 rfl) ho I.free
 .obtain⟨v,o,ho,hd⟩:=I.cell x c e;exact free c o (λz=>(kO c z).2.2.1 x c e rfl) ho (I.ed x c e)
 .obtain⟨e,n,ne,nf,d⟩:=I.pin p hp;have vy:p.1∉ch:=λz=>(kO p.1 z).2.2.2 p hp rfl
  exact⟨keep p.1 p.2 ne nf vy e n,free p.1 p.2 vy e n,ne,nf,d⟩
def Inv.un(I:Inv X aa Z H s)(u:Un X.fs [] H H' s.heap h')(bh:iO X.prog X.w H' h'):Inv X aa Z H' { s with heap:=h',toks:=t'}:=by
 obtain⟨m,⟨o,es,ep,ho,r⟩,_⟩:=id I.loc;obtain⟨sl,hL⟩:=u.any ho I.free (by simp)
 exact I.step (g':=s.gens) (d':=s.drawn) (ch:=[]) (λ_ z=>nomatch z) (λb o _ hb _ e n=>u.keep b o e n hb (by simp)) (λb o _ hb _ e n=>u.slot b o e n hb (by simp)) (λb o _ e n=>u.free b o e n (by simp)) (λb o _ e=>u.there b o e (by simp)) u.lB u.kj u.lA (λm' hm=>by
  obtain⟨o',vh,pQ,tf,r'⟩:=hm;rw[ho] at tf;cases tf;exact⟨_,vh,pQ,hL,r'⟩) bh I.bare
def Inv.call{g':Array GenState}{d':Drawn}(I:Inv X aa Z H s)(u:Un (kh X.stack) ch H H' s.heap h')(bh:iO X.prog X.w H' h')(hg:AllBare g')
  (kO:∀b∈ch,(b∈X.ex\/X.s₀.heap.objs.size<=b)/\b≠X.env.locals/\(∀x c,X.env.cells.lookup x=some c->c≠b)/\∀p∈X.pn++aa,p.1≠b) :
  Inv X aa Z H' { s with heap:=h',gens:=g',drawn:=d',toks:=t'}:=by
 obtain⟨m,⟨o,es,ep,ho,r⟩,_⟩:=id I.loc;obtain⟨sl,hL⟩:=u.any ho I.free λz=>(kO _ z).2.1 rfl
 exact I.step (ch:=ch) kO (λb o hL hb hc e n=>u.keep b o e n (λz=>(y07.mp (I.kG b z)).elim hL hb) hc) (λb o _ _ hc e n=>u.any e n hc) (λb o hc e n=>u.free b o e n hc) (λb o hc e=>u.there b o e hc) u.lB u.kj u.lA (λm' hm=>by
  obtain⟨o',vh,pQ,tf,r'⟩:=hm;rw[ho] at tf;cases tf;exact⟨_,vh,pQ,hL,r'⟩) bh hg
def Inv.turned{it:ag}(I:Inv X aa Z H s)(k:∀b o,b≠it->s.heap.get? b=some o->h'.get? b=some o)(hn:H it=none)(hL:it≠X.env.locals)
  (h1:it∈X.ex\/X.s₀.heap.objs.size<=it) (h2:∀x c,X.env.cells.lookup x=some c->c≠it) (h3:∀p∈X.pn++aa,p.1≠it):Inv X aa Z H { s with heap:=h',toks:=t'}:=by
 have RU:∀b u,H b=some u->b≠it:=λb u e z=>by rw[z,hn] at e;cases e
 refine I.step (g':=s.gens) (d':=s.drawn) (ch:=[it]) (λb hb=>?_) (λb o _ _ hc e _=>k b o (λz=>hc (by simp[z])) e) (λb o _ _ hc e _=>⟨o.slots,k b o (λz=>hc (by simp[z])) e⟩) (λ_ _ _ _ n=>n)
  (λb o hc e=>⟨o,k b o (λz=>hc (by simp[z])) e⟩) (λ_ _ e=>e) (λ_ _ _ e=>e) (λb ps e=>⟨#[],by rw[e];simp⟩) (λm hm=>?_) (λb u e=>?_) I.bare
 .have e:b=it:=by simpa using hb
  subst e;exact⟨h1,hL,h2,h3⟩
 .obtain⟨o,es,ep,ho,r⟩:=hm;exact⟨o,es,ep,k _ o (Ne.symm hL) ho,r⟩
 .refine(I.bh b u e).m7 (λc v hc q=>k c v ?_ q) (λ_ q=>q) λ_ _ q=>q
  rcases hc with z|z
  .rw[z];exact RU b u e
  .exact RU c _ z
def Inv.tok(I:Inv X aa Z H s)(t:Nat):Inv X aa Z H { s with toks:=t}:=I.un (h':=s.heap) (t':=t) Un.refl I.bh
theorem Inv.kept{t':Nat}(I:Inv X aa Z H s)(k:∀b u,s.heap.get? b=some u->h'.get? b=some u):Inv X aa Z H { s with heap:=h',toks:=t'}:=I.un (Un.kept k) (I.bh.kept k)
theorem Inv.laid{a:ag}{o:HO}{t':Nat}(I:Inv X aa Z H s)(k:∀b u,s.heap.get? b=some u->h'.get? b=some u)(hp:s.heap.objs.size<=a)(new:bq X.prog X.w (upd H a o) h' a o):
  Inv X aa Z (upd H a o) { s with heap:=h',toks:=t'}:=I.un (Un.laid k hp (I.bh.fresh hp)) (I.bh.laid k hp new)
theorem Inv.write{x e:ag}{o:HO}{t':Nat}(I:Inv X aa Z H s)(mu:BG (H x))(he:e=x\/H e=some (.own x))(k:∀b u,b≠e->s.heap.get? b=some u->h'.get? b=some u)(Bc:∃u,h'.get? e=some u)
  (new:bq X.prog X.w (upd H x o) h' x o):Inv X aa Z (upd H x o) { s with heap:=h',toks:=t'}:=I.un (Un.write mu he k Bc) (I.bh.write mu he k Bc new)
def Inv.jM{oO:List (ag×Obj)}(I:Inv X aa Z H s)(h:∀p∈oO,s.heap.get? p.1=some p.2/\H p.1=none/\p.1≠X.env.locals/\p.1∉X.fs/\∀v,p.2.data≠.cell v):Inv X oO Z H s:=
 ⟨I.ok,I.os,I.bare,I.base,I.loc,I.cell,I.free,I.ed,λp hp=>(e_.mp hp).elim (λz=>I.pin p (Ep _ z)) (h p),I.bh,I.len⟩
def N4{N:List Str}(hN:N.Nodup){j:Nat}(a:N[i]?=some x)(b:N[j]?=some x):i=j:=by
 obtain⟨h1,e1⟩:=eS.mp a;obtain⟨h2,e2⟩:=eS.mp b;exact(Hf hN).mp (e1.trans e2.symm)
def Nr(I:Inv X aa Z H s)(hN:X.N.Nodup)(hi:X.N[i]?=some x)(hx:Loc X.env.scope x)(r:RelV v u)
  (h:∀s',Inv X aa (Z.set i (some v)) H s'->(∃a,Heap.SameBut a s.heap s'.heap/\(a=X.env.locals\/X.env.cells.lookup x=some a))->Q () s') (hf:X.fn x=true\/X.env.scope.names.lookup x=some .local := by first|exact .inl rfl|exact .inr rfl|assumption):wpAny M A (storeName X.env x u) Q E s:=by
 obtain⟨m,hn,hl⟩:=id I.loc;have Kf:(X.env.scope.kind == .class || (X.env.scope.kind == .module&&X.env.locals != X.env.globals))=false:=by rw[I.ok.kind];rfl
 have Rq:i<Z.length:=by rw[I.len];exact(eS.mp hi).1
 have yR:=I.yR;have tracked:∀{a:ag} {h':bJ},(∃o,s.heap.get? a=some o/\H a=none)->Heap.SameBut a s.heap h'->iO X.prog X.w H h':=λ{a h'} ha hs b ob e=>by
  obtain⟨_,_,hfree⟩:=ha;refine(I.bh b ob e).m7 (λc w' hc q=>(hs.2 c ?_).trans q) (λ_ q=>q) λ_ _ q=>q
  lia
 rcases hx with hk|hk
 .refine wpAny_storeName_local hk hn (λh' GP hs=>?_) Kf
  obtain⟨oL,_,_,gR,_⟩:=id hn;refine h _ ⟨I.ok,I.os,I.bare,⟨λb o e n hb hx=>?_,λb o e n hb hx=>?_,I.base.free,λb o e hx=>?_,I.base.lB,I.base.kj,I.base.lA⟩,⟨_,GP,λj y v' e1 e2 e3=>?_⟩,λy c e=>?_,I.free,I.ed,λp hp=>?_,tracked ⟨oL,gR,I.free⟩ hs,by simpa using I.len⟩ ⟨_,hs,.inl rfl⟩
  .exact(hs.2 b (gp (fM (cD e) I.ok.above))).trans (I.base.keep b o e n hb hx)
  .obtain⟨sl,e1⟩:=I.base.slot b o e n hb hx;exact⟨sl,(hs.2 b (gp (fM (cD e) I.ok.above))).trans e1⟩
  .obtain⟨o',e1⟩:=I.base.there b o e hx;exact⟨o',(hs.2 b (gp (fM (cD e) I.ok.above))).trans e1⟩
  .by_cases hj:j=i
   .subst hj;rw[hi] at e1;cases e1;rw[vZ Rq] at e2;cases e2;exact⟨u,r,.inl ⟨hk,by simp⟩⟩
   .rw[Bq (Ne.symm hj)] at e2;obtain⟨u',r',q⟩:=hl j y v' e1 e2 e3;refine⟨u',r',?_⟩;rcases q with⟨k,e⟩|⟨k,c,e,z⟩
    .refine .inl ⟨k,?_⟩;have:y≠x:=λe=>hj (N4 hN e1 (e ▸ hi))
     simp[this,e]
    .exact .inr ⟨k,c,e,z.sameBut hs (yR y c e)⟩
  .obtain⟨w',z⟩:=I.cell y c e;exact⟨w',z.sameBut hs (yR y c e)⟩
  .obtain⟨e,n,ne,nf,d⟩:=I.pin p hp;exact⟨(hs.2 p.1 ne).trans e,n,ne,nf,d⟩
 .have Ki:X.fn x=true:=by
   rcases hf with z|z
   .exact z
   .rw[z] at hk;cases hk
  obtain⟨c,hc⟩:=I.ok.has x (.inl hk);obtain⟨w',z⟩:=I.cell x c hc;refine wpAny_storeName_cell I.ok.kind hk hc z (λh' mJ hs=>?_)
  obtain⟨oc,Ry,Ks⟩:=id z;refine h { s with heap:=h'} ⟨I.ok,I.os,I.bare,⟨λb o e n hb hx=>?_,λb o e n hb hx=>?_,I.base.free,λb o e hx=>?_,I.base.lB,I.base.kj,I.base.lA⟩,⟨m,hn.sameBut hs (Ne.symm (yR x c hc)),λj y v' e1 e2 e3=>?_⟩,λy c' e=>?_,I.free,I.ed,λp hp=>?_,tracked ⟨oc,Ry,I.ed x c hc⟩ hs,by simpa using I.len⟩ ⟨c,hs,.inr hc⟩
  .exact(hs.2 b (gp (fM (cD e) (I.ok.yP x c Ki hc)))).trans (I.base.keep b o e n hb hx)
  .obtain⟨sl,e1⟩:=I.base.slot b o e n hb hx;exact⟨sl,(hs.2 b (gp (fM (cD e) (I.ok.yP x c Ki hc)))).trans e1⟩
  .obtain⟨o',e1⟩:=I.base.there b o e hx;exact⟨o',(hs.2 b (gp (fM (cD e) (I.ok.yP x c Ki hc)))).trans e1⟩
  .by_cases hj:j=i
   .subst hj;rw[hi] at e1;cases e1;rw[vZ Rq] at e2;cases e2;exact⟨u,r,.inr ⟨.inl hk,c,hc,mJ⟩⟩
   .rw[Bq (Ne.symm hj)] at e2;obtain⟨u',r',q⟩:=hl j y v' e1 e2 e3;refine⟨u',r',?_⟩;rcases q with q|⟨k,c',e,z'⟩
    .exact .inl q
    .refine .inr ⟨k,c',e,z'.sameBut hs ?_⟩;rintro rfl;exact hj (N4 hN e1 (I.ok.inj _ _ _ e hc ▸ hi))
  .by_cases Rk:c'=c
   .subst Rk;exact⟨_,mJ⟩
   .obtain⟨w2,z2⟩:=I.cell y c' e;exact⟨w2,z2.sameBut hs Rk⟩
  .obtain⟨e,n,ne,nf,d⟩:=I.pin p hp;refine⟨(hs.2 p.1 ?_).trans e,n,ne,nf,d⟩;intro q;rw[q,Ry] at e;have q':oc=p.2:=Option.some.inj e;exact d w' (by rw[<-q'];exact Ks)
def N5(I:Inv X aa Z H s)(hN:X.N.Nodup)(hi:X.N[i]?=some x)(hx:Loc X.env.scope x)(r:RelV v u)
  (h:∀s',Inv X aa (Z.set i (some v)) H s'->Q () s') (hf:X.fn x=true\/X.env.scope.names.lookup x=some .local := by first|exact .inl rfl|exact .inr rfl|assumption):wpAny M A (storeName X.env x u) Q E s:=
 Nr I hN hi hx r (λs' I' _=>h s' I') hf
def Inv.wz{s':aq}(I:Inv X aa Z H s)(ho:s'.os=s.os)(u:Un (kh X.stack) ch H H' s.heap s'.heap)(bh:iO X.prog X.w H' s'.heap)(hg:AllBare s'.gens)
  (kO:∀b∈ch,(b∈X.ex\/X.s₀.heap.objs.size<=b)/\b≠X.env.locals/\(∀x c,X.env.cells.lookup x=some c->c≠b)/\∀p∈X.pn++aa,p.1≠b):Inv X aa Z H' s':=by
 obtain⟨h',g',d',t',o'⟩:=s';have e:o'=s.os:=ho;subst e;exact I.call (g':=g') (t':=t') (d':=d') u bh hg kO
end
abbrev XK:=ai->aj ag->Hp->Prop
abbrev St:=List (aj V)
abbrev VK:=V->Hp->Prop
abbrev TE:=St->Hp->VK->Prop
abbrev TT:=St->Hp->(Bool->Hp->Prop)->Prop
abbrev TA:=St->Hp->(List V->Hp->Prop)->Prop
set_option genInjectivity false in
structure Ends where
 nx:St->Hp->Prop
 rt:VK
 bk:St->Hp->Prop:=λ_ _=>False
 ct:St->Hp->Prop:=λ_ _=>False
abbrev TS:=Ends->St->Hp->Prop
def EP(X:Cx)(aa:List (ag×Obj))(Z:St)(Q:VK)(u:ai)(s':aq):Prop:=∃v H',Inv X aa Z H' s'/\RelV v u/\Q v H'
def TP(X:Cx)(aa:List (ag×Obj))(Z:St)(Q:Bool->Hp->Prop)(b:Bool)(s':aq):Prop:=∃H',Inv X aa Z H' s'/\Q b H'
def AP(X:Cx)(aa:List (ag×Obj))(Z:St)(Q:List V->Hp->Prop)(us:List ai)(s':aq):Prop:=∃vs H',Inv X aa Z H' s'/\Vals vs us/\Q vs H'
def SP(X:Cx)(aa:List (ag×Obj))(D:Ends)(f:Flow)(s':aq):Prop:=
 match f with
 |.next=>∃Z' H',Inv X aa Z' H' s'/\D.nx Z' H'
 |.brk=>∃Z' H',Inv X aa Z' H' s'/\D.bk Z' H'
 |.cont=>∃Z' H',Inv X aa Z' H' s'/\D.ct Z' H'
 |.ret u=>∃v Z' H',Inv X aa Z' H' s'/\RelV v u/\D.rt v H'
def PE(X:Cx)(e:Expr)(t:TE):Prop:=
 ∀(aa:List (ag×Obj)) (s:aq) (Z:St) (H:Hp) (Q:VK),Inv X aa Z H s->t Z H Q->wpAny (model X.prog X.w) X.A (eval e X.env) (EP X aa Z Q) X.xe s
def PT(X:Cx)(e:Expr)(t:TT):Prop:=
 ∀(aa:List (ag×Obj)) (s:aq) (Z:St) (H:Hp) (Q:Bool->Hp->Prop),Inv X aa Z H s->t Z H Q->wpAny (model X.prog X.w) X.A (isTrue e X.env (eval e X.env)) (TP X aa Z Q) X.xe s
def PW(X:Cx)(e:Expr)(t:TT):Prop:=
 ∀(whole:Sem ai) (aa:List (ag×Obj)) (s:aq) (Z:St) (H:Hp) (Q:Bool->Hp->Prop),Inv X aa Z H s->t Z H Q->wpAny (model X.prog X.w) X.A (isTrue e X.env whole) (TP X aa Z Q) X.xe s
def PW.pt{X:Cx}{e:Expr}{t:TT}(h:PW X e t):PT X e t:=h _
def PA(X:Cx)(es:List Expr)(t:TA):Prop:=
 ∀(pos:Pos) (aa:List (ag×Obj)) (s:aq) (Z:St) (H:Hp) (Q:List V->Hp->Prop),Inv X aa Z H s->t Z H Q->wpAny (model X.prog X.w) X.A (spliced (backTo pos (starEach es X.env))) (AP X aa Z Q) X.xe s
def PS(X:Cx)(st:Stmt)(t:TS):Prop:=
 ∀(aa:List (ag×Obj)) (s:aq) (Z:St) (H:Hp) (D:Ends),Inv X aa Z H s->t D Z H->wpAny (model X.prog X.w) X.A (exec st X.env) (SP X aa D) X.xe s
def iP(X:Cx)(st:List Stmt)(t:TS):Prop:=
 ∀(aa:List (ag×Obj)) (s:aq) (Z:St) (H:Hp) (D:Ends),Inv X aa Z H s->t D Z H->wpAny (model X.prog X.w) X.A (execs st X.env) (SP X aa D) X.xe s
def bB{α:Type}{t:Sem α}{Q Q':α->aq->Prop}{s:aq}(h:wpAny M A t Q E s)(hQ:∀a s,Q a s->Q' a s):wpAny M A t Q' E s:=wpAny_mono h hQ λ_ _ x=>x
section
variable{X:Cx}
def z7(i:Nat):TE:=λZ H Q=>∃v,Z[i]?=some (some v)/\Q v H
def tC(v:V):TE:=λ_ H Q=>Q v H
def P1{i:Nat}{x:Str}{pos:Pos}(hN:X.N[i]?=some x)(hv:EF X.env.scope x)(hd:(x == ("__debug__":Str))=false:=by decide)(qZ:(x == ("__classdict__":Str))=false:=by decide):PE X (.Name x pos) (z7 i):=by
 intro aa s Z H Q I h;obtain⟨v,e,h⟩:=h;obtain⟨m,hn,hl⟩:=I.loc;obtain⟨u,r,l⟩:=hl i x v hN e hv;have fin:EP X aa Z Q u s:=⟨v,H,I,r,h⟩;rcases l with⟨hk,hm⟩|⟨hk,c,hc,qm⟩
 .exact wpAny_Name (wpAny_loadName_local I.ok.kind hk hn hm fin) hd
 .rcases hk with hk|hk
  .exact wpAny_Name (wpAny_loadName_cell I.ok.kind hk hc qm fin) hd
  .exact wpAny_Name (wpAny_loadName_free I.ok.kind hk hc qm fin qZ) hd
def Ψ{i j pos}:PE X (.Constant (.int i) j pos) (tC (.int i)):=λ_ _ _ H _ I h=>wpAny_Constant_int ⟨.int i,H,I.tok _,⟨_,rfl⟩,h⟩
def e5w{b j pos}:PE X (.Constant (.bool b) j pos) (tC (.bl b)):=λ_ _ _ H _ I h=>Constant_bool ⟨.bl b,H,I,rfl,h⟩
def Ω{j pos}:PE X (.Constant .none j pos) (tC .aF):=λ_ _ _ H _ I h=>Constant_none ⟨.aF,H,I,rfl,h⟩
def γ{x j pos}:PE X (.Constant (.str x) j pos) (tC (.str x)):=λ_ _ _ H _ I h=>Calls.Constant_str ⟨.str x,H,I.tok _,⟨_,rfl⟩,h⟩
def Gl(X:Cx)(x:Str):Prop:=X.env.kindOf x=some .globalImplicit
def AO{E:ai->aq->Prop}{aa:List (ag×Obj)}{s:aq}{Z:St}{H:Hp}{x:Str}{u:ai}{pos:Pos}{Q:ai->aq->Prop}(I:Inv X aa Z H s)(hg:Gl X x)(hm:X.mg x=some u)(h:Q u s)
  (hd:(x == ("__debug__":Str))=false:=by decide):wpAny (model X.prog X.w) X.A (eval (.Name x pos) X.env) Q E s:=
 Calls.Name_function_global I.ok.kind hg (Calls.loadGlobal_global (by rw[I.ok.glob];exact I.mod.glob.keeps I.bk) hm h) hd
def wq{E:ai->aq->Prop}{aa:List (ag×Obj)}{s:aq}{Z:St}{H:Hp}{x:Str}{u:ai}{pos:Pos}{Q:ai->aq->Prop}(I:Inv X aa Z H s)(hg:Gl X x)(hm:X.mg x=none)(hv:bootBuiltins x=some u)(h:Q u s)
  (hn:x≠"__name__":=by decide) (hd:(x == ("__debug__":Str))=false:=by decide):wpAny (model X.prog X.w) X.A (eval (.Name x pos) X.env) Q E s:=by
 obtain⟨mb,h1,h2⟩:=I.mod.blt;exact Calls.Name_function_global I.ok.kind hg (Calls.loadGlobal_builtin (by rw[I.ok.glob];exact I.mod.glob.keeps I.bk) hm (by rw[I.ok.blt];exact h1.keeps I.bk) ((h2 x hn).trans hv) h) hd
def XG{x:Str}{v:V}{u:ai}{pos:Pos}(hg:Gl X x)(hm:X.mg x=none)(hv:bootBuiltins x=some u)(r:RelV v u)(hn:x≠"__name__":=by decide)(hd:(x == ("__debug__":Str))=false:=by decide):PE X (.Name x pos) (tC v):=
 λ_ _ _ H _ I h=>wq I hg hm hv ⟨v,H,I,r,h⟩ hn hd
variable{a b:Expr}{ta tb:TE}{pos:Pos}
def tB(t:TE):TT:=λZ H Q=>t Z H λx H1=>∃c,x=.bl c/\Q c H1
variable{tA G8:TT}{rest:List Expr}
def LG(t u:TT):TT:=λZ H Q=>t Z H λc H1=>if c=true then u Z H1 Q else Q false H1
def tOr(t u:TT):TT:=λZ H Q=>t Z H λc H1=>if c=true then Q true H1 else u Z H1 Q
def LM(t:TT):TT:=λZ H Q=>t Z H λc H1=>Q (!c) H1
def XH(ha:PT X a tA):PW X (.BoolOp .And [a] pos) tA:=by
 intro wh aa s Z H Q I h;refine isTrue_and (bB (ha aa s Z H Q I h) λc s1 e=>?_)
 cases c with
 |true=>exact isTrue_and_nil e
 |false=>exact e
def δ(ha:PT X a tA):PW X (.BoolOp .Or [a] pos) tA:=by
 intro wh aa s Z H Q I h;refine isTrue_or (bB (ha aa s Z H Q I h) λc s1 e=>?_)
 cases c with
 |false=>exact isTrue_or_nil e
 |true=>exact e
def ε(ha:PT X a tA)(hb:PW X (.BoolOp .And (b::rest) pos) G8):PW X (.BoolOp .And (a::b::rest) pos) (LG tA G8):=by
 intro wh aa s Z H Q I h;refine isTrue_and (bB (ha aa s Z H _ I h) λc s1 hh=>?_)
 obtain⟨H1,I1,q1⟩:=hh;cases c with
 |true=>exact hb wh aa s1 Z H1 Q I1 q1
 |false=>exact⟨H1,I1,q1⟩
def e5x(ha:PT X a tA)(hb:PW X (.BoolOp .Or (b::rest) pos) G8):PW X (.BoolOp .Or (a::b::rest) pos) (tOr tA G8):=by
 intro wh aa s Z H Q I h;refine isTrue_or (bB (ha aa s Z H _ I h) λc s1 hh=>?_)
 obtain⟨H1,I1,q1⟩:=hh;cases c with
 |true=>exact⟨H1,I1,q1⟩
 |false=>exact hb wh aa s1 Z H1 Q I1 q1
def ζ(ha:PT X a tA):PT X (.UnaryOp .Not a pos) (LM tA):=by
 intro aa s Z H Q I h;exact isTrue_not (ha aa s Z H (λc H1=>Q (!c) H1) I h)
def D6(ta tb:TE):TE:=λZ H Q=>ta Z H λx H1=>∃c,x=.bl c/\if c=true then tb Z H1 Q else Q (.bl false) H1
def zO{op}{t:TE}(h:PE X a t):PE X (.BoolOp op [a] pos) t:=λaa s Z H Q I hw=>BoolOp_one (h aa s Z H Q I hw)
def η(ha:PE X a ta)(hb:PE X (.BoolOp .And (b::rest) pos) tb):PE X (.BoolOp .And (a::b::rest) pos) (D6 ta tb):=by
 intro aa s Z H Q I h;refine BoolOp_and (bB (ha aa s Z H _ I h) λv s1 hh=>?_)
 obtain⟨x,H1,I1,r1,q1⟩:=hh;obtain⟨c,rfl,q1⟩:=q1;cases r1;refine wpAny_truthy_bool ?_;cases c with
 |true=>exact hb aa s1 Z H1 Q I1 q1
 |false=>exact⟨.bl false,H1,I1,rfl,q1⟩
def tIf(t:TT)(ta tb:TE):TE:=λZ H Q=>t Z H λc H1=>if c=true then ta Z H1 Q else tb Z H1 Q
def Vt{c:Expr}(hc:PT X c tA)(ha:PE X a ta)(hb:PE X b tb):PE X (.IfExp c a b pos) (tIf tA ta tb):=by
 intro aa s Z H Q I h;refine wpAny_IfExp (bB (hc aa s Z H _ I h) λd s1 hh=>?_)
 obtain⟨H1,I1,q1⟩:=hh;cases d with
 |true=>exact ha aa s1 Z H1 Q I1 q1
 |false=>exact hb aa s1 Z H1 Q I1 q1
end
variable{x:Str}{u:ai}{aa:List (ag×Obj)}{Z:St}{H:Hp}{s:aq}{c i e o tg:Expr}{tc:TT}{es:List Expr}{to ti te:TE}{P:cS}{w:ck}{K:PySem.W.Frag}
def cC(K:PySem.W.Frag)(H:Hp)(a:ag)(xs:List V):Prop:=
 Rd H a (.lst xs)\/
  ∃(o:Obj) (aE:Array ai) (n:Nat),K.lookup a=some o/\o.cls=.type "list"/\o.dict=none/\o.data=.seq aE n/\aE.size<=sizeLine/\Vals xs aE.toList
def gA(K:PySem.W.Frag)(H:Hp)(a:ag)(xs:List V):Prop:=
 Rd H a (.tup xs)\/
  ∃(o:Obj) (aE:Array ai) (n:Nat),K.lookup a=some o/\o.cls=.type "tuple"/\o.data=.seq aE n/\aE.size<=sizeLine/\Vals xs aE.toList
noncomputable def Iv:ai->aj V
 |.none=>some .aF
 |.bool b=>some (.bl b)
 |.int i _=>some (.int i)
 |.str x _=>some (.str x)
 |.bytes b _=>some (.wy b)
 |.float b _=>some (.wN b)
 |.ref a=>some (.ref a)
 |.type n=>some (.ty n)
 |_=>none
def RelV.abs{x:V}(r:RelV x u):Iv u=some x:=by
 cases x with
 |aF=>cases r;rfl
 |bl _=>cases r;rfl
 |int _=>obtain⟨t,rfl⟩:=r;rfl
 |str _=>obtain⟨t,rfl⟩:=r;rfl
 |wy _=>obtain⟨t,rfl⟩:=r;rfl
 |wN _=>obtain⟨t,rfl⟩:=r;rfl
 |ref _=>cases r;rfl
 |ty _=>cases r;rfl
theorem RelV.inj{x y:V}{u:ai}(r:RelV x u)(q:RelV y u):x=y:=Option.some.inj (r.abs.symm.trans q.abs)
theorem Vals.inj{xs ys:List V}{us:List ai}(h:Vals xs us)(h':Vals ys us):xs=ys:=by
 induction h generalizing ys with
 |nil=>cases h';rfl
 |cons r t ih=>
  cases h' with
  |cons r' t'=>rw[r.inj r',ih t']
section
variable{X:Cx}{aa:List (ag×Obj)}{Z:St}{H:Hp}{s:aq}{a:ag}{xs ys:List V}
def Inv.list(I:Inv X aa Z H s)(h:cC X.K H a xs):∃aE:List ai,Vals xs aE/\PlainL s.heap a aE.toArray/\xs.length<=sizeLine:=by
 rcases h with h|⟨o,aE,n,hk,hc,hd,hs,hz,r⟩
 .obtain⟨z,aE,n,r,e⟩:=h.ok I.bh;exact⟨aE,r,⟨_,n,e,rfl,rfl,rfl⟩,z⟩
 .refine⟨aE.toList,r,⟨o,n,I.jL a o hk,hc,hd,by simpa using hs⟩,?_⟩
  have e:=r.length
  simp_all
def Inv.tuple(I:Inv X aa Z H s)(h:gA X.K H a xs):∃aE:List ai,Vals xs aE/\IsTup s.heap a aE.toArray/\xs.length<=sizeLine:=by
 rcases h with h|⟨o,aE,n,hk,hc,hs,hz,r⟩
 .obtain⟨z,aE,r,p⟩:=h.ok I.bh;exact⟨aE,r,p,z⟩
 .refine⟨aE.toList,r,⟨o,I.jL a o hk,hc,n,by simpa using hs⟩,?_⟩
  have e:=r.length;simp only[Hg] at e;lia
def Inv.kA(I:Inv X aa Z H s)(h:cC X.K H a xs)(h':cC X.K H a ys):xs=ys:=by
 obtain⟨aE,r,⟨o,n,e,_,_,d⟩,_⟩:=I.list h;obtain⟨its',r',⟨o',n',e',_,_,d'⟩,_⟩:=I.list h';rw[e] at e';cases e';rw[d] at d';injection d' with d1 _;have:aE=its':=by simpa using congrArg Array.toList d1
 subst this;exact r.inj r'
def Inv.l7(I:Inv X aa Z H s)(h:gA X.K H a xs)(h':gA X.K H a ys):xs=ys:=by
 obtain⟨aE,r,⟨o,e,_,n,d⟩,_⟩:=I.tuple h;obtain⟨its',r',⟨o',e',_,n',d'⟩,_⟩:=I.tuple h';rw[e] at e';cases e';rw[d] at d';injection d' with d1 _;have:aE=its':=by simpa using congrArg Array.toList d1
 subst this;exact r.inj r'
end
section
variable{X:Cx}{aa:List (ag×Obj)}{Z:St}{H:Hp}{s:aq}{E:ai->aq->Prop}
end
section
variable{X:Cx}{st:Stmt}{rest:List Stmt}{t u:TS}{e:Expr}{te:TE}{pos:Pos}
def Ea:TS:=λD Z H=>D.nx Z H
def LO(t u:TS):TS:=λD Z H=>t { D with nx:=u D} Z H
def qu:iP X [] Ea:=λ_ _ Z H _ I h=>wpAny_execs_nil ⟨Z,H,I,h⟩
def Vu(h1:PS X st t)(h2:iP X rest u):iP X (st::rest) (LO t u):=by
 intro aa s Z H D I h;refine wpAny_execs_cons (bB (h1 aa s Z H { D with nx:=u D} I h) λf s1 q=>?_)
 cases f with
 |next=>
  obtain⟨Z',H',I',q⟩:=q;exact h2 aa s1 Z' H' D I' q
 |ret v=>exact q
 |brk=>exact q
 |cont=>exact q
def Inv.quiet(I:Inv X aa Z H s):interactive X.env=false:=by simp[interactive,I.ok.kind]
def D_(te:TE):TS:=λD Z H=>te Z H λ_ H1=>D.nx Z H1
def XI(he:PE X e te)(hs:swapsWith e none pos.line X.env=pure false:=by rfl):PS X (.Expr e pos) (D_ te):=by
 intro aa s Z H D I h;exact wpAny_Expr_any (bB (he aa s Z H _ I h) λv s1 ⟨x,H1,I1,r1,q1⟩=>⟨Z,H1,I1,q1⟩) I.quiet hs
def LN(te:TE):TS:=λD Z H=>te Z H D.rt
def θ(he:PE X e te):PS X (.Return (some e) pos) (LN te):=by
 intro aa s Z H D I h;exact wpAny_Return_some (bB (he aa s Z H _ I h) λv s1 ⟨x,H1,I1,r1,q1⟩=>⟨x,Z,H1,I1,r1,q1⟩)
def LK(c:TT)(t u:TS):TS:=λD Z H=>c Z H λb H1=>if b=true then t D Z H1 else u D Z H1
def e5y{a b:List Stmt}(hc:PT X c tc)(ha:iP X a t)(hb:iP X b u):PS X (.If c a b pos) (LK tc t u):=by
 intro aa s Z H D I h;refine wpAny_If (bB (hc aa s Z H _ I h) λd s1 hh=>?_)
 obtain⟨H1,I1,q1⟩:=hh;cases d with
 |true=>exact ha aa s1 Z H1 D I1 q1
 |false=>exact hb aa s1 Z H1 D I1 q1
end
abbrev TG:=V->St->Hp->(St->Hp->Prop)->Prop
abbrev um:=List V->St->Hp->(St->Hp->Prop)->Prop
def PG(X:Cx)(target:Expr)(t:TG):Prop:=
 ∀(aa:List (ag×Obj)) (s:aq) (Z:St) (H:Hp) (v:V) (u:ai) (Q:St->Hp->Prop),Inv X aa Z H s->RelV v u->t v Z H Q->
  wpAny (model X.prog X.w) X.A (assign target X.env u) (λ_ s'=>∃Z' H',Inv X aa Z' H' s'/\Q Z' H') X.xe s
def BI(X:Cx)(ts:List Expr)(t:um):Prop:=
 ∀(aa:List (ag×Obj)) (s:aq) (Z:St) (H:Hp) (vs:List V) (us:List ai) (Q:St->Hp->Prop),Inv X aa Z H s->Vals vs us->t vs Z H Q->
  wpAny (model X.prog X.w) X.A (assignInOrder ((assignEach ts X.env).map (·.2)) us) (λ_ s'=>∃Z' H',Inv X aa Z' H' s'/\Q Z' H') X.xe s
abbrev qP:=V->V->V->Hp->(Hp->Prop)->Prop
def uS(X:Cx)(t:qP):Prop:=
 ∀(aa:List (ag×Obj)) (s:aq) (Z:St) (H:Hp) (o i v:V) (ov iv u:ai) (Q:Hp->Prop),Inv X aa Z H s->RelV o ov->RelV i iv->RelV v u->t o i v H Q->
  wpAny (model X.prog X.w) X.A (setItem ov iv u) (λ_ s'=>∃H',Inv X aa Z H' s'/\Q H') X.xe s
abbrev ED:=V->V->Hp->VK->Prop
def EB(X:Cx)(op:Operator)(t:ED):Prop:=
 ∀(aa:List (ag×Obj)) (s:aq) (Z:St) (H:Hp) (x y:V) (v u:ai) (Q:VK),Inv X aa Z H s->RelV x v->RelV y u->t x y H Q->
  wpAny (model X.prog X.w) X.A (inplaceOp op v u) (EP X aa Z Q) X.xe s
section
variable{X:Cx}{pos:Pos}
def qj(i:Nat):TG:=λv Z H Q=>Q (Z.set i (some v)) H
def XJ{i:Nat}(hN:X.N.Nodup)(hi:X.N[i]?=some x)(hx:Loc X.env.scope x)(hf:X.fn x=true\/X.env.scope.names.lookup x=some .local := by first|exact .inl rfl|exact .inr rfl|assumption):PG X (.Name x pos) (qj i):=by
 intro aa s Z H v u Q I r h;exact wpAny_assign_Name (N5 I hN hi hx r (λs' I'=>⟨_,H,I',h⟩) hf)
def C2:um:=λvs Z H Q=>vs=[]/\Q Z H
def wO(t:TG)(u:um):um:=λvs Z H Q=>∃v r,vs=v::r/\t v Z H λZ' H'=>u r Z' H' Q
def vD:BI X [] C2:=by
 intro aa s Z H vs us Q I r h;obtain⟨e,h⟩:=h;subst e;cases r;exact assignInOrder_nil ⟨Z,H,I,h⟩
def tW{t:TG}{u:um}(h1:PG X e t)(h2:BI X es u)
  (hs:(assignEach (e::es) X.env).map (·.2)=assign e X.env::(assignEach es X.env).map (·.2):=by rfl):BI X (e::es) (wO t u):=by
 intro aa s Z H vs us Q I r h;obtain⟨v,vr,e1,h⟩:=h;subst e1;cases r with
 |cons r rr=>
  rw[hs];refine assignInOrder_cons (bB (h1 aa s Z H _ _ _ I r h) λ_ s1 hh=>?_)
  obtain⟨Z1,H1,I1,q1⟩:=hh;exact h2 aa s1 Z1 H1 _ _ Q I1 rr q1
def y_(K:PySem.W.Frag)(n:Nat)(t:um):TG:=λv Z H Q=>∃a xs,v=.ref a/\gA K H a xs/\xs.length=n/\t xs Z H Q
def ι{k:Nat}{t:um}{n:Nat}(hc:X.calm=true)(h:BI X es t)
  (hn:(assignEach es X.env).length=n:=by rfl) (lr:(assignEach es X.env).findIdx? (·.1)=none:=by rfl):PG X (.Tuple es k pos) (y_ X.K n t):=by
 intro aa s Z H v u Q I r hw;obtain⟨a,xs,e1,hq,hl,hw⟩:=hw;subst e1;cases r;obtain⟨aE,rv,ht,hz⟩:=I.tuple hq;refine assign_Tuple_tuple (I.ok.hd hc) ht (by simp[hn,<-hl,rv.length]) lr λh' hx=>?_
 have I1:Inv X aa Z H { s with heap:=h'}:=I.kept (t':=s.toks) λb o e=>hx b o (gp (cD e)) e
 exact h aa _ Z H xs _ Q I1 (by simpa using rv) hw
def J6(to ti:TE)(t:qP):TG:=λv Z H Q=>to Z H λo H1=>ti Z H1 λi H2=>t o i v H2 λH3=>Q Z H3
def μ{t:qP}(ho:PE X o to)(hi:PE X i ti)(hs:uS X t)
  (ha:∀v,assign (.Subscript o i pos) X.env v=(do
   let ov <-holding [v] (eval o X.env)
   let iv <-holding [v,ov] (eval i X.env)
   standAt pos
   holding [v,ov,iv] (setItem ov iv v)
   release [v,ov,iv] []):=by intro _;rfl):PG X (.Subscript o i pos) (J6 to ti t):=by
 intro aa s Z H v u Q I r h;rw[ha];refine ay (kT (bB (ho aa s Z H _ I h) λov s1 hh=>?_))
 obtain⟨x,H1,I1,r1,q1⟩:=hh;refine ay (kT (bB (hi aa s1 Z H1 _ I1 q1) λiv s2 hh=>?_))
 obtain⟨y,H2,I2,r2,q2⟩:=hh;refine ay (wpAny_standAt (ay (kT (bB (hs aa s2 Z H2 x y v ov iv u _ I2 r1 r2 r q2) λ_ s3 hh=>?_))))
 obtain⟨H3,I3,q3⟩:=hh;exact wpAny_release ⟨Z,H3,I3,q3⟩
def D7(te:TE)(g:TG):TS:=λD Z H=>te Z H λx H1=>g x Z H1 D.nx
def ν{g:TG}(he:PE X e te)(hg:PG X tg g)(hs:swapsWithSole [tg] e pos.line X.env=pure false:=by rfl)(hw:swappedStores [tg] e X.env=pure none:=by rfl)
  (h1:(assignEach [tg] X.env).map (·.2)=[assign tg X.env]:=by rfl):PS X (.Assign [tg] e pos) (D7 te g):=by
 intro aa s Z H D I h;refine wpAny_Assign_stores (bB (he aa s Z H _ I h) λv s1 hh=>?_) hs hw
 obtain⟨x,H1,I1,r1,q1⟩:=hh;rw[h1];exact bB (hg aa s1 Z H1 x v _ I1 r1 q1) λ_ s2 q=>q
def ξ{i:Nat}{pos':Pos}(hN:X.N.Nodup)(hi:X.N[i]?=some x)(hx:Loc X.env.scope x)(he:PE X e te)(hs:swapsWith e (some (.Name x pos')) pos.line X.env=pure false:=by rfl)(hf:X.fn x=true\/X.env.scope.names.lookup x=some .local := by first|exact .inl rfl|exact .inr rfl|assumption):
  PS X (.Assign [.Name x pos'] e pos) (D7 te (qj i)):=by
 intro aa s Z H D I h;refine wpAny_Assign_Name (bB (he aa s Z H _ I h) λv s1 hh=>?_) hs
 obtain⟨y,H1,I1,r1,q1⟩:=hh;exact N5 I1 hN hi hx r1 (λs2 I2=>⟨_,H1,I2,q1⟩) hf
def D8(to ti te:TE)(vN:V->V->Hp->VK->Prop)(G_:ED)(vR:qP):TS:=λD Z H=>to Z H λo H1=>ti Z H1 λi H2=>vN o i H2 λx H3=>te Z H3 λy H4=>G_ x y H4 λz H5=>vR o i z H5 λH6=>D.nx Z H6
def BH(X:Cx)(t:V->V->Hp->VK->Prop):Prop:=
 ∀(aa:List (ag×Obj)) (s:aq) (Z:St) (H:Hp) (o i:V) (ov iv:ai) (Q:VK),Inv X aa Z H s->RelV o ov->RelV i iv->t o i H Q->
  wpAny (model X.prog X.w) X.A (getItem ov iv) (EP X aa Z Q) X.xe s
def XM{vN:V->V->Hp->VK->Prop}{G_:ED}{vR:qP}{op:Operator}{eY:Pos}(ho:PE X o to)(hi:PE X i ti)(hg:BH X vN)(he:PE X e te)(hp:EB X op G_)(hs:uS X vR)
  (ha:∀ov iv new,augStore i ov iv new=(do holding [new,ov,iv] (setItem ov iv new);release [new,ov,iv] [];pure .next):=by intros;rfl):PS X (.AugAssign (.Subscript o i eY) op e pos) (D8 to ti te vN G_ vR):=by
 intro aa s Z H D I h;refine wpAny_AugAssign_SubscriptAny (bB (ho aa s Z H _ I h) λov s1 hh=>?_) ha
 obtain⟨x1,H1,I1,r1,q1⟩:=hh;refine bB (hi aa s1 Z H1 _ I1 q1) λiv s2 hh=>?_
 obtain⟨x2,H2,I2,r2,q2⟩:=hh;refine bB (hg aa s2 Z H2 x1 x2 ov iv _ I2 r1 r2 q2) λold s3 hh=>?_
 obtain⟨x3,H3,I3,r3,q3⟩:=hh;refine bB (he aa s3 Z H3 _ I3 q3) λv s4 hh=>?_
 obtain⟨x4,H4,I4,r4,q4⟩:=hh;refine bB (hp aa s4 Z H4 x3 x4 old v _ I4 r3 r4 q4) λnew s5 hh=>?_
 obtain⟨x5,H5,I5,r5,q5⟩:=hh;exact bB (hs aa s5 Z H5 x1 x2 x5 ov iv new _ I5 r1 r2 r5 q5) λ_ s6 ⟨H6,I6,q6⟩=>⟨Z,H6,I6,q6⟩
def KC(f:Int->Int->Int):ED:=λx y H Q=>∃i j,x=.int i/\y=.int j/\Q (.int (f i j)) H
def zy:EB X .Add (KC λi j=>i+j):=by
 intro aa s Z H x y v u Q I r1 r2 h;obtain⟨i,j,e1,e2,q⟩:=h;subst e1;subst e2;obtain⟨t,rfl⟩:=r1;obtain⟨t',rfl⟩:=r2;exact iadd_int ⟨.int _,H,I.tok _,⟨_,rfl⟩,q⟩
end
section
variable{X:Cx}{pos:Pos}
def ο(c:TT)(tb:TS):TS:=λD Z H=>∃W:Nat->St->Hp->Prop,(∃m,W m Z H)/\∀m Z H,W m Z H->
 c Z H λb H1=>if b=true then ∃N:St->Hp->Prop,(∀Z' H',N Z' H'->∃m',m'<m/\W m' Z' H')/\tb { D with nx:=N,ct:=N,bk:=D.nx} Z H1 else D.nx Z H1
def Vv{body:List Stmt}{tb:TS}(hp:PassesOwn (model X.prog X.w) X.A X.env X.xe)(hc:PT X c tc)(hb:iP X body tb):PS X (.While c body [] pos) (ο tc tb):=by
 intro aa s Z H D I h;obtain⟨W,⟨m0,w0⟩,turn⟩:=h;refine wpAny_While (codeAny_whileLoop (λn s'=>∃Z' H',Inv X aa Z' H' s'/\W n Z' H') ?_ m0 ⟨Z,H,I,w0⟩)
 rintro n s1 ⟨Z1,H1,I1,w1⟩;refine wpAny_passesOwn hp (bB (hc aa s1 Z1 H1 _ I1 (turn n Z1 H1 w1)) λb s2 hh=>?_)
 obtain⟨H2,I2,q2⟩:=hh;cases b with
 |true=>
  obtain⟨N,hN,q2⟩:=q2;rw[aN rfl];refine wpAny_passesOwn hp (bB (hb aa s2 Z1 H2 _ I2 q2) λf s3 q3=>?_)
  cases f with
  |next=>
   obtain⟨Z3,H3,I3,n3⟩:=q3;obtain⟨m',hm,w3⟩:=hN Z3 H3 n3;exact⟨m',hm,Z3,H3,I3,w3⟩
  |cont=>
   obtain⟨Z3,H3,I3,n3⟩:=q3;obtain⟨m',hm,w3⟩:=hN Z3 H3 n3;exact⟨m',hm,Z3,H3,I3,w3⟩
  |brk=>exact q3
  |ret v=>exact q3
 |false=>
  rw[aJ oW];exact wpAny_execs_nil ⟨Z1,H2,I2,q2⟩
end
set_option genInjectivity false in
structure It where
 go:Nat->Hp->Prop
 uh:Nat->Hp->V->Hp->Prop
 stop:Nat->Hp->Prop
def iN(X:Cx)(aa:List (ag×Obj))(H:Hp)(b:ag):Prop:=
 H b=none/\b≠X.env.locals/\b∉X.fs/\(b∈X.ex\/X.s₀.heap.objs.size<=b)/\(∀x c,X.env.cells.lookup x=some c->c≠b)/\∀p∈X.pn++aa,p.1≠b
def Inv.lj{X:Cx}{H':Hp}{b:ag}(I:Inv X aa Z H s)(hb:s.heap.objs.size<=b)(hn:H' b=none):iN X aa H' b:=by
 refine⟨hn,xR (fM I.lt hb),I.zH hb,.inr (jo I.sz hb),λx c e z=>?_,λp hp z=>?_⟩
 .obtain⟨v,q⟩:=I.cell x c e;exact bT (fM q.lt (by rw[z];exact hb)) (jQ _)
 .exact bT (fM (cD (I.pin p hp).1) (by rw[z];exact hb)) (jQ _)
structure Turn (P:cS) (w:ck) (K:PySem.W.Frag) (tg:Expr) (J:It) (fp:List ag) (it:ag) (tn:Nat->bJ->Prop):Prop where
 mem:it∈fp
 obj:∀i h,tn i h->∀b∈fp,∃o,h.get? b=some o/\∀v,o.data≠.cell v
 keep:∀i h h',tn i h->(∀b∈fp,∀o,h.get? b=some o->h'.get? b=some o)->tn i h'
 item:∀(X:Cx),X.prog=P->X.w=w->X.K=K->X.calm=true->∀(i:Nat) (aa:List (ag×Obj)) (s:aq) (Z:St) (H:Hp) (E:ai->aq->Prop),Inv X aa Z H s->(∀b∈fp,iN X aa H b)->tn i s.heap->J.go i H->
  wpAny (model P w) X.A (pyNext (.ref it)) (λr s1=>∃u,r=some u/\ wpAny (model P w) X.A (letOwnedTupleGo tg (.ref it) u) (λ_ s2=>∃x H',Inv X aa Z H' s2/\RelV x u/\J.uh i H x H'/\tn (i+1) s2.heap/\∀b∈fp,H' b=none) E s1) E s
 done:∀(X:Cx),X.prog=P->X.w=w->X.K=K->X.calm=true->∀(i:Nat) (aa:List (ag×Obj)) (s:aq) (Z:St) (H:Hp) (E:ai->aq->Prop),Inv X aa Z H s->(∀b∈fp,iN X aa H b)->tn i s.heap->J.stop i H->
  wpAny (model P w) X.A (pyNext (.ref it)) (λr s1=>r=none/\Inv X aa Z H s1) E s
 self:∀(A:cF) (i:Nat) (s:aq) (Q:ai->aq->Prop) (E:ai->aq->Prop),tn i s.heap->Q (.ref it) s->wpAny (model P w) A (pyIter (.ref it)) Q E s
abbrev TI:=St->Hp->(It->Hp->Prop)->Prop
def HH(X:Cx)(aa:List (ag×Obj))(Z:St)(tg:Expr)(R:It->Hp->Prop)(G1:ai)(s2:aq):Prop:=
 ∃(it:ag) (fp:List ag) (tn:Nat->bJ->Prop) (J:It) (H':Hp),G1=.ref it/\Inv X aa Z H' s2/\Turn X.prog X.w X.K tg J fp it tn/\tn 0 s2.heap/\(∀b∈fp,iN X aa H' b)/\R J H'
def PI(X:Cx)(tg iter:Expr)(wi:TI):Prop:=
 ∀(aa:List (ag×Obj)) (s:aq) (Z:St) (H:Hp) (R:It->Hp->Prop),Inv X aa Z H s->wi Z H R->
  wpAny (model X.prog X.w) X.A (eval iter X.env) (λv s1=>wpAny (model X.prog X.w) X.A (pyIter v) (HH X aa Z tg R) X.xe s1) X.xe s
def yM{M:Model}{A:cF}{E:ai->aq->Prop}{it:ag}{o:Obj}{n:String}{vs:Array ai}{Q:Unit->aq->Prop}(ho:s.heap.get? it=some o)(hc:o.cls=.type n)(hd:o.data=.fields vs)
  (hn:["enumerate","zip","dict_itemiterator","dict_reverseitemiterator","odict_iterator","itertools.zip_longest","itertools.pairwise"].contains n=false) (hQ:Q () s):wpAny M A (letOwnedTupleGo tg (.ref it) u) Q E s:=by
 unfold letOwnedTupleGo;cases tg <;> first
  |exact aS hQ
  |(cases u <;> first
    |exact aS hQ
    |(refine ay (wpAny_load ho ?_)
      rw[hc,hd];show wpAny M A (if(["enumerate","zip","dict_itemiterator","dict_reverseitemiterator","odict_iterator","itertools.zip_longest","itertools.pairwise"].contains n&&vs[0]? == some (rawInt _))=true then _ else _) Q E s
      rw[aJ (by intro h;rw[hn,Bool.false_and] at h;cases h)]
      exact aS hQ))
def HC(K:PySem.W.Frag)(a:ag):It:=
 ⟨λi H=>∃xs x,cC K H a xs/\xs[i]?=some x,λi H x H'=>H'=H/\∀xs,cC K H a xs->xs[i]?=some x,λi H=>∃xs,cC K H a xs/\xs.length<=i⟩
def HD(K:PySem.W.Frag)(a:ag):It:=
 ⟨λi H=>∃xs x,gA K H a xs/\xs[i]?=some x,λi H x H'=>H'=H/\∀xs,gA K H a xs->xs[i]?=some x,λi H=>∃xs,gA K H a xs/\xs.length<=i⟩
def Ez(lo:Int)(n:Nat):It:=⟨λi _=>i<n,λi H x H'=>H'=H/\x=.int (lo+i),λi _=>n<=i⟩
def Ug(a it:ag):Turn P w K tg (HC K a) [it] it (λi h=>h.IsListIter it a i) where
 mem:=by simp
 obj:=λi h st b hb=>by
  have e:b=it:=by simpa using hb
  subst e;obtain⟨o,e,c,d⟩:=st;exact⟨o,e,λv z=>by rw[d] at z;cases z⟩
 keep:=λi h h' st k=>st.at λo e=>k it (by simp) o e
 item:=by
  intro X hP hw hK hc i aa s Z H E I hf st hg;subst hP hw hK;obtain⟨xs,x,hq,hx⟩:=hg;obtain⟨aE,rv,p,hz⟩:=I.list hq;obtain⟨u,hu,ru⟩:=rv.get hx;obtain⟨f0,f1,f2,f3,f4,f5⟩:=hf it (by simp)
  refine wpAny_pyNext_list_item st p.isList (x:=u) (by simpa using hu) λh' jO sb=>?_
  have I1:Inv X aa Z H { s with heap:=h'}:=I.turned (t':=s.toks) (λb o hb e=>(sb.2 b hb).trans e) f0 f1 f3 f4 f5
  obtain⟨o,e,c,d⟩:=id jO;exact⟨u,rfl,yM (s:={ s with heap:=h'}) e c d (by decide) ⟨x,H,I1,ru,⟨rfl,λys hy=>by rw[I.kA hy hq];exact hx⟩,jO,λb hb=>(hf b hb).1⟩⟩
 done:=by
  intro X hP hw hK hc i aa s Z H E I hf st hg;subst hP hw hK;obtain⟨xs,hq,hx⟩:=hg;obtain⟨aE,rv,p,hz⟩:=I.list hq;obtain⟨f0,f1,f2,f3,f4,f5⟩:=hf it (by simp)
  have hl:=rv.length;exact wpAny_pyNext_list_end (I.ok.hd hc) st p.isList (by simp;lia) λh' eb=>⟨rfl,I.turned (t':=s.toks) (λb o hb e=>eb b o hb e) f0 f1 f3 f4 f5⟩
 self:=λ_ _ _ _ _ st h=>wpAny_pyIter_listiter st h
def Tp(a it:ag):Turn P w K tg (HD K a) [it] it (λi h=>h.IsTupleIter it a i) where
 mem:=by simp
 obj:=λi h st b hb=>by
  have e:b=it:=by simpa using hb
  subst e;obtain⟨o,e,c,d⟩:=st;exact⟨o,e,λv z=>by rw[d] at z;cases z⟩
 keep:=λi h h' st k=>st.at λo e=>k it (by simp) o e
 item:=by
  intro X hP hw hK hc i aa s Z H E I hf st hg;subst hP hw hK;obtain⟨xs,x,hq,hx⟩:=hg;obtain⟨aE,rv,p,hz⟩:=I.tuple hq;obtain⟨u,hu,ru⟩:=rv.get hx;obtain⟨f0,f1,f2,f3,f4,f5⟩:=hf it (by simp)
  refine wpAny_pyNext_tuple_item st (show s.heap.IsTuple a aE.toArray from p) (x:=u) (by simpa using hu) λh' jO sb=>?_
  have I1:Inv X aa Z H { s with heap:=h'}:=I.turned (t':=s.toks) (λb o hb e=>(sb.2 b hb).trans e) f0 f1 f3 f4 f5
  obtain⟨o,e,c,d⟩:=id jO;exact⟨u,rfl,yM (s:={ s with heap:=h'}) e c d (by decide) ⟨x,H,I1,ru,⟨rfl,λys hy=>by rw[I.l7 hy hq];exact hx⟩,jO,λb hb=>(hf b hb).1⟩⟩
 done:=by
  intro X hP hw hK hc i aa s Z H E I hf st hg;subst hP hw hK;obtain⟨xs,hq,hx⟩:=hg;obtain⟨aE,rv,p,hz⟩:=I.tuple hq;obtain⟨f0,f1,f2,f3,f4,f5⟩:=hf it (by simp)
  have hl:=rv.length;exact wpAny_pyNext_tuple_end (I.ok.hd hc) st (show s.heap.IsTuple a aE.toArray from p) (by simp;lia) λh' eb=>⟨rfl,I.turned (t':=s.toks) (λb o hb e=>eb b o hb e) f0 f1 f3 f4 f5⟩
 self:=λ_ _ _ _ _ st h=>wpAny_pyIter_tupleiter st h
def Tq(it:ag)(lo:Int)(n:Nat):Turn P w K tg (Ez lo n) [it] it (λi h=>IsRangeIter h it (lo+(i:Nat)*1) ((n:Int) - (i:Nat)) 1) where
 mem:=by simp
 obj:=λi h st b hb=>by
  have e:b=it:=by simpa using hb
  subst e;exact⟨_,st,λv z=>by
   have z':Data.fields _=Data.cell v:=z;cases z'⟩
 keep:=λi h h' st k=>k it (by simp) _ st
 item:=by
  intro X hP hw hK hc i aa s Z H E I hf st hg;subst hP hw hK;obtain⟨f0,f1,f2,f3,f4,f5⟩:=hf it (by simp)
  have W:=Walks.range (prog:=X.prog) (w:=X.w) (I.ok.hd hc) it lo 1 n;refine W.item i s _ _ hg st λv h' tk hv jO kk=>?_
  obtain⟨t,rfl⟩:=hv;have I1:Inv X aa Z H { s with heap:=h',toks:=tk}:=I.turned (λb o hb e=>kk b o (by simpa using hb) e) f0 f1 f3 f4 f5
  refine⟨_,rfl,yM (s:={ s with heap:=h',toks:=tk}) (n:="range_iterator") jO rfl rfl (by decide) ⟨.int (lo+i),H,I1,⟨t,?_⟩,⟨rfl,rfl⟩,jO,λb hb=>(hf b hb).1⟩⟩
  rw[Int.mul_one]
 done:=by
  intro X hP hw hK hc i aa s Z H E I hf st hg;subst hP hw hK;obtain⟨f0,f1,f2,f3,f4,f5⟩:=hf it (by simp)
  exact wpAny_pyNext_range_end (I.ok.hd hc) st (by have:n<=i:=hg;lia) λh' eb=>⟨rfl,I.turned (t':=s.toks) (λb o hb e=>eb b o hb e) f0 f1 f3 f4 f5⟩
 self:=λ_ _ _ _ _ st h=>wpAny_pyIter_rangeiter st h
section
variable{X:Cx}{tg:Expr}
def wZ(K:PySem.W.Frag)(tl:TE):TI:=λZ H R=>tl Z H λx H1=>∃a,x=.ref a/\(∃xs,cC K H1 a xs)/\R (HC K a) H1
def Dy(K:PySem.W.Frag)(tl:TE):TI:=λZ H R=>tl Z H λx H1=>∃a,x=.ref a/\(∃xs,gA K H1 a xs)/\R (HD K a) H1
def XN{l:Expr}{tl:TE}(hl:PE X l tl):PI X tg l (wZ X.K tl):=by
 intro aa s Z H R I h;refine bB (hl aa s Z H _ I h) λv s1 hh=>?_
 obtain⟨x,H1,I1,r1,q1⟩:=hh;obtain⟨a,e,⟨xs,hq⟩,q⟩:=q1;subst e;cases r1;obtain⟨aE,rv,p,hz⟩:=I1.list hq;refine wpAny_pyIter_list p.isList ?_;refine⟨s1.heap.objs.size,[s1.heap.objs.size],_,_,H1,rfl,I1.kept (t':=s1.toks) λb o e=>cO _ e,Ug a _,⟨_,jq _ rfl,rfl,rfl⟩,λb hb=>?_,q⟩
 have e:b=s1.heap.objs.size:=by simpa using hb
 subst e;exact I1.lj (bG _) (I1.bh.fresh (bG _))
def π{l:Expr}{tl:TE}(hl:PE X l tl):PI X tg l (Dy X.K tl):=by
 intro aa s Z H R I h;refine bB (hl aa s Z H _ I h) λv s1 hh=>?_
 obtain⟨x,H1,I1,r1,q1⟩:=hh;obtain⟨a,e,⟨xs,hq⟩,q⟩:=q1;subst e;cases r1;obtain⟨aE,rv,p,hz⟩:=I1.tuple hq;refine wpAny_pyIter_tuple (show s1.heap.IsTuple a aE.toArray from p) ?_;refine⟨s1.heap.objs.size,[s1.heap.objs.size],_,_,H1,rfl,I1.kept (t':=s1.toks) λb o e=>cO _ e,Tp a _,⟨_,jq _ rfl,rfl,rfl⟩,λb hb=>?_,q⟩
 have e:b=s1.heap.objs.size:=by simpa using hb
 subst e;exact I1.lj (bG _) (I1.bh.fresh (bG _))
def Vw{aa:List (ag×Obj)}{Z:St}{H:Hp}{s:aq}{R:It->Hp->Prop}{E:ai->aq->Prop}{lo hi:Int}{t u v:Tok}{tk:Nat}(I:Inv X aa Z H s)(h1:-(2^62)<=lo)(h2:lo<2^62)(h3:-(2^62)<=hi)(h4:hi<2^62)
  (q:R (Ez lo (hi - lo).toNat) H):wpAny (model X.prog X.w) X.A (pyIter (.ref s.heap.objs.size)) (HH X aa Z tg R) E { s with heap:=s.heap.push { cls:=.type "range",data:=.fields #[.int lo t,.int hi u,.int 1 v]},toks:=tk}:=by
 refine wpAny_pyIter_range (IsRange.new ..) (small_one h1 h2 h3 h4) ?_;have I1:Inv X aa Z H { s with heap:=s.heap.push { cls:=.type "range",data:=.fields #[.int lo t,.int hi u,.int 1 v]},toks:=tk}:=I.kept λb o e=>cO _ e
 refine⟨(s.heap.push { cls:=.type "range",data:=.fields #[.int lo t,.int hi u,.int 1 v]}).objs.size,[(s.heap.push { cls:=.type "range",data:=.fields #[.int lo t,.int hi u,.int 1 v]}).objs.size],_,_,H,rfl,I1.kept (t':=tk) λb o e=>cO _ e,Tq _ lo (hi - lo).toNat,?_,λb hb=>?_,q⟩
 .have e1:lo+((0:Nat):Int)*1=lo:=by simp
  have e2:(((hi - lo).toNat:Nat):Int) - ((0:Nat):Int)=Builtin.Range.rangeSize lo hi 1:=by rw[rangeSize_one];split <;> lia
  show IsRangeIter _ _ (lo+((0:Nat):Int)*1) ((((hi - lo).toNat:Nat):Int) - ((0:Nat):Int)) 1;rw[e1,e2];exact jq _ rfl
 .have e:b=(s.heap.push { cls:=.type "range",data:=.fields #[.int lo t,.int hi u,.int 1 v]}).objs.size:=by simpa using hb
  subst e;exact I1.lj (bG _) (I1.bh.fresh (bG _))
def w6(ta:TA):TI:=λZ H R=>ta Z H λvs H1=>∃j:Int,vs=[.int j] /\ -(2^62)<=j/\j<2^62/\R (Ez 0 j.toNat) H1
def Uh{a:Expr}{ta:TA}{p pos:Pos}(hg:Gl X "range")(hm:X.mg "range"=none)(ha:PA X [a] ta)(hs:starEach [a] X.env=[(false,eval a X.env)]:=by rfl):PI X tg (.Call (.Name "range" p) [a] [] pos) (w6 ta):=by
 intro aa s Z H R I h;refine Call_ (wq I hg hm boot_range (PyProof.Rows.callWith_type1 (bB (ha pos aa s Z H _ I h) λus s1 hh=>?_) hs rfl))
 obtain⟨vs,H1,I1,r1,q1⟩:=hh;obtain⟨j,e,q1,q2,q⟩:=q1;subst e;cases r1 with
 |cons r rr=>
  cases rr;obtain⟨t,rfl⟩:=r;exact call_range_1 (Vw I1 (by lia) (by lia) q1 q2 (by simpa using q))
def LJ(wi:TI)(g:TG)(tb:TS):TS:=λD Z H=>wi Z H λJ H1=>∃W:Nat->Nat->St->Hp->Prop,(∃m,W 0 m Z H1)/\∀i m Z H,W i m Z H->
 (J.stop i H/\D.nx Z H)\/(J.go i H/\∃N:St->Hp->Prop,(∀Z' H',N Z' H'->∃m',m'<m/\W (i+1) m' Z' H')/\∀x H',J.uh i H x H'->g x Z H' λZ2 H2=>tb { D with nx:=N,ct:=N,bk:=D.nx} Z2 H2)
noncomputable def Cw(fp:List ag)(h:bJ):List (ag×Obj):=fp.filterMap λb=>(h.get? b).map λo=>(b,o)
def BZ{fp:List ag}{h:bJ}{b:ag}{o:Obj}(hb:b∈fp)(e:h.get? b=some o):(b,o)∈Cw fp h:=rP.mpr ⟨b,hb,by rw[e];rfl⟩
def Ui{fp:List ag}{h:bJ}{p:ag×Obj}(hp:p∈Cw fp h):p.1∈fp/\h.get? p.1=some p.2:=by
 obtain⟨b,hb,e⟩:=rP.mp hp;cases q:h.get? b with
 |none=>rw[q] at e;cases e
 |some o=>
  rw[q] at e;have e':(b,o)=p:=Option.some.inj e;subst e';exact⟨hb,q⟩
def Inv.pinned{aa:List (ag×Obj)}{Z:St}{H:Hp}{s:aq}{fp:List ag}(I:Inv X aa Z H s)(hf:∀b∈fp,iN X aa H b)(ho:∀b∈fp,∃o,s.heap.get? b=some o/\∀v,o.data≠.cell v):Inv X (aa++Cw fp s.heap) Z H s:=
 I.jM λp hp=>(e_.mp hp).elim (λz=>I.pin p (pk _ z)) λz=>by
  obtain⟨hb,e⟩:=Ui z;obtain⟨f0,f1,f2,_⟩:=hf p.1 hb;obtain⟨o,e',d⟩:=ho p.1 hb;rw[e] at e';cases e';exact⟨e,f0,f1,f2,d⟩
def Inv.eE{aa pl:List (ag×Obj)}{Z:St}{H:Hp}{s:aq}(I:Inv X (aa++pl) Z H s):Inv X aa Z H s:=I.jM λp hp=>I.pin p (pk _ (Ep _ hp))
def P4{iter:Expr}{body:List Stmt}{wi:TI}{g:TG}{tb:TS}{pos:Pos}(hp:PassesOwn (model X.prog X.w) X.A X.env X.xe)(hc:X.calm=true)(hi:PI X tg iter wi)(hg:PG X tg g)(hb:iP X body tb)
  (hs:∀x,foldedSetIterable iter X.env x=pure x:=by intro _;rfl):PS X (.For tg iter body [] pos) (LJ wi g tb):=by
 intro aa s Z H D I h;refine wpAny_For (bB (hi aa s Z H _ I h) λv s1 h1=>bB h1 λG1 s2 h2=>?_) hs
 obtain⟨it,fp,tn,J,H2,e,I2,T,rN,f2,W,⟨m0,w0⟩,turn⟩:=h2;subst e;have pX:∀{H':Hp},(∀b∈fp,H' b=none)->∀b∈fp,iN X aa H' b:=λhn b hb=>⟨hn b hb,(f2 b hb).2⟩
 refine codeAny_forLoop_any (λn s'=>∃i Z' H',Inv X aa Z' H' s'/\tn i s'.heap/\(∀b∈fp,H' b=none)/\W i n Z' H') ?_ m0 ⟨0,Z,H2,I2,rN,λb hb=>(f2 b hb).1,w0⟩
 rintro n s3 ⟨i,Z3,H3,I3,R9,Q8,w3⟩;rcases turn i n Z3 H3 w3 with⟨stop,qn⟩|⟨go,N,hN,step⟩
 .refine wpAny_passesOwn hp (bB (T.done X rfl rfl rfl hc i aa s3 Z3 H3 X.xe I3 (pX Q8) R9 stop) λr s4 ⟨hr,I4⟩=>?_)
  subst hr;exact wpAny_execs_nil ⟨Z3,H3,I4,qn⟩
 .refine wpAny_passesOwn hp (bB (T.item X rfl rfl rfl hc i aa s3 Z3 H3 X.xe I3 (pX Q8) R9 go) λr s4 ⟨u,hr,h4⟩=>?_)
  subst hr;refine wpAny_passesOwn hp (bB h4 λ_ s5 hh=>?_)
  obtain⟨x,H5,I5,r5,y5,z5,J3⟩:=hh;have Hy:=I5.pinned (pX J3) (T.obj _ _ z5);refine wpAny_passesOwn hp (bB (hg _ s5 Z3 H5 x u _ Hy r5 (step x H5 y5)) λ_ s6 hh=>?_)
  obtain⟨Z6,H6,I6,q6⟩:=hh;refine wpAny_passesOwn hp (bB (hb _ s6 Z6 H6 _ I6 q6) λf s7 q7=>?_)
  have again:∀{Z7:St} {H7:Hp},Inv X (aa++Cw fp s5.heap) Z7 H7 s7->N Z7 H7->∃m,m<n/\∃i Z' H',Inv X aa Z' H' s7/\tn i s7.heap/\(∀b∈fp,H' b=none)/\W i m Z' H':=λ{Z7 H7} I7 n7=>by
   obtain⟨m',hm,w7⟩:=hN Z7 H7 n7;refine⟨m',hm,i+1,Z7,H7,I7.eE,T.keep _ _ _ z5 λb hb o e=>(I7.pin (b,o) (pk _ (pk _ (BZ hb e)))).1,λb hb=>?_,w7⟩
   obtain⟨o,e,d⟩:=T.obj _ _ z5 b hb;exact(I7.pin (b,o) (pk _ (pk _ (BZ hb e)))).2.1
  cases f with
  |next=>obtain⟨Z7,H7,I7,n7⟩:=q7;exact again I7 n7
  |cont=>obtain⟨Z7,H7,I7,n7⟩:=q7;exact again I7 n7
  |brk=>obtain⟨Z7,H7,I7,q7⟩:=q7;exact⟨Z7,H7,I7.eE,q7⟩
  |ret v=>obtain⟨x7,Z7,H7,I7,r7,q7⟩:=q7;exact⟨x7,Z7,H7,I7.eE,r7,q7⟩
end
variable{aa:List (ag×Obj)}{s:aq}{Z:St}{H:Hp}{f:ai->ai->Sem ai}{op:CmpOp}{g:Int->Int->Int}{x:V}{us:List ai}
abbrev R2:=V->V->Hp->VK->Prop
variable{r r':R2}
def dw(X:Cx)(f:ai->ai->Sem ai)(r:R2):Prop:=
 ∀(aa:List (ag×Obj)) (s:aq) (Z:St) (H:Hp) (x y:V) (v u:ai) (Q:VK),Inv X aa Z H s->RelV x v->RelV y u->r x y H Q->
  wpAny (model X.prog X.w) X.A (f v u) (EP X aa Z Q) X.xe s
def EE(X:Cx)(f:ai->Sem ai)(r:V->Hp->VK->Prop):Prop:=
 ∀(aa:List (ag×Obj)) (s:aq) (Z:St) (H:Hp) (x:V) (v:ai) (Q:VK),Inv X aa Z H s->RelV x v->r x H Q->
  wpAny (model X.prog X.w) X.A (f v) (EP X aa Z Q) X.xe s
def bI(X:Cx)(f:ai)(r:List V->Hp->VK->Prop):Prop:=
 ∀(aa:List (ag×Obj)) (s:aq) (Z:St) (H:Hp) (xs:List V) (us:List ai) (Q:VK),Inv X aa Z H s->Vals xs us->r xs H Q->
  wpAny (model X.prog X.w) X.A (call f us) (EP X aa Z Q) X.xe s
def HI(X:Cx)(r:V->Hp->(Bool->Hp->Prop)->Prop):Prop:=
 ∀(aa:List (ag×Obj)) (s:aq) (Z:St) (H:Hp) (x:V) (v:ai) (Q:Bool->Hp->Prop),Inv X aa Z H s->RelV x v->r x H Q->
  wpAny (model X.prog X.w) X.A (truthy v) (TP X aa Z Q) X.xe s
def G9(r:R2)(ta tb:TE):TE:=λZ H Q=>ta Z H λx H1=>tb Z H1 λy H2=>r x y H2 Q
def tUn(r:V->Hp->VK->Prop)(ta:TE):TE:=λZ H Q=>ta Z H λx H1=>r x H1 Q
def rI(C:Int->Int->Prop)(g:Int->Int->V):R2:=λx y H Q=>∃i j,x=.int i/\y=.int j/\C i j/\Q (g i j) H
def qv(g:Int->Int->V):R2:=λx y H Q=>∃i j,x=.int i/\y=.int j/\Q (g i j) H
def rU(g:Int->V):V->Hp->VK->Prop:=λx H Q=>∃i,x=.int i/\Q (g i) H
section
variable{X:Cx}{a b c:Expr}{ta tb tc:TE}{pos:Pos}
def yN(ha:PE X a ta)(hb:PE X b tb){R:V->V->Hp->Prop}(I:Inv X aa Z H s)
  (h:ta Z H λx H1=>tb Z H1 λy H2=>R x y H2) {Q:ai->aq->Prop} 
  (hf:∀v u s2 x y H2,Inv X aa Z H2 s2->RelV x v->RelV y u->R x y H2->wpAny (model X.prog X.w) X.A (f v u) Q X.xe s2) :
  wpAny (model X.prog X.w) X.A (eval a X.env) (λv s₁=>wpAny (model X.prog X.w) X.A (eval b X.env) (λu s₂=>wpAny (model X.prog X.w) X.A (f v u) Q X.xe s₂) X.xe s₁) X.xe s:=by
 refine bB (ha aa s Z H _ I h) λv s1 hh=>?_
 obtain⟨x,H1,I1,r1,q1⟩:=hh;refine bB (hb aa s1 Z H1 _ I1 q1) λu s2 hh=>?_
 obtain⟨y,H2,I2,r2,q2⟩:=hh;exact hf v u s2 x y H2 I2 r1 r2 q2
def e5z{op:Operator}(ho:dw X (binaryOp op) r)(ha:PE X a ta)(hb:PE X b tb):PE X (.BinOp a op b pos) (G9 r ta tb):=by
 intro aa s Z H Q I h;exact wpAny_BinOp (yN ha hb I h λv u s2 x y H2 I2 rx ry q=>ho aa s2 Z H2 x y v u Q I2 rx ry q)
def e6a{op:UnaryOp}{r:V->Hp->VK->Prop}(ho:EE X (unaryOp op) r)(ha:PE X a ta):PE X (.UnaryOp op a pos) (tUn r ta):=by
 intro aa s Z H Q I h;exact UnaryOp_ (bB (ha aa s Z H _ I h) λv s1 ⟨x,H1,I1,r1,q1⟩=>ho aa s1 Z H1 x v Q I1 r1 q1)
def K9{C:Int->Int->Prop}
  (rule:∀(i j:Int) (t u:Tok) (s:aq) (Q:ai->aq->Prop) (E:ai->aq->Prop),C i j->Q (.int (g i j) s.toks) { s with toks:=s.toks+1}->wpAny (model X.prog X.w) X.A (f (.int i t) (.int j u)) Q E s) :
  dw X f (rI C λi j=>.int (g i j)):=by
 intro aa s Z H x y v u Q I rx ry h;obtain⟨i,j,rfl,rfl,hc,q⟩:=h;obtain⟨t,rfl⟩:=rx;obtain⟨t',rfl⟩:=ry;exact rule i j t t' s _ _ hc ⟨.int (g i j),H,I.tok _,⟨_,rfl⟩,q⟩
def DL
  (rule:∀(i j:Int) (t u:Tok) (s:aq) (Q:ai->aq->Prop) (E:ai->aq->Prop),Q (.int (g i j) s.toks) { s with toks:=s.toks+1}->wpAny (model X.prog X.w) X.A (f (.int i t) (.int j u)) Q E s) :
  dw X f (qv λi j=>.int (g i j)):=by
 intro aa s Z H x y v u Q I rx ry h;obtain⟨i,j,rfl,rfl,q⟩:=h;obtain⟨t,rfl⟩:=rx;obtain⟨t',rfl⟩:=ry;exact rule i j t t' s _ _ ⟨.int (g i j),H,I.tok _,⟨_,rfl⟩,q⟩
def zJ{g:Int->Int->Bool}
  (rule:∀(i j:Int) (t u:Tok) (s:aq) (Q:ai->aq->Prop) (E:ai->aq->Prop),Q (.bool (g i j)) s->wpAny (model X.prog X.w) X.A (f (.int i t) (.int j u)) Q E s) :
  dw X f (qv λi j=>.bl (g i j)):=by
 intro aa s Z H x y v u Q I rx ry h;obtain⟨i,j,rfl,rfl,q⟩:=h;obtain⟨t,rfl⟩:=rx;obtain⟨t',rfl⟩:=ry;exact rule i j t t' s _ _ ⟨.bl (g i j),H,I,rfl,q⟩
def x8(i j:Int):Prop:=0<j/\j<1073741824
def uM(i j:Int):Prop:=(-(2^64)<i/\i<2^64)\/(-(2^64)<j/\j<2^64)
def uM.ok{i j:Int}(h:uM i j):IntMulOk i j:=by
 rcases h with⟨h1,h2⟩|⟨h1,h2⟩
 .exact .of_left (intBits_le_64 h1 h2)
 .exact .of_right (intBits_le_64 h1 h2)
def zK:dw X (binaryOp .Add) (qv λi j=>.int (i+j)):=DL λ_ _ _ _ _ _ _ q=>add_int q
def ρ:dw X (binaryOp .Sub) (qv λi j=>.int (i - j)):=DL λ_ _ _ _ _ _ _ q=>sub_int q
def zM:dw X (binaryOp .Mult) (rI uM λi j=>.int (i*j)):=K9 λ_ _ _ _ _ _ _ hc q=>mul_int q hc.ok
def XO:dw X (binaryOp .FloorDiv) (rI x8 λi j=>.int (i / j)):=K9 λi j _ _ _ _ _ hc q=>by
 have h1:(0:Int)<j:=hc.1;have h2:j<1073741824:=hc.2;exact floordiv_int (by lia) (by rw[Int.fdiv_eq_ediv_of_nonneg i (by lia)];exact q) (.inl (PyProof.noPylong_small (by lia)))
def σ:dw X (binaryOp .Mod) (rI (λ_ j=>0<j) λi j=>.int (i%j)):=K9 λi j _ _ _ _ _ hc q=>by
 have h1:(0:Int)<j:=hc;exact mod_int' (by lia) (by rw[Int.fmod_eq_emod_of_nonneg i (by lia)];exact q)
def unI{f:ai->Sem ai}{g:Int->Int}
  (rule:∀(i:Int) (t:Tok) (s:aq) (Q:ai->aq->Prop) (E:ai->aq->Prop),Q (.int (g i) s.toks) { s with toks:=s.toks+1}->wpAny (model X.prog X.w) X.A (f (.int i t)) Q E s) :
  EE X f (rU λi=>.int (g i)):=by
 intro aa s Z H x v Q I rx h;obtain⟨i,rfl,q⟩:=h;obtain⟨t,rfl⟩:=rx;exact rule i t s _ _ ⟨.int (g i),H,I.tok _,⟨_,rfl⟩,q⟩
def υ:EE X (unaryOp .USub) (rU λi=>.int (-i)):=unI λ_ _ _ _ _ q=>neg_int q
end
section
variable{X:Cx}{a b c:Expr}{ta tb tc:TE}{pos:Pos}
def uX{Q:VK}{k k':Bool}(I:Inv X aa Z H s)(q:Q (.bl k) H)(e:k=k'):EP X aa Z Q (.bool k') s:=by
 subst e;exact⟨.bl k,H,I,rfl,q⟩
def xw:dw X (compareOp .Lt) (qv λi j=>.bl (decide (i<j))):=zJ λ_ _ _ _ _ _ _ q=>lt_int q
def xu:dw X (compareOp .LtE) (qv λi j=>.bl (decide (i<=j))):=zJ λ_ _ _ _ _ _ _ q=>le_int q
def e6b:dw X (compareOp .Gt) (qv λi j=>.bl (decide (j<i))):=zJ λ_ _ _ _ _ _ _ q=>gt_int q
def Uj:dw X (compareOp .In) (λx y H Q=>∃i j,x=.str i/\y=.str j/\Q (.bl (!(Builtin.Str.occurrences j i 0 j.length 1).isEmpty)) H):=by
 intro aa s Z H x y v u Q I rx ry h;obtain⟨i,j,rfl,rfl,q⟩:=h;obtain⟨t,rfl⟩:=rx;obtain⟨t',rfl⟩:=ry;exact in_str (uX I q rfl)
def zL:dw X (compareOp .Is) (λx y H Q=>y=.aF/\Q (.bl (decide (x=.aF))) H):=by
 intro aa s Z H x y v u Q I rx ry h;obtain⟨rfl,q⟩:=h;cases ry;refine is_none_gen (uX I q ?_);cases x <;> first
  |(cases rx;rfl)
  |(obtain⟨t,rfl⟩:=rx;rfl)
def vA:dw X (compareOp .IsNot) (λx y H Q=>y=.aF/\Q (.bl (!decide (x=.aF))) H):=by
 intro aa s Z H x y v u Q I rx ry h;obtain⟨rfl,q⟩:=h;cases ry;refine isnot_none_gen (uX I q ?_);cases x <;> first
  |(cases rx;rfl)
  |(obtain⟨t,rfl⟩:=rx;rfl)
def SO:dw X (compareOp .NotIn) (λx y H Q=>∃i j,x=.str i/\y=.str j/\Q (.bl (!(!(Builtin.Str.occurrences j i 0 j.length 1).isEmpty))) H):=by
 intro aa s Z H x y v u Q I rx ry h;obtain⟨i,j,rfl,rfl,q⟩:=h;obtain⟨t,rfl⟩:=rx;obtain⟨t',rfl⟩:=ry;exact notIn_str (uX I q rfl)
def dw.or(h:dw X f r)(h':dw X f r'):dw X f (λx y H Q=>r x y H Q\/r' x y H Q):=by
 intro aa s Z H x y v u Q I rx ry q;rcases q with q|q
 .exact h aa s Z H x y v u Q I rx ry q
 .exact h' aa s Z H x y v u Q I rx ry q
def XQ(ho:dw X (compareOp op) r)(ha:PE X a ta)(hb:PE X b tb)(hm:behindInMarks op b=false):PE X (.Compare a [op] [b] pos) (G9 r ta tb):=by
 intro aa s Z H Q I h;exact wpAny_Compare1 (yN ha hb I h λv u s2 x y H2 I2 rx ry q=>ho aa s2 Z H2 x y v u Q I2 rx ry q) hm
def ua(t:TE):TT:=λZ H Q=>t Z H λx H'=>∃k,x=.bl k/\Q k H'
def XR(ho:dw X (compareOp op) r)(ha:PE X a ta)(hb:PE X b tb)(hm:behindInMarks op b=false):PT X (.Compare a [op] [b] pos) (ua (G9 r ta tb)):=by
 intro aa s Z H Q I h;refine wpAny_isTrue_Compare1 (bB (ha aa s Z H _ I h) λv s1 ⟨x,H1,I1,r1,q1⟩=>bB (hb aa s1 Z H1 _ I1 q1) λu s2 ⟨y,H2,I2,r2,q2⟩=> bB (ho aa s2 Z H2 x y v u _ I2 r1 r2 q2) λc s3 ⟨z,H3,I3,r3,k,e,q3⟩=>?_) hm
 subst e;cases r3;exact wpAny_truthy_bool ⟨H3,I3,q3⟩
def P5(r r':R2)(ta tb tc:TE):TE:=λZ H Q=>ta Z H λx H1=>tb Z H1 λy H2=>r x y H2 λz H3=>∃k,z=.bl k/\
 (if k=true then tc Z H3 λw' H4=>r' y w' H4 Q else Q (.bl false) H3)
def Vx{zI:CmpOp}(ho:dw X (compareOp op) r)(tf:dw X (compareOp zI) r')(ha:PE X a ta)(hb:PE X b tb)(hc:PE X c tc)
  (hm:lastMarks [op,zI] [b,c]=false:=by with_unfolding_all rfl):PT X (.Compare a [op,zI] [b,c] pos) (ua (P5 r r' ta tb tc)):=by
 intro aa s Z H Q I h;refine isTrue_chain (bB (ha aa s Z H _ I h) λv s1 ⟨x,H1,I1,r1,q1⟩=>test_link (bB (hb aa s1 Z H1 _ I1 q1) λu s2 ⟨y,H2,I2,r2,q2⟩=> bB (ho aa s2 Z H2 x y v u _ I2 r1 r2 q2) λd s3 ⟨z,H3,I3,r3,k,e,q3⟩=>?_)) hm
 subst e;cases r3;refine wpAny_truthy_bool ?_;cases k with
 |false=>
  obtain⟨k',e',q'⟩:=q3;cases e';exact ite_ff ⟨H3,I3,q'⟩
 |true=>
  refine ite_tt (test_last (bB (hc aa s3 Z H3 _ I3 q3) λw' s4 ⟨z',H4,I4,r4,q4⟩=>bB (tf aa s4 Z H4 y z' u w' _ I4 r2 r4 q4) λd' s5 ⟨z2,H5,I5,r5,k2,e2,q5⟩=>?_))
  subst e2;cases r5;exact wpAny_truthy_bool ⟨H5,I5,q5⟩
def yh(K:PySem.W.Frag)(x:V)(H:Hp)(k:Bool):Prop:=
 match x with
 |.aF=>k=false
 |.bl b=>k=b
 |.int i=>k=(i != 0)
 |.str y=>y.length<=sizeLine/\k=((y.length:Int) != 0)
 |.wy y=>y.size<=sizeLine/\k=((y.size:Int) != 0)
 |.ref p=>(∃xs,cC K H p xs/\k = !xs.isEmpty)\/(∃xs,gA K H p xs/\k = !xs.isEmpty)\/∃kvs,H p=some (.dK kvs)/\k = !kvs.isEmpty
 |_=>False
def Tr{κ:Type}{kvs:List (κ×V)}{vs:List (κ×ai)}(r:KV kvs vs):(!vs.isEmpty) = !kvs.isEmpty:=by
 cases r <;> rfl
def M6{xs:List V}{aE:List ai}(r:Vals xs aE):(!aE.toArray.isEmpty) = !xs.isEmpty:=by
 cases r <;> simp
def yF:(sizeLine:Nat)<2^63:=by rw[sizeLine_eq];decide
def χ:HI X (λx H Q=>∃k,yh X.K x H k/\Q k H):=by
 intro aa s Z H x v Q I rx h;obtain⟨k,e,q⟩:=h;have hl:=yF;have hs:sizeLine=16777216:=sizeLine_eq;cases x with
 |aF=>
  cases rx;have e':k=false:=e;subst e';exact truthy_none ⟨H,I,q⟩
 |bl b=>
  cases rx;have e':k=b:=e;subst e';exact wpAny_truthy_bool ⟨H,I,q⟩
 |int i=>
  obtain⟨t,rfl⟩:=rx;have e':k=(i != 0):=e;subst e';exact PySem.P.truthy_int ⟨H,I,q⟩
 |str y=>
  obtain⟨t,rfl⟩:=rx;obtain⟨hy,e'⟩:y.length<=sizeLine/\k=((y.length:Int) != 0):=e;subst e';exact PySem.P.truthy_str (by lia) ⟨H,I.tok _,q⟩
 |wy y=>
  obtain⟨t,rfl⟩:=rx;obtain⟨hy,e'⟩:y.size<=sizeLine/\k=((y.size:Int) != 0):=e;subst e';exact PySem.W.truthy_bytes (by lia) ⟨H,I.tok _,q⟩
 |ref p=>
  cases rx;have e':(∃xs,cC X.K H p xs/\k = !xs.isEmpty)\/(∃xs,gA X.K H p xs/\k = !xs.isEmpty)\/∃kvs,H p=some (.dK kvs)/\k = !kvs.isEmpty:=e;rcases e' with⟨xs,hx,e'⟩|⟨xs,hx,e'⟩|⟨kvs,hx,e'⟩
  .subst e';obtain⟨aE,r,pl,hz⟩:=I.list hx;have hlen:=r.length;exact wpAny_truthy_list pl.isList (by simp only[de];lia) ⟨H,I.tok _,by rw[M6 r];exact q⟩
  .subst e';obtain⟨aE,r,pl,hz⟩:=I.tuple hx;have hlen:=r.length;exact truthy_tuple pl (by simp only[de];lia) ⟨H,I.tok _,by rw[M6 r];exact q⟩
  .subst e';obtain⟨hz,hS,vs,r,m⟩:kvs.length<=sizeLine/\(p == sysModules)=false/\∃vs,KV kvs vs/\s.heap.DictOf (IX X.prog X.w) p vs:=I.bh p _ hx;have hlen:kvs.length=vs.length:=Paired.length r;exact wpAny_truthy_dict hS m (by lia) ⟨H,I.tok _,by rw[Tr r];exact q⟩
 |_=>exact(show False from e).elim
def Vy(ha:PE X a ta)(he:∀whole,isTrue a X.env whole=(do let v <-whole;standAt a.pos;holding [v] (truthy v))):
  PT X a (λZ H Q=>ta Z H λx H'=>∃k,yh X.K x H' k/\Q k H'):=by
 intro aa s Z H Q I h;exact isTrue_plain (bB (ha aa s Z H _ I h) λv s1 ⟨x,H1,I1,r1,q1⟩=>χ aa s1 Z H1 x v Q I1 r1 q1) (he _)
def pU:dw X (binaryOp .Add) (λx y H Q=>∃i j,x=.str i/\y=.str j/\i.length+j.length<=sizeLine/\Q (.str (i++j)) H):=by
 intro aa s Z H x y v u Q I rx ry h;obtain⟨i,j,rfl,rfl,hz,q⟩:=h;obtain⟨t,rfl⟩:=rx;obtain⟨t',rfl⟩:=ry;exact add_str (λt' tk=>⟨.str (i++j),H,I.tok _,⟨_,rfl⟩,q⟩) hz
def vals1(r:Vals [x] us):∃u,us=[u]/\RelV x u:=by
 cases r with
 |cons r1 r2=>cases r2;exact⟨_,rfl,r1⟩
def vals2{y:V}(r:Vals [x,y] us):∃u w',us=[u,w']/\RelV x u/\RelV y w':=by
 cases r with
 |cons r1 r2=>
  cases r2 with
  |cons r3 r4=>cases r4;exact⟨_,_,rfl,r1,r3⟩
def Uk:bI X (.type "int") (λxs H Q=>(∃i,xs=[.int i]/\Q (.int i) H)\/∃k,xs=[.bl k]/\Q (.int (if k then 1 else 0)) H):=by
 intro aa s Z H xs us Q I r h;rcases h with⟨i,rfl,q⟩|⟨k,rfl,q⟩
 .obtain⟨u,rfl,t,rfl⟩:=vals1 r;exact call_int_int ⟨.int i,H,I,⟨_,rfl⟩,q⟩
 .obtain⟨u,rfl,r1⟩:=vals1 r;cases r1;exact call_int_bool ⟨.int (if k then 1 else 0),H,I.tok _,⟨_,rfl⟩,q⟩
end
variable{h:bJ}{dx C:ag}{mA:Str->aj ai}{Q:ai->aq->Prop}{v:V}{o:aj ai}{u:ai}{K:PySem.W.Frag}{f:Str}
structure pH (h:bJ) (x dx C:ag) (mA:Str->aj ai):Prop where
 obj:h.get? x=some (PySem.W.instObj C dx)
 ns:h.Ns1 dx mA
 ne:dx≠x
def Ul(n:h.Ns1 dx mA):∃od,h.get? dx=some od/\∀name,PySem.W.lookIn name od=some (mA name):=by
 obtain⟨o,es,ep,ho,hd,hk,_,hm⟩:=n;refine⟨o,ho,λname=>?_⟩
 have e:=hm name;unfold nsFind findBy at e;rw[<-Array.find?_toList] at e;unfold PySem.W.lookIn;rw[hd];dsimp only;split
 .rename_i y q
  rw[q] at e;exact congrArg some e
 .rename_i q
  rw[q] at e;have a:es.toList.any (·.refKey)=false:=by
   rw[List.any_eq_false];intro y hy;obtain⟨z,t,Km⟩:=hk y (L8.mp hy);simp[DictEntry.refKey,Km]
  have a':¬es.toList.any (·.refKey)=true:=by rw[a];exact oW
  rw[aJ a'];exact congrArg some e
def pH.look{x:ag}(I:pH h x dx C mA):∃od,PySem.W.InstAt h x (PySem.W.instObj C dx) C (some od)/\∀name,PySem.W.lookIn name od=some (mA name):=
 let ⟨od,ho,hl⟩:=Ul I.ns
 ⟨od,⟨I.obj,rfl,rfl,ho⟩,hl⟩
section
variable{prog:cS}{w:ck}{A:cF}{E:ai->aq->Prop}{s:aq}{K:PySem.W.Frag}{x dx C f:ag}{mA:Str->aj ai}{name:Str}{v:ai}
def XS{expr:Bool}(X:K.In s.heap)(I:pH s.heap x dx C mA)(hg:PySem.W.plainGet K C name=true)(hh:PySem.W.hasDictIn K C=true)
  (ha:PySem.W.findIn K (.ref C) name=some none) (hv:mA name=some v) (Ky:PySem.W.handedIn v=true) (h:Q v { s with toks:=s.toks+1}) :
  wpAny (model prog w) A (getAttr (.ref x) name expr) Q E s:=by
 obtain⟨od,J,hl⟩:=I.look;exact PySem.W.get_value X J (PySem.W.plainGet_of hg).1 (PySem.W.findObj_own hh ha rfl (by rw[hl,hv])) Ky h
def Vz{pl:Sem Bool}{Q:ai×List ai->aq->Prop}(X:K.In s.heap)(I:pH s.heap x dx C mA)(hg:PySem.W.plainGet K C name=true)
  (hf:PySem.W.findIn K (.ref C) name=some (some (.ref f))) (ht:PySem.W.isFn K (.ref f)=true) (hv:mA name=none) (h:Q (.ref f,[.ref x]) s) :
  wpAny (model prog w) A (getMethod (.ref x) name pl) Q E s:=by
 obtain⟨od,J,hl⟩:=I.look;exact PySem.W.method_fn X J (PySem.W.plainGet_of hg).1 (PySem.W.plainGet_of hg).2 hf (beq_iff_eq.mp ht) (by show(PySem.W.lookIn name od).map (·.isSome)=some false;rw[hl,hv];rfl) h
def XT{ns:List Str}{Q:Unit->aq->Prop}(X:K.In s.heap)(I:pH s.heap x dx C mA)
  (hs:PySem.W.findIn K (.ref C) "__setattr__"=some (some (.builtin "object.__setattr__"))) (hp:PySem.W.plainOver K C=true) (ht:PySem.W.takerIn K C name=some none) (hh:PySem.W.hasDictIn K C=true)
  (hw:PySem.Within mA ns) (hsz:ns.length<=sizeLine)
  (h:∀h',pH h' x dx C (λy=>if y=name then some v else mA y)->Heap.SameBut dx s.heap h'->Q () { s with heap:=h',toks:=s.toks+2}) :
  wpAny (model prog w) A (setAttr (.ref x) name v) Q E s:=by
 obtain⟨od,J,hl⟩:=I.look;refine PySem.W.set_plain X J hs (PySem.W.osa_open (s:={ s with toks:=s.toks+1}) (r:=none) X J hp ht λb=>?_)
 obtain⟨cd,hc,Rm⟩:=PySem.W.any_some hh;have hx:s.heap.get? x=some ⟨.ref C,some dx,.plain,#[]⟩:=I.obj;refine ay (aS (ay (ay (wpAny_loadPart hx (ay (PySem.W.Looks.here (s:={ s with toks:=s.toks+1}) (PySem.W.looks_clsIn X hc) ?_))))));rw[Rm];refine aS (a:=some dx) (ay (aS (ay ?_)));refine wpAny_nsSet1 (s:={ s with toks:=s.toks+1}) I.ns λh' zq zw=>?_
 obtain⟨oD,esD,epD,Kr,Kg,hcD⟩:=zq.count (PySem.Within.cons name v hw);refine ay (wpAny_lookBehind Kr (by rw[Kg];exact pastItsLine_dict (jo hcD (by rw[jr];lia))) ?_)
 exact aS (h _ ⟨(zw.2 _ (Ne.symm I.ne)).trans I.obj,zq,I.ne⟩ zw)
def VA{R:Result->aq->Prop}{vs:List ai}{kw:List (Str×ai)}(X:K.In s.heap)(hm:PySem.W.makesIn K C=true)
  (hi:PySem.W.findIn K (.ref C) "__init__"=some (some (.ref f))) (hf:PySem.W.typeIn K (.ref f)=some (.type "function"))
  (h:codeAny (model prog w) (A.under (.builtin "type.__call__" ⟨.ref C::vs,kw⟩)) (.call (.ref f) ⟨.ref (s.heap.objs.size+1)::vs,kw⟩) (PySem.W.InitBack (s.heap.objs.size+1) R) {s with heap:=(s.heap.push PySem.W.emptyDict).push (PySem.W.instObj C s.heap.objs.size)}) :
  codeAny (model prog w) A (.call (.ref C) ⟨vs,kw⟩) R s:=by
 obtain⟨hh,g,d,t,os⟩:=s;exact PySem.W.make_core (PySem.W.makes_of X hm) (PySem.W.looks_findIn X hi) (λself=>PySem.W.bind_fn X self hf) (.inl rfl) h
end
noncomputable def dm(f:Str)(v:V):List (Str×V)->List (Str×V)
 |[]=>[(f,v)]
 |(g,x)::r=>if g=f then(g,v)::r else(g,x)::dm f v r
theorem MS(f g:Str)(v:V):∀fs:List (Str×V),(dm f v fs).lookup g=if g=f then some v else fs.lookup g
 |[]=>by
  show List.lookup g [(f,v)]=_;by_cases h:g=f
  .have hb:(g == f)=true:=beq_iff_eq.mpr h;simp only[List.lookup,hb,aN h]
  .have hb:(g == f)=false:=nc.mpr h;simp only[List.lookup,hb,aJ h]
 |(k,x)::r=>by
  have ih:=MS f g v r;rw[show dm f v ((k,x)::r)=(if k=f then(k,v)::r else(k,x)::dm f v r) from rfl]
  by_cases hk:k=f
  .rw[aN hk];by_cases h:g=k
   .have hb:(g == k)=true:=beq_iff_eq.mpr h;simp only[List.lookup,hb,aN (h.trans hk)]
   .have hb:(g == k)=false:=nc.mpr h;simp only[List.lookup,hb,aJ (λe:g=f=>h (e.trans hk.symm))]
  .rw[aJ hk];by_cases h:g=k
   .have hb:(g == k)=true:=beq_iff_eq.mpr h;simp only[List.lookup,hb,aJ (λe:g=f=>hk (h.symm.trans e))]
   .have hb:(g == k)=false:=nc.mpr h;simp only[List.lookup,hb];exact ih
theorem Ir(f:Str)(v:V):∀fs:List (Str×V),f∈(dm f v fs).map (·.1)/\∀g,g∈fs.map (·.1)->g∈(dm f v fs).map (·.1)
 |[]=>⟨by simp[dm],λg h=>by simp at h⟩
 |(k,x)::r=>by
  obtain⟨i1,i2⟩:=Ir f v r;rw[show dm f v ((k,x)::r)=(if k=f then(k,v)::r else(k,x)::dm f v r) from rfl]
  by_cases hk:k=f
  .rw[aN hk];subst hk;exact⟨by simp,λg h=>by simpa using h⟩
  .rw[aJ hk];refine⟨?_,λg h=>?_⟩
   .rw[bY];exact pZ _ i1
   .rw[bY] at h ⊢;rcases y07.mp h with e|e
    .exact y07.mpr (.inl e)
    .exact pZ _ (i2 g e)
theorem MT(f:Str)(v:V):∀fs:List (Str×V),(dm f v fs).length<=fs.length+1
 |[]=>by simp[dm]
 |(k,x)::r=>by
  have ih:=MT f v r;rw[show dm f v ((k,x)::r)=(if k=f then(k,v)::r else(k,x)::dm f v r) from rfl]
  by_cases hk:k=f
  .rw[aN hk,jr,jr];lia
  .rw[aJ hk,jr,jr];lia
def hV.some_of(r:hV (some v) o):∃u,o=some u/\RelV v u:=by
 cases o with
 |none=>exact(show False from r).elim
 |some u=>exact⟨u,rfl,r⟩
def hV.none_of(r:hV none o):o=none:=by
 cases o with
 |none=>rfl
 |some u=>exact(show False from r).elim
def Um(r:RelV v u):PySem.W.handedIn u=true:=by
 cases v with
 |aF=>cases(show u=Value.none from r);rfl
 |bl b=>cases(show u=Value.bool b from r);rfl
 |int i=>obtain⟨t,e⟩:=(show ∃t,u=Value.int i t from r);cases e;rfl
 |str x=>obtain⟨t,e⟩:=(show ∃t,u=Value.str x t from r);cases e;rfl
 |wy b=>obtain⟨t,e⟩:=(show ∃t,u=Value.bytes b t from r);cases e;rfl
 |wN b=>obtain⟨t,e⟩:=(show ∃t,u=Value.float b t from r);cases e;rfl
 |ref a=>cases(show u=Value.ref a from r);rfl
 |ty n=>cases(show u=Value.type n from r);rfl
section
variable{P:cS}{w:ck}{H H':Hp}{h h':bJ}{a C dx:ag}{fs A_:List (Str×V)}
def IY(bh:iO P w H h)(e:H a=some (.ins C dx fs)):∃mA,pH h a dx C mA/\(∀f,hV (fs.lookup f) (mA f))/\PySem.Within mA (fs.map (·.1))/\fs.length<=1000/\H dx=some (.own a):=by
 obtain⟨d,z,ne,ob,mA,n,r,q⟩:=(show bq P w H h a (.ins C dx fs) from bh a _ e);exact⟨mA,⟨ob,n,ne⟩,r,q,z,d⟩
end
structure pz (K:PySem.W.Frag) (C:ag):Prop where
 pg:PySem.W.plainGet K C Str.empty=true
 hd:PySem.W.hasDictIn K C=true
 po:PySem.W.plainOver K C=true
 sa:PySem.W.findIn K (.ref C) "__setattr__"=some (some (.builtin "object.__setattr__"))
def pz.get(c:pz K C)(f:Str):PySem.W.plainGet K C f=true:=c.pg
def fA(K:PySem.W.Frag)(C:ag)(f:Str):Prop:=PySem.W.findIn K (.ref C) f=some none
def fA.Ec(n:fA K C f):PySem.W.takerIn K C f=some none:=by
 unfold PySem.W.takerIn;rw[show PySem.W.findIn K (.ref C) f=some none from n];rfl
structure Con (K:PySem.W.Frag) (C:ag) (f:Str) (v:V) (u:ai):Prop where
 at_:PySem.W.findIn K (.ref C) f=some (some u)
 rel:RelV v u
 get:PySem.W.specialIn K u "__get__"=some none
 cp:PySem.W.copiedNames.contains f=false
structure Meth (K:PySem.W.Frag) (C:ag) (m:Str) (f:ag):Prop where
 at_:PySem.W.findIn K (.ref C) m=some (some (.ref f))
 fn:PySem.W.isFn K (.ref f)=true
 kp:PySem.W.keepIn K (.ref f)=true
section
variable{X:Cx}{aa:List (ag×Obj)}{Z:St}{H:Hp}{s:aq}{a C dx:ag}{fs:List (Str×V)}{f:Str}{v:V}{A:cF}{E:ai->aq->Prop}
def M7{b:Bool}(I:Inv X aa Z H s)(e:H a=some (.ins C dx fs))(c:pz X.K C)(n:fA X.K C f)(l:fs.lookup f=some v)
  (h:∀u s',Inv X aa Z H s'->RelV v u->Q u s'):wpAny (model X.prog X.w) A (getAttr (.ref a) f b) Q E s:=by
 obtain⟨mA,O,r,_,_,_⟩:=IY I.bh e;obtain⟨u,hu,ru⟩:=hV.some_of (v:=v) (o:=mA f) (by rw[<-l];exact r f)
 exact XS I.jL O (c.get f) c.hd n hu (Um ru) (h u _ (I.tok _) ru)
def M8{m:Str}{g:ag}{pl:Sem Bool}{Q:ai×List ai->aq->Prop}(I:Inv X aa Z H s)(e:H a=some (.ins C dx fs))(c:pz X.K C)(k:Meth X.K C m g)(l:fs.lookup m=none)
  (h:Q (.ref g,[.ref a]) s):wpAny (model X.prog X.w) A (getMethod (.ref a) m pl) Q E s:=by
 obtain⟨mA,O,r,_,_,_⟩:=IY I.bh e;have hn:mA m=none:=hV.none_of (by rw[<-l];exact r m)
 exact Vz I.jL O (c.get m) k.at_ k.fn hn h
def M9{y:V}{Q:Unit->aq->Prop}(I:Inv X aa Z H s)(e:H a=some (.ins C dx fs))(c:pz X.K C)(n:fA X.K C f)(hl:fs.length<1000)(ry:RelV y u)
  (h:∀s',Inv X aa Z (upd H a (.ins C dx (dm f y fs))) s'->Q () s'):wpAny (model X.prog X.w) A (setAttr (.ref a) f u) Q E s:=by
 obtain⟨mA,O,r,wi,_,ho⟩:=IY I.bh e;have hz:(fs.map (·.1)).length<=sizeLine:=by rw[aY,sizeLine_eq];lia
 refine XT I.jL O c.sa c.po n.Ec c.hd wi hz λh' O' sb=>h _ ?_
 have hd:∃o,h'.get? dx=some o:=let ⟨o,_,_,e',_⟩:=O'.ns;⟨o,e'⟩
 refine I.write (x:=a) (e:=dx) (by rw[e];exact ug) (.inr ho) (λb q hb z=>(sb.2 b hb).trans z) hd ?_
 refine⟨by rw[cP O.ne];exact ho,?_,O.ne,O'.obj,_,O'.ns,λg=>?_,λg hg=>?_⟩
 .have:=MT f y fs;lia
 .show hV ((dm f y fs).lookup g) (if g=f then some u else mA g)
  rw[MS];by_cases q:g=f
  .rw[aN q,aN q];exact ry
  .rw[aJ q,aJ q];exact r g
 .by_cases q:g=f
  .rw[q];exact(Ir f y fs).1
  .refine(Ir f y fs).2 g (wi g λz=>hg ?_)
   show(if g=f then some u else mA g)=none
   rw[aJ q];exact z
def Inv.made(I:Inv X aa Z H s):Inv X aa Z (upd (upd H s.heap.objs.size (.own (s.heap.objs.size+1))) (s.heap.objs.size+1) (.ins C s.heap.objs.size []))
  {s with heap:=(s.heap.push PySem.W.emptyDict).push (PySem.W.instObj C s.heap.objs.size)}:=by
 have e1:(s.heap.push PySem.W.emptyDict).get? s.heap.objs.size=some PySem.W.emptyDict:=jq s.heap rfl;have e2:((s.heap.push PySem.W.emptyDict).push (PySem.W.instObj C s.heap.objs.size)).get? (s.heap.objs.size+1)=some (PySem.W.instObj C s.heap.objs.size):=by
  have:=jq (s.heap.push PySem.W.emptyDict) (o:=PySem.W.instObj C s.heap.objs.size) rfl
  rwa[Heap.size_push] at this
 have e3:(s.heap.push PySem.W.emptyDict).Ns s.heap.objs.size (λ_=>none):=⟨PySem.W.emptyDict,#[],_,e1,rfl,(λe he=>bT he (by simp)),λ_=>rfl⟩
 have I1:=I.laid (a:=s.heap.objs.size) (o:=.own (s.heap.objs.size+1)) (h':=s.heap.push PySem.W.emptyDict) (t':=s.toks) (λb u q=>cO _ q) (bG _) ⟨_,e1⟩
 refine I1.laid (a:=s.heap.objs.size+1) (o:=.ins C s.heap.objs.size []) (t':=s.toks) (λb u q=>cO _ q) (Br (Heap.size_push _ _)) ?_
 have ne:s.heap.objs.size≠s.heap.objs.size+1:=gp (v3 _);refine⟨by rw[cP ne,aI],lD _,ne,e2,λ_=>none,(Heap.Ns1.of_empty e3).at λo q=>cO _ q,λ_=>ug,λy hy=>bT rfl hy⟩
def XU{prog:cS}{w:ck}{env:Env}{e:Expr}{pos:Pos}{s:aq}(hb:attributeBase e f env (eval e env)=eval e env)
  (h:wpAny (model prog w) A (eval e env) (λo s₁=>wpAny (model prog w) A (getAttr o f true) Q E s₁) E s):wpAny (model prog w) A (eval (.Attribute e f pos) env) Q E s:=
 Attribute_any_ h (by rw[arm_eval_Attribute,hb])
end
def LI(K:PySem.W.Frag)(ta:TE)(f:Str):TE:=λZ H Q=>ta Z H λx H1=>∃a C dx fs v,x=.ref a/\H1 a=some (.ins C dx fs)/\pz K C/\fA K C f/\fs.lookup f=some v/\Q v H1
def Lv(K:PySem.W.Frag)(ta tv:TE)(f:Str):TS:=λD Z H=>tv Z H λy H1=>ta Z H1 λx H2=>∃a C dx fs,x=.ref a/\H2 a=some (.ins C dx fs)/\pz K C/\fA K C f/\fs.length<1000/\
 D.nx Z (upd H2 a (.ins C dx (dm f y fs)))
def yd(X:Cx)(op:Operator)(rd:V->V->Hp->VK->Prop):Prop:=
 ∀(aa:List (ag×Obj)) (s:aq) (Z:St) (H:Hp) (x y:V) (u v:ai) (Q:VK),Inv X aa Z H s->RelV x u->RelV y v->rd x y H Q->wpAny (model X.prog X.w) X.A (inplaceOp op u v) (EP X aa Z Q) X.xe s
def XX(K:PySem.W.Frag)(ta tv:TE)(rd:V->V->Hp->VK->Prop)(f:Str):TS:=λD Z H=>ta Z H λx H1=>∃a C dx fs v,x=.ref a/\H1 a=some (.ins C dx fs)/\pz K C/\fA K C f/\fs.lookup f=some v/\
 tv Z H1 λy H2=>rd v y H2 λz H3=>∃JN A_,H3 a=some (.ins C JN A_)/\A_.length<1000/\D.nx Z (upd H3 a (.ins C JN (dm f z A_)))
section
variable{X:Cx}{o e value:Expr}{f:Str}{pos pos' eY:Pos}{ta tv:TE}
def ψ(he:PE X e ta)(hb:attributeBase e f X.env (eval e X.env)=eval e X.env):PE X (.Attribute e f pos) (LI X.K ta f):=by
 intro aa s Z H Q I h;refine XU hb (bB (he aa s Z H _ I h) λu s1 hh=>?_)
 obtain⟨x,H1,I1,rx,a,C,dx,fs,v,ex,ea,c,n,l,q⟩:=hh;subst ex;obtain rfl:u=Value.ref a:=rx;exact M7 I1 ea c n l λu' s2 I2 ru=>⟨v,H1,I2,ru,q⟩
def ω(ha:PE X o ta)(hv:PE X value tv)(hs:swapsWith value (some (.Attribute o f pos')) pos.line X.env=pure false):PS X (.Assign [.Attribute o f pos'] value pos) (Lv X.K ta tv f):=by
 intro aa s Z H D I h;refine plainObj_wpAny_Assign_Attribute (bB (hv aa s Z H _ I h) λu s1 ⟨y,H1,I1,ry,q⟩=>bB (ha aa s1 Z H1 _ I1 q) λov s2 ⟨x,H2,I2,rx,a,C,dx,fs,ex,ea,c,n,l,q2⟩=>?_) hs
 subst ex;obtain rfl:ov=Value.ref a:=rx;exact M9 I2 ea c n l ry λs3 I3=>⟨Z,_,I3,q2⟩
def Uo{op:Operator}{rd:V->V->Hp->VK->Prop}(ha:PE X o ta)(hv:PE X value tv)(zv:yd X op rd):PS X (.AugAssign (.Attribute o f eY) op value pos) (XX X.K ta tv rd f):=by
 intro aa s Z H D I h;refine wpAny_AugAssign_AttributeAny (bB (ha aa s Z H _ I h) λov s1 hh=>?_)
 obtain⟨x,H1,I1,rx,a,C,dx,fs,v,ex,ea,c,n,l,q⟩:=hh;subst ex;obtain rfl:ov=Value.ref a:=rx;refine M7 I1 ea c n l λu s2 I2 ru=>bB (hv aa s2 Z H1 _ I2 q) λw3 s3 ⟨y,H2,I3,ry,q3⟩=>bB (zv aa s3 Z H2 v y u w3 _ I3 ru ry q3) λw4 s4 ⟨z,H3,I4,rz,JN,A_,ea',l',q4⟩=>?_
 exact M9 I4 ea' c n l' rz λs5 I5=>⟨Z,_,I5,q4⟩
def Lo:V->V->Hp->VK->Prop:=λx y H Q=>∃i j,x=.int i/\y=.int j/\Q (.int (i+j)) H
def d9v:yd X .Add Lo:=by
 rintro aa s Z H x y u v Q I rx ry ⟨i,j,rfl,rfl,q⟩;obtain⟨t,rfl⟩:=(show ∃t,u=Value.int i t from rx);obtain⟨t',rfl⟩:=(show ∃t',v=Value.int j t' from ry);exact PyProof.Rows.iadd_int ⟨.int (i+j),H,I.tok _,⟨_,rfl⟩,q⟩
end
section
variable{X:Cx}{aa:List (ag×Obj)}{Z:St}{H:Hp}{s:aq}{A:cF}{E:ai->aq->Prop}{Q:ai->aq->Prop}{c:ai}{b:Bool}
inductive jX (K:PySem.W.Frag) (H:Hp):V->ai->Prop where
 |aF:jX K H .aF (.type "NoneType")
 |bl (x:Bool):jX K H (.bl x) (.type "bool")
 |int (i:Int):jX K H (.int i) (.type "int")
 |str (x:Str):jX K H (.str x) (.type "str")
 |wN (x:UInt64):jX K H (.wN x) (.type "float")
 |lst {a:ag} {xs:List V} (e:H a=some (.lst xs)):jX K H (.ref a) (.type "list")
 |Y {a:ag} {o:Obj} {xs:List V} (e:H a=some (.Y o (.lst xs))):jX K H (.ref a) (.type "list")
 |tup {a:ag} {xs:List V} (e:H a=some (.tup xs)):jX K H (.ref a) (.type "tuple")
 |dK {a:ag} {kvs:List (Key×V)} (e:H a=some (.dK kvs)):jX K H (.ref a) (.type "dict")
 |dT {a:ag} {kvs:List (List Key×V)} (e:H a=some (.dT kvs)):jX K H (.ref a) (.type "dict")
 |ins {a C dx:ag} {fs:List (Str×V)} (e:H a=some (.ins C dx fs)) (cl:pz K C) (ha:PySem.W.findIn K (.ref C) "__class__"=some (some (.builtin "object.__class__")))
   (hn:PySem.W.specialIn K (.builtin "object.__class__") "__get__"=some (some (.builtin "getset_descriptor.__get__"))) (htk:PySem.W.takesIn K (.builtin "object.__class__")=some true)
   (hm:PySem.W.mroIn K C (.type "object")=some true):jX K H (.ref a) (.ref C)
end
variable{k:Nat}{A:cF}{C f:ag}{us:List ai}{kw:List (Str×ai)}{P:cS}{w:ck}{K:PySem.W.Frag}{mg:Str->aj ai}{base:bJ}{outer:List Env}{s:aq}{H:Hp}{Q:VK}{ps N:List Str}{aa:List (ag×Obj)}{Z:St}{vs:List V}{qual:Str}{scope:Scope}
structure bZ (k:Nat) (A:cF):Prop where
 hd:A.handled=none
 dp:A.depth+3*k+5<recursionLimit
 un:A.units+16*k+200<cLine
def bZ.mono{j:Nat}(r:bZ k A)(h:j<=k):bZ j A:=⟨r.hd,by have:=r.dp;lia,by have:=r.un;lia⟩
def bZ.deeper{k:Nat}{A:cF}(r:bZ (k+1) A)(env:Env):bZ k (A.deeper env):=
 ⟨r.hd,by have:=r.dp;show A.depth+1+3*k+5<_;lia,by have:=r.un;show A.units+3+16*k+200<_;lia⟩
def Ts:(A.under (.builtin "type.__call__" ⟨.ref C::us,kw⟩)).depth=A.depth+1:=by
 rfl
def Tw:(A.under (.builtin "type.__call__" ⟨.ref C::us,kw⟩)).units=A.units+1:=by
 rfl
def bZ.make(r:bZ (k+1) A)(C:ag)(us:List ai)(kw:List (Str×ai)):bZ k (A.under (.builtin "type.__call__" ⟨.ref C::us,kw⟩)):=
 ⟨r.hd,by have:=r.dp;rw[Ts];lia,by have:=r.un;rw[Tw];lia⟩
def bZ.depth{k:Nat}{A:cF}(r:bZ k A):A.depth<recursionLimit:=by have:=r.dp;lia
def bZ.units{k:Nat}{A:cF}(r:bZ k A):A.units+64<cLine:=by have:=r.un;lia
def vL:TA:=λ_ H Q=>Q [] H
def t9(ta:TE)(tr:TA):TA:=λZ H Q=>ta Z H λx H1=>tr Z H1 λxs H2=>Q (x::xs) H2
section
variable{X:Cx}{e:Expr}{es:List Expr}{te:TE}{t:TA}{pos:Pos}
def mW:PA X [] vL:=λ_ _ _ _ H Q I h=>Calls.spliced_nil ⟨[],H,I,.nil,h⟩
def Fx(ha:PE X e te)(hr:PA X es t)(hs:starEach (e::es) X.env=(false,eval e X.env)::starEach es X.env:=by rfl):PA X (e::es) (t9 te t):=by
 intro pos aa s Z H Q I h;rw[hs];show wpAny _ _ (spliced ((false,eval e X.env)::backTo pos (starEach es X.env))) _ _ s;refine Calls.spliced_cons (bB (ha aa s Z H _ I h) λu s1 hh=>?_)
 obtain⟨x,H1,I1,r1,q1⟩:=hh;exact bB (hr pos aa s1 Z H1 _ I1 q1) λus s2 ⟨xs,H2,I2,r2,q2⟩=>⟨x::xs,H2,I2,.cons r1 r2,q2⟩
def LP(t:TA):TE:=λZ H Q=>t Z H λxs H1=>xs.length<=sizeLine/\∀p,H1 p=none->Q (.ref p) (upd H1 p (.tup xs))
def LL(t:TA):TE:=λZ H Q=>t Z H λxs H1=>xs.length<=sizeLine/\∀p,H1 p=none->Q (.ref p) (upd H1 p (.lst xs))
def d9w{x1}(h:PA X es t):PE X (.Tuple es x1 pos) (LP t):=by
 intro aa s Z H Q I hq;refine wpAny_Tuple_spliced (bB (h pos aa s Z H _ I hq) λus s1 ⟨xs,H1,I1,r,z,q⟩=>⟨by rw[<-r.length];exact z,?_⟩)
 have hf:H1 s1.heap.objs.size=none:=I1.bh.fresh (bG _);refine⟨.ref s1.heap.objs.size,upd H1 s1.heap.objs.size (.tup xs),I1.laid (t':=s1.toks) (λb u e=>cO _ e) (bG _) ?_,rfl,q _ hf⟩
 exact⟨z,us,r,⟨_,jq _ rfl,rfl,_,rfl⟩⟩
def d9x(h:PA X es t):PE X (.List es pos) (LL t):=by
 intro aa s Z H Q I hq;refine wpAny_List_spliced (bB (h pos aa s Z H _ I hq) λus s1 ⟨xs,H1,I1,r,z,q⟩=>⟨by rw[<-r.length];exact z,?_⟩)
 have hf:H1 s1.heap.objs.size=none:=I1.bh.fresh (bG _);refine⟨.ref s1.heap.objs.size,upd H1 s1.heap.objs.size (.lst xs),I1.laid (t':=s1.toks) (λb u e=>cO _ e) (bG _) ?_,rfl,q _ hf⟩
 exact⟨z,us,0,r,jq _ rfl⟩
end
abbrev Sp:=List V->Hp->VK->XK->Prop
abbrev ui:=List Env->Hp->aq->XK->ai->aq->Prop
variable{CX:ui}
structure pA (P:cS) (w:ck) (K:PySem.W.Frag) (mg:Str->aj ai) (base:bJ) (A:cF) (outer:List Env) (s:aq) (H:Hp):Prop where
 frames:A.frames=some outer
 mod:Mod K mg base
 bs:∀b o,base.get? b=some o->s.heap.get? b=some o/\H b=none
 sH:base.objs.size<=s.heap.objs.size
 iB:s.heap.FunFrames base outer
 vi:∀b∈kh outer,H b=none
 bh:iO P w H s.heap
 bare:AllBare s.gens
def CE(outer:List Env)(P:cS)(w:ck)(H:Hp)(s:aq)(Q:VK)(u:ai)(s':aq):Prop:=
 ∃v H',s'.os=s.os/\AllBare s'.gens/\Un (kh outer) [] H H' s.heap s'.heap/\iO P w H' s'.heap/\RelV v u/\Q v H'
def CR(CX:ui)(outer:List Env)(P:cS)(w:ck)(H:Hp)(s:aq)(Q:VK)(E:XK)(r:Result)(s':aq):Prop:=
 match r with
 |.ok (.ret u)=>CE outer P w H s Q u s'
 |.ok _=>False
 |.error e=>CX outer H s E e s'
structure dk (P:cS) (w:ck) (K:PySem.W.Frag) (mg:Str->aj ai) (base:bJ) (CX:ui) (k:Nat) (f:ag) (fd:bR) (ps:List Str) (sp:Sp):Prop where
 len:∀vs H Q E,sp vs H Q E->vs.length=ps.length
 run:∀(A:cF) (outer:List Env) (s:aq) (H:Hp) (args:Args) (us:List ai) (vs:List V) (Q:VK) (E:XK),bZ k A->pA P w K mg base A outer s H->BindsTo s fd args (ps.zip us)->Vals vs us->sp vs H Q E->
  codeAny (model P w) A (.call (.ref f) args) (CR CX outer P w H s Q E) s
def pA.make(e:pA P w K mg base A outer s H)(C:ag)(us:List ai)(kw:List (Str×ai)):
  pA P w K mg base (A.under (.builtin "type.__call__" ⟨.ref C::us,kw⟩)) outer s H:=⟨by first|exact e.frames|(simpa[Around.under,Code.envs,Code.isFrame,pushEnvs] using e.frames),e.mod,e.bs,e.sH,e.iB,e.vi,e.bh,e.bare⟩
section
variable{X:Cx}{aa:List (ag×Obj)}{Z:St}{H:Hp}{s s':aq}
def Inv.CW(I:Inv X aa Z H s):pA X.prog X.w X.K X.mg X.base X.A X.stack s H:=
 ⟨I.ok.frames,I.ok.mod,I.bs,jo I.ok.sH I.sz,I.stack,I.jP,I.bh,I.bare⟩
def Inv.after{u:ai}(I:Inv X aa Z H s)(h:CE X.stack X.prog X.w H s Q u s'):EP X aa Z Q u s':=by
 obtain⟨v,H',os,bare,un,bh,r,q⟩:=h;obtain⟨hh,g,d,t,os'⟩:=s';obtain rfl:os'=s.os:=os;exact⟨v,H',I.call (h':=hh) (g':=g) (d':=d) (t':=t) (ch:=[]) un bh bare (λb z=>bT z (by simp)),r,q⟩
end
def D9(sp:Sp)(lh:List V)(E:St->XK)(t:TA):TE:=λZ H Q=>t Z H λvs H1=>sp (vs++lh) H1 Q (E Z)
def t_(C:ag)(m:Str)(sp:Sp)(lh:List V)(E:St->XK)(ta:TE)(t:TA):TE:=λZ H Q=>ta Z H λx H1=>∃a dx fs,x=.ref a/\H1 a=some (.ins C dx fs)/\fs.lookup m=none/\
 t Z H1 λvs H2=>sp (x::(vs++lh)) H2 Q (E Z)
def xP(C:ag)(sp:Sp)(lh:List V)(E:St->XK)(t:TA):TE:=λZ H Q=>t Z H λvs H1=>∀x dx,H1 x=none->H1 dx=none->dx≠x->
 sp (.ref x::(vs++lh)) (upd (upd H1 dx (.own x)) x (.ins C dx [])) (λv H2=>v=.aF/\Q (.ref x) H2) (E Z)
def Binds(K:PySem.W.Frag)(fd:bR)(ps:List Str)(ds:List ai):Prop:=
 ∀(s:aq) (us:List ai),K.In s.heap->(us++ds).length=ps.length->BindsTo s fd ⟨us,[]⟩ (ps.zip (us++ds))
def Binds.all{fd:bR}(h:∀us:List ai,us.length=ps.length->bindArgs fd ⟨us,[]⟩=pure (ps.zip us)):Binds K fd ps []:=λs us _ hl=>by
 rw[l9] at hl ⊢;exact .of_eq (h us hl)
def yG(CX:ui)(X:Cx)(E:St->XK):Prop:=∀(aa:List (ag×Obj)) (Z:St) (H:Hp) (s:aq) (e:ai) (s':aq),Inv X aa Z H s->CX X.stack H s (E Z) e s'->X.xe e s'
section
variable{X:Cx}{CX:ui}{k:Nat}{f C:ag}{fd:bR}{ps:List Str}{sp:Sp}{lh:List V}{ds:List ai}{E:St->XK}{x m:Str}{p pos apos:Pos}{e o:Expr}{es:List Expr}{ta:TE}{t:TA}
def Jo(F:dk X.prog X.w X.K X.mg X.base CX k f fd ps sp)(hr:bZ k X.A)(hb:Binds X.K fd ps ds)(hd:Vals lh ds)(hx:yG CX X E)
  (I:Inv X aa Z H s) (r:Vals vs us) (h:sp (vs++lh) H Q (E Z)):wpAny (model X.prog X.w) X.A (call (.ref f) us) (EP X aa Z Q) X.xe s:=by
 have r2:Vals (vs++lh) (us++ds):=r.append hd;have hl:(us++ds).length=ps.length:=by rw[<-r2.length];exact F.len _ _ _ _ h
 refine wpAny_call (codeAny_mono (F.run X.A X.stack s H ⟨us,[]⟩ (us++ds) (vs++lh) Q (E Z) hr I.CW (hb s us I.jL hl) r2 h) λr s' hq=>?_)
 cases r with
 |error e=>exact hx aa Z H s e s' I hq
 |ok fl=>
  cases fl with
  |ret u=>exact I.after hq
  |next=>exact False.elim hq
  |brk=>exact False.elim hq
  |cont=>exact False.elim hq
def XY(F:dk X.prog X.w X.K X.mg X.base CX k f fd ps sp)(hr:bZ k X.A)(hg:Gl X x)(hm:X.mg x=some (.ref f))(hk:PySem.W.keepIn X.K (.ref f)=true)(hb:Binds X.K fd ps ds)(hd:Vals lh ds)(hx:yG CX X E)
  (ha:PA X (e::es) t) (lq:(x == ("__debug__":Str))=false:=by decide) (he:starEach (e::es) X.env=(false,eval e X.env)::starEach es X.env:=by rfl) (jK:(backTo pos (starEach es X.env)).any (·.1)=false:=by rfl) :
  PE X (.Call (.Name x p) (e::es) [] pos) (D9 sp lh E t):=by
 intro aa s Z H Q I h;refine wpAny_Call_Name_kw (AO I hg hm ?_ lq);refine PySem.W.callWith_K (h₀:=X.base) I.ok.mod.Bg hk (bB (ha pos aa s Z H _ I h) λus s1 ⟨vs,H1,I1,r,q⟩=>⟨I1.jL,?_⟩) he jK
 exact Jo F hr hb hd hx I1 r q
def XZ{pl:Sem Bool}(he:PE X o ta)(c:pz X.K C)(hm:Meth X.K C m f)(F:dk X.prog X.w X.K X.mg X.base CX k f fd ps sp)(hr:bZ k X.A)(hb:Binds X.K fd ps ds)(hd:Vals lh ds)(hx:yG CX X E)(ha:PA X (e::es) t)
  (lr:starEach (e::es) X.env=(false,eval e X.env)::starEach es X.env:=by rfl) (jK:(backTo pos (starEach es X.env)).any (·.1)=false:=by rfl)
  (ht:eval (.Call (.Attribute o m apos) (e::es) [] pos) X.env=(do
   let ov <-eval o X.env
   standAt apos.atName
   let (f,first) <-holding [ov] (getMethod ov m pl)
   callWith pos f first (backTo pos (starEach (e::es) X.env)) (backToKw pos (keywordEach [] X.env))):=by rfl) :
  PE X (.Call (.Attribute o m apos) (e::es) [] pos) (t_ C m sp lh E ta t):=by
 intro aa s Z H Q I h;refine PySem.W.methodCall_KW (pl:=pl) (bB (he aa s Z H _ I h) λu s1 hh=>?_) ht
 obtain⟨x,H1,I1,rx,a,dx,fs,ex,ea,l,q⟩:=hh;subst ex;obtain rfl:u=Value.ref a:=rx;refine M8 I1 ea c hm l ?_;refine PySem.W.callWith_K (first:=[.ref a]) (h₀:=X.base) I.ok.mod.Bg hm.kp (bB (ha pos aa s1 Z H1 _ I1 q) λus s2 ⟨vs,H2,I2,r,q2⟩=>⟨I2.jL,?_⟩) lr jK
 exact Jo (us:=.ref a::us) (vs:=.ref a::vs) F hr hb hd hx I2 (.cons rfl r) q2
def VB{pl:Sem Bool}(he:PE X o ta)(c:pz X.K C)(hm:Meth X.K C m f)(F:dk X.prog X.w X.K X.mg X.base CX k f fd ps sp)(hr:bZ k X.A)(hb:Binds X.K fd ps ds)(hd:Vals lh ds)(hx:yG CX X E)
  (ht:eval (.Call (.Attribute o m apos) [] [] pos) X.env=(do
   let ov <-eval o X.env
   standAt apos.atName
   let (f,first) <-holding [ov] (getMethod ov m pl)
   callWith pos f first (backTo pos (starEach [] X.env)) (backToKw pos (keywordEach [] X.env))):=by rfl) :
  PE X (.Call (.Attribute o m apos) [] [] pos) (t_ C m sp lh E ta vL):=by
 intro aa s Z H Q I h;refine PySem.W.methodCall_KW (pl:=pl) (bB (he aa s Z H _ I h) λu s1 hh=>?_) ht
 obtain⟨x,H1,I1,rx,a,dx,fs,ex,ea,l,q⟩:=hh;subst ex;obtain rfl:u=Value.ref a:=rx;refine M8 I1 ea c hm l ?_;exact PySem.W.callWith_K0 (first:=[.ref a]) I1.jL hm.kp (Jo (us:=[.ref a]) (vs:=[.ref a]) F hr hb hd hx I1 (.cons rfl .nil) q)
structure Mk (K:PySem.W.Frag) (C f:ag):Prop where
 makes:PySem.W.makesIn K C=true
 init:PySem.W.findIn K (.ref C) "__init__"=some (some (.ref f))
 fn:PySem.W.isFn K (.ref f)=true
 kp:PySem.W.keepIn K (.ref C)=true
def VC(M:Mk X.K C f)(F:dk X.prog X.w X.K X.mg X.base CX k f fd ps sp)(hr:bZ (k+1) X.A)(hb:Binds X.K fd ps ds)(hd:Vals lh ds)
  (hx:yG CX X E) (I:Inv X aa Z H s) (r:Vals vs us)
  (h:∀x dx,H x=none->H dx=none->dx≠x->sp (.ref x::(vs++lh)) (upd (upd H dx (.own x)) x (.ins C dx [])) (λv H2=>v=.aF/\Q (.ref x) H2) (E Z)) :
  wpAny (model X.prog X.w) X.A (call (.ref C) us) (EP X aa Z Q) X.xe s:=by
 have hq:=h (s.heap.objs.size+1) s.heap.objs.size (I.bh.fresh (qD _)) (I.bh.fresh (bG _)) (gp (v3 _));have I2:=Inv.made (C:=C) I;have r2:Vals (V.ref (s.heap.objs.size+1)::(vs++lh)) (Value.ref (s.heap.objs.size+1)::(us++ds)):=.cons rfl (r.append hd);have hl:(Value.ref (s.heap.objs.size+1)::us++ds).length=ps.length:=by
  have e:=r2.length;rw[F.len _ _ _ _ hq] at e;exact e.symm
 refine wpAny_call (VA (f:=f) I.jL M.makes M.init (beq_iff_eq.mp M.fn) (codeAny_mono (F.run _ X.stack _ _ ⟨Value.ref (s.heap.objs.size+1)::us,[]⟩ (Value.ref (s.heap.objs.size+1)::(us++ds)) _ _ (E Z) (hr.make C us []) (I2.CW.make C us []) (hb _ (Value.ref (s.heap.objs.size+1)::us) I2.jL hl) r2 hq) λr s' Dq=>?_))
 cases r with
 |error e=>exact hx aa Z _ _ e s' I2 Dq
 |ok fl=>
  cases fl with
  |ret u=>
   obtain⟨v,H',I3,rv,ev,q3⟩:=I2.after Dq;subst ev;exact⟨rv,⟨V.ref (s.heap.objs.size+1),H',I3,rfl,q3⟩⟩
  |next=>exact False.elim Dq
  |brk=>exact False.elim Dq
  |cont=>exact False.elim Dq
def X0(M:Mk X.K C f)(F:dk X.prog X.w X.K X.mg X.base CX k f fd ps sp)(hr:bZ (k+1) X.A)(hg:Gl X x)(hm:X.mg x=some (.ref C))(hb:Binds X.K fd ps ds)(hd:Vals lh ds)(hx:yG CX X E)
  (ha:PA X (e::es) t) (lq:(x == ("__debug__":Str))=false:=by decide) (he:starEach (e::es) X.env=(false,eval e X.env)::starEach es X.env:=by rfl) (jK:(backTo pos (starEach es X.env)).any (·.1)=false:=by rfl) :
  PE X (.Call (.Name x p) (e::es) [] pos) (xP C sp lh E t):=by
 intro aa s Z H Q I h;refine wpAny_Call_Name_kw (AO I hg hm ?_ lq);refine PySem.W.callWith_K (h₀:=X.base) I.ok.mod.Bg M.kp (bB (ha pos aa s Z H _ I h) λus s1 ⟨vs,H1,I1,r,q⟩=>⟨I1.jL,?_⟩) he jK
 exact VC M F hr hb hd hx I1 r q
end
section
variable{X:Cx}{CX:ui}{k:Nat}{f C:ag}{fd:bR}{ps ks:List Str}{sp:Sp}{E:St->XK}{x m:Str}{p pos apos kpos:Pos}{e o:Expr}{es:List Expr}{kws:List Keyword}{te ta:TE}{t tk:TA}{nm:aj Str}
structure KBinds (K:PySem.W.Frag) (fd:bR) (ps ks:List Str) (g:List ai->List ai->List ai) (gV:List V->List V->List V):Prop where
 to:∀(s:aq) (us ws:List ai),K.In s.heap->(g us ws).length=ps.length->BindsTo s fd ⟨us,ks.zip ws⟩ (ps.zip (g us ws))
 rel:∀{vs:List V} {us:List ai} {zs:List V} {ws:List ai},Vals vs us->Vals zs ws->Vals (gV vs zs) (g us ws)
variable{g:List ai->List ai->List ai}{gV:List V->List V->List V}
end
structure g_ (N P:List Str) (sc:Scope):Prop where
 kind:sc.kind=.function
 co:sc.isCoroutine=false
 gen:sc.isGenerator=false
 nd:N.Nodup
 pre:N.take P.length=P
 par:∀x∈P,sc.names.lookup x=some .local \/ sc.names.lookup x=some .cell
 zG:∀y∈sc.names,y.2≠.free
theorem Nt{kindOf:Str->aj p5}{x:Str}:∀{binds:List (Str×ai)} {m:Str->aj ai},(∀v,(x,v)∉binds)->bindL kindOf binds m x=m x
 |[],_,_=>rfl
 |(n,v)::r,m,h=>by
  unfold bindL;rw[Nt λw hw=>h w (pZ _ hw)]
  split
  .have:x≠n:=by rintro rfl;exact h v rq
   simp[this]
  .rfl
theorem Nu{kindOf:Str->aj p5}{x:Str}:∀{binds:List (Str×ai)} {m:Str->aj ai},(∀v,(x,v)∉binds)->bindC kindOf binds m x=m x
 |[],_,_=>rfl
 |(n,v)::r,m,h=>by
  unfold bindC;rw[Nu λw hw=>h w (pZ _ hw)]
  split
  .rfl
  .have:x≠n:=by rintro rfl;exact h v rq
   simp[this]
theorem Nv{kindOf:Str->aj p5}{x:Str}{v:ai}:∀{P:List Str} {vs:List ai} {i:Nat} {m:Str->aj ai},P.Nodup->P[i]?=some x->vs[i]?=some v->kindOf x=some .local ->
  bindL kindOf (P.zip vs) m x=some v
 |[],_,_,_,_,h,_,_=>by simp at h
 |_::_,[],_,_,_,_,h,_=>by simp at h
 |p::P,w::vs,0,m,nd,h1,h2,hk=>by
  simp at h1 h2;subst h1;subst h2;show bindL kindOf ((p,w)::P.zip vs) m p=_;unfold bindL;rw[Nt λv hv=>(qE.mp nd).1 (List.of_mem_zip hv).1,aN hk]
  simp
 |p::P,w::vs,i+1,m,nd,h1,h2,hk=>by
  show bindL kindOf ((p,w)::P.zip vs) m x=_;unfold bindL;exact Nv (i:=i) (qE.mp nd).2 (by simpa using h1) (by simpa using h2) hk
theorem Nw{kindOf:Str->aj p5}{x:Str}{v:ai}:∀{P:List Str} {vs:List ai} {i:Nat} {m:Str->aj ai},P.Nodup->P[i]?=some x->vs[i]?=some v->kindOf x≠some .local ->
  bindC kindOf (P.zip vs) m x=some v
 |[],_,_,_,_,h,_,_=>by simp at h
 |_::_,[],_,_,_,_,h,_=>by simp at h
 |p::P,w::vs,0,m,nd,h1,h2,hk=>by
  simp at h1 h2;subst h1;subst h2;show bindC kindOf ((p,w)::P.zip vs) m p=_;unfold bindC;rw[Nu λv hv=>(qE.mp nd).1 (List.of_mem_zip hv).1,aJ hk]
  simp
 |p::P,w::vs,i+1,m,nd,h1,h2,hk=>by
  show bindC kindOf ((p,w)::P.zip vs) m x=_;unfold bindC;exact Nw (i:=i) (qE.mp nd).2 (by simpa using h1) (by simpa using h2) hk
noncomputable def start(N:List Str)(vs:List V):St:=vs.map some++List.replicate (N.length - vs.length) none
noncomputable def mF(CX:ui)(P:cS)(w:ck)(K:PySem.W.Frag)(mg:Str->aj ai)(base:bJ)(N:List Str)(qual:Str)(scope:Scope)(f:ag)(cd:ai)(A:cF)(outer:List Env)(s:aq)(H:Hp)(E:XK):Cx where
 prog:=P
 w:=w
 K:=K
 mg:=mg
 base:=base
 A:=A.deeper (envOfC qual scope s.heap.objs.size f cd)
 N:=N
 s₀:=s
 H₀:=H
 env:=envOfC qual scope s.heap.objs.size f cd
 outer:=outer
 stack:=envOfC qual scope s.heap.objs.size f cd::outer
 ex:=[]
 calm:=true
 fn:=λ_=>true
 pn:=[]
 xe:=λe s'=>wpAny (model P w) (A.deeper (envOfC qual scope s.heap.objs.size f cd)) (leaving (envOfC qual scope s.heap.objs.size f cd) e) (λ_ t7=>CX outer H s E e t7) (λe' t7=>CX outer H s E e' t7) s'
def N6{sc:Scope}{n:Nat}{x:Str}(h:sc.names.lookup x=some .cell):∃c,(cellsFrom n sc.names []).lookup x=some c:=by
 have q:=PySem.W.cellsFrom_some sc.names n [] (.inl h);exact Option.isSome_iff_exists.mp q
def Uq{cd:ai}{s1:aq}{E:XK}
  (S:g_ N ps scope) (hd:A.handled=none) (e0:pA P w K mg base A outer s H) (hl:vs.length=ps.length) (r:Vals vs us)
  (x:InCallC s s.heap.objs.size (bindL (envOfC qual scope s.heap.objs.size f cd).kindOf (ps.zip us) λ_=>none) (cellsFrom (s.heap.objs.size+1) scope.names []) (bindC (envOfC qual scope s.heap.objs.size f cd).kindOf (ps.zip us) λ_=>none) s1) :
  Inv (mF CX P w K mg base N qual scope f cd A outer s H E) [] (start N vs) H s1:=by
 have jK:ps.length<=N.length:=by have:=congrArg List.length S.pre;rw[Ac] at this;lia
 obtain⟨h1,tk,rfl,hk⟩:=x.done;have DH:∀b:ag,b∉(mF CX P w K mg base N qual scope f cd A outer s H E).ex:=λb z=>bT (show b∈([]:List ag) from z) (by simp)
 refine⟨⟨e0.mod,S.kind,rfl,rfl,bG _,λy z c h1 h2=>?_,λy hy=>?_,λy c _ h=>?_,λ_=>hd,Around.frames_deeper e0.frames,.inr ⟨rfl,rfl⟩,λb z=>bT z (DH b),e0.bs,e0.sH,λb _ _=>DH b,λb z=>bT z (DH b),e0.iB,e0.vi⟩,rfl,e0.bare,Un.kept hk,⟨_,x.toInCall.ns,λi y v h1 h2 h3=>?_⟩,λy c h=>⟨_,x.cell y c h⟩,e0.bh.fresh (bG _),λy c h=>?_,λp hp=>bT (show p∈([]:List (ag×Obj)) from hp) (by simp),e0.bh.kept hk,?_⟩
 .exact name_of_addr x.apart (PySem.mem_of_lookup h1) (PySem.mem_of_lookup h2)
 .have hy:scope.names.lookup y=some .cell\/scope.names.lookup y=some .free:=hy;rcases hy with hy|hy
  .exact N6 hy
  .exact bT rfl (S.zG _ (PySem.mem_of_lookup hy))
 .exact L7 (x.above y c (PySem.mem_of_lookup h))
 .have hi:i<vs.length:=by
   unfold start at h2;by_cases hi:i<vs.length
   .exact hi
   .rw[v5 (by simpa using hi)] at h2
    rw[L9] at h2;split at h2 <;> cases h2
  have ha:vs[i]?=some v:=by
   unfold start at h2;rw[xS (by simpa using hi),gq] at h2
   cases e:vs[i]? with
   |none=>rw[e] at h2;cases h2
   |some a=>rw[e] at h2;cases h2;rfl
  obtain⟨u,hu,rv⟩:=r.get ha;have hp:ps[i]?=some y:=by
   rw[<-S.pre,List.getElem?_take_of_lt (by lia)];exact h1
  have RP:ps.Nodup:=by rw[<-S.pre];exact S.nd.sublist (List.take_sublist _ _)
  refine⟨u,rv,?_⟩;rcases S.par y (uc hp) with k|k
  .exact .inl ⟨k,Nv RP hp hu k⟩
  .obtain⟨c,e⟩:=N6 (n:=s.heap.objs.size+1) k;refine .inr ⟨.inl k,c,e,?_⟩;have q:=x.cell y c e;rw[Nw RP hp hu (by show scope.names.lookup y≠_;rw[k];decide)] at q
   exact q
 .exact e0.bh.fresh (L7 (x.above y c (PySem.mem_of_lookup h)))
 .unfold start;show _=N.length
  simp_all
def e6c{name:Str}{params:Arguments}{body:List Stmt}{dV kV doc pm fV ct oc:ai}{an od:aj ag}
  {uG:Array (aj ai)}  {sp:Sp} (lk:K.lookup f=some ⟨oc,od,.func (PySem.W.fnOf name qual params body scope dV kV doc pm an fV ct),uG⟩) (qZ:PySem.W.codeIn K fV qual=true) (S:g_ N ps scope)
  (len:∀vs H Q E,sp vs H Q E->vs.length=ps.length)
  (sZ:∀(A:cF) (outer:List Env) (s:aq) (H:Hp) (vs:List V) (Q:VK) (E:XK),bZ k (A.deeper (envOfC qual scope s.heap.objs.size f fV))->sp vs H Q E-> ∃t,iP (mF CX P w K mg base N qual scope f fV A outer s H E) body t/\t { nx:=λ_ H'=>Q .aF H',rt:=Q} (start N vs) H) :
  dk P w K mg base CX (k+1) f (PySem.W.fnOf name qual params body scope dV kV doc pm an fV ct) ps sp:=by
 refine⟨len,λA outer s H args us vs Q E hr e0 hb r wU=>?_⟩
 have hl:=len _ _ _ _ wU;have KX:K.In s.heap:=e0.mod.Bg.keeps λb o e=>(e0.bs b o e).1
 have lim:s.heap.NoLimit:=e0.mod.nolimit.keeps λb o e=>(e0.bs b o e).1
 have Dj:∀y∈ps.zip us,scope.names.lookup y.1=some .local \/ (scope.names.lookup y.1=some .cell/\((cellsFrom (s.heap.objs.size+1) scope.names []).lookup y.1).isSome=true):=λ⟨n,v⟩ hy=>by
  rcases S.par n (List.of_mem_zip hy).1 with q|q
  .exact .inl q
  .exact .inr ⟨q,PySem.W.cellsFrom_some _ _ _ (.inl q)⟩
 refine codeAny_call_function hr.depth (KX _ _ lk) rfl S.co S.gen rfl (PySem.W.codeRec_of KX qZ) (hb _ _ _ _ ?_);refine wpAny_newFunctionEnv_cells S.kind Dj λenv he s1 x=>?_
 subst he;refine⟨lim.keeps x.toInCall.keep,codeAny_func ?_⟩;obtain⟨t,ht,hq⟩:=sZ A outer s H vs Q E (hr.deeper _) wU;have I:Inv (mF CX P w K mg base N qual scope f fV A outer s H E) [] (start N vs) H s1:=Uq S hr.hd e0 hl r x;refine wpAny_mono (ht [] s1 (start N vs) H _ I hq) (λfl s' hs=>?_) λe s' hs=>hs
 have fin:∀{Z':St} {H':Hp} {v:V} {u:ai},Inv (mF CX P w K mg base N qual scope f fV A outer s H E) [] Z' H' s'->RelV v u->Q v H'->CE outer P w H s Q u s':=
  λ{Z' H' v u} J rv q=>⟨v,H',J.os,J.bare,J.base,J.bh,rv,q⟩
 cases fl with
 |ret u=>
  obtain⟨v,Z',H',J,rv,q⟩:=hs;exact fin J rv q
 |next=>
  obtain⟨Z',H',J,q⟩:=hs;exact fin (v:=V.aF) (u:=Value.none) J rfl q
 |brk=>
  obtain⟨_,_,_,q⟩:=hs;exact False.elim q
 |cont=>
  obtain⟨_,_,_,q⟩:=hs;exact False.elim q
section
variable{X:Cx}{x:Str}{p pos:Pos}{e:Expr}{es:List Expr}{t:TA}{id T:String}{r:List V->Hp->VK->Prop}
def R_(r:List V->Hp->VK->Prop)(t:TA):TE:=λZ H Q=>t Z H λvs H1=>r vs H1 Q
def VD(hc:bI X (.builtin id) r)(hg:Gl X x)(hm:X.mg x=none)(hv:bootBuiltins x=some (.builtin id))(ha:PA X (e::es) t)(hn:x≠"__name__":=by decide)(lq:(x == ("__debug__":Str))=false:=by decide)
  (he:starEach (e::es) X.env=(false,eval e X.env)::starEach es X.env:=by rfl) (jK:(backTo pos (starEach es X.env)).any (·.1)=false:=by rfl):PE X (.Call (.Name x p) (e::es) [] pos) (R_ r t):=by
 intro aa s Z H Q I h;refine wpAny_Call_Name_kw (wq I hg hm hv ?_ hn lq);exact PyProof.Rows.callWith_builtin1 (bB (ha pos aa s Z H _ I h) λus s1 ⟨vs,H1,I1,r1,q1⟩=>hc aa s1 Z H1 vs us Q I1 r1 q1) he jK
def Ur(hc:bI X (.type T) r)(hg:Gl X x)(hm:X.mg x=none)(hv:bootBuiltins x=some (.type T))(ha:PA X (e::es) t)(hn:x≠"__name__":=by decide)(lq:(x == ("__debug__":Str))=false:=by decide)
  (he:starEach (e::es) X.env=(false,eval e X.env)::starEach es X.env:=by rfl) (jK:(backTo pos (starEach es X.env)).any (·.1)=false:=by rfl):PE X (.Call (.Name x p) (e::es) [] pos) (R_ r t):=by
 intro aa s Z H Q I h;refine wpAny_Call_Name_kw (wq I hg hm hv ?_ hn lq);exact PyProof.Rows.callWith_type1 (bB (ha pos aa s Z H _ I h) λus s1 ⟨vs,H1,I1,r1,q1⟩=>hc aa s1 Z H1 vs us Q I1 r1 q1) he jK
end
end L2
namespace HT
open PySem PyProof.Rows
section
open PySem.SeqAt
open PySem.AutoSeq1 (wpAny_loadPart')
open PySem.MeetsSeq PySem.MeetsSeq2 PySem.MeetsSeq3
end
variable{sl:ag}{vl vu:ai}{lo hi:aj Int}
section
variable{prog:cS}{w:ck}{A:cF}{E:ai->aq->Prop}{s:aq}
def cy(n d:Nat):aj Int->Nat
 |none=>d
 |some v=>if v<0 then(v+(n:Int)).toNat else min v.toNat n
def d9y(n d:Nat)(hd:d<=n)(o:aj Int):cy n d o<=n:=by
 cases o with
 |none=>exact hd
 |some v=>
  show(if v<0 then(v+(n:Int)).toNat else min v.toNat n)<=n
  by_cases hv:v<0
  .rw[aN hv];lia
  .rw[aJ hv];exact Nat.min_le_right _ _
def OU(v:Int)(n d:Nat):(if v<0 then max (v+(n:Int)) 0 else min v (n:Int))=((cy n d (some v):Nat):Int):=by
 show(if v<0 then max (v+(n:Int)) 0 else min v (n:Int))=(((if v<0 then(v+(n:Int)).toNat else min v.toNat n):Nat):Int)
 by_cases hv:v<0
 .simp only[aN hv];lia
 .simp only[aJ hv];lia
def Tz(lo hi:aj Int)(n:Nat):Builtin.Slice.sliceAdjust lo hi 1 (n:Int)=(((cy n 0 lo:Nat):Int),((cy n n hi:Nat):Int)):=by
 have h1:¬((1:Int)<0):=by lia
 unfold Builtin.Slice.sliceAdjust;simp only[h1,l_];refine Prod.ext ?_ ?_
 .cases lo with
  |none=>rfl
  |some v=>exact OU v n 0
 .cases hi with
  |none=>rfl
  |some v=>exact OU v n n
def TB(i j:Nat):Builtin.Slice.slicePlaces (i:Int) (j:Int) 1=j - i:=by
 unfold Builtin.Slice.slicePlaces;have h1:(1:Int) > 0:=by lia
 simp only[h1,uf,Int.ediv_one];split <;> lia
def M_{v:ai}{o:aj Int}{Q:aj Int->aq->Prop}(p:IsPart v o)(h:Q o s):wpAny (model prog w) A (Builtin.Slice.slicePartIndex v) Q E s:=by
 cases p with
 |none=>exact slicePart_none h
 |int i t=>exact slicePart_int h
def Sm{n:Nat}{Q:Int×Int×Nat->aq->Prop}(hs:s.heap.IsSliceOf sl vl vu .none)(pl:IsPart vl lo)(pu:IsPart vu hi)
  (h:Q (((cy n 0 lo:Nat):Int),1,cy n n hi - cy n 0 lo) s):wpAny (model prog w) A (Builtin.Slice.sliceApplied (.ref sl) (pure (n:Int))) Q E s:=by
 obtain⟨os,Dp,GF,GI⟩:=id hs;unfold Builtin.Slice.sliceApplied Builtin.Slice.sliceFields;refine ay (ay (wpAny_field Dp GI (x:=vl) rfl (ay (wpAny_field Dp GI (x:=vu) rfl (ay (wpAny_field Dp GI (x:=.none) rfl (aS ?_)))))));refine ay (slicePart_none ?_);show wpAny _ _ (if((1:Int) == 0)=true then _ else _) _ _ s
 rw[aJ (by decide)]
 refine ay (M_ pl (ay (M_ pu (ay (aS ?_)))));show wpAny _ _ (match Builtin.Slice.sliceAdjust lo hi 1 (n:Int) with|(lo,hi)=>pure (lo,(1:Int),Builtin.Slice.slicePlaces lo hi 1)) _ _ s
 rw[Tz lo hi n];show wpAny _ _ (pure (((cy n 0 lo:Nat):Int),(1:Int),Builtin.Slice.slicePlaces ((cy n 0 lo:Nat):Int) ((cy n n hi:Nat):Int) 1)) _ _ s;rw[TB];exact aS h
def VE(xs:Array ai)(i k:Nat):((List.range k).filterMap λ(m:Nat)=>xs[((i:Int)+(m:Int)*1).toNat]?).toArray=((xs.toList.drop i).take k).toArray:=by
 have e:(λ(m:Nat)=>xs[((i:Int)+(m:Int)*1).toNat]?)=λm=>xs[i+m]?:=by
  funext m;have:((i:Int)+(m:Int)*1).toNat=i+m:=by lia
  rw[this]
 rw[e];have:=pick_run xs i k;rw[List.filterMap_map] at this;have e2:((λx=>xs[x]?)∘λx=>i+x)=λm=>xs[i+m]?:=rfl
 rw[e2] at this;rw[this]
def iC{t:ag}{items:Array ai}{Q:ai->aq->Prop}(ht:IsTup s.heap t items)(hs:s.heap.IsSliceOf sl vl vu .none)(pl:IsPart vl lo)(pu:IsPart vu hi)
  (hw:¬(cy items.size 0 lo=0/\cy items.size items.size hi=items.size))
  (h:Q (.ref s.heap.objs.size) { s with heap:=s.heap.push { cls:=.type "tuple",data:=.seq ((items.toList.drop (cy items.size 0 lo)).take (cy items.size items.size hi - cy items.size 0 lo)).toArray}})
  (hsz:items.size<=sizeLine):wpAny (model prog w) A (getItem (.ref t) (.ref sl)) Q E s:=by
 have qr:sizeOk (.seq ((items.toList.drop (cy items.size 0 lo)).take (cy items.size items.size hi - cy items.size 0 lo)).toArray):=by
  show((items.toList.drop (cy items.size 0 lo)).take (cy items.size items.size hi - cy items.size 0 lo)).toArray.size<=sizeLine;rw[de,Ac,Er,Hg];lia
 have hj:cy items.size items.size hi<=items.size:=d9y _ _ (bG _) hi;obtain⟨os,Dp,GF,GI⟩:=id hs;have hTs:s.TypeIs (.ref sl) "slice":=⟨os,Dp,GF⟩;unfold getItem;try with_reducible refine kT ?_
 first|refine ay (aS ?_)|skip
 refine ay (wpAny_sequenceKey ht.typeIs (by decide) ?_)
 refine ay (wpAny_callSpecial?_slot (name:=Str.ofString "__getitem__") ht.typeIs PyProof.Rows.slot_tuple_getitem (wpAny_call_entry PyProof.Rows.slot_tuple_getitem ht.typeIs entry_tuple_getitem ?_ (args_tuple_getitem _ _)))
 show wpAny _ _ (Builtin.Tuple.tupleItemsOf (.ref t) >>= _) _ _ s;refine ay (tupleItemsOf_ ht ?_);refine ay (wpAny_typeOf hTs ?_);rw[aN (by decide)]
 refine ay (Sm hs pl pu ?_);have uC:¬((((cy items.size 0 lo:Nat):Int) == 0&&(1:Int) == 1&&(cy items.size items.size hi - cy items.size 0 lo) == items.size)=true):=by
  lia
 show wpAny _ _ (if(((cy items.size 0 lo:Nat):Int) == 0&&(1:Int) == 1&&(cy items.size items.size hi - cy items.size 0 lo) == items.size)=true then _ else _) _ _ s
 rw[aJ uC,VE];first
  |exact ay (m:=Builtin.Tuple.tupleExact _) (wpAny_newObj_type (aS ⟨_,rfl,aS h⟩) qr)
  |exact ay (m:=Builtin.Tuple.tupleExact _) (wpAny_newObj_type (ay (aS (aS ⟨_,rfl,aS h⟩))) qr)
  |exact ay (ay (m:=Builtin.Tuple.tupleExact _) (wpAny_newObj_type (aS (aS ⟨_,rfl,aS h⟩)) qr))
  |exact ay (ay (m:=Builtin.Tuple.tupleExact _) (wpAny_newObj_type (aS ⟨_,rfl,aS h⟩) qr))
end
end HT
namespace L2
open PySem PySem.Spec PyProof.Rows
variable{r:V->aj Int->aj Int->Hp->VK->Prop}
abbrev TO:=St->Hp->(aj Int->Hp->Prop)->Prop
def PO(X:Cx)(e:aj Expr)(t:TO):Prop:=
 ∀(aa:List (ag×Obj)) (s:aq) (Z:St) (H:Hp) (Q:aj Int->Hp->Prop),Inv X aa Z H s->t Z H Q->
  wpAny (model X.prog X.w) X.A (evalPart e X.env) (λu s'=>∃o H',Inv X aa Z H' s'/\IsPart u o/\Q o H') X.xe s
def X1:TO:=λ_ H Q=>Q none H
def Eb(t:TE):TO:=λZ H Q=>t Z H λx H1=>∃i,x=.int i/\Q (some i) H1
section
variable{X:Cx}{e:Expr}{te:TE}{lo hi:aj Expr}{tl th:TO}{pos p2:Pos}
def X2:PO X none X1:=by
 intro aa s Z H Q I h;rw[evalPart_none];exact aS ⟨none,H,I,.none,h⟩
def X3(h:PE X e te):PO X (some e) (Eb te):=by
 intro aa s Z H Q I hw;rw[evalPart_some];refine bB (h aa s Z H _ I hw) λu s1 hh=>?_
 obtain⟨x,H1,I1,r1,q1⟩:=hh;obtain⟨i,rfl,q⟩:=q1;obtain⟨t,rfl⟩:=r1;exact⟨some i,H1,I1,.int i t,q⟩
def sv(X:Cx)(r:V->aj Int->aj Int->Hp->VK->Prop):Prop:=
 ∀(aa:List (ag×Obj)) (s:aq) (Z:St) (H:Hp) (x:V) (v vl vu:ai) (lo hi:aj Int) (sl:ag) (Q:VK),Inv X aa Z H s->RelV x v->s.heap.IsSliceOf sl vl vu .none->IsPart vl lo->IsPart vu hi->r x lo hi H Q->
  ∃T id,typeLookup (.type T) "__getitem__"=pure (some (.builtin id))/\s.TypeIs v T/\wpAny (model X.prog X.w) X.A (getItem v (.ref sl)) (EP X aa Z Q) X.xe s
def sv.or{r':V->aj Int->aj Int->Hp->VK->Prop}(h:sv X r)(h':sv X r'):sv X (λx lo hi H Q=>r x lo hi H Q\/r' x lo hi H Q):=by
 intro aa s Z H x v vl vu lo hi sl Q I rx hs pl pu q;rcases q with q|q
 .exact h aa s Z H x v vl vu lo hi sl Q I rx hs pl pu q
 .exact h' aa s Z H x v vl vu lo hi sl Q I rx hs pl pu q
def tSl(r:V->aj Int->aj Int->Hp->VK->Prop)(te:TE)(tl th:TO):TE:=λZ H Q=>te Z H λx H1=>tl Z H1 λl H2=>th Z H2 λu H3=>r x l u H3 Q
def VF(hr:sv X r)(he:PE X e te)(hl:PO X lo tl)(hu:PO X hi th):PE X (.Subscript e (.Slice lo hi none p2) pos) (tSl r te tl th):=by
 intro aa s Z H Q I h;refine Subscript_ (bB (he aa s Z H _ I h) λv s1 hh=>?_)
 obtain⟨x,H1,I1,r1,q1⟩:=hh;refine wpAny_Slice (bB (hl aa s1 Z H1 _ I1 q1) λvl s2 ⟨l,H2,I2,pl,q2⟩=>bB (hu aa s2 Z H2 _ I2 q2) λvu s3 ⟨u,H3,I3,pu,q3⟩=>?_)
 rw[evalPart_none];refine aS ?_;have I4:Inv X aa Z H3 { s3 with heap:=s3.heap.push { cls:=.type "slice",data:=.fields #[vl,vu,.none]}}:=I3.kept (t':=s3.toks) λb ob q=>cO _ q
 obtain⟨T,id,hT,ht,hg⟩:=hr aa { s3 with heap:=s3.heap.push { cls:=.type "slice",data:=.fields #[vl,vu,.none]}} Z H3 x v vl vu l u s3.heap.objs.size Q I4 r1 (Heap.IsSliceOf.new ..) pl pu q3;show wpAny (model X.prog X.w) X.A (subscriptTail e (.Slice lo hi none p2) v (.ref s3.heap.objs.size)) (EP X aa Z Q) X.xe { s3 with heap:=s3.heap.push { cls:=.type "slice",data:=.fields #[vl,vu,.none]}};exact tail_any (ops:=[.ref s3.heap.objs.size,v]) ht hT hg (by with_unfolding_all rfl)
noncomputable def nO(xs:List V)(lo hi:aj Int):List V:=(xs.drop (HT.cy xs.length 0 lo)).take (HT.cy xs.length xs.length hi - HT.cy xs.length 0 lo)
def MU(xs:List V)(lo hi:aj Int):(nO xs lo hi).length<=xs.length:=by
 unfold nO;rw[Ac,Er];lia
def zV(K:PySem.W.Frag):V->aj Int->aj Int->Hp->VK->Prop:=λx lo hi H Q=>∃a xs,x=.ref a/\gA K H a xs/\
 ¬(HT.cy xs.length 0 lo=0/\HT.cy xs.length xs.length hi=xs.length)/\∀p,H p=none->Q (.ref p) (upd H p (.tup (nO xs lo hi)))
def d9z:sv X (zV X.K):=by
 intro aa s Z H x v vl vu lo hi sl Q I rx hs pl pu h;obtain⟨a,xs,rfl,hx,hw,q⟩:=h;cases rx;obtain⟨aE,r,ht,hz⟩:=I.tuple hx;have hlen:aE.toArray.size=xs.length:=by rw[de];exact r.length.symm
 refine⟨"tuple",_,PyProof.Rows.slot_tuple_getitem.lookup,ht.typeIs,?_⟩;refine HT.iC ht hs pl pu (by rw[hlen];exact hw) ?_ (by rw[hlen];exact hz)
 rw[hlen];refine⟨.ref s.heap.objs.size,_,I.laid (t':=s.toks) (o:=.tup (nO xs lo hi)) (λb ob q=>cO _ q) (bG _) ?_,rfl,q _ (I.bh.fresh (bG _))⟩
 exact⟨jo (MU xs lo hi) hz,_,(r.drop (HT.cy xs.length 0 lo)).take (HT.cy xs.length xs.length hi - HT.cy xs.length 0 lo),IsTup.new _ _⟩
end
variable{n j:Nat}{i:Int}{r:R2}{aa:List (ag×Obj)}{Z:St}{H:Hp}{s:aq}
def tI(n:Nat)(i:Int):aj Nat:=if 0<=i then(if i<n then some i.toNat else none) else if -(n:Int)<=i then some (i+n).toNat else none
def cY{α:Type}(xs:List α)(i:Int):aj α:=(tI xs.length i).bind λj=>xs[j]?
def OV(h:tI n i=some j):seqIndex? i n=some j/\j<n /\ -(n:Int)<=i/\i<n:=by
 unfold tI at h;by_cases h0:0<=i
 .rw[aN h0] at h;by_cases h1:i<n
  .rw[aN h1] at h;have e:i.toNat=j:=Option.some.inj h;exact⟨by rw[seqIndex_of h0 h1,e],by lia,by lia,h1⟩
  .rw[aJ h1] at h;cases h
 .rw[aJ h0] at h;by_cases h1:-(n:Int)<=i
  .rw[aN h1] at h;have e:(i+n).toNat=j:=Option.some.inj h;exact⟨by rw[seqIndex_neg (by lia) h1,e],by lia,h1,by lia⟩
  .rw[aJ h1] at h;cases h
def IZ{α:Type}{xs:List α}{v:α}(h:cY xs i=some v):∃j,seqIndex? i xs.length=some j/\xs[j]?=some v/\j<xs.length /\ -(xs.length:Int)<=i/\i<xs.length:=by
 unfold cY at h;cases e:tI xs.length i with
 |none=>rw[e] at h;cases h
 |some j=>
  rw[e] at h;obtain⟨h1,h2,h3,h4⟩:=OV e;exact⟨j,h1,h,h2,h3,h4⟩
def sE{α:Type}{xs:List α}{v:α}(h:xs[j]?=some v):cY xs (j:Int)=some v:=by
 have hj:j<xs.length:=(eS.mp h).1;have e:tI xs.length (j:Int)=some j:=by
  unfold tI;rw[aN (by lia),aN (by lia)];simp
 unfold cY;rw[e];exact h
def I_(b:Expr):Prop:=∀o i,subscripted b false o i=operate [o,i] (getItem o i)
def qO(X:Cx)(r:R2):Prop:=
 ∀(value slice:Expr) (aa:List (ag×Obj)) (s:aq) (Z:St) (H:Hp) (x y:V) (v u:ai) (Q:VK),Inv X aa Z H s->RelV x v->RelV y u->r x y H Q->
  subscripted slice false v u=operate [v,u] (getItem v u)->wpAny (model X.prog X.w) X.A (subscriptTail value slice v u) (EP X aa Z Q) X.xe s
def HG(X:Cx)(id:String)(r:V->List V->Hp->VK->Prop):Prop:=
 ∀(aa:List (ag×Obj)) (s:aq) (Z:St) (H:Hp) (x:V) (xs:List V) (v:ai) (us:List ai) (Q:VK),Inv X aa Z H s->RelV x v->Vals xs us->r x xs H Q->
  wpAny (model X.prog X.w) X.A (call (.builtin id) (v::us)) (EP X aa Z Q) X.xe s
section
variable{X:Cx}{a b:Expr}{ta tb:TE}{pos:Pos}
def qO.or{r':R2}(h:qO X r)(h':qO X r'):qO X (λx y H Q=>r x y H Q\/r' x y H Q):=by
 intro value slice aa s Z H x y v u Q I rx ry q hs;rcases q with q|q
 .exact h value slice aa s Z H x y v u Q I rx ry q hs
 .exact h' value slice aa s Z H x y v u Q I rx ry q hs
def e6d(hr:qO X r)(ha:PE X a ta)(hb:PE X b tb)(hs:I_ b):PE X (.Subscript a b pos) (G9 r ta tb):=by
 intro aa s Z H Q I h;exact Subscript_ (yN ha hb I h λv u s2 x y H2 I2 rx ry q=>hr a b aa s2 Z H2 x y v u Q I2 rx ry q (hs _ _))
def zS(K:PySem.W.Frag):R2:=λx y H Q=>∃p xs i v,x=.ref p/\y=.int i/\cC K H p xs/\cY xs i=some v/\Q v H
def zT(K:PySem.W.Frag):R2:=λx y H Q=>∃p xs i v,x=.ref p/\y=.int i/\gA K H p xs/\cY xs i=some v/\Q v H
def DT:R2:=λx y H Q=>∃z i c,x=.str z/\y=.int i/\z.length<=sizeLine/\cY z.cps.toList i=some c/\Q (.str ⟨#[c]⟩) H
def X4:qO X (zS X.K):=by
 intro value slice aa s Z H x y v u Q I rx ry h hs;obtain⟨p,xs,i,z,rfl,rfl,hq,he,q⟩:=h;cases rx;obtain⟨t,rfl⟩:=ry;obtain⟨aE,r,pl,hz⟩:=I.list hq;obtain⟨j,h1,h2,h3,h4,h5⟩:=IZ he;obtain⟨w,ew,m6⟩:=r.get h2;have hl:=r.length;have hn:=yF;have fin:EP X aa Z Q w s:=⟨z,H,I,m6,q⟩;by_cases h0:0<=i
 .have hj:i.toNat=j:=by
   rw[seqIndex_of h0 h5] at h1;exact Option.some.inj h1
  exact item_listR pl.isList h0 (by lia) (by rw[hj];simpa using ew) fin hs
 .have hj:(i+(aE.toArray.size:Int)).toNat=j:=by
   rw[seqIndex_neg (by lia) h4] at h1
   rw[de,<-hl];exact Option.some.inj h1
  exact subscriptTail_builtinR (x:=w) pl.isList.typeIs slot_list_getitem.lookup
   (wpAny_getItem_list_neg (Q:=λr s'=>r=w/\EP X aa Z Q r s') pl.isList (by lia) (by rw[de] <;> lia) (by lia) (by rw[hj];simpa using ew) ⟨rfl,fin⟩) hs
def e0a:qO X (zT X.K):=by
 intro value slice aa s Z H x y v u Q I rx ry h hs;obtain⟨p,xs,i,z,rfl,rfl,hq,he,q⟩:=h;cases rx;obtain⟨t,rfl⟩:=ry;obtain⟨aE,r,pl,hz⟩:=I.tuple hq;obtain⟨j,h1,h2,h3,h4,h5⟩:=IZ he;obtain⟨w,ew,m6⟩:=r.get h2;have hl:=r.length;have hn:=yF;have fin:EP X aa Z Q w s:=⟨z,H,I,m6,q⟩;exact subscriptTail_builtinR (x:=w) pl.typeIs slot_tuple_getitem.lookup
  (getItem_tuple (j:=j) (Q:=λr s'=>r=w/\EP X aa Z Q r s') pl (by lia) (by lia) (by rw[de,<-hl];exact h1) (by simpa using ew) ⟨rfl,fin⟩) hs
def zA:qO X DT:=by
 intro value slice aa s Z H x y v u Q I rx ry h hs;obtain⟨z,i,c,rfl,rfl,hz,he,q⟩:=h;obtain⟨t,rfl⟩:=rx;obtain⟨t',rfl⟩:=ry;obtain⟨j,h1,h2,h3,h4,h5⟩:=IZ he;have hl:z.cps.toList.length=z.length:=by simp[Str.length]
 rw[hl] at h1 h4 h5;have hn:=yF;exact tail_any (typeIs_str s z t) slot_str_getitem.lookup (getItem_str (c:=c) (by
  lia) (by rw[h1];simpa using h2) ⟨.str ⟨#[c]⟩,H,I.tok _,⟨_,rfl⟩,q⟩) hs
def TC(aE:List ai)(n j:Nat)(u:ai):Obj.mapSeq (·.setIfInBounds j u) { cls:=.type "list",data:=.seq aE.toArray n}={ cls:=.type "list",data:=.seq (aE.set j u).toArray n}:=by
 simp[Obj.mapSeq]
def Inv.lst{aa:List (ag×Obj)}{Z:St}{H:Hp}{s:aq}{p:ag}{xs:List V}(I:Inv X aa Z H s)(h:H p=some (.lst xs)):
  ∃(aE:List ai) (n:Nat),Vals xs aE/\s.heap.get? p=some { cls:=.type "list",data:=.seq aE.toArray n}/\xs.length<=sizeLine:=by
 obtain⟨z,aE,n,r,e⟩:=I.bh p _ h;exact⟨aE,n,r,e,z⟩
def Inv.zD{p:ag}{xs ys:List V}{aE its':List ai}{n':Nat}{f:Obj->Obj}(I:Inv X aa Z H s)(h:H p=some (.lst xs))
  (ho:s.heap.get? p=some { cls:=.type "list",data:=.seq aE.toArray n}) (hf:f { cls:=.type "list",data:=.seq aE.toArray n}={ cls:=.type "list",data:=.seq its'.toArray n'}) (r:Vals ys its') (hz:ys.length<=sizeLine) (t:Nat) :
  Inv X aa Z (upd H p (.lst ys)) { s with heap:=s.heap.update p f,toks:=t}:=by
 have e:(s.heap.update p f).get? p=some { cls:=.type "list",data:=.seq its'.toArray n'}:=by
  rw[rQ f ho (by rw[hf] <;> rfl),hf]
 refine I.write (x:=p) (e:=p) (by rw[h];trivial) (.inl rfl) (λb u hb q=>(p4 _ _ (Ne.symm hb)).trans q) ⟨_,e⟩ ?_
 exact⟨hz,its',n',r,e⟩
def xI:V->V->V->Hp->(Hp->Prop)->Prop:=λo i v H Q=>∃p xs k j,o=.ref p/\i=.int k/\H p=some (.lst xs)/\tI xs.length k=some j/\Q (upd H p (.lst (xs.set j v)))
def VG:uS X xI:=by
 intro aa s Z H o i v ov iv u Q I ro ri rv h;obtain⟨p,xs,k,j,rfl,rfl,hp,hj,q⟩:=h;cases ro;obtain⟨t,rfl⟩:=ri;obtain⟨aE,n,r,ho,hz⟩:=I.lst hp;obtain⟨h1,h2,h3,h4⟩:=OV hj;have hl:=r.length;have hn:=yF;have I':Inv X aa Z (upd H p (.lst (xs.set j v))) { s with heap:=s.heap.update p (Obj.mapSeq (·.setIfInBounds j u))}:=
  I.zD hp ho (TC aE n j u) (r.set rv j) (by rw[nq];exact hz) s.toks
 by_cases h0:0<=k
 .have hk:k.toNat=j:=by
   rw[seqIndex_of h0 h4] at h1;exact Option.some.inj h1
  exact PySem.W.ki_setAt ho h0 (by lia) (by rw[de,<-hl];exact h4) (by rw[hk];exact⟨_,I',q⟩)
 .have hk:(k+(aE.toArray.size:Int)).toNat=j:=by
   rw[seqIndex_neg (by lia) h3] at h1
   rw[de,<-hl];exact Option.some.inj h1
  exact PySem.W.ki_setBack ho (by lia) (by rw[de,<-hl];exact h3) (by lia) (by rw[hk];exact⟨_,I',q⟩)
def SQ(lo hi:aj Int)(n:Nat):(sliceBounds lo hi none n).1=((HT.cy n 0 lo:Nat):Int)/\(sliceBounds lo hi none n).2.1=((HT.cy n n hi:Nat):Int)/\(sliceBounds lo hi none n).2.2=1:=by
 refine⟨?_,?_,rfl⟩
 .cases lo with
  |none=>simp[sliceBounds,HT.cy]
  |some i=>
   simp only[sliceBounds,HT.cy,Option.getD_none,show(1:Int) > 0 by decide,uf]
   by_cases h:i<0
   .simp only[h,uf] <;> lia
   .simp only[h,l_] <;> lia
 .cases hi with
  |none=>simp[sliceBounds,HT.cy]
  |some i=>
   simp only[sliceBounds,HT.cy,Option.getD_none,show(1:Int) > 0 by decide,uf]
   by_cases h:i<0
   .simp only[h,uf] <;> lia
   .simp only[h,l_] <;> lia
def SF(aE:List ai)(lo hi:aj Int):slicePick aE.toArray lo hi none=((aE.drop (HT.cy aE.length 0 lo)).take (HT.cy aE.length aE.length hi - HT.cy aE.length 0 lo)).toArray:=by
 obtain⟨h1,h2,h3⟩:=SQ lo hi aE.toArray.size;unfold slicePick;rw[h1,h2,h3];simp only[sliceRange_one,pick_run,de] <;> rfl
def zU(K:PySem.W.Frag):V->aj Int->aj Int->Hp->VK->Prop:=λx lo hi H Q=>∃a xs,x=.ref a/\cC K H a xs/\∀p,H p=none->Q (.ref p) (upd H p (.lst (nO xs lo hi)))
def X5:sv X (zU X.K):=by
 intro aa s Z H x v vl vu lo hi sl Q I rx hs pl pu h;obtain⟨a,xs,rfl,hx,q⟩:=h;cases rx;obtain⟨aE,r,ht,hz⟩:=I.list hx;have hlen:=r.length;refine⟨"list",_,slot_list_getitem.lookup,ht.isList.typeIs,?_⟩;refine wpAny_getItem_list_slice ht.isList hs pl pu .none (by simp) ?_ (by rw[de] <;> lia)
 rw[SF,<-hlen];refine⟨.ref s.heap.objs.size,_,I.laid (t':=s.toks) (o:=.lst (nO xs lo hi)) (λb ob q=>cO _ q) (bG _) ?_,rfl,q _ (I.bh.fresh (bG _))⟩
 exact⟨jo (MU xs lo hi) hz,_,0,(r.drop (HT.cy xs.length 0 lo)).take (HT.cy xs.length xs.length hi - HT.cy xs.length 0 lo),jq _ rfl⟩
def wM:V->Bool
 |.aF=>true
 |.bl _=>true
 |.int _=>true
 |.str _=>true
 |_=>false
noncomputable def eqV:V->V->Bool
 |.aF,.aF=>true
 |.bl a,.bl b=>a == b
 |.bl a,.int b=>(if a then 1 else 0) == b
 |.int a,.bl b=>a == (if b then 1 else 0)
 |.int a,.int b=>a == b
 |.str a,.str b=>a == b
 |_,_=>false
def SR:bI X (.builtin "len") (λxs H Q=>∃p ys,xs=[.ref p]/\(cC X.K H p ys\/gA X.K H p ys)/\Q (.int ys.length) H):=by
 intro aa s Z H xs us Q I r h;obtain⟨p,ys,rfl,hq,q⟩:=h;obtain⟨u,rfl,rx⟩:=vals1 r;cases rx;have hn:=yF;rcases hq with hq|hq
 .obtain⟨aE,r',pl,hz⟩:=I.list hq;have hlen:=r'.length;exact Calls.call_len_list pl.isList (by simp only[de] <;> lia) ⟨.int ys.length,H,I.tok _,⟨s.toks+1,by rw[de,hlen]⟩,q⟩
 .obtain⟨aE,r',pl,hz⟩:=I.tuple hq;have hlen:=r'.length;exact len_tuple pl (by simp only[de] <;> lia) ⟨.int ys.length,H,I.tok _,⟨s.toks+1,by rw[de,hlen]⟩,q⟩
def mE:bI X (.builtin "len") (λxs H Q=>∃z,xs=[.str z]/\z.length<=sizeLine/\Q (.int z.length) H):=by
 intro aa s Z H xs us Q I r h;obtain⟨z,rfl,hz,q⟩:=h;obtain⟨u,rfl,t,rfl⟩:=vals1 r;have hn:=yF;exact len_str (by lia) ⟨.int z.length,H,I.tok _,⟨_,rfl⟩,q⟩
def bI.or{f:ai}{r r':List V->Hp->VK->Prop}(h:bI X f r)(h':bI X f r'):bI X f (λxs H Q=>r xs H Q\/r' xs H Q):=by
 intro aa s Z H xs us Q I rs q;rcases q with q|q
 .exact h aa s Z H xs us Q I rs q
 .exact h' aa s Z H xs us Q I rs q
def SS:bI X (.type "list") (λxs H Q=>∃p ys,xs=[.ref p]/\(cC X.K H p ys\/gA X.K H p ys)/\∀l,H l=none->Q (.ref l) (upd H l (.lst ys))):=by
 intro aa s Z H xs us Q I r h;obtain⟨p,ys,rfl,hq,q⟩:=h;obtain⟨u,rfl,rx⟩:=vals1 r;cases rx;have fin:∀(aE:List ai),Vals ys aE->ys.length<=sizeLine->∀(h':bJ) (c':Nat),(∀b o',s.heap.get? b=some o'->h'.get? b=some o')->
   h'.get? s.heap.objs.size=some { cls:=.type "list",dict:=none,data:=.seq aE.toArray c',slots:=#[]}->EP X aa Z Q (.ref s.heap.objs.size) { s with heap:=h'}:=λaE r' hz h' c' kp e=>
  ⟨.ref s.heap.objs.size,_,I.laid (t':=s.toks) kp (bG _) (show bq X.prog X.w _ h' _ (.lst ys) from⟨hz,aE,c',r',e⟩),rfl,q _ (I.bh.fresh (bG _))⟩
 rcases hq with hq|hq
 .obtain⟨aE,r',pl,hz⟩:=I.list hq;have hlen:=r'.length;obtain⟨o,ho,hc,n,hd⟩:=pl.isList;exact call_list_seq p (.inl rfl) ho hc hd (λh' c' kp e=>fin aE r' hz h' c' kp e) (by simp only[de] <;> lia)
 .obtain⟨aE,r',pl,hz⟩:=I.tuple hq;have hlen:=r'.length;obtain⟨o,ho,hc,n,hd⟩:=pl;exact call_list_seq p (.inr rfl) ho hc hd (λh' c' kp e=>fin aE r' hz h' c' kp e) (by simp only[de] <;> lia)
def Hc(K:PySem.W.Frag)(T:String)(x:V)(H:Hp):Prop:=match x with
 |.str _=>T="str"
 |.int _=>T="int"
 |.ref p=>(T="list"/\∃xs,cC K H p xs)\/(T="tuple"/\∃o,K.lookup p=some o/\o.cls=.type "tuple"/\o.dict=none)\/
   (T="dict"/\((∃kvs,H p=some (.dK kvs))\/(∃kvs,H p=some (.dT kvs))\/∃es ep,H p=some (.dG es ep)))\/(T="set"/\∃S n,H p=some (.set S n))
 |_=>False
def P6{T:String}{x:V}{v:ai}(I:Inv X aa Z H s)(r:RelV x v)(ty:Hc X.K T x H):
  s.TypeIs v T/\∀a,v=.ref a->∃ob,s.heap.get? a=some ob/\ob.dict=none:=by
 cases x with
 |str z=>
  obtain⟨t,rfl⟩:=r;cases(show T="str" from ty);exact⟨typeIs_str s z t,λ_ e=>nomatch e⟩
 |int i=>
  obtain⟨t,rfl⟩:=r;cases(show T="int" from ty);exact⟨typeIs_int s i t,λ_ e=>nomatch e⟩
 |ref p=>
  cases r;rcases ty with⟨rfl,xs,hq⟩|⟨rfl,o,hk,hc,hd⟩|⟨rfl,hk⟩|⟨rfl,S,n,hk⟩
  .obtain⟨aE,_,pl,_⟩:=I.list hq;refine⟨pl.isList.typeIs,λa e=>?_⟩
   cases e;obtain⟨o,n,e,c,hd,_⟩:=pl;exact⟨o,e,hd⟩
  .refine⟨⟨o,I.jL p o hk,hc⟩,λa e=>?_⟩
   cases e;exact⟨o,I.jL _ o hk,hd⟩
  .have z:∃o,s.heap.get? p=some o/\o.ExactDict:=by
    rcases hk with⟨kvs,hk⟩|⟨kvs,hk⟩|⟨es,ep,hk⟩
    .obtain⟨_,_,_,_,o,_,_,e,ex,_⟩:=I.bh p _ hk;exact⟨o,e,ex⟩
    .obtain⟨_,_,_,_,o,_,_,e,ex,_⟩:=I.bh p _ hk;exact⟨o,e,ex⟩
    .obtain⟨_,_,o,_,e,ex,_⟩:=I.bh p _ hk;exact⟨o,e,ex⟩
   obtain⟨o,e,ex⟩:=z;refine⟨⟨o,e,ex.1⟩,λa e2=>?_⟩
   cases e2;exact⟨o,e,ex.2.1⟩
  .obtain⟨o,_,_,_,e,ex,_⟩:=I.bh p _ hk;refine⟨⟨o,e,ex.1⟩,λa e2=>?_⟩
   cases e2;exact⟨o,e,ex.2.1⟩
 |_=>exact False.elim ty
def LH(K:PySem.W.Frag)(T:String)(r:V->List V->Hp->VK->Prop)(to:TE)(t:TA):TE:=λZ H Q=>to Z H λx H1=>Hc K T x H1/\t Z H1 λxs H2=>r x xs H2 Q
variable{o e:Expr}{es:List Expr}{to:TE}{t:TA}{name:Str}{apos bD:Pos}{T id:String}{r:V->List V->Hp->VK->Prop}
def QQ(pa:PlainAttrs T)(slot:Slot T name id)(vq:typeOf (.builtin id)=pure (.type "method_descriptor"))(hm:HG X id r)(ho:PE X o to)(ha:PA X (e::es) t)
  (eA:attributeBase o name X.env (eval o X.env)=eval o X.env:=by rfl)
  (s9:((backTo bD (starEach (e::es) X.env)).all (λx => !x.1)&&(backToKw bD (keywordEach [] X.env)).all (λx=>x.1.isSome) && decide ((e::es).length+([]:List Keyword).length+(if([]:List Keyword).isEmpty then 0 else 1)<30))=true:=by rfl)
  (eB:(apos.endLine == bD.line)=true:=by rfl) (hs:starEach (e::es) X.env=(false,eval e X.env)::starEach es X.env:=by rfl) (kr:(backTo bD (starEach es X.env)).any (·.1)=false:=by rfl) :
  PE X (.Call (.Attribute o name apos) (e::es) [] bD) (LH X.K T r to t):=by
 intro aa s Z H Q I h;refine wpAny_Call_method_late eA s9 eB rfl (bB (ho aa s Z H _ I h) λv s1 hh=>?_)
 obtain⟨x,H1,I1,r1,ty,q1⟩:=hh;obtain⟨h1,h2⟩:=P6 I1 r1 ty;refine⟨T,id,pa,slot,vq,h1,h2,?_⟩;have hA:=ha bD aa s1 Z H1 _ I1 q1;rw[hs] at hA ⊢;refine Calls.callWith_builtin (by show(false || (backTo bD (starEach es X.env)).any (·.1))=false;rw[kr] <;> rfl) (Calls.evalArgs_plain ?_)
 exact bB hA λus s2 ⟨vs,H2,I2,r2,q2⟩=>hm aa s2 Z H2 x vs v us Q I2 r1 r2 q2
end
variable{x:V}{us aE:List ai}{t':Nat}
def Ap(X:Cx)(id:String)(r:V->List V->Hp->VK->Prop):Prop:=
 ∀(aa:List (ag×Obj)) (s:aq) (Z:St) (H:Hp) (x:V) (xs:List V) (v:ai) (us:List ai) (Q:VK),Inv X aa Z H s->RelV x v->Vals xs us->r x xs H Q->
  wpAny (model X.prog X.w) X.A (call (.builtin id) (v::us)) (EP X aa Z Q) X.xe s
def Vals.one(h:Vals [x] us):∃u,us=[u]/\RelV x u:=by
 cases h with
 |cons r t=>
  cases t;exact⟨_,rfl,r⟩
def Vals.two{y:V}(h:Vals [x,y] us):∃u v,us=[u,v]/\RelV x u/\RelV y v:=by
 cases h with
 |cons r t=>
  obtain⟨v,rfl,q⟩:=Vals.one t;exact⟨_,_,rfl,r,q⟩
section
variable{X:Cx}{aa:List (ag×Obj)}{Z:St}{H:Hp}{s:aq}{l b:ag}{xs ys zs:List V}
def Inv.zB{its':List ai}{n:Nat}{f:Array ai->Array ai}(I:Inv X aa Z H s)(hH:H l=some (.lst xs))
  (e:s.heap.get? l=some { cls:=.type "list",data:=.seq aE.toArray n}) (hf:f aE.toArray=its'.toArray) (hv:Vals ys its') (hz:ys.length<=sizeLine) :
  Inv X aa Z (upd H l (.lst ys)) { s with heap:=s.heap.update l (Obj.mapSeq f),toks:=t'}:=by
 have q:=PySem.IsL.update e f;rw[hf] at q;refine I.write (x:=l) (e:=l) (by rw[hH];exact trivial) (.inl rfl) (λb' u hb hu=>(p4 s.heap (Obj.mapSeq f) (Ne.symm hb)).trans hu) ⟨_,q⟩ ?_
 exact⟨hz,its',_,hv,q⟩
def Inv.K0(I:Inv X aa Z H s)(hv:Vals ys aE)(hz:ys.length<=sizeLine):
  Inv X aa Z (upd H s.heap.objs.size (.lst ys)) { s with heap:=s.heap.push { cls:=.type "list",data:=.seq aE.toArray},toks:=t'}:=
 I.laid (λ_ _ q=>cO _ q) (bG _) ⟨hz,aE,0,hv,jq _ rfl⟩
theorem Inv.fresh(I:Inv X aa Z H s):H s.heap.objs.size=none:=I.bh.fresh (bG _)
def Inv.zC(I:Inv X aa Z H s)(hH:H l=some (.lst xs)):xs.length<=sizeLine/\∃(aE:List ai) (n:Nat),Vals xs aE/\xs.length=aE.length/\s.heap.get? l=some { cls:=.type "list",data:=.seq aE.toArray n}:=by
 obtain⟨z,aE,n,r,e⟩:=I.bh l _ hH;exact⟨z,aE,n,r,r.length,e⟩
end
section
variable{X:Cx}
def OW:V->List V->Hp->VK->Prop:=λx vs H Q=>∃l xs y,x=.ref l/\vs=[y]/\H l=some (.lst xs)/\xs.length<sizeLine/\Q .aF (upd H l (.lst (xs++[y])))
theorem Us:Ap X "list.append" OW:=by
 intro aa s Z H x vs v us Q I rx rv h;obtain⟨l,xs,y,rfl,rfl,hH,hz,q⟩:=h;cases rx;obtain⟨u,rfl,ru⟩:=rv.one;obtain⟨z,aE,n,r,hl,e⟩:=I.zC hH;refine call_meets F.slot_list_append ⟨_,e,rfl⟩ F.entry_list_append (F.args_list_append_2 _ _) (PySem.list_append l aE.toArray n u (by rw[de];lia)) ⟨e,?_⟩
 refine⟨.aF,_,I.zB (its':=aE++[u]) hH e (by simp) (r.append (.cons ru .nil)) ?_,rfl,q⟩
 rw[cB,ud];lia
end
section
variable{prog:cS}{w:ck}{A:cF}{E:ai->aq->Prop}{s:aq}
end
section
variable{X:Cx}
end
section
variable{κ:Type}[DecidableEq κ]
def hV.q_{o:aj V}{u:aj ai}(r:hV o u):o.isSome=u.isSome:=by
 cases o with
 |none=>cases u with
  |none=>rfl
  |some _=>exact(show False from r).elim
 |some _=>cases u with
  |none=>exact(show False from r).elim
  |some _=>rfl
end
variable{X:Cx}{pos:Pos}
section
variable{P:cS}{w:ck}{H:Hp}{h:bJ}{a:ag}
end
section
variable{X:Cx}{aa:List (ag×Obj)}{Z:St}{H:Hp}{s:aq}{a:ag}{y v:V}{u r:ai}{o:aj V}{A:cF}{E:ai->aq->Prop}
def Inv.big(I:Inv X aa Z H s):sysModules<s.heap.objs.size:=by
 have h:mainGlobals<s.heap.objs.size:=(I.mod.glob.keeps I.bk).lt;exact Nat.lt_trans (by decide) h
def Ja{h':bJ}{t':Nat}{ob:HO}(I:Inv X aa Z H s)(mu:BG (H a))(hs:Heap.SameBut a s.heap h')(he:∃q,h'.get? a=some q)(new:bq X.prog X.w (upd H a ob) h' a ob):
  Inv X aa Z (upd H a ob) { s with heap:=h',toks:=t'}:=
 I.write (x:=a) (e:=a) mu (.inl rfl) (λb q hb z=>(hs.2 b hb).trans z) he new
end
section
variable{X:Cx}{aa:List (ag×Obj)}{Z:St}{H:Hp}{s:aq}{a:ag}{kvs:List (Key×V)}{k:Key}{u:ai}{A:cF}{E:ai->aq->Prop}
end
section
variable{X:Cx}{o i e value:Expr}{pos pos' eY:Pos}{td ty tv:TE}
end
section
variable{X:Cx}{pos:Pos}
end
def FO:List (TE×TE)->St->Hp->(List (V×V)->Hp->Prop)->Prop
 |[],_,H,Q=>Q [] H
 |(tk,tv)::r,Z,H,Q=>tk Z H λx H1=>tv Z H1 λy H2=>FO r Z H2 λps H3=>Q ((x,y)::ps) H3
abbrev VV:List (V×V)->List (ai×ai)->Prop:=Paired λp q=>RelV p.1 q.1/\RelV p.2 q.2
def Aq(X:Cx)(pos:Pos)(keys:List (aj Expr))(values:List Expr)(vP:List (TE×TE)):Prop:=
 ∀(aa:List (ag×Obj)) (s:aq) (Z:St) (H:Hp) (Q:List (V×V)->Hp->Prop),Inv X aa Z H s->FO vP Z H Q->
  wpAny (model X.prog X.w) X.A (evalPairs (pairTrees keys values X.env pos)) (λvs s'=>∃ps H',Inv X aa Z H' s'/\VV ps vs/\Q ps H') X.xe s
def vE:Aq X pos [] [] []:=λaa s Z H Q I h=>pairTrees_nil_walk ⟨[],H,I,.nil,h⟩
def tZ{k v:Expr}{ks:List (aj Expr)}{vs:List Expr}{tk tv:TE}{vP:List (TE×TE)}(hk:PE X k tk)(hv:PE X v tv)(hr:Aq X pos ks vs vP):
  Aq X pos (some k::ks) (v::vs) ((tk,tv)::vP):=λaa s Z H Q I h=>
 pairTrees_cons_walk (bB (hk aa s Z H _ I h) λu s1 ⟨x,H1,I1,rx,q1⟩=>bB (hv aa s1 Z H1 _ I1 q1) λw2 s2 ⟨y,H2,I2,ry,q2⟩=> bB (hr aa s2 Z H2 _ I2 q2) λws s3 ⟨ps,H3,I3,rel,q3⟩=>⟨(x,y)::ps,H3,I3,.cons ⟨rx,ry⟩ rel,q3⟩)
structure M1 (X:Cx) (o:Expr) (m:Str) (apos:Pos) (e:Expr) (bD:Pos):Prop where
 base:attributeBase o m X.env (eval o X.env)=eval o X.env
 few:((backTo bD (starEach [e] X.env)).all (λx => !x.1)&&(backToKw bD (keywordEach [] X.env)).all (λx=>x.1.isSome) && decide (([e]:List Expr).length+([]:List Keyword).length+(if([]:List Keyword).isEmpty then 0 else 1)<30))=true
 line:(apos.endLine == bD.line)=true
 trees:backTo bD (starEach [e] X.env)=[(false,eval e X.env)]
structure M2 (X:Cx) (o:Expr) (m:Str) (apos:Pos) (e f:Expr) (bD:Pos):Prop where
 base:attributeBase o m X.env (eval o X.env)=eval o X.env
 few:((backTo bD (starEach [e,f] X.env)).all (λx => !x.1)&&(backToKw bD (keywordEach [] X.env)).all (λx=>x.1.isSome) && decide (([e,f]:List Expr).length+([]:List Keyword).length+(if([]:List Keyword).isEmpty then 0 else 1)<30))=true
 line:(apos.endLine == bD.line)=true
 trees:backTo bD (starEach [e,f] X.env)=[(false,eval e X.env),(false,eval f X.env)]
section
variable{X:Cx}{aa:List (ag×Obj)}{Z:St}{H:Hp}{s:aq}{a:ag}{y d:V}{u r:ai}{o:aj V}{A:cF}{E:ai->aq->Prop}
end
section
variable{X:Cx}{o e f:Expr}{apos bD:Pos}{td ty tx:TE}
end
section
variable{X:Cx}{aa:List (ag×Obj)}{Z:St}{H:Hp}{s:aq}{a:ag}{kvs:List (Key×V)}{A:cF}{E:ai->aq->Prop}
end
section
variable{X:Cx}{aa:List (ag×Obj)}{Z:St}{H:Hp}{s:aq}{a:ag}{y:V}{u:ai}{A:cF}{E:ai->aq->Prop}
end
end L2
namespace Mr
open PySem PySem.W PySem.Calls PyProof.Rows
variable{P:Params}{h:bJ}{l:OpenLaw}{n:Nat}
def Ss:∀(ns:List Int) (vs:List ai),WellAll P h vs (ns.map WData.int)->IntsAre vs ns:=by
 intro ns
 induction ns with
 |nil=>
  intro vs w;rw[Bs] at w;cases w;exact .nil
 |cons n ns ih=>
  intro vs w;rw[bY] at w;cases w with
  |cons a b=>
   cases a;exact .cons _ _ (ih _ b)
def Ut(hn:l.most=some n){args:List WData}{vals:List ai}
  (vp:l.row.toRowW.claim.pre args=true) (GV:WellAll P h vals args) :
  ∃a vs ns,vals=[Value.ref a]/\args=[WData.list (ns.map WData.int)]/\h.get? a=some { cls:=.type "list",data:=.seq vs.toArray}/\IntsAre vs ns/\ns.length<=n:=by
 have hsh:WShape.hasAll [] args [.list .int]=true:=(pre_splitW vp).1;have hc:l.pre.holds [] { args:=args}=true:=(pre_splitW vp).2;obtain⟨d,r,rfl,h1,h2⟩:=hasAllW_cons hsh;obtain rfl:=hasAllW_nil h2;obtain⟨xs,rfl,h3⟩:=hasW_list h1;obtain⟨ns,rfl⟩:=items_int h3;have hlen:ns.length<=n:=by
  unfold OpenLaw.pre at hc;have h4:(WTm.not (.lt (.lit (.int (n:Int))) (.len (.arg 0)))).holds [] { args:=[.list (ns.map .int)]}=true:=by
   have h4:=(holds_andW hc).1;rw[hn] at h4;exact h4
  have h5:=condW_of h4 (w_not (w_lt w_lit (w_len_list (w_arg rfl))))
  simp_all
 cases GV with
 |cons w1 w2=>
  cases w2;cases w1 with
  |list ho jA=>exact⟨_,_,ns,rfl,rfl,ho,Ss ns _ jA,hlen⟩
def Uv(l:OpenLaw)(args:List WData):l.row.toRowW.claim.post args (.bool true) args=true:=
 postW_of (r:=l.row.toRowW) (X:=(true == true))
  (show WShape.has [] (.bool true) .bool=true by first|rfl|decide|simp[WShape.has,WShape.arms,WShape.armsAll])
  (show(WTm.eq .res (.lit (.bool true))).value [] { args:=args,res:=some (.bool true),after:=args}=some (.bool (true == true)) from w_eq_bool (w_res rfl) w_lit) rfl
def nJ{q:cS}{loose:List Str}{XP:(Str->aj ai)->bJ->Prop}{YP:ck->bJ->Prop}{d:DefRec}
  (hn:l.most=some n) (Df:d.params.defaults=[])
  (call:∀(w:ck) (s₀ s₁:aq) (mg mb:Str->aj ai) (fa:ag) (o:Obj) (pm cd doc:ai) (a:ag) (vs:List ai) (ns:List Int),Ground q loose [] XP w s₀ mg mb s₁.heap->YP w s₁.heap-> s₁.heap.get? fa=some o->o.data=.func (docDef d.name d.params d.body d.scope pm cd doc)->s₁.heap.CodeRec cd d.name->mg d.name=some (.ref fa)-> s₁.heap.get? a=some { cls:=.type "list",data:=.seq vs.toArray}->IntsAre vs ns->ns.length<=n->s₁.gens=#[]-> codeAny (model l.prog w) callerA (.call (.ref fa) ⟨[.ref a],[]⟩) (λr s'=>r=.ok (.ret (.bool true))/\OldK s₁.heap s'.heap/\s'.os=s₁.os/\AllBare s'.gens) s₁) :
  WalkO q loose XP YP l.row.toRowW d [] (λf vs=>PySem.call f vs):=by
 intro w s₀ s₁ mg mb G Y fa o pm cd doc dV kV ho hd qZ hD hmg hg args vals as vp hlay hrd GV hlo;obtain rfl:dV=.none:=Dflts.none hD Df;obtain rfl:kV=.none:=Dflts.noKw hD;obtain⟨a,vs,ns,rfl,rfl,zu,hints,hlen⟩:=Ut hn vp GV;refine enter_call (codeAny_mono (call w s₀ s₁ mg mb fa o pm cd doc a vs ns G Y ho (fd_plain hd) qZ hmg zu hints hlen hg) λr s' hq=>?_)
 obtain⟨rfl,h2,h3,h4⟩:=hq;exact⟨.inl ⟨.bool true,.bool true,[],rfl,λ_=>rfl,.bool true,Uv l _,λ_=>⟨List.Pairwise.nil,λ_ hm=>(nomatch hm)⟩⟩,h2,h3,h4⟩
section
variable{prog:cS}{w:ck}{A:cF}{E:ai->aq->Prop}{s:aq}{K:Frag}
end
end Mr
namespace L2
open PySem PySem.Spec PyProof.Rows
theorem Nx:∀{vs:List ai} {ns:List Int},IntsAre vs ns->Vals (ns.map V.int) vs
 |_,_,.nil=>.nil
 |_,_,.cons n t h=>.cons ⟨t,rfl⟩ (Nx h)
def ye(H:Hp):Prop:=∀b,H b=none\/∃o xs,H b=some (.Y o (.lst xs))
def VH{P:cS}{w:ck}{K:PySem.W.Frag}{mg mb:Str->aj ai}{CX:ui}{k:Nat}{fa a:ag}{fd:bR}{x:Str}{sp:Sp}{s₁:aq}{vs:List ai}{ns:List Int}
  (KX:K.In s₁.heap) (GR:s₁.heap.Ns mainGlobals mg) (hb:s₁.heap.Ns builtinsNs mb) (hbb:∀x:Str,x≠"__name__"->mb x=bootBuiltins x) (Ko:s₁.heap.NoLimit) (hg:s₁.gens=#[])
  (ha:s₁.heap.get? a=some { cls:=.type "list",data:=.seq vs.toArray}) (hi:IntsAre vs ns) (hl:ns.length<=sizeLine) (hr:bZ k callerA)
  (F:∀base:bJ,K.In base->base.Ns mainGlobals mg->dk P w K mg base CX k fa fd [x] sp) (C9:∀(s:aq) (u:ai),BindsTo s fd ⟨[u],[]⟩ [(x,u)])
  (wU:∀H:Hp,ye H->cC K H a (ns.map V.int)->sp [.ref a] H (λv _=>v=.bl true) λ_ _ _=>False)
  (J8:∀H e s',CX [] H s₁ (λ_ _ _=>False) e s'->False) :
  codeAny (model P w) callerA (.call (.ref fa) ⟨[.ref a],[]⟩) (λr s'=>r=.ok (.ret (.bool true))/\OldK s₁.heap s'.heap/\s'.os=s₁.os/\AllBare s'.gens) s₁:=by
 have rv:=Nx hi;have KZ:=hi.length;have core:∀H:Hp,ye H->cC K H a (ns.map V.int)->iO P w H s₁.heap->(∀b,H b≠none->b=a)->(H a≠none->K.lookup a=none)->
   codeAny (model P w) callerA (.call (.ref fa) ⟨[.ref a],[]⟩) (λr s'=>r=.ok (.ret (.bool true))/\OldK s₁.heap s'.heap/\s'.os=s₁.os/\AllBare s'.gens) s₁:=by
  intro H hO hS bh hA hK;have p_:∀{b:ag} {o:Obj},s₁.heap.get? b=some o->H b=none->(mK s₁.heap H).get? b=some o:=λe n=>Vs e n
  have DH:∀{b:ag} {o:Obj} {es:Array DictEntry} {ep:Nat},s₁.heap.get? b=some o->o.data=.dict es ep->H b=none:=λ{b o es ep} e d=>by
   grind
  have G4:∀{b:ag} {m:Str->aj ai},s₁.heap.Ns b m->(mK s₁.heap H).Ns b m:=λ{b m} ⟨o,es,ep,e,d,r⟩=>⟨o,es,ep,p_ e (DH e d),d,r⟩
  have Rb:K.In (mK s₁.heap H):=λb o e=>p_ (KX b o e) (by
   grind)
  have hM:Mod K mg (mK s₁.heap H):=⟨Rb,G4 GR,⟨mb,G4 hb,hbb⟩,let ⟨mc,h1,h2⟩:=Ko;⟨mc,G4 h1,h2⟩⟩
  have e0:pA P w K mg (mK s₁.heap H) callerA [] s₁ H:=⟨rfl,hM,λb o e=>XE e,Br (Ue _ _),trivial,λb hb=>bT (show b∈([]:List ag) from hb) (by simp),bh,.of_eq hg⟩
  refine codeAny_mono ((F _ Rb (G4 GR)).run callerA [] s₁ H ⟨[.ref a],[]⟩ [.ref a] [.ref a] _ _ hr e0 (C9 s₁ (.ref a)) (.cons rfl .nil) (wU H hO hS)) λr s' h=>?_
  cases r with
  |error e=>exact(J8 H e s' h).elim
  |ok fl=>
   cases fl with
   |next=>exact False.elim h
   |brk=>exact False.elim h
   |cont=>exact False.elim h
   |ret u=>
    obtain⟨v,H',os,bare,un,Kt,r',q⟩:=h;have q':v=.bl true:=q;subst q';obtain rfl:u=Value.bool true:=r';refine⟨rfl,OldK.of_keep λb o e=>?_,os,bare⟩
    cases q:H b with
    |none=>exact un.keep b o e q (by intro z;exact bT (show b∈([]:List ag) from z) (by simp)) (by simp)
    |some u=>
     rcases hO b with z|⟨ob,xs,z⟩
     .rw[q] at z;cases z
     .have z2:=un.kj b ob _ z;obtain⟨e1,_⟩:=bh b _ z;obtain⟨e2,_⟩:=Kt b _ z2
      lia
 cases hk:K.lookup a with
 |some o=>
  have e:=KX a o hk;rw[ha] at e;cases e;refine core (λ_=>none) (λ_=>.inl rfl) (.inr ⟨_,vs.toArray,_,hk,rfl,rfl,rfl,by rw[de,KZ];exact hl,by simpa using rv⟩) (λb u z=>by have z':(none:aj HO)=some u:=z;cases z') (λb z=>bT rfl z) λz=>bT rfl z
 |none=>
  refine core (λb=>if b=a then some (.Y { cls:=.type "list",data:=.seq vs.toArray} (.lst (ns.map V.int))) else none) (λb=>?_) (.inl (.inr ⟨{ cls:=.type "list",data:=.seq vs.toArray},aN rfl⟩)) (λb u z=>?_) (λb z=>?_) λ_=>hk
  .by_cases hb:b=a
   .exact .inr ⟨_,_,aN hb⟩
   .exact .inl (aJ hb)
  .by_cases hb:b=a
   .have z':=(aN hb).symm.trans z;cases z';subst hb;exact⟨ha,by rw[aY];exact hl,vs,_,rv,ha⟩
   .have z':=(aJ hb).symm.trans z;cases z'
  .by_cases hb:b=a
   .exact hb
   .exact bT (aJ hb) z
def vX{l:PySem.W.OpenLaw}{n k:Nat}{q:cS}{loose:List Str}{XP:(Str->aj ai)->bJ->Prop}{YP:ck->bJ->Prop}{d:DefRec}{K:Params->PySem.W.Frag}{CX:ck->ui}{sp:ck->Sp}{x:Str}
  (hn:l.most=some n) (zq:n<=sizeLine) (Df:d.params.defaults=[]) (hr:bZ k callerA)
  (hY:∀(w:ck) (h:bJ),YP w h->(K w.params).In h)
  (F:∀(w:ck) (mg:Str->aj ai) (fa:ag) (h:bJ),(K w.params).In h->h.Ns mainGlobals mg->mg d.name=some (.ref fa)-> ∃fd:bR,(∀(s:aq) (u:ai),BindsTo s fd ⟨[u],[]⟩ [(x,u)])/\ ∀base:bJ,(K w.params).In base->base.Ns mainGlobals mg->dk l.prog w (K w.params) mg base (CX w) k fa fd [x] (sp w))
  (wU:∀(w:ck) (H:Hp) (a:ag) (ns:List Int),ns.length<=n->ye H->cC (K w.params) H a (ns.map V.int)->sp w [.ref a] H (λv _=>v=.bl true) λ_ _ _=>False)
  (J8:∀(w:ck) (H:Hp) (s:aq) (e:ai) (s':aq),CX w [] H s (λ_ _ _=>False) e s'->False) :
  PySem.W.WalkO q loose XP YP l.row.toRowW d [] (λf vs=>PySem.call f vs):=by
 refine Mr.nJ hn Df λw s₀ s₁ mg mb fa o pm cd doc a vs ns G Y ho hd qZ hmg zu hints hlen hg=>?_
 have KX:=hY w _ Y;obtain⟨fd,hb,hF⟩:=F w mg fa _ KX G.T.g hmg;exact VH KX G.T.g G.T.b G.T.builtins G.T.nolimit hg zu hints (jo hlen zq) hr hF hb (λH hO hS=>wU w H a ns hlen hO hS) λH e s'=>J8 w H s₁ e s'
variable{x qual:Str}{st:Stmt}{f:ag}{H H':Hp}
noncomputable def kJ(s:Stmt)(j:Nat):Stmt:=match s with
 |.ClassDef _ _ _ body _ _ _ _ _ _ _=>body.getD j (.Pass ⟨0,0,0,0⟩)
 |_=>.Pass ⟨0,0,0,0⟩
noncomputable def Cg(s:Stmt):Arguments:=match s with
 |.FunctionDef _ a _ _ _ _ _ _ _ _=>a
 |_=>{ posonlyargs:=[],args:=[],vararg:=none,kwonlyargs:=[],kw_defaults:=[],kwarg:=none,defaults:=[]}
def yz(s:Stmt):List Stmt:=match s with
 |.FunctionDef _ _ b _ _ _ _ _ _ _=>b
 |_=>[]
noncomputable def rE(s:Stmt):Scope:=match s with
 |.FunctionDef _ _ _ _ _ _ sc _ _ _=>sc
 |_=>{ kind:=.function,names:=[],isGenerator:=false,isCoroutine:=false}
structure Fun (K:PySem.W.Frag) (x qual:Str) (st:Stmt) (f:ag) (fd:bR):Prop where
 ex:∃(oc:ai) (od:aj ag) (kV doc pm:ai) (an:aj ag) (fV ct:ai) (uG:Array (aj ai)),
  fd=PySem.W.fnOf x qual (Cg st) (yz st) (rE st) .none kV doc pm an fV ct/\K.lookup f=some ⟨oc,od,.func fd,uG⟩/\PySem.W.codeIn K fV qual=true
 kp:PySem.W.keepIn K (.ref f)=true
section
variable{P:cS}{w:ck}{K:PySem.W.Frag}{mg:Str->aj ai}{base:bJ}
def Fun.binds{fd:bR}{ps:List Str}(F:Fun K x qual st f fd)
  (h:∀(kV doc pm:ai) (an:aj ag) (fV ct:ai) (us:List ai),us.length=ps.length->bindArgs (PySem.W.fnOf x qual (Cg st) (yz st) (rE st) .none kV doc pm an fV ct) ⟨us,[]⟩=pure (ps.zip us)):Binds K fd ps []:=by
 obtain⟨oc,od,kV,doc,pm,an,fV,ct,uG,rfl,lk,qZ⟩:=F.ex;exact .all (h kV doc pm an fV ct)
def fun_mk{oc:ai}{od an:aj ag}{uG:Array (aj ai)}{kV doc pm fV ct:ai}(l:K.lookup f=some ⟨oc,od,.func (PySem.W.fnOf x qual (Cg st) (yz st) (rE st) .none kV doc pm an fV ct),uG⟩)
  (c:PySem.W.codeIn K fV qual=true) (k:PySem.W.keepIn K (.ref f)=true):Fun K x qual st f (PySem.W.fnOf x qual (Cg st) (yz st) (rE st) .none kV doc pm an fV ct):=⟨⟨oc,od,kV,doc,pm,an,fV,ct,uG,rfl,l,c⟩,k⟩
end
section
variable{X:Cx}
def pv(i:Nat){pos:Pos}(hN:X.N[i]?=some x:=by rfl)(hv:EF X.env.scope x:=by first|exact Or.inl rfl|exact Or.inr (Or.inl rfl)|exact Or.inr (Or.inr rfl))(hd:(x == ("__debug__":Str))=false:=by decide)
  (qZ:(x == ("__classdict__":Str))=false:=by decide):PE X (.Name x pos) (z7 i):=P1 hN hv hd qZ
end
def tG{A B:Prop}(h:B):if false=true then A else B:=by
 rw[aJ oW];exact h
def tH{A B:Prop}(h:A):if true=true then A else B:=by
 rw[aN rfl];exact h
def av(H H':Hp):Prop:=∀b o,H b=some o->H' b=some o
def av.refl(H:Hp):av H H:=λ_ _ h=>h
def av.trans{H1 H2:Hp}(a:av H H1)(b:av H1 H2):av H H2:=λc o h=>b c o (a c o h)
def av.free(e:av H H'){l:ag}(h:H' l=Option.none):H l=Option.none:=by
 cases q:H l with
 |none=>rfl
 |some o=>
  rw[e l o q] at h;cases h
def av.seq{K:PySem.W.Frag}{a:ag}{xs:List V}(e:av H H')(h:cC K H a xs):cC K H' a xs:=by
 rcases h with(h|⟨o,h⟩)|h
 .exact .inl (.inl (e _ _ h))
 .exact .inl (.inr ⟨o,e _ _ h⟩)
 .exact .inr h
section
variable{κ:Type}[DecidableEq κ]
end
end L2
set_option maxHeartbeats 4000000
namespace L2
open PySem PySem.Spec PyProof.Rows
variable{env:Env}{names:List (Str×p5)}{x:Str}{c:ag}{scope:Scope}{X:Cx}
noncomputable def jZ(env:Env)(names:List (Str×p5)):List (Str×ag):=((names.filter λy=>y.2 == .free).reverse).map λy=>(y.1,(env.cells.lookup y.1).getD 0)
theorem MV{g:Str->ag}{x:Str}:∀{l:List (Str×p5)},(∃k,(x,k)∈l)->(l.map λy=>(y.1,g y.1)).lookup x=some (g x)
 |[],h=>by obtain⟨k,h⟩:=h;cases h
 |(n,k)::r,h=>by
  show List.lookup x ((n,g n)::_)=_;cases hx:x == n with
  |true=>
   simp_all
  |false=>
   simp only[rA,hx];refine MV (l:=r) ?_
   simp_all
theorem Mz{g:Str->ag}{x:Str}{c:ag}:∀{l:List (Str×p5)},(l.map λy=>(y.1,g y.1)).lookup x=some c->c=g x/\∃k,(x,k)∈l
 |[],h=>by cases h
 |(n,k)::r,h=>by
  have h:List.lookup x ((n,g n)::(r.map λy=>(y.1,g y.1)))=some c:=h
  cases hx:x == n with
  |true=>
   have e:x=n:=by simpa using hx
   subst e;simp only[rA,hx] at h;exact⟨(Option.some.inj h).symm,k,rq⟩
  |false=>
   simp only[rA,hx] at h;obtain⟨e,k',hk⟩:=Mz h;exact⟨e,k',pZ _ hk⟩
def N7(h:(x,NameKind.free)∈names)(hc:env.cells.lookup x=some c):(jZ env names).lookup x=some c:=by
 have:=MV (g:=λn=>(env.cells.lookup n).getD 0) (x:=x) (l:=(names.filter λy=>y.2 == .free).reverse) ⟨.free,by simp[h]⟩
 unfold jZ;rw[this,hc];rfl
def Jb(hf:∀y∈names,y.2=.free->∃c,env.cells.lookup y.1=some c)(h:(jZ env names).lookup x=some c):env.cells.lookup x=some c:=by
 obtain⟨e,k,hk⟩:=Mz (g:=λn=>(env.cells.lookup n).getD 0) h
 have wR:=qC.mp (L_.mp hk);obtain⟨c',mJ⟩:=hf _ wR.1 (by simpa using wR.2)
 have Ke:env.cells.lookup x=some c':=mJ;rw[e,Ke];rfl
theorem Ib{env:Env}:∀(names:List (Str×p5)) (cs:List (Str×ag)),(∀y∈names,y.2=.free->∃c,env.cells.lookup y.1=some c)->
  (forIn names cs (λ(x:Str×p5) (r:List (Str×ag))=>if(x.2 == NameKind.free)=true then(do let a <-cellOf env x.1;pure (ForInStep.yield ((x.1,a)::r))) else(pure (ForInStep.yield r):Sem (ForInStep (List (Str×ag)))))) =
   pure (jZ env names++cs)
 |[],cs,_=>by rw[List.forIn_nil];rfl
 |(n,k)::r,cs,h=>by
  rw[List.forIn_cons];cases hk:k == NameKind.free with
  |true=>
   obtain⟨c,hc⟩:=h (n,k) rq (by simpa using hk)
   have mJ:env.cells.lookup n=some c:=hc;have e:cellOf env n=pure c:=by unfold cellOf;rw[mJ]
   simp only[hk,uf,e,pure_bind];rw[Ib r _ λy hy=>h y (pZ _ hy)]
   congr 1
   unfold jZ;rw[ue];simp[hk,mJ]
  |false=>
   simp only[hk,rR,l_,pure_bind];rw[Ib r _ λy hy=>h y (pZ _ hy)]
   congr 1
   unfold jZ;rw[ue];simp[hk]
def Mv(h:∀y∈scope.names,y.2=.free->∃c,env.cells.lookup y.1=some c):closureFor scope env=pure (jZ env scope.names):=by
 have:=Ib (env:=env) scope.names [] h;rw[l9] at this;unfold closureFor;show(forIn scope.names [] _ >>= λr=>pure r)=_
 rw[bind_pure];exact this
theorem MI{env:Env}:∀{names:List (Str×p5)} {x:Str},names.lookup x=some .free->
  (names.map λ(n,k)=>if(k == NameKind.free&&env.scope.kind == .function&&env.kindOf n == some .cell) then(n,NameKind.cell) else(n,k)).lookup x=some .cell\/
  (names.map λ(n,k)=>if(k == NameKind.free&&env.scope.kind == .function&&env.kindOf n == some .cell) then(n,NameKind.cell) else(n,k)).lookup x=some .free
 |[],_,h=>by simp at h
 |(n,k)::r,x,h=>by
  have ih:=@MI env r x;show List.lookup x ((if(k == NameKind.free&&env.scope.kind == .function&&env.kindOf n == some .cell)=true then(n,NameKind.cell) else(n,k))::_)=_\/List.lookup x ((if(k == NameKind.free&&env.scope.kind == .function&&env.kindOf n == some .cell)=true then(n,NameKind.cell) else(n,k))::_)=_
  cases hx:x == n with
  |true=>
   simp only[rA,hx] at h;cases h;by_cases hc:(NameKind.free == NameKind.free&&env.scope.kind == .function&&env.kindOf n == some .cell)=true
   .rw[aN hc];simp[rA,hx]
   .rw[aJ hc];simp[rA,hx]
  |false=>
   simp only[rA,hx] at h;by_cases hc:(k == NameKind.free&&env.scope.kind == .function&&env.kindOf n == some .cell)=true
   .rw[aN hc];simp only[rA,hx];exact ih h
   .rw[aJ hc];simp only[rA,hx];exact ih h
theorem Ic{env:Env}:∀{names:List (Str×p5)} {x:Str} {q:p5},(q=.cell\/q=.free)->(∀y∈names,y.2≠.cell)->
  (names.map λ(n,k)=>if(k == NameKind.free&&env.scope.kind == .function&&env.kindOf n == some .cell) then(n,NameKind.cell) else(n,k)).lookup x=some q->(x,NameKind.free)∈names
 |[],_,_,_,_,h=>by simp at h
 |(n,k)::r,x,q,hq,hn,h=>by
  have ih:=@Ic env r x q hq λy hy=>hn y (pZ _ hy)
  have hk:k≠.cell:=hn (n,k) rq;have h:List.lookup x ((if(k == NameKind.free&&env.scope.kind == .function&&env.kindOf n == some .cell)=true then(n,NameKind.cell) else(n,k))::_)=some q:=h
  cases hx:x == n with
  |true=>
   have e:x=n:=by simpa using hx
   subst e;by_cases hc:(k == NameKind.free&&env.scope.kind == .function&&env.kindOf x == some .cell)=true
   .have hf:k=.free:=by
     simp only[lC,beq_iff_eq] at hc;exact hc.1.1
    subst hf;exact rq
   .rw[aJ hc] at h;simp only[rA,hx] at h;have e:k=q:=Option.some.inj h;rcases hq with rfl|rfl
    .exact bT e hk
    .rw[e];exact rq
  |false=>
   by_cases hc:(k == NameKind.free&&env.scope.kind == .function&&env.kindOf n == some .cell)=true
   .rw[aN hc] at h;simp only[rA,hx] at h;exact pZ _ (ih h)
   .rw[aJ hc] at h;simp only[rA,hx] at h;exact pZ _ (ih h)
def eV(X:Cx)(scope:Scope)(M:List Str)(C:ag)(s:aq)(H:Hp)(fp:List ag):Cx:=
 {X with N:=M,s₀:=s,H₀:=H,env:=compEnvC scope (jZ X.env scope.names) C X.env,outer:=X.stack,ex:=fp,fn:=λ_=>false,pn:=[],xe:=λ_ _=>False}
noncomputable def jY(k:Nat)(cM:List Nat)(Z:St):St:=List.replicate k none++cM.map λi=>(Z[i]?).join
def sr(X:Cx)(ifs:List Expr)(t:TT):Prop:=
 ∀(aa:List (ag×Obj)) (s:aq) (Z:St) (H:Hp) (Q:Bool->Hp->Prop),Inv X aa Z H s->t Z H Q->
  wpAny (model X.prog X.w) X.A (forIn ifs true λc r=>if r=true then do let ok <-isTrue c X.env (eval c X.env);pure (ForInStep.yield ok) else pure (ForInStep.yield r)) (TP X aa Z Q) X.xe s
def LR:TT:=λ_ H Q=>Q true H
def X6:sr X [] LR:=λ_ _ Z H _ I h=>wpAny_tests_nil ⟨H,I,h⟩
def X7{c:Expr}{t:TT}(hc:PT X c t):sr X [c] t:=λaa s Z H Q I h=>wpAny_tests_one (hc aa s Z H Q I h)
def Sl{prog:cS}{w:ck}{A:cF}{R:Result->aq->Prop}{s:aq}{elt target iter:Expr}{ifs:List Expr}{pos:Pos}{it aU:ai}(I:Nat->aq->Prop)
  (turn:∀n s,I n s->wpAny (model prog w) A (pyNext it) (λr s₁=>match r with
   |none=>R (.ok .next) s₁
   |some v=>wpAny (model prog w) A (letOwnedTupleGo target it v) (λ_ s₀=>wpAny (model prog w) A (assign target env v) (λ_ s₂=>
     wpAny (model prog w) A (forIn ifs true λc r=>if r=true then do let ok <-isTrue c env (eval c env);pure (ForInStep.yield ok) else pure (ForInStep.yield r)) (λok s₃=>
      if ok=true then wpAny (model prog w) A (eval elt env) (λx s₄=>
       wpAny (model prog w) A (call (.builtin "list.append") [aU,x]) (λ_ s₅=>∃m,m<n/\I m s₅) (λ_ _=>False) s₄) (λ_ _=>False) s₃
      else ∃m,m<n/\I m s₃) (λ_ _=>False) s₂) (λ_ _=>False) s₀) (λ_ _=>False) s₁) (λ_ _=>False) s)
  (n:Nat) (h:I n s) :
  codeAny (model prog w) A (.compLoop (.ListComp elt [⟨target,iter,ifs,0⟩] scope pos) 0 it aU env) R s:=by
 refine codeAny_loop rfl I (λn s hI=>?_) n h
 show wpAny _ A ((compTurn (.ListComp elt [⟨target,iter,ifs,0⟩] scope pos) 0 it aU env).onRaise (λx=>do noteFrame x env;theTreesLotGoes x)) _ _ s
 refine wpAny_noted ?_;rw[compTurn_list];refine ay (wpAny_standAt (ay (wpAny_mono (turn n s hI) (λr s₁ h₁=>?_) λ_ _ h'=>h'.elim)))
 cases r with
 |none=>exact aS h₁
 |some v=>
  refine ay (wpAny_mono h₁ (λ_ s₀ h₀=>?_) λ_ _ h'=>h'.elim)
  refine ay (wpAny_mono h₀ (λ_ s₂ h₂=>ay (wpAny_mono h₂ (λok s₃ h₃=>?_) λ_ _ h'=>h'.elim)) λ_ _ h'=>h'.elim)
  cases ok with
  |false=>exact aS ⟨rfl,h₃⟩
  |true=>
   exact ay (ay (wpAny_mono h₃ (λx s₄ h₄=>ay (wpAny_mono h₄ (λ_ s₅ h₅=>aS (aS ⟨rfl,h₅⟩)) λ_ _ h'=>h'.elim)) λ_ _ h'=>h'.elim))
variable{H:Hp}{s:aq}{fp:List ag}{wi:TI}
def Inv.Ee{X:Cx}{aa:List (ag×Obj)}{Z:St}{a:ag}{o:HO}(I:Inv X aa Z H s)(hn:H a=none)(hy:X.s₀.heap.objs.size<=a)(hL:a≠X.env.locals)(hC:∀x c,X.env.cells.lookup x=some c->c≠a)
  (hP:∀p∈X.pn++aa,p.1≠a) (new:bq X.prog X.w (upd H a o) s.heap a o):Inv X aa Z (upd H a o) s:=by
 refine⟨I.ok,I.os,I.bare,⟨I.base.keep,I.base.slot,λb ob e n hx=>?_,I.base.there,λb xs e=>?_,λb ob u e=>?_,λb ps e=>?_⟩,I.loc,I.cell,?_,λx c e=>?_,λp hp=>?_,λb u e=>?_,I.len⟩
 .rw[cP (gp (fM (cD e) hy))];exact I.base.free b ob e n hx
 .have z:=I.base.lB b xs e;rw[cP (sC z hn)];exact z
 .have z:=I.base.kj b ob u e;rw[cP (sC z hn)];exact z
 .obtain⟨m,z⟩:=I.base.lA b ps e;exact⟨m,by rw[cP (sC z hn)];exact z⟩
 .rw[cP (Ne.symm hL)];exact I.free
 .rw[cP (hC x c e)];exact I.ed x c e
 .obtain⟨e,n,r⟩:=I.pin p hp;exact⟨e,by rw[cP (hP p hp)];exact n,r⟩
 .by_cases hb:b=a
  .grind [aI]
  .rw[cP hb] at e;exact(I.bh b u e).m7 (λc v _ q=>q) (λc q=>by rw[cP (sC q hn)];exact q) λc xs q=>by rw[cP (sC q hn)];exact q
def p6(J:It)(g:TG)(tt:TT)(te:TE)(τ₀:St)(H1:Hp)(Fin:List V->Hp->Prop):Prop:=
 ∃(n:Nat) (W:Nat->St->List V->Hp->Prop),W 0 τ₀ [] H1/\∀i τ aU H,i<=n->W i τ aU H->
  (J.stop i H/\Fin aU H)\/(i<n/\J.go i H/\∀x H',J.uh i H x H'->g x τ H' λτ2 H2=>tt τ2 H2 λb H3=>if b=true then te τ2 H3 λv H4=>aU.length<sizeLine/\W (i+1) τ2 (aU++[v]) H4 else W (i+1) τ2 aU H3)
structure dD (X:Cx) (scope:Scope) (M:List Str) (k:Nat) (cM:List Nat):Prop where
 kind:scope.kind=.function
 cell:∀y∈scope.names,y.2≠.cell
 free:∀y∈scope.names,y.2=.free->X.env.kindOf y.1=some .cell\/X.env.kindOf y.1=some .free
 names:∀y∈scope.names,y.2=.local -> scope.names.lookup y.1=some .local
 len:M.length=k+cM.length
 JF:∀(j i:Nat) (x:Str),cM[j]?=some i->M[k+j]?=some x->X.N[i]?=some x/\scope.names.lookup x=some .free
section
variable{X:Cx}{aa:List (ag×Obj)}{Z:St}{tg elt iter:Expr}{ifs:List Expr}{scope:Scope}{pos:Pos}{M:List Str}{k:Nat}{cM:List Nat}{g:TG}{tt:TT}{te:TE}
def Inv.iF(I:Inv X aa Z H s)(ok:dD X scope M k cM):∀y∈scope.names,y.2=.free->∃c,X.env.cells.lookup y.1=some c:=λy hy e=>I.ok.has y.1 (ok.free y hy e)
def Inv.block{s4:aq}{C D:ag}{oD:Obj}{m:Str->aj ai}(I:Inv X aa Z H s)(ok:dD X scope M k cM)(f2:∀b∈fp,iN X aa H b)(GK:∀b∈fp,∃o,s.heap.get? b=some o/\∀v,o.data≠.cell v)
  (hC:s.heap.objs.size<=C) (C5:D≠C) (hD:s.heap.objs.size<=D) (old:∀b o,s.heap.get? b=some o->s4.heap.get? b=some o) (os:s4.os=s.os) (gens:s4.gens=s.gens)
  (ns:s4.heap.Ns C m) (Kr:s4.heap.get? D=some oD) (Kg:∀v,oD.data≠.cell v):Inv (eV X scope M C s H fp) [(D,oD)] (jY k cM Z) H s4:=by
 have hf:=I.iF ok;have fr:∀a,s.heap.objs.size<=a->H a=none:=λa ha=>I.bh.fresh ha
 have nfs:∀b∈kh X.stack,b<s.heap.objs.size:=λb hb=>by
  rcases y07.mp (I.kG b hb) with e|e
  .rw[e];exact I.lt
  .exact Nat.lt_of_not_le λz=>I.zH z e
 have cl:∀x c,(jZ X.env scope.names).lookup x=some c->X.env.cells.lookup x=some c:=λx c e=>Jb hf e
 refine⟨⟨I.ok.mod,ok.kind,I.ok.glob,I.ok.blt,hC,λx y c e1 e2=>I.ok.inj x y c (cl x c e1) (cl y c e2),λx hx=>?_,λx c e _=>?_,I.ok.hd,I.ok.frames,.inl rfl,λb hb=>?_,I.bs,jo I.ok.sH I.sz,λb o e hb=>?_,λb hb z=>?_,I.stack,I.jP⟩,os,by rw[gens];exact I.bare,Un.kept old,⟨m,ns,λi x v h1 h2 h3=>?_⟩,λx c e=>?_,fr C hC,λx c e=>I.ed x c (cl x c e),λp hp=>?_,I.bh.kept old,?_⟩
 .have hx:(relabel scope X.env).names.lookup x=some .cell\/(relabel scope X.env).names.lookup x=some .free:=hx;have hm:(x,NameKind.free)∈scope.names:=by
   rcases hx with h|h
   .exact Ic (env:=X.env) (.inl rfl) ok.cell h
   .exact Ic (env:=X.env) (.inr rfl) ok.cell h
  obtain⟨c,hc⟩:=hf _ hm rfl;exact⟨c,N7 hm hc⟩
 .cases e
 .obtain⟨f0,f1,f2,f3,f4,f5⟩:=f2 b hb;obtain⟨ob,eb,_⟩:=GK b hb;exact⟨gp (fM (cD eb) hC),λx c e=>f4 x c (cl x c e)⟩
 .obtain⟨f0,f1,f2,f3,f4,f5⟩:=f2 b hb;rcases f3 with q|q
  .exact I.ok.pT b o e q
  .exact bT (fM (cD e) (jo I.ok.sH q)) (jQ _)
 .obtain⟨f0,f1,f2,f3,f4,f5⟩:=f2 b hb;rcases y07.mp (I.kG b z) with q|q
  .exact f1 q
  .exact f2 q
 .unfold jY at h2;have hk:¬i<k:=λq=>by
   rw[xS (by simpa using q),L9] at h2
   split at h2 <;> cases h2
  rw[v5 (by simpa using hk),Bt,gq] at h2
  cases e:cM[i - k]? with
  |none=>rw[e] at h2;cases h2
  |some j=>
   rw[e] at h2;have C4:(Z[j]?).join=some v:=Option.some.inj h2;have hj:Z[j]?=some (some v):=by
    cases q:Z[j]? with
    |none=>rw[q] at C4;cases C4
    |some z=>rw[q] at C4;simp at C4;rw[C4]
   have zp:k+(i - k)=i:=by lia
   obtain⟨hN,s_⟩:=ok.JF (i - k) j x e (by rw[zp];exact h1)
   have hm:(x,NameKind.free)∈scope.names:=PySem.mem_of_lookup s_;have Rt:=ok.free _ hm rfl;obtain⟨mX,hnX,hlX⟩:=I.loc;obtain⟨u,ru,lk⟩:=hlX j x v hN hj (by rcases Rt with q|q;exact .inr (.inl q);exact .inr (.inr q))
   refine⟨u,ru,.inr ⟨MI (env:=X.env) s_,?_⟩⟩;rcases lk with⟨q,_⟩|⟨_,c,hc,qm⟩
   .rcases Rt with z|z
    .rw[show X.env.kindOf x=some .cell from z] at q;cases q
    .rw[show X.env.kindOf x=some .free from z] at q;cases q
   .exact⟨c,N7 hm hc,qm.keeps old⟩
 .obtain⟨v,z⟩:=I.cell x c (cl x c e);exact⟨v,z.keeps old⟩
 .have e:p=(D,oD):=by simpa[eV] using hp
  subst e;exact⟨Kr,fr D hD,C5,λz=>bT (fM (nfs D z) hD) (jQ _),Kg⟩
 .unfold jY;rw[cB,Bt,aY];exact ok.len.symm
def Ny{H2:Hp}{s2:aq}{J:It}{it:ag}{tn:Nat->bJ->Prop}{RR:ai->ag->Result->aq->Prop}{E:ai->aq->Prop}{Fin:List V->Hp->Prop}(I2:Inv X aa Z H2 s2)(hc:X.calm=true)(ok:dD X scope M k cM)
  (T:Turn X.prog X.w X.K tg J fp it tn) (rN:tn 0 s2.heap) (f2:∀b∈fp,iN X aa H2 b)
  (hg:∀C s H fp,PG (eV X scope M C s H fp) tg g) (ht:∀C s H fp,sr (eV X scope M C s H fp) ifs tt) (he:∀C s H fp,PE (eV X scope M C s H fp) elt te)
  (hW:p6 J g tt te (jY k cM Z) H2 Fin)
  (hRR:∀D C s' H' aU,Inv X aa Z (upd H' D (.lst aU)) s'->iN X aa (upd H' D (.lst aU)) C->(∃m,s'.heap.Ns C m)->H' D=none->Fin aU H'->RR (.ref D) C (.ok .next) s') :
  wpAny (model X.prog X.w) X.A (newList []) (λaU s₃=>wpAny (model X.prog X.w) X.A (newFunctionEnv scope X.env.globals (jZ X.env scope.names) [] X.env.qual none .none (some X.env)) (λCP s₄=> codeAny (model X.prog X.w) X.A (.compStart (.ListComp elt [⟨tg,iter,ifs,0⟩] scope pos) 0 (.ref it) aU { CP with scope:=relabel scope X.env}) (RR aU CP.locals) s₄) E s₃) E s2:=by
 refine wpAny_newObj_type (wpAny_newFunctionEnv ok.cell (by intro y hy;simp at hy) (λh₁ hns₁ hsb₁=>?_) ok.kind)
 dsimp only at hns₁ hsb₁ ⊢;generalize J_:s2.heap.push { cls:=.type "list",dict:=none,data:=.seq ([]:List ai).toArray}=H3 at hns₁ hsb₁ ⊢;have J9:H3.objs.size=s2.heap.objs.size+1:=by rw[<-J_,Heap.size_push]
 have C5:s2.heap.objs.size≠H3.objs.size:=by rw[J9];exact gp (v3 _)
 have below:∀b,b<s2.heap.objs.size->b≠H3.objs.size/\b≠s2.heap.objs.size:=λb hb=>⟨by rw[J9];exact gp (Ad hb),gp hb⟩
 have old:∀b o,s2.heap.get? b=some o->h₁.get? b=some o:=λb o e=>hsb₁.extBut b o (below b (cD e)).1 (cO _ (J_ ▸ cO _ e))
 have vk:h₁.get? s2.heap.objs.size=some { cls:=.type "list",data:=.seq ([]:List ai).toArray 0}:=hsb₁.extBut _ _ C5 (cO _ (J_ ▸ jq _ rfl));have GK:=T.obj 0 _ rN;have vj:s2.heap.objs.size<=H3.objs.size:=by rw[J9];exact qD _
 obtain⟨N,W,w0,turn⟩:=hW;have R8:tn 0 h₁:=T.keep _ _ _ rN λb _ o e=>old b o e
 have loop:∀s₃:aq,s₃={ s2 with heap:=h₁,toks:=s2.toks+([]:List (Str×ai)).length}->
   codeAny (model X.prog X.w) X.A (.compLoop (.ListComp elt [⟨tg,iter,ifs,0⟩] scope pos) 0 (.ref it) (.ref s2.heap.objs.size) (compEnvC scope (jZ X.env scope.names) H3.objs.size X.env))
    (RR (.ref s2.heap.objs.size) H3.objs.size) s₃:=by
  rintro s₃ rfl;have I3:Inv (eV X scope M H3.objs.size s2 H2 fp) [(s2.heap.objs.size,{ cls:=.type "list",data:=.seq ([]:List ai).toArray 0})] (jY k cM Z) H2 { s2 with heap:=h₁,toks:=s2.toks+([]:List (Str×ai)).length}:=
   I2.block ok f2 GK vj C5 (bG _) old rfl rfl hns₁ vk (λv z=>by cases z)
  have JZ:∀b∈fp,b≠H3.objs.size/\b≠s2.heap.objs.size:=λb hb=>let ⟨o,e,_⟩:=GK b hb;below b (cD e)
  have pX:∀{H':Hp} {oD:Obj},(∀b∈fp,H' b=none)->∀b∈fp,iN (eV X scope M H3.objs.size s2 H2 fp) [(s2.heap.objs.size,oD)] H' b:=λ{H' oD} hn b hb=>by
   obtain⟨f0,f1,f2,f3,f4,f5⟩:=f2 b hb;refine⟨hn b hb,(JZ b hb).1,λz=>?_,.inl hb,λx c e=>f4 x c (Jb (I2.iF ok) e),λp hp z=>?_⟩
   .rcases y07.mp (I2.kG b z) with q|q
    .exact f1 q
    .exact f2 q
   .have e:p=(s2.heap.objs.size,oD):=by simpa[eV] using hp
    subst e;exact(JZ b hb).2 z.symm
  refine Sl (λn s'=>∃(i:Nat) (τ:St) (aU:List V) (us:List ai) (c:Nat) (H':Hp),Vals aU us/\aU.length<=sizeLine/\ Inv (eV X scope M H3.objs.size s2 H2 fp) [(s2.heap.objs.size,{ cls:=.type "list",data:=.seq us.toArray c})] τ H' s'/\tn i s'.heap/\(∀b∈fp,H' b=none)/\n=N - i/\i<=N/\W i τ aU H') ?_ N
   ⟨0,jY k cM Z,[],[],0,H2,.nil,lD _,I3,R8,λb hb=>(f2 b hb).1,rfl,lD _,w0⟩
  rintro n s3 ⟨i,τ,aU,us,c,H',rv,hlen,I,st,fr,rfl,hiN,w⟩;have pinD:=(I.pin (s2.heap.objs.size,{ cls:=.type "list",data:=.seq us.toArray c}) (by simp[eV]))
  rcases turn i τ aU H' hiN w with⟨stop,qn⟩|⟨mO,go,step⟩
  .refine bB (T.done (eV X scope M H3.objs.size s2 H2 fp) rfl rfl rfl hc i _ s3 τ H' (λ_ _=>False) I (pX fr) st stop) λr s4 ⟨hr,I4⟩=>?_
   subst hr;have tY:=(I4.pin (s2.heap.objs.size,{ cls:=.type "list",data:=.seq us.toArray c}) (by simp[eV]))
   have kO:∀b∈fp,(b∈X.ex\/X.s₀.heap.objs.size<=b)/\b≠X.env.locals/\(∀x c,X.env.cells.lookup x=some c->c≠b)/\∀p∈X.pn++aa,p.1≠b:=λb hb=>by
    obtain⟨f0,f1,f2,f3,f4,f5⟩:=f2 b hb;exact⟨f3,f1,f4,f5⟩
   have J1:Inv X aa Z H' s4:=I2.wz (ch:=fp) I4.os I4.base I4.bh I4.bare kO;have young:X.s₀.heap.objs.size<=s2.heap.objs.size:=I2.sz;have apart:∀a,s2.heap.objs.size<=a->a≠X.env.locals/\(∀x c,X.env.cells.lookup x=some c->c≠a)/\∀p∈X.pn++aa,p.1≠a:=λa ha=>
    ⟨xR (fM I2.lt ha),λx c e z=>by
     obtain⟨v,q⟩:=I2.cell x c e;exact bT (fM q.lt (by rw[z];exact ha)) (jQ _),λp hp z=>bT (fM (cD (I2.pin p hp).1) (by rw[z];exact ha)) (jQ _)⟩
   have aD:=apart _ (bG _);have aC:=apart _ vj;have J2:Inv X aa Z (upd H' s2.heap.objs.size (.lst aU)) s4:=J1.Ee tY.2.1 young aD.1 aD.2.1 aD.2.2 ⟨hlen,us,c,rv,tY.1⟩;obtain⟨m,hn,_⟩:=I4.loc;have hCn:H' H3.objs.size=none:=I4.free;refine hRR _ _ s4 H' aU J2 ⟨?_,aC.1,I2.zH vj,.inr (jo young vj),aC.2.1,aC.2.2⟩ ⟨m,hn⟩ tY.2.1 qn;rw[cP (Ne.symm C5)];exact hCn
  .refine bB (T.item (eV X scope M H3.objs.size s2 H2 fp) rfl rfl rfl hc i _ s3 τ H' (λ_ _=>False) I (pX fr) st go) λr s4 ⟨u,hr,h4⟩=>?_
   subst hr;refine bB h4 λ_ s5 hh=>?_
   obtain⟨x,H5,I5,r5,y5,z5,J3⟩:=hh;have Hy:=I5.pinned (pX J3) (T.obj _ _ z5);refine bB (hg _ _ _ _ _ s5 τ H5 x u _ Hy r5 (step x H5 y5)) λ_ s6 hh=>?_
   obtain⟨τ6,H6,I6,q6⟩:=hh;refine bB (ht _ _ _ _ _ s6 τ6 H6 _ I6 q6) λb s7 hh=>?_
   obtain⟨H7,I7,q7⟩:=hh;have tJ:∀{s':aq} {τ':St} {Hn:Hp},Inv (eV X scope M H3.objs.size s2 H2 fp) ([(s2.heap.objs.size,{ cls:=.type "list",data:=.seq us.toArray c})]++Cw fp s5.heap) τ' Hn s'->tn (i+1) s'.heap/\∀b∈fp,Hn b=none:=λ{s' τ' Hn} I'=>by
    refine⟨T.keep _ _ _ z5 λb hb o e=>(I'.pin (b,o) (pk _ (pk _ (BZ hb e)))).1,λb hb=>?_⟩
    obtain⟨o,e,d⟩:=T.obj _ _ z5 b hb;exact(I'.pin (b,o) (pk _ (pk _ (BZ hb e)))).2.1
   cases b with
   |false=>
    rw[aJ oW] at q7;show ∃m,m<N - i/\_;obtain⟨st7,fr7⟩:=tJ I7;exact⟨N - (i+1),by lia,i+1,τ6,aU,us,c,H7,rv,hlen,I7.eE,st7,fr7,rfl,mO,q7⟩
   |true=>
    rw[aN rfl] at q7;show wpAny _ _ (eval elt _) _ _ s7;refine bB (he _ _ _ _ _ s7 τ6 H7 _ I7 q7) λv s8 hh=>?_
    obtain⟨y,H8,I8,r8,hl8,w8⟩:=hh;obtain⟨st8,fr8⟩:=tJ I8;have l5:=(I8.pin (s2.heap.objs.size,{ cls:=.type "list",data:=.seq us.toArray c}) (by simp[eV]))
    have hul:=rv.length;refine append_at (hsz:=by show us.toArray.size<=sizeLine;rw[de,<-hul];exact hlen) l5.1 λh9 R7 e9=>?_
    have e9':h9.get? s2.heap.objs.size=some { cls:=.type "list",data:=.seq (us++[v]).toArray (c+1)}:=by rw[e9,List.push_toArray]
    have Sj:=I8.eE;have C6:s2.heap.objs.size≠(eV X scope M H3.objs.size s2 H2 fp).env.locals:=l5.2.2.1;have nx:∀(b:ag),H8 b≠none->b≠s2.heap.objs.size:=λb hb z=>hb (by rw[z];exact l5.2.1)
    refine⟨N - (i+1),by lia,i+1,τ6,aU++[y],us++[v],c+1,H8,rv.append (.cons r8 .nil),by rw[cB,ud];exact hl8,?_,?_,fr8,rfl,mO,w8⟩
    .have I9:Inv (eV X scope M H3.objs.size s2 H2 fp) [] τ6 H8 s8:=Sj.jM (λp hp=>bT hp (by simp))
     have Si:Inv (eV X scope M H3.objs.size s2 H2 fp) [] τ6 H8 { s8 with heap:=h9}:=I9.turned (t':=s8.toks) (λb o hb e=>(R7.2 b hb).trans e) l5.2.1 C6 (.inr (bG _))
      (λx cc e z=>by
       obtain⟨v',q⟩:=I2.cell x cc (Jb (I2.iF ok) e);exact bT (fM q.lt (by rw[z];exact bG _)) (jQ _)) (λp hp=>bT hp (by simp[eV]))
     refine Si.jM λp hp=>?_
     have e:p=(s2.heap.objs.size,{ cls:=.type "list",data:=.seq (us++[v]).toArray (c+1)}):=by simpa using hp
     subst e;exact⟨e9',l5.2.1,C6,l5.2.2.2.1,λv' z=>by cases z⟩
    .exact T.keep _ _ _ st8 λb hb o e=>R7.extBut b o (JZ b hb).2 e
 exact codeAny_compStart_list (loop _ rfl) (T.self _ 0 _ _ _ R8 (loop _ rfl))
def xO(wi:TI)(g:TG)(tt:TT)(te:TE)(k:Nat)(cM:List Nat):TE:=λZ H Q=>wi Z H λJ H1=>p6 J g tt te (jY k cM Z) H1 λaU H'=>∀l,H' l=none->Q (.ref l) (upd H' l (.lst aU))
def X8(hc:X.calm=true)(ok:dD X scope M k cM)(hi:PI X tg iter wi)
  (hg:∀C s H fp,PG (eV X scope M C s H fp) tg g) (ht:∀C s H fp,sr (eV X scope M C s H fp) ifs tt) (he:∀C s H fp,PE (eV X scope M C s H fp) elt te)
  (hs:∀x,foldedSetIterable iter X.env x=pure x:=by intro _;rfl):PE X (.ListComp elt [⟨tg,iter,ifs,0⟩] scope pos) (xO wi g tt te k cM):=by
 intro aa s Z H Q I h;rw[eval_ListComp];refine wpAny_comprehension_free (use:=none) rfl hs (Mv (I.iF ok)) ok.kind ok.names (bB (hi aa s Z H _ I h) λv s1 h1=>bB h1 λG1 s2 h2=>?_)
 obtain⟨it,fp,tn,J,H2,e,I2,T,rN,f2,hW⟩:=h2;subst e;refine Ny (RR:=λaU C=>compPost (model X.prog X.w) X.A X.xe none (EP X aa Z Q) aU C) I2 hc ok T rN f2 hg ht he hW ?_
 intro D C s' H' aU I' fC ⟨m,hn⟩ hD hq;refine⟨m,hn,λh' sb=>?_⟩
 obtain⟨f0,f1,f2,f3,f4,f5⟩:=fC;exact⟨.ref D,_,I'.turned (t':=s'.toks) (λb o hb e=>(sb.2 b hb).trans e) f0 f1 f3 f4 f5,rfl,hq D hD⟩
def DY(wi:TI)(g:TG)(tt:TT)(te:TE)(k:Nat)(cM:List Nat)(i:Nat):TS:=λD Z H=>xO wi g tt te k cM Z H λv H'=>D.nx (Z.set i (some v)) H'
def Yi{i:Nat}{x:Str}{px oR:Pos}(hc:X.calm=true)(ok:dD X scope M k cM)(hN:X.N.Nodup)(zp:X.N[i]?=some x)(hx:Loc X.env.scope x)(hi:PI X tg iter wi)
  (hg:∀C s H fp,PG (eV X scope M C s H fp) tg g) (ht:∀C s H fp,sr (eV X scope M C s H fp) ifs tt) (he:∀C s H fp,PE (eV X scope M C s H fp) elt te)
  (Ds:swapsWith (.ListComp elt [⟨tg,iter,ifs,0⟩] scope pos) (some (.Name x px)) oR.line X.env=pure true)
  (hs:∀x,foldedSetIterable iter X.env x=pure x:=by intro _;rfl) (hf:X.fn x=true\/X.env.scope.names.lookup x=some .local := by first|exact .inl rfl|exact .inr rfl|assumption) :
  PS X (.Assign [.Name x px] (.ListComp elt [⟨tg,iter,ifs,0⟩] scope pos) oR) (DY wi g tt te k cM i):=by
 intro aa s Z H D I h;rw[exec_Assign_Name_used _ _ _ _ Ds];refine ay (wpAny_standAt (ay ?_));show wpAny _ X.A (do let _ <-comprehension (.ListComp elt [⟨tg,iter,ifs,0⟩] scope pos) scope X.env _ (newList []) false (eval iter X.env) (some (assign (.Name x px) X.env))) _ _ s
 refine ay (wpAny_mono (wpAny_comprehension_free (use:=some (assign (.Name x px) X.env)) (Q:=λ_ s'=>SP X aa D .next s') rfl hs (Mv (I.iF ok)) ok.kind ok.names (bB (hi aa s Z H _ I h) λv s1 h1=>bB h1 λG1 s2 h2=>?_)) (λ_ s' hq=>aS (aS hq)) λ_ _ e=>e)
 obtain⟨it,fp,tn,J,H2,e,I2,T,rN,f2,hW⟩:=h2;subst e;refine Ny (RR:=λaU C=>compPost (model X.prog X.w) X.A X.xe (some (assign (.Name x px) X.env)) (λ_ s'=>SP X aa D .next s') aU C) I2 hc ok T rN f2 hg ht he hW ?_
 intro D' C s' H' aU I' fC ⟨m,hn⟩ hD hq;obtain⟨f0,f1,f2,f3,f4,f5⟩:=fC;show wpAny _ X.A (assign (.Name x px) X.env (.ref D')) _ _ _;refine wpAny_assign_Name (Nr I' hN zp hx (v:=.ref D') rfl (λt7 Sh hh=>?_) hf)
 obtain⟨a,sb,ha⟩:=hh;have hCa:C≠a:=by
  rcases ha with e|e
  .rw[e];exact f1
  .exact λz=>f4 _ _ e z.symm
 refine⟨m,hn.sameBut sb hCa,λh' sb'=>⟨_,_,Sh.turned (t':=t7.toks) (λb o hb e=>(sb'.2 b hb).trans e) f0 f1 f3 f4 f5,hq D' hD⟩⟩
end
variable{w:ck}{tg:Expr}{X:Cx}
def k_(c:Nat):Str:=⟨#[c]⟩
def EA(x:Str):It:=⟨λi _=>i<x.cps.size,λi H v H'=>H'=H/\∃c,x.cps[i]?=some c/\v=.str (k_ c),λi _=>x.cps.size<=i⟩
def VI{P:cS}{K:PySem.W.Frag}(it:ag)(x:Str)(t:Tok)(ty:String)(vq:ty="str_ascii_iterator"\/ty="str_iterator"):Turn P w K tg (EA x) [it] it (λi h=>h.IsStrIter it ty x t i) where
 mem:=by simp
 obj:=λi h st b hb=>by
  have e:b=it:=by simpa using hb
  subst e;obtain⟨o,e,c,d⟩:=st;exact⟨o,e,λv z=>by rw[d] at z;cases z⟩
 keep:=λi h h' st k=>by
  obtain⟨o,e,c,d⟩:=st;exact⟨o,k it (by simp) o e,c,d⟩
 item:=by
  intro X hP hw hK hc i aa s Z H E I hf st hg;subst hP hw hK;have hi:i<x.cps.size:=hg;obtain⟨f0,f1,f2,f3,f4,f5⟩:=hf it (by simp)
  have fin:∀h',h'.IsStrIter it ty x t (i+1)->Heap.SameBut it s.heap h'->∃u,some (Value.str ⟨#[x.cps[i]]⟩ s.toks)=some u/\
    wpAny (model X.prog X.w) X.A (letOwnedTupleGo tg (.ref it) u) (λ_ s2=>∃y H',Inv X aa Z H' s2/\RelV y u/\(EA x).uh i H y H'/\s2.heap.IsStrIter it ty x t (i+1)/\∀b∈[it],H' b=none) E { s with heap:=h',toks:=s.toks+1}:=λh' jO sb=>by
   have I1:Inv X aa Z H { s with heap:=h',toks:=s.toks+1}:=I.turned (λb o hb e=>(sb.2 b hb).trans e) f0 f1 f3 f4 f5
   obtain⟨o,e,c,d⟩:=id jO;refine⟨_,rfl,yM (s:={ s with heap:=h',toks:=s.toks+1}) e c d (by rcases vq with z|z <;> subst z <;> decide) ⟨.str (k_ x.cps[i]),H,I1,⟨_,rfl⟩,⟨rfl,_,by simp[hi],rfl⟩,jO,λb hb=>(hf b hb).1⟩⟩
  rcases vq with z|z
  .subst z;exact wpAny_pyNext_ascii_item st (c:=x.cps[i]) (by simp[hi]) fin
  .subst z;exact wpAny_pyNext_wide_item st (c:=x.cps[i]) (by simp[hi]) fin
 done:=by
  intro X hP hw hK hc i aa s Z H E I hf st hg;subst hP hw hK;have hi:x.cps.size<=i:=hg;obtain⟨f0,f1,f2,f3,f4,f5⟩:=hf it (by simp)
  rcases vq with z|z
  .subst z;exact wpAny_pyNext_ascii_end (I.ok.hd hc) st (by simp;lia) λh' eb=>⟨rfl,I.turned (t':=s.toks) (λb o hb e=>eb b o hb e) f0 f1 f3 f4 f5⟩
  .subst z;exact wpAny_pyNext_wide_end (I.ok.hd hc) st (by simp;lia) λh' eb=>⟨rfl,I.turned (t':=s.toks) (λb o hb e=>eb b o hb e) f0 f1 f3 f4 f5⟩
 self:=λ_ _ _ _ _ st h=>by
  rcases vq with z|z
  .subst z;exact wpAny_pyIter_striter_ascii st h
  .subst z;exact wpAny_pyIter_striter_wide st h
def Dx(tl:TE):TI:=λZ H R=>tl Z H λx H1=>∃z,x=.str z/\R (EA z) H1
def e0c{l:Expr}{tl:TE}(hl:PE X l tl):PI X tg l (Dx tl):=by
 intro aa s Z H R I h;refine bB (hl aa s Z H _ I h) λv s1 hh=>?_
 obtain⟨x,H1,I1,r1,q1⟩:=hh;obtain⟨z,e,q⟩:=q1;subst e;obtain⟨t,rfl⟩:=r1;have key:∀ty:String,ty="str_ascii_iterator"\/ty="str_iterator"->HH X aa Z tg R (.ref s1.heap.objs.size) { s1 with heap:=s1.heap.push { cls:=.type ty,data:=.fields #[.str z t,.int 0 0]}}:=λty vq=>by
  refine⟨s1.heap.objs.size,[s1.heap.objs.size],_,_,H1,rfl,I1.kept (t':=s1.toks) λb o e=>cO _ e,VI _ z t ty vq,⟨_,jq _ (by rcases vq with e|e <;> subst e <;> rfl),rfl,rfl⟩,λb hb=>?_,q⟩
  have e:b=s1.heap.objs.size:=by simpa using hb
  subst e;exact I1.lj (bG _) (I1.bh.fresh (bG _))
 cases ha:z.cps.all (· < 128)
 .exact wpAny_pyIter_wide ha (key _ (.inr rfl))
 .exact wpAny_pyIter_ascii ha (key _ (.inl rfl))
def fO(names outer:List (Str×p5))(N M:List Str)(k:Nat)(cM:List Nat):Bool:=
 names.all (λy=>y.2 != .cell)&&(names.all (λy=>y.2 != .free || (outer.lookup y.1 == some .cell || outer.lookup y.1 == some .free))&&(names.all (λy=>y.2 != .local || names.lookup y.1 == some .local) && (M.length == k+cM.length&&(List.range cM.length).all (λj=>match cM[j]?,M[k+j]? with|some i,some x=>N[i]? == some x&&names.lookup x == some .free|_,_=>true))))
def dD.of{scope:Scope}{M:List Str}{k:Nat}{cM:List Nat}(outer:List (Str×p5))(N:List Str)(h:fO scope.names outer N M k cM=true)(ho:X.env.scope.names=outer:=by rfl)(hN:X.N=N:=by rfl)(hk:scope.kind=.function:=by rfl):dD X scope M k cM:=by
 unfold fO at h;simp only[lC,m_,Bool.or_eq_true,bne_iff_ne,ne_eq,beq_iff_eq] at h;obtain⟨h1,h2,h3,h4,h5⟩:=h;refine⟨hk,h1,λy hy e=>?_,λy hy e=>?_,h4,λj i x e1 e2=>?_⟩
 .rcases h2 y hy with z|z
  .exact bT e z
  .show X.env.scope.names.lookup y.1=_\/X.env.scope.names.lookup y.1=_;rw[ho];exact z
 .rcases h3 y hy with z|z
  .exact bT e z
  .exact z
 .have hj:j<cM.length:=(eS.mp e1).1;have:=h5 j (uI.mpr hj);rw[e1,e2] at this;simp only[lC,beq_iff_eq] at this;rw[hN];exact this
section
variable{X:Cx}
def e0d:dw X (compareOp .Is) (λx y H Q=>∃a b,x=.bl a/\y=.bl b/\Q (.bl (a == b)) H):=by
 intro aa s Z H x y v u Q I rx ry h;obtain⟨a,b,rfl,rfl,q⟩:=h;cases rx;cases ry;exact is_bool (uX I q rfl)
def Yj:dw X (compareOp .IsNot) (λx y H Q=>∃a b,x=.bl a/\y=.bl b/\Q (.bl (a != b)) H):=by
 intro aa s Z H x y v u Q I rx ry h;obtain⟨a,b,rfl,rfl,q⟩:=h;cases rx;cases ry;exact isnot_bool (uX I q rfl)
def Cy(K:PySem.W.Frag)(H:Hp):V->String->Prop
 |.aF,n=>n="NoneType"
 |.bl _,n=>n="bool"
 |.int _,n=>n="int"
 |.str _,n=>n="str"
 |.ref a,n=>(n="list"/\∃xs,cC K H a xs)\/(n="tuple"/\∃xs,gA K H a xs)
 |_,_=>False
def ra(k T:String):Bool:=k == T || (k == "bool" && T == "int")
def VJ:bI X (.builtin "isinstance") (λxs H Q=>∃x k T,xs=[x,.ty T]/\Cy X.K H x k/\(T="int"\/T="str"\/T="bool"\/T="list"\/T="tuple")/\Q (.bl (ra k T)) H):=by
 intro aa s Z H xs us Q I r h;obtain⟨x,k,T,rfl,hk,hT,q⟩:=h;obtain⟨u,w',rfl,rx,ry⟩:=vals2 r;cases ry;have fin:∀b,b=ra k T->EP X aa Z Q (.bool b) s:=λb e=>uX I q e.symm
 have cT:∀b,b=ra k T->EP X aa Z Q (.bool b) { s with toks:=s.toks+1}:=λb e=>uX (I.tok _) q e.symm
 cases x with
 |aF=>
  cases rx;have hk:k="NoneType":=hk;subst hk;rcases hT with rfl|rfl|rfl|rfl|rfl
  .exact IsiPair.NoneType_int (cT _ (by decide))
  .exact IsiPair.NoneType_str (cT _ (by decide))
  .exact IsiPair.NoneType_bool (cT _ (by decide))
  .exact IsiPair.NoneType_list (cT _ (by decide))
  .exact IsiPair.NoneType_tuple (cT _ (by decide))
 |bl b=>
  cases rx;have hk:k="bool":=hk;subst hk;rcases hT with rfl|rfl|rfl|rfl|rfl
  .exact IsiPair.bool_int (fin _ (by decide))
  .exact IsiPair.bool_str (cT _ (by decide))
  .exact IsiPair.bool_bool (fin _ (by decide))
  .exact IsiPair.bool_list (cT _ (by decide))
  .exact IsiPair.bool_tuple (cT _ (by decide))
 |int i=>
  obtain⟨t,rfl⟩:=rx;have hk:k="int":=hk;subst hk;rcases hT with rfl|rfl|rfl|rfl|rfl
  .exact IsiPair.int_int (fin _ (by decide))
  .exact IsiPair.int_str (cT _ (by decide))
  .exact IsiPair.int_bool (cT _ (by decide))
  .exact IsiPair.int_list (cT _ (by decide))
  .exact IsiPair.int_tuple (cT _ (by decide))
 |str z=>
  obtain⟨t,rfl⟩:=rx;have hk:k="str":=hk;subst hk;rcases hT with rfl|rfl|rfl|rfl|rfl
  .exact IsiPair.str_int (cT _ (by decide))
  .exact IsiPair.str_str (fin _ (by decide))
  .exact IsiPair.str_bool (cT _ (by decide))
  .exact IsiPair.str_list (cT _ (by decide))
  .exact IsiPair.str_tuple (cT _ (by decide))
 |ref a=>
  cases rx;rcases hk with⟨hk,ys,hs⟩|⟨hk,ys,hs⟩
  .subst hk;obtain⟨aE,_,⟨o,n,e,hc,_⟩,_⟩:=I.list hs;rcases hT with rfl|rfl|rfl|rfl|rfl
   .exact IsiPair.list_int e hc (cT _ (by decide))
   .exact IsiPair.list_str e hc (cT _ (by decide))
   .exact IsiPair.list_bool e hc (cT _ (by decide))
   .exact IsiPair.list_list e hc (fin _ (by decide))
   .exact IsiPair.list_tuple e hc (cT _ (by decide))
  .subst hk;obtain⟨aE,_,⟨o,e,hc,_⟩,_⟩:=I.tuple hs;rcases hT with rfl|rfl|rfl|rfl|rfl
   .exact IsiPair.tuple_int e hc (cT _ (by decide))
   .exact IsiPair.tuple_str e hc (cT _ (by decide))
   .exact IsiPair.tuple_bool e hc (cT _ (by decide))
   .exact IsiPair.tuple_list e hc (cT _ (by decide))
   .exact IsiPair.tuple_tuple e hc (fin _ (by decide))
 |wy _=>exact False.elim hk
 |wN _=>exact False.elim hk
 |ty _=>exact False.elim hk
def e6e{x:Str}{n:String}{pos:Pos}(hg:Gl X x)(hm:X.mg x=none)(hv:bootBuiltins x=some (.type n))(hn:x≠"__name__":=by decide)(hd:(x == ("__debug__":Str))=false:=by decide):PE X (.Name x pos) (tC (.ty n)):=
 XG hg hm hv rfl hn hd
def Ta{prog:cS}{A:cF}(aE:List ai)(bs:List Bool)(hv:Vals (bs.map V.bl) aE):TruthOf prog w A (λi v=>aE.toArray[i]?=some v) (λi=>bs.getD i false):=by
 intro i v s Q E hP hQ;have Rf:aE[i]?=some v:=by simpa using hP
 have hl:=hv.length;rw[aY] at hl;have hi:i<aE.length:=(eS.mp Rf).1;have hb:(bs.map V.bl)[i]?=some (.bl bs[i]):=by simp[show i<bs.length by lia]
 obtain⟨u,hu,ru⟩:=hv.get hb;rw[Rf] at hu;cases hu;cases ru;have e:bs.getD i false=bs[i]:=by simp[show i<bs.length by lia]
 have Rg:Q (bs.getD i false) s:=hQ;rw[e] at Rg;exact wpAny_truthy_bool Rg
def Uw(bs:List Bool):(List.range bs.length).all (λi=>bs.getD i false)=bs.all id:=by
 rw[Ae,m_,m_];constructor
 .intro h b hb;obtain⟨i,hi,e⟩:=List.mem_iff_getElem.mp hb;have:=h i (uI.mpr hi);simp[hi] at this;rw[<-e];exact this
 .intro h i hi;have hi:=uI.mp hi;have:=h bs[i] (Hh hi);simp[hi];exact this
def Ux(hc:X.calm=true):bI X (.builtin "all") (λxs H Q=>∃(a:ag) (bs:List Bool),xs=[.ref a]/\cC X.K H a (bs.map V.bl)/\Q (.bl (bs.all id)) H):=by
 intro aa s Z H xs us Q I r h;obtain⟨a,bs,rfl,hs,q⟩:=h;obtain⟨u,rfl,ru⟩:=vals1 r;cases ru;obtain⟨aE,rv,p,hz⟩:=I.list hs;have hl:=rv.length;rw[aY] at hl;refine call_all_walk (wpAny_pyIter_list p.isList ?_);have fH:a≠s.heap.objs.size:=by obtain⟨o,n,e,_⟩:=p;exact gp (cD e)
 refine⟨s.heap.objs.size,_,_,aE.toArray.size,_,_,λi=>bs.getD i false,rfl,Walks.list (A:=X.A.in1) (show X.A.in1.handled=none from I.ok.hd hc) _ a fH aE.toArray,⟨⟨_,jq _ rfl,rfl,rfl⟩,?_⟩,Ta aE bs rv,λh' tk hk=>?_⟩
 .exact p.isList.at λo e=>cO _ e
 .have e1:aE.toArray.size=bs.length:=by rw[de,<-hl]
  refine⟨.bl (bs.all id),H,I.kept (h':=h') (t':=tk) (λb o e=>hk b o (λz=>bT (fM (cD e) (Br (kR.mp z).symm)) (jQ _)) (cO _ e)),?_,q⟩
  show Value.bool _=Value.bool _;rw[e1,Uw]
end
variable{H:Hp}{a:ag}{o:HO}
structure bp (K:PySem.W.Frag) (mg:Str->aj ai) (x:Str) (st:Stmt) (f:ag) (fd:bR) (ps:List Str):Prop where
 fn:Fun K x x st f fd
 mg:mg x=some (.ref f)
 bd:Binds K fd ps []
section
variable{X:Cx}{k:Nat}{f:ag}{fd:bR}{ps:List Str}{sp:Sp}{x:Str}{p pos:Pos}{e:Expr}{es:List Expr}{t:TA}{st:Stmt}
end
section
variable{X:Cx}{a b:Expr}{rest:List Expr}{pos:Pos}{ta tb:TE}{tA tB:TT}
end
def av.put{H':Hp}(s:av H H')(h:H' a=none):av H (upd H' a o):=λb u e=>by
 have z:=s b u e;rw[cP (sC z h)];exact z
def sD(h:H a=none):av H (upd H a o):=(av.refl H).put h
def ID{α:Type}{xs:List α}{k:Int}(d:α)(h0:0<=k)(hk:k<xs.length):cY xs k=some (xs.getD k.toNat d):=by
 have wR:k.toNat<xs.length:=by lia
 have e:xs[k.toNat]?=some (xs.getD k.toNat d):=by simp[wR]
 have z:=sE e
 rwa[show((k.toNat:Nat):Int)=k by lia] at z
def qb:bootBuiltins "list"=some (.type "list"):=by decide +kernel
section
variable{X:Cx}
noncomputable def q9(xs:List V)(k:Nat)(y:V):List V:=xs.take k++y::xs.drop k
def Tb(xs:List V)(k:Nat)(y:V):(q9 xs k y).length=xs.length+1:=by
 grind [q9]
def OX:V->List V->Hp->VK->Prop:=λx vs H Q=>∃l xs i y,x=.ref l/\vs=[.int i,y]/\H l=some (.lst xs)/\0<=i/\i<2^62/\xs.length<sizeLine/\Q .aF (upd H l (.lst (q9 xs i.toNat y)))
theorem Uy:Ap X "list.insert" OX:=by
 intro aa s Z H x vs v us Q I rx rv h;obtain⟨l,xs,i,y,rfl,rfl,hH,h0,hi,hz,q⟩:=h;cases rx;obtain⟨u,u',rfl,⟨t,rfl⟩,ru⟩:=rv.two;obtain⟨z,aE,n,r,hl,e⟩:=I.zC hH;have Kh:¬(!Builtin.List.listFitsIndex i)=true:=by
  unfold Builtin.List.listFitsIndex;simp;lia
 refine call_meets F.slot_list_insert ⟨_,e,rfl⟩ F.entry_list_insert (F.args_list_insert_3 _ _ _) (PySem.AutoSeq1.list_insert_list_int_val_1 l aE.toArray n i t u' Kh (by rw[de];lia)) ⟨e,?_⟩
 refine⟨.aF,_,I.zB (its':=aE.take i.toNat++u'::aE.drop i.toNat) hH e ?_ ((r.take i.toNat).append (.cons ru (r.drop i.toNat))) ?_,rfl,q⟩
 .have h1:¬i<0:=by lia
  simp only[h1,l_];apply Array.ext';simp only[Array.toList_append,Array.toList_push,Array.toList_extract,de];rw[List.extract_eq_drop_take,List.extract_eq_drop_take];have e1:min i.toNat aE.length - 0=min i.toNat aE.length:=by lia
  rw[e1];simp only[List.drop_zero];have e2:aE.take (min i.toNat aE.length)=aE.take i.toNat:=by rw[List.take_eq_take_iff];lia
  rw[e2];by_cases hc:i.toNat<=aE.length
  .rw[Nat.min_eq_left hc,xV (l:=List.drop i.toNat aE) (by rw[Er];lia)]
   simp
  .have hc:aE.length<=i.toNat:=by lia
   rw[Nat.min_eq_right hc,Hi (bG _),Hi hc];simp
 .show(q9 xs i.toNat y).length<=sizeLine;rw[Tb];lia
def Hz(a c:Int)(n:Nat):It:=⟨λi _=>i<n,λi H x H'=>H'=H/\x=.int (a+i*c),λi _=>n<=i⟩
def Tc{P:cS}{w:ck}{K:PySem.W.Frag}{tg:Expr}(it:ag)(a c:Int)(n:Nat):Turn P w K tg (Hz a c n) [it] it (λi h=>IsRangeIter h it (a+(i:Nat)*c) ((n:Int) - (i:Nat)) c) where
 mem:=by simp
 obj:=λi h st b hb=>by
  simp_all
 keep:=λi h h' st k=>k it (by simp) _ st
 item:=by
  intro X hP hw hK hc i aa s Z H E I hf st hg;subst hP hw hK;obtain⟨f0,f1,f2,f3,f4,f5⟩:=hf it (by simp)
  have W:=Walks.range (prog:=X.prog) (w:=X.w) (I.ok.hd hc) it a c n;refine W.item i s _ _ hg st λv h' tk hv jO kk=>?_
  obtain⟨t,rfl⟩:=hv;have I1:Inv X aa Z H { s with heap:=h',toks:=tk}:=I.turned (λb o hb e=>kk b o (by simpa using hb) e) f0 f1 f3 f4 f5
  exact⟨_,rfl,yM (s:={ s with heap:=h',toks:=tk}) (n:="range_iterator") jO rfl rfl (by decide) ⟨.int (a+i*c),H,I1,⟨t,rfl⟩,⟨rfl,rfl⟩,jO,λb hb=>(hf b hb).1⟩⟩
 done:=by
  intro X hP hw hK hc i aa s Z H E I hf st hg;subst hP hw hK;obtain⟨f0,f1,f2,f3,f4,f5⟩:=hf it (by simp)
  exact wpAny_pyNext_range_end (I.ok.hd hc) st (by have:n<=i:=hg;lia) λh' eb=>⟨rfl,I.turned (t':=s.toks) (λb o hb e=>eb b o hb e) f0 f1 f3 f4 f5⟩
 self:=λ_ _ _ _ _ st h=>wpAny_pyIter_rangeiter st h
def w9(ta:TA):TI:=λZ H R=>ta Z H λvs H1=>∃i j:Int,vs=[.int i,.int j,.int (-1)]/\(-(2^20)<=i/\i<2^20 /\ -(2^20)<=j/\j<2^20)/\R (Hz i (-1) (i - j).toNat) H1
def Uz{tg a b c:Expr}{ta:TA}{p pos:Pos}(hg:Gl X "range")(hm:X.mg "range"=none)(ha:PA X [a,b,c] ta)(hs:starEach [a,b,c] X.env=[(false,eval a X.env),(false,eval b X.env),(false,eval c X.env)]:=by rfl)
  (zw:starEach [b,c] X.env=[(false,eval b X.env),(false,eval c X.env)]:=by rfl):PI X tg (.Call (.Name "range" p) [a,b,c] [] pos) (w9 ta):=by
 intro aa s Z H R I h;refine Call_ (wq I hg hm boot_range (PyProof.Rows.callWith_type1 (bB (ha pos aa s Z H _ I h) λus s1 ⟨vs,H1,I1,r1,q1⟩=>?_) (by rw[hs,zw]) (by rw[zw];rfl)))
 obtain⟨i,j,e,⟨q1,q2,q3,q4⟩,q⟩:=q1;subst e;cases r1 with
 |cons r rr=>
  cases rr with
  |cons r' rr=>
   cases rr with
   |cons r'' rr=>
    cases rr;obtain⟨t,rfl⟩:=r;obtain⟨t',rfl⟩:=r';obtain⟨Bo,rfl⟩:=r'';refine call_range_3 (by decide) ?_ (Or.inl (PyProof.noPylong_small (by lia)))
    refine wpAny_pyIter_range (IsRange.new ..) (PySem.W.small_down (by lia) (by lia) (by lia) (by lia)) ?_
    have I2:Inv X aa Z H1 { s1 with heap:=s1.heap.push { cls:=.type "range",data:=.fields #[.int i t,.int j t',.int (-1) Bo]}}:=I1.kept (t':=s1.toks) λb o e=>cO _ e
    refine⟨(s1.heap.push { cls:=.type "range",data:=.fields #[.int i t,.int j t',.int (-1) Bo]}).objs.size,[(s1.heap.push { cls:=.type "range",data:=.fields #[.int i t,.int j t',.int (-1) Bo]}).objs.size],_,_,H1,rfl,I2.kept (t':=s1.toks) λb o e=>cO _ e,Tc _ i (-1) (i - j).toNat,?_,λb hb=>?_,q⟩
    .have e1:i+((0:Nat):Int)*(-1)=i:=by simp
     have e2:(((i - j).toNat:Nat):Int) - ((0:Nat):Int)=Builtin.Range.rangeSize i j (-1):=by rw[PySem.W.rangeSize_downNat];lia
     show IsRangeIter _ _ (i+((0:Nat):Int)*(-1)) ((((i - j).toNat:Nat):Int) - ((0:Nat):Int)) (-1);rw[e1,e2];exact jq _ rfl
    .have e:b=(s1.heap.push { cls:=.type "range",data:=.fields #[.int i t,.int j t',.int (-1) Bo]}).objs.size:=by simpa using hb
     subst e;exact I2.lj (bG _) (I2.bh.fresh (bG _))
def DX:V->aj Int->aj Int->Hp->VK->Prop:=λx lo hi H Q=>∃z,x=.str z/\z.length<=sizeLine/\Q (.str (Txt.slice z lo hi)) H
theorem zY:sv X DX:=by
 intro aa s Z H x v vl vu lo hi sl Q I rx hs pl pu h;obtain⟨z,rfl,hz,q⟩:=h;obtain⟨t,rfl⟩:=rx;refine⟨"str",_,F.slot_str_getitem.lookup,typeIs_str _ _ _,?_⟩;have fin:∀t' k,EP X aa Z Q (.str (Txt.slice z lo hi) t') { s with toks:=k}:=λt' k=>⟨.str _,H,I.tok _,⟨_,rfl⟩,q⟩
 cases pl with
 |none=>
  cases pu with
  |none=>exact wpAny_getItem_str_slice (l:=none) (u:=none) (st:=none) hs rfl (post_val_or_str ⟨jo (Txt.slice_le z _ _) hz,fin⟩)
  |int j tj=>exact wpAny_getItem_str_slice (l:=none) (u:=some (j,tj)) (st:=none) hs rfl (post_val_or_str ⟨jo (Txt.slice_le z _ _) hz,fin⟩)
 |int i ti=>
  cases pu with
  |none=>exact wpAny_getItem_str_slice (l:=some (i,ti)) (u:=none) (st:=none) hs rfl (post_val_or_str ⟨jo (Txt.slice_le z _ _) hz,fin⟩)
  |int j tj=>exact wpAny_getItem_str_slice (l:=some (i,ti)) (u:=some (j,tj)) (st:=none) hs rfl (post_val_or_str ⟨jo (Txt.slice_le z _ _) hz,fin⟩)
def TF:dw X (binaryOp .Mult) (λx y H Q=>∃z n,x=.str z/\y=.int n/\MulOk z n/\Q (.str (Txt.mul z n)) H):=by
 intro aa s Z H x y v u Q I rx ry h;obtain⟨z,n,rfl,rfl,hm,q⟩:=h;obtain⟨t,rfl⟩:=rx;obtain⟨t',rfl⟩:=ry;exact SB.mul hm λt' k=>⟨.str _,H,I.tok _,⟨_,rfl⟩,q⟩
end
inductive x9 (K:PySem.W.Frag) (H:Hp):Nat->V->V->Bool->Prop
 |flat {d:Nat} {x y:V}:wM x=true->wM y=true->x9 K H d x y (eqV x y)
 |same {d:Nat} {a:ag}:x9 K H d (.ref a) (.ref a) true
 |lst {d:Nat} {a b:ag} {xs ys:List V} {e:Nat->Bool}:a≠b->cC K H a xs->cC K H b ys->xs.length=ys.length->(∀(i:Nat) x y,xs[i]?=some x->ys[i]?=some y->x9 K H d x y (e i))->x9 K H (d+1) (.ref a) (.ref b) ((List.range xs.length).all e)
 |lstN {d:Nat} {a b:ag} {xs ys:List V}:a≠b->cC K H a xs->cC K H b ys->xs.length≠ys.length->x9 K H (d+1) (.ref a) (.ref b) false
 |tup {d:Nat} {a b:ag} {xs ys:List V} {e:Nat->Bool}:a≠b->gA K H a xs->gA K H b ys->(∀(i:Nat) x y,xs[i]?=some x->ys[i]?=some y->x9 K H d x y (e i))->x9 K H (d+1) (.ref a) (.ref b) ((List.range (min xs.length ys.length)).all e&&xs.length == ys.length)
section
variable{X:Cx}{aa:List (ag×Obj)}{Z:St}{H:Hp}{s:aq}
def Vals.at{xs:List V}{us:List ai}(r:Vals xs us){j:Nat}(h:j<us.toArray.size):∃x,xs[j]?=some x/\RelV x us.toArray[j]:=by
 have hl:=r.length;have h':j<us.length:=by simpa using h
 have hx:xs[j]?=some xs[j]:=by simp[show j<xs.length by lia]
 obtain⟨u,hu,ru⟩:=r.get hx
 simp_all
end
section
variable{X:Cx}
def VL(K:PySem.W.Frag)(hK:X.K=K:=by rfl):qO X (zS K):=hK ▸ X4
def Yk(K:PySem.W.Frag)(hK:X.K=K:=by rfl):qO X (zT K):=hK ▸ e0a
def SG(K:PySem.W.Frag)(hK:X.K=K:=by rfl):bI X (.builtin "len") (λxs H Q=>∃p ys,xs=[.ref p]/\(cC K H p ys\/gA K H p ys)/\Q (.int ys.length) H):=hK ▸ SR
def VM(K:PySem.W.Frag)(hK:X.K=K:=by rfl):sv X (zU K):=hK ▸ X5
def Yl(K:PySem.W.Frag)(hK:X.K=K:=by rfl):sv X (zV K):=hK ▸ d9z
def UA(K:PySem.W.Frag)(hK:X.K=K:=by rfl):bI X (.builtin "isinstance") (λxs H Q=>∃x k T,xs=[x,.ty T]/\Cy K H x k/\(T="int"\/T="str"\/T="bool"\/T="list"\/T="tuple")/\Q (.bl (ra k T)) H):=hK ▸ VJ
def SH(K:PySem.W.Frag)(hK:X.K=K:=by rfl):bI X (.type "list") (λxs H Q=>∃p ys,xs=[.ref p]/\(cC K H p ys\/gA K H p ys)/\∀l,H l=none->Q (.ref l) (upd H l (.lst ys))):=hK ▸ SS
end
end L2
set_option autoImplicit false
namespace L2
open PySem PySem.Spec PyProof.Rows
theorem E6{α β:Type}{R:α->β->Prop}:∀{l:List α} {m:List β} (i:Nat) {b:β},Paired R l m->m[i]?=some b->∃a,l[i]?=some a/\R a b
 |_,_,_,_,.nil,e=>by simp at e
 |_,_,0,_,.cons r _,e=>by simp at e;subst e;exact⟨_,rfl,r⟩
 |_,_,i+1,_,.cons _ t,e=>by
  obtain⟨a,h1,h2⟩:=E6 i t (by simpa using e)
  exact⟨a,by simpa using h1,h2⟩
theorem B6{α β:Type}{R:α->β->Prop}:∀{l:List α} {m:List β} (i:Nat) {a:α},Paired R l m->l[i]?=some a->∃b,m[i]?=some b/\R a b
 |_,_,_,_,.nil,e=>by simp at e
 |_,_,0,_,.cons r _,e=>by simp at e;subst e;exact⟨_,rfl,r⟩
 |_,_,i+1,_,.cons _ t,e=>by
  obtain⟨a,h1,h2⟩:=B6 i t (by simpa using e)
  exact⟨a,by simpa using h1,h2⟩
inductive D where
 |aF|bl (b:Bool)|int (i:Int)|str (x:Str)|ty (n:String)|ref (n:Nat)
 |lst (xs:List D)|tup (xs:List D)|az (kvs:List (TK×D))
mutual
def TK.d:TK->D
 |.inl i=>.int i
 |.inr x=>.str x
 |.tp l=>.tup (TK.dl l)
 |.aF=>.aF
def TK.dl:List TK->List D
 |[]=>[]
 |k::l=>TK.d k::TK.dl l
end
noncomputable def wt:D->aj V
 |.aF=>some .aF
 |.bl b=>some (.bl b)
 |.int i=>some (.int i)
 |.str x=>some (.str x)
 |.ty n=>some (.ty n)
 |_=>none
structure Kn where
 F:Hp
 A:List ag
 T:List ag
inductive ah (K:PySem.W.Frag) (k:Kn):List V->List D->Prop
 |nil:ah K k [] []
 |flat {v:V} {d:D} {vs:List V} {ds:List D}:wt d=some v->ah K k vs ds->ah K k (v::vs) (d::ds)
 |ref {n:Nat} {a:ag} {vs:List V} {ds:List D}:k.A[n]?=some a->ah K k vs ds->ah K k (.ref a::vs) (.ref n::ds)
 |lst {a:ag} {ws vs:List V} {es ds:List D}:cC K k.F a ws->ah K k ws es->ah K k vs ds->ah K k (.ref a::vs) (.lst es::ds)
 |tup {a:ag} {ws vs:List V} {es ds:List D}:gA K k.F a ws->ah K k ws es->ah K k vs ds->ah K k (.ref a::vs) (.tup es::ds)
 |az {a:ag} {kvs:List (TK×V×V)} {es:List (TK×D)} {ep:Nat} {vs:List V} {ds:List D}:k.F a=some (.dG kvs ep)->kvs.map (·.1)=es.map (·.1)->ah K k (kvs.map (·.2.1)) (es.map (·.1.d))->ah K k (kvs.map (·.2.2)) (es.map (·.2))->ah K k vs ds->ah K k (.ref a::vs) (.az es::ds)
def av.rd{H H':Hp}{a:ag}{u:HO}(e:av H H')(h:Rd H a u):Rd H' a u:=by
 rcases h with h|⟨o,h⟩
 .exact .inl (e _ _ h)
 .exact .inr ⟨o,e _ _ h⟩
def av.zZ{K:PySem.W.Frag}{H H':Hp}{a:ag}{xs:List V}(e:av H H')(h:gA K H a xs):gA K H' a xs:=h.imp e.rd id
def av.LC{K:PySem.W.Frag}{H H':Hp}{a:ag}{xs:List V}(e:av H H')(h:cC K H a xs):cC K H' a xs:=h.imp e.rd id
structure Kn.le (k k':Kn):Prop where
 f:av k.F k'.F
 a:k.A <+: k'.A
def FQ{α:Type}{l l':List α}{n:Nat}{x:α}(h:l <+: l')(e:l[n]?=some x):l'[n]?=some x:=by
 obtain⟨t,rfl⟩:=h;rw[xS (eS.mp e).1];exact e
section
variable{K:PySem.W.Frag}{k k':Kn}{v:V}{vs ws:List V}{d:D}{ds es:List D}
def ah.mono(s:k.le k')(h:ah K k vs ds):ah K k' vs ds:=by
 induction h with
 |nil=>exact .nil
 |flat e _ ih=>exact .flat e ih
 |ref e _ ih=>exact .ref (FQ s.a e) ih
 |lst e _ _ i1 i2=>exact .lst (s.f.LC e) i1 i2
 |tup e _ _ i1 i2=>exact .tup (s.f.zZ e) i1 i2
 |az e q _ _ _ i0 i1 i2=>exact .az (s.f _ _ e) q i0 i1 i2
def ah.length(h:ah K k vs ds):vs.length=ds.length:=by
 induction h with
 |nil=>rfl
 |flat _ _ ih=>exact congrArg _ ih
 |ref _ _ ih=>exact congrArg _ ih
 |lst _ _ _ _ ih=>exact congrArg _ ih
 |tup _ _ _ _ ih=>exact congrArg _ ih
 |az _ _ _ _ _ _ _ ih=>exact congrArg _ ih
def ah.inv(h:ah K k (v::vs) (d::ds)):ah K k [v] [d]/\ah K k vs ds:=by
 cases h with
 |flat e t=>exact⟨.flat e .nil,t⟩
 |ref e t=>exact⟨.ref e .nil,t⟩
 |lst e i t=>exact⟨.lst e i .nil,t⟩
 |tup e i t=>exact⟨.tup e i .nil,t⟩
 |az e q j i t=>exact⟨.az e q j i .nil,t⟩
def ah.cons(h:ah K k [v] [d])(t:ah K k vs ds):ah K k (v::vs) (d::ds):=by
 cases h with
 |flat e _=>exact .flat e t
 |ref e _=>exact .ref e t
 |lst e i _=>exact .lst e i t
 |tup e i _=>exact .tup e i t
 |az e q j i _=>exact .az e q j i t
def ah.bS(h:ah K k vs (d::ds)):∃w us,vs=w::us/\ah K k [w] [d]/\ah K k us ds:=by
 cases vs with
 |nil=>have:=h.length;cases this
 |cons w us=>exact⟨w,us,rfl,h.inv⟩
def ah.fK(h:ah K k vs []):vs=[]:=List.eq_nil_of_length_eq_zero h.length
def ah.get{i:Nat}(h:ah K k vs ds)(e:ds[i]?=some d):∃v,vs[i]?=some v/\ah K k [v] [d]:=by
 induction ds generalizing vs i with
 |nil=>cases e
 |cons x ds ih=>
  obtain⟨w,us,rfl,h1,h2⟩:=h.bS;cases i with
  |zero=>cases e;exact⟨w,rfl,h1⟩
  |succ i=>exact ih (vs:=us) (i:=i) h2 e
def ah.append(h:ah K k vs ds)(t:ah K k ws es):ah K k (vs++ws) (ds++es):=by
 induction ds generalizing vs with
 |nil=>rw[h.fK];exact t
 |cons x ds ih=>
  obtain⟨w,us,rfl,h1,h2⟩:=h.bS;exact .cons h1 (ih h2)
def ah.take(n:Nat)(h:ah K k vs ds):ah K k (vs.take n) (ds.take n):=by
 induction n generalizing vs ds with
 |zero=>exact .nil
 |succ n ih=>
  cases ds with
  |nil=>rw[h.fK];exact .nil
  |cons x ds=>
   obtain⟨w,us,rfl,h1,h2⟩:=h.bS;exact .cons h1 (ih h2)
def ah.drop(n:Nat)(h:ah K k vs ds):ah K k (vs.drop n) (ds.drop n):=by
 induction n generalizing vs ds with
 |zero=>exact h
 |succ n ih=>
  cases ds with
  |nil=>rw[h.fK];exact .nil
  |cons x ds=>
   obtain⟨w,us,rfl,h1,h2⟩:=h.bS;exact ih h2
def VN(ns:List Int):ah K k (ns.map V.int) (ns.map D.int):=by
 induction ns with
 |nil=>exact .nil
 |cons n ns ih=>exact .flat rfl ih
def ah.aX{u:V}(h:ah K k [v] [d])(e:wt d=some u):v=u:=by
 cases h with
 |flat q _=>rw[e] at q;exact(Option.some.inj q).symm
 |_=>cases e
def ah.isRef{n:Nat}(h:ah K k [v] [.ref n]):∃a,v=.ref a/\k.A[n]?=some a:=by
 cases h with
 |flat q _=>cases q
 |ref e _=>exact⟨_,rfl,e⟩
def ah.xa(h:ah K k [v] [.lst es]):∃a ws,v=.ref a/\cC K k.F a ws/\ah K k ws es:=by
 cases h with
 |flat q _=>cases q
 |lst e i _=>exact⟨_,_,rfl,e,i⟩
def ah.isTup(h:ah K k [v] [.tup es]):∃a ws,v=.ref a/\gA K k.F a ws/\ah K k ws es:=by
 cases h with
 |flat q _=>cases q
 |tup e i _=>exact⟨_,_,rfl,e,i⟩
def ah.w_{kvs:List (TK×D)}(h:ah K k [v] [.az kvs]):∃a es ep,v=.ref a/\k.F a=some (.dG es ep)/\es.map (·.1)=kvs.map (·.1)/\ah K k (es.map (·.2.1)) (kvs.map (·.1.d))/\ah K k (es.map (·.2.2)) (kvs.map (·.2)):=by
 cases h with
 |flat q _=>cases q
 |az e q j i _=>exact⟨_,_,_,rfl,e,q,j,i⟩
end
end L2
set_option autoImplicit false
namespace L2
open PySem PySem.Spec PyProof.Rows
inductive Bx where
 |lst (xs:List D)|az (kvs:List (TK×D))
noncomputable def Bx.d:Bx->D
 |.lst xs=>.lst xs
 |.az kvs=>.az kvs
inductive Cell where
 |o (c:Bx)|z (c:Bx)|ins (C:ag) (fs:List (Str×D))
structure aO where
 s:List Cell
 r:List Cell
inductive Val where
 |d (x:D)|c (n:Nat)
abbrev Gm:=List (aj Val)
inductive Rv where
 |v (x:Val)|o (c:Bx)
inductive Rs (α:Type) where
 |ok (a:α) (S:aO)|ex (C:ag) (l:aj Int) (S:aO)
abbrev Gx(α:Type):=Gm->aO->aj (Rs α)
def bd{α β:Type}(x:aj (Rs α))(f:α->aO->aj (Rs β)):aj (Rs β):=match x with
 |none=>none
 |some (.ok a S)=>f a S
 |some (.ex C l S)=>some (.ex C l S)
noncomputable def vw:Nat->HO->Bool
 |0,_=>false
 |1,.dG _ _=>true
 |1,_=>false
 |_,_=>true
def dh(K:PySem.W.Frag)(k:Kn)(H:Hp)(a:ag):Bx->Prop
 |.lst xs=>∃ws,H a=some (.lst ws)/\ah K k ws xs
 |.az kvs=>∃es ep,H a=some (.dG es ep)/\es.map (·.1)=kvs.map (·.1)/\ah K k (es.map (·.2.1)) (kvs.map (·.1.d))/\ah K k (es.map (·.2.2)) (kvs.map (·.2))
def aZ(K:PySem.W.Frag)(k:Kn)(H:Hp)(a:ag):Cell->Prop
 |.o c=>k.F a=none/\dh K k H a c
 |.z c=>k.F a≠none/\ah K k [.ref a] [c.d]
 |.ins C fs=>k.F a=none/\∃dx gs,H a=some (.ins C dx gs)/\gs.map (·.1)=fs.map (·.1)/\ah K k (gs.map (·.2)) (fs.map (·.2))
structure Lay (K:PySem.W.Frag) (k:Kn) (H:Hp) (as:List ag) (cs:List Cell):Prop where
 ln:as.length=cs.length
 at':∀(n:Nat) (a:ag) (c:Cell),as[n]?=some a->cs[n]?=some c->aZ K k H a c
structure bO (K:PySem.W.Frag) (k:Kn) (H:Hp) (S:aO):Prop where
 le:av k.F H
 nd:(k.A++k.T).Nodup
 r:Lay K k H k.A S.r
 s:Lay K k H k.T S.s
structure Up (q:Nat) (k:Kn) (H:Hp) (k':Kn) (H':Hp):Prop where
 f:av k.F k'.F
 a:k.A <+: k'.A
 t:k.T <+: k'.T
 h:∀a o,vw q o=true->H a=some o->H' a=some o
def cI(K:PySem.W.Frag)(k:Kn)(x:V):Val->Prop
 |.d y=>ah K k [x] [y]
 |.c n=>∃a,x=.ref a/\k.T[n]?=some a
structure fX (K:PySem.W.Frag) (k:Kn) (Z:St) (U:Gm):Prop where
 ln:Z.length=U.length
 at':∀(i:Nat) (v:Val),U[i]?=some (some v)->∃x,Z[i]?=some (some x)/\cI K k x v
def pI(K:PySem.W.Frag)(k:Kn)(H:Hp)(x:V):Rv->Prop
 |.v y=>cI K k x y
 |.o c=>∃a,x=.ref a/\k.F a=none/\a∉k.A++k.T/\dh K k H a c
section
variable{q:Nat}{K:PySem.W.Frag}{k k' RK:Kn}{F' H H' BE:Hp}{S S':aO}{Z:St}{U:Gm}{n:Nat}{a:ag}{as:List ag}{cs:List Cell}{c:Cell}{b:Bx}
theorem Kn.le.refl:k.le k:=⟨av.refl _,lE _⟩
def Up.le(u:Up q k H k' H'):k.le k':=⟨u.f,u.a⟩
theorem Up.refl:Up q k H k H:=⟨av.refl _,lE _,lE _,λ_ _ _ h=>h⟩
theorem Up.trans(x:Up q k H k' H')(y:Up q k' H' RK BE):Up q k H RK BE:=⟨x.f.trans y.f,x.a.trans y.a,x.t.trans y.t,λa o z h=>y.h a o z (x.h a o z h)⟩
def Up.of{F':Hp}(s:av k.F F')(t:av H H'):Up q k H ⟨F',k.A,k.T⟩ H':=⟨s,lE _,lE _,λa o _ h=>t a o h⟩
def cI.up{x:V}{v:Val}(h:cI K k x v)(u:Up q k H k' H'):cI K k' x v:=by
 cases v with
 |d y=>exact ah.mono u.le h
 |c n=>obtain⟨a,e,z⟩:=h;exact⟨a,e,FQ u.t z⟩
theorem v8.up{xs:List V}{vs:List Val}(h:Paired (cI K k) xs vs)(u:Up q k H k' H'):Paired (cI K k') xs vs:=Paired.DF h λ_ _ r=>r.up u
theorem fX.up(h:fX K k Z U)(u:Up q k H k' H'):fX K k' Z U:=⟨h.ln,λi v e=>let ⟨x,z,r⟩:=h.at' i v e;⟨x,z,r.up u⟩⟩
def dh.keep(h:dh K k H a b)(s:k.le k')(e:∀o,H a=some o->H' a=some o):dh K k' H' a b:=by
 cases b with
 |lst xs=>obtain⟨ws,z,r⟩:=h;exact⟨ws,e _ z,r.mono s⟩
 |az kvs=>obtain⟨es,ep,z,q,r,t⟩:=h;exact⟨es,ep,e _ z,q,r.mono s,t.mono s⟩
theorem aZ.keep(h:aZ K k H a c)(s:k.le k')(e:∀o,H a=some o->H' a=some o)(fr:k.F a=none->k'.F a=none):aZ K k' H' a c:=by
 cases c with
 |o b=>exact⟨fr h.1,h.2.keep s e⟩
 |z b=>exact⟨λz=>h.1 (s.f.free z),h.2.mono s⟩
 |ins C fs=>obtain⟨h0,dx,gs,h1,h2,h3⟩:=h;exact⟨fr h0,dx,gs,e _ h1,h2,h3.mono s⟩
def dh.there(h:dh K k H a b):H a≠none:=λz=>by
 cases b with
 |lst xs=>obtain⟨_,e,_⟩:=h;rw[e] at z;cases z
 |az kvs=>obtain⟨_,_,e,_⟩:=h;rw[e] at z;cases z
theorem aZ.there(h:aZ K k H a c)(le:av k.F H):H a≠none:=by
 cases c with
 |o b=>exact h.2.there
 |z b=>exact λz=>h.1 (le.free z)
 |ins C fs=>obtain⟨_,dx,gs,h1,_⟩:=h;rw[h1];exact λz=>nomatch z
def Lay.get(h:Lay K k H as cs)(e:as[n]?=some a):∃c,cs[n]?=some c/\aZ K k H a c:=by
 have hn:n<cs.length:=h.ln ▸ (eS.mp e).1;exact⟨_,jt hn,h.at' n a _ e (jt hn)⟩
def Lay.keep(h:Lay K k H as cs)(f:∀a∈as,∀c,aZ K k H a c->aZ K k' H' a c):Lay K k' H' as cs:=⟨h.ln,λn a c e1 e2=>f a (uc e1) c (h.at' n a c e1 e2)⟩
def OY{α:Type}{l:List α}{x y:α}(e:(l++[x])[n]?=some y):l[n]?=some y\/(n=l.length/\y=x):=by
 by_cases h:n<l.length
 .rw[xS h] at e;exact .inl e
 .have h1:=Nat.le_of_not_lt h;rw[v5 h1] at e;have h2:n - l.length=0:=Nat.lt_one_iff.mp (eS.mp e).1;rw[h2] at e;cases e;exact .inr ⟨by lia,rfl⟩
def Fy{α:Type}{l:List α}{x:α}:(l++[x])[l.length]?=some x:=by rw[v5 (bG _),Ma];rfl
def Lay.push(h:Lay K k H as cs)(hc:aZ K k H a c):Lay K k H (as++[a]) (cs++[c]):=by
 refine⟨by rw[cB,cB,h.ln];rfl,λn b d e1 e2=>?_⟩
 rcases OY e1 with e1|⟨z,rfl⟩ <;> rcases OY e2 with e2|⟨y,rfl⟩
 .exact h.at' n b d e1 e2
 .exact bT (eS.mp e1).1 (by rw[y,h.ln];exact jQ _)
 .exact bT (eS.mp e2).1 (by rw[z,h.ln];exact jQ _)
 .exact hc
def N8{α:Type}{l:List α}{i j:Nat}{x:α}(nd:l.Nodup)(e1:l[i]?=some x)(e2:l[j]?=some x):i=j:=by
 obtain⟨h1,z1⟩:=eS.mp e1;obtain⟨h2,z2⟩:=eS.mp e2;exact(Hf nd).mp (z1.trans z2.symm)
def Lay.set(h:Lay K k H as cs)(nd:as.Nodup)(ha:as[n]?=some a)(hc:aZ K k' H' a c)(f:∀b∈as,b≠a->∀c,aZ K k H b c->aZ K k' H' b c):Lay K k' H' as (cs.set n c):=by
 refine⟨by rw[nq];exact h.ln,λj b d e1 e2=>?_⟩
 by_cases e0:n=j
 .subst e0;rw[vZ (h.ln ▸ (eS.mp ha).1)] at e2;cases e2;cases ha.symm.trans e1;exact hc
 .rw[Bq e0] at e2;exact f b (uc e1) (λz=>e0 (N8 nd ha (z ▸ e1))) d (h.at' j b d e1 e2)
def Lay.take(h:Lay K k H as cs)(m:Nat):Lay K k H (as.take m) (cs.take m):=by
 refine⟨by rw[Ac,Ac,h.ln],λj b d e1 e2=>?_⟩
 rw[List.getElem?_take] at e1 e2;split at e1
 .rename_i hj
  rw[aN hj] at e2;exact h.at' j b d e1 e2
 .cases e1
theorem Lay.there(h:Lay K k H as cs)(le:av k.F H):∀a∈as,H a≠none:=λa m=>by
 obtain⟨n,e⟩:=Es.mp m;obtain⟨c,_,hc⟩:=h.get e;exact hc.there le
theorem bO.there(h:bO K k H S):∀a∈k.A++k.T,H a≠none:=λa m=>(e_.mp m).elim (h.r.there h.le a) (h.s.there h.le a)
def bO.fresh(h:bO K k H S)(e:H a=none):k.F a=none/\a∉k.A++k.T:=⟨h.le.free e,λm=>h.there a m e⟩
def bO.new(h:bO K k H S)(s1:av k.F F')(s2:∀a∈k.A++k.T,∀o,H a=some o->H' a=some o)(s3:av F' H')(fr:∀p∈k.A++k.T,k.F p=none->F' p=none):bO K ⟨F',k.A,k.T⟩ H' S:=
 have go:∀a∈k.A++k.T,∀c,aZ K k H a c->aZ K ⟨F',k.A,k.T⟩ H' a c:=λa m _ q=>q.keep ⟨s1,lE _⟩ (s2 a m) (fr a m)
 ⟨s3,h.nd,h.r.keep λa m=>go a (Ep _ m),h.s.keep λa m=>go a (pk _ m)⟩
def aZ.le(h:aZ K k H a c)(s:k.le k')(e:k.F=k'.F):aZ K k' H a c:=h.keep s (λ_ z=>z) λz=>by rw[<-e];exact z
def IE{α:Type}{l:List α}{x:α}:l <+: l++[x]:=List.prefix_append _ _
def e0e{α:Type}{l m:List α}{x:α}(h:(l++m).Nodup)(n:x∉l++m):((l++[x])++m).Nodup:=by
 rw[nt];exact(List.perm_middle (l₁:=l) (l₂:=m) (a:=x)).nodup_iff.mpr (qE.mpr ⟨n,h⟩)
def bO.pushS(h:bO K k H S)(hF:k.F a=none)(hn:a∉k.A++k.T)(hb:dh K k H a b):bO K ⟨k.F,k.A,k.T++[a]⟩ H ⟨S.s++[.o b],S.r⟩/\∀q,Up q k H ⟨k.F,k.A,k.T++[a]⟩ H:=by
 have go:k.le ⟨k.F,k.A,k.T++[a]⟩:=⟨av.refl _,lE _⟩;refine⟨⟨h.le,?_,h.r.keep λ_ _ _ z=>z.le go rfl,(h.s.push (c:=.o b) ⟨hF,hb⟩).keep λ_ _ _ z=>z.le go rfl⟩,λq=>⟨av.refl _,lE _,IE,λ_ _ _ z=>z⟩⟩
 rw[<-nt];exact iI.mpr ⟨h.nd,by simp,λx m y m' e=>hn (by rw[kR.mp m'] at e;exact e ▸ m)⟩
def bO.xx(h:bO K k H S)(hn:a∉k.A++k.T)(hc:aZ K k H a c):bO K ⟨k.F,k.A++[a],k.T⟩ H ⟨S.s,S.r++[c]⟩/\∀q,Up q k H ⟨k.F,k.A++[a],k.T⟩ H:=by
 have go:k.le ⟨k.F,k.A++[a],k.T⟩:=⟨av.refl _,IE⟩;exact⟨⟨h.le,e0e h.nd hn,(h.r.push hc).keep λ_ _ _ z=>z.le go rfl,h.s.keep λ_ _ _ z=>z.le go rfl⟩,λq=>⟨av.refl _,IE,lE _,λ_ _ _ z=>z⟩⟩
def lG(H H':Hp)(a:ag):Prop:=∀b,b≠a->H' b=H b
def B7{o:HO}:lG H (upd H a o) a:=λ_ z=>cP z
def bO.chg(h:bO K k H S)(ho:lG H H' a)(hF:k.F a=none)(hq:∀o,H a=some o->vw q o=false):av k.F H'/\Up q k H k H'/\∀b,b≠a->∀c,aZ K k H b c->aZ K k H' b c:=
 ⟨λb o e=>by rw[ho b λz=>by rw[z,hF] at e;cases e];exact h.le b o e,⟨av.refl _,lE _,lE _,λb o e z=>by
  by_cases y:b=a
  .subst y;rw[hq o z] at e;cases e
  .rw[ho b y];exact z⟩,λb y c z=>z.keep .refl (λo e=>by rw[ho b y];exact e) id⟩
def bO.D0(h:bO K k H S)(ha:k.A[n]?=some a)(ho:lG H H' a)(hF:k.F a=none)(hq:∀o,H a=some o->vw q o=false)(hc:aZ K k H' a c):bO K k H' ⟨S.s,S.r.set n c⟩/\Up q k H k H':=by
 obtain⟨h1,h2,h3⟩:=h.chg ho hF hq;obtain⟨n1,n2,n3⟩:=iI.mp h.nd;exact⟨⟨h1,h.nd,h.r.set n1 ha hc λb _=>h3 b,h.s.keep λb m=>h3 b λz=>n3 a (uc ha) b m z.symm⟩,h2⟩
def bO.Ly(h:bO K k H S)(ha:k.T[n]?=some a)(ho:lG H H' a)(hF:k.F a=none)(hq:∀o,H a=some o->vw q o=false)(hc:aZ K k H' a c):bO K k H' ⟨S.s.set n c,S.r⟩/\Up q k H k H':=by
 obtain⟨h1,h2,h3⟩:=h.chg ho hF hq;obtain⟨n1,n2,n3⟩:=iI.mp h.nd;exact⟨⟨h1,h.nd,h.r.keep λb m=>h3 b λz=>n3 b m a (uc ha) z,h.s.set n2 ha hc λb _=>h3 b⟩,h2⟩
def dh.Y(h:dh K k H a b)(le:av k.F H)(hF:k.F a=none):∃o,H a=some o/\av k.F (upd k.F a o)/\av (upd k.F a o) H/\ah K ⟨upd k.F a o,k.A,k.T⟩ [.ref a] [b.d]:=by
 have sm:∀o,av k.F (upd k.F a o):=λo=>sD hF
 have sh:∀o,H a=some o->av (upd k.F a o) H:=λo e p u q=>by
  by_cases z:p=a
  .subst z;rw[aI] at q;cases q;exact e
  .rw[cP z] at q;exact le p u q
 cases b with
 |lst xs=>
  obtain⟨ws,e,r⟩:=h;exact⟨_,e,sm _,sh _ e,.lst (.inl (.inl aI)) (r.mono ⟨sm _,lE _⟩) .nil⟩
 |az kvs=>
  obtain⟨es,ep,e,q,r,t⟩:=h;exact⟨_,e,sm _,sh _ e,.az aI q (r.mono ⟨sm _,lE _⟩) (t.mono ⟨sm _,lE _⟩) .nil⟩
def bO.J4(h:bO K k H S)(hF:k.F a=none)(hn:a∉k.A++k.T)(hb:dh K k H a b):∃F',bO K ⟨F',k.A,k.T⟩ H S/\(∀q,Up q k H ⟨F',k.A,k.T⟩ H)/\ah K ⟨F',k.A,k.T⟩ [.ref a] [b.d]:=by
 obtain⟨o,e,s1,s2,rp⟩:=hb.Y h.le hF;exact⟨_,h.new s1 (λ_ _ _ z=>z) s2 λp m z=>by rw[cP (show p≠a from λy=>hn (y ▸ m))];exact z,λq=>.of s1 (av.refl _),rp⟩
def bO.J5(h:bO K k H S)(ha:k.T[n]?=some a)(hc:S.s[n]?=some (.o b)):∃F',bO K ⟨F',k.A,k.T⟩ H ⟨S.s.set n (.z b),S.r⟩/\(∀q,Up q k H ⟨F',k.A,k.T⟩ H)/\ah K ⟨F',k.A,k.T⟩ [.ref a] [b.d]:=by
 obtain⟨hF,hb⟩:=h.s.at' n a _ ha hc;obtain⟨o,e,s1,s2,rp⟩:=hb.Y h.le hF;obtain⟨n1,n2,n3⟩:=iI.mp h.nd;have go:∀p,p≠a->∀c,aZ K k H p c->aZ K ⟨upd k.F a o,k.A,k.T⟩ H p c:=λp y c z=>z.keep ⟨s1,lE _⟩ (λ_ z=>z) λz=>(cP y).trans z
 exact⟨_,⟨s2,h.nd,h.r.keep λp m=>go p λz=>n3 p m a (uc ha) z,h.s.set n2 ha (c:=.z b) ⟨λz=>(nomatch aI.symm.trans z),rp⟩ λp _=>go p⟩,λq=>.of s1 (av.refl _),rp⟩
theorem bO.take(h:bO K k H S)(m:Nat):bO K ⟨k.F,k.A,k.T.take m⟩ H ⟨S.s.take m,S.r⟩:=
 have go:k.le ⟨k.F,k.A,k.T.take m⟩:=⟨av.refl _,lE _⟩
 ⟨h.le,h.nd.sublist ((List.Sublist.refl _).append (List.take_sublist _ _)),h.r.keep λ_ _ _ z=>z.le go rfl,(h.s.take m).keep λ_ _ _ z=>z.le go rfl⟩
def N9{α:Type}{l l':List α}{m:Nat}(h:l <+: l')(hm:l.length<=m):l <+: l'.take m:=by
 grind
def Up.take(u:Up q k H k' H'){m:Nat}(h:k.T.length<=m):Up q k H ⟨k'.F,k'.A,k'.T.take m⟩ H':=⟨u.f,u.a,N9 u.t h,u.h⟩
end
end L2
set_option autoImplicit false
namespace L2
open PySem PySem.Spec PyProof.Rows
variable{X:Cx}{e:Expr}{t:TE}{t':TT}{v x:V}{k:Kn}{S:aO}{r:R2}{Q:List V->Hp->Prop}{vs:List Val}{ds:List D}{o:List D->aj Rv}
def PE.mono{t':TE}(h:PE X e t)(m:∀Z H Q,t' Z H Q->t Z H Q):PE X e t':=λaa s Z H Q I q=>h aa s Z H Q I (m _ _ _ q)
def PT.mono{t:TT}(h:PT X e t)(m:∀Z H Q,t' Z H Q->t Z H Q):PT X e t':=λaa s Z H Q I q=>h aa s Z H Q I (m _ _ _ q)
def PW.mono{t:TT}(h:PW X e t)(m:∀Z H Q,t' Z H Q->t Z H Q):PW X e t':=λwh aa s Z H Q I q=>h wh aa s Z H Q I (m _ _ _ q)
def PA.mono{e:List Expr}{t t':TA}(h:PA X e t)(m:∀Z H Q,t' Z H Q->t Z H Q):PA X e t':=λpos aa s Z H Q I q=>h pos aa s Z H Q I (m _ _ _ q)
def PS.mono{e:Stmt}{t t':TS}(h:PS X e t)(m:∀D Z H,t' D Z H->t D Z H):PS X e t':=λaa s Z H D I q=>h aa s Z H D I (m _ _ _ q)
def iP.mono{e:List Stmt}{t t':TS}(h:iP X e t)(m:∀D Z H,t' D Z H->t D Z H):iP X e t':=λaa s Z H D I q=>h aa s Z H D I (m _ _ _ q)
abbrev XW:=ag->aj ag->St->Hp->Prop
def BB(F:Hp)(dx:aj ag):aj Int->Prop
 |none=>dx=none
 |some n=>∃d,dx=some d/\F d=some (.xd [("line",.int n)])
abbrev Rp(α β:Type):=Kn->Hp->β->α->Prop
section
variable{α β α' β':Type}(R:Rp α β){R':Rp α' β'}(K:PySem.W.Frag)(W:XW)(q:Nat){Z:St}{H H':Hp}{k k':Kn}{U:Gm}{S:aO}{Q:β->Hp->Prop}{Q':β'->Hp->Prop}
def fQ(Z:St)(k:Kn)(H:Hp)(Q:β->Hp->Prop):Rs α->Prop
 |.ok a S=>∀b k' H',Up q k H k' H'->bO K k' H' S->R k' H' b a->Q b H'
 |.ex C l S=>∀dx k' H',Up q k H k' H'->bO K k' H' S->BB k'.F dx l->W C dx Z H'
def tX(g:Gx α):St->Hp->(β->Hp->Prop)->Prop:=λZ H Q=>∃k U S res,bO K k H S/\fX K k Z U/\g U S=some res/\fQ R K W q Z k H Q res
variable{R K W q}
def fQ.up{res:Rs α}(w:fQ R K W q Z k H Q res)(u:Up q k H k' H'):fQ R K W q Z k' H' Q res:=by
 cases res with
 |ok a S=>exact λb k2 H2 u2 k r=>w b k2 H2 (u.trans u2) k r
 |ex C l S=>exact λdx k2 H2 u2 k r=>w dx k2 H2 (u.trans u2) k r
def A0{x:aj (Rs α)}{f:α->aO->aj (Rs α')}{res:Rs α'}(e:bd x f=some res):(∃a S,x=some (.ok a S)/\f a S=some res)\/∃C l S,x=some (.ex C l S)/\res=.ex C l S:=by
 unfold bd at e;split at e
 .cases e
 .exact .inl ⟨_,_,rfl,e⟩
 .cases e;exact .inr ⟨_,_,_,rfl,rfl⟩
def tX.bd{g:Gx α}{f:α->aO->aj (Rs α')}{res:Rs α'}(ok:bO K k H S)(gk:fX K k Z U)(e:bd (g U S) f=some res)(w:fQ R' K W q Z k H Q' res)
  (h:∀a S1 b k1 H1,bO K k1 H1 S1->fX K k1 Z U->R k1 H1 b a->f a S1=some res->fQ R' K W q Z k1 H1 Q' res->Up q k H k1 H1->Q b H1):tX R K W q g Z H Q:=by
 rcases A0 e with⟨a,S1,e1,e2⟩|⟨C,l,S1,e1,rfl⟩
 .exact⟨k,U,S,_,ok,gk,e1,λb k' H' u fj r=>h a S1 b k' H' fj (gk.up u) r e2 (w.up u) u⟩
 .exact⟨k,U,S,_,ok,gk,e1,w⟩
def fQ.now{a:α}{b:β}(w:fQ R K W q Z k H Q (.ok a S))(ok:bO K k H S)(r:R k H b a):Q b H:=w b k H .refl ok r
def pL{g:Gx α}{Q₂:β->Hp->Prop}(h:tX R K W q g Z H Q)(m:∀b H,Q b H->Q₂ b H):tX R K W q g Z H Q₂:=by
 obtain⟨k,U,S,res,ok,gk,e,w⟩:=h;refine⟨k,U,S,res,ok,gk,e,?_⟩;cases res with
 |ok a S=>exact λb k2 H2 u k r=>m _ _ (w b k2 H2 u k r)
 |ex C l S=>exact w
end
abbrev RE(K:PySem.W.Frag):Rp Rv V:=λk H x r=>pI K k H x r
abbrev RA(K:PySem.W.Frag):Rp (List Val) (List V):=λk _ xs vs=>Paired (cI K k) xs vs
abbrev RB:Rp Bool Bool:=λ_ _ b a=>b=a
abbrev GE:=Gx Rv
variable{g f:GE}
abbrev GA:=Gx (List Val)
variable{h:GA}
abbrev GT:=Gx Bool
abbrev tE(K:PySem.W.Frag)(W:XW)(q:Nat)(g:GE):TE:=tX (RE K) K W q g
abbrev fW(K:PySem.W.Frag)(W:XW)(q:Nat)(g:GA):TA:=tX (RA K) K W q g
abbrev tT(K:PySem.W.Frag)(W:XW)(q:Nat)(g:GT):TT:=tX RB K W q g
noncomputable def gC(d:D):GE:=λ_ S=>some (.ok (.v (.d d)) S)
noncomputable def sV(i:Nat):GE:=λU S=>((U[i]?).join).map λv=>.ok (.v v) S
def Nz{α:Type}{x:aj (aj α)}{v:α}(h:x.join=some v):x=some (some v):=by
 cases x with
 |none=>cases h
 |some y=>exact congrArg some h
noncomputable def m9:Rv->Val
 |.v x=>x
 |.o c=>.d c.d
noncomputable def hpR(S:aO):Rv->Rs Rv
 |.o c=>.ok (.v (.d (.ref S.r.length))) ⟨S.s,S.r++[.o c]⟩
 |r=>.ok r S
def jk(g:GE):GE:=λU S=>bd (g U S) λr S1=>some (hpR S1 r)
noncomputable def gN:GA:=λ_ S=>some (.ok [] S)
def mD(g:GE)(h:GA):GA:=λU S=>bd (g U S) λr S1=>bd (h U S1) λvs S2=>some (.ok (m9 r::vs) S2)
section
variable{X:Cx}{K:PySem.W.Frag}{W:XW}{q:Nat}{e a b:Expr}{es:List Expr}{mG fb fc:GE}{fs:GA}{ft fu:GT}{pos:Pos}{Z:St}{H:Hp}
def yT{d:D}(h:PE X e (tC v))(hf:wt d=some v:=by rfl):PE X e (tE K W q (gC d)):=h.mono λZ H Q t=>by
 obtain⟨k,U,S,res,ok,gk,e,w⟩:=t;cases e;exact w.now ok (show ah K k [v] [d] from .flat hf .nil)
def e0f{i:Nat}(h:PE X e (z7 i)):PE X e (tE K W q (sV i)):=h.mono λZ H Q t=>by
 obtain⟨k,U,S,res,ok,gk,e,w⟩:=t;obtain⟨v,q,rfl⟩:=cW.mp e;obtain⟨x,hx,r⟩:=gk.at' i v (Nz q);exact⟨x,hx,w.now ok (show pI K k H x (.v v) from r)⟩
def rG{r:Rv}(ok:bO K k H S)(h:pI K k H x r):∃k',(∀q,Up q k H k' H)/\bO K k' H S/\cI K k' x (m9 r):=by
 cases r with
 |v y=>exact⟨k,λ_=>.refl,ok,h⟩
 |o c=>
  obtain⟨p,rfl,hF,hi,hc⟩:=h;obtain⟨F',fj,u,rp⟩:=ok.J4 hF hi hc;exact⟨_,u,fj,rp⟩
def vd(h:PE X e (tE K W q mG)):PE X e (tE K W q (jk mG)):=h.mono λZ H Q t=>by
 obtain⟨k,U,S,res,ok,gk,e,w⟩:=t;refine tX.bd ok gk e w λr S1 x k1 H1 bw g1 r1 e1 w1 _=>?_
 cases r with
 |v y=>cases e1;exact w1.now bw r1
 |o c=>
  cases e1;obtain⟨p,rfl,hF,hi,hc⟩:=r1;obtain⟨cA,u⟩:=bw.xx hi (c:=.o c) ⟨hF,hc⟩;exact w1 _ _ _ (u q) cA (show ah K _ [.ref p] [.ref S1.r.length] from .ref (by rw[<-bw.r.ln];exact Fy) .nil)
def uV(t:fW K W q (mD g h) Z H Q):tE K W q g Z H λx H1=>fW K W q h Z H1 λxs H2=>Q (x::xs) H2:=by
 obtain⟨k,U,S,res,ok,gk,e,w⟩:=t;refine tX.bd ok gk e w λr S1 x k1 H1 bw g1 r1 e1 w1 _=>?_
 obtain⟨k2,u2,cA,r2⟩:=rG bw r1;refine tX.bd cA (g1.up (u2 q)) e1 (w1.up (u2 q)) λvs S3 xs k3 H3 jB g3 r3 e3 w3 u3=>?_
 cases e3;exact w3.now jB (.cons (r2.up u3) r3)
def A1(t:fW K W q gN Z H Q):Q [] H:=by
 obtain⟨k,U,S,res,ok,gk,e,w⟩:=t;cases e;exact w.now ok .nil
def yU:PA X [] (fW K W q gN):=mW.mono λZ H Q t=>A1 t
def Ym(ha:PE X e (tE K W q g))(hr:PA X es (fW K W q h))(hs:starEach (e::es) X.env=(false,eval e X.env)::starEach es X.env):PA X (e::es) (fW K W q (mD g h)):=(Fx ha hr hs).mono λZ H Q t=>uV t
def Top(K:PySem.W.Frag)(k:Kn)(H:Hp)(x:V)(d:D):Prop:=ah K k [x] [d]\/∃p c,x=.ref p/\d=Bx.d c/\dh K k H p c
noncomputable def Cell.vI:Cell->aj D
 |.o c=>some c.d
 |.z c=>some c.d
 |.ins _ _=>none
def vI(S:aO):Val->aj D
 |.d (.ref n)=>(S.r[n]?).bind Cell.vI
 |.d x=>some x
 |.c n=>(S.s[n]?).bind Cell.vI
def vJ(S:aO):List Val->aj (List D)
 |[]=>some []
 |v::vs=>(vI S v).bind λd=>(vJ S vs).map λds=>d::ds
def N_{x:ag}{c:Cell}{d:D}(h:aZ K k H x c)(e:c.vI=some d):Top K k H (.ref x) d:=by
 cases c with
 |o b=>cases e;exact .inr ⟨x,b,rfl,rfl,h.2⟩
 |z b=>cases e;exact .inl h.2
 |ins _ _=>cases e
def FR{v:Val}{d:D}(ok:bO K k H S)(h:cI K k x v)(e:vI S v=some d):Top K k H x d:=by
 cases v with
 |d y=>
  cases y with
  |ref n=>
   obtain⟨p,rfl,h1⟩:=ah.isRef h;obtain⟨c,h2,e⟩:=cg.mp e;exact N_ (ok.r.at' n p c h1 h2) e
  |_=>cases e;exact .inl h
 |c n=>
  obtain⟨p,rfl,h1⟩:=h;obtain⟨c,h2,e⟩:=cg.mp e;exact N_ (ok.s.at' n p c h1 h2) e
def OZ{xs:List V}(ok:bO K k H S)(h:Paired (cI K k) xs vs)(e:vJ S vs=some ds):Paired (Top K k H) xs ds:=by
 induction h generalizing ds with
 |nil=>cases e;exact .nil
 |cons r _ ih=>
  obtain⟨d,e1,e⟩:=cg.mp e;obtain⟨es,e2,rfl⟩:=cW.mp e;exact .cons (FR ok r e1) (ih e2)
def Sk(K:PySem.W.Frag)(k':Kn)(H H':Hp)(x:V):Rv->Prop
 |.v (.d y)=>ah K k' [x] [y]
 |.o c=>∃p,x=.ref p/\H p=none/\k'.F p=none/\dh K k' H' p c
 |_=>False
def kY(K:PySem.W.Frag)(k:Kn)(H:Hp)(r:Rv)(Q:VK):Prop:=∀x F' H',av k.F F'->av H H'->av F' H'->(∀p,H p≠none->k.F p=none->F' p=none)->Sk K ⟨F',k.A,k.T⟩ H H' x r->Q x H'
def bP(K:PySem.W.Frag)(r:List V->Hp->VK->Prop)(o:List D->aj Rv):Prop:=∀k H xs ds y Q,av k.F H->Paired (Top K k H) xs ds->o ds=some y->kY K k H y Q->r xs H Q
def gO(o:List D->aj Rv)(g:GA):GE:=λU S=>bd (g U S) λvs S1=>(vJ S1 vs).bind λds=>(o ds).map λr=>.ok r S1
def kY.fin{y:Rv}{Q:VK}(ok:bO K k H S)(w:fQ (RE K) K W q Z k H Q (.ok y S)):kY K k H y Q:=λx F' H' s1 s2 s3 fr nw=>by
 refine w x ⟨F',k.A,k.T⟩ H' (.of s1 s2) (ok.new s1 (λp _ o z=>s2 p o z) s3 λp m=>fr p (ok.there p m)) ?_
 cases y with
 |v z=>
  cases z with
  |d z=>exact nw
  |_=>exact nw.elim
 |o c=>obtain⟨p,e4,e5,e6,e7⟩:=nw;exact⟨p,e4,e6,(ok.fresh e5).2,e7⟩
def u7{r:List V->Hp->VK->Prop}(bh:bP K r o){g:GA}{Q:VK}(t:tE K W q (gO o g) Z H Q):fW K W q g Z H λxs H1=>r xs H1 Q:=by
 obtain⟨k,U,S,res,ok,gk,e,w⟩:=t;refine tX.bd ok gk e w λvs S1 xs k1 H1 bw g1 r1 e1 w1 _=>?_
 obtain⟨ds,e2,e1⟩:=cg.mp e1;obtain⟨y,e3,rfl⟩:=cW.mp e1;exact bh k1 H1 xs ds y Q bw.le (OZ bw r1 e2) e3 (.fin bw w1)
section
variable{k:Kn}{x:V}{Q:VK}
def kY.rep{y:D}(h:kY K k H (.v (.d y)) Q)(le:av k.F H)(r:ah K k [v] [y]):Q v H:=h v k.F H (av.refl _) (av.refl _) le (λ_ _ z=>z) r
theorem kY.flat{y:D}{v:V}(h:kY K k H (.v (.d y)) Q)(le:av k.F H)(e:wt y=some v):Q v H:=h.rep le (.flat e .nil)
def kY.lst{ds:List D}{ws:List V}(h:kY K k H (.o (.lst ds)) Q)(le:av k.F H)(r:ah K k ws ds){l:ag}(hn:H l=none):Q (.ref l) (upd H l (.lst ws)):=
 h _ k.F _ (av.refl _) (sD hn) (le.put hn) (λ_ _ z=>z) ⟨l,rfl,hn,le.free hn,ws,aI,r⟩
def kY.az{kvs:List (TK×D)}{es:List (TK×V×V)}{ep:Nat}(h:kY K k H (.o (.az kvs)) Q)(le:av k.F H)(q:es.map (·.1)=kvs.map (·.1))(r:ah K k (es.map (·.2.1)) (kvs.map (·.1.d)))(t:ah K k (es.map (·.2.2)) (kvs.map (·.2))){l:ag}(hn:H l=none):Q (.ref l) (upd H l (.dG es ep)):=
 h _ k.F _ (av.refl _) (sD hn) (le.put hn) (λ_ _ z=>z) ⟨l,rfl,hn,le.free hn,es,ep,aI,q,r,t⟩
theorem kY.tup{ds:List D}{ws:List V}(h:kY K k H (.v (.d (.tup ds))) Q)(le:av k.F H)(r:ah K k ws ds){l:ag}(hn:H l=none):Q (.ref l) (upd H l (.tup ws)):=by
 have hF:=le.free hn;refine h _ (upd k.F l (.tup ws)) _ (sD hF) (sD hn) (λb u z=>?_) (λp z1 z2=>by rw[cP (show p≠l from λz=>z1 (z ▸ hn))];exact z2) (show ah K ⟨upd k.F l (.tup ws),k.A,k.T⟩ [.ref l] [.tup ds] from .tup (.inl (.inl aI)) (r.mono ⟨sD hF,lE _⟩) .nil)
 by_cases q:b=l
 .subst q;rw[aI] at z ⊢;exact z
 .rw[cP q] at z ⊢;exact le b u z
noncomputable abbrev Kn.all(k:Kn)(H:Hp):Kn:=⟨H,k.A,k.T⟩
def ah.all{vs:List V}{ds:List D}(h:ah K k vs ds)(le:av k.F H):ah K (k.all H) vs ds:=h.mono ⟨le,lE _⟩
def Top.rep{d:D}(h:Top K k H x d)(le:av k.F H):ah K (k.all H) [x] [d]:=by
 rcases h with h|⟨p,c,rfl,rfl,h⟩
 .exact h.all le
 .cases c with
  |lst xs=>obtain⟨ws,e,r⟩:=h;exact .lst (.inl (.inl e)) (r.all le) .nil
  |az kvs=>obtain⟨es,ep,e,q,r,t⟩:=h;exact .az e q (r.all le) (t.all le) .nil
def Top.flat{d:D}(h:Top K k H x d)(e:wt d=some v):x=v:=by
 rcases h with h|⟨p,c,rfl,rfl,h⟩
 .exact h.aX e
 .cases c <;> cases e
def Top.lst{ds:List D}(h:Top K k H x (.lst ds))(le:av k.F H):∃p ws,x=.ref p/\cC K H p ws/\ah K k ws ds:=by
 rcases h with h|⟨p,c,rfl,e,h⟩
 .obtain⟨p,ws,rfl,q,r⟩:=h.xa;exact⟨p,ws,rfl,le.LC q,r⟩
 .cases c <;> cases e;obtain⟨ws,e,r⟩:=h;exact⟨p,ws,rfl,.inl (.inl e),r⟩
def Top.tup{ds:List D}(h:Top K k H x (.tup ds))(le:av k.F H):∃p ws,x=.ref p/\gA K H p ws/\ah K k ws ds:=by
 rcases h with h|⟨p,c,rfl,e,h⟩
 .obtain⟨p,ws,rfl,q,r⟩:=h.isTup;exact⟨p,ws,rfl,le.zZ q,r⟩
 .cases c <;> cases e
def Top.az{kvs:List (TK×D)}(h:Top K k H x (.az kvs))(le:av k.F H):∃p es ep,x=.ref p/\H p=some (.dG es ep)/\es.map (·.1)=kvs.map (·.1)/\ah K k (es.map (·.2.1)) (kvs.map (·.1.d))/\ah K k (es.map (·.2.2)) (kvs.map (·.2)):=by
 rcases h with h|⟨p,c,rfl,e,h⟩
 .obtain⟨p,es,ep,rfl,q,r⟩:=h.w_;exact⟨p,es,ep,rfl,le _ _ q,r⟩
 .cases c <;> cases e;obtain⟨es,ep,h⟩:=h;exact⟨p,es,ep,rfl,h⟩
end
def nj(r:R2):List V->Hp->VK->Prop:=λxs H Q=>∃x y,xs=[x,y]/\r x y H Q
def Ln(r:V->Hp->VK->Prop):List V->Hp->VK->Prop:=λxs H Q=>∃x,xs=[x]/\r x H Q
abbrev bo(f:GE):GA:=mD f gN
abbrev bM(f g:GE):GA:=mD f (mD g gN)
def Gn{r:V->V->Hp->Prop}(h:fW K W q (bM f g) Z H λxs H1=>∃x y,xs=[x,y]/\r x y H1):tE K W q f Z H λx H1=>tE K W q g Z H1 λy H2=>r x y H2:=
 pL (uV h) λx H1 t=>pL (uV t) λy H2 t=>by
  obtain⟨x',y',e,q⟩:=A1 t;cases e;exact q
def JP{r:V->Hp->Prop}(h:fW K W q (bo f) Z H λxs H1=>∃x,xs=[x]/\r x H1):tE K W q f Z H r:=
 pL (uV h) λx H1 t=>by
  obtain⟨x',e,q⟩:=A1 t;cases e;exact q
def e6g{op:Operator}(ho:dw X (binaryOp op) r)(ok:bP K (nj r) o)(ha:PE X a (tE K W q mG))(hb:PE X b (tE K W q fb)):PE X (.BinOp a op b pos) (tE K W q (gO o (bM mG fb))):=(e5z ho ha hb).mono λ_ _ _ t=>Gn (u7 ok t)
def e6h{op:UnaryOp}{r:V->Hp->VK->Prop}(ho:EE X (unaryOp op) r)(ok:bP K (Ln r) o)(ha:PE X a (tE K W q mG)):PE X (.UnaryOp op a pos) (tE K W q (gO o (bo mG))):=(e6a ho ha).mono λ_ _ _ t=>JP (u7 ok t)
def e0g{op:CmpOp}(ho:dw X (compareOp op) r)(ok:bP K (nj r) o)(ha:PE X a (tE K W q mG))(hb:PE X b (tE K W q fb))(hm:behindInMarks op b=false):PE X (.Compare a [op] [b] pos) (tE K W q (gO o (bM mG fb))):=(XQ ho ha hb hm).mono λ_ _ _ t=>Gn (u7 ok t)
def e6i(ho:qO X r)(ok:bP K (nj r) o)(ha:PE X a (tE K W q mG))(hb:PE X b (tE K W q fb))(hs:I_ b):PE X (.Subscript a b pos) (tE K W q (gO o (bM mG fb))):=(e6d ho ha hb hs).mono λ_ _ _ t=>Gn (u7 ok t)
end
noncomputable def Rv.bool:Rv->aj Bool
 |.v (.d (.bl b))=>some b
 |_=>none
def Rv.u9{r:Rv}{b:Bool}(h:r.bool=some b):r=.v (.d (.bl b)):=by
 unfold Rv.bool at h;split at h
 .cases h;rfl
 .cases h
noncomputable def Aa:D->aj Bool
 |.aF=>some false
 |.bl b=>some b
 |.int i=>some (i != 0)
 |.str y=>if y.length<=1000000 then some ((y.length:Int) != 0) else none
 |.lst xs=>some (!xs.isEmpty)
 |.tup xs=>some (!xs.isEmpty)
 |_=>none
noncomputable def gB(g:GE):GT:=λU S=>bd (g U S) λr S1=>r.bool.map λb=>.ok b S1
def cJ(g:GE):GT:=λU S=>bd (g U S) λr S1=>((vI S1 (m9 r)).bind Aa).map λb=>.ok b S1
noncomputable def et(g:GT):GT:=λU S=>bd (g U S) λb S1=>some (.ok (!b) S1)
noncomputable def C3(c g h:GT):GT:=λU S=>bd (c U S) λb S1=>if b=true then g U S1 else h U S1
def iD(b:Bool):GT:=λ_ S=>some (.ok b S)
def c_(g h:GT):GT:=C3 g h (iD false)
def jz(g h:GT):GT:=C3 g (iD true) h
noncomputable def Gr(c:GT)(g h:GE):GE:=λU S=>bd (c U S) λb S1=>if b=true then g U S1 else h U S1
def sU(g h:GE):GE:=Gr (gB g) h (gC (.bl false))
section
variable{X:Cx}{K:PySem.W.Frag}{W:XW}{q:Nat}{e a b:Expr}{es rest:List Expr}{f g h:GE}{fs:GA}{ft fu:GT}{pos:Pos}{Z:St}{H:Hp}
def Q3{Q:Bool->Hp->Prop}(t:tT K W q (gB f) Z H Q):tE K W q f Z H λx H1=>∃k,x=.bl k/\Q k H1:=by
 obtain⟨k,U,S,res,ok,gk,e,w⟩:=t;refine tX.bd ok gk e w λr S1 x k1 H1 bw g1 r1 e1 w1 _=>?_
 obtain⟨b,e2,rfl⟩:=cW.mp e1;cases Rv.u9 e2;exact⟨b,(show ah K k1 [x] [.bl b] from r1).aX rfl,w1.now bw rfl⟩
def Yn{d:D}{b:Bool}(le:av k.F H)(h:Top K k H x d)(e:Aa d=some b):yh K x H b:=by
 cases d with
 |aF=>cases h.flat rfl;cases e;rfl
 |bl b=>cases h.flat rfl;cases e;rfl
 |int i=>cases h.flat rfl;cases e;rfl
 |str y=>
  cases h.flat rfl;unfold Aa at e;dsimp only at e;split at e
  .cases e;exact⟨jo (by assumption) (by decide),rfl⟩
  .cases e
 |lst xs=>
  cases e;obtain⟨p,ws,rfl,h1,h2⟩:=h.lst le;refine .inl ⟨ws,h1,?_⟩;have:=h2.length
  grind
 |tup xs=>
  cases e;obtain⟨p,ws,rfl,h1,h2⟩:=h.tup le;refine .inr (.inl ⟨ws,h1,?_⟩);have:=h2.length
  grind
 |_=>cases e
def e0h(hK:X.K=K)(he:PE X a (tE K W q f))(ht:∀whole,isTrue a X.env whole=(do let v <-whole;standAt a.pos;holding [v] (truthy v))):PT X a (tT K W q (cJ f)):=(Vy he ht).mono λZ H Q t=>by
 obtain⟨k,U,S,res,ok,gk,e,w⟩:=t;refine tX.bd ok gk e w λr S1 x k1 H1 bw g1 r1 e1 w1 _=>?_
 obtain⟨b,e2,rfl⟩:=cW.mp e1;obtain⟨d,e3,e4⟩:=cg.mp e2;obtain⟨k2,u2,cA,r2⟩:=rG bw r1;rw[hK];exact⟨b,Yn cA.le (FR cA r2 e3) e4,(w1.up (u2 q)).now cA rfl⟩
def Q4(h:PT X a (ua t))(m:∀Z H Q,tE K W q f Z H Q->t Z H Q):PT X a (tT K W q (gB f)):=h.mono λZ H Q q=>m Z H _ (Q3 q)
def y7(h:PT X a (tT K W q ft)):PT X (.UnaryOp .Not a pos) (tT K W q (et ft)):=(ζ h).mono λZ H Q t=>by
 obtain⟨k,U,S,res,ok,gk,e,w⟩:=t;refine tX.bd ok gk e w λb S1 x k1 H1 bw g1 r1 e1 w1 _=>?_
 cases e1;cases r1;exact w1.now bw rfl
def Gg{β' α':Type}{R':Rp α' β'}{gx gy:Gx α'}{Q':β'->Hp->Prop}(t:tX R' K W q (λU S=>bd (ft U S) λb S1=>if b=true then gx U S1 else gy U S1) Z H Q'):tT K W q ft Z H λb H1=>if b=true then tX R' K W q gx Z H1 Q' else tX R' K W q gy Z H1 Q':=by
 obtain⟨k,U,S,res,ok,gk,e,w⟩:=t;refine tX.bd ok gk e w λb S1 x k1 H1 bw g1 r1 e1 w1 _=>?_
 cases r1;cases b with
 |true=>exact tH ⟨k1,U,S1,res,bw,g1,e1,w1⟩
 |false=>exact tG ⟨k1,U,S1,res,bw,g1,e1,w1⟩
def CN{α β:Type}{R:Rp α β}{c:α}{b:β}{Q:β->Hp->Prop}(t:tX R K W q (λ_ S=>some (.ok c S)) Z H Q)(r:∀k H,R k H b c):Q b H:=by
 obtain⟨k,U,S,res,ok,gk,e,w⟩:=t;cases e;exact w.now ok (r k H)
def Jc{c:Bool}{p p' q q':Prop}(h:if c=true then p else q)(h1:p->p')(h2:q->q'):if c=true then p' else q':=by
 cases c with
 |true=>exact h1 h
 |false=>exact h2 h
def y8(ha:PT X a (tT K W q ft))(hb:PW X (.BoolOp .And (b::rest) pos) (tT K W q fu)):PW X (.BoolOp .And (a::b::rest) pos) (tT K W q (c_ ft fu)):=(ε ha hb).mono λZ H Q t=>
 pL (Gg t) λc H1 z=>Jc z id λz=>CN z λ_ _=>rfl
def CV(ha:PT X a (tT K W q ft))(hb:PW X (.BoolOp .Or (b::rest) pos) (tT K W q fu)):PW X (.BoolOp .Or (a::b::rest) pos) (tT K W q (jz ft fu)):=(e5x ha hb).mono λZ H Q t=>
 pL (Gg t) λc H1 z=>Jc z (λz=>CN z λ_ _=>rfl) id
def yV(ha:PE X a (tE K W q f))(hb:PE X (.BoolOp .And (b::rest) pos) (tE K W q g)):PE X (.BoolOp .And (a::b::rest) pos) (tE K W q (sU f g)):=(η ha hb).mono λZ H Q t=>
 pL (Q3 (Gg t)) λx H1 ⟨c,e,z⟩=>⟨c,e,Jc z id λz=>CN z λ_ _=>ah.flat rfl .nil⟩
def CS{c:Expr}(hc:PT X c (tT K W q ft))(ha:PE X a (tE K W q f))(hb:PE X b (tE K W q g)):PE X (.IfExp c a b pos) (tE K W q (Gr ft f g)):=(Vt hc ha hb).mono λZ H Q t=>Gg t
end
noncomputable def pR(S:aO):Val->aj (D×aO)
 |.d x=>some (x,S)
 |.c n=>(S.s[n]?).bind λc=>match c with
  |.o b=>some (b.d,⟨S.s.set n (.z b),S.r⟩)
  |.z b=>some (b.d,S)
  |.ins _ _=>none
def qW:List Val->aO->aj (List D×aO)
 |[],S=>some ([],S)
 |v::vs,S=>(pR S v).bind λp=>(qW vs p.2).map λq=>(p.1::q.1,q.2)
section
variable{K:PySem.W.Frag}{k:Kn}{H:Hp}{S S':aO}
def Fz{v:Val}{d:D}(ok:bO K k H S)(h:cI K k x v)(e:pR S v=some (d,S')):∃k',(∀q,Up q k H k' H)/\bO K k' H S'/\ah K k' [x] [d]:=by
 cases v with
 |d y=>cases e;exact⟨k,λ_=>.refl,ok,h⟩
 |c n=>
  obtain⟨p,rfl,hp⟩:=h;obtain⟨c,h1,e⟩:=cg.mp e;cases c with
  |o b=>
   cases e;obtain⟨F',fj,u,rp⟩:=ok.J5 hp h1;exact⟨_,u,fj,rp⟩
  |z b=>cases e;exact⟨k,λ_=>.refl,ok,(ok.s.at' n p _ hp h1).2⟩
  |ins C fs=>cases e
def FA{xs:List V}(ok:bO K k H S)(h:Paired (cI K k) xs vs)(e:qW vs S=some (ds,S')):∃k',(∀q,Up q k H k' H)/\bO K k' H S'/\ah K k' xs ds:=by
 induction vs generalizing xs ds k S with
 |nil=>cases e;cases h;exact⟨k,λ_=>.refl,ok,.nil⟩
 |cons v vs ih=>
  cases h with
  |cons r t=>
   obtain⟨⟨v1,S1⟩,e1,e⟩:=cg.mp e;obtain⟨⟨vs2,S2⟩,e2,e⟩:=cW.mp e;cases e;obtain⟨k1,u1,bw,r1⟩:=Fz ok r e1;obtain⟨k2,u2,cA,r2⟩:=ih bw (v8.up t (u1 0)) e2;exact⟨k2,λb=>(u1 b).trans (u2 b),cA,.cons (r1.mono (u2 0).le) r2⟩
end
noncomputable def Lx(t:Bool)(p:List D×aO):Rs Rv:=.ok (if t=true then .v (.d (.tup p.1)) else .o (.lst p.1)) p.2
def bC(t:Bool)(g:GA):GE:=λU S=>bd (g U S) λvs S1=>if vs.length<=1000000 then(qW vs S1).map (Lx t) else none
section
variable{X:Cx}{K:PySem.W.Frag}{W:XW}{q:Nat}{es:List Expr}{fs:GA}{pos:Pos}{Z:St}{H:Hp}
def ml{n:Nat}(h:n<=1000000):n<=sizeLine:=jo h (by decide)
def P7{t:Bool}{Q:VK}(h:tE K W q (bC t fs) Z H Q):fW K W q fs Z H λxs H1=>xs.length<=sizeLine/\∀p,H1 p=none->Q (.ref p) (upd H1 p (if t=true then .tup xs else .lst xs)):=by
 obtain⟨k,U,S,res,ok,gk,e,w⟩:=h;refine tX.bd ok gk e w λvs S1 xs k1 H1 bw g1 r1 e1 w1 _=>?_
 split at e1
 .rename_i hl
  refine⟨by rw[Paired.length r1];exact ml hl,λp hp=>?_⟩
  obtain⟨⟨ds,S2⟩,e2,e3⟩:=cW.mp e1;obtain⟨k2,u2,cA,r2⟩:=FA bw r1 e2;have w2:=w1.up (u2 q);cases e3;cases t with
  |false=>exact kY.lst (.fin cA w2) cA.le r2 hp
  |true=>exact kY.tup (.fin cA w2) cA.le r2 hp
 .cases e1
def yX{x1}(h:PA X es (fW K W q fs)):PE X (.Tuple es x1 pos) (tE K W q (bC true fs)):=(d9w h).mono λZ H Q t=>P7 t
def yW(h:PA X es (fW K W q fs)):PE X (.List es pos) (tE K W q (bC false fs)):=(d9x h).mono λZ H Q t=>P7 t
end
variable{base:bJ}{env:Env}{outer:List Env}{L e C:ag}{dx:aj ag}{n:Nat}{H:Hp}{Q:Unit->aq->Prop}
structure fq (fs ch:List ag) (h h':bJ):Prop where
 keep:∀b o,b∉fs->b∉ch->h.get? b=some o->h'.get? b=some o
 slot:∀b o,b∈fs->b∉ch->h.get? b=some o->∃sl,h'.get? b=some { o with slots:=sl}
def gZ(n:Nat)(h:bJ)(H:Hp)(e C:ag)(dx:aj ag):Prop:=n<=e/\H e=none/\∃oe vs,h.get? e=some oe/\oe.cls=.ref C/\oe.dict=dx/\oe.data=.fields vs/\1<vs.size/\
 (vs[1]?=some .none\/∃T oT ts,vs[1]?=some (.ref T)/\n<=T/\H T=none/\T≠e/\h.get? T=some oT/\oT.data=.fields ts/\ts[3]?=some .none)
def UB(f:Array ai->Array ai)(o:Obj):(Obj.mapFields f o).dict=o.dict:=by obtain⟨c,d,dt,sl⟩:=o;cases dt <;> rfl
section
variable{M:Model}{A:cF}{E:ai->aq->Prop}{s:aq}
def O0{oe:Obj}{vs:Array ai}{head:ai}{had:Bool}
  (s_:A.frames=some (env::outer)) (hl:s.heap.FunFrames base (env::outer)) (hf:env.frame=some L) (he:s.heap.get? e=some oe) (hc:oe.cls=.ref C) (hx:oe.dict=dx) (hd:oe.data=.fields vs) (hsz:1<vs.size) (hn:n<=s.heap.objs.size) (fH:n<=e) (uB:H e=none) (hH:∀a,s.heap.objs.size<=a->H a=none)
  (h:∀h',fq (kh (env::outer)) [e] s.heap h'->gZ n h' H e C dx->Q () { s with heap:=h'}) :
  wpAny M A (do let a <-frameOf env;let pl <-entryPlaceOf L had;let b <-EntryCells.newEntry head a .none (rawInt L) .none pl;setField (.ref e) 1 b) (λ_ s'=>wpAny M A (setFlight (.ref e) none) Q E s') E s:=by
 have ene:e∉kh (env::outer):=λm=>by
  obtain⟨_,o,ho,Kq⟩:=hl.mem m
  simp_all
 refine ay (wpAny_frameOf_fun s_ hl hf λh1 so=>ay (wpAny_entryPlaceOf λpl jK=>?_))
 unfold EntryCells.newEntry newFields;refine ay (wpAny_newObj_type ?_ (jK.sizeOk5 _ _ _ _ _));generalize eN:({ cls:=.type "traceback",dict:=none,data:=.fields ([head,.ref L,.none,rawInt L,.none]++(if pl.isEmpty then List.replicate 6 Value.none else pl)).toArray}:Obj)=oN
 have e1:h1.get? e=some oe:=(so.2.1 e ene).trans he;have e2:(h1.push oN).get? e=some oe:=cO _ e1;have nT:h1.objs.size≠e:=xR (cD e1);have fN:oN.data=.fields ([head,.ref L,.none,rawInt L,.none]++(if pl.isEmpty then List.replicate 6 Value.none else pl)).toArray:=by rw[<-eN]
 have lN:3<([head,.ref L,.none,rawInt L,.none]++(if pl.isEmpty then List.replicate 6 Value.none else pl)).toArray.size:=by simp only[de,cB,jr,Af];lia
 have dE:=Obj.data_mapFields hd (·.setIfInBounds 1 (Value.ref h1.objs.size))
 have e3:=rQ (Obj.mapFields (·.setIfInBounds 1 (Value.ref h1.objs.size))) e2 (Obj.isFreed_of_fields dE)
 have t3:((h1.push oN).update e (Obj.mapFields (·.setIfInBounds 1 (Value.ref h1.objs.size)))).get? h1.objs.size=some oN:=(p4 _ _ (Ne.symm nT)).trans (jq h1 (Obj.isFreed_of_fields fN))
 have dT:=Obj.data_mapFields fN (·.setIfInBounds 3 ((none:aj ag).elim Value.none λf=>rawInt f))
 refine wpAny_setField e2 hd hsz ?_;unfold setFlight;refine ay (wpAny_field e3 dE (x:=.ref h1.objs.size) (by simp[hsz]) ?_)
 rw[aN (show(Value.ref h1.objs.size != Value.none)=true by simp)]
 refine wpAny_setField t3 fN lN (h _ ⟨λb o hb mJ g=>?_,λb o hb mJ g=>?_⟩ ⟨fH,uB,_,_,(p4 _ _ nT).trans e3,(Obj.cls_mapFields _ _).trans hc,(UB _ _).trans hx,dE,by simpa using hsz,.inr ⟨h1.objs.size,_,_,by simp[hsz],by rw[so.1];exact hn,hH _ (by rw[so.1];exact bG _),nT,rQ _ t3 (Obj.isFreed_of_fields dT),dT,by simp[Array.getElem?_setIfInBounds,lN]⟩⟩)
 .have be:b≠e:=λz=>mJ (by simp[z])
  have b1:h1.get? b=some o:=(so.2.1 b hb).trans g;rw[p4 _ _ (xR (cD b1)),p4 _ _ (Ne.symm be)];exact cO _ b1
 .have be:b≠e:=λz=>mJ (by simp[z])
  obtain⟨sl,b1⟩:=so.2.2 b o g;refine⟨sl,?_⟩;rw[p4 _ _ (xR (cD b1)),p4 _ _ (Ne.symm be)];exact cO _ b1
def P8
  (s_:A.frames=some (env::outer)) (hl:s.heap.FunFrames base (env::outer)) (hf:env.frame=some L) (hn:n<=s.heap.objs.size) (hH:∀a,s.heap.objs.size<=a->H a=none) (fl:gZ n s.heap H e C dx)
  (h:∀h' ch,(∀b∈ch,n<=b/\H b=none)->fq (kh (env::outer)) ch s.heap h'->gZ n h' H e C dx->Q () { s with heap:=h'}):wpAny M A (noteFrame (.ref e) env) (λ_ s'=>wpAny M A (setFlight (.ref e) none) Q E s') E s:=by
 obtain⟨fH,uB,oe,vs,he,hc,hx,hd,hsz,h1⟩:=fl;unfold noteFrame;simp only[hf];rcases h1 with h1|⟨T,oT,ts,h1,GQ,Gy,Gz,hT,Dc,h3⟩
 .refine ay (wpAny_field he hd h1 ?_);rw[aJ (by decide)]
  exact O0 s_ hl hf he hc hx hd hsz hn fH uB hH λh' l f=>h h' [e] (λb m=>by cases kR.1 m;exact⟨fH,uB⟩) l f
 .refine ay (wpAny_field he hd h1 ?_);rw[aN (show(Value.ref T != Value.none)=true by simp)]
  refine ay (wpAny_field hT Dc h3 ?_);rw[aJ (show ¬(Value.none == rawInt L)=true by simp[rawInt])]
  refine ay (wpAny_setField hT Dc (Bu.mp h3).1 ?_);have ot:∀b,b≠T->(s.heap.update T (Obj.mapFields (·.setIfInBounds 3 Value.none))).get? b=s.heap.get? b:=λb z=>p4 _ _ (Ne.symm z)
  have nr:∀b o,s.heap.get? b=some o->(∀vs,o.data≠.fields vs)->b≠T:=λb o hb Kq z=>by
   simp_all
  refine O0 (s:={ s with heap:=s.heap.update T (Obj.mapFields (·.setIfInBounds 3 Value.none))}) s_ (hl.of_keeps λb o hb Kq=>⟨o,(ot b (nr b o hb Kq)).trans hb,rfl⟩) hf ((ot e (Ne.symm Gz)).trans he) hc hx hd hsz (by simpa[Heap.size_after_update] using hn) fH uB (λa z=>hH a (by simpa[Heap.size_after_update] using z)) λh' l f=>h h' [e,T] (λb m=>?_) ⟨λb o hb mJ g=>?_,λb o hb mJ g=>?_⟩ f
  .simp only[y07,y1p,or_false] at m;rcases m with rfl|rfl
   .exact⟨fH,uB⟩
   .exact⟨GQ,Gy⟩
  .simp only[y07,y1p,or_false,not_or] at mJ;exact l.keep b o hb (by simp[mJ.1]) ((ot b mJ.2).trans g)
  .simp only[y07,y1p,or_false,not_or] at mJ;exact l.slot b o hb (by simp[mJ.1]) ((ot b mJ.2).trans g)
def Yo
  (s_:A.frames=some (env::outer)) (hl:s.heap.FunFrames base (env::outer)) (hf:env.frame=some L) (hn:n<=s.heap.objs.size) (hH:∀a,s.heap.objs.size<=a->H a=none) (fl:gZ n s.heap H e C dx)
  (h:∀h' ch,(∀b∈ch,n<=b/\H b=none)->fq (kh (env::outer)) ch s.heap h'->gZ n h' H e C dx->Q () { s with heap:=h'}):wpAny M A (leaving env (.ref e)) Q E s:=by
 unfold leaving;exact ay (P8 s_ hl hf hn hH fl h)
end
variable{n:Nat}{h h':bJ}{H:Hp}{e C:ag}{dx:aj ag}{X:Cx}{ch:List ag}{x:Str}{k:Kn}{Q:VK}
structure Ey (P:cS) (w:ck) (outer:List Env) (H:Hp) (s:aq) (H':Hp) (s':aq) (e C:ag) (dx:aj ag):Prop where
 os:s'.os=s.os
 bare:AllBare s'.gens
 un:Un (kh outer) [] H H' s.heap s'.heap
 bh:iO P w H' s'.heap
 A9:gZ s.heap.objs.size s'.heap H' e C dx
def nz(P:cS)(w:ck):ui:=λouter H s E e s'=>∃a C dx H',e=.ref a/\Ey P w outer H s H' s' a C dx/\E (.ref C) dx H'
def eJ(X:Cx)(W:XW):Prop:=∀(aa:List (ag×Obj)) (Z:St) (H:Hp) (s:aq) (H':Hp) (s':aq) (e C:ag) (dx:aj ag),Inv X aa Z H s->Ey X.prog X.w X.stack H s H' s' e C dx->W C dx Z H'->X.xe (.ref e) s'
def gZ.mono{n':Nat}(f:gZ n h H e C dx)(l:n'<=n):gZ n' h H e C dx:=by
 obtain⟨a,b,oe,vs,c1,c2,c3,c4,c5,c6⟩:=f;refine⟨jo l a,b,oe,vs,c1,c2,c3,c4,c5,?_⟩;rcases c6 with c6|⟨T,oT,ts,d1,d2,d3⟩
 .exact .inl c6
 .exact .inr ⟨T,oT,ts,d1,jo l d2,d3⟩
def gZ.lt(f:gZ n h H e C dx):n<=h.objs.size:=by
 obtain⟨a,b,oe,vs,c1,_⟩:=f;exact L7 (Mb a (cD c1))
def Ey.inv{aa:List (ag×Obj)}{Z:St}{H':Hp}{s s':aq}(c:Ey X.prog X.w X.stack H s H' s' e C dx)(I:Inv X aa Z H s):Inv X aa Z H' s':=
 I.wz (ch:=[]) c.os c.un c.bh c.bare λ_ z=>nomatch z
def fq.bh{P:cS}{w:ck}{fs:List ag}(l:fq fs ch h h')(k:iO P w H h)(hf:∀b∈fs,H b=none)(hc:∀b∈ch,H b=none):iO P w H h':=λb o q=>
 (k b o q).m7 (λc u z g=>l.keep c u (λm=>by
  simp_all) (λm=>by
  simp_all) g) (λ_ z=>z) λ_ _ z=>z
def fq.any{fs:List ag}(l:fq fs ch h h'){b:ag}{o:Obj}(g:h.get? b=some o)(hc:b∉ch):∃sl,h'.get? b=some { o with slots:=sl}:=by
 by_cases m:b∈fs
 .exact l.slot b o m hc g
 .exact⟨o.slots,l.keep b o m hc g⟩
def WF(E:XK):XW:=λC dx _ H'=>E (.ref C) dx H'
section
variable{P:cS}{w:ck}{K:PySem.W.Frag}{mg:Str->aj ai}{base:bJ}{N:List Str}{qual:Str}{scope:Scope}{f:ag}{cd:ai}{A:cF}{outer:List Env}{s₀:aq}{H₀:Hp}{E:XK}
def vB:eJ (mF (nz P w) P w K mg base N qual scope f cd A outer s₀ H₀ E) (WF E):=by
 intro aa Z H s H' s' e C dx I c q;have I':=c.inv I;have s_:(A.deeper (envOfC qual scope s₀.heap.objs.size f cd)).frames=some (envOfC qual scope s₀.heap.objs.size f cd::outer):=I.ok.frames;have sz:s₀.heap.objs.size<=s.heap.objs.size:=I.sz;refine Yo (base:=base) (L:=s₀.heap.objs.size) s_ I'.stack rfl c.A9.lt (λa z=>I'.bh.fresh z) c.A9 λh' ch kO lx fl=>⟨e,C,dx,H',rfl,⟨I'.os,I'.bare,?_,lx.bh I'.bh I'.jP λb m=>(kO b m).2,fl.mono sz⟩,q⟩
 have vy:∀b o,s₀.heap.get? b=some o->b∉ch:=λb o g m=>bT (fM (cD g) (jo sz (kO b m).1)) (jQ _)
 have nL:∀b o,s₀.heap.get? b=some o->b∉kh outer->b∉kh (envOfC qual scope s₀.heap.objs.size f cd::outer):=λb o g z m=>by
  rcases y07.mp (show b∈s₀.heap.objs.size::kh outer from m) with m|m
  .exact bT (m ▸ cD g) (jQ _)
  .exact z m
 have B:Un (kh outer) [] H₀ H' s₀.heap s'.heap:=I'.base;refine⟨λb o g n hb hx=>lx.keep b o (nL b o g hb) (vy b o g) (B.keep b o g n hb hx),λb o g n hb hx=>?_,B.free,λb o g hx=>?_,B.lB,B.kj,B.lA⟩
 .obtain⟨sl,g1⟩:=B.slot b o g n hb hx;obtain⟨Lz,g2⟩:=lx.any g1 (vy b o g);exact⟨Lz,g2⟩
 .obtain⟨o',g1⟩:=B.there b o g hx;obtain⟨sl,g2⟩:=lx.any g1 (vy b o g);exact⟨_,g2⟩
def DO:PassesOwn (model P w) (A.deeper (envOfC qual scope s₀.heap.objs.size f cd)) (envOfC qual scope s₀.heap.objs.size f cd) (mF (nz P w) P w K mg base N qual scope f cd A outer s₀ H₀ E).xe:=PassesOwn.leaving
end
def EW(W:XW):St->XK:=λZ c dx H'=>∃C,c=.ref C/\W C dx Z H'
def qt{W:XW}(h:eJ X W):yG (nz X.prog X.w) X (EW W):=λaa Z H s e s' I ⟨a,C,dx,H',he,c,C',hc,q⟩=>by
 cases hc;subst he;exact h aa Z H s H' s' a C dx I c q
abbrev GM:=List Val->aO->aj (Rs Rv)
def uk(K:PySem.W.Frag)(q n:Nat)(m:GM):Sp:=λxs H Q E=>xs.length=n/\∃k vs S res,bO K k H S/\Paired (cI K k) xs vs/\m vs S=some res/\fQ (RE K) K (WF E) q [] k H Q res
def iY(m:GM)(n:Nat):Prop:=∀vs S res,m vs S=some res->vs.length=n
def ax(m:GM)(g:GA):GE:=λU S=>bd (g U S) m
noncomputable def Rv.ref:Rv->aj Nat
 |.v (.d (.ref n))=>some n
 |_=>none
def Cell.kx(C:ag)(m:Str):Cell->Bool
 |.ins C' fs=>C' == C&&(fs.lookup m).isNone
 |_=>false
noncomputable def aT(C:ag)(x:Str)(m:GM)(f:GE)(g:GA):GE:=λU S=>bd (f U S) λr S1=>r.ref.bind λn=>if(S1.r[n]?).any (Cell.kx C x)=true then bd (g U S1) λvs S2=>m (.d (.ref n)::vs) S2 else none
noncomputable def Rv.xh:Rv->Bool
 |.v (.d .aF)=>true
 |_=>false
noncomputable def qi(C:ag)(m:GM)(g:GA):GE:=λU S=>bd (g U S) λvs S1=>bd (m (.d (.ref S1.r.length)::vs) ⟨S1.s,S1.r++[.ins C []]⟩) λr S2=>if r.xh=true then some (.ok (.v (.d (.ref S1.r.length))) S2) else none
def any_some{α:Type}{x:aj α}{p:α->Bool}(h:x.any p=true):∃c,x=some c/\p c=true:=by
 cases x with
 |none=>cases h
 |some c=>exact⟨c,rfl,h⟩
def Rv.mZ{r:Rv}(h:r.ref=some n):r=.v (.d (.ref n)):=by
 unfold Rv.ref at h;split at h
 .cases h;rfl
 .cases h
def UC{fs:List (Str×D)}{gs:List (Str×V)}(h:gs.map (·.1)=fs.map (·.1))(e:fs.lookup x=none):gs.lookup x=none:=by
 induction fs generalizing gs with
 |nil=>cases gs with
  |nil=>rfl
  |cons _ _=>cases h
 |cons p fs ih=>
  obtain⟨y,d⟩:=p;cases gs with
  |nil=>cases h
  |cons r gs=>
   obtain⟨z,v⟩:=r;obtain⟨h1,h2⟩:=List.cons.inj (show z::gs.map (·.1)=y::fs.map (·.1) from h)
   subst h1;rw[rA] at e ⊢;split at e
   .cases e
   .exact ih h2 e
section
variable{X:Cx}{K:PySem.W.Frag}{W:XW}{Z:St}{H:Hp}{q n:Nat}{m:GM}{g:GA}{f:GE}
def fQ.wf{res:Rs Rv}(w:fQ (RE K) K W q Z k H Q res):fQ (RE K) K (WF (EW W Z)) q [] k H Q res:=by
 cases res with
 |ok a S=>exact w
 |ex C l S=>exact λdx k' H' u k r=>⟨C,rfl,w dx k' H' u k r⟩
def Yp(hm:iY m n)(t:tE K W q (ax m g) Z H Q):fW K W q g Z H λxs H1=>uk K q n m (xs++[]) H1 Q (EW W Z):=by
 obtain⟨k,U,S,res,ok,gk,e,w⟩:=t;refine tX.bd ok gk e w λvs S1 xs k1 H1 bw g1 r1 e1 w1 _=>?_
 rw[l9];exact⟨(Paired.length r1).trans (hm _ _ _ e1),k1,vs,S1,res,bw,r1,e1,w1.wf⟩
def Cz{S:aO}{fs:List (Str×D)}{x:V}(ok:bO K k H S)(r:ah K k [x] [.ref n])(hn:S.r[n]?=some (.ins C fs)):∃a dx gs,x=.ref a/\k.A[n]?=some a/\k.F a=none/\H a=some (.ins C dx gs)/\gs.map (·.1)=fs.map (·.1)/\ah K k (gs.map (·.2)) (fs.map (·.2)):=by
 obtain⟨a,rfl,h1⟩:=r.isRef;obtain⟨h0,dx,gs,h2,h3,h4⟩:=ok.r.at' n a _ h1 hn;exact⟨a,dx,gs,rfl,h1,h0,h2,h3,h4⟩
def O1(hm:iY m n)(t:tE K W q (aT C x m f g) Z H Q):t_ C x (uk K q n m) [] (EW W) (tE K W q f) (fW K W q g) Z H Q:=by
 obtain⟨k,U,S,res,ok,gk,e,w⟩:=t;refine tX.bd ok gk e w λr S1 y k1 H1 bw g1 r1 e1 w1 _=>?_
 obtain⟨j,e2,e3⟩:=cg.mp e1;clear e1;cases Rv.mZ e2;split at e3
 .rename_i hi
  obtain⟨c,h1,h2⟩:=any_some hi;cases c with
  |ins C' fs=>
   obtain⟨h3,h4⟩:=Bv.mp h2;cases(beq_iff_eq.mp h3);obtain⟨a,dx,gs,q1,q2,q3,q4,q5,q6⟩:=Cz bw r1 h1;refine⟨a,dx,gs,q1,q4,UC q5 (Option.isNone_iff_eq_none.mp h4),?_⟩;refine tX.bd bw g1 e3 w1 λvs S2 xs k2 H2 cA g2 r2 e2 w2 u2=>?_
   rw[l9];have r3:Paired (cI K k2) (y::xs) (.d (.ref j)::vs):=.cons (cI.up (v:=.d (.ref j)) r1 u2) r2;exact⟨(Paired.length r3).trans (hm _ _ _ e2),k2,_,S2,res,cA,r3,e2,w2.wf⟩
  |_=>cases h2
 .cases e3
def Yq(hm:iY m n)(t:tE K W q (qi C m g) Z H Q):xP C (uk K q n m) [] (EW W) (fW K W q g) Z H Q:=by
 obtain⟨k,U,S,res,ok,gk,e,w⟩:=t;refine tX.bd ok gk e w λvs S1 xs k1 H1 bw g1 r1 e1 w1 _=>?_
 intro x dx hx hdx ne;rw[l9];have sm:av H1 (upd (upd H1 dx (.own x)) x (.ins C dx [])):=(sD hdx).put (by rw[cP (Ne.symm ne)];exact hx)
 obtain⟨fx,nx⟩:=bw.fresh hx;have cA:bO K k1 _ S1:=bw.new (av.refl _) (λa _ o z=>sm a o z) (bw.le.trans sm) λ_ _ z=>z
 obtain⟨jB,u3⟩:=cA.xx nx (c:=.ins C []) ⟨fx,dx,[],aI,rfl,.nil⟩;have h3:ah K ⟨k1.F,k1.A++[x],k1.T⟩ [.ref x] [.ref S1.r.length]:=.ref (by rw[<-bw.r.ln];exact Fy) .nil
 have u4:Up q k1 H1 ⟨k1.F,k1.A++[x],k1.T⟩ (upd (upd H1 dx (.own x)) x (.ins C dx [])):=(Up.of (av.refl _) sm).trans (u3 q);have r3:Paired (cI K ⟨k1.F,k1.A++[x],k1.T⟩) (.ref x::xs) (.d (.ref S1.r.length)::vs):=.cons h3 (v8.up r1 u4);rcases A0 e1 with⟨r,S2,e2,e1⟩|⟨C',l,S2,e2,rfl⟩
 .refine⟨(Paired.length r3).trans (hm _ _ _ e2),_,_,_,_,jB,r3,e2,λv k' H' u fj r'=>?_⟩
  split at e1
  .rename_i hr
   cases e1;unfold Rv.xh at hr;split at hr
   .exact⟨(show ah K k' [v] [.aF] from r').aX rfl,w1 (.ref x) k' H' (u4.trans u) fj (ah.mono u.le h3)⟩
   .cases hr
  .cases e1
 .exact⟨(Paired.length r3).trans (hm _ _ _ e2),_,_,_,_,jB,r3,e2,λex k' H' u fj r'=>⟨C',rfl,w1 ex k' H' (u4.trans u) fj r'⟩⟩
end
end L2
set_option autoImplicit false
namespace L2
open PySem PySem.Spec PyProof.Rows
variable{p i:Nat}{P:St->Hp->Prop}{H:Hp}{Z:St}{ts:um}
inductive Fr where
 |nx (U:Gm) (S:aO)|bk (U:Gm) (S:aO)|ct (U:Gm) (S:aO)|rt (r:Rv) (S:aO)|ex (C:ag) (l:aj Int) (U:Gm) (S:aO)
abbrev GS:=Gm->aO->aj Fr
section
variable(K:PySem.W.Frag)(W:XW)(q:Nat){D:Ends}{k k':Kn}{H H':Hp}{Z:St}{U:Gm}{S:aO}{fr:Fr}
def bL(k:Kn)(H:Hp)(P:St->Hp->Prop)(U:Gm)(S:aO):Prop:=∀Z' k' H',Up q k H k' H'->bO K k' H' S->fX K k' Z' U->P Z' H'
def Done(D:Ends)(k:Kn)(H:Hp):Fr->Prop
 |.nx U S=>bL K q k H D.nx U S
 |.bk U S=>bL K q k H D.bk U S
 |.ct U S=>bL K q k H D.ct U S
 |.rt r S=>∀v k' H',Up q k H k' H'->bO K k' H' S->pI K k' H' v r->D.rt v H'
 |.ex C l U S=>∀dx Z' k' H',Up q k H k' H'->bO K k' H' S->fX K k' Z' U->BB k'.F dx l->W C dx Z' H'
def tS(f:GS):TS:=λD Z H=>∃k U S fr,bO K k H S/\fX K k Z U/\f U S=some fr/\Done K W q D k H fr
variable{K W q}
def IF{q:Nat}{o:HO}(h:p<=q)(e:vw p o=true):vw q o=true:=by
 match p,q with
 |0,_=>cases e
 |1,0=>lia
 |1,1=>exact e
 |1,n+2=>rfl
 |n+2,0=>lia
 |n+2,1=>lia
 |n+2,m+2=>rfl
def Up.weak(u:Up q k H k' H')(h:p<=q):Up p k H k' H':=⟨u.f,u.a,u.t,λa o z e=>u.h a o (IF h z) e⟩
def bL.up(w:bL K q k H P U S)(u:Up q k H k' H'):bL K q k' H' P U S:=λZ' k2 H2 u2 ok g=>w Z' k2 H2 (u.trans u2) ok g
def bL.now(w:bL K q k H P U S)(ok:bO K k H S)(g:fX K k Z U):P Z H:=w Z k H .refl ok g
theorem Done.up(w:Done K W q D k H fr)(u:Up q k H k' H'):Done K W q D k' H' fr:=by
 cases fr with
 |nx U S=>exact bL.up w u
 |bk U S=>exact bL.up w u
 |ct U S=>exact bL.up w u
 |rt r S=>exact λv k2 H2 u2 k r=>w v k2 H2 (u.trans u2) k r
 |ex C l U S=>exact λdx Z' k2 H2 u2 k g r=>w dx Z' k2 H2 (u.trans u2) k g r
theorem Done.weak{p:Nat}(w:Done K W q D k H fr)(h:q<=p):Done K W p D k H fr:=by
 cases fr with
 |nx U S=>exact λZ' k2 H2 u=>w Z' k2 H2 (u.weak h)
 |bk U S=>exact λZ' k2 H2 u=>w Z' k2 H2 (u.weak h)
 |ct U S=>exact λZ' k2 H2 u=>w Z' k2 H2 (u.weak h)
 |rt r S=>exact λv k2 H2 u=>w v k2 H2 (u.weak h)
 |ex C l U S=>exact λdx Z' k2 H2 u=>w dx Z' k2 H2 (u.weak h)
def kN{α:Type}(U:Gm)(x:aj (Rs α))(f:α->aO->aj Fr):aj Fr:=match x with
 |none=>none
 |some (.ok a S)=>f a S
 |some (.ex C l S)=>some (.ex C l U S)
def tS.CK{α β:Type}{R:Rp α β}{g:Gx α}{f:α->aO->aj Fr}{Q:β->Hp->Prop}(ok:bO K k H S)(gk:fX K k Z U)(e:kN U (g U S) f=some fr)(w:Done K W q D k H fr)
  (h:∀a S1 b k1 H1,bO K k1 H1 S1->fX K k1 Z U->R k1 H1 b a->f a S1=some fr->Done K W q D k1 H1 fr->Up q k H k1 H1->Q b H1):tX R K W q g Z H Q:=by
 unfold kN at e;split at e
 .cases e
 .rename_i a S1 e1
  exact⟨k,U,S,_,ok,gk,e1,λb k' H' u fj r=>h a S1 b k' H' fj (gk.up u) r e (w.up u) u⟩
 .rename_i C l S1 e1
  cases e;exact⟨k,U,S,_,ok,gk,e1,λdx k' H' u fj r=>w dx Z k' H' u fj (gk.up u) r⟩
def tS.bd{α β:Type}{R:Rp α β}{g:Gx α}{f:α->aO->aj Fr}{Q:β->Hp->Prop}(ok:bO K k H S)(gk:fX K k Z U)(e:kN U (g U S) f=some fr)(w:Done K W q D k H fr)
  (h:∀a S1 b k1 H1,bO K k1 H1 S1->fX K k1 Z U->R k1 H1 b a->f a S1=some fr->Done K W q D k1 H1 fr->Q b H1):tX R K W q g Z H Q:=tS.CK ok gk e w λa S1 b k1 H1 h1 h2 h3 h4 h5 _=>h a S1 b k1 H1 h1 h2 h3 h4 h5
end
def oF:GS:=λU S=>some (.nx U S)
noncomputable def dF(f g:GS):GS:=λU S=>(f U S).bind λr=>match r with
 |.nx U S=>g U S
 |r=>some r
def aK(g:GE):GS:=λU S=>kN U (g U S) λr S1=>some (.rt r S1)
noncomputable def kq(c:GT)(f g:GS):GS:=λU S=>kN U (c U S) λb S1=>if b=true then f U S1 else g U S1
def df(g:GE):GS:=λU S=>kN U (g U S) λ_ S1=>some (.nx U S1)
def asg(mu:Bool)(S:aO):Rv->Val×aO
 |.o c=>if mu=true then(.c S.s.length,⟨S.s++[.o c],S.r⟩) else(.d c.d,S)
 |.v x=>(x,S)
def au(i:Nat)(mu:Bool)(g:GE):GS:=λU S=>kN U (g U S) λr S1=>if i<U.length then some (.nx (U.set i (some (asg mu S1 r).1)) (asg mu S1 r).2) else none
section
variable{X:Cx}{K:PySem.W.Frag}{W:XW}{q:Nat}{st:Stmt}{rest sa sb:List Stmt}{e c:Expr}{f g:GS}{mG:GE}{ft:GT}{pos:Pos}
def yY:iP X [] (tS K W q oF):=qu.mono λD Z H t=>by
 obtain⟨k,U,S,fr,ok,gk,e,w⟩:=t;cases e;exact bL.now w ok gk
def vg(h1:PS X st (tS K W q f))(h2:iP X rest (tS K W q g)):iP X (st::rest) (tS K W q (dF f g)):=(Vu h1 h2).mono λD Z H t=>by
 obtain⟨k,U,S,fr,ok,gk,e,w⟩:=t;obtain⟨r,e1,e⟩:=cg.mp e;refine⟨k,U,S,r,ok,gk,e1,?_⟩;cases r with
 |nx U1 S1=>exact λZ' k' H' u fj g'=>⟨k',U1,S1,fr,fj,g',e,w.up u⟩
 |bk U1 S1=>cases e;exact w
 |ct U1 S1=>cases e;exact w
 |rt r S1=>cases e;exact w
 |ex C l U1 S1=>cases e;exact w
def yZ(h:PE X e (tE K W q mG)):PS X (.Return (some e) pos) (tS K W q (aK mG)):=(θ h).mono λD Z H t=>by
 obtain⟨k,U,S,fr,ok,gk,e,w⟩:=t;refine tS.bd ok gk e w λr S1 v k1 H1 bw g1 r1 e1 w1=>?_
 cases e1;exact w1 v k1 H1 .refl bw r1
def CT(hc:PT X c (tT K W q ft))(ha:iP X sa (tS K W q f))(hb:iP X sb (tS K W q g)):PS X (.If c sa sb pos) (tS K W q (kq ft f g)):=(e5y hc ha hb).mono λD Z H t=>by
 obtain⟨k,U,S,fr,ok,gk,e,w⟩:=t;refine tS.bd ok gk e w λb S1 v k1 H1 bw g1 r1 e1 w1=>?_
 cases r1;cases b with
 |true=>exact tH ⟨k1,U,S1,fr,bw,g1,e1,w1⟩
 |false=>exact tG ⟨k1,U,S1,fr,bw,g1,e1,w1⟩
def Yr(he:PE X e (tE K W q mG))(hs:swapsWith e none pos.line X.env=pure false):PS X (.Expr e pos) (tS K W q (df mG)):=(XI he hs).mono λD Z H t=>by
 obtain⟨k,U,S,fr,ok,gk,e,w⟩:=t;refine tS.bd ok gk e w λr S1 v k1 H1 bw g1 r1 e1 w1=>?_
 cases e1;exact bL.now w1 bw g1
def e0i{mu:Bool}{k:Kn}{S:aO}{x:V}{r:Rv}(ok:bO K k H S)(h:pI K k H x r):∃k',(∀q,Up q k H k' H)/\bO K k' H (asg mu S r).2/\cI K k' x (asg mu S r).1:=by
 cases r with
 |v y=>exact rG ok h
 |o c=>
  cases mu with
  |false=>exact rG (r:=.o c) ok h
  |true=>
   obtain⟨p,rfl,hF,hi,hc⟩:=h;obtain⟨bw,u⟩:=ok.pushS hF hi hc;exact⟨_,u,bw,p,rfl,by rw[<-ok.s.ln];exact Fy⟩
def fX.set{k:Kn}{Z:St}{U:Gm}{i:Nat}{x:V}{v:Val}(g:fX K k Z U)(r:cI K k x v)(hi:i<U.length):fX K k (Z.set i (some x)) (U.set i (some v)):=by
 refine⟨by rw[nq,nq,g.ln],λj w e=>?_⟩
 by_cases z:i=j
 .subst z;rw[vZ hi] at e;cases e;exact⟨x,vZ (g.ln ▸ hi),r⟩
 .rw[Bq z] at e ⊢;exact g.at' j w e
def P9{mu:Bool}{D:Ends}(t:tS K W q (au i mu mG) D Z H):tE K W q mG Z H λv H1=>D.nx (Z.set i (some v)) H1:=by
 obtain⟨k,U,S,fr,ok,gk,e,w⟩:=t;refine tS.bd ok gk e w λr S1 v k1 H1 bw g1 r1 e1 w1=>?_
 split at e1
 .cases e1;obtain⟨k2,u,cA,r2⟩:=e0i (mu:=mu) bw r1;exact bL.now (bL.up w1 (u q)) cA ((g1.up (u q)).set r2 (by assumption))
 .cases e1
def e0j{mu:Bool}{x:Str}{pos':Pos}(hN:X.N.Nodup)(hi:X.N[i]?=some x)(hx:Loc X.env.scope x)(he:PE X e (tE K W q mG))(hs:swapsWith e (some (.Name x pos')) pos.line X.env=pure false)(hf:X.fn x=true\/X.env.scope.names.lookup x=some .local):
  PS X (.Assign [.Name x pos'] e pos) (tS K W q (au i mu mG)):=(ξ hN hi hx he hs hf).mono λD Z H t=>P9 t
def cH(c:GT)(f:GS):Nat->GS
 |0=>λ_ _=>none
 |n+1=>λU S=>kN U (c U S) λb S1=>if b=true then(f U S1).bind λr=>match r with
   |.nx U2 S2=>cH c f n U2 S2
   |.ct U2 S2=>cH c f n U2 S2
   |.bk U2 S2=>some (.nx U2 S2)
   |r=>some r
  else some (.nx U S1)
def sO(n:Nat)(hp:PassesOwn (model X.prog X.w) X.A X.env X.xe)(hc:PT X c (tT K W q ft))(hb:iP X sa (tS K W q f)):PS X (.While c sa [] pos) (tS K W q (cH ft f n)):=(Vv hp hc hb).mono λD Z H t=>by
 obtain⟨k,U,S,fr,ok,gk,e,w⟩:=t;refine⟨λn Z H=>∃k U S,bO K k H S/\fX K k Z U/\cH ft f n U S=some fr/\Done K W q D k H fr,⟨n,k,U,S,ok,gk,e,w⟩,?_⟩
 clear ok gk e w;rintro n Z H ⟨k,U,S,ok,gk,e,w⟩;cases n with
 |zero=>cases e
 |succ n=>
  refine tS.bd ok gk e w λb S1 v k1 H1 bw g1 r1 e1 w1=>?_
  cases r1;cases b with
  |false=>cases e1;exact tG (bL.now w1 bw g1)
  |true=>
   refine tH ⟨λZ' H'=>∃k U S,bO K k H' S/\fX K k Z' U/\cH ft f n U S=some fr/\Done K W q D k H' fr,λZ' H' h=>⟨n,v3 _,h⟩,?_⟩
   obtain⟨r,e2,e3⟩:=cg.mp (show((f U S1).bind _)=some fr from e1);refine⟨k1,U,S1,r,bw,g1,e2,?_⟩;cases r with
   |nx U2 S2=>exact λZ' k' H' u fj g'=>⟨k',U2,S2,fj,g',e3,w1.up u⟩
   |ct U2 S2=>exact λZ' k' H' u fj g'=>⟨k',U2,S2,fj,g',e3,w1.up u⟩
   |bk U2 S2=>cases e3;exact w1
   |rt r S2=>cases e3;exact w1
   |ex C l U2 S2=>cases e3;exact w1
end
abbrev GG:=D->Gm->aj Gm
variable{gs:List GG}
noncomputable def ae(i:Nat):GG:=λd U=>if i<U.length then some (U.set i (some (.d d))) else none
noncomputable def ql:List GG->List D->Gm->aj Gm
 |[],[],U=>some U
 |g::gs,d::ds,U=>(g d U).bind λU1=>ql gs ds U1
 |_,_,_=>none
def aM(gs:List GG):GG:=λd U=>match d with
 |.tup ds=>ql gs ds U
 |_=>none
section
variable{K:PySem.W.Frag}
def jW(K:PySem.W.Frag)(t:TG)(g:GG):Prop:=
 ∀(k:Kn) (H:Hp) (Z:St) (U U1:Gm) (x:V) (d:D) (Q:St->Hp->Prop),av k.F H->fX K k Z U->ah K k [x] [d]->g d U=some U1->(∀Z',fX K k Z' U1->Q Z' H)->t x Z H Q
def p8(K:PySem.W.Frag)(t:um)(gs:List GG):Prop:=
 ∀(k:Kn) (H:Hp) (Z:St) (U U1:Gm) (xs:List V) (ds:List D) (Q:St->Hp->Prop),av k.F H->fX K k Z U->ah K k xs ds->ql gs ds U=some U1->(∀Z',fX K k Z' U1->Q Z' H)->t xs Z H Q
def vM:jW K (qj i) (ae i):=by
 intro k H Z U U1 x v Q le gk r e w;unfold ae at e;split at e
 .cases e;exact w _ (gk.set (v:=.d v) r (by assumption))
 .cases e
def vO:p8 K C2 []:=by
 intro k H Z U U1 xs vs Q le gk r e w;cases vs with
 |nil=>cases e;exact⟨r.fK,w Z gk⟩
 |cons _ _=>cases e
def ub{t:TG}{g:GG}(h1:jW K t g)(h2:p8 K ts gs):p8 K (wO t ts) (g::gs):=by
 intro k H Z U U1 xs vs Q le gk r e w;cases vs with
 |nil=>cases e
 |cons d ds=>
  obtain⟨U2,e1,e2⟩:=cg.mp e;obtain⟨x,xs,rfl,r1,r2⟩:=r.bS;exact⟨_,_,rfl,h1 k H Z U U2 _ _ _ le gk r1 e1 λZ1 g1=>h2 k H Z1 U2 U1 _ _ Q le g1 r2 e2 w⟩
def UD:∀{gs:List GG} {vs:List D} {U U1:Gm},ql gs vs U=some U1->vs.length=gs.length:=by
 intro gs
 induction gs with
 |nil=>intro vs U U1 e;cases vs with
  |nil=>rfl
  |cons _ _=>cases e
 |cons g gs ih=>intro vs U U1 e;cases vs with
  |nil=>cases e
  |cons v vs=>obtain⟨U2,_,e2⟩:=cg.mp e;exact congrArg (·+1) (ih e2)
def z9{n:Nat}(h:p8 K ts gs)(hn:n=gs.length):jW K (y_ K n ts) (aM gs):=by
 intro k H Z U U1 x d Q le gk r e w;cases d with
 |tup es=>
  obtain⟨a,ws,rfl,sq,rp⟩:=r.isTup;exact⟨a,ws,rfl,le.zZ sq,by rw[hn,<-UD e,rp.length],h k H Z U U1 _ _ Q le gk rp e w⟩
 |_=>cases e
end
def gD(g:GE):Gx D:=λU S=>bd (g U S) λr S1=>(pR S1 (m9 r)).map λp=>.ok p.1 p.2
abbrev RD(K:PySem.W.Frag):Rp D V:=λk _ x d=>ah K k [x] [d]
section
variable{X:Cx}{K:PySem.W.Frag}{W:XW}{q:Nat}{g:GE}{gg:GG}{t:TG}{e tg:Expr}{pos:Pos}
def LQ{Q:VK}(t:tX (RD K) K W q (gD g) Z H Q):tE K W q g Z H Q:=by
 obtain⟨k,U,S,res,ok,gk,e,w⟩:=t;refine tX.bd ok gk e w λr S1 x k1 H1 bw g1 r1 e1 w1 _=>?_
 obtain⟨p,e2,rfl⟩:=cW.mp e1;obtain⟨k2,u2,cA,r2⟩:=rG bw r1;obtain⟨k3,u3,jB,r3⟩:=Fz cA r2 e2;exact((w1.up (u2 q)).up (u3 q)).now jB r3
end
variable{N:List Str}{n p:Nat}{m:GS}
def aO.cut(S:aO)(b:Nat):aO:=⟨S.s.take b,S.r⟩
def CJ:Cell->aj Rv
 |.o x=>some (.o x)
 |.z x=>some (.v (.d x.d))
 |_=>none
def back(b:Nat)(S:aO):Rv->aj Rv
 |.v (.c n)=>if n<b then some (.v (.c n)) else(S.s[n]?).bind CJ
 |r=>some r
def leave(b:Nat):Fr->aj (Rs Rv)
 |.nx _ S=>some (.ok (.v (.d .aF)) (S.cut b))
 |.rt r S=>(back b S r).map λr'=>.ok r' (S.cut b)
 |.ex C l _ S=>some (.ex C l (S.cut b))
 |_=>none
def runM(p n:Nat)(m:GS):GM:=λvs S=>if vs.length=p then(m (vs.map some++List.replicate (n - vs.length) none) S).bind (leave S.s.length) else none
section
variable{K:PySem.W.Frag}{k k':Kn}{H H':Hp}{S:aO}{q b:Nat}
def Ys{v:V}{r r':Rv}(ok:bO K k H S)(h:pI K k H v r)(e:back b S r=some r'):pI K ⟨k.F,k.A,k.T.take b⟩ H v r':=by
 have go:k.le ⟨k.F,k.A,k.T.take b⟩:=⟨av.refl _,lE _⟩;cases r with
 |o c=>
  cases e;obtain⟨a,e1,e2,e3,e4⟩:=h;exact⟨a,e1,e2,λm=>e3 ((e_.mp m).elim (Ep _) λm=>pk _ (List.mem_of_mem_take m)),e4.keep go λ_ z=>z⟩
 |v x=>
  cases x with
  |d y=>cases e;exact ah.mono go h
  |c n=>
   obtain⟨a,e1,e2⟩:=h;unfold back at e;dsimp only at e;split at e
   .rename_i hn
    cases e;exact⟨a,e1,by rw[List.getElem?_take,aN hn];exact e2⟩
   .rename_i hn
    obtain⟨c,h1,h2⟩:=cg.mp e;have h3:=ok.s.at' n a c e2 h1;cases c with
    |ins _ _=>cases h2
    |z x=>cases h2;rw[e1];exact ah.mono go h3.2
    |o x=>
     cases h2;obtain⟨n1,n2,n3⟩:=iI.mp ok.nd;refine⟨a,e1,h3.1,λm=>?_,h3.2.keep go λ_ z=>z⟩
     rcases e_.mp m with m|m
     .exact n3 a m a (uc e2) rfl
     .obtain⟨j,hj⟩:=Es.mp m;rw[List.getElem?_take] at hj;split at hj
      .rename_i GL
       have:=N8 n2 hj e2;lia
      .cases hj
def UE{xs:List V}{vs:List Val}(h:Paired (cI K k) xs vs)(hn:N.length=n):fX K k (start N xs) (vs.map some++List.replicate (n - vs.length) none):=by
 have hl:=Paired.length h;refine⟨by unfold start;simp[hl,hn],λi v e=>?_⟩
 by_cases hi:i<vs.length
 .rw[xS (by rw[aY];exact hi),gq] at e
  obtain⟨w,e1,e2⟩:=cW.mp e;cases e2;obtain⟨x,h1,h2⟩:=E6 i h e1;refine⟨x,?_,h2⟩;unfold start;rw[xS (by rw[aY,hl];exact hi),gq,h1]
  rfl
 .rw[v5 (by rw[aY];lia),L9] at e
  split at e <;> cases e
end
section
variable{P:cS}{w:ck}{K:PySem.W.Frag}{mg:Str->aj ai}{base:bJ}
def e0k{x qual:Str}{st:Stmt}{f:ag}{fd:bR}{ps:List Str}{k q:Nat}(F:Fun K x qual st f fd)(S:g_ N ps (rE st))(hp:ps.length=p)(hn:N.length=n)
  (sZ:∀(fV:ai) (A:cF) (outer:List Env) (s:aq) (H:Hp) (E:XK),bZ k (A.deeper (envOfC qual (rE st) s.heap.objs.size f fV))->iP (mF (nz P w) P w K mg base N qual (rE st) f fV A outer s H E) (yz st) (tS K (WF E) q m)) :
  dk P w K mg base (nz P w) (k+1) f fd ps (uk K q p (runM p n m)):=by
 obtain⟨oc,od,kV,doc,pm,an,fV,ct,uG,rfl,lk,qZ⟩:=F.ex;refine e6c lk qZ S (λvs H Q E h=>h.1.trans hp.symm) λA outer s H xs Q E hr wU=>⟨_,sZ fV A outer s H E hr,?_⟩
 obtain⟨hl,k,vs,S,res,ok,rp,e,w⟩:=wU;unfold runM at e;split at e
 .obtain⟨fr,e1,e2⟩:=cg.mp e;refine⟨k,_,S,fr,ok,UE rp hn,e1,?_⟩;have lb:k.T.length<=S.s.length:=Br ok.s.ln;cases fr with
  |nx U S'=>
   cases e2;exact λZ' k' H' u fj g'=>w .aF _ H' (u.take lb) (fj.take _) (show ah K _ [.aF] [.aF] from .flat rfl .nil)
  |bk U S'=>cases e2
  |ct U S'=>cases e2
  |rt r S'=>
   obtain⟨r',e3,rfl⟩:=cW.mp e2;exact λv k' H' u fj r1=>w v _ H' (u.take lb) (fj.take _) (Ys fj r1 e3)
  |ex C l U S'=>
   cases e2;exact λdx Z' k' H' u fj g' el=>w dx _ H' (u.take lb) (fj.take _) el
 .cases e
def rm:iY (runM p n m) p:=λvs S res e=>by
 unfold runM at e;split at e
 .assumption
 .cases e
end
section
variable{prog:cS}{w:ck}{A:cF}{E:ai->aq->Prop}{h:bJ}{g:Array GenState}{d:Drawn}{t:Nat}{os:OsState}
variable{nm q:Str}{C N:ag}{bs bm yO:List ai}{hdct:Bool}{sn:List Str}{sub:List ai}{ab:Bool}{col:aj Bool}{dd:aj ag}{k0 k1 k2 k3 k5:aj ai}{B Bn newId RT mP RG:String}{OS:List ai}
def Ed(Fn:ExcBaseFacts Bn newId RG OS)(Gv:yO.contains (.type Bn)=true)(F:ExcBaseFacts B RT mP yO)(T:OwnTail h yO bm){mN:Str->aj ai}{rest:List ai}{Q:Fin->aq->Prop}
  (hC:h.get? C=some (excClassObj nm q C N bs bm hdct sn sub ab col dd k0 k1 k2 k3 k5 newId)) (hn:h.Ns N mN) (tq:rest.length<=sizeLine)
  (hq:∀i,i=(mN "__init__").getD (.builtin mP)->wpAny (model prog w) A (bindSpecial i (.ref (h.objs.size+1))) (λp s'=>wpAny (model prog w) A (call p.1 (p.2++rest)) (λr t7=>r=.none/\Q (.done (.ret (.ref (h.objs.size+1)))) t7) E s') E ⟨((h.push { cls:=.type "tuple",data:=.seq rest.toArray}).push { cls:=.ref C,data:=.fields #[.ref h.objs.size,.none,.none,.none,.bool false,.none]}),g,d,t,os⟩) :
  wpAny (model prog w) A (Builtin.«type.__call__» ⟨.ref C::rest,[]⟩) Q E ⟨h,g,d,t,os⟩:=by
 repeat (first|with_reducible refine wpAny_loadPart_at hC ?_|with_reducible refine wpAny_madeBy_exc hC ?_|wp_step)
 refine codeAny_call_builtin_code (Code.quiet_builtin _ Fn.quiet) (wpAny_check_new_subU Fn Gv T hC (codeAny_exc_new_subU Fn Gv F T hC ?_ tq));show wpAny _ _ _ _ _ _;have st:∀b o,h.get? b=some o->((h.push { cls:=.type "tuple",data:=.seq rest.toArray}).push { cls:=.ref C,data:=.fields #[.ref h.objs.size,.none,.none,.none,.bool false,.none]}).get? b=some o:=λb o e=>cO _ (cO _ e)
 have hC₁:=st _ _ hC;have zj:((h.push { cls:=.type "tuple",data:=.seq rest.toArray}).push { cls:=.ref C,data:=.fields #[.ref h.objs.size,.none,.none,.none,.bool false,.none]}).get? (h.objs.size+1)=some { cls:=.ref C,data:=.fields #[.ref h.objs.size,.none,.none,.none,.bool false,.none]}:=by heap_get
 have hcC:(Value.ref C::bm).contains (.ref C)=true:=by simp
 unfold isInstance
 repeat (first|with_reducible refine wpAny_loadPart_at zj ?_|(with_reducible refine wpAny_isSubtype_exc hC₁ ?_;rw[hcC])|wp_step)
 show wpAny _ _ (typeLookup (.ref C) _) _ _ _;refine wpAny_typeLookup_tail hC₁ (hn.keeps st) (T.keeps st) F.mroIs F.init.lookup ?_;cases hv:mN "__init__" with
 |none=>
  refine kT (ay (wpAny_mono (hq _ (by rw[hv];rfl)) (λp s' z=>ay (wpAny_mono z (λr t7 y=>?_) λ_ _ y=>y)) λ_ _ y=>y))
  obtain⟨rfl,y⟩:=y
  wp_walk
  exact y
 |some v=>
  refine kT (ay (wpAny_mono (hq _ (by rw[hv];rfl)) (λp s' z=>ay (wpAny_mono z (λr t7 y=>?_) λ_ _ y=>y)) λ_ _ y=>y))
  obtain⟨rfl,y⟩:=y
  wp_walk
  exact y
def VO(Fn:ExcBaseFacts Bn newId RG OS)(Gv:yO.contains (.type Bn)=true)(F:ExcBaseFacts B RT mP yO)(T:OwnTail h yO bm){mN:Str->aj ai}{rest:List ai}{Q:ai->aq->Prop}
  (hC:h.get? C=some (excClassObj nm q C N bs bm hdct sn sub ab col dd k0 k1 k2 k3 k5 newId)) (hn:h.Ns N mN) (tq:rest.length<=sizeLine)
  (hq:∀i,i=(mN "__init__").getD (.builtin mP)->wpAny (model prog w) (A.under (.builtin "type.__call__" ⟨.ref C::rest,[]⟩)) (bindSpecial i (.ref (h.objs.size+1))) (λp s'=>wpAny (model prog w) (A.under (.builtin "type.__call__" ⟨.ref C::rest,[]⟩)) (call p.1 (p.2++rest)) (λr t7=>r=.none/\Q (.ref (h.objs.size+1)) t7) E s') E ⟨((h.push { cls:=.type "tuple",data:=.seq rest.toArray}).push { cls:=.ref C,data:=.fields #[.ref h.objs.size,.none,.none,.none,.bool false,.none]}),g,d,t,os⟩) :
  wpAny (model prog w) A (call (.ref C) rest) Q E ⟨h,g,d,t,os⟩:=by
 have f1:=tc_lookup;have f2:=tc_bind (.ref C);have hT:(⟨h,g,d,t,os⟩:aq).TypeIs (.ref C) "type":=⟨_,hC,rfl⟩;refine wpAny_call (codeAny_of_tree (show wpAny _ _ (callAny (.ref C) _) _ _ _ from ?_))
 repeat (any_goals (first|assumption|with_reducible refine wpAny_loadPart_at hC ?_|wp_step))
 exact⟨rfl,codeAny_call_builtin_at (Code.quiet_builtin _ (by decide +kernel)) entry_typeCall (wpAny_check_type_call_sub hC (Ed Fn Gv F T hC hn tq λi e=>hq i e))⟩
end
end L2
namespace L2
open PySem PySem.Spec PySem.W PySem.Calls PyProof.Rows
noncomputable def sQ(C t:ag)(d:aj ag):Obj:={ cls:=.ref C,dict:=d,data:=.fields #[.ref t,.none,.none,.none,.bool false,.none]}
section
variable{prog:cS}{w:ck}{A:cF}{E:ai->aq->Prop}{h:bJ}{g:Array GenState}{d:Drawn}{tt:Nat}{os:OsState}{x t:ag}
variable{nm q:Str}{C N:ag}{bs bm yO:List ai}{hdct:Bool}{sn:List Str}{sub:List ai}{ab:Bool}{col:aj Bool}{dd:aj ag}{k0 k1 k2 k3 k5:aj ai}{newId:String}
def El{u:ai}{Q:ai->aq->Prop}(T:OwnTail h [.type "ValueError",.type "Exception",.type "BaseException",.type "object"] bm)(hC:h.get? C=some (excClassObj nm q C N bs bm hdct sn sub ab col dd k0 k1 k2 k3 k5 newId))(hx:h.get? x=some (sQ C t none))
  (hq:∀h',h'.get? x=some (sQ C h.objs.size none)->(∀b o,b≠x->h.get? b=some o->h'.get? b=some o)->Q .none ⟨h',g,d,tt,os⟩) :
  wpAny (model prog w) A (call (.builtin "ValueError.__init__") [.ref x,u]) Q E ⟨h,g,d,tt,os⟩:=by
 have FB:=F.excBase_ValueError;have uD:h.get? x=some { cls:=.ref C,data:=.fields #[.ref t,.none,.none,.none,.bool false,.none]}:=hx;refine wpAny_call (codeAny_call_builtin FB.init.plain FB.initEntry (wpAny_check_init_subU FB T hC uD rfl ?_))
 wp_walk
 refine hq _ ?_ λb o n e=>?_
 .rw[rQ _ (cO _ uD) rfl];rfl
 .rw[p4 _ _ (Ne.symm n)];exact cO _ e
end
noncomputable abbrev rJ:List ai:=[.type "ValueError",.type "Exception",.type "BaseException",.type "object"]
def fm(K:Frag)(C:ag)(bm:List ai)(GY:aj ai):Prop:=∃nm q N bs sn sub ab col dd k0 k1 k2 k3 k5 on Bj es ep Bl,
 K.lookup C=some (excClassObj nm q C N bs bm true sn sub ab col dd k0 k1 k2 k3 k5 "ValueError.__new__")/\K.lookup N=some ⟨on,Bj,.dict es ep,Bl⟩/\StrKeys es/\nsFind es "__init__"=GY
section
variable{K:Frag}{C C' B0 a:ag}{bm Jn:List ai}{i i':aj ai}{l:aj Int}
theorem fm.cls(G:fm K C bm i):∃cd,clsIn K C=some cd/\cd.mro=.ref C::bm/\cd.hasDict=true/\typeIn K (.ref C)=some (.type "type"):=by
 obtain⟨nm,q,N,bs,sn,sub,ab,col,dd,k0,k1,k2,k3,k5,on,Bj,es,ep,Bl,g1,g2,g3,g4⟩:=G;exact⟨_,by unfold clsIn;rw[g1],rfl,rfl,by show(K.lookup C).map (·.cls)=_;rw[g1];rfl⟩
def fm.sub(G:fm K C bm i)(b:ai):subIn K (.ref C) b=some ((Value.ref C::bm).contains b):=by
 obtain⟨cd,c1,c2,c3,c4⟩:=G.cls;show mroIn K C b=_;unfold mroIn;rw[c1,xW,c2];rfl
def fm.exm{C C':ag}{bm Jn:List ai}{i i':aj ai}(G:fm K C bm i)(G':fm K C' Jn i')(h:(Value.ref C'::Jn).contains (.type "BaseException")=true):exmOne K (.ref C) (.ref C')=some ((Value.ref C::bm).contains (.ref C')):=by
 obtain⟨cd,c1,c2,c3,c4⟩:=G'.cls;unfold exmOne;rw[G'.sub,h,aN (by decide)]
 unfold kitCls;dsimp only;rw[aN (by rw[c1,c4];rfl)]
 exact G.sub _
end
section
variable{X:Cx}{aa:List (ag×Obj)}{Z:St}{H:Hp}{s:aq}{C B0:ag}{R:ai->aq->Prop}
def VP{u:ai}(G:fm X.K C (.ref B0::rJ) none)(G0:fm X.K B0 rJ none)(I:Inv X aa Z H s)(h:∀h' t,(∀b o,s.heap.get? b=some o->h'.get? b=some o)->h'.get? (s.heap.objs.size+1)=some (sQ C t none)->R (.ref (s.heap.objs.size+1)) { s with heap:=h'}):
  wpAny (model X.prog X.w) X.A (call (.ref C) [u]) R X.xe s:=by
 obtain⟨hh,g,d,tt,os⟩:=s;have KX:X.K.In hh:=I.jL;obtain⟨nm,q,N,bs,sn,sub,ab,col,dd,k0,k1,k2,k3,k5,on,Bj,es,ep,Bl,g1,g2,g3,g4⟩:=G;obtain⟨nm',q',N',bs',sn',sub',ab',col',dd',k0',k1',k2',k3',k5',on',odn',vh,pQ,sln',g1',g2',g3',g4'⟩:=G0;have FB:=F.excBase_ValueError;have T:OwnTail hh rJ (.ref B0::rJ):=.own (KX _ _ g1') (mA:=λn=>nsFind vh n) ⟨_,_,_,KX _ _ g2',rfl,g3',λ_=>rfl⟩ g4' .base
 refine VO FB rfl FB T (KX _ _ g1) (mN:=λn=>nsFind es n) ⟨_,_,_,KX _ _ g2,rfl,g3,λ_=>rfl⟩ (by rw[sizeLine_eq];exact(by decide:1<=16777216)) λi ei=>?_
 rw[g4] at ei;subst ei;have st:∀b o,hh.get? b=some o->((hh.push { cls:=.type "tuple",data:=.seq [u].toArray}).push { cls:=.ref C,data:=.fields #[.ref hh.objs.size,.none,.none,.none,.bool false,.none]}).get? b=some o:=λb o e=>cO _ (cO _ e)
 have zj:((hh.push { cls:=.type "tuple",data:=.seq [u].toArray}).push { cls:=.ref C,data:=.fields #[.ref hh.objs.size,.none,.none,.none,.bool false,.none]}).get? (hh.objs.size+1)=some (sQ C hh.objs.size none):=by unfold sQ;heap_get
 refine wpAny_of_eq (FB.init.bind _) (El (T.keeps st) (st _ _ (KX _ _ g1)) zj λh' e1 e2=>?_)
 exact⟨rfl,h h' _ (λb o z=>e2 b o (gp (Ad (cD z))) (st b o z)) e1⟩
end
noncomputable abbrev Cx.dC(X:Cx)(pn:List (ag×Obj))(E:ai->aq->Prop):Cx:={ X with pn:=pn,xe:=E}
noncomputable abbrev Cx.dB(X:Cx)(e:ai):Cx:={ X with A:=X.A.mark (some e),calm:=false,xe:=λ_ _=>False}
structure BK (X:Cx) (aa:List (ag×Obj)) (n:Nat):Prop where
 s:X.s₀.heap.objs.size<=n
 l:X.env.locals<n
 c:∀x c,X.env.cells.lookup x=some c->c<n
 p:∀q∈X.pn++aa,q.1<n
section
variable{X:Cx}{aa oO:List (ag×Obj)}{pn:List (ag×Obj)}{Z:St}{H:Hp}{s:aq}{E:ai->aq->Prop}{n:Nat}{ch:List ag}{h':bJ}
def Cx.Ok.dC(ok:X.Ok):(X.dC pn E).Ok:=⟨ok.mod,ok.kind,ok.glob,ok.blt,ok.above,ok.inj,ok.has,ok.yP,ok.hd,ok.frames,ok.Bm,ok.Gq,ok.bs,ok.sH,ok.pT,ok.qV,ok.iB,ok.vi⟩
def Cx.Ok.dI(ok:(X.dC pn E).Ok):X.Ok:=⟨ok.mod,ok.kind,ok.glob,ok.blt,ok.above,ok.inj,ok.has,ok.yP,ok.hd,ok.frames,ok.Bm,ok.Gq,ok.bs,ok.sH,ok.pT,ok.qV,ok.iB,ok.vi⟩
theorem Inv.dC(I:Inv X aa Z H s):Inv (X.dC (X.pn++aa) E) [] Z H s:=⟨I.ok.dC,I.os,I.bare,I.base,I.loc,I.cell,I.free,I.ed,λp hp=>I.pin p (by rw[l9] at hp;exact hp),I.bh,I.len⟩
theorem Inv.dI(I:Inv (X.dC (X.pn++aa) E) oO Z H s):Inv X aa Z H s:=⟨I.ok.dI,I.os,I.bare,I.base,I.loc,I.cell,I.free,I.ed,λp hp=>I.pin p (Ep _ hp),I.bh,I.len⟩
def Inv.dB{e:ai}(I:Inv X aa Z H s):Inv (X.dB e) aa Z H s:=
 ⟨⟨I.ok.mod,I.ok.kind,I.ok.glob,I.ok.blt,I.ok.above,I.ok.inj,I.ok.has,I.ok.yP,λz=>(nomatch z),I.ok.frames,I.ok.Bm,I.ok.Gq,I.ok.bs,I.ok.sH,I.ok.pT,I.ok.qV,I.ok.iB,I.ok.vi⟩,I.os,I.bare,I.base,I.loc,I.cell,I.free,I.ed,I.pin,I.bh,I.len⟩
def Inv.eC{e:ai}(I:Inv (X.dB e) aa Z H s)(hd:X.calm=true->X.A.handled=none):Inv X aa Z H s:=
 ⟨⟨I.ok.mod,I.ok.kind,I.ok.glob,I.ok.blt,I.ok.above,I.ok.inj,I.ok.has,I.ok.yP,hd,I.ok.frames,I.ok.Bm,I.ok.Gq,I.ok.bs,I.ok.sH,I.ok.pT,I.ok.qV,I.ok.iB,I.ok.vi⟩,I.os,I.bare,I.base,I.loc,I.cell,I.free,I.ed,I.pin,I.bh,I.len⟩
def Inv.Sg(I:Inv X aa Z H s):BK X aa s.heap.objs.size:=⟨I.sz,I.lt,λx c e=>by obtain⟨v,o,ho,_⟩:=I.cell x c e;exact cD ho,λq hq=>cD (I.pin q hq).1⟩
def BK.far(y:BK X aa n){b:ag}(h:n<=b):(b∈X.ex\/X.s₀.heap.objs.size<=b)/\b≠X.env.locals/\(∀x c,X.env.cells.lookup x=some c->c≠b)/\∀p∈X.pn++aa,p.1≠b:=
 ⟨.inr (jo y.s h),λz=>bT (fM y.l h) (z ▸ jQ _),λx c e z=>bT (fM (y.c x c e) h) (z ▸ jQ _),λp hp z=>bT (fM (y.p p hp) h) (z ▸ jQ _)⟩
def fq.un{fs:List ag}{h:bJ}(l:fq fs ch h h'):Un fs ch H H h h':=
 ⟨λb o g _ hb hx=>l.keep b o hb hx g,λb o g _ hb hx=>l.slot b o hb hx g,λ_ _ _ n _=>n,λb o g hx=>let ⟨_,g2⟩:=l.any g hx;⟨_,g2⟩,λ_ _ q=>q,λ_ _ _ q=>q,λ_ ps q=>⟨#[],by rw[q];simp⟩⟩
def Inv.left{t':Nat}(I:Inv X aa Z H s)(y:BK X aa n)(l:fq (kh X.stack) ch s.heap h')(kO:∀b∈ch,n<=b/\H b=none):Inv X aa Z H { s with heap:=h',toks:=t'}:=
 I.call (g':=s.gens) (d':=s.drawn) (ch:=ch) l.un (l.bh I.bh I.jP λb m=>(kO b m).2) I.bare λb m=>y.far (kO b m).1
def VQ{M:Model}{A:cF}{e C:ag}{dx:aj ag}{Q:Unit->aq->Prop}(fl:gZ n s.heap H e C dx)(h:∀h' ch,(∀b∈ch,n<=b/\H b=none)->fq (kh X.stack) ch s.heap h'->gZ n h' H e C dx->Q () { s with heap:=h'}):wpAny M A (setFlight (.ref e) none) Q E s:=by
 obtain⟨fH,uB,oe,vs,he,hc,hx,hd,hsz,h1⟩:=fl;unfold setFlight;rcases h1 with h1|⟨T,oT,ts,h1,GQ,Gy,Gz,hT,Dc,h3⟩
 .refine ay (wpAny_field he hd h1 ?_);rw[aJ (by decide)]
  exact aS (h s.heap [] (λ_ z=>nomatch z) ⟨λ_ _ _ _ g=>g,λ_ o _ _ g=>⟨o.slots,g⟩⟩ ⟨fH,uB,oe,vs,he,hc,hx,hd,hsz,.inl h1⟩)
 .refine ay (wpAny_field he hd h1 ?_);rw[aN (show(Value.ref T != Value.none)=true by simp)]
  have l3:3<ts.size:=(Bu.mp h3).1;have dT:=Obj.data_mapFields Dc (·.setIfInBounds 3 ((none:aj ag).elim Value.none λf=>rawInt f))
  refine wpAny_setField hT Dc l3 (h _ [T] (λb m=>by cases kR.1 m;exact⟨GQ,Gy⟩) ⟨λb o _ hb g=>(p4 _ _ (by simpa using Ne.symm (by simpa using hb:b≠T))).trans g,λb o _ hb g=>⟨o.slots,(p4 _ _ (by simpa using Ne.symm (by simpa using hb:b≠T))).trans g⟩⟩ ⟨fH,uB,oe,vs,(p4 _ _ Gz).trans he,hc,hx,hd,hsz,.inr ⟨T,_,_,h1,GQ,Gy,Gz,rQ _ hT (Obj.isFreed_of_fields dT),dT,by simp[Array.getElem?_setIfInBounds,l3]⟩⟩)
end
end L2
namespace L2
open PySem PySem.Spec PyProof.Rows
variable{P:cS}{w:ck}{K:PySem.W.Frag}{tg l:Expr}{X:Cx}{ta:TA}{p pos:Pos}{Q:aj ai->aq->Prop}{n t' x1:Nat}{ob:Obj}{L:List ag}{elts:List Expr}{it:ag}
def sk(K:PySem.W.Frag)(a:ag)(n:Nat):It:=
 ⟨λi H=>i<n/\∃xs,cC K H a xs/\xs.length=n,λi H x H'=>H'=H/\∀xs,cC K H a xs->xs[n - 1 - i]?=some x,λi H=>n<=i⟩
def VR(a it:ag)(n:Nat):Turn P w K tg (sk K a n) [it] it (λi h=>i<=n/\h.IsRevIter it a ((n:Int) - 1 - i)) where
 mem:=by simp
 obj:=λi h st b hb=>by
  have e:b=it:=by simpa using hb
  subst e;obtain⟨_,o,e,c,d⟩:=st;exact⟨o,e,λv z=>by rw[d] at z;cases z⟩
 keep:=λi h h' st k=>⟨st.1,st.2.at λo e=>k it (by simp) o e⟩
 item:=by
  intro X hP hw hK hc i aa s Z H E I hf st hg;subst hP hw hK;obtain⟨hi,xs,hq,hx⟩:=hg;obtain⟨aE,rv,p,hz⟩:=I.list hq;have uD:xs[n - 1 - i]?=some xs[n - 1 - i]:=jt (by lia)
  obtain⟨u,hu,ru⟩:=rv.get uD;obtain⟨f0,f1,f2,f3,f4,f5⟩:=hf it (by simp)
  have rN:s.heap.IsRevIter it a (((n - 1 - i:Nat):Int)):=by
   lia
  refine wpAny_pyNext_rev_item rN p.isList (x:=u) (by simpa using hu) λh' jO sb=>?_
  have I1:Inv X aa Z H { s with heap:=h'}:=I.turned (t':=s.toks) (λb o hb e=>(sb.2 b hb).trans e) f0 f1 f3 f4 f5
  obtain⟨o,e,c,d⟩:=id jO;refine⟨u,rfl,yM (s:={ s with heap:=h'}) e c d (by decide) ⟨_,H,I1,ru,⟨rfl,λys hy=>by rw[I.kA hy hq];exact uD⟩,⟨by lia,?_⟩,λb hb=>(hf b hb).1⟩⟩
  grind
 done:=by
  intro X hP hw hK hc i aa s Z H E I hf st hg;subst hP hw hK;obtain⟨f0,f1,f2,f3,f4,f5⟩:=hf it (by simp)
  have hg:n<=i:=hg;have rN:s.heap.IsRevIter it a (-1):=by
   have:=st.2
   rwa[show((n:Int) - 1 - i) = -1 by have:=st.1;lia] at this
  exact wpAny_pyNext_rev_end (I.ok.hd hc) rN λh' eb=>⟨rfl,I.turned (t':=s.toks) (λb o hb e=>eb b o hb e) f0 f1 f3 f4 f5⟩
 self:=λ_ _ _ _ _ st h=>wpAny_pyIter_revIter st.2 h
def Dw(K:PySem.W.Frag)(ta:TA):TI:=λZ H R=>ta Z H λvs H1=>∃a xs,vs=[.ref a]/\cC K H1 a xs/\R (sk K a xs.length) H1
def e0l(hg:Gl X "reversed")(hm:X.mg "reversed"=none)(ha:PA X [l] ta)(hs:starEach [l] X.env=[(false,eval l X.env)]:=by rfl):PI X tg (.Call (.Name "reversed" p) [l] [] pos) (Dw X.K ta):=by
 intro aa s Z H R I h;refine Call_ (wq I hg hm boot_reversed (PyProof.Rows.callWith_type1 (bB (ha pos aa s Z H _ I h) λus s1 hh=>?_) hs rfl))
 obtain⟨vs,H1,I1,r1,q1⟩:=hh;obtain⟨a,xs,e,hq,q⟩:=q1;subst e;cases r1 with
 |cons r rr=>
  cases rr;cases r;obtain⟨aE,rv,pl,hz⟩:=I1.list hq;have hl:=rv.length;refine call_reversed_list pl.isList ?_;have st:(s1.heap.push (revObj a ((aE.toArray.size:Int) - 1))).IsRevIter s1.heap.objs.size a ((aE.toArray.size:Int) - 1):=⟨_,jq _ rfl,rfl,rfl⟩;refine wpAny_pyIter_revIter st ?_;refine⟨s1.heap.objs.size,[s1.heap.objs.size],_,_,H1,rfl,I1.kept (t':=s1.toks) λb o e=>cO _ e,VR a _ xs.length,⟨lD _,?_⟩,λb hb=>?_,q⟩
  .simp_all
  .have e:b=s1.heap.objs.size:=by simpa using hb
   subst e;exact I1.lj (bG _) (I1.bh.fresh (bG _))
section
variable{X:Cx}{aa:List (ag×Obj)}{Z:St}{H:Hp}{A:cF}{E:ai->aq->Prop}{s:aq}{d it:ag}{es:List (TK×V×V)}{ep i:Nat}
theorem Oa{Q:ai->aq->Prop}(I:Inv X aa Z H s)(hd:H d=some (.dG es ep))
  (hQ:Q (.ref s.heap.objs.size) { s with heap:=s.heap.push { cls:=.type "dict_keyiterator",data:=.fields #[.ref d,.int 0 0,.int es.length 0,.int ep 0]}}):wpAny (model X.prog X.w) A (pyIter (.ref d)) Q E s:=by
 obtain⟨_,z,ob,xs,g1,g5,g2,g3,g4⟩:=(show bq X.prog X.w H s.heap d (.dG es ep) from I.bh d _ hd);have hT:s.TypeIs (.ref d) "dict":=⟨ob,g1,g5.1⟩;have hl:xs.size=es.length:=by have:=Paired.length g3;simpa using this.symm
 refine wpAny_pyIter_slot hT F.slot_dict_iter (wpAny_call_entry F.slot_dict_iter hT F.entry_dict_iter ?_ (F.args_dict_iter_1 _));unfold Builtin.«dict.__iter__»;refine ay ?_;unfold Builtin.Dict.dictSlotNone;refine ay (wpAny_notOrdered_dict hT (show wpAny _ _ (pure (Value.ref d)) _ _ s from aS (show wpAny _ _ (Builtin.Dict.showsAll d >>= _) _ _ s from ?_)));unfold Builtin.Dict.showsAll;rw[aJ (by rw[z];exact oW)]
 refine ay (aS (ay (wpAny_dictEntries g1 g2 (ay (wpAny_dictEpoch g1 g2 ?_)))));refine ay (wpAny_newObj_type (aS ⟨_,rfl,"dict_keyiterator",_,⟨_,jq _ rfl,rfl⟩,F.slot_dict_keyiterator_next.lookup,?_⟩));simpa[rawInt,hl] using hQ
theorem M'{xs:Array DictEntry}(g1:s.heap.get? d=some ob)(g2:ob.data=.dict xs ep)(hl:xs.size=n)(hit:s.heap.IsKeyIter it d i n ep)(lt':i<xs.size)
  (hQ:∀h',h'.IsKeyIter it d (i+1) n ep->Heap.SameBut it s.heap h'->Q (some xs[i].key) { s with heap:=h'}):wpAny (model P w) A (pyNext (.ref it)) Q E s:=by
 obtain⟨o,k1,k2,k3⟩:=id hit;unfold pyNext;refine ay (wpAny_attempt (wpAny_callSpecial?_slot (name:=Str.ofString "__next__") hit.typeIs F.slot_dict_keyiterator_next (wpAny_call_entry F.slot_dict_keyiterator_next hit.typeIs F.entry_dict_keyiterator_next (ay (aS (ay (ay ?_)))) (F.args_dict_keyiterator_next_1 _))))
 (first|refine ay (wpAny_typeNameOfWhole_keyiter hit.typeIs (aS ?_))|refine ay (wpAny_typeNameOf_keyiter hit.typeIs (aS ?_)));refine ay (wpAny_fieldsOf k1 k3 ?_)
 have zN:Builtin.Dict_items.ownsTuple "dict_keyiterator"=false:=by decide
 simp only[zN,rR,l_]
 (show wpAny _ _ (if(Value.ref d == Value.none)=true then _ else _) _ _ s);rw[aJ (show ¬((Value.ref d == Value.none)=true) from oW)]
 refine ay (aS (ay (wpAny_dictEntries g1 g2 ?_)));rw[aJ (by rw[hl];simp)]
 refine ay (aS (ay (wpAny_dictEpoch g1 g2 ?_)));rw[aJ (by simp)]
 refine aS ?_;simp only[show ¬((i:Int)<0) from by lia,l_,Int.toNat_natCast,uJ lt']
 refine ay ?_
 (first|refine ay (wpAny_typeNameOfWhole_keyiter hit.typeIs (aS ?_))|refine ay (wpAny_typeNameOf_keyiter hit.typeIs (aS ?_)));refine ay (wpAny_isOneOf_keyiter hit.typeIs ?_)
 (show wpAny _ _ (setField (.ref it) 1 (rawInt ((i:Int)+1)) >>= _) _ _ s);refine ay (wpAny_setField k1 k3 (by simp) ?_)
 have Dh:(s.heap.update it (Obj.mapFields (·.setIfInBounds 1 (rawInt ((i:Int)+1))))).IsKeyIter it d (i+1) n ep:=
  ⟨_,rQ _ k1 (Obj.isFreed_of_fields (Obj.data_mapFields k3 _)),(Obj.cls_mapFields ..).trans k2,by rw[Obj.data_mapFields k3];simp[rawInt]⟩
 refine ay (kT (ay (wpAny_isOneOf_keyiter (s:={ s with heap:=s.heap.update it (Obj.mapFields (·.setIfInBounds 1 (rawInt ((i:Int)+1))))}) Dh.typeIs ?_)))
 show wpAny _ _ (pure xs[i].key) _ _ _;exact aS (aS ⟨_,rfl,aS (hQ _ Dh (Heap.SameBut.update ..))⟩)
def TH(I:Inv X aa Z H s)(hd:H d=some (.dG es ep))(hit:s.heap.IsKeyIter it d i es.length ep){e:TK×V×V}(hx:es[i]?=some e)
  (hQ:∀key h',RelV e.2.1 key->h'.IsKeyIter it d (i+1) es.length ep->Heap.SameBut it s.heap h'->Q (some key) { s with heap:=h'}):wpAny (model X.prog X.w) A (pyNext (.ref it)) Q E s:=by
 obtain⟨_,z,ob,xs,g1,g5,g2,g3,g4⟩:=(show bq X.prog X.w H s.heap d (.dG es ep) from I.bh d _ hd);have hl:xs.size=es.length:=by have:=Paired.length g3;simpa using this.symm
 obtain⟨x,x1,x2⟩:=B6 i g3 hx;have lt':i<xs.size:=by
  have:=(eS.mp hx).1;lia
 have ex:xs[i]=x:=by
  have:xs[i]?=some x:=by rw[<-xX];exact x1
  rw[uJ lt'] at this;exact Option.some.inj this
 exact M' g1 g2 hl hit lt' λh' Bf sb=>hQ _ h' (by rw[ex];exact x2.2.1) Bf sb
theorem NA{xs:Array DictEntry}(hh:A.handled=none)(g1:s.heap.get? d=some ob)(g2:ob.data=.dict xs ep)(hl:xs.size=n)(hit:s.heap.IsKeyIter it d i n ep)(hx:n<=i)
  (hQ:∀h',Heap.ExtBut it s.heap h'->Q none { s with heap:=h'}):wpAny (model P w) A (pyNext (.ref it)) Q E s:=by
 obtain⟨o,k1,k2,k3⟩:=id hit;unfold pyNext;refine ay (wpAny_attempt (wpAny_callSpecial?_slot (name:=Str.ofString "__next__") hit.typeIs F.slot_dict_keyiterator_next (wpAny_call_entry F.slot_dict_keyiterator_next hit.typeIs F.entry_dict_keyiterator_next (ay (aS (ay (ay ?_)))) (F.args_dict_keyiterator_next_1 _))))
 (first|refine ay (wpAny_typeNameOfWhole_keyiter hit.typeIs (aS ?_))|refine ay (wpAny_typeNameOf_keyiter hit.typeIs (aS ?_)));refine ay (wpAny_fieldsOf k1 k3 ?_)
 have zN:Builtin.Dict_items.ownsTuple "dict_keyiterator"=false:=by decide
 simp only[zN,rR,l_]
 (show wpAny _ _ (if(Value.ref d == Value.none)=true then _ else _) _ _ s);rw[aJ (show ¬((Value.ref d == Value.none)=true) from oW)]
 refine ay (aS (ay (wpAny_dictEntries g1 g2 ?_)));rw[aJ (by rw[hl];simp)]
 refine ay (aS (ay (wpAny_dictEpoch g1 g2 ?_)));rw[aJ (by simp)]
 refine aS ?_;have hge:xs.size<=i:=by lia
 simp only[show ¬((i:Int)<0) from by lia,l_,Int.toNat_natCast,Array.getElem?_eq_none hge]
 refine ay ?_
 (first|refine ay (wpAny_typeNameOfWhole_keyiter hit.typeIs (aS ?_))|refine ay (wpAny_typeNameOf_keyiter hit.typeIs (aS ?_)));(show wpAny _ _ (setField (.ref it) 0 .none >>= _) _ _ s);refine ay (wpAny_setField k1 k3 (by simp) ?_)
 (show wpAny _ _ (newExc (.type "StopIteration") [] >>= _) _ _ _);refine ay ?_
 simp only[newExc,newTuple];refine ay (wpAny_newObj_type (ay (m:=firstArgMember _ _) (wpAny_of_eq (a:=Value.none) (by first|rfl|(simp only[firstArgMember];rfl)) (wpAny_newObj_type ?_ (by size_fits)))) (by size_fits))
 simp only[raiseNew];refine ay (wpAny_handled ?_);rw[show A.in1.handled=none from hh]
 (refine ay (aS (wpAny_throw ?_)));refine ay (wpAny_isInstance (T:="StopIteration") (b:=true) ⟨_,jq _ rfl,rfl⟩ isSubtype_stop ?_)
 exact aS (hQ _ (((Heap.SameBut.update ..).extBut.push _).push _))
def UG(hh:A.handled=none)(I:Inv X aa Z H s)(hd:H d=some (.dG es ep))(hit:s.heap.IsKeyIter it d i es.length ep)(hx:es.length<=i)
  (hQ:∀h',Heap.ExtBut it s.heap h'->Q none { s with heap:=h'}):wpAny (model X.prog X.w) A (pyNext (.ref it)) Q E s:=by
 obtain⟨_,z,ob,xs,g1,g5,g2,g3,g4⟩:=(show bq X.prog X.w H s.heap d (.dG es ep) from I.bh d _ hd);exact NA hh g1 g2 (by have:=Paired.length g3;simpa using this.symm) hit hx hQ
end
def HA(a:ag)(n ep:Nat):It:=
 ⟨λi H=>∃es,H a=some (.dG es ep)/\es.length=n/\i<n,λi H x H'=>H'=H/\∀es,H a=some (.dG es ep)->∃e,es[i]?=some e/\e.2.1=x,λi H=>∃es,H a=some (.dG es ep)/\es.length=n/\n<=i⟩
def UH(a it:ag)(n ep:Nat):Turn P w K tg (HA a n ep) [it] it (λi h=>h.IsKeyIter it a i n ep) where
 mem:=by simp
 obj:=λi h st b hb=>by
  have e:b=it:=by simpa using hb
  subst e;obtain⟨o,e,c,d⟩:=st;exact⟨o,e,λv z=>by rw[d] at z;cases z⟩
 keep:=λi h h' st k=>st.at λo e=>k it (by simp) o e
 item:=by
  intro X hP hw hK hc i aa s Z H E I hf st hg;subst hP hw hK;obtain⟨es,hd,hl,hi⟩:=hg;subst hl;obtain⟨f0,f1,f2,f3,f4,f5⟩:=hf it (by simp)
  refine TH I hd st (e:=es[i]) (jt hi) λkey h' rk jO sb=>?_
  have I1:Inv X aa Z H { s with heap:=h'}:=I.turned (t':=s.toks) (λb o hb e=>(sb.2 b hb).trans e) f0 f1 f3 f4 f5
  obtain⟨o,e,c,d⟩:=id jO;refine⟨key,rfl,yM (s:={ s with heap:=h'}) e c d (by decide) ⟨es[i].2.1,H,I1,rk,⟨rfl,λys hy=>?_⟩,jO,λb hb=>(hf b hb).1⟩⟩
  rw[hd] at hy;cases hy;exact⟨_,jt hi,rfl⟩
 done:=by
  intro X hP hw hK hc i aa s Z H E I hf st hg;subst hP hw hK;obtain⟨es,hd,hl,hi⟩:=hg;subst hl;obtain⟨f0,f1,f2,f3,f4,f5⟩:=hf it (by simp)
  exact UG (I.ok.hd hc) I hd st hi λh' eb=>⟨rfl,I.turned (t':=s.toks) (λb o hb e=>eb b o hb e) f0 f1 f3 f4 f5⟩
 self:=λ_ _ _ _ _ st h=>wpAny_pyIter_keyiter st h
def wV(tl:TE):TI:=λZ H R=>tl Z H λx H1=>∃a es ep,x=.ref a/\H1 a=some (.dG es ep)/\R (HA a es.length ep) H1
def Yt{tl:TE}(hl:PE X l tl):PI X tg l (wV tl):=by
 intro aa s Z H R I h;refine bB (hl aa s Z H _ I h) λv s1 hh=>?_
 obtain⟨x,H1,I1,r1,q1⟩:=hh;obtain⟨a,es,ep,e,hd,q⟩:=q1;subst e;cases r1;refine Oa I1 hd ?_;refine⟨s1.heap.objs.size,[s1.heap.objs.size],_,_,H1,rfl,I1.kept (t':=s1.toks) λb o e=>cO _ e,UH a _ _ _,⟨_,jq _ rfl,rfl,rfl⟩,λb hb=>?_,q⟩
 have e:b=s1.heap.objs.size:=by simpa using hb
 subst e;exact I1.lj (bG _) (I1.bh.fresh (bG _))
def JI{w1 w2:TI}(h1:PI X tg l w1)(h2:PI X tg l w2):PI X tg l (λZ H R=>w1 Z H R\/w2 Z H R):=by
 intro aa s Z H R I h;rcases h with h|h
 .exact h1 aa s Z H R I h
 .exact h2 aa s Z H R I h
open PySem PySem.Spec PyProof.Rows
section
variable{X:Cx}{aa:List (ag×Obj)}{Z:List (aj V)}{H:Hp}{s:aq}{h':bJ}
def Inv.vS{T:ag}{o:HO}(I:Inv X aa Z H s)(k:∀b ob,b∉L->s.heap.get? b=some ob->h'.get? b=some ob)(hL:∀b∈L,iN X aa H b)(hT:s.heap.objs.size<=T)
  (new:bq X.prog X.w (upd H T o) h' T o):Inv X aa Z (upd H T o) { s with heap:=h',toks:=t'}:=by
 have hn:H T=none:=I.bh.fresh hT;have nL:∀b u,H b=some u->b∉L:=λb u e z=>by rw[(hL b z).1] at e;cases e
 have nT:∀b u,H b=some u->b≠T:=λb u e z=>by rw[z,hn] at e;cases e
 refine I.step (g':=s.gens) (d':=s.drawn) (ch:=L) (λb hb=>?_) (λb ob _ _ hc e _=>k b ob hc e) (λb ob _ _ hc e _=>⟨ob.slots,k b ob hc e⟩) (λb ob _ e n=>?_)
  (λb ob hc e=>⟨ob,k b ob hc e⟩) (λb xs e=>?_) (λb ob u e=>?_) (λb ps e=>⟨#[],?_⟩) (λm hm=>?_) (λb u e=>?_) I.bare
 .obtain⟨f0,f1,f2,f3,f4,f5⟩:=hL b hb;exact⟨f3,f1,f4,f5⟩
 .rw[cP (λz=>by subst z;exact bT (fM (cD e) hT) (jQ _))];exact n
 .rw[cP (nT b _ e)];exact e
 .rw[cP (nT b _ e)];exact e
 .rw[cP (nT b _ e),e];simp
 .obtain⟨ob,es,ep,ho,r⟩:=hm;exact⟨ob,es,ep,k _ ob (λz=>(hL _ z).2.1 rfl) ho,r⟩
 .by_cases hb:b=T
  .grind [aI]
  .rw[cP hb] at e;refine(I.bh b u e).m7 (λc v hc q=>k c v ?_ q) (λc q=>by rw[cP (nT c _ q)];exact q) λc xs q=>by rw[cP (nT c _ q)];exact q
   rcases hc with z|z
   .rw[z];exact nL b u e
   .exact nL c _ z
def Inv.Ef(I:Inv X aa Z H s)(k:∀b ob,b∉L->s.heap.get? b=some ob->h'.get? b=some ob)(hL:∀b∈L,iN X aa H b):Inv X aa Z H { s with heap:=h',toks:=t'}:=by
 have nL:∀b u,H b=some u->b∉L:=λb u e z=>by rw[(hL b z).1] at e;cases e
 refine I.step (g':=s.gens) (d':=s.drawn) (ch:=L) (λb hb=>?_) (λb ob _ _ hc e _=>k b ob hc e) (λb ob _ _ hc e _=>⟨ob.slots,k b ob hc e⟩) (λb ob _ e n=>n)
  (λb ob hc e=>⟨ob,k b ob hc e⟩) (λb xs e=>e) (λb ob u e=>e) (λb ps e=>⟨#[],by rw[e];simp⟩) (λm hm=>?_) (λb u e=>?_) I.bare
 .obtain⟨f0,f1,f2,f3,f4,f5⟩:=hL b hb;exact⟨f3,f1,f4,f5⟩
 .obtain⟨ob,es,ep,ho,r⟩:=hm;exact⟨ob,es,ep,k _ ob (λz=>(hL _ z).2.1 rfl) ho,r⟩
 .refine(I.bh b u e).m7 (λc v hc q=>k c v ?_ q) (λc q=>q) λc xs q=>q
  rcases hc with z|z
  .rw[z];exact nL b u e
  .exact nL c _ z
end
def Ao(Src:Hp->Prop)(n:Nat)(val:Nat->List V->Prop):It:=
 ⟨λi H=>i<n/\Src H,λi H x H'=>∃p ws,x=.ref p/\H p=none/\val i ws/\H'=upd H p (.tup ws),λi H=>n<=i/\Src H⟩
def NB{FP wr:List ag}{Src:Hp->Prop}{val:Nat->List V->Prop}{tn:Nat->bJ->Prop}(mem:it∈FP)(sub:∀b∈wr,b∈FP)
  (obj:∀i h,tn i h->∀b∈FP,∃o,h.get? b=some o/\∀v,o.data≠.cell v) (keep:∀i h h',tn i h->(∀b∈FP,∀o,h.get? b=some o->h'.get? b=some o)->tn i h')
  (hW:∀(X:Cx),X.prog=P->X.w=w->X.K=K->X.calm=true->∀(aa:List (ag×Obj)) (s:aq) (Z:St) (H:Hp),Inv X aa Z H s->Src H->∃(J0:List ag) (Pt:Nat->Array ai->Prop) (St:Nat->bJ->Prop) (HE:Nat->ag->bJ->Prop),WalksT P w X.A it J0 wr n Pt St HE/\(∀i,tn i s.heap->St i s.heap)/\(∀i h,St i h->tn i h)/\∀i vals,Pt i vals->∃ws,val i ws/\Vals ws vals.toList/\ws.length<=10)
  (self:∀(A:cF) (i:Nat) (s:aq) (Q:ai->aq->Prop) (E:ai->aq->Prop),tn i s.heap->Q (.ref it) s->wpAny (model P w) A (pyIter (.ref it)) Q E s) :
  Turn P w K (.Tuple elts x1 pos) (Ao Src n val) FP it (λi h=>i<=n/\tn i h) where
 mem:=mem
 obj:=λi h st=>obj i h st.2
 keep:=λi h h' st k=>⟨st.1,keep i h h' st.2 k⟩
 item:=by
  intro X hP hw hK hc i aa s Z H E I hf st hg;obtain⟨J0,Pt,St,HE,W,toSt,DK,pv⟩:=hW X hP hw hK hc aa s Z H I hg.2;subst hP hw hK;refine W.item i s _ E hg.1 (toSt i st.2) λT vals h1 tk hPt hsz Ka C7 hk1=>?_
  refine⟨.ref T,rfl,W.go elts x1 pos i T _ _ E C7 λh2 hSt Rr=>?_⟩
  obtain⟨ws,hv,rv,GV⟩:=pv i vals hPt;have J':IsTup h2 T vals:=by
   obtain⟨o,e,c⟩:=Ka;exact⟨o,Rr T o (W.apart i T h1 C7) e,c⟩
  have hn:H T=none:=I.bh.fresh hsz;have I2:Inv X aa Z (upd H T (.tup ws)) { s with heap:=h2,toks:=tk}:=I.vS (L:=wr) (λb ob hb e=>Rr b ob hb (hk1 b ob hb e)) (λb hb=>hf b (sub b hb)) hsz ⟨by rw[sizeLine_eq];lia,vals.toList,rv,by simpa using J'⟩
  refine⟨.ref T,_,I2,rfl,⟨T,ws,rfl,hn,hv,rfl⟩,⟨by have:=hg.1;lia,DK _ _ hSt⟩,λb hb=>?_⟩
  have hb0:=(hf b hb).1;rw[cP]
  .exact hb0
  .intro z;subst z;obtain⟨o,e,_⟩:=obj i s.heap st.2 b hb;exact bT (fM (cD e) hsz) (jQ _)
 done:=by
  intro X hP hw hK hc i aa s Z H E I hf st hg;obtain⟨J0,Pt,St,HE,W,toSt,DK,pv⟩:=hW X hP hw hK hc aa s Z H I hg.2;subst hP hw hK;have ei:i=n:=by have:=hg.1;have:=st.1;lia
  subst ei;exact W.done s _ E (toSt i st.2) λh2 tk hk=>⟨rfl,I.Ef (L:=wr) (λb ob hb e=>hk b ob hb e) λb hb=>hf b (sub b hb)⟩
 self:=λA i s Q E st h=>self A i s Q E st.2 h
def VS{h:bJ}{a l:ag}{i:Nat}(p:h.IsListIter a l i):∃o,h.get? a=some o/\∀v,o.data≠.cell v:=by
 obtain⟨o,e,_,d⟩:=p;exact⟨o,e,λv z=>by rw[d] at z;cases z⟩
def Eh(xs:List V)(i:Nat)(ws:List V):Prop:=∃x,xs[i]?=some x/\ws=[.int i,x]
def UI{e l:ag}(n1:e≠it)(n2:l≠e)(n3:l≠it)(xs:List V):
  Turn P w K (.Tuple elts x1 pos) (Ao (λH=>cC K H l xs) xs.length (Eh xs)) [e,it] e (λi h=>i<=xs.length/\((∃old,IsEnum h e it (i:Int) old)/\h.IsListIter it l i)):=by
 refine NB (FP:=[e,it]) (wr:=[e,it]) (by simp) (λb hb=>hb) (λi h st b hb=>?_) (λi h h' st k=>?_) (λX hP hw hK hc aa s Z H I hS=>?_) (λA i s Q E st h=>?_)
 .obtain⟨⟨old,s1⟩,s2⟩:=st;simp only[y07,y1p,or_false] at hb;rcases hb with rfl|rfl
  .exact⟨_,s1,λv z=>by cases z⟩
  .exact VS s2
 .obtain⟨⟨old,s1⟩,s2⟩:=st;exact⟨⟨old,k e (by simp) _ s1⟩,s2.at λo q=>k it (by simp) o q⟩
 .subst hP hw hK;obtain⟨vv,Ls,p1,_⟩:=I.list hS;have e1:=Ls.length;have W:=WalksT.enumerate (prog:=X.prog) (w:=X.w) (A:=X.A) (I.ok.hd hc) e it l n1 n2 n3 vv.toArray;rw[show vv.toArray.size=xs.length by rw[de,<-e1]] at W
  refine⟨_,_,_,_,W,λi st=>?_,λi h st=>?_,λi vals hp=>?_⟩
  .exact⟨st.1,st.2,p1.isList⟩
  .exact⟨st.1,st.2.1⟩
  .obtain⟨t,u,hu,rfl⟩:=hp;have hu:vv[i]?=some u:=by simpa using hu
   have Ro:i<xs.length:=by have:=(eS.mp hu).1;lia
   obtain⟨u',tu,ru⟩:=Ls.get (jt Ro);rw[hu] at tu;cases tu;exact⟨[.int i,xs[i]],⟨_,jt Ro,rfl⟩,.cons ⟨t,rfl⟩ (.cons ru .nil),by show 2<=10;decide⟩
 .obtain⟨old,s1⟩:=st.1;exact wpAny_pyIter_enum s1 h
def wW(K:PySem.W.Frag)(ta:TA):TI:=λZ H R=>ta Z H λvs H1=>∃a xs,vs=[.ref a]/\cC K H1 a xs/\R (Ao (λH=>cC K H a xs) xs.length (Eh xs)) H1
def Yu{eY:Pos}{a:Expr}(hg:Gl X "enumerate")(hm:X.mg "enumerate"=none)(ha:PA X [a] ta)(hs:starEach [a] X.env=[(false,eval a X.env)]:=by rfl):
  PI X (.Tuple elts x1 eY) (.Call (.Name "enumerate" p) [a] [] pos) (wW X.K ta):=by
 intro aa s Z H R I h;refine Call_ (wq I hg hm PyProof.Rows.Boot.enumerate (PyProof.Rows.callWith_type1 (bB (ha pos aa s Z H _ I h) λus s1 hh=>?_) hs rfl))
 obtain⟨vs,H1,I1,r1,q1⟩:=hh;obtain⟨l1,xs,e,hq1,q⟩:=q1;subst e;cases r1 with
 |cons r rr=>
  cases rr;cases r;obtain⟨vv,Ls,p1,_⟩:=I1.list hq1;refine call_enumerate_list p1.isList λh' z1 z2 z3 z4=>?_
  have L1:l1<s1.heap.objs.size:=by obtain⟨o,n,e,_⟩:=p1;exact cD e
  refine wpAny_pyIter_enum z1 ?_;refine⟨s1.heap.objs.size+1,[s1.heap.objs.size+1,s1.heap.objs.size],_,_,H1,rfl,I1.kept (t':=s1.toks) z4,UI (e:=s1.heap.objs.size+1) (it:=s1.heap.objs.size) (l:=l1) (xR (by lia)) (gp (fM L1 (Hj _ _))) (gp L1) xs,⟨lD _,⟨_,z1⟩,z2⟩,λb hb=>?_,q⟩
  simp only[y07,y1p,or_false] at hb;have zf:s1.heap.objs.size<=b:=by rcases hb with rfl|rfl <;> lia
  exact I1.lj zf (I1.bh.fresh zf)
section
variable{X:Cx}{pos p:Pos}{tg a b c:Expr}
end
end L2
set_option autoImplicit false
namespace L2
open PySem PySem.Spec PyProof.Rows
variable{a:ag}{c lo j i:Int}{k:Kn}{q:Nat}{H H':Hp}
def Kept(q:Nat)(H H':Hp):Prop:=∀a o,vw q o=true->H a=some o->H' a=some o
def jw(K:PySem.W.Frag)(k:Kn)(H:Hp)(q:Nat)(x:V):D->Prop
 |.lst ds=>∃a ws,x=.ref a/\ah K k ws ds/\∀H',av k.F H'->Kept q H H'->cC K H' a ws
 |.tup ds=>∃a ws,x=.ref a/\ah K k ws ds/\∀H',av k.F H'->Kept q H H'->gA K H' a ws
 |.az kvs=>∃a es ep,x=.ref a/\es.map (·.1)=kvs.map (·.1)/\ah K k (es.map (·.2.1)) (kvs.map (·.1.d))/\ah K k (es.map (·.2.2)) (kvs.map (·.2))/\∀H',av k.F H'->Kept q H H'->H' a=some (.dG es ep)
 |.str z=>x=.str z
 |_=>True
def Bx.lv:Bx->Nat
 |.lst _=>2
 |.az _=>1
noncomputable def tm:Cell->aj (Nat×D)
 |.o b=>some (b.lv,b.d)
 |.z b=>some (0,b.d)
 |.ins _ _=>none
def Dn(fz:Bool)(S:aO):Rv->aj (Rs (Nat×D))
 |.o c=>some (.ok (0,c.d) S)
 |.v (.d (.ref n))=>(S.r[n]?).bind λc=>(tm c).map λp=>.ok p S
 |.v (.d x)=>some (.ok (0,x) S)
 |.v (.c n)=>if fz=true then(pR S (.c n)).map λp=>.ok (0,p.1) p.2 else(S.s[n]?).bind λc=>(tm c).map λp=>.ok p S
def wQ(fz:Bool)(g:GE):Gx (Nat×D):=λU S=>bd (g U S) (λr S1=>Dn fz S1 r)
abbrev RH(K:PySem.W.Frag)(q:Nat):Rp (Nat×D) V:=λk H x p=>jw K k H (max q p.1) x p.2
section
variable{X:Cx}{K:PySem.W.Frag}{W:XW}{q:Nat}{k:Kn}{H:Hp}{x:V}{d:D}{g:GE}{Z:St}
def Fh(h:ah K k [x] [d]):jw K k H q x d:=by
 cases d with
 |lst ds=>obtain⟨a,ws,rfl,h1,h2⟩:=h.xa;exact⟨a,ws,rfl,h2,λH' s _=>s.LC h1⟩
 |tup ds=>obtain⟨a,ws,rfl,h1,h2⟩:=h.isTup;exact⟨a,ws,rfl,h2,λH' s _=>s.zZ h1⟩
 |az kvs=>obtain⟨a,es,ep,rfl,h1,h2,h3,h4⟩:=h.w_;exact⟨a,es,ep,rfl,h2,h3,h4,λH' s _=>s _ _ h1⟩
 |str z=>exact h.aX rfl
 |_=>exact ug
def KR{o:HO}:vw (max q 2) o=true:=IF (p:=2) (Nat.le_max_right _ _) rfl
def Yv{b:Bx}(h:dh K k H a b):jw K k H (max q b.lv) (.ref a) b.d:=by
 cases b with
 |lst xs=>obtain⟨ws,h1,h2⟩:=h;exact⟨a,ws,rfl,h2,λH' _ c=>.inl (.inl (c _ _ KR h1))⟩
 |az kvs=>obtain⟨es,ep,h1,h2,h3,h4⟩:=h;exact⟨a,es,ep,rfl,h2,h3,h4,λH' _ c=>c _ _ (IF (p:=1) (Nat.le_max_right _ _) rfl) h1⟩
def NC{c:Cell}{p:Nat×D}(h:aZ K k H a c)(e:tm c=some p):jw K k H (max q p.1) (.ref a) p.2:=by
 cases c with
 |o b=>cases e;exact Yv h.2
 |z b=>cases e;exact Fh h.2
 |ins _ _=>cases e
def O2{fz:Bool}{Q:VK}(t:tX (RH K q) K W q (wQ fz g) Z H Q):tE K W q g Z H Q:=by
 obtain⟨k,U,S,res,ok,gk,e,w⟩:=t;refine tX.bd ok gk e w λr S1 x k1 H1 bw g1 r1 e1 w1 _=>?_
 cases r with
 |o c=>
  cases e1;obtain⟨k2,u2,cA,r2⟩:=rG bw r1;exact(w1.up (u2 q)).now cA (Fh r2)
 |v y=>
  cases y with
  |d y=>
   cases y with
   |ref n=>
    obtain⟨c,h1,e2⟩:=cg.mp e1;obtain⟨p,h2,rfl⟩:=cW.mp e2;obtain⟨a,rfl,h3⟩:=ah.isRef r1;exact w1.now bw (NC (bw.r.at' n a c h3 h1) h2)
   |_=>cases e1;exact w1.now bw (Fh r1)
  |c n=>
   cases fz with
   |true=>
    obtain⟨p,h1,rfl⟩:=cW.mp (show(pR S1 (.c n)).map _=some res from e1);obtain⟨k2,u2,cA,r2⟩:=Fz (v:=.c n) bw r1 h1;exact(w1.up (u2 q)).now cA (Fh r2)
   |false=>
    obtain⟨c,h1,e2⟩:=cg.mp (show(S1.s[n]?).bind _=some res from e1);obtain⟨p,h2,rfl⟩:=cW.mp e2;obtain⟨a,rfl,h3⟩:=r1;exact w1.now bw (NC (bw.s.at' n a c h3 h1) h2)
end
structure gz (K:PySem.W.Frag) (k1:Kn) (H1:Hp) (q:Nat) (J:It) (ds:List D):Prop where
 go:∀i k H,k1.le k->av k.F H->Kept q H1 H->i<ds.length->J.go i H
 stop:∀i k H,k1.le k->av k.F H->Kept q H1 H->ds.length<=i->J.stop i H
 uh:∀i k H x H',k1.le k->av k.F H->Kept q H1 H->J.uh i H x H'->∀d,ds[i]?=some d->∃F',av k.F F'/\av H H'/\av F' H'/\(∀p,H p≠none->k.F p=none->F' p=none)/\ah K ⟨F',k.A,k.T⟩ [x] [d]
abbrev RI(K:PySem.W.Frag)(q:Nat):Rp (Nat×List D) It:=λk H J p=>gz K k H (max q p.1) J p.2
section
variable{K:PySem.W.Frag}{k1:Kn}{H1:Hp}{q n:Nat}{ds:List D}{J:It}{a:ag}{ws xs:List V}
def gz.old(hn:ds.length=n)(h1:∀i H,av k1.F H->Kept q H1 H->i<n->J.go i H)(h2:∀i H,av k1.F H->Kept q H1 H->n<=i->J.stop i H)(h3:∀i H x H' d,av k1.F H->Kept q H1 H->J.uh i H x H'->ds[i]?=some d->H'=H/\ah K k1 [x] [d]):gz K k1 H1 q J ds where
 go:=λi k H l s c hi=>h1 i H (l.f.trans s) c (hn ▸ hi)
 stop:=λi k H l s c hi=>h2 i H (l.f.trans s) c (hn ▸ hi)
 uh:=λi k H x H' l s c y d hd=>by
  obtain⟨rfl,r⟩:=h3 i H x H' d (l.f.trans s) c y hd;exact⟨k.F,av.refl _,av.refl _,s,λ_ _ z=>z,r.mono l⟩
def gz.DG{Src:Hp->Prop}{val:Nat->List V->Prop}{f:Nat->List D}(hs:∀H,av k1.F H->Kept q H1 H->Src H)(hv:∀i us,i<n->val i us->ah K k1 us (f i)):gz K k1 H1 q (Ao Src n val) ((List.range n).map λi=>.tup (f i)) where
 go:=λi k H l s c hi=>⟨by simpa using hi,hs H (l.f.trans s) c⟩
 stop:=λi k H l s c hi=>⟨by simpa using hi,hs H (l.f.trans s) c⟩
 uh:=λi k H x H' l s c y d hd=>by
  obtain⟨p,us,rfl,hp,hw,rfl⟩:=y;have hi:i<n:=by have:=(eS.mp hd).1;simpa using this
  rw[gq,Ag hi] at hd;cases hd;have hF:=s.free hp;refine⟨upd k.F p (.tup us),sD hF,sD hp,λb u z=>?_,λb z1 z2=>?_,.tup (.inl (.inl aI)) ((hv i us hi hw).mono ⟨l.f.trans (sD hF),l.a⟩) .nil⟩
  .by_cases z3:b=p
   .subst z3;rw[aI] at z ⊢;exact z
   .rw[cP z3] at z ⊢;exact s b u z
  .rw[cP (show b≠p from λz=>z1 (z ▸ hp))];exact z2
def Yw(h:∀H',av k1.F H'->Kept q H1 H'->cC K H' a ws)(r:ah K k1 ws ds):gz K k1 H1 q (HC K a) ds:=
 .old r.length.symm (λi H s c hi=>⟨ws,ws[i],h H s c,jt _⟩) (λi H s c hi=>⟨ws,h H s c,hi⟩) λi H x H' d s c y hd=>by
  obtain⟨rfl,y⟩:=y;obtain⟨v,h1,h2⟩:=r.get hd
  simp_all
def e0m(h:∀H',av k1.F H'->Kept q H1 H'->gA K H' a ws)(r:ah K k1 ws ds):gz K k1 H1 q (HD K a) ds:=
 .old r.length.symm (λi H s c hi=>⟨ws,ws[i],h H s c,jt _⟩) (λi H s c hi=>⟨ws,h H s c,hi⟩) λi H x H' d s c y hd=>by
  obtain⟨rfl,y⟩:=y;obtain⟨v,h1,h2⟩:=r.get hd
  simp_all
def e0n(h:∀H',av k1.F H'->Kept q H1 H'->cC K H' a ws)(r:ah K k1 ws ds):gz K k1 H1 q (sk K a ws.length) ds.reverse:=
 .old (by rw[Mc,r.length]) (λi H s c hi=>⟨hi,ws,h H s c,rfl⟩) (λi H s c hi=>hi) λi H x H' d s c y hd=>by
  obtain⟨rfl,y⟩:=y;have hi:=(eS.mp hd).1;rw[Mc] at hi;rw[List.getElem?_reverse hi,<-r.length] at hd;obtain⟨v,h1,h2⟩:=r.get hd
  simp_all
def Yx{es:List (TK×V×V)}{ep:Nat}(h:∀H',av k1.F H'->Kept q H1 H'->H' a=some (.dG es ep))(r:ah K k1 (es.map (·.2.1)) ds):gz K k1 H1 q (HA a es.length ep) ds:=
 .old (by rw[<-r.length,aY]) (λi H s c hi=>⟨es,h H s c,rfl,hi⟩) (λi H s c hi=>⟨es,h H s c,rfl,hi⟩) λi H x H' d s c y hd=>by
  obtain⟨rfl,y⟩:=y;obtain⟨v,h1,h2⟩:=r.get hd;rw[gq] at h1;obtain⟨e,h3,rfl⟩:=cW.mp h1;obtain⟨e',h4,rfl⟩:=y es (h _ s c);cases h3.symm.trans h4;exact⟨rfl,h2⟩
def e0o{z:Str}:gz K k1 H1 q (EA z) (z.cps.toList.map λc=>.str (k_ c)):=
 .old (by rw[aY,Hg]) (λi H s _ hi=>hi) (λi H s _ hi=>hi) λi H x H' d s _ y hd=>by
  obtain⟨rfl,c,h1,rfl⟩:=y;rw[gq,xX,h1] at hd;cases hd;exact⟨rfl,.flat rfl .nil⟩
def rj(lo c:Int)(n:Nat):List D:=(List.range n).map λ(i:Nat)=>D.int (lo+(i:Int)*c)
def Yy:gz K k1 H1 q (Hz lo c n) (rj lo c n):=
 .old (by unfold rj;rw[aY,uK]) (λi H s _ hi=>hi) (λi H s _ hi=>hi) λi H x H' d s _ y hd=>by
  obtain⟨rfl,rfl⟩:=y;have hi:=(eS.mp hd).1;unfold rj at hi hd;rw[aY,uK] at hi;rw[gq,Ag hi] at hd;cases hd;exact⟨rfl,.flat rfl .nil⟩
def dc(lo:Int)(n:Nat):List D:=(List.range n).map λ(i:Nat)=>D.int (lo+(i:Int))
theorem e0p:gz K k1 H1 q (Ez lo n) (dc lo n):=
 .old (by unfold dc;rw[aY,uK]) (λi H s _ hi=>hi) (λi H s _ hi=>hi) λi H x H' d s _ y hd=>by
  obtain⟨rfl,rfl⟩:=y;have hi:=(eS.mp hd).1;unfold dc at hi hd;rw[aY,uK] at hi;rw[gq,Ag hi] at hd;cases hd;exact⟨rfl,.flat rfl .nil⟩
end
abbrev mB:=Gx (Nat×List D)
def bu(fz:Bool)(o:D->aj (List D))(g:GE):mB:=λU S=>bd (wQ fz g U S) λp S1=>(o p.2).map λds=>.ok (p.1,ds) S1
noncomputable def eQ:D->aj (List D)
 |.lst ds=>some ds
 |.tup ds=>some ds
 |.az kvs=>some (kvs.map (·.1.d))
 |.str z=>some (z.cps.toList.map λc=>.str (k_ c))
 |_=>none
def vF:D->aj (List D)
 |.lst ds=>some ds.reverse
 |_=>none
def dW(ds:List D):List D:=(List.range ds.length).map λi=>.tup [.int (i:Nat),(ds[i]?).getD .aF]
def JQ:D->aj (List D)
 |.lst ds=>some (dW ds)
 |_=>none
noncomputable def lz:List Val->aj (List D)
 |[.d (.int j)]=>if Nat.ble j.natAbs 1000000000000=true then some (dc 0 j.toNat) else none
 |_=>none
noncomputable def vH:List Val->aj (List D)
 |[.d (.int i),.d (.int j),.d (.int c)]=>if c = -1/\(Nat.ble i.natAbs 1000000&&Nat.ble j.natAbs 1000000)=true then some (rj i (-1) (i - j).toNat) else none
 |_=>none
noncomputable def iQ(o:List Val->aj (List D))(g:GA):mB:=λU S=>bd (g U S) λvs S1=>(o vs).map λds=>.ok (0,ds) S1
section
variable{X:Cx}{K:PySem.W.Frag}{W:XW}{q:Nat}{g:GE}{ga:GA}{fz:Bool}{Z:St}{H:Hp}{R:It->Hp->Prop}
def E7{o:D->aj (List D)}(t:tX (RI K q) K W q (bu fz o g) Z H R):(∀Q:VK,tE K W q g Z H Q)\/∃d ds n,o d=some ds/\∀Q:VK,(∀k1 H1 x,av k1.F H1->jw K k1 H1 n x d->(∀J,gz K k1 H1 n J ds->R J H1)->Q x H1)->tE K W q g Z H Q:=by
 obtain⟨k,U,S,res,ok,gk,e,w⟩:=t;rcases A0 e with⟨⟨n,d⟩,S1,e1,e2⟩|⟨C,l,S1,e1,rfl⟩
 .obtain⟨ds,e3,rfl⟩:=cW.mp e2;exact .inr ⟨d,ds,max q n,e3,λQ h=>O2 ⟨k,U,S,_,ok,gk,e1,λx k1 H1 u bw r=>h k1 H1 x bw.le r λJ j=>w J k1 H1 u bw j⟩⟩
 .exact .inl λQ=>O2 ⟨k,U,S,_,ok,gk,e1,w⟩
def jw.now{x:V}{P:Hp->Prop}{n:Nat}(h:∀H',av k.F H'->Kept n H H'->P H')(le:av k.F H):P H:=h H le λ_ _ _ z=>z
def Dv(K:PySem.W.Frag)(te:TE):TI:=λZ H R=>wZ K te Z H R\/Dy K te Z H R\/wV te Z H R\/Dx te Z H R
def e0q{tg l:Expr}{te:TE}(h:PE X l te):PI X tg l (Dv X.K te):=JI (XN h) (JI (π h) (JI (Yt h) (e0c h)))
def e0r(t:tX (RI K q) K W q (bu fz eQ g) Z H R):Dv K (tE K W q g) Z H R:=by
 rcases E7 t with h|⟨d,ds,n,e,h⟩
 .exact .inl (h _)
 .cases d with
  |lst _=>
   cases e;refine .inl (h _ λk1 H1 x le hd j=>?_)
   obtain⟨a,ws,rfl,q2,q1⟩:=hd;exact⟨a,rfl,⟨ws,jw.now (x:=.aF) q1 le⟩,j _ (Yw q1 q2)⟩
  |tup _=>
   cases e;refine .inr (.inl (h _ λk1 H1 x le hd j=>?_))
   obtain⟨a,ws,rfl,q2,q1⟩:=hd;exact⟨a,rfl,⟨ws,jw.now (x:=.aF) q1 le⟩,j _ (e0m q1 q2)⟩
  |az kvs=>
   cases e;refine .inr (.inr (.inl (h _ λk1 H1 x le hd j=>?_)))
   obtain⟨a,es,ep,rfl,q2,q3,q4,q1⟩:=hd;exact⟨a,es,ep,rfl,jw.now (x:=.aF) q1 le,j _ (Yx q1 q3)⟩
  |str z=>
   cases e;exact .inr (.inr (.inr (h _ λk1 H1 x le hd j=>⟨z,hd,j _ e0o⟩)))
  |_=>cases e
def Yz(t:tX (RI K q) K W q (bu fz vF g) Z H R):Dw K (t9 (tE K W q g) vL) Z H R:=by
 rcases E7 t with h|⟨d,ds,n,e,h⟩
 .exact h _
 .cases d with
  |lst _=>
   cases e;refine h _ λk1 H1 x le hd j=>?_
   obtain⟨a,ws,rfl,q2,q1⟩:=hd;exact⟨a,ws,rfl,jw.now (x:=.aF) q1 le,j _ (e0n q1 q2)⟩
  |_=>cases e
def e0s(t:tX (RI K q) K W q (bu fz JQ g) Z H R):wW K (t9 (tE K W q g) vL) Z H R:=by
 rcases E7 t with h|⟨d,ds,n,e,h⟩
 .exact h _
 .cases d with
  |lst es=>
   cases e;refine h _ λk1 H1 x le hd j=>?_
   obtain⟨a,ws,rfl,q2,q1⟩:=hd;refine⟨a,ws,rfl,jw.now (x:=.aF) q1 le,j _ ?_⟩;unfold dW;rw[<-q2.length];refine .DG q1 λi us hi hv=>?_
   obtain⟨x,h1,rfl⟩:=hv;obtain⟨d,hd⟩:∃d,es[i]?=some d:=⟨es[i]'(by rw[<-q2.length];exact hi),jt _⟩
   obtain⟨v,h3,h4⟩:=q2.get hd;cases h1.symm.trans h3;rw[hd];exact .flat rfl h4
  |_=>cases e
theorem rep1{xs:List V}(h:Paired (cI K k) xs [.d (.int j)]):xs=[.int j]:=by
 cases h with
 |cons r t=>cases t;rw[(show ah K k [_] [_] from r).aX rfl]
def rep2{xs:List V}(h:Paired (cI K k) xs [.d (.int i),.d (.int j)]):xs=[.int i,.int j]:=by
 cases h with
 |cons r t=>rw[(show ah K k [_] [_] from r).aX rfl,rep1 t]
def rep3{xs:List V}(h:Paired (cI K k) xs [.d (.int i),.d (.int j),.d (.int c)]):xs=[.int i,.int j,.int c]:=by
 cases h with
 |cons r t=>rw[(show ah K k [_] [_] from r).aX rfl,rep2 t]
def ND{o:List Val->aj (List D)}{Q:List V->Hp->Prop}(t:tX (RI K q) K W q (iQ o ga) Z H R)(h:∀vs ds k1 H1 xs,o vs=some ds->(∀J,gz K k1 H1 (max q 0) J ds->R J H1)->Paired (cI K k1) xs vs->Q xs H1):fW K W q ga Z H Q:=by
 obtain⟨k,U,S,res,ok,gk,e,w⟩:=t;rcases A0 e with⟨vs,S1,e1,e2⟩|⟨C,l,S1,e1,rfl⟩
 .obtain⟨ds,e3,rfl⟩:=cW.mp e2;exact⟨k,U,S,_,ok,gk,e1,λxs k1 H1 u bw r=>h vs ds k1 H1 xs e3 (λJ j=>w J k1 H1 u bw j) r⟩
 .exact⟨k,U,S,_,ok,gk,e1,w⟩
def YA(t:tX (RI K q) K W q (iQ lz ga) Z H R):w6 (fW K W q ga) Z H R:=ND t λvs ds k1 H1 xs e j r=>by
 unfold lz at e;split at e
 .split at e
  .rename_i h
   have h:=Ah h
   grind [rep1,e0p]
  .cases e
 .cases e
def YB(t:tX (RI K q) K W q (iQ vH ga) Z H R):w9 (fW K W q ga) Z H R:=ND t λvs ds k1 H1 xs e j r=>by
 unfold vH at e;split at e
 .split at e
  .rename_i h
   obtain⟨rfl,h⟩:=h;obtain⟨h1,h2⟩:=Bv.mp h;have h1:=Ah h1;have h2:=Ah h2;cases e;exact⟨_,_,rep3 r,⟨by lia,by lia,by lia,by lia⟩,j _ Yy⟩
  .cases e
 .cases e
end
def aA(g:GG)(f:GS):List D->GS
 |[]=>λU S=>some (.nx U S)
 |d::ds=>λU S=>(g d U).bind λU1=>(f U1 S).bind λr=>match r with
   |.nx U2 S2=>aA g f ds U2 S2
   |.ct U2 S2=>aA g f ds U2 S2
   |.bk U2 S2=>some (.nx U2 S2)
   |r=>some r
noncomputable def br(q:Nat)(src:mB)(g:GG)(f:Nat->GS):GS:=λU S=>kN U (src U S) λp S1=>aA g (f (max q p.1)) p.2 U S1
def Up.kept{k':Kn}(u:Up q k H k' H'):Kept q H H':=u.h
def Kept.refl:Kept q H H:=λ_ _ _ z=>z
def Kept.trans{BE:Hp}(a:Kept q H H')(b:Kept q H' BE):Kept q H BE:=λx o z h=>b x o z (a x o z h)
def Kept.same(a:av H H'):Kept q H H':=λx o _ h=>a x o h
section
variable{X:Cx}{K:PySem.W.Frag}{W:XW}{q:Nat}{tg iter:Expr}{body:List Stmt}{wi:TI}{t:TG}{gg:GG}{f:Nat->GS}{src:mB}{pos:Pos}
def e0t(hp:PassesOwn (model X.prog X.w) X.A X.env X.xe)(hc:X.calm=true)(hi:PI X tg iter wi)(q8:∀Z H R,tX (RI K q) K W q src Z H R->wi Z H R)(hg:PG X tg t)(ht:jW K t gg)(hb:∀n,iP X body (tS K W n (f n)))(hs:∀x,foldedSetIterable iter X.env x=pure x):
  PS X (.For tg iter body [] pos) (tS K W q (br q src gg f)):=by
 intro aa s Z H De I t;obtain⟨k,U,S,fr,ok,gk,e,w⟩:=t;unfold br kN at e;split at e
 .cases e
 .rename_i p S1 e1
  obtain⟨n,ds⟩:=p;refine P4 hp hc hi hg (hb (max q n)) hs aa s Z H De I (q8 _ _ _ ⟨k,U,S,_,ok,gk,e1,λJ k1 H1 u1 bw r1=>?_⟩)
  have w1:=(w.up u1).weak (Nat.le_max_left q n);have g1:=gk.up u1;clear w gk ok e1 u1;refine⟨λi m Z H=>m=ds.length - i/\i<=ds.length/\∃k U S,bO K k H S/\fX K k Z U/\k1.le k/\Kept (max q n) H1 H/\aA gg (f (max q n)) (ds.drop i) U S=some fr/\Done K W (max q n) De k H fr,⟨_,rfl,lD _,k1,U,S1,bw,g1,.refl,.refl,e,w1⟩,?_⟩
  rintro i m Z H ⟨rfl,hi,k,U,S,ok,gk,l,c,e,w⟩;rcases Nat.lt_or_ge i ds.length with h|h
  .rw[List.drop_eq_getElem_cons h] at e;refine .inr ⟨r1.go i k H l ok.le c h,λZ' H'=>∃k U S,bO K k H' S/\fX K k Z' U/\k1.le k/\Kept (max q n) H1 H'/\aA gg (f (max q n)) (ds.drop (i+1)) U S=some fr/\Done K W (max q n) De k H' fr,λZ' H' z=>⟨_,by lia,rfl,h,z⟩,λx H' y=>?_⟩
   obtain⟨F',s1,s2,s3,s4,rp⟩:=r1.uh i k H x H' l ok.le c y _ (jt h);have u:Up (max q n) k H ⟨F',k.A,k.T⟩ H':=.of s1 s2;obtain⟨U1,e1,e2⟩:=cg.mp e;obtain⟨r,e3,e4⟩:=cg.mp e2;have fj:bO K ⟨F',k.A,k.T⟩ H' S:=ok.new s1 (λp _ o z=>s2 p o z) s3 λp m=>s4 p (ok.there p m)
   have l':k1.le ⟨F',k.A,k.T⟩:=⟨l.f.trans s1,l.a⟩;refine ht _ H' Z U U1 x ds[i] _ s3 (gk.up u) rp e1 λZ1 g1=>⟨_,U1,S,r,fj,g1,e3,?_⟩
   have w':=w.up u;have c':Kept (max q n) H1 H':=c.trans (.same s2);cases r with
   |nx U2 S2=>exact λZ' k2 H2 u2 cA g2=>⟨k2,U2,S2,cA,g2,⟨l'.f.trans u2.f,l'.a.trans u2.a⟩,c'.trans u2.kept,e4,w'.up u2⟩
   |ct U2 S2=>exact λZ' k2 H2 u2 cA g2=>⟨k2,U2,S2,cA,g2,⟨l'.f.trans u2.f,l'.a.trans u2.a⟩,c'.trans u2.kept,e4,w'.up u2⟩
   |bk U2 S2=>cases e4;exact w'
   |rt r S2=>cases e4;exact w'
   |ex C l U2 S2=>cases e4;exact w'
  .rw[Hi h] at e;cases e;exact .inl ⟨r1.stop i k H l ok.le c h,bL.now w ok gk⟩
 .rename_i C l S1 e1
  cases e;exact P4 hp hc hi hg (hb q) hs aa s Z H De I (q8 _ _ _ ⟨k,U,S,_,ok,gk,e1,λdx k' H' u fj r=>w dx Z k' H' u fj (gk.up u) r⟩)
end
end L2
set_option autoImplicit false
namespace L2
open PySem PySem.Spec PyProof.Rows
variable{ds:List D}{U:Gm}{Z:St}
def uz{α β:Type}(x:aj (Rs α))(f:α->aO->aj (Rs β)):aj (Rs β):=match x with
 |some (.ok a S)=>f a S
 |_=>none
def W0:XW:=λ_ _ _ _=>False
def bx(gg:GG)(tt:GT)(te:GE):List D->Gm->aO->List D->aj (Rs (List D))
 |[],_,S,aU=>some (.ok aU S)
 |d::ds,U,S,aU=>(gg d U).bind λU1=>uz (tt U1 S) λb S1=>if b=true then uz (gD te U1 S1) λx S2=>if aU.length<1000000 then bx gg tt te ds U1 S2 (aU++[x]) else none else bx gg tt te ds U1 S1 aU
def vc(n:Nat)(cM:List Nat)(U:Gm):Gm:=List.replicate n none++cM.map λi=>(U[i]?).join
def bU(q:Nat)(src:mB)(gg:GG)(tt:Nat->GT)(te:Nat->GE)(n:Nat)(cM:List Nat):GE:=λU S=>bd (src U S) λp S1=>bd (bx gg (tt (max q p.1)) (te (max q p.1)) p.2 (vc n cM U) S1 []) λds S2=>some (.ok (.o (.lst ds)) S2)
section
variable{X:Cx}{K:PySem.W.Frag}{W:XW}{q:Nat}{tg iter elt:Expr}{ifs:List Expr}{scope:Scope}{wi:TI}{t:TG}{gg:GG}{tt:Nat->GT}{te:Nat->GE}{src:mB}{pos:Pos}{M:List Str}{n:Nat}{cM:List Nat}
def FC{α β:Type}{x:aj (Rs α)}{f:α->aO->aj (Rs β)}{res:Rs β}(e:uz x f=some res):∃a S,x=some (.ok a S)/\f a S=some res:=by
 unfold uz at e;split at e
 .exact⟨_,_,rfl,e⟩
 .cases e
def VT{gg:GG}{tt:GT}{te:GE}{S:aO}{aU:List D}{res:Rs (List D)}(e:bx gg tt te ds U S aU=some res):∃l S',res=.ok l S':=by
 induction ds generalizing U S aU with
 |nil=>cases e;exact⟨_,_,rfl⟩
 |cons d ds ih=>
  obtain⟨U1,_,e⟩:=cg.mp e;obtain⟨b,S1,_,e⟩:=FC e;cases b with
  |false=>exact ih e
  |true=>
   obtain⟨x,S2,_,e⟩:=FC (show uz _ _=some res from e);split at e
   .exact ih e
   .cases e
def YC{k:Kn}(g:fX K k Z U):fX K k (jY n cM Z) (vc n cM U):=by
 refine⟨by unfold jY vc;rw[cB,cB,aY,aY,Bt,Bt],λi v e=>?_⟩
 unfold vc at e;unfold jY;by_cases hi:i<n
 .rw[xS (by rw[Bt];exact hi),L9,aN hi] at e;cases e
 .have hi:=Nat.le_of_not_lt hi;rw[v5 (by rw[Bt];exact hi),Bt,gq] at e ⊢
  obtain⟨j,h1,h2⟩:=cW.mp e;obtain⟨x,h3,h4⟩:=g.at' j v (Nz h2)
  simp_all
def e0u{J:It}{k1:Kn}{H1:Hp}{m:Nat}{out:List D}{S1 S2:aO}{τ:St}{gt:GT}{ge:GE}{fQ:List V->Hp->Prop}(ht:jW K t gg)(r1:gz K k1 H1 m J ds)(bw:bO K k1 H1 S1)(g1:fX K k1 τ U)(e:bx gg gt ge ds U S1 []=some (.ok out S2))
  (w:∀k H vs,Up m k1 H1 k H->bO K k H S2->ah K k vs out->fQ vs H):p6 J t (tT K W0 m gt) (tE K W0 m ge) τ H1 fQ:=by
 refine⟨ds.length,λi τ vs H=>i<=ds.length/\∃k U S aU,bO K k H S/\fX K k τ U/\ah K k vs aU/\Up m k1 H1 k H/\bx gg gt ge (ds.drop i) U S aU=some (.ok out S2),⟨lD _,k1,U,S1,[],bw,g1,.nil,.refl,e⟩,?_⟩
 rintro i τ vs H hi ⟨_,k,U,S,aU,ok,gk,rv,u,e⟩;rcases Nat.lt_or_ge i ds.length with h|h
 .rw[List.drop_eq_getElem_cons h] at e;refine .inr ⟨h,r1.go i k H u.le ok.le u.kept h,λx H' y=>?_⟩
  obtain⟨F',s1,s2,s3,s4,rp⟩:=r1.uh i k H x H' u.le ok.le u.kept y _ (jt h);have u2:Up m k H ⟨F',k.A,k.T⟩ H':=.of s1 s2;have fj:bO K ⟨F',k.A,k.T⟩ H' S:=ok.new s1 (λp _ o z=>s2 p o z) s3 λp m=>s4 p (ok.there p m)
  obtain⟨U1,e1,e2⟩:=cg.mp e;refine ht _ H' τ U U1 x ds[i] _ s3 (gk.up u2) rp e1 λτ1 g1=>?_
  obtain⟨b,S3,e3,e4⟩:=FC e2;refine⟨_,U1,S,_,fj,g1,e3,λb' k3 H3 u3 jB r3=>?_⟩
  cases r3;have u4:=(u.trans u2).trans u3;cases b with
  |false=>exact tG ⟨h,k3,U1,S3,aU,jB,g1.up u3,rv.mono (u2.trans u3).le,u4,e4⟩
  |true=>
   obtain⟨y,S4,e5,e6⟩:=FC (show uz _ _=some _ from e4);refine tH (LQ ⟨_,U1,S3,_,jB,g1.up u3,e5,λv k5 H5 u5 mT r5=>?_⟩)
   split at e6
   .rename_i hl
    refine⟨fM (by rw[rv.length];exact hl) (by decide),h,k5,U1,S4,aU++[y],mT,(g1.up u3).up u5,(rv.mono ((u2.trans u3).trans u5).le).append r5,u4.trans u5,e6⟩
   .cases e6
 .rw[Hi h] at e;cases e;exact .inl ⟨r1.stop i k H u.le ok.le u.kept h,w k H vs u ok rv⟩
def O3{H:Hp}{Q:VK}(ht:jW K t gg)(h:tE K W q (bU q src gg tt te n cM) Z H Q):∃m,tX (RI K q) K W q src Z H λJ H1=>p6 J t (tT K W0 m (tt m)) (tE K W0 m (te m)) (jY n cM Z) H1 λaU H'=>∀l,H' l=none->Q (.ref l) (upd H' l (.lst aU)):=by
 obtain⟨k,U,S,res,ok,gk,e,w⟩:=h;rcases A0 e with⟨⟨m,ds⟩,S1,e1,e2⟩|⟨C,l,S1,e1,rfl⟩
 .refine⟨max q m,k,U,S,_,ok,gk,e1,λJ k1 H1 u1 bw r1=>?_⟩
  rcases A0 e2 with⟨out,S2,e3,e4⟩|⟨C,l,S2,e3,rfl⟩
  .cases e4;refine e0u ht r1 bw (YC (gk.up u1)) e3 λk2 H2 vs u2 cA rv l hl=>?_
   exact kY.lst (.fin cA ((w.up u1).up (u2.weak (Nat.le_max_left q m)))) cA.le rv hl
  .obtain⟨_,_,z⟩:=VT e3;cases z
 .exact⟨0,k,U,S,_,ok,gk,e1,w⟩
def YD(hc:X.calm=true)(ok:dD X scope M n cM)(hi:PI X tg iter wi)(q8:∀Z H R,tX (RI K q) K W q src Z H R->wi Z H R)(ht:jW K t gg)
  (hg:∀C s H fp,PG (eV X scope M C s H fp) tg t) (hT:∀m C s H fp,sr (eV X scope M C s H fp) ifs (tT K W0 m (tt m))) (hE:∀m C s H fp,PE (eV X scope M C s H fp) elt (tE K W0 m (te m)))
  (hs:∀x,foldedSetIterable iter X.env x=pure x):PE X (.ListComp elt [⟨tg,iter,ifs,0⟩] scope pos) (tE K W q (bU q src gg tt te n cM)):=λaa s Z H Q I h=>by
 obtain⟨m,h⟩:=O3 ht h;exact X8 hc ok hi hg (hT m) (hE m) hs aa s Z H Q I (q8 _ _ _ h)
def YE{mu:Bool}{i:Nat}{x:Str}{px oR:Pos}(hc:X.calm=true)(ok:dD X scope M n cM)(hN:X.N.Nodup)(zp:X.N[i]?=some x)(hx:Loc X.env.scope x)(hi:PI X tg iter wi)(q8:∀Z H R,tX (RI K q) K W q src Z H R->wi Z H R)(ht:jW K t gg)
  (hg:∀C s H fp,PG (eV X scope M C s H fp) tg t) (hT:∀m C s H fp,sr (eV X scope M C s H fp) ifs (tT K W0 m (tt m))) (hE:∀m C s H fp,PE (eV X scope M C s H fp) elt (tE K W0 m (te m)))
  (Ds:swapsWith (.ListComp elt [⟨tg,iter,ifs,0⟩] scope pos) (some (.Name x px)) oR.line X.env=pure true) (hs:∀x,foldedSetIterable iter X.env x=pure x) (hf:X.fn x=true\/X.env.scope.names.lookup x=some .local) :
  PS X (.Assign [.Name x px] (.ListComp elt [⟨tg,iter,ifs,0⟩] scope pos) oR) (tS K W q (au i mu (bU q src gg tt te n cM))):=λaa s Z H D I h=>by
 obtain⟨m,h⟩:=O3 ht (P9 h);exact Yi hc ok hN zp hx hi hg (hT m) (hE m) Ds hs hf aa s Z H D I (q8 _ _ _ h)
end
end L2
namespace L2
open PySem PySem.Spec PySem.W PySem.Calls PyProof.Rows
variable{hs:List ExceptHandler}
noncomputable def o5(C:ag)(fe:GE):GS:=λU S=>kN U (fe U S) λ_ S1=>some (.ex C none U S1)
section
variable{X:Cx}{K:Frag}{W:XW}{q:Nat}{C B0:ag}{x:Str}{p cp pos:Pos}{e:Expr}{fe:GE}
def VU(G:fm K C (.ref B0::rJ) none)(G0:fm K B0 rJ none)(hk:keepIn K (.ref C)=true)(hm:X.mg x=some (.ref C))(hp:eJ X W)(he:PE X e (tE K W q fe))(hc:X.calm=true)(hg:Gl X x)(lq:(x == ("__debug__":Str))=false)
  (lr:starEach [e] X.env=(false,eval e X.env)::starEach [] X.env) (hK:X.K=K):PS X (.Raise (some (.Call (.Name x p) [e] [] cp)) none pos) (tS K W q (o5 C fe)):=by
 subst hK;intro aa s Z H D I t;have t1:tE X.K W q fe Z H λ_ H1=>W C none Z H1:=by
  obtain⟨k,U,S,fr,ok,gk,e,w⟩:=t;refine tS.bd ok gk e w λr S1 v k1 H1 bw g1 r1 e1 w1=>?_
  cases e1;exact w1 none Z k1 H1 .refl bw g1 rfl
 obtain⟨nm,qq,N,bs,sn,sub,ab,col,dd,k0,k1,k2,k3,k5,on,Bj,es,ep,Bl,g1,g2,g3,g4⟩:=id G;rw[arm_exec_Raise];show wpAny _ _ (do standAt pos;raiseStmt X.env (some (do let v <-eval (.Call (.Name x p) [e] [] cp) X.env;standAt pos;pure v)) none) _ _ _
 refine ay (wpAny_standAt (wpAny_raiseStmt_made_sub (C:=C) (nm:=nm) (q:=qq) (N:=N) (bs:=bs) (bm:=.ref B0::rJ) (hdct:=true) (sn:=sn) (sub:=sub) (ab:=ab) (col:=col) (dd:=dd) (k0:=k0) (k1:=k1) (k2:=k2) (k3:=k3) (k5:=k5) (newId:="ValueError.__new__") rfl (I.ok.hd hc) (ay (bB ?_ λv s3 h3=>ay (wpAny_standAt (aS h3))))))
 refine wpAny_Call_Name_kw (AO I hg hm ?_ lq);have jK:(backTo cp (starEach [] X.env)).any (·.1)=false:=by rw[starEach];rfl
 refine PySem.W.callWith_K (h₀:=X.base) I.ok.mod.Bg hk (bB ((Fx he mW lr) cp aa s Z H (λvs H1=>vs.length=1/\W C none Z H1) I (pL t1 λ_ H1 h=>⟨rfl,h⟩)) λus s1 hh=>?_) lr jK
 obtain⟨vs,H1,I1,r,hl,pp⟩:=hh;refine⟨I1.jL,?_⟩;obtain⟨u,rfl⟩:∃u,us=[u]:=by
  have l:=r.length;rw[hl] at l;cases us with
  |nil=>cases l
  |cons u us=>cases us with
   |nil=>exact⟨u,rfl⟩
   |cons _ _=>cases l
 refine VP G G0 I1 λh' t kp g=>⟨_,t,rfl,kp _ _ (I1.jL _ _ g1),g,?_⟩
 exact hp aa Z H1 s1 H1 _ _ C none I1 ⟨rfl,I1.bare,Un.kept kp,I1.bh.kept kp,qD _,I1.bh.fresh (qD _),_,_,g,rfl,rfl,rfl,by show 1<6;decide,.inl rfl⟩ pp
end
abbrev GH:=(ag->aj Bool)×GS
variable{gs:List GH}
noncomputable def DI:Fr->aj Fr
 |.ex _ _ _ _=>none
 |r=>some r
def vQ:List GH->ag->GS
 |[],_=>λ_ _=>none
 |h::hs,C=>λU S=>(h.1 C).bind λb=>if b=true then(h.2 U S).bind DI else vQ hs C U S
def sX(f:GS)(hs:List GH):GS:=λU S=>(f U S).bind λr=>match r with
 |.ex C _ U1 S1=>vQ hs C U1 S1
 |r=>some r
section
variable{X:Cx}{K:Frag}{W:XW}{q:Nat}
theorem SP.eC{aa:List (ag×Obj)}{D:Ends}{f:Flow}{s':aq}{e:ai}(h:SP (X.dB e) aa D f s')(hd:X.calm=true->X.A.handled=none):SP X aa D f s':=by
 cases f with
 |next=>obtain⟨Z',H',I,q⟩:=h;exact⟨Z',H',I.eC hd,q⟩
 |brk=>obtain⟨Z',H',I,q⟩:=h;exact⟨Z',H',I.eC hd,q⟩
 |cont=>obtain⟨Z',H',I,q⟩:=h;exact⟨Z',H',I.eC hd,q⟩
 |ret u=>obtain⟨v,Z',H',I,r,q⟩:=h;exact⟨v,Z',H',I.eC hd,r,q⟩
def Done.DI{D:Ends}{k:Kn}{H:Hp}{r fr:Fr}(w:Done K W q D k H fr)(e:L2.DI r=some fr):Done K W0 q D k H r:=by
 cases r with
 |ex _ _ _ _=>cases e
 |_=>cases e;exact w
def HB(X:Cx)(K:Frag)(W:XW)(q:Nat)(hs:List ExceptHandler)(gs:List GH):Prop:=∀(aa:List (ag×Obj)) (Z:St) (H:Hp) (s:aq) (D:Ends) (e C:ag) (dx:aj ag) (k:Kn) (U:Gm) (S:aO) (fr:Fr) (n:Nat),Inv X aa Z H s->BK X aa n->gZ n s.heap H e C dx->bO K k H S->fX K k Z U->vQ gs C U S=some fr->Done K W q D k H fr->
 wpAny (model X.prog X.w) X.A (handleBy (.ref e) X.env hs) (SP X aa D) X.xe s
def e0v:HB X K W q [] []:=λ_ _ _ _ _ _ _ _ _ _ _ _ _ _ _ _ _ _ e _=>nomatch e
def YF{x:Str}{np hp:Pos}{b0:Stmt}{oU:List Stmt}{wh:ag->aj Bool}{g:GS}{Cc:ag}(hm:X.mg x=some (.ref Cc))(hw:∀C b,wh C=some b->exmOne K (.ref C) (.ref Cc)=some b)(hS:∀e,iP (X.dB e) (b0::oU) (tS K W0 q g))(rest:HB X K W q hs gs)(hg:Gl X x)(lq:(x == ("__debug__":Str))=false)(hK:X.K=K):
  HB X K W q (.ExceptHandler (some (.Name x np)) none (b0::oU) hp::hs) ((wh,g)::gs):=by
 subst hK;intro aa Z H s D e C dx k U S fr n I y f ok gk ee w;obtain⟨bb,q1,ee⟩:=cg.mp ee;dsimp only at q1 ee;refine wpAny_handleBy_cons (codeAny_handlers_test (AO (I.dB (e:=.ref e)) hg hm ?_ lq)) (by intro q;cases q)
 obtain⟨fH,uB,oe,vs,he,hc,hr⟩:=id f;have LT:Looks (model X.prog X.w) s.heap (typeOf (.ref e)) (.ref C):=by
  rw[<-hc];exact(Looks.ld he).andThen .now
 refine(exm_one I.jL LT (hw C bb q1)).here ?_;cases bb with
 |true=>
  obtain⟨r,e2,e3⟩:=cg.mp (show(g U S).bind L2.DI=some fr from ee);refine codeAny_handlers_suite (VQ (X:=X) f λh' ch kO lx f2=>?_)
  have I2:Inv X aa Z H { s with heap:=h',toks:=s.toks}:=I.left y lx kO;refine wpAny_mono (hS (.ref e) aa _ Z H D I2.dB ⟨k,U,S,r,ok,gk,e2,w.DI e3⟩) (λfl s2 q=>?_) λ_ _ z=>z.elim
  exact q.eC I.ok.hd
 |false=>exact rest aa Z H s D e C dx k U S fr n I y f ok gk ee w
theorem SP.dI{aa:List (ag×Obj)}{E:ai->aq->Prop}{D:Ends}{f:Flow}{s':aq}(h:SP (X.dC (X.pn++aa) E) [] D f s'):SP X aa D f s':=by
 cases f with
 |next=>obtain⟨Z',H',I,q⟩:=h;exact⟨Z',H',I.dI,q⟩
 |brk=>obtain⟨Z',H',I,q⟩:=h;exact⟨Z',H',I.dI,q⟩
 |cont=>obtain⟨Z',H',I,q⟩:=h;exact⟨Z',H',I.dI,q⟩
 |ret u=>obtain⟨v,Z',H',I,r,q⟩:=h;exact⟨v,Z',H',I.dI,r,q⟩
def e0w{body:List Stmt}{h0:ExceptHandler}{f:GS}{pos:Pos}(hb:∀(pn:List (ag×Obj)) (E:ai->aq->Prop) (W:XW),eJ (X.dC pn E) W->iP (X.dC pn E) body (tS K W q f))(hh:HB X K W q (h0::hs) gs)(lr:X.stack=X.env::X.outer)(hf:X.env.frame=some X.env.locals):
  PS X (.Try body (h0::hs) [] [] pos) (tS K W q (sX f gs)):=by
 intro aa s Z H D I t;obtain⟨k,U,S,fr,ok,gk,e,w⟩:=t;obtain⟨r1,e1,e⟩:=cg.mp e;refine wpAny_Try_except ?_;have hp:eJ (X.dC (X.pn++aa) λe s₁=>wpAny (model X.prog X.w) X.A (noteFrame e X.env) (λ_ s₂=>wpAny (model X.prog X.w) X.A (setFlight e none) (λ_ s₃=>wpAny (model X.prog X.w) X.A (handleBy e X.env (h0::hs)) (SP X aa D) X.xe s₃) X.xe s₂) X.xe s₁)
   (λC dx Z' H'=>∃k' U1 S1 fr,bO K k' H' S1/\fX K k' Z' U1/\vQ gs C U1 S1=some fr/\Done K W q D k' H' fr):=by
  intro oO Z' H1 s1 H' s' e C dx I1 c q;obtain⟨k',U2,S2,fr2,cA,gk2,e2,w2⟩:=q;have I':Inv X aa Z' H' s':=(c.inv I1).dI;have J:Inv X aa Z' H1 s1:=I1.dI;refine P8 (base:=X.base) (n:=s1.heap.objs.size) (by rw[<-lr];exact I.ok.frames) (by rw[<-lr];exact I'.stack) hf c.A9.lt (λa z=>I'.bh.fresh z) c.A9 λh' ch kO lx fl=>?_
  rw[<-lr] at lx;have I3:Inv X aa Z' H' { s' with heap:=h',toks:=s'.toks}:=I'.left J.Sg lx kO;exact hh aa Z' H' _ D e C dx k' U2 S2 fr2 _ I3 J.Sg fl cA gk2 e2 w2
 refine wpAny_mono (hb _ _ _ hp [] s Z H D I.dC ⟨k,U,S,r1,ok,gk,e1,?_⟩) (λff s1 z=>?_) λe s1 z=>z
 .cases r1 with
  |ex C l U1 S1=>exact λdx Z' k' H' u fj g' el=>⟨k',U1,S1,fr,fj,g',e,w.up u⟩
  |_=>cases e;exact w
 .have z:=z.dI;cases ff with
  |next=>
   obtain⟨Z',H',J,r⟩:=z;exact qu aa s1 Z' H' D J r
  |brk=>exact z
  |cont=>exact z
  |ret u=>exact z
end
end L2
namespace L2
open PySem PySem.Spec PyProof.Rows
variable{K:PySem.W.Frag}{es:List D}{j n:Nat}
abbrev a_(K:PySem.W.Frag)(H:Hp):List V->List D->Prop:=ah K ⟨H,[],[]⟩
def ah.He{H H1:Hp}{vs:List V}{ds:List D}(h:ah K ⟨H,[],[]⟩ vs ds)(s:av H H1):ah K ⟨H1,[],[]⟩ vs ds:=ah.mono (k:=⟨H,[],[]⟩) ⟨s,lE ([]:List ag)⟩ h
section
variable{X:Cx}
mutual
def aP:D->D->Bool
 |.lst xs,.lst ys=>dX xs ys
 |.tup xs,.tup ys=>dX xs ys
 |.aF,.aF=>true
 |.bl a,.bl b=>a == b
 |.bl a,.int b=>(if a then 1 else 0) == b
 |.int a,.bl b=>a == (if b then 1 else 0)
 |.int a,.int b=>a == b
 |.str a,.str b=>a == b
 |_,_=>false
def dX:List D->List D->Bool
 |[],[]=>true
 |x::xs,y::ys=>aP x y&&dX xs ys
 |_,_=>false
end
noncomputable def bX:Nat->D->Bool
 |n+1,.lst xs=>xs.all (bX n)
 |n+1,.tup xs=>xs.all (bX n)
 |_,.aF=>true
 |_,.bl _=>true
 |_,.int _=>true
 |_,.str _=>true
 |_,_=>false
theorem B8:∀{xs ys:List D},xs.length≠ys.length->dX xs ys=false
 |[],[],h=>bT rfl h
 |[],_::_,_=>by unfold dX;rfl
 |_::_,[],_=>by unfold dX;rfl
 |x::xs,y::ys,h=>by unfold dX;rw[B8 (by simpa using h),Bool.and_false]
theorem B9:∀{xs ys:List D} (n:Nat),xs.length=n->ys.length=n->dX xs ys=(List.range n).all λj=>aP (xs.getD j .aF) (ys.getD j .aF)
 |[],[],0,_,_=>by unfold dX;rfl
 |x::xs,y::ys,n+1,h1,h2=>by
  unfold dX;rw[B9 n (by simpa using h1) (by simpa using h2),List.range_succ_eq_map,jR,xY]
  rfl
 |[],_,_+1,h,_=>by simp at h
 |_::_,[],_+1,_,h=>by simp at h
 |_::_,_,0,h,_=>by simp at h
 |[],_::_,0,_,h=>by simp at h
variable{aa:List (ag×Obj)}{Z:St}{H:Hp}{s:aq}
def wu{F:Hp}{ws:List V}(r:a_ K F ws es){aE:List ai}(rv:Vals ws aE)(h:j<aE.toArray.size):∃x,RelV x aE.toArray[j]/\a_ K F [x] [es.getD j .aF]/\j<es.length:=by
 obtain⟨x,hx,rx⟩:=rv.at h;have hl:=r.length;have hj:j<es.length:=by
  have:=(eS.mp hx).1;lia
 obtain⟨y,hy,ry⟩:=r.get (i:=j) (d:=es[j]) (by simp[hj])
 rw[hx] at hy;cases hy;refine⟨x,rx,?_,hj⟩;rw[show es.getD j .aF=es[j] by simp[hj]]
 exact ry
def wd{p:D->Bool}(h:es.all p=true)(hj:j<es.length):p (es.getD j .aF)=true:=by
 simp_all
inductive yg (K:PySem.W.Frag) (H:Hp) (s:aq):ai->D->Prop
 |none:yg K H s .none .aF
 |bool (b:Bool):yg K H s (.bool b) (.bl b)
 |int (i:Int) (t:Tok):yg K H s (.int i t) (.int i)
 |str (x:Str) (t:Tok):yg K H s (.str x t) (.str x)
 |list {a:ag} {aE:List ai} {ws:List V} {es:List D}:s.heap.IsList a aE.toArray->Vals ws aE->a_ K H ws es->yg K H s (.ref a) (.lst es)
 |tuple {a:ag} {aE:List ai} {ws:List V} {es:List D}:s.heap.IsTuple a aE.toArray->Vals ws aE->a_ K H ws es->yg K H s (.ref a) (.tup es)
def FT(I:Inv X aa Z H s){x:V}{u:ai}{d:D}(r:a_ X.K H [x] [d])(ru:RelV x u)(ok:bX n d=true):yg X.K H s u d:=by
 cases r with
 |lst q i _=>
  cases ru;obtain⟨aE,rv,pl,_⟩:=I.list q;exact .list pl.isList rv i
 |tup q i _=>
  cases ru;obtain⟨aE,rv,pl,_⟩:=I.tuple q;exact .tuple pl rv i
 |az _ _ _ _ _=>cases n <;> cases ok
 |ref _ _=>cases n <;> cases ok
 |flat q _=>
  cases d with
  |aF=>cases q;cases ru;exact .none
  |bl b=>cases q;cases ru;exact .bool b
  |int i=>cases q;obtain⟨t,rfl⟩:=ru;exact .int i t
  |str z=>cases q;obtain⟨t,rfl⟩:=ru;exact .str z t
  |ty _=>cases n <;> cases ok
  |lst _=>cases q
  |tup _=>cases q
  |az _=>cases q
  |ref _=>cases q
def yA(h:bX n (.lst es)=true):∃m,n=m+1/\es.all (bX m)=true:=by
 cases n with
 |zero=>cases h
 |succ n=>exact⟨n,rfl,h⟩
def yB(h:bX n (.tup es)=true):∃m,n=m+1/\es.all (bX m)=true:=by
 cases n with
 |zero=>cases h
 |succ n=>exact⟨n,rfl,h⟩
def NF(h:∀d∈es,aP d d=true):dX es es=true:=by
 induction es with
 |nil=>unfold dX;rfl
 |cons d es ih=>unfold dX;rw[h d (by simp),ih λd m=>h d (by simp[m])];rfl
def uv:∀(n:Nat) {d:D},bX n d=true->aP d d=true:=by
 intro n
 induction n with
 |zero=>intro d h;cases d <;> first|(cases h;done)|simp[aP]
 |succ n ih=>
  intro d h;cases d with
  |lst es=>simp only[aP];exact NF λd m=>ih (m_.mp h d m)
  |tup es=>simp only[aP];exact NF λd m=>ih (m_.mp h d m)
  |az _=>cases h
  |ref _=>cases h
  |ty _=>cases h
  |_=>simp[aP]
def SU{xs ys:List D}(hl:xs.length=ys.length)(h:∀j,j<xs.length->xs.getD j .aF=ys.getD j .aF):xs=ys:=by
 apply List.ext_getElem hl;intro j h1 h2;have:=h j h1;simpa[h1,h2] using this
noncomputable def LU:V->D
 |.bl b=>.bl b
 |.int i=>.int i
 |.str x=>.str x
 |.ty n=>.ty n
 |_=>.aF
def NG{d:D}{v:V}(h:wt d=some v):d=LU v:=by cases d <;> cases h <;> rfl
def AL{d:D}{a:ag}(h:wt d=some (.ref a)):False:=by cases d <;> cases h
def FD(I:Inv X aa Z H s):∀(n m:Nat) {x:V} {d e:D},a_ X.K H [x] [d]->a_ X.K H [x] [e]->bX n d=true->bX m e=true->d=e:=by
 intro n
 induction n using Nat.strongRecOn with
 |ind n ih=>
 intro m x d e rd re od oe;have go:∀{ws:List V} {es lQ:List D} {n' m':Nat},n'<n->a_ X.K H ws es->a_ X.K H ws lQ->es.all (bX n')=true->lQ.all (bX m')=true->es=lQ:=by
  intro ws es lQ n' m' hn r1 r2 o1 o2;have l1:=r1.length;have l2:=r2.length;refine SU (by lia) λj hj=>?_
  have GL:j<lQ.length:=by lia
  obtain⟨v,g1,g2⟩:=r1.get (i:=j) (d:=es[j]) (by simp[hj])
  obtain⟨v',p1,p2⟩:=r2.get (i:=j) (d:=lQ[j]) (by simp[GL])
  rw[g1] at p1;cases p1;rw[show es.getD j .aF=es[j] by simp[hj],show lQ.getD j .aF=lQ[j] by simp[GL]]
  exact ih n' hn m' g2 p2 (m_.mp o1 _ (Hh hj)) (m_.mp o2 _ (Hh GL))
 cases rd with
 |flat q _=>
  cases re with
  |flat q' _=>
   rw[NG q,NG q']
  |lst _ _ _=>exact(AL q).elim
  |tup _ _ _=>exact(AL q).elim
  |az _ _ _ _ _=>exact(AL q).elim
  |ref _ _=>exact(AL q).elim
 |lst q i _=>
  obtain⟨n',rfl,tP⟩:=yA od;cases re with
  |flat q' _=>exact(AL q').elim
  |lst q' i' _=>
   obtain⟨m',rfl,tQ⟩:=yA oe;cases I.kA q q';rw[go (v3 _) i i' tP tQ]
  |tup q' i' _=>
   obtain⟨_,_,p1,_⟩:=I.list q;obtain⟨_,_,p2,_⟩:=I.tuple q';exact bT rfl (SeqAt.ne_of_list_tuple p1.isList p2)
  |az _ _ _ _ _=>cases m <;> cases oe
  |ref _ _=>cases m <;> cases oe
 |tup q i _=>
  obtain⟨n',rfl,tP⟩:=yB od;cases re with
  |flat q' _=>exact(AL q').elim
  |tup q' i' _=>
   obtain⟨m',rfl,tQ⟩:=yB oe;cases I.l7 q q';rw[go (v3 _) i i' tP tQ]
  |lst q' i' _=>
   obtain⟨_,_,p1,_⟩:=I.list q';obtain⟨_,_,p2,_⟩:=I.tuple q;exact bT rfl (SeqAt.ne_of_list_tuple p1.isList p2)
  |az _ _ _ _ _=>cases m <;> cases oe
  |ref _ _=>cases m <;> cases oe
 |az _ _ _ _ _=>cases n <;> cases od
 |ref _ _=>cases n <;> cases od
def CA(I:Inv X aa Z H s):∀(n m:Nat) {A:cF} {x y:V} {u v:ai} {d e:D},a_ X.K H [x] [d]->a_ X.K H [y] [e]->bX n d=true->bX m e=true->RelV x u->RelV y v->A.units+n<cLine->
  SeqAt.EqAt A s u v (aP d e)/\SeqAt.RcAt A s u v (aP d e):=by
 intro n
 induction n using Nat.strongRecOn with
 |ind n ih=>
 intro m A x y u v d e rd re od oe ru rv hu;have cz:A.units<cLine:=by lia
 have s1:=FT I rd ru od;have s2:=FT I re rv oe;cases s1 with
 |none=>
  cases s2 with
  |none=>
   exact⟨SeqAt.EqAt.same _,SeqAt.RcAt.none_none⟩
  |bool a2=>
   simp only[aP];exact⟨SeqAt.EqAt.none_bool a2,SeqAt.RcAt.none_bool a2⟩
  |int a2 t2=>
   simp only[aP];exact⟨SeqAt.EqAt.none_int a2 t2,SeqAt.RcAt.none_int a2 t2⟩
  |str a2 t2=>
   simp only[aP];exact⟨SeqAt.EqAt.none_str a2 t2,SeqAt.RcAt.none_str a2 t2⟩
  |list l2 v2 r2=>
   simp only[aP];exact⟨SeqAt.EqAt.none_list l2 cz,SeqAt.RcAt.none_list l2 cz⟩
  |tuple l2 v2 r2=>
   simp only[aP];exact⟨SeqAt.EqAt.none_tuple l2 cz,SeqAt.RcAt.none_tuple l2 cz⟩
 |bool a1=>
  cases s2 with
  |none=>
   simp only[aP];exact⟨SeqAt.EqAt.bool_none a1,SeqAt.RcAt.bool_none a1⟩
  |bool a2=>
   simp only[aP];exact⟨SeqAt.EqAt.bool_bool a1 a2,SeqAt.RcAt.bool_bool a1 a2⟩
  |int a2 t2=>
   simp only[aP];exact⟨SeqAt.EqAt.bool_int a1 a2 t2,SeqAt.RcAt.bool_int a1 a2 t2⟩
  |str a2 t2=>
   simp only[aP];exact⟨SeqAt.EqAt.bool_str a1 a2 t2,SeqAt.RcAt.bool_str a1 a2 t2⟩
  |list l2 v2 r2=>
   simp only[aP];exact⟨SeqAt.EqAt.bool_list a1 l2 cz,SeqAt.RcAt.bool_list a1 l2 cz⟩
  |tuple l2 v2 r2=>
   simp only[aP];exact⟨SeqAt.EqAt.bool_tuple a1 l2 cz,SeqAt.RcAt.bool_tuple a1 l2 cz⟩
 |int a1 t1=>
  cases s2 with
  |none=>
   simp only[aP];exact⟨SeqAt.EqAt.int_none a1 t1,SeqAt.RcAt.int_none a1 t1⟩
  |bool a2=>
   simp only[aP];exact⟨SeqAt.EqAt.int_bool a1 t1 a2,SeqAt.RcAt.int_bool a1 t1 a2⟩
  |int a2 t2=>
   simp only[aP];exact⟨SeqAt.EqAt.int_int a1 t1 a2 t2,SeqAt.RcAt.int_int a1 t1 a2 t2⟩
  |str a2 t2=>
   simp only[aP];exact⟨SeqAt.EqAt.int_str a1 t1 a2 t2,SeqAt.RcAt.int_str a1 t1 a2 t2⟩
  |list l2 v2 r2=>
   simp only[aP];exact⟨SeqAt.EqAt.int_list a1 t1 l2 cz,SeqAt.RcAt.int_list a1 t1 l2 cz⟩
  |tuple l2 v2 r2=>
   simp only[aP];exact⟨SeqAt.EqAt.int_tuple a1 t1 l2 cz,SeqAt.RcAt.int_tuple a1 t1 l2 cz⟩
 |str a1 t1=>
  cases s2 with
  |none=>
   simp only[aP];exact⟨SeqAt.EqAt.str_none a1 t1,SeqAt.RcAt.str_none a1 t1⟩
  |bool a2=>
   simp only[aP];exact⟨SeqAt.EqAt.str_bool a1 t1 a2,SeqAt.RcAt.str_bool a1 t1 a2⟩
  |int a2 t2=>
   simp only[aP];exact⟨SeqAt.EqAt.str_int a1 t1 a2 t2,SeqAt.RcAt.str_int a1 t1 a2 t2⟩
  |str a2 t2=>
   simp only[aP];exact⟨SeqAt.EqAt.str_str a1 t1 a2 t2,SeqAt.RcAt.str_str a1 t1 a2 t2⟩
  |list l2 v2 r2=>
   simp only[aP];exact⟨SeqAt.EqAt.str_list a1 t1 l2 cz,SeqAt.RcAt.str_list a1 t1 l2 cz⟩
  |tuple l2 v2 r2=>
   simp only[aP];exact⟨SeqAt.EqAt.str_tuple a1 t1 l2 cz,SeqAt.RcAt.str_tuple a1 t1 l2 cz⟩
 |list l1 v1 r1=>
  cases s2 with
  |none=>
   simp only[aP];exact⟨SeqAt.EqAt.list_none l1 cz,SeqAt.RcAt.list_none l1 cz⟩
  |bool a2=>
   simp only[aP];exact⟨SeqAt.EqAt.list_bool a2 l1 cz,SeqAt.RcAt.list_bool a2 l1 cz⟩
  |int a2 t2=>
   simp only[aP];exact⟨SeqAt.EqAt.list_int a2 t2 l1 cz,SeqAt.RcAt.list_int a2 t2 l1 cz⟩
  |str a2 t2=>
   simp only[aP];exact⟨SeqAt.EqAt.list_str a2 t2 l1 cz,SeqAt.RcAt.list_str a2 t2 l1 cz⟩
  |list l2 v2 r2=>
   rename_i a aE ws es b iG Ej lQ
   obtain⟨n',rfl,tP⟩:=yA od;obtain⟨m',rfl,tQ⟩:=yA oe;have la:=v1.length;have lb:=v2.length;have KS:=r1.length;have KW:=r2.length;have rc:SeqAt.RcAt A s (.ref a) (.ref b) (aP (.lst es) (.lst lQ)):=by
    simp only[aP];by_cases hl:es.length=lQ.length
    .rw[B9 aE.toArray.size (by simp only[de];lia) (by simp only[de];lia)]
     refine SeqAt.RcAt.lists (A:=A) l1 l2 (by simp only[de];lia) cz λj h1 h2=>?_
     obtain⟨x1,q1,q2,q3⟩:=wu r1 v1 h1;obtain⟨y1,p1,p2,p3⟩:=wu r2 v2 h2;exact(ih n' (v3 _) m' q2 p2 (wd tP q3) (wd tQ p3) q1 p1 (by show A.units+1+n'<cLine;lia)).1
    .rw[B8 hl];exact SeqAt.RcAt.lists_lengths (A:=A) l1 l2 (by simp only[de,bne_iff_ne,ne_eq];lia) cz
   refine⟨?_,rc⟩;by_cases C8:a=b
   .subst C8;have JX:x=y:=RelV.inj ru rv;subst JX;have e2:=FD I _ _ rd re od oe;cases e2;rw[uv _ od];exact SeqAt.EqAt.same _
   .exact SeqAt.EqAt.of_refs C8 rc
  |tuple l2 v2 r2=>
   simp only[aP];exact⟨SeqAt.EqAt.list_tuple l1 l2 cz,SeqAt.RcAt.list_tuple l1 l2 cz⟩
 |tuple l1 v1 r1=>
  cases s2 with
  |none=>
   simp only[aP];exact⟨SeqAt.EqAt.tuple_none l1 cz,SeqAt.RcAt.tuple_none l1 cz⟩
  |bool a2=>
   simp only[aP];exact⟨SeqAt.EqAt.tuple_bool a2 l1 cz,SeqAt.RcAt.tuple_bool a2 l1 cz⟩
  |int a2 t2=>
   simp only[aP];exact⟨SeqAt.EqAt.tuple_int a2 t2 l1 cz,SeqAt.RcAt.tuple_int a2 t2 l1 cz⟩
  |str a2 t2=>
   simp only[aP];exact⟨SeqAt.EqAt.tuple_str a2 t2 l1 cz,SeqAt.RcAt.tuple_str a2 t2 l1 cz⟩
  |list l2 v2 r2=>
   simp only[aP];exact⟨SeqAt.EqAt.tuple_list l1 l2 cz,SeqAt.RcAt.tuple_list l1 l2 cz⟩
  |tuple l2 v2 r2=>
   rename_i a aE ws es b iG Ej lQ
   obtain⟨n',rfl,tP⟩:=yB od;obtain⟨m',rfl,tQ⟩:=yB oe;have la:=v1.length;have lb:=v2.length;have KS:=r1.length;have KW:=r2.length;have rc:SeqAt.RcAt A s (.ref a) (.ref b) (aP (.tup es) (.tup lQ)):=by
    have z:=SeqAt.RcAt.tuples (A:=A) (e:=λj=>aP (es.getD j .aF) (lQ.getD j .aF)) l1 l2 cz λj h1 h2=>by
     obtain⟨x1,q1,q2,q3⟩:=wu r1 v1 h1;obtain⟨y1,p1,p2,p3⟩:=wu r2 v2 h2;exact(ih n' (v3 _) m' q2 p2 (wd tP q3) (wd tQ p3) q1 p1 (by show A.units+1+n'<cLine;lia)).1
    simp only[aP];by_cases hl:es.length=lQ.length
    .rw[B9 aE.toArray.size (by simp only[de];lia) (by simp only[de];lia)]
     have e1:iG.toArray.size=aE.toArray.size:=by simp only[de];lia
     rw[e1,Nat.min_self,jD,Bool.and_true] at z;exact z
    .rw[B8 hl];have e1:(aE.toArray.size == iG.toArray.size)=false:=by rw[nc];simp only[de];lia
     rw[e1,Bool.and_false] at z;exact z
   refine⟨?_,rc⟩;by_cases C8:a=b
   .subst C8;have JX:x=y:=RelV.inj ru rv;subst JX;have e2:=FD I _ _ rd re od oe;cases e2;rw[uv _ od];exact SeqAt.EqAt.same _
   .exact SeqAt.EqAt.of_refs C8 rc
end
mutual
theorem Jd:∀k j:TK,aP k.d j.d=decide (k=j)
 |.inl a,.inl b=>by simp only[TK.d,aP];rw[Ae];simp
 |.inr a,.inr b=>by simp only[TK.d,aP];rw[Ae];simp
 |.tp l,.tp m=>by simp only[TK.d,aP];rw[n9 l m,Ae];simp
 |.inl _,.inr _=>by simp[TK.d,aP]
 |.inl _,.tp _=>by simp[TK.d,aP]
 |.inr _,.inl _=>by simp[TK.d,aP]
 |.inr _,.tp _=>by simp[TK.d,aP]
 |.tp _,.inl _=>by simp[TK.d,aP]
 |.tp _,.inr _=>by simp[TK.d,aP]
 |.aF,.aF=>by simp[TK.d,aP]
 |.aF,.inl _=>by simp[TK.d,aP]
 |.aF,.inr _=>by simp[TK.d,aP]
 |.aF,.tp _=>by simp[TK.d,aP]
 |.inl _,.aF=>by simp[TK.d,aP]
 |.inr _,.aF=>by simp[TK.d,aP]
 |.tp _,.aF=>by simp[TK.d,aP]
theorem n9:∀l m:List TK,dX (TK.dl l) (TK.dl m)=decide (l=m)
 |[],[]=>by simp[TK.dl,dX]
 |a::l,b::m=>by simp only[TK.dl,dX];rw[Jd a b,n9 l m,Ae];simp
 |[],_::_=>by simp[TK.dl,dX]
 |_::_,[]=>by simp[TK.dl,dX]
end
theorem FU:∀l:List TK,TK.dl l=l.map TK.d
 |[]=>by simp[TK.dl]
 |a::l=>by simp[TK.dl,FU l]
theorem AQ:∀(n:Nat) {k:TK},k.ok n=true->bX n k.d=true
 |n,.inl i,_=>by cases n <;> simp[TK.d,bX]
 |n,.inr i,_=>by cases n <;> simp[TK.d,bX]
 |n,.aF,_=>by cases n <;> simp[TK.d,bX]
 |0,.tp l,h=>by simp[TK.ok] at h
 |n+1,.tp l,h=>by
  simp only[TK.d,bX,FU,xY];refine m_.mpr λa m=>?_
  exact AQ n (m_.mp (by simpa only[TK.ok] using h) a m)
def UJ{α:Type}{M:Model}{A:cF}{E:ai->aq->Prop}{s:aq}{c:Prop}[Decidable c]{a b:Sem α}{Q:α->aq->Prop}(h1:wpAny M A a Q E s)(h2:wpAny M A b Q E s):wpAny M A (if c then a else b) Q E s:=by
 split
 .exact h1
 .exact h2
theorem MJ(w:ck):∀l m:List TK,TK.dA w (l++m)=TK.dA w l++TK.dA w m
 |[],m=>by simp[TK.dA]
 |a::l,m=>by simp[TK.dA,MJ w l m]
section
variable{X:Cx}{aa:List (ag×Obj)}{Z:St}{H:Hp}
def O4{A:cF}{E:ai->aq->Prop}{s:aq}{y:V}{u:ai}{i:Int}{Q:Int->aq->Prop}(r:a_ X.K H [y] [TK.d (.inl i)])(ru:RelV y u)(h:∀t,Q (TK.hash X.w (.inl i)) { s with toks:=t}):wpAny (model X.prog X.w) A (pyHash u) Q E s:=by
 simp only[TK.d] at r;cases r with
 |flat q _=>cases q;obtain⟨t,rfl⟩:=ru;exact wpAny_pyHash_int (by simpa only[TK.hash] using h _)
def O5{A:cF}{E:ai->aq->Prop}{s:aq}{y:V}{u:ai}{i:Str}{Q:Int->aq->Prop}(r:a_ X.K H [y] [TK.d (.inr i)])(ru:RelV y u)(h:∀t,Q (TK.hash X.w (.inr i)) { s with toks:=t}):wpAny (model X.prog X.w) A (pyHash u) Q E s:=by
 simp only[TK.d] at r;cases r with
 |flat q _=>cases q;obtain⟨t,rfl⟩:=ru;exact wpAny_pyHash_str (by simpa only[TK.hash] using h _)
theorem O6{A:cF}{E:ai->aq->Prop}{s:aq}{y:V}{u:ai}{Q:Int->aq->Prop}(r:a_ X.K H [y] [TK.d .aF])(ru:RelV y u)(h:∀t,Q (TK.hash X.w .aF) { s with toks:=t}):wpAny (model X.prog X.w) A (pyHash u) Q E s:=by
 simp only[TK.d] at r;cases r with
 |flat q _=>
  cases q;cases ru;have hT:s.TypeIs .none "NoneType":=rfl;unfold pyHash;have hv:[Value.none].any Value.onHeap=false:=rfl;refine ay ?_;rw[cRoomFor,aJ (by rw[hv];exact oW)];refine aS ?_
  refine ay (wpAny_specialOf hT F.slot_NoneType_hash.lookup ?_);show wpAny _ _ (if(some (Value.builtin "NoneType.__hash__") == some Value.none)=true then _ else _) Q E s
  rw[aJ (by rw[beq_builtin_none];exact oW)]
  refine ay (wpAny_specialOf hT F.slot_NoneType_hash.lookup ?_);show wpAny _ _ (callSpecialIfBoundUnlessNone? .none "__hash__" _ >>= _) Q E s;refine ay (wpAny_callSpecialIfBoundUnlessNone?_slot hT F.slot_NoneType_hash (wpAny_call_entry F.slot_NoneType_hash hT F.entry_NoneType_hash (show wpAny _ _ (do ret (<-mkInt 4238894112)) _ _ s from wpAny_ret_mkInt ?_) (F.args_NoneType_hash_1 _)))
  refine aS ?_;have e:(if((4238894112:Int) == -1)=true then(-2:Int) else 4238894112)=4238894112:=by decide
  rw[e];simpa only[TK.hash] using h _
theorem Ob:∀(n:Nat) {A:cF} {E:ai->aq->Prop} {s:aq} {y:V} {u:ai} {k:TK} {Q:Int->aq->Prop},Inv X aa Z H s->a_ X.K H [y] [k.d]->k.ok n=true->RelV y u->A.units+n<cLine->
  (∀t,Q (k.hash X.w) { s with toks:=t})->wpAny (model X.prog X.w) A (pyHash u) Q E s:=by
 intro n
 induction n with
 |zero=>
  intro A E s y u k Q I r ok ru hu h;cases k with
  |tp l=>simp[TK.ok] at ok
  |inl i=>exact O4 r ru h
  |inr x=>exact O5 r ru h
  |aF=>exact O6 r ru h
 |succ n ih=>
  intro A E s y u k Q I r ok ru hu h;cases k with
  |inl i=>exact O4 r ru h
  |inr x=>exact O5 r ru h
  |aF=>exact O6 r ru h
  |tp l=>
   simp only[TK.d] at r;cases r with
   |flat q _=>cases q
   |@tup a ws _ _ _ q i _=>
    cases ru;obtain⟨aE,rv,pl,_⟩:=I.tuple q;have hT:s.TypeIs (.ref a) "tuple":=pl.typeIs;obtain⟨o,g1,g2,nn,g3⟩:=pl;have ok:l.all (TK.ok n)=true:=by simpa only[TK.ok] using ok
    show wpAny _ _ (pyHashByItsType (.ref a)) Q E s;unfold pyHashByItsType;refine ay (wpAny_cRoomFor_or (.inr (by lia)) (ay (wpAny_specialOf hT F.slot_tuple_hash.lookup ?_)))
    dsimp only;rw[aJ (by rw[beq_builtin_none];exact oW)]
    refine ay (wpAny_specialOf hT F.slot_tuple_hash.lookup (ay ?_));refine wpAny_callSpecialIfBoundUnlessNone?_slot hT F.slot_tuple_hash (wpAny_call_entry F.slot_tuple_hash hT F.entry_tuple_hash ?_ (F.args_tuple_hash_1 _));show wpAny _ _ (Builtin.Tuple.tupleItemsOf (.ref a) >>= λz=>_) _ _ s
    refine ay (wpAny_tupleItemsOf g1 g3 (ay ?_));rw[<-Array.forIn_toList];refine wpAny_forIn_list _ (λrest (b:Array Int) s'=>∃done left wl t,l=done++left/\a_ X.K H wl (TK.dl left)/\Vals wl rest/\b.toList=TK.dA X.w done/\s'={ s with toks:=t}) _ ?_ ?_ _ _ ⟨[],l,ws,s.toks,rfl,i,rv,by simp[TK.dA],rfl⟩
    .rintro x rest b s' ⟨done,left,wl,t,e,r',v',hb,rfl⟩;cases v' with
     |@cons w1 _ wl _ Lu v'=>
      cases left with
      |nil=>have:=r'.length;simp[TK.dl] at this
      |cons k1 left=>
       simp only[TK.dl] at r';have bw:k1.ok n=true:=m_.mp ok k1 (by rw[e];simp)
       have fin:∀t',∃wH xq Se Bo,l=wH++xq/\a_ X.K H Se (TK.dl xq)/\Vals Se rest/\(b.push (k1.hash X.w)).toList=TK.dA X.w wH/\({ s with toks:=t'}:aq)={ s with toks:=Bo}:=
        λt'=>⟨done++[k1],left,wl,t',by simp[e],r'.inv.2,v',by rw[MJ,<-hb];simp[TK.dA],rfl⟩
       exact ay (ih (I.tok t) r'.inv.1 bw Lu (by show A.units+1+n<cLine;lia) λt'=>by
        first
         |exact aS (fin t')
         |exact ay (aS (aS (fin t'))))
    .rintro b s' ⟨done,left,wl,t,e,r',v',hb,rfl⟩;cases v';have hl:left=[]:=by
      cases left with
      |nil=>rfl
      |cons _ _=>have:=r'.length;simp[TK.dl] at this
     subst hl;rw[l9] at e;subst e;show wpAny _ _ (retInt (Builtin.Tuple.tupleHashOf b.toList)) _ _ _;rw[hb];refine wpAny_ret_mkInt ?_;have h':∀t,Q (reduceHash (Builtin.Tuple.tupleHashOf (TK.dA X.w l))) { s with toks:=t}:=λt=>by simpa only[TK.hash] using h t
     unfold reduceHash at h';show wpAny _ _ (if(decide (-(2:Int)^63<=Builtin.Tuple.tupleHashOf (TK.dA X.w l))&&decide (Builtin.Tuple.tupleHashOf (TK.dA X.w l)<2^63))=true then _ else _) Q E _
     split
     .rename_i hc
      rw[aN hc] at h';exact aS (h' _)
     .rename_i hc
      rw[aJ hc] at h';exact ay (wpAny_rule (aS (h' _)))
theorem NH:∀(n:Nat) {A:cF} {E:ai->aq->Prop} {s:aq} {y:V} {u:ai} {k:TK} {Q:Bool->aq->Prop},Inv X aa Z H s->a_ X.K H [y] [k.d]->k.ok n=true->RelV y u->Q true s->
  wpAny (model X.prog X.w) A (eqIsQuiet n u) Q E s:=by
 intro n
 induction n with
 |zero=>
  intro A E s y u k Q I r ok ru h;cases k with
  |tp l=>simp[TK.ok] at ok
  |inl i=>simp only[TK.d] at r;cases r with|flat q _=>cases q;obtain⟨t,rfl⟩:=ru;rw[eqIsQuiet_byValue 0 rfl];exact aS h
  |inr i=>simp only[TK.d] at r;cases r with|flat q _=>cases q;obtain⟨t,rfl⟩:=ru;rw[eqIsQuiet_byValue 0 rfl];exact aS h
  |aF=>simp only[TK.d] at r;cases r with|flat q _=>cases q;cases ru;rw[eqIsQuiet_byValue 0 rfl];exact aS h
 |succ n ih=>
  intro A E s y u k Q I r ok ru h;cases k with
  |inl i=>simp only[TK.d] at r;cases r with|flat q _=>cases q;obtain⟨t,rfl⟩:=ru;rw[eqIsQuiet_byValue (n+1) rfl];exact aS h
  |inr i=>simp only[TK.d] at r;cases r with|flat q _=>cases q;obtain⟨t,rfl⟩:=ru;rw[eqIsQuiet_byValue (n+1) rfl];exact aS h
  |aF=>simp only[TK.d] at r;cases r with|flat q _=>cases q;cases ru;rw[eqIsQuiet_byValue (n+1) rfl];exact aS h
  |tp l=>
   simp only[TK.d] at r;cases r with
   |flat q _=>cases q
   |@tup a ws _ _ _ q i _=>
    cases ru;obtain⟨aE,rv,pl,_⟩:=I.tuple q;have hT:s.TypeIs (.ref a) "tuple":=pl.typeIs;obtain⟨o,g1,g2,nn,g3⟩:=pl;have ok:l.all (TK.ok n)=true:=by simpa only[TK.ok] using ok
    unfold eqIsQuiet;refine ay (wpAny_specialOf hT F.slot_tuple_eq.lookup (ay (wpAny_isInstance hT isSubtype_tuple_tuple ?_)));simp only[kI,rR,l_];refine ay (wpAny_seqItems g1 g3 (ay ?_));show wpAny _ _ (forIn aE.toArray _ _) _ _ s;rw[<-Array.forIn_toList];refine wpAny_forIn_list _ (λrest r s'=>r.1=none/\s'=s/\∃left wl,a_ X.K H wl (TK.dl left)/\Vals wl rest/\∀x∈left,x.ok n=true) _ ?_ ?_ _ _ ⟨rfl,rfl,l,ws,i,rv,λx m=>m_.mp ok x m⟩
    .rintro v rest r s' ⟨hr,rfl,left,wl,r',v',hk⟩;cases v' with
     |@cons w1 _ wl _ Lu v'=>
      cases left with
      |nil=>have:=r'.length;simp[TK.dl] at this
      |cons k1 left=>
       simp only[TK.dl] at r';refine ay (ih I r'.inv.1 (hk k1 (by simp)) Lu ?_)
       simp only[kI,rR,l_];exact aS ⟨rfl,rfl,left,wl,r'.inv.2,v',λx m=>hk x (by simp[m])⟩
    .rintro⟨r1,r2⟩ s' ⟨hr,rfl,_⟩;cases(show r1=none from hr);exact aS h
structure BA (X:Cx) (A:cF) (E:ai->aq->Prop) (s:aq) (xs:Array DictEntry) (es:List (TK×V×V)) (k:TK) (u:ai):Prop where
 ent:∀(j:Nat) (x:DictEntry),xs[j]?=some x->∃e,es[j]?=some e/\iJ X.w e x/\(∀(R:Bool->aq->Prop),R (decide (e.1=k)) s->wpAny (model X.prog X.w) A (eqBool x.key u) R E s)/\
  ∀(R:Bool->aq->Prop),R true s->wpAny (model X.prog X.w) A (eqIsQuiet 8 x.key) R E s
 ents:∀(j:Nat) (e:TK×V×V),es[j]?=some e->∃x:DictEntry,xs[j]?=some x/\iJ X.w e x
 uniq:∀(i j:Nat) (e f:TK×V×V),es[i]?=some e->es[j]?=some f->e.1=k->f.1=k->i=j
def e0x{A:cF}{E:ai->aq->Prop}{s:aq}{xs:Array DictEntry}{es:List (TK×V×V)}{k:TK}{y:V}{u:ai}(I:Inv X aa Z H s)(g3:Paired (iJ X.w) es xs.toList)(g4:(es.map (·.1)).Nodup)
  (rk:a_ X.K H (es.map (·.2.1)) (es.map (·.1.d))) (ry:a_ X.K H [y] [k.d]) (ok:k.ok 8=true) (ru:RelV y u) (hu:A.units+8<cLine):BA X A E s xs es k u where
 ent:=λj x hx=>by
  obtain⟨e,e1,e2⟩:=E6 j g3 (by rw[xX];exact hx)
  obtain⟨v,v1,v2⟩:=rk.get (i:=j) (d:=e.1.d) (by rw[gq,e1];rfl)
  rw[gq,e1] at v1;cases v1;refine⟨e,e1,e2,λR hR=>?_,λR hR=>NH 8 I v2 e2.2.2.2 e2.2.1 hR⟩
  refine(CA I 8 8 v2 ry (AQ 8 e2.2.2.2) (AQ 8 ok) e2.2.1 ru hu).1 X.prog X.w E R ?_;rw[Jd];exact hR
 ents:=λj e he=>by
  obtain⟨x,x1,x2⟩:=B6 j g3 he;exact⟨x,by rw[<-xX];exact x1,x2⟩
 uniq:=λi j e f he hf ek fk=>by
  have hi:(es.map (·.1))[i]?=some k:=by rw[gq,he,<-ek];rfl
  have hj:(es.map (·.1))[j]?=some k:=by rw[gq,hf,<-fk];rfl
  exact(List.getElem?_inj (eS.mp hi).1 g4).mp (hi.trans hj.symm)
section
variable{A:cF}{E:ai->aq->Prop}{s:aq}{d:ag}{o:Obj}{xs:Array DictEntry}{ep:Nat}{es:List (TK×V×V)}{k:TK}{u:ai}{Q:aj Nat->aq->Prop}
noncomputable abbrev oP(xs:Array DictEntry)(h:Int):List Nat:=placesWithHash xs.size (λi=>xs[i]?.map (·.hash)) h
def mY{h:Int}{i:Nat}:i∈oP xs h↔∃x,xs[i]?=some x/\x.hash=h:=by
 unfold oP placesWithHash;rw[qC,uI];constructor
 .rintro⟨h1,h2⟩;refine⟨xs[i],uJ h1,?_⟩;dsimp only at h2;rw[uJ h1] at h2;simpa using h2
 .rintro⟨x,h1,h2⟩;refine⟨(Bu.mp h1).1,?_⟩;dsimp only;rw[h1,Option.map_some,h2];simp
def UK{h:Int}:(oP xs h).Nodup:=List.Nodup.sublist Hk List.nodup_range
def BA.oP(D:BA X A E s xs es k u){j:Nat}{e:TK×V×V}(he:es[j]?=some e)(ek:e.1=k):j∈oP xs (k.hash X.w):=by
 obtain⟨x,x1,x2⟩:=D.ents j e he;exact mY.mpr ⟨x,x1,by rw[x2.1,ek]⟩
def UL(D:BA X A E s xs es k u)(g1:s.heap.get? d=some o)(g2:o.data=.dict xs ep)
  (q0:(∀(j:Nat) (e:TK×V×V),es[j]?=some e->e.1≠k)->Q none s) (q1:∀(j:Nat) (e:TK×V×V),es[j]?=some e->e.1=k->Q (some j) s) :
  wpAny (model X.prog X.w) A (dictWalkPlain d u (k.hash X.w) xs (oP xs (k.hash X.w))) Q E s:=by
 unfold dictWalkPlain;refine ay (wpAny_forIn_list _ (λrest b s'=>s'=s/\b=(none,())/\∃done,oP xs (k.hash X.w)=done++rest/\∀j e,j∈done->es[j]?=some e->e.1≠k) _ ?_ ?_ _ _ ⟨rfl,rfl,[],rfl,λ_ _ m=>by cases m⟩)
 .rintro i rest b s' ⟨rfl,rfl,done,hd,uC⟩;obtain⟨x,x1,x2⟩:=mY.mp (show i∈oP xs (k.hash X.w) by rw[hd];simp)
  obtain⟨e,e1,e2,eq,_⟩:=D.ent i x x1;simp only[x1];rw[aN (by rw[x2];simp)]
  refine ay (wpAny_dictEpoch g1 g2 (ay (eq _ (ay (wpAny_dictEpoch g1 g2 ?_)))));rw[aJ (by simp)]
  by_cases ek:e.1=k
  .rw[qF ek];exact ay (wpAny_rule (aS (aS (q1 i e e1 ek))))
  .rw[rS ek];refine ay (wpAny_rule (aS ⟨rfl,rfl,done++[i],by simp[hd],λj f m hf=>?_⟩))
   rcases e_.mp m with m|m
   .exact uC j f m hf
   .simp at m;subst m;rw[e1] at hf;cases hf;exact ek
 .rintro b s' ⟨rfl,rfl,done,hd,uC⟩;refine aS (q0 λj e he ek=>uC j e ?_ he ek)
  have:=D.oP he ek;rw[hd] at this;simpa using this
def idv(u:ai):ai:=u
def VW(D:BA X A E s xs es k u)(g1:s.heap.get? d=some o)(g2:o.data=.dict xs ep)(hq:∀(R:Bool->aq->Prop),R true s->wpAny (model X.prog X.w) A (eqIsQuiet 8 u) R E s)
  (hs:∀z t,u=.str z t->k=.inr z) (lr:∀(j:Nat) (x:DictEntry) (e:TK×V×V) z t,xs[j]?=some x->es[j]?=some e->x.key=.str z t->e.1=.inr z) (hh:∀a (j:Nat) (x:DictEntry) (e:TK×V×V),u=.ref a->xs[j]?=some x->es[j]?=some e->x.key=u->e.1=k)
  (q0:(∀(j:Nat) (e:TK×V×V),es[j]?=some e->e.1≠k)->Q none s) (q1:∀(j:Nat) (e:TK×V×V),es[j]?=some e->e.1=k->Q (some j) s) :
  wpAny (model X.prog X.w) A (dictFind d u (k.hash X.w)) Q E s:=by
 have walk:=UL D g1 g2 q0 q1;have stored:∀v∈(oP xs (k.hash X.w)).filterMap (λi=>xs[i]?.map (·.key)),∀(R:Bool->aq->Prop),R true s->wpAny (model X.prog X.w) A (eqIsQuiet 8 v) R E s:=by
  intro v hv R hR;obtain⟨i,_,hi⟩:=rP.mp hv;cases hx:xs[i]? with
  |none=>rw[hx] at hi;cases hi
  |some x=>
   rw[hx] at hi;obtain rfl:x.key=v:=by simpa using hi
   obtain⟨e,_,_,_,h⟩:=D.ent i x hx;exact h R hR
 have tell:∀(R:Bool->aq->Prop),R false s->wpAny (model X.prog X.w) A (tableMayTell u ((oP xs (k.hash X.w)).filterMap λi=>xs[i]?.map (·.key))) R E s:=by
  intro R hR;unfold tableMayTell;split
  .exact aS hR
  .refine ay (hq _ ?_);simp only[kI,rR,l_];refine ay (wpAny_forIn_list _ (λrest r s'=>s'=s/\r=(none,())/\∀v∈rest,∀(R:Bool->aq->Prop),R true s->wpAny (model X.prog X.w) A (eqIsQuiet 8 v) R E s) _ ?_ ?_ _ _ ⟨rfl,rfl,stored⟩)
   .rintro x rest r s' ⟨rfl,rfl,hr⟩;refine ay (hr x (by simp) _ ?_)
    simp only[kI,rR,l_];exact aS ⟨rfl,rfl,λv hv=>hr v (by simp[hv])⟩
   .rintro r s' ⟨rfl,rfl,_⟩;exact aS hR
 have tell2:∀(R:Bool->aq->Prop),R false s->wpAny (model X.prog X.w) A (if((oP xs (k.hash X.w)).filterMap (λi=>xs[i]?.map (·.key)) == [u])=true then pure false else tableMayTell u ((oP xs (k.hash X.w)).filterMap λi=>xs[i]?.map (·.key))) R E s:=by
  intro R hR;split
  .exact aS hR
  .exact tell R hR
 have fin:∀(i:Nat) (x:DictEntry) (e:TK×V×V),xs[i]?=some x->es[i]?=some e->iJ X.w e x->(x.hash == k.hash X.w)=false->e.1≠k:=λi x e _ _ he hf ek=>by
  rw[he.1,ek] at hf;simp at hf
 unfold dictFind
 (try with_reducible refine kT ?_);refine ay (wpAny_dictEntries g1 g2 ?_)
 dsimp only;by_cases jA:((u::(oP xs (k.hash X.w)).filterMap λi=>xs[i]?.map (·.key)).all carriedByValue)=true
 .rw[aN jA];split;next z t=>
   split;next Kx=>
    unfold foundByValue;cases hf:xs.findIdx? (λe=>e.key.isStr z) with
    |none=>
     refine aS (q0 λj e he ek=>?_)
     obtain⟨x,x1,x2⟩:=D.ents j e he;have n1:=Array.findIdx?_eq_none_iff.mp hf x (Array.mem_of_getElem? x1);have e2:=x2.2.1;have n2:isExactStrKey x.key=true:=by
      have h:=Array.all_eq_true.mp Kx j (Bu.mp x1).1;rw[(Bu.mp x1).2] at h;exact h
     cases hk:x.key with
     |str z2 t2=>
      have e3:=lr j x e z2 t2 x1 he hk;rw[ek,hs z t rfl] at e3;cases e3;rw[hk] at n1;simp[Value.isStr] at n1
     |_=>rw[hk] at n2;cases n2
    |some i=>
     obtain⟨mO,hi,_⟩:=Array.findIdx?_eq_some_iff_getElem.mp hf;obtain⟨e,e1,e2,eq,_⟩:=D.ent i xs[i] (uJ mO);have ek:e.1=k:=by
      cases hk:xs[i].key with
      |str z2 t2=>
       rw[hk] at hi;have:z2=z:=by simpa[Value.isStr] using hi
       subst this;rw[lr i _ e z2 t2 (uJ mO) e1 hk,hs z2 t rfl]
      |_=>rw[hk] at hi;simp[Value.isStr] at hi
     simp only[uJ mO];refine ay (wpAny_dictEpoch g1 g2 (ay (eq _ (ay (wpAny_dictEpoch g1 g2 ?_)))));rw[aJ (by simp),qF ek]
     exact ay (wpAny_rule (aS (q1 i e e1 ek)))
   next=>exact walk
  next=>exact walk
 .rw[aJ jA];have DJ:∀z t,u=.str z t->¬(xs.all λe=>isExactStrKey e.key)=true:=by
   intro z t hu hx;refine jA (m_.mpr λv hv=>?_)
   rcases y07.mp hv with rfl|hv
   .rw[hu];rfl
   .obtain⟨i,_,hi⟩:=rP.mp hv;cases uE:xs[i]? with
    |none=>rw[uE] at hi;cases hi
    |some x=>
     rw[uE] at hi;obtain rfl:x.key=v:=by simpa using hi
     have h:=Array.all_eq_true.mp hx i (Bu.mp uE).1;rw[(Bu.mp uE).2] at h;cases hk:x.key with
     |str _ _=>rfl
     |_=>rw[hk] at h;cases h
  have xr:∀a,u=.ref a->¬(xs.any λe=>e.key == u&&e.hash != k.hash X.w)=true:=by
   intro a hu hx;rw[Array.any_eq_true] at hx;obtain⟨i,hi,hc⟩:=hx;rw[lC,beq_iff_eq,bne_iff_ne] at hc;obtain⟨e,e1,e2,_⟩:=D.ent i xs[i] (uJ hi);have:=hh a i _ e hu (uJ hi) e1 hc.1;exact hc.2 (by rw[e2.1,this])
  have Kj:u=idv u:=rfl;refine(λ(key:?P)=>?main) ?k
  case main=>
   rw(occs:=.pos [1]) [Kj];split
   .rename_i z t hz
    rw[aJ (DJ z t hz)];rw(occs:=.pos [1]) [Kj];split
    .rename_i a ha
     rw[aJ (xr a ha)];exact key
    .exact key
   .rw(occs:=.pos [1]) [Kj];split
    .rename_i a ha
     rw[aJ (xr a ha)];exact key
    .exact key
  refine(λ(DC:?P2)=>?DE) ?k2
  case DE=>
   refine UJ ?_ ?_
   .refine ay (aS ?_);exact DC
   .refine ay (tell _ ?_);exact DC
  all_goals (
   show wpAny _ _ (if(false&&_)=true then _ else _) _ _ _
   rw[aJ (by rw[Bool.false_and];exact oW)]
   refine ay (wpAny_forIn_list _ (λrest b s'=>s'=s/\∃hit done,b=(none,hit)/\oP xs (k.hash X.w)=done++rest/\((hit=none/\∀(j:Nat) (e:TK×V×V),j∈done->es[j]?=some e->e.1≠k)\/∃(j:Nat) (e:TK×V×V),hit=some j/\j∈done/\es[j]?=some e/\e.1=k)) _ ?_ ?_ _ _
    ⟨rfl,none,[],rfl,rfl,.inl ⟨rfl,λ_ _ m=>by cases m⟩⟩)
   .rintro i rest b s' ⟨rfl,hit,done,rfl,hd,hH⟩;obtain⟨x,x1,x2⟩:=mY.mp (show i∈oP xs (k.hash X.w) by rw[hd];simp)
    obtain⟨e,e1,e2,eq,_⟩:=D.ent i x x1;have hni:i∉done:=λm=>by
     have:=UK (xs:=xs) (h:=k.hash X.w);rw[hd] at this;exact(iI.mp this).2.2 i m i (by simp) rfl
    simp only[x1];rw[aN (by rw[x2];simp)]
    refine ay (wpAny_dictEpoch g1 g2 (ay (eq _ (ay (wpAny_dictEpoch g1 g2 ?_)))));rw[aJ (by simp)]
    by_cases ek:e.1=k
    .rw[qF ek];rcases hH with⟨rfl,uC⟩|⟨j,f,rfl,jd,jf,fk⟩
     .first|rw[aN rfl]|skip
      simp only[Ai,rR,l_];first|refine ay (aS ?_)|skip
      refine ay (wpAny_rule ?_);split
      .exact aS (aS (q1 i e e1 ek))
      .exact aS ⟨rfl,some i,done++[i],rfl,by simp[hd],.inr ⟨i,e,rfl,by simp,e1,ek⟩⟩
     .exact bT (D.uniq i j e f e1 jf ek fk) λz=>hni (by rw[z];exact jd)
    .rw[rS ek];have nx:(hit=none/\∀(j:Nat) (e:TK×V×V),j∈done++[i]->es[j]?=some e->e.1≠k)\/∃(j:Nat) (e:TK×V×V),hit=some j/\j∈done++[i]/\es[j]?=some e/\e.1=k:=by
      rcases hH with⟨h0,uC⟩|⟨j,f,h0,jd,jf,fk⟩
      .refine .inl ⟨h0,λj f m hf=>?_⟩
       rcases e_.mp m with m|m
       .exact uC j f m hf
       .simp at m;subst m;rw[e1] at hf;cases hf;exact ek
      .exact .inr ⟨j,f,h0,by simp[jd],jf,fk⟩
     simp only[rR,l_];refine ay (wpAny_rule ?_);first|rw[aJ (by simp)]|skip
     first
      |exact aS ⟨rfl,hit,done++[i],rfl,by simp[hd],nx⟩
      |exact ay (aS (aS ⟨rfl,hit,done++[i],rfl,by simp[hd],nx⟩))
   .rintro b s' ⟨rfl,hit,done,rfl,hd,hH⟩;rcases hH with⟨rfl,uC⟩|⟨j,f,rfl,jd,jf,fk⟩
    .refine aS (q0 λj e he ek=>uC j e ?_ he ek)
     have:=D.oP he ek;rw[hd] at this;simpa using this
    .exact aS (q1 j f jf fk))
end
end
variable{k:TK}{y:V}{o:aj V}{Q:ai->aq->Prop}{H':Hp}
noncomputable def jC(es:List (TK×V×V))(k:TK):aj V:=(es.find? λe=>decide (e.1=k)).map (·.2.2)
noncomputable def cV:List (TK×V×V)->TK->V->V->List (TK×V×V)
 |[],k,y,v=>[(k,y,v)]
 |e::es,k,y,v=>if e.1=k then(e.1,e.2.1,v)::es else e::cV es k y v
noncomputable def rh(es:List (TK×V×V))(k:TK)(ep:Nat):Nat:=if(es.any λe=>decide (e.1=k))=true then ep else ep+1
def gE(K:PySem.W.Frag)(H:Hp)(a:ag)(y:V)(r:aj V):Prop:=∃es ep k,H a=some (.dG es ep)/\a_ K H (es.map (·.2.1)) (es.map (·.1.d))/\a_ K H [y] [k.d]/\k.ok 8=true/\r=jC es k
def yi(K:PySem.W.Frag)(H:Hp)(a:ag)(y v:V)(H':Hp):Prop:=∃es ep k,H a=some (.dG es ep)/\a_ K H (es.map (·.2.1)) (es.map (·.1.d))/\a_ K H [y] [k.d]/\k.ok 8=true/\es.length<sizeLine/\H'=upd H a (.dG (cV es k y v) (rh es k ep))
def YJ{j:TK}(e:k.d=j.d)(h:k.ok 8=true):k=j:=by
 have h1:=Jd k j;rw[<-e,uv 8 (AQ 8 h)] at h1;exact Am h1.symm
section
variable{X:Cx}{aa:List (ag×Obj)}{Z:St}{H:Hp}
def O7{z:Str}{t:Tok}(r:a_ X.K H [y] [k.d])(ru:RelV y (.str z t)):k=.inr z:=by
 cases k with
 |inl i=>simp only[TK.d] at r;cases r with|flat q _=>cases q;obtain⟨t,e⟩:=ru;cases e
 |inr i=>simp only[TK.d] at r;cases r with|flat q _=>cases q;obtain⟨t,e⟩:=ru;cases e;rfl
 |tp l=>simp only[TK.d] at r;cases r with|flat q _=>cases q|tup q _ _=>cases ru
 |aF=>simp only[TK.d] at r;cases r with|flat q _=>cases q;cases ru
def O8{a:ag}(ru:RelV y (.ref a)):y=.ref a:=by
 cases y with
 |ref b=>cases ru;rfl
 |aF=>cases ru
 |bl _=>cases ru
 |ty _=>cases ru
 |_=>obtain⟨t,e⟩:=ru;cases e
section
variable{A:cF}{E:ai->aq->Prop}{s:aq}{d:ag}{es:List (TK×V×V)}{k:TK}{y v:V}{u r:ai}
def P_{o:Obj}{xs:Array DictEntry}{ep:Nat}{Q:aj Nat->aq->Prop}(I:Inv X aa Z H s)(g1:s.heap.get? d=some o)(g2:o.data=.dict xs ep)(g3:Paired (iJ X.w) es xs.toList)(g4:(es.map (·.1)).Nodup)
  (rk:a_ X.K H (es.map (·.2.1)) (es.map (·.1.d))) (ry:a_ X.K H [y] [k.d]) (ok:k.ok 8=true) (ru:RelV y u) (hu:A.units+8<cLine)
  (q0:(∀(j:Nat) (e:TK×V×V),es[j]?=some e->e.1≠k)->Q none s) (q1:∀(j:Nat) (e:TK×V×V),es[j]?=some e->e.1=k->Q (some j) s):wpAny (model X.prog X.w) A (dictFind d u (k.hash X.w)) Q E s:=by
 have at':∀(j:Nat) (x:DictEntry) (e:TK×V×V),xs[j]?=some x->es[j]?=some e->iJ X.w e x/\a_ X.K H [e.2.1] [e.1.d]:=by
  intro j x e hx he;obtain⟨e',e1,e2⟩:=E6 j g3 (by rw[xX];exact hx)
  rw[he] at e1;cases e1;obtain⟨v,v1,v2⟩:=rk.get (i:=j) (d:=e.1.d) (by rw[gq,he];rfl)
  simp_all
 refine VW (e0x I g3 g4 rk ry ok ru hu) g1 g2 (λR hR=>NH 8 I ry ok ru hR) (λz t e=>O7 ry (by rw[<-e];exact ru)) (λj x e z t hx he hk=>?_) (λa j x e tu hx he hk=>?_) q0 q1
 .obtain⟨g,r'⟩:=at' j x e hx he;exact O7 r' (by rw[<-hk];exact g.2.1)
 .obtain⟨g,r'⟩:=at' j x e hx he;have h1:=g.2.1;rw[hk,tu] at h1;rw[tu] at ru;rw[O8 h1] at r';rw[O8 ru] at ry;exact YJ (FD I 8 8 r' ry (AQ 8 g.2.2.2) (AQ 8 ok)) g.2.2.2
def UM(h:∀(j:Nat) (e:TK×V×V),es[j]?=some e->e.1≠k):jC es k=none:=by
 unfold jC;rw[v7.mpr λe m z=>?_,Option.map_none]
 obtain⟨j,hj⟩:=Es.mp m;exact h j e hj (Am z)
def UN(hn:(es.map (·.1)).Nodup){j:Nat}{e:TK×V×V}(he:es[j]?=some e)(ek:e.1=k):jC es k=some e.2.2:=by
 induction es generalizing j with
 |nil=>simp at he
 |cons x es ih=>
  rw[bY,qE] at hn;unfold jC;rw[oX];cases j with
  |zero=>
   simp only[List.getElem?_cons_zero,Option.some.injEq] at he;subst he;rw[qF ek];rfl
  |succ j=>
   simp only[List.getElem?_cons_succ] at he;have ne:¬x.1=k:=λz=>hn.1 (by rw[z,<-ek];exact cX.mpr ⟨e,uc he,rfl⟩)
   rw[rS ne];exact ih hn.2 he
def Iw{Q:aj ai->aq->Prop}(hu:A.units+8<cLine)(I:Inv X aa Z H s)(g:gE X.K H d y o)(ru:RelV y u)(h:∀w t,hV o w->Q w { s with toks:=t}):
  wpAny (model X.prog X.w) A (dictGet d u) Q E s:=by
 obtain⟨es,ep,k,hd,rk,ry,ok,rfl⟩:=g;obtain⟨_,_,ob,xs,g1,_,g2,g3,g4⟩:=(show bq X.prog X.w H s.heap d (.dG es ep) from I.bh d _ hd);unfold dictGet
 (try with_reducible refine kT ?_);refine ay (Ob 8 I ry ok ru hu λt=>ay (P_ (I.tok t) g1 g2 g3 g4 rk ry ok ru hu (λq0=>?_) (λj e he ek=>?_)))
 .exact aS (h none t (by rw[UM q0];exact ug))
 .obtain⟨x,x1,x2⟩:=B6 j g3 he;refine ay (wpAny_dictEntries (s:={ s with toks:=t}) g1 g2 (aS ?_));rw[<-xX,x1];exact h (some x.val) t (by rw[UN g4 he ek];exact x2.2.2.1)
def gE.ty(I:Inv X aa Z H s)(g:gE X.K H d y o):s.TypeIs (.ref d) "dict"/\(d == sysModules)=false:=by
 obtain⟨es,ep,k,hd,_⟩:=g;obtain⟨_,z,ob,xs,g1,g5,_⟩:=(show bq X.prog X.w H s.heap d (.dG es ep) from I.bh d _ hd);exact⟨⟨ob,g1,g5.1⟩,z⟩
def NI(hu:A.units+9<cLine)(I:Inv X aa Z H s)(g:gE X.K H d y (some v))(ru:RelV y u)(h:∀w' s',Inv X aa Z H s'->RelV v w'->Q w' s'):wpAny (model X.prog X.w) A (getItem (.ref d) u) Q E s:=by
 have hT:=(g.ty I).1;unfold getItem
 (try with_reducible refine kT ?_);refine ay (wpAny_sequenceKey hT (by decide) (ay (wpAny_callSpecial?_slot (name:=Str.ofString "__getitem__") hT slot_dict_getitem (wpAny_call_entry slot_dict_getitem hT entry_dict_getitem ?_ (args_dict_getitem _ _)))))
 show wpAny _ _ (dictGet d u >>= _) _ _ s;refine ay (Iw (by show A.units+1+8<cLine;lia) I g ru λw t m6=>?_)
 obtain⟨w',rfl,r'⟩:=hV.some_of m6;exact aS ⟨w',rfl,aS (h w' _ (I.tok t) r')⟩
def Na{Q:Bool->aq->Prop}(hu:A.units+9<cLine)(I:Inv X aa Z H s)(g:gE X.K H d y o)(ru:RelV y u)(h:∀s',Inv X aa Z H s'->Q o.isSome s'):wpAny (model X.prog X.w) A (contains (.ref d) u) Q E s:=by
 obtain⟨hT,hd⟩:=g.ty I;unfold contains
 (try with_reducible refine kT ?_);refine ay (wpAny_specialOf hT slot_dict_contains.lookup ?_)
 dsimp only;rw[aJ (by rw[beq_builtin_none];exact oW)]
 refine ay (wpAny_callSpecialUnlessNone?_slot (name:=Str.ofString "__contains__") hT slot_dict_contains (wpAny_call_entry slot_dict_contains hT entry_dict_contains ?_ (args_dict_contains _ _)));show wpAny _ _ (dictGet d u >>= _) _ _ s;refine ay (Iw (by show A.units+1+8<cLine;lia) I g ru λw t m6=>?_)
 have e:=m6.q_;cases w with
 |some w=>
  show wpAny _ _ (ret (.bool true)) _ _ _;refine aS ⟨_,rfl,wpAny_truthy_bool ?_⟩;have:=h _ (I.tok t);rw[e] at this;exact this
 |none=>
  show wpAny _ _ (Builtin.Dict.pendingKey? d u >>= _) _ _ _;refine ay (wpAny_pendingKey_other hd (aS ⟨_,rfl,wpAny_truthy_bool ?_⟩));have:=h _ (I.tok t);rw[e] at this;exact this
def L5(hu:A.units+9<cLine)(I:Inv X aa Z H s)(g:gE X.K H d y o)(ru:RelV y u)(h:∀s',Inv X aa Z H s'->Q (.bool o.isSome) s'):wpAny (model X.prog X.w) A (compareOp .In u (.ref d)) Q E s:=
 ay (Na hu I g ru λs' I'=>aS (h s' I'))
def YK(hu:A.units+9<cLine)(I:Inv X aa Z H s)(g:gE X.K H d y o)(ru:RelV y u)(h:∀s',Inv X aa Z H s'->Q (.bool (!o.isSome)) s'):wpAny (model X.prog X.w) A (compareOp .NotIn u (.ref d)) Q E s:=
 ay (Na hu I g ru λs' I'=>aS (h s' I'))
theorem EZ(k:TK)(y v:V):∀es:List (TK×V×V),(cV es k y v).length<=es.length+1
 |[]=>by simp[cV]
 |e::es=>by
  unfold cV;have:=EZ k y v es;split <;> simp <;> lia
theorem Oc:∀{es:List (TK×V×V)},(∀(j:Nat) (e:TK×V×V),es[j]?=some e->e.1≠k)->cV es k y v=es++[(k,y,v)]
 |[],_=>rfl
 |e::es,h=>by
  unfold cV;rw[aJ (h 0 e rfl),Oc λj x hx=>h (j+1) x (by simpa using hx)]
  rfl
def YL{w:ck}{xs:List DictEntry}(g3:Paired (iJ w) es xs)(ry:RelV y u)(rv:RelV v r)(ok:k.ok 8=true):Paired (iJ w) (es++[(k,y,v)]) (xs++[⟨k.hash w,u,r⟩]):=by
 induction g3 with
 |nil=>exact .cons ⟨rfl,ry,rv,ok⟩ .nil
 |cons a _ ih=>exact .cons a ih
theorem O9{w:ck}:∀{es:List (TK×V×V)} {xs:List DictEntry} {j:Nat} {e:TK×V×V},Paired (iJ w) es xs->(es.map (·.1)).Nodup->es[j]?=some e->e.1=k->RelV v r->
  Paired (iJ w) (cV es k y v) (xs.modify j λx=>{ x with val:=r})/\(cV es k y v).map (·.1)=es.map (·.1)
 |_,_,_,_,.nil,_,he,_,_=>by simp at he
 |_::es,_::xs,0,e,.cons a t,hn,he,ek,rv=>by
  simp only[List.getElem?_cons_zero,Option.some.injEq] at he;subst he;unfold cV;rw[aN ek];exact⟨.cons ⟨a.1,a.2.1,rv,a.2.2.2⟩ t,rfl⟩
 |x::es,_::xs,j+1,e,.cons a t,hn,he,ek,rv=>by
  simp only[List.getElem?_cons_succ] at he;rw[bY,qE] at hn;have ne:¬x.1=k:=λz=>hn.1 (by rw[z,<-ek];exact cX.mpr ⟨e,uc he,rfl⟩)
  unfold cV;rw[aJ ne];have ih:=O9 t hn.2 he ek rv;exact⟨.cons a ih.1,by rw[bY,bY,ih.2]⟩
def Iy{Q:Unit->aq->Prop}(hu:A.units+8<cLine)(I:Inv X aa Z H s)(g:yi X.K H d y v H')(ru:RelV y u)(rv:RelV v r)(h:∀s',Inv X aa Z H' s'->Q () s'):
  wpAny (model X.prog X.w) A (dictSet d u r) Q E s:=by
 obtain⟨es,ep,k,hd,rk,ry,ok,hl,rfl⟩:=g;obtain⟨_,z,ob,xs,g1,g5,g2,g3,g4⟩:=(show bq X.prog X.w H s.heap d (.dG es ep) from I.bh d _ hd);have hz:xs.size<=sizeLine:=by have:=Paired.length g3;simp at this;lia
 have GN:(cV es k y v).length<=sizeLine:=by have:=EZ k y v es;lia
 unfold dictSet
 (try with_reducible refine kT ?_);refine ay (Ob 8 I ry ok ru hu λt=>?_)
 unfold dictSetHashed
 (try with_reducible refine kT ?_);refine ay (P_ (I.tok t) g1 g2 g3 g4 rk ry ok ru hu (λq0=>?_) (λj e he ek=>?_))
 .have Q6:cV es k y v=es++[(k,y,v)]:=Oc q0;have JR:rh es k ep=ep+1:=aJ (by
   rw[Md];rintro⟨e,m,q⟩;obtain⟨j,hj⟩:=Es.mp m;exact q0 j e hj (Am q))
  rw[JR] at h;refine ay (wpAny_rule (wpAny_updateDictKeys (hz:=hz) (s:={ s with toks:=t}) g1 g2 (h _ ?_)));refine Ja (I.tok t) (by rw[hd];exact ug) (Heap.SameBut.update ..) ⟨_,rQ _ g1 (Obj.isFreed_of_dict (Obj.data_mapDictKeys g2 _))⟩ ⟨GN,z,_,_,rQ _ g1 (Obj.isFreed_of_dict (Obj.data_mapDictKeys g2 _)),g5.mapDictKeys _,Obj.data_mapDictKeys g2 _,?_,?_⟩
  .rw[Q6,Array.toList_push];exact YL g3 ru rv ok
  .rw[Q6,dq,iI];refine⟨g4,by simp,λa m b m' e=>?_⟩
   simp at m';subst m';obtain⟨x,mx,rfl⟩:=cX.mp m;obtain⟨j,hj⟩:=Es.mp mx;exact q0 j x hj e
 .have em:=O9 (y:=y) g3 g4 he ek rv;have JR:rh es k ep=ep:=aN (Md.mpr ⟨e,uc he,qF ek⟩);rw[JR] at h;refine ay (wpAny_rule (ay (wpAny_updateDict (s:={ s with toks:=t}) g1 g2 (wpAny_point (h _ ?_)))));refine Ja (I.tok t) (by rw[hd];exact ug) (Heap.SameBut.update ..) ⟨_,rQ _ g1 (Obj.isFreed_of_dict (Obj.data_mapDict g2 _))⟩ ⟨GN,z,_,_,rQ _ g1 (Obj.isFreed_of_dict (Obj.data_mapDict g2 _)),g5.mapDict _,Obj.data_mapDict g2 _,?_,?_⟩
  all_goals simp_all
def UO{Q:Unit->aq->Prop}(hu:A.units+9<cLine)(I:Inv X aa Z H s)(g:yi X.K H d y v H')(ru:RelV y u)(rv:RelV v r)(h:∀s',Inv X aa Z H' s'->Q () s'):
  wpAny (model X.prog X.w) A (setItem (.ref d) u r) Q E s:=by
 have hT:s.TypeIs (.ref d) "dict":=by
  obtain⟨es,ep,k,hd,rk,ry,ok,_⟩:=g;exact(gE.ty I ⟨es,ep,k,hd,rk,ry,ok,rfl⟩).1
 unfold setItem
 (try with_reducible refine kT ?_);refine ay (wpAny_sequenceKey hT (by decide) (ay (wpAny_callSpecial?_slot (name:=Str.ofString "__setitem__") hT slot_dict_setitem (wpAny_call_entry slot_dict_setitem hT entry_dict_setitem ?_ (args_dict_setitem _ _ _)))))
 show wpAny _ _ (Builtin.Dict.notOrdered "__setitem__" ⟨[.ref d,u,r],[]⟩ >>= _) _ _ s;refine ay (wpAny_notOrdered_dict hT ?_);show wpAny _ _ (dictSet d u r >>= λz=>_) _ _ s
 exact ay (Iy (by show A.units+1+8<cLine;lia) I g ru rv λs' I'=>aS ⟨.none,rfl,aS (h s' I')⟩)
def e0y(hu:A.units+9<cLine)(I:Inv X aa Z H s)(g:gE X.K H d y o)(ru:RelV y u)(h:∀w' s',Inv X aa Z H s'->RelV (o.getD .aF) w'->Q w' s'):
  wpAny (model X.prog X.w) A (call (.builtin "dict.get") [.ref d,u]) Q E s:=by
 obtain⟨hT,hd⟩:=g.ty I;refine wpAny_call_entry PySem.F.slot_dict_get hT PySem.F.entry_dict_get ?_ (PySem.F.args_dict_get_2 _ _);show wpAny _ _ (dictGet d u >>= _) _ _ s;refine ay (Iw (by show A.units+1+8<cLine;lia) I g ru λw t m6=>?_)
 cases o with
 |none=>
  cases w with
  |none=>
   show wpAny _ _ (Builtin.Dict.missed d u >>= _) _ _ _;exact ay (wpAny_missed_other hd (aS ⟨.none,rfl,h .none _ (I.tok t) rfl⟩))
  |some w=>exact m6.elim
 |some v'=>
  cases w with
  |none=>exact m6.elim
  |some w=>exact aS ⟨w,rfl,h w _ (I.tok t) m6⟩
end
end
section
variable{X:Cx}
def t5(K:PySem.W.Frag):R2:=λx y H Q=>∃l b xs zs,x=.ref l/\y=.ref b/\cC K H l xs/\cC K H b zs/\xs.length+zs.length<=sizeLine/\∀p,H p=none->Q (.ref p) (upd H p (.lst (xs++zs)))
def YM:dw X (binaryOp .Add) (t5 X.K):=by
 intro aa s Z H x y v u Q I rx ry h;obtain⟨l,b,xs,zs,rfl,rfl,hH,hB,hz,q⟩:=h;cases rx;cases ry;obtain⟨aE,r,pl,_⟩:=I.list hH;obtain⟨iG,r2,Lj,_⟩:=I.list hB;have hl:=r.length;have GN:=r2.length;obtain⟨⟨cls,dd,data,sl⟩,ho,hc,n,hd⟩:=id pl.isList;obtain⟨⟨cls2,dd2,data2,G7⟩,Rx,Ba,n2,hd2⟩:=id Lj.isList;simp only at hc hd Ba hd2;subst hc hd Ba hd2;have ea:aE.toArray++iG.toArray=(aE++iG).toArray:=by simp
 refine concat_meets ⟨_,ho,rfl⟩ ⟨_,Rx,rfl⟩ noFill_list_add seq_list_add PySem.F.slot_list_add PySem.F.entry_list_add (PySem.F.args_list_add_2 _ _) (list_addW l b aE.toArray iG.toArray n n2 dd dd2 sl G7 (by simp only[de];lia)) ⟨ho,Rx,?_⟩
 rw[ea];exact⟨.ref _,_,I.K0 (t':=s.toks) (r.append r2) (by rw[cB];lia),rfl,q _ I.fresh⟩
def VX(K:PySem.W.Frag)(hK:X.K=K:=by rfl):dw X (binaryOp .Add) (t5 K):=hK ▸ YM
end
variable{n:Nat}
instance (z:Str) (n:Int):Decidable (MulOk z n):=by unfold MulOk;infer_instance
abbrev rd(x:D):Rv:=.v (.d x)
section
variable{K:PySem.W.Frag}{k:Kn}{H:Hp}{x:V}{xs:List V}{d e:D}{vs:List V}{ds:List D}
def ah.rM(h:ah K k vs ds)(ok:ds.all (bX n)=true):ah K ⟨k.F,[],[]⟩ vs ds:=by
 induction h generalizing n with
 |nil=>exact .nil
 |flat e _ ih=>rw[jR,lC] at ok;exact .flat e (ih ok.2)
 |ref _ _ _=>rw[jR,lC] at ok;obtain⟨ok,_⟩:=ok;cases n <;> cases ok
 |lst e _ _ i1 i2=>
  rw[jR,lC] at ok;obtain⟨m,rfl,o⟩:=yA ok.1;exact .lst e (i1 o) (i2 ok.2)
 |tup e _ _ i1 i2=>
  rw[jR,lC] at ok;obtain⟨m,rfl,o⟩:=yB ok.1;exact .tup e (i1 o) (i2 ok.2)
 |az _ _ _ _ _ _ _ _=>rw[jR,lC] at ok;obtain⟨ok,_⟩:=ok;cases n <;> cases ok
theorem Top.rM{n:Nat}(h:Top K k H x d)(le:av k.F H)(ok:bX n d=true):a_ K H [x] [d]:=ah.rM (k:=k.all H) (n:=n) (h.rep le) (by rw[jR,ok];rfl)
def Top.RV(r:ah K k vs ds)(le:av k.F H)(ok:ds.all (bX n)=true):a_ K H vs ds:=ah.rM (k:=k.all H) (n:=n) (r.all le) ok
mutual
theorem tK:∀{v:V} (j:TK),ah K k [v] [j.d]->ah K ⟨k.F,[],[]⟩ [v] [j.d]
 |_,.inl i,h=>by simp only[TK.d] at h ⊢;rw[h.aX rfl];exact .flat rfl .nil
 |_,.inr x,h=>by simp only[TK.d] at h ⊢;rw[h.aX rfl];exact .flat rfl .nil
 |_,.aF,h=>by simp only[TK.d] at h ⊢;rw[h.aX rfl];exact .flat rfl .nil
 |_,.tp l,h=>by
  simp only[TK.d] at h ⊢;obtain⟨a,ws,rfl,q,r⟩:=h.isTup;exact .tup q (tL l r) .nil
theorem tL:∀{vs:List V} (l:List TK),ah K k vs (TK.dl l)->ah K ⟨k.F,[],[]⟩ vs (TK.dl l)
 |_,[],h=>by simp only[TK.dl] at h ⊢;rw[h.fK];exact .nil
 |_,j::l,h=>by
  simp only[TK.dl] at h ⊢;obtain⟨w,us,rfl,h1,h2⟩:=h.bS;exact .cons (tK j h1) (tL l h2)
end
def O_{es:List (TK×V×V)}{kvs:List (TK×D)}(q:es.map (·.1)=kvs.map (·.1))(r:ah K k (es.map (·.2.1)) (kvs.map (·.1.d)))(le:av k.F H):a_ K H (es.map (·.2.1)) (es.map (·.1.d)):=by
 have e1:kvs.map (·.1.d)=TK.dl (kvs.map (·.1)):=by rw[FU,eU];rfl
 have e2:es.map (·.1.d)=TK.dl (es.map (·.1)):=by rw[FU,eU];rfl
 rw[e1,<-q] at r;rw[e2];exact tL (k:=k.all H) _ (r.all le)
def Pa(h:Paired (Top K k H) xs [d]):∃x,xs=[x]/\Top K k H x d:=by
 cases h with
 |cons r t=>cases t;exact⟨_,rfl,r⟩
def YN(h:Paired (Top K k H) xs [d,e]):∃x y,xs=[x,y]/\Top K k H x d/\Top K k H y e:=by
 cases h with
 |cons r t=>obtain⟨y,rfl,r'⟩:=Pa t;exact⟨_,_,rfl,r,r'⟩
end
noncomputable def o1(f:D->aj Rv):List D->aj Rv
 |[a]=>f a
 |_=>none
noncomputable def o2(f:D->D->aj Rv):List D->aj Rv
 |[a,b]=>f a b
 |_=>none
section
variable{X:Cx}{K:PySem.W.Frag}
def uF{r:List V->Hp->VK->Prop}{f:D->aj Rv}(h:∀k H x a y Q,av k.F H->Top K k H x a->f a=some y->kY K k H y Q->r [x] H Q):bP K r (o1 f):=λk H xs ds y Q le t e res=>by
 unfold o1 at e;split at e
 .obtain⟨x,rfl,t1⟩:=Pa t;exact h k H x _ y Q le t1 e res
 .cases e
def vz{r:List V->Hp->VK->Prop}{f:D->D->aj Rv}(h:∀k H x z a b y Q,av k.F H->Top K k H x a->Top K k H z b->f a b=some y->kY K k H y Q->r [x,z] H Q):bP K r (o2 f):=λk H xs ds y Q le t e res=>by
 unfold o2 at e;split at e
 .obtain⟨x,z,rfl,t1,t2⟩:=YN t;exact h k H x z _ _ y Q le t1 t2 e res
 .cases e
def xt{r:R2}{f:D->D->aj Rv}(h:∀k H x z a b y Q,av k.F H->Top K k H x a->Top K k H z b->f a b=some y->kY K k H y Q->r x z H Q):bP K (nj r) (o2 f):=vz λk H x z a b y Q le t1 t2 e res=>⟨x,z,rfl,h k H x z a b y Q le t1 t2 e res⟩
noncomputable def uY:D->D->aj Rv
 |.int i,.int j=>some (rd (.int (i+j)))
 |.str x,.str y=>if x.length+y.length<=1000000 then some (rd (.str (x++y))) else none
 |.lst xs,.lst ys=>if xs.length+ys.length<=1000000 then some (.o (.lst (xs++ys))) else none
 |_,_=>none
def xy(K:PySem.W.Frag):R2:=λx y H Q=>qv (λi j=>.int (i+j)) x y H Q\/(∃i j,x=.str i/\y=.str j/\i.length+j.length<=sizeLine/\Q (.str (i++j)) H)\/t5 K x y H Q
def YO(K:PySem.W.Frag)(hK:X.K=K):dw X (binaryOp .Add) (xy K):=zK.or (pU.or (VX K hK))
def e0z:bP K (nj (xy K)) (o2 uY):=xt λk H x z a b y Q le t1 t2 e res=>by
 unfold uY at e;split at e
 .cases e;cases t1.flat rfl;cases t2.flat rfl;exact .inl ⟨_,_,rfl,rfl,res.flat le rfl⟩
 .split at e
  .cases e;cases t1.flat rfl;cases t2.flat rfl;exact .inr (.inl ⟨_,_,rfl,rfl,ml (by assumption),res.flat le rfl⟩)
  .cases e
 .split at e
  .cases e;obtain⟨a1,ws1,rfl,s1,r1⟩:=t1.lst le;obtain⟨a2,Ej,rfl,s2,r2⟩:=t2.lst le;exact .inr (.inr ⟨a1,a2,ws1,Ej,rfl,rfl,s1,s2,ml (by rw[r1.length,r2.length];assumption),λp hp=>res.lst le (r1.append r2) hp⟩)
  .cases e
 .cases e
noncomputable def eW(C:Int->Int->Bool)(f:Int->Int->D):D->D->aj Rv
 |.int i,.int j=>if C i j=true then some (rd (f i j)) else none
 |_,_=>none
def FV{r:R2}{C:Int->Int->Bool}{f:Int->Int->D}{g:Int->Int->V}(hf:∀i j,wt (f i j)=some (g i j))(hr:∀i j H Q,C i j=true->Q (g i j) H->r (.int i) (.int j) H Q):bP K (nj r) (o2 (eW C f)):=xt λk H x z a b y Q le t1 t2 e res=>by
 unfold eW at e;split at e
 .split at e
  .cases e;cases t1.flat rfl;cases t2.flat rfl;exact hr _ _ _ _ (by assumption) (res.flat le (hf _ _))
  .cases e
 .cases e
abbrev uH:Int->Int->Bool:=λ_ _=>true
def e1a:bP K (nj (qv λi j=>.int (i - j))) (o2 (eW uH λi j=>.int (i - j))):=FV (λ_ _=>rfl) λ_ _ _ _ _ q=>⟨_,_,rfl,rfl,q⟩
def YQ:bP K (nj (rI x8 λi j=>.int (i / j))) (o2 (eW (λ_ j=>decide (0<j/\j<1073741824)) λi j=>.int (i / j))):=FV (λ_ _=>rfl) λi j _ _ c q=>⟨_,_,rfl,rfl,show x8 i j from Am (p:=0<j/\j<1073741824) c,q⟩
def e1b:bP K (nj (rI (λ_ j=>0<j) λi j=>.int (i%j))) (o2 (eW (λ_ j=>decide (0<j)) λi j=>.int (i%j))):=FV (λ_ _=>rfl) λ_ _ _ _ c q=>⟨_,_,rfl,rfl,Am c,q⟩
def Jp{f:Int->Int->Bool}:bP K (nj (qv λi j=>.bl (f i j))) (o2 (eW uH λi j=>.bl (f i j))):=FV (λ_ _=>rfl) λ_ _ _ _ _ q=>⟨_,_,rfl,rfl,q⟩
noncomputable def vx:D->D->aj Rv
 |.int i,.int j=>if(-(2^64)<i/\i<2^64)\/(-(2^64)<j/\j<2^64) then some (rd (.int (i*j))) else none
 |.str z,.int j=>if MulOk z j then some (rd (.str (Txt.mul z j))) else none
 |_,_=>none
def xF:R2:=λx y H Q=>rI uM (λi j=>.int (i*j)) x y H Q\/∃z n,x=.str z/\y=.int n/\MulOk z n/\Q (.str (Txt.mul z n)) H
def YR:dw X (binaryOp .Mult) xF:=zM.or TF
def e1c:bP K (nj xF) (o2 vx):=xt λk H x z a b y Q le t1 t2 e res=>by
 unfold vx at e;split at e
 .split at e
  .cases e;cases t1.flat rfl;cases t2.flat rfl;exact .inl ⟨_,_,rfl,rfl,by assumption,res.flat le rfl⟩
  .cases e
 .split at e
  .cases e;cases t1.flat rfl;cases t2.flat rfl;exact .inr ⟨_,_,rfl,rfl,by assumption,res.flat le rfl⟩
  .cases e
 .cases e
noncomputable def rb:D->aj Rv
 |.int i=>some (rd (.int (-i)))
 |_=>none
def e1d:bP K (Ln (rU λi=>.int (-i))) (o1 rb):=uF λk H x a y Q le t e res=>by
 unfold rb at e;split at e
 .cases e;cases t.flat rfl;exact⟨_,rfl,_,rfl,res.flat le rfl⟩
 .cases e
end
section
variable{X:Cx}{aa:List (ag×Obj)}{s:aq}{Z:St}{H:Hp}
def e1e(I:Inv X aa Z H s){n m:Nat}{A:cF}{x y:V}{u v:ai}{d e:D}(rd:a_ X.K H [x] [d])(re:a_ X.K H [y] [e])(od:bX n d=true)(oe:bX m e=true)(ru:RelV x u)(rv:RelV y v)(hu:A.units+n<cLine):SeqAt.RcNeAt A s u v (!aP d e):=by
 have cz:A.units<cLine:=by lia
 have s1:=FT I rd ru od;have s2:=FT I re rv oe;cases s1 with
 |none=>
  cases s2 with
  |none=>
   simp only[aP];exact SeqAt.RcNeAt.none_none
  |bool a2=>
   simp only[aP];exact SeqAt.RcNeAt.none_bool a2
  |int a2 t2=>
   simp only[aP];exact SeqAt.RcNeAt.none_int a2 t2
  |str a2 t2=>
   simp only[aP];exact SeqAt.RcNeAt.none_str a2 t2
  |list l2 v2 r2=>
   simp only[aP];exact SeqAt.RcNeAt.none_list l2 cz
  |tuple l2 v2 r2=>
   simp only[aP];exact SeqAt.RcNeAt.none_tuple l2 cz
 |bool a1=>
  cases s2 with
  |none=>
   simp only[aP];exact SeqAt.RcNeAt.bool_none a1
  |bool a2=>
   simp only[aP];exact SeqAt.RcNeAt.bool_bool a1 a2
  |int a2 t2=>
   simp only[aP];exact SeqAt.RcNeAt.bool_int a1 a2 t2
  |str a2 t2=>
   simp only[aP];exact SeqAt.RcNeAt.bool_str a1 a2 t2
  |list l2 v2 r2=>
   simp only[aP];exact SeqAt.RcNeAt.bool_list a1 l2 cz
  |tuple l2 v2 r2=>
   simp only[aP];exact SeqAt.RcNeAt.bool_tuple a1 l2 cz
 |int a1 t1=>
  cases s2 with
  |none=>
   simp only[aP];exact SeqAt.RcNeAt.int_none a1 t1
  |bool a2=>
   simp only[aP];exact SeqAt.RcNeAt.int_bool a1 t1 a2
  |int a2 t2=>
   simp only[aP];exact SeqAt.RcNeAt.int_int a1 t1 a2 t2
  |str a2 t2=>
   simp only[aP];exact SeqAt.RcNeAt.int_str a1 t1 a2 t2
  |list l2 v2 r2=>
   simp only[aP];exact SeqAt.RcNeAt.int_list a1 t1 l2 cz
  |tuple l2 v2 r2=>
   simp only[aP];exact SeqAt.RcNeAt.int_tuple a1 t1 l2 cz
 |str a1 t1=>
  cases s2 with
  |none=>
   simp only[aP];exact SeqAt.RcNeAt.str_none a1 t1
  |bool a2=>
   simp only[aP];exact SeqAt.RcNeAt.str_bool a1 t1 a2
  |int a2 t2=>
   simp only[aP];exact SeqAt.RcNeAt.str_int a1 t1 a2 t2
  |str a2 t2=>
   simp only[aP];exact SeqAt.RcNeAt.str_str a1 t1 a2 t2
  |list l2 v2 r2=>
   simp only[aP];exact SeqAt.RcNeAt.str_list a1 t1 l2 cz
  |tuple l2 v2 r2=>
   simp only[aP];exact SeqAt.RcNeAt.str_tuple a1 t1 l2 cz
 |list l1 v1 r1=>
  cases s2 with
  |none=>
   simp only[aP];exact SeqAt.RcNeAt.list_none l1 cz
  |bool a2=>
   simp only[aP];exact SeqAt.RcNeAt.list_bool a2 l1 cz
  |int a2 t2=>
   simp only[aP];exact SeqAt.RcNeAt.list_int a2 t2 l1 cz
  |str a2 t2=>
   simp only[aP];exact SeqAt.RcNeAt.list_str a2 t2 l1 cz
  |list l2 v2 r2=>
   rename_i a aE ws es b iG Ej lQ
   obtain⟨n',rfl,tP⟩:=yA od;obtain⟨m',rfl,tQ⟩:=yA oe;have la:=v1.length;have lb:=v2.length;have KS:=r1.length;have KW:=r2.length;simp only[aP];by_cases hl:es.length=lQ.length
   .rw[B9 aE.toArray.size (by simp only[de];lia) (by simp only[de];lia)]
    refine SeqAt.RcNeAt.lists (A:=A) l1 l2 (by simp only[de];lia) cz λj h1 h2=>?_
    obtain⟨x1,q1,q2,q3⟩:=wu r1 v1 h1;obtain⟨y1,p1,p2,p3⟩:=wu r2 v2 h2;exact(CA I n' m' q2 p2 (wd tP q3) (wd tQ p3) q1 p1 (by show A.units+1+n'<cLine;lia)).1
   .rw[B8 hl];exact SeqAt.RcNeAt.lists_lengths (A:=A) l1 l2 (by simp only[de,bne_iff_ne,ne_eq];lia) cz
  |tuple l2 v2 r2=>
   simp only[aP];exact SeqAt.RcNeAt.list_tuple l1 l2 cz
 |tuple l1 v1 r1=>
  cases s2 with
  |none=>
   simp only[aP];exact SeqAt.RcNeAt.tuple_none l1 cz
  |bool a2=>
   simp only[aP];exact SeqAt.RcNeAt.tuple_bool a2 l1 cz
  |int a2 t2=>
   simp only[aP];exact SeqAt.RcNeAt.tuple_int a2 t2 l1 cz
  |str a2 t2=>
   simp only[aP];exact SeqAt.RcNeAt.tuple_str a2 t2 l1 cz
  |list l2 v2 r2=>
   simp only[aP];exact SeqAt.RcNeAt.tuple_list l1 l2 cz
  |tuple l2 v2 r2=>
   rename_i a aE ws es b iG Ej lQ
   obtain⟨n',rfl,tP⟩:=yB od;obtain⟨m',rfl,tQ⟩:=yB oe;have la:=v1.length;have lb:=v2.length;have KS:=r1.length;have KW:=r2.length;have z:=SeqAt.RcNeAt.tuples (A:=A) (e:=λj=>aP (es.getD j .aF) (lQ.getD j .aF)) l1 l2 cz λj h1 h2=>by
    obtain⟨x1,q1,q2,q3⟩:=wu r1 v1 h1;obtain⟨y1,p1,p2,p3⟩:=wu r2 v2 h2;exact(CA I n' m' q2 p2 (wd tP q3) (wd tQ p3) q1 p1 (by show A.units+1+n'<cLine;lia)).1
   simp only[aP];by_cases hl:es.length=lQ.length
   .rw[B9 aE.toArray.size (by simp only[de];lia) (by simp only[de];lia)]
    have e1:iG.toArray.size=aE.toArray.size:=by simp only[de];lia
    rw[e1,Nat.min_self,jD,Bool.and_true] at z;exact z
   .rw[B8 hl];have e1:(aE.toArray.size == iG.toArray.size)=false:=by rw[nc];simp only[de];lia
    rw[e1,Bool.and_false] at z;exact z
end
section
variable{X:Cx}{K:PySem.W.Frag}
def DV(K:PySem.W.Frag):R2:=λx y H Q=>∃d e,a_ K H [x] [d]/\a_ K H [y] [e]/\bX 40 d=true/\bX 40 e=true/\Q (.bl (!aP d e)) H
def e1f(K:PySem.W.Frag)(hu:X.A.units+40<cLine)(hK:X.K=K:=by rfl):dw X (compareOp .NotEq) (DV K):=by
 subst hK;intro aa s Z H x y v u Q I rx ry h;obtain⟨d,e,r1,r2,o1,o2,q⟩:=h;exact(e1e I r1 r2 o1 o2 rx ry hu) X.prog X.w _ _ ⟨.bl _,H,I,rfl,q⟩
end
end L2
namespace L2
open PySem PySem.Spec PySem.W PySem.Calls PyProof.Rows
variable{P:cS}{w:ck}{o:Expr}{to:TE}{apos bD pos:Pos}{elts:List Expr}{x1:Nat}
def h_(es:List (TK×V×V)):Prop:=∀e∈es,∃x,e.1=.inr x/\e.2.1=.str x
def YS{es:List (TK×V×V)}{xs:List DictEntry}(p:Paired (iJ w) es xs)(h:h_ es):∃kvs:List (Str×ai),(∀x∈xs,∃k,(strKind P w).is k x.key=true/\x.hash=(strKind P w).hash k)/\Pairs (strKind P w) xs kvs/\kvs.map (λp=>TK.inr p.1)=es.map (·.1)/\Vals (es.map (·.2.2)) (kvs.map (·.2)):=by
 induction p with
 |nil=>exact⟨[],by simp,.nil,rfl,.nil⟩
 |@cons e x es xs r t ih=>
  obtain⟨kvs,h1,h2,h3,h4⟩:=ih λe m=>h e (pZ _ m)
  obtain⟨z,e1,e2⟩:=h e (rq ..);obtain⟨r1,r2,r3,r4⟩:=r;rw[e2] at r2;obtain⟨t',r2⟩:=r2;have hk:(strKind P w).is z x.key=true:=by rw[r2];show Value.isStrOf z (.str z t')=true;simp[Value.isStrOf]
  refine⟨(z,x.val)::kvs,λy m=>?_,.cons hk rfl h2,by rw[bY,bY,h3,e1],.cons r3 h4⟩
  rcases y07.mp m with rfl|m
  .exact⟨z,hk,by rw[r1,e1];rfl⟩
  .exact h1 y m
section
variable{X:Cx}{aa:List (ag×Obj)}{Z:St}{H:Hp}{s:aq}{d:ag}{es:List (TK×V×V)}{ep:Nat}
def AR(I:Inv X aa Z H s)(hd:H d=some (.dG es ep))(ht:h_ es):∃kvs,s.heap.DictAt (strKind X.prog X.w) d kvs ep/\Vals (es.map (·.2.2)) (kvs.map (·.2))/\kvs.map (λp=>TK.inr p.1)=es.map (·.1)/\kvs.length<=sizeLine/\(d == sysModules)=false:=by
 obtain⟨hz,lo,ob,xs,g1,g5,g2,g3,g4⟩:=(show bq X.prog X.w H s.heap d (.dG es ep) from I.bh d _ hd);obtain⟨kvs,h1,h2,h3,h4⟩:=YS (P:=X.prog) g3 ht;refine⟨kvs,⟨ob,xs,g1,g5,g2,λx m=>h1 x (L8.mpr m),h2,?_⟩,h4,h3,?_,lo⟩
 .rw[<-h3] at g4;rw[show(λp:Str×ai=>TK.inr p.1)=TK.inr∘(·.1) from rfl,<-eU] at g4
  exact List.Pairwise.of_map _ (λa b ne z=>ne (by rw[z])) g4
 .have:=congrArg List.length h3;rw[aY,aY] at this;lia
def FE(I:Inv X aa Z H s)(hd:H d=some (.dG es ep)):s.TypeIs (.ref d) "dict"/\∀a,Value.ref d=.ref a->∃ob,s.heap.get? a=some ob/\ob.dict=none:=
 P6 (x:=.ref d) I rfl (.inr (.inr (.inl ⟨rfl,.inr (.inr ⟨es,ep,hd⟩)⟩)))
def TL{ys:List V}{kvs:List (Str×ai)}{aU:Array ai}(rv:Vals ys (kvs.map (·.2)))(h:ItemsOf (λi v=>∃k,kvs[i]?=some (k,v)) aU kvs.length):Vals ys aU.toList:=by
 have e:aU.toList=kvs.map (·.2):=by
  apply Me;intro i;by_cases hi:i<aU.toList.length
  .have zo:i<aU.size:=by simpa using hi
   obtain⟨k,hk⟩:=h.2 i aU[i] (uJ zo)
   simp_all
  .rw[Aj (by lia),Aj (by rw[aY];have:=h.1;simp at hi;lia)]
 rw[e];exact rv
def e1g(to:TE):TE:=λZ H Q=>to Z H λx H1=>∃d es ep,x=.ref d/\H1 d=some (.dG es ep)/\h_ es/\∀q,H1 q=none->Q (.ref q) (upd H1 q (.lst (es.map (·.2.2))))
def VY{p:Pos}(Dg:Gl X "list")(Kp:X.mg "list"=none)(ho:PE X o to)(hc:X.calm=true)
  (hs:starEach [.Call (.Attribute o "values" apos) [] [] bD] X.env=[(false,eval (.Call (.Attribute o "values" apos) [] [] bD) X.env)]:=by rfl)
  (eA:attributeBase o "values" X.env (eval o X.env)=eval o X.env:=by rfl) (eB:(apos.endLine == bD.line)=true:=by rfl):PE X (.Call (.Name "list" p) [.Call (.Attribute o "values" apos) [] [] bD] [] pos) (e1g to):=by
 intro aa s Z H Q I h;refine Call_ (wq I Dg Kp qb (PyProof.Rows.callWith_type1 ?_ hs rfl));rw[hs];show wpAny _ _ (spliced ((false,eval (.Call (.Attribute o "values" apos) [] [] bD) X.env)::[])) _ _ s;refine Calls.spliced_cons (wpAny_Call_method0_late eA eB (bB (ho aa s Z H _ I h) λv s1 hh=>?_))
 obtain⟨x,H1,I1,r1,d,es,ep,rfl,hd,ht,q⟩:=hh;cases r1;obtain⟨t1,t2⟩:=FE I1 hd;obtain⟨kvs,D1,D2,D3,D4,lo⟩:=AR I1 hd ht;refine⟨"dict","dict.values",PySem.F.plainAttrs_dict,PySem.F.slot_dict_values,PySem.F.type_dict_values,t1,t2,Calls.callWith_builtin rfl (PySem.evalArgs_none ?_)⟩;refine call_meetsIn PySem.F.slot_dict_values t1 PySem.F.entry_dict_values (PySem.F.args_dict_values_1 _) (meets_dict_values (strKind X.prog X.w) d lo) ⟨⟨kvs,D1.dictOf⟩,?_⟩;refine Calls.spliced_nil ?_;refine kdl_call (kdl_values (knd:=strKind X.prog X.w) (r:=s1.heap.objs.size) (d:=d) (kvs:=kvs) (ep:=ep)) (I1.ok.hd hc) ⟨⟨_,jq _ rfl,rfl,rfl⟩,D1.push _⟩ D4 λh' tk aU c kp hg hi=>?_
 have sz:(s1.heap.push { cls:=.type "dict_values",data:=.fields #[.ref d]}).objs.size=s1.heap.objs.size+1:=by simp[Heap.push]
 rw[show({ s1 with heap:=s1.heap.push { cls:=.type "dict_values",data:=.fields #[.ref d]}}:aq).heap.objs.size=s1.heap.objs.size+1 from sz] at hg ⊢;have rv:=TL D2 hi;refine⟨.ref (s1.heap.objs.size+1),_,I1.laid (t':=tk) (λb o e=>kp b o (cO _ e)) (qD _) (show bq X.prog X.w _ h' _ (.lst (es.map (·.2.2))) from⟨?_,aU.toList,c,rv,by simpa using hg⟩),rfl,q _ (I1.bh.fresh (qD _))⟩
 grind [List.length_map]
noncomputable def xl:TK->Bool
 |.inr _=>true
 |_=>false
theorem P'{K:Frag}{F:Kn}:∀{ws:List (TK×V×V)} {ks:List TK},ws.map (·.1)=ks->ah K F (ws.map (·.2.1)) (ks.map (·.d))->ks.all xl=true->h_ ws
 |[],_,_,_,_=>λe m=>nomatch m
 |w::ws,[],e,_,_=>by cases e
 |w::ws,k::ks,e,r,a=>by
  rw[bY,List.cons.injEq] at e;obtain⟨e1,e2⟩:=e;rw[jR,lC] at a;rw[bY,bY] at r;intro y m;rcases y07.mp m with rfl|m
  .cases k with
   |inr x=>
    refine⟨x,e1,?_⟩;have:=r.inv.1;obtain⟨y1,y2,y3⟩:=y;dsimp only at this ⊢;cases this with
    |flat z _=>cases z;rfl
   |inl _=>cases a.1
   |tp _=>cases a.1
   |aF=>cases a.1
  .exact P' e2 r.inv.2 a.2 y m
end
def Sn:entryFor table "dict_itemiterator.__iter__"=some Builtin.«dict_keyiterator.__iter__»:=
 entryFor_alias (id':="dict_keyiterator.__iter__") (by kernel_rfl) rfl (by decide +kernel) (by kernel_rfl)
section
variable{prog:cS}{w:ck}{A:cF}{E:ai->aq->Prop}{s:aq}{it d:ag}{kvs:List (Str×ai)}{ep:Nat}
def MK{i n ep:Nat}{ok ov:ai}{Q:ai->aq->Prop}(hit:IsItemIter s.heap it d i n ep ok ov)(h:Q (.ref it) s):wpAny (model prog w) A (pyIter (.ref it)) Q E s:=by
 have hT:s.TypeIs (.ref it) "dict_itemiterator":=⟨_,hit,rfl⟩;refine wpAny_pyIter_slot hT PySem.F.slot_dict_itemiterator_iter (wpAny_call_entry PySem.F.slot_dict_itemiterator_iter hT Sn ?_ (PySem.F.args_dict_itemiterator_iter_1 _));show wpAny _ _ (ret (.ref it)) _ _ s;exact aS ⟨_,rfl,"dict_itemiterator",_,hT,PySem.F.slot_dict_itemiterator_next.lookup,h⟩
def Td(hh:A.handled=none)(it d:ag)(fH:d≠it)(kvs:List (Str×ai))(ep:Nat):
  WalksT prog w A it [it,d] [it] kvs.length (λi vals=>∃k x key,kvs[i]?=some (k,x)/\(PySem.strKind prog w).is k key=true/\vals=#[key,x])
   (λi h=>(∃ok ov,IsItemIter h it d i kvs.length ep ok ov)/\h.DictAt (PySem.strKind prog w) d kvs ep)
   (λi T h=>(∃ok ov,IsItemIterOut h it d (i+1) kvs.length ep ok ov T)/\T≠it/\h.DictAt (PySem.strKind prog w) d kvs ep) where
 sub:=λb hb=>by simp at hb;simp[hb]
 frame:=λi h h' ⟨⟨ok,ov,a⟩,b⟩ k=>⟨⟨ok,ov,k it (by simp) _ a⟩,b.at' λo e=>k d (by simp) o e⟩
 item:=λi s Q E hi ⟨⟨ok,ov,a⟩,b⟩ hQ=>by
  obtain⟨⟨k,x⟩,hx⟩:∃p,kvs[i]?=some p:=⟨kvs[i],by simp[hi]⟩
  have lt:it<s.heap.objs.size:=cD a;refine wpAny_pyNext_items_item a b hx λkey h' hk o1 o2 o3 kp=>?_
  exact hQ s.heap.objs.size #[key,x] h' s.toks ⟨k,x,key,hx,hk,rfl⟩ (bG _) ⟨_,o2,rfl,_,rfl⟩ ⟨⟨_,_,o1⟩,xR lt,b.at' λo e=>kp d o fH e⟩ λb o hb e=>kp b o (λz=>hb (by simp[z])) e
 go:=λelts k pos i T s Q E ⟨⟨ok,ov,a⟩,b,c⟩ hQ=>wpAny_letOwnedTupleGo_items a λh' a' sb=>hQ h' ⟨⟨ok,ov,a'⟩,c.at' λo e=>(sb.2 d fH).trans e⟩ λb o hb e=>(sb.2 b (λz=>hb (by simp[z]))).trans e
 apart:=λi T h ⟨_,b,_⟩=>by simpa using b
 done:=λs Q E ⟨⟨ok,ov,a⟩,b⟩ hQ=>wpAny_pyNext_items_end hh a b (by simp) λh' eb=>hQ h' s.toks λb o hb e=>eb b o (λz=>hb (by simp[z])) e
 self:=λi s Q E ⟨⟨ok,ov,a⟩,_⟩ hQ=>MK a hQ
end
def Ei(es:List (TK×V×V))(i:Nat)(ws:List V):Prop:=∃e,es[i]?=some e/\ws=[e.2.1,e.2.2]
def TM{K:Frag}{it d:ag}(fH:d≠it)(es:List (TK×V×V))(ep:Nat):
  Turn P w K (.Tuple elts x1 pos) (Ao (λH=>H d=some (.dG es ep)/\h_ es) es.length (Ei es)) [it] it (λi h=>i<=es.length/\∃ok ov,IsItemIter h it d i es.length ep ok ov):=by
 refine NB (FP:=[it]) (wr:=[it]) (by simp) (λb hb=>hb) (λi h st b hb=>?_) (λi h h' st k=>?_) (λX hP hw hK hc aa s Z H I hS=>?_) (λA i s Q E st h=>?_)
 .obtain⟨ok,ov,a⟩:=st;cases kR.mp hb;exact⟨_,a,λv z=>by cases z⟩
 .obtain⟨ok,ov,a⟩:=st;exact⟨ok,ov,k it (by simp) _ a⟩
 .subst hP hw hK;obtain⟨kvs,D1,D2,D3,D4,lo⟩:=AR I hS.1 hS.2;have l1:kvs.length=es.length:=by have:=congrArg List.length D3;simpa using this
  have W:=Td (prog:=X.prog) (w:=X.w) (A:=X.A) (I.ok.hd hc) it d fH kvs ep;rw[l1] at W;refine⟨_,_,_,_,W,λi st=>⟨st,D1⟩,λi h st=>st.1,λi vals hp=>?_⟩
  obtain⟨k,x,key,k1,k2,rfl⟩:=hp;have hi:i<es.length:=by have:=(eS.mp k1).1;lia
  have e3:es[i]?=some es[i]:=jt hi;refine⟨[es[i].2.1,es[i].2.2],⟨_,e3,rfl⟩,.cons ?_ (.cons ?_ .nil),by show 2<=10;decide⟩
  .obtain⟨z,z1,z2⟩:=hS.2 es[i] (Hh hi);have k3:(kvs.map (λp=>TK.inr p.1))[i]?=(es.map (·.1))[i]?:=by rw[D3]
   rw[gq,gq,k1,e3] at k3;have k4:TK.inr k=es[i].1:=Option.some.inj k3;rw[z1] at k4;cases k4;rw[z2];exact Value.isStrOf_shape k2
  .obtain⟨u,u1,u2⟩:=D2.get (i:=i) (x:=es[i].2.2) (by rw[gq,e3];rfl)
   rw[gq,k1] at u1;cases u1;exact u2
 .obtain⟨ok,ov,a⟩:=st;exact MK a h
def Qa(to:TE):TI:=λZ H R=>to Z H λx H1=>∃d es ep,x=.ref d/\H1 d=some (.dG es ep)/\h_ es/\R (Ao (λH=>H d=some (.dG es ep)/\h_ es) es.length (Ei es)) H1
section
variable{X:Cx}{K:Frag}
def VZ{eY:Pos}(ho:PE X o to)(eA:attributeBase o "items" X.env (eval o X.env)=eval o X.env:=by rfl)(eB:(apos.endLine == bD.line)=true:=by rfl):
  PI X (.Tuple elts x1 eY) (.Call (.Attribute o "items" apos) [] [] bD) (Qa to):=by
 intro aa s Z H R I h;refine wpAny_Call_method0_late eA eB (bB (ho aa s Z H _ I h) λv s1 hh=>?_)
 obtain⟨x,H1,I1,r1,d,es,ep,rfl,hd,ht,q⟩:=hh;cases r1;obtain⟨t1,t2⟩:=FE I1 hd;obtain⟨kvs,D1,D2,D3,D4,lo⟩:=AR I1 hd ht;have l1:kvs.length=es.length:=by have:=congrArg List.length D3;simpa using this
 have ld:d<s1.heap.objs.size:=D1.lt_size;refine⟨"dict","dict.items",PySem.F.plainAttrs_dict,PySem.F.slot_dict_items,PySem.F.type_dict_items,t1,t2,Calls.callWith_builtin rfl (PySem.evalArgs_none ?_)⟩;refine call_meetsIn PySem.F.slot_dict_items t1 PySem.F.entry_dict_items (PySem.F.args_dict_items_1 _) (meets_dict_items (PySem.strKind X.prog X.w) d lo) ⟨⟨kvs,D1.dictOf⟩,?_⟩;refine wpAny_pyIter_items (knd:=PySem.strKind X.prog X.w) (v:=s1.heap.objs.size) (d:=d) (kvs:=kvs) (ep:=ep) ⟨_,jq _ rfl,rfl,rfl⟩ (D1.push _) ?_;have sz:(s1.heap.push { cls:=.type "dict_items",data:=.fields #[.ref d]}).objs.size=s1.heap.objs.size+1:=by simp[Heap.push]
 have hg:=jq (s1.heap.push { cls:=.type "dict_items",data:=.fields #[.ref d]}) (o:={ cls:=.type "dict_itemiterator",data:=.fields #[.none,.bool false,.ref d,.int 0 0,.int kvs.length 0,.int ep 0,.none,.none]}) rfl;rw[l1] at hg ⊢;refine⟨(s1.heap.push { cls:=.type "dict_items",data:=.fields #[.ref d]}).objs.size,[(s1.heap.push { cls:=.type "dict_items",data:=.fields #[.ref d]}).objs.size],_,_,H1,rfl,I1.kept (t':=s1.toks) λb o e=>cO _ (cO _ e),TM (it:=(s1.heap.push { cls:=.type "dict_items",data:=.fields #[.ref d]}).objs.size) (d:=d) (by rw[sz];exact gp (Ad ld)) es ep,⟨lD _,.none,.none,hg⟩,λb hb=>?_,q⟩
 cases kR.mp hb;have zf:s1.heap.objs.size<=(s1.heap.push { cls:=.type "dict_items",data:=.fields #[.ref d]}).objs.size:=by rw[sz];exact qD _
 exact I1.lj zf (I1.bh.fresh zf)
end
end L2
namespace L2
open PySem PySem.Spec PyProof.Rows
section
variable{X:Cx}{K:PySem.W.Frag}
def DQ(K:PySem.W.Frag):R2:=λx y H Q=>∃d e,a_ K H [x] [d]/\a_ K H [y] [e]/\bX 40 d=true/\bX 40 e=true/\Q (.bl (aP d e)) H
def e1h(K:PySem.W.Frag)(hu:X.A.units+40<cLine)(hK:X.K=K:=by rfl):dw X (compareOp .Eq) (DQ K):=by
 subst hK;intro aa s Z H x y v u Q I rx ry h;obtain⟨d,e,r1,r2,o1,o2,q⟩:=h;exact(CA I 40 40 r1 r2 o1 o2 rx ry hu).2 X.prog X.w _ _ ⟨.bl _,H,I,rfl,q⟩
open Classical in
noncomputable def pd (K:PySem.W.Frag) (H:Hp) (dx:D) (u:ai):Bool:=decide (∃x d,RelV x u/\a_ K H [x] [d]/\bX 40 d=true/\aP d dx=true)
open Classical in
def Qb{aa:List (ag×Obj)}{s:aq}{Z:St}{H:Hp}(I:Inv X aa Z H s){dx d:D}{x:V}{u:ai}(rx:RelV x u)(r:a_ X.K H [x] [d])(ok:bX 40 d=true):pd X.K H dx u=aP d dx:=by
 unfold pd;rw[Ae,y9a];constructor
 .rintro⟨x',d',rx',r',fj,e⟩;have:=RelV.inj rx rx';subst this;rw[FD I 40 40 r r' ok fj];exact e
 .exact λe=>⟨x,d,rx,r,ok,e⟩
def FW{aa:List (ag×Obj)}{s:aq}{Z:St}{H:Hp}(I:Inv X aa Z H s){dx:D}{ws:List V}{aE:List ai}{ds:List D}(t:Vals ws aE)(rp:a_ X.K H ws ds)(ok:ds.all (bX 40)=true):aE.any (pd X.K H dx)=ds.any λd=>aP d dx:=by
 induction t generalizing ds with
 |nil=>
  cases ds with
  |nil=>rfl
  |cons _ _=>have:=rp.length;simp at this
 |cons r t ih=>
  cases ds with
  |nil=>have:=rp.length;simp at this
  |cons d ds=>
   rw[jR,lC] at ok;rw[List.any_cons,List.any_cons,Qb I r rp.inv.1 ok.1,ih rp.inv.2 ok.2]
def FX{aa:List (ag×Obj)}{s:aq}{Z:St}{H:Hp}(I:Inv X aa Z H s){dx:D}{y:V}{v:ai}{A:cF}(rv:RelV y v)(ry:a_ X.K H [y] [dx])(oy:bX 40 dx=true)(hu:A.units+40<cLine):
  ∀{ws:List V} {aE:List ai} {ds:List D},Vals ws aE->a_ X.K H ws ds->ds.all (bX 40)=true->∀u∈aE,SeqAt.EqAt A s u v (pd X.K H dx u):=by
 intro ws aE ds t
 induction t generalizing ds with
 |nil=>intro _ _ u m;cases m
 |cons r t ih=>
  intro rp ok u' m;cases ds with
  |nil=>have:=rp.length;simp at this
  |cons d ds=>
   rw[jR,lC] at ok;rcases y07.mp m with rfl|m
   .rw[Qb I r rp.inv.1 ok.1];exact(CA I 40 40 rp.inv.1 ry ok.1 oy r rv hu).1
   .exact ih rp.inv.2 ok.2 u' m
noncomputable def zX:D->aj (List D)
 |.lst ds=>some ds
 |.tup ds=>some ds
 |_=>none
def zQ(K:PySem.W.Frag)(neg:Bool):R2:=λx y H Q=>
 (∃d e ds,a_ K H [x] [d]/\a_ K H [y] [e]/\zX e=some ds/\bX 40 d=true/\ds.all (bX 40)=true/\Q (.bl (if neg then !ds.any λz=>aP z d else ds.any λz=>aP z d)) H)\/
 (∃i j,x=.str i/\y=.str j/\Q (.bl (if neg then !(!(Builtin.Str.occurrences j i 0 j.length 1).isEmpty) else !(Builtin.Str.occurrences j i 0 j.length 1).isEmpty)) H)\/
 ∃a o,y=.ref a/\gE K H a x o/\Q (.bl (if neg then !o.isSome else o.isSome)) H
def e1i(K:PySem.W.Frag)(hu:X.A.units+41<cLine)(hK:X.K=K:=by rfl):dw X (compareOp .In) (zQ K false):=by
 subst hK;intro aa s Z H x y v u Q I rx ry h;rcases h with⟨d,e,ds,r1,r2,es,o1,o2,q⟩|⟨i,j,rfl,rfl,q⟩|⟨a,o,rfl,g,q⟩
 .have tu:X.A.in1.units+40<cLine:=by show X.A.units+1+40<cLine;lia
  cases r2 with
  |flat z _=>cases e <;> first|(cases z;done)|cases es
  |lst sq i _=>
   cases es;cases ry;obtain⟨aE,r,pl,hz⟩:=I.list sq;refine SeqAt.in_listAt (pd X.K H d) pl.isList (λw hw=>FX I rx r1 o1 tu r i o2 w (by simpa using hw)) ⟨.bl _,H,I,rfl,?_⟩
   rw[show aE.toArray.any (pd X.K H d)=aE.any (pd X.K H d) by simp,FW I r i o2]
   exact q
  |tup sq i _=>
   cases es;cases ry;obtain⟨aE,r,pl,hz⟩:=I.tuple sq;refine SeqAt.in_tupleAt (pd X.K H d) pl (λw hw=>FX I rx r1 o1 tu r i o2 w (by simpa using hw)) ⟨.bl _,H,I,rfl,?_⟩
   rw[show aE.toArray.any (pd X.K H d)=aE.any (pd X.K H d) by simp,FW I r i o2]
   exact q
  |az _ _ _ _ _=>cases es
  |ref _ _=>cases es
 .exact Uj aa s Z H _ _ v u Q I rx ry ⟨i,j,rfl,rfl,q⟩
 .cases ry;exact L5 (by lia) I g rx λs3 I3=>⟨.bl o.isSome,H,I3,rfl,q⟩
def UP(K:PySem.W.Frag)(hu:X.A.units+41<cLine)(hK:X.K=K:=by rfl):dw X (compareOp .NotIn) (zQ K true):=by
 subst hK;intro aa s Z H x y v u Q I rx ry h;rcases h with⟨d,e,ds,r1,r2,es,o1,o2,q⟩|⟨i,j,rfl,rfl,q⟩|⟨a,o,rfl,g,q⟩
 .have tu:X.A.in1.units+40<cLine:=by show X.A.units+1+40<cLine;lia
  cases r2 with
  |flat z _=>cases e <;> first|(cases z;done)|cases es
  |lst sq i _=>
   cases es;cases ry;obtain⟨aE,r,pl,hz⟩:=I.list sq;refine SeqAt.notIn_listAt (pd X.K H d) pl.isList (λw hw=>FX I rx r1 o1 tu r i o2 w (by simpa using hw)) ⟨.bl _,H,I,rfl,?_⟩
   rw[show aE.toArray.any (pd X.K H d)=aE.any (pd X.K H d) by simp,FW I r i o2]
   exact q
  |tup sq i _=>
   cases es;cases ry;obtain⟨aE,r,pl,hz⟩:=I.tuple sq;refine SeqAt.notIn_tupleAt (pd X.K H d) pl (λw hw=>FX I rx r1 o1 tu r i o2 w (by simpa using hw)) ⟨.bl _,H,I,rfl,?_⟩
   rw[show aE.toArray.any (pd X.K H d)=aE.any (pd X.K H d) by simp,FW I r i o2]
   exact q
  |az _ _ _ _ _=>cases es
  |ref _ _=>cases es
 .exact SO aa s Z H _ _ v u Q I rx ry ⟨i,j,rfl,rfl,q⟩
 .cases ry;exact YK (by lia) I g rx λs3 I3=>⟨.bl (!o.isSome),H,I3,rfl,q⟩
def wI(ne:Bool)(a b:D):aj Rv:=if(bX 40 a&&bX 40 b)=true then some (rd (.bl (if ne=true then !aP a b else aP a b))) else none
def e6j:bP K (nj (DQ K)) (o2 (wI false)):=xt λk H x z a b y Q le t1 t2 e res=>by
 unfold wI at e;split at e
 .rename_i h
  obtain⟨h1,h2⟩:=Bv.mp h;cases e;exact⟨_,_,t1.rM le h1,t2.rM le h2,h1,h2,res.flat le rfl⟩
 .cases e
def e6k:bP K (nj (DV K)) (o2 (wI true)):=xt λk H x z a b y Q le t1 t2 e res=>by
 unfold wI at e;split at e
 .rename_i h
  obtain⟨h1,h2⟩:=Bv.mp h;cases e;exact⟨_,_,t1.rM le h1,t2.rM le h2,h1,h2,res.flat le rfl⟩
 .cases e
mutual
def rO:D->aj TK
 |.int i=>some (.inl i)
 |.str x=>some (.inr x)
 |.aF=>some .aF
 |.tup l=>(oV l).map .tp
 |_=>none
def oV:List D->aj (List TK)
 |[]=>some []
 |d::l=>(rO d).bind λk=>(oV l).map λks=>k::ks
end
def ky:D->aj TK
 |.int i=>some (.inl i)
 |.str x=>some (.inr x)
 |.aF=>some .aF
 |.tup l=>(oV l).bind λks=>if TK.ok 8 (.tp ks)=true then some (.tp ks) else none
 |_=>none
mutual
theorem e6l:∀{d:D} {k:TK},rO d=some k->k.d=d
 |.int i,k,e=>by simp only[rO] at e;cases e;simp[TK.d]
 |.str i,k,e=>by simp only[rO] at e;cases e;simp[TK.d]
 |.tup l,k,e=>by
  simp only[rO] at e;obtain⟨ks,h1,rfl⟩:=cW.mp e;simp only[TK.d];rw[pY h1]
 |.aF,k,e=>by simp only[rO] at e;cases e;simp[TK.d]
 |.ref _,k,e=>by simp[rO] at e
 |.bl _,k,e=>by simp[rO] at e
 |.ty _,k,e=>by simp[rO] at e
 |.lst _,k,e=>by simp[rO] at e
 |.az _,k,e=>by simp[rO] at e
theorem pY:∀{l:List D} {ks:List TK},oV l=some ks->TK.dl ks=l
 |[],ks,e=>by simp only[oV] at e;cases e;simp[TK.dl]
 |d::l,ks,e=>by
  simp only[oV] at e;obtain⟨k,h1,e⟩:=cg.mp e;obtain⟨xp,h2,rfl⟩:=cW.mp e;simp only[TK.dl];rw[e6l h1,pY h2]
end
def AS{d:D}{k:TK}(e:ky d=some k):k.d=d/\k.ok 8=true:=by
 cases d with
 |int i=>cases e;exact⟨by simp[TK.d],rfl⟩
 |str i=>cases e;exact⟨by simp[TK.d],rfl⟩
 |aF=>cases e;exact⟨by simp[TK.d],rfl⟩
 |tup l=>
  simp only[ky] at e;obtain⟨ks,h1,e⟩:=cg.mp e;split at e
  .rename_i h
   cases e;exact⟨by simp only[TK.d];rw[pY h1],h⟩
  .cases e
 |_=>cases e
def aR(kvs:List (TK×D))(k:TK):aj D:=(kvs.find? λkv=>decide (kv.1=k)).map (·.2)
theorem Je{F:Kn}{k:TK}:∀{ws:List (TK×V×V)} {kvs:List (TK×D)},ws.map (·.1)=kvs.map (·.1)->ah K F (ws.map (·.2.2)) (kvs.map (·.2))->(jC ws k=none/\aR kvs k=none)\/∃v d,jC ws k=some v/\aR kvs k=some d/\ah K F [v] [d]
 |[],[],_,_=>.inl ⟨rfl,rfl⟩
 |w::ws,p::kvs,h,r=>by
  rw[bY,bY] at h;injection h with h1 h2;unfold jC aR;rw[oX,oX,h1];by_cases e:p.1=k
  .rw[qF e];exact .inr ⟨w.2.2,p.2,rfl,rfl,r.inv.1⟩
  .rw[rS e];exact Je h2 r.inv.2
 |[],_::_,h,_=>by simp at h
 |_::_,[],h,_=>by simp at h
def vY{k:Kn}{H:Hp}{x y:V}{kvs:List (TK×D)}{d:D}{j:TK}(le:av k.F H)(t1:Top K k H x (.az kvs))(t2:Top K k H y d)(hk:ky d=some j):∃a o,x=.ref a/\gE K H a y o/\((o=none/\aR kvs j=none)\/∃v e,o=some v/\aR kvs j=some e/\ah K k [v] [e]):=by
 obtain⟨a,es,ep,rfl,h1,h2,h3,h4⟩:=t1.az le;obtain⟨k1,k2⟩:=AS hk;refine⟨a,jC es j,rfl,⟨es,ep,j,h1,O_ h2 h3 le,?_,k2,rfl⟩,Je h2 h4⟩;have:=t2.rep le;rw[<-k1] at this;exact tK (k:=k.all H) j this
def Bd(neg:Bool)(a b:D):aj Rv:=match b with
 |.az kvs=>(ky a).map λj=>rd (.bl (if neg=true then !(aR kvs j).isSome else(aR kvs j).isSome))
 |.str j=>(match a with
  |.str i=>some (rd (.bl (if neg=true then !(!(Builtin.Str.occurrences j i 0 j.length 1).isEmpty) else !(Builtin.Str.occurrences j i 0 j.length 1).isEmpty)))
  |_=>none)
 |e=>(zX e).bind λds=>if(bX 40 a&&ds.all (bX 40))=true then some (rd (.bl (if neg=true then !ds.any λz=>aP z a else ds.any λz=>aP z a))) else none
def YT{k:Kn}{H:Hp}{x:V}{e:D}{ds:List D}(le:av k.F H)(t:Top K k H x e)(h:zX e=some ds)(ok:ds.all (bX 40)=true):a_ K H [x] [e]:=by
 cases e with
 |lst _=>cases h;obtain⟨p,ws,rfl,q,r⟩:=t.lst le;exact .lst q (Top.RV r le ok) .nil
 |tup _=>cases h;obtain⟨p,ws,rfl,q,r⟩:=t.tup le;exact .tup q (Top.RV r le ok) .nil
 |_=>cases h
def QR(neg:Bool):bP K (nj (zQ K neg)) (o2 (Bd neg)):=xt λk H x z a b y Q le t1 t2 e res=>by
 unfold Bd at e;split at e
 .obtain⟨j,hj,rfl⟩:=cW.mp e;obtain⟨p,o,rfl,g,h⟩:=vY le t2 t1 hj;refine .inr (.inr ⟨p,o,rfl,g,?_⟩);have z:=res.flat le rfl;rcases h with⟨rfl,h⟩|⟨v,e,rfl,h,_⟩ <;> rw[h] at z <;> exact z
 .split at e
  .cases e;cases t1.flat rfl;cases t2.flat rfl;exact .inr (.inl ⟨_,_,rfl,rfl,res.flat le rfl⟩)
  .cases e
 .obtain⟨ds,h1,e⟩:=cg.mp e;split at e
  .rename_i h
   obtain⟨h2,h3⟩:=Bv.mp h;cases e;exact .inl ⟨_,_,ds,t1.rM le h2,YT le t2 h1 h3,h1,h2,h3,res.flat le rfl⟩
  .cases e
def zR(neg:Bool):R2:=λx y H Q=>(y=.aF/\Q (.bl (if neg then !decide (x=.aF) else decide (x=.aF))) H)\/∃a b,x=.bl a/\y=.bl b/\Q (.bl (if neg then a != b else a == b)) H
def e1k:dw X (compareOp .Is) (zR false):=zL.or e0d
def YU:dw X (compareOp .IsNot) (zR true):=vA.or Yj
noncomputable def tO:D->Bool
 |.aF=>true
 |_=>false
def Be(neg:Bool)(a b:D):aj Rv:=match b with
 |.aF=>some (rd (.bl (if neg=true then !tO a else tO a)))
 |.bl b=>(match a with
  |.bl a=>some (rd (.bl (if neg=true then a != b else a == b)))
  |_=>none)
 |_=>none
def V0{k:Kn}{H:Hp}{x:V}{d:D}(h:Top K k H x d):decide (x=.aF)=tO d:=by
 rcases h with h|⟨p,c,rfl,rfl,h⟩
 .cases h with
  |flat q _=>cases d <;> cases q <;> rfl
  |_=>rfl
 .cases c <;> rfl
def QS(neg:Bool):bP K (nj (zR neg)) (o2 (Be neg)):=xt λk H x z a b y Q le t1 t2 e res=>by
 unfold Be at e;split at e
 .cases e;cases t2.flat rfl;refine .inl ⟨rfl,?_⟩;rw[V0 t1];exact res.flat le rfl
 .split at e
  .cases e;cases t1.flat rfl;cases t2.flat rfl;exact .inr ⟨_,_,rfl,rfl,res.flat le rfl⟩
  .cases e
 .cases e
def DS(K:PySem.W.Frag):R2:=λx y H Q=>zS K x y H Q\/zT K x y H Q\/DT x y H Q\/∃a v,x=.ref a/\gE K H a y (some v)/\Q v H
def YV(hu:X.A.units+9<cLine):qO X (λx y H Q=>∃a v,x=.ref a/\gE X.K H a y (some v)/\Q v H):=by
 intro value slice aa s Z H x y v u Q I rx ry h hs;obtain⟨a,w,rfl,g,q⟩:=h;cases rx;exact tail_any (g.ty I).1 PySem.F.slot_dict_getitem.lookup (NI hu I g ry λw' s3 I3 m6=>⟨w,H,I3,m6,q⟩) hs
def KH(K:PySem.W.Frag)(hu:X.A.units+41<cLine)(hK:X.K=K):qO X (DS K):=by
 subst hK;exact(VL X.K rfl).or ((Yk X.K rfl).or (zA.or (YV (by lia))))
noncomputable def intD:D->aj Int
 |.int k=>some k
 |_=>none
def FF{i:D}{k:Int}(h:intD i=some k):i=.int k:=by
 cases i with
 |int _=>cases h;rfl
 |_=>cases h
def Pb{F:Kn}{ws:List V}{ds:List D}{i:Int}{d:D}(r:ah K F ws ds)(e:cY ds i=some d):∃v,cY ws i=some v/\ah K F [v] [d]:=by
 unfold cY at e ⊢;rw[r.length];cases q:tI ds.length i with
 |none=>rw[q] at e;cases e
 |some j=>
  rw[q] at e;exact r.get e
def G2(a i:D):aj Rv:=match a with
 |.lst ds=>(intD i).bind λk=>(cY ds k).map rd
 |.tup ds=>(intD i).bind λk=>(cY ds k).map rd
 |.str z=>(intD i).bind λk=>if z.length<=1000000 then(cY z.cps.toList k).map λc=>rd (.str ⟨#[c]⟩) else none
 |.az kvs=>(ky i).bind λj=>(aR kvs j).map rd
 |_=>none
def e6m:bP K (nj (DS K)) (o2 G2):=xt λk H x z a b y Q le t1 t2 e res=>by
 unfold G2 at e;split at e
 .obtain⟨i,hi,e⟩:=cg.mp e;cases FF hi;cases t2.flat rfl;obtain⟨d,h1,rfl⟩:=cW.mp e;obtain⟨p,ws,rfl,q,r⟩:=t1.lst le;obtain⟨v,h2,h3⟩:=Pb r h1;exact .inl ⟨p,ws,i,v,rfl,rfl,q,h2,res.rep le h3⟩
 .obtain⟨i,hi,e⟩:=cg.mp e;cases FF hi;cases t2.flat rfl;obtain⟨d,h1,rfl⟩:=cW.mp e;obtain⟨p,ws,rfl,q,r⟩:=t1.tup le;obtain⟨v,h2,h3⟩:=Pb r h1;exact .inr (.inl ⟨p,ws,i,v,rfl,rfl,q,h2,res.rep le h3⟩)
 .obtain⟨i,hi,e⟩:=cg.mp e;cases FF hi;cases t2.flat rfl;cases t1.flat rfl;split at e
  .obtain⟨c,h1,rfl⟩:=cW.mp e;exact .inr (.inr (.inl ⟨_,i,c,rfl,rfl,ml (by assumption),h1,res.flat le rfl⟩))
  .cases e
 .obtain⟨j,hj,e⟩:=cg.mp e;obtain⟨d,h1,rfl⟩:=cW.mp e;obtain⟨p,o,rfl,g,h⟩:=vY le t1 t2 hj;rcases h with⟨_,h⟩|⟨v,e,rfl,h,r⟩
  .rw[h] at h1;cases h1
  .rw[h] at h1;cases h1;exact .inr (.inr (.inr ⟨p,v,rfl,g,res.rep le r⟩))
 .cases e
noncomputable def cutD(ds:List D)(lo hi:aj Int):List D:=(ds.drop (HT.cy ds.length 0 lo)).take (HT.cy ds.length ds.length hi - HT.cy ds.length 0 lo)
def DW(K:PySem.W.Frag):V->aj Int->aj Int->Hp->VK->Prop:=λx lo hi H Q=>DX x lo hi H Q\/zU K x lo hi H Q\/zV K x lo hi H Q
def LB(K:PySem.W.Frag)(hK:X.K=K):sv X (DW K):=zY.or ((VM K hK).or (Yl K hK))
def LA(a:D)(lo hi:aj Int):aj Rv:=match a with
 |.str z=>if z.length<=1000000 then some (rd (.str (Txt.slice z lo hi))) else none
 |.lst ds=>some (.o (.lst (cutD ds lo hi)))
 |.tup ds=>if HT.cy ds.length 0 lo=0/\HT.cy ds.length ds.length hi=ds.length then none else some (rd (.tup (cutD ds lo hi)))
 |_=>none
def Pc{k:Kn}{ws:List V}{ds:List D}{lo hi:aj Int}(r:ah K k ws ds):ah K k (nO ws lo hi) (cutD ds lo hi):=by
 unfold nO cutD;rw[r.length];exact(r.drop _).take _
def e6n{k:Kn}{H:Hp}{x:V}{a:D}{y:Rv}{Q:VK}{lo hi:aj Int}(le:av k.F H)(t:Top K k H x a)(e:LA a lo hi=some y)(res:kY K k H y Q):DW K x lo hi H Q:=by
 unfold LA at e;split at e
 .split at e
  .cases e;cases t.flat rfl;exact .inl ⟨_,rfl,ml (by assumption),res.flat le rfl⟩
  .cases e
 .cases e;obtain⟨p,ws,rfl,q,r⟩:=t.lst le;exact .inr (.inl ⟨p,ws,rfl,q,λl hl=>res.lst le (Pc r) hl⟩)
 .split at e
  .cases e
  .rename_i fH
   cases e;obtain⟨p,ws,rfl,q,r⟩:=t.tup le;exact .inr (.inr ⟨p,ws,rfl,q,by rw[r.length];exact fH,λl hl=>res.tup le (Pc r) hl⟩)
 .cases e
abbrev GO:=Gx (aj Int)
abbrev Ar:Rp (aj Int) (aj Int):=λ_ _ b a=>b=a
def yH:GO:=λ_ S=>some (.ok none S)
noncomputable def Rv.int:Rv->aj Int
 |.v (.d (.int i))=>some i
 |_=>none
noncomputable def yI(g:GE):GO:=λU S=>bd (g U S) λr S1=>r.int.map λi=>.ok (some i) S1
def wx(f:GE)(lo hi:GO):GE:=λU S=>bd (f U S) λr S1=>bd (lo U S1) λl S2=>bd (hi U S2) λu S3=>((vI S3 (m9 r)).bind λd=>LA d l u).map λy=>.ok y S3
def Rv.iS{r:Rv}{i:Int}(h:r.int=some i):r=rd (.int i):=by
 unfold Rv.int at h;split at h
 .cases h;rfl
 .cases h
section
variable{W:XW}{q:Nat}{e:Expr}{lo hi:aj Expr}{f:GE}{fl fh:GO}{pos p2:Pos}
def ve:PO X none (tX Ar K W q yH):=λaa s Z H Q I t=>X2 aa s Z H Q I (CN t λ_ _=>rfl)
def vf(h:PE X e (tE K W q f)):PO X (some e) (tX Ar K W q (yI f)):=λaa s Z H Q I t=>X3 h aa s Z H Q I (by
 obtain⟨k,U,S,res,ok,gk,e,w⟩:=t;refine tX.bd ok gk e w λr S1 x k1 H1 bw g1 r1 e1 w1 _=>?_
 obtain⟨i,e2,rfl⟩:=cW.mp e1;cases Rv.iS e2;exact⟨i,(show ah K k1 [x] [.int i] from r1).aX rfl,w1.now bw rfl⟩)
def V1(he:PE X e (tE K W q f))(hl:PO X lo (tX Ar K W q fl))(hu:PO X hi (tX Ar K W q fh))(hK:X.K=K):PE X (.Subscript e (.Slice lo hi none p2) pos) (tE K W q (wx f fl fh)):=(VF (LB K hK) he hl hu).mono λZ H Q t=>by
 obtain⟨k,U,S,res,ok,gk,e,w⟩:=t;refine tX.bd ok gk e w λr S1 x k1 H1 bw g1 r1 e1 w1 _=>?_
 obtain⟨k2,u2,cA,r2⟩:=rG bw r1;refine tX.bd cA (g1.up (u2 q)) e1 (w1.up (u2 q)) λl S3 l' k3 H3 jB g3 r3 e3 w3 u3=>?_
 cases r3;refine tX.bd jB g3 e3 w3 λu S4 u' k4 H4 rf g4 r4 e4 w4 u4=>?_
 cases r4;obtain⟨y,e5,rfl⟩:=cW.mp e4;obtain⟨d,e6,e7⟩:=cg.mp e5;exact e6n rf.le (FR rf ((r2.up u3).up u4) e6) e7 (.fin rf w4)
end
end
section
variable{X:Cx}{K:PySem.W.Frag}
def gG:List Int->Int
 |[]=>0
 |x::xs=>xs.foldl (λa b=>if b<a then b else a) x
def UQ(xs:List Int):∀x:Int,(xs.foldl (λa b=>if b<a then b else a) x<=x/\∀y∈xs,xs.foldl (λa b=>if b<a then b else a) x<=y)/\(xs.foldl (λa b=>if b<a then b else a) x=x\/xs.foldl (λa b=>if b<a then b else a) x∈xs):=by
 induction xs with
 |nil=>intro x;exact⟨⟨Et _,λy m=>by cases m⟩,.inl rfl⟩
 |cons z xs ih=>
  grind
def NJ{xs:List Int}(h:xs≠[]):gG xs∈xs/\∀y∈xs,gG xs<=y:=by
 cases xs with
 |nil=>exact bT rfl h
 |cons x xs=>
  obtain⟨⟨h1,h2⟩,h3⟩:=UQ xs x;refine⟨?_,λy m=>?_⟩
  .rcases h3 with h3|h3
   .show List.foldl _ x xs∈_;rw[h3];exact .head _
   .exact .tail _ h3
  .rcases y07.mp m with rfl|m
   .exact h1
   .exact h2 y m
theorem Nc:∀{is:List Int} {aE:List ai},Vals (is.map V.int) aE->∃ps:List (Int×Tok),aE=ps.map (λp=>Value.int p.1 p.2)/\ps.map (·.1)=is
 |[],aE,h=>by
  rw[Bs] at h;cases h;exact⟨[],rfl,rfl⟩
 |i::is,aE,h=>by
  rw[bY] at h;cases h with
  |cons r t=>
   obtain⟨ps,e1,e2⟩:=Nc t;obtain⟨tk,rfl⟩:=r;exact⟨(i,tk)::ps,by rw[e1];rfl,by rw[bY,e2]⟩
def V2(K:PySem.W.Frag)(hc:X.calm=true:=by rfl)(hK:X.K=K:=by rfl):bI X (.builtin "min") (λxs H Q=>∃(a:ag) (is:List Int),xs=[.ref a]/\cC K H a (is.map V.int)/\is≠[]/\Q (.int (gG is)) H):=by
 subst hK;intro aa s Z H xs us Q I r h;obtain⟨a,is,rfl,hs,fH,q⟩:=h;obtain⟨u,rfl,ru⟩:=vals1 r;cases ru;obtain⟨aE,rv,p,hz⟩:=I.list hs;obtain⟨ps,e1,e2⟩:=Nc rv;subst e1;have hl:0<ps.length:=by
  cases ps with
  |nil=>exact bT e2.symm fH
  |cons _ _=>simp
 have el:(ps.map λp=>Value.int p.1 p.2).toArray=intItems ps.toArray:=by unfold intItems;simp
 have pl:=p.isList;rw[el] at pl;refine min_intList (I.ok.hd hc) pl (by simpa using hl) λv h' tk hv hk=>?_
 obtain⟨b1,b2⟩:=argBest_lt (numAt ps.toArray) (ps.toArray.size - 1);generalize argBest (λi j=>decide (numAt ps.toArray i<numAt ps.toArray j)) (ps.toArray.size - 1)=n at *
 have hn:n<ps.length:=by simp at b1;lia
 have oH:∀j (hj:j<ps.length),numAt ps.toArray j=(ps[j]).1:=λj hj=>by unfold numAt;simp[hj]
 have Ky:v=Value.int (ps[n]).1 (ps[n]).2:=by
  unfold intItems at hv;simp[hn] at hv;exact hv.symm
 have hm:gG is=(ps[n]).1:=by
  obtain⟨m1,m2⟩:=NJ fH;have i1:(ps[n]).1∈is:=by rw[<-e2];exact kS (f:=(·.1)) (Hh hn)
  have c1:=m2 _ i1;rw[<-e2] at m1;obtain⟨pp,Kw,hp2⟩:=cX.mp m1;obtain⟨j,hj,ej⟩:=List.mem_iff_getElem.mp Kw;have c2:=b2 j (by simp;lia)
  rw[oH n hn,oH j hj,ej] at c2;rw[e2] at hp2;lia
 rw[Ky];exact⟨.int (gG is),H,I.kept (h':=h') (t':=tk) λb o e=>hk b o e,⟨(ps[n]).2,by rw[hm]⟩,q⟩
def ku:List D->aj (List Int)
 |[]=>some []
 |.int i::ds=>(ku ds).map λis=>i::is
 |_=>none
theorem NK:∀is:List Int,ku (is.map .int)=some is
 |[]=>rfl
 |i::is=>by rw[bY];show(ku (is.map .int)).map _=_;rw[NK is];rfl
theorem NL:∀{ds:List D} {is:List Int},ku ds=some is->ds=is.map .int
 |[],is,e=>by cases e;rfl
 |d::ds,is,e=>by
  cases d with
  |int i=>
   obtain⟨js,e1,e2⟩:=cW.mp (show(ku ds).map _=some is from e);rw[<-e2,NL e1];rfl
  |_=>cases e
theorem MW{F:Kn}:∀{ws:List V} {is:List Int},ah K F ws (is.map .int)->ws=is.map .int
 |[],[],_=>rfl
 |[],_::_,h=>by have:=h.length;simp at this
 |_::_,[],h=>by have:=h.length;simp at this
 |w::ws,i::is,h=>by
  rw[bY] at h;have h1:=h.inv.1;have h2:=MW h.inv.2;rw[h2,bY];cases h1 with
  |flat e _=>cases e;rfl
end
section
variable{X:Cx}{K:PySem.W.Frag}
end
end L2
namespace L2
open PySem PySem.Spec PySem.W PyProof.Rows
section
variable{X:Cx}{K:PySem.W.Frag}
def LS(k:String):Bool:=k == "tuple" || k == "list"
def xD(K:Frag):List V->Hp->VK->Prop:=λxs H Q=>∃x k q,xs=[x,.ref q]/\Cy K H x k/\gA K H q [.ty "tuple",.ty "list"]/\Q (.bl (LS k)) H
def UR(K:Frag)(hK:X.K=K:=by rfl):bI X (.builtin "isinstance") (xD K):=by
 subst hK;intro aa s Z H xs us Q I r h;obtain⟨x,k,q,rfl,hk,hq,qq⟩:=h;obtain⟨u,w',rfl,rx,ry⟩:=vals2 r;cases ry;obtain⟨aE,rv,⟨ot,h1,h2,n,h3⟩,_⟩:=I.tuple hq;obtain⟨oc,odd,odt,uG⟩:=ot;dsimp only at h2 h3;subst h2;subst h3;obtain⟨u1,u2,rfl,r1,r2⟩:=vals2 rv;cases r1;cases r2;have fin:∀b,b=LS k->∀tk,EP X aa Z Q (.bool b) { s with toks:=tk}:=λb e tk=>uX (I.tok _) qq e.symm
 cases x with
 |aF=>
  cases rx;have hk:k="NoneType":=hk;subst hk;exact kia_tup (b:=false) kitx_none I.jL ug h1 (by rfl) (λz=>nomatch z) (fin _ rfl)
 |bl b=>
  cases rx;have hk:k="bool":=hk;subst hk;exact kia_tup (b:=false) kitx_bool I.jL ug h1 (by rfl) (λz=>nomatch z) (fin _ rfl)
 |int i=>
  obtain⟨t,rfl⟩:=rx;have hk:k="int":=hk;subst hk;exact kia_tup (b:=false) kitx_int I.jL ug h1 (by rfl) (λz=>nomatch z) (fin _ rfl)
 |str z=>
  obtain⟨t,rfl⟩:=rx;have hk:k="str":=hk;subst hk;exact kia_tup (b:=false) kitx_str I.jL ug h1 (by rfl) (λz=>nomatch z) (fin _ rfl)
 |ref a=>
  cases rx;rcases hk with⟨hk,ys,hs⟩|⟨hk,ys,hs⟩
  .subst hk;obtain⟨aE,_,⟨o,n,e,hc,_⟩,_⟩:=I.list hs;exact kia_tup (b:=true) kitx_list I.jL ⟨o,e,hc⟩ h1 (by rfl) (λz=>nomatch z) (fin _ rfl)
  .subst hk;obtain⟨aE,_,⟨o,e,hc,_⟩,_⟩:=I.tuple hs;exact kia_tup (b:=true) kitx_tuple I.jL ⟨o,e,hc⟩ h1 (by rfl) (λz=>nomatch z) (fin _ rfl)
 |wy _=>exact False.elim hk
 |wN _=>exact False.elim hk
 |ty _=>exact False.elim hk
end
end L2
namespace L2
open PySem PySem.Spec PyProof.Rows
variable{A:cF}{E:ai->aq->Prop}{s:aq}{ep:Nat}
theorem Te{Q:Bool->aq->Prop}{P:cS}{w:ck}{d:ag}(hT:s.TypeIs (.ref d) "dict")(h:Q false s):wpAny (model P w) A (Builtin.List.listLengthHint (.ref d)) Q E s:=by
 unfold Builtin.List.listLengthHint;refine ay (wpAny_specialOf hT F.slot_dict_len.lookup ?_);dsimp only;rw[show splitId "dict.__len__"=some ("dict","__len__") from by decide +kernel]
 dsimp only;refine ay (wpAny_isInstance (b:=true) hT (by rw[isSubtype_type];kernel_rfl) ?_)
 rw[aJ (by decide)]
 refine wpAny_ite_true (by decide +kernel) (ay (wpAny_typeOf hT ?_))
 exact aS h
section
variable{P:cS}{w:ck}{A:cF}{E:ai->aq->Prop}{s:aq}
def US{n:Nat}{ob:Obj}{xs:Array DictEntry}(hh:A.handled=none)(J d:ag)(fH:d≠J)(g2:ob.data=.dict xs ep)(hl:xs.size=n):
  Walks P w A J [J,d] [J] n (λi v=>xs[i]?.map (·.key)=some v) (λi h=>h.IsKeyIter J d i n ep/\h.get? d=some ob) where
 sub:=λb hb=>by simp at hb;simp[hb]
 frame:=λ_ _ _ st hk=>⟨st.1.at λo e=>hk J (by simp) o e,hk d (by simp) _ st.2⟩
 item:=λi s Q E hi st hQ=>by
  have lt:i<xs.size:=by lia
  refine M' st.2 g2 hl st.1 lt λh' Bf sb=>?_
  exact hQ _ h' s.toks (by rw[uJ lt];rfl) ⟨Bf,(sb.2 d fH).trans st.2⟩ λb o hb e=>sb.extBut b o (λh=>hb (by simp[h])) e
 done:=λs Q E st hQ=>NA hh st.2 g2 hl st.1 (bG _) λh' he'=>hQ h' s.toks λb o hb e=>he' b o (λh=>hb (by simp[h])) e
 self:=λ_ _ _ _ st hQ=>wpAny_pyIter_keyiter st.1 hQ
end
theorem Pd:∀{ys:List V} {us:List ai},ys.length=us.length->(∀(j:Nat) (y:V) (u:ai),ys[j]?=some y->us[j]?=some u->RelV y u)->Vals ys us
 |[],[],_,_=>.nil
 |y::ys,u::us,hl,h=>.cons (h 0 y u rfl rfl) (Pd (by simpa using hl) λj y' u' e1 e2=>h (j+1) y' u' (by simpa using e1) (by simpa using e2))
 |[],_::_,h,_=>by simp at h
 |_::_,[],h,_=>by simp at h
section
variable{X:Cx}{aa:List (ag×Obj)}{Z:St}{H:Hp}
theorem Sy{d:ag}{es:List (TK×V×V)}{Q:ai->aq->Prop}(hh:A.handled=none)(I:Inv X aa Z H s)(hd:H d=some (.dG es ep))
  (hQ:∀s',(∀b u,s.heap.get? b=some u->s'.heap.get? b=some u)->s'={ s with heap:=s'.heap,toks:=s'.toks}->(∃aE c,Vals (es.map (·.2.1)) aE/\s'.heap.get? s.heap.objs.size=some { cls:=.type "list",data:=.seq aE.toArray c})->Q (.ref s.heap.objs.size) s') :
  wpAny (model X.prog X.w) A (call (.type "list") [.ref d]) Q E s:=by
 obtain⟨hz,z,ob,xs,g1,g5,g2,g3,g4⟩:=(show bq X.prog X.w H s.heap d (.dG es ep) from I.bh d _ hd);have hl:xs.size=es.length:=by have:=Paired.length g3;simpa using this.symm
 have ld:d<s.heap.objs.size:=cD g1;refine callType_codes (Q₁:=λobj s₁=>obj=.ref s.heap.objs.size/\s₁={ s with heap:=s.heap.push { cls:=.type "list",data:=.seq #[]}}) F.called_list (F.typeCall_list_1 _) F.entry_list_init (code_list_new _ ⟨rfl,rfl⟩) λobj s₁ q₁=>?_
 obtain⟨rfl,rfl⟩:=q₁;have gS:(s.heap.push { cls:=.type "list",data:=.seq #[]}).get? s.heap.objs.size=some { cls:=.type "list",data:=.seq #[]}:=jq _ rfl;refine⟨⟨_,gS,rfl⟩,F.args_list_init_2 _ _,?_⟩;show wpAny _ _ (do let old <-Builtin.List.listItems (.ref s.heap.objs.size);Builtin.List.listUpdate (.ref s.heap.objs.size) (λ_=>#[]);letGo old.toList.reverse;Builtin.List.listExtendWith (.ref s.heap.objs.size) (.ref d) .none) _ _ _
 refine ay ?_;unfold Builtin.List.listItems;refine ay (wpAny_seqItems gS rfl (aS ?_));show wpAny _ _ (updateSeq s.heap.objs.size (λ_=>#[]) >>= λ_=>letGo (#[]:Array ai).toList.reverse >>= λ_=>Builtin.List.listExtendWith (.ref s.heap.objs.size) (.ref d) .none) _ _ _
 refine ay (wpAny_updateSeq gS rfl ?_);have gT:=rQ (Obj.mapSeq (λ_=>(#[]:Array ai))) gS rfl
 refine ay (wpAny_letGo ?_);have nS:∀b u,s.heap.get? b=some u->b≠s.heap.objs.size:=λb u e z=>by rw[z] at e;exact jQ _ (cD e)
 have k1:∀b u,s.heap.get? b=some u->((s.heap.push { cls:=.type "list",data:=.seq #[]}).update s.heap.objs.size (Obj.mapSeq (λ_=>(#[]:Array ai)))).get? b=some u:=
  λb u e=>(p4 _ _ (Ne.symm (nS b u e))).trans (cO _ e)
 have LF:((s.heap.push { cls:=.type "list",data:=.seq #[]}).update s.heap.objs.size (Obj.mapSeq (λ_=>(#[]:Array ai)))).objs.size=s.heap.objs.size+1:=by simp[Heap.update,Heap.push]
 generalize(s.heap.push { cls:=.type "list",data:=.seq #[]}).update s.heap.objs.size (Obj.mapSeq (λ_=>(#[]:Array ai)))=h1 at *
 have I1:Inv X aa Z H { s with heap:=h1,toks:=s.toks}:=I.kept k1;have hT1:Shared.TypeIs { s with heap:=h1} (.ref d) "dict":=⟨ob,k1 _ _ g1,g5.1⟩;unfold Builtin.List.listExtendWith;refine ay (wpAny_typeOf hT1 ?_);have ne:s.heap.objs.size≠d:=λe=>jQ _ (e ▸ ld)
 have c1:Builtin.List.listSameRef (.ref s.heap.objs.size) (.ref d)=false:=by simp[Builtin.List.listSameRef,ne]
 have c2:(Value.type "dict" == Value.type "list")=false:=by decide
 have c3:(Value.type "dict" == Value.type "tuple")=false:=by decide
 simp only[c1,c2,c3,Hm,rR,l_];refine ay (Oa I1 hd ?_);have J':Shared.TypeIs { s with heap:=h1.push { cls:=.type "dict_keyiterator",data:=.fields #[.ref d,.int 0 0,.int es.length 0,.int ep 0]}} (.ref d) "dict":=⟨ob,cO _ (k1 _ _ g1),g5.1⟩;refine ay (kT (Te J' ?_));refine wpAny_ite_true (by decide +kernel) (ay (wpAny_rule (ay ?_)))
 show wpAny _ _ (updateSeq s.heap.objs.size (·.push .none) >>= λ_=>updateSeq s.heap.objs.size (·.pop)) _ _ _
 have gU:=cO { cls:=.type "dict_keyiterator",data:=.fields #[.ref d,.int 0 0,.int es.length 0,.int ep 0]} gT;refine ay (wpAny_updateSeq gU rfl ?_);have gV:=rQ (Obj.mapSeq (·.push Value.none)) gU rfl
 refine wpAny_updateSeq (hz:=by seq_fits) gV rfl ?_
 have gW:=rQ (Obj.mapSeq (·.pop)) gV rfl
 have gJ:(h1.push { cls:=.type "dict_keyiterator",data:=.fields #[.ref d,.int 0 0,.int es.length 0,.int ep 0]}).get? h1.objs.size=some { cls:=.type "dict_keyiterator",data:=.fields #[.ref d,.int 0 0,.int es.length 0,.int ep 0]}:=jq _ rfl;have K_:∀b o,b≠s.heap.objs.size->(h1.push { cls:=.type "dict_keyiterator",data:=.fields #[.ref d,.int 0 0,.int es.length 0,.int ep 0]}).get? b=some o->
   (((h1.push { cls:=.type "dict_keyiterator",data:=.fields #[.ref d,.int 0 0,.int es.length 0,.int ep 0]}).update s.heap.objs.size (Obj.mapSeq (·.push Value.none))).update s.heap.objs.size (Obj.mapSeq (·.pop))).get? b=some o:=
  λb o hb e=>(p4 _ _ (Ne.symm hb)).trans ((p4 _ _ (Ne.symm hb)).trans e)
 have hJ:h1.objs.size≠s.heap.objs.size:=by rw[LF];exact Nat.succ_ne_self _
 have dJ:d≠h1.objs.size:=gp (by rw[LF];exact Ad ld)
 have W:=(US (P:=X.prog) (w:=X.w) (A:=A.in1.in1) (n:=es.length) (ep:=ep) hh h1.objs.size d dJ g2 hl).toS;have hSf:s.heap.objs.size∉[h1.objs.size,d]:=λm=>by
  simp at m;rcases m with m|m
  .exact hJ m.symm
  .exact ne m
 refine aS ⟨plainId_quiet F.plain_extend_loop _,codeAny_extend_loopS W hz _ hSf _ es.length 0 _ _ _ rfl (lD _) ⟨⟨_,K_ _ _ hJ gJ,rfl,rfl⟩,K_ _ _ (Ne.symm ne) (cO _ (k1 _ _ g1))⟩ gW (ItemsOf.nil _) λs' Ci c' hm hS' vk=>?_⟩
 obtain⟨m1,m2,m3,m4,m5⟩:=hm;have vh:s'={ s with heap:=s'.heap,toks:=s'.toks}:=by
  cases s';cases m2;cases m3;cases m4;rfl
 refine⟨rfl,hQ s' (λb u e=>m1 b u (λq=>?_) (K_ b u (nS b u e) (cO _ (k1 b u e)))) vh ⟨Ci.toList,c',?_,by simpa using hS'⟩⟩
 .rcases y07.mp q with q|q
  .exact nS b u e q
  .rw[kR] at q;have:=cD e;rw[q,LF] at this;exact bT this (Nat.not_lt.mpr (qD _))
 .have h2:Ci.size=es.length:=vk.1;refine Pd (by simp[h2]) λj y u e1 e2=>?_
  rw[gq] at e1;obtain⟨e,e3,rfl⟩:=cW.mp e1;obtain⟨x,x1,x2⟩:=B6 j g3 e3;have h3:=vk.2 j u (by rw[<-xX];exact e2)
  have x1:xs[j]?=some x:=by rw[<-xX];exact x1
  have h3:Option.map (λx=>x.key) xs[j]?=some u:=h3
  rw[x1] at h3;cases h3;exact x2.2.1
def RZ(K:PySem.W.Frag):List V->Hp->VK->Prop:=λxs H Q=>∃d es ep,xs=[.ref d]/\H d=some (.dG es ep)/\∀l,H l=none->Q (.ref l) (upd H l (.lst (es.map (·.2.1))))
def TN(hc:X.calm=true):bI X (.type "list") (RZ X.K):=by
 intro aa s Z H xs us Q I r h;obtain⟨d,es,ep,rfl,hd,q⟩:=h;obtain⟨u,rfl,ru⟩:=vals1 r;cases ru;refine Sy (I.ok.hd hc) I hd λs' kp vh hh=>?_
 obtain⟨aE,c,rv,g⟩:=hh;have hz:=(show bq X.prog X.w H s.heap d (.dG es ep) from I.bh d _ hd).1;rw[vh];exact⟨.ref s.heap.objs.size,_,I.laid kp (bG _) (show bq X.prog X.w _ s'.heap _ (.lst (es.map (·.2.1))) from⟨by rw[aY];exact hz,aE,c,rv,g⟩),rfl,q _ (I.bh.fresh (bG _))⟩
end
section
variable{X:Cx}{K:PySem.W.Frag}
def qw(r:V->List V->Hp->VK->Prop):List V->Hp->VK->Prop:=λvs H Q=>∃x xs,vs=x::xs/\r x xs H Q
def eR:List D->aj (List Str)
 |[]=>some []
 |.str x::ds=>(eR ds).map λxs=>x::xs
 |_=>none
theorem NM:∀xs:List Str,eR (xs.map .str)=some xs
 |[]=>rfl
 |i::is=>by rw[bY];show(eR (is.map .str)).map _=_;rw[NM is];rfl
theorem Iz:∀{ds:List D} {xs:List Str},eR ds=some xs->ds=xs.map .str
 |[],xs,e=>by cases e;rfl
 |d::ds,xs,e=>by
  cases d with
  |str i=>
   obtain⟨js,e1,e2⟩:=cW.mp (show(eR ds).map _=some xs from e);rw[<-e2,Iz e1];rfl
  |_=>cases e
theorem HY{F:Kn}:∀{ws:List V} {xs:List Str},ah K F ws (xs.map .str)->ws=xs.map .str
 |[],[],_=>rfl
 |[],_::_,h=>by have:=h.length;simp at this
 |_::_,[],h=>by have:=h.length;simp at this
 |w::ws,i::is,h=>by
  rw[bY] at h;have h1:=h.inv.1;have h2:=HY h.inv.2;rw[h2,bY];cases h1 with
  |flat e _=>cases e;rfl
theorem Ie:∀{xs:List Str} {aE:List ai},Vals (xs.map V.str) aE->∃ps:List (Str×Tok),aE=ps.map (λp=>Value.str p.1 p.2)/\ps.map (·.1)=xs
 |[],aE,h=>by
  rw[Bs] at h;cases h;exact⟨[],rfl,rfl⟩
 |i::is,aE,h=>by
  rw[bY] at h;cases h with
  |cons r t=>
   obtain⟨ps,e1,e2⟩:=Ie t;obtain⟨tk,rfl⟩:=r;exact⟨(i,tk)::ps,by rw[e1];rfl,by rw[bY,e2]⟩
end
section
variable{X:Cx}{K:PySem.W.Frag}
def gF:List D->aj (List Bool)
 |[]=>some []
 |.bl b::ds=>(gF ds).map λbs=>b::bs
 |_=>none
theorem Nd:∀{ds:List D} {bs:List Bool},gF ds=some bs->ds=bs.map .bl
 |[],bs,e=>by cases e;rfl
 |d::ds,bs,e=>by
  cases d with
  |bl i=>
   obtain⟨js,e1,e2⟩:=cW.mp (show(gF ds).map _=some bs from e);rw[<-e2,Nd e1];rfl
  |_=>cases e
theorem Nf{F:Kn}:∀{ws:List V} {bs:List Bool},ah K F ws (bs.map .bl)->ws=bs.map .bl
 |[],[],_=>rfl
 |[],_::_,h=>by have:=h.length;simp at this
 |_::_,[],h=>by have:=h.length;simp at this
 |w::ws,i::is,h=>by
  rw[bY] at h;have h1:=h.inv.1;have h2:=Nf h.inv.2;rw[h2,bY];cases h1 with
  |flat e _=>cases e;rfl
def UT(K:PySem.W.Frag)(hc:X.calm=true:=by rfl)(hK:X.K=K:=by rfl):bI X (.builtin "all") (λxs H Q=>∃(a:ag) (bs:List Bool),xs=[.ref a]/\cC K H a (bs.map V.bl)/\Q (.bl (bs.all id)) H):=hK ▸ Ux hc
noncomputable def A2(z:Str):ai->Bool
 |.str y _=>y == z
 |_=>false
def Qc(K:PySem.W.Frag):V->List V->Hp->VK->Prop:=λx xs H Q=>∃(a:ag) (ys:List Str) (z:Str) (j:Nat),x=.ref a/\xs=[.str z]/\cC K H a (ys.map V.str)/\ys[j]?=some z/\(∀i y,i<j->ys[i]?=some y->y≠z)/\Q (.int (j:Nat)) H
theorem V3(K:PySem.W.Frag)(hK:X.K=K:=by rfl):Ap X "list.index" (Qc K):=by
 subst hK;intro aa s Z H x xs v us Q I rx rs h;obtain⟨a,ys,z,j,rfl,rfl,hq,hj,fH,q⟩:=h;cases rx;obtain⟨u,rfl,ru⟩:=vals1 rs;obtain⟨t,rfl⟩:=ru;obtain⟨aE,rv,p,hz⟩:=I.list hq;obtain⟨ps,e1,e2⟩:=Ie rv;subst e1;obtain⟨ob,n,eo,hcl,hdi,hda⟩:=p;have hlen:ps.length=ys.length:=by rw[<-e2,aY]
 have hjl:j<ys.length:=(eS.mp hj).1;have hit:∀i (hi:i<ps.length),(ps.map λp=>Value.str p.1 p.2)[i]?=some (Value.str ps[i].1 ps[i].2):=λi hi=>by simp[hi]
 have GW:∀i (hi:i<ps.length),ys[i]?=some ps[i].1:=λi hi=>by rw[<-e2];simp[hi]
 have hsz:(ps.map λp=>Value.str p.1 p.2).toArray.size=ps.length:=by simp
 have Kk:ps[j].1=z:=by
  simp_all
 obtain⟨cl,di,da,sl⟩:=ob;cases hcl;cases hda;have GX:ys.length<=16777216:=by rw[aY,sizeLine_eq] at hz;exact hz
 refine call_meets F.slot_list_index ⟨_,eo,rfl⟩ F.entry_list_index (F.args_list_index_2 _ _) (SeqAt.list_indexAt a _ n di sl (.str z t) (A2 z) j (by rw[hsz];lia) (by lia) ?_ ?_) ⟨eo,?_,?_⟩
 .simp[A2,Kk]
 .intro i hi qo;rw[hsz] at hi;have:=fH i _ qo (GW i hi);simp[A2];exact this
 .intro y hy;simp at hy;obtain⟨b,t',_,rfl⟩:=hy;exact SeqAt.EqAt.str_str b t' z t
 .exact⟨.int (j:Nat),H,I.tok _,⟨_,rfl⟩,q⟩
def findS(ys:List Str)(z:Str):aj Nat:=ys.findIdx? (· == z)
def B1{ys:List Str}{z:Str}{j:Nat}(e:findS ys z=some j):ys[j]?=some z/\∀i y,i<j->ys[i]?=some y->y≠z:=by
 unfold findS at e;rw[List.findIdx?_eq_some_iff_getElem] at e;obtain⟨h,h1,h2⟩:=e;refine⟨by rw[jt h];congr 1;exact eq_of_beq h1,λi y hi ey=>?_⟩
 have:=h2 i hi;obtain⟨hl,e3⟩:=eS.mp ey;rw[e3] at this;intro z';subst z';simp at this
end
section
variable{X:Cx}{K:PySem.W.Frag}
def Pe:V->List V->Hp->VK->Prop:=λx xs H Q=>∃(l:ag) (ys:List Str) (z:Str) (j:Nat),x=.ref l/\xs=[.str z]/\H l=some (.lst (ys.map V.str))/\ys[j]?=some z/\(∀i y,i<j->ys[i]?=some y->y≠z)/\Q .aF (upd H l (.lst ((ys.eraseIdx j).map V.str)))
theorem E8{α β:Type}(f:α->β):∀(xs:List α) (j:Nat),(xs.map f).eraseIdx j=(xs.eraseIdx j).map f
 |[],j=>by simp
 |_::_,0=>rfl
 |x::xs,j+1=>by show f x::(xs.map f).eraseIdx j=f x::(xs.eraseIdx j).map f;rw[E8 f xs j]
theorem ME:∀{ps:List (Str×Tok)},Vals ((ps.map (·.1)).map V.str) (ps.map λp=>Value.str p.1 p.2)
 |[]=>.nil
 |p::ps=>.cons ⟨p.2,rfl⟩ ME
theorem UU:Ap X "list.remove" Pe:=by
 intro aa s Z H x xs v us Q I rx rs h;obtain⟨l,ys,z,j,rfl,rfl,hH,hj,fH,q⟩:=h;cases rx;obtain⟨u,rfl,ru⟩:=vals1 rs;obtain⟨t,rfl⟩:=ru;obtain⟨hz,aE,n,rv,hl,eo⟩:=I.zC hH;obtain⟨ps,e1,e2⟩:=Ie rv;subst e1;have hlen:ps.length=ys.length:=by rw[<-e2,aY]
 have hjl:j<ys.length:=(eS.mp hj).1;have GW:∀i (hi:i<ps.length),ys[i]?=some ps[i].1:=λi hi=>by rw[<-e2];simp[hi]
 have hsz:(ps.map λp=>Value.str p.1 p.2).toArray.size=ps.length:=by simp
 have Kk:ps[j].1=z:=by
  have:=GW j (by lia)
  rw[hj] at this;exact(Option.some.inj this).symm
 refine call_meets F.slot_list_remove ⟨_,eo,rfl⟩ F.entry_list_remove (F.args_list_remove_2 _ _) (MeetsSeq.list_remove l _ n (.str z t) (A2 z) ?_ j (by rw[hsz];lia) ?_ ?_ (by rw[hsz,hlen];simpa using hz)) ⟨eo,?_⟩
 .intro y hy;simp at hy;obtain⟨b,t',_,rfl⟩:=hy;show MeetsSeq.EqGives _ _ (b == z);rw[<-SeqAt.str_beq];exact SeqRoads2.EqGives.str b z t' t
 .simp[A2,Kk]
 .intro i hi qo;rw[hsz] at hi;have:=fH i _ qo (GW i hi);simp[A2];exact this
 .refine⟨.aF,_,I.zB (its':=(ps.eraseIdx j).map λp=>Value.str p.1 p.2) hH eo ?_ ?_ ?_,rfl,q⟩
  .apply Array.toList_inj.mp;simp[Array.toList_eraseIdxIfInBounds,E8]
  .rw[<-e2,E8];exact ME
  .rw[aY];have:=List.length_eraseIdx_le ys j;rw[aY] at hz;lia
end
end L2
namespace L2
open PySem PySem.Spec PySem.W PyProof.Rows
def V4{P:cS}{w:ck}{xs:List DictEntry}{kvs:List (Str×ai)}(p:Pairs (strKind P w) xs kvs):∀{es:List (TK×V×V)},(∀x∈xs,∃k,(strKind P w).is k x.key=true/\x.hash=(strKind P w).hash k)->kvs.map (λp=>TK.inr p.1)=es.map (·.1)->Vals (es.map (·.2.2)) (kvs.map (·.2))->h_ es->Paired (iJ w) es xs:=by
 induction p with
 |nil=>
  intro es _ e _ _;cases es with
  |nil=>exact .nil
  |cons _ _=>cases e
 |@cons x kv xs kvs h1 h2 _ ih=>
  intro es hk e v t;cases es with
  |nil=>cases e
  |cons a es=>
   rw[bY,bY,List.cons.injEq] at e;cases v with
   |cons v1 v2=>
    refine .cons ?_ (ih (λy m=>hk y (.tail _ m)) e.2 v2 λy m=>t y (.tail _ m))
    obtain⟨k,k1,k2⟩:=hk x (.head _);obtain⟨z,t1,t2⟩:=t a (.head _);have i1:Value.isStrOf kv.1 x.key=true:=h1;have i2:Value.isStrOf k x.key=true:=k1;cases hx:x.key with
    |str s tk=>
     rw[hx] at i1 i2;have j1:s=kv.1:=by simpa[Value.isStrOf] using i1
     have j2:s=k:=by simpa[Value.isStrOf] using i2
     have j3:kv.1=z:=by
      have:=e.1.trans t1;cases this;rfl
     refine⟨?_,?_,by rw[h2];exact v1,by rw[t1];rfl⟩
     .rw[k2,t1,<-j2,j1,j3];rfl
     .rw[t2,hx,j1,j3];exact⟨tk,rfl⟩
    |_=>rw[hx] at i1;cases i1
noncomputable def gj(z:Str)(k:TK):Bool:=decide (k≠.inr z)
theorem Pf(z:Str):∀{es:List (TK×V×V)} {kvs:List (Str×ai)},kvs.map (λp=>TK.inr p.1)=es.map (·.1)->Vals (es.map (·.2.2)) (kvs.map (·.2))->(without kvs z).map (λp=>TK.inr p.1)=(es.filter λe=>gj z e.1).map (·.1)/\Vals ((es.filter λe=>gj z e.1).map (·.2.2)) ((without kvs z).map (·.2))
 |[],[],_,_=>⟨rfl,.nil⟩
 |[],_::_,e,_=>by cases e
 |_::_,[],e,_=>by cases e
 |a::es,kv::kvs,e,v=>by
  rw[bY,bY,List.cons.injEq] at e;cases v with
  |cons v1 v2=>
   obtain⟨i1,i2⟩:=Pf z e.2 v2;unfold without at *;by_cases h:kv.1=z
   .have h':gj z a.1=false:=by unfold gj;rw[<-e.1,h];simp
    rw[ue,ue,aJ (by simp[h]),aJ (by rw[h'];exact oW)]
    exact⟨i1,i2⟩
   .have h':gj z a.1=true:=by unfold gj;rw[<-e.1];simpa using h
    rw[ue,ue,aN (by simpa using h),aN h']
    exact⟨by rw[bY,bY,i1,e.1],.cons v1 i2⟩
theorem Qd(z:Str){v:V}:∀{es:List (TK×V×V)} {kvs:List (Str×ai)},kvs.map (λp=>TK.inr p.1)=es.map (·.1)->Vals (es.map (·.2.2)) (kvs.map (·.2))->jC es (.inr z)=some v->∃u,valueAt kvs z=some u/\RelV v u
 |[],[],_,_,h=>by cases h
 |[],_::_,e,_,_=>by cases e
 |_::_,[],e,_,_=>by cases e
 |a::es,kv::kvs,e,vs,h=>by
  rw[bY,bY,List.cons.injEq] at e;cases vs with
  |cons v1 v2=>
   unfold jC at h;unfold valueAt;rw[oX] at h ⊢;by_cases g:kv.1=z
   .have g':a.1=.inr z:=by rw[<-e.1,g]
    rw[qF g'] at h;rw[qF g];cases h;exact⟨_,rfl,v1⟩
   .have g':¬a.1=.inr z:=by rw[<-e.1];intro x;cases x;exact g rfl
    rw[rS g'] at h;rw[rS g];exact Qd z e.2 v2 h
def xG(K:PySem.W.Frag):V->List V->Hp->VK->Prop:=λx vs H Q=>∃d es ep z v,x=.ref d/\vs=[.str z]/\H d=some (.dG es ep)/\h_ es/\jC es (.inr z)=some v/\∀pQ,Q v (upd H d (.dG (es.filter λe=>gj z e.1) pQ))
def YW{X:Cx}(K:PySem.W.Frag):Ap X "dict.pop" (xG K):=by
 intro aa s Z H x xs v us Q I rx rs h;obtain⟨d,es,ep,z,v',rfl,rfl,hd,ht,hv,q⟩:=h;cases rx;obtain⟨u,rfl,ru⟩:=rs.one;obtain⟨tk,rfl⟩:=ru;obtain⟨kvs,D1,D2,D3,D4,lo⟩:=AR I hd ht;obtain⟨w,hw,m6⟩:=Qd z D3 D2 hv;refine call_meetsIn PySem.F.slot_dict_pop (FE I hd).1 PySem.F.entry_dict_pop (PySem.F.args_dict_pop_2 _ _) (meets_dict_pop_there (strKind X.prog X.w) d (k:=z) (by show Value.isStrOf z (.str z tk)=true;simp[Value.isStrOf]) [] (.inl rfl) (by rfl)) ⟨kvs,w,D1.dictOf,D4,hw,λh' hD hs=>?_⟩
 obtain⟨o,xs,pQ,g1,g2,g3,g4,g5,g6⟩:=hD;obtain⟨f1,f2⟩:=Pf z D3 D2;obtain⟨hz,_⟩:=(show bq X.prog X.w H s.heap d (.dG es ep) from I.bh d _ hd);refine⟨v',_,Ja (ob:=.dG (es.filter λe=>gj z e.1) pQ) I (by rw[hd];exact ug) hs ⟨_,g1⟩ ⟨?_,lo,o,xs,g1,g2,g3,V4 g5 (λx m=>g4 x (L8.mp m)) f1 f2 λe m=>ht e (qC.mp m).1,?_⟩,m6,q pQ⟩
 .exact jo (xZ _ _) hz
 .rw[<-f1,show(λp:Str×ai=>TK.inr p.1)=TK.inr∘(·.1) from rfl,<-eU]
  exact List.Pairwise.map _ (λa b ne z=>ne (by cases z;rfl)) g6
end L2
namespace L2
open PySem PySem.Spec PyProof.Rows
section
variable{X:Cx}{K:PySem.W.Frag}
def xA(K:PySem.W.Frag):V->List V->Hp->VK->Prop:=λx xs H Q=>∃a y o,x=.ref a/\xs=[y]/\gE K H a y o/\Q (o.getD .aF) H
def YX(K:PySem.W.Frag)(hu:X.A.units+41<cLine)(hK:X.K=K:=by rfl):Ap X "dict.get" (xA K):=by
 subst hK;intro aa s Z H x xs v us Q I r rs h;obtain⟨a,y,o,rfl,rfl,g,q⟩:=h;obtain⟨u,rfl,ru⟩:=Vals.one rs;cases r;exact e0y (by lia) I g ru λw' s' I' m6=>⟨o.getD .aF,H,I',m6,q⟩
end
end L2
namespace L2
open PySem PySem.Spec PySem.W PyProof.Rows
section
variable{X:Cx}{A:cF}{E:ai->aq->Prop}{aa:List (ag×Obj)}{Z:St}{H:Hp}{s:aq}{d:ag}{y v2:V}{u r:ai}
end
section
variable{X:Cx}{K:PySem.W.Frag}
end
end L2
namespace L2
open PySem PySem.Spec PyProof.Rows
def IG{P:cS}{w:ck}{H:Hp}(h:bJ)(hb:sysModules<h.objs.size):bq P w H (h.push { cls:=.type "dict",data:=.dict #[]}) h.objs.size (.dG [] 0):=
 ⟨lD _,nc.mpr (Ne.symm (gp hb)),_,#[],jq _ rfl,⟨rfl,rfl,rfl⟩,rfl,.nil,Eu⟩
def e1m:TE:=λ_ H Q=>∀p,H p=none->Q (.ref p) (upd H p (.dG [] 0))
end L2
namespace L2
open PySem PySem.Spec PySem.W PyProof.Rows
variable{H:Hp}{ps:List (TK×V×V)}{A:cF}{l:ag}{ys:List V}{E:ai->aq->Prop}{s:aq}
def Mw:entryFor table "dict.update.loop"=some Builtin.«dict.update.loop»:=entryFor_of_tree (by kernel_rfl)
def EK:plainId "dict.update.loop"=true:=by decide +kernel
def eG(es:List (TK×V×V))(ps:List (TK×V×V)):List (TK×V×V):=ps.foldl (λes p=>cV es p.1 p.2.1 p.2.2) es
def Fi{d:ag}{o:HO}(h:H d=none):av H (upd H d o):=λb u e=>by
 rw[cP (λz=>by rw[z,h] at e;cases e)]
 exact e
section
variable{X:Cx}{aa:List (ag×Obj)}{Z:St}{H:Hp}
structure jE (K:PySem.W.Frag) (H:Hp) (ys:List V) (ps:List (TK×V×V)):Prop where
 len:ys.length=ps.length
 item:∀(i:Nat) p,ps[i]?=some p->∃a,ys[i]?=some (.ref a)/\gA K H a [p.2.1,p.2.2]/\a_ K H [p.2.1] [p.1.d]/\p.1.ok 8=true
def TQ(es ps:List (TK×V×V)):(eG es ps).length<=es.length+ps.length:=by
 induction ps generalizing es with
 |nil=>exact bG _
 |cons p ps ih=>
  grind [EZ,eG]
def Ng(K:PySem.W.Frag)(h:∀p∈ps,a_ K H [p.2.1] [p.1.d]):∀{es:List (TK×V×V)},a_ K H (es.map (·.2.1)) (es.map (·.1.d))->a_ K H ((eG es ps).map (·.2.1)) ((eG es ps).map (·.1.d)):=by
 induction ps with
 |nil=>exact λr=>r
 |cons p ps ih=>
  intro es r;refine ih (λq m=>h q (.tail _ m)) ?_
  have hp:=h p (.head _);clear ih h
  induction es with
  |nil=>exact hp
  |cons e es ih=>
   obtain⟨r1,r2⟩:=ah.inv r;show a_ K H ((if e.1=p.1 then(e.1,e.2.1,p.2.2)::es else e::cV es p.1 p.2.1 p.2.2).map (·.2.1)) ((if e.1=p.1 then(e.1,e.2.1,p.2.2)::es else e::cV es p.1 p.2.1 p.2.2).map (·.1.d))
   split
   .exact .cons r1 r2
   .exact .cons r1 (ih r2)
def TR{R:Result->aq->Prop}{d J:ag}(hd:H d=none)(hl:cC X.K H l ys)(hp:jE X.K H ys ps)(hh:A.handled=none)(hu:A.units+12<cLine)(hn:ps.length<1000)
  (hJ:∀u,iN X aa (upd H d u) J)
  (fin:∀s ep,Inv X aa Z (upd H d (.dG (eG [] ps) ep)) s->R (.ok (.ret .none)) s) :
  ∀(n i:Nat) (ep:Nat) (s:aq) (tk:Tok),ps.length - i=n->i<=ps.length->Inv X aa Z (upd H d (.dG (eG [] (ps.take i)) ep)) s->s.heap.IsListIter J l i->codeAny (model X.prog X.w) A (.builtin "dict.update.loop" ⟨[.ref d,.ref J,.int (i:Int) tk,.none],[]⟩) R s:=by
 intro n
 induction n with
 |zero=>
  intro i ep s tk hi hi2 I it;have e:i=ps.length:=by lia
  subst e;refine codeAny_builtin Mw ?_;rw[Around.under_plainId EK _];show wpAny _ A.in1 (pyNext (.ref J) >>= _) _ _ s;have mL:=(Fi (o:=.dG (eG [] (ps.take ps.length)) ep) hd).seq hl;obtain⟨aE,rv,p,hz⟩:=I.list mL;obtain⟨f0,f1,f2,f3,f4,f5⟩:=hJ (.dG (eG [] (ps.take ps.length)) ep);have hlen:=rv.length;have Dk:=hp.len;refine ay (wpAny_pyNext_list_end hh it p.isList (by simp;lia) λh' eb=>?_)
  have I1:=I.turned (t':=s.toks) (λb o hb e=>eb b o hb e) f0 f1 f3 f4 f5
  rw[Mf] at I1;exact ay (aS (aS (fin _ ep I1)))
 |succ n ih=>
  intro i ep s tk hi hi2 I it;have lt:i<ps.length:=by lia
  obtain⟨a,ya,sq,rk,ok⟩:=hp.item i ps[i] (jt lt);refine codeAny_builtin Mw ?_;rw[Around.under_plainId EK _];show wpAny _ A.in1 (pyNext (.ref J) >>= _) _ _ s;have sm:=Fi (o:=.dG (eG [] (ps.take i)) ep) hd;obtain⟨aE,rv,p,hz⟩:=I.list (sm.seq hl);obtain⟨u,hu1,ru⟩:=rv.get ya;obtain rfl:u=Value.ref a:=ru;obtain⟨f0,f1,f2,f3,f4,f5⟩:=hJ (.dG (eG [] (ps.take i)) ep);refine ay (wpAny_pyNext_list_item it p.isList (x:=.ref a) (by simpa using hu1) λh' Bf sb=>?_)
  have I1:Inv X aa Z (upd H d (.dG (eG [] (ps.take i)) ep)) { s with heap:=h'}:=I.turned (t':=s.toks) (λb o hb e=>(sb.2 b hb).trans e) f0 f1 f3 f4 f5
  obtain⟨iG,G6,tp,_⟩:=I1.tuple (sm.zZ sq);obtain⟨w1,w2,rfl,r1,r2⟩:∃w1 w2,iG=[w1,w2]/\RelV ps[i].2.1 w1/\RelV ps[i].2.2 w2:=by
   cases G6 with
   |cons r1 t=>
    cases t with
    |cons r2 t=>cases t;exact⟨_,_,rfl,r1,r2⟩
  obtain⟨o,ho,hc,n0,vn⟩:∃o,h'.get? a=some o/\o.cls=.type "tuple"/\∃n,o.data=.seq #[w1,w2] n:=by
   obtain⟨o,h1,h2,h3⟩:=tp;exact⟨o,h1,h2,h3⟩
  have hT:({ s with heap:=h'}:aq).TypeIs (.ref a) "tuple":=⟨o,ho,hc⟩;refine ay (kT (ay (wpAny_tryCatch ?_)));unfold Builtin.Dict.pairItems;refine ay (wpAny_typeOf hT ?_);rw[aN (by decide)]
  refine ay (m:=seqItems? (.ref a)) (ay (wpAny_load ho ?_));rw[vn];refine aS (aS ?_);show wpAny _ _ (holding [w1,w2] (dictSet d w1 w2)) _ _ _;refine kT ?_;have I2:=I1.pinned (fp:=[J]) (λb hb=>by rw[kR.mp hb];exact hJ _) (λb hb=>by
   rw[kR.mp hb];obtain⟨oj,ej,_,dj⟩:=Bf;exact⟨oj,ej,λv z=>by rw[dj] at z;cases z⟩)
  have tk1:ps.take (i+1)=ps.take i++[ps[i]]:=(List.take_append_getElem lt).symm;have hpa:cV (eG [] (ps.take i)) ps[i].1 ps[i].2.1 ps[i].2.2=eG [] (ps.take (i+1)):=by rw[tk1];unfold eG;rw[Ho];rfl
  have hlen:=TQ [] (ps.take i);rw[Ac,Af] at hlen;refine Iy (H':=upd (upd H d (.dG (eG [] (ps.take i)) ep)) d (.dG (eG [] (ps.take (i+1))) (rh (eG [] (ps.take i)) ps[i].1 ep))) (show A.in1.units+8<cLine from ?_) I2 ⟨_,ep,ps[i].1,aI,?_,(ah.He rk sm),ok,?_,by rw[hpa]⟩ r1 r2 λs' I3=>?_
  .lia
  .exact ah.He (H:=H) (Ng X.K (λq m=>by
    obtain⟨j,hj⟩:=Es.mp (List.mem_of_mem_take m);obtain⟨_,_,_,r,_⟩:=hp.item j q hj;exact r) .nil) sm
  .exact fM (by lia:(eG [] (ps.take i)).length<1000000) (by decide)
  .have eu:upd (upd H d (.dG (eG [] (ps.take i)) ep)) d (.dG (eG [] (ps.take (i+1))) (rh (eG [] (ps.take i)) ps[i].1 ep))=upd H d (.dG (eG [] (ps.take (i+1))) (rh (eG [] (ps.take i)) ps[i].1 ep)):=by
    funext b;unfold upd;split <;> rfl
   rw[eu] at I3;obtain⟨oj,ej,cj,dj⟩:=id Bf;have ej':s'.heap.get? J=some oj:=(I3.pin (J,oj) (pk _ (pk _ (BZ (by simp) ej)))).1
   refine aS ⟨plainId_quiet EK _,?_⟩;exact ih (i+1) _ s' _ (by lia) lt I3.eE ⟨oj,ej',cj,dj⟩
theorem UW{aE:Array ai}{Q:aj ai->aq->Prop}(pl:PlainL s.heap l aE)(hA:A.handled=none)
  (h:∀h' tk,(∀b u,s.heap.get? b=some u->h'.get? b=some u)->Q none { s with heap:=h',toks:=tk}):wpAny (model X.prog X.w) A (getAttr? (.ref l) "keys") Q E s:=by
 obtain⟨o,n,hx,hc,hd,vn⟩:=pl;obtain⟨c,az,dat,sl⟩:=o;simp only at hc vn hd;subst hc vn hd;obtain⟨hp,g,d,tk,os⟩:=s;have hT:∀Sd,(⟨hp,g,d,Sd,os⟩:aq).TypeIs (.ref l) "list":=λ_=>⟨_,hx,rfl⟩
 have f1:=sub_AttributeError;have f3:=F.slot_list_getattribute.lookup;have f4:=F.slot_list_getattribute.bind (.ref l);have f5:=am_list_getattr_none;unfold getAttr? getAttrBy? getAttrBy
 repeat (any_goals (first|assumption|exact hT _|((with_reducible show wpAny _ _ (call (Value.builtin "list.__getattribute__") _ _) _ _ _);refine call_meets F.slot_list_getattribute (hT _) am_entry_list_getattribute (F.args_list_getattribute_2 _ _) (meets_getattribute_miss_list l aE n sl "keys" _ (by rw[typeLookup_type,builtinLookup_eq_fast];kernel_rfl) (by decide) (by size_fits)) ⟨hx,hA,λh' Sd e uD=>?_⟩)|wp_step))
 obtain⟨t',u',he⟩:=uD.there;show wpAny _ _ (getattributeRaised _ _ _ _ _ _ _) _ _ _;unfold getattributeRaised
 repeat (any_goals (first|assumption|wp_step))
 exact h _ _ uD.keeps
theorem Sv{Q:ai->aq->Prop}(I:Inv X aa Z H s)(hl:cC X.K H l ys)(hp:jE X.K H ys ps)(hh:A.handled=none)(hu:A.units+20<cLine)(hn:ps.length<1000)
  (q:∀s' ep,Inv X aa Z (upd H s.heap.objs.size (.dG (eG [] ps) ep)) s'->Q (.ref s.heap.objs.size) s'):wpAny (model X.prog X.w) A (call (.type "dict") [.ref l]) Q E s:=by
 refine callType_codes (Q₁:=λobj s₁=>obj=.ref s.heap.objs.size/\s₁={ s with heap:=s.heap.push { cls:=.type "dict",data:=.dict #[]}}) F.kt_called_dict (F.kt_typeCall_dict_1 _) F.entry_dict_init (kt_code_dict_new _ ⟨rfl,rfl⟩) ?_
 rintro obj s₁ ⟨rfl,rfl⟩;have hd:H s.heap.objs.size=none:=I.bh.fresh (bG _);have I1:=I.laid (a:=s.heap.objs.size) (o:=.dG [] 0) (h':=s.heap.push { cls:=.type "dict",data:=.dict #[]}) (t':=s.toks) (λ_ _ q=>cO _ q) (bG _) (IG s.heap I.big)
 generalize s.heap.objs.size=d at *;generalize s.heap.push { cls:=.type "dict",data:=.dict #[]}=Kw at *;have hT:=(FE I1 aI).1;obtain⟨aE,rv,pl,hz⟩:=I1.list ((Fi hd).seq hl);have hTl:({ s with heap:=Kw,toks:=s.toks}:aq).TypeIs (.ref l) "list":=by
  obtain⟨o,n,h1,h2,_⟩:=pl;exact⟨o,h1,h2⟩
 refine⟨hT,F.args_dict_init_2 _ _,?_⟩;unfold Builtin.«dict.__init__»;refine ay ?_;unfold Builtin.Dict.selfAndRest;refine ay (wpAny_notOrdered_dict hT ?_);show wpAny _ _ (pure (d,[Value.ref l])) _ _ _;refine aS ?_;show wpAny _ _ (Builtin.Dict.updateFrom "dict.__init__" d (.ref l) [] .none) _ _ _;unfold Builtin.Dict.updateFrom;refine ay (wpAny_typeOf hTl ?_);rw[aN (by decide)]
 refine ay (UW (X:=X) pl (show A.in1.in1.handled=none from hh) λh' tk kp=>?_)
 have I2:Inv X aa Z (upd H d (.dG [] 0)) { s with heap:=h',toks:=tk}:=I1.kept (t':=tk) kp;obtain⟨iG,G6,Lj,_⟩:=I2.list ((Fi hd).seq hl);show wpAny _ _ (rule _ >>= _) _ _ _;refine ay (wpAny_rule ?_);refine ay (wpAny_pyIter_list Lj.isList ?_);have I3:=I2.kept (h':=h'.push { cls:=.type "list_iterator",data:=.fields #[.ref l,.int 0 0]}) (t':=tk) (λ_ _ e=>cO _ e)
 have QN:d<h'.objs.size:=by
  obtain⟨_,_,o,xs,g1,_⟩:=(show bq X.prog X.w _ h' d (.dG [] 0) from I2.bh d _ aI);exact cD g1
 refine aS ⟨plainId_quiet EK _,?_⟩;refine TR (A:=A.in1) (J:=h'.objs.size) hd hl hp hh (show A.units+1+12<cLine by lia) hn (λu=>I2.lj (bG _) ?_) (λs' ep I4=>⟨rfl,q s' ep I4⟩) ps.length 0 0 _ _ rfl (lD _) I3 ⟨_,jq _ rfl,rfl,rfl⟩
 rw[cP (xR QN)];have:=I2.bh.fresh (bG _)
 rwa[cP (xR QN)] at this
def Qe(K:PySem.W.Frag):List V->Hp->VK->Prop:=λvs H Q=>∃a ys ps,vs=[.ref a]/\cC K H a ys/\jE K H ys ps/\ps.length<1000/\∀p ep,H p=none->Q (.ref p) (upd H p (.dG (eG [] ps) ep))
def TU(K:PySem.W.Frag)(hu:X.A.units+41<cLine)(hc:X.calm=true:=by rfl)(hK:X.K=K:=by rfl):bI X (.type "dict") (Qe K):=by
 subst hK;intro aa s Z H xs us Q I r h;obtain⟨a,ys,ps,rfl,hl,hp,hn,q⟩:=h;obtain⟨u,rfl,ru⟩:=vals1 r;cases ru;exact Sv I hl hp (I.ok.hd hc) (by lia) hn λs' ep I'=>⟨.ref s.heap.objs.size,_,I',rfl,q _ ep (I.bh.fresh (bG _))⟩
end
end L2
namespace L2
open PySem PySem.Spec PySem.W PySem.Calls PyProof.Rows
section
variable{prog:cS}{w:ck}{A:cF}{E:ai->aq->Prop}{s:aq}
def Qf{vs:List ai}(h:vs.length<2):(arrOf (SortSt.mk' general' (vs.toArray.zip vs.toArray) #[] 7 none)).map (·.2)=vs.toArray:=by
 grind
def TV{a:ag}{vs:List ai}{n:Nat}{P:Fin->aq->Prop}(ho:s.heap.get? a=some (seqObj "list" vs.toArray n))(h1:vs.length<2)
  (h:P (.done (.ret .none)) { s with heap:=sortedHeap s.heap a vs vs.toArray}):wpAny (model prog w) A (Builtin.«list.sort» ⟨[.ref a],[]⟩) P E s:=by
 rw[list_sort_plain];have ha:a<s.heap.objs.size:=cD ho;have hz:vs.length<=sizeLine:=by rw[sizeLine_eq];lia
 refine ay (listItems_at ho rfl ?_);refine ay (listUpdate_at ho rfl ?_ (by rw[de];exact hz) (lD _))
 obtain⟨e1,zr⟩:∃e1,(s.heap.update a (Obj.mapSeq λ_=>#[])).get? a=some (seqObj "list" #[] e1):=⟨_,get?_update_seq ho (λ_=>#[])⟩
 refine ay (seqEpoch_at zr rfl ?_);refine ay (wpAny_newTuple ?_ (by show vs.length<=_;exact hz))
 refine ay (wpAny_newList ?_ (lD _));refine kT ?_;have zt:(((s.heap.update a (Obj.mapSeq λ_=>#[])).push (seqObj "tuple" vs.toArray 0)).push (seqObj "list" #[] 0)).get? a=some (seqObj "list" #[] e1):=by
  rw[Ew _ _ _ (by rw[size_push',Mg];exact gp (Ad ha)),Ew _ _ _ (by rw[Mg];exact gp ha)]
  exact zr
 show wpAny (model prog w) A _ P E { s with heap:=((s.heap.update a (Obj.mapSeq λ_=>#[])).push (seqObj "tuple" vs.toArray 0)).push (seqObj "list" #[] 0)}
 dsimp only;have h2:vs.toArray.size<2:=by simpa using h1
 rw[aN h2,aN h2];refine ay (aS ?_);rw[StateT.run_pure];refine ay (aS ?_);dsimp only;refine ay (seqEpoch_at zt rfl ?_);refine ay (listUpdate_at zt rfl ?_ (lD _) (by rw[Qf h1,de];first|exact hz|exact Nat.le_succ_of_le hz))
 simp only[bne_self_eq_false,rR,l_];rw[Qf h1];exact aS h
def V5{vs:List ai}{h0:bJ}{Q:ai->aq->Prop}(h1:vs.length<2)(h:∀h' c,(∀b o,h0.get? b=some o->h'.get? b=some o)->h'.get? h0.objs.size=some (seqObj "list" vs.toArray c)->Q (.ref h0.objs.size) { s with heap:=h'}):
  wpAny (model prog w) A (call (.builtin "list.sort") [.ref h0.objs.size]) (λ_ s'=>Q (.ref h0.objs.size) s') E { s with heap:=h0.push (seqObj "list" vs.toArray 0)}:=by
 have ho:(h0.push (seqObj "list" vs.toArray 0)).get? h0.objs.size=some (seqObj "list" vs.toArray 0):=jq _ rfl;refine wpAny_call_entry slot_list_sort ⟨_,ho,rfl⟩ entry_list_sort ?_ (args_list_sort _);refine TV (s:={ s with heap:=h0.push (seqObj "list" vs.toArray 0)}) ho h1 ⟨_,rfl,?_⟩;have lt:h0.objs.size<(h0.push (seqObj "list" vs.toArray 0)).objs.size:=cD ho;obtain⟨e1,zr⟩:∃e1,((h0.push (seqObj "list" vs.toArray 0)).update h0.objs.size (Obj.mapSeq λ_=>#[])).get? h0.objs.size=some (seqObj "list" #[] e1):=⟨_,get?_update_seq ho (λ_=>#[])⟩
 have zt:((((h0.push (seqObj "list" vs.toArray 0)).update h0.objs.size (Obj.mapSeq λ_=>#[])).push (seqObj "tuple" vs.toArray 0)).push (seqObj "list" #[] 0)).get? h0.objs.size=some (seqObj "list" #[] e1):=cO _ (cO _ zr)
 have ho7:=get?_update_seq zt (λ_=>vs.toArray)
 refine h _ _ (λb o e=>?_) ho7
 have nb:b≠h0.objs.size:=gp (cD e);unfold sortedHeap;rw[Hq _ _ _ _ nb];refine cO _ (cO _ ?_);rw[Hq _ _ _ _ nb];exact cO _ e
def UX{P:List ai->Prop}{r:ag}{Q:ai->aq->Prop}(h1:∀vs,P vs->vs.length<2)(hc:∀R:List ai->aq->Prop,(∀vs (h':bJ) (tk:Nat),P vs->(∀b o,s.heap.get? b=some o->h'.get? b=some o)->R vs { s with heap:=h',toks:=tk})->wpAny (model prog w) A.in1 (collect (.ref r)) R E s)
  (h:∀vs (h0:bJ) (tk:Nat),P vs->(∀b o,s.heap.get? b=some o->h0.get? b=some o)->∀(h':bJ) (c:Nat),(∀b o,h0.get? b=some o->h'.get? b=some o)->h'.get? h0.objs.size=some (seqObj "list" vs.toArray c)->Q (.ref h0.objs.size) { s with heap:=h',toks:=tk}):wpAny (model prog w) A (call (.builtin "sorted") [.ref r]) Q E s:=by
 refine Calls.call_function_entry kind_sorted plain_sorted entry_sorted (args_sorted1 _) ?_;unfold Builtin.«sorted»;refine ay (m:=checkCount "sorted" 1 1 _) (aS ?_);refine ay (hc _ λvs h' tk hP kp=>?_)
 have hl:=h1 vs hP;refine ay (wpAny_newList ?_ (by rw[sizeLine_eq];lia))
 refine ay (kT (wpAny_mono (V5 (s:={ s with heap:=h',toks:=tk}) (h0:=h') (vs:=vs) (Q:=λv s'=>Q v s') hl λh2 c KQ hg=>h vs h' tk hP kp h2 c KQ hg) (λ_ s' x=>?_) λ_ _ e=>e))
 exact aS ⟨_,rfl,x⟩
end
section
variable{X:Cx}{K:Frag}
theorem Od:∀{ys:List V} {us:List ai},ys.length=us.length->(∀(j:Nat) (y:V) (u:ai),ys[j]?=some y->us[j]?=some u->RelV y u)->Vals ys us
 |[],[],_,_=>.nil
 |[],_::_,h,_=>by simp at h
 |_::_,[],h,_=>by simp at h
 |y::ys,u::us,h,r=>.cons (r 0 y u rfl rfl) (Od (by simpa using h) λj y' u' e1 e2=>r (j+1) y' u' (by simpa using e1) (by simpa using e2))
def Qg(K:Frag):List V->Hp->VK->Prop:=λxs H Q=>∃a ys,xs=[.ref a]/\(cC K H a ys\/∃es ep,H a=some (.dG es ep)/\h_ es/\ys=es.map (·.2.1))/\ys.length<2/\∀l,H l=none->Q (.ref l) (upd H l (.lst ys))
def SV(hc:X.calm=true):bI X (.builtin "sorted") (Qg X.K):=by
 intro aa s Z H xs us Q I r h;obtain⟨a,ys,rfl,hq,hl,q⟩:=h;obtain⟨u,rfl,ru⟩:=Vals.one r;cases ru;refine UX (P:=Vals ys) (λvs rv=>by have:=rv.length;lia) ?_ λvs h0 tk rv kp h' c KQ hg=>?_
 .intro R hR;rcases hq with hq|⟨es,ep,hd,ht,rfl⟩
  .obtain⟨aE,rv,pl,hz⟩:=I.list hq;refine collect_list pl.isList (hR aE _ s.toks rv λb o e=>?_) (by have:=rv.length;rw[sizeLine_eq];lia)
   have nb:b≠s.heap.objs.size:=gp (cD e);rw[Hq _ _ _ _ nb];exact cO _ e
  .obtain⟨kvs,D1,D2,D3,D4,lo⟩:=AR I hd ht;have l1:kvs.length=es.length:=by have:=congrArg List.length D3;simpa using this
   refine kdu_collect (kdl_dict (knd:=strKind X.prog X.w) (kvs:=kvs) (ep:=ep) lo) (I.ok.hd hc) D1 D4 λh' tk aU kp hi=>hR _ h' tk ?_ kp
   refine Od (by have:=hi.1;rw[aY,<-l1,<-this];simp) λj y u e1 e2=>?_
   rw[gq] at e1;obtain⟨e,e3,rfl⟩:=cW.mp e1;obtain⟨z,z1,z2⟩:=ht e (uc e3);obtain⟨k,v,k1,k2⟩:=hi.2 j u (by rw[<-xX];exact e2)
   have k3:(kvs.map (λp=>TK.inr p.1))[j]?=(es.map (·.1))[j]?:=by rw[D3]
   rw[gq,gq,k1,e3] at k3;have k4:TK.inr k=e.1:=Option.some.inj k3;rw[z1] at k4;cases k4;rw[z2];exact Value.isStrOf_shape k2
 .have e:=rv.length;have I0:Inv X aa Z H { s with heap:=h0,toks:=tk}:=I.kept kp;have I1:=I0.laid (h':=h') (t':=tk) (o:=.lst ys) KQ (bG _) (show bq X.prog X.w _ h' _ (.lst ys) from⟨by rw[sizeLine_eq];lia,vs,c,rv,hg⟩)
  exact⟨.ref h0.objs.size,_,I1,rfl,q _ (I0.bh.fresh (bG _))⟩
end
end L2
namespace L2
open PySem PySem.Spec PySem.W PyProof.Rows
variable{p:Array Nat}{i m k l:Nat}
def pw(lt:Nat->Nat->Bool)(n:Nat){α:Type}:KasT α->(α->Prop)->Prop
 |.ret a,P=>P a
 |.ask i j k,P=>i<n/\j<n/\i≠j/\pw lt n (k (lt i j)) P
section
variable{lt:Nat->Nat->Bool}{n:Nat}
theorem FG{α:Type}{P Q:α->Prop}(h:∀a,P a->Q a):∀{t:KasT α},pw lt n t P->pw lt n t Q
 |.ret a,p=>h a p
 |.ask i j k,p=>⟨p.1,p.2.1,p.2.2.1,FG h p.2.2.2⟩
theorem AU{α β:Type}{P:α->Prop}{Q:β->Prop}{f:α->KasT β}(h:∀a,P a->pw lt n (f a) Q):∀{t:KasT α},pw lt n t P->pw lt n (t.bind f) Q
 |.ret a,p=>h a p
 |.ask i j k,p=>⟨p.1,p.2.1,p.2.2.1,AU h p.2.2.2⟩
structure Ord (lt:Nat->Nat->Bool) (n:Nat):Prop where
 z_:∀i j,i<n->j<n->i≠j->lt i j=false->lt j i=true
 asy:∀i j,i<n->j<n->lt i j=true->lt j i=false
 tr:∀i j k,i<n->j<n->k<n->lt i j=true->lt j k=true->lt i k=true
structure rB (n:Nat) (p:Array Nat):Prop where
 pm:p.Perm (List.toArray (List.range n))
def rB.size{p:Array Nat}(h:rB n p):p.size=n:=by have:=h.pm.size_eq;simpa using this
def rB.below(h:rB n p)(hi:i<n):p.getD i 0<n:=by
 have hs:=h.size;have e:p.getD i 0=p[i]'(by lia):=by simp[Array.getD,hs,hi]
 rw[e];have:p[i]'(by lia)∈p:=Array.getElem_mem _
 have:=h.pm.mem_iff.mp this
 simp_all
def rB.inj(h:rB n p){j:Nat}(hi:i<n)(hj:j<n)(e:p.getD i 0=p.getD j 0):i=j:=by
 have hs:=h.size;have nd:p.toList.Nodup:=(Array.perm_iff_toList_perm.mp h.pm).nodup_iff.mpr (by simpa using List.nodup_range)
 have ei:p.getD i 0=p.toList[i]'(by simp;lia):=by simp[Array.getD,hs,hi]
 have ej:p.getD j 0=p.toList[j]'(by simp;lia):=by simp[Array.getD,hs,hj]
 rw[ei,ej] at e;exact(Hf nd).mp e
def rC(lt:Nat->Nat->Bool)(p:Array Nat)(k:Nat):Prop:=∀i j,i<j->j<k->lt (p.getD i 0) (p.getD j 0)=true
def An(lt:Nat->Nat->Bool)(p:Array Nat)(k:Nat):Prop:=∀i j,i<j->j<k->lt (p.getD j 0) (p.getD i 0)=true
variable(O:Ord lt n){p:Array Nat}(hp:rB n p)
include O hp
theorem V6(h1:1<=m)(hm:m<n)(h:rC lt p m)(e:lt (p.getD (m - 1) 0) (p.getD m 0)=true):rC lt p (m+1):=by
 intro i j qo hj;by_cases z:j=m
 .subst z;by_cases z2:i=j - 1
  .rw[z2];exact e
  .exact O.tr _ _ _ (hp.below (by lia)) (hp.below (by lia)) (hp.below hm) (h i (j - 1) (by lia) (by lia)) e
 .exact h i j qo (by lia)
theorem V7(h1:1<=m)(hm:m<n)(h:An lt p m)(e:lt (p.getD m 0) (p.getD (m - 1) 0)=true):An lt p (m+1):=by
 intro i j qo hj;by_cases z:j=m
 .subst z;by_cases z2:i=j - 1
  .rw[z2];exact e
  .exact O.tr _ _ _ (hp.below hm) (hp.below (by lia)) (hp.below (by lia)) e (h i (j - 1) (by lia) (by lia))
 .exact h i j qo (by lia)
theorem Jq:∀(f m:Nat),1<=m->m+f<=n->rC lt p m->pw lt n (kas_asc p f m) λr=>m<=r/\r<=m+f/\rC lt p r/\(r<m+f->lt (p.getD r 0) (p.getD (r - 1) 0)=true)
 |0,m,_,_,h=>⟨bG _,bG _,h,λz=>bT z (jQ _)⟩
 |f+1,m,h1,hm,h=>by
  refine⟨hp.below (by lia),hp.below (by lia),λz=>by have:=hp.inj (by lia) (by lia) z;lia,?_⟩
  cases e:lt (p.getD m 0) (p.getD (m - 1) 0) with
  |true=>exact⟨bG _,by lia,h,λ_=>e⟩
  |false=>
   have:=O.z_ _ _ (hp.below (by lia)) (hp.below (by lia)) (λz=>by have:=hp.inj (by lia) (by lia) z;lia) e
   exact FG (λr hr=>⟨by lia,by lia,hr.2.2.1,λz=>hr.2.2.2 (by lia)⟩) (Jq f (m+1) (by lia) (by lia) (V6 O hp h1 (by lia) h this))
theorem Pg:∀(f m:Nat),1<=m->m+f<=n->An lt p m->pw lt n (kas_desc f p m 0) λr=>r.1=p/\r.2.2=0/\m<=r.2.1/\r.2.1<=m+f/\An lt p r.2.1
 |0,m,_,_,h=>⟨rfl,rfl,bG _,bG _,h⟩
 |f+1,m,h1,hm,h=>by
  refine⟨hp.below (by lia),hp.below (by lia),λz=>by have:=hp.inj (by lia) (by lia) z;lia,?_⟩
  cases e:lt (p.getD m 0) (p.getD (m - 1) 0) with
  |true=>exact FG (λr hr=>⟨hr.1,hr.2.1,by lia,by lia,hr.2.2.2.2⟩) (Pg f (m+1) (by lia) (by lia) (V7 O hp h1 (by lia) h e))
  |false=>
   have:=O.z_ _ _ (hp.below (by lia)) (hp.below (by lia)) (λz=>by have:=hp.inj (by lia) (by lia) z;lia) e
   refine⟨hp.below (by lia),hp.below (by lia),λz=>by have:=hp.inj (by lia) (by lia) z;lia,?_⟩
   rw[this];exact⟨rfl,rfl,bG _,Hj _ _,h⟩
omit O in
theorem Qh(hm:m<=n)(i:Nat):(kas_rev p 0 m).getD i 0=if i<m then p.getD (m - 1 - i) 0 else p.getD i 0:=by
 have hs:=hp.size;have:=getElem?_mirror_all (xs:=p) (i:=0) (j:=m) (by lia) i
 have g:∀(q:Array Nat) (j:Nat),q.getD j 0=(q[j]?).getD 0:=λq j=>by
  simp_all
 unfold kas_rev;rw[g,this];simp only[lD,true_and,Nat.zero_add];split
 .rw[g]
 .rw[g]
omit O in
theorem Ph(m:Nat):rB n (kas_rev p 0 m):=⟨(mirror_perm _ _ _ _).trans hp.pm⟩
theorem YY(hm:m<=n)(h:An lt p m):rC lt (kas_rev p 0 m) m:=by
 intro i j qo hj;rw[Qh hp hm,Qh hp hm,aN (by lia),aN hj]
 exact h _ _ (by lia) (by lia)
theorem IH{k:Nat}(hk:k<n)(hs:rC lt p k):∀(f l r:Nat),l<=r->r<=k->r - l<=f->(∀i,i<l->lt (p.getD i 0) (p.getD k 0)=true)->(∀i,r<=i->i<k->lt (p.getD k 0) (p.getD i 0)=true)->
  pw lt n (kas_place p k f l r) λx=>x<=k/\(∀i,i<x->lt (p.getD i 0) (p.getD k 0)=true)/\∀i,x<=i->i<k->lt (p.getD k 0) (p.getD i 0)=true
 |0,l,r,h1,h2,h3,a,b=>⟨by lia,a,λi hi hk=>b i (by lia) hk⟩
 |f+1,l,r,h1,h2,h3,a,b=>by
  unfold kas_place;split
  .exact⟨by lia,a,λi hi hk=>b i (by lia) hk⟩
  .refine⟨hp.below hk,hp.below (by lia),λz=>by have:=hp.inj hk (by lia) z;lia,?_⟩
   have hm:(l+r) / 2<k:=by lia
   cases e:lt (p.getD k 0) (p.getD ((l+r) / 2) 0) with
   |true=>
    refine IH hk hs f l _ (by lia) (by lia) (by lia) a λi hi hik=>?_
    by_cases z:i=(l+r) / 2
    .rw[z];exact e
    .exact O.tr _ _ _ (hp.below hk) (hp.below (by lia)) (hp.below (by lia)) e (hs _ _ (by lia) hik)
   |false=>
    have e2:=O.z_ _ _ (hp.below hk) (hp.below (by lia)) (λz=>by have:=hp.inj hk (by lia) z;lia) e
    refine IH hk hs f _ r (by lia) (by lia) (by lia) (λi hi=>?_) b
    by_cases z:i=(l+r) / 2
    .rw[z];exact e2
    .exact O.tr _ _ _ (hp.below (by lia)) (hp.below (by lia)) (hp.below hk) (hs _ _ (by lia) (by lia)) e2
omit O in
theorem Qi(hk:k<n)(hl:l<=k)(i:Nat):(bubble p k (k - l)).getD i 0=if i=l then p.getD k 0 else if l<i/\i<=k then p.getD (i - 1) 0 else p.getD i 0:=by
 have hs:=hp.size;have:=getElem?_bubble (xs:=p) (src:=k) (by lia) (k - l) (by lia) i
 have g:∀(q:Array Nat) (j:Nat),q.getD j 0=(q[j]?).getD 0:=λq j=>by
  simp_all
 rw[g,this,show k - (k - l)=l by lia]
 split
 .rw[g]
 .split
  .rw[g]
  .rw[g]
theorem YZ(hk:k<n)(hl:l<=k)(hs:rC lt p k)(a:∀i,i<l->lt (p.getD i 0) (p.getD k 0)=true)(b:∀i,l<=i->i<k->lt (p.getD k 0) (p.getD i 0)=true):rC lt (bubble p k (k - l)) (k+1):=by
 intro i j qo hj;rw[Qi hp hk hl,Qi hp hk hl];by_cases j1:j=l
 .rw[aN j1,aJ (show ¬i=l by lia),aJ (show ¬(l<i/\i<=k) by lia)]
  exact a i (by lia)
 .rw[aJ j1];by_cases i1:i=l
  .grind
  .rw[aJ i1];by_cases j2:l<j
   .rw[aN (show l<j/\j<=k by lia)]
    by_cases i2:l<i
    .rw[aN (show l<i/\i<=k by lia)];exact hs _ _ (by lia) (by lia)
    .rw[aJ (show ¬(l<i/\i<=k) by lia)]
     by_cases z:i=j - 1
     .lia
     .exact hs _ _ (by lia) (by lia)
   .rw[aJ (show ¬(l<j/\j<=k) by lia),aJ (show ¬(l<i/\i<=k) by lia)]
    exact hs _ _ qo (by lia)
omit hp in
theorem Qj:∀(f:Nat) (p:Array Nat) (k:Nat),rB n p->k+f=n->rC lt p k->pw lt n (kas_bin f p k) λq=>rB n q/\rC lt q n
 |0,p,k,hp,e,h=>by subst e;exact⟨hp,h⟩
 |f+1,p,k,hp,e,h=>by
  refine AU (λl hl=>?_) (IH O hp (by lia) h k 0 k (lD _) (bG _) (by lia) (λi hi=>by lia) λi hi hk=>by lia)
  exact Qj f _ (k+1) ⟨(bubble_perm _ _ _).trans hp.pm⟩ (by lia) (YZ O hp (by lia) hl.1 h hl.2.1 hl.2.2)
theorem V8(h1:1<=n):pw lt n (kas_count n p) λr=>1<=r.1/\r.1<=n/\rB n r.2/\rC lt r.2 r.1:=by
 refine AU (λm hm=>?_) (Jq O hp (n - 1) 1 (bG _) (by lia) λi j qo hj=>by lia)
 obtain⟨m1,m2,m3,m4⟩:=hm;by_cases e:m=n
 .rw[aN (by simpa using e)]
  exact⟨m1,by show m<=n;lia,hp,m3⟩
 .rw[aJ (by simpa using e)]
  by_cases g:m > 1
  .rw[aN g];refine⟨hp.below (by lia),hp.below (by lia),λz=>by have:=hp.inj (by lia) (by lia) z;lia,?_⟩
   rw[m3 0 (m - 1) (by lia) (by lia)]
   exact⟨m1,by show m<=n;lia,hp,m3⟩
  .rw[aJ g];have em:m=1:=by lia
   subst em;have d2:An lt p 2:=λi j qo hj=>by
    have:i=0/\j=1:=by lia
    rw[this.1,this.2];exact m4 (by lia)
   refine AU (λr hr=>?_) (Pg O hp (n - (1+1)) (1+1) (by lia) (by lia) d2)
   obtain⟨r1,r2,r3,r4,r5⟩:=hr;rw[aJ (by rw[r2];exact jQ 0),r1]
   refine AU (λx hx=>?_) (Jq O (Ph hp r.2.1) (n - r.2.1) r.2.1 (by lia) (by lia) (YY O hp (by lia) r5))
   exact⟨by show 1<=x;lia,by show x<=n;lia,Ph hp _,hx.2.2.1⟩
omit hp in
theorem Pj(h1:1<=n):pw lt n (kas_sort n) λq=>rB n q/\rC lt q n:=by
 refine AU (λr hr=>?_) (V8 O ⟨Array.Perm.refl _⟩ h1)
 obtain⟨r1,r2,r3,r4⟩:=hr;have e:max r.1 1=r.1:=by lia
 rw[e];split
 .exact Qj O (n - r.1) r.2 r.1 r3 (by lia) r4
 .have:r.1=n:=by lia
  rw[this] at r4;exact⟨r3,r4⟩
end
variable{ks:List (Int×Int)}
def Bp(lt:Nat->Nat->Bool){α:Type}:KasT α->α
 |.ret a=>a
 |.ask i j k=>Bp lt (k (lt i j))
theorem FY{lt:Nat->Nat->Bool}{n:Nat}{α:Type}{P:α->Prop}:∀{t:KasT α},pw lt n t P->P (Bp lt t)/\pw lt n t λa=>a=Bp lt t
 |.ret _,p=>⟨p,rfl⟩
 |.ask _ _ _,p=>⟨(FY p.2.2.2).1,p.1,p.2.1,p.2.2.1,(FY p.2.2.2).2⟩
theorem Qk{lt:Nat->Nat->Bool}{n:Nat}{α:Type}{cmp:Nat->Nat->(Bool->aq->Prop)->aq->Prop}{Q:α->aq->Prop}{s:aq}(hc:∀i j C,i<n->j<n->i≠j->C (lt i j) s->cmp i j C s):∀{t:KasT α},pw lt n t (λa=>Q a s)->t.kasWp cmp Q s
 |.ret _,p=>p
 |.ask i j k,p=>hc i j _ p.1 p.2.1 p.2.2.1 (Qk hc p.2.2.2)
def K2(x y:Int×Int):Bool:=decide (x.1<y.1\/(x.1=y.1/\x.2<y.2))
def ltAt(ks:List (Int×Int))(i j:Nat):Bool:=K2 (ks.getD i (0,0)) (ks.getD j (0,0))
def Ql(nd:ks.Nodup):Ord (ltAt ks) ks.length:=by
 refine⟨λi j hi hj hn h=>?_,λi j _ _ h=>?_,λi j k _ _ _ h1 h2=>?_⟩
 all_goals grind [List.getElem_inj,ltAt,K2]
def cR(ks:List (Int×Int)):List Nat:=(Bp (ltAt ks) (kas_sort ks.length)).toList
def eF(h:bJ)(vs:List ai)(ks:List (Int×Int)):Prop:=vs.length=ks.length/\∀i,i<ks.length->∃x o a b t t' z m,vs.getD i Value.none=.ref x/\h.get? x=some o/\o.cls=.type "tuple"/\o.data=.seq #[.int a t,.int b t',z] m/\ks.getD i (0,0)=(a,b)
def eF.keep{h h':bJ}{vs:List ai}(T:eF h vs ks)(k:∀b o,h.get? b=some o->h'.get? b=some o):eF h' vs ks:=⟨T.1,λi hi=>by
 obtain⟨x,o,a,b,t,t',z,m,h1,h2,r⟩:=T.2 i hi;exact⟨x,o,a,b,t,t',z,m,h1,k _ _ h2,r⟩⟩
section
variable{prog:cS}{w:ck}{A:cF}{E:ai->aq->Prop}{s:aq}{vs:List ai}{ks:List (Int×Int)}
def Y0(T:eF s.heap vs ks)(nd:ks.Nodup)(i j:Nat)(C:Bool->aq->Prop)(hi:i<ks.length)(hj:j<ks.length)(ij:i≠j)(h:C (ltAt ks i j) s):kas_ask prog w A (tuples' true) vs i j C s:=by
 obtain⟨x,o,a,b,t,t',z,m,x1,x2,x3,x4,x5⟩:=T.2 i hi;obtain⟨y,p,c,d,u,u',z',m',y1,y2,y3,y4,y5⟩:=T.2 j hj;have hl:ltAt ks i j=decide (a<c\/(a=c/\b<d)):=by unfold ltAt K2;rw[x5,y5]
 rw[hl] at h;unfold kas_ask;rw[x1,y1];refine kat_lt x2 x4 y2 y4 ?_;show KatLex prog w A true _ C [(.int a t,.int c u),(.int b t',.int d u'),(z,z')] 0 s;refine kat_cons (wpAny_eqBool_int (kat_go (λe=>?_) λe=>?_))
 .have e:a=c:=by simpa using e
  refine kat_yes (kat_cons (wpAny_eqBool_int (kat_go (λe2=>?_) λe2=>?_)))
  .have e2:b=d:=by simpa using e2
   have e3:ks.getD i (0,0)=ks.getD j (0,0):=by rw[x5,y5,e,e2]
   have f1:ks.getD i (0,0)=ks[i]:=by simp[hi]
   have f2:ks.getD j (0,0)=ks[j]:=by simp[hj]
   rw[f1,f2] at e3;exact bT ((Hf nd).mp e3) ij
  .have e2:b≠d:=by simpa using e2
   refine kat_no (kat_one _ _ (wpAny_lt_int ?_));rw[show decide (a<c\/(a=c/\b<d))=decide (b<d) by simp[e]] at h
   exact h
 .have e:a≠c:=by simpa using e
  refine kat_no (oneLt_int ?_);rw[show decide (a<c\/(a=c/\b<d))=decide (a<c) by simp[e]] at h
  exact h
theorem Oe{h:bJ}:∀{vs:List ai} {ks:List (Int×Int)},eF h vs ks->∃fs,KatTups h vs fs/\fs.length=vs.length/\∀v∈fs,∃a t,v=Value.int a t
 |[],_,_=>⟨[],.nil,rfl,λv m=>by cases m⟩
 |v::vs,[],T=>by have:=T.1;simp at this
 |v::vs,k::ks,T=>by
  obtain⟨fs,f1,f2,f3⟩:=Oe (h:=h) (vs:=vs) (ks:=ks) ⟨by have:=T.1;simpa using this,λi hi=>by
   obtain⟨x,o,a,b,t,t',z,m,r⟩:=T.2 (i+1) (by simpa using hi)
   exact⟨x,o,a,b,t,t',z,m,by simpa using r⟩⟩
  obtain⟨x,o,a,b,t,t',z,m,h1,h2,h3,h4,_⟩:=T.2 0 (by simp)
  have h1:v=.ref x:=by simpa using h1
  subst h1;refine⟨.int a t::fs,.cons h2 h3 h4 (by simp) f1,by simp[f2],λv m=>?_⟩
  rcases y07.mp m with rfl|m
  .exact⟨a,t,rfl⟩
  .exact f3 v m
def SI{a:ag}{n:Nat}{P:PySem.Fin->aq->Prop}(ho:s.heap.get? a=some (seqObj "list" vs.toArray n))(T:eF s.heap vs ks)(nd:ks.Nodup)(na:∀i x,i<ks.length->vs.getD i Value.none=.ref x->x≠a)(h2:2<=vs.length)(Gs:vs.length<64)
  (h:P (.done (.ret .none)) { s with heap:=sortedHeap s.heap a vs (List.toArray ((cR ks).map λi=>vs.getD i Value.none))}):wpAny (model prog w) A (Builtin.«list.sort» ⟨[.ref a],[]⟩) P E s:=by
 rw[list_sort_plain];have ha:a<s.heap.objs.size:=cD ho;refine ay (listItems_at ho rfl ?_);refine ay (listUpdate_at ho rfl ?_ (by rw[de,sizeLine_eq];lia) (lD _))
 obtain⟨e1,zr⟩:∃e1,(s.heap.update a (Obj.mapSeq λ_=>#[])).get? a=some (seqObj "list" #[] e1):=⟨_,get?_update_seq ho (λ_=>#[])⟩
 refine ay (seqEpoch_at zr rfl ?_);refine ay (wpAny_newTuple ?_ (by show vs.length<=_;rw[sizeLine_eq];lia))
 refine ay (wpAny_newList ?_ (lD _));refine kT ?_;have zt:(((s.heap.update a (Obj.mapSeq λ_=>#[])).push (seqObj "tuple" vs.toArray 0)).push (seqObj "list" #[] 0)).get? a=some (seqObj "list" #[] e1):=by
  rw[Ew _ _ _ (by rw[size_push',Mg];exact gp (Ad ha)),Ew _ _ _ (by rw[Mg];exact gp ha)]
  exact zr
 have T6:eF (((s.heap.update a (Obj.mapSeq λ_=>#[])).push (seqObj "tuple" vs.toArray 0)).push (seqObj "list" #[] 0)) vs ks:=⟨T.1,λi hi=>by
  obtain⟨x,o,b,c,t,t',z,m,y1,y2,r⟩:=T.2 i hi;refine⟨x,o,b,c,t,t',z,m,y1,cO _ (cO _ ?_),r⟩;rw[Hq _ _ _ _ (na i x hi y1)];exact y2⟩
 show wpAny (model prog w) A _ P E { s with heap:=((s.heap.update a (Obj.mapSeq λ_=>#[])).push (seqObj "tuple" vs.toArray 0)).push (seqObj "list" #[] 0)}
 dsimp only;have zq:¬vs.toArray.size<2:=by rw[de];lia
 rw[aJ zq,aJ zq];obtain⟨fs,f1,f2,f3⟩:=Oe T6;refine ay (kat_kind (T:=.type "int") f1 (by lia) (λv hv=>?_) (by decide) ?_)
 .obtain⟨b,t,rfl⟩:=f3 v hv;exact λA Q E s' _ q=>wpAny_typeOf (typeIs_int s' b t) q
 .have O:=Ql nd;have pq:=Pj O (show 1<=ks.length by have:=T.1;lia)
  obtain⟨⟨q1,q2⟩,q3⟩:=FY pq;have hlen:=T.1;refine ay (wpAny_mono (kat_run (Q:=λjO s'=>s'={ s with heap:=((s.heap.update a (Obj.mapSeq λ_=>#[])).push (seqObj "tuple" vs.toArray 0)).push (seqObj "list" #[] 0)}/\arrOf jO=(Bp (ltAt ks) (kas_sort ks.length)).map (kas_item (vs.toArray.zip vs.toArray))/\failedOf jO=none) rfl h2 Gs (λp' jO s' a1 a2 a3 a4=>⟨a4.2,by rw[<-a4.1];exact a2,a3⟩) (G:=λp s'=>p=Bp (ltAt ks) (kas_sort ks.length)/\s'=_) ?_) ?_ λ_ _ e=>e)
  .rw[hlen];exact Qk (λi j C hi hj ij hC=>Y0 T6 nd i j C hi hj ij hC) (FG (λp hp=>⟨hp,rfl⟩) q3)
  .rintro⟨⟨⟩,jO⟩ s' ⟨rfl,har,hf⟩;dsimp only;have Ku:=kat_snds rfl har;rw[Ku];refine ay (seqEpoch_at zt rfl ?_);refine ay (listUpdate_at zt rfl ?_ (lD _) (by rw[de,aY,Hg,q1.size,sizeLine_eq];lia))
   rw[hf];simp only[bne_self_eq_false,rR,l_];exact aS h
def TX{l:ag}{Q:ai->aq->Prop}(hl:s.heap.IsList l vs.toArray)(T:eF s.heap vs ks)(nd:ks.Nodup)(h2:2<=vs.length)(Gs:vs.length<64)
  (h:Q (.ref (s.heap.objs.size+1)) { s with heap:=sortedAll s.heap vs (List.toArray ((cR ks).map λi=>vs.getD i Value.none))}):wpAny (model prog w) A (call (.builtin "sorted") [.ref l]) Q E s:=by
 refine Calls.call_function_entry kind_sorted plain_sorted entry_sorted (args_sorted1 _) ?_;unfold Builtin.«sorted»;refine ay (m:=checkCount "sorted" 1 1 _) (aS ?_);refine ay (collect_list hl ?_ (by rw[sizeLine_eq];lia))
 refine ay (wpAny_newList ?_ (by rw[sizeLine_eq];lia))
 have hsz:((s.heap.push (seqObj "list" #[] 0)).update s.heap.objs.size (Obj.mapSeq (·++vs.toArray))).objs.size=s.heap.objs.size+1:=by
  simp_all
 have gR:(((s.heap.push (seqObj "list" #[] 0)).update s.heap.objs.size (Obj.mapSeq (·++vs.toArray))).push (seqObj "list" vs.toArray 0)).get? (s.heap.objs.size+1)=some (seqObj "list" vs.toArray 0):=by
  rw[<-hsz];exact jq _ rfl
 have keep:∀b o,s.heap.get? b=some o->(((s.heap.push (seqObj "list" #[] 0)).update s.heap.objs.size (Obj.mapSeq (·++vs.toArray))).push (seqObj "list" vs.toArray 0)).get? b=some o:=λb o q=>by
  have mO:b<s.heap.objs.size:=cD q;rw[Ew _ _ _ (by rw[hsz];exact gp (Ad mO)),Hq _ _ _ _ (gp mO),Ew _ _ _ (gp mO)]
  exact q
 show wpAny _ _ _ _ _ { s with heap:=((s.heap.push (seqObj "list" #[] 0)).update s.heap.objs.size (Obj.mapSeq (·++vs.toArray))).push (seqObj "list" vs.toArray 0)}
 rw[hsz];refine ay (kT (wpAny_call_entry slot_list_sort ⟨_,gR,rfl⟩ entry_list_sort (SI gR (T.keep keep) nd (λi x hi e=>?_) h2 Gs ⟨_,rfl,?_⟩) (args_list_sort _)))
 .obtain⟨y,o,_,_,_,_,_,_,y1,y2,_⟩:=T.2 i hi;rw[y1] at e;cases e;exact gp (Ad (cD y2))
 .exact aS ⟨_,rfl,h⟩
end
section
variable{X:Cx}{K:PySem.W.Frag}{H:Hp}
def v9(K:PySem.W.Frag)(H:Hp)(ys:List V)(ks:List (Int×Int)):Prop:=ys.length=ks.length/\∀i,i<ks.length->∃p z,ys[i]?=some (.ref p)/\gA K H p [.int (ks.getD i (0,0)).1,.int (ks.getD i (0,0)).2,z]
def Qm(K:PySem.W.Frag):List V->Hp->VK->Prop:=λvs H Q=>∃a ys ks,vs=[.ref a]/\cC K H a ys/\v9 K H ys ks/\ks.Nodup/\2<=ks.length/\ks.length<64/\∀l,H l=none->Q (.ref l) (upd H l (.lst ((cR ks).map λi=>ys.getD i .aF)))
theorem NN{ys:List V}{us:List ai}(r:Vals ys us):∀{is:List Nat},(∀i∈is,i<ys.length)->Vals (is.map λi=>ys.getD i .aF) (is.map λi=>us.getD i Value.none)
 |[],_=>.nil
 |i::is,h=>by
  have hi:=h i (.head _);obtain⟨u,e,ru⟩:=r.get (jt hi);have e1:ys.getD i .aF=ys[i]:=by simp[hi]
  have e2:us.getD i Value.none=u:=by rw[Hr,e];rfl
  refine .cons ?_ (NN r λj m=>h j (.tail _ m))
  show RelV (ys.getD i .aF) (us.getD i Value.none);rw[e1,e2];exact ru
theorem Fj(nd:ks.Nodup)(h:1<=ks.length):(cR ks).Perm (List.range ks.length)/\(cR ks).Pairwise λi j=>ltAt ks i j=true:=by
 obtain⟨⟨q1,q2⟩,_⟩:=FY (Pj (Ql nd) h);refine⟨by unfold cR;have:=Array.perm_iff_toList_perm.mp q1.pm;simpa using this,?_⟩
 rw[List.pairwise_iff_getElem];intro i j hi hj qo;have hs:=q1.size;have:=q2 i j qo (by unfold cR at hj;simp at hj;lia)
 unfold cR at hi hj ⊢;simp only[Hg] at hi hj;simpa[Array.getD,hi,hj] using this
def TY(K:PySem.W.Frag)(hK:X.K=K:=by rfl):bI X (.builtin "sorted") (Qm K):=by
 subst hK;intro aa s Z H xs us Q I r h;obtain⟨a,ys,ks,rfl,hl,T,nd,h2,Gs,q⟩:=h;obtain⟨u,rfl,ru⟩:=vals1 r;cases ru;obtain⟨aE,rv,pl,hz⟩:=I.list hl;have hlen:=rv.length;have Dk:=T.1;have T':eF s.heap aE ks:=⟨by lia,λi hi=>by
  obtain⟨p,z,y1,y2⟩:=T.2 i hi;obtain⟨u,e,ru⟩:=rv.get y1;obtain rfl:u=Value.ref p:=ru;obtain⟨it2,G6,⟨o,g1,g2,n,g3⟩,_⟩:=I.tuple y2;cases G6 with
  |cons r1 t=>
   cases t with
   |cons r2 t=>
    cases t with
    |cons r3 t=>
     cases t;obtain⟨t1,rfl⟩:=r1;obtain⟨t2,rfl⟩:=r2;exact⟨p,o,_,_,t1,t2,_,n,by rw[Hr,e];rfl,g1,g2,g3,rfl⟩⟩
 refine TX pl.isList T' nd (by lia) (by lia) ?_
 obtain⟨c,hc⟩:=sortedAll_at s.heap aE (List.toArray ((cR ks).map λi=>aE.getD i Value.none))
 obtain⟨s1,_⟩:=Fj nd (by lia)
 have hm:∀i∈cR ks,i<ys.length:=λi m=>by have:=s1.mem_iff.mp m;rw[uI] at this;lia
 have I3:=I.laid (h':=sortedAll s.heap aE (List.toArray ((cR ks).map λi=>aE.getD i Value.none))) (t':=s.toks) (o:=.lst ((cR ks).map λi=>ys.getD i .aF)) (λb o g=>sortedAll_old g) (qD _) (show bq X.prog X.w _ _ _ (.lst _) from⟨by rw[aY,s1.length_eq,uK,sizeLine_eq];lia,_,c,NN rv hm,hc⟩)
 exact⟨.ref (s.heap.objs.size+1),_,I3,rfl,q _ (I.bh.fresh (qD _))⟩
end
end L2
set_option autoImplicit false
namespace L2
open PySem PySem.Spec PySem.W PySem.Calls PyProof.Rows
def gM(kvs:List (TK×D)):Bool:=kvs.all λp=>xl p.1
def vt:D->aj (List D)
 |.az kvs=>if gM kvs=true then some ((List.range kvs.length).map λi=>.tup (((kvs[i]?).map λp=>[p.1.d,p.2]).getD [])) else none
 |_=>none
section
variable{K:Frag}{W:XW}{q:Nat}{g:GE}{fz:Bool}{Z:St}{H:Hp}{R:It->Hp->Prop}{k:Kn}{es:List (TK×V×V)}{kvs:List (TK×D)}
def JJ(h1:es.map (·.1)=kvs.map (·.1))(h2:ah K k (es.map (·.2.1)) (kvs.map (·.1.d)))(h:gM kvs=true):h_ es:=P' h1 (by rw[eU];exact h2) (by rw[xY];exact h)
def Y1(t:tX (RI K q) K W q (bu fz vt g) Z H R):Qa (tE K W q g) Z H R:=by
 rcases E7 t with h|⟨d,ds,n,e,h⟩
 .exact h _
 .cases d with
  |az kvs=>
   unfold vt at e;dsimp only at e;split at e
   .rename_i ht
    cases e;refine h _ λk1 H1 x le hd j=>?_
    obtain⟨a,es,ep,rfl,q2,q3,q4,q1⟩:=hd;have tx:=JJ q2 q3 ht;refine⟨a,es,ep,rfl,jw.now (x:=.aF) q1 le,tx,j _ ?_⟩;have hl:kvs.length=es.length:=by have:=q4.length;rw[aY,aY] at this;exact this.symm
    rw[hl];refine .DG (λH s c=>⟨q1 H s c,tx⟩) λi us hi hv=>?_
    obtain⟨e,h1,rfl⟩:=hv;have zo:i<kvs.length:=by lia
    obtain⟨v,h3,h4⟩:=q4.get (i:=i) (d:=kvs[i].2) (by rw[gq,jt zo];rfl)
    obtain⟨v',h5,h6⟩:=q3.get (i:=i) (d:=kvs[i].1.d) (by rw[gq,jt zo];rfl)
    rw[gq,h1] at h3 h5;cases h3;cases h5;rw[jt zo];exact .cons h6 h4
   .cases e
  |_=>cases e
end
end L2
namespace L2
open PySem PySem.Spec PyProof.Rows
section
variable{X:Cx}{K:PySem.W.Frag}{k:Kn}{H:Hp}{x:V}{d:D}
def Top.txt{kvs:List (TK×D)}(t:Top K k H x (.az kvs))(le:av k.F H)(h:gM kvs=true):∃p es ep,x=.ref p/\H p=some (.dG es ep)/\h_ es/\es.map (·.1)=kvs.map (·.1)/\ah K k (es.map (·.2.1)) (kvs.map (·.1.d))/\ah K k (es.map (·.2.2)) (kvs.map (·.2)):=by
 obtain⟨p,es,ep,rfl,h1,h2,h3,h4⟩:=t.az le;exact⟨p,es,ep,rfl,h1,JJ h2 h3 h,h2,h3,h4⟩
def DU(K:PySem.W.Frag):List V->Hp->VK->Prop:=λxs H Q=>(∃p ys,xs=[.ref p]/\(cC K H p ys\/gA K H p ys)/\Q (.int ys.length) H)\/(∃z,xs=[.str z]/\z.length<=sizeLine/\Q (.int z.length) H)\/∃p es ep,xs=[.ref p]/\H p=some (.dG es ep)/\h_ es/\Q (.int es.length) H
def UZ(hK:X.K=K):bI X (.builtin "len") (DU K):=(SG K hK).or (mE.or (by
 intro aa s Z H xs us Q I r h;obtain⟨p,es,ep,rfl,hp,ht,q⟩:=h;obtain⟨u,rfl,ru⟩:=vals1 r;cases ru;obtain⟨kvs,D1,D2,D3,D4,lo⟩:=AR I hp ht;have l1:kvs.length=es.length:=by have:=congrArg List.length D3;simpa using this
 refine call_len_dict lo D1.dictOf (by rw[sizeLine_eq] at D4;lia) ?_
 rw[l1];exact⟨.int es.length,H,I.tok _,⟨_,rfl⟩,q⟩))
def eI:D->aj Rv
 |.lst ds=>some (rd (.int ds.length))
 |.tup ds=>some (rd (.int ds.length))
 |.str z=>if z.length<=1000000 then some (rd (.int z.length)) else none
 |.az kvs=>if gM kvs=true then some (rd (.int kvs.length)) else none
 |_=>none
def e1n:bP K (DU K) (o1 eI):=uF λk H x a y Q le t e res=>by
 unfold eI at e;split at e
 .cases e;obtain⟨p,ws,rfl,q,r⟩:=t.lst le;exact .inl ⟨p,ws,rfl,.inl q,by rw[r.length];exact res.flat le rfl⟩
 .cases e;obtain⟨p,ws,rfl,q,r⟩:=t.tup le;exact .inl ⟨p,ws,rfl,.inr q,by rw[r.length];exact res.flat le rfl⟩
 .split at e
  .cases e;cases t.flat rfl;exact .inr (.inl ⟨_,rfl,ml (by assumption),res.flat le rfl⟩)
  .cases e
 .split at e
  .cases e;obtain⟨p,es,ep,rfl,h1,h2,h3,h4,h5⟩:=t.txt le (by assumption)
   refine .inr (.inr ⟨p,es,ep,rfl,h1,h2,?_⟩);have:=h5.length;rw[aY,aY] at this;rw[this];exact res.flat le rfl
  .cases e
 .cases e
def tM:D->aj String
 |.aF=>some "NoneType"
 |.bl _=>some "bool"
 |.int _=>some "int"
 |.str _=>some "str"
 |.lst _=>some "list"
 |.tup _=>some "tuple"
 |_=>none
def Of{n:String}(le:av k.F H)(t:Top K k H x d)(e:tM d=some n):Cy K H x n:=by
 cases d with
 |lst _=>cases e;obtain⟨p,ws,rfl,q,r⟩:=t.lst le;exact .inl ⟨rfl,_,q⟩
 |tup _=>cases e;obtain⟨p,ws,rfl,q,r⟩:=t.tup le;exact .inr ⟨rfl,_,q⟩
 |_=>cases e <;> cases t.flat rfl <;> rfl
def DR(K:PySem.W.Frag):List V->Hp->VK->Prop:=λxs H Q=>(∃x k T,xs=[x,.ty T]/\Cy K H x k/\(T="int"\/T="str"\/T="bool"\/T="list"\/T="tuple")/\Q (.bl (ra k T)) H)\/xD K xs H Q
def U0(hK:X.K=K):bI X (.builtin "isinstance") (DR K):=(UA K hK).or (UR K hK)
def zz:List D->Bool
 |[.ty a,.ty b]=>decide (a="tuple"/\b="list")
 |_=>false
def Y2{ds:List D}(h:zz ds=true):ds=[.ty "tuple",.ty "list"]:=by
 unfold zz at h;split at h
 .obtain⟨rfl,rfl⟩:=Am h;rfl
 .cases h
def iT(a t:D):aj Rv:=match t with
 |.ty T=>if T="int"\/T="str"\/T="bool"\/T="list"\/T="tuple" then(tM a).map λk=>rd (.bl (ra k T)) else none
 |.tup ds=>if zz ds=true then(tM a).map λk=>rd (.bl (LS k)) else none
 |_=>none
def e1o:bP K (DR K) (o2 iT):=vz λk H x z a b y Q le t1 t2 e res=>by
 unfold iT at e;split at e
 .split at e
  .obtain⟨n,h,rfl⟩:=cW.mp e;cases t2.flat rfl;exact .inl ⟨x,n,_,rfl,Of le t1 h,by assumption,res.flat le rfl⟩
  .cases e
 .split at e
  .rename_i ht
   cases Y2 ht;obtain⟨n,h,rfl⟩:=cW.mp e;obtain⟨p,ws,rfl,q,r⟩:=t2.tup le;obtain⟨w1,us,rfl,r1,r2⟩:=r.bS;obtain⟨w2,us,rfl,r3,r4⟩:=r2.bS;cases r4.fK;cases r1.aX rfl;cases r3.aX rfl;exact .inr ⟨x,n,p,rfl,Of le t1 h,q,res.flat le rfl⟩
  .cases e
 .cases e
noncomputable def oI:D->aj Rv
 |.int i=>some (rd (.int i))
 |.bl b=>some (rd (.int (if b then 1 else 0)))
 |_=>none
def Y3:bP K (λxs H Q=>(∃i,xs=[.int i]/\Q (.int i) H)\/∃k,xs=[.bl k]/\Q (.int (if k then 1 else 0)) H) (o1 oI):=uF λk H x a y Q le t e res=>by
 unfold oI at e;split at e
 .cases e;cases t.flat rfl;exact .inl ⟨_,rfl,res.flat le rfl⟩
 .cases e;cases t.flat rfl;exact .inr ⟨_,rfl,res.flat le rfl⟩
 .cases e
def xE(K:PySem.W.Frag):List V->Hp->VK->Prop:=λxs H Q=>(∃p ys,xs=[.ref p]/\(cC K H p ys\/gA K H p ys)/\∀l,H l=none->Q (.ref l) (upd H l (.lst ys)))\/RZ K xs H Q
def TZ(hc:X.calm=true)(hK:X.K=K):bI X (.type "list") (xE K):=(SH K hK).or (hK ▸ TN hc)
noncomputable def jm:D->aj Rv
 |.lst ds=>some (.o (.lst ds))
 |.tup ds=>some (.o (.lst ds))
 |.az kvs=>some (.o (.lst (kvs.map (·.1.d))))
 |_=>none
def Y4:bP K (xE K) (o1 jm):=uF λk H x a y Q le t e res=>by
 unfold jm at e;split at e
 .cases e;obtain⟨p,ws,rfl,q,r⟩:=t.lst le;exact .inl ⟨p,ws,rfl,.inl q,λl hl=>res.lst le r hl⟩
 .cases e;obtain⟨p,ws,rfl,q,r⟩:=t.tup le;exact .inl ⟨p,ws,rfl,.inr q,λl hl=>res.lst le r hl⟩
 .cases e;obtain⟨p,es,ep,rfl,h1,h2,h3,h4⟩:=t.az le;exact .inr ⟨p,es,ep,rfl,h1,λl hl=>res.lst le h3 hl⟩
 .cases e
def qB:D->aj Rv
 |.az kvs=>if gM kvs=true then some (.o (.lst (kvs.map (·.2)))) else none
 |_=>none
def Y5:bP K (λxs H Q=>∃d es ep,xs=[.ref d]/\H d=some (.dG es ep)/\h_ es/\∀q,H q=none->Q (.ref q) (upd H q (.lst (es.map (·.2.2))))) (o1 qB):=uF λk H x a y Q le t e res=>by
 unfold qB at e;split at e
 .split at e
  .cases e;obtain⟨p,es,ep,rfl,h1,h2,h3,h4,h5⟩:=t.txt le (by assumption)
   exact⟨p,es,ep,rfl,h1,h2,λl hl=>res.lst le h5 hl⟩
  .cases e
 .cases e
noncomputable def FZ(q:List Bool->Bool):D->aj Rv
 |.lst ds=>(gF ds).map λbs=>rd (.bl (q bs))
 |_=>none
def V9(q:List Bool->Bool):bP K (λxs H Q=>∃(a:ag) (bs:List Bool),xs=[.ref a]/\cC K H a (bs.map V.bl)/\Q (.bl (q bs)) H) (o1 (FZ q)):=uF λk H x a y Q le t e res=>by
 unfold FZ at e;split at e
 .obtain⟨bs,h,rfl⟩:=cW.mp e;obtain⟨p,ws,rfl,s,r⟩:=t.lst le;rw[Nd h] at r;cases Nf r;exact⟨p,bs,rfl,s,res.flat le rfl⟩
 .cases e
noncomputable def qa(f:List Int->Int):D->aj Rv
 |.lst ds=>(ku ds).bind λis=>if is=[] then none else some (rd (.int (f is)))
 |_=>none
def Y6(f:List Int->Int):bP K (λxs H Q=>∃(a:ag) (is:List Int),xs=[.ref a]/\cC K H a (is.map V.int)/\is≠[]/\Q (.int (f is)) H) (o1 (qa f)):=uF λk H x a y Q le t e res=>by
 unfold qa at e;split at e
 .obtain⟨is,h,e⟩:=cg.mp e;split at e
  .cases e
  .cases e;obtain⟨p,ws,rfl,s,r⟩:=t.lst le;rw[NL h] at r;cases MW r;exact⟨p,is,rfl,s,by assumption,res.flat le rfl⟩
 .cases e
def jl:List D->aj (List (Int×Int))
 |[]=>some []
 |.tup [.int a,.int b,_]::ds=>(jl ds).map λks=>(a,b)::ks
 |_=>none
theorem Og:∀{ds:List D} {ks:List (Int×Int)} {ws:List V},jl ds=some ks->ah K k ws ds->av k.F H->v9 K H ws ks
 |[],ks,ws,e,r,le=>by cases e;exact⟨by rw[r.length];rfl,λi hi=>nomatch hi⟩
 |d::ds,ks,ws,e,r,le=>by
  obtain⟨w,us,rfl,r1,r2⟩:=r.bS;unfold jl at e;split at e
  .rename_i h;cases h
  .rename_i a b z ds' h
   cases h;obtain⟨xp,e1,rfl⟩:=cW.mp e;obtain⟨l1,l2⟩:=Og e1 r2 le;obtain⟨p,ws,rfl,q,r3⟩:=r1.isTup;obtain⟨w1,us1,rfl,t1,r3⟩:=r3.bS;obtain⟨w2,us2,rfl,t2,r3⟩:=r3.bS;obtain⟨w3,us3,rfl,t3,r3⟩:=r3.bS;cases r3.fK;cases t1.aX rfl;cases t2.aX rfl;refine⟨congrArg (·+1) l1,λi hi=>?_⟩
   cases i with
   |zero=>exact⟨p,w3,rfl,le.zZ q⟩
   |succ i=>exact l2 i (Nat.lt_of_succ_lt_succ hi)
  .cases e
def xJ(K:PySem.W.Frag):List V->Hp->VK->Prop:=λvs H Q=>Qg K vs H Q\/Qm K vs H Q
def T1(hc:X.calm=true)(hK:X.K=K):bI X (.builtin "sorted") (xJ K):=(hK ▸ SV hc).or (TY K hK)
def lZ(ds:List D)(is:List Nat):List D:=is.map λi=>ds.getD i .aF
def qz:D->aj Rv
 |.lst ds=>if ds.length<2 then some (.o (.lst ds)) else(jl ds).bind λks=>if ks.Nodup/\ks.length<64 then some (.o (.lst (lZ ds (cR ks)))) else none
 |.az kvs=>if(gM kvs&&Nat.blt kvs.length 2)=true then some (.o (.lst (kvs.map (·.1.d)))) else none
 |_=>none
theorem Oh{ws:List V}{ds:List D}(r:ah K k ws ds):∀{is:List Nat},(∀i∈is,i<ds.length)->ah K k (is.map λi=>ws.getD i .aF) (lZ ds is)
 |[],_=>.nil
 |i::is,h=>by
  have hi:=h i (.head _);obtain⟨v,h1,h2⟩:=r.get (i:=i) (d:=ds[i]) (jt hi);unfold lZ;rw[bY,bY,show ws.getD i .aF=v by rw[Hr,h1];rfl,show ds.getD i .aF=ds[i] by rw[Hr,jt hi];rfl]
  exact .cons h2 (Oh r λj m=>h j (.tail _ m))
def Y7:bP K (xJ K) (o1 qz):=uF λk H x a y Q le t e res=>by
 unfold qz at e;split at e
 .obtain⟨p,ws,rfl,s,r⟩:=t.lst le;split at e
  .cases e;exact .inl ⟨p,ws,rfl,.inl s,by rw[r.length];assumption,λl hl=>res.lst le r hl⟩
  .rename_i h2
   obtain⟨ks,h,e⟩:=cg.mp e;split at e
   .rename_i hk
    cases e;have T:=Og h r le;have l1:ks.length=ws.length:=T.1.symm;have l2:=r.length;refine .inr ⟨p,ws,ks,rfl,s,T,hk.1,by lia,hk.2,λl hl=>res.lst le (Oh r λi m=>?_) hl⟩
    grind [Fj]
   .cases e
 .split at e
  .rename_i hh
   obtain⟨h1,h2⟩:=Bv.mp hh;cases e;obtain⟨p,es,ep,rfl,h3,h4,h5,h6,h7⟩:=t.txt le h1;have:=h6.length;have l2:_<2:=fM (Ah h2) (bG _);exact .inl ⟨p,_,rfl,.inr ⟨es,ep,h3,h4,rfl⟩,by rw[this,aY];exact l2,λl hl=>res.lst le h6 hl⟩
  .cases e
 .cases e
def bK{α:Type}:List (TK×α)->TK->α->List (TK×α)
 |[],k,v=>[(k,v)]
 |(j,w)::r,k,v=>if j=k then(j,v)::r else(j,w)::bK r k v
def gK:List D->aj (List (TK×D))
 |[]=>some []
 |.tup [a,b]::ds=>(ky a).bind λj=>(gK ds).map λps=>(j,b)::ps
 |_=>none
noncomputable def qe:D->aj Rv
 |.lst ds=>(gK ds).bind λps=>if ps.length<1000 then some (.o (.az (ps.foldl (λkvs p=>bK kvs p.1 p.2) []))) else none
 |_=>none
theorem Jf{j:TK}{y v:V}{e:D}(ry:ah K k [y] [j.d])(rv:ah K k [v] [e]):∀{ws:List (TK×V×V)} {kvs:List (TK×D)},ws.map (·.1)=kvs.map (·.1)->ah K k (ws.map (·.2.1)) (kvs.map (·.1.d))->ah K k (ws.map (·.2.2)) (kvs.map (·.2))->
  (cV ws j y v).map (·.1)=(bK kvs j e).map (·.1)/\ah K k ((cV ws j y v).map (·.2.1)) ((bK kvs j e).map (·.1.d))/\ah K k ((cV ws j y v).map (·.2.2)) ((bK kvs j e).map (·.2))
 |[],[],_,_,_=>⟨rfl,ry,rv⟩
 |w::ws,p::kvs,h,r1,r2=>by
  obtain⟨h1,h2⟩:=List.cons.inj (show w.1::ws.map (·.1)=p.1::kvs.map (·.1) from h)
  obtain⟨a1,a2⟩:=ah.inv r1;obtain⟨b1,b2⟩:=ah.inv r2;unfold cV bK;by_cases q:p.1=j
  .rw[aN (h1.trans q),aN q];exact⟨congr (congrArg List.cons h1) h2,.cons a1 a2,.cons rv b2⟩
  .rw[aJ (λz=>q (h1.symm.trans z)),aJ q]
   obtain⟨c1,c2,c3⟩:=Jf ry rv h2 a2 b2;exact⟨congr (congrArg List.cons h1) c1,.cons a1 c2,.cons b1 c3⟩
 |[],_::_,h,_,_=>nomatch h
 |_::_,[],h,_,_=>nomatch h
def su(K:PySem.W.Frag)(k:Kn)(q:TK×V×V)(p:TK×D):Prop:=q.1=p.1/\ah K k [q.2.1] [q.1.d]/\ah K k [q.2.2] [p.2]
theorem Oi:∀{ds:List D} {ps:List (TK×D)} {ws:List V},gK ds=some ps->ah K k ws ds->av k.F H->∃qs:List (TK×V×V),jE K H ws qs/\Paired (su K k) qs ps
 |[],ps,ws,e,r,le=>by cases e;cases r.fK;exact⟨[],⟨rfl,λi p h=>nomatch h⟩,.nil⟩
 |d::ds,ps,ws,e,r,le=>by
  unfold gK at e;split at e
  .rename_i h;cases h
  .rename_i a b ds' h
   cases h;obtain⟨j,q1,e⟩:=cg.mp e;obtain⟨ps',q2,rfl⟩:=cW.mp e;obtain⟨w,us,rfl,r1,r2⟩:=r.bS;obtain⟨p,ws,rfl,sq,ri⟩:=r1.isTup;obtain⟨y,us1,rfl,t1,ri⟩:=ri.bS;obtain⟨v,us2,rfl,t2,ri⟩:=ri.bS;cases ri.fK;obtain⟨qs,h1,h3⟩:=Oi q2 r2 le;have rk:ah K k [y] [j.d]:=by rw[(AS q1).1];exact t1
   refine⟨(j,y,v)::qs,⟨congrArg (·+1) h1.len,λi p h=>?_⟩,.cons ⟨rfl,rk,t2⟩ h3⟩
   cases i with
   |zero=>cases h;exact⟨_,rfl,le.zZ sq,tK (k:=k.all H) j (rk.all le),(AS q1).2⟩
   |succ i=>exact h1.item i p h
  .cases e
def Pk{qs:List (TK×V×V)}{ps:List (TK×D)}(p:Paired (su K k) qs ps):∀{ws:List (TK×V×V)} {kvs:List (TK×D)},ws.map (·.1)=kvs.map (·.1)->ah K k (ws.map (·.2.1)) (kvs.map (·.1.d))->ah K k (ws.map (·.2.2)) (kvs.map (·.2))->
  (eG ws qs).map (·.1)=(ps.foldl (λkvs p=>bK kvs p.1 p.2) kvs).map (·.1)/\ah K k ((eG ws qs).map (·.2.1)) ((ps.foldl (λkvs p=>bK kvs p.1 p.2) kvs).map (·.1.d))/\ah K k ((eG ws qs).map (·.2.2)) ((ps.foldl (λkvs p=>bK kvs p.1 p.2) kvs).map (·.2)):=by
 induction p with
 |nil=>exact λa b c=>⟨a,b,c⟩
 |@cons q p qs ps h _ ih=>
  intro ws kvs a b c;obtain⟨h1,h2,h3⟩:=h;obtain⟨j1,j2,j3⟩:=Jf h2 h3 a b c;rw[h1] at j1 j2 j3;have:=ih (ws:=cV ws p.1 q.2.1 q.2.2) (kvs:=bK kvs p.1 p.2) j1 j2 j3;rw[show eG ws (q::qs)=eG (cV ws p.1 q.2.1 q.2.2) qs by unfold eG;rw[Bw,h1],Bw]
  exact this
def V_:bP K (Qe K) (o1 qe):=uF λk H x a y Q le t e res=>by
 unfold qe at e;split at e
 .obtain⟨ps,q1,e⟩:=cg.mp e;split at e
  .rename_i hn
   cases e;obtain⟨p,ws,rfl,s,r⟩:=t.lst le;obtain⟨qs,g1,g3⟩:=Oi q1 r le;obtain⟨o1,o2,o3⟩:=Pk g3 (ws:=[]) (kvs:=[]) rfl .nil .nil;exact⟨p,ws,qs,rfl,s,g1,by rw[Paired.length g3];exact hn,λl ep hl=>res.az le o1 o2 o3 hl⟩
  .cases e
 .cases e
noncomputable def RM:D->aj String
 |.str _=>some "str"
 |.lst _=>some "list"
 |.az _=>some "dict"
 |_=>none
def e1p{T:String}(le:av k.F H)(t:Top K k H x d)(e:RM d=some T):Hc K T x H:=by
 cases d with
 |str _=>cases e;cases t.flat rfl;rfl
 |lst _=>cases e;obtain⟨p,ws,rfl,q,r⟩:=t.lst le;exact .inl ⟨rfl,_,q⟩
 |az _=>cases e;obtain⟨p,es,ep,rfl,h1,h2⟩:=t.az le;exact .inr (.inr (.inl ⟨rfl,.inr (.inr ⟨es,ep,h1⟩)⟩))
 |_=>cases e
def F0(T:String)(o:List D->aj Rv)(f:GE)(g:GA):GE:=λU S=>bd (f U S) λr S1=>if(vI S1 (m9 r)).bind RM=some T then bd (g U S1) λvs S2=>(vJ S2 (m9 r::vs)).bind λds=>(o ds).map λy=>.ok y S2 else none
def V'{W:XW}{q:Nat}{T:String}{o:List D->aj Rv}{r:V->List V->Hp->VK->Prop}{f:GE}{g:GA}{Z:St}{H:Hp}{Q:VK}(bh:bP K (qw r) o)(t:tE K W q (F0 T o f g) Z H Q):LH K T r (tE K W q f) (fW K W q g) Z H Q:=by
 obtain⟨k,U,S,res,ok,gk,e,w⟩:=t;refine tX.bd ok gk e w λr S1 x k1 H1 bw g1 r1 e1 w1 _=>?_
 obtain⟨k2,u2,cA,r2⟩:=rG bw r1;split at e1
 .rename_i hT
  obtain⟨d,h1,h2⟩:=cg.mp hT;refine⟨e1p cA.le (FR cA r2 h1) h2,tX.bd cA (g1.up (u2 q)) e1 (w1.up (u2 q)) λvs S3 xs k3 H3 jB g3 r3 e3 w3 u3=>?_⟩
  obtain⟨ds,e4,e5⟩:=cg.mp e3;obtain⟨y,e6,rfl⟩:=cW.mp e5;obtain⟨x',xs',z,rr⟩:=bh k3 H3 (x::xs) ds y Q jB.le (OZ jB (.cons (r2.up u3) r3) e4) e6 (.fin jB w3);cases z;exact rr
 .cases e1
def iR:D->D->aj Rv
 |.lst ds,.str z=>(eR ds).bind λys=>(findS ys z).map λj=>rd (.int (j:Nat))
 |_,_=>none
def Wa:bP K (qw (Qc K)) (o2 iR):=vz λk H x z a b y Q le t1 t2 e res=>by
 unfold iR at e;split at e
 .obtain⟨ys,e1,e2⟩:=cg.mp e;obtain⟨j,e3,rfl⟩:=cW.mp e2;obtain⟨p,ws,rfl,s,r⟩:=t1.lst le;rw[Iz e1] at r;cases HY r;cases t2.flat rfl;obtain⟨s1,s2⟩:=B1 e3;exact⟨_,_,rfl,p,ys,_,j,rfl,rfl,s,s1,s2,res.flat le rfl⟩
 .cases e
noncomputable def qk:D->D->aj Rv
 |.az kvs,i=>(ky i).map λj=>rd ((aR kvs j).getD .aF)
 |_,_=>none
def Y8:bP K (qw (xA K)) (o2 qk):=vz λk H x z a b y Q le t1 t2 e res=>by
 unfold qk at e;split at e
 .obtain⟨j,hj,rfl⟩:=cW.mp e;obtain⟨p,o,rfl,g,h⟩:=vY le t1 t2 hj;refine⟨_,_,rfl,p,_,o,rfl,rfl,g,?_⟩;rcases h with⟨rfl,h⟩|⟨v,e,rfl,h,r⟩
  .rw[h] at res;exact res.flat le rfl
  .rw[h] at res;exact res.rep le r
 .cases e
end
variable{k:Kn}{ws:List V}{ds:List D}{v:V}
noncomputable def Cell.box:Cell->aj Bx
 |.o b=>some b
 |_=>none
def qX(S:aO):Val->aj Bx
 |.c n=>(S.s[n]?).bind Cell.box
 |.d (.ref n)=>(S.r[n]?).bind Cell.box
 |_=>none
noncomputable def setB(S:aO)(b:Bx):Val->aO
 |.c n=>⟨S.s.set n (.o b),S.r⟩
 |.d (.ref n)=>⟨S.s,S.r.set n (.o b)⟩
 |_=>S
noncomputable def Bx.mb(q:Nat):Bx->Bool
 |.lst _=>Nat.ble q 1
 |.az _=>q == 0
noncomputable def Bx.ty:Bx->String
 |.lst _=>"list"
 |.az _=>"dict"
section
variable{K:PySem.W.Frag}{k:Kn}{H:Hp}{S:aO}{x:V}{v:Val}{b:Bx}{a:ag}
def Qn{c:Cell}(h:c.box=some b):c=.o b:=by
 cases c <;> cases h;rfl
def Qo{q:Nat}(h:dh K k H a b)(m:b.mb q=true):∀o,H a=some o->vw q o=false:=by
 intro o e;cases b with
 |lst xs=>
  obtain⟨ws,e1,_⟩:=h;rw[e] at e1;cases e1;have:=Ah m
  match q,this with
  |0,_=>rfl
  |1,_=>rfl
 |az kvs=>cases(beq_iff_eq.mp m);rfl
def Ck(ok:bO K k H S)(r:cI K k x v)(e:qX S v=some b):∃a,x=.ref a/\dh K k H a b/\∀q b' H',lG H H' a->b.mb q=true->dh K k H' a b'->bO K k H' (setB S b' v)/\Up q k H k H':=by
 cases v with
 |c n=>
  obtain⟨a,rfl,h1⟩:=r;obtain⟨c,h2,h3⟩:=cg.mp e;cases Qn h3;obtain⟨h4,h5⟩:=ok.s.at' n a _ h1 h2;exact⟨a,rfl,h5,λq b' H' o m h=>ok.Ly h1 o h4 (Qo h5 m) (c:=.o b') ⟨h4,h⟩⟩
 |d y=>
  cases y with
  |ref n=>
   obtain⟨a,rfl,h1⟩:=ah.isRef r;obtain⟨c,h2,h3⟩:=cg.mp e;cases Qn h3;obtain⟨h4,h5⟩:=ok.r.at' n a _ h1 h2;exact⟨a,rfl,h5,λq b' H' o m h=>ok.D0 h1 o h4 (Qo h5 m) (c:=.o b') ⟨h4,h⟩⟩
  |_=>cases e
def e6o{T:String}(h:dh K k H a b)(e:b.ty=T):Hc K T (.ref a) H:=by
 cases b with
 |lst xs=>obtain⟨ws,h1,_⟩:=h;exact .inl ⟨e.symm,ws,.inl (.inl h1)⟩
 |az kvs=>obtain⟨es,ep,h1,_⟩:=h;exact .inr (.inr (.inl ⟨e.symm,.inr (.inr ⟨es,ep,h1⟩)⟩))
end
def lF(K:PySem.W.Frag)(r:V->List V->Hp->VK->Prop)(m:Bx->List D->aj (Bx×D)):Prop:=∀k H a b ds b' d xs Q,av k.F H->dh K k H a b->ah K k xs ds->m b ds=some (b',d)->(∀x o',dh K k (upd H a o') a b'->ah K k [x] [d]->Q x (upd H a o'))->r (.ref a) xs H Q
def fG(q:Nat)(T:String)(m:Bx->List D->aj (Bx×D))(f:GE)(g:GA):GE:=λU S=>bd (f U S) λr S1=>if(qX S1 (m9 r)).map Bx.ty=some T then bd (g U S1) λvs S2=>(qW vs S2).bind λp=>(qX p.2 (m9 r)).bind λb=>if b.mb q=true then(m b p.1).map λz=>.ok (rd z.2) (setB p.2 z.1 (m9 r)) else none else none
section
variable{X:Cx}{K:PySem.W.Frag}{W:XW}{q:Nat}{T:String}{m:Bx->List D->aj (Bx×D)}{r:V->List V->Hp->VK->Prop}{f:GE}{g:GA}{Z:St}{H:Hp}{Q:VK}
def e1q(hm:lF K r m)(t:tE K W q (fG q T m f g) Z H Q):LH K T r (tE K W q f) (fW K W q g) Z H Q:=by
 obtain⟨k,U,S,res,ok,gk,e,w⟩:=t;refine tX.bd ok gk e w λr S1 x k1 H1 bw g1 r1 e1 w1 _=>?_
 obtain⟨k2,u2,cA,r2⟩:=rG bw r1;split at e1
 .rename_i hT
  obtain⟨b0,h1,h2⟩:=cW.mp hT;obtain⟨a0,ea,h3,_⟩:=Ck cA r2 h1;refine⟨ea ▸ e6o h3 h2,tX.bd cA (g1.up (u2 q)) e1 (w1.up (u2 q)) λvs S3 xs k3 H3 jB g3 r3 e3 w3 u3=>?_⟩
  obtain⟨⟨ds,S4⟩,e4,e5⟩:=cg.mp e3;obtain⟨k4,u4,rf,r4⟩:=FA jB r3 e4;obtain⟨b,e6,e7⟩:=cg.mp e5;obtain⟨a,rfl,h4,h5⟩:=Ck rf ((r2.up u3).up (u4 q)) e6;split at e7
  .rename_i hb
   obtain⟨⟨b',d⟩,e8,rfl⟩:=cW.mp e7;refine hm k4 H3 a b ds b' d xs Q rf.le h4 r4 e8 λy o' h6 h7=>?_
   obtain⟨mT,u5⟩:=h5 q b' _ B7 hb h6;exact(w3.up (u4 q)) y k4 _ u5 mT h7
  .cases e7
 .cases e1
noncomputable def uy:Bx->List D->aj (Bx×D)
 |.lst xs,[d]=>if xs.length<1000000 then some (.lst (xs++[d]),.aF) else none
 |_,_=>none
def zW:ah K k [.aF] [.aF]:=.flat rfl .nil
def FH{xs:List V}{d:D}(h:ah K k xs [d]):∃x,xs=[x]/\ah K k [x] [d]:=by
 obtain⟨x,us,rfl,h1,h2⟩:=h.bS;cases h2.fK;exact⟨x,rfl,h1⟩
def U3:lF K OW uy:=by
 intro k H a b ds b' d xs Q le hb r e h;unfold uy at e;split at e
 .split at e
  .rename_i hl
   cases e;obtain⟨ws,h1,h2⟩:=hb;obtain⟨y,rfl,r1⟩:=FH r;exact⟨a,ws,y,rfl,rfl,h1,fM (by rw[h2.length];exact hl) (by decide),h .aF _ ⟨_,aI,h2.append r1⟩ zW⟩
  .cases e
 .cases e
noncomputable def AV:Bx->List D->aj (Bx×D)
 |.lst xs,[.int i,d]=>if 0<=i/\i<2^62/\xs.length<1000000 then some (.lst (xs.take i.toNat++d::xs.drop i.toNat),.aF) else none
 |_,_=>none
def U4:lF K OX AV:=by
 intro k H a b ds b' d xs Q le hb r e h;unfold AV at e;split at e
 .split at e
  .rename_i hl
   cases e;obtain⟨ws,h1,h2⟩:=hb;obtain⟨y,us,rfl,r1,r2⟩:=r.bS;obtain⟨z,rfl,r3⟩:=FH r2;cases r1.aX rfl;refine⟨a,ws,_,z,rfl,rfl,h1,hl.1,hl.2.1,fM (by rw[h2.length];exact hl.2.2) (by decide),h .aF _ ⟨_,aI,?_⟩ zW⟩
   have:∀(n:Nat) (l:List V),q9 l n z=l.take n++z::l.drop n:=λn l=>by unfold q9;rfl
   rw[this];exact(h2.take _).append (.cons r3 (h2.drop _))
  .cases e
 .cases e
noncomputable def FI:Bx->List D->aj (Bx×D)
 |.lst xs,[.str z]=>(eR xs).bind λys=>(findS ys z).map λj=>(.lst (xs.eraseIdx j),.aF)
 |_,_=>none
def U5(h:ah K k ws ds)(j:Nat):ah K k (ws.eraseIdx j) (ds.eraseIdx j):=by
 rw[List.eraseIdx_eq_take_drop_succ,List.eraseIdx_eq_take_drop_succ];exact(h.take _).append (h.drop _)
def U6:lF K Pe FI:=by
 intro k H a b ds b' d xs Q le hb r e h;unfold FI at e;split at e
 .obtain⟨ys,e1,e2⟩:=cg.mp e;obtain⟨j,e3,e4⟩:=cW.mp e2;cases e4;obtain⟨ws,h1,h2⟩:=hb;obtain⟨y,rfl,r1⟩:=FH r;cases r1.aX rfl;obtain⟨s1,s2⟩:=B1 e3;have h3:=U5 h2 j;rw[Iz e1] at h2;cases HY h2;exact⟨a,ys,_,j,rfl,rfl,h1,s1,s2,h .aF _ ⟨_,aI,by rw[<-E8];exact h3⟩ zW⟩
 .cases e
def dz{α:Type}(kvs:List (TK×α))(z:Str):List (TK×α):=kvs.filter λe=>gj z e.1
def kB:Bx->List D->aj (Bx×D)
 |.az kvs,[.str z]=>if gM kvs=true then(aR kvs (.inr z)).map λd=>(.az (dz kvs z),d) else none
 |_,_=>none
theorem Oj{k:Kn}(z:Str):∀{ws:List (TK×V×V)} {kvs:List (TK×D)},ws.map (·.1)=kvs.map (·.1)->ah K k (ws.map (·.2.1)) (kvs.map (·.1.d))->ah K k (ws.map (·.2.2)) (kvs.map (·.2))->
  (dz ws z).map (·.1)=(dz kvs z).map (·.1)/\ah K k ((dz ws z).map (·.2.1)) ((dz kvs z).map (·.1.d))/\ah K k ((dz ws z).map (·.2.2)) ((dz kvs z).map (·.2))
 |[],[],_,_,_=>⟨rfl,.nil,.nil⟩
 |w::ws,p::kvs,h,r1,r2=>by
  obtain⟨h1,h2⟩:=List.cons.inj (show w.1::ws.map (·.1)=p.1::kvs.map (·.1) from h)
  obtain⟨a1,a2⟩:=ah.inv r1;obtain⟨b1,b2⟩:=ah.inv r2;obtain⟨c1,c2,c3⟩:=Oj z h2 a2 b2;unfold dz at *;rw[ue,ue,h1];split
  .exact⟨congr (congrArg List.cons h1) c1,.cons a1 c2,.cons b1 c3⟩
  .exact⟨c1,c2,c3⟩
 |[],_::_,h,_,_=>nomatch h
 |_::_,[],h,_,_=>nomatch h
def Y9:lF K (xG K) kB:=by
 intro k H a b ds b' d xs Q le hb r e h;unfold kB at e;split at e
 .split at e
  .rename_i ht
   obtain⟨v0,e1,e2⟩:=cW.mp e;cases e2;obtain⟨es,ep,h1,h2,h3,h4⟩:=hb;obtain⟨y,rfl,r1⟩:=FH r;cases r1.aX rfl;obtain⟨f1,f2,f3⟩:=Oj (K:=K) _ h2 h3 h4;rcases Je (k:=.inr _) h2 h4 with⟨_,z⟩|⟨v,e,z1,z2,z3⟩
   .rw[z] at e1;cases e1
   .rw[z2] at e1;cases e1;exact⟨a,es,ep,_,v,rfl,rfl,h1,JJ h2 h3 ht,z1,λpQ=>h v _ ⟨_,pQ,aI,f1,f2,f3⟩ z3⟩
  .cases e
 .cases e
end
def qx(K:PySem.W.Frag):qP:=λo i v H Q=>xI o i v H Q\/∃a H4,o=.ref a/\yi K H a i v H4/\Q H4
def QT{X:Cx}(hu:X.A.units+41<cLine):uS X (qx X.K):=by
 intro aa s Z H o i v ov iv u Q I ro ri rv h;rcases h with h|⟨a,H4,rfl,g,q⟩
 .exact VG aa s Z H o i v ov iv u Q I ro ri rv h
 .cases ro;exact UO (by lia) I g ri rv λs4 I4=>⟨H4,I4,q⟩
def vK(b:Bx)(i v:D):aj Bx:=match b with
 |.lst xs=>(intD i).bind λk=>(tI xs.length k).map λj=>.lst (xs.set j v)
 |.az kvs=>(ky i).bind λj=>if kvs.length<1000000 then some (.az (bK kvs j v)) else none
section
variable{X:Cx}{K:PySem.W.Frag}{W:XW}{q:Nat}{fv fo fi:GE}{o e i:Expr}{pos pos':Pos}{Z:St}{H:Hp}
def Y_{d:D}(h:ah K k ws ds)(r:ah K k [v] [d])(j:Nat):ah K k (ws.set j v) (ds.set j d):=by
 induction ds generalizing ws j with
 |nil=>rw[h.fK];exact .nil
 |cons x ds ih=>
  obtain⟨w,us,rfl,h1,h2⟩:=h.bS;cases j with
  |zero=>exact .cons r h2
  |succ j=>exact .cons h1 (ih h2 j)
def Qp{a:ag}{b b':Bx}{di dv:D}{y:V}{Q:Hp->Prop}(le:av k.F H)(hb:dh K k H a b)(ri:ah K k [y] [di])(rv:ah K k [v] [dv])(e:vK b di dv=some b')(h:∀o',dh K k (upd H a o') a b'->Q (upd H a o')):qx K (.ref a) y v H Q:=by
 unfold vK at e;split at e
 .obtain⟨j,h1,e⟩:=cg.mp e;obtain⟨n,h2,rfl⟩:=cW.mp e;cases FF h1;cases ri.aX rfl;obtain⟨ws,h3,h4⟩:=hb;exact .inl ⟨a,ws,j,n,rfl,rfl,h3,by rw[h4.length];exact h2,h _ ⟨_,aI,Y_ h4 rv n⟩⟩
 .obtain⟨j,h1,e⟩:=cg.mp e;split at e
  .rename_i hl
   cases e;obtain⟨es,ep,h2,h3,h4,h5⟩:=hb;obtain⟨k1,k2⟩:=AS h1;have ry:ah K k [y] [j.d]:=by rw[k1];exact ri
   obtain⟨p1,p2,p3⟩:=Jf ry rv h3 h4 h5;have mL:es.length<sizeLine:=by
    have:=h5.length;rw[aY,aY] at this;rw[this];exact fM hl (by decide)
   exact .inr ⟨a,_,rfl,⟨es,ep,j,h2,O_ h3 h4 le,tK (k:=k.all H) j (ry.all le),k2,mL,rfl⟩,h _ ⟨_,_,aI,p1,p2,p3⟩⟩
  .cases e
def bV(q:Nat)(fv fo fi:GE):GS:=λU S=>kN U (mD fv (mD fo (mD fi gN)) U S) λvs S1=>match vs with
 |[v,o,i]=>(qW [v,i] S1).bind λp=>(qX p.2 o).bind λb=>if b.mb q=true then(match p.1 with
  |[dv,di]=>(vK b di dv).map λb'=>.nx U (setB p.2 b' o)
  |_=>none) else none
 |_=>none
def e1s{D:Ends}(t:tS K W q (bV q fv fo fi) D Z H):tE K W q fv Z H λv H1=>tE K W q fo Z H1 λo H2=>tE K W q fi Z H2 λi H3=>qx K o i v H3 λH4=>D.nx Z H4:=by
 have t1:fW K W q (mD fv (mD fo (mD fi gN))) Z H λxs H3=>∃v o i,xs=[v,o,i]/\qx K o i v H3 λH4=>D.nx Z H4:=by
  obtain⟨k,U,S,fr,ok,gk,e,w⟩:=t;refine tS.bd ok gk e w λvs S1 xs k1 H1 bw g1 r1 e1 w1=>?_
  split at e1
  .rename_i v o i
   cases r1 with
   |@cons xv _ _ _ rv t=>
    cases t with
    |@cons xo _ _ _ ro t=>
     cases t with
     |@cons xi _ _ _ ri t=>
      cases t;refine⟨xv,xo,xi,rfl,?_⟩;obtain⟨⟨ds,S2⟩,e2,e3⟩:=cg.mp e1;obtain⟨k2,u2,cA,r2⟩:=FA bw (.cons rv (.cons ri .nil)) e2;obtain⟨b,e4,e5⟩:=cg.mp e3;obtain⟨a,rfl,h4,h5⟩:=Ck cA (ro.up (u2 q)) e4;split at e5
      .rename_i hb
       obtain _|⟨dv,_|⟨di,_|⟨_,_⟩⟩⟩:=ds
       .cases e5
       .cases e5
       .obtain⟨b',e6,rfl⟩:=cW.mp e5;obtain⟨s1,s2⟩:=r2.inv;refine Qp cA.le h4 s2 s1 e6 λo' h6=>?_
        obtain⟨mT,u5⟩:=h5 q b' _ B7 hb h6;exact bL.now (bL.up (bL.up w1 (u2 q)) u5) mT ((g1.up (u2 q)).up u5)
       .cases e5
      .cases e5
  .cases e1
 refine pL (uV t1) λv H1 h=>pL (uV h) λo H2 h=>pL (uV h) λi H3 h=>?_
 obtain⟨v',o',i',e,h⟩:=A1 h;cases e;exact h
def e1t(he:PE X e (tE K W q fv))(ho:PE X o (tE K W q fo))(hi:PE X i (tE K W q fi))(hu:X.A.units+41<cLine)(hK:X.K=K)
  (ha:∀v,assign (.Subscript o i pos') X.env v=(do
   let ov <-holding [v] (eval o X.env)
   let iv <-holding [v,ov] (eval i X.env)
   standAt pos'
   holding [v,ov,iv] (setItem ov iv v)
   release [v,ov,iv] []))
  (hs:swapsWithSole [.Subscript o i pos'] e pos.line X.env=pure false) (hw:swappedStores [.Subscript o i pos'] e X.env=pure none)
  (h1:(assignEach [.Subscript o i pos'] X.env).map (·.2)=[assign (.Subscript o i pos') X.env]):PS X (.Assign [.Subscript o i pos'] e pos) (tS K W q (bV q fv fo fi)):=by
 subst hK;exact(ν he (μ ho hi (QT hu) ha) hs hw h1).mono λD Z H t=>e1s t
end
end L2
namespace L2
open PySem PySem.Spec PySem.W PyProof.Rows
section
variable{X:Cx}{K:Frag}{W:XW}{q:Nat}{pos:Pos}{aa:List (ag×Obj)}{Z:St}
def tV:PE X (.Dict [] [] pos) e1m:=λaa s Z H Q I h=>
 wpAny_Dict_empty ⟨.ref s.heap.objs.size,_,I.laid (a:=s.heap.objs.size) (o:=.dG [] 0) (t':=s.toks) (λ_ _ q=>cO _ q) (bG _) (IG s.heap I.big),rfl,h _ (I.bh.fresh (bG _))⟩
noncomputable def rH:GE:=λ_ S=>some (.ok (.o (.az [])) S)
def sN:PE X (.Dict [] [] pos) (tE K W q rH):=tV.mono λZ H Q t p hp=>by
 obtain⟨k,U,S,res,ok,gk,e,w⟩:=t;cases e;exact kY.az (.fin ok w) ok.le rfl .nil .nil hp
def p7(K:Frag)(F:Hp)(e:TK×V×V):Prop:=a_ K F [e.2.1] [e.1.d]/\e.1.ok 8=true
def Qq(K:Frag)(vP:List (TE×TE)):TE:=λZ H Q=>∀p,H p=none->FO vP Z (upd H p (.dG [] 0)) λps H2=>(∃e0,H2 p=some (.dG [] e0))/\∃(F:Hp) (qs:List (TK×V×V)),F p=none/\av F H2/\ps=qs.map (·.2)/\(∀e∈qs,p7 K F e)/\qs.length<=15/\∀ep,Q (.ref p) (upd H2 p (.dG (eG [] qs) ep))
def Wb{F:Hp}{qs:List (TK×V×V)}(h:∀e∈qs,p7 K F e):∀{es:List (TK×V×V)},a_ K F (es.map (·.2.1)) (es.map (·.1.d))->a_ K F ((eG es qs).map (·.2.1)) ((eG es qs).map (·.1.d)):=λ{es} r=>Ng K (λp m=>(h p m).1) r
theorem NO{A:cF}{E:ai->aq->Prop}{F H2:Hp}{p:ag}(hF:F p=none)(le:av F H2)(hu:A.units+8<cLine){Q:Unit->aq->Prop}:∀{qs:List (TK×V×V)} {ws:List (ai×ai)} {es:List (TK×V×V)} {ep:Nat} {s:aq},VV (qs.map (·.2)) ws->(∀e∈qs,p7 X.K F e)->a_ X.K F (es.map (·.2.1)) (es.map (·.1.d))->es.length+qs.length<=1000->Inv X aa Z (upd H2 p (.dG es ep)) s->(∀ep s,Inv X aa Z (upd H2 p (.dG (eG es qs) ep)) s->Q () s)->
  wpAny (model X.prog X.w) A (forIn ws () λ(x:ai×ai) _=>do dictSet p x.1 x.2;pure (ForInStep.yield ())) Q E s
 |[],_,es,ep,s,v,_,_,_,I,h=>by
  rw[Bs] at v;cases v;rw[List.forIn_nil];exact aS (h ep s I)
 |e::qs,_,es,ep,s,v,hk,r,hl,I,h=>by
  rw[bY] at v;cases v with
  |cons rv v=>
   rw[List.forIn_cons];have sm:av F (upd H2 p (.dG es ep)):=λb o z=>by rw[cP (λy=>by rw[y,hF] at z;cases z)];exact le b o z
   have Kl:=hk e (.head _);rw[jr] at hl;refine ay (ay (Iy (by lia) I ⟨es,ep,e.1,aI,r.He sm,Kl.1.He sm,Kl.2,by rw[sizeLine_eq];lia,rfl⟩ rv.1 rv.2 λs' I'=>aS ?_))
   rw[Xt] at I';have GN:=EZ e.1 e.2.1 e.2.2 es;have e3:(eG es [e]).length=(cV es e.1 e.2.1 e.2.2).length:=rfl;exact NO (es:=eG es [e]) hF le hu v (λe m=>hk e (.tail _ m)) (Wb (qs:=[e]) (λx m=>by cases kR.mp m;exact Kl) r) (by lia) I' h
def Wc{keys:List (aj Expr)}{values:List Expr}{vP:List (TE×TE)}(h:Aq X pos keys values vP)(hu:X.A.units+41<cLine)(jA:keys.all (·.isSome)=true)(hl:keys.length=values.length)(h0:keys≠[])(ze:keys.length<=15):PE X (.Dict keys values pos) (Qq X.K vP):=by
 intro aa s Z H Q I q;have hn:=I.bh.fresh (bG s.heap.objs.size);have I1:=I.laid (a:=s.heap.objs.size) (o:=.dG [] 0) (h':=s.heap.push { cls:=.type "dict",data:=.dict #[]}) (t':=s.toks) (λ_ _ q=>cO _ q) (bG _) (IG s.heap I.big)
 have lp:∀(ks:List (aj Expr)) (vs:List Expr),ks.all (·.isSome)=true->ks.length=vs.length->(pairTrees ks vs X.env pos).length=ks.length:=by
  intro ks
  induction ks with
  |nil=>intro vs _ e;cases vs with
   |nil=>rfl
   |cons _ _=>cases e
  |cons k ks ih=>
   intro vs a e;rw[jR,lC] at a;cases k with
   |none=>cases a.1
   |some k=>cases vs with
    |nil=>cases e
    |cons v vs=>exact congrArg (·+1) (ih vs a.2 (Nat.succ.inj e))
 have K1:=lp keys values jA hl;rw[arm_eval_Dict,zip_pairTrees keys values X.env pos jA hl,dictDisplay_pairs _ (λz=>h0 (List.eq_nil_of_length_eq_zero (by rw[<-K1,z];rfl))) (by rw[K1];lia)]
 refine ay (wpAny_standAt (ay ?_));unfold subDict;refine ay (wpAny_alloc (ay (kT ?_)));rw[aN (by rw[K1];exact ze)]
 refine ay (bB (h aa _ Z _ _ I1 (q _ hn)) λws s2 hh=>?_)
 obtain⟨ps,H2,I2,rel,⟨e0,e⟩,F,qs,hF,le,ep,hk,hq,q2⟩:=hh;subst ep;refine kT (ay ?_);have eu:upd H2 s.heap.objs.size (.dG [] e0)=H2:=by
  funext b;by_cases z:b=s.heap.objs.size
  .rw[z,aI,e]
  .rw[cP z]
 refine NO hF le (by show X.A.units+8<cLine;lia) rel hk .nil (by rw[Af];lia) (eu ▸ I2) λep s' I'=>?_
 exact aS (aS (aS ⟨.ref _,_,I',rfl,q2 ep⟩))
noncomputable def Jr:List D->aj (List (TK×D))
 |[]=>some []
 |a::b::ds=>(ky a).bind λj=>(Jr ds).map λps=>(j,b)::ps
 |_=>none
def qh(g:GA):GE:=λU S=>bd (g U ⟨S.s++[.o (.az [])],S.r⟩) λvs S1=>(qW vs S1).bind λz=>if z.2.s.length=S.s.length+1 then(match z.2.s[S.s.length]? with
 |some (.o (.az []))=>(Jr z.1).bind λps=>if ps.length<=15 then some (.ok (.o (.az (ps.foldl (λkvs p=>bK kvs p.1 p.2) []))) ⟨z.2.s.take S.s.length,z.2.r⟩) else none
 |_=>none) else none
def AW:List (GE×GE)->GA
 |[]=>gN
 |p::r=>mD p.1 (mD p.2 (AW r))
noncomputable def sT:List (V×V)->List V
 |[]=>[]
 |p::r=>p.1::p.2::sT r
noncomputable abbrev Ha(K:Frag)(W:XW)(q:Nat)(gs:List (GE×GE)):List (TE×TE):=gs.map λp=>(tE K W q p.1,tE K W q p.2)
def Wd{gs:List (GE×GE)}:∀{H:Hp} {Q:List (V×V)->Hp->Prop},fW K W q (AW gs) Z H (λxs H2=>∀ps,sT ps=xs->Q ps H2)->FO (Ha K W q gs) Z H Q:=by
 induction gs with
 |nil=>intro H Q t;exact A1 t [] rfl
 |cons p gs ih=>intro H Q t;exact pL (uV t) λx H1 t=>pL (uV t) λy H2 t=>ih (pL t λxs H3 h ps e=>h _ (by rw[<-e];rfl))
theorem Pl{k:Kn}:∀{ps:List (V×V)} {ds:List D} {es:List (TK×D)},Jr ds=some es->ah K k (sT ps) ds->∃qs:List (TK×V×V),ps=qs.map (·.2)/\(∀e∈qs,p7 K k.F e)/\Paired (su K k) qs es
 |[],ds,es,e,r=>by
  cases ds with
  |nil=>cases e;exact⟨[],rfl,(λ_ m=>nomatch m),.nil⟩
  |cons _ _=>have:=r.length;cases this
 |p::ps,ds,es,e,r=>by
  cases ds with
  |nil=>have:=r.length;cases this
  |cons a ds=>cases ds with
   |nil=>have:=r.length;cases this
   |cons b ds=>
    obtain⟨j,q1,e⟩:=cg.mp e;obtain⟨ps',q2,rfl⟩:=cW.mp e;obtain⟨r1,r⟩:=ah.inv r;obtain⟨r2,r⟩:=ah.inv r;obtain⟨qs,h1,h2,h3⟩:=Pl q2 r;have rk:ah K k [p.1] [j.d]:=by rw[(AS q1).1];exact r1
    refine⟨(j,p.1,p.2)::qs,by rw[h1];rfl,λe m=>?_,.cons ⟨rfl,rk,r2⟩ h3⟩
    rcases y07.mp m with rfl|m
    .exact⟨tK (k:=k) j rk,(AS q1).2⟩
    .exact h2 e m
def U7{α:Type}{l:List α}{n:Nat}{p:α}(h:l.length=n+1)(e:l[n]?=some p):l=l.take n++[p]:=by
 conv=>lhs;rw[<-Mh n l]
 congr 1
 obtain⟨hn,e⟩:=eS.mp e;rw[List.drop_eq_getElem_cons hn,e,Hi (by lia)]
def Y'{gs:List (GE×GE)}{H:Hp}{Q:VK}(t:tE K W q (qh (AW gs)) Z H Q):Qq K (Ha K W q gs) Z H Q:=by
 intro p hp;obtain⟨k,U,S,res,ok,gk,e,w⟩:=t;have sm:av H (upd H p (.dG [] 0)):=sD hp;obtain⟨fx,nx⟩:=ok.fresh hp;have cA:bO K k _ S:=ok.new (av.refl _) (λa _ o z=>sm a o z) (ok.le.trans sm) λ_ _ z=>z
 obtain⟨jB,u3⟩:=cA.pushS (b:=.az []) fx nx ⟨[],0,aI,rfl,.nil,.nil⟩;have u4:Up q k H ⟨k.F,k.A,k.T++[p]⟩ (upd H p (.dG [] 0)):=(Up.of (av.refl _) sm).trans (u3 q);refine Wd ?_;refine tX.bd (R':=RE K) (Q':=Q) jB (gk.up u4) e (w.up u4) λvs S1 xs k1 H1 bw g1 r1 e1 w1 u1 ps0 e0=>?_
 subst e0;obtain⟨z,e2,e1⟩:=cg.mp e1;obtain⟨k2,u2,mT,r5⟩:=FA bw r1 e2;split at e1
 .rename_i hl
  split at e1
  .rename_i hc
   obtain⟨ps,e3,e1⟩:=cg.mp e1;split at e1
   .rename_i ze
    cases e1;have ep:k2.T[S.s.length]?=some p:=FQ (u2 q).t (FQ u1.t (by rw[<-ok.s.ln];exact Fy))
    obtain⟨hF,es,e0,hH,hk,_,_⟩:=mT.s.at' _ _ _ ep hc;cases es with
    |cons _ _=>cases hk
    |nil=>
     obtain⟨qs,h1,h2,h3⟩:=Pl e3 r5;have hlT:k2.T.length=S.s.length+1:=mT.s.ln.trans hl;have eT:=U7 hlT ep;have np:p∉k2.A++k2.T.take S.s.length:=by
      have nd:=mT.nd;rw[eT,<-nt] at nd;exact λm=>(iI.mp nd).2.2 p m p (List.mem_singleton_self _) rfl
     refine⟨⟨e0,hH⟩,k2.F,qs,hF,mT.le,h1,h2,by rw[Paired.length h3];exact ze,λpQ=>?_⟩
     obtain⟨o1,o2,o3⟩:=Pk h3 (ws:=[]) (kvs:=[]) rfl .nil .nil;have ho:lG H1 (upd H1 p (.dG (eG [] qs) pQ)) p:=B7;have K7:=mT.take S.s.length;have ok7:bO K ⟨k2.F,k2.A,k2.T.take S.s.length⟩ (upd H1 p (.dG (eG [] qs) pQ)) ⟨z.2.s.take S.s.length,z.2.r⟩:=K7.new (av.refl _) (λa m o y=>by rw[ho a λy=>np (y ▸ m)];exact y) (λb o y=>by rw[ho b λy'=>by rw[y',hF] at y;cases y];exact mT.le b o y) λ_ _ y=>y
     have uu:=u4.trans (u1.trans (u2 q));refine w (.ref p) ⟨k2.F,k2.A,k2.T.take S.s.length⟩ _ ⟨uu.f,uu.a,N9 uu.t (Br ok.s.ln),λa o y1 y2=>?_⟩ ok7 ⟨p,rfl,hF,np,_,pQ,aI,o1,ah.mono (k:=k2) ⟨av.refl k2.F,lE k2.A⟩ o2,ah.mono (k:=k2) ⟨av.refl k2.F,lE k2.A⟩ o3⟩
     rw[ho a λy=>by rw[y,hp] at y2;cases y2]
     exact uu.h a o y1 y2
   .cases e1
  .cases e1
 .cases e1
def Za{keys:List (aj Expr)}{values:List Expr}{gs:List (GE×GE)}(hK:X.K=K)(h:Aq X pos keys values (Ha K W q gs))(hu:X.A.units+41<cLine)(jA:keys.all (·.isSome)=true)(hl:keys.length=values.length)(h0:keys≠[])(ze:keys.length<=15):PE X (.Dict keys values pos) (tE K W q (qh (AW gs))):=(Wc h hu jA hl h0 ze).mono λZ H Q t=>by
 rw[hK];exact Y' t
end
end L2
namespace L2
open PySem PySem.Spec PyProof.Rows
variable{aU:Str}{Z:St}{H:Hp}{Q:Str->Hp->Prop}
noncomputable def mI:D->aj Rv
 |.str x=>if x.length<=1000000 then some (rd (.str x)) else none
 |.int i=>if i.natAbs.log2<1920 then some (rd (.str (Str.ofString (toString i)))) else none
 |_=>none
def Lp:V->Hp->VK->Prop:=λx H Q=>(∃z:Str,x=.str z/\z.length<=sizeLine/\Q (.str z) H)\/∃i:Int,x=.int i/\i.natAbs.log2<1920/\Q (.str (Str.ofString (toString i))) H
abbrev TJ:=Str->St->Hp->(Str->Hp->Prop)->Prop
def xQ:TJ:=λaU _ H Q=>Q aU H
def Qr(te:TE)(tj:TJ):TJ:=λaU Z H Q=>te Z H λx H1=>∃y,x=.str y/\(aU++y).length<=sizeLine/\tj (aU++y) Z H1 Q
def PJ(X:Cx)(es:List Expr)(tj:TJ):Prop:=∀(aU:Str) (aa:List (ag×Obj)) (s:aq) (Z:St) (H:Hp) (Q:Str->Hp->Prop) (R:Str->aq->Prop),Inv X aa Z H s->tj aU Z H Q->aU.length<=sizeLine->
 (∀out s' H',out.length<=sizeLine->Inv X aa Z H' s'->Q out H'->R out s')->Joins (model X.prog X.w) X.A X.xe (evalEach es X.env) aU R s
abbrev GJ:=Str->Gx Str
noncomputable def km:GJ:=λaU _ S=>some (.ok aU S)
noncomputable def Rv.str:Rv->aj Str
 |.v (.d (.str i))=>some i
 |_=>none
noncomputable def nh(f:GE)(j:GJ):GJ:=λaU U S=>bd (f U S) λr S1=>r.str.bind λy=>if(aU++y).length<=1000000 then j (aU++y) U S1 else none
noncomputable def yC(j:GJ):GE:=λU S=>bd (j Str.empty U S) λz S1=>some (.ok (rd (.str z)) S1)
abbrev RS:Rp Str Str:=λ_ _ b a=>b=a
section
variable{X:Cx}{K:PySem.W.Frag}{W:XW}{q:Nat}{f:GE}{e v:Expr}{es:List Expr}{j:GJ}{pos:Pos}{te:TE}{tj:TJ}
def Rv.z6{r:Rv}{i:Str}(h:r.str=some i):r=rd (.str i):=by
 unfold Rv.str at h;split at h
 .cases h;rfl
 .cases h
def e1u:bP K (Ln Lp) (o1 mI):=uF λk H x a y Q le t e res=>by
 unfold mI at e;split at e
 .split at e
  .cases e;cases t.flat rfl;exact⟨_,rfl,.inl ⟨_,rfl,ml (by assumption),res.flat le rfl⟩⟩
  .cases e
 .split at e
  .cases e;cases t.flat rfl;exact⟨_,rfl,.inr ⟨_,rfl,by assumption,res.flat le rfl⟩⟩
  .cases e
 .cases e
def CQ(h:PE X v (tE K W q f)):PE X (.FormattedValue v (-1) none pos) (tE K W q (gO (o1 mI) (bo f))):=by
 intro aa s Z H Q I t;refine wpAny_FormattedValue_plain (bB (h aa s Z H _ I (JP (u7 e1u t))) λu s1 ⟨x,H1,I1,r1,q1⟩=>?_)
 rcases q1 with⟨z,rfl,hz,q⟩|⟨i,rfl,hi,q⟩
 .obtain⟨t',rfl⟩:=r1;exact PyProof.Rows.formatField_str (λt2 tk=>⟨.str z,H1,I1.tok _,⟨_,rfl⟩,q⟩) hz
 .obtain⟨t',rfl⟩:=r1;exact wpAny_formatField_int hi ⟨.str _,H1,I1.tok _,⟨_,rfl⟩,q⟩
def e1v:PJ X [] xQ:=λaU aa s Z H Q R I t hl hR=>Joins_nil (hR _ _ _ hl I t)
def Zb(he:PE X e te)(hj:PJ X es tj):PJ X (e::es) (Qr te tj):=λaU aa s Z H Q R I t hl hR=>
 Joins_cons (bB (he aa s Z H _ I t) λu s1 ⟨x,H1,I1,r1,y,hy,Ru,q1⟩=>by
  subst hy;obtain⟨t,rfl⟩:=r1;exact⟨y,t,rfl,Ru,hj (aU++y) aa s1 Z H1 Q R I1 q1 Ru hR⟩)
def Zc(t:tX RS K W q (km aU) Z H Q):xQ aU Z H Q:=CN t λ_ _=>rfl
def We(hj:∀aU Z H Q,tX RS K W q (j aU) Z H Q->tj aU Z H Q)(t:tX RS K W q (nh f j aU) Z H Q):Qr (tE K W q f) tj aU Z H Q:=by
 obtain⟨k,U,S,res,ok,gk,e,w⟩:=t;refine tX.bd ok gk e w λr S1 x k1 H1 bw g1 r1 e1 w1 _=>?_
 obtain⟨y,e2,e3⟩:=cg.mp e1;cases Rv.z6 e2;split at e3
 .exact⟨y,(show ah K k1 [x] [.str y] from r1).aX rfl,ml (by assumption),hj _ _ _ _ ⟨k1,U,S1,res,bw,g1,e3,w1⟩⟩
 .cases e3
def U8{v1 v2:Expr}{rest:List Expr}(h:PJ X (v1::v2::rest) tj)(hj:∀aU Z H Q,tX RS K W q (j aU) Z H Q->tj aU Z H Q):PE X (.JoinedStr (v1::v2::rest) pos) (tE K W q (yC j)):=by
 intro aa s Z H Q I t;refine wpAny_JoinedStr (h Str.empty aa s Z H (λout H'=>Q (.str out) H') _ I (hj _ _ _ _ ?_) (lD _) λout s' H' h1 I' hQ=>⟨h1,.str out,H',I'.tok _,⟨_,rfl⟩,hQ⟩)
 obtain⟨k,U,S,res,ok,gk,e,w⟩:=t;refine tX.bd ok gk e w λz S1 z' k1 H1 bw g1 r1 e1 w1 _=>?_
 cases e1;cases r1;exact w1.now bw (show ah K k1 [_] [_] from .flat rfl .nil)
end
variable{S:aO}{n:Nat}{op:Operator}{h:Int->Int->Int}
def jS(K:PySem.W.Frag)(atr:List (ag×Str)):Prop:=∀p∈atr,pz K p.1/\fA K p.1 p.2
noncomputable def tD(S:aO)(n:Nat):aj (ag×List (Str×D)):=(S.r[n]?).bind λc=>match c with
 |.ins C fs=>some (C,fs)
 |_=>none
def FJ{p:ag×List (Str×D)}(h:tD S n=some p):S.r[n]?=some (.ins p.1 p.2):=by
 obtain⟨c,h1,h2⟩:=cg.mp h;cases c <;> cases h2;exact h1
def bj(atr:List (ag×Str))(g:Str)(f:GE):GE:=λU S=>bd (f U S) λr S1=>r.ref.bind λn=>(tD S1 n).bind λp=>if atr.contains (p.1,g)=true then(p.2.lookup g).map λd=>.ok (rd d) S1 else none
noncomputable def fJ(f:Str)(v:D):List (Str×D)->List (Str×D)
 |[]=>[(f,v)]
 |(g,x)::r=>if g=f then(g,v)::r else(g,x)::fJ f v r
section
variable{X:Cx}{K:PySem.W.Frag}{W:XW}{q:Nat}{atr:List (ag×Str)}{g:Str}{f fv fo fe fi:GE}{e o value i:Expr}{pos pos' eY:Pos}{Z:St}{H:Hp}
theorem II{k:Kn}{g:Str}{d:D}:∀{gs:List (Str×V)} {fs:List (Str×D)},gs.map (·.1)=fs.map (·.1)->ah K k (gs.map (·.2)) (fs.map (·.2))->fs.lookup g=some d->∃v,gs.lookup g=some v/\ah K k [v] [d]
 |[],[],_,_,e=>nomatch e
 |(x,v)::gs,(y,c)::fs,h,r,e=>by
  obtain⟨h1,h2⟩:=List.cons.inj (show x::gs.map (·.1)=y::fs.map (·.1) from h)
  obtain⟨a1,a2⟩:=ah.inv r;subst h1;rw[rA] at e ⊢;split at e
  .cases e;exact⟨v,rfl,a1⟩
  .exact II h2 a2 e
 |[],_::_,h,_,_=>nomatch h
 |_::_,[],h,_,_=>nomatch h
theorem Ol{k:Kn}{g:Str}{v:V}{d:D}(rv:ah K k [v] [d]):∀{gs:List (Str×V)} {fs:List (Str×D)},gs.map (·.1)=fs.map (·.1)->ah K k (gs.map (·.2)) (fs.map (·.2))->(dm g v gs).map (·.1)=(fJ g d fs).map (·.1)/\ah K k ((dm g v gs).map (·.2)) ((fJ g d fs).map (·.2))
 |[],[],_,_=>⟨rfl,rv⟩
 |(x,w)::gs,(y,c)::fs,h,r=>by
  obtain⟨h1,h2⟩:=List.cons.inj (show x::gs.map (·.1)=y::fs.map (·.1) from h)
  obtain⟨a1,a2⟩:=ah.inv r;subst h1;unfold dm fJ;split
  .exact⟨congrArg (List.cons x) h2,.cons rv a2⟩
  .obtain⟨c1,c2⟩:=Ol rv h2 a2;exact⟨congrArg (List.cons x) c1,.cons a1 c2⟩
 |[],_::_,h,_=>nomatch h
 |_::_,[],h,_=>nomatch h
def e1w(ha:jS K atr)(he:PE X e (tE K W q f))(hb:attributeBase e g X.env (eval e X.env)=eval e X.env)(hK:X.K=K):PE X (.Attribute e g pos) (tE K W q (bj atr g f)):=by
 subst hK;refine(ψ he hb).mono λZ H Q t=>?_
 obtain⟨k,U,S,res,ok,gk,e,w⟩:=t;refine tX.bd ok gk e w λr S1 x k1 H1 bw g1 r1 e1 w1 _=>?_
 obtain⟨n,e2,e3⟩:=cg.mp e1;cases Rv.mZ e2;obtain⟨p,e4,e5⟩:=cg.mp e3;split at e5
 .rename_i hc
  obtain⟨h1,h2⟩:=ha _ (gP.mp hc);obtain⟨d,e6,rfl⟩:=cW.mp e5;obtain⟨a,dx,gs,rfl,h3,h4,h5,h6,h7⟩:=Cz bw r1 (FJ e4);obtain⟨v,h8,h9⟩:=II h6 h7 e6;exact⟨a,_,dx,gs,v,rfl,h5,h1,h2,h8,w1.now bw h9⟩
 .cases e5
def bO.DZ{k:Kn}{a C dx:ag}{gs:List (Str×V)}{fs:List (Str×D)}{v:V}{d:D}(ok:bO K k H S)(hA:k.A[n]?=some a)(hF:k.F a=none)(h5:H a=some (.ins C dx gs))(h6:gs.map (·.1)=fs.map (·.1))(h7:ah K k (gs.map (·.2)) (fs.map (·.2)))(rv:ah K k [v] [d])(hq:Nat.ble q 1=true):
  bO K k (upd H a (.ins C dx (dm g v gs))) ⟨S.s,S.r.set n (.ins C (fJ g d fs))⟩/\Up q k H k (upd H a (.ins C dx (dm g v gs))):=by
 obtain⟨c1,c2⟩:=Ol (g:=g) rv h6 h7;refine ok.D0 hA B7 hF (λo z=>?_) ⟨hF,dx,_,aI,c1,c2⟩
 rw[h5] at z;cases z;have:=Ah hq
 match q,this with
 |0,_=>rfl
 |1,_=>rfl
def eP(q:Nat)(atr:List (ag×Str))(g:Str)(fv fo:GE):GS:=λU S=>kN U (fv U S) λr1 S1=>kN U (fo U S1) λr2 S2=>(pR S2 (m9 r1)).bind λz=>r2.ref.bind λn=>(tD z.2 n).bind λp=>if(atr.contains (p.1,g)&&Nat.ble q 1&&Nat.blt p.2.length 1000)=true then some (.nx U ⟨z.2.s,z.2.r.set n (.ins p.1 (fJ g z.1 p.2))⟩) else none
def e1x(ha:jS K atr)(ho:PE X o (tE K W q fo))(hv:PE X value (tE K W q fv))(hs:swapsWith value (some (.Attribute o g pos')) pos.line X.env=pure false)(hK:X.K=K):PS X (.Assign [.Attribute o g pos'] value pos) (tS K W q (eP q atr g fv fo)):=by
 subst hK;refine(ω ho hv hs).mono λD Z H t=>?_
 obtain⟨k,U,S,fr,ok,gk,e,w⟩:=t;refine tS.bd ok gk e w λr1 S1 y k1 H1 bw g1 q1 e1 w1=>?_
 obtain⟨k2,u2,cA,q2⟩:=rG bw q1;refine tS.CK cA (g1.up (u2 q)) e1 (w1.up (u2 q)) λr2 S2 x k3 H3 jB g3 r3 e2 w3 u3=>?_
 obtain⟨⟨d,S3⟩,e3,e4⟩:=cg.mp e2;obtain⟨k4,u4,rf,r4⟩:=Fz jB (q2.up u3) e3;obtain⟨n,e5,e6⟩:=cg.mp e4;cases Rv.mZ e5;obtain⟨p,e7,e8⟩:=cg.mp e6;split at e8
 .rename_i hc
  cases e8;simp only[lC] at hc;obtain⟨⟨GD,Ba⟩,Bb⟩:=hc;obtain⟨h1,h2⟩:=ha _ (gP.mp GD);obtain⟨a,dx,gs,rfl,h3,h4,h5,h6,h7⟩:=Cz rf (ah.mono (u4 q).le r3) (FJ e7);have hl:gs.length<1000:=by
   have:=h7.length;rw[aY,aY] at this;rw[this];exact Ah Bb
  obtain⟨mT,u5⟩:=rf.DZ (g:=g) h3 h4 h5 h6 h7 r4 Ba;exact⟨a,_,dx,gs,rfl,h5,h1,h2,hl,bL.now (bL.up w3 ((u4 q).trans u5)) mT (g3.up ((u4 q).trans u5))⟩
 .cases e8
def Js(q:Nat)(h:Int->Int->Int)(atr:List (ag×Str))(g:Str)(fo fe:GE):GS:=λU S=>kN U (fo U S) λr S1=>r.ref.bind λn=>(tD S1 n).bind λp=>if atr.contains (p.1,g)=true then(match p.2.lookup g with
 |some (.int a)=>kN U (fe U S1) λr2 S2=>r2.int.bind λb=>(tD S2 n).bind λp2=>if(p2.1 == p.1&&Nat.ble q 1&&Nat.blt p2.2.length 1000)=true then some (.nx U ⟨S2.s,S2.r.set n (.ins p2.1 (fJ g (.int (h a b)) p2.2))⟩) else none
 |_=>none) else none
def Zd(zv:yd X op λx y H Q=>∃i j,x=.int i/\y=.int j/\Q (.int (h i j)) H)(ha:jS K atr)(ho:PE X o (tE K W q fo))(hv:PE X value (tE K W q fe))(hK:X.K=K):PS X (.AugAssign (.Attribute o g eY) op value pos) (tS K W q (Js q h atr g fo fe)):=by
 subst hK;refine(Uo ho hv zv).mono λD Z H t=>?_
 obtain⟨k,U,S,fr,ok,gk,e,w⟩:=t;refine tS.bd ok gk e w λr S1 x k1 H1 bw g1 r1 e1 w1=>?_
 obtain⟨n,e2,e3⟩:=cg.mp e1;cases Rv.mZ e2;obtain⟨p,e4,e5⟩:=cg.mp e3;split at e5
 case isFalse=>cases e5
 rename_i hc
 obtain⟨h1,h2⟩:=ha _ (gP.mp hc);obtain⟨a,dx,gs,rfl,h3,h4,h5,h6,h7⟩:=Cz bw r1 (FJ e4);split at e5
 case h_2=>cases e5
 rename_i iv hl
 obtain⟨v,h8,h9⟩:=II h6 h7 hl;cases h9.aX rfl;refine⟨a,_,dx,gs,_,rfl,h5,h1,h2,h8,tS.CK bw g1 e5 w1 λr2 S2 y k2 H2 cA g2 q2 e6 w2 u2=>?_⟩
 obtain⟨b,e7,e8⟩:=cg.mp e6;cases Rv.iS e7;cases(show ah X.K k2 [y] [.int b] from q2).aX rfl;obtain⟨p2,e9,JO⟩:=cg.mp e8;split at JO
 case isFalse=>cases JO
 rename_i hc
 cases JO;simp only[lC,beq_iff_eq] at hc;obtain⟨⟨GD,Ba⟩,Bb⟩:=hc;obtain⟨a',dx2,jJ,z,h3',h4',Q9,h6',Ra⟩:=Cz cA (ah.mono u2.le r1) (FJ e9);cases z;have hl:jJ.length<1000:=by
  have:=Ra.length;rw[aY,aY] at this;rw[this];exact Ah Bb
 obtain⟨mT,u5⟩:=cA.DZ (g:=g) (v:=.int (h iv b)) (d:=.int (h iv b)) h3' h4' Q9 h6' Ra (.flat rfl .nil) Ba;exact⟨_,_,rfl,rfl,dx2,jJ,GD ▸ Q9,hl,GD ▸ bL.now (bL.up w2 u5) mT (g2.up u5)⟩
def Jt(q:Nat)(h:Int->Int->Int)(fo fi fe:GE):GS:=λU S=>kN U (fo U S) λr1 S1=>kN U (fi U S1) λr2 S2=>(match m9 r2,qX S2 (m9 r1) with
 |.d di,some (.az kvs)=>(ky di).bind λj=>(match aR kvs j with
  |some (.int a)=>kN U (fe U S2) λr3 S3=>r3.int.bind λb=>(qX S3 (m9 r1)).bind λc=>if c.mb q=true then(match c with
   |.az tN=>if tN.length<1000000 then some (.nx U (setB S3 (.az (bK tN j (.int (h a b)))) (m9 r1))) else none
   |_=>none) else none
  |_=>none)
 |_,_=>none)
def Wf(hu:X.A.units+41<cLine):BH X (λo i H Q=>∃a v,o=.ref a/\gE X.K H a i (some v)/\Q v H):=by
 intro aa s Z H o i ov iv Q I ro ri h;obtain⟨p,v,rfl,g,q⟩:=h;cases ro;exact NI (by lia) I g ri λw' s3 I3 m6=>⟨v,H,I3,m6,q⟩
def Ze(zv:EB X op (KC h))(ho:PE X o (tE K W q fo))(hi:PE X i (tE K W q fi))(hv:PE X value (tE K W q fe))(hu:X.A.units+41<cLine)(hK:X.K=K)
  (ha:∀ov iv new,augStore i ov iv new=(do holding [new,ov,iv] (setItem ov iv new);release [new,ov,iv] [];pure .next)):PS X (.AugAssign (.Subscript o i eY) op value pos) (tS K W q (Jt q h fo fi fe)):=by
 subst hK;refine(XM ho hi (Wf hu) hv zv (QT hu) ha).mono λD Z H t=>?_
 obtain⟨k,U,S,fr,ok,gk,e,w⟩:=t;refine tS.bd ok gk e w λr1 S1 x k1 H1 bw g1 q1 e1 w1=>?_
 obtain⟨k2,u2,cA,q2⟩:=rG bw q1;refine tS.CK cA (g1.up (u2 q)) e1 (w1.up (u2 q)) λr2 S2 y k3 H3 jB g3 r3 e2 w3 u3=>?_
 obtain⟨k4,u4,rf,q4⟩:=rG jB r3;have q5:=(q2.up u3).up (u4 q);split at e2
 case h_2=>cases e2
 rename_i di kvs hd hg
 rw[hd] at q4;obtain⟨j,e3,e4⟩:=cg.mp e2;obtain⟨a,rfl,hb,_⟩:=Ck rf q5 hg;split at e4
 case h_2=>cases e4
 rename_i iv Dt
 have tp:Top X.K k4 H3 (.ref a) (.az kvs):=.inr ⟨a,.az kvs,rfl,rfl,hb⟩;obtain⟨p,o,z,g,hh⟩:=vY rf.le tp (.inl q4) e3;cases z;rcases hh with⟨_,z⟩|⟨v,d,rfl,z,rv⟩
 .rw[Dt] at z;cases z
 rw[Dt] at z;cases z;cases rv.aX rfl;refine⟨a,_,rfl,g,tS.CK rf (g3.up (u4 q)) e4 (w3.up (u4 q)) λr5 S5 y5 k5 H5 mT g5 q6 e5 w5 u5=>?_⟩
 obtain⟨b,e6,e7⟩:=cg.mp e5;cases Rv.iS e6;cases(show ah X.K k5 [y5] [.int b] from q6).aX rfl;obtain⟨c,e8,e9⟩:=cg.mp e7;obtain⟨a',z,zf,LV⟩:=Ck mT (q5.up u5) e8;cases z;split at e9
 case isFalse=>cases e9
 rename_i hm
 cases c with
 |lst _=>cases e9
 |az tN=>
  dsimp only at e9;split at e9
  case isFalse=>cases e9
  rename_i hl
  cases e9;refine⟨_,_,rfl,rfl,Qp (b:=.az tN) (dv:=.int (h iv b)) (di:=di) (b':=.az (bK tN j (.int (h iv b)))) mT.le zf ((show cI X.K k4 y (.d di) from q4).up u5) (.flat rfl .nil) ?_ λo' h6=>?_⟩
  .unfold vK;dsimp only;rw[e3,xW,aN hl]
  .obtain⟨K7,u6⟩:=LV q _ _ B7 hm h6;exact bL.now (bL.up w5 u6) K7 (g5.up u6)
end
end L2
namespace L2
open PySem PySem.Spec PySem.W PyProof.Rows
variable{k k':Int->Int->Bool}{op:CmpOp}{j:GJ}{T:String}{m:Str}
def bZ.le{k k':Nat}{A:PySem.Around}(h:bZ k A)(e:k'<=k:=by decide):bZ k' A:=h.mono e
def vC{X:Cx}:eJ X W0:=λ_ _ _ _ _ _ _ _ _ _ _ z=>z.elim
def Bh:List Str->Bool
 |[]=>true
 |x::l => !l.contains x&&Bh l
theorem F9:∀{l:List Str},Bh l=true->l.Nodup
 |[],_=>.nil
 |x::l,h=>by
  obtain⟨h1,h2⟩:=Bv.mp h;rw[Bool.not_eq_true',<-Bool.not_eq_true,gP] at h1;exact qE.mpr ⟨h1,F9 h2⟩
section
variable{X:Cx}{K:Frag}{W:XW}{q:Nat}{a b c e o:Expr}{es rest:List Expr}{f g h:GE}{fs:GA}{ft fu:GT}{pos p apos bD:Pos}{x:Str}
def xv(i:Nat)(hN:X.N[i]?=some x)(hv:EF X.env.scope x)(hd:(x == ("__debug__":Str))=false)(qZ:(x == ("__classdict__":Str))=false):PE X (.Name x pos) (tE K W q (sV i)):=e0f (P1 hN hv hd qZ)
def xi{i:Int}{j}:PE X (.Constant (.int i) j pos) (tE K W q (gC (.int i))):=yT Ψ
def xs{i:Str}{j}:PE X (.Constant (.str i) j pos) (tE K W q (gC (.str i))):=yT γ
def xb{i:Bool}{j}:PE X (.Constant (.bool i) j pos) (tE K W q (gC (.bl i))):=yT e5w
def xn{j}:PE X (.Constant .none j pos) (tE K W q (gC .aF)):=yT Ω
def xty{n:String}(hm:X.mg x=none)(hv:bootBuiltins x=some (.type n))(hg:Gl X x)(hn:x≠"__name__")(hd:(x == ("__debug__":Str))=false):PE X (.Name x pos) (tE K W q (gC (.ty n))):=yT (e6e hg hm hv hn hd)
def qG(K:Frag)(op:Operator)(o:List D->aj Rv):Prop:=∀X:Cx,X.K=K->∃r,dw X (binaryOp op) r/\bP K (nj r) o
def LZ:qG K .Add (o2 uY):=λX h=>⟨_,YO K h,e0z⟩
def L4:qG K .Sub (o2 (eW uH λi j=>.int (i - j))):=λX h=>⟨_,ρ,e1a⟩
def L3:qG K .Mult (o2 vx):=λX h=>⟨_,YR,e1c⟩
def Ek:qG K .FloorDiv (o2 (eW (λ_ j=>decide (0<j/\j<1073741824)) λi j=>.int (i / j))):=λX h=>⟨_,XO,YQ⟩
def L0:qG K .Mod (o2 (eW (λ_ j=>decide (0<j)) λi j=>.int (i%j))):=λX h=>⟨_,σ,e1b⟩
def xo{op:Operator}{o:List D->aj Rv}(c:qG K op o)(ha:PE X a (tE K W q f))(hb:PE X b (tE K W q g))(hK:X.K=K):PE X (.BinOp a op b pos) (tE K W q (gO o (bM f g))):=by
 obtain⟨r,h1,h2⟩:=c X hK;exact e6g h1 h2 ha hb
def L6(ha:PE X a (tE K W q f)):PE X (.UnaryOp .USub a pos) (tE K W q (gO (o1 rb) (bo f))):=e6h υ e1d ha
def jT(K:Frag)(op:CmpOp)(o:List D->aj Rv):Prop:=∀X:Cx,X.K=K->X.A.units+41<cLine->∃r,dw X (compareOp op) r/\bP K (nj r) o
def WC:jT K .Eq (o2 (wI false)):=λX h u=>⟨_,e1h K (by lia) h,e6j⟩
def WJ:jT K .NotEq (o2 (wI true)):=λX h u=>⟨_,e1f K (by lia) h,e6k⟩
def WI:jT K .Lt (o2 (eW uH λi j=>.bl (decide (i<j)))):=λX h u=>⟨_,xw,Jp⟩
def WH:jT K .LtE (o2 (eW uH λi j=>.bl (decide (i<=j)))):=λX h u=>⟨_,xu,Jp⟩
def WD:jT K .Gt (o2 (eW uH λi j=>.bl (decide (j<i)))):=λX h u=>⟨_,e6b,Jp⟩
def WE:jT K .In (o2 (Bd false)):=λX h u=>⟨_,e1i K u h,QR false⟩
def JE:jT K .NotIn (o2 (Bd true)):=λX h u=>⟨_,UP K u h,QR true⟩
def WG:jT K .Is (o2 (Be false)):=λX h u=>⟨_,e1k,QS false⟩
def JD:jT K .IsNot (o2 (Be true)):=λX h u=>⟨_,YU,QS true⟩
def xc{o:List D->aj Rv}(c:jT K op o)(ha:PE X a (tE K W q f))(hb:PE X b (tE K W q g))(hu:X.A.units+41<cLine)(hK:X.K=K)(hm:behindInMarks op b=false):PE X (.Compare a [op] [b] pos) (tE K W q (gO o (bM f g))):=by
 obtain⟨r,h1,h2⟩:=c X hK hu;exact e0g h1 h2 ha hb hm
def yc{o:List D->aj Rv}(c:jT K op o)(ha:PE X a (tE K W q f))(hb:PE X b (tE K W q g))(hu:X.A.units+41<cLine)(hK:X.K=K)(hm:behindInMarks op b=false):PT X (.Compare a [op] [b] pos) (tT K W q (gB (gO o (bM f g)))):=by
 obtain⟨r,h1,h2⟩:=c X hK hu;exact Q4 (XR h1 ha hb hm) λ_ _ _ t=>Gn (u7 h2 t)
noncomputable def Ju(c c':Int->Int->Bool)(f g h:GE):GE:=λU S=>bd (f U S) λr1 S1=>bd (g U S1) λr2 S2=>r1.int.bind λi=>r2.int.bind λj=>if c i j=true then bd (h U S2) λr3 S3=>r3.int.map λl=>.ok (rd (.bl (c' j l))) S3 else some (.ok (rd (.bl false)) S2)
def Wg{Z:St}{H:Hp}{Q:VK}(t:tE K W q (Ju k k' f g h) Z H Q):P5 (qv λi j=>.bl (k i j)) (qv λi j=>.bl (k' i j)) (tE K W q f) (tE K W q g) (tE K W q h) Z H Q:=by
 obtain⟨n,U,S,res,ok,gk,e,w⟩:=t;refine tX.bd ok gk e w λr1 S1 x k1 H1 bw g1 q1 e1 w1 _=>tX.bd bw g1 e1 w1 λr2 S2 y k2 H2 cA g2 q2 e2 w2 _=>?_
 obtain⟨i,h1,e3⟩:=cg.mp e2;obtain⟨j,h2,e4⟩:=cg.mp e3;cases Rv.iS h1;cases Rv.iS h2;cases(show ah K k1 [x] [.int i] from q1).aX rfl;cases(show ah K k2 [y] [.int j] from q2).aX rfl;refine⟨i,j,rfl,rfl,k i j,rfl,?_⟩;split at e4
 .rename_i hk
  rw[hk];refine tH (tX.bd cA g2 e4 w2 λr3 S3 z k3 H3 jB g3 q3 e5 w3 _=>?_)
  obtain⟨l,h3,rfl⟩:=cW.mp e5;cases Rv.iS h3;cases(show ah K k3 [z] [.int l] from q3).aX rfl;exact⟨_,_,rfl,rfl,w3.now jB (show ah K k3 [_] [_] from .flat rfl .nil)⟩
 .rename_i hk
  cases e4;rw[Bool.not_eq_true] at hk;rw[hk];exact tG (w2.now cA (show ah K k2 [_] [_] from .flat rfl .nil))
def ych{zI:CmpOp}(h1:∀X:Cx,dw X (compareOp op) (qv λi j=>.bl (k i j)))(h2:∀X:Cx,dw X (compareOp zI) (qv λi j=>.bl (k' i j)))(ha:PE X a (tE K W q f))(hb:PE X b (tE K W q g))(hc:PE X c (tE K W q h))(hm:lastMarks [op,zI] [b,c]=false):PT X (.Compare a [op,zI] [b,c] pos) (tT K W q (gB (Ju k k' f g h))):=Q4 (Vx (h1 X) (h2 X) ha hb hc hm) λ_ _ _ t=>Wg t
def yt(ha:PE X a (tE K W q f))(hK:X.K=K)(ht:∀whole,isTrue a X.env whole=(do let v <-whole;standAt a.pos;holding [v] (truthy v))):PT X a (tT K W q (cJ f)):=e0h hK ha ht
def ya1(h:PT X a (tT K W q ft)):PW X (.BoolOp .And [a] pos) (tT K W q ft):=XH h
def yo1(h:PT X a (tT K W q ft)):PW X (.BoolOp .Or [a] pos) (tT K W q ft):=δ h
def xix(ha:PE X a (tE K W q f))(hb:PE X b (tE K W q g))(hu:X.A.units+41<cLine)(hK:X.K=K)(hs:I_ b):PE X (.Subscript a b pos) (tE K W q (gO (o2 G2) (bM f g))):=e6i (KH K hu hK) e6m ha hb hs
def xsl{lo hi:aj Expr}{p2:Pos}{fl fh}(he:PE X e (tE K W q f))(hl:PO X lo (tX Ar K W q fl))(hu:PO X hi (tX Ar K W q fh))(hK:X.K=K):PE X (.Subscript e (.Slice lo hi none p2) pos) (tE K W q (wx f fl fh)):=V1 he hl hu hK
def zc{g:GE}{h:GA}(ha:PE X e (tE K W q g))(hr:PA X es (fW K W q h))(hs:starEach (e::es) X.env=(false,eval e X.env)::starEach es X.env):PA X (e::es) (fW K W q (mD g h)):=Ym ha hr hs
def xd{keys:List (aj Expr)}{values:List Expr}{gs:List (GE×GE)}(h:Aq X pos keys values (Ha K W q gs))(hu:X.A.units+41<cLine)(hK:X.K=K)(jA:keys.all (·.isSome)=true)(hl:keys.length=values.length)(h0:keys≠[])(ze:keys.length<=15):PE X (.Dict keys values pos) (tE K W q (qh (AW gs))):=Za hK h hu jA hl h0 ze
def EC(X:Cx)(K:Frag)(W:XW)(q:Nat)(es:List Expr)(j:GJ):Prop:=∃tj,PJ X es tj/\∀aU Z H Q,tX RS K W q (j aU) Z H Q->tj aU Z H Q
def jn:EC X K W q [] km:=⟨_,e1v,λ_ _ _ _ t=>Zc t⟩
def jc(he:PE X e (tE K W q f))(hr:EC X K W q es j):EC X K W q (e::es) (nh f j):=by
 obtain⟨tj,h1,h2⟩:=hr;exact⟨_,Zb he h1,λ_ _ _ _ t=>We h2 t⟩
def xj{v1 v2:Expr}(h:EC X K W q (v1::v2::rest) j):PE X (.JoinedStr (v1::v2::rest) pos) (tE K W q (yC j)):=by
 obtain⟨tj,h1,h2⟩:=h;exact U8 h1 h2
def uj(K:Frag)(v:ai)(o:List D->aj Rv):Prop:=∀X:Cx,X.K=K->X.calm=true->X.A.units+41<cLine->∃r,bI X v r/\bP K r o
def KN:uj K (.builtin "len") (o1 eI):=λX h c u=>⟨_,UZ h,e1n⟩
def KL:uj K (.builtin "isinstance") (o2 iT):=λX h c u=>⟨_,U0 h,e1o⟩
def KI:uj K (.builtin "all") (o1 (FZ λbs=>bs.all id)):=λX h c u=>⟨_,UT K c h,V9 _⟩
def KO:uj K (.builtin "min") (o1 (qa gG)):=λX h c u=>⟨_,V2 K c h,Y6 _⟩
def DB:uj K (.builtin "sorted") (o1 qz):=λX h c u=>⟨_,T1 c h,Y7⟩
def KJ:uj K (.type "int") (o1 oI):=λX h c u=>⟨_,Uk,Y3⟩
def DA:uj K (.type "list") (o1 jm):=λX h c u=>⟨_,TZ c h,Y4⟩
def Dz:uj K (.type "dict") (o1 qe):=λX h c u=>⟨_,TU K u c h,V_⟩
def xB{id:String}{o:List D->aj Rv}(k:uj K (.builtin id) o)(hm:X.mg x=none)(hv:bootBuiltins x=some (.builtin id))(ha:PA X (e::es) (fW K W q fs))(hu:X.A.units+41<cLine)(hc:X.calm=true)(hK:X.K=K)(hg:Gl X x)(hn:x≠"__name__")(lq:(x == ("__debug__":Str))=false)
  (he:starEach (e::es) X.env=(false,eval e X.env)::starEach es X.env) (jK:(backTo pos (starEach es X.env)).any (·.1)=false):PE X (.Call (.Name x p) (e::es) [] pos) (tE K W q (gO o fs)):=by
 obtain⟨r,h1,h2⟩:=k X hK hc hu;exact(VD h1 hg hm hv ha hn lq he jK).mono λ_ _ _ t=>u7 h2 t
def xT{o:List D->aj Rv}(k:uj K (.type T) o)(hm:X.mg x=none)(hv:bootBuiltins x=some (.type T))(ha:PA X (e::es) (fW K W q fs))(hu:X.A.units+41<cLine)(hc:X.calm=true)(hK:X.K=K)(hg:Gl X x)(hn:x≠"__name__")(lq:(x == ("__debug__":Str))=false)
  (he:starEach (e::es) X.env=(false,eval e X.env)::starEach es X.env) (jK:(backTo pos (starEach es X.env)).any (·.1)=false):PE X (.Call (.Name x p) (e::es) [] pos) (tE K W q (gO o fs)):=by
 obtain⟨r,h1,h2⟩:=k X hK hc hu;exact(Ur h1 hg hm hv ha hn lq he jK).mono λ_ _ _ t=>u7 h2 t
def HF(K:Frag)(T:String)(m:Str)(o:List D->aj Rv):Prop:=∀X:Cx,X.K=K->X.A.units+41<cLine->∃id r,PlainAttrs T/\Slot T m id/\typeOf (.builtin id)=pure (.type "method_descriptor")/\HG X id r/\bP K (qw r) o
def zE:HF K "list" "index" (o2 iR):=λX h u=>⟨_,_,PySem.F.plainAttrs_list,PySem.F.slot_list_index,PySem.F.type_list_index,V3 K h,Wa⟩
def DD:HF K "dict" "get" (o2 qk):=λX h u=>⟨_,_,PySem.F.plainAttrs_dict,PySem.F.slot_dict_get,PySem.F.type_dict_get,YX K u h,Y8⟩
def xM{o':List D->aj Rv}(k:HF K T m o')(ho:PE X o (tE K W q f))(ha:PA X (e::es) (fW K W q fs))(hu:X.A.units+41<cLine)(hK:X.K=K)
  (eA:attributeBase o m X.env (eval o X.env)=eval o X.env)
  (s9:((backTo bD (starEach (e::es) X.env)).all (λx => !x.1)&&(backToKw bD (keywordEach [] X.env)).all (λx=>x.1.isSome) && decide ((e::es).length+([]:List Keyword).length+(if([]:List Keyword).isEmpty then 0 else 1)<30))=true)
  (eB:(apos.endLine == bD.line)=true) (hs:starEach (e::es) X.env=(false,eval e X.env)::starEach es X.env) (kr:(backTo bD (starEach es X.env)).any (·.1)=false):PE X (.Call (.Attribute o m apos) (e::es) [] bD) (tE K W q (F0 T o' f fs)):=by
 subst hK;obtain⟨id,r,h1,h2,h3,h4,h5⟩:=k X rfl hu;exact(QQ h1 h2 h3 h4 ho ha eA s9 eB hs kr).mono λ_ _ _ t=>V' h5 t
def BF(K:Frag)(T:String)(m:Str)(o:Bx->List D->aj (Bx×D)):Prop:=∀X:Cx,X.K=K->∃id r,PlainAttrs T/\Slot T m id/\typeOf (.builtin id)=pure (.type "method_descriptor")/\HG X id r/\lF K r o
def vT:BF K "list" "append" uy:=λX h=>⟨_,_,PySem.F.plainAttrs_list,PySem.F.slot_list_append,PySem.F.type_list_append,Us,U3⟩
def vU:BF K "list" "insert" AV:=λX h=>⟨_,_,PySem.F.plainAttrs_list,PySem.F.slot_list_insert,PySem.F.type_list_insert,Uy,U4⟩
def vV:BF K "list" "remove" FI:=λX h=>⟨_,_,PySem.F.plainAttrs_list,PySem.F.slot_list_remove,PySem.F.type_list_remove,UU,U6⟩
def Eg:BF K "dict" "pop" kB:=λX h=>⟨_,_,PySem.F.plainAttrs_dict,PySem.F.slot_dict_pop,PySem.F.type_dict_pop,YW K,Y9⟩
def xU{o':Bx->List D->aj (Bx×D)}(k:BF K T m o')(ho:PE X o (tE K W q f))(ha:PA X (e::es) (fW K W q fs))(hK:X.K=K)
  (eA:attributeBase o m X.env (eval o X.env)=eval o X.env)
  (s9:((backTo bD (starEach (e::es) X.env)).all (λx => !x.1)&&(backToKw bD (keywordEach [] X.env)).all (λx=>x.1.isSome) && decide ((e::es).length+([]:List Keyword).length+(if([]:List Keyword).isEmpty then 0 else 1)<30))=true)
  (eB:(apos.endLine == bD.line)=true) (hs:starEach (e::es) X.env=(false,eval e X.env)::starEach es X.env) (kr:(backTo bD (starEach es X.env)).any (·.1)=false):PE X (.Call (.Attribute o m apos) (e::es) [] bD) (tE K W q (fG q T o' f fs)):=by
 subst hK;obtain⟨id,r,h1,h2,h3,h4,h5⟩:=k X rfl;exact(QQ h1 h2 h3 h4 ho ha eA s9 eB hs kr).mono λ_ _ _ t=>e1q h5 t
def xf{atr:List (ag×Str)}(ha:jS K atr)(he:PE X e (tE K W q f))(hb:attributeBase e m X.env (eval e X.env)=eval e X.env)(hK:X.K=K):PE X (.Attribute e m pos) (tE K W q (bj atr m f)):=e1w ha he hb hK
end
section
variable{X:Cx}{K:Frag}{W:XW}{q k n:Nat}{e o:Expr}{es:List Expr}{f:GE}{fs:GA}{m:GM}{pos p apos:Pos}{x y:Str}{st:Stmt}{fa C:ag}{fd:bR}{ps:List Str}
def xC(D:bp K X.mg x st fa fd ps)(F:dk X.prog X.w X.K X.mg X.base (nz X.prog X.w) k fa fd ps (uk K q n m))(ha:PA X (e::es) (fW K W q fs))(hr:bZ k X.A)(hm:iY m n)(hp:eJ X W)(hK:X.K=K)(hg:Gl X x)(lq:(x == ("__debug__":Str))=false)
  (he:starEach (e::es) X.env=(false,eval e X.env)::starEach es X.env) (jK:(backTo pos (starEach es X.env)).any (·.1)=false):PE X (.Call (.Name x p) (e::es) [] pos) (tE K W q (ax m fs)):=by
 subst hK;exact(XY F hr hg D.mg D.fn.kp D.bd .nil (qt hp) ha lq he jK).mono λ_ _ _ t=>Yp hm t
def xN(M:Mk K C fa)(hx:X.mg x=some (.ref C))(B:Binds K fd ps [])(F:dk X.prog X.w X.K X.mg X.base (nz X.prog X.w) k fa fd ps (uk K q n m))(ha:PA X (e::es) (fW K W q fs))(hr:bZ (k+1) X.A)(hm:iY m n)(hp:eJ X W)(hK:X.K=K)(hg:Gl X x)(lq:(x == ("__debug__":Str))=false)
  (he:starEach (e::es) X.env=(false,eval e X.env)::starEach es X.env) (jK:(backTo pos (starEach es X.env)).any (·.1)=false):PE X (.Call (.Name x p) (e::es) [] pos) (tE K W q (qi C m fs)):=by
 subst hK;exact(X0 M F hr hg hx B .nil (qt hp) ha lq he jK).mono λ_ _ _ t=>Yq hm t
end
structure MethAt (K:Frag) (C:ag) (m qual:Str) (st:Stmt) (f:ag) (fd:bR) (ps:List Str):Prop where
 fn:Fun K m qual st f fd
 mt:Meth K C m f
 bd:Binds K fd ps []
section
variable{X:Cx}{K:Frag}{W:XW}{q k n:Nat}{e o:Expr}{es:List Expr}{f:GE}{fs:GA}{m:GM}{pos p apos:Pos}{x y:Str}{st:Stmt}{fa C:ag}{fd:bR}{ps:List Str}{pl:Sem Bool}
def xH(c:pz K C)(D:MethAt K C x y st fa fd ps)(F:dk X.prog X.w X.K X.mg X.base (nz X.prog X.w) k fa fd ps (uk K q n m))(ho:PE X o (tE K W q f))(ha:PA X (e::es) (fW K W q fs))(hr:bZ k X.A)(hm:iY m n)(hp:eJ X W)(hK:X.K=K)
  (lr:starEach (e::es) X.env=(false,eval e X.env)::starEach es X.env) (jK:(backTo pos (starEach es X.env)).any (·.1)=false)
  (ht:eval (.Call (.Attribute o x apos) (e::es) [] pos) X.env=(do
   let ov <-eval o X.env
   standAt apos.atName
   let (f,first) <-holding [ov] (getMethod ov x pl)
   callWith pos f first (backTo pos (starEach (e::es) X.env)) (backToKw pos (keywordEach [] X.env)))):PE X (.Call (.Attribute o x apos) (e::es) [] pos) (tE K W q (aT C x m f fs)):=by
 subst hK;exact(XZ ho c D.mt F hr D.bd .nil (qt hp) ha lr jK ht).mono λ_ _ _ t=>O1 hm t
def xH0(c:pz K C)(D:MethAt K C x y st fa fd ps)(F:dk X.prog X.w X.K X.mg X.base (nz X.prog X.w) k fa fd ps (uk K q n m))(ho:PE X o (tE K W q f))(hr:bZ k X.A)(hm:iY m n)(hp:eJ X W)(hK:X.K=K)
  (ht:eval (.Call (.Attribute o x apos) [] [] pos) X.env=(do
   let ov <-eval o X.env
   standAt apos.atName
   let (f,first) <-holding [ov] (getMethod ov x pl)
   callWith pos f first (backTo pos (starEach [] X.env)) (backToKw pos (keywordEach [] X.env)))):PE X (.Call (.Attribute o x apos) [] [] pos) (tE K W q (aT C x m f gN)):=by
 subst hK;refine(VB ho c D.mt F hr D.bd .nil (qt hp) ht).mono λZ H Q t=>?_
 refine pL (O1 hm t) λz H1 h=>?_
 obtain⟨a,dx,fs,h1,h2,h3,h4⟩:=h;exact⟨a,dx,fs,h1,h2,h3,A1 h4⟩
end
section
variable{X:Cx}{K:Frag}{W:XW}{q:Nat}{a b c e o l tg:Expr}{es:List Expr}{f g:GE}{fz:Bool}{pos p apos bD:Pos}
def xLV(Kp:X.mg "list"=none)(ho:PE X o (tE K W q f))(hc:X.calm=true)(Dg:Gl X "list")(hs:starEach [.Call (.Attribute o "values" apos) [] [] bD] X.env=[(false,eval (.Call (.Attribute o "values" apos) [] [] bD) X.env)])
  (eA:attributeBase o "values" X.env (eval o X.env)=eval o X.env) (eB:(apos.endLine == bD.line)=true):PE X (.Call (.Name "list" p) [.Call (.Attribute o "values" apos) [] [] bD] [] pos) (tE K W q (gO (o1 qB) (bo f))):=(VY Dg Kp ho hc hs eA eB).mono λZ H Q t=>JP (pL (u7 Y5 t) λxs H1 h=>by
 obtain⟨d,es,ep,rfl,h⟩:=h;exact⟨_,rfl,d,es,ep,rfl,h⟩)
def pgn(i:Nat){x:Str}(hN:Bh X.N=true)(hi:X.N[i]?=some x)(hx:Loc X.env.scope x)(hf:X.fn x=true\/X.env.scope.names.lookup x=some .local):PG X (.Name x pos) (qj i):=XJ (F9 hN) hi hx hf
def pgt{es:List Expr}{k:Nat}{t:um}{n:Nat}(h:BI X es t)(hn:(assignEach es X.env).length=n)(lr:(assignEach es X.env).findIdx? (·.1)=none)(hc:X.calm=true)(hK:X.K=K):PG X (.Tuple es k pos) (y_ K n t):=hK ▸ ι hc h hn lr
def uR(X:Cx)(K:Frag)(W:XW)(q:Nat)(tg iter:Expr)(src:mB):Prop:=∃wi,PI X tg iter wi/\∀Z H R,tX (RI K q) K W q src Z H R->wi Z H R
def sA(he:PE X l (tE K W q g))(hK:X.K=K):uR X K W q tg l (bu fz eQ g):=⟨_,e0q he,λ_ _ _ t=>by rw[hK];exact e0r t⟩
def Lw(hm:X.mg "reversed"=none)(he:PE X l (tE K W q g))(hK:X.K=K)(hg:Gl X "reversed")(hs:starEach [l] X.env=[(false,eval l X.env)]):uR X K W q tg (.Call (.Name "reversed" p) [l] [] pos) (bu fz vF g):=⟨_,e0l hg hm (Fx he mW (by rw[hs,starEach])) hs,λ_ _ _ t=>by rw[hK];exact Yz t⟩
def sEn{elts:List Expr}{x1:Nat}{eY:Pos}(hm:X.mg "enumerate"=none)(he:PE X l (tE K W q g))(hK:X.K=K)(hg:Gl X "enumerate")(hs:starEach [l] X.env=[(false,eval l X.env)]):uR X K W q (.Tuple elts x1 eY) (.Call (.Name "enumerate" p) [l] [] pos) (bu fz JQ g):=⟨_,Yu hg hm (Fx he mW (by rw[hs,starEach])) hs,λ_ _ _ t=>by rw[hK];exact e0s t⟩
def sI{elts:List Expr}{x1:Nat}{eY:Pos}(ho:PE X o (tE K W q g))(eA:attributeBase o "items" X.env (eval o X.env)=eval o X.env)(eB:(apos.endLine == bD.line)=true):uR X K W q (.Tuple elts x1 eY) (.Call (.Attribute o "items" apos) [] [] bD) (bu fz vt g):=⟨_,VZ ho eA eB,λ_ _ _ t=>Y1 t⟩
def sR1{fs:GA}(hm:X.mg "range"=none)(ha:PA X [a] (fW K W q fs))(hg:Gl X "range")(hs:starEach [a] X.env=[(false,eval a X.env)]):uR X K W q tg (.Call (.Name "range" p) [a] [] pos) (iQ lz fs):=⟨_,Uh hg hm ha hs,λ_ _ _ t=>YA t⟩
def sRN{fs:GA}(hm:X.mg "range"=none)(ha:PA X [a,b,c] (fW K W q fs))(hg:Gl X "range")(hs:starEach [a,b,c] X.env=[(false,eval a X.env),(false,eval b X.env),(false,eval c X.env)])(zw:starEach [b,c] X.env=[(false,eval b X.env),(false,eval c X.env)]):uR X K W q tg (.Call (.Name "range" p) [a,b,c] [] pos) (iQ vH fs):=⟨_,Uz hg hm ha hs zw,λ_ _ _ t=>YB t⟩
def yn:sr X [] (tT K W0 q (iD true)):=λaa s Z H Q I t=>X6 aa s Z H Q I (by
 obtain⟨k,U,S,res,ok,gk,e,w⟩:=t;cases e;exact w.now ok rfl)
def y1{ft:GT}(h:PT X c (tT K W0 q ft)):sr X [c] (tT K W0 q ft):=X7 h
end
variable{x g:Str}{atr:List (ag×Str)}{mg:Str->aj ai}{tab:List (Str×ag)}{B0 C:ag}
section
variable{X:Cx}{K:Frag}{W:XW}{q:Nat}{tg iter elt:Expr}{ifs:List Expr}{scope:Scope}{t:TG}{gg:GG}{tt:Nat->GT}{te:Nat->GE}{src:mB}{pos:Pos}{M:List Str}{n:Nat}{cM:List Nat}
def PY(h:fO scope.names X.env.scope.names X.N M n cM=true)(hk:scope.kind=.function):dD X scope M n cM:=.of _ _ h rfl rfl hk
def xL(M:List Str)(s:uR X K W q tg iter src)(ht:jW K t gg)(hg:∀C s H fp,PG (eV X scope M C s H fp) tg t)(hT:∀m C s H fp,sr (eV X scope M C s H fp) ifs (tT K W0 m (tt m)))(hE:∀m C s H fp,PE (eV X scope M C s H fp) elt (tE K W0 m (te m)))
  (ok:fO scope.names X.env.scope.names X.N M n cM=true) (hk:scope.kind=.function) (hc:X.calm=true) (hs:∀x,foldedSetIterable iter X.env x=pure x):PE X (.ListComp elt [⟨tg,iter,ifs,0⟩] scope pos) (tE K W q (bU q src gg tt te n cM)):=by
 obtain⟨wi,h1,h2⟩:=s;exact YD hc (PY ok hk) h1 h2 ht hg hT hE hs
def wL{mu:Bool}{i:Nat}{px oR:Pos}(M:List Str)(s:uR X K W q tg iter src)(ht:jW K t gg)(hg:∀C s H fp,PG (eV X scope M C s H fp) tg t)(hT:∀m C s H fp,sr (eV X scope M C s H fp) ifs (tT K W0 m (tt m)))(hE:∀m C s H fp,PE (eV X scope M C s H fp) elt (tE K W0 m (te m)))
  (ok:fO scope.names X.env.scope.names X.N M n cM=true) (hN:Bh X.N=true) (hk:scope.kind=.function) (zp:X.N[i]?=some x) (hx:Loc X.env.scope x) (hc:X.calm=true) (Ds:swapsWith (.ListComp elt [⟨tg,iter,ifs,0⟩] scope pos) (some (.Name x px)) oR.line X.env=pure true) (hs:∀x,foldedSetIterable iter X.env x=pure x) (hf:X.fn x=true\/X.env.scope.names.lookup x=some .local) :
  PS X (.Assign [.Name x px] (.ListComp elt [⟨tg,iter,ifs,0⟩] scope pos) oR) (tS K W q (au i mu (bU q src gg tt te n cM))):=by
 obtain⟨wi,h1,h2⟩:=s;exact YE hc (PY ok hk) (F9 hN) zp hx h1 h2 ht hg hT hE Ds hs hf
end
section
variable{X:Cx}{K:Frag}{W:XW}{q:Nat}{tg iter e o i value:Expr}{body:List Stmt}{t:TG}{gg:GG}{src:mB}{pos pos' eY:Pos}{f fv fo fi fe:GE}{x:Str}
def wF{fb:Nat->GS}(s:uR X K W q tg iter src)(ht:jW K t gg)(hg:PG X tg t)(hb:∀n,iP X body (tS K W n (fb n)))(hp:PassesOwn (model X.prog X.w) X.A X.env X.xe)(hc:X.calm=true)(hs:∀x,foldedSetIterable iter X.env x=pure x):PS X (.For tg iter body [] pos) (tS K W q (br q src gg fb)):=by
 obtain⟨wi,h1,h2⟩:=s;exact e0t hp hc h1 h2 hg ht hb hs
def wS{mu:Bool}{i:Nat}(he:PE X e (tE K W q f))(hN:Bh X.N=true)(hi:X.N[i]?=some x)(hx:Loc X.env.scope x)(hs:swapsWith e (some (.Name x pos')) pos.line X.env=pure false)(hf:X.fn x=true\/X.env.scope.names.lookup x=some .local):PS X (.Assign [.Name x pos'] e pos) (tS K W q (au i mu f)):=e0j (F9 hN) hi hx he hs hf
def wE(he:PE X e (tE K W q f))(hs:swapsWith e none pos.line X.env=pure false):PS X (.Expr e pos) (tS K W q (df f)):=Yr he hs
def wP(he:PE X e (tE K W q fv))(ho:PE X o (tE K W q fo))(hi:PE X i (tE K W q fi))(hu:X.A.units+41<cLine)(hK:X.K=K)
  (ha:∀v,assign (.Subscript o i pos') X.env v=(do
   let ov <-holding [v] (eval o X.env)
   let iv <-holding [v,ov] (eval i X.env)
   standAt pos'
   holding [v,ov,iv] (setItem ov iv v)
   release [v,ov,iv] []))
  (hs:swapsWithSole [.Subscript o i pos'] e pos.line X.env=pure false) (hw:swappedStores [.Subscript o i pos'] e X.env=pure none)
  (h1:(assignEach [.Subscript o i pos'] X.env).map (·.2)=[assign (.Subscript o i pos') X.env]):PS X (.Assign [.Subscript o i pos'] e pos) (tS K W q (bV q fv fo fi)):=e1t he ho hi hu hK ha hs hw h1
def wA(ha:jS K atr)(ho:PE X o (tE K W q fo))(hv:PE X value (tE K W q fv))(hs:swapsWith value (some (.Attribute o g pos')) pos.line X.env=pure false)(hK:X.K=K):PS X (.Assign [.Attribute o g pos'] value pos) (tS K W q (eP q atr g fv fo)):=e1x ha ho hv hs hK
def wAI(ha:jS K atr)(ho:PE X o (tE K W q fo))(hv:PE X value (tE K W q fe))(hK:X.K=K):PS X (.AugAssign (.Attribute o g eY) .Add value pos) (tS K W q (Js q (λi j=>i+j) atr g fo fe)):=Zd (λaa s Z H x y v u Q I r1 r2 h=>d9v aa s Z H x y v u Q I r1 r2 (by
 obtain⟨i,j,rfl,rfl,h⟩:=h;exact⟨i,j,rfl,rfl,h⟩)) ha ho hv hK
def wAD{op:Operator}{h:Int->Int->Int}(zv:∀X:Cx,EB X op (KC h))(ho:PE X o (tE K W q fo))(hi:PE X i (tE K W q fi))(hv:PE X value (tE K W q fe))(hu:X.A.units+41<cLine)(hK:X.K=K)
  (ha:∀ov iv new,augStore i ov iv new=(do holding [new,ov,iv] (setItem ov iv new);release [new,ov,iv] [];pure .next)):PS X (.AugAssign (.Subscript o i eY) op value pos) (tS K W q (Jt q h fo fi fe)):=Ze (zv X) ho hi hv hu hK ha
structure qH (K:Frag) (mg:Str->aj ai) (tab:List (Str×ag)) (B0:ag):Prop where
 all:∀p∈tab,mg p.1=some (.ref p.2)/\fm K p.2 (.ref B0::rJ) none/\keepIn K (.ref p.2)=true
 G0:fm K B0 rJ none
 mg0:mg "CarryError"=some (.ref B0)
def qH.ix(E:qH K mg tab B0){i:Nat}{n:Str}(h:tab[i]?=some (n,C)):mg n=some (.ref C)/\fm K C (.ref B0::rJ) none/\keepIn K (.ref C)=true:=E.all (n,C) (uc h)
def wX{p cp:Pos}(j:Nat)(E:qH K X.mg tab B0)(he:PE X e (tE K W q fe))(hp:eJ X W)(hj:tab[j]?=some (x,C))(hc:X.calm=true)(hg:Gl X x)(lq:(x == ("__debug__":Str))=false)
  (lr:starEach [e] X.env=(false,eval e X.env)::starEach [] X.env) (hK:X.K=K):PS X (.Raise (some (.Call (.Name x p) [e] [] cp)) none pos) (tS K W q (o5 C fe)):=by
 obtain⟨h1,h2,h4⟩:=E.ix hj;exact VU h2 E.G0 h4 h1 hp he hc hg lq lr hK
noncomputable def wT(tab:List (Str×ag))(C:ag):aj Bool:=if tab.any (λp=>p.2 == C)=true then some true else none
def wY{np hp:Pos}{b0:Stmt}{oU:List Stmt}{g f:GS}(E:qH K X.mg tab B0)(hb:∀(pn:List (ag×Obj)) (E:ai->aq->Prop) (W:XW),eJ (X.dC pn E) W->iP (X.dC pn E) body (tS K W q f))(hS:∀e,iP (X.dB e) (b0::oU) (tS K W0 q g))
  (hg:Gl X "CarryError") (hK:X.K=K) (lr:X.stack=X.env::X.outer) (hf:X.env.frame=some X.env.locals) :
  PS X (.Try body [.ExceptHandler (some (.Name "CarryError" np)) none (b0::oU) hp] [] [] pos) (tS K W q (sX f [(wT tab,g)])):=by
 refine e0w hb (YF E.mg0 (λC b h=>?_) hS e0v hg (by decide) hK) lr hf
 unfold wT at h;split at h
 .rename_i hC
  cases h;obtain⟨p,m,e⟩:=Md.mp hC;cases(beq_iff_eq.mp e);refine((E.all p m).2.1.exm E.G0 rfl).trans (congrArg some ?_);simp
 lia
end
def Zf{P:cS}{w:ck}{K:Frag}{base:bJ}{k:Nat}{f:ag}{fd:bR}{m:GM}(F:dk P w K mg base (nz P w) k f fd [x] (uk K 0 1 m)){n:Nat}(h:∀ns:List Int,ns.length<=n->∃S,m [.d (.lst (ns.map D.int))] ⟨[],[]⟩=some (.ok (.v (.d (.bl true))) S)):
  dk P w K mg base (nz P w) k f fd [x] (λvs H Q _=>∃(a:ag) (ns:List Int),vs=[.ref a]/\cC K H a (ns.map V.int)/\ns.length<=n/\∀H',Q (.bl true) H'):=⟨λvs H Q E h=>by obtain⟨a,ns,rfl,_⟩:=h;rfl,λA outer s H args us vs Q E hr e0 hb r hq=>by
 obtain⟨a,ns,rfl,hs,hl,q⟩:=hq;obtain⟨S,e⟩:=h ns hl;refine F.run A outer s H args us [.ref a] Q E hr e0 hb r ⟨rfl,⟨H,[],[]⟩,[.d (.lst (ns.map D.int))],⟨[],[]⟩,_,⟨av.refl _,.nil,⟨rfl,λ_ _ _ z=>nomatch z⟩,⟨rfl,λ_ _ _ z=>nomatch z⟩⟩,.cons (show ah K ⟨H,[],[]⟩ [.ref a] [.lst (ns.map D.int)] from .lst hs ?_ .nil) .nil,e,λv k' H' u ok r'=>?_⟩
 .exact VN ns
 .cases(show ah K k' [v] [.bl true] from r').aX rfl;exact q H'⟩
def JY{N P:List Str}{sc:Scope}(h1:sc.kind=.function:=by rfl)(h2:sc.isCoroutine=false:=by rfl)(h3:sc.isGenerator=false:=by rfl)(h4:N.Nodup:=by decide +kernel)(h5:N.take P.length=P:=by rfl)(h6:∀x∈P,sc.names.lookup x=some .local \/ sc.names.lookup x=some .cell:=by decide +kernel)(h7:∀y∈sc.names,y.2≠.free:=by decide +kernel):g_ N P sc:=⟨h1,h2,h3,h4,h5,h6,h7⟩
def Zg{A:PySem.Around}{k:Nat}(hr:bZ k A):A.units+41<PySem.cLine:=Mb (Nat.add_le_add_left (by decide:41<=64) _) hr.units
section
variable{X:Cx}{K:Frag}{W:XW}{q:Nat}{pos:Pos}{x:Str}
def xk{z:Str}(hm:∃t,X.mg x=some (.str z t))(hg:Gl X x)(hd:(x == ("__debug__":Str))=false):PE X (.Name x pos) (tE K W q (gC (.str z))):=yT (v:=.str z) (by
 intro aa s Z H Q I h;obtain⟨t,hm⟩:=hm;exact AO I hg hm ⟨.str z,H,I,⟨t,rfl⟩,h⟩ hd)
def xki{n:Int}(hm:∃t,X.mg x=some (.int n t))(hg:Gl X x)(hd:(x == ("__debug__":Str))=false):PE X (.Name x pos) (tE K W q (gC (.int n))):=yT (v:=.int n) (by
 intro aa s Z H Q I h;obtain⟨t,hm⟩:=hm;exact AO I hg hm ⟨.int n,H,I,⟨t,rfl⟩,h⟩ hd)
end
abbrev cq:=o2 uY
abbrev qT:=o2 (eW uH λi j=>.int (i - j))
abbrev qS:=o2 vx
abbrev sG:=o2 (eW (λ_ j=>decide (0<j/\j<1073741824)) λi j=>.int (i / j))
abbrev k8:=o2 (eW (λ_ j=>decide (0<j)) λi j=>.int (i%j))
abbrev oQ:=o2 (wI false)
abbrev Bk:=o2 (wI true)
abbrev iLt:Int->Int->Bool:=λi j=>decide (i<j)
abbrev KA:Int->Int->Bool:=λi j=>decide (i<=j)
abbrev iGt:Int->Int->Bool:=λi j=>decide (j<i)
abbrev Du:Int->Int->Int:=λi j=>i+j
abbrev zP:=o2 (eW uH λi j=>.bl (iLt i j))
abbrev qLe:=o2 (eW uH λi j=>.bl (KA i j))
abbrev DP:=o2 (eW uH λi j=>.bl (iGt i j))
abbrev ni:=o2 (Bd false)
abbrev iW:=o2 (Bd true)
abbrev Lm:=o2 (Be false)
abbrev t4:=o2 (Be true)
abbrev Ll:List Bool->Bool:=λbs=>bs.all id
noncomputable def Qs(e:DictEntry):Bool:=match e.key with|.str _ _=>true|_=>false
def errC_mk{K:Frag}{C:ag}{bm:List ai}{GY:aj ai}{nm q:Str}{N:ag}{bs:List ai}{sn:List Str}{sub:List ai}{ab:Bool}{col:aj Bool}{dd:aj ag}{k0 k1 k2 k3 k5:aj ai}{on:ai}{Bj:aj ag}{es:Array DictEntry}{ep:Nat}{Bl:Array (aj ai)}
  (l:K.lookup C=some (excClassObj nm q C N bs bm true sn sub ab col dd k0 k1 k2 k3 k5 "ValueError.__new__")) (d:K.lookup N=some ⟨on,Bj,.dict es ep,Bl⟩) (s:es.toList.all Qs=true) (i:nsFind es "__init__"=GY):fm K C bm GY:=by
 refine⟨_,_,_,_,_,_,_,_,_,_,_,_,_,_,_,_,_,_,_,l,d,λe he=>?_,i⟩
 have:=m_.1 s e (L8.2 he);unfold Qs at this;split at this
 .exact⟨_,_,by assumption⟩
 .cases this
instance instGE (n:Nat):OfNat GE n:=⟨sV n⟩
abbrev gI(n:Int):GE:=gC (.int n)
abbrev gX(a b:GE):GE:=gO (o2 G2) (bM a b)
abbrev b_(o:List D->aj Rv)(a b:GE):GE:=gO o (bM a b)
abbrev lX(a b c:GE):GA:=mD a (bM b c)
abbrev uA(a b c d:GE):GA:=mD a (lX b c d)
abbrev cQ(a:GS):GS:=dF a oF
abbrev jJ(a b:GS):GS:=dF a (cQ b)
abbrev qY(a b c:GS):GS:=dF a (jJ b c)
abbrev sW(a b c d:GS):GS:=dF a (qY b c d)
abbrev rK(a b c d e:GS):GS:=dF a (sW b c d e)
instance instGG (n:Nat):OfNat GG n:=⟨ae n⟩
abbrev dg(f:GT)(g:GS):GS:=kq f (cQ g) oF
abbrev gQ(o:List D->aj Rv)(a b:GE):GT:=gB (b_ o a b)
noncomputable def bc(p n:Nat)(m:Nat->GS)(q:Nat):GM:=runM p n (m q)
end L2
namespace L2
open PySem Lean Meta
variable{s:List Cell}{z:List D}
def sP(e:Lean.Expr)(i:Nat)(k:Lean.Expr->aj (Lean.Expr×Bool)):SimpM Simp.Step:=do
 let a:=e.getAppArgs
 let r0 <-Simp.simp a[i]!
 let x:=(<-instantiateMVars r0.expr).cleanupAnnotations.headBeta
 let pr <-match r0.proof? with
  |none=>pure none
  |some p=>pure (some (<-mkCongrArg (.lam `z (<-inferType a[i]!) (mkAppN e.getAppFn (a.set! i (.bvar 0))) .default) p))
 match k x with
 |some (y,true)=>return .visit { expr:=y.headBeta,proof?:=pr}
 |some (y,false)=>return .done { expr:=y.headBeta,proof?:=pr}
 |none=>return .done { expr:=mkAppN e.getAppFn (a.set! i x),proof?:=pr}
def isOk(x:Lean.Expr):aj (Lean.Expr×Lean.Expr):=if x.isAppOfArity ``Option.some 2&&x.appArg!.isAppOfArity ``Rs.ok 3 then some (x.appArg!.appFn!.appArg!,x.appArg!.appArg!) else none
def CY(n:Name):Bool:=(n.getRoot == `L2 && !(#[``cY,``findS,``eR,``gF,``ku,``k_,``iT,``aO.cut,``aR,``aP,``bK,``gK,``jl,``cR,``lZ,``dc,``rj,``dW,``gG,``aA,``bx,``cH,``bd,``kN,``uz,``iR,``Cell.kx,``runM].contains n)) || (n.getRoot == `List&&n != ``List.toArray) || n.getRoot == `Option || n.getRoot == `Prod || n.getRoot == `GetElem? || n.getRoot == `OfNat || n.getRoot == `Nat || n.getRoot == `BEq || n == ``ite || n == ``dite || n.getRoot == `Bool || n.getRoot == `Decidable || n == ``and || n == ``or || n == ``not || n.getRoot == `id || n.getRoot == `HAppend || n.getRoot == `Append || n.getRoot == `instHAppendOfAppend
def e1y(e:Lean.Expr):MetaM Lean.Expr:=withCanUnfoldPred (λ_ c=>return CY c.name || c.name.isInternal || (<-isInstance c.name) || (<-isMatcher c.name)) (withDefault (whnf e))
def e1z(e:Lean.Expr):MetaM Bool:=do
 if e.isFVar || e.isLit then return true
 let .const n _:=e.getAppFn|return false
 if n == ``OfNat.ofNat then return true
 if n == ``Nat.succ then return false
 return (<-getEnv).isConstructor n
simproc_decl ev (_):=λe=>do
 let .const n ls:=e.getAppFn|return .continue
 let a:=e.getAppArgs
 if n == ``OfNat.ofNat&&a.size>=3&&(a[2]!.isAppOf ``instGG || a[2]!.isAppOf ``instGE) then return .visit { expr:=mkAppN (mkApp (mkConst (if a[2]!.isAppOf ``instGG then ``ae else ``sV)) a[1]!) (a.extract 3 a.size)}
 if n == ``Option.bind&&a.size == 4 then
  return <-sP e 2 λx=>if x.isAppOfArity ``Option.some 2 then some (mkApp a[3]! x.appArg!,true) else if x.isAppOfArity ``Option.none 1 then some (mkApp (.const ``Option.none (ls.drop 1)) a[1]!,false) else none
 if n == ``Option.map&&a.size == 4 then
  return <-sP e 3 λx=>if x.isAppOfArity ``Option.some 2 then some (mkApp2 (.const ``Option.some (ls.drop 1)) a[1]! (mkApp a[2]! x.appArg!).headBeta,true) else if x.isAppOfArity ``Option.none 1 then some (mkApp (.const ``Option.none (ls.drop 1)) a[1]!,false) else none
 if(n == ``bd || n == ``uz || n == ``kN)&&a.size == 4 then
  return <-sP e 2 λx=>match isOk x with
   |some (v,S)=>some (mkApp2 a[3]! v S,true)
   |none=>if n != ``uz&&x.isAppOfArity ``Option.some 2&&x.appArg!.isAppOfArity ``Rs.ex 4 then
     let b:=x.appArg!.getAppArgs
     if n == ``kN then some (mkApp2 (.const ``Option.some [0]) (.const ``Fr []) (mkApp4 (.const ``Fr.ex []) b[1]! b[2]! a[1]! b[3]!),true) else some (mkApp2 (.const ``Option.some [0]) (mkApp (.const ``Rs []) a[1]!) (mkApp4 (.const ``Rs.ex []) a[1]! b[1]! b[2]! b[3]!),true)
    else none
 if n == ``ite then return <-reduceIte e
 if n == ``List.length&&a.size == 2 then
  let some (_,vs):=a[1]!.listLit?|return .continue
  return .done { expr:=mkNatLit vs.length}
 if n == ``runM&&a.size == 5 then
  let some (_,vs):=a[3]!.listLit?|return .continue
  let (some p,some k):=(a[0]!.nat?,a[1]!.nat?)|return .continue
  unless vs.length == p do return .continue
  let V:=mkConst ``Val
  let G <-mkListLit (mkApp (.const ``Option [0]) V) (vs.map (λv=>mkApp2 (.const ``Option.some [0]) V v)++List.replicate (k - p) (mkApp (.const ``Option.none [0]) V))
  let f <-mkAppM ``leave #[<-mkAppM ``List.length #[<-mkAppM ``aO.s #[a[4]!]]]
  return .visit { expr:=<-mkAppM ``Option.bind #[(mkApp2 a[2]! G a[4]!).headBeta,f]}
 if n.getRoot == `Nat || n.getRoot == `OfNat || n.getRoot == `BEq || n.getRoot == `Decidable || n == ``dite then return .continue
 unless CY n || n == ``getElem? || n == ``HAppend.hAppend do return .continue
 if <-isMatcher n then return .continue
 if(<-getEnv).isConstructor n then return .continue
 if n.getRoot == `L2&&(<-isReducible n) then
  let some e' <-withDefault (unfoldDefinition? e)|return .continue
  return .visit { expr:=e'.headBeta}
 let t <-whnfR (<-inferType e)
 if t.isAppOfArity ``Option 1&&n.getRoot == `L2 then
  let some e' <-withDefault (unfoldDefinition? e)|return .continue
  let e' <-whnfCore e'
  if(<-isMatcherApp e') then return .continue
  return .visit { expr:=e'}
 if t.isForall then return .continue
 let e' <-e1y e
 if e' != e&&(<-e1z e') then return .visit { expr:=e'}
 return .continue
def JV:List Simp.DSimproc:=[Nat.reduceAdd,Nat.reduceSub,Nat.reduceMul,Nat.reduceDiv,Nat.reduceMod,Int.reduceAdd,Int.reduceSub,Int.reduceMul,Int.reduceDiv,Int.reduceMod,Int.reduceNeg,Int.reduceToNat,Int.reduceBEq,Nat.reduceBEq]
def JW:List Simp.Simproc:=[reduceCtorEq,Nat.reduceLT,Nat.reduceLeDiff,Nat.reduceEqDiff,Int.reduceLT,Int.reduceLE,Int.reduceEq]
simproc_decl aW (_):=λe=>do
 for p in JV do
  match <-p e with
  |.done x=>return .done { expr:=x}
  |.visit x=>return .visit { expr:=x}
  |.continue (some x)=>return .continue (some { expr:=x})
  |_=>pure ()
 for p in JW do
  match <-p e with
  |.continue none=>pure ()
  |r=>return r
 return .continue
section
variable{α:Type}{l L M:List α}{c:α}{j:Nat}{S:aO}{r L':List Cell}
def o_:S.cut S.s.length=S:=by unfold aO.cut;rw[Mf]
def A7:aO.cut ⟨s++L',r⟩ s.length=⟨s,r⟩:=by unfold aO.cut;rw[List.take_left]
def dH:aO.cut ⟨s,r⟩ s.length=⟨s,r⟩:=by unfold aO.cut;rw[Mf]
def bQ:(l++L)[l.length]?=L[0]?:=by rw[v5 (bG _),Ma]
def eH:(l++L)[l.length+j]?=L[j]?:=by rw[v5 (Hj _ _),Nat.add_sub_cancel_left]
def qy:(l++L).set l.length c=l++L.set 0 c:=by rw[List.set_append_right _ _ (bG _),Ma]
def pW:(l++L).set (l.length+j) c=l++L.set j c:=by rw[List.set_append_right _ _ (Hj _ _),Nat.add_sub_cancel_left]
def KY:(l++L).length=l.length+L.length:=cB
def Cj:(l++L)++M=l++(L++M):=nt _ _ _
def RO:(l.length<l.length)=False:=eq_false (jQ _)
def lt2:(l.length+j<l.length)=False:=eq_false (by lia)
def jI{a b:Int}:aP (.int a) (.int b)=(a == b):=rfl
def qU{a b:Str}:aP (.str a) (.str b)=(a == b):=rfl
def KD{z:Str}:iT (.str z) (.ty "str")=some (rd (.bl true)):=rfl
def GZ:iT (.tup z) (.ty "tuple")=some (rd (.bl true)):=rfl
def KG{z:Str}:iT (.str z) (.ty "tuple")=some (rd (.bl false)):=rfl
def is4:iT (.lst z) (.ty "list")=some (rd (.bl true)):=rfl
def PZ{n:Nat}{x:Cell}:aO.cut ⟨s.set n x,r⟩ s.length=⟨s.set n x,r⟩:=by
 unfold aO.cut;dsimp only;rw[xV (by rw[nq];exact bG _)]
def cx{a:α}:cY (a::l) 0=some a:=sE (j:=0) rfl
def cL{a b:α}:cY (a::b::l) 1=some b:=sE (j:=1) rfl
def k7{a b c:α}:cY (a::b::c::l) 2=some c:=sE (j:=2) rfl
def AZ{a b c d:α}:cY (a::b::c::d::l) 3=some d:=sE (j:=3) rfl
end
end L2
namespace L2
open PySem
section
variable{α:Type}{gg:GG}{tt:GT}{te:GE}{S:aO}{f:α->D}{U cs:Gm}{a:aj Val}
theorem CB(h:α->aj D)(G:Gm->Prop):∀(xs:List α) (U:Gm) (aU:List D),G U->aU.length+xs.length<=1000000->(∀x∈xs,∀U,G U->∃U',gg (f x) U=some U'/\G U'/\((h x=none/\tt U' S=some (.ok false S))\/∃r d,h x=some d/\tt U' S=some (.ok true S)/\te U' S=some (.ok r S)/\m9 r=.d d))->
  bx gg tt te (xs.map f) U S aU=some (.ok (aU++xs.filterMap h) S)
 |[],U,aU,_,_,_=>by rw[By,l9];rfl
 |x::xs,U,aU,g,hl,hx=>by
  obtain⟨U',e1,g',e2⟩:=hx x (.head _) U g;rw[jr] at hl;rw[bY];unfold bx;rw[e1,xW];rcases e2 with⟨e2,e3⟩|⟨r,d,e2,e3,e4,e5⟩
  .rw[e3,Mi e2];exact CB h G xs U' aU g' (by lia) λy m=>hx y (.tail _ m)
  .have e6:gD te U' S=some (.ok d S):=by unfold gD bd;rw[e4];show(pR S (m9 r)).map _=_;rw[e5];rfl
   rw[e3,Mj e2];show uz (gD te U' S) _=_;rw[e6];show(if aU.length<1000000 then _ else _)=_
   rw[aN (by lia),CB h G xs U' (aU++[d]) g' (by rw[cB,ud];lia) λy m=>hx y (.tail _ m),nt]
   rfl
def J7{d:D}:ae 0 d (a::cs)=some (some (.d d)::cs):=by
 rfl
def wB(h:α->aj D)(xs:List α)(hl:xs.length<=1000000)(hx:∀x∈xs,(h x=none/\tt (some (.d (f x))::cs) S=some (.ok false S))\/∃r d,h x=some d/\tt (some (.d (f x))::cs) S=some (.ok true S)/\te (some (.d (f x))::cs) S=some (.ok r S)/\m9 r=.d d):bx (ae 0) tt te (xs.map f) (a::cs) S []=some (.ok (xs.filterMap h) S):=by
 rw[CB h (λU=>∃a,U=a::cs) xs _ [] ⟨a,rfl⟩ (by rw[Af];lia) λx m U ⟨a,hU⟩=>⟨_,by rw[hU];exact J7,⟨_,rfl⟩,hx x m⟩,uL]
def vb(h:α->D)(xs:List α)(hl:xs.length<=1000000)(hx:∀x∈xs,∃r,te (some (.d (f x))::cs) S=some (.ok r S)/\m9 r=.d (h x)):bx (ae 0) (iD true) te (xs.map f) (a::cs) S []=some (.ok (xs.map h) S):=by
 rw[wB (λx=>some (h x)) xs hl λx m=>.inr (let ⟨r,h1,h2⟩:=hx x m;⟨r,_,rfl,rfl,h1,h2⟩),List.filterMap_eq_map']
theorem Qt{body:GS}(I:List α->Gm->aO->Prop):∀(xs dn:List α) (U:Gm) (S:aO),I dn U S->(∀d x r,dn++xs=d++x::r->∀U S,I d U S->∃U1 U' S',gg (f x) U=some U1/\(body U1 S=some (.nx U' S')\/body U1 S=some (.ct U' S'))/\I (d++[x]) U' S')->∃U' S',aA gg body (xs.map f) U S=some (.nx U' S')/\I (dn++xs) U' S'
 |[],dn,U,S,i,_=>⟨U,S,rfl,by rw[l9];exact i⟩
 |x::xs,dn,U,S,i,hx=>by
  obtain⟨U1,U',S',e1,e2,i'⟩:=hx dn x xs rfl U S i;obtain⟨U2,S2,e3,i2⟩:=Qt I xs (dn++[x]) U' S' i' λd y r e=>hx d y r (by rw[<-e,nt];rfl)
  refine⟨U2,S2,?_,by rw[nt] at i2;exact i2⟩
  rw[bY];unfold aA;rw[e1,xW];rcases e2 with e2|e2
  .rw[e2];exact e3
  .rw[e2];exact e3
def jy{body:GS}(I:List α->Gm->aO->Prop)(xs:List α)(i:I [] U S)(hx:∀d x r,xs=d++x::r->∀U S,I d U S->∃U1 U' S',gg (f x) U=some U1/\(body U1 S=some (.nx U' S')\/body U1 S=some (.ct U' S'))/\I (d++[x]) U' S'):∃U' S',aA gg body (xs.map f) U S=some (.nx U' S')/\I xs U' S':=Qt I xs [] U S i λd x r e=>hx d x r e
def e2a(enc:α->D)(xs:List α):dW (xs.map enc)=((List.range xs.length).zip xs).map λ(p:Nat×α)=>D.tup [.int (p.1:Nat),enc p.2]:=by
 unfold dW;rw[aY];refine Me λi=>?_
 rw[gq,gq];by_cases h:i<xs.length
 .have z:((List.range xs.length).zip xs)[i]?=some (i,xs[i]):=List.getElem?_zip_eq_some.mpr ⟨Ag h,jt h⟩;rw[Ag h,z];simp[h]
 .rw[Aj (by simp;lia),Aj (by simp;lia)]
  rfl
def e6p{body:GS}(enc:α->D)(I:List α->Gm->aO->Prop)(xs:List α)(i:I [] U S)(hx:∀d x r,xs=d++x::r->∀U S,I d U S->∃U1 U' S',gg (.tup [.int (d.length:Nat),enc x]) U=some U1/\body U1 S=some (.nx U' S')/\I (d++[x]) U' S'):∃U' S',aA gg body (dW (xs.map enc)) U S=some (.nx U' S')/\I xs U' S':=by
 have hs:((List.range xs.length).zip xs).map Prod.snd=xs:=by rw[List.map_snd_zip];simp
 rw[e2a];obtain⟨U',S',e,p⟩:=jy (gg:=gg) (body:=body) (f:=λ(p:Nat×α)=>D.tup [.int (p.1:Nat),enc p.2]) (U:=U) (S:=S) (λpre U S=>I (pre.map Prod.snd) U S) ((List.range xs.length).zip xs) i (by
  intro q x post e U S p;have uD:xs=q.map Prod.snd++x.2::post.map Prod.snd:=by
   simp_all
  have hi:x.1=(q.map Prod.snd).length:=by
   have:((List.range xs.length).zip xs)[q.length]?=some x:=by rw[e,v5 (bG _)];simp
   rw[List.getElem?_zip_eq_some] at this;have h1:=this.1;rw[eS] at h1;obtain⟨hl,h1⟩:=h1;rw[List.getElem_range] at h1;rw[aY];exact h1.symm
  obtain⟨U1,U2,S2,a,b,c⟩:=hx _ _ _ uD U S p;exact⟨U1,U2,S2,by rw[hi];exact a,.inl b,by rw[dq];exact c⟩)
 exact⟨U',S',e,by rw[hs] at p;exact p⟩
theorem Pm{body:GS}{rv:Rv}{S':aO}(I:List α->Gm->aO->Prop){x:α}{r:List α}:∀(d dn:List α) (U:Gm) (S:aO),I dn U S->(∀d' y r',dn++d=d'++y::r'->∀U S,I d' U S->∃U1 U' S',gg (f y) U=some U1/\(body U1 S=some (.nx U' S')\/body U1 S=some (.ct U' S'))/\I (d'++[y]) U' S')->(∀U S,I (dn++d) U S->∃U1,gg (f x) U=some U1/\body U1 S=some (.rt rv S'))->aA gg body ((d++x::r).map f) U S=some (.rt rv S')
 |[],dn,U,S,i,_,hs=>by
  obtain⟨U1,e1,e2⟩:=hs U S (by rw[l9];exact i)
  rw[uL,bY];unfold aA;rw[e1,xW,e2];rfl
 |y::d,dn,U,S,i,hp,hs=>by
  obtain⟨U1,U',S',e1,e2,i'⟩:=hp dn y d rfl U S i;have e3:=Pm I (x:=x) (r:=r) d (dn++[y]) U' S' i' (λd' z r' e=>hp d' z r' (by rw[<-e,nt];rfl)) (λU S h=>hs U S (by rw[nt] at h;exact h))
  rw[List.cons_append,bY];unfold aA;rw[e1,xW];rcases e2 with e2|e2
  .rw[e2];exact e3
  .rw[e2];exact e3
end
end L2
namespace L2
open PySem PySem.Spec PySem.W PyProof.Rows
section
variable{K:Frag}{mg:Str->aj ai}{h:bJ}{x y:Str}{st:Stmt}{f C:ag}{fd:bR}{ps:List Str}
abbrev Qu(x y:Str)(st:Stmt)(ps:List Str):Prop:=∀(kV doc pm:ai) (an:aj ag) (fV ct:ai) (us:List ai),us.length=ps.length->bindArgs (PySem.W.fnOf x y (Cg st) (yz st) (rE st) .none kV doc pm an fV ct) ⟨us,[]⟩=pure (ps.zip us)
def dM(X:K.In h)(G:h.Ns mainGlobals mg)(a:nsIn K mainGlobals x=some (some (.ref f)))(F:Fun K x x st f fd)(b:Qu x x st ps):bp K mg x st f fd ps:=⟨F,mg_of X G a,F.binds b⟩
def mM(a:findIn K (.ref C) x=some (some (.ref f)))(n:isFn K (.ref f)=true)(F:Fun K x y st f fd)(b:Qu x y st ps):MethAt K C x y st f fd ps:=⟨F,⟨a,n,F.kp⟩,F.binds b⟩
def kM{v:Tok->ai}{t:Tok}(X:K.In h)(G:h.Ns mainGlobals mg)(a:nsIn K mainGlobals x=some (some (v t))):∃t,mg x=some (v t):=⟨t,mg_of X G a⟩
end
section
variable{X:Cx}
end
section
variable{X:Cx}{K:PySem.W.Frag}{H:Hp}{k:Kn}
end
end L2
namespace L2
open PySem Lean Meta
def dvR:List Name:=[``yY,``vg,``CT,``yZ,``wL,``wS,``wE,``wP,``wA,``wAI,``wAD,``wX,``wY,``wF,``sO,``xv,``xi,``xs,``xb,``xn,``xty,``xk,``xki,``xo,``L6,``xc,``xix,``xsl,``xd,``xj,``jn,``jc,``xB,``xT,``xM,``xU,``xf,``xC,``xN,``xH,``xH0,``xLV,``xL,``yX,``yW,``sN,``vd,``CQ,``CS,``yV,``zO,``zc,``yU,``PW.pt,``CV,``y8,``y7,``yc,``ych,``yt,``ya1,``yo1,``yn,``y1,``vf,``ve,``tZ,``vE,``pgn,``pgt,``tW,``vD,``vM,``z9,``ub,``vO,``sA,``Lw,``sEn,``sI,``sR1,``sRN,``LZ,``L4,``L3,``Ek,``L0,``WC,``WJ,``WI,``WH,``WD,``WE,``JE,``WG,``JD,``KN,``KL,``KI,``KO,``DB,``KJ,``DA,``Dz,``zE,``DD,``vT,``vU,``vV,``Eg,``qb,``PyProof.Rows.Boot.min,``PyProof.Rows.Boot.sum,``xu,``xw,``zy,``DO,``bZ.le,``rm,``vB,``vC]
def dvM(tg N cM:Lean.Expr):MetaM Lean.Expr:=do
 let nm (e:Lean.Expr):=e.getArg! 0
 let ts:=if tg.isAppOf ``Expr.Name then[nm tg] else((tg.getArg! 0).listLit?.map (·.2.map nm)).getD []
 let ns:=(((<-whnf N).listLit?).map (·.2)).getD []
 let cs:=((cM.listLit?.map (·.2)).getD []).map λi=>ns.getD ((i.nat?).getD 0) (mkNatLit 0)
 mkListLit (mkConst ``Str) (ts++cs)
def oE{α:Type}(f:α->MetaM Bool):List α->MetaM Bool
 |[]=>return false
 |x::l=>do if <-f x then return true else oE f l
def CU:Nat->MVarId->MetaM Unit
 |0,_=>failure
 |n+1,g0=>do
  let (_,g) <-g0.intros
  g.withContext do
  let t:=(<-instantiateMVars (<-g.getType)).cleanupAnnotations.headBeta
  let run (s:MetaM Syntax):MetaM Bool:=do
   let st <-saveState
   try
    let (gs,_) <-Lean.Elab.runTactic g (<-s)
    unless gs.isEmpty do failure
    return true
   catch _=>st.restore;return false
  let use (fix:Lean.Expr->MetaM Unit) (f:Lean.Expr):MetaM Bool:=do
   let s <-saveState
   try
    let y <-whnfR (<-inferType f)
    unless y.getForallBody.getAppFn.constName? == t.getAppFn.constName? do failure
    let (ms,_,ty) <-forallMetaTelescope y
    unless <-isDefEq ty t do failure
    let each (h:Lean.Expr->MetaM Unit):=oE (λm=>do
     unless <-m.mvarId!.isAssigned do h m
     return false) ms.toList
    discard <| each fix
    discard <| each λm=>do if <-isProp (<-inferType m) then CU n m.mvarId!
    g.assign (mkAppN f ms)
    return true
   catch _=>s.restore;return false
  let vW:=use λ_=>pure ()
  let c:=t.getAppFn.constName?.getD .anonymous
  if c == ``Eq then
   let l:=t.appFn!.appArg!
   if l.isAppOf ``Bh || l.isAppOf ``fO then
    if <-run `(tactic| kernel_rfl) then return
   if <-(try g.refl;pure true catch _=>pure false) then return
  let env <-getEnv
  if c == ``dk then
   if <-oE (oE λ(k,i)=>do
    if k.getPrefix == `Carry&&(<-whnfR i.type).getForallBody.isAppOf ``dk then vW (<-mkConstWithFreshMVarLevels k) else return false) [env.constants.map₂.toList,env.constants.map₁.toList] then return
   failure
  if <-oE (λd=>do
   if d.isImplementationDetail then return false
   if <-vW d.toExpr then return true
   let some s:=d.type.getAppFn.constName?|return false
   unless isStructure env s&&s.getPrefix == `Carry do return false
   oE (λf=>do vW (<-mkProjection d.toExpr f)) (getStructureFields env s).toList) ((<-getLCtx).decls.toList.filterMap id) then return
  if <-oE (λr=>do
   let f <-mkConstWithFreshMVarLevels r
   if r == ``wX then
    oE (λj=>use (λm=>do if(<-inferType m).isConstOf ``Nat then m.mvarId!.assign (mkNatLit j)) f) (List.range 12)
   else if r == ``xL || r == ``wL then
    use (λm=>do
     if(<-instantiateMVars (<-inferType m)).isAppOf ``List then
      let some lc:=t.find? (·.isAppOf ``Expr.ListComp)|failure
      let some gc:=t.find? (·.isAppOf ``bU)|failure
      let some co:=((lc.getArg! 1).listLit?.bind (·.2.head?))|failure
      m.mvarId!.assign (<-dvM (co.getArg! 0) (<-mkAppM ``Cx.N #[t.getArg! 0]) gc.appArg!)) f
   else vW f) dvR then return
  unless <-run `(tactic| first|rfl|exact Or.inl rfl|exact Or.inr rfl|exact Or.inr (Or.inl rfl)|exact Or.inr (Or.inr rfl)|decide|(intro _ _;rfl)|with_unfolding_all rfl) do failure
simproc_decl dv (iP _ _ _):=λe=>do
 let a:=e.getAppArgs
 let b <-withDefault (whnf a[1]!)
 let m <-mkFreshExprMVar (mkApp3 e.getAppFn a[0]! b a[2]!)
 withDefault (CU 200 m.mvarId!)
 return .done { expr:=mkConst ``True,proof?:=<-mkEqTrue (<-mkExpectedTypeHint (<-instantiateMVars m) e)}
end L2
namespace L2
open PySem PySem.Spec PyProof.Rows
abbrev cG{A:Type}(Tx:PySem.W.Frag->(Str->aj ai)->A->Prop)(k:Nat)(f:A->ag)(fd:A->bR)(ps:List Str)(p:Nat)(M:Nat->GM):Prop:=∀{P:cS} {w:ck} {K:PySem.W.Frag} {mg:Str->aj ai} {base:bJ} {t:A} (T:Tx K mg t) (q:Nat),dk P w K mg base (nz P w) k (f t) (fd t) ps (uk K q p (M q))
def cK{A:Type}{Tx:PySem.W.Frag->(Str->aj ai)->A->Prop}{k p n:Nat}{f:A->ag}{fd:A->bR}{ps:List Str}{x qual:Str}{st:Stmt}{m:Nat->GS}(F:∀{K:PySem.W.Frag} {mg:Str->aj ai} {t:A},Tx K mg t->Fun K x qual st (f t) (fd t))(N:List Str)
  (hb:∀{P:cS} {w:ck} {K:PySem.W.Frag} {mg:Str->aj ai} {base:bJ} {t:A} (T:Tx K mg t) (q:Nat) (fV:ai) (A:cF) (outer:List Env) (s:aq) (H:Hp) (E:XK),bZ k (A.deeper (envOfC qual (rE st) s.heap.objs.size (f t) fV))->(A.deeper (envOfC qual (rE st) s.heap.objs.size (f t) fV)).units+41<cLine->iP (mF (nz P w) P w K mg base N qual (rE st) (f t) fV A outer s H E) (yz st) (tS K (WF E) q (m q)):=by intros;simp only[dv])
  (S:g_ N ps (rE st):=by exact JY) (hp:ps.length=p:=by rfl) (hn:N.length=n:=by rfl):cG Tx (k+1) f fd ps p (bc p n m):=λT q=>e0k (F T) S hp hn λfV A outer s H E hr=>hb T q fV A outer s H E hr (Zg hr)
end L2
namespace Carry
open PySem L2
def SB(f:ag)(H H':Hp):Prop:=∀b o,H b=some o->b≠f->H' b=some o
structure yb where
 ns:List Int
 pl:Int
 D5:Int
 mode:Int
 num:Int
def CZ(sl:ag)(F:yb):HO:=.lst [.ref sl,.int F.pl,.int F.D5,.int F.mode,.int F.num]
structure FeedAt (H:Hp) (f sl:ag) (F:yb):Prop where
 fo:H f=some (CZ sl F)
 so:H sl=some (.lst (F.ns.map V.int))
 pos:0<=F.pl
 len:F.ns.length<=63
def cellOf(F:yb):Int:=if 0<F.ns.length then F.ns.getD (F.pl%F.ns.length).toNat 0+F.pl / F.ns.length*31 else F.pl
def i4(st k:Int):Str:=
 if st%4=3 then(if 7<k then Txt.mul "y" (k - 7) else Txt.slice "zbdgkafe" none (some (k+1)))
 else(([""  ,"ab","zzz"]:List Str).getD (st%4).toNat ""++k_ (("dbgkafelcjhi":Str).cps.toList.getD k.toNat 0))++(["","ba","zz"]:List Str).getD (st / 4%3).toNat ""
theorem Sz:∀st:Nat,st<12->∀i:Nat,i<12->∀j:Nat,j<12->i4 st i=i4 st j->i=j:=by decide +kernel
theorem A3{x:Int}{n:Nat}(h0:0<=x)(h1:x<n):∃k:Nat,x=k/\k<n:=⟨x.toNat,by lia,by lia⟩
theorem Ig{st i j:Int}(hs:0<=st)(hs':st<12)(hi:0<=i)(zo:i<12)(hj:0<=j)(hj':j<12)(e:i4 st i=i4 st j):i=j:=by
 obtain⟨s,rfl,s1⟩:=A3 (n:=12) hs hs';obtain⟨a,rfl,a1⟩:=A3 (n:=12) hi zo;obtain⟨b,rfl,b1⟩:=A3 (n:=12) hj hj';rw[Sz s s1 a a1 b b1 e]
structure ak where
 name:Str
 long:Int
 ring:Bool
 outs:List Str
structure aB where
 af:List ak
 carts:List Str
def xK(xs:List Str):List V:=xs.map V.str
def e2b(H:Hp)(v:V)(b:ak):Prop:=∃p o,v=.ref p/\H p=some (.tup [.str b.name,.int b.long,.bl b.ring,.ref o])/\H o=some (.lst (xK b.outs))
structure HouseAt (H:Hp) (p pb pc:ag) (refs:List V) (h:aB):Prop where
 top:H p=some (.tup [.ref pb,.ref pc])
 bl:H pb=some (.lst refs)
 ct:H pc=some (.lst (xK h.carts))
 each:Paired (e2b H) refs h.af
def mQ(xs:List Str)(k:Nat)(y:Str):List Str:=xs.take k++y::xs.drop k
theorem Fl(xs:List Str)(k:Nat)(y:Str):(mQ xs k y).length=xs.length+1:=by
 unfold mQ;rw[cB,jr,Ac,Er];lia
theorem kE{xs:List Str}{k:Nat}{y z:Str}:z∈mQ xs k y↔z=y\/z∈xs:=by
 unfold mQ;rw[e_,y07];constructor
 .rintro(h|h|h)
  .exact .inr (List.mem_of_mem_take h)
  .exact .inl h
  .exact .inr (Ml h)
 .rintro(h|h)
  .exact .inr (.inl h)
  .rw[<-Mh k xs,e_] at h;rcases h with h|h
   .exact .inl h
   .exact .inr (.inr h)
seal PE PA PT PS iP
noncomputable def top(i:Nat):Stmt:=PySem.Challenge.pw_carry_k94_whole_elsewhere_and_later.main.body.getD i (.Pass ⟨0,0,0,0⟩)
abbrev U9:Stmt:=top 15
abbrev SJ:Stmt:=top 17
abbrev SK:Stmt:=top 18
abbrev SM:Stmt:=top 19
abbrev Tf:Stmt:=top 20
abbrev SW:Stmt:=top 21
abbrev SX:Stmt:=top 22
abbrev SY:Stmt:=top 23
abbrev U_:Stmt:=top 24
abbrev Va:Stmt:=top 25
abbrev e6q:Stmt:=top 27
abbrev Wh:Stmt:=top 28
abbrev e6r:Stmt:=top 29
abbrev Wi:Stmt:=top 31
abbrev S6:Stmt:=top 32
abbrev T2:Stmt:=top 33
abbrev e2c:Stmt:=top 34
abbrev Sw:Stmt:=top 35
abbrev So:Stmt:=top 36
abbrev SA:Stmt:=top 37
abbrev Wj:Stmt:=top 40
abbrev Sx:Stmt:=top 41
abbrev Wk:Stmt:=top 43
abbrev Wl:Stmt:=top 44
abbrev Wm:Stmt:=top 45
abbrev Wn:Stmt:=top 46
abbrev Vb:Stmt:=top 47
abbrev Tg:Stmt:=top 48
abbrev Wo:Stmt:=top 49
abbrev Vc:Stmt:=top 50
abbrev e6s:Stmt:=top 51
abbrev Wq:Stmt:=kJ (top 39) 0
abbrev T3:Stmt:=kJ (top 39) 1
abbrev T4:Stmt:=kJ (top 39) 2
abbrev S7:Stmt:=kJ (top 39) 3
abbrev Zh:Stmt:=kJ (top 39) 4
abbrev Wr:Stmt:=kJ (top 39) 6
abbrev Sq:Stmt:=kJ (top 39) 8
abbrev SD:Stmt:=kJ (top 39) 9
abbrev Sr:Stmt:=kJ (top 39) 10
abbrev Vd:Stmt:=kJ (top 39) 11
abbrev T5:Stmt:=kJ (top 39) 12
abbrev T7:Stmt:=kJ (top 39) 13
abbrev Th:Stmt:=kJ (top 39) 15
abbrev Ws:Stmt:=kJ (top 39) 16
abbrev Zi:Stmt:=kJ (top 39) 17
abbrev Wt:Stmt:=kJ (top 39) 18
abbrev Ti:Stmt:=kJ (top 39) 20
abbrev Tj:Stmt:=kJ (top 39) 21
abbrev S8:Stmt:=kJ (top 39) 22
abbrev Wu:Stmt:=kJ (top 39) 23
abbrev Tn:Stmt:=kJ (top 39) 24
abbrev S9:Stmt:=kJ (top 39) 25
noncomputable abbrev cN:List (Str×ag):=[("NoName",44),("NoSize",56),("NoOut",68),("NoHand",80),("NoMoment",92),("NoFlight",104),("NoBelt",116),("NoRoom",128),("NoBag",140)]
abbrev cHall:ag:=454
noncomputable abbrev atrs:List (ag×Str):=[(cHall,"built"),(cHall,"told_rounds"),(cHall,"now"),(cHall,"book"),(cHall,"halts"),(cHall,"places"),(cHall,"readings"),(cHall,"rounded"),(cHall,"gone"),(cHall,"carted")]
set_option genInjectivity false in
set_option genSizeOfSpec false in
structure bf where
 lT:ag
 lL:bR
 gh:ag
 gb:bR
 gf:ag
 f_:bR
 gd:ag
 fZ:bR
 jj:ag
 ja:bR
 iw:ag
 ig:bR
 iu:ag
 ie:bR
 iq:ag
 ib:bR
 lW:ag
 lP:bR
 lR:ag
 lJ:bR
 wK:ag
 wD:bR
 n_:ag
 nP:bR
 wJ:ag
 wC:bR
 oB:ag
 n8:bR
 ir:ag
 ic:bR
 kg:ag
 j':bR
 sS:ag
 sM:bR
 eO:ag
 eL:bR
 d_:ag
 dU:bR
 fF:ag
 fD:bR
 oa:ag
 nQ:bR
 eM:ag
 eK:bR
 ow:ag
 n4:bR
 oq:ag
 nZ:bR
 oz:ag
 n5:bR
 oA:ag
 n6:bR
 lV:ag
 lO:bR
 ji:ag
 i_:bR
 oo:ag
 nY:bR
 lU:ag
 lM:bR
 sR:ag
 sL:bR
 kc:ag
 j8:bR
 kb:ag
 j7:bR
 ka:ag
 j6:bR
 iy:ag
 ik:bR
 qg:ag
 qd:bR
 om:ag
 nX:bR
 dY:ag
 dQ:bR
 fE:ag
 fB:bR
 dZ:ag
 dR:bR
 lS:ag
 lK:bR
 kf:ag
 j_:bR
 ke:ag
 j9:bR
 jh:ag
 i9:bR
 og:ag
 nR:bR
 qf:ag
 qc:bR
 oh:ag
 nU:bR
 jb:ag
 i5:bR
 je:ag
 i7:bR
 iz:ag
 il:bR
 oi:ag
 nV:bR
 jg:ag
 i8:bR
 iA:ag
 ip:bR
structure Txt (K:PySem.W.Frag) (mg:Str->aj ai) (t:bf):Prop where
 qK:bp K mg "is_name" U9 t.lT t.lL ["thing"]
 kX:bp K mg "right_house" SJ t.gh t.gb ["house"]
 kW:bp K mg "check_carts" SK t.gf t.f_ ["carts","taken"]
 kU:bp K mg "check_belts" SM t.gd t.fZ ["belts","taken"]
 nG:bp K mg "take_name" Tf t.jj t.ja ["name","taken"]
 mj:bp K mg "check_outs" SW t.iw t.ig ["belts","carts"]
 mi:bp K mg "check_hand" SX t.iu t.ie ["house"]
 mf:bp K mg "belt_names" SY t.iq t.ib ["belts"]
 qN:bp K mg "reached" U_ t.lW t.lP ["house","belt"]
 qI:bp K mg "belt_of" Va t.lR t.lJ ["house","name"]
 BD:bp K mg "far" e6q t.wK t.wD ["house","place","cart"]
 rT:bp K mg "begins" Wh t.n_ t.nP ["house","cart"]
 BC:bp K mg "arm" e6r t.wJ t.wC ["house","belt","cart"]
 sj:bp K mg "wanted" Wi t.oB t.n8 ["hall"]
 mh:bp K mg "busy_belts" S6 t.ir t.ic ["hall"]
 pG:bp K mg "off_belt" T2 t.kg t.j' ["house","belt","cart","busy"]
 x_:bp K mg "turn" e2c t.sS t.sM ["hall"]
 jv:bp K mg "stand_stopped" Sw t.eO t.eL ["bags","goals","stopped","whys"]
 iM:bp K mg "stand_yielding" So t.d_ t.dU ["bags","goals","whys"]
 jV:bp K mg "stand_behind" SA t.fF t.fD ["bags","goals","whys"]
 rV:bp K mg "copied" Wj t.oa t.nQ ["house"]
 ju:bp K mg "check_closing" Sx t.eM t.eK ["closing"]
 sd:bp K mg "_law_feed" Wk t.ow t.n4 ["_law_script"]
 r_:bp K mg "_law_draw" Wl t.oq t.nZ ["_law_feed_here","_law_many"]
 sf:bp K mg "_law_name" Wm t.oz t.n5 ["_law_feed_here","_law_k"]
 sg:bp K mg "_law_outs" Wn t.oA t.n6 ["_law_feed_here","_law_later","_law_carts"]
 qM:bp K mg "_law_house" Vb t.lV t.lO ["_law_feed_here"]
 nF:bp K mg "_law_flights" Tg t.ji t.i_ ["_law_feed_here","_law_halls","_law_carts","_law_later"]
 r9:bp K mg "_law_deed" Wo t.oo t.nY ["_law_feed_here","_law_halls","_law_belts","_law_later","_law_names","_law_number"]
 qL:bp K mg "_law_alike" Vc t.lU t.lM ["_law_halls","_law_later"]
 si:bp K mg "law" e6s t.sR t.sL ["_law_script"]
 rX:Fun K "__init__" "Hall.__init__" Wq t.kc t.j8
 B_h_init:Binds K t.j8 ["self","house","rounds"] []
 pC:MethAt K cHall "flight" "Hall.flight" T3 t.kb t.j7 ["self","name","cart","closing"]
 pB:MethAt K cHall "change" "Hall.change" T4 t.ka t.j6 ["self","name","closing"]
 mm:MethAt K cHall "call_off" "Hall.call_off" S7 t.iy t.ik ["self","name"]
 uO:MethAt K cHall "put" "Hall.put" Zh t.qg t.qd ["self","bag","flight","belt"]
 r6:MethAt K cHall "stop" "Hall.stop" Wr t.om t.nX ["self","belt"]
 iK:MethAt K cHall "check_flight" "Hall.check_flight" Sq t.dY t.dQ ["self","name"]
 jU:MethAt K cHall "check_belt" "Hall.check_belt" SD t.fE t.fB ["self","name"]
 iL:MethAt K cHall "check_inside" "Hall.check_inside" Sr t.dZ t.dR ["self","bag"]
 qJ:MethAt K cHall "house" "Hall.house" Vd t.lS t.lK ["self"]
 pF:MethAt K cHall "rounds" "Hall.rounds" T5 t.kf t.j_ ["self"]
 pD:MethAt K cHall "moment" "Hall.moment" T7 t.ke t.j9 ["self"]
 nE:MethAt K cHall "stopped" "Hall.stopped" Th t.jh t.i9 ["self"]
 rW:MethAt K cHall "bags" "Hall.bags" Ws t.og t.nR ["self"]
 uN:MethAt K cHall "out" "Hall.out" Zi t.qf t.qc ["self"]
 rY:MethAt K cHall "late" "Hall.late" Wt t.oh t.nU ["self"]
 nB:MethAt K cHall "cart_of" "Hall.cart_of" Ti t.jb t.i5 ["self","bag"]
 nC:MethAt K cHall "catches" "Hall.catches" Tj t.je t.i7 ["self","bag"]
 mq:MethAt K cHall "in_order" "Hall.in_order" S8 t.iz t.il ["self"]
 rZ:MethAt K cHall "move" "Hall.move" Wu t.oi t.nV ["self","moves"]
 nD:MethAt K cHall "move_on" "Hall.move_on" Tn t.jg t.i8 ["self","bag","goal"]
 mr:MethAt K cHall "move_out" "Hall.move_out" S9 t.iA t.ip ["self","bag","cart"]
 C_Hall:pz K cHall
 Mk_Hall:Mk K cHall t.kc
 mg_Hall:mg "Hall"=some (.ref cHall)
 atr:jS K atrs
 er:qH K mg cN 31
 b_len:mg "len"=none
 b_isinstance:mg "isinstance"=none
 b_int:mg "int"=none
 b_bool:mg "bool"=none
 b_str:mg "str"=none
 b_list:mg "list"=none
 b_tuple:mg "tuple"=none
 b_range:mg "range"=none
 b_enumerate:mg "enumerate"=none
 b_reversed:mg "reversed"=none
 b_all:mg "all"=none
 b_sorted:mg "sorted"=none
 b_dict:mg "dict"=none
 b_min:mg "min"=none
 c_LETTERS:∃t,mg "LETTERS"=some (.str "abcdefghijklmnopqrstuvwxyz" t)
 c_MOST_LETTERS:∃t,mg "MOST_LETTERS"=some (.int 8 t)
def HZ(n1:Nat):GE:=(b_ ni 0 (gC (.str "abcdefghijklmnopqrstuvwxyz")))
def E9(q:Nat):GS:=(qY (dg (et (cJ (gO (o2 iT) (bM 0 (gC (.ty "str")))))) (aK (gC (.bl false)))) (dg (et (gB (Ju KA KA (gI 1) (gO (o1 eI) (bo 0)) (gC (.int 8))))) (aK (gC (.bl false)))) (aK (gO (o1 (FZ Ll)) (bo (bU q (bu false eQ 0) 0 (λ_=>iD true) HZ 1 [])))))
def p9:=bc 1 1 E9
theorem d8r:cG Txt 1 bf.lT bf.lL ["thing"] 1 p9:=cK (λT=>T.qK.fn) ["thing"]
def MA(n1:Nat):GE:=(gX 0 (gI 0))
def ML(q:Nat):GS:=(cQ (aK (bU q (bu false eQ 0) 0 (λ_=>iD true) MA 1 [])))
def uo:=bc 1 1 ML
theorem c9j:cG Txt 1 bf.iq bf.ib ["belts"] 1 uo:=cK (λT=>T.mf.fn) ["belts"]
def Ay(n1:Nat):GS:=(cQ (dg (gQ oQ (gX 2 (gI 0)) 1) (aK (bC true (uA (gX 2 (gI 0)) (gX 2 (gI 1)) (gX 2 (gI 2)) (gO (o1 jm) (bo (gX 2 (gI 3)))))))))
def NP(q:Nat):GS:=(jJ (br q (bu true eQ (gX 0 (gI 0))) 2 Ay) (aK (gC .aF)))
def yr:=bc 2 3 NP
theorem d8s:cG Txt 1 bf.lR bf.lJ ["house","name"] 2 yr:=cK (λT=>T.qI.fn) ["house","name","belt"]
def Ih(n2:Nat):GT:=(gQ ni 0 1)
def Ii(n2:Nat):GE:=(gX 1 0)
def AE(n1:Nat):GS:=(jJ (au 7 false (bU n1 (bu false eQ 6) 0 Ih Ii 1 [2])) (dg (cJ 7) (bV n1 (b_ cq 4 (gO (o1 (qa gG)) (bo 7))) 2 3)))
def Om(q:Nat):GS:=(qY (au 2 true (qh (AW [(1,(gI 0))]))) (br q (bu true vF (gX 0 (gI 0))) (aM [3,4,5,6]) AE) (aK 2))
def B_:=bc 2 8 Om
theorem e2d:cG Txt 1 bf.n_ bf.nP ["house","cart"] 2 B_:=cK (λT=>T.rT.fn) ["house","cart","known","name","long","ring","outs","behind"]
def As(n1:Nat):GS:=(jJ (au 8 false (gX 1 4)) (kq (gQ ni (gX 6 (gI 0)) 2) (cQ (bV n1 (bC true (bM (gC (.str "stopped")) (gX 6 (gI 0)))) 3 4)) (cQ (dg (c_ (cJ (gO (o2 iT) (bM 8 (gC (.ty "tuple"))))) (gQ ni (gX 8 (gI 0)) 2)) (bV n1 (bC true (bM (gC (.str "stopped")) (gX 8 (gI 0)))) 3 4)))))
def Mx(q:Nat):GS:=(cQ (br q (bu true eQ 0) (aM [4,5,6,7]) As))
def EL:=bc 4 9 Mx
theorem c1h:cG Txt 1 bf.eO bf.eL ["bags","goals","stopped","whys"] 4 EL:=cK (λT=>T.jv.fn) ["bags","goals","stopped","whys","bag","flight","place","gone","goal"]
def HJ(n1:Nat):GT:=(c_ (gQ iW (gX 0 (gI 0)) 1) (cJ (gO (o2 iT) (bM (gX 2 (gX 0 (gI 0))) (gC (.ty "tuple"))))))
def HK(n1:Nat):GE:=0
def BL(n1:Nat):GS:=(jJ (au 9 false (gX 1 5)) (dg (jz (gQ iW 9 4) (gQ oQ (gX 7 (gI 0)) (gX 9 (gI 0)))) (bV n1 5 4 9)))
def BM(n1:Nat):GS:=(jJ (au 10 false (gX 4 (gX 1 5))) (dg (gQ Bk 10 5) (bV n1 (bC true (bM (gC (.str "yields")) 10)) 2 5)))
def Ms(q:Nat):GS:=(sW (au 3 false (bU q (bu false eQ 0) 0 HJ HK 1 [2,1])) (au 4 true rH) (br q (bu true eQ 3) (aM [5,6,7,8]) BL) (br q (bu true eQ 3) (aM [5,6,7,8]) BM))
def EH:=bc 3 11 Ms
theorem c0w:cG Txt 1 bf.d_ bf.dU ["bags","goals","whys"] 3 EH:=cK (λT=>T.iM.fn) ["bags","goals","whys","asking","chosen","bag","flight","place","gone","goal","other"]
def BN(n1:Nat):GS:=(cQ (bV n1 4 3 6))
def yj(n1:Nat):GS:=(jJ (au 9 false (F0 "dict" (o2 qk) 3 (bo (gX 1 4)))) (kq (c_ (gQ iW 4 2) (gQ ni 9 2)) (jJ (bV n1 (bC true (bM (gC (.str "behind")) 9)) 2 4) (au 8 false (gC (.bl true)))) oF))
def EI(q:Nat):GS:=(jJ (au 8 false (gC (.bl false))) (br q (bu true eQ 1) 4 yj))
def MB(q:Nat):GS:=(sW (au 3 true rH) (br q (bu true eQ 0) (aM [4,5,6,7]) BN) (au 8 false (gC (.bl true))) (cH (cJ 8) (EI q) 1000))
def EO:=bc 3 10 MB
theorem c4w:cG Txt 1 bf.fF bf.fD ["bags","goals","whys"] 3 EO:=cK (λT=>T.jV.fn) ["bags","goals","whys","holder","bag","flight","place","gone","grown","other"]
def My(q:Nat):GS:=(cQ (dg (gQ zP 0 (gI 0)) (o5 92 (gC (.str "a flight closes at a moment from 0 on")))))
def BO:=bc 1 1 My
theorem c1i:cG Txt 1 bf.eM bf.eK ["closing"] 1 BO:=cK (λT=>T.ju.fn) ["closing"]
def Oo(q:Nat):GS:=(jJ (au 1 false (b_ cq (wx 0 yH (yI (gI 2))) (bC false (bM (gI 0) (gI 0))))) (aK (bC false (mD (wx 0 yH (yI (gI 120))) (uA (gI 0) (gI 0) (b_ k8 (gX 1 (gI 0)) (gI 2)) (gX 1 (gI 1)))))))
def B':=bc 1 2 Oo
theorem e2e:cG Txt 1 bf.ow bf.n4 ["_law_script"] 1 B':=cK (λT=>T.sd.fn) ["_law_script","_law_cells"]
def Fm(q:Nat):GS:=(dF (kq (gQ oQ (gX 0 (gI 3)) (gI 1)) (qY (au 2 false (b_ k8 (gX 0 (gI 4)) 1)) (bV q (b_ sG (gX 0 (gI 4)) 1) 0 (gI 4)) (aK 2)) oF) (rK (au 3 false (gX 0 (gI 1))) (bV q (b_ cq 3 (gI 1)) 0 (gI 1)) (au 4 false 3) (dg (gQ DP (gO (o1 eI) (bo (gX 0 (gI 0)))) (gI 0)) (au 4 false (b_ cq (gX (gX 0 (gI 0)) (b_ k8 3 (gO (o1 eI) (bo (gX 0 (gI 0)))))) (b_ qS (b_ sG 3 (gO (o1 eI) (bo (gX 0 (gI 0))))) (gI 31))))) (aK (b_ k8 (b_ k8 (b_ qS (b_ k8 (b_ cq (b_ qS 4 (gI 48271)) (b_ qS (gI 31) 3)) (gI 1000003)) (gI 69621)) (gI 999983)) 1))))
def jx:=bc 2 5 Fm
theorem e2f:cG Txt 1 bf.oq bf.nZ ["_law_feed_here","_law_many"] 2 jx:=cK (λT=>T.r_.fn) ["_law_feed_here","_law_many","_law_found","_law_at","_law_cell"]
def Oq(q:Nat):GS:=(jJ (dg (gQ oQ (b_ k8 (gX 0 (gI 2)) (gI 4)) (gI 3)) (aK (gX (bC false (bM (wx (gC (.str "zbdgkafe")) yH (yI (b_ cq 1 (gI 1)))) (b_ qS (gC (.str "y")) (b_ qT 1 (gI 7))))) (gO (o1 oI) (bo (b_ DP 1 (gI 7))))))) (aK (b_ cq (b_ cq (gX (bC false (lX (gC (.str "")) (gC (.str "ab")) (gC (.str "zzz")))) (b_ k8 (gX 0 (gI 2)) (gI 4))) (gX (gC (.str "dbgkafelcjhi")) 1)) (gX (bC false (lX (gC (.str "")) (gC (.str "ba")) (gC (.str "zz")))) (b_ k8 (b_ sG (gX 0 (gI 2)) (gI 4)) (gI 3))))))
def AM:=bc 2 2 Oq
theorem e2g:cG Txt 1 bf.oz bf.n5 ["_law_feed_here","_law_k"] 2 AM:=cK (λT=>T.sf.fn) ["_law_feed_here","_law_k"]
def Nh(q:Nat):GS:=(cQ (aK (bj atrs "told_rounds" 0)))
def E4:=bc 1 1 Nh
theorem d6m:cG Txt 1 bf.kf bf.j_ ["self"] 1 E4:=cK (λT=>T.pF.fn) ["self"]
def Ni(q:Nat):GS:=(cQ (aK (bj atrs "now" 0)))
def yp:=bc 1 1 Ni
theorem d6n:cG Txt 1 bf.ke bf.j9 ["self"] 1 yp:=cK (λT=>T.pD.fn) ["self"]
def Pn(q:Nat):GS:=(cQ (aK (gO (o1 jm) (bo (bj atrs "gone" 0)))))
def yD:=bc 1 1 Pn
theorem e5u:cG Txt 1 bf.qf bf.qc ["self"] 1 yD:=cK (λT=>T.uN.fn) ["self"]
def MM(q:Nat):GS:=(rK (df (fG q "dict" kB (bj atrs "places" 0) (bo 1))) (df (fG q "dict" kB (bj atrs "readings" 0) (bo 1))) (df (fG q "dict" kB (bj atrs "rounded" 0) (bo 1))) (bV q 2 (bj atrs "carted" 0) 1) (df (fG q "list" uy (bj atrs "gone" 0) (bo (bC true (lX 1 2 (bj atrs "now" 0)))))))
def BU:=bc 3 3 MM
theorem c9k:cG Txt 1 bf.iA bf.ip ["self","bag","cart"] 3 BU:=cK (λT=>T.mr.fn) ["self","bag","cart"]
def MX(q:Nat):GS:=(jJ (dg (jz (et (cJ (ax (p9 q) (bo 0)))) (gQ ni 0 1)) (o5 44 (gC (.str "a belt or a cart has no name, or one that is taken")))) (bV q (gC (.bl true)) 1 0))
def Az:=bc 2 2 MX
theorem d2b:cG Txt 2 bf.jj bf.ja ["name","taken"] 2 Az:=cK (λT=>T.nG.fn) ["name","taken"]
def BP(n2:Nat):GS:=(jJ (dg (gQ iW 7 6) (o5 68 (yC (nh (gC (.str "belt ")) (nh (gO (o1 mI) (bo 4)) (nh (gC (.str " has an out that is no cart, no belt behind it, or there twice")) km)))))) (df (fG n2 "list" FI 6 (bo 7))))
def ER(n1:Nat):GS:=(rK (au 4 false (gX 3 (gI 0))) (au 5 false (Gr (cJ (gO (o2 iT) (bM (gX 3 (gI 3)) (gC (.ty "list"))))) (gX 3 (gI 3)) (bC false gN))) (au 6 true (b_ cq (ax (uo n1) (bo (wx 0 (yI (b_ cq 2 (gI 1))) yH))) 1)) (br n1 (bu true eQ 5) 7 BP) (dg (et (cJ 5)) (o5 68 (yC (nh (gC (.str "belt ")) (nh (gO (o1 mI) (bo 4)) (nh (gC (.str " has no outs")) km)))))))
def MN(q:Nat):GS:=(cQ (br q (bu true JQ 0) (aM [2,3]) ER))
def EV:=bc 2 8 MN
theorem c9l:cG Txt 2 bf.iw bf.ig ["belts","carts"] 2 EV:=cK (λT=>T.mj.fn) ["belts","carts","k","belt","name","outs","left","out"]
def BV(n2:Nat):GS:=(cQ (bV n2 (gC (.bl true)) 2 7))
def AA(n1:Nat):GS:=(cQ (dg (jz (gQ oQ 3 1) (gQ ni 3 2)) (br n1 (bu true eQ 6) 7 BV)))
def H0(n1:Nat):GT:=(gQ ni 0 1)
def H9(n1:Nat):GE:=0
def NQ(q:Nat):GS:=(qY (au 2 true rH) (br q (bu true eQ (gX 0 (gI 0))) (aM [3,4,5,6]) AA) (aK (bU q (bu false eQ (b_ cq (ax (uo q) (bo (gX 0 (gI 0)))) (gX 0 (gI 1)))) 0 H0 H9 1 [2])))
def AI:=bc 2 8 NQ
theorem d8t:cG Txt 2 bf.lW bf.lP ["house","belt"] 2 AI:=cK (λT=>T.qN.fn) ["house","belt","found","name","long","ring","outs","out"]
def QU(q:Nat):GS:=(qY (au 3 false (ax (B_ q) (bM 0 2))) (dg (gQ iW (gX 1 (gI 0)) 3) (aK (gC .aF))) (aK (b_ qT (gX 3 (gX 1 (gI 0))) (gX 1 (gI 1)))))
def Gh:=bc 3 4 QU
theorem e7g:cG Txt 2 bf.wK bf.wD ["house","place","cart"] 3 Gh:=cK (λT=>T.BD.fn) ["house","place","cart","known"]
def Cm(n1:Nat):GS:=(cQ (dg (c_ (gQ ni 5 3) (jz (gQ Lm 4 (gC .aF)) (gQ zP (gX 3 5) (gX 3 4)))) (au 4 false 5)))
def QV(q:Nat):GS:=(sW (au 3 false (ax (B_ q) (bM 0 2))) (au 4 false (gC .aF)) (br q (bu true eQ (gX (ax (yr q) (bM 0 1)) (gI 3))) 5 Cm) (aK 4))
def Gi:=bc 3 6 QV
theorem e7h:cG Txt 2 bf.wJ bf.wC ["house","belt","cart"] 3 Gi:=cK (λT=>T.BC.fn) ["house","belt","cart","known","best","out"]
def Ij(n1:Nat):GE:=(ax (yr n1) (bM 1 0))
def Ot(q:Nat):GS:=(jJ (au 1 false (bU q (bu false eQ (ax (uo q) (bo (gX 0 (gI 0))))) 0 (λ_=>iD true) Ij 1 [0])) (aK (bC true (bM 1 (gO (o1 jm) (bo (gX 0 (gI 1))))))))
def Ca:=bc 1 2 Ot
theorem e2j:cG Txt 2 bf.oa bf.nQ ["house"] 1 Ca:=cK (λT=>T.rV.fn) ["house","belts"]
def wb(n1:Nat):GS:=(jJ (au 5 false (gX (b_ cq 1 2) (ax (jx n1) (bM 0 (b_ cq (gO (o1 eI) (bo 1)) (gO (o1 eI) (bo 2))))))) (dg (gQ iW 5 3) (df (fG n1 "list" AV 3 (bM (ax (jx n1) (bM 0 (b_ cq (gO (o1 eI) (bo 3)) (gI 1)))) 5)))))
def Ik(n1:Nat):GT:=(gQ ni 0 1)
def Il(n1:Nat):GE:=0
def Fo(q:Nat):GS:=(sW (au 3 true (bC false gN)) (br q (iQ lz (bo (b_ cq (gI 1) (ax (jx q) (bM 0 (gI 3)))))) 4 wb) (dg (c_ (gQ iW (gX 2 (gI 0)) 3) (gQ oQ (gO (o1 eI) (bo (bU q (bu false eQ 3) 0 Ik Il 1 [1]))) (gI 0))) (df (fG q "list" AV 3 (bM (ax (jx q) (bM 0 (b_ cq (gO (o1 eI) (bo 3)) (gI 1)))) (gX 2 (gI 0)))))) (aK 3))
def uw:=bc 3 6 Fo
theorem e2k:cG Txt 2 bf.oA bf.n6 ["_law_feed_here","_law_later","_law_carts"] 3 uw:=cK (λT=>T.sg.fn) ["_law_feed_here","_law_later","_law_carts","_law_outs_here","_law_t","_law_out"]
def Nj(q:Nat):GS:=(sW (dg (jz (et (cJ (ax (p9 q) (bo 1)))) (gQ ni 1 (bj atrs "book" 0))) (o5 44 (gC (.str "a flight has no name, or one that another flight has")))) (dg (gQ iW 2 (wx (gX (bj atrs "built" 0) (gI 1)) (yI (gI 1)) yH)) (o5 68 (gC (.str "a flight's cart is none of the house, or the hand")))) (df (ax (BO q) (bo 3))) (bV q (bC true (lX 1 2 3)) (bj atrs "book" 0) 1))
def uq:=bc 4 4 Nj
theorem d6o:cG Txt 2 bf.kb bf.j7 ["self","name","cart","closing"] 4 uq:=cK (λT=>T.pC.fn) ["self","name","cart","closing"]
def Mt(q:Nat):GS:=(cQ (dg (jz (et (cJ (ax (p9 q) (bo 1)))) (gQ iW 1 (bj atrs "book" 0))) (o5 104 (gC (.str "no flight is called so")))))
def Au:=bc 2 2 Mt
theorem c0x:cG Txt 2 bf.dY bf.dQ ["self","name"] 2 Au:=cK (λT=>T.iK.fn) ["self","name"]
def MC(q:Nat):GS:=(cQ (dg (gQ iW 1 (ax (uo q) (bo (gX (bj atrs "built" 0) (gI 0))))) (o5 116 (gC (.str "no belt is called so")))))
def BQ:=bc 2 2 MC
theorem c4y:cG Txt 2 bf.fE bf.fB ["self","name"] 2 BQ:=cK (λT=>T.jU.fn) ["self","name"]
def Mu(q:Nat):GS:=(cQ (dg (jz (et (cJ (ax (p9 q) (bo 1)))) (gQ iW 1 (bj atrs "places" 0))) (o5 140 (gC (.str "no bag in the house is called so")))))
def EJ:=bc 2 2 Mu
theorem c0y:cG Txt 2 bf.dZ bf.dR ["self","bag"] 2 EJ:=cK (λT=>T.iL.fn) ["self","bag"]
def HS(n1:Nat):GT:=(gQ ni 0 (bj atrs "halts" 1))
def HU(n1:Nat):GE:=0
def MY(q:Nat):GS:=(cQ (aK (bU q (bu false eQ (ax (uo q) (bo (gX (bj atrs "built" 0) (gI 0))))) 0 HS HU 1 [0])))
def BW:=bc 1 1 MY
theorem d2c:cG Txt 2 bf.jh bf.i9 ["self"] 1 BW:=cK (λT=>T.nE.fn) ["self"]
def HM(n1:Nat):GE:=(bC true (lX (F0 "list" (o2 iR) 2 (bo (gX 1 (gI 0)))) (gX 1 (gI 1)) 0))
def HN(n1:Nat):GE:=(gX 0 (gI 2))
def HW(q:Nat):GS:=(qY (au 1 false (ax (uo q) (bo (gX (bj atrs "built" 0) (gI 0))))) (au 2 false (bU q (bu false vt (bj atrs "places" 0)) (aM [0,1]) (λ_=>iD true) HM 2 [1])) (aK (bU q (bu false eQ (gO (o1 qz) (bo 2))) 0 (λ_=>iD true) HN 1 [])))
def Ax:=bc 1 3 HW
theorem c9o:cG Txt 2 bf.iz bf.il ["self"] 1 Ax:=cK (λT=>T.mq.fn) ["self","ranks","spots"]
def H_(q:Nat):GS:=(sW (au 3 false (gX (bj atrs "places" 0) 1)) (au 4 false (ax (yr q) (bM (bj atrs "built" 0) (gX 3 (gI 0))))) (dg (c_ (cJ (gX 4 (gI 2))) (c_ (gQ oQ 3 (bC true (bM (gX 4 (gI 0)) (b_ qT (gX 4 (gI 1)) (gI 1))))) (gQ oQ 2 (bC true (bM (gX 4 (gI 0)) (gI 0)))))) (Jt q Du (bj atrs "rounded" 0) 1 (gI 1))) (bV q 2 (bj atrs "places" 0) 1))
def wa:=bc 3 5 H_
theorem d2d:cG Txt 2 bf.jg bf.i8 ["self","bag","goal"] 3 wa:=cK (λT=>T.nD.fn) ["self","bag","goal","was","belt"]
def EM(n1:Nat):GS:=(cQ (df (ax (Az n1) (bM 2 1))))
def MF(q:Nat):GS:=(jJ (br q (bu true eQ 0) 2 EM) (dg (et (cJ 0)) (o5 80 (gC (.str "a house has a cart at least, the hand")))))
def ES:=bc 2 3 MF
theorem c6s:cG Txt 3 bf.gf bf.f_ ["carts","taken"] 2 ES:=cK (λT=>T.kW.fn) ["carts","taken","cart"]
def EN(n1:Nat):GS:=(qY (df (ax (Az n1) (bM 2 1))) (au 6 false (Gr (cJ 4) (gI 2) (gI 1))) (dg (gQ zP 3 6) (o5 56 (yC (nh (gC (.str "belt ")) (nh (gO (o1 mI) (bo 2)) (nh (gC (.str " has fewer than ")) (nh (gO (o1 mI) (bo 6)) (nh (gC (.str " cells")) km)))))))))
def MG(q:Nat):GS:=(cQ (br q (bu true eQ 0) (aM [2,3,4,5]) EN))
def ET:=bc 2 7 MG
theorem c6t:cG Txt 3 bf.gd bf.fZ ["belts","taken"] 2 ET:=cK (λT=>T.kU.fn) ["belts","taken","name","long","ring","outs","least"]
def HP(n1:Nat):GS:=(cQ (dg (gQ iW 1 (ax (AI n1) (bM 0 2))) (o5 80 (yC (nh (gC (.str "the hand can not be come to from belt ")) (nh (gO (o1 mI) (bo 2)) km))))))
def MO(q:Nat):GS:=(jJ (au 1 false (gX (gX 0 (gI 1)) (gI 0))) (br q (bu true eQ (ax (uo q) (bo (gX 0 (gI 0))))) 2 HP))
def EX:=bc 1 3 MO
theorem c9p:cG Txt 3 bf.iu bf.ie ["house"] 1 EX:=cK (λT=>T.mi.fn) ["house","hand","name"]
def B2(q:Nat):GS:=(sW (au 4 false (ax (Gi q) (lX 0 (gX 1 (gI 0)) 2))) (dg (gQ ni 4 (gX 0 (gI 1))) (aK 4)) (dg (c_ (cJ (gX 1 (gI 2))) (gQ ni 4 3)) (aK (bC true (bM (gX 1 (gI 0)) (gI 0))))) (aK (bC true (bM 4 (gI 0)))))
def rD:=bc 4 5 B2
theorem d6p:cG Txt 3 bf.kg bf.j' ["house","belt","cart","busy"] 4 rD:=cK (λT=>T.pG.fn) ["house","belt","cart","busy","out"]
def E0(n1:Nat):GE:=(ax (AM n1) (bM 1 (b_ qT (gI 11) 0)))
def Ia(n2:Nat):GE:=(gX 0 (gI 0))
def AB(n1:Nat):GS:=(sW (au 5 false (b_ oQ (ax (jx n1) (bM 0 (gI 3))) (gI 0))) (au 6 false (b_ cq (b_ cq (gI 1) (gO (o1 oI) (bo 5))) (ax (jx n1) (bM 0 (gI 3))))) (au 7 false (ax (uw n1) (lX 0 (bU n1 (bu false eQ 3) 0 (λ_=>iD true) Ia 1 []) 2))) (df (fG n1 "list" AV 3 (bM (gI 0) (bC true (uA (ax (AM n1) (bM 0 4)) 6 5 7))))))
def NR(q:Nat):GS:=(rK (au 1 false (b_ cq (gI 1) (ax (jx q) (bM 0 (gI 5))))) (au 2 false (bU q (iQ lz (bo (b_ cq (gI 1) (ax (jx q) (bM 0 (gI 4)))))) 0 (λ_=>iD true) E0 1 [0])) (au 3 true (bC false gN)) (br q (iQ vH (lX (b_ qT 1 (gI 1)) (gO (o1 rb) (bo (gI 1))) (gO (o1 rb) (bo (gI 1))))) 4 AB) (aK (bC true (bM 3 2))))
def AJ:=bc 1 8 NR
theorem d8u:cG Txt 3 bf.lV bf.lO ["_law_feed_here"] 1 AJ:=cK (λT=>T.qM.fn) ["_law_feed_here","_law_many","_law_carts","_law_belts","_law_k","_law_ring","_law_long","_law_outs_here"]
def v_(n1:Nat):GS:=(cQ (dg (gQ DP (gO (o1 eI) (bo 2)) (gI 1)) (df (fG n1 "list" uy 4 (bo (bC true (lX (gX (gC (.str "dcb")) 5) (gX 2 (b_ cq (gI 1) (ax (jx n1) (bM 0 (b_ qT (gO (o1 eI) (bo 2)) (gI 1)))))) (ax (jx n1) (bM 0 (gI 25))))))))))
def Av(n1:Nat):GS:=(cQ (df (aT cHall "flight" (uq n1) (gX 1 (gI 0)) (lX 6 7 8))))
def Aw(n1:Nat):GS:=(cQ (df (aT cHall "flight" (uq n1) (gX 1 (gI 1)) (lX 6 7 (b_ cq 8 3)))))
def HV(n1:Nat):GE:=(gX 0 (gI 0))
def MZ(q:Nat):GS:=(rK (au 4 true (bC false gN)) (br q (iQ lz (bo (ax (jx q) (bM 0 (gI 3))))) 5 v_) (br q (bu true eQ 4) (aM [6,7,8]) Av) (br q (bu true vF 4) (aM [6,7,8]) Aw) (aK (bU q (bu false eQ 4) 0 (λ_=>iD true) HV 1 [])))
def AD:=bc 4 9 MZ
theorem d2e:cG Txt 3 bf.ji bf.i_ ["_law_feed_here","_law_halls","_law_carts","_law_later"] 4 AD:=cK (λT=>T.nF.fn) ["_law_feed_here","_law_halls","_law_carts","_law_later","_law_some","_law_k","_law_name_here","_law_cart","_law_closing"]
def Nk(q:Nat):GS:=(qY (df (aT cHall "check_flight" (Au q) 0 (bo 1))) (df (ax (BO q) (bo 2))) (bV q (bC true (lX 1 (gX (gX (bj atrs "book" 0) 1) (gI 1)) 2)) (bj atrs "book" 0) 1))
def AF:=bc 3 3 Nk
theorem d6q:cG Txt 3 bf.ka bf.j6 ["self","name","closing"] 3 AF:=cK (λT=>T.pB.fn) ["self","name","closing"]
def BR(n1:Nat):GS:=(cQ (dg (gQ oQ (gX (bj atrs "readings" 0) 2) 1) (bV n1 (gC .aF) (bj atrs "readings" 0) 2)))
def MP(q:Nat):GS:=(qY (df (aT cHall "check_flight" (Au q) 0 (bo 1))) (df (fG q "dict" kB (bj atrs "book" 0) (bo 1))) (br q (bu true eQ (gO (o1 jm) (bo (bj atrs "readings" 0)))) 2 BR))
def uT:=bc 2 3 MP
theorem c9q:cG Txt 3 bf.iy bf.ik ["self","name"] 2 uT:=cK (λT=>T.mm.fn) ["self","name","bag"]
def wj(q:Nat):GS:=(dF (dg (jz (et (cJ (ax (p9 q) (bo 1)))) (jz (gQ ni 1 (bj atrs "places" 0)) (gQ ni 1 (bj atrs "carted" 0)))) (o5 44 (gC (.str "a bag has no name, or one that a bag of this hall has or had")))) (dF (dg (gQ t4 2 (gC .aF)) (df (aT cHall "check_flight" (Au q) 0 (bo 2)))) (dF (df (aT cHall "check_belt" (BQ q) 0 (bo 3))) (rK (au 4 false (bC true (bM 3 (gI 0)))) (dg (gQ ni 4 (gO (o1 qB) (bo (bj atrs "places" 0)))) (o5 128 (yC (nh (gC (.str "cell 0 of belt ")) (nh (gO (o1 mI) (bo 3)) (nh (gC (.str " has a bag")) km)))))) (bV q 4 (bj atrs "places" 0) 1) (bV q 2 (bj atrs "readings" 0) 1) (bV q (gI 0) (bj atrs "rounded" 0) 1)))))
def rF:=bc 4 5 wj
theorem e5v:cG Txt 3 bf.qg bf.qd ["self","bag","flight","belt"] 4 rF:=cK (λT=>T.uO.fn) ["self","bag","flight","belt","place"]
def Ou(q:Nat):GS:=(jJ (df (aT cHall "check_belt" (BQ q) 0 (bo 1))) (bV q (gC (.bl true)) (bj atrs "halts" 0) 1))
def Cb:=bc 2 2 Ou
theorem e2l:cG Txt 3 bf.om bf.nX ["self","belt"] 2 Cb:=cK (λT=>T.r6.fn) ["self","belt"]
def NS(q:Nat):GS:=(cQ (aK (ax (Ca q) (bo (bj atrs "built" 0)))))
def E_:=bc 1 1 NS
theorem d8v:cG Txt 3 bf.lS bf.lK ["self"] 1 E_:=cK (λT=>T.qJ.fn) ["self"]
def Im(n1:Nat):GE:=(bC true (uA 0 (gX (bj atrs "readings" 1) 0) (gX (bj atrs "places" 1) 0) (gX (bj atrs "rounded" 1) 0)))
def Ov(q:Nat):GS:=(cQ (aK (bU q (bu false eQ (aT cHall "in_order" (Ax q) 0 gN)) 0 (λ_=>iD true) Im 1 [0])))
def ux:=bc 1 1 Ov
theorem e2m:cG Txt 3 bf.og bf.nR ["self"] 1 ux:=cK (λT=>T.rW.fn) ["self"]
def M0(q:Nat):GS:=(sW (dg (gQ Lm (gX (bj atrs "readings" 0) 1) (gC .aF)) (aK (gC (.bl false)))) (au 2 false (gX (bj atrs "book" 0) (gX (bj atrs "readings" 0) 1))) (au 3 false (ax (Gh q) (lX (bj atrs "built" 0) (gX (bj atrs "places" 0) 1) (gX 2 (gI 1))))) (aK (sU (b_ t4 3 (gC .aF)) (b_ qLe (b_ cq (bj atrs "now" 0) 3) (gX 2 (gI 2))))))
def BX:=bc 2 4 M0
theorem d2f:cG Txt 3 bf.je bf.i7 ["self","bag"] 2 BX:=cK (λT=>T.nC.fn) ["self","bag","flight","needed"]
def yq(n1:Nat):GS:=(cQ (kq (cJ (gO (o2 iT) (bM 3 (gC (.ty "tuple"))))) (cQ (df (aT cHall "move_on" (wa n1) 0 (bM 2 3)))) (cQ (df (aT cHall "move_out" (BU n1) 0 (bM 2 3))))))
def Ow(q:Nat):GS:=(jJ (Js q Du atrs "now" 0 (gI 1)) (br q (bu true eQ 1) (aM [2,3]) yq))
def Fp:=bc 2 4 Ow
theorem e2n:cG Txt 3 bf.oi bf.nV ["self","moves"] 2 Fp:=cK (λT=>T.rZ.fn) ["self","moves","bag","goal"]
def MH(q:Nat):GS:=(dF (au 1 false (gX 0 (gI 0))) (dF (au 2 false (gX 0 (gI 1))) (dF (au 3 true rH) (rK (df (ax (ES q) (bM 2 3))) (df (ax (ET q) (bM 1 3))) (df (ax (EV q) (bM 1 2))) (df (ax (EX q) (bo 0))) (aK (gC (.bl true)))))))
def EU:=bc 1 4 MH
theorem c6u:cG Txt 4 bf.gh bf.gb ["house"] 1 EU:=cK (λT=>T.kX.fn) ["house","belts","carts","taken"]
def HQ(n1:Nat):GT:=(gQ oQ (gX (gX 0 (gI 2)) (gI 1)) (gI 0))
def HR(n1:Nat):GE:=(gX (gX 0 (gI 2)) (gI 0))
def MQ(q:Nat):GS:=(cQ (aK (b_ cq (aT cHall "stopped" (BW q) 0 gN) (bU q (bu false eQ (aT cHall "bags" (ux q) 0 gN)) 0 HQ HR 1 []))))
def EY:=bc 1 1 MQ
theorem c9r:cG Txt 4 bf.ir bf.ic ["hall"] 1 EY:=cK (λT=>T.mh.fn) ["hall"]
def iZ(n1:Nat):GS:=(qY (au 13 false (gC (.bl true))) (sX (cQ (kq (gQ zP 6 (gI 6)) (cQ (df (aT cHall "put" (rF n1) (gX 1 12) (lX (gX (gC (.str "fedcba")) 5) 9 10)))) (cQ (kq (c_ (gQ oQ 6 (gI 6)) (gQ t4 7 (gC .aF))) (cQ (df (aT cHall "change" (AF n1) (gX 1 12) (bM 7 (b_ cq 8 (b_ qS 3 12)))))) (cQ (dg (c_ (gQ oQ 6 (gI 7)) (c_ (gQ t4 7 (gC .aF)) (gQ zP 8 (gI 8)))) (df (aT cHall "call_off" (uT n1) (gX 1 12) (bo 7))))))))) [(wT cN,(cQ (au 13 false (gC (.bl false)))))]) (df (fG n1 "list" uy 11 (bo 13))))
def IJ(q:Nat):GS:=(dF (au 6 false (ax (jx q) (bM 0 (gI 8)))) (dF (au 7 false (gC .aF)) (dF (dg (cJ 4) (au 7 false (gX 4 (ax (jx q) (bM 0 (gO (o1 eI) (bo 4))))))) (dF (au 8 false (ax (jx q) (bM 0 (gI 25)))) (rK (au 9 false (gX (bC false (lX 7 7 (gC .aF))) (b_ k8 8 (gI 3)))) (au 10 false (gX 2 (ax (jx q) (bM 0 (gO (o1 eI) (bo 2)))))) (au 11 true (bC false gN)) (br q (iQ lz (bo (gI 2))) 12 iZ) (aK (b_ oQ (gX 11 (gI 0)) (gX 11 (gI 1)))))))))
def we:=bc 6 14 IJ
theorem e2o:cG Txt 4 bf.oo bf.nY ["_law_feed_here","_law_halls","_law_belts","_law_later","_law_names","_law_number"] 6 we:=cK (λT=>T.r9.fn) ["_law_feed_here","_law_halls","_law_belts","_law_later","_law_names","_law_number","_law_how","_law_name_here","_law_closing","_law_flight","_law_belt","_law_told","_law_k","_law_done"]
def Io(n1:Nat):GT:=(c_ (gQ t4 (gX (bj atrs "readings" 1) 0) (gC .aF)) (et (cJ (aT cHall "catches" (BX n1) 1 (bo 0)))))
def Ip(n1:Nat):GE:=0
def Ox(q:Nat):GS:=(cQ (aK (bU q (bu false eQ (aT cHall "in_order" (Ax q) 0 gN)) 0 Io Ip 1 [0])))
def yw:=bc 1 1 Ox
theorem e2p:cG Txt 4 bf.oh bf.nU ["self"] 1 yw:=cK (λT=>T.rY.fn) ["self"]
def M3(q:Nat):GS:=(qY (df (aT cHall "check_inside" (EJ q) 0 (bo 1))) (dg (cJ (aT cHall "catches" (BX q) 0 (bo 1))) (aK (gX (gX (bj atrs "book" 0) (gX (bj atrs "readings" 0) 1)) (gI 1)))) (aK (gX (gX (bj atrs "built" 0) (gI 1)) (gI 0))))
def E1:=bc 2 2 M3
theorem d2g:cG Txt 4 bf.jb bf.i5 ["self","bag"] 2 E1:=cK (λT=>T.nB.fn) ["self","bag"]
def uU(n1:Nat):GS:=(qY (au 8 false (ax (yr n1) (bM 1 (gX 6 (gI 0))))) (kq (gQ zP (b_ cq (gX 6 (gI 1)) (gI 1)) (gX 8 (gI 1))) (cQ (au 9 false (bC true (bM (gX 6 (gI 0)) (b_ cq (gX 6 (gI 1)) (gI 1)))))) (cQ (kq (c_ (cJ (gX 8 (gI 2))) (c_ (gQ Lm 5 (gC .aF)) (gQ zP 7 (aT cHall "rounds" (E4 n1) 0 gN)))) (cQ (au 9 false (bC true (bM (gX 6 (gI 0)) (gI 0))))) (cQ (au 9 false (ax (rD n1) (uA 1 8 (aT cHall "cart_of" (E1 n1) 0 (bo 4)) 2))))))) (df (fG n1 "list" uy 3 (bo (bC true (bM 4 9))))))
def Oy(q:Nat):GS:=(rK (au 1 false (aT cHall "house" (E_ q) 0 gN)) (au 2 false (ax (EY q) (bo 0))) (au 3 true (bC false gN)) (br q (bu true eQ (aT cHall "bags" (ux q) 0 gN)) (aM [4,5,6,7]) uU) (aK 3))
def wg:=bc 1 10 Oy
theorem e2q:cG Txt 5 bf.oB bf.n8 ["hall"] 1 wg:=cK (λT=>T.sj.fn) ["hall","house","busy","told","bag","flight","place","gone","belt","goal"]
def Oz(q:Nat):GS:=(dF (df (ax (EU q) (bo 1))) (dF (eP q atrs "built" (ax (Ca q) (bo 1)) 0) (dF (eP q atrs "told_rounds" 2 0) (dF (eP q atrs "now" (gI 0) 0) (dF (eP q atrs "book" (jk rH) 0) (dF (eP q atrs "halts" (jk rH) 0) (rK (eP q atrs "places" (jk rH) 0) (eP q atrs "readings" (jk rH) 0) (eP q atrs "rounded" (jk rH) 0) (eP q atrs "gone" (jk (bC false gN)) 0) (eP q atrs "carted" (jk rH) 0))))))))
def yx:=bc 3 3 Oz
theorem e2r:cG Txt 5 bf.kc bf.j8 ["self","house","rounds"] 3 yx:=cK (λT=>T.rX) ["self","house","rounds"]
def Cd(n1:Nat):GS:=(cQ (kq (gQ ni 6 3) (cQ (df (fG n1 "list" uy 4 (bo (bC true (uA 6 8 8 (gX 3 6))))))) (jJ (df (fG n1 "list" uy 4 (bo (bC true (uA 6 8 (gX 2 6) (gC .aF)))))) (df (fG n1 "list" uy 5 (bo (bC true (bM 6 (gX 2 6)))))))))
def Qv(q:Nat):GS:=(dF (au 1 false (aT cHall "bags" (ux q) 0 gN)) (dF (au 2 false (gO (o1 qe) (bo (ax (wg q) (bo 0))))) (dF (au 3 true rH) (dF (df (ax (EL q) (uA 1 2 (aT cHall "stopped" (BW q) 0 gN) 3))) (dF (df (ax (EH q) (lX 1 2 3))) (dF (df (ax (EO q) (lX 1 2 3))) (rK (au 4 true (bC false gN)) (au 5 true (bC false gN)) (br q (bu true eQ 1) (aM [6,7,8,9]) Cd) (df (aT cHall "move" (Fp q) 0 (bo 5))) (aK 4))))))))
def pM:=bc 1 10 Qv
theorem e6t:cG Txt 6 bf.sS bf.sM ["hall"] 1 pM:=cK (λT=>T.x_.fn) ["hall","bags","goals","whys","log","moves","bag","flight","place","gone"]
def E2(n1:Nat):GE:=(bC true (lX 0 1 (b_ cq 2 3)))
def NT(q:Nat):GS:=(sW (dg (jz (gQ Bk (aT cHall "bags" (ux q) (gX 0 (gI 0)) gN) (aT cHall "bags" (ux q) (gX 0 (gI 1)) gN)) (gQ Bk (aT cHall "late" (yw q) (gX 0 (gI 0)) gN) (aT cHall "late" (yw q) (gX 0 (gI 1)) gN))) (aK (gC (.bl false)))) (dg (gQ Bk (ax (wg q) (bo (gX 0 (gI 0)))) (ax (wg q) (bo (gX 0 (gI 1))))) (aK (gC (.bl false)))) (au 2 false (bU q (bu false eQ (aT cHall "out" (yD q) (gX 0 (gI 0)) gN)) (aM [0,1,2]) (λ_=>iD true) E2 3 [1])) (aK (sU (b_ oQ (aT cHall "out" (yD q) (gX 0 (gI 1)) gN) 2) (b_ oQ (aT cHall "moment" (yp q) (gX 0 (gI 1)) gN) (b_ cq (aT cHall "moment" (yp q) (gX 0 (gI 0)) gN) 1)))))
def ur:=bc 2 3 NT
theorem d8w:cG Txt 6 bf.lU bf.lM ["_law_halls","_law_later"] 2 ur:=cK (λT=>T.qL.fn) ["_law_halls","_law_later","_law_out"]
def Cn(n1:Nat):GS:=(cQ (dg (gQ Bk (ax (pM n1) (bo (gX 4 (gI 1)))) (bC false gN)) (aK (gC (.bl false)))))
def Po(n1:Nat):GE:=(gX 0 (gI 0))
def Co(n1:Nat):GS:=(cQ (au 10 false (b_ cq 10 (ax (AI n1) (bM 2 11)))))
def wk(n1:Nat):GS:=(cQ (dg (gQ iW (gX 11 (gI 0)) 10) (df (aT cHall "stop" (Cb n1) (gX 4 (gI 1)) (bo (gX 11 (gI 0)))))))
def Cp(n2:Nat):GS:=(cQ (dg (jz (et (cJ (ax (ur n2) (bM 4 5)))) (gQ Bk (ax (pM n2) (bo (gX 4 (gI 0)))) (ax (pM n2) (bo (gX 4 (gI 1)))))) (aK (gC (.bl false)))))
def AX(n1:Nat):GS:=(jJ (dg (et (cJ (ax (we n1) (mD 1 (mD 4 (uA 9 5 7 12)))))) (aK (gC (.bl false)))) (br n1 (iQ lz (bo (b_ cq (gI 1) (ax (jx n1) (bM 1 (gI 3)))))) 6 Cp))
def QW(q:Nat):GS:=(dF (au 9 false (bU q (bu false eQ (wx (gX 2 (gI 0)) (yI 8) yH)) 0 (λ_=>iD true) Po 1 [])) (dF (au 10 false (gO (o1 jm) (bo 9))) (dF (br q (bu true eQ 9) 11 Co) (rK (br q (bu true eQ (gX 2 (gI 0))) 11 wk) (dg (gQ DP (gO (o1 eI) (bo (gX 2 (gI 1)))) (gI 1)) (df (aT cHall "flight" (uq q) (gX 4 (gI 1)) (lX (gC (.str "nobody")) (gX (gX 2 (gI 1)) (gO (o1 rb) (bo (gI 1)))) (gI 3))))) (br q (iQ lz (bo (gI 6))) 12 AX) (dg (gQ DP (gO (o1 eI) (bo (gX 2 (gI 1)))) (gI 1)) (df (aT cHall "call_off" (uT q) (gX 4 (gI 1)) (bo (gC (.str "nobody")))))) (aK (sU (ax (ur q) (bM 4 5)) (sU (b_ oQ (ax (pM q) (bo (gX 4 (gI 0)))) (ax (pM q) (bo (gX 4 (gI 1))))) (ax (ur q) (bM 4 5)))))))))
def QX(rest:GS)(q:Nat):GS:=(dF (au 1 true (ax (B' q) (bo 0))) (dF (bV q (ax (jx q) (bM 1 (gI 12))) 1 (gI 2)) (dF (au 2 false (ax (AJ q) (bo 1))) (dF (au 3 false (ax (jx q) (bM 1 (gI 3)))) (dF (au 4 false (bC false (bM (qi cHall (yx q) (bM 2 3)) (qi cHall (yx q) (bM 2 3))))) (dF (au 5 false (ax (jx q) (bM 1 (gI 6)))) (dF (br q (iQ lz (bo 5)) 6 Cn) (dF (au 7 false (ax (AD q) (uA 1 4 (gX 2 (gI 1)) 5))) (dF (au 8 false (ax (jx q) (bM 1 (gO (o1 eI) (bo (gX 2 (gI 0))))))) rest)))))))))
def CO(q:Nat):GS:=(QX (QW q) q)
def Gj:=bc 1 13 CO
theorem e2u:cG Txt 7 bf.sR bf.sL ["_law_script"] 1 Gj:=cK (λT=>T.si.fn) ["_law_script","_law_feed_here","_law_house_here","_law_rounds","_law_halls","_law_later","_law_t","_law_names","_law_begun","_law_belts","_law_known","_law_belt","_law_number"]
variable{i n:Nat}{st m:Int}
abbrev Pr(M:Nat->GM)(vs:List Val)(r:Rv):Prop:=∀q S,M q vs S=some (.ok r S)
abbrev P0(M:Nat->GM)(vs:List Val)(r:Rv):Prop:=∀S,M 0 vs S=some (.ok r S)
noncomputable abbrev fP(ns:List Int):D:=.lst (ns.map D.int)
abbrev fL(ns:List Int)(p st m n:Int):List D:=[fP ns,.int p,.int st,.int m,.int n]
def Fd(st:Int)(F:List D):Prop:=∃(ns:List Int) (p m n:Int),F=fL ns p st m n/\ns.length<=63/\0<=p
abbrev fC(F:List D):Cell:=.o (.lst F)
theorem Qw(ds:List D)(n:Nat):cutD ds none (some (n:Int))=ds.take n:=by
 unfold cutD;have e1:HT.cy ds.length 0 none=0:=rfl;have e2:HT.cy ds.length ds.length (some (n:Int))=min n ds.length:=by
  unfold HT.cy;simp;try lia
 rw[e1,e2];simp only[List.drop_zero,Nat.sub_zero];rw[List.take_eq_take_iff];lia
theorem JH(ds:List D):cutD ds none (some 2)=ds.take 2:=Qw ds 2
theorem e2v(ds:List D):cutD ds none (some 120)=ds.take 120:=Qw ds 120
theorem e6u(ns:List Int):∃a b,cY ((ns.map D.int).take 2++[D.int 0,D.int 0]) 0=some (.int a)/\cY ((ns.map D.int).take 2++[D.int 0,D.int 0]) 1=some (.int b):=by
 match ns with
 |[]=>exact⟨0,0,rfl,rfl⟩
 |[x]=>exact⟨x,0,rfl,rfl⟩
 |x::y::r=>exact⟨x,y,rfl,rfl⟩
theorem qq0{α:Type _}{a:α}{l:List α}:(a::l)[0]?=some a:=rfl
theorem qq1{α:Type _}{a:α}{l:List α}:(a::l)[i+1]?=l[i]?:=rfl
theorem qq2{α:Type _}{a:α}{l:List α}:(a::l).length=l.length+1:=rfl
theorem qq3{α:Type _}:([]:List α).length=0:=rfl
theorem qq4{α:Type _}{x a:α}{l:List α}:(x::l).set 0 a=a::l:=rfl
theorem qq5{α:Type _}{x a:α}{l:List α}:(x::l).set (n+1) a=x::l.set n a:=rfl
theorem RY{α β:Type _}{f:α->β}{a:α}{l:List α}:(a::l).map f=f a::l.map f:=rfl
theorem qq7{α β:Type _}{f:α->β}:([]:List α).map f=[]:=rfl
theorem qq8{α:Type _}{a:α}:List.replicate 0 a=[]:=rfl
theorem qq9{α:Type _}{a:α}:List.replicate (n+1) a=a::List.replicate n a:=rfl
theorem qqa{α:Type _}{a:α}{l:List α}:(a::l).take (i+1)=a::l.take i:=rfl
theorem qqb{α:Type _}{a:α}{l r:List α}:(a::l)++r=a::(l++r):=rfl
theorem qqc{α:Type _}(l:List α):[]++l=l:=rfl
theorem qqd{α:Type _}{l:List α}:l.take 0=[]:=rfl
theorem aQ:(false=true)=False:=rR
theorem qqf(n:Nat):0+n=n:=Nat.zero_add n
theorem e2w(ns:List Int)(h:ns.length<=63):∃F,Fd 0 F/\P0 B' [.d (fP ns)] (.o (.lst F)):=by
 obtain⟨a,b,ha,hb⟩:=e6u ns;refine⟨_,⟨ns,0,a%2,b,rfl,h,Et _⟩,λS=>?_⟩
 have c2:(ns.map D.int).take 120=ns.map D.int:=xV (by rw[aY];lia)
 have c1:(((ns.map D.int).take 2).length<=999998)=True:=bH (by rw[Ac];lia)
 unfold B' Oo;simp only[↓ev,JH,aW,aQ,c1,e2v,c2,ha,decide_true,hb,o_]
theorem Su{α:Type}{l:List α}{a b c d e:α}:cY (a::b::c::d::e::l) 4=some e:=sE (j:=4) rfl
theorem UY:((4:Int)<((5:Nat):Int))=True:=bH (by decide)
theorem OT:((1:Int)<((5:Nat):Int))=True:=bH (by decide)
theorem JG{a b:Cell}{s r:List Cell}:aO.cut ⟨a::s,r⟩ (b::s).length=⟨a::s,r⟩:=by
 unfold aO.cut;rw[show(b::s).length=(a::s).length from rfl];dsimp only;rw[Mf]
abbrev Dr(F:List D)(m v:Int)(F':List D):Prop:=∀s rr,jx 0 [.c 0,.d (.int m)] ⟨fC F::s,rr⟩=some (.ok (rd (.int v)) ⟨fC F'::s,rr⟩)
theorem dr1{ns:List Int}{p n:Int}(h0:(0<m)=True)(h1:(m<1073741824)=True):Dr (fL ns p st 1 n) m (n%m) (fL ns p st 1 (n / m)):=by
 intro s rr;unfold jx Fm;simp only[↓ev,fL,AZ,aQ,jI,jD,Su,h0,decide_true,aW,h1,and_self,UY,JG]
theorem kK{F:List D}(h:Fd st F)(h0:0<m)(h1:m<1073741824):∃v F',0<=v/\v<m/\Fd st F'/\Dr F m v F':=by
 obtain⟨ns,p,md,n,rfl,hl,hp⟩:=h;by_cases hm:md=1
 .subst hm;exact⟨_,_,Int.emod_nonneg _ (by lia),Int.emod_lt_of_pos _ h0,⟨ns,p,1,n / m,rfl,hl,hp⟩,dr1 (bH h0) (bH h1)⟩
 .have qp:(md == 1)=false:=by simpa using hm
  have m1:∀x:Int,((-(2^64)<x/\x<2^64\/(-(2^64):Int)<31/\(31:Int)<2^64)=True):=λx=>bH (.inr ⟨by decide,by decide⟩)
  have m2:∀x:Int,((-(2^64)<x/\x<2^64\/(-(2^64):Int)<48271/\(48271:Int)<2^64)=True):=λx=>bH (.inr ⟨by decide,by decide⟩)
  have m3:∀x:Int,((-(2^64)<x/\x<2^64\/(-(2^64):Int)<69621/\(69621:Int)<2^64)=True):=λx=>bH (.inr ⟨by decide,by decide⟩)
  have m4:∀x:Int,(((-(2^64):Int)<31/\(31:Int)<2^64 \/ -(2^64)<x/\x<2^64)=True):=λx=>bH (.inl ⟨by decide,by decide⟩)
  have g0:=bH h0;have g1:=bH h1;have key:∃v,Dr (fL ns p st md n) m (v%m) (fL ns (p+1) st md n):=by
   by_cases hc:(0:Int)<ns.length
   .have hs:((ns.length:Int)<1073741824)=True:=bH (by lia)
    have rL:∃c,cY (ns.map D.int) (p%(ns.length:Int))=some (.int c):=by
     have h1:=Int.emod_nonneg p (b:=(ns.length:Int)) (by lia)
     have h2:=Int.emod_lt_of_pos p hc;have hk:(p%(ns.length:Int)).toNat<ns.length:=by lia
     refine⟨ns[(p%(ns.length:Int)).toNat],?_⟩;have z:=sE (xs:=ns.map D.int) (j:=(p%(ns.length:Int)).toNat) (by rw[gq,jt hk];rfl)
     rwa[show(((p%(ns.length:Int)).toNat:Nat):Int)=p%(ns.length:Int) by lia] at z
    obtain⟨c,rL⟩:=rL;have ll:((ns.map D.int).length:Int)=ns.length:=by rw[aY]
    have hc:=bH hc;generalize(ns.length:Int)=k at *;refine⟨((c+p / k*31)*48271+31*p)%1000003*69621%999983,λs rr=>?_⟩
    unfold jx Fm;simp only[↓ev,fL,AZ,aQ,jI,qp,cL,aW,OT,cx,ll,hc,decide_true,rL,hs,and_self,m1,m2,m4,m3,g0,JG]
   .have hc:=eq_false hc;have ll:((ns.map D.int).length:Int)=ns.length:=by rw[aY]
    generalize(ns.length:Int)=k at *;refine⟨(p*48271+31*p)%1000003*69621%999983,λs rr=>?_⟩
    unfold jx Fm;simp only[↓ev,fL,AZ,aQ,jI,qp,cL,aW,OT,cx,ll,hc,decide_false,m2,m4,decide_true,m3,g0,JG]
  obtain⟨v,e⟩:=key;exact⟨_,_,Int.emod_nonneg _ (by lia),Int.emod_lt_of_pos _ h0,⟨ns,p+1,md,n,rfl,hl,by lia⟩,e⟩
variable{st k:Int}
abbrev Iu:Str:="abcdefghijklmnopqrstuvwxyz"
abbrev x6:List Nat:=Iu.cps.toList
theorem Jg(l:List Nat):(⟨l.toArray⟩:Str).length=l.length:=by show l.toArray.size=_;simp
theorem Zj:∀c∈x6,(Builtin.Str.occurrences Iu ⟨#[c]⟩ 0 Iu.length 1).isEmpty=false:=by decide +kernel
theorem e2x(c:Nat)(h:c∈x6):(Builtin.Str.occurrences (Str.ofString "abcdefghijklmnopqrstuvwxyz") (k_ c) 0 (Str.ofString "abcdefghijklmnopqrstuvwxyz").length 1).isEmpty=false:=Zj c h
theorem OA:∀n:Nat,(List.replicate n true).all id=true
 |0=>rfl
 |n+1=>by rw[List.replicate_succ,jR,OA n];rfl
theorem NU:∀bs:List Bool,gF (bs.map D.bl)=some bs
 |[]=>rfl
 |b::bs=>by rw[bY];unfold gF;rw[NU bs];rfl
theorem IA(l:List Nat)(h1:1<=l.length)(h2:l.length<=8)(hc:∀c∈l,c∈x6):Pr p9 [.d (.str ⟨l.toArray⟩)] (rd (.bl true)):=by
 have e:∀q S,bx (ae 0) (iD true) (HZ q) (l.map λc=>.str (k_ c)) [none] S []=some (.ok ((List.replicate l.length true).map D.bl) S):=λq S=>by
  rw[vb (λ_=>D.bl true) l (by lia) λc m=>⟨rd (.bl true),by
   have h:=e2x c (hc c m);unfold HZ;simp only[↓ev,aQ,h,nv],rfl⟩,List.map_replicate,List.map_const']
 have c1:(1<=((⟨l.toArray⟩:Str).length:Int))=True:=bH (by rw[Jg];lia)
 have c2:(((⟨l.toArray⟩:Str).length:Int)<=8)=True:=bH (by rw[Jg];lia)
 have c3:((⟨l.toArray⟩:Str).length<=1000000)=True:=bH (by rw[Jg];lia)
 intro q S;unfold p9 E9;simp only[↓ev,KD,aQ,c3,c1,decide_true,c2,e,NU,OA,o_]
theorem e6v:∀st:Nat,st<12->∀i:Nat,i<12->1<=(i4 st i).cps.toList.length/\(i4 st i).cps.toList.length<=8/\∀c∈(i4 st i).cps.toList,c∈x6:=by decide +kernel
theorem Qx(s0:0<=st)(s1:st<12)(k0:0<=k)(k1:k<12):Pr p9 [.d (.str (i4 st k))] (rd (.bl true)):=by
 obtain⟨s,rfl,s2⟩:=A3 (n:=12) s0 s1;obtain⟨i,rfl,i2⟩:=A3 (n:=12) k0 k1;obtain⟨h1,h2,h3⟩:=e6v s s2 i i2;exact IA _ h1 h2 h3
theorem Ve:∀k:Nat,k<12->MulOk "y" ((k:Int) - 7):=by unfold MulOk;decide +kernel
theorem Zk:∀n:Nat,n<3->((["","ab","zzz"]:List Str).getD n "").length<=3:=by decide +kernel
theorem Zl:∀n:Nat,n<3->((["","ba","zz"]:List Str).getD n "").length<=3:=by decide +kernel
noncomputable abbrev dS(xs:List Str):List D:=xs.map D.str
theorem Qy{xs:List Str}(h:0<=k/\k<xs.length):cY (dS xs) k=some (.str (xs.getD k.toNat "")):=by
 have wR:k.toNat<xs.length:=by lia
 have e:(dS xs)[k.toNat]?=some (.str (xs.getD k.toNat "")):=by simp[wR]
 have z:=sE e
 rwa[show((k.toNat:Nat):Int)=k by lia] at z
theorem Qz{F:List D}(h:Fd st F)(s0:0<=st)(s1:st<12)(k0:0<=k)(k1:k<12)(q:Nat)(s rr:List Cell):AM q [.c 0,.d (.int k)] ⟨fC F::s,rr⟩=some (.ok (rd (.str (i4 st k))) ⟨fC F::s,rr⟩):=by
 obtain⟨ns,p,md,n,rfl,hl,hp⟩:=h;unfold AM Oq;have l8:(("zbdgkafe":Str).length<=1000000)=True:=bH (by decide +kernel)
 have l12:(("dbgkafelcjhi":Str).length<=1000000)=True:=bH (by decide +kernel)
 by_cases hm:st%4=3
 .obtain⟨kn,rfl,kl⟩:=A3 (n:=12) k0 k1;have Rw:MulOk "y" ((kn:Int) - 7)=True:=bH (Ve kn kl);have qp:(st%4 == 3)=true:=by simpa using hm
  by_cases hk:(7:Int)<kn
  .have e:i4 st kn=Txt.mul "y" (kn - 7):=by unfold i4;rw[aN hm,aN hk]
   rw[e];have hk:=bH hk;generalize(kn:Int)=ki at *;simp only[↓ev,fL,k7,aW,decide_true,aQ,jI,qp,l8,Rw,hk,cL,dH]
  .have e:i4 st kn=Txt.slice "zbdgkafe" none (some (kn+1)):=by unfold i4;rw[aN hm,aJ hk]
   rw[e];have hk:=eq_false hk;generalize(kn:Int)=ki at *;simp only[↓ev,fL,k7,aW,decide_true,aQ,jI,qp,l8,Rw,hk,decide_false,cx,dH]
 .have m4:0<=st%4/\st%4<3:=by lia
  have m3:0<=st / 4%3/\st / 4%3<3:=by lia
  have a1:=Qy (xs:=["","ab","zzz"]) m4;have a2:=Qy (xs:=["","ba","zz"]) m3;simp only[RY,qq7] at a1 a2;have l1:=Zk (st%4).toNat (by lia)
  have l2:=Zl (st / 4%3).toNat (by lia)
  have qp:(st%4 == 3)=false:=by simpa using hm
  have e:i4 st k=((["","ab","zzz"]:List Str).getD (st%4).toNat ""++k_ (("dbgkafelcjhi":Str).cps.toList.getD k.toNat 0))++(["","ba","zz"]:List Str).getD (st / 4%3).toNat "":=by
   unfold i4;rw[aJ hm]
  have a3:cY ("dbgkafelcjhi":Str).cps.toList k=some (("dbgkafelcjhi":Str).cps.toList.getD k.toNat 0):=ID 0 k0 (by show k<(12:Nat);lia)
  rw[e];generalize(["","ab","zzz"]:List Str).getD (st%4).toNat ""=za at *;generalize(["","ba","zz"]:List Str).getD (st / 4%3).toNat ""=zb at *;generalize("dbgkafelcjhi":Str).cps.toList.getD k.toNat 0=zc at *;have q1:(za.length+(⟨#[zc]⟩:Str).length<=1000000)=True:=bH (by show _+1<=_;lia)
  have q2:((za++(⟨#[zc]⟩:Str)).length+zb.length<=1000000)=True:=bH (by
   rw[Str.length_append];show _+1+_<=_;lia)
  simp only[↓ev,fL,k7,aW,decide_true,aQ,jI,qp,a1,l12,a3,q1,and_self,a2,q2,dH,k_]
variable{i:Nat}{st:Int}
theorem jF(x:Str):∀xs:List Str,((dS xs).any λz=>aP z (.str x))=xs.contains x
 |[]=>rfl
 |y::r=>by
  rw[dS,bY,List.any_cons,<-dS,jF x r,Mm,qU]
  congr 1
  exact BEq.comm
theorem jG(n:Nat)(xs:List Str):(dS xs).all (bX n)=true:=by
 rw[m_];intro d hd;obtain⟨y,_,rfl⟩:=cX.mp hd;cases n <;> rfl
theorem Pp(xs:List Str)(i:Nat)(y:Str):(dS xs).take i++.str y::(dS xs).drop i=dS (mQ xs i y):=by
 unfold mQ;simp only[dS,dq,RY,List.map_take,Hs]
theorem OB(ds:List D)(n:Nat):cutD ds (some (n:Int)) none=ds.drop n:=by
 unfold cutD;have e:HT.cy ds.length 0 (some (n:Int))=min n ds.length:=by
  unfold HT.cy;simp;lia
 have e2:HT.cy ds.length ds.length none=ds.length:=rfl;rw[e,e2];by_cases h:n<=ds.length
 .rw[Nat.min_eq_left h];exact xV (by rw[Er];exact bG _)
 .rw[Nat.min_eq_right (by lia),List.drop_eq_nil_of_le (bG _),List.drop_eq_nil_of_le (by lia),List.take_nil]
theorem Vf(xs:List Str)(k:Nat)(y:Str):(mQ xs k y).Perm (y::xs):=by
 unfold mQ;refine(List.perm_middle (l₁:=xs.take k) (l₂:=xs.drop k)).trans ?_;rw[Mh]
theorem Pq{xs:List Str}{k:Nat}{y:Str}(h:xs.Nodup)(hy:y∉xs):(mQ xs k y).Nodup:=(Vf xs k y).nodup_iff.mpr (qE.mpr ⟨hy,h⟩)
structure yf (later carts:List Str) (hd:Str) (outs:List Str):Prop where
 nd:outs.Nodup
 sub:∀o∈outs,o∈later++carts
 ne:outs≠[]
 hand:hd∈outs\/∃o∈outs,o∈later
 len:outs.length<=4
theorem Cq{xs:List Str}{k:Int}(h0:0<=k)(h1:k<xs.length):cY (dS xs) k=some (.str (xs.getD k.toNat "")):=by
 have wR:k.toNat<xs.length:=by lia
 have e:(dS xs)[k.toNat]?=some (.str (xs.getD k.toNat "")):=by simp[wR]
 have z:=sE e
 rwa[show((k.toNat:Nat):Int)=k by lia] at z
theorem E'{xs:List Str}(h:i<xs.length):xs.getD i ""∈xs:=by
 simp_all
theorem Fq{n:Nat}{d r:List Nat}(e:List.range n=d++i::r):d.length=i/\i<n:=by
 have h2:d.length<n:=by have:=congrArg List.length e;simp at this;lia
 have h1:=congrArg (λl=>l[d.length]?) e
 simp only[v5 (bG _),Ma,qq0] at h1;rw[Ag h2] at h1;have:=Option.some.inj h1;exact⟨this,this ▸ h2⟩
theorem t6(n:Nat):dc 0 n=(List.range n).map λ(i:Nat)=>D.int (i:Int):=by
 unfold dc;simp only[Int.zero_add]
theorem Nl(q:Nat)(S:aO)(outs later:List Str)(h:outs.length<=1000):bx (ae 0) (Ik q) (Il q) (dS outs) [none,some (.d (.lst (dS later)))] S []=some (.ok (dS (outs.filter λo=>later.contains o)) S):=by
 rw[dS,wB (λo=>if later.contains o=true then some (.str o) else none) outs (by lia) λo m=>by
  unfold Ik Il;cases hc:later.contains o with
  |true=>exact .inr ⟨rd (.str o),.str o,rfl,by simp only[↓ev,jG,aQ,jF,hc],by simp only[↓ev],rfl⟩
  |false=>exact .inl ⟨rfl,by simp only[↓ev,jG,aQ,jF,hc]⟩]
 congr 2
 induction outs with
 |nil=>rfl
 |cons o r ih=>
  grind
section
variable{F F' F2:List D}{cb:Cell}{rr:List Cell}{later carts outs:List Str}{y:Str}{v w lc ol:Int}{j:D}{a5:aj Val}
abbrev oG(later carts:List Str)(a4 a5:aj Val):Gm:=[some (.c 0),some (.d (.lst (dS later))),some (.d (.lst (dS carts))),some (.c 2),a4,a5]
abbrev oS(F:List D)(cb:Cell)(outs:List Str)(rr:List Cell):aO:=⟨[fC F,cb,.o (.lst (dS outs))],rr⟩
theorem e6w(c2:((dS later).length+(dS carts).length<=1000000)=True)(ap:dS later++dS carts=dS (later++carts))(el:((dS later).length:Int)+((dS carts).length:Int)=lc)(dr:Dr F lc v F')(ha:cY (dS (later++carts)) v=some (.str y))(hc:outs.contains y=true):
  wb 0 (oG later carts (some (.d j)) a5) (oS F cb outs rr)=some (.nx (oG later carts (some (.d j)) (some (.d (.str y)))) (oS F' cb outs rr)):=by
 unfold wb;simp only[↓ev,oG,oS,c2,ap,el,dr,ha,aW,jG,jF,hc,kI,aQ]
theorem e2y{o2:List Str}(c2:((dS later).length+(dS carts).length<=1000000)=True)(ap:dS later++dS carts=dS (later++carts))(el:((dS later).length:Int)+((dS carts).length:Int)=lc)(dr:Dr F lc v F')(ha:cY (dS (later++carts)) v=some (.str y))(hc:outs.contains y=false)
  (eo:((dS outs).length:Int)=ol) (d2:Dr F' (ol+1) w F2) (p0:(0<=w)=True) (p1:(w<2^62)=True) (p2:((dS outs).length<1000000)=True) (h2:(dS outs).take w.toNat++.str y::(dS outs).drop w.toNat=dS o2) :
  wb 0 (oG later carts (some (.d j)) a5) (oS F cb outs rr)=some (.nx (oG later carts (some (.d j)) (some (.d (.str y)))) (oS F2 cb o2 rr)):=by
 unfold wb;simp only[↓ev,oG,oS,c2,ap,el,dr,ha,aW,jG,jF,hc,nv,eo,d2,p0,p1,p2,and_self,h2]
theorem Zm(h:Fd st F)(sl:0<(later++carts).length)(G7:(later++carts).length<=100)(nd:outs.Nodup)(sb:∀o∈outs,o∈later++carts)(ol:outs.length<=100):
  ∃o2 y F2,Fd st F2/\o2.Nodup/\(∀o∈o2,o∈later++carts)/\o2.length<=outs.length+1/\o2≠[]/\wb 0 (oG later carts (some (.d j)) a5) (oS F cb outs rr)=some (.nx (oG later carts (some (.d j)) (some (.d (.str y)))) (oS F2 cb o2 rr)):=by
 have c2:((dS later).length+(dS carts).length<=1000000)=True:=bH (by rw[aY,aY,<-cB];lia)
 have ap:dS later++dS carts=dS (later++carts):=dq.symm;have el:((dS later).length:Int)+((dS carts).length:Int)=((later++carts).length:Int):=by rw[aY,aY,cB];lia
 obtain⟨v,F',v0,v1,h',dr⟩:=kK h (m:=((later++carts).length:Int)) (by lia) (by lia)
 have ha:=Cq (xs:=later++carts) v0 v1;have hm:(later++carts).getD v.toNat ""∈later++carts:=E' (by lia)
 generalize(later++carts).getD v.toNat ""=y at ha hm;cases hc:outs.contains y with
 |true=>
  refine⟨outs,y,F',h',nd,sb,by lia,λz=>?_,e6w c2 ap el dr ha hc⟩
  rw[z] at hc;cases hc
 |false=>
  obtain⟨w,F2,w0,w1,h2,d2⟩:=kK h' (m:=(outs.length:Int)+1) (by lia) (by lia)
  have hy:y∉outs:=by simpa using hc
  refine⟨_,y,F2,h2,Pq (k:=w.toNat) nd hy,λo ho=>?_,by rw[Fl];lia,λz=>?_,e2y c2 ap el dr ha hc (by rw[aY]) d2 (bH w0) (bH (by lia)) (bH (by rw[aY];lia)) (Pp _ _ _)⟩
  .rcases kE.mp ho with z|z
   .rw[z];exact hm
   .exact sb o z
  .have:=Fl outs w.toNat y;rw[z] at this;simp at this
structure uQ (F F' F1:List D) (cb:Cell) (rr:List Cell) (later carts o1:List Str) (hand:Str) (r:Int) (a4 a5:aj Val):Prop where
 dr:Dr F 3 r F'
 hi:Nat.ble (1+r).natAbs 1000000000000=true
 hl:aA (ae 4) (wb 0) (dc 0 (1+r).toNat) (oG later carts none none) ⟨[fC F',cb,.o (.lst [])],rr⟩=some (.nx (oG later carts a4 a5) (oS F1 cb o1 rr))
 rL:cY (dS carts) 0=some (.str hand)
variable{F1:List D}{o1:List Str}{hand:Str}{r:Int}{a4:aj Val}
theorem Zn(h:uQ F F' F1 cb rr later carts o1 hand r a4 a5)(hc:o1.contains hand=true):uw 0 [.c 0,.d (.lst (dS later)),.d (.lst (dS carts))] ⟨[fC F,cb],rr⟩=some (.ok (.o (.lst (dS o1))) ⟨[fC F1,cb],rr⟩):=by
 obtain⟨dr,hi,hl,rL⟩:=h;unfold uw Fo;simp only[↓ev,aW,aQ,dr,hi,gu,hl,oG,oS,rL,jG,jF,hc,kI];rfl
theorem Zo(h:uQ F F' F1 cb rr later carts o1 hand r a4 a5)(hc:o1.contains hand=false)(hlen:o1.length<=1000){n:Int}(hn:((dS (o1.filter λo=>later.contains o)).length:Int)=n)(hz:(n == 0)=false):uw 0 [.c 0,.d (.lst (dS later)),.d (.lst (dS carts))] ⟨[fC F,cb],rr⟩=some (.ok (.o (.lst (dS o1))) ⟨[fC F1,cb],rr⟩):=by
 obtain⟨dr,hi,hl,rL⟩:=h;have e:=λq S=>Nl q S o1 later hlen
 unfold uw Fo;simp only[↓ev,aW,aQ,dr,hi,gu,hl,oG,oS,rL,jG,jF,hc,nv,e,hn,jI,hz];rfl
theorem Wv(h:uQ F F' F1 cb rr later carts o1 hand r a4 a5)(hc:o1.contains hand=false)(hlen:o1.length<=1000)(hn:((dS (o1.filter λo=>later.contains o)).length:Int)=0)(el:((dS o1).length:Int)=ol)(hd:Dr F1 (ol+1) v F2)
  (p0:(0<=v)=True) (p1:(v<2^62)=True) (p2:((dS o1).length<1000000)=True) (h2:(dS o1).take v.toNat++.str hand::(dS o1).drop v.toNat=dS outs):uw 0 [.c 0,.d (.lst (dS later)),.d (.lst (dS carts))] ⟨[fC F,cb],rr⟩=some (.ok (.o (.lst (dS outs))) ⟨[fC F2,cb],rr⟩):=by
 obtain⟨dr,hi,hl,rL⟩:=h;have e:=λq S=>Nl q S o1 later hlen
 unfold uw Fo;simp only[↓ev,aW,aQ,dr,hi,gu,hl,oG,oS,rL,jG,jF,hc,nv,e,hn,jI,jD,el,hd,p0,p1,p2,and_self,h2];rfl
theorem e2z(h:Fd st F)(hl:later.length<=50)(hh:carts.head?=some hand)(hc:carts.length<=50):
  ∃outs F',Fd st F'/\yf later carts hand outs/\uw 0 [.c 0,.d (.lst (dS later)),.d (.lst (dS carts))] ⟨[fC F,cb],rr⟩=some (.ok (.o (.lst (dS outs))) ⟨[fC F',cb],rr⟩):=by
 have hc0:0<carts.length:=by cases carts with|nil=>cases hh|cons a b=>simp
 obtain⟨r,F',r0,r1,h',dr⟩:=kK h (m:=3) (by decide) (by decide)
 have sl:0<(later++carts).length:=by rw[cB];lia
 have G7:(later++carts).length<=100:=by rw[cB];lia
 obtain⟨U',S',e1,⟨o1,F1,a4,a5,h1,nd,sb,ol,one,rfl,rfl⟩⟩:=jy (gg:=ae 4) (body:=wb 0) (f:=λ(i:Nat)=>D.int (i:Int)) (U:=oG later carts none none) (S:=oS F' cb [] rr)
  (λpre U S=>∃o1 F1 a4 a5,Fd st F1/\o1.Nodup/\(∀o∈o1,o∈later++carts)/\o1.length<=pre.length/\(pre≠[]->o1≠[])/\U=oG later carts a4 a5/\S=oS F1 cb o1 rr) (List.range (1+r).toNat)
  ⟨[],F',none,none,h',Eu,λo m=>(by cases m),bG _,λz=>bT rfl z,rfl,rfl⟩ (by
   rintro d i rest eq U S ⟨o1,F1,a4,a5,h1,nd,sb,ol,_,rfl,rfl⟩;obtain⟨hq,hi⟩:=Fq eq;obtain⟨o2,y,F2,h2,n2,s2,l2,ne2,e2⟩:=Zm (cb:=cb) (rr:=rr) (j:=.int i) (a5:=a5) h1 sl G7 nd sb (by lia)
   exact⟨_,_,_,rfl,.inl e2,o2,F2,_,_,h2,n2,s2,by rw[cB,ud];lia,λ_=>ne2,rfl,rfl⟩)
 rw[<-t6] at e1;rw[uK] at ol;have one:o1≠[]:=one (by intro z;have:=congrArg List.length z;simp at this;lia)
 have rL:cY (dS carts) 0=some (.str hand):=by
  cases carts with
  |nil=>cases hh
  |cons a b=>cases hh;exact sE (xs:=D.str hand::b.map D.str) (j:=0) rfl
 have hm:hand∈later++carts:=pk _ (List.mem_of_mem_head? hh);have H:uQ F F' F1 cb rr later carts o1 hand r a4 a5:=⟨dr,Em (by lia),e1,rL⟩
 cases C_:o1.contains hand with
 |true=>exact⟨o1,F1,h1,⟨nd,sb,one,.inl (by simpa using C_),by lia⟩,Zn H C_⟩
 |false=>
  by_cases hf:(o1.filter λo=>later.contains o).length=0
  .obtain⟨w,F2,w0,w1,h2,d2⟩:=kK h1 (m:=(o1.length:Int)+1) (by lia) (by lia)
   have hy:hand∉o1:=by simpa using C_
   refine⟨_,F2,h2,⟨Pq (k:=w.toNat) nd hy,λo ho=>?_,λz=>?_,.inl (kE.mpr (.inl rfl)),by rw[Fl];lia⟩,Wv H C_ (by lia) (by rw[aY,hf];rfl) (by rw[aY]) d2 (bH w0) (bH (by lia)) (bH (by rw[aY];lia)) (Pp _ _ _)⟩
   .rcases kE.mp ho with z|z
    .rw[z];exact hm
    .exact sb o z
   .have:=Fl o1 w.toNat hand;rw[z] at this;simp at this
  .refine⟨o1,F1,h1,⟨nd,sb,one,.inr ?_,by lia⟩,Zo H C_ (by lia) rfl (by rw[aY];simp only[nc];lia)⟩
   simp_all
end
def ar(b:ak):D:=.tup [.str b.name,.int b.long,.bl b.ring,.lst (dS b.outs)]
def aw(h:aB):D:=.tup [.lst (h.af.map ar),.lst (dS h.carts)]
noncomputable abbrev mU(S:aO)(xs:List D):aO:=⟨S.s++[.o (.lst xs)],S.r⟩
variable{ks:List Str}
noncomputable def findB(bs:List ak)(n:Str):aj ak:=bs.find? λb=>b.name == n
structure sx (h:aB):Prop where
 bl:h.af.length<=100
 ct:h.carts.length<=100
 ou:(h.af.map λx=>x.outs.length).sum<=900
def my(carts:List Str):List ak->Prop
 |[]=>True
 |b::bs=>(∀o∈b.outs,o∈bs.map ak.name\/o∈carts)/\b.name∉bs.map ak.name/\b.name∉carts/\my carts bs
theorem Ce{carts:List Str}:∀{bs:List ak},my carts bs->∀x∈bs,∀y∈bs,x.name=y.name->x=y
 |z::bs,f,x,hx,y,hy,e=>by
  rcases y07.mp hx with uE|uE
  .rcases y07.mp hy with zx|zx
   .rw[uE,zx]
   .exact bT (kS (f:=ak.name) zx) (by rw[<-e,uE];exact f.2.1)
  .rcases y07.mp hy with zx|zx
   .exact bT (kS (f:=ak.name) uE) (by rw[e,zx];exact f.2.1)
   .exact Ce f.2.2.2 x uE y zx e
theorem Fb{carts:List Str}:∀{bs:List ak},my carts bs->∀c∈carts,c∉bs.map ak.name
 |[],_,c,_,h=>by cases h
 |b::bs,f,c,hc,h=>by
  rcases y07.mp h with z|z
  .exact f.2.2.1 (by rw[<-z];exact hc)
  .exact Fb f.2.2.2 c hc z
theorem AG{carts:List Str}:∀{xs ys:List ak},my carts (xs++ys)->my carts ys
 |[],_,f=>f
 |_::xs,ys,f=>AG (xs:=xs) f.2.2.2
abbrev lu(x:Str):Prop:=Pr p9 [.d (.str x)] (rd (.bl true))
structure aG (h:aB):Prop where
 fwd:my h.carts h.af
 sm:sx h
 nm:∀b∈h.af,lu b.name
 cm:∀c∈h.carts,lu c
 lg:∀b∈h.af,1<=b.long/\(b.ring=true->2<=b.long)
 hd:∀b∈h.af,h.carts.getD 0 ""∈b.outs\/∃o∈b.outs,o∈h.af.map ak.name
 cn:h.carts.Nodup
 c0:0<h.carts.length
 nd:∀b∈h.af,b.outs.Nodup
theorem yE(bs:List ak)(h:bs.length<=1000000):Pr uo [.d (.lst (bs.map ar))] (.o (.lst (dS (bs.map ak.name)))):=by
 have e:∀q S,bx (ae 0) (iD true) (MA q) (bs.map ar) [none] S []=some (.ok (dS (bs.map ak.name)) S):=λq S=>by
  rw[vb (λb=>D.str (ak.name b)) bs h λb m=>⟨rd (.str b.name),by
   rfl,rfl⟩,dS,eU]
  rfl
 intro q S;unfold uo ML;simp only[↓ev,e,o_]
def pS(ks:List Str):List (TK×D):=ks.map λk=>(TK.inr k,.bl true)
noncomputable def fR(ks:List Str)(k:Str):List Str:=if ks.contains k then ks else ks++[k]
theorem yJ(x:Str):∀ks:List Str,(aR (pS ks) (.inr x)).isSome=ks.contains x
 |[]=>rfl
 |k::ks=>by
  have ih:=yJ x ks;unfold aR pS at *;rw[bY,oX,Mm];by_cases e:k=x
  .rw[qF (by rw[e]),e,jD]
   rfl
  .rw[rS (λz=>e (TK.inr.inj z)),show(x == k)=false by rw[nc];exact λz=>e z.symm]
   rw[Bool.false_or];exact ih
theorem F_(k:Str):∀ks:List Str,bK (pS ks) (.inr k) (.bl true)=pS (fR ks k)
 |[]=>rfl
 |j::ks=>by
  have ih:=F_ k ks;show(if(TK.inr j)=TK.inr k then(TK.inr j,D.bl true)::pS ks else(TK.inr j,D.bl true)::bK (pS ks) (.inr k) (.bl true))=_
  unfold fR at *;rw[Mm];by_cases e:j=k
  .rw[aN (by rw[e]),e,jD,Mn,aN rfl];rfl
  .rw[aJ (λz=>e (TK.inr.inj z)),ih,show(k == j)=false by rw[nc];exact λz=>e z.symm,Bool.false_or]
   cases ks.contains k with
   |true=>rw[aN rfl,aN rfl];rfl
   |false=>rw[aJ oW,aJ oW];rfl
theorem Jv(ks:List Str):(pS ks).length=ks.length:=by unfold pS;rw[aY]
theorem OC(ks:List Str)(k:Str):(fR ks k).length<=ks.length+1:=by
 unfold fR;split
 .lia
 .rw[cB,ud];exact bG _
theorem oJ{k n:Str}:n∈fR ks k↔n=k\/n∈ks:=by
 unfold fR;split
 .rename_i h
  rw[gP] at h;constructor
  .exact .inr
  .rintro(rfl|h')
   .exact h
   .exact h'
 .rw[e_,kR];exact Or.comm
theorem e3a{x:Str}{S:aO}{n:Nat}(hs:S.s[n]?=some (.o (.az (pS ks))))(hn:lu x)(hx:ks.contains x=false)(hl:(ks.length<1000000)=True):Az 0 [.d (.str x),.c n] S=some (.ok (rd .aF) ⟨S.s.set n (.o (.az (pS (fR ks x)))),S.r⟩):=by
 unfold Az MX;simp only[↓ev,hn,aQ,hs,yJ,hx,Jv,hl,F_,PZ]
variable{S:aO}{n:Nat}{ks carts:List Str}
noncomputable abbrev tk(S:aO)(n:Nat)(ks:List Str):aO:=⟨S.s.set n (.o (.az (pS ks))),S.r⟩
theorem take1{x:Str}(hn:n<S.s.length)(hx:lu x)(h:x∉ks)(hl:ks.length<1000):Az 0 [.d (.str x),.c n] (tk S n ks)=some (.ok (rd .aF) (tk S n (ks++[x]))):=by
 have hc:ks.contains x=false:=by simpa using h
 rw[e3a (S:=tk S n ks) (n:=n) (vZ hn) hx hc (bH (by lia))]
 grind [fR,List.set_set]
theorem T8{d0 a:aj Val}(hn:n<S.s.length)(nm:∀c∈carts,lu c)(nd:(ks++carts).Nodup)(hl:ks.length+carts.length<1000):
  ∃a',aA (ae 2) (EM 0) (dS carts) [d0,some (.c n),a] (tk S n ks)=some (.nx [d0,some (.c n),a'] (tk S n (ks++carts))):=by
 obtain⟨U',S',e,a',rfl,rfl⟩:=jy (gg:=ae 2) (body:=EM 0) (f:=D.str) (U:=[d0,some (.c n),a]) (S:=tk S n ks) (λpre U S'=>∃a',U=[d0,some (.c n),a']/\S'=tk S n (ks++pre)) carts ⟨a,rfl,by rw[l9]⟩ (by
  rintro d x r eq U S' ⟨a',rfl,rfl⟩;have h1:x∉ks++d:=by
   rw[eq,<-nt] at nd;exact λm=>(iI.mp nd).2.2 x m x (rq ..) rfl
  have h2:=congrArg List.length eq;rw[cB,jr] at h2;have h:=take1 hn (nm x (by rw[eq];simp)) h1 (by rw[cB];lia)
  refine⟨[d0,some (.c n),some (.d (.str x))],[d0,some (.c n),some (.d (.str x))],_,rfl,.inl ?_,_,rfl,rfl⟩;rw[<-nt];unfold EM;simp only[↓ev,h,Cj])
 exact⟨a',e⟩
theorem Zp(hn:n<S.s.length)(nm:∀c∈carts,lu c)(nd:(ks++carts).Nodup)(hl:ks.length+carts.length<1000)(h0:carts≠[]):ES 0 [.d (.lst (dS carts)),.c n] (tk S n ks)=some (.ok (rd .aF) (tk S n (ks++carts))):=by
 obtain⟨a',e⟩:=T8 (d0:=some (.d (.lst (dS carts)))) (a:=none) hn nm nd hl;have z:(dS carts).isEmpty=false:=by cases carts with|nil=>exact bT rfl h0|cons _ _=>rfl
 have lc:∀xp,(tk S n xp).cut (tk S n ks).s.length=tk S n xp:=λxp=>by unfold aO.cut;simp only[nq];rw[xV (by rw[nq];exact bG _)]
 unfold ES MF;simp only[↓ev,gu,e,z,nv,aQ,lc]
variable{S:aO}{n:Nat}{ks:List Str}
theorem e3b{c:Cell}{xp:List Str}:(tk S n xp).cut (S.s.set n c).length=tk S n xp:=by
 unfold aO.cut;simp only[nq];rw[xV (by rw[nq];exact bG _)]
theorem T9{bs:List ak}{d0 a2 a3 a4 a5 a6:aj Val}(hn:n<S.s.length)(nm:∀b∈bs,lu b.name)(lg:∀b∈bs,1<=b.long/\(b.ring=true->2<=b.long))(nd:(ks++bs.map ak.name).Nodup)(hl:ks.length+bs.length<1000):
  ∃b2 b3 b4 b5 b6,aA (aM [(ae 2),(ae 3),(ae 4),(ae 5)]) (EN 0) (bs.map ar) [d0,some (.c n),a2,a3,a4,a5,a6] (tk S n ks)=some (.nx [d0,some (.c n),b2,b3,b4,b5,b6] (tk S n (ks++bs.map ak.name))):=by
 obtain⟨U',S',e,b2,b3,b4,b5,b6,rfl,rfl⟩:=jy (gg:=aM [(ae 2),(ae 3),(ae 4),(ae 5)]) (body:=EN 0) (f:=ar) (U:=[d0,some (.c n),a2,a3,a4,a5,a6]) (S:=tk S n ks) (λpre U S'=>∃b2 b3 b4 b5 b6,U=[d0,some (.c n),b2,b3,b4,b5,b6]/\S'=tk S n (ks++pre.map ak.name)) bs ⟨a2,a3,a4,a5,a6,rfl,by rw[Bs,l9]⟩ (by
  rintro d x r eq U S' ⟨b2,b3,b4,b5,b6,rfl,rfl⟩;have h1:x.name∉ks++d.map ak.name:=by
   rw[eq,dq,bY,<-nt] at nd;exact λm=>(iI.mp nd).2.2 _ m _ (rq ..) rfl
  have h2:=congrArg List.length eq;rw[cB,jr] at h2;have mx:x∈bs:=by rw[eq];simp
  have h:=take1 hn (nm x mx) h1 (by rw[cB,aY];lia)
  obtain⟨l1,l2⟩:=lg x mx;have e1:∀b,aM [(ae 2),(ae 3),(ae 4),(ae 5)] (ar x) [d0,some (.c n),b2,b3,b4,b5,b]=some [d0,some (.c n),some (.d (.str x.name)),some (.d (.int x.long)),some (.d (.bl x.ring)),some (.d (.lst (dS x.outs))),b]:=λ_=>rfl
  refine⟨_,[d0,some (.c n),some (.d (.str x.name)),some (.d (.int x.long)),some (.d (.bl x.ring)),some (.d (.lst (dS x.outs))),some (.d (.int (if x.ring=true then 2 else 1)))],_,e1 _,.inl ?_,_,_,_,_,_,rfl,rfl⟩
  rw[dq,bY,Bs,<-nt];unfold EN;cases hr:x.ring with
  |true=>
   have z:(x.long<2)=False:=eq_false (by have:=l2 hr;lia)
   simp only[↓ev,h,Cj,aW,z,decide_false,aQ]
  |false=>
   have z:(x.long<1)=False:=eq_false (by lia)
   simp only[↓ev,h,Cj,aQ,aW,z,decide_false])
 exact⟨b2,b3,b4,b5,b6,e⟩
theorem Zq{bs:List ak}(hn:n<S.s.length)(nm:∀b∈bs,lu b.name)(lg:∀b∈bs,1<=b.long/\(b.ring=true->2<=b.long))(nd:(ks++bs.map ak.name).Nodup)(hl:ks.length+bs.length<1000):ET 0 [.d (.lst (bs.map ar)),.c n] (tk S n ks)=some (.ok (rd .aF) (tk S n (ks++bs.map ak.name))):=by
 obtain⟨b2,b3,b4,b5,b6,e⟩:=T9 (d0:=some (.d (.lst (bs.map ar)))) (a2:=none) (a3:=none) (a4:=none) (a5:=none) (a6:=none) hn nm lg nd hl;unfold ET MG;simp only[↓ev,gu,e,e3b]
variable{ks:List Str}
noncomputable abbrev gH(S:aO)(ks:List Str):aO:=⟨S.s++[.o (.az (pS ks))],S.r⟩
def bA(b:Str)(ks:List Str)(x:ak):List Str:=if(x.name == b || ks.contains x.name)=true then x.outs.foldl fR ks else ks
theorem OD(outs:List Str):∀ks:List Str,(outs.foldl fR ks).length<=ks.length+outs.length:=by
 induction outs with
 |nil=>intro ks;exact bG _
 |cons o outs ih=>
  grind [OC]
section
variable{S:aO}{g0 g1 g3 g4 g5 g6 a:aj Val}
theorem Lk{o:Str}(hl:(ks.length<1000000)=True):BV 0 [g0,g1,some (.c S.s.length),g3,g4,g5,g6,some (.d (.str o))] (gH S ks)=some (.nx [g0,g1,some (.c S.s.length),g3,g4,g5,g6,some (.d (.str o))] (gH S (fR ks o))):=by
 unfold BV;simp only[↓ev,bQ,Jv,hl,F_,qy]
theorem Ww(outs ks:List Str)(h:ks.length+outs.length<1000000):∃a',aA (ae 7) (BV 0) (dS outs) [g0,g1,some (.c S.s.length),g3,g4,g5,g6,a] (gH S ks)=some (.nx [g0,g1,some (.c S.s.length),g3,g4,g5,g6,a'] (gH S (outs.foldl fR ks))):=by
 obtain⟨U',S',e,a',rfl,rfl⟩:=jy (gg:=ae 7) (body:=BV 0) (f:=D.str) (U:=[g0,g1,some (.c S.s.length),g3,g4,g5,g6,a]) (S:=gH S ks) (λpre U S'=>∃a',U=[g0,g1,some (.c S.s.length),g3,g4,g5,g6,a']/\S'=gH S (pre.foldl fR ks)) outs ⟨a,rfl,rfl⟩ (by
  rintro d x r eq U S' ⟨a',rfl,rfl⟩;have h2:=congrArg List.length eq;rw[cB,jr] at h2;have:=OD d ks;refine⟨_,_,_,rfl,.inl (Lk (bH (by lia))),_,rfl,by rw[Ho];rfl⟩)
 exact⟨a',e⟩
theorem T_(b:Str)(bs:List ak)(ks:List Str)(a3 a4 a5 a6 a7:aj Val)(h:ks.length+(bs.map λx=>x.outs.length).sum<1000000):∃b3 b4 b5 b6 b7,aA (aM [(ae 3),(ae 4),(ae 5),(ae 6)]) (AA 0) (bs.map ar) [g0,some (.d (.str b)),some (.c S.s.length),a3,a4,a5,a6,a7] (gH S ks)=some (.nx [g0,some (.d (.str b)),some (.c S.s.length),b3,b4,b5,b6,b7] (gH S (bs.foldl (bA b) ks))):=by
 obtain⟨U',S',e,b3,b4,b5,b6,b7,rfl,rfl,_⟩:=jy (gg:=aM [(ae 3),(ae 4),(ae 5),(ae 6)]) (body:=AA 0) (f:=ar) (U:=[g0,some (.d (.str b)),some (.c S.s.length),a3,a4,a5,a6,a7]) (S:=gH S ks) (λpre U S'=>∃b3 b4 b5 b6 b7,U=[g0,some (.d (.str b)),some (.c S.s.length),b3,b4,b5,b6,b7]/\S'=gH S (pre.foldl (bA b) ks)/\(pre.foldl (bA b) ks).length<=ks.length+(pre.map λx=>x.outs.length).sum) bs ⟨a3,a4,a5,a6,a7,rfl,rfl,Hj _ _⟩ (by
  rintro d x r eq U S' ⟨b3,b4,b5,b6,b7,rfl,rfl,hl⟩;rw[eq,dq,bY,List.sum_append,List.sum_cons] at h;have hf:=OD x.outs (d.foldl (bA b) ks);have e1:aM [(ae 3),(ae 4),(ae 5),(ae 6)] (ar x) [g0,some (.d (.str b)),some (.c S.s.length),b3,b4,b5,b6,b7]=some [g0,some (.d (.str b)),some (.c S.s.length),some (.d (.str x.name)),some (.d (.int x.long)),some (.d (.bl x.ring)),some (.d (.lst (dS x.outs))),b7]:=rfl;rw[Ho,dq,List.sum_append];show ∃U1 U' S',_/\_/\∃b3 b4 b5 b6 b7,U'=_/\S'=gH S (bA b (d.foldl (bA b) ks) x)/\(bA b (d.foldl (bA b) ks) x).length<=_+(_+(x.outs.length+0));obtain⟨a',e2⟩:=Ww (S:=S) (g0:=g0) (g1:=some (.d (.str b))) (g3:=some (.d (.str x.name))) (g4:=some (.d (.int x.long))) (g5:=some (.d (.bl x.ring))) (g6:=some (.d (.lst (dS x.outs)))) (a:=b7) x.outs (d.foldl (bA b) ks) (by lia)
  generalize d.foldl (bA b) ks=ks1 at *;unfold bA;cases c1:x.name == b with
  |true=>
   refine⟨_,_,_,e1,.inl (by unfold AA;simp only[↓ev,aQ,qU,c1,gu,e2] <;> rfl),_,_,_,_,_,rfl,?_,?_⟩
   .rw[Mn,aN rfl]
   .rw[Mn,aN rfl];lia
  |false=>
   cases c2:ks1.contains x.name with
   |true=>
    refine⟨_,_,_,e1,.inl (by unfold AA;simp only[↓ev,aQ,qU,c1,bQ,yJ,c2,gu,e2] <;> rfl),_,_,_,_,_,rfl,?_,?_⟩
    .rw[Hu,aN rfl]
    .rw[Hu,aN rfl];lia
   |false=>
    refine⟨_,_,_,e1,.inl (by unfold AA;simp only[↓ev,aQ,qU,c1,bQ,yJ,c2] <;> rfl),_,_,_,_,_,rfl,?_,?_⟩
    .rw[Hm,aJ oW]
    .rw[Hm,aJ oW];lia)
 exact⟨b3,b4,b5,b6,b7,e⟩
theorem S_(q:Nat)(xs:List Str)(h:xs.length<=1000000):bx (ae 0) (H0 q) (H9 q) (dS xs) [none,some (.c S.s.length)] (gH S ks) []=some (.ok (dS (xs.filter λo=>ks.contains o)) (gH S ks)):=by
 rw[dS,wB (λo=>if ks.contains o=true then some (.str o) else none) xs (by lia) λo m=>by
  unfold H0 H9;cases hc:ks.contains o with
  |true=>exact .inr ⟨rd (.str o),.str o,rfl,by simp only[↓ev,bQ,aQ,yJ,hc],by simp only[↓ev],rfl⟩
  |false=>exact .inl ⟨rfl,by simp only[↓ev,bQ,aQ,yJ,hc]⟩]
 congr 2
 induction xs with
 |nil=>rfl
 |cons o r ih=>
  grind
theorem NV{h:aB}(sm:sx h)(b:Str):P0 AI [.d (aw h),.d (.str b)] (.o (.lst (dS ((h.af.map ak.name++h.carts).filter λx=>(h.af.foldl (bA b) []).contains x)))):=by
 intro S;have h1:=sm.bl;have h2:=sm.ct;have h3:=sm.ou;obtain⟨b3,b4,b5,b6,b7,e⟩:=T_ (S:=S) (g0:=some (.d (aw h))) b h.af [] none none none none none (by rw[Af];lia)
 have hn:=yE h.af (by lia)
 have hc:=λq=>S_ (S:=S) (ks:=h.af.foldl (bA b) []) q (h.af.map ak.name++h.carts) (by rw[cB,aY];lia)
 have ap:dS (h.af.map ak.name)++dS h.carts=dS (h.af.map ak.name++h.carts):=dq.symm;have le:((dS (h.af.map ak.name)).length+(dS h.carts).length<=1000000)=True:=bH (by rw[aY,aY,aY];lia)
 have hD:aw h=.tup [.lst (h.af.map ar),.lst (dS h.carts)]:=rfl;rw[show gH S []=⟨S.s++[.o (.az [])],S.r⟩ from rfl] at e;rw[hD] at e ⊢;unfold AI NQ;simp only[↓ev,aW,cx,gu,e,gH,hn,cL,le,ap,hc,A7]
end
variable{outs:List Str}{b n:Str}{h:aB}
def QA(bs:List ak)(b:Str):List Str:=bs.foldl (bA b) []
inductive RR (bs:List ak) (outs:List Str):Str->Prop
 |base {n:Str}:n∈outs->RR bs outs n
 |step {m n:Str} {b:ak}:RR bs outs m->b∈bs->b.name=m->n∈b.outs->RR bs outs n
theorem iH:∀{ks:List Str} {n:Str},n∈outs.foldl fR ks↔n∈outs\/n∈ks:=by
 induction outs with
 |nil=>intro ks n;simp
 |cons o outs ih=>
  intro ks n;rw[Bw,ih,oJ,y07];constructor
  .rintro(h|h|h)
   .exact .inl (.inr h)
   .exact .inl (.inl h)
   .exact .inr h
  .rintro((h|h)|h)
   .exact .inr (.inl h)
   .exact .inl h
   .exact .inr (.inr h)
theorem Vg{ks:List Str}{x:ak}(h:n∈ks):n∈bA b ks x:=by
 unfold bA;split
 .exact iH.mpr (.inr h)
 .exact h
theorem Vh{bs:List ak}:∀{ks:List Str} {n:Str},n∈ks->n∈bs.foldl (bA b) ks:=by
 induction bs with
 |nil=>intro ks n h;exact h
 |cons x bs ih=>intro ks n h;exact ih (Vg h)
theorem NW{carts:List Str}{b:Str}:∀{bs:List ak} {ks:List Str} {n:Str},my carts bs->n∈bs.foldl (bA b) ks->n∈ks\/n∈bs.tail.map ak.name\/n∈carts
 |[],ks,n,_,h=>.inl h
 |x::bs,ks,n,f,h=>by
  rcases NW f.2.2.2 h with z|z|z
  .unfold bA at z;split at z
   .rcases iH.mp z with z|z
    .rcases f.1 n z with z|z
     .exact .inr (.inl z)
     .exact .inr (.inr z)
    .exact .inl z
   .exact .inl z
  .refine .inr (.inl ?_);cases bs with
   |nil=>exact z
   |cons y bs=>exact pZ _ z
  .exact .inr (.inr z)
theorem HX{carts:List Str}{b:Str}:∀{bs:List ak} {ks:List Str},my carts bs->∀x∈bs,(x.name=b\/x.name∈bs.foldl (bA b) ks)->∀o∈x.outs,o∈bs.foldl (bA b) ks
 |y::bs,ks,f,x,hx,hn,o,ho=>by
  rcases y07.mp hx with rfl|hx
  .have h1:(x.name == b || ks.contains x.name)=true:=by
    rcases hn with hn|hn
    .rw[hn,jD,Mn]
    .rcases NW (b:=b) f hn with z|z|z
     .rw[gP.mpr z,Hu]
     .exact bT z f.2.1
     .exact bT z f.2.2.1
   show o∈bs.foldl (bA b) (bA b ks x);refine Vh ?_;unfold bA;rw[aN h1];exact iH.mpr (.inl ho)
  .exact HX (ks:=bA b ks y) f.2.2.2 x hx hn o ho
theorem OE{CM:List ak}{b:ak}(hb:b∈CM)(hu:∀x∈CM,x.name=b.name->x=b):∀{bs:List ak} {ks:List Str},(∀x∈bs,x∈CM)->(∀n∈ks,RR CM b.outs n)->∀n∈bs.foldl (bA b.name) ks,RR CM b.outs n
 |[],ks,_,h,n,hn=>h n hn
 |x::bs,ks,hs,h,n,hn=>OE hb hu (λy hy=>hs y (pZ _ hy)) (λm hm=>by
   unfold bA at hm;split at hm
   .rename_i hc
    rcases iH.mp hm with z|z
    .rw[Bool.or_eq_true,beq_iff_eq,gP] at hc;rcases hc with hc|hc
     .rw[hu x (hs x rq) hc] at z;exact .base z
     .exact .step (h _ hc) (hs x rq) rfl z
    .exact h m z
   .exact h m hm) n hn
theorem Vi(f:my h.carts h.af){b:ak}(hb:b∈h.af)(n:Str):n∈QA h.af b.name↔RR h.af b.outs n:=by
 unfold QA;constructor
 .exact OE hb (λx hx e=>Ce f x hx b hb e) (λ_ m=>m) (λ_ m=>by cases m) n
 .intro r
  induction r with
  |base m=>exact HX f b hb (.inl rfl) _ m
  |step r hx hn hm ih=>exact HX f _ hx (.inr (by rw[hn];exact ih)) _ hm
theorem Wx{bs:List ak}{w:ak}(hw:w∈bs)(r:RR bs outs w.name)(r2:RR bs w.outs n):RR bs outs n:=by
 induction r2 with
 |base m=>exact .step r hw rfl m
 |step _ hb hn hm ih=>exact .step ih hb hn hm
theorem Jh{h:aB}(g:aG h):∀{bs pre:List ak},h.af=pre++bs->∀b∈bs,RR h.af b.outs (h.carts.getD 0 "")
 |x::bs,pre,eq,b,hb=>by
  have A8:h.af=(pre++[x])++bs:=by rw[eq];simp
  rcases y07.mp hb with rfl|hb
  .have GC:b∈h.af:=by rw[eq];simp
   have fx:my h.carts (b::bs):=AG (by rw[<-eq];exact g.fwd)
   rcases g.hd b GC with z|⟨o,z1,z2⟩
   .exact .base z
   .rcases fx.1 o z1 with y|y
    .obtain⟨w,hw,ew⟩:=cX.mp y;exact Wx (w:=w) (by rw[A8];simp[hw]) (by rw[ew];exact .base z1) (Jh g A8 w hw)
    .exact bT z2 (Fb g.fwd o y)
  .exact Jh g A8 b hb
theorem Cr(g:aG h):h.carts.getD 0 ""∈h.carts/\cY (dS h.carts) 0=some (.str (h.carts.getD 0 "")):=by
 have:=g.c0;cases GF:h.carts with
 |nil=>rw[GF] at this;simp at this
 |cons c cs=>exact⟨by simp,sE (j:=0) rfl⟩
theorem e3c(g:aG h):P0 EX [.d (aw h)] (rd .aF):=by
 intro S;have bl:=g.sm.bl;obtain⟨hc,i0⟩:=Cr g;have e1:=yE h.af (by lia)
 obtain⟨U',S',e,a,rfl,rfl⟩:=jy (gg:=ae 2) (body:=HP 0) (f:=D.str) (U:=[some (.d (aw h)),some (.d (.str (h.carts.getD 0 ""))),none]) (S:=S) (λ_ U S'=>∃a,U=[some (.d (aw h)),some (.d (.str (h.carts.getD 0 ""))),a]/\S'=S) (h.af.map ak.name) ⟨_,rfl,rfl⟩ (by
  rintro d x r eq U S' ⟨a,rfl,rfl⟩;obtain⟨b,hb,rfl⟩:∃b∈h.af,b.name=x:=cX.mp (by rw[eq];simp)
  have e1:=NV g.sm b.name;have hm:((h.af.map ak.name++h.carts).filter λx=>(h.af.foldl (bA b.name) []).contains x).contains (h.carts.getD 0 "")=true:=by
   rw[gP,qC];exact⟨pk _ hc,gP.mpr ((Vi g.fwd hb _).mpr (Jh g (pre:=[]) rfl b hb))⟩
  refine⟨[some (.d (aw h)),some (.d (.str (h.carts.getD 0 ""))),some (.d (.str b.name))],_,_,rfl,.inl ?_,some (.d (.str b.name)),rfl,rfl⟩;unfold HP;generalize((h.af.map ak.name++h.carts).filter λx=>(h.af.foldl (bA b.name) []).contains x)=l at *
  generalize h.carts.getD 0 ""=hand at *;simp only[↓ev,e1,jG,jF,hm,kI,aQ])
 have hD:aw h=.tup [.lst (h.af.map ar),.lst (dS h.carts)]:=rfl;generalize h.carts.getD 0 ""=hand at *;rw[hD] at e ⊢;unfold EX MO;simp only[↓ev,cL,i0,aW,cx,e1,gu,e,o_]
theorem MR{x z:Str}:∀{ys:List Str} {j:Nat},ys[j]?=some z->x∈ys->x≠z->x∈ys.eraseIdx j
 |y::ys,0,e,hx,fH=>by
  simp_all
 |y::ys,j+1,e,hx,fH=>by
  rw[List.getElem?_cons_succ] at e;show x∈y::ys.eraseIdx j;rcases y07.mp hx with rfl|hx
  .exact .head _
  .exact .tail _ (MR e hx fH)
 |[],_,_,hx,_=>by cases hx
theorem Fc{z:Str}{ys:List Str}(h:z∈ys):∃j,findS ys z=some j:=by
 cases q:findS ys z with
 |some j=>exact⟨j,rfl⟩
 |none=>
  unfold findS at q;rw[List.findIdx?_eq_none_iff] at q;have:=q z h;simp at this
theorem Wy(L:List Str)(j:Nat):(dS L).eraseIdx j=dS (L.eraseIdx j):=by
 grind [List.eraseIdx_eq_take_drop_succ,List.map_take,List.map_drop]
section
variable{S:aO}{s0 s1 s2 s3 s4 s5 a7:aj Val}
theorem Lq{L:List Str}{x:Str}{j:Nat}(hc:L.contains x=true)(hj:findS L x=some j):BP 0 [s0,s1,s2,s3,s4,s5,some (.c S.s.length),some (.d (.str x))] (mU S (dS L))=some (.nx [s0,s1,s2,s3,s4,s5,some (.c S.s.length),some (.d (.str x))] (mU S (dS (L.eraseIdx j)))):=by
 have h:=NM L;unfold BP;simp only[↓ev,mU,bQ,jG,jF,hc,kI,aQ,h,hj,Wy,qy]
theorem Zr(outs L:List Str)(nd:outs.Nodup)(hs:∀o∈outs,o∈L):∃L' b7,aA (ae 7) (BP 0) (dS outs) [s0,s1,s2,s3,s4,s5,some (.c S.s.length),a7] (mU S (dS L))=some (.nx [s0,s1,s2,s3,s4,s5,some (.c S.s.length),b7] (mU S (dS L'))):=by
 obtain⟨U',S',e,L',b7,rfl,rfl,_⟩:=jy (gg:=ae 7) (body:=BP 0) (f:=D.str) (U:=[s0,s1,s2,s3,s4,s5,some (.c S.s.length),a7]) (S:=mU S (dS L)) (λpre U S'=>∃L' b7,U=[s0,s1,s2,s3,s4,s5,some (.c S.s.length),b7]/\S'=mU S (dS L')/\∀o∈outs,o∉pre->o∈L') outs ⟨L,a7,rfl,rfl,λo ho _=>hs o ho⟩ (by
  rintro q x post eq U S' ⟨L',b7,rfl,rfl,hL⟩;have hxq:x∉q:=λz=>by
   rw[eq] at nd;exact(iI.mp nd).2.2 x z x (.head _) rfl
  have hx:x∈L':=hL x (by rw[eq];simp) hxq
  obtain⟨j,hj⟩:=Fc hx;refine⟨_,_,_,rfl,.inl (Lq (gP.mpr hx) hj),L'.eraseIdx j,some (.d (.str x)),rfl,rfl,λo ho hq=>?_⟩
  simp only[e_,kR,not_or] at hq;exact MR (B1 hj).1 (hL o ho hq.1) hq.2)
 exact⟨L',b7,e⟩
end
theorem Wz(q:List ak)(x:ak)(post:List ak)(i:Int)(hi:i=(q.length:Nat)):cutD ((q++x::post).map ar) (some (i+1)) none=post.map ar:=by
 unfold cutD;have e4:HT.cy ((q++x::post).map ar).length 0 (some (i+1))=q.length+1:=by
  grind [HT.cy]
 have e5:HT.cy ((q++x::post).map ar).length ((q++x::post).map ar).length none=((q++x::post).map ar).length:=rfl;have e6:((q++x::post).map ar).drop (q.length+1)=post.map ar:=by
  rw[<-Hs,show q++x::post=(q++[x])++post by simp,List.drop_left' (by simp)]
 grind
section
variable{S:aO}{h:aB}
theorem WA{d0:List D}{cs:List Str}{i:Int}{x:ak}{post:List ak}{a4 a5 a6 a7:aj Val}(hs:cutD d0 (some (i+1)) none=post.map ar)(hp:post.length<=1000)(hc:cs.length<=1000)(nd:x.outs.Nodup)(sb:∀o∈x.outs,o∈post.map ak.name++cs)(ne:x.outs≠[]):
  ∃L' b7,ER 0 [some (.d (.lst d0)),some (.d (.lst (dS cs))),some (.d (.int i)),some (.d (ar x)),a4,a5,a6,a7] S=some (.nx [some (.d (.lst d0)),some (.d (.lst (dS cs))),some (.d (.int i)),some (.d (ar x)),some (.d (.str x.name)),some (.d (.lst (dS x.outs))),some (.c S.s.length),b7] (mU S (dS L'))):=by
 obtain⟨L',b7,e⟩:=Zr (S:=S) (s0:=some (.d (.lst d0))) (s1:=some (.d (.lst (dS cs)))) (s2:=some (.d (.int i))) (s3:=some (.d (ar x))) (s4:=some (.d (.str x.name))) (s5:=some (.d (.lst (dS x.outs)))) (a7:=a7) x.outs (post.map ak.name++cs) nd sb;have e1:=yE post (by lia)
 have ap:dS (post.map ak.name)++dS cs=dS (post.map ak.name++cs):=dq.symm;have le:((dS (post.map ak.name)).length+(dS cs).length<=1000000)=True:=bH (by rw[aY,aY,aY];lia)
 have z:(dS x.outs).isEmpty=false:=by cases hz:x.outs with|nil=>exact bT hz ne|cons _ _=>rfl
 have hD:ar x=.tup [.str x.name,.int x.long,.bl x.ring,.lst (dS x.outs)]:=rfl;refine⟨L',b7,?_⟩;rw[hD] at e ⊢;unfold ER;simp only[↓ev,cx,aW,AZ,is4,hs,e1,le,ap,gu,e,z,nv,aQ]
theorem Vj(g:aG h)(ho:∀b∈h.af,b.outs≠[]):P0 EV [.d (.lst (h.af.map ar)),.d (.lst (dS h.carts))] (rd .aF):=by
 intro S;have bl:=g.sm.bl;have ct:=g.sm.ct;have fw:=g.fwd;obtain⟨U',S',e,a2,a3,a4,a5,a6,a7,L,rfl,rfl⟩:=e6p (gg:=aM [(ae 2),(ae 3)]) (body:=ER 0) (U:=[some (.d (.lst (h.af.map ar))),some (.d (.lst (dS h.carts))),none,none,none,none,none,none]) (S:=S) ar (λpre U S'=>∃a2 a3 a4 a5 a6 a7 L,U=[some (.d (.lst (h.af.map ar))),some (.d (.lst (dS h.carts))),a2,a3,a4,a5,a6,a7]/\S'=⟨S.s++L,S.r⟩) h.af ⟨_,_,_,_,_,_,[],rfl,by rw[l9]⟩ (by
  rintro q x post eq U S' ⟨a2,a3,a4,a5,a6,a7,L,rfl,rfl⟩;have hb:x∈h.af:=by rw[eq];simp
  have hl:=congrArg List.length eq;rw[cB,jr] at hl;have fx:my h.carts (x::post):=AG (by rw[<-eq];exact fw)
  have hs:=Wz q x post (q.length:Nat) rfl;rw[<-eq] at hs;obtain⟨L',b7,e⟩:=WA (S:=⟨S.s++L,S.r⟩) (a4:=a4) (a5:=a5) (a6:=a6) (a7:=a7) (cs:=h.carts) hs (by lia) (by lia) (g.nd x hb) (λo m=>by
   rcases fx.1 o m with z|z
   .exact Ep _ z
   .exact pk _ z) (ho x hb)
  exact⟨_,_,_,rfl,e,_,_,_,_,_,_,L++[.o (.lst (dS L'))],rfl,by unfold mU;rw[nt]⟩)
 unfold EV MN;simp only[↓ev,gu,e,A7]
theorem Nm(g:aG h):(h.carts++h.af.map ak.name).Nodup:=by
 refine iI.mpr ⟨g.cn,?_,λa ha b hb e=>Fb g.fwd a ha (e ▸ hb)⟩
 have:∀{bs:List ak},my h.carts bs->(bs.map ak.name).Nodup:=by
  intro bs
  induction bs with
  |nil=>intro _;exact .nil
  |cons b bs ih=>intro f;exact qE.mpr ⟨f.2.1,ih f.2.2.2⟩
 exact this g.fwd
theorem Zs(g:aG h):P0 EU [.d (aw h)] (rd (.bl true)):=by
 intro S;have ho:∀b∈h.af,b.outs≠[]:=λb hb z=>by
  rcases g.hd b hb with y|⟨o,y,_⟩
  all_goals simp_all
 have bl:=g.sm.bl;have ct:=g.sm.ct;have nd:=Nm g;have c0:h.carts≠[]:=λz=>by have:=g.c0;rw[z] at this;cases this
 have ln:∀c,S.s.length<(S.s++[c]:List Cell).length:=λc=>by rw[cB];exact v3 _
 have e1:=Zp (S:=⟨S.s++[.o (.az [])],S.r⟩) (n:=S.s.length) (ks:=[]) (carts:=h.carts) (ln _) g.cm (by rw[uL];exact g.cn) (by rw[Af];lia) c0
 have e2:=Zq (S:=⟨S.s++[.o (.az [])],S.r⟩) (n:=S.s.length) (ks:=h.carts) (bs:=h.af) (ln _) g.nm g.lg nd (by lia)
 have se:∀c:Cell,(S.s++[Cell.o (.az [])]).set S.s.length c=S.s++[c]:=λc=>qy
 simp only[tk,se,qqc] at e1 e2;have k0:pS []=[]:=rfl;rw[k0] at e1;have e3:=Vj g ho;have e4:=e3c g;have hD:aw h=.tup [.lst (h.af.map ar),.lst (dS h.carts)]:=rfl;rw[hD] at e4 ⊢;unfold EU MH;simp only[↓ev,cx,aW,cL,e1,e2,e3,e4,A7]
end
variable{st:Int}
theorem Pu:∀{bs:List ak},(∀b∈bs,b.outs.length<=4)->(bs.map λx=>x.outs.length).sum<=4*bs.length
 |[],_=>bG _
 |b::bs,h=>by
  rw[bY,List.sum_cons,jr];have:=Pu λb m=>h b (pZ _ m)
  have:=h b (rq ..);lia
theorem Ua{F:List D}{s rr:List Cell}(h:Fd st F)(s0:0<=st)(s1:st<12)(q n:Nat)(hn:n<=4):bx (ae 0) (iD true) (E0 q) (dc 0 n) [none,some (.c 0)] ⟨fC F::s,rr⟩ []=some (.ok (dS ((List.range n).map λ(i:Nat)=>i4 st (11 - i))) ⟨fC F::s,rr⟩):=by
 rw[t6,vb (λ(i:Nat)=>D.str (i4 st (11 - i))) (List.range n) (by rw[uK];lia) λi m=>⟨rd (.str (i4 st (11 - i))),by
  have hi:=uI.mp m;have e:=λq=>Qz h s0 s1 (k:=11 - i) (by lia) (by lia) q s rr
  unfold E0;generalize(i:Int)=ii at *;simp only[↓ev,e],rfl⟩,dS,eU]
 rfl
theorem Zt(q:Nat){S:aO}(bs:List ak)(h:bs.length<=1000):bx (ae 0) (iD true) (Ia q) (bs.map ar) [none] S []=some (.ok (dS (bs.map ak.name)) S):=by
 rw[vb (λb=>D.str (ak.name b)) bs (by lia) λb m=>⟨rd (.str b.name),by rfl,rfl⟩,dS,eU]
 rfl
section
variable{F F1 F2 F3:List D}{rr:List Cell}{carts outs:List Str}{bs:List ak}{y:Str}{v w l k mn:Int}{rg:Bool}{a5 a6 a7:aj Val}
abbrev hG(mn:Int)(carts:List Str)(a4 a5 a6 a7:aj Val):Gm:=[some (.c 0),some (.d (.int mn)),some (.d (.lst (dS carts))),some (.c 1),a4,a5,a6,a7]
abbrev sY(F:List D)(bs:List D)(rr:List Cell):aO:=⟨[fC F,.o (.lst bs)],rr⟩
theorem e3d{bd:List D}{nl:List Str}(d1:Dr F 3 v F1)(hv:(v == 0)=rg)(d2:Dr F1 3 w F2)(hr1:rg=true->2+w=l)(hr0:rg=false->1+w=l)(e:∀q S,bx (ae 0) (iD true) (Ia q) bd [none] S []=some (.ok (dS nl) S))(ho:uw 0 [.c 0,.d (.lst (dS nl)),.d (.lst (dS carts))] ⟨[fC F2,.o (.lst bd)],rr⟩=some (.ok (.o (.lst (dS outs))) ⟨[fC F3,.o (.lst bd)],rr⟩))(hn:∀s,AM 0 [.c 0,.d (.int k)] ⟨fC F3::s,rr⟩=some (.ok (rd (.str y)) ⟨fC F3::s,rr⟩))(p2:(bd.length<1000000)=True):
  AB 0 (hG mn carts (some (.d (.int k))) a5 a6 a7) (sY F bd rr)=some (.nx (hG mn carts (some (.d (.int k))) (some (.d (.bl rg))) (some (.d (.int l))) (some (.d (.lst (dS outs))))) (sY F3 (.tup [.str y,.int l,.bl rg,.lst (dS outs)]::bd) rr)):=by
 have Q_:((0:Int)<2^62)=True:=bH (by decide)
 unfold AB;cases rg with
 |true=>
  have hr:=hr1 rfl;simp only[↓ev,hG,sY,d1,aQ,jI,hv,aW,d2,hr,e,ho,hn,Q_,p2,and_self]
 |false=>
  have hr:=hr0 rfl;simp only[↓ev,hG,sY,d1,aQ,jI,hv,aW,d2,hr,e,ho,hn,Q_,p2,and_self]
structure Hx (st:Int) (carts:List Str) (m:Int) (bs:List ak):Prop where
 fwd:my carts bs
 nm:∀b∈bs,∃k:Int,m<=k/\k<5/\b.name=i4 st k
 lg:∀b∈bs,1<=b.long/\b.long<=4/\(b.ring=true->2<=b.long)
 hd:∀b∈bs,carts.getD 0 ""∈b.outs\/∃o∈b.outs,o∈bs.map ak.name
 nd:∀b∈bs,b.outs.Nodup/\b.outs.length<=4
theorem Zu{hand:Str}(h:Fd st F)(s0:0<=st)(s1:st<12)(hh:carts.head?=some hand)(hc:carts.length<=50)(cn:∀c∈carts,∃k:Int,5<=k/\k<12/\c=i4 st k)(k0:0<=k)(k1:k<5)(B:Hx st carts (k+1) bs)(bl:bs.length<=50):
  ∃b F',Fd st F'/\Hx st carts k (b::bs)/\∃b5 b6 b7,AB 0 (hG mn carts (some (.d (.int k))) a5 a6 a7) (sY F (bs.map ar) rr)=some (.nx (hG mn carts (some (.d (.int k))) b5 b6 b7) (sY F' ((b::bs).map ar) rr)):=by
 obtain⟨v,F1,v0,v1,h1,d1⟩:=kK h (m:=3) (by decide) (by decide)
 obtain⟨w,F2,w0,w1,h2,d2⟩:=kK h1 (m:=3) (by decide) (by decide)
 obtain⟨outs,F3,h3,ok,eo⟩:=e2z (cb:=.o (.lst (bs.map ar))) (rr:=rr) (later:=bs.map ak.name) h2 (by rw[aY];exact bl) hh hc
 have hg:carts.getD 0 ""=hand:=by
  cases carts with
  |nil=>cases hh
  |cons a b=>cases hh;rfl
 refine⟨⟨i4 st k,if(v == 0)=true then 2+w else 1+w,v == 0,outs⟩,F3,h3,⟨⟨λo ho=>e_.mp (ok.sub o ho),λm=>?_,λm=>?_,B.fwd⟩,λb m=>?_,λb m=>?_,λb m=>?_,λb m=>?_⟩,_,_,_,e3d d1 rfl d2 (λe=>(aN e).symm) (λe=>(aJ λz=>Bool.noConfusion (z.symm.trans e)).symm) (λq S=>Zt q bs (by lia)) eo (λs=>Qz h3 s0 s1 k0 (by lia) 0 s rr) (bH (by rw[aY];lia))⟩
 .obtain⟨b,hb,e⟩:=cX.mp m;obtain⟨j,j0,j1,ej⟩:=B.nm b hb;have:=Ig s0 s1 (by lia) (by lia) k0 (by lia) (ej.symm.trans e)
  lia
 .obtain⟨j,j0,j1,ej⟩:=cn _ m;have:=Ig s0 s1 k0 (by lia) (by lia) (by lia) ej
  lia
 .rcases y07.mp m with rfl|m
  .exact⟨k,Et _,k1,rfl⟩
  .obtain⟨j,j0,j1,ej⟩:=B.nm b m;exact⟨j,by lia,j1,ej⟩
 .rcases y07.mp m with rfl|m
  .dsimp only;split
   .exact⟨by lia,by lia,λ_=>by lia⟩
   .rename_i e
    exact⟨by lia,by lia,λz=>bT z e⟩
  .exact B.lg b m
 .rcases y07.mp m with rfl|m
  .rw[hg];rcases ok.hand with z|⟨o,z1,z2⟩
   .exact .inl z
   .exact .inr ⟨o,z1,.tail _ z2⟩
  .rcases B.hd b m with z|⟨o,z1,z2⟩
   .exact .inl z
   .exact .inr ⟨o,z1,.tail _ z2⟩
 .rcases y07.mp m with rfl|m
  .exact⟨ok.nd,ok.len⟩
  .exact B.nd b m
theorem Vk{F4:List D}{b4 b5 b6 b7:aj Val}{bl:List D}{c:Int}(d1:Dr F 5 v F1)(d2:Dr F1 4 c F2)(i1:Nat.ble (1+v - 1).natAbs 1000000=true)(i2:Nat.ble (1+c).natAbs 1000000000000=true)(e1:∀q s,bx (ae 0) (iD true) (E0 q) (dc 0 (1+c).toNat) [none,some (.c 0)] ⟨fC F2::s,rr⟩ []=some (.ok (dS carts) ⟨fC F2::s,rr⟩))
  (e3:aA (ae 4) (AB 0) (rj (1+v - 1) (-1) (1+v - 1 - -1).toNat) (hG (1+v) carts none none none none) (sY F2 [] rr)=some (.nx (hG (1+v) carts b4 b5 b6 b7) (sY F4 bl rr))):AJ 0 [.c 0] ⟨[fC F],rr⟩=some (.ok (rd (.tup [.lst bl,.lst (dS carts)])) ⟨[fC F4],rr⟩):=by
 have h1:Nat.ble (-1:Int).natAbs 1000000=true:=by decide
 unfold AJ NR;simp only[↓ev,d1,aW,d2,i2,gu,e1,aQ,i1,h1,and_self,e3,hG,sY];rfl
theorem Zv(h:Fd st F)(s0:0<=st)(s1:st<12):∃hs F',Fd st F'/\aG hs/\0<hs.af.length/\hs.af.length<=5/\hs.carts.length<=4/\AJ 0 [.c 0] ⟨[fC F],rr⟩=some (.ok (rd (aw hs)) ⟨[fC F'],rr⟩):=by
 obtain⟨v,F1,v0,v1,h1,d1⟩:=kK h (m:=5) (by decide) (by decide)
 obtain⟨c,F2,c0,c1,h2,d2⟩:=kK h1 (m:=4) (by decide) (by decide)
 have e1:=λq s=>Ua (s:=s) (rr:=rr) h2 s0 s1 q (1+c).toNat (by lia)
 have cn:∀x∈(List.range (1+c).toNat).map (λ(i:Nat)=>i4 st (11 - i)),∃k:Int,5<=k/\k<12/\x=i4 st k:=λx m=>by
  obtain⟨i,hi,rfl⟩:=cX.mp m;have:=uI.mp hi;exact⟨_,by lia,by lia,rfl⟩
 have WK:((List.range (1+c).toNat).map (λ(i:Nat)=>i4 st (11 - i))).Nodup:=by
  rw[List.Nodup,Mo];refine List.nodup_range.imp_of_mem λ{a b} ma mb ne z=>ne ?_
  have h1:=uI.mp ma;have h2:=uI.mp mb;have:=Ig s0 s1 (by lia) (by lia) (by lia) (by lia) z
  lia
 have cl:((List.range (1+c).toNat).map (λ(i:Nat)=>i4 st (11 - i))).length=(1+c).toNat:=by rw[aY,uK]
 generalize(List.range (1+c).toNat).map (λ(i:Nat)=>i4 st (11 - i))=carts at *
 obtain⟨hand,hh⟩:∃x,carts.head?=some x:=by
  cases carts with
  |nil=>simp at cl;lia
  |cons a b=>exact⟨a,rfl⟩
 obtain⟨U',S',e3,bs,F3,b4,b5,b6,b7,h3,B,bl,rfl,rfl⟩:=jy (gg:=ae 4) (body:=AB 0) (f:=λ(i:Nat)=>D.int (1+v - 1+(i:Int) * -1)) (U:=hG (1+v) carts none none none none) (S:=sY F2 [] rr)
  (λpre U S=>∃bs F3 b4 b5 b6 b7,Fd st F3/\Hx st carts (1+v - pre.length) bs/\bs.length=pre.length/\U=hG (1+v) carts b4 b5 b6 b7/\S=sY F3 (bs.map ar) rr) (List.range (1+v - 1 - -1).toNat)
  ⟨[],F2,none,none,none,none,h2,⟨ug,λb m=>(by cases m),λb m=>(by cases m),λb m=>(by cases m),λb m=>(by cases m)⟩,rfl,rfl,rfl⟩ (by
   rintro d i rest eq U S ⟨bs,F3,b4,b5,b6,b7,h3,B,bl,rfl,rfl⟩;obtain⟨hq,hi⟩:=Fq eq;obtain⟨b,F4,h4,B4,c5,c6,c7,e⟩:=Zu (mn:=1+v) (rr:=rr) (k:=1+v - 1+(i:Int) * -1) (a5:=b5) (a6:=b6) (a7:=b7) h3 s0 s1 hh (by lia) cn (by lia) (by lia) (by rw[show 1+v - 1+(i:Int) * -1+1=1+v - (d.length:Int) by lia];exact B) (by lia)
   exact⟨_,_,_,rfl,.inl e,b::bs,F4,_,_,_,_,h4,by rw[cB,ud,show 1+v - ((d.length+1:Nat):Int)=1+v - 1+(i:Int) * -1 by lia];exact B4,by rw[cB,ud,jr,bl],rfl,rfl⟩)
 rw[uK] at bl B;refine⟨⟨bs,carts⟩,F3,h3,⟨B.fwd,⟨by show bs.length<=100;lia,by show carts.length<=100;lia,?_⟩,λb m=>?_,λc m=>?_,λb m=>⟨(B.lg b m).1,(B.lg b m).2.2⟩,B.hd,WK,by show 0<carts.length;lia,λb m=>(B.nd b m).1⟩,by show 0<bs.length;lia,by show bs.length<=5;lia,by show carts.length<=4;lia,Vk d1 d2 (Em (by lia)) (Em (by lia)) e1 e3⟩
 .have:=Pu (bs:=bs) λb m=>(B.nd b m).2
  show(bs.map λx=>x.outs.length).sum<=900
  lia
 .obtain⟨k,k0,k1,e⟩:=B.nm b m;rw[e];exact Qx s0 s1 (by lia) (by lia)
 .obtain⟨k,k0,k1,e⟩:=cn c m;rw[e];exact Qx s0 s1 (by lia) (by lia)
end
section
variable{h:aB}
theorem e6x{q:Nat}{S:aO}{n:Str}{b:ak}{d0:aj Val}(hb:(b.name == n)=false):Ay q [d0,some (.d (.str n)),some (.d (ar b))] S=some (.nx [d0,some (.d (.str n)),some (.d (ar b))] S):=by
 unfold Ay ar;simp only[↓ev,cx,aQ,qU,hb]
theorem e3e{q:Nat}{S:aO}{n:Str}{b:ak}{d0:aj Val}(hb:(b.name == n)=true):Ay q [d0,some (.d (.str n)),some (.d (ar b))] S=some (.rt (rd (ar b)) S):=by
 unfold Ay ar;simp only[↓ev,cx,aQ,qU,hb,cL,k7,AZ,aW]
theorem AN(g:aG h){b:ak}(hb:b∈h.af):Pr yr [.d (aw h),.d (.str b.name)] (rd (ar b)):=by
 intro q S;obtain⟨d,r,eq⟩:=List.append_of_mem hb;have e:aA (ae 2) (Ay q) (h.af.map ar) [some (.d (aw h)),some (.d (.str b.name)),none] S=some (.rt (rd (ar b)) S):=by
  rw[eq];refine Pm (f:=ar) (λ_ U S'=>∃a,U=[some (.d (aw h)),some (.d (.str b.name)),a]/\S'=S) d [] _ _ ⟨_,rfl,rfl⟩ ?_ ?_
  .rintro d' y r' e' U S' ⟨a,rfl,rfl⟩;refine⟨_,_,_,rfl,.inl (e6x ?_),_,rfl,rfl⟩;rw[nc];intro z;have hy:y∈d:=by rw[uL] at e';rw[e'];simp
   have e2:=Ce g.fwd y (by rw[eq];simp[hy]) b hb z
   have nd:=(iI.mp (Nm g)).2.1;rw[eq,dq,bY] at nd;exact(iI.mp nd).2.2 _ (kS hy) _ (.head _) z
  .rintro U S' ⟨a,rfl,rfl⟩;exact⟨_,rfl,e3e (jD _)⟩
 have hD:aw h=.tup [.lst (h.af.map ar),.lst (dS h.carts)]:=rfl;rw[hD] at e ⊢;unfold yr NP;simp only[↓ev,cx,Nat.max_zero,e,o_]
theorem OF(g:aG h):Pr Ca [.d (aw h)] (rd (aw h)):=by
 intro q S;have bl:=g.sm.bl;have hn:=yE h.af (by lia)
 have e:∀q S,bx (ae 0) (iD true) (Ij q) (dS (h.af.map ak.name)) [none,some (.d (aw h))] S []=some (.ok (h.af.map ar) S):=λq S=>by
  rw[dS,eU,vb ar h.af (by lia) λb m=>⟨rd (ar b),by
   have hb:=AN g m;unfold Ij;simp only[↓ev,Function.comp,hb],rfl⟩]
 have hD:aw h=.tup [.lst (h.af.map ar),.lst (dS h.carts)]:=rfl;rw[hD] at e ⊢;unfold Ca Ot;simp only[↓ev,cx,hn,e,aW,cL,o_]
end
theorem oZ:atrs.contains (cHall,("built":Str))=true:=by decide +kernel
theorem MD:atrs.contains (cHall,("told_rounds":Str))=true:=by decide +kernel
theorem CC:atrs.contains (cHall,("now":Str))=true:=by decide +kernel
theorem uW:atrs.contains (cHall,("book":Str))=true:=by decide +kernel
theorem Fs:atrs.contains (cHall,("halts":Str))=true:=by decide +kernel
theorem mC:atrs.contains (cHall,("places":Str))=true:=by decide +kernel
theorem oY:atrs.contains (cHall,("readings":Str))=true:=by decide +kernel
theorem AH:atrs.contains (cHall,("rounded":Str))=true:=by decide +kernel
theorem Ji:atrs.contains (cHall,("gone":Str))=true:=by decide +kernel
theorem wc:atrs.contains (cHall,("carted":Str))=true:=by decide +kernel
section
variable{d0 d1 d2 d3 d4 d5 d6 d7 d8 d9 v:D}
theorem La:fJ "told_rounds" v [(("built":Str),d0)]=[(("built":Str),d0),(("told_rounds":Str),v)]:=by kernel_rfl
theorem Lb:fJ "now" v [(("built":Str),d0),(("told_rounds":Str),d1)]=[(("built":Str),d0),(("told_rounds":Str),d1),(("now":Str),v)]:=by kernel_rfl
theorem Lc:fJ "book" v [(("built":Str),d0),(("told_rounds":Str),d1),(("now":Str),d2)]=[(("built":Str),d0),(("told_rounds":Str),d1),(("now":Str),d2),(("book":Str),v)]:=by kernel_rfl
theorem Ld:fJ "halts" v [(("built":Str),d0),(("told_rounds":Str),d1),(("now":Str),d2),(("book":Str),d3)]=[(("built":Str),d0),(("told_rounds":Str),d1),(("now":Str),d2),(("book":Str),d3),(("halts":Str),v)]:=by kernel_rfl
theorem Le:fJ "places" v [(("built":Str),d0),(("told_rounds":Str),d1),(("now":Str),d2),(("book":Str),d3),(("halts":Str),d4)]=[(("built":Str),d0),(("told_rounds":Str),d1),(("now":Str),d2),(("book":Str),d3),(("halts":Str),d4),(("places":Str),v)]:=by kernel_rfl
theorem Lf:fJ "readings" v [(("built":Str),d0),(("told_rounds":Str),d1),(("now":Str),d2),(("book":Str),d3),(("halts":Str),d4),(("places":Str),d5)]=[(("built":Str),d0),(("told_rounds":Str),d1),(("now":Str),d2),(("book":Str),d3),(("halts":Str),d4),(("places":Str),d5),(("readings":Str),v)]:=by kernel_rfl
theorem Lg:fJ "rounded" v [(("built":Str),d0),(("told_rounds":Str),d1),(("now":Str),d2),(("book":Str),d3),(("halts":Str),d4),(("places":Str),d5),(("readings":Str),d6)]=[(("built":Str),d0),(("told_rounds":Str),d1),(("now":Str),d2),(("book":Str),d3),(("halts":Str),d4),(("places":Str),d5),(("readings":Str),d6),(("rounded":Str),v)]:=by kernel_rfl
theorem Lh:fJ "gone" v [(("built":Str),d0),(("told_rounds":Str),d1),(("now":Str),d2),(("book":Str),d3),(("halts":Str),d4),(("places":Str),d5),(("readings":Str),d6),(("rounded":Str),d7)]=[(("built":Str),d0),(("told_rounds":Str),d1),(("now":Str),d2),(("book":Str),d3),(("halts":Str),d4),(("places":Str),d5),(("readings":Str),d6),(("rounded":Str),d7),(("gone":Str),v)]:=by kernel_rfl
theorem Li:fJ "carted" v [(("built":Str),d0),(("told_rounds":Str),d1),(("now":Str),d2),(("book":Str),d3),(("halts":Str),d4),(("places":Str),d5),(("readings":Str),d6),(("rounded":Str),d7),(("gone":Str),d8)]=[(("built":Str),d0),(("told_rounds":Str),d1),(("now":Str),d2),(("book":Str),d3),(("halts":Str),d4),(("places":Str),d5),(("readings":Str),d6),(("rounded":Str),d7),(("gone":Str),d8),(("carted":Str),v)]:=by kernel_rfl
end
def hF(hd:D)(r now:Int)(n:Nat):List (Str×D):=[("built",hd),("told_rounds",.int r),("now",.int now),("book",.ref (n+1)),("halts",.ref (n+2)),("places",.ref (n+3)),("readings",.ref (n+4)),("rounded",.ref (n+5)),("gone",.ref (n+6)),("carted",.ref (n+7))]
section
variable{S:aO}{h:aB}{r:Int}
theorem QB(g:aG h):yx 0 [.d (.ref S.r.length),.d (aw h),.d (.int r)] ⟨S.s,S.r++[.ins cHall []]⟩=some (.ok (rd .aF) ⟨S.s,S.r++[.ins cHall (hF (aw h) r 0 S.r.length),.o (.az []),.o (.az []),.o (.az []),.o (.az []),.o (.az []),.o (.lst []),.o (.az [])]⟩):=by
 have e1:=Zs g;have e2:=OF g;generalize aw h=hd at *;unfold yx Oz hF;simp only[↓ev,e1,e2,bQ,oZ,qy,MD,La,CC,Lb,KY,Cj,uW,Lc,Fs,Ld,mC,Le,oY,Lf,AH,Lg,aW,aQ,Ji,Lh,wc,Li,o_]
end
theorem Pw(a b:Str):decide ((TK.inr a:TK)=TK.inr b)=(a == b):=by
 lia
theorem Fe{α:Type}(e:TK×α)(es:List (TK×α))(k:TK)(v:α):bK (e::es) k v=if e.1=k then(e.1,v)::es else e::bK es k v:=rfl
section
variable{α:Type}{k:α->Str}{v:α->D}{xs:List α}{b:Str}{y:D}
def td(k:α->Str)(v:α->D)(xs:List α):List (TK×D):=xs.map λx=>(.inr (k x),v x)
theorem o9:(td k v xs).length=xs.length:=aY ..
theorem CD(b:Str):∀xs:List α,aR (td k v xs) (.inr b)=(xs.find? λx=>k x == b).map v
 |[]=>rfl
 |x::xs=>by
  have ih:=CD b xs;unfold aR td at *;rw[bY,oX,oX];dsimp only;rw[Pw];cases(k x == b) with
  |true=>rfl
  |false=>exact ih
theorem kL{x:α}(nd:(xs.map k).Nodup)(hx:x∈xs):aR (td k v xs) (.inr (k x))=some (v x):=by
 rw[CD];have:xs.find? (λz=>k z == k x)=some x:=by
  induction xs with
  |nil=>cases hx
  |cons z zs ih=>
   rw[bY,qE] at nd;rw[oX];rcases y07.mp hx with e|m
   .rw[<-e,jD]
   .rw[show(k z == k x)=false by rw[nc];exact λe=>nd.1 (by rw[e];exact kS m)]
    exact ih nd.2 m
 simp_all
theorem e3f(b:Str)(xs:List α):(b∉xs.map k/\aR (td k v xs) (.inr b)=none)\/∃x∈xs,k x=b/\aR (td k v xs) (.inr b)=some (v x):=by
 rw[CD];cases e:xs.find? (λx=>k x == b) with
 |none=>
  refine .inl ⟨λm=>?_,rfl⟩
  obtain⟨x,hx,ex⟩:=cX.mp m;have:=v7.mp e x hx;rw[ex,jD] at this;exact this rfl
 |some x=>exact .inr ⟨x,Bz e,by have:=En e;exact beq_iff_eq.mp this,rfl⟩
theorem CF(h:b∉xs.map k):bK (td k v xs) (.inr b) y=td k v xs++[(.inr b,y)]:=by
 induction xs with
 |nil=>rfl
 |cons x xs ih=>
  rw[bY,y07,not_or] at h;unfold td at *;rw[bY,Fe,aJ (λe=>h.1 (TK.inr.inj e).symm),ih h.2]
  rfl
theorem Ga(nd:(xs.map k).Nodup)(h:b∈xs.map k):bK (td k v xs) (.inr b) y=td k (λx=>if k x=b then y else v x) xs:=by
 induction xs with
 |nil=>cases h
 |cons x xs ih=>
  rw[bY,qE] at nd;unfold td at *;rw[bY,bY,Fe];dsimp only;by_cases e:k x=b
  .rw[aN (by rw[e]),aN e]
   congr 1
   refine ny λz m=>?_
   rw[aJ λe2=>nd.1 (by rw[e,<-e2];exact kS m)]
  .rw[aJ (λe2=>e (TK.inr.inj e2)),aJ e,ih nd.2]
   rcases y07.mp h with z|z
   .exact bT z.symm e
   .exact z
theorem FK:dz (td k v xs) b=td k v (xs.filter λx=>decide (k x≠b)):=by
 unfold dz td;rw[List.filter_map]
 congr 1
 refine Hv λx _=>?_
 unfold gj;dsimp only[Function.comp];exact decide_eq_decide.mpr (not_congr ⟨λz=>TK.inr.inj z,λz=>congrArg TK.inr z⟩)
theorem Px:(td k v xs).map (·.1.d)=dS (xs.map k):=by
 unfold td dS;rw[eU,eU];refine ny λx _=>?_
 simp[TK.d]
theorem A4:gM (td k v xs)=true:=by
 unfold td gM;rw[xY];exact m_.mpr λx _=>rfl
end
section
variable{hd:D}{r nw v:Int}{n:Nat}
theorem pK:List.lookup ("built":Str) (hF hd r nw n)=some (hd):=by kernel_rfl
theorem SE:List.lookup ("told_rounds":Str) (hF hd r nw n)=some (.int r):=by kernel_rfl
theorem Gb:List.lookup ("now":Str) (hF hd r nw n)=some (.int nw):=by kernel_rfl
theorem wm:List.lookup ("book":Str) (hF hd r nw n)=some (.ref (n+1)):=by kernel_rfl
theorem IK:List.lookup ("halts":Str) (hF hd r nw n)=some (.ref (n+2)):=by kernel_rfl
theorem ng:List.lookup ("places":Str) (hF hd r nw n)=some (.ref (n+3)):=by kernel_rfl
theorem pJ:List.lookup ("readings":Str) (hF hd r nw n)=some (.ref (n+4)):=by kernel_rfl
theorem B3:List.lookup ("rounded":Str) (hF hd r nw n)=some (.ref (n+5)):=by kernel_rfl
theorem Py:List.lookup ("gone":Str) (hF hd r nw n)=some (.ref (n+6)):=by kernel_rfl
theorem yu:List.lookup ("carted":Str) (hF hd r nw n)=some (.ref (n+7)):=by kernel_rfl
theorem e3g:fJ "now" (.int v) (hF hd r nw n)=hF hd r v n:=by kernel_rfl
end
variable{hd:D}
section
variable{hd:D}{r nw:Int}{n:Nat}
theorem IB:Cell.kx cHall ("flight":Str) (.ins cHall (hF hd r nw n))=true:=by kernel_rfl
theorem Ff:Cell.kx cHall ("change":Str) (.ins cHall (hF hd r nw n))=true:=by kernel_rfl
theorem BY:Cell.kx cHall ("call_off":Str) (.ins cHall (hF hd r nw n))=true:=by kernel_rfl
theorem Zw:Cell.kx cHall ("stop":Str) (.ins cHall (hF hd r nw n))=true:=by kernel_rfl
theorem Gd:Cell.kx cHall ("put":Str) (.ins cHall (hF hd r nw n))=true:=by kernel_rfl
theorem yl:Cell.kx cHall ("check_flight":Str) (.ins cHall (hF hd r nw n))=true:=by kernel_rfl
theorem BS:Cell.kx cHall ("check_belt":Str) (.ins cHall (hF hd r nw n))=true:=by kernel_rfl
theorem HL:Cell.kx cHall ("check_inside":Str) (.ins cHall (hF hd r nw n))=true:=by kernel_rfl
theorem WB:Cell.kx cHall ("house":Str) (.ins cHall (hF hd r nw n))=true:=by kernel_rfl
theorem NX:Cell.kx cHall ("rounds":Str) (.ins cHall (hF hd r nw n))=true:=by kernel_rfl
theorem Vl:Cell.kx cHall ("moment":Str) (.ins cHall (hF hd r nw n))=true:=by kernel_rfl
theorem Nn:Cell.kx cHall ("stopped":Str) (.ins cHall (hF hd r nw n))=true:=by kernel_rfl
theorem FL:Cell.kx cHall ("bags":Str) (.ins cHall (hF hd r nw n))=true:=by kernel_rfl
theorem e3h:Cell.kx cHall ("out":Str) (.ins cHall (hF hd r nw n))=true:=by kernel_rfl
theorem Zx:Cell.kx cHall ("late":Str) (.ins cHall (hF hd r nw n))=true:=by kernel_rfl
theorem Iq:Cell.kx cHall ("cart_of":Str) (.ins cHall (hF hd r nw n))=true:=by kernel_rfl
theorem B5:Cell.kx cHall ("catches":Str) (.ins cHall (hF hd r nw n))=true:=by kernel_rfl
theorem M4:Cell.kx cHall ("in_order":Str) (.ins cHall (hF hd r nw n))=true:=by kernel_rfl
theorem Zy:Cell.kx cHall ("move":Str) (.ins cHall (hF hd r nw n))=true:=by kernel_rfl
theorem Ub:Cell.kx cHall ("move_on":Str) (.ins cHall (hF hd r nw n))=true:=by kernel_rfl
theorem To:Cell.kx cHall ("move_out":Str) (.ins cHall (hF hd r nw n))=true:=by kernel_rfl
end
structure Row where
 bag:Str
 b:Str
 i:Int
 fl:aj Str
 gn:Int
instance:Inhabited Row:=⟨"","",0,none,0⟩
structure Hl where
 now:Int
 book:List (Str×Str×Int)
 halts:List Str
 rows:List Row
 gone:List (Str×Str×Int)
def aH:aj Str->D
 |none=>.aF
 |some x=>.str x
abbrev pl(b:Str)(i:Int):D:=.tup [.str b,.int i]
def t3(p:Str×Str×Int):D:=.tup [.str p.1,.str p.2.1,.int p.2.2]
def lI(l:List (Str×Str×Int)):List (TK×D):=td (·.1) t3 l
def gL(l:List Row):List (TK×D):=td Row.bag (λr=>pl r.b r.i) l
def iX(l:List Row):List (TK×D):=td Row.bag (λr=>aH r.fl) l
def kQ(l:List Row):List (TK×D):=td Row.bag (λr=>.int r.gn) l
def yS(l:List (Str×Str×Int)):List (TK×D):=td (·.1) (λp=>.str p.2.1) l
def ko(l:List (Str×Str×Int)):List D:=l.map t3
abbrev hR(hd:D)(r:Int)(x:Hl)(n:Nat)(B:List Cell):List Cell:=.ins cHall (hF hd r x.now n)::.o (.az (lI x.book))::.o (.az (pS x.halts))::.o (.az (gL x.rows))::.o (.az (iX x.rows))::.o (.az (kQ x.rows))::.o (.lst (ko x.gone))::.o (.az (yS x.gone))::B
noncomputable abbrev hS(A B:List Cell)(hd:D)(r:Int)(x:Hl)(s:List Cell):aO:=⟨s,A++hR hd r x A.length B⟩
section
variable{s A B:List Cell}{h:aB}{r:Int}{x:Hl}{q:Nat}{b:Str}
theorem WL(g:aG h):E_ q [.d (.ref A.length)] (hS A B (aw h) r x s)=some (.ok (rd (aw h)) (hS A B (aw h) r x s)):=by
 have e2:=OF g;unfold E_ NS;generalize aw h=hd at *;simp only[↓ev,hR,bQ,oZ,pK,e2,dH]
theorem NY:E4 q [.d (.ref A.length)] (hS A B hd r x s)=some (.ok (rd (.int r)) (hS A B hd r x s)):=by
 unfold E4 Nh;simp only[↓ev,hR,bQ,MD,SE,dH]
theorem QC:yD q [.d (.ref A.length)] (hS A B hd r x s)=some (.ok (.o (.lst (ko x.gone))) (hS A B hd r x s)):=by
 unfold yD Pn;simp only[↓ev,hR,bQ,Ji,Py,eH,dH]
theorem NZ(g:aG h){v:Bool}(hb:(h.af.map ak.name).contains b=v):BQ q [.d (.ref A.length),.d (.str b)] (hS A B (aw h) r x s)=some (if v=true then .ok (rd .aF) (hS A B (aw h) r x s) else .ex 116 none (hS A B (aw h) r x s)):=by
 have bl:=g.sm.bl;have hn:=yE h.af (by lia)
 unfold BQ MC aw;cases v with
 |true=>simp only[↓ev,hR,bQ,oZ,pK,cx,hn,jG,jF,hb,kI,aQ,dH]
 |false=>simp only[↓ev,hR,bQ,oZ,pK,cx,hn,jG,jF,hb,nv,dH,aQ]
theorem CG{α:Type}{k:α->Str}{v:α->D}{xs:List α}{b:Str}:(aR (td k v xs) (.inr b)).isSome=(xs.map k).contains b:=by
 rcases e3f (k:=k) (v:=v) b xs with⟨h,e⟩|⟨x,m,ek,e⟩
 .rw[e,show(xs.map k).contains b=false by rw[Ak];exact λz=>h (gP.mp z)];rfl
 .rw[e,show(xs.map k).contains b=true from gP.mpr (by rw[<-ek];exact kS m)];rfl
theorem WM(q:Nat)(ns:List Str)(hl:ns.length<=1000):bx (ae 0) (HS q) (HU q) (dS ns) [none,some (.d (.ref A.length))] (hS A B hd r x s) []=some (.ok (dS (ns.filter λn=>x.halts.contains n)) (hS A B hd r x s)):=by
 rw[dS,wB (λo=>if x.halts.contains o=true then some (.str o) else none) ns (by lia) λo m=>by
  have v:=yJ o x.halts;unfold HS HU;cases hc:x.halts.contains o with
  |true=>
   rw[hc] at v;exact .inr ⟨rd (.str o),.str o,rfl,by simp only[↓ev,hR,bQ,Fs,IK,eH,aQ,v],by simp only[↓ev],rfl⟩
  |false=>
   rw[hc] at v;exact .inl ⟨rfl,by simp only[↓ev,hR,bQ,Fs,IK,eH,aQ,v]⟩]
 congr 2
 induction ns with
 |nil=>rfl
 |cons o ns ih=>
  have ih:=ih (by rw[jr] at hl;lia)
  cases hc:x.halts.contains o with
  |true=>rw[Mj (b:=D.str o) (by rw[hc];rfl),ih,List.filter_cons_of_pos hc];rfl
  |false=>rw[Mi (by rw[hc];rfl),ih,List.filter_cons_of_neg (by rw[hc];exact oW)]
noncomputable def bW(h:aB)(x:Hl):List Str:=(h.af.map ak.name).filter λn=>x.halts.contains n
theorem N0(g:aG h):BW q [.d (.ref A.length)] (hS A B (aw h) r x s)=some (.ok (.o (.lst (dS (bW h x)))) (hS A B (aw h) r x s)):=by
 have bl:=g.sm.bl;have hn:=yE h.af (by lia)
 have e:=λq=>WM (A:=A) (B:=B) (s:=s) (r:=r) (x:=x) (hd:=aw h) q (h.af.map ak.name) (by rw[aY];lia)
 unfold BW MY bW aw at *;simp only[↓ev,hR,bQ,oZ,pK,cx,hn,e,dH]
end
variable{h:aB}{b:Str}{S:aO}
noncomputable def rk(h:aB)(b:Str):Int:=((findS (h.af.map ak.name) b).getD 0:Nat)
theorem OG:∀xs:List Str,eR (dS xs)=some xs
 |[]=>rfl
 |x::xs=>by
  have ih:=OG xs;show(eR (D.str x::dS xs))=_;unfold eR;rw[ih];rfl
theorem e3i(hb:b∈h.af.map ak.name):iR (.lst (dS (h.af.map ak.name))) (.str b)=some (rd (.int (rk h b))):=by
 obtain⟨j,hj⟩:=Fc hb;show(eR (dS _)).bind _=_;unfold rk;rw[OG,xW,hj];rfl
theorem e3j{c:Str}(hb:b∈h.af.map ak.name)(hc:c∈h.af.map ak.name)(e:rk h b=rk h c):b=c:=by
 obtain⟨j,hj⟩:=Fc hb;obtain⟨k,hk⟩:=Fc hc;unfold rk at e;rw[hj,hk] at e;have e:((j:Nat):Int)=(k:Nat):=e;have e:j=k:=by lia
 have h1:=(B1 hj).1;have h2:=(B1 hk).1;rw[e,h2] at h1;exact(Option.some.inj h1).symm
def nH(h:aB)(r:Row):Prop:=∃bt∈h.af,bt.name=r.b/\0<=r.i/\r.i<bt.long/\0<=r.gn
theorem nH.nm{r:Row}(o:nH h r):r.b∈h.af.map ak.name:=by
 obtain⟨bt,hb,e,_⟩:=o;rw[<-e];exact kS hb
def ph(h:aB)(r:Row):D:=.tup [.int (rk h r.b),.int r.i,.str r.bag]
def mR(h:aB)(r:Row):Int×Int:=(rk h r.b,r.i)
def ord(h:aB)(rows:List Row):List Row:=if rows.length<2 then rows else(cR (rows.map (mR h))).map λj=>rows.getD j default
theorem OH(h:aB):∀rows:List Row,jl (rows.map (ph h))=some (rows.map (mR h))
 |[]=>rfl
 |r::rows=>by
  have ih:=OH h rows;show jl (D.tup [.int (rk h r.b),.int r.i,.str r.bag]::rows.map (ph h))=_;unfold jl;rw[ih];rfl
theorem OI{rows:List Row}(nd:(rows.map (mR h)).Nodup):(ord h rows).Perm rows:=by
 unfold ord;split
 .rfl
 .rename_i hl
  obtain⟨p,_⟩:=Fj nd (by rw[aY];lia)
  rw[aY] at p;refine(p.map _).trans ?_;have:(List.range rows.length).map (λj=>rows.getD j default)=rows:=by
   refine Me λi=>?_
   rw[gq];by_cases hi:i<rows.length
   .rw[Ag hi,jt hi];simp[hi]
   .rw[Aj (by simp;lia),Aj (by lia)]
    rfl
  rw[this]
theorem e3k(rows:List Row):(List.range (gL rows).length).map (λi=>D.tup ((((gL rows)[i]?).map λp=>[p.1.d,p.2]).getD []))=rows.map λr=>.tup [.str r.bag,pl r.b r.i]:=by
 unfold gL;refine Me λi=>?_
 rw[o9,gq,gq];by_cases hi:i<rows.length
 .rw[Ag hi,jt hi];unfold td;rw[Option.map_some,Option.map_some,gq,jt hi];simp[TK.d]
 .rw[Aj (by simp;lia),Aj (by lia)]
  rfl
section
variable{s A B:List Cell}{h:aB}{r:Int}{x:Hl}{q:Nat}
theorem Zz(q:Nat)(rows:List Row)(hl:rows.length<=1000)(ho:∀w∈rows,nH h w):bx (aM [(ae 0),(ae 1)]) (iD true) (HM q) (rows.map λw=>.tup [.str w.bag,pl w.b w.i]) [none,none,some (.d (.lst (dS (h.af.map ak.name))))] S []=some (.ok (rows.map (ph h)) S):=by
 rw[CB (λw=>some (ph h w)) (λU=>∃a b,U=[a,b,some (.d (.lst (dS (h.af.map ak.name))))]) rows _ [] ⟨_,_,rfl⟩ (by rw[Af];lia) λw m U ⟨a,b,hU⟩=>⟨[some (.d (.str w.bag)),some (.d (pl w.b w.i)),some (.d (.lst (dS (h.af.map ak.name))))],by rw[hU];rfl,⟨_,_,rfl⟩,.inr ⟨rd (ph h w),ph h w,rfl,rfl,by
   have hi:=e3i (ho w m).nm;unfold HM ph;simp only[↓ev,cx,hi,cL,aW],rfl⟩⟩,List.filterMap_eq_map',uL]
theorem ZA(q:Nat)(l:List Row)(hl:l.length<=1000):bx (ae 0) (iD true) (HN q) (l.map (ph h)) [none] S []=some (.ok (dS (l.map Row.bag)) S):=by
 rw[vb (λw=>.str w.bag) l (by lia) λw m=>⟨rd (.str w.bag),by unfold HN ph;simp only[↓ev,k7],rfl⟩]
 unfold dS;rw[eU];rfl
theorem Pz(g:aG h)(nd:(x.rows.map (mR h)).Nodup)(hl:x.rows.length<64)(ho:∀w∈x.rows,nH h w):Ax q [.d (.ref A.length)] (hS A B (aw h) r x s)=some (.ok (.o (.lst (dS ((ord h x.rows).map Row.bag)))) (hS A B (aw h) r x s)):=by
 have bl:=g.sm.bl;have hn:=yE h.af (by lia)
 have e1:=λq=>Zz (S:=hS A B (aw h) r x s) q x.rows (by lia) ho
 have e2:=e3k x.rows;have pl:=(OI nd).length_eq;have e3:=λq=>ZA (h:=h) (S:=hS A B (aw h) r x s) q (ord h x.rows) (by lia)
 have e0:gM (gL x.rows)=true:=A4;by_cases lt:x.rows.length<2
 .have h1:((x.rows.map (ph h)).length<2)=True:=bH (by rw[aY];exact lt)
  have h2:ord h x.rows=x.rows:=aN lt;rw[h2] at e3 ⊢;unfold Ax HW aw at *;generalize(x.rows.map (ph h))=l1 at *;simp only[↓ev,hR,bQ,oZ,pK,cx,hn,aW,mC,ng,eH,e0,e2,e1,h1,e3,dH]
 .have h1:((x.rows.map (ph h)).length<2)=False:=eq_false (by rw[aY];exact lt)
  have h2:=OH h x.rows;have h3:((x.rows.map (mR h)).Nodup/\(x.rows.map (mR h)).length<64)=True:=bH ⟨nd,by rw[aY];exact hl⟩
  have h4:lZ (x.rows.map (ph h)) (cR (x.rows.map (mR h)))=(ord h x.rows).map (ph h):=by
   unfold ord lZ;rw[aJ lt,eU];refine ny λj m=>?_
   have p:=(Fj nd (by rw[aY];lia)).1
   have hj:j<x.rows.length:=by
    have:=uI.mp (p.mem_iff.mp m)
    rwa[aY] at this
   simp[hj]
  unfold Ax HW aw at *;generalize(x.rows.map (ph h))=l1 at *;generalize((ord h x.rows).map (ph h))=l2 at *;generalize(x.rows.map (mR h))=ks at *;simp only[↓ev,hR,bQ,oZ,pK,cx,hn,aW,mC,ng,eH,e0,e2,e1,h1,h2,h3,h4,e3,dH]
end
variable{hd:D}
structure Ok (h:aB) (n:Nat) (x:Hl):Prop where
 rw:∀w∈x.rows,nH h w/\lu w.bag/\∀f,w.fl=some f->f∈x.book.map (·.1)
 nd:(x.rows.map Row.bag++x.gone.map (·.1)).Nodup
 un:(x.rows.map λw=>(w.b,w.i)).Nodup
 bk:∀p∈x.book,p.2.1∈h.carts
 bn:(x.book.map (·.1)).Nodup
 rl:x.rows.length<=8
 sz:x.book.length+x.halts.length+x.rows.length+x.gone.length<=n
noncomputable def bF(w:Row):D:=.tup [.str w.bag,aH w.fl,pl w.b w.i,.int w.gn]
section
variable{s A B:List Cell}{h:aB}{r:Int}{x:Hl}{q n:Nat}{w:Row}
theorem Ok.nb(o:Ok h n x):(x.rows.map Row.bag).Nodup:=(iI.mp o.nd).1
theorem Ok.nk(o:Ok h n x):(x.rows.map (mR h)).Nodup:=by
 have e:=o.un;rw[List.Nodup,Mo] at e ⊢;refine e.imp_of_mem λ{a b} ma mb ne z=>ne ?_
 have h1:=congrArg Prod.fst z;have h2:=congrArg Prod.snd z;rw[show a.b=b.b from e3j (o.rw a ma).1.nm (o.rw b mb).1.nm h1,show a.i=b.i from h2]
theorem Ok.perm(o:Ok h n x):(ord h x.rows).Perm x.rows:=OI o.nk
theorem Ok.mem(o:Ok h n x):w∈ord h x.rows↔w∈x.rows:=o.perm.mem_iff
theorem Vm(q:Nat)(nb:(x.rows.map Row.bag).Nodup)(l:List Row)(hl:l.length<=1000)(hm:∀w∈l,w∈x.rows):bx (ae 0) (iD true) (Im q) (dS (l.map Row.bag)) [none,some (.d (.ref A.length))] (hS A B hd r x s) []=some (.ok (l.map bF) (hS A B hd r x s)):=by
 rw[show dS (l.map Row.bag)=l.map λw=>.str w.bag by unfold dS;rw[eU];rfl,vb bF l (by lia) λw m=>⟨rd (bF w),by
  have h1:aR (gL x.rows) (.inr w.bag)=_:=kL nb (hm w m);have h2:aR (iX x.rows) (.inr w.bag)=_:=kL nb (hm w m);have h3:aR (kQ x.rows) (.inr w.bag)=_:=kL nb (hm w m);unfold Im bF;generalize aH w.fl=ff at *;simp only[↓ev,hR,bQ,oY,pJ,eH,h2,mC,ng,h1,AH,B3,h3,aW],rfl⟩]
theorem CH(g:aG h)(o:Ok h n x):ux q [.d (.ref A.length)] (hS A B (aw h) r x s)=some (.ok (.o (.lst ((ord h x.rows).map bF))) (hS A B (aw h) r x s)):=by
 have rl:=o.rl;have e1:=λq=>Pz (A:=A) (B:=B) (s:=s) (r:=r) (q:=q) g o.nk (by lia) λw m=>(o.rw w m).1
 have e2:=λq=>Vm (A:=A) (B:=B) (s:=s) (r:=r) (hd:=aw h) q o.nb (ord h x.rows) (by rw[o.perm.length_eq];lia) λw m=>o.mem.mp m
 generalize aw h=hd at *;unfold ux Ov;simp only[↓ev,hR,bQ,dO,M4,e1,e2,dH]
theorem ZC(q:Nat)(hn:lu w.bag)(hw:w∈x.rows)(nb:(x.rows.map Row.bag).Nodup):EJ q [.d (.ref A.length),.d (.str w.bag)] (hS A B hd r x s)=some (.ok (rd .aF) (hS A B hd r x s)):=by
 have h1:aR (gL x.rows) (.inr w.bag)=_:=kL nb hw;unfold EJ Mu;simp only[↓ev,hn,aQ,hR,bQ,mC,ng,eH,h1,kI,dH]
end
noncomputable def pe(kn:List (Str×Int)):List (TK×D):=kn.map λp=>(.inr p.1,.int p.2)
noncomputable def atS(kn:List (Str×Int))(n:Str):aj Int:=(kn.find? λp=>p.1 == n).map (·.2)
theorem PB(x:Str):atS [] x=none:=rfl
theorem yy(k:Str)(v:Int)(kn:List (Str×Int))(x:Str):atS ((k,v)::kn) x=if k=x then some v else atS kn x:=by
 unfold atS;rw[oX];by_cases e:k=x
 .rw[aN e,show(k == x)=true by rw[e,jD]];rfl
 .rw[aJ e,show(k == x)=false by rw[nc];exact e]
theorem Ft(k:Str)(v:Int)(x:Str):∀kn:List (Str×Int),atS (kn++[(k,v)]) x=(atS kn x).or (if k=x then some v else none)
 |[]=>by rw[uL,yy,PB,Option.none_or]
 |(k',v')::kn=>by
  rw[List.cons_append,yy,yy,Ft k v x kn];split
  .rfl
  .rfl
theorem Cs(x:Str):∀kn:List (Str×Int),aR (pe kn) (.inr x)=(atS kn x).map .int
 |[]=>rfl
 |(k,v)::kn=>by
  have ih:=Cs x kn;rw[yy];unfold aR pe at *;rw[bY,oX];dsimp only;rw[Pw];by_cases e:k=x
  .rw[aN e,show(k == x)=true by rw[e,jD]];rfl
  .rw[aJ e,show(k == x)=false by rw[nc];exact e];exact ih
theorem pg0{a:TK}{y:D}:bK [] a y=[(a,y)]:=rfl
theorem PC:∀(kn:List (Str×Int)) (k:Str) (v:Int),atS kn k=none->bK (pe kn) (.inr k) (.int v)=pe (kn++[(k,v)])
 |[],_,_,_=>rfl
 |(k',v')::kn,k,v,h=>by
  rw[yy] at h;have e:¬k'=k:=λz=>by rw[aN z] at h;cases h
  rw[aJ e] at h;show bK ((TK.inr k',D.int v')::pe kn) (.inr k) (.int v)=(TK.inr k',D.int v')::pe (kn++[(k,v)]);rw[<-PC kn k v h,Fe,aJ (λz=>e (TK.inr.inj z))]
def cZ(kn:List (Str×Int))(outs:List Str):List Int:=outs.filterMap (atS kn)
def ba(aL:Str):List ak->List (Str×Int)
 |[]=>[(aL,0)]
 |b::bs=>if cZ (ba aL bs) b.outs=[] then ba aL bs else ba aL bs++[(b.name,b.long+gG (cZ (ba aL bs) b.outs))]
theorem OJ(aL:Str):∀bs:List ak,(ba aL bs).length<=bs.length+1
 |[]=>bG _
 |b::bs=>by
  have:=OJ aL bs;unfold ba;split
  .rw[jr];lia
  .rw[cB,ud,jr];lia
theorem IL{aL:Str}:∀{bs:List ak} {n:Str},n≠aL->n∉bs.map ak.name->atS (ba aL bs) n=none
 |[],n,h1,_=>by
  show atS [(aL,0)] n=none;rw[yy,aJ (λz=>h1 z.symm),PB]
 |b::bs,n,h1,h2=>by
  rw[bY] at h2;have h3:n≠b.name:=λz=>h2 (by rw[z];exact .head _)
  have ih:=IL (aL:=aL) (bs:=bs) h1 λz=>h2 (.tail _ z)
  unfold ba;split
  .exact ih
  .rw[Ft,ih,aJ (λz=>h3 z.symm)];rfl
theorem ZD(kn:List (Str×Int)):∀outs:List Str,(outs.filterMap λo=>(atS kn o).map D.int)=(cZ kn outs).map D.int
 |[]=>rfl
 |o::outs=>by
  grind [cZ]
abbrev mV(S:aO)(kn:List (Str×Int)):aO:=⟨S.s++[.o (.az (pe kn))],S.r⟩
section
variable{S:aO}{kn:List (Str×Int)}{outs:List Str}{g0 g1 a7:aj Val}{x:ak}
theorem OK(q:Nat)(h:outs.length<=1000):bx (ae 0) (Ih q) (Ii q) (dS outs) [none,some (.c S.s.length)] (mV S kn) []=some (.ok ((cZ kn outs).map D.int) (mV S kn)):=by
 rw[dS,wB (λo=>(atS kn o).map D.int) outs (by lia) λo m=>by
  have v:=Cs o kn;unfold Ih Ii;cases hc:atS kn o with
  |some w=>
   rw[hc] at v;exact .inr ⟨rd (.int w),.int w,rfl,by simp only[↓ev,bQ,aQ,v,Al],by simp only[↓ev,bQ,v],rfl⟩
  |none=>
   rw[hc] at v;exact .inl ⟨rfl,by simp only[↓ev,bQ,aQ,v,Ai]⟩,ZD]
theorem e3l(ho:x.outs.length<=1000)(hb:cZ kn x.outs=[]):AE 0 [g0,g1,some (.c S.s.length),some (.d (.str x.name)),some (.d (.int x.long)),some (.d (.bl x.ring)),some (.d (.lst (dS x.outs))),a7] (mV S kn)=some (.nx [g0,g1,some (.c S.s.length),some (.d (.str x.name)),some (.d (.int x.long)),some (.d (.bl x.ring)),some (.d (.lst (dS x.outs))),some (.d (.lst []))] (mV S kn)):=by
 have e:=λq=>OK (S:=S) (kn:=kn) q ho
 rw[hb] at e;unfold AE;simp only[↓ev,e,aW,aQ]
theorem ZE(ho:x.outs.length<=1000){i:Int}{is:List Int}(hb:cZ kn x.outs=i::is)(hn:atS kn x.name=none)(hl:((pe kn).length<1000000)=True):AE 0 [g0,g1,some (.c S.s.length),some (.d (.str x.name)),some (.d (.int x.long)),some (.d (.bl x.ring)),some (.d (.lst (dS x.outs))),a7] (mV S kn)=some (.nx [g0,g1,some (.c S.s.length),some (.d (.str x.name)),some (.d (.int x.long)),some (.d (.bl x.ring)),some (.d (.lst (dS x.outs))),some (.d (.lst ((i::is).map D.int)))] (mV S (kn++[(x.name,x.long+gG (i::is))]))):=by
 have e:=λq=>OK (S:=S) (kn:=kn) q ho
 rw[hb] at e;have p:=PC kn x.name (x.long+gG (i::is)) hn;have z:((i::is).map D.int).isEmpty=false:=rfl;have m:=NK (i::is);have ne:((i::is)=[])=False:=eq_false (List.cons_ne_nil _ _);generalize(i::is).map D.int=l at *;unfold AE;simp only[↓ev,e,aW,z,nv,m,ne,bQ,hl,p,qy]
theorem OL{h:aB}(g:aG h){aL:Str}(hc:aL∈h.carts):P0 B_ [.d (aw h),.d (.str aL)] (.o (.az (pe (ba aL h.af)))):=by
 intro S;have bl:=g.sm.bl;have ou:=g.sm.ou;have f:=g.fwd;obtain⟨U',S',e,a3,a4,a5,a6,a7,rfl,rfl⟩:=jy (gg:=aM [(ae 3),(ae 4),(ae 5),(ae 6)]) (body:=AE 0) (f:=ar) (U:=[some (.d (aw h)),some (.d (.str aL)),some (.c S.s.length),none,none,none,none,none]) (S:=mV S (ba aL [])) (λpre U S'=>∃a3 a4 a5 a6 a7,U=[some (.d (aw h)),some (.d (.str aL)),some (.c S.s.length),a3,a4,a5,a6,a7]/\S'=mV S (ba aL pre.reverse)) h.af.reverse ⟨_,_,_,_,_,rfl,rfl⟩ (by
  rintro q x post eq U S' ⟨a3,a4,a5,a6,a7,rfl,rfl⟩;have eb:h.af=post.reverse++x::q.reverse:=by
   simp_all
  have fx:my h.carts (x::q.reverse):=AG (by rw[<-eb];exact f)
  have ho:x.outs.length<=1000:=by
   grind
  have hn:atS (ba aL q.reverse) x.name=none:=IL (λz=>fx.2.2.1 (z ▸ hc)) fx.2.1
  have hl:(ba aL q.reverse).length<=1000:=by
   grind [OJ]
  rw[List.reverse_append,List.reverse_singleton,List.singleton_append];have ebg:ba aL (x::q.reverse)=if cZ (ba aL q.reverse) x.outs=[] then ba aL q.reverse else ba aL q.reverse++[(x.name,x.long+gG (cZ (ba aL q.reverse) x.outs))]:=by
   rfl
  rw[ebg];generalize ba aL q.reverse=kn at *;cases hb:cZ kn x.outs with
  |nil=>exact⟨_,_,_,rfl,.inl (e3l ho hb),_,_,_,_,_,rfl,by rw[aN rfl]⟩
  |cons i is=>exact⟨_,_,_,rfl,.inl (ZE ho hb hn (bH (by unfold pe;rw[aY];lia))),_,_,_,_,_,rfl,by rw[aJ (List.cons_ne_nil _ _)]⟩)
 rw[List.reverse_reverse,List.map_reverse,show mV S (ba aL [])=⟨S.s++[.o (.az [(.inr aL,.int 0)])],S.r⟩ from rfl] at e;have hD:aw h=.tup [.lst (h.af.map ar),.lst (dS h.carts)]:=rfl;have tl:∀c:Cell,(S.s++[c]).take S.s.length=S.s:=λc=>List.take_left
 rw[hD] at e ⊢;unfold B_ Om;simp only[↓ev,KY,bQ,aW,Bw,pg0,List.foldl_nil,tl,cx,gu,e,RO,A7]
end
variable{kn:List (Str×Int)}{outs:List Str}{best:aj Str}
theorem Fu{carts:List Str}:∀{bs:List ak},my carts bs->∀b∈bs,∀o∈b.outs,o∈bs.map ak.name\/o∈carts
 |x::bs,f,b,hb,o,ho=>by
  rcases y07.mp hb with rfl|hb
  .rcases f.1 o ho with z|z
   .exact .inl (.tail _ z)
   .exact .inr z
  .rcases Fu f.2.2.2 b hb o ho with z|z
   .exact .inl (.tail _ z)
   .exact .inr z
theorem E3{aL:Str}{x:ak}{bs:List ak}{n:Str}(h:n≠x.name):atS (ba aL (x::bs)) n=atS (ba aL bs) n:=by
 conv=>lhs;unfold ba
 split
 .rfl
 .rw[Ft,aJ (λz=>h z.symm),Option.or_none]
theorem Np{kn':List (Str×Int)}(h:∀o∈outs,atS kn o=atS kn' o):cZ kn outs=cZ kn' outs:=by
 unfold cZ
 induction outs with
 |nil=>rfl
 |cons o outs ih=>
  have:=ih λz hz=>h z (.tail _ hz)
  rw[rn,rn,h o (.head _),this]
theorem Jj{carts:List Str}{aL:Str}(hc:aL∈carts):∀{bs:List ak},my carts bs->∀b∈bs,atS (ba aL bs) b.name=if cZ (ba aL bs) b.outs=[] then none else some (b.long+gG (cZ (ba aL bs) b.outs))
 |x::bs,f,b,hb=>by
  rcases y07.mp hb with rfl|hb
  .have ho:∀o∈b.outs,o≠b.name:=λo ho z=>by
    rcases f.1 o ho with y|y
    .exact f.2.1 (by rw[<-z];exact y)
    .exact f.2.2.1 (by rw[<-z];exact y)
   have e:=Np (kn:=ba aL (b::bs)) (kn':=ba aL bs) (outs:=b.outs) λo m=>E3 (ho o m)
   rw[e]
   conv=>lhs;unfold ba
   have hn:atS (ba aL bs) b.name=none:=IL (λz=>f.2.2.1 (by rw[z];exact hc)) f.2.1
   split
   .exact hn
   .rw[Ft,hn,aN rfl];rfl
  .have hn:b.name≠x.name:=λz=>f.2.1 (by rw[<-z];exact kS (f:=ak.name) hb)
   have ho:∀o∈b.outs,o≠x.name:=λo ho z=>by
    rcases Fu f.2.2.2 b hb o ho with y|y
    .exact f.2.1 (by rw[<-z];exact y)
    .exact f.2.2.1 (by rw[<-z];exact y)
   have e:=Np (kn:=ba aL (x::bs)) (kn':=ba aL bs) (outs:=b.outs) λo m=>E3 (ho o m)
   rw[e,E3 hn];exact Jj hc f.2.2.2 b hb
theorem PD{carts:List Str}{aL:Str}(hc:aL∈carts):∀{bs:List ak},my carts bs->atS (ba aL bs) aL=some 0
 |[],_=>by show atS [(aL,0)] aL=some 0;rw[yy,aN rfl]
 |x::bs,f=>by rw[E3 (λz=>f.2.2.1 (by rw[<-z];exact hc))];exact PD hc f.2.2.2
def y9(h:aB)(aL n:Str)(c:Int):D:=match atS (ba aL h.af) n with
 |none=>.aF
 |some v=>.int (v - c)
def nI(kn:List (Str×Int))(best:aj Str)(o:Str):aj Str:=match atS kn o with
 |none=>best
 |some v=>match best with
  |none=>some o
  |some p=>if v<(atS kn p).getD 0 then some o else best
def fU(kn:List (Str×Int))(outs:List Str):aj Str:=outs.foldl (nI kn) none
def yL(kn:List (Str×Int))(best:aj Str):Prop:=∀p,best=some p->∃v,atS kn p=some v
theorem Nq(h:yL kn best)(o:Str):yL kn (nI kn best o):=by
 intro p e;unfold nI at e;cases q:atS kn o with
 |none=>rw[q] at e;exact h p e
 |some v=>
  rw[q] at e;dsimp only at e;cases best with
  |none=>cases e;exact⟨v,q⟩
  |some p'=>
   dsimp only at e;split at e
   .cases e;exact⟨v,q⟩
   .exact h p e
theorem PF{kn:List (Str×Int)}:∀{outs:List Str} {best:aj Str},yL kn best->yL kn (outs.foldl (nI kn) best)
 |[],_,h=>h
 |o::outs,best,h=>PF (outs:=outs) (Nq h o)
theorem IM{kn:List (Str×Int)}:∀{outs:List Str} {best:aj Str},yL kn best->
  (outs.foldl (nI kn) best=none↔best=none/\cZ kn outs=[])/\
  ∀a,outs.foldl (nI kn) best=some a->(best=some a\/a∈outs)/\∃v,atS kn a=some v/\(∀o∈outs,∀w,atS kn o=some w->v<=w)/\∀p w,best=some p->atS kn p=some w->v<=w
 |[],best,h=>by
  refine⟨⟨λe=>⟨e,rfl⟩,λe=>e.1⟩,λa e=>?_⟩
  obtain⟨v,hv⟩:=h a e;refine⟨.inl e,v,hv,λo m=>(by cases m),λp w e1 e2=>?_⟩
  have e:best=some a:=e;rw[e] at e1;cases e1;rw[hv] at e2;cases e2;exact Et _
 |o::outs,best,h=>by
  obtain⟨i1,i2⟩:=IM (outs:=outs) (Nq h o);rw[Bw];constructor
  .rw[i1];unfold nI cZ;cases q:atS kn o with
   |none=>rw[Mi q]
   |some v=>
    rw[Mj q];constructor
    .rintro⟨e,_⟩;exfalso;cases best with
     |none=>cases e
     |some p=>dsimp only at e;split at e <;> cases e
    .rintro⟨_,e⟩;cases e
  .intro a e;obtain⟨j1,v,j2,j3,j4⟩:=i2 a e;cases q:atS kn o with
   |none=>
    have es:nI kn best o=best:=by unfold nI;rw[q]
    rw[es] at j1 j4;refine⟨?_,v,j2,λo' m w e'=>?_,j4⟩
    .rcases j1 with z|z
     .exact .inl z
     .exact .inr (.tail _ z)
    .rcases y07.mp m with rfl|m
     .rw[q] at e';cases e'
     .exact j3 o' m w e'
   |some u=>
    cases best with
    |none=>
     have es:nI kn none o=some o:=by unfold nI;rw[q]
     rw[es] at j1 j4;refine⟨.inr ?_,v,j2,λo' m w e'=>?_,λp w e'=>(by cases e')⟩
     .rcases j1 with z|z
      .cases z;exact .head _
      .exact .tail _ z
     .rcases y07.mp m with rfl|m
      .rw[q] at e';cases e';exact j4 o' u rfl q
      .exact j3 o' m w e'
    |some p=>
     obtain⟨pv,hp⟩:=h p rfl;by_cases mO:u<pv
     .have es:nI kn (some p) o=some o:=by unfold nI;rw[q];dsimp only;rw[hp,Eo,aN mO]
      rw[es] at j1 j4;refine⟨.inr ?_,v,j2,λo' m w e'=>?_,λp' w e1 e2=>?_⟩
      .rcases j1 with z|z
       .cases z;exact .head _
       .exact .tail _ z
      .rcases y07.mp m with rfl|m
       .rw[q] at e';cases e';exact j4 o' u rfl q
       .exact j3 o' m w e'
      .cases e1;rw[hp] at e2;cases e2;have:=j4 o u rfl q;lia
     .have es:nI kn (some p) o=some p:=by unfold nI;rw[q];dsimp only;rw[hp,Eo,aJ mO]
      rw[es] at j1 j4;refine⟨?_,v,j2,λo' m w e'=>?_,j4⟩
      .rcases j1 with z|z
       .exact .inl z
       .exact .inr (.tail _ z)
      .rcases y07.mp m with rfl|m
       .rw[q] at e';cases e';have:=j4 p pv rfl hp;lia
       .exact j3 o' m w e'
theorem kD{v:Int}:v∈cZ kn outs↔∃o∈outs,atS kn o=some v:=rP
theorem lH:fU kn outs=none↔cZ kn outs=[]:=by
 have:=(IM (kn:=kn) (outs:=outs) (best:=none) (λp e=>by cases e)).1
 unfold fU;rw[this];exact⟨λz=>z.2,λz=>⟨rfl,z⟩⟩
theorem Vn{a:Str}(e:fU kn outs=some a):a∈outs/\atS kn a=some (gG (cZ kn outs)):=by
 obtain⟨j1,v,j2,j3,_⟩:=(IM (kn:=kn) (outs:=outs) (best:=none) (λp e=>by cases e)).2 a e
 have ha:a∈outs:=by
  rcases j1 with z|z
  .cases z
  .exact z
 have fH:cZ kn outs≠[]:=λz=>by rw[lH.mpr z] at e;cases e
 obtain⟨m1,m2⟩:=NJ fH;obtain⟨o,ho,eo⟩:=kD.mp m1;have c1:=j3 o ho _ eo;have c2:=m2 v (kD.mpr ⟨a,ha,j2⟩);exact⟨ha,by rw[j2,show v=gG (cZ kn outs) by lia]⟩
section
variable{h:aB}{aL n:Str}{c:Int}
theorem e6y(g:aG h)(hc:aL∈h.carts):P0 Gh [.d (aw h),.d (.tup [.str n,.int c]),.d (.str aL)] (rd (y9 h aL n c)):=by
 intro S;have e:=OL g hc;have v:=Cs n (ba aL h.af);unfold Gh QU y9;generalize aw h=hd at *;cases hk:atS (ba aL h.af) n with
 |none=>
  rw[hk] at v;simp only[↓ev,e,aW,cx,v,Ai,nv,o_]
 |some w=>
  rw[hk] at v;simp only[↓ev,e,aW,cx,v,Al,kI,aQ,cL,o_]
theorem WN{S:aO}(ok:yL kn best)(o:Str){g0 g1 g2:aj Val}:Cm 0 [g0,g1,g2,some (.d (.az (pe kn))),some (.d (aH best)),some (.d (.str o))] S=some (.nx [g0,g1,g2,some (.d (.az (pe kn))),some (.d (aH (nI kn best o))),some (.d (.str o))] S):=by
 have v:=Cs o kn;unfold Cm nI;cases hk:atS kn o with
 |none=>
  rw[hk] at v;simp only[↓ev,aQ,v,Ai]
 |some w=>
  rw[hk] at v;cases best with
  |none=>
   unfold aH;simp only[↓ev,aQ,v,Al,aW]
  |some p=>
   obtain⟨u,hu⟩:=ok p rfl;have v2:=Cs p kn;rw[hu] at v2;unfold aH;by_cases hl:w<u
   .have mL:=bH hl;simp only[↓ev,aQ,v,Al,v2,mL,decide_true,aW,hu]
   .have mL:=eq_false hl;simp only[↓ev,aQ,v,Al,v2,mL,decide_false,hu]
end
section
variable{h:aB}{aL n:Str}{c:Int}
theorem WO{S:aO}{kn:List (Str×Int)}{outs:List Str}{g0 g1 g2 a:aj Val}:∃a',aA (ae 5) (Cm 0) (dS outs) [g0,g1,g2,some (.d (.az (pe kn))),some (.d .aF),a] S=some (.nx [g0,g1,g2,some (.d (.az (pe kn))),some (.d (aH (fU kn outs))),a'] S):=by
 obtain⟨U',S',e,a',rfl,rfl⟩:=jy (gg:=ae 5) (body:=Cm 0) (f:=D.str) (U:=[g0,g1,g2,some (.d (.az (pe kn))),some (.d .aF),a]) (S:=S) (λpre U S'=>∃a',U=[g0,g1,g2,some (.d (.az (pe kn))),some (.d (aH (fU kn pre))),a']/\S'=S) outs ⟨a,rfl,rfl⟩ (by
  rintro d x r eq U S' ⟨a',rfl,rfl⟩;have ok:yL kn (fU kn d):=PF λp z=>by cases z
  refine⟨_,_,_,rfl,.inl (WN ok x),some (.d (.str x)),?_,rfl⟩;unfold fU;rw[Ho];rfl)
 exact⟨a',e⟩
theorem Gk(g:aG h){b:ak}(hb:b∈h.af)(hc:aL∈h.carts):P0 Gi [.d (aw h),.d (.str b.name),.d (.str aL)] (rd (aH (fU (ba aL h.af) b.outs))):=by
 intro S;have e1:=OL g hc;have e2:=AN g hb;obtain⟨a',e⟩:=WO (S:=S) (kn:=ba aL h.af) (outs:=b.outs) (g0:=some (.d (aw h))) (g1:=some (.d (.str b.name))) (g2:=some (.d (.str aL))) (a:=none);have hD:ar b=.tup [.str b.name,.int b.long,.bl b.ring,.lst (dS b.outs)]:=rfl;rw[hD] at e2;unfold Gi QV;generalize aw h=hd at *;simp only[↓ev,e1,aW,e2,AZ,gu,e,o_]
end
noncomputable abbrev iE(h:aB):Str:=h.carts.getD 0 ""
def nN(h:aB)(ct:Str)(nw cl:Int)(b:Str)(i:Int):Bool:=match atS (ba ct h.af) b with
 |none=>false
 |some v=>decide (nw+(v - i)<=cl)
noncomputable def mH(x:Hl)(w:Row):aj (Str×Int):=w.fl.bind λf=>(x.book.find? λp=>p.1 == f).map (·.2)
def k9(h:aB)(x:Hl)(w:Row):Bool:=match mH x w with
 |none=>false
 |some (ct,cl)=>nN h ct x.now cl w.b w.i
def dy(h:aB)(x:Hl)(w:Row):Str:=match mH x w with
 |none=>iE h
 |some (ct,cl)=>if nN h ct x.now cl w.b w.i=true then ct else iE h
section
variable{s A B:List Cell}{h:aB}{r:Int}{x:Hl}{n:Nat}{w:Row}
theorem IC(o:Ok h n x)(hw:w∈x.rows):(w.fl=none/\mH x w=none)\/∃f ct cl,w.fl=some f/\mH x w=some (ct,cl)/\ct∈h.carts/\aR (lI x.book) (.inr f)=some (.tup [.str f,.str ct,.int cl]):=by
 unfold mH;cases hf:w.fl with
 |none=>exact .inl ⟨rfl,rfl⟩
 |some f=>
  have v:aR (lI x.book) (.inr f)=_:=CD f x.book;cases e:x.book.find? (λp=>p.1 == f) with
  |none=>
   obtain⟨p,hp,ep⟩:=cX.mp ((o.rw w hw).2.2 f hf);have:=v7.mp e p hp;rw[ep,jD] at this;exact bT rfl this
  |some p=>
   have e1:=En e;have e1:p.1=f:=beq_iff_eq.mp e1;refine .inr ⟨f,p.2.1,p.2.2,rfl,by rw[xW,e];rfl,o.bk p (Bz e),?_⟩
   rw[v,e,<-e1];rfl
theorem PH(g:aG h)(o:Ok h n x)(hw:w∈x.rows):BX 0 [.d (.ref A.length),.d (.str w.bag)] (hS A B (aw h) r x s)=some (.ok (rd (.bl (k9 h x w))) (hS A B (aw h) r x s)):=by
 have h1:aR (gL x.rows) (.inr w.bag)=_:=kL o.nb hw;have h2:aR (iX x.rows) (.inr w.bag)=_:=kL o.nb hw;unfold BX M0 k9;rcases IC o hw with⟨e1,e2⟩|⟨f,ct,cl,e1,e2,hc,hk⟩
 .rw[e1] at h2;rw[e2];unfold aH at h2;generalize aw h=hd at *;simp only[↓ev,hR,bQ,oY,pJ,eH,h2,aQ,dH]
 .rw[e1] at h2;rw[e2];unfold aH at h2;have e:=e6y (n:=w.b) (c:=w.i) g hc;unfold y9 at e;dsimp only;unfold nN;cases hv:atS (ba ct h.af) w.b with
  |none=>
   rw[hv] at e;generalize aw h=hd at *;simp only[↓ev,hR,bQ,oY,pJ,eH,h2,aQ,uW,wm,hk,aW,oZ,pK,mC,ng,h1,cL,e,dH]
  |some v=>
   rw[hv] at e;generalize aw h=hd at *;simp only[↓ev,hR,bQ,oY,pJ,eH,h2,aQ,uW,wm,hk,aW,oZ,pK,mC,ng,h1,cL,e,CC,Gb,k7,dH]
theorem e3m(g:aG h)(o:Ok h n x)(hw:w∈x.rows):E1 0 [.d (.ref A.length),.d (.str w.bag)] (hS A B (aw h) r x s)=some (.ok (rd (.str (dy h x w))) (hS A B (aw h) r x s)):=by
 have h2:aR (iX x.rows) (.inr w.bag)=_:=kL o.nb hw;have e1:=λq=>ZC (A:=A) (B:=B) (s:=s) (r:=r) q (hd:=aw h) (o.rw w hw).2.1 hw o.nb
 have e2:=PH (A:=A) (B:=B) (s:=s) (r:=r) g o hw;obtain⟨_,ha⟩:=Cr g;have hD:aw h=.tup [.lst (h.af.map ar),.lst (dS h.carts)]:=rfl;rw[hD] at e1 e2 ⊢;unfold E1 M3 dy;unfold k9 at e2;rcases IC o hw with⟨e3,e4⟩|⟨f,ct,cl,e3,e4,hc,hk⟩
 .rw[e4] at e2 ⊢;unfold iE;generalize h.carts.getD 0 ""=hnd at *;simp only[↓ev,hR,bQ,dO,HL,e1,B5,e2,aQ,oZ,pK,cL,ha,dH]
 .rw[e4] at e2 ⊢;rw[e3] at h2;unfold aH at h2;dsimp only at e2 ⊢;unfold iE;generalize h.carts.getD 0 ""=hnd at *;cases hb:nN h ct x.now cl w.b w.i with
  |true=>
   rw[hb] at e2;simp only[↓ev,hR,bQ,dO,HL,e1,B5,e2,uW,wm,oY,pJ,eH,h2,hk,cL,dH]
  |false=>
   rw[hb] at e2;simp only[↓ev,hR,bQ,dO,HL,e1,B5,e2,aQ,oZ,pK,cL,ha,dH]
theorem IP(g:aG h):∀{bs pre:List ak},h.af=pre++bs->∀b∈bs,∃v,atS (ba (iE h) h.af) b.name=some v
 |x::bs,pre,eq,b,hb=>by
  have A8:h.af=(pre++[x])++bs:=by rw[eq];simp
  rcases y07.mp hb with rfl|hb
  .have GC:b∈h.af:=by rw[eq];simp
   have fx:my h.carts (b::bs):=AG (by rw[<-eq];exact g.fwd)
   have key:∀o∈b.outs,∀v,atS (ba (iE h) h.af) o=some v->∃v,atS (ba (iE h) h.af) b.name=some v:=λo m v e=>by
    have hm:=kD.mpr ⟨o,m,e⟩;rw[Jj (Cr g).1 g.fwd b GC,aJ λz=>by rw[z] at hm;cases hm]
    exact⟨_,rfl⟩
   rcases g.hd b GC with z|⟨o,z1,z2⟩
   .exact key _ z _ (PD (Cr g).1 g.fwd)
   .rcases fx.1 o z1 with y|y
    .obtain⟨w,hw,rfl⟩:=cX.mp y;obtain⟨v,e⟩:=IP g A8 w hw;exact key _ z1 v e
    .exact bT z2 (Fb g.fwd o y)
  .exact IP g A8 b hb
theorem PK(g:aG h)(o:Ok h n x)(hw:w∈x.rows):dy h x w∈h.carts/\∃v,atS (ba (dy h x w) h.af) w.b=some v:=by
 obtain⟨bt,hb,eb,_⟩:=(o.rw w hw).1;have hh:iE h∈h.carts/\∃v,atS (ba (iE h) h.af) w.b=some v:=⟨(Cr g).1,by rw[<-eb];exact IP g (pre:=[]) (bs:=h.af) rfl bt hb⟩
 unfold dy;rcases IC o hw with⟨e3,e4⟩|⟨f,ct,cl,e3,e4,hc,hk⟩
 .rw[e4];exact hh
 .rw[e4];dsimp only;split
  .rename_i zg
   refine⟨hc,?_⟩;unfold nN at zg;cases hv:atS (ba ct h.af) w.b with
   |none=>rw[hv] at zg;cases zg
   |some v=>exact⟨v,rfl⟩
  .exact hh
end
variable{bt:ak}{o:Str}
abbrev Goal:=Str×aj Int
def gD:Goal->D
 |(c,none)=>.str c
 |(b,some i)=>pl b i
section
variable{s A B:List Cell}{h:aB}{r:Int}{x:Hl}{n:Nat}{w:Row}{ct:Str}
theorem e3n(g:aG h)(hb:bt∈h.af)(hc:ct∈h.carts)(ho:fU (ba ct h.af) bt.outs=some o)(hi:h.carts.contains o=true){busy:D}:P0 rD [.d (aw h),.d (ar bt),.d (.str ct),.d busy] (rd (.str o)):=by
 intro S;have e:=Gk g hb hc;rw[ho] at e;have hD:aw h=.tup [.lst (h.af.map ar),.lst (dS h.carts)]:=rfl;have hB:ar bt=.tup [.str bt.name,.int bt.long,.bl bt.ring,.lst (dS bt.outs)]:=rfl;rw[hD] at e ⊢;rw[hB];unfold rD B2;unfold aH at e;simp only[↓ev,cx,e,aW,cL,jG,aQ,jF,hi,o_]
theorem e3o(g:aG h)(hb:bt∈h.af)(hc:ct∈h.carts)(ho:fU (ba ct h.af) bt.outs=some o)(hi:h.carts.contains o=false){busy:List Str}(hy:busy.contains o=false):P0 rD [.d (aw h),.d (ar bt),.d (.str ct),.d (.lst (dS busy))] (rd (pl o 0)):=by
 intro S;have e:=Gk g hb hc;rw[ho] at e;have hD:aw h=.tup [.lst (h.af.map ar),.lst (dS h.carts)]:=rfl;have hB:ar bt=.tup [.str bt.name,.int bt.long,.bl bt.ring,.lst (dS bt.outs)]:=rfl;rw[hD] at e ⊢;rw[hB];unfold rD B2;unfold aH at e;cases hr:bt.ring with
 |true=>simp only[↓ev,cx,e,aW,cL,jG,aQ,jF,hi,k7,hy,o_]
 |false=>simp only[↓ev,cx,e,aW,cL,jG,aQ,jF,hi,k7,o_]
theorem e3p(g:aG h)(hb:bt∈h.af)(hc:ct∈h.carts)(ho:fU (ba ct h.af) bt.outs=some o)(hi:h.carts.contains o=false)(hr:bt.ring=true){busy:List Str}(hy:busy.contains o=true):P0 rD [.d (aw h),.d (ar bt),.d (.str ct),.d (.lst (dS busy))] (rd (pl bt.name 0)):=by
 intro S;have e:=Gk g hb hc;rw[ho] at e;have hD:aw h=.tup [.lst (h.af.map ar),.lst (dS h.carts)]:=rfl;have hB:ar bt=.tup [.str bt.name,.int bt.long,.bl bt.ring,.lst (dS bt.outs)]:=rfl;rw[hD] at e ⊢;rw[hB,hr];unfold rD B2;unfold aH at e;simp only[↓ev,cx,e,aW,cL,jG,aQ,jF,hi,k7,hy,o_]
theorem e3q(g:aG h)(hb:bt∈h.af)(hc:ct∈h.carts)(ho:fU (ba ct h.af) bt.outs=some o)(hi:h.carts.contains o=false)(hr:bt.ring=false){busy:List Str}:P0 rD [.d (aw h),.d (ar bt),.d (.str ct),.d (.lst (dS busy))] (rd (pl o 0)):=by
 intro S;have e:=Gk g hb hc;rw[ho] at e;have hD:aw h=.tup [.lst (h.af.map ar),.lst (dS h.carts)]:=rfl;have hB:ar bt=.tup [.str bt.name,.int bt.long,.bl bt.ring,.lst (dS bt.outs)]:=rfl;rw[hD] at e ⊢;rw[hB,hr];unfold rD B2;unfold aH at e;simp only[↓ev,cx,e,aW,cL,jG,aQ,jF,hi,k7,o_]
def dP(h:aB)(x:Hl):List Str:=bW h x++(ord h x.rows).filterMap λw=>if(w.i == 0)=true then some w.b else none
theorem Vo(q:Nat)(l:List Row)(hl:l.length<=1000){S:aO}:bx (ae 0) (HQ q) (HR q) (l.map bF) [none] S []=some (.ok (dS (l.filterMap λw=>if(w.i == 0)=true then some w.b else none)) S):=by
 rw[wB (λw=>(if(w.i == 0)=true then some w.b else none).map D.str) l (by lia) λw m=>by
  unfold HQ HR bF;generalize aH w.fl=ff at *;cases hc:(w.i == 0) with
  |true=>exact .inr ⟨rd (.str w.b),.str w.b,rfl,by simp only[↓ev,k7,cL,aQ,jI,hc],by simp only[↓ev,k7,cx],rfl⟩
  |false=>exact .inl ⟨rfl,by simp only[↓ev,k7,cL,aQ,jI,hc]⟩]
 congr 2
 unfold dS;rw[List.map_filterMap]
theorem e3r(g:aG h)(o:Ok h n x):EY 0 [.d (.ref A.length)] (hS A B (aw h) r x s)=some (.ok (.o (.lst (dS (dP h x)))) (hS A B (aw h) r x s)):=by
 have rl:=o.rl;have e1:=λq=>N0 (A:=A) (B:=B) (s:=s) (r:=r) (q:=q) (x:=x) g
 have e2:=λq=>CH (A:=A) (B:=B) (s:=s) (r:=r) (q:=q) g o
 have e3:=λq=>Vo (S:=hS A B (aw h) r x s) q (ord h x.rows) (by rw[o.perm.length_eq];lia)
 have hl:((dS (bW h x)).length+(dS ((ord h x.rows).filterMap λw=>if(w.i == 0)=true then some w.b else none)).length<=1000000)=True:=bH (by
  have h1:(bW h x).length<=(h.af.map ak.name).length:=xZ _ _;have h2:=Hw (λw:Row=>if(w.i == 0)=true then some w.b else none) (ord h x.rows)
  have h3:=o.perm.length_eq;have h4:=g.sm.bl;rw[aY] at h1;rw[aY,aY];lia)
 generalize aw h=hd at *;unfold EY MQ dP;rw[dS,dq,<-dS,<-dS];simp only[↓ev,hR,bQ,dO,Nn,e1,FL,e2,e3,hl,dH]
def tR(h:aB)(x:Hl)(bt:ak)(o:Str):Goal:=if h.carts.contains o=true then(o,none) else if(bt.ring&&(dP h x).contains o)=true then(bt.name,some 0) else(o,some 0)
def lY(h:aB)(r:Int)(x:Hl)(w:Row)(bt:ak):Goal:=if w.i+1<bt.long then(bt.name,some (w.i+1)) else if bt.ring=true/\w.fl=none/\w.gn<r then(bt.name,some 0) else tR h x bt ((fU (ba (dy h x w) h.af) bt.outs).getD "")
def ao(h:aB)(r:Int)(x:Hl)(w:Row):Goal:=match findB h.af w.b with
 |none=>(w.b,none)
 |some bt=>lY h r x w bt
theorem Fg(g:aG h)(hb:bt∈h.af):findB h.af bt.name=some bt:=by
 unfold findB;cases e:h.af.find? (λb=>b.name == bt.name) with
 |none=>
  have:=v7.mp e bt hb;rw[jD] at this;exact bT rfl this
 |some c=>
  have h1:=En e;rw[Ce g.fwd c (Bz e) bt hb (beq_iff_eq.mp h1)]
theorem Jw(g:aG h)(o:Ok h n x)(hw:w∈x.rows)(hb:bt∈h.af)(eb:bt.name=w.b):∃a,fU (ba (dy h x w) h.af) bt.outs=some a/\a∈bt.outs:=by
 obtain⟨hc,v,hv⟩:=PK g o hw;have bg:=Jj hc g.fwd bt hb;rw[eb,hv] at bg;have fH:¬cZ (ba (dy h x w) h.af) bt.outs=[]:=λz=>by rw[aN z] at bg;cases bg
 cases e:fU (ba (dy h x w) h.af) bt.outs with
 |none=>exact bT (lH.mp e) fH
 |some a=>exact⟨a,rfl,(Vn e).1⟩
theorem WQ(g:aG h)(hb:bt∈h.af)(hc:ct∈h.carts)(ho:fU (ba ct h.af) bt.outs=some o):P0 rD [.d (aw h),.d (ar bt),.d (.str ct),.d (.lst (dS (dP h x)))] (rd (gD (tR h x bt o))):=by
 unfold tR;cases e1:h.carts.contains o with
 |true=>exact e3n g hb hc ho e1
 |false=>
  rw[aJ (by decide)]
  cases e2:bt.ring with
  |false=>exact e3q g hb hc ho e1 e2
  |true=>
   cases e3:(dP h x).contains o with
   |true=>exact e3p g hb hc ho e1 e2 e3
   |false=>exact e3o g hb hc ho e1 e3
end
section
variable{s A B:List Cell}{h:aB}{r:Int}{x:Hl}{n:Nat}{w:Row}{bt:ak}{aU:List D}{a8 a9:aj Val}{bz:D}
abbrev wS(A B:List Cell)(hd:D)(r:Int)(x:Hl)(s:List Cell)(aU:List D):aO:=⟨s++[.o (.lst aU)],A++hR hd r x A.length B⟩
theorem LW(g:aG h)(hb:bt∈h.af)(eb:bt.name=w.b)(hl:(w.i+1<bt.long)=True)(ha:(aU.length<1000000)=True):uU 0 [some (.d (.ref A.length)),some (.d (aw h)),some (.d bz),some (.c s.length),some (.d (.str w.bag)),some (.d (aH w.fl)),some (.d (pl w.b w.i)),some (.d (.int w.gn)),a8,a9] (wS A B (aw h) r x s aU)=some (.nx [some (.d (.ref A.length)),some (.d (aw h)),some (.d bz),some (.c s.length),some (.d (.str w.bag)),some (.d (aH w.fl)),some (.d (pl w.b w.i)),some (.d (.int w.gn)),some (.d (ar bt)),some (.d (pl bt.name (w.i+1)))] (wS A B (aw h) r x s (aU++[.tup [.str w.bag,pl bt.name (w.i+1)]]))):=by
 have e4:=AN g hb;have hB:ar bt=.tup [.str bt.name,.int bt.long,.bl bt.ring,.lst (dS bt.outs)]:=rfl;rw[hB] at e4 ⊢;rw[eb] at e4 ⊢;generalize aw h=hd at *;generalize aH w.fl=ff at *;unfold uU;simp only[↓ev,cx,e4,aW,cL,hl,decide_true,bQ,ha,qy]
theorem LX(g:aG h)(hb:bt∈h.af)(eb:bt.name=w.b)(hl:(w.i+1<bt.long)=False)(hr:bt.ring=true)(hf:w.fl=none)(hg:(w.gn<r)=True)(ha:(aU.length<1000000)=True):uU 0 [some (.d (.ref A.length)),some (.d (aw h)),some (.d bz),some (.c s.length),some (.d (.str w.bag)),some (.d (aH w.fl)),some (.d (pl w.b w.i)),some (.d (.int w.gn)),a8,a9] (wS A B (aw h) r x s aU)=some (.nx [some (.d (.ref A.length)),some (.d (aw h)),some (.d bz),some (.c s.length),some (.d (.str w.bag)),some (.d (aH w.fl)),some (.d (pl w.b w.i)),some (.d (.int w.gn)),some (.d (ar bt)),some (.d (pl bt.name 0))] (wS A B (aw h) r x s (aU++[.tup [.str w.bag,pl bt.name 0]]))):=by
 have e4:=AN g hb;have e5:=λq s=>NY (A:=A) (B:=B) (s:=s) (hd:=aw h) (r:=r) (q:=q) (x:=x)
 have hB:ar bt=.tup [.str bt.name,.int bt.long,.bl bt.ring,.lst (dS bt.outs)]:=rfl;rw[hB,hr] at e4 ⊢;rw[eb] at e4 ⊢;rw[hf];generalize aw h=hd at *;unfold uU aH;simp only[↓ev,cx,e4,aW,cL,hl,decide_false,aQ,k7,hR,bQ,dO,NX,e5,hg,decide_true,ha,qy]
theorem LY(g:aG h)(o:Ok h n x)(hw:w∈x.rows)(hb:bt∈h.af)(eb:bt.name=w.b)(hl:(w.i+1<bt.long)=False){goal:D}(ho:P0 rD [.d (aw h),.d (ar bt),.d (.str (dy h x w)),.d bz] (rd goal))(hc:bt.ring=false\/(∃f,w.fl=some f)\/w.fl=none/\¬w.gn<r)(ha:(aU.length<1000000)=True):uU 0 [some (.d (.ref A.length)),some (.d (aw h)),some (.d bz),some (.c s.length),some (.d (.str w.bag)),some (.d (aH w.fl)),some (.d (pl w.b w.i)),some (.d (.int w.gn)),a8,a9] (wS A B (aw h) r x s aU)=some (.nx [some (.d (.ref A.length)),some (.d (aw h)),some (.d bz),some (.c s.length),some (.d (.str w.bag)),some (.d (aH w.fl)),some (.d (pl w.b w.i)),some (.d (.int w.gn)),some (.d (ar bt)),some (.d goal)] (wS A B (aw h) r x s (aU++[.tup [.str w.bag,goal]]))):=by
 have e4:=AN g hb;have e5:=λq s=>NY (A:=A) (B:=B) (s:=s) (hd:=aw h) (r:=r) (q:=q) (x:=x)
 have e6:=λs=>e3m (A:=A) (B:=B) (s:=s) (r:=r) g o hw
 have hB:ar bt=.tup [.str bt.name,.int bt.long,.bl bt.ring,.lst (dS bt.outs)]:=rfl;rw[hB] at e4 ho ⊢;rw[eb] at e4 ho ⊢;generalize aw h=hd at *;generalize dy h x w=ct at *;unfold uU;cases er:bt.ring with
 |false=>
  rw[er] at e4 ho;generalize aH w.fl=ff at *;simp only[↓ev,cx,e4,aW,cL,hl,decide_false,aQ,k7,hR,bQ,dO,Iq,e6,ho,ha,qy]
 |true=>
  rw[er] at e4 ho;rcases hc with z|⟨f,hf⟩|⟨hf,hg⟩
  .rw[er] at z;cases z
  .rw[hf];unfold aH;simp only[↓ev,cx,e4,aW,cL,hl,decide_false,aQ,k7,hR,bQ,dO,Iq,e6,ho,ha,qy]
  .rw[hf];unfold aH;have hg:=eq_false hg;simp only[↓ev,cx,e4,aW,cL,hl,decide_false,aQ,k7,hR,bQ,dO,NX,e5,hg,Iq,e6,ho,ha,qy]
theorem e3s(g:aG h)(o:Ok h n x)(hw:w∈x.rows)(ha:aU.length<1000)(s:List Cell):∃b8 b9,uU 0 [some (.d (.ref A.length)),some (.d (aw h)),some (.d (.lst (dS (dP h x)))),some (.c s.length),some (.d (.str w.bag)),some (.d (aH w.fl)),some (.d (pl w.b w.i)),some (.d (.int w.gn)),a8,a9] (wS A B (aw h) r x s aU)=some (.nx [some (.d (.ref A.length)),some (.d (aw h)),some (.d (.lst (dS (dP h x)))),some (.c s.length),some (.d (.str w.bag)),some (.d (aH w.fl)),some (.d (pl w.b w.i)),some (.d (.int w.gn)),b8,b9] (wS A B (aw h) r x s (aU++[.tup [.str w.bag,gD (ao h r x w)]]))):=by
 obtain⟨bt,hb,eb,_,_⟩:=(o.rw w hw).1;have Kc:(aU.length<1000000)=True:=bH (by lia)
 have eg:ao h r x w=lY h r x w bt:=by unfold ao;rw[<-eb,Fg g hb]
 rw[eg];unfold lY;by_cases hl:w.i+1<bt.long
 .rw[aN hl];exact⟨_,_,LW g hb eb (bH hl) Kc⟩
 .rw[aJ hl];by_cases hc:bt.ring=true/\w.fl=none/\w.gn<r
  .rw[aN hc];exact⟨_,_,LX g hb eb (eq_false hl) hc.1 hc.2.1 (bH hc.2.2) Kc⟩
  .rw[aJ hc];obtain⟨a,ea,_⟩:=Jw g o hw hb eb;rw[ea,Eo];refine⟨_,_,LY g o hw hb eb (eq_false hl) (WQ g hb (PK g o hw).1 ea) ?_ Kc⟩;cases er:bt.ring with
   |false=>exact .inl rfl
   |true=>
    cases ef:w.fl with
    |some f=>exact .inr (.inl ⟨f,rfl⟩)
    |none=>exact .inr (.inr ⟨rfl,λz=>hc ⟨er,ef,z⟩⟩)
def kH(h:aB)(r:Int)(x:Hl)(w:Row):D:=.tup [.str w.bag,gD (ao h r x w)]
theorem IQ(g:aG h)(o:Ok h n x):wg 0 [.d (.ref A.length)] (hS A B (aw h) r x s)=some (.ok (.o (.lst ((ord h x.rows).map (kH h r x)))) (hS A B (aw h) r x s)):=by
 have rl:=o.rl;have e1:=λq s=>WL (A:=A) (B:=B) (s:=s) (r:=r) (q:=q) (x:=x) g
 have e2:=λs=>e3r (A:=A) (B:=B) (s:=s) (r:=r) g o
 have e3:=λq s=>CH (A:=A) (B:=B) (s:=s) (r:=r) (q:=q) g o
 have pl:=o.perm.length_eq;obtain⟨U',S',e,⟨a4,a5,a6,a7,a8,a9,rfl⟩,rfl⟩:=jy (gg:=aM [(ae 4),(ae 5),(ae 6),(ae 7)]) (body:=uU 0) (f:=bF) (U:=[some (.d (.ref A.length)),some (.d (aw h)),some (.d (.lst (dS (dP h x)))),some (.c s.length),none,none,none,none,none,none]) (S:=wS A B (aw h) r x s []) (λpre U S'=>(∃a4 a5 a6 a7 a8 a9,U=[some (.d (.ref A.length)),some (.d (aw h)),some (.d (.lst (dS (dP h x)))),some (.c s.length),a4,a5,a6,a7,a8,a9])/\S'=wS A B (aw h) r x s (pre.map (kH h r x))) (ord h x.rows) ⟨⟨_,_,_,_,_,_,rfl⟩,rfl⟩ (by
  rintro d w post eq U S' ⟨⟨a4,a5,a6,a7,a8,a9,rfl⟩,rfl⟩;have hw:w∈x.rows:=o.mem.mp (by rw[eq];simp)
  have hd:d.length<1000:=by
   grind
  obtain⟨b8,b9,e⟩:=e3s (r:=r) (a8:=a8) (a9:=a9) g o hw (aU:=d.map (kH h r x)) (by rw[aY];exact hd) s
  refine⟨_,_,_,rfl,.inl e,⟨_,_,_,_,_,_,rfl⟩,?_⟩;rw[dq];rfl)
 generalize aw h=hd at *;generalize dS (dP h x)=bz at *;unfold wg Oy;simp only[↓ev,hR,bQ,dO,WB,e1,aW,e2,aQ,FL,e3,gu,e,RO,A7]
end
variable{W W':List (Str×D)}{b:Str}{S:aO}{n:Nat}
noncomputable def cf(W:List (Str×D)):List (TK×D):=td (·.1) (·.2) W
noncomputable def cv(G:Row->Goal)(L:List Row):List (TK×D):=td Row.bag (λw=>gD (G w)) L
abbrev tw(S:aO)(n:Nat)(W:List (Str×D)):aO:=⟨S.s.set n (.o (.az (cf W))),S.r⟩
theorem Jx{y:D}(h:b∉W.map (·.1)):bK (cf W) (.inr b) y=cf (W++[(b,y)]):=by
 unfold cf;rw[CF h];unfold td;rw[dq];rfl
theorem b2i:(aR (cf W) (.inr b)).isSome=(W.map (·.1)).contains b:=CG
theorem JK(hn:n<S.s.length):(S.s.set n (.o (.az (cf W))))[n]?=some (.o (.az (cf W))):=vZ hn
theorem Jy:(S.s.set n (.o (.az (cf W)))).set n (.o (.az (cf W')))=S.s.set n (.o (.az (cf W'))):=Ht ..
theorem e3t:(tw S n W').cut (S.s.set n (.o (.az (cf W)))).length=tw S n W':=by
 unfold aO.cut;dsimp only;rw[nq,xV (by rw[nq];exact bG _)]
noncomputable def gm(st:List Str)(G:Row->Goal)(w:Row):aj D:=if st.contains w.b=true then some (.tup [.str "stopped",.str w.b]) else match G w with
 |(b,some _)=>if st.contains b=true then some (.tup [.str "stopped",.str b]) else none
 |(_,none)=>none
def bN(st:List Str)(G:Row->Goal)(L:List Row):List (Str×D):=L.filterMap λw=>(gm st G w).map λy=>(w.bag,y)
section
variable{S:aO}{n:Nat}{st:List Str}{G:Row->Goal}{L:List Row}{w:Row}{W:List (Str×D)}{a8 bg:aj Val}
theorem WR(hn:n<S.s.length)(hv:aR (cv G L) (.inr w.bag)=some (gD (G w)))(hW:w.bag∉W.map (·.1))(hl:W.length<1000):∃b8,As 0 [bg,some (.d (.az (cv G L))),some (.d (.lst (dS st))),some (.c n),some (.d (.str w.bag)),some (.d (aH w.fl)),some (.d (pl w.b w.i)),some (.d (.int w.gn)),a8] (tw S n W)=some (.nx [bg,some (.d (.az (cv G L))),some (.d (.lst (dS st))),some (.c n),some (.d (.str w.bag)),some (.d (aH w.fl)),some (.d (pl w.b w.i)),some (.d (.int w.gn)),b8] (tw S n (W++((gm st G w).map λy=>(w.bag,y)).toList))):=by
 have ta:=JK (W:=W) hn;have ts:=λW'=>Jy (S:=S) (n:=n) (W:=W) (W':=W')
 have hp:=λy=>Jx (y:=y) hW
 have mL:((cf W).length<1000000)=True:=bH (by unfold cf;rw[o9];lia)
 unfold gm;cases h1:st.contains w.b with
 |true=>
  refine⟨some (.d (gD (G w))),?_⟩;generalize gD (G w)=gg at *;generalize aH w.fl=ff at *;show _=some (Fr.nx _ (tw S n (W++[(w.bag,_)])));unfold As;simp only[↓ev,hv,aW,cx,jG,aQ,jF,h1,ta,mL,hp,ts]
 |false=>
  rw[aJ (by decide)]
  generalize aH w.fl=ff at *;obtain⟨c,gi⟩:∃c,G w=c:=⟨_,rfl⟩;rw[gi] at hv ⊢;obtain⟨c,i⟩:=c;cases i with
  |none=>
   refine⟨some (.d (.str c)),?_⟩;show _=some (Fr.nx _ (tw S n (W++[])));rw[l9];unfold As;unfold gD at hv;simp only[↓ev,hv,aW,cx,jG,aQ,jF,h1,KG]
  |some i=>
   refine⟨some (.d (pl c i)),?_⟩;unfold As;unfold gD at hv;dsimp only at hv ⊢;cases h2:st.contains c with
   |true=>
    show _=some (Fr.nx _ (tw S n (W++[(w.bag,_)])));simp only[↓ev,hv,aW,cx,jG,aQ,jF,h1,GZ,h2,ta,mL,hp,ts]
   |false=>
    show _=some (Fr.nx _ (tw S n (W++[])));rw[l9];simp only[↓ev,hv,aW,cx,jG,aQ,jF,h1,GZ,h2]
theorem Uc(st:List Str)(G:Row->Goal)(L:List Row):∀b∈(bN st G L).map (·.1),b∈L.map Row.bag:=λb m=>by
 obtain⟨p,hp,rfl⟩:=cX.mp m;obtain⟨w,hw,e⟩:=rP.mp hp;obtain⟨y,_,rfl⟩:=cW.mp e;exact kS hw
theorem IS{d post:List Row}(eq:L=d++w::post)(nd:(L.map Row.bag).Nodup):w.bag∉d.map Row.bag:=by
 rw[eq,dq,bY] at nd;exact λm=>(iI.mp nd).2.2 _ m _ (.head _) rfl
theorem ZF(hn:n<S.s.length)(nd:(L.map Row.bag).Nodup)(hl:L.length<100):EL 0 [.d (.lst (L.map bF)),.d (.az (cv G L)),.d (.lst (dS st)),.c n] (tw S n [])=some (.ok (rd .aF) (tw S n (bN st G L))):=by
 obtain⟨U',S',e,⟨a4,a5,a6,a7,a8,rfl⟩,rfl⟩:=jy (gg:=aM [(ae 4),(ae 5),(ae 6),(ae 7)]) (body:=As 0) (f:=bF) (U:=[some (.d (.lst (L.map bF))),some (.d (.az (cv G L))),some (.d (.lst (dS st))),some (.c n),none,none,none,none,none]) (S:=tw S n []) (λpre U S'=>(∃a4 a5 a6 a7 a8,U=[some (.d (.lst (L.map bF))),some (.d (.az (cv G L))),some (.d (.lst (dS st))),some (.c n),a4,a5,a6,a7,a8])/\S'=tw S n (bN st G pre)) L ⟨⟨_,_,_,_,_,rfl⟩,rfl⟩ (by
  rintro d w post eq U S' ⟨⟨a4,a5,a6,a7,a8,rfl⟩,rfl⟩;have hw:w∈L:=by rw[eq];simp
  have hv:aR (cv G L) (.inr w.bag)=some (gD (G w)):=kL nd hw;have hd:d.length<100:=by
   grind
  obtain⟨b8,e⟩:=WR (st:=st) (a8:=a8) (bg:=some (.d (.lst (L.map bF)))) hn hv (W:=bN st G d) (λm=>IS eq nd (Uc st G d _ m)) (Mb (Hw _ _) (by lia))
  refine⟨_,_,_,rfl,.inl e,⟨_,_,_,_,_,rfl⟩,?_⟩;unfold bN;rw[Mp];rw[show List.filterMap (λw=>(gm st G w).map λy=>(w.bag,y)) [w]=((gm st G w).map λy=>(w.bag,y)).toList by rw[rn,By];cases(gm st G w) <;> rfl])
 have cu:=e3t (S:=S) (n:=n) (W:=[]) (W':=bN st G L);generalize bN st G L=W2 at *;unfold EL Mx;simp only[↓ev,gu,e,cu]
end
abbrev aV:=Str×Int
noncomputable def kC(p:aV):TK:=.tp [.inr p.1,.inl p.2]
theorem QD{p q:aV}(e:kC p=kC q):p=q:=by
 unfold kC at e;have e:=TK.tp.inj e;have e1:=(List.cons.inj e).1;have e2:=(List.cons.inj (List.cons.inj e).2).1;exact Prod.ext (TK.inr.inj e1) (TK.inl.inj e2)
def fY(C:List (aV×Str)):List (TK×D):=C.map λe=>(kC e.1,.str e.2)
noncomputable def look(C:List (aV×Str))(k:aV):aj Str:=(C.find? λe=>e.1 == k).map (·.2)
noncomputable def j5:List (aV×Str)->aV->Str->List (aV×Str)
 |[],k,v=>[(k,v)]
 |e::es,k,v=>if e.1=k then(e.1,v)::es else e::j5 es k v
theorem yv{e:aV×Str}{es:List (aV×Str)}{k:aV}:look (e::es) k=if e.1=k then some e.2 else look es k:=by
 unfold look;rw[oX];by_cases h:e.1=k
 .rw[aN h,show(e.1 == k)=true from beq_iff_eq.mpr h];rfl
 .rw[aJ h,show(e.1 == k)=false by rw[nc];exact h]
theorem IT(k:aV)(v:Str)(k':aV):∀C:List (aV×Str),look (j5 C k v) k'=if k=k' then some v else look C k'
 |[]=>by show look [(k,v)] k'=_;rw[yv]
 |e::es=>by
  unfold j5;by_cases h:e.1=k
  .rw[aN h,yv,yv,h];split <;> rfl
  .rw[aJ h,yv,IT k v k' es,yv];by_cases h2:e.1=k'
   .rw[aN h2,aN h2,aJ λz=>h (h2.trans z.symm)]
   .rw[aJ h2,aJ h2]
theorem CI(k:aV):∀C:List (aV×Str),aR (fY C) (kC k)=(look C k).map D.str
 |[]=>rfl
 |e::es=>by
  have ih:=CI k es;rw[yv];unfold aR fY at *;rw[bY,oX];dsimp only;by_cases h:e.1=k
  .rw[aN h,qF (by rw[h])];rfl
  .rw[aJ h,rS λz=>h (QD z)];exact ih
theorem Jz(k:aV)(v:Str):∀C:List (aV×Str),bK (fY C) (kC k) (.str v)=fY (j5 C k v)
 |[]=>rfl
 |e::es=>by
  have ih:=Jz k v es;unfold fY at *;rw[bY,Fe];unfold j5;dsimp only;by_cases h:e.1=k
  .rw[aN (by rw[h]),aN h];rfl
  .rw[aJ λz=>h (QD z),aJ h,ih];rfl
theorem OM(k:aV)(v:Str):∀C:List (aV×Str),(j5 C k v).length<=C.length+1
 |[]=>by unfold j5;exact bG _
 |e::es=>by
  have ih:=OM k v es;unfold j5;split
  .rw[jr,jr];lia
  .rw[jr,jr];lia
noncomputable def gk(G:Row->Goal)(w:Row):aV:=((G w).1,(G w).2.getD 0)
def ask(G:Row->Goal)(W:List (Str×D))(L:List Row):List Row:=L.filter λw => !(W.map (·.1)).contains w.bag&&(G w).2.isSome
theorem QY{G:Row->Goal}{w:Row}(h:(G w).2.isSome=true):gD (G w)=pl (gk G w).1 (gk G w).2:=by
 unfold gk gD;generalize G w=p at *;obtain⟨c,i⟩:=p;cases i with
 |none=>cases h
 |some i=>rfl
theorem kp{o:Str}{j:Int}:oV [.str o,.int j]=some [.inr o,.inl j]:=by simp[oV,rO]
def sJ(G:Row->Goal)(C:List (aV×Str))(w:Row):List (aV×Str):=if look C (gk G w)=none\/w.b=(gk G w).1 then j5 C (gk G w) w.bag else C
section
variable{S:aO}{n m:Nat}{G:Row->Goal}{L:List Row}{w:Row}{W:List (Str×D)}{C:List (aV×Str)}{a8 a9 EG g0 g3:aj Val}{t rr:List Cell}
theorem e3v(hv:aR (cv G L) (.inr w.bag)=some (gD (G w)))(hs:(G w).2.isSome=true)(ht:t[m]?=some (.o (.az (fY C))))(hl:C.length<1000):BL 0 [g0,some (.d (.az (cv G L))),some (.c n),g3,some (.c m),some (.d (.str w.bag)),some (.d (aH w.fl)),some (.d (pl w.b w.i)),some (.d (.int w.gn)),a9,EG] ⟨t,rr⟩=some (.nx [g0,some (.d (.az (cv G L))),some (.c n),g3,some (.c m),some (.d (.str w.bag)),some (.d (aH w.fl)),some (.d (pl w.b w.i)),some (.d (.int w.gn)),some (.d (gD (G w))),EG] ⟨t.set m (.o (.az (fY (sJ G C w)))),rr⟩):=by
 rw[QY hs] at hv ⊢;have v:=CI (gk G w) C;have pu:=Jz (gk G w) w.bag C;have mL:((fY C).length<1000000)=True:=bH (by unfold fY;rw[aY];lia)
 have lt:(m<t.length)=True:=bH (eS.mp ht).1;have se:t.set m (.o (.az (fY C)))=t:=by
  obtain⟨h1,h2⟩:=eS.mp ht;rw[<-h2,Mq]
 unfold sJ;unfold kC at v pu;generalize aH w.fl=ff at *;unfold BL;cases hk:look C (gk G w) with
 |none=>
  rw[aN (.inl rfl)];rw[hk] at v;simp only[↓ev,hv,aW,ht,v,Ai,nv,mL,pu]
 |some b=>
  rw[hk] at v;cases he:(w.b == (gk G w).1) with
  |true=>
   rw[aN (.inr (beq_iff_eq.mp he))];simp only[↓ev,hv,aW,ht,v,Al,kI,aQ,cx,qU,he,mL,pu]
  |false=>
   rw[aJ (by rw[not_or];exact⟨λz=>(by cases z),λz=>(by rw[z,jD] at he;cases he)⟩),se]
   simp only[↓ev,hv,aW,ht,v,Al,kI,aQ,cx,qU,he]
theorem WS(q:Nat)(nd:(L.map Row.bag).Nodup)(hl:L.length<=1000)(hn:t[n]?=some (.o (.az (cf W)))):bx (ae 0) (HJ q) (HK q) (L.map bF) [none,some (.c n),some (.d (.az (cv G L)))] ⟨t,rr⟩ []=some (.ok ((ask G W L).map bF) ⟨t,rr⟩):=by
 rw[wB (λw=>if(!(W.map (·.1)).contains w.bag&&(G w).2.isSome)=true then some (bF w) else none) L (by lia) λw m=>by
  have v:aR (cv G L) (.inr w.bag)=_:=kL nd m;have i:=b2i (W:=W) (b:=w.bag);unfold HJ HK;cases h1:(W.map (·.1)).contains w.bag with
  |true=>
   refine .inl ⟨rfl,?_⟩;rw[h1] at i;unfold bF;generalize aH w.fl=ff at *;generalize gD (G w)=gg at *;simp only[↓ev,cx,hn,i,kI,aQ]
  |false=>
   rw[h1] at i;cases h2:(G w).2 with
   |none=>
    have e:gD (G w)=.str (G w).1:=by unfold gD;generalize G w=p at *;obtain⟨c,j⟩:=p;cases h2;rfl
    rw[e] at v;refine .inl ⟨rfl,?_⟩;unfold bF;generalize aH w.fl=ff at *;simp only[↓ev,cx,hn,i,nv,v,KG]
   |some j=>
    have e:gD (G w)=pl (G w).1 j:=by unfold gD;generalize G w=p at *;obtain⟨c,j⟩:=p;cases h2;rfl
    rw[e] at v;refine .inr ⟨rd (bF w),bF w,rfl,?_,?_,rfl⟩
    .unfold bF;generalize aH w.fl=ff at *;simp only[↓ev,cx,hn,i,nv,v,GZ]
    rfl]
 congr 2
 unfold ask;clear nd hl
 induction L with
 |nil=>rfl
 |cons w L ih=>
  rw[rn,ue,ih];cases(!(W.map (·.1)).contains w.bag&&(G w).2.isSome) <;> rfl
end
variable{G:Row->Goal}
def nA(G:Row->Goal)(d:List Row)(C:List (aV×Str)):Prop:=(∀k b,look C k=some b->∃c∈d,c.bag=b/\gk G c=k/\((∃z∈d,gk G z=k/\z.b=k.1)->c.b=k.1))/\(∀w∈d,look C (gk G w)≠none)/\C.length<=d.length
theorem e3w:nA G [] []:=⟨λk b e=>(by cases e),λw m=>(by cases m),bG _⟩
theorem ZG{d:List Row}{C:List (aV×Str)}(o:nA G d C)(w:Row):nA G (d++[w]) (sJ G C w):=by
 obtain⟨o1,o2,o3⟩:=o;have me:∀{z},z∈d++[w]↔z∈d\/z=w:=λ{z}=>by rw[e_,kR]
 unfold sJ;by_cases hc:look C (gk G w)=none\/w.b=(gk G w).1
 .rw[aN hc];refine⟨λk b e=>?_,λz m=>?_,?_⟩
  .rw[IT] at e;by_cases hk:gk G w=k
   .rw[aN hk] at e;refine⟨w,me.mpr (.inr rfl),Option.some.inj e,hk,λ⟨z,mz,e1,e2⟩=>?_⟩
    rcases hc with hc|hc
    .rcases me.mp mz with mz|rfl
     .exact bT (by rw[e1,<-hk];exact hc) (o2 z mz)
     .exact e2
    .rw[<-hk];exact hc
   .rw[aJ hk] at e;obtain⟨c,mc,e1,e2,e3⟩:=o1 k b e;refine⟨c,me.mpr (.inl mc),e1,e2,λ⟨z,mz,e4,e5⟩=>e3 ?_⟩
    rcases me.mp mz with mz|rfl
    .exact⟨z,mz,e4,e5⟩
    .exact bT e4 hk
  .rw[IT];split
   .intro z;cases z
   .rename_i hk
    rcases me.mp m with m|rfl
    .exact o2 z m
    .exact bT rfl hk
  .rw[cB];exact jo (OM _ _ _) (Nat.add_le_add_right o3 1)
 .rw[aJ hc];rw[not_or] at hc;refine⟨λk b e=>?_,λz m=>?_,by rw[cB];lia⟩
  .obtain⟨c,mc,e1,e2,e3⟩:=o1 k b e;refine⟨c,me.mpr (.inl mc),e1,e2,λ⟨z,mz,e4,e5⟩=>e3 ?_⟩
   rcases me.mp mz with mz|rfl
   .exact⟨z,mz,e4,e5⟩
   .exact bT (by rw[e4];exact e5) hc.2
  .rcases me.mp m with m|rfl
   .exact o2 z m
   .exact hc.1
def yQ(G:Row->Goal)(d:List Row):List (aV×Str):=d.foldl (sJ G) []
def du(G:Row->Goal)(C:List (aV×Str))(w:Row):aj (Str×D):=match look C (gk G w) with
 |none=>none
 |some c=>if c=w.bag then none else some (w.bag,.tup [.str "yields",.str c])
section
variable{S:aO}{n m:Nat}{G:Row->Goal}{L A:List Row}{w:Row}{W:List (Str×D)}{C:List (aV×Str)}{a8 a9 EG g0 g3:aj Val}{t rr:List Cell}
theorem e3x(hv:aR (cv G L) (.inr w.bag)=some (gD (G w)))(hs:(G w).2.isSome=true)(hm:t[m]?=some (.o (.az (fY C))))(hn:t[n]?=some (.o (.az (cf W))))(hW:w.bag∉W.map (·.1))(hl:W.length<1000){c:Str}(hk:look C (gk G w)=some c):BM 0 [g0,some (.d (.az (cv G L))),some (.c n),g3,some (.c m),some (.d (.str w.bag)),some (.d (aH w.fl)),some (.d (pl w.b w.i)),some (.d (.int w.gn)),a9,EG] ⟨t,rr⟩=some (.nx [g0,some (.d (.az (cv G L))),some (.c n),g3,some (.c m),some (.d (.str w.bag)),some (.d (aH w.fl)),some (.d (pl w.b w.i)),some (.d (.int w.gn)),a9,some (.d (.str c))] ⟨t.set n (.o (.az (cf (W++(du G C w).toList)))),rr⟩):=by
 rw[QY hs] at hv;have v:=CI (gk G w) C;rw[hk] at v;have hp:=λy=>Jx (y:=y) hW
 have mL:((cf W).length<1000000)=True:=bH (by unfold cf;rw[o9];lia)
 have lt:(n<t.length)=True:=bH (eS.mp hn).1;have se:t.set n (.o (.az (cf W)))=t:=by
  obtain⟨h1,h2⟩:=eS.mp hn;rw[<-h2,Mq]
 unfold du;rw[hk];dsimp only;unfold kC at v;generalize aH w.fl=ff at *;unfold BM;cases he:(c == w.bag) with
 |true=>
  rw[aN (beq_iff_eq.mp he)];show _=some (Fr.nx _ ⟨t.set n (.o (.az (cf (W++[])))),rr⟩);rw[l9,se];simp only[↓ev,hv,hm,v,aW,qU,he,kI,aQ]
 |false=>
  rw[aJ (by rw[nc] at he;exact he)]
  show _=some (Fr.nx _ ⟨t.set n (.o (.az (cf (W++[(w.bag,.tup [.str "yields",.str c])])))),rr⟩);simp only[↓ev,hv,hm,v,aW,qU,he,nv,hn,mL,hp]
theorem jH:w∈ask G W L↔w∈L/\w.bag∉W.map (·.1)/\(G w).2.isSome=true:=by
 unfold ask;rw[qC,lC,Bool.not_eq_true',Ak,ne_eq,gP]
theorem WT(C:List (aV×Str))(A:List Row):∀b∈(A.filterMap (du G C)).map (·.1),b∈A.map Row.bag:=λb m=>by
 obtain⟨p,hp,rfl⟩:=cX.mp m;obtain⟨w,hw,e⟩:=rP.mp hp;unfold du at e;split at e
 .cases e
 .split at e
  .cases e
  .cases e;exact kS hw
theorem ZH(nd:(L.map Row.bag).Nodup)(hl:L.length<100)(hA:∀w∈A,w∈L/\(G w).2.isSome=true)(Gu:A.length<100)(t:List Cell):∃C,nA G A C/\C=yQ G A/\∃a5 a6 a7 a8 a9,aA (aM [(ae 5),(ae 6),(ae 7),(ae 8)]) (BL 0) (A.map bF) [g0,some (.d (.az (cv G L))),some (.c n),g3,some (.c t.length),none,none,none,none,none,none] ⟨t++[.o (.az [])],rr⟩=some (.nx [g0,some (.d (.az (cv G L))),some (.c n),g3,some (.c t.length),a5,a6,a7,a8,a9,none] ⟨t++[.o (.az (fY C))],rr⟩):=by
 obtain⟨U',S',e,⟨a5,a6,a7,a8,a9,rfl⟩,C,oC,hC,rfl⟩:=jy (gg:=aM [(ae 5),(ae 6),(ae 7),(ae 8)]) (body:=BL 0) (f:=bF) (U:=[g0,some (.d (.az (cv G L))),some (.c n),g3,some (.c t.length),none,none,none,none,none,none]) (S:=⟨t++[.o (.az [])],rr⟩) (λpre U S'=>(∃a5 a6 a7 a8 a9,U=[g0,some (.d (.az (cv G L))),some (.c n),g3,some (.c t.length),a5,a6,a7,a8,a9,none])/\∃C,nA G pre C/\C=yQ G pre/\S'=⟨t++[.o (.az (fY C))],rr⟩) A ⟨⟨_,_,_,_,_,rfl⟩,[],e3w,rfl,rfl⟩ (by
  rintro d w post eq U S' ⟨⟨a5,a6,a7,a8,a9,rfl⟩,C,oC,hC,rfl⟩;obtain⟨hw,hs⟩:=hA w (by rw[eq];simp)
  have hd:d.length<100:=by
   grind
  have:=oC.2.2;refine⟨_,_,_,rfl,.inl (e3v (kL nd hw) hs bQ (by lia)),⟨_,_,_,_,_,rfl⟩,sJ G C w,ZG oC w,by unfold yQ at *;rw[Ho,hC];rfl,?_⟩
  rw[qy];rfl)
 exact⟨C,oC,hC,a5,a6,a7,a8,a9,e⟩
theorem ZI(nd:(L.map Row.bag).Nodup)(K3:(A.map Row.bag).Nodup)(hA:∀w∈A,w∈L/\w.bag∉W.map (·.1)/\(G w).2.isSome=true)(Gu:A.length<100)(Kb:W.length<100)(oC:nA G A C){t:List Cell}(hn:t[n]?=some (.o (.az (cf W))))(hm:t[m]?=some (.o (.az (fY C))))(nm:n≠m){a5 a6 a7 a8 a9:aj Val}:∃b5 b6 b7 b8 yK,aA (aM [(ae 5),(ae 6),(ae 7),(ae 8)]) (BM 0) (A.map bF) [g0,some (.d (.az (cv G L))),some (.c n),g3,some (.c m),a5,a6,a7,a8,a9,none] ⟨t,rr⟩=some (.nx [g0,some (.d (.az (cv G L))),some (.c n),g3,some (.c m),b5,b6,b7,b8,a9,yK] ⟨t.set n (.o (.az (cf (W++A.filterMap (du G C))))),rr⟩):=by
 have lt:=(eS.mp hn).1;have se:t.set n (.o (.az (cf (W++[]))))=t:=by
  obtain⟨h1,h2⟩:=eS.mp hn;rw[l9,<-h2,Mq]
 obtain⟨U',S',e,⟨b5,b6,b7,b8,yK,rfl⟩,rfl⟩:=jy (gg:=aM [(ae 5),(ae 6),(ae 7),(ae 8)]) (body:=BM 0) (f:=bF) (U:=[g0,some (.d (.az (cv G L))),some (.c n),g3,some (.c m),a5,a6,a7,a8,a9,none]) (S:=⟨t,rr⟩) (λpre U S'=>(∃b5 b6 b7 b8 yK,U=[g0,some (.d (.az (cv G L))),some (.c n),g3,some (.c m),b5,b6,b7,b8,a9,yK])/\S'=⟨t.set n (.o (.az (cf (W++pre.filterMap (du G C))))),rr⟩) A ⟨⟨_,_,_,_,_,rfl⟩,by rw[By,se]⟩ (by
  rintro d w post eq U S' ⟨⟨b5,b6,b7,b8,yK,rfl⟩,rfl⟩;have Rz:w∈A:=by rw[eq];simp
  obtain⟨hw,hwW,hs⟩:=hA w Rz;have hd:d.length<100:=by
   have:=congrArg List.length eq;rw[cB] at this;lia
  obtain⟨c,hc⟩:=Option.ne_none_iff_exists'.mp (oC.2.1 w Rz);have hlen:=Hw (du G C) d;refine⟨_,_,_,rfl,.inl (e3x (kL nd hw) hs (by rw[Bq nm];exact hm) (by rw[vZ lt]) (W:=W++d.filterMap (du G C)) (λz=>?_) (by rw[cB];lia) hc),⟨_,_,_,_,_,rfl⟩,?_⟩
  .rw[dq,e_] at z;rcases z with z|z
   .exact hwW z
   .exact IS eq K3 (WT C d _ z)
  .rw[Ht,Mp,nt,show List.filterMap (du G C) [w]=(du G C w).toList by rw[rn,By];cases du G C w <;> rfl])
 exact⟨b5,b6,b7,b8,yK,e⟩
theorem ZJ(hn:n<S.s.length)(nd:(L.map Row.bag).Nodup)(hl:L.length<100)(Kb:W.length<100):∃C,nA G (ask G W L) C/\C=yQ G (ask G W L)/\EH 0 [.d (.lst (L.map bF)),.d (.az (cv G L)),.c n] (tw S n W)=some (.ok (rd .aF) (tw S n (W++(ask G W L).filterMap (du G C)))):=by
 have ta:=JK (W:=W) hn;have hA:∀w∈ask G W L,w∈L/\w.bag∉W.map (·.1)/\(G w).2.isSome=true:=λw m=>jH.mp m
 have Gu:(ask G W L).length<100:=Mb (xZ _ _) hl;have K3:((ask G W L).map Row.bag).Nodup:=nd.sublist (List.Sublist.map _ Hk);have e1:=λq=>WS (G:=G) (rr:=S.r) q nd (by lia) ta
 obtain⟨C,oC,hC,a5,a6,a7,a8,a9,e2⟩:=ZH (n:=n) (rr:=S.r) (g0:=some (.d (.lst (L.map bF)))) (g3:=some (.d (.lst ((ask G W L).map bF)))) nd hl (λw m=>⟨(hA w m).1,(hA w m).2.2⟩) Gu (S.s.set n (.o (.az (cf W))))
 have mO:n<(S.s.set n (.o (.az (cf W)))).length:=by rw[nq];exact hn
 obtain⟨b5,b6,b7,b8,yK,e3⟩:=ZI (n:=n) (m:=(S.s.set n (.o (.az (cf W)))).length) (rr:=S.r) (g0:=some (.d (.lst (L.map bF)))) (g3:=some (.d (.lst ((ask G W L).map bF)))) (a5:=a5) (a6:=a6) (a7:=a7) (a8:=a8) (a9:=a9) nd K3 hA Gu Kb oC (t:=S.s.set n (.o (.az (cf W)))++[.o (.az (fY C))]) (by rw[xS mO];exact ta) bQ (by lia)
 refine⟨C,oC,hC,?_⟩;clear hC;generalize(ask G W L).filterMap (du G C)=Y at *;rw[List.set_append_left _ _ mO,Jy] at e3;have cu:aO.cut ⟨S.s.set n (.o (.az (cf (W++Y))))++[.o (.az (fY C))],S.r⟩ (S.s.set n (.o (.az (cf W)))).length=tw S n (W++Y):=by
  unfold aO.cut;dsimp only;rw[nq,List.take_append_of_le_length (by rw[nq];exact bG _),xV (by rw[nq];exact bG _)]
 generalize(ask G W L).map bF=al at *;unfold EH Ms;simp only[↓ev,gu,e1,aW,e2,e3,cu]
end
variable{C:List (aV×Str)}
noncomputable def gR(L:List Row):List (aV×Str):=L.map λw=>((w.b,w.i),w.bag)
theorem ON{k:aV}{v:Str}:∀{C:List (aV×Str)},k∉C.map (·.1)->j5 C k v=C++[(k,v)]
 |[],_=>rfl
 |e::es,h=>by
  rw[bY,y07,not_or] at h;unfold j5;rw[aJ λz=>h.1 z.symm,ON h.2]
  rfl
theorem WU{k:aV}{b:Str}(nd:(C.map (·.1)).Nodup)(h:(k,b)∈C):look C k=some b:=by
 induction C with
 |nil=>cases h
 |cons e es ih=>
  rw[bY,qE] at nd;rw[yv];rcases y07.mp h with rfl|m
  .rw[aN rfl]
  .rw[aJ λz=>nd.1 (by rw[z];exact kS (f:=(·.1)) m)]
   exact ih nd.2 m
def hold(G:Row->Goal)(L:List Row)(w:Row):aj Str:=match(G w).2 with
 |none=>none
 |some i=>look (gR L) ((G w).1,i)
noncomputable def A5(o:Str):D:=.tup [.str "behind",.str o]
def ia(G:Row->Goal)(L:List Row)(X:List (Str×D))(w:Row)(o:Str):Prop:=w.bag∉X.map (·.1)/\hold G L w=some o/\o∈X.map (·.1)
inductive gw (G:Row->Goal) (L:List Row) (W:List (Str×D)):List (Str×D)->Prop
 |base:gw G L W W
 |step {X:List (Str×D)} {w:Row} {o:Str}:gw G L W X->w∈L->ia G L X w o->gw G L W (X++[(w.bag,A5 o)])
theorem gw.trans{G:Row->Goal}{L:List Row}{W X Y:List (Str×D)}(a:gw G L W X)(b:gw G L X Y):gw G L W Y:=by
 induction b with
 |base=>exact a
 |step _ hw hc ih=>exact .step ih hw hc
section
variable{S:aO}{n m:Nat}{G:Row->Goal}{L:List Row}{w:Row}{W X:List (Str×D)}{a5 a6 a7 a9 g0:aj Val}{t rr:List Cell}{gr:Bool}
theorem e3y{d:List Row}(ht:t[m]?=some (.o (.az (fY (gR d)))))(hl:d.length<1000)(hk:(w.b,w.i)∉d.map λw=>(w.b,w.i)){g1 g2 a8:aj Val}:BN 0 [g0,g1,g2,some (.c m),some (.d (.str w.bag)),some (.d (aH w.fl)),some (.d (pl w.b w.i)),some (.d (.int w.gn)),a8,a9] ⟨t,rr⟩=some (.nx [g0,g1,g2,some (.c m),some (.d (.str w.bag)),some (.d (aH w.fl)),some (.d (pl w.b w.i)),some (.d (.int w.gn)),a8,a9] ⟨t.set m (.o (.az (fY (gR (d++[w]))))),rr⟩):=by
 have pu:=Jz (w.b,w.i) w.bag (gR d);rw[ON (by unfold gR;rw[eU];exact hk),show gR d++[((w.b,w.i),w.bag)]=gR (d++[w]) by unfold gR;rw[dq];rfl] at pu
 have mL:((fY (gR d)).length<1000000)=True:=bH (by unfold fY gR;rw[aY,aY];lia)
 have lt:(m<t.length)=True:=bH (eS.mp ht).1;unfold kC at pu;dsimp only at pu;generalize aH w.fl=ff at *;unfold BN;simp only[↓ev,ht,mL,pu]
theorem WV{t:List Cell}{n:Nat}{c:Cell}(h:t[n]?=some c):t.set n c=t:=by
 obtain⟨h1,h2⟩:=eS.mp h;rw[<-h2,Mq]
theorem e3z{c:Str}:aR (fY C) (.inr c)=none:=by
 unfold aR fY;rw[v7.mpr]
 .rfl
 .intro e m z;obtain⟨p,_,rfl⟩:=cX.mp m;have:=Am z;unfold kC at this;cases this
theorem e4a{α:Type}{k:α->Str}{v:α->D}{xs:List α}:aR (td k v xs) TK.aF=none:=by
 unfold aR td;rw[v7.mpr]
 .rfl
 .intro e m z;obtain⟨p,_,rfl⟩:=cX.mp m;cases Am z
theorem e6z(hv:aR (cv G L) (.inr w.bag)=some (gD (G w)))(hm:t[m]?=some (.o (.az (fY (gR L)))))(hn:t[n]?=some (.o (.az (cf X))))(hc:∀o,¬ia G L X w o):∃b9,yj 0 [g0,some (.d (.az (cv G L))),some (.c n),some (.c m),some (.d (.str w.bag)),a5,a6,a7,some (.d (.bl gr)),a9] ⟨t,rr⟩=some (.nx [g0,some (.d (.az (cv G L))),some (.c n),some (.c m),some (.d (.str w.bag)),a5,a6,a7,some (.d (.bl gr)),b9] ⟨t,rr⟩):=by
 have i:=b2i (W:=X) (b:=w.bag);have nn:aR (cf X) TK.aF=none:=e4a;unfold ia hold at hc;unfold yj;generalize G w=p at *;obtain⟨c,j⟩:=p;cases j with
 |none=>
  unfold gD at hv;have v:=e3z (C:=gR L) (c:=c);refine⟨some (.d .aF),?_⟩;cases h1:(X.map (·.1)).contains w.bag with
  |true=>
   rw[h1] at i;simp only[↓ev,hm,hv,v,aW,hn,i,kI,aQ]
  |false=>
   rw[h1] at i;simp only[↓ev,hm,hv,v,aW,hn,i,nv,aQ,nn,Ai]
 |some j=>
  unfold gD at hv;dsimp only at hc hv;have v:=CI (c,j) (gR L);unfold kC at v;dsimp only at v;cases hk:look (gR L) (c,j) with
  |none=>
   rw[hk] at v;refine⟨some (.d .aF),?_⟩;cases h1:(X.map (·.1)).contains w.bag with
   |true=>
    rw[h1] at i;simp only[↓ev,hm,hv,v,aW,hn,i,kI,aQ]
   |false=>
    rw[h1] at i;simp only[↓ev,hm,hv,v,aW,hn,i,nv,aQ,nn,Ai]
  |some o=>
   rw[hk] at v;refine⟨some (.d (.str o)),?_⟩;cases h1:(X.map (·.1)).contains w.bag with
   |true=>
    rw[h1] at i;simp only[↓ev,hm,hv,v,aW,hn,i,kI,aQ]
   |false=>
    rw[h1] at i;have i2:=b2i (W:=X) (b:=o);have h2:(X.map (·.1)).contains o=false:=by
     rw[Ak];intro z;exact hc o ⟨λy=>(by rw[gP.mpr y] at h1;cases h1),hk,gP.mp z⟩
    rw[h2] at i2;simp only[↓ev,hm,hv,v,aW,hn,i,nv,aQ,i2]
theorem e4b(hv:aR (cv G L) (.inr w.bag)=some (gD (G w)))(hm:t[m]?=some (.o (.az (fY (gR L)))))(hn:t[n]?=some (.o (.az (cf X)))){o:Str}(hc:ia G L X w o)(hl:X.length<1000):yj 0 [g0,some (.d (.az (cv G L))),some (.c n),some (.c m),some (.d (.str w.bag)),a5,a6,a7,some (.d (.bl gr)),a9] ⟨t,rr⟩=some (.nx [g0,some (.d (.az (cv G L))),some (.c n),some (.c m),some (.d (.str w.bag)),a5,a6,a7,some (.d (.bl true)),some (.d (.str o))] ⟨t.set n (.o (.az (cf (X++[(w.bag,A5 o)])))),rr⟩):=by
 have i:=b2i (W:=X) (b:=w.bag);have i2:=b2i (W:=X) (b:=o);obtain⟨c1,c2,c3⟩:=hc;rw[show(X.map (·.1)).contains w.bag=false by rw[Ak];exact λz=>c1 (gP.mp z)] at i
 rw[gP.mpr c3] at i2;have hp:=Jx (y:=A5 o) c1;have mL:((cf X).length<1000000)=True:=bH (by unfold cf;rw[o9];lia)
 have lt:(n<t.length)=True:=bH (eS.mp hn).1;unfold hold at c2;unfold yj;generalize G w=p at *;obtain⟨c,j⟩:=p;cases j with
 |none=>cases c2
 |some j=>
  unfold gD at hv;dsimp only at c2 hv;have v:=CI (c,j) (gR L);unfold kC at v;dsimp only at v;rw[c2] at v;unfold A5 at hp ⊢;simp only[↓ev,hm,hv,v,aW,hn,i,nv,aQ,i2,mL,hp]
end
variable{X:List (Str×D)}{w:Row}{L:List Row}
noncomputable def nk(X:List (Str×D))(w:Row):Bool := !(X.map (·.1)).contains w.bag
theorem mS:nk X w=true↔w.bag∉X.map (·.1):=by
 unfold nk;rw[Bool.not_eq_true',Ak,ne_eq,gP]
def mu(L:List Row)(X:List (Str×D)):Nat:=(L.filter (nk X)).length
theorem ZK{y:D}(hw:w∈L)(h:w.bag∉X.map (·.1)):mu L (X++[(w.bag,y)])<mu L X:=by
 unfold mu;have e:L.filter (nk (X++[(w.bag,y)]))=(L.filter (nk X)).filter λz=>decide (z.bag≠w.bag):=by
  rw[List.filter_filter];refine Hv λz _=>?_
  rw[Ae,mS,lC,mS,y9a,dq,e_,List.map_singleton,kR];exact⟨λz=>⟨λy=>z (.inr y),λy=>z (.inl y)⟩,λz y=>y.elim z.2 z.1⟩
 rw[e,List.length_filter_lt_length_iff_exists];exact⟨w,qC.mpr ⟨hw,mS.mpr h⟩,by simp⟩
theorem gw.z_{G:Row->Goal}{W:List (Str×D)}(a:gw G L W X):X.length+mu L X<=W.length+mu L W:=by
 induction a with
 |base=>exact bG _
 |@step X w o _ hw hc ih=>
  have:=ZK (y:=A5 o) hw hc.1;rw[cB];simp;lia
theorem QZ:mu L X<=L.length:=xZ _ _
section
variable{S:aO}{n m:Nat}{G:Row->Goal}{L:List Row}{w:Row}{W X:List (Str×D)}{a4 a5 a6 a7 a9 g0:aj Val}{t rr:List Cell}
theorem WW(nd:(L.map Row.bag).Nodup)(hl:L.length<100)(hX:X.length<200)(nm:n≠m)(hm:t[m]?=some (.o (.az (fY (gR L)))))(hn:t[n]?=some (.o (.az (cf X)))):∃X' gr b4 b9,gw G L X X'/\(gr=true->X.length<X'.length)/\(gr=false->X'=X/\∀w∈L,∀o,¬ia G L X w o)/\aA (ae 4) (yj 0) (dS (L.map Row.bag)) [g0,some (.d (.az (cv G L))),some (.c n),some (.c m),a4,a5,a6,a7,some (.d (.bl false)),a9] ⟨t,rr⟩=some (.nx [g0,some (.d (.az (cv G L))),some (.c n),some (.c m),b4,a5,a6,a7,some (.d (.bl gr)),b9] ⟨t.set n (.o (.az (cf X'))),rr⟩):=by
 have lt:=(eS.mp hn).1;rw[show dS (L.map Row.bag)=L.map λw=>.str w.bag by unfold dS;rw[eU];rfl]
 obtain⟨U',S',e,X',gr,b4,b9,rfl,rfl,i1,i2,i3⟩:=jy (gg:=ae 4) (body:=yj 0) (f:=λw:Row=>.str w.bag) (U:=[g0,some (.d (.az (cv G L))),some (.c n),some (.c m),a4,a5,a6,a7,some (.d (.bl false)),a9]) (S:=⟨t,rr⟩) (λpre U S'=>∃X' gr b4 b9,U=[g0,some (.d (.az (cv G L))),some (.c n),some (.c m),b4,a5,a6,a7,some (.d (.bl gr)),b9]/\S'=⟨t.set n (.o (.az (cf X'))),rr⟩/\gw G L X X'/\(gr=true->X.length<X'.length)/\(gr=false->X'=X/\∀w∈pre,∀o,¬ia G L X w o)) L ⟨X,false,_,_,rfl,by rw[WV hn],.base,λz=>(by cases z),λ_=>⟨rfl,λw m=>(by cases m)⟩⟩ (by
  rintro d w post eq U S' ⟨X',gr,b4,b9,rfl,rfl,i1,i2,i3⟩;have hw:w∈L:=by rw[eq];simp
  have hv:aR (cv G L) (.inr w.bag)=some (gD (G w)):=kL nd hw;have qp:(t.set n (.o (.az (cf X'))))[m]?=some (.o (.az (fY (gR L)))):=by rw[Bq nm];exact hm
  have GP:(t.set n (.o (.az (cf X'))))[n]?=some (.o (.az (cf X'))):=vZ lt;have tt:=i1.z_;have ml:=QZ (L:=L) (X:=X);by_cases hc:∃o,ia G L X' w o
  .obtain⟨o,hc⟩:=hc;refine⟨_,_,_,rfl,.inl (e4b hv qp GP hc (by lia)),_,true,_,_,rfl,by rw[Ht],.step i1 hw hc,λ_=>?_,λz=>(by cases z)⟩
   have:=(gw.step i1 hw hc).z_;rw[cB];have h2:X.length<=X'.length:=by
    cases gr with
    |true=>have:=i2 rfl;lia
    |false=>rw[(i3 rfl).1];exact bG _
   simp;lia
  .obtain⟨c9,e⟩:=e6z (gr:=gr) (a5:=a5) (a6:=a6) (a7:=a7) (a9:=b9) (g0:=g0) (rr:=rr) hv qp GP λo z=>hc ⟨o,z⟩
   refine⟨_,_,_,rfl,.inl e,X',gr,_,_,rfl,rfl,i1,i2,λz=>⟨(i3 z).1,λw' mw o co=>?_⟩⟩
   rcases e_.mp mw with mw|mw
   .exact(i3 z).2 w' mw o co
   .rw[kR.mp mw] at co;exact hc ⟨o,by rw[(i3 z).1];exact co⟩)
 exact⟨X',gr,b4,b9,i1,i2,i3,e⟩
theorem WX(nd:(L.map Row.bag).Nodup)(hl:L.length<100)(hX:X.length<200)(nm:n≠m)(hm:t[m]?=some (.o (.az (fY (gR L)))))(hn:t[n]?=some (.o (.az (cf X)))){a8:aj Val}:∃X' gr b4 b9,gw G L X X'/\(gr=true->X.length<X'.length)/\(gr=false->X'=X/\∀w∈L,∀o,¬ia G L X w o)/\EI 0 [g0,some (.d (.az (cv G L))),some (.c n),some (.c m),a4,a5,a6,a7,a8,a9] ⟨t,rr⟩=some (.nx [g0,some (.d (.az (cv G L))),some (.c n),some (.c m),b4,a5,a6,a7,some (.d (.bl gr)),b9] ⟨t.set n (.o (.az (cf X'))),rr⟩):=by
 obtain⟨X',gr,b4,b9,i1,i2,i3,e⟩:=WW (G:=G) (a4:=a4) (a5:=a5) (a6:=a6) (a7:=a7) (a9:=a9) (g0:=g0) (rr:=rr) nd hl hX nm hm hn;refine⟨X',gr,b4,b9,i1,i2,i3,?_⟩;have k:(cv G L).map (·.1.d)=dS (L.map Row.bag):=Px
 unfold EI;simp only[↓ev,aW,k,gu,e]
theorem N1(nd:(L.map Row.bag).Nodup)(hl:L.length<100)(nm:n≠m):∀(f:Nat) {X:List (Str×D)} {t:List Cell} {a4 a9:aj Val},X.length+mu L X<200->mu L X+2<=f->t[m]?=some (.o (.az (fY (gR L))))->t[n]?=some (.o (.az (cf X)))->∃X' b4 b9,gw G L X X'/\(∀w∈L,∀o,¬ia G L X' w o)/\cH (cJ (sV 8)) (EI 0) f [g0,some (.d (.az (cv G L))),some (.c n),some (.c m),a4,a5,a6,a7,some (.d (.bl true)),a9] ⟨t,rr⟩=some (.nx [g0,some (.d (.az (cv G L))),some (.c n),some (.c m),b4,a5,a6,a7,some (.d (.bl false)),b9] ⟨t.set n (.o (.az (cf X'))),rr⟩)
 |0,X,t,a4,a9,h1,h2,hm,hn=>by lia
 |f+1,X,t,a4,a9,h1,h2,hm,hn=>by
  have lt:=(eS.mp hn).1;obtain⟨X',gr,b4,b9,i1,i2,i3,e⟩:=WX (G:=G) (a4:=a4) (a5:=a5) (a6:=a6) (a7:=a7) (a8:=some (.d (.bl true))) (a9:=a9) (g0:=g0) (rr:=rr) nd hl (by lia) nm hm hn
  have tt:=i1.z_;cases gr with
  |true=>
   have l1:=i2 rfl;obtain⟨Y,c4,c9,j1,j2,e2⟩:=N1 nd hl nm f (X:=X') (t:=t.set n (.o (.az (cf X')))) (a4:=b4) (a9:=b9) (by lia) (by lia) (by rw[Bq nm];exact hm) (vZ lt)
   rw[Ht] at e2;refine⟨Y,c4,c9,i1.trans j1,j2,?_⟩;unfold cH;simp only[↓ev,e,e2]
  |false=>
   obtain⟨j1,j2⟩:=i3 rfl;subst j1;obtain⟨f',rfl⟩:∃f',f=f'+1:=⟨f - 1,by lia⟩
   refine⟨X',b4,b9,i1,j2,?_⟩;unfold cH;simp only[↓ev,e];rfl
end
section
variable{S:aO}{n:Nat}{G:Row->Goal}{L:List Row}{W:List (Str×D)}{g0 g1 g2:aj Val}{t rr:List Cell}
theorem ZL(un:(L.map λw=>(w.b,w.i)).Nodup)(hl:L.length<100)(t:List Cell):∃b4 b5 b6 b7,aA (aM [(ae 4),(ae 5),(ae 6),(ae 7)]) (BN 0) (L.map bF) [g0,g1,g2,some (.c t.length),none,none,none,none,none,none] ⟨t++[.o (.az [])],rr⟩=some (.nx [g0,g1,g2,some (.c t.length),b4,b5,b6,b7,none,none] ⟨t++[.o (.az (fY (gR L)))],rr⟩):=by
 obtain⟨U',S',e,⟨b4,b5,b6,b7,rfl⟩,rfl⟩:=jy (gg:=aM [(ae 4),(ae 5),(ae 6),(ae 7)]) (body:=BN 0) (f:=bF) (U:=[g0,g1,g2,some (.c t.length),none,none,none,none,none,none]) (S:=⟨t++[.o (.az [])],rr⟩) (λpre U S'=>(∃b4 b5 b6 b7,U=[g0,g1,g2,some (.c t.length),b4,b5,b6,b7,none,none])/\S'=⟨t++[.o (.az (fY (gR pre)))],rr⟩) L ⟨⟨_,_,_,_,rfl⟩,rfl⟩ (by
  rintro d w post eq U S' ⟨⟨b4,b5,b6,b7,rfl⟩,rfl⟩;have hd:d.length<100:=by
   grind
  have hk:(w.b,w.i)∉d.map λw=>(w.b,w.i):=by
   rw[eq,dq,bY] at un;exact λm=>(iI.mp un).2.2 _ m _ (.head _) rfl
  refine⟨_,_,_,rfl,.inl (e3y bQ (by lia) hk),⟨_,_,_,_,rfl⟩,?_⟩
  rw[qy];rfl)
 exact⟨b4,b5,b6,b7,e⟩
theorem WY(hn:n<S.s.length)(nd:(L.map Row.bag).Nodup)(un:(L.map λw=>(w.b,w.i)).Nodup)(hl:L.length<100)(Kb:W.length<100):∃X,gw G L W X/\(∀w∈L,∀o,¬ia G L X w o)/\EO 0 [.d (.lst (L.map bF)),.d (.az (cv G L)),.c n] (tw S n W)=some (.ok (rd .aF) (tw S n X)):=by
 have ta:=JK (W:=W) hn;have mO:n<(S.s.set n (.o (.az (cf W)))).length:=by rw[nq];exact hn
 obtain⟨b4,b5,b6,b7,e1⟩:=ZL (g0:=some (.d (.lst (L.map bF)))) (g1:=some (.d (.az (cv G L)))) (g2:=some (.c n)) (rr:=S.r) un hl (S.s.set n (.o (.az (cf W))));have ml:=QZ (L:=L) (X:=W);obtain⟨X,c4,c9,i1,i2,e2⟩:=N1 (G:=G) (n:=n) (m:=(S.s.set n (.o (.az (cf W)))).length) (g0:=some (.d (.lst (L.map bF)))) (a5:=b5) (a6:=b6) (a7:=b7) (rr:=S.r) nd hl (by lia) 1000 (X:=W) (t:=S.s.set n (.o (.az (cf W)))++[.o (.az (fY (gR L)))]) (a4:=b4) (a9:=none) (by lia) (by lia) bQ (by rw[xS mO];exact ta)
 refine⟨X,i1,i2,?_⟩;rw[List.set_append_left _ _ mO,Jy] at e2;have cu:aO.cut ⟨S.s.set n (.o (.az (cf X)))++[.o (.az (fY (gR L)))],S.r⟩ (S.s.set n (.o (.az (cf W)))).length=tw S n X:=by
  unfold aO.cut;dsimp only;rw[nq,List.take_append_of_le_length (by rw[nq];exact bG _),xV (by rw[nq];exact bG _)]
 unfold EO MB;simp only[↓ev,aW,gu,e1,e2,cu]
end
variable{a bag o:Str}{x j gn:Int}{z:Row}
theorem Gp{b:Str}{y:Int}:aP (pl a x) (pl b y)=(a == b&&(x == y)):=by
 show dX [.str a,.int x] [.str b,.int y]=_;simp[dX,jI,qU]
theorem K8:bX 40 (pl a x)=true:=rfl
noncomputable def eZ(bag o:Str)(j gn:Int)(z:Row):Row:=if z.bag=bag then{ z with b:=o,i:=j,gn:=gn} else z
theorem Fv:(eZ bag o j gn z).bag=z.bag:=by unfold eZ;split <;> rfl
theorem ZM:(eZ bag o j gn z).fl=z.fl:=by unfold eZ;split <;> rfl
theorem sF{α β:Type}{f:α->β}{l:List α}(nd:(l.map f).Nodup){a b:α}(ha:a∈l)(hb:b∈l)(e:f a=f b):a=b:=by
 induction l with
 |nil=>cases ha
 |cons z l ih=>
  rw[bY,qE] at nd;rcases y07.mp ha with e1|ha
  .rcases y07.mp hb with e2|hb
   .rw[e1,e2]
   .exact bT (kS (f:=f) hb) (by rw[<-e,e1];exact nd.1)
  .rcases y07.mp hb with e2|hb
   .exact bT (kS (f:=f) ha) (by rw[e,e2];exact nd.1)
   .exact ih nd.2 ha hb
section
variable{rows:List Row}{bag o:Str}{j gn:Int}{w:Row}
theorem QE(nb:(rows.map Row.bag).Nodup)(hb:bag∈rows.map Row.bag):bK (gL rows) (.inr bag) (pl o j)=gL (rows.map (eZ bag o j gn)):=by
 unfold gL;rw[Ga nb hb];unfold td;rw[eU];refine ny λz _=>?_
 dsimp only[Function.comp];rw[Fv];unfold eZ;split <;> rfl
theorem e4d(nb:(rows.map Row.bag).Nodup)(hb:bag∈rows.map Row.bag):bK (kQ rows) (.inr bag) (.int gn)=kQ (rows.map (eZ bag o j gn)):=by
 unfold kQ;rw[Ga nb hb];unfold td;rw[eU];refine ny λz _=>?_
 dsimp only[Function.comp];rw[Fv];unfold eZ;split <;> rfl
theorem ZN(nb:(rows.map Row.bag).Nodup)(hw:w∈rows):kQ (rows.map (eZ w.bag o j w.gn))=kQ rows:=by
 unfold kQ td;rw[eU];refine ny λz mz=>?_
 dsimp only[Function.comp];rw[Fv];unfold eZ;split
 .rename_i e
  rw[sF nb mz hw e]
 .rfl
theorem QF:iX (rows.map (eZ bag o j gn))=iX rows:=by
 unfold iX td;rw[eU];refine ny λz _=>?_
 dsimp only[Function.comp];rw[Fv,ZM]
end
section
variable{s A B:List Cell}{h:aB}{r:Int}{x:Hl}{w:Row}{bt:ak}{o c:Str}{j:Int}
noncomputable def kF(bt:ak)(i:Int)(o:Str)(j:Int):Bool:=bt.ring&&((i == bt.long - 1)&&(o == bt.name&&(j == 0)))
theorem e4e(g:aG h)(nb:(x.rows.map Row.bag).Nodup)(hw:w∈x.rows)(hb:bt∈h.af)(eb:bt.name=w.b)(hl:x.rows.length<1000):wa 0 [.d (.ref A.length),.d (.str w.bag),.d (pl o j)] (hS A B (aw h) r x s)=some (.ok (rd .aF) (hS A B (aw h) r { x with rows:=x.rows.map (eZ w.bag o j (if kF bt w.i o j=true then w.gn+1 else w.gn))} s)):=by
 have e:=AN g hb;have hB:ar bt=.tup [.str bt.name,.int bt.long,.bl bt.ring,.lst (dS bt.outs)]:=rfl;rw[hB] at e;have hm:=kS (f:=Row.bag) hw;have h1:aR (gL x.rows) (.inr w.bag)=_:=kL nb hw;have h2:aR (kQ x.rows) (.inr w.bag)=_:=kL nb hw;have l1:((gL x.rows).length<1000000)=True:=bH (by unfold gL;rw[o9];lia)
 have l2:((kQ x.rows).length<1000000)=True:=bH (by unfold kQ;rw[o9];lia)
 rw[<-eb] at h1;generalize aw h=hd at *;have yes:kF bt w.i o j=true->wa 0 [.d (.ref A.length),.d (.str w.bag),.d (pl o j)] (hS A B hd r x s)=some (.ok (rd .aF) (hS A B hd r { x with rows:=x.rows.map (eZ w.bag o j (if kF bt w.i o j=true then w.gn+1 else w.gn))} s)):=λhc=>by
  rw[aN hc];have p1:=QE (o:=o) (j:=j) (gn:=w.gn+1) nb hm;have p2:=e4d (o:=o) (j:=j) (gn:=w.gn+1) nb hm;have p3:=QF (rows:=x.rows) (bag:=w.bag) (o:=o) (j:=j) (gn:=w.gn+1);unfold kF at hc;rw[lC,lC] at hc;obtain⟨c1,c2,c3⟩:=hc;unfold wa H_;rw[c1] at e;simp only[↓ev,hS,hR,bQ,mC,ng,eH,h1,aW,oZ,pK,cx,e,k7,cL,K8,aQ,Gp,jD,c2,c3,AH,B3,h2,l2,p2,pW,l1,p1,dH,p3]
 have no:kF bt w.i o j=false->wa 0 [.d (.ref A.length),.d (.str w.bag),.d (pl o j)] (hS A B hd r x s)=some (.ok (rd .aF) (hS A B hd r { x with rows:=x.rows.map (eZ w.bag o j (if kF bt w.i o j=true then w.gn+1 else w.gn))} s)):=λhc=>by
  rw[aJ (by rw[hc];decide)]
  have p1:=QE (o:=o) (j:=j) (gn:=w.gn) nb hm;have p2:=ZN (o:=o) (j:=j) nb hw;have p3:=QF (rows:=x.rows) (bag:=w.bag) (o:=o) (j:=j) (gn:=w.gn);unfold kF at hc;unfold wa H_;cases er:bt.ring with
  |false=>
   rw[er] at e;simp only[↓ev,hS,hR,bQ,mC,ng,eH,h1,aW,oZ,pK,cx,e,k7,aQ,l1,p1,pW,dH,p3,p2]
  |true=>
   rw[er] at e hc;rw[Bool.true_and] at hc;cases c2:(w.i == bt.long - 1) with
   |false=>simp only[↓ev,hS,hR,bQ,mC,ng,eH,h1,aW,oZ,pK,cx,e,k7,cL,K8,aQ,Gp,jD,c2,l1,p1,pW,dH,p3,p2]
   |true=>
    rw[c2,Bool.true_and] at hc;simp only[↓ev,hS,hR,bQ,mC,ng,eH,h1,aW,oZ,pK,cx,e,k7,cL,K8,aQ,Gp,jD,c2,hc,l1,p1,pW,dH,p3,p2]
 cases hc:kF bt w.i o j with
 |true=>have:=yes hc;rw[hc] at this;exact this
 |false=>have:=no hc;rw[hc] at this;exact this
end
section
variable{s A B:List Cell}{h:aB}{r:Int}{x:Hl}{w:Row}{c:Str}
theorem e4f{l:List (Str×Str×Int)}{b:Str}{nw:Int}(hb:b∉l.map (·.1)):bK (yS l) (.inr b) (.str c)=yS (l++[(b,c,nw)]):=by
 unfold yS;rw[CF hb];unfold td;rw[dq];rfl
theorem ZO{hd:D}(nb:(x.rows.map Row.bag).Nodup)(hw:w∈x.rows)(hg:w.bag∉x.gone.map (·.1))(hl:x.gone.length<2000):BU 0 [.d (.ref A.length),.d (.str w.bag),.d (.str c)] (hS A B hd r x s)=some (.ok (rd .aF) (hS A B hd r { x with rows:=x.rows.filter λz=>decide (z.bag≠w.bag),gone:=x.gone++[(w.bag,c,x.now)]} s)):=by
 have h1:aR (gL x.rows) (.inr w.bag)=_:=kL nb hw;have h2:aR (kQ x.rows) (.inr w.bag)=_:=kL nb hw;have h3:aR (iX x.rows) (.inr w.bag)=_:=kL nb hw;have d1:dz (gL x.rows) w.bag=gL (x.rows.filter λz=>decide (z.bag≠w.bag)):=FK
 have d2:dz (kQ x.rows) w.bag=kQ (x.rows.filter λz=>decide (z.bag≠w.bag)):=FK
 have d3:dz (iX x.rows) w.bag=iX (x.rows.filter λz=>decide (z.bag≠w.bag)):=FK
 have p1:=e4f (c:=c) (nw:=x.now) hg;have l1:((yS x.gone).length<1000000)=True:=bH (by unfold yS;rw[o9];lia)
 have l2:((ko x.gone).length<1000000)=True:=bH (by unfold ko;rw[aY];lia)
 have p2:ko x.gone++[.tup [.str w.bag,.str c,.int x.now]]=ko (x.gone++[(w.bag,c,x.now)]):=by unfold ko;rw[dq];rfl
 have t1:gM (gL x.rows)=true:=A4;have t2:gM (kQ x.rows)=true:=A4;have t3:gM (iX x.rows)=true:=A4;generalize aH w.fl=ff at *;unfold BU MM;simp only[↓ev,hS,hR,bQ,mC,ng,eH,t1,h1,d1,pW,oY,pJ,t3,h3,d3,AH,B3,t2,h2,d2,wc,yu,l1,p1,Ji,Py,CC,Gb,aW,l2,p2,dH]
end
variable{z:Row}
def oK(h:aB)(G:Row->Goal)(z:Row):aj Row:=match(G z).2 with
 |none=>none
 |some j=>some { z with b:=(G z).1,i:=j,gn:=match findB h.af z.b with
  |none=>z.gn
  |some bt=>if kF bt z.i (G z).1 j=true then z.gn+1 else z.gn}
def fT(h:aB)(G:Row->Goal)(p:Row->Bool)(rows:List Row):List Row:=rows.filterMap λz=>if p z=true then oK h G z else some z
noncomputable def fI(G:Row->Goal)(nw:Int)(w:Row):aj (Str×Str×Int):=match(G w).2 with
 |none=>some (w.bag,(G w).1,nw)
 |some _=>none
def fS(h:aB)(G:Row->Goal)(p:Row->Bool)(M:List Row)(x:Hl):Hl:={ x with now:=x.now+1,rows:=fT h G p x.rows,gone:=x.gone++M.filterMap (fI G (x.now+1))}
section
variable{s A B:List Cell}{h:aB}{r:Int}{x:Hl}{w:Row}{G:Row->Goal}{p p':Row->Bool}{rows:List Row}
theorem Cf{α β:Type}{f g:α->aj β}{l:List α}(h:∀x∈l,f x=g x):l.filterMap f=l.filterMap g:=by
 induction l with
 |nil=>rfl
 |cons x l ih=>rw[rn,rn,h x (.head _),ih λy m=>h y (.tail _ m)]
theorem FN{z':Row}(e:oK h G z=some z'):z'.bag=z.bag/\z'.fl=z.fl:=by
 unfold oK at e;split at e
 .cases e
 .cases e;exact⟨rfl,rfl⟩
theorem Fw(p:Row->Bool)(rows:List Row):((fT h G p rows).map Row.bag).Sublist (rows.map Row.bag):=by
 unfold fT
 induction rows with
 |nil=>exact .slnil
 |cons z rows ih=>
  rw[rn,bY];split
  .exact .cons _ ih
  .rename_i b hb
   split at hb
   .rw[bY,(FN hb).1];exact ih.cons₂ _
   .cases hb;exact ih.cons₂ _
theorem ZP(hz:z∈rows)(hp:p z=false):z∈fT h G p rows:=rP.mpr ⟨z,hz,by rw[hp];rfl⟩
theorem ZQ(nb:(rows.map Row.bag).Nodup)(hw:w∈rows)(hp:p w=false)(Kv:∀z,p' z=(p z || z.bag == w.bag))(hG:(G w).2=none):(fT h G p rows).filter (λz=>decide (z.bag≠w.bag))=fT h G p' rows:=by
 unfold fT;rw[List.filter_filterMap];refine Cf λz mz=>?_
 rw[Kv z];by_cases e:z.bag=w.bag
 .have ez:=sF nb mz hw e;subst ez;rw[hp,jD,Hu,aJ (by decide),aN rfl,show oK h G z=none by unfold oK;rw[hG]]
  show Option.filter _ (some z)=none;unfold Option.filter;simp
 .rw[show(z.bag == w.bag)=false by rw[nc];exact e,Hm]
  split
  .cases em:oK h G z with
   |none=>rfl
   |some z'=>
    unfold Option.filter;dsimp only;exact aN (qF (by rw[(FN em).1];exact e))
  .unfold Option.filter;dsimp only;exact aN (qF e)
theorem e4g(nb:(rows.map Row.bag).Nodup)(hw:w∈rows)(hp:p w=false)(Kv:∀z,p' z=(p z || z.bag == w.bag)){j:Int}(hG:(G w).2=some j){bt:ak}(hb:findB h.af w.b=some bt):(fT h G p rows).map (eZ w.bag (G w).1 j (if kF bt w.i (G w).1 j=true then w.gn+1 else w.gn))=fT h G p' rows:=by
 obtain⟨gv,Rn⟩:∃gv,(if kF bt w.i (G w).1 j=true then w.gn+1 else w.gn)=gv:=⟨_,rfl⟩
 rw[Rn];unfold fT;rw[List.map_filterMap];refine Cf λz mz=>?_
 rw[Kv z];by_cases e:z.bag=w.bag
 .have ez:=sF nb mz hw e;subst ez;rw[hp,jD,Hu,aJ (by decide),aN rfl]
  unfold oK eZ;rw[hG,hb,Option.map_some,aN rfl];dsimp only;rw[Rn]
 .rw[show(z.bag == w.bag)=false by rw[nc];exact e,Hm]
  split
  .cases em:oK h G z with
   |none=>rfl
   |some z'=>
    rw[Option.map_some];unfold eZ;rw[aJ (by rw[(FN em).1];exact e)]
  .rw[Option.map_some];unfold eZ;rw[aJ e]
end
variable{S2:aO}{hd:D}
noncomputable def kP(d:List Row)(z:Row):Bool:=(d.map Row.bag).contains z.bag
noncomputable def pj(G:Row->Goal)(w:Row):D:=.tup [.str w.bag,gD (G w)]
section
variable{s A B:List Cell}{h:aB}{r:Int}{x:Hl}{w:Row}{G:Row->Goal}{n:Nat}{M:List Row}{g1 a2 a3:aj Val}
theorem e7a{j:Int}(hG:(G w).2=some j)(e:wa 0 [.d (.ref A.length),.d (.str w.bag),.d (pl (G w).1 j)] (hS A B hd r x s)=some (.ok (rd .aF) S2)):yq 0 [some (.d (.ref A.length)),g1,some (.d (.str w.bag)),some (.d (gD (G w)))] (hS A B hd r x s)=some (.nx [some (.d (.ref A.length)),g1,some (.d (.str w.bag)),some (.d (gD (G w)))] S2):=by
 have e1:gD (G w)=pl (G w).1 j:=by unfold gD;generalize G w=p at *;obtain⟨c,i⟩:=p;cases hG;rfl
 rw[e1];unfold yq;simp only[↓ev,GZ,hR,bQ,dO,Ub,e]
theorem e4h(hG:(G w).2=none)(e:BU 0 [.d (.ref A.length),.d (.str w.bag),.d (.str (G w).1)] (hS A B hd r x s)=some (.ok (rd .aF) S2)):yq 0 [some (.d (.ref A.length)),g1,some (.d (.str w.bag)),some (.d (gD (G w)))] (hS A B hd r x s)=some (.nx [some (.d (.ref A.length)),g1,some (.d (.str w.bag)),some (.d (gD (G w)))] S2):=by
 have e1:gD (G w)=.str (G w).1:=by unfold gD;generalize G w=p at *;obtain⟨c,i⟩:=p;cases hG;rfl
 rw[e1];unfold yq;simp only[↓ev,KG,aQ,hR,bQ,dO,To,e]
theorem OO(d:List Row)(w z:Row):kP (d++[w]) z=(kP d z || z.bag == w.bag):=by
 unfold kP;rw[Ae,Bool.or_eq_true,gP,gP,beq_iff_eq,dq,e_,List.map_singleton,kR]
theorem ZR(g:aG h)(o:Ok h n x)(hM:∀w∈M,w∈x.rows)(nM:(M.map Row.bag).Nodup)(Rc:M.length<=x.rows.length)(hn:n<1000):∃b2 b3,aA (aM [(ae 2),(ae 3)]) (yq 0) (M.map (pj G)) [some (.d (.ref A.length)),g1,none,none] (hS A B (aw h) r { x with now:=x.now+1} s)=some (.nx [some (.d (.ref A.length)),g1,b2,b3] (hS A B (aw h) r (fS h G (kP M) M x) s)):=by
 obtain⟨U',S',e,⟨b2,b3,rfl⟩,rfl⟩:=jy (gg:=aM [(ae 2),(ae 3)]) (body:=yq 0) (f:=pj G) (U:=[some (.d (.ref A.length)),g1,none,none]) (S:=hS A B (aw h) r { x with now:=x.now+1} s) (λpre U S'=>(∃b2 b3,U=[some (.d (.ref A.length)),g1,b2,b3])/\S'=hS A B (aw h) r (fS h G (kP pre) pre x) s) M ⟨⟨_,_,rfl⟩,by
   have e1:fS h G (kP []) [] x={ x with now:=x.now+1}:=by
    unfold fS fT;rw[By,l9,show(λz:Row=>if kP [] z=true then oK h G z else some z)=some from funext λz=>by rw[aJ (by unfold kP;simp)],List.filterMap_some]
   rw[e1]⟩ (by
  rintro d w post eq U S' ⟨⟨b2,b3,rfl⟩,rfl⟩;have hw:w∈x.rows:=hM w (by rw[eq];simp)
  have RF:w.bag∉d.map Row.bag:=IS eq nM;have hp:kP d w=false:=by unfold kP;rw[Ak];exact λz=>RF (gP.mp z)
  have nb:((fS h G (kP d) d x).rows.map Row.bag).Nodup:=o.nb.sublist (Fw _ _);have RC:w∈(fS h G (kP d) d x).rows:=ZP hw hp;have ll:(fS h G (kP d) d x).rows.length<=x.rows.length:=by
   have:=(Fw (h:=h) (G:=G) (kP d) x.rows).length_le;rw[aY,aY] at this;exact this
  have rl:=o.rl;have sz:=o.sz;obtain⟨bt,hb,eb,_⟩:=(o.rw w hw).1;have fb:=Fg g hb;rw[eb] at fb;cases hG:(G w).2 with
  |some j=>
   refine⟨_,_,_,rfl,.inl (e7a hG (e4e g nb RC hb eb (by lia))),⟨_,_,rfl⟩,?_⟩
   unfold fS;dsimp only;rw[e4g o.nb hw hp (OO d w) hG fb,Mp,show List.filterMap (fI G (x.now+1)) [w]=[] by rw[rn,By];unfold fI;rw[hG],l9]
  |none=>
   have hgd:w.bag∉(fS h G (kP d) d x).gone.map (·.1):=by
    unfold fS;dsimp only;rw[dq,e_];rintro(z|z)
    .exact(iI.mp o.nd).2.2 _ (kS hw) _ z rfl
    .obtain⟨q,hq,e1⟩:=cX.mp z;obtain⟨u,hu,e2⟩:=rP.mp hq;unfold fI at e2;split at e2
     .cases e2;exact RF (by rw[<-e1];exact kS hu)
     .cases e2
   have Dg:(fS h G (kP d) d x).gone.length<2000:=by
    grind [fS]
   refine⟨_,_,_,rfl,.inl (e4h hG (ZO nb RC hgd Dg)),⟨_,_,rfl⟩,?_⟩;unfold fS;dsimp only;rw[ZQ o.nb hw hp (OO d w) hG,Mp,show List.filterMap (fI G (x.now+1)) [w]=[(w.bag,(G w).1,x.now+1)] by rw[rn,By];unfold fI;rw[hG],nt])
 exact⟨b2,b3,e⟩
end
section
variable{s A B:List Cell}{h:aB}{r:Int}{x:Hl}{w:Row}{G:Row->Goal}{n m:Nat}{M L:List Row}{X:List (Str×D)}{hd:D}
theorem hlen{nw':Int}{m:Nat}:Nat.blt (hF hd r nw' m).length 1000=true:=rfl
theorem e4i(g:aG h)(o:Ok h n x)(hM:∀w∈M,w∈x.rows)(nM:(M.map Row.bag).Nodup)(Rc:M.length<=x.rows.length)(hn:n<1000)(hs:s[m]?=some (.o (.lst (M.map (pj G))))):Fp 0 [.d (.ref A.length),.c m] (hS A B (aw h) r x s)=some (.ok (rd .aF) (hS A B (aw h) r (fS h G (kP M) M x) (s.set m (.z (.lst (M.map (pj G))))))):=by
 obtain⟨b2,b3,e⟩:=ZR (G:=G) (r:=r) (A:=A) (B:=B) (s:=s.set m (.z (.lst (M.map (pj G))))) (g1:=some (.c m)) g o hM nM Rc hn;generalize M.map (pj G)=ml at *;generalize aw h=hd at *;unfold Fp Ow;simp only[↓ev,hS,hR,bQ,CC,Gb,jD,hlen,e3g,qy,hs,gu,e,PZ]
noncomputable def iU(X:List (Str×D))(G:Row->Goal)(w:Row):D:=match X.find? λp=>p.1 == w.bag with
 |some p=>.tup [.str w.bag,pl w.b w.i,pl w.b w.i,p.2]
 |none=>.tup [.str w.bag,pl w.b w.i,gD (G w),.aF]
abbrev tS(A B:List Cell)(hd:D)(r:Int)(x:Hl)(s:List Cell)(X:List (Str×D))(lg mv:List D):aO:=⟨s++[.o (.az (cf X)),.o (.lst lg),.o (.lst mv)],A++hR hd r x A.length B⟩
theorem PL(X:List (Str×D))(w:Row):(X.find? (λp=>p.1 == w.bag)=none/\nk X w=true/\aR (cf X) (.inr w.bag)=none)\/∃p,X.find? (λp=>p.1 == w.bag)=some p/\nk X w=false/\aR (cf X) (.inr w.bag)=some p.2:=by
 have v:aR (cf X) (.inr w.bag)=_:=CD w.bag X;have i:=b2i (W:=X) (b:=w.bag);rw[v] at i ⊢;unfold nk;rw[<-i];cases X.find? (λp=>p.1 == w.bag) with
 |none=>exact .inl ⟨rfl,rfl,rfl⟩
 |some p=>exact .inr ⟨p,rfl,rfl,rfl⟩
theorem e4j{lg mv:List D}{g1:aj Val}(hv:aR (cv G L) (.inr w.bag)=some (gD (G w)))(l1:lg.length<1000)(l2:mv.length<1000):Cd 0 [some (.d (.ref A.length)),g1,some (.d (.az (cv G L))),some (.c s.length),some (.c (s.length+1)),some (.c (s.length+2)),some (.d (.str w.bag)),some (.d (aH w.fl)),some (.d (pl w.b w.i)),some (.d (.int w.gn))] (tS A B hd r x s X lg mv)=some (.nx [some (.d (.ref A.length)),g1,some (.d (.az (cv G L))),some (.c s.length),some (.c (s.length+1)),some (.c (s.length+2)),some (.d (.str w.bag)),some (.d (aH w.fl)),some (.d (pl w.b w.i)),some (.d (.int w.gn))] (tS A B hd r x s X (lg++[iU X G w]) (if nk X w=true then mv++[pj G w] else mv))):=by
 have RN:(lg.length<1000000)=True:=bH (by lia)
 have l2':(mv.length<1000000)=True:=bH (by lia)
 unfold iU pj;generalize aH w.fl=ff at *;generalize gD (G w)=gg at *;unfold Cd;rcases PL X w with⟨e1,e2,e3⟩|⟨p,e1,e2,e3⟩
 .rw[e1,e2,aN rfl];simp only[↓ev,tS,bQ,aQ,e3,Ai,eH,hv,aW,RN,pW,l2']
 .rw[e1,e2,aJ (by decide)]
  dsimp only;generalize p.2=py at *;simp only[↓ev,tS,bQ,aQ,e3,Al,eH,aW,RN,pW]
theorem ZS{g1:aj Val}(nd:(L.map Row.bag).Nodup)(hl:L.length<100):∃a6 a7 a8 a9,aA (aM [(ae 6),(ae 7),(ae 8),(ae 9)]) (Cd 0) (L.map bF) [some (.d (.ref A.length)),g1,some (.d (.az (cv G L))),some (.c s.length),some (.c (s.length+1)),some (.c (s.length+2)),none,none,none,none] (tS A B hd r x s X [] [])=some (.nx [some (.d (.ref A.length)),g1,some (.d (.az (cv G L))),some (.c s.length),some (.c (s.length+1)),some (.c (s.length+2)),a6,a7,a8,a9] (tS A B hd r x s X (L.map (iU X G)) ((L.filter (nk X)).map (pj G)))):=by
 obtain⟨U',S',e,⟨a6,a7,a8,a9,rfl⟩,rfl⟩:=jy (gg:=aM [(ae 6),(ae 7),(ae 8),(ae 9)]) (body:=Cd 0) (f:=bF) (U:=[some (.d (.ref A.length)),g1,some (.d (.az (cv G L))),some (.c s.length),some (.c (s.length+1)),some (.c (s.length+2)),none,none,none,none]) (S:=tS A B hd r x s X [] []) (λpre U S'=>(∃a6 a7 a8 a9,U=[some (.d (.ref A.length)),g1,some (.d (.az (cv G L))),some (.c s.length),some (.c (s.length+1)),some (.c (s.length+2)),a6,a7,a8,a9])/\S'=tS A B hd r x s X (pre.map (iU X G)) ((pre.filter (nk X)).map (pj G))) L ⟨⟨_,_,_,_,rfl⟩,rfl⟩ (by
  rintro d w post eq U S' ⟨⟨a6,a7,a8,a9,rfl⟩,rfl⟩;have hd:d.length<100:=by
   grind
  have hf:=xZ (nk X) d;refine⟨_,_,_,rfl,.inl (e4j (kL nd (by rw[eq];simp)) (by rw[aY];lia) (by rw[aY];lia)),⟨_,_,_,_,rfl⟩,?_⟩
  rw[dq,List.filter_append,dq,ue,List.filter_nil];cases nk X w with
  |true=>rw[aN rfl,aN rfl];rfl
  |false=>rw[aJ (by decide),aJ (by decide),Bs,l9];rfl)
 exact⟨a6,a7,a8,a9,e⟩
theorem PM:∀L:List Row,gK (L.map (pj G))=some (cv G L)
 |[]=>rfl
 |w::L=>by
  have ih:=PM L;rw[bY];show(ky (.str w.bag)).bind (λk=>(gK (L.map (pj G))).map ((k,gD (G w))::·))=_
  rw[ih];rfl
theorem ZT(nd:(L.map Row.bag).Nodup):(cv G L).foldl (λa p=>bK a p.1 p.2) []=cv G L:=by
 have key:∀(M N:List Row),((N++M).map Row.bag).Nodup->(cv G M).foldl (λa p=>bK a p.1 p.2) (cv G N)=cv G (N++M):=by
  intro M
  induction M with
  |nil=>intro N _;rw[l9];rfl
  |cons w M ih=>
   intro N nd;have hw:w.bag∉N.map Row.bag:=by
    rw[dq,bY] at nd;exact λm=>(iI.mp nd).2.2 _ m _ (.head _) rfl
   have e:bK (cv G N) (.inr w.bag) (gD (G w))=cv G (N++[w]):=by
    unfold cv;rw[CF hw];unfold td;rw[dq];rfl
   show(cv G M).foldl _ (bK (cv G N) (.inr w.bag) (gD (G w)))=_;rw[e,ih (N++[w]) (by rw[nt];exact nd),nt]
   rfl
 exact key L [] nd
end
def hZ(h:aB)(r:Int)(x:Hl)(X:List (Str×D)):Prop:=∃C,nA (ao h r x) (ask (ao h r x) (bN (bW h x) (ao h r x) (ord h x.rows)) (ord h x.rows)) C/\gw (ao h r x) (ord h x.rows) (bN (bW h x) (ao h r x) (ord h x.rows)++(ask (ao h r x) (bN (bW h x) (ao h r x) (ord h x.rows)) (ord h x.rows)).filterMap (du (ao h r x) C)) X/\(∀w∈ord h x.rows,∀o,¬ia (ao h r x) (ord h x.rows) X w o)/\C=yQ (ao h r x) (ask (ao h r x) (bN (bW h x) (ao h r x) (ord h x.rows)) (ord h x.rows))
def cw(h:aB)(x:Hl)(X:List (Str×D)):List Row:=(ord h x.rows).filter (nk X)
def eD(h:aB)(r:Int)(x:Hl)(X:List (Str×D)):Hl:=fS h (ao h r x) (kP (cw h x X)) (cw h x X) x
section
variable{s A B:List Cell}{h:aB}{r:Int}{x:Hl}{n:Nat}
theorem AY{s:List Cell}{rr:List Cell}{W W':List (Str×D)}:tw ⟨s++[.o (.az (cf W))],rr⟩ s.length W'=⟨s++[.o (.az (cf W'))],rr⟩:=by
 unfold tw;dsimp only;rw[qy];rfl
theorem JA(g:aG h)(o:Ok h n x)(hn:n<1000):∃X,hZ h r x X/\pM 0 [.d (.ref A.length)] (hS A B (aw h) r x s)=some (.ok (.o (.lst ((ord h x.rows).map (iU X (ao h r x))))) (hS A B (aw h) r (eD h r x X) s)):=by
 have rl:=o.rl;have pl:=o.perm.length_eq;have nd:((ord h x.rows).map Row.bag).Nodup:=(o.perm.map _).nodup_iff.mpr o.nb;have un:((ord h x.rows).map λw=>(w.b,w.i)).Nodup:=(o.perm.map _).nodup_iff.mpr o.un
 have e1:=λq s=>CH (A:=A) (B:=B) (s:=s) (r:=r) (q:=q) g o
 have e2:=λs=>IQ (A:=A) (B:=B) (s:=s) (r:=r) g o
 have e3:=λq s=>N0 (A:=A) (B:=B) (s:=s) (r:=r) (q:=q) (x:=x) g
 have ln:s.length<(s++[Cell.o (.az (cf []))]).length:=by rw[cB];exact v3 _
 have e5:=ZF (S:=⟨s++[.o (.az (cf []))],A++hR (aw h) r x A.length B⟩) (n:=s.length) (st:=bW h x) (G:=ao h r x) (L:=ord h x.rows) ln nd (by lia)
 rw[AY,AY] at e5;have lw:(bN (bW h x) (ao h r x) (ord h x.rows)).length<=(ord h x.rows).length:=Hw _ _;obtain⟨C,oC,hC,e6⟩:=ZJ (S:=⟨s++[.o (.az (cf []))],A++hR (aw h) r x A.length B⟩) (n:=s.length) (W:=bN (bW h x) (ao h r x) (ord h x.rows)) (G:=ao h r x) (L:=ord h x.rows) ln nd (by lia) (by lia)
 rw[AY,AY] at e6;have ly:((ask (ao h r x) (bN (bW h x) (ao h r x) (ord h x.rows)) (ord h x.rows)).filterMap (du (ao h r x) C)).length<=(ord h x.rows).length:=jo (Hw _ _) (xZ _ _);obtain⟨X,i1,i2,e7⟩:=WY (S:=⟨s++[.o (.az (cf []))],A++hR (aw h) r x A.length B⟩) (n:=s.length) (W:=bN (bW h x) (ao h r x) (ord h x.rows)++(ask (ao h r x) (bN (bW h x) (ao h r x) (ord h x.rows)) (ord h x.rows)).filterMap (du (ao h r x) C)) (G:=ao h r x) (L:=ord h x.rows) ln nd un (by lia) (by rw[cB];lia)
 rw[AY,AY] at e7;obtain⟨a6,a7,a8,a9,e8⟩:=ZS (A:=A) (B:=B) (s:=s) (hd:=aw h) (r:=r) (x:=x) (X:=X) (G:=ao h r x) (L:=ord h x.rows) (g1:=some (.d (.lst ((ord h x.rows).map bF)))) nd (by lia)
 have e4:=e4i (r:=r) (G:=ao h r x) (M:=cw h x X) (m:=s.length+2) (A:=A) (B:=B) (s:=s++[.o (.az (cf X)),.o (.lst ((ord h x.rows).map (iU X (ao h r x)))),.o (.lst ((cw h x X).map (pj (ao h r x))))]) g o (λw m=>o.mem.mp (qC.mp m).1) (nd.sublist (List.Sublist.map _ Hk)) (by rw[<-pl];exact xZ _ _) hn eH
 rw[pW] at e4;refine⟨X,⟨C,oC,i1,i2,hC⟩,?_⟩;have pw:=PM (G:=ao h r x) (ord h x.rows);have fg:=ZT (G:=ao h r x) nd;have ll:((cv (ao h r x) (ord h x.rows)).length<1000)=True:=bH (by unfold cv;rw[o9];lia)
 have ew:(ord h x.rows).map (kH h r x)=(ord h x.rows).map (pj (ao h r x)):=rfl;have w0:cf []=[]:=rfl;rw[w0] at e5;unfold eD;rw[ew] at e2;clear i1 i2 oC hC;generalize bN (bW h x) (ao h r x) (ord h x.rows)=W1 at *;generalize W1++(ask (ao h r x) W1 (ord h x.rows)).filterMap (du (ao h r x) C)=W2 at *;generalize fS h (ao h r x) (kP (cw h x X)) (cw h x X) x=x2 at *;unfold cw at e4;generalize(ord h x.rows).map (pj (ao h r x))=l1 at *;generalize((ord h x.rows).filter (nk X)).map (pj (ao h r x))=l2 at *;generalize(ord h x.rows).map (iU X (ao h r x))=l3 at *;generalize(ord h x.rows).map bF=l4 at *;generalize cv (ao h r x) (ord h x.rows)=gs at *;generalize aw h=hd at *;unfold pM Qv;simp only[↓ev,hR,bQ,dO,FL,e1,aW,e2,pw,ll,fg,Nn,e3,e5,e6,e7,aQ,KY,Cj,gu,e8,Zy,e4,lt2,eH,A7]
end
variable{G:Row->Goal}{j:Int}
theorem PN{α:Type}[DecidableEq α]:∀{l1 l2:List α},l1.Nodup->(∀a∈l1,a∈l2)->l1.length<=l2.length
 |[],_,_,_=>lD _
 |a::l1,l2,nd,h=>by
  rw[qE] at nd;have ha:=h a (.head _);have ih:=PN (l1:=l1) (l2:=l2.erase a) nd.2 λb m=>by
   rw[List.mem_erase_of_ne (λe=>nd.1 (by rw[<-e];exact m))]
   exact h b (.tail _ m)
  rw[List.length_erase_of_mem ha] at ih;have:=List.length_pos_of_mem ha;rw[jr];lia
section
variable{h:aB}{r:Int}{x:Hl}{n:Nat}{X:List (Str×D)}{w z:Row}
theorem ZU(g:aG h)(o:Ok h n x)(hw:w∈x.rows):((ao h r x w).2=none->(ao h r x w).1∈h.carts)/\∀j,(ao h r x w).2=some j->∃bt∈h.af,bt.name=(ao h r x w).1/\0<=j/\j<bt.long:=by
 obtain⟨bt,hb,eb,i0,i1,_⟩:=(o.rw w hw).1;have lo:=(g.lg bt hb).1;have eg:ao h r x w=lY h r x w bt:=by unfold ao;rw[<-eb,Fg g hb]
 rw[eg];unfold lY;split
 .exact⟨λz=>(by cases z),λj e=>⟨bt,hb,rfl,by cases e;lia,by cases e;assumption⟩⟩
 .split
  .exact⟨λz=>(by cases z),λj e=>⟨bt,hb,rfl,by cases e;lia,by cases e;lia⟩⟩
  .obtain⟨a,ea,ha⟩:=Jw g o hw hb eb;rw[ea,Eo];unfold tR;split
   .rename_i hc
    exact⟨λ_=>gP.mp hc,λj e=>(by cases e)⟩
   .rename_i hc
    split
    .exact⟨λz=>(by cases z),λj e=>⟨bt,hb,rfl,by cases e;lia,by cases e;lia⟩⟩
    .have hm:a∈h.af.map ak.name:=(Fu g.fwd bt hb a ha).resolve_right λz=>hc (gP.mpr z)
     obtain⟨b2,Rh,e2⟩:=cX.mp hm;have l2:=(g.lg b2 Rh).1;exact⟨λz=>(by cases z),λj e=>⟨b2,Rh,e2,by cases e;lia,by cases e;lia⟩⟩
theorem gw.sub{L:List Row}{W X:List (Str×D)}(a:gw G L W X):∀b∈W.map (·.1),b∈X.map (·.1):=by
 induction a with
 |base=>exact λ_ m=>m
 |step _ _ _ ih=>exact λb m=>by rw[dq];exact e_.mpr (.inl (ih b m))
theorem wo(o:Ok h n x):w∈cw h x X↔w∈x.rows/\w.bag∉X.map (·.1):=by
 unfold cw;rw[qC,o.mem,mS]
theorem WZ(o:Ok h n x)(t:hZ h r x X):∃C:List (aV×Str),∀w∈cw h x X,(ao h r x w).2.isSome=true->look C (gk (ao h r x) w)=some w.bag:=by
 obtain⟨C,oC,gr,fn,_⟩:=t;refine⟨C,λw hw hs=>?_⟩
 obtain⟨hr,hX⟩:=(wo o).mp hw;have h1:w.bag∉(bN (bW h x) (ao h r x) (ord h x.rows)).map (·.1):=λm=>hX (gr.sub _ (by rw[dq];exact e_.mpr (.inl m)))
 have ha:w∈ask (ao h r x) (bN (bW h x) (ao h r x) (ord h x.rows)) (ord h x.rows):=jH.mpr ⟨o.mem.mpr hr,h1,hs⟩;obtain⟨c,hc⟩:=Option.ne_none_iff_exists'.mp (oC.2.1 w ha);rw[hc];by_cases e:c=w.bag
 .rw[e]
 .refine bT (gr.sub w.bag ?_) hX;rw[dq];refine e_.mpr (.inr (cX.mpr ⟨(w.bag,.tup [.str "yields",.str c]),rP.mpr ⟨w,ha,?_⟩,rfl⟩));unfold du;rw[hc];exact aJ e
theorem Q0(e:(G w).2=some j):gk G w=((G w).1,j):=by unfold gk;rw[e];rfl
theorem Ud(o:Ok h n x)(t:hZ h r x X)(hw:w∈cw h x X)(hz:z∈cw h x X){k:Int}(ew:(ao h r x w).2=some j)(ez:(ao h r x z).2=some k)(e:((ao h r x w).1,j)=((ao h r x z).1,k)):w=z:=by
 obtain⟨C,hC⟩:=WZ o t;have h1:=hC w hw (by rw[ew];rfl)
 have h2:=hC z hz (by rw[ez];rfl)
 rw[Q0 ew,e,<-Q0 ez,h2] at h1;exact sF o.nb ((wo o).mp hw).1 ((wo o).mp hz).1 (Option.some.inj h1).symm
theorem ZV(un:(x.rows.map λw=>(w.b,w.i)).Nodup)(o:Ok h n x)(hz:z∈x.rows)(ew:(G w).2=some j)(e:((G w).1,j)=(z.b,z.i)):hold G (ord h x.rows) w=some z.bag:=by
 unfold hold;rw[ew];dsimp only;rw[e];refine WU ?_ (cX.mpr ⟨z,o.mem.mpr hz,rfl⟩);unfold gR;rw[eU];exact(o.perm.map _).nodup_iff.mpr un
theorem W3(o:Ok h n x)(t:hZ h r x X)(hw:w∈cw h x X)(hz:z∈x.rows)(ew:(ao h r x w).2=some j)(e:((ao h r x w).1,j)=(z.b,z.i)):z∈cw h x X:=by
 obtain⟨C,oC,gr,fn,_⟩:=t;obtain⟨hr,hX⟩:=(wo o).mp hw;refine(wo o).mpr ⟨hz,λm=>fn w (o.mem.mpr hr) z.bag ⟨hX,ZV o.un o hz ew e,m⟩⟩
theorem Jk(o:Ok h n x)(hz:z∈x.rows):kP (cw h x X) z=true↔z∈cw h x X:=by
 unfold kP;rw[gP,cX];constructor
 .rintro⟨u,hu,e⟩;rw[<-sF o.nb ((wo o).mp hu).1 hz e];exact hu
 .exact λm=>⟨z,m,rfl⟩
end
section
variable{h:aB}{r:Int}{x:Hl}{n:Nat}{X:List (Str×D)}{w z z':Row}
theorem IU(o:Ok h n x)(hz:z'∈(eD h r x X).rows):∃z∈x.rows,z'.bag=z.bag/\z'.fl=z.fl/\((z∉cw h x X/\z'=z)\/(z∈cw h x X/\oK h (ao h r x) z=some z')):=by
 obtain⟨z,Kz,e⟩:=rP.mp hz;refine⟨z,Kz,?_⟩;split at e
 .rename_i hm
  obtain⟨e1,e2⟩:=FN e;exact⟨e1,e2,.inr ⟨(Jk o Kz).mp hm,e⟩⟩
 .rename_i hm
  cases e;exact⟨rfl,rfl,.inl ⟨λm=>hm ((Jk o Kz).mpr m),rfl⟩⟩
theorem e4l{G:Row->Goal}(e:oK h G z=some z')(h0:0<=z.gn):0<=z'.gn:=by
 unfold oK at e;split at e
 .cases e
 .cases e;dsimp only;split
  .exact h0
  .split <;> lia
theorem Ge{G:Row->Goal}(e:oK h G z=some z'):∃j,(G z).2=some j/\z'.b=(G z).1/\z'.i=j:=by
 unfold oK at e;split at e
 .cases e
 .rename_i j ej
  cases e;exact⟨j,ej,rfl,rfl⟩
theorem ZW{nw:Int}{p:Str×Str×Int}(o:Ok h n x)(hp:p∈(cw h x X).filterMap (fI (ao h r x) nw)):∃u∈x.rows,u∈cw h x X/\(ao h r x u).2=none/\p=(u.bag,(ao h r x u).1,nw):=by
 obtain⟨u,hu,e⟩:=rP.mp hp;refine⟨u,((wo o).mp hu).1,hu,?_⟩;unfold fI at e;split at e
 .rename_i en
  cases e;exact⟨en,rfl⟩
 .cases e
theorem PQ{G:Row->Goal}{nw:Int}:∀M:List Row,((M.filterMap (fI G nw)).map (·.1)).Sublist (M.map Row.bag)
 |[]=>.slnil
 |u::M=>by
  have ih:=PQ (G:=G) (nw:=nw) M;rw[bY];cases e:(G u).2 with
  |none=>
   rw[Mj (b:=(u.bag,(G u).1,nw)) (by unfold fI;rw[e])]
   exact ih.cons₂ _
  |some j=>
   rw[Mi (by unfold fI;rw[e])]
   exact ih.cons _
theorem Ok.turn(g:aG h)(o:Ok h n x)(t:hZ h r x X):Ok h n (eD h r x X):=by
 have nM:((cw h x X).map Row.bag).Nodup:=(((o.perm.map _).nodup_iff.mpr o.nb:((ord h x.rows).map Row.bag).Nodup)).sublist (List.Sublist.map _ Hk);have sb:((eD h r x X).rows.map Row.bag).Sublist (x.rows.map Row.bag):=Fw _ _;have tU:∀b∈((cw h x X).filterMap (fI (ao h r x) (x.now+1))).map (·.1),∃u∈x.rows,u∈cw h x X/\(ao h r x u).2=none/\b=u.bag:=λb m=>by
  obtain⟨p,hp,rfl⟩:=cX.mp m;obtain⟨u,h1,h2,h3,rfl⟩:=ZW o hp;exact⟨u,h1,h2,h3,rfl⟩
 have dj:∀b∈(eD h r x X).rows.map Row.bag,b∉((cw h x X).filterMap (fI (ao h r x) (x.now+1))).map (·.1):=λb mb mo=>by
  obtain⟨z',GX,rfl⟩:=cX.mp mb;obtain⟨u,hu,hum,hn,e⟩:=tU _ mo;obtain⟨z,hz,eb,_,st⟩:=IU o GX;have ezu:z=u:=sF o.nb hz hu (by rw[<-eb,e])
  subst ezu;rcases st with⟨s1,_⟩|⟨_,s2⟩
  .exact s1 hum
  .obtain⟨j,ej,_⟩:=Ge s2;rw[hn] at ej;cases ej
 have ndo:(((cw h x X).filterMap (fI (ao h r x) (x.now+1))).map (·.1)).Nodup:=by
  exact nM.sublist (PQ _)
 have nd:((eD h r x X).rows.map Row.bag++(eD h r x X).gone.map (·.1)).Nodup:=by
  have o1:=iI.mp o.nd;have eg:(eD h r x X).gone.map (·.1)=x.gone.map (·.1)++((cw h x X).filterMap (fI (ao h r x) (x.now+1))).map (·.1):=by
   show(x.gone++_).map _=_
   simp_all
  rw[eg,iI];refine⟨o1.1.sublist sb,iI.mpr ⟨o1.2.1,ndo,λa ma b mb e=>?_⟩,λa ma b mb e=>?_⟩
  .obtain⟨u,hu,_,_,eu⟩:=tU b mb;exact o1.2.2 u.bag (kS hu) a ma (by rw[e,eu])
  .rcases e_.mp mb with mb|mb
   .exact o1.2.2 a (sb.subset ma) b mb e
   .exact dj a ma (by rw[e];exact mb)
 refine⟨λz' GX=>?_,nd,?_,o.bk,o.bn,?_,?_⟩
 .obtain⟨z,hz,eb,ef,st⟩:=IU o GX;obtain⟨k1,k2,k3⟩:=o.rw z hz;refine⟨?_,by rw[eb];exact k2,by rw[ef];exact k3⟩
  rcases st with⟨_,rfl⟩|⟨_,s2⟩
  .exact k1
  .obtain⟨j,ej,e1,e2⟩:=Ge s2;obtain⟨bt,hb,e3,e4,e5⟩:=(ZU g o hz).2 j ej;obtain⟨_,_,_,_,_,J7⟩:=k1;exact⟨bt,hb,by rw[e1];exact e3,by rw[e2];exact e4,by rw[e2];exact e5,e4l s2 J7⟩
 .show((fT h (ao h r x) (kP (cw h x X)) x.rows).map _).Nodup;unfold fT;rw[List.Nodup,Mo,List.pairwise_filterMap];have un:=o.un;have nb:=o.nb;rw[List.Nodup,Mo] at un nb;refine(un.and nb).imp_of_mem λ{a b} ma mb ne a' ea b' eb' e=>?_
  grind [Ge,Jk,W3,Ud]
 .have:=sb.length_le;rw[aY,aY] at this;exact jo this o.rl
 .have:=PN nd (l2:=x.rows.map Row.bag++x.gone.map (·.1)) λa m=>by
   rcases e_.mp m with m|m
   .exact e_.mpr (.inl (sb.subset m))
   .have m:a∈(x.gone++(cw h x X).filterMap (fI (ao h r x) (x.now+1))).map (·.1):=m
    rw[dq,e_] at m;rcases m with m|m
    .exact e_.mpr (.inr m)
    .obtain⟨u,hu,_,_,e⟩:=tU a m;exact e_.mpr (.inl (by rw[e];exact kS hu))
  rw[cB,cB,aY,aY,aY,aY] at this;have sz:=o.sz;show x.book.length+x.halts.length+_+_<=n;lia
end
section
variable{s A B:List Cell}{h:aB}{r:Int}{x:Hl}{n q:Nat}{f ct b:Str}{cl:Int}
theorem Cu{hd:D}(q:Nat)(hv:lu f):Au q [.d (.ref A.length),.d (.str f)] (hS A B hd r x s)=some (if(x.book.map (·.1)).contains f=true then .ok (rd .aF) (hS A B hd r x s) else .ex 104 none (hS A B hd r x s)):=by
 have i:(aR (lI x.book) (.inr f)).isSome=_:=CG;unfold Au Mt;cases hc:(x.book.map (·.1)).contains f with
 |true=>rw[hc] at i;simp only[↓ev,hv,aQ,hR,bQ,uW,wm,eH,i,kI,dH]
 |false=>rw[hc] at i;simp only[↓ev,hv,aQ,hR,bQ,uW,wm,eH,i,nv,dH]
theorem N2(q:Nat){S:aO}(hl:0<=cl):BO q [.d (.int cl)] S=some (.ok (rd .aF) S):=by
 have hl:(cl<0)=False:=eq_false (by lia)
 unfold BO My;simp only[↓ev,hl,decide_false,aQ,o_]
theorem ym{l:List Str}(h:l.contains b=true):b∈l:=gP.mp h
theorem E5{l:List Str}(h:l.contains b=false):b∉l:=λm=>by rw[gP.mpr m] at h;cases h
theorem Ok.up(o:Ok h n x):Ok h (n+1) x:=⟨o.rw,o.nd,o.un,o.bk,o.bn,o.rl,Nat.le_succ_of_le o.sz⟩
theorem Ok.mono{m:Nat}(o:Ok h n x)(hm:n<=m):Ok h m x:=⟨o.rw,o.nd,o.un,o.bk,o.bn,o.rl,jo o.sz hm⟩
theorem IV(g:aG h)(o:Ok h n x)(hn:n<1000)(hv:lu f)(hf:f∉x.book.map (·.1))(hc:ct∈h.carts.drop 1)(hl:0<=cl):uq 0 [.d (.ref A.length),.d (.str f),.d (.str ct),.d (.int cl)] (hS A B (aw h) r x s)=some (.ok (rd .aF) (hS A B (aw h) r { x with book:=x.book++[(f,ct,cl)]} s))/\Ok h (n+1) { x with book:=x.book++[(f,ct,cl)]}:=by
 have i:(aR (lI x.book) (.inr f)).isSome=_:=CG;rw[show(x.book.map (·.1)).contains f=false by rw[Ak];exact λz=>hf (ym z)] at i
 have cu:cutD (dS h.carts) (some 1) none=dS (h.carts.drop 1):=by rw[show(1:Int)=((1:Nat):Int) from rfl,OB,dS,dS,Hs]
 have e1:=λq S=>N2 (cl:=cl) (S:=S) q hl
 have h2:(h.carts.drop 1).contains ct=true:=gP.mpr hc;have p:bK (lI x.book) (.inr f) (.tup [.str f,.str ct,.int cl])=lI (x.book++[(f,ct,cl)]):=by
  unfold lI;rw[CF hf];unfold td;rw[dq];rfl
 have sz:=o.sz;have l1:((lI x.book).length<1000000)=True:=bH (by unfold lI;rw[o9];lia)
 refine⟨?_,λw m=>⟨(o.rw w m).1,(o.rw w m).2.1,λf' e=>?_⟩,o.nd,o.un,λp m=>?_,?_,o.rl,?_⟩
 .rw[show aw h=.tup [.lst (h.af.map ar),.lst (dS h.carts)] from rfl];unfold uq Nj;simp only[↓ev,hS,hR,hv,aQ,bQ,uW,wm,eH,i,oZ,pK,cL,cu,jG,jF,h2,kI,e1,aW,l1,p,pW,dH]
 .rw[dq];exact e_.mpr (.inl ((o.rw w m).2.2 f' e))
 .rcases e_.mp m with m|m
  .exact o.bk p m
  .rw[kR.mp m];exact Ml hc
 .rw[dq,iI];refine⟨o.bn,by simp,λa ma b mb e=>hf ?_⟩
  have:b=f:=by simpa using mb
  rw[<-this,<-e];exact ma
 .dsimp only;rw[cB,ud];lia
theorem e4m(g:aG h)(o:Ok h n x)(hn:n<1000)(hb:(h.af.map ak.name).contains b=true):Cb 0 [.d (.ref A.length),.d (.str b)] (hS A B (aw h) r x s)=some (.ok (rd .aF) (hS A B (aw h) r { x with halts:=fR x.halts b} s))/\Ok h (n+1) { x with halts:=fR x.halts b}:=by
 have e0:=λq=>NZ (A:=A) (B:=B) (s:=s) (r:=r) (x:=x) (q:=q) g hb
 simp only[uf] at e0;have sz:=o.sz;have l1:((pS x.halts).length<1000000)=True:=bH (by rw[Jv];lia)
 have p:=F_ b x.halts;refine⟨?_,o.rw,o.nd,o.un,o.bk,o.bn,o.rl,?_⟩
 .generalize aw h=hd at *;unfold Cb Ou;simp only[↓ev,hS,hR,bQ,dO,BS,e0,Fs,IK,eH,l1,p,pW,dH]
 grind [OC]
end
def Dd(A B:List Cell)(h:aB)(r:Int)(n:Nat)(x:Hl)(s:List Cell)(res:aj (Rs Rv)):aj Hl->Prop
 |some x'=>res=some (.ok (rd .aF) (hS A B (aw h) r x' s))/\Ok h (n+1) x'
 |none=>∃C,res=some (.ex C none (hS A B (aw h) r x s))/\(cN.any λp=>p.2 == C)=true
def pP(x:Hl)(f:Str)(cl:Int):aj Hl:=if(x.book.map (·.1)).contains f=true then some { x with book:=x.book.map λz=>if z.1=f then(f,z.2.1,cl) else z} else none
section
variable{s A B:List Cell}{h:aB}{r:Int}{x:Hl}{n q:Nat}{f ct b:Str}{cl:Int}
theorem OP(o:Ok h n x)(hn:n<1000)(hv:lu f)(hl:0<=cl):Dd A B h r n x s (AF 0 [.d (.ref A.length),.d (.str f),.d (.int cl)] (hS A B (aw h) r x s)) (pP x f cl):=by
 have e0:=λq=>Cu (A:=A) (B:=B) (s:=s) (hd:=aw h) (r:=r) (x:=x) q hv
 have e1:=λq S=>N2 (cl:=cl) (S:=S) q hl
 unfold pP;generalize eh:aw h=hd at *;unfold AF Nk;cases hc:(x.book.map (·.1)).contains f with
 |false=>
  simp only[hc,aQ,l_] at e0 ⊢;refine⟨104,?_,rfl⟩;rw[eh];simp only[↓ev,hR,bQ,dO,yl,e0,dH]
 |true=>
  simp only[hc,uf] at e0 ⊢;have hm:=ym hc;obtain⟨p,hp,ep⟩:=cX.mp hm;have v0:aR (lI x.book) (.inr f)=some (.tup [.str p.1,.str p.2.1,.int p.2.2]):=by rw[<-ep];exact kL o.bn hp
  have pu:bK (lI x.book) (.inr f) (.tup [.str f,.str p.2.1,.int cl])=lI (x.book.map λz=>if z.1=f then(f,z.2.1,cl) else z):=by
   unfold lI;rw[Ga o.bn hm];unfold td;rw[eU];refine ny λz mz=>?_
   dsimp only[Function.comp];by_cases e:z.1=f
   .rw[aN e,aN e,sF (f:=λp:Str×Str×Int=>p.1) o.bn mz hp (by rw[e,ep]),ep]
    rfl
   .rw[aJ e,aJ e]
  have sz:=o.sz;have l1:((lI x.book).length<1000000)=True:=bH (by unfold lI;rw[o9];lia)
  have ek:(x.book.map λz=>if z.1=f then(f,z.2.1,cl) else z).map (·.1)=x.book.map (·.1):=by
   rw[eU];refine ny λz _=>?_
   dsimp only[Function.comp];split
   .rename_i e;exact e.symm
   .rfl
  refine⟨?_,λw m=>⟨(o.rw w m).1,(o.rw w m).2.1,λf' e=>?_⟩,o.nd,o.un,λp m=>?_,?_,o.rl,?_⟩
  .rw[eh];simp only[↓ev,hS,hR,bQ,dO,yl,e0,e1,uW,wm,eH,v0,cL,aW,l1,pu,pW,dH]
  .show f'∈(x.book.map _).map _;rw[ek];exact(o.rw w m).2.2 f' e
  .obtain⟨z,mz,rfl⟩:=cX.mp m;split
   .exact o.bk z mz
   .exact o.bk z mz
  .show((x.book.map _).map _).Nodup;rw[ek];exact o.bn
  .dsimp only;rw[aY];lia
end
theorem ZX{b:Str}(hn:lu b):b.length<=8:=by
 refine y9d λz=>?_
 have e:=hn 0 ⟨[],[]⟩;have h2:((b.length:Int)<=8)=False:=eq_false (by lia)
 have h3:(1<=(b.length:Int))=True:=bH (by lia)
 by_cases hl:b.length<=1000000
 .have h4:=bH hl;have e2:p9 0 [.d (.str b)] ⟨[],[]⟩=some (.ok (rd (.bl false)) ⟨[],[]⟩):=by
   unfold p9 E9;simp only[↓ev,KD,aQ,h4,h3,decide_true,h2,decide_false];rfl
  rw[e] at e2;cases e2
 .have h4:=eq_false hl;have e2:p9 0 [.d (.str b)] ⟨[],[]⟩=none:=by
   unfold p9 E9;simp only[↓ev,KD,aQ,h4];rfl
  rw[e] at e2;cases e2
noncomputable def Bi(rows:List Row)(b:Str):Bool:=rows.any λw=>w.b == b&&w.i == 0
theorem W4(b:Str)(rows:List Row):((gL rows).map (·.2)).any (λz=>aP z (pl b 0))=Bi rows b:=by
 unfold gL td Bi;rw[eU,List.any_map]
 congr 1
 funext w;exact Gp
theorem ZY(rows:List Row):((gL rows).map (·.2)).all (bX 40)=true:=by
 unfold gL td;rw[eU,xY];exact m_.mpr λw _=>rfl
theorem Jl{α:Type}{k:α->Str}{v:α->D}{xs:List α}{x:α}(h:k x∉xs.map k):bK (td k v xs) (.inr (k x)) (v x)=td k v (xs++[x]):=by
 rw[CF h];unfold td;rw[dq];rfl
def pV(x:Hl)(bag b:Str)(fl:aj Str):aj Hl:=if(x.rows.map Row.bag).contains bag=true then none else if(x.gone.map (·.1)).contains bag=true then none else if(∃f,fl=some f/\(x.book.map (·.1)).contains f=false) then none else if Bi x.rows b=true then none else some { x with rows:=x.rows++[⟨bag,b,0,fl,0⟩]}
section
variable{s A B:List Cell}{h:aB}{r:Int}{x:Hl}{n q:Nat}{f b bag:Str}{fl:aj Str}
theorem Q1(g:aG h)(o:Ok h n x)(hn:n<1000)(hv:lu bag)(hf:∀f,fl=some f->lu f)(h8:x.rows.length<8)(hb:(h.af.map ak.name).contains b=true):Dd A B h r n x s (rF 0 [.d (.ref A.length),.d (.str bag),.d (aH fl),.d (.str b)] (hS A B (aw h) r x s)) (pV x bag b fl):=by
 have i1:(aR (gL x.rows) (.inr bag)).isSome=_:=CG;have i2:(aR (yS x.gone) (.inr bag)).isSome=_:=CG;unfold pV;cases h1:(x.rows.map Row.bag).contains bag with
 |true=>
  rw[h1] at i1;rw[aN rfl];refine⟨44,?_,rfl⟩;generalize aw h=hd at *;generalize aH fl=ff at *;unfold rF wj;simp only[↓ev,hv,aQ,hR,bQ,mC,ng,eH,i1,dH]
 |false=>
 rw[h1] at i1;rw[aJ (by decide)]
 cases h2:(x.gone.map (·.1)).contains bag with
 |true=>
  rw[h2] at i2;rw[aN rfl];refine⟨44,?_,rfl⟩;generalize aw h=hd at *;generalize aH fl=ff at *;unfold rF wj;simp only[↓ev,hv,aQ,hR,bQ,mC,ng,eH,i1,wc,yu,i2,dH]
 |false=>
 rw[h2] at i2;rw[aJ (by decide)]
 by_cases fz:∃f,fl=some f/\(x.book.map (·.1)).contains f=false
 .rw[aN fz];obtain⟨f,rfl,hc⟩:=fz;have e0:=λq=>Cu (A:=A) (B:=B) (s:=s) (hd:=aw h) (r:=r) (x:=x) q (hf f rfl)
  simp only[hc,aQ,l_] at e0;refine⟨104,?_,rfl⟩;generalize aw h=hd at *;unfold rF wj aH;simp only[↓ev,hv,aQ,hR,bQ,mC,ng,eH,i1,wc,yu,i2,dO,yl,e0,dH]
 .rw[aJ fz];have vm:=E5 h1;have fz:fl=none\/∃f,fl=some f/\(x.book.map (·.1)).contains f=true:=by
   cases fl with
   |none=>exact .inl rfl
   |some f=>
    cases hc:(x.book.map (·.1)).contains f with
    |true=>exact .inr ⟨f,rfl,hc⟩
    |false=>exact bT ⟨f,rfl,hc⟩ fz
  have zh:∀f,fl=some f->f∈x.book.map (·.1):=λf e=>by
   rcases fz with z|⟨f',z,hc⟩
   .rw[z] at e;cases e
   .rw[z] at e;cases e;exact ym hc
  have e1:=λq=>NZ (A:=A) (B:=B) (s:=s) (r:=r) (x:=x) (q:=q) g hb
  simp only[uf] at e1;have t1:gM (gL x.rows)=true:=A4;have va:=W4 b x.rows;have vo:=ZY x.rows;obtain⟨bt,Kd,Q5⟩:=cX.mp (ym hb);have lb:=ZX (g.nm bt Kd);rw[Q5] at lb;have l1:(b.length<=1000000)=True:=bH (by lia)
  have l2:((Str.empty++("cell 0 of belt ":Str)).length<=1000000)=True:=bH (by decide +kernel)
  have l3:((Str.empty++("cell 0 of belt ":Str)++b).length<=1000000)=True:=bH (by
   rw[Str.length_append];have:(Str.empty++("cell 0 of belt ":Str)).length<=100:=by decide +kernel
   lia)
  have l4:((Str.empty++("cell 0 of belt ":Str)++b++(" has a bag":Str)).length<=1000000)=True:=bH (by
   rw[Str.length_append,Str.length_append];have:(Str.empty++("cell 0 of belt ":Str)).length<=100:=by decide +kernel
   have:(" has a bag":Str).length<=100:=by decide +kernel
   lia)
  cases ho:Bi x.rows b with
  |true=>
   rw[ho] at va;rw[aN rfl];refine⟨128,?_,rfl⟩;rcases fz with rfl|⟨f,rfl,hc⟩
   .generalize aw h=hd at *;unfold rF wj aH;simp only[↓ev,hv,aQ,hR,bQ,mC,ng,eH,i1,wc,yu,i2,dO,BS,e1,aW,t1,vo,va,l2,l1,l3,l4,dH]
   .have e0:=λq=>Cu (A:=A) (B:=B) (s:=s) (hd:=aw h) (r:=r) (x:=x) q (hf f rfl)
    simp only[hc,uf] at e0;generalize aw h=hd at *;unfold rF wj aH;simp only[↓ev,hv,aQ,hR,bQ,mC,ng,eH,i1,wc,yu,i2,dO,yl,e0,BS,e1,aW,t1,vo,va,l2,l1,l3,l4,dH]
  |false=>
   rw[ho] at va;have p1:bK (gL x.rows) (.inr bag) (pl b 0)=gL (x.rows++[⟨bag,b,0,fl,0⟩]):=Jl (x:=(⟨bag,b,0,fl,0⟩:Row)) vm;have p2:bK (iX x.rows) (.inr bag) (aH fl)=iX (x.rows++[⟨bag,b,0,fl,0⟩]):=Jl (x:=(⟨bag,b,0,fl,0⟩:Row)) vm;have p3:bK (kQ x.rows) (.inr bag) (.int 0)=kQ (x.rows++[⟨bag,b,0,fl,0⟩]):=Jl (x:=(⟨bag,b,0,fl,0⟩:Row)) vm;have m1:((gL x.rows).length<1000000)=True:=bH (by unfold gL;rw[o9];lia)
   have m2:((iX x.rows).length<1000000)=True:=bH (by unfold iX;rw[o9];lia)
   have m3:((kQ x.rows).length<1000000)=True:=bH (by unfold kQ;rw[o9];lia)
   have sz:=o.sz;have lo:=(g.lg bt Kd).1;rw[aJ (by decide)]
   refine⟨?_,λw m=>?_,?_,?_,o.bk,o.bn,?_,?_⟩
   .rcases fz with rfl|⟨f,rfl,hc⟩
    .generalize aw h=hd at *;unfold rF wj;unfold aH at p2 ⊢;simp only[↓ev,hS,hR,hv,aQ,bQ,mC,ng,eH,i1,wc,yu,i2,dO,BS,e1,aW,t1,vo,va,m1,p1,pW,oY,pJ,m2,p2,AH,B3,m3,p3,dH]
    .have e0:=λq=>Cu (A:=A) (B:=B) (s:=s) (hd:=aw h) (r:=r) (x:=x) q (hf f rfl)
     simp only[hc,uf] at e0;generalize aw h=hd at *;unfold rF wj;unfold aH at p2 ⊢;simp only[↓ev,hS,hR,hv,aQ,bQ,mC,ng,eH,i1,wc,yu,i2,dO,yl,e0,BS,e1,aW,t1,vo,va,m1,p1,pW,oY,pJ,m2,p2,AH,B3,m3,p3,dH]
   .rcases e_.mp m with m|m
    .exact o.rw w m
    .rw[kR.mp m];exact⟨⟨bt,Kd,Q5,Et _,by show(0:Int)<_;lia,Et _⟩,hv,zh⟩
   .dsimp only;rw[dq,nt];have o1:=iI.mp o.nd;refine iI.mpr ⟨o1.1,iI.mpr ⟨by simp,o1.2.1,λa ma c mc e=>?_⟩,λa ma c mc e=>?_⟩
    .have:a=bag:=by simpa using ma
     exact E5 h2 (by rw[<-this,e];exact mc)
    .rcases e_.mp mc with mc|mc
     .have:c=bag:=by simpa using mc
      exact vm (by rw[<-this,<-e];exact ma)
     .exact o1.2.2 a ma c mc e
   .dsimp only;rw[dq];refine iI.mpr ⟨o.un,by simp,λa ma c mc e=>?_⟩
    have ec:c=(b,0):=by simpa using mc
    obtain⟨w,hw,ew⟩:=cX.mp ma;have:Bi x.rows b=true:=Md.mpr ⟨w,hw,by
     rw[e,ec] at ew;have h1:=congrArg Prod.fst ew;have h2:=congrArg Prod.snd ew;dsimp only at h1 h2;rw[h1,h2];simp⟩
    rw[ho] at this;cases this
   .dsimp only;rw[cB,ud];lia
   .dsimp only;rw[cB,ud];lia
end
variable{hd:D}
noncomputable def eX(p:Row->Bool)(y:aj Str)(z:Row):Row:=if p z=true then{ z with fl:=y} else z
def oM(x:Hl)(f:Str):aj Hl:=if(x.book.map (·.1)).contains f=true then some { x with book:=x.book.filter λz=>decide (z.1≠f),rows:=x.rows.map (eX (λz=>z.fl == some f) none)} else none
section
variable{s A B:List Cell}{h:aB}{r:Int}{x:Hl}{n q:Nat}{f bag:Str}{p:Row->Bool}{y:aj Str}{rows:List Row}
theorem PR:(rows.map (eX p y)).map Row.bag=rows.map Row.bag:=by
 rw[eU];refine ny λz _=>?_
 dsimp only[Function.comp];unfold eX;split <;> rfl
theorem e4o:gL (rows.map (eX p y))=gL rows:=by
 unfold gL td;rw[eU];refine ny λz _=>?_
 dsimp only[Function.comp];unfold eX;split <;> rfl
theorem e4p:kQ (rows.map (eX p y))=kQ rows:=by
 unfold kQ td;rw[eU];refine ny λz _=>?_
 dsimp only[Function.comp];unfold eX;split <;> rfl
theorem Ok.read(o:Ok h n x){bk:List (Str×Str×Int)}(hb:∀q∈bk,q∈x.book)(hbn:(bk.map (·.1)).Nodup)(hl:bk.length<=x.book.length)(hf:∀w∈x.rows,∀f,(eX p y w).fl=some f->f∈bk.map (·.1)):Ok h (n+1) { x with book:=bk,rows:=x.rows.map (eX p y)}:=by
 have sz:=o.sz;refine⟨λw m=>?_,?_,?_,λq m=>o.bk q (hb q m),hbn,?_,?_⟩
 .obtain⟨z,mz,rfl⟩:=cX.mp m;obtain⟨k1,k2,k3⟩:=o.rw z mz;refine⟨?_,?_,hf z mz⟩
  .unfold eX;split
   .exact k1
   .exact k1
  .unfold eX;split
   .exact k2
   .exact k2
 .dsimp only;rw[PR];exact o.nd
 .dsimp only;have:(x.rows.map (eX p y)).map (λw=>(w.b,w.i))=x.rows.map λw=>(w.b,w.i):=by
   rw[eU];refine ny λz _=>?_
   dsimp only[Function.comp];unfold eX;split <;> rfl
  rw[this];exact o.un
 .dsimp only;rw[aY];exact o.rl
 .dsimp only;rw[aY];lia
theorem e4q{rs:List Row}{w:Row}(nb:(rs.map Row.bag).Nodup)(hw:w∈rs)(hl:rs.length<1000){x:Hl}{a2:aj Val}:BR 0 [some (.d (.ref A.length)),some (.d (.str f)),some (.d (.str w.bag))] (hS A B hd r { x with rows:=rs} s)=some (.nx [some (.d (.ref A.length)),some (.d (.str f)),some (.d (.str w.bag))] (hS A B hd r { x with rows:=rs.map (eX (λz=>z.bag == w.bag&&z.fl == some f) none)} s)):=by
 have v0:aR (iX rs) (.inr w.bag)=some (aH w.fl):=kL nb hw;have p2:=e4o (p:=λz=>z.bag == w.bag&&z.fl == some f) (y:=none) (rows:=rs)
 have p3:=e4p (p:=λz=>z.bag == w.bag&&z.fl == some f) (y:=none) (rows:=rs)
 have m2:((iX rs).length<1000000)=True:=bH (by unfold iX;rw[o9];lia)
 have same:w.fl≠some f->rs.map (eX (λz=>z.bag == w.bag&&z.fl == some f) none)=rs:=λne=>by
  conv=>rhs;rw[<-List.map_id rs]
  refine ny λz mz=>?_
  unfold eX;rw[aJ λe=>?_]
  .rfl
  .rw[lC,beq_iff_eq,beq_iff_eq] at e;rw[sF nb mz hw e.1] at e;exact ne e.2
 unfold BR;cases hf:w.fl with
 |none=>
  rw[hf] at v0;rw[same (by rw[hf];intro z;cases z)]
  unfold aH at v0;have en:aP .aF (.str f)=false:=rfl;simp only[↓ev,hR,bQ,oY,pJ,eH,v0,aQ,en]
 |some f'=>
  rw[hf] at v0;unfold aH at v0;cases he:(f' == f) with
  |false=>
   rw[same (by rw[hf];intro z;cases z;rw[jD] at he;cases he)]
   simp only[↓ev,hR,bQ,oY,pJ,eH,v0,aQ,qU,he]
  |true=>
   have p1:bK (iX rs) (.inr w.bag) .aF=iX (rs.map (eX (λz=>z.bag == w.bag&&z.fl == some f) none)):=by
    unfold iX;rw[Ga nb (kS hw)];unfold td;rw[eU];refine ny λz mz=>?_
    dsimp only[Function.comp];unfold eX;by_cases e:z.bag=w.bag
    .have ez:=sF nb mz hw e;rw[aN e,aN (by rw[ez];dsimp only;rw[hf,jD,beq_iff_eq.mp he];simp)]
     rfl
    .rw[aJ e,aJ (by rw[lC,beq_iff_eq];exact λz=>e z.1)]
   simp only[↓ev,hS,hR,bQ,oY,pJ,eH,v0,aQ,qU,he,m2,p1,pW,p2,p3]
theorem W5{z:Row}:(eX p y z).bag=z.bag:=by unfold eX;split <;> rfl
theorem W6(d:List Row)(w z:Row):eX (λz=>z.bag == w.bag&&z.fl == some f) none (eX (λz=>(d.map Row.bag).contains z.bag&&z.fl == some f) none z)=eX (λz=>((d++[w]).map Row.bag).contains z.bag&&z.fl == some f) none z:=by
 unfold eX;dsimp only;rw[dq];by_cases h2:z.fl=some f
 .by_cases h1:z.bag∈d.map Row.bag
  .simp[h1,h2]
  .by_cases h3:z.bag=w.bag
   .rw[h3] at h1;simp[h1,h2,h3]
   .simp[h1,h2,h3]
 .simp[h2]
theorem ZZ(nb:(x.rows.map Row.bag).Nodup)(hl:x.rows.length<1000):∃a2,aA (ae 2) (BR 0) (dS (x.rows.map Row.bag)) [some (.d (.ref A.length)),some (.d (.str f)),none] (hS A B hd r x s)=some (.nx [some (.d (.ref A.length)),some (.d (.str f)),a2] (hS A B hd r { x with rows:=x.rows.map (eX (λz=>z.fl == some f) none)} s)):=by
 rw[show dS (x.rows.map Row.bag)=x.rows.map λw=>.str w.bag by unfold dS;rw[eU];rfl]
 obtain⟨U',S',e,⟨a2,rfl⟩,rfl⟩:=jy (gg:=ae 2) (body:=BR 0) (f:=λw:Row=>.str w.bag) (U:=[some (.d (.ref A.length)),some (.d (.str f)),none]) (S:=hS A B hd r x s) (λpre U S'=>(∃a2,U=[some (.d (.ref A.length)),some (.d (.str f)),a2])/\S'=hS A B hd r { x with rows:=x.rows.map (eX (λz=>(pre.map Row.bag).contains z.bag&&z.fl == some f) none)} s) x.rows ⟨⟨_,rfl⟩,by
   have:x.rows.map (eX (λz=>(([]:List Row).map Row.bag).contains z.bag&&z.fl == some f) none)=x.rows:=by
    conv=>rhs;rw[<-List.map_id x.rows]
    rfl
   rw[this]⟩ (by
  rintro d w post eq U S' ⟨⟨a2,rfl⟩,rfl⟩;have hw:w∈x.rows:=by rw[eq];simp
  have e:=e4q (hd:=hd) (r:=r) (A:=A) (B:=B) (s:=s) (x:=x) (f:=f) (a2:=none) (rs:=x.rows.map (eX (λz=>(d.map Row.bag).contains z.bag&&z.fl == some f) none)) (w:=eX (λz=>(d.map Row.bag).contains z.bag&&z.fl == some f) none w) (by rw[PR];exact nb) (kS hw) (by rw[aY];exact hl)
  rw[W5] at e;refine⟨_,_,_,rfl,.inl e,⟨_,rfl⟩,?_⟩;rw[eU]
  congr 3
  funext z;exact W6 d w z)
 have:x.rows.map (eX (λz=>(x.rows.map Row.bag).contains z.bag&&z.fl == some f) none)=x.rows.map (eX (λz=>z.fl == some f) none):=ny λz mz=>by
  have hc:(x.rows.map Row.bag).contains z.bag=true:=gP.mpr (kS mz);unfold eX;simp only[hc,Bool.true_and]
 rw[this] at e;exact⟨a2,e⟩
theorem JL(g:aG h)(o:Ok h n x)(hv:lu f):Dd A B h r n x s (uT 0 [.d (.ref A.length),.d (.str f)] (hS A B (aw h) r x s)) (oM x f):=by
 have e0:=λq=>Cu (A:=A) (B:=B) (s:=s) (hd:=aw h) (r:=r) (x:=x) q hv
 unfold oM;generalize eh:aw h=hd at *;unfold uT MP;cases hc:(x.book.map (·.1)).contains f with
 |false=>
  simp only[hc,aQ,l_] at e0 ⊢;refine⟨104,?_,rfl⟩;rw[eh];simp only[↓ev,hR,bQ,dO,yl,e0,dH]
 |true=>
  simp only[hc,uf] at e0 ⊢;obtain⟨p,hp,ep⟩:=cX.mp (ym hc);have v0:aR (lI x.book) (.inr f)=some (t3 p):=by rw[<-ep];exact kL o.bn hp
  have d1:dz (lI x.book) f=lI (x.book.filter λz=>decide (z.1≠f)):=FK
  have t1:gM (lI x.book)=true:=A4;have k1:(iX x.rows).map (·.1.d)=dS (x.rows.map Row.bag):=Px
  have rl:=o.rl;have l1:((iX x.rows).length<1000000)=True:=bH (by unfold iX;rw[o9];lia)
  have l2:((iX x.rows).length<=1000000)=True:=bH (by unfold iX;rw[o9];lia)
  obtain⟨a2,e1⟩:=ZZ (hd:=hd) (r:=r) (A:=A) (B:=B) (s:=s) (f:=f) (x:={ x with book:=x.book.filter λz=>decide (z.1≠f)}) o.nb (by dsimp only;lia)
  generalize t3 p=tp at *;refine⟨?_,o.read (p:=λz=>z.fl == some f) (y:=none) (bk:=x.book.filter λz=>decide (z.1≠f)) (λq m=>(qC.mp m).1) (o.bn.sublist (List.Sublist.map _ Hk)) (xZ _ _) λw mw f' e=>?_⟩
  .dsimp only at e1;rw[eh];simp only[↓ev,hS,hR,bQ,dO,yl,e0,uW,wm,eH,t1,v0,d1,pW,oY,pJ,k1,gu,e1,dH]
  .unfold eX at e;split at e
   .cases e
   .rename_i ne
    obtain⟨q,hq,eq⟩:=cX.mp ((o.rw w mw).2.2 f' e);refine cX.mpr ⟨q,qC.mpr ⟨hq,qF λz=>ne ?_⟩,eq⟩
    dsimp only;rw[e,<-eq,z];exact jD _
end
variable{b a:Str}
def jN(lt:Int)(p:Str×Str×Int):Str×Str×Int:=(p.1,p.2.1,p.2.2+lt)
abbrev iV:Str:="nobody"
structure Rl (h:aB) (lt:Int) (kn:Nat) (x y:Hl):Prop where
 rw:y.rows=x.rows
 nw:y.now=x.now+lt
 go:y.gone=x.gone.map (jN lt)
 bk:∀f,f≠iV->(y.book.find? λp=>p.1 == f)=(x.book.find? λp=>p.1 == f).map (jN lt)
 nx:∀p∈x.book,p.1≠iV
 hx:x.halts=[]
 hy:∀b∈y.halts,b∉(h.af.drop kn).map ak.name
 ro:∀w∈x.rows,w.b∈(h.af.drop kn).map ak.name
section
variable{h:aB}{r lt:Int}{x y:Hl}{n m kn:Nat}{X Y W:List (Str×D)}{w z:Row}{bt:ak}{G G':Row->Goal}{L:List Row}{f:Str}
theorem N3:bN [] G L=[]:=by
 unfold bN;rw[List.filterMap_eq_nil_iff];intro w _;have:gm [] G w=none:=by
  unfold gm;rw[aJ (by simp)]
  split
  .rw[aJ (by simp)]
  .rfl
 rw[this];rfl
theorem Rl.stx(R:Rl h lt kn x y):bW h x=[]:=by
 unfold bW;rw[R.hx,List.filter_eq_nil_iff];exact λ_ _ z=>(by cases z)
theorem Rl.LD(R:Rl h lt kn x y)(hb:b∈(h.af.drop kn).map ak.name):(bW h y).contains b=false:=by
 rw[Ak];intro z;have:=(qC.mp (ym z)).2;exact R.hy b (ym this) hb
theorem e4r(g:aG h)(hb:bt∈h.af)(hk:bt.name∈(h.af.drop kn).map ak.name)(ha:a∈bt.outs):a∈h.carts\/a∈(h.af.drop kn).map ak.name:=by
 obtain⟨c,hc,e⟩:=cX.mp hk;have:c=bt:=Ce g.fwd c (Ml hc) bt hb e;subst this;have f:my h.carts (h.af.drop kn):=AG (xs:=h.af.take kn) (by rw[Mh];exact g.fwd)
 exact(Fu f c hc a ha).symm
theorem Rl.A9(R:Rl h lt kn x y)(o:Ok h n x)(hw:w∈x.rows):mH y w=(mH x w).map λp=>(p.1,p.2+lt):=by
 unfold mH;cases hf:w.fl with
 |none=>rfl
 |some f=>
  have hm:=(o.rw w hw).2.2 f hf;obtain⟨p,hp,e⟩:=cX.mp hm;have ne:f≠iV:=λz=>R.nx p hp (e.trans z)
  show((y.book.find? _).map _)=((x.book.find? _).map _).map _;rw[R.bk f ne];cases x.book.find? λp=>p.1 == f <;> rfl
theorem e4s{ct:Str}{nw cl i:Int}:nN h ct (nw+lt) (cl+lt) b i=nN h ct nw cl b i:=by
 unfold nN;split
 .rfl
 .rw[decide_eq_decide];lia
theorem Rl.aL(R:Rl h lt kn x y)(o:Ok h n x)(hw:w∈x.rows):dy h y w=dy h x w/\k9 h y w=k9 h x w:=by
 unfold dy k9;rw[R.A9 o hw,R.nw];cases mH x w with
 |none=>exact⟨rfl,rfl⟩
 |some p=>
  dsimp only[Option.map_some];rw[e4s];exact⟨rfl,rfl⟩
theorem Rl.busy(R:Rl h lt kn x y)(ha:a∈(h.af.drop kn).map ak.name):(dP h y).contains a=(dP h x).contains a:=by
 unfold dP;rw[R.rw,R.stx,uL,List.contains_eq_mem,List.contains_eq_mem,decide_eq_decide,e_];exact⟨λz=>z.resolve_left λq=>(by have:=R.LD ha;rw[gP.mpr q] at this;cases this),.inr⟩
theorem Rl.goal(R:Rl h lt kn x y)(g:aG h)(o:Ok h n x)(hw:w∈x.rows):ao h r y w=ao h r x w/\∀j,(ao h r x w).2=some j->(ao h r x w).1∈(h.af.drop kn).map ak.name:=by
 obtain⟨bt,hb,eb,_,_,_⟩:=(o.rw w hw).1;have hk:=R.ro w hw;rw[<-eb] at hk;unfold ao;rw[<-eb,Fg g hb];dsimp only;unfold lY;rw[(R.aL o hw).1];obtain⟨a,ea,ha⟩:=Jw g o hw hb eb;rw[ea,Eo];by_cases c1:w.i+1<bt.long
 .rw[aN c1,aN c1];exact⟨rfl,λ_ _=>hk⟩
 .rw[aJ c1,aJ c1];by_cases c2:bt.ring=true/\w.fl=none/\w.gn<r
  .rw[aN c2,aN c2];exact⟨rfl,λ_ _=>hk⟩
  .rw[aJ c2,aJ c2];unfold tR;cases hca:h.carts.contains a with
   |true=>rw[aN rfl];exact⟨rfl,λ_ z=>(by cases z)⟩
   |false=>
    rw[aJ (by decide)]
    have hm:=(e4r g hb hk ha).resolve_left (E5 hca);rw[R.busy hm];refine⟨rfl,λj _=>?_⟩
    rw[aJ (by decide)]
    split
    .exact hk
    .exact hm
theorem W7{st:List Str}(h1:∀w∈L,st.contains w.b=false)(h2:∀w∈L,∀j,(G w).2=some j->st.contains (G w).1=false):bN st G L=[]:=by
 unfold bN;rw[List.filterMap_eq_nil_iff];intro w hw;have:gm st G w=none:=by
  unfold gm;rw[aJ (by rw[h1 w hw];decide)]
  split
  .rename_i b j e
   have:=h2 w hw j (by rw[e])
   rw[e] at this;rw[aJ (by rw[this];decide)]
  .rfl
 rw[this];rfl
theorem e4t(e:∀w∈L,G' w=G w):ask G' W L=ask G W L:=Hv λw m=>by rw[e w m]
theorem e4u(e:∀w∈L,G' w=G w):yQ G' L=yQ G L:=by
 have key:∀(L:List Row) (C:List (aV×Str)),(∀w∈L,G' w=G w)->L.foldl (sJ G') C=L.foldl (sJ G) C:=by
  intro L
  induction L with
  |nil=>intro C _;rfl
  |cons w L ih=>
   intro C e;rw[Bw,Bw,show sJ G' C w=sJ G C w by unfold sJ gk;rw[e w (.head _)]]
   exact ih _ λz m=>e z (.tail _ m)
 exact key L [] e
theorem e4v{C:List (aV×Str)}{d:List Row}(e:∀w∈d,G' w=G w):d.filterMap (du G' C)=d.filterMap (du G C):=Cf λw m=>by unfold du gk;rw[e w m]
theorem PU(e:G' w=G w):hold G' L w=hold G L w:=by unfold hold;rw[e]
theorem gw.eq(e:∀w∈L,G' w=G w)(a:gw G' L W X):gw G L W X:=by
 induction a with
 |base=>exact .base
 |step _ hw hc ih=>exact .step ih hw ⟨hc.1,by rw[<-PU (e _ hw)];exact hc.2.1,hc.2.2⟩
theorem gw.find(a:gw G L W X){p:Str×D}(e:W.find? (λp=>p.1 == b)=some p):X.find? (λp=>p.1 == b)=some p:=by
 induction a with
 |base=>exact e
 |step _ _ _ ih=>rw[List.find?_append,ih];rfl
theorem gw.mem(a:gw G L W X):∀p∈X,p∈W\/∃w∈L,∃o,p=(w.bag,A5 o)/\hold G L w=some o:=by
 induction a with
 |base=>exact λp m=>.inl m
 |step _ hw hc ih=>
  intro p m;rcases e_.mp m with m|m
  .exact ih p m
  .exact .inr ⟨_,hw,_,kR.mp m,hc.2.1⟩
theorem gw.keys(a:gw G L W X)(b:gw G L W Y)(fy:∀w∈L,∀o,¬ia G L Y w o):∀k∈X.map (·.1),k∈Y.map (·.1):=by
 induction a with
 |base=>exact b.sub
 |@step X w o _ hw hc ih=>
  intro k m;rw[dq] at m;rcases e_.mp m with m|m
  .exact ih k m
  .have:k=w.bag:=by simpa using m
   subst this;exact y9d λz=>fy w hw o ⟨z,hc.2.1,ih o hc.2.2⟩
theorem gw.one(nd:(L.map Row.bag).Nodup)(a:gw G L W X)(b:gw G L W Y)(fx:∀w∈L,∀o,¬ia G L X w o)(fy:∀w∈L,∀o,¬ia G L Y w o)(k:Str):X.find? (λp=>p.1 == k)=Y.find? (λp=>p.1 == k):=by
 cases e:W.find? (λp=>p.1 == k) with
 |some p=>rw[a.find e,b.find e]
 |none=>
  have nW:∀p∈W,p.1≠k:=λp m z=>by
   have:=v7.mp e p m;rw[z] at this;exact this (jD _)
  have no:∀{Z:List (Str×D)},Z.find? (λp=>p.1 == k)=none->k∉Z.map (·.1):=λ{Z} ez m=>by
   obtain⟨p,hp,ek⟩:=cX.mp m;exact v7.mp ez p hp (beq_iff_eq.mpr ek)
  have yes:∀{Z:List (Str×D)} {p:Str×D},Z.find? (λp=>p.1 == k)=some p->p∈Z/\p.1=k:=λ{Z p} ez=>⟨Bz ez,by have z:=En ez;exact beq_iff_eq.mp z⟩
  cases ex:X.find? (λp=>p.1 == k) with
  |none=>
   cases ey:Y.find? (λp=>p.1 == k) with
   |none=>rfl
   |some q=>
    obtain⟨m1,m2⟩:=yes ey;exact bT (b.keys a fx k (cX.mpr ⟨q,m1,m2⟩)) (no ex)
  |some p=>
   obtain⟨m1,m2⟩:=yes ex;cases ey:Y.find? (λp=>p.1 == k) with
   |none=>exact bT (a.keys b fy k (cX.mpr ⟨p,m1,m2⟩)) (no ey)
   |some q=>
    obtain⟨m3,m4⟩:=yes ey;obtain⟨w,hw,o,rfl,ho⟩:=(a.mem p m1).resolve_left λz=>nW p z m2
    obtain⟨w',hw',o',rfl,tf⟩:=(b.mem q m3).resolve_left λz=>nW q z m4
    have:w=w':=sF nd hw hw' (m2.trans m4.symm);subst this;rw[ho] at tf;cases tf;rfl
end
section
variable{h:aB}{r lt:Int}{x y:Hl}{n m kn:Nat}{X Y W:List (Str×D)}{w z:Row}{bt:ak}{G G':Row->Goal}{L:List Row}{f:Str}
theorem Rl.why(R:Rl h lt kn x y)(g:aG h)(o:Ok h n x)(tx:hZ h r x X)(ty:hZ h r y Y)(k:Str):Y.find? (λp=>p.1 == k)=X.find? (λp=>p.1 == k):=by
 obtain⟨C,_,gx,fx,hC⟩:=tx;obtain⟨C',_,gy,fy,Gw⟩:=ty;have nd:((ord h x.rows).map Row.bag).Nodup:=(o.perm.map _).nodup_iff.mpr o.nb;have eg:∀w∈ord h x.rows,ao h r y w=ao h r x w:=λw hw=>(R.goal g o (o.mem.mp hw)).1
 rw[R.rw] at gy fy Gw;have s1:bN (bW h x) (ao h r x) (ord h x.rows)=[]:=by rw[R.stx];exact N3
 have s2:bN (bW h y) (ao h r y) (ord h x.rows)=[]:=W7 (λw hw=>R.LD (R.ro w (o.mem.mp hw))) λw hw j ej=>by
  rw[eg w hw] at ej ⊢;exact R.LD ((R.goal g o (o.mem.mp hw)).2 j ej)
 rw[s1,uL] at gx;rw[s1] at hC;rw[s2,uL] at gy;rw[s2] at Gw;have ea:ask (ao h r y) [] (ord h x.rows)=ask (ao h r x) [] (ord h x.rows):=e4t eg;rw[ea,e4u (G:=ao h r x) λw hw=>eg w (jH.mp hw).1,<-hC] at Gw
 rw[ea,Gw,e4v (G:=ao h r x) λw hw=>eg w (jH.mp hw).1] at gy
 exact(gy.eq eg).one nd gx (λw hw o z=>fy w hw o ⟨z.1,by rw[PU (eg w hw)];exact z.2.1,z.2.2⟩) fx k
theorem PV(X:List (Str×D))(w:Row):nk X w=(X.find? λp=>p.1 == w.bag).isNone:=by
 rcases PL X w with⟨e1,e2,_⟩|⟨p,e1,e2,_⟩
 .rw[e1,e2];rfl
 .rw[e1,e2];rfl
theorem Rl.log(R:Rl h lt kn x y)(g:aG h)(o:Ok h n x)(tx:hZ h r x X)(ty:hZ h r y Y):(ord h y.rows).map (iU Y (ao h r y))=(ord h x.rows).map (iU X (ao h r x)):=by
 rw[R.rw];refine ny λw hw=>?_
 unfold iU;rw[R.why g o tx ty,(R.goal g o (o.mem.mp hw)).1]
theorem Rl.mov(R:Rl h lt kn x y)(g:aG h)(o:Ok h n x)(tx:hZ h r x X)(ty:hZ h r y Y):cw h y Y=cw h x X:=by
 unfold cw;rw[R.rw];exact Hv λw _=>by rw[PV,PV,R.why g o tx ty]
theorem Rl.turn(R:Rl h lt kn x y)(g:aG h)(o:Ok h n x)(tx:hZ h r x X)(ty:hZ h r y Y):Rl h lt kn (eD h r x X) (eD h r y Y):=by
 have em:=R.mov g o tx ty;have nw:=R.nw;refine⟨?_,by show y.now+1=x.now+1+lt;lia,?_,R.bk,R.nx,R.hx,R.hy,λw hw=>?_⟩
 .show fT h _ _ y.rows=fT h _ _ x.rows;unfold fT;rw[em,R.rw];refine Cf λw hw=>?_
  rw[show oK h (ao h r y) w=oK h (ao h r x) w by unfold oK;rw[(R.goal g o hw).1]]
 .show y.gone++_=(x.gone++_).map _;rw[em,R.go,dq,List.map_filterMap]
  congr 1
  refine Cf λw hw=>?_
  unfold fI;rw[(R.goal g o ((wo o).mp hw).1).1];cases(ao h r x w).2 with
  |none=>show some (w.bag,_,y.now+1)=some (jN lt (w.bag,_,x.now+1));unfold jN;dsimp only;rw[show y.now+1=x.now+1+lt by lia]
  |some j=>rfl
 .obtain⟨z,hz,_,_,st⟩:=IU o hw;rcases st with⟨_,e⟩|⟨_,e⟩
  .rw[e];exact R.ro z hz
  .obtain⟨j,ej,e1,_⟩:=Ge e;rw[e1];exact(R.goal g o hz).2 j ej
theorem Rl.has(R:Rl h lt kn x y)(ne:f≠iV):(y.book.map (·.1)).contains f=(x.book.map (·.1)).contains f:=by
 have key:∀l:List (Str×Str×Int),(l.map (·.1)).contains f=(l.find? λp=>p.1 == f).isSome:=λl=>by
  induction l with
  |nil=>rfl
  |cons p l ih=>
   rw[bY,Mm,oX,ih,BEq.comm];cases p.1 == f <;> rfl
 rw[key,key,R.bk f ne,Option.isSome_map]
abbrev Nb(y:Hl):Prop:=iV∈y.book.map (·.1)
theorem Rl.put(R:Rl h lt kn x y){bag b:Str}{fl:aj Str}(hf:fl≠some iV)(hb:b∈(h.af.drop kn).map ak.name):(pV x bag b fl=none/\pV y bag b fl=none)\/∃x' y',pV x bag b fl=some x'/\pV y bag b fl=some y'/\Rl h lt kn x' y'/\x'.rows.length=x.rows.length+1/\(Nb y->Nb y'):=by
 have eg:y.gone.map (·.1)=x.gone.map (·.1):=by rw[R.go,eU];rfl
 have ef:(∃f,fl=some f/\(y.book.map (·.1)).contains f=false)↔∃f,fl=some f/\(x.book.map (·.1)).contains f=false:=by
  constructor
  .rintro⟨f,rfl,e⟩;exact⟨f,rfl,by rw[<-R.has λz=>hf (by rw[z])];exact e⟩
  .rintro⟨f,rfl,e⟩;exact⟨f,rfl,by rw[R.has λz=>hf (by rw[z])];exact e⟩
 unfold pV;rw[eg,R.rw];by_cases c1:(x.rows.map Row.bag).contains bag=true
 .rw[aN c1,aN c1];exact .inl ⟨rfl,rfl⟩
 by_cases c2:(x.gone.map (·.1)).contains bag=true
 .rw[aJ c1,aJ c1,aN c2,aN c2];exact .inl ⟨rfl,rfl⟩
 by_cases c3:∃f,fl=some f/\(x.book.map (·.1)).contains f=false
 .rw[aJ c1,aJ c1,aJ c2,aJ c2,aN c3,aN (ef.mpr c3)];exact .inl ⟨rfl,rfl⟩
 by_cases c4:Bi x.rows b=true
 .rw[aJ c1,aJ c1,aJ c2,aJ c2,aJ c3,aJ (λz=>c3 (ef.mp z)),aN c4,aN c4];exact .inl ⟨rfl,rfl⟩
 rw[aJ c1,aJ c1,aJ c2,aJ c2,aJ c3,aJ (λz=>c3 (ef.mp z)),aJ c4,aJ c4]
 refine .inr ⟨_,_,rfl,rfl,⟨rfl,R.nw,R.go,R.bk,R.nx,R.hx,R.hy,λw hw=>?_⟩,by rw[cB];rfl,id⟩
 rcases e_.mp hw with hw|hw
 .exact R.ro w hw
 .rw[kR.mp hw];exact hb
theorem OQ{l:List (Str×Str×Int)}{cl:Int}{k:Str}:(l.map λz=>if z.1=f then(f,z.2.1,cl) else z).find? (λp=>p.1 == k)=(l.find? λp=>p.1 == k).map λz=>if z.1=f then(f,z.2.1,cl) else z:=by
 induction l with
 |nil=>rfl
 |cons p l ih=>
  rw[bY,oX,oX,ih];rw[show(if p.1=f then(f,p.2.1,cl) else p).1=p.1 by split;exact(by assumption:p.1=f).symm;rfl]
  cases p.1 == k <;> rfl
theorem Rl.chg(R:Rl h lt kn x y){cl:Int}(ne:f≠iV):(pP x f cl=none/\pP y f (cl+lt)=none)\/∃x' y',pP x f cl=some x'/\pP y f (cl+lt)=some y'/\Rl h lt kn x' y'/\x'.rows=x.rows/\(Nb y->Nb y'):=by
 unfold pP;rw[R.has ne];cases(x.book.map (·.1)).contains f with
 |false=>exact .inl ⟨rfl,rfl⟩
 |true=>
  refine .inr ⟨_,_,rfl,rfl,⟨R.rw,R.nw,R.go,λk hk=>?_,λp m=>?_,R.hx,R.hy,R.ro⟩,rfl,λq=>?_⟩
  .dsimp only;rw[OQ,OQ,R.bk k hk];cases x.book.find? λp=>p.1 == k with
   |none=>rfl
   |some p=>
    dsimp only[Option.map_some,jN];split <;> rfl
  .obtain⟨z,hz,rfl⟩:=cX.mp m;split
   .exact ne
   .exact R.nx z hz
  .obtain⟨z,hz,e⟩:=cX.mp q;refine cX.mpr ⟨_,cX.mpr ⟨z,hz,rfl⟩,?_⟩;split
   .rename_i c;exact c.symm.trans e
   .exact e
theorem IW{l:List (Str×Str×Int)}{k:Str}:(l.filter λz=>decide (z.1≠f)).find? (λp=>p.1 == k)=if k=f then none else l.find? λp=>p.1 == k:=by
 induction l with
 |nil=>split <;> rfl
 |cons p l ih=>
  rw[ue];by_cases c:p.1=f
  .rw[aJ (by rw[decide_eq_true_eq];exact λz=>z c),ih,oX]
   by_cases d:k=f
   .rw[aN d,aN d]
   .rw[aJ d,aJ d,show(p.1 == k)=false by rw[nc];exact λz=>d (z.symm.trans c)]
  .rw[aN (qF c),oX,oX,ih];cases e:p.1 == k with
   |true=>
    have hk:¬k=f:=λz=>c ((beq_iff_eq.mp e).trans z)
    simp only[aJ hk]
   |false=>rfl
theorem Rl.off(R:Rl h lt kn x y)(ne:f≠iV):(oM x f=none/\oM y f=none)\/∃x' y',oM x f=some x'/\oM y f=some y'/\Rl h lt kn x' y'/\x'.rows.length=x.rows.length/\(Nb y->Nb y'):=by
 unfold oM;rw[R.has ne];cases(x.book.map (·.1)).contains f with
 |false=>exact .inl ⟨rfl,rfl⟩
 |true=>
  refine .inr ⟨_,_,rfl,rfl,⟨by dsimp only;rw[R.rw],R.nw,R.go,λk hk=>?_,λp m=>R.nx p (qC.mp m).1,R.hx,R.hy,λw hw=>?_⟩,aY ..,λq=>?_⟩
  .dsimp only;rw[IW,IW,R.bk k hk];split <;> rfl
  .obtain⟨z,hz,rfl⟩:=cX.mp hw;rw[show(eX (λz=>z.fl == some f) none z).b=z.b by unfold eX;split <;> rfl]
   exact R.ro z hz
  .obtain⟨z,hz,e⟩:=cX.mp q;exact cX.mpr ⟨z,qC.mpr ⟨hz,qF λc=>ne (c.symm.trans e)⟩,e⟩
theorem Rl.zF(R:Rl h lt kn x y)(o:Ok h n x){c:Str}{cl:Int}:Rl h lt kn x { y with book:=y.book++[(iV,c,cl)]}:=⟨R.rw,R.nw,R.go,λf ne=>by
 dsimp only;rw[List.find?_append,R.bk f ne,List.find?_singleton,aJ (by rw[beq_iff_eq];exact λz=>ne z.symm),Option.or_none],R.nx,R.hx,R.hy,R.ro⟩
theorem Rl.Ab(R:Rl h lt kn x y)(o:Ok h n x):Rl h lt kn x { y with book:=y.book.filter λz=>decide (z.1≠iV),rows:=y.rows.map (eX (λz=>z.fl == some iV) none)}:=⟨by
 dsimp only;rw[R.rw]
 conv=>rhs;rw[<-List.map_id x.rows]
 refine ny λw hw=>?_
 unfold eX;rw[aJ λz=>?_]
 .rfl
 .obtain⟨p,hp,e⟩:=cX.mp ((o.rw w hw).2.2 iV (beq_iff_eq.mp z));exact R.nx p hp e,R.nw,R.go,λf ne=>by
 dsimp only;rw[IW,aJ ne];exact R.bk f ne,R.nx,R.hx,R.hy,R.ro⟩
end
theorem e4w(w:Row):bX 39 (bF w)=true:=by
 unfold bF;show[D.str w.bag,aH w.fl,pl w.b w.i,.int w.gn].all (bX 38)=true;rw[jR,jR,jR,jR,List.all_nil];have h1:bX 38 (D.str w.bag)=true:=rfl;have h2:bX 38 (aH w.fl)=true:=by cases w.fl <;> rfl
 have h3:bX 38 (pl w.b w.i)=true:=rfl;have h4:bX 38 (D.int w.gn)=true:=rfl;rw[h1,h2,h3,h4];rfl
theorem Z0(l:List Row):bX 40 (.lst (l.map bF))=true:=by
 show(l.map bF).all (bX 39)=true;rw[xY];exact m_.mpr λw _=>e4w w
section
variable{s A B:List Cell}{h:aB}{r lt:Int}{x y:Hl}{n m kn:Nat}{X Y:List (Str×D)}{w:Row}{hd:D}
def kz(h:aB)(x:Hl):List Str:=((ord h x.rows).filter λw=>w.fl.isSome && !k9 h x w).map Row.bag
theorem Vp(g:aG h)(o:Ok h n x):bx (ae 0) (Io 0) (Ip 0) (dS ((ord h x.rows).map Row.bag)) [none,some (.d (.ref A.length))] (hS A B (aw h) r x s) []=some (.ok (dS (kz h x)) (hS A B (aw h) r x s)):=by
 have rl:=o.rl;have lp:=o.perm.length_eq;rw[show dS ((ord h x.rows).map Row.bag)=(ord h x.rows).map λw=>.str w.bag by unfold dS;rw[eU];rfl,wB (λw=>if(w.fl.isSome && !k9 h x w)=true then some (.str w.bag) else none) (ord h x.rows) (by lia) λw hw=>by
  have hm:=o.mem.mp hw;have h2:aR (iX x.rows) (.inr w.bag)=some (aH w.fl):=kL o.nb hm;have e:=PH (A:=A) (B:=B) (s:=s) (r:=r) g o hm;generalize aw h=hd at *;unfold Io Ip;cases hf:w.fl with
  |none=>
   rw[hf] at h2;unfold aH at h2;refine .inl ⟨rfl,?_⟩;simp only[↓ev,hR,bQ,oY,pJ,eH,h2,aQ]
  |some f=>
   rw[hf] at h2;unfold aH at h2;cases hc:k9 h x w with
   |true=>
    rw[hc] at e;refine .inl ⟨rfl,?_⟩;simp only[↓ev,hR,bQ,oY,pJ,eH,h2,dO,B5,e]
   |false=>
    rw[hc] at e;refine .inr ⟨rd (.str w.bag),_,rfl,?_,?_,rfl⟩
    .simp only[↓ev,hR,bQ,oY,pJ,eH,h2,dO,B5,e]
    .rfl]
 congr 2
 unfold kz dS;generalize ord h x.rows=L
 induction L with
 |nil=>rfl
 |cons w L ih=>
  rw[rn,ue,ih];cases(w.fl.isSome && !k9 h x w) <;> rfl
theorem QG(g:aG h)(o:Ok h n x):yw 0 [.d (.ref A.length)] (hS A B (aw h) r x s)=some (.ok (.o (.lst (dS (kz h x)))) (hS A B (aw h) r x s)):=by
 have rl:=o.rl;have e1:=λq=>Pz (A:=A) (B:=B) (s:=s) (r:=r) (q:=q) g o.nk (by lia) λw m=>(o.rw w m).1
 have e2:=Vp (A:=A) (B:=B) (s:=s) (r:=r) g o;generalize aw h=hd at *;unfold yw Ox;simp only[↓ev,hR,bQ,dO,M4,e1,gu,e2,dH]
theorem OR{q:Nat}:yp q [.d (.ref A.length)] (hS A B hd r x s)=some (.ok (rd (.int x.now)) (hS A B hd r x s)):=by
 unfold yp Ni;simp only[↓ev,hR,bQ,CC,Gb,dH]
theorem Rl.KU(R:Rl h lt kn x y)(o:Ok h n x):kz h y=kz h x:=by
 unfold kz;rw[R.rw,Hv λw hw=>by rw[(R.aL o (o.mem.mp hw)).2]]
theorem Rl.want(R:Rl h lt kn x y)(g:aG h)(o:Ok h n x):(ord h y.rows).map (kH h r y)=(ord h x.rows).map (kH h r x):=by
 rw[R.rw];refine ny λw hw=>?_
 unfold kH;rw[(R.goal g o (o.mem.mp hw)).1]
abbrev H2(hd:D)(r:Int)(x y:Hl)(s:List Cell):aO:=⟨s,hR hd r x 0 (hR hd r y 8 [])⟩
theorem Q2{gl:Goal}:bX 38 (gD gl)=true:=by
 obtain⟨c,j⟩:=gl;cases j <;> rfl
theorem W8(G:Row->Goal)(L:List Row):bX 40 (.lst (L.map λw=>.tup [.str w.bag,gD (G w)]))=true:=by
 show(L.map _).all (bX 39)=true;rw[xY];refine m_.mpr λw _=>?_
 show[D.str w.bag,gD (G w)].all (bX 38)=true;rw[jR,jR,Q2];rfl
theorem Z4(l:List (Str×Str×Int)):bX 40 (.lst (ko l))=true:=by
 show(l.map t3).all (bX 39)=true;rw[xY];exact m_.mpr λw _=>rfl
end
section
variable{s:List Cell}{h:aB}{r lt nx:Int}{x y:Hl}{n m kn:Nat}{X Y:List (Str×D)}{w:Row}{hd:D}{l1 l2 l3 g1 g2:List D}
abbrev cU:D:=.lst [.ref 0,.ref 8]
theorem e4y(b0:ux 0 [.d (.ref 0)] (H2 hd r x y s)=some (.ok (.o (.lst l1)) (H2 hd r x y s)))(b8:ux 0 [.d (.ref 8)] (H2 hd r x y s)=some (.ok (.o (.lst l1)) (H2 hd r x y s)))(k1:bX 40 (.lst l1)=true)(q1:aP (.lst l1) (.lst l1)=true)
  (t0:yw 0 [.d (.ref 0)] (H2 hd r x y s)=some (.ok (.o (.lst l2)) (H2 hd r x y s))) (t8:yw 0 [.d (.ref 8)] (H2 hd r x y s)=some (.ok (.o (.lst l2)) (H2 hd r x y s))) (k2:bX 40 (.lst l2)=true) (q2:aP (.lst l2) (.lst l2)=true)
  (w0:wg 0 [.d (.ref 0)] (H2 hd r x y s)=some (.ok (.o (.lst l3)) (H2 hd r x y s))) (w8:wg 0 [.d (.ref 8)] (H2 hd r x y s)=some (.ok (.o (.lst l3)) (H2 hd r x y s))) (k3:bX 40 (.lst l3)=true) (q3:aP (.lst l3) (.lst l3)=true)
  (o0:yD 0 [.d (.ref 0)] (H2 hd r x y s)=some (.ok (.o (.lst g1)) (H2 hd r x y s))) (o8:yD 0 [.d (.ref 8)] (H2 hd r x y s)=some (.ok (.o (.lst g2)) (H2 hd r x y s))) (ec:bx (aM [(ae 0),(ae 1),(ae 2)]) (iD true) (E2 0) g1 [none,none,none,some (.d (.int lt))] (H2 hd r x y s) []=some (.ok g2 (H2 hd r x y s))) (k4:bX 40 (.lst g2)=true) (q4:aP (.lst g2) (.lst g2)=true)
  (m0:yp 0 [.d (.ref 0)] (H2 hd r x y s)=some (.ok (rd (.int nx)) (H2 hd r x y s))) (m8:yp 0 [.d (.ref 8)] (H2 hd r x y s)=some (.ok (rd (.int (nx+lt))) (H2 hd r x y s))) :
  ur 0 [.d cU,.d (.int lt)] (H2 hd r x y s)=some (.ok (rd (.bl true)) (H2 hd r x y s)):=by
 unfold ur NT;simp only[↓ev,cU,cx,hR,dO,FL,b0,cL,b8,k1,q1,kI,aQ,Zx,t0,t8,k2,q2,w0,w8,k3,q3,e3h,o0,gu,ec,aW,o8,k4,q4,Vl,m8,m0,jI,jD,dH]
theorem W9(l:List (Str×Str×Int))(hl:l.length<=1000){S:aO}:bx (aM [(ae 0),(ae 1),(ae 2)]) (iD true) (E2 0) (ko l) [none,none,none,some (.d (.int lt))] S []=some (.ok (ko (l.map (jN lt))) S):=by
 unfold ko;rw[CB (λp=>some (t3 (jN lt p))) (λU=>∃a b c,U=[a,b,c,some (.d (.int lt))]) l _ [] ⟨_,_,_,rfl⟩ (by rw[Af];lia) λp _ U ⟨a,b,c,e⟩=>⟨[some (.d (.str p.1)),some (.d (.str p.2.1)),some (.d (.int p.2.2)),some (.d (.int lt))],by rw[e];rfl,⟨_,_,_,rfl⟩,.inr ⟨rd (t3 (jN lt p)),_,rfl,rfl,by unfold E2 t3 jN;simp only[↓ev,aW],rfl⟩⟩,uL,List.filterMap_eq_map',eU]
 rfl
theorem Jm(g:aG h)(R:Rl h lt kn x y)(o:Ok h n x)(oy:Ok h m y)(hn:n<1000):ur 0 [.d cU,.d (.int lt)] (H2 (aw h) r x y s)=some (.ok (rd (.bl true)) (H2 (aw h) r x y s)):=by
 have sz:=o.sz;have b8:=CH (A:=hR (aw h) r x 0 []) (B:=[]) (s:=s) (r:=r) (q:=0) g oy;rw[R.rw] at b8;have t8:=QG (A:=hR (aw h) r x 0 []) (B:=[]) (s:=s) (r:=r) g oy;rw[R.KU o] at t8;have w8:=IQ (A:=hR (aw h) r x 0 []) (B:=[]) (s:=s) (r:=r) g oy;rw[R.want g o] at w8;have m8:=OR (A:=hR (aw h) r x 0 []) (B:=[]) (s:=s) (r:=r) (hd:=aw h) (x:=y) (q:=0);rw[R.nw] at m8;have e:=W9 (lt:=lt) x.gone (by lia) (S:=H2 (aw h) r x y s)
 rw[<-R.go] at e;have k1:=Z0 (ord h x.rows);have k3:=W8 (ao h r x) (ord h x.rows);have k2:bX 40 (.lst (dS (kz h x)))=true:=jG 39 _;have k4:=Z4 y.gone;exact e4y (CH (A:=[]) (B:=hR (aw h) r y 8 []) g o) b8 k1 (uv _ k1) (QG (A:=[]) (B:=hR (aw h) r y 8 []) g o) t8 k2 (uv _ k2) (IQ (A:=[]) (B:=hR (aw h) r y 8 []) g o) w8 k3 (uv _ k3) (QC (A:=[]) (B:=hR (aw h) r y 8 [])) (QC (A:=hR (aw h) r x 0 []) (B:=[])) e k4 (uv _ k4) (OR (A:=[]) (B:=hR (aw h) r y 8 [])) m8
theorem e4z(R:Rl h lt kn x y)(t:hZ h r x X):∀p∈X,bX 38 p.2=true:=λp hp=>by
 obtain⟨C,_,gx,_,_⟩:=t;rw[show bN (bW h x) (ao h r x) (ord h x.rows)=[] by rw[R.stx];exact N3,uL] at gx
 rcases gx.mem p hp with m|⟨w,_,o,rfl,_⟩
 .obtain⟨w,_,e⟩:=rP.mp m;unfold du at e;split at e
  .cases e
  .split at e
   .cases e
   .cases e;rfl
 .rfl
theorem e5a(hX:∀p∈X,bX 38 p.2=true)(G:Row->Goal)(L:List Row):bX 40 (.lst (L.map (iU X G)))=true:=by
 show(L.map _).all (bX 39)=true;rw[xY];refine m_.mpr λw _=>?_
 show bX 39 (iU X G w)=true;unfold iU;split
 .rename_i p e
  show[D.str w.bag,pl w.b w.i,pl w.b w.i,p.2].all (bX 38)=true;rw[jR,jR,jR,jR,hX p (Bz e)];rfl
 .show[D.str w.bag,pl w.b w.i,gD (G w),.aF].all (bX 38)=true;rw[jR,jR,jR,Q2];rfl
theorem PX(g:aG h)(R:Rl h lt kn x y)(o:Ok h n x)(oy:Ok h m y)(hn:n<1000)(hm:m<1000):∃lg x' y',Rl h lt kn x' y'/\Ok h n x'/\Ok h m y'/\x'.rows.length<=x.rows.length/\bX 40 (.lst lg)=true/\y'.book=y.book/\pM 0 [.d (.ref 0)] (H2 (aw h) r x y s)=some (.ok (.o (.lst lg)) (H2 (aw h) r x' y s))/\pM 0 [.d (.ref 8)] (H2 (aw h) r x' y s)=some (.ok (.o (.lst lg)) (H2 (aw h) r x' y' s)):=by
 obtain⟨X,tx,e1⟩:=JA (A:=[]) (B:=hR (aw h) r y 8 []) (s:=s) (r:=r) g o hn;obtain⟨Y,ty,e2⟩:=JA (A:=hR (aw h) r (eD h r x X) 0 []) (B:=[]) (s:=s) (r:=r) g oy hm;rw[R.log g o tx ty] at e2;have sb:((eD h r x X).rows.map Row.bag).Sublist (x.rows.map Row.bag):=Fw _ _;have sl:=sb.length_le;rw[aY,aY] at sl;exact⟨_,_,_,R.turn g o tx ty,o.turn g tx,oy.turn g ty,sl,e5a (e4z R tx) _ _,rfl,e1,e2⟩
end
variable{rr:List Cell}
abbrev yk(k:Int):Hl:=⟨k,[],[],[],[]⟩
theorem rM(h:aB)(k:Int):Ok h 0 (yk k):=⟨λw m=>(by cases m),Eu,Eu,λp m=>(by cases m),Eu,lD _,bG _⟩
def fn(k:Nat):Str:=⟨#[("dcb":Str).cps.toList.getD k 0]⟩
theorem JM:∀k:Nat,k<3->("dcb":Str).cps.toList.getD k 0∈x6:=by decide +kernel
theorem e5b:∀i:Nat,i<3->∀j:Nat,j<3->fn i=fn j->i=j:=by decide +kernel
theorem JB:∀k:Nat,k<3->fn k≠iV:=by decide +kernel
theorem tF{c:Nat}(h:c∈x6):lu ⟨#[c]⟩:=IA [c] (bG _) (by show 1<=8;decide) λz m=>by rw[kR.mp m];exact h
def uP(h:aB)(fs:List (Str×Str×Int)):Prop:=(fs.map (·.1)).Nodup/\∀p∈fs,(∃j,j<3/\p.1=fn j)/\p.2.1∈h.carts.drop 1/\0<=p.2.2
section
variable{s:List Cell}{h:aB}{r lt k v w cl st:Int}{x y x' y':Hl}{n m:Nat}{F F1 F2:List D}{hd:D}{cs fd:List D}{c:Nat}{ct f:Str}{a4 a5 a6 a7 a8:aj Val}{fs:List (Str×Str×Int)}
abbrev vG(cs:List D)(lt:Int)(a5 a6 a7 a8:aj Val):Gm:=[some (.c 0),some (.d cU),some (.d (.lst cs)),some (.d (.int lt)),some (.c 1),a5,a6,a7,a8]
theorem e7b(el:(cs.length:Int)=cl)(h1:(1<cl)=False){S:aO}:v_ 0 (vG cs lt a5 a6 a7 a8) S=some (.nx (vG cs lt a5 a6 a7 a8) S):=by
 unfold v_;simp only[↓ev,vG,el,h1,decide_false,aQ]
theorem e5c(l3:(("dcb":Str).length<=1000000)=True)(el:(cs.length:Int)=cl)(h1:(1<cl)=True)(hc:cY ("dcb":Str).cps.toList k=some c)(d1:Dr F (cl - 1) v F1)(ha:cY cs (1+v)=some (.str ct))(d2:Dr F1 25 w F2)(fl:(fd.length<1000000)=True):
  v_ 0 (vG cs lt (some (.d (.int k))) a6 a7 a8) ⟨[fC F,.o (.lst fd)],rr⟩=some (.nx (vG cs lt (some (.d (.int k))) a6 a7 a8) ⟨[fC F2,.o (.lst (fd++[.tup [.str ⟨#[c]⟩,.str ct,.int w]]))],rr⟩):=by
 unfold v_;simp only[↓ev,vG,el,h1,decide_true,l3,hc,d1,ha,d2,aW,fl]
theorem Z5(g:aG h)(hF:Fd st F)(m:Nat)(hm:m<=3):∃fs F' AK,Fd st F'/\uP h fs/\fs.length<=3/\aA (ae 5) (v_ 0) (dc 0 m) (vG (dS h.carts) lt none a6 a7 a8) ⟨[fC F,.o (.lst [])],rr⟩=some (.nx (vG (dS h.carts) lt AK a6 a7 a8) ⟨[fC F',.o (.lst (ko fs))],rr⟩):=by
 have ctl:=g.sm.ct;obtain⟨U',S',e,fs,F',AK,f',⟨nd,hp⟩,_,pl,rfl,rfl⟩:=jy (gg:=ae 5) (body:=v_ 0) (f:=λ(i:Nat)=>D.int (i:Int)) (U:=vG (dS h.carts) lt none a6 a7 a8) (S:=⟨[fC F,.o (.lst [])],rr⟩)
  (λpre U S=>∃fs F' AK,Fd st F'/\uP h fs/\(∀p∈fs,∃j,j<pre.length/\p.1=fn j)/\fs.length<=pre.length/\U=vG (dS h.carts) lt AK a6 a7 a8/\S=⟨[fC F',.o (.lst (ko fs))],rr⟩) (List.range m)
  ⟨[],F,none,hF,⟨Eu,λp m=>(by cases m)⟩,λp m=>(by cases m),bG _,rfl,rfl⟩ (by
   rintro d i rest eq U S ⟨fs,F',AK,f',⟨nd,hp⟩,hj,pl,rfl,rfl⟩;obtain⟨hq,hi⟩:=Fq eq;have el:((dS h.carts).length:Int)=(h.carts.length:Int):=by rw[aY]
   have up:∀p∈fs,∃j,j<(d++[i]).length/\p.1=fn j:=λp mp=>by
    obtain⟨j,hj,e⟩:=hj p mp;exact⟨j,by rw[cB];lia,e⟩
   by_cases h1:(1:Int)<h.carts.length
   .obtain⟨v,F1,v0,v1,f1,d1⟩:=kK f' (m:=(h.carts.length:Int) - 1) (by lia) (by lia)
    obtain⟨w,F2,w0,w1,f2,d2⟩:=kK f1 (m:=25) (by decide) (by decide)
    have ha:=Cq (xs:=h.carts) (k:=1+v) (by lia) (by lia)
    have hc:h.carts.getD (1+v).toNat ""∈h.carts.drop 1:=by
     have hl:(1+v).toNat<h.carts.length:=by lia
     rw[Hr,jt hl,Eo,List.mem_drop_iff_getElem];exact⟨v.toNat,by lia,by congr 1;lia⟩
    have hk:cY ("dcb":Str).cps.toList (i:Int)=some (("dcb":Str).cps.toList.getD i 0):=ID 0 (by lia) (by show(i:Int)<(3:Nat);lia)
    refine⟨_,_,_,rfl,.inl (e5c (bH (by decide +kernel)) el (bH h1) hk d1 ha d2 (bH (by unfold ko;rw[aY];lia))),fs++[(fn i,h.carts.getD (1+v).toNat "",w)],F2,_,f2,⟨?_,λp mp=>?_⟩,λp mp=>?_,by rw[cB,cB];exact Nat.add_le_add_right pl 1,rfl,by unfold ko;rw[dq];rfl⟩
    .rw[dq,iI];refine⟨nd,by simp,λa ma b mb e=>?_⟩
     have eb:b=fn i:=by simpa using mb
     obtain⟨p,mp,ep⟩:=cX.mp ma;obtain⟨j,hj,ej⟩:=hj p mp;have:=e5b j (by lia) i (by lia) (by rw[<-ej,ep,e,eb])
     lia
    .rcases e_.mp mp with mp|mp
     .exact hp p mp
     .rw[kR.mp mp];exact⟨⟨i,by lia,rfl⟩,hc,w0⟩
    .rcases e_.mp mp with mp|mp
     .exact up p mp
     .rw[kR.mp mp];exact⟨i,by rw[cB];simp;lia,rfl⟩
   .exact⟨_,_,_,rfl,.inl (e7b el (eq_false h1)),fs,F',_,f',⟨nd,hp⟩,up,by rw[cB];lia,rfl,rfl⟩)
 rw[<-t6] at e;rw[uK] at pl;exact⟨fs,F',AK,f',⟨nd,hp⟩,by lia,e⟩
theorem e5d(e:uq 0 [.d (.ref 0),.d (.str f),.d (.str ct),.d (.int cl)] (H2 hd r x y s)=some (.ok (rd .aF) (H2 hd r x' y s))):Av 0 (vG cs lt a5 (some (.d (.str f))) (some (.d (.str ct))) (some (.d (.int cl)))) (H2 hd r x y s)=some (.nx (vG cs lt a5 (some (.d (.str f))) (some (.d (.str ct))) (some (.d (.int cl)))) (H2 hd r x' y s)):=by
 unfold Av;simp only[↓ev,vG,cU,cx,hR,dO,IB,e]
theorem e5e(e:uq 0 [.d (.ref 8),.d (.str f),.d (.str ct),.d (.int (cl+lt))] (H2 hd r x y s)=some (.ok (rd .aF) (H2 hd r x y' s))):Aw 0 (vG cs lt a5 (some (.d (.str f))) (some (.d (.str ct))) (some (.d (.int cl)))) (H2 hd r x y s)=some (.nx (vG cs lt a5 (some (.d (.str f))) (some (.d (.str ct))) (some (.d (.int cl)))) (H2 hd r x y' s)):=by
 unfold Aw;simp only[↓ev,vG,cU,cL,hR,dO,IB,e]
theorem QH{d rest:List (Str×Str×Int)}{p:Str×Str×Int}(nd:(fs.map (·.1)).Nodup)(eq:fs=d++p::rest):p.1∉d.map (·.1):=by
 rw[eq,dq,bY] at nd;exact λm=>(iI.mp nd).2.2 _ m _ (.head _) rfl
theorem Z8(g:aG h)(H:uP h fs)(hl:fs.length<=3):∃k6 qQ qR,Ok h fs.length { yk 0 with book:=fs}/\aA (aM [(ae 6),(ae 7),(ae 8)]) (Av 0) (ko fs) (vG cs lt a5 a6 a7 a8) (H2 (aw h) r (yk 0) y s)=some (.nx (vG cs lt a5 k6 qQ qR) (H2 (aw h) r { yk 0 with book:=fs} y s)):=by
 obtain⟨U',S',e,k6,qQ,qR,o,rfl,rfl⟩:=jy (gg:=aM [(ae 6),(ae 7),(ae 8)]) (body:=Av 0) (f:=t3) (U:=vG cs lt a5 a6 a7 a8) (S:=H2 (aw h) r (yk 0) y s)
  (λpre U S=>∃k6 qQ qR,Ok h pre.length { yk 0 with book:=pre}/\U=vG cs lt a5 k6 qQ qR/\S=H2 (aw h) r { yk 0 with book:=pre} y s) fs ⟨a6,a7,a8,rM h 0,rfl,rfl⟩ (by
   rintro d p rest eq U S ⟨k6,qQ,qR,o,rfl,rfl⟩;have hd:d.length<=3:=by rw[eq,cB] at hl;lia
   obtain⟨⟨j,hj,ej⟩,hc,h0⟩:=H.2 p (by rw[eq];simp)
   obtain⟨e,o'⟩:=IV (A:=[]) (B:=hR (aw h) r y 8 []) (s:=s) (r:=r) (f:=p.1) (ct:=p.2.1) (cl:=p.2.2) g o (by lia) (by rw[ej];exact tF (JM j hj)) (QH H.1 eq) hc h0
   exact⟨_,_,_,rfl,.inl (e5d e),_,_,_,by rw[cB];exact o',rfl,rfl⟩)
 exact⟨k6,qQ,qR,o,e⟩
theorem uP.rev(H:uP h fs):uP h fs.reverse:=⟨by rw[List.map_reverse];rw[List.Nodup,List.pairwise_reverse];exact H.1.imp Ne.symm,λp m=>H.2 p (L_.mp m)⟩
theorem Z9(g:aG h)(H:uP h fs)(hl:fs.length<=3)(l0:0<=lt):∃k6 qQ qR,Ok h fs.length { yk lt with book:=fs.map (jN lt)}/\aA (aM [(ae 6),(ae 7),(ae 8)]) (Aw 0) (ko fs) (vG cs lt a5 a6 a7 a8) (H2 (aw h) r x (yk lt) s)=some (.nx (vG cs lt a5 k6 qQ qR) (H2 (aw h) r x { yk lt with book:=fs.map (jN lt)} s)):=by
 obtain⟨U',S',e,k6,qQ,qR,o,rfl,rfl⟩:=jy (gg:=aM [(ae 6),(ae 7),(ae 8)]) (body:=Aw 0) (f:=t3) (U:=vG cs lt a5 a6 a7 a8) (S:=H2 (aw h) r x (yk lt) s)
  (λpre U S=>∃k6 qQ qR,Ok h pre.length { yk lt with book:=pre.map (jN lt)}/\U=vG cs lt a5 k6 qQ qR/\S=H2 (aw h) r x { yk lt with book:=pre.map (jN lt)} s) fs ⟨a6,a7,a8,rM h lt,rfl,rfl⟩ (by
   rintro d p rest eq U S ⟨k6,qQ,qR,o,rfl,rfl⟩;have hd:d.length<=3:=by rw[eq,cB] at hl;lia
   obtain⟨⟨j,hj,ej⟩,hc,h0⟩:=H.2 p (by rw[eq];simp)
   obtain⟨e,o'⟩:=IV (A:=hR (aw h) r x 0 []) (B:=[]) (s:=s) (r:=r) (f:=p.1) (ct:=p.2.1) (cl:=p.2.2+lt) g o (by lia) (by rw[ej];exact tF (JM j hj)) (by rw[show(List.map (jN lt) d).map (·.1)=d.map (·.1) by rw[eU];rfl];exact QH H.1 eq) hc (by lia)
   refine⟨_,_,_,rfl,.inl (e5e e),_,_,_,?_,rfl,?_⟩
   .rw[cB,dq];exact o'
   .rw[dq];rfl)
 exact⟨k6,qQ,qR,o,e⟩
theorem e5f{fl fr:List D}{Q7:List Str}{b5 b6 b7 b8 c6 c7 c8:aj Val}{x1 y1:Hl}(d:Dr F 3 v F1)(hv:Nat.ble v.natAbs 1000000000000=true)(e0:aA (ae 5) (v_ 0) (dc 0 v.toNat) (vG cs lt none none none none) (H2 hd r x y [fC F1,.o (.lst [])])=some (.nx (vG cs lt b5 none none none) (H2 hd r x y [fC F2,.o (.lst fl)])))
  (e1:aA (aM [(ae 6),(ae 7),(ae 8)]) (Av 0) fl (vG cs lt b5 none none none) (H2 hd r x y [fC F2,.z (.lst fl)])=some (.nx (vG cs lt b5 b6 b7 b8) (H2 hd r x1 y [fC F2,.z (.lst fl)]))) (er:fl.reverse=fr)
  (e2:aA (aM [(ae 6),(ae 7),(ae 8)]) (Aw 0) fr (vG cs lt b5 b6 b7 b8) (H2 hd r x1 y [fC F2,.z (.lst fl)])=some (.nx (vG cs lt b5 c6 c7 c8) (H2 hd r x1 y1 [fC F2,.z (.lst fl)]))) (e3:bx (ae 0) (iD true) (HV 0) fl [none] (H2 hd r x1 y1 [fC F2,.z (.lst fl)]) []=some (.ok (dS Q7) (H2 hd r x1 y1 [fC F2,.z (.lst fl)]))) :
  AD 0 [.c 0,.d cU,.d (.lst cs),.d (.int lt)] (H2 hd r x y [fC F])=some (.ok (.o (.lst (dS Q7))) (H2 hd r x1 y1 [fC F2])):=by
 unfold AD MZ;simp only[↓ev,aW,aQ,d,hv,gu,e0,vG,e1,er,e2,e3];rfl
end
section
variable{s:List Cell}{h:aB}{r lt k v w cl st how:Int}{x y x' y':Hl}{n m kn:Nat}{F F1 F2:List D}{hd:D}{cs fd dN:List D}{c:Nat}{ct f bt:Str}{a5 a6 a7 a8 sy:aj Val}{fs:List (Str×Str×Int)}{C:ag}{b:Bool}{nm ff:D}{bl nl:D}{num:Int}
theorem Vq(g:aG h)(hF:Fd st F)(l0:0<=lt):∃fs F',Fd st F'/\uP h fs/\fs.length<=3/\Ok h 3 { yk 0 with book:=fs}/\Ok h 3 { yk lt with book:=fs.reverse.map (jN lt)}/\AD 0 [.c 0,.d cU,.d (.lst (dS h.carts)),.d (.int lt)] (H2 (aw h) r (yk 0) (yk lt) [fC F])=some (.ok (.o (.lst (dS (fs.map (·.1))))) (H2 (aw h) r { yk 0 with book:=fs} { yk lt with book:=fs.reverse.map (jN lt)} [fC F'])):=by
 obtain⟨v,F1,v0,v1,f1,d⟩:=kK hF (m:=3) (by decide) (by decide)
 obtain⟨fs,F2,b5,f2,H,hl,e0⟩:=Z5 (rr:=hR (aw h) r (yk 0) 0 (hR (aw h) r (yk lt) 8 [])) (lt:=lt) (a6:=none) (a7:=none) (a8:=none) g f1 v.toNat (by lia)
 obtain⟨b6,b7,b8,o1,e1⟩:=Z8 (r:=r) (y:=yk lt) (s:=[fC F2,.z (.lst (ko fs))]) (cs:=dS h.carts) (lt:=lt) (a5:=b5) (a6:=none) (a7:=none) (a8:=none) g H hl;obtain⟨c6,c7,c8,o2,e2⟩:=Z9 (r:=r) (x:={ yk 0 with book:=fs}) (s:=[fC F2,.z (.lst (ko fs))]) (cs:=dS h.carts) (lt:=lt) (a5:=b5) (a6:=b6) (a7:=b7) (a8:=b8) g H.rev (by rw[Mc];exact hl) l0
 rw[Mc] at o2;refine⟨fs,F2,f2,H,hl,o1.mono hl,o2.mono hl,e5f d (Em (by lia)) e0 e1 (show(ko fs).reverse=ko fs.reverse by unfold ko;rw[List.map_reverse]) e2 ?_⟩
 unfold ko;rw[vb (λp=>D.str p.1) fs (by lia) λp m=>⟨rd (.str p.1),by unfold HV t3;simp only[↓ev,cx],rfl⟩,dS,eU]
 rfl
theorem Vr{l l':List (Str×Str×Int)}(nd:(l.map (·.1)).Nodup)(hm:∀p,p∈l'↔p∈l):(l'.find? λp=>p.1 == f)=l.find? λp=>p.1 == f:=by
 cases e:l.find? λp=>p.1 == f with
 |none=>
  rw[v7] at e ⊢;exact λp m=>e p ((hm p).mp m)
 |some p=>
  have h1:=En e;have h2:=Bz e;cases e':l'.find? λp=>p.1 == f with
  |none=>exact bT h1 (v7.mp e' p ((hm p).mpr h2))
  |some q=>
   have h3:=En e';rw[sF (f:=λp:Str×Str×Int=>p.1) nd h2 ((hm q).mp (Bz e')) ((beq_iff_eq.mp h1).trans (beq_iff_eq.mp h3).symm)]
theorem rl0(H:uP h fs):Rl h lt kn { yk 0 with book:=fs} { yk lt with book:=fs.reverse.map (jN lt)}:=⟨rfl,by show lt=0+lt;lia,rfl,λf _=>by
 dsimp only;rw[List.find?_map,show((λp:Str×Str×Int=>p.1 == f)∘jN lt)=λp=>p.1 == f from rfl,Vr H.1 λp=>L_],λp m z=>by
 obtain⟨⟨j,hj,e⟩,_⟩:=H.2 p m;exact JB j hj (e.symm.trans z),rfl,λb m=>(by cases m),λw m=>(by cases m)⟩
abbrev dG(bl nl:D)(lt num how:Int)(nm:D)(cl:Int)(ff:D)(bt:Str)(a12 sy:aj Val):Gm:=[some (.c 0),some (.d cU),some (.d bl),some (.d (.int lt)),some (.d nl),some (.d (.int num)),some (.d (.int how)),some (.d nm),some (.d (.int cl)),some (.d ff),some (.d (.str bt)),some (.c 1),a12,sy]
theorem dp0(h6:(how<6)=True)(l6:(("fedcba":Str).length<=1000000)=True)(hc:cY ("fedcba":Str).cps.toList num=some c){fl:aj Str}(e:rF 0 [.d (.ref 0),.d (.str ⟨#[c]⟩),.d (aH fl),.d (.str bt)] (H2 hd r x y [fC F,.o (.lst dN)])=some (if b=true then .ok (rd .aF) (H2 hd r x' y [fC F,.o (.lst dN)]) else .ex C none (H2 hd r x' y [fC F,.o (.lst dN)])))(hC:b=false->(cN.any λp=>p.2 == C)=true)(tl:(dN.length<1000000)=True):iZ 0 (dG bl nl lt num how nm cl (aH fl) bt (some (.d (.int 0))) sy) (H2 hd r x y [fC F,.o (.lst dN)])=some (.nx (dG bl nl lt num how nm cl (aH fl) bt (some (.d (.int 0))) (some (.d (.bl b)))) (H2 hd r x' y [fC F,.o (.lst (dN++[.bl b]))])):=by
 unfold iZ;cases b with
 |true=>
  rw[aN rfl] at e;simp only[↓ev,dG,cU,aW,h6,decide_true,cx,hR,dO,Gd,l6,hc,e,tl]
 |false=>
  have hC:=hC rfl;rw[aJ (by decide)] at e
  simp only[↓ev,dG,cU,aW,h6,decide_true,cx,hR,dO,Gd,l6,hc,e,hC,tl]
theorem dc0(h6:(how<6)=False)(h7:(how == 6)=true)(hm:(-2^64<lt/\lt<2^64\/(-2^64:Int)<0/\(0:Int)<2^64)=True)(hw:cl+lt*0=w)(e:AF 0 [.d (.ref 0),.d (.str f),.d (.int w)] (H2 hd r x y [fC F,.o (.lst dN)])=some (if b=true then .ok (rd .aF) (H2 hd r x' y [fC F,.o (.lst dN)]) else .ex C none (H2 hd r x' y [fC F,.o (.lst dN)])))(hC:b=false->(cN.any λp=>p.2 == C)=true)(tl:(dN.length<1000000)=True):iZ 0 (dG bl nl lt num how (.str f) cl ff bt (some (.d (.int 0))) sy) (H2 hd r x y [fC F,.o (.lst dN)])=some (.nx (dG bl nl lt num how (.str f) cl ff bt (some (.d (.int 0))) (some (.d (.bl b)))) (H2 hd r x' y [fC F,.o (.lst (dN++[.bl b]))])):=by
 unfold iZ;cases b with
 |true=>
  rw[aN rfl] at e;simp only[↓ev,dG,cU,aW,h6,decide_false,aQ,jI,h7,cx,hR,dO,Ff,hm,hw,e,tl]
 |false=>
  have hC:=hC rfl;rw[aJ (by decide)] at e
  simp only[↓ev,dG,cU,aW,h6,decide_false,aQ,jI,h7,cx,hR,dO,Ff,hm,hw,e,hC,tl]
theorem do0(h6:(how<6)=False)(h7:(how == 6)=false)(h8:(how == 7)=true)(h9:(cl<8)=True)(e:uT 0 [.d (.ref 0),.d (.str f)] (H2 hd r x y [fC F,.o (.lst dN)])=some (if b=true then .ok (rd .aF) (H2 hd r x' y [fC F,.o (.lst dN)]) else .ex C none (H2 hd r x' y [fC F,.o (.lst dN)])))(hC:b=false->(cN.any λp=>p.2 == C)=true)(tl:(dN.length<1000000)=True):iZ 0 (dG bl nl lt num how (.str f) cl ff bt (some (.d (.int 0))) sy) (H2 hd r x y [fC F,.o (.lst dN)])=some (.nx (dG bl nl lt num how (.str f) cl ff bt (some (.d (.int 0))) (some (.d (.bl b)))) (H2 hd r x' y [fC F,.o (.lst (dN++[.bl b]))])):=by
 unfold iZ;cases b with
 |true=>
  rw[aN rfl] at e;simp only[↓ev,dG,cU,aW,h6,decide_false,aQ,jI,h7,h8,h9,decide_true,cx,hR,dO,BY,e,tl]
 |false=>
  have hC:=hC rfl;rw[aJ (by decide)] at e
  simp only[↓ev,dG,cU,aW,h6,decide_false,aQ,jI,h7,h8,h9,decide_true,cx,hR,dO,BY,e,hC,tl]
theorem dp8(h6:(how<6)=True)(l6:(("fedcba":Str).length<=1000000)=True)(hc:cY ("fedcba":Str).cps.toList num=some c){fl:aj Str}(e:rF 0 [.d (.ref 8),.d (.str ⟨#[c]⟩),.d (aH fl),.d (.str bt)] (H2 hd r x y [fC F,.o (.lst dN)])=some (if b=true then .ok (rd .aF) (H2 hd r x y' [fC F,.o (.lst dN)]) else .ex C none (H2 hd r x y' [fC F,.o (.lst dN)])))(hC:b=false->(cN.any λp=>p.2 == C)=true)(tl:(dN.length<1000000)=True):iZ 0 (dG bl nl lt num how nm cl (aH fl) bt (some (.d (.int 1))) sy) (H2 hd r x y [fC F,.o (.lst dN)])=some (.nx (dG bl nl lt num how nm cl (aH fl) bt (some (.d (.int 1))) (some (.d (.bl b)))) (H2 hd r x y' [fC F,.o (.lst (dN++[.bl b]))])):=by
 unfold iZ;cases b with
 |true=>
  rw[aN rfl] at e;simp only[↓ev,dG,cU,aW,h6,decide_true,cL,hR,dO,Gd,l6,hc,e,tl]
 |false=>
  have hC:=hC rfl;rw[aJ (by decide)] at e
  simp only[↓ev,dG,cU,aW,h6,decide_true,cL,hR,dO,Gd,l6,hc,e,hC,tl]
theorem dc8(h6:(how<6)=False)(h7:(how == 6)=true)(hm:(-2^64<lt/\lt<2^64\/(-2^64:Int)<1/\(1:Int)<2^64)=True)(hw:cl+lt*1=w)(e:AF 0 [.d (.ref 8),.d (.str f),.d (.int w)] (H2 hd r x y [fC F,.o (.lst dN)])=some (if b=true then .ok (rd .aF) (H2 hd r x y' [fC F,.o (.lst dN)]) else .ex C none (H2 hd r x y' [fC F,.o (.lst dN)])))(hC:b=false->(cN.any λp=>p.2 == C)=true)(tl:(dN.length<1000000)=True):iZ 0 (dG bl nl lt num how (.str f) cl ff bt (some (.d (.int 1))) sy) (H2 hd r x y [fC F,.o (.lst dN)])=some (.nx (dG bl nl lt num how (.str f) cl ff bt (some (.d (.int 1))) (some (.d (.bl b)))) (H2 hd r x y' [fC F,.o (.lst (dN++[.bl b]))])):=by
 unfold iZ;cases b with
 |true=>
  rw[aN rfl] at e;simp only[↓ev,dG,cU,aW,h6,decide_false,aQ,jI,h7,cL,hR,dO,Ff,hm,hw,e,tl]
 |false=>
  have hC:=hC rfl;rw[aJ (by decide)] at e
  simp only[↓ev,dG,cU,aW,h6,decide_false,aQ,jI,h7,cL,hR,dO,Ff,hm,hw,e,hC,tl]
theorem do8(h6:(how<6)=False)(h7:(how == 6)=false)(h8:(how == 7)=true)(h9:(cl<8)=True)(e:uT 0 [.d (.ref 8),.d (.str f)] (H2 hd r x y [fC F,.o (.lst dN)])=some (if b=true then .ok (rd .aF) (H2 hd r x y' [fC F,.o (.lst dN)]) else .ex C none (H2 hd r x y' [fC F,.o (.lst dN)])))(hC:b=false->(cN.any λp=>p.2 == C)=true)(tl:(dN.length<1000000)=True):iZ 0 (dG bl nl lt num how (.str f) cl ff bt (some (.d (.int 1))) sy) (H2 hd r x y [fC F,.o (.lst dN)])=some (.nx (dG bl nl lt num how (.str f) cl ff bt (some (.d (.int 1))) (some (.d (.bl b)))) (H2 hd r x y' [fC F,.o (.lst (dN++[.bl b]))])):=by
 unfold iZ;cases b with
 |true=>
  rw[aN rfl] at e;simp only[↓ev,dG,cU,aW,h6,decide_false,aQ,jI,h7,h8,h9,decide_true,cL,hR,dO,BY,e,tl]
 |false=>
  have hC:=hC rfl;rw[aJ (by decide)] at e
  simp only[↓ev,dG,cU,aW,h6,decide_false,aQ,jI,h7,h8,h9,decide_true,cL,hR,dO,BY,e,hC,tl]
end
theorem Cv{gg:GG}{body:GS}{U U1 U2:Gm}{S S':aO}{x:D}{xs:List D}{fr:Fr}(e1:gg x U=some U1)(e2:body U1 S=some (.nx U2 S'))(e3:aA gg body xs U2 S'=some fr):aA gg body (x::xs) U S=some fr:=by
 unfold aA;rw[e1,xW,e2];exact e3
section
variable{s A B:List Cell}{h:aB}{r lt k v w u cl st how bn nn num:Int}{x y x' y':Hl}{n m kn:Nat}{F F1 F2 F3 F4:List D}{hd:D}{dN:List D}{c:Nat}{f bt:Str}{a12 sy uZ M5:aj Val}{b b7 b8:Bool}{nm ff bl nl:D}{bs ns:List D}{rr:List Cell}
theorem QO(h6:(how<6)=False)(h7:(how == 6)=b7)(h8:(how == 7)=b8)(tl:(dN.length<1000000)=True):iZ 0 (dG bl nl lt num how .aF cl ff bt a12 sy) ⟨[fC F,.o (.lst dN)],rr⟩=some (.nx (dG bl nl lt num how .aF cl ff bt a12 (some (.d (.bl true)))) ⟨[fC F,.o (.lst (dN++[.bl true]))],rr⟩):=by
 unfold iZ;cases b7 <;> cases b8 <;> simp only[↓ev,dG,aW,h6,decide_false,aQ,jI,h7,h8,tl]
theorem QP(h6:(how<6)=False)(h7:(how == 6)=false)(h8:(how == 7)=true)(h9:(cl<8)=False)(tl:(dN.length<1000000)=True):iZ 0 (dG bl nl lt num how (.str f) cl ff bt a12 sy) ⟨[fC F,.o (.lst dN)],rr⟩=some (.nx (dG bl nl lt num how (.str f) cl ff bt a12 (some (.d (.bl true)))) ⟨[fC F,.o (.lst (dN++[.bl true]))],rr⟩):=by
 unfold iZ;simp only[↓ev,dG,aW,h6,decide_false,aQ,jI,h7,h8,h9,tl]
theorem Z_{S0 S1 S2:aO}(e0:iZ 0 (dG bl nl lt num how nm cl ff bt (some (.d (.int 0))) none) S0=some (.nx (dG bl nl lt num how nm cl ff bt (some (.d (.int 0))) (some (.d (.bl b)))) S1))(e1:iZ 0 (dG bl nl lt num how nm cl ff bt (some (.d (.int 1))) (some (.d (.bl b)))) S1=some (.nx (dG bl nl lt num how nm cl ff bt (some (.d (.int 1))) (some (.d (.bl b)))) S2)):aA (ae 12) (iZ 0) (dc 0 2) (dG bl nl lt num how nm cl ff bt none none) S0=some (.nx (dG bl nl lt num how nm cl ff bt (some (.d (.int 1))) (some (.d (.bl b)))) S2):=by
 show aA _ _ [.int 0,.int 1] _ _=_;exact Cv rfl e0 (Cv rfl e1 rfl)
theorem eqB:aP (.bl b) (.bl b)=true:=uv 40 rfl
theorem e5g(d1:Dr F 8 how F1)(d2:Dr F1 25 cl F2)(hf:cY [.aF,.aF,.aF] (cl%3)=some ff)(eb:(bs.length:Int)=bn)(d3:Dr F2 bn v F3)(ha:cY bs v=some (.str bt))(hl:aA (ae 12) (iZ 0) (dc 0 2) (dG (.lst bs) (.lst []) lt num how .aF cl ff bt none none) ⟨[fC F3,.o (.lst [])],rr⟩=some (.nx (dG (.lst bs) (.lst []) lt num how .aF cl ff bt uZ M5) ⟨[fC F3,.o (.lst [.bl b,.bl b])],A⟩)):
  we 0 [.c 0,.d cU,.d (.lst bs),.d (.int lt),.d (.lst []),.d (.int num)] ⟨[fC F],rr⟩=some (.ok (rd (.bl true)) ⟨[fC F3],A⟩):=by
 have i2:Nat.ble (2:Int).natAbs 1000000000000=true:=by decide
 unfold we IJ;simp only[↓ev,d1,aW,aQ,d2,decide_true,hf,eb,d3,ha,i2,gu,hl,dG,cx,cL,eqB];rfl
theorem e5h{n0:D}{n1:List D}(d1:Dr F 8 how F1)(en:((n0::n1).length:Int)=nn)(d4:Dr F1 nn u F4)(hn:cY (n0::n1) u=some (.str f))(d2:Dr F4 25 cl F2)(hf:cY [.str f,.str f,.aF] (cl%3)=some ff)(eb:(bs.length:Int)=bn)(d3:Dr F2 bn v F3)(ha:cY bs v=some (.str bt))(hl:aA (ae 12) (iZ 0) (dc 0 2) (dG (.lst bs) (.lst (n0::n1)) lt num how (.str f) cl ff bt none none) ⟨[fC F3,.o (.lst [])],rr⟩=some (.nx (dG (.lst bs) (.lst (n0::n1)) lt num how (.str f) cl ff bt uZ M5) ⟨[fC F3,.o (.lst [.bl b,.bl b])],A⟩)):
  we 0 [.c 0,.d cU,.d (.lst bs),.d (.int lt),.d (.lst (n0::n1)),.d (.int num)] ⟨[fC F],rr⟩=some (.ok (rd (.bl true)) ⟨[fC F3],A⟩):=by
 have i2:Nat.ble (2:Int).natAbs 1000000000000=true:=by decide
 unfold we IJ;simp only[↓ev,d1,aW,en,d4,hn,d2,aQ,decide_true,hf,eb,d3,ha,i2,gu,hl,dG,cx,cL,eqB];rfl
theorem A6{res:aj (Rs Rv)}{op:aj Hl}(d:Dd A B h r n x s res op):∃b C x',res=some (if b=true then .ok (rd .aF) (hS A B (aw h) r x' s) else .ex C none (hS A B (aw h) r x' s))/\(b=false->(cN.any λp=>p.2 == C)=true)/\(op=some x'/\b=true/\Ok h (n+1) x'\/op=none/\b=false/\x'=x):=by
 cases op with
 |some x'=>exact⟨true,0,x',d.1,λz=>(by cases z),.inl ⟨rfl,rfl,d.2⟩⟩
 |none=>
  obtain⟨C,e,hC⟩:=d;exact⟨false,C,x,e,λ_=>hC,.inr ⟨rfl,rfl,rfl⟩⟩
end
def CL(k:Nat):Nat:=("fedcba":Str).cps.toList.getD k 0
theorem QI:∀k:Nat,k<6->CL k∈x6:=by decide +kernel
section
variable{h:aB}{r lt cl st how:Int}{x y:Hl}{n m kn num:Nat}{F:List D}{bt:Str}{bl nl:D}{name fl:aj Str}
def BJ(h:aB)(lt:Int)(kn n m:Nat)(x y x' y':Hl):Prop:=Rl h lt kn x' y'/\Ok h (n+1) x'/\Ok h (m+1) y'/\x'.rows.length<=x.rows.length+1/\(Nb y->Nb y')
theorem JC{ox oy:aj Hl}{x1 y1:Hl}{b0 b1:Bool}(R:Rl h lt kn x y)(o:Ok h n x)(DM:Ok h m y)(hx:ox=some x1/\b0=true/\Ok h (n+1) x1\/ox=none/\b0=false/\x1=x)(hy:oy=some y1/\b1=true/\Ok h (m+1) y1\/oy=none/\b1=false/\y1=y)(hr:(ox=none/\oy=none)\/∃x' y',ox=some x'/\oy=some y'/\Rl h lt kn x' y'/\x'.rows.length<=x.rows.length+1/\(Nb y->Nb y')):b1=b0/\BJ h lt kn n m x y x1 y1:=by
 rcases hr with⟨e1,e2⟩|⟨x',y',e1,e2,R',hl,nb⟩
 .rw[e1] at hx;rw[e2] at hy;obtain⟨_,rfl,rfl⟩:=hx.resolve_left λz=>(by cases z.1)
  obtain⟨_,rfl,rfl⟩:=hy.resolve_left λz=>(by cases z.1)
  exact⟨rfl,R,o.up,DM.up,qD _,id⟩
 .rw[e1] at hx;rw[e2] at hy;obtain⟨z1,rfl,o1⟩:=hx.resolve_right λz=>(by cases z.1)
  obtain⟨z2,rfl,o2⟩:=hy.resolve_right λz=>(by cases z.1)
  cases z1;cases z2;exact⟨rfl,R',o1,o2,hl,nb⟩
theorem QJ(g:aG h)(R:Rl h lt kn x y)(o:Ok h n x)(oy:Ok h m y)(hn:n<900)(hm:m<900)(l0:0<=lt)(l1:lt<100)(h8:x.rows.length<8)(Dl:∀f,name=some f->∃j,j<3/\f=fn j)(zh:fl=name\/fl=none)(w0:0<=how)(w1:how<8)(c0:0<=cl)(oH:num<6)(hb:bt∈(h.af.drop kn).map ak.name):
  ∃b x' y',BJ h lt kn n m x y x' y'/\aA (ae 12) (iZ 0) (dc 0 2) (dG bl nl lt num how (aH name) cl (aH fl) bt none none) (H2 (aw h) r x y [fC F,.o (.lst [])])=some (.nx (dG bl nl lt num how (aH name) cl (aH fl) bt (some (.d (.int 1))) (some (.d (.bl b)))) (H2 (aw h) r x' y' [fC F,.o (.lst [.bl b,.bl b])])):=by
 have RJ:∀f,name=some f->lu f/\f≠iV:=λf e=>by
  obtain⟨j,hj,rfl⟩:=Dl f e;exact⟨tF (JM j hj),JB j hj⟩
 have t0:(([]:List D).length<1000000)=True:=bH (by decide)
 have t1:∀b:Bool,(([.bl b]:List D).length<1000000)=True:=λb=>bH (by show 1<1000000;decide)
 have Ri:(h.af.map ak.name).contains bt=true:=gP.mpr (by
  obtain⟨c,hc,e⟩:=cX.mp hb;exact cX.mpr ⟨c,Ml hc,e⟩)
 have two:∀b x1 y1,BJ h lt kn n m x y x1 y1->iZ 0 (dG bl nl lt num how (aH name) cl (aH fl) bt (some (.d (.int 0))) none) (H2 (aw h) r x y [fC F,.o (.lst [])])=some (.nx (dG bl nl lt num how (aH name) cl (aH fl) bt (some (.d (.int 0))) (some (.d (.bl b)))) (H2 (aw h) r x1 y [fC F,.o (.lst [.bl b])]))->iZ 0 (dG bl nl lt num how (aH name) cl (aH fl) bt (some (.d (.int 1))) (some (.d (.bl b)))) (H2 (aw h) r x1 y [fC F,.o (.lst [.bl b])])=some (.nx (dG bl nl lt num how (aH name) cl (aH fl) bt (some (.d (.int 1))) (some (.d (.bl b)))) (H2 (aw h) r x1 y1 [fC F,.o (.lst [.bl b,.bl b])]))->∃b x' y',BJ h lt kn n m x y x' y'/\aA (ae 12) (iZ 0) (dc 0 2) (dG bl nl lt num how (aH name) cl (aH fl) bt none none) (H2 (aw h) r x y [fC F,.o (.lst [])])=some (.nx (dG bl nl lt num how (aH name) cl (aH fl) bt (some (.d (.int 1))) (some (.d (.bl b)))) (H2 (aw h) r x' y' [fC F,.o (.lst [.bl b,.bl b])])):=λb x1 y1 T e0 e1=>⟨b,x1,y1,T,Z_ e0 e1⟩
 by_cases h6:how<6
 .have g6:=bH h6;have l6:(("fedcba":Str).length<=1000000)=True:=bH (by decide +kernel)
  have hc:cY ("fedcba":Str).cps.toList (num:Int)=some (CL num):=ID 0 (by lia) (by show(num:Int)<(6:Nat);lia)
  have hf:∀f,fl=some f->lu f/\f≠iV:=λf e=>zh.elim (λz=>RJ f (by rw[<-z];exact e)) λz=>(by rw[z] at e;cases e)
  obtain⟨b0,C0,x1,e0,k0,z0⟩:=A6 (Q1 (A:=[]) (B:=hR (aw h) r y 8 []) (s:=[fC F,.o (.lst [])]) (r:=r) (bag:=⟨#[CL num]⟩) (b:=bt) (fl:=fl) g o (by lia) (tF (QI num oH)) (λf e=>(hf f e).1) h8 Ri)
  obtain⟨b1,C1,y1,e1,k1,z1⟩:=A6 (Q1 (A:=hR (aw h) r x1 0 []) (B:=[]) (s:=[fC F,.o (.lst [.bl b0])]) (r:=r) (bag:=⟨#[CL num]⟩) (b:=bt) (fl:=fl) g oy (by lia) (tF (QI num oH)) (λf e=>(hf f e).1) (by rw[R.rw];exact h8) Ri)
  obtain⟨rfl,T⟩:=JC R o oy z0 z1 ((R.put (bag:=⟨#[CL num]⟩) (fl:=fl) (λz=>(hf _ z).2 rfl) hb).imp id λ⟨x',y',a1,a2,a3,a4,a5⟩=>⟨x',y',a1,a2,a3,Br a4,a5⟩)
  exact two b1 x1 y1 T (dp0 g6 l6 hc e0 k0 t0) (dp8 g6 l6 hc e1 k1 (t1 b1))
 .have g6:=eq_false h6;cases name with
  |none=>
   exact two true x y ⟨R,o.up,oy.up,qD _,id⟩ (QO g6 rfl rfl t0) (QO g6 rfl rfl (t1 true))
  |some f=>
   obtain⟨nf,nb⟩:=RJ f rfl;by_cases h7:how=6
   .have g7:(how == 6)=true:=beq_iff_eq.mpr h7;obtain⟨b0,C0,x1,e0,k0,z0⟩:=A6 (OP (A:=[]) (B:=hR (aw h) r y 8 []) (s:=[fC F,.o (.lst [])]) (r:=r) (f:=f) (cl:=cl) o (by lia) nf c0)
    obtain⟨b1,C1,y1,e1,k1,z1⟩:=A6 (OP (A:=hR (aw h) r x1 0 []) (B:=[]) (s:=[fC F,.o (.lst [.bl b0])]) (r:=r) (f:=f) (cl:=cl+lt) oy (by lia) nf (by lia))
    obtain⟨rfl,T⟩:=JC R o oy z0 z1 ((R.chg (cl:=cl) nb).imp id λ⟨x',y',a1,a2,a3,a4,a5⟩=>⟨x',y',a1,a2,a3,by rw[a4];exact qD _,a5⟩)
    exact two b1 x1 y1 T (dc0 g6 g7 (bH (.inl ⟨by lia,by lia⟩)) (show cl+lt*0=cl by lia) e0 k0 t0) (dc8 g6 g7 (bH (.inl ⟨by lia,by lia⟩)) (show cl+lt*1=cl+lt by lia) e1 k1 (t1 b1))
   .have g7:(how == 6)=false:=by rw[nc];exact h7
    have g8:(how == 7)=true:=beq_iff_eq.mpr (by lia)
    by_cases h9:cl<8
    .obtain⟨b0,C0,x1,e0,k0,z0⟩:=A6 (JL (A:=[]) (B:=hR (aw h) r y 8 []) (s:=[fC F,.o (.lst [])]) (r:=r) (f:=f) g o nf);obtain⟨b1,C1,y1,e1,k1,z1⟩:=A6 (JL (A:=hR (aw h) r x1 0 []) (B:=[]) (s:=[fC F,.o (.lst [.bl b0])]) (r:=r) (f:=f) g oy nf);obtain⟨rfl,T⟩:=JC R o oy z0 z1 ((R.off nb).imp id λ⟨x',y',a1,a2,a3,a4,a5⟩=>⟨x',y',a1,a2,a3,by rw[a4];exact qD _,a5⟩)
     exact two b1 x1 y1 T (do0 g6 g7 g8 (bH h9) e0 k0 t0) (do8 g6 g7 g8 (bH h9) e1 k1 (t1 b1))
    .exact two true x y ⟨R,o.up,oy.up,qD _,id⟩ (QP g6 g7 g8 (eq_false h9) t0) (QP g6 g7 g8 (eq_false h9) (t1 true))
end
variable{x1:Hl}
theorem o7{a b:GS}{U U':Gm}{S S':aO}{t:aj Fr}(e:a U S=some (.nx U' S'))(e2:b U' S'=t):dF a b U S=t:=by
 unfold dF;rw[e];exact e2
theorem JS:aP (.lst []) (.lst [])=true:=rfl
theorem Uu:((2:Int)<((5:Nat):Int))=True:=bH (by decide)
section
variable{h:aB}{r lt st v k:Int}{x y:Hl}{n m kn num:Nat}{F F' F1 F2:List D}{names:List Str}{hd:D}{bs cs:List D}{g7 g8 g9 g10 a6 a8 a11 a12:aj Val}{g0:aj Val}{ro:D}
theorem e5i(g:aG h)(R:Rl h lt kn x y)(o:Ok h n x)(oy:Ok h m y)(hn:n<900)(hm:m<900)(l0:0<=lt)(l1:lt<100)(h8:x.rows.length<8)(hF:Fd st F)(Dm:∀f∈names,∃j,j<3/\f=fn j)(nl:names.length<=3)(oH:num<6)(kd:0<((h.af.drop kn).map ak.name).length)(RL:((h.af.drop kn).map ak.name).length<=100):
  ∃x' y' F',Fd st F'/\BJ h lt kn n m x y x' y'/\we 0 [.c 0,.d cU,.d (.lst (dS ((h.af.drop kn).map ak.name))),.d (.int lt),.d (.lst (dS names)),.d (.int num)] (H2 (aw h) r x y [fC F])=some (.ok (rd (.bl true)) (H2 (aw h) r x' y' [fC F'])):=by
 generalize eb:(h.af.drop kn).map ak.name=bn at *;obtain⟨how,F1,w0,w1,f1,d1⟩:=kK hF (m:=8) (by decide) (by decide)
 have three:∀(nm:aj Str) (cl:Int),0<=cl->∃fl,(fl=nm\/fl=none)/\cY [aH nm,aH nm,.aF] (cl%3)=some (aH fl):=λnm cl c0=>by
  rcases show cl%3=0\/cl%3=1\/cl%3=2 by lia with e|e|e
  .rw[e];exact⟨nm,.inl rfl,rfl⟩
  .rw[e];exact⟨nm,.inl rfl,rfl⟩
  .rw[e];exact⟨none,.inr rfl,rfl⟩
 have el:((dS bn).length:Int)=(bn.length:Int):=by rw[aY]
 cases names with
 |nil=>
  obtain⟨cl,F2,c0,c1,f2,d2⟩:=kK f1 (m:=25) (by decide) (by decide)
  obtain⟨v,F3,v0,v1,f3,d3⟩:=kK f2 (m:=(bn.length:Int)) (by lia) (by lia)
  obtain⟨fl,zh,hf⟩:=three none cl c0;have qp:bn.getD v.toNat ""∈(h.af.drop kn).map ak.name:=by rw[eb];exact E' (by lia)
  obtain⟨b,x',y',T,e⟩:=QJ (F:=F3) (r:=r) (name:=none) (fl:=fl) (how:=how) (cl:=cl) (num:=num) (bt:=bn.getD v.toNat "") (bl:=.lst (dS bn)) (nl:=.lst []) g R o oy hn hm l0 l1 h8 (λf e=>(by cases e)) zh w0 w1 c0 oH qp
  exact⟨x',y',F3,f3,T,e5g d1 d2 hf el d3 (Cq v0 v1) e⟩
 |cons n0 n1=>
  obtain⟨u,F4,u0,u1,f4,d4⟩:=kK f1 (m:=((n0::n1).length:Int)) (by rw[jr];lia) (by lia)
  obtain⟨cl,F2,c0,c1,f2,d2⟩:=kK f4 (m:=25) (by decide) (by decide)
  obtain⟨v,F3,v0,v1,f3,d3⟩:=kK f2 (m:=(bn.length:Int)) (by lia) (by lia)
  obtain⟨fl,zh,hf⟩:=three (some ((n0::n1).getD u.toNat "")) cl c0;have qp:bn.getD v.toNat ""∈(h.af.drop kn).map ak.name:=by rw[eb];exact E' (by lia)
  obtain⟨b,x',y',T,e⟩:=QJ (F:=F3) (r:=r) (name:=some ((n0::n1).getD u.toNat "")) (fl:=fl) (how:=how) (cl:=cl) (num:=num) (bt:=bn.getD v.toNat "") (bl:=.lst (dS bn)) (nl:=.lst (dS (n0::n1))) g R o oy hn hm l0 l1 h8 (λf e=>by cases e;exact Dm _ (E' (by lia))) zh w0 w1 c0 oH qp
  exact⟨x',y',F3,f3,T,e5h d1 (by rw[jr,jr,aY]) d4 (Cq (xs:=n0::n1) u0 u1) d2 hf el d3 (Cq v0 v1) e⟩
abbrev wG(g0:aj Val)(hd ro:D)(lt:Int)(a6 g7 g8 g9 g10 a11 a12:aj Val):Gm:=[g0,some (.c 0),some (.d hd),some (.d ro),some (.d cU),some (.d (.int lt)),a6,g7,g8,g9,g10,a11,a12]
theorem e5j{lg:List D}{y1:Hl}{s:List Cell}(e1:ur 0 [.d cU,.d (.int lt)] (H2 hd r x y s)=some (.ok (rd (.bl true)) (H2 hd r x y s)))(e2:pM 0 [.d (.ref 0)] (H2 hd r x y s)=some (.ok (.o (.lst lg)) (H2 hd r x1 y s)))(e3:pM 0 [.d (.ref 8)] (H2 hd r x1 y s)=some (.ok (.o (.lst lg)) (H2 hd r x1 y1 s)))(k1:bX 40 (.lst lg)=true)(k2:aP (.lst lg) (.lst lg)=true):Cp 0 (wG g0 hd ro lt a6 g7 g8 g9 g10 a11 a12) (H2 hd r x y s)=some (.nx (wG g0 hd ro lt a6 g7 g8 g9 g10 a11 a12) (H2 hd r x1 y1 s)):=by
 unfold Cp;simp only[↓ev,wG,cU,e1,aQ,cx,e2,cL,e3,k1,k2,kI]
theorem QK{s:List Cell}(g:aG h)(hn:n<900)(hm:m<900):∀(ks:List D) {x y:Hl} {a6:aj Val},Rl h lt kn x y->Ok h n x->Ok h m y->∃x' y' k6,Rl h lt kn x' y'/\Ok h n x'/\Ok h m y'/\x'.rows.length<=x.rows.length/\y'.book=y.book/\aA (ae 6) (Cp 0) ks (wG g0 (aw h) ro lt a6 g7 g8 g9 g10 a11 a12) (H2 (aw h) r x y s)=some (.nx (wG g0 (aw h) ro lt k6 g7 g8 g9 g10 a11 a12) (H2 (aw h) r x' y' s))
 |[],x,y,a6,R,o,oy=>⟨x,y,a6,R,o,oy,bG _,rfl,rfl⟩
 |k::ks,x,y,a6,R,o,oy=>by
  obtain⟨lg,x1,y1,R1,o1,DN,l1,k1,Tu,e1,e2⟩:=PX (s:=s) (r:=r) g R o oy (by lia) (by lia)
  obtain⟨x',y',k6,R',o',DM,l',Tt,e'⟩:=QK g hn hm ks (a6:=some (.d k)) R1 o1 DN;exact⟨x',y',k6,R',o',DM,by lia,Tt.trans Tu,Cv rfl (e5j (Jm g R o oy (by lia)) e1 e2 k1 (uv _ k1)) e'⟩
theorem e5k{y1 x2 y2:Hl}{b6:aj Val}{bl nl:D}(e1:we 0 [.c 0,.d cU,.d bl,.d (.int lt),.d nl,.d (.int k)] (H2 hd r x y [fC F])=some (.ok (rd (.bl true)) (H2 hd r x1 y1 [fC F1])))(d:Dr F1 3 v F2)(hv:Nat.ble (1+v).natAbs 1000000000000=true)(el:aA (ae 6) (Cp 0) (dc 0 (1+v).toNat) (wG g0 hd ro lt a6 (some (.d nl)) g8 (some (.d bl)) g10 a11 (some (.d (.int k)))) (H2 hd r x1 y1 [fC F2])=some (.nx (wG g0 hd ro lt b6 (some (.d nl)) g8 (some (.d bl)) g10 a11 (some (.d (.int k)))) (H2 hd r x2 y2 [fC F2]))):AX 0 (wG g0 hd ro lt a6 (some (.d nl)) g8 (some (.d bl)) g10 a11 (some (.d (.int k)))) (H2 hd r x y [fC F])=some (.nx (wG g0 hd ro lt b6 (some (.d nl)) g8 (some (.d bl)) g10 a11 (some (.d (.int k)))) (H2 hd r x2 y2 [fC F2])):=by
 unfold AX;simp only[↓ev,wG,e1,aQ,d,hv,gu,el]
end
section
variable{h:aB}{r lt st v k:Int}{x y:Hl}{n m kn num:Nat}{F F' F1 F2:List D}{names:List Str}{hd:D}{bs cs:List D}{g7 g8 g9 g10 a6 a8 a11 a12:aj Val}{g0:aj Val}{ro:D}
theorem e5l(g:aG h)(l0:0<=lt)(l1:lt<100)(Dm:∀f∈names,∃j,j<3/\f=fn j)(nl:names.length<=3)(kd:0<((h.af.drop kn).map ak.name).length)(RL:((h.af.drop kn).map ak.name).length<=100)(hF:Fd st F)(R:Rl h lt kn x y)(o:Ok h 110 x)(oy:Ok h 110 y)(x0:x.rows.length=0):∃x' y' F' b6 uZ,Fd st F'/\Rl h lt kn x' y'/\Ok h 116 x'/\Ok h 116 y'/\(Nb y->Nb y')/\aA (ae 12) (AX 0) (dc 0 6) (wG g0 (aw h) ro lt a6 (some (.d (.lst (dS names)))) g8 (some (.d (.lst (dS ((h.af.drop kn).map ak.name))))) g10 a11 a12) (H2 (aw h) r x y [fC F])=some (.nx (wG g0 (aw h) ro lt b6 (some (.d (.lst (dS names)))) g8 (some (.d (.lst (dS ((h.af.drop kn).map ak.name))))) g10 a11 uZ) (H2 (aw h) r x' y' [fC F'])):=by
 rw[t6];obtain⟨U',S',e,x',y',F',b6,uZ,f',R',o',DM,_,nb,rfl,rfl⟩:=jy (gg:=ae 12) (body:=AX 0) (f:=λ(i:Nat)=>D.int (i:Int)) (U:=wG g0 (aw h) ro lt a6 (some (.d (.lst (dS names)))) g8 (some (.d (.lst (dS ((h.af.drop kn).map ak.name))))) g10 a11 a12) (S:=H2 (aw h) r x y [fC F])
  (λpre U S=>∃x' y' F' b6 uZ,Fd st F'/\Rl h lt kn x' y'/\Ok h (110+pre.length) x'/\Ok h (110+pre.length) y'/\x'.rows.length<=pre.length/\(Nb y->Nb y')/\U=wG g0 (aw h) ro lt b6 (some (.d (.lst (dS names)))) g8 (some (.d (.lst (dS ((h.af.drop kn).map ak.name))))) g10 a11 uZ/\S=H2 (aw h) r x' y' [fC F']) (List.range 6)
  ⟨x,y,F,a6,a12,hF,R,o,oy,Br x0,id,rfl,rfl⟩ (by
   rintro d i rest eq U S ⟨x1,y1,F1,b6,uZ,f1,R1,o1,DN,hl,nb1,rfl,rfl⟩;obtain⟨hq,hi⟩:=Fq eq;obtain⟨x2,y2,F2,f2,⟨R2,o2,G5,l2,nb2⟩,e1⟩:=e5i (r:=r) (num:=i) g R1 o1 DN (by lia) (by lia) l0 l1 (by lia) f1 Dm nl hi kd RL
   obtain⟨v,F3,v0,v1,f3,d3⟩:=kK f2 (m:=3) (by decide) (by decide)
   obtain⟨x3,y3,c6,R3,o3,K',l3,Tv,e3⟩:=QK (s:=[fC F3]) (r:=r) (g0:=g0) (ro:=ro) (g7:=some (.d (.lst (dS names)))) (g8:=g8) (g9:=some (.d (.lst (dS ((h.af.drop kn).map ak.name))))) (g10:=g10) (a11:=a11) (a12:=some (.d (.int i))) g (by lia) (by lia) (dc 0 (1+v).toNat) (a6:=b6) R2 o2 G5
   refine⟨_,_,_,rfl,.inl (e5k e1 d3 (Em (by lia)) e3),x3,y3,F3,_,_,f3,R3,?_,?_,?_,λq=>(by show iV∈y3.book.map _;rw[Tv];exact nb2 (nb1 q)),rfl,rfl⟩
   .rw[cB];exact o3
   .rw[cB];exact K'
   .rw[cB,ud];lia)
 exact⟨x',y',F',b6,uZ,f',R',o',DM,nb,e⟩
theorem e5m{l1 l2:List Str}{b:Str}{S:aO}(e:P0 AI [.d hd,.d (.str b)] (.o (.lst (dS l2))))(hl:((dS l1).length+(dS l2).length<=1000000)=True)(ap:dS l1++dS l2=dS (l1++l2)):Co 0 (wG g0 hd ro lt a6 g7 g8 g9 (some (.d (.lst (dS l1)))) (some (.d (.str b))) a12) S=some (.nx (wG g0 hd ro lt a6 g7 g8 g9 (some (.d (.lst (dS (l1++l2))))) (some (.d (.str b))) a12) S):=by
 unfold Co;simp only[↓ev,wG,e,hl,ap,aW]
theorem QL(g:aG h){S:aO}:∀(bn l1:List Str) {a11:aj Val},l1.length+200*bn.length<=100000->∃l kZ,(∀b∈l1,b∈l)/\aA (ae 11) (Co 0) (dS bn) (wG g0 (aw h) ro lt a6 g7 g8 g9 (some (.d (.lst (dS l1)))) a11 a12) S=some (.nx (wG g0 (aw h) ro lt a6 g7 g8 g9 (some (.d (.lst (dS l)))) kZ a12) S)
 |[],l1,a11,_=>⟨l1,a11,λb m=>m,rfl⟩
 |b::bn,l1,a11,hl=>by
  have s1:=g.sm.bl;have s2:=g.sm.ct;rw[jr] at hl;have lf:=xZ (λx=>(h.af.foldl (bA b) []).contains x) (h.af.map ak.name++h.carts)
  rw[cB,aY] at lf;obtain⟨l,kZ,hs,e⟩:=QL g bn (l1++(h.af.map ak.name++h.carts).filter λx=>(h.af.foldl (bA b) []).contains x) (a11:=some (.d (.str b))) (by rw[cB];lia)
  refine⟨l,kZ,λz mz=>hs z (e_.mpr (.inl mz)),Cv rfl (e5m (NV g.sm b) (bH (by rw[aY,aY];lia)) dq.symm) e⟩
theorem e5n{l:List Str}{b:ak}{y':Hl}{s:List Cell}(hc:l.contains b.name=false)(e:Cb 0 [.d (.ref 8),.d (.str b.name)] (H2 hd r x y s)=some (.ok (rd .aF) (H2 hd r x y' s))):wk 0 (wG g0 hd ro lt a6 g7 g8 g9 (some (.d (.lst (dS l)))) (some (.d (ar b))) a12) (H2 hd r x y s)=some (.nx (wG g0 hd ro lt a6 g7 g8 g9 (some (.d (.lst (dS l)))) (some (.d (ar b))) a12) (H2 hd r x y' s)):=by
 unfold wk ar;simp only[↓ev,wG,cU,cx,jG,jF,hc,nv,cL,hR,dO,Zw,e]
theorem e7c{l:List Str}{b:ak}{S:aO}(hc:l.contains b.name=true):wk 0 (wG g0 hd ro lt a6 g7 g8 g9 (some (.d (.lst (dS l)))) (some (.d (ar b))) a12) S=some (.nx (wG g0 hd ro lt a6 g7 g8 g9 (some (.d (.lst (dS l)))) (some (.d (ar b))) a12) S):=by
 unfold wk ar;simp only[↓ev,wG,cx,jG,jF,hc,kI,aQ]
theorem e5o(g:aG h){l:List Str}{s:List Cell}(oy:Ok h 3 y)(y0:y.halts=[]):∃hs kZ,Ok h 103 { y with halts:=hs}/\(∀b∈hs,b∉l)/\aA (ae 11) (wk 0) (h.af.map ar) (wG g0 (aw h) ro lt a6 g7 g8 g9 (some (.d (.lst (dS l)))) a11 a12) (H2 (aw h) r x y s)=some (.nx (wG g0 (aw h) ro lt a6 g7 g8 g9 (some (.d (.lst (dS l)))) kZ a12) (H2 (aw h) r x { y with halts:=hs} s)):=by
 have s1:=g.sm.bl;obtain⟨U',S',e,hs,kZ,o',hh,rfl,rfl⟩:=jy (gg:=ae 11) (body:=wk 0) (f:=ar) (U:=wG g0 (aw h) ro lt a6 g7 g8 g9 (some (.d (.lst (dS l)))) a11 a12) (S:=H2 (aw h) r x y s)
  (λpre U S=>∃hs kZ,Ok h (3+pre.length) { y with halts:=hs}/\(∀b∈hs,b∉l)/\U=wG g0 (aw h) ro lt a6 g7 g8 g9 (some (.d (.lst (dS l)))) kZ a12/\S=H2 (aw h) r x { y with halts:=hs} s) h.af
  ⟨[],a11,by rw[<-y0];exact oy,λb m=>(by cases m),rfl,by rw[<-y0]⟩ (by
   rintro d b rest eq U S ⟨hs,kZ,o',hh,rfl,rfl⟩;have hd:d.length<=100:=by rw[eq,cB] at s1;lia
   have hb:b∈h.af:=by rw[eq];simp
   cases hc:l.contains b.name with
   |true=>exact⟨_,_,_,rfl,.inl (e7c hc),hs,_,by rw[cB];exact o'.up,hh,rfl,rfl⟩
   |false=>
    obtain⟨e,o2⟩:=e4m (A:=hR (aw h) r x 0 []) (B:=[]) (s:=s) (r:=r) g o' (by lia) (gP.mpr (kS (f:=ak.name) hb))
    refine⟨_,_,_,rfl,.inl (e5n hc e),_,_,by rw[cB];exact o2,λz mz=>?_,rfl,rfl⟩
    rcases oJ.mp mz with rfl|mz
    .exact E5 hc
    .exact hh z mz)
 exact⟨hs,kZ,o'.mono (by lia),hh,e⟩
theorem e5p{s:List Cell}{x1:Hl}(e:pM 0 [.d (.ref 8)] (H2 hd r x y s)=some (.ok (.o (.lst [])) (H2 hd r x x1 s))):Cn 0 (wG g0 hd ro lt a6 g7 g8 g9 g10 a11 a12) (H2 hd r x y s)=some (.nx (wG g0 hd ro lt a6 g7 g8 g9 g10 a11 a12) (H2 hd r x x1 s)):=by
 unfold Cn;simp only[↓ev,wG,cU,cL,e,aW,aQ,JS,kI]
theorem QM(g:aG h){s:List Cell}:∀(m:Nat) (k:Int) {a6:aj Val} (ks:List D),ks.length=m->∃k6,aA (ae 6) (Cn 0) ks (wG g0 (aw h) ro lt a6 g7 g8 g9 g10 a11 a12) (H2 (aw h) r x (yk k) s)=some (.nx (wG g0 (aw h) ro lt k6 g7 g8 g9 g10 a11 a12) (H2 (aw h) r x (yk (k+m)) s))
 |0,k,a6,ks,hl=>by
  cases ks with
  |nil=>exact⟨a6,by rw[show k+((0:Nat):Int)=k by lia];rfl⟩
  |cons _ _=>cases hl
 |m+1,k,a6,ks,hl=>by
  cases ks with
  |nil=>cases hl
  |cons d ks=>
   obtain⟨X,t,e⟩:=JA (A:=hR (aw h) r x 0 []) (B:=[]) (s:=s) (r:=r) g (rM h k) (by decide)
   obtain⟨k6,e'⟩:=QM g (s:=s) m (k+1) (a6:=some (.d d)) ks (by simpa using hl)
   refine⟨k6,Cv rfl (e5p (x1:=yk (k+1)) e) ?_⟩;rw[show k+((m+1:Nat):Int)=k+1+(m:Int) by lia]
   exact e'
end
section
variable{ns is:List Int}{F F3 F4 F5 F6 F7 F8 bl cs bd lg:List D}{v p md nu r lt ll bg cl:Int}{b6 Ct c6 u_ Gf:aj Val}{x1 y1 y2 y3 x2 y4 y5 x3 y6:Hl}{names bn kl:List Str}{ct:Str}
theorem e5q(e0:P0 B' [.d (fP ns)] (.o (.lst F)))(d:Dr F 12 v (fL is p 0 md nu))(e1:AJ 0 [.c 0] ⟨[fC (fL is p v md nu)],[]⟩=some (.ok (rd (.tup [.lst bl,.lst cs])) ⟨[fC F3],[]⟩))(d4:Dr F3 3 r F4)
  (hi0:yx 0 [.d (.ref 0),.d (.tup [.lst bl,.lst cs]),.d (.int r)] ⟨[fC F4],[.ins cHall []]⟩=some (.ok (rd .aF) ⟨[fC F4],hR (.tup [.lst bl,.lst cs]) r (yk 0) 0 []⟩)) (hi8:yx 0 [.d (.ref 8),.d (.tup [.lst bl,.lst cs]),.d (.int r)] ⟨[fC F4],hR (.tup [.lst bl,.lst cs]) r (yk 0) 0 [.ins cHall []]⟩=some (.ok (rd .aF) (H2 (.tup [.lst bl,.lst cs]) r (yk 0) (yk 0) [fC F4]))) (d5:Dr F4 6 lt F5) (hz:Nat.ble lt.natAbs 1000000000000=true)
  (GU:aA (ae 6) (Cn 0) (dc 0 lt.toNat) (wG (some (.d (fP ns))) (.tup [.lst bl,.lst cs]) (.int r) lt none none none none none none none) (H2 (.tup [.lst bl,.lst cs]) r (yk 0) (yk 0) [fC F5])=some (.nx (wG (some (.d (fP ns))) (.tup [.lst bl,.lst cs]) (.int r) lt b6 none none none none none none) (H2 (.tup [.lst bl,.lst cs]) r (yk 0) (yk lt) [fC F5])))
  (e2:AD 0 [.c 0,.d cU,.d (.lst cs),.d (.int lt)] (H2 (.tup [.lst bl,.lst cs]) r (yk 0) (yk lt) [fC F5])=some (.ok (.o (.lst (dS names))) (H2 (.tup [.lst bl,.lst cs]) r x1 y1 [fC F6]))) (lb:(bl.length:Int)=ll) (d7:Dr F6 ll bg F7)
  (cu:cutD bl (some bg) none=bd) (ec:bx (ae 0) (iD true) (Po 0) bd [none] (H2 (.tup [.lst bl,.lst cs]) r x1 y1 [fC F7]) []=some (.ok (dS bn) (H2 (.tup [.lst bl,.lst cs]) r x1 y1 [fC F7])))
  (h2:aA (ae 11) (Co 0) (dS bn) (wG (some (.d (fP ns))) (.tup [.lst bl,.lst cs]) (.int r) lt b6 (some (.d (.lst (dS names)))) (some (.d (.int bg))) (some (.d (.lst (dS bn)))) (some (.d (.lst (dS bn)))) none none) (H2 (.tup [.lst bl,.lst cs]) r x1 y1 [fC F7])=some (.nx (wG (some (.d (fP ns))) (.tup [.lst bl,.lst cs]) (.int r) lt b6 (some (.d (.lst (dS names)))) (some (.d (.int bg))) (some (.d (.lst (dS bn)))) (some (.d (.lst (dS kl)))) Ct none) (H2 (.tup [.lst bl,.lst cs]) r x1 y1 [fC F7])))
  (h3:aA (ae 11) (wk 0) bl (wG (some (.d (fP ns))) (.tup [.lst bl,.lst cs]) (.int r) lt b6 (some (.d (.lst (dS names)))) (some (.d (.int bg))) (some (.d (.lst (dS bn)))) (some (.d (.lst (dS kl)))) Ct none) (H2 (.tup [.lst bl,.lst cs]) r x1 y1 [fC F7])=some (.nx (wG (some (.d (fP ns))) (.tup [.lst bl,.lst cs]) (.int r) lt b6 (some (.d (.lst (dS names)))) (some (.d (.int bg))) (some (.d (.lst (dS bn)))) (some (.d (.lst (dS kl)))) u_ none) (H2 (.tup [.lst bl,.lst cs]) r x1 y2 [fC F7])))
  (lc:(cs.length:Int)=cl) (hc:((1<cl)=True/\cY cs (-1)=some (.str ct)/\uq 0 [.d (.ref 8),.d (.str iV),.d (.str ct),.d (.int 3)] (H2 (.tup [.lst bl,.lst cs]) r x1 y2 [fC F7])=some (.ok (rd .aF) (H2 (.tup [.lst bl,.lst cs]) r x1 y3 [fC F7]))/\uT 0 [.d (.ref 8),.d (.str iV)] (H2 (.tup [.lst bl,.lst cs]) r x2 y4 [fC F8])=some (.ok (rd .aF) (H2 (.tup [.lst bl,.lst cs]) r x2 y5 [fC F8])))\/((1<cl)=False/\y3=y2/\y5=y4))
  (h6:aA (ae 12) (AX 0) (dc 0 6) (wG (some (.d (fP ns))) (.tup [.lst bl,.lst cs]) (.int r) lt b6 (some (.d (.lst (dS names)))) (some (.d (.int bg))) (some (.d (.lst (dS bn)))) (some (.d (.lst (dS kl)))) u_ none) (H2 (.tup [.lst bl,.lst cs]) r x1 y3 [fC F7])=some (.nx (wG (some (.d (fP ns))) (.tup [.lst bl,.lst cs]) (.int r) lt c6 (some (.d (.lst (dS names)))) (some (.d (.int bg))) (some (.d (.lst (dS bn)))) (some (.d (.lst (dS kl)))) u_ Gf) (H2 (.tup [.lst bl,.lst cs]) r x2 y4 [fC F8])))
  (ea:ur 0 [.d cU,.d (.int lt)] (H2 (.tup [.lst bl,.lst cs]) r x2 y5 [fC F8])=some (.ok (rd (.bl true)) (H2 (.tup [.lst bl,.lst cs]) r x2 y5 [fC F8]))) (JT:pM 0 [.d (.ref 0)] (H2 (.tup [.lst bl,.lst cs]) r x2 y5 [fC F8])=some (.ok (.o (.lst lg)) (H2 (.tup [.lst bl,.lst cs]) r x3 y5 [fC F8]))) (JU:pM 0 [.d (.ref 8)] (H2 (.tup [.lst bl,.lst cs]) r x3 y5 [fC F8])=some (.ok (.o (.lst lg)) (H2 (.tup [.lst bl,.lst cs]) r x3 y6 [fC F8]))) (k1:bX 40 (.lst lg)=true) (k2:aP (.lst lg) (.lst lg)=true) (eb:ur 0 [.d cU,.d (.int lt)] (H2 (.tup [.lst bl,.lst cs]) r x3 y6 [fC F8])=some (.ok (rd (.bl true)) (H2 (.tup [.lst bl,.lst cs]) r x3 y6 [fC F8]))):CO 0 [some (.d (fP ns)),none,none,none,none,none,none,none,none,none,none,none,none] ⟨[],[]⟩=some (.rt (rd (.bl true)) (H2 (.tup [.lst bl,.lst cs]) r x3 y6 [fC F8])):=by
 have i6:Nat.ble (6:Int).natAbs 1000000000000=true:=by decide
 unfold CO QX;refine o7 (U':=[some (.d (fP ns)),some (.c 0),none,none,none,none,none,none,none,none,none,none,none]) (S':=⟨[fC F],[]⟩) (by simp only[↓ev,e0,aW]) ?_
 refine o7 (U':=[some (.d (fP ns)),some (.c 0),none,none,none,none,none,none,none,none,none,none,none]) (S':=⟨[fC (fL is p v md nu)],[]⟩) (by simp only[↓ev,d,fL,aW,Uu]) ?_
 refine o7 (U':=[some (.d (fP ns)),some (.c 0),some (.d (.tup [.lst bl,.lst cs])),none,none,none,none,none,none,none,none,none,none]) (S':=⟨[fC F3],[]⟩) (by simp only[↓ev,e1,aW]) ?_
 refine o7 (U':=[some (.d (fP ns)),some (.c 0),some (.d (.tup [.lst bl,.lst cs])),some (.d (.int r)),none,none,none,none,none,none,none,none,none]) (S':=⟨[fC F4],[]⟩) (by simp only[↓ev,d4,aW]) ?_
 refine o7 (U':=[some (.d (fP ns)),some (.c 0),some (.d (.tup [.lst bl,.lst cs])),some (.d (.int r)),some (.d cU),none,none,none,none,none,none,none,none]) (S':=H2 (.tup [.lst bl,.lst cs]) r (yk 0) (yk 0) [fC F4]) (by simp only[↓ev,hi0,hR,hi8,aW,aQ,cU]) ?_
 refine o7 (U':=[some (.d (fP ns)),some (.c 0),some (.d (.tup [.lst bl,.lst cs])),some (.d (.int r)),some (.d cU),some (.d (.int lt)),none,none,none,none,none,none,none]) (S':=H2 (.tup [.lst bl,.lst cs]) r (yk 0) (yk 0) [fC F5]) (by simp only[↓ev,d5,aW]) ?_
 refine o7 (U':=[some (.d (fP ns)),some (.c 0),some (.d (.tup [.lst bl,.lst cs])),some (.d (.int r)),some (.d cU),some (.d (.int lt)),b6,none,none,none,none,none,none]) (S':=H2 (.tup [.lst bl,.lst cs]) r (yk 0) (yk lt) [fC F5]) (by simp only[↓ev,hz,gu,GU,wG]) ?_
 refine o7 (U':=[some (.d (fP ns)),some (.c 0),some (.d (.tup [.lst bl,.lst cs])),some (.d (.int r)),some (.d cU),some (.d (.int lt)),b6,some (.d (.lst (dS names))),none,none,none,none,none]) (S':=H2 (.tup [.lst bl,.lst cs]) r x1 y1 [fC F6]) (by simp only[↓ev,cL,e2,aW]) ?_
 refine o7 (U':=[some (.d (fP ns)),some (.c 0),some (.d (.tup [.lst bl,.lst cs])),some (.d (.int r)),some (.d cU),some (.d (.int lt)),b6,some (.d (.lst (dS names))),some (.d (.int bg)),none,none,none,none]) (S':=H2 (.tup [.lst bl,.lst cs]) r x1 y1 [fC F7]) (by simp only[↓ev,cx,lb,d7,aW]) ?_
 unfold QW;refine o7 (U':=[some (.d (fP ns)),some (.c 0),some (.d (.tup [.lst bl,.lst cs])),some (.d (.int r)),some (.d cU),some (.d (.int lt)),b6,some (.d (.lst (dS names))),some (.d (.int bg)),some (.d (.lst (dS bn))),none,none,none]) (S':=H2 (.tup [.lst bl,.lst cs]) r x1 y1 [fC F7]) (by simp only[↓ev,cx,cu,gu,ec,aW]) ?_
 refine o7 (U':=[some (.d (fP ns)),some (.c 0),some (.d (.tup [.lst bl,.lst cs])),some (.d (.int r)),some (.d cU),some (.d (.int lt)),b6,some (.d (.lst (dS names))),some (.d (.int bg)),some (.d (.lst (dS bn))),some (.d (.lst (dS bn))),none,none]) (S':=H2 (.tup [.lst bl,.lst cs]) r x1 y1 [fC F7]) (by simp only[↓ev,aW]) ?_
 refine o7 (U':=[some (.d (fP ns)),some (.c 0),some (.d (.tup [.lst bl,.lst cs])),some (.d (.int r)),some (.d cU),some (.d (.int lt)),b6,some (.d (.lst (dS names))),some (.d (.int bg)),some (.d (.lst (dS bn))),some (.d (.lst (dS kl))),Ct,none]) (S':=H2 (.tup [.lst bl,.lst cs]) r x1 y1 [fC F7]) (by simp only[↓ev,gu,h2,wG]) ?_
 refine o7 (U':=[some (.d (fP ns)),some (.c 0),some (.d (.tup [.lst bl,.lst cs])),some (.d (.int r)),some (.d cU),some (.d (.int lt)),b6,some (.d (.lst (dS names))),some (.d (.int bg)),some (.d (.lst (dS bn))),some (.d (.lst (dS kl))),u_,none]) (S':=H2 (.tup [.lst bl,.lst cs]) r x1 y2 [fC F7]) (by simp only[↓ev,cx,gu,h3,wG]) ?_
 refine o7 (U':=[some (.d (fP ns)),some (.c 0),some (.d (.tup [.lst bl,.lst cs])),some (.d (.int r)),some (.d cU),some (.d (.int lt)),b6,some (.d (.lst (dS names))),some (.d (.int bg)),some (.d (.lst (dS bn))),some (.d (.lst (dS kl))),u_,none]) (S':=H2 (.tup [.lst bl,.lst cs]) r x1 y3 [fC F7]) ?_ ?_
 .rcases hc with⟨q1,q2,q3,q4⟩|⟨q1,q2,q3⟩
  .simp only[↓ev,cL,lc,q1,decide_true,cU,hR,dO,IB,aW,q2,q3]
  .subst q2;subst q3;simp only[↓ev,cL,lc,q1,decide_false,aQ]
 refine o7 (U':=[some (.d (fP ns)),some (.c 0),some (.d (.tup [.lst bl,.lst cs])),some (.d (.int r)),some (.d cU),some (.d (.int lt)),c6,some (.d (.lst (dS names))),some (.d (.int bg)),some (.d (.lst (dS bn))),some (.d (.lst (dS kl))),u_,Gf]) (S':=H2 (.tup [.lst bl,.lst cs]) r x2 y4 [fC F8]) (by simp only[↓ev,i6,aW,gu,h6,wG]) ?_
 refine o7 (U':=[some (.d (fP ns)),some (.c 0),some (.d (.tup [.lst bl,.lst cs])),some (.d (.int r)),some (.d cU),some (.d (.int lt)),c6,some (.d (.lst (dS names))),some (.d (.int bg)),some (.d (.lst (dS bn))),some (.d (.lst (dS kl))),u_,Gf]) (S':=H2 (.tup [.lst bl,.lst cs]) r x2 y5 [fC F8]) ?_ ?_
 .rcases hc with⟨q1,q2,q3,q4⟩|⟨q1,q2,q3⟩
  .simp only[↓ev,cL,lc,q1,decide_true,cU,hR,dO,BY,q4]
  .subst q2;subst q3;simp only[↓ev,cL,lc,q1,decide_false,aQ]
 simp only[↓ev,cU,ea,cx,JT,cL,JU,k1,aQ,k2,eb]
end
theorem xg:lu iV:=IA [110,111,98,111,100,121] (by decide) (by decide) (by decide +kernel)
theorem Γ{xs:List Str}(h:1<xs.length):∃c,cY (dS xs) (-1)=some (.str c)/\c∈xs.drop 1:=by
 refine⟨xs[xs.length - 1],?_,List.mem_drop_iff_getElem.mpr ⟨xs.length - 2,by lia,by congr 1;lia⟩⟩
 have e:tI (dS xs).length (-1)=some (xs.length - 1):=by
  rw[aY];unfold tI;simp;lia
 unfold cY;rw[e];simp
theorem e5r{ns:List Int}{S2:aO}(e:CO 0 [some (.d (fP ns)),none,none,none,none,none,none,none,none,none,none,none,none] ⟨[],[]⟩=some (.rt (rd (.bl true)) S2)):∃S,Gj 0 [.d (fP ns)] ⟨[],[]⟩=some (.ok (.v (.d (.bl true))) S):=by
 refine⟨S2.cut 0,?_⟩;unfold Gj bc;generalize CO 0=ml at *;simp only[↓ev,e]
theorem e7d:∀ns:List Int,ns.length<=63->∃S,Gj 0 [.d (.lst (ns.map D.int))] ⟨[],[]⟩=some (.ok (.v (.d (.bl true))) S):=by
 intro ns GR;obtain⟨F,f0,e0⟩:=e2w ns GR;obtain⟨v,F1,v0,v1,f1,d⟩:=kK f0 (m:=12) (by decide) (by decide)
 obtain⟨is,p,md,nu,rfl,hl,hp⟩:=f1;obtain⟨h,F3,f3,g,b0,b5,c4,eh⟩:=Zv (rr:=[]) (st:=v) (F:=fL is p v md nu) ⟨is,p,md,nu,rfl,hl,hp⟩ v0 v1;obtain⟨r,F4,r0,r1,f4,d4⟩:=kK f3 (m:=3) (by decide) (by decide)
 obtain⟨lt,F5,l0,l1,f5,d5⟩:=kK f4 (m:=6) (by decide) (by decide)
 obtain⟨b6,GU⟩:=QM (r:=r) (x:=yk 0) (g0:=some (.d (fP ns))) (ro:=.int r) (lt:=lt) (g7:=none) (g8:=none) (g9:=none) (g10:=none) (a11:=none) (a12:=none) g (s:=[fC F5]) lt.toNat 0 (a6:=none) (dc 0 lt.toNat) (by rw[t6,aY,uK])
 rw[show(0:Int)+(lt.toNat:Int)=lt by lia] at GU
 obtain⟨fs,F6,f6,H,fl,o1,DN,e2⟩:=Vq (r:=r) g f5 l0;obtain⟨bg,F7,g0,g1,f7,d7⟩:=kK f6 (m:=(h.af.length:Int)) (by lia) (by lia)
 have cu:cutD (h.af.map ar) (some bg) none=(h.af.drop bg.toNat).map ar:=by rw[show bg=((bg.toNat:Nat):Int) by lia,OB,<-Hs];rfl
 have R0:Rl h lt bg.toNat { yk 0 with book:=fs} { yk lt with book:=fs.reverse.map (jN lt)}:=rl0 H;have dl:(h.af.drop bg.toNat).length=h.af.length - bg.toNat:=Er;have bl1:((h.af.drop bg.toNat).map ak.name).length=h.af.length - bg.toNat:=by rw[aY,dl]
 obtain⟨kl,Ct,hk,h2⟩:=QL (S:=H2 (aw h) r { yk 0 with book:=fs} { yk lt with book:=fs.reverse.map (jN lt)} [fC F7]) (g0:=some (.d (fP ns))) (ro:=.int r) (lt:=lt) (a6:=b6) (g7:=some (.d (.lst (dS (fs.map (·.1)))))) (g8:=some (.d (.int bg))) (g9:=some (.d (.lst (dS ((h.af.drop bg.toNat).map ak.name))))) (a12:=none) g ((h.af.drop bg.toNat).map ak.name) ((h.af.drop bg.toNat).map ak.name) (a11:=none) (by lia)
 obtain⟨hs,u_,G5,hh,h3⟩:=e5o (l:=kl) (s:=[fC F7]) (x:={ yk 0 with book:=fs}) (r:=r) (g0:=some (.d (fP ns))) (ro:=.int r) (lt:=lt) (a6:=b6) (g7:=some (.d (.lst (dS (fs.map (·.1)))))) (g8:=some (.d (.int bg))) (g9:=some (.d (.lst (dS ((h.af.drop bg.toNat).map ak.name))))) (a11:=Ct) (a12:=none) g DN rfl
 have R2:Rl h lt bg.toNat { yk 0 with book:=fs} { yk lt with book:=fs.reverse.map (jN lt),halts:=hs}:=⟨R0.rw,R0.nw,R0.go,R0.bk,R0.nx,R0.hx,λb m z=>hh b m (hk b z),R0.ro⟩
 have Dm:∀f∈fs.map (·.1),∃j,j<3/\f=fn j:=λf m=>by
  obtain⟨q,hq,rfl⟩:=cX.mp m;exact(H.2 q hq).1
 have nbY:iV∉(fs.reverse.map (jN lt)).map (·.1):=λm=>by
  rw[eU] at m;obtain⟨q,hq,e⟩:=cX.mp m;obtain⟨⟨j,hj,ej⟩,_⟩:=H.2 q (L_.mp hq);exact JB j hj (ej.symm.trans e)
 obtain⟨y3,ct,R3,K',Bb⟩:∃y3 ct,Rl h lt bg.toNat { yk 0 with book:=fs} y3/\Ok h 104 y3/\(((1:Int)<(h.carts.length:Int))/\cY (dS h.carts) (-1)=some (.str ct)/\uq 0 [.d (.ref 8),.d (.str iV),.d (.str ct),.d (.int 3)] (H2 (aw h) r { yk 0 with book:=fs} { yk lt with book:=fs.reverse.map (jN lt),halts:=hs} [fC F7])=some (.ok (rd .aF) (H2 (aw h) r { yk 0 with book:=fs} y3 [fC F7]))/\iV∈y3.book.map (·.1)\/¬(1:Int)<(h.carts.length:Int)/\y3={ yk lt with book:=fs.reverse.map (jN lt),halts:=hs}):=by
  by_cases hc:(1:Int)<(h.carts.length:Int)
  .obtain⟨ct,ha,hm⟩:=Γ (xs:=h.carts) (by lia)
   obtain⟨e,o'⟩:=IV (A:=hR (aw h) r { yk 0 with book:=fs} 0 []) (B:=[]) (s:=[fC F7]) (r:=r) (f:=iV) (ct:=ct) (cl:=3) g G5 (by lia) xg nbY hm (by decide)
   exact⟨_,ct,R2.zF o1,o',.inl ⟨hc,ha,e,by simp⟩⟩
  .exact⟨_,"",R2,G5.up,.inr ⟨hc,rfl⟩⟩
 obtain⟨x2,y4,F8,c6,Gf,f8,R4,o4,RW,nbk,h6⟩:=e5l (r:=r) (g0:=some (.d (fP ns))) (ro:=.int r) (a6:=b6) (g8:=some (.d (.int bg))) (g10:=some (.d (.lst (dS kl)))) (a11:=u_) (a12:=none) g l0 (by lia) Dm (by rw[aY];exact fl) (by lia) (by lia) f7 R3 (o1.mono (by lia)) (K'.mono (by lia)) rfl
 have Di:(1:Int)<(h.carts.length:Int)->iV∈y4.book.map (·.1):=λhc=>nbk (by
  rcases Bb with⟨_,_,_,q⟩|⟨q,_⟩
  .exact q
  .exact bT hc q)
 obtain⟨y5,R5,RX,Rj⟩:∃y5,Rl h lt bg.toNat x2 y5/\Ok h 117 y5/\(((1:Int)<(h.carts.length:Int))/\uT 0 [.d (.ref 8),.d (.str iV)] (H2 (aw h) r x2 y4 [fC F8])=some (.ok (rd .aF) (H2 (aw h) r x2 y5 [fC F8]))\/¬(1:Int)<(h.carts.length:Int)/\y5=y4):=by
  by_cases hc:(1:Int)<(h.carts.length:Int)
  .have D:=JL (A:=hR (aw h) r x2 0 []) (B:=[]) (s:=[fC F8]) (r:=r) (f:=iV) g RW xg;have nb:(y4.book.map (·.1)).contains iV=true:=gP.mpr (Di hc)
   unfold oM at D;rw[aN nb] at D;exact⟨_,R4.Ab o4,D.2,.inl ⟨hc,D.1⟩⟩
  .exact⟨_,R4,RW.up,.inr ⟨hc,rfl⟩⟩
 obtain⟨lg,x3,y6,R6,o6,oy6,_,k1,_,JT,JU⟩:=PX (s:=[fC F8]) (r:=r) g R5 o4 RX (by lia) (by lia)
 refine e5r (e5q (ct:=ct) e0 d eh d4 (QB (S:=⟨[fC F4],[]⟩) g) (QB (S:=⟨[fC F4],hR (aw h) r (yk 0) 0 []⟩) g) d5 (Em (by lia)) GU e2 (by rw[aY]) d7 cu ?_ h2 h3 (by rw[aY]) ?_ h6 (Jm g R5 o4 RX (by lia)) JT JU k1 (uv _ k1) (Jm g R6 o6 oy6 (by lia)))
 .rw[vb (λb=>D.str (ak.name b)) (h.af.drop bg.toNat) (by lia) λb m=>⟨rd (.str b.name),by rfl,rfl⟩,show dS ((h.af.drop bg.toNat).map ak.name)=(h.af.drop bg.toNat).map λb=>D.str (ak.name b) by rw[dS,eU];rfl]
 .rcases Bb with⟨q1,q2,q3,_⟩|⟨q1,q2⟩
  .rcases Rj with⟨_,q5⟩|⟨q5,_⟩
   .exact .inl ⟨bH q1,q2,q3,q5⟩
   .exact bT q1 q5
  .rcases Rj with⟨q5,_⟩|⟨_,q5⟩
   .exact bT q5 q1
   .exact .inr ⟨eq_false q1,q2,q5⟩
variable{w:ck}{K:PySem.W.Frag}{mg:Str->aj ai}{us:List ai}{h:bJ}{l:PySem.W.OpenLaw}
def qA(K:PySem.W.Frag):L2.Sp:=λvs H Q _=>∃(a:ag) (ns:List Int),vs=[.ref a]/\cC K H a (ns.map V.int)/\ns.length<=63/\∀H',Q (.bl true) H'
theorem e5s{P:cS}{base:bJ}{t:bf}(T:Txt K mg t):dk P w K mg base (nz P w) 7 t.sR t.sL ["_law_script"] (qA K):=by
 exact Zf (e2u T 0) e7d
theorem us_1(h:us.length=1):∃a0,us=[a0]:=by
 obtain _|⟨a0,us⟩:=us
 .cases h
 obtain _|⟨z,us⟩:=us
 .exact⟨a0,rfl⟩
 .simp at h
theorem us_2(h:us.length=2):∃a0 a1,us=[a0,a1]:=by
 obtain _|⟨a0,us⟩:=us
 .cases h
 obtain _|⟨a1,us⟩:=us
 .cases h
 obtain _|⟨z,us⟩:=us
 .exact⟨a0,a1,rfl⟩
 .simp at h
theorem us_3(h:us.length=3):∃a0 a1 a2,us=[a0,a1,a2]:=by
 obtain _|⟨a0,us⟩:=us
 .cases h
 obtain _|⟨a1,us⟩:=us
 .cases h
 obtain _|⟨a2,us⟩:=us
 .cases h
 obtain _|⟨z,us⟩:=us
 .exact⟨a0,a1,a2,rfl⟩
 .simp at h
theorem us_4(h:us.length=4):∃a0 a1 a2 a3,us=[a0,a1,a2,a3]:=by
 obtain _|⟨a0,us⟩:=us
 .cases h
 obtain _|⟨a1,us⟩:=us
 .cases h
 obtain _|⟨a2,us⟩:=us
 .cases h
 obtain _|⟨a3,us⟩:=us
 .cases h
 obtain _|⟨z,us⟩:=us
 .exact⟨a0,a1,a2,a3,rfl⟩
 .simp at h
theorem us_6(h:us.length=6):∃a0 a1 a2 a3 a4 a5,us=[a0,a1,a2,a3,a4,a5]:=by
 obtain _|⟨a0,us⟩:=us
 .cases h
 obtain _|⟨a1,us⟩:=us
 .cases h
 obtain _|⟨a2,us⟩:=us
 .cases h
 obtain _|⟨a3,us⟩:=us
 .cases h
 obtain _|⟨a4,us⟩:=us
 .cases h
 obtain _|⟨a5,us⟩:=us
 .cases h
 obtain _|⟨z,us⟩:=us
 .exact⟨a0,a1,a2,a3,a4,a5,rfl⟩
 .simp at h
abbrev gY(K:PySem.W.Frag)(n:Str)(C:ag):Prop:=PySem.W.nsIn K mainGlobals n=some (some (.ref C))/\fm K C (.ref 31::rJ) none/\PySem.W.keepIn K (.ref C)=true
theorem errs_mk(X:K.In h)(G:h.Ns mainGlobals mg)(h0:gY K "NoName" 44)(h1:gY K "NoSize" 56)(h2:gY K "NoOut" 68)(h3:gY K "NoHand" 80)(h4:gY K "NoMoment" 92)(h5:gY K "NoFlight" 104)(h6:gY K "NoBelt" 116)(h7:gY K "NoRoom" 128)(h8:gY K "NoBag" 140)(GB:fm K 31 rJ none)(hB:PySem.W.nsIn K mainGlobals "CarryError"=some (some (.ref 31))):qH K mg cN 31:=by
 refine⟨λp hp=>?_,GB,PySem.W.mg_of X G hB⟩
 simp only[cN,y07,y1p,or_false] at hp;rcases hp with rfl|rfl|rfl|rfl|rfl|rfl|rfl|rfl|rfl
 .exact⟨PySem.W.mg_of X G h0.1,h0.2⟩
 .exact⟨PySem.W.mg_of X G h1.1,h1.2⟩
 .exact⟨PySem.W.mg_of X G h2.1,h2.2⟩
 .exact⟨PySem.W.mg_of X G h3.1,h3.2⟩
 .exact⟨PySem.W.mg_of X G h4.1,h4.2⟩
 .exact⟨PySem.W.mg_of X G h5.1,h5.2⟩
 .exact⟨PySem.W.mg_of X G h6.1,h6.2⟩
 .exact⟨PySem.W.mg_of X G h7.1,h7.2⟩
 .exact⟨PySem.W.mg_of X G h8.1,h8.2⟩
theorem fin_mk{fa f0 f1 f2 f3 f4 f5 f6 f7 f8 f9 f10 f11 f12 f13 f14 f15 f16 f17 f18 f19 f20 f21 f22 f23 f24 f25 f26 f27 f28 f29 f30 f31 f32 f33 f34 f35 f36 f37 f38 f39 f40 f41 f42 f43 f44 f45 f46 f47 f48 f49 f50 f51 f52:ag}{d0 d1 d2 d3 d4 d5 d6 d7 d8 d9 W_ Xa Xb Xc Xd Xe Xf Xg Xh Xi Xj Xk Xl Xm Xn Xo Xp Xq Xr Xs Xu Xv Xw Xx Xy Xz XA XB XC XD X9 X_ Ya Yb Yc Yd Ye Yf Yg Yh YG YH YI:bR}(X:K.In h)(G:h.Ns mainGlobals mg)(hfa:mg "law"=some (.ref fa))(T:Txt K mg ⟨f0,d0,f1,d1,f2,d2,f3,d3,f4,d4,f5,d5,f6,d6,f7,d7,f8,d8,f9,d9,f10,W_,f11,Xa,f12,Xb,f13,Xc,f14,Xd,f15,Xe,f16,Xf,f17,Xg,f18,Xh,f19,Xi,f20,Xj,f21,Xk,f22,Xl,f23,Xm,f24,Xn,f25,Xo,f26,Xp,f27,Xq,f28,Xr,f29,Xs,f30,Xu,f31,Xv,f32,Xw,f33,Xx,f34,Xy,f35,Xz,f36,XA,f37,XB,f38,XC,f39,XD,f40,X9,f41,X_,f42,Ya,f43,Yb,f44,Yc,f45,Yd,f46,Ye,f47,Yf,f48,Yg,f49,Yh,f50,YG,f51,YH,f52,YI⟩)
  : ∃fd:bR,(∀(s:aq) (v:ai),BindsTo s fd ⟨[v],[]⟩ [("_law_script",v)])/\∀base:bJ,K.In base->base.Ns mainGlobals mg->dk l.prog w K mg base (nz l.prog w) 7 fa fd ["_law_script"] (qA K):=by
 have e:=hfa.symm.trans T.si.mg;cases e;obtain⟨oc,od,kV,doc,pm,an,fV,ct,uG,e,_,_⟩:=T.si.fn.ex;exact⟨_,λs v=>by rw[e];exact .of_eq rfl,λbase _ _=>e5s T⟩
theorem walk{q:cS}{loose:List Str}{XP:(Str->aj ai)->bJ->Prop}{YP:ck->bJ->Prop}{d:DefRec}{K:Params->PySem.W.Frag}(hn:l.most=some 63)(Df:d.params.defaults=[])
  (hY:∀(w:ck) (h:bJ),YP w h->(K w.params).In h)
  (F:∀(w:ck) (mg:Str->aj ai) (fa:ag) (h:bJ),(K w.params).In h->h.Ns mainGlobals mg->mg d.name=some (.ref fa)-> ∃fd:bR,(∀(s:aq) (u:ai),BindsTo s fd ⟨[u],[]⟩ [("_law_script",u)])/\∀base:bJ,(K w.params).In base->base.Ns mainGlobals mg->dk l.prog w (K w.params) mg base (nz l.prog w) 7 fa fd ["_law_script"] (qA (K w.params))) :
  PySem.W.WalkO q loose XP YP l.row.toRowW d [] (λf vs=>PySem.call f vs):=
 L2.vX (n:=63) (k:=7) (x:="_law_script") (CX:=λw=>nz l.prog w) (sp:=λw=>qA (K w.params)) hn (by decide) Df ⟨rfl,by decide,by decide⟩ hY F (λ_ _ a ns hl _ hS=>⟨a,ns,rfl,hS,hl,λ_=>rfl⟩) λ_ _ _ _ _ ⟨_,_,_,_,_,_,z⟩=>z
end Carry
end
open PySem PySem.W PyProof.Rows
set_option maxRecDepth 100000 in
set_option maxHeartbeats 0 in
theorem PySem.Challenge.cw_carry_k94_whole_elsewhere_and_later_holds : PySem.Challenge.rw_carry_k94_whole_elsewhere_and_later.Holds := by
 simp -failIfUnchanged only[Carry.Hd.hd0];w_on;o_law;(try simp only[Carry.Hd.hd]);k_head;(case hw=>w_witness2)
 k_fill
 refine Carry.walk (l:=PySem.Challenge.rw_carry_k94_whole_elsewhere_and_later) rfl rfl (λw h Y=>PySem.W.kIn_of Y) ?F
 case F=>
  intro w mg fa h KX G hmg;refine' Carry.fin_mk KX G hmg ⟨L2.dM KX G ?_ ?_ ?_,L2.dM KX G ?_ ?_ ?_,L2.dM KX G ?_ ?_ ?_,L2.dM KX G ?_ ?_ ?_,L2.dM KX G ?_ ?_ ?_,L2.dM KX G ?_ ?_ ?_,L2.dM KX G ?_ ?_ ?_,L2.dM KX G ?_ ?_ ?_,L2.dM KX G ?_ ?_ ?_,L2.dM KX G ?_ ?_ ?_,L2.dM KX G ?_ ?_ ?_,L2.dM KX G ?_ ?_ ?_,L2.dM KX G ?_ ?_ ?_,L2.dM KX G ?_ ?_ ?_,L2.dM KX G ?_ ?_ ?_,L2.dM KX G ?_ ?_ ?_,L2.dM KX G ?_ ?_ ?_,L2.dM KX G ?_ ?_ ?_,L2.dM KX G ?_ ?_ ?_,L2.dM KX G ?_ ?_ ?_,L2.dM KX G ?_ ?_ ?_,L2.dM KX G ?_ ?_ ?_,L2.dM KX G ?_ ?_ ?_,L2.dM KX G ?_ ?_ ?_,L2.dM KX G ?_ ?_ ?_,L2.dM KX G ?_ ?_ ?_,L2.dM KX G ?_ ?_ ?_,L2.dM KX G ?_ ?_ ?_,L2.dM KX G ?_ ?_ ?_,L2.dM KX G ?_ ?_ ?_,L2.dM KX G ?_ ?_ ?_,?F31,(L2.Fun.binds ?F31 ?_),L2.mM ?_ ?_ ?_ ?_,L2.mM ?_ ?_ ?_ ?_,L2.mM ?_ ?_ ?_ ?_,L2.mM ?_ ?_ ?_ ?_,L2.mM ?_ ?_ ?_ ?_,L2.mM ?_ ?_ ?_ ?_,L2.mM ?_ ?_ ?_ ?_,L2.mM ?_ ?_ ?_ ?_,L2.mM ?_ ?_ ?_ ?_,L2.mM ?_ ?_ ?_ ?_,L2.mM ?_ ?_ ?_ ?_,L2.mM ?_ ?_ ?_ ?_,L2.mM ?_ ?_ ?_ ?_,L2.mM ?_ ?_ ?_ ?_,L2.mM ?_ ?_ ?_ ?_,L2.mM ?_ ?_ ?_ ?_,L2.mM ?_ ?_ ?_ ?_,L2.mM ?_ ?_ ?_ ?_,L2.mM ?_ ?_ ?_ ?_,L2.mM ?_ ?_ ?_ ?_,L2.mM ?_ ?_ ?_ ?_,⟨?_,?_,?_,?_⟩,⟨?_,?_,?_,?_⟩,PySem.W.mg_of KX G ?_,?atr,?er,PySem.W.mg_none_of KX G ?_,PySem.W.mg_none_of KX G ?_,PySem.W.mg_none_of KX G ?_,PySem.W.mg_none_of KX G ?_,PySem.W.mg_none_of KX G ?_,PySem.W.mg_none_of KX G ?_,PySem.W.mg_none_of KX G ?_,PySem.W.mg_none_of KX G ?_,PySem.W.mg_none_of KX G ?_,PySem.W.mg_none_of KX G ?_,PySem.W.mg_none_of KX G ?_,PySem.W.mg_none_of KX G ?_,PySem.W.mg_none_of KX G ?_,PySem.W.mg_none_of KX G ?_,L2.kM KX G ?_,L2.kM KX G ?_⟩
  case atr=>
   intro p hp;simp only[Carry.atrs,y07,y1p,or_false] at hp;rcases hp with rfl|rfl|rfl|rfl|rfl|rfl|rfl|rfl|rfl|rfl <;> (dsimp only[Carry.cHall];exact⟨⟨by k_is,by k_is,by k_is,by k_is⟩,by show _=_;k_is⟩)
  case er=>
   refine' Carry.errs_mk KX G ?h0 ?h1 ?h2 ?h3 ?h4 ?h5 ?h6 ?h7 ?h8 ?GB ?hB
   all_goals first|(refine' ⟨?za,?zb,?zd⟩;(case zb=>refine' L2.errC_mk ?zl ?zm ?zs ?zi;(case zl=>k_is);(case zm=>k_is);(case zs=>kernel_rfl);(case zi=>kernel_rfl));(case za=>k_is);(case zd=>k_is))|(refine' L2.errC_mk ?zl ?zm ?zs ?zi;(case zl=>k_is);(case zm=>k_is);(case zs=>kernel_rfl);(case zi=>kernel_rfl))|k_is|(show _=_;k_is)
  all_goals (try dsimp only[Carry.cHall])
  all_goals first|(refine' L2.fun_mk ?zl ?zc ?zk;(case zl=>k_is);(case zc=>k_is);(case zk=>k_is))|(intro _ _ _ _ _ _ us hl;obtain⟨_,rfl⟩:=Carry.us_1 hl;rfl)|(intro _ _ _ _ _ _ us hl;obtain⟨_,_,rfl⟩:=Carry.us_2 hl;rfl)|(intro _ _ _ _ _ _ us hl;obtain⟨_,_,_,rfl⟩:=Carry.us_3 hl;rfl)|(intro _ _ _ _ _ _ us hl;obtain⟨_,_,_,_,rfl⟩:=Carry.us_4 hl;rfl)|(intro _ _ _ _ _ _ us hl;obtain⟨_,_,_,_,_,_,rfl⟩:=Carry.us_6 hl;rfl)|k_is|(show _=_;k_is)|skip
  all_goals (try (refine' L2.fun_mk ?zl ?zc ?zk;(case zl=>k_is);(case zc=>k_is);(case zk=>k_is)))