import PyProof.Rows.All
import Wide.All
import OpenK.AllK
import Wide.FinOn
import Lean
import PyProof.EqAt
import PyProof.EqKinds
import PyProof.TupleCall
import PyProof.StationsW
import PyProof.ExcClass3
import PyProof.ExcInit
import PyProof.ExcBaseAll.ValueError
import PyProof.ExcArgsOwn
import KE.KIsAll
import PyProof.ExcAttrAll.ValueError
import PyProof.InstStoreFacts
import KE.KTryMore
import PyProof.RulesAs
import PyProof.NsDelKeeps
import KE.KRevIter
import PyProof.SeqI3
import PyProof.DictWalks
import PyProof.EnumIter
import PyProof.EnumStmt
import PyProof.EnumMake
import PyProof.WalksEnum
import PyProof.FactsAll.NoneType_1
import PyProof.NeKinds
import KE.KDictList
import KE.KItemsList
import PyProof.Rows.SortShell
import PyProof.WalkInts
import PyProof.MeetsSeq
import PyProof.SeqRoads2
import KE.KDictOf
import PyProof.AttrMissHeap
import KE.KSortTup
import PyProof.Rows.SortWalk
import PyProof.Rows.SumAny
import PyProof.Rows.SortStr
import PySem.Challenge.RW_carry_k93_whole_all_come_out
set_option linter.all false
set_option bootstrap.genMatcherCode false
set_option compiler.extract_closed false
set_option compiler.reuse false
set_option genSizeOf false
set_option genSizeOfSpec false
def bc:=@List.length_map.{0,0}
def bF:=@Nat.le_refl
def bL:=@List.map_cons.{0,0}
def cf:=@Option.bind_eq_some_iff.{0,0}
def y04:=@List.mem_cons.{0}
def cC:=@PySem.Heap.lt_size
def cG:=@List.mem_append.{0}
def cO:=@PySem.Heap.get?_push_of_some
def cP:=@List.length_append.{0}
def cV:=@Option.map_eq_some_iff.{0,0}
def cZ:=@List.size_toArray.{0}
def c_:=@List.map_append.{0,0}
def eR:=@List.getElem?_eq_some_iff.{0}
def fI:=@Nat.lt_of_lt_of_le
theorem fJ:type_of% @Option.any_some.{0}:=rfl
def fW:=@List.getElem?_map.{0,0}
def gm:=@Nat.ne_of_lt
def gp:=@List.mem_map.{0,0}
def iF:=@List.nodup_append.{0}
def iG:=@List.contains_iff_mem.{0}
def iI:=@Nat.max_self
def i4:=@Nat.le_trans
def i5:=@List.getElem?_eq_getElem.{0}
def jq:=@Bool.and_eq_true
def jr:=@PySem.Heap.get?_push_size
theorem jt:type_of% @List.length_cons.{0}:=rfl
def jE:=@Nat.lt_irrefl
def jR:=@Bool.not_true
def jS:=@List.map_map.{0,0,0}
def jT:=@List.mem_map_of_mem.{0,0}
def kJ:=@List.mem_singleton.{0}
def lq:=@List.append_nil.{0}
def lr:=@List.prefix_refl.{0}
def lZ:=@Nat.zero_le
def mW:=@List.mem_filterMap.{0,0}
def mY:=@List.append_assoc.{0}
def m9:=@List.length_set.{0}
def oz:=@Bool.false_ne_true
def oA:=@Bool.not_false
def oR:=@List.mem_append_right.{0}
def pG:=@List.filterMap_cons.{0,0}
def pH:=@List.mem_cons_of_mem.{0}
def pI:=@PySem.Heap.get?_update_other
def pJ:=@List.length_singleton.{0}
def pK:=@List.all_eq_true.{0}
def qr:=@List.nodup_cons.{0}
def qW:=@List.mem_cons_self.{0}
theorem qX:type_of% @List.lookup_cons.{0,0}:=rfl
def rB:=@List.mem_filter.{0}
def rC:=@PySem.Heap.get?_update_self
def rD:=@Bool.false_eq_true
def rE:=@Int.le_refl
def rF:=@List.sum_cons.{0}
def tW:=@Nat.le_succ
def tY:=@List.mem_of_getElem?.{0}
def tZ:=@List.filter_cons.{0}
def t4:=@List.length_range
def t5:=@List.all_cons.{0}
def t6:=@List.find?_cons.{0}
def t7:=@Bool.eq_false_iff
def uA:=@List.mem_range
def uB:=@Array.getElem?_eq_getElem.{0}
def uC:=@Int.mul_nonneg
def vY:=@List.getElem?_set_self.{0}
def vZ:=@Nat.lt_succ_self
def v3:=@List.getElem?_append_right.{0}
def v5:=@List.take_of_length_le.{0}
def v7:=@Option.bind_some.{0,0}
theorem v8:type_of% @Option.isSome_some.{0}:=rfl
def xR:=@Nat.ne_of_gt
def xS:=@List.getElem?_append_left.{0}
def xV:=@Array.getElem?_toList.{0}
def xW:=@List.nil_append.{0}
theorem xX:type_of% @Option.getD_some.{0}:=rfl
def z6:=@List.length_take.{0}
def z7:=@List.map_nil.{0,0}
def z8:=@Nat.lt_succ_of_lt
def z9:=@Bool.eq_iff_iff
def z_:=@List.getElem?_range
def Aa:=@Nat.le_of_ble_eq_true
theorem Ab:type_of% @Option.isSome_none.{0}:=rfl
def Ac:=@List.getElem?_eq_none.{0}
def Ad:=@List.length_filter_le.{0}
def Bm:=@List.getElem?_set_ne.{0}
def Bo:=@List.length_replicate.{0}
theorem Bp:type_of% @List.length_nil.{0}:=rfl
def Bq:=@Array.getElem?_eq_some_iff.{0}
def y1p:=@List.not_mem_nil.{0}
def Br:=@Bool.and_eq_true_iff
def Bs:=@List.filterMap_nil.{0,0}
def Bt:=@Nat.ble_eq_true_of_le
def Bu:=@List.map_congr_left.{0,0}
def Ek:=@List.mem_append_left.{0}
def El:=@List.getElem_mem.{0}
def Em:=@List.mem_iff_getElem?.{0}
def En:=@Option.map_some.{0,0}
def Eo:=@List.find?_eq_none.{0}
def Ep:=@PySem.Heap.get?_push_ne
def Hb:=@Nat.le_of_lt
def Hc:=@List.getElem_inj.{0}
theorem He:type_of% @Array.length_toList.{0}:=rfl
def Hf:=@Nat.le_of_eq
def Hg:=@List.length_drop.{0}
def Hh:=@List.drop_of_length_le.{0}
def Hi:=@Nat.le_add_right
def Hj:=@List.all_map.{0,0}
def Hk:=@Bool.or_false
def Hm:=@List.nodup_nil.{0}
def Ho:=@PySem.Heap.get?_update_ne
def Hq:=@List.getD_eq_getElem?_getD.{0}
theorem Hr:type_of% @List.foldl_cons.{0,0}:=rfl
def Hs:=@List.set_set.{0}
def Ht:=@Bool.or_true
def Hu:=@List.mem_of_find?_eq_some.{0}
def Hv:=@List.length_filterMap_le.{0,0}
def Hw:=@Int.mul_le_mul_of_nonneg_left
def L7:=@Array.mem_toList_iff.{0}
def L8:=@List.getElem?_replicate.{0}
def L9:=@Nat.sub_self
def L_:=@Nat.lt_of_le_of_lt
def Ma:=@List.filter_sublist.{0}
def Mb:=@List.any_eq_true.{0}
def Mc:=@List.ext_getElem?.{0}
def Md:=@List.take_length.{0}
def Me:=@List.foldl_append.{0,0}
def Mf:=@PySem.Heap.size_update
def Mg:=@Bool.not_eq_true'
def Mh:=@List.filterMap_cons_none.{0,0}
def Mi:=@List.filterMap_cons_some.{0,0}
def Mj:=@List.map_drop.{0,0}
def Ml:=@Bool.true_or
def Mm:=@List.pairwise_map.{0,0}
def Mn:=@List.find?_some.{0}
def Mo:=@List.filterMap_append.{0,0}
def Mp:=@List.set_getElem_self.{0}
def ax:=@PySem.wpAny_bind
def aQ:=@PySem.wpAny_pure
def uD:=@if_true.{1}
def aP:=@if_pos.{1}
def aK:=@if_neg.{1}
def m_:=@if_false.{1}
def rG:=@decide_eq_true
def rH:=@decide_eq_false
def ju:=@beq_self_eq_true.{0}
def kP:=@PySem.wpAny_holding
def y9a:=@decide_eq_true_iff
def xY:=@of_decide_eq_true
def oB:=@beq_eq_false_iff_ne.{0}
def R0:=@Classical.byContradiction
def bW:=@absurd.{0}
def t8:=@True.intro
def bN:=@eq_true
namespace Carry.Hd
open Lean Meta PySem PySem.W
abbrev kC:=@mkConst
abbrev aM:=@mkAppM
abbrev nL:=mkRawNatLit
abbrev Ex:=Lean.Expr
def fit(ds:Array (Ex×Ex×Ex)):MetaM (Array (Ex×Ex×Ex)):=do
 let cs:Std.HashSet Ex:=ds.foldl (λz d=>if d.1.isConst then z.insert d.1 else z) {}
 ds.filterM λd=>do
  let ty:=Fast.bareType (<-inferType d.1)
  return (ty.find? λy=>cs.contains y || y.isConstOf ``PySem.W.Frag).isNone
def spots(ds:Array (Ex×Ex×Ex)):Std.HashMap Ex Nat:=ds.zipIdx.foldl (λz d=>z.insert d.1.1 d.2) {}
def parts(tw:Name->MetaM Unit)(v:Ex):MetaM (Array (Ex×Ex×Ex)):=do
 for x in Fast.constsOf v do
  if let .const c _:=x then
   if((<-getEnv).getModuleIdxFor? c).isNone || (`PySem.Challenge).isPrefixOf c then tw c
 fit (<-Fast.twinsIn v)
def twin:Nat->Name->MetaM Unit
 |0,_=>return
 |k+1,c=>do
  let (n,e) <-Fast.stemIn c true
  if(<-getEnv).contains e then return
  if let some none:=(<-Fast.primed.get).get? c then return
  let some (.defnInfo d):=(<-getEnv).find? c|return
  let ds <-parts (twin k) d.value
  if ds.isEmpty then
   Fast.primed.modify λz=>z.insert c none
   return
  let ix:=spots ds
  withOptions (Elab.async.set · false) do
   addDecl (.defnDecl { name:=n,levelParams:=[],type:=d.type,value:=Fast.putIn ix (λi=>ds[i]!.2.1) d.value,hints:=d.hints,safety:=.safe})
   addDecl (.thmDecl { name:=e,levelParams:=[],type:=<-mkEq (kC c) (kC n),value:=<-mkEqRefl (kC c)})
  Fast.primed.modify λz=>z.insert c (some (n,e))
def prep(v:Ex):MetaM (Array (Ex×Ex×Ex)):=parts (twin 9) v
def put(stem:Name)(ty v:Ex):MetaM Ex:=do
 let ds <-prep v
 let c <-defAt stem ty (Fast.putIn (spots ds) (λi=>ds[i]!.2.1) v)
 Fast.primed.modify λz=>z.insert c.constName! none
 return c
abbrev Objs:=Array (Obj×Obj×Ex)
def lay(old:Objs)(s t:Shared):MetaM Objs:=do
 let P:=kC ``Params
 unless s.heap.objs.size == t.heap.objs.size && s.toks == t.toks && toExpr s.drawn == toExpr t.drawn && toExpr s.heap.life == toExpr t.heap.life do throwError "the worlds part"
 let mut out:=#[]
 for i in [0:s.heap.objs.size] do
  let (a,b):=(s.heap.objs[i]!,t.heap.objs[i]!)
  if let some (a',b',e):=old[i]? then
   if sameObjNow a' a && sameObjNow b' b then
    out:=out.push (a',b',e)
    continue
  let v <-withLocalDeclD `P P λp=>do
   let e:=objE p a
   unless e == objE p b do throwError "an object is the world's"
   mkLambdaFVars #[p] e
  out:=out.push (a,b,<-put `o (<-mkArrow P (kC ``Obj)) v)
 return out
def state(l:Bool)(old:Objs)(s t:Shared):MetaM (Objs×W.State):=do
 let P:=kC ``Params
 let os <-lay old s t
 let life:=toExpr s.heap.life
 let S:W.State:={ heap:=default,gens:=<-gensE s t,drawn:=toExpr s.drawn,toks:=nL s.toks}
 if l then
  let v <-withLocalDeclD `P P λp=>mkLambdaFVars #[p] (mkApp2 (kC ``Heap.mk) (mkApp2 (kC ``Array.mk [0]) (kC ``Obj) (listE (kC ``Obj) (os.toList.map λx=>mkApp x.2.2 p))) life)
  return (os,{ S with heap:=<-put `h (<-mkArrow P (kC ``Heap)) v})
 let v <-withLocalDeclD `P P λp=>mkLambdaFVars #[p] (treeE p (os.map (·.2.2)) 1 0)
 return (os,{ S with tree:=some (<-put `t (<-mkArrow P (kC ``BT)) v,nL s.heap.objs.size,life)})
def aux(ty pf:Ex):MetaM Ex:=do return kC (<-withOptions (Elab.async.set · false) (mkAuxLemma [] ty pf (cache:=false)))
def look:Nat->Ex->Ex->MetaM Ex
 |k,l,r=>do
  let W:=kC ``World
  let O:=kC ``OsState
  let q <-withLocalDeclD `w W λw=>withLocalDeclD `os O λos=>do
   let un (e:Ex):MetaM Ex:=do
    let e:=(mkApp2 e w os).headBeta
    if e.isAppOf ``openSeen || e.isAppOf ``openGood then return (<-unfoldDefinition? e).getD e
    return e
   let (a,b):=(<-un l,<-un r)
   unless a.isAppOfArity ``Prod.mk 4 && b.isAppOfArity ``Prod.mk 4 do return none
   let sh (e:Ex) (i:Nat):MetaM Ex:=mkLambdaFVars #[w,os] (e.getArg! i)
   return some (<-sh a 2,<-sh b 2,<-sh a 3,<-sh b 3)
  match k,q with
  |n+1,some (a1,b1,a2,b2)=>
   let (x,y):=(<-look n a1 b1,<-look n a2 b2)
   let (ty,pf) <-withLocalDeclD `w W λw=>withLocalDeclD `os O λos=>do
    return (<-mkForallFVars #[w,os] (<-mkEq (mkApp2 l w os).headBeta (mkApp2 r w os).headBeta),<-mkLambdaFVars #[w,os] (<-aM ``looks_pair #[mkApp2 x w os,mkApp2 y w os]))
   aux ty pf
  |_,_=>
   let P <-withLocalDeclD `w W λw=>do mkLambdaFVars #[w] (<-mkEq (mkApp l w).headBeta (mkApp r w).headBeta)
   discard <| prep P
   let e <-byKernelQuick P []
   withLocalDeclD `w W λw=>withLocalDeclD `os O λos=>do mkLambdaFVars #[w,os] (<-aM ``congrFun #[mkApp e w,os])
def most:Nat:=3000
def left(g:MVarId)(pE:Ex)(p:Program)(_:List String):MetaM Unit:=g.withContext do
 let a:=(<-instantiateMVars (<-g.getType)).consumeMData.getAppArgs
 let some N <-(Meta.evalNat a[7]!).run|throwError "no number"
 let (.ok t,.ok t'):=(<-traceTop p N 1,<-traceTop p N 2)|throwError "no trace"
 let tb:=kC ``treeTable
 let (W,O):=(kC ``World,kC ``OsState)
 let m0:=nL t.s0.heap.objs.size
 let ann:=toExpr t.ann
 let main <-aM ``Program.main #[pE]
 let op <-aM ``opening #[pE]
 let e1 <-aux (<-mkEq op (mkApp (kC ``plainProg) (<-aM ``Scope.names #[<-aM ``Module.scope #[main]]))) (<-mkEqRefl op)
 let e2 <-withLocalDeclD `s (kC ``Shared) λs=>do
  let r <-aM ``some #[s]
  aux (<-mkForallFVars #[s] (<-mkEq (mkApp2 (kC ``fenceModules?) pE s) r)) (<-mkLambdaFVars #[s] (<-mkEqRefl r))
 let e3 <-mkDecideProof (<-mkEq (mkApp2 (kC ``Nat.ble) (nL 600) a[7]!) (kC ``Bool.true))
 let boot:=mkAppN (kC ``boot_open) #[pE,a[7]!,e1,e3,e2]
 let bE <-aM ``behindTheImports #[pE]
 let some cells <-cellsD? bE|throwError "no body"
 let env0 <-Elab.Term.TermElabM.run' do
  let s1 <-Elab.Term.exprToSyntax (<-aM ``Module.scope #[main])
  let s2 <-Elab.Term.exprToSyntax (toExpr t.code)
  let e <-Elab.Term.withSynthesize (Elab.Term.elabTermEnsuringType (<-`(({ scope:=$s1,locals:=mainNs,globals:=mainNs,cells:=[],code:=$s2,frame:=some $(quote t.frame)}:Env))) (kC ``Env))
  instantiateMVars e
 let env <-defAt `env (kC ``Env) env0
 let fp:=toExpr t.framePos
 let cE:=mkApp2 (kC ``Code.body) bE env
 let B:=listE (kC ``Frame) [mkApp (kC ``topFrame) fp]
 let go (f:Name) (more:Array Ex) (n:Nat) (w s th:Ex):Ex:=mkAppN (kC f) (#[tb,pE,w,m0,ann]++more++#[nL n,s,th])
 let one:=#[nL 1]
 let piece (rows:List String) (l r:Ex->Ex->MetaM Ex):MetaM Ex:=do
  for x in [pE,env] do discard <| prep x
  byPiece rows l r
 let ends (S:Ex) (pos:Pos):MetaM Ex:=do aM ``some #[<-aM ``Prod.mk #[kC ``Flow.next,<-aM ``Prod.mk #[S,<-aM ``Prod.mk #[cE,toExpr pos]]]]
 let rowsOf (x y:Snap):=(x.rows++y.rows).eraseDups
 let mut o:Objs:=#[]
 for i in [0:t.s0.heap.objs.size] do o:=o.push (t.s0.heap.objs[i]!,t'.s0.heap.objs[i]!,kC ((`PySem.W).str s!"boot_o_{i}"))
 let S0:PySem.W.State:={ heap:=kC ``boot_heap,gens:=mkApp2 (kC ``Array.mk [0]) (kC ``GenState) (mkApp (kC ``List.nil [0]) (kC ``GenState)),drawn:=kC ``boot_drawn,toks:=kC ``boot_toks}
 let (o1,Sa) <-state true o t.pre.s t'.pre.s
 let thA:=mkApp4 (kC ``Thread.mk) (mkApp2 (kC ``denote) tb cE) cE (toExpr t.pre.pos) B
 let stub:=mkApp (kC ``topStub) pE
 let pre <-piece (rowsOf t.pre t'.pre) (λw os=>pure (go ``topGo #[] t.pre.steps w (S0.at w os) stub)) λw os=>do aM ``some #[<-aM ``Prod.mk #[Sa.at w os,thA]]
 let (o2,Sb) <-state false o1 t.block.s t'.block.s
 let block <-piece (rowsOf t.block t'.block) (λw os=>pure (go ``segRun one t.block.steps.succ w (Sa.at w os) (mkAppN (kC ``blockOf) #[bE,env,cE,toExpr t.pre.pos,B]))) λw os=>ends (Sb.at w os) t.block.pos
 let mut gs:Array (List Ex×Nat×Snap×Snap×List String):=#[]
 for (st,x,x') in cells.zip (t.pieces.zip t'.pieces) do
  let k:=max x.steps x'.steps
  let rs:=rowsOf x x'
  match gs.back? with
  |some (l,n,_,_,r)=>
   if n+k<=most && (r++rs).eraseDups.length<=3 then gs:=gs.pop.push (l++[st],n+k,x,x',(r++rs).eraseDups) else gs:=gs.push ([st],k,x,x',rs)
  |none=>gs:=gs.push ([st],k,x,x',rs)
 let mut cur:=(o2,Sb,t.block.pos)
 let mut lems:=#[]
 for (sts,n,x,x',rs) in gs do
  let stE <-defAt `st (mkApp (kC ``List [0]) (kC ``Stmt)) (listE (kC ``Stmt) sts)
  discard <| prep stE
  let (o0,S1,p1):=cur
  let (o',S') <-state false o0 x.s x'.s
  let th:=mkAppN (kC ``piecesOf) #[stE,env,cE,toExpr p1,B]
  let h <-piece rs (λw os=>pure (go ``segRunT one n.succ w (S1.atT w os) th)) λw os=>ends (S'.atT w os) x.pos
  lems:=lems.push (stE,n.succ,S1,p1,S',x.pos,<-liftT h ``segRun_of)
  cur:=(o',S',x.pos)
  logInfo m!"PIECE {sts.length} {n} {x.s.heap.objs.size}"
 let (oN,SN,pN):=cur
 let (_,Sf) <-state true oN t.fin.s t'.fin.s
 let fin <-piece (rowsOf t.fin t'.fin) (λw os=>pure (go ``topRun #[] t.fin.steps.succ w (SN.at w os) (mkApp4 (kC ``Thread.mk) (mkApp (kC ``doneF) (kC ``Flow.next)) cE (toExpr pN) B))) λw os=>aM ``some #[Sf.at w os]
 let run <-withLocalDeclD `w W λw=>withLocalDeclD `os O λos=>do
  let w1 (l:Ex):MetaM Ex:=do aM ``congrFun #[mkApp l w,os]
  let r:=Sf.at w os
  let com:=#[tb,pE,w,m0,ann,env,fp]
  let mut k <-w1 fin
  let mut M:=nL t.fin.steps.succ
  let mut rest:=listE (kC ``Stmt) []
  for (stE,n,S1,p1,S',p2,h) in lems.toList.reverse do
   k:=mkAppN (kC ``piece_app) (com++#[nL n,M,S1.at w os,S'.at w os,r,stE,rest,cE,toExpr p1,toExpr p2,<-w1 h,k])
   M:=mkApp2 (kC ``Nat.add) (nL n) M
   rest <-aM ``HAppend.hAppend #[stE,rest]
  k:=mkAppN (kC ``piece_block) (com++#[nL t.block.steps.succ,M,Sa.at w os,Sb.at w os,r,bE,cE,toExpr t.pre.pos,toExpr t.block.pos,<-w1 block,k])
  M:=mkApp2 (kC ``Nat.add) (nL t.block.steps.succ) M
  k:=mkAppN (kC ``go_top) #[tb,pE,w,m0,ann,nL t.pre.steps,M,S0.at w os,Sa.at w os,r,stub,thA,<-w1 pre,k]
  M:=mkApp2 (kC ``Nat.add) (nL t.pre.steps) M
  let ty <-mkEq (mkAppN (kC ``topRun) #[tb,pE,w,m0,ann,M,S0.at w os,stub]) (<-aM ``some #[r])
  return (M,<-aux (<-mkForallFVars #[w,os] ty) (<-mkLambdaFVars #[w,os] k))
 let lem:=kC ``LeftO.of_pieces
 let (ms,_,_) <-forallMetaTelescope (<-inferType lem)
 let vs:=#[pE,a[1]!,a[2]!,a[3]!,a[4]!,a[5]!,a[6]!,a[7]!,a[8]!,S0.heap,Sf.heap,S0.gens,Sf.gens,S0.drawn,Sf.drawn,S0.toks,Sf.toks,m0,ann,run.1]
 for (m,v) in ms.zip vs do m.mvarId!.assign v
 let want (i:Nat):MetaM Ex:=do instantiateMVars (<-inferType ms[i]!)
 let .forallE n1 d1 b1 i1 <-want 21|throwError "size"
 let size <-byKernelQuick (.lam n1 d1 b1 i1) []
 let .forallE _ _ bl _ <-want 24|throwError "looks"
 let (l,r) <-withLocalDeclD `w W λw=>do
  let some (_,l,r):=(bl.instantiate1 w).eq?|throwError "looks"
  return (<-mkLambdaFVars #[w] l,<-mkLambdaFVars #[w] r)
 let h <-look 12 l r
 let looks <-withLocalDeclD `w W λw=>do
  let f <-withLocalDeclD `os O λos=>mkLambdaFVars #[os] (mkApp2 h w os)
  mkLambdaFVars #[w] (<-aM ``funext #[f])
 g.assign (mkAppN lem (vs++#[boot,size,run.2,<-mkDecideProof (<-want 23),looks]))
simproc_decl hd0 (PySem.W.OpenLaw.Holds _):=λe=>do
 if let .const (.str p s) _:=e.appArg! then twin 9 (p.str ("p"++(s.drop 1).toString))
 return .continue
simproc_decl hd (PySem.W.OpenRow.Holds _):=λ_=>do
 PySem.W.leftPieces.set (some left)
 return .continue
end Carry.Hd
noncomputable section
set_option Elab.async false
set_option maxRecDepth 100000
abbrev aj:=@PySem.Value
abbrev aq:=@PySem.Shared
abbrev ah:=@PySem.Addr
abbrev ak:=@Option.{0}
abbrev bV:=@PySem.FuncData
abbrev cD:=@PySem.Around
abbrev cS:=@PySem.Program
abbrev pL:=@PySem.NameKind
abbrev bM:=@PySem.Heap
abbrev cg:=@PySem.World
namespace L2
open PySem PySem.Spec PyProof.Rows
abbrev Key:=Sum Int Str
noncomputable def xm:Key->aj->Bool
 |.inl k,v=>Value.isInt k v
 |.inr x,v=>Value.isStrOf x v
noncomputable def KR(w:cg):Key->Int
 |.inl k=>hashInt k
 |.inr x=>hashStr w x
theorem yk:∀{k:Key} {v:aj},xm k v=true->(∃i t,k=Sum.inl i/\v=Value.int i t)\/(∃x t,k=Sum.inr x/\v=Value.str x t)
 |.inl i,v,h=>by
  obtain⟨t,e⟩:=Value.isInt_shape (k:=i) (v:=v) h;exact .inl ⟨i,t,rfl,e⟩
 |.inr x,v,h=>by
  obtain⟨t,e⟩:=Value.isStrOf_shape (x:=x) (v:=v) h;exact .inr ⟨x,t,rfl,e⟩
def ζ(a b:Int):decide ((Sum.inl a:Key)=Sum.inl b)=(a == b):=by
 by_cases e:a=b
 .subst e;simp
 .have h:¬(Sum.inl a:Key)=Sum.inl b:=λq=>e (Sum.inl.inj q)
  rw[rH h];exact(oB.mpr e).symm
def η(a b:Str):decide ((Sum.inr a:Key)=Sum.inr b)=decide (a=b):=by
 by_cases e:a=b
 .subst e;simp
 .have h:¬(Sum.inr a:Key)=Sum.inr b:=λq=>e (Sum.inr.inj q)
  rw[rH h,rH e]
def θ(a:Int)(b:Str):decide ((Sum.inl a:Key)=Sum.inr b)=false:=rH (λq=>nomatch q)
def ι(a:Str)(b:Int):decide ((Sum.inr a:Key)=Sum.inl b)=false:=rH (λq=>nomatch q)
def IW(prog:cS)(w:cg):PySem.KeyKind prog w Key where
 is:=xm
 hash:=KR w
 inj:=λv a b ha hb=>by
  grind [yk]
 byValue:=λk v h=>by
  rcases yk h with⟨i,t,rfl,rfl⟩|⟨x,t,rfl,rfl⟩ <;> rfl
 pyHash:=λhv h=>by
  rcases yk hv with⟨i,t,rfl,rfl⟩|⟨x,t,rfl,rfl⟩
  .exact wpAny_pyHash_int h
  .exact wpAny_pyHash_str h
 eqBool:=λhu hv h=>by
  rcases yk hu with⟨i,t,rfl,rfl⟩|⟨x,t,rfl,rfl⟩
  .rcases yk hv with⟨j,u,rfl,rfl⟩|⟨y,u,rfl,rfl⟩
   .rw[ζ] at h;exact wpAny_eqBool_int h
   .rw[θ] at h;exact SeqAt.EqAt.int_str i t y u _ _ _ _ h
  .rcases yk hv with⟨j,u,rfl,rfl⟩|⟨y,u,rfl,rfl⟩
   .rw[ι] at h;exact SeqAt.EqAt.str_int x t j u _ _ _ _ h
   .rw[η] at h;exact wpAny_eqBool_str h
 «strs»:=λk x t v h=>by
  rcases yk h with⟨i,u,rfl,e⟩|⟨y,u,rfl,e⟩
  .exact nomatch e
  .injection e with e1 _;subst e1;cases v <;> rfl
inductive V where
 |aG|bl (b:Bool)|int (i:Int)|str (x:Str)|wx (b:Array UInt8)|wN (b:UInt64)|ref (a:ah)|ty (n:String)
 deriving DecidableEq
def RelV:V->aj->Prop
 |.aG,u=>u=Value.none
 |.bl b,u=>u=Value.bool b
 |.int i,u=>∃t,u=Value.int i t
 |.str x,u=>∃t,u=Value.str x t
 |.wx b,u=>∃t,u=Value.bytes b t
 |.wN b,u=>∃t,u=Value.float b t
 |.ref a,u=>u=Value.ref a
 |.ty n,u=>u=Value.type n
abbrev Vals:List V->List aj->Prop:=Paired RelV
theorem Vals.length{xs:List V}{us:List aj}(r:Vals xs us):xs.length=us.length:=Paired.length r
theorem Vals.get:∀{xs:List V} {us:List aj} {i:Nat} {x:V},Vals xs us->xs[i]?=some x->∃u,us[i]?=some u/\RelV x u
 |_,_,_,_,.nil,e=>by simp at e
 |_,_,0,_,.cons r _,e=>by simp at e;subst e;exact⟨_,rfl,r⟩
 |_,_,i+1,x,.cons _ t,e=>by
  obtain⟨u,h1,h2⟩:=Vals.get (i:=i) (x:=x) t (by simpa using e)
  exact⟨u,by simpa using h1,h2⟩
theorem Vals.set{x:V}{u:aj}(r:RelV x u):∀{xs:List V} {us:List aj} (i:Nat),Vals xs us->Vals (xs.set i x) (us.set i u)
 |_,_,_,.nil=>.nil
 |_,_,0,.cons _ t=>.cons r t
 |_,_,i+1,.cons q t=>.cons q (Vals.set r i t)
def Vals.append{xs ys:List V}{us ws:List aj}(h:Vals xs us)(s:Vals ys ws):Vals (xs++ys) (us++ws):=by
 induction h with
 |nil=>exact s
 |cons r t ih=>exact .cons r ih
theorem Vals.take:∀{xs:List V} {us:List aj} (n:Nat),Vals xs us->Vals (xs.take n) (us.take n)
 |_,_,0,_=>.nil
 |_,_,_+1,.nil=>.nil
 |_,_,n+1,.cons r t=>.cons r (Vals.take n t)
theorem Vals.drop:∀{xs:List V} {us:List aj} (n:Nat),Vals xs us->Vals (xs.drop n) (us.drop n)
 |_,_,0,r=>r
 |_,_,_+1,.nil=>.nil
 |_,_,n+1,.cons _ t=>Vals.drop n t
def g8:ak V->ak aj->Prop
 |some v,some u=>RelV v u
 |none,none=>True
 |_,_=>False
def KV{κ:Type}:List (κ×V)->List (κ×aj)->Prop:=Paired λ(p:κ×V) (q:κ×aj)=>p.1=q.1/\RelV p.2 q.2
def kV:Key->V
 |.inl i=>.int i
 |.inr x=>.str x
inductive TK where
 |inl (i:Int)|inr (x:Str)|tp (l:List TK)|aG
mutual
def TK.beq:TK->TK->Bool
 |.inl a,.inl b=>decide (a=b)
 |.inr a,.inr b=>decide (a=b)
 |.tp l,.tp m=>TK.o9 l m
 |.aG,.aG=>true
 |_,_=>false
def TK.o9:List TK->List TK->Bool
 |[],[]=>true
 |a::l,b::m=>TK.beq a b&&TK.o9 l m
 |_,_=>false
end
mutual
theorem TK.beq_iff:∀a b:TK,TK.beq a b=true↔a=b
 |.inl a,.inl b=>by unfold TK.beq;rw[decide_eq_true_eq];exact⟨λe=>by rw[e],λe=>by cases e;rfl⟩
 |.inr a,.inr b=>by unfold TK.beq;rw[decide_eq_true_eq];exact⟨λe=>by rw[e],λe=>by cases e;rfl⟩
 |.tp l,.tp m=>by unfold TK.beq;rw[TK.nF l m];exact⟨λe=>by rw[e],λe=>by cases e;rfl⟩
 |.inl _,.inr _=>by unfold TK.beq;exact⟨λe=>(nomatch e),λe=>(nomatch e)⟩
 |.inl _,.tp _=>by unfold TK.beq;exact⟨λe=>(nomatch e),λe=>(nomatch e)⟩
 |.inr _,.inl _=>by unfold TK.beq;exact⟨λe=>(nomatch e),λe=>(nomatch e)⟩
 |.inr _,.tp _=>by unfold TK.beq;exact⟨λe=>(nomatch e),λe=>(nomatch e)⟩
 |.tp _,.inl _=>by unfold TK.beq;exact⟨λe=>(nomatch e),λe=>(nomatch e)⟩
 |.tp _,.inr _=>by unfold TK.beq;exact⟨λe=>(nomatch e),λe=>(nomatch e)⟩
 |.aG,.aG=>by unfold TK.beq;exact⟨λ_=>rfl,λ_=>rfl⟩
 |.aG,.inl _=>by unfold TK.beq;exact⟨λe=>(nomatch e),λe=>(nomatch e)⟩
 |.aG,.inr _=>by unfold TK.beq;exact⟨λe=>(nomatch e),λe=>(nomatch e)⟩
 |.aG,.tp _=>by unfold TK.beq;exact⟨λe=>(nomatch e),λe=>(nomatch e)⟩
 |.inl _,.aG=>by unfold TK.beq;exact⟨λe=>(nomatch e),λe=>(nomatch e)⟩
 |.inr _,.aG=>by unfold TK.beq;exact⟨λe=>(nomatch e),λe=>(nomatch e)⟩
 |.tp _,.aG=>by unfold TK.beq;exact⟨λe=>(nomatch e),λe=>(nomatch e)⟩
theorem TK.nF:∀l m:List TK,TK.o9 l m=true↔l=m
 |[],[]=>by unfold TK.o9;exact⟨λ_=>rfl,λ_=>rfl⟩
 |a::l,b::m=>by unfold TK.o9;rw[jq,TK.beq_iff a b,TK.nF l m];exact⟨λe=>by rw[e.1,e.2],λe=>by cases e;exact⟨rfl,rfl⟩⟩
 |[],_::_=>by unfold TK.o9;exact⟨λe=>(nomatch e),λe=>(nomatch e)⟩
 |_::_,[]=>by unfold TK.o9;exact⟨λe=>(nomatch e),λe=>(nomatch e)⟩
end
instance:DecidableEq TK:=λa b=>decidable_of_iff _ (TK.beq_iff a b)
mutual
def TK.hash(w:cg):TK->Int
 |.inl i=>hashInt i
 |.inr x=>hashStr w x
 |.tp l=>reduceHash (Builtin.Tuple.tupleHashOf (TK.dy w l))
 |.aG=>4238894112
def TK.dy(w:cg):List TK->List Int
 |[]=>[]
 |a::l=>TK.hash w a::TK.dy w l
end
def TK.ok:Nat->TK->Bool
 |n+1,.tp l=>l.all (TK.ok n)
 |0,.tp _=>false
 |_,_=>true
def iJ(w:cg)(e:TK×V×V)(x:DictEntry):Prop:=x.hash=e.1.hash w/\RelV e.2.1 x.key/\RelV e.2.2 x.val/\e.1.ok 8=true
inductive HO where
  |lst (xs:List V)
  |tup (xs:List V)
  |dK (kvs:List (Key×V))|dT (kvs:List (List Key×V))
  |dG (es:List (TK×V×V)) (ep:Nat)
  |set (S:Int->Bool) (n:Nat)
  |ins (C dx:ah) (fs:List (Str×V))
  |own (x:ah)
  |xd (fs:List (Str×V))
  |met (f x:ah)
  |Lp (lo hi:Int)
  |Y (o:Obj) (u:HO)
  |zX (ps:Array aj)
  |ext (φ:bM->Prop)
abbrev Hp:=ah->ak HO
noncomputable def upd(H:Hp)(a:ah)(o:HO):Hp:=λb=>if b=a then some o else H b
theorem aI{H:Hp}{a:ah}{o:HO}:upd H a o a=some o:=by unfold upd;rw[aP rfl]
def cQ{H:Hp}{a b:ah}{o:HO}(h:b≠a):upd H a o b=H b:=by unfold upd;rw[aK h]
def Xv{H:Hp}{a:ah}{o u:HO}:upd (upd H a o) a u=upd H a u:=by
 funext b;unfold upd;split <;> rfl
def r9{H:Hp}{a b:ah}{o:HO}(h:H a=some o)(h':H b=none):a≠b:=by
 lia
section
variable(P:cS)(w:cg)
def bp(H:Hp)(h:bM)(a:ah):HO->Prop
 |.lst xs=>xs.length<=sizeLine/\∃(aA:List aj) (n:Nat),Vals xs aA/\h.get? a=some { cls:=.type "list",data:=.seq aA.toArray n}
 |.tup xs=>xs.length<=sizeLine/\∃aA:List aj,Vals xs aA/\IsTup h a aA.toArray
 |.dK kvs=>kvs.length<=sizeLine/\(a == sysModules)=false/\∃vs,KV kvs vs/\h.DictOf (IW P w) a vs
 |.dT kvs=>kvs.length<=sizeLine/\(a == sysModules)=false/\∃xs:List (List Key×ah×aj),
   Paired (λ(p:List Key×V) (q:List Key×ah×aj)=>p.1=q.1/\H q.2.1=some (.tup (p.1.map kV))/\RelV p.2 q.2.2) kvs xs/\
   ∃o es ep,h.get? a=some o/\o.ExactDict/\o.data=.dict es ep/\es.toList=xs.map (entryOfKey (tupleKind (IW P w)))/\(xs.map (·.1)).Nodup
 |.dG es ep=>es.length<=sizeLine/\(a == sysModules)=false/\∃o xs,h.get? a=some o/\o.ExactDict/\o.data=.dict xs ep/\Paired (iJ w) es xs.toList/\(es.map (·.1)).Nodup
 |.set S n=>h.SetOf (intKind P w) a S n
 |.ins C dx fs=>H dx=some (.own a)/\fs.length<=1000/\dx≠a/\h.get? a=some (PySem.W.instObj C dx)/\
   ∃mA,h.Ns1 dx mA/\(∀f,g8 (fs.lookup f) (mA f))/\PySem.Within mA (fs.map (·.1))
 |.own _=>∃o,h.get? a=some o
 |.xd fs=>∃mA,h.Ns1 a mA/\∀f,g8 (fs.lookup f) (mA f)
 |.Lp lo hi=>∃t u v,h.get? a=some { cls:=.type "range",data:=.fields #[.int lo t,.int hi u,.int 1 v]}
 |.Y o u=>h.get? a=some o/\bp H h a u
 |.zX ps=>h.get? a=some { cls:=.none,data:=.fields ps}
 |.met f x=>h.get? a=some (PySem.W.methodObj (.ref f) (.ref x))
 |.ext φ=>φ h/\(∃o,h.get? a=some o)/\∀h1 h2:bM,φ h1->(∀o,h1.get? a=some o->h2.get? a=some o)->φ h2
def iO(H:Hp)(h:bM):Prop:=∀a o,H a=some o->bp P w H h a o
end
section
variable{P:cS}{w:cg}{H H':Hp}{h h':bM}{a:ah}{o:HO}
theorem bp.lt(x:bp P w H h a o):a<h.objs.size:=by
 cases o with
 |lst xs=>obtain⟨_,_,_,_,e⟩:=x;exact cC e
 |tup xs=>obtain⟨_,_,_,p⟩:=x;exact p.lt
 |dK kvs=>obtain⟨_,_,_,_,o,_,_,e,_⟩:=x;exact cC e
 |dT kvs=>obtain⟨_,_,_,_,o,_,_,e,_⟩:=x;exact cC e
 |dG es ep=>obtain⟨_,_,o,_,e,_⟩:=x;exact cC e
 |set S n=>obtain⟨o,_,_,_,e,_⟩:=x;exact cC e
 |ins C dx fs=>obtain⟨_,_,_,e,_⟩:=x;exact cC e
 |own y=>obtain⟨_,e⟩:=x;exact cC e
 |xd fs=>obtain⟨_,⟨_,_,_,e,_⟩,_⟩:=x;exact cC e
 |Lp lo hi=>obtain⟨_,_,_,e⟩:=x;exact cC e
 |Y ob u=>obtain⟨e,_⟩:=x;exact cC e
 |zX ps=>exact cC (show h.get? a=some _ from x)
 |met f y=>exact cC (show h.get? a=some _ from x)
 |ext φ=>obtain⟨_,⟨_,e⟩,_⟩:=x;exact cC e
def Paired.DB{α β:Type}{F G:α->β->Prop}{l₁:List α}{l₂:List β}(h:Paired F l₁ l₂)(f:∀a b,F a b->G a b):Paired G l₁ l₂:=by
 induction h with
 |nil=>exact .nil
 |cons r t ih=>exact .cons (f _ _ r) ih
def bp.iZ(x:bp P w H h a o)(k:∀b u,(b=a\/H b=some (.own a))->h.get? b=some u->h'.get? b=some u)
  (ho:∀b,H b=some (.own a)->H' b=some (.own a)) (ht:∀b xs,H b=some (.tup xs)->H' b=some (.tup xs)):bp P w H' h' a o:=by
 induction o with
 |lst xs=>obtain⟨z,aA,n,r,e⟩:=x;exact⟨z,aA,n,r,k _ _ (.inl rfl) e⟩
 |tup xs=>obtain⟨z,aA,r,ob,e,c⟩:=x;exact⟨z,aA,r,ob,k _ _ (.inl rfl) e,c⟩
 |dK kvs=>obtain⟨z,y,vs,r,ob,es,ep,e,c⟩:=x;exact⟨z,y,vs,r,ob,es,ep,k _ _ (.inl rfl) e,c⟩
 |dT kvs=>
  obtain⟨z,y,xs,r,ob,es,ep,e,c⟩:=x;exact⟨z,y,xs,Paired.DB r λp q z=>⟨z.1,ht _ _ z.2.1,z.2.2⟩,ob,es,ep,k _ _ (.inl rfl) e,c⟩
 |dG es ep=>obtain⟨z,y,ob,xs,e,c⟩:=x;exact⟨z,y,ob,xs,k _ _ (.inl rfl) e,c⟩
 |set S n=>obtain⟨ob,es,ep,t,e,c⟩:=x;exact⟨ob,es,ep,t,k _ _ (.inl rfl) e,c⟩
 |ins C dx fs=>
  obtain⟨d,z,ne,e,mA,⟨od,es,ep,e2,c⟩,r⟩:=x;exact⟨ho _ d,z,ne,k _ _ (.inl rfl) e,mA,⟨od,es,ep,k _ _ (.inr d) e2,c⟩,r⟩
 |own y=>obtain⟨ob,e⟩:=x;exact⟨ob,k _ _ (.inl rfl) e⟩
 |xd fs=>obtain⟨mA,⟨od,es,ep,e,c⟩,r⟩:=x;exact⟨mA,⟨od,es,ep,k _ _ (.inl rfl) e,c⟩,r⟩
 |Lp lo hi=>obtain⟨t,u,v,e⟩:=x;exact⟨t,u,v,k _ _ (.inl rfl) e⟩
 |Y ob u ih=>obtain⟨e,q⟩:=x;exact⟨k _ _ (.inl rfl) e,ih q⟩
 |zX ps=>
  have e:h.get? a=some { cls:=.none,data:=.fields ps}:=x;show h'.get? a=some { cls:=.none,data:=.fields ps};exact k a _ (.inl rfl) e
 |met f y=>
  have e:h.get? a=some (PySem.W.methodObj (.ref f) (.ref y)):=x;show h'.get? a=some (PySem.W.methodObj (.ref f) (.ref y));exact k a _ (.inl rfl) e
 |ext φ=>obtain⟨p,⟨o,e⟩,st⟩:=x;exact⟨st _ _ p λo q=>k _ _ (.inl rfl) q,⟨o,k _ _ (.inl rfl) e⟩,st⟩
theorem iO.lt(x:iO P w H h)(e:H a=some o):a<h.objs.size:=(x a o e).lt
def iO.fresh(x:iO P w H h)(e:h.objs.size<=a):H a=none:=by
 cases q:H a with
 |none=>rfl
 |some u=>exact bW (fI (x.lt q) e) (jE _)
def iO.kept(x:iO P w H h)(k:∀b u,h.get? b=some u->h'.get? b=some u):iO P w H h':=λa o e=>
 (x a o e).iZ (λb u _ q=>k b u q) (λ_ q=>q) λ_ _ q=>q
def iO.laid(x:iO P w H h)(k:∀b u,h.get? b=some u->h'.get? b=some u)(hp:h.objs.size<=a)(new:bp P w (upd H a o) h' a o):iO P w (upd H a o) h':=λb u e=>by
 have hn:=x.fresh hp;by_cases hb:b=a
 .subst hb;rw[aI] at e;cases e;exact new
 .rw[cQ hb] at e;exact(x b u e).iZ (λc v _ q=>k c v q) (λc q=>by rw[cQ (r9 q hn)];exact q) λc xs q=>by rw[cQ (r9 q hn)];exact q
end
def Rd(H:Hp)(a:ah)(u:HO):Prop:=H a=some u\/∃o,H a=some (.Y o u)
def Rd.ok{P:cS}{w:cg}{H:Hp}{h:bM}{a:ah}{u:HO}(r:Rd H a u)(x:iO P w H h):bp P w H h a u:=by
 rcases r with r|⟨o,r⟩
 .exact x a u r
 .obtain⟨_,q⟩:=x a _ r;exact q
def BD:ak HO->Prop
 |some (.lst _)=>True
 |some (.dK _)=>True
 |some (.dT _)=>True
 |some (.dG _ _)=>True
 |some (.set _ _)=>True
 |some (.ins _ _ _)=>True
 |some (.ext _)=>True
 |_=>False
section
variable{P:cS}{w:cg}{H:Hp}{h h':bM}{x e:ah}{o':HO}
def iO.write(ok:iO P w H h)(mu:BD (H x))(he:e=x\/H e=some (.own x))(k:∀b u,b≠e->h.get? b=some u->h'.get? b=some u)(A_:∃u,h'.get? e=some u)
  (new:bp P w (upd H x o') h' x o'):iO P w (upd H x o') h':=λb u q=>by
 have K6:∀c y,H c=some (.own y)->c≠x:=λc y r z=>by subst z;rw[r] at mu;exact mu
 have K7:∀c xs,H c=some (.tup xs)->c≠x:=λc xs r z=>by subst z;rw[r] at mu;exact mu
 by_cases hb:b=x
 .grind [aI]
 .rw[cQ hb] at q;by_cases A8:b=e
  .have q':H b=some (.own x):=by
    rcases he with z|z
    .exact bW (A8.trans z) hb
    .rw[A8];exact z
   rw[q] at q';cases q';obtain⟨v,hv⟩:=A_;exact⟨v,by rw[A8];exact hv⟩
  .refine(ok b u q).iZ (λc v hc r=>k c v ?_ r) (λc r=>by rw[cQ (K6 c b r)];exact r) λc xs r=>by rw[cQ (K7 c xs r)];exact r
   grind
end
structure Un (fs ex:List ah) (H H':Hp) (h h':bM):Prop where
 keep:∀b o,h.get? b=some o->H b=none->b∉fs->b∉ex->h'.get? b=some o
 slot:∀b o,h.get? b=some o->H b=none->b∈fs->b∉ex->∃sl,h'.get? b=some { o with slots:=sl}
 free:∀b o,h.get? b=some o->H b=none->b∉ex->H' b=none
 there:∀b o,h.get? b=some o->b∉ex->∃o',h'.get? b=some o'
 lj:∀b xs,H b=some (.tup xs)->H' b=some (.tup xs)
 kr:∀b o u,H b=some (.Y o u)->H' b=some (.Y o u)
 lh:∀b ps,H b=some (.zX ps)->∃more,H' b=some (.zX (ps++more))
section
variable{fs A7 ex ex':List ah}{H H1 H2:Hp}{h h1 h2 h':bM}{a x e:ah}{o:HO}
def Un.any(u:Un fs ex H H1 h h1){b:ah}{ob:Obj}(q:h.get? b=some ob)(n:H b=none)(hx:b∉ex):∃sl,h1.get? b=some { ob with slots:=sl}:=by
 by_cases hb:b∈fs
 .exact u.slot b ob q n hb hx
 .exact⟨ob.slots,u.keep b ob q n hb hx⟩
def Un.kept(k:∀b u,h.get? b=some u->h'.get? b=some u):Un fs ex H H h h':=
 ⟨λb ob q _ _ _=>k b ob q,λb ob q _ _ _=>⟨ob.slots,k b ob q⟩,λ_ _ _ n _=>n,λb ob q _=>⟨ob,k b ob q⟩,λ_ _ q=>q,λ_ _ _ q=>q,λ_ ps q=>⟨#[],by rw[q];simp⟩⟩
def Un.refl:Un fs ex H H h h:=Un.kept λ_ _ q=>q
def Un.laid(k:∀b u,h.get? b=some u->h'.get? b=some u)(hp:h.objs.size<=a)(hn:H a=none):Un fs ex H (upd H a o) h h' where
 keep:=λb u q _ _ _=>k b u q
 slot:=λb u q _ _ _=>⟨u.slots,k b u q⟩
 free:=λb u q n _=>by rw[cQ (gm (fI (cC q) hp))];exact n
 there:=λb u q _=>⟨u,k b u q⟩
 lj:=λb xs q=>by rw[cQ (r9 q hn)];exact q
 kr:=λb u xs q=>by rw[cQ (r9 q hn)];exact q
 lh:=λb ps q=>⟨#[],by rw[cQ (r9 q hn),q];simp⟩
def Un.write(mu:BD (H x))(he:e=x\/H e=some (.own x))(k:∀b u,b≠e->h.get? b=some u->h'.get? b=some u)(A_:∃u,h'.get? e=some u):Un fs ex H (upd H x o) h h':=by
 have hx:∀b,H b=none->b≠x:=λb n z=>by subst z;rw[n] at mu;exact mu
 have hb:∀b,H b=none->b≠e:=λb n z=>by
  subst z;rcases he with r|r
  .exact hx b n r
  .rw[n] at r;cases r
 have hm:∀b u,H b=some u->¬BD (some u)->b≠x:=λb u q nm z=>by subst z;rw[q] at mu;exact nm mu
 refine⟨λb u q n _ _=>k b u (hb b n) q,λb u q n _ _=>⟨u.slots,k b u (hb b n) q⟩,λb u q n _=>by rw[cQ (hx b n)];exact n,λb u q _=>?_,
  λb xs q=>by rw[cQ (hm b _ q λz=>z)];exact q,λb u xs q=>by rw[cQ (hm b _ q λz=>z)];exact q,λb ps q=>⟨#[],by rw[cQ (hm b _ q λz=>z),q];simp⟩⟩
 by_cases A8:b=e
 .subst A8;exact A_
 .exact⟨u,k b u A8 q⟩
end
noncomputable def G9(h:bM)(H:Hp):List ah:=(List.range h.objs.size).filter λa=>(H a).isSome
def mD(h:bM)(H:Hp):bM:=PySem.W.hideAll h (G9 h H)
def T5(h:bM)(H:Hp):(mD h H).objs.size=h.objs.size:=PySem.W.hideAll_size _ _
def Vo{h:bM}{H:Hp}{b:ah}{o:Obj}(e:h.get? b=some o)(n:H b=none):(mD h H).get? b=some o:=
 PySem.W.hideAll_get _ e λhm=>by
  have q:(H b).isSome=true:=(rB.mp hm).2;rw[n] at q;simp at q
def Xw{h:bM}{H:Hp}{b:ah}{o:Obj}(e:(mD h H).get? b=some o):h.get? b=some o/\H b=none:=by
 have e':h.get? b=some o:=PySem.W.of_hideAll (G9 h H) e;refine⟨e',?_⟩;cases q:H b with
 |none=>rfl
 |some x=>
  have hm:b∈G9 h H:=rB.mpr ⟨uA.mpr (cC e'),by simp[q]⟩
  have z:(mD h H).get? b=none:=PySem.W.hideAll_none (G9 h H) hm;rw[z] at e;cases e
noncomputable def XH(g h:bM)(L:ah):List (ah×Obj):=(List.range h.objs.size).filterMap λa=>if a=L\/(g.get? a).isSome=true then none else(h.get? a).map λo=>(a,o)
def rest(g h:bM)(L d:ah):List (ah×Obj):=(XH g h L).filter λp=>decide (p.1≠d)
variable{t' i:Nat}{ch:List ah}{x:Str}{M:Model}{A:cD}{E:aj->aq->Prop}{v:V}{u:aj}{Q:Unit->aq->Prop}
structure Mod (K:PySem.W.Frag) (mg:Str->ak aj) (base:bM):Prop where
 Bc:K.In base
 glob:base.Ns mainGlobals mg
 blt:∃mb,base.Ns builtinsNs mb/\∀x:Str,x≠"__name__"->mb x=bootBuiltins x
 nolimit:base.NoLimit
set_option genInjectivity false in
structure Cx where
 prog:cS
 w:cg
 K:PySem.W.Frag
 mg:Str->ak aj
 base:bM
 A:cD
 N:List Str
 s₀:aq
 H₀:Hp
 env:Env
 outer:List Env
 stack:List Env
 ex:List ah
 fn:Str->Bool
 calm:Bool
 pn:List (ah×Obj)
 xe:aj->aq->Prop
noncomputable def kq(l:List Env):List ah:=l.filterMap (·.frame)
abbrev Cx.fs(X:Cx):List ah:=kq X.outer
def EB(sc:Scope)(x:Str):Prop:=sc.names.lookup x=some .local \/ sc.names.lookup x=some .cell\/sc.names.lookup x=some .free
def Loc(sc:Scope)(x:Str):Prop:=sc.names.lookup x=some .local \/ sc.names.lookup x=some .cell
def Look(env:Env)(h:bM)(m:Str->ak aj)(x:Str)(u:aj):Prop:=
 (env.kindOf x=some .local /\ m x=some u)\/((env.kindOf x=some .cell\/env.kindOf x=some .free)/\∃c,env.cells.lookup x=some c/\h.IsCell c (some u))
structure Cx.Ok (X:Cx):Prop where
 mod:Mod X.K X.mg X.base
 kind:X.env.scope.kind=.function
 glob:X.env.globals=mainGlobals
 blt:X.env.builtins=builtinsNs
 above:X.s₀.heap.objs.size<=X.env.locals
 inj:∀x y c,X.env.cells.lookup x=some c->X.env.cells.lookup y=some c->x=y
 has:∀x,(X.env.kindOf x=some .cell\/X.env.kindOf x=some .free)->∃c,X.env.cells.lookup x=some c
 yJ:∀x c,X.fn x=true->X.env.cells.lookup x=some c->X.s₀.heap.objs.size<=c
 hd:X.calm=true->X.A.handled=none
 frames:X.A.frames=some X.stack
 Bj:X.stack=X.outer\/(X.stack=X.env::X.outer/\X.env.frame=some X.env.locals)
 Gj:∀b∈X.ex,b≠X.env.locals/\∀x c,X.env.cells.lookup x=some c->c≠b
 bs:∀b o,X.base.get? b=some o->X.s₀.heap.get? b=some o/\X.H₀ b=none
 sg:X.base.objs.size<=X.s₀.heap.objs.size
 pA:∀b o,X.base.get? b=some o->b∉X.ex
 qH:∀b∈X.ex,b∉X.fs
 iw:X.s₀.heap.FunFrames X.base X.outer
 vf:∀b∈X.fs,X.H₀ b=none
structure Inv (X:Cx) (aa:List (ah×Obj)) (Z:List (ak V)) (H:Hp) (s:aq):Prop where
 ok:X.Ok
 os:s.os=X.s₀.os
 bare:AllBare s.gens
 base:Un X.fs X.ex X.H₀ H X.s₀.heap s.heap
 loc:∃m,s.heap.Ns X.env.locals m/\∀(i:Nat) (x:Str) (v:V),X.N[i]?=some x->Z[i]?=some (some v)->EB X.env.scope x->∃u,RelV v u/\Look X.env s.heap m x u
 cell:∀x c,X.env.cells.lookup x=some c->∃v,s.heap.IsCell c v
 free:H X.env.locals=none
 dU:∀x c,X.env.cells.lookup x=some c->H c=none
 pin:∀p∈X.pn++aa,s.heap.get? p.1=some p.2/\H p.1=none/\p.1≠X.env.locals/\p.1∉X.fs/\∀v,p.2.data≠.cell v
 bj:iO X.prog X.w H s.heap
 len:Z.length=X.N.length
section
variable{X:Cx}{aa:List (ah×Obj)}{Z:List (ak V)}{H H':Hp}{s:aq}{h':bM}
def Cx.Ok.K5(ok:X.Ok){b:ah}{o:Obj}(e:X.base.get? b=some o):b∉X.fs:=λhb=>by
 have:=(ok.iw.mem hb).1
 lia
theorem Inv.bs(I:Inv X aa Z H s):∀b o,X.base.get? b=some o->s.heap.get? b=some o/\H b=none:=λb o e=>
 ⟨I.base.keep b o (I.ok.bs b o e).1 (I.ok.bs b o e).2 (I.ok.K5 e) (I.ok.pA b o e),I.base.free b o (I.ok.bs b o e).1 (I.ok.bs b o e).2 (I.ok.pA b o e)⟩
def Inv.bk(I:Inv X aa Z H s):∀b o,X.base.get? b=some o->s.heap.get? b=some o:=λb o e=>(I.bs b o e).1
theorem Inv.mod(I:Inv X aa Z H s):Mod X.K X.mg X.base:=I.ok.mod
def Inv.jN(I:Inv X aa Z H s):X.K.In s.heap:=I.ok.mod.Bc.keeps I.bk
theorem Inv.lt(I:Inv X aa Z H s):X.env.locals<s.heap.objs.size:=let ⟨_,hn,_⟩:=I.loc;hn.lt
def Inv.sz(I:Inv X aa Z H s):X.s₀.heap.objs.size<=s.heap.objs.size:=i4 I.ok.above (Hb I.lt)
def Inv.zA(I:Inv X aa Z H s){a:ah}(h:s.heap.objs.size<=a):a∉X.fs:=λhb=>by
 obtain⟨_,o,ho,_⟩:=I.ok.iw.mem hb;exact bW (fI (cC ho) (i4 I.sz h)) (jE _)
def Inv.yL(I:Inv X aa Z H s):∀x c,X.env.cells.lookup x=some c->c≠X.env.locals:=λx c e z=>by
 obtain⟨v,o,ho,hd⟩:=I.cell x c e;obtain⟨m,⟨o',es,ep,wU,Ra,_⟩,_⟩:=I.loc
 lia
theorem Inv.iw(I:Inv X aa Z H s):s.heap.FunFrames X.base X.outer:=by
 have all:∀(l:List Env),(∀b∈kq l,b∈X.fs)->X.s₀.heap.FunFrames X.base l->s.heap.FunFrames X.base l:=by
  intro l
  induction l with
  |nil=>intro _ _;trivial
  |cons env r ih=>
   intro hs hl;obtain⟨hk,⟨L,o,hf,hn,ho,hd⟩,hr⟩:=hl;have hL:L∈X.fs:=hs L (by unfold kq;rw[pG,hf];exact qW)
   obtain⟨sl,e⟩:=I.base.slot L o ho (I.ok.vf L hL) hL λz=>I.ok.qH L z hL
   exact⟨hk,⟨L,_,hf,hn,e,hd⟩,ih (λb hb=>hs b (by unfold kq;rw[pG,hf];exact pH _ hb)) hr⟩
 exact all X.outer (λ_ hb=>hb) I.ok.iw
def Inv.stack(I:Inv X aa Z H s):s.heap.FunFrames X.base X.stack:=by
 rcases I.ok.Bj with e|⟨e,hf⟩
 .rw[e];exact I.iw
 .rw[e];obtain⟨m,hn,_⟩:=I.loc;refine .cons (by rw[I.ok.kind];decide) hf hn ?_ I.iw
  exact Heap.get?_none_of_le (i4 I.ok.sg I.ok.above)
def Inv.kI(I:Inv X aa Z H s):∀b∈kq X.stack,b∈X.env.locals::X.fs:=λb hb=>by
 rcases I.ok.Bj with e|⟨e,hf⟩
 .rw[e] at hb;exact pH _ hb
 .rw[e] at hb;unfold kq at hb;rw[pG,hf] at hb;exact hb
def Inv.jQ(I:Inv X aa Z H s):∀b∈kq X.stack,H b=none:=λb hb=>by
 rcases y04.mp (I.kI b hb) with e|hb
 .rw[e];exact I.free
 .obtain⟨_,o,ho,_⟩:=I.ok.iw.mem hb;exact I.base.free b o ho (I.ok.vf b hb) λz=>I.ok.qH b z hb
def Inv.step{g':Array GenState}{t':Nat}{d':Drawn}{ch:List ah}(I:Inv X aa Z H s)
  (kN:∀b∈ch,(b∈X.ex\/X.s₀.heap.objs.size<=b)/\b≠X.env.locals/\(∀x c,X.env.cells.lookup x=some c->c≠b)/\∀p∈X.pn++aa,p.1≠b)
  (keep:∀b o,b≠X.env.locals->b∉X.fs->b∉ch->s.heap.get? b=some o->H b=none->h'.get? b=some o)
  (slot:∀b o,b≠X.env.locals->b∈X.fs->b∉ch->s.heap.get? b=some o->H b=none->∃sl,h'.get? b=some { o with slots:=sl}) (free:∀b o,b∉ch->s.heap.get? b=some o->H b=none->H' b=none)
  (there:∀b o,b∉ch->s.heap.get? b=some o->∃o',h'.get? b=some o')
  (lj:∀b xs,H b=some (.tup xs)->H' b=some (.tup xs)) (kr:∀b o u,H b=some (.Y o u)->H' b=some (.Y o u)) (lh:∀b ps,H b=some (.zX ps)->∃more,H' b=some (.zX (ps++more)))
  (ns:∀m,s.heap.Ns X.env.locals m->h'.Ns X.env.locals m) (bj:iO X.prog X.w H' h') (hg:AllBare g') :
  Inv X aa Z H' { s with heap:=h',gens:=g',drawn:=d',toks:=t'}:=by
 have RJ:∀b o,X.s₀.heap.get? b=some o->b≠X.env.locals:=λb o e=>gm (fI (cC e) I.ok.above)
 have GX:∀b o,X.s₀.heap.get? b=some o->b∉X.ex->b∉ch:=λb o e hx hb=>by
  rcases(kN b hb).1 with z|z
  .exact hx z
  .exact bW (fI (cC e) z) (jE _)
 have cellK:∀x c,X.env.cells.lookup x=some c->∀v,s.heap.IsCell c v->h'.IsCell c v:=λx c e v ⟨o,ho,hd⟩=>by
  have vz:c∉ch:=λz=>(kN c z).2.2.1 x c e rfl
  by_cases hc:c∈X.fs
  .obtain⟨sl,q⟩:=slot c o (I.yL x c e) hc vz ho (I.dU x c e);exact⟨_,q,hd⟩
  .exact⟨o,keep c o (I.yL x c e) hc vz ho (I.dU x c e),hd⟩
 refine⟨I.ok,I.os,hg,⟨λb o e n hb hx=>?_,λb o e n hb hx=>?_,λb o e n hx=>?_,λb o e hx=>?_,λb xs e=>lj b xs (I.base.lj b xs e),λb o xs e=>kr b o xs (I.base.kr b o xs e),λb ps e=>?_⟩,?_,λx c e=>?_,?_,λx c e=>?_,λp hp=>?_,bj,I.len⟩
 .exact keep b o (RJ b o e) hb (GX b o e hx) (I.base.keep b o e n hb hx) (I.base.free b o e n hx)
 .obtain⟨sl,e1⟩:=I.base.slot b o e n hb hx;obtain⟨Ly,e2⟩:=slot b _ (RJ b o e) hb (GX b o e hx) e1 (I.base.free b o e n hx);exact⟨Ly,e2⟩
 .obtain⟨o',e1⟩:=I.base.there b o e hx;exact free b o' (GX b o e hx) e1 (I.base.free b o e n hx)
 .obtain⟨o',e1⟩:=I.base.there b o e hx;exact there b o' (GX b o e hx) e1
 .obtain⟨m1,e1⟩:=I.base.lh b ps e;obtain⟨m2,e2⟩:=lh b _ e1;exact⟨m1++m2,by rw[e2,Array.append_assoc]⟩
 .obtain⟨m,hn,hl⟩:=I.loc;refine⟨m,ns m hn,λi x v e1 e2 e3=>?_⟩
  obtain⟨u,r,l⟩:=hl i x v e1 e2 e3;refine⟨u,r,?_⟩;rcases l with l|⟨k,c,e,z⟩
  .exact .inl l
  .exact .inr ⟨k,c,e,cellK x c e _ z⟩
 .obtain⟨v,z⟩:=I.cell x c e;exact⟨v,cellK x c e v z⟩
 .obtain⟨m,⟨o,_,_,ho,_⟩,_⟩:=I.loc;exact free _ o (λz=>(kN _ z).2.1 rfl) ho I.free
 .obtain⟨v,o,ho,hd⟩:=I.cell x c e;exact free c o (λz=>(kN c z).2.2.1 x c e rfl) ho (I.dU x c e)
 .obtain⟨e,n,ne,nf,d⟩:=I.pin p hp;have vz:p.1∉ch:=λz=>(kN p.1 z).2.2.2 p hp rfl
  exact⟨keep p.1 p.2 ne nf vz e n,free p.1 p.2 vz e n,ne,nf,d⟩
def Inv.un(I:Inv X aa Z H s)(u:Un X.fs [] H H' s.heap h')(bj:iO X.prog X.w H' h'):Inv X aa Z H' { s with heap:=h',toks:=t'}:=by
 obtain⟨m,⟨o,es,ep,ho,r⟩,_⟩:=id I.loc;obtain⟨sl,hL⟩:=u.any ho I.free (by simp)
 exact I.step (g':=s.gens) (d':=s.drawn) (ch:=[]) (λ_ z=>nomatch z) (λb o _ hb _ e n=>u.keep b o e n hb (by simp)) (λb o _ hb _ e n=>u.slot b o e n hb (by simp)) (λb o _ e n=>u.free b o e n (by simp)) (λb o _ e=>u.there b o e (by simp)) u.lj u.kr u.lh (λm' hm=>by
  obtain⟨o',ve,o_,wU,r'⟩:=hm;rw[ho] at wU;cases wU;exact⟨_,ve,o_,hL,r'⟩) bj I.bare
def Inv.call{g':Array GenState}{d':Drawn}(I:Inv X aa Z H s)(u:Un (kq X.stack) ch H H' s.heap h')(bj:iO X.prog X.w H' h')(hg:AllBare g')
  (kN:∀b∈ch,(b∈X.ex\/X.s₀.heap.objs.size<=b)/\b≠X.env.locals/\(∀x c,X.env.cells.lookup x=some c->c≠b)/\∀p∈X.pn++aa,p.1≠b) :
  Inv X aa Z H' { s with heap:=h',gens:=g',drawn:=d',toks:=t'}:=by
 obtain⟨m,⟨o,es,ep,ho,r⟩,_⟩:=id I.loc;obtain⟨sl,hL⟩:=u.any ho I.free λz=>(kN _ z).2.1 rfl
 exact I.step (ch:=ch) kN (λb o hL hb hc e n=>u.keep b o e n (λz=>(y04.mp (I.kI b z)).elim hL hb) hc) (λb o _ _ hc e n=>u.any e n hc) (λb o hc e n=>u.free b o e n hc) (λb o hc e=>u.there b o e hc) u.lj u.kr u.lh (λm' hm=>by
  obtain⟨o',ve,o_,wU,r'⟩:=hm;rw[ho] at wU;cases wU;exact⟨_,ve,o_,hL,r'⟩) bj hg
def Inv.turned{it:ah}(I:Inv X aa Z H s)(k:∀b o,b≠it->s.heap.get? b=some o->h'.get? b=some o)(hn:H it=none)(hL:it≠X.env.locals)
  (h1:it∈X.ex\/X.s₀.heap.objs.size<=it) (h2:∀x c,X.env.cells.lookup x=some c->c≠it) (h3:∀p∈X.pn++aa,p.1≠it):Inv X aa Z H { s with heap:=h',toks:=t'}:=by
 have RL:∀b u,H b=some u->b≠it:=λb u e z=>by rw[z,hn] at e;cases e
 refine I.step (g':=s.gens) (d':=s.drawn) (ch:=[it]) (λb hb=>?_) (λb o _ _ hc e _=>k b o (λz=>hc (by simp[z])) e) (λb o _ _ hc e _=>⟨o.slots,k b o (λz=>hc (by simp[z])) e⟩) (λ_ _ _ _ n=>n)
  (λb o hc e=>⟨o,k b o (λz=>hc (by simp[z])) e⟩) (λ_ _ e=>e) (λ_ _ _ e=>e) (λb ps e=>⟨#[],by rw[e];simp⟩) (λm hm=>?_) (λb u e=>?_) I.bare
 .have e:b=it:=by simpa using hb
  subst e;exact⟨h1,hL,h2,h3⟩
 .obtain⟨o,es,ep,ho,r⟩:=hm;exact⟨o,es,ep,k _ o (Ne.symm hL) ho,r⟩
 .refine(I.bj b u e).iZ (λc v hc q=>k c v ?_ q) (λ_ q=>q) λ_ _ q=>q
  rcases hc with z|z
  .rw[z];exact RL b u e
  .exact RL c _ z
def Inv.tok(I:Inv X aa Z H s)(t:Nat):Inv X aa Z H { s with toks:=t}:=I.un (h':=s.heap) (t':=t) Un.refl I.bj
theorem Inv.kept{t':Nat}(I:Inv X aa Z H s)(k:∀b u,s.heap.get? b=some u->h'.get? b=some u):Inv X aa Z H { s with heap:=h',toks:=t'}:=I.un (Un.kept k) (I.bj.kept k)
theorem Inv.laid{a:ah}{o:HO}{t':Nat}(I:Inv X aa Z H s)(k:∀b u,s.heap.get? b=some u->h'.get? b=some u)(hp:s.heap.objs.size<=a)(new:bp X.prog X.w (upd H a o) h' a o):
  Inv X aa Z (upd H a o) { s with heap:=h',toks:=t'}:=I.un (Un.laid k hp (I.bj.fresh hp)) (I.bj.laid k hp new)
theorem Inv.write{x e:ah}{o:HO}{t':Nat}(I:Inv X aa Z H s)(mu:BD (H x))(he:e=x\/H e=some (.own x))(k:∀b u,b≠e->s.heap.get? b=some u->h'.get? b=some u)(A_:∃u,h'.get? e=some u)
  (new:bp X.prog X.w (upd H x o) h' x o):Inv X aa Z (upd H x o) { s with heap:=h',toks:=t'}:=I.un (Un.write mu he k A_) (I.bj.write mu he k A_ new)
def Inv.jO{oi:List (ah×Obj)}(I:Inv X aa Z H s)(h:∀p∈oi,s.heap.get? p.1=some p.2/\H p.1=none/\p.1≠X.env.locals/\p.1∉X.fs/\∀v,p.2.data≠.cell v):Inv X oi Z H s:=
 ⟨I.ok,I.os,I.bare,I.base,I.loc,I.cell,I.free,I.dU,λp hp=>(cG.mp hp).elim (λz=>I.pin p (Ek _ z)) (h p),I.bj,I.len⟩
def NV{N:List Str}(hN:N.Nodup){j:Nat}(a:N[i]?=some x)(b:N[j]?=some x):i=j:=by
 obtain⟨h1,e1⟩:=eR.mp a;obtain⟨h2,e2⟩:=eR.mp b;exact(Hc hN).mp (e1.trans e2.symm)
def Nn(I:Inv X aa Z H s)(hN:X.N.Nodup)(hi:X.N[i]?=some x)(hx:Loc X.env.scope x)(r:RelV v u)
  (h:∀s',Inv X aa (Z.set i (some v)) H s'->(∃a,Heap.SameBut a s.heap s'.heap/\(a=X.env.locals\/X.env.cells.lookup x=some a))->Q () s') (hf:X.fn x=true\/X.env.scope.names.lookup x=some .local := by first|exact .inl rfl|exact .inr rfl|assumption):wpAny M A (storeName X.env x u) Q E s:=by
 obtain⟨m,hn,hl⟩:=id I.loc;have Kg:(X.env.scope.kind == .class || (X.env.scope.kind == .module&&X.env.locals != X.env.globals))=false:=by rw[I.ok.kind];rfl
 have Rf:i<Z.length:=by rw[I.len];exact(eR.mp hi).1
 have yL:=I.yL;have tracked:∀{a:ah} {h':bM},(∃o,s.heap.get? a=some o/\H a=none)->Heap.SameBut a s.heap h'->iO X.prog X.w H h':=λ{a h'} ha hs b ob e=>by
  obtain⟨_,_,hfree⟩:=ha;refine(I.bj b ob e).iZ (λc w' hc q=>(hs.2 c ?_).trans q) (λ_ q=>q) λ_ _ q=>q
  lia
 rcases hx with hk|hk
 .refine wpAny_storeName_local hk hn (λh' GF hs=>?_) Kg
  obtain⟨oL,_,_,gM,_⟩:=id hn;refine h _ ⟨I.ok,I.os,I.bare,⟨λb o e n hb hx=>?_,λb o e n hb hx=>?_,I.base.free,λb o e hx=>?_,I.base.lj,I.base.kr,I.base.lh⟩,⟨_,GF,λj y v' e1 e2 e3=>?_⟩,λy c e=>?_,I.free,I.dU,λp hp=>?_,tracked ⟨oL,gM,I.free⟩ hs,by simpa using I.len⟩ ⟨_,hs,.inl rfl⟩
  .exact(hs.2 b (gm (fI (cC e) I.ok.above))).trans (I.base.keep b o e n hb hx)
  .obtain⟨sl,e1⟩:=I.base.slot b o e n hb hx;exact⟨sl,(hs.2 b (gm (fI (cC e) I.ok.above))).trans e1⟩
  .obtain⟨o',e1⟩:=I.base.there b o e hx;exact⟨o',(hs.2 b (gm (fI (cC e) I.ok.above))).trans e1⟩
  .by_cases hj:j=i
   .subst hj;rw[hi] at e1;cases e1;rw[vY Rf] at e2;cases e2;exact⟨u,r,.inl ⟨hk,by simp⟩⟩
   .rw[Bm (Ne.symm hj)] at e2;obtain⟨u',r',q⟩:=hl j y v' e1 e2 e3;refine⟨u',r',?_⟩;rcases q with⟨k,e⟩|⟨k,c,e,z⟩
    .refine .inl ⟨k,?_⟩;have:y≠x:=λe=>hj (NV hN e1 (e ▸ hi))
     simp[this,e]
    .exact .inr ⟨k,c,e,z.sameBut hs (yL y c e)⟩
  .obtain⟨w',z⟩:=I.cell y c e;exact⟨w',z.sameBut hs (yL y c e)⟩
  .obtain⟨e,n,ne,nf,d⟩:=I.pin p hp;exact⟨(hs.2 p.1 ne).trans e,n,ne,nf,d⟩
 .have C7:X.fn x=true:=by
   rcases hf with z|z
   .exact z
   .rw[z] at hk;cases hk
  obtain⟨c,hc⟩:=I.ok.has x (.inl hk);obtain⟨w',z⟩:=I.cell x c hc;refine wpAny_storeName_cell I.ok.kind hk hc z (λh' k7 hs=>?_)
  obtain⟨oc,Rl,Kr⟩:=id z;refine h { s with heap:=h'} ⟨I.ok,I.os,I.bare,⟨λb o e n hb hx=>?_,λb o e n hb hx=>?_,I.base.free,λb o e hx=>?_,I.base.lj,I.base.kr,I.base.lh⟩,⟨m,hn.sameBut hs (Ne.symm (yL x c hc)),λj y v' e1 e2 e3=>?_⟩,λy c' e=>?_,I.free,I.dU,λp hp=>?_,tracked ⟨oc,Rl,I.dU x c hc⟩ hs,by simpa using I.len⟩ ⟨c,hs,.inr hc⟩
  .exact(hs.2 b (gm (fI (cC e) (I.ok.yJ x c C7 hc)))).trans (I.base.keep b o e n hb hx)
  .obtain⟨sl,e1⟩:=I.base.slot b o e n hb hx;exact⟨sl,(hs.2 b (gm (fI (cC e) (I.ok.yJ x c C7 hc)))).trans e1⟩
  .obtain⟨o',e1⟩:=I.base.there b o e hx;exact⟨o',(hs.2 b (gm (fI (cC e) (I.ok.yJ x c C7 hc)))).trans e1⟩
  .by_cases hj:j=i
   .subst hj;rw[hi] at e1;cases e1;rw[vY Rf] at e2;cases e2;exact⟨u,r,.inr ⟨.inl hk,c,hc,k7⟩⟩
   .rw[Bm (Ne.symm hj)] at e2;obtain⟨u',r',q⟩:=hl j y v' e1 e2 e3;refine⟨u',r',?_⟩;rcases q with q|⟨k,c',e,z'⟩
    .exact .inl q
    .refine .inr ⟨k,c',e,z'.sameBut hs ?_⟩;rintro rfl;exact hj (NV hN e1 (I.ok.inj _ _ _ e hc ▸ hi))
  .by_cases Q_:c'=c
   .subst Q_;exact⟨_,k7⟩
   .obtain⟨w2,z2⟩:=I.cell y c' e;exact⟨w2,z2.sameBut hs Q_⟩
  .obtain⟨e,n,ne,nf,d⟩:=I.pin p hp;refine⟨(hs.2 p.1 ?_).trans e,n,ne,nf,d⟩;intro q;rw[q,Rl] at e;have q':oc=p.2:=Option.some.inj e;exact d w' (by rw[<-q'];exact Kr)
def NW(I:Inv X aa Z H s)(hN:X.N.Nodup)(hi:X.N[i]?=some x)(hx:Loc X.env.scope x)(r:RelV v u)
  (h:∀s',Inv X aa (Z.set i (some v)) H s'->Q () s') (hf:X.fn x=true\/X.env.scope.names.lookup x=some .local := by first|exact .inl rfl|exact .inr rfl|assumption):wpAny M A (storeName X.env x u) Q E s:=
 Nn I hN hi hx r (λs' I' _=>h s' I') hf
def Inv.wy{s':aq}(I:Inv X aa Z H s)(ho:s'.os=s.os)(u:Un (kq X.stack) ch H H' s.heap s'.heap)(bj:iO X.prog X.w H' s'.heap)(hg:AllBare s'.gens)
  (kN:∀b∈ch,(b∈X.ex\/X.s₀.heap.objs.size<=b)/\b≠X.env.locals/\(∀x c,X.env.cells.lookup x=some c->c≠b)/\∀p∈X.pn++aa,p.1≠b):Inv X aa Z H' s':=by
 obtain⟨h',g',d',t',o'⟩:=s';have e:o'=s.os:=ho;subst e;exact I.call (g':=g') (t':=t') (d':=d') u bj hg kN
end
abbrev XK:=aj->ak ah->Hp->Prop
abbrev St:=List (ak V)
abbrev VK:=V->Hp->Prop
abbrev TE:=St->Hp->VK->Prop
abbrev TT:=St->Hp->(Bool->Hp->Prop)->Prop
abbrev TA:=St->Hp->(List V->Hp->Prop)->Prop
set_option genInjectivity false in
structure Ends where
 nx:St->Hp->Prop
 rt:VK
 bk:St->Hp->Prop:=λ_ _=>False
 ct:St->Hp->Prop:=λ_ _=>False
abbrev TS:=Ends->St->Hp->Prop
def EP(X:Cx)(aa:List (ah×Obj))(Z:St)(Q:VK)(u:aj)(s':aq):Prop:=∃v H',Inv X aa Z H' s'/\RelV v u/\Q v H'
def TP(X:Cx)(aa:List (ah×Obj))(Z:St)(Q:Bool->Hp->Prop)(b:Bool)(s':aq):Prop:=∃H',Inv X aa Z H' s'/\Q b H'
def AP(X:Cx)(aa:List (ah×Obj))(Z:St)(Q:List V->Hp->Prop)(us:List aj)(s':aq):Prop:=∃vs H',Inv X aa Z H' s'/\Vals vs us/\Q vs H'
def SP(X:Cx)(aa:List (ah×Obj))(D:Ends)(f:Flow)(s':aq):Prop:=
 match f with
 |.next=>∃Z' H',Inv X aa Z' H' s'/\D.nx Z' H'
 |.brk=>∃Z' H',Inv X aa Z' H' s'/\D.bk Z' H'
 |.cont=>∃Z' H',Inv X aa Z' H' s'/\D.ct Z' H'
 |.ret u=>∃v Z' H',Inv X aa Z' H' s'/\RelV v u/\D.rt v H'
def PE(X:Cx)(e:Expr)(t:TE):Prop:=
 ∀(aa:List (ah×Obj)) (s:aq) (Z:St) (H:Hp) (Q:VK),Inv X aa Z H s->t Z H Q->wpAny (model X.prog X.w) X.A (eval e X.env) (EP X aa Z Q) X.xe s
def PT(X:Cx)(e:Expr)(t:TT):Prop:=
 ∀(aa:List (ah×Obj)) (s:aq) (Z:St) (H:Hp) (Q:Bool->Hp->Prop),Inv X aa Z H s->t Z H Q->wpAny (model X.prog X.w) X.A (isTrue e X.env (eval e X.env)) (TP X aa Z Q) X.xe s
def PW(X:Cx)(e:Expr)(t:TT):Prop:=
 ∀(whole:Sem aj) (aa:List (ah×Obj)) (s:aq) (Z:St) (H:Hp) (Q:Bool->Hp->Prop),Inv X aa Z H s->t Z H Q->wpAny (model X.prog X.w) X.A (isTrue e X.env whole) (TP X aa Z Q) X.xe s
def PW.pt{X:Cx}{e:Expr}{t:TT}(h:PW X e t):PT X e t:=h _
def PA(X:Cx)(es:List Expr)(t:TA):Prop:=
 ∀(pos:Pos) (aa:List (ah×Obj)) (s:aq) (Z:St) (H:Hp) (Q:List V->Hp->Prop),Inv X aa Z H s->t Z H Q->wpAny (model X.prog X.w) X.A (spliced (backTo pos (starEach es X.env))) (AP X aa Z Q) X.xe s
def PS(X:Cx)(st:Stmt)(t:TS):Prop:=
 ∀(aa:List (ah×Obj)) (s:aq) (Z:St) (H:Hp) (D:Ends),Inv X aa Z H s->t D Z H->wpAny (model X.prog X.w) X.A (exec st X.env) (SP X aa D) X.xe s
def iP(X:Cx)(st:List Stmt)(t:TS):Prop:=
 ∀(aa:List (ah×Obj)) (s:aq) (Z:St) (H:Hp) (D:Ends),Inv X aa Z H s->t D Z H->wpAny (model X.prog X.w) X.A (execs st X.env) (SP X aa D) X.xe s
def bA{α:Type}{t:Sem α}{Q Q':α->aq->Prop}{s:aq}(h:wpAny M A t Q E s)(hQ:∀a s,Q a s->Q' a s):wpAny M A t Q' E s:=wpAny_mono h hQ λ_ _ x=>x
section
variable{X:Cx}
def zW(i:Nat):TE:=λZ H Q=>∃v,Z[i]?=some (some v)/\Q v H
def tC(v:V):TE:=λ_ H Q=>Q v H
def PM{i:Nat}{x:Str}{pos:Pos}(hN:X.N[i]?=some x)(hv:EB X.env.scope x)(hd:(x == ("__debug__":Str))=false:=by decide)(qK:(x == ("__classdict__":Str))=false:=by decide):PE X (.Name x pos) (zW i):=by
 intro aa s Z H Q I h;obtain⟨v,e,h⟩:=h;obtain⟨m,hn,hl⟩:=I.loc;obtain⟨u,r,l⟩:=hl i x v hN e hv;have fin:EP X aa Z Q u s:=⟨v,H,I,r,h⟩;rcases l with⟨hk,hm⟩|⟨hk,c,hc,qc⟩
 .exact wpAny_Name (wpAny_loadName_local I.ok.kind hk hn hm fin) hd
 .rcases hk with hk|hk
  .exact wpAny_Name (wpAny_loadName_cell I.ok.kind hk hc qc fin) hd
  .exact wpAny_Name (wpAny_loadName_free I.ok.kind hk hc qc fin qK) hd
def μ{i j pos}:PE X (.Constant (.int i) j pos) (tC (.int i)):=λ_ _ _ H _ I h=>wpAny_Constant_int ⟨.int i,H,I.tok _,⟨_,rfl⟩,h⟩
def e5p{b j pos}:PE X (.Constant (.bool b) j pos) (tC (.bl b)):=λ_ _ _ H _ I h=>Constant_bool ⟨.bl b,H,I,rfl,h⟩
def ν{j pos}:PE X (.Constant .none j pos) (tC .aG):=λ_ _ _ H _ I h=>Constant_none ⟨.aG,H,I,rfl,h⟩
def ξ{x j pos}:PE X (.Constant (.str x) j pos) (tC (.str x)):=λ_ _ _ H _ I h=>Calls.Constant_str ⟨.str x,H,I.tok _,⟨_,rfl⟩,h⟩
def Gl(X:Cx)(x:Str):Prop:=X.env.kindOf x=some .globalImplicit
def AG{E:aj->aq->Prop}{aa:List (ah×Obj)}{s:aq}{Z:St}{H:Hp}{x:Str}{u:aj}{pos:Pos}{Q:aj->aq->Prop}(I:Inv X aa Z H s)(hg:Gl X x)(hm:X.mg x=some u)(h:Q u s)
  (hd:(x == ("__debug__":Str))=false:=by decide):wpAny (model X.prog X.w) X.A (eval (.Name x pos) X.env) Q E s:=
 Calls.Name_function_global I.ok.kind hg (Calls.loadGlobal_global (by rw[I.ok.glob];exact I.mod.glob.keeps I.bk) hm h) hd
def wo{E:aj->aq->Prop}{aa:List (ah×Obj)}{s:aq}{Z:St}{H:Hp}{x:Str}{u:aj}{pos:Pos}{Q:aj->aq->Prop}(I:Inv X aa Z H s)(hg:Gl X x)(hm:X.mg x=none)(hv:bootBuiltins x=some u)(h:Q u s)
  (hn:x≠"__name__":=by decide) (hd:(x == ("__debug__":Str))=false:=by decide):wpAny (model X.prog X.w) X.A (eval (.Name x pos) X.env) Q E s:=by
 obtain⟨mb,h1,h2⟩:=I.mod.blt;exact Calls.Name_function_global I.ok.kind hg (Calls.loadGlobal_builtin (by rw[I.ok.glob];exact I.mod.glob.keeps I.bk) hm (by rw[I.ok.blt];exact h1.keeps I.bk) ((h2 x hn).trans hv) h) hd
def XI{x:Str}{v:V}{u:aj}{pos:Pos}(hg:Gl X x)(hm:X.mg x=none)(hv:bootBuiltins x=some u)(r:RelV v u)(hn:x≠"__name__":=by decide)(hd:(x == ("__debug__":Str))=false:=by decide):PE X (.Name x pos) (tC v):=
 λ_ _ _ H _ I h=>wo I hg hm hv ⟨v,H,I,r,h⟩ hn hd
variable{a b:Expr}{ta tb:TE}{pos:Pos}
def tB(t:TE):TT:=λZ H Q=>t Z H λx H1=>∃c,x=.bl c/\Q c H1
variable{tA G5:TT}{rest:List Expr}
def LD(t u:TT):TT:=λZ H Q=>t Z H λc H1=>if c=true then u Z H1 Q else Q false H1
def tOr(t u:TT):TT:=λZ H Q=>t Z H λc H1=>if c=true then Q true H1 else u Z H1 Q
def LK(t:TT):TT:=λZ H Q=>t Z H λc H1=>Q (!c) H1
def XJ(ha:PT X a tA):PW X (.BoolOp .And [a] pos) tA:=by
 intro wh aa s Z H Q I h;refine isTrue_and (bA (ha aa s Z H Q I h) λc s1 e=>?_)
 cases c with
 |true=>exact isTrue_and_nil e
 |false=>exact e
def ο(ha:PT X a tA):PW X (.BoolOp .Or [a] pos) tA:=by
 intro wh aa s Z H Q I h;refine isTrue_or (bA (ha aa s Z H Q I h) λc s1 e=>?_)
 cases c with
 |false=>exact isTrue_or_nil e
 |true=>exact e
def π(ha:PT X a tA)(hb:PW X (.BoolOp .And (b::rest) pos) G5):PW X (.BoolOp .And (a::b::rest) pos) (LD tA G5):=by
 intro wh aa s Z H Q I h;refine isTrue_and (bA (ha aa s Z H _ I h) λc s1 hh=>?_)
 obtain⟨H1,I1,q1⟩:=hh;cases c with
 |true=>exact hb wh aa s1 Z H1 Q I1 q1
 |false=>exact⟨H1,I1,q1⟩
def e5q(ha:PT X a tA)(hb:PW X (.BoolOp .Or (b::rest) pos) G5):PW X (.BoolOp .Or (a::b::rest) pos) (tOr tA G5):=by
 intro wh aa s Z H Q I h;refine isTrue_or (bA (ha aa s Z H _ I h) λc s1 hh=>?_)
 obtain⟨H1,I1,q1⟩:=hh;cases c with
 |true=>exact⟨H1,I1,q1⟩
 |false=>exact hb wh aa s1 Z H1 Q I1 q1
def ρ(ha:PT X a tA):PT X (.UnaryOp .Not a pos) (LK tA):=by
 intro aa s Z H Q I h;exact isTrue_not (ha aa s Z H (λc H1=>Q (!c) H1) I h)
def D0(ta tb:TE):TE:=λZ H Q=>ta Z H λx H1=>∃c,x=.bl c/\if c=true then tb Z H1 Q else Q (.bl false) H1
def LL(ta tb:TE):TE:=λZ H Q=>ta Z H λx H1=>∃c,x=.bl c/\if c=true then Q (.bl true) H1 else tb Z H1 Q
def zH{op}{t:TE}(h:PE X a t):PE X (.BoolOp op [a] pos) t:=λaa s Z H Q I hw=>BoolOp_one (h aa s Z H Q I hw)
def σ(ha:PE X a ta)(hb:PE X (.BoolOp .And (b::rest) pos) tb):PE X (.BoolOp .And (a::b::rest) pos) (D0 ta tb):=by
 intro aa s Z H Q I h;refine BoolOp_and (bA (ha aa s Z H _ I h) λv s1 hh=>?_)
 obtain⟨x,H1,I1,r1,q1⟩:=hh;obtain⟨c,rfl,q1⟩:=q1;cases r1;refine wpAny_truthy_bool ?_;cases c with
 |true=>exact hb aa s1 Z H1 Q I1 q1
 |false=>exact⟨.bl false,H1,I1,rfl,q1⟩
def e5r(ha:PE X a ta)(hb:PE X (.BoolOp .Or (b::rest) pos) tb):PE X (.BoolOp .Or (a::b::rest) pos) (LL ta tb):=by
 intro aa s Z H Q I h;refine BoolOp_or (bA (ha aa s Z H _ I h) λv s1 hh=>?_)
 obtain⟨x,H1,I1,r1,q1⟩:=hh;obtain⟨c,rfl,q1⟩:=q1;cases r1;refine wpAny_truthy_bool ?_;cases c with
 |false=>exact hb aa s1 Z H1 Q I1 q1
 |true=>exact⟨.bl true,H1,I1,rfl,q1⟩
def tIf(t:TT)(ta tb:TE):TE:=λZ H Q=>t Z H λc H1=>if c=true then ta Z H1 Q else tb Z H1 Q
def Vp{c:Expr}(hc:PT X c tA)(ha:PE X a ta)(hb:PE X b tb):PE X (.IfExp c a b pos) (tIf tA ta tb):=by
 intro aa s Z H Q I h;refine wpAny_IfExp (bA (hc aa s Z H _ I h) λd s1 hh=>?_)
 obtain⟨H1,I1,q1⟩:=hh;cases d with
 |true=>exact ha aa s1 Z H1 Q I1 q1
 |false=>exact hb aa s1 Z H1 Q I1 q1
end
variable{x:Str}{u:aj}{aa:List (ah×Obj)}{Z:St}{H:Hp}{s:aq}{c i e o tg:Expr}{tc:TT}{es:List Expr}{to ti te:TE}{P:cS}{w:cg}{K:PySem.W.Frag}
def cz(K:PySem.W.Frag)(H:Hp)(a:ah)(xs:List V):Prop:=
 Rd H a (.lst xs)\/
  ∃(o:Obj) (aA:Array aj) (n:Nat),K.lookup a=some o/\o.cls=.type "list"/\o.dict=none/\o.data=.seq aA n/\aA.size<=sizeLine/\Vals xs aA.toList
def gu(K:PySem.W.Frag)(H:Hp)(a:ah)(xs:List V):Prop:=
 Rd H a (.tup xs)\/
  ∃(o:Obj) (aA:Array aj) (n:Nat),K.lookup a=some o/\o.cls=.type "tuple"/\o.data=.seq aA n/\aA.size<=sizeLine/\Vals xs aA.toList
noncomputable def IA:aj->ak V
 |.none=>some .aG
 |.bool b=>some (.bl b)
 |.int i _=>some (.int i)
 |.str x _=>some (.str x)
 |.bytes b _=>some (.wx b)
 |.float b _=>some (.wN b)
 |.ref a=>some (.ref a)
 |.type n=>some (.ty n)
 |_=>none
def RelV.abs{x:V}(r:RelV x u):IA u=some x:=by
 cases x with
 |aG=>cases r;rfl
 |bl _=>cases r;rfl
 |int _=>obtain⟨t,rfl⟩:=r;rfl
 |str _=>obtain⟨t,rfl⟩:=r;rfl
 |wx _=>obtain⟨t,rfl⟩:=r;rfl
 |wN _=>obtain⟨t,rfl⟩:=r;rfl
 |ref _=>cases r;rfl
 |ty _=>cases r;rfl
theorem RelV.inj{x y:V}{u:aj}(r:RelV x u)(q:RelV y u):x=y:=Option.some.inj (r.abs.symm.trans q.abs)
theorem Vals.inj{xs ys:List V}{us:List aj}(h:Vals xs us)(h':Vals ys us):xs=ys:=by
 induction h generalizing ys with
 |nil=>cases h';rfl
 |cons r t ih=>
  cases h' with
  |cons r' t'=>rw[r.inj r',ih t']
section
variable{X:Cx}{aa:List (ah×Obj)}{Z:St}{H:Hp}{s:aq}{a:ah}{xs ys:List V}
def Inv.list(I:Inv X aa Z H s)(h:cz X.K H a xs):∃aA:List aj,Vals xs aA/\PlainL s.heap a aA.toArray/\xs.length<=sizeLine:=by
 rcases h with h|⟨o,aA,n,hk,hc,hd,hs,hz,r⟩
 .obtain⟨z,aA,n,r,e⟩:=h.ok I.bj;exact⟨aA,r,⟨_,n,e,rfl,rfl,rfl⟩,z⟩
 .refine⟨aA.toList,r,⟨o,n,I.jN a o hk,hc,hd,by simpa using hs⟩,?_⟩
  have e:=r.length
  simp_all
def Inv.tuple(I:Inv X aa Z H s)(h:gu X.K H a xs):∃aA:List aj,Vals xs aA/\IsTup s.heap a aA.toArray/\xs.length<=sizeLine:=by
 rcases h with h|⟨o,aA,n,hk,hc,hs,hz,r⟩
 .obtain⟨z,aA,r,p⟩:=h.ok I.bj;exact⟨aA,r,p,z⟩
 .refine⟨aA.toList,r,⟨o,I.jN a o hk,hc,n,by simpa using hs⟩,?_⟩
  have e:=r.length;simp only[He] at e;lia
def Inv.kE(I:Inv X aa Z H s)(h:cz X.K H a xs)(h':cz X.K H a ys):xs=ys:=by
 obtain⟨aA,r,⟨o,n,e,_,_,d⟩,_⟩:=I.list h;obtain⟨its',r',⟨o',n',e',_,_,d'⟩,_⟩:=I.list h';rw[e] at e';cases e';rw[d] at d';injection d' with d1 _;have:aA=its':=by simpa using congrArg Array.toList d1
 subst this;exact r.inj r'
def Inv.lY(I:Inv X aa Z H s)(h:gu X.K H a xs)(h':gu X.K H a ys):xs=ys:=by
 obtain⟨aA,r,⟨o,e,_,n,d⟩,_⟩:=I.tuple h;obtain⟨its',r',⟨o',e',_,n',d'⟩,_⟩:=I.tuple h';rw[e] at e';cases e';rw[d] at d';injection d' with d1 _;have:aA=its':=by simpa using congrArg Array.toList d1
 subst this;exact r.inj r'
end
section
variable{X:Cx}{aa:List (ah×Obj)}{Z:St}{H:Hp}{s:aq}{E:aj->aq->Prop}
end
section
variable{X:Cx}{st:Stmt}{rest:List Stmt}{t u:TS}{e:Expr}{te:TE}{pos:Pos}
def D9:TS:=λD Z H=>D.nx Z H
def LN(t u:TS):TS:=λD Z H=>t { D with nx:=u D} Z H
def qh:iP X [] D9:=λ_ _ Z H _ I h=>wpAny_execs_nil ⟨Z,H,I,h⟩
def Vq(h1:PS X st t)(h2:iP X rest u):iP X (st::rest) (LN t u):=by
 intro aa s Z H D I h;refine wpAny_execs_cons (bA (h1 aa s Z H { D with nx:=u D} I h) λf s1 q=>?_)
 cases f with
 |next=>
  obtain⟨Z',H',I',q⟩:=q;exact h2 aa s1 Z' H' D I' q
 |ret v=>exact q
 |brk=>exact q
 |cont=>exact q
def Inv.quiet(I:Inv X aa Z H s):interactive X.env=false:=by simp[interactive,I.ok.kind]
def D8(te:TE):TS:=λD Z H=>te Z H λ_ H1=>D.nx Z H1
def XM(he:PE X e te)(hs:swapsWith e none pos.line X.env=pure false:=by rfl):PS X (.Expr e pos) (D8 te):=by
 intro aa s Z H D I h;exact wpAny_Expr_any (bA (he aa s Z H _ I h) λv s1 ⟨x,H1,I1,r1,q1⟩=>⟨Z,H1,I1,q1⟩) I.quiet hs
def LM(te:TE):TS:=λD Z H=>te Z H D.rt
def υ(he:PE X e te):PS X (.Return (some e) pos) (LM te):=by
 intro aa s Z H D I h;exact wpAny_Return_some (bA (he aa s Z H _ I h) λv s1 ⟨x,H1,I1,r1,q1⟩=>⟨x,Z,H1,I1,r1,q1⟩)
def LI(c:TT)(t u:TS):TS:=λD Z H=>c Z H λb H1=>if b=true then t D Z H1 else u D Z H1
def e5s{a b:List Stmt}(hc:PT X c tc)(ha:iP X a t)(hb:iP X b u):PS X (.If c a b pos) (LI tc t u):=by
 intro aa s Z H D I h;refine wpAny_If (bA (hc aa s Z H _ I h) λd s1 hh=>?_)
 obtain⟨H1,I1,q1⟩:=hh;cases d with
 |true=>exact ha aa s1 Z H1 D I1 q1
 |false=>exact hb aa s1 Z H1 D I1 q1
end
abbrev TG:=V->St->Hp->(St->Hp->Prop)->Prop
abbrev uc:=List V->St->Hp->(St->Hp->Prop)->Prop
def PG(X:Cx)(target:Expr)(t:TG):Prop:=
 ∀(aa:List (ah×Obj)) (s:aq) (Z:St) (H:Hp) (v:V) (u:aj) (Q:St->Hp->Prop),Inv X aa Z H s->RelV v u->t v Z H Q->
  wpAny (model X.prog X.w) X.A (assign target X.env u) (λ_ s'=>∃Z' H',Inv X aa Z' H' s'/\Q Z' H') X.xe s
def BF(X:Cx)(ts:List Expr)(t:uc):Prop:=
 ∀(aa:List (ah×Obj)) (s:aq) (Z:St) (H:Hp) (vs:List V) (us:List aj) (Q:St->Hp->Prop),Inv X aa Z H s->Vals vs us->t vs Z H Q->
  wpAny (model X.prog X.w) X.A (assignInOrder ((assignEach ts X.env).map (·.2)) us) (λ_ s'=>∃Z' H',Inv X aa Z' H' s'/\Q Z' H') X.xe s
abbrev qD:=V->V->V->Hp->(Hp->Prop)->Prop
def uK(X:Cx)(t:qD):Prop:=
 ∀(aa:List (ah×Obj)) (s:aq) (Z:St) (H:Hp) (o i v:V) (ov iv u:aj) (Q:Hp->Prop),Inv X aa Z H s->RelV o ov->RelV i iv->RelV v u->t o i v H Q->
  wpAny (model X.prog X.w) X.A (setItem ov iv u) (λ_ s'=>∃H',Inv X aa Z H' s'/\Q H') X.xe s
abbrev Ez:=V->V->Hp->VK->Prop
def Ew(X:Cx)(op:Operator)(t:Ez):Prop:=
 ∀(aa:List (ah×Obj)) (s:aq) (Z:St) (H:Hp) (x y:V) (v u:aj) (Q:VK),Inv X aa Z H s->RelV x v->RelV y u->t x y H Q->
  wpAny (model X.prog X.w) X.A (inplaceOp op v u) (EP X aa Z Q) X.xe s
section
variable{X:Cx}{pos:Pos}
def qa(i:Nat):TG:=λv Z H Q=>Q (Z.set i (some v)) H
def XN{i:Nat}(hN:X.N.Nodup)(hi:X.N[i]?=some x)(hx:Loc X.env.scope x)(hf:X.fn x=true\/X.env.scope.names.lookup x=some .local := by first|exact .inl rfl|exact .inr rfl|assumption):PG X (.Name x pos) (qa i):=by
 intro aa s Z H v u Q I r h;exact wpAny_assign_Name (NW I hN hi hx r (λs' I'=>⟨_,H,I',h⟩) hf)
def CT:uc:=λvs Z H Q=>vs=[]/\Q Z H
def wO(t:TG)(u:uc):uc:=λvs Z H Q=>∃v r,vs=v::r/\t v Z H λZ' H'=>u r Z' H' Q
def vE:BF X [] CT:=by
 intro aa s Z H vs us Q I r h;obtain⟨e,h⟩:=h;subst e;cases r;exact assignInOrder_nil ⟨Z,H,I,h⟩
def tI{t:TG}{u:uc}(h1:PG X e t)(h2:BF X es u)
  (hs:(assignEach (e::es) X.env).map (·.2)=assign e X.env::(assignEach es X.env).map (·.2):=by rfl):BF X (e::es) (wO t u):=by
 intro aa s Z H vs us Q I r h;obtain⟨v,vr,e1,h⟩:=h;subst e1;cases r with
 |cons r rr=>
  rw[hs];refine assignInOrder_cons (bA (h1 aa s Z H _ _ _ I r h) λ_ s1 hh=>?_)
  obtain⟨Z1,H1,I1,q1⟩:=hh;exact h2 aa s1 Z1 H1 _ _ Q I1 rr q1
def yZ(K:PySem.W.Frag)(n:Nat)(t:uc):TG:=λv Z H Q=>∃a xs,v=.ref a/\gu K H a xs/\xs.length=n/\t xs Z H Q
def χ{k:Nat}{t:uc}{n:Nat}(hc:X.calm=true)(h:BF X es t)
  (hn:(assignEach es X.env).length=n:=by rfl) (k9:(assignEach es X.env).findIdx? (·.1)=none:=by rfl):PG X (.Tuple es k pos) (yZ X.K n t):=by
 intro aa s Z H v u Q I r hw;obtain⟨a,xs,e1,hq,hl,hw⟩:=hw;subst e1;cases r;obtain⟨aA,rv,ht,hz⟩:=I.tuple hq;refine assign_Tuple_tuple (I.ok.hd hc) ht (by simp[hn,<-hl,rv.length]) k9 λh' hx=>?_
 have I1:Inv X aa Z H { s with heap:=h'}:=I.kept (t':=s.toks) λb o e=>hx b o (gm (cC e)) e
 exact h aa _ Z H xs _ Q I1 (by simpa using rv) hw
def J6(to ti:TE)(t:qD):TG:=λv Z H Q=>to Z H λo H1=>ti Z H1 λi H2=>t o i v H2 λH3=>Q Z H3
def ψ{t:qD}(ho:PE X o to)(hi:PE X i ti)(hs:uK X t)
  (ha:∀v,assign (.Subscript o i pos) X.env v=(do
   let ov <-holding [v] (eval o X.env)
   let iv <-holding [v,ov] (eval i X.env)
   standAt pos
   holding [v,ov,iv] (setItem ov iv v)
   release [v,ov,iv] []):=by intro _;rfl):PG X (.Subscript o i pos) (J6 to ti t):=by
 intro aa s Z H v u Q I r h;rw[ha];refine ax (kP (bA (ho aa s Z H _ I h) λov s1 hh=>?_))
 obtain⟨x,H1,I1,r1,q1⟩:=hh;refine ax (kP (bA (hi aa s1 Z H1 _ I1 q1) λiv s2 hh=>?_))
 obtain⟨y,H2,I2,r2,q2⟩:=hh;refine ax (wpAny_standAt (ax (kP (bA (hs aa s2 Z H2 x y v ov iv u _ I2 r1 r2 r q2) λ_ s3 hh=>?_))))
 obtain⟨H3,I3,q3⟩:=hh;exact wpAny_release ⟨Z,H3,I3,q3⟩
def D5(te:TE)(g:TG):TS:=λD Z H=>te Z H λx H1=>g x Z H1 D.nx
def ω{g:TG}(he:PE X e te)(hg:PG X tg g)(hs:swapsWithSole [tg] e pos.line X.env=pure false:=by rfl)(hw:swappedStores [tg] e X.env=pure none:=by rfl)
  (h1:(assignEach [tg] X.env).map (·.2)=[assign tg X.env]:=by rfl):PS X (.Assign [tg] e pos) (D5 te g):=by
 intro aa s Z H D I h;refine wpAny_Assign_stores (bA (he aa s Z H _ I h) λv s1 hh=>?_) hs hw
 obtain⟨x,H1,I1,r1,q1⟩:=hh;rw[h1];exact bA (hg aa s1 Z H1 x v _ I1 r1 q1) λ_ s2 q=>q
def d9t{i:Nat}{pos':Pos}(hN:X.N.Nodup)(hi:X.N[i]?=some x)(hx:Loc X.env.scope x)(he:PE X e te)(hs:swapsWith e (some (.Name x pos')) pos.line X.env=pure false:=by rfl)(hf:X.fn x=true\/X.env.scope.names.lookup x=some .local := by first|exact .inl rfl|exact .inr rfl|assumption):
  PS X (.Assign [.Name x pos'] e pos) (D5 te (qa i)):=by
 intro aa s Z H D I h;refine wpAny_Assign_Name (bA (he aa s Z H _ I h) λv s1 hh=>?_) hs
 obtain⟨y,H1,I1,r1,q1⟩:=hh;exact NW I1 hN hi hx r1 (λs2 I2=>⟨_,H1,I2,q1⟩) hf
def D6(to ti te:TE)(vM:V->V->Hp->VK->Prop)(G7:Ez)(vQ:qD):TS:=λD Z H=>to Z H λo H1=>ti Z H1 λi H2=>vM o i H2 λx H3=>te Z H3 λy H4=>G7 x y H4 λz H5=>vQ o i z H5 λH6=>D.nx Z H6
def BE(X:Cx)(t:V->V->Hp->VK->Prop):Prop:=
 ∀(aa:List (ah×Obj)) (s:aq) (Z:St) (H:Hp) (o i:V) (ov iv:aj) (Q:VK),Inv X aa Z H s->RelV o ov->RelV i iv->t o i H Q->
  wpAny (model X.prog X.w) X.A (getItem ov iv) (EP X aa Z Q) X.xe s
def XO{vM:V->V->Hp->VK->Prop}{G7:Ez}{vQ:qD}{op:Operator}{eW:Pos}(ho:PE X o to)(hi:PE X i ti)(hg:BE X vM)(he:PE X e te)(hp:Ew X op G7)(hs:uK X vQ)
  (ha:∀ov iv new,augStore i ov iv new=(do holding [new,ov,iv] (setItem ov iv new);release [new,ov,iv] [];pure .next):=by intros;rfl):PS X (.AugAssign (.Subscript o i eW) op e pos) (D6 to ti te vM G7 vQ):=by
 intro aa s Z H D I h;refine wpAny_AugAssign_SubscriptAny (bA (ho aa s Z H _ I h) λov s1 hh=>?_) ha
 obtain⟨x1,H1,I1,r1,q1⟩:=hh;refine bA (hi aa s1 Z H1 _ I1 q1) λiv s2 hh=>?_
 obtain⟨x2,H2,I2,r2,q2⟩:=hh;refine bA (hg aa s2 Z H2 x1 x2 ov iv _ I2 r1 r2 q2) λold s3 hh=>?_
 obtain⟨x3,H3,I3,r3,q3⟩:=hh;refine bA (he aa s3 Z H3 _ I3 q3) λv s4 hh=>?_
 obtain⟨x4,H4,I4,r4,q4⟩:=hh;refine bA (hp aa s4 Z H4 x3 x4 old v _ I4 r3 r4 q4) λnew s5 hh=>?_
 obtain⟨x5,H5,I5,r5,q5⟩:=hh;exact bA (hs aa s5 Z H5 x1 x2 x5 ov iv new _ I5 r1 r2 r5 q5) λ_ s6 ⟨H6,I6,q6⟩=>⟨Z,H6,I6,q6⟩
def KD(f:Int->Int->Int):Ez:=λx y H Q=>∃i j,x=.int i/\y=.int j/\Q (.int (f i j)) H
def zp:Ew X .Add (KD λi j=>i+j):=by
 intro aa s Z H x y v u Q I r1 r2 h;obtain⟨i,j,e1,e2,q⟩:=h;subst e1;subst e2;obtain⟨t,rfl⟩:=r1;obtain⟨t',rfl⟩:=r2;exact iadd_int ⟨.int _,H,I.tok _,⟨_,rfl⟩,q⟩
end
section
variable{X:Cx}{pos:Pos}
def d9u(c:TT)(tb:TS):TS:=λD Z H=>∃W:Nat->St->Hp->Prop,(∃m,W m Z H)/\∀m Z H,W m Z H->
 c Z H λb H1=>if b=true then ∃N:St->Hp->Prop,(∀Z' H',N Z' H'->∃m',m'<m/\W m' Z' H')/\tb { D with nx:=N,ct:=N,bk:=D.nx} Z H1 else D.nx Z H1
def Vr{body:List Stmt}{tb:TS}(hp:PassesOwn (model X.prog X.w) X.A X.env X.xe)(hc:PT X c tc)(hb:iP X body tb):PS X (.While c body [] pos) (d9u tc tb):=by
 intro aa s Z H D I h;obtain⟨W,⟨m0,w0⟩,turn⟩:=h;refine wpAny_While (codeAny_whileLoop (λn s'=>∃Z' H',Inv X aa Z' H' s'/\W n Z' H') ?_ m0 ⟨Z,H,I,w0⟩)
 rintro n s1 ⟨Z1,H1,I1,w1⟩;refine wpAny_passesOwn hp (bA (hc aa s1 Z1 H1 _ I1 (turn n Z1 H1 w1)) λb s2 hh=>?_)
 obtain⟨H2,I2,q2⟩:=hh;cases b with
 |true=>
  obtain⟨N,hN,q2⟩:=q2;rw[aP rfl];refine wpAny_passesOwn hp (bA (hb aa s2 Z1 H2 _ I2 q2) λf s3 q3=>?_)
  cases f with
  |next=>
   obtain⟨Z3,H3,I3,n3⟩:=q3;obtain⟨m',hm,w3⟩:=hN Z3 H3 n3;exact⟨m',hm,Z3,H3,I3,w3⟩
  |cont=>
   obtain⟨Z3,H3,I3,n3⟩:=q3;obtain⟨m',hm,w3⟩:=hN Z3 H3 n3;exact⟨m',hm,Z3,H3,I3,w3⟩
  |brk=>exact q3
  |ret v=>exact q3
 |false=>
  rw[aK oz];exact wpAny_execs_nil ⟨Z1,H2,I2,q2⟩
end
set_option genInjectivity false in
structure It where
 go:Nat->Hp->Prop
 t9:Nat->Hp->V->Hp->Prop
 stop:Nat->Hp->Prop
def iN(X:Cx)(aa:List (ah×Obj))(H:Hp)(b:ah):Prop:=
 H b=none/\b≠X.env.locals/\b∉X.fs/\(b∈X.ex\/X.s₀.heap.objs.size<=b)/\(∀x c,X.env.cells.lookup x=some c->c≠b)/\∀p∈X.pn++aa,p.1≠b
def Inv.k6{X:Cx}{H':Hp}{b:ah}(I:Inv X aa Z H s)(hb:s.heap.objs.size<=b)(hn:H' b=none):iN X aa H' b:=by
 refine⟨hn,xR (fI I.lt hb),I.zA hb,.inr (i4 I.sz hb),λx c e z=>?_,λp hp z=>?_⟩
 .obtain⟨v,q⟩:=I.cell x c e;exact bW (fI q.lt (by rw[z];exact hb)) (jE _)
 .exact bW (fI (cC (I.pin p hp).1) (by rw[z];exact hb)) (jE _)
structure Turn (P:cS) (w:cg) (K:PySem.W.Frag) (tg:Expr) (J:It) (fp:List ah) (it:ah) (tn:Nat->bM->Prop):Prop where
 mem:it∈fp
 obj:∀i h,tn i h->∀b∈fp,∃o,h.get? b=some o/\∀v,o.data≠.cell v
 keep:∀i h h',tn i h->(∀b∈fp,∀o,h.get? b=some o->h'.get? b=some o)->tn i h'
 item:∀(X:Cx),X.prog=P->X.w=w->X.K=K->X.calm=true->∀(i:Nat) (aa:List (ah×Obj)) (s:aq) (Z:St) (H:Hp) (E:aj->aq->Prop),Inv X aa Z H s->(∀b∈fp,iN X aa H b)->tn i s.heap->J.go i H->
  wpAny (model P w) X.A (pyNext (.ref it)) (λr s1=>∃u,r=some u/\ wpAny (model P w) X.A (letOwnedTupleGo tg (.ref it) u) (λ_ s2=>∃x H',Inv X aa Z H' s2/\RelV x u/\J.t9 i H x H'/\tn (i+1) s2.heap/\∀b∈fp,H' b=none) E s1) E s
 done:∀(X:Cx),X.prog=P->X.w=w->X.K=K->X.calm=true->∀(i:Nat) (aa:List (ah×Obj)) (s:aq) (Z:St) (H:Hp) (E:aj->aq->Prop),Inv X aa Z H s->(∀b∈fp,iN X aa H b)->tn i s.heap->J.stop i H->
  wpAny (model P w) X.A (pyNext (.ref it)) (λr s1=>r=none/\Inv X aa Z H s1) E s
 self:∀(A:cD) (i:Nat) (s:aq) (Q:aj->aq->Prop) (E:aj->aq->Prop),tn i s.heap->Q (.ref it) s->wpAny (model P w) A (pyIter (.ref it)) Q E s
abbrev TI:=St->Hp->(It->Hp->Prop)->Prop
def HH(X:Cx)(aa:List (ah×Obj))(Z:St)(tg:Expr)(R:It->Hp->Prop)(GV:aj)(s2:aq):Prop:=
 ∃(it:ah) (fp:List ah) (tn:Nat->bM->Prop) (J:It) (H':Hp),GV=.ref it/\Inv X aa Z H' s2/\Turn X.prog X.w X.K tg J fp it tn/\tn 0 s2.heap/\(∀b∈fp,iN X aa H' b)/\R J H'
def PI(X:Cx)(tg iter:Expr)(wi:TI):Prop:=
 ∀(aa:List (ah×Obj)) (s:aq) (Z:St) (H:Hp) (R:It->Hp->Prop),Inv X aa Z H s->wi Z H R->
  wpAny (model X.prog X.w) X.A (eval iter X.env) (λv s1=>wpAny (model X.prog X.w) X.A (pyIter v) (HH X aa Z tg R) X.xe s1) X.xe s
def yG{M:Model}{A:cD}{E:aj->aq->Prop}{it:ah}{o:Obj}{n:String}{vs:Array aj}{Q:Unit->aq->Prop}(ho:s.heap.get? it=some o)(hc:o.cls=.type n)(hd:o.data=.fields vs)
  (hn:["enumerate","zip","dict_itemiterator","dict_reverseitemiterator","odict_iterator","itertools.zip_longest","itertools.pairwise"].contains n=false) (hQ:Q () s):wpAny M A (letOwnedTupleGo tg (.ref it) u) Q E s:=by
 unfold letOwnedTupleGo;cases tg <;> first
  |exact aQ hQ
  |(cases u <;> first
    |exact aQ hQ
    |(refine ax (wpAny_load ho ?_)
      rw[hc,hd];show wpAny M A (if(["enumerate","zip","dict_itemiterator","dict_reverseitemiterator","odict_iterator","itertools.zip_longest","itertools.pairwise"].contains n&&vs[0]? == some (rawInt _))=true then _ else _) Q E s
      rw[aK (by intro h;rw[hn,Bool.false_and] at h;cases h)]
      exact aQ hQ))
def HC(K:PySem.W.Frag)(a:ah):It:=
 ⟨λi H=>∃xs x,cz K H a xs/\xs[i]?=some x,λi H x H'=>H'=H/\∀xs,cz K H a xs->xs[i]?=some x,λi H=>∃xs,cz K H a xs/\xs.length<=i⟩
def HD(K:PySem.W.Frag)(a:ah):It:=
 ⟨λi H=>∃xs x,gu K H a xs/\xs[i]?=some x,λi H x H'=>H'=H/\∀xs,gu K H a xs->xs[i]?=some x,λi H=>∃xs,gu K H a xs/\xs.length<=i⟩
def Et(lo:Int)(n:Nat):It:=⟨λi _=>i<n,λi H x H'=>H'=H/\x=.int (lo+i),λi _=>n<=i⟩
def T7(a it:ah):Turn P w K tg (HC K a) [it] it (λi h=>h.IsListIter it a i) where
 mem:=by simp
 obj:=λi h st b hb=>by
  have e:b=it:=by simpa using hb
  subst e;obtain⟨o,e,c,d⟩:=st;exact⟨o,e,λv z=>by rw[d] at z;cases z⟩
 keep:=λi h h' st k=>st.at λo e=>k it (by simp) o e
 item:=by
  intro X hP hw hK hc i aa s Z H E I hf st hg;subst hP hw hK;obtain⟨xs,x,hq,hx⟩:=hg;obtain⟨aA,rv,p,hz⟩:=I.list hq;obtain⟨u,hu,ru⟩:=rv.get hx;obtain⟨f0,f1,f2,f3,f4,f5⟩:=hf it (by simp)
  refine wpAny_pyNext_list_item st p.isList (x:=u) (by simpa using hu) λh' jP sb=>?_
  have I1:Inv X aa Z H { s with heap:=h'}:=I.turned (t':=s.toks) (λb o hb e=>(sb.2 b hb).trans e) f0 f1 f3 f4 f5
  obtain⟨o,e,c,d⟩:=id jP;exact⟨u,rfl,yG (s:={ s with heap:=h'}) e c d (by decide) ⟨x,H,I1,ru,⟨rfl,λys hy=>by rw[I.kE hy hq];exact hx⟩,jP,λb hb=>(hf b hb).1⟩⟩
 done:=by
  intro X hP hw hK hc i aa s Z H E I hf st hg;subst hP hw hK;obtain⟨xs,hq,hx⟩:=hg;obtain⟨aA,rv,p,hz⟩:=I.list hq;obtain⟨f0,f1,f2,f3,f4,f5⟩:=hf it (by simp)
  have hl:=rv.length;exact wpAny_pyNext_list_end (I.ok.hd hc) st p.isList (by simp;lia) λh' eb=>⟨rfl,I.turned (t':=s.toks) (λb o hb e=>eb b o hb e) f0 f1 f3 f4 f5⟩
 self:=λ_ _ _ _ _ st h=>wpAny_pyIter_listiter st h
def Tb(a it:ah):Turn P w K tg (HD K a) [it] it (λi h=>h.IsTupleIter it a i) where
 mem:=by simp
 obj:=λi h st b hb=>by
  have e:b=it:=by simpa using hb
  subst e;obtain⟨o,e,c,d⟩:=st;exact⟨o,e,λv z=>by rw[d] at z;cases z⟩
 keep:=λi h h' st k=>st.at λo e=>k it (by simp) o e
 item:=by
  intro X hP hw hK hc i aa s Z H E I hf st hg;subst hP hw hK;obtain⟨xs,x,hq,hx⟩:=hg;obtain⟨aA,rv,p,hz⟩:=I.tuple hq;obtain⟨u,hu,ru⟩:=rv.get hx;obtain⟨f0,f1,f2,f3,f4,f5⟩:=hf it (by simp)
  refine wpAny_pyNext_tuple_item st (show s.heap.IsTuple a aA.toArray from p) (x:=u) (by simpa using hu) λh' jP sb=>?_
  have I1:Inv X aa Z H { s with heap:=h'}:=I.turned (t':=s.toks) (λb o hb e=>(sb.2 b hb).trans e) f0 f1 f3 f4 f5
  obtain⟨o,e,c,d⟩:=id jP;exact⟨u,rfl,yG (s:={ s with heap:=h'}) e c d (by decide) ⟨x,H,I1,ru,⟨rfl,λys hy=>by rw[I.lY hy hq];exact hx⟩,jP,λb hb=>(hf b hb).1⟩⟩
 done:=by
  intro X hP hw hK hc i aa s Z H E I hf st hg;subst hP hw hK;obtain⟨xs,hq,hx⟩:=hg;obtain⟨aA,rv,p,hz⟩:=I.tuple hq;obtain⟨f0,f1,f2,f3,f4,f5⟩:=hf it (by simp)
  have hl:=rv.length;exact wpAny_pyNext_tuple_end (I.ok.hd hc) st (show s.heap.IsTuple a aA.toArray from p) (by simp;lia) λh' eb=>⟨rfl,I.turned (t':=s.toks) (λb o hb e=>eb b o hb e) f0 f1 f3 f4 f5⟩
 self:=λ_ _ _ _ _ st h=>wpAny_pyIter_tupleiter st h
def Tc(it:ah)(lo:Int)(n:Nat):Turn P w K tg (Et lo n) [it] it (λi h=>IsRangeIter h it (lo+(i:Nat)*1) ((n:Int) - (i:Nat)) 1) where
 mem:=by simp
 obj:=λi h st b hb=>by
  have e:b=it:=by simpa using hb
  subst e;exact⟨_,st,λv z=>by
   have z':Data.fields _=Data.cell v:=z;cases z'⟩
 keep:=λi h h' st k=>k it (by simp) _ st
 item:=by
  intro X hP hw hK hc i aa s Z H E I hf st hg;subst hP hw hK;obtain⟨f0,f1,f2,f3,f4,f5⟩:=hf it (by simp)
  have W:=Walks.range (prog:=X.prog) (w:=X.w) (I.ok.hd hc) it lo 1 n;refine W.item i s _ _ hg st λv h' tk hv jP kk=>?_
  obtain⟨t,rfl⟩:=hv;have I1:Inv X aa Z H { s with heap:=h',toks:=tk}:=I.turned (λb o hb e=>kk b o (by simpa using hb) e) f0 f1 f3 f4 f5
  refine⟨_,rfl,yG (s:={ s with heap:=h',toks:=tk}) (n:="range_iterator") jP rfl rfl (by decide) ⟨.int (lo+i),H,I1,⟨t,?_⟩,⟨rfl,rfl⟩,jP,λb hb=>(hf b hb).1⟩⟩
  rw[Int.mul_one]
 done:=by
  intro X hP hw hK hc i aa s Z H E I hf st hg;subst hP hw hK;obtain⟨f0,f1,f2,f3,f4,f5⟩:=hf it (by simp)
  exact wpAny_pyNext_range_end (I.ok.hd hc) st (by have:n<=i:=hg;lia) λh' eb=>⟨rfl,I.turned (t':=s.toks) (λb o hb e=>eb b o hb e) f0 f1 f3 f4 f5⟩
 self:=λ_ _ _ _ _ st h=>wpAny_pyIter_rangeiter st h
section
variable{X:Cx}{tg:Expr}
def w6(K:PySem.W.Frag)(tl:TE):TI:=λZ H R=>tl Z H λx H1=>∃a,x=.ref a/\(∃xs,cz K H1 a xs)/\R (HC K a) H1
def Dt(K:PySem.W.Frag)(tl:TE):TI:=λZ H R=>tl Z H λx H1=>∃a,x=.ref a/\(∃xs,gu K H1 a xs)/\R (HD K a) H1
def XQ{l:Expr}{tl:TE}(hl:PE X l tl):PI X tg l (w6 X.K tl):=by
 intro aa s Z H R I h;refine bA (hl aa s Z H _ I h) λv s1 hh=>?_
 obtain⟨x,H1,I1,r1,q1⟩:=hh;obtain⟨a,e,⟨xs,hq⟩,q⟩:=q1;subst e;cases r1;obtain⟨aA,rv,p,hz⟩:=I1.list hq;refine wpAny_pyIter_list p.isList ?_;refine⟨s1.heap.objs.size,[s1.heap.objs.size],_,_,H1,rfl,I1.kept (t':=s1.toks) λb o e=>cO _ e,T7 a _,⟨_,jr _ rfl,rfl,rfl⟩,λb hb=>?_,q⟩
 have e:b=s1.heap.objs.size:=by simpa using hb
 subst e;exact I1.k6 (bF _) (I1.bj.fresh (bF _))
def d9v{l:Expr}{tl:TE}(hl:PE X l tl):PI X tg l (Dt X.K tl):=by
 intro aa s Z H R I h;refine bA (hl aa s Z H _ I h) λv s1 hh=>?_
 obtain⟨x,H1,I1,r1,q1⟩:=hh;obtain⟨a,e,⟨xs,hq⟩,q⟩:=q1;subst e;cases r1;obtain⟨aA,rv,p,hz⟩:=I1.tuple hq;refine wpAny_pyIter_tuple (show s1.heap.IsTuple a aA.toArray from p) ?_;refine⟨s1.heap.objs.size,[s1.heap.objs.size],_,_,H1,rfl,I1.kept (t':=s1.toks) λb o e=>cO _ e,Tb a _,⟨_,jr _ rfl,rfl,rfl⟩,λb hb=>?_,q⟩
 have e:b=s1.heap.objs.size:=by simpa using hb
 subst e;exact I1.k6 (bF _) (I1.bj.fresh (bF _))
def Vs{aa:List (ah×Obj)}{Z:St}{H:Hp}{s:aq}{R:It->Hp->Prop}{E:aj->aq->Prop}{lo hi:Int}{t u v:Tok}{tk:Nat}(I:Inv X aa Z H s)(h1:-(2^62)<=lo)(h2:lo<2^62)(h3:-(2^62)<=hi)(h4:hi<2^62)
  (q:R (Et lo (hi - lo).toNat) H):wpAny (model X.prog X.w) X.A (pyIter (.ref s.heap.objs.size)) (HH X aa Z tg R) E { s with heap:=s.heap.push { cls:=.type "range",data:=.fields #[.int lo t,.int hi u,.int 1 v]},toks:=tk}:=by
 refine wpAny_pyIter_range (IsRange.new ..) (small_one h1 h2 h3 h4) ?_;have I1:Inv X aa Z H { s with heap:=s.heap.push { cls:=.type "range",data:=.fields #[.int lo t,.int hi u,.int 1 v]},toks:=tk}:=I.kept λb o e=>cO _ e
 refine⟨(s.heap.push { cls:=.type "range",data:=.fields #[.int lo t,.int hi u,.int 1 v]}).objs.size,[(s.heap.push { cls:=.type "range",data:=.fields #[.int lo t,.int hi u,.int 1 v]}).objs.size],_,_,H,rfl,I1.kept (t':=tk) λb o e=>cO _ e,Tc _ lo (hi - lo).toNat,?_,λb hb=>?_,q⟩
 .have e1:lo+((0:Nat):Int)*1=lo:=by simp
  have e2:(((hi - lo).toNat:Nat):Int) - ((0:Nat):Int)=Builtin.Range.rangeSize lo hi 1:=by rw[rangeSize_one];split <;> lia
  show IsRangeIter _ _ (lo+((0:Nat):Int)*1) ((((hi - lo).toNat:Nat):Int) - ((0:Nat):Int)) 1;rw[e1,e2];exact jr _ rfl
 .have e:b=(s.heap.push { cls:=.type "range",data:=.fields #[.int lo t,.int hi u,.int 1 v]}).objs.size:=by simpa using hb
  subst e;exact I1.k6 (bF _) (I1.bj.fresh (bF _))
def w9(ta:TA):TI:=λZ H R=>ta Z H λvs H1=>∃j:Int,vs=[.int j] /\ -(2^62)<=j/\j<2^62/\R (Et 0 j.toNat) H1
def T9{a:Expr}{ta:TA}{p pos:Pos}(hg:Gl X "range")(hm:X.mg "range"=none)(ha:PA X [a] ta)(hs:starEach [a] X.env=[(false,eval a X.env)]:=by rfl):PI X tg (.Call (.Name "range" p) [a] [] pos) (w9 ta):=by
 intro aa s Z H R I h;refine Call_ (wo I hg hm boot_range (PyProof.Rows.callWith_type1 (bA (ha pos aa s Z H _ I h) λus s1 hh=>?_) hs rfl))
 obtain⟨vs,H1,I1,r1,q1⟩:=hh;obtain⟨j,e,q1,q2,q⟩:=q1;subst e;cases r1 with
 |cons r rr=>
  cases rr;obtain⟨t,rfl⟩:=r;exact call_range_1 (Vs I1 (by lia) (by lia) q1 q2 (by simpa using q))
def LH(wi:TI)(g:TG)(tb:TS):TS:=λD Z H=>wi Z H λJ H1=>∃W:Nat->Nat->St->Hp->Prop,(∃m,W 0 m Z H1)/\∀i m Z H,W i m Z H->
 (J.stop i H/\D.nx Z H)\/(J.go i H/\∃N:St->Hp->Prop,(∀Z' H',N Z' H'->∃m',m'<m/\W (i+1) m' Z' H')/\∀x H',J.t9 i H x H'->g x Z H' λZ2 H2=>tb { D with nx:=N,ct:=N,bk:=D.nx} Z2 H2)
noncomputable def Co(fp:List ah)(h:bM):List (ah×Obj):=fp.filterMap λb=>(h.get? b).map λo=>(b,o)
def BR{fp:List ah}{h:bM}{b:ah}{o:Obj}(hb:b∈fp)(e:h.get? b=some o):(b,o)∈Co fp h:=mW.mpr ⟨b,hb,by rw[e];rfl⟩
def T_{fp:List ah}{h:bM}{p:ah×Obj}(hp:p∈Co fp h):p.1∈fp/\h.get? p.1=some p.2:=by
 obtain⟨b,hb,e⟩:=mW.mp hp;cases q:h.get? b with
 |none=>rw[q] at e;cases e
 |some o=>
  rw[q] at e;have e':(b,o)=p:=Option.some.inj e;subst e';exact⟨hb,q⟩
def Inv.pinned{aa:List (ah×Obj)}{Z:St}{H:Hp}{s:aq}{fp:List ah}(I:Inv X aa Z H s)(hf:∀b∈fp,iN X aa H b)(ho:∀b∈fp,∃o,s.heap.get? b=some o/\∀v,o.data≠.cell v):Inv X (aa++Co fp s.heap) Z H s:=
 I.jO λp hp=>(cG.mp hp).elim (λz=>I.pin p (oR _ z)) λz=>by
  obtain⟨hb,e⟩:=T_ z;obtain⟨f0,f1,f2,_⟩:=hf p.1 hb;obtain⟨o,e',d⟩:=ho p.1 hb;rw[e] at e';cases e';exact⟨e,f0,f1,f2,d⟩
def Inv.d_{aa pl:List (ah×Obj)}{Z:St}{H:Hp}{s:aq}(I:Inv X (aa++pl) Z H s):Inv X aa Z H s:=I.jO λp hp=>I.pin p (oR _ (Ek _ hp))
def PN{iter:Expr}{body:List Stmt}{wi:TI}{g:TG}{tb:TS}{pos:Pos}(hp:PassesOwn (model X.prog X.w) X.A X.env X.xe)(hc:X.calm=true)(hi:PI X tg iter wi)(hg:PG X tg g)(hb:iP X body tb)
  (hs:∀x,foldedSetIterable iter X.env x=pure x:=by intro _;rfl):PS X (.For tg iter body [] pos) (LH wi g tb):=by
 intro aa s Z H D I h;refine wpAny_For (bA (hi aa s Z H _ I h) λv s1 h1=>bA h1 λGV s2 h2=>?_) hs
 obtain⟨it,fp,tn,J,H2,e,I2,T,rq,f2,W,⟨m0,w0⟩,turn⟩:=h2;subst e;have pD:∀{H':Hp},(∀b∈fp,H' b=none)->∀b∈fp,iN X aa H' b:=λhn b hb=>⟨hn b hb,(f2 b hb).2⟩
 refine codeAny_forLoop_any (λn s'=>∃i Z' H',Inv X aa Z' H' s'/\tn i s'.heap/\(∀b∈fp,H' b=none)/\W i n Z' H') ?_ m0 ⟨0,Z,H2,I2,rq,λb hb=>(f2 b hb).1,w0⟩
 rintro n s3 ⟨i,Z3,H3,I3,RV,QZ,w3⟩;rcases turn i n Z3 H3 w3 with⟨stop,qn⟩|⟨go,N,hN,step⟩
 .refine wpAny_passesOwn hp (bA (T.done X rfl rfl rfl hc i aa s3 Z3 H3 X.xe I3 (pD QZ) RV stop) λr s4 ⟨hr,I4⟩=>?_)
  subst hr;exact wpAny_execs_nil ⟨Z3,H3,I4,qn⟩
 .refine wpAny_passesOwn hp (bA (T.item X rfl rfl rfl hc i aa s3 Z3 H3 X.xe I3 (pD QZ) RV go) λr s4 ⟨u,hr,h4⟩=>?_)
  subst hr;refine wpAny_passesOwn hp (bA h4 λ_ s5 hh=>?_)
  obtain⟨x,H5,I5,r5,y5,zU,J3⟩:=hh;have Hy:=I5.pinned (pD J3) (T.obj _ _ zU);refine wpAny_passesOwn hp (bA (hg _ s5 Z3 H5 x u _ Hy r5 (step x H5 y5)) λ_ s6 hh=>?_)
  obtain⟨Z6,H6,I6,q6⟩:=hh;refine wpAny_passesOwn hp (bA (hb _ s6 Z6 H6 _ I6 q6) λf s7 q7=>?_)
  have again:∀{Z7:St} {H7:Hp},Inv X (aa++Co fp s5.heap) Z7 H7 s7->N Z7 H7->∃m,m<n/\∃i Z' H',Inv X aa Z' H' s7/\tn i s7.heap/\(∀b∈fp,H' b=none)/\W i m Z' H':=λ{Z7 H7} I7 n7=>by
   obtain⟨m',hm,w7⟩:=hN Z7 H7 n7;refine⟨m',hm,i+1,Z7,H7,I7.d_,T.keep _ _ _ zU λb hb o e=>(I7.pin (b,o) (oR _ (oR _ (BR hb e)))).1,λb hb=>?_,w7⟩
   obtain⟨o,e,d⟩:=T.obj _ _ zU b hb;exact(I7.pin (b,o) (oR _ (oR _ (BR hb e)))).2.1
  cases f with
  |next=>obtain⟨Z7,H7,I7,n7⟩:=q7;exact again I7 n7
  |cont=>obtain⟨Z7,H7,I7,n7⟩:=q7;exact again I7 n7
  |brk=>obtain⟨Z7,H7,I7,q7⟩:=q7;exact⟨Z7,H7,I7.d_,q7⟩
  |ret v=>obtain⟨x7,Z7,H7,I7,r7,q7⟩:=q7;exact⟨x7,Z7,H7,I7.d_,r7,q7⟩
end
variable{aa:List (ah×Obj)}{s:aq}{Z:St}{H:Hp}{f:aj->aj->Sem aj}{op:CmpOp}{g:Int->Int->Int}{x:V}{us:List aj}
abbrev R2:=V->V->Hp->VK->Prop
variable{r r':R2}
def dm(X:Cx)(f:aj->aj->Sem aj)(r:R2):Prop:=
 ∀(aa:List (ah×Obj)) (s:aq) (Z:St) (H:Hp) (x y:V) (v u:aj) (Q:VK),Inv X aa Z H s->RelV x v->RelV y u->r x y H Q->
  wpAny (model X.prog X.w) X.A (f v u) (EP X aa Z Q) X.xe s
def EA(X:Cx)(f:aj->Sem aj)(r:V->Hp->VK->Prop):Prop:=
 ∀(aa:List (ah×Obj)) (s:aq) (Z:St) (H:Hp) (x:V) (v:aj) (Q:VK),Inv X aa Z H s->RelV x v->r x H Q->
  wpAny (model X.prog X.w) X.A (f v) (EP X aa Z Q) X.xe s
def bH(X:Cx)(f:aj)(r:List V->Hp->VK->Prop):Prop:=
 ∀(aa:List (ah×Obj)) (s:aq) (Z:St) (H:Hp) (xs:List V) (us:List aj) (Q:VK),Inv X aa Z H s->Vals xs us->r xs H Q->
  wpAny (model X.prog X.w) X.A (call f us) (EP X aa Z Q) X.xe s
def HI(X:Cx)(r:V->Hp->(Bool->Hp->Prop)->Prop):Prop:=
 ∀(aa:List (ah×Obj)) (s:aq) (Z:St) (H:Hp) (x:V) (v:aj) (Q:Bool->Hp->Prop),Inv X aa Z H s->RelV x v->r x H Q->
  wpAny (model X.prog X.w) X.A (truthy v) (TP X aa Z Q) X.xe s
def G6(r:R2)(ta tb:TE):TE:=λZ H Q=>ta Z H λx H1=>tb Z H1 λy H2=>r x y H2 Q
def tUn(r:V->Hp->VK->Prop)(ta:TE):TE:=λZ H Q=>ta Z H λx H1=>r x H1 Q
def rI(C:Int->Int->Prop)(g:Int->Int->V):R2:=λx y H Q=>∃i j,x=.int i/\y=.int j/\C i j/\Q (g i j) H
def qi(g:Int->Int->V):R2:=λx y H Q=>∃i j,x=.int i/\y=.int j/\Q (g i j) H
def rU(g:Int->V):V->Hp->VK->Prop:=λx H Q=>∃i,x=.int i/\Q (g i) H
section
variable{X:Cx}{a b c:Expr}{ta tb tc:TE}{pos:Pos}
def yH(ha:PE X a ta)(hb:PE X b tb){R:V->V->Hp->Prop}(I:Inv X aa Z H s)
  (h:ta Z H λx H1=>tb Z H1 λy H2=>R x y H2) {Q:aj->aq->Prop} 
  (hf:∀v u s2 x y H2,Inv X aa Z H2 s2->RelV x v->RelV y u->R x y H2->wpAny (model X.prog X.w) X.A (f v u) Q X.xe s2) :
  wpAny (model X.prog X.w) X.A (eval a X.env) (λv s₁=>wpAny (model X.prog X.w) X.A (eval b X.env) (λu s₂=>wpAny (model X.prog X.w) X.A (f v u) Q X.xe s₂) X.xe s₁) X.xe s:=by
 refine bA (ha aa s Z H _ I h) λv s1 hh=>?_
 obtain⟨x,H1,I1,r1,q1⟩:=hh;refine bA (hb aa s1 Z H1 _ I1 q1) λu s2 hh=>?_
 obtain⟨y,H2,I2,r2,q2⟩:=hh;exact hf v u s2 x y H2 I2 r1 r2 q2
def e5t{op:Operator}(ho:dm X (binaryOp op) r)(ha:PE X a ta)(hb:PE X b tb):PE X (.BinOp a op b pos) (G6 r ta tb):=by
 intro aa s Z H Q I h;exact wpAny_BinOp (yH ha hb I h λv u s2 x y H2 I2 rx ry q=>ho aa s2 Z H2 x y v u Q I2 rx ry q)
def e5u{op:UnaryOp}{r:V->Hp->VK->Prop}(ho:EA X (unaryOp op) r)(ha:PE X a ta):PE X (.UnaryOp op a pos) (tUn r ta):=by
 intro aa s Z H Q I h;exact UnaryOp_ (bA (ha aa s Z H _ I h) λv s1 ⟨x,H1,I1,r1,q1⟩=>ho aa s1 Z H1 x v Q I1 r1 q1)
def K9{C:Int->Int->Prop}
  (rule:∀(i j:Int) (t u:Tok) (s:aq) (Q:aj->aq->Prop) (E:aj->aq->Prop),C i j->Q (.int (g i j) s.toks) { s with toks:=s.toks+1}->wpAny (model X.prog X.w) X.A (f (.int i t) (.int j u)) Q E s) :
  dm X f (rI C λi j=>.int (g i j)):=by
 intro aa s Z H x y v u Q I rx ry h;obtain⟨i,j,rfl,rfl,hc,q⟩:=h;obtain⟨t,rfl⟩:=rx;obtain⟨t',rfl⟩:=ry;exact rule i j t t' s _ _ hc ⟨.int (g i j),H,I.tok _,⟨_,rfl⟩,q⟩
def DH
  (rule:∀(i j:Int) (t u:Tok) (s:aq) (Q:aj->aq->Prop) (E:aj->aq->Prop),Q (.int (g i j) s.toks) { s with toks:=s.toks+1}->wpAny (model X.prog X.w) X.A (f (.int i t) (.int j u)) Q E s) :
  dm X f (qi λi j=>.int (g i j)):=by
 intro aa s Z H x y v u Q I rx ry h;obtain⟨i,j,rfl,rfl,q⟩:=h;obtain⟨t,rfl⟩:=rx;obtain⟨t',rfl⟩:=ry;exact rule i j t t' s _ _ ⟨.int (g i j),H,I.tok _,⟨_,rfl⟩,q⟩
def zC{g:Int->Int->Bool}
  (rule:∀(i j:Int) (t u:Tok) (s:aq) (Q:aj->aq->Prop) (E:aj->aq->Prop),Q (.bool (g i j)) s->wpAny (model X.prog X.w) X.A (f (.int i t) (.int j u)) Q E s) :
  dm X f (qi λi j=>.bl (g i j)):=by
 intro aa s Z H x y v u Q I rx ry h;obtain⟨i,j,rfl,rfl,q⟩:=h;obtain⟨t,rfl⟩:=rx;obtain⟨t',rfl⟩:=ry;exact rule i j t t' s _ _ ⟨.bl (g i j),H,I,rfl,q⟩
def xZ(i j:Int):Prop:=0<j/\j<1073741824
def uE(i j:Int):Prop:=(-(2^64)<i/\i<2^64)\/(-(2^64)<j/\j<2^64)
def uE.ok{i j:Int}(h:uE i j):IntMulOk i j:=by
 rcases h with⟨h1,h2⟩|⟨h1,h2⟩
 .exact .of_left (intBits_le_64 h1 h2)
 .exact .of_right (intBits_le_64 h1 h2)
def zD:dm X (binaryOp .Add) (qi λi j=>.int (i+j)):=DH λ_ _ _ _ _ _ _ q=>add_int q
def d9w:dm X (binaryOp .Sub) (qi λi j=>.int (i - j)):=DH λ_ _ _ _ _ _ _ q=>sub_int q
def zF:dm X (binaryOp .Mult) (rI uE λi j=>.int (i*j)):=K9 λ_ _ _ _ _ _ _ hc q=>mul_int q hc.ok
def XR:dm X (binaryOp .FloorDiv) (rI xZ λi j=>.int (i / j)):=K9 λi j _ _ _ _ _ hc q=>by
 have h1:(0:Int)<j:=hc.1;have h2:j<1073741824:=hc.2;exact floordiv_int (by lia) (by rw[Int.fdiv_eq_ediv_of_nonneg i (by lia)];exact q) (.inl (PyProof.noPylong_small (by lia)))
def d9x:dm X (binaryOp .Mod) (rI (λ_ j=>0<j) λi j=>.int (i%j)):=K9 λi j _ _ _ _ _ hc q=>by
 have h1:(0:Int)<j:=hc;exact mod_int' (by lia) (by rw[Int.fmod_eq_emod_of_nonneg i (by lia)];exact q)
def unI{f:aj->Sem aj}{g:Int->Int}
  (rule:∀(i:Int) (t:Tok) (s:aq) (Q:aj->aq->Prop) (E:aj->aq->Prop),Q (.int (g i) s.toks) { s with toks:=s.toks+1}->wpAny (model X.prog X.w) X.A (f (.int i t)) Q E s) :
  EA X f (rU λi=>.int (g i)):=by
 intro aa s Z H x v Q I rx h;obtain⟨i,rfl,q⟩:=h;obtain⟨t,rfl⟩:=rx;exact rule i t s _ _ ⟨.int (g i),H,I.tok _,⟨_,rfl⟩,q⟩
def d9y:EA X (unaryOp .USub) (rU λi=>.int (-i)):=unI λ_ _ _ _ _ q=>neg_int q
end
section
variable{X:Cx}{a b c:Expr}{ta tb tc:TE}{pos:Pos}
def uU{Q:VK}{k k':Bool}(I:Inv X aa Z H s)(q:Q (.bl k) H)(e:k=k'):EP X aa Z Q (.bool k') s:=by
 subst e;exact⟨.bl k,H,I,rfl,q⟩
def xw:dm X (compareOp .Lt) (qi λi j=>.bl (decide (i<j))):=zC λ_ _ _ _ _ _ _ q=>lt_int q
def xu:dm X (compareOp .LtE) (qi λi j=>.bl (decide (i<=j))):=zC λ_ _ _ _ _ _ _ q=>le_int q
def e5v:dm X (compareOp .Gt) (qi λi j=>.bl (decide (j<i))):=zC λ_ _ _ _ _ _ _ q=>gt_int q
def Ua:dm X (compareOp .In) (λx y H Q=>∃i j,x=.str i/\y=.str j/\Q (.bl (!(Builtin.Str.occurrences j i 0 j.length 1).isEmpty)) H):=by
 intro aa s Z H x y v u Q I rx ry h;obtain⟨i,j,rfl,rfl,q⟩:=h;obtain⟨t,rfl⟩:=rx;obtain⟨t',rfl⟩:=ry;exact in_str (uU I q rfl)
def zE:dm X (compareOp .Is) (λx y H Q=>y=.aG/\Q (.bl (decide (x=.aG))) H):=by
 intro aa s Z H x y v u Q I rx ry h;obtain⟨rfl,q⟩:=h;cases ry;refine is_none_gen (uU I q ?_);cases x <;> first
  |(cases rx;rfl)
  |(obtain⟨t,rfl⟩:=rx;rfl)
def vB:dm X (compareOp .IsNot) (λx y H Q=>y=.aG/\Q (.bl (!decide (x=.aG))) H):=by
 intro aa s Z H x y v u Q I rx ry h;obtain⟨rfl,q⟩:=h;cases ry;refine isnot_none_gen (uU I q ?_);cases x <;> first
  |(cases rx;rfl)
  |(obtain⟨t,rfl⟩:=rx;rfl)
def Sy:dm X (compareOp .NotIn) (λx y H Q=>∃i j,x=.str i/\y=.str j/\Q (.bl (!(!(Builtin.Str.occurrences j i 0 j.length 1).isEmpty))) H):=by
 intro aa s Z H x y v u Q I rx ry h;obtain⟨i,j,rfl,rfl,q⟩:=h;obtain⟨t,rfl⟩:=rx;obtain⟨t',rfl⟩:=ry;exact notIn_str (uU I q rfl)
def dm.or(h:dm X f r)(h':dm X f r'):dm X f (λx y H Q=>r x y H Q\/r' x y H Q):=by
 intro aa s Z H x y v u Q I rx ry q;rcases q with q|q
 .exact h aa s Z H x y v u Q I rx ry q
 .exact h' aa s Z H x y v u Q I rx ry q
def XS(ho:dm X (compareOp op) r)(ha:PE X a ta)(hb:PE X b tb)(hm:behindInMarks op b=false):PE X (.Compare a [op] [b] pos) (G6 r ta tb):=by
 intro aa s Z H Q I h;exact wpAny_Compare1 (yH ha hb I h λv u s2 x y H2 I2 rx ry q=>ho aa s2 Z H2 x y v u Q I2 rx ry q) hm
def tU(t:TE):TT:=λZ H Q=>t Z H λx H'=>∃k,x=.bl k/\Q k H'
def XT(ho:dm X (compareOp op) r)(ha:PE X a ta)(hb:PE X b tb)(hm:behindInMarks op b=false):PT X (.Compare a [op] [b] pos) (tU (G6 r ta tb)):=by
 intro aa s Z H Q I h;refine wpAny_isTrue_Compare1 (bA (ha aa s Z H _ I h) λv s1 ⟨x,H1,I1,r1,q1⟩=>bA (hb aa s1 Z H1 _ I1 q1) λu s2 ⟨y,H2,I2,r2,q2⟩=> bA (ho aa s2 Z H2 x y v u _ I2 r1 r2 q2) λc s3 ⟨z,H3,I3,r3,k,e,q3⟩=>?_) hm
 subst e;cases r3;exact wpAny_truthy_bool ⟨H3,I3,q3⟩
def PQ(r r':R2)(ta tb tc:TE):TE:=λZ H Q=>ta Z H λx H1=>tb Z H1 λy H2=>r x y H2 λz H3=>∃k,z=.bl k/\
 (if k=true then tc Z H3 λw' H4=>r' y w' H4 Q else Q (.bl false) H3)
def Vt{zB:CmpOp}(ho:dm X (compareOp op) r)(wU:dm X (compareOp zB) r')(ha:PE X a ta)(hb:PE X b tb)(hc:PE X c tc)
  (hm:lastMarks [op,zB] [b,c]=false:=by with_unfolding_all rfl):PT X (.Compare a [op,zB] [b,c] pos) (tU (PQ r r' ta tb tc)):=by
 intro aa s Z H Q I h;refine isTrue_chain (bA (ha aa s Z H _ I h) λv s1 ⟨x,H1,I1,r1,q1⟩=>test_link (bA (hb aa s1 Z H1 _ I1 q1) λu s2 ⟨y,H2,I2,r2,q2⟩=> bA (ho aa s2 Z H2 x y v u _ I2 r1 r2 q2) λd s3 ⟨z,H3,I3,r3,k,e,q3⟩=>?_)) hm
 subst e;cases r3;refine wpAny_truthy_bool ?_;cases k with
 |false=>
  obtain⟨k',e',q'⟩:=q3;cases e';exact ite_ff ⟨H3,I3,q'⟩
 |true=>
  refine ite_tt (test_last (bA (hc aa s3 Z H3 _ I3 q3) λw' s4 ⟨z',H4,I4,r4,q4⟩=>bA (wU aa s4 Z H4 y z' u w' _ I4 r2 r4 q4) λd' s5 ⟨z2,H5,I5,r5,k2,e2,q5⟩=>?_))
  subst e2;cases r5;exact wpAny_truthy_bool ⟨H5,I5,q5⟩
def yf(K:PySem.W.Frag)(x:V)(H:Hp)(k:Bool):Prop:=
 match x with
 |.aG=>k=false
 |.bl b=>k=b
 |.int i=>k=(i != 0)
 |.str y=>y.length<=sizeLine/\k=((y.length:Int) != 0)
 |.wx y=>y.size<=sizeLine/\k=((y.size:Int) != 0)
 |.ref p=>(∃xs,cz K H p xs/\k = !xs.isEmpty)\/(∃xs,gu K H p xs/\k = !xs.isEmpty)\/∃kvs,H p=some (.dK kvs)/\k = !kvs.isEmpty
 |_=>False
def Td{κ:Type}{kvs:List (κ×V)}{vs:List (κ×aj)}(r:KV kvs vs):(!vs.isEmpty) = !kvs.isEmpty:=by
 cases r <;> rfl
def M4{xs:List V}{aA:List aj}(r:Vals xs aA):(!aA.toArray.isEmpty) = !xs.isEmpty:=by
 cases r <;> simp
def yA:(sizeLine:Nat)<2^63:=by rw[sizeLine_eq];decide
def d9z:HI X (λx H Q=>∃k,yf X.K x H k/\Q k H):=by
 intro aa s Z H x v Q I rx h;obtain⟨k,e,q⟩:=h;have hl:=yA;have hs:sizeLine=16777216:=sizeLine_eq;cases x with
 |aG=>
  cases rx;have e':k=false:=e;subst e';exact truthy_none ⟨H,I,q⟩
 |bl b=>
  cases rx;have e':k=b:=e;subst e';exact wpAny_truthy_bool ⟨H,I,q⟩
 |int i=>
  obtain⟨t,rfl⟩:=rx;have e':k=(i != 0):=e;subst e';exact PySem.P.truthy_int ⟨H,I,q⟩
 |str y=>
  obtain⟨t,rfl⟩:=rx;obtain⟨hy,e'⟩:y.length<=sizeLine/\k=((y.length:Int) != 0):=e;subst e';exact PySem.P.truthy_str (by lia) ⟨H,I.tok _,q⟩
 |wx y=>
  obtain⟨t,rfl⟩:=rx;obtain⟨hy,e'⟩:y.size<=sizeLine/\k=((y.size:Int) != 0):=e;subst e';exact PySem.W.truthy_bytes (by lia) ⟨H,I.tok _,q⟩
 |ref p=>
  cases rx;have e':(∃xs,cz X.K H p xs/\k = !xs.isEmpty)\/(∃xs,gu X.K H p xs/\k = !xs.isEmpty)\/∃kvs,H p=some (.dK kvs)/\k = !kvs.isEmpty:=e;rcases e' with⟨xs,hx,e'⟩|⟨xs,hx,e'⟩|⟨kvs,hx,e'⟩
  .subst e';obtain⟨aA,r,pl,hz⟩:=I.list hx;have hlen:=r.length;exact wpAny_truthy_list pl.isList (by simp only[cZ];lia) ⟨H,I.tok _,by rw[M4 r];exact q⟩
  .subst e';obtain⟨aA,r,pl,hz⟩:=I.tuple hx;have hlen:=r.length;exact truthy_tuple pl (by simp only[cZ];lia) ⟨H,I.tok _,by rw[M4 r];exact q⟩
  .subst e';obtain⟨hz,hS,vs,r,m⟩:kvs.length<=sizeLine/\(p == sysModules)=false/\∃vs,KV kvs vs/\s.heap.DictOf (IW X.prog X.w) p vs:=I.bj p _ hx;have hlen:kvs.length=vs.length:=Paired.length r;exact wpAny_truthy_dict hS m (by lia) ⟨H,I.tok _,by rw[Td r];exact q⟩
 |_=>exact(show False from e).elim
def Vu(ha:PE X a ta)(he:∀whole,isTrue a X.env whole=(do let v <-whole;standAt a.pos;holding [v] (truthy v))):
  PT X a (λZ H Q=>ta Z H λx H'=>∃k,yf X.K x H' k/\Q k H'):=by
 intro aa s Z H Q I h;exact isTrue_plain (bA (ha aa s Z H _ I h) λv s1 ⟨x,H1,I1,r1,q1⟩=>d9z aa s1 Z H1 x v Q I1 r1 q1) (he _)
def pB:dm X (binaryOp .Add) (λx y H Q=>∃i j,x=.str i/\y=.str j/\i.length+j.length<=sizeLine/\Q (.str (i++j)) H):=by
 intro aa s Z H x y v u Q I rx ry h;obtain⟨i,j,rfl,rfl,hz,q⟩:=h;obtain⟨t,rfl⟩:=rx;obtain⟨t',rfl⟩:=ry;exact add_str (λt' tk=>⟨.str (i++j),H,I.tok _,⟨_,rfl⟩,q⟩) hz
def vals1(r:Vals [x] us):∃u,us=[u]/\RelV x u:=by
 cases r with
 |cons r1 r2=>cases r2;exact⟨_,rfl,r1⟩
def vals2{y:V}(r:Vals [x,y] us):∃u w',us=[u,w']/\RelV x u/\RelV y w':=by
 cases r with
 |cons r1 r2=>
  cases r2 with
  |cons r3 r4=>cases r4;exact⟨_,_,rfl,r1,r3⟩
def Ub:bH X (.type "int") (λxs H Q=>(∃i,xs=[.int i]/\Q (.int i) H)\/∃k,xs=[.bl k]/\Q (.int (if k then 1 else 0)) H):=by
 intro aa s Z H xs us Q I r h;rcases h with⟨i,rfl,q⟩|⟨k,rfl,q⟩
 .obtain⟨u,rfl,t,rfl⟩:=vals1 r;exact call_int_int ⟨.int i,H,I,⟨_,rfl⟩,q⟩
 .obtain⟨u,rfl,r1⟩:=vals1 r;cases r1;exact call_int_bool ⟨.int (if k then 1 else 0),H,I.tok _,⟨_,rfl⟩,q⟩
end
variable{h:bM}{dx C:ah}{mA:Str->ak aj}{Q:aj->aq->Prop}{v:V}{o:ak aj}{u:aj}{K:PySem.W.Frag}{f:Str}
structure o5 (h:bM) (x dx C:ah) (mA:Str->ak aj):Prop where
 obj:h.get? x=some (PySem.W.instObj C dx)
 ns:h.Ns1 dx mA
 ne:dx≠x
def Uc(n:h.Ns1 dx mA):∃od,h.get? dx=some od/\∀name,PySem.W.lookIn name od=some (mA name):=by
 obtain⟨o,es,ep,ho,hd,hk,_,hm⟩:=n;refine⟨o,ho,λname=>?_⟩
 have e:=hm name;unfold nsFind findBy at e;rw[<-Array.find?_toList] at e;unfold PySem.W.lookIn;rw[hd];dsimp only;split
 .rename_i y q
  rw[q] at e;exact congrArg some e
 .rename_i q
  rw[q] at e;have a:es.toList.any (·.refKey)=false:=by
   rw[List.any_eq_false];intro y hy;obtain⟨z,t,Km⟩:=hk y (L7.mp hy);simp[DictEntry.refKey,Km]
  have a':¬es.toList.any (·.refKey)=true:=by rw[a];exact oz
  rw[aK a'];exact congrArg some e
def o5.look{x:ah}(I:o5 h x dx C mA):∃od,PySem.W.InstAt h x (PySem.W.instObj C dx) C (some od)/\∀name,PySem.W.lookIn name od=some (mA name):=
 let ⟨od,ho,hl⟩:=Uc I.ns
 ⟨od,⟨I.obj,rfl,rfl,ho⟩,hl⟩
section
variable{prog:cS}{w:cg}{A:cD}{E:aj->aq->Prop}{s:aq}{K:PySem.W.Frag}{x dx C f:ah}{mA:Str->ak aj}{name:Str}{v:aj}
def XU{expr:Bool}(X:K.In s.heap)(I:o5 s.heap x dx C mA)(hg:PySem.W.plainGet K C name=true)(hh:PySem.W.hasDictIn K C=true)
  (ha:PySem.W.findIn K (.ref C) name=some none) (hv:mA name=some v) (Ky:PySem.W.handedIn v=true) (h:Q v { s with toks:=s.toks+1}) :
  wpAny (model prog w) A (getAttr (.ref x) name expr) Q E s:=by
 obtain⟨od,J,hl⟩:=I.look;exact PySem.W.get_value X J (PySem.W.plainGet_of hg).1 (PySem.W.findObj_own hh ha rfl (by rw[hl,hv])) Ky h
def Vv{pl:Sem Bool}{Q:aj×List aj->aq->Prop}(X:K.In s.heap)(I:o5 s.heap x dx C mA)(hg:PySem.W.plainGet K C name=true)
  (hf:PySem.W.findIn K (.ref C) name=some (some (.ref f))) (ht:PySem.W.isFn K (.ref f)=true) (hv:mA name=none) (h:Q (.ref f,[.ref x]) s) :
  wpAny (model prog w) A (getMethod (.ref x) name pl) Q E s:=by
 obtain⟨od,J,hl⟩:=I.look;exact PySem.W.method_fn X J (PySem.W.plainGet_of hg).1 (PySem.W.plainGet_of hg).2 hf (beq_iff_eq.mp ht) (by show(PySem.W.lookIn name od).map (·.isSome)=some false;rw[hl,hv];rfl) h
def XX{ns:List Str}{Q:Unit->aq->Prop}(X:K.In s.heap)(I:o5 s.heap x dx C mA)
  (hs:PySem.W.findIn K (.ref C) "__setattr__"=some (some (.builtin "object.__setattr__"))) (hp:PySem.W.plainOver K C=true) (ht:PySem.W.takerIn K C name=some none) (hh:PySem.W.hasDictIn K C=true)
  (hw:PySem.Within mA ns) (hsz:ns.length<=sizeLine)
  (h:∀h',o5 h' x dx C (λy=>if y=name then some v else mA y)->Heap.SameBut dx s.heap h'->Q () { s with heap:=h',toks:=s.toks+2}) :
  wpAny (model prog w) A (setAttr (.ref x) name v) Q E s:=by
 obtain⟨od,J,hl⟩:=I.look;refine PySem.W.set_plain X J hs (PySem.W.osa_open (s:={ s with toks:=s.toks+1}) (r:=none) X J hp ht λb=>?_)
 obtain⟨cd,hc,Ra⟩:=PySem.W.any_some hh;have hx:s.heap.get? x=some ⟨.ref C,some dx,.plain,#[]⟩:=I.obj;refine ax (aQ (ax (ax (wpAny_loadPart hx (ax (PySem.W.Looks.here (s:={ s with toks:=s.toks+1}) (PySem.W.looks_clsIn X hc) ?_))))));rw[Ra];refine aQ (a:=some dx) (ax (aQ (ax ?_)));refine wpAny_nsSet1 (s:={ s with toks:=s.toks+1}) I.ns λh' y_ zj=>?_
 obtain⟨oD,esD,epD,Kq,Kh,hcD⟩:=y_.count (PySem.Within.cons name v hw);refine ax (wpAny_lookBehind Kq (by rw[Kh];exact pastItsLine_dict (i4 hcD (by rw[jt];lia))) ?_)
 exact aQ (h _ ⟨(zj.2 _ (Ne.symm I.ne)).trans I.obj,y_,I.ne⟩ zj)
def Vw{R:Result->aq->Prop}{vs:List aj}{kw:List (Str×aj)}(X:K.In s.heap)(hm:PySem.W.makesIn K C=true)
  (hi:PySem.W.findIn K (.ref C) "__init__"=some (some (.ref f))) (hf:PySem.W.typeIn K (.ref f)=some (.type "function"))
  (h:codeAny (model prog w) (A.under (.builtin "type.__call__" ⟨.ref C::vs,kw⟩)) (.call (.ref f) ⟨.ref (s.heap.objs.size+1)::vs,kw⟩) (PySem.W.InitBack (s.heap.objs.size+1) R) {s with heap:=(s.heap.push PySem.W.emptyDict).push (PySem.W.instObj C s.heap.objs.size)}) :
  codeAny (model prog w) A (.call (.ref C) ⟨vs,kw⟩) R s:=by
 obtain⟨hh,g,d,t,os⟩:=s;exact PySem.W.make_core (PySem.W.makes_of X hm) (PySem.W.looks_findIn X hi) (λself=>PySem.W.bind_fn X self hf) (.inl rfl) h
end
noncomputable def dk(f:Str)(v:V):List (Str×V)->List (Str×V)
 |[]=>[(f,v)]
 |(g,x)::r=>if g=f then(g,v)::r else(g,x)::dk f v r
theorem MS(f g:Str)(v:V):∀fs:List (Str×V),(dk f v fs).lookup g=if g=f then some v else fs.lookup g
 |[]=>by
  show List.lookup g [(f,v)]=_;by_cases h:g=f
  .have hb:(g == f)=true:=beq_iff_eq.mpr h;simp only[List.lookup,hb,aP h]
  .have hb:(g == f)=false:=oB.mpr h;simp only[List.lookup,hb,aK h]
 |(k,x)::r=>by
  have ih:=MS f g v r;rw[show dk f v ((k,x)::r)=(if k=f then(k,v)::r else(k,x)::dk f v r) from rfl]
  by_cases hk:k=f
  .rw[aP hk];by_cases h:g=k
   .have hb:(g == k)=true:=beq_iff_eq.mpr h;simp only[List.lookup,hb,aP (h.trans hk)]
   .have hb:(g == k)=false:=oB.mpr h;simp only[List.lookup,hb,aK (λe:g=f=>h (e.trans hk.symm))]
  .rw[aK hk];by_cases h:g=k
   .have hb:(g == k)=true:=beq_iff_eq.mpr h;simp only[List.lookup,hb,aK (λe:g=f=>hk (h.symm.trans e))]
   .have hb:(g == k)=false:=oB.mpr h;simp only[List.lookup,hb];exact ih
theorem Iu(f:Str)(v:V):∀fs:List (Str×V),f∈(dk f v fs).map (·.1)/\∀g,g∈fs.map (·.1)->g∈(dk f v fs).map (·.1)
 |[]=>⟨by simp[dk],λg h=>by simp at h⟩
 |(k,x)::r=>by
  obtain⟨i1,i2⟩:=Iu f v r;rw[show dk f v ((k,x)::r)=(if k=f then(k,v)::r else(k,x)::dk f v r) from rfl]
  by_cases hk:k=f
  .rw[aP hk];subst hk;exact⟨by simp,λg h=>by simpa using h⟩
  .rw[aK hk];refine⟨?_,λg h=>?_⟩
   .rw[bL];exact pH _ i1
   .rw[bL] at h ⊢;rcases y04.mp h with e|e
    .exact y04.mpr (.inl e)
    .exact pH _ (i2 g e)
theorem MT(f:Str)(v:V):∀fs:List (Str×V),(dk f v fs).length<=fs.length+1
 |[]=>by simp[dk]
 |(k,x)::r=>by
  have ih:=MT f v r;rw[show dk f v ((k,x)::r)=(if k=f then(k,v)::r else(k,x)::dk f v r) from rfl]
  by_cases hk:k=f
  .rw[aP hk,jt,jt];lia
  .rw[aK hk,jt,jt];lia
def g8.some_of(r:g8 (some v) o):∃u,o=some u/\RelV v u:=by
 cases o with
 |none=>exact(show False from r).elim
 |some u=>exact⟨u,rfl,r⟩
def g8.none_of(r:g8 none o):o=none:=by
 cases o with
 |none=>rfl
 |some u=>exact(show False from r).elim
def Ud(r:RelV v u):PySem.W.handedIn u=true:=by
 cases v with
 |aG=>cases(show u=Value.none from r);rfl
 |bl b=>cases(show u=Value.bool b from r);rfl
 |int i=>obtain⟨t,e⟩:=(show ∃t,u=Value.int i t from r);cases e;rfl
 |str x=>obtain⟨t,e⟩:=(show ∃t,u=Value.str x t from r);cases e;rfl
 |wx b=>obtain⟨t,e⟩:=(show ∃t,u=Value.bytes b t from r);cases e;rfl
 |wN b=>obtain⟨t,e⟩:=(show ∃t,u=Value.float b t from r);cases e;rfl
 |ref a=>cases(show u=Value.ref a from r);rfl
 |ty n=>cases(show u=Value.type n from r);rfl
section
variable{P:cS}{w:cg}{H H':Hp}{h h':bM}{a C dx:ah}{fs A7:List (Str×V)}
def IX(bj:iO P w H h)(e:H a=some (.ins C dx fs)):∃mA,o5 h a dx C mA/\(∀f,g8 (fs.lookup f) (mA f))/\PySem.Within mA (fs.map (·.1))/\fs.length<=1000/\H dx=some (.own a):=by
 obtain⟨d,z,ne,ob,mA,n,r,q⟩:=(show bp P w H h a (.ins C dx fs) from bj a _ e);exact⟨mA,⟨ob,n,ne⟩,r,q,z,d⟩
end
structure oU (K:PySem.W.Frag) (C:ah):Prop where
 pg:PySem.W.plainGet K C Str.empty=true
 hd:PySem.W.hasDictIn K C=true
 po:PySem.W.plainOver K C=true
 sa:PySem.W.findIn K (.ref C) "__setattr__"=some (some (.builtin "object.__setattr__"))
def oU.get(c:oU K C)(f:Str):PySem.W.plainGet K C f=true:=c.pg
def fm(K:PySem.W.Frag)(C:ah)(f:Str):Prop:=PySem.W.findIn K (.ref C) f=some none
def fm.Ea(n:fm K C f):PySem.W.takerIn K C f=some none:=by
 unfold PySem.W.takerIn;rw[show PySem.W.findIn K (.ref C) f=some none from n];rfl
structure Con (K:PySem.W.Frag) (C:ah) (f:Str) (v:V) (u:aj):Prop where
 at_:PySem.W.findIn K (.ref C) f=some (some u)
 rel:RelV v u
 get:PySem.W.specialIn K u "__get__"=some none
 cp:PySem.W.copiedNames.contains f=false
structure Meth (K:PySem.W.Frag) (C:ah) (m:Str) (f:ah):Prop where
 at_:PySem.W.findIn K (.ref C) m=some (some (.ref f))
 fn:PySem.W.isFn K (.ref f)=true
 kp:PySem.W.keepIn K (.ref f)=true
section
variable{X:Cx}{aa:List (ah×Obj)}{Z:St}{H:Hp}{s:aq}{a C dx:ah}{fs:List (Str×V)}{f:Str}{v:V}{A:cD}{E:aj->aq->Prop}
def M5{b:Bool}(I:Inv X aa Z H s)(e:H a=some (.ins C dx fs))(c:oU X.K C)(n:fm X.K C f)(l:fs.lookup f=some v)
  (h:∀u s',Inv X aa Z H s'->RelV v u->Q u s'):wpAny (model X.prog X.w) A (getAttr (.ref a) f b) Q E s:=by
 obtain⟨mA,O,r,_,_,_⟩:=IX I.bj e;obtain⟨u,hu,ru⟩:=g8.some_of (v:=v) (o:=mA f) (by rw[<-l];exact r f)
 exact XU I.jN O (c.get f) c.hd n hu (Ud ru) (h u _ (I.tok _) ru)
def M6{m:Str}{g:ah}{pl:Sem Bool}{Q:aj×List aj->aq->Prop}(I:Inv X aa Z H s)(e:H a=some (.ins C dx fs))(c:oU X.K C)(k:Meth X.K C m g)(l:fs.lookup m=none)
  (h:Q (.ref g,[.ref a]) s):wpAny (model X.prog X.w) A (getMethod (.ref a) m pl) Q E s:=by
 obtain⟨mA,O,r,_,_,_⟩:=IX I.bj e;have hn:mA m=none:=g8.none_of (by rw[<-l];exact r m)
 exact Vv I.jN O (c.get m) k.at_ k.fn hn h
def M7{y:V}{Q:Unit->aq->Prop}(I:Inv X aa Z H s)(e:H a=some (.ins C dx fs))(c:oU X.K C)(n:fm X.K C f)(hl:fs.length<1000)(ry:RelV y u)
  (h:∀s',Inv X aa Z (upd H a (.ins C dx (dk f y fs))) s'->Q () s'):wpAny (model X.prog X.w) A (setAttr (.ref a) f u) Q E s:=by
 obtain⟨mA,O,r,wi,_,ho⟩:=IX I.bj e;have hz:(fs.map (·.1)).length<=sizeLine:=by rw[bc,sizeLine_eq];lia
 refine XX I.jN O c.sa c.po n.Ea c.hd wi hz λh' O' sb=>h _ ?_
 have hd:∃o,h'.get? dx=some o:=let ⟨o,_,_,e',_⟩:=O'.ns;⟨o,e'⟩
 refine I.write (x:=a) (e:=dx) (by rw[e];exact t8) (.inr ho) (λb q hb z=>(sb.2 b hb).trans z) hd ?_
 refine⟨by rw[cQ O.ne];exact ho,?_,O.ne,O'.obj,_,O'.ns,λg=>?_,λg hg=>?_⟩
 .have:=MT f y fs;lia
 .show g8 ((dk f y fs).lookup g) (if g=f then some u else mA g)
  rw[MS];by_cases q:g=f
  .rw[aP q,aP q];exact ry
  .rw[aK q,aK q];exact r g
 .by_cases q:g=f
  .rw[q];exact(Iu f y fs).1
  .refine(Iu f y fs).2 g (wi g λz=>hg ?_)
   show(if g=f then some u else mA g)=none
   rw[aK q];exact z
def Inv.made(I:Inv X aa Z H s):Inv X aa Z (upd (upd H s.heap.objs.size (.own (s.heap.objs.size+1))) (s.heap.objs.size+1) (.ins C s.heap.objs.size []))
  {s with heap:=(s.heap.push PySem.W.emptyDict).push (PySem.W.instObj C s.heap.objs.size)}:=by
 have e1:(s.heap.push PySem.W.emptyDict).get? s.heap.objs.size=some PySem.W.emptyDict:=jr s.heap rfl;have e2:((s.heap.push PySem.W.emptyDict).push (PySem.W.instObj C s.heap.objs.size)).get? (s.heap.objs.size+1)=some (PySem.W.instObj C s.heap.objs.size):=by
  have:=jr (s.heap.push PySem.W.emptyDict) (o:=PySem.W.instObj C s.heap.objs.size) rfl
  rwa[Heap.size_push] at this
 have e3:(s.heap.push PySem.W.emptyDict).Ns s.heap.objs.size (λ_=>none):=⟨PySem.W.emptyDict,#[],_,e1,rfl,(λe he=>bW he (by simp)),λ_=>rfl⟩
 have I1:=I.laid (a:=s.heap.objs.size) (o:=.own (s.heap.objs.size+1)) (h':=s.heap.push PySem.W.emptyDict) (t':=s.toks) (λb u q=>cO _ q) (bF _) ⟨_,e1⟩
 refine I1.laid (a:=s.heap.objs.size+1) (o:=.ins C s.heap.objs.size []) (t':=s.toks) (λb u q=>cO _ q) (Hf (Heap.size_push _ _)) ?_
 have ne:s.heap.objs.size≠s.heap.objs.size+1:=gm (vZ _);refine⟨by rw[cQ ne,aI],lZ _,ne,e2,λ_=>none,(Heap.Ns1.of_empty e3).at λo q=>cO _ q,λ_=>t8,λy hy=>bW rfl hy⟩
def XY{prog:cS}{w:cg}{env:Env}{e:Expr}{pos:Pos}{s:aq}(hb:attributeBase e f env (eval e env)=eval e env)
  (h:wpAny (model prog w) A (eval e env) (λo s₁=>wpAny (model prog w) A (getAttr o f true) Q E s₁) E s):wpAny (model prog w) A (eval (.Attribute e f pos) env) Q E s:=
 Attribute_any_ h (by rw[arm_eval_Attribute,hb])
end
def LG(K:PySem.W.Frag)(ta:TE)(f:Str):TE:=λZ H Q=>ta Z H λx H1=>∃a C dx fs v,x=.ref a/\H1 a=some (.ins C dx fs)/\oU K C/\fm K C f/\fs.lookup f=some v/\Q v H1
def Ls(K:PySem.W.Frag)(ta tv:TE)(f:Str):TS:=λD Z H=>tv Z H λy H1=>ta Z H1 λx H2=>∃a C dx fs,x=.ref a/\H2 a=some (.ins C dx fs)/\oU K C/\fm K C f/\fs.length<1000/\
 D.nx Z (upd H2 a (.ins C dx (dk f y fs)))
def x_(X:Cx)(op:Operator)(rd:V->V->Hp->VK->Prop):Prop:=
 ∀(aa:List (ah×Obj)) (s:aq) (Z:St) (H:Hp) (x y:V) (u v:aj) (Q:VK),Inv X aa Z H s->RelV x u->RelV y v->rd x y H Q->wpAny (model X.prog X.w) X.A (inplaceOp op u v) (EP X aa Z Q) X.xe s
def XZ(K:PySem.W.Frag)(ta tv:TE)(rd:V->V->Hp->VK->Prop)(f:Str):TS:=λD Z H=>ta Z H λx H1=>∃a C dx fs v,x=.ref a/\H1 a=some (.ins C dx fs)/\oU K C/\fm K C f/\fs.lookup f=some v/\
 tv Z H1 λy H2=>rd v y H2 λz H3=>∃JM A7,H3 a=some (.ins C JM A7)/\A7.length<1000/\D.nx Z (upd H3 a (.ins C JM (dk f z A7)))
section
variable{X:Cx}{o e value:Expr}{f:Str}{pos pos' eW:Pos}{ta tv:TE}
def e0a(he:PE X e ta)(hb:attributeBase e f X.env (eval e X.env)=eval e X.env):PE X (.Attribute e f pos) (LG X.K ta f):=by
 intro aa s Z H Q I h;refine XY hb (bA (he aa s Z H _ I h) λu s1 hh=>?_)
 obtain⟨x,H1,I1,rx,a,C,dx,fs,v,ex,ea,c,n,l,q⟩:=hh;subst ex;obtain rfl:u=Value.ref a:=rx;exact M5 I1 ea c n l λu' s2 I2 ru=>⟨v,H1,I2,ru,q⟩
def e0b(ha:PE X o ta)(hv:PE X value tv)(hs:swapsWith value (some (.Attribute o f pos')) pos.line X.env=pure false):PS X (.Assign [.Attribute o f pos'] value pos) (Ls X.K ta tv f):=by
 intro aa s Z H D I h;refine plainObj_wpAny_Assign_Attribute (bA (hv aa s Z H _ I h) λu s1 ⟨y,H1,I1,ry,q⟩=>bA (ha aa s1 Z H1 _ I1 q) λov s2 ⟨x,H2,I2,rx,a,C,dx,fs,ex,ea,c,n,l,q2⟩=>?_) hs
 subst ex;obtain rfl:ov=Value.ref a:=rx;exact M7 I2 ea c n l ry λs3 I3=>⟨Z,_,I3,q2⟩
def Ue{op:Operator}{rd:V->V->Hp->VK->Prop}(ha:PE X o ta)(hv:PE X value tv)(zh:x_ X op rd):PS X (.AugAssign (.Attribute o f eW) op value pos) (XZ X.K ta tv rd f):=by
 intro aa s Z H D I h;refine wpAny_AugAssign_AttributeAny (bA (ha aa s Z H _ I h) λov s1 hh=>?_)
 obtain⟨x,H1,I1,rx,a,C,dx,fs,v,ex,ea,c,n,l,q⟩:=hh;subst ex;obtain rfl:ov=Value.ref a:=rx;refine M5 I1 ea c n l λu s2 I2 ru=>bA (hv aa s2 Z H1 _ I2 q) λw3 s3 ⟨y,H2,I3,ry,q3⟩=>bA (zh aa s3 Z H2 v y u w3 _ I3 ru ry q3) λw4 s4 ⟨z,H3,I4,rz,JM,A7,ea',l',q4⟩=>?_
 exact M7 I4 ea' c n l' rz λs5 I5=>⟨Z,_,I5,q4⟩
def Lm:V->V->Hp->VK->Prop:=λx y H Q=>∃i j,x=.int i/\y=.int j/\Q (.int (i+j)) H
def e0c:x_ X .Add Lm:=by
 rintro aa s Z H x y u v Q I rx ry ⟨i,j,rfl,rfl,q⟩;obtain⟨t,rfl⟩:=(show ∃t,u=Value.int i t from rx);obtain⟨t',rfl⟩:=(show ∃t',v=Value.int j t' from ry);exact PyProof.Rows.iadd_int ⟨.int (i+j),H,I.tok _,⟨_,rfl⟩,q⟩
end
section
variable{X:Cx}{aa:List (ah×Obj)}{Z:St}{H:Hp}{s:aq}{A:cD}{E:aj->aq->Prop}{Q:aj->aq->Prop}{c:aj}{b:Bool}
inductive jZ (K:PySem.W.Frag) (H:Hp):V->aj->Prop where
 |aG:jZ K H .aG (.type "NoneType")
 |bl (x:Bool):jZ K H (.bl x) (.type "bool")
 |int (i:Int):jZ K H (.int i) (.type "int")
 |str (x:Str):jZ K H (.str x) (.type "str")
 |wN (x:UInt64):jZ K H (.wN x) (.type "float")
 |lst {a:ah} {xs:List V} (e:H a=some (.lst xs)):jZ K H (.ref a) (.type "list")
 |Y {a:ah} {o:Obj} {xs:List V} (e:H a=some (.Y o (.lst xs))):jZ K H (.ref a) (.type "list")
 |tup {a:ah} {xs:List V} (e:H a=some (.tup xs)):jZ K H (.ref a) (.type "tuple")
 |dK {a:ah} {kvs:List (Key×V)} (e:H a=some (.dK kvs)):jZ K H (.ref a) (.type "dict")
 |dT {a:ah} {kvs:List (List Key×V)} (e:H a=some (.dT kvs)):jZ K H (.ref a) (.type "dict")
 |ins {a C dx:ah} {fs:List (Str×V)} (e:H a=some (.ins C dx fs)) (cl:oU K C) (ha:PySem.W.findIn K (.ref C) "__class__"=some (some (.builtin "object.__class__")))
   (hn:PySem.W.specialIn K (.builtin "object.__class__") "__get__"=some (some (.builtin "getset_descriptor.__get__"))) (htk:PySem.W.takesIn K (.builtin "object.__class__")=some true)
   (hm:PySem.W.mroIn K C (.type "object")=some true):jZ K H (.ref a) (.ref C)
end
variable{k:Nat}{A:cD}{C f:ah}{us:List aj}{kw:List (Str×aj)}{P:cS}{w:cg}{K:PySem.W.Frag}{mg:Str->ak aj}{base:bM}{outer:List Env}{s:aq}{H:Hp}{Q:VK}{ps N:List Str}{aa:List (ah×Obj)}{Z:St}{vs:List V}{qual:Str}{scope:Scope}
structure bY (k:Nat) (A:cD):Prop where
 hd:A.handled=none
 dp:A.depth+3*k+5<recursionLimit
 un:A.units+16*k+200<cLine
def bY.mono{j:Nat}(r:bY k A)(h:j<=k):bY j A:=⟨r.hd,by have:=r.dp;lia,by have:=r.un;lia⟩
def bY.deeper{k:Nat}{A:cD}(r:bY (k+1) A)(env:Env):bY k (A.deeper env):=
 ⟨r.hd,by have:=r.dp;show A.depth+1+3*k+5<_;lia,by have:=r.un;show A.units+3+16*k+200<_;lia⟩
def Te:(A.under (.builtin "type.__call__" ⟨.ref C::us,kw⟩)).depth=A.depth+1:=by
 rfl
def Tf:(A.under (.builtin "type.__call__" ⟨.ref C::us,kw⟩)).units=A.units+1:=by
 rfl
def bY.make(r:bY (k+1) A)(C:ah)(us:List aj)(kw:List (Str×aj)):bY k (A.under (.builtin "type.__call__" ⟨.ref C::us,kw⟩)):=
 ⟨r.hd,by have:=r.dp;rw[Te];lia,by have:=r.un;rw[Tf];lia⟩
def bY.depth{k:Nat}{A:cD}(r:bY k A):A.depth<recursionLimit:=by have:=r.dp;lia
def bY.units{k:Nat}{A:cD}(r:bY k A):A.units+64<cLine:=by have:=r.un;lia
def vK:TA:=λ_ H Q=>Q [] H
def tQ(ta:TE)(tr:TA):TA:=λZ H Q=>ta Z H λx H1=>tr Z H1 λxs H2=>Q (x::xs) H2
section
variable{X:Cx}{e:Expr}{es:List Expr}{te:TE}{t:TA}{pos:Pos}
def mO:PA X [] vK:=λ_ _ _ _ H Q I h=>Calls.spliced_nil ⟨[],H,I,.nil,h⟩
def Fx(ha:PE X e te)(hr:PA X es t)(hs:starEach (e::es) X.env=(false,eval e X.env)::starEach es X.env:=by rfl):PA X (e::es) (tQ te t):=by
 intro pos aa s Z H Q I h;rw[hs];show wpAny _ _ (spliced ((false,eval e X.env)::backTo pos (starEach es X.env))) _ _ s;refine Calls.spliced_cons (bA (ha aa s Z H _ I h) λu s1 hh=>?_)
 obtain⟨x,H1,I1,r1,q1⟩:=hh;exact bA (hr pos aa s1 Z H1 _ I1 q1) λus s2 ⟨xs,H2,I2,r2,q2⟩=>⟨x::xs,H2,I2,.cons r1 r2,q2⟩
def LO(t:TA):TE:=λZ H Q=>t Z H λxs H1=>xs.length<=sizeLine/\∀p,H1 p=none->Q (.ref p) (upd H1 p (.tup xs))
def LJ(t:TA):TE:=λZ H Q=>t Z H λxs H1=>xs.length<=sizeLine/\∀p,H1 p=none->Q (.ref p) (upd H1 p (.lst xs))
def e0d{x1}(h:PA X es t):PE X (.Tuple es x1 pos) (LO t):=by
 intro aa s Z H Q I hq;refine wpAny_Tuple_spliced (bA (h pos aa s Z H _ I hq) λus s1 ⟨xs,H1,I1,r,z,q⟩=>⟨by rw[<-r.length];exact z,?_⟩)
 have hf:H1 s1.heap.objs.size=none:=I1.bj.fresh (bF _);refine⟨.ref s1.heap.objs.size,upd H1 s1.heap.objs.size (.tup xs),I1.laid (t':=s1.toks) (λb u e=>cO _ e) (bF _) ?_,rfl,q _ hf⟩
 exact⟨z,us,r,⟨_,jr _ rfl,rfl,_,rfl⟩⟩
def e0e(h:PA X es t):PE X (.List es pos) (LJ t):=by
 intro aa s Z H Q I hq;refine wpAny_List_spliced (bA (h pos aa s Z H _ I hq) λus s1 ⟨xs,H1,I1,r,z,q⟩=>⟨by rw[<-r.length];exact z,?_⟩)
 have hf:H1 s1.heap.objs.size=none:=I1.bj.fresh (bF _);refine⟨.ref s1.heap.objs.size,upd H1 s1.heap.objs.size (.lst xs),I1.laid (t':=s1.toks) (λb u e=>cO _ e) (bF _) ?_,rfl,q _ hf⟩
 exact⟨z,us,0,r,jr _ rfl⟩
end
abbrev Sp:=List V->Hp->VK->XK->Prop
abbrev t_:=List Env->Hp->aq->XK->aj->aq->Prop
variable{CX:t_}
structure oV (P:cS) (w:cg) (K:PySem.W.Frag) (mg:Str->ak aj) (base:bM) (A:cD) (outer:List Env) (s:aq) (H:Hp):Prop where
 frames:A.frames=some outer
 mod:Mod K mg base
 bs:∀b o,base.get? b=some o->s.heap.get? b=some o/\H b=none
 sg:base.objs.size<=s.heap.objs.size
 iw:s.heap.FunFrames base outer
 vf:∀b∈kq outer,H b=none
 bj:iO P w H s.heap
 bare:AllBare s.gens
def CE(outer:List Env)(P:cS)(w:cg)(H:Hp)(s:aq)(Q:VK)(u:aj)(s':aq):Prop:=
 ∃v H',s'.os=s.os/\AllBare s'.gens/\Un (kq outer) [] H H' s.heap s'.heap/\iO P w H' s'.heap/\RelV v u/\Q v H'
def CR(CX:t_)(outer:List Env)(P:cS)(w:cg)(H:Hp)(s:aq)(Q:VK)(E:XK)(r:Result)(s':aq):Prop:=
 match r with
 |.ok (.ret u)=>CE outer P w H s Q u s'
 |.ok _=>False
 |.error e=>CX outer H s E e s'
structure de (P:cS) (w:cg) (K:PySem.W.Frag) (mg:Str->ak aj) (base:bM) (CX:t_) (k:Nat) (f:ah) (fd:bV) (ps:List Str) (sp:Sp):Prop where
 len:∀vs H Q E,sp vs H Q E->vs.length=ps.length
 run:∀(A:cD) (outer:List Env) (s:aq) (H:Hp) (args:Args) (us:List aj) (vs:List V) (Q:VK) (E:XK),bY k A->oV P w K mg base A outer s H->BindsTo s fd args (ps.zip us)->Vals vs us->sp vs H Q E->
  codeAny (model P w) A (.call (.ref f) args) (CR CX outer P w H s Q E) s
def oV.make(e:oV P w K mg base A outer s H)(C:ah)(us:List aj)(kw:List (Str×aj)):
  oV P w K mg base (A.under (.builtin "type.__call__" ⟨.ref C::us,kw⟩)) outer s H:=⟨by first|exact e.frames|(simpa[Around.under,Code.envs,Code.isFrame,pushEnvs] using e.frames),e.mod,e.bs,e.sg,e.iw,e.vf,e.bj,e.bare⟩
section
variable{X:Cx}{aa:List (ah×Obj)}{Z:St}{H:Hp}{s s':aq}
def Inv.CO(I:Inv X aa Z H s):oV X.prog X.w X.K X.mg X.base X.A X.stack s H:=
 ⟨I.ok.frames,I.ok.mod,I.bs,i4 I.ok.sg I.sz,I.stack,I.jQ,I.bj,I.bare⟩
def Inv.after{u:aj}(I:Inv X aa Z H s)(h:CE X.stack X.prog X.w H s Q u s'):EP X aa Z Q u s':=by
 obtain⟨v,H',os,bare,un,bj,r,q⟩:=h;obtain⟨hh,g,d,t,os'⟩:=s';obtain rfl:os'=s.os:=os;exact⟨v,H',I.call (h':=hh) (g':=g) (d':=d) (t':=t) (ch:=[]) un bj bare (λb z=>bW z (by simp)),r,q⟩
end
def D7(sp:Sp)(kZ:List V)(E:St->XK)(t:TA):TE:=λZ H Q=>t Z H λvs H1=>sp (vs++kZ) H1 Q (E Z)
def tR(C:ah)(m:Str)(sp:Sp)(kZ:List V)(E:St->XK)(ta:TE)(t:TA):TE:=λZ H Q=>ta Z H λx H1=>∃a dx fs,x=.ref a/\H1 a=some (.ins C dx fs)/\fs.lookup m=none/\
 t Z H1 λvs H2=>sp (x::(vs++kZ)) H2 Q (E Z)
def xP(C:ah)(sp:Sp)(kZ:List V)(E:St->XK)(t:TA):TE:=λZ H Q=>t Z H λvs H1=>∀x dx,H1 x=none->H1 dx=none->dx≠x->
 sp (.ref x::(vs++kZ)) (upd (upd H1 dx (.own x)) x (.ins C dx [])) (λv H2=>v=.aG/\Q (.ref x) H2) (E Z)
def Binds(K:PySem.W.Frag)(fd:bV)(ps:List Str)(ds:List aj):Prop:=
 ∀(s:aq) (us:List aj),K.In s.heap->(us++ds).length=ps.length->BindsTo s fd ⟨us,[]⟩ (ps.zip (us++ds))
def Binds.all{fd:bV}(h:∀us:List aj,us.length=ps.length->bindArgs fd ⟨us,[]⟩=pure (ps.zip us)):Binds K fd ps []:=λs us _ hl=>by
 rw[lq] at hl ⊢;exact .of_eq (h us hl)
def yB(CX:t_)(X:Cx)(E:St->XK):Prop:=∀(aa:List (ah×Obj)) (Z:St) (H:Hp) (s:aq) (e:aj) (s':aq),Inv X aa Z H s->CX X.stack H s (E Z) e s'->X.xe e s'
section
variable{X:Cx}{CX:t_}{k:Nat}{f C:ah}{fd:bV}{ps:List Str}{sp:Sp}{kZ:List V}{ds:List aj}{E:St->XK}{x m:Str}{p pos apos:Pos}{e o:Expr}{es:List Expr}{ta:TE}{t:TA}
def Jp(F:de X.prog X.w X.K X.mg X.base CX k f fd ps sp)(hr:bY k X.A)(hb:Binds X.K fd ps ds)(hd:Vals kZ ds)(hx:yB CX X E)
  (I:Inv X aa Z H s) (r:Vals vs us) (h:sp (vs++kZ) H Q (E Z)):wpAny (model X.prog X.w) X.A (call (.ref f) us) (EP X aa Z Q) X.xe s:=by
 have r2:Vals (vs++kZ) (us++ds):=r.append hd;have hl:(us++ds).length=ps.length:=by rw[<-r2.length];exact F.len _ _ _ _ h
 refine wpAny_call (codeAny_mono (F.run X.A X.stack s H ⟨us,[]⟩ (us++ds) (vs++kZ) Q (E Z) hr I.CO (hb s us I.jN hl) r2 h) λr s' hq=>?_)
 cases r with
 |error e=>exact hx aa Z H s e s' I hq
 |ok fl=>
  cases fl with
  |ret u=>exact I.after hq
  |next=>exact False.elim hq
  |brk=>exact False.elim hq
  |cont=>exact False.elim hq
def X0(F:de X.prog X.w X.K X.mg X.base CX k f fd ps sp)(hr:bY k X.A)(hg:Gl X x)(hm:X.mg x=some (.ref f))(hk:PySem.W.keepIn X.K (.ref f)=true)(hb:Binds X.K fd ps ds)(hd:Vals kZ ds)(hx:yB CX X E)
  (ha:PA X (e::es) t) (k8:(x == ("__debug__":Str))=false:=by decide) (he:starEach (e::es) X.env=(false,eval e X.env)::starEach es X.env:=by rfl) (jM:(backTo pos (starEach es X.env)).any (·.1)=false:=by rfl) :
  PE X (.Call (.Name x p) (e::es) [] pos) (D7 sp kZ E t):=by
 intro aa s Z H Q I h;refine wpAny_Call_Name_kw (AG I hg hm ?_ k8);refine PySem.W.callWith_K (h₀:=X.base) I.ok.mod.Bc hk (bA (ha pos aa s Z H _ I h) λus s1 ⟨vs,H1,I1,r,q⟩=>⟨I1.jN,?_⟩) he jM
 exact Jp F hr hb hd hx I1 r q
def X1{pl:Sem Bool}(he:PE X o ta)(c:oU X.K C)(hm:Meth X.K C m f)(F:de X.prog X.w X.K X.mg X.base CX k f fd ps sp)(hr:bY k X.A)(hb:Binds X.K fd ps ds)(hd:Vals kZ ds)(hx:yB CX X E)(ha:PA X (e::es) t)
  (k9:starEach (e::es) X.env=(false,eval e X.env)::starEach es X.env:=by rfl) (jM:(backTo pos (starEach es X.env)).any (·.1)=false:=by rfl)
  (ht:eval (.Call (.Attribute o m apos) (e::es) [] pos) X.env=(do
   let ov <-eval o X.env
   standAt apos.atName
   let (f,first) <-holding [ov] (getMethod ov m pl)
   callWith pos f first (backTo pos (starEach (e::es) X.env)) (backToKw pos (keywordEach [] X.env))):=by rfl) :
  PE X (.Call (.Attribute o m apos) (e::es) [] pos) (tR C m sp kZ E ta t):=by
 intro aa s Z H Q I h;refine PySem.W.methodCall_KW (pl:=pl) (bA (he aa s Z H _ I h) λu s1 hh=>?_) ht
 obtain⟨x,H1,I1,rx,a,dx,fs,ex,ea,l,q⟩:=hh;subst ex;obtain rfl:u=Value.ref a:=rx;refine M6 I1 ea c hm l ?_;refine PySem.W.callWith_K (first:=[.ref a]) (h₀:=X.base) I.ok.mod.Bc hm.kp (bA (ha pos aa s1 Z H1 _ I1 q) λus s2 ⟨vs,H2,I2,r,q2⟩=>⟨I2.jN,?_⟩) k9 jM
 exact Jp (us:=.ref a::us) (vs:=.ref a::vs) F hr hb hd hx I2 (.cons rfl r) q2
def Vx{pl:Sem Bool}(he:PE X o ta)(c:oU X.K C)(hm:Meth X.K C m f)(F:de X.prog X.w X.K X.mg X.base CX k f fd ps sp)(hr:bY k X.A)(hb:Binds X.K fd ps ds)(hd:Vals kZ ds)(hx:yB CX X E)
  (ht:eval (.Call (.Attribute o m apos) [] [] pos) X.env=(do
   let ov <-eval o X.env
   standAt apos.atName
   let (f,first) <-holding [ov] (getMethod ov m pl)
   callWith pos f first (backTo pos (starEach [] X.env)) (backToKw pos (keywordEach [] X.env))):=by rfl) :
  PE X (.Call (.Attribute o m apos) [] [] pos) (tR C m sp kZ E ta vK):=by
 intro aa s Z H Q I h;refine PySem.W.methodCall_KW (pl:=pl) (bA (he aa s Z H _ I h) λu s1 hh=>?_) ht
 obtain⟨x,H1,I1,rx,a,dx,fs,ex,ea,l,q⟩:=hh;subst ex;obtain rfl:u=Value.ref a:=rx;refine M6 I1 ea c hm l ?_;exact PySem.W.callWith_K0 (first:=[.ref a]) I1.jN hm.kp (Jp (us:=[.ref a]) (vs:=[.ref a]) F hr hb hd hx I1 (.cons rfl .nil) q)
structure Mk (K:PySem.W.Frag) (C f:ah):Prop where
 makes:PySem.W.makesIn K C=true
 init:PySem.W.findIn K (.ref C) "__init__"=some (some (.ref f))
 fn:PySem.W.isFn K (.ref f)=true
 kp:PySem.W.keepIn K (.ref C)=true
def Vy(M:Mk X.K C f)(F:de X.prog X.w X.K X.mg X.base CX k f fd ps sp)(hr:bY (k+1) X.A)(hb:Binds X.K fd ps ds)(hd:Vals kZ ds)
  (hx:yB CX X E) (I:Inv X aa Z H s) (r:Vals vs us)
  (h:∀x dx,H x=none->H dx=none->dx≠x->sp (.ref x::(vs++kZ)) (upd (upd H dx (.own x)) x (.ins C dx [])) (λv H2=>v=.aG/\Q (.ref x) H2) (E Z)) :
  wpAny (model X.prog X.w) X.A (call (.ref C) us) (EP X aa Z Q) X.xe s:=by
 have hq:=h (s.heap.objs.size+1) s.heap.objs.size (I.bj.fresh (tW _)) (I.bj.fresh (bF _)) (gm (vZ _));have I2:=Inv.made (C:=C) I;have r2:Vals (V.ref (s.heap.objs.size+1)::(vs++kZ)) (Value.ref (s.heap.objs.size+1)::(us++ds)):=.cons rfl (r.append hd);have hl:(Value.ref (s.heap.objs.size+1)::us++ds).length=ps.length:=by
  have e:=r2.length;rw[F.len _ _ _ _ hq] at e;exact e.symm
 refine wpAny_call (Vw (f:=f) I.jN M.makes M.init (beq_iff_eq.mp M.fn) (codeAny_mono (F.run _ X.stack _ _ ⟨Value.ref (s.heap.objs.size+1)::us,[]⟩ (Value.ref (s.heap.objs.size+1)::(us++ds)) _ _ (E Z) (hr.make C us []) (I2.CO.make C us []) (hb _ (Value.ref (s.heap.objs.size+1)::us) I2.jN hl) r2 hq) λr s' Dj=>?_))
 cases r with
 |error e=>exact hx aa Z _ _ e s' I2 Dj
 |ok fl=>
  cases fl with
  |ret u=>
   obtain⟨v,H',I3,rv,ev,q3⟩:=I2.after Dj;subst ev;exact⟨rv,⟨V.ref (s.heap.objs.size+1),H',I3,rfl,q3⟩⟩
  |next=>exact False.elim Dj
  |brk=>exact False.elim Dj
  |cont=>exact False.elim Dj
def X2(M:Mk X.K C f)(F:de X.prog X.w X.K X.mg X.base CX k f fd ps sp)(hr:bY (k+1) X.A)(hg:Gl X x)(hm:X.mg x=some (.ref C))(hb:Binds X.K fd ps ds)(hd:Vals kZ ds)(hx:yB CX X E)
  (ha:PA X (e::es) t) (k8:(x == ("__debug__":Str))=false:=by decide) (he:starEach (e::es) X.env=(false,eval e X.env)::starEach es X.env:=by rfl) (jM:(backTo pos (starEach es X.env)).any (·.1)=false:=by rfl) :
  PE X (.Call (.Name x p) (e::es) [] pos) (xP C sp kZ E t):=by
 intro aa s Z H Q I h;refine wpAny_Call_Name_kw (AG I hg hm ?_ k8);refine PySem.W.callWith_K (h₀:=X.base) I.ok.mod.Bc M.kp (bA (ha pos aa s Z H _ I h) λus s1 ⟨vs,H1,I1,r,q⟩=>⟨I1.jN,?_⟩) he jM
 exact Vy M F hr hb hd hx I1 r q
end
section
variable{X:Cx}{CX:t_}{k:Nat}{f C:ah}{fd:bV}{ps ks:List Str}{sp:Sp}{E:St->XK}{x m:Str}{p pos apos kpos:Pos}{e o:Expr}{es:List Expr}{kws:List Keyword}{te ta:TE}{t tk:TA}{nm:ak Str}
structure KBinds (K:PySem.W.Frag) (fd:bV) (ps ks:List Str) (g:List aj->List aj->List aj) (gV:List V->List V->List V):Prop where
 to:∀(s:aq) (us ws:List aj),K.In s.heap->(g us ws).length=ps.length->BindsTo s fd ⟨us,ks.zip ws⟩ (ps.zip (g us ws))
 rel:∀{vs:List V} {us:List aj} {zs:List V} {ws:List aj},Vals vs us->Vals zs ws->Vals (gV vs zs) (g us ws)
variable{g:List aj->List aj->List aj}{gV:List V->List V->List V}
end
structure gZ (N P:List Str) (sc:Scope):Prop where
 kind:sc.kind=.function
 co:sc.isCoroutine=false
 gen:sc.isGenerator=false
 nd:N.Nodup
 pre:N.take P.length=P
 par:∀x∈P,sc.names.lookup x=some .local \/ sc.names.lookup x=some .cell
 zz:∀y∈sc.names,y.2≠.free
theorem Np{kindOf:Str->ak pL}{x:Str}:∀{binds:List (Str×aj)} {m:Str->ak aj},(∀v,(x,v)∉binds)->bindL kindOf binds m x=m x
 |[],_,_=>rfl
 |(n,v)::r,m,h=>by
  unfold bindL;rw[Np λw hw=>h w (pH _ hw)]
  split
  .have:x≠n:=by rintro rfl;exact h v qW
   simp[this]
  .rfl
theorem Nq{kindOf:Str->ak pL}{x:Str}:∀{binds:List (Str×aj)} {m:Str->ak aj},(∀v,(x,v)∉binds)->bindC kindOf binds m x=m x
 |[],_,_=>rfl
 |(n,v)::r,m,h=>by
  unfold bindC;rw[Nq λw hw=>h w (pH _ hw)]
  split
  .rfl
  .have:x≠n:=by rintro rfl;exact h v qW
   simp[this]
theorem Nr{kindOf:Str->ak pL}{x:Str}{v:aj}:∀{P:List Str} {vs:List aj} {i:Nat} {m:Str->ak aj},P.Nodup->P[i]?=some x->vs[i]?=some v->kindOf x=some .local ->
  bindL kindOf (P.zip vs) m x=some v
 |[],_,_,_,_,h,_,_=>by simp at h
 |_::_,[],_,_,_,_,h,_=>by simp at h
 |p::P,w::vs,0,m,nd,h1,h2,hk=>by
  simp at h1 h2;subst h1;subst h2;show bindL kindOf ((p,w)::P.zip vs) m p=_;unfold bindL;rw[Np λv hv=>(qr.mp nd).1 (List.of_mem_zip hv).1,aP hk]
  simp
 |p::P,w::vs,i+1,m,nd,h1,h2,hk=>by
  show bindL kindOf ((p,w)::P.zip vs) m x=_;unfold bindL;exact Nr (i:=i) (qr.mp nd).2 (by simpa using h1) (by simpa using h2) hk
theorem Nt{kindOf:Str->ak pL}{x:Str}{v:aj}:∀{P:List Str} {vs:List aj} {i:Nat} {m:Str->ak aj},P.Nodup->P[i]?=some x->vs[i]?=some v->kindOf x≠some .local ->
  bindC kindOf (P.zip vs) m x=some v
 |[],_,_,_,_,h,_,_=>by simp at h
 |_::_,[],_,_,_,_,h,_=>by simp at h
 |p::P,w::vs,0,m,nd,h1,h2,hk=>by
  simp at h1 h2;subst h1;subst h2;show bindC kindOf ((p,w)::P.zip vs) m p=_;unfold bindC;rw[Nq λv hv=>(qr.mp nd).1 (List.of_mem_zip hv).1,aK hk]
  simp
 |p::P,w::vs,i+1,m,nd,h1,h2,hk=>by
  show bindC kindOf ((p,w)::P.zip vs) m x=_;unfold bindC;exact Nt (i:=i) (qr.mp nd).2 (by simpa using h1) (by simpa using h2) hk
noncomputable def start(N:List Str)(vs:List V):St:=vs.map some++List.replicate (N.length - vs.length) none
noncomputable def my(CX:t_)(P:cS)(w:cg)(K:PySem.W.Frag)(mg:Str->ak aj)(base:bM)(N:List Str)(qual:Str)(scope:Scope)(f:ah)(cd:aj)(A:cD)(outer:List Env)(s:aq)(H:Hp)(E:XK):Cx where
 prog:=P
 w:=w
 K:=K
 mg:=mg
 base:=base
 A:=A.deeper (envOfC qual scope s.heap.objs.size f cd)
 N:=N
 s₀:=s
 H₀:=H
 env:=envOfC qual scope s.heap.objs.size f cd
 outer:=outer
 stack:=envOfC qual scope s.heap.objs.size f cd::outer
 ex:=[]
 calm:=true
 fn:=λ_=>true
 pn:=[]
 xe:=λe s'=>wpAny (model P w) (A.deeper (envOfC qual scope s.heap.objs.size f cd)) (leaving (envOfC qual scope s.heap.objs.size f cd) e) (λ_ tO=>CX outer H s E e tO) (λe' tO=>CX outer H s E e' tO) s'
def NX{sc:Scope}{n:Nat}{x:Str}(h:sc.names.lookup x=some .cell):∃c,(cellsFrom n sc.names []).lookup x=some c:=by
 have q:=PySem.W.cellsFrom_some sc.names n [] (.inl h);exact Option.isSome_iff_exists.mp q
def Ug{cd:aj}{s1:aq}{E:XK}
  (S:gZ N ps scope) (hd:A.handled=none) (e0:oV P w K mg base A outer s H) (hl:vs.length=ps.length) (r:Vals vs us)
  (x:InCallC s s.heap.objs.size (bindL (envOfC qual scope s.heap.objs.size f cd).kindOf (ps.zip us) λ_=>none) (cellsFrom (s.heap.objs.size+1) scope.names []) (bindC (envOfC qual scope s.heap.objs.size f cd).kindOf (ps.zip us) λ_=>none) s1) :
  Inv (my CX P w K mg base N qual scope f cd A outer s H E) [] (start N vs) H s1:=by
 have jM:ps.length<=N.length:=by have:=congrArg List.length S.pre;rw[z6] at this;lia
 obtain⟨h1,tk,rfl,hk⟩:=x.done;have DD:∀b:ah,b∉(my CX P w K mg base N qual scope f cd A outer s H E).ex:=λb z=>bW (show b∈([]:List ah) from z) (by simp)
 refine⟨⟨e0.mod,S.kind,rfl,rfl,bF _,λy z c h1 h2=>?_,λy hy=>?_,λy c _ h=>?_,λ_=>hd,Around.frames_deeper e0.frames,.inr ⟨rfl,rfl⟩,λb z=>bW z (DD b),e0.bs,e0.sg,λb _ _=>DD b,λb z=>bW z (DD b),e0.iw,e0.vf⟩,rfl,e0.bare,Un.kept hk,⟨_,x.toInCall.ns,λi y v h1 h2 h3=>?_⟩,λy c h=>⟨_,x.cell y c h⟩,e0.bj.fresh (bF _),λy c h=>?_,λp hp=>bW (show p∈([]:List (ah×Obj)) from hp) (by simp),e0.bj.kept hk,?_⟩
 .exact name_of_addr x.apart (PySem.mem_of_lookup h1) (PySem.mem_of_lookup h2)
 .have hy:scope.names.lookup y=some .cell\/scope.names.lookup y=some .free:=hy;rcases hy with hy|hy
  .exact NX hy
  .exact bW rfl (S.zz _ (PySem.mem_of_lookup hy))
 .exact Hb (x.above y c (PySem.mem_of_lookup h))
 .have hi:i<vs.length:=by
   unfold start at h2;by_cases hi:i<vs.length
   .exact hi
   .rw[v3 (by simpa using hi)] at h2
    rw[L8] at h2;split at h2 <;> cases h2
  have ha:vs[i]?=some v:=by
   unfold start at h2;rw[xS (by simpa using hi),fW] at h2
   cases e:vs[i]? with
   |none=>rw[e] at h2;cases h2
   |some a=>rw[e] at h2;cases h2;rfl
  obtain⟨u,hu,rv⟩:=r.get ha;have hp:ps[i]?=some y:=by
   rw[<-S.pre,List.getElem?_take_of_lt (by lia)];exact h1
  have RG:ps.Nodup:=by rw[<-S.pre];exact S.nd.sublist (List.take_sublist _ _)
  refine⟨u,rv,?_⟩;rcases S.par y (tY hp) with k|k
  .exact .inl ⟨k,Nr RG hp hu k⟩
  .obtain⟨c,e⟩:=NX (n:=s.heap.objs.size+1) k;refine .inr ⟨.inl k,c,e,?_⟩;have q:=x.cell y c e;rw[Nt RG hp hu (by show scope.names.lookup y≠_;rw[k];decide)] at q
   exact q
 .exact e0.bj.fresh (Hb (x.above y c (PySem.mem_of_lookup h)))
 .unfold start;show _=N.length
  simp_all
def e5w{name:Str}{params:Arguments}{body:List Stmt}{dV kV doc pm fS ct oc:aj}{an od:ak ah}
  {ux:Array (ak aj)}  {sp:Sp} (lk:K.lookup f=some ⟨oc,od,.func (PySem.W.fnOf name qual params body scope dV kV doc pm an fS ct),ux⟩) (qK:PySem.W.codeIn K fS qual=true) (S:gZ N ps scope)
  (len:∀vs H Q E,sp vs H Q E->vs.length=ps.length)
  (sN:∀(A:cD) (outer:List Env) (s:aq) (H:Hp) (vs:List V) (Q:VK) (E:XK),bY k (A.deeper (envOfC qual scope s.heap.objs.size f fS))->sp vs H Q E-> ∃t,iP (my CX P w K mg base N qual scope f fS A outer s H E) body t/\t { nx:=λ_ H'=>Q .aG H',rt:=Q} (start N vs) H) :
  de P w K mg base CX (k+1) f (PySem.W.fnOf name qual params body scope dV kV doc pm an fS ct) ps sp:=by
 refine⟨len,λA outer s H args us vs Q E hr e0 hb r wV=>?_⟩
 have hl:=len _ _ _ _ wV;have KX:K.In s.heap:=e0.mod.Bc.keeps λb o e=>(e0.bs b o e).1
 have lim:s.heap.NoLimit:=e0.mod.nolimit.keeps λb o e=>(e0.bs b o e).1
 have C_:∀y∈ps.zip us,scope.names.lookup y.1=some .local \/ (scope.names.lookup y.1=some .cell/\((cellsFrom (s.heap.objs.size+1) scope.names []).lookup y.1).isSome=true):=λ⟨n,v⟩ hy=>by
  rcases S.par n (List.of_mem_zip hy).1 with q|q
  .exact .inl q
  .exact .inr ⟨q,PySem.W.cellsFrom_some _ _ _ (.inl q)⟩
 refine codeAny_call_function hr.depth (KX _ _ lk) rfl S.co S.gen rfl (PySem.W.codeRec_of KX qK) (hb _ _ _ _ ?_);refine wpAny_newFunctionEnv_cells S.kind C_ λenv he s1 x=>?_
 subst he;refine⟨lim.keeps x.toInCall.keep,codeAny_func ?_⟩;obtain⟨t,ht,hq⟩:=sN A outer s H vs Q E (hr.deeper _) wV;have I:Inv (my CX P w K mg base N qual scope f fS A outer s H E) [] (start N vs) H s1:=Ug S hr.hd e0 hl r x;refine wpAny_mono (ht [] s1 (start N vs) H _ I hq) (λfl s' hs=>?_) λe s' hs=>hs
 have fin:∀{Z':St} {H':Hp} {v:V} {u:aj},Inv (my CX P w K mg base N qual scope f fS A outer s H E) [] Z' H' s'->RelV v u->Q v H'->CE outer P w H s Q u s':=
  λ{Z' H' v u} J rv q=>⟨v,H',J.os,J.bare,J.base,J.bj,rv,q⟩
 cases fl with
 |ret u=>
  obtain⟨v,Z',H',J,rv,q⟩:=hs;exact fin J rv q
 |next=>
  obtain⟨Z',H',J,q⟩:=hs;exact fin (v:=V.aG) (u:=Value.none) J rfl q
 |brk=>
  obtain⟨_,_,_,q⟩:=hs;exact False.elim q
 |cont=>
  obtain⟨_,_,_,q⟩:=hs;exact False.elim q
section
variable{X:Cx}{x:Str}{p pos:Pos}{e:Expr}{es:List Expr}{t:TA}{id T:String}{r:List V->Hp->VK->Prop}
def RW(r:List V->Hp->VK->Prop)(t:TA):TE:=λZ H Q=>t Z H λvs H1=>r vs H1 Q
def Vz(hc:bH X (.builtin id) r)(hg:Gl X x)(hm:X.mg x=none)(hv:bootBuiltins x=some (.builtin id))(ha:PA X (e::es) t)(hn:x≠"__name__":=by decide)(k8:(x == ("__debug__":Str))=false:=by decide)
  (he:starEach (e::es) X.env=(false,eval e X.env)::starEach es X.env:=by rfl) (jM:(backTo pos (starEach es X.env)).any (·.1)=false:=by rfl):PE X (.Call (.Name x p) (e::es) [] pos) (RW r t):=by
 intro aa s Z H Q I h;refine wpAny_Call_Name_kw (wo I hg hm hv ?_ hn k8);exact PyProof.Rows.callWith_builtin1 (bA (ha pos aa s Z H _ I h) λus s1 ⟨vs,H1,I1,r1,q1⟩=>hc aa s1 Z H1 vs us Q I1 r1 q1) he jM
def Uh(hc:bH X (.type T) r)(hg:Gl X x)(hm:X.mg x=none)(hv:bootBuiltins x=some (.type T))(ha:PA X (e::es) t)(hn:x≠"__name__":=by decide)(k8:(x == ("__debug__":Str))=false:=by decide)
  (he:starEach (e::es) X.env=(false,eval e X.env)::starEach es X.env:=by rfl) (jM:(backTo pos (starEach es X.env)).any (·.1)=false:=by rfl):PE X (.Call (.Name x p) (e::es) [] pos) (RW r t):=by
 intro aa s Z H Q I h;refine wpAny_Call_Name_kw (wo I hg hm hv ?_ hn k8);exact PyProof.Rows.callWith_type1 (bA (ha pos aa s Z H _ I h) λus s1 ⟨vs,H1,I1,r1,q1⟩=>hc aa s1 Z H1 vs us Q I1 r1 q1) he jM
end
end L2
namespace HT
open PySem PyProof.Rows
section
open PySem.SeqAt
open PySem.AutoSeq1 (wpAny_loadPart')
open PySem.MeetsSeq PySem.MeetsSeq2 PySem.MeetsSeq3
end
variable{sl:ah}{vu:aj}{lo hi:ak Int}
section
variable{prog:cS}{w:cg}{A:cD}{E:aj->aq->Prop}{s:aq}
def cw(n d:Nat):ak Int->Nat
 |none=>d
 |some v=>if v<0 then(v+(n:Int)).toNat else min v.toNat n
def e0f(n d:Nat)(hd:d<=n)(o:ak Int):cw n d o<=n:=by
 cases o with
 |none=>exact hd
 |some v=>
  show(if v<0 then(v+(n:Int)).toNat else min v.toNat n)<=n
  by_cases hv:v<0
  .rw[aP hv];lia
  .rw[aK hv];exact Nat.min_le_right _ _
def OJ(v:Int)(n d:Nat):(if v<0 then max (v+(n:Int)) 0 else min v (n:Int))=((cw n d (some v):Nat):Int):=by
 show(if v<0 then max (v+(n:Int)) 0 else min v (n:Int))=(((if v<0 then(v+(n:Int)).toNat else min v.toNat n):Nat):Int)
 by_cases hv:v<0
 .simp only[aP hv];lia
 .simp only[aK hv];lia
def Tg(lo hi:ak Int)(n:Nat):Builtin.Slice.sliceAdjust lo hi 1 (n:Int)=(((cw n 0 lo:Nat):Int),((cw n n hi:Nat):Int)):=by
 have h1:¬((1:Int)<0):=by lia
 unfold Builtin.Slice.sliceAdjust;simp only[h1,m_];refine Prod.ext ?_ ?_
 .cases lo with
  |none=>rfl
  |some v=>exact OJ v n 0
 .cases hi with
  |none=>rfl
  |some v=>exact OJ v n n
def Th(i j:Nat):Builtin.Slice.slicePlaces (i:Int) (j:Int) 1=j - i:=by
 unfold Builtin.Slice.slicePlaces;have h1:(1:Int) > 0:=by lia
 simp only[h1,uD,Int.ediv_one];split <;> lia
def M8{v:aj}{o:ak Int}{Q:ak Int->aq->Prop}(p:IsPart v o)(h:Q o s):wpAny (model prog w) A (Builtin.Slice.slicePartIndex v) Q E s:=by
 cases p with
 |none=>exact slicePart_none h
 |int i t=>exact slicePart_int h
def R8{vl:aj}{n:Nat}{Q:Int×Int×Nat->aq->Prop}(hs:s.heap.IsSliceOf sl vl vu .none)(pl:IsPart vl lo)(pu:IsPart vu hi)
  (h:Q (((cw n 0 lo:Nat):Int),1,cw n n hi - cw n 0 lo) s):wpAny (model prog w) A (Builtin.Slice.sliceApplied (.ref sl) (pure (n:Int))) Q E s:=by
 obtain⟨os,Dh,Gw,Gy⟩:=id hs;unfold Builtin.Slice.sliceApplied Builtin.Slice.sliceFields;refine ax (ax (wpAny_field Dh Gy (x:=vl) rfl (ax (wpAny_field Dh Gy (x:=vu) rfl (ax (wpAny_field Dh Gy (x:=.none) rfl (aQ ?_)))))));refine ax (slicePart_none ?_);show wpAny _ _ (if((1:Int) == 0)=true then _ else _) _ _ s
 rw[aK (by decide)]
 refine ax (M8 pl (ax (M8 pu (ax (aQ ?_)))));show wpAny _ _ (match Builtin.Slice.sliceAdjust lo hi 1 (n:Int) with|(lo,hi)=>pure (lo,(1:Int),Builtin.Slice.slicePlaces lo hi 1)) _ _ s
 rw[Tg lo hi n];show wpAny _ _ (pure (((cw n 0 lo:Nat):Int),(1:Int),Builtin.Slice.slicePlaces ((cw n 0 lo:Nat):Int) ((cw n n hi:Nat):Int) 1)) _ _ s;rw[Th];exact aQ h
def VA(xs:Array aj)(i k:Nat):((List.range k).filterMap λ(m:Nat)=>xs[((i:Int)+(m:Int)*1).toNat]?).toArray=((xs.toList.drop i).take k).toArray:=by
 have e:(λ(m:Nat)=>xs[((i:Int)+(m:Int)*1).toNat]?)=λm=>xs[i+m]?:=by
  funext m;have:((i:Int)+(m:Int)*1).toNat=i+m:=by lia
  rw[this]
 rw[e];have:=pick_run xs i k;rw[List.filterMap_map] at this;have e2:((λx=>xs[x]?)∘λx=>i+x)=λm=>xs[i+m]?:=rfl
 rw[e2] at this;rw[this]
def iy{t:ah}{items:Array aj}{vl:aj}{Q:aj->aq->Prop}(ht:IsTup s.heap t items)(hs:s.heap.IsSliceOf sl vl vu .none)(pl:IsPart vl lo)(pu:IsPart vu hi)
  (hw:¬(cw items.size 0 lo=0/\cw items.size items.size hi=items.size))
  (h:Q (.ref s.heap.objs.size) { s with heap:=s.heap.push { cls:=.type "tuple",data:=.seq ((items.toList.drop (cw items.size 0 lo)).take (cw items.size items.size hi - cw items.size 0 lo)).toArray}})
  (hsz:items.size<=sizeLine):wpAny (model prog w) A (getItem (.ref t) (.ref sl)) Q E s:=by
 have qf:sizeOk (.seq ((items.toList.drop (cw items.size 0 lo)).take (cw items.size items.size hi - cw items.size 0 lo)).toArray):=by
  show((items.toList.drop (cw items.size 0 lo)).take (cw items.size items.size hi - cw items.size 0 lo)).toArray.size<=sizeLine;rw[cZ,z6,Hg,He];lia
 have hj:cw items.size items.size hi<=items.size:=e0f _ _ (bF _) hi;obtain⟨os,Dh,Gw,Gy⟩:=id hs;have hTs:s.TypeIs (.ref sl) "slice":=⟨os,Dh,Gw⟩;unfold getItem;try with_reducible refine kP ?_
 first|refine ax (aQ ?_)|skip
 refine ax (wpAny_sequenceKey ht.typeIs (by decide) ?_)
 refine ax (wpAny_callSpecial?_slot (name:=Str.ofString "__getitem__") ht.typeIs PyProof.Rows.slot_tuple_getitem (wpAny_call_entry PyProof.Rows.slot_tuple_getitem ht.typeIs entry_tuple_getitem ?_ (args_tuple_getitem _ _)))
 show wpAny _ _ (Builtin.Tuple.tupleItemsOf (.ref t) >>= _) _ _ s;refine ax (tupleItemsOf_ ht ?_);refine ax (wpAny_typeOf hTs ?_);rw[aP (by decide)]
 refine ax (R8 hs pl pu ?_);have uq:¬((((cw items.size 0 lo:Nat):Int) == 0&&(1:Int) == 1&&(cw items.size items.size hi - cw items.size 0 lo) == items.size)=true):=by
  lia
 show wpAny _ _ (if(((cw items.size 0 lo:Nat):Int) == 0&&(1:Int) == 1&&(cw items.size items.size hi - cw items.size 0 lo) == items.size)=true then _ else _) _ _ s
 rw[aK uq,VA];first
  |exact ax (m:=Builtin.Tuple.tupleExact _) (wpAny_newObj_type (aQ ⟨_,rfl,aQ h⟩) qf)
  |exact ax (m:=Builtin.Tuple.tupleExact _) (wpAny_newObj_type (ax (aQ (aQ ⟨_,rfl,aQ h⟩))) qf)
  |exact ax (ax (m:=Builtin.Tuple.tupleExact _) (wpAny_newObj_type (aQ (aQ ⟨_,rfl,aQ h⟩)) qf))
  |exact ax (ax (m:=Builtin.Tuple.tupleExact _) (wpAny_newObj_type (aQ ⟨_,rfl,aQ h⟩) qf))
end
end HT
namespace L2
open PySem PySem.Spec PyProof.Rows
variable{r:V->ak Int->ak Int->Hp->VK->Prop}
abbrev TO:=St->Hp->(ak Int->Hp->Prop)->Prop
def PO(X:Cx)(e:ak Expr)(t:TO):Prop:=
 ∀(aa:List (ah×Obj)) (s:aq) (Z:St) (H:Hp) (Q:ak Int->Hp->Prop),Inv X aa Z H s->t Z H Q->
  wpAny (model X.prog X.w) X.A (evalPart e X.env) (λu s'=>∃o H',Inv X aa Z H' s'/\IsPart u o/\Q o H') X.xe s
def X3:TO:=λ_ H Q=>Q none H
def D_(t:TE):TO:=λZ H Q=>t Z H λx H1=>∃i,x=.int i/\Q (some i) H1
section
variable{X:Cx}{e:Expr}{te:TE}{lo hi:ak Expr}{tl th:TO}{pos p2:Pos}
def X4:PO X none X3:=by
 intro aa s Z H Q I h;rw[evalPart_none];exact aQ ⟨none,H,I,.none,h⟩
def X5(h:PE X e te):PO X (some e) (D_ te):=by
 intro aa s Z H Q I hw;rw[evalPart_some];refine bA (h aa s Z H _ I hw) λu s1 hh=>?_
 obtain⟨x,H1,I1,r1,q1⟩:=hh;obtain⟨i,rfl,q⟩:=q1;obtain⟨t,rfl⟩:=r1;exact⟨some i,H1,I1,.int i t,q⟩
def rZ(X:Cx)(r:V->ak Int->ak Int->Hp->VK->Prop):Prop:=
 ∀(aa:List (ah×Obj)) (s:aq) (Z:St) (H:Hp) (x:V) (v vl vu:aj) (lo hi:ak Int) (sl:ah) (Q:VK),Inv X aa Z H s->RelV x v->s.heap.IsSliceOf sl vl vu .none->IsPart vl lo->IsPart vu hi->r x lo hi H Q->
  ∃T id,typeLookup (.type T) "__getitem__"=pure (some (.builtin id))/\s.TypeIs v T/\wpAny (model X.prog X.w) X.A (getItem v (.ref sl)) (EP X aa Z Q) X.xe s
def rZ.or{r':V->ak Int->ak Int->Hp->VK->Prop}(h:rZ X r)(h':rZ X r'):rZ X (λx lo hi H Q=>r x lo hi H Q\/r' x lo hi H Q):=by
 intro aa s Z H x v vl vu lo hi sl Q I rx hs pl pu q;rcases q with q|q
 .exact h aa s Z H x v vl vu lo hi sl Q I rx hs pl pu q
 .exact h' aa s Z H x v vl vu lo hi sl Q I rx hs pl pu q
def tSl(r:V->ak Int->ak Int->Hp->VK->Prop)(te:TE)(tl th:TO):TE:=λZ H Q=>te Z H λx H1=>tl Z H1 λl H2=>th Z H2 λu H3=>r x l u H3 Q
def VB(hr:rZ X r)(he:PE X e te)(hl:PO X lo tl)(hu:PO X hi th):PE X (.Subscript e (.Slice lo hi none p2) pos) (tSl r te tl th):=by
 intro aa s Z H Q I h;refine Subscript_ (bA (he aa s Z H _ I h) λv s1 hh=>?_)
 obtain⟨x,H1,I1,r1,q1⟩:=hh;refine wpAny_Slice (bA (hl aa s1 Z H1 _ I1 q1) λvl s2 ⟨l,H2,I2,pl,q2⟩=>bA (hu aa s2 Z H2 _ I2 q2) λvu s3 ⟨u,H3,I3,pu,q3⟩=>?_)
 rw[evalPart_none];refine aQ ?_;have I4:Inv X aa Z H3 { s3 with heap:=s3.heap.push { cls:=.type "slice",data:=.fields #[vl,vu,.none]}}:=I3.kept (t':=s3.toks) λb ob q=>cO _ q
 obtain⟨T,id,hT,ht,hg⟩:=hr aa { s3 with heap:=s3.heap.push { cls:=.type "slice",data:=.fields #[vl,vu,.none]}} Z H3 x v vl vu l u s3.heap.objs.size Q I4 r1 (Heap.IsSliceOf.new ..) pl pu q3;show wpAny (model X.prog X.w) X.A (subscriptTail e (.Slice lo hi none p2) v (.ref s3.heap.objs.size)) (EP X aa Z Q) X.xe { s3 with heap:=s3.heap.push { cls:=.type "slice",data:=.fields #[vl,vu,.none]}};exact tail_any (ops:=[.ref s3.heap.objs.size,v]) ht hT hg (by with_unfolding_all rfl)
noncomputable def nG(xs:List V)(lo hi:ak Int):List V:=(xs.drop (HT.cw xs.length 0 lo)).take (HT.cw xs.length xs.length hi - HT.cw xs.length 0 lo)
def MU(xs:List V)(lo hi:ak Int):(nG xs lo hi).length<=xs.length:=by
 unfold nG;rw[z6,Hg];lia
def zO(K:PySem.W.Frag):V->ak Int->ak Int->Hp->VK->Prop:=λx lo hi H Q=>∃a xs,x=.ref a/\gu K H a xs/\
 ¬(HT.cw xs.length 0 lo=0/\HT.cw xs.length xs.length hi=xs.length)/\∀p,H p=none->Q (.ref p) (upd H p (.tup (nG xs lo hi)))
def e0g:rZ X (zO X.K):=by
 intro aa s Z H x v vl vu lo hi sl Q I rx hs pl pu h;obtain⟨a,xs,rfl,hx,hw,q⟩:=h;cases rx;obtain⟨aA,r,ht,hz⟩:=I.tuple hx;have hlen:aA.toArray.size=xs.length:=by rw[cZ];exact r.length.symm
 refine⟨"tuple",_,PyProof.Rows.slot_tuple_getitem.lookup,ht.typeIs,?_⟩;refine HT.iy ht hs pl pu (by rw[hlen];exact hw) ?_ (by rw[hlen];exact hz)
 rw[hlen];refine⟨.ref s.heap.objs.size,_,I.laid (t':=s.toks) (o:=.tup (nG xs lo hi)) (λb ob q=>cO _ q) (bF _) ?_,rfl,q _ (I.bj.fresh (bF _))⟩
 exact⟨i4 (MU xs lo hi) hz,_,(r.drop (HT.cw xs.length 0 lo)).take (HT.cw xs.length xs.length hi - HT.cw xs.length 0 lo),IsTup.new _ _⟩
end
variable{n j:Nat}{i:Int}{r:R2}{aa:List (ah×Obj)}{Z:St}{H:Hp}{s:aq}
def vw(n:Nat)(i:Int):ak Nat:=if 0<=i then(if i<n then some i.toNat else none) else if -(n:Int)<=i then some (i+n).toNat else none
def dC{α:Type}(xs:List α)(i:Int):ak α:=(vw xs.length i).bind λj=>xs[j]?
def OK(h:vw n i=some j):seqIndex? i n=some j/\j<n /\ -(n:Int)<=i/\i<n:=by
 unfold vw at h;by_cases h0:0<=i
 .rw[aP h0] at h;by_cases h1:i<n
  .rw[aP h1] at h;have e:i.toNat=j:=Option.some.inj h;exact⟨by rw[seqIndex_of h0 h1,e],by lia,by lia,h1⟩
  .rw[aK h1] at h;cases h
 .rw[aK h0] at h;by_cases h1:-(n:Int)<=i
  .rw[aP h1] at h;have e:(i+n).toNat=j:=Option.some.inj h;exact⟨by rw[seqIndex_neg (by lia) h1,e],by lia,h1,by lia⟩
  .rw[aK h1] at h;cases h
def IY{α:Type}{xs:List α}{v:α}(h:dC xs i=some v):∃j,seqIndex? i xs.length=some j/\xs[j]?=some v/\j<xs.length /\ -(xs.length:Int)<=i/\i<xs.length:=by
 unfold dC at h;cases e:vw xs.length i with
 |none=>rw[e] at h;cases h
 |some j=>
  rw[e] at h;obtain⟨h1,h2,h3,h4⟩:=OK e;exact⟨j,h1,h,h2,h3,h4⟩
def ra{α:Type}{xs:List α}{v:α}(h:xs[j]?=some v):dC xs (j:Int)=some v:=by
 have hj:j<xs.length:=(eR.mp h).1;have e:vw xs.length (j:Int)=some j:=by
  unfold vw;rw[aP (by lia),aP (by lia)];simp
 unfold dC;rw[e];exact h
def IZ(b:Expr):Prop:=∀o i,subscripted b false o i=operate [o,i] (getItem o i)
def qC(X:Cx)(r:R2):Prop:=
 ∀(value slice:Expr) (aa:List (ah×Obj)) (s:aq) (Z:St) (H:Hp) (x y:V) (v u:aj) (Q:VK),Inv X aa Z H s->RelV x v->RelV y u->r x y H Q->
  subscripted slice false v u=operate [v,u] (getItem v u)->wpAny (model X.prog X.w) X.A (subscriptTail value slice v u) (EP X aa Z Q) X.xe s
def HG(X:Cx)(id:String)(r:V->List V->Hp->VK->Prop):Prop:=
 ∀(aa:List (ah×Obj)) (s:aq) (Z:St) (H:Hp) (x:V) (xs:List V) (v:aj) (us:List aj) (Q:VK),Inv X aa Z H s->RelV x v->Vals xs us->r x xs H Q->
  wpAny (model X.prog X.w) X.A (call (.builtin id) (v::us)) (EP X aa Z Q) X.xe s
section
variable{X:Cx}{a b:Expr}{ta tb:TE}{pos:Pos}
def qC.or{r':R2}(h:qC X r)(h':qC X r'):qC X (λx y H Q=>r x y H Q\/r' x y H Q):=by
 intro value slice aa s Z H x y v u Q I rx ry q hs;rcases q with q|q
 .exact h value slice aa s Z H x y v u Q I rx ry q hs
 .exact h' value slice aa s Z H x y v u Q I rx ry q hs
def e5x(hr:qC X r)(ha:PE X a ta)(hb:PE X b tb)(hs:IZ b):PE X (.Subscript a b pos) (G6 r ta tb):=by
 intro aa s Z H Q I h;exact Subscript_ (yH ha hb I h λv u s2 x y H2 I2 rx ry q=>hr a b aa s2 Z H2 x y v u Q I2 rx ry q (hs _ _))
def zL(K:PySem.W.Frag):R2:=λx y H Q=>∃p xs i v,x=.ref p/\y=.int i/\cz K H p xs/\dC xs i=some v/\Q v H
def zM(K:PySem.W.Frag):R2:=λx y H Q=>∃p xs i v,x=.ref p/\y=.int i/\gu K H p xs/\dC xs i=some v/\Q v H
def DQ:R2:=λx y H Q=>∃z i c,x=.str z/\y=.int i/\z.length<=sizeLine/\dC z.cps.toList i=some c/\Q (.str ⟨#[c]⟩) H
def X6:qC X (zL X.K):=by
 intro value slice aa s Z H x y v u Q I rx ry h hs;obtain⟨p,xs,i,z,rfl,rfl,hq,he,q⟩:=h;cases rx;obtain⟨t,rfl⟩:=ry;obtain⟨aA,r,pl,hz⟩:=I.list hq;obtain⟨j,h1,h2,h3,h4,h5⟩:=IY he;obtain⟨w,ew,mT⟩:=r.get h2;have hl:=r.length;have hn:=yA;have fin:EP X aa Z Q w s:=⟨z,H,I,mT,q⟩;by_cases h0:0<=i
 .have hj:i.toNat=j:=by
   rw[seqIndex_of h0 h5] at h1;exact Option.some.inj h1
  exact item_listR pl.isList h0 (by lia) (by rw[hj];simpa using ew) fin hs
 .have hj:(i+(aA.toArray.size:Int)).toNat=j:=by
   rw[seqIndex_neg (by lia) h4] at h1
   rw[cZ,<-hl];exact Option.some.inj h1
  exact subscriptTail_builtinR (x:=w) pl.isList.typeIs slot_list_getitem.lookup
   (wpAny_getItem_list_neg (Q:=λr s'=>r=w/\EP X aa Z Q r s') pl.isList (by lia) (by rw[cZ] <;> lia) (by lia) (by rw[hj];simpa using ew) ⟨rfl,fin⟩) hs
def e0h:qC X (zM X.K):=by
 intro value slice aa s Z H x y v u Q I rx ry h hs;obtain⟨p,xs,i,z,rfl,rfl,hq,he,q⟩:=h;cases rx;obtain⟨t,rfl⟩:=ry;obtain⟨aA,r,pl,hz⟩:=I.tuple hq;obtain⟨j,h1,h2,h3,h4,h5⟩:=IY he;obtain⟨w,ew,mT⟩:=r.get h2;have hl:=r.length;have hn:=yA;have fin:EP X aa Z Q w s:=⟨z,H,I,mT,q⟩;exact subscriptTail_builtinR (x:=w) pl.typeIs slot_tuple_getitem.lookup
  (getItem_tuple (j:=j) (Q:=λr s'=>r=w/\EP X aa Z Q r s') pl (by lia) (by lia) (by rw[cZ,<-hl];exact h1) (by simpa using ew) ⟨rfl,fin⟩) hs
def zr:qC X DQ:=by
 intro value slice aa s Z H x y v u Q I rx ry h hs;obtain⟨z,i,c,rfl,rfl,hz,he,q⟩:=h;obtain⟨t,rfl⟩:=rx;obtain⟨t',rfl⟩:=ry;obtain⟨j,h1,h2,h3,h4,h5⟩:=IY he;have hl:z.cps.toList.length=z.length:=by simp[Str.length]
 rw[hl] at h1 h4 h5;have hn:=yA;exact tail_any (typeIs_str s z t) slot_str_getitem.lookup (getItem_str (c:=c) (by
  lia) (by rw[h1];simpa using h2) ⟨.str ⟨#[c]⟩,H,I.tok _,⟨_,rfl⟩,q⟩) hs
def Ti(aA:List aj)(n j:Nat)(u:aj):Obj.mapSeq (·.setIfInBounds j u) { cls:=.type "list",data:=.seq aA.toArray n}={ cls:=.type "list",data:=.seq (aA.set j u).toArray n}:=by
 simp[Obj.mapSeq]
def Inv.lst{aa:List (ah×Obj)}{Z:St}{H:Hp}{s:aq}{p:ah}{xs:List V}(I:Inv X aa Z H s)(h:H p=some (.lst xs)):
  ∃(aA:List aj) (n:Nat),Vals xs aA/\s.heap.get? p=some { cls:=.type "list",data:=.seq aA.toArray n}/\xs.length<=sizeLine:=by
 obtain⟨z,aA,n,r,e⟩:=I.bj p _ h;exact⟨aA,n,r,e,z⟩
def Inv.zw{p:ah}{xs ys:List V}{aA its':List aj}{n':Nat}{f:Obj->Obj}(I:Inv X aa Z H s)(h:H p=some (.lst xs))
  (ho:s.heap.get? p=some { cls:=.type "list",data:=.seq aA.toArray n}) (hf:f { cls:=.type "list",data:=.seq aA.toArray n}={ cls:=.type "list",data:=.seq its'.toArray n'}) (r:Vals ys its') (hz:ys.length<=sizeLine) (t:Nat) :
  Inv X aa Z (upd H p (.lst ys)) { s with heap:=s.heap.update p f,toks:=t}:=by
 have e:(s.heap.update p f).get? p=some { cls:=.type "list",data:=.seq its'.toArray n'}:=by
  rw[rC f ho (by rw[hf] <;> rfl),hf]
 refine I.write (x:=p) (e:=p) (by rw[h];trivial) (.inl rfl) (λb u hb q=>(pI _ _ (Ne.symm hb)).trans q) ⟨_,e⟩ ?_
 exact⟨hz,its',n',r,e⟩
def xI:V->V->V->Hp->(Hp->Prop)->Prop:=λo i v H Q=>∃p xs k j,o=.ref p/\i=.int k/\H p=some (.lst xs)/\vw xs.length k=some j/\Q (upd H p (.lst (xs.set j v)))
def VC:uK X xI:=by
 intro aa s Z H o i v ov iv u Q I ro ri rv h;obtain⟨p,xs,k,j,rfl,rfl,hp,hj,q⟩:=h;cases ro;obtain⟨t,rfl⟩:=ri;obtain⟨aA,n,r,ho,hz⟩:=I.lst hp;obtain⟨h1,h2,h3,h4⟩:=OK hj;have hl:=r.length;have hn:=yA;have I':Inv X aa Z (upd H p (.lst (xs.set j v))) { s with heap:=s.heap.update p (Obj.mapSeq (·.setIfInBounds j u))}:=
  I.zw hp ho (Ti aA n j u) (r.set rv j) (by rw[m9];exact hz) s.toks
 by_cases h0:0<=k
 .have hk:k.toNat=j:=by
   rw[seqIndex_of h0 h4] at h1;exact Option.some.inj h1
  exact PySem.W.ki_setAt ho h0 (by lia) (by rw[cZ,<-hl];exact h4) (by rw[hk];exact⟨_,I',q⟩)
 .have hk:(k+(aA.toArray.size:Int)).toNat=j:=by
   rw[seqIndex_neg (by lia) h3] at h1
   rw[cZ,<-hl];exact Option.some.inj h1
  exact PySem.W.ki_setBack ho (by lia) (by rw[cZ,<-hl];exact h3) (by lia) (by rw[hk];exact⟨_,I',q⟩)
def Sz(lo hi:ak Int)(n:Nat):(sliceBounds lo hi none n).1=((HT.cw n 0 lo:Nat):Int)/\(sliceBounds lo hi none n).2.1=((HT.cw n n hi:Nat):Int)/\(sliceBounds lo hi none n).2.2=1:=by
 refine⟨?_,?_,rfl⟩
 .cases lo with
  |none=>simp[sliceBounds,HT.cw]
  |some i=>
   simp only[sliceBounds,HT.cw,Option.getD_none,show(1:Int) > 0 by decide,uD]
   by_cases h:i<0
   .simp only[h,uD] <;> lia
   .simp only[h,m_] <;> lia
 .cases hi with
  |none=>simp[sliceBounds,HT.cw]
  |some i=>
   simp only[sliceBounds,HT.cw,Option.getD_none,show(1:Int) > 0 by decide,uD]
   by_cases h:i<0
   .simp only[h,uD] <;> lia
   .simp only[h,m_] <;> lia
def Sr(aA:List aj)(lo hi:ak Int):slicePick aA.toArray lo hi none=((aA.drop (HT.cw aA.length 0 lo)).take (HT.cw aA.length aA.length hi - HT.cw aA.length 0 lo)).toArray:=by
 obtain⟨h1,h2,h3⟩:=Sz lo hi aA.toArray.size;unfold slicePick;rw[h1,h2,h3];simp only[sliceRange_one,pick_run,cZ] <;> rfl
def zN(K:PySem.W.Frag):V->ak Int->ak Int->Hp->VK->Prop:=λx lo hi H Q=>∃a xs,x=.ref a/\cz K H a xs/\∀p,H p=none->Q (.ref p) (upd H p (.lst (nG xs lo hi)))
def X7:rZ X (zN X.K):=by
 intro aa s Z H x v vl vu lo hi sl Q I rx hs pl pu h;obtain⟨a,xs,rfl,hx,q⟩:=h;cases rx;obtain⟨aA,r,ht,hz⟩:=I.list hx;have hlen:=r.length;refine⟨"list",_,slot_list_getitem.lookup,ht.isList.typeIs,?_⟩;refine wpAny_getItem_list_slice ht.isList hs pl pu .none (by simp) ?_ (by rw[cZ] <;> lia)
 rw[Sr,<-hlen];refine⟨.ref s.heap.objs.size,_,I.laid (t':=s.toks) (o:=.lst (nG xs lo hi)) (λb ob q=>cO _ q) (bF _) ?_,rfl,q _ (I.bj.fresh (bF _))⟩
 exact⟨i4 (MU xs lo hi) hz,_,0,(r.drop (HT.cw xs.length 0 lo)).take (HT.cw xs.length xs.length hi - HT.cw xs.length 0 lo),jr _ rfl⟩
def wM:V->Bool
 |.aG=>true
 |.bl _=>true
 |.int _=>true
 |.str _=>true
 |_=>false
noncomputable def eqV:V->V->Bool
 |.aG,.aG=>true
 |.bl a,.bl b=>a == b
 |.bl a,.int b=>(if a then 1 else 0) == b
 |.int a,.bl b=>a == (if b then 1 else 0)
 |.int a,.int b=>a == b
 |.str a,.str b=>a == b
 |_,_=>false
def SA:bH X (.builtin "len") (λxs H Q=>∃p ys,xs=[.ref p]/\(cz X.K H p ys\/gu X.K H p ys)/\Q (.int ys.length) H):=by
 intro aa s Z H xs us Q I r h;obtain⟨p,ys,rfl,hq,q⟩:=h;obtain⟨u,rfl,rx⟩:=vals1 r;cases rx;have hn:=yA;rcases hq with hq|hq
 .obtain⟨aA,r',pl,hz⟩:=I.list hq;have hlen:=r'.length;exact Calls.call_len_list pl.isList (by simp only[cZ] <;> lia) ⟨.int ys.length,H,I.tok _,⟨s.toks+1,by rw[cZ,hlen]⟩,q⟩
 .obtain⟨aA,r',pl,hz⟩:=I.tuple hq;have hlen:=r'.length;exact len_tuple pl (by simp only[cZ] <;> lia) ⟨.int ys.length,H,I.tok _,⟨s.toks+1,by rw[cZ,hlen]⟩,q⟩
def mr:bH X (.builtin "len") (λxs H Q=>∃z,xs=[.str z]/\z.length<=sizeLine/\Q (.int z.length) H):=by
 intro aa s Z H xs us Q I r h;obtain⟨z,rfl,hz,q⟩:=h;obtain⟨u,rfl,t,rfl⟩:=vals1 r;have hn:=yA;exact len_str (by lia) ⟨.int z.length,H,I.tok _,⟨_,rfl⟩,q⟩
def bH.or{f:aj}{r r':List V->Hp->VK->Prop}(h:bH X f r)(h':bH X f r'):bH X f (λxs H Q=>r xs H Q\/r' xs H Q):=by
 intro aa s Z H xs us Q I rs q;rcases q with q|q
 .exact h aa s Z H xs us Q I rs q
 .exact h' aa s Z H xs us Q I rs q
def SD:bH X (.type "list") (λxs H Q=>∃p ys,xs=[.ref p]/\(cz X.K H p ys\/gu X.K H p ys)/\∀l,H l=none->Q (.ref l) (upd H l (.lst ys))):=by
 intro aa s Z H xs us Q I r h;obtain⟨p,ys,rfl,hq,q⟩:=h;obtain⟨u,rfl,rx⟩:=vals1 r;cases rx;have fin:∀(aA:List aj),Vals ys aA->ys.length<=sizeLine->∀(h':bM) (c':Nat),(∀b o',s.heap.get? b=some o'->h'.get? b=some o')->
   h'.get? s.heap.objs.size=some { cls:=.type "list",dict:=none,data:=.seq aA.toArray c',slots:=#[]}->EP X aa Z Q (.ref s.heap.objs.size) { s with heap:=h'}:=λaA r' hz h' c' kp e=>
  ⟨.ref s.heap.objs.size,_,I.laid (t':=s.toks) kp (bF _) (show bp X.prog X.w _ h' _ (.lst ys) from⟨hz,aA,c',r',e⟩),rfl,q _ (I.bj.fresh (bF _))⟩
 rcases hq with hq|hq
 .obtain⟨aA,r',pl,hz⟩:=I.list hq;have hlen:=r'.length;obtain⟨o,ho,hc,n,hd⟩:=pl.isList;exact call_list_seq p (.inl rfl) ho hc hd (λh' c' kp e=>fin aA r' hz h' c' kp e) (by simp only[cZ] <;> lia)
 .obtain⟨aA,r',pl,hz⟩:=I.tuple hq;have hlen:=r'.length;obtain⟨o,ho,hc,n,hd⟩:=pl;exact call_list_seq p (.inr rfl) ho hc hd (λh' c' kp e=>fin aA r' hz h' c' kp e) (by simp only[cZ] <;> lia)
def G_(K:PySem.W.Frag)(T:String)(x:V)(H:Hp):Prop:=match x with
 |.str _=>T="str"
 |.int _=>T="int"
 |.ref p=>(T="list"/\∃xs,cz K H p xs)\/(T="tuple"/\∃o,K.lookup p=some o/\o.cls=.type "tuple"/\o.dict=none)\/
   (T="dict"/\((∃kvs,H p=some (.dK kvs))\/(∃kvs,H p=some (.dT kvs))\/∃es ep,H p=some (.dG es ep)))\/(T="set"/\∃S n,H p=some (.set S n))
 |_=>False
def PR{T:String}{x:V}{v:aj}(I:Inv X aa Z H s)(r:RelV x v)(ty:G_ X.K T x H):
  s.TypeIs v T/\∀a,v=.ref a->∃ob,s.heap.get? a=some ob/\ob.dict=none:=by
 cases x with
 |str z=>
  obtain⟨t,rfl⟩:=r;cases(show T="str" from ty);exact⟨typeIs_str s z t,λ_ e=>nomatch e⟩
 |int i=>
  obtain⟨t,rfl⟩:=r;cases(show T="int" from ty);exact⟨typeIs_int s i t,λ_ e=>nomatch e⟩
 |ref p=>
  cases r;rcases ty with⟨rfl,xs,hq⟩|⟨rfl,o,hk,hc,hd⟩|⟨rfl,hk⟩|⟨rfl,S,n,hk⟩
  .obtain⟨aA,_,pl,_⟩:=I.list hq;refine⟨pl.isList.typeIs,λa e=>?_⟩
   cases e;obtain⟨o,n,e,c,hd,_⟩:=pl;exact⟨o,e,hd⟩
  .refine⟨⟨o,I.jN p o hk,hc⟩,λa e=>?_⟩
   cases e;exact⟨o,I.jN _ o hk,hd⟩
  .have z:∃o,s.heap.get? p=some o/\o.ExactDict:=by
    rcases hk with⟨kvs,hk⟩|⟨kvs,hk⟩|⟨es,ep,hk⟩
    .obtain⟨_,_,_,_,o,_,_,e,ex,_⟩:=I.bj p _ hk;exact⟨o,e,ex⟩
    .obtain⟨_,_,_,_,o,_,_,e,ex,_⟩:=I.bj p _ hk;exact⟨o,e,ex⟩
    .obtain⟨_,_,o,_,e,ex,_⟩:=I.bj p _ hk;exact⟨o,e,ex⟩
   obtain⟨o,e,ex⟩:=z;refine⟨⟨o,e,ex.1⟩,λa e2=>?_⟩
   cases e2;exact⟨o,e,ex.2.1⟩
  .obtain⟨o,_,_,_,e,ex,_⟩:=I.bj p _ hk;refine⟨⟨o,e,ex.1⟩,λa e2=>?_⟩
   cases e2;exact⟨o,e,ex.2.1⟩
 |_=>exact False.elim ty
def LF(K:PySem.W.Frag)(T:String)(r:V->List V->Hp->VK->Prop)(to:TE)(t:TA):TE:=λZ H Q=>to Z H λx H1=>G_ K T x H1/\t Z H1 λxs H2=>r x xs H2 Q
variable{o e:Expr}{es:List Expr}{to:TE}{t:TA}{name:Str}{apos bI:Pos}{T id:String}{r:V->List V->Hp->VK->Prop}
def QJ(pa:PlainAttrs T)(slot:Slot T name id)(vp:typeOf (.builtin id)=pure (.type "method_descriptor"))(hm:HG X id r)(ho:PE X o to)(ha:PA X (e::es) t)
  (dW:attributeBase o name X.env (eval o X.env)=eval o X.env:=by rfl)
  (sO:((backTo bI (starEach (e::es) X.env)).all (λx => !x.1)&&(backToKw bI (keywordEach [] X.env)).all (λx=>x.1.isSome) && decide ((e::es).length+([]:List Keyword).length+(if([]:List Keyword).isEmpty then 0 else 1)<30))=true:=by rfl)
  (dX:(apos.endLine == bI.line)=true:=by rfl) (hs:starEach (e::es) X.env=(false,eval e X.env)::starEach es X.env:=by rfl) (kz:(backTo bI (starEach es X.env)).any (·.1)=false:=by rfl) :
  PE X (.Call (.Attribute o name apos) (e::es) [] bI) (LF X.K T r to t):=by
 intro aa s Z H Q I h;refine wpAny_Call_method_late dW sO dX rfl (bA (ho aa s Z H _ I h) λv s1 hh=>?_)
 obtain⟨x,H1,I1,r1,ty,q1⟩:=hh;obtain⟨h1,h2⟩:=PR I1 r1 ty;refine⟨T,id,pa,slot,vp,h1,h2,?_⟩;have hA:=ha bI aa s1 Z H1 _ I1 q1;rw[hs] at hA ⊢;refine Calls.callWith_builtin (by show(false || (backTo bI (starEach es X.env)).any (·.1))=false;rw[kz] <;> rfl) (Calls.evalArgs_plain ?_)
 exact bA hA λus s2 ⟨vs,H2,I2,r2,q2⟩=>hm aa s2 Z H2 x vs v us Q I2 r1 r2 q2
end
variable{x:V}{us aA:List aj}{t':Nat}
def Ag(X:Cx)(id:String)(r:V->List V->Hp->VK->Prop):Prop:=
 ∀(aa:List (ah×Obj)) (s:aq) (Z:St) (H:Hp) (x:V) (xs:List V) (v:aj) (us:List aj) (Q:VK),Inv X aa Z H s->RelV x v->Vals xs us->r x xs H Q->
  wpAny (model X.prog X.w) X.A (call (.builtin id) (v::us)) (EP X aa Z Q) X.xe s
def Vals.one(h:Vals [x] us):∃u,us=[u]/\RelV x u:=by
 cases h with
 |cons r t=>
  cases t;exact⟨_,rfl,r⟩
def Vals.two{y:V}(h:Vals [x,y] us):∃u v,us=[u,v]/\RelV x u/\RelV y v:=by
 cases h with
 |cons r t=>
  obtain⟨v,rfl,q⟩:=Vals.one t;exact⟨_,_,rfl,r,q⟩
section
variable{X:Cx}{aa:List (ah×Obj)}{Z:St}{H:Hp}{s:aq}{l b:ah}{xs ys zs:List V}
def Inv.zu{its':List aj}{n:Nat}{f:Array aj->Array aj}(I:Inv X aa Z H s)(hH:H l=some (.lst xs))
  (e:s.heap.get? l=some { cls:=.type "list",data:=.seq aA.toArray n}) (hf:f aA.toArray=its'.toArray) (hv:Vals ys its') (hz:ys.length<=sizeLine) :
  Inv X aa Z (upd H l (.lst ys)) { s with heap:=s.heap.update l (Obj.mapSeq f),toks:=t'}:=by
 have q:=PySem.IsL.update e f;rw[hf] at q;refine I.write (x:=l) (e:=l) (by rw[hH];exact trivial) (.inl rfl) (λb' u hb hu=>(pI s.heap (Obj.mapSeq f) (Ne.symm hb)).trans hu) ⟨_,q⟩ ?_
 exact⟨hz,its',_,hv,q⟩
def Inv.K1(I:Inv X aa Z H s)(hv:Vals ys aA)(hz:ys.length<=sizeLine):
  Inv X aa Z (upd H s.heap.objs.size (.lst ys)) { s with heap:=s.heap.push { cls:=.type "list",data:=.seq aA.toArray},toks:=t'}:=
 I.laid (λ_ _ q=>cO _ q) (bF _) ⟨hz,aA,0,hv,jr _ rfl⟩
theorem Inv.fresh(I:Inv X aa Z H s):H s.heap.objs.size=none:=I.bj.fresh (bF _)
def Inv.zv(I:Inv X aa Z H s)(hH:H l=some (.lst xs)):xs.length<=sizeLine/\∃(aA:List aj) (n:Nat),Vals xs aA/\xs.length=aA.length/\s.heap.get? l=some { cls:=.type "list",data:=.seq aA.toArray n}:=by
 obtain⟨z,aA,n,r,e⟩:=I.bj l _ hH;exact⟨z,aA,n,r,r.length,e⟩
end
section
variable{X:Cx}
def OL:V->List V->Hp->VK->Prop:=λx vs H Q=>∃l xs y,x=.ref l/\vs=[y]/\H l=some (.lst xs)/\xs.length<sizeLine/\Q .aG (upd H l (.lst (xs++[y])))
theorem Ui:Ag X "list.append" OL:=by
 intro aa s Z H x vs v us Q I rx rv h;obtain⟨l,xs,y,rfl,rfl,hH,hz,q⟩:=h;cases rx;obtain⟨u,rfl,ru⟩:=rv.one;obtain⟨z,aA,n,r,hl,e⟩:=I.zv hH;refine call_meets F.slot_list_append ⟨_,e,rfl⟩ F.entry_list_append (F.args_list_append_2 _ _) (PySem.list_append l aA.toArray n u (by rw[cZ];lia)) ⟨e,?_⟩
 refine⟨.aG,_,I.zu (its':=aA++[u]) hH e (by simp) (r.append (.cons ru .nil)) ?_,rfl,q⟩
 rw[cP,pJ];lia
end
section
variable{prog:cS}{w:cg}{A:cD}{E:aj->aq->Prop}{s:aq}
end
section
variable{X:Cx}
end
section
variable{κ:Type}[DecidableEq κ]
def g8.qO{o:ak V}{u:ak aj}(r:g8 o u):o.isSome=u.isSome:=by
 cases o with
 |none=>cases u with
  |none=>rfl
  |some _=>exact(show False from r).elim
 |some _=>cases u with
  |none=>exact(show False from r).elim
  |some _=>rfl
end
variable{X:Cx}{pos:Pos}
section
variable{P:cS}{w:cg}{H:Hp}{h:bM}{a:ah}
end
section
variable{X:Cx}{aa:List (ah×Obj)}{Z:St}{H:Hp}{s:aq}{a:ah}{y v:V}{u r:aj}{o:ak V}{A:cD}{E:aj->aq->Prop}
def Inv.big(I:Inv X aa Z H s):sysModules<s.heap.objs.size:=by
 have h:mainGlobals<s.heap.objs.size:=(I.mod.glob.keeps I.bk).lt;exact Nat.lt_trans (by decide) h
def I_{h':bM}{t':Nat}{ob:HO}(I:Inv X aa Z H s)(mu:BD (H a))(hs:Heap.SameBut a s.heap h')(he:∃q,h'.get? a=some q)(new:bp X.prog X.w (upd H a ob) h' a ob):
  Inv X aa Z (upd H a ob) { s with heap:=h',toks:=t'}:=
 I.write (x:=a) (e:=a) mu (.inl rfl) (λb q hb z=>(hs.2 b hb).trans z) he new
end
section
variable{X:Cx}{aa:List (ah×Obj)}{Z:St}{H:Hp}{s:aq}{a:ah}{kvs:List (Key×V)}{k:Key}{u:aj}{A:cD}{E:aj->aq->Prop}
end
section
variable{X:Cx}{o i e value:Expr}{pos pos' eW:Pos}{td ty tv:TE}
end
section
variable{X:Cx}{pos:Pos}
end
def FQ:List (TE×TE)->St->Hp->(List (V×V)->Hp->Prop)->Prop
 |[],_,H,Q=>Q [] H
 |(tk,tv)::r,Z,H,Q=>tk Z H λx H1=>tv Z H1 λy H2=>FQ r Z H2 λps H3=>Q ((x,y)::ps) H3
abbrev VV:List (V×V)->List (aj×aj)->Prop:=Paired λp q=>RelV p.1 q.1/\RelV p.2 q.2
def Ah(X:Cx)(pos:Pos)(keys:List (ak Expr))(values:List Expr)(vO:List (TE×TE)):Prop:=
 ∀(aa:List (ah×Obj)) (s:aq) (Z:St) (H:Hp) (Q:List (V×V)->Hp->Prop),Inv X aa Z H s->FQ vO Z H Q->
  wpAny (model X.prog X.w) X.A (evalPairs (pairTrees keys values X.env pos)) (λvs s'=>∃ps H',Inv X aa Z H' s'/\VV ps vs/\Q ps H') X.xe s
def vF:Ah X pos [] [] []:=λaa s Z H Q I h=>pairTrees_nil_walk ⟨[],H,I,.nil,h⟩
def tK{k v:Expr}{ks:List (ak Expr)}{vs:List Expr}{tk tv:TE}{vO:List (TE×TE)}(hk:PE X k tk)(hv:PE X v tv)(hr:Ah X pos ks vs vO):
  Ah X pos (some k::ks) (v::vs) ((tk,tv)::vO):=λaa s Z H Q I h=>
 pairTrees_cons_walk (bA (hk aa s Z H _ I h) λu s1 ⟨x,H1,I1,rx,q1⟩=>bA (hv aa s1 Z H1 _ I1 q1) λw2 s2 ⟨y,H2,I2,ry,q2⟩=> bA (hr aa s2 Z H2 _ I2 q2) λws s3 ⟨ps,H3,I3,rel,q3⟩=>⟨(x,y)::ps,H3,I3,.cons ⟨rx,ry⟩ rel,q3⟩)
structure M1 (X:Cx) (o:Expr) (m:Str) (apos:Pos) (e:Expr) (bI:Pos):Prop where
 base:attributeBase o m X.env (eval o X.env)=eval o X.env
 few:((backTo bI (starEach [e] X.env)).all (λx => !x.1)&&(backToKw bI (keywordEach [] X.env)).all (λx=>x.1.isSome) && decide (([e]:List Expr).length+([]:List Keyword).length+(if([]:List Keyword).isEmpty then 0 else 1)<30))=true
 line:(apos.endLine == bI.line)=true
 trees:backTo bI (starEach [e] X.env)=[(false,eval e X.env)]
structure M2 (X:Cx) (o:Expr) (m:Str) (apos:Pos) (e f:Expr) (bI:Pos):Prop where
 base:attributeBase o m X.env (eval o X.env)=eval o X.env
 few:((backTo bI (starEach [e,f] X.env)).all (λx => !x.1)&&(backToKw bI (keywordEach [] X.env)).all (λx=>x.1.isSome) && decide (([e,f]:List Expr).length+([]:List Keyword).length+(if([]:List Keyword).isEmpty then 0 else 1)<30))=true
 line:(apos.endLine == bI.line)=true
 trees:backTo bI (starEach [e,f] X.env)=[(false,eval e X.env),(false,eval f X.env)]
section
variable{X:Cx}{aa:List (ah×Obj)}{Z:St}{H:Hp}{s:aq}{a:ah}{y d:V}{u r:aj}{o:ak V}{A:cD}{E:aj->aq->Prop}
end
section
variable{X:Cx}{o e f:Expr}{apos bI:Pos}{td ty tx:TE}
end
section
variable{X:Cx}{aa:List (ah×Obj)}{Z:St}{H:Hp}{s:aq}{a:ah}{kvs:List (Key×V)}{A:cD}{E:aj->aq->Prop}
end
section
variable{X:Cx}{aa:List (ah×Obj)}{Z:St}{H:Hp}{s:aq}{a:ah}{y:V}{u:aj}{A:cD}{E:aj->aq->Prop}
end
end L2
namespace Mq
open PySem PySem.W PySem.Calls PyProof.Rows
variable{P:Params}{h:bM}{l:OpenLaw}{n:Nat}
def Sg:∀(ns:List Int) (vs:List aj),WellAll P h vs (ns.map WData.int)->IntsAre vs ns:=by
 intro ns
 induction ns with
 |nil=>
  intro vs w;rw[z7] at w;cases w;exact .nil
 |cons n ns ih=>
  intro vs w;rw[bL] at w;cases w with
  |cons a b=>
   cases a;exact .cons _ _ (ih _ b)
def Uj(hn:l.most=some n){args:List WData}{vals:List aj}
  (vn:l.row.toRowW.claim.pre args=true) (GL:WellAll P h vals args) :
  ∃a vs ns,vals=[Value.ref a]/\args=[WData.list (ns.map WData.int)]/\h.get? a=some { cls:=.type "list",data:=.seq vs.toArray}/\IntsAre vs ns/\ns.length<=n:=by
 have hsh:WShape.hasAll [] args [.list .int]=true:=(pre_splitW vn).1;have hc:l.pre.holds [] { args:=args}=true:=(pre_splitW vn).2;obtain⟨d,r,rfl,h1,h2⟩:=hasAllW_cons hsh;obtain rfl:=hasAllW_nil h2;obtain⟨xs,rfl,h3⟩:=hasW_list h1;obtain⟨ns,rfl⟩:=items_int h3;have hlen:ns.length<=n:=by
  unfold OpenLaw.pre at hc;have h4:(WTm.not (.lt (.lit (.int (n:Int))) (.len (.arg 0)))).holds [] { args:=[.list (ns.map .int)]}=true:=by
   have h4:=(holds_andW hc).1;rw[hn] at h4;exact h4
  have h5:=condW_of h4 (w_not (w_lt w_lit (w_len_list (w_arg rfl))))
  simp_all
 cases GL with
 |cons w1 w2=>
  cases w2;cases w1 with
  |list ho jz=>exact⟨_,_,ns,rfl,rfl,ho,Sg ns _ jz,hlen⟩
def Uk(l:OpenLaw)(args:List WData):l.row.toRowW.claim.post args (.bool true) args=true:=
 postW_of (r:=l.row.toRowW) (X:=(true == true))
  (show WShape.has [] (.bool true) .bool=true by first|rfl|decide|simp[WShape.has,WShape.arms,WShape.armsAll])
  (show(WTm.eq .res (.lit (.bool true))).value [] { args:=args,res:=some (.bool true),after:=args}=some (.bool (true == true)) from w_eq_bool (w_res rfl) w_lit) rfl
def nC{q:cS}{loose:List Str}{XP:(Str->ak aj)->bM->Prop}{YP:cg->bM->Prop}{d:DefRec}
  (hn:l.most=some n) (C6:d.params.defaults=[])
  (call:∀(w:cg) (s₀ s₁:aq) (mg mb:Str->ak aj) (fa:ah) (o:Obj) (pm cd doc:aj) (a:ah) (vs:List aj) (ns:List Int),Ground q loose [] XP w s₀ mg mb s₁.heap->YP w s₁.heap-> s₁.heap.get? fa=some o->o.data=.func (docDef d.name d.params d.body d.scope pm cd doc)->s₁.heap.CodeRec cd d.name->mg d.name=some (.ref fa)-> s₁.heap.get? a=some { cls:=.type "list",data:=.seq vs.toArray}->IntsAre vs ns->ns.length<=n->s₁.gens=#[]-> codeAny (model l.prog w) callerA (.call (.ref fa) ⟨[.ref a],[]⟩) (λr s'=>r=.ok (.ret (.bool true))/\OldK s₁.heap s'.heap/\s'.os=s₁.os/\AllBare s'.gens) s₁) :
  WalkO q loose XP YP l.row.toRowW d [] (λf vs=>PySem.call f vs):=by
 intro w s₀ s₁ mg mb G Y fa o pm cd doc dV kV ho hd qK hD hmg hg args vals as vn hlay hrd GL hlo;obtain rfl:dV=.none:=Dflts.none hD C6;obtain rfl:kV=.none:=Dflts.noKw hD;obtain⟨a,vs,ns,rfl,rfl,zg,hints,hlen⟩:=Uj hn vn GL;refine enter_call (codeAny_mono (call w s₀ s₁ mg mb fa o pm cd doc a vs ns G Y ho (fd_plain hd) qK hmg zg hints hlen hg) λr s' hq=>?_)
 obtain⟨rfl,h2,h3,h4⟩:=hq;exact⟨.inl ⟨.bool true,.bool true,[],rfl,λ_=>rfl,.bool true,Uk l _,λ_=>⟨List.Pairwise.nil,λ_ hm=>(nomatch hm)⟩⟩,h2,h3,h4⟩
section
variable{prog:cS}{w:cg}{A:cD}{E:aj->aq->Prop}{s:aq}{K:Frag}
end
end Mq
namespace L2
open PySem PySem.Spec PyProof.Rows
theorem Nu:∀{vs:List aj} {ns:List Int},IntsAre vs ns->Vals (ns.map V.int) vs
 |_,_,.nil=>.nil
 |_,_,.cons n t h=>.cons ⟨t,rfl⟩ (Nu h)
def yb(H:Hp):Prop:=∀b,H b=none\/∃o xs,H b=some (.Y o (.lst xs))
def VD{P:cS}{w:cg}{K:PySem.W.Frag}{mg mb:Str->ak aj}{CX:t_}{k:Nat}{fa a:ah}{fd:bV}{x:Str}{sp:Sp}{s₁:aq}{vs:List aj}{ns:List Int}
  (KX:K.In s₁.heap) (GK:s₁.heap.Ns mainGlobals mg) (hb:s₁.heap.Ns builtinsNs mb) (hbb:∀x:Str,x≠"__name__"->mb x=bootBuiltins x) (Ko:s₁.heap.NoLimit) (hg:s₁.gens=#[])
  (ha:s₁.heap.get? a=some { cls:=.type "list",data:=.seq vs.toArray}) (hi:IntsAre vs ns) (hl:ns.length<=sizeLine) (hr:bY k callerA)
  (F:∀base:bM,K.In base->base.Ns mainGlobals mg->de P w K mg base CX k fa fd [x] sp) (C3:∀(s:aq) (u:aj),BindsTo s fd ⟨[u],[]⟩ [(x,u)])
  (wV:∀H:Hp,yb H->cz K H a (ns.map V.int)->sp [.ref a] H (λv _=>v=.bl true) λ_ _ _=>False)
  (J7:∀H e s',CX [] H s₁ (λ_ _ _=>False) e s'->False) :
  codeAny (model P w) callerA (.call (.ref fa) ⟨[.ref a],[]⟩) (λr s'=>r=.ok (.ret (.bool true))/\OldK s₁.heap s'.heap/\s'.os=s₁.os/\AllBare s'.gens) s₁:=by
 have rv:=Nu hi;have KZ:=hi.length;have core:∀H:Hp,yb H->cz K H a (ns.map V.int)->iO P w H s₁.heap->(∀b,H b≠none->b=a)->(H a≠none->K.lookup a=none)->
   codeAny (model P w) callerA (.call (.ref fa) ⟨[.ref a],[]⟩) (λr s'=>r=.ok (.ret (.bool true))/\OldK s₁.heap s'.heap/\s'.os=s₁.os/\AllBare s'.gens) s₁:=by
  intro H hO hS bj hA hK;have pT:∀{b:ah} {o:Obj},s₁.heap.get? b=some o->H b=none->(mD s₁.heap H).get? b=some o:=λe n=>Vo e n
  have DD:∀{b:ah} {o:Obj} {es:Array DictEntry} {ep:Nat},s₁.heap.get? b=some o->o.data=.dict es ep->H b=none:=λ{b o es ep} e d=>by
   grind
  have GY:∀{b:ah} {m:Str->ak aj},s₁.heap.Ns b m->(mD s₁.heap H).Ns b m:=λ{b m} ⟨o,es,ep,e,d,r⟩=>⟨o,es,ep,pT e (DD e d),d,r⟩
  have Q4:K.In (mD s₁.heap H):=λb o e=>pT (KX b o e) (by
   grind)
  have hM:Mod K mg (mD s₁.heap H):=⟨Q4,GY GK,⟨mb,GY hb,hbb⟩,let ⟨mc,h1,h2⟩:=Ko;⟨mc,GY h1,h2⟩⟩
  have e0:oV P w K mg (mD s₁.heap H) callerA [] s₁ H:=⟨rfl,hM,λb o e=>Xw e,Hf (T5 _ _),trivial,λb hb=>bW (show b∈([]:List ah) from hb) (by simp),bj,.of_eq hg⟩
  refine codeAny_mono ((F _ Q4 (GY GK)).run callerA [] s₁ H ⟨[.ref a],[]⟩ [.ref a] [.ref a] _ _ hr e0 (C3 s₁ (.ref a)) (.cons rfl .nil) (wV H hO hS)) λr s' h=>?_
  cases r with
  |error e=>exact(J7 H e s' h).elim
  |ok fl=>
   cases fl with
   |next=>exact False.elim h
   |brk=>exact False.elim h
   |cont=>exact False.elim h
   |ret u=>
    obtain⟨v,H',os,bare,un,Ks,r',q⟩:=h;have q':v=.bl true:=q;subst q';obtain rfl:u=Value.bool true:=r';refine⟨rfl,OldK.of_keep λb o e=>?_,os,bare⟩
    cases q:H b with
    |none=>exact un.keep b o e q (by intro z;exact bW (show b∈([]:List ah) from z) (by simp)) (by simp)
    |some u=>
     rcases hO b with z|⟨ob,xs,z⟩
     .rw[q] at z;cases z
     .have z2:=un.kr b ob _ z;obtain⟨e1,_⟩:=bj b _ z;obtain⟨e2,_⟩:=Ks b _ z2
      lia
 cases hk:K.lookup a with
 |some o=>
  have e:=KX a o hk;rw[ha] at e;cases e;refine core (λ_=>none) (λ_=>.inl rfl) (.inr ⟨_,vs.toArray,_,hk,rfl,rfl,rfl,by rw[cZ,KZ];exact hl,by simpa using rv⟩) (λb u z=>by have z':(none:ak HO)=some u:=z;cases z') (λb z=>bW rfl z) λz=>bW rfl z
 |none=>
  refine core (λb=>if b=a then some (.Y { cls:=.type "list",data:=.seq vs.toArray} (.lst (ns.map V.int))) else none) (λb=>?_) (.inl (.inr ⟨{ cls:=.type "list",data:=.seq vs.toArray},aP rfl⟩)) (λb u z=>?_) (λb z=>?_) λ_=>hk
  .by_cases hb:b=a
   .exact .inr ⟨_,_,aP hb⟩
   .exact .inl (aK hb)
  .by_cases hb:b=a
   .have z':=(aP hb).symm.trans z;cases z';subst hb;exact⟨ha,by rw[bc];exact hl,vs,_,rv,ha⟩
   .have z':=(aK hb).symm.trans z;cases z'
  .by_cases hb:b=a
   .exact hb
   .exact bW (aK hb) z
def vW{l:PySem.W.OpenLaw}{n k:Nat}{q:cS}{loose:List Str}{XP:(Str->ak aj)->bM->Prop}{YP:cg->bM->Prop}{d:DefRec}{K:Params->PySem.W.Frag}{CX:cg->t_}{sp:cg->Sp}{x:Str}
  (hn:l.most=some n) (y_:n<=sizeLine) (C6:d.params.defaults=[]) (hr:bY k callerA)
  (hY:∀(w:cg) (h:bM),YP w h->(K w.params).In h)
  (F:∀(w:cg) (mg:Str->ak aj) (fa:ah) (h:bM),(K w.params).In h->h.Ns mainGlobals mg->mg d.name=some (.ref fa)-> ∃fd:bV,(∀(s:aq) (u:aj),BindsTo s fd ⟨[u],[]⟩ [(x,u)])/\ ∀base:bM,(K w.params).In base->base.Ns mainGlobals mg->de l.prog w (K w.params) mg base (CX w) k fa fd [x] (sp w))
  (wV:∀(w:cg) (H:Hp) (a:ah) (ns:List Int),ns.length<=n->yb H->cz (K w.params) H a (ns.map V.int)->sp w [.ref a] H (λv _=>v=.bl true) λ_ _ _=>False)
  (J7:∀(w:cg) (H:Hp) (s:aq) (e:aj) (s':aq),CX w [] H s (λ_ _ _=>False) e s'->False) :
  PySem.W.WalkO q loose XP YP l.row.toRowW d [] (λf vs=>PySem.call f vs):=by
 refine Mq.nC hn C6 λw s₀ s₁ mg mb fa o pm cd doc a vs ns G Y ho hd qK hmg zg hints hlen hg=>?_
 have KX:=hY w _ Y;obtain⟨fd,hb,hF⟩:=F w mg fa _ KX G.T.g hmg;exact VD KX G.T.g G.T.b G.T.builtins G.T.nolimit hg zg hints (i4 hlen y_) hr hF hb (λH hO hS=>wV w H a ns hlen hO hS) λH e s'=>J7 w H s₁ e s'
variable{x qual:Str}{st:Stmt}{f:ah}{H H':Hp}
noncomputable def kW(s:Stmt)(j:Nat):Stmt:=match s with
 |.ClassDef _ _ _ body _ _ _ _ _ _ _=>body.getD j (.Pass ⟨0,0,0,0⟩)
 |_=>.Pass ⟨0,0,0,0⟩
noncomputable def Ce(s:Stmt):Arguments:=match s with
 |.FunctionDef _ a _ _ _ _ _ _ _ _=>a
 |_=>{ posonlyargs:=[],args:=[],vararg:=none,kwonlyargs:=[],kw_defaults:=[],kwarg:=none,defaults:=[]}
def yr(s:Stmt):List Stmt:=match s with
 |.FunctionDef _ _ b _ _ _ _ _ _ _=>b
 |_=>[]
noncomputable def q_(s:Stmt):Scope:=match s with
 |.FunctionDef _ _ _ _ _ _ sc _ _ _=>sc
 |_=>{ kind:=.function,names:=[],isGenerator:=false,isCoroutine:=false}
structure Fun (K:PySem.W.Frag) (x qual:Str) (st:Stmt) (f:ah) (fd:bV):Prop where
 ex:∃(oc:aj) (od:ak ah) (kV doc pm:aj) (an:ak ah) (fS ct:aj) (ux:Array (ak aj)),
  fd=PySem.W.fnOf x qual (Ce st) (yr st) (q_ st) .none kV doc pm an fS ct/\K.lookup f=some ⟨oc,od,.func fd,ux⟩/\PySem.W.codeIn K fS qual=true
 kp:PySem.W.keepIn K (.ref f)=true
section
variable{P:cS}{w:cg}{K:PySem.W.Frag}{mg:Str->ak aj}{base:bM}
def Fun.binds{fd:bV}{ps:List Str}(F:Fun K x qual st f fd)
  (h:∀(kV doc pm:aj) (an:ak ah) (fS ct:aj) (us:List aj),us.length=ps.length->bindArgs (PySem.W.fnOf x qual (Ce st) (yr st) (q_ st) .none kV doc pm an fS ct) ⟨us,[]⟩=pure (ps.zip us)):Binds K fd ps []:=by
 obtain⟨oc,od,kV,doc,pm,an,fS,ct,ux,rfl,lk,qK⟩:=F.ex;exact .all (h kV doc pm an fS ct)
def fun_mk{oc:aj}{od an:ak ah}{ux:Array (ak aj)}{kV doc pm fS ct:aj}(l:K.lookup f=some ⟨oc,od,.func (PySem.W.fnOf x qual (Ce st) (yr st) (q_ st) .none kV doc pm an fS ct),ux⟩)
  (c:PySem.W.codeIn K fS qual=true) (k:PySem.W.keepIn K (.ref f)=true):Fun K x qual st f (PySem.W.fnOf x qual (Ce st) (yr st) (q_ st) .none kV doc pm an fS ct):=⟨⟨oc,od,kV,doc,pm,an,fS,ct,ux,rfl,l,c⟩,k⟩
end
section
variable{X:Cx}
def pv(i:Nat){pos:Pos}(hN:X.N[i]?=some x:=by rfl)(hv:EB X.env.scope x:=by first|exact Or.inl rfl|exact Or.inr (Or.inl rfl)|exact Or.inr (Or.inr rfl))(hd:(x == ("__debug__":Str))=false:=by decide)
  (qK:(x == ("__classdict__":Str))=false:=by decide):PE X (.Name x pos) (zW i):=PM hN hv hd qK
end
def sT{A B:Prop}(h:B):if false=true then A else B:=by
 rw[aK oz];exact h
def sU{A B:Prop}(h:A):if true=true then A else B:=by
 rw[aP rfl];exact h
def aw(H H':Hp):Prop:=∀b o,H b=some o->H' b=some o
def aw.refl(H:Hp):aw H H:=λ_ _ h=>h
def aw.trans{H1 H2:Hp}(a:aw H H1)(b:aw H1 H2):aw H H2:=λc o h=>b c o (a c o h)
def aw.free(e:aw H H'){l:ah}(h:H' l=Option.none):H l=Option.none:=by
 cases q:H l with
 |none=>rfl
 |some o=>
  rw[e l o q] at h;cases h
def aw.seq{K:PySem.W.Frag}{a:ah}{xs:List V}(e:aw H H')(h:cz K H a xs):cz K H' a xs:=by
 rcases h with(h|⟨o,h⟩)|h
 .exact .inl (.inl (e _ _ h))
 .exact .inl (.inr ⟨o,e _ _ h⟩)
 .exact .inr h
section
variable{κ:Type}[DecidableEq κ]
end
end L2
set_option maxHeartbeats 4000000
namespace L2
open PySem PySem.Spec PyProof.Rows
variable{env:Env}{names:List (Str×pL)}{x:Str}{c:ah}{scope:Scope}{X:Cx}
noncomputable def j8(env:Env)(names:List (Str×pL)):List (Str×ah):=((names.filter λy=>y.2 == .free).reverse).map λy=>(y.1,(env.cells.lookup y.1).getD 0)
theorem MV{g:Str->ah}{x:Str}:∀{l:List (Str×pL)},(∃k,(x,k)∈l)->(l.map λy=>(y.1,g y.1)).lookup x=some (g x)
 |[],h=>by obtain⟨k,h⟩:=h;cases h
 |(n,k)::r,h=>by
  show List.lookup x ((n,g n)::_)=_;cases hx:x == n with
  |true=>
   simp_all
  |false=>
   simp only[qX,hx];refine MV (l:=r) ?_
   simp_all
theorem Mz{g:Str->ah}{x:Str}{c:ah}:∀{l:List (Str×pL)},(l.map λy=>(y.1,g y.1)).lookup x=some c->c=g x/\∃k,(x,k)∈l
 |[],h=>by cases h
 |(n,k)::r,h=>by
  have h:List.lookup x ((n,g n)::(r.map λy=>(y.1,g y.1)))=some c:=h
  cases hx:x == n with
  |true=>
   have e:x=n:=by simpa using hx
   subst e;simp only[qX,hx] at h;exact⟨(Option.some.inj h).symm,k,qW⟩
  |false=>
   simp only[qX,hx] at h;obtain⟨e,k',hk⟩:=Mz h;exact⟨e,k',pH _ hk⟩
def NY(h:(x,NameKind.free)∈names)(hc:env.cells.lookup x=some c):(j8 env names).lookup x=some c:=by
 have:=MV (g:=λn=>(env.cells.lookup n).getD 0) (x:=x) (l:=(names.filter λy=>y.2 == .free).reverse) ⟨.free,by simp[h]⟩
 unfold j8;rw[this,hc];rfl
def Ja(hf:∀y∈names,y.2=.free->∃c,env.cells.lookup y.1=some c)(h:(j8 env names).lookup x=some c):env.cells.lookup x=some c:=by
 obtain⟨e,k,hk⟩:=Mz (g:=λn=>(env.cells.lookup n).getD 0) h
 have wR:=rB.mp (List.mem_reverse.mp hk);obtain⟨c',k7⟩:=hf _ wR.1 (by simpa using wR.2)
 have Ke:env.cells.lookup x=some c':=k7;rw[e,Ke];rfl
theorem H_{env:Env}:∀(names:List (Str×pL)) (cs:List (Str×ah)),(∀y∈names,y.2=.free->∃c,env.cells.lookup y.1=some c)->
  (forIn names cs (λ(x:Str×pL) (r:List (Str×ah))=>if(x.2 == NameKind.free)=true then(do let a <-cellOf env x.1;pure (ForInStep.yield ((x.1,a)::r))) else(pure (ForInStep.yield r):Sem (ForInStep (List (Str×ah)))))) =
   pure (j8 env names++cs)
 |[],cs,_=>by rw[List.forIn_nil];rfl
 |(n,k)::r,cs,h=>by
  rw[List.forIn_cons];cases hk:k == NameKind.free with
  |true=>
   obtain⟨c,hc⟩:=h (n,k) qW (by simpa using hk)
   have k7:env.cells.lookup n=some c:=hc;have e:cellOf env n=pure c:=by unfold cellOf;rw[k7]
   simp only[hk,uD,e,pure_bind];rw[H_ r _ λy hy=>h y (pH _ hy)]
   congr 1
   unfold j8;rw[tZ];simp[hk,k7]
  |false=>
   simp only[hk,rD,m_,pure_bind];rw[H_ r _ λy hy=>h y (pH _ hy)]
   congr 1
   unfold j8;rw[tZ];simp[hk]
def Mv(h:∀y∈scope.names,y.2=.free->∃c,env.cells.lookup y.1=some c):closureFor scope env=pure (j8 env scope.names):=by
 have:=H_ (env:=env) scope.names [] h;rw[lq] at this;unfold closureFor;show(forIn scope.names [] _ >>= λr=>pure r)=_
 rw[bind_pure];exact this
theorem MI{env:Env}:∀{names:List (Str×pL)} {x:Str},names.lookup x=some .free->
  (names.map λ(n,k)=>if(k == NameKind.free&&env.scope.kind == .function&&env.kindOf n == some .cell) then(n,NameKind.cell) else(n,k)).lookup x=some .cell\/
  (names.map λ(n,k)=>if(k == NameKind.free&&env.scope.kind == .function&&env.kindOf n == some .cell) then(n,NameKind.cell) else(n,k)).lookup x=some .free
 |[],_,h=>by simp at h
 |(n,k)::r,x,h=>by
  have ih:=@MI env r x;show List.lookup x ((if(k == NameKind.free&&env.scope.kind == .function&&env.kindOf n == some .cell)=true then(n,NameKind.cell) else(n,k))::_)=_\/List.lookup x ((if(k == NameKind.free&&env.scope.kind == .function&&env.kindOf n == some .cell)=true then(n,NameKind.cell) else(n,k))::_)=_
  cases hx:x == n with
  |true=>
   simp only[qX,hx] at h;cases h;by_cases hc:(NameKind.free == NameKind.free&&env.scope.kind == .function&&env.kindOf n == some .cell)=true
   .rw[aP hc];simp[qX,hx]
   .rw[aK hc];simp[qX,hx]
  |false=>
   simp only[qX,hx] at h;by_cases hc:(k == NameKind.free&&env.scope.kind == .function&&env.kindOf n == some .cell)=true
   .rw[aP hc];simp only[qX,hx];exact ih h
   .rw[aK hc];simp only[qX,hx];exact ih h
theorem Ia{env:Env}:∀{names:List (Str×pL)} {x:Str} {q:pL},(q=.cell\/q=.free)->(∀y∈names,y.2≠.cell)->
  (names.map λ(n,k)=>if(k == NameKind.free&&env.scope.kind == .function&&env.kindOf n == some .cell) then(n,NameKind.cell) else(n,k)).lookup x=some q->(x,NameKind.free)∈names
 |[],_,_,_,_,h=>by simp at h
 |(n,k)::r,x,q,hq,hn,h=>by
  have ih:=@Ia env r x q hq λy hy=>hn y (pH _ hy)
  have hk:k≠.cell:=hn (n,k) qW;have h:List.lookup x ((if(k == NameKind.free&&env.scope.kind == .function&&env.kindOf n == some .cell)=true then(n,NameKind.cell) else(n,k))::_)=some q:=h
  cases hx:x == n with
  |true=>
   have e:x=n:=by simpa using hx
   subst e;by_cases hc:(k == NameKind.free&&env.scope.kind == .function&&env.kindOf x == some .cell)=true
   .have hf:k=.free:=by
     simp only[jq,beq_iff_eq] at hc;exact hc.1.1
    subst hf;exact qW
   .rw[aK hc] at h;simp only[qX,hx] at h;have e:k=q:=Option.some.inj h;rcases hq with rfl|rfl
    .exact bW e hk
    .rw[e];exact qW
  |false=>
   by_cases hc:(k == NameKind.free&&env.scope.kind == .function&&env.kindOf n == some .cell)=true
   .rw[aP hc] at h;simp only[qX,hx] at h;exact pH _ (ih h)
   .rw[aK hc] at h;simp only[qX,hx] at h;exact pH _ (ih h)
def eS(X:Cx)(scope:Scope)(M:List Str)(C:ah)(s:aq)(H:Hp)(fp:List ah):Cx:=
 {X with N:=M,s₀:=s,H₀:=H,env:=compEnvC scope (j8 X.env scope.names) C X.env,outer:=X.stack,ex:=fp,fn:=λ_=>false,pn:=[],xe:=λ_ _=>False}
noncomputable def j7(k:Nat)(cL:List Nat)(Z:St):St:=List.replicate k none++cL.map λi=>(Z[i]?).join
def rX(X:Cx)(ifs:List Expr)(t:TT):Prop:=
 ∀(aa:List (ah×Obj)) (s:aq) (Z:St) (H:Hp) (Q:Bool->Hp->Prop),Inv X aa Z H s->t Z H Q->
  wpAny (model X.prog X.w) X.A (forIn ifs true λc r=>if r=true then do let ok <-isTrue c X.env (eval c X.env);pure (ForInStep.yield ok) else pure (ForInStep.yield r)) (TP X aa Z Q) X.xe s
def LQ:TT:=λ_ H Q=>Q true H
def X8:rX X [] LQ:=λ_ _ Z H _ I h=>wpAny_tests_nil ⟨H,I,h⟩
def X9{c:Expr}{t:TT}(hc:PT X c t):rX X [c] t:=λaa s Z H Q I h=>wpAny_tests_one (hc aa s Z H Q I h)
def R7{prog:cS}{w:cg}{A:cD}{R:Result->aq->Prop}{s:aq}{elt target iter:Expr}{ifs:List Expr}{pos:Pos}{it aU:aj}(I:Nat->aq->Prop)
  (turn:∀n s,I n s->wpAny (model prog w) A (pyNext it) (λr s₁=>match r with
   |none=>R (.ok .next) s₁
   |some v=>wpAny (model prog w) A (letOwnedTupleGo target it v) (λ_ s₀=>wpAny (model prog w) A (assign target env v) (λ_ s₂=>
     wpAny (model prog w) A (forIn ifs true λc r=>if r=true then do let ok <-isTrue c env (eval c env);pure (ForInStep.yield ok) else pure (ForInStep.yield r)) (λok s₃=>
      if ok=true then wpAny (model prog w) A (eval elt env) (λx s₄=>
       wpAny (model prog w) A (call (.builtin "list.append") [aU,x]) (λ_ s₅=>∃m,m<n/\I m s₅) (λ_ _=>False) s₄) (λ_ _=>False) s₃
      else ∃m,m<n/\I m s₃) (λ_ _=>False) s₂) (λ_ _=>False) s₀) (λ_ _=>False) s₁) (λ_ _=>False) s)
  (n:Nat) (h:I n s) :
  codeAny (model prog w) A (.compLoop (.ListComp elt [⟨target,iter,ifs,0⟩] scope pos) 0 it aU env) R s:=by
 refine codeAny_loop rfl I (λn s hI=>?_) n h
 show wpAny _ A ((compTurn (.ListComp elt [⟨target,iter,ifs,0⟩] scope pos) 0 it aU env).onRaise (λx=>do noteFrame x env;theTreesLotGoes x)) _ _ s
 refine wpAny_noted ?_;rw[compTurn_list];refine ax (wpAny_standAt (ax (wpAny_mono (turn n s hI) (λr s₁ h₁=>?_) λ_ _ h'=>h'.elim)))
 cases r with
 |none=>exact aQ h₁
 |some v=>
  refine ax (wpAny_mono h₁ (λ_ s₀ h₀=>?_) λ_ _ h'=>h'.elim)
  refine ax (wpAny_mono h₀ (λ_ s₂ h₂=>ax (wpAny_mono h₂ (λok s₃ h₃=>?_) λ_ _ h'=>h'.elim)) λ_ _ h'=>h'.elim)
  cases ok with
  |false=>exact aQ ⟨rfl,h₃⟩
  |true=>
   exact ax (ax (wpAny_mono h₃ (λx s₄ h₄=>ax (wpAny_mono h₄ (λ_ s₅ h₅=>aQ (aQ ⟨rfl,h₅⟩)) λ_ _ h'=>h'.elim)) λ_ _ h'=>h'.elim))
variable{H:Hp}{s:aq}{fp:List ah}{wi:TI}
def Inv.Ec{X:Cx}{aa:List (ah×Obj)}{Z:St}{a:ah}{o:HO}(I:Inv X aa Z H s)(hn:H a=none)(hy:X.s₀.heap.objs.size<=a)(hL:a≠X.env.locals)(hC:∀x c,X.env.cells.lookup x=some c->c≠a)
  (hP:∀p∈X.pn++aa,p.1≠a) (new:bp X.prog X.w (upd H a o) s.heap a o):Inv X aa Z (upd H a o) s:=by
 refine⟨I.ok,I.os,I.bare,⟨I.base.keep,I.base.slot,λb ob e n hx=>?_,I.base.there,λb xs e=>?_,λb ob u e=>?_,λb ps e=>?_⟩,I.loc,I.cell,?_,λx c e=>?_,λp hp=>?_,λb u e=>?_,I.len⟩
 .rw[cQ (gm (fI (cC e) hy))];exact I.base.free b ob e n hx
 .have z:=I.base.lj b xs e;rw[cQ (r9 z hn)];exact z
 .have z:=I.base.kr b ob u e;rw[cQ (r9 z hn)];exact z
 .obtain⟨m,z⟩:=I.base.lh b ps e;exact⟨m,by rw[cQ (r9 z hn)];exact z⟩
 .rw[cQ (Ne.symm hL)];exact I.free
 .rw[cQ (hC x c e)];exact I.dU x c e
 .obtain⟨e,n,r⟩:=I.pin p hp;exact⟨e,by rw[cQ (hP p hp)];exact n,r⟩
 .by_cases hb:b=a
  .grind [aI]
  .rw[cQ hb] at e;exact(I.bj b u e).iZ (λc v _ q=>q) (λc q=>by rw[cQ (r9 q hn)];exact q) λc xs q=>by rw[cQ (r9 q hn)];exact q
def pM(J:It)(g:TG)(tt:TT)(te:TE)(τ₀:St)(H1:Hp)(Fin:List V->Hp->Prop):Prop:=
 ∃(n:Nat) (W:Nat->St->List V->Hp->Prop),W 0 τ₀ [] H1/\∀i τ aU H,i<=n->W i τ aU H->
  (J.stop i H/\Fin aU H)\/(i<n/\J.go i H/\∀x H',J.t9 i H x H'->g x τ H' λτ2 H2=>tt τ2 H2 λb H3=>if b=true then te τ2 H3 λv H4=>aU.length<sizeLine/\W (i+1) τ2 (aU++[v]) H4 else W (i+1) τ2 aU H3)
structure dB (X:Cx) (scope:Scope) (M:List Str) (k:Nat) (cL:List Nat):Prop where
 kind:scope.kind=.function
 cell:∀y∈scope.names,y.2≠.cell
 free:∀y∈scope.names,y.2=.free->X.env.kindOf y.1=some .cell\/X.env.kindOf y.1=some .free
 names:∀y∈scope.names,y.2=.local -> scope.names.lookup y.1=some .local
 len:M.length=k+cL.length
 JF:∀(j i:Nat) (x:Str),cL[j]?=some i->M[k+j]?=some x->X.N[i]?=some x/\scope.names.lookup x=some .free
section
variable{X:Cx}{aa:List (ah×Obj)}{Z:St}{tg elt iter:Expr}{ifs:List Expr}{scope:Scope}{pos:Pos}{M:List Str}{k:Nat}{cL:List Nat}{g:TG}{tt:TT}{te:TE}
def Inv.iA(I:Inv X aa Z H s)(ok:dB X scope M k cL):∀y∈scope.names,y.2=.free->∃c,X.env.cells.lookup y.1=some c:=λy hy e=>I.ok.has y.1 (ok.free y hy e)
def Inv.block{s4:aq}{C D:ah}{oD:Obj}{m:Str->ak aj}(I:Inv X aa Z H s)(ok:dB X scope M k cL)(f2:∀b∈fp,iN X aa H b)(Gz:∀b∈fp,∃o,s.heap.get? b=some o/\∀v,o.data≠.cell v)
  (hC:s.heap.objs.size<=C) (CZ:D≠C) (hD:s.heap.objs.size<=D) (old:∀b o,s.heap.get? b=some o->s4.heap.get? b=some o) (os:s4.os=s.os) (gens:s4.gens=s.gens)
  (ns:s4.heap.Ns C m) (Kq:s4.heap.get? D=some oD) (Kh:∀v,oD.data≠.cell v):Inv (eS X scope M C s H fp) [(D,oD)] (j7 k cL Z) H s4:=by
 have hf:=I.iA ok;have fr:∀a,s.heap.objs.size<=a->H a=none:=λa ha=>I.bj.fresh ha
 have nfs:∀b∈kq X.stack,b<s.heap.objs.size:=λb hb=>by
  rcases y04.mp (I.kI b hb) with e|e
  .rw[e];exact I.lt
  .exact Nat.lt_of_not_le λz=>I.zA z e
 have cl:∀x c,(j8 X.env scope.names).lookup x=some c->X.env.cells.lookup x=some c:=λx c e=>Ja hf e
 refine⟨⟨I.ok.mod,ok.kind,I.ok.glob,I.ok.blt,hC,λx y c e1 e2=>I.ok.inj x y c (cl x c e1) (cl y c e2),λx hx=>?_,λx c e _=>?_,I.ok.hd,I.ok.frames,.inl rfl,λb hb=>?_,I.bs,i4 I.ok.sg I.sz,λb o e hb=>?_,λb hb z=>?_,I.stack,I.jQ⟩,os,by rw[gens];exact I.bare,Un.kept old,⟨m,ns,λi x v h1 h2 h3=>?_⟩,λx c e=>?_,fr C hC,λx c e=>I.dU x c (cl x c e),λp hp=>?_,I.bj.kept old,?_⟩
 .have hx:(relabel scope X.env).names.lookup x=some .cell\/(relabel scope X.env).names.lookup x=some .free:=hx;have hm:(x,NameKind.free)∈scope.names:=by
   rcases hx with h|h
   .exact Ia (env:=X.env) (.inl rfl) ok.cell h
   .exact Ia (env:=X.env) (.inr rfl) ok.cell h
  obtain⟨c,hc⟩:=hf _ hm rfl;exact⟨c,NY hm hc⟩
 .cases e
 .obtain⟨f0,f1,f2,f3,f4,f5⟩:=f2 b hb;obtain⟨ob,eb,_⟩:=Gz b hb;exact⟨gm (fI (cC eb) hC),λx c e=>f4 x c (cl x c e)⟩
 .obtain⟨f0,f1,f2,f3,f4,f5⟩:=f2 b hb;rcases f3 with q|q
  .exact I.ok.pA b o e q
  .exact bW (fI (cC e) (i4 I.ok.sg q)) (jE _)
 .obtain⟨f0,f1,f2,f3,f4,f5⟩:=f2 b hb;rcases y04.mp (I.kI b z) with q|q
  .exact f1 q
  .exact f2 q
 .unfold j7 at h2;have hk:¬i<k:=λq=>by
   rw[xS (by simpa using q),L8] at h2
   split at h2 <;> cases h2
  rw[v3 (by simpa using hk),Bo,fW] at h2
  cases e:cL[i - k]? with
  |none=>rw[e] at h2;cases h2
  |some j=>
   rw[e] at h2;have CW:(Z[j]?).join=some v:=Option.some.inj h2;have hj:Z[j]?=some (some v):=by
    cases q:Z[j]? with
    |none=>rw[q] at CW;cases CW
    |some z=>rw[q] at CW;simp at CW;rw[CW]
   have y9:k+(i - k)=i:=by lia
   obtain⟨hN,sP⟩:=ok.JF (i - k) j x e (by rw[y9];exact h1)
   have hm:(x,NameKind.free)∈scope.names:=PySem.mem_of_lookup sP;have Rh:=ok.free _ hm rfl;obtain⟨mX,hnX,hlX⟩:=I.loc;obtain⟨u,ru,lk⟩:=hlX j x v hN hj (by rcases Rh with q|q;exact .inr (.inl q);exact .inr (.inr q))
   refine⟨u,ru,.inr ⟨MI (env:=X.env) sP,?_⟩⟩;rcases lk with⟨q,_⟩|⟨_,c,hc,qc⟩
   .rcases Rh with z|z
    .rw[show X.env.kindOf x=some .cell from z] at q;cases q
    .rw[show X.env.kindOf x=some .free from z] at q;cases q
   .exact⟨c,NY hm hc,qc.keeps old⟩
 .obtain⟨v,z⟩:=I.cell x c (cl x c e);exact⟨v,z.keeps old⟩
 .have e:p=(D,oD):=by simpa[eS] using hp
  subst e;exact⟨Kq,fr D hD,CZ,λz=>bW (fI (nfs D z) hD) (jE _),Kh⟩
 .unfold j7;rw[cP,Bo,bc];exact ok.len.symm
def Nv{H2:Hp}{s2:aq}{J:It}{it:ah}{tn:Nat->bM->Prop}{RR:aj->ah->Result->aq->Prop}{E:aj->aq->Prop}{Fin:List V->Hp->Prop}(I2:Inv X aa Z H2 s2)(hc:X.calm=true)(ok:dB X scope M k cL)
  (T:Turn X.prog X.w X.K tg J fp it tn) (rq:tn 0 s2.heap) (f2:∀b∈fp,iN X aa H2 b)
  (hg:∀C s H fp,PG (eS X scope M C s H fp) tg g) (ht:∀C s H fp,rX (eS X scope M C s H fp) ifs tt) (he:∀C s H fp,PE (eS X scope M C s H fp) elt te)
  (hW:pM J g tt te (j7 k cL Z) H2 Fin)
  (hRR:∀D C s' H' aU,Inv X aa Z (upd H' D (.lst aU)) s'->iN X aa (upd H' D (.lst aU)) C->(∃m,s'.heap.Ns C m)->H' D=none->Fin aU H'->RR (.ref D) C (.ok .next) s') :
  wpAny (model X.prog X.w) X.A (newList []) (λaU s₃=>wpAny (model X.prog X.w) X.A (newFunctionEnv scope X.env.globals (j8 X.env scope.names) [] X.env.qual none .none (some X.env)) (λCF s₄=> codeAny (model X.prog X.w) X.A (.compStart (.ListComp elt [⟨tg,iter,ifs,0⟩] scope pos) 0 (.ref it) aU { CF with scope:=relabel scope X.env}) (RR aU CF.locals) s₄) E s₃) E s2:=by
 refine wpAny_newObj_type (wpAny_newFunctionEnv ok.cell (by intro y hy;simp at hy) (λh₁ hns₁ hsb₁=>?_) ok.kind)
 dsimp only at hns₁ hsb₁ ⊢;generalize J9:s2.heap.push { cls:=.type "list",dict:=none,data:=.seq ([]:List aj).toArray}=H3 at hns₁ hsb₁ ⊢;have J8:H3.objs.size=s2.heap.objs.size+1:=by rw[<-J9,Heap.size_push]
 have CZ:s2.heap.objs.size≠H3.objs.size:=by rw[J8];exact gm (vZ _)
 have below:∀b,b<s2.heap.objs.size->b≠H3.objs.size/\b≠s2.heap.objs.size:=λb hb=>⟨by rw[J8];exact gm (z8 hb),gm hb⟩
 have old:∀b o,s2.heap.get? b=some o->h₁.get? b=some o:=λb o e=>hsb₁.extBut b o (below b (cC e)).1 (cO _ (J9 ▸ cO _ e))
 have vi:h₁.get? s2.heap.objs.size=some { cls:=.type "list",data:=.seq ([]:List aj).toArray 0}:=hsb₁.extBut _ _ CZ (cO _ (J9 ▸ jr _ rfl));have Gz:=T.obj 0 _ rq;have vh:s2.heap.objs.size<=H3.objs.size:=by rw[J8];exact tW _
 obtain⟨N,W,w0,turn⟩:=hW;have RU:tn 0 h₁:=T.keep _ _ _ rq λb _ o e=>old b o e
 have loop:∀s₃:aq,s₃={ s2 with heap:=h₁,toks:=s2.toks+([]:List (Str×aj)).length}->
   codeAny (model X.prog X.w) X.A (.compLoop (.ListComp elt [⟨tg,iter,ifs,0⟩] scope pos) 0 (.ref it) (.ref s2.heap.objs.size) (compEnvC scope (j8 X.env scope.names) H3.objs.size X.env))
    (RR (.ref s2.heap.objs.size) H3.objs.size) s₃:=by
  rintro s₃ rfl;have I3:Inv (eS X scope M H3.objs.size s2 H2 fp) [(s2.heap.objs.size,{ cls:=.type "list",data:=.seq ([]:List aj).toArray 0})] (j7 k cL Z) H2 { s2 with heap:=h₁,toks:=s2.toks+([]:List (Str×aj)).length}:=
   I2.block ok f2 Gz vh CZ (bF _) old rfl rfl hns₁ vi (λv z=>by cases z)
  have JZ:∀b∈fp,b≠H3.objs.size/\b≠s2.heap.objs.size:=λb hb=>let ⟨o,e,_⟩:=Gz b hb;below b (cC e)
  have pD:∀{H':Hp} {oD:Obj},(∀b∈fp,H' b=none)->∀b∈fp,iN (eS X scope M H3.objs.size s2 H2 fp) [(s2.heap.objs.size,oD)] H' b:=λ{H' oD} hn b hb=>by
   obtain⟨f0,f1,f2,f3,f4,f5⟩:=f2 b hb;refine⟨hn b hb,(JZ b hb).1,λz=>?_,.inl hb,λx c e=>f4 x c (Ja (I2.iA ok) e),λp hp z=>?_⟩
   .rcases y04.mp (I2.kI b z) with q|q
    .exact f1 q
    .exact f2 q
   .have e:p=(s2.heap.objs.size,oD):=by simpa[eS] using hp
    subst e;exact(JZ b hb).2 z.symm
  refine R7 (λn s'=>∃(i:Nat) (τ:St) (aU:List V) (us:List aj) (c:Nat) (H':Hp),Vals aU us/\aU.length<=sizeLine/\ Inv (eS X scope M H3.objs.size s2 H2 fp) [(s2.heap.objs.size,{ cls:=.type "list",data:=.seq us.toArray c})] τ H' s'/\tn i s'.heap/\(∀b∈fp,H' b=none)/\n=N - i/\i<=N/\W i τ aU H') ?_ N
   ⟨0,j7 k cL Z,[],[],0,H2,.nil,lZ _,I3,RU,λb hb=>(f2 b hb).1,rfl,lZ _,w0⟩
  rintro n s3 ⟨i,τ,aU,us,c,H',rv,hlen,I,st,fr,rfl,hiN,w⟩;have pinD:=(I.pin (s2.heap.objs.size,{ cls:=.type "list",data:=.seq us.toArray c}) (by simp[eS]))
  rcases turn i τ aU H' hiN w with⟨stop,qn⟩|⟨iT,go,step⟩
  .refine bA (T.done (eS X scope M H3.objs.size s2 H2 fp) rfl rfl rfl hc i _ s3 τ H' (λ_ _=>False) I (pD fr) st stop) λr s4 ⟨hr,I4⟩=>?_
   subst hr;have tJ:=(I4.pin (s2.heap.objs.size,{ cls:=.type "list",data:=.seq us.toArray c}) (by simp[eS]))
   have kN:∀b∈fp,(b∈X.ex\/X.s₀.heap.objs.size<=b)/\b≠X.env.locals/\(∀x c,X.env.cells.lookup x=some c->c≠b)/\∀p∈X.pn++aa,p.1≠b:=λb hb=>by
    obtain⟨f0,f1,f2,f3,f4,f5⟩:=f2 b hb;exact⟨f3,f1,f4,f5⟩
   have J1:Inv X aa Z H' s4:=I2.wy (ch:=fp) I4.os I4.base I4.bj I4.bare kN;have young:X.s₀.heap.objs.size<=s2.heap.objs.size:=I2.sz;have apart:∀a,s2.heap.objs.size<=a->a≠X.env.locals/\(∀x c,X.env.cells.lookup x=some c->c≠a)/\∀p∈X.pn++aa,p.1≠a:=λa ha=>
    ⟨xR (fI I2.lt ha),λx c e z=>by
     obtain⟨v,q⟩:=I2.cell x c e;exact bW (fI q.lt (by rw[z];exact ha)) (jE _),λp hp z=>bW (fI (cC (I2.pin p hp).1) (by rw[z];exact ha)) (jE _)⟩
   have aD:=apart _ (bF _);have aC:=apart _ vh;have J2:Inv X aa Z (upd H' s2.heap.objs.size (.lst aU)) s4:=J1.Ec tJ.2.1 young aD.1 aD.2.1 aD.2.2 ⟨hlen,us,c,rv,tJ.1⟩;obtain⟨m,hn,_⟩:=I4.loc;have hCn:H' H3.objs.size=none:=I4.free;refine hRR _ _ s4 H' aU J2 ⟨?_,aC.1,I2.zA vh,.inr (i4 young vh),aC.2.1,aC.2.2⟩ ⟨m,hn⟩ tJ.2.1 qn;rw[cQ (Ne.symm CZ)];exact hCn
  .refine bA (T.item (eS X scope M H3.objs.size s2 H2 fp) rfl rfl rfl hc i _ s3 τ H' (λ_ _=>False) I (pD fr) st go) λr s4 ⟨u,hr,h4⟩=>?_
   subst hr;refine bA h4 λ_ s5 hh=>?_
   obtain⟨x,H5,I5,r5,y5,zU,J3⟩:=hh;have Hy:=I5.pinned (pD J3) (T.obj _ _ zU);refine bA (hg _ _ _ _ _ s5 τ H5 x u _ Hy r5 (step x H5 y5)) λ_ s6 hh=>?_
   obtain⟨τ6,H6,I6,q6⟩:=hh;refine bA (ht _ _ _ _ _ s6 τ6 H6 _ I6 q6) λb s7 hh=>?_
   obtain⟨H7,I7,q7⟩:=hh;have sV:∀{s':aq} {τ':St} {Hn:Hp},Inv (eS X scope M H3.objs.size s2 H2 fp) ([(s2.heap.objs.size,{ cls:=.type "list",data:=.seq us.toArray c})]++Co fp s5.heap) τ' Hn s'->tn (i+1) s'.heap/\∀b∈fp,Hn b=none:=λ{s' τ' Hn} I'=>by
    refine⟨T.keep _ _ _ zU λb hb o e=>(I'.pin (b,o) (oR _ (oR _ (BR hb e)))).1,λb hb=>?_⟩
    obtain⟨o,e,d⟩:=T.obj _ _ zU b hb;exact(I'.pin (b,o) (oR _ (oR _ (BR hb e)))).2.1
   cases b with
   |false=>
    rw[aK oz] at q7;show ∃m,m<N - i/\_;obtain⟨st7,fr7⟩:=sV I7;exact⟨N - (i+1),by lia,i+1,τ6,aU,us,c,H7,rv,hlen,I7.d_,st7,fr7,rfl,iT,q7⟩
   |true=>
    rw[aP rfl] at q7;show wpAny _ _ (eval elt _) _ _ s7;refine bA (he _ _ _ _ _ s7 τ6 H7 _ I7 q7) λv s8 hh=>?_
    obtain⟨y,H8,I8,r8,hl8,w8⟩:=hh;obtain⟨st8,fr8⟩:=sV I8;have lX:=(I8.pin (s2.heap.objs.size,{ cls:=.type "list",data:=.seq us.toArray c}) (by simp[eS]))
    have hul:=rv.length;refine append_at (hsz:=by show us.toArray.size<=sizeLine;rw[cZ,<-hul];exact hlen) lX.1 λh9 RT e9=>?_
    have e9':h9.get? s2.heap.objs.size=some { cls:=.type "list",data:=.seq (us++[v]).toArray (c+1)}:=by rw[e9,List.push_toArray]
    have R5:=I8.d_;have C0:s2.heap.objs.size≠(eS X scope M H3.objs.size s2 H2 fp).env.locals:=lX.2.2.1;have nx:∀(b:ah),H8 b≠none->b≠s2.heap.objs.size:=λb hb z=>hb (by rw[z];exact lX.2.1)
    refine⟨N - (i+1),by lia,i+1,τ6,aU++[y],us++[v],c+1,H8,rv.append (.cons r8 .nil),by rw[cP,pJ];exact hl8,?_,?_,fr8,rfl,iT,w8⟩
    .have I9:Inv (eS X scope M H3.objs.size s2 H2 fp) [] τ6 H8 s8:=R5.jO (λp hp=>bW hp (by simp))
     have R4:Inv (eS X scope M H3.objs.size s2 H2 fp) [] τ6 H8 { s8 with heap:=h9}:=I9.turned (t':=s8.toks) (λb o hb e=>(RT.2 b hb).trans e) lX.2.1 C0 (.inr (bF _))
      (λx cc e z=>by
       obtain⟨v',q⟩:=I2.cell x cc (Ja (I2.iA ok) e);exact bW (fI q.lt (by rw[z];exact bF _)) (jE _)) (λp hp=>bW hp (by simp[eS]))
     refine R4.jO λp hp=>?_
     have e:p=(s2.heap.objs.size,{ cls:=.type "list",data:=.seq (us++[v]).toArray (c+1)}):=by simpa using hp
     subst e;exact⟨e9',lX.2.1,C0,lX.2.2.2.1,λv' z=>by cases z⟩
    .exact T.keep _ _ _ st8 λb hb o e=>RT.extBut b o (JZ b hb).2 e
 exact codeAny_compStart_list (loop _ rfl) (T.self _ 0 _ _ _ RU (loop _ rfl))
def xO(wi:TI)(g:TG)(tt:TT)(te:TE)(k:Nat)(cL:List Nat):TE:=λZ H Q=>wi Z H λJ H1=>pM J g tt te (j7 k cL Z) H1 λaU H'=>∀l,H' l=none->Q (.ref l) (upd H' l (.lst aU))
def X_(hc:X.calm=true)(ok:dB X scope M k cL)(hi:PI X tg iter wi)
  (hg:∀C s H fp,PG (eS X scope M C s H fp) tg g) (ht:∀C s H fp,rX (eS X scope M C s H fp) ifs tt) (he:∀C s H fp,PE (eS X scope M C s H fp) elt te)
  (hs:∀x,foldedSetIterable iter X.env x=pure x:=by intro _;rfl):PE X (.ListComp elt [⟨tg,iter,ifs,0⟩] scope pos) (xO wi g tt te k cL):=by
 intro aa s Z H Q I h;rw[eval_ListComp];refine wpAny_comprehension_free (use:=none) rfl hs (Mv (I.iA ok)) ok.kind ok.names (bA (hi aa s Z H _ I h) λv s1 h1=>bA h1 λGV s2 h2=>?_)
 obtain⟨it,fp,tn,J,H2,e,I2,T,rq,f2,hW⟩:=h2;subst e;refine Nv (RR:=λaU C=>compPost (model X.prog X.w) X.A X.xe none (EP X aa Z Q) aU C) I2 hc ok T rq f2 hg ht he hW ?_
 intro D C s' H' aU I' fC ⟨m,hn⟩ hD hq;refine⟨m,hn,λh' sb=>?_⟩
 obtain⟨f0,f1,f2,f3,f4,f5⟩:=fC;exact⟨.ref D,_,I'.turned (t':=s'.toks) (λb o hb e=>(sb.2 b hb).trans e) f0 f1 f3 f4 f5,rfl,hq D hD⟩
def DW(wi:TI)(g:TG)(tt:TT)(te:TE)(k:Nat)(cL:List Nat)(i:Nat):TS:=λD Z H=>xO wi g tt te k cL Z H λv H'=>D.nx (Z.set i (some v)) H'
def Ya{i:Nat}{x:Str}{px oq:Pos}(hc:X.calm=true)(ok:dB X scope M k cL)(hN:X.N.Nodup)(y9:X.N[i]?=some x)(hx:Loc X.env.scope x)(hi:PI X tg iter wi)
  (hg:∀C s H fp,PG (eS X scope M C s H fp) tg g) (ht:∀C s H fp,rX (eS X scope M C s H fp) ifs tt) (he:∀C s H fp,PE (eS X scope M C s H fp) elt te)
  (Dk:swapsWith (.ListComp elt [⟨tg,iter,ifs,0⟩] scope pos) (some (.Name x px)) oq.line X.env=pure true)
  (hs:∀x,foldedSetIterable iter X.env x=pure x:=by intro _;rfl) (hf:X.fn x=true\/X.env.scope.names.lookup x=some .local := by first|exact .inl rfl|exact .inr rfl|assumption) :
  PS X (.Assign [.Name x px] (.ListComp elt [⟨tg,iter,ifs,0⟩] scope pos) oq) (DW wi g tt te k cL i):=by
 intro aa s Z H D I h;rw[exec_Assign_Name_used _ _ _ _ Dk];refine ax (wpAny_standAt (ax ?_));show wpAny _ X.A (do let _ <-comprehension (.ListComp elt [⟨tg,iter,ifs,0⟩] scope pos) scope X.env _ (newList []) false (eval iter X.env) (some (assign (.Name x px) X.env))) _ _ s
 refine ax (wpAny_mono (wpAny_comprehension_free (use:=some (assign (.Name x px) X.env)) (Q:=λ_ s'=>SP X aa D .next s') rfl hs (Mv (I.iA ok)) ok.kind ok.names (bA (hi aa s Z H _ I h) λv s1 h1=>bA h1 λGV s2 h2=>?_)) (λ_ s' hq=>aQ (aQ hq)) λ_ _ e=>e)
 obtain⟨it,fp,tn,J,H2,e,I2,T,rq,f2,hW⟩:=h2;subst e;refine Nv (RR:=λaU C=>compPost (model X.prog X.w) X.A X.xe (some (assign (.Name x px) X.env)) (λ_ s'=>SP X aa D .next s') aU C) I2 hc ok T rq f2 hg ht he hW ?_
 intro D' C s' H' aU I' fC ⟨m,hn⟩ hD hq;obtain⟨f0,f1,f2,f3,f4,f5⟩:=fC;show wpAny _ X.A (assign (.Name x px) X.env (.ref D')) _ _ _;refine wpAny_assign_Name (Nn I' hN y9 hx (v:=.ref D') rfl (λtO R3 hh=>?_) hf)
 obtain⟨a,sb,ha⟩:=hh;have hCa:C≠a:=by
  rcases ha with e|e
  .rw[e];exact f1
  .exact λz=>f4 _ _ e z.symm
 refine⟨m,hn.sameBut sb hCa,λh' sb'=>⟨_,_,R3.turned (t':=tO.toks) (λb o hb e=>(sb'.2 b hb).trans e) f0 f1 f3 f4 f5,hq D' hD⟩⟩
end
variable{w:cg}{tg:Expr}{X:Cx}
def kY(c:Nat):Str:=⟨#[c]⟩
def Eu(x:Str):It:=⟨λi _=>i<x.cps.size,λi H v H'=>H'=H/\∃c,x.cps[i]?=some c/\v=.str (kY c),λi _=>x.cps.size<=i⟩
def VE{P:cS}{K:PySem.W.Frag}(it:ah)(x:Str)(t:Tok)(ty:String)(vp:ty="str_ascii_iterator"\/ty="str_iterator"):Turn P w K tg (Eu x) [it] it (λi h=>h.IsStrIter it ty x t i) where
 mem:=by simp
 obj:=λi h st b hb=>by
  have e:b=it:=by simpa using hb
  subst e;obtain⟨o,e,c,d⟩:=st;exact⟨o,e,λv z=>by rw[d] at z;cases z⟩
 keep:=λi h h' st k=>by
  obtain⟨o,e,c,d⟩:=st;exact⟨o,k it (by simp) o e,c,d⟩
 item:=by
  intro X hP hw hK hc i aa s Z H E I hf st hg;subst hP hw hK;have hi:i<x.cps.size:=hg;obtain⟨f0,f1,f2,f3,f4,f5⟩:=hf it (by simp)
  have fin:∀h',h'.IsStrIter it ty x t (i+1)->Heap.SameBut it s.heap h'->∃u,some (Value.str ⟨#[x.cps[i]]⟩ s.toks)=some u/\
    wpAny (model X.prog X.w) X.A (letOwnedTupleGo tg (.ref it) u) (λ_ s2=>∃y H',Inv X aa Z H' s2/\RelV y u/\(Eu x).t9 i H y H'/\s2.heap.IsStrIter it ty x t (i+1)/\∀b∈[it],H' b=none) E { s with heap:=h',toks:=s.toks+1}:=λh' jP sb=>by
   have I1:Inv X aa Z H { s with heap:=h',toks:=s.toks+1}:=I.turned (λb o hb e=>(sb.2 b hb).trans e) f0 f1 f3 f4 f5
   obtain⟨o,e,c,d⟩:=id jP;refine⟨_,rfl,yG (s:={ s with heap:=h',toks:=s.toks+1}) e c d (by rcases vp with z|z <;> subst z <;> decide) ⟨.str (kY x.cps[i]),H,I1,⟨_,rfl⟩,⟨rfl,_,by simp[hi],rfl⟩,jP,λb hb=>(hf b hb).1⟩⟩
  rcases vp with z|z
  .subst z;exact wpAny_pyNext_ascii_item st (c:=x.cps[i]) (by simp[hi]) fin
  .subst z;exact wpAny_pyNext_wide_item st (c:=x.cps[i]) (by simp[hi]) fin
 done:=by
  intro X hP hw hK hc i aa s Z H E I hf st hg;subst hP hw hK;have hi:x.cps.size<=i:=hg;obtain⟨f0,f1,f2,f3,f4,f5⟩:=hf it (by simp)
  rcases vp with z|z
  .subst z;exact wpAny_pyNext_ascii_end (I.ok.hd hc) st (by simp;lia) λh' eb=>⟨rfl,I.turned (t':=s.toks) (λb o hb e=>eb b o hb e) f0 f1 f3 f4 f5⟩
  .subst z;exact wpAny_pyNext_wide_end (I.ok.hd hc) st (by simp;lia) λh' eb=>⟨rfl,I.turned (t':=s.toks) (λb o hb e=>eb b o hb e) f0 f1 f3 f4 f5⟩
 self:=λ_ _ _ _ _ st h=>by
  rcases vp with z|z
  .subst z;exact wpAny_pyIter_striter_ascii st h
  .subst z;exact wpAny_pyIter_striter_wide st h
def Ds(tl:TE):TI:=λZ H R=>tl Z H λx H1=>∃z,x=.str z/\R (Eu z) H1
def e0j{l:Expr}{tl:TE}(hl:PE X l tl):PI X tg l (Ds tl):=by
 intro aa s Z H R I h;refine bA (hl aa s Z H _ I h) λv s1 hh=>?_
 obtain⟨x,H1,I1,r1,q1⟩:=hh;obtain⟨z,e,q⟩:=q1;subst e;obtain⟨t,rfl⟩:=r1;have key:∀ty:String,ty="str_ascii_iterator"\/ty="str_iterator"->HH X aa Z tg R (.ref s1.heap.objs.size) { s1 with heap:=s1.heap.push { cls:=.type ty,data:=.fields #[.str z t,.int 0 0]}}:=λty vp=>by
  refine⟨s1.heap.objs.size,[s1.heap.objs.size],_,_,H1,rfl,I1.kept (t':=s1.toks) λb o e=>cO _ e,VE _ z t ty vp,⟨_,jr _ (by rcases vp with e|e <;> subst e <;> rfl),rfl,rfl⟩,λb hb=>?_,q⟩
  have e:b=s1.heap.objs.size:=by simpa using hb
  subst e;exact I1.k6 (bF _) (I1.bj.fresh (bF _))
 cases ha:z.cps.all (· < 128)
 .exact wpAny_pyIter_wide ha (key _ (.inr rfl))
 .exact wpAny_pyIter_ascii ha (key _ (.inl rfl))
def fM(names outer:List (Str×pL))(N M:List Str)(k:Nat)(cL:List Nat):Bool:=
 names.all (λy=>y.2 != .cell)&&(names.all (λy=>y.2 != .free || (outer.lookup y.1 == some .cell || outer.lookup y.1 == some .free))&&(names.all (λy=>y.2 != .local || names.lookup y.1 == some .local) && (M.length == k+cL.length&&(List.range cL.length).all (λj=>match cL[j]?,M[k+j]? with|some i,some x=>N[i]? == some x&&names.lookup x == some .free|_,_=>true))))
def dB.of{scope:Scope}{M:List Str}{k:Nat}{cL:List Nat}(outer:List (Str×pL))(N:List Str)(h:fM scope.names outer N M k cL=true)(ho:X.env.scope.names=outer:=by rfl)(hN:X.N=N:=by rfl)(hk:scope.kind=.function:=by rfl):dB X scope M k cL:=by
 unfold fM at h;simp only[jq,pK,Bool.or_eq_true,bne_iff_ne,ne_eq,beq_iff_eq] at h;obtain⟨h1,h2,h3,h4,h5⟩:=h;refine⟨hk,h1,λy hy e=>?_,λy hy e=>?_,h4,λj i x e1 e2=>?_⟩
 .rcases h2 y hy with z|z
  .exact bW e z
  .show X.env.scope.names.lookup y.1=_\/X.env.scope.names.lookup y.1=_;rw[ho];exact z
 .rcases h3 y hy with z|z
  .exact bW e z
  .exact z
 .have hj:j<cL.length:=(eR.mp e1).1;have:=h5 j (uA.mpr hj);rw[e1,e2] at this;simp only[jq,beq_iff_eq] at this;rw[hN];exact this
section
variable{X:Cx}
def e0k:dm X (compareOp .Is) (λx y H Q=>∃a b,x=.bl a/\y=.bl b/\Q (.bl (a == b)) H):=by
 intro aa s Z H x y v u Q I rx ry h;obtain⟨a,b,rfl,rfl,q⟩:=h;cases rx;cases ry;exact is_bool (uU I q rfl)
def Yl:dm X (compareOp .IsNot) (λx y H Q=>∃a b,x=.bl a/\y=.bl b/\Q (.bl (a != b)) H):=by
 intro aa s Z H x y v u Q I rx ry h;obtain⟨a,b,rfl,rfl,q⟩:=h;cases rx;cases ry;exact isnot_bool (uU I q rfl)
def Cp(K:PySem.W.Frag)(H:Hp):V->String->Prop
 |.aG,n=>n="NoneType"
 |.bl _,n=>n="bool"
 |.int _,n=>n="int"
 |.str _,n=>n="str"
 |.ref a,n=>(n="list"/\∃xs,cz K H a xs)\/(n="tuple"/\∃xs,gu K H a xs)
 |_,_=>False
def qP(k T:String):Bool:=k == T || (k == "bool" && T == "int")
def VF:bH X (.builtin "isinstance") (λxs H Q=>∃x k T,xs=[x,.ty T]/\Cp X.K H x k/\(T="int"\/T="str"\/T="bool"\/T="list"\/T="tuple")/\Q (.bl (qP k T)) H):=by
 intro aa s Z H xs us Q I r h;obtain⟨x,k,T,rfl,hk,hT,q⟩:=h;obtain⟨u,w',rfl,rx,ry⟩:=vals2 r;cases ry;have fin:∀b,b=qP k T->EP X aa Z Q (.bool b) s:=λb e=>uU I q e.symm
 have cT:∀b,b=qP k T->EP X aa Z Q (.bool b) { s with toks:=s.toks+1}:=λb e=>uU (I.tok _) q e.symm
 cases x with
 |aG=>
  cases rx;have hk:k="NoneType":=hk;subst hk;rcases hT with rfl|rfl|rfl|rfl|rfl
  .exact IsiPair.NoneType_int (cT _ (by decide))
  .exact IsiPair.NoneType_str (cT _ (by decide))
  .exact IsiPair.NoneType_bool (cT _ (by decide))
  .exact IsiPair.NoneType_list (cT _ (by decide))
  .exact IsiPair.NoneType_tuple (cT _ (by decide))
 |bl b=>
  cases rx;have hk:k="bool":=hk;subst hk;rcases hT with rfl|rfl|rfl|rfl|rfl
  .exact IsiPair.bool_int (fin _ (by decide))
  .exact IsiPair.bool_str (cT _ (by decide))
  .exact IsiPair.bool_bool (fin _ (by decide))
  .exact IsiPair.bool_list (cT _ (by decide))
  .exact IsiPair.bool_tuple (cT _ (by decide))
 |int i=>
  obtain⟨t,rfl⟩:=rx;have hk:k="int":=hk;subst hk;rcases hT with rfl|rfl|rfl|rfl|rfl
  .exact IsiPair.int_int (fin _ (by decide))
  .exact IsiPair.int_str (cT _ (by decide))
  .exact IsiPair.int_bool (cT _ (by decide))
  .exact IsiPair.int_list (cT _ (by decide))
  .exact IsiPair.int_tuple (cT _ (by decide))
 |str z=>
  obtain⟨t,rfl⟩:=rx;have hk:k="str":=hk;subst hk;rcases hT with rfl|rfl|rfl|rfl|rfl
  .exact IsiPair.str_int (cT _ (by decide))
  .exact IsiPair.str_str (fin _ (by decide))
  .exact IsiPair.str_bool (cT _ (by decide))
  .exact IsiPair.str_list (cT _ (by decide))
  .exact IsiPair.str_tuple (cT _ (by decide))
 |ref a=>
  cases rx;rcases hk with⟨hk,ys,hs⟩|⟨hk,ys,hs⟩
  .subst hk;obtain⟨aA,_,⟨o,n,e,hc,_⟩,_⟩:=I.list hs;rcases hT with rfl|rfl|rfl|rfl|rfl
   .exact IsiPair.list_int e hc (cT _ (by decide))
   .exact IsiPair.list_str e hc (cT _ (by decide))
   .exact IsiPair.list_bool e hc (cT _ (by decide))
   .exact IsiPair.list_list e hc (fin _ (by decide))
   .exact IsiPair.list_tuple e hc (cT _ (by decide))
  .subst hk;obtain⟨aA,_,⟨o,e,hc,_⟩,_⟩:=I.tuple hs;rcases hT with rfl|rfl|rfl|rfl|rfl
   .exact IsiPair.tuple_int e hc (cT _ (by decide))
   .exact IsiPair.tuple_str e hc (cT _ (by decide))
   .exact IsiPair.tuple_bool e hc (cT _ (by decide))
   .exact IsiPair.tuple_list e hc (cT _ (by decide))
   .exact IsiPair.tuple_tuple e hc (fin _ (by decide))
 |wx _=>exact False.elim hk
 |wN _=>exact False.elim hk
 |ty _=>exact False.elim hk
def e5y{x:Str}{n:String}{pos:Pos}(hg:Gl X x)(hm:X.mg x=none)(hv:bootBuiltins x=some (.type n))(hn:x≠"__name__":=by decide)(hd:(x == ("__debug__":Str))=false:=by decide):PE X (.Name x pos) (tC (.ty n)):=
 XI hg hm hv rfl hn hd
def SR{prog:cS}{A:cD}(aA:List aj)(bs:List Bool)(hv:Vals (bs.map V.bl) aA):TruthOf prog w A (λi v=>aA.toArray[i]?=some v) (λi=>bs.getD i false):=by
 intro i v s Q E hP hQ;have Q6:aA[i]?=some v:=by simpa using hP
 have hl:=hv.length;rw[bc] at hl;have hi:i<aA.length:=(eR.mp Q6).1;have hb:(bs.map V.bl)[i]?=some (.bl bs[i]):=by simp[show i<bs.length by lia]
 obtain⟨u,hu,ru⟩:=hv.get hb;rw[Q6] at hu;cases hu;cases ru;have e:bs.getD i false=bs[i]:=by simp[show i<bs.length by lia]
 have Q7:Q (bs.getD i false) s:=hQ;rw[e] at Q7;exact wpAny_truthy_bool Q7
def Ul(bs:List Bool):(List.range bs.length).all (λi=>bs.getD i false)=bs.all id:=by
 rw[z9,pK,pK];constructor
 .intro h b hb;obtain⟨i,hi,e⟩:=List.mem_iff_getElem.mp hb;have:=h i (uA.mpr hi);simp[hi] at this;rw[<-e];exact this
 .intro h i hi;have hi:=uA.mp hi;have:=h bs[i] (El hi);simp[hi];exact this
def Um(hc:X.calm=true):bH X (.builtin "all") (λxs H Q=>∃(a:ah) (bs:List Bool),xs=[.ref a]/\cz X.K H a (bs.map V.bl)/\Q (.bl (bs.all id)) H):=by
 intro aa s Z H xs us Q I r h;obtain⟨a,bs,rfl,hs,q⟩:=h;obtain⟨u,rfl,ru⟩:=vals1 r;cases ru;obtain⟨aA,rv,p,hz⟩:=I.list hs;have hl:=rv.length;rw[bc] at hl;refine call_all_walk (wpAny_pyIter_list p.isList ?_);have eY:a≠s.heap.objs.size:=by obtain⟨o,n,e,_⟩:=p;exact gm (cC e)
 refine⟨s.heap.objs.size,_,_,aA.toArray.size,_,_,λi=>bs.getD i false,rfl,Walks.list (A:=X.A.in1) (show X.A.in1.handled=none from I.ok.hd hc) _ a eY aA.toArray,⟨⟨_,jr _ rfl,rfl,rfl⟩,?_⟩,SR aA bs rv,λh' tk hk=>?_⟩
 .exact p.isList.at λo e=>cO _ e
 .have e1:aA.toArray.size=bs.length:=by rw[cZ,<-hl]
  refine⟨.bl (bs.all id),H,I.kept (h':=h') (t':=tk) (λb o e=>hk b o (λz=>bW (fI (cC e) (Hf (kJ.mp z).symm)) (jE _)) (cO _ e)),?_,q⟩
  show Value.bool _=Value.bool _;rw[e1,Ul]
end
variable{H:Hp}{a:ah}{o:HO}
structure br (K:PySem.W.Frag) (mg:Str->ak aj) (x:Str) (st:Stmt) (f:ah) (fd:bV) (ps:List Str):Prop where
 fn:Fun K x x st f fd
 mg:mg x=some (.ref f)
 bd:Binds K fd ps []
section
variable{X:Cx}{k:Nat}{f:ah}{fd:bV}{ps:List Str}{sp:Sp}{x:Str}{p pos:Pos}{e:Expr}{es:List Expr}{t:TA}{st:Stmt}
end
section
variable{X:Cx}{a b:Expr}{rest:List Expr}{pos:Pos}{ta tb:TE}{tA tB:TT}
end
def aw.put{H':Hp}(s:aw H H')(h:H' a=none):aw H (upd H' a o):=λb u e=>by
 have z:=s b u e;rw[cQ (r9 z h)];exact z
def sd(h:H a=none):aw H (upd H a o):=(aw.refl H).put h
def NZ{α:Type}{xs:List α}{k:Int}(d:α)(h0:0<=k)(hk:k<xs.length):dC xs k=some (xs.getD k.toNat d):=by
 have wR:k.toNat<xs.length:=by lia
 have e:xs[k.toNat]?=some (xs.getD k.toNat d):=by simp[wR]
 have z:=ra e
 rwa[show((k.toNat:Nat):Int)=k by lia] at z
def pU:bootBuiltins "list"=some (.type "list"):=by decide +kernel
section
variable{X:Cx}
noncomputable def qN(xs:List V)(k:Nat)(y:V):List V:=xs.take k++y::xs.drop k
def SS(xs:List V)(k:Nat)(y:V):(qN xs k y).length=xs.length+1:=by
 grind [qN]
def OM:V->List V->Hp->VK->Prop:=λx vs H Q=>∃l xs i y,x=.ref l/\vs=[.int i,y]/\H l=some (.lst xs)/\0<=i/\i<2^62/\xs.length<sizeLine/\Q .aG (upd H l (.lst (qN xs i.toNat y)))
theorem Uo:Ag X "list.insert" OM:=by
 intro aa s Z H x vs v us Q I rx rv h;obtain⟨l,xs,i,y,rfl,rfl,hH,h0,hi,hz,q⟩:=h;cases rx;obtain⟨u,u',rfl,⟨t,rfl⟩,ru⟩:=rv.two;obtain⟨z,aA,n,r,hl,e⟩:=I.zv hH;have Ki:¬(!Builtin.List.listFitsIndex i)=true:=by
  unfold Builtin.List.listFitsIndex;simp;lia
 refine call_meets F.slot_list_insert ⟨_,e,rfl⟩ F.entry_list_insert (F.args_list_insert_3 _ _ _) (PySem.AutoSeq1.list_insert_list_int_val_1 l aA.toArray n i t u' Ki (by rw[cZ];lia)) ⟨e,?_⟩
 refine⟨.aG,_,I.zu (its':=aA.take i.toNat++u'::aA.drop i.toNat) hH e ?_ ((r.take i.toNat).append (.cons ru (r.drop i.toNat))) ?_,rfl,q⟩
 .have h1:¬i<0:=by lia
  simp only[h1,m_];apply Array.ext';simp only[Array.toList_append,Array.toList_push,Array.toList_extract,cZ];rw[List.extract_eq_drop_take,List.extract_eq_drop_take];have e1:min i.toNat aA.length - 0=min i.toNat aA.length:=by lia
  rw[e1];simp only[List.drop_zero];have e2:aA.take (min i.toNat aA.length)=aA.take i.toNat:=by rw[List.take_eq_take_iff];lia
  rw[e2];by_cases hc:i.toNat<=aA.length
  .rw[Nat.min_eq_left hc,v5 (l:=List.drop i.toNat aA) (by rw[Hg];lia)]
   simp
  .have hc:aA.length<=i.toNat:=by lia
   rw[Nat.min_eq_right hc,Hh (bF _),Hh hc];simp
 .show(qN xs i.toNat y).length<=sizeLine;rw[SS];lia
def Hz(a c:Int)(n:Nat):It:=⟨λi _=>i<n,λi H x H'=>H'=H/\x=.int (a+i*c),λi _=>n<=i⟩
def SU{P:cS}{w:cg}{K:PySem.W.Frag}{tg:Expr}(it:ah)(a c:Int)(n:Nat):Turn P w K tg (Hz a c n) [it] it (λi h=>IsRangeIter h it (a+(i:Nat)*c) ((n:Int) - (i:Nat)) c) where
 mem:=by simp
 obj:=λi h st b hb=>by
  simp_all
 keep:=λi h h' st k=>k it (by simp) _ st
 item:=by
  intro X hP hw hK hc i aa s Z H E I hf st hg;subst hP hw hK;obtain⟨f0,f1,f2,f3,f4,f5⟩:=hf it (by simp)
  have W:=Walks.range (prog:=X.prog) (w:=X.w) (I.ok.hd hc) it a c n;refine W.item i s _ _ hg st λv h' tk hv jP kk=>?_
  obtain⟨t,rfl⟩:=hv;have I1:Inv X aa Z H { s with heap:=h',toks:=tk}:=I.turned (λb o hb e=>kk b o (by simpa using hb) e) f0 f1 f3 f4 f5
  exact⟨_,rfl,yG (s:={ s with heap:=h',toks:=tk}) (n:="range_iterator") jP rfl rfl (by decide) ⟨.int (a+i*c),H,I1,⟨t,rfl⟩,⟨rfl,rfl⟩,jP,λb hb=>(hf b hb).1⟩⟩
 done:=by
  intro X hP hw hK hc i aa s Z H E I hf st hg;subst hP hw hK;obtain⟨f0,f1,f2,f3,f4,f5⟩:=hf it (by simp)
  exact wpAny_pyNext_range_end (I.ok.hd hc) st (by have:n<=i:=hg;lia) λh' eb=>⟨rfl,I.turned (t':=s.toks) (λb o hb e=>eb b o hb e) f0 f1 f3 f4 f5⟩
 self:=λ_ _ _ _ _ st h=>wpAny_pyIter_rangeiter st h
def w_(ta:TA):TI:=λZ H R=>ta Z H λvs H1=>∃i j:Int,vs=[.int i,.int j,.int (-1)]/\(-(2^20)<=i/\i<2^20 /\ -(2^20)<=j/\j<2^20)/\R (Hz i (-1) (i - j).toNat) H1
def Uq{tg a b c:Expr}{ta:TA}{p pos:Pos}(hg:Gl X "range")(hm:X.mg "range"=none)(ha:PA X [a,b,c] ta)(hs:starEach [a,b,c] X.env=[(false,eval a X.env),(false,eval b X.env),(false,eval c X.env)]:=by rfl)
  (zj:starEach [b,c] X.env=[(false,eval b X.env),(false,eval c X.env)]:=by rfl):PI X tg (.Call (.Name "range" p) [a,b,c] [] pos) (w_ ta):=by
 intro aa s Z H R I h;refine Call_ (wo I hg hm boot_range (PyProof.Rows.callWith_type1 (bA (ha pos aa s Z H _ I h) λus s1 ⟨vs,H1,I1,r1,q1⟩=>?_) (by rw[hs,zj]) (by rw[zj];rfl)))
 obtain⟨i,j,e,⟨q1,q2,q3,q4⟩,q⟩:=q1;subst e;cases r1 with
 |cons r rr=>
  cases rr with
  |cons r' rr=>
   cases rr with
   |cons r'' rr=>
    cases rr;obtain⟨t,rfl⟩:=r;obtain⟨t',rfl⟩:=r';obtain⟨Bk,rfl⟩:=r'';refine call_range_3 (by decide) ?_ (Or.inl (PyProof.noPylong_small (by lia)))
    refine wpAny_pyIter_range (IsRange.new ..) (PySem.W.small_down (by lia) (by lia) (by lia) (by lia)) ?_
    have I2:Inv X aa Z H1 { s1 with heap:=s1.heap.push { cls:=.type "range",data:=.fields #[.int i t,.int j t',.int (-1) Bk]}}:=I1.kept (t':=s1.toks) λb o e=>cO _ e
    refine⟨(s1.heap.push { cls:=.type "range",data:=.fields #[.int i t,.int j t',.int (-1) Bk]}).objs.size,[(s1.heap.push { cls:=.type "range",data:=.fields #[.int i t,.int j t',.int (-1) Bk]}).objs.size],_,_,H1,rfl,I2.kept (t':=s1.toks) λb o e=>cO _ e,SU _ i (-1) (i - j).toNat,?_,λb hb=>?_,q⟩
    .have e1:i+((0:Nat):Int)*(-1)=i:=by simp
     have e2:(((i - j).toNat:Nat):Int) - ((0:Nat):Int)=Builtin.Range.rangeSize i j (-1):=by rw[PySem.W.rangeSize_downNat];lia
     show IsRangeIter _ _ (i+((0:Nat):Int)*(-1)) ((((i - j).toNat:Nat):Int) - ((0:Nat):Int)) (-1);rw[e1,e2];exact jr _ rfl
    .have e:b=(s1.heap.push { cls:=.type "range",data:=.fields #[.int i t,.int j t',.int (-1) Bk]}).objs.size:=by simpa using hb
     subst e;exact I2.k6 (bF _) (I2.bj.fresh (bF _))
def DU:V->ak Int->ak Int->Hp->VK->Prop:=λx lo hi H Q=>∃z,x=.str z/\z.length<=sizeLine/\Q (.str (Txt.slice z lo hi)) H
theorem zS:rZ X DU:=by
 intro aa s Z H x v vl vu lo hi sl Q I rx hs pl pu h;obtain⟨z,rfl,hz,q⟩:=h;obtain⟨t,rfl⟩:=rx;refine⟨"str",_,F.slot_str_getitem.lookup,typeIs_str _ _ _,?_⟩;have fin:∀t' k,EP X aa Z Q (.str (Txt.slice z lo hi) t') { s with toks:=k}:=λt' k=>⟨.str _,H,I.tok _,⟨_,rfl⟩,q⟩
 cases pl with
 |none=>
  cases pu with
  |none=>exact wpAny_getItem_str_slice (l:=none) (u:=none) (st:=none) hs rfl (post_val_or_str ⟨i4 (Txt.slice_le z _ _) hz,fin⟩)
  |int j tj=>exact wpAny_getItem_str_slice (l:=none) (u:=some (j,tj)) (st:=none) hs rfl (post_val_or_str ⟨i4 (Txt.slice_le z _ _) hz,fin⟩)
 |int i ti=>
  cases pu with
  |none=>exact wpAny_getItem_str_slice (l:=some (i,ti)) (u:=none) (st:=none) hs rfl (post_val_or_str ⟨i4 (Txt.slice_le z _ _) hz,fin⟩)
  |int j tj=>exact wpAny_getItem_str_slice (l:=some (i,ti)) (u:=some (j,tj)) (st:=none) hs rfl (post_val_or_str ⟨i4 (Txt.slice_le z _ _) hz,fin⟩)
def Tj:dm X (binaryOp .Mult) (λx y H Q=>∃z n,x=.str z/\y=.int n/\MulOk z n/\Q (.str (Txt.mul z n)) H):=by
 intro aa s Z H x y v u Q I rx ry h;obtain⟨z,n,rfl,rfl,hm,q⟩:=h;obtain⟨t,rfl⟩:=rx;obtain⟨t',rfl⟩:=ry;exact SB.mul hm λt' k=>⟨.str _,H,I.tok _,⟨_,rfl⟩,q⟩
end
inductive x6 (K:PySem.W.Frag) (H:Hp):Nat->V->V->Bool->Prop
 |flat {d:Nat} {x y:V}:wM x=true->wM y=true->x6 K H d x y (eqV x y)
 |same {d:Nat} {a:ah}:x6 K H d (.ref a) (.ref a) true
 |lst {d:Nat} {a b:ah} {xs ys:List V} {e:Nat->Bool}:a≠b->cz K H a xs->cz K H b ys->xs.length=ys.length->(∀(i:Nat) x y,xs[i]?=some x->ys[i]?=some y->x6 K H d x y (e i))->x6 K H (d+1) (.ref a) (.ref b) ((List.range xs.length).all e)
 |lstN {d:Nat} {a b:ah} {xs ys:List V}:a≠b->cz K H a xs->cz K H b ys->xs.length≠ys.length->x6 K H (d+1) (.ref a) (.ref b) false
 |tup {d:Nat} {a b:ah} {xs ys:List V} {e:Nat->Bool}:a≠b->gu K H a xs->gu K H b ys->(∀(i:Nat) x y,xs[i]?=some x->ys[i]?=some y->x6 K H d x y (e i))->x6 K H (d+1) (.ref a) (.ref b) ((List.range (min xs.length ys.length)).all e&&xs.length == ys.length)
section
variable{X:Cx}{aa:List (ah×Obj)}{Z:St}{H:Hp}{s:aq}
def Vals.at{xs:List V}{us:List aj}(r:Vals xs us){j:Nat}(h:j<us.toArray.size):∃x,xs[j]?=some x/\RelV x us.toArray[j]:=by
 have hl:=r.length;have h':j<us.length:=by simpa using h
 have hx:xs[j]?=some xs[j]:=by simp[show j<xs.length by lia]
 obtain⟨u,hu,ru⟩:=r.get hx
 simp_all
end
section
variable{X:Cx}
def VG(K:PySem.W.Frag)(hK:X.K=K:=by rfl):qC X (zL K):=hK ▸ X6
def Ym(K:PySem.W.Frag)(hK:X.K=K:=by rfl):qC X (zM K):=hK ▸ e0h
def Ss(K:PySem.W.Frag)(hK:X.K=K:=by rfl):bH X (.builtin "len") (λxs H Q=>∃p ys,xs=[.ref p]/\(cz K H p ys\/gu K H p ys)/\Q (.int ys.length) H):=hK ▸ SA
def VH(K:PySem.W.Frag)(hK:X.K=K:=by rfl):rZ X (zN K):=hK ▸ X7
def Yn(K:PySem.W.Frag)(hK:X.K=K:=by rfl):rZ X (zO K):=hK ▸ e0g
def Ur(K:PySem.W.Frag)(hK:X.K=K:=by rfl):bH X (.builtin "isinstance") (λxs H Q=>∃x k T,xs=[x,.ty T]/\Cp K H x k/\(T="int"\/T="str"\/T="bool"\/T="list"\/T="tuple")/\Q (.bl (qP k T)) H):=hK ▸ VF
def b2i(K:PySem.W.Frag)(hK:X.K=K:=by rfl):bH X (.type "list") (λxs H Q=>∃p ys,xs=[.ref p]/\(cz K H p ys\/gu K H p ys)/\∀l,H l=none->Q (.ref l) (upd H l (.lst ys))):=hK ▸ SD
end
end L2
set_option autoImplicit false
namespace L2
open PySem PySem.Spec PyProof.Rows
theorem E3{α β:Type}{R:α->β->Prop}:∀{l:List α} {m:List β} (i:Nat) {b:β},Paired R l m->m[i]?=some b->∃a,l[i]?=some a/\R a b
 |_,_,_,_,.nil,e=>by simp at e
 |_,_,0,_,.cons r _,e=>by simp at e;subst e;exact⟨_,rfl,r⟩
 |_,_,i+1,_,.cons _ t,e=>by
  obtain⟨a,h1,h2⟩:=E3 i t (by simpa using e)
  exact⟨a,by simpa using h1,h2⟩
theorem BZ{α β:Type}{R:α->β->Prop}:∀{l:List α} {m:List β} (i:Nat) {a:α},Paired R l m->l[i]?=some a->∃b,m[i]?=some b/\R a b
 |_,_,_,_,.nil,e=>by simp at e
 |_,_,0,_,.cons r _,e=>by simp at e;subst e;exact⟨_,rfl,r⟩
 |_,_,i+1,_,.cons _ t,e=>by
  obtain⟨a,h1,h2⟩:=BZ i t (by simpa using e)
  exact⟨a,by simpa using h1,h2⟩
inductive D where
 |aG|bl (b:Bool)|int (i:Int)|str (x:Str)|ty (n:String)|ref (n:Nat)
 |lst (xs:List D)|tup (xs:List D)|ar (kvs:List (TK×D))
mutual
def TK.d:TK->D
 |.inl i=>.int i
 |.inr x=>.str x
 |.tp l=>.tup (TK.dl l)
 |.aG=>.aG
def TK.dl:List TK->List D
 |[]=>[]
 |k::l=>TK.d k::TK.dl l
end
noncomputable def wq:D->ak V
 |.aG=>some .aG
 |.bl b=>some (.bl b)
 |.int i=>some (.int i)
 |.str x=>some (.str x)
 |.ty n=>some (.ty n)
 |_=>none
structure Kn where
 F:Hp
 A:List ah
 T:List ah
inductive ag (K:PySem.W.Frag) (k:Kn):List V->List D->Prop
 |nil:ag K k [] []
 |flat {v:V} {d:D} {vs:List V} {ds:List D}:wq d=some v->ag K k vs ds->ag K k (v::vs) (d::ds)
 |ref {n:Nat} {a:ah} {vs:List V} {ds:List D}:k.A[n]?=some a->ag K k vs ds->ag K k (.ref a::vs) (.ref n::ds)
 |lst {a:ah} {ws vs:List V} {es ds:List D}:cz K k.F a ws->ag K k ws es->ag K k vs ds->ag K k (.ref a::vs) (.lst es::ds)
 |tup {a:ah} {ws vs:List V} {es ds:List D}:gu K k.F a ws->ag K k ws es->ag K k vs ds->ag K k (.ref a::vs) (.tup es::ds)
 |ar {a:ah} {kvs:List (TK×V×V)} {es:List (TK×D)} {ep:Nat} {vs:List V} {ds:List D}:k.F a=some (.dG kvs ep)->kvs.map (·.1)=es.map (·.1)->ag K k (kvs.map (·.2.1)) (es.map (·.1.d))->ag K k (kvs.map (·.2.2)) (es.map (·.2))->ag K k vs ds->ag K k (.ref a::vs) (.ar es::ds)
def aw.rd{H H':Hp}{a:ah}{u:HO}(e:aw H H')(h:Rd H a u):Rd H' a u:=by
 rcases h with h|⟨o,h⟩
 .exact .inl (e _ _ h)
 .exact .inr ⟨o,e _ _ h⟩
def aw.zT{K:PySem.W.Frag}{H H':Hp}{a:ah}{xs:List V}(e:aw H H')(h:gu K H a xs):gu K H' a xs:=h.imp e.rd id
def aw.LB{K:PySem.W.Frag}{H H':Hp}{a:ah}{xs:List V}(e:aw H H')(h:cz K H a xs):cz K H' a xs:=h.imp e.rd id
structure Kn.le (k k':Kn):Prop where
 f:aw k.F k'.F
 a:k.A <+: k'.A
def FR{α:Type}{l l':List α}{n:Nat}{x:α}(h:l <+: l')(e:l[n]?=some x):l'[n]?=some x:=by
 obtain⟨t,rfl⟩:=h;rw[xS (eR.mp e).1];exact e
section
variable{K:PySem.W.Frag}{k k':Kn}{v:V}{vs ws:List V}{d:D}{ds es:List D}
def ag.mono(s:k.le k')(h:ag K k vs ds):ag K k' vs ds:=by
 induction h with
 |nil=>exact .nil
 |flat e _ ih=>exact .flat e ih
 |ref e _ ih=>exact .ref (FR s.a e) ih
 |lst e _ _ i1 i2=>exact .lst (s.f.LB e) i1 i2
 |tup e _ _ i1 i2=>exact .tup (s.f.zT e) i1 i2
 |ar e q _ _ _ i0 i1 i2=>exact .ar (s.f _ _ e) q i0 i1 i2
def ag.length(h:ag K k vs ds):vs.length=ds.length:=by
 induction h with
 |nil=>rfl
 |flat _ _ ih=>exact congrArg _ ih
 |ref _ _ ih=>exact congrArg _ ih
 |lst _ _ _ _ ih=>exact congrArg _ ih
 |tup _ _ _ _ ih=>exact congrArg _ ih
 |ar _ _ _ _ _ _ _ ih=>exact congrArg _ ih
def ag.inv(h:ag K k (v::vs) (d::ds)):ag K k [v] [d]/\ag K k vs ds:=by
 cases h with
 |flat e t=>exact⟨.flat e .nil,t⟩
 |ref e t=>exact⟨.ref e .nil,t⟩
 |lst e i t=>exact⟨.lst e i .nil,t⟩
 |tup e i t=>exact⟨.tup e i .nil,t⟩
 |ar e q j i t=>exact⟨.ar e q j i .nil,t⟩
def ag.cons(h:ag K k [v] [d])(t:ag K k vs ds):ag K k (v::vs) (d::ds):=by
 cases h with
 |flat e _=>exact .flat e t
 |ref e _=>exact .ref e t
 |lst e i _=>exact .lst e i t
 |tup e i _=>exact .tup e i t
 |ar e q j i _=>exact .ar e q j i t
def ag.bU(h:ag K k vs (d::ds)):∃w us,vs=w::us/\ag K k [w] [d]/\ag K k us ds:=by
 cases vs with
 |nil=>have:=h.length;cases this
 |cons w us=>exact⟨w,us,rfl,h.inv⟩
def ag.fH(h:ag K k vs []):vs=[]:=List.eq_nil_of_length_eq_zero h.length
def ag.get{i:Nat}(h:ag K k vs ds)(e:ds[i]?=some d):∃v,vs[i]?=some v/\ag K k [v] [d]:=by
 induction ds generalizing vs i with
 |nil=>cases e
 |cons x ds ih=>
  obtain⟨w,us,rfl,h1,h2⟩:=h.bU;cases i with
  |zero=>cases e;exact⟨w,rfl,h1⟩
  |succ i=>exact ih (vs:=us) (i:=i) h2 e
def ag.append(h:ag K k vs ds)(t:ag K k ws es):ag K k (vs++ws) (ds++es):=by
 induction ds generalizing vs with
 |nil=>rw[h.fH];exact t
 |cons x ds ih=>
  obtain⟨w,us,rfl,h1,h2⟩:=h.bU;exact .cons h1 (ih h2)
def ag.take(n:Nat)(h:ag K k vs ds):ag K k (vs.take n) (ds.take n):=by
 induction n generalizing vs ds with
 |zero=>exact .nil
 |succ n ih=>
  cases ds with
  |nil=>rw[h.fH];exact .nil
  |cons x ds=>
   obtain⟨w,us,rfl,h1,h2⟩:=h.bU;exact .cons h1 (ih h2)
def ag.drop(n:Nat)(h:ag K k vs ds):ag K k (vs.drop n) (ds.drop n):=by
 induction n generalizing vs ds with
 |zero=>exact h
 |succ n ih=>
  cases ds with
  |nil=>rw[h.fH];exact .nil
  |cons x ds=>
   obtain⟨w,us,rfl,h1,h2⟩:=h.bU;exact ih h2
def VI(ns:List Int):ag K k (ns.map V.int) (ns.map D.int):=by
 induction ns with
 |nil=>exact .nil
 |cons n ns ih=>exact .flat rfl ih
def ag.aW{u:V}(h:ag K k [v] [d])(e:wq d=some u):v=u:=by
 cases h with
 |flat q _=>rw[e] at q;exact(Option.some.inj q).symm
 |_=>cases e
def ag.isRef{n:Nat}(h:ag K k [v] [.ref n]):∃a,v=.ref a/\k.A[n]?=some a:=by
 cases h with
 |flat q _=>cases q
 |ref e _=>exact⟨_,rfl,e⟩
def ag.xg(h:ag K k [v] [.lst es]):∃a ws,v=.ref a/\cz K k.F a ws/\ag K k ws es:=by
 cases h with
 |flat q _=>cases q
 |lst e i _=>exact⟨_,_,rfl,e,i⟩
def ag.isTup(h:ag K k [v] [.tup es]):∃a ws,v=.ref a/\gu K k.F a ws/\ag K k ws es:=by
 cases h with
 |flat q _=>cases q
 |tup e i _=>exact⟨_,_,rfl,e,i⟩
def ag.xa{kvs:List (TK×D)}(h:ag K k [v] [.ar kvs]):∃a es ep,v=.ref a/\k.F a=some (.dG es ep)/\es.map (·.1)=kvs.map (·.1)/\ag K k (es.map (·.2.1)) (kvs.map (·.1.d))/\ag K k (es.map (·.2.2)) (kvs.map (·.2)):=by
 cases h with
 |flat q _=>cases q
 |ar e q j i _=>exact⟨_,_,_,rfl,e,q,j,i⟩
end
end L2
set_option autoImplicit false
namespace L2
open PySem PySem.Spec PyProof.Rows
inductive Bx where
 |lst (xs:List D)|ar (kvs:List (TK×D))
noncomputable def Bx.d:Bx->D
 |.lst xs=>.lst xs
 |.ar kvs=>.ar kvs
inductive Cell where
 |o (c:Bx)|z (c:Bx)|ins (C:ah) (fs:List (Str×D))
structure aO where
 s:List Cell
 r:List Cell
inductive Val where
 |d (x:D)|c (n:Nat)
abbrev Gm:=List (ak Val)
inductive Rv where
 |v (x:Val)|o (c:Bx)
inductive Rs (α:Type) where
 |ok (a:α) (S:aO)|ex (C:ah) (l:ak Int) (S:aO)
abbrev Gx(α:Type):=Gm->aO->ak (Rs α)
def bd{α β:Type}(x:ak (Rs α))(f:α->aO->ak (Rs β)):ak (Rs β):=match x with
 |none=>none
 |some (.ok a S)=>f a S
 |some (.ex C l S)=>some (.ex C l S)
noncomputable def vx:Nat->HO->Bool
 |0,_=>false
 |1,.dG _ _=>true
 |1,_=>false
 |_,_=>true
def dc(K:PySem.W.Frag)(k:Kn)(H:Hp)(a:ah):Bx->Prop
 |.lst xs=>∃ws,H a=some (.lst ws)/\ag K k ws xs
 |.ar kvs=>∃es ep,H a=some (.dG es ep)/\es.map (·.1)=kvs.map (·.1)/\ag K k (es.map (·.2.1)) (kvs.map (·.1.d))/\ag K k (es.map (·.2.2)) (kvs.map (·.2))
def aX(K:PySem.W.Frag)(k:Kn)(H:Hp)(a:ah):Cell->Prop
 |.o c=>k.F a=none/\dc K k H a c
 |.z c=>k.F a≠none/\ag K k [.ref a] [c.d]
 |.ins C fs=>k.F a=none/\∃dx gs,H a=some (.ins C dx gs)/\gs.map (·.1)=fs.map (·.1)/\ag K k (gs.map (·.2)) (fs.map (·.2))
structure Lay (K:PySem.W.Frag) (k:Kn) (H:Hp) (as:List ah) (cs:List Cell):Prop where
 ln:as.length=cs.length
 at':∀(n:Nat) (a:ah) (c:Cell),as[n]?=some a->cs[n]?=some c->aX K k H a c
structure bR (K:PySem.W.Frag) (k:Kn) (H:Hp) (S:aO):Prop where
 le:aw k.F H
 nd:(k.A++k.T).Nodup
 r:Lay K k H k.A S.r
 s:Lay K k H k.T S.s
structure Up (q:Nat) (k:Kn) (H:Hp) (k':Kn) (H':Hp):Prop where
 f:aw k.F k'.F
 a:k.A <+: k'.A
 t:k.T <+: k'.T
 h:∀a o,vx q o=true->H a=some o->H' a=some o
def cI(K:PySem.W.Frag)(k:Kn)(x:V):Val->Prop
 |.d y=>ag K k [x] [y]
 |.c n=>∃a,x=.ref a/\k.T[n]?=some a
structure fX (K:PySem.W.Frag) (k:Kn) (Z:St) (U:Gm):Prop where
 ln:Z.length=U.length
 at':∀(i:Nat) (v:Val),U[i]?=some (some v)->∃x,Z[i]?=some (some x)/\cI K k x v
def o6(K:PySem.W.Frag)(k:Kn)(H:Hp)(x:V):Rv->Prop
 |.v y=>cI K k x y
 |.o c=>∃a,x=.ref a/\k.F a=none/\a∉k.A++k.T/\dc K k H a c
section
variable{q:Nat}{K:PySem.W.Frag}{k k' Rw:Kn}{F' H H' BB:Hp}{S S':aO}{Z:St}{U:Gm}{n:Nat}{a:ah}{as:List ah}{cs:List Cell}{c:Cell}{b:Bx}
theorem Kn.le.refl:k.le k:=⟨aw.refl _,lr _⟩
def Up.le(u:Up q k H k' H'):k.le k':=⟨u.f,u.a⟩
theorem Up.refl:Up q k H k H:=⟨aw.refl _,lr _,lr _,λ_ _ _ h=>h⟩
theorem Up.trans(x:Up q k H k' H')(y:Up q k' H' Rw BB):Up q k H Rw BB:=⟨x.f.trans y.f,x.a.trans y.a,x.t.trans y.t,λa o z h=>y.h a o z (x.h a o z h)⟩
def Up.of{F':Hp}(s:aw k.F F')(t:aw H H'):Up q k H ⟨F',k.A,k.T⟩ H':=⟨s,lr _,lr _,λa o _ h=>t a o h⟩
def cI.up{x:V}{v:Val}(h:cI K k x v)(u:Up q k H k' H'):cI K k' x v:=by
 cases v with
 |d y=>exact ag.mono u.le h
 |c n=>obtain⟨a,e,z⟩:=h;exact⟨a,e,FR u.t z⟩
theorem v9.up{xs:List V}{vs:List Val}(h:Paired (cI K k) xs vs)(u:Up q k H k' H'):Paired (cI K k') xs vs:=Paired.DB h λ_ _ r=>r.up u
theorem fX.up(h:fX K k Z U)(u:Up q k H k' H'):fX K k' Z U:=⟨h.ln,λi v e=>let ⟨x,z,r⟩:=h.at' i v e;⟨x,z,r.up u⟩⟩
def dc.keep(h:dc K k H a b)(s:k.le k')(e:∀o,H a=some o->H' a=some o):dc K k' H' a b:=by
 cases b with
 |lst xs=>obtain⟨ws,z,r⟩:=h;exact⟨ws,e _ z,r.mono s⟩
 |ar kvs=>obtain⟨es,ep,z,q,r,t⟩:=h;exact⟨es,ep,e _ z,q,r.mono s,t.mono s⟩
theorem aX.keep(h:aX K k H a c)(s:k.le k')(e:∀o,H a=some o->H' a=some o)(fr:k.F a=none->k'.F a=none):aX K k' H' a c:=by
 cases c with
 |o b=>exact⟨fr h.1,h.2.keep s e⟩
 |z b=>exact⟨λz=>h.1 (s.f.free z),h.2.mono s⟩
 |ins C fs=>obtain⟨h0,dx,gs,h1,h2,h3⟩:=h;exact⟨fr h0,dx,gs,e _ h1,h2,h3.mono s⟩
def dc.there(h:dc K k H a b):H a≠none:=λz=>by
 cases b with
 |lst xs=>obtain⟨_,e,_⟩:=h;rw[e] at z;cases z
 |ar kvs=>obtain⟨_,_,e,_⟩:=h;rw[e] at z;cases z
theorem aX.there(h:aX K k H a c)(le:aw k.F H):H a≠none:=by
 cases c with
 |o b=>exact h.2.there
 |z b=>exact λz=>h.1 (le.free z)
 |ins C fs=>obtain⟨_,dx,gs,h1,_⟩:=h;rw[h1];exact λz=>nomatch z
def Lay.get(h:Lay K k H as cs)(e:as[n]?=some a):∃c,cs[n]?=some c/\aX K k H a c:=by
 have hn:n<cs.length:=h.ln ▸ (eR.mp e).1;exact⟨_,i5 hn,h.at' n a _ e (i5 hn)⟩
def Lay.keep(h:Lay K k H as cs)(f:∀a∈as,∀c,aX K k H a c->aX K k' H' a c):Lay K k' H' as cs:=⟨h.ln,λn a c e1 e2=>f a (tY e1) c (h.at' n a c e1 e2)⟩
def ON{α:Type}{l:List α}{x y:α}(e:(l++[x])[n]?=some y):l[n]?=some y\/(n=l.length/\y=x):=by
 by_cases h:n<l.length
 .rw[xS h] at e;exact .inl e
 .have h1:=Nat.le_of_not_lt h;rw[v3 h1] at e;have h2:n - l.length=0:=Nat.lt_one_iff.mp (eR.mp e).1;rw[h2] at e;cases e;exact .inr ⟨by lia,rfl⟩
def Fy{α:Type}{l:List α}{x:α}:(l++[x])[l.length]?=some x:=by rw[v3 (bF _),L9];rfl
def Lay.push(h:Lay K k H as cs)(hc:aX K k H a c):Lay K k H (as++[a]) (cs++[c]):=by
 refine⟨by rw[cP,cP,h.ln];rfl,λn b d e1 e2=>?_⟩
 rcases ON e1 with e1|⟨z,rfl⟩ <;> rcases ON e2 with e2|⟨y,rfl⟩
 .exact h.at' n b d e1 e2
 .exact bW (eR.mp e1).1 (by rw[y,h.ln];exact jE _)
 .exact bW (eR.mp e2).1 (by rw[z,h.ln];exact jE _)
 .exact hc
def N0{α:Type}{l:List α}{i j:Nat}{x:α}(nd:l.Nodup)(e1:l[i]?=some x)(e2:l[j]?=some x):i=j:=by
 obtain⟨h1,z1⟩:=eR.mp e1;obtain⟨h2,z2⟩:=eR.mp e2;exact(Hc nd).mp (z1.trans z2.symm)
def Lay.set(h:Lay K k H as cs)(nd:as.Nodup)(ha:as[n]?=some a)(hc:aX K k' H' a c)(f:∀b∈as,b≠a->∀c,aX K k H b c->aX K k' H' b c):Lay K k' H' as (cs.set n c):=by
 refine⟨by rw[m9];exact h.ln,λj b d e1 e2=>?_⟩
 by_cases e0:n=j
 .subst e0;rw[vY (h.ln ▸ (eR.mp ha).1)] at e2;cases e2;cases ha.symm.trans e1;exact hc
 .rw[Bm e0] at e2;exact f b (tY e1) (λz=>e0 (N0 nd ha (z ▸ e1))) d (h.at' j b d e1 e2)
def Lay.take(h:Lay K k H as cs)(m:Nat):Lay K k H (as.take m) (cs.take m):=by
 refine⟨by rw[z6,z6,h.ln],λj b d e1 e2=>?_⟩
 rw[List.getElem?_take] at e1 e2;split at e1
 .rename_i hj
  rw[aP hj] at e2;exact h.at' j b d e1 e2
 .cases e1
theorem Lay.there(h:Lay K k H as cs)(le:aw k.F H):∀a∈as,H a≠none:=λa m=>by
 obtain⟨n,e⟩:=Em.mp m;obtain⟨c,_,hc⟩:=h.get e;exact hc.there le
theorem bR.there(h:bR K k H S):∀a∈k.A++k.T,H a≠none:=λa m=>(cG.mp m).elim (h.r.there h.le a) (h.s.there h.le a)
def bR.fresh(h:bR K k H S)(e:H a=none):k.F a=none/\a∉k.A++k.T:=⟨h.le.free e,λm=>h.there a m e⟩
def bR.new(h:bR K k H S)(s1:aw k.F F')(s2:∀a∈k.A++k.T,∀o,H a=some o->H' a=some o)(s3:aw F' H')(fr:∀p∈k.A++k.T,k.F p=none->F' p=none):bR K ⟨F',k.A,k.T⟩ H' S:=
 have go:∀a∈k.A++k.T,∀c,aX K k H a c->aX K ⟨F',k.A,k.T⟩ H' a c:=λa m _ q=>q.keep ⟨s1,lr _⟩ (s2 a m) (fr a m)
 ⟨s3,h.nd,h.r.keep λa m=>go a (Ek _ m),h.s.keep λa m=>go a (oR _ m)⟩
def aX.le(h:aX K k H a c)(s:k.le k')(e:k.F=k'.F):aX K k' H a c:=h.keep s (λ_ z=>z) λz=>by rw[<-e];exact z
def IH{α:Type}{l:List α}{x:α}:l <+: l++[x]:=List.prefix_append _ _
def e0l{α:Type}{l m:List α}{x:α}(h:(l++m).Nodup)(n:x∉l++m):((l++[x])++m).Nodup:=by
 rw[mY];exact(List.perm_middle (l₁:=l) (l₂:=m) (a:=x)).nodup_iff.mpr (qr.mpr ⟨n,h⟩)
def bR.pushS(h:bR K k H S)(hF:k.F a=none)(hn:a∉k.A++k.T)(hb:dc K k H a b):bR K ⟨k.F,k.A,k.T++[a]⟩ H ⟨S.s++[.o b],S.r⟩/\∀q,Up q k H ⟨k.F,k.A,k.T++[a]⟩ H:=by
 have go:k.le ⟨k.F,k.A,k.T++[a]⟩:=⟨aw.refl _,lr _⟩;refine⟨⟨h.le,?_,h.r.keep λ_ _ _ z=>z.le go rfl,(h.s.push (c:=.o b) ⟨hF,hb⟩).keep λ_ _ _ z=>z.le go rfl⟩,λq=>⟨aw.refl _,lr _,IH,λ_ _ _ z=>z⟩⟩
 rw[<-mY];exact iF.mpr ⟨h.nd,by simp,λx m y m' e=>hn (by rw[kJ.mp m'] at e;exact e ▸ m)⟩
def bR.xx(h:bR K k H S)(hn:a∉k.A++k.T)(hc:aX K k H a c):bR K ⟨k.F,k.A++[a],k.T⟩ H ⟨S.s,S.r++[c]⟩/\∀q,Up q k H ⟨k.F,k.A++[a],k.T⟩ H:=by
 have go:k.le ⟨k.F,k.A++[a],k.T⟩:=⟨aw.refl _,IH⟩;exact⟨⟨h.le,e0l h.nd hn,(h.r.push hc).keep λ_ _ _ z=>z.le go rfl,h.s.keep λ_ _ _ z=>z.le go rfl⟩,λq=>⟨aw.refl _,IH,lr _,λ_ _ _ z=>z⟩⟩
def lA(H H':Hp)(a:ah):Prop:=∀b,b≠a->H' b=H b
def B5{o:HO}:lA H (upd H a o) a:=λ_ z=>cQ z
def bR.chg(h:bR K k H S)(ho:lA H H' a)(hF:k.F a=none)(hq:∀o,H a=some o->vx q o=false):aw k.F H'/\Up q k H k H'/\∀b,b≠a->∀c,aX K k H b c->aX K k H' b c:=
 ⟨λb o e=>by rw[ho b λz=>by rw[z,hF] at e;cases e];exact h.le b o e,⟨aw.refl _,lr _,lr _,λb o e z=>by
  by_cases y:b=a
  .subst y;rw[hq o z] at e;cases e
  .rw[ho b y];exact z⟩,λb y c z=>z.keep .refl (λo e=>by rw[ho b y];exact e) id⟩
def bR.DY(h:bR K k H S)(ha:k.A[n]?=some a)(ho:lA H H' a)(hF:k.F a=none)(hq:∀o,H a=some o->vx q o=false)(hc:aX K k H' a c):bR K k H' ⟨S.s,S.r.set n c⟩/\Up q k H k H':=by
 obtain⟨h1,h2,h3⟩:=h.chg ho hF hq;obtain⟨n1,n2,n3⟩:=iF.mp h.nd;exact⟨⟨h1,h.nd,h.r.set n1 ha hc λb _=>h3 b,h.s.keep λb m=>h3 b λz=>n3 a (tY ha) b m z.symm⟩,h2⟩
def bR.Lx(h:bR K k H S)(ha:k.T[n]?=some a)(ho:lA H H' a)(hF:k.F a=none)(hq:∀o,H a=some o->vx q o=false)(hc:aX K k H' a c):bR K k H' ⟨S.s.set n c,S.r⟩/\Up q k H k H':=by
 obtain⟨h1,h2,h3⟩:=h.chg ho hF hq;obtain⟨n1,n2,n3⟩:=iF.mp h.nd;exact⟨⟨h1,h.nd,h.r.keep λb m=>h3 b λz=>n3 b m a (tY ha) z,h.s.set n2 ha hc λb _=>h3 b⟩,h2⟩
def dc.Y(h:dc K k H a b)(le:aw k.F H)(hF:k.F a=none):∃o,H a=some o/\aw k.F (upd k.F a o)/\aw (upd k.F a o) H/\ag K ⟨upd k.F a o,k.A,k.T⟩ [.ref a] [b.d]:=by
 have sm:∀o,aw k.F (upd k.F a o):=λo=>sd hF
 have sh:∀o,H a=some o->aw (upd k.F a o) H:=λo e p u q=>by
  by_cases z:p=a
  .subst z;rw[aI] at q;cases q;exact e
  .rw[cQ z] at q;exact le p u q
 cases b with
 |lst xs=>
  obtain⟨ws,e,r⟩:=h;exact⟨_,e,sm _,sh _ e,.lst (.inl (.inl aI)) (r.mono ⟨sm _,lr _⟩) .nil⟩
 |ar kvs=>
  obtain⟨es,ep,e,q,r,t⟩:=h;exact⟨_,e,sm _,sh _ e,.ar aI q (r.mono ⟨sm _,lr _⟩) (t.mono ⟨sm _,lr _⟩) .nil⟩
def bR.J4(h:bR K k H S)(hF:k.F a=none)(hn:a∉k.A++k.T)(hb:dc K k H a b):∃F',bR K ⟨F',k.A,k.T⟩ H S/\(∀q,Up q k H ⟨F',k.A,k.T⟩ H)/\ag K ⟨F',k.A,k.T⟩ [.ref a] [b.d]:=by
 obtain⟨o,e,s1,s2,rp⟩:=hb.Y h.le hF;exact⟨_,h.new s1 (λ_ _ _ z=>z) s2 λp m z=>by rw[cQ (show p≠a from λy=>hn (y ▸ m))];exact z,λq=>.of s1 (aw.refl _),rp⟩
def bR.J5(h:bR K k H S)(ha:k.T[n]?=some a)(hc:S.s[n]?=some (.o b)):∃F',bR K ⟨F',k.A,k.T⟩ H ⟨S.s.set n (.z b),S.r⟩/\(∀q,Up q k H ⟨F',k.A,k.T⟩ H)/\ag K ⟨F',k.A,k.T⟩ [.ref a] [b.d]:=by
 obtain⟨hF,hb⟩:=h.s.at' n a _ ha hc;obtain⟨o,e,s1,s2,rp⟩:=hb.Y h.le hF;obtain⟨n1,n2,n3⟩:=iF.mp h.nd;have go:∀p,p≠a->∀c,aX K k H p c->aX K ⟨upd k.F a o,k.A,k.T⟩ H p c:=λp y c z=>z.keep ⟨s1,lr _⟩ (λ_ z=>z) λz=>(cQ y).trans z
 exact⟨_,⟨s2,h.nd,h.r.keep λp m=>go p λz=>n3 p m a (tY ha) z,h.s.set n2 ha (c:=.z b) ⟨λz=>(nomatch aI.symm.trans z),rp⟩ λp _=>go p⟩,λq=>.of s1 (aw.refl _),rp⟩
theorem bR.take(h:bR K k H S)(m:Nat):bR K ⟨k.F,k.A,k.T.take m⟩ H ⟨S.s.take m,S.r⟩:=
 have go:k.le ⟨k.F,k.A,k.T.take m⟩:=⟨aw.refl _,lr _⟩
 ⟨h.le,h.nd.sublist ((List.Sublist.refl _).append (List.take_sublist _ _)),h.r.keep λ_ _ _ z=>z.le go rfl,(h.s.take m).keep λ_ _ _ z=>z.le go rfl⟩
def N1{α:Type}{l l':List α}{m:Nat}(h:l <+: l')(hm:l.length<=m):l <+: l'.take m:=by
 grind
def Up.take(u:Up q k H k' H'){m:Nat}(h:k.T.length<=m):Up q k H ⟨k'.F,k'.A,k'.T.take m⟩ H':=⟨u.f,u.a,N1 u.t h,u.h⟩
end
end L2
set_option autoImplicit false
namespace L2
open PySem PySem.Spec PyProof.Rows
variable{X:Cx}{e:Expr}{t:TE}{t':TT}{v x:V}{k:Kn}{S:aO}{r:R2}{Q:List V->Hp->Prop}{vs:List Val}{ds:List D}{o:List D->ak Rv}
def PE.mono{t':TE}(h:PE X e t)(m:∀Z H Q,t' Z H Q->t Z H Q):PE X e t':=λaa s Z H Q I q=>h aa s Z H Q I (m _ _ _ q)
def PT.mono{t:TT}(h:PT X e t)(m:∀Z H Q,t' Z H Q->t Z H Q):PT X e t':=λaa s Z H Q I q=>h aa s Z H Q I (m _ _ _ q)
def PW.mono{t:TT}(h:PW X e t)(m:∀Z H Q,t' Z H Q->t Z H Q):PW X e t':=λwh aa s Z H Q I q=>h wh aa s Z H Q I (m _ _ _ q)
def PA.mono{e:List Expr}{t t':TA}(h:PA X e t)(m:∀Z H Q,t' Z H Q->t Z H Q):PA X e t':=λpos aa s Z H Q I q=>h pos aa s Z H Q I (m _ _ _ q)
def PS.mono{e:Stmt}{t t':TS}(h:PS X e t)(m:∀D Z H,t' D Z H->t D Z H):PS X e t':=λaa s Z H D I q=>h aa s Z H D I (m _ _ _ q)
def iP.mono{e:List Stmt}{t t':TS}(h:iP X e t)(m:∀D Z H,t' D Z H->t D Z H):iP X e t':=λaa s Z H D I q=>h aa s Z H D I (m _ _ _ q)
abbrev XW:=ah->ak ah->St->Hp->Prop
def By(F:Hp)(dx:ak ah):ak Int->Prop
 |none=>dx=none
 |some n=>∃d,dx=some d/\F d=some (.xd [("line",.int n)])
abbrev Rp(α β:Type):=Kn->Hp->β->α->Prop
section
variable{α β α' β':Type}(R:Rp α β){R':Rp α' β'}(K:PySem.W.Frag)(W:XW)(q:Nat){Z:St}{H H':Hp}{k k':Kn}{U:Gm}{S:aO}{Q:β->Hp->Prop}{Q':β'->Hp->Prop}
def fO(Z:St)(k:Kn)(H:Hp)(Q:β->Hp->Prop):Rs α->Prop
 |.ok a S=>∀b k' H',Up q k H k' H'->bR K k' H' S->R k' H' b a->Q b H'
 |.ex C l S=>∀dx k' H',Up q k H k' H'->bR K k' H' S->By k'.F dx l->W C dx Z H'
def tX(g:Gx α):St->Hp->(β->Hp->Prop)->Prop:=λZ H Q=>∃k U S res,bR K k H S/\fX K k Z U/\g U S=some res/\fO R K W q Z k H Q res
variable{R K W q}
def fO.up{res:Rs α}(w:fO R K W q Z k H Q res)(u:Up q k H k' H'):fO R K W q Z k' H' Q res:=by
 cases res with
 |ok a S=>exact λb k2 H2 u2 k r=>w b k2 H2 (u.trans u2) k r
 |ex C l S=>exact λdx k2 H2 u2 k r=>w dx k2 H2 (u.trans u2) k r
def AV{x:ak (Rs α)}{f:α->aO->ak (Rs α')}{res:Rs α'}(e:bd x f=some res):(∃a S,x=some (.ok a S)/\f a S=some res)\/∃C l S,x=some (.ex C l S)/\res=.ex C l S:=by
 unfold bd at e;split at e
 .cases e
 .exact .inl ⟨_,_,rfl,e⟩
 .cases e;exact .inr ⟨_,_,_,rfl,rfl⟩
def tX.bd{g:Gx α}{f:α->aO->ak (Rs α')}{res:Rs α'}(ok:bR K k H S)(gk:fX K k Z U)(e:bd (g U S) f=some res)(w:fO R' K W q Z k H Q' res)
  (h:∀a S1 b k1 H1,bR K k1 H1 S1->fX K k1 Z U->R k1 H1 b a->f a S1=some res->fO R' K W q Z k1 H1 Q' res->Up q k H k1 H1->Q b H1):tX R K W q g Z H Q:=by
 rcases AV e with⟨a,S1,e1,e2⟩|⟨C,l,S1,e1,rfl⟩
 .exact⟨k,U,S,_,ok,gk,e1,λb k' H' u eZ r=>h a S1 b k' H' eZ (gk.up u) r e2 (w.up u) u⟩
 .exact⟨k,U,S,_,ok,gk,e1,w⟩
def fO.now{a:α}{b:β}(w:fO R K W q Z k H Q (.ok a S))(ok:bR K k H S)(r:R k H b a):Q b H:=w b k H .refl ok r
def oF{g:Gx α}{Q₂:β->Hp->Prop}(h:tX R K W q g Z H Q)(m:∀b H,Q b H->Q₂ b H):tX R K W q g Z H Q₂:=by
 obtain⟨k,U,S,res,ok,gk,e,w⟩:=h;refine⟨k,U,S,res,ok,gk,e,?_⟩;cases res with
 |ok a S=>exact λb k2 H2 u k r=>m _ _ (w b k2 H2 u k r)
 |ex C l S=>exact w
end
abbrev RE(K:PySem.W.Frag):Rp Rv V:=λk H x r=>o6 K k H x r
abbrev RA(K:PySem.W.Frag):Rp (List Val) (List V):=λk _ xs vs=>Paired (cI K k) xs vs
abbrev RB:Rp Bool Bool:=λ_ _ b a=>b=a
abbrev GE:=Gx Rv
variable{g f:GE}
abbrev GA:=Gx (List Val)
variable{h:GA}
abbrev GT:=Gx Bool
abbrev tE(K:PySem.W.Frag)(W:XW)(q:Nat)(g:GE):TE:=tX (RE K) K W q g
abbrev fU(K:PySem.W.Frag)(W:XW)(q:Nat)(g:GA):TA:=tX (RA K) K W q g
abbrev tT(K:PySem.W.Frag)(W:XW)(q:Nat)(g:GT):TT:=tX RB K W q g
noncomputable def gC(d:D):GE:=λ_ S=>some (.ok (.v (.d d)) S)
noncomputable def sG(i:Nat):GE:=λU S=>((U[i]?).join).map λv=>.ok (.v v) S
def Nw{α:Type}{x:ak (ak α)}{v:α}(h:x.join=some v):x=some (some v):=by
 cases x with
 |none=>cases h
 |some y=>exact congrArg some h
noncomputable def mV:Rv->Val
 |.v x=>x
 |.o c=>.d c.d
noncomputable def hpR(S:aO):Rv->Rs Rv
 |.o c=>.ok (.v (.d (.ref S.r.length))) ⟨S.s,S.r++[.o c]⟩
 |r=>.ok r S
def jk(g:GE):GE:=λU S=>bd (g U S) λr S1=>some (hpR S1 r)
noncomputable def gN:GA:=λ_ S=>some (.ok [] S)
def nB(g:GE)(h:GA):GA:=λU S=>bd (g U S) λr S1=>bd (h U S1) λvs S2=>some (.ok (mV r::vs) S2)
section
variable{X:Cx}{K:PySem.W.Frag}{W:XW}{q:Nat}{e a b:Expr}{es:List Expr}{mB fb fc:GE}{fs:GA}{ft fu:GT}{pos:Pos}{Z:St}{H:Hp}
def yM{d:D}(h:PE X e (tC v))(hf:wq d=some v:=by rfl):PE X e (tE K W q (gC d)):=h.mono λZ H Q t=>by
 obtain⟨k,U,S,res,ok,gk,e,w⟩:=t;cases e;exact w.now ok (show ag K k [v] [d] from .flat hf .nil)
def e0m{i:Nat}(h:PE X e (zW i)):PE X e (tE K W q (sG i)):=h.mono λZ H Q t=>by
 obtain⟨k,U,S,res,ok,gk,e,w⟩:=t;obtain⟨v,q,rfl⟩:=cV.mp e;obtain⟨x,hx,r⟩:=gk.at' i v (Nw q);exact⟨x,hx,w.now ok (show o6 K k H x (.v v) from r)⟩
def rf{r:Rv}(ok:bR K k H S)(h:o6 K k H x r):∃k',(∀q,Up q k H k' H)/\bR K k' H S/\cI K k' x (mV r):=by
 cases r with
 |v y=>exact⟨k,λ_=>.refl,ok,h⟩
 |o c=>
  obtain⟨p,rfl,hF,hi,hc⟩:=h;obtain⟨F',eZ,u,rp⟩:=ok.J4 hF hi hc;exact⟨_,u,eZ,rp⟩
def u_(h:PE X e (tE K W q mB)):PE X e (tE K W q (jk mB)):=h.mono λZ H Q t=>by
 obtain⟨k,U,S,res,ok,gk,e,w⟩:=t;refine tX.bd ok gk e w λr S1 x k1 H1 bw g1 r1 e1 w1 _=>?_
 cases r with
 |v y=>cases e1;exact w1.now bw r1
 |o c=>
  cases e1;obtain⟨p,rfl,hF,hi,hc⟩:=r1;obtain⟨cB,u⟩:=bw.xx hi (c:=.o c) ⟨hF,hc⟩;exact w1 _ _ _ (u q) cB (show ag K _ [.ref p] [.ref S1.r.length] from .ref (by rw[<-bw.r.ln];exact Fy) .nil)
def uQ(t:fU K W q (nB g h) Z H Q):tE K W q g Z H λx H1=>fU K W q h Z H1 λxs H2=>Q (x::xs) H2:=by
 obtain⟨k,U,S,res,ok,gk,e,w⟩:=t;refine tX.bd ok gk e w λr S1 x k1 H1 bw g1 r1 e1 w1 _=>?_
 obtain⟨k2,u2,cB,r2⟩:=rf bw r1;refine tX.bd cB (g1.up (u2 q)) e1 (w1.up (u2 q)) λvs S3 xs k3 H3 jC g3 r3 e3 w3 u3=>?_
 cases e3;exact w3.now jC (.cons (r2.up u3) r3)
def AW(t:fU K W q gN Z H Q):Q [] H:=by
 obtain⟨k,U,S,res,ok,gk,e,w⟩:=t;cases e;exact w.now ok .nil
def yO:PA X [] (fU K W q gN):=mO.mono λZ H Q t=>AW t
def Yo(ha:PE X e (tE K W q g))(hr:PA X es (fU K W q h))(hs:starEach (e::es) X.env=(false,eval e X.env)::starEach es X.env):PA X (e::es) (fU K W q (nB g h)):=(Fx ha hr hs).mono λZ H Q t=>uQ t
def Top(K:PySem.W.Frag)(k:Kn)(H:Hp)(x:V)(d:D):Prop:=ag K k [x] [d]\/∃p c,x=.ref p/\d=Bx.d c/\dc K k H p c
noncomputable def Cell.vH:Cell->ak D
 |.o c=>some c.d
 |.z c=>some c.d
 |.ins _ _=>none
def vH(S:aO):Val->ak D
 |.d (.ref n)=>(S.r[n]?).bind Cell.vH
 |.d x=>some x
 |.c n=>(S.s[n]?).bind Cell.vH
def vI(S:aO):List Val->ak (List D)
 |[]=>some []
 |v::vs=>(vH S v).bind λd=>(vI S vs).map λds=>d::ds
def N2{x:ah}{c:Cell}{d:D}(h:aX K k H x c)(e:c.vH=some d):Top K k H (.ref x) d:=by
 cases c with
 |o b=>cases e;exact .inr ⟨x,b,rfl,rfl,h.2⟩
 |z b=>cases e;exact .inl h.2
 |ins _ _=>cases e
def FT{v:Val}{d:D}(ok:bR K k H S)(h:cI K k x v)(e:vH S v=some d):Top K k H x d:=by
 cases v with
 |d y=>
  cases y with
  |ref n=>
   obtain⟨p,rfl,h1⟩:=ag.isRef h;obtain⟨c,h2,e⟩:=cf.mp e;exact N2 (ok.r.at' n p c h1 h2) e
  |_=>cases e;exact .inl h
 |c n=>
  obtain⟨p,rfl,h1⟩:=h;obtain⟨c,h2,e⟩:=cf.mp e;exact N2 (ok.s.at' n p c h1 h2) e
def OO{xs:List V}(ok:bR K k H S)(h:Paired (cI K k) xs vs)(e:vI S vs=some ds):Paired (Top K k H) xs ds:=by
 induction h generalizing ds with
 |nil=>cases e;exact .nil
 |cons r _ ih=>
  obtain⟨d,e1,e⟩:=cf.mp e;obtain⟨es,e2,rfl⟩:=cV.mp e;exact .cons (FT ok r e1) (ih e2)
def R6(K:PySem.W.Frag)(k':Kn)(H H':Hp)(x:V):Rv->Prop
 |.v (.d y)=>ag K k' [x] [y]
 |.o c=>∃p,x=.ref p/\H p=none/\k'.F p=none/\dc K k' H' p c
 |_=>False
def kU(K:PySem.W.Frag)(k:Kn)(H:Hp)(r:Rv)(Q:VK):Prop:=∀x F' H',aw k.F F'->aw H H'->aw F' H'->(∀p,H p≠none->k.F p=none->F' p=none)->R6 K ⟨F',k.A,k.T⟩ H H' x r->Q x H'
def bP(K:PySem.W.Frag)(r:List V->Hp->VK->Prop)(o:List D->ak Rv):Prop:=∀k H xs ds y Q,aw k.F H->Paired (Top K k H) xs ds->o ds=some y->kU K k H y Q->r xs H Q
def gO(o:List D->ak Rv)(g:GA):GE:=λU S=>bd (g U S) λvs S1=>(vI S1 vs).bind λds=>(o ds).map λr=>.ok r S1
def kU.fin{y:Rv}{Q:VK}(ok:bR K k H S)(w:fO (RE K) K W q Z k H Q (.ok y S)):kU K k H y Q:=λx F' H' s1 s2 s3 fr nw=>by
 refine w x ⟨F',k.A,k.T⟩ H' (.of s1 s2) (ok.new s1 (λp _ o z=>s2 p o z) s3 λp m=>fr p (ok.there p m)) ?_
 cases y with
 |v z=>
  cases z with
  |d z=>exact nw
  |_=>exact nw.elim
 |o c=>obtain⟨p,e4,e5,e6,e7⟩:=nw;exact⟨p,e4,e6,(ok.fresh e5).2,e7⟩
def uX{r:List V->Hp->VK->Prop}(bj:bP K r o){g:GA}{Q:VK}(t:tE K W q (gO o g) Z H Q):fU K W q g Z H λxs H1=>r xs H1 Q:=by
 obtain⟨k,U,S,res,ok,gk,e,w⟩:=t;refine tX.bd ok gk e w λvs S1 xs k1 H1 bw g1 r1 e1 w1 _=>?_
 obtain⟨ds,e2,e1⟩:=cf.mp e1;obtain⟨y,e3,rfl⟩:=cV.mp e1;exact bj k1 H1 xs ds y Q bw.le (OO bw r1 e2) e3 (.fin bw w1)
section
variable{k:Kn}{x:V}{Q:VK}
def kU.rep{y:D}(h:kU K k H (.v (.d y)) Q)(le:aw k.F H)(r:ag K k [v] [y]):Q v H:=h v k.F H (aw.refl _) (aw.refl _) le (λ_ _ z=>z) r
theorem kU.flat{y:D}{v:V}(h:kU K k H (.v (.d y)) Q)(le:aw k.F H)(e:wq y=some v):Q v H:=h.rep le (.flat e .nil)
def kU.lst{ds:List D}{ws:List V}(h:kU K k H (.o (.lst ds)) Q)(le:aw k.F H)(r:ag K k ws ds){l:ah}(hn:H l=none):Q (.ref l) (upd H l (.lst ws)):=
 h _ k.F _ (aw.refl _) (sd hn) (le.put hn) (λ_ _ z=>z) ⟨l,rfl,hn,le.free hn,ws,aI,r⟩
def kU.ar{kvs:List (TK×D)}{es:List (TK×V×V)}{ep:Nat}(h:kU K k H (.o (.ar kvs)) Q)(le:aw k.F H)(q:es.map (·.1)=kvs.map (·.1))(r:ag K k (es.map (·.2.1)) (kvs.map (·.1.d)))(t:ag K k (es.map (·.2.2)) (kvs.map (·.2))){l:ah}(hn:H l=none):Q (.ref l) (upd H l (.dG es ep)):=
 h _ k.F _ (aw.refl _) (sd hn) (le.put hn) (λ_ _ z=>z) ⟨l,rfl,hn,le.free hn,es,ep,aI,q,r,t⟩
theorem kU.tup{ds:List D}{ws:List V}(h:kU K k H (.v (.d (.tup ds))) Q)(le:aw k.F H)(r:ag K k ws ds){l:ah}(hn:H l=none):Q (.ref l) (upd H l (.tup ws)):=by
 have hF:=le.free hn;refine h _ (upd k.F l (.tup ws)) _ (sd hF) (sd hn) (λb u z=>?_) (λp z1 z2=>by rw[cQ (show p≠l from λz=>z1 (z ▸ hn))];exact z2) (show ag K ⟨upd k.F l (.tup ws),k.A,k.T⟩ [.ref l] [.tup ds] from .tup (.inl (.inl aI)) (r.mono ⟨sd hF,lr _⟩) .nil)
 by_cases q:b=l
 .subst q;rw[aI] at z ⊢;exact z
 .rw[cQ q] at z ⊢;exact le b u z
noncomputable abbrev Kn.all(k:Kn)(H:Hp):Kn:=⟨H,k.A,k.T⟩
def ag.all{vs:List V}{ds:List D}(h:ag K k vs ds)(le:aw k.F H):ag K (k.all H) vs ds:=h.mono ⟨le,lr _⟩
def Top.rep{d:D}(h:Top K k H x d)(le:aw k.F H):ag K (k.all H) [x] [d]:=by
 rcases h with h|⟨p,c,rfl,rfl,h⟩
 .exact h.all le
 .cases c with
  |lst xs=>obtain⟨ws,e,r⟩:=h;exact .lst (.inl (.inl e)) (r.all le) .nil
  |ar kvs=>obtain⟨es,ep,e,q,r,t⟩:=h;exact .ar e q (r.all le) (t.all le) .nil
def Top.flat{d:D}(h:Top K k H x d)(e:wq d=some v):x=v:=by
 rcases h with h|⟨p,c,rfl,rfl,h⟩
 .exact h.aW e
 .cases c <;> cases e
def Top.lst{ds:List D}(h:Top K k H x (.lst ds))(le:aw k.F H):∃p ws,x=.ref p/\cz K H p ws/\ag K k ws ds:=by
 rcases h with h|⟨p,c,rfl,e,h⟩
 .obtain⟨p,ws,rfl,q,r⟩:=h.xg;exact⟨p,ws,rfl,le.LB q,r⟩
 .cases c <;> cases e;obtain⟨ws,e,r⟩:=h;exact⟨p,ws,rfl,.inl (.inl e),r⟩
def Top.tup{ds:List D}(h:Top K k H x (.tup ds))(le:aw k.F H):∃p ws,x=.ref p/\gu K H p ws/\ag K k ws ds:=by
 rcases h with h|⟨p,c,rfl,e,h⟩
 .obtain⟨p,ws,rfl,q,r⟩:=h.isTup;exact⟨p,ws,rfl,le.zT q,r⟩
 .cases c <;> cases e
def Top.ar{kvs:List (TK×D)}(h:Top K k H x (.ar kvs))(le:aw k.F H):∃p es ep,x=.ref p/\H p=some (.dG es ep)/\es.map (·.1)=kvs.map (·.1)/\ag K k (es.map (·.2.1)) (kvs.map (·.1.d))/\ag K k (es.map (·.2.2)) (kvs.map (·.2)):=by
 rcases h with h|⟨p,c,rfl,e,h⟩
 .obtain⟨p,es,ep,rfl,q,r⟩:=h.xa;exact⟨p,es,ep,rfl,le _ _ q,r⟩
 .cases c <;> cases e;obtain⟨es,ep,h⟩:=h;exact⟨p,es,ep,rfl,h⟩
end
def m8(r:R2):List V->Hp->VK->Prop:=λxs H Q=>∃x y,xs=[x,y]/\r x y H Q
def Ll(r:V->Hp->VK->Prop):List V->Hp->VK->Prop:=λxs H Q=>∃x,xs=[x]/\r x H Q
abbrev bq(f:GE):GA:=nB f gN
abbrev bT(f g:GE):GA:=nB f (nB g gN)
def Gi{r:V->V->Hp->Prop}(h:fU K W q (bT f g) Z H λxs H1=>∃x y,xs=[x,y]/\r x y H1):tE K W q f Z H λx H1=>tE K W q g Z H1 λy H2=>r x y H2:=
 oF (uQ h) λx H1 t=>oF (uQ t) λy H2 t=>by
  obtain⟨x',y',e,q⟩:=AW t;cases e;exact q
def JO{r:V->Hp->Prop}(h:fU K W q (bq f) Z H λxs H1=>∃x,xs=[x]/\r x H1):tE K W q f Z H r:=
 oF (uQ h) λx H1 t=>by
  obtain⟨x',e,q⟩:=AW t;cases e;exact q
def e6a{op:Operator}(ho:dm X (binaryOp op) r)(ok:bP K (m8 r) o)(ha:PE X a (tE K W q mB))(hb:PE X b (tE K W q fb)):PE X (.BinOp a op b pos) (tE K W q (gO o (bT mB fb))):=(e5t ho ha hb).mono λ_ _ _ t=>Gi (uX ok t)
def e6b{op:UnaryOp}{r:V->Hp->VK->Prop}(ho:EA X (unaryOp op) r)(ok:bP K (Ll r) o)(ha:PE X a (tE K W q mB)):PE X (.UnaryOp op a pos) (tE K W q (gO o (bq mB))):=(e5u ho ha).mono λ_ _ _ t=>JO (uX ok t)
def e0n{op:CmpOp}(ho:dm X (compareOp op) r)(ok:bP K (m8 r) o)(ha:PE X a (tE K W q mB))(hb:PE X b (tE K W q fb))(hm:behindInMarks op b=false):PE X (.Compare a [op] [b] pos) (tE K W q (gO o (bT mB fb))):=(XS ho ha hb hm).mono λ_ _ _ t=>Gi (uX ok t)
def e6c(ho:qC X r)(ok:bP K (m8 r) o)(ha:PE X a (tE K W q mB))(hb:PE X b (tE K W q fb))(hs:IZ b):PE X (.Subscript a b pos) (tE K W q (gO o (bT mB fb))):=(e5x ho ha hb hs).mono λ_ _ _ t=>Gi (uX ok t)
end
noncomputable def Rv.bool:Rv->ak Bool
 |.v (.d (.bl b))=>some b
 |_=>none
def Rv.uY{r:Rv}{b:Bool}(h:r.bool=some b):r=.v (.d (.bl b)):=by
 unfold Rv.bool at h;split at h
 .cases h;rfl
 .cases h
noncomputable def z5:D->ak Bool
 |.aG=>some false
 |.bl b=>some b
 |.int i=>some (i != 0)
 |.str y=>if y.length<=1000000 then some ((y.length:Int) != 0) else none
 |.lst xs=>some (!xs.isEmpty)
 |.tup xs=>some (!xs.isEmpty)
 |_=>none
noncomputable def gB(g:GE):GT:=λU S=>bd (g U S) λr S1=>r.bool.map λb=>.ok b S1
def cM(g:GE):GT:=λU S=>bd (g U S) λr S1=>((vH S1 (mV r)).bind z5).map λb=>.ok b S1
noncomputable def eQ(g:GT):GT:=λU S=>bd (g U S) λb S1=>some (.ok (!b) S1)
noncomputable def CV(c g h:GT):GT:=λU S=>bd (c U S) λb S1=>if b=true then g U S1 else h U S1
def iH(b:Bool):GT:=λ_ S=>some (.ok b S)
def eP(g h:GT):GT:=CV g h (iH false)
def gG(g h:GT):GT:=CV g (iH true) h
noncomputable def CS(c:GT)(g h:GE):GE:=λU S=>bd (c U S) λb S1=>if b=true then g U S1 else h U S1
def yY(g h:GE):GE:=CS (gB g) h (gC (.bl false))
def Q0(g h:GE):GE:=CS (gB g) (gC (.bl true)) h
section
variable{X:Cx}{K:PySem.W.Frag}{W:XW}{q:Nat}{e a b:Expr}{es rest:List Expr}{f g h:GE}{fs:GA}{ft fu:GT}{pos:Pos}{Z:St}{H:Hp}
def JP{Q:Bool->Hp->Prop}(t:tT K W q (gB f) Z H Q):tE K W q f Z H λx H1=>∃k,x=.bl k/\Q k H1:=by
 obtain⟨k,U,S,res,ok,gk,e,w⟩:=t;refine tX.bd ok gk e w λr S1 x k1 H1 bw g1 r1 e1 w1 _=>?_
 obtain⟨b,e2,rfl⟩:=cV.mp e1;cases Rv.uY e2;exact⟨b,(show ag K k1 [x] [.bl b] from r1).aW rfl,w1.now bw rfl⟩
def Yp{d:D}{b:Bool}(le:aw k.F H)(h:Top K k H x d)(e:z5 d=some b):yf K x H b:=by
 cases d with
 |aG=>cases h.flat rfl;cases e;rfl
 |bl b=>cases h.flat rfl;cases e;rfl
 |int i=>cases h.flat rfl;cases e;rfl
 |str y=>
  cases h.flat rfl;unfold z5 at e;dsimp only at e;split at e
  .cases e;exact⟨i4 (by assumption) (by decide),rfl⟩
  .cases e
 |lst xs=>
  cases e;obtain⟨p,ws,rfl,h1,h2⟩:=h.lst le;refine .inl ⟨ws,h1,?_⟩;have:=h2.length
  grind
 |tup xs=>
  cases e;obtain⟨p,ws,rfl,h1,h2⟩:=h.tup le;refine .inr (.inl ⟨ws,h1,?_⟩);have:=h2.length
  grind
 |_=>cases e
def e0o(hK:X.K=K)(he:PE X a (tE K W q f))(ht:∀whole,isTrue a X.env whole=(do let v <-whole;standAt a.pos;holding [v] (truthy v))):PT X a (tT K W q (cM f)):=(Vu he ht).mono λZ H Q t=>by
 obtain⟨k,U,S,res,ok,gk,e,w⟩:=t;refine tX.bd ok gk e w λr S1 x k1 H1 bw g1 r1 e1 w1 _=>?_
 obtain⟨b,e2,rfl⟩:=cV.mp e1;obtain⟨d,e3,e4⟩:=cf.mp e2;obtain⟨k2,u2,cB,r2⟩:=rf bw r1;rw[hK];exact⟨b,Yp cB.le (FT cB r2 e3) e4,(w1.up (u2 q)).now cB rfl⟩
def QU(h:PT X a (tU t))(m:∀Z H Q,tE K W q f Z H Q->t Z H Q):PT X a (tT K W q (gB f)):=h.mono λZ H Q q=>m Z H _ (JP q)
def yU(h:PT X a (tT K W q ft)):PT X (.UnaryOp .Not a pos) (tT K W q (eQ ft)):=(ρ h).mono λZ H Q t=>by
 obtain⟨k,U,S,res,ok,gk,e,w⟩:=t;refine tX.bd ok gk e w λb S1 x k1 H1 bw g1 r1 e1 w1 _=>?_
 cases e1;cases r1;exact w1.now bw rfl
def CC{β' α':Type}{R':Rp α' β'}{gx gy:Gx α'}{Q':β'->Hp->Prop}(t:tX R' K W q (λU S=>bd (ft U S) λb S1=>if b=true then gx U S1 else gy U S1) Z H Q'):tT K W q ft Z H λb H1=>if b=true then tX R' K W q gx Z H1 Q' else tX R' K W q gy Z H1 Q':=by
 obtain⟨k,U,S,res,ok,gk,e,w⟩:=t;refine tX.bd ok gk e w λb S1 x k1 H1 bw g1 r1 e1 w1 _=>?_
 cases r1;cases b with
 |true=>exact sU ⟨k1,U,S1,res,bw,g1,e1,w1⟩
 |false=>exact sT ⟨k1,U,S1,res,bw,g1,e1,w1⟩
def A4{α β:Type}{R:Rp α β}{c:α}{b:β}{Q:β->Hp->Prop}(t:tX R K W q (λ_ S=>some (.ok c S)) Z H Q)(r:∀k H,R k H b c):Q b H:=by
 obtain⟨k,U,S,res,ok,gk,e,w⟩:=t;cases e;exact w.now ok (r k H)
def Fz{c:Bool}{p p' q q':Prop}(h:if c=true then p else q)(h1:p->p')(h2:q->q'):if c=true then p' else q':=by
 cases c with
 |true=>exact h1 h
 |false=>exact h2 h
def yV(ha:PT X a (tT K W q ft))(hb:PW X (.BoolOp .And (b::rest) pos) (tT K W q fu)):PW X (.BoolOp .And (a::b::rest) pos) (tT K W q (eP ft fu)):=(π ha hb).mono λZ H Q t=>
 oF (CC t) λc H1 z=>Fz z id λz=>A4 z λ_ _=>rfl
def CN(ha:PT X a (tT K W q ft))(hb:PW X (.BoolOp .Or (b::rest) pos) (tT K W q fu)):PW X (.BoolOp .Or (a::b::rest) pos) (tT K W q (gG ft fu)):=(e5q ha hb).mono λZ H Q t=>
 oF (CC t) λc H1 z=>Fz z (λz=>A4 z λ_ _=>rfl) id
def yP(ha:PE X a (tE K W q f))(hb:PE X (.BoolOp .And (b::rest) pos) (tE K W q g)):PE X (.BoolOp .And (a::b::rest) pos) (tE K W q (yY f g)):=(σ ha hb).mono λZ H Q t=>
 oF (JP (CC t)) λx H1 ⟨c,e,z⟩=>⟨c,e,Fz z id λz=>A4 z λ_ _=>ag.flat rfl .nil⟩
def CK(ha:PE X a (tE K W q f))(hb:PE X (.BoolOp .Or (b::rest) pos) (tE K W q g)):PE X (.BoolOp .Or (a::b::rest) pos) (tE K W q (Q0 f g)):=(e5r ha hb).mono λZ H Q t=>
 oF (JP (CC t)) λx H1 ⟨c,e,z⟩=>⟨c,e,Fz z (λz=>A4 z λ_ _=>ag.flat rfl .nil) id⟩
def CJ{c:Expr}(hc:PT X c (tT K W q ft))(ha:PE X a (tE K W q f))(hb:PE X b (tE K W q g)):PE X (.IfExp c a b pos) (tE K W q (CS ft f g)):=(Vp hc ha hb).mono λZ H Q t=>CC t
end
noncomputable def pe(S:aO):Val->ak (D×aO)
 |.d x=>some (x,S)
 |.c n=>(S.s[n]?).bind λc=>match c with
  |.o b=>some (b.d,⟨S.s.set n (.z b),S.r⟩)
  |.z b=>some (b.d,S)
  |.ins _ _=>none
def qI:List Val->aO->ak (List D×aO)
 |[],S=>some ([],S)
 |v::vs,S=>(pe S v).bind λp=>(qI vs p.2).map λq=>(p.1::q.1,q.2)
section
variable{K:PySem.W.Frag}{k:Kn}{H:Hp}{S S':aO}
def FA{v:Val}{d:D}(ok:bR K k H S)(h:cI K k x v)(e:pe S v=some (d,S')):∃k',(∀q,Up q k H k' H)/\bR K k' H S'/\ag K k' [x] [d]:=by
 cases v with
 |d y=>cases e;exact⟨k,λ_=>.refl,ok,h⟩
 |c n=>
  obtain⟨p,rfl,hp⟩:=h;obtain⟨c,h1,e⟩:=cf.mp e;cases c with
  |o b=>
   cases e;obtain⟨F',eZ,u,rp⟩:=ok.J5 hp h1;exact⟨_,u,eZ,rp⟩
  |z b=>cases e;exact⟨k,λ_=>.refl,ok,(ok.s.at' n p _ hp h1).2⟩
  |ins C fs=>cases e
def FC{xs:List V}(ok:bR K k H S)(h:Paired (cI K k) xs vs)(e:qI vs S=some (ds,S')):∃k',(∀q,Up q k H k' H)/\bR K k' H S'/\ag K k' xs ds:=by
 induction vs generalizing xs ds k S with
 |nil=>cases e;cases h;exact⟨k,λ_=>.refl,ok,.nil⟩
 |cons v vs ih=>
  cases h with
  |cons r t=>
   obtain⟨⟨v1,S1⟩,e1,e⟩:=cf.mp e;obtain⟨⟨vs2,S2⟩,e2,e⟩:=cV.mp e;cases e;obtain⟨k1,u1,bw,r1⟩:=FA ok r e1;obtain⟨k2,u2,cB,r2⟩:=ih bw (v9.up t (u1 0)) e2;exact⟨k2,λb=>(u1 b).trans (u2 b),cB,.cons (r1.mono (u2 0).le) r2⟩
end
noncomputable def Lw(t:Bool)(p:List D×aO):Rs Rv:=.ok (if t=true then .v (.d (.tup p.1)) else .o (.lst p.1)) p.2
def bK(t:Bool)(g:GA):GE:=λU S=>bd (g U S) λvs S1=>if vs.length<=1000000 then(qI vs S1).map (Lw t) else none
section
variable{X:Cx}{K:PySem.W.Frag}{W:XW}{q:Nat}{es:List Expr}{fs:GA}{pos:Pos}{Z:St}{H:Hp}
def ml{n:Nat}(h:n<=1000000):n<=sizeLine:=i4 h (by decide)
def PU{t:Bool}{Q:VK}(h:tE K W q (bK t fs) Z H Q):fU K W q fs Z H λxs H1=>xs.length<=sizeLine/\∀p,H1 p=none->Q (.ref p) (upd H1 p (if t=true then .tup xs else .lst xs)):=by
 obtain⟨k,U,S,res,ok,gk,e,w⟩:=h;refine tX.bd ok gk e w λvs S1 xs k1 H1 bw g1 r1 e1 w1 _=>?_
 split at e1
 .rename_i hl
  refine⟨by rw[Paired.length r1];exact ml hl,λp hp=>?_⟩
  obtain⟨⟨ds,S2⟩,e2,e3⟩:=cV.mp e1;obtain⟨k2,u2,cB,r2⟩:=FC bw r1 e2;have w2:=w1.up (u2 q);cases e3;cases t with
  |false=>exact kU.lst (.fin cB w2) cB.le r2 hp
  |true=>exact kU.tup (.fin cB w2) cB.le r2 hp
 .cases e1
def yR{x1}(h:PA X es (fU K W q fs)):PE X (.Tuple es x1 pos) (tE K W q (bK true fs)):=(e0d h).mono λZ H Q t=>PU t
def yQ(h:PA X es (fU K W q fs)):PE X (.List es pos) (tE K W q (bK false fs)):=(e0e h).mono λZ H Q t=>PU t
end
variable{base:bM}{env:Env}{outer:List Env}{L e C:ah}{dx:ak ah}{n:Nat}{H:Hp}{Q:Unit->aq->Prop}
structure fj (fs ch:List ah) (h h':bM):Prop where
 keep:∀b o,b∉fs->b∉ch->h.get? b=some o->h'.get? b=some o
 slot:∀b o,b∈fs->b∉ch->h.get? b=some o->∃sl,h'.get? b=some { o with slots:=sl}
def gY(n:Nat)(h:bM)(H:Hp)(e C:ah)(dx:ak ah):Prop:=n<=e/\H e=none/\∃oe vs,h.get? e=some oe/\oe.cls=.ref C/\oe.dict=dx/\oe.data=.fields vs/\1<vs.size/\
 (vs[1]?=some .none\/∃T oT ts,vs[1]?=some (.ref T)/\n<=T/\H T=none/\T≠e/\h.get? T=some oT/\oT.data=.fields ts/\ts[3]?=some .none)
def Us(f:Array aj->Array aj)(o:Obj):(Obj.mapFields f o).dict=o.dict:=by obtain⟨c,d,dt,sl⟩:=o;cases dt <;> rfl
section
variable{M:Model}{A:cD}{E:aj->aq->Prop}{s:aq}
def OP{oe:Obj}{vs:Array aj}{head:aj}{had:Bool}
  (sP:A.frames=some (env::outer)) (hl:s.heap.FunFrames base (env::outer)) (hf:env.frame=some L) (he:s.heap.get? e=some oe) (hc:oe.cls=.ref C) (hx:oe.dict=dx) (hd:oe.data=.fields vs) (hsz:1<vs.size) (hn:n<=s.heap.objs.size) (eY:n<=e) (uk:H e=none) (hH:∀a,s.heap.objs.size<=a->H a=none)
  (h:∀h',fj (kq (env::outer)) [e] s.heap h'->gY n h' H e C dx->Q () { s with heap:=h'}) :
  wpAny M A (do let a <-frameOf env;let pl <-entryPlaceOf L had;let b <-EntryCells.newEntry head a .none (rawInt L) .none pl;setField (.ref e) 1 b) (λ_ s'=>wpAny M A (setFlight (.ref e) none) Q E s') E s:=by
 have ene:e∉kq (env::outer):=λm=>by
  obtain⟨_,o,ho,Dd⟩:=hl.mem m
  simp_all
 refine ax (wpAny_frameOf_fun sP hl hf λh1 so=>ax (wpAny_entryPlaceOf λpl jM=>?_))
 unfold EntryCells.newEntry newFields;refine ax (wpAny_newObj_type ?_ (jM.sizeOk5 _ _ _ _ _));generalize eN:({ cls:=.type "traceback",dict:=none,data:=.fields ([head,.ref L,.none,rawInt L,.none]++(if pl.isEmpty then List.replicate 6 Value.none else pl)).toArray}:Obj)=oN
 have e1:h1.get? e=some oe:=(so.2.1 e ene).trans he;have e2:(h1.push oN).get? e=some oe:=cO _ e1;have nT:h1.objs.size≠e:=xR (cC e1);have fN:oN.data=.fields ([head,.ref L,.none,rawInt L,.none]++(if pl.isEmpty then List.replicate 6 Value.none else pl)).toArray:=by rw[<-eN]
 have lN:3<([head,.ref L,.none,rawInt L,.none]++(if pl.isEmpty then List.replicate 6 Value.none else pl)).toArray.size:=by simp only[cZ,cP,jt,Bp];lia
 have dE:=Obj.data_mapFields hd (·.setIfInBounds 1 (Value.ref h1.objs.size))
 have e3:=rC (Obj.mapFields (·.setIfInBounds 1 (Value.ref h1.objs.size))) e2 (Obj.isFreed_of_fields dE)
 have t3:((h1.push oN).update e (Obj.mapFields (·.setIfInBounds 1 (Value.ref h1.objs.size)))).get? h1.objs.size=some oN:=(pI _ _ (Ne.symm nT)).trans (jr h1 (Obj.isFreed_of_fields fN))
 have dT:=Obj.data_mapFields fN (·.setIfInBounds 3 ((none:ak ah).elim Value.none λf=>rawInt f))
 refine wpAny_setField e2 hd hsz ?_;unfold setFlight;refine ax (wpAny_field e3 dE (x:=.ref h1.objs.size) (by simp[hsz]) ?_)
 rw[aP (show(Value.ref h1.objs.size != Value.none)=true by simp)]
 refine wpAny_setField t3 fN lN (h _ ⟨λb o hb k7 g=>?_,λb o hb k7 g=>?_⟩ ⟨eY,uk,_,_,(pI _ _ nT).trans e3,(Obj.cls_mapFields _ _).trans hc,(Us _ _).trans hx,dE,by simpa using hsz,.inr ⟨h1.objs.size,_,_,by simp[hsz],by rw[so.1];exact hn,hH _ (by rw[so.1];exact bF _),nT,rC _ t3 (Obj.isFreed_of_fields dT),dT,by simp[Array.getElem?_setIfInBounds,lN]⟩⟩)
 .have be:b≠e:=λz=>k7 (by simp[z])
  have b1:h1.get? b=some o:=(so.2.1 b hb).trans g;rw[pI _ _ (xR (cC b1)),pI _ _ (Ne.symm be)];exact cO _ b1
 .have be:b≠e:=λz=>k7 (by simp[z])
  obtain⟨sl,b1⟩:=so.2.2 b o g;refine⟨sl,?_⟩;rw[pI _ _ (xR (cC b1)),pI _ _ (Ne.symm be)];exact cO _ b1
def PV
  (sP:A.frames=some (env::outer)) (hl:s.heap.FunFrames base (env::outer)) (hf:env.frame=some L) (hn:n<=s.heap.objs.size) (hH:∀a,s.heap.objs.size<=a->H a=none) (fl:gY n s.heap H e C dx)
  (h:∀h' ch,(∀b∈ch,n<=b/\H b=none)->fj (kq (env::outer)) ch s.heap h'->gY n h' H e C dx->Q () { s with heap:=h'}):wpAny M A (noteFrame (.ref e) env) (λ_ s'=>wpAny M A (setFlight (.ref e) none) Q E s') E s:=by
 obtain⟨eY,uk,oe,vs,he,hc,hx,hd,hsz,h1⟩:=fl;unfold noteFrame;simp only[hf];rcases h1 with h1|⟨T,oT,ts,h1,GI,Gq,Gr,hT,C5,h3⟩
 .refine ax (wpAny_field he hd h1 ?_);rw[aK (by decide)]
  exact OP sP hl hf he hc hx hd hsz hn eY uk hH λh' l f=>h h' [e] (λb m=>by cases kJ.1 m;exact⟨eY,uk⟩) l f
 .refine ax (wpAny_field he hd h1 ?_);rw[aP (show(Value.ref T != Value.none)=true by simp)]
  refine ax (wpAny_field hT C5 h3 ?_);rw[aK (show ¬(Value.none == rawInt L)=true by simp[rawInt])]
  refine ax (wpAny_setField hT C5 (Bq.mp h3).1 ?_);have ot:∀b,b≠T->(s.heap.update T (Obj.mapFields (·.setIfInBounds 3 Value.none))).get? b=s.heap.get? b:=λb z=>pI _ _ (Ne.symm z)
  have nr:∀b o,s.heap.get? b=some o->(∀vs,o.data≠.fields vs)->b≠T:=λb o hb Dd z=>by
   simp_all
  refine OP (s:={ s with heap:=s.heap.update T (Obj.mapFields (·.setIfInBounds 3 Value.none))}) sP (hl.of_keeps λb o hb Dd=>⟨o,(ot b (nr b o hb Dd)).trans hb,rfl⟩) hf ((ot e (Ne.symm Gr)).trans he) hc hx hd hsz (by simpa[Heap.size_after_update] using hn) eY uk (λa z=>hH a (by simpa[Heap.size_after_update] using z)) λh' l f=>h h' [e,T] (λb m=>?_) ⟨λb o hb k7 g=>?_,λb o hb k7 g=>?_⟩ f
  .simp only[y04,y1p,or_false] at m;rcases m with rfl|rfl
   .exact⟨eY,uk⟩
   .exact⟨GI,Gq⟩
  .simp only[y04,y1p,or_false,not_or] at k7;exact l.keep b o hb (by simp[k7.1]) ((ot b k7.2).trans g)
  .simp only[y04,y1p,or_false,not_or] at k7;exact l.slot b o hb (by simp[k7.1]) ((ot b k7.2).trans g)
def Yq
  (sP:A.frames=some (env::outer)) (hl:s.heap.FunFrames base (env::outer)) (hf:env.frame=some L) (hn:n<=s.heap.objs.size) (hH:∀a,s.heap.objs.size<=a->H a=none) (fl:gY n s.heap H e C dx)
  (h:∀h' ch,(∀b∈ch,n<=b/\H b=none)->fj (kq (env::outer)) ch s.heap h'->gY n h' H e C dx->Q () { s with heap:=h'}):wpAny M A (leaving env (.ref e)) Q E s:=by
 unfold leaving;exact ax (PV sP hl hf hn hH fl h)
end
variable{n:Nat}{h h':bM}{H:Hp}{e C:ah}{dx:ak ah}{X:Cx}{ch:List ah}{x:Str}{k:Kn}{Q:VK}
structure Er (P:cS) (w:cg) (outer:List Env) (H:Hp) (s:aq) (H':Hp) (s':aq) (e C:ah) (dx:ak ah):Prop where
 os:s'.os=s.os
 bare:AllBare s'.gens
 un:Un (kq outer) [] H H' s.heap s'.heap
 bj:iO P w H' s'.heap
 Gk:gY s.heap.objs.size s'.heap H' e C dx
def ng(P:cS)(w:cg):t_:=λouter H s E e s'=>∃a C dx H',e=.ref a/\Er P w outer H s H' s' a C dx/\E (.ref C) dx H'
def eG(X:Cx)(W:XW):Prop:=∀(aa:List (ah×Obj)) (Z:St) (H:Hp) (s:aq) (H':Hp) (s':aq) (e C:ah) (dx:ak ah),Inv X aa Z H s->Er X.prog X.w X.stack H s H' s' e C dx->W C dx Z H'->X.xe (.ref e) s'
def gY.mono{n':Nat}(f:gY n h H e C dx)(l:n'<=n):gY n' h H e C dx:=by
 obtain⟨a,b,oe,vs,c1,c2,c3,c4,c5,c6⟩:=f;refine⟨i4 l a,b,oe,vs,c1,c2,c3,c4,c5,?_⟩;rcases c6 with c6|⟨T,oT,ts,d1,d2,d3⟩
 .exact .inl c6
 .exact .inr ⟨T,oT,ts,d1,i4 l d2,d3⟩
def gY.lt(f:gY n h H e C dx):n<=h.objs.size:=by
 obtain⟨a,b,oe,vs,c1,_⟩:=f;exact Hb (L_ a (cC c1))
def Er.inv{aa:List (ah×Obj)}{Z:St}{H':Hp}{s s':aq}(c:Er X.prog X.w X.stack H s H' s' e C dx)(I:Inv X aa Z H s):Inv X aa Z H' s':=
 I.wy (ch:=[]) c.os c.un c.bj c.bare λ_ z=>nomatch z
def fj.bj{P:cS}{w:cg}{fs:List ah}(l:fj fs ch h h')(k:iO P w H h)(hf:∀b∈fs,H b=none)(hc:∀b∈ch,H b=none):iO P w H h':=λb o q=>
 (k b o q).iZ (λc u z g=>l.keep c u (λm=>by
  simp_all) (λm=>by
  simp_all) g) (λ_ z=>z) λ_ _ z=>z
def fj.any{fs:List ah}(l:fj fs ch h h'){b:ah}{o:Obj}(g:h.get? b=some o)(hc:b∉ch):∃sl,h'.get? b=some { o with slots:=sl}:=by
 by_cases m:b∈fs
 .exact l.slot b o m hc g
 .exact⟨o.slots,l.keep b o m hc g⟩
def WF(E:XK):XW:=λC dx _ H'=>E (.ref C) dx H'
section
variable{P:cS}{w:cg}{K:PySem.W.Frag}{mg:Str->ak aj}{base:bM}{N:List Str}{qual:Str}{scope:Scope}{f:ah}{cd:aj}{A:cD}{outer:List Env}{s₀:aq}{H₀:Hp}{E:XK}
def vC:eG (my (ng P w) P w K mg base N qual scope f cd A outer s₀ H₀ E) (WF E):=by
 intro aa Z H s H' s' e C dx I c q;have I':=c.inv I;have sP:(A.deeper (envOfC qual scope s₀.heap.objs.size f cd)).frames=some (envOfC qual scope s₀.heap.objs.size f cd::outer):=I.ok.frames;have sz:s₀.heap.objs.size<=s.heap.objs.size:=I.sz;refine Yq (base:=base) (L:=s₀.heap.objs.size) sP I'.stack rfl c.Gk.lt (λa z=>I'.bj.fresh z) c.Gk λh' ch kN lx fl=>⟨e,C,dx,H',rfl,⟨I'.os,I'.bare,?_,lx.bj I'.bj I'.jQ λb m=>(kN b m).2,fl.mono sz⟩,q⟩
 have vz:∀b o,s₀.heap.get? b=some o->b∉ch:=λb o g m=>bW (fI (cC g) (i4 sz (kN b m).1)) (jE _)
 have nL:∀b o,s₀.heap.get? b=some o->b∉kq outer->b∉kq (envOfC qual scope s₀.heap.objs.size f cd::outer):=λb o g z m=>by
  rcases y04.mp (show b∈s₀.heap.objs.size::kq outer from m) with m|m
  .exact bW (m ▸ cC g) (jE _)
  .exact z m
 have B:Un (kq outer) [] H₀ H' s₀.heap s'.heap:=I'.base;refine⟨λb o g n hb hx=>lx.keep b o (nL b o g hb) (vz b o g) (B.keep b o g n hb hx),λb o g n hb hx=>?_,B.free,λb o g hx=>?_,B.lj,B.kr,B.lh⟩
 .obtain⟨sl,g1⟩:=B.slot b o g n hb hx;obtain⟨Ly,g2⟩:=lx.any g1 (vz b o g);exact⟨Ly,g2⟩
 .obtain⟨o',g1⟩:=B.there b o g hx;obtain⟨sl,g2⟩:=lx.any g1 (vz b o g);exact⟨_,g2⟩
def DJ:PassesOwn (model P w) (A.deeper (envOfC qual scope s₀.heap.objs.size f cd)) (envOfC qual scope s₀.heap.objs.size f cd) (my (ng P w) P w K mg base N qual scope f cd A outer s₀ H₀ E).xe:=PassesOwn.leaving
end
def EW(W:XW):St->XK:=λZ c dx H'=>∃C,c=.ref C/\W C dx Z H'
def qg{W:XW}(h:eG X W):yB (ng X.prog X.w) X (EW W):=λaa Z H s e s' I ⟨a,C,dx,H',he,c,C',hc,q⟩=>by
 cases hc;subst he;exact h aa Z H s H' s' a C dx I c q
abbrev GM:=List Val->aO->ak (Rs Rv)
def ua(K:PySem.W.Frag)(q n:Nat)(m:GM):Sp:=λxs H Q E=>xs.length=n/\∃k vs S res,bR K k H S/\Paired (cI K k) xs vs/\m vs S=some res/\fO (RE K) K (WF E) q [] k H Q res
def i6(m:GM)(n:Nat):Prop:=∀vs S res,m vs S=some res->vs.length=n
def aE(m:GM)(g:GA):GE:=λU S=>bd (g U S) m
noncomputable def Rv.ref:Rv->ak Nat
 |.v (.d (.ref n))=>some n
 |_=>none
def Cell.kO(C:ah)(m:Str):Cell->Bool
 |.ins C' fs=>C' == C&&(fs.lookup m).isNone
 |_=>false
noncomputable def bh(C:ah)(x:Str)(m:GM)(f:GE)(g:GA):GE:=λU S=>bd (f U S) λr S1=>r.ref.bind λn=>if(S1.r[n]?).any (Cell.kO C x)=true then bd (g U S1) λvs S2=>m (.d (.ref n)::vs) S2 else none
noncomputable def Rv.xh:Rv->Bool
 |.v (.d .aG)=>true
 |_=>false
noncomputable def sF(C:ah)(m:GM)(g:GA):GE:=λU S=>bd (g U S) λvs S1=>bd (m (.d (.ref S1.r.length)::vs) ⟨S1.s,S1.r++[.ins C []]⟩) λr S2=>if r.xh=true then some (.ok (.v (.d (.ref S1.r.length))) S2) else none
def any_some{α:Type}{x:ak α}{p:α->Bool}(h:x.any p=true):∃c,x=some c/\p c=true:=by
 cases x with
 |none=>cases h
 |some c=>exact⟨c,rfl,h⟩
def Rv.mQ{r:Rv}(h:r.ref=some n):r=.v (.d (.ref n)):=by
 unfold Rv.ref at h;split at h
 .cases h;rfl
 .cases h
def Uu{fs:List (Str×D)}{gs:List (Str×V)}(h:gs.map (·.1)=fs.map (·.1))(e:fs.lookup x=none):gs.lookup x=none:=by
 induction fs generalizing gs with
 |nil=>cases gs with
  |nil=>rfl
  |cons _ _=>cases h
 |cons p fs ih=>
  obtain⟨y,d⟩:=p;cases gs with
  |nil=>cases h
  |cons r gs=>
   obtain⟨z,v⟩:=r;obtain⟨h1,h2⟩:=List.cons.inj (show z::gs.map (·.1)=y::fs.map (·.1) from h)
   subst h1;rw[qX] at e ⊢;split at e
   .cases e
   .exact ih h2 e
section
variable{X:Cx}{K:PySem.W.Frag}{W:XW}{Z:St}{H:Hp}{q n:Nat}{m:GM}{g:GA}{f:GE}
def fO.wf{res:Rs Rv}(w:fO (RE K) K W q Z k H Q res):fO (RE K) K (WF (EW W Z)) q [] k H Q res:=by
 cases res with
 |ok a S=>exact w
 |ex C l S=>exact λdx k' H' u k r=>⟨C,rfl,w dx k' H' u k r⟩
def Yr(hm:i6 m n)(t:tE K W q (aE m g) Z H Q):fU K W q g Z H λxs H1=>ua K q n m (xs++[]) H1 Q (EW W Z):=by
 obtain⟨k,U,S,res,ok,gk,e,w⟩:=t;refine tX.bd ok gk e w λvs S1 xs k1 H1 bw g1 r1 e1 w1 _=>?_
 rw[lq];exact⟨(Paired.length r1).trans (hm _ _ _ e1),k1,vs,S1,res,bw,r1,e1,w1.wf⟩
def Cq{S:aO}{fs:List (Str×D)}{x:V}(ok:bR K k H S)(r:ag K k [x] [.ref n])(hn:S.r[n]?=some (.ins C fs)):∃a dx gs,x=.ref a/\k.A[n]?=some a/\k.F a=none/\H a=some (.ins C dx gs)/\gs.map (·.1)=fs.map (·.1)/\ag K k (gs.map (·.2)) (fs.map (·.2)):=by
 obtain⟨a,rfl,h1⟩:=r.isRef;obtain⟨h0,dx,gs,h2,h3,h4⟩:=ok.r.at' n a _ h1 hn;exact⟨a,dx,gs,rfl,h1,h0,h2,h3,h4⟩
def OQ(hm:i6 m n)(t:tE K W q (bh C x m f g) Z H Q):tR C x (ua K q n m) [] (EW W) (tE K W q f) (fU K W q g) Z H Q:=by
 obtain⟨k,U,S,res,ok,gk,e,w⟩:=t;refine tX.bd ok gk e w λr S1 y k1 H1 bw g1 r1 e1 w1 _=>?_
 obtain⟨j,e2,e3⟩:=cf.mp e1;clear e1;cases Rv.mQ e2;split at e3
 .rename_i hi
  obtain⟨c,h1,h2⟩:=any_some hi;cases c with
  |ins C' fs=>
   obtain⟨h3,h4⟩:=Br.mp h2;cases(beq_iff_eq.mp h3);obtain⟨a,dx,gs,q1,q2,q3,q4,q5,q6⟩:=Cq bw r1 h1;refine⟨a,dx,gs,q1,q4,Uu q5 (Option.isNone_iff_eq_none.mp h4),?_⟩;refine tX.bd bw g1 e3 w1 λvs S2 xs k2 H2 cB g2 r2 e2 w2 u2=>?_
   rw[lq];have r3:Paired (cI K k2) (y::xs) (.d (.ref j)::vs):=.cons (cI.up (v:=.d (.ref j)) r1 u2) r2;exact⟨(Paired.length r3).trans (hm _ _ _ e2),k2,_,S2,res,cB,r3,e2,w2.wf⟩
  |_=>cases h2
 .cases e3
def Ys(hm:i6 m n)(t:tE K W q (sF C m g) Z H Q):xP C (ua K q n m) [] (EW W) (fU K W q g) Z H Q:=by
 obtain⟨k,U,S,res,ok,gk,e,w⟩:=t;refine tX.bd ok gk e w λvs S1 xs k1 H1 bw g1 r1 e1 w1 _=>?_
 intro x dx hx hdx ne;rw[lq];have sm:aw H1 (upd (upd H1 dx (.own x)) x (.ins C dx [])):=(sd hdx).put (by rw[cQ (Ne.symm ne)];exact hx)
 obtain⟨fx,nx⟩:=bw.fresh hx;have cB:bR K k1 _ S1:=bw.new (aw.refl _) (λa _ o z=>sm a o z) (bw.le.trans sm) λ_ _ z=>z
 obtain⟨jC,u3⟩:=cB.xx nx (c:=.ins C []) ⟨fx,dx,[],aI,rfl,.nil⟩;have h3:ag K ⟨k1.F,k1.A++[x],k1.T⟩ [.ref x] [.ref S1.r.length]:=.ref (by rw[<-bw.r.ln];exact Fy) .nil
 have u4:Up q k1 H1 ⟨k1.F,k1.A++[x],k1.T⟩ (upd (upd H1 dx (.own x)) x (.ins C dx [])):=(Up.of (aw.refl _) sm).trans (u3 q);have r3:Paired (cI K ⟨k1.F,k1.A++[x],k1.T⟩) (.ref x::xs) (.d (.ref S1.r.length)::vs):=.cons h3 (v9.up r1 u4);rcases AV e1 with⟨r,S2,e2,e1⟩|⟨C',l,S2,e2,rfl⟩
 .refine⟨(Paired.length r3).trans (hm _ _ _ e2),_,_,_,_,jC,r3,e2,λv k' H' u eZ r'=>?_⟩
  split at e1
  .rename_i hr
   cases e1;unfold Rv.xh at hr;split at hr
   .exact⟨(show ag K k' [v] [.aG] from r').aW rfl,w1 (.ref x) k' H' (u4.trans u) eZ (ag.mono u.le h3)⟩
   .cases hr
  .cases e1
 .exact⟨(Paired.length r3).trans (hm _ _ _ e2),_,_,_,_,jC,r3,e2,λex k' H' u eZ r'=>⟨C',rfl,w1 ex k' H' (u4.trans u) eZ r'⟩⟩
end
end L2
set_option autoImplicit false
namespace L2
open PySem PySem.Spec PyProof.Rows
variable{p i:Nat}{P:St->Hp->Prop}{H:Hp}{Z:St}{ts:uc}
inductive Fr where
 |nx (U:Gm) (S:aO)|bk (U:Gm) (S:aO)|ct (U:Gm) (S:aO)|rt (r:Rv) (S:aO)|ex (C:ah) (l:ak Int) (U:Gm) (S:aO)
abbrev GS:=Gm->aO->ak Fr
section
variable(K:PySem.W.Frag)(W:XW)(q:Nat){D:Ends}{k k':Kn}{H H':Hp}{Z:St}{U:Gm}{S:aO}{fr:Fr}
def bO(k:Kn)(H:Hp)(P:St->Hp->Prop)(U:Gm)(S:aO):Prop:=∀Z' k' H',Up q k H k' H'->bR K k' H' S->fX K k' Z' U->P Z' H'
def Done(D:Ends)(k:Kn)(H:Hp):Fr->Prop
 |.nx U S=>bO K q k H D.nx U S
 |.bk U S=>bO K q k H D.bk U S
 |.ct U S=>bO K q k H D.ct U S
 |.rt r S=>∀v k' H',Up q k H k' H'->bR K k' H' S->o6 K k' H' v r->D.rt v H'
 |.ex C l U S=>∀dx Z' k' H',Up q k H k' H'->bR K k' H' S->fX K k' Z' U->By k'.F dx l->W C dx Z' H'
def tS(f:GS):TS:=λD Z H=>∃k U S fr,bR K k H S/\fX K k Z U/\f U S=some fr/\Done K W q D k H fr
variable{K W q}
def II{q:Nat}{o:HO}(h:p<=q)(e:vx p o=true):vx q o=true:=by
 match p,q with
 |0,_=>cases e
 |1,0=>lia
 |1,1=>exact e
 |1,n+2=>rfl
 |n+2,0=>lia
 |n+2,1=>lia
 |n+2,m+2=>rfl
def Up.weak(u:Up q k H k' H')(h:p<=q):Up p k H k' H':=⟨u.f,u.a,u.t,λa o z e=>u.h a o (II h z) e⟩
def bO.up(w:bO K q k H P U S)(u:Up q k H k' H'):bO K q k' H' P U S:=λZ' k2 H2 u2 ok g=>w Z' k2 H2 (u.trans u2) ok g
def bO.now(w:bO K q k H P U S)(ok:bR K k H S)(g:fX K k Z U):P Z H:=w Z k H .refl ok g
theorem Done.up(w:Done K W q D k H fr)(u:Up q k H k' H'):Done K W q D k' H' fr:=by
 cases fr with
 |nx U S=>exact bO.up w u
 |bk U S=>exact bO.up w u
 |ct U S=>exact bO.up w u
 |rt r S=>exact λv k2 H2 u2 k r=>w v k2 H2 (u.trans u2) k r
 |ex C l U S=>exact λdx Z' k2 H2 u2 k g r=>w dx Z' k2 H2 (u.trans u2) k g r
theorem Done.weak{p:Nat}(w:Done K W q D k H fr)(h:q<=p):Done K W p D k H fr:=by
 cases fr with
 |nx U S=>exact λZ' k2 H2 u=>w Z' k2 H2 (u.weak h)
 |bk U S=>exact λZ' k2 H2 u=>w Z' k2 H2 (u.weak h)
 |ct U S=>exact λZ' k2 H2 u=>w Z' k2 H2 (u.weak h)
 |rt r S=>exact λv k2 H2 u=>w v k2 H2 (u.weak h)
 |ex C l U S=>exact λdx Z' k2 H2 u=>w dx Z' k2 H2 (u.weak h)
def kL{α:Type}(U:Gm)(x:ak (Rs α))(f:α->aO->ak Fr):ak Fr:=match x with
 |none=>none
 |some (.ok a S)=>f a S
 |some (.ex C l S)=>some (.ex C l U S)
def tS.Cz{α β:Type}{R:Rp α β}{g:Gx α}{f:α->aO->ak Fr}{Q:β->Hp->Prop}(ok:bR K k H S)(gk:fX K k Z U)(e:kL U (g U S) f=some fr)(w:Done K W q D k H fr)
  (h:∀a S1 b k1 H1,bR K k1 H1 S1->fX K k1 Z U->R k1 H1 b a->f a S1=some fr->Done K W q D k1 H1 fr->Up q k H k1 H1->Q b H1):tX R K W q g Z H Q:=by
 unfold kL at e;split at e
 .cases e
 .rename_i a S1 e1
  exact⟨k,U,S,_,ok,gk,e1,λb k' H' u eZ r=>h a S1 b k' H' eZ (gk.up u) r e (w.up u) u⟩
 .rename_i C l S1 e1
  cases e;exact⟨k,U,S,_,ok,gk,e1,λdx k' H' u eZ r=>w dx Z k' H' u eZ (gk.up u) r⟩
def tS.bd{α β:Type}{R:Rp α β}{g:Gx α}{f:α->aO->ak Fr}{Q:β->Hp->Prop}(ok:bR K k H S)(gk:fX K k Z U)(e:kL U (g U S) f=some fr)(w:Done K W q D k H fr)
  (h:∀a S1 b k1 H1,bR K k1 H1 S1->fX K k1 Z U->R k1 H1 b a->f a S1=some fr->Done K W q D k1 H1 fr->Q b H1):tX R K W q g Z H Q:=tS.Cz ok gk e w λa S1 b k1 H1 h1 h2 h3 h4 h5 _=>h a S1 b k1 H1 h1 h2 h3 h4 h5
end
def lU:GS:=λU S=>some (.nx U S)
noncomputable def et(f g:GS):GS:=λU S=>(f U S).bind λr=>match r with
 |.nx U S=>g U S
 |r=>some r
def aJ(g:GE):GS:=λU S=>kL U (g U S) λr S1=>some (.rt r S1)
noncomputable def ky(c:GT)(f g:GS):GS:=λU S=>kL U (c U S) λb S1=>if b=true then f U S1 else g U S1
def dF(g:GE):GS:=λU S=>kL U (g U S) λ_ S1=>some (.nx U S1)
def asg(mu:Bool)(S:aO):Rv->Val×aO
 |.o c=>if mu=true then(.c S.s.length,⟨S.s++[.o c],S.r⟩) else(.d c.d,S)
 |.v x=>(x,S)
def au(i:Nat)(mu:Bool)(g:GE):GS:=λU S=>kL U (g U S) λr S1=>if i<U.length then some (.nx (U.set i (some (asg mu S1 r).1)) (asg mu S1 r).2) else none
section
variable{X:Cx}{K:PySem.W.Frag}{W:XW}{q:Nat}{st:Stmt}{rest sa sb:List Stmt}{e c:Expr}{f g:GS}{mB:GE}{ft:GT}{pos:Pos}
def yS:iP X [] (tS K W q lU):=qh.mono λD Z H t=>by
 obtain⟨k,U,S,fr,ok,gk,e,w⟩:=t;cases e;exact bO.now w ok gk
def vd(h1:PS X st (tS K W q f))(h2:iP X rest (tS K W q g)):iP X (st::rest) (tS K W q (et f g)):=(Vq h1 h2).mono λD Z H t=>by
 obtain⟨k,U,S,fr,ok,gk,e,w⟩:=t;obtain⟨r,e1,e⟩:=cf.mp e;refine⟨k,U,S,r,ok,gk,e1,?_⟩;cases r with
 |nx U1 S1=>exact λZ' k' H' u eZ g'=>⟨k',U1,S1,fr,eZ,g',e,w.up u⟩
 |bk U1 S1=>cases e;exact w
 |ct U1 S1=>cases e;exact w
 |rt r S1=>cases e;exact w
 |ex C l U1 S1=>cases e;exact w
def yT(h:PE X e (tE K W q mB)):PS X (.Return (some e) pos) (tS K W q (aJ mB)):=(υ h).mono λD Z H t=>by
 obtain⟨k,U,S,fr,ok,gk,e,w⟩:=t;refine tS.bd ok gk e w λr S1 v k1 H1 bw g1 r1 e1 w1=>?_
 cases e1;exact w1 v k1 H1 .refl bw r1
def CL(hc:PT X c (tT K W q ft))(ha:iP X sa (tS K W q f))(hb:iP X sb (tS K W q g)):PS X (.If c sa sb pos) (tS K W q (ky ft f g)):=(e5s hc ha hb).mono λD Z H t=>by
 obtain⟨k,U,S,fr,ok,gk,e,w⟩:=t;refine tS.bd ok gk e w λb S1 v k1 H1 bw g1 r1 e1 w1=>?_
 cases r1;cases b with
 |true=>exact sU ⟨k1,U,S1,fr,bw,g1,e1,w1⟩
 |false=>exact sT ⟨k1,U,S1,fr,bw,g1,e1,w1⟩
def Yt(he:PE X e (tE K W q mB))(hs:swapsWith e none pos.line X.env=pure false):PS X (.Expr e pos) (tS K W q (dF mB)):=(XM he hs).mono λD Z H t=>by
 obtain⟨k,U,S,fr,ok,gk,e,w⟩:=t;refine tS.bd ok gk e w λr S1 v k1 H1 bw g1 r1 e1 w1=>?_
 cases e1;exact bO.now w1 bw g1
def e0p{mu:Bool}{k:Kn}{S:aO}{x:V}{r:Rv}(ok:bR K k H S)(h:o6 K k H x r):∃k',(∀q,Up q k H k' H)/\bR K k' H (asg mu S r).2/\cI K k' x (asg mu S r).1:=by
 cases r with
 |v y=>exact rf ok h
 |o c=>
  cases mu with
  |false=>exact rf (r:=.o c) ok h
  |true=>
   obtain⟨p,rfl,hF,hi,hc⟩:=h;obtain⟨bw,u⟩:=ok.pushS hF hi hc;exact⟨_,u,bw,p,rfl,by rw[<-ok.s.ln];exact Fy⟩
def fX.set{k:Kn}{Z:St}{U:Gm}{i:Nat}{x:V}{v:Val}(g:fX K k Z U)(r:cI K k x v)(hi:i<U.length):fX K k (Z.set i (some x)) (U.set i (some v)):=by
 refine⟨by rw[m9,m9,g.ln],λj w e=>?_⟩
 by_cases z:i=j
 .subst z;rw[vY hi] at e;cases e;exact⟨x,vY (g.ln ▸ hi),r⟩
 .rw[Bm z] at e ⊢;exact g.at' j w e
def PX{mu:Bool}{D:Ends}(t:tS K W q (au i mu mB) D Z H):tE K W q mB Z H λv H1=>D.nx (Z.set i (some v)) H1:=by
 obtain⟨k,U,S,fr,ok,gk,e,w⟩:=t;refine tS.bd ok gk e w λr S1 v k1 H1 bw g1 r1 e1 w1=>?_
 split at e1
 .cases e1;obtain⟨k2,u,cB,r2⟩:=e0p (mu:=mu) bw r1;exact bO.now (bO.up w1 (u q)) cB ((g1.up (u q)).set r2 (by assumption))
 .cases e1
def e0q{mu:Bool}{x:Str}{pos':Pos}(hN:X.N.Nodup)(hi:X.N[i]?=some x)(hx:Loc X.env.scope x)(he:PE X e (tE K W q mB))(hs:swapsWith e (some (.Name x pos')) pos.line X.env=pure false)(hf:X.fn x=true\/X.env.scope.names.lookup x=some .local):
  PS X (.Assign [.Name x pos'] e pos) (tS K W q (au i mu mB)):=(d9t hN hi hx he hs hf).mono λD Z H t=>PX t
def cF(c:GT)(f:GS):Nat->GS
 |0=>λ_ _=>none
 |n+1=>λU S=>kL U (c U S) λb S1=>if b=true then(f U S1).bind λr=>match r with
   |.nx U2 S2=>cF c f n U2 S2
   |.ct U2 S2=>cF c f n U2 S2
   |.bk U2 S2=>some (.nx U2 S2)
   |r=>some r
  else some (.nx U S1)
def su(n:Nat)(hp:PassesOwn (model X.prog X.w) X.A X.env X.xe)(hc:PT X c (tT K W q ft))(hb:iP X sa (tS K W q f)):PS X (.While c sa [] pos) (tS K W q (cF ft f n)):=(Vr hp hc hb).mono λD Z H t=>by
 obtain⟨k,U,S,fr,ok,gk,e,w⟩:=t;refine⟨λn Z H=>∃k U S,bR K k H S/\fX K k Z U/\cF ft f n U S=some fr/\Done K W q D k H fr,⟨n,k,U,S,ok,gk,e,w⟩,?_⟩
 clear ok gk e w;rintro n Z H ⟨k,U,S,ok,gk,e,w⟩;cases n with
 |zero=>cases e
 |succ n=>
  refine tS.bd ok gk e w λb S1 v k1 H1 bw g1 r1 e1 w1=>?_
  cases r1;cases b with
  |false=>cases e1;exact sT (bO.now w1 bw g1)
  |true=>
   refine sU ⟨λZ' H'=>∃k U S,bR K k H' S/\fX K k Z' U/\cF ft f n U S=some fr/\Done K W q D k H' fr,λZ' H' h=>⟨n,vZ _,h⟩,?_⟩
   obtain⟨r,e2,e3⟩:=cf.mp (show((f U S1).bind _)=some fr from e1);refine⟨k1,U,S1,r,bw,g1,e2,?_⟩;cases r with
   |nx U2 S2=>exact λZ' k' H' u eZ g'=>⟨k',U2,S2,eZ,g',e3,w1.up u⟩
   |ct U2 S2=>exact λZ' k' H' u eZ g'=>⟨k',U2,S2,eZ,g',e3,w1.up u⟩
   |bk U2 S2=>cases e3;exact w1
   |rt r S2=>cases e3;exact w1
   |ex C l U2 S2=>cases e3;exact w1
end
abbrev GG:=D->Gm->ak Gm
variable{gs:List GG}
noncomputable def af(i:Nat):GG:=λd U=>if i<U.length then some (U.set i (some (.d d))) else none
noncomputable def qb:List GG->List D->Gm->ak Gm
 |[],[],U=>some U
 |g::gs,d::ds,U=>(g d U).bind λU1=>qb gs ds U1
 |_,_,_=>none
def aN(gs:List GG):GG:=λd U=>match d with
 |.tup ds=>qb gs ds U
 |_=>none
section
variable{K:PySem.W.Frag}
def jY(K:PySem.W.Frag)(t:TG)(g:GG):Prop:=
 ∀(k:Kn) (H:Hp) (Z:St) (U U1:Gm) (x:V) (d:D) (Q:St->Hp->Prop),aw k.F H->fX K k Z U->ag K k [x] [d]->g d U=some U1->(∀Z',fX K k Z' U1->Q Z' H)->t x Z H Q
def pQ(K:PySem.W.Frag)(t:uc)(gs:List GG):Prop:=
 ∀(k:Kn) (H:Hp) (Z:St) (U U1:Gm) (xs:List V) (ds:List D) (Q:St->Hp->Prop),aw k.F H->fX K k Z U->ag K k xs ds->qb gs ds U=some U1->(∀Z',fX K k Z' U1->Q Z' H)->t xs Z H Q
def vL:jY K (qa i) (af i):=by
 intro k H Z U U1 x v Q le gk r e w;unfold af at e;split at e
 .cases e;exact w _ (gk.set (v:=.d v) r (by assumption))
 .cases e
def vN:pQ K CT []:=by
 intro k H Z U U1 xs vs Q le gk r e w;cases vs with
 |nil=>cases e;exact⟨r.fH,w Z gk⟩
 |cons _ _=>cases e
def tV{t:TG}{g:GG}(h1:jY K t g)(h2:pQ K ts gs):pQ K (wO t ts) (g::gs):=by
 intro k H Z U U1 xs vs Q le gk r e w;cases vs with
 |nil=>cases e
 |cons d ds=>
  obtain⟨U2,e1,e2⟩:=cf.mp e;obtain⟨x,xs,rfl,r1,r2⟩:=r.bU;exact⟨_,_,rfl,h1 k H Z U U2 _ _ _ le gk r1 e1 λZ1 g1=>h2 k H Z1 U2 U1 _ _ Q le g1 r2 e2 w⟩
def Uv:∀{gs:List GG} {vs:List D} {U U1:Gm},qb gs vs U=some U1->vs.length=gs.length:=by
 intro gs
 induction gs with
 |nil=>intro vs U U1 e;cases vs with
  |nil=>rfl
  |cons _ _=>cases e
 |cons g gs ih=>intro vs U U1 e;cases vs with
  |nil=>cases e
  |cons v vs=>obtain⟨U2,_,e2⟩:=cf.mp e;exact congrArg (·+1) (ih e2)
def zY{n:Nat}(h:pQ K ts gs)(hn:n=gs.length):jY K (yZ K n ts) (aN gs):=by
 intro k H Z U U1 x d Q le gk r e w;cases d with
 |tup es=>
  obtain⟨a,ws,rfl,sq,rp⟩:=r.isTup;exact⟨a,ws,rfl,le.zT sq,by rw[hn,<-Uv e,rp.length],h k H Z U U1 _ _ Q le gk rp e w⟩
 |_=>cases e
end
def gD(g:GE):Gx D:=λU S=>bd (g U S) λr S1=>(pe S1 (mV r)).map λp=>.ok p.1 p.2
abbrev RD(K:PySem.W.Frag):Rp D V:=λk _ x d=>ag K k [x] [d]
section
variable{X:Cx}{K:PySem.W.Frag}{W:XW}{q:Nat}{g:GE}{gg:GG}{t:TG}{e tg:Expr}{pos:Pos}
def LP{Q:VK}(t:tX (RD K) K W q (gD g) Z H Q):tE K W q g Z H Q:=by
 obtain⟨k,U,S,res,ok,gk,e,w⟩:=t;refine tX.bd ok gk e w λr S1 x k1 H1 bw g1 r1 e1 w1 _=>?_
 obtain⟨p,e2,rfl⟩:=cV.mp e1;obtain⟨k2,u2,cB,r2⟩:=rf bw r1;obtain⟨k3,u3,jC,r3⟩:=FA cB r2 e2;exact((w1.up (u2 q)).up (u3 q)).now jC r3
end
variable{N:List Str}{n p:Nat}{m:GS}
def aO.cut(S:aO)(b:Nat):aO:=⟨S.s.take b,S.r⟩
def Cy:Cell->ak Rv
 |.o x=>some (.o x)
 |.z x=>some (.v (.d x.d))
 |_=>none
def back(b:Nat)(S:aO):Rv->ak Rv
 |.v (.c n)=>if n<b then some (.v (.c n)) else(S.s[n]?).bind Cy
 |r=>some r
def leave(b:Nat):Fr->ak (Rs Rv)
 |.nx _ S=>some (.ok (.v (.d .aG)) (S.cut b))
 |.rt r S=>(back b S r).map λr'=>.ok r' (S.cut b)
 |.ex C l _ S=>some (.ex C l (S.cut b))
 |_=>none
def runM(p n:Nat)(m:GS):GM:=λvs S=>if vs.length=p then(m (vs.map some++List.replicate (n - vs.length) none) S).bind (leave S.s.length) else none
section
variable{K:PySem.W.Frag}{k k':Kn}{H H':Hp}{S:aO}{q b:Nat}
def Yu{v:V}{r r':Rv}(ok:bR K k H S)(h:o6 K k H v r)(e:back b S r=some r'):o6 K ⟨k.F,k.A,k.T.take b⟩ H v r':=by
 have go:k.le ⟨k.F,k.A,k.T.take b⟩:=⟨aw.refl _,lr _⟩;cases r with
 |o c=>
  cases e;obtain⟨a,e1,e2,e3,e4⟩:=h;exact⟨a,e1,e2,λm=>e3 ((cG.mp m).elim (Ek _) λm=>oR _ (List.mem_of_mem_take m)),e4.keep go λ_ z=>z⟩
 |v x=>
  cases x with
  |d y=>cases e;exact ag.mono go h
  |c n=>
   obtain⟨a,e1,e2⟩:=h;unfold back at e;dsimp only at e;split at e
   .rename_i hn
    cases e;exact⟨a,e1,by rw[List.getElem?_take,aP hn];exact e2⟩
   .rename_i hn
    obtain⟨c,h1,h2⟩:=cf.mp e;have h3:=ok.s.at' n a c e2 h1;cases c with
    |ins _ _=>cases h2
    |z x=>cases h2;rw[e1];exact ag.mono go h3.2
    |o x=>
     cases h2;obtain⟨n1,n2,n3⟩:=iF.mp ok.nd;refine⟨a,e1,h3.1,λm=>?_,h3.2.keep go λ_ z=>z⟩
     rcases cG.mp m with m|m
     .exact n3 a m a (tY e2) rfl
     .obtain⟨j,hj⟩:=Em.mp m;rw[List.getElem?_take] at hj;split at hj
      .rename_i GC
       have:=N0 n2 hj e2;lia
      .cases hj
def Uw{xs:List V}{vs:List Val}(h:Paired (cI K k) xs vs)(hn:N.length=n):fX K k (start N xs) (vs.map some++List.replicate (n - vs.length) none):=by
 have hl:=Paired.length h;refine⟨by unfold start;simp[hl,hn],λi v e=>?_⟩
 by_cases hi:i<vs.length
 .rw[xS (by rw[bc];exact hi),fW] at e
  obtain⟨w,e1,e2⟩:=cV.mp e;cases e2;obtain⟨x,h1,h2⟩:=E3 i h e1;refine⟨x,?_,h2⟩;unfold start;rw[xS (by rw[bc,hl];exact hi),fW,h1]
  rfl
 .rw[v3 (by rw[bc];lia),L8] at e
  split at e <;> cases e
end
section
variable{P:cS}{w:cg}{K:PySem.W.Frag}{mg:Str->ak aj}{base:bM}
def e0r{x qual:Str}{st:Stmt}{f:ah}{fd:bV}{ps:List Str}{k q:Nat}(F:Fun K x qual st f fd)(S:gZ N ps (q_ st))(hp:ps.length=p)(hn:N.length=n)
  (sN:∀(fS:aj) (A:cD) (outer:List Env) (s:aq) (H:Hp) (E:XK),bY k (A.deeper (envOfC qual (q_ st) s.heap.objs.size f fS))->iP (my (ng P w) P w K mg base N qual (q_ st) f fS A outer s H E) (yr st) (tS K (WF E) q m)) :
  de P w K mg base (ng P w) (k+1) f fd ps (ua K q p (runM p n m)):=by
 obtain⟨oc,od,kV,doc,pm,an,fS,ct,ux,rfl,lk,qK⟩:=F.ex;refine e5w lk qK S (λvs H Q E h=>h.1.trans hp.symm) λA outer s H xs Q E hr wV=>⟨_,sN fS A outer s H E hr,?_⟩
 obtain⟨hl,k,vs,S,res,ok,rp,e,w⟩:=wV;unfold runM at e;split at e
 .obtain⟨fr,e1,e2⟩:=cf.mp e;refine⟨k,_,S,fr,ok,Uw rp hn,e1,?_⟩;have lb:k.T.length<=S.s.length:=Hf ok.s.ln;cases fr with
  |nx U S'=>
   cases e2;exact λZ' k' H' u eZ g'=>w .aG _ H' (u.take lb) (eZ.take _) (show ag K _ [.aG] [.aG] from .flat rfl .nil)
  |bk U S'=>cases e2
  |ct U S'=>cases e2
  |rt r S'=>
   obtain⟨r',e3,rfl⟩:=cV.mp e2;exact λv k' H' u eZ r1=>w v _ H' (u.take lb) (eZ.take _) (Yu eZ r1 e3)
  |ex C l U S'=>
   cases e2;exact λdx Z' k' H' u eZ g' el=>w dx _ H' (u.take lb) (eZ.take _) el
 .cases e
def qV:i6 (runM p n m) p:=λvs S res e=>by
 unfold runM at e;split at e
 .assumption
 .cases e
end
section
variable{prog:cS}{w:cg}{A:cD}{E:aj->aq->Prop}{h:bM}{g:Array GenState}{d:Drawn}{t:Nat}{os:OsState}
variable{nm q:Str}{C N:ah}{bs bm yI:List aj}{hdct:Bool}{sn:List Str}{sub:List aj}{ab:Bool}{col:ak Bool}{dd:ak ah}{k0 k1 k2 k3 k5:ak aj}{B Bn newId RK mF Rt:String}{OH:List aj}
def Eb(Fn:ExcBaseFacts Bn newId Rt OH)(Gp:yI.contains (.type Bn)=true)(F:ExcBaseFacts B RK mF yI)(T:OwnTail h yI bm){mN:Str->ak aj}{rest:List aj}{Q:Fin->aq->Prop}
  (hC:h.get? C=some (excClassObj nm q C N bs bm hdct sn sub ab col dd k0 k1 k2 k3 k5 newId)) (hn:h.Ns N mN) (sR:rest.length<=sizeLine)
  (hq:∀i,i=(mN "__init__").getD (.builtin mF)->wpAny (model prog w) A (bindSpecial i (.ref (h.objs.size+1))) (λp s'=>wpAny (model prog w) A (call p.1 (p.2++rest)) (λr tO=>r=.none/\Q (.done (.ret (.ref (h.objs.size+1)))) tO) E s') E ⟨((h.push { cls:=.type "tuple",data:=.seq rest.toArray}).push { cls:=.ref C,data:=.fields #[.ref h.objs.size,.none,.none,.none,.bool false,.none]}),g,d,t,os⟩) :
  wpAny (model prog w) A (Builtin.«type.__call__» ⟨.ref C::rest,[]⟩) Q E ⟨h,g,d,t,os⟩:=by
 repeat (first|with_reducible refine wpAny_loadPart_at hC ?_|with_reducible refine wpAny_madeBy_exc hC ?_|wp_step)
 refine codeAny_call_builtin_code (Code.quiet_builtin _ Fn.quiet) (wpAny_check_new_subU Fn Gp T hC (codeAny_exc_new_subU Fn Gp F T hC ?_ sR));show wpAny _ _ _ _ _ _;have st:∀b o,h.get? b=some o->((h.push { cls:=.type "tuple",data:=.seq rest.toArray}).push { cls:=.ref C,data:=.fields #[.ref h.objs.size,.none,.none,.none,.bool false,.none]}).get? b=some o:=λb o e=>cO _ (cO _ e)
 have hC₁:=st _ _ hC;have y7:((h.push { cls:=.type "tuple",data:=.seq rest.toArray}).push { cls:=.ref C,data:=.fields #[.ref h.objs.size,.none,.none,.none,.bool false,.none]}).get? (h.objs.size+1)=some { cls:=.ref C,data:=.fields #[.ref h.objs.size,.none,.none,.none,.bool false,.none]}:=by heap_get
 have hcC:(Value.ref C::bm).contains (.ref C)=true:=by simp
 unfold isInstance
 repeat (first|with_reducible refine wpAny_loadPart_at y7 ?_|(with_reducible refine wpAny_isSubtype_exc hC₁ ?_;rw[hcC])|wp_step)
 show wpAny _ _ (typeLookup (.ref C) _) _ _ _;refine wpAny_typeLookup_tail hC₁ (hn.keeps st) (T.keeps st) F.mroIs F.init.lookup ?_;cases hv:mN "__init__" with
 |none=>
  refine kP (ax (wpAny_mono (hq _ (by rw[hv];rfl)) (λp s' z=>ax (wpAny_mono z (λr tO y=>?_) λ_ _ y=>y)) λ_ _ y=>y))
  obtain⟨rfl,y⟩:=y
  wp_walk
  exact y
 |some v=>
  refine kP (ax (wpAny_mono (hq _ (by rw[hv];rfl)) (λp s' z=>ax (wpAny_mono z (λr tO y=>?_) λ_ _ y=>y)) λ_ _ y=>y))
  obtain⟨rfl,y⟩:=y
  wp_walk
  exact y
def VJ(Fn:ExcBaseFacts Bn newId Rt OH)(Gp:yI.contains (.type Bn)=true)(F:ExcBaseFacts B RK mF yI)(T:OwnTail h yI bm){mN:Str->ak aj}{rest:List aj}{Q:aj->aq->Prop}
  (hC:h.get? C=some (excClassObj nm q C N bs bm hdct sn sub ab col dd k0 k1 k2 k3 k5 newId)) (hn:h.Ns N mN) (sR:rest.length<=sizeLine)
  (hq:∀i,i=(mN "__init__").getD (.builtin mF)->wpAny (model prog w) (A.under (.builtin "type.__call__" ⟨.ref C::rest,[]⟩)) (bindSpecial i (.ref (h.objs.size+1))) (λp s'=>wpAny (model prog w) (A.under (.builtin "type.__call__" ⟨.ref C::rest,[]⟩)) (call p.1 (p.2++rest)) (λr tO=>r=.none/\Q (.ref (h.objs.size+1)) tO) E s') E ⟨((h.push { cls:=.type "tuple",data:=.seq rest.toArray}).push { cls:=.ref C,data:=.fields #[.ref h.objs.size,.none,.none,.none,.bool false,.none]}),g,d,t,os⟩) :
  wpAny (model prog w) A (call (.ref C) rest) Q E ⟨h,g,d,t,os⟩:=by
 have f1:=tc_lookup;have f2:=tc_bind (.ref C);have hT:(⟨h,g,d,t,os⟩:aq).TypeIs (.ref C) "type":=⟨_,hC,rfl⟩;refine wpAny_call (codeAny_of_tree (show wpAny _ _ (callAny (.ref C) _) _ _ _ from ?_))
 repeat (any_goals (first|assumption|with_reducible refine wpAny_loadPart_at hC ?_|wp_step))
 exact⟨rfl,codeAny_call_builtin_at (Code.quiet_builtin _ (by decide +kernel)) entry_typeCall (wpAny_check_type_call_sub hC (Eb Fn Gp F T hC hn sR λi e=>hq i e))⟩
end
end L2
namespace L2
open PySem PySem.Spec PySem.W PySem.Calls PyProof.Rows
noncomputable def sx(C t:ah)(d:ak ah):Obj:={ cls:=.ref C,dict:=d,data:=.fields #[.ref t,.none,.none,.none,.bool false,.none]}
section
variable{prog:cS}{w:cg}{A:cD}{E:aj->aq->Prop}{h:bM}{g:Array GenState}{d:Drawn}{tt:Nat}{os:OsState}{x t:ah}
variable{nm q:Str}{C N:ah}{bs bm yI:List aj}{hdct:Bool}{sn:List Str}{sub:List aj}{ab:Bool}{col:ak Bool}{dd:ak ah}{k0 k1 k2 k3 k5:ak aj}{newId:String}
def Ej{u:aj}{Q:aj->aq->Prop}(T:OwnTail h [.type "ValueError",.type "Exception",.type "BaseException",.type "object"] bm)(hC:h.get? C=some (excClassObj nm q C N bs bm hdct sn sub ab col dd k0 k1 k2 k3 k5 newId))(hx:h.get? x=some (sx C t none))
  (hq:∀h',h'.get? x=some (sx C h.objs.size none)->(∀b o,b≠x->h.get? b=some o->h'.get? b=some o)->Q .none ⟨h',g,d,tt,os⟩) :
  wpAny (model prog w) A (call (.builtin "ValueError.__init__") [.ref x,u]) Q E ⟨h,g,d,tt,os⟩:=by
 have FB:=F.excBase_ValueError;have ur:h.get? x=some { cls:=.ref C,data:=.fields #[.ref t,.none,.none,.none,.bool false,.none]}:=hx;refine wpAny_call (codeAny_call_builtin FB.init.plain FB.initEntry (wpAny_check_init_subU FB T hC ur rfl ?_))
 wp_walk
 refine hq _ ?_ λb o n e=>?_
 .rw[rC _ (cO _ ur) rfl];rfl
 .rw[pI _ _ (Ne.symm n)];exact cO _ e
end
noncomputable abbrev rj:List aj:=[.type "ValueError",.type "Exception",.type "BaseException",.type "object"]
def e_(K:Frag)(C:ah)(bm:List aj)(GR:ak aj):Prop:=∃nm q N bs sn sub ab col dd k0 k1 k2 k3 k5 on Bf es ep Bi,
 K.lookup C=some (excClassObj nm q C N bs bm true sn sub ab col dd k0 k1 k2 k3 k5 "ValueError.__new__")/\K.lookup N=some ⟨on,Bf,.dict es ep,Bi⟩/\StrKeys es/\nsFind es "__init__"=GR
section
variable{K:Frag}{C C' B0 a:ah}{bm Jo:List aj}{i i':ak aj}{l:ak Int}
theorem e_.cls(G:e_ K C bm i):∃cd,clsIn K C=some cd/\cd.mro=.ref C::bm/\cd.hasDict=true/\typeIn K (.ref C)=some (.type "type"):=by
 obtain⟨nm,q,N,bs,sn,sub,ab,col,dd,k0,k1,k2,k3,k5,on,Bf,es,ep,Bi,g1,g2,g3,g4⟩:=G;exact⟨_,by unfold clsIn;rw[g1],rfl,rfl,by show(K.lookup C).map (·.cls)=_;rw[g1];rfl⟩
def e_.sub(G:e_ K C bm i)(b:aj):subIn K (.ref C) b=some ((Value.ref C::bm).contains b):=by
 obtain⟨cd,c1,c2,c3,c4⟩:=G.cls;show mroIn K C b=_;unfold mroIn;rw[c1,v7,c2];rfl
def e_.exm{C C':ah}{bm Jo:List aj}{i i':ak aj}(G:e_ K C bm i)(G':e_ K C' Jo i')(h:(Value.ref C'::Jo).contains (.type "BaseException")=true):exmOne K (.ref C) (.ref C')=some ((Value.ref C::bm).contains (.ref C')):=by
 obtain⟨cd,c1,c2,c3,c4⟩:=G'.cls;unfold exmOne;rw[G'.sub,h,aP (by decide)]
 unfold kitCls;dsimp only;rw[aP (by rw[c1,c4];rfl)]
 exact G.sub _
end
section
variable{X:Cx}{aa:List (ah×Obj)}{Z:St}{H:Hp}{s:aq}{C B0:ah}{R:aj->aq->Prop}
def VL{u:aj}(G:e_ X.K C (.ref B0::rj) none)(G0:e_ X.K B0 rj none)(I:Inv X aa Z H s)(h:∀h' t,(∀b o,s.heap.get? b=some o->h'.get? b=some o)->h'.get? (s.heap.objs.size+1)=some (sx C t none)->R (.ref (s.heap.objs.size+1)) { s with heap:=h'}):
  wpAny (model X.prog X.w) X.A (call (.ref C) [u]) R X.xe s:=by
 obtain⟨hh,g,d,tt,os⟩:=s;have KX:X.K.In hh:=I.jN;obtain⟨nm,q,N,bs,sn,sub,ab,col,dd,k0,k1,k2,k3,k5,on,Bf,es,ep,Bi,g1,g2,g3,g4⟩:=G;obtain⟨nm',q',N',bs',sn',sub',ab',col',dd',k0',k1',k2',k3',k5',on',odn',ve,o_,sln',g1',g2',g3',g4'⟩:=G0;have FB:=F.excBase_ValueError;have T:OwnTail hh rj (.ref B0::rj):=.own (KX _ _ g1') (mA:=λn=>nsFind ve n) ⟨_,_,_,KX _ _ g2',rfl,g3',λ_=>rfl⟩ g4' .base
 refine VJ FB rfl FB T (KX _ _ g1) (mN:=λn=>nsFind es n) ⟨_,_,_,KX _ _ g2,rfl,g3,λ_=>rfl⟩ (by rw[sizeLine_eq];exact(by decide:1<=16777216)) λi ei=>?_
 rw[g4] at ei;subst ei;have st:∀b o,hh.get? b=some o->((hh.push { cls:=.type "tuple",data:=.seq [u].toArray}).push { cls:=.ref C,data:=.fields #[.ref hh.objs.size,.none,.none,.none,.bool false,.none]}).get? b=some o:=λb o e=>cO _ (cO _ e)
 have y7:((hh.push { cls:=.type "tuple",data:=.seq [u].toArray}).push { cls:=.ref C,data:=.fields #[.ref hh.objs.size,.none,.none,.none,.bool false,.none]}).get? (hh.objs.size+1)=some (sx C hh.objs.size none):=by unfold sx;heap_get
 refine wpAny_of_eq (FB.init.bind _) (Ej (T.keeps st) (st _ _ (KX _ _ g1)) y7 λh' e1 e2=>?_)
 exact⟨rfl,h h' _ (λb o z=>e2 b o (gm (z8 (cC z))) (st b o z)) e1⟩
end
noncomputable abbrev Cx.dA(X:Cx)(pn:List (ah×Obj))(E:aj->aq->Prop):Cx:={ X with pn:=pn,xe:=E}
noncomputable abbrev Cx.dz(X:Cx)(e:aj):Cx:={ X with A:=X.A.mark (some e),calm:=false,xe:=λ_ _=>False}
structure BG (X:Cx) (aa:List (ah×Obj)) (n:Nat):Prop where
 s:X.s₀.heap.objs.size<=n
 l:X.env.locals<n
 c:∀x c,X.env.cells.lookup x=some c->c<n
 p:∀q∈X.pn++aa,q.1<n
section
variable{X:Cx}{aa oi:List (ah×Obj)}{pn:List (ah×Obj)}{Z:St}{H:Hp}{s:aq}{E:aj->aq->Prop}{n:Nat}{ch:List ah}{h':bM}
def Cx.Ok.dA(ok:X.Ok):(X.dA pn E).Ok:=⟨ok.mod,ok.kind,ok.glob,ok.blt,ok.above,ok.inj,ok.has,ok.yJ,ok.hd,ok.frames,ok.Bj,ok.Gj,ok.bs,ok.sg,ok.pA,ok.qH,ok.iw,ok.vf⟩
def Cx.Ok.dD(ok:(X.dA pn E).Ok):X.Ok:=⟨ok.mod,ok.kind,ok.glob,ok.blt,ok.above,ok.inj,ok.has,ok.yJ,ok.hd,ok.frames,ok.Bj,ok.Gj,ok.bs,ok.sg,ok.pA,ok.qH,ok.iw,ok.vf⟩
theorem Inv.dA(I:Inv X aa Z H s):Inv (X.dA (X.pn++aa) E) [] Z H s:=⟨I.ok.dA,I.os,I.bare,I.base,I.loc,I.cell,I.free,I.dU,λp hp=>I.pin p (by rw[lq] at hp;exact hp),I.bj,I.len⟩
theorem Inv.dD(I:Inv (X.dA (X.pn++aa) E) oi Z H s):Inv X aa Z H s:=⟨I.ok.dD,I.os,I.bare,I.base,I.loc,I.cell,I.free,I.dU,λp hp=>I.pin p (Ek _ hp),I.bj,I.len⟩
def Inv.dz{e:aj}(I:Inv X aa Z H s):Inv (X.dz e) aa Z H s:=
 ⟨⟨I.ok.mod,I.ok.kind,I.ok.glob,I.ok.blt,I.ok.above,I.ok.inj,I.ok.has,I.ok.yJ,λz=>(nomatch z),I.ok.frames,I.ok.Bj,I.ok.Gj,I.ok.bs,I.ok.sg,I.ok.pA,I.ok.qH,I.ok.iw,I.ok.vf⟩,I.os,I.bare,I.base,I.loc,I.cell,I.free,I.dU,I.pin,I.bj,I.len⟩
def Inv.dY{e:aj}(I:Inv (X.dz e) aa Z H s)(hd:X.calm=true->X.A.handled=none):Inv X aa Z H s:=
 ⟨⟨I.ok.mod,I.ok.kind,I.ok.glob,I.ok.blt,I.ok.above,I.ok.inj,I.ok.has,I.ok.yJ,hd,I.ok.frames,I.ok.Bj,I.ok.Gj,I.ok.bs,I.ok.sg,I.ok.pA,I.ok.qH,I.ok.iw,I.ok.vf⟩,I.os,I.bare,I.base,I.loc,I.cell,I.free,I.dU,I.pin,I.bj,I.len⟩
def Inv.R1(I:Inv X aa Z H s):BG X aa s.heap.objs.size:=⟨I.sz,I.lt,λx c e=>by obtain⟨v,o,ho,_⟩:=I.cell x c e;exact cC ho,λq hq=>cC (I.pin q hq).1⟩
def BG.far(y:BG X aa n){b:ah}(h:n<=b):(b∈X.ex\/X.s₀.heap.objs.size<=b)/\b≠X.env.locals/\(∀x c,X.env.cells.lookup x=some c->c≠b)/\∀p∈X.pn++aa,p.1≠b:=
 ⟨.inr (i4 y.s h),λz=>bW (fI y.l h) (z ▸ jE _),λx c e z=>bW (fI (y.c x c e) h) (z ▸ jE _),λp hp z=>bW (fI (y.p p hp) h) (z ▸ jE _)⟩
def fj.un{fs:List ah}{h:bM}(l:fj fs ch h h'):Un fs ch H H h h':=
 ⟨λb o g _ hb hx=>l.keep b o hb hx g,λb o g _ hb hx=>l.slot b o hb hx g,λ_ _ _ n _=>n,λb o g hx=>let ⟨_,g2⟩:=l.any g hx;⟨_,g2⟩,λ_ _ q=>q,λ_ _ _ q=>q,λ_ ps q=>⟨#[],by rw[q];simp⟩⟩
def Inv.left{t':Nat}(I:Inv X aa Z H s)(y:BG X aa n)(l:fj (kq X.stack) ch s.heap h')(kN:∀b∈ch,n<=b/\H b=none):Inv X aa Z H { s with heap:=h',toks:=t'}:=
 I.call (g':=s.gens) (d':=s.drawn) (ch:=ch) l.un (l.bj I.bj I.jQ λb m=>(kN b m).2) I.bare λb m=>y.far (kN b m).1
def VM{M:Model}{A:cD}{e C:ah}{dx:ak ah}{Q:Unit->aq->Prop}(fl:gY n s.heap H e C dx)(h:∀h' ch,(∀b∈ch,n<=b/\H b=none)->fj (kq X.stack) ch s.heap h'->gY n h' H e C dx->Q () { s with heap:=h'}):wpAny M A (setFlight (.ref e) none) Q E s:=by
 obtain⟨eY,uk,oe,vs,he,hc,hx,hd,hsz,h1⟩:=fl;unfold setFlight;rcases h1 with h1|⟨T,oT,ts,h1,GI,Gq,Gr,hT,C5,h3⟩
 .refine ax (wpAny_field he hd h1 ?_);rw[aK (by decide)]
  exact aQ (h s.heap [] (λ_ z=>nomatch z) ⟨λ_ _ _ _ g=>g,λ_ o _ _ g=>⟨o.slots,g⟩⟩ ⟨eY,uk,oe,vs,he,hc,hx,hd,hsz,.inl h1⟩)
 .refine ax (wpAny_field he hd h1 ?_);rw[aP (show(Value.ref T != Value.none)=true by simp)]
  have l3:3<ts.size:=(Bq.mp h3).1;have dT:=Obj.data_mapFields C5 (·.setIfInBounds 3 ((none:ak ah).elim Value.none λf=>rawInt f))
  refine wpAny_setField hT C5 l3 (h _ [T] (λb m=>by cases kJ.1 m;exact⟨GI,Gq⟩) ⟨λb o _ hb g=>(pI _ _ (by simpa using Ne.symm (by simpa using hb:b≠T))).trans g,λb o _ hb g=>⟨o.slots,(pI _ _ (by simpa using Ne.symm (by simpa using hb:b≠T))).trans g⟩⟩ ⟨eY,uk,oe,vs,(pI _ _ Gr).trans he,hc,hx,hd,hsz,.inr ⟨T,_,_,h1,GI,Gq,Gr,rC _ hT (Obj.isFreed_of_fields dT),dT,by simp[Array.getElem?_setIfInBounds,l3]⟩⟩)
end
end L2
namespace L2
open PySem PySem.Spec PyProof.Rows
variable{P:cS}{w:cg}{K:PySem.W.Frag}{tg l:Expr}{X:Cx}{ta:TA}{p pos:Pos}{Q:ak aj->aq->Prop}{n t' x1:Nat}{ob:Obj}{L:List ah}{elts:List Expr}{it:ah}
def rW(K:PySem.W.Frag)(a:ah)(n:Nat):It:=
 ⟨λi H=>i<n/\∃xs,cz K H a xs/\xs.length=n,λi H x H'=>H'=H/\∀xs,cz K H a xs->xs[n - 1 - i]?=some x,λi H=>n<=i⟩
def VN(a it:ah)(n:Nat):Turn P w K tg (rW K a n) [it] it (λi h=>i<=n/\h.IsRevIter it a ((n:Int) - 1 - i)) where
 mem:=by simp
 obj:=λi h st b hb=>by
  have e:b=it:=by simpa using hb
  subst e;obtain⟨_,o,e,c,d⟩:=st;exact⟨o,e,λv z=>by rw[d] at z;cases z⟩
 keep:=λi h h' st k=>⟨st.1,st.2.at λo e=>k it (by simp) o e⟩
 item:=by
  intro X hP hw hK hc i aa s Z H E I hf st hg;subst hP hw hK;obtain⟨hi,xs,hq,hx⟩:=hg;obtain⟨aA,rv,p,hz⟩:=I.list hq;have ur:xs[n - 1 - i]?=some xs[n - 1 - i]:=i5 (by lia)
  obtain⟨u,hu,ru⟩:=rv.get ur;obtain⟨f0,f1,f2,f3,f4,f5⟩:=hf it (by simp)
  have rq:s.heap.IsRevIter it a (((n - 1 - i:Nat):Int)):=by
   lia
  refine wpAny_pyNext_rev_item rq p.isList (x:=u) (by simpa using hu) λh' jP sb=>?_
  have I1:Inv X aa Z H { s with heap:=h'}:=I.turned (t':=s.toks) (λb o hb e=>(sb.2 b hb).trans e) f0 f1 f3 f4 f5
  obtain⟨o,e,c,d⟩:=id jP;refine⟨u,rfl,yG (s:={ s with heap:=h'}) e c d (by decide) ⟨_,H,I1,ru,⟨rfl,λys hy=>by rw[I.kE hy hq];exact ur⟩,⟨by lia,?_⟩,λb hb=>(hf b hb).1⟩⟩
  grind
 done:=by
  intro X hP hw hK hc i aa s Z H E I hf st hg;subst hP hw hK;obtain⟨f0,f1,f2,f3,f4,f5⟩:=hf it (by simp)
  have hg:n<=i:=hg;have rq:s.heap.IsRevIter it a (-1):=by
   have:=st.2
   rwa[show((n:Int) - 1 - i) = -1 by have:=st.1;lia] at this
  exact wpAny_pyNext_rev_end (I.ok.hd hc) rq λh' eb=>⟨rfl,I.turned (t':=s.toks) (λb o hb e=>eb b o hb e) f0 f1 f3 f4 f5⟩
 self:=λ_ _ _ _ _ st h=>wpAny_pyIter_revIter st.2 h
def Dq(K:PySem.W.Frag)(ta:TA):TI:=λZ H R=>ta Z H λvs H1=>∃a xs,vs=[.ref a]/\cz K H1 a xs/\R (rW K a xs.length) H1
def e0s(hg:Gl X "reversed")(hm:X.mg "reversed"=none)(ha:PA X [l] ta)(hs:starEach [l] X.env=[(false,eval l X.env)]:=by rfl):PI X tg (.Call (.Name "reversed" p) [l] [] pos) (Dq X.K ta):=by
 intro aa s Z H R I h;refine Call_ (wo I hg hm boot_reversed (PyProof.Rows.callWith_type1 (bA (ha pos aa s Z H _ I h) λus s1 hh=>?_) hs rfl))
 obtain⟨vs,H1,I1,r1,q1⟩:=hh;obtain⟨a,xs,e,hq,q⟩:=q1;subst e;cases r1 with
 |cons r rr=>
  cases rr;cases r;obtain⟨aA,rv,pl,hz⟩:=I1.list hq;have hl:=rv.length;refine call_reversed_list pl.isList ?_;have st:(s1.heap.push (revObj a ((aA.toArray.size:Int) - 1))).IsRevIter s1.heap.objs.size a ((aA.toArray.size:Int) - 1):=⟨_,jr _ rfl,rfl,rfl⟩;refine wpAny_pyIter_revIter st ?_;refine⟨s1.heap.objs.size,[s1.heap.objs.size],_,_,H1,rfl,I1.kept (t':=s1.toks) λb o e=>cO _ e,VN a _ xs.length,⟨lZ _,?_⟩,λb hb=>?_,q⟩
  .simp_all
  .have e:b=s1.heap.objs.size:=by simpa using hb
   subst e;exact I1.k6 (bF _) (I1.bj.fresh (bF _))
section
variable{X:Cx}{aa:List (ah×Obj)}{Z:St}{H:Hp}{A:cD}{E:aj->aq->Prop}{s:aq}{d it:ah}{es:List (TK×V×V)}{ep i:Nat}
theorem N3{Q:aj->aq->Prop}(I:Inv X aa Z H s)(hd:H d=some (.dG es ep))
  (hQ:Q (.ref s.heap.objs.size) { s with heap:=s.heap.push { cls:=.type "dict_keyiterator",data:=.fields #[.ref d,.int 0 0,.int es.length 0,.int ep 0]}}):wpAny (model X.prog X.w) A (pyIter (.ref d)) Q E s:=by
 obtain⟨_,z,ob,xs,g1,g5,g2,g3,g4⟩:=(show bp X.prog X.w H s.heap d (.dG es ep) from I.bj d _ hd);have hT:s.TypeIs (.ref d) "dict":=⟨ob,g1,g5.1⟩;have hl:xs.size=es.length:=by have:=Paired.length g3;simpa using this.symm
 refine wpAny_pyIter_slot hT F.slot_dict_iter (wpAny_call_entry F.slot_dict_iter hT F.entry_dict_iter ?_ (F.args_dict_iter_1 _));unfold Builtin.«dict.__iter__»;refine ax ?_;unfold Builtin.Dict.dictSlotNone;refine ax (wpAny_notOrdered_dict hT (show wpAny _ _ (pure (Value.ref d)) _ _ s from aQ (show wpAny _ _ (Builtin.Dict.showsAll d >>= _) _ _ s from ?_)));unfold Builtin.Dict.showsAll;rw[aK (by rw[z];exact oz)]
 refine ax (aQ (ax (wpAny_dictEntries g1 g2 (ax (wpAny_dictEpoch g1 g2 ?_)))));refine ax (wpAny_newObj_type (aQ ⟨_,rfl,"dict_keyiterator",_,⟨_,jr _ rfl,rfl⟩,F.slot_dict_keyiterator_next.lookup,?_⟩));simpa[rawInt,hl] using hQ
theorem M9{xs:Array DictEntry}(g1:s.heap.get? d=some ob)(g2:ob.data=.dict xs ep)(hl:xs.size=n)(hit:s.heap.IsKeyIter it d i n ep)(lt':i<xs.size)
  (hQ:∀h',h'.IsKeyIter it d (i+1) n ep->Heap.SameBut it s.heap h'->Q (some xs[i].key) { s with heap:=h'}):wpAny (model P w) A (pyNext (.ref it)) Q E s:=by
 obtain⟨o,k1,k2,k3⟩:=id hit;unfold pyNext;refine ax (wpAny_attempt (wpAny_callSpecial?_slot (name:=Str.ofString "__next__") hit.typeIs F.slot_dict_keyiterator_next (wpAny_call_entry F.slot_dict_keyiterator_next hit.typeIs F.entry_dict_keyiterator_next (ax (aQ (ax (ax ?_)))) (F.args_dict_keyiterator_next_1 _))))
 (first|refine ax (wpAny_typeNameOfWhole_keyiter hit.typeIs (aQ ?_))|refine ax (wpAny_typeNameOf_keyiter hit.typeIs (aQ ?_)));refine ax (wpAny_fieldsOf k1 k3 ?_)
 have zG:Builtin.Dict_items.ownsTuple "dict_keyiterator"=false:=by decide
 simp only[zG,rD,m_]
 (show wpAny _ _ (if(Value.ref d == Value.none)=true then _ else _) _ _ s);rw[aK (show ¬((Value.ref d == Value.none)=true) from oz)]
 refine ax (aQ (ax (wpAny_dictEntries g1 g2 ?_)));rw[aK (by rw[hl];simp)]
 refine ax (aQ (ax (wpAny_dictEpoch g1 g2 ?_)));rw[aK (by simp)]
 refine aQ ?_;simp only[show ¬((i:Int)<0) from by lia,m_,Int.toNat_natCast,uB lt']
 refine ax ?_
 (first|refine ax (wpAny_typeNameOfWhole_keyiter hit.typeIs (aQ ?_))|refine ax (wpAny_typeNameOf_keyiter hit.typeIs (aQ ?_)));refine ax (wpAny_isOneOf_keyiter hit.typeIs ?_)
 (show wpAny _ _ (setField (.ref it) 1 (rawInt ((i:Int)+1)) >>= _) _ _ s);refine ax (wpAny_setField k1 k3 (by simp) ?_)
 have C9:(s.heap.update it (Obj.mapFields (·.setIfInBounds 1 (rawInt ((i:Int)+1))))).IsKeyIter it d (i+1) n ep:=
  ⟨_,rC _ k1 (Obj.isFreed_of_fields (Obj.data_mapFields k3 _)),(Obj.cls_mapFields ..).trans k2,by rw[Obj.data_mapFields k3];simp[rawInt]⟩
 refine ax (kP (ax (wpAny_isOneOf_keyiter (s:={ s with heap:=s.heap.update it (Obj.mapFields (·.setIfInBounds 1 (rawInt ((i:Int)+1))))}) C9.typeIs ?_)))
 show wpAny _ _ (pure xs[i].key) _ _ _;exact aQ (aQ ⟨_,rfl,aQ (hQ _ C9 (Heap.SameBut.update ..))⟩)
def Tn(I:Inv X aa Z H s)(hd:H d=some (.dG es ep))(hit:s.heap.IsKeyIter it d i es.length ep){e:TK×V×V}(hx:es[i]?=some e)
  (hQ:∀key h',RelV e.2.1 key->h'.IsKeyIter it d (i+1) es.length ep->Heap.SameBut it s.heap h'->Q (some key) { s with heap:=h'}):wpAny (model X.prog X.w) A (pyNext (.ref it)) Q E s:=by
 obtain⟨_,z,ob,xs,g1,g5,g2,g3,g4⟩:=(show bp X.prog X.w H s.heap d (.dG es ep) from I.bj d _ hd);have hl:xs.size=es.length:=by have:=Paired.length g3;simpa using this.symm
 obtain⟨x,x1,x2⟩:=BZ i g3 hx;have lt':i<xs.size:=by
  have:=(eR.mp hx).1;lia
 have ex:xs[i]=x:=by
  have:xs[i]?=some x:=by rw[<-xV];exact x1
  rw[uB lt'] at this;exact Option.some.inj this
 exact M9 g1 g2 hl hit lt' λh' Bb sb=>hQ _ h' (by rw[ex];exact x2.2.1) Bb sb
theorem Nx{xs:Array DictEntry}(hh:A.handled=none)(g1:s.heap.get? d=some ob)(g2:ob.data=.dict xs ep)(hl:xs.size=n)(hit:s.heap.IsKeyIter it d i n ep)(hx:n<=i)
  (hQ:∀h',Heap.ExtBut it s.heap h'->Q none { s with heap:=h'}):wpAny (model P w) A (pyNext (.ref it)) Q E s:=by
 obtain⟨o,k1,k2,k3⟩:=id hit;unfold pyNext;refine ax (wpAny_attempt (wpAny_callSpecial?_slot (name:=Str.ofString "__next__") hit.typeIs F.slot_dict_keyiterator_next (wpAny_call_entry F.slot_dict_keyiterator_next hit.typeIs F.entry_dict_keyiterator_next (ax (aQ (ax (ax ?_)))) (F.args_dict_keyiterator_next_1 _))))
 (first|refine ax (wpAny_typeNameOfWhole_keyiter hit.typeIs (aQ ?_))|refine ax (wpAny_typeNameOf_keyiter hit.typeIs (aQ ?_)));refine ax (wpAny_fieldsOf k1 k3 ?_)
 have zG:Builtin.Dict_items.ownsTuple "dict_keyiterator"=false:=by decide
 simp only[zG,rD,m_]
 (show wpAny _ _ (if(Value.ref d == Value.none)=true then _ else _) _ _ s);rw[aK (show ¬((Value.ref d == Value.none)=true) from oz)]
 refine ax (aQ (ax (wpAny_dictEntries g1 g2 ?_)));rw[aK (by rw[hl];simp)]
 refine ax (aQ (ax (wpAny_dictEpoch g1 g2 ?_)));rw[aK (by simp)]
 refine aQ ?_;have hge:xs.size<=i:=by lia
 simp only[show ¬((i:Int)<0) from by lia,m_,Int.toNat_natCast,Array.getElem?_eq_none hge]
 refine ax ?_
 (first|refine ax (wpAny_typeNameOfWhole_keyiter hit.typeIs (aQ ?_))|refine ax (wpAny_typeNameOf_keyiter hit.typeIs (aQ ?_)));(show wpAny _ _ (setField (.ref it) 0 .none >>= _) _ _ s);refine ax (wpAny_setField k1 k3 (by simp) ?_)
 (show wpAny _ _ (newExc (.type "StopIteration") [] >>= _) _ _ _);refine ax ?_
 simp only[newExc,newTuple];refine ax (wpAny_newObj_type (ax (m:=firstArgMember _ _) (wpAny_of_eq (a:=Value.none) (by first|rfl|(simp only[firstArgMember];rfl)) (wpAny_newObj_type ?_ (by size_fits)))) (by size_fits))
 simp only[raiseNew];refine ax (wpAny_handled ?_);rw[show A.in1.handled=none from hh]
 (refine ax (aQ (wpAny_throw ?_)));refine ax (wpAny_isInstance (T:="StopIteration") (b:=true) ⟨_,jr _ rfl,rfl⟩ isSubtype_stop ?_)
 exact aQ (hQ _ (((Heap.SameBut.update ..).extBut.push _).push _))
def Ux(hh:A.handled=none)(I:Inv X aa Z H s)(hd:H d=some (.dG es ep))(hit:s.heap.IsKeyIter it d i es.length ep)(hx:es.length<=i)
  (hQ:∀h',Heap.ExtBut it s.heap h'->Q none { s with heap:=h'}):wpAny (model X.prog X.w) A (pyNext (.ref it)) Q E s:=by
 obtain⟨_,z,ob,xs,g1,g5,g2,g3,g4⟩:=(show bp X.prog X.w H s.heap d (.dG es ep) from I.bj d _ hd);exact Nx hh g1 g2 (by have:=Paired.length g3;simpa using this.symm) hit hx hQ
end
def HA(a:ah)(n ep:Nat):It:=
 ⟨λi H=>∃es,H a=some (.dG es ep)/\es.length=n/\i<n,λi H x H'=>H'=H/\∀es,H a=some (.dG es ep)->∃e,es[i]?=some e/\e.2.1=x,λi H=>∃es,H a=some (.dG es ep)/\es.length=n/\n<=i⟩
def Uy(a it:ah)(n ep:Nat):Turn P w K tg (HA a n ep) [it] it (λi h=>h.IsKeyIter it a i n ep) where
 mem:=by simp
 obj:=λi h st b hb=>by
  have e:b=it:=by simpa using hb
  subst e;obtain⟨o,e,c,d⟩:=st;exact⟨o,e,λv z=>by rw[d] at z;cases z⟩
 keep:=λi h h' st k=>st.at λo e=>k it (by simp) o e
 item:=by
  intro X hP hw hK hc i aa s Z H E I hf st hg;subst hP hw hK;obtain⟨es,hd,hl,hi⟩:=hg;subst hl;obtain⟨f0,f1,f2,f3,f4,f5⟩:=hf it (by simp)
  refine Tn I hd st (e:=es[i]) (i5 hi) λkey h' rk jP sb=>?_
  have I1:Inv X aa Z H { s with heap:=h'}:=I.turned (t':=s.toks) (λb o hb e=>(sb.2 b hb).trans e) f0 f1 f3 f4 f5
  obtain⟨o,e,c,d⟩:=id jP;refine⟨key,rfl,yG (s:={ s with heap:=h'}) e c d (by decide) ⟨es[i].2.1,H,I1,rk,⟨rfl,λys hy=>?_⟩,jP,λb hb=>(hf b hb).1⟩⟩
  rw[hd] at hy;cases hy;exact⟨_,i5 hi,rfl⟩
 done:=by
  intro X hP hw hK hc i aa s Z H E I hf st hg;subst hP hw hK;obtain⟨es,hd,hl,hi⟩:=hg;subst hl;obtain⟨f0,f1,f2,f3,f4,f5⟩:=hf it (by simp)
  exact Ux (I.ok.hd hc) I hd st hi λh' eb=>⟨rfl,I.turned (t':=s.toks) (λb o hb e=>eb b o hb e) f0 f1 f3 f4 f5⟩
 self:=λ_ _ _ _ _ st h=>wpAny_pyIter_keyiter st h
def wW(tl:TE):TI:=λZ H R=>tl Z H λx H1=>∃a es ep,x=.ref a/\H1 a=some (.dG es ep)/\R (HA a es.length ep) H1
def Yv{tl:TE}(hl:PE X l tl):PI X tg l (wW tl):=by
 intro aa s Z H R I h;refine bA (hl aa s Z H _ I h) λv s1 hh=>?_
 obtain⟨x,H1,I1,r1,q1⟩:=hh;obtain⟨a,es,ep,e,hd,q⟩:=q1;subst e;cases r1;refine N3 I1 hd ?_;refine⟨s1.heap.objs.size,[s1.heap.objs.size],_,_,H1,rfl,I1.kept (t':=s1.toks) λb o e=>cO _ e,Uy a _ _ _,⟨_,jr _ rfl,rfl,rfl⟩,λb hb=>?_,q⟩
 have e:b=s1.heap.objs.size:=by simpa using hb
 subst e;exact I1.k6 (bF _) (I1.bj.fresh (bF _))
def JI{w1 w2:TI}(h1:PI X tg l w1)(h2:PI X tg l w2):PI X tg l (λZ H R=>w1 Z H R\/w2 Z H R):=by
 intro aa s Z H R I h;rcases h with h|h
 .exact h1 aa s Z H R I h
 .exact h2 aa s Z H R I h
open PySem PySem.Spec PyProof.Rows
section
variable{X:Cx}{aa:List (ah×Obj)}{Z:List (ak V)}{H:Hp}{s:aq}{h':bM}
def Inv.vR{T:ah}{o:HO}(I:Inv X aa Z H s)(k:∀b ob,b∉L->s.heap.get? b=some ob->h'.get? b=some ob)(hL:∀b∈L,iN X aa H b)(hT:s.heap.objs.size<=T)
  (new:bp X.prog X.w (upd H T o) h' T o):Inv X aa Z (upd H T o) { s with heap:=h',toks:=t'}:=by
 have hn:H T=none:=I.bj.fresh hT;have nL:∀b u,H b=some u->b∉L:=λb u e z=>by rw[(hL b z).1] at e;cases e
 have nT:∀b u,H b=some u->b≠T:=λb u e z=>by rw[z,hn] at e;cases e
 refine I.step (g':=s.gens) (d':=s.drawn) (ch:=L) (λb hb=>?_) (λb ob _ _ hc e _=>k b ob hc e) (λb ob _ _ hc e _=>⟨ob.slots,k b ob hc e⟩) (λb ob _ e n=>?_)
  (λb ob hc e=>⟨ob,k b ob hc e⟩) (λb xs e=>?_) (λb ob u e=>?_) (λb ps e=>⟨#[],?_⟩) (λm hm=>?_) (λb u e=>?_) I.bare
 .obtain⟨f0,f1,f2,f3,f4,f5⟩:=hL b hb;exact⟨f3,f1,f4,f5⟩
 .rw[cQ (λz=>by subst z;exact bW (fI (cC e) hT) (jE _))];exact n
 .rw[cQ (nT b _ e)];exact e
 .rw[cQ (nT b _ e)];exact e
 .rw[cQ (nT b _ e),e];simp
 .obtain⟨ob,es,ep,ho,r⟩:=hm;exact⟨ob,es,ep,k _ ob (λz=>(hL _ z).2.1 rfl) ho,r⟩
 .by_cases hb:b=T
  .grind [aI]
  .rw[cQ hb] at e;refine(I.bj b u e).iZ (λc v hc q=>k c v ?_ q) (λc q=>by rw[cQ (nT c _ q)];exact q) λc xs q=>by rw[cQ (nT c _ q)];exact q
   rcases hc with z|z
   .rw[z];exact nL b u e
   .exact nL c _ z
def Inv.Ed(I:Inv X aa Z H s)(k:∀b ob,b∉L->s.heap.get? b=some ob->h'.get? b=some ob)(hL:∀b∈L,iN X aa H b):Inv X aa Z H { s with heap:=h',toks:=t'}:=by
 have nL:∀b u,H b=some u->b∉L:=λb u e z=>by rw[(hL b z).1] at e;cases e
 refine I.step (g':=s.gens) (d':=s.drawn) (ch:=L) (λb hb=>?_) (λb ob _ _ hc e _=>k b ob hc e) (λb ob _ _ hc e _=>⟨ob.slots,k b ob hc e⟩) (λb ob _ e n=>n)
  (λb ob hc e=>⟨ob,k b ob hc e⟩) (λb xs e=>e) (λb ob u e=>e) (λb ps e=>⟨#[],by rw[e];simp⟩) (λm hm=>?_) (λb u e=>?_) I.bare
 .obtain⟨f0,f1,f2,f3,f4,f5⟩:=hL b hb;exact⟨f3,f1,f4,f5⟩
 .obtain⟨ob,es,ep,ho,r⟩:=hm;exact⟨ob,es,ep,k _ ob (λz=>(hL _ z).2.1 rfl) ho,r⟩
 .refine(I.bj b u e).iZ (λc v hc q=>k c v ?_ q) (λc q=>q) λc xs q=>q
  rcases hc with z|z
  .rw[z];exact nL b u e
  .exact nL c _ z
end
def Af(Src:Hp->Prop)(n:Nat)(val:Nat->List V->Prop):It:=
 ⟨λi H=>i<n/\Src H,λi H x H'=>∃p ws,x=.ref p/\H p=none/\val i ws/\H'=upd H p (.tup ws),λi H=>n<=i/\Src H⟩
def Ny{FP wr:List ah}{Src:Hp->Prop}{val:Nat->List V->Prop}{tn:Nat->bM->Prop}(mem:it∈FP)(sub:∀b∈wr,b∈FP)
  (obj:∀i h,tn i h->∀b∈FP,∃o,h.get? b=some o/\∀v,o.data≠.cell v) (keep:∀i h h',tn i h->(∀b∈FP,∀o,h.get? b=some o->h'.get? b=some o)->tn i h')
  (hW:∀(X:Cx),X.prog=P->X.w=w->X.K=K->X.calm=true->∀(aa:List (ah×Obj)) (s:aq) (Z:St) (H:Hp),Inv X aa Z H s->Src H->∃(J0:List ah) (Pt:Nat->Array aj->Prop) (St:Nat->bM->Prop) (HE:Nat->ah->bM->Prop),WalksT P w X.A it J0 wr n Pt St HE/\(∀i,tn i s.heap->St i s.heap)/\(∀i h,St i h->tn i h)/\∀i vals,Pt i vals->∃ws,val i ws/\Vals ws vals.toList/\ws.length<=10)
  (self:∀(A:cD) (i:Nat) (s:aq) (Q:aj->aq->Prop) (E:aj->aq->Prop),tn i s.heap->Q (.ref it) s->wpAny (model P w) A (pyIter (.ref it)) Q E s) :
  Turn P w K (.Tuple elts x1 pos) (Af Src n val) FP it (λi h=>i<=n/\tn i h) where
 mem:=mem
 obj:=λi h st=>obj i h st.2
 keep:=λi h h' st k=>⟨st.1,keep i h h' st.2 k⟩
 item:=by
  intro X hP hw hK hc i aa s Z H E I hf st hg;obtain⟨J0,Pt,St,HE,W,toSt,DG,pv⟩:=hW X hP hw hK hc aa s Z H I hg.2;subst hP hw hK;refine W.item i s _ E hg.1 (toSt i st.2) λT vals h1 tk hPt hsz J' C1 hk1=>?_
  refine⟨.ref T,rfl,W.go elts x1 pos i T _ _ E C1 λh2 hSt Rg=>?_⟩
  obtain⟨ws,hv,rv,GL⟩:=pv i vals hPt;have J_:IsTup h2 T vals:=by
   obtain⟨o,e,c⟩:=J';exact⟨o,Rg T o (W.apart i T h1 C1) e,c⟩
  have hn:H T=none:=I.bj.fresh hsz;have I2:Inv X aa Z (upd H T (.tup ws)) { s with heap:=h2,toks:=tk}:=I.vR (L:=wr) (λb ob hb e=>Rg b ob hb (hk1 b ob hb e)) (λb hb=>hf b (sub b hb)) hsz ⟨by rw[sizeLine_eq];lia,vals.toList,rv,by simpa using J_⟩
  refine⟨.ref T,_,I2,rfl,⟨T,ws,rfl,hn,hv,rfl⟩,⟨by have:=hg.1;lia,DG _ _ hSt⟩,λb hb=>?_⟩
  have hb0:=(hf b hb).1;rw[cQ]
  .exact hb0
  .intro z;subst z;obtain⟨o,e,_⟩:=obj i s.heap st.2 b hb;exact bW (fI (cC e) hsz) (jE _)
 done:=by
  intro X hP hw hK hc i aa s Z H E I hf st hg;obtain⟨J0,Pt,St,HE,W,toSt,DG,pv⟩:=hW X hP hw hK hc aa s Z H I hg.2;subst hP hw hK;have ei:i=n:=by have:=hg.1;have:=st.1;lia
  subst ei;exact W.done s _ E (toSt i st.2) λh2 tk hk=>⟨rfl,I.Ed (L:=wr) (λb ob hb e=>hk b ob hb e) λb hb=>hf b (sub b hb)⟩
 self:=λA i s Q E st h=>self A i s Q E st.2 h
def VO{h:bM}{a l:ah}{i:Nat}(p:h.IsListIter a l i):∃o,h.get? a=some o/\∀v,o.data≠.cell v:=by
 obtain⟨o,e,_,d⟩:=p;exact⟨o,e,λv z=>by rw[d] at z;cases z⟩
def Ef(xs:List V)(i:Nat)(ws:List V):Prop:=∃x,xs[i]?=some x/\ws=[.int i,x]
def Uz{e l:ah}(n1:e≠it)(n2:l≠e)(n3:l≠it)(xs:List V):
  Turn P w K (.Tuple elts x1 pos) (Af (λH=>cz K H l xs) xs.length (Ef xs)) [e,it] e (λi h=>i<=xs.length/\((∃old,IsEnum h e it (i:Int) old)/\h.IsListIter it l i)):=by
 refine Ny (FP:=[e,it]) (wr:=[e,it]) (by simp) (λb hb=>hb) (λi h st b hb=>?_) (λi h h' st k=>?_) (λX hP hw hK hc aa s Z H I hS=>?_) (λA i s Q E st h=>?_)
 .obtain⟨⟨old,s1⟩,s2⟩:=st;simp only[y04,y1p,or_false] at hb;rcases hb with rfl|rfl
  .exact⟨_,s1,λv z=>by cases z⟩
  .exact VO s2
 .obtain⟨⟨old,s1⟩,s2⟩:=st;exact⟨⟨old,k e (by simp) _ s1⟩,s2.at λo q=>k it (by simp) o q⟩
 .subst hP hw hK;obtain⟨vv,Lq,p1,_⟩:=I.list hS;have e1:=Lq.length;have W:=WalksT.enumerate (prog:=X.prog) (w:=X.w) (A:=X.A) (I.ok.hd hc) e it l n1 n2 n3 vv.toArray;rw[show vv.toArray.size=xs.length by rw[cZ,<-e1]] at W
  refine⟨_,_,_,_,W,λi st=>?_,λi h st=>?_,λi vals hp=>?_⟩
  .exact⟨st.1,st.2,p1.isList⟩
  .exact⟨st.1,st.2.1⟩
  .obtain⟨t,u,hu,rfl⟩:=hp;have hu:vv[i]?=some u:=by simpa using hu
   have Rc:i<xs.length:=by have:=(eR.mp hu).1;lia
   obtain⟨u',qM,ru⟩:=Lq.get (i5 Rc);rw[hu] at qM;cases qM;exact⟨[.int i,xs[i]],⟨_,i5 Rc,rfl⟩,.cons ⟨t,rfl⟩ (.cons ru .nil),by show 2<=10;decide⟩
 .obtain⟨old,s1⟩:=st.1;exact wpAny_pyIter_enum s1 h
def wZ(K:PySem.W.Frag)(ta:TA):TI:=λZ H R=>ta Z H λvs H1=>∃a xs,vs=[.ref a]/\cz K H1 a xs/\R (Af (λH=>cz K H a xs) xs.length (Ef xs)) H1
def Yw{eW:Pos}{a:Expr}(hg:Gl X "enumerate")(hm:X.mg "enumerate"=none)(ha:PA X [a] ta)(hs:starEach [a] X.env=[(false,eval a X.env)]:=by rfl):
  PI X (.Tuple elts x1 eW) (.Call (.Name "enumerate" p) [a] [] pos) (wZ X.K ta):=by
 intro aa s Z H R I h;refine Call_ (wo I hg hm PyProof.Rows.Boot.enumerate (PyProof.Rows.callWith_type1 (bA (ha pos aa s Z H _ I h) λus s1 hh=>?_) hs rfl))
 obtain⟨vs,H1,I1,r1,q1⟩:=hh;obtain⟨l1,xs,e,hq1,q⟩:=q1;subst e;cases r1 with
 |cons r rr=>
  cases rr;cases r;obtain⟨vv,Lq,p1,_⟩:=I1.list hq1;refine call_enumerate_list p1.isList λh' z1 z2 z3 z4=>?_
  have L1:l1<s1.heap.objs.size:=by obtain⟨o,n,e,_⟩:=p1;exact cC e
  refine wpAny_pyIter_enum z1 ?_;refine⟨s1.heap.objs.size+1,[s1.heap.objs.size+1,s1.heap.objs.size],_,_,H1,rfl,I1.kept (t':=s1.toks) z4,Uz (e:=s1.heap.objs.size+1) (it:=s1.heap.objs.size) (l:=l1) (xR (by lia)) (gm (fI L1 (Hi _ _))) (gm L1) xs,⟨lZ _,⟨_,z1⟩,z2⟩,λb hb=>?_,q⟩
  simp only[y04,y1p,or_false] at hb;have pk:s1.heap.objs.size<=b:=by rcases hb with rfl|rfl <;> lia
  exact I1.k6 pk (I1.bj.fresh pk)
section
variable{X:Cx}{pos p:Pos}{tg a b c:Expr}
end
end L2
set_option autoImplicit false
namespace L2
open PySem PySem.Spec PyProof.Rows
variable{a:ah}{c lo j i:Int}{k:Kn}{q:Nat}{H H':Hp}
def Kept(q:Nat)(H H':Hp):Prop:=∀a o,vx q o=true->H a=some o->H' a=some o
def jx(K:PySem.W.Frag)(k:Kn)(H:Hp)(q:Nat)(x:V):D->Prop
 |.lst ds=>∃a ws,x=.ref a/\ag K k ws ds/\∀H',aw k.F H'->Kept q H H'->cz K H' a ws
 |.tup ds=>∃a ws,x=.ref a/\ag K k ws ds/\∀H',aw k.F H'->Kept q H H'->gu K H' a ws
 |.ar kvs=>∃a es ep,x=.ref a/\es.map (·.1)=kvs.map (·.1)/\ag K k (es.map (·.2.1)) (kvs.map (·.1.d))/\ag K k (es.map (·.2.2)) (kvs.map (·.2))/\∀H',aw k.F H'->Kept q H H'->H' a=some (.dG es ep)
 |.str z=>x=.str z
 |_=>True
def Bx.lv:Bx->Nat
 |.lst _=>2
 |.ar _=>1
def sQ:Cell->ak (Nat×D)
 |.o b=>some (b.lv,b.d)
 |.z b=>some (0,b.d)
 |.ins _ _=>none
def Dg(fz:Bool)(S:aO):Rv->ak (Rs (Nat×D))
 |.o c=>some (.ok (0,c.d) S)
 |.v (.d (.ref n))=>(S.r[n]?).bind λc=>(sQ c).map λp=>.ok p S
 |.v (.d x)=>some (.ok (0,x) S)
 |.v (.c n)=>if fz=true then(pe S (.c n)).map λp=>.ok (0,p.1) p.2 else(S.s[n]?).bind λc=>(sQ c).map λp=>.ok p S
def wQ(fz:Bool)(g:GE):Gx (Nat×D):=λU S=>bd (g U S) (λr S1=>Dg fz S1 r)
abbrev RH(K:PySem.W.Frag)(q:Nat):Rp (Nat×D) V:=λk H x p=>jx K k H (max q p.1) x p.2
section
variable{X:Cx}{K:PySem.W.Frag}{W:XW}{q:Nat}{k:Kn}{H:Hp}{x:V}{d:D}{g:GE}{Z:St}
def Ff(h:ag K k [x] [d]):jx K k H q x d:=by
 cases d with
 |lst ds=>obtain⟨a,ws,rfl,h1,h2⟩:=h.xg;exact⟨a,ws,rfl,h2,λH' s _=>s.LB h1⟩
 |tup ds=>obtain⟨a,ws,rfl,h1,h2⟩:=h.isTup;exact⟨a,ws,rfl,h2,λH' s _=>s.zT h1⟩
 |ar kvs=>obtain⟨a,es,ep,rfl,h1,h2,h3,h4⟩:=h.xa;exact⟨a,es,ep,rfl,h2,h3,h4,λH' s _=>s _ _ h1⟩
 |str z=>exact h.aW rfl
 |_=>exact t8
def KU{o:HO}:vx (max q 2) o=true:=II (p:=2) (Nat.le_max_right _ _) rfl
def Yx{b:Bx}(h:dc K k H a b):jx K k H (max q b.lv) (.ref a) b.d:=by
 cases b with
 |lst xs=>obtain⟨ws,h1,h2⟩:=h;exact⟨a,ws,rfl,h2,λH' _ c=>.inl (.inl (c _ _ KU h1))⟩
 |ar kvs=>obtain⟨es,ep,h1,h2,h3,h4⟩:=h;exact⟨a,es,ep,rfl,h2,h3,h4,λH' _ c=>c _ _ (II (p:=1) (Nat.le_max_right _ _) rfl) h1⟩
def Nz{c:Cell}{p:Nat×D}(h:aX K k H a c)(e:sQ c=some p):jx K k H (max q p.1) (.ref a) p.2:=by
 cases c with
 |o b=>cases e;exact Yx h.2
 |z b=>cases e;exact Ff h.2
 |ins _ _=>cases e
def OR{fz:Bool}{Q:VK}(t:tX (RH K q) K W q (wQ fz g) Z H Q):tE K W q g Z H Q:=by
 obtain⟨k,U,S,res,ok,gk,e,w⟩:=t;refine tX.bd ok gk e w λr S1 x k1 H1 bw g1 r1 e1 w1 _=>?_
 cases r with
 |o c=>
  cases e1;obtain⟨k2,u2,cB,r2⟩:=rf bw r1;exact(w1.up (u2 q)).now cB (Ff r2)
 |v y=>
  cases y with
  |d y=>
   cases y with
   |ref n=>
    obtain⟨c,h1,e2⟩:=cf.mp e1;obtain⟨p,h2,rfl⟩:=cV.mp e2;obtain⟨a,rfl,h3⟩:=ag.isRef r1;exact w1.now bw (Nz (bw.r.at' n a c h3 h1) h2)
   |_=>cases e1;exact w1.now bw (Ff r1)
  |c n=>
   cases fz with
   |true=>
    obtain⟨p,h1,rfl⟩:=cV.mp (show(pe S1 (.c n)).map _=some res from e1);obtain⟨k2,u2,cB,r2⟩:=FA (v:=.c n) bw r1 h1;exact(w1.up (u2 q)).now cB (Ff r2)
   |false=>
    obtain⟨c,h1,e2⟩:=cf.mp (show(S1.s[n]?).bind _=some res from e1);obtain⟨p,h2,rfl⟩:=cV.mp e2;obtain⟨a,rfl,h3⟩:=r1;exact w1.now bw (Nz (bw.s.at' n a c h3 h1) h2)
end
structure gq (K:PySem.W.Frag) (k1:Kn) (H1:Hp) (q:Nat) (J:It) (ds:List D):Prop where
 go:∀i k H,k1.le k->aw k.F H->Kept q H1 H->i<ds.length->J.go i H
 stop:∀i k H,k1.le k->aw k.F H->Kept q H1 H->ds.length<=i->J.stop i H
 t9:∀i k H x H',k1.le k->aw k.F H->Kept q H1 H->J.t9 i H x H'->∀d,ds[i]?=some d->∃F',aw k.F F'/\aw H H'/\aw F' H'/\(∀p,H p≠none->k.F p=none->F' p=none)/\ag K ⟨F',k.A,k.T⟩ [x] [d]
abbrev RI(K:PySem.W.Frag)(q:Nat):Rp (Nat×List D) It:=λk H J p=>gq K k H (max q p.1) J p.2
section
variable{K:PySem.W.Frag}{k1:Kn}{H1:Hp}{q n:Nat}{ds:List D}{J:It}{a:ah}{ws xs:List V}
def gq.old(hn:ds.length=n)(h1:∀i H,aw k1.F H->Kept q H1 H->i<n->J.go i H)(h2:∀i H,aw k1.F H->Kept q H1 H->n<=i->J.stop i H)(h3:∀i H x H' d,aw k1.F H->Kept q H1 H->J.t9 i H x H'->ds[i]?=some d->H'=H/\ag K k1 [x] [d]):gq K k1 H1 q J ds where
 go:=λi k H l s c hi=>h1 i H (l.f.trans s) c (hn ▸ hi)
 stop:=λi k H l s c hi=>h2 i H (l.f.trans s) c (hn ▸ hi)
 t9:=λi k H x H' l s c y d hd=>by
  obtain⟨rfl,r⟩:=h3 i H x H' d (l.f.trans s) c y hd;exact⟨k.F,aw.refl _,aw.refl _,s,λ_ _ z=>z,r.mono l⟩
def gq.DC{Src:Hp->Prop}{val:Nat->List V->Prop}{f:Nat->List D}(hs:∀H,aw k1.F H->Kept q H1 H->Src H)(hv:∀i us,i<n->val i us->ag K k1 us (f i)):gq K k1 H1 q (Af Src n val) ((List.range n).map λi=>.tup (f i)) where
 go:=λi k H l s c hi=>⟨by simpa using hi,hs H (l.f.trans s) c⟩
 stop:=λi k H l s c hi=>⟨by simpa using hi,hs H (l.f.trans s) c⟩
 t9:=λi k H x H' l s c y d hd=>by
  obtain⟨p,us,rfl,hp,hw,rfl⟩:=y;have hi:i<n:=by have:=(eR.mp hd).1;simpa using this
  rw[fW,z_ hi] at hd;cases hd;have hF:=s.free hp;refine⟨upd k.F p (.tup us),sd hF,sd hp,λb u z=>?_,λb z1 z2=>?_,.tup (.inl (.inl aI)) ((hv i us hi hw).mono ⟨l.f.trans (sd hF),l.a⟩) .nil⟩
  .by_cases z3:b=p
   .subst z3;rw[aI] at z ⊢;exact z
   .rw[cQ z3] at z ⊢;exact s b u z
  .rw[cQ (show b≠p from λz=>z1 (z ▸ hp))];exact z2
def Yy(h:∀H',aw k1.F H'->Kept q H1 H'->cz K H' a ws)(r:ag K k1 ws ds):gq K k1 H1 q (HC K a) ds:=
 .old r.length.symm (λi H s c hi=>⟨ws,ws[i],h H s c,i5 _⟩) (λi H s c hi=>⟨ws,h H s c,hi⟩) λi H x H' d s c y hd=>by
  obtain⟨rfl,y⟩:=y;obtain⟨v,h1,h2⟩:=r.get hd
  simp_all
def e0t(h:∀H',aw k1.F H'->Kept q H1 H'->gu K H' a ws)(r:ag K k1 ws ds):gq K k1 H1 q (HD K a) ds:=
 .old r.length.symm (λi H s c hi=>⟨ws,ws[i],h H s c,i5 _⟩) (λi H s c hi=>⟨ws,h H s c,hi⟩) λi H x H' d s c y hd=>by
  obtain⟨rfl,y⟩:=y;obtain⟨v,h1,h2⟩:=r.get hd
  simp_all
def e0u(h:∀H',aw k1.F H'->Kept q H1 H'->cz K H' a ws)(r:ag K k1 ws ds):gq K k1 H1 q (rW K a ws.length) ds.reverse:=
 .old (by rw[List.length_reverse,r.length]) (λi H s c hi=>⟨hi,ws,h H s c,rfl⟩) (λi H s c hi=>hi) λi H x H' d s c y hd=>by
  obtain⟨rfl,y⟩:=y;have hi:=(eR.mp hd).1;rw[List.length_reverse] at hi;rw[List.getElem?_reverse hi,<-r.length] at hd;obtain⟨v,h1,h2⟩:=r.get hd
  simp_all
def Yz{es:List (TK×V×V)}{ep:Nat}(h:∀H',aw k1.F H'->Kept q H1 H'->H' a=some (.dG es ep))(r:ag K k1 (es.map (·.2.1)) ds):gq K k1 H1 q (HA a es.length ep) ds:=
 .old (by rw[<-r.length,bc]) (λi H s c hi=>⟨es,h H s c,rfl,hi⟩) (λi H s c hi=>⟨es,h H s c,rfl,hi⟩) λi H x H' d s c y hd=>by
  obtain⟨rfl,y⟩:=y;obtain⟨v,h1,h2⟩:=r.get hd;rw[fW] at h1;obtain⟨e,h3,rfl⟩:=cV.mp h1;obtain⟨e',h4,rfl⟩:=y es (h _ s c);cases h3.symm.trans h4;exact⟨rfl,h2⟩
def e0v{z:Str}:gq K k1 H1 q (Eu z) (z.cps.toList.map λc=>.str (kY c)):=
 .old (by rw[bc,He]) (λi H s _ hi=>hi) (λi H s _ hi=>hi) λi H x H' d s _ y hd=>by
  obtain⟨rfl,c,h1,rfl⟩:=y;rw[fW,xV,h1] at hd;cases hd;exact⟨rfl,.flat rfl .nil⟩
def qT(lo c:Int)(n:Nat):List D:=(List.range n).map λ(i:Nat)=>D.int (lo+(i:Int)*c)
def YA:gq K k1 H1 q (Hz lo c n) (qT lo c n):=
 .old (by unfold qT;rw[bc,t4]) (λi H s _ hi=>hi) (λi H s _ hi=>hi) λi H x H' d s _ y hd=>by
  obtain⟨rfl,rfl⟩:=y;have hi:=(eR.mp hd).1;unfold qT at hi hd;rw[bc,t4] at hi;rw[fW,z_ hi] at hd;cases hd;exact⟨rfl,.flat rfl .nil⟩
def eV(lo:Int)(n:Nat):List D:=(List.range n).map λ(i:Nat)=>D.int (lo+(i:Int))
theorem e0w:gq K k1 H1 q (Et lo n) (eV lo n):=
 .old (by unfold eV;rw[bc,t4]) (λi H s _ hi=>hi) (λi H s _ hi=>hi) λi H x H' d s _ y hd=>by
  obtain⟨rfl,rfl⟩:=y;have hi:=(eR.mp hd).1;unfold eV at hi hd;rw[bc,t4] at hi;rw[fW,z_ hi] at hd;cases hd;exact⟨rfl,.flat rfl .nil⟩
end
abbrev mj:=Gx (Nat×List D)
def bG(fz:Bool)(o:D->ak (List D))(g:GE):mj:=λU S=>bd (wQ fz g U S) λp S1=>(o p.2).map λds=>.ok (p.1,ds) S1
noncomputable def fE:D->ak (List D)
 |.lst ds=>some ds
 |.tup ds=>some ds
 |.ar kvs=>some (kvs.map (·.1.d))
 |.str z=>some (z.cps.toList.map λc=>.str (kY c))
 |_=>none
def zP:D->ak (List D)
 |.lst ds=>some ds.reverse
 |_=>none
def dO(ds:List D):List D:=(List.range ds.length).map λi=>.tup [.int (i:Nat),(ds[i]?).getD .aG]
def JQ:D->ak (List D)
 |.lst ds=>some (dO ds)
 |_=>none
noncomputable def mS:List Val->ak (List D)
 |[.d (.int j)]=>if Nat.ble j.natAbs 1000000000000=true then some (eV 0 j.toNat) else none
 |_=>none
noncomputable def vG:List Val->ak (List D)
 |[.d (.int i),.d (.int j),.d (.int c)]=>if c = -1/\(Nat.ble i.natAbs 1000000&&Nat.ble j.natAbs 1000000)=true then some (qT i (-1) (i - j).toNat) else none
 |_=>none
noncomputable def jy(o:List Val->ak (List D))(g:GA):mj:=λU S=>bd (g U S) λvs S1=>(o vs).map λds=>.ok (0,ds) S1
section
variable{X:Cx}{K:PySem.W.Frag}{W:XW}{q:Nat}{g:GE}{ga:GA}{fz:Bool}{Z:St}{H:Hp}{R:It->Hp->Prop}
def E4{o:D->ak (List D)}(t:tX (RI K q) K W q (bG fz o g) Z H R):(∀Q:VK,tE K W q g Z H Q)\/∃d ds n,o d=some ds/\∀Q:VK,(∀k1 H1 x,aw k1.F H1->jx K k1 H1 n x d->(∀J,gq K k1 H1 n J ds->R J H1)->Q x H1)->tE K W q g Z H Q:=by
 obtain⟨k,U,S,res,ok,gk,e,w⟩:=t;rcases AV e with⟨⟨n,d⟩,S1,e1,e2⟩|⟨C,l,S1,e1,rfl⟩
 .obtain⟨ds,e3,rfl⟩:=cV.mp e2;exact .inr ⟨d,ds,max q n,e3,λQ h=>OR ⟨k,U,S,_,ok,gk,e1,λx k1 H1 u bw r=>h k1 H1 x bw.le r λJ j=>w J k1 H1 u bw j⟩⟩
 .exact .inl λQ=>OR ⟨k,U,S,_,ok,gk,e1,w⟩
def jx.now{x:V}{P:Hp->Prop}{n:Nat}(h:∀H',aw k.F H'->Kept n H H'->P H')(le:aw k.F H):P H:=h H le λ_ _ _ z=>z
def Dp(K:PySem.W.Frag)(te:TE):TI:=λZ H R=>w6 K te Z H R\/Dt K te Z H R\/wW te Z H R\/Ds te Z H R
def e0x{tg l:Expr}{te:TE}(h:PE X l te):PI X tg l (Dp X.K te):=JI (XQ h) (JI (d9v h) (JI (Yv h) (e0j h)))
def e0y(t:tX (RI K q) K W q (bG fz fE g) Z H R):Dp K (tE K W q g) Z H R:=by
 rcases E4 t with h|⟨d,ds,n,e,h⟩
 .exact .inl (h _)
 .cases d with
  |lst _=>
   cases e;refine .inl (h _ λk1 H1 x le hd j=>?_)
   obtain⟨a,ws,rfl,q2,q1⟩:=hd;exact⟨a,rfl,⟨ws,jx.now (x:=.aG) q1 le⟩,j _ (Yy q1 q2)⟩
  |tup _=>
   cases e;refine .inr (.inl (h _ λk1 H1 x le hd j=>?_))
   obtain⟨a,ws,rfl,q2,q1⟩:=hd;exact⟨a,rfl,⟨ws,jx.now (x:=.aG) q1 le⟩,j _ (e0t q1 q2)⟩
  |ar kvs=>
   cases e;refine .inr (.inr (.inl (h _ λk1 H1 x le hd j=>?_)))
   obtain⟨a,es,ep,rfl,q2,q3,q4,q1⟩:=hd;exact⟨a,es,ep,rfl,jx.now (x:=.aG) q1 le,j _ (Yz q1 q3)⟩
  |str z=>
   cases e;exact .inr (.inr (.inr (h _ λk1 H1 x le hd j=>⟨z,hd,j _ e0v⟩)))
  |_=>cases e
def YB(t:tX (RI K q) K W q (bG fz zP g) Z H R):Dq K (tQ (tE K W q g) vK) Z H R:=by
 rcases E4 t with h|⟨d,ds,n,e,h⟩
 .exact h _
 .cases d with
  |lst _=>
   cases e;refine h _ λk1 H1 x le hd j=>?_
   obtain⟨a,ws,rfl,q2,q1⟩:=hd;exact⟨a,ws,rfl,jx.now (x:=.aG) q1 le,j _ (e0u q1 q2)⟩
  |_=>cases e
def e0z(t:tX (RI K q) K W q (bG fz JQ g) Z H R):wZ K (tQ (tE K W q g) vK) Z H R:=by
 rcases E4 t with h|⟨d,ds,n,e,h⟩
 .exact h _
 .cases d with
  |lst es=>
   cases e;refine h _ λk1 H1 x le hd j=>?_
   obtain⟨a,ws,rfl,q2,q1⟩:=hd;refine⟨a,ws,rfl,jx.now (x:=.aG) q1 le,j _ ?_⟩;unfold dO;rw[<-q2.length];refine .DC q1 λi us hi hv=>?_
   obtain⟨x,h1,rfl⟩:=hv;obtain⟨d,hd⟩:∃d,es[i]?=some d:=⟨es[i]'(by rw[<-q2.length];exact hi),i5 _⟩
   obtain⟨v,h3,h4⟩:=q2.get hd;cases h1.symm.trans h3;rw[hd];exact .flat rfl h4
  |_=>cases e
theorem rep1{xs:List V}(h:Paired (cI K k) xs [.d (.int j)]):xs=[.int j]:=by
 cases h with
 |cons r t=>cases t;rw[(show ag K k [_] [_] from r).aW rfl]
def rep2{xs:List V}(h:Paired (cI K k) xs [.d (.int i),.d (.int j)]):xs=[.int i,.int j]:=by
 cases h with
 |cons r t=>rw[(show ag K k [_] [_] from r).aW rfl,rep1 t]
def rep3{xs:List V}(h:Paired (cI K k) xs [.d (.int i),.d (.int j),.d (.int c)]):xs=[.int i,.int j,.int c]:=by
 cases h with
 |cons r t=>rw[(show ag K k [_] [_] from r).aW rfl,rep2 t]
def NA{o:List Val->ak (List D)}{Q:List V->Hp->Prop}(t:tX (RI K q) K W q (jy o ga) Z H R)(h:∀vs ds k1 H1 xs,o vs=some ds->(∀J,gq K k1 H1 (max q 0) J ds->R J H1)->Paired (cI K k1) xs vs->Q xs H1):fU K W q ga Z H Q:=by
 obtain⟨k,U,S,res,ok,gk,e,w⟩:=t;rcases AV e with⟨vs,S1,e1,e2⟩|⟨C,l,S1,e1,rfl⟩
 .obtain⟨ds,e3,rfl⟩:=cV.mp e2;exact⟨k,U,S,_,ok,gk,e1,λxs k1 H1 u bw r=>h vs ds k1 H1 xs e3 (λJ j=>w J k1 H1 u bw j) r⟩
 .exact⟨k,U,S,_,ok,gk,e1,w⟩
def YC(t:tX (RI K q) K W q (jy mS ga) Z H R):w9 (fU K W q ga) Z H R:=NA t λvs ds k1 H1 xs e j r=>by
 unfold mS at e;split at e
 .split at e
  .rename_i h
   have h:=Aa h
   grind [rep1,e0w]
  .cases e
 .cases e
def YD(t:tX (RI K q) K W q (jy vG ga) Z H R):w_ (fU K W q ga) Z H R:=NA t λvs ds k1 H1 xs e j r=>by
 unfold vG at e;split at e
 .split at e
  .rename_i h
   obtain⟨rfl,h⟩:=h;obtain⟨h1,h2⟩:=Br.mp h;have h1:=Aa h1;have h2:=Aa h2;cases e;exact⟨_,_,rep3 r,⟨by lia,by lia,by lia,by lia⟩,j _ YA⟩
  .cases e
 .cases e
end
def aH(g:GG)(f:GS):List D->GS
 |[]=>λU S=>some (.nx U S)
 |d::ds=>λU S=>(g d U).bind λU1=>(f U1 S).bind λr=>match r with
   |.nx U2 S2=>aH g f ds U2 S2
   |.ct U2 S2=>aH g f ds U2 S2
   |.bk U2 S2=>some (.nx U2 S2)
   |r=>some r
noncomputable def bD(q:Nat)(src:mj)(g:GG)(f:Nat->GS):GS:=λU S=>kL U (src U S) λp S1=>aH g (f (max q p.1)) p.2 U S1
def Up.kept{k':Kn}(u:Up q k H k' H'):Kept q H H':=u.h
def Kept.refl:Kept q H H:=λ_ _ _ z=>z
def Kept.trans{BB:Hp}(a:Kept q H H')(b:Kept q H' BB):Kept q H BB:=λx o z h=>b x o z (a x o z h)
def Kept.same(a:aw H H'):Kept q H H':=λx o _ h=>a x o h
section
variable{X:Cx}{K:PySem.W.Frag}{W:XW}{q:Nat}{tg iter:Expr}{body:List Stmt}{wi:TI}{t:TG}{gg:GG}{f:Nat->GS}{src:mj}{pos:Pos}
def e1a(hp:PassesOwn (model X.prog X.w) X.A X.env X.xe)(hc:X.calm=true)(hi:PI X tg iter wi)(qL:∀Z H R,tX (RI K q) K W q src Z H R->wi Z H R)(hg:PG X tg t)(ht:jY K t gg)(hb:∀n,iP X body (tS K W n (f n)))(hs:∀x,foldedSetIterable iter X.env x=pure x):
  PS X (.For tg iter body [] pos) (tS K W q (bD q src gg f)):=by
 intro aa s Z H De I t;obtain⟨k,U,S,fr,ok,gk,e,w⟩:=t;unfold bD kL at e;split at e
 .cases e
 .rename_i p S1 e1
  obtain⟨n,ds⟩:=p;refine PN hp hc hi hg (hb (max q n)) hs aa s Z H De I (qL _ _ _ ⟨k,U,S,_,ok,gk,e1,λJ k1 H1 u1 bw r1=>?_⟩)
  have w1:=(w.up u1).weak (Nat.le_max_left q n);have g1:=gk.up u1;clear w gk ok e1 u1;refine⟨λi m Z H=>m=ds.length - i/\i<=ds.length/\∃k U S,bR K k H S/\fX K k Z U/\k1.le k/\Kept (max q n) H1 H/\aH gg (f (max q n)) (ds.drop i) U S=some fr/\Done K W (max q n) De k H fr,⟨_,rfl,lZ _,k1,U,S1,bw,g1,.refl,.refl,e,w1⟩,?_⟩
  rintro i m Z H ⟨rfl,hi,k,U,S,ok,gk,l,c,e,w⟩;rcases Nat.lt_or_ge i ds.length with h|h
  .rw[List.drop_eq_getElem_cons h] at e;refine .inr ⟨r1.go i k H l ok.le c h,λZ' H'=>∃k U S,bR K k H' S/\fX K k Z' U/\k1.le k/\Kept (max q n) H1 H'/\aH gg (f (max q n)) (ds.drop (i+1)) U S=some fr/\Done K W (max q n) De k H' fr,λZ' H' z=>⟨_,by lia,rfl,h,z⟩,λx H' y=>?_⟩
   obtain⟨F',s1,s2,s3,s4,rp⟩:=r1.t9 i k H x H' l ok.le c y _ (i5 h);have u:Up (max q n) k H ⟨F',k.A,k.T⟩ H':=.of s1 s2;obtain⟨U1,e1,e2⟩:=cf.mp e;obtain⟨r,e3,e4⟩:=cf.mp e2;have eZ:bR K ⟨F',k.A,k.T⟩ H' S:=ok.new s1 (λp _ o z=>s2 p o z) s3 λp m=>s4 p (ok.there p m)
   have l':k1.le ⟨F',k.A,k.T⟩:=⟨l.f.trans s1,l.a⟩;refine ht _ H' Z U U1 x ds[i] _ s3 (gk.up u) rp e1 λZ1 g1=>⟨_,U1,S,r,eZ,g1,e3,?_⟩
   have w':=w.up u;have c':Kept (max q n) H1 H':=c.trans (.same s2);cases r with
   |nx U2 S2=>exact λZ' k2 H2 u2 cB g2=>⟨k2,U2,S2,cB,g2,⟨l'.f.trans u2.f,l'.a.trans u2.a⟩,c'.trans u2.kept,e4,w'.up u2⟩
   |ct U2 S2=>exact λZ' k2 H2 u2 cB g2=>⟨k2,U2,S2,cB,g2,⟨l'.f.trans u2.f,l'.a.trans u2.a⟩,c'.trans u2.kept,e4,w'.up u2⟩
   |bk U2 S2=>cases e4;exact w'
   |rt r S2=>cases e4;exact w'
   |ex C l U2 S2=>cases e4;exact w'
  .rw[Hh h] at e;cases e;exact .inl ⟨r1.stop i k H l ok.le c h,bO.now w ok gk⟩
 .rename_i C l S1 e1
  cases e;exact PN hp hc hi hg (hb q) hs aa s Z H De I (qL _ _ _ ⟨k,U,S,_,ok,gk,e1,λdx k' H' u eZ r=>w dx Z k' H' u eZ (gk.up u) r⟩)
end
end L2
set_option autoImplicit false
namespace L2
open PySem PySem.Spec PyProof.Rows
variable{ds:List D}{U:Gm}{Z:St}
def uh{α β:Type}(x:ak (Rs α))(f:α->aO->ak (Rs β)):ak (Rs β):=match x with
 |some (.ok a S)=>f a S
 |_=>none
def W0:XW:=λ_ _ _ _=>False
def bB(gg:GG)(tt:GT)(te:GE):List D->Gm->aO->List D->ak (Rs (List D))
 |[],_,S,aU=>some (.ok aU S)
 |d::ds,U,S,aU=>(gg d U).bind λU1=>uh (tt U1 S) λb S1=>if b=true then uh (gD te U1 S1) λx S2=>if aU.length<1000000 then bB gg tt te ds U1 S2 (aU++[x]) else none else bB gg tt te ds U1 S1 aU
def u7(n:Nat)(cL:List Nat)(U:Gm):Gm:=List.replicate n none++cL.map λi=>(U[i]?).join
def bZ(q:Nat)(src:mj)(gg:GG)(tt:Nat->GT)(te:Nat->GE)(n:Nat)(cL:List Nat):GE:=λU S=>bd (src U S) λp S1=>bd (bB gg (tt (max q p.1)) (te (max q p.1)) p.2 (u7 n cL U) S1 []) λds S2=>some (.ok (.o (.lst ds)) S2)
section
variable{X:Cx}{K:PySem.W.Frag}{W:XW}{q:Nat}{tg iter elt:Expr}{ifs:List Expr}{scope:Scope}{wi:TI}{t:TG}{gg:GG}{tt:Nat->GT}{te:Nat->GE}{src:mj}{pos:Pos}{M:List Str}{n:Nat}{cL:List Nat}
def FD{α β:Type}{x:ak (Rs α)}{f:α->aO->ak (Rs β)}{res:Rs β}(e:uh x f=some res):∃a S,x=some (.ok a S)/\f a S=some res:=by
 unfold uh at e;split at e
 .exact⟨_,_,rfl,e⟩
 .cases e
def VP{gg:GG}{tt:GT}{te:GE}{S:aO}{aU:List D}{res:Rs (List D)}(e:bB gg tt te ds U S aU=some res):∃l S',res=.ok l S':=by
 induction ds generalizing U S aU with
 |nil=>cases e;exact⟨_,_,rfl⟩
 |cons d ds ih=>
  obtain⟨U1,_,e⟩:=cf.mp e;obtain⟨b,S1,_,e⟩:=FD e;cases b with
  |false=>exact ih e
  |true=>
   obtain⟨x,S2,_,e⟩:=FD (show uh _ _=some res from e);split at e
   .exact ih e
   .cases e
def YE{k:Kn}(g:fX K k Z U):fX K k (j7 n cL Z) (u7 n cL U):=by
 refine⟨by unfold j7 u7;rw[cP,cP,bc,bc,Bo,Bo],λi v e=>?_⟩
 unfold u7 at e;unfold j7;by_cases hi:i<n
 .rw[xS (by rw[Bo];exact hi),L8,aP hi] at e;cases e
 .have hi:=Nat.le_of_not_lt hi;rw[v3 (by rw[Bo];exact hi),Bo,fW] at e ⊢
  obtain⟨j,h1,h2⟩:=cV.mp e;obtain⟨x,h3,h4⟩:=g.at' j v (Nw h2)
  simp_all
def e1b{J:It}{k1:Kn}{H1:Hp}{m:Nat}{out:List D}{S1 S2:aO}{τ:St}{gt:GT}{ge:GE}{fO:List V->Hp->Prop}(ht:jY K t gg)(r1:gq K k1 H1 m J ds)(bw:bR K k1 H1 S1)(g1:fX K k1 τ U)(e:bB gg gt ge ds U S1 []=some (.ok out S2))
  (w:∀k H vs,Up m k1 H1 k H->bR K k H S2->ag K k vs out->fO vs H):pM J t (tT K W0 m gt) (tE K W0 m ge) τ H1 fO:=by
 refine⟨ds.length,λi τ vs H=>i<=ds.length/\∃k U S aU,bR K k H S/\fX K k τ U/\ag K k vs aU/\Up m k1 H1 k H/\bB gg gt ge (ds.drop i) U S aU=some (.ok out S2),⟨lZ _,k1,U,S1,[],bw,g1,.nil,.refl,e⟩,?_⟩
 rintro i τ vs H hi ⟨_,k,U,S,aU,ok,gk,rv,u,e⟩;rcases Nat.lt_or_ge i ds.length with h|h
 .rw[List.drop_eq_getElem_cons h] at e;refine .inr ⟨h,r1.go i k H u.le ok.le u.kept h,λx H' y=>?_⟩
  obtain⟨F',s1,s2,s3,s4,rp⟩:=r1.t9 i k H x H' u.le ok.le u.kept y _ (i5 h);have u2:Up m k H ⟨F',k.A,k.T⟩ H':=.of s1 s2;have eZ:bR K ⟨F',k.A,k.T⟩ H' S:=ok.new s1 (λp _ o z=>s2 p o z) s3 λp m=>s4 p (ok.there p m)
  obtain⟨U1,e1,e2⟩:=cf.mp e;refine ht _ H' τ U U1 x ds[i] _ s3 (gk.up u2) rp e1 λτ1 g1=>?_
  obtain⟨b,S3,e3,e4⟩:=FD e2;refine⟨_,U1,S,_,eZ,g1,e3,λb' k3 H3 u3 jC r3=>?_⟩
  cases r3;have u4:=(u.trans u2).trans u3;cases b with
  |false=>exact sT ⟨h,k3,U1,S3,aU,jC,g1.up u3,rv.mono (u2.trans u3).le,u4,e4⟩
  |true=>
   obtain⟨y,S4,e5,e6⟩:=FD (show uh _ _=some _ from e4);refine sU (LP ⟨_,U1,S3,_,jC,g1.up u3,e5,λv k5 H5 u5 mJ r5=>?_⟩)
   split at e6
   .rename_i hl
    refine⟨fI (by rw[rv.length];exact hl) (by decide),h,k5,U1,S4,aU++[y],mJ,(g1.up u3).up u5,(rv.mono ((u2.trans u3).trans u5).le).append r5,u4.trans u5,e6⟩
   .cases e6
 .rw[Hh h] at e;cases e;exact .inl ⟨r1.stop i k H u.le ok.le u.kept h,w k H vs u ok rv⟩
def OS{H:Hp}{Q:VK}(ht:jY K t gg)(h:tE K W q (bZ q src gg tt te n cL) Z H Q):∃m,tX (RI K q) K W q src Z H λJ H1=>pM J t (tT K W0 m (tt m)) (tE K W0 m (te m)) (j7 n cL Z) H1 λaU H'=>∀l,H' l=none->Q (.ref l) (upd H' l (.lst aU)):=by
 obtain⟨k,U,S,res,ok,gk,e,w⟩:=h;rcases AV e with⟨⟨m,ds⟩,S1,e1,e2⟩|⟨C,l,S1,e1,rfl⟩
 .refine⟨max q m,k,U,S,_,ok,gk,e1,λJ k1 H1 u1 bw r1=>?_⟩
  rcases AV e2 with⟨out,S2,e3,e4⟩|⟨C,l,S2,e3,rfl⟩
  .cases e4;refine e1b ht r1 bw (YE (gk.up u1)) e3 λk2 H2 vs u2 cB rv l hl=>?_
   exact kU.lst (.fin cB ((w.up u1).up (u2.weak (Nat.le_max_left q m)))) cB.le rv hl
  .obtain⟨_,_,z⟩:=VP e3;cases z
 .exact⟨0,k,U,S,_,ok,gk,e1,w⟩
def YF(hc:X.calm=true)(ok:dB X scope M n cL)(hi:PI X tg iter wi)(qL:∀Z H R,tX (RI K q) K W q src Z H R->wi Z H R)(ht:jY K t gg)
  (hg:∀C s H fp,PG (eS X scope M C s H fp) tg t) (hT:∀m C s H fp,rX (eS X scope M C s H fp) ifs (tT K W0 m (tt m))) (hE:∀m C s H fp,PE (eS X scope M C s H fp) elt (tE K W0 m (te m)))
  (hs:∀x,foldedSetIterable iter X.env x=pure x):PE X (.ListComp elt [⟨tg,iter,ifs,0⟩] scope pos) (tE K W q (bZ q src gg tt te n cL)):=λaa s Z H Q I h=>by
 obtain⟨m,h⟩:=OS ht h;exact X_ hc ok hi hg (hT m) (hE m) hs aa s Z H Q I (qL _ _ _ h)
def YG{mu:Bool}{i:Nat}{x:Str}{px oq:Pos}(hc:X.calm=true)(ok:dB X scope M n cL)(hN:X.N.Nodup)(y9:X.N[i]?=some x)(hx:Loc X.env.scope x)(hi:PI X tg iter wi)(qL:∀Z H R,tX (RI K q) K W q src Z H R->wi Z H R)(ht:jY K t gg)
  (hg:∀C s H fp,PG (eS X scope M C s H fp) tg t) (hT:∀m C s H fp,rX (eS X scope M C s H fp) ifs (tT K W0 m (tt m))) (hE:∀m C s H fp,PE (eS X scope M C s H fp) elt (tE K W0 m (te m)))
  (Dk:swapsWith (.ListComp elt [⟨tg,iter,ifs,0⟩] scope pos) (some (.Name x px)) oq.line X.env=pure true) (hs:∀x,foldedSetIterable iter X.env x=pure x) (hf:X.fn x=true\/X.env.scope.names.lookup x=some .local) :
  PS X (.Assign [.Name x px] (.ListComp elt [⟨tg,iter,ifs,0⟩] scope pos) oq) (tS K W q (au i mu (bZ q src gg tt te n cL))):=λaa s Z H D I h=>by
 obtain⟨m,h⟩:=OS ht (PX h);exact Ya hc ok hN y9 hx hi hg (hT m) (hE m) Dk hs hf aa s Z H D I (qL _ _ _ h)
end
end L2
namespace L2
open PySem PySem.Spec PySem.W PySem.Calls PyProof.Rows
variable{hs:List ExceptHandler}
noncomputable def oH(C:ah)(fe:GE):GS:=λU S=>kL U (fe U S) λ_ S1=>some (.ex C none U S1)
section
variable{X:Cx}{K:Frag}{W:XW}{q:Nat}{C B0:ah}{x:Str}{p cp pos:Pos}{e:Expr}{fe:GE}
def VQ(G:e_ K C (.ref B0::rj) none)(G0:e_ K B0 rj none)(hk:keepIn K (.ref C)=true)(hm:X.mg x=some (.ref C))(hp:eG X W)(he:PE X e (tE K W q fe))(hc:X.calm=true)(hg:Gl X x)(k8:(x == ("__debug__":Str))=false)
  (k9:starEach [e] X.env=(false,eval e X.env)::starEach [] X.env) (hK:X.K=K):PS X (.Raise (some (.Call (.Name x p) [e] [] cp)) none pos) (tS K W q (oH C fe)):=by
 subst hK;intro aa s Z H D I t;have t1:tE X.K W q fe Z H λ_ H1=>W C none Z H1:=by
  obtain⟨k,U,S,fr,ok,gk,e,w⟩:=t;refine tS.bd ok gk e w λr S1 v k1 H1 bw g1 r1 e1 w1=>?_
  cases e1;exact w1 none Z k1 H1 .refl bw g1 rfl
 obtain⟨nm,qq,N,bs,sn,sub,ab,col,dd,k0,k1,k2,k3,k5,on,Bf,es,ep,Bi,g1,g2,g3,g4⟩:=id G;rw[arm_exec_Raise];show wpAny _ _ (do standAt pos;raiseStmt X.env (some (do let v <-eval (.Call (.Name x p) [e] [] cp) X.env;standAt pos;pure v)) none) _ _ _
 refine ax (wpAny_standAt (wpAny_raiseStmt_made_sub (C:=C) (nm:=nm) (q:=qq) (N:=N) (bs:=bs) (bm:=.ref B0::rj) (hdct:=true) (sn:=sn) (sub:=sub) (ab:=ab) (col:=col) (dd:=dd) (k0:=k0) (k1:=k1) (k2:=k2) (k3:=k3) (k5:=k5) (newId:="ValueError.__new__") rfl (I.ok.hd hc) (ax (bA ?_ λv s3 h3=>ax (wpAny_standAt (aQ h3))))))
 refine wpAny_Call_Name_kw (AG I hg hm ?_ k8);have jM:(backTo cp (starEach [] X.env)).any (·.1)=false:=by rw[starEach];rfl
 refine PySem.W.callWith_K (h₀:=X.base) I.ok.mod.Bc hk (bA ((Fx he mO k9) cp aa s Z H (λvs H1=>vs.length=1/\W C none Z H1) I (oF t1 λ_ H1 h=>⟨rfl,h⟩)) λus s1 hh=>?_) k9 jM
 obtain⟨vs,H1,I1,r,hl,pp⟩:=hh;refine⟨I1.jN,?_⟩;obtain⟨u,rfl⟩:∃u,us=[u]:=by
  have l:=r.length;rw[hl] at l;cases us with
  |nil=>cases l
  |cons u us=>cases us with
   |nil=>exact⟨u,rfl⟩
   |cons _ _=>cases l
 refine VL G G0 I1 λh' t kp g=>⟨_,t,rfl,kp _ _ (I1.jN _ _ g1),g,?_⟩
 exact hp aa Z H1 s1 H1 _ _ C none I1 ⟨rfl,I1.bare,Un.kept kp,I1.bj.kept kp,tW _,I1.bj.fresh (tW _),_,_,g,rfl,rfl,rfl,by show 1<6;decide,.inl rfl⟩ pp
end
abbrev GH:=(ah->ak Bool)×GS
variable{gs:List GH}
noncomputable def DE:Fr->ak Fr
 |.ex _ _ _ _=>none
 |r=>some r
def vP:List GH->ah->GS
 |[],_=>λ_ _=>none
 |h::hs,C=>λU S=>(h.1 C).bind λb=>if b=true then(h.2 U S).bind DE else vP hs C U S
def sL(f:GS)(hs:List GH):GS:=λU S=>(f U S).bind λr=>match r with
 |.ex C _ U1 S1=>vP hs C U1 S1
 |r=>some r
section
variable{X:Cx}{K:Frag}{W:XW}{q:Nat}
theorem SP.dY{aa:List (ah×Obj)}{D:Ends}{f:Flow}{s':aq}{e:aj}(h:SP (X.dz e) aa D f s')(hd:X.calm=true->X.A.handled=none):SP X aa D f s':=by
 cases f with
 |next=>obtain⟨Z',H',I,q⟩:=h;exact⟨Z',H',I.dY hd,q⟩
 |brk=>obtain⟨Z',H',I,q⟩:=h;exact⟨Z',H',I.dY hd,q⟩
 |cont=>obtain⟨Z',H',I,q⟩:=h;exact⟨Z',H',I.dY hd,q⟩
 |ret u=>obtain⟨v,Z',H',I,r,q⟩:=h;exact⟨v,Z',H',I.dY hd,r,q⟩
def Done.DE{D:Ends}{k:Kn}{H:Hp}{r fr:Fr}(w:Done K W q D k H fr)(e:L2.DE r=some fr):Done K W0 q D k H r:=by
 cases r with
 |ex _ _ _ _=>cases e
 |_=>cases e;exact w
def HB(X:Cx)(K:Frag)(W:XW)(q:Nat)(hs:List ExceptHandler)(gs:List GH):Prop:=∀(aa:List (ah×Obj)) (Z:St) (H:Hp) (s:aq) (D:Ends) (e C:ah) (dx:ak ah) (k:Kn) (U:Gm) (S:aO) (fr:Fr) (n:Nat),Inv X aa Z H s->BG X aa n->gY n s.heap H e C dx->bR K k H S->fX K k Z U->vP gs C U S=some fr->Done K W q D k H fr->
 wpAny (model X.prog X.w) X.A (handleBy (.ref e) X.env hs) (SP X aa D) X.xe s
def e1c:HB X K W q [] []:=λ_ _ _ _ _ _ _ _ _ _ _ _ _ _ _ _ _ _ e _=>nomatch e
def YH{x:Str}{np hp:Pos}{b0:Stmt}{ow:List Stmt}{wh:ah->ak Bool}{g:GS}{Cc:ah}(hm:X.mg x=some (.ref Cc))(hw:∀C b,wh C=some b->exmOne K (.ref C) (.ref Cc)=some b)(hS:∀e,iP (X.dz e) (b0::ow) (tS K W0 q g))(rest:HB X K W q hs gs)(hg:Gl X x)(k8:(x == ("__debug__":Str))=false)(hK:X.K=K):
  HB X K W q (.ExceptHandler (some (.Name x np)) none (b0::ow) hp::hs) ((wh,g)::gs):=by
 subst hK;intro aa Z H s D e C dx k U S fr n I y f ok gk ee w;obtain⟨bb,q1,ee⟩:=cf.mp ee;dsimp only at q1 ee;refine wpAny_handleBy_cons (codeAny_handlers_test (AG (I.dz (e:=.ref e)) hg hm ?_ k8)) (by intro q;cases q)
 obtain⟨eY,uk,oe,vs,he,hc,hr⟩:=id f;have LT:Looks (model X.prog X.w) s.heap (typeOf (.ref e)) (.ref C):=by
  rw[<-hc];exact(Looks.ld he).andThen .now
 refine(exm_one I.jN LT (hw C bb q1)).here ?_;cases bb with
 |true=>
  obtain⟨r,e2,e3⟩:=cf.mp (show(g U S).bind L2.DE=some fr from ee);refine codeAny_handlers_suite (VM (X:=X) f λh' ch kN lx f2=>?_)
  have I2:Inv X aa Z H { s with heap:=h',toks:=s.toks}:=I.left y lx kN;refine wpAny_mono (hS (.ref e) aa _ Z H D I2.dz ⟨k,U,S,r,ok,gk,e2,w.DE e3⟩) (λfl s2 q=>?_) λ_ _ z=>z.elim
  exact q.dY I.ok.hd
 |false=>exact rest aa Z H s D e C dx k U S fr n I y f ok gk ee w
theorem SP.dD{aa:List (ah×Obj)}{E:aj->aq->Prop}{D:Ends}{f:Flow}{s':aq}(h:SP (X.dA (X.pn++aa) E) [] D f s'):SP X aa D f s':=by
 cases f with
 |next=>obtain⟨Z',H',I,q⟩:=h;exact⟨Z',H',I.dD,q⟩
 |brk=>obtain⟨Z',H',I,q⟩:=h;exact⟨Z',H',I.dD,q⟩
 |cont=>obtain⟨Z',H',I,q⟩:=h;exact⟨Z',H',I.dD,q⟩
 |ret u=>obtain⟨v,Z',H',I,r,q⟩:=h;exact⟨v,Z',H',I.dD,r,q⟩
def e1d{body:List Stmt}{h0:ExceptHandler}{f:GS}{pos:Pos}(hb:∀(pn:List (ah×Obj)) (E:aj->aq->Prop) (W:XW),eG (X.dA pn E) W->iP (X.dA pn E) body (tS K W q f))(hh:HB X K W q (h0::hs) gs)(k9:X.stack=X.env::X.outer)(hf:X.env.frame=some X.env.locals):
  PS X (.Try body (h0::hs) [] [] pos) (tS K W q (sL f gs)):=by
 intro aa s Z H D I t;obtain⟨k,U,S,fr,ok,gk,e,w⟩:=t;obtain⟨r1,e1,e⟩:=cf.mp e;refine wpAny_Try_except ?_;have hp:eG (X.dA (X.pn++aa) λe s₁=>wpAny (model X.prog X.w) X.A (noteFrame e X.env) (λ_ s₂=>wpAny (model X.prog X.w) X.A (setFlight e none) (λ_ s₃=>wpAny (model X.prog X.w) X.A (handleBy e X.env (h0::hs)) (SP X aa D) X.xe s₃) X.xe s₂) X.xe s₁)
   (λC dx Z' H'=>∃k' U1 S1 fr,bR K k' H' S1/\fX K k' Z' U1/\vP gs C U1 S1=some fr/\Done K W q D k' H' fr):=by
  intro oi Z' H1 s1 H' s' e C dx I1 c q;obtain⟨k',U2,S2,fr2,cB,gk2,e2,w2⟩:=q;have I':Inv X aa Z' H' s':=(c.inv I1).dD;have J:Inv X aa Z' H1 s1:=I1.dD;refine PV (base:=X.base) (n:=s1.heap.objs.size) (by rw[<-k9];exact I.ok.frames) (by rw[<-k9];exact I'.stack) hf c.Gk.lt (λa z=>I'.bj.fresh z) c.Gk λh' ch kN lx fl=>?_
  rw[<-k9] at lx;have I3:Inv X aa Z' H' { s' with heap:=h',toks:=s'.toks}:=I'.left J.R1 lx kN;exact hh aa Z' H' _ D e C dx k' U2 S2 fr2 _ I3 J.R1 fl cB gk2 e2 w2
 refine wpAny_mono (hb _ _ _ hp [] s Z H D I.dA ⟨k,U,S,r1,ok,gk,e1,?_⟩) (λff s1 z=>?_) λe s1 z=>z
 .cases r1 with
  |ex C l U1 S1=>exact λdx Z' k' H' u eZ g' el=>⟨k',U1,S1,fr,eZ,g',e,w.up u⟩
  |_=>cases e;exact w
 .have z:=z.dD;cases ff with
  |next=>
   obtain⟨Z',H',J,r⟩:=z;exact qh aa s1 Z' H' D J r
  |brk=>exact z
  |cont=>exact z
  |ret u=>exact z
end
end L2
namespace L2
open PySem PySem.Spec PyProof.Rows
variable{K:PySem.W.Frag}{es:List D}{j n:Nat}
abbrev aY(K:PySem.W.Frag)(H:Hp):List V->List D->Prop:=ag K ⟨H,[],[]⟩
def ag.Ha{H H1:Hp}{vs:List V}{ds:List D}(h:ag K ⟨H,[],[]⟩ vs ds)(s:aw H H1):ag K ⟨H1,[],[]⟩ vs ds:=ag.mono (k:=⟨H,[],[]⟩) ⟨s,lr ([]:List ah)⟩ h
section
variable{X:Cx}
mutual
def aR:D->D->Bool
 |.lst xs,.lst ys=>df xs ys
 |.tup xs,.tup ys=>df xs ys
 |.aG,.aG=>true
 |.bl a,.bl b=>a == b
 |.bl a,.int b=>(if a then 1 else 0) == b
 |.int a,.bl b=>a == (if b then 1 else 0)
 |.int a,.int b=>a == b
 |.str a,.str b=>a == b
 |_,_=>false
def df:List D->List D->Bool
 |[],[]=>true
 |x::xs,y::ys=>aR x y&&df xs ys
 |_,_=>false
end
noncomputable def dh:Nat->D->Bool
 |n+1,.lst xs=>xs.all (dh n)
 |n+1,.tup xs=>xs.all (dh n)
 |_,.aG=>true
 |_,.bl _=>true
 |_,.int _=>true
 |_,.str _=>true
 |_,_=>false
theorem B6:∀{xs ys:List D},xs.length≠ys.length->df xs ys=false
 |[],[],h=>bW rfl h
 |[],_::_,_=>by unfold df;rfl
 |_::_,[],_=>by unfold df;rfl
 |x::xs,y::ys,h=>by unfold df;rw[B6 (by simpa using h),Bool.and_false]
theorem B7:∀{xs ys:List D} (n:Nat),xs.length=n->ys.length=n->df xs ys=(List.range n).all λj=>aR (xs.getD j .aG) (ys.getD j .aG)
 |[],[],0,_,_=>by unfold df;rfl
 |x::xs,y::ys,n+1,h1,h2=>by
  unfold df;rw[B7 n (by simpa using h1) (by simpa using h2),List.range_succ_eq_map,t5,Hj]
  rfl
 |[],_,_+1,h,_=>by simp at h
 |_::_,[],_+1,_,h=>by simp at h
 |_::_,_,0,h,_=>by simp at h
 |[],_::_,0,_,h=>by simp at h
variable{aa:List (ah×Obj)}{Z:St}{H:Hp}{s:aq}
def wt{F:Hp}{ws:List V}(r:aY K F ws es){aA:List aj}(rv:Vals ws aA)(h:j<aA.toArray.size):∃x,RelV x aA.toArray[j]/\aY K F [x] [es.getD j .aG]/\j<es.length:=by
 obtain⟨x,hx,rx⟩:=rv.at h;have hl:=r.length;have hj:j<es.length:=by
  have:=(eR.mp hx).1;lia
 obtain⟨y,hy,ry⟩:=r.get (i:=j) (d:=es[j]) (by simp[hj])
 rw[hx] at hy;cases hy;refine⟨x,rx,?_,hj⟩;rw[show es.getD j .aG=es[j] by simp[hj]]
 exact ry
def wg{p:D->Bool}(h:es.all p=true)(hj:j<es.length):p (es.getD j .aG)=true:=by
 simp_all
inductive ye (K:PySem.W.Frag) (H:Hp) (s:aq):aj->D->Prop
 |none:ye K H s .none .aG
 |bool (b:Bool):ye K H s (.bool b) (.bl b)
 |int (i:Int) (t:Tok):ye K H s (.int i t) (.int i)
 |str (x:Str) (t:Tok):ye K H s (.str x t) (.str x)
 |list {a:ah} {aA:List aj} {ws:List V} {es:List D}:s.heap.IsList a aA.toArray->Vals ws aA->aY K H ws es->ye K H s (.ref a) (.lst es)
 |tuple {a:ah} {aA:List aj} {ws:List V} {es:List D}:s.heap.IsTuple a aA.toArray->Vals ws aA->aY K H ws es->ye K H s (.ref a) (.tup es)
def FU(I:Inv X aa Z H s){x:V}{u:aj}{d:D}(r:aY X.K H [x] [d])(ru:RelV x u)(ok:dh n d=true):ye X.K H s u d:=by
 cases r with
 |lst q i _=>
  cases ru;obtain⟨aA,rv,pl,_⟩:=I.list q;exact .list pl.isList rv i
 |tup q i _=>
  cases ru;obtain⟨aA,rv,pl,_⟩:=I.tuple q;exact .tuple pl rv i
 |ar _ _ _ _ _=>cases n <;> cases ok
 |ref _ _=>cases n <;> cases ok
 |flat q _=>
  cases d with
  |aG=>cases q;cases ru;exact .none
  |bl b=>cases q;cases ru;exact .bool b
  |int i=>cases q;obtain⟨t,rfl⟩:=ru;exact .int i t
  |str z=>cases q;obtain⟨t,rfl⟩:=ru;exact .str z t
  |ty _=>cases n <;> cases ok
  |lst _=>cases q
  |tup _=>cases q
  |ar _=>cases q
  |ref _=>cases q
def yu(h:dh n (.lst es)=true):∃m,n=m+1/\es.all (dh m)=true:=by
 cases n with
 |zero=>cases h
 |succ n=>exact⟨n,rfl,h⟩
def yv(h:dh n (.tup es)=true):∃m,n=m+1/\es.all (dh m)=true:=by
 cases n with
 |zero=>cases h
 |succ n=>exact⟨n,rfl,h⟩
def NB(h:∀d∈es,aR d d=true):df es es=true:=by
 induction es with
 |nil=>unfold df;rfl
 |cons d es ih=>unfold df;rw[h d (by simp),ih λd m=>h d (by simp[m])];rfl
def IJ:∀(n:Nat) {d:D},dh n d=true->aR d d=true:=by
 intro n
 induction n with
 |zero=>intro d h;cases d <;> first|(cases h;done)|simp[aR]
 |succ n ih=>
  intro d h;cases d with
  |lst es=>simp only[aR];exact NB λd m=>ih (pK.mp h d m)
  |tup es=>simp only[aR];exact NB λd m=>ih (pK.mp h d m)
  |ar _=>cases h
  |ref _=>cases h
  |ty _=>cases h
  |_=>simp[aR]
def SE{xs ys:List D}(hl:xs.length=ys.length)(h:∀j,j<xs.length->xs.getD j .aG=ys.getD j .aG):xs=ys:=by
 apply List.ext_getElem hl;intro j h1 h2;have:=h j h1;simpa[h1,h2] using this
noncomputable def LU:V->D
 |.bl b=>.bl b
 |.int i=>.int i
 |.str x=>.str x
 |.ty n=>.ty n
 |_=>.aG
def NC{d:D}{v:V}(h:wq d=some v):d=LU v:=by cases d <;> cases h <;> rfl
def Ay{d:D}{a:ah}(h:wq d=some (.ref a)):False:=by cases d <;> cases h
def FE(I:Inv X aa Z H s):∀(n m:Nat) {x:V} {d e:D},aY X.K H [x] [d]->aY X.K H [x] [e]->dh n d=true->dh m e=true->d=e:=by
 intro n
 induction n using Nat.strongRecOn with
 |ind n ih=>
 intro m x d e rd re od oe;have go:∀{ws:List V} {es lL:List D} {n' m':Nat},n'<n->aY X.K H ws es->aY X.K H ws lL->es.all (dh n')=true->lL.all (dh m')=true->es=lL:=by
  intro ws es lL n' m' hn r1 r2 o1 o2;have l1:=r1.length;have l2:=r2.length;refine SE (by lia) λj hj=>?_
  have GC:j<lL.length:=by lia
  obtain⟨v,g1,g2⟩:=r1.get (i:=j) (d:=es[j]) (by simp[hj])
  obtain⟨v',p1,p2⟩:=r2.get (i:=j) (d:=lL[j]) (by simp[GC])
  rw[g1] at p1;cases p1;rw[show es.getD j .aG=es[j] by simp[hj],show lL.getD j .aG=lL[j] by simp[GC]]
  exact ih n' hn m' g2 p2 (pK.mp o1 _ (El hj)) (pK.mp o2 _ (El GC))
 cases rd with
 |flat q _=>
  cases re with
  |flat q' _=>
   rw[NC q,NC q']
  |lst _ _ _=>exact(Ay q).elim
  |tup _ _ _=>exact(Ay q).elim
  |ar _ _ _ _ _=>exact(Ay q).elim
  |ref _ _=>exact(Ay q).elim
 |lst q i _=>
  obtain⟨n',rfl,tm⟩:=yu od;cases re with
  |flat q' _=>exact(Ay q').elim
  |lst q' i' _=>
   obtain⟨m',rfl,tq⟩:=yu oe;cases I.kE q q';rw[go (vZ _) i i' tm tq]
  |tup q' i' _=>
   obtain⟨_,_,p1,_⟩:=I.list q;obtain⟨_,_,p2,_⟩:=I.tuple q';exact bW rfl (SeqAt.ne_of_list_tuple p1.isList p2)
  |ar _ _ _ _ _=>cases m <;> cases oe
  |ref _ _=>cases m <;> cases oe
 |tup q i _=>
  obtain⟨n',rfl,tm⟩:=yv od;cases re with
  |flat q' _=>exact(Ay q').elim
  |tup q' i' _=>
   obtain⟨m',rfl,tq⟩:=yv oe;cases I.lY q q';rw[go (vZ _) i i' tm tq]
  |lst q' i' _=>
   obtain⟨_,_,p1,_⟩:=I.list q';obtain⟨_,_,p2,_⟩:=I.tuple q;exact bW rfl (SeqAt.ne_of_list_tuple p1.isList p2)
  |ar _ _ _ _ _=>cases m <;> cases oe
  |ref _ _=>cases m <;> cases oe
 |ar _ _ _ _ _=>cases n <;> cases od
 |ref _ _=>cases n <;> cases od
def Cr(I:Inv X aa Z H s):∀(n m:Nat) {A:cD} {x y:V} {u v:aj} {d e:D},aY X.K H [x] [d]->aY X.K H [y] [e]->dh n d=true->dh m e=true->RelV x u->RelV y v->A.units+n<cLine->
  SeqAt.EqAt A s u v (aR d e)/\SeqAt.RcAt A s u v (aR d e):=by
 intro n
 induction n using Nat.strongRecOn with
 |ind n ih=>
 intro m A x y u v d e rd re od oe ru rv hu;have cy:A.units<cLine:=by lia
 have s1:=FU I rd ru od;have s2:=FU I re rv oe;cases s1 with
 |none=>
  cases s2 with
  |none=>
   exact⟨SeqAt.EqAt.same _,SeqAt.RcAt.none_none⟩
  |bool a2=>
   simp only[aR];exact⟨SeqAt.EqAt.none_bool a2,SeqAt.RcAt.none_bool a2⟩
  |int a2 t2=>
   simp only[aR];exact⟨SeqAt.EqAt.none_int a2 t2,SeqAt.RcAt.none_int a2 t2⟩
  |str a2 t2=>
   simp only[aR];exact⟨SeqAt.EqAt.none_str a2 t2,SeqAt.RcAt.none_str a2 t2⟩
  |list l2 v2 r2=>
   simp only[aR];exact⟨SeqAt.EqAt.none_list l2 cy,SeqAt.RcAt.none_list l2 cy⟩
  |tuple l2 v2 r2=>
   simp only[aR];exact⟨SeqAt.EqAt.none_tuple l2 cy,SeqAt.RcAt.none_tuple l2 cy⟩
 |bool a1=>
  cases s2 with
  |none=>
   simp only[aR];exact⟨SeqAt.EqAt.bool_none a1,SeqAt.RcAt.bool_none a1⟩
  |bool a2=>
   simp only[aR];exact⟨SeqAt.EqAt.bool_bool a1 a2,SeqAt.RcAt.bool_bool a1 a2⟩
  |int a2 t2=>
   simp only[aR];exact⟨SeqAt.EqAt.bool_int a1 a2 t2,SeqAt.RcAt.bool_int a1 a2 t2⟩
  |str a2 t2=>
   simp only[aR];exact⟨SeqAt.EqAt.bool_str a1 a2 t2,SeqAt.RcAt.bool_str a1 a2 t2⟩
  |list l2 v2 r2=>
   simp only[aR];exact⟨SeqAt.EqAt.bool_list a1 l2 cy,SeqAt.RcAt.bool_list a1 l2 cy⟩
  |tuple l2 v2 r2=>
   simp only[aR];exact⟨SeqAt.EqAt.bool_tuple a1 l2 cy,SeqAt.RcAt.bool_tuple a1 l2 cy⟩
 |int a1 t1=>
  cases s2 with
  |none=>
   simp only[aR];exact⟨SeqAt.EqAt.int_none a1 t1,SeqAt.RcAt.int_none a1 t1⟩
  |bool a2=>
   simp only[aR];exact⟨SeqAt.EqAt.int_bool a1 t1 a2,SeqAt.RcAt.int_bool a1 t1 a2⟩
  |int a2 t2=>
   simp only[aR];exact⟨SeqAt.EqAt.int_int a1 t1 a2 t2,SeqAt.RcAt.int_int a1 t1 a2 t2⟩
  |str a2 t2=>
   simp only[aR];exact⟨SeqAt.EqAt.int_str a1 t1 a2 t2,SeqAt.RcAt.int_str a1 t1 a2 t2⟩
  |list l2 v2 r2=>
   simp only[aR];exact⟨SeqAt.EqAt.int_list a1 t1 l2 cy,SeqAt.RcAt.int_list a1 t1 l2 cy⟩
  |tuple l2 v2 r2=>
   simp only[aR];exact⟨SeqAt.EqAt.int_tuple a1 t1 l2 cy,SeqAt.RcAt.int_tuple a1 t1 l2 cy⟩
 |str a1 t1=>
  cases s2 with
  |none=>
   simp only[aR];exact⟨SeqAt.EqAt.str_none a1 t1,SeqAt.RcAt.str_none a1 t1⟩
  |bool a2=>
   simp only[aR];exact⟨SeqAt.EqAt.str_bool a1 t1 a2,SeqAt.RcAt.str_bool a1 t1 a2⟩
  |int a2 t2=>
   simp only[aR];exact⟨SeqAt.EqAt.str_int a1 t1 a2 t2,SeqAt.RcAt.str_int a1 t1 a2 t2⟩
  |str a2 t2=>
   simp only[aR];exact⟨SeqAt.EqAt.str_str a1 t1 a2 t2,SeqAt.RcAt.str_str a1 t1 a2 t2⟩
  |list l2 v2 r2=>
   simp only[aR];exact⟨SeqAt.EqAt.str_list a1 t1 l2 cy,SeqAt.RcAt.str_list a1 t1 l2 cy⟩
  |tuple l2 v2 r2=>
   simp only[aR];exact⟨SeqAt.EqAt.str_tuple a1 t1 l2 cy,SeqAt.RcAt.str_tuple a1 t1 l2 cy⟩
 |list l1 v1 r1=>
  cases s2 with
  |none=>
   simp only[aR];exact⟨SeqAt.EqAt.list_none l1 cy,SeqAt.RcAt.list_none l1 cy⟩
  |bool a2=>
   simp only[aR];exact⟨SeqAt.EqAt.list_bool a2 l1 cy,SeqAt.RcAt.list_bool a2 l1 cy⟩
  |int a2 t2=>
   simp only[aR];exact⟨SeqAt.EqAt.list_int a2 t2 l1 cy,SeqAt.RcAt.list_int a2 t2 l1 cy⟩
  |str a2 t2=>
   simp only[aR];exact⟨SeqAt.EqAt.list_str a2 t2 l1 cy,SeqAt.RcAt.list_str a2 t2 l1 cy⟩
  |list l2 v2 r2=>
   rename_i a aA ws es b iB Eh lL
   obtain⟨n',rfl,tm⟩:=yu od;obtain⟨m',rfl,tq⟩:=yu oe;have la:=v1.length;have lb:=v2.length;have Bd:=r1.length;have KW:=r2.length;have rc:SeqAt.RcAt A s (.ref a) (.ref b) (aR (.lst es) (.lst lL)):=by
    simp only[aR];by_cases hl:es.length=lL.length
    .rw[B7 aA.toArray.size (by simp only[cZ];lia) (by simp only[cZ];lia)]
     refine SeqAt.RcAt.lists (A:=A) l1 l2 (by simp only[cZ];lia) cy λj h1 h2=>?_
     obtain⟨x1,q1,q2,q3⟩:=wt r1 v1 h1;obtain⟨y1,p1,p2,p3⟩:=wt r2 v2 h2;exact(ih n' (vZ _) m' q2 p2 (wg tm q3) (wg tq p3) q1 p1 (by show A.units+1+n'<cLine;lia)).1
    .rw[B6 hl];exact SeqAt.RcAt.lists_lengths (A:=A) l1 l2 (by simp only[cZ,bne_iff_ne,ne_eq];lia) cy
   refine⟨?_,rc⟩;by_cases C2:a=b
   .subst C2;have JV:x=y:=RelV.inj ru rv;subst JV;have e2:=FE I _ _ rd re od oe;cases e2;rw[IJ _ od];exact SeqAt.EqAt.same _
   .exact SeqAt.EqAt.of_refs C2 rc
  |tuple l2 v2 r2=>
   simp only[aR];exact⟨SeqAt.EqAt.list_tuple l1 l2 cy,SeqAt.RcAt.list_tuple l1 l2 cy⟩
 |tuple l1 v1 r1=>
  cases s2 with
  |none=>
   simp only[aR];exact⟨SeqAt.EqAt.tuple_none l1 cy,SeqAt.RcAt.tuple_none l1 cy⟩
  |bool a2=>
   simp only[aR];exact⟨SeqAt.EqAt.tuple_bool a2 l1 cy,SeqAt.RcAt.tuple_bool a2 l1 cy⟩
  |int a2 t2=>
   simp only[aR];exact⟨SeqAt.EqAt.tuple_int a2 t2 l1 cy,SeqAt.RcAt.tuple_int a2 t2 l1 cy⟩
  |str a2 t2=>
   simp only[aR];exact⟨SeqAt.EqAt.tuple_str a2 t2 l1 cy,SeqAt.RcAt.tuple_str a2 t2 l1 cy⟩
  |list l2 v2 r2=>
   simp only[aR];exact⟨SeqAt.EqAt.tuple_list l1 l2 cy,SeqAt.RcAt.tuple_list l1 l2 cy⟩
  |tuple l2 v2 r2=>
   rename_i a aA ws es b iB Eh lL
   obtain⟨n',rfl,tm⟩:=yv od;obtain⟨m',rfl,tq⟩:=yv oe;have la:=v1.length;have lb:=v2.length;have Bd:=r1.length;have KW:=r2.length;have rc:SeqAt.RcAt A s (.ref a) (.ref b) (aR (.tup es) (.tup lL)):=by
    have z:=SeqAt.RcAt.tuples (A:=A) (e:=λj=>aR (es.getD j .aG) (lL.getD j .aG)) l1 l2 cy λj h1 h2=>by
     obtain⟨x1,q1,q2,q3⟩:=wt r1 v1 h1;obtain⟨y1,p1,p2,p3⟩:=wt r2 v2 h2;exact(ih n' (vZ _) m' q2 p2 (wg tm q3) (wg tq p3) q1 p1 (by show A.units+1+n'<cLine;lia)).1
    simp only[aR];by_cases hl:es.length=lL.length
    .rw[B7 aA.toArray.size (by simp only[cZ];lia) (by simp only[cZ];lia)]
     have e1:iB.toArray.size=aA.toArray.size:=by simp only[cZ];lia
     rw[e1,Nat.min_self,ju,Bool.and_true] at z;exact z
    .rw[B6 hl];have e1:(aA.toArray.size == iB.toArray.size)=false:=by rw[oB];simp only[cZ];lia
     rw[e1,Bool.and_false] at z;exact z
   refine⟨?_,rc⟩;by_cases C2:a=b
   .subst C2;have JV:x=y:=RelV.inj ru rv;subst JV;have e2:=FE I _ _ rd re od oe;cases e2;rw[IJ _ od];exact SeqAt.EqAt.same _
   .exact SeqAt.EqAt.of_refs C2 rc
end
mutual
theorem Jb:∀k j:TK,aR k.d j.d=decide (k=j)
 |.inl a,.inl b=>by simp only[TK.d,aR];rw[z9];simp
 |.inr a,.inr b=>by simp only[TK.d,aR];rw[z9];simp
 |.tp l,.tp m=>by simp only[TK.d,aR];rw[nV l m,z9];simp
 |.inl _,.inr _=>by simp[TK.d,aR]
 |.inl _,.tp _=>by simp[TK.d,aR]
 |.inr _,.inl _=>by simp[TK.d,aR]
 |.inr _,.tp _=>by simp[TK.d,aR]
 |.tp _,.inl _=>by simp[TK.d,aR]
 |.tp _,.inr _=>by simp[TK.d,aR]
 |.aG,.aG=>by simp[TK.d,aR]
 |.aG,.inl _=>by simp[TK.d,aR]
 |.aG,.inr _=>by simp[TK.d,aR]
 |.aG,.tp _=>by simp[TK.d,aR]
 |.inl _,.aG=>by simp[TK.d,aR]
 |.inr _,.aG=>by simp[TK.d,aR]
 |.tp _,.aG=>by simp[TK.d,aR]
theorem nV:∀l m:List TK,df (TK.dl l) (TK.dl m)=decide (l=m)
 |[],[]=>by simp[TK.dl,df]
 |a::l,b::m=>by simp only[TK.dl,df];rw[Jb a b,nV l m,z9];simp
 |[],_::_=>by simp[TK.dl,df]
 |_::_,[]=>by simp[TK.dl,df]
end
theorem FV:∀l:List TK,TK.dl l=l.map TK.d
 |[]=>by simp[TK.dl]
 |a::l=>by simp[TK.dl,FV l]
theorem AH:∀(n:Nat) {k:TK},k.ok n=true->dh n k.d=true
 |n,.inl i,_=>by cases n <;> simp[TK.d,dh]
 |n,.inr i,_=>by cases n <;> simp[TK.d,dh]
 |n,.aG,_=>by cases n <;> simp[TK.d,dh]
 |0,.tp l,h=>by simp[TK.ok] at h
 |n+1,.tp l,h=>by
  simp only[TK.d,dh,FV,Hj];refine pK.mpr λa m=>?_
  exact AH n (pK.mp (by simpa only[TK.ok] using h) a m)
def UA{α:Type}{M:Model}{A:cD}{E:aj->aq->Prop}{s:aq}{c:Prop}[Decidable c]{a b:Sem α}{Q:α->aq->Prop}(h1:wpAny M A a Q E s)(h2:wpAny M A b Q E s):wpAny M A (if c then a else b) Q E s:=by
 split
 .exact h1
 .exact h2
theorem MJ(w:cg):∀l m:List TK,TK.dy w (l++m)=TK.dy w l++TK.dy w m
 |[],m=>by simp[TK.dy]
 |a::l,m=>by simp[TK.dy,MJ w l m]
section
variable{X:Cx}{aa:List (ah×Obj)}{Z:St}{H:Hp}
def OT{A:cD}{E:aj->aq->Prop}{s:aq}{y:V}{u:aj}{i:Int}{Q:Int->aq->Prop}(r:aY X.K H [y] [TK.d (.inl i)])(ru:RelV y u)(h:∀t,Q (TK.hash X.w (.inl i)) { s with toks:=t}):wpAny (model X.prog X.w) A (pyHash u) Q E s:=by
 simp only[TK.d] at r;cases r with
 |flat q _=>cases q;obtain⟨t,rfl⟩:=ru;exact wpAny_pyHash_int (by simpa only[TK.hash] using h _)
def OU{A:cD}{E:aj->aq->Prop}{s:aq}{y:V}{u:aj}{i:Str}{Q:Int->aq->Prop}(r:aY X.K H [y] [TK.d (.inr i)])(ru:RelV y u)(h:∀t,Q (TK.hash X.w (.inr i)) { s with toks:=t}):wpAny (model X.prog X.w) A (pyHash u) Q E s:=by
 simp only[TK.d] at r;cases r with
 |flat q _=>cases q;obtain⟨t,rfl⟩:=ru;exact wpAny_pyHash_str (by simpa only[TK.hash] using h _)
theorem OV{A:cD}{E:aj->aq->Prop}{s:aq}{y:V}{u:aj}{Q:Int->aq->Prop}(r:aY X.K H [y] [TK.d .aG])(ru:RelV y u)(h:∀t,Q (TK.hash X.w .aG) { s with toks:=t}):wpAny (model X.prog X.w) A (pyHash u) Q E s:=by
 simp only[TK.d] at r;cases r with
 |flat q _=>
  cases q;cases ru;have hT:s.TypeIs .none "NoneType":=rfl;unfold pyHash;have hv:[Value.none].any Value.onHeap=false:=rfl;refine ax ?_;rw[cRoomFor,aK (by rw[hv];exact oz)];refine aQ ?_
  refine ax (wpAny_specialOf hT F.slot_NoneType_hash.lookup ?_);show wpAny _ _ (if(some (Value.builtin "NoneType.__hash__") == some Value.none)=true then _ else _) Q E s
  rw[aK (by rw[beq_builtin_none];exact oz)]
  refine ax (wpAny_specialOf hT F.slot_NoneType_hash.lookup ?_);show wpAny _ _ (callSpecialIfBoundUnlessNone? .none "__hash__" _ >>= _) Q E s;refine ax (wpAny_callSpecialIfBoundUnlessNone?_slot hT F.slot_NoneType_hash (wpAny_call_entry F.slot_NoneType_hash hT F.entry_NoneType_hash (show wpAny _ _ (do ret (<-mkInt 4238894112)) _ _ s from wpAny_ret_mkInt ?_) (F.args_NoneType_hash_1 _)))
  refine aQ ?_;have e:(if((4238894112:Int) == -1)=true then(-2:Int) else 4238894112)=4238894112:=by decide
  rw[e];simpa only[TK.hash] using h _
theorem N4:∀(n:Nat) {A:cD} {E:aj->aq->Prop} {s:aq} {y:V} {u:aj} {k:TK} {Q:Int->aq->Prop},Inv X aa Z H s->aY X.K H [y] [k.d]->k.ok n=true->RelV y u->A.units+n<cLine->
  (∀t,Q (k.hash X.w) { s with toks:=t})->wpAny (model X.prog X.w) A (pyHash u) Q E s:=by
 intro n
 induction n with
 |zero=>
  intro A E s y u k Q I r ok ru hu h;cases k with
  |tp l=>simp[TK.ok] at ok
  |inl i=>exact OT r ru h
  |inr x=>exact OU r ru h
  |aG=>exact OV r ru h
 |succ n ih=>
  intro A E s y u k Q I r ok ru hu h;cases k with
  |inl i=>exact OT r ru h
  |inr x=>exact OU r ru h
  |aG=>exact OV r ru h
  |tp l=>
   simp only[TK.d] at r;cases r with
   |flat q _=>cases q
   |@tup a ws _ _ _ q i _=>
    cases ru;obtain⟨aA,rv,pl,_⟩:=I.tuple q;have hT:s.TypeIs (.ref a) "tuple":=pl.typeIs;obtain⟨o,g1,g2,nn,g3⟩:=pl;have ok:l.all (TK.ok n)=true:=by simpa only[TK.ok] using ok
    show wpAny _ _ (pyHashByItsType (.ref a)) Q E s;unfold pyHashByItsType;refine ax (wpAny_cRoomFor_or (.inr (by lia)) (ax (wpAny_specialOf hT F.slot_tuple_hash.lookup ?_)))
    dsimp only;rw[aK (by rw[beq_builtin_none];exact oz)]
    refine ax (wpAny_specialOf hT F.slot_tuple_hash.lookup (ax ?_));refine wpAny_callSpecialIfBoundUnlessNone?_slot hT F.slot_tuple_hash (wpAny_call_entry F.slot_tuple_hash hT F.entry_tuple_hash ?_ (F.args_tuple_hash_1 _));show wpAny _ _ (Builtin.Tuple.tupleItemsOf (.ref a) >>= λz=>_) _ _ s
    refine ax (wpAny_tupleItemsOf g1 g3 (ax ?_));rw[<-Array.forIn_toList];refine wpAny_forIn_list _ (λrest (b:Array Int) s'=>∃done left wl t,l=done++left/\aY X.K H wl (TK.dl left)/\Vals wl rest/\b.toList=TK.dy X.w done/\s'={ s with toks:=t}) _ ?_ ?_ _ _ ⟨[],l,ws,s.toks,rfl,i,rv,by simp[TK.dy],rfl⟩
    .rintro x rest b s' ⟨done,left,wl,t,e,r',v',hb,rfl⟩;cases v' with
     |@cons w1 _ wl _ Lr v'=>
      cases left with
      |nil=>have:=r'.length;simp[TK.dl] at this
      |cons k1 left=>
       simp only[TK.dl] at r';have bw:k1.ok n=true:=pK.mp ok k1 (by rw[e];simp)
       have fin:∀t',∃wD xq RZ Bk,l=wD++xq/\aY X.K H RZ (TK.dl xq)/\Vals RZ rest/\(b.push (k1.hash X.w)).toList=TK.dy X.w wD/\({ s with toks:=t'}:aq)={ s with toks:=Bk}:=
        λt'=>⟨done++[k1],left,wl,t',by simp[e],r'.inv.2,v',by rw[MJ,<-hb];simp[TK.dy],rfl⟩
       exact ax (ih (I.tok t) r'.inv.1 bw Lr (by show A.units+1+n<cLine;lia) λt'=>by
        first
         |exact aQ (fin t')
         |exact ax (aQ (aQ (fin t'))))
    .rintro b s' ⟨done,left,wl,t,e,r',v',hb,rfl⟩;cases v';have hl:left=[]:=by
      cases left with
      |nil=>rfl
      |cons _ _=>have:=r'.length;simp[TK.dl] at this
     subst hl;rw[lq] at e;subst e;show wpAny _ _ (retInt (Builtin.Tuple.tupleHashOf b.toList)) _ _ _;rw[hb];refine wpAny_ret_mkInt ?_;have h':∀t,Q (reduceHash (Builtin.Tuple.tupleHashOf (TK.dy X.w l))) { s with toks:=t}:=λt=>by simpa only[TK.hash] using h t
     unfold reduceHash at h';show wpAny _ _ (if(decide (-(2:Int)^63<=Builtin.Tuple.tupleHashOf (TK.dy X.w l))&&decide (Builtin.Tuple.tupleHashOf (TK.dy X.w l)<2^63))=true then _ else _) Q E _
     split
     .rename_i hc
      rw[aP hc] at h';exact aQ (h' _)
     .rename_i hc
      rw[aK hc] at h';exact ax (wpAny_rule (aQ (h' _)))
theorem ND:∀(n:Nat) {A:cD} {E:aj->aq->Prop} {s:aq} {y:V} {u:aj} {k:TK} {Q:Bool->aq->Prop},Inv X aa Z H s->aY X.K H [y] [k.d]->k.ok n=true->RelV y u->Q true s->
  wpAny (model X.prog X.w) A (eqIsQuiet n u) Q E s:=by
 intro n
 induction n with
 |zero=>
  intro A E s y u k Q I r ok ru h;cases k with
  |tp l=>simp[TK.ok] at ok
  |inl i=>simp only[TK.d] at r;cases r with|flat q _=>cases q;obtain⟨t,rfl⟩:=ru;rw[eqIsQuiet_byValue 0 rfl];exact aQ h
  |inr i=>simp only[TK.d] at r;cases r with|flat q _=>cases q;obtain⟨t,rfl⟩:=ru;rw[eqIsQuiet_byValue 0 rfl];exact aQ h
  |aG=>simp only[TK.d] at r;cases r with|flat q _=>cases q;cases ru;rw[eqIsQuiet_byValue 0 rfl];exact aQ h
 |succ n ih=>
  intro A E s y u k Q I r ok ru h;cases k with
  |inl i=>simp only[TK.d] at r;cases r with|flat q _=>cases q;obtain⟨t,rfl⟩:=ru;rw[eqIsQuiet_byValue (n+1) rfl];exact aQ h
  |inr i=>simp only[TK.d] at r;cases r with|flat q _=>cases q;obtain⟨t,rfl⟩:=ru;rw[eqIsQuiet_byValue (n+1) rfl];exact aQ h
  |aG=>simp only[TK.d] at r;cases r with|flat q _=>cases q;cases ru;rw[eqIsQuiet_byValue (n+1) rfl];exact aQ h
  |tp l=>
   simp only[TK.d] at r;cases r with
   |flat q _=>cases q
   |@tup a ws _ _ _ q i _=>
    cases ru;obtain⟨aA,rv,pl,_⟩:=I.tuple q;have hT:s.TypeIs (.ref a) "tuple":=pl.typeIs;obtain⟨o,g1,g2,nn,g3⟩:=pl;have ok:l.all (TK.ok n)=true:=by simpa only[TK.ok] using ok
    unfold eqIsQuiet;refine ax (wpAny_specialOf hT F.slot_tuple_eq.lookup (ax (wpAny_isInstance hT isSubtype_tuple_tuple ?_)));simp only[jR,rD,m_];refine ax (wpAny_seqItems g1 g3 (ax ?_));show wpAny _ _ (forIn aA.toArray _ _) _ _ s;rw[<-Array.forIn_toList];refine wpAny_forIn_list _ (λrest r s'=>r.1=none/\s'=s/\∃left wl,aY X.K H wl (TK.dl left)/\Vals wl rest/\∀x∈left,x.ok n=true) _ ?_ ?_ _ _ ⟨rfl,rfl,l,ws,i,rv,λx m=>pK.mp ok x m⟩
    .rintro v rest r s' ⟨hr,rfl,left,wl,r',v',hk⟩;cases v' with
     |@cons w1 _ wl _ Lr v'=>
      cases left with
      |nil=>have:=r'.length;simp[TK.dl] at this
      |cons k1 left=>
       simp only[TK.dl] at r';refine ax (ih I r'.inv.1 (hk k1 (by simp)) Lr ?_)
       simp only[jR,rD,m_];exact aQ ⟨rfl,rfl,left,wl,r'.inv.2,v',λx m=>hk x (by simp[m])⟩
    .rintro⟨r1,r2⟩ s' ⟨hr,rfl,_⟩;cases(show r1=none from hr);exact aQ h
structure Bw (X:Cx) (A:cD) (E:aj->aq->Prop) (s:aq) (xs:Array DictEntry) (es:List (TK×V×V)) (k:TK) (u:aj):Prop where
 ent:∀(j:Nat) (x:DictEntry),xs[j]?=some x->∃e,es[j]?=some e/\iJ X.w e x/\(∀(R:Bool->aq->Prop),R (decide (e.1=k)) s->wpAny (model X.prog X.w) A (eqBool x.key u) R E s)/\
  ∀(R:Bool->aq->Prop),R true s->wpAny (model X.prog X.w) A (eqIsQuiet 8 x.key) R E s
 ents:∀(j:Nat) (e:TK×V×V),es[j]?=some e->∃x:DictEntry,xs[j]?=some x/\iJ X.w e x
 uniq:∀(i j:Nat) (e f:TK×V×V),es[i]?=some e->es[j]?=some f->e.1=k->f.1=k->i=j
def e1e{A:cD}{E:aj->aq->Prop}{s:aq}{xs:Array DictEntry}{es:List (TK×V×V)}{k:TK}{y:V}{u:aj}(I:Inv X aa Z H s)(g3:Paired (iJ X.w) es xs.toList)(g4:(es.map (·.1)).Nodup)
  (rk:aY X.K H (es.map (·.2.1)) (es.map (·.1.d))) (ry:aY X.K H [y] [k.d]) (ok:k.ok 8=true) (ru:RelV y u) (hu:A.units+8<cLine):Bw X A E s xs es k u where
 ent:=λj x hx=>by
  obtain⟨e,e1,e2⟩:=E3 j g3 (by rw[xV];exact hx)
  obtain⟨v,v1,v2⟩:=rk.get (i:=j) (d:=e.1.d) (by rw[fW,e1];rfl)
  rw[fW,e1] at v1;cases v1;refine⟨e,e1,e2,λR hR=>?_,λR hR=>ND 8 I v2 e2.2.2.2 e2.2.1 hR⟩
  refine(Cr I 8 8 v2 ry (AH 8 e2.2.2.2) (AH 8 ok) e2.2.1 ru hu).1 X.prog X.w E R ?_;rw[Jb];exact hR
 ents:=λj e he=>by
  obtain⟨x,x1,x2⟩:=BZ j g3 he;exact⟨x,by rw[<-xV];exact x1,x2⟩
 uniq:=λi j e f he hf ek fk=>by
  have hi:(es.map (·.1))[i]?=some k:=by rw[fW,he,<-ek];rfl
  have hj:(es.map (·.1))[j]?=some k:=by rw[fW,hf,<-fk];rfl
  exact(List.getElem?_inj (eR.mp hi).1 g4).mp (hi.trans hj.symm)
section
variable{A:cD}{E:aj->aq->Prop}{s:aq}{d:ah}{o:Obj}{xs:Array DictEntry}{ep:Nat}{es:List (TK×V×V)}{k:TK}{u:aj}{Q:ak Nat->aq->Prop}
noncomputable abbrev om(xs:Array DictEntry)(h:Int):List Nat:=placesWithHash xs.size (λi=>xs[i]?.map (·.hash)) h
def mP{h:Int}{i:Nat}:i∈om xs h↔∃x,xs[i]?=some x/\x.hash=h:=by
 unfold om placesWithHash;rw[rB,uA];constructor
 .rintro⟨h1,h2⟩;refine⟨xs[i],uB h1,?_⟩;dsimp only at h2;rw[uB h1] at h2;simpa using h2
 .rintro⟨x,h1,h2⟩;refine⟨(Bq.mp h1).1,?_⟩;dsimp only;rw[h1,En,h2];simp
def UB{h:Int}:(om xs h).Nodup:=List.Nodup.sublist Ma List.nodup_range
def Bw.om(D:Bw X A E s xs es k u){j:Nat}{e:TK×V×V}(he:es[j]?=some e)(ek:e.1=k):j∈om xs (k.hash X.w):=by
 obtain⟨x,x1,x2⟩:=D.ents j e he;exact mP.mpr ⟨x,x1,by rw[x2.1,ek]⟩
def UC(D:Bw X A E s xs es k u)(g1:s.heap.get? d=some o)(g2:o.data=.dict xs ep)
  (q0:(∀(j:Nat) (e:TK×V×V),es[j]?=some e->e.1≠k)->Q none s) (q1:∀(j:Nat) (e:TK×V×V),es[j]?=some e->e.1=k->Q (some j) s) :
  wpAny (model X.prog X.w) A (dictWalkPlain d u (k.hash X.w) xs (om xs (k.hash X.w))) Q E s:=by
 unfold dictWalkPlain;refine ax (wpAny_forIn_list _ (λrest b s'=>s'=s/\b=(none,())/\∃done,om xs (k.hash X.w)=done++rest/\∀j e,j∈done->es[j]?=some e->e.1≠k) _ ?_ ?_ _ _ ⟨rfl,rfl,[],rfl,λ_ _ m=>by cases m⟩)
 .rintro i rest b s' ⟨rfl,rfl,done,hd,uq⟩;obtain⟨x,x1,x2⟩:=mP.mp (show i∈om xs (k.hash X.w) by rw[hd];simp)
  obtain⟨e,e1,e2,eq,_⟩:=D.ent i x x1;simp only[x1];rw[aP (by rw[x2];simp)]
  refine ax (wpAny_dictEpoch g1 g2 (ax (eq _ (ax (wpAny_dictEpoch g1 g2 ?_)))));rw[aK (by simp)]
  by_cases ek:e.1=k
  .rw[rG ek];exact ax (wpAny_rule (aQ (aQ (q1 i e e1 ek))))
  .rw[rH ek];refine ax (wpAny_rule (aQ ⟨rfl,rfl,done++[i],by simp[hd],λj f m hf=>?_⟩))
   rcases cG.mp m with m|m
   .exact uq j f m hf
   .simp at m;subst m;rw[e1] at hf;cases hf;exact ek
 .rintro b s' ⟨rfl,rfl,done,hd,uq⟩;refine aQ (q0 λj e he ek=>uq j e ?_ he ek)
  have:=D.om he ek;rw[hd] at this;simpa using this
def idv(u:aj):aj:=u
def VR(D:Bw X A E s xs es k u)(g1:s.heap.get? d=some o)(g2:o.data=.dict xs ep)(hq:∀(R:Bool->aq->Prop),R true s->wpAny (model X.prog X.w) A (eqIsQuiet 8 u) R E s)
  (hs:∀z t,u=.str z t->k=.inr z) (k9:∀(j:Nat) (x:DictEntry) (e:TK×V×V) z t,xs[j]?=some x->es[j]?=some e->x.key=.str z t->e.1=.inr z) (hh:∀a (j:Nat) (x:DictEntry) (e:TK×V×V),u=.ref a->xs[j]?=some x->es[j]?=some e->x.key=u->e.1=k)
  (q0:(∀(j:Nat) (e:TK×V×V),es[j]?=some e->e.1≠k)->Q none s) (q1:∀(j:Nat) (e:TK×V×V),es[j]?=some e->e.1=k->Q (some j) s) :
  wpAny (model X.prog X.w) A (dictFind d u (k.hash X.w)) Q E s:=by
 have walk:=UC D g1 g2 q0 q1;have stored:∀v∈(om xs (k.hash X.w)).filterMap (λi=>xs[i]?.map (·.key)),∀(R:Bool->aq->Prop),R true s->wpAny (model X.prog X.w) A (eqIsQuiet 8 v) R E s:=by
  intro v hv R hR;obtain⟨i,_,hi⟩:=mW.mp hv;cases hx:xs[i]? with
  |none=>rw[hx] at hi;cases hi
  |some x=>
   rw[hx] at hi;obtain rfl:x.key=v:=by simpa using hi
   obtain⟨e,_,_,_,h⟩:=D.ent i x hx;exact h R hR
 have tell:∀(R:Bool->aq->Prop),R false s->wpAny (model X.prog X.w) A (tableMayTell u ((om xs (k.hash X.w)).filterMap λi=>xs[i]?.map (·.key))) R E s:=by
  intro R hR;unfold tableMayTell;split
  .exact aQ hR
  .refine ax (hq _ ?_);simp only[jR,rD,m_];refine ax (wpAny_forIn_list _ (λrest r s'=>s'=s/\r=(none,())/\∀v∈rest,∀(R:Bool->aq->Prop),R true s->wpAny (model X.prog X.w) A (eqIsQuiet 8 v) R E s) _ ?_ ?_ _ _ ⟨rfl,rfl,stored⟩)
   .rintro x rest r s' ⟨rfl,rfl,hr⟩;refine ax (hr x (by simp) _ ?_)
    simp only[jR,rD,m_];exact aQ ⟨rfl,rfl,λv hv=>hr v (by simp[hv])⟩
   .rintro r s' ⟨rfl,rfl,_⟩;exact aQ hR
 have tell2:∀(R:Bool->aq->Prop),R false s->wpAny (model X.prog X.w) A (if((om xs (k.hash X.w)).filterMap (λi=>xs[i]?.map (·.key)) == [u])=true then pure false else tableMayTell u ((om xs (k.hash X.w)).filterMap λi=>xs[i]?.map (·.key))) R E s:=by
  intro R hR;split
  .exact aQ hR
  .exact tell R hR
 have fin:∀(i:Nat) (x:DictEntry) (e:TK×V×V),xs[i]?=some x->es[i]?=some e->iJ X.w e x->(x.hash == k.hash X.w)=false->e.1≠k:=λi x e _ _ he hf ek=>by
  rw[he.1,ek] at hf;simp at hf
 unfold dictFind
 (try with_reducible refine kP ?_);refine ax (wpAny_dictEntries g1 g2 ?_)
 dsimp only;by_cases jz:((u::(om xs (k.hash X.w)).filterMap λi=>xs[i]?.map (·.key)).all carriedByValue)=true
 .rw[aP jz];split;next z t=>
   split;next Kw=>
    unfold foundByValue;cases hf:xs.findIdx? (λe=>e.key.isStr z) with
    |none=>
     refine aQ (q0 λj e he ek=>?_)
     obtain⟨x,x1,x2⟩:=D.ents j e he;have n1:=Array.findIdx?_eq_none_iff.mp hf x (Array.mem_of_getElem? x1);have e2:=x2.2.1;have n2:isExactStrKey x.key=true:=by
      have h:=Array.all_eq_true.mp Kw j (Bq.mp x1).1;rw[(Bq.mp x1).2] at h;exact h
     cases hk:x.key with
     |str z2 t2=>
      have e3:=k9 j x e z2 t2 x1 he hk;rw[ek,hs z t rfl] at e3;cases e3;rw[hk] at n1;simp[Value.isStr] at n1
     |_=>rw[hk] at n2;cases n2
    |some i=>
     obtain⟨iT,hi,_⟩:=Array.findIdx?_eq_some_iff_getElem.mp hf;obtain⟨e,e1,e2,eq,_⟩:=D.ent i xs[i] (uB iT);have ek:e.1=k:=by
      cases hk:xs[i].key with
      |str z2 t2=>
       rw[hk] at hi;have:z2=z:=by simpa[Value.isStr] using hi
       subst this;rw[k9 i _ e z2 t2 (uB iT) e1 hk,hs z2 t rfl]
      |_=>rw[hk] at hi;simp[Value.isStr] at hi
     simp only[uB iT];refine ax (wpAny_dictEpoch g1 g2 (ax (eq _ (ax (wpAny_dictEpoch g1 g2 ?_)))));rw[aK (by simp),rG ek]
     exact ax (wpAny_rule (aQ (q1 i e e1 ek)))
   next=>exact walk
  next=>exact walk
 .rw[aK jz];have DF:∀z t,u=.str z t->¬(xs.all λe=>isExactStrKey e.key)=true:=by
   intro z t hu hx;refine jz (pK.mpr λv hv=>?_)
   rcases y04.mp hv with rfl|hv
   .rw[hu];rfl
   .obtain⟨i,_,hi⟩:=mW.mp hv;cases uv:xs[i]? with
    |none=>rw[uv] at hi;cases hi
    |some x=>
     rw[uv] at hi;obtain rfl:x.key=v:=by simpa using hi
     have h:=Array.all_eq_true.mp hx i (Bq.mp uv).1;rw[(Bq.mp uv).2] at h;cases hk:x.key with
     |str _ _=>rfl
     |_=>rw[hk] at h;cases h
  have xr:∀a,u=.ref a->¬(xs.any λe=>e.key == u&&e.hash != k.hash X.w)=true:=by
   intro a hu hx;rw[Array.any_eq_true] at hx;obtain⟨i,hi,hc⟩:=hx;rw[jq,beq_iff_eq,bne_iff_ne] at hc;obtain⟨e,e1,e2,_⟩:=D.ent i xs[i] (uB hi);have:=hh a i _ e hu (uB hi) e1 hc.1;exact hc.2 (by rw[e2.1,this])
  have Kj:u=idv u:=rfl;refine(λ(key:?P)=>?main) ?k
  case main=>
   rw(occs:=.pos [1]) [Kj];split
   .rename_i z t hz
    rw[aK (DF z t hz)];rw(occs:=.pos [1]) [Kj];split
    .rename_i a ha
     rw[aK (xr a ha)];exact key
    .exact key
   .rw(occs:=.pos [1]) [Kj];split
    .rename_i a ha
     rw[aK (xr a ha)];exact key
    .exact key
  refine(λ(Dx:?P2)=>?DA) ?k2
  case DA=>
   refine UA ?_ ?_
   .refine ax (aQ ?_);exact Dx
   .refine ax (tell _ ?_);exact Dx
  all_goals (
   show wpAny _ _ (if(false&&_)=true then _ else _) _ _ _
   rw[aK (by rw[Bool.false_and];exact oz)]
   refine ax (wpAny_forIn_list _ (λrest b s'=>s'=s/\∃hit done,b=(none,hit)/\om xs (k.hash X.w)=done++rest/\((hit=none/\∀(j:Nat) (e:TK×V×V),j∈done->es[j]?=some e->e.1≠k)\/∃(j:Nat) (e:TK×V×V),hit=some j/\j∈done/\es[j]?=some e/\e.1=k)) _ ?_ ?_ _ _
    ⟨rfl,none,[],rfl,rfl,.inl ⟨rfl,λ_ _ m=>by cases m⟩⟩)
   .rintro i rest b s' ⟨rfl,hit,done,rfl,hd,hH⟩;obtain⟨x,x1,x2⟩:=mP.mp (show i∈om xs (k.hash X.w) by rw[hd];simp)
    obtain⟨e,e1,e2,eq,_⟩:=D.ent i x x1;have hni:i∉done:=λm=>by
     have:=UB (xs:=xs) (h:=k.hash X.w);rw[hd] at this;exact(iF.mp this).2.2 i m i (by simp) rfl
    simp only[x1];rw[aP (by rw[x2];simp)]
    refine ax (wpAny_dictEpoch g1 g2 (ax (eq _ (ax (wpAny_dictEpoch g1 g2 ?_)))));rw[aK (by simp)]
    by_cases ek:e.1=k
    .rw[rG ek];rcases hH with⟨rfl,uq⟩|⟨j,f,rfl,jd,jf,fk⟩
     .first|rw[aP rfl]|skip
      simp only[Ab,rD,m_];first|refine ax (aQ ?_)|skip
      refine ax (wpAny_rule ?_);split
      .exact aQ (aQ (q1 i e e1 ek))
      .exact aQ ⟨rfl,some i,done++[i],rfl,by simp[hd],.inr ⟨i,e,rfl,by simp,e1,ek⟩⟩
     .exact bW (D.uniq i j e f e1 jf ek fk) λz=>hni (by rw[z];exact jd)
    .rw[rH ek];have nx:(hit=none/\∀(j:Nat) (e:TK×V×V),j∈done++[i]->es[j]?=some e->e.1≠k)\/∃(j:Nat) (e:TK×V×V),hit=some j/\j∈done++[i]/\es[j]?=some e/\e.1=k:=by
      rcases hH with⟨h0,uq⟩|⟨j,f,h0,jd,jf,fk⟩
      .refine .inl ⟨h0,λj f m hf=>?_⟩
       rcases cG.mp m with m|m
       .exact uq j f m hf
       .simp at m;subst m;rw[e1] at hf;cases hf;exact ek
      .exact .inr ⟨j,f,h0,by simp[jd],jf,fk⟩
     simp only[rD,m_];refine ax (wpAny_rule ?_);first|rw[aK (by simp)]|skip
     first
      |exact aQ ⟨rfl,hit,done++[i],rfl,by simp[hd],nx⟩
      |exact ax (aQ (aQ ⟨rfl,hit,done++[i],rfl,by simp[hd],nx⟩))
   .rintro b s' ⟨rfl,hit,done,rfl,hd,hH⟩;rcases hH with⟨rfl,uq⟩|⟨j,f,rfl,jd,jf,fk⟩
    .refine aQ (q0 λj e he ek=>uq j e ?_ he ek)
     have:=D.om he ek;rw[hd] at this;simpa using this
    .exact aQ (q1 j f jf fk))
end
end
variable{k:TK}{y:V}{o:ak V}{Q:aj->aq->Prop}{H':Hp}
noncomputable def jD(es:List (TK×V×V))(k:TK):ak V:=(es.find? λe=>decide (e.1=k)).map (·.2.2)
noncomputable def cU:List (TK×V×V)->TK->V->V->List (TK×V×V)
 |[],k,y,v=>[(k,y,v)]
 |e::es,k,y,v=>if e.1=k then(e.1,e.2.1,v)::es else e::cU es k y v
noncomputable def qR(es:List (TK×V×V))(k:TK)(ep:Nat):Nat:=if(es.any λe=>decide (e.1=k))=true then ep else ep+1
def gA(K:PySem.W.Frag)(H:Hp)(a:ah)(y:V)(r:ak V):Prop:=∃es ep k,H a=some (.dG es ep)/\aY K H (es.map (·.2.1)) (es.map (·.1.d))/\aY K H [y] [k.d]/\k.ok 8=true/\r=jD es k
def yg(K:PySem.W.Frag)(H:Hp)(a:ah)(y v:V)(H':Hp):Prop:=∃es ep k,H a=some (.dG es ep)/\aY K H (es.map (·.2.1)) (es.map (·.1.d))/\aY K H [y] [k.d]/\k.ok 8=true/\es.length<sizeLine/\H'=upd H a (.dG (cU es k y v) (qR es k ep))
def YI{j:TK}(e:k.d=j.d)(h:k.ok 8=true):k=j:=by
 have h1:=Jb k j;rw[<-e,IJ 8 (AH 8 h)] at h1;exact xY h1.symm
section
variable{X:Cx}{aa:List (ah×Obj)}{Z:St}{H:Hp}
def OW{z:Str}{t:Tok}(r:aY X.K H [y] [k.d])(ru:RelV y (.str z t)):k=.inr z:=by
 cases k with
 |inl i=>simp only[TK.d] at r;cases r with|flat q _=>cases q;obtain⟨t,e⟩:=ru;cases e
 |inr i=>simp only[TK.d] at r;cases r with|flat q _=>cases q;obtain⟨t,e⟩:=ru;cases e;rfl
 |tp l=>simp only[TK.d] at r;cases r with|flat q _=>cases q|tup q _ _=>cases ru
 |aG=>simp only[TK.d] at r;cases r with|flat q _=>cases q;cases ru
def OX{a:ah}(ru:RelV y (.ref a)):y=.ref a:=by
 cases y with
 |ref b=>cases ru;rfl
 |aG=>cases ru
 |bl _=>cases ru
 |ty _=>cases ru
 |_=>obtain⟨t,e⟩:=ru;cases e
section
variable{A:cD}{E:aj->aq->Prop}{s:aq}{d:ah}{es:List (TK×V×V)}{k:TK}{y v:V}{u r:aj}
def PY{o:Obj}{xs:Array DictEntry}{ep:Nat}{Q:ak Nat->aq->Prop}(I:Inv X aa Z H s)(g1:s.heap.get? d=some o)(g2:o.data=.dict xs ep)(g3:Paired (iJ X.w) es xs.toList)(g4:(es.map (·.1)).Nodup)
  (rk:aY X.K H (es.map (·.2.1)) (es.map (·.1.d))) (ry:aY X.K H [y] [k.d]) (ok:k.ok 8=true) (ru:RelV y u) (hu:A.units+8<cLine)
  (q0:(∀(j:Nat) (e:TK×V×V),es[j]?=some e->e.1≠k)->Q none s) (q1:∀(j:Nat) (e:TK×V×V),es[j]?=some e->e.1=k->Q (some j) s):wpAny (model X.prog X.w) A (dictFind d u (k.hash X.w)) Q E s:=by
 have at':∀(j:Nat) (x:DictEntry) (e:TK×V×V),xs[j]?=some x->es[j]?=some e->iJ X.w e x/\aY X.K H [e.2.1] [e.1.d]:=by
  intro j x e hx he;obtain⟨e',e1,e2⟩:=E3 j g3 (by rw[xV];exact hx)
  rw[he] at e1;cases e1;obtain⟨v,v1,v2⟩:=rk.get (i:=j) (d:=e.1.d) (by rw[fW,he];rfl)
  simp_all
 refine VR (e1e I g3 g4 rk ry ok ru hu) g1 g2 (λR hR=>ND 8 I ry ok ru hR) (λz t e=>OW ry (by rw[<-e];exact ru)) (λj x e z t hx he hk=>?_) (λa j x e qM hx he hk=>?_) q0 q1
 .obtain⟨g,r'⟩:=at' j x e hx he;exact OW r' (by rw[<-hk];exact g.2.1)
 .obtain⟨g,r'⟩:=at' j x e hx he;have h1:=g.2.1;rw[hk,qM] at h1;rw[qM] at ru;rw[OX h1] at r';rw[OX ru] at ry;exact YI (FE I 8 8 r' ry (AH 8 g.2.2.2) (AH 8 ok)) g.2.2.2
def UD(h:∀(j:Nat) (e:TK×V×V),es[j]?=some e->e.1≠k):jD es k=none:=by
 unfold jD;rw[Eo.mpr λe m z=>?_,Option.map_none]
 obtain⟨j,hj⟩:=Em.mp m;exact h j e hj (xY z)
def UE(hn:(es.map (·.1)).Nodup){j:Nat}{e:TK×V×V}(he:es[j]?=some e)(ek:e.1=k):jD es k=some e.2.2:=by
 induction es generalizing j with
 |nil=>simp at he
 |cons x es ih=>
  rw[bL,qr] at hn;unfold jD;rw[t6];cases j with
  |zero=>
   simp only[List.getElem?_cons_zero,Option.some.injEq] at he;subst he;rw[rG ek];rfl
  |succ j=>
   simp only[List.getElem?_cons_succ] at he;have ne:¬x.1=k:=λz=>hn.1 (by rw[z,<-ek];exact gp.mpr ⟨e,tY he,rfl⟩)
   rw[rH ne];exact ih hn.2 he
def Iw{Q:ak aj->aq->Prop}(hu:A.units+8<cLine)(I:Inv X aa Z H s)(g:gA X.K H d y o)(ru:RelV y u)(h:∀w t,g8 o w->Q w { s with toks:=t}):
  wpAny (model X.prog X.w) A (dictGet d u) Q E s:=by
 obtain⟨es,ep,k,hd,rk,ry,ok,rfl⟩:=g;obtain⟨_,_,ob,xs,g1,_,g2,g3,g4⟩:=(show bp X.prog X.w H s.heap d (.dG es ep) from I.bj d _ hd);unfold dictGet
 (try with_reducible refine kP ?_);refine ax (N4 8 I ry ok ru hu λt=>ax (PY (I.tok t) g1 g2 g3 g4 rk ry ok ru hu (λq0=>?_) (λj e he ek=>?_)))
 .exact aQ (h none t (by rw[UD q0];exact t8))
 .obtain⟨x,x1,x2⟩:=BZ j g3 he;refine ax (wpAny_dictEntries (s:={ s with toks:=t}) g1 g2 (aQ ?_));rw[<-xV,x1];exact h (some x.val) t (by rw[UE g4 he ek];exact x2.2.2.1)
def gA.ty(I:Inv X aa Z H s)(g:gA X.K H d y o):s.TypeIs (.ref d) "dict"/\(d == sysModules)=false:=by
 obtain⟨es,ep,k,hd,_⟩:=g;obtain⟨_,z,ob,xs,g1,g5,_⟩:=(show bp X.prog X.w H s.heap d (.dG es ep) from I.bj d _ hd);exact⟨⟨ob,g1,g5.1⟩,z⟩
def NF(hu:A.units+9<cLine)(I:Inv X aa Z H s)(g:gA X.K H d y (some v))(ru:RelV y u)(h:∀w' s',Inv X aa Z H s'->RelV v w'->Q w' s'):wpAny (model X.prog X.w) A (getItem (.ref d) u) Q E s:=by
 have hT:=(g.ty I).1;unfold getItem
 (try with_reducible refine kP ?_);refine ax (wpAny_sequenceKey hT (by decide) (ax (wpAny_callSpecial?_slot (name:=Str.ofString "__getitem__") hT slot_dict_getitem (wpAny_call_entry slot_dict_getitem hT entry_dict_getitem ?_ (args_dict_getitem _ _)))))
 show wpAny _ _ (dictGet d u >>= _) _ _ s;refine ax (Iw (by show A.units+1+8<cLine;lia) I g ru λw t mT=>?_)
 obtain⟨w',rfl,r'⟩:=g8.some_of mT;exact aQ ⟨w',rfl,aQ (h w' _ (I.tok t) r')⟩
def M_{Q:Bool->aq->Prop}(hu:A.units+9<cLine)(I:Inv X aa Z H s)(g:gA X.K H d y o)(ru:RelV y u)(h:∀s',Inv X aa Z H s'->Q o.isSome s'):wpAny (model X.prog X.w) A (contains (.ref d) u) Q E s:=by
 obtain⟨hT,hd⟩:=g.ty I;unfold contains
 (try with_reducible refine kP ?_);refine ax (wpAny_specialOf hT slot_dict_contains.lookup ?_)
 dsimp only;rw[aK (by rw[beq_builtin_none];exact oz)]
 refine ax (wpAny_callSpecialUnlessNone?_slot (name:=Str.ofString "__contains__") hT slot_dict_contains (wpAny_call_entry slot_dict_contains hT entry_dict_contains ?_ (args_dict_contains _ _)));show wpAny _ _ (dictGet d u >>= _) _ _ s;refine ax (Iw (by show A.units+1+8<cLine;lia) I g ru λw t mT=>?_)
 have e:=mT.qO;cases w with
 |some w=>
  show wpAny _ _ (ret (.bool true)) _ _ _;refine aQ ⟨_,rfl,wpAny_truthy_bool ?_⟩;have:=h _ (I.tok t);rw[e] at this;exact this
 |none=>
  show wpAny _ _ (Builtin.Dict.pendingKey? d u >>= _) _ _ _;refine ax (wpAny_pendingKey_other hd (aQ ⟨_,rfl,wpAny_truthy_bool ?_⟩));have:=h _ (I.tok t);rw[e] at this;exact this
def L5(hu:A.units+9<cLine)(I:Inv X aa Z H s)(g:gA X.K H d y o)(ru:RelV y u)(h:∀s',Inv X aa Z H s'->Q (.bool o.isSome) s'):wpAny (model X.prog X.w) A (compareOp .In u (.ref d)) Q E s:=
 ax (M_ hu I g ru λs' I'=>aQ (h s' I'))
def YL(hu:A.units+9<cLine)(I:Inv X aa Z H s)(g:gA X.K H d y o)(ru:RelV y u)(h:∀s',Inv X aa Z H s'->Q (.bool (!o.isSome)) s'):wpAny (model X.prog X.w) A (compareOp .NotIn u (.ref d)) Q E s:=
 ax (M_ hu I g ru λs' I'=>aQ (h s' I'))
theorem EV(k:TK)(y v:V):∀es:List (TK×V×V),(cU es k y v).length<=es.length+1
 |[]=>by simp[cU]
 |e::es=>by
  unfold cU;have:=EV k y v es;split <;> simp <;> lia
theorem N5:∀{es:List (TK×V×V)},(∀(j:Nat) (e:TK×V×V),es[j]?=some e->e.1≠k)->cU es k y v=es++[(k,y,v)]
 |[],_=>rfl
 |e::es,h=>by
  unfold cU;rw[aK (h 0 e rfl),N5 λj x hx=>h (j+1) x (by simpa using hx)]
  rfl
def YM{w:cg}{xs:List DictEntry}(g3:Paired (iJ w) es xs)(ry:RelV y u)(rv:RelV v r)(ok:k.ok 8=true):Paired (iJ w) (es++[(k,y,v)]) (xs++[⟨k.hash w,u,r⟩]):=by
 induction g3 with
 |nil=>exact .cons ⟨rfl,ry,rv,ok⟩ .nil
 |cons a _ ih=>exact .cons a ih
theorem OY{w:cg}:∀{es:List (TK×V×V)} {xs:List DictEntry} {j:Nat} {e:TK×V×V},Paired (iJ w) es xs->(es.map (·.1)).Nodup->es[j]?=some e->e.1=k->RelV v r->
  Paired (iJ w) (cU es k y v) (xs.modify j λx=>{ x with val:=r})/\(cU es k y v).map (·.1)=es.map (·.1)
 |_,_,_,_,.nil,_,he,_,_=>by simp at he
 |_::es,_::xs,0,e,.cons a t,hn,he,ek,rv=>by
  simp only[List.getElem?_cons_zero,Option.some.injEq] at he;subst he;unfold cU;rw[aP ek];exact⟨.cons ⟨a.1,a.2.1,rv,a.2.2.2⟩ t,rfl⟩
 |x::es,_::xs,j+1,e,.cons a t,hn,he,ek,rv=>by
  simp only[List.getElem?_cons_succ] at he;rw[bL,qr] at hn;have ne:¬x.1=k:=λz=>hn.1 (by rw[z,<-ek];exact gp.mpr ⟨e,tY he,rfl⟩)
  unfold cU;rw[aK ne];have ih:=OY t hn.2 he ek rv;exact⟨.cons a ih.1,by rw[bL,bL,ih.2]⟩
def Iy{Q:Unit->aq->Prop}(hu:A.units+8<cLine)(I:Inv X aa Z H s)(g:yg X.K H d y v H')(ru:RelV y u)(rv:RelV v r)(h:∀s',Inv X aa Z H' s'->Q () s'):
  wpAny (model X.prog X.w) A (dictSet d u r) Q E s:=by
 obtain⟨es,ep,k,hd,rk,ry,ok,hl,rfl⟩:=g;obtain⟨_,z,ob,xs,g1,g5,g2,g3,g4⟩:=(show bp X.prog X.w H s.heap d (.dG es ep) from I.bj d _ hd);have hz:xs.size<=sizeLine:=by have:=Paired.length g3;simp at this;lia
 have GD:(cU es k y v).length<=sizeLine:=by have:=EV k y v es;lia
 unfold dictSet
 (try with_reducible refine kP ?_);refine ax (N4 8 I ry ok ru hu λt=>?_)
 unfold dictSetHashed
 (try with_reducible refine kP ?_);refine ax (PY (I.tok t) g1 g2 g3 g4 rk ry ok ru hu (λq0=>?_) (λj e he ek=>?_))
 .have QY:cU es k y v=es++[(k,y,v)]:=N5 q0;have JR:qR es k ep=ep+1:=aK (by
   rw[Mb];rintro⟨e,m,q⟩;obtain⟨j,hj⟩:=Em.mp m;exact q0 j e hj (xY q))
  rw[JR] at h;refine ax (wpAny_rule (wpAny_updateDictKeys (hz:=hz) (s:={ s with toks:=t}) g1 g2 (h _ ?_)));refine I_ (I.tok t) (by rw[hd];exact t8) (Heap.SameBut.update ..) ⟨_,rC _ g1 (Obj.isFreed_of_dict (Obj.data_mapDictKeys g2 _))⟩ ⟨GD,z,_,_,rC _ g1 (Obj.isFreed_of_dict (Obj.data_mapDictKeys g2 _)),g5.mapDictKeys _,Obj.data_mapDictKeys g2 _,?_,?_⟩
  .rw[QY,Array.toList_push];exact YM g3 ru rv ok
  .rw[QY,c_,iF];refine⟨g4,by simp,λa m b m' e=>?_⟩
   simp at m';subst m';obtain⟨x,mx,rfl⟩:=gp.mp m;obtain⟨j,hj⟩:=Em.mp mx;exact q0 j x hj e
 .have em:=OY (y:=y) g3 g4 he ek rv;have JR:qR es k ep=ep:=aP (Mb.mpr ⟨e,tY he,rG ek⟩);rw[JR] at h;refine ax (wpAny_rule (ax (wpAny_updateDict (s:={ s with toks:=t}) g1 g2 (wpAny_point (h _ ?_)))));refine I_ (I.tok t) (by rw[hd];exact t8) (Heap.SameBut.update ..) ⟨_,rC _ g1 (Obj.isFreed_of_dict (Obj.data_mapDict g2 _))⟩ ⟨GD,z,_,_,rC _ g1 (Obj.isFreed_of_dict (Obj.data_mapDict g2 _)),g5.mapDict _,Obj.data_mapDict g2 _,?_,?_⟩
  all_goals simp_all
def UG{Q:Unit->aq->Prop}(hu:A.units+9<cLine)(I:Inv X aa Z H s)(g:yg X.K H d y v H')(ru:RelV y u)(rv:RelV v r)(h:∀s',Inv X aa Z H' s'->Q () s'):
  wpAny (model X.prog X.w) A (setItem (.ref d) u r) Q E s:=by
 have hT:s.TypeIs (.ref d) "dict":=by
  obtain⟨es,ep,k,hd,rk,ry,ok,_⟩:=g;exact(gA.ty I ⟨es,ep,k,hd,rk,ry,ok,rfl⟩).1
 unfold setItem
 (try with_reducible refine kP ?_);refine ax (wpAny_sequenceKey hT (by decide) (ax (wpAny_callSpecial?_slot (name:=Str.ofString "__setitem__") hT slot_dict_setitem (wpAny_call_entry slot_dict_setitem hT entry_dict_setitem ?_ (args_dict_setitem _ _ _)))))
 show wpAny _ _ (Builtin.Dict.notOrdered "__setitem__" ⟨[.ref d,u,r],[]⟩ >>= _) _ _ s;refine ax (wpAny_notOrdered_dict hT ?_);show wpAny _ _ (dictSet d u r >>= λz=>_) _ _ s
 exact ax (Iy (by show A.units+1+8<cLine;lia) I g ru rv λs' I'=>aQ ⟨.none,rfl,aQ (h s' I')⟩)
def e1f(hu:A.units+9<cLine)(I:Inv X aa Z H s)(g:gA X.K H d y o)(ru:RelV y u)(h:∀w' s',Inv X aa Z H s'->RelV (o.getD .aG) w'->Q w' s'):
  wpAny (model X.prog X.w) A (call (.builtin "dict.get") [.ref d,u]) Q E s:=by
 obtain⟨hT,hd⟩:=g.ty I;refine wpAny_call_entry PySem.F.slot_dict_get hT PySem.F.entry_dict_get ?_ (PySem.F.args_dict_get_2 _ _);show wpAny _ _ (dictGet d u >>= _) _ _ s;refine ax (Iw (by show A.units+1+8<cLine;lia) I g ru λw t mT=>?_)
 cases o with
 |none=>
  cases w with
  |none=>
   show wpAny _ _ (Builtin.Dict.missed d u >>= _) _ _ _;exact ax (wpAny_missed_other hd (aQ ⟨.none,rfl,h .none _ (I.tok t) rfl⟩))
  |some w=>exact mT.elim
 |some v'=>
  cases w with
  |none=>exact mT.elim
  |some w=>exact aQ ⟨w,rfl,h w _ (I.tok t) mT⟩
end
end
section
variable{X:Cx}
def tL(K:PySem.W.Frag):R2:=λx y H Q=>∃l b xs zs,x=.ref l/\y=.ref b/\cz K H l xs/\cz K H b zs/\xs.length+zs.length<=sizeLine/\∀p,H p=none->Q (.ref p) (upd H p (.lst (xs++zs)))
def YN:dm X (binaryOp .Add) (tL X.K):=by
 intro aa s Z H x y v u Q I rx ry h;obtain⟨l,b,xs,zs,rfl,rfl,hH,hB,hz,q⟩:=h;cases rx;cases ry;obtain⟨aA,r,pl,_⟩:=I.list hH;obtain⟨iB,r2,DI,_⟩:=I.list hB;have hl:=r.length;have GD:=r2.length;obtain⟨⟨cls,dd,data,sl⟩,ho,hc,n,hd⟩:=id pl.isList;obtain⟨⟨cls2,dd2,data2,G4⟩,Rk,A9,n2,hd2⟩:=id DI.isList;simp only at hc hd A9 hd2;subst hc hd A9 hd2;have ea:aA.toArray++iB.toArray=(aA++iB).toArray:=by simp
 refine concat_meets ⟨_,ho,rfl⟩ ⟨_,Rk,rfl⟩ noFill_list_add seq_list_add PySem.F.slot_list_add PySem.F.entry_list_add (PySem.F.args_list_add_2 _ _) (list_addW l b aA.toArray iB.toArray n n2 dd dd2 sl G4 (by simp only[cZ];lia)) ⟨ho,Rk,?_⟩
 rw[ea];exact⟨.ref _,_,I.K1 (t':=s.toks) (r.append r2) (by rw[cP];lia),rfl,q _ I.fresh⟩
def VS(K:PySem.W.Frag)(hK:X.K=K:=by rfl):dm X (binaryOp .Add) (tL K):=hK ▸ YN
end
variable{n:Nat}
instance (z:Str) (n:Int):Decidable (MulOk z n):=by unfold MulOk;infer_instance
abbrev rd(x:D):Rv:=.v (.d x)
section
variable{K:PySem.W.Frag}{k:Kn}{H:Hp}{x:V}{xs:List V}{d e:D}{vs:List V}{ds:List D}
def ag.uw(h:ag K k vs ds)(ok:ds.all (dh n)=true):ag K ⟨k.F,[],[]⟩ vs ds:=by
 induction h generalizing n with
 |nil=>exact .nil
 |flat e _ ih=>rw[t5,jq] at ok;exact .flat e (ih ok.2)
 |ref _ _ _=>rw[t5,jq] at ok;obtain⟨ok,_⟩:=ok;cases n <;> cases ok
 |lst e _ _ i1 i2=>
  rw[t5,jq] at ok;obtain⟨m,rfl,o⟩:=yu ok.1;exact .lst e (i1 o) (i2 ok.2)
 |tup e _ _ i1 i2=>
  rw[t5,jq] at ok;obtain⟨m,rfl,o⟩:=yv ok.1;exact .tup e (i1 o) (i2 ok.2)
 |ar _ _ _ _ _ _ _ _=>rw[t5,jq] at ok;obtain⟨ok,_⟩:=ok;cases n <;> cases ok
theorem Top.uw{n:Nat}(h:Top K k H x d)(le:aw k.F H)(ok:dh n d=true):aY K H [x] [d]:=ag.uw (k:=k.all H) (n:=n) (h.rep le) (by rw[t5,ok];rfl)
def Top.RM(r:ag K k vs ds)(le:aw k.F H)(ok:ds.all (dh n)=true):aY K H vs ds:=ag.uw (k:=k.all H) (n:=n) (r.all le) ok
mutual
theorem sW:∀{v:V} (j:TK),ag K k [v] [j.d]->ag K ⟨k.F,[],[]⟩ [v] [j.d]
 |_,.inl i,h=>by simp only[TK.d] at h ⊢;rw[h.aW rfl];exact .flat rfl .nil
 |_,.inr x,h=>by simp only[TK.d] at h ⊢;rw[h.aW rfl];exact .flat rfl .nil
 |_,.aG,h=>by simp only[TK.d] at h ⊢;rw[h.aW rfl];exact .flat rfl .nil
 |_,.tp l,h=>by
  simp only[TK.d] at h ⊢;obtain⟨a,ws,rfl,q,r⟩:=h.isTup;exact .tup q (sX l r) .nil
theorem sX:∀{vs:List V} (l:List TK),ag K k vs (TK.dl l)->ag K ⟨k.F,[],[]⟩ vs (TK.dl l)
 |_,[],h=>by simp only[TK.dl] at h ⊢;rw[h.fH];exact .nil
 |_,j::l,h=>by
  simp only[TK.dl] at h ⊢;obtain⟨w,us,rfl,h1,h2⟩:=h.bU;exact .cons (sW j h1) (sX l h2)
end
def OZ{es:List (TK×V×V)}{kvs:List (TK×D)}(q:es.map (·.1)=kvs.map (·.1))(r:ag K k (es.map (·.2.1)) (kvs.map (·.1.d)))(le:aw k.F H):aY K H (es.map (·.2.1)) (es.map (·.1.d)):=by
 have e1:kvs.map (·.1.d)=TK.dl (kvs.map (·.1)):=by rw[FV,jS];rfl
 have e2:es.map (·.1.d)=TK.dl (es.map (·.1)):=by rw[FV,jS];rfl
 rw[e1,<-q] at r;rw[e2];exact sX (k:=k.all H) _ (r.all le)
def O0(h:Paired (Top K k H) xs [d]):∃x,xs=[x]/\Top K k H x d:=by
 cases h with
 |cons r t=>cases t;exact⟨_,rfl,r⟩
def YO(h:Paired (Top K k H) xs [d,e]):∃x y,xs=[x,y]/\Top K k H x d/\Top K k H y e:=by
 cases h with
 |cons r t=>obtain⟨y,rfl,r'⟩:=O0 t;exact⟨_,_,rfl,r,r'⟩
end
noncomputable def o1(f:D->ak Rv):List D->ak Rv
 |[a]=>f a
 |_=>none
noncomputable def o2(f:D->D->ak Rv):List D->ak Rv
 |[a,b]=>f a b
 |_=>none
section
variable{X:Cx}{K:PySem.W.Frag}
def tF{r:List V->Hp->VK->Prop}{f:D->ak Rv}(h:∀k H x a y Q,aw k.F H->Top K k H x a->f a=some y->kU K k H y Q->r [x] H Q):bP K r (o1 f):=λk H xs ds y Q le t e res=>by
 unfold o1 at e;split at e
 .obtain⟨x,rfl,t1⟩:=O0 t;exact h k H x _ y Q le t1 e res
 .cases e
def vA{r:List V->Hp->VK->Prop}{f:D->D->ak Rv}(h:∀k H x z a b y Q,aw k.F H->Top K k H x a->Top K k H z b->f a b=some y->kU K k H y Q->r [x,z] H Q):bP K r (o2 f):=λk H xs ds y Q le t e res=>by
 unfold o2 at e;split at e
 .obtain⟨x,z,rfl,t1,t2⟩:=YO t;exact h k H x z _ _ y Q le t1 t2 e res
 .cases e
def xt{r:R2}{f:D->D->ak Rv}(h:∀k H x z a b y Q,aw k.F H->Top K k H x a->Top K k H z b->f a b=some y->kU K k H y Q->r x z H Q):bP K (m8 r) (o2 f):=vA λk H x z a b y Q le t1 t2 e res=>⟨x,z,rfl,h k H x z a b y Q le t1 t2 e res⟩
noncomputable def uV:D->D->ak Rv
 |.int i,.int j=>some (rd (.int (i+j)))
 |.str x,.str y=>if x.length+y.length<=1000000 then some (rd (.str (x++y))) else none
 |.lst xs,.lst ys=>if xs.length+ys.length<=1000000 then some (.o (.lst (xs++ys))) else none
 |_,_=>none
def xy(K:PySem.W.Frag):R2:=λx y H Q=>qi (λi j=>.int (i+j)) x y H Q\/(∃i j,x=.str i/\y=.str j/\i.length+j.length<=sizeLine/\Q (.str (i++j)) H)\/tL K x y H Q
def YQ(K:PySem.W.Frag)(hK:X.K=K):dm X (binaryOp .Add) (xy K):=zD.or (pB.or (VS K hK))
def e1g:bP K (m8 (xy K)) (o2 uV):=xt λk H x z a b y Q le t1 t2 e res=>by
 unfold uV at e;split at e
 .cases e;cases t1.flat rfl;cases t2.flat rfl;exact .inl ⟨_,_,rfl,rfl,res.flat le rfl⟩
 .split at e
  .cases e;cases t1.flat rfl;cases t2.flat rfl;exact .inr (.inl ⟨_,_,rfl,rfl,ml (by assumption),res.flat le rfl⟩)
  .cases e
 .split at e
  .cases e;obtain⟨a1,ws1,rfl,s1,r1⟩:=t1.lst le;obtain⟨a2,Eh,rfl,s2,r2⟩:=t2.lst le;exact .inr (.inr ⟨a1,a2,ws1,Eh,rfl,rfl,s1,s2,ml (by rw[r1.length,r2.length];assumption),λp hp=>res.lst le (r1.append r2) hp⟩)
  .cases e
 .cases e
noncomputable def eU(C:Int->Int->Bool)(f:Int->Int->D):D->D->ak Rv
 |.int i,.int j=>if C i j=true then some (rd (f i j)) else none
 |_,_=>none
def FW{r:R2}{C:Int->Int->Bool}{f:Int->Int->D}{g:Int->Int->V}(hf:∀i j,wq (f i j)=some (g i j))(hr:∀i j H Q,C i j=true->Q (g i j) H->r (.int i) (.int j) H Q):bP K (m8 r) (o2 (eU C f)):=xt λk H x z a b y Q le t1 t2 e res=>by
 unfold eU at e;split at e
 .split at e
  .cases e;cases t1.flat rfl;cases t2.flat rfl;exact hr _ _ _ _ (by assumption) (res.flat le (hf _ _))
  .cases e
 .cases e
abbrev uz:Int->Int->Bool:=λ_ _=>true
def e1h:bP K (m8 (qi λi j=>.int (i - j))) (o2 (eU uz λi j=>.int (i - j))):=FW (λ_ _=>rfl) λ_ _ _ _ _ q=>⟨_,_,rfl,rfl,q⟩
def YR:bP K (m8 (rI xZ λi j=>.int (i / j))) (o2 (eU (λ_ j=>decide (0<j/\j<1073741824)) λi j=>.int (i / j))):=FW (λ_ _=>rfl) λi j _ _ c q=>⟨_,_,rfl,rfl,show xZ i j from xY (p:=0<j/\j<1073741824) c,q⟩
def e1i:bP K (m8 (rI (λ_ j=>0<j) λi j=>.int (i%j))) (o2 (eU (λ_ j=>decide (0<j)) λi j=>.int (i%j))):=FW (λ_ _=>rfl) λ_ _ _ _ c q=>⟨_,_,rfl,rfl,xY c,q⟩
def Jq{f:Int->Int->Bool}:bP K (m8 (qi λi j=>.bl (f i j))) (o2 (eU uz λi j=>.bl (f i j))):=FW (λ_ _=>rfl) λ_ _ _ _ _ q=>⟨_,_,rfl,rfl,q⟩
noncomputable def vy:D->D->ak Rv
 |.int i,.int j=>if(-(2^64)<i/\i<2^64)\/(-(2^64)<j/\j<2^64) then some (rd (.int (i*j))) else none
 |.str z,.int j=>if MulOk z j then some (rd (.str (Txt.mul z j))) else none
 |_,_=>none
def xF:R2:=λx y H Q=>rI uE (λi j=>.int (i*j)) x y H Q\/∃z n,x=.str z/\y=.int n/\MulOk z n/\Q (.str (Txt.mul z n)) H
def YS:dm X (binaryOp .Mult) xF:=zF.or Tj
def e1j:bP K (m8 xF) (o2 vy):=xt λk H x z a b y Q le t1 t2 e res=>by
 unfold vy at e;split at e
 .split at e
  .cases e;cases t1.flat rfl;cases t2.flat rfl;exact .inl ⟨_,_,rfl,rfl,by assumption,res.flat le rfl⟩
  .cases e
 .split at e
  .cases e;cases t1.flat rfl;cases t2.flat rfl;exact .inr ⟨_,_,rfl,rfl,by assumption,res.flat le rfl⟩
  .cases e
 .cases e
noncomputable def s_:D->ak Rv
 |.int i=>some (rd (.int (-i)))
 |_=>none
def e1k:bP K (Ll (rU λi=>.int (-i))) (o1 s_):=tF λk H x a y Q le t e res=>by
 unfold s_ at e;split at e
 .cases e;cases t.flat rfl;exact⟨_,rfl,_,rfl,res.flat le rfl⟩
 .cases e
end
section
variable{X:Cx}{aa:List (ah×Obj)}{s:aq}{Z:St}{H:Hp}
def e1l(I:Inv X aa Z H s){n m:Nat}{A:cD}{x y:V}{u v:aj}{d e:D}(rd:aY X.K H [x] [d])(re:aY X.K H [y] [e])(od:dh n d=true)(oe:dh m e=true)(ru:RelV x u)(rv:RelV y v)(hu:A.units+n<cLine):SeqAt.RcNeAt A s u v (!aR d e):=by
 have cy:A.units<cLine:=by lia
 have s1:=FU I rd ru od;have s2:=FU I re rv oe;cases s1 with
 |none=>
  cases s2 with
  |none=>
   simp only[aR];exact SeqAt.RcNeAt.none_none
  |bool a2=>
   simp only[aR];exact SeqAt.RcNeAt.none_bool a2
  |int a2 t2=>
   simp only[aR];exact SeqAt.RcNeAt.none_int a2 t2
  |str a2 t2=>
   simp only[aR];exact SeqAt.RcNeAt.none_str a2 t2
  |list l2 v2 r2=>
   simp only[aR];exact SeqAt.RcNeAt.none_list l2 cy
  |tuple l2 v2 r2=>
   simp only[aR];exact SeqAt.RcNeAt.none_tuple l2 cy
 |bool a1=>
  cases s2 with
  |none=>
   simp only[aR];exact SeqAt.RcNeAt.bool_none a1
  |bool a2=>
   simp only[aR];exact SeqAt.RcNeAt.bool_bool a1 a2
  |int a2 t2=>
   simp only[aR];exact SeqAt.RcNeAt.bool_int a1 a2 t2
  |str a2 t2=>
   simp only[aR];exact SeqAt.RcNeAt.bool_str a1 a2 t2
  |list l2 v2 r2=>
   simp only[aR];exact SeqAt.RcNeAt.bool_list a1 l2 cy
  |tuple l2 v2 r2=>
   simp only[aR];exact SeqAt.RcNeAt.bool_tuple a1 l2 cy
 |int a1 t1=>
  cases s2 with
  |none=>
   simp only[aR];exact SeqAt.RcNeAt.int_none a1 t1
  |bool a2=>
   simp only[aR];exact SeqAt.RcNeAt.int_bool a1 t1 a2
  |int a2 t2=>
   simp only[aR];exact SeqAt.RcNeAt.int_int a1 t1 a2 t2
  |str a2 t2=>
   simp only[aR];exact SeqAt.RcNeAt.int_str a1 t1 a2 t2
  |list l2 v2 r2=>
   simp only[aR];exact SeqAt.RcNeAt.int_list a1 t1 l2 cy
  |tuple l2 v2 r2=>
   simp only[aR];exact SeqAt.RcNeAt.int_tuple a1 t1 l2 cy
 |str a1 t1=>
  cases s2 with
  |none=>
   simp only[aR];exact SeqAt.RcNeAt.str_none a1 t1
  |bool a2=>
   simp only[aR];exact SeqAt.RcNeAt.str_bool a1 t1 a2
  |int a2 t2=>
   simp only[aR];exact SeqAt.RcNeAt.str_int a1 t1 a2 t2
  |str a2 t2=>
   simp only[aR];exact SeqAt.RcNeAt.str_str a1 t1 a2 t2
  |list l2 v2 r2=>
   simp only[aR];exact SeqAt.RcNeAt.str_list a1 t1 l2 cy
  |tuple l2 v2 r2=>
   simp only[aR];exact SeqAt.RcNeAt.str_tuple a1 t1 l2 cy
 |list l1 v1 r1=>
  cases s2 with
  |none=>
   simp only[aR];exact SeqAt.RcNeAt.list_none l1 cy
  |bool a2=>
   simp only[aR];exact SeqAt.RcNeAt.list_bool a2 l1 cy
  |int a2 t2=>
   simp only[aR];exact SeqAt.RcNeAt.list_int a2 t2 l1 cy
  |str a2 t2=>
   simp only[aR];exact SeqAt.RcNeAt.list_str a2 t2 l1 cy
  |list l2 v2 r2=>
   rename_i a aA ws es b iB Eh lL
   obtain⟨n',rfl,tm⟩:=yu od;obtain⟨m',rfl,tq⟩:=yu oe;have la:=v1.length;have lb:=v2.length;have Bd:=r1.length;have KW:=r2.length;simp only[aR];by_cases hl:es.length=lL.length
   .rw[B7 aA.toArray.size (by simp only[cZ];lia) (by simp only[cZ];lia)]
    refine SeqAt.RcNeAt.lists (A:=A) l1 l2 (by simp only[cZ];lia) cy λj h1 h2=>?_
    obtain⟨x1,q1,q2,q3⟩:=wt r1 v1 h1;obtain⟨y1,p1,p2,p3⟩:=wt r2 v2 h2;exact(Cr I n' m' q2 p2 (wg tm q3) (wg tq p3) q1 p1 (by show A.units+1+n'<cLine;lia)).1
   .rw[B6 hl];exact SeqAt.RcNeAt.lists_lengths (A:=A) l1 l2 (by simp only[cZ,bne_iff_ne,ne_eq];lia) cy
  |tuple l2 v2 r2=>
   simp only[aR];exact SeqAt.RcNeAt.list_tuple l1 l2 cy
 |tuple l1 v1 r1=>
  cases s2 with
  |none=>
   simp only[aR];exact SeqAt.RcNeAt.tuple_none l1 cy
  |bool a2=>
   simp only[aR];exact SeqAt.RcNeAt.tuple_bool a2 l1 cy
  |int a2 t2=>
   simp only[aR];exact SeqAt.RcNeAt.tuple_int a2 t2 l1 cy
  |str a2 t2=>
   simp only[aR];exact SeqAt.RcNeAt.tuple_str a2 t2 l1 cy
  |list l2 v2 r2=>
   simp only[aR];exact SeqAt.RcNeAt.tuple_list l1 l2 cy
  |tuple l2 v2 r2=>
   rename_i a aA ws es b iB Eh lL
   obtain⟨n',rfl,tm⟩:=yv od;obtain⟨m',rfl,tq⟩:=yv oe;have la:=v1.length;have lb:=v2.length;have Bd:=r1.length;have KW:=r2.length;have z:=SeqAt.RcNeAt.tuples (A:=A) (e:=λj=>aR (es.getD j .aG) (lL.getD j .aG)) l1 l2 cy λj h1 h2=>by
    obtain⟨x1,q1,q2,q3⟩:=wt r1 v1 h1;obtain⟨y1,p1,p2,p3⟩:=wt r2 v2 h2;exact(Cr I n' m' q2 p2 (wg tm q3) (wg tq p3) q1 p1 (by show A.units+1+n'<cLine;lia)).1
   simp only[aR];by_cases hl:es.length=lL.length
   .rw[B7 aA.toArray.size (by simp only[cZ];lia) (by simp only[cZ];lia)]
    have e1:iB.toArray.size=aA.toArray.size:=by simp only[cZ];lia
    rw[e1,Nat.min_self,ju,Bool.and_true] at z;exact z
   .rw[B6 hl];have e1:(aA.toArray.size == iB.toArray.size)=false:=by rw[oB];simp only[cZ];lia
    rw[e1,Bool.and_false] at z;exact z
end
section
variable{X:Cx}{K:PySem.W.Frag}
def DS(K:PySem.W.Frag):R2:=λx y H Q=>∃d e,aY K H [x] [d]/\aY K H [y] [e]/\dh 40 d=true/\dh 40 e=true/\Q (.bl (!aR d e)) H
def e1m(K:PySem.W.Frag)(hu:X.A.units+40<cLine)(hK:X.K=K:=by rfl):dm X (compareOp .NotEq) (DS K):=by
 subst hK;intro aa s Z H x y v u Q I rx ry h;obtain⟨d,e,r1,r2,o1,o2,q⟩:=h;exact(e1l I r1 r2 o1 o2 rx ry hu) X.prog X.w _ _ ⟨.bl _,H,I,rfl,q⟩
end
end L2
namespace L2
open PySem PySem.Spec PySem.W PySem.Calls PyProof.Rows
variable{P:cS}{w:cg}{o:Expr}{to:TE}{apos bI pos:Pos}{elts:List Expr}{x1:Nat}
def g9(es:List (TK×V×V)):Prop:=∀e∈es,∃x,e.1=.inr x/\e.2.1=.str x
def YT{es:List (TK×V×V)}{xs:List DictEntry}(p:Paired (iJ w) es xs)(h:g9 es):∃kvs:List (Str×aj),(∀x∈xs,∃k,(strKind P w).is k x.key=true/\x.hash=(strKind P w).hash k)/\Pairs (strKind P w) xs kvs/\kvs.map (λp=>TK.inr p.1)=es.map (·.1)/\Vals (es.map (·.2.2)) (kvs.map (·.2)):=by
 induction p with
 |nil=>exact⟨[],by simp,.nil,rfl,.nil⟩
 |@cons e x es xs r t ih=>
  obtain⟨kvs,h1,h2,h3,h4⟩:=ih λe m=>h e (pH _ m)
  obtain⟨z,e1,e2⟩:=h e (qW ..);obtain⟨r1,r2,r3,r4⟩:=r;rw[e2] at r2;obtain⟨t',r2⟩:=r2;have hk:(strKind P w).is z x.key=true:=by rw[r2];show Value.isStrOf z (.str z t')=true;simp[Value.isStrOf]
  refine⟨(z,x.val)::kvs,λy m=>?_,.cons hk rfl h2,by rw[bL,bL,h3,e1],.cons r3 h4⟩
  rcases y04.mp m with rfl|m
  .exact⟨z,hk,by rw[r1,e1];rfl⟩
  .exact h1 y m
section
variable{X:Cx}{aa:List (ah×Obj)}{Z:St}{H:Hp}{s:aq}{d:ah}{es:List (TK×V×V)}{ep:Nat}
def AI(I:Inv X aa Z H s)(hd:H d=some (.dG es ep))(ht:g9 es):∃kvs,s.heap.DictAt (strKind X.prog X.w) d kvs ep/\Vals (es.map (·.2.2)) (kvs.map (·.2))/\kvs.map (λp=>TK.inr p.1)=es.map (·.1)/\kvs.length<=sizeLine/\(d == sysModules)=false:=by
 obtain⟨hz,lo,ob,xs,g1,g5,g2,g3,g4⟩:=(show bp X.prog X.w H s.heap d (.dG es ep) from I.bj d _ hd);obtain⟨kvs,h1,h2,h3,h4⟩:=YT (P:=X.prog) g3 ht;refine⟨kvs,⟨ob,xs,g1,g5,g2,λx m=>h1 x (L7.mpr m),h2,?_⟩,h4,h3,?_,lo⟩
 .rw[<-h3] at g4;rw[show(λp:Str×aj=>TK.inr p.1)=TK.inr∘(·.1) from rfl,<-jS] at g4
  exact List.Pairwise.of_map _ (λa b ne z=>ne (by rw[z])) g4
 .have:=congrArg List.length h3;rw[bc,bc] at this;lia
def FF(I:Inv X aa Z H s)(hd:H d=some (.dG es ep)):s.TypeIs (.ref d) "dict"/\∀a,Value.ref d=.ref a->∃ob,s.heap.get? a=some ob/\ob.dict=none:=
 PR (x:=.ref d) I rfl (.inr (.inr (.inl ⟨rfl,.inr (.inr ⟨es,ep,hd⟩)⟩)))
def To{ys:List V}{kvs:List (Str×aj)}{aU:Array aj}(rv:Vals ys (kvs.map (·.2)))(h:ItemsOf (λi v=>∃k,kvs[i]?=some (k,v)) aU kvs.length):Vals ys aU.toList:=by
 have e:aU.toList=kvs.map (·.2):=by
  apply Mc;intro i;by_cases hi:i<aU.toList.length
  .have y8:i<aU.size:=by simpa using hi
   obtain⟨k,hk⟩:=h.2 i aU[i] (uB y8)
   simp_all
  .rw[Ac (by lia),Ac (by rw[bc];have:=h.1;simp at hi;lia)]
 rw[e];exact rv
def e1n(to:TE):TE:=λZ H Q=>to Z H λx H1=>∃d es ep,x=.ref d/\H1 d=some (.dG es ep)/\g9 es/\∀q,H1 q=none->Q (.ref q) (upd H1 q (.lst (es.map (·.2.2))))
def VT{p:Pos}(C8:Gl X "list")(Kp:X.mg "list"=none)(ho:PE X o to)(hc:X.calm=true)
  (hs:starEach [.Call (.Attribute o "values" apos) [] [] bI] X.env=[(false,eval (.Call (.Attribute o "values" apos) [] [] bI) X.env)]:=by rfl)
  (dW:attributeBase o "values" X.env (eval o X.env)=eval o X.env:=by rfl) (dX:(apos.endLine == bI.line)=true:=by rfl):PE X (.Call (.Name "list" p) [.Call (.Attribute o "values" apos) [] [] bI] [] pos) (e1n to):=by
 intro aa s Z H Q I h;refine Call_ (wo I C8 Kp pU (PyProof.Rows.callWith_type1 ?_ hs rfl));rw[hs];show wpAny _ _ (spliced ((false,eval (.Call (.Attribute o "values" apos) [] [] bI) X.env)::[])) _ _ s;refine Calls.spliced_cons (wpAny_Call_method0_late dW dX (bA (ho aa s Z H _ I h) λv s1 hh=>?_))
 obtain⟨x,H1,I1,r1,d,es,ep,rfl,hd,ht,q⟩:=hh;cases r1;obtain⟨t1,t2⟩:=FF I1 hd;obtain⟨kvs,D1,D2,D3,D4,lo⟩:=AI I1 hd ht;refine⟨"dict","dict.values",PySem.F.plainAttrs_dict,PySem.F.slot_dict_values,PySem.F.type_dict_values,t1,t2,Calls.callWith_builtin rfl (PySem.evalArgs_none ?_)⟩;refine call_meetsIn PySem.F.slot_dict_values t1 PySem.F.entry_dict_values (PySem.F.args_dict_values_1 _) (meets_dict_values (strKind X.prog X.w) d lo) ⟨⟨kvs,D1.dictOf⟩,?_⟩;refine Calls.spliced_nil ?_;refine kdl_call (kdl_values (knd:=strKind X.prog X.w) (r:=s1.heap.objs.size) (d:=d) (kvs:=kvs) (ep:=ep)) (I1.ok.hd hc) ⟨⟨_,jr _ rfl,rfl,rfl⟩,D1.push _⟩ D4 λh' tk aU c kp hg hi=>?_
 have sz:(s1.heap.push { cls:=.type "dict_values",data:=.fields #[.ref d]}).objs.size=s1.heap.objs.size+1:=by simp[Heap.push]
 rw[show({ s1 with heap:=s1.heap.push { cls:=.type "dict_values",data:=.fields #[.ref d]}}:aq).heap.objs.size=s1.heap.objs.size+1 from sz] at hg ⊢;have rv:=To D2 hi;refine⟨.ref (s1.heap.objs.size+1),_,I1.laid (t':=tk) (λb o e=>kp b o (cO _ e)) (tW _) (show bp X.prog X.w _ h' _ (.lst (es.map (·.2.2))) from⟨?_,aU.toList,c,rv,by simpa using hg⟩),rfl,q _ (I1.bj.fresh (tW _))⟩
 grind [List.length_map]
noncomputable def xl:TK->Bool
 |.inr _=>true
 |_=>false
theorem PZ{K:Frag}{F:Kn}:∀{ws:List (TK×V×V)} {ks:List TK},ws.map (·.1)=ks->ag K F (ws.map (·.2.1)) (ks.map (·.d))->ks.all xl=true->g9 ws
 |[],_,_,_,_=>λe m=>nomatch m
 |w::ws,[],e,_,_=>by cases e
 |w::ws,k::ks,e,r,a=>by
  rw[bL,List.cons.injEq] at e;obtain⟨e1,e2⟩:=e;rw[t5,jq] at a;rw[bL,bL] at r;intro y m;rcases y04.mp m with rfl|m
  .cases k with
   |inr x=>
    refine⟨x,e1,?_⟩;have:=r.inv.1;obtain⟨y1,y2,y3⟩:=y;dsimp only at this ⊢;cases this with
    |flat z _=>cases z;rfl
   |inl _=>cases a.1
   |tp _=>cases a.1
   |aG=>cases a.1
  .exact PZ e2 r.inv.2 a.2 y m
end
def R9:entryFor table "dict_itemiterator.__iter__"=some Builtin.«dict_keyiterator.__iter__»:=
 entryFor_alias (id':="dict_keyiterator.__iter__") (by kernel_rfl) rfl (by decide +kernel) (by kernel_rfl)
section
variable{prog:cS}{w:cg}{A:cD}{E:aj->aq->Prop}{s:aq}{it d:ah}{kvs:List (Str×aj)}{ep:Nat}
def MK{i n ep:Nat}{ok ov:aj}{Q:aj->aq->Prop}(hit:IsItemIter s.heap it d i n ep ok ov)(h:Q (.ref it) s):wpAny (model prog w) A (pyIter (.ref it)) Q E s:=by
 have hT:s.TypeIs (.ref it) "dict_itemiterator":=⟨_,hit,rfl⟩;refine wpAny_pyIter_slot hT PySem.F.slot_dict_itemiterator_iter (wpAny_call_entry PySem.F.slot_dict_itemiterator_iter hT R9 ?_ (PySem.F.args_dict_itemiterator_iter_1 _));show wpAny _ _ (ret (.ref it)) _ _ s;exact aQ ⟨_,rfl,"dict_itemiterator",_,hT,PySem.F.slot_dict_itemiterator_next.lookup,h⟩
def SV(hh:A.handled=none)(it d:ah)(eY:d≠it)(kvs:List (Str×aj))(ep:Nat):
  WalksT prog w A it [it,d] [it] kvs.length (λi vals=>∃k x key,kvs[i]?=some (k,x)/\(PySem.strKind prog w).is k key=true/\vals=#[key,x])
   (λi h=>(∃ok ov,IsItemIter h it d i kvs.length ep ok ov)/\h.DictAt (PySem.strKind prog w) d kvs ep)
   (λi T h=>(∃ok ov,IsItemIterOut h it d (i+1) kvs.length ep ok ov T)/\T≠it/\h.DictAt (PySem.strKind prog w) d kvs ep) where
 sub:=λb hb=>by simp at hb;simp[hb]
 frame:=λi h h' ⟨⟨ok,ov,a⟩,b⟩ k=>⟨⟨ok,ov,k it (by simp) _ a⟩,b.at' λo e=>k d (by simp) o e⟩
 item:=λi s Q E hi ⟨⟨ok,ov,a⟩,b⟩ hQ=>by
  obtain⟨⟨k,x⟩,hx⟩:∃p,kvs[i]?=some p:=⟨kvs[i],by simp[hi]⟩
  have lt:it<s.heap.objs.size:=cC a;refine wpAny_pyNext_items_item a b hx λkey h' hk o1 o2 o3 kp=>?_
  exact hQ s.heap.objs.size #[key,x] h' s.toks ⟨k,x,key,hx,hk,rfl⟩ (bF _) ⟨_,o2,rfl,_,rfl⟩ ⟨⟨_,_,o1⟩,xR lt,b.at' λo e=>kp d o eY e⟩ λb o hb e=>kp b o (λz=>hb (by simp[z])) e
 go:=λelts k pos i T s Q E ⟨⟨ok,ov,a⟩,b,c⟩ hQ=>wpAny_letOwnedTupleGo_items a λh' a' sb=>hQ h' ⟨⟨ok,ov,a'⟩,c.at' λo e=>(sb.2 d eY).trans e⟩ λb o hb e=>(sb.2 b (λz=>hb (by simp[z]))).trans e
 apart:=λi T h ⟨_,b,_⟩=>by simpa using b
 done:=λs Q E ⟨⟨ok,ov,a⟩,b⟩ hQ=>wpAny_pyNext_items_end hh a b (by simp) λh' eb=>hQ h' s.toks λb o hb e=>eb b o (λz=>hb (by simp[z])) e
 self:=λi s Q E ⟨⟨ok,ov,a⟩,_⟩ hQ=>MK a hQ
end
def Eg(es:List (TK×V×V))(i:Nat)(ws:List V):Prop:=∃e,es[i]?=some e/\ws=[e.2.1,e.2.2]
def Tp{K:Frag}{it d:ah}(eY:d≠it)(es:List (TK×V×V))(ep:Nat):
  Turn P w K (.Tuple elts x1 pos) (Af (λH=>H d=some (.dG es ep)/\g9 es) es.length (Eg es)) [it] it (λi h=>i<=es.length/\∃ok ov,IsItemIter h it d i es.length ep ok ov):=by
 refine Ny (FP:=[it]) (wr:=[it]) (by simp) (λb hb=>hb) (λi h st b hb=>?_) (λi h h' st k=>?_) (λX hP hw hK hc aa s Z H I hS=>?_) (λA i s Q E st h=>?_)
 .obtain⟨ok,ov,a⟩:=st;cases kJ.mp hb;exact⟨_,a,λv z=>by cases z⟩
 .obtain⟨ok,ov,a⟩:=st;exact⟨ok,ov,k it (by simp) _ a⟩
 .subst hP hw hK;obtain⟨kvs,D1,D2,D3,D4,lo⟩:=AI I hS.1 hS.2;have l1:kvs.length=es.length:=by have:=congrArg List.length D3;simpa using this
  have W:=SV (prog:=X.prog) (w:=X.w) (A:=X.A) (I.ok.hd hc) it d eY kvs ep;rw[l1] at W;refine⟨_,_,_,_,W,λi st=>⟨st,D1⟩,λi h st=>st.1,λi vals hp=>?_⟩
  obtain⟨k,x,key,k1,k2,rfl⟩:=hp;have hi:i<es.length:=by have:=(eR.mp k1).1;lia
  have e3:es[i]?=some es[i]:=i5 hi;refine⟨[es[i].2.1,es[i].2.2],⟨_,e3,rfl⟩,.cons ?_ (.cons ?_ .nil),by show 2<=10;decide⟩
  .obtain⟨z,z1,z2⟩:=hS.2 es[i] (El hi);have k3:(kvs.map (λp=>TK.inr p.1))[i]?=(es.map (·.1))[i]?:=by rw[D3]
   rw[fW,fW,k1,e3] at k3;have k4:TK.inr k=es[i].1:=Option.some.inj k3;rw[z1] at k4;cases k4;rw[z2];exact Value.isStrOf_shape k2
  .obtain⟨u,u1,u2⟩:=D2.get (i:=i) (x:=es[i].2.2) (by rw[fW,e3];rfl)
   rw[fW,k1] at u1;cases u1;exact u2
 .obtain⟨ok,ov,a⟩:=st;exact MK a h
def P1(to:TE):TI:=λZ H R=>to Z H λx H1=>∃d es ep,x=.ref d/\H1 d=some (.dG es ep)/\g9 es/\R (Af (λH=>H d=some (.dG es ep)/\g9 es) es.length (Eg es)) H1
section
variable{X:Cx}{K:Frag}
def VU{eW:Pos}(ho:PE X o to)(dW:attributeBase o "items" X.env (eval o X.env)=eval o X.env:=by rfl)(dX:(apos.endLine == bI.line)=true:=by rfl):
  PI X (.Tuple elts x1 eW) (.Call (.Attribute o "items" apos) [] [] bI) (P1 to):=by
 intro aa s Z H R I h;refine wpAny_Call_method0_late dW dX (bA (ho aa s Z H _ I h) λv s1 hh=>?_)
 obtain⟨x,H1,I1,r1,d,es,ep,rfl,hd,ht,q⟩:=hh;cases r1;obtain⟨t1,t2⟩:=FF I1 hd;obtain⟨kvs,D1,D2,D3,D4,lo⟩:=AI I1 hd ht;have l1:kvs.length=es.length:=by have:=congrArg List.length D3;simpa using this
 have ld:d<s1.heap.objs.size:=D1.lt_size;refine⟨"dict","dict.items",PySem.F.plainAttrs_dict,PySem.F.slot_dict_items,PySem.F.type_dict_items,t1,t2,Calls.callWith_builtin rfl (PySem.evalArgs_none ?_)⟩;refine call_meetsIn PySem.F.slot_dict_items t1 PySem.F.entry_dict_items (PySem.F.args_dict_items_1 _) (meets_dict_items (PySem.strKind X.prog X.w) d lo) ⟨⟨kvs,D1.dictOf⟩,?_⟩;refine wpAny_pyIter_items (knd:=PySem.strKind X.prog X.w) (v:=s1.heap.objs.size) (d:=d) (kvs:=kvs) (ep:=ep) ⟨_,jr _ rfl,rfl,rfl⟩ (D1.push _) ?_;have sz:(s1.heap.push { cls:=.type "dict_items",data:=.fields #[.ref d]}).objs.size=s1.heap.objs.size+1:=by simp[Heap.push]
 have hg:=jr (s1.heap.push { cls:=.type "dict_items",data:=.fields #[.ref d]}) (o:={ cls:=.type "dict_itemiterator",data:=.fields #[.none,.bool false,.ref d,.int 0 0,.int kvs.length 0,.int ep 0,.none,.none]}) rfl;rw[l1] at hg ⊢;refine⟨(s1.heap.push { cls:=.type "dict_items",data:=.fields #[.ref d]}).objs.size,[(s1.heap.push { cls:=.type "dict_items",data:=.fields #[.ref d]}).objs.size],_,_,H1,rfl,I1.kept (t':=s1.toks) λb o e=>cO _ (cO _ e),Tp (it:=(s1.heap.push { cls:=.type "dict_items",data:=.fields #[.ref d]}).objs.size) (d:=d) (by rw[sz];exact gm (z8 ld)) es ep,⟨lZ _,.none,.none,hg⟩,λb hb=>?_,q⟩
 cases kJ.mp hb;have pk:s1.heap.objs.size<=(s1.heap.push { cls:=.type "dict_items",data:=.fields #[.ref d]}).objs.size:=by rw[sz];exact tW _
 exact I1.k6 pk (I1.bj.fresh pk)
end
end L2
namespace L2
open PySem PySem.Spec PyProof.Rows
section
variable{X:Cx}{K:PySem.W.Frag}
def DN(K:PySem.W.Frag):R2:=λx y H Q=>∃d e,aY K H [x] [d]/\aY K H [y] [e]/\dh 40 d=true/\dh 40 e=true/\Q (.bl (aR d e)) H
def e1o(K:PySem.W.Frag)(hu:X.A.units+40<cLine)(hK:X.K=K:=by rfl):dm X (compareOp .Eq) (DN K):=by
 subst hK;intro aa s Z H x y v u Q I rx ry h;obtain⟨d,e,r1,r2,o1,o2,q⟩:=h;exact(Cr I 40 40 r1 r2 o1 o2 rx ry hu).2 X.prog X.w _ _ ⟨.bl _,H,I,rfl,q⟩
open Classical in
noncomputable def oM (K:PySem.W.Frag) (H:Hp) (dx:D) (u:aj):Bool:=decide (∃x d,RelV x u/\aY K H [x] [d]/\dh 40 d=true/\aR d dx=true)
open Classical in
def P4{aa:List (ah×Obj)}{s:aq}{Z:St}{H:Hp}(I:Inv X aa Z H s){dx d:D}{x:V}{u:aj}(rx:RelV x u)(r:aY X.K H [x] [d])(ok:dh 40 d=true):oM X.K H dx u=aR d dx:=by
 unfold oM;rw[z9,y9a];constructor
 .rintro⟨x',d',rx',r',eZ,e⟩;have:=RelV.inj rx rx';subst this;rw[FE I 40 40 r r' ok eZ];exact e
 .exact λe=>⟨x,d,rx,r,ok,e⟩
def FX{aa:List (ah×Obj)}{s:aq}{Z:St}{H:Hp}(I:Inv X aa Z H s){dx:D}{ws:List V}{aA:List aj}{ds:List D}(t:Vals ws aA)(rp:aY X.K H ws ds)(ok:ds.all (dh 40)=true):aA.any (oM X.K H dx)=ds.any λd=>aR d dx:=by
 induction t generalizing ds with
 |nil=>
  cases ds with
  |nil=>rfl
  |cons _ _=>have:=rp.length;simp at this
 |cons r t ih=>
  cases ds with
  |nil=>have:=rp.length;simp at this
  |cons d ds=>
   rw[t5,jq] at ok;rw[List.any_cons,List.any_cons,P4 I r rp.inv.1 ok.1,ih rp.inv.2 ok.2]
def FY{aa:List (ah×Obj)}{s:aq}{Z:St}{H:Hp}(I:Inv X aa Z H s){dx:D}{y:V}{v:aj}{A:cD}(rv:RelV y v)(ry:aY X.K H [y] [dx])(oy:dh 40 dx=true)(hu:A.units+40<cLine):
  ∀{ws:List V} {aA:List aj} {ds:List D},Vals ws aA->aY X.K H ws ds->ds.all (dh 40)=true->∀u∈aA,SeqAt.EqAt A s u v (oM X.K H dx u):=by
 intro ws aA ds t
 induction t generalizing ds with
 |nil=>intro _ _ u m;cases m
 |cons r t ih=>
  intro rp ok u' m;cases ds with
  |nil=>have:=rp.length;simp at this
  |cons d ds=>
   rw[t5,jq] at ok;rcases y04.mp m with rfl|m
   .rw[P4 I r rp.inv.1 ok.1];exact(Cr I 40 40 rp.inv.1 ry ok.1 oy r rv hu).1
   .exact ih rp.inv.2 ok.2 u' m
noncomputable def zR:D->ak (List D)
 |.lst ds=>some ds
 |.tup ds=>some ds
 |_=>none
def zJ(K:PySem.W.Frag)(neg:Bool):R2:=λx y H Q=>
 (∃d e ds,aY K H [x] [d]/\aY K H [y] [e]/\zR e=some ds/\dh 40 d=true/\ds.all (dh 40)=true/\Q (.bl (if neg then !ds.any λz=>aR z d else ds.any λz=>aR z d)) H)\/
 (∃i j,x=.str i/\y=.str j/\Q (.bl (if neg then !(!(Builtin.Str.occurrences j i 0 j.length 1).isEmpty) else !(Builtin.Str.occurrences j i 0 j.length 1).isEmpty)) H)\/
 ∃a o,y=.ref a/\gA K H a x o/\Q (.bl (if neg then !o.isSome else o.isSome)) H
def e1p(K:PySem.W.Frag)(hu:X.A.units+41<cLine)(hK:X.K=K:=by rfl):dm X (compareOp .In) (zJ K false):=by
 subst hK;intro aa s Z H x y v u Q I rx ry h;rcases h with⟨d,e,ds,r1,r2,es,o1,o2,q⟩|⟨i,j,rfl,rfl,q⟩|⟨a,o,rfl,g,q⟩
 .have qM:X.A.in1.units+40<cLine:=by show X.A.units+1+40<cLine;lia
  cases r2 with
  |flat z _=>cases e <;> first|(cases z;done)|cases es
  |lst sq i _=>
   cases es;cases ry;obtain⟨aA,r,pl,hz⟩:=I.list sq;refine SeqAt.in_listAt (oM X.K H d) pl.isList (λw hw=>FY I rx r1 o1 qM r i o2 w (by simpa using hw)) ⟨.bl _,H,I,rfl,?_⟩
   rw[show aA.toArray.any (oM X.K H d)=aA.any (oM X.K H d) by simp,FX I r i o2]
   exact q
  |tup sq i _=>
   cases es;cases ry;obtain⟨aA,r,pl,hz⟩:=I.tuple sq;refine SeqAt.in_tupleAt (oM X.K H d) pl (λw hw=>FY I rx r1 o1 qM r i o2 w (by simpa using hw)) ⟨.bl _,H,I,rfl,?_⟩
   rw[show aA.toArray.any (oM X.K H d)=aA.any (oM X.K H d) by simp,FX I r i o2]
   exact q
  |ar _ _ _ _ _=>cases es
  |ref _ _=>cases es
 .exact Ua aa s Z H _ _ v u Q I rx ry ⟨i,j,rfl,rfl,q⟩
 .cases ry;exact L5 (by lia) I g rx λs3 I3=>⟨.bl o.isSome,H,I3,rfl,q⟩
def UH(K:PySem.W.Frag)(hu:X.A.units+41<cLine)(hK:X.K=K:=by rfl):dm X (compareOp .NotIn) (zJ K true):=by
 subst hK;intro aa s Z H x y v u Q I rx ry h;rcases h with⟨d,e,ds,r1,r2,es,o1,o2,q⟩|⟨i,j,rfl,rfl,q⟩|⟨a,o,rfl,g,q⟩
 .have qM:X.A.in1.units+40<cLine:=by show X.A.units+1+40<cLine;lia
  cases r2 with
  |flat z _=>cases e <;> first|(cases z;done)|cases es
  |lst sq i _=>
   cases es;cases ry;obtain⟨aA,r,pl,hz⟩:=I.list sq;refine SeqAt.notIn_listAt (oM X.K H d) pl.isList (λw hw=>FY I rx r1 o1 qM r i o2 w (by simpa using hw)) ⟨.bl _,H,I,rfl,?_⟩
   rw[show aA.toArray.any (oM X.K H d)=aA.any (oM X.K H d) by simp,FX I r i o2]
   exact q
  |tup sq i _=>
   cases es;cases ry;obtain⟨aA,r,pl,hz⟩:=I.tuple sq;refine SeqAt.notIn_tupleAt (oM X.K H d) pl (λw hw=>FY I rx r1 o1 qM r i o2 w (by simpa using hw)) ⟨.bl _,H,I,rfl,?_⟩
   rw[show aA.toArray.any (oM X.K H d)=aA.any (oM X.K H d) by simp,FX I r i o2]
   exact q
  |ar _ _ _ _ _=>cases es
  |ref _ _=>cases es
 .exact Sy aa s Z H _ _ v u Q I rx ry ⟨i,j,rfl,rfl,q⟩
 .cases ry;exact YL (by lia) I g rx λs3 I3=>⟨.bl (!o.isSome),H,I3,rfl,q⟩
def wI(ne:Bool)(a b:D):ak Rv:=if(dh 40 a&&dh 40 b)=true then some (rd (.bl (if ne=true then !aR a b else aR a b))) else none
def e6e:bP K (m8 (DN K)) (o2 (wI false)):=xt λk H x z a b y Q le t1 t2 e res=>by
 unfold wI at e;split at e
 .rename_i h
  obtain⟨h1,h2⟩:=Br.mp h;cases e;exact⟨_,_,t1.uw le h1,t2.uw le h2,h1,h2,res.flat le rfl⟩
 .cases e
def e6f:bP K (m8 (DS K)) (o2 (wI true)):=xt λk H x z a b y Q le t1 t2 e res=>by
 unfold wI at e;split at e
 .rename_i h
  obtain⟨h1,h2⟩:=Br.mp h;cases e;exact⟨_,_,t1.uw le h1,t2.uw le h2,h1,h2,res.flat le rfl⟩
 .cases e
mutual
def rA:D->ak TK
 |.int i=>some (.inl i)
 |.str x=>some (.inr x)
 |.aG=>some .aG
 |.tup l=>(ox l).map .tp
 |_=>none
def ox:List D->ak (List TK)
 |[]=>some []
 |d::l=>(rA d).bind λk=>(ox l).map λks=>k::ks
end
def kD:D->ak TK
 |.int i=>some (.inl i)
 |.str x=>some (.inr x)
 |.aG=>some .aG
 |.tup l=>(ox l).bind λks=>if TK.ok 8 (.tp ks)=true then some (.tp ks) else none
 |_=>none
mutual
theorem e6g:∀{d:D} {k:TK},rA d=some k->k.d=d
 |.int i,k,e=>by simp only[rA] at e;cases e;simp[TK.d]
 |.str i,k,e=>by simp only[rA] at e;cases e;simp[TK.d]
 |.tup l,k,e=>by
  simp only[rA] at e;obtain⟨ks,h1,rfl⟩:=cV.mp e;simp only[TK.d];rw[pF h1]
 |.aG,k,e=>by simp only[rA] at e;cases e;simp[TK.d]
 |.ref _,k,e=>by simp[rA] at e
 |.bl _,k,e=>by simp[rA] at e
 |.ty _,k,e=>by simp[rA] at e
 |.lst _,k,e=>by simp[rA] at e
 |.ar _,k,e=>by simp[rA] at e
theorem pF:∀{l:List D} {ks:List TK},ox l=some ks->TK.dl ks=l
 |[],ks,e=>by simp only[ox] at e;cases e;simp[TK.dl]
 |d::l,ks,e=>by
  simp only[ox] at e;obtain⟨k,h1,e⟩:=cf.mp e;obtain⟨xp,h2,rfl⟩:=cV.mp e;simp only[TK.dl];rw[e6g h1,pF h2]
end
def AJ{d:D}{k:TK}(e:kD d=some k):k.d=d/\k.ok 8=true:=by
 cases d with
 |int i=>cases e;exact⟨by simp[TK.d],rfl⟩
 |str i=>cases e;exact⟨by simp[TK.d],rfl⟩
 |aG=>cases e;exact⟨by simp[TK.d],rfl⟩
 |tup l=>
  simp only[kD] at e;obtain⟨ks,h1,e⟩:=cf.mp e;split at e
  .rename_i h
   cases e;exact⟨by simp only[TK.d];rw[pF h1],h⟩
  .cases e
 |_=>cases e
def aL(kvs:List (TK×D))(k:TK):ak D:=(kvs.find? λkv=>decide (kv.1=k)).map (·.2)
theorem Jc{F:Kn}{k:TK}:∀{ws:List (TK×V×V)} {kvs:List (TK×D)},ws.map (·.1)=kvs.map (·.1)->ag K F (ws.map (·.2.2)) (kvs.map (·.2))->(jD ws k=none/\aL kvs k=none)\/∃v d,jD ws k=some v/\aL kvs k=some d/\ag K F [v] [d]
 |[],[],_,_=>.inl ⟨rfl,rfl⟩
 |w::ws,p::kvs,h,r=>by
  rw[bL,bL] at h;injection h with h1 h2;unfold jD aL;rw[t6,t6,h1];by_cases e:p.1=k
  .rw[rG e];exact .inr ⟨w.2.2,p.2,rfl,rfl,r.inv.1⟩
  .rw[rH e];exact Jc h2 r.inv.2
 |[],_::_,h,_=>by simp at h
 |_::_,[],h,_=>by simp at h
def vX{k:Kn}{H:Hp}{x y:V}{kvs:List (TK×D)}{d:D}{j:TK}(le:aw k.F H)(t1:Top K k H x (.ar kvs))(t2:Top K k H y d)(hk:kD d=some j):∃a o,x=.ref a/\gA K H a y o/\((o=none/\aL kvs j=none)\/∃v e,o=some v/\aL kvs j=some e/\ag K k [v] [e]):=by
 obtain⟨a,es,ep,rfl,h1,h2,h3,h4⟩:=t1.ar le;obtain⟨k1,k2⟩:=AJ hk;refine⟨a,jD es j,rfl,⟨es,ep,j,h1,OZ h2 h3 le,?_,k2,rfl⟩,Jc h2 h4⟩;have:=t2.rep le;rw[<-k1] at this;exact sW (k:=k.all H) j this
def A'(neg:Bool)(a b:D):ak Rv:=match b with
 |.ar kvs=>(kD a).map λj=>rd (.bl (if neg=true then !(aL kvs j).isSome else(aL kvs j).isSome))
 |.str j=>(match a with
  |.str i=>some (rd (.bl (if neg=true then !(!(Builtin.Str.occurrences j i 0 j.length 1).isEmpty) else !(Builtin.Str.occurrences j i 0 j.length 1).isEmpty)))
  |_=>none)
 |e=>(zR e).bind λds=>if(dh 40 a&&ds.all (dh 40))=true then some (rd (.bl (if neg=true then !ds.any λz=>aR z a else ds.any λz=>aR z a))) else none
def YU{k:Kn}{H:Hp}{x:V}{e:D}{ds:List D}(le:aw k.F H)(t:Top K k H x e)(h:zR e=some ds)(ok:ds.all (dh 40)=true):aY K H [x] [e]:=by
 cases e with
 |lst _=>cases h;obtain⟨p,ws,rfl,q,r⟩:=t.lst le;exact .lst q (Top.RM r le ok) .nil
 |tup _=>cases h;obtain⟨p,ws,rfl,q,r⟩:=t.tup le;exact .tup q (Top.RM r le ok) .nil
 |_=>cases h
def QK(neg:Bool):bP K (m8 (zJ K neg)) (o2 (A' neg)):=xt λk H x z a b y Q le t1 t2 e res=>by
 unfold A' at e;split at e
 .obtain⟨j,hj,rfl⟩:=cV.mp e;obtain⟨p,o,rfl,g,h⟩:=vX le t2 t1 hj;refine .inr (.inr ⟨p,o,rfl,g,?_⟩);have z:=res.flat le rfl;rcases h with⟨rfl,h⟩|⟨v,e,rfl,h,_⟩ <;> rw[h] at z <;> exact z
 .split at e
  .cases e;cases t1.flat rfl;cases t2.flat rfl;exact .inr (.inl ⟨_,_,rfl,rfl,res.flat le rfl⟩)
  .cases e
 .obtain⟨ds,h1,e⟩:=cf.mp e;split at e
  .rename_i h
   obtain⟨h2,h3⟩:=Br.mp h;cases e;exact .inl ⟨_,_,ds,t1.uw le h2,YU le t2 h1 h3,h1,h2,h3,res.flat le rfl⟩
  .cases e
def zK(neg:Bool):R2:=λx y H Q=>(y=.aG/\Q (.bl (if neg then !decide (x=.aG) else decide (x=.aG))) H)\/∃a b,x=.bl a/\y=.bl b/\Q (.bl (if neg then a != b else a == b)) H
def e1r:dm X (compareOp .Is) (zK false):=zE.or e0k
def YV:dm X (compareOp .IsNot) (zK true):=vB.or Yl
noncomputable def tf:D->Bool
 |.aG=>true
 |_=>false
def Ba(neg:Bool)(a b:D):ak Rv:=match b with
 |.aG=>some (rd (.bl (if neg=true then !tf a else tf a)))
 |.bl b=>(match a with
  |.bl a=>some (rd (.bl (if neg=true then a != b else a == b)))
  |_=>none)
 |_=>none
def VW{k:Kn}{H:Hp}{x:V}{d:D}(h:Top K k H x d):decide (x=.aG)=tf d:=by
 rcases h with h|⟨p,c,rfl,rfl,h⟩
 .cases h with
  |flat q _=>cases d <;> cases q <;> rfl
  |_=>rfl
 .cases c <;> rfl
def QL(neg:Bool):bP K (m8 (zK neg)) (o2 (Ba neg)):=xt λk H x z a b y Q le t1 t2 e res=>by
 unfold Ba at e;split at e
 .cases e;cases t2.flat rfl;refine .inl ⟨rfl,?_⟩;rw[VW t1];exact res.flat le rfl
 .split at e
  .cases e;cases t1.flat rfl;cases t2.flat rfl;exact .inr ⟨_,_,rfl,rfl,res.flat le rfl⟩
  .cases e
 .cases e
def DP(K:PySem.W.Frag):R2:=λx y H Q=>zL K x y H Q\/zM K x y H Q\/DQ x y H Q\/∃a v,x=.ref a/\gA K H a y (some v)/\Q v H
def YW(hu:X.A.units+9<cLine):qC X (λx y H Q=>∃a v,x=.ref a/\gA X.K H a y (some v)/\Q v H):=by
 intro value slice aa s Z H x y v u Q I rx ry h hs;obtain⟨a,w,rfl,g,q⟩:=h;cases rx;exact tail_any (g.ty I).1 PySem.F.slot_dict_getitem.lookup (NF hu I g ry λw' s3 I3 mT=>⟨w,H,I3,mT,q⟩) hs
def KI(K:PySem.W.Frag)(hu:X.A.units+41<cLine)(hK:X.K=K):qC X (DP K):=by
 subst hK;exact(VG X.K rfl).or ((Ym X.K rfl).or (zr.or (YW (by lia))))
noncomputable def intD:D->ak Int
 |.int k=>some k
 |_=>none
def FG{i:D}{k:Int}(h:intD i=some k):i=.int k:=by
 cases i with
 |int _=>cases h;rfl
 |_=>cases h
def O1{F:Kn}{ws:List V}{ds:List D}{i:Int}{d:D}(r:ag K F ws ds)(e:dC ds i=some d):∃v,dC ws i=some v/\ag K F [v] [d]:=by
 unfold dC at e ⊢;rw[r.length];cases q:vw ds.length i with
 |none=>rw[q] at e;cases e
 |some j=>
  rw[q] at e;exact r.get e
def GW(a i:D):ak Rv:=match a with
 |.lst ds=>(intD i).bind λk=>(dC ds k).map rd
 |.tup ds=>(intD i).bind λk=>(dC ds k).map rd
 |.str z=>(intD i).bind λk=>if z.length<=1000000 then(dC z.cps.toList k).map λc=>rd (.str ⟨#[c]⟩) else none
 |.ar kvs=>(kD i).bind λj=>(aL kvs j).map rd
 |_=>none
def e6h:bP K (m8 (DP K)) (o2 GW):=xt λk H x z a b y Q le t1 t2 e res=>by
 unfold GW at e;split at e
 .obtain⟨i,hi,e⟩:=cf.mp e;cases FG hi;cases t2.flat rfl;obtain⟨d,h1,rfl⟩:=cV.mp e;obtain⟨p,ws,rfl,q,r⟩:=t1.lst le;obtain⟨v,h2,h3⟩:=O1 r h1;exact .inl ⟨p,ws,i,v,rfl,rfl,q,h2,res.rep le h3⟩
 .obtain⟨i,hi,e⟩:=cf.mp e;cases FG hi;cases t2.flat rfl;obtain⟨d,h1,rfl⟩:=cV.mp e;obtain⟨p,ws,rfl,q,r⟩:=t1.tup le;obtain⟨v,h2,h3⟩:=O1 r h1;exact .inr (.inl ⟨p,ws,i,v,rfl,rfl,q,h2,res.rep le h3⟩)
 .obtain⟨i,hi,e⟩:=cf.mp e;cases FG hi;cases t2.flat rfl;cases t1.flat rfl;split at e
  .obtain⟨c,h1,rfl⟩:=cV.mp e;exact .inr (.inr (.inl ⟨_,i,c,rfl,rfl,ml (by assumption),h1,res.flat le rfl⟩))
  .cases e
 .obtain⟨j,hj,e⟩:=cf.mp e;obtain⟨d,h1,rfl⟩:=cV.mp e;obtain⟨p,o,rfl,g,h⟩:=vX le t1 t2 hj;rcases h with⟨_,h⟩|⟨v,e,rfl,h,r⟩
  .rw[h] at h1;cases h1
  .rw[h] at h1;cases h1;exact .inr (.inr (.inr ⟨p,v,rfl,g,res.rep le r⟩))
 .cases e
noncomputable def cutD(ds:List D)(lo hi:ak Int):List D:=(ds.drop (HT.cw ds.length 0 lo)).take (HT.cw ds.length ds.length hi - HT.cw ds.length 0 lo)
def DT(K:PySem.W.Frag):V->ak Int->ak Int->Hp->VK->Prop:=λx lo hi H Q=>DU x lo hi H Q\/zN K x lo hi H Q\/zO K x lo hi H Q
def LA(K:PySem.W.Frag)(hK:X.K=K):rZ X (DT K):=zS.or ((VH K hK).or (Yn K hK))
def Lz(a:D)(lo hi:ak Int):ak Rv:=match a with
 |.str z=>if z.length<=1000000 then some (rd (.str (Txt.slice z lo hi))) else none
 |.lst ds=>some (.o (.lst (cutD ds lo hi)))
 |.tup ds=>if HT.cw ds.length 0 lo=0/\HT.cw ds.length ds.length hi=ds.length then none else some (rd (.tup (cutD ds lo hi)))
 |_=>none
def O2{k:Kn}{ws:List V}{ds:List D}{lo hi:ak Int}(r:ag K k ws ds):ag K k (nG ws lo hi) (cutD ds lo hi):=by
 unfold nG cutD;rw[r.length];exact(r.drop _).take _
def e6i{k:Kn}{H:Hp}{x:V}{a:D}{y:Rv}{Q:VK}{lo hi:ak Int}(le:aw k.F H)(t:Top K k H x a)(e:Lz a lo hi=some y)(res:kU K k H y Q):DT K x lo hi H Q:=by
 unfold Lz at e;split at e
 .split at e
  .cases e;cases t.flat rfl;exact .inl ⟨_,rfl,ml (by assumption),res.flat le rfl⟩
  .cases e
 .cases e;obtain⟨p,ws,rfl,q,r⟩:=t.lst le;exact .inr (.inl ⟨p,ws,rfl,q,λl hl=>res.lst le (O2 r) hl⟩)
 .split at e
  .cases e
  .rename_i eY
   cases e;obtain⟨p,ws,rfl,q,r⟩:=t.tup le;exact .inr (.inr ⟨p,ws,rfl,q,by rw[r.length];exact eY,λl hl=>res.tup le (O2 r) hl⟩)
 .cases e
abbrev GO:=Gx (ak Int)
abbrev Aj:Rp (ak Int) (ak Int):=λ_ _ b a=>b=a
def AX:GO:=λ_ S=>some (.ok none S)
noncomputable def Rv.int:Rv->ak Int
 |.v (.d (.int i))=>some i
 |_=>none
noncomputable def AY(g:GE):GO:=λU S=>bd (g U S) λr S1=>r.int.map λi=>.ok (some i) S1
def yC(f:GE)(lo hi:GO):GE:=λU S=>bd (f U S) λr S1=>bd (lo U S1) λl S2=>bd (hi U S2) λu S3=>((vH S3 (mV r)).bind λd=>Lz d l u).map λy=>.ok y S3
def Rv.iV{r:Rv}{i:Int}(h:r.int=some i):r=rd (.int i):=by
 unfold Rv.int at h;split at h
 .cases h;rfl
 .cases h
section
variable{W:XW}{q:Nat}{e:Expr}{lo hi:ak Expr}{f:GE}{fl fh:GO}{pos p2:Pos}
def vb:PO X none (tX Aj K W q AX):=λaa s Z H Q I t=>X4 aa s Z H Q I (A4 t λ_ _=>rfl)
def vc(h:PE X e (tE K W q f)):PO X (some e) (tX Aj K W q (AY f)):=λaa s Z H Q I t=>X5 h aa s Z H Q I (by
 obtain⟨k,U,S,res,ok,gk,e,w⟩:=t;refine tX.bd ok gk e w λr S1 x k1 H1 bw g1 r1 e1 w1 _=>?_
 obtain⟨i,e2,rfl⟩:=cV.mp e1;cases Rv.iV e2;exact⟨i,(show ag K k1 [x] [.int i] from r1).aW rfl,w1.now bw rfl⟩)
def VX(he:PE X e (tE K W q f))(hl:PO X lo (tX Aj K W q fl))(hu:PO X hi (tX Aj K W q fh))(hK:X.K=K):PE X (.Subscript e (.Slice lo hi none p2) pos) (tE K W q (yC f fl fh)):=(VB (LA K hK) he hl hu).mono λZ H Q t=>by
 obtain⟨k,U,S,res,ok,gk,e,w⟩:=t;refine tX.bd ok gk e w λr S1 x k1 H1 bw g1 r1 e1 w1 _=>?_
 obtain⟨k2,u2,cB,r2⟩:=rf bw r1;refine tX.bd cB (g1.up (u2 q)) e1 (w1.up (u2 q)) λl S3 l' k3 H3 jC g3 r3 e3 w3 u3=>?_
 cases r3;refine tX.bd jC g3 e3 w3 λu S4 u' k4 H4 qQ g4 r4 e4 w4 u4=>?_
 cases r4;obtain⟨y,e5,rfl⟩:=cV.mp e4;obtain⟨d,e6,e7⟩:=cf.mp e5;exact e6i qQ.le (FT qQ ((r2.up u3).up u4) e6) e7 (.fin qQ w4)
end
end
section
variable{X:Cx}{K:PySem.W.Frag}
def gH:List Int->Int
 |[]=>0
 |x::xs=>xs.foldl (λa b=>if b<a then b else a) x
def UI(xs:List Int):∀x:Int,(xs.foldl (λa b=>if b<a then b else a) x<=x/\∀y∈xs,xs.foldl (λa b=>if b<a then b else a) x<=y)/\(xs.foldl (λa b=>if b<a then b else a) x=x\/xs.foldl (λa b=>if b<a then b else a) x∈xs):=by
 induction xs with
 |nil=>intro x;exact⟨⟨rE _,λy m=>by cases m⟩,.inl rfl⟩
 |cons z xs ih=>
  grind
def NG{xs:List Int}(h:xs≠[]):gH xs∈xs/\∀y∈xs,gH xs<=y:=by
 cases xs with
 |nil=>exact bW rfl h
 |cons x xs=>
  obtain⟨⟨h1,h2⟩,h3⟩:=UI xs x;refine⟨?_,λy m=>?_⟩
  .rcases h3 with h3|h3
   .show List.foldl _ x xs∈_;rw[h3];exact .head _
   .exact .tail _ h3
  .rcases y04.mp m with rfl|m
   .exact h1
   .exact h2 y m
theorem Ib:∀{is:List Int} {aA:List aj},Vals (is.map V.int) aA->∃ps:List (Int×Tok),aA=ps.map (λp=>Value.int p.1 p.2)/\ps.map (·.1)=is
 |[],aA,h=>by
  rw[z7] at h;cases h;exact⟨[],rfl,rfl⟩
 |i::is,aA,h=>by
  rw[bL] at h;cases h with
  |cons r t=>
   obtain⟨ps,e1,e2⟩:=Ib t;obtain⟨tk,rfl⟩:=r;exact⟨(i,tk)::ps,by rw[e1];rfl,by rw[bL,e2]⟩
def VY(K:PySem.W.Frag)(hc:X.calm=true:=by rfl)(hK:X.K=K:=by rfl):bH X (.builtin "min") (λxs H Q=>∃(a:ah) (is:List Int),xs=[.ref a]/\cz K H a (is.map V.int)/\is≠[]/\Q (.int (gH is)) H):=by
 subst hK;intro aa s Z H xs us Q I r h;obtain⟨a,is,rfl,hs,eY,q⟩:=h;obtain⟨u,rfl,ru⟩:=vals1 r;cases ru;obtain⟨aA,rv,p,hz⟩:=I.list hs;obtain⟨ps,e1,e2⟩:=Ib rv;subst e1;have hl:0<ps.length:=by
  cases ps with
  |nil=>exact bW e2.symm eY
  |cons _ _=>simp
 have el:(ps.map λp=>Value.int p.1 p.2).toArray=intItems ps.toArray:=by unfold intItems;simp
 have pl:=p.isList;rw[el] at pl;refine min_intList (I.ok.hd hc) pl (by simpa using hl) λv h' tk hv hk=>?_
 obtain⟨b1,b2⟩:=argBest_lt (numAt ps.toArray) (ps.toArray.size - 1);generalize argBest (λi j=>decide (numAt ps.toArray i<numAt ps.toArray j)) (ps.toArray.size - 1)=n at *
 have hn:n<ps.length:=by simp at b1;lia
 have Df:∀j (hj:j<ps.length),numAt ps.toArray j=(ps[j]).1:=λj hj=>by unfold numAt;simp[hj]
 have Ky:v=Value.int (ps[n]).1 (ps[n]).2:=by
  unfold intItems at hv;simp[hn] at hv;exact hv.symm
 have hm:gH is=(ps[n]).1:=by
  obtain⟨m1,m2⟩:=NG eY;have i1:(ps[n]).1∈is:=by rw[<-e2];exact jT (f:=(·.1)) (El hn)
  have c1:=m2 _ i1;rw[<-e2] at m1;obtain⟨pp,Kv,Di⟩:=gp.mp m1;obtain⟨j,hj,ej⟩:=List.mem_iff_getElem.mp Kv;have c2:=b2 j (by simp;lia)
  rw[Df n hn,Df j hj,ej] at c2;rw[e2] at Di;lia
 rw[Ky];exact⟨.int (gH is),H,I.kept (h':=h') (t':=tk) λb o e=>hk b o e,⟨(ps[n]).2,by rw[hm]⟩,q⟩
def kB:List D->ak (List Int)
 |[]=>some []
 |.int i::ds=>(kB ds).map λis=>i::is
 |_=>none
theorem IB:∀is:List Int,kB (is.map .int)=some is
 |[]=>rfl
 |i::is=>by rw[bL];show(kB (is.map .int)).map _=_;rw[IB is];rfl
theorem NH:∀{ds:List D} {is:List Int},kB ds=some is->ds=is.map .int
 |[],is,e=>by cases e;rfl
 |d::ds,is,e=>by
  cases d with
  |int i=>
   obtain⟨js,e1,e2⟩:=cV.mp (show(kB ds).map _=some is from e);rw[<-e2,NH e1];rfl
  |_=>cases e
theorem MW{F:Kn}:∀{ws:List V} {is:List Int},ag K F ws (is.map .int)->ws=is.map .int
 |[],[],_=>rfl
 |[],_::_,h=>by have:=h.length;simp at this
 |_::_,[],h=>by have:=h.length;simp at this
 |w::ws,i::is,h=>by
  rw[bL] at h;have h1:=h.inv.1;have h2:=MW h.inv.2;rw[h2,bL];cases h1 with
  |flat e _=>cases e;rfl
end
section
variable{X:Cx}{K:PySem.W.Frag}
end
end L2
namespace L2
open PySem PySem.Spec PySem.W PyProof.Rows
section
variable{X:Cx}{K:PySem.W.Frag}
def LR(k:String):Bool:=k == "tuple" || k == "list"
def xD(K:Frag):List V->Hp->VK->Prop:=λxs H Q=>∃x k q,xs=[x,.ref q]/\Cp K H x k/\gu K H q [.ty "tuple",.ty "list"]/\Q (.bl (LR k)) H
def UJ(K:Frag)(hK:X.K=K:=by rfl):bH X (.builtin "isinstance") (xD K):=by
 subst hK;intro aa s Z H xs us Q I r h;obtain⟨x,k,q,rfl,hk,hq,qq⟩:=h;obtain⟨u,w',rfl,rx,ry⟩:=vals2 r;cases ry;obtain⟨aA,rv,⟨ot,h1,h2,n,h3⟩,_⟩:=I.tuple hq;obtain⟨oc,odd,odt,ux⟩:=ot;dsimp only at h2 h3;subst h2;subst h3;obtain⟨u1,u2,rfl,r1,r2⟩:=vals2 rv;cases r1;cases r2;have fin:∀b,b=LR k->∀tk,EP X aa Z Q (.bool b) { s with toks:=tk}:=λb e tk=>uU (I.tok _) qq e.symm
 cases x with
 |aG=>
  cases rx;have hk:k="NoneType":=hk;subst hk;exact kia_tup (b:=false) kitx_none I.jN t8 h1 (by rfl) (λz=>nomatch z) (fin _ rfl)
 |bl b=>
  cases rx;have hk:k="bool":=hk;subst hk;exact kia_tup (b:=false) kitx_bool I.jN t8 h1 (by rfl) (λz=>nomatch z) (fin _ rfl)
 |int i=>
  obtain⟨t,rfl⟩:=rx;have hk:k="int":=hk;subst hk;exact kia_tup (b:=false) kitx_int I.jN t8 h1 (by rfl) (λz=>nomatch z) (fin _ rfl)
 |str z=>
  obtain⟨t,rfl⟩:=rx;have hk:k="str":=hk;subst hk;exact kia_tup (b:=false) kitx_str I.jN t8 h1 (by rfl) (λz=>nomatch z) (fin _ rfl)
 |ref a=>
  cases rx;rcases hk with⟨hk,ys,hs⟩|⟨hk,ys,hs⟩
  .subst hk;obtain⟨aA,_,⟨o,n,e,hc,_⟩,_⟩:=I.list hs;exact kia_tup (b:=true) kitx_list I.jN ⟨o,e,hc⟩ h1 (by rfl) (λz=>nomatch z) (fin _ rfl)
  .subst hk;obtain⟨aA,_,⟨o,e,hc,_⟩,_⟩:=I.tuple hs;exact kia_tup (b:=true) kitx_tuple I.jN ⟨o,e,hc⟩ h1 (by rfl) (λz=>nomatch z) (fin _ rfl)
 |wx _=>exact False.elim hk
 |wN _=>exact False.elim hk
 |ty _=>exact False.elim hk
end
end L2
namespace L2
open PySem PySem.Spec PyProof.Rows
variable{A:cD}{E:aj->aq->Prop}{s:aq}{ep:Nat}
theorem SW{Q:Bool->aq->Prop}{P:cS}{w:cg}{d:ah}(hT:s.TypeIs (.ref d) "dict")(h:Q false s):wpAny (model P w) A (Builtin.List.listLengthHint (.ref d)) Q E s:=by
 unfold Builtin.List.listLengthHint;refine ax (wpAny_specialOf hT F.slot_dict_len.lookup ?_);dsimp only;rw[show splitId "dict.__len__"=some ("dict","__len__") from by decide +kernel]
 dsimp only;refine ax (wpAny_isInstance (b:=true) hT (by rw[isSubtype_type];kernel_rfl) ?_)
 rw[aK (by decide)]
 refine wpAny_ite_true (by decide +kernel) (ax (wpAny_typeOf hT ?_))
 exact aQ h
section
variable{P:cS}{w:cg}{A:cD}{E:aj->aq->Prop}{s:aq}
def UK{n:Nat}{ob:Obj}{xs:Array DictEntry}(hh:A.handled=none)(J d:ah)(eY:d≠J)(g2:ob.data=.dict xs ep)(hl:xs.size=n):
  Walks P w A J [J,d] [J] n (λi v=>xs[i]?.map (·.key)=some v) (λi h=>h.IsKeyIter J d i n ep/\h.get? d=some ob) where
 sub:=λb hb=>by simp at hb;simp[hb]
 frame:=λ_ _ _ st hk=>⟨st.1.at λo e=>hk J (by simp) o e,hk d (by simp) _ st.2⟩
 item:=λi s Q E hi st hQ=>by
  have lt:i<xs.size:=by lia
  refine M9 st.2 g2 hl st.1 lt λh' Bb sb=>?_
  exact hQ _ h' s.toks (by rw[uB lt];rfl) ⟨Bb,(sb.2 d eY).trans st.2⟩ λb o hb e=>sb.extBut b o (λh=>hb (by simp[h])) e
 done:=λs Q E st hQ=>Nx hh st.2 g2 hl st.1 (bF _) λh' he'=>hQ h' s.toks λb o hb e=>he' b o (λh=>hb (by simp[h])) e
 self:=λ_ _ _ _ st hQ=>wpAny_pyIter_keyiter st.1 hQ
end
theorem O3:∀{ys:List V} {us:List aj},ys.length=us.length->(∀(j:Nat) (y:V) (u:aj),ys[j]?=some y->us[j]?=some u->RelV y u)->Vals ys us
 |[],[],_,_=>.nil
 |y::ys,u::us,hl,h=>.cons (h 0 y u rfl rfl) (O3 (by simpa using hl) λj y' u' e1 e2=>h (j+1) y' u' (by simpa using e1) (by simpa using e2))
 |[],_::_,h,_=>by simp at h
 |_::_,[],h,_=>by simp at h
section
variable{X:Cx}{aa:List (ah×Obj)}{Z:St}{H:Hp}
theorem Sl{d:ah}{es:List (TK×V×V)}{Q:aj->aq->Prop}(hh:A.handled=none)(I:Inv X aa Z H s)(hd:H d=some (.dG es ep))
  (hQ:∀s',(∀b u,s.heap.get? b=some u->s'.heap.get? b=some u)->s'={ s with heap:=s'.heap,toks:=s'.toks}->(∃aA c,Vals (es.map (·.2.1)) aA/\s'.heap.get? s.heap.objs.size=some { cls:=.type "list",data:=.seq aA.toArray c})->Q (.ref s.heap.objs.size) s') :
  wpAny (model X.prog X.w) A (call (.type "list") [.ref d]) Q E s:=by
 obtain⟨hz,z,ob,xs,g1,g5,g2,g3,g4⟩:=(show bp X.prog X.w H s.heap d (.dG es ep) from I.bj d _ hd);have hl:xs.size=es.length:=by have:=Paired.length g3;simpa using this.symm
 have ld:d<s.heap.objs.size:=cC g1;refine callType_codes (Q₁:=λobj s₁=>obj=.ref s.heap.objs.size/\s₁={ s with heap:=s.heap.push { cls:=.type "list",data:=.seq #[]}}) F.called_list (F.typeCall_list_1 _) F.entry_list_init (code_list_new _ ⟨rfl,rfl⟩) λobj s₁ q₁=>?_
 obtain⟨rfl,rfl⟩:=q₁;have gS:(s.heap.push { cls:=.type "list",data:=.seq #[]}).get? s.heap.objs.size=some { cls:=.type "list",data:=.seq #[]}:=jr _ rfl;refine⟨⟨_,gS,rfl⟩,F.args_list_init_2 _ _,?_⟩;show wpAny _ _ (do let old <-Builtin.List.listItems (.ref s.heap.objs.size);Builtin.List.listUpdate (.ref s.heap.objs.size) (λ_=>#[]);letGo old.toList.reverse;Builtin.List.listExtendWith (.ref s.heap.objs.size) (.ref d) .none) _ _ _
 refine ax ?_;unfold Builtin.List.listItems;refine ax (wpAny_seqItems gS rfl (aQ ?_));show wpAny _ _ (updateSeq s.heap.objs.size (λ_=>#[]) >>= λ_=>letGo (#[]:Array aj).toList.reverse >>= λ_=>Builtin.List.listExtendWith (.ref s.heap.objs.size) (.ref d) .none) _ _ _
 refine ax (wpAny_updateSeq gS rfl ?_);have gT:=rC (Obj.mapSeq (λ_=>(#[]:Array aj))) gS rfl
 refine ax (wpAny_letGo ?_);have nS:∀b u,s.heap.get? b=some u->b≠s.heap.objs.size:=λb u e z=>by rw[z] at e;exact jE _ (cC e)
 have k1:∀b u,s.heap.get? b=some u->((s.heap.push { cls:=.type "list",data:=.seq #[]}).update s.heap.objs.size (Obj.mapSeq (λ_=>(#[]:Array aj)))).get? b=some u:=
  λb u e=>(pI _ _ (Ne.symm (nS b u e))).trans (cO _ e)
 have LC:((s.heap.push { cls:=.type "list",data:=.seq #[]}).update s.heap.objs.size (Obj.mapSeq (λ_=>(#[]:Array aj)))).objs.size=s.heap.objs.size+1:=by simp[Heap.update,Heap.push]
 generalize(s.heap.push { cls:=.type "list",data:=.seq #[]}).update s.heap.objs.size (Obj.mapSeq (λ_=>(#[]:Array aj)))=h1 at *
 have I1:Inv X aa Z H { s with heap:=h1,toks:=s.toks}:=I.kept k1;have hT1:Shared.TypeIs { s with heap:=h1} (.ref d) "dict":=⟨ob,k1 _ _ g1,g5.1⟩;unfold Builtin.List.listExtendWith;refine ax (wpAny_typeOf hT1 ?_);have ne:s.heap.objs.size≠d:=λe=>jE _ (e ▸ ld)
 have c1:Builtin.List.listSameRef (.ref s.heap.objs.size) (.ref d)=false:=by simp[Builtin.List.listSameRef,ne]
 have c2:(Value.type "dict" == Value.type "list")=false:=by decide
 have c3:(Value.type "dict" == Value.type "tuple")=false:=by decide
 simp only[c1,c2,c3,Hk,rD,m_];refine ax (N3 I1 hd ?_);have J_:Shared.TypeIs { s with heap:=h1.push { cls:=.type "dict_keyiterator",data:=.fields #[.ref d,.int 0 0,.int es.length 0,.int ep 0]}} (.ref d) "dict":=⟨ob,cO _ (k1 _ _ g1),g5.1⟩;refine ax (kP (SW J_ ?_));refine wpAny_ite_true (by decide +kernel) (ax (wpAny_rule (ax ?_)))
 show wpAny _ _ (updateSeq s.heap.objs.size (·.push .none) >>= λ_=>updateSeq s.heap.objs.size (·.pop)) _ _ _
 have gU:=cO { cls:=.type "dict_keyiterator",data:=.fields #[.ref d,.int 0 0,.int es.length 0,.int ep 0]} gT;refine ax (wpAny_updateSeq gU rfl ?_);have gV:=rC (Obj.mapSeq (·.push Value.none)) gU rfl
 refine wpAny_updateSeq (hz:=by seq_fits) gV rfl ?_
 have gW:=rC (Obj.mapSeq (·.pop)) gV rfl
 have gJ:(h1.push { cls:=.type "dict_keyiterator",data:=.fields #[.ref d,.int 0 0,.int es.length 0,.int ep 0]}).get? h1.objs.size=some { cls:=.type "dict_keyiterator",data:=.fields #[.ref d,.int 0 0,.int es.length 0,.int ep 0]}:=jr _ rfl;have K_:∀b o,b≠s.heap.objs.size->(h1.push { cls:=.type "dict_keyiterator",data:=.fields #[.ref d,.int 0 0,.int es.length 0,.int ep 0]}).get? b=some o->
   (((h1.push { cls:=.type "dict_keyiterator",data:=.fields #[.ref d,.int 0 0,.int es.length 0,.int ep 0]}).update s.heap.objs.size (Obj.mapSeq (·.push Value.none))).update s.heap.objs.size (Obj.mapSeq (·.pop))).get? b=some o:=
  λb o hb e=>(pI _ _ (Ne.symm hb)).trans ((pI _ _ (Ne.symm hb)).trans e)
 have hJ:h1.objs.size≠s.heap.objs.size:=by rw[LC];exact Nat.succ_ne_self _
 have dJ:d≠h1.objs.size:=gm (by rw[LC];exact z8 ld)
 have W:=(UK (P:=X.prog) (w:=X.w) (A:=A.in1.in1) (n:=es.length) (ep:=ep) hh h1.objs.size d dJ g2 hl).toS;have hSf:s.heap.objs.size∉[h1.objs.size,d]:=λm=>by
  simp at m;rcases m with m|m
  .exact hJ m.symm
  .exact ne m
 refine aQ ⟨plainId_quiet F.plain_extend_loop _,codeAny_extend_loopS W hz _ hSf _ es.length 0 _ _ _ rfl (lZ _) ⟨⟨_,K_ _ _ hJ gJ,rfl,rfl⟩,K_ _ _ (Ne.symm ne) (cO _ (k1 _ _ g1))⟩ gW (ItemsOf.nil _) λs' Cf c' hm hS' vi=>?_⟩
 obtain⟨m1,m2,m3,m4,m5⟩:=hm;have ve:s'={ s with heap:=s'.heap,toks:=s'.toks}:=by
  cases s';cases m2;cases m3;cases m4;rfl
 refine⟨rfl,hQ s' (λb u e=>m1 b u (λq=>?_) (K_ b u (nS b u e) (cO _ (k1 b u e)))) ve ⟨Cf.toList,c',?_,by simpa using hS'⟩⟩
 .rcases y04.mp q with q|q
  .exact nS b u e q
  .rw[kJ] at q;have:=cC e;rw[q,LC] at this;exact bW this (Nat.not_lt.mpr (tW _))
 .have h2:Cf.size=es.length:=vi.1;refine O3 (by simp[h2]) λj y u e1 e2=>?_
  rw[fW] at e1;obtain⟨e,e3,rfl⟩:=cV.mp e1;obtain⟨x,x1,x2⟩:=BZ j g3 e3;have h3:=vi.2 j u (by rw[<-xV];exact e2)
  have x1:xs[j]?=some x:=by rw[<-xV];exact x1
  have h3:Option.map (λx=>x.key) xs[j]?=some u:=h3
  rw[x1] at h3;cases h3;exact x2.2.1
def RP(K:PySem.W.Frag):List V->Hp->VK->Prop:=λxs H Q=>∃d es ep,xs=[.ref d]/\H d=some (.dG es ep)/\∀l,H l=none->Q (.ref l) (upd H l (.lst (es.map (·.2.1))))
def Tq(hc:X.calm=true):bH X (.type "list") (RP X.K):=by
 intro aa s Z H xs us Q I r h;obtain⟨d,es,ep,rfl,hd,q⟩:=h;obtain⟨u,rfl,ru⟩:=vals1 r;cases ru;refine Sl (I.ok.hd hc) I hd λs' kp ve hh=>?_
 obtain⟨aA,c,rv,g⟩:=hh;have hz:=(show bp X.prog X.w H s.heap d (.dG es ep) from I.bj d _ hd).1;rw[ve];exact⟨.ref s.heap.objs.size,_,I.laid kp (bF _) (show bp X.prog X.w _ s'.heap _ (.lst (es.map (·.2.1))) from⟨by rw[bc];exact hz,aA,c,rv,g⟩),rfl,q _ (I.bj.fresh (bF _))⟩
end
section
variable{X:Cx}{K:PySem.W.Frag}
def qj(r:V->List V->Hp->VK->Prop):List V->Hp->VK->Prop:=λvs H Q=>∃x xs,vs=x::xs/\r x xs H Q
def dZ:List D->ak (List Str)
 |[]=>some []
 |.str x::ds=>(dZ ds).map λxs=>x::xs
 |_=>none
theorem E5:∀xs:List Str,dZ (xs.map .str)=some xs
 |[]=>rfl
 |i::is=>by rw[bL];show(dZ (is.map .str)).map _=_;rw[E5 is];rfl
theorem E6:∀{ds:List D} {xs:List Str},dZ ds=some xs->ds=xs.map .str
 |[],xs,e=>by cases e;rfl
 |d::ds,xs,e=>by
  cases d with
  |str i=>
   obtain⟨js,e1,e2⟩:=cV.mp (show(dZ ds).map _=some xs from e);rw[<-e2,E6 e1];rfl
  |_=>cases e
theorem EX{F:Kn}:∀{ws:List V} {xs:List Str},ag K F ws (xs.map .str)->ws=xs.map .str
 |[],[],_=>rfl
 |[],_::_,h=>by have:=h.length;simp at this
 |_::_,[],h=>by have:=h.length;simp at this
 |w::ws,i::is,h=>by
  rw[bL] at h;have h1:=h.inv.1;have h2:=EX h.inv.2;rw[h2,bL];cases h1 with
  |flat e _=>cases e;rfl
theorem Ic:∀{xs:List Str} {aA:List aj},Vals (xs.map V.str) aA->∃ps:List (Str×Tok),aA=ps.map (λp=>Value.str p.1 p.2)/\ps.map (·.1)=xs
 |[],aA,h=>by
  rw[z7] at h;cases h;exact⟨[],rfl,rfl⟩
 |i::is,aA,h=>by
  rw[bL] at h;cases h with
  |cons r t=>
   obtain⟨ps,e1,e2⟩:=Ic t;obtain⟨tk,rfl⟩:=r;exact⟨(i,tk)::ps,by rw[e1];rfl,by rw[bL,e2]⟩
end
section
variable{X:Cx}{K:PySem.W.Frag}
def gE:List D->ak (List Bool)
 |[]=>some []
 |.bl b::ds=>(gE ds).map λbs=>b::bs
 |_=>none
theorem M':∀{ds:List D} {bs:List Bool},gE ds=some bs->ds=bs.map .bl
 |[],bs,e=>by cases e;rfl
 |d::ds,bs,e=>by
  cases d with
  |bl i=>
   obtain⟨js,e1,e2⟩:=cV.mp (show(gE ds).map _=some bs from e);rw[<-e2,M' e1];rfl
  |_=>cases e
theorem Na{F:Kn}:∀{ws:List V} {bs:List Bool},ag K F ws (bs.map .bl)->ws=bs.map .bl
 |[],[],_=>rfl
 |[],_::_,h=>by have:=h.length;simp at this
 |_::_,[],h=>by have:=h.length;simp at this
 |w::ws,i::is,h=>by
  rw[bL] at h;have h1:=h.inv.1;have h2:=Na h.inv.2;rw[h2,bL];cases h1 with
  |flat e _=>cases e;rfl
def UL(K:PySem.W.Frag)(hc:X.calm=true:=by rfl)(hK:X.K=K:=by rfl):bH X (.builtin "all") (λxs H Q=>∃(a:ah) (bs:List Bool),xs=[.ref a]/\cz K H a (bs.map V.bl)/\Q (.bl (bs.all id)) H):=hK ▸ Um hc
noncomputable def AZ(z:Str):aj->Bool
 |.str y _=>y == z
 |_=>false
def P5(K:PySem.W.Frag):V->List V->Hp->VK->Prop:=λx xs H Q=>∃(a:ah) (ys:List Str) (z:Str) (j:Nat),x=.ref a/\xs=[.str z]/\cz K H a (ys.map V.str)/\ys[j]?=some z/\(∀i y,i<j->ys[i]?=some y->y≠z)/\Q (.int (j:Nat)) H
theorem VZ(K:PySem.W.Frag)(hK:X.K=K:=by rfl):Ag X "list.index" (P5 K):=by
 subst hK;intro aa s Z H x xs v us Q I rx rs h;obtain⟨a,ys,z,j,rfl,rfl,hq,hj,eY,q⟩:=h;cases rx;obtain⟨u,rfl,ru⟩:=vals1 rs;obtain⟨t,rfl⟩:=ru;obtain⟨aA,rv,p,hz⟩:=I.list hq;obtain⟨ps,e1,e2⟩:=Ic rv;subst e1;obtain⟨ob,n,eo,hcl,hdi,hda⟩:=p;have hlen:ps.length=ys.length:=by rw[<-e2,bc]
 have hjl:j<ys.length:=(eR.mp hj).1;have hit:∀i (hi:i<ps.length),(ps.map λp=>Value.str p.1 p.2)[i]?=some (Value.str ps[i].1 ps[i].2):=λi hi=>by simp[hi]
 have GN:∀i (hi:i<ps.length),ys[i]?=some ps[i].1:=λi hi=>by rw[<-e2];simp[hi]
 have hsz:(ps.map λp=>Value.str p.1 p.2).toArray.size=ps.length:=by simp
 have Kk:ps[j].1=z:=by
  simp_all
 obtain⟨cl,di,da,sl⟩:=ob;cases hcl;cases hda;have GP:ys.length<=16777216:=by rw[bc,sizeLine_eq] at hz;exact hz
 refine call_meets F.slot_list_index ⟨_,eo,rfl⟩ F.entry_list_index (F.args_list_index_2 _ _) (SeqAt.list_indexAt a _ n di sl (.str z t) (AZ z) j (by rw[hsz];lia) (by lia) ?_ ?_) ⟨eo,?_,?_⟩
 .simp[AZ,Kk]
 .intro i hi qe;rw[hsz] at hi;have:=eY i _ qe (GN i hi);simp[AZ];exact this
 .intro y hy;simp at hy;obtain⟨b,t',_,rfl⟩:=hy;exact SeqAt.EqAt.str_str b t' z t
 .exact⟨.int (j:Nat),H,I.tok _,⟨_,rfl⟩,q⟩
def findS(ys:List Str)(z:Str):ak Nat:=ys.findIdx? (· == z)
def BS{ys:List Str}{z:Str}{j:Nat}(e:findS ys z=some j):ys[j]?=some z/\∀i y,i<j->ys[i]?=some y->y≠z:=by
 unfold findS at e;rw[List.findIdx?_eq_some_iff_getElem] at e;obtain⟨h,h1,h2⟩:=e;refine⟨by rw[i5 h];congr 1;exact eq_of_beq h1,λi y hi ey=>?_⟩
 have:=h2 i hi;obtain⟨hl,e3⟩:=eR.mp ey;rw[e3] at this;intro z';subst z';simp at this
end
section
variable{X:Cx}{K:PySem.W.Frag}
def O4:V->List V->Hp->VK->Prop:=λx xs H Q=>∃(l:ah) (ys:List Str) (z:Str) (j:Nat),x=.ref l/\xs=[.str z]/\H l=some (.lst (ys.map V.str))/\ys[j]?=some z/\(∀i y,i<j->ys[i]?=some y->y≠z)/\Q .aG (upd H l (.lst ((ys.eraseIdx j).map V.str)))
theorem E7{α β:Type}(f:α->β):∀(xs:List α) (j:Nat),(xs.map f).eraseIdx j=(xs.eraseIdx j).map f
 |[],j=>by simp
 |_::_,0=>rfl
 |x::xs,j+1=>by show f x::(xs.map f).eraseIdx j=f x::(xs.eraseIdx j).map f;rw[E7 f xs j]
theorem ME:∀{ps:List (Str×Tok)},Vals ((ps.map (·.1)).map V.str) (ps.map λp=>Value.str p.1 p.2)
 |[]=>.nil
 |p::ps=>.cons ⟨p.2,rfl⟩ ME
theorem UM:Ag X "list.remove" O4:=by
 intro aa s Z H x xs v us Q I rx rs h;obtain⟨l,ys,z,j,rfl,rfl,hH,hj,eY,q⟩:=h;cases rx;obtain⟨u,rfl,ru⟩:=vals1 rs;obtain⟨t,rfl⟩:=ru;obtain⟨hz,aA,n,rv,hl,eo⟩:=I.zv hH;obtain⟨ps,e1,e2⟩:=Ic rv;subst e1;have hlen:ps.length=ys.length:=by rw[<-e2,bc]
 have hjl:j<ys.length:=(eR.mp hj).1;have GN:∀i (hi:i<ps.length),ys[i]?=some ps[i].1:=λi hi=>by rw[<-e2];simp[hi]
 have hsz:(ps.map λp=>Value.str p.1 p.2).toArray.size=ps.length:=by simp
 have Kk:ps[j].1=z:=by
  have:=GN j (by lia)
  rw[hj] at this;exact(Option.some.inj this).symm
 refine call_meets F.slot_list_remove ⟨_,eo,rfl⟩ F.entry_list_remove (F.args_list_remove_2 _ _) (MeetsSeq.list_remove l _ n (.str z t) (AZ z) ?_ j (by rw[hsz];lia) ?_ ?_ (by rw[hsz,hlen];simpa using hz)) ⟨eo,?_⟩
 .intro y hy;simp at hy;obtain⟨b,t',_,rfl⟩:=hy;show MeetsSeq.EqGives _ _ (b == z);rw[<-SeqAt.str_beq];exact SeqRoads2.EqGives.str b z t' t
 .simp[AZ,Kk]
 .intro i hi qe;rw[hsz] at hi;have:=eY i _ qe (GN i hi);simp[AZ];exact this
 .refine⟨.aG,_,I.zu (its':=(ps.eraseIdx j).map λp=>Value.str p.1 p.2) hH eo ?_ ?_ ?_,rfl,q⟩
  .apply Array.toList_inj.mp;simp[Array.toList_eraseIdxIfInBounds,E7]
  .rw[<-e2,E7];exact ME
  .rw[bc];have:=List.length_eraseIdx_le ys j;rw[bc] at hz;lia
end
end L2
namespace L2
open PySem PySem.Spec PySem.W PyProof.Rows
def V0{P:cS}{w:cg}{xs:List DictEntry}{kvs:List (Str×aj)}(p:Pairs (strKind P w) xs kvs):∀{es:List (TK×V×V)},(∀x∈xs,∃k,(strKind P w).is k x.key=true/\x.hash=(strKind P w).hash k)->kvs.map (λp=>TK.inr p.1)=es.map (·.1)->Vals (es.map (·.2.2)) (kvs.map (·.2))->g9 es->Paired (iJ w) es xs:=by
 induction p with
 |nil=>
  intro es _ e _ _;cases es with
  |nil=>exact .nil
  |cons _ _=>cases e
 |@cons x kv xs kvs h1 h2 _ ih=>
  intro es hk e v t;cases es with
  |nil=>cases e
  |cons a es=>
   rw[bL,bL,List.cons.injEq] at e;cases v with
   |cons v1 v2=>
    refine .cons ?_ (ih (λy m=>hk y (.tail _ m)) e.2 v2 λy m=>t y (.tail _ m))
    obtain⟨k,k1,k2⟩:=hk x (.head _);obtain⟨z,t1,t2⟩:=t a (.head _);have i1:Value.isStrOf kv.1 x.key=true:=h1;have i2:Value.isStrOf k x.key=true:=k1;cases hx:x.key with
    |str s tk=>
     rw[hx] at i1 i2;have j1:s=kv.1:=by simpa[Value.isStrOf] using i1
     have j2:s=k:=by simpa[Value.isStrOf] using i2
     have j3:kv.1=z:=by
      have:=e.1.trans t1;cases this;rfl
     refine⟨?_,?_,by rw[h2];exact v1,by rw[t1];rfl⟩
     .rw[k2,t1,<-j2,j1,j3];rfl
     .rw[t2,hx,j1,j3];exact⟨tk,rfl⟩
    |_=>rw[hx] at i1;cases i1
noncomputable def gj(z:Str)(k:TK):Bool:=decide (k≠.inr z)
theorem O5(z:Str):∀{es:List (TK×V×V)} {kvs:List (Str×aj)},kvs.map (λp=>TK.inr p.1)=es.map (·.1)->Vals (es.map (·.2.2)) (kvs.map (·.2))->(without kvs z).map (λp=>TK.inr p.1)=(es.filter λe=>gj z e.1).map (·.1)/\Vals ((es.filter λe=>gj z e.1).map (·.2.2)) ((without kvs z).map (·.2))
 |[],[],_,_=>⟨rfl,.nil⟩
 |[],_::_,e,_=>by cases e
 |_::_,[],e,_=>by cases e
 |a::es,kv::kvs,e,v=>by
  rw[bL,bL,List.cons.injEq] at e;cases v with
  |cons v1 v2=>
   obtain⟨i1,i2⟩:=O5 z e.2 v2;unfold without at *;by_cases h:kv.1=z
   .have h':gj z a.1=false:=by unfold gj;rw[<-e.1,h];simp
    rw[tZ,tZ,aK (by simp[h]),aK (by rw[h'];exact oz)]
    exact⟨i1,i2⟩
   .have h':gj z a.1=true:=by unfold gj;rw[<-e.1];simpa using h
    rw[tZ,tZ,aP (by simpa using h),aP h']
    exact⟨by rw[bL,bL,i1,e.1],.cons v1 i2⟩
theorem P6(z:Str){v:V}:∀{es:List (TK×V×V)} {kvs:List (Str×aj)},kvs.map (λp=>TK.inr p.1)=es.map (·.1)->Vals (es.map (·.2.2)) (kvs.map (·.2))->jD es (.inr z)=some v->∃u,valueAt kvs z=some u/\RelV v u
 |[],[],_,_,h=>by cases h
 |[],_::_,e,_,_=>by cases e
 |_::_,[],e,_,_=>by cases e
 |a::es,kv::kvs,e,vs,h=>by
  rw[bL,bL,List.cons.injEq] at e;cases vs with
  |cons v1 v2=>
   unfold jD at h;unfold valueAt;rw[t6] at h ⊢;by_cases g:kv.1=z
   .have g':a.1=.inr z:=by rw[<-e.1,g]
    rw[rG g'] at h;rw[rG g];cases h;exact⟨_,rfl,v1⟩
   .have g':¬a.1=.inr z:=by rw[<-e.1];intro x;cases x;exact g rfl
    rw[rH g'] at h;rw[rH g];exact P6 z e.2 v2 h
def xG(K:PySem.W.Frag):V->List V->Hp->VK->Prop:=λx vs H Q=>∃d es ep z v,x=.ref d/\vs=[.str z]/\H d=some (.dG es ep)/\g9 es/\jD es (.inr z)=some v/\∀o_,Q v (upd H d (.dG (es.filter λe=>gj z e.1) o_))
def YX{X:Cx}(K:PySem.W.Frag):Ag X "dict.pop" (xG K):=by
 intro aa s Z H x xs v us Q I rx rs h;obtain⟨d,es,ep,z,v',rfl,rfl,hd,ht,hv,q⟩:=h;cases rx;obtain⟨u,rfl,ru⟩:=rs.one;obtain⟨tk,rfl⟩:=ru;obtain⟨kvs,D1,D2,D3,D4,lo⟩:=AI I hd ht;obtain⟨w,hw,mT⟩:=P6 z D3 D2 hv;refine call_meetsIn PySem.F.slot_dict_pop (FF I hd).1 PySem.F.entry_dict_pop (PySem.F.args_dict_pop_2 _ _) (meets_dict_pop_there (strKind X.prog X.w) d (k:=z) (by show Value.isStrOf z (.str z tk)=true;simp[Value.isStrOf]) [] (.inl rfl) (by rfl)) ⟨kvs,w,D1.dictOf,D4,hw,λh' hD hs=>?_⟩
 obtain⟨o,xs,o_,g1,g2,g3,g4,g5,g6⟩:=hD;obtain⟨f1,f2⟩:=O5 z D3 D2;obtain⟨hz,_⟩:=(show bp X.prog X.w H s.heap d (.dG es ep) from I.bj d _ hd);refine⟨v',_,I_ (ob:=.dG (es.filter λe=>gj z e.1) o_) I (by rw[hd];exact t8) hs ⟨_,g1⟩ ⟨?_,lo,o,xs,g1,g2,g3,V0 g5 (λx m=>g4 x (L7.mp m)) f1 f2 λe m=>ht e (rB.mp m).1,?_⟩,mT,q o_⟩
 .exact i4 (Ad _ _) hz
 .rw[<-f1,show(λp:Str×aj=>TK.inr p.1)=TK.inr∘(·.1) from rfl,<-jS]
  exact List.Pairwise.map _ (λa b ne z=>ne (by cases z;rfl)) g6
end L2
namespace L2
open PySem PySem.Spec PyProof.Rows
section
variable{X:Cx}{K:PySem.W.Frag}
def xA(K:PySem.W.Frag):V->List V->Hp->VK->Prop:=λx xs H Q=>∃a y o,x=.ref a/\xs=[y]/\gA K H a y o/\Q (o.getD .aG) H
def YY(K:PySem.W.Frag)(hu:X.A.units+41<cLine)(hK:X.K=K:=by rfl):Ag X "dict.get" (xA K):=by
 subst hK;intro aa s Z H x xs v us Q I r rs h;obtain⟨a,y,o,rfl,rfl,g,q⟩:=h;obtain⟨u,rfl,ru⟩:=Vals.one rs;cases r;exact e1f (by lia) I g ru λw' s' I' mT=>⟨o.getD .aG,H,I',mT,q⟩
end
end L2
namespace L2
open PySem PySem.Spec PySem.W PyProof.Rows
section
variable{X:Cx}{A:cD}{E:aj->aq->Prop}{aa:List (ah×Obj)}{Z:St}{H:Hp}{s:aq}{d:ah}{y v2:V}{u r:aj}
end
section
variable{X:Cx}{K:PySem.W.Frag}
end
end L2
namespace L2
open PySem PySem.Spec PyProof.Rows
def IK{P:cS}{w:cg}{H:Hp}(h:bM)(hb:sysModules<h.objs.size):bp P w H (h.push { cls:=.type "dict",data:=.dict #[]}) h.objs.size (.dG [] 0):=
 ⟨lZ _,oB.mpr (Ne.symm (gm hb)),_,#[],jr _ rfl,⟨rfl,rfl,rfl⟩,rfl,.nil,Hm⟩
def e1t:TE:=λ_ H Q=>∀p,H p=none->Q (.ref p) (upd H p (.dG [] 0))
end L2
namespace L2
open PySem PySem.Spec PySem.W PyProof.Rows
variable{H:Hp}{ps:List (TK×V×V)}{A:cD}{l:ah}{ys:List V}{E:aj->aq->Prop}{s:aq}
def Mw:entryFor table "dict.update.loop"=some Builtin.«dict.update.loop»:=entryFor_of_tree (by kernel_rfl)
def EF:plainId "dict.update.loop"=true:=by decide +kernel
def eC(es:List (TK×V×V))(ps:List (TK×V×V)):List (TK×V×V):=ps.foldl (λes p=>cU es p.1 p.2.1 p.2.2) es
def Fg{d:ah}{o:HO}(h:H d=none):aw H (upd H d o):=λb u e=>by
 rw[cQ (λz=>by rw[z,h] at e;cases e)]
 exact e
section
variable{X:Cx}{aa:List (ah×Obj)}{Z:St}{H:Hp}
structure jF (K:PySem.W.Frag) (H:Hp) (ys:List V) (ps:List (TK×V×V)):Prop where
 len:ys.length=ps.length
 item:∀(i:Nat) p,ps[i]?=some p->∃a,ys[i]?=some (.ref a)/\gu K H a [p.2.1,p.2.2]/\aY K H [p.2.1] [p.1.d]/\p.1.ok 8=true
def Tr(es ps:List (TK×V×V)):(eC es ps).length<=es.length+ps.length:=by
 induction ps generalizing es with
 |nil=>exact bF _
 |cons p ps ih=>
  grind [EV,eC]
def Nb(K:PySem.W.Frag)(h:∀p∈ps,aY K H [p.2.1] [p.1.d]):∀{es:List (TK×V×V)},aY K H (es.map (·.2.1)) (es.map (·.1.d))->aY K H ((eC es ps).map (·.2.1)) ((eC es ps).map (·.1.d)):=by
 induction ps with
 |nil=>exact λr=>r
 |cons p ps ih=>
  intro es r;refine ih (λq m=>h q (.tail _ m)) ?_
  have hp:=h p (.head _);clear ih h
  induction es with
  |nil=>exact hp
  |cons e es ih=>
   obtain⟨r1,r2⟩:=ag.inv r;show aY K H ((if e.1=p.1 then(e.1,e.2.1,p.2.2)::es else e::cU es p.1 p.2.1 p.2.2).map (·.2.1)) ((if e.1=p.1 then(e.1,e.2.1,p.2.2)::es else e::cU es p.1 p.2.1 p.2.2).map (·.1.d))
   split
   .exact .cons r1 r2
   .exact .cons r1 (ih r2)
def Ts{R:Result->aq->Prop}{d J:ah}(hd:H d=none)(hl:cz X.K H l ys)(hp:jF X.K H ys ps)(hh:A.handled=none)(hu:A.units+12<cLine)(hn:ps.length<1000)
  (hJ:∀u,iN X aa (upd H d u) J)
  (fin:∀s ep,Inv X aa Z (upd H d (.dG (eC [] ps) ep)) s->R (.ok (.ret .none)) s) :
  ∀(n i:Nat) (ep:Nat) (s:aq) (tk:Tok),ps.length - i=n->i<=ps.length->Inv X aa Z (upd H d (.dG (eC [] (ps.take i)) ep)) s->s.heap.IsListIter J l i->codeAny (model X.prog X.w) A (.builtin "dict.update.loop" ⟨[.ref d,.ref J,.int (i:Int) tk,.none],[]⟩) R s:=by
 intro n
 induction n with
 |zero=>
  intro i ep s tk hi hi2 I it;have e:i=ps.length:=by lia
  subst e;refine codeAny_builtin Mw ?_;rw[Around.under_plainId EF _];show wpAny _ A.in1 (pyNext (.ref J) >>= _) _ _ s;have mE:=(Fg (o:=.dG (eC [] (ps.take ps.length)) ep) hd).seq hl;obtain⟨aA,rv,p,hz⟩:=I.list mE;obtain⟨f0,f1,f2,f3,f4,f5⟩:=hJ (.dG (eC [] (ps.take ps.length)) ep);have hlen:=rv.length;have Dc:=hp.len;refine ax (wpAny_pyNext_list_end hh it p.isList (by simp;lia) λh' eb=>?_)
  have I1:=I.turned (t':=s.toks) (λb o hb e=>eb b o hb e) f0 f1 f3 f4 f5
  rw[Md] at I1;exact ax (aQ (aQ (fin _ ep I1)))
 |succ n ih=>
  intro i ep s tk hi hi2 I it;have lt:i<ps.length:=by lia
  obtain⟨a,ya,sq,rk,ok⟩:=hp.item i ps[i] (i5 lt);refine codeAny_builtin Mw ?_;rw[Around.under_plainId EF _];show wpAny _ A.in1 (pyNext (.ref J) >>= _) _ _ s;have sm:=Fg (o:=.dG (eC [] (ps.take i)) ep) hd;obtain⟨aA,rv,p,hz⟩:=I.list (sm.seq hl);obtain⟨u,hu1,ru⟩:=rv.get ya;obtain rfl:u=Value.ref a:=ru;obtain⟨f0,f1,f2,f3,f4,f5⟩:=hJ (.dG (eC [] (ps.take i)) ep);refine ax (wpAny_pyNext_list_item it p.isList (x:=.ref a) (by simpa using hu1) λh' Bb sb=>?_)
  have I1:Inv X aa Z (upd H d (.dG (eC [] (ps.take i)) ep)) { s with heap:=h'}:=I.turned (t':=s.toks) (λb o hb e=>(sb.2 b hb).trans e) f0 f1 f3 f4 f5
  obtain⟨iB,G3,tp,_⟩:=I1.tuple (sm.zT sq);obtain⟨w1,w2,rfl,r1,r2⟩:∃w1 w2,iB=[w1,w2]/\RelV ps[i].2.1 w1/\RelV ps[i].2.2 w2:=by
   cases G3 with
   |cons r1 t=>
    cases t with
    |cons r2 t=>cases t;exact⟨_,_,rfl,r1,r2⟩
  obtain⟨o,ho,hc,n0,vm⟩:∃o,h'.get? a=some o/\o.cls=.type "tuple"/\∃n,o.data=.seq #[w1,w2] n:=by
   obtain⟨o,h1,h2,h3⟩:=tp;exact⟨o,h1,h2,h3⟩
  have hT:({ s with heap:=h'}:aq).TypeIs (.ref a) "tuple":=⟨o,ho,hc⟩;refine ax (kP (ax (wpAny_tryCatch ?_)));unfold Builtin.Dict.pairItems;refine ax (wpAny_typeOf hT ?_);rw[aP (by decide)]
  refine ax (m:=seqItems? (.ref a)) (ax (wpAny_load ho ?_));rw[vm];refine aQ (aQ ?_);show wpAny _ _ (holding [w1,w2] (dictSet d w1 w2)) _ _ _;refine kP ?_;have I2:=I1.pinned (fp:=[J]) (λb hb=>by rw[kJ.mp hb];exact hJ _) (λb hb=>by
   rw[kJ.mp hb];obtain⟨oj,ej,_,dj⟩:=Bb;exact⟨oj,ej,λv z=>by rw[dj] at z;cases z⟩)
  have tk1:ps.take (i+1)=ps.take i++[ps[i]]:=(List.take_append_getElem lt).symm;have hpa:cU (eC [] (ps.take i)) ps[i].1 ps[i].2.1 ps[i].2.2=eC [] (ps.take (i+1)):=by rw[tk1];unfold eC;rw[Me];rfl
  have hlen:=Tr [] (ps.take i);rw[z6,Bp] at hlen;refine Iy (H':=upd (upd H d (.dG (eC [] (ps.take i)) ep)) d (.dG (eC [] (ps.take (i+1))) (qR (eC [] (ps.take i)) ps[i].1 ep))) (show A.in1.units+8<cLine from ?_) I2 ⟨_,ep,ps[i].1,aI,?_,(ag.Ha rk sm),ok,?_,by rw[hpa]⟩ r1 r2 λs' I3=>?_
  .lia
  .exact ag.Ha (H:=H) (Nb X.K (λq m=>by
    obtain⟨j,hj⟩:=Em.mp (List.mem_of_mem_take m);obtain⟨_,_,_,r,_⟩:=hp.item j q hj;exact r) .nil) sm
  .exact fI (by lia:(eC [] (ps.take i)).length<1000000) (by decide)
  .have eu:upd (upd H d (.dG (eC [] (ps.take i)) ep)) d (.dG (eC [] (ps.take (i+1))) (qR (eC [] (ps.take i)) ps[i].1 ep))=upd H d (.dG (eC [] (ps.take (i+1))) (qR (eC [] (ps.take i)) ps[i].1 ep)):=by
    funext b;unfold upd;split <;> rfl
   rw[eu] at I3;obtain⟨oj,ej,cj,dj⟩:=id Bb;have ej':s'.heap.get? J=some oj:=(I3.pin (J,oj) (oR _ (oR _ (BR (by simp) ej)))).1
   refine aQ ⟨plainId_quiet EF _,?_⟩;exact ih (i+1) _ s' _ (by lia) lt I3.d_ ⟨oj,ej',cj,dj⟩
theorem UN{aA:Array aj}{Q:ak aj->aq->Prop}(pl:PlainL s.heap l aA)(hA:A.handled=none)
  (h:∀h' tk,(∀b u,s.heap.get? b=some u->h'.get? b=some u)->Q none { s with heap:=h',toks:=tk}):wpAny (model X.prog X.w) A (getAttr? (.ref l) "keys") Q E s:=by
 obtain⟨o,n,hx,hc,hd,vm⟩:=pl;obtain⟨c,ar,dat,sl⟩:=o;simp only at hc vm hd;subst hc vm hd;obtain⟨hp,g,d,tk,os⟩:=s;have hT:∀RX,(⟨hp,g,d,RX,os⟩:aq).TypeIs (.ref l) "list":=λ_=>⟨_,hx,rfl⟩
 have f1:=sub_AttributeError;have f3:=F.slot_list_getattribute.lookup;have f4:=F.slot_list_getattribute.bind (.ref l);have f5:=am_list_getattr_none;unfold getAttr? getAttrBy? getAttrBy
 repeat (any_goals (first|assumption|exact hT _|((with_reducible show wpAny _ _ (call (Value.builtin "list.__getattribute__") _ _) _ _ _);refine call_meets F.slot_list_getattribute (hT _) am_entry_list_getattribute (F.args_list_getattribute_2 _ _) (meets_getattribute_miss_list l aA n sl "keys" _ (by rw[typeLookup_type,builtinLookup_eq_fast];kernel_rfl) (by decide) (by size_fits)) ⟨hx,hA,λh' RX e ur=>?_⟩)|wp_step))
 obtain⟨t',u',he⟩:=ur.there;show wpAny _ _ (getattributeRaised _ _ _ _ _ _ _) _ _ _;unfold getattributeRaised
 repeat (any_goals (first|assumption|wp_step))
 exact h _ _ ur.keeps
theorem Si{Q:aj->aq->Prop}(I:Inv X aa Z H s)(hl:cz X.K H l ys)(hp:jF X.K H ys ps)(hh:A.handled=none)(hu:A.units+20<cLine)(hn:ps.length<1000)
  (q:∀s' ep,Inv X aa Z (upd H s.heap.objs.size (.dG (eC [] ps) ep)) s'->Q (.ref s.heap.objs.size) s'):wpAny (model X.prog X.w) A (call (.type "dict") [.ref l]) Q E s:=by
 refine callType_codes (Q₁:=λobj s₁=>obj=.ref s.heap.objs.size/\s₁={ s with heap:=s.heap.push { cls:=.type "dict",data:=.dict #[]}}) F.kt_called_dict (F.kt_typeCall_dict_1 _) F.entry_dict_init (kt_code_dict_new _ ⟨rfl,rfl⟩) ?_
 rintro obj s₁ ⟨rfl,rfl⟩;have hd:H s.heap.objs.size=none:=I.bj.fresh (bF _);have I1:=I.laid (a:=s.heap.objs.size) (o:=.dG [] 0) (h':=s.heap.push { cls:=.type "dict",data:=.dict #[]}) (t':=s.toks) (λ_ _ q=>cO _ q) (bF _) (IK s.heap I.big)
 generalize s.heap.objs.size=d at *;generalize s.heap.push { cls:=.type "dict",data:=.dict #[]}=Kv at *;have hT:=(FF I1 aI).1;obtain⟨aA,rv,pl,hz⟩:=I1.list ((Fg hd).seq hl);have hTl:({ s with heap:=Kv,toks:=s.toks}:aq).TypeIs (.ref l) "list":=by
  obtain⟨o,n,h1,h2,_⟩:=pl;exact⟨o,h1,h2⟩
 refine⟨hT,F.args_dict_init_2 _ _,?_⟩;unfold Builtin.«dict.__init__»;refine ax ?_;unfold Builtin.Dict.selfAndRest;refine ax (wpAny_notOrdered_dict hT ?_);show wpAny _ _ (pure (d,[Value.ref l])) _ _ _;refine aQ ?_;show wpAny _ _ (Builtin.Dict.updateFrom "dict.__init__" d (.ref l) [] .none) _ _ _;unfold Builtin.Dict.updateFrom;refine ax (wpAny_typeOf hTl ?_);rw[aP (by decide)]
 refine ax (UN (X:=X) pl (show A.in1.in1.handled=none from hh) λh' tk kp=>?_)
 have I2:Inv X aa Z (upd H d (.dG [] 0)) { s with heap:=h',toks:=tk}:=I1.kept (t':=tk) kp;obtain⟨iB,G3,DI,_⟩:=I2.list ((Fg hd).seq hl);show wpAny _ _ (rule _ >>= _) _ _ _;refine ax (wpAny_rule ?_);refine ax (wpAny_pyIter_list DI.isList ?_);have I3:=I2.kept (h':=h'.push { cls:=.type "list_iterator",data:=.fields #[.ref l,.int 0 0]}) (t':=tk) (λ_ _ e=>cO _ e)
 have QI:d<h'.objs.size:=by
  obtain⟨_,_,o,xs,g1,_⟩:=(show bp X.prog X.w _ h' d (.dG [] 0) from I2.bj d _ aI);exact cC g1
 refine aQ ⟨plainId_quiet EF _,?_⟩;refine Ts (A:=A.in1) (J:=h'.objs.size) hd hl hp hh (show A.units+1+12<cLine by lia) hn (λu=>I2.k6 (bF _) ?_) (λs' ep I4=>⟨rfl,q s' ep I4⟩) ps.length 0 0 _ _ rfl (lZ _) I3 ⟨_,jr _ rfl,rfl,rfl⟩
 rw[cQ (xR QI)];have:=I2.bj.fresh (bF _)
 rwa[cQ (xR QI)] at this
def P7(K:PySem.W.Frag):List V->Hp->VK->Prop:=λvs H Q=>∃a ys ps,vs=[.ref a]/\cz K H a ys/\jF K H ys ps/\ps.length<1000/\∀p ep,H p=none->Q (.ref p) (upd H p (.dG (eC [] ps) ep))
def Tt(K:PySem.W.Frag)(hu:X.A.units+41<cLine)(hc:X.calm=true:=by rfl)(hK:X.K=K:=by rfl):bH X (.type "dict") (P7 K):=by
 subst hK;intro aa s Z H xs us Q I r h;obtain⟨a,ys,ps,rfl,hl,hp,hn,q⟩:=h;obtain⟨u,rfl,ru⟩:=vals1 r;cases ru;exact Si I hl hp (I.ok.hd hc) (by lia) hn λs' ep I'=>⟨.ref s.heap.objs.size,_,I',rfl,q _ ep (I.bj.fresh (bF _))⟩
end
end L2
namespace L2
open PySem PySem.Spec PySem.W PySem.Calls PyProof.Rows
section
variable{prog:cS}{w:cg}{A:cD}{E:aj->aq->Prop}{s:aq}
def P8{vs:List aj}(h:vs.length<2):(arrOf (SortSt.mk' general' (vs.toArray.zip vs.toArray) #[] 7 none)).map (·.2)=vs.toArray:=by
 grind
def Tu{a:ah}{vs:List aj}{n:Nat}{P:Fin->aq->Prop}(ho:s.heap.get? a=some (seqObj "list" vs.toArray n))(h1:vs.length<2)
  (h:P (.done (.ret .none)) { s with heap:=sortedHeap s.heap a vs vs.toArray}):wpAny (model prog w) A (Builtin.«list.sort» ⟨[.ref a],[]⟩) P E s:=by
 rw[list_sort_plain];have ha:a<s.heap.objs.size:=cC ho;have hz:vs.length<=sizeLine:=by rw[sizeLine_eq];lia
 refine ax (listItems_at ho rfl ?_);refine ax (listUpdate_at ho rfl ?_ (by rw[cZ];exact hz) (lZ _))
 obtain⟨e1,ze⟩:∃e1,(s.heap.update a (Obj.mapSeq λ_=>#[])).get? a=some (seqObj "list" #[] e1):=⟨_,get?_update_seq ho (λ_=>#[])⟩
 refine ax (seqEpoch_at ze rfl ?_);refine ax (wpAny_newTuple ?_ (by show vs.length<=_;exact hz))
 refine ax (wpAny_newList ?_ (lZ _));refine kP ?_;have zf:(((s.heap.update a (Obj.mapSeq λ_=>#[])).push (seqObj "tuple" vs.toArray 0)).push (seqObj "list" #[] 0)).get? a=some (seqObj "list" #[] e1):=by
  rw[Ep _ _ _ (by rw[size_push',Mf];exact gm (z8 ha)),Ep _ _ _ (by rw[Mf];exact gm ha)]
  exact ze
 show wpAny (model prog w) A _ P E { s with heap:=((s.heap.update a (Obj.mapSeq λ_=>#[])).push (seqObj "tuple" vs.toArray 0)).push (seqObj "list" #[] 0)}
 dsimp only;have h2:vs.toArray.size<2:=by simpa using h1
 rw[aP h2,aP h2];refine ax (aQ ?_);rw[StateT.run_pure];refine ax (aQ ?_);dsimp only;refine ax (seqEpoch_at zf rfl ?_);refine ax (listUpdate_at zf rfl ?_ (lZ _) (by rw[P8 h1,cZ];first|exact hz|exact Nat.le_succ_of_le hz))
 simp only[bne_self_eq_false,rD,m_];rw[P8 h1];exact aQ h
def V1{vs:List aj}{h0:bM}{Q:aj->aq->Prop}(h1:vs.length<2)(h:∀h' c,(∀b o,h0.get? b=some o->h'.get? b=some o)->h'.get? h0.objs.size=some (seqObj "list" vs.toArray c)->Q (.ref h0.objs.size) { s with heap:=h'}):
  wpAny (model prog w) A (call (.builtin "list.sort") [.ref h0.objs.size]) (λ_ s'=>Q (.ref h0.objs.size) s') E { s with heap:=h0.push (seqObj "list" vs.toArray 0)}:=by
 have ho:(h0.push (seqObj "list" vs.toArray 0)).get? h0.objs.size=some (seqObj "list" vs.toArray 0):=jr _ rfl;refine wpAny_call_entry slot_list_sort ⟨_,ho,rfl⟩ entry_list_sort ?_ (args_list_sort _);refine Tu (s:={ s with heap:=h0.push (seqObj "list" vs.toArray 0)}) ho h1 ⟨_,rfl,?_⟩;have lt:h0.objs.size<(h0.push (seqObj "list" vs.toArray 0)).objs.size:=cC ho;obtain⟨e1,ze⟩:∃e1,((h0.push (seqObj "list" vs.toArray 0)).update h0.objs.size (Obj.mapSeq λ_=>#[])).get? h0.objs.size=some (seqObj "list" #[] e1):=⟨_,get?_update_seq ho (λ_=>#[])⟩
 have zf:((((h0.push (seqObj "list" vs.toArray 0)).update h0.objs.size (Obj.mapSeq λ_=>#[])).push (seqObj "tuple" vs.toArray 0)).push (seqObj "list" #[] 0)).get? h0.objs.size=some (seqObj "list" #[] e1):=cO _ (cO _ ze)
 have ho7:=get?_update_seq zf (λ_=>vs.toArray)
 refine h _ _ (λb o e=>?_) ho7
 have nb:b≠h0.objs.size:=gm (cC e);unfold sortedHeap;rw[Ho _ _ _ _ nb];refine cO _ (cO _ ?_);rw[Ho _ _ _ _ nb];exact cO _ e
def UO{P:List aj->Prop}{r:ah}{Q:aj->aq->Prop}(h1:∀vs,P vs->vs.length<2)(hc:∀R:List aj->aq->Prop,(∀vs (h':bM) (tk:Nat),P vs->(∀b o,s.heap.get? b=some o->h'.get? b=some o)->R vs { s with heap:=h',toks:=tk})->wpAny (model prog w) A.in1 (collect (.ref r)) R E s)
  (h:∀vs (h0:bM) (tk:Nat),P vs->(∀b o,s.heap.get? b=some o->h0.get? b=some o)->∀(h':bM) (c:Nat),(∀b o,h0.get? b=some o->h'.get? b=some o)->h'.get? h0.objs.size=some (seqObj "list" vs.toArray c)->Q (.ref h0.objs.size) { s with heap:=h',toks:=tk}):wpAny (model prog w) A (call (.builtin "sorted") [.ref r]) Q E s:=by
 refine Calls.call_function_entry kind_sorted plain_sorted entry_sorted (args_sorted1 _) ?_;unfold Builtin.«sorted»;refine ax (m:=checkCount "sorted" 1 1 _) (aQ ?_);refine ax (hc _ λvs h' tk hP kp=>?_)
 have hl:=h1 vs hP;refine ax (wpAny_newList ?_ (by rw[sizeLine_eq];lia))
 refine ax (kP (wpAny_mono (V1 (s:={ s with heap:=h',toks:=tk}) (h0:=h') (vs:=vs) (Q:=λv s'=>Q v s') hl λh2 c KS hg=>h vs h' tk hP kp h2 c KS hg) (λ_ s' x=>?_) λ_ _ e=>e))
 exact aQ ⟨_,rfl,x⟩
end
section
variable{X:Cx}{K:Frag}
theorem N6:∀{ys:List V} {us:List aj},ys.length=us.length->(∀(j:Nat) (y:V) (u:aj),ys[j]?=some y->us[j]?=some u->RelV y u)->Vals ys us
 |[],[],_,_=>.nil
 |[],_::_,h,_=>by simp at h
 |_::_,[],h,_=>by simp at h
 |y::ys,u::us,h,r=>.cons (r 0 y u rfl rfl) (N6 (by simpa using h) λj y' u' e1 e2=>r (j+1) y' u' (by simpa using e1) (by simpa using e2))
def P9(K:Frag):List V->Hp->VK->Prop:=λxs H Q=>∃a ys,xs=[.ref a]/\(cz K H a ys\/∃es ep,H a=some (.dG es ep)/\g9 es/\ys=es.map (·.2.1))/\ys.length<2/\∀l,H l=none->Q (.ref l) (upd H l (.lst ys))
def SF(hc:X.calm=true):bH X (.builtin "sorted") (P9 X.K):=by
 intro aa s Z H xs us Q I r h;obtain⟨a,ys,rfl,hq,hl,q⟩:=h;obtain⟨u,rfl,ru⟩:=Vals.one r;cases ru;refine UO (P:=Vals ys) (λvs rv=>by have:=rv.length;lia) ?_ λvs h0 tk rv kp h' c KS hg=>?_
 .intro R hR;rcases hq with hq|⟨es,ep,hd,ht,rfl⟩
  .obtain⟨aA,rv,pl,hz⟩:=I.list hq;refine collect_list pl.isList (hR aA _ s.toks rv λb o e=>?_) (by have:=rv.length;rw[sizeLine_eq];lia)
   have nb:b≠s.heap.objs.size:=gm (cC e);rw[Ho _ _ _ _ nb];exact cO _ e
  .obtain⟨kvs,D1,D2,D3,D4,lo⟩:=AI I hd ht;have l1:kvs.length=es.length:=by have:=congrArg List.length D3;simpa using this
   refine kdu_collect (kdl_dict (knd:=strKind X.prog X.w) (kvs:=kvs) (ep:=ep) lo) (I.ok.hd hc) D1 D4 λh' tk aU kp hi=>hR _ h' tk ?_ kp
   refine N6 (by have:=hi.1;rw[bc,<-l1,<-this];simp) λj y u e1 e2=>?_
   rw[fW] at e1;obtain⟨e,e3,rfl⟩:=cV.mp e1;obtain⟨z,z1,z2⟩:=ht e (tY e3);obtain⟨k,v,k1,k2⟩:=hi.2 j u (by rw[<-xV];exact e2)
   have k3:(kvs.map (λp=>TK.inr p.1))[j]?=(es.map (·.1))[j]?:=by rw[D3]
   rw[fW,fW,k1,e3] at k3;have k4:TK.inr k=e.1:=Option.some.inj k3;rw[z1] at k4;cases k4;rw[z2];exact Value.isStrOf_shape k2
 .have e:=rv.length;have I0:Inv X aa Z H { s with heap:=h0,toks:=tk}:=I.kept kp;have I1:=I0.laid (h':=h') (t':=tk) (o:=.lst ys) KS (bF _) (show bp X.prog X.w _ h' _ (.lst ys) from⟨by rw[sizeLine_eq];lia,vs,c,rv,hg⟩)
  exact⟨.ref h0.objs.size,_,I1,rfl,q _ (I0.bj.fresh (bF _))⟩
end
end L2
namespace L2
open PySem PySem.Spec PySem.W PyProof.Rows
variable{p:Array Nat}{i m k l:Nat}
def pw(lt:Nat->Nat->Bool)(n:Nat){α:Type}:KasT α->(α->Prop)->Prop
 |.ret a,P=>P a
 |.ask i j k,P=>i<n/\j<n/\i≠j/\pw lt n (k (lt i j)) P
section
variable{lt:Nat->Nat->Bool}{n:Nat}
theorem FH{α:Type}{P Q:α->Prop}(h:∀a,P a->Q a):∀{t:KasT α},pw lt n t P->pw lt n t Q
 |.ret a,p=>h a p
 |.ask i j k,p=>⟨p.1,p.2.1,p.2.2.1,FH h p.2.2.2⟩
theorem AK{α β:Type}{P:α->Prop}{Q:β->Prop}{f:α->KasT β}(h:∀a,P a->pw lt n (f a) Q):∀{t:KasT α},pw lt n t P->pw lt n (t.bind f) Q
 |.ret a,p=>h a p
 |.ask i j k,p=>⟨p.1,p.2.1,p.2.2.1,AK h p.2.2.2⟩
structure Ord (lt:Nat->Nat->Bool) (n:Nat):Prop where
 zZ:∀i j,i<n->j<n->i≠j->lt i j=false->lt j i=true
 asy:∀i j,i<n->j<n->lt i j=true->lt j i=false
 tr:∀i j k,i<n->j<n->k<n->lt i j=true->lt j k=true->lt i k=true
structure qZ (n:Nat) (p:Array Nat):Prop where
 pm:p.Perm (List.toArray (List.range n))
def qZ.size{p:Array Nat}(h:qZ n p):p.size=n:=by have:=h.pm.size_eq;simpa using this
def qZ.below(h:qZ n p)(hi:i<n):p.getD i 0<n:=by
 have hs:=h.size;have e:p.getD i 0=p[i]'(by lia):=by simp[Array.getD,hs,hi]
 rw[e];have:p[i]'(by lia)∈p:=Array.getElem_mem _
 have:=h.pm.mem_iff.mp this
 simp_all
def qZ.inj(h:qZ n p){j:Nat}(hi:i<n)(hj:j<n)(e:p.getD i 0=p.getD j 0):i=j:=by
 have hs:=h.size;have nd:p.toList.Nodup:=(Array.perm_iff_toList_perm.mp h.pm).nodup_iff.mpr (by simpa using List.nodup_range)
 have ei:p.getD i 0=p.toList[i]'(by simp;lia):=by simp[Array.getD,hs,hi]
 have ej:p.getD j 0=p.toList[j]'(by simp;lia):=by simp[Array.getD,hs,hj]
 rw[ei,ej] at e;exact(Hc nd).mp e
def q8(lt:Nat->Nat->Bool)(p:Array Nat)(k:Nat):Prop:=∀i j,i<j->j<k->lt (p.getD i 0) (p.getD j 0)=true
def Ae(lt:Nat->Nat->Bool)(p:Array Nat)(k:Nat):Prop:=∀i j,i<j->j<k->lt (p.getD j 0) (p.getD i 0)=true
variable(O:Ord lt n){p:Array Nat}(hp:qZ n p)
include O hp
theorem V2(h1:1<=m)(hm:m<n)(h:q8 lt p m)(e:lt (p.getD (m - 1) 0) (p.getD m 0)=true):q8 lt p (m+1):=by
 intro i j qe hj;by_cases z:j=m
 .subst z;by_cases z2:i=j - 1
  .rw[z2];exact e
  .exact O.tr _ _ _ (hp.below (by lia)) (hp.below (by lia)) (hp.below hm) (h i (j - 1) (by lia) (by lia)) e
 .exact h i j qe (by lia)
theorem V3(h1:1<=m)(hm:m<n)(h:Ae lt p m)(e:lt (p.getD m 0) (p.getD (m - 1) 0)=true):Ae lt p (m+1):=by
 intro i j qe hj;by_cases z:j=m
 .subst z;by_cases z2:i=j - 1
  .rw[z2];exact e
  .exact O.tr _ _ _ (hp.below hm) (hp.below (by lia)) (hp.below (by lia)) e (h i (j - 1) (by lia) (by lia))
 .exact h i j qe (by lia)
theorem Jr:∀(f m:Nat),1<=m->m+f<=n->q8 lt p m->pw lt n (kas_asc p f m) λr=>m<=r/\r<=m+f/\q8 lt p r/\(r<m+f->lt (p.getD r 0) (p.getD (r - 1) 0)=true)
 |0,m,_,_,h=>⟨bF _,bF _,h,λz=>bW z (jE _)⟩
 |f+1,m,h1,hm,h=>by
  refine⟨hp.below (by lia),hp.below (by lia),λz=>by have:=hp.inj (by lia) (by lia) z;lia,?_⟩
  cases e:lt (p.getD m 0) (p.getD (m - 1) 0) with
  |true=>exact⟨bF _,by lia,h,λ_=>e⟩
  |false=>
   have:=O.zZ _ _ (hp.below (by lia)) (hp.below (by lia)) (λz=>by have:=hp.inj (by lia) (by lia) z;lia) e
   exact FH (λr hr=>⟨by lia,by lia,hr.2.2.1,λz=>hr.2.2.2 (by lia)⟩) (Jr f (m+1) (by lia) (by lia) (V2 O hp h1 (by lia) h this))
theorem O6:∀(f m:Nat),1<=m->m+f<=n->Ae lt p m->pw lt n (kas_desc f p m 0) λr=>r.1=p/\r.2.2=0/\m<=r.2.1/\r.2.1<=m+f/\Ae lt p r.2.1
 |0,m,_,_,h=>⟨rfl,rfl,bF _,bF _,h⟩
 |f+1,m,h1,hm,h=>by
  refine⟨hp.below (by lia),hp.below (by lia),λz=>by have:=hp.inj (by lia) (by lia) z;lia,?_⟩
  cases e:lt (p.getD m 0) (p.getD (m - 1) 0) with
  |true=>exact FH (λr hr=>⟨hr.1,hr.2.1,by lia,by lia,hr.2.2.2.2⟩) (O6 f (m+1) (by lia) (by lia) (V3 O hp h1 (by lia) h e))
  |false=>
   have:=O.zZ _ _ (hp.below (by lia)) (hp.below (by lia)) (λz=>by have:=hp.inj (by lia) (by lia) z;lia) e
   refine⟨hp.below (by lia),hp.below (by lia),λz=>by have:=hp.inj (by lia) (by lia) z;lia,?_⟩
   rw[this];exact⟨rfl,rfl,bF _,Hi _ _,h⟩
omit O in
theorem P_(hm:m<=n)(i:Nat):(kas_rev p 0 m).getD i 0=if i<m then p.getD (m - 1 - i) 0 else p.getD i 0:=by
 have hs:=hp.size;have:=getElem?_mirror_all (xs:=p) (i:=0) (j:=m) (by lia) i
 have g:∀(q:Array Nat) (j:Nat),q.getD j 0=(q[j]?).getD 0:=λq j=>by
  simp_all
 unfold kas_rev;rw[g,this];simp only[lZ,true_and,Nat.zero_add];split
 .rw[g]
 .rw[g]
omit O in
theorem O7(m:Nat):qZ n (kas_rev p 0 m):=⟨(mirror_perm _ _ _ _).trans hp.pm⟩
theorem YZ(hm:m<=n)(h:Ae lt p m):q8 lt (kas_rev p 0 m) m:=by
 intro i j qe hj;rw[P_ hp hm,P_ hp hm,aP (by lia),aP hj]
 exact h _ _ (by lia) (by lia)
theorem IL{k:Nat}(hk:k<n)(hs:q8 lt p k):∀(f l r:Nat),l<=r->r<=k->r - l<=f->(∀i,i<l->lt (p.getD i 0) (p.getD k 0)=true)->(∀i,r<=i->i<k->lt (p.getD k 0) (p.getD i 0)=true)->
  pw lt n (kas_place p k f l r) λx=>x<=k/\(∀i,i<x->lt (p.getD i 0) (p.getD k 0)=true)/\∀i,x<=i->i<k->lt (p.getD k 0) (p.getD i 0)=true
 |0,l,r,h1,h2,h3,a,b=>⟨by lia,a,λi hi hk=>b i (by lia) hk⟩
 |f+1,l,r,h1,h2,h3,a,b=>by
  unfold kas_place;split
  .exact⟨by lia,a,λi hi hk=>b i (by lia) hk⟩
  .refine⟨hp.below hk,hp.below (by lia),λz=>by have:=hp.inj hk (by lia) z;lia,?_⟩
   have hm:(l+r) / 2<k:=by lia
   cases e:lt (p.getD k 0) (p.getD ((l+r) / 2) 0) with
   |true=>
    refine IL hk hs f l _ (by lia) (by lia) (by lia) a λi hi hik=>?_
    by_cases z:i=(l+r) / 2
    .rw[z];exact e
    .exact O.tr _ _ _ (hp.below hk) (hp.below (by lia)) (hp.below (by lia)) e (hs _ _ (by lia) hik)
   |false=>
    have e2:=O.zZ _ _ (hp.below hk) (hp.below (by lia)) (λz=>by have:=hp.inj hk (by lia) z;lia) e
    refine IL hk hs f _ r (by lia) (by lia) (by lia) (λi hi=>?_) b
    by_cases z:i=(l+r) / 2
    .rw[z];exact e2
    .exact O.tr _ _ _ (hp.below (by lia)) (hp.below (by lia)) (hp.below hk) (hs _ _ (by lia) (by lia)) e2
omit O in
theorem P'(hk:k<n)(hl:l<=k)(i:Nat):(bubble p k (k - l)).getD i 0=if i=l then p.getD k 0 else if l<i/\i<=k then p.getD (i - 1) 0 else p.getD i 0:=by
 have hs:=hp.size;have:=getElem?_bubble (xs:=p) (src:=k) (by lia) (k - l) (by lia) i
 have g:∀(q:Array Nat) (j:Nat),q.getD j 0=(q[j]?).getD 0:=λq j=>by
  simp_all
 rw[g,this,show k - (k - l)=l by lia]
 split
 .rw[g]
 .split
  .rw[g]
  .rw[g]
theorem Y0(hk:k<n)(hl:l<=k)(hs:q8 lt p k)(a:∀i,i<l->lt (p.getD i 0) (p.getD k 0)=true)(b:∀i,l<=i->i<k->lt (p.getD k 0) (p.getD i 0)=true):q8 lt (bubble p k (k - l)) (k+1):=by
 intro i j qe hj;rw[P' hp hk hl,P' hp hk hl];by_cases j1:j=l
 .rw[aP j1,aK (show ¬i=l by lia),aK (show ¬(l<i/\i<=k) by lia)]
  exact a i (by lia)
 .rw[aK j1];by_cases i1:i=l
  .grind
  .rw[aK i1];by_cases j2:l<j
   .rw[aP (show l<j/\j<=k by lia)]
    by_cases i2:l<i
    .rw[aP (show l<i/\i<=k by lia)];exact hs _ _ (by lia) (by lia)
    .rw[aK (show ¬(l<i/\i<=k) by lia)]
     by_cases z:i=j - 1
     .lia
     .exact hs _ _ (by lia) (by lia)
   .rw[aK (show ¬(l<j/\j<=k) by lia),aK (show ¬(l<i/\i<=k) by lia)]
    exact hs _ _ qe (by lia)
omit hp in
theorem Qa:∀(f:Nat) (p:Array Nat) (k:Nat),qZ n p->k+f=n->q8 lt p k->pw lt n (kas_bin f p k) λq=>qZ n q/\q8 lt q n
 |0,p,k,hp,e,h=>by subst e;exact⟨hp,h⟩
 |f+1,p,k,hp,e,h=>by
  refine AK (λl hl=>?_) (IL O hp (by lia) h k 0 k (lZ _) (bF _) (by lia) (λi hi=>by lia) λi hi hk=>by lia)
  exact Qa f _ (k+1) ⟨(bubble_perm _ _ _).trans hp.pm⟩ (by lia) (Y0 O hp (by lia) hl.1 h hl.2.1 hl.2.2)
theorem V4(h1:1<=n):pw lt n (kas_count n p) λr=>1<=r.1/\r.1<=n/\qZ n r.2/\q8 lt r.2 r.1:=by
 refine AK (λm hm=>?_) (Jr O hp (n - 1) 1 (bF _) (by lia) λi j qe hj=>by lia)
 obtain⟨m1,m2,m3,m4⟩:=hm;by_cases e:m=n
 .rw[aP (by simpa using e)]
  exact⟨m1,by show m<=n;lia,hp,m3⟩
 .rw[aK (by simpa using e)]
  by_cases g:m > 1
  .rw[aP g];refine⟨hp.below (by lia),hp.below (by lia),λz=>by have:=hp.inj (by lia) (by lia) z;lia,?_⟩
   rw[m3 0 (m - 1) (by lia) (by lia)]
   exact⟨m1,by show m<=n;lia,hp,m3⟩
  .rw[aK g];have em:m=1:=by lia
   subst em;have d2:Ae lt p 2:=λi j qe hj=>by
    have:i=0/\j=1:=by lia
    rw[this.1,this.2];exact m4 (by lia)
   refine AK (λr hr=>?_) (O6 O hp (n - (1+1)) (1+1) (by lia) (by lia) d2)
   obtain⟨r1,r2,r3,r4,r5⟩:=hr;rw[aK (by rw[r2];exact jE 0),r1]
   refine AK (λx hx=>?_) (Jr O (O7 hp r.2.1) (n - r.2.1) r.2.1 (by lia) (by lia) (YZ O hp (by lia) r5))
   exact⟨by show 1<=x;lia,by show x<=n;lia,O7 hp _,hx.2.2.1⟩
omit hp in
theorem O8(h1:1<=n):pw lt n (kas_sort n) λq=>qZ n q/\q8 lt q n:=by
 refine AK (λr hr=>?_) (V4 O ⟨Array.Perm.refl _⟩ h1)
 obtain⟨r1,r2,r3,r4⟩:=hr;have e:max r.1 1=r.1:=by lia
 rw[e];split
 .exact Qa O (n - r.1) r.2 r.1 r3 (by lia) r4
 .have:r.1=n:=by lia
  rw[this] at r4;exact⟨r3,r4⟩
end
variable{ks:List (Int×Int)}
def Bl(lt:Nat->Nat->Bool){α:Type}:KasT α->α
 |.ret a=>a
 |.ask i j k=>Bl lt (k (lt i j))
theorem FZ{lt:Nat->Nat->Bool}{n:Nat}{α:Type}{P:α->Prop}:∀{t:KasT α},pw lt n t P->P (Bl lt t)/\pw lt n t λa=>a=Bl lt t
 |.ret _,p=>⟨p,rfl⟩
 |.ask _ _ _,p=>⟨(FZ p.2.2.2).1,p.1,p.2.1,p.2.2.1,(FZ p.2.2.2).2⟩
theorem Qb{lt:Nat->Nat->Bool}{n:Nat}{α:Type}{cmp:Nat->Nat->(Bool->aq->Prop)->aq->Prop}{Q:α->aq->Prop}{s:aq}(hc:∀i j C,i<n->j<n->i≠j->C (lt i j) s->cmp i j C s):∀{t:KasT α},pw lt n t (λa=>Q a s)->t.kasWp cmp Q s
 |.ret _,p=>p
 |.ask i j k,p=>hc i j _ p.1 p.2.1 p.2.2.1 (Qb hc p.2.2.2)
def K3(x y:Int×Int):Bool:=decide (x.1<y.1\/(x.1=y.1/\x.2<y.2))
def ltAt(ks:List (Int×Int))(i j:Nat):Bool:=K3 (ks.getD i (0,0)) (ks.getD j (0,0))
def Qc(nd:ks.Nodup):Ord (ltAt ks) ks.length:=by
 refine⟨λi j hi hj hn h=>?_,λi j _ _ h=>?_,λi j k _ _ _ h1 h2=>?_⟩
 all_goals grind [List.getElem_inj,ltAt,K3]
def cR(ks:List (Int×Int)):List Nat:=(Bl (ltAt ks) (kas_sort ks.length)).toList
def eB(h:bM)(vs:List aj)(ks:List (Int×Int)):Prop:=vs.length=ks.length/\∀i,i<ks.length->∃x o a b t t' z m,vs.getD i Value.none=.ref x/\h.get? x=some o/\o.cls=.type "tuple"/\o.data=.seq #[.int a t,.int b t',z] m/\ks.getD i (0,0)=(a,b)
def eB.keep{h h':bM}{vs:List aj}(T:eB h vs ks)(k:∀b o,h.get? b=some o->h'.get? b=some o):eB h' vs ks:=⟨T.1,λi hi=>by
 obtain⟨x,o,a,b,t,t',z,m,h1,h2,r⟩:=T.2 i hi;exact⟨x,o,a,b,t,t',z,m,h1,k _ _ h2,r⟩⟩
section
variable{prog:cS}{w:cg}{A:cD}{E:aj->aq->Prop}{s:aq}{vs:List aj}{ks:List (Int×Int)}
def Y1(T:eB s.heap vs ks)(nd:ks.Nodup)(i j:Nat)(C:Bool->aq->Prop)(hi:i<ks.length)(hj:j<ks.length)(ij:i≠j)(h:C (ltAt ks i j) s):kas_ask prog w A (tuples' true) vs i j C s:=by
 obtain⟨x,o,a,b,t,t',z,m,x1,x2,x3,x4,x5⟩:=T.2 i hi;obtain⟨y,p,c,d,u,u',z',m',y1,y2,y3,y4,y5⟩:=T.2 j hj;have hl:ltAt ks i j=decide (a<c\/(a=c/\b<d)):=by unfold ltAt K3;rw[x5,y5]
 rw[hl] at h;unfold kas_ask;rw[x1,y1];refine kat_lt x2 x4 y2 y4 ?_;show KatLex prog w A true _ C [(.int a t,.int c u),(.int b t',.int d u'),(z,z')] 0 s;refine kat_cons (wpAny_eqBool_int (kat_go (λe=>?_) λe=>?_))
 .have e:a=c:=by simpa using e
  refine kat_yes (kat_cons (wpAny_eqBool_int (kat_go (λe2=>?_) λe2=>?_)))
  .have e2:b=d:=by simpa using e2
   have e3:ks.getD i (0,0)=ks.getD j (0,0):=by rw[x5,y5,e,e2]
   have f1:ks.getD i (0,0)=ks[i]:=by simp[hi]
   have f2:ks.getD j (0,0)=ks[j]:=by simp[hj]
   rw[f1,f2] at e3;exact bW ((Hc nd).mp e3) ij
  .have e2:b≠d:=by simpa using e2
   refine kat_no (kat_one _ _ (wpAny_lt_int ?_));rw[show decide (a<c\/(a=c/\b<d))=decide (b<d) by simp[e]] at h
   exact h
 .have e:a≠c:=by simpa using e
  refine kat_no (oneLt_int ?_);rw[show decide (a<c\/(a=c/\b<d))=decide (a<c) by simp[e]] at h
  exact h
theorem N7{h:bM}:∀{vs:List aj} {ks:List (Int×Int)},eB h vs ks->∃fs,KatTups h vs fs/\fs.length=vs.length/\∀v∈fs,∃a t,v=Value.int a t
 |[],_,_=>⟨[],.nil,rfl,λv m=>by cases m⟩
 |v::vs,[],T=>by have:=T.1;simp at this
 |v::vs,k::ks,T=>by
  obtain⟨fs,f1,f2,f3⟩:=N7 (h:=h) (vs:=vs) (ks:=ks) ⟨by have:=T.1;simpa using this,λi hi=>by
   obtain⟨x,o,a,b,t,t',z,m,r⟩:=T.2 (i+1) (by simpa using hi)
   exact⟨x,o,a,b,t,t',z,m,by simpa using r⟩⟩
  obtain⟨x,o,a,b,t,t',z,m,h1,h2,h3,h4,_⟩:=T.2 0 (by simp)
  have h1:v=.ref x:=by simpa using h1
  subst h1;refine⟨.int a t::fs,.cons h2 h3 h4 (by simp) f1,by simp[f2],λv m=>?_⟩
  rcases y04.mp m with rfl|m
  .exact⟨a,t,rfl⟩
  .exact f3 v m
def Su{a:ah}{n:Nat}{P:PySem.Fin->aq->Prop}(ho:s.heap.get? a=some (seqObj "list" vs.toArray n))(T:eB s.heap vs ks)(nd:ks.Nodup)(na:∀i x,i<ks.length->vs.getD i Value.none=.ref x->x≠a)(h2:2<=vs.length)(CY:vs.length<64)
  (h:P (.done (.ret .none)) { s with heap:=sortedHeap s.heap a vs (List.toArray ((cR ks).map λi=>vs.getD i Value.none))}):wpAny (model prog w) A (Builtin.«list.sort» ⟨[.ref a],[]⟩) P E s:=by
 rw[list_sort_plain];have ha:a<s.heap.objs.size:=cC ho;refine ax (listItems_at ho rfl ?_);refine ax (listUpdate_at ho rfl ?_ (by rw[cZ,sizeLine_eq];lia) (lZ _))
 obtain⟨e1,ze⟩:∃e1,(s.heap.update a (Obj.mapSeq λ_=>#[])).get? a=some (seqObj "list" #[] e1):=⟨_,get?_update_seq ho (λ_=>#[])⟩
 refine ax (seqEpoch_at ze rfl ?_);refine ax (wpAny_newTuple ?_ (by show vs.length<=_;rw[sizeLine_eq];lia))
 refine ax (wpAny_newList ?_ (lZ _));refine kP ?_;have zf:(((s.heap.update a (Obj.mapSeq λ_=>#[])).push (seqObj "tuple" vs.toArray 0)).push (seqObj "list" #[] 0)).get? a=some (seqObj "list" #[] e1):=by
  rw[Ep _ _ _ (by rw[size_push',Mf];exact gm (z8 ha)),Ep _ _ _ (by rw[Mf];exact gm ha)]
  exact ze
 have T6:eB (((s.heap.update a (Obj.mapSeq λ_=>#[])).push (seqObj "tuple" vs.toArray 0)).push (seqObj "list" #[] 0)) vs ks:=⟨T.1,λi hi=>by
  obtain⟨x,o,b,c,t,t',z,m,y1,y2,r⟩:=T.2 i hi;refine⟨x,o,b,c,t,t',z,m,y1,cO _ (cO _ ?_),r⟩;rw[Ho _ _ _ _ (na i x hi y1)];exact y2⟩
 show wpAny (model prog w) A _ P E { s with heap:=((s.heap.update a (Obj.mapSeq λ_=>#[])).push (seqObj "tuple" vs.toArray 0)).push (seqObj "list" #[] 0)}
 dsimp only;have y_:¬vs.toArray.size<2:=by rw[cZ];lia
 rw[aK y_,aK y_];obtain⟨fs,f1,f2,f3⟩:=N7 T6;refine ax (kat_kind (T:=.type "int") f1 (by lia) (λv hv=>?_) (by decide) ?_)
 .obtain⟨b,t,rfl⟩:=f3 v hv;exact λA Q E s' _ q=>wpAny_typeOf (typeIs_int s' b t) q
 .have O:=Qc nd;have pq:=O8 O (show 1<=ks.length by have:=T.1;lia)
  obtain⟨⟨q1,q2⟩,q3⟩:=FZ pq;have hlen:=T.1;refine ax (wpAny_mono (kat_run (Q:=λjP s'=>s'={ s with heap:=((s.heap.update a (Obj.mapSeq λ_=>#[])).push (seqObj "tuple" vs.toArray 0)).push (seqObj "list" #[] 0)}/\arrOf jP=(Bl (ltAt ks) (kas_sort ks.length)).map (kas_item (vs.toArray.zip vs.toArray))/\failedOf jP=none) rfl h2 CY (λp' jP s' a1 a2 a3 a4=>⟨a4.2,by rw[<-a4.1];exact a2,a3⟩) (G:=λp s'=>p=Bl (ltAt ks) (kas_sort ks.length)/\s'=_) ?_) ?_ λ_ _ e=>e)
  .rw[hlen];exact Qb (λi j C hi hj ij hC=>Y1 T6 nd i j C hi hj ij hC) (FH (λp hp=>⟨hp,rfl⟩) q3)
  .rintro⟨⟨⟩,jP⟩ s' ⟨rfl,har,hf⟩;dsimp only;have Kt:=kat_snds rfl har;rw[Kt];refine ax (seqEpoch_at zf rfl ?_);refine ax (listUpdate_at zf rfl ?_ (lZ _) (by rw[cZ,bc,He,q1.size,sizeLine_eq];lia))
   rw[hf];simp only[bne_self_eq_false,rD,m_];exact aQ h
def Tv{l:ah}{Q:aj->aq->Prop}(hl:s.heap.IsList l vs.toArray)(T:eB s.heap vs ks)(nd:ks.Nodup)(h2:2<=vs.length)(CY:vs.length<64)
  (h:Q (.ref (s.heap.objs.size+1)) { s with heap:=sortedAll s.heap vs (List.toArray ((cR ks).map λi=>vs.getD i Value.none))}):wpAny (model prog w) A (call (.builtin "sorted") [.ref l]) Q E s:=by
 refine Calls.call_function_entry kind_sorted plain_sorted entry_sorted (args_sorted1 _) ?_;unfold Builtin.«sorted»;refine ax (m:=checkCount "sorted" 1 1 _) (aQ ?_);refine ax (collect_list hl ?_ (by rw[sizeLine_eq];lia))
 refine ax (wpAny_newList ?_ (by rw[sizeLine_eq];lia))
 have hsz:((s.heap.push (seqObj "list" #[] 0)).update s.heap.objs.size (Obj.mapSeq (·++vs.toArray))).objs.size=s.heap.objs.size+1:=by
  simp_all
 have gM:(((s.heap.push (seqObj "list" #[] 0)).update s.heap.objs.size (Obj.mapSeq (·++vs.toArray))).push (seqObj "list" vs.toArray 0)).get? (s.heap.objs.size+1)=some (seqObj "list" vs.toArray 0):=by
  rw[<-hsz];exact jr _ rfl
 have keep:∀b o,s.heap.get? b=some o->(((s.heap.push (seqObj "list" #[] 0)).update s.heap.objs.size (Obj.mapSeq (·++vs.toArray))).push (seqObj "list" vs.toArray 0)).get? b=some o:=λb o q=>by
  have iT:b<s.heap.objs.size:=cC q;rw[Ep _ _ _ (by rw[hsz];exact gm (z8 iT)),Ho _ _ _ _ (gm iT),Ep _ _ _ (gm iT)]
  exact q
 show wpAny _ _ _ _ _ { s with heap:=((s.heap.push (seqObj "list" #[] 0)).update s.heap.objs.size (Obj.mapSeq (·++vs.toArray))).push (seqObj "list" vs.toArray 0)}
 rw[hsz];refine ax (kP (wpAny_call_entry slot_list_sort ⟨_,gM,rfl⟩ entry_list_sort (Su gM (T.keep keep) nd (λi x hi e=>?_) h2 CY ⟨_,rfl,?_⟩) (args_list_sort _)))
 .obtain⟨y,o,_,_,_,_,_,_,y1,y2,_⟩:=T.2 i hi;rw[y1] at e;cases e;exact gm (z8 (cC y2))
 .exact aQ ⟨_,rfl,h⟩
end
section
variable{X:Cx}{K:PySem.W.Frag}{H:Hp}
def v_(K:PySem.W.Frag)(H:Hp)(ys:List V)(ks:List (Int×Int)):Prop:=ys.length=ks.length/\∀i,i<ks.length->∃p z,ys[i]?=some (.ref p)/\gu K H p [.int (ks.getD i (0,0)).1,.int (ks.getD i (0,0)).2,z]
def Qd(K:PySem.W.Frag):List V->Hp->VK->Prop:=λvs H Q=>∃a ys ks,vs=[.ref a]/\cz K H a ys/\v_ K H ys ks/\ks.Nodup/\2<=ks.length/\ks.length<64/\∀l,H l=none->Q (.ref l) (upd H l (.lst ((cR ks).map λi=>ys.getD i .aG)))
theorem NI{ys:List V}{us:List aj}(r:Vals ys us):∀{is:List Nat},(∀i∈is,i<ys.length)->Vals (is.map λi=>ys.getD i .aG) (is.map λi=>us.getD i Value.none)
 |[],_=>.nil
 |i::is,h=>by
  have hi:=h i (.head _);obtain⟨u,e,ru⟩:=r.get (i5 hi);have e1:ys.getD i .aG=ys[i]:=by simp[hi]
  have e2:us.getD i Value.none=u:=by rw[Hq,e];rfl
  refine .cons ?_ (NI r λj m=>h j (.tail _ m))
  show RelV (ys.getD i .aG) (us.getD i Value.none);rw[e1,e2];exact ru
theorem Fh(nd:ks.Nodup)(h:1<=ks.length):(cR ks).Perm (List.range ks.length)/\(cR ks).Pairwise λi j=>ltAt ks i j=true:=by
 obtain⟨⟨q1,q2⟩,_⟩:=FZ (O8 (Qc nd) h);refine⟨by unfold cR;have:=Array.perm_iff_toList_perm.mp q1.pm;simpa using this,?_⟩
 rw[List.pairwise_iff_getElem];intro i j hi hj qe;have hs:=q1.size;have:=q2 i j qe (by unfold cR at hj;simp at hj;lia)
 unfold cR at hi hj ⊢;simp only[He] at hi hj;simpa[Array.getD,hi,hj] using this
def Tz(K:PySem.W.Frag)(hK:X.K=K:=by rfl):bH X (.builtin "sorted") (Qd K):=by
 subst hK;intro aa s Z H xs us Q I r h;obtain⟨a,ys,ks,rfl,hl,T,nd,h2,CY,q⟩:=h;obtain⟨u,rfl,ru⟩:=vals1 r;cases ru;obtain⟨aA,rv,pl,hz⟩:=I.list hl;have hlen:=rv.length;have Dc:=T.1;have T':eB s.heap aA ks:=⟨by lia,λi hi=>by
  obtain⟨p,z,y1,y2⟩:=T.2 i hi;obtain⟨u,e,ru⟩:=rv.get y1;obtain rfl:u=Value.ref p:=ru;obtain⟨it2,G3,⟨o,g1,g2,n,g3⟩,_⟩:=I.tuple y2;cases G3 with
  |cons r1 t=>
   cases t with
   |cons r2 t=>
    cases t with
    |cons r3 t=>
     cases t;obtain⟨t1,rfl⟩:=r1;obtain⟨t2,rfl⟩:=r2;exact⟨p,o,_,_,t1,t2,_,n,by rw[Hq,e];rfl,g1,g2,g3,rfl⟩⟩
 refine Tv pl.isList T' nd (by lia) (by lia) ?_
 obtain⟨c,hc⟩:=sortedAll_at s.heap aA (List.toArray ((cR ks).map λi=>aA.getD i Value.none))
 obtain⟨s1,_⟩:=Fh nd (by lia)
 have hm:∀i∈cR ks,i<ys.length:=λi m=>by have:=s1.mem_iff.mp m;rw[uA] at this;lia
 have I3:=I.laid (h':=sortedAll s.heap aA (List.toArray ((cR ks).map λi=>aA.getD i Value.none))) (t':=s.toks) (o:=.lst ((cR ks).map λi=>ys.getD i .aG)) (λb o g=>sortedAll_old g) (tW _) (show bp X.prog X.w _ _ _ (.lst _) from⟨by rw[bc,s1.length_eq,t4,sizeLine_eq];lia,_,c,NI rv hm,hc⟩)
 exact⟨.ref (s.heap.objs.size+1),_,I3,rfl,q _ (I.bj.fresh (tW _))⟩
end
end L2
set_option autoImplicit false
namespace L2
open PySem PySem.Spec PySem.W PySem.Calls PyProof.Rows
def fV(kvs:List (TK×D)):Bool:=kvs.all λp=>xl p.1
def vt:D->ak (List D)
 |.ar kvs=>if fV kvs=true then some ((List.range kvs.length).map λi=>.tup (((kvs[i]?).map λp=>[p.1.d,p.2]).getD [])) else none
 |_=>none
section
variable{K:Frag}{W:XW}{q:Nat}{g:GE}{fz:Bool}{Z:St}{H:Hp}{R:It->Hp->Prop}{k:Kn}{es:List (TK×V×V)}{kvs:List (TK×D)}
def JJ(h1:es.map (·.1)=kvs.map (·.1))(h2:ag K k (es.map (·.2.1)) (kvs.map (·.1.d)))(h:fV kvs=true):g9 es:=PZ h1 (by rw[jS];exact h2) (by rw[Hj];exact h)
def Y2(t:tX (RI K q) K W q (bG fz vt g) Z H R):P1 (tE K W q g) Z H R:=by
 rcases E4 t with h|⟨d,ds,n,e,h⟩
 .exact h _
 .cases d with
  |ar kvs=>
   unfold vt at e;dsimp only at e;split at e
   .rename_i ht
    cases e;refine h _ λk1 H1 x le hd j=>?_
    obtain⟨a,es,ep,rfl,q2,q3,q4,q1⟩:=hd;have tx:=JJ q2 q3 ht;refine⟨a,es,ep,rfl,jx.now (x:=.aG) q1 le,tx,j _ ?_⟩;have hl:kvs.length=es.length:=by have:=q4.length;rw[bc,bc] at this;exact this.symm
    rw[hl];refine .DC (λH s c=>⟨q1 H s c,tx⟩) λi us hi hv=>?_
    obtain⟨e,h1,rfl⟩:=hv;have y8:i<kvs.length:=by lia
    obtain⟨v,h3,h4⟩:=q4.get (i:=i) (d:=kvs[i].2) (by rw[fW,i5 y8];rfl)
    obtain⟨v',h5,h6⟩:=q3.get (i:=i) (d:=kvs[i].1.d) (by rw[fW,i5 y8];rfl)
    rw[fW,h1] at h3 h5;cases h3;cases h5;rw[i5 y8];exact .cons h6 h4
   .cases e
  |_=>cases e
end
end L2
namespace L2
open PySem PySem.Spec PyProof.Rows
section
variable{X:Cx}{K:PySem.W.Frag}{k:Kn}{H:Hp}{x:V}{d:D}
def Top.txt{kvs:List (TK×D)}(t:Top K k H x (.ar kvs))(le:aw k.F H)(h:fV kvs=true):∃p es ep,x=.ref p/\H p=some (.dG es ep)/\g9 es/\es.map (·.1)=kvs.map (·.1)/\ag K k (es.map (·.2.1)) (kvs.map (·.1.d))/\ag K k (es.map (·.2.2)) (kvs.map (·.2)):=by
 obtain⟨p,es,ep,rfl,h1,h2,h3,h4⟩:=t.ar le;exact⟨p,es,ep,rfl,h1,JJ h2 h3 h,h2,h3,h4⟩
def DR(K:PySem.W.Frag):List V->Hp->VK->Prop:=λxs H Q=>(∃p ys,xs=[.ref p]/\(cz K H p ys\/gu K H p ys)/\Q (.int ys.length) H)\/(∃z,xs=[.str z]/\z.length<=sizeLine/\Q (.int z.length) H)\/∃p es ep,xs=[.ref p]/\H p=some (.dG es ep)/\g9 es/\Q (.int es.length) H
def UP(hK:X.K=K):bH X (.builtin "len") (DR K):=(Ss K hK).or (mr.or (by
 intro aa s Z H xs us Q I r h;obtain⟨p,es,ep,rfl,hp,ht,q⟩:=h;obtain⟨u,rfl,ru⟩:=vals1 r;cases ru;obtain⟨kvs,D1,D2,D3,D4,lo⟩:=AI I hp ht;have l1:kvs.length=es.length:=by have:=congrArg List.length D3;simpa using this
 refine call_len_dict lo D1.dictOf (by rw[sizeLine_eq] at D4;lia) ?_
 rw[l1];exact⟨.int es.length,H,I.tok _,⟨_,rfl⟩,q⟩))
def dg:D->ak Rv
 |.lst ds=>some (rd (.int ds.length))
 |.tup ds=>some (rd (.int ds.length))
 |.str z=>if z.length<=1000000 then some (rd (.int z.length)) else none
 |.ar kvs=>if fV kvs=true then some (rd (.int kvs.length)) else none
 |_=>none
def e1u:bP K (DR K) (o1 dg):=tF λk H x a y Q le t e res=>by
 unfold dg at e;split at e
 .cases e;obtain⟨p,ws,rfl,q,r⟩:=t.lst le;exact .inl ⟨p,ws,rfl,.inl q,by rw[r.length];exact res.flat le rfl⟩
 .cases e;obtain⟨p,ws,rfl,q,r⟩:=t.tup le;exact .inl ⟨p,ws,rfl,.inr q,by rw[r.length];exact res.flat le rfl⟩
 .split at e
  .cases e;cases t.flat rfl;exact .inr (.inl ⟨_,rfl,ml (by assumption),res.flat le rfl⟩)
  .cases e
 .split at e
  .cases e;obtain⟨p,es,ep,rfl,h1,h2,h3,h4,h5⟩:=t.txt le (by assumption)
   refine .inr (.inr ⟨p,es,ep,rfl,h1,h2,?_⟩);have:=h5.length;rw[bc,bc] at this;rw[this];exact res.flat le rfl
  .cases e
 .cases e
def sY:D->ak String
 |.aG=>some "NoneType"
 |.bl _=>some "bool"
 |.int _=>some "int"
 |.str _=>some "str"
 |.lst _=>some "list"
 |.tup _=>some "tuple"
 |_=>none
def N8{n:String}(le:aw k.F H)(t:Top K k H x d)(e:sY d=some n):Cp K H x n:=by
 cases d with
 |lst _=>cases e;obtain⟨p,ws,rfl,q,r⟩:=t.lst le;exact .inl ⟨rfl,_,q⟩
 |tup _=>cases e;obtain⟨p,ws,rfl,q,r⟩:=t.tup le;exact .inr ⟨rfl,_,q⟩
 |_=>cases e <;> cases t.flat rfl <;> rfl
def DO(K:PySem.W.Frag):List V->Hp->VK->Prop:=λxs H Q=>(∃x k T,xs=[x,.ty T]/\Cp K H x k/\(T="int"\/T="str"\/T="bool"\/T="list"\/T="tuple")/\Q (.bl (qP k T)) H)\/xD K xs H Q
def UQ(hK:X.K=K):bH X (.builtin "isinstance") (DO K):=(Ur K hK).or (UJ K hK)
def zq:List D->Bool
 |[.ty a,.ty b]=>decide (a="tuple"/\b="list")
 |_=>false
def Y3{ds:List D}(h:zq ds=true):ds=[.ty "tuple",.ty "list"]:=by
 unfold zq at h;split at h
 .obtain⟨rfl,rfl⟩:=xY h;rfl
 .cases h
def iW(a t:D):ak Rv:=match t with
 |.ty T=>if T="int"\/T="str"\/T="bool"\/T="list"\/T="tuple" then(sY a).map λk=>rd (.bl (qP k T)) else none
 |.tup ds=>if zq ds=true then(sY a).map λk=>rd (.bl (LR k)) else none
 |_=>none
def e1v:bP K (DO K) (o2 iW):=vA λk H x z a b y Q le t1 t2 e res=>by
 unfold iW at e;split at e
 .split at e
  .obtain⟨n,h,rfl⟩:=cV.mp e;cases t2.flat rfl;exact .inl ⟨x,n,_,rfl,N8 le t1 h,by assumption,res.flat le rfl⟩
  .cases e
 .split at e
  .rename_i ht
   cases Y3 ht;obtain⟨n,h,rfl⟩:=cV.mp e;obtain⟨p,ws,rfl,q,r⟩:=t2.tup le;obtain⟨w1,us,rfl,r1,r2⟩:=r.bU;obtain⟨w2,us,rfl,r3,r4⟩:=r2.bU;cases r4.fH;cases r1.aW rfl;cases r3.aW rfl;exact .inr ⟨x,n,p,rfl,N8 le t1 h,q,res.flat le rfl⟩
  .cases e
 .cases e
noncomputable def oh:D->ak Rv
 |.int i=>some (rd (.int i))
 |.bl b=>some (rd (.int (if b then 1 else 0)))
 |_=>none
def Y4:bP K (λxs H Q=>(∃i,xs=[.int i]/\Q (.int i) H)\/∃k,xs=[.bl k]/\Q (.int (if k then 1 else 0)) H) (o1 oh):=tF λk H x a y Q le t e res=>by
 unfold oh at e;split at e
 .cases e;cases t.flat rfl;exact .inl ⟨_,rfl,res.flat le rfl⟩
 .cases e;cases t.flat rfl;exact .inr ⟨_,rfl,res.flat le rfl⟩
 .cases e
def xE(K:PySem.W.Frag):List V->Hp->VK->Prop:=λxs H Q=>(∃p ys,xs=[.ref p]/\(cz K H p ys\/gu K H p ys)/\∀l,H l=none->Q (.ref l) (upd H l (.lst ys)))\/RP K xs H Q
def TB(hc:X.calm=true)(hK:X.K=K):bH X (.type "list") (xE K):=(b2i K hK).or (hK ▸ Tq hc)
noncomputable def lV:D->ak Rv
 |.lst ds=>some (.o (.lst ds))
 |.tup ds=>some (.o (.lst ds))
 |.ar kvs=>some (.o (.lst (kvs.map (·.1.d))))
 |_=>none
def Y5:bP K (xE K) (o1 lV):=tF λk H x a y Q le t e res=>by
 unfold lV at e;split at e
 .cases e;obtain⟨p,ws,rfl,q,r⟩:=t.lst le;exact .inl ⟨p,ws,rfl,.inl q,λl hl=>res.lst le r hl⟩
 .cases e;obtain⟨p,ws,rfl,q,r⟩:=t.tup le;exact .inl ⟨p,ws,rfl,.inr q,λl hl=>res.lst le r hl⟩
 .cases e;obtain⟨p,es,ep,rfl,h1,h2,h3,h4⟩:=t.ar le;exact .inr ⟨p,es,ep,rfl,h1,λl hl=>res.lst le h3 hl⟩
 .cases e
def qo:D->ak Rv
 |.ar kvs=>if fV kvs=true then some (.o (.lst (kvs.map (·.2)))) else none
 |_=>none
def Y6:bP K (λxs H Q=>∃d es ep,xs=[.ref d]/\H d=some (.dG es ep)/\g9 es/\∀q,H q=none->Q (.ref q) (upd H q (.lst (es.map (·.2.2))))) (o1 qo):=tF λk H x a y Q le t e res=>by
 unfold qo at e;split at e
 .split at e
  .cases e;obtain⟨p,es,ep,rfl,h1,h2,h3,h4,h5⟩:=t.txt le (by assumption)
   exact⟨p,es,ep,rfl,h1,h2,λl hl=>res.lst le h5 hl⟩
  .cases e
 .cases e
noncomputable def F0(q:List Bool->Bool):D->ak Rv
 |.lst ds=>(gE ds).map λbs=>rd (.bl (q bs))
 |_=>none
def V5(q:List Bool->Bool):bP K (λxs H Q=>∃(a:ah) (bs:List Bool),xs=[.ref a]/\cz K H a (bs.map V.bl)/\Q (.bl (q bs)) H) (o1 (F0 q)):=tF λk H x a y Q le t e res=>by
 unfold F0 at e;split at e
 .obtain⟨bs,h,rfl⟩:=cV.mp e;obtain⟨p,ws,rfl,s,r⟩:=t.lst le;rw[M' h] at r;cases Na r;exact⟨p,bs,rfl,s,res.flat le rfl⟩
 .cases e
noncomputable def lC(f:List Int->Int):D->ak Rv
 |.lst ds=>(kB ds).bind λis=>if is=[] then none else some (rd (.int (f is)))
 |_=>none
def O9(f:List Int->Int):bP K (λxs H Q=>∃(a:ah) (is:List Int),xs=[.ref a]/\cz K H a (is.map V.int)/\is≠[]/\Q (.int (f is)) H) (o1 (lC f)):=tF λk H x a y Q le t e res=>by
 unfold lC at e;split at e
 .obtain⟨is,h,e⟩:=cf.mp e;split at e
  .cases e
  .cases e;obtain⟨p,ws,rfl,s,r⟩:=t.lst le;rw[NH h] at r;cases MW r;exact⟨p,is,rfl,s,by assumption,res.flat le rfl⟩
 .cases e
def jl:List D->ak (List (Int×Int))
 |[]=>some []
 |.tup [.int a,.int b,_]::ds=>(jl ds).map λks=>(a,b)::ks
 |_=>none
theorem N9:∀{ds:List D} {ks:List (Int×Int)} {ws:List V},jl ds=some ks->ag K k ws ds->aw k.F H->v_ K H ws ks
 |[],ks,ws,e,r,le=>by cases e;exact⟨by rw[r.length];rfl,λi hi=>nomatch hi⟩
 |d::ds,ks,ws,e,r,le=>by
  obtain⟨w,us,rfl,r1,r2⟩:=r.bU;unfold jl at e;split at e
  .rename_i h;cases h
  .rename_i a b z ds' h
   cases h;obtain⟨xp,e1,rfl⟩:=cV.mp e;obtain⟨l1,l2⟩:=N9 e1 r2 le;obtain⟨p,ws,rfl,q,r3⟩:=r1.isTup;obtain⟨w1,us1,rfl,t1,r3⟩:=r3.bU;obtain⟨w2,us2,rfl,t2,r3⟩:=r3.bU;obtain⟨w3,us3,rfl,t3,r3⟩:=r3.bU;cases r3.fH;cases t1.aW rfl;cases t2.aW rfl;refine⟨congrArg (·+1) l1,λi hi=>?_⟩
   cases i with
   |zero=>exact⟨p,w3,rfl,le.zT q⟩
   |succ i=>exact l2 i (Nat.lt_of_succ_lt_succ hi)
  .cases e
def xJ(K:PySem.W.Frag):List V->Hp->VK->Prop:=λvs H Q=>P9 K vs H Q\/Qd K vs H Q
def TC(hc:X.calm=true)(hK:X.K=K):bH X (.builtin "sorted") (xJ K):=(hK ▸ SF hc).or (Tz K hK)
def lW(ds:List D)(is:List Nat):List D:=is.map λi=>ds.getD i .aG
def ql:D->ak Rv
 |.lst ds=>if ds.length<2 then some (.o (.lst ds)) else(jl ds).bind λks=>if ks.Nodup/\ks.length<64 then some (.o (.lst (lW ds (cR ks)))) else none
 |.ar kvs=>if(fV kvs&&Nat.blt kvs.length 2)=true then some (.o (.lst (kvs.map (·.1.d)))) else none
 |_=>none
theorem N_{ws:List V}{ds:List D}(r:ag K k ws ds):∀{is:List Nat},(∀i∈is,i<ds.length)->ag K k (is.map λi=>ws.getD i .aG) (lW ds is)
 |[],_=>.nil
 |i::is,h=>by
  have hi:=h i (.head _);obtain⟨v,h1,h2⟩:=r.get (i:=i) (d:=ds[i]) (i5 hi);unfold lW;rw[bL,bL,show ws.getD i .aG=v by rw[Hq,h1];rfl,show ds.getD i .aG=ds[i] by rw[Hq,i5 hi];rfl]
  exact .cons h2 (N_ r λj m=>h j (.tail _ m))
def Y7:bP K (xJ K) (o1 ql):=tF λk H x a y Q le t e res=>by
 unfold ql at e;split at e
 .obtain⟨p,ws,rfl,s,r⟩:=t.lst le;split at e
  .cases e;exact .inl ⟨p,ws,rfl,.inl s,by rw[r.length];assumption,λl hl=>res.lst le r hl⟩
  .rename_i h2
   obtain⟨ks,h,e⟩:=cf.mp e;split at e
   .rename_i hk
    cases e;have T:=N9 h r le;have l1:ks.length=ws.length:=T.1.symm;have l2:=r.length;refine .inr ⟨p,ws,ks,rfl,s,T,hk.1,by lia,hk.2,λl hl=>res.lst le (N_ r λi m=>?_) hl⟩
    grind [Fh]
   .cases e
 .split at e
  .rename_i hh
   obtain⟨h1,h2⟩:=Br.mp hh;cases e;obtain⟨p,es,ep,rfl,h3,h4,h5,h6,h7⟩:=t.txt le h1;have:=h6.length;have l2:_<2:=fI (Aa h2) (bF _);exact .inl ⟨p,_,rfl,.inr ⟨es,ep,h3,h4,rfl⟩,by rw[this,bc];exact l2,λl hl=>res.lst le h6 hl⟩
  .cases e
 .cases e
def bQ{α:Type}:List (TK×α)->TK->α->List (TK×α)
 |[],k,v=>[(k,v)]
 |(j,w)::r,k,v=>if j=k then(j,v)::r else(j,w)::bQ r k v
def gL:List D->ak (List (TK×D))
 |[]=>some []
 |.tup [a,b]::ds=>(kD a).bind λj=>(gL ds).map λps=>(j,b)::ps
 |_=>none
noncomputable def pY:D->ak Rv
 |.lst ds=>(gL ds).bind λps=>if ps.length<1000 then some (.o (.ar (ps.foldl (λkvs p=>bQ kvs p.1 p.2) []))) else none
 |_=>none
theorem Jd{j:TK}{y v:V}{e:D}(ry:ag K k [y] [j.d])(rv:ag K k [v] [e]):∀{ws:List (TK×V×V)} {kvs:List (TK×D)},ws.map (·.1)=kvs.map (·.1)->ag K k (ws.map (·.2.1)) (kvs.map (·.1.d))->ag K k (ws.map (·.2.2)) (kvs.map (·.2))->
  (cU ws j y v).map (·.1)=(bQ kvs j e).map (·.1)/\ag K k ((cU ws j y v).map (·.2.1)) ((bQ kvs j e).map (·.1.d))/\ag K k ((cU ws j y v).map (·.2.2)) ((bQ kvs j e).map (·.2))
 |[],[],_,_,_=>⟨rfl,ry,rv⟩
 |w::ws,p::kvs,h,r1,r2=>by
  obtain⟨h1,h2⟩:=List.cons.inj (show w.1::ws.map (·.1)=p.1::kvs.map (·.1) from h)
  obtain⟨a1,a2⟩:=ag.inv r1;obtain⟨b1,b2⟩:=ag.inv r2;unfold cU bQ;by_cases q:p.1=j
  .rw[aP (h1.trans q),aP q];exact⟨congr (congrArg List.cons h1) h2,.cons a1 a2,.cons rv b2⟩
  .rw[aK (λz=>q (h1.symm.trans z)),aK q]
   obtain⟨c1,c2,c3⟩:=Jd ry rv h2 a2 b2;exact⟨congr (congrArg List.cons h1) c1,.cons a1 c2,.cons b1 c3⟩
 |[],_::_,h,_,_=>nomatch h
 |_::_,[],h,_,_=>nomatch h
def rY(K:PySem.W.Frag)(k:Kn)(q:TK×V×V)(p:TK×D):Prop:=q.1=p.1/\ag K k [q.2.1] [q.1.d]/\ag K k [q.2.2] [p.2]
theorem Oa:∀{ds:List D} {ps:List (TK×D)} {ws:List V},gL ds=some ps->ag K k ws ds->aw k.F H->∃qs:List (TK×V×V),jF K H ws qs/\Paired (rY K k) qs ps
 |[],ps,ws,e,r,le=>by cases e;cases r.fH;exact⟨[],⟨rfl,λi p h=>nomatch h⟩,.nil⟩
 |d::ds,ps,ws,e,r,le=>by
  unfold gL at e;split at e
  .rename_i h;cases h
  .rename_i a b ds' h
   cases h;obtain⟨j,q1,e⟩:=cf.mp e;obtain⟨Bh,q2,rfl⟩:=cV.mp e;obtain⟨w,us,rfl,r1,r2⟩:=r.bU;obtain⟨p,ws,rfl,sq,ri⟩:=r1.isTup;obtain⟨y,us1,rfl,t1,ri⟩:=ri.bU;obtain⟨v,us2,rfl,t2,ri⟩:=ri.bU;cases ri.fH;obtain⟨qs,h1,h3⟩:=Oa q2 r2 le;have rk:ag K k [y] [j.d]:=by rw[(AJ q1).1];exact t1
   refine⟨(j,y,v)::qs,⟨congrArg (·+1) h1.len,λi p h=>?_⟩,.cons ⟨rfl,rk,t2⟩ h3⟩
   cases i with
   |zero=>cases h;exact⟨_,rfl,le.zT sq,sW (k:=k.all H) j (rk.all le),(AJ q1).2⟩
   |succ i=>exact h1.item i p h
  .cases e
def O_{qs:List (TK×V×V)}{ps:List (TK×D)}(p:Paired (rY K k) qs ps):∀{ws:List (TK×V×V)} {kvs:List (TK×D)},ws.map (·.1)=kvs.map (·.1)->ag K k (ws.map (·.2.1)) (kvs.map (·.1.d))->ag K k (ws.map (·.2.2)) (kvs.map (·.2))->
  (eC ws qs).map (·.1)=(ps.foldl (λkvs p=>bQ kvs p.1 p.2) kvs).map (·.1)/\ag K k ((eC ws qs).map (·.2.1)) ((ps.foldl (λkvs p=>bQ kvs p.1 p.2) kvs).map (·.1.d))/\ag K k ((eC ws qs).map (·.2.2)) ((ps.foldl (λkvs p=>bQ kvs p.1 p.2) kvs).map (·.2)):=by
 induction p with
 |nil=>exact λa b c=>⟨a,b,c⟩
 |@cons q p qs ps h _ ih=>
  intro ws kvs a b c;obtain⟨h1,h2,h3⟩:=h;obtain⟨j1,j2,j3⟩:=Jd h2 h3 a b c;rw[h1] at j1 j2 j3;have:=ih (ws:=cU ws p.1 q.2.1 q.2.2) (kvs:=bQ kvs p.1 p.2) j1 j2 j3;rw[show eC ws (q::qs)=eC (cU ws p.1 q.2.1 q.2.2) qs by unfold eC;rw[Hr,h1],Hr]
  exact this
def V6:bP K (P7 K) (o1 pY):=tF λk H x a y Q le t e res=>by
 unfold pY at e;split at e
 .obtain⟨ps,q1,e⟩:=cf.mp e;split at e
  .rename_i hn
   cases e;obtain⟨p,ws,rfl,s,r⟩:=t.lst le;obtain⟨qs,g1,g3⟩:=Oa q1 r le;obtain⟨o1,o2,o3⟩:=O_ g3 (ws:=[]) (kvs:=[]) rfl .nil .nil;exact⟨p,ws,qs,rfl,s,g1,by rw[Paired.length g3];exact hn,λl ep hl=>res.ar le o1 o2 o3 hl⟩
  .cases e
 .cases e
noncomputable def Rx:D->ak String
 |.str _=>some "str"
 |.lst _=>some "list"
 |.ar _=>some "dict"
 |_=>none
def e1w{T:String}(le:aw k.F H)(t:Top K k H x d)(e:Rx d=some T):G_ K T x H:=by
 cases d with
 |str _=>cases e;cases t.flat rfl;rfl
 |lst _=>cases e;obtain⟨p,ws,rfl,q,r⟩:=t.lst le;exact .inl ⟨rfl,_,q⟩
 |ar _=>cases e;obtain⟨p,es,ep,rfl,h1,h2⟩:=t.ar le;exact .inr (.inr (.inl ⟨rfl,.inr (.inr ⟨es,ep,h1⟩)⟩))
 |_=>cases e
def Cs(T:String)(o:List D->ak Rv)(f:GE)(g:GA):GE:=λU S=>bd (f U S) λr S1=>if(vH S1 (mV r)).bind Rx=some T then bd (g U S1) λvs S2=>(vI S2 (mV r::vs)).bind λds=>(o ds).map λy=>.ok y S2 else none
def V7{W:XW}{q:Nat}{T:String}{o:List D->ak Rv}{r:V->List V->Hp->VK->Prop}{f:GE}{g:GA}{Z:St}{H:Hp}{Q:VK}(bj:bP K (qj r) o)(t:tE K W q (Cs T o f g) Z H Q):LF K T r (tE K W q f) (fU K W q g) Z H Q:=by
 obtain⟨k,U,S,res,ok,gk,e,w⟩:=t;refine tX.bd ok gk e w λr S1 x k1 H1 bw g1 r1 e1 w1 _=>?_
 obtain⟨k2,u2,cB,r2⟩:=rf bw r1;split at e1
 .rename_i hT
  obtain⟨d,h1,h2⟩:=cf.mp hT;refine⟨e1w cB.le (FT cB r2 h1) h2,tX.bd cB (g1.up (u2 q)) e1 (w1.up (u2 q)) λvs S3 xs k3 H3 jC g3 r3 e3 w3 u3=>?_⟩
  obtain⟨ds,e4,e5⟩:=cf.mp e3;obtain⟨y,e6,rfl⟩:=cV.mp e5;obtain⟨x',xs',z,rr⟩:=bj k3 H3 (x::xs) ds y Q jC.le (OO jC (.cons (r2.up u3) r3) e4) e6 (.fin jC w3);cases z;exact rr
 .cases e1
def iU:D->D->ak Rv
 |.lst ds,.str z=>(dZ ds).bind λys=>(findS ys z).map λj=>rd (.int (j:Nat))
 |_,_=>none
def V8:bP K (qj (P5 K)) (o2 iU):=vA λk H x z a b y Q le t1 t2 e res=>by
 unfold iU at e;split at e
 .obtain⟨ys,e1,e2⟩:=cf.mp e;obtain⟨j,e3,rfl⟩:=cV.mp e2;obtain⟨p,ws,rfl,s,r⟩:=t1.lst le;rw[E6 e1] at r;cases EX r;cases t2.flat rfl;obtain⟨s1,s2⟩:=BS e3;exact⟨_,_,rfl,p,ys,_,j,rfl,rfl,s,s1,s2,res.flat le rfl⟩
 .cases e
noncomputable def og:D->D->ak Rv
 |.ar kvs,i=>(kD i).map λj=>rd ((aL kvs j).getD .aG)
 |_,_=>none
def Y8:bP K (qj (xA K)) (o2 og):=vA λk H x z a b y Q le t1 t2 e res=>by
 unfold og at e;split at e
 .obtain⟨j,hj,rfl⟩:=cV.mp e;obtain⟨p,o,rfl,g,h⟩:=vX le t1 t2 hj;refine⟨_,_,rfl,p,_,o,rfl,rfl,g,?_⟩;rcases h with⟨rfl,h⟩|⟨v,e,rfl,h,r⟩
  .rw[h] at res;exact res.flat le rfl
  .rw[h] at res;exact res.rep le r
 .cases e
end
variable{k:Kn}{ws:List V}{ds:List D}{v:V}
noncomputable def Cell.box:Cell->ak Bx
 |.o b=>some b
 |_=>none
def qJ(S:aO):Val->ak Bx
 |.c n=>(S.s[n]?).bind Cell.box
 |.d (.ref n)=>(S.r[n]?).bind Cell.box
 |_=>none
noncomputable def setB(S:aO)(b:Bx):Val->aO
 |.c n=>⟨S.s.set n (.o b),S.r⟩
 |.d (.ref n)=>⟨S.s,S.r.set n (.o b)⟩
 |_=>S
noncomputable def Bx.mb(q:Nat):Bx->Bool
 |.lst _=>Nat.ble q 1
 |.ar _=>q == 0
noncomputable def Bx.ty:Bx->String
 |.lst _=>"list"
 |.ar _=>"dict"
section
variable{K:PySem.W.Frag}{k:Kn}{H:Hp}{S:aO}{x:V}{v:Val}{b:Bx}{a:ah}
def Qe{c:Cell}(h:c.box=some b):c=.o b:=by
 cases c <;> cases h;rfl
def Qf{q:Nat}(h:dc K k H a b)(m:b.mb q=true):∀o,H a=some o->vx q o=false:=by
 intro o e;cases b with
 |lst xs=>
  obtain⟨ws,e1,_⟩:=h;rw[e] at e1;cases e1;have:=Aa m
  match q,this with
  |0,_=>rfl
  |1,_=>rfl
 |ar kvs=>cases(beq_iff_eq.mp m);rfl
def Ci(ok:bR K k H S)(r:cI K k x v)(e:qJ S v=some b):∃a,x=.ref a/\dc K k H a b/\∀q b' H',lA H H' a->b.mb q=true->dc K k H' a b'->bR K k H' (setB S b' v)/\Up q k H k H':=by
 cases v with
 |c n=>
  obtain⟨a,rfl,h1⟩:=r;obtain⟨c,h2,h3⟩:=cf.mp e;cases Qe h3;obtain⟨h4,h5⟩:=ok.s.at' n a _ h1 h2;exact⟨a,rfl,h5,λq b' H' o m h=>ok.Lx h1 o h4 (Qf h5 m) (c:=.o b') ⟨h4,h⟩⟩
 |d y=>
  cases y with
  |ref n=>
   obtain⟨a,rfl,h1⟩:=ag.isRef r;obtain⟨c,h2,h3⟩:=cf.mp e;cases Qe h3;obtain⟨h4,h5⟩:=ok.r.at' n a _ h1 h2;exact⟨a,rfl,h5,λq b' H' o m h=>ok.DY h1 o h4 (Qf h5 m) (c:=.o b') ⟨h4,h⟩⟩
  |_=>cases e
def e6j{T:String}(h:dc K k H a b)(e:b.ty=T):G_ K T (.ref a) H:=by
 cases b with
 |lst xs=>obtain⟨ws,h1,_⟩:=h;exact .inl ⟨e.symm,ws,.inl (.inl h1)⟩
 |ar kvs=>obtain⟨es,ep,h1,_⟩:=h;exact .inr (.inr (.inl ⟨e.symm,.inr (.inr ⟨es,ep,h1⟩)⟩))
end
def lz(K:PySem.W.Frag)(r:V->List V->Hp->VK->Prop)(m:Bx->List D->ak (Bx×D)):Prop:=∀k H a b ds b' d xs Q,aw k.F H->dc K k H a b->ag K k xs ds->m b ds=some (b',d)->(∀x o',dc K k (upd H a o') a b'->ag K k [x] [d]->Q x (upd H a o'))->r (.ref a) xs H Q
def fT(q:Nat)(T:String)(m:Bx->List D->ak (Bx×D))(f:GE)(g:GA):GE:=λU S=>bd (f U S) λr S1=>if(qJ S1 (mV r)).map Bx.ty=some T then bd (g U S1) λvs S2=>(qI vs S2).bind λp=>(qJ p.2 (mV r)).bind λb=>if b.mb q=true then(m b p.1).map λz=>.ok (rd z.2) (setB p.2 z.1 (mV r)) else none else none
section
variable{X:Cx}{K:PySem.W.Frag}{W:XW}{q:Nat}{T:String}{m:Bx->List D->ak (Bx×D)}{r:V->List V->Hp->VK->Prop}{f:GE}{g:GA}{Z:St}{H:Hp}{Q:VK}
def e1x(hm:lz K r m)(t:tE K W q (fT q T m f g) Z H Q):LF K T r (tE K W q f) (fU K W q g) Z H Q:=by
 obtain⟨k,U,S,res,ok,gk,e,w⟩:=t;refine tX.bd ok gk e w λr S1 x k1 H1 bw g1 r1 e1 w1 _=>?_
 obtain⟨k2,u2,cB,r2⟩:=rf bw r1;split at e1
 .rename_i hT
  obtain⟨b0,h1,h2⟩:=cV.mp hT;obtain⟨a0,ea,h3,_⟩:=Ci cB r2 h1;refine⟨ea ▸ e6j h3 h2,tX.bd cB (g1.up (u2 q)) e1 (w1.up (u2 q)) λvs S3 xs k3 H3 jC g3 r3 e3 w3 u3=>?_⟩
  obtain⟨⟨ds,S4⟩,e4,e5⟩:=cf.mp e3;obtain⟨k4,u4,qQ,r4⟩:=FC jC r3 e4;obtain⟨b,e6,e7⟩:=cf.mp e5;obtain⟨a,rfl,h4,h5⟩:=Ci qQ ((r2.up u3).up (u4 q)) e6;split at e7
  .rename_i hb
   obtain⟨⟨b',d⟩,e8,rfl⟩:=cV.mp e7;refine hm k4 H3 a b ds b' d xs Q qQ.le h4 r4 e8 λy o' h6 h7=>?_
   obtain⟨mJ,u5⟩:=h5 q b' _ B5 hb h6;exact(w3.up (u4 q)) y k4 _ u5 mJ h7
  .cases e7
 .cases e1
noncomputable def uR:Bx->List D->ak (Bx×D)
 |.lst xs,[d]=>if xs.length<1000000 then some (.lst (xs++[d]),.aG) else none
 |_,_=>none
def zQ:ag K k [.aG] [.aG]:=.flat rfl .nil
def FI{xs:List V}{d:D}(h:ag K k xs [d]):∃x,xs=[x]/\ag K k [x] [d]:=by
 obtain⟨x,us,rfl,h1,h2⟩:=h.bU;cases h2.fH;exact⟨x,rfl,h1⟩
def UR:lz K OL uR:=by
 intro k H a b ds b' d xs Q le hb r e h;unfold uR at e;split at e
 .split at e
  .rename_i hl
   cases e;obtain⟨ws,h1,h2⟩:=hb;obtain⟨y,rfl,r1⟩:=FI r;exact⟨a,ws,y,rfl,rfl,h1,fI (by rw[h2.length];exact hl) (by decide),h .aG _ ⟨_,aI,h2.append r1⟩ zQ⟩
  .cases e
 .cases e
noncomputable def AL:Bx->List D->ak (Bx×D)
 |.lst xs,[.int i,d]=>if 0<=i/\i<2^62/\xs.length<1000000 then some (.lst (xs.take i.toNat++d::xs.drop i.toNat),.aG) else none
 |_,_=>none
def US:lz K OM AL:=by
 intro k H a b ds b' d xs Q le hb r e h;unfold AL at e;split at e
 .split at e
  .rename_i hl
   cases e;obtain⟨ws,h1,h2⟩:=hb;obtain⟨y,us,rfl,r1,r2⟩:=r.bU;obtain⟨z,rfl,r3⟩:=FI r2;cases r1.aW rfl;refine⟨a,ws,_,z,rfl,rfl,h1,hl.1,hl.2.1,fI (by rw[h2.length];exact hl.2.2) (by decide),h .aG _ ⟨_,aI,?_⟩ zQ⟩
   have:∀(n:Nat) (l:List V),qN l n z=l.take n++z::l.drop n:=λn l=>by unfold qN;rfl
   rw[this];exact(h2.take _).append (.cons r3 (h2.drop _))
  .cases e
 .cases e
noncomputable def FJ:Bx->List D->ak (Bx×D)
 |.lst xs,[.str z]=>(dZ xs).bind λys=>(findS ys z).map λj=>(.lst (xs.eraseIdx j),.aG)
 |_,_=>none
def UT(h:ag K k ws ds)(j:Nat):ag K k (ws.eraseIdx j) (ds.eraseIdx j):=by
 rw[List.eraseIdx_eq_take_drop_succ,List.eraseIdx_eq_take_drop_succ];exact(h.take _).append (h.drop _)
def UU:lz K O4 FJ:=by
 intro k H a b ds b' d xs Q le hb r e h;unfold FJ at e;split at e
 .obtain⟨ys,e1,e2⟩:=cf.mp e;obtain⟨j,e3,e4⟩:=cV.mp e2;cases e4;obtain⟨ws,h1,h2⟩:=hb;obtain⟨y,rfl,r1⟩:=FI r;cases r1.aW rfl;obtain⟨s1,s2⟩:=BS e3;have h3:=UT h2 j;rw[E6 e1] at h2;cases EX h2;exact⟨a,ys,_,j,rfl,rfl,h1,s1,s2,h .aG _ ⟨_,aI,by rw[<-E7];exact h3⟩ zQ⟩
 .cases e
def dq{α:Type}(kvs:List (TK×α))(z:Str):List (TK×α):=kvs.filter λe=>gj z e.1
def kF:Bx->List D->ak (Bx×D)
 |.ar kvs,[.str z]=>if fV kvs=true then(aL kvs (.inr z)).map λd=>(.ar (dq kvs z),d) else none
 |_,_=>none
theorem Ob{k:Kn}(z:Str):∀{ws:List (TK×V×V)} {kvs:List (TK×D)},ws.map (·.1)=kvs.map (·.1)->ag K k (ws.map (·.2.1)) (kvs.map (·.1.d))->ag K k (ws.map (·.2.2)) (kvs.map (·.2))->
  (dq ws z).map (·.1)=(dq kvs z).map (·.1)/\ag K k ((dq ws z).map (·.2.1)) ((dq kvs z).map (·.1.d))/\ag K k ((dq ws z).map (·.2.2)) ((dq kvs z).map (·.2))
 |[],[],_,_,_=>⟨rfl,.nil,.nil⟩
 |w::ws,p::kvs,h,r1,r2=>by
  obtain⟨h1,h2⟩:=List.cons.inj (show w.1::ws.map (·.1)=p.1::kvs.map (·.1) from h)
  obtain⟨a1,a2⟩:=ag.inv r1;obtain⟨b1,b2⟩:=ag.inv r2;obtain⟨c1,c2,c3⟩:=Ob z h2 a2 b2;unfold dq at *;rw[tZ,tZ,h1];split
  .exact⟨congr (congrArg List.cons h1) c1,.cons a1 c2,.cons b1 c3⟩
  .exact⟨c1,c2,c3⟩
 |[],_::_,h,_,_=>nomatch h
 |_::_,[],h,_,_=>nomatch h
def Y9:lz K (xG K) kF:=by
 intro k H a b ds b' d xs Q le hb r e h;unfold kF at e;split at e
 .split at e
  .rename_i ht
   obtain⟨v0,e1,e2⟩:=cV.mp e;cases e2;obtain⟨es,ep,h1,h2,h3,h4⟩:=hb;obtain⟨y,rfl,r1⟩:=FI r;cases r1.aW rfl;obtain⟨f1,f2,f3⟩:=Ob (K:=K) _ h2 h3 h4;rcases Jc (k:=.inr _) h2 h4 with⟨_,z⟩|⟨v,e,z1,z2,z3⟩
   .rw[z] at e1;cases e1
   .rw[z2] at e1;cases e1;exact⟨a,es,ep,_,v,rfl,rfl,h1,JJ h2 h3 ht,z1,λo_=>h v _ ⟨_,o_,aI,f1,f2,f3⟩ z3⟩
  .cases e
 .cases e
end
def qk(K:PySem.W.Frag):qD:=λo i v H Q=>xI o i v H Q\/∃a H4,o=.ref a/\yg K H a i v H4/\Q H4
def QM{X:Cx}(hu:X.A.units+41<cLine):uK X (qk X.K):=by
 intro aa s Z H o i v ov iv u Q I ro ri rv h;rcases h with h|⟨a,H4,rfl,g,q⟩
 .exact VC aa s Z H o i v ov iv u Q I ro ri rv h
 .cases ro;exact UG (by lia) I g ri rv λs4 I4=>⟨H4,I4,q⟩
def vJ(b:Bx)(i v:D):ak Bx:=match b with
 |.lst xs=>(intD i).bind λk=>(vw xs.length k).map λj=>.lst (xs.set j v)
 |.ar kvs=>(kD i).bind λj=>if kvs.length<1000000 then some (.ar (bQ kvs j v)) else none
section
variable{X:Cx}{K:PySem.W.Frag}{W:XW}{q:Nat}{fv fo fi:GE}{o e i:Expr}{pos pos':Pos}{Z:St}{H:Hp}
def Y_{d:D}(h:ag K k ws ds)(r:ag K k [v] [d])(j:Nat):ag K k (ws.set j v) (ds.set j d):=by
 induction ds generalizing ws j with
 |nil=>rw[h.fH];exact .nil
 |cons x ds ih=>
  obtain⟨w,us,rfl,h1,h2⟩:=h.bU;cases j with
  |zero=>exact .cons r h2
  |succ j=>exact .cons h1 (ih h2 j)
def Qg{a:ah}{b b':Bx}{di dv:D}{y:V}{Q:Hp->Prop}(le:aw k.F H)(hb:dc K k H a b)(ri:ag K k [y] [di])(rv:ag K k [v] [dv])(e:vJ b di dv=some b')(h:∀o',dc K k (upd H a o') a b'->Q (upd H a o')):qk K (.ref a) y v H Q:=by
 unfold vJ at e;split at e
 .obtain⟨j,h1,e⟩:=cf.mp e;obtain⟨n,h2,rfl⟩:=cV.mp e;cases FG h1;cases ri.aW rfl;obtain⟨ws,h3,h4⟩:=hb;exact .inl ⟨a,ws,j,n,rfl,rfl,h3,by rw[h4.length];exact h2,h _ ⟨_,aI,Y_ h4 rv n⟩⟩
 .obtain⟨j,h1,e⟩:=cf.mp e;split at e
  .rename_i hl
   cases e;obtain⟨es,ep,h2,h3,h4,h5⟩:=hb;obtain⟨k1,k2⟩:=AJ h1;have ry:ag K k [y] [j.d]:=by rw[k1];exact ri
   obtain⟨p1,p2,p3⟩:=Jd ry rv h3 h4 h5;have mE:es.length<sizeLine:=by
    have:=h5.length;rw[bc,bc] at this;rw[this];exact fI hl (by decide)
   exact .inr ⟨a,_,rfl,⟨es,ep,j,h2,OZ h3 h4 le,sW (k:=k.all H) j (ry.all le),k2,mE,rfl⟩,h _ ⟨_,_,aI,p1,p2,p3⟩⟩
  .cases e
def bX(q:Nat)(fv fo fi:GE):GS:=λU S=>kL U (nB fv (nB fo (nB fi gN)) U S) λvs S1=>match vs with
 |[v,o,i]=>(qI [v,i] S1).bind λp=>(qJ p.2 o).bind λb=>if b.mb q=true then(match p.1 with
  |[dv,di]=>(vJ b di dv).map λb'=>.nx U (setB p.2 b' o)
  |_=>none) else none
 |_=>none
def e1z{D:Ends}(t:tS K W q (bX q fv fo fi) D Z H):tE K W q fv Z H λv H1=>tE K W q fo Z H1 λo H2=>tE K W q fi Z H2 λi H3=>qk K o i v H3 λH4=>D.nx Z H4:=by
 have t1:fU K W q (nB fv (nB fo (nB fi gN))) Z H λxs H3=>∃v o i,xs=[v,o,i]/\qk K o i v H3 λH4=>D.nx Z H4:=by
  obtain⟨k,U,S,fr,ok,gk,e,w⟩:=t;refine tS.bd ok gk e w λvs S1 xs k1 H1 bw g1 r1 e1 w1=>?_
  split at e1
  .rename_i v o i
   cases r1 with
   |@cons xv _ _ _ rv t=>
    cases t with
    |@cons xo _ _ _ ro t=>
     cases t with
     |@cons xi _ _ _ ri t=>
      cases t;refine⟨xv,xo,xi,rfl,?_⟩;obtain⟨⟨ds,S2⟩,e2,e3⟩:=cf.mp e1;obtain⟨k2,u2,cB,r2⟩:=FC bw (.cons rv (.cons ri .nil)) e2;obtain⟨b,e4,e5⟩:=cf.mp e3;obtain⟨a,rfl,h4,h5⟩:=Ci cB (ro.up (u2 q)) e4;split at e5
      .rename_i hb
       obtain _|⟨dv,_|⟨di,_|⟨_,_⟩⟩⟩:=ds
       .cases e5
       .cases e5
       .obtain⟨b',e6,rfl⟩:=cV.mp e5;obtain⟨s1,s2⟩:=r2.inv;refine Qg cB.le h4 s2 s1 e6 λo' h6=>?_
        obtain⟨mJ,u5⟩:=h5 q b' _ B5 hb h6;exact bO.now (bO.up (bO.up w1 (u2 q)) u5) mJ ((g1.up (u2 q)).up u5)
       .cases e5
      .cases e5
  .cases e1
 refine oF (uQ t1) λv H1 h=>oF (uQ h) λo H2 h=>oF (uQ h) λi H3 h=>?_
 obtain⟨v',o',i',e,h⟩:=AW h;cases e;exact h
def e2a(he:PE X e (tE K W q fv))(ho:PE X o (tE K W q fo))(hi:PE X i (tE K W q fi))(hu:X.A.units+41<cLine)(hK:X.K=K)
  (ha:∀v,assign (.Subscript o i pos') X.env v=(do
   let ov <-holding [v] (eval o X.env)
   let iv <-holding [v,ov] (eval i X.env)
   standAt pos'
   holding [v,ov,iv] (setItem ov iv v)
   release [v,ov,iv] []))
  (hs:swapsWithSole [.Subscript o i pos'] e pos.line X.env=pure false) (hw:swappedStores [.Subscript o i pos'] e X.env=pure none)
  (h1:(assignEach [.Subscript o i pos'] X.env).map (·.2)=[assign (.Subscript o i pos') X.env]):PS X (.Assign [.Subscript o i pos'] e pos) (tS K W q (bX q fv fo fi)):=by
 subst hK;exact(ω he (ψ ho hi (QM hu) ha) hs hw h1).mono λD Z H t=>e1z t
end
end L2
namespace L2
open PySem PySem.Spec PySem.W PyProof.Rows
section
variable{X:Cx}{K:Frag}{W:XW}{q:Nat}{pos:Pos}{aa:List (ah×Obj)}{Z:St}
def tH:PE X (.Dict [] [] pos) e1t:=λaa s Z H Q I h=>
 wpAny_Dict_empty ⟨.ref s.heap.objs.size,_,I.laid (a:=s.heap.objs.size) (o:=.dG [] 0) (t':=s.toks) (λ_ _ q=>cO _ q) (bF _) (IK s.heap I.big),rfl,h _ (I.bj.fresh (bF _))⟩
noncomputable def qF:GE:=λ_ S=>some (.ok (.o (.ar [])) S)
def sr:PE X (.Dict [] [] pos) (tE K W q qF):=tH.mono λZ H Q t p hp=>by
 obtain⟨k,U,S,res,ok,gk,e,w⟩:=t;cases e;exact kU.ar (.fin ok w) ok.le rfl .nil .nil hp
def pO(K:Frag)(F:Hp)(e:TK×V×V):Prop:=aY K F [e.2.1] [e.1.d]/\e.1.ok 8=true
def Qh(K:Frag)(vO:List (TE×TE)):TE:=λZ H Q=>∀p,H p=none->FQ vO Z (upd H p (.dG [] 0)) λps H2=>(∃e0,H2 p=some (.dG [] e0))/\∃(F:Hp) (qs:List (TK×V×V)),F p=none/\aw F H2/\ps=qs.map (·.2)/\(∀e∈qs,pO K F e)/\qs.length<=15/\∀ep,Q (.ref p) (upd H2 p (.dG (eC [] qs) ep))
def V9{F:Hp}{qs:List (TK×V×V)}(h:∀e∈qs,pO K F e):∀{es:List (TK×V×V)},aY K F (es.map (·.2.1)) (es.map (·.1.d))->aY K F ((eC es qs).map (·.2.1)) ((eC es qs).map (·.1.d)):=λ{es} r=>Nb K (λp m=>(h p m).1) r
theorem NJ{A:cD}{E:aj->aq->Prop}{F H2:Hp}{p:ah}(hF:F p=none)(le:aw F H2)(hu:A.units+8<cLine){Q:Unit->aq->Prop}:∀{qs:List (TK×V×V)} {ws:List (aj×aj)} {es:List (TK×V×V)} {ep:Nat} {s:aq},VV (qs.map (·.2)) ws->(∀e∈qs,pO X.K F e)->aY X.K F (es.map (·.2.1)) (es.map (·.1.d))->es.length+qs.length<=1000->Inv X aa Z (upd H2 p (.dG es ep)) s->(∀ep s,Inv X aa Z (upd H2 p (.dG (eC es qs) ep)) s->Q () s)->
  wpAny (model X.prog X.w) A (forIn ws () λ(x:aj×aj) _=>do dictSet p x.1 x.2;pure (ForInStep.yield ())) Q E s
 |[],_,es,ep,s,v,_,_,_,I,h=>by
  rw[z7] at v;cases v;rw[List.forIn_nil];exact aQ (h ep s I)
 |e::qs,_,es,ep,s,v,hk,r,hl,I,h=>by
  rw[bL] at v;cases v with
  |cons rv v=>
   rw[List.forIn_cons];have sm:aw F (upd H2 p (.dG es ep)):=λb o z=>by rw[cQ (λy=>by rw[y,hF] at z;cases z)];exact le b o z
   have Kl:=hk e (.head _);rw[jt] at hl;refine ax (ax (Iy (by lia) I ⟨es,ep,e.1,aI,r.Ha sm,Kl.1.Ha sm,Kl.2,by rw[sizeLine_eq];lia,rfl⟩ rv.1 rv.2 λs' I'=>aQ ?_))
   rw[Xv] at I';have GD:=EV e.1 e.2.1 e.2.2 es;have e3:(eC es [e]).length=(cU es e.1 e.2.1 e.2.2).length:=rfl;exact NJ (es:=eC es [e]) hF le hu v (λe m=>hk e (.tail _ m)) (V9 (qs:=[e]) (λx m=>by cases kJ.mp m;exact Kl) r) (by lia) I' h
def V_{keys:List (ak Expr)}{values:List Expr}{vO:List (TE×TE)}(h:Ah X pos keys values vO)(hu:X.A.units+41<cLine)(jz:keys.all (·.isSome)=true)(hl:keys.length=values.length)(h0:keys≠[])(y0:keys.length<=15):PE X (.Dict keys values pos) (Qh X.K vO):=by
 intro aa s Z H Q I q;have hn:=I.bj.fresh (bF s.heap.objs.size);have I1:=I.laid (a:=s.heap.objs.size) (o:=.dG [] 0) (h':=s.heap.push { cls:=.type "dict",data:=.dict #[]}) (t':=s.toks) (λ_ _ q=>cO _ q) (bF _) (IK s.heap I.big)
 have lp:∀(ks:List (ak Expr)) (vs:List Expr),ks.all (·.isSome)=true->ks.length=vs.length->(pairTrees ks vs X.env pos).length=ks.length:=by
  intro ks
  induction ks with
  |nil=>intro vs _ e;cases vs with
   |nil=>rfl
   |cons _ _=>cases e
  |cons k ks ih=>
   intro vs a e;rw[t5,jq] at a;cases k with
   |none=>cases a.1
   |some k=>cases vs with
    |nil=>cases e
    |cons v vs=>exact congrArg (·+1) (ih vs a.2 (Nat.succ.inj e))
 have K2:=lp keys values jz hl;rw[arm_eval_Dict,zip_pairTrees keys values X.env pos jz hl,dictDisplay_pairs _ (λz=>h0 (List.eq_nil_of_length_eq_zero (by rw[<-K2,z];rfl))) (by rw[K2];lia)]
 refine ax (wpAny_standAt (ax ?_));unfold subDict;refine ax (wpAny_alloc (ax (kP ?_)));rw[aP (by rw[K2];exact y0)]
 refine ax (bA (h aa _ Z _ _ I1 (q _ hn)) λws s2 hh=>?_)
 obtain⟨ps,H2,I2,rel,⟨e0,e⟩,F,qs,hF,le,ep,hk,hq,q2⟩:=hh;subst ep;refine kP (ax ?_);have eu:upd H2 s.heap.objs.size (.dG [] e0)=H2:=by
  funext b;by_cases z:b=s.heap.objs.size
  .rw[z,aI,e]
  .rw[cQ z]
 refine NJ hF le (by show X.A.units+8<cLine;lia) rel hk .nil (by rw[Bp];lia) (eu ▸ I2) λep s' I'=>?_
 exact aQ (aQ (aQ ⟨.ref _,_,I',rfl,q2 ep⟩))
noncomputable def Js:List D->ak (List (TK×D))
 |[]=>some []
 |a::b::ds=>(kD a).bind λj=>(Js ds).map λps=>(j,b)::ps
 |_=>none
def p_(g:GA):GE:=λU S=>bd (g U ⟨S.s++[.o (.ar [])],S.r⟩) λvs S1=>(qI vs S1).bind λz=>if z.2.s.length=S.s.length+1 then(match z.2.s[S.s.length]? with
 |some (.o (.ar []))=>(Js z.1).bind λps=>if ps.length<=15 then some (.ok (.o (.ar (ps.foldl (λkvs p=>bQ kvs p.1 p.2) []))) ⟨z.2.s.take S.s.length,z.2.r⟩) else none
 |_=>none) else none
def AM:List (GE×GE)->GA
 |[]=>gN
 |p::r=>nB p.1 (nB p.2 (AM r))
noncomputable def sD:List (V×V)->List V
 |[]=>[]
 |p::r=>p.1::p.2::sD r
noncomputable abbrev G8(K:Frag)(W:XW)(q:Nat)(gs:List (GE×GE)):List (TE×TE):=gs.map λp=>(tE K W q p.1,tE K W q p.2)
def V'{gs:List (GE×GE)}:∀{H:Hp} {Q:List (V×V)->Hp->Prop},fU K W q (AM gs) Z H (λxs H2=>∀ps,sD ps=xs->Q ps H2)->FQ (G8 K W q gs) Z H Q:=by
 induction gs with
 |nil=>intro H Q t;exact AW t [] rfl
 |cons p gs ih=>intro H Q t;exact oF (uQ t) λx H1 t=>oF (uQ t) λy H2 t=>ih (oF t λxs H3 h ps e=>h _ (by rw[<-e];rfl))
theorem Pa{k:Kn}:∀{ps:List (V×V)} {ds:List D} {es:List (TK×D)},Js ds=some es->ag K k (sD ps) ds->∃qs:List (TK×V×V),ps=qs.map (·.2)/\(∀e∈qs,pO K k.F e)/\Paired (rY K k) qs es
 |[],ds,es,e,r=>by
  cases ds with
  |nil=>cases e;exact⟨[],rfl,(λ_ m=>nomatch m),.nil⟩
  |cons _ _=>have:=r.length;cases this
 |p::ps,ds,es,e,r=>by
  cases ds with
  |nil=>have:=r.length;cases this
  |cons a ds=>cases ds with
   |nil=>have:=r.length;cases this
   |cons b ds=>
    obtain⟨j,q1,e⟩:=cf.mp e;obtain⟨Bh,q2,rfl⟩:=cV.mp e;obtain⟨r1,r⟩:=ag.inv r;obtain⟨r2,r⟩:=ag.inv r;obtain⟨qs,h1,h2,h3⟩:=Pa q2 r;have rk:ag K k [p.1] [j.d]:=by rw[(AJ q1).1];exact r1
    refine⟨(j,p.1,p.2)::qs,by rw[h1];rfl,λe m=>?_,.cons ⟨rfl,rk,r2⟩ h3⟩
    rcases y04.mp m with rfl|m
    .exact⟨sW (k:=k) j rk,(AJ q1).2⟩
    .exact h2 e m
def UX{α:Type}{l:List α}{n:Nat}{p:α}(h:l.length=n+1)(e:l[n]?=some p):l=l.take n++[p]:=by
 conv=>lhs;rw[<-List.take_append_drop n l]
 congr 1
 obtain⟨hn,e⟩:=eR.mp e;rw[List.drop_eq_getElem_cons hn,e,Hh (by lia)]
def Za{gs:List (GE×GE)}{H:Hp}{Q:VK}(t:tE K W q (p_ (AM gs)) Z H Q):Qh K (G8 K W q gs) Z H Q:=by
 intro p hp;obtain⟨k,U,S,res,ok,gk,e,w⟩:=t;have sm:aw H (upd H p (.dG [] 0)):=sd hp;obtain⟨fx,nx⟩:=ok.fresh hp;have cB:bR K k _ S:=ok.new (aw.refl _) (λa _ o z=>sm a o z) (ok.le.trans sm) λ_ _ z=>z
 obtain⟨jC,u3⟩:=cB.pushS (b:=.ar []) fx nx ⟨[],0,aI,rfl,.nil,.nil⟩;have u4:Up q k H ⟨k.F,k.A,k.T++[p]⟩ (upd H p (.dG [] 0)):=(Up.of (aw.refl _) sm).trans (u3 q);refine V' ?_;refine tX.bd (R':=RE K) (Q':=Q) jC (gk.up u4) e (w.up u4) λvs S1 xs k1 H1 bw g1 r1 e1 w1 u1 ps0 e0=>?_
 subst e0;obtain⟨z,e2,e1⟩:=cf.mp e1;obtain⟨k2,u2,mJ,r5⟩:=FC bw r1 e2;split at e1
 .rename_i hl
  split at e1
  .rename_i hc
   obtain⟨ps,e3,e1⟩:=cf.mp e1;split at e1
   .rename_i y0
    cases e1;have ep:k2.T[S.s.length]?=some p:=FR (u2 q).t (FR u1.t (by rw[<-ok.s.ln];exact Fy))
    obtain⟨hF,es,e0,hH,hk,_,_⟩:=mJ.s.at' _ _ _ ep hc;cases es with
    |cons _ _=>cases hk
    |nil=>
     obtain⟨qs,h1,h2,h3⟩:=Pa e3 r5;have hlT:k2.T.length=S.s.length+1:=mJ.s.ln.trans hl;have eT:=UX hlT ep;have np:p∉k2.A++k2.T.take S.s.length:=by
      have nd:=mJ.nd;rw[eT,<-mY] at nd;exact λm=>(iF.mp nd).2.2 p m p (List.mem_singleton_self _) rfl
     refine⟨⟨e0,hH⟩,k2.F,qs,hF,mJ.le,h1,h2,by rw[Paired.length h3];exact y0,λo_=>?_⟩
     obtain⟨o1,o2,o3⟩:=O_ h3 (ws:=[]) (kvs:=[]) rfl .nil .nil;have ho:lA H1 (upd H1 p (.dG (eC [] qs) o_)) p:=B5;have K8:=mJ.take S.s.length;have ok7:bR K ⟨k2.F,k2.A,k2.T.take S.s.length⟩ (upd H1 p (.dG (eC [] qs) o_)) ⟨z.2.s.take S.s.length,z.2.r⟩:=K8.new (aw.refl _) (λa m o y=>by rw[ho a λy=>np (y ▸ m)];exact y) (λb o y=>by rw[ho b λy'=>by rw[y',hF] at y;cases y];exact mJ.le b o y) λ_ _ y=>y
     have uu:=u4.trans (u1.trans (u2 q));refine w (.ref p) ⟨k2.F,k2.A,k2.T.take S.s.length⟩ _ ⟨uu.f,uu.a,N1 uu.t (Hf ok.s.ln),λa o y1 y2=>?_⟩ ok7 ⟨p,rfl,hF,np,_,o_,aI,o1,ag.mono (k:=k2) ⟨aw.refl k2.F,lr k2.A⟩ o2,ag.mono (k:=k2) ⟨aw.refl k2.F,lr k2.A⟩ o3⟩
     rw[ho a λy=>by rw[y,hp] at y2;cases y2]
     exact uu.h a o y1 y2
   .cases e1
  .cases e1
 .cases e1
def Zb{keys:List (ak Expr)}{values:List Expr}{gs:List (GE×GE)}(hK:X.K=K)(h:Ah X pos keys values (G8 K W q gs))(hu:X.A.units+41<cLine)(jz:keys.all (·.isSome)=true)(hl:keys.length=values.length)(h0:keys≠[])(y0:keys.length<=15):PE X (.Dict keys values pos) (tE K W q (p_ (AM gs))):=(V_ h hu jz hl h0 y0).mono λZ H Q t=>by
 rw[hK];exact Za t
end
end L2
namespace L2
open PySem PySem.Spec PyProof.Rows
variable{aU:Str}{Z:St}{H:Hp}{Q:Str->Hp->Prop}
noncomputable def mC:D->ak Rv
 |.str x=>if x.length<=1000000 then some (rd (.str x)) else none
 |.int i=>if i.natAbs.log2<1920 then some (rd (.str (Str.ofString (toString i)))) else none
 |_=>none
def Ln:V->Hp->VK->Prop:=λx H Q=>(∃z:Str,x=.str z/\z.length<=sizeLine/\Q (.str z) H)\/∃i:Int,x=.int i/\i.natAbs.log2<1920/\Q (.str (Str.ofString (toString i))) H
abbrev TJ:=Str->St->Hp->(Str->Hp->Prop)->Prop
def xQ:TJ:=λaU _ H Q=>Q aU H
def Qi(te:TE)(tj:TJ):TJ:=λaU Z H Q=>te Z H λx H1=>∃y,x=.str y/\(aU++y).length<=sizeLine/\tj (aU++y) Z H1 Q
def PJ(X:Cx)(es:List Expr)(tj:TJ):Prop:=∀(aU:Str) (aa:List (ah×Obj)) (s:aq) (Z:St) (H:Hp) (Q:Str->Hp->Prop) (R:Str->aq->Prop),Inv X aa Z H s->tj aU Z H Q->aU.length<=sizeLine->
 (∀out s' H',out.length<=sizeLine->Inv X aa Z H' s'->Q out H'->R out s')->Joins (model X.prog X.w) X.A X.xe (evalEach es X.env) aU R s
abbrev GJ:=Str->Gx Str
noncomputable def ku:GJ:=λaU _ S=>some (.ok aU S)
noncomputable def Rv.str:Rv->ak Str
 |.v (.d (.str i))=>some i
 |_=>none
noncomputable def m6(f:GE)(j:GJ):GJ:=λaU U S=>bd (f U S) λr S1=>r.str.bind λy=>if(aU++y).length<=1000000 then j (aU++y) U S1 else none
noncomputable def yw(j:GJ):GE:=λU S=>bd (j Str.empty U S) λz S1=>some (.ok (rd (.str z)) S1)
abbrev RS:Rp Str Str:=λ_ _ b a=>b=a
section
variable{X:Cx}{K:PySem.W.Frag}{W:XW}{q:Nat}{f:GE}{e v:Expr}{es:List Expr}{j:GJ}{pos:Pos}{te:TE}{tj:TJ}
def Rv.zV{r:Rv}{i:Str}(h:r.str=some i):r=rd (.str i):=by
 unfold Rv.str at h;split at h
 .cases h;rfl
 .cases h
def e2b:bP K (Ll Ln) (o1 mC):=tF λk H x a y Q le t e res=>by
 unfold mC at e;split at e
 .split at e
  .cases e;cases t.flat rfl;exact⟨_,rfl,.inl ⟨_,rfl,ml (by assumption),res.flat le rfl⟩⟩
  .cases e
 .split at e
  .cases e;cases t.flat rfl;exact⟨_,rfl,.inr ⟨_,rfl,by assumption,res.flat le rfl⟩⟩
  .cases e
 .cases e
def CI(h:PE X v (tE K W q f)):PE X (.FormattedValue v (-1) none pos) (tE K W q (gO (o1 mC) (bq f))):=by
 intro aa s Z H Q I t;refine wpAny_FormattedValue_plain (bA (h aa s Z H _ I (JO (uX e2b t))) λu s1 ⟨x,H1,I1,r1,q1⟩=>?_)
 rcases q1 with⟨z,rfl,hz,q⟩|⟨i,rfl,hi,q⟩
 .obtain⟨t',rfl⟩:=r1;exact PyProof.Rows.formatField_str (λt2 tk=>⟨.str z,H1,I1.tok _,⟨_,rfl⟩,q⟩) hz
 .obtain⟨t',rfl⟩:=r1;exact wpAny_formatField_int hi ⟨.str _,H1,I1.tok _,⟨_,rfl⟩,q⟩
def e2c:PJ X [] xQ:=λaU aa s Z H Q R I t hl hR=>Joins_nil (hR _ _ _ hl I t)
def Zc(he:PE X e te)(hj:PJ X es tj):PJ X (e::es) (Qi te tj):=λaU aa s Z H Q R I t hl hR=>
 Joins_cons (bA (he aa s Z H _ I t) λu s1 ⟨x,H1,I1,r1,y,hy,Ri,q1⟩=>by
  subst hy;obtain⟨t,rfl⟩:=r1;exact⟨y,t,rfl,Ri,hj (aU++y) aa s1 Z H1 Q R I1 q1 Ri hR⟩)
def Zd(t:tX RS K W q (ku aU) Z H Q):xQ aU Z H Q:=A4 t λ_ _=>rfl
def Wa(hj:∀aU Z H Q,tX RS K W q (j aU) Z H Q->tj aU Z H Q)(t:tX RS K W q (m6 f j aU) Z H Q):Qi (tE K W q f) tj aU Z H Q:=by
 obtain⟨k,U,S,res,ok,gk,e,w⟩:=t;refine tX.bd ok gk e w λr S1 x k1 H1 bw g1 r1 e1 w1 _=>?_
 obtain⟨y,e2,e3⟩:=cf.mp e1;cases Rv.zV e2;split at e3
 .exact⟨y,(show ag K k1 [x] [.str y] from r1).aW rfl,ml (by assumption),hj _ _ _ _ ⟨k1,U,S1,res,bw,g1,e3,w1⟩⟩
 .cases e3
def UY{v1 v2:Expr}{rest:List Expr}(h:PJ X (v1::v2::rest) tj)(hj:∀aU Z H Q,tX RS K W q (j aU) Z H Q->tj aU Z H Q):PE X (.JoinedStr (v1::v2::rest) pos) (tE K W q (yw j)):=by
 intro aa s Z H Q I t;refine wpAny_JoinedStr (h Str.empty aa s Z H (λout H'=>Q (.str out) H') _ I (hj _ _ _ _ ?_) (lZ _) λout s' H' h1 I' hQ=>⟨h1,.str out,H',I'.tok _,⟨_,rfl⟩,hQ⟩)
 obtain⟨k,U,S,res,ok,gk,e,w⟩:=t;refine tX.bd ok gk e w λz S1 z' k1 H1 bw g1 r1 e1 w1 _=>?_
 cases e1;cases r1;exact w1.now bw (show ag K k1 [_] [_] from .flat rfl .nil)
end
variable{S:aO}{n:Nat}{op:Operator}{h:Int->Int->Int}
def jU(K:PySem.W.Frag)(atr:List (ah×Str)):Prop:=∀p∈atr,oU K p.1/\fm K p.1 p.2
noncomputable def sS(S:aO)(n:Nat):ak (ah×List (Str×D)):=(S.r[n]?).bind λc=>match c with
 |.ins C fs=>some (C,fs)
 |_=>none
def FK{p:ah×List (Str×D)}(h:sS S n=some p):S.r[n]?=some (.ins p.1 p.2):=by
 obtain⟨c,h1,h2⟩:=cf.mp h;cases c <;> cases h2;exact h1
def bu(atr:List (ah×Str))(g:Str)(f:GE):GE:=λU S=>bd (f U S) λr S1=>r.ref.bind λn=>(sS S1 n).bind λp=>if atr.contains (p.1,g)=true then(p.2.lookup g).map λd=>.ok (rd d) S1 else none
noncomputable def fF(f:Str)(v:D):List (Str×D)->List (Str×D)
 |[]=>[(f,v)]
 |(g,x)::r=>if g=f then(g,v)::r else(g,x)::fF f v r
section
variable{X:Cx}{K:PySem.W.Frag}{W:XW}{q:Nat}{atr:List (ah×Str)}{g:Str}{f fv fo fe fi:GE}{e o value i:Expr}{pos pos' eW:Pos}{Z:St}{H:Hp}
theorem IM{k:Kn}{g:Str}{d:D}:∀{gs:List (Str×V)} {fs:List (Str×D)},gs.map (·.1)=fs.map (·.1)->ag K k (gs.map (·.2)) (fs.map (·.2))->fs.lookup g=some d->∃v,gs.lookup g=some v/\ag K k [v] [d]
 |[],[],_,_,e=>nomatch e
 |(x,v)::gs,(y,c)::fs,h,r,e=>by
  obtain⟨h1,h2⟩:=List.cons.inj (show x::gs.map (·.1)=y::fs.map (·.1) from h)
  obtain⟨a1,a2⟩:=ag.inv r;subst h1;rw[qX] at e ⊢;split at e
  .cases e;exact⟨v,rfl,a1⟩
  .exact IM h2 a2 e
 |[],_::_,h,_,_=>nomatch h
 |_::_,[],h,_,_=>nomatch h
theorem Oc{k:Kn}{g:Str}{v:V}{d:D}(rv:ag K k [v] [d]):∀{gs:List (Str×V)} {fs:List (Str×D)},gs.map (·.1)=fs.map (·.1)->ag K k (gs.map (·.2)) (fs.map (·.2))->(dk g v gs).map (·.1)=(fF g d fs).map (·.1)/\ag K k ((dk g v gs).map (·.2)) ((fF g d fs).map (·.2))
 |[],[],_,_=>⟨rfl,rv⟩
 |(x,w)::gs,(y,c)::fs,h,r=>by
  obtain⟨h1,h2⟩:=List.cons.inj (show x::gs.map (·.1)=y::fs.map (·.1) from h)
  obtain⟨a1,a2⟩:=ag.inv r;subst h1;unfold dk fF;split
  .exact⟨congrArg (List.cons x) h2,.cons rv a2⟩
  .obtain⟨c1,c2⟩:=Oc rv h2 a2;exact⟨congrArg (List.cons x) c1,.cons a1 c2⟩
 |[],_::_,h,_=>nomatch h
 |_::_,[],h,_=>nomatch h
def e2d(ha:jU K atr)(he:PE X e (tE K W q f))(hb:attributeBase e g X.env (eval e X.env)=eval e X.env)(hK:X.K=K):PE X (.Attribute e g pos) (tE K W q (bu atr g f)):=by
 subst hK;refine(e0a he hb).mono λZ H Q t=>?_
 obtain⟨k,U,S,res,ok,gk,e,w⟩:=t;refine tX.bd ok gk e w λr S1 x k1 H1 bw g1 r1 e1 w1 _=>?_
 obtain⟨n,e2,e3⟩:=cf.mp e1;cases Rv.mQ e2;obtain⟨p,e4,e5⟩:=cf.mp e3;split at e5
 .rename_i hc
  obtain⟨h1,h2⟩:=ha _ (iG.mp hc);obtain⟨d,e6,rfl⟩:=cV.mp e5;obtain⟨a,dx,gs,rfl,h3,h4,h5,h6,h7⟩:=Cq bw r1 (FK e4);obtain⟨v,h8,h9⟩:=IM h6 h7 e6;exact⟨a,_,dx,gs,v,rfl,h5,h1,h2,h8,w1.now bw h9⟩
 .cases e5
def bR.DX{k:Kn}{a C dx:ah}{gs:List (Str×V)}{fs:List (Str×D)}{v:V}{d:D}(ok:bR K k H S)(hA:k.A[n]?=some a)(hF:k.F a=none)(h5:H a=some (.ins C dx gs))(h6:gs.map (·.1)=fs.map (·.1))(h7:ag K k (gs.map (·.2)) (fs.map (·.2)))(rv:ag K k [v] [d])(hq:Nat.ble q 1=true):
  bR K k (upd H a (.ins C dx (dk g v gs))) ⟨S.s,S.r.set n (.ins C (fF g d fs))⟩/\Up q k H k (upd H a (.ins C dx (dk g v gs))):=by
 obtain⟨c1,c2⟩:=Oc (g:=g) rv h6 h7;refine ok.DY hA B5 hF (λo z=>?_) ⟨hF,dx,_,aI,c1,c2⟩
 rw[h5] at z;cases z;have:=Aa hq
 match q,this with
 |0,_=>rfl
 |1,_=>rfl
def eO(q:Nat)(atr:List (ah×Str))(g:Str)(fv fo:GE):GS:=λU S=>kL U (fv U S) λr1 S1=>kL U (fo U S1) λr2 S2=>(pe S2 (mV r1)).bind λz=>r2.ref.bind λn=>(sS z.2 n).bind λp=>if(atr.contains (p.1,g)&&Nat.ble q 1&&Nat.blt p.2.length 1000)=true then some (.nx U ⟨z.2.s,z.2.r.set n (.ins p.1 (fF g z.1 p.2))⟩) else none
def e2e(ha:jU K atr)(ho:PE X o (tE K W q fo))(hv:PE X value (tE K W q fv))(hs:swapsWith value (some (.Attribute o g pos')) pos.line X.env=pure false)(hK:X.K=K):PS X (.Assign [.Attribute o g pos'] value pos) (tS K W q (eO q atr g fv fo)):=by
 subst hK;refine(e0b ho hv hs).mono λD Z H t=>?_
 obtain⟨k,U,S,fr,ok,gk,e,w⟩:=t;refine tS.bd ok gk e w λr1 S1 y k1 H1 bw g1 q1 e1 w1=>?_
 obtain⟨k2,u2,cB,q2⟩:=rf bw q1;refine tS.Cz cB (g1.up (u2 q)) e1 (w1.up (u2 q)) λr2 S2 x k3 H3 jC g3 r3 e2 w3 u3=>?_
 obtain⟨⟨d,S3⟩,e3,e4⟩:=cf.mp e2;obtain⟨k4,u4,qQ,r4⟩:=FA jC (q2.up u3) e3;obtain⟨n,e5,e6⟩:=cf.mp e4;cases Rv.mQ e5;obtain⟨p,e7,e8⟩:=cf.mp e6;split at e8
 .rename_i hc
  cases e8;simp only[jq] at hc;obtain⟨⟨Gv,A9⟩,Kf⟩:=hc;obtain⟨h1,h2⟩:=ha _ (iG.mp Gv);obtain⟨a,dx,gs,rfl,h3,h4,h5,h6,h7⟩:=Cq qQ (ag.mono (u4 q).le r3) (FK e7);have hl:gs.length<1000:=by
   have:=h7.length;rw[bc,bc] at this;rw[this];exact Aa Kf
  obtain⟨mJ,u5⟩:=qQ.DX (g:=g) h3 h4 h5 h6 h7 r4 A9;exact⟨a,_,dx,gs,rfl,h5,h1,h2,hl,bO.now (bO.up w3 ((u4 q).trans u5)) mJ (g3.up ((u4 q).trans u5))⟩
 .cases e8
def Jt(q:Nat)(h:Int->Int->Int)(atr:List (ah×Str))(g:Str)(fo fe:GE):GS:=λU S=>kL U (fo U S) λr S1=>r.ref.bind λn=>(sS S1 n).bind λp=>if atr.contains (p.1,g)=true then(match p.2.lookup g with
 |some (.int a)=>kL U (fe U S1) λr2 S2=>r2.int.bind λb=>(sS S2 n).bind λp2=>if(p2.1 == p.1&&Nat.ble q 1&&Nat.blt p2.2.length 1000)=true then some (.nx U ⟨S2.s,S2.r.set n (.ins p2.1 (fF g (.int (h a b)) p2.2))⟩) else none
 |_=>none) else none
def Ze(zh:x_ X op λx y H Q=>∃i j,x=.int i/\y=.int j/\Q (.int (h i j)) H)(ha:jU K atr)(ho:PE X o (tE K W q fo))(hv:PE X value (tE K W q fe))(hK:X.K=K):PS X (.AugAssign (.Attribute o g eW) op value pos) (tS K W q (Jt q h atr g fo fe)):=by
 subst hK;refine(Ue ho hv zh).mono λD Z H t=>?_
 obtain⟨k,U,S,fr,ok,gk,e,w⟩:=t;refine tS.bd ok gk e w λr S1 x k1 H1 bw g1 r1 e1 w1=>?_
 obtain⟨n,e2,e3⟩:=cf.mp e1;cases Rv.mQ e2;obtain⟨p,e4,e5⟩:=cf.mp e3;split at e5
 case isFalse=>cases e5
 rename_i hc
 obtain⟨h1,h2⟩:=ha _ (iG.mp hc);obtain⟨a,dx,gs,rfl,h3,h4,h5,h6,h7⟩:=Cq bw r1 (FK e4);split at e5
 case h_2=>cases e5
 rename_i iv hl
 obtain⟨v,h8,h9⟩:=IM h6 h7 hl;cases h9.aW rfl;refine⟨a,_,dx,gs,_,rfl,h5,h1,h2,h8,tS.Cz bw g1 e5 w1 λr2 S2 y k2 H2 cB g2 q2 e6 w2 u2=>?_⟩
 obtain⟨b,e7,e8⟩:=cf.mp e6;cases Rv.iV e7;cases(show ag X.K k2 [y] [.int b] from q2).aW rfl;obtain⟨p2,e9,JN⟩:=cf.mp e8;split at JN
 case isFalse=>cases JN
 rename_i hc
 cases JN;simp only[jq,beq_iff_eq] at hc;obtain⟨⟨Gv,A9⟩,Kf⟩:=hc;obtain⟨a',dx2,iS,z,h3',h4',Q1,h6',Q3⟩:=Cq cB (ag.mono u2.le r1) (FK e9);cases z;have hl:iS.length<1000:=by
  have:=Q3.length;rw[bc,bc] at this;rw[this];exact Aa Kf
 obtain⟨mJ,u5⟩:=cB.DX (g:=g) (v:=.int (h iv b)) (d:=.int (h iv b)) h3' h4' Q1 h6' Q3 (.flat rfl .nil) A9;exact⟨_,_,rfl,rfl,dx2,iS,Gv ▸ Q1,hl,Gv ▸ bO.now (bO.up w2 u5) mJ (g2.up u5)⟩
def Ju(q:Nat)(h:Int->Int->Int)(fo fi fe:GE):GS:=λU S=>kL U (fo U S) λr1 S1=>kL U (fi U S1) λr2 S2=>(match mV r2,qJ S2 (mV r1) with
 |.d di,some (.ar kvs)=>(kD di).bind λj=>(match aL kvs j with
  |some (.int a)=>kL U (fe U S2) λr3 S3=>r3.int.bind λb=>(qJ S3 (mV r1)).bind λc=>if c.mb q=true then(match c with
   |.ar sZ=>if sZ.length<1000000 then some (.nx U (setB S3 (.ar (bQ sZ j (.int (h a b)))) (mV r1))) else none
   |_=>none) else none
  |_=>none)
 |_,_=>none)
def Wb(hu:X.A.units+41<cLine):BE X (λo i H Q=>∃a v,o=.ref a/\gA X.K H a i (some v)/\Q v H):=by
 intro aa s Z H o i ov iv Q I ro ri h;obtain⟨p,v,rfl,g,q⟩:=h;cases ro;exact NF (by lia) I g ri λw' s3 I3 mT=>⟨v,H,I3,mT,q⟩
def Zf(zh:Ew X op (KD h))(ho:PE X o (tE K W q fo))(hi:PE X i (tE K W q fi))(hv:PE X value (tE K W q fe))(hu:X.A.units+41<cLine)(hK:X.K=K)
  (ha:∀ov iv new,augStore i ov iv new=(do holding [new,ov,iv] (setItem ov iv new);release [new,ov,iv] [];pure .next)):PS X (.AugAssign (.Subscript o i eW) op value pos) (tS K W q (Ju q h fo fi fe)):=by
 subst hK;refine(XO ho hi (Wb hu) hv zh (QM hu) ha).mono λD Z H t=>?_
 obtain⟨k,U,S,fr,ok,gk,e,w⟩:=t;refine tS.bd ok gk e w λr1 S1 x k1 H1 bw g1 q1 e1 w1=>?_
 obtain⟨k2,u2,cB,q2⟩:=rf bw q1;refine tS.Cz cB (g1.up (u2 q)) e1 (w1.up (u2 q)) λr2 S2 y k3 H3 jC g3 r3 e2 w3 u3=>?_
 obtain⟨k4,u4,qQ,q4⟩:=rf jC r3;have q5:=(q2.up u3).up (u4 q);split at e2
 case h_2=>cases e2
 rename_i di kvs hd hg
 rw[hd] at q4;obtain⟨j,e3,e4⟩:=cf.mp e2;obtain⟨a,rfl,hb,_⟩:=Ci qQ q5 hg;split at e4
 case h_2=>cases e4
 rename_i iv Dl
 have tp:Top X.K k4 H3 (.ref a) (.ar kvs):=.inr ⟨a,.ar kvs,rfl,rfl,hb⟩;obtain⟨p,o,z,g,hh⟩:=vX qQ.le tp (.inl q4) e3;cases z;rcases hh with⟨_,z⟩|⟨v,d,rfl,z,rv⟩
 .rw[Dl] at z;cases z
 rw[Dl] at z;cases z;cases rv.aW rfl;refine⟨a,_,rfl,g,tS.Cz qQ (g3.up (u4 q)) e4 (w3.up (u4 q)) λr5 S5 y5 k5 H5 mJ g5 q6 e5 w5 u5=>?_⟩
 obtain⟨b,e6,e7⟩:=cf.mp e5;cases Rv.iV e6;cases(show ag X.K k5 [y5] [.int b] from q6).aW rfl;obtain⟨c,e8,e9⟩:=cf.mp e7;obtain⟨a',z,pk,LV⟩:=Ci mJ (q5.up u5) e8;cases z;split at e9
 case isFalse=>cases e9
 rename_i hm
 cases c with
 |lst _=>cases e9
 |ar sZ=>
  dsimp only at e9;split at e9
  case isFalse=>cases e9
  rename_i hl
  cases e9;refine⟨_,_,rfl,rfl,Qg (b:=.ar sZ) (dv:=.int (h iv b)) (di:=di) (b':=.ar (bQ sZ j (.int (h iv b)))) mJ.le pk ((show cI X.K k4 y (.d di) from q4).up u5) (.flat rfl .nil) ?_ λo' h6=>?_⟩
  .unfold vJ;dsimp only;rw[e3,v7,aP hl]
  .obtain⟨K8,u6⟩:=LV q _ _ B5 hm h6;exact bO.now (bO.up w5 u6) K8 (g5.up u6)
end
end L2
namespace L2
open PySem PySem.Spec PySem.W PyProof.Rows
variable{k k':Int->Int->Bool}{op:CmpOp}{j:GJ}{T:String}{m:Str}
def bY.le{k k':Nat}{A:PySem.Around}(h:bY k A)(e:k'<=k:=by decide):bY k' A:=h.mono e
def vD{X:Cx}:eG X W0:=λ_ _ _ _ _ _ _ _ _ _ _ z=>z.elim
def Be:List Str->Bool
 |[]=>true
 |x::l => !l.contains x&&Be l
theorem F8:∀{l:List Str},Be l=true->l.Nodup
 |[],_=>.nil
 |x::l,h=>by
  obtain⟨h1,h2⟩:=Br.mp h;rw[Mg,<-Bool.not_eq_true,iG] at h1;exact qr.mpr ⟨h1,F8 h2⟩
section
variable{X:Cx}{K:Frag}{W:XW}{q:Nat}{a b c e o:Expr}{es rest:List Expr}{f g h:GE}{fs:GA}{ft fu:GT}{pos p apos bI:Pos}{x:Str}
def xv(i:Nat)(hN:X.N[i]?=some x)(hv:EB X.env.scope x)(hd:(x == ("__debug__":Str))=false)(qK:(x == ("__classdict__":Str))=false):PE X (.Name x pos) (tE K W q (sG i)):=e0m (PM hN hv hd qK)
def xi{i:Int}{j}:PE X (.Constant (.int i) j pos) (tE K W q (gC (.int i))):=yM μ
def xs{i:Str}{j}:PE X (.Constant (.str i) j pos) (tE K W q (gC (.str i))):=yM ξ
def xb{i:Bool}{j}:PE X (.Constant (.bool i) j pos) (tE K W q (gC (.bl i))):=yM e5p
def xn{j}:PE X (.Constant .none j pos) (tE K W q (gC .aG)):=yM ν
def xty{n:String}(hm:X.mg x=none)(hv:bootBuiltins x=some (.type n))(hg:Gl X x)(hn:x≠"__name__")(hd:(x == ("__debug__":Str))=false):PE X (.Name x pos) (tE K W q (gC (.ty n))):=yM (e5y hg hm hv hn hd)
def qt(K:Frag)(op:Operator)(o:List D->ak Rv):Prop:=∀X:Cx,X.K=K->∃r,dm X (binaryOp op) r/\bP K (m8 r) o
def LZ:qt K .Add (o2 uV):=λX h=>⟨_,YQ K h,e1g⟩
def L4:qt K .Sub (o2 (eU uz λi j=>.int (i - j))):=λX h=>⟨_,d9w,e1h⟩
def L3:qt K .Mult (o2 vy):=λX h=>⟨_,YS,e1j⟩
def Ei:qt K .FloorDiv (o2 (eU (λ_ j=>decide (0<j/\j<1073741824)) λi j=>.int (i / j))):=λX h=>⟨_,XR,YR⟩
def L0:qt K .Mod (o2 (eU (λ_ j=>decide (0<j)) λi j=>.int (i%j))):=λX h=>⟨_,d9x,e1i⟩
def xo{op:Operator}{o:List D->ak Rv}(c:qt K op o)(ha:PE X a (tE K W q f))(hb:PE X b (tE K W q g))(hK:X.K=K):PE X (.BinOp a op b pos) (tE K W q (gO o (bT f g))):=by
 obtain⟨r,h1,h2⟩:=c X hK;exact e6a h1 h2 ha hb
def L6(ha:PE X a (tE K W q f)):PE X (.UnaryOp .USub a pos) (tE K W q (gO (o1 s_) (bq f))):=e6b d9y e1k ha
def jV(K:Frag)(op:CmpOp)(o:List D->ak Rv):Prop:=∀X:Cx,X.K=K->X.A.units+41<cLine->∃r,dm X (compareOp op) r/\bP K (m8 r) o
def WI:jV K .Eq (o2 (wI false)):=λX h u=>⟨_,e1o K (by lia) h,e6e⟩
def WO:jV K .NotEq (o2 (wI true)):=λX h u=>⟨_,e1m K (by lia) h,e6f⟩
def WN:jV K .Lt (o2 (eU uz λi j=>.bl (decide (i<j)))):=λX h u=>⟨_,xw,Jq⟩
def WM:jV K .LtE (o2 (eU uz λi j=>.bl (decide (i<=j)))):=λX h u=>⟨_,xu,Jq⟩
def WJ:jV K .Gt (o2 (eU uz λi j=>.bl (decide (j<i)))):=λX h u=>⟨_,e5v,Jq⟩
def WK:jV K .In (o2 (A' false)):=λX h u=>⟨_,e1p K u h,QK false⟩
def JE:jV K .NotIn (o2 (A' true)):=λX h u=>⟨_,UH K u h,QK true⟩
def WL:jV K .Is (o2 (Ba false)):=λX h u=>⟨_,e1r,QL false⟩
def JD:jV K .IsNot (o2 (Ba true)):=λX h u=>⟨_,YV,QL true⟩
def xc{o:List D->ak Rv}(c:jV K op o)(ha:PE X a (tE K W q f))(hb:PE X b (tE K W q g))(hu:X.A.units+41<cLine)(hK:X.K=K)(hm:behindInMarks op b=false):PE X (.Compare a [op] [b] pos) (tE K W q (gO o (bT f g))):=by
 obtain⟨r,h1,h2⟩:=c X hK hu;exact e0n h1 h2 ha hb hm
def yc{o:List D->ak Rv}(c:jV K op o)(ha:PE X a (tE K W q f))(hb:PE X b (tE K W q g))(hu:X.A.units+41<cLine)(hK:X.K=K)(hm:behindInMarks op b=false):PT X (.Compare a [op] [b] pos) (tT K W q (gB (gO o (bT f g)))):=by
 obtain⟨r,h1,h2⟩:=c X hK hu;exact QU (XT h1 ha hb hm) λ_ _ _ t=>Gi (uX h2 t)
noncomputable def F9(c c':Int->Int->Bool)(f g h:GE):GE:=λU S=>bd (f U S) λr1 S1=>bd (g U S1) λr2 S2=>r1.int.bind λi=>r2.int.bind λj=>if c i j=true then bd (h U S2) λr3 S3=>r3.int.map λl=>.ok (rd (.bl (c' j l))) S3 else some (.ok (rd (.bl false)) S2)
def Wc{Z:St}{H:Hp}{Q:VK}(t:tE K W q (F9 k k' f g h) Z H Q):PQ (qi λi j=>.bl (k i j)) (qi λi j=>.bl (k' i j)) (tE K W q f) (tE K W q g) (tE K W q h) Z H Q:=by
 obtain⟨n,U,S,res,ok,gk,e,w⟩:=t;refine tX.bd ok gk e w λr1 S1 x k1 H1 bw g1 q1 e1 w1 _=>tX.bd bw g1 e1 w1 λr2 S2 y k2 H2 cB g2 q2 e2 w2 _=>?_
 obtain⟨i,h1,e3⟩:=cf.mp e2;obtain⟨j,h2,e4⟩:=cf.mp e3;cases Rv.iV h1;cases Rv.iV h2;cases(show ag K k1 [x] [.int i] from q1).aW rfl;cases(show ag K k2 [y] [.int j] from q2).aW rfl;refine⟨i,j,rfl,rfl,k i j,rfl,?_⟩;split at e4
 .rename_i hk
  rw[hk];refine sU (tX.bd cB g2 e4 w2 λr3 S3 z k3 H3 jC g3 q3 e5 w3 _=>?_)
  obtain⟨l,h3,rfl⟩:=cV.mp e5;cases Rv.iV h3;cases(show ag K k3 [z] [.int l] from q3).aW rfl;exact⟨_,_,rfl,rfl,w3.now jC (show ag K k3 [_] [_] from .flat rfl .nil)⟩
 .rename_i hk
  cases e4;rw[Bool.not_eq_true] at hk;rw[hk];exact sT (w2.now cB (show ag K k2 [_] [_] from .flat rfl .nil))
def ych{zB:CmpOp}(h1:∀X:Cx,dm X (compareOp op) (qi λi j=>.bl (k i j)))(h2:∀X:Cx,dm X (compareOp zB) (qi λi j=>.bl (k' i j)))(ha:PE X a (tE K W q f))(hb:PE X b (tE K W q g))(hc:PE X c (tE K W q h))(hm:lastMarks [op,zB] [b,c]=false):PT X (.Compare a [op,zB] [b,c] pos) (tT K W q (gB (F9 k k' f g h))):=QU (Vt (h1 X) (h2 X) ha hb hc hm) λ_ _ _ t=>Wc t
def yt(ha:PE X a (tE K W q f))(hK:X.K=K)(ht:∀whole,isTrue a X.env whole=(do let v <-whole;standAt a.pos;holding [v] (truthy v))):PT X a (tT K W q (cM f)):=e0o hK ha ht
def ya1(h:PT X a (tT K W q ft)):PW X (.BoolOp .And [a] pos) (tT K W q ft):=XJ h
def yo1(h:PT X a (tT K W q ft)):PW X (.BoolOp .Or [a] pos) (tT K W q ft):=ο h
def xix(ha:PE X a (tE K W q f))(hb:PE X b (tE K W q g))(hu:X.A.units+41<cLine)(hK:X.K=K)(hs:IZ b):PE X (.Subscript a b pos) (tE K W q (gO (o2 GW) (bT f g))):=e6c (KI K hu hK) e6h ha hb hs
def xsl{lo hi:ak Expr}{p2:Pos}{fl fh}(he:PE X e (tE K W q f))(hl:PO X lo (tX Aj K W q fl))(hu:PO X hi (tX Aj K W q fh))(hK:X.K=K):PE X (.Subscript e (.Slice lo hi none p2) pos) (tE K W q (yC f fl fh)):=VX he hl hu hK
def zc{g:GE}{h:GA}(ha:PE X e (tE K W q g))(hr:PA X es (fU K W q h))(hs:starEach (e::es) X.env=(false,eval e X.env)::starEach es X.env):PA X (e::es) (fU K W q (nB g h)):=Yo ha hr hs
def xd{keys:List (ak Expr)}{values:List Expr}{gs:List (GE×GE)}(h:Ah X pos keys values (G8 K W q gs))(hu:X.A.units+41<cLine)(hK:X.K=K)(jz:keys.all (·.isSome)=true)(hl:keys.length=values.length)(h0:keys≠[])(y0:keys.length<=15):PE X (.Dict keys values pos) (tE K W q (p_ (AM gs))):=Zb hK h hu jz hl h0 y0
def Ey(X:Cx)(K:Frag)(W:XW)(q:Nat)(es:List Expr)(j:GJ):Prop:=∃tj,PJ X es tj/\∀aU Z H Q,tX RS K W q (j aU) Z H Q->tj aU Z H Q
def jn:Ey X K W q [] ku:=⟨_,e2c,λ_ _ _ _ t=>Zd t⟩
def jc(he:PE X e (tE K W q f))(hr:Ey X K W q es j):Ey X K W q (e::es) (m6 f j):=by
 obtain⟨tj,h1,h2⟩:=hr;exact⟨_,Zc he h1,λ_ _ _ _ t=>Wa h2 t⟩
def xj{v1 v2:Expr}(h:Ey X K W q (v1::v2::rest) j):PE X (.JoinedStr (v1::v2::rest) pos) (tE K W q (yw j)):=by
 obtain⟨tj,h1,h2⟩:=h;exact UY h1 h2
def qY(K:Frag)(v:aj)(o:List D->ak Rv):Prop:=∀X:Cx,X.K=K->X.calm=true->X.A.units+41<cLine->∃r,bH X v r/\bP K r o
def KO:qY K (.builtin "len") (o1 dg):=λX h c u=>⟨_,UP h,e1u⟩
def KN:qY K (.builtin "isinstance") (o2 iW):=λX h c u=>⟨_,UQ h,e1v⟩
def KJ:qY K (.builtin "all") (o1 (F0 λbs=>bs.all id)):=λX h c u=>⟨_,UL K c h,V5 _⟩
def KP:qY K (.builtin "min") (o1 (lC gH)):=λX h c u=>⟨_,VY K c h,O9 _⟩
def Dw:qY K (.builtin "sorted") (o1 ql):=λX h c u=>⟨_,TC c h,Y7⟩
def KL:qY K (.type "int") (o1 oh):=λX h c u=>⟨_,Ub,Y4⟩
def Dv:qY K (.type "list") (o1 lV):=λX h c u=>⟨_,TB c h,Y5⟩
def Du:qY K (.type "dict") (o1 pY):=λX h c u=>⟨_,Tt K u c h,V6⟩
def xB{id:String}{o:List D->ak Rv}(k:qY K (.builtin id) o)(hm:X.mg x=none)(hv:bootBuiltins x=some (.builtin id))(ha:PA X (e::es) (fU K W q fs))(hu:X.A.units+41<cLine)(hc:X.calm=true)(hK:X.K=K)(hg:Gl X x)(hn:x≠"__name__")(k8:(x == ("__debug__":Str))=false)
  (he:starEach (e::es) X.env=(false,eval e X.env)::starEach es X.env) (jM:(backTo pos (starEach es X.env)).any (·.1)=false):PE X (.Call (.Name x p) (e::es) [] pos) (tE K W q (gO o fs)):=by
 obtain⟨r,h1,h2⟩:=k X hK hc hu;exact(Vz h1 hg hm hv ha hn k8 he jM).mono λ_ _ _ t=>uX h2 t
def xT{o:List D->ak Rv}(k:qY K (.type T) o)(hm:X.mg x=none)(hv:bootBuiltins x=some (.type T))(ha:PA X (e::es) (fU K W q fs))(hu:X.A.units+41<cLine)(hc:X.calm=true)(hK:X.K=K)(hg:Gl X x)(hn:x≠"__name__")(k8:(x == ("__debug__":Str))=false)
  (he:starEach (e::es) X.env=(false,eval e X.env)::starEach es X.env) (jM:(backTo pos (starEach es X.env)).any (·.1)=false):PE X (.Call (.Name x p) (e::es) [] pos) (tE K W q (gO o fs)):=by
 obtain⟨r,h1,h2⟩:=k X hK hc hu;exact(Uh h1 hg hm hv ha hn k8 he jM).mono λ_ _ _ t=>uX h2 t
def HF(K:Frag)(T:String)(m:Str)(o:List D->ak Rv):Prop:=∀X:Cx,X.K=K->X.A.units+41<cLine->∃id r,PlainAttrs T/\Slot T m id/\typeOf (.builtin id)=pure (.type "method_descriptor")/\HG X id r/\bP K (qj r) o
def zx:HF K "list" "index" (o2 iU):=λX h u=>⟨_,_,PySem.F.plainAttrs_list,PySem.F.slot_list_index,PySem.F.type_list_index,VZ K h,V8⟩
def Dz:HF K "dict" "get" (o2 og):=λX h u=>⟨_,_,PySem.F.plainAttrs_dict,PySem.F.slot_dict_get,PySem.F.type_dict_get,YY K u h,Y8⟩
def xM{o':List D->ak Rv}(k:HF K T m o')(ho:PE X o (tE K W q f))(ha:PA X (e::es) (fU K W q fs))(hu:X.A.units+41<cLine)(hK:X.K=K)
  (dW:attributeBase o m X.env (eval o X.env)=eval o X.env)
  (sO:((backTo bI (starEach (e::es) X.env)).all (λx => !x.1)&&(backToKw bI (keywordEach [] X.env)).all (λx=>x.1.isSome) && decide ((e::es).length+([]:List Keyword).length+(if([]:List Keyword).isEmpty then 0 else 1)<30))=true)
  (dX:(apos.endLine == bI.line)=true) (hs:starEach (e::es) X.env=(false,eval e X.env)::starEach es X.env) (kz:(backTo bI (starEach es X.env)).any (·.1)=false):PE X (.Call (.Attribute o m apos) (e::es) [] bI) (tE K W q (Cs T o' f fs)):=by
 subst hK;obtain⟨id,r,h1,h2,h3,h4,h5⟩:=k X rfl hu;exact(QJ h1 h2 h3 h4 ho ha dW sO dX hs kz).mono λ_ _ _ t=>V7 h5 t
def BC(K:Frag)(T:String)(m:Str)(o:Bx->List D->ak (Bx×D)):Prop:=∀X:Cx,X.K=K->∃id r,PlainAttrs T/\Slot T m id/\typeOf (.builtin id)=pure (.type "method_descriptor")/\HG X id r/\lz K r o
def vS:BC K "list" "append" uR:=λX h=>⟨_,_,PySem.F.plainAttrs_list,PySem.F.slot_list_append,PySem.F.type_list_append,Ui,UR⟩
def vT:BC K "list" "insert" AL:=λX h=>⟨_,_,PySem.F.plainAttrs_list,PySem.F.slot_list_insert,PySem.F.type_list_insert,Uo,US⟩
def vU:BC K "list" "remove" FJ:=λX h=>⟨_,_,PySem.F.plainAttrs_list,PySem.F.slot_list_remove,PySem.F.type_list_remove,UM,UU⟩
def Ee:BC K "dict" "pop" kF:=λX h=>⟨_,_,PySem.F.plainAttrs_dict,PySem.F.slot_dict_pop,PySem.F.type_dict_pop,YX K,Y9⟩
def xU{o':Bx->List D->ak (Bx×D)}(k:BC K T m o')(ho:PE X o (tE K W q f))(ha:PA X (e::es) (fU K W q fs))(hK:X.K=K)
  (dW:attributeBase o m X.env (eval o X.env)=eval o X.env)
  (sO:((backTo bI (starEach (e::es) X.env)).all (λx => !x.1)&&(backToKw bI (keywordEach [] X.env)).all (λx=>x.1.isSome) && decide ((e::es).length+([]:List Keyword).length+(if([]:List Keyword).isEmpty then 0 else 1)<30))=true)
  (dX:(apos.endLine == bI.line)=true) (hs:starEach (e::es) X.env=(false,eval e X.env)::starEach es X.env) (kz:(backTo bI (starEach es X.env)).any (·.1)=false):PE X (.Call (.Attribute o m apos) (e::es) [] bI) (tE K W q (fT q T o' f fs)):=by
 subst hK;obtain⟨id,r,h1,h2,h3,h4,h5⟩:=k X rfl;exact(QJ h1 h2 h3 h4 ho ha dW sO dX hs kz).mono λ_ _ _ t=>e1x h5 t
def xf{atr:List (ah×Str)}(ha:jU K atr)(he:PE X e (tE K W q f))(hb:attributeBase e m X.env (eval e X.env)=eval e X.env)(hK:X.K=K):PE X (.Attribute e m pos) (tE K W q (bu atr m f)):=e2d ha he hb hK
end
section
variable{X:Cx}{K:Frag}{W:XW}{q k n:Nat}{e o:Expr}{es:List Expr}{f:GE}{fs:GA}{m:GM}{pos p apos:Pos}{x y:Str}{st:Stmt}{fa C:ah}{fd:bV}{ps:List Str}
def xC(D:br K X.mg x st fa fd ps)(F:de X.prog X.w X.K X.mg X.base (ng X.prog X.w) k fa fd ps (ua K q n m))(ha:PA X (e::es) (fU K W q fs))(hr:bY k X.A)(hm:i6 m n)(hp:eG X W)(hK:X.K=K)(hg:Gl X x)(k8:(x == ("__debug__":Str))=false)
  (he:starEach (e::es) X.env=(false,eval e X.env)::starEach es X.env) (jM:(backTo pos (starEach es X.env)).any (·.1)=false):PE X (.Call (.Name x p) (e::es) [] pos) (tE K W q (aE m fs)):=by
 subst hK;exact(X0 F hr hg D.mg D.fn.kp D.bd .nil (qg hp) ha k8 he jM).mono λ_ _ _ t=>Yr hm t
def xN(M:Mk K C fa)(hx:X.mg x=some (.ref C))(B:Binds K fd ps [])(F:de X.prog X.w X.K X.mg X.base (ng X.prog X.w) k fa fd ps (ua K q n m))(ha:PA X (e::es) (fU K W q fs))(hr:bY (k+1) X.A)(hm:i6 m n)(hp:eG X W)(hK:X.K=K)(hg:Gl X x)(k8:(x == ("__debug__":Str))=false)
  (he:starEach (e::es) X.env=(false,eval e X.env)::starEach es X.env) (jM:(backTo pos (starEach es X.env)).any (·.1)=false):PE X (.Call (.Name x p) (e::es) [] pos) (tE K W q (sF C m fs)):=by
 subst hK;exact(X2 M F hr hg hx B .nil (qg hp) ha k8 he jM).mono λ_ _ _ t=>Ys hm t
end
structure MethAt (K:Frag) (C:ah) (m qual:Str) (st:Stmt) (f:ah) (fd:bV) (ps:List Str):Prop where
 fn:Fun K m qual st f fd
 mt:Meth K C m f
 bd:Binds K fd ps []
section
variable{X:Cx}{K:Frag}{W:XW}{q k n:Nat}{e o:Expr}{es:List Expr}{f:GE}{fs:GA}{m:GM}{pos p apos:Pos}{x y:Str}{st:Stmt}{fa C:ah}{fd:bV}{ps:List Str}{pl:Sem Bool}
def xH(c:oU K C)(D:MethAt K C x y st fa fd ps)(F:de X.prog X.w X.K X.mg X.base (ng X.prog X.w) k fa fd ps (ua K q n m))(ho:PE X o (tE K W q f))(ha:PA X (e::es) (fU K W q fs))(hr:bY k X.A)(hm:i6 m n)(hp:eG X W)(hK:X.K=K)
  (k9:starEach (e::es) X.env=(false,eval e X.env)::starEach es X.env) (jM:(backTo pos (starEach es X.env)).any (·.1)=false)
  (ht:eval (.Call (.Attribute o x apos) (e::es) [] pos) X.env=(do
   let ov <-eval o X.env
   standAt apos.atName
   let (f,first) <-holding [ov] (getMethod ov x pl)
   callWith pos f first (backTo pos (starEach (e::es) X.env)) (backToKw pos (keywordEach [] X.env)))):PE X (.Call (.Attribute o x apos) (e::es) [] pos) (tE K W q (bh C x m f fs)):=by
 subst hK;exact(X1 ho c D.mt F hr D.bd .nil (qg hp) ha k9 jM ht).mono λ_ _ _ t=>OQ hm t
def xH0(c:oU K C)(D:MethAt K C x y st fa fd ps)(F:de X.prog X.w X.K X.mg X.base (ng X.prog X.w) k fa fd ps (ua K q n m))(ho:PE X o (tE K W q f))(hr:bY k X.A)(hm:i6 m n)(hp:eG X W)(hK:X.K=K)
  (ht:eval (.Call (.Attribute o x apos) [] [] pos) X.env=(do
   let ov <-eval o X.env
   standAt apos.atName
   let (f,first) <-holding [ov] (getMethod ov x pl)
   callWith pos f first (backTo pos (starEach [] X.env)) (backToKw pos (keywordEach [] X.env)))):PE X (.Call (.Attribute o x apos) [] [] pos) (tE K W q (bh C x m f gN)):=by
 subst hK;refine(Vx ho c D.mt F hr D.bd .nil (qg hp) ht).mono λZ H Q t=>?_
 refine oF (OQ hm t) λz H1 h=>?_
 obtain⟨a,dx,fs,h1,h2,h3,h4⟩:=h;exact⟨a,dx,fs,h1,h2,h3,AW h4⟩
end
section
variable{X:Cx}{K:Frag}{W:XW}{q:Nat}{a b c e o l tg:Expr}{es:List Expr}{f g:GE}{fz:Bool}{pos p apos bI:Pos}
def xLV(Kp:X.mg "list"=none)(ho:PE X o (tE K W q f))(hc:X.calm=true)(C8:Gl X "list")(hs:starEach [.Call (.Attribute o "values" apos) [] [] bI] X.env=[(false,eval (.Call (.Attribute o "values" apos) [] [] bI) X.env)])
  (dW:attributeBase o "values" X.env (eval o X.env)=eval o X.env) (dX:(apos.endLine == bI.line)=true):PE X (.Call (.Name "list" p) [.Call (.Attribute o "values" apos) [] [] bI] [] pos) (tE K W q (gO (o1 qo) (bq f))):=(VT C8 Kp ho hc hs dW dX).mono λZ H Q t=>JO (oF (uX Y6 t) λxs H1 h=>by
 obtain⟨d,es,ep,rfl,h⟩:=h;exact⟨_,rfl,d,es,ep,rfl,h⟩)
def pgn(i:Nat){x:Str}(hN:Be X.N=true)(hi:X.N[i]?=some x)(hx:Loc X.env.scope x)(hf:X.fn x=true\/X.env.scope.names.lookup x=some .local):PG X (.Name x pos) (qa i):=XN (F8 hN) hi hx hf
def pgt{es:List Expr}{k:Nat}{t:uc}{n:Nat}(h:BF X es t)(hn:(assignEach es X.env).length=n)(k9:(assignEach es X.env).findIdx? (·.1)=none)(hc:X.calm=true)(hK:X.K=K):PG X (.Tuple es k pos) (yZ K n t):=hK ▸ χ hc h hn k9
def uJ(X:Cx)(K:Frag)(W:XW)(q:Nat)(tg iter:Expr)(src:mj):Prop:=∃wi,PI X tg iter wi/\∀Z H R,tX (RI K q) K W q src Z H R->wi Z H R
def sA(he:PE X l (tE K W q g))(hK:X.K=K):uJ X K W q tg l (bG fz fE g):=⟨_,e0x he,λ_ _ _ t=>by rw[hK];exact e0y t⟩
def Lu(hm:X.mg "reversed"=none)(he:PE X l (tE K W q g))(hK:X.K=K)(hg:Gl X "reversed")(hs:starEach [l] X.env=[(false,eval l X.env)]):uJ X K W q tg (.Call (.Name "reversed" p) [l] [] pos) (bG fz zP g):=⟨_,e0s hg hm (Fx he mO (by rw[hs,starEach])) hs,λ_ _ _ t=>by rw[hK];exact YB t⟩
def sEn{elts:List Expr}{x1:Nat}{eW:Pos}(hm:X.mg "enumerate"=none)(he:PE X l (tE K W q g))(hK:X.K=K)(hg:Gl X "enumerate")(hs:starEach [l] X.env=[(false,eval l X.env)]):uJ X K W q (.Tuple elts x1 eW) (.Call (.Name "enumerate" p) [l] [] pos) (bG fz JQ g):=⟨_,Yw hg hm (Fx he mO (by rw[hs,starEach])) hs,λ_ _ _ t=>by rw[hK];exact e0z t⟩
def sI{elts:List Expr}{x1:Nat}{eW:Pos}(ho:PE X o (tE K W q g))(dW:attributeBase o "items" X.env (eval o X.env)=eval o X.env)(dX:(apos.endLine == bI.line)=true):uJ X K W q (.Tuple elts x1 eW) (.Call (.Attribute o "items" apos) [] [] bI) (bG fz vt g):=⟨_,VU ho dW dX,λ_ _ _ t=>Y2 t⟩
def sR1{fs:GA}(hm:X.mg "range"=none)(ha:PA X [a] (fU K W q fs))(hg:Gl X "range")(hs:starEach [a] X.env=[(false,eval a X.env)]):uJ X K W q tg (.Call (.Name "range" p) [a] [] pos) (jy mS fs):=⟨_,T9 hg hm ha hs,λ_ _ _ t=>YC t⟩
def sRN{fs:GA}(hm:X.mg "range"=none)(ha:PA X [a,b,c] (fU K W q fs))(hg:Gl X "range")(hs:starEach [a,b,c] X.env=[(false,eval a X.env),(false,eval b X.env),(false,eval c X.env)])(zj:starEach [b,c] X.env=[(false,eval b X.env),(false,eval c X.env)]):uJ X K W q tg (.Call (.Name "range" p) [a,b,c] [] pos) (jy vG fs):=⟨_,Uq hg hm ha hs zj,λ_ _ _ t=>YD t⟩
def yn:rX X [] (tT K W0 q (iH true)):=λaa s Z H Q I t=>X8 aa s Z H Q I (by
 obtain⟨k,U,S,res,ok,gk,e,w⟩:=t;cases e;exact w.now ok rfl)
def y1{ft:GT}(h:PT X c (tT K W0 q ft)):rX X [c] (tT K W0 q ft):=X9 h
end
variable{x g:Str}{atr:List (ah×Str)}{mg:Str->ak aj}{tab:List (Str×ah)}{B0 C:ah}
section
variable{X:Cx}{K:Frag}{W:XW}{q:Nat}{tg iter elt:Expr}{ifs:List Expr}{scope:Scope}{t:TG}{gg:GG}{tt:Nat->GT}{te:Nat->GE}{src:mj}{pos:Pos}{M:List Str}{n:Nat}{cL:List Nat}
def PK(h:fM scope.names X.env.scope.names X.N M n cL=true)(hk:scope.kind=.function):dB X scope M n cL:=.of _ _ h rfl rfl hk
def xL(M:List Str)(s:uJ X K W q tg iter src)(ht:jY K t gg)(hg:∀C s H fp,PG (eS X scope M C s H fp) tg t)(hT:∀m C s H fp,rX (eS X scope M C s H fp) ifs (tT K W0 m (tt m)))(hE:∀m C s H fp,PE (eS X scope M C s H fp) elt (tE K W0 m (te m)))
  (ok:fM scope.names X.env.scope.names X.N M n cL=true) (hk:scope.kind=.function) (hc:X.calm=true) (hs:∀x,foldedSetIterable iter X.env x=pure x):PE X (.ListComp elt [⟨tg,iter,ifs,0⟩] scope pos) (tE K W q (bZ q src gg tt te n cL)):=by
 obtain⟨wi,h1,h2⟩:=s;exact YF hc (PK ok hk) h1 h2 ht hg hT hE hs
def wL{mu:Bool}{i:Nat}{px oq:Pos}(M:List Str)(s:uJ X K W q tg iter src)(ht:jY K t gg)(hg:∀C s H fp,PG (eS X scope M C s H fp) tg t)(hT:∀m C s H fp,rX (eS X scope M C s H fp) ifs (tT K W0 m (tt m)))(hE:∀m C s H fp,PE (eS X scope M C s H fp) elt (tE K W0 m (te m)))
  (ok:fM scope.names X.env.scope.names X.N M n cL=true) (hN:Be X.N=true) (hk:scope.kind=.function) (y9:X.N[i]?=some x) (hx:Loc X.env.scope x) (hc:X.calm=true) (Dk:swapsWith (.ListComp elt [⟨tg,iter,ifs,0⟩] scope pos) (some (.Name x px)) oq.line X.env=pure true) (hs:∀x,foldedSetIterable iter X.env x=pure x) (hf:X.fn x=true\/X.env.scope.names.lookup x=some .local) :
  PS X (.Assign [.Name x px] (.ListComp elt [⟨tg,iter,ifs,0⟩] scope pos) oq) (tS K W q (au i mu (bZ q src gg tt te n cL))):=by
 obtain⟨wi,h1,h2⟩:=s;exact YG hc (PK ok hk) (F8 hN) y9 hx h1 h2 ht hg hT hE Dk hs hf
end
section
variable{X:Cx}{K:Frag}{W:XW}{q:Nat}{tg iter e o i value:Expr}{body:List Stmt}{t:TG}{gg:GG}{src:mj}{pos pos' eW:Pos}{f fv fo fi fe:GE}{x:Str}
def wF{fb:Nat->GS}(s:uJ X K W q tg iter src)(ht:jY K t gg)(hg:PG X tg t)(hb:∀n,iP X body (tS K W n (fb n)))(hp:PassesOwn (model X.prog X.w) X.A X.env X.xe)(hc:X.calm=true)(hs:∀x,foldedSetIterable iter X.env x=pure x):PS X (.For tg iter body [] pos) (tS K W q (bD q src gg fb)):=by
 obtain⟨wi,h1,h2⟩:=s;exact e1a hp hc h1 h2 hg ht hb hs
def wS{mu:Bool}{i:Nat}(he:PE X e (tE K W q f))(hN:Be X.N=true)(hi:X.N[i]?=some x)(hx:Loc X.env.scope x)(hs:swapsWith e (some (.Name x pos')) pos.line X.env=pure false)(hf:X.fn x=true\/X.env.scope.names.lookup x=some .local):PS X (.Assign [.Name x pos'] e pos) (tS K W q (au i mu f)):=e0q (F8 hN) hi hx he hs hf
def wE(he:PE X e (tE K W q f))(hs:swapsWith e none pos.line X.env=pure false):PS X (.Expr e pos) (tS K W q (dF f)):=Yt he hs
def wP(he:PE X e (tE K W q fv))(ho:PE X o (tE K W q fo))(hi:PE X i (tE K W q fi))(hu:X.A.units+41<cLine)(hK:X.K=K)
  (ha:∀v,assign (.Subscript o i pos') X.env v=(do
   let ov <-holding [v] (eval o X.env)
   let iv <-holding [v,ov] (eval i X.env)
   standAt pos'
   holding [v,ov,iv] (setItem ov iv v)
   release [v,ov,iv] []))
  (hs:swapsWithSole [.Subscript o i pos'] e pos.line X.env=pure false) (hw:swappedStores [.Subscript o i pos'] e X.env=pure none)
  (h1:(assignEach [.Subscript o i pos'] X.env).map (·.2)=[assign (.Subscript o i pos') X.env]):PS X (.Assign [.Subscript o i pos'] e pos) (tS K W q (bX q fv fo fi)):=e2a he ho hi hu hK ha hs hw h1
def wA(ha:jU K atr)(ho:PE X o (tE K W q fo))(hv:PE X value (tE K W q fv))(hs:swapsWith value (some (.Attribute o g pos')) pos.line X.env=pure false)(hK:X.K=K):PS X (.Assign [.Attribute o g pos'] value pos) (tS K W q (eO q atr g fv fo)):=e2e ha ho hv hs hK
def wAI(ha:jU K atr)(ho:PE X o (tE K W q fo))(hv:PE X value (tE K W q fe))(hK:X.K=K):PS X (.AugAssign (.Attribute o g eW) .Add value pos) (tS K W q (Jt q (λi j=>i+j) atr g fo fe)):=Ze (λaa s Z H x y v u Q I r1 r2 h=>e0c aa s Z H x y v u Q I r1 r2 (by
 obtain⟨i,j,rfl,rfl,h⟩:=h;exact⟨i,j,rfl,rfl,h⟩)) ha ho hv hK
def wAD{op:Operator}{h:Int->Int->Int}(zh:∀X:Cx,Ew X op (KD h))(ho:PE X o (tE K W q fo))(hi:PE X i (tE K W q fi))(hv:PE X value (tE K W q fe))(hu:X.A.units+41<cLine)(hK:X.K=K)
  (ha:∀ov iv new,augStore i ov iv new=(do holding [new,ov,iv] (setItem ov iv new);release [new,ov,iv] [];pure .next)):PS X (.AugAssign (.Subscript o i eW) op value pos) (tS K W q (Ju q h fo fi fe)):=Zf (zh X) ho hi hv hu hK ha
structure qu (K:Frag) (mg:Str->ak aj) (tab:List (Str×ah)) (B0:ah):Prop where
 all:∀p∈tab,mg p.1=some (.ref p.2)/\e_ K p.2 (.ref B0::rj) none/\keepIn K (.ref p.2)=true
 G0:e_ K B0 rj none
 mg0:mg "CarryError"=some (.ref B0)
def qu.ix(E:qu K mg tab B0){i:Nat}{n:Str}(h:tab[i]?=some (n,C)):mg n=some (.ref C)/\e_ K C (.ref B0::rj) none/\keepIn K (.ref C)=true:=E.all (n,C) (tY h)
def wX{p cp:Pos}(j:Nat)(E:qu K X.mg tab B0)(he:PE X e (tE K W q fe))(hp:eG X W)(hj:tab[j]?=some (x,C))(hc:X.calm=true)(hg:Gl X x)(k8:(x == ("__debug__":Str))=false)
  (k9:starEach [e] X.env=(false,eval e X.env)::starEach [] X.env) (hK:X.K=K):PS X (.Raise (some (.Call (.Name x p) [e] [] cp)) none pos) (tS K W q (oH C fe)):=by
 obtain⟨h1,h2,h4⟩:=E.ix hj;exact VQ h2 E.G0 h4 h1 hp he hc hg k8 k9 hK
noncomputable def wT(tab:List (Str×ah))(C:ah):ak Bool:=if tab.any (λp=>p.2 == C)=true then some true else none
def wY{np hp:Pos}{b0:Stmt}{ow:List Stmt}{g f:GS}(E:qu K X.mg tab B0)(hb:∀(pn:List (ah×Obj)) (E:aj->aq->Prop) (W:XW),eG (X.dA pn E) W->iP (X.dA pn E) body (tS K W q f))(hS:∀e,iP (X.dz e) (b0::ow) (tS K W0 q g))
  (hg:Gl X "CarryError") (hK:X.K=K) (k9:X.stack=X.env::X.outer) (hf:X.env.frame=some X.env.locals) :
  PS X (.Try body [.ExceptHandler (some (.Name "CarryError" np)) none (b0::ow) hp] [] [] pos) (tS K W q (sL f [(wT tab,g)])):=by
 refine e1d hb (YH E.mg0 (λC b h=>?_) hS e1c hg (by decide) hK) k9 hf
 unfold wT at h;split at h
 .rename_i hC
  cases h;obtain⟨p,m,e⟩:=Mb.mp hC;cases(beq_iff_eq.mp e);refine((E.all p m).2.1.exm E.G0 rfl).trans (congrArg some ?_);simp
 lia
end
def Zg{P:cS}{w:cg}{K:Frag}{base:bM}{k:Nat}{f:ah}{fd:bV}{m:GM}(F:de P w K mg base (ng P w) k f fd [x] (ua K 0 1 m)){n:Nat}(h:∀ns:List Int,ns.length<=n->∃S,m [.d (.lst (ns.map D.int))] ⟨[],[]⟩=some (.ok (.v (.d (.bl true))) S)):
  de P w K mg base (ng P w) k f fd [x] (λvs H Q _=>∃(a:ah) (ns:List Int),vs=[.ref a]/\cz K H a (ns.map V.int)/\ns.length<=n/\∀H',Q (.bl true) H'):=⟨λvs H Q E h=>by obtain⟨a,ns,rfl,_⟩:=h;rfl,λA outer s H args us vs Q E hr e0 hb r hq=>by
 obtain⟨a,ns,rfl,hs,hl,q⟩:=hq;obtain⟨S,e⟩:=h ns hl;refine F.run A outer s H args us [.ref a] Q E hr e0 hb r ⟨rfl,⟨H,[],[]⟩,[.d (.lst (ns.map D.int))],⟨[],[]⟩,_,⟨aw.refl _,.nil,⟨rfl,λ_ _ _ z=>nomatch z⟩,⟨rfl,λ_ _ _ z=>nomatch z⟩⟩,.cons (show ag K ⟨H,[],[]⟩ [.ref a] [.lst (ns.map D.int)] from .lst hs ?_ .nil) .nil,e,λv k' H' u ok r'=>?_⟩
 .exact VI ns
 .cases(show ag K k' [v] [.bl true] from r').aW rfl;exact q H'⟩
def JY{N P:List Str}{sc:Scope}(h1:sc.kind=.function:=by rfl)(h2:sc.isCoroutine=false:=by rfl)(h3:sc.isGenerator=false:=by rfl)(h4:N.Nodup:=by decide +kernel)(h5:N.take P.length=P:=by rfl)(h6:∀x∈P,sc.names.lookup x=some .local \/ sc.names.lookup x=some .cell:=by decide +kernel)(h7:∀y∈sc.names,y.2≠.free:=by decide +kernel):gZ N P sc:=⟨h1,h2,h3,h4,h5,h6,h7⟩
def Zh{A:PySem.Around}{k:Nat}(hr:bY k A):A.units+41<PySem.cLine:=L_ (Nat.add_le_add_left (by decide:41<=64) _) hr.units
section
variable{X:Cx}{K:Frag}{W:XW}{q:Nat}{pos:Pos}{x:Str}
def xk{z:Str}(hm:∃t,X.mg x=some (.str z t))(hg:Gl X x)(hd:(x == ("__debug__":Str))=false):PE X (.Name x pos) (tE K W q (gC (.str z))):=yM (v:=.str z) (by
 intro aa s Z H Q I h;obtain⟨t,hm⟩:=hm;exact AG I hg hm ⟨.str z,H,I,⟨t,rfl⟩,h⟩ hd)
def xki{n:Int}(hm:∃t,X.mg x=some (.int n t))(hg:Gl X x)(hd:(x == ("__debug__":Str))=false):PE X (.Name x pos) (tE K W q (gC (.int n))):=yM (v:=.int n) (by
 intro aa s Z H Q I h;obtain⟨t,hm⟩:=hm;exact AG I hg hm ⟨.int n,H,I,⟨t,rfl⟩,h⟩ hd)
end
abbrev cA:=o2 uV
abbrev qG:=o2 (eU uz λi j=>.int (i - j))
abbrev nE:=o2 vy
abbrev sf:=o2 (eU (λ_ j=>decide (0<j/\j<1073741824)) λi j=>.int (i / j))
abbrev mq:=o2 (eU (λ_ j=>decide (0<j)) λi j=>.int (i%j))
abbrev qS:=o2 (wI false)
abbrev zI:=o2 (wI true)
abbrev Rr:Int->Int->Bool:=λi j=>decide (i<j)
abbrev GQ:Int->Int->Bool:=λi j=>decide (i<=j)
abbrev iGt:Int->Int->Bool:=λi j=>decide (j<i)
abbrev Dm:Int->Int->Int:=λi j=>i+j
abbrev DM:=o2 (eU uz λi j=>.bl (Rr i j))
abbrev qLe:=o2 (eU uz λi j=>.bl (GQ i j))
abbrev DK:=o2 (eU uz λi j=>.bl (iGt i j))
abbrev k_:=o2 (A' false)
abbrev iX:=o2 (A' true)
abbrev G2:=o2 (Ba false)
abbrev DL:=o2 (Ba true)
abbrev Lk:List Bool->Bool:=λbs=>bs.all id
noncomputable def Qj(e:DictEntry):Bool:=match e.key with|.str _ _=>true|_=>false
def errC_mk{K:Frag}{C:ah}{bm:List aj}{GR:ak aj}{nm q:Str}{N:ah}{bs:List aj}{sn:List Str}{sub:List aj}{ab:Bool}{col:ak Bool}{dd:ak ah}{k0 k1 k2 k3 k5:ak aj}{on:aj}{Bf:ak ah}{es:Array DictEntry}{ep:Nat}{Bi:Array (ak aj)}
  (l:K.lookup C=some (excClassObj nm q C N bs bm true sn sub ab col dd k0 k1 k2 k3 k5 "ValueError.__new__")) (d:K.lookup N=some ⟨on,Bf,.dict es ep,Bi⟩) (s:es.toList.all Qj=true) (i:nsFind es "__init__"=GR):e_ K C bm GR:=by
 refine⟨_,_,_,_,_,_,_,_,_,_,_,_,_,_,_,_,_,_,_,l,d,λe he=>?_,i⟩
 have:=pK.1 s e (L7.2 he);unfold Qj at this;split at this
 .exact⟨_,_,by assumption⟩
 .cases this
instance instGE (n:Nat):OfNat GE n:=⟨sG n⟩
abbrev gI(n:Int):GE:=gC (.int n)
abbrev gX(a b:GE):GE:=gO (o2 GW) (bT a b)
abbrev cq(o:List D->ak Rv)(a b:GE):GE:=gO o (bT a b)
abbrev pj(a b c:GE):GA:=nB a (bT b c)
abbrev vg(a b c d:GE):GA:=nB a (pj b c d)
abbrev du(a:GS):GS:=et a lU
abbrev iS(a b:GS):GS:=et a (du b)
abbrev sH(a b c:GS):GS:=et a (iS b c)
abbrev sJ(a b c d:GS):GS:=et a (sH b c d)
abbrev rm(a b c d e:GS):GS:=et a (sJ b c d e)
instance instGG (n:Nat):OfNat GG n:=⟨af n⟩
abbrev dw(f:GT)(g:GS):GS:=ky f (du g) lU
abbrev gQ(o:List D->ak Rv)(a b:GE):GT:=gB (cq o a b)
noncomputable def a_(p n:Nat)(m:Nat->GS)(q:Nat):GM:=runM p n (m q)
end L2
namespace L2
open PySem Lean Meta
variable{s:List Cell}{z:List D}
def sv(e:Lean.Expr)(i:Nat)(k:Lean.Expr->ak (Lean.Expr×Bool)):SimpM Simp.Step:=do
 let a:=e.getAppArgs
 let r0 <-Simp.simp a[i]!
 let x:=(<-instantiateMVars r0.expr).cleanupAnnotations.headBeta
 let pr <-match r0.proof? with
  |none=>pure none
  |some p=>pure (some (<-mkCongrArg (.lam `z (<-inferType a[i]!) (mkAppN e.getAppFn (a.set! i (.bvar 0))) .default) p))
 match k x with
 |some (y,true)=>return .visit { expr:=y.headBeta,proof?:=pr}
 |some (y,false)=>return .done { expr:=y.headBeta,proof?:=pr}
 |none=>return .done { expr:=mkAppN e.getAppFn (a.set! i x),proof?:=pr}
def isOk(x:Lean.Expr):ak (Lean.Expr×Lean.Expr):=if x.isAppOfArity ``Option.some 2&&x.appArg!.isAppOfArity ``Rs.ok 3 then some (x.appArg!.appFn!.appArg!,x.appArg!.appArg!) else none
def CP(n:Name):Bool:=(n.getRoot == `L2 && !(#[``dC,``findS,``dZ,``gE,``kB,``kY,``iW,``aO.cut,``aL,``aR,``bQ,``gL,``jl,``cR,``lW,``eV,``qT,``dO,``gH,``aH,``bB,``cF,``bd,``kL,``uh,``iU,``Cell.kO,``runM].contains n)) || (n.getRoot == `List&&n != ``List.toArray) || n.getRoot == `Option || n.getRoot == `Prod || n.getRoot == `GetElem? || n.getRoot == `OfNat || n.getRoot == `Nat || n.getRoot == `BEq || n == ``ite || n == ``dite || n.getRoot == `Bool || n.getRoot == `Decidable || n == ``and || n == ``or || n == ``not || n.getRoot == `id || n.getRoot == `HAppend || n.getRoot == `Append || n.getRoot == `instHAppendOfAppend
def e2f(e:Lean.Expr):MetaM Lean.Expr:=withCanUnfoldPred (λ_ c=>return CP c.name || c.name.isInternal || (<-isInstance c.name) || (<-isMatcher c.name)) (withDefault (whnf e))
def e2g(e:Lean.Expr):MetaM Bool:=do
 if e.isFVar || e.isLit then return true
 let .const n _:=e.getAppFn|return false
 if n == ``OfNat.ofNat then return true
 if n == ``Nat.succ then return false
 return (<-getEnv).isConstructor n
simproc_decl ev (_):=λe=>do
 let .const n ls:=e.getAppFn|return .continue
 let a:=e.getAppArgs
 if n == ``OfNat.ofNat&&a.size>=3&&(a[2]!.isAppOf ``instGG || a[2]!.isAppOf ``instGE) then return .visit { expr:=mkAppN (mkApp (mkConst (if a[2]!.isAppOf ``instGG then ``af else ``sG)) a[1]!) (a.extract 3 a.size)}
 if n == ``Option.bind&&a.size == 4 then
  return <-sv e 2 λx=>if x.isAppOfArity ``Option.some 2 then some (mkApp a[3]! x.appArg!,true) else if x.isAppOfArity ``Option.none 1 then some (mkApp (.const ``Option.none (ls.drop 1)) a[1]!,false) else none
 if n == ``Option.map&&a.size == 4 then
  return <-sv e 3 λx=>if x.isAppOfArity ``Option.some 2 then some (mkApp2 (.const ``Option.some (ls.drop 1)) a[1]! (mkApp a[2]! x.appArg!).headBeta,true) else if x.isAppOfArity ``Option.none 1 then some (mkApp (.const ``Option.none (ls.drop 1)) a[1]!,false) else none
 if(n == ``bd || n == ``uh || n == ``kL)&&a.size == 4 then
  return <-sv e 2 λx=>match isOk x with
   |some (v,S)=>some (mkApp2 a[3]! v S,true)
   |none=>if n != ``uh&&x.isAppOfArity ``Option.some 2&&x.appArg!.isAppOfArity ``Rs.ex 4 then
     let b:=x.appArg!.getAppArgs
     if n == ``kL then some (mkApp2 (.const ``Option.some [0]) (.const ``Fr []) (mkApp4 (.const ``Fr.ex []) b[1]! b[2]! a[1]! b[3]!),true) else some (mkApp2 (.const ``Option.some [0]) (mkApp (.const ``Rs []) a[1]!) (mkApp4 (.const ``Rs.ex []) a[1]! b[1]! b[2]! b[3]!),true)
    else none
 if n == ``ite then return <-reduceIte e
 if n == ``List.length&&a.size == 2 then
  let some (_,vs):=a[1]!.listLit?|return .continue
  return .done { expr:=mkNatLit vs.length}
 if n == ``runM&&a.size == 5 then
  let some (_,vs):=a[3]!.listLit?|return .continue
  let (some p,some k):=(a[0]!.nat?,a[1]!.nat?)|return .continue
  unless vs.length == p do return .continue
  let V:=mkConst ``Val
  let G <-mkListLit (mkApp (.const ``Option [0]) V) (vs.map (λv=>mkApp2 (.const ``Option.some [0]) V v)++List.replicate (k - p) (mkApp (.const ``Option.none [0]) V))
  let f <-mkAppM ``leave #[<-mkAppM ``List.length #[<-mkAppM ``aO.s #[a[4]!]]]
  return .visit { expr:=<-mkAppM ``Option.bind #[(mkApp2 a[2]! G a[4]!).headBeta,f]}
 if n.getRoot == `Nat || n.getRoot == `OfNat || n.getRoot == `BEq || n.getRoot == `Decidable || n == ``dite then return .continue
 unless CP n || n == ``getElem? || n == ``HAppend.hAppend do return .continue
 if <-isMatcher n then return .continue
 if(<-getEnv).isConstructor n then return .continue
 if n.getRoot == `L2&&(<-isReducible n) then
  let some e' <-withDefault (unfoldDefinition? e)|return .continue
  return .visit { expr:=e'.headBeta}
 let t <-whnfR (<-inferType e)
 if t.isAppOfArity ``Option 1&&n.getRoot == `L2 then
  let some e' <-withDefault (unfoldDefinition? e)|return .continue
  let e' <-whnfCore e'
  if(<-isMatcherApp e') then return .continue
  return .visit { expr:=e'}
 if t.isForall then return .continue
 let e' <-e2f e
 if e' != e&&(<-e2g e') then return .visit { expr:=e'}
 return .continue
def JT:List Simp.DSimproc:=[Nat.reduceAdd,Nat.reduceSub,Nat.reduceMul,Nat.reduceDiv,Nat.reduceMod,Int.reduceAdd,Int.reduceSub,Int.reduceMul,Int.reduceDiv,Int.reduceMod,Int.reduceNeg,Int.reduceToNat,Int.reduceBEq,Nat.reduceBEq]
def JU:List Simp.Simproc:=[reduceCtorEq,Nat.reduceLT,Nat.reduceLeDiff,Nat.reduceEqDiff,Int.reduceLT,Int.reduceLE,Int.reduceEq]
simproc_decl ba (_):=λe=>do
 for p in JT do
  match <-p e with
  |.done x=>return .done { expr:=x}
  |.visit x=>return .visit { expr:=x}
  |.continue (some x)=>return .continue (some { expr:=x})
  |_=>pure ()
 for p in JU do
  match <-p e with
  |.continue none=>pure ()
  |r=>return r
 return .continue
section
variable{α:Type}{l L M:List α}{c:α}{j:Nat}{S:aO}{r L':List Cell}
def oJ:S.cut S.s.length=S:=by unfold aO.cut;rw[Md]
def A5:aO.cut ⟨s++L',r⟩ s.length=⟨s,r⟩:=by unfold aO.cut;rw[List.take_left]
def eE:aO.cut ⟨s,r⟩ s.length=⟨s,r⟩:=by unfold aO.cut;rw[Md]
def jJ:(l++L)[l.length]?=L[0]?:=by rw[v3 (bF _),L9]
def Fw:(l++L)[l.length+j]?=L[j]?:=by rw[v3 (Hi _ _),Nat.add_sub_cancel_left]
def qU:(l++L).set l.length c=l++L.set 0 c:=by rw[List.set_append_right _ _ (bF _),L9]
def Lv:(l++L).set (l.length+j) c=l++L.set j c:=by rw[List.set_append_right _ _ (Hi _ _),Nat.add_sub_cancel_left]
def KY:(l++L).length=l.length+L.length:=cP
def Cg:(l++L)++M=l++(L++M):=mY _ _ _
def RF:(l.length<l.length)=False:=eq_false (jE _)
def lt2:(l.length+j<l.length)=False:=eq_false (by lia)
def oK{a b:Int}:aR (.int a) (.int b)=(a == b):=rfl
def pZ{a b:Str}:aR (.str a) (.str b)=(a == b):=rfl
def KG{z:Str}:iW (.str z) (.ty "str")=some (rd (.bl true)):=rfl
def GU:iW (.tup z) (.ty "tuple")=some (rd (.bl true)):=rfl
def KH{z:Str}:iW (.str z) (.ty "tuple")=some (rd (.bl false)):=rfl
def is4:iW (.lst z) (.ty "list")=some (rd (.bl true)):=rfl
def PL{n:Nat}{x:Cell}:aO.cut ⟨s.set n x,r⟩ s.length=⟨s.set n x,r⟩:=by
 unfold aO.cut;dsimp only;rw[v5 (by rw[m9];exact bF _)]
def cJ{a:α}:dC (a::l) 0=some a:=ra (j:=0) rfl
def eH{a b:α}:dC (a::b::l) 1=some b:=ra (j:=1) rfl
def kK{a b c:α}:dC (a::b::c::l) 2=some c:=ra (j:=2) rfl
def AU{a b c d:α}:dC (a::b::c::d::l) 3=some d:=ra (j:=3) rfl
end
end L2
namespace L2
open PySem
section
variable{α:Type}{gg:GG}{tt:GT}{te:GE}{S:aO}{f:α->D}{U cs:Gm}{a:ak Val}
theorem F_(h:α->ak D)(G:Gm->Prop):∀(xs:List α) (U:Gm) (aU:List D),G U->aU.length+xs.length<=1000000->(∀x∈xs,∀U,G U->∃U',gg (f x) U=some U'/\G U'/\((h x=none/\tt U' S=some (.ok false S))\/∃r d,h x=some d/\tt U' S=some (.ok true S)/\te U' S=some (.ok r S)/\mV r=.d d))->
  bB gg tt te (xs.map f) U S aU=some (.ok (aU++xs.filterMap h) S)
 |[],U,aU,_,_,_=>by rw[Bs,lq];rfl
 |x::xs,U,aU,g,hl,hx=>by
  obtain⟨U',e1,g',e2⟩:=hx x (.head _) U g;rw[jt] at hl;rw[bL];unfold bB;rw[e1,v7];rcases e2 with⟨e2,e3⟩|⟨r,d,e2,e3,e4,e5⟩
  .rw[e3,Mh e2];exact F_ h G xs U' aU g' (by lia) λy m=>hx y (.tail _ m)
  .have e6:gD te U' S=some (.ok d S):=by unfold gD bd;rw[e4];show(pe S (mV r)).map _=_;rw[e5];rfl
   rw[e3,Mi e2];show uh (gD te U' S) _=_;rw[e6];show(if aU.length<1000000 then _ else _)=_
   rw[aP (by lia),F_ h G xs U' (aU++[d]) g' (by rw[cP,pJ];lia) λy m=>hx y (.tail _ m),mY]
   rfl
def CU{d:D}:af 0 d (a::cs)=some (some (.d d)::cs):=by
 rfl
def yN(h:α->ak D)(xs:List α)(hl:xs.length<=1000000)(hx:∀x∈xs,(h x=none/\tt (some (.d (f x))::cs) S=some (.ok false S))\/∃r d,h x=some d/\tt (some (.d (f x))::cs) S=some (.ok true S)/\te (some (.d (f x))::cs) S=some (.ok r S)/\mV r=.d d):bB (af 0) tt te (xs.map f) (a::cs) S []=some (.ok (xs.filterMap h) S):=by
 rw[F_ h (λU=>∃a,U=a::cs) xs _ [] ⟨a,rfl⟩ (by rw[Bp];lia) λx m U ⟨a,hU⟩=>⟨_,by rw[hU];exact CU,⟨_,rfl⟩,hx x m⟩,xW]
def uZ(h:α->D)(xs:List α)(hl:xs.length<=1000000)(hx:∀x∈xs,∃r,te (some (.d (f x))::cs) S=some (.ok r S)/\mV r=.d (h x)):bB (af 0) (iH true) te (xs.map f) (a::cs) S []=some (.ok (xs.map h) S):=by
 rw[yN (λx=>some (h x)) xs hl λx m=>.inr (let ⟨r,h1,h2⟩:=hx x m;⟨r,_,rfl,rfl,h1,h2⟩),List.filterMap_eq_map']
theorem Qk{body:GS}(I:List α->Gm->aO->Prop):∀(xs dn:List α) (U:Gm) (S:aO),I dn U S->(∀d x r,dn++xs=d++x::r->∀U S,I d U S->∃U1 U' S',gg (f x) U=some U1/\(body U1 S=some (.nx U' S')\/body U1 S=some (.ct U' S'))/\I (d++[x]) U' S')->∃U' S',aH gg body (xs.map f) U S=some (.nx U' S')/\I (dn++xs) U' S'
 |[],dn,U,S,i,_=>⟨U,S,rfl,by rw[lq];exact i⟩
 |x::xs,dn,U,S,i,hx=>by
  obtain⟨U1,U',S',e1,e2,i'⟩:=hx dn x xs rfl U S i;obtain⟨U2,S2,e3,i2⟩:=Qk I xs (dn++[x]) U' S' i' λd y r e=>hx d y r (by rw[<-e,mY];rfl)
  refine⟨U2,S2,?_,by rw[mY] at i2;exact i2⟩
  rw[bL];unfold aH;rw[e1,v7];rcases e2 with e2|e2
  .rw[e2];exact e3
  .rw[e2];exact e3
def jI{body:GS}(I:List α->Gm->aO->Prop)(xs:List α)(i:I [] U S)(hx:∀d x r,xs=d++x::r->∀U S,I d U S->∃U1 U' S',gg (f x) U=some U1/\(body U1 S=some (.nx U' S')\/body U1 S=some (.ct U' S'))/\I (d++[x]) U' S'):∃U' S',aH gg body (xs.map f) U S=some (.nx U' S')/\I xs U' S':=Qk I xs [] U S i λd x r e=>hx d x r e
def e2h(enc:α->D)(xs:List α):dO (xs.map enc)=((List.range xs.length).zip xs).map λ(p:Nat×α)=>D.tup [.int (p.1:Nat),enc p.2]:=by
 unfold dO;rw[bc];refine Mc λi=>?_
 rw[fW,fW];by_cases h:i<xs.length
 .have z:((List.range xs.length).zip xs)[i]?=some (i,xs[i]):=List.getElem?_zip_eq_some.mpr ⟨z_ h,i5 h⟩;rw[z_ h,z];simp[h]
 .rw[Ac (by simp;lia),Ac (by simp;lia)]
  rfl
def e6k{body:GS}(enc:α->D)(I:List α->Gm->aO->Prop)(xs:List α)(i:I [] U S)(hx:∀d x r,xs=d++x::r->∀U S,I d U S->∃U1 U' S',gg (.tup [.int (d.length:Nat),enc x]) U=some U1/\body U1 S=some (.nx U' S')/\I (d++[x]) U' S'):∃U' S',aH gg body (dO (xs.map enc)) U S=some (.nx U' S')/\I xs U' S':=by
 have hs:((List.range xs.length).zip xs).map Prod.snd=xs:=by rw[List.map_snd_zip];simp
 rw[e2h];obtain⟨U',S',e,p⟩:=jI (gg:=gg) (body:=body) (f:=λ(p:Nat×α)=>D.tup [.int (p.1:Nat),enc p.2]) (U:=U) (S:=S) (λpre U S=>I (pre.map Prod.snd) U S) ((List.range xs.length).zip xs) i (by
  intro q x post e U S p;have ur:xs=q.map Prod.snd++x.2::post.map Prod.snd:=by
   simp_all
  have hi:x.1=(q.map Prod.snd).length:=by
   have:((List.range xs.length).zip xs)[q.length]?=some x:=by rw[e,v3 (bF _)];simp
   rw[List.getElem?_zip_eq_some] at this;have h1:=this.1;rw[eR] at h1;obtain⟨hl,h1⟩:=h1;rw[List.getElem_range] at h1;rw[bc];exact h1.symm
  obtain⟨U1,U2,S2,a,b,c⟩:=hx _ _ _ ur U S p;exact⟨U1,U2,S2,by rw[hi];exact a,.inl b,by rw[c_];exact c⟩)
 exact⟨U',S',e,by rw[hs] at p;exact p⟩
theorem Pb{body:GS}{rv:Rv}{S':aO}(I:List α->Gm->aO->Prop){x:α}{r:List α}:∀(d dn:List α) (U:Gm) (S:aO),I dn U S->(∀d' y r',dn++d=d'++y::r'->∀U S,I d' U S->∃U1 U' S',gg (f y) U=some U1/\(body U1 S=some (.nx U' S')\/body U1 S=some (.ct U' S'))/\I (d'++[y]) U' S')->(∀U S,I (dn++d) U S->∃U1,gg (f x) U=some U1/\body U1 S=some (.rt rv S'))->aH gg body ((d++x::r).map f) U S=some (.rt rv S')
 |[],dn,U,S,i,_,hs=>by
  obtain⟨U1,e1,e2⟩:=hs U S (by rw[lq];exact i)
  rw[xW,bL];unfold aH;rw[e1,v7,e2];rfl
 |y::d,dn,U,S,i,hp,hs=>by
  obtain⟨U1,U',S',e1,e2,i'⟩:=hp dn y d rfl U S i;have e3:=Pb I (x:=x) (r:=r) d (dn++[y]) U' S' i' (λd' z r' e=>hp d' z r' (by rw[<-e,mY];rfl)) (λU S h=>hs U S (by rw[mY] at h;exact h))
  rw[List.cons_append,bL];unfold aH;rw[e1,v7];rcases e2 with e2|e2
  .rw[e2];exact e3
  .rw[e2];exact e3
end
end L2
namespace L2
open PySem PySem.Spec PySem.W PyProof.Rows
section
variable{X:Cx}
noncomputable abbrev tP:List Int->Int:=λis=>is.sum
def Wd(K:PySem.W.Frag)(hc:X.calm=true:=by rfl)(hK:X.K=K:=by rfl):bH X (.builtin "sum") (λxs H Q=>∃(a:ah) (is:List Int),xs=[.ref a]/\cz K H a (is.map V.int)/\is≠[]/\Q (.int (tP is)) H):=by
 subst hK;intro aa s Z H xs us Q I r h;obtain⟨a,is,rfl,hs,eY,q⟩:=h;obtain⟨u,rfl,ru⟩:=vals1 r;cases ru;obtain⟨aA,rv,p,hz⟩:=I.list hs;obtain⟨ps,e1,e2⟩:=Ib rv;subst e1;have el:(ps.map λp=>Value.int p.1 p.2).toArray=intItems ps.toArray:=by unfold intItems;simp
 have pl:=p.isList;rw[el] at pl;refine sum_intListG (I.ok.hd hc) pl λh' tk t' hk=>?_
 have hm:preSum (numAt ps.toArray) ps.toArray.size=tP is:=by
  rw[preSum_eq,<-e2];show(List.take ps.length (ps.map (·.1))).sum=_
  rw[v5 (by simp)]
 rw[hm];exact⟨.int (tP is),H,I.kept (h':=h') (t':=tk) λb o e=>hk b o e,⟨t',rfl⟩,q⟩
def KQ{K:Frag}:qY K (.builtin "sum") (o1 (lC tP)):=λX h c u=>⟨_,Wd K c h,O9 _⟩
end
variable{a b:List Str}
noncomputable def jm (l:List Str):List Str:=Classical.epsilon λs=>s.Perm l/\sortedS s=true
theorem DV:∀{p:Str} {l:List Str},risingS p l=true->(p::l).Pairwise λa b=>a.cps.toList<=b.cps.toList
 |p,[],_=>by simp
 |p,x::l,h=>by
  have h:(!ltCps x.cps.toList p.cps.toList&&risingS x l)=true:=h;rw[jq,ltCps_eq,Mg,decide_eq_false_iff_not,List.not_lt] at h;have ih:=DV h.2;refine List.pairwise_cons.mpr ⟨λb m=>?_,ih⟩
  rcases y04.mp m with rfl|m
  .exact h.1
  .exact List.le_trans h.1 ((List.pairwise_cons.mp ih).1 b m)
def Ql(h:sortedS a=true):a.Pairwise λa b=>a.cps.toList<=b.cps.toList:=by
 cases a with
 |nil=>exact .nil
 |cons p l=>exact DV h
def We(p:a.Perm b)(ha:sortedS a=true):jm b=a:=by
 have h:=Classical.epsilon_spec (p:=λs:List Str=>s.Perm b/\sortedS s=true) ⟨a,p,ha⟩
 exact(h.1.trans p.symm).eq_of_pairwise (λx y _ _ h1 h2=>Str.ext' (Array.toList_inj.mp (List.le_antisymm h1 h2))) (Ql h.2) (Ql ha)
def TF(p:a.Perm b):jm a=jm b:=by
 unfold jm
 congr 1
 funext s;rw[eq_iff_iff,show s.Perm a↔s.Perm b from⟨λh=>h.trans p,λh=>h.trans p.symm⟩]
section
variable{X:Cx}{K:PySem.W.Frag}{H:Hp}{k:Kn}
def Qm(K:PySem.W.Frag):List V->Hp->VK->Prop:=λvs H Q=>∃(a:ah) (ss:List Str),vs=[.ref a]/\cz K H a (ss.map V.str)/\ss.length<64/\∀l,H l=none->Q (.ref l) (upd H l (.lst ((jm ss).map V.str)))
theorem iE:∀{ss:List Str} {vs:List aj},Vals (ss.map V.str) vs↔StrsAre vs ss
 |[],vs=>⟨λh=>by cases h;exact .nil,λh=>by cases h;exact .nil⟩
 |s::ss,vs=>⟨λh=>by
   cases h with
   |cons r t=>obtain⟨t',rfl⟩:=r;exact .cons _ _ (iE.mp t),λh=>by
   cases h with
   |cons _ t h=>exact .cons ⟨t,rfl⟩ (iE.mpr h)⟩
def TH(K:PySem.W.Frag)(hK:X.K=K:=by rfl):bH X (.builtin "sorted") (Qm K):=by
 subst hK;intro aa s Z H xs us Q I r h;obtain⟨a,ss,rfl,hl,CY,q⟩:=h;obtain⟨u,rfl,ru⟩:=vals1 r;cases ru;obtain⟨aA,rv,pl,hz⟩:=I.list hl;have hS:=iE.mp rv;have hlen:=rv.length;rw[bc] at hlen;refine sorted_strs pl.isList hS (by lia) λout ss' a1 a2 a3=>?_
 obtain⟨c,hc⟩:=sortedAll_at s.heap aA out;rw[We a2 a3] at q;have I3:=I.laid (h':=sortedAll s.heap aA out) (t':=s.toks) (o:=.lst (ss'.map V.str)) (λb o g=>sortedAll_old g) (tW _) (show bp X.prog X.w _ _ _ (.lst _) from⟨by rw[bc,a2.length_eq,sizeLine_eq];lia,out.toList,c,iE.mpr a1,hc⟩)
 exact⟨.ref (s.heap.objs.size+1),_,I3,rfl,q _ (I.bj.fresh (tW _))⟩
noncomputable def oo:D->ak Rv
 |.lst ds=>(dZ ds).bind λss=>if ss.length<64 then some (.o (.lst ((jm ss).map D.str))) else none
 |_=>none
def Wf(ns:List Str):ag K k (ns.map V.str) (ns.map D.str):=by
 induction ns with
 |nil=>exact .nil
 |cons a l ih=>exact .flat rfl ih
def Wg:bP K (Qm K) (o1 oo):=tF λk H x a y Q le t e res=>by
 unfold oo at e;split at e
 .obtain⟨ss,h,e⟩:=cf.mp e;split at e
  .cases e;obtain⟨p,ws,rfl,s,r⟩:=t.lst le;rw[E6 h] at r;cases EX r;exact⟨p,ss,rfl,s,by assumption,λl hl=>res.lst le (Wf _) hl⟩
  .cases e
 .cases e
def zt:qY K (.builtin "sorted") (o1 oo):=λX h c u=>⟨_,TH K h,Wg⟩
end
section
variable{K:Frag}{mg:Str->ak aj}{h:bM}{x y:Str}{st:Stmt}{f C:ah}{fd:bV}{ps:List Str}
abbrev Qn(x y:Str)(st:Stmt)(ps:List Str):Prop:=∀(kV doc pm:aj) (an:ak ah) (fS ct:aj) (us:List aj),us.length=ps.length->bindArgs (PySem.W.fnOf x y (Ce st) (yr st) (q_ st) .none kV doc pm an fS ct) ⟨us,[]⟩=pure (ps.zip us)
def dM(X:K.In h)(G:h.Ns mainGlobals mg)(a:nsIn K mainGlobals x=some (some (.ref f)))(F:Fun K x x st f fd)(b:Qn x x st ps):br K mg x st f fd ps:=⟨F,mg_of X G a,F.binds b⟩
def mM(a:findIn K (.ref C) x=some (some (.ref f)))(n:isFn K (.ref f)=true)(F:Fun K x y st f fd)(b:Qn x y st ps):MethAt K C x y st f fd ps:=⟨F,⟨a,n,F.kp⟩,F.binds b⟩
def kM{v:Tok->aj}{t:Tok}(X:K.In h)(G:h.Ns mainGlobals mg)(a:nsIn K mainGlobals x=some (some (v t))):∃t,mg x=some (v t):=⟨t,mg_of X G a⟩
end
end L2
namespace L2
open PySem Lean Meta
def dvR:List Name:=[``yS,``vd,``CL,``yT,``wL,``wS,``wE,``wP,``wA,``wAI,``wAD,``wX,``wY,``wF,``su,``xv,``xi,``xs,``xb,``xn,``xty,``xk,``xki,``xo,``L6,``xc,``xix,``xsl,``xd,``xj,``jn,``jc,``xB,``xT,``xM,``xU,``xf,``xC,``xN,``xH,``xH0,``xLV,``xL,``yR,``yQ,``sr,``u_,``CI,``CJ,``yP,``CK,``zH,``zc,``yO,``PW.pt,``CN,``yV,``yU,``yc,``ych,``yt,``ya1,``yo1,``yn,``y1,``vc,``vb,``tK,``vF,``pgn,``pgt,``tI,``vE,``vL,``zY,``tV,``vN,``sA,``Lu,``sEn,``sI,``sR1,``sRN,``LZ,``L4,``L3,``Ei,``L0,``WI,``WO,``WN,``WM,``WJ,``WK,``JE,``WL,``JD,``KO,``KN,``KJ,``KP,``KQ,``Dw,``zt,``KL,``Dv,``Du,``zx,``Dz,``vS,``vT,``vU,``Ee,``pU,``PyProof.Rows.Boot.min,``PyProof.Rows.Boot.sum,``xu,``xw,``zp,``DJ,``bY.le,``qV,``vC,``vD]
def dvM(tg N cL:Lean.Expr):MetaM Lean.Expr:=do
 let nm (e:Lean.Expr):=e.getArg! 0
 let ts:=if tg.isAppOf ``Expr.Name then[nm tg] else((tg.getArg! 0).listLit?.map (·.2.map nm)).getD []
 let ns:=(((<-whnf N).listLit?).map (·.2)).getD []
 let cs:=((cL.listLit?.map (·.2)).getD []).map λi=>ns.getD ((i.nat?).getD 0) (mkNatLit 0)
 mkListLit (mkConst ``Str) (ts++cs)
def oa{α:Type}(f:α->MetaM Bool):List α->MetaM Bool
 |[]=>return false
 |x::l=>do if <-f x then return true else oa f l
def CM:Nat->MVarId->MetaM Unit
 |0,_=>failure
 |n+1,g0=>do
  let (_,g) <-g0.intros
  g.withContext do
  let t:=(<-instantiateMVars (<-g.getType)).cleanupAnnotations.headBeta
  let run (s:MetaM Syntax):MetaM Bool:=do
   let st <-saveState
   try
    let (gs,_) <-Lean.Elab.runTactic g (<-s)
    unless gs.isEmpty do failure
    return true
   catch _=>st.restore;return false
  let use (fix:Lean.Expr->MetaM Unit) (f:Lean.Expr):MetaM Bool:=do
   let s <-saveState
   try
    let y <-whnfR (<-inferType f)
    unless y.getForallBody.getAppFn.constName? == t.getAppFn.constName? do failure
    let (ms,_,ty) <-forallMetaTelescope y
    unless <-isDefEq ty t do failure
    let each (h:Lean.Expr->MetaM Unit):=oa (λm=>do
     unless <-m.mvarId!.isAssigned do h m
     return false) ms.toList
    discard <| each fix
    discard <| each λm=>do if <-isProp (<-inferType m) then CM n m.mvarId!
    g.assign (mkAppN f ms)
    return true
   catch _=>s.restore;return false
  let vV:=use λ_=>pure ()
  let c:=t.getAppFn.constName?.getD .anonymous
  if c == ``Eq then
   let l:=t.appFn!.appArg!
   if l.isAppOf ``Be || l.isAppOf ``fM then
    if <-run `(tactic| kernel_rfl) then return
   if <-(try g.refl;pure true catch _=>pure false) then return
  let env <-getEnv
  if c == ``de then
   if <-oa (oa λ(k,i)=>do
    if k.getPrefix == `Carry&&(<-whnfR i.type).getForallBody.isAppOf ``de then vV (<-mkConstWithFreshMVarLevels k) else return false) [env.constants.map₂.toList,env.constants.map₁.toList] then return
   failure
  if <-oa (λd=>do
   if d.isImplementationDetail then return false
   if <-vV d.toExpr then return true
   let some s:=d.type.getAppFn.constName?|return false
   unless isStructure env s&&s.getPrefix == `Carry do return false
   oa (λf=>do vV (<-mkProjection d.toExpr f)) (getStructureFields env s).toList) ((<-getLCtx).decls.toList.filterMap id) then return
  if <-oa (λr=>do
   let f <-mkConstWithFreshMVarLevels r
   if r == ``wX then
    oa (λj=>use (λm=>do if(<-inferType m).isConstOf ``Nat then m.mvarId!.assign (mkNatLit j)) f) (List.range 12)
   else if r == ``xL || r == ``wL then
    use (λm=>do
     if(<-instantiateMVars (<-inferType m)).isAppOf ``List then
      let some lc:=t.find? (·.isAppOf ``Expr.ListComp)|failure
      let some gc:=t.find? (·.isAppOf ``bZ)|failure
      let some co:=((lc.getArg! 1).listLit?.bind (·.2.head?))|failure
      m.mvarId!.assign (<-dvM (co.getArg! 0) (<-mkAppM ``Cx.N #[t.getArg! 0]) gc.appArg!)) f
   else vV f) dvR then return
  unless <-run `(tactic| first|rfl|exact Or.inl rfl|exact Or.inr rfl|exact Or.inr (Or.inl rfl)|exact Or.inr (Or.inr rfl)|decide|(intro _ _;rfl)|with_unfolding_all rfl) do failure
simproc_decl dv (iP _ _ _):=λe=>do
 let a:=e.getAppArgs
 let b <-withDefault (whnf a[1]!)
 let m <-mkFreshExprMVar (mkApp3 e.getAppFn a[0]! b a[2]!)
 withDefault (CM 200 m.mvarId!)
 return .done { expr:=mkConst ``True,proof?:=<-mkEqTrue (<-mkExpectedTypeHint (<-instantiateMVars m) e)}
end L2
namespace L2
open PySem PySem.Spec PyProof.Rows
abbrev cH{A:Type}(Tx:PySem.W.Frag->(Str->ak aj)->A->Prop)(k:Nat)(f:A->ah)(fd:A->bV)(ps:List Str)(p:Nat)(M:Nat->GM):Prop:=∀{P:cS} {w:cg} {K:PySem.W.Frag} {mg:Str->ak aj} {base:bM} {t:A} (T:Tx K mg t) (q:Nat),de P w K mg base (ng P w) k (f t) (fd t) ps (ua K q p (M q))
def cK{A:Type}{Tx:PySem.W.Frag->(Str->ak aj)->A->Prop}{k p n:Nat}{f:A->ah}{fd:A->bV}{ps:List Str}{x qual:Str}{st:Stmt}{m:Nat->GS}(F:∀{K:PySem.W.Frag} {mg:Str->ak aj} {t:A},Tx K mg t->Fun K x qual st (f t) (fd t))(N:List Str)
  (hb:∀{P:cS} {w:cg} {K:PySem.W.Frag} {mg:Str->ak aj} {base:bM} {t:A} (T:Tx K mg t) (q:Nat) (fS:aj) (A:cD) (outer:List Env) (s:aq) (H:Hp) (E:XK),bY k (A.deeper (envOfC qual (q_ st) s.heap.objs.size (f t) fS))->(A.deeper (envOfC qual (q_ st) s.heap.objs.size (f t) fS)).units+41<cLine->iP (my (ng P w) P w K mg base N qual (q_ st) (f t) fS A outer s H E) (yr st) (tS K (WF E) q (m q)):=by intros;simp only[dv])
  (S:gZ N ps (q_ st):=by exact JY) (hp:ps.length=p:=by rfl) (hn:N.length=n:=by rfl):cH Tx (k+1) f fd ps p (a_ p n m):=λT q=>e0r (F T) S hp hn λfS A outer s H E hr=>hb T q fS A outer s H E hr (Zh hr)
end L2
namespace Carry
open PySem L2
def SB(f:ah)(H H':Hp):Prop:=∀b o,H b=some o->b≠f->H' b=some o
structure x9 where
 ns:List Int
 pl:Int
 DZ:Int
 mode:Int
 num:Int
def CQ(sl:ah)(F:x9):HO:=.lst [.ref sl,.int F.pl,.int F.DZ,.int F.mode,.int F.num]
structure FeedAt (H:Hp) (f sl:ah) (F:x9):Prop where
 fo:H f=some (CQ sl F)
 so:H sl=some (.lst (F.ns.map V.int))
 pos:0<=F.pl
 len:F.ns.length<=63
def cellOf(F:x9):Int:=if 0<F.ns.length then F.ns.getD (F.pl%F.ns.length).toNat 0+F.pl / F.ns.length*31 else F.pl
def i7(st k:Int):Str:=
 if st%4=3 then(if 7<k then Txt.mul "y" (k - 7) else Txt.slice "zbdgkafe" none (some (k+1)))
 else(([""  ,"ab","zzz"]:List Str).getD (st%4).toNat ""++kY (("dbgkafelcjhi":Str).cps.toList.getD k.toNat 0))++(["","ba","zz"]:List Str).getD (st / 4%3).toNat ""
theorem Sm:∀st:Nat,st<12->∀i:Nat,i<12->∀j:Nat,j<12->i7 st i=i7 st j->i=j:=by decide +kernel
theorem A0{x:Int}{n:Nat}(h0:0<=x)(h1:x<n):∃k:Nat,x=k/\k<n:=⟨x.toNat,by lia,by lia⟩
theorem Ie{st i j:Int}(hs:0<=st)(hs':st<12)(hi:0<=i)(y8:i<12)(hj:0<=j)(hj':j<12)(e:i7 st i=i7 st j):i=j:=by
 obtain⟨s,rfl,s1⟩:=A0 (n:=12) hs hs';obtain⟨a,rfl,a1⟩:=A0 (n:=12) hi y8;obtain⟨b,rfl,b1⟩:=A0 (n:=12) hj hj';rw[Sm s s1 a a1 b b1 e]
structure ao where
 name:Str
 long:Int
 ring:Bool
 outs:List Str
structure ay where
 ae:List ao
 carts:List Str
def xK(xs:List Str):List V:=xs.map V.str
def e2i(H:Hp)(v:V)(b:ao):Prop:=∃p o,v=.ref p/\H p=some (.tup [.str b.name,.int b.long,.bl b.ring,.ref o])/\H o=some (.lst (xK b.outs))
structure HouseAt (H:Hp) (p pb pc:ah) (refs:List V) (h:ay):Prop where
 top:H p=some (.tup [.ref pb,.ref pc])
 bl:H pb=some (.lst refs)
 ct:H pc=some (.lst (xK h.carts))
 each:Paired (e2i H) refs h.ae
def mG(xs:List Str)(k:Nat)(y:Str):List Str:=xs.take k++y::xs.drop k
theorem Fj(xs:List Str)(k:Nat)(y:Str):(mG xs k y).length=xs.length+1:=by
 unfold mG;rw[cP,jt,z6,Hg];lia
theorem kH{xs:List Str}{k:Nat}{y z:Str}:z∈mG xs k y↔z=y\/z∈xs:=by
 unfold mG;rw[cG,y04];constructor
 .rintro(h|h|h)
  .exact .inr (List.mem_of_mem_take h)
  .exact .inl h
  .exact .inr (List.mem_of_mem_drop h)
 .rintro(h|h)
  .exact .inr (.inl h)
  .rw[<-List.take_append_drop k xs,cG] at h;rcases h with h|h
   .exact .inl h
   .exact .inr (.inr h)
seal PE PA PT PS iP
noncomputable def top(i:Nat):Stmt:=PySem.Challenge.pw_carry_k93_whole_all_come_out.main.body.getD i (.Pass ⟨0,0,0,0⟩)
abbrev UZ:Stmt:=top 15
abbrev Sv:Stmt:=top 17
abbrev Sw:Stmt:=top 18
abbrev Sx:Stmt:=top 19
abbrev SX:Stmt:=top 20
abbrev SG:Stmt:=top 21
abbrev SH:Stmt:=top 22
abbrev SI:Stmt:=top 23
abbrev U0:Stmt:=top 24
abbrev U3:Stmt:=top 25
abbrev e6l:Stmt:=top 27
abbrev Wh:Stmt:=top 28
abbrev e6m:Stmt:=top 29
abbrev Wi:Stmt:=top 31
abbrev SJ:Stmt:=top 32
abbrev TL:Stmt:=top 33
abbrev e2j:Stmt:=top 34
abbrev Sj:Stmt:=top 35
abbrev R_:Stmt:=top 36
abbrev Sn:Stmt:=top 37
abbrev Wj:Stmt:=top 40
abbrev Sk:Stmt:=top 41
abbrev Wk:Stmt:=top 43
abbrev Wl:Stmt:=top 44
abbrev Wm:Stmt:=top 45
abbrev Wn:Stmt:=top 46
abbrev U4:Stmt:=top 47
abbrev Zi:Stmt:=top 48
abbrev TM:Stmt:=top 49
abbrev SK:Stmt:=top 50
abbrev e6n:Stmt:=top 51
abbrev Wo:Stmt:=kW (top 39) 0
abbrev TN:Stmt:=kW (top 39) 1
abbrev Zj:Stmt:=kW (top 39) 4
abbrev Wq:Stmt:=kW (top 39) 6
abbrev U5:Stmt:=kW (top 39) 7
abbrev Sd:Stmt:=kW (top 39) 8
abbrev So:Stmt:=kW (top 39) 9
abbrev Se:Stmt:=kW (top 39) 10
abbrev U6:Stmt:=kW (top 39) 11
abbrev TQ:Stmt:=kW (top 39) 12
abbrev TR:Stmt:=kW (top 39) 13
abbrev SY:Stmt:=kW (top 39) 15
abbrev Wr:Stmt:=kW (top 39) 16
abbrev Zk:Stmt:=kW (top 39) 17
abbrev U7:Stmt:=kW (top 39) 19
abbrev S6:Stmt:=kW (top 39) 20
abbrev S7:Stmt:=kW (top 39) 21
abbrev SM:Stmt:=kW (top 39) 22
abbrev Ws:Stmt:=kW (top 39) 23
abbrev S8:Stmt:=kW (top 39) 24
abbrev SO:Stmt:=kW (top 39) 25
noncomputable abbrev iR:List (Str×ah):=[("NoName",44),("NoSize",56),("NoOut",68),("NoHand",80),("NoMoment",92),("NoFlight",104),("NoBelt",116),("NoRoom",128),("NoBag",140)]
abbrev cHall:ah:=456
noncomputable abbrev atrs:List (ah×Str):=[(cHall,"built"),(cHall,"told_rounds"),(cHall,"now"),(cHall,"book"),(cHall,"halts"),(cHall,"places"),(cHall,"readings"),(cHall,"rounded"),(cHall,"gone"),(cHall,"carted")]
set_option genInjectivity false in
set_option genSizeOfSpec false in
structure bo where
 lR:ah
 lI:bV
 gh:ah
 gb:bV
 gf:ah
 f_:bV
 gd:ah
 fZ:bV
 jj:ah
 jb:bV
 ip:ah
 ia:bV
 il:ah
 h_:bV
 ig:ah
 hV:bV
 lT:ah
 lK:bV
 lM:ah
 lD:bV
 wK:ah
 wC:bV
 nW:ah
 nH:bV
 wJ:ah
 wB:bV
 n_:ah
 nU:bV
 ik:ah
 hZ:bV
 ko:ah
 ke:bV
 sC:ah
 sk:bV
 eM:ah
 eK:bV
 dR:ah
 dN:bV
 fD:ah
 fA:bV
 nX:ah
 nI:bV
 eL:ah
 eJ:bV
 n6:ah
 nP:bV
 n5:ah
 nO:bV
 n8:ah
 nQ:bV
 n9:ah
 nR:bV
 lS:ah
 lJ:bV
 p9:ah
 pX:bV
 km:ah
 kd:bV
 iu:ah
 ie:bV
 sy:ah
 sj:bV
 kg:ah
 j':bV
 kf:ah
 j_:bV
 p8:ah
 pW:bV
 n4:ah
 nN:bV
 lP:ah
 lF:bV
 dP:ah
 dH:bV
 fB:ah
 fy:bV
 dQ:ah
 dI:bV
 lO:ah
 lE:bV
 kj:ah
 kc:bV
 kh:ah
 ka:bV
 ji:ah
 ja:bV
 nY:ah
 nJ:bV
 p7:ah
 pV:bV
 lQ:ah
 lH:bV
 je:ah
 i8:bV
 jg:ah
 i9:bV
 iq:ah
 ib:bV
 nZ:ah
 nK:bV
 jh:ah
 i_:bV
 ir:ah
 ic:bV
structure Txt (K:PySem.W.Frag) (mg:Str->ak aj) (t:bo):Prop where
 qz:br K mg "is_name" UZ t.lR t.lI ["thing"]
 kS:br K mg "right_house" Sv t.gh t.gb ["house"]
 kR:br K mg "check_carts" Sw t.gf t.f_ ["carts","taken"]
 kQ:br K mg "check_belts" Sx t.gd t.fZ ["belts","taken"]
 nv:br K mg "take_name" SX t.jj t.jb ["name","taken"]
 l_:br K mg "check_outs" SG t.ip t.ia ["belts","carts"]
 l9:br K mg "check_hand" SH t.il t.h_ ["house"]
 l6:br K mg "belt_names" SI t.ig t.hV ["belts"]
 qB:br K mg "reached" U0 t.lT t.lK ["house","belt"]
 qv:br K mg "belt_of" U3 t.lM t.lD ["house","name"]
 BA:br K mg "far" e6l t.wK t.wC ["house","place","cart"]
 rJ:br K mg "begins" Wh t.nW t.nH ["house","cart"]
 Bz:br K mg "arm" e6m t.wJ t.wB ["house","belt","cart"]
 rV:br K mg "wanted" Wi t.n_ t.nU ["hall"]
 l7:br K mg "busy_belts" SJ t.ik t.hZ ["hall"]
 o4:br K mg "off_belt" TL t.ko t.ke ["house","belt","cart","busy"]
 x8:br K mg "turn" e2j t.sC t.sk ["hall"]
 jw:br K mg "stand_stopped" Sj t.eM t.eK ["bags","goals","stopped","whys"]
 iM:br K mg "stand_yielding" R_ t.dR t.dN ["bags","goals","whys"]
 jX:br K mg "stand_behind" Sn t.fD t.fA ["bags","goals","whys"]
 rK:br K mg "copied" Wj t.nX t.nI ["house"]
 jv:br K mg "check_closing" Sk t.eL t.eJ ["closing"]
 rQ:br K mg "_law_feed" Wk t.n6 t.nP ["_law_script"]
 rP:br K mg "_law_draw" Wl t.n5 t.nO ["_law_feed_here","_law_many"]
 rR:br K mg "_law_name" Wm t.n8 t.nQ ["_law_feed_here","_law_k"]
 rS:br K mg "_law_outs" Wn t.n9 t.nR ["_law_feed_here","_law_later","_law_carts"]
 qA:br K mg "_law_house" U4 t.lS t.lJ ["_law_feed_here"]
 uH:br K mg "_law_put" Zi t.p9 t.pX ["_law_feed_here","_law_hall","_law_house_here","_law_bag"]
 oZ:br K mg "_law_filled" TM t.km t.kd ["_law_feed_here","_law_house_here"]
 mi:br K mg "_law_one_turn" SK t.iu t.ie ["_law_hall","_law_carts"]
 rT:br K mg "law" e6n t.sy t.sj ["_law_script"]
 rM:Fun K "__init__" "Hall.__init__" Wo t.kg t.j'
 B_h_init:Binds K t.j' ["self","house","rounds"] []
 oW:MethAt K cHall "flight" "Hall.flight" TN t.kf t.j_ ["self","name","cart","closing"]
 uG:MethAt K cHall "put" "Hall.put" Zj t.p8 t.pW ["self","bag","flight","belt"]
 rO:MethAt K cHall "stop" "Hall.stop" Wq t.n4 t.nN ["self","belt"]
 qx:MethAt K cHall "start" "Hall.start" U5 t.lP t.lF ["self","belt"]
 iK:MethAt K cHall "check_flight" "Hall.check_flight" Sd t.dP t.dH ["self","name"]
 jW:MethAt K cHall "check_belt" "Hall.check_belt" So t.fB t.fy ["self","name"]
 iL:MethAt K cHall "check_inside" "Hall.check_inside" Se t.dQ t.dI ["self","bag"]
 qw:MethAt K cHall "house" "Hall.house" U6 t.lO t.lE ["self"]
 oY:MethAt K cHall "rounds" "Hall.rounds" TQ t.kj t.kc ["self"]
 oX:MethAt K cHall "moment" "Hall.moment" TR t.kh t.ka ["self"]
 nt:MethAt K cHall "stopped" "Hall.stopped" SY t.ji t.ja ["self"]
 rL:MethAt K cHall "bags" "Hall.bags" Wr t.nY t.nJ ["self"]
 uF:MethAt K cHall "out" "Hall.out" Zk t.p7 t.pV ["self"]
 qy:MethAt K cHall "where" "Hall.where" U7 t.lQ t.lH ["self","bag"]
 ni:MethAt K cHall "cart_of" "Hall.cart_of" S6 t.je t.i8 ["self","bag"]
 nj:MethAt K cHall "catches" "Hall.catches" S7 t.jg t.i9 ["self","bag"]
 mf:MethAt K cHall "in_order" "Hall.in_order" SM t.iq t.ib ["self"]
 rN:MethAt K cHall "move" "Hall.move" Ws t.nZ t.nK ["self","moves"]
 nq:MethAt K cHall "move_on" "Hall.move_on" S8 t.jh t.i_ ["self","bag","goal"]
 mh:MethAt K cHall "move_out" "Hall.move_out" SO t.ir t.ic ["self","bag","cart"]
 C_Hall:oU K cHall
 Mk_Hall:Mk K cHall t.kg
 mg_Hall:mg "Hall"=some (.ref cHall)
 atr:jU K atrs
 er:qu K mg iR 31
 b_len:mg "len"=none
 b_isinstance:mg "isinstance"=none
 b_int:mg "int"=none
 b_bool:mg "bool"=none
 b_str:mg "str"=none
 b_list:mg "list"=none
 b_tuple:mg "tuple"=none
 b_range:mg "range"=none
 b_enumerate:mg "enumerate"=none
 b_reversed:mg "reversed"=none
 b_all:mg "all"=none
 b_sorted:mg "sorted"=none
 b_dict:mg "dict"=none
 b_min:mg "min"=none
 b_sum:mg "sum"=none
 c_LETTERS:∃t,mg "LETTERS"=some (.str "abcdefghijklmnopqrstuvwxyz" t)
 c_MOST_LETTERS:∃t,mg "MOST_LETTERS"=some (.int 8 t)
def HX(n1:Nat):GE:=(cq k_ 0 (gC (.str "abcdefghijklmnopqrstuvwxyz")))
def E8(q:Nat):GS:=(sH (dw (eQ (cM (gO (o2 iW) (bT 0 (gC (.ty "str")))))) (aJ (gC (.bl false)))) (dw (eQ (gB (F9 GQ GQ (gI 1) (gO (o1 dg) (bq 0)) (gC (.int 8))))) (aJ (gC (.bl false)))) (aJ (gO (o1 (F0 Lk)) (bq (bZ q (bG false fE 0) 0 (λ_=>iH true) HX 1 [])))))
def o7:=a_ 1 1 E8
theorem d8x:cH Txt 1 bo.lR bo.lI ["thing"] 1 o7:=cK (λT=>T.qz.fn) ["thing"]
def MA(n1:Nat):GE:=(gX 0 (gI 0))
def ML(q:Nat):GS:=(du (aJ (bZ q (bG false fE 0) 0 (λ_=>iH true) MA 1 [])))
def ud:=a_ 1 1 ML
theorem c9d:cH Txt 1 bo.ig bo.hV ["belts"] 1 ud:=cK (λT=>T.l6.fn) ["belts"]
def Ao(n1:Nat):GS:=(du (dw (gQ qS (gX 2 (gI 0)) 1) (aJ (bK true (vg (gX 2 (gI 0)) (gX 2 (gI 1)) (gX 2 (gI 2)) (gO (o1 lV) (bq (gX 2 (gI 3)))))))))
def NK(q:Nat):GS:=(iS (bD q (bG true fE (gX 0 (gI 0))) 2 Ao) (aJ (gC .aG)))
def yo:=a_ 2 3 NK
theorem d8y:cH Txt 1 bo.lM bo.lD ["house","name"] 2 yo:=cK (λT=>T.qv.fn) ["house","name","belt"]
def Ig(n2:Nat):GT:=(gQ k_ 0 1)
def Ih(n2:Nat):GE:=(gX 1 0)
def As(n1:Nat):GS:=(iS (au 7 false (bZ n1 (bG false fE 6) 0 Ig Ih 1 [2])) (dw (cM 7) (bX n1 (cq cA 4 (gO (o1 (lC gH)) (bq 7))) 2 3)))
def Od(q:Nat):GS:=(sH (au 2 true (p_ (AM [(1,(gI 0))]))) (bD q (bG true zP (gX 0 (gI 0))) (aN [3,4,5,6]) As) (aJ 2))
def B8:=a_ 2 8 Od
theorem e2k:cH Txt 1 bo.nW bo.nH ["house","cart"] 2 B8:=cK (λT=>T.rJ.fn) ["house","cart","known","name","long","ring","outs","behind"]
def Ak(n1:Nat):GS:=(iS (au 8 false (gX 1 4)) (ky (gQ k_ (gX 6 (gI 0)) 2) (du (bX n1 (bK true (bT (gC (.str "stopped")) (gX 6 (gI 0)))) 3 4)) (du (dw (eP (cM (gO (o2 iW) (bT 8 (gC (.ty "tuple"))))) (gQ k_ (gX 8 (gI 0)) 2)) (bX n1 (bK true (bT (gC (.str "stopped")) (gX 8 (gI 0)))) 3 4)))))
def Mx(q:Nat):GS:=(du (bD q (bG true fE 0) (aN [4,5,6,7]) Ak))
def EG:=a_ 4 9 Mx
theorem c0w:cH Txt 1 bo.eM bo.eK ["bags","goals","stopped","whys"] 4 EG:=cK (λT=>T.jw.fn) ["bags","goals","stopped","whys","bag","flight","place","gone","goal"]
def HJ(n1:Nat):GT:=(eP (gQ iX (gX 0 (gI 0)) 1) (cM (gO (o2 iW) (bT (gX 2 (gX 0 (gI 0))) (gC (.ty "tuple"))))))
def HK(n1:Nat):GE:=0
def BH(n1:Nat):GS:=(iS (au 9 false (gX 1 5)) (dw (gG (gQ iX 9 4) (gQ qS (gX 7 (gI 0)) (gX 9 (gI 0)))) (bX n1 5 4 9)))
def BI(n1:Nat):GS:=(iS (au 10 false (gX 4 (gX 1 5))) (dw (gQ zI 10 5) (bX n1 (bK true (bT (gC (.str "yields")) 10)) 2 5)))
def Ms(q:Nat):GS:=(sJ (au 3 false (bZ q (bG false fE 0) 0 HJ HK 1 [2,1])) (au 4 true qF) (bD q (bG true fE 3) (aN [5,6,7,8]) BH) (bD q (bG true fE 3) (aN [5,6,7,8]) BI))
def EC:=a_ 3 11 Ms
theorem c0k:cH Txt 1 bo.dR bo.dN ["bags","goals","whys"] 3 EC:=cK (λT=>T.iM.fn) ["bags","goals","whys","asking","chosen","bag","flight","place","gone","goal","other"]
def BJ(n1:Nat):GS:=(du (bX n1 4 3 6))
def yh(n1:Nat):GS:=(iS (au 9 false (Cs "dict" (o2 og) 3 (bq (gX 1 4)))) (ky (eP (gQ iX 4 2) (gQ k_ 9 2)) (iS (bX n1 (bK true (bT (gC (.str "behind")) 9)) 2 4) (au 8 false (gC (.bl true)))) lU))
def ED(q:Nat):GS:=(iS (au 8 false (gC (.bl false))) (bD q (bG true fE 1) 4 yh))
def MB(q:Nat):GS:=(sJ (au 3 true qF) (bD q (bG true fE 0) (aN [4,5,6,7]) BJ) (au 8 false (gC (.bl true))) (cF (cM 8) (ED q) 1000))
def EL:=a_ 3 10 MB
theorem c4m:cH Txt 1 bo.fD bo.fA ["bags","goals","whys"] 3 EL:=cK (λT=>T.jX.fn) ["bags","goals","whys","holder","bag","flight","place","gone","grown","other"]
def My(q:Nat):GS:=(du (dw (gQ DM 0 (gI 0)) (oH 92 (gC (.str "a flight closes at a moment from 0 on")))))
def EH:=a_ 1 1 My
theorem c0x:cH Txt 1 bo.eL bo.eJ ["closing"] 1 EH:=cK (λT=>T.jv.fn) ["closing"]
def Oe(q:Nat):GS:=(iS (au 1 false (cq cA (yC 0 AX (AY (gI 2))) (bK false (bT (gI 0) (gI 0))))) (aJ (bK false (nB (yC 0 AX (AY (gI 120))) (vg (gI 0) (gI 0) (cq mq (gX 1 (gI 0)) (gI 2)) (gX 1 (gI 1)))))))
def B9:=a_ 1 2 Oe
theorem e2l:cH Txt 1 bo.n6 bo.nP ["_law_script"] 1 B9:=cK (λT=>T.rQ.fn) ["_law_script","_law_cells"]
def Fl(q:Nat):GS:=(et (ky (gQ qS (gX 0 (gI 3)) (gI 1)) (sH (au 2 false (cq mq (gX 0 (gI 4)) 1)) (bX q (cq sf (gX 0 (gI 4)) 1) 0 (gI 4)) (aJ 2)) lU) (rm (au 3 false (gX 0 (gI 1))) (bX q (cq cA 3 (gI 1)) 0 (gI 1)) (au 4 false 3) (dw (gQ DK (gO (o1 dg) (bq (gX 0 (gI 0)))) (gI 0)) (au 4 false (cq cA (gX (gX 0 (gI 0)) (cq mq 3 (gO (o1 dg) (bq (gX 0 (gI 0)))))) (cq nE (cq sf 3 (gO (o1 dg) (bq (gX 0 (gI 0))))) (gI 31))))) (aJ (cq mq (cq mq (cq nE (cq mq (cq cA (cq nE 4 (gI 48271)) (cq nE (gI 31) 3)) (gI 1000003)) (gI 69621)) (gI 999983)) 1))))
def jG:=a_ 2 5 Fl
theorem e2m:cH Txt 1 bo.n5 bo.nO ["_law_feed_here","_law_many"] 2 jG:=cK (λT=>T.rP.fn) ["_law_feed_here","_law_many","_law_found","_law_at","_law_cell"]
def Of(q:Nat):GS:=(iS (dw (gQ qS (cq mq (gX 0 (gI 2)) (gI 4)) (gI 3)) (aJ (gX (bK false (bT (yC (gC (.str "zbdgkafe")) AX (AY (cq cA 1 (gI 1)))) (cq nE (gC (.str "y")) (cq qG 1 (gI 7))))) (gO (o1 oh) (bq (cq DK 1 (gI 7))))))) (aJ (cq cA (cq cA (gX (bK false (pj (gC (.str "")) (gC (.str "ab")) (gC (.str "zzz")))) (cq mq (gX 0 (gI 2)) (gI 4))) (gX (gC (.str "dbgkafelcjhi")) 1)) (gX (bK false (pj (gC (.str "")) (gC (.str "ba")) (gC (.str "zz")))) (cq mq (cq sf (gX 0 (gI 2)) (gI 4)) (gI 3))))))
def Az:=a_ 2 2 Of
theorem e2n:cH Txt 1 bo.n8 bo.nQ ["_law_feed_here","_law_k"] 2 Az:=cK (λT=>T.rR.fn) ["_law_feed_here","_law_k"]
def Nc(q:Nat):GS:=(du (aJ (bu atrs "told_rounds" 0)))
def BU:=a_ 1 1 Nc
theorem d6m:cH Txt 1 bo.kj bo.kc ["self"] 1 BU:=cK (λT=>T.oY.fn) ["self"]
def Nd(q:Nat):GS:=(du (aJ (bu atrs "now" 0)))
def E2:=a_ 1 1 Nd
theorem d6n:cH Txt 1 bo.kh bo.ka ["self"] 1 E2:=cK (λT=>T.oX.fn) ["self"]
def Pc(q:Nat):GS:=(du (aJ (gO (o1 lV) (bq (bu atrs "gone" 0)))))
def AN:=a_ 1 1 Pc
theorem e5m:cH Txt 1 bo.p7 bo.pV ["self"] 1 AN:=cK (λT=>T.uF.fn) ["self"]
def MM(q:Nat):GS:=(rm (dF (fT q "dict" kF (bu atrs "places" 0) (bq 1))) (dF (fT q "dict" kF (bu atrs "readings" 0) (bq 1))) (dF (fT q "dict" kF (bu atrs "rounded" 0) (bq 1))) (bX q 2 (bu atrs "carted" 0) 1) (dF (fT q "list" uR (bu atrs "gone" 0) (bq (bK true (pj 1 2 (bu atrs "now" 0)))))))
def BM:=a_ 3 3 MM
theorem c9e:cH Txt 1 bo.ir bo.ic ["self","bag","cart"] 3 BM:=cK (λT=>T.mh.fn) ["self","bag","cart"]
def MX(q:Nat):GS:=(iS (dw (gG (eQ (cM (aE (o7 q) (bq 0)))) (gQ k_ 0 1)) (oH 44 (gC (.str "a belt or a cart has no name, or one that is taken")))) (bX q (gC (.bl true)) 1 0))
def Ap:=a_ 2 2 MX
theorem d1z:cH Txt 2 bo.jj bo.jb ["name","taken"] 2 Ap:=cK (λT=>T.nv.fn) ["name","taken"]
def BL(n2:Nat):GS:=(iS (dw (gQ iX 7 6) (oH 68 (yw (m6 (gC (.str "belt ")) (m6 (gO (o1 mC) (bq 4)) (m6 (gC (.str " has an out that is no cart, no belt behind it, or there twice")) ku)))))) (dF (fT n2 "list" FJ 6 (bq 7))))
def EM(n1:Nat):GS:=(rm (au 4 false (gX 3 (gI 0))) (au 5 false (CS (cM (gO (o2 iW) (bT (gX 3 (gI 3)) (gC (.ty "list"))))) (gX 3 (gI 3)) (bK false gN))) (au 6 true (cq cA (aE (ud n1) (bq (yC 0 (AY (cq cA 2 (gI 1))) AX))) 1)) (bD n1 (bG true fE 5) 7 BL) (dw (eQ (cM 5)) (oH 68 (yw (m6 (gC (.str "belt ")) (m6 (gO (o1 mC) (bq 4)) (m6 (gC (.str " has no outs")) ku)))))))
def MN(q:Nat):GS:=(du (bD q (bG true JQ 0) (aN [2,3]) EM))
def ES:=a_ 2 8 MN
theorem c9f:cH Txt 2 bo.ip bo.ia ["belts","carts"] 2 ES:=cK (λT=>T.l_.fn) ["belts","carts","k","belt","name","outs","left","out"]
def BP(n2:Nat):GS:=(du (bX n2 (gC (.bl true)) 2 7))
def Aq(n1:Nat):GS:=(du (dw (gG (gQ qS 3 1) (gQ k_ 3 2)) (bD n1 (bG true fE 6) 7 BP)))
def HY(n1:Nat):GT:=(gQ k_ 0 1)
def HZ(n1:Nat):GE:=0
def NL(q:Nat):GS:=(sH (au 2 true qF) (bD q (bG true fE (gX 0 (gI 0))) (aN [3,4,5,6]) Aq) (aJ (bZ q (bG false fE (cq cA (aE (ud q) (bq (gX 0 (gI 0)))) (gX 0 (gI 1)))) 0 HY HZ 1 [2])))
def E9:=a_ 2 8 NL
theorem d8z:cH Txt 2 bo.lT bo.lK ["house","belt"] 2 E9:=cK (λT=>T.qB.fn) ["house","belt","found","name","long","ring","outs","out"]
def QN(q:Nat):GS:=(sH (au 3 false (aE (B8 q) (bT 0 2))) (dw (gQ iX (gX 1 (gI 0)) 3) (aJ (gC .aG))) (aJ (cq qG (gX 3 (gX 1 (gI 0))) (gX 1 (gI 1)))))
def Gf:=a_ 3 4 QN
theorem e7e:cH Txt 2 bo.wK bo.wC ["house","place","cart"] 3 Gf:=cK (λT=>T.BA.fn) ["house","place","cart","known"]
def Cj(n1:Nat):GS:=(du (dw (eP (gQ k_ 5 3) (gG (gQ G2 4 (gC .aG)) (gQ DM (gX 3 5) (gX 3 4)))) (au 4 false 5)))
def QO(q:Nat):GS:=(sJ (au 3 false (aE (B8 q) (bT 0 2))) (au 4 false (gC .aG)) (bD q (bG true fE (gX (aE (yo q) (bT 0 1)) (gI 3))) 5 Cj) (aJ 4))
def Gg:=a_ 3 6 QO
theorem e7f:cH Txt 2 bo.wJ bo.wB ["house","belt","cart"] 3 Gg:=cK (λT=>T.Bz.fn) ["house","belt","cart","known","best","out"]
def Ii(n1:Nat):GE:=(aE (yo n1) (bT 1 0))
def Og(q:Nat):GS:=(iS (au 1 false (bZ q (bG false fE (aE (ud q) (bq (gX 0 (gI 0))))) 0 (λ_=>iH true) Ii 1 [0])) (aJ (bK true (bT 1 (gO (o1 lV) (bq (gX 0 (gI 1))))))))
def B_:=a_ 1 2 Og
theorem e2q:cH Txt 2 bo.nX bo.nI ["house"] 1 B_:=cK (λT=>T.rK.fn) ["house","belts"]
def wd(n1:Nat):GS:=(iS (au 5 false (gX (cq cA 1 2) (aE (jG n1) (bT 0 (cq cA (gO (o1 dg) (bq 1)) (gO (o1 dg) (bq 2))))))) (dw (gQ iX 5 3) (dF (fT n1 "list" AL 3 (bT (aE (jG n1) (bT 0 (cq cA (gO (o1 dg) (bq 3)) (gI 1)))) 5)))))
def Ij(n1:Nat):GT:=(gQ k_ 0 1)
def Ik(n1:Nat):GE:=0
def Fm(q:Nat):GS:=(sJ (au 3 true (bK false gN)) (bD q (jy mS (bq (cq cA (gI 1) (aE (jG q) (bT 0 (gI 3)))))) 4 wd) (dw (eP (gQ iX (gX 2 (gI 0)) 3) (gQ qS (gO (o1 dg) (bq (bZ q (bG false fE 3) 0 Ij Ik 1 [1]))) (gI 0))) (dF (fT q "list" AL 3 (bT (aE (jG q) (bT 0 (cq cA (gO (o1 dg) (bq 3)) (gI 1)))) (gX 2 (gI 0)))))) (aJ 3))
def ue:=a_ 3 6 Fm
theorem e2r:cH Txt 2 bo.n9 bo.nR ["_law_feed_here","_law_later","_law_carts"] 3 ue:=cK (λT=>T.rS.fn) ["_law_feed_here","_law_later","_law_carts","_law_outs_here","_law_t","_law_out"]
def Nf(q:Nat):GS:=(sJ (dw (gG (eQ (cM (aE (o7 q) (bq 1)))) (gQ k_ 1 (bu atrs "book" 0))) (oH 44 (gC (.str "a flight has no name, or one that another flight has")))) (dw (gQ iX 2 (yC (gX (bu atrs "built" 0) (gI 1)) (AY (gI 1)) AX)) (oH 68 (gC (.str "a flight's cart is none of the house, or the hand")))) (dF (aE (EH q) (bq 3))) (bX q (bK true (pj 1 2 3)) (bu atrs "book" 0) 1))
def BV:=a_ 4 4 Nf
theorem d6o:cH Txt 2 bo.kf bo.j_ ["self","name","cart","closing"] 4 BV:=cK (λT=>T.oW.fn) ["self","name","cart","closing"]
def Mt(q:Nat):GS:=(du (dw (gG (eQ (cM (aE (o7 q) (bq 1)))) (gQ iX 1 (bu atrs "book" 0))) (oH 104 (gC (.str "no flight is called so")))))
def EE:=a_ 2 2 Mt
theorem c0l:cH Txt 2 bo.dP bo.dH ["self","name"] 2 EE:=cK (λT=>T.iK.fn) ["self","name"]
def MC(q:Nat):GS:=(du (dw (gQ iX 1 (aE (ud q) (bq (gX (bu atrs "built" 0) (gI 0))))) (oH 116 (gC (.str "no belt is called so")))))
def Al:=a_ 2 2 MC
theorem c4o:cH Txt 2 bo.fB bo.fy ["self","name"] 2 Al:=cK (λT=>T.jW.fn) ["self","name"]
def Mu(q:Nat):GS:=(du (dw (gG (eQ (cM (aE (o7 q) (bq 1)))) (gQ iX 1 (bu atrs "places" 0))) (oH 140 (gC (.str "no bag in the house is called so")))))
def BK:=a_ 2 2 Mu
theorem c0m:cH Txt 2 bo.dQ bo.dI ["self","bag"] 2 BK:=cK (λT=>T.iL.fn) ["self","bag"]
def HS(n1:Nat):GT:=(gQ k_ 0 (bu atrs "halts" 1))
def HU(n1:Nat):GE:=0
def MY(q:Nat):GS:=(du (aJ (bZ q (bG false fE (aE (ud q) (bq (gX (bu atrs "built" 0) (gI 0))))) 0 HS HU 1 [0])))
def BQ:=a_ 1 1 MY
theorem d2a:cH Txt 2 bo.ji bo.ja ["self"] 1 BQ:=cK (λT=>T.nt.fn) ["self"]
def HM(n1:Nat):GE:=(bK true (pj (Cs "list" (o2 iU) 2 (bq (gX 1 (gI 0)))) (gX 1 (gI 1)) 0))
def HN(n1:Nat):GE:=(gX 0 (gI 2))
def HV(q:Nat):GS:=(sH (au 1 false (aE (ud q) (bq (gX (bu atrs "built" 0) (gI 0))))) (au 2 false (bZ q (bG false vt (bu atrs "places" 0)) (aN [0,1]) (λ_=>iH true) HM 2 [1])) (aJ (bZ q (bG false fE (gO (o1 ql) (bq 2))) 0 (λ_=>iH true) HN 1 [])))
def BN:=a_ 1 3 HV
theorem c9i:cH Txt 2 bo.iq bo.ib ["self"] 1 BN:=cK (λT=>T.mf.fn) ["self","ranks","spots"]
def H0(q:Nat):GS:=(sJ (au 3 false (gX (bu atrs "places" 0) 1)) (au 4 false (aE (yo q) (bT (bu atrs "built" 0) (gX 3 (gI 0))))) (dw (eP (cM (gX 4 (gI 2))) (eP (gQ qS 3 (bK true (bT (gX 4 (gI 0)) (cq qG (gX 4 (gI 1)) (gI 1))))) (gQ qS 2 (bK true (bT (gX 4 (gI 0)) (gI 0)))))) (Ju q Dm (bu atrs "rounded" 0) 1 (gI 1))) (bX q 2 (bu atrs "places" 0) 1))
def wb:=a_ 3 5 H0
theorem d2b:cH Txt 2 bo.jh bo.i_ ["self","bag","goal"] 3 wb:=cK (λT=>T.nq.fn) ["self","bag","goal","was","belt"]
def EI(n1:Nat):GS:=(du (dF (aE (Ap n1) (bT 2 1))))
def MF(q:Nat):GS:=(iS (bD q (bG true fE 0) 2 EI) (dw (eQ (cM 0)) (oH 80 (gC (.str "a house has a cart at least, the hand")))))
def EN:=a_ 2 3 MF
theorem c6l:cH Txt 3 bo.gf bo.f_ ["carts","taken"] 2 EN:=cK (λT=>T.kR.fn) ["carts","taken","cart"]
def EJ(n1:Nat):GS:=(sH (dF (aE (Ap n1) (bT 2 1))) (au 6 false (CS (cM 4) (gI 2) (gI 1))) (dw (gQ DM 3 6) (oH 56 (yw (m6 (gC (.str "belt ")) (m6 (gO (o1 mC) (bq 2)) (m6 (gC (.str " has fewer than ")) (m6 (gO (o1 mC) (bq 6)) (m6 (gC (.str " cells")) ku)))))))))
def MG(q:Nat):GS:=(du (bD q (bG true fE 0) (aN [2,3,4,5]) EJ))
def EO:=a_ 2 7 MG
theorem c6m:cH Txt 3 bo.gd bo.fZ ["belts","taken"] 2 EO:=cK (λT=>T.kQ.fn) ["belts","taken","name","long","ring","outs","least"]
def HP(n1:Nat):GS:=(du (dw (gQ iX 1 (aE (E9 n1) (bT 0 2))) (oH 80 (yw (m6 (gC (.str "the hand can not be come to from belt ")) (m6 (gO (o1 mC) (bq 2)) ku))))))
def MO(q:Nat):GS:=(iS (au 1 false (gX (gX 0 (gI 1)) (gI 0))) (bD q (bG true fE (aE (ud q) (bq (gX 0 (gI 0))))) 2 HP))
def ET:=a_ 1 3 MO
theorem c9j:cH Txt 3 bo.il bo.h_ ["house"] 1 ET:=cK (λT=>T.l9.fn) ["house","hand","name"]
def BW(q:Nat):GS:=(sJ (au 4 false (aE (Gg q) (pj 0 (gX 1 (gI 0)) 2))) (dw (gQ k_ 4 (gX 0 (gI 1))) (aJ 4)) (dw (eP (cM (gX 1 (gI 2))) (gQ k_ 4 3)) (aJ (bK true (bT (gX 1 (gI 0)) (gI 0))))) (aJ (bK true (bT 4 (gI 0)))))
def q9:=a_ 4 5 BW
theorem d6p:cH Txt 3 bo.ko bo.ke ["house","belt","cart","busy"] 4 q9:=cK (λT=>T.o4.fn) ["house","belt","cart","busy","out"]
def EY(n1:Nat):GE:=(aE (Az n1) (bT 1 (cq qG (gI 11) 0)))
def H9(n2:Nat):GE:=(gX 0 (gI 0))
def Ar(n1:Nat):GS:=(sJ (au 5 false (cq qS (aE (jG n1) (bT 0 (gI 3))) (gI 0))) (au 6 false (cq cA (cq cA (gI 1) (gO (o1 oh) (bq 5))) (aE (jG n1) (bT 0 (gI 3))))) (au 7 false (aE (ue n1) (pj 0 (bZ n1 (bG false fE 3) 0 (λ_=>iH true) H9 1 []) 2))) (dF (fT n1 "list" AL 3 (bT (gI 0) (bK true (vg (aE (Az n1) (bT 0 4)) 6 5 7))))))
def NM(q:Nat):GS:=(rm (au 1 false (cq cA (gI 1) (aE (jG q) (bT 0 (gI 4))))) (au 2 false (bZ q (jy mS (bq (cq cA (gI 1) (aE (jG q) (bT 0 (gI 3)))))) 0 (λ_=>iH true) EY 1 [0])) (au 3 true (bK false gN)) (bD q (jy vG (pj (cq qG 1 (gI 1)) (gO (o1 s_) (bq (gI 1))) (gO (o1 s_) (bq (gI 1))))) 4 Ar) (aJ (bK true (bT 3 2))))
def Ax:=a_ 1 8 NM
theorem d9a:cH Txt 3 bo.lS bo.lJ ["_law_feed_here"] 1 Ax:=cK (λT=>T.qA.fn) ["_law_feed_here","_law_many","_law_carts","_law_belts","_law_k","_law_ring","_law_long","_law_outs_here"]
def AO(q:Nat):GS:=(et (dw (gG (eQ (cM (aE (o7 q) (bq 1)))) (gG (gQ k_ 1 (bu atrs "places" 0)) (gQ k_ 1 (bu atrs "carted" 0)))) (oH 44 (gC (.str "a bag has no name, or one that a bag of this hall has or had")))) (et (dw (gQ DL 2 (gC .aG)) (dF (bh cHall "check_flight" (EE q) 0 (bq 2)))) (et (dF (bh cHall "check_belt" (Al q) 0 (bq 3))) (rm (au 4 false (bK true (bT 3 (gI 0)))) (dw (gQ k_ 4 (gO (o1 qo) (bq (bu atrs "places" 0)))) (oH 128 (yw (m6 (gC (.str "cell 0 of belt ")) (m6 (gO (o1 mC) (bq 3)) (m6 (gC (.str " has a bag")) ku)))))) (bX q 4 (bu atrs "places" 0) 1) (bX q 2 (bu atrs "readings" 0) 1) (bX q (gI 0) (bu atrs "rounded" 0) 1)))))
def uf:=a_ 4 5 AO
theorem e5n:cH Txt 3 bo.p8 bo.pW ["self","bag","flight","belt"] 4 uf:=cK (λT=>T.uG.fn) ["self","bag","flight","belt","place"]
def Oh(q:Nat):GS:=(iS (dF (bh cHall "check_belt" (Al q) 0 (bq 1))) (bX q (gC (.bl true)) (bu atrs "halts" 0) 1))
def AA:=a_ 2 2 Oh
theorem e2s:cH Txt 3 bo.n4 bo.nN ["self","belt"] 2 AA:=cK (λT=>T.rO.fn) ["self","belt"]
def NN(q:Nat):GS:=(iS (dF (bh cHall "check_belt" (Al q) 0 (bq 1))) (dw (gQ k_ 1 (bu atrs "halts" 0)) (dF (fT q "dict" kF (bu atrs "halts" 0) (bq 1)))))
def B1:=a_ 2 2 NN
theorem d9b:cH Txt 3 bo.lP bo.lF ["self","belt"] 2 B1:=cK (λT=>T.qx.fn) ["self","belt"]
def NO(q:Nat):GS:=(du (aJ (aE (B_ q) (bq (bu atrs "built" 0)))))
def E_:=a_ 1 1 NO
theorem d9c:cH Txt 3 bo.lO bo.lE ["self"] 1 E_:=cK (λT=>T.qw.fn) ["self"]
def Il(n1:Nat):GE:=(bK true (vg 0 (gX (bu atrs "readings" 1) 0) (gX (bu atrs "places" 1) 0) (gX (bu atrs "rounded" 1) 0)))
def Oi(q:Nat):GS:=(du (aJ (bZ q (bG false fE (bh cHall "in_order" (BN q) 0 gN)) 0 (λ_=>iH true) Il 1 [0])))
def qE:=a_ 1 1 Oi
theorem e2t:cH Txt 3 bo.nY bo.nJ ["self"] 1 qE:=cK (λT=>T.rL.fn) ["self"]
def IC(q:Nat):GS:=(sH (dw (eP (cM (aE (o7 q) (bq 1))) (gQ k_ 1 (bu atrs "carted" 0))) (aJ (gX (bu atrs "carted" 0) 1))) (dF (bh cHall "check_inside" (BK q) 0 (bq 1))) (aJ (gX (bu atrs "places" 0) 1)))
def r_:=a_ 2 2 IC
theorem d9d:cH Txt 3 bo.lQ bo.lH ["self","bag"] 2 r_:=cK (λT=>T.qy.fn) ["self","bag"]
def MZ(q:Nat):GS:=(sJ (dw (gQ G2 (gX (bu atrs "readings" 0) 1) (gC .aG)) (aJ (gC (.bl false)))) (au 2 false (gX (bu atrs "book" 0) (gX (bu atrs "readings" 0) 1))) (au 3 false (aE (Gf q) (pj (bu atrs "built" 0) (gX (bu atrs "places" 0) 1) (gX 2 (gI 1))))) (aJ (yY (cq DL 3 (gC .aG)) (cq qLe (cq cA (bu atrs "now" 0) 3) (gX 2 (gI 2))))))
def EZ:=a_ 2 4 MZ
theorem d2c:cH Txt 3 bo.jg bo.i9 ["self","bag"] 2 EZ:=cK (λT=>T.nj.fn) ["self","bag","flight","needed"]
def ym(n1:Nat):GS:=(du (ky (cM (gO (o2 iW) (bT 3 (gC (.ty "tuple"))))) (du (dF (bh cHall "move_on" (wb n1) 0 (bT 2 3)))) (du (dF (bh cHall "move_out" (BM n1) 0 (bT 2 3))))))
def Oj(q:Nat):GS:=(iS (Jt q Dm atrs "now" 0 (gI 1)) (bD q (bG true fE 1) (aN [2,3]) ym))
def Fo:=a_ 2 4 Oj
theorem e2u:cH Txt 3 bo.nZ bo.nK ["self","moves"] 2 Fo:=cK (λT=>T.rN.fn) ["self","moves","bag","goal"]
def MH(q:Nat):GS:=(et (au 1 false (gX 0 (gI 0))) (et (au 2 false (gX 0 (gI 1))) (et (au 3 true qF) (rm (dF (aE (EN q) (bT 2 3))) (dF (aE (EO q) (bT 1 3))) (dF (aE (ES q) (bT 1 2))) (dF (aE (ET q) (bq 0))) (aJ (gC (.bl true)))))))
def ER:=a_ 1 4 MH
theorem c6n:cH Txt 4 bo.gh bo.gb ["house"] 1 ER:=cK (λT=>T.kS.fn) ["house","belts","carts","taken"]
def HQ(n1:Nat):GT:=(gQ qS (gX (gX 0 (gI 2)) (gI 1)) (gI 0))
def HR(n1:Nat):GE:=(gX (gX 0 (gI 2)) (gI 0))
def MP(q:Nat):GS:=(du (aJ (cq cA (bh cHall "stopped" (BQ q) 0 gN) (bZ q (bG false fE (bh cHall "bags" (qE q) 0 gN)) 0 HQ HR 1 []))))
def EU:=a_ 1 1 MP
theorem c9k:cH Txt 4 bo.ik bo.hZ ["hall"] 1 EU:=cK (λT=>T.l7.fn) ["hall"]
def Je(q:Nat):GS:=(rm (au 4 false (gX (bK false (pj (gC (.str "aa")) (gC (.str "bb")) (gC .aG))) (aE (jG q) (bT 0 (gI 3))))) (au 5 false (gX (gX (gX 2 (gI 0)) (aE (jG q) (bT 0 (gO (o1 dg) (bq (gX 2 (gI 0))))))) (gI 0))) (au 6 false (gC (.bl true))) (sL (du (dF (bh cHall "put" (uf q) 1 (pj 3 4 5)))) [(wT iR,(du (au 6 false (gC (.bl false)))))]) (aJ 6))
def wk:=a_ 4 7 Je
theorem e5o:cH Txt 4 bo.p9 bo.pX ["_law_feed_here","_law_hall","_law_house_here","_law_bag"] 4 wk:=cK (λT=>T.uH.fn) ["_law_feed_here","_law_hall","_law_house_here","_law_bag","_law_flight","_law_belt","_law_done"]
def M3(q:Nat):GS:=(sH (dF (bh cHall "check_inside" (BK q) 0 (bq 1))) (dw (cM (bh cHall "catches" (EZ q) 0 (bq 1))) (aJ (gX (gX (bu atrs "book" 0) (gX (bu atrs "readings" 0) 1)) (gI 1)))) (aJ (gX (gX (bu atrs "built" 0) (gI 1)) (gI 0))))
def E0:=a_ 2 2 M3
theorem d2d:cH Txt 4 bo.je bo.i8 ["self","bag"] 2 E0:=cK (λT=>T.ni.fn) ["self","bag"]
def uO(n1:Nat):GS:=(sH (au 8 false (aE (yo n1) (bT 1 (gX 6 (gI 0))))) (ky (gQ DM (cq cA (gX 6 (gI 1)) (gI 1)) (gX 8 (gI 1))) (du (au 9 false (bK true (bT (gX 6 (gI 0)) (cq cA (gX 6 (gI 1)) (gI 1)))))) (du (ky (eP (cM (gX 8 (gI 2))) (eP (gQ G2 5 (gC .aG)) (gQ DM 7 (bh cHall "rounds" (BU n1) 0 gN)))) (du (au 9 false (bK true (bT (gX 6 (gI 0)) (gI 0))))) (du (au 9 false (aE (q9 n1) (vg 1 8 (bh cHall "cart_of" (E0 n1) 0 (bq 4)) 2))))))) (dF (fT n1 "list" uR 3 (bq (bK true (bT 4 9))))))
def Ol(q:Nat):GS:=(rm (au 1 false (bh cHall "house" (E_ q) 0 gN)) (au 2 false (aE (EU q) (bq 0))) (au 3 true (bK false gN)) (bD q (bG true fE (bh cHall "bags" (qE q) 0 gN)) (aN [4,5,6,7]) uO) (aJ 3))
def Fp:=a_ 1 10 Ol
theorem e2v:cH Txt 5 bo.n_ bo.nU ["hall"] 1 Fp:=cK (λT=>T.rV.fn) ["hall","house","busy","told","bag","flight","place","gone","belt","goal"]
def Om(q:Nat):GS:=(et (dF (aE (ER q) (bq 1))) (et (eO q atrs "built" (aE (B_ q) (bq 1)) 0) (et (eO q atrs "told_rounds" 2 0) (et (eO q atrs "now" (gI 0) 0) (et (eO q atrs "book" (jk qF) 0) (et (eO q atrs "halts" (jk qF) 0) (rm (eO q atrs "places" (jk qF) 0) (eO q atrs "readings" (jk qF) 0) (eO q atrs "rounded" (jk qF) 0) (eO q atrs "gone" (jk (bK false gN)) 0) (eO q atrs "carted" (jk qF) 0))))))))
def B':=a_ 3 3 Om
theorem e2w:cH Txt 5 bo.kg bo.j' ["self","house","rounds"] 3 B':=cK (λT=>T.rM) ["self","house","rounds"]
def Ca(n1:Nat):GS:=(du (ky (gQ k_ 6 3) (du (dF (fT n1 "list" uR 4 (bq (bK true (vg 6 8 8 (gX 3 6))))))) (iS (dF (fT n1 "list" uR 4 (bq (bK true (vg 6 8 (gX 2 6) (gC .aG)))))) (dF (fT n1 "list" uR 5 (bq (bK true (bT 6 (gX 2 6)))))))))
def Qo(q:Nat):GS:=(et (au 1 false (bh cHall "bags" (qE q) 0 gN)) (et (au 2 false (gO (o1 pY) (bq (aE (Fp q) (bq 0))))) (et (au 3 true qF) (et (dF (aE (EG q) (vg 1 2 (bh cHall "stopped" (BQ q) 0 gN) 3))) (et (dF (aE (EC q) (pj 1 2 3))) (et (dF (aE (EL q) (pj 1 2 3))) (rm (au 4 true (bK false gN)) (au 5 true (bK false gN)) (bD q (bG true fE 1) (aN [6,7,8,9]) Ca) (dF (bh cHall "move" (Fo q) 0 (bq 5))) (aJ 4))))))))
def yD:=a_ 1 10 Qo
theorem e6o:cH Txt 6 bo.sC bo.sk ["hall"] 1 yD:=cK (λT=>T.x8.fn) ["hall","bags","goals","whys","log","moves","bag","flight","place","gone"]
def uM(n1:Nat):GS:=(du (ky (gQ DK (gO (o1 dg) (bq (gX 1 (gI 1)))) (gI 1)) (iS (au 5 false (gX (gX 1 (gI 1)) (cq cA (gI 1) (aE (jG n1) (bT 0 (cq qG (gO (o1 dg) (bq (gX 1 (gI 1)))) (gI 1))))))) (dF (bh cHall "flight" (BV n1) 2 (pj (gX (bK false (bT (gC (.str "bb")) (gC (.str "aa")))) 4) 5 (aE (jG n1) (bT 0 (gI 30))))))) lU))
def BO(n2:Nat):GS:=(du (dF (aE (yD n2) (bq 2))))
def yj(n1:Nat):GS:=(iS (dw (cM (aE (wk n1) (vg 0 2 1 (gX (gC (.str "dcab")) 4)))) (dF (fT n1 "list" uR 7 (bq (gX (gC (.str "dcab")) 4))))) (bD n1 (jy mS (bq (aE (jG n1) (bT 0 (gI 3))))) 8 BO))
def Im(q:Nat):GS:=(sJ (au 7 true (bK false gN)) (bD q (jy mS (bq (cq cA (gI 1) (aE (jG q) (bT 0 (gI 4)))))) 4 yj) (dF (bh cHall "start" (B1 q) 2 (bq 6))) (aJ (bK true (bT 2 7))))
def Io(rest:GS)(q:Nat):GS:=(et (au 2 false (sF cHall (B' q) (bT 1 (aE (jG q) (bT 0 (gI 3)))))) (et (au 3 false (aE (jG q) (bT 0 (gI 3)))) (et (bD q (jy mS (bq 3)) 4 uM) (et (au 6 false (gX (gX (gX 1 (gI 0)) (aE (jG q) (bT 0 (gO (o1 dg) (bq (gX 1 (gI 0))))))) (gI 0))) (et (dw (gQ qS (aE (jG q) (bT 0 (gI 4))) (gI 3)) (dF (bh cHall "stop" (AA q) 2 (bq 6)))) rest)))))
def Ip(q:Nat):GS:=(Io (Im q) q)
def Au:=a_ 2 9 Ip
theorem d6q:cH Txt 7 bo.km bo.kd ["_law_feed_here","_law_house_here"] 2 Au:=cK (λT=>T.oZ.fn) ["_law_feed_here","_law_house_here","_law_hall","_law_flights","_law_k","_law_cart","_law_belt","_law_put_here","_law_t"]
def Am(n1:Nat):GS:=(du (bX n1 (gX 3 (gI 2)) 2 (gX 3 (gI 0))))
def wa(n1:Nat):GS:=(iS (dw (gG (gQ zI (Cs "dict" (o2 og) 2 (bq 6)) 7) (gQ zI (bh cHall "where" (r_ n1) 0 (bq 6)) 8)) (aJ (gC (.bl false)))) (ky (gQ G2 9 (gC .aG)) (du (au 5 false (cq cA 5 (gI 1)))) (du (dw (gG (gQ zI 7 8) (gQ k_ 8 1)) (aJ (gC (.bl false)))))))
def MQ(q:Nat):GS:=(et (au 2 true qF) (rm (bD q (bG true fE (bh cHall "bags" (qE q) 0 gN)) 3 Am) (au 4 false (aE (yD q) (bq 0))) (au 5 false (gI 0)) (bD q (bG true fE 4) (aN [6,7,8,9]) wa) (aJ (yY (cq qS (gO (o1 dg) (bq 4)) (gO (o1 dg) (bq 2))) (Q0 (cq DK 5 (gI 0)) (cq qS (gO (o1 dg) (bq 2)) (gI 0)))))))
def An:=a_ 2 10 MQ
theorem c9l:cH Txt 7 bo.iu bo.ie ["_law_hall","_law_carts"] 2 An:=cK (λT=>T.mi.fn) ["_law_hall","_law_carts","_law_ahead","_law_row","_law_log","_law_moved","_law_bag","_law_was","_law_there","_law_why"]
noncomputable def jK (n1:Nat):GE:=(gX 0 (gI 1))
noncomputable def eD (n1:Nat):GS:=(du (dw (gQ DK (gO (o1 dg) (bq (bh cHall "bags" (qE n1) 4 gN))) (gI 0)) (dw (eQ (cM (aE (An n1) (bT 4 (gX 2 (gI 1)))))) (aJ (gC (.bl false))))))
noncomputable def jL (n1:Nat):GE:=(gX 0 (gI 0))
noncomputable def fK (n1:Nat):GS:=(du (dw (gG (gQ zI (bh cHall "where" (r_ n1) 4 (bq 9)) 10) (gG (gQ iX 10 (gX 2 (gI 1))) (eQ (gB (F9 Rr GQ (gI 0) 11 (bh cHall "moment" (E2 n1) 4 gN)))))) (aJ (gC (.bl false)))))
noncomputable def tM (q:Nat):GS:=(et (au 4 false (gX 3 (gI 0))) (et (au 5 false (gO (o1 (lC tP)) (bq (bZ q (bG false fE (gX 2 (gI 0))) 0 (λ_=>iH true) jK 1 [])))) (et (au 6 false (gO (o1 dg) (bq (gX 3 (gI 1))))) (rm (au 7 false (cq nE (cq nE 6 (gO (o1 dg) (bq (gX 2 (gI 0))))) (cq cA (cq nE (cq cA (bh cHall "rounds" (BU q) 4 gN) (gI 2)) 5) 6))) (bD q (jy mS (bq 7)) 8 eD) (dw (gG (gQ zI (bh cHall "bags" (qE q) 4 gN) (bK false gN)) (gQ zI (gO (o1 oo) (bq (bZ q (bG false fE (bh cHall "out" (AN q) 4 gN)) 0 (λ_=>iH true) jL 1 []))) (gO (o1 oo) (bq (gX 3 (gI 1)))))) (aJ (gC (.bl false)))) (bD q (bG true fE (bh cHall "out" (AN q) 4 gN)) (aN [9,10,11]) fK) (aJ (gC (.bl true)))))))
noncomputable def tG (rest:GS) (q:Nat):GS:=(et (au 1 true (aE (B9 q) (bq 0))) (et (bX q (aE (jG q) (bT 1 (gI 12))) 1 (gI 2)) (et (au 2 false (aE (Ax q) (bq 1))) (et (au 3 false (aE (Au q) (bT 1 2))) rest))))
noncomputable def s9 (q:Nat):GS:=(tG (tM q) q)
noncomputable def pP:=a_ 1 12 s9
theorem e2x:cH Txt 8 bo.sy bo.sj ["_law_script"] 1 pP:=cK (λT=>T.rT.fn) ["_law_script","_law_feed_here","_law_house_here","_law_made","_law_hall","_law_cells","_law_many","_law_most","_law_t","_law_bag","_law_cart","_law_moment"]
variable{i n:Nat}{st m:Int}
abbrev Pr(M:Nat->GM)(vs:List Val)(r:Rv):Prop:=∀q S,M q vs S=some (.ok r S)
abbrev P0(M:Nat->GM)(vs:List Val)(r:Rv):Prop:=∀S,M 0 vs S=some (.ok r S)
noncomputable abbrev mU(ns:List Int):D:=.lst (ns.map D.int)
abbrev fL(ns:List Int)(p st m n:Int):List D:=[mU ns,.int p,.int st,.int m,.int n]
def Fd(st:Int)(F:List D):Prop:=∃(ns:List Int) (p m n:Int),F=fL ns p st m n/\ns.length<=63/\0<=p
abbrev fC(F:List D):Cell:=.o (.lst F)
theorem Qp(ds:List D)(n:Nat):cutD ds none (some (n:Int))=ds.take n:=by
 unfold cutD;have e1:HT.cw ds.length 0 none=0:=rfl;have e2:HT.cw ds.length ds.length (some (n:Int))=min n ds.length:=by
  unfold HT.cw;simp;try lia
 rw[e1,e2];simp only[List.drop_zero,Nat.sub_zero];rw[List.take_eq_take_iff];lia
theorem JH(ds:List D):cutD ds none (some 2)=ds.take 2:=Qp ds 2
theorem e2y(ds:List D):cutD ds none (some 120)=ds.take 120:=Qp ds 120
theorem e6p(ns:List Int):∃a b,dC ((ns.map D.int).take 2++[D.int 0,D.int 0]) 0=some (.int a)/\dC ((ns.map D.int).take 2++[D.int 0,D.int 0]) 1=some (.int b):=by
 match ns with
 |[]=>exact⟨0,0,rfl,rfl⟩
 |[x]=>exact⟨x,0,rfl,rfl⟩
 |x::y::r=>exact⟨x,y,rfl,rfl⟩
theorem qq0{α:Type _}{a:α}{l:List α}:(a::l)[0]?=some a:=rfl
theorem qq1{α:Type _}{a:α}{l:List α}:(a::l)[i+1]?=l[i]?:=rfl
theorem qq2{α:Type _}{a:α}{l:List α}:(a::l).length=l.length+1:=rfl
theorem qq3{α:Type _}:([]:List α).length=0:=rfl
theorem qq4{α:Type _}{x a:α}{l:List α}:(x::l).set 0 a=a::l:=rfl
theorem qq5{α:Type _}{x a:α}{l:List α}:(x::l).set (n+1) a=x::l.set n a:=rfl
theorem RO{α β:Type _}{f:α->β}{a:α}{l:List α}:(a::l).map f=f a::l.map f:=rfl
theorem qq7{α β:Type _}{f:α->β}:([]:List α).map f=[]:=rfl
theorem qq8{α:Type _}{a:α}:List.replicate 0 a=[]:=rfl
theorem qq9{α:Type _}{a:α}:List.replicate (n+1) a=a::List.replicate n a:=rfl
theorem qqa{α:Type _}{a:α}{l:List α}:(a::l).take (i+1)=a::l.take i:=rfl
theorem qqb{α:Type _}{a:α}{l r:List α}:(a::l)++r=a::(l++r):=rfl
theorem qqc{α:Type _}(l:List α):[]++l=l:=rfl
theorem qqd{α:Type _}{l:List α}:l.take 0=[]:=rfl
theorem aV:(false=true)=False:=rD
theorem qqf(n:Nat):0+n=n:=Nat.zero_add n
theorem e2z(ns:List Int)(h:ns.length<=63):∃F,Fd 0 F/\P0 B9 [.d (mU ns)] (.o (.lst F)):=by
 obtain⟨a,b,ha,hb⟩:=e6p ns;refine⟨_,⟨ns,0,a%2,b,rfl,h,rE _⟩,λS=>?_⟩
 have c2:(ns.map D.int).take 120=ns.map D.int:=v5 (by rw[bc];lia)
 have c1:(((ns.map D.int).take 2).length<=999998)=True:=bN (by rw[z6];lia)
 unfold B9 Oe;simp only[↓ev,JH,ba,aV,c1,e2y,c2,ha,decide_true,hb,oJ]
theorem Sh{α:Type}{l:List α}{a b c d e:α}:dC (a::b::c::d::e::l) 4=some e:=ra (j:=4) rfl
theorem UW:((4:Int)<((5:Nat):Int))=True:=bN (by decide)
theorem OI:((1:Int)<((5:Nat):Int))=True:=bN (by decide)
theorem CH{a b:Cell}{s r:List Cell}:aO.cut ⟨a::s,r⟩ (b::s).length=⟨a::s,r⟩:=by
 unfold aO.cut;rw[show(b::s).length=(a::s).length from rfl];dsimp only;rw[Md]
abbrev Dr(F:List D)(m v:Int)(F':List D):Prop:=∀s rr,jG 0 [.c 0,.d (.int m)] ⟨fC F::s,rr⟩=some (.ok (rd (.int v)) ⟨fC F'::s,rr⟩)
theorem dr1{ns:List Int}{p n:Int}(h0:(0<m)=True)(h1:(m<1073741824)=True):Dr (fL ns p st 1 n) m (n%m) (fL ns p st 1 (n / m)):=by
 intro s rr;unfold jG Fl;simp only[↓ev,fL,AU,aV,oK,ju,Sh,h0,decide_true,ba,h1,and_self,UW,CH]
theorem mm{F:List D}(h:Fd st F)(h0:0<m)(h1:m<1073741824):∃v F',0<=v/\v<m/\Fd st F'/\Dr F m v F':=by
 obtain⟨ns,p,md,n,rfl,hl,hp⟩:=h;by_cases hm:md=1
 .subst hm;exact⟨_,_,Int.emod_nonneg _ (by lia),Int.emod_lt_of_pos _ h0,⟨ns,p,1,n / m,rfl,hl,hp⟩,dr1 (bN h0) (bN h1)⟩
 .have uo:(md == 1)=false:=by simpa using hm
  have m1:∀x:Int,((-(2^64)<x/\x<2^64\/(-(2^64):Int)<31/\(31:Int)<2^64)=True):=λx=>bN (.inr ⟨by decide,by decide⟩)
  have m2:∀x:Int,((-(2^64)<x/\x<2^64\/(-(2^64):Int)<48271/\(48271:Int)<2^64)=True):=λx=>bN (.inr ⟨by decide,by decide⟩)
  have m3:∀x:Int,((-(2^64)<x/\x<2^64\/(-(2^64):Int)<69621/\(69621:Int)<2^64)=True):=λx=>bN (.inr ⟨by decide,by decide⟩)
  have m4:∀x:Int,(((-(2^64):Int)<31/\(31:Int)<2^64 \/ -(2^64)<x/\x<2^64)=True):=λx=>bN (.inl ⟨by decide,by decide⟩)
  have g0:=bN h0;have g1:=bN h1;have key:∃v,Dr (fL ns p st md n) m (v%m) (fL ns (p+1) st md n):=by
   by_cases hc:(0:Int)<ns.length
   .have hs:((ns.length:Int)<1073741824)=True:=bN (by lia)
    have rn:∃c,dC (ns.map D.int) (p%(ns.length:Int))=some (.int c):=by
     have h1:=Int.emod_nonneg p (b:=(ns.length:Int)) (by lia)
     have h2:=Int.emod_lt_of_pos p hc;have hk:(p%(ns.length:Int)).toNat<ns.length:=by lia
     refine⟨ns[(p%(ns.length:Int)).toNat],?_⟩;have z:=ra (xs:=ns.map D.int) (j:=(p%(ns.length:Int)).toNat) (by rw[fW,i5 hk];rfl)
     rwa[show(((p%(ns.length:Int)).toNat:Nat):Int)=p%(ns.length:Int) by lia] at z
    obtain⟨c,rn⟩:=rn;have ll:((ns.map D.int).length:Int)=ns.length:=by rw[bc]
    have hc:=bN hc;generalize(ns.length:Int)=k at *;refine⟨((c+p / k*31)*48271+31*p)%1000003*69621%999983,λs rr=>?_⟩
    unfold jG Fl;simp only[↓ev,fL,AU,aV,oK,uo,eH,ba,OI,cJ,ll,hc,decide_true,rn,hs,and_self,m1,m2,m4,m3,g0,CH]
   .have hc:=eq_false hc;have ll:((ns.map D.int).length:Int)=ns.length:=by rw[bc]
    generalize(ns.length:Int)=k at *;refine⟨(p*48271+31*p)%1000003*69621%999983,λs rr=>?_⟩
    unfold jG Fl;simp only[↓ev,fL,AU,aV,oK,uo,eH,ba,OI,cJ,ll,hc,decide_false,m2,m4,decide_true,m3,g0,CH]
  obtain⟨v,e⟩:=key;exact⟨_,_,Int.emod_nonneg _ (by lia),Int.emod_lt_of_pos _ h0,⟨ns,p+1,md,n,rfl,hl,by lia⟩,e⟩
variable{st k:Int}
abbrev Iz:Str:="abcdefghijklmnopqrstuvwxyz"
abbrev Bv:List Nat:=Iz.cps.toList
theorem Jf(l:List Nat):(⟨l.toArray⟩:Str).length=l.length:=by show l.toArray.size=_;simp
theorem Zl:∀c∈Bv,(Builtin.Str.occurrences Iz ⟨#[c]⟩ 0 Iz.length 1).isEmpty=false:=by decide +kernel
theorem e3a(c:Nat)(h:c∈Bv):(Builtin.Str.occurrences (Str.ofString "abcdefghijklmnopqrstuvwxyz") (kY c) 0 (Str.ofString "abcdefghijklmnopqrstuvwxyz").length 1).isEmpty=false:=Zl c h
theorem Oo:∀n:Nat,(List.replicate n true).all id=true
 |0=>rfl
 |n+1=>by rw[List.replicate_succ,t5,Oo n];rfl
theorem NP:∀bs:List Bool,gE (bs.map D.bl)=some bs
 |[]=>rfl
 |b::bs=>by rw[bL];unfold gE;rw[NP bs];rfl
theorem E'(l:List Nat)(h1:1<=l.length)(h2:l.length<=8)(hc:∀c∈l,c∈Bv):Pr o7 [.d (.str ⟨l.toArray⟩)] (rd (.bl true)):=by
 have e:∀q S,bB (af 0) (iH true) (HX q) (l.map λc=>.str (kY c)) [none] S []=some (.ok ((List.replicate l.length true).map D.bl) S):=λq S=>by
  rw[uZ (λ_=>D.bl true) l (by lia) λc m=>⟨rd (.bl true),by
   have h:=e3a c (hc c m);unfold HX;simp only[↓ev,aV,h,oA],rfl⟩,List.map_replicate,List.map_const']
 have c1:(1<=((⟨l.toArray⟩:Str).length:Int))=True:=bN (by rw[Jf];lia)
 have c2:(((⟨l.toArray⟩:Str).length:Int)<=8)=True:=bN (by rw[Jf];lia)
 have c3:((⟨l.toArray⟩:Str).length<=1000000)=True:=bN (by rw[Jf];lia)
 intro q S;unfold o7 E8;simp only[↓ev,KG,aV,c3,c1,decide_true,c2,e,NP,Oo,oJ]
theorem e6q:∀st:Nat,st<12->∀i:Nat,i<12->1<=(i7 st i).cps.toList.length/\(i7 st i).cps.toList.length<=8/\∀c∈(i7 st i).cps.toList,c∈Bv:=by decide +kernel
theorem Qq(s0:0<=st)(s1:st<12)(k0:0<=k)(k1:k<12):Pr o7 [.d (.str (i7 st k))] (rd (.bl true)):=by
 obtain⟨s,rfl,s2⟩:=A0 (n:=12) s0 s1;obtain⟨i,rfl,i2⟩:=A0 (n:=12) k0 k1;obtain⟨h1,h2,h3⟩:=e6q s s2 i i2;exact E' _ h1 h2 h3
theorem U8:∀k:Nat,k<12->MulOk "y" ((k:Int) - 7):=by unfold MulOk;decide +kernel
theorem Zm:∀n:Nat,n<3->((["","ab","zzz"]:List Str).getD n "").length<=3:=by decide +kernel
theorem Zn:∀n:Nat,n<3->((["","ba","zz"]:List Str).getD n "").length<=3:=by decide +kernel
noncomputable abbrev dS(xs:List Str):List D:=xs.map D.str
theorem Qr{xs:List Str}(h:0<=k/\k<xs.length):dC (dS xs) k=some (.str (xs.getD k.toNat "")):=by
 have wR:k.toNat<xs.length:=by lia
 have e:(dS xs)[k.toNat]?=some (.str (xs.getD k.toNat "")):=by simp[wR]
 have z:=ra e
 rwa[show((k.toNat:Nat):Int)=k by lia] at z
theorem Qs{F:List D}(h:Fd st F)(s0:0<=st)(s1:st<12)(k0:0<=k)(k1:k<12)(q:Nat)(s rr:List Cell):Az q [.c 0,.d (.int k)] ⟨fC F::s,rr⟩=some (.ok (rd (.str (i7 st k))) ⟨fC F::s,rr⟩):=by
 obtain⟨ns,p,md,n,rfl,hl,hp⟩:=h;unfold Az Of;have l8:(("zbdgkafe":Str).length<=1000000)=True:=bN (by decide +kernel)
 have l12:(("dbgkafelcjhi":Str).length<=1000000)=True:=bN (by decide +kernel)
 by_cases hm:st%4=3
 .obtain⟨kn,rfl,kl⟩:=A0 (n:=12) k0 k1;have Rj:MulOk "y" ((kn:Int) - 7)=True:=bN (U8 kn kl);have uo:(st%4 == 3)=true:=by simpa using hm
  by_cases hk:(7:Int)<kn
  .have e:i7 st kn=Txt.mul "y" (kn - 7):=by unfold i7;rw[aP hm,aP hk]
   rw[e];have hk:=bN hk;generalize(kn:Int)=ki at *;simp only[↓ev,fL,kK,ba,decide_true,aV,oK,uo,l8,Rj,hk,eH,eE]
  .have e:i7 st kn=Txt.slice "zbdgkafe" none (some (kn+1)):=by unfold i7;rw[aP hm,aK hk]
   rw[e];have hk:=eq_false hk;generalize(kn:Int)=ki at *;simp only[↓ev,fL,kK,ba,decide_true,aV,oK,uo,l8,Rj,hk,decide_false,cJ,eE]
 .have m4:0<=st%4/\st%4<3:=by lia
  have m3:0<=st / 4%3/\st / 4%3<3:=by lia
  have a1:=Qr (xs:=["","ab","zzz"]) m4;have a2:=Qr (xs:=["","ba","zz"]) m3;simp only[RO,qq7] at a1 a2;have l1:=Zm (st%4).toNat (by lia)
  have l2:=Zn (st / 4%3).toNat (by lia)
  have uo:(st%4 == 3)=false:=by simpa using hm
  have e:i7 st k=((["","ab","zzz"]:List Str).getD (st%4).toNat ""++kY (("dbgkafelcjhi":Str).cps.toList.getD k.toNat 0))++(["","ba","zz"]:List Str).getD (st / 4%3).toNat "":=by
   unfold i7;rw[aK hm]
  have a3:dC ("dbgkafelcjhi":Str).cps.toList k=some (("dbgkafelcjhi":Str).cps.toList.getD k.toNat 0):=NZ 0 k0 (by show k<(12:Nat);lia)
  rw[e];generalize(["","ab","zzz"]:List Str).getD (st%4).toNat ""=za at *;generalize(["","ba","zz"]:List Str).getD (st / 4%3).toNat ""=zb at *;generalize("dbgkafelcjhi":Str).cps.toList.getD k.toNat 0=zc at *;have q1:(za.length+(⟨#[zc]⟩:Str).length<=1000000)=True:=bN (by show _+1<=_;lia)
  have q2:((za++(⟨#[zc]⟩:Str)).length+zb.length<=1000000)=True:=bN (by
   rw[Str.length_append];show _+1+_<=_;lia)
  simp only[↓ev,fL,kK,ba,decide_true,aV,oK,uo,a1,l12,a3,q1,and_self,a2,q2,eE,kY]
variable{i:Nat}{st:Int}
theorem j5(x:Str):∀xs:List Str,((dS xs).any λz=>aR z (.str x))=xs.contains x
 |[]=>rfl
 |y::r=>by
  rw[dS,bL,List.any_cons,<-dS,j5 x r,List.contains_cons,pZ]
  congr 1
  exact BEq.comm
theorem jH(n:Nat)(xs:List Str):(dS xs).all (dh n)=true:=by
 rw[pK];intro d hd;obtain⟨y,_,rfl⟩:=gp.mp hd;cases n <;> rfl
theorem Pd(xs:List Str)(i:Nat)(y:Str):(dS xs).take i++.str y::(dS xs).drop i=dS (mG xs i y):=by
 unfold mG;simp only[dS,c_,RO,List.map_take,Mj]
theorem Wt(ds:List D)(n:Nat):cutD ds (some (n:Int)) none=ds.drop n:=by
 unfold cutD;have e:HT.cw ds.length 0 (some (n:Int))=min n ds.length:=by
  unfold HT.cw;simp;lia
 have e2:HT.cw ds.length ds.length none=ds.length:=rfl;rw[e,e2];by_cases h:n<=ds.length
 .rw[Nat.min_eq_left h];exact v5 (by rw[Hg];exact bF _)
 .rw[Nat.min_eq_right (by lia),List.drop_eq_nil_of_le (bF _),List.drop_eq_nil_of_le (by lia),List.take_nil]
theorem U9(xs:List Str)(k:Nat)(y:Str):(mG xs k y).Perm (y::xs):=by
 unfold mG;refine(List.perm_middle (l₁:=xs.take k) (l₂:=xs.drop k)).trans ?_;rw[List.take_append_drop]
theorem Pe{xs:List Str}{k:Nat}{y:Str}(h:xs.Nodup)(hy:y∉xs):(mG xs k y).Nodup:=(U9 xs k y).nodup_iff.mpr (qr.mpr ⟨hy,h⟩)
structure yd (later carts:List Str) (hd:Str) (outs:List Str):Prop where
 nd:outs.Nodup
 sub:∀o∈outs,o∈later++carts
 ne:outs≠[]
 hand:hd∈outs\/∃o∈outs,o∈later
 len:outs.length<=4
theorem Pf{xs:List Str}{k:Int}(h0:0<=k)(h1:k<xs.length):dC (dS xs) k=some (.str (xs.getD k.toNat "")):=by
 have wR:k.toNat<xs.length:=by lia
 have e:(dS xs)[k.toNat]?=some (.str (xs.getD k.toNat "")):=by simp[wR]
 have z:=ra e
 rwa[show((k.toNat:Nat):Int)=k by lia] at z
theorem U_{xs:List Str}(h:i<xs.length):xs.getD i ""∈xs:=by
 simp_all
theorem Fq{n:Nat}{d r:List Nat}(e:List.range n=d++i::r):d.length=i/\i<n:=by
 have h2:d.length<n:=by have:=congrArg List.length e;simp at this;lia
 have h1:=congrArg (λl=>l[d.length]?) e
 simp only[v3 (bF _),L9,qq0] at h1;rw[z_ h2] at h1;have:=Option.some.inj h1;exact⟨this,this ▸ h2⟩
theorem tN(n:Nat):eV 0 n=(List.range n).map λ(i:Nat)=>D.int (i:Int):=by
 unfold eV;simp only[Int.zero_add]
theorem Ng(q:Nat)(S:aO)(outs later:List Str)(h:outs.length<=1000):bB (af 0) (Ij q) (Ik q) (dS outs) [none,some (.d (.lst (dS later)))] S []=some (.ok (dS (outs.filter λo=>later.contains o)) S):=by
 rw[dS,yN (λo=>if later.contains o=true then some (.str o) else none) outs (by lia) λo m=>by
  unfold Ij Ik;cases hc:later.contains o with
  |true=>exact .inr ⟨rd (.str o),.str o,rfl,by simp only[↓ev,jH,aV,j5,hc],by simp only[↓ev],rfl⟩
  |false=>exact .inl ⟨rfl,by simp only[↓ev,jH,aV,j5,hc]⟩]
 congr 2
 induction outs with
 |nil=>rfl
 |cons o r ih=>
  grind
section
variable{F F' F2:List D}{cb:Cell}{rr:List Cell}{later carts outs:List Str}{y:Str}{v w lc ol:Int}{j:D}{a5:ak Val}
abbrev oG(later carts:List Str)(a4 a5:ak Val):Gm:=[some (.c 0),some (.d (.lst (dS later))),some (.d (.lst (dS carts))),some (.c 2),a4,a5]
abbrev oS(F:List D)(cb:Cell)(outs:List Str)(rr:List Cell):aO:=⟨[fC F,cb,.o (.lst (dS outs))],rr⟩
theorem e6r(c2:((dS later).length+(dS carts).length<=1000000)=True)(ap:dS later++dS carts=dS (later++carts))(el:((dS later).length:Int)+((dS carts).length:Int)=lc)(dr:Dr F lc v F')(ha:dC (dS (later++carts)) v=some (.str y))(hc:outs.contains y=true):
  wd 0 (oG later carts (some (.d j)) a5) (oS F cb outs rr)=some (.nx (oG later carts (some (.d j)) (some (.d (.str y)))) (oS F' cb outs rr)):=by
 unfold wd;simp only[↓ev,oG,oS,c2,ap,el,dr,ha,ba,jH,j5,hc,jR,aV]
theorem e3b{o2:List Str}(c2:((dS later).length+(dS carts).length<=1000000)=True)(ap:dS later++dS carts=dS (later++carts))(el:((dS later).length:Int)+((dS carts).length:Int)=lc)(dr:Dr F lc v F')(ha:dC (dS (later++carts)) v=some (.str y))(hc:outs.contains y=false)
  (eo:((dS outs).length:Int)=ol) (d2:Dr F' (ol+1) w F2) (p0:(0<=w)=True) (p1:(w<2^62)=True) (p2:((dS outs).length<1000000)=True) (h2:(dS outs).take w.toNat++.str y::(dS outs).drop w.toNat=dS o2) :
  wd 0 (oG later carts (some (.d j)) a5) (oS F cb outs rr)=some (.nx (oG later carts (some (.d j)) (some (.d (.str y)))) (oS F2 cb o2 rr)):=by
 unfold wd;simp only[↓ev,oG,oS,c2,ap,el,dr,ha,ba,jH,j5,hc,oA,eo,d2,p0,p1,p2,and_self,h2]
theorem Zo(h:Fd st F)(sl:0<(later++carts).length)(G4:(later++carts).length<=100)(nd:outs.Nodup)(sb:∀o∈outs,o∈later++carts)(ol:outs.length<=100):
  ∃o2 y F2,Fd st F2/\o2.Nodup/\(∀o∈o2,o∈later++carts)/\o2.length<=outs.length+1/\o2≠[]/\wd 0 (oG later carts (some (.d j)) a5) (oS F cb outs rr)=some (.nx (oG later carts (some (.d j)) (some (.d (.str y)))) (oS F2 cb o2 rr)):=by
 have c2:((dS later).length+(dS carts).length<=1000000)=True:=bN (by rw[bc,bc,<-cP];lia)
 have ap:dS later++dS carts=dS (later++carts):=c_.symm;have el:((dS later).length:Int)+((dS carts).length:Int)=((later++carts).length:Int):=by rw[bc,bc,cP];lia
 obtain⟨v,F',v0,v1,h',dr⟩:=mm h (m:=((later++carts).length:Int)) (by lia) (by lia)
 have ha:=Pf (xs:=later++carts) v0 v1;have hm:(later++carts).getD v.toNat ""∈later++carts:=U_ (by lia)
 generalize(later++carts).getD v.toNat ""=y at ha hm;cases hc:outs.contains y with
 |true=>
  refine⟨outs,y,F',h',nd,sb,by lia,λz=>?_,e6r c2 ap el dr ha hc⟩
  rw[z] at hc;cases hc
 |false=>
  obtain⟨w,F2,w0,w1,h2,d2⟩:=mm h' (m:=(outs.length:Int)+1) (by lia) (by lia)
  have hy:y∉outs:=by simpa using hc
  refine⟨_,y,F2,h2,Pe (k:=w.toNat) nd hy,λo ho=>?_,by rw[Fj];lia,λz=>?_,e3b c2 ap el dr ha hc (by rw[bc]) d2 (bN w0) (bN (by lia)) (bN (by rw[bc];lia)) (Pd _ _ _)⟩
  .rcases kH.mp ho with z|z
   .rw[z];exact hm
   .exact sb o z
  .have:=Fj outs w.toNat y;rw[z] at this;simp at this
structure uI (F F' F1:List D) (cb:Cell) (rr:List Cell) (later carts o1:List Str) (hand:Str) (r:Int) (a4 a5:ak Val):Prop where
 dr:Dr F 3 r F'
 hi:Nat.ble (1+r).natAbs 1000000000000=true
 hl:aH (af 4) (wd 0) (eV 0 (1+r).toNat) (oG later carts none none) ⟨[fC F',cb,.o (.lst [])],rr⟩=some (.nx (oG later carts a4 a5) (oS F1 cb o1 rr))
 rn:dC (dS carts) 0=some (.str hand)
variable{F1:List D}{o1:List Str}{hand:Str}{r:Int}{a4:ak Val}
theorem Zp(h:uI F F' F1 cb rr later carts o1 hand r a4 a5)(hc:o1.contains hand=true):ue 0 [.c 0,.d (.lst (dS later)),.d (.lst (dS carts))] ⟨[fC F,cb],rr⟩=some (.ok (.o (.lst (dS o1))) ⟨[fC F1,cb],rr⟩):=by
 obtain⟨dr,hi,hl,rn⟩:=h;unfold ue Fm;simp only[↓ev,ba,aV,dr,hi,iI,hl,oG,oS,rn,jH,j5,hc,jR];rfl
theorem Zq(h:uI F F' F1 cb rr later carts o1 hand r a4 a5)(hc:o1.contains hand=false)(hlen:o1.length<=1000){n:Int}(hn:((dS (o1.filter λo=>later.contains o)).length:Int)=n)(hz:(n == 0)=false):ue 0 [.c 0,.d (.lst (dS later)),.d (.lst (dS carts))] ⟨[fC F,cb],rr⟩=some (.ok (.o (.lst (dS o1))) ⟨[fC F1,cb],rr⟩):=by
 obtain⟨dr,hi,hl,rn⟩:=h;have e:=λq S=>Ng q S o1 later hlen
 unfold ue Fm;simp only[↓ev,ba,aV,dr,hi,iI,hl,oG,oS,rn,jH,j5,hc,oA,e,hn,oK,hz];rfl
theorem Wu(h:uI F F' F1 cb rr later carts o1 hand r a4 a5)(hc:o1.contains hand=false)(hlen:o1.length<=1000)(hn:((dS (o1.filter λo=>later.contains o)).length:Int)=0)(el:((dS o1).length:Int)=ol)(hd:Dr F1 (ol+1) v F2)
  (p0:(0<=v)=True) (p1:(v<2^62)=True) (p2:((dS o1).length<1000000)=True) (h2:(dS o1).take v.toNat++.str hand::(dS o1).drop v.toNat=dS outs):ue 0 [.c 0,.d (.lst (dS later)),.d (.lst (dS carts))] ⟨[fC F,cb],rr⟩=some (.ok (.o (.lst (dS outs))) ⟨[fC F2,cb],rr⟩):=by
 obtain⟨dr,hi,hl,rn⟩:=h;have e:=λq S=>Ng q S o1 later hlen
 unfold ue Fm;simp only[↓ev,ba,aV,dr,hi,iI,hl,oG,oS,rn,jH,j5,hc,oA,e,hn,oK,ju,el,hd,p0,p1,p2,and_self,h2];rfl
theorem e3c(h:Fd st F)(hl:later.length<=50)(hh:carts.head?=some hand)(hc:carts.length<=50):
  ∃outs F',Fd st F'/\yd later carts hand outs/\ue 0 [.c 0,.d (.lst (dS later)),.d (.lst (dS carts))] ⟨[fC F,cb],rr⟩=some (.ok (.o (.lst (dS outs))) ⟨[fC F',cb],rr⟩):=by
 have hc0:0<carts.length:=by cases carts with|nil=>cases hh|cons a b=>simp
 obtain⟨r,F',r0,r1,h',dr⟩:=mm h (m:=3) (by decide) (by decide)
 have sl:0<(later++carts).length:=by rw[cP];lia
 have G4:(later++carts).length<=100:=by rw[cP];lia
 obtain⟨U',S',e1,⟨o1,F1,a4,a5,h1,nd,sb,ol,one,rfl,rfl⟩⟩:=jI (gg:=af 4) (body:=wd 0) (f:=λ(i:Nat)=>D.int (i:Int)) (U:=oG later carts none none) (S:=oS F' cb [] rr)
  (λpre U S=>∃o1 F1 a4 a5,Fd st F1/\o1.Nodup/\(∀o∈o1,o∈later++carts)/\o1.length<=pre.length/\(pre≠[]->o1≠[])/\U=oG later carts a4 a5/\S=oS F1 cb o1 rr) (List.range (1+r).toNat)
  ⟨[],F',none,none,h',Hm,λo m=>(by cases m),bF _,λz=>bW rfl z,rfl,rfl⟩ (by
   rintro d i rest eq U S ⟨o1,F1,a4,a5,h1,nd,sb,ol,_,rfl,rfl⟩;obtain⟨hq,hi⟩:=Fq eq;obtain⟨o2,y,F2,h2,n2,s2,l2,ne2,e2⟩:=Zo (cb:=cb) (rr:=rr) (j:=.int i) (a5:=a5) h1 sl G4 nd sb (by lia)
   exact⟨_,_,_,rfl,.inl e2,o2,F2,_,_,h2,n2,s2,by rw[cP,pJ];lia,λ_=>ne2,rfl,rfl⟩)
 rw[<-tN] at e1;rw[t4] at ol;have one:o1≠[]:=one (by intro z;have:=congrArg List.length z;simp at this;lia)
 have rn:dC (dS carts) 0=some (.str hand):=by
  cases carts with
  |nil=>cases hh
  |cons a b=>cases hh;exact ra (xs:=D.str hand::b.map D.str) (j:=0) rfl
 have hm:hand∈later++carts:=oR _ (List.mem_of_mem_head? hh);have H:uI F F' F1 cb rr later carts o1 hand r a4 a5:=⟨dr,Bt (by lia),e1,rn⟩
 cases C4:o1.contains hand with
 |true=>exact⟨o1,F1,h1,⟨nd,sb,one,.inl (by simpa using C4),by lia⟩,Zp H C4⟩
 |false=>
  by_cases hf:(o1.filter λo=>later.contains o).length=0
  .obtain⟨w,F2,w0,w1,h2,d2⟩:=mm h1 (m:=(o1.length:Int)+1) (by lia) (by lia)
   have hy:hand∉o1:=by simpa using C4
   refine⟨_,F2,h2,⟨Pe (k:=w.toNat) nd hy,λo ho=>?_,λz=>?_,.inl (kH.mpr (.inl rfl)),by rw[Fj];lia⟩,Wu H C4 (by lia) (by rw[bc,hf];rfl) (by rw[bc]) d2 (bN w0) (bN (by lia)) (bN (by rw[bc];lia)) (Pd _ _ _)⟩
   .rcases kH.mp ho with z|z
    .rw[z];exact hm
    .exact sb o z
   .have:=Fj o1 w.toNat hand;rw[z] at this;simp at this
  .refine⟨o1,F1,h1,⟨nd,sb,one,.inr ?_,by lia⟩,Zq H C4 (by lia) rfl (by rw[bc];simp only[oB];lia)⟩
   simp_all
end
def av(b:ao):D:=.tup [.str b.name,.int b.long,.bl b.ring,.lst (dS b.outs)]
def aF(h:ay):D:=.tup [.lst (h.ae.map av),.lst (dS h.carts)]
noncomputable abbrev mK(S:aO)(xs:List D):aO:=⟨S.s++[.o (.lst xs)],S.r⟩
variable{ks:List Str}
noncomputable def findB(bs:List ao)(n:Str):ak ao:=bs.find? λb=>b.name == n
structure r6 (h:ay):Prop where
 bl:h.ae.length<=100
 ct:h.carts.length<=100
 ou:(h.ae.map λx=>x.outs.length).sum<=900
def lu(carts:List Str):List ao->Prop
 |[]=>True
 |b::bs=>(∀o∈b.outs,o∈bs.map ao.name\/o∈carts)/\b.name∉bs.map ao.name/\b.name∉carts/\lu carts bs
theorem wj{carts:List Str}:∀{bs:List ao},lu carts bs->∀x∈bs,∀y∈bs,x.name=y.name->x=y
 |z::bs,f,x,hx,y,hy,e=>by
  rcases y04.mp hx with uv|uv
  .rcases y04.mp hy with zo|zo
   .rw[uv,zo]
   .exact bW (jT (f:=ao.name) zo) (by rw[<-e,uv];exact f.2.1)
  .rcases y04.mp hy with zo|zo
   .exact bW (jT (f:=ao.name) uv) (by rw[e,zo];exact f.2.1)
   .exact wj f.2.2.2 x uv y zo e
theorem Fb{carts:List Str}:∀{bs:List ao},lu carts bs->∀c∈carts,c∉bs.map ao.name
 |[],_,c,_,h=>by cases h
 |b::bs,f,c,hc,h=>by
  rcases y04.mp h with z|z
  .exact f.2.2.1 (by rw[<-z];exact hc)
  .exact Fb f.2.2.2 c hc z
theorem BX{carts:List Str}:∀{xs ys:List ao},lu carts (xs++ys)->lu carts ys
 |[],_,f=>f
 |_::xs,ys,f=>BX (xs:=xs) f.2.2.2
abbrev jA(x:Str):Prop:=Pr o7 [.d (.str x)] (rd (.bl true))
structure aB (h:ay):Prop where
 fwd:lu h.carts h.ae
 sm:r6 h
 nm:∀b∈h.ae,jA b.name
 cm:∀c∈h.carts,jA c
 lg:∀b∈h.ae,1<=b.long/\(b.ring=true->2<=b.long)
 hd:∀b∈h.ae,h.carts.getD 0 ""∈b.outs\/∃o∈b.outs,o∈h.ae.map ao.name
 cn:h.carts.Nodup
 c0:0<h.carts.length
 nd:∀b∈h.ae,b.outs.Nodup
theorem yx(bs:List ao)(h:bs.length<=1000000):Pr ud [.d (.lst (bs.map av))] (.o (.lst (dS (bs.map ao.name)))):=by
 have e:∀q S,bB (af 0) (iH true) (MA q) (bs.map av) [none] S []=some (.ok (dS (bs.map ao.name)) S):=λq S=>by
  rw[uZ (λb=>D.str (ao.name b)) bs h λb m=>⟨rd (.str b.name),by
   rfl,rfl⟩,dS,jS]
  rfl
 intro q S;unfold ud ML;simp only[↓ev,e,oJ]
def m7(ks:List Str):List (TK×D):=ks.map λk=>(TK.inr k,.bl true)
noncomputable def fP(ks:List Str)(k:Str):List Str:=if ks.contains k then ks else ks++[k]
theorem wu(x:Str):∀ks:List Str,(aL (m7 ks) (.inr x)).isSome=ks.contains x
 |[]=>rfl
 |k::ks=>by
  have ih:=wu x ks;unfold aL m7 at *;rw[bL,t6,List.contains_cons];by_cases e:k=x
  .rw[rG (by rw[e]),e,ju]
   rfl
  .rw[rH (λz=>e (TK.inr.inj z)),show(x == k)=false by rw[oB];exact λz=>e z.symm]
   rw[Bool.false_or];exact ih
theorem Ga(k:Str):∀ks:List Str,bQ (m7 ks) (.inr k) (.bl true)=m7 (fP ks k)
 |[]=>rfl
 |j::ks=>by
  have ih:=Ga k ks;show(if(TK.inr j)=TK.inr k then(TK.inr j,D.bl true)::m7 ks else(TK.inr j,D.bl true)::bQ (m7 ks) (.inr k) (.bl true))=_
  unfold fP at *;rw[List.contains_cons];by_cases e:j=k
  .rw[aP (by rw[e]),e,ju,Ml,aP rfl];rfl
  .rw[aK (λz=>e (TK.inr.inj z)),ih,show(k == j)=false by rw[oB];exact λz=>e z.symm,Bool.false_or]
   cases ks.contains k with
   |true=>rw[aP rfl,aP rfl];rfl
   |false=>rw[aK oz,aK oz];rfl
theorem Jv(ks:List Str):(m7 ks).length=ks.length:=by unfold m7;rw[bc]
theorem Oq(ks:List Str)(k:Str):(fP ks k).length<=ks.length+1:=by
 unfold fP;split
 .lia
 .rw[cP,pJ];exact bF _
theorem Wv{k n:Str}:n∈fP ks k↔n=k\/n∈ks:=by
 unfold fP;split
 .rename_i h
  rw[iG] at h;constructor
  .exact .inr
  .rintro(rfl|h')
   .exact h
   .exact h'
 .rw[cG,kJ];exact Or.comm
theorem e3d{x:Str}{S:aO}{n:Nat}(hs:S.s[n]?=some (.o (.ar (m7 ks))))(hn:jA x)(hx:ks.contains x=false)(hl:(ks.length<1000000)=True):Ap 0 [.d (.str x),.c n] S=some (.ok (rd .aG) ⟨S.s.set n (.o (.ar (m7 (fP ks x)))),S.r⟩):=by
 unfold Ap MX;simp only[↓ev,hn,aV,hs,wu,hx,Jv,hl,Ga,PL]
variable{S:aO}{n:Nat}{ks carts:List Str}
noncomputable abbrev tk(S:aO)(n:Nat)(ks:List Str):aO:=⟨S.s.set n (.o (.ar (m7 ks))),S.r⟩
theorem take1{x:Str}(hn:n<S.s.length)(hx:jA x)(h:x∉ks)(hl:ks.length<1000):Ap 0 [.d (.str x),.c n] (tk S n ks)=some (.ok (rd .aG) (tk S n (ks++[x]))):=by
 have hc:ks.contains x=false:=by simpa using h
 rw[e3d (S:=tk S n ks) (n:=n) (vY hn) hx hc (bN (by lia))]
 grind [fP,List.set_set]
theorem TU{d0 a:ak Val}(hn:n<S.s.length)(nm:∀c∈carts,jA c)(nd:(ks++carts).Nodup)(hl:ks.length+carts.length<1000):
  ∃a',aH (af 2) (EI 0) (dS carts) [d0,some (.c n),a] (tk S n ks)=some (.nx [d0,some (.c n),a'] (tk S n (ks++carts))):=by
 obtain⟨U',S',e,a',rfl,rfl⟩:=jI (gg:=af 2) (body:=EI 0) (f:=D.str) (U:=[d0,some (.c n),a]) (S:=tk S n ks) (λpre U S'=>∃a',U=[d0,some (.c n),a']/\S'=tk S n (ks++pre)) carts ⟨a,rfl,by rw[lq]⟩ (by
  rintro d x r eq U S' ⟨a',rfl,rfl⟩;have h1:x∉ks++d:=by
   rw[eq,<-mY] at nd;exact λm=>(iF.mp nd).2.2 x m x (qW ..) rfl
  have h2:=congrArg List.length eq;rw[cP,jt] at h2;have h:=take1 hn (nm x (by rw[eq];simp)) h1 (by rw[cP];lia)
  refine⟨[d0,some (.c n),some (.d (.str x))],[d0,some (.c n),some (.d (.str x))],_,rfl,.inl ?_,_,rfl,rfl⟩;rw[<-mY];unfold EI;simp only[↓ev,h,Cg])
 exact⟨a',e⟩
theorem Zr(hn:n<S.s.length)(nm:∀c∈carts,jA c)(nd:(ks++carts).Nodup)(hl:ks.length+carts.length<1000)(h0:carts≠[]):EN 0 [.d (.lst (dS carts)),.c n] (tk S n ks)=some (.ok (rd .aG) (tk S n (ks++carts))):=by
 obtain⟨a',e⟩:=TU (d0:=some (.d (.lst (dS carts)))) (a:=none) hn nm nd hl;have z:(dS carts).isEmpty=false:=by cases carts with|nil=>exact bW rfl h0|cons _ _=>rfl
 have lc:∀xp,(tk S n xp).cut (tk S n ks).s.length=tk S n xp:=λxp=>by unfold aO.cut;simp only[m9];rw[v5 (by rw[m9];exact bF _)]
 unfold EN MF;simp only[↓ev,iI,e,z,oA,aV,lc]
variable{S:aO}{n:Nat}{ks:List Str}
theorem e3e{c:Cell}{xp:List Str}:(tk S n xp).cut (S.s.set n c).length=tk S n xp:=by
 unfold aO.cut;simp only[m9];rw[v5 (by rw[m9];exact bF _)]
theorem TV{bs:List ao}{d0 a2 a3 a4 a5 a6:ak Val}(hn:n<S.s.length)(nm:∀b∈bs,jA b.name)(lg:∀b∈bs,1<=b.long/\(b.ring=true->2<=b.long))(nd:(ks++bs.map ao.name).Nodup)(hl:ks.length+bs.length<1000):
  ∃b2 b3 b4 b5 b6,aH (aN [(af 2),(af 3),(af 4),(af 5)]) (EJ 0) (bs.map av) [d0,some (.c n),a2,a3,a4,a5,a6] (tk S n ks)=some (.nx [d0,some (.c n),b2,b3,b4,b5,b6] (tk S n (ks++bs.map ao.name))):=by
 obtain⟨U',S',e,b2,b3,b4,b5,b6,rfl,rfl⟩:=jI (gg:=aN [(af 2),(af 3),(af 4),(af 5)]) (body:=EJ 0) (f:=av) (U:=[d0,some (.c n),a2,a3,a4,a5,a6]) (S:=tk S n ks) (λpre U S'=>∃b2 b3 b4 b5 b6,U=[d0,some (.c n),b2,b3,b4,b5,b6]/\S'=tk S n (ks++pre.map ao.name)) bs ⟨a2,a3,a4,a5,a6,rfl,by rw[z7,lq]⟩ (by
  rintro d x r eq U S' ⟨b2,b3,b4,b5,b6,rfl,rfl⟩;have h1:x.name∉ks++d.map ao.name:=by
   rw[eq,c_,bL,<-mY] at nd;exact λm=>(iF.mp nd).2.2 _ m _ (qW ..) rfl
  have h2:=congrArg List.length eq;rw[cP,jt] at h2;have mx:x∈bs:=by rw[eq];simp
  have h:=take1 hn (nm x mx) h1 (by rw[cP,bc];lia)
  obtain⟨l1,l2⟩:=lg x mx;have e1:∀b,aN [(af 2),(af 3),(af 4),(af 5)] (av x) [d0,some (.c n),b2,b3,b4,b5,b]=some [d0,some (.c n),some (.d (.str x.name)),some (.d (.int x.long)),some (.d (.bl x.ring)),some (.d (.lst (dS x.outs))),b]:=λ_=>rfl
  refine⟨_,[d0,some (.c n),some (.d (.str x.name)),some (.d (.int x.long)),some (.d (.bl x.ring)),some (.d (.lst (dS x.outs))),some (.d (.int (if x.ring=true then 2 else 1)))],_,e1 _,.inl ?_,_,_,_,_,_,rfl,rfl⟩
  rw[c_,bL,z7,<-mY];unfold EJ;cases hr:x.ring with
  |true=>
   have z:(x.long<2)=False:=eq_false (by have:=l2 hr;lia)
   simp only[↓ev,h,Cg,ba,z,decide_false,aV]
  |false=>
   have z:(x.long<1)=False:=eq_false (by lia)
   simp only[↓ev,h,Cg,aV,ba,z,decide_false])
 exact⟨b2,b3,b4,b5,b6,e⟩
theorem Zs{bs:List ao}(hn:n<S.s.length)(nm:∀b∈bs,jA b.name)(lg:∀b∈bs,1<=b.long/\(b.ring=true->2<=b.long))(nd:(ks++bs.map ao.name).Nodup)(hl:ks.length+bs.length<1000):EO 0 [.d (.lst (bs.map av)),.c n] (tk S n ks)=some (.ok (rd .aG) (tk S n (ks++bs.map ao.name))):=by
 obtain⟨b2,b3,b4,b5,b6,e⟩:=TV (d0:=some (.d (.lst (bs.map av)))) (a2:=none) (a3:=none) (a4:=none) (a5:=none) (a6:=none) hn nm lg nd hl;unfold EO MG;simp only[↓ev,iI,e,e3e]
variable{ks:List Str}
noncomputable abbrev gK(S:aO)(ks:List Str):aO:=⟨S.s++[.o (.ar (m7 ks))],S.r⟩
def bJ(b:Str)(ks:List Str)(x:ao):List Str:=if(x.name == b || ks.contains x.name)=true then x.outs.foldl fP ks else ks
theorem Ot(outs:List Str):∀ks:List Str,(outs.foldl fP ks).length<=ks.length+outs.length:=by
 induction outs with
 |nil=>intro ks;exact bF _
 |cons o outs ih=>
  grind [Oq]
section
variable{S:aO}{g0 g1 g3 g4 g5 g6 a:ak Val}
theorem Lj{o:Str}(hl:(ks.length<1000000)=True):BP 0 [g0,g1,some (.c S.s.length),g3,g4,g5,g6,some (.d (.str o))] (gK S ks)=some (.nx [g0,g1,some (.c S.s.length),g3,g4,g5,g6,some (.d (.str o))] (gK S (fP ks o))):=by
 unfold BP;simp only[↓ev,jJ,Jv,hl,Ga,qU]
theorem Ww(outs ks:List Str)(h:ks.length+outs.length<1000000):∃a',aH (af 7) (BP 0) (dS outs) [g0,g1,some (.c S.s.length),g3,g4,g5,g6,a] (gK S ks)=some (.nx [g0,g1,some (.c S.s.length),g3,g4,g5,g6,a'] (gK S (outs.foldl fP ks))):=by
 obtain⟨U',S',e,a',rfl,rfl⟩:=jI (gg:=af 7) (body:=BP 0) (f:=D.str) (U:=[g0,g1,some (.c S.s.length),g3,g4,g5,g6,a]) (S:=gK S ks) (λpre U S'=>∃a',U=[g0,g1,some (.c S.s.length),g3,g4,g5,g6,a']/\S'=gK S (pre.foldl fP ks)) outs ⟨a,rfl,rfl⟩ (by
  rintro d x r eq U S' ⟨a',rfl,rfl⟩;have h2:=congrArg List.length eq;rw[cP,jt] at h2;have:=Ot d ks;refine⟨_,_,_,rfl,.inl (Lj (bN (by lia))),_,rfl,by rw[Me];rfl⟩)
 exact⟨a',e⟩
theorem TX(b:Str)(bs:List ao)(ks:List Str)(a3 a4 a5 a6 a7:ak Val)(h:ks.length+(bs.map λx=>x.outs.length).sum<1000000):∃b3 b4 b5 b6 b7,aH (aN [(af 3),(af 4),(af 5),(af 6)]) (Aq 0) (bs.map av) [g0,some (.d (.str b)),some (.c S.s.length),a3,a4,a5,a6,a7] (gK S ks)=some (.nx [g0,some (.d (.str b)),some (.c S.s.length),b3,b4,b5,b6,b7] (gK S (bs.foldl (bJ b) ks))):=by
 obtain⟨U',S',e,b3,b4,b5,b6,b7,rfl,rfl,_⟩:=jI (gg:=aN [(af 3),(af 4),(af 5),(af 6)]) (body:=Aq 0) (f:=av) (U:=[g0,some (.d (.str b)),some (.c S.s.length),a3,a4,a5,a6,a7]) (S:=gK S ks) (λpre U S'=>∃b3 b4 b5 b6 b7,U=[g0,some (.d (.str b)),some (.c S.s.length),b3,b4,b5,b6,b7]/\S'=gK S (pre.foldl (bJ b) ks)/\(pre.foldl (bJ b) ks).length<=ks.length+(pre.map λx=>x.outs.length).sum) bs ⟨a3,a4,a5,a6,a7,rfl,rfl,Hi _ _⟩ (by
  rintro d x r eq U S' ⟨b3,b4,b5,b6,b7,rfl,rfl,hl⟩;rw[eq,c_,bL,List.sum_append,rF] at h;have hf:=Ot x.outs (d.foldl (bJ b) ks);have e1:aN [(af 3),(af 4),(af 5),(af 6)] (av x) [g0,some (.d (.str b)),some (.c S.s.length),b3,b4,b5,b6,b7]=some [g0,some (.d (.str b)),some (.c S.s.length),some (.d (.str x.name)),some (.d (.int x.long)),some (.d (.bl x.ring)),some (.d (.lst (dS x.outs))),b7]:=rfl;rw[Me,c_,List.sum_append];show ∃U1 U' S',_/\_/\∃b3 b4 b5 b6 b7,U'=_/\S'=gK S (bJ b (d.foldl (bJ b) ks) x)/\(bJ b (d.foldl (bJ b) ks) x).length<=_+(_+(x.outs.length+0));obtain⟨a',e2⟩:=Ww (S:=S) (g0:=g0) (g1:=some (.d (.str b))) (g3:=some (.d (.str x.name))) (g4:=some (.d (.int x.long))) (g5:=some (.d (.bl x.ring))) (g6:=some (.d (.lst (dS x.outs)))) (a:=b7) x.outs (d.foldl (bJ b) ks) (by lia)
  generalize d.foldl (bJ b) ks=ks1 at *;unfold bJ;cases c1:x.name == b with
  |true=>
   refine⟨_,_,_,e1,.inl (by unfold Aq;simp only[↓ev,aV,pZ,c1,iI,e2] <;> rfl),_,_,_,_,_,rfl,?_,?_⟩
   .rw[Ml,aP rfl]
   .rw[Ml,aP rfl];lia
  |false=>
   cases c2:ks1.contains x.name with
   |true=>
    refine⟨_,_,_,e1,.inl (by unfold Aq;simp only[↓ev,aV,pZ,c1,jJ,wu,c2,iI,e2] <;> rfl),_,_,_,_,_,rfl,?_,?_⟩
    .rw[Ht,aP rfl]
    .rw[Ht,aP rfl];lia
   |false=>
    refine⟨_,_,_,e1,.inl (by unfold Aq;simp only[↓ev,aV,pZ,c1,jJ,wu,c2] <;> rfl),_,_,_,_,_,rfl,?_,?_⟩
    .rw[Hk,aK oz]
    .rw[Hk,aK oz];lia)
 exact⟨b3,b4,b5,b6,b7,e⟩
theorem SQ(q:Nat)(xs:List Str)(h:xs.length<=1000000):bB (af 0) (HY q) (HZ q) (dS xs) [none,some (.c S.s.length)] (gK S ks) []=some (.ok (dS (xs.filter λo=>ks.contains o)) (gK S ks)):=by
 rw[dS,yN (λo=>if ks.contains o=true then some (.str o) else none) xs (by lia) λo m=>by
  unfold HY HZ;cases hc:ks.contains o with
  |true=>exact .inr ⟨rd (.str o),.str o,rfl,by simp only[↓ev,jJ,aV,wu,hc],by simp only[↓ev],rfl⟩
  |false=>exact .inl ⟨rfl,by simp only[↓ev,jJ,aV,wu,hc]⟩]
 congr 2
 induction xs with
 |nil=>rfl
 |cons o r ih=>
  grind
theorem Va{h:ay}(sm:r6 h)(b:Str):P0 E9 [.d (aF h),.d (.str b)] (.o (.lst (dS ((h.ae.map ao.name++h.carts).filter λx=>(h.ae.foldl (bJ b) []).contains x)))):=by
 intro S;have h1:=sm.bl;have h2:=sm.ct;have h3:=sm.ou;obtain⟨b3,b4,b5,b6,b7,e⟩:=TX (S:=S) (g0:=some (.d (aF h))) b h.ae [] none none none none none (by rw[Bp];lia)
 have hn:=yx h.ae (by lia)
 have hc:=λq=>SQ (S:=S) (ks:=h.ae.foldl (bJ b) []) q (h.ae.map ao.name++h.carts) (by rw[cP,bc];lia)
 have ap:dS (h.ae.map ao.name)++dS h.carts=dS (h.ae.map ao.name++h.carts):=c_.symm;have le:((dS (h.ae.map ao.name)).length+(dS h.carts).length<=1000000)=True:=bN (by rw[bc,bc,bc];lia)
 have hD:aF h=.tup [.lst (h.ae.map av),.lst (dS h.carts)]:=rfl;rw[show gK S []=⟨S.s++[.o (.ar [])],S.r⟩ from rfl] at e;rw[hD] at e ⊢;unfold E9 NL;simp only[↓ev,ba,cJ,iI,e,gK,hn,eH,le,ap,hc,A5]
end
variable{outs:List Str}{b n:Str}{h:ay}
def Qt(bs:List ao)(b:Str):List Str:=bs.foldl (bJ b) []
inductive RR (bs:List ao) (outs:List Str):Str->Prop
 |base {n:Str}:n∈outs->RR bs outs n
 |step {m n:Str} {b:ao}:RR bs outs m->b∈bs->b.name=m->n∈b.outs->RR bs outs n
theorem iC:∀{ks:List Str} {n:Str},n∈outs.foldl fP ks↔n∈outs\/n∈ks:=by
 induction outs with
 |nil=>intro ks n;simp
 |cons o outs ih=>
  intro ks n;rw[Hr,ih,Wv,y04];constructor
  .rintro(h|h|h)
   .exact .inl (.inr h)
   .exact .inl (.inl h)
   .exact .inr h
  .rintro((h|h)|h)
   .exact .inr (.inl h)
   .exact .inl h
   .exact .inr (.inr h)
theorem Vb{ks:List Str}{x:ao}(h:n∈ks):n∈bJ b ks x:=by
 unfold bJ;split
 .exact iC.mpr (.inr h)
 .exact h
theorem Vc{bs:List ao}:∀{ks:List Str} {n:Str},n∈ks->n∈bs.foldl (bJ b) ks:=by
 induction bs with
 |nil=>intro ks n h;exact h
 |cons x bs ih=>intro ks n h;exact ih (Vb h)
theorem NQ{carts:List Str}{b:Str}:∀{bs:List ao} {ks:List Str} {n:Str},lu carts bs->n∈bs.foldl (bJ b) ks->n∈ks\/n∈bs.tail.map ao.name\/n∈carts
 |[],ks,n,_,h=>.inl h
 |x::bs,ks,n,f,h=>by
  rcases NQ f.2.2.2 h with z|z|z
  .unfold bJ at z;split at z
   .rcases iC.mp z with z|z
    .rcases f.1 n z with z|z
     .exact .inr (.inl z)
     .exact .inr (.inr z)
    .exact .inl z
   .exact .inl z
  .refine .inr (.inl ?_);cases bs with
   |nil=>exact z
   |cons y bs=>exact pH _ z
  .exact .inr (.inr z)
theorem HW{carts:List Str}{b:Str}:∀{bs:List ao} {ks:List Str},lu carts bs->∀x∈bs,(x.name=b\/x.name∈bs.foldl (bJ b) ks)->∀o∈x.outs,o∈bs.foldl (bJ b) ks
 |y::bs,ks,f,x,hx,hn,o,ho=>by
  rcases y04.mp hx with rfl|hx
  .have h1:(x.name == b || ks.contains x.name)=true:=by
    rcases hn with hn|hn
    .rw[hn,ju,Ml]
    .rcases NQ (b:=b) f hn with z|z|z
     .rw[iG.mpr z,Ht]
     .exact bW z f.2.1
     .exact bW z f.2.2.1
   show o∈bs.foldl (bJ b) (bJ b ks x);refine Vc ?_;unfold bJ;rw[aP h1];exact iC.mpr (.inl ho)
  .exact HW (ks:=bJ b ks y) f.2.2.2 x hx hn o ho
theorem Ou{CB:List ao}{b:ao}(hb:b∈CB)(hu:∀x∈CB,x.name=b.name->x=b):∀{bs:List ao} {ks:List Str},(∀x∈bs,x∈CB)->(∀n∈ks,RR CB b.outs n)->∀n∈bs.foldl (bJ b.name) ks,RR CB b.outs n
 |[],ks,_,h,n,hn=>h n hn
 |x::bs,ks,hs,h,n,hn=>Ou hb hu (λy hy=>hs y (pH _ hy)) (λm hm=>by
   unfold bJ at hm;split at hm
   .rename_i hc
    rcases iC.mp hm with z|z
    .rw[Bool.or_eq_true,beq_iff_eq,iG] at hc;rcases hc with hc|hc
     .rw[hu x (hs x qW) hc] at z;exact .base z
     .exact .step (h _ hc) (hs x qW) rfl z
    .exact h m z
   .exact h m hm) n hn
theorem Vd(f:lu h.carts h.ae){b:ao}(hb:b∈h.ae)(n:Str):n∈Qt h.ae b.name↔RR h.ae b.outs n:=by
 unfold Qt;constructor
 .exact Ou hb (λx hx e=>wj f x hx b hb e) (λ_ m=>m) (λ_ m=>by cases m) n
 .intro r
  induction r with
  |base m=>exact HW f b hb (.inl rfl) _ m
  |step r hx hn hm ih=>exact HW f _ hx (.inr (by rw[hn];exact ih)) _ hm
theorem Wx{bs:List ao}{w:ao}(hw:w∈bs)(r:RR bs outs w.name)(r2:RR bs w.outs n):RR bs outs n:=by
 induction r2 with
 |base m=>exact .step r hw rfl m
 |step _ hb hn hm ih=>exact .step ih hb hn hm
theorem Jg{h:ay}(g:aB h):∀{bs pre:List ao},h.ae=pre++bs->∀b∈bs,RR h.ae b.outs (h.carts.getD 0 "")
 |x::bs,pre,eq,b,hb=>by
  have wH:h.ae=(pre++[x])++bs:=by rw[eq];simp
  rcases y04.mp hb with rfl|hb
  .have Gu:b∈h.ae:=by rw[eq];simp
   have fx:lu h.carts (b::bs):=BX (by rw[<-eq];exact g.fwd)
   rcases g.hd b Gu with z|⟨o,z1,z2⟩
   .exact .base z
   .rcases fx.1 o z1 with y|y
    .obtain⟨w,hw,ew⟩:=gp.mp y;exact Wx (w:=w) (by rw[wH];simp[hw]) (by rw[ew];exact .base z1) (Jg g wH w hw)
    .exact bW z2 (Fb g.fwd o y)
  .exact Jg g wH b hb
theorem Ck(g:aB h):h.carts.getD 0 ""∈h.carts/\dC (dS h.carts) 0=some (.str (h.carts.getD 0 "")):=by
 have:=g.c0;cases Gw:h.carts with
 |nil=>rw[Gw] at this;simp at this
 |cons c cs=>exact⟨by simp,ra (j:=0) rfl⟩
theorem e3f(g:aB h):P0 ET [.d (aF h)] (rd .aG):=by
 intro S;have bl:=g.sm.bl;obtain⟨hc,i0⟩:=Ck g;have e1:=yx h.ae (by lia)
 obtain⟨U',S',e,a,rfl,rfl⟩:=jI (gg:=af 2) (body:=HP 0) (f:=D.str) (U:=[some (.d (aF h)),some (.d (.str (h.carts.getD 0 ""))),none]) (S:=S) (λ_ U S'=>∃a,U=[some (.d (aF h)),some (.d (.str (h.carts.getD 0 ""))),a]/\S'=S) (h.ae.map ao.name) ⟨_,rfl,rfl⟩ (by
  rintro d x r eq U S' ⟨a,rfl,rfl⟩;obtain⟨b,hb,rfl⟩:∃b∈h.ae,b.name=x:=gp.mp (by rw[eq];simp)
  have e1:=Va g.sm b.name;have hm:((h.ae.map ao.name++h.carts).filter λx=>(h.ae.foldl (bJ b.name) []).contains x).contains (h.carts.getD 0 "")=true:=by
   rw[iG,rB];exact⟨oR _ hc,iG.mpr ((Vd g.fwd hb _).mpr (Jg g (pre:=[]) rfl b hb))⟩
  refine⟨[some (.d (aF h)),some (.d (.str (h.carts.getD 0 ""))),some (.d (.str b.name))],_,_,rfl,.inl ?_,some (.d (.str b.name)),rfl,rfl⟩;unfold HP;generalize((h.ae.map ao.name++h.carts).filter λx=>(h.ae.foldl (bJ b.name) []).contains x)=l at *
  generalize h.carts.getD 0 ""=hand at *;simp only[↓ev,e1,jH,j5,hm,jR,aV])
 have hD:aF h=.tup [.lst (h.ae.map av),.lst (dS h.carts)]:=rfl;generalize h.carts.getD 0 ""=hand at *;rw[hD] at e ⊢;unfold ET MO;simp only[↓ev,eH,i0,ba,cJ,e1,iI,e,oJ]
theorem MR{x z:Str}:∀{ys:List Str} {j:Nat},ys[j]?=some z->x∈ys->x≠z->x∈ys.eraseIdx j
 |y::ys,0,e,hx,eY=>by
  simp_all
 |y::ys,j+1,e,hx,eY=>by
  rw[List.getElem?_cons_succ] at e;show x∈y::ys.eraseIdx j;rcases y04.mp hx with rfl|hx
  .exact .head _
  .exact .tail _ (MR e hx eY)
 |[],_,_,hx,_=>by cases hx
theorem Fc{z:Str}{ys:List Str}(h:z∈ys):∃j,findS ys z=some j:=by
 cases q:findS ys z with
 |some j=>exact⟨j,rfl⟩
 |none=>
  unfold findS at q;rw[List.findIdx?_eq_none_iff] at q;have:=q z h;simp at this
theorem Wy(L:List Str)(j:Nat):(dS L).eraseIdx j=dS (L.eraseIdx j):=by
 grind [List.eraseIdx_eq_take_drop_succ,List.map_take,List.map_drop]
section
variable{S:aO}{s0 s1 s2 s3 s4 s5 a7:ak Val}
theorem Lo{L:List Str}{x:Str}{j:Nat}(hc:L.contains x=true)(hj:findS L x=some j):BL 0 [s0,s1,s2,s3,s4,s5,some (.c S.s.length),some (.d (.str x))] (mK S (dS L))=some (.nx [s0,s1,s2,s3,s4,s5,some (.c S.s.length),some (.d (.str x))] (mK S (dS (L.eraseIdx j)))):=by
 have h:=E5 L;unfold BL;simp only[↓ev,mK,jJ,jH,j5,hc,jR,aV,h,hj,Wy,qU]
theorem Zt(outs L:List Str)(nd:outs.Nodup)(hs:∀o∈outs,o∈L):∃L' b7,aH (af 7) (BL 0) (dS outs) [s0,s1,s2,s3,s4,s5,some (.c S.s.length),a7] (mK S (dS L))=some (.nx [s0,s1,s2,s3,s4,s5,some (.c S.s.length),b7] (mK S (dS L'))):=by
 obtain⟨U',S',e,L',b7,rfl,rfl,_⟩:=jI (gg:=af 7) (body:=BL 0) (f:=D.str) (U:=[s0,s1,s2,s3,s4,s5,some (.c S.s.length),a7]) (S:=mK S (dS L)) (λpre U S'=>∃L' b7,U=[s0,s1,s2,s3,s4,s5,some (.c S.s.length),b7]/\S'=mK S (dS L')/\∀o∈outs,o∉pre->o∈L') outs ⟨L,a7,rfl,rfl,λo ho _=>hs o ho⟩ (by
  rintro q x post eq U S' ⟨L',b7,rfl,rfl,hL⟩;have hxq:x∉q:=λz=>by
   rw[eq] at nd;exact(iF.mp nd).2.2 x z x (.head _) rfl
  have hx:x∈L':=hL x (by rw[eq];simp) hxq
  obtain⟨j,hj⟩:=Fc hx;refine⟨_,_,_,rfl,.inl (Lo (iG.mpr hx) hj),L'.eraseIdx j,some (.d (.str x)),rfl,rfl,λo ho hq=>?_⟩
  simp only[cG,kJ,not_or] at hq;exact MR (BS hj).1 (hL o ho hq.1) hq.2)
 exact⟨L',b7,e⟩
end
theorem Wz(q:List ao)(x:ao)(post:List ao)(i:Int)(hi:i=(q.length:Nat)):cutD ((q++x::post).map av) (some (i+1)) none=post.map av:=by
 unfold cutD;have e4:HT.cw ((q++x::post).map av).length 0 (some (i+1))=q.length+1:=by
  grind [HT.cw]
 have e5:HT.cw ((q++x::post).map av).length ((q++x::post).map av).length none=((q++x::post).map av).length:=rfl;have e6:((q++x::post).map av).drop (q.length+1)=post.map av:=by
  rw[<-Mj,show q++x::post=(q++[x])++post by simp,List.drop_left' (by simp)]
 grind
section
variable{S:aO}{h:ay}
theorem WA{d0:List D}{cs:List Str}{i:Int}{x:ao}{post:List ao}{a4 a5 a6 a7:ak Val}(hs:cutD d0 (some (i+1)) none=post.map av)(hp:post.length<=1000)(hc:cs.length<=1000)(nd:x.outs.Nodup)(sb:∀o∈x.outs,o∈post.map ao.name++cs)(ne:x.outs≠[]):
  ∃L' b7,EM 0 [some (.d (.lst d0)),some (.d (.lst (dS cs))),some (.d (.int i)),some (.d (av x)),a4,a5,a6,a7] S=some (.nx [some (.d (.lst d0)),some (.d (.lst (dS cs))),some (.d (.int i)),some (.d (av x)),some (.d (.str x.name)),some (.d (.lst (dS x.outs))),some (.c S.s.length),b7] (mK S (dS L'))):=by
 obtain⟨L',b7,e⟩:=Zt (S:=S) (s0:=some (.d (.lst d0))) (s1:=some (.d (.lst (dS cs)))) (s2:=some (.d (.int i))) (s3:=some (.d (av x))) (s4:=some (.d (.str x.name))) (s5:=some (.d (.lst (dS x.outs)))) (a7:=a7) x.outs (post.map ao.name++cs) nd sb;have e1:=yx post (by lia)
 have ap:dS (post.map ao.name)++dS cs=dS (post.map ao.name++cs):=c_.symm;have le:((dS (post.map ao.name)).length+(dS cs).length<=1000000)=True:=bN (by rw[bc,bc,bc];lia)
 have z:(dS x.outs).isEmpty=false:=by cases hz:x.outs with|nil=>exact bW hz ne|cons _ _=>rfl
 have hD:av x=.tup [.str x.name,.int x.long,.bl x.ring,.lst (dS x.outs)]:=rfl;refine⟨L',b7,?_⟩;rw[hD] at e ⊢;unfold EM;simp only[↓ev,cJ,ba,AU,is4,hs,e1,le,ap,iI,e,z,oA,aV]
theorem Ve(g:aB h)(ho:∀b∈h.ae,b.outs≠[]):P0 ES [.d (.lst (h.ae.map av)),.d (.lst (dS h.carts))] (rd .aG):=by
 intro S;have bl:=g.sm.bl;have ct:=g.sm.ct;have fw:=g.fwd;obtain⟨U',S',e,a2,a3,a4,a5,a6,a7,L,rfl,rfl⟩:=e6k (gg:=aN [(af 2),(af 3)]) (body:=EM 0) (U:=[some (.d (.lst (h.ae.map av))),some (.d (.lst (dS h.carts))),none,none,none,none,none,none]) (S:=S) av (λpre U S'=>∃a2 a3 a4 a5 a6 a7 L,U=[some (.d (.lst (h.ae.map av))),some (.d (.lst (dS h.carts))),a2,a3,a4,a5,a6,a7]/\S'=⟨S.s++L,S.r⟩) h.ae ⟨_,_,_,_,_,_,[],rfl,by rw[lq]⟩ (by
  rintro q x post eq U S' ⟨a2,a3,a4,a5,a6,a7,L,rfl,rfl⟩;have hb:x∈h.ae:=by rw[eq];simp
  have hl:=congrArg List.length eq;rw[cP,jt] at hl;have fx:lu h.carts (x::post):=BX (by rw[<-eq];exact fw)
  have hs:=Wz q x post (q.length:Nat) rfl;rw[<-eq] at hs;obtain⟨L',b7,e⟩:=WA (S:=⟨S.s++L,S.r⟩) (a4:=a4) (a5:=a5) (a6:=a6) (a7:=a7) (cs:=h.carts) hs (by lia) (by lia) (g.nd x hb) (λo m=>by
   rcases fx.1 o m with z|z
   .exact Ek _ z
   .exact oR _ z) (ho x hb)
  exact⟨_,_,_,rfl,e,_,_,_,_,_,_,L++[.o (.lst (dS L'))],rfl,by unfold mK;rw[mY]⟩)
 unfold ES MN;simp only[↓ev,iI,e,A5]
theorem Nh(g:aB h):(h.carts++h.ae.map ao.name).Nodup:=by
 refine iF.mpr ⟨g.cn,?_,λa ha b hb e=>Fb g.fwd a ha (e ▸ hb)⟩
 have:∀{bs:List ao},lu h.carts bs->(bs.map ao.name).Nodup:=by
  intro bs
  induction bs with
  |nil=>intro _;exact .nil
  |cons b bs ih=>intro f;exact qr.mpr ⟨f.2.1,ih f.2.2.2⟩
 exact this g.fwd
theorem Zu(g:aB h):P0 ER [.d (aF h)] (rd (.bl true)):=by
 intro S;have ho:∀b∈h.ae,b.outs≠[]:=λb hb z=>by
  rcases g.hd b hb with y|⟨o,y,_⟩
  all_goals simp_all
 have bl:=g.sm.bl;have ct:=g.sm.ct;have nd:=Nh g;have c0:h.carts≠[]:=λz=>by have:=g.c0;rw[z] at this;cases this
 have ln:∀c,S.s.length<(S.s++[c]:List Cell).length:=λc=>by rw[cP];exact vZ _
 have e1:=Zr (S:=⟨S.s++[.o (.ar [])],S.r⟩) (n:=S.s.length) (ks:=[]) (carts:=h.carts) (ln _) g.cm (by rw[xW];exact g.cn) (by rw[Bp];lia) c0
 have e2:=Zs (S:=⟨S.s++[.o (.ar [])],S.r⟩) (n:=S.s.length) (ks:=h.carts) (bs:=h.ae) (ln _) g.nm g.lg nd (by lia)
 have se:∀c:Cell,(S.s++[Cell.o (.ar [])]).set S.s.length c=S.s++[c]:=λc=>qU
 simp only[tk,se,qqc] at e1 e2;have k0:m7 []=[]:=rfl;rw[k0] at e1;have e3:=Ve g ho;have e4:=e3f g;have hD:aF h=.tup [.lst (h.ae.map av),.lst (dS h.carts)]:=rfl;rw[hD] at e4 ⊢;unfold ER MH;simp only[↓ev,cJ,ba,eH,e1,e2,e3,e4,A5]
end
variable{st:Int}
theorem Pg:∀{bs:List ao},(∀b∈bs,b.outs.length<=4)->(bs.map λx=>x.outs.length).sum<=4*bs.length
 |[],_=>bF _
 |b::bs,h=>by
  rw[bL,rF,jt];have:=Pg λb m=>h b (pH _ m)
  have:=h b (qW ..);lia
noncomputable def cN(bs:List ao):Int:=(bs.map ao.long).sum
theorem TY{F:List D}{s rr:List Cell}(h:Fd st F)(s0:0<=st)(s1:st<12)(q n:Nat)(hn:n<=4):bB (af 0) (iH true) (EY q) (eV 0 n) [none,some (.c 0)] ⟨fC F::s,rr⟩ []=some (.ok (dS ((List.range n).map λ(i:Nat)=>i7 st (11 - i))) ⟨fC F::s,rr⟩):=by
 rw[tN,uZ (λ(i:Nat)=>D.str (i7 st (11 - i))) (List.range n) (by rw[t4];lia) λi m=>⟨rd (.str (i7 st (11 - i))),by
  have hi:=uA.mp m;have e:=λq=>Qs h s0 s1 (k:=11 - i) (by lia) (by lia) q s rr
  unfold EY;generalize(i:Int)=ii at *;simp only[↓ev,e],rfl⟩,dS,jS]
 rfl
theorem Zv(q:Nat){S:aO}(bs:List ao)(h:bs.length<=1000):bB (af 0) (iH true) (H9 q) (bs.map av) [none] S []=some (.ok (dS (bs.map ao.name)) S):=by
 rw[uZ (λb=>D.str (ao.name b)) bs (by lia) λb m=>⟨rd (.str b.name),by rfl,rfl⟩,dS,jS]
 rfl
section
variable{F F1 F2 F3:List D}{rr:List Cell}{carts outs:List Str}{bs:List ao}{y:Str}{v w l k mn:Int}{rg:Bool}{a5 a6 a7:ak Val}
abbrev hG(mn:Int)(carts:List Str)(a4 a5 a6 a7:ak Val):Gm:=[some (.c 0),some (.d (.int mn)),some (.d (.lst (dS carts))),some (.c 1),a4,a5,a6,a7]
abbrev sM(F:List D)(bs:List D)(rr:List Cell):aO:=⟨[fC F,.o (.lst bs)],rr⟩
theorem e3g{bd:List D}{nl:List Str}(d1:Dr F 3 v F1)(hv:(v == 0)=rg)(d2:Dr F1 3 w F2)(hr1:rg=true->2+w=l)(hr0:rg=false->1+w=l)(e:∀q S,bB (af 0) (iH true) (H9 q) bd [none] S []=some (.ok (dS nl) S))(ho:ue 0 [.c 0,.d (.lst (dS nl)),.d (.lst (dS carts))] ⟨[fC F2,.o (.lst bd)],rr⟩=some (.ok (.o (.lst (dS outs))) ⟨[fC F3,.o (.lst bd)],rr⟩))(hn:∀s,Az 0 [.c 0,.d (.int k)] ⟨fC F3::s,rr⟩=some (.ok (rd (.str y)) ⟨fC F3::s,rr⟩))(p2:(bd.length<1000000)=True):
  Ar 0 (hG mn carts (some (.d (.int k))) a5 a6 a7) (sM F bd rr)=some (.nx (hG mn carts (some (.d (.int k))) (some (.d (.bl rg))) (some (.d (.int l))) (some (.d (.lst (dS outs))))) (sM F3 (.tup [.str y,.int l,.bl rg,.lst (dS outs)]::bd) rr)):=by
 have Q2:((0:Int)<2^62)=True:=bN (by decide)
 unfold Ar;cases rg with
 |true=>
  have hr:=hr1 rfl;simp only[↓ev,hG,sM,d1,aV,oK,hv,ba,d2,hr,e,ho,hn,Q2,p2,and_self]
 |false=>
  have hr:=hr0 rfl;simp only[↓ev,hG,sM,d1,aV,oK,hv,ba,d2,hr,e,ho,hn,Q2,p2,and_self]
structure Hx (st:Int) (carts:List Str) (m:Int) (bs:List ao):Prop where
 fwd:lu carts bs
 nm:∀b∈bs,∃k:Int,m<=k/\k<5/\b.name=i7 st k
 lg:∀b∈bs,1<=b.long/\b.long<=4/\(b.ring=true->2<=b.long)
 hd:∀b∈bs,carts.getD 0 ""∈b.outs\/∃o∈b.outs,o∈bs.map ao.name
 nd:∀b∈bs,b.outs.Nodup/\b.outs.length<=4
theorem Zw{hand:Str}(h:Fd st F)(s0:0<=st)(s1:st<12)(hh:carts.head?=some hand)(hc:carts.length<=50)(cn:∀c∈carts,∃k:Int,5<=k/\k<12/\c=i7 st k)(k0:0<=k)(k1:k<5)(B:Hx st carts (k+1) bs)(bl:bs.length<=50):
  ∃b F',Fd st F'/\Hx st carts k (b::bs)/\∃b5 b6 b7,Ar 0 (hG mn carts (some (.d (.int k))) a5 a6 a7) (sM F (bs.map av) rr)=some (.nx (hG mn carts (some (.d (.int k))) b5 b6 b7) (sM F' ((b::bs).map av) rr)):=by
 obtain⟨v,F1,v0,v1,h1,d1⟩:=mm h (m:=3) (by decide) (by decide)
 obtain⟨w,F2,w0,w1,h2,d2⟩:=mm h1 (m:=3) (by decide) (by decide)
 obtain⟨outs,F3,h3,ok,eo⟩:=e3c (cb:=.o (.lst (bs.map av))) (rr:=rr) (later:=bs.map ao.name) h2 (by rw[bc];exact bl) hh hc
 have hg:carts.getD 0 ""=hand:=by
  cases carts with
  |nil=>cases hh
  |cons a b=>cases hh;rfl
 refine⟨⟨i7 st k,if(v == 0)=true then 2+w else 1+w,v == 0,outs⟩,F3,h3,⟨⟨λo ho=>cG.mp (ok.sub o ho),λm=>?_,λm=>?_,B.fwd⟩,λb m=>?_,λb m=>?_,λb m=>?_,λb m=>?_⟩,_,_,_,e3g d1 rfl d2 (λe=>(aP e).symm) (λe=>(aK λz=>Bool.noConfusion (z.symm.trans e)).symm) (λq S=>Zv q bs (by lia)) eo (λs=>Qs h3 s0 s1 k0 (by lia) 0 s rr) (bN (by rw[bc];lia))⟩
 .obtain⟨b,hb,e⟩:=gp.mp m;obtain⟨j,j0,j1,ej⟩:=B.nm b hb;have:=Ie s0 s1 (by lia) (by lia) k0 (by lia) (ej.symm.trans e)
  lia
 .obtain⟨j,j0,j1,ej⟩:=cn _ m;have:=Ie s0 s1 k0 (by lia) (by lia) (by lia) ej
  lia
 .rcases y04.mp m with rfl|m
  .exact⟨k,rE _,k1,rfl⟩
  .obtain⟨j,j0,j1,ej⟩:=B.nm b m;exact⟨j,by lia,j1,ej⟩
 .rcases y04.mp m with rfl|m
  .dsimp only;split
   .exact⟨by lia,by lia,λ_=>by lia⟩
   .rename_i e
    exact⟨by lia,by lia,λz=>bW z e⟩
  .exact B.lg b m
 .rcases y04.mp m with rfl|m
  .rw[hg];rcases ok.hand with z|⟨o,z1,z2⟩
   .exact .inl z
   .exact .inr ⟨o,z1,.tail _ z2⟩
  .rcases B.hd b m with z|⟨o,z1,z2⟩
   .exact .inl z
   .exact .inr ⟨o,z1,.tail _ z2⟩
 .rcases y04.mp m with rfl|m
  .exact⟨ok.nd,ok.len⟩
  .exact B.nd b m
theorem Vf{F4:List D}{b4 b5 b6 b7:ak Val}{bl:List D}{c:Int}(d1:Dr F 4 v F1)(d2:Dr F1 3 c F2)(i1:Nat.ble (1+v - 1).natAbs 1000000=true)(i2:Nat.ble (1+c).natAbs 1000000000000=true)(e1:∀q s,bB (af 0) (iH true) (EY q) (eV 0 (1+c).toNat) [none,some (.c 0)] ⟨fC F2::s,rr⟩ []=some (.ok (dS carts) ⟨fC F2::s,rr⟩))
  (e3:aH (af 4) (Ar 0) (qT (1+v - 1) (-1) (1+v - 1 - -1).toNat) (hG (1+v) carts none none none none) (sM F2 [] rr)=some (.nx (hG (1+v) carts b4 b5 b6 b7) (sM F4 bl rr))):Ax 0 [.c 0] ⟨[fC F],rr⟩=some (.ok (rd (.tup [.lst bl,.lst (dS carts)])) ⟨[fC F4],rr⟩):=by
 have h1:Nat.ble (-1:Int).natAbs 1000000=true:=by decide
 unfold Ax NM;simp only[↓ev,d1,ba,d2,i2,iI,e1,aV,i1,h1,and_self,e3,hG,sM];rfl
theorem Qu:∀{bs:List ao},(∀b∈bs,b.long<=4)->cN bs<=4*bs.length
 |[],_=>by unfold cN;simp
 |b::bs,h=>by
  have h1:=h b (.head _);have h2:=Qu (bs:=bs) λx m=>h x (.tail _ m)
  unfold cN at *;rw[bL,rF,jt];lia
theorem Zx(h:Fd st F)(s0:0<=st)(s1:st<12):∃hs F',Fd st F'/\aB hs/\cN hs.ae<=16/\0<hs.ae.length/\hs.ae.length<=4/\Ax 0 [.c 0] ⟨[fC F],rr⟩=some (.ok (rd (aF hs)) ⟨[fC F'],rr⟩):=by
 obtain⟨v,F1,v0,v1,h1,d1⟩:=mm h (m:=4) (by decide) (by decide)
 obtain⟨c,F2,c0,c1,h2,d2⟩:=mm h1 (m:=3) (by decide) (by decide)
 have e1:=λq s=>TY (s:=s) (rr:=rr) h2 s0 s1 q (1+c).toNat (by lia)
 have cn:∀x∈(List.range (1+c).toNat).map (λ(i:Nat)=>i7 st (11 - i)),∃k:Int,5<=k/\k<12/\x=i7 st k:=λx m=>by
  obtain⟨i,hi,rfl⟩:=gp.mp m;have:=uA.mp hi;exact⟨_,by lia,by lia,rfl⟩
 have WQ:((List.range (1+c).toNat).map (λ(i:Nat)=>i7 st (11 - i))).Nodup:=by
  rw[List.Nodup,Mm];refine List.nodup_range.imp_of_mem λ{a b} ma mb ne z=>ne ?_
  have h1:=uA.mp ma;have h2:=uA.mp mb;have:=Ie s0 s1 (by lia) (by lia) (by lia) (by lia) z
  lia
 have cl:((List.range (1+c).toNat).map (λ(i:Nat)=>i7 st (11 - i))).length=(1+c).toNat:=by rw[bc,t4]
 generalize(List.range (1+c).toNat).map (λ(i:Nat)=>i7 st (11 - i))=carts at *
 obtain⟨hand,hh⟩:∃x,carts.head?=some x:=by
  cases carts with
  |nil=>simp at cl;lia
  |cons a b=>exact⟨a,rfl⟩
 obtain⟨U',S',e3,bs,F3,b4,b5,b6,b7,h3,B,bl,rfl,rfl⟩:=jI (gg:=af 4) (body:=Ar 0) (f:=λ(i:Nat)=>D.int (1+v - 1+(i:Int) * -1)) (U:=hG (1+v) carts none none none none) (S:=sM F2 [] rr)
  (λpre U S=>∃bs F3 b4 b5 b6 b7,Fd st F3/\Hx st carts (1+v - pre.length) bs/\bs.length=pre.length/\U=hG (1+v) carts b4 b5 b6 b7/\S=sM F3 (bs.map av) rr) (List.range (1+v - 1 - -1).toNat)
  ⟨[],F2,none,none,none,none,h2,⟨t8,λb m=>(by cases m),λb m=>(by cases m),λb m=>(by cases m),λb m=>(by cases m)⟩,rfl,rfl,rfl⟩ (by
   rintro d i rest eq U S ⟨bs,F3,b4,b5,b6,b7,h3,B,bl,rfl,rfl⟩;obtain⟨hq,hi⟩:=Fq eq;obtain⟨b,F4,h4,B4,c5,c6,c7,e⟩:=Zw (mn:=1+v) (rr:=rr) (k:=1+v - 1+(i:Int) * -1) (a5:=b5) (a6:=b6) (a7:=b7) h3 s0 s1 hh (by lia) cn (by lia) (by lia) (by rw[show 1+v - 1+(i:Int) * -1+1=1+v - (d.length:Int) by lia];exact B) (by lia)
   exact⟨_,_,_,rfl,.inl e,b::bs,F4,_,_,_,_,h4,by rw[cP,pJ,show 1+v - ((d.length+1:Nat):Int)=1+v - 1+(i:Int) * -1 by lia];exact B4,by rw[cP,pJ,jt,bl],rfl,rfl⟩)
 rw[t4] at bl B;have ls:=Qu λb m=>(B.lg b m).2.1
 refine⟨⟨bs,carts⟩,F3,h3,⟨B.fwd,⟨by show bs.length<=100;lia,by show carts.length<=100;lia,?_⟩,λb m=>?_,λc m=>?_,λb m=>⟨(B.lg b m).1,(B.lg b m).2.2⟩,B.hd,WQ,by show 0<carts.length;lia,λb m=>(B.nd b m).1⟩,by show cN bs<=16;lia,by show 0<bs.length;lia,by show bs.length<=4;lia,Vf d1 d2 (Bt (by lia)) (Bt (by lia)) e1 e3⟩
 .have:=Pg (bs:=bs) λb m=>(B.nd b m).2
  show(bs.map λx=>x.outs.length).sum<=900
  lia
 .obtain⟨k,k0,k1,e⟩:=B.nm b m;rw[e];exact Qq s0 s1 (by lia) (by lia)
 .obtain⟨k,k0,k1,e⟩:=cn c m;rw[e];exact Qq s0 s1 (by lia) (by lia)
end
section
variable{h:ay}
theorem e6s{q:Nat}{S:aO}{n:Str}{b:ao}{d0:ak Val}(hb:(b.name == n)=false):Ao q [d0,some (.d (.str n)),some (.d (av b))] S=some (.nx [d0,some (.d (.str n)),some (.d (av b))] S):=by
 unfold Ao av;simp only[↓ev,cJ,aV,pZ,hb]
theorem e3h{q:Nat}{S:aO}{n:Str}{b:ao}{d0:ak Val}(hb:(b.name == n)=true):Ao q [d0,some (.d (.str n)),some (.d (av b))] S=some (.rt (rd (av b)) S):=by
 unfold Ao av;simp only[↓ev,cJ,aV,pZ,hb,eH,kK,AU,ba]
theorem AB(g:aB h){b:ao}(hb:b∈h.ae):Pr yo [.d (aF h),.d (.str b.name)] (rd (av b)):=by
 intro q S;obtain⟨d,r,eq⟩:=List.append_of_mem hb;have e:aH (af 2) (Ao q) (h.ae.map av) [some (.d (aF h)),some (.d (.str b.name)),none] S=some (.rt (rd (av b)) S):=by
  rw[eq];refine Pb (f:=av) (λ_ U S'=>∃a,U=[some (.d (aF h)),some (.d (.str b.name)),a]/\S'=S) d [] _ _ ⟨_,rfl,rfl⟩ ?_ ?_
  .rintro d' y r' e' U S' ⟨a,rfl,rfl⟩;refine⟨_,_,_,rfl,.inl (e6s ?_),_,rfl,rfl⟩;rw[oB];intro z;have hy:y∈d:=by rw[xW] at e';rw[e'];simp
   have e2:=wj g.fwd y (by rw[eq];simp[hy]) b hb z
   have nd:=(iF.mp (Nh g)).2.1;rw[eq,c_,bL] at nd;exact(iF.mp nd).2.2 _ (jT hy) _ (.head _) z
  .rintro U S' ⟨a,rfl,rfl⟩;exact⟨_,rfl,e3h (ju _)⟩
 have hD:aF h=.tup [.lst (h.ae.map av),.lst (dS h.carts)]:=rfl;rw[hD] at e ⊢;unfold yo NK;simp only[↓ev,cJ,Nat.max_zero,e,oJ]
theorem Ov(g:aB h):Pr B_ [.d (aF h)] (rd (aF h)):=by
 intro q S;have bl:=g.sm.bl;have hn:=yx h.ae (by lia)
 have e:∀q S,bB (af 0) (iH true) (Ii q) (dS (h.ae.map ao.name)) [none,some (.d (aF h))] S []=some (.ok (h.ae.map av) S):=λq S=>by
  rw[dS,jS,uZ av h.ae (by lia) λb m=>⟨rd (av b),by
   have hb:=AB g m;unfold Ii;simp only[↓ev,Function.comp,hb],rfl⟩]
 have hD:aF h=.tup [.lst (h.ae.map av),.lst (dS h.carts)]:=rfl;rw[hD] at e ⊢;unfold B_ Og;simp only[↓ev,cJ,hn,e,ba,eH,oJ]
end
theorem oE:atrs.contains (cHall,("built":Str))=true:=by decide +kernel
theorem MD:atrs.contains (cHall,("told_rounds":Str))=true:=by decide +kernel
theorem Ct:atrs.contains (cHall,("now":Str))=true:=by decide +kernel
theorem yy:atrs.contains (cHall,("book":Str))=true:=by decide +kernel
theorem AD:atrs.contains (cHall,("halts":Str))=true:=by decide +kernel
theorem mZ:atrs.contains (cHall,("places":Str))=true:=by decide +kernel
theorem uN:atrs.contains (cHall,("readings":Str))=true:=by decide +kernel
theorem Av:atrs.contains (cHall,("rounded":Str))=true:=by decide +kernel
theorem Jh:atrs.contains (cHall,("gone":Str))=true:=by decide +kernel
theorem uP:atrs.contains (cHall,("carted":Str))=true:=by decide +kernel
section
variable{d0 d1 d2 d3 d4 d5 d6 d7 d8 d9 v:D}
theorem K':fF "told_rounds" v [(("built":Str),d0)]=[(("built":Str),d0),(("told_rounds":Str),v)]:=by kernel_rfl
theorem La:fF "now" v [(("built":Str),d0),(("told_rounds":Str),d1)]=[(("built":Str),d0),(("told_rounds":Str),d1),(("now":Str),v)]:=by kernel_rfl
theorem Lb:fF "book" v [(("built":Str),d0),(("told_rounds":Str),d1),(("now":Str),d2)]=[(("built":Str),d0),(("told_rounds":Str),d1),(("now":Str),d2),(("book":Str),v)]:=by kernel_rfl
theorem Lc:fF "halts" v [(("built":Str),d0),(("told_rounds":Str),d1),(("now":Str),d2),(("book":Str),d3)]=[(("built":Str),d0),(("told_rounds":Str),d1),(("now":Str),d2),(("book":Str),d3),(("halts":Str),v)]:=by kernel_rfl
theorem Ld:fF "places" v [(("built":Str),d0),(("told_rounds":Str),d1),(("now":Str),d2),(("book":Str),d3),(("halts":Str),d4)]=[(("built":Str),d0),(("told_rounds":Str),d1),(("now":Str),d2),(("book":Str),d3),(("halts":Str),d4),(("places":Str),v)]:=by kernel_rfl
theorem Le:fF "readings" v [(("built":Str),d0),(("told_rounds":Str),d1),(("now":Str),d2),(("book":Str),d3),(("halts":Str),d4),(("places":Str),d5)]=[(("built":Str),d0),(("told_rounds":Str),d1),(("now":Str),d2),(("book":Str),d3),(("halts":Str),d4),(("places":Str),d5),(("readings":Str),v)]:=by kernel_rfl
theorem Lf:fF "rounded" v [(("built":Str),d0),(("told_rounds":Str),d1),(("now":Str),d2),(("book":Str),d3),(("halts":Str),d4),(("places":Str),d5),(("readings":Str),d6)]=[(("built":Str),d0),(("told_rounds":Str),d1),(("now":Str),d2),(("book":Str),d3),(("halts":Str),d4),(("places":Str),d5),(("readings":Str),d6),(("rounded":Str),v)]:=by kernel_rfl
theorem Lg:fF "gone" v [(("built":Str),d0),(("told_rounds":Str),d1),(("now":Str),d2),(("book":Str),d3),(("halts":Str),d4),(("places":Str),d5),(("readings":Str),d6),(("rounded":Str),d7)]=[(("built":Str),d0),(("told_rounds":Str),d1),(("now":Str),d2),(("book":Str),d3),(("halts":Str),d4),(("places":Str),d5),(("readings":Str),d6),(("rounded":Str),d7),(("gone":Str),v)]:=by kernel_rfl
theorem Lh:fF "carted" v [(("built":Str),d0),(("told_rounds":Str),d1),(("now":Str),d2),(("book":Str),d3),(("halts":Str),d4),(("places":Str),d5),(("readings":Str),d6),(("rounded":Str),d7),(("gone":Str),d8)]=[(("built":Str),d0),(("told_rounds":Str),d1),(("now":Str),d2),(("book":Str),d3),(("halts":Str),d4),(("places":Str),d5),(("readings":Str),d6),(("rounded":Str),d7),(("gone":Str),d8),(("carted":Str),v)]:=by kernel_rfl
end
def hF(hd:D)(r now:Int)(n:Nat):List (Str×D):=[("built",hd),("told_rounds",.int r),("now",.int now),("book",.ref (n+1)),("halts",.ref (n+2)),("places",.ref (n+3)),("readings",.ref (n+4)),("rounded",.ref (n+5)),("gone",.ref (n+6)),("carted",.ref (n+7))]
section
variable{S:aO}{h:ay}{r:Int}
theorem e3i(g:aB h):B' 0 [.d (.ref S.r.length),.d (aF h),.d (.int r)] ⟨S.s,S.r++[.ins cHall []]⟩=some (.ok (rd .aG) ⟨S.s,S.r++[.ins cHall (hF (aF h) r 0 S.r.length),.o (.ar []),.o (.ar []),.o (.ar []),.o (.ar []),.o (.ar []),.o (.lst []),.o (.ar [])]⟩):=by
 have e1:=Zu g;have e2:=Ov g;generalize aF h=hd at *;unfold B' Om hF;simp only[↓ev,e1,e2,jJ,oE,qU,MD,K',Ct,La,KY,Cg,yy,Lb,AD,Lc,mZ,Ld,uN,Le,Av,Lf,ba,aV,Jh,Lg,uP,Lh,oJ]
end
theorem Ph(a b:Str):decide ((TK.inr a:TK)=TK.inr b)=(a == b):=by
 lia
theorem Fe{α:Type}(e:TK×α)(es:List (TK×α))(k:TK)(v:α):bQ (e::es) k v=if e.1=k then(e.1,v)::es else e::bQ es k v:=rfl
section
variable{α:Type}{k:α->Str}{v:α->D}{xs:List α}{b:Str}{y:D}
def td(k:α->Str)(v:α->D)(xs:List α):List (TK×D):=xs.map λx=>(.inr (k x),v x)
theorem pR:(td k v xs).length=xs.length:=bc ..
theorem Cu(b:Str):∀xs:List α,aL (td k v xs) (.inr b)=(xs.find? λx=>k x == b).map v
 |[]=>rfl
 |x::xs=>by
  have ih:=Cu b xs;unfold aL td at *;rw[bL,t6,t6];dsimp only;rw[Ph];cases(k x == b) with
  |true=>rfl
  |false=>exact ih
theorem kX{x:α}(nd:(xs.map k).Nodup)(hx:x∈xs):aL (td k v xs) (.inr (k x))=some (v x):=by
 rw[Cu];have:xs.find? (λz=>k z == k x)=some x:=by
  induction xs with
  |nil=>cases hx
  |cons z zs ih=>
   rw[bL,qr] at nd;rw[t6];rcases y04.mp hx with e|m
   .rw[<-e,ju]
   .rw[show(k z == k x)=false by rw[oB];exact λe=>nd.1 (by rw[e];exact jT m)]
    exact ih nd.2 m
 simp_all
theorem e3j(b:Str)(xs:List α):(b∉xs.map k/\aL (td k v xs) (.inr b)=none)\/∃x∈xs,k x=b/\aL (td k v xs) (.inr b)=some (v x):=by
 rw[Cu];cases e:xs.find? (λx=>k x == b) with
 |none=>
  refine .inl ⟨λm=>?_,rfl⟩
  obtain⟨x,hx,ex⟩:=gp.mp m;have:=Eo.mp e x hx;rw[ex,ju] at this;exact this rfl
 |some x=>exact .inr ⟨x,Hu e,by have:=Mn e;exact beq_iff_eq.mp this,rfl⟩
theorem Cv(h:b∉xs.map k):bQ (td k v xs) (.inr b) y=td k v xs++[(.inr b,y)]:=by
 induction xs with
 |nil=>rfl
 |cons x xs ih=>
  rw[bL,y04,not_or] at h;unfold td at *;rw[bL,Fe,aK (λe=>h.1 (TK.inr.inj e).symm),ih h.2]
  rfl
theorem Qv(nd:(xs.map k).Nodup)(h:b∈xs.map k):bQ (td k v xs) (.inr b) y=td k (λx=>if k x=b then y else v x) xs:=by
 induction xs with
 |nil=>cases h
 |cons x xs ih=>
  rw[bL,qr] at nd;unfold td at *;rw[bL,bL,Fe];dsimp only;by_cases e:k x=b
  .rw[aP (by rw[e]),aP e]
   congr 1
   refine Bu λz m=>?_
   rw[aK λe2=>nd.1 (by rw[e,<-e2];exact jT m)]
  .rw[aK (λe2=>e (TK.inr.inj e2)),aK e,ih nd.2]
   rcases y04.mp h with z|z
   .exact bW z.symm e
   .exact z
theorem FL:dq (td k v xs) b=td k v (xs.filter λx=>decide (k x≠b)):=by
 unfold dq td;rw[List.filter_map]
 congr 1
 refine List.filter_congr λx _=>?_
 unfold gj;dsimp only[Function.comp];exact decide_eq_decide.mpr (not_congr ⟨λz=>TK.inr.inj z,λz=>congrArg TK.inr z⟩)
theorem Zy:(td k v xs).map (·.1.d)=dS (xs.map k):=by
 unfold td dS;rw[jS,jS];refine Bu λx _=>?_
 simp[TK.d]
theorem yE:fV (td k v xs)=true:=by
 unfold td fV;rw[Hj];exact pK.mpr λx _=>rfl
end
section
variable{hd:D}{r nw v:Int}{n:Nat}
theorem o8:List.lookup ("built":Str) (hF hd r nw n)=some (hd):=by kernel_rfl
theorem Sq:List.lookup ("told_rounds":Str) (hF hd r nw n)=some (.int r):=by kernel_rfl
theorem Gb:List.lookup ("now":Str) (hF hd r nw n)=some (.int nw):=by kernel_rfl
theorem AQ:List.lookup ("book":Str) (hF hd r nw n)=some (.ref (n+1)):=by kernel_rfl
theorem Cb:List.lookup ("halts":Str) (hF hd r nw n)=some (.ref (n+2)):=by kernel_rfl
theorem nz:List.lookup ("places":Str) (hF hd r nw n)=some (.ref (n+3)):=by kernel_rfl
theorem wc:List.lookup ("readings":Str) (hF hd r nw n)=some (.ref (n+4)):=by kernel_rfl
theorem BY:List.lookup ("rounded":Str) (hF hd r nw n)=some (.ref (n+5)):=by kernel_rfl
theorem Pj:List.lookup ("gone":Str) (hF hd r nw n)=some (.ref (n+6)):=by kernel_rfl
theorem we:List.lookup ("carted":Str) (hF hd r nw n)=some (.ref (n+7)):=by kernel_rfl
theorem e3k:fF "now" (.int v) (hF hd r nw n)=hF hd r v n:=by kernel_rfl
end
variable{hd:D}
section
variable{hd:D}{r nw:Int}{n:Nat}
theorem Vg:Cell.kO cHall ("flight":Str) (.ins cHall (hF hd r nw n))=true:=by kernel_rfl
theorem Zz:Cell.kO cHall ("stop":Str) (.ins cHall (hF hd r nw n))=true:=by kernel_rfl
theorem WB:Cell.kO cHall ("start":Str) (.ins cHall (hF hd r nw n))=true:=by kernel_rfl
theorem Qw:Cell.kO cHall ("put":Str) (.ins cHall (hF hd r nw n))=true:=by kernel_rfl
theorem HL:Cell.kO cHall ("check_flight":Str) (.ins cHall (hF hd r nw n))=true:=by kernel_rfl
theorem yi:Cell.kO cHall ("check_belt":Str) (.ins cHall (hF hd r nw n))=true:=by kernel_rfl
theorem EK:Cell.kO cHall ("check_inside":Str) (.ins cHall (hF hd r nw n))=true:=by kernel_rfl
theorem WC:Cell.kO cHall ("house":Str) (.ins cHall (hF hd r nw n))=true:=by kernel_rfl
theorem ID:Cell.kO cHall ("rounds":Str) (.ins cHall (hF hd r nw n))=true:=by kernel_rfl
theorem Vh:Cell.kO cHall ("moment":Str) (.ins cHall (hF hd r nw n))=true:=by kernel_rfl
theorem Ni:Cell.kO cHall ("stopped":Str) (.ins cHall (hF hd r nw n))=true:=by kernel_rfl
theorem yz:Cell.kO cHall ("bags":Str) (.ins cHall (hF hd r nw n))=true:=by kernel_rfl
theorem e3l:Cell.kO cHall ("out":Str) (.ins cHall (hF hd r nw n))=true:=by kernel_rfl
theorem Fs:Cell.kO cHall ("where":Str) (.ins cHall (hF hd r nw n))=true:=by kernel_rfl
theorem Iq:Cell.kO cHall ("cart_of":Str) (.ins cHall (hF hd r nw n))=true:=by kernel_rfl
theorem Ir:Cell.kO cHall ("catches":Str) (.ins cHall (hF hd r nw n))=true:=by kernel_rfl
theorem S9:Cell.kO cHall ("in_order":Str) (.ins cHall (hF hd r nw n))=true:=by kernel_rfl
theorem ZA:Cell.kO cHall ("move":Str) (.ins cHall (hF hd r nw n))=true:=by kernel_rfl
theorem TZ:Cell.kO cHall ("move_on":Str) (.ins cHall (hF hd r nw n))=true:=by kernel_rfl
theorem S_:Cell.kO cHall ("move_out":Str) (.ins cHall (hF hd r nw n))=true:=by kernel_rfl
end
structure Row where
 bag:Str
 b:Str
 i:Int
 fl:ak Str
 gn:Int
instance:Inhabited Row:=⟨"","",0,none,0⟩
structure Hl where
 now:Int
 book:List (Str×Str×Int)
 halts:List Str
 rows:List Row
 gone:List (Str×Str×Int)
def aS:ak Str->D
 |none=>.aG
 |some x=>.str x
abbrev pl(b:Str)(i:Int):D:=.tup [.str b,.int i]
def t3(p:Str×Str×Int):D:=.tup [.str p.1,.str p.2.1,.int p.2.2]
def ui(l:List (Str×Str×Int)):List (TK×D):=td (·.1) t3 l
def eA(l:List Row):List (TK×D):=td Row.bag (λr=>pl r.b r.i) l
def pC(l:List Row):List (TK×D):=td Row.bag (λr=>aS r.fl) l
def mR(l:List Row):List (TK×D):=td Row.bag (λr=>.int r.gn) l
def u9(l:List (Str×Str×Int)):List (TK×D):=td (·.1) (λp=>.str p.2.1) l
def uj(l:List (Str×Str×Int)):List D:=l.map t3
abbrev hR(hd:D)(r:Int)(x:Hl):List Cell:=[.ins cHall (hF hd r x.now 0),.o (.ar (ui x.book)),.o (.ar (m7 x.halts)),.o (.ar (eA x.rows)),.o (.ar (pC x.rows)),.o (.ar (mR x.rows)),.o (.lst (uj x.gone)),.o (.ar (u9 x.gone))]
noncomputable abbrev hS(hd:D)(r:Int)(x:Hl)(s:List Cell):aO:=⟨s,hR hd r x⟩
section
variable{s:List Cell}{h:ay}{r:Int}{x:Hl}{q:Nat}{b:Str}
theorem WD(g:aB h):E_ q [.d (.ref 0)] (hS (aF h) r x s)=some (.ok (rd (aF h)) (hS (aF h) r x s)):=by
 have e2:=Ov g;unfold E_ NO;generalize aF h=hd at *;simp only[↓ev,hR,oE,o8,e2,eE]
theorem IE:BU q [.d (.ref 0)] (hS hd r x s)=some (.ok (rd (.int r)) (hS hd r x s)):=by
 unfold BU Nc;simp only[↓ev,hR,MD,Sq,eE]
theorem e3m:AN q [.d (.ref 0)] (hS hd r x s)=some (.ok (.o (.lst (uj x.gone))) (hS hd r x s)):=by
 unfold AN Pc;simp only[↓ev,hR,Jh,Pj,ba,eE]
theorem IF(g:aB h){v:Bool}(hb:(h.ae.map ao.name).contains b=v):Al q [.d (.ref 0),.d (.str b)] (hS (aF h) r x s)=some (if v=true then .ok (rd .aG) (hS (aF h) r x s) else .ex 116 none (hS (aF h) r x s)):=by
 have bl:=g.sm.bl;have hn:=yx h.ae (by lia)
 unfold Al MC aF;cases v with
 |true=>simp only[↓ev,hR,oE,o8,cJ,hn,jH,j5,hb,jR,aV,eE]
 |false=>simp only[↓ev,hR,oE,o8,cJ,hn,jH,j5,hb,oA,eE,aV]
theorem A1{α:Type}{k:α->Str}{v:α->D}{xs:List α}{b:Str}:(aL (td k v xs) (.inr b)).isSome=(xs.map k).contains b:=by
 rcases e3j (k:=k) (v:=v) b xs with⟨h,e⟩|⟨x,m,ek,e⟩
 .rw[e,show(xs.map k).contains b=false by rw[t7];exact λz=>h (iG.mp z)];rfl
 .rw[e,show(xs.map k).contains b=true from iG.mpr (by rw[<-ek];exact jT m)];rfl
theorem WE(q:Nat)(ns:List Str)(hl:ns.length<=1000):bB (af 0) (HS q) (HU q) (dS ns) [none,some (.d (.ref 0))] (hS hd r x s) []=some (.ok (dS (ns.filter λn=>x.halts.contains n)) (hS hd r x s)):=by
 rw[dS,yN (λo=>if x.halts.contains o=true then some (.str o) else none) ns (by lia) λo m=>by
  have v:=wu o x.halts;unfold HS HU;cases hc:x.halts.contains o with
  |true=>
   rw[hc] at v;exact .inr ⟨rd (.str o),.str o,rfl,by simp only[↓ev,hR,AD,Cb,ba,aV,v],by simp only[↓ev],rfl⟩
  |false=>
   rw[hc] at v;exact .inl ⟨rfl,by simp only[↓ev,hR,AD,Cb,ba,aV,v]⟩]
 congr 2
 induction ns with
 |nil=>rfl
 |cons o ns ih=>
  have ih:=ih (by rw[jt] at hl;lia)
  cases hc:x.halts.contains o with
  |true=>rw[Mi (b:=D.str o) (by rw[hc];rfl),ih,List.filter_cons_of_pos hc];rfl
  |false=>rw[Mh (by rw[hc];rfl),ih,List.filter_cons_of_neg (by rw[hc];exact oz)]
noncomputable def bx(h:ay)(x:Hl):List Str:=(h.ae.map ao.name).filter λn=>x.halts.contains n
theorem NR(g:aB h):BQ q [.d (.ref 0)] (hS (aF h) r x s)=some (.ok (.o (.lst (dS (bx h x)))) (hS (aF h) r x s)):=by
 have bl:=g.sm.bl;have hn:=yx h.ae (by lia)
 have e:=λq=>WE (s:=s) (r:=r) (x:=x) (hd:=aF h) q (h.ae.map ao.name) (by rw[bc];lia)
 unfold BQ MY bx aF at *;simp only[↓ev,hR,oE,o8,cJ,hn,e,eE]
end
variable{h:ay}{b:Str}{S:aO}
noncomputable def rk(h:ay)(b:Str):Int:=((findS (h.ae.map ao.name) b).getD 0:Nat)
theorem Ow:∀xs:List Str,dZ (dS xs)=some xs
 |[]=>rfl
 |x::xs=>by
  have ih:=Ow xs;show(dZ (D.str x::dS xs))=_;unfold dZ;rw[ih];rfl
theorem e3n(hb:b∈h.ae.map ao.name):iU (.lst (dS (h.ae.map ao.name))) (.str b)=some (rd (.int (rk h b))):=by
 obtain⟨j,hj⟩:=Fc hb;show(dZ (dS _)).bind _=_;unfold rk;rw[Ow,v7,hj];rfl
theorem e3o{c:Str}(hb:b∈h.ae.map ao.name)(hc:c∈h.ae.map ao.name)(e:rk h b=rk h c):b=c:=by
 obtain⟨j,hj⟩:=Fc hb;obtain⟨k,hk⟩:=Fc hc;unfold rk at e;rw[hj,hk] at e;have e:((j:Nat):Int)=(k:Nat):=e;have e:j=k:=by lia
 have h1:=(BS hj).1;have h2:=(BS hk).1;rw[e,h2] at h1;exact(Option.some.inj h1).symm
def ny(h:ay)(r:Row):Prop:=∃bt∈h.ae,bt.name=r.b/\0<=r.i/\r.i<bt.long/\0<=r.gn
theorem ny.nm{r:Row}(o:ny h r):r.b∈h.ae.map ao.name:=by
 obtain⟨bt,hb,e,_⟩:=o;rw[<-e];exact jT hb
def oP(h:ay)(r:Row):D:=.tup [.int (rk h r.b),.int r.i,.str r.bag]
def mH(h:ay)(r:Row):Int×Int:=(rk h r.b,r.i)
def ord(h:ay)(rows:List Row):List Row:=if rows.length<2 then rows else(cR (rows.map (mH h))).map λj=>rows.getD j default
theorem Ox(h:ay):∀rows:List Row,jl (rows.map (oP h))=some (rows.map (mH h))
 |[]=>rfl
 |r::rows=>by
  have ih:=Ox h rows;show jl (D.tup [.int (rk h r.b),.int r.i,.str r.bag]::rows.map (oP h))=_;unfold jl;rw[ih];rfl
theorem Oy{rows:List Row}(nd:(rows.map (mH h)).Nodup):(ord h rows).Perm rows:=by
 unfold ord;split
 .rfl
 .rename_i hl
  obtain⟨p,_⟩:=Fh nd (by rw[bc];lia)
  rw[bc] at p;refine(p.map _).trans ?_;have:(List.range rows.length).map (λj=>rows.getD j default)=rows:=by
   refine Mc λi=>?_
   rw[fW];by_cases hi:i<rows.length
   .rw[z_ hi,i5 hi];simp[hi]
   .rw[Ac (by simp;lia),Ac (by lia)]
    rfl
  rw[this]
theorem e3p(rows:List Row):(List.range (eA rows).length).map (λi=>D.tup ((((eA rows)[i]?).map λp=>[p.1.d,p.2]).getD []))=rows.map λr=>.tup [.str r.bag,pl r.b r.i]:=by
 unfold eA;refine Mc λi=>?_
 rw[pR,fW,fW];by_cases hi:i<rows.length
 .rw[z_ hi,i5 hi];unfold td;rw[En,En,fW,i5 hi];simp[TK.d]
 .rw[Ac (by simp;lia),Ac (by lia)]
  rfl
section
variable{s:List Cell}{h:ay}{r:Int}{x:Hl}{q:Nat}
theorem ZC(q:Nat)(rows:List Row)(hl:rows.length<=1000)(ho:∀w∈rows,ny h w):bB (aN [(af 0),(af 1)]) (iH true) (HM q) (rows.map λw=>.tup [.str w.bag,pl w.b w.i]) [none,none,some (.d (.lst (dS (h.ae.map ao.name))))] S []=some (.ok (rows.map (oP h)) S):=by
 rw[F_ (λw=>some (oP h w)) (λU=>∃a b,U=[a,b,some (.d (.lst (dS (h.ae.map ao.name))))]) rows _ [] ⟨_,_,rfl⟩ (by rw[Bp];lia) λw m U ⟨a,b,hU⟩=>⟨[some (.d (.str w.bag)),some (.d (pl w.b w.i)),some (.d (.lst (dS (h.ae.map ao.name))))],by rw[hU];rfl,⟨_,_,rfl⟩,.inr ⟨rd (oP h w),oP h w,rfl,rfl,by
   have hi:=e3n (ho w m).nm;unfold HM oP;simp only[↓ev,cJ,hi,eH,ba],rfl⟩⟩,List.filterMap_eq_map',xW]
theorem ZD(q:Nat)(l:List Row)(hl:l.length<=1000):bB (af 0) (iH true) (HN q) (l.map (oP h)) [none] S []=some (.ok (dS (l.map Row.bag)) S):=by
 rw[uZ (λw=>.str w.bag) l (by lia) λw m=>⟨rd (.str w.bag),by unfold HN oP;simp only[↓ev,kK],rfl⟩]
 unfold dS;rw[jS];rfl
theorem ZE(g:aB h)(nd:(x.rows.map (mH h)).Nodup)(hl:x.rows.length<64)(ho:∀w∈x.rows,ny h w):BN q [.d (.ref 0)] (hS (aF h) r x s)=some (.ok (.o (.lst (dS ((ord h x.rows).map Row.bag)))) (hS (aF h) r x s)):=by
 have bl:=g.sm.bl;have hn:=yx h.ae (by lia)
 have e1:=λq=>ZC (S:=hS (aF h) r x s) q x.rows (by lia) ho
 have e2:=e3p x.rows;have pl:=(Oy nd).length_eq;have e3:=λq=>ZD (h:=h) (S:=hS (aF h) r x s) q (ord h x.rows) (by lia)
 have e0:fV (eA x.rows)=true:=yE;by_cases lt:x.rows.length<2
 .have h1:((x.rows.map (oP h)).length<2)=True:=bN (by rw[bc];exact lt)
  have h2:ord h x.rows=x.rows:=aP lt;rw[h2] at e3 ⊢;unfold BN HV aF at *;generalize(x.rows.map (oP h))=l1 at *;simp only[↓ev,hR,oE,o8,cJ,hn,ba,mZ,nz,e0,e2,e1,h1,e3,eE]
 .have h1:((x.rows.map (oP h)).length<2)=False:=eq_false (by rw[bc];exact lt)
  have h2:=Ox h x.rows;have h3:((x.rows.map (mH h)).Nodup/\(x.rows.map (mH h)).length<64)=True:=bN ⟨nd,by rw[bc];exact hl⟩
  have h4:lW (x.rows.map (oP h)) (cR (x.rows.map (mH h)))=(ord h x.rows).map (oP h):=by
   unfold ord lW;rw[aK lt,jS];refine Bu λj m=>?_
   have p:=(Fh nd (by rw[bc];lia)).1
   have hj:j<x.rows.length:=by
    have:=uA.mp (p.mem_iff.mp m)
    rwa[bc] at this
   simp[hj]
  unfold BN HV aF at *;generalize(x.rows.map (oP h))=l1 at *;generalize((ord h x.rows).map (oP h))=l2 at *;generalize(x.rows.map (mH h))=ks at *;simp only[↓ev,hR,oE,o8,cJ,hn,ba,mZ,nz,e0,e2,e1,h1,h2,h3,h4,e3,eE]
end
variable{hd:D}
structure Ok (h:ay) (n:Nat) (x:Hl):Prop where
 rw:∀w∈x.rows,ny h w/\jA w.bag/\∀f,w.fl=some f->f∈x.book.map (·.1)
 nd:(x.rows.map Row.bag++x.gone.map (·.1)).Nodup
 un:(x.rows.map λw=>(w.b,w.i)).Nodup
 bk:∀p∈x.book,p.2.1∈h.carts
 bn:(x.book.map (·.1)).Nodup
 rl:x.rows.length<=8
 sz:x.book.length+x.halts.length+x.rows.length+x.gone.length<=n
noncomputable def bC(w:Row):D:=.tup [.str w.bag,aS w.fl,pl w.b w.i,.int w.gn]
section
variable{s:List Cell}{h:ay}{r:Int}{x:Hl}{q n:Nat}{w:Row}
theorem Ok.nb(o:Ok h n x):(x.rows.map Row.bag).Nodup:=(iF.mp o.nd).1
theorem Ok.nk(o:Ok h n x):(x.rows.map (mH h)).Nodup:=by
 have e:=o.un;rw[List.Nodup,Mm] at e ⊢;refine e.imp_of_mem λ{a b} ma mb ne z=>ne ?_
 have h1:=congrArg Prod.fst z;have h2:=congrArg Prod.snd z;rw[show a.b=b.b from e3o (o.rw a ma).1.nm (o.rw b mb).1.nm h1,show a.i=b.i from h2]
theorem Ok.perm(o:Ok h n x):(ord h x.rows).Perm x.rows:=Oy o.nk
theorem Ok.mem(o:Ok h n x):w∈ord h x.rows↔w∈x.rows:=o.perm.mem_iff
theorem Vi(q:Nat)(nb:(x.rows.map Row.bag).Nodup)(l:List Row)(hl:l.length<=1000)(hm:∀w∈l,w∈x.rows):bB (af 0) (iH true) (Il q) (dS (l.map Row.bag)) [none,some (.d (.ref 0))] (hS hd r x s) []=some (.ok (l.map bC) (hS hd r x s)):=by
 rw[show dS (l.map Row.bag)=l.map λw=>.str w.bag by unfold dS;rw[jS];rfl,uZ bC l (by lia) λw m=>⟨rd (bC w),by
  have h1:aL (eA x.rows) (.inr w.bag)=_:=kX nb (hm w m);have h2:aL (pC x.rows) (.inr w.bag)=_:=kX nb (hm w m);have h3:aL (mR x.rows) (.inr w.bag)=_:=kX nb (hm w m);unfold Il bC;generalize aS w.fl=ff at *;simp only[↓ev,hR,uN,wc,ba,h2,mZ,nz,h1,Av,BY,h3],rfl⟩]
theorem A2(g:aB h)(o:Ok h n x):qE q [.d (.ref 0)] (hS (aF h) r x s)=some (.ok (.o (.lst ((ord h x.rows).map bC))) (hS (aF h) r x s)):=by
 have rl:=o.rl;have e1:=λq=>ZE (s:=s) (r:=r) (q:=q) g o.nk (by lia) λw m=>(o.rw w m).1
 have e2:=λq=>Vi (s:=s) (r:=r) (hd:=aF h) q o.nb (ord h x.rows) (by rw[o.perm.length_eq];lia) λw m=>o.mem.mp m
 generalize aF h=hd at *;unfold qE Oi;simp only[↓ev,hR,fJ,S9,e1,e2,eE]
theorem Pk(q:Nat)(hn:jA w.bag)(hw:w∈x.rows)(nb:(x.rows.map Row.bag).Nodup):BK q [.d (.ref 0),.d (.str w.bag)] (hS hd r x s)=some (.ok (rd .aG) (hS hd r x s)):=by
 have h1:aL (eA x.rows) (.inr w.bag)=_:=kX nb hw;unfold BK Mu;simp only[↓ev,hn,aV,hR,mZ,nz,ba,h1,jR,eE]
end
noncomputable def oO(kn:List (Str×Int)):List (TK×D):=kn.map λp=>(.inr p.1,.int p.2)
noncomputable def atS(kn:List (Str×Int))(n:Str):ak Int:=(kn.find? λp=>p.1 == n).map (·.2)
theorem Pl(x:Str):atS [] x=none:=rfl
theorem yq(k:Str)(v:Int)(kn:List (Str×Int))(x:Str):atS ((k,v)::kn) x=if k=x then some v else atS kn x:=by
 unfold atS;rw[t6];by_cases e:k=x
 .rw[aP e,show(k == x)=true by rw[e,ju]];rfl
 .rw[aK e,show(k == x)=false by rw[oB];exact e]
theorem Ft(k:Str)(v:Int)(x:Str):∀kn:List (Str×Int),atS (kn++[(k,v)]) x=(atS kn x).or (if k=x then some v else none)
 |[]=>by rw[xW,yq,Pl,Option.none_or]
 |(k',v')::kn=>by
  rw[List.cons_append,yq,yq,Ft k v x kn];split
  .rfl
  .rfl
theorem Cm(x:Str):∀kn:List (Str×Int),aL (oO kn) (.inr x)=(atS kn x).map .int
 |[]=>rfl
 |(k,v)::kn=>by
  have ih:=Cm x kn;rw[yq];unfold aL oO at *;rw[bL,t6];dsimp only;rw[Ph];by_cases e:k=x
  .rw[aP e,show(k == x)=true by rw[e,ju]];rfl
  .rw[aK e,show(k == x)=false by rw[oB];exact e];exact ih
theorem pg0{a:TK}{y:D}:bQ [] a y=[(a,y)]:=rfl
theorem Pm:∀(kn:List (Str×Int)) (k:Str) (v:Int),atS kn k=none->bQ (oO kn) (.inr k) (.int v)=oO (kn++[(k,v)])
 |[],_,_,_=>rfl
 |(k',v')::kn,k,v,h=>by
  rw[yq] at h;have e:¬k'=k:=λz=>by rw[aP z] at h;cases h
  rw[aK e] at h;show bQ ((TK.inr k',D.int v')::oO kn) (.inr k) (.int v)=(TK.inr k',D.int v')::oO (kn++[(k,v)]);rw[<-Pm kn k v h,Fe,aK (λz=>e (TK.inr.inj z))]
def cY(kn:List (Str×Int))(outs:List Str):List Int:=outs.filterMap (atS kn)
def aZ(aM:Str):List ao->List (Str×Int)
 |[]=>[(aM,0)]
 |b::bs=>if cY (aZ aM bs) b.outs=[] then aZ aM bs else aZ aM bs++[(b.name,b.long+gH (cY (aZ aM bs) b.outs))]
theorem Oz(aM:Str):∀bs:List ao,(aZ aM bs).length<=bs.length+1
 |[]=>bF _
 |b::bs=>by
  have:=Oz aM bs;unfold aZ;split
  .rw[jt];lia
  .rw[cP,pJ,jt];lia
theorem IP{aM:Str}:∀{bs:List ao} {n:Str},n≠aM->n∉bs.map ao.name->atS (aZ aM bs) n=none
 |[],n,h1,_=>by
  show atS [(aM,0)] n=none;rw[yq,aK (λz=>h1 z.symm),Pl]
 |b::bs,n,h1,h2=>by
  rw[bL] at h2;have h3:n≠b.name:=λz=>h2 (by rw[z];exact .head _)
  have ih:=IP (aM:=aM) (bs:=bs) h1 λz=>h2 (.tail _ z)
  unfold aZ;split
  .exact ih
  .rw[Ft,ih,aK (λz=>h3 z.symm)];rfl
theorem ZF(kn:List (Str×Int)):∀outs:List Str,(outs.filterMap λo=>(atS kn o).map D.int)=(cY kn outs).map D.int
 |[]=>rfl
 |o::outs=>by
  grind [cY]
abbrev mL(S:aO)(kn:List (Str×Int)):aO:=⟨S.s++[.o (.ar (oO kn))],S.r⟩
section
variable{S:aO}{kn:List (Str×Int)}{outs:List Str}{g0 g1 a7:ak Val}{x:ao}
theorem OA(q:Nat)(h:outs.length<=1000):bB (af 0) (Ig q) (Ih q) (dS outs) [none,some (.c S.s.length)] (mL S kn) []=some (.ok ((cY kn outs).map D.int) (mL S kn)):=by
 rw[dS,yN (λo=>(atS kn o).map D.int) outs (by lia) λo m=>by
  have v:=Cm o kn;unfold Ig Ih;cases hc:atS kn o with
  |some w=>
   rw[hc] at v;exact .inr ⟨rd (.int w),.int w,rfl,by simp only[↓ev,jJ,aV,v,v8],by simp only[↓ev,jJ,v],rfl⟩
  |none=>
   rw[hc] at v;exact .inl ⟨rfl,by simp only[↓ev,jJ,aV,v,Ab]⟩,ZF]
theorem e3q(ho:x.outs.length<=1000)(hb:cY kn x.outs=[]):As 0 [g0,g1,some (.c S.s.length),some (.d (.str x.name)),some (.d (.int x.long)),some (.d (.bl x.ring)),some (.d (.lst (dS x.outs))),a7] (mL S kn)=some (.nx [g0,g1,some (.c S.s.length),some (.d (.str x.name)),some (.d (.int x.long)),some (.d (.bl x.ring)),some (.d (.lst (dS x.outs))),some (.d (.lst []))] (mL S kn)):=by
 have e:=λq=>OA (S:=S) (kn:=kn) q ho
 rw[hb] at e;unfold As;simp only[↓ev,e,ba,aV]
theorem ZG(ho:x.outs.length<=1000){i:Int}{is:List Int}(hb:cY kn x.outs=i::is)(hn:atS kn x.name=none)(hl:((oO kn).length<1000000)=True):As 0 [g0,g1,some (.c S.s.length),some (.d (.str x.name)),some (.d (.int x.long)),some (.d (.bl x.ring)),some (.d (.lst (dS x.outs))),a7] (mL S kn)=some (.nx [g0,g1,some (.c S.s.length),some (.d (.str x.name)),some (.d (.int x.long)),some (.d (.bl x.ring)),some (.d (.lst (dS x.outs))),some (.d (.lst ((i::is).map D.int)))] (mL S (kn++[(x.name,x.long+gH (i::is))]))):=by
 have e:=λq=>OA (S:=S) (kn:=kn) q ho
 rw[hb] at e;have p:=Pm kn x.name (x.long+gH (i::is)) hn;have z:((i::is).map D.int).isEmpty=false:=rfl;have m:=IB (i::is);have ne:((i::is)=[])=False:=eq_false (List.cons_ne_nil _ _);generalize(i::is).map D.int=l at *;unfold As;simp only[↓ev,e,ba,z,oA,m,ne,jJ,hl,p,qU]
theorem OB{h:ay}(g:aB h){aM:Str}(hc:aM∈h.carts):P0 B8 [.d (aF h),.d (.str aM)] (.o (.ar (oO (aZ aM h.ae)))):=by
 intro S;have bl:=g.sm.bl;have ou:=g.sm.ou;have f:=g.fwd;obtain⟨U',S',e,a3,a4,a5,a6,a7,rfl,rfl⟩:=jI (gg:=aN [(af 3),(af 4),(af 5),(af 6)]) (body:=As 0) (f:=av) (U:=[some (.d (aF h)),some (.d (.str aM)),some (.c S.s.length),none,none,none,none,none]) (S:=mL S (aZ aM [])) (λpre U S'=>∃a3 a4 a5 a6 a7,U=[some (.d (aF h)),some (.d (.str aM)),some (.c S.s.length),a3,a4,a5,a6,a7]/\S'=mL S (aZ aM pre.reverse)) h.ae.reverse ⟨_,_,_,_,_,rfl,rfl⟩ (by
  rintro q x post eq U S' ⟨a3,a4,a5,a6,a7,rfl,rfl⟩;have eb:h.ae=post.reverse++x::q.reverse:=by
   simp_all
  have fx:lu h.carts (x::q.reverse):=BX (by rw[<-eb];exact f)
  have ho:x.outs.length<=1000:=by
   grind
  have hn:atS (aZ aM q.reverse) x.name=none:=IP (λz=>fx.2.2.1 (z ▸ hc)) fx.2.1
  have hl:(aZ aM q.reverse).length<=1000:=by
   grind [Oz]
  rw[List.reverse_append,List.reverse_singleton,List.singleton_append];have ebg:aZ aM (x::q.reverse)=if cY (aZ aM q.reverse) x.outs=[] then aZ aM q.reverse else aZ aM q.reverse++[(x.name,x.long+gH (cY (aZ aM q.reverse) x.outs))]:=by
   rfl
  rw[ebg];generalize aZ aM q.reverse=kn at *;cases hb:cY kn x.outs with
  |nil=>exact⟨_,_,_,rfl,.inl (e3q ho hb),_,_,_,_,_,rfl,by rw[aP rfl]⟩
  |cons i is=>exact⟨_,_,_,rfl,.inl (ZG ho hb hn (bN (by unfold oO;rw[bc];lia))),_,_,_,_,_,rfl,by rw[aK (List.cons_ne_nil _ _)]⟩)
 rw[List.reverse_reverse,List.map_reverse,show mL S (aZ aM [])=⟨S.s++[.o (.ar [(.inr aM,.int 0)])],S.r⟩ from rfl] at e;have hD:aF h=.tup [.lst (h.ae.map av),.lst (dS h.carts)]:=rfl;have tl:∀c:Cell,(S.s++[c]).take S.s.length=S.s:=λc=>List.take_left
 rw[hD] at e ⊢;unfold B8 Od;simp only[↓ev,KY,jJ,ba,Hr,pg0,List.foldl_nil,tl,cJ,iI,e,RF,A5]
end
variable{kn:List (Str×Int)}{outs:List Str}{best:ak Str}
theorem Cd{carts:List Str}:∀{bs:List ao},lu carts bs->∀b∈bs,∀o∈b.outs,o∈bs.map ao.name\/o∈carts
 |x::bs,f,b,hb,o,ho=>by
  rcases y04.mp hb with rfl|hb
  .rcases f.1 o ho with z|z
   .exact .inl (.tail _ z)
   .exact .inr z
  .rcases Cd f.2.2.2 b hb o ho with z|z
   .exact .inl (.tail _ z)
   .exact .inr z
theorem E1{aM:Str}{x:ao}{bs:List ao}{n:Str}(h:n≠x.name):atS (aZ aM (x::bs)) n=atS (aZ aM bs) n:=by
 conv=>lhs;unfold aZ
 split
 .rfl
 .rw[Ft,aK (λz=>h z.symm),Option.or_none]
theorem Nj{kn':List (Str×Int)}(h:∀o∈outs,atS kn o=atS kn' o):cY kn outs=cY kn' outs:=by
 unfold cY
 induction outs with
 |nil=>rfl
 |cons o outs ih=>
  have:=ih λz hz=>h z (.tail _ hz)
  rw[pG,pG,h o (.head _),this]
theorem Ji{carts:List Str}{aM:Str}(hc:aM∈carts):∀{bs:List ao},lu carts bs->∀b∈bs,atS (aZ aM bs) b.name=if cY (aZ aM bs) b.outs=[] then none else some (b.long+gH (cY (aZ aM bs) b.outs))
 |x::bs,f,b,hb=>by
  rcases y04.mp hb with rfl|hb
  .have ho:∀o∈b.outs,o≠b.name:=λo ho z=>by
    rcases f.1 o ho with y|y
    .exact f.2.1 (by rw[<-z];exact y)
    .exact f.2.2.1 (by rw[<-z];exact y)
   have e:=Nj (kn:=aZ aM (b::bs)) (kn':=aZ aM bs) (outs:=b.outs) λo m=>E1 (ho o m)
   rw[e]
   conv=>lhs;unfold aZ
   have hn:atS (aZ aM bs) b.name=none:=IP (λz=>f.2.2.1 (by rw[z];exact hc)) f.2.1
   split
   .exact hn
   .rw[Ft,hn,aP rfl];rfl
  .have hn:b.name≠x.name:=λz=>f.2.1 (by rw[<-z];exact jT (f:=ao.name) hb)
   have ho:∀o∈b.outs,o≠x.name:=λo ho z=>by
    rcases Cd f.2.2.2 b hb o ho with y|y
    .exact f.2.1 (by rw[<-z];exact y)
    .exact f.2.2.1 (by rw[<-z];exact y)
   have e:=Nj (kn:=aZ aM (x::bs)) (kn':=aZ aM bs) (outs:=b.outs) λo m=>E1 (ho o m)
   rw[e,E1 hn];exact Ji hc f.2.2.2 b hb
theorem Pn{carts:List Str}{aM:Str}(hc:aM∈carts):∀{bs:List ao},lu carts bs->atS (aZ aM bs) aM=some 0
 |[],_=>by show atS [(aM,0)] aM=some 0;rw[yq,aP rfl]
 |x::bs,f=>by rw[E1 (λz=>f.2.2.1 (by rw[<-z];exact hc))];exact Pn hc f.2.2.2
def yX(h:ay)(aM n:Str)(c:Int):D:=match atS (aZ aM h.ae) n with
 |none=>.aG
 |some v=>.int (v - c)
def nA(kn:List (Str×Int))(best:ak Str)(o:Str):ak Str:=match atS kn o with
 |none=>best
 |some v=>match best with
  |none=>some o
  |some p=>if v<(atS kn p).getD 0 then some o else best
def fR(kn:List (Str×Int))(outs:List Str):ak Str:=outs.foldl (nA kn) none
def yF(kn:List (Str×Int))(best:ak Str):Prop:=∀p,best=some p->∃v,atS kn p=some v
theorem Nk(h:yF kn best)(o:Str):yF kn (nA kn best o):=by
 intro p e;unfold nA at e;cases q:atS kn o with
 |none=>rw[q] at e;exact h p e
 |some v=>
  rw[q] at e;dsimp only at e;cases best with
  |none=>cases e;exact⟨v,q⟩
  |some p'=>
   dsimp only at e;split at e
   .cases e;exact⟨v,q⟩
   .exact h p e
theorem Po{kn:List (Str×Int)}:∀{outs:List Str} {best:ak Str},yF kn best->yF kn (outs.foldl (nA kn) best)
 |[],_,h=>h
 |o::outs,best,h=>Po (outs:=outs) (Nk h o)
theorem IQ{kn:List (Str×Int)}:∀{outs:List Str} {best:ak Str},yF kn best->
  (outs.foldl (nA kn) best=none↔best=none/\cY kn outs=[])/\
  ∀a,outs.foldl (nA kn) best=some a->(best=some a\/a∈outs)/\∃v,atS kn a=some v/\(∀o∈outs,∀w,atS kn o=some w->v<=w)/\∀p w,best=some p->atS kn p=some w->v<=w
 |[],best,h=>by
  refine⟨⟨λe=>⟨e,rfl⟩,λe=>e.1⟩,λa e=>?_⟩
  obtain⟨v,hv⟩:=h a e;refine⟨.inl e,v,hv,λo m=>(by cases m),λp w e1 e2=>?_⟩
  have e:best=some a:=e;rw[e] at e1;cases e1;rw[hv] at e2;cases e2;exact rE _
 |o::outs,best,h=>by
  obtain⟨i1,i2⟩:=IQ (outs:=outs) (Nk h o);rw[Hr];constructor
  .rw[i1];unfold nA cY;cases q:atS kn o with
   |none=>rw[Mh q]
   |some v=>
    rw[Mi q];constructor
    .rintro⟨e,_⟩;exfalso;cases best with
     |none=>cases e
     |some p=>dsimp only at e;split at e <;> cases e
    .rintro⟨_,e⟩;cases e
  .intro a e;obtain⟨j1,v,j2,j3,j4⟩:=i2 a e;cases q:atS kn o with
   |none=>
    have es:nA kn best o=best:=by unfold nA;rw[q]
    rw[es] at j1 j4;refine⟨?_,v,j2,λo' m w e'=>?_,j4⟩
    .rcases j1 with z|z
     .exact .inl z
     .exact .inr (.tail _ z)
    .rcases y04.mp m with rfl|m
     .rw[q] at e';cases e'
     .exact j3 o' m w e'
   |some u=>
    cases best with
    |none=>
     have es:nA kn none o=some o:=by unfold nA;rw[q]
     rw[es] at j1 j4;refine⟨.inr ?_,v,j2,λo' m w e'=>?_,λp w e'=>(by cases e')⟩
     .rcases j1 with z|z
      .cases z;exact .head _
      .exact .tail _ z
     .rcases y04.mp m with rfl|m
      .rw[q] at e';cases e';exact j4 o' u rfl q
      .exact j3 o' m w e'
    |some p=>
     obtain⟨pv,hp⟩:=h p rfl;by_cases iT:u<pv
     .have es:nA kn (some p) o=some o:=by unfold nA;rw[q];dsimp only;rw[hp,xX,aP iT]
      rw[es] at j1 j4;refine⟨.inr ?_,v,j2,λo' m w e'=>?_,λp' w e1 e2=>?_⟩
      .rcases j1 with z|z
       .cases z;exact .head _
       .exact .tail _ z
      .rcases y04.mp m with rfl|m
       .rw[q] at e';cases e';exact j4 o' u rfl q
       .exact j3 o' m w e'
      .cases e1;rw[hp] at e2;cases e2;have:=j4 o u rfl q;lia
     .have es:nA kn (some p) o=some p:=by unfold nA;rw[q];dsimp only;rw[hp,xX,aK iT]
      rw[es] at j1 j4;refine⟨?_,v,j2,λo' m w e'=>?_,j4⟩
      .rcases j1 with z|z
       .exact .inl z
       .exact .inr (.tail _ z)
      .rcases y04.mp m with rfl|m
       .rw[q] at e';cases e';have:=j4 p pv rfl hp;lia
       .exact j3 o' m w e'
theorem kG{v:Int}:v∈cY kn outs↔∃o∈outs,atS kn o=some v:=mW
theorem lB:fR kn outs=none↔cY kn outs=[]:=by
 have:=(IQ (kn:=kn) (outs:=outs) (best:=none) (λp e=>by cases e)).1
 unfold fR;rw[this];exact⟨λz=>z.2,λz=>⟨rfl,z⟩⟩
theorem Vj{a:Str}(e:fR kn outs=some a):a∈outs/\atS kn a=some (gH (cY kn outs)):=by
 obtain⟨j1,v,j2,j3,_⟩:=(IQ (kn:=kn) (outs:=outs) (best:=none) (λp e=>by cases e)).2 a e
 have ha:a∈outs:=by
  rcases j1 with z|z
  .cases z
  .exact z
 have eY:cY kn outs≠[]:=λz=>by rw[lB.mpr z] at e;cases e
 obtain⟨m1,m2⟩:=NG eY;obtain⟨o,ho,eo⟩:=kG.mp m1;have c1:=j3 o ho _ eo;have c2:=m2 v (kG.mpr ⟨a,ha,j2⟩);exact⟨ha,by rw[j2,show v=gH (cY kn outs) by lia]⟩
section
variable{h:ay}{aM n:Str}{c:Int}
theorem e6t(g:aB h)(hc:aM∈h.carts):P0 Gf [.d (aF h),.d (.tup [.str n,.int c]),.d (.str aM)] (rd (yX h aM n c)):=by
 intro S;have e:=OB g hc;have v:=Cm n (aZ aM h.ae);unfold Gf QN yX;generalize aF h=hd at *;cases hk:atS (aZ aM h.ae) n with
 |none=>
  rw[hk] at v;simp only[↓ev,e,ba,cJ,v,Ab,oA,oJ]
 |some w=>
  rw[hk] at v;simp only[↓ev,e,ba,cJ,v,v8,jR,aV,eH,oJ]
theorem WG{S:aO}(ok:yF kn best)(o:Str){g0 g1 g2:ak Val}:Cj 0 [g0,g1,g2,some (.d (.ar (oO kn))),some (.d (aS best)),some (.d (.str o))] S=some (.nx [g0,g1,g2,some (.d (.ar (oO kn))),some (.d (aS (nA kn best o))),some (.d (.str o))] S):=by
 have v:=Cm o kn;unfold Cj nA;cases hk:atS kn o with
 |none=>
  rw[hk] at v;simp only[↓ev,aV,v,Ab]
 |some w=>
  rw[hk] at v;cases best with
  |none=>
   unfold aS;simp only[↓ev,aV,v,v8,ba]
  |some p=>
   obtain⟨u,hu⟩:=ok p rfl;have v2:=Cm p kn;rw[hu] at v2;unfold aS;by_cases hl:w<u
   .have mE:=bN hl;simp only[↓ev,aV,v,v8,v2,mE,decide_true,ba,hu]
   .have mE:=eq_false hl;simp only[↓ev,aV,v,v8,v2,mE,decide_false,hu]
end
section
variable{h:ay}{aM n:Str}{c:Int}
theorem WH{S:aO}{kn:List (Str×Int)}{outs:List Str}{g0 g1 g2 a:ak Val}:∃a',aH (af 5) (Cj 0) (dS outs) [g0,g1,g2,some (.d (.ar (oO kn))),some (.d .aG),a] S=some (.nx [g0,g1,g2,some (.d (.ar (oO kn))),some (.d (aS (fR kn outs))),a'] S):=by
 obtain⟨U',S',e,a',rfl,rfl⟩:=jI (gg:=af 5) (body:=Cj 0) (f:=D.str) (U:=[g0,g1,g2,some (.d (.ar (oO kn))),some (.d .aG),a]) (S:=S) (λpre U S'=>∃a',U=[g0,g1,g2,some (.d (.ar (oO kn))),some (.d (aS (fR kn pre))),a']/\S'=S) outs ⟨a,rfl,rfl⟩ (by
  rintro d x r eq U S' ⟨a',rfl,rfl⟩;have ok:yF kn (fR kn d):=Po λp z=>by cases z
  refine⟨_,_,_,rfl,.inl (WG ok x),some (.d (.str x)),?_,rfl⟩;unfold fR;rw[Me];rfl)
 exact⟨a',e⟩
theorem Gh(g:aB h){b:ao}(hb:b∈h.ae)(hc:aM∈h.carts):P0 Gg [.d (aF h),.d (.str b.name),.d (.str aM)] (rd (aS (fR (aZ aM h.ae) b.outs))):=by
 intro S;have e1:=OB g hc;have e2:=AB g hb;obtain⟨a',e⟩:=WH (S:=S) (kn:=aZ aM h.ae) (outs:=b.outs) (g0:=some (.d (aF h))) (g1:=some (.d (.str b.name))) (g2:=some (.d (.str aM))) (a:=none);have hD:av b=.tup [.str b.name,.int b.long,.bl b.ring,.lst (dS b.outs)]:=rfl;rw[hD] at e2;unfold Gg QO;generalize aF h=hd at *;simp only[↓ev,e1,ba,e2,AU,iI,e,oJ]
end
noncomputable abbrev iz(h:ay):Str:=h.carts.getD 0 ""
def si(h:ay)(ct:Str)(nw cl:Int)(b:Str)(i:Int):Bool:=match atS (aZ ct h.ae) b with
 |none=>false
 |some v=>decide (nw+(v - i)<=cl)
noncomputable def sE(x:Hl)(w:Row):ak (Str×Int):=w.fl.bind λf=>(x.book.find? λp=>p.1 == f).map (·.2)
def yK(h:ay)(x:Hl)(w:Row):Bool:=match sE x w with
 |none=>false
 |some (ct,cl)=>si h ct x.now cl w.b w.i
def fq(h:ay)(x:Hl)(w:Row):Str:=match sE x w with
 |none=>iz h
 |some (ct,cl)=>if si h ct x.now cl w.b w.i=true then ct else iz h
section
variable{s:List Cell}{h:ay}{r:Int}{x:Hl}{n:Nat}{w:Row}
theorem IG(o:Ok h n x)(hw:w∈x.rows):(w.fl=none/\sE x w=none)\/∃f ct cl,w.fl=some f/\sE x w=some (ct,cl)/\ct∈h.carts/\aL (ui x.book) (.inr f)=some (.tup [.str f,.str ct,.int cl]):=by
 unfold sE;cases hf:w.fl with
 |none=>exact .inl ⟨rfl,rfl⟩
 |some f=>
  have v:aL (ui x.book) (.inr f)=_:=Cu f x.book;cases e:x.book.find? (λp=>p.1 == f) with
  |none=>
   obtain⟨p,hp,ep⟩:=gp.mp ((o.rw w hw).2.2 f hf);have:=Eo.mp e p hp;rw[ep,ju] at this;exact bW rfl this
  |some p=>
   have e1:=Mn e;have e1:p.1=f:=beq_iff_eq.mp e1;refine .inr ⟨f,p.2.1,p.2.2,rfl,by rw[v7,e];rfl,o.bk p (Hu e),?_⟩
   rw[v,e,<-e1];rfl
theorem ZH(g:aB h)(o:Ok h n x)(hw:w∈x.rows):EZ 0 [.d (.ref 0),.d (.str w.bag)] (hS (aF h) r x s)=some (.ok (rd (.bl (yK h x w))) (hS (aF h) r x s)):=by
 have h1:aL (eA x.rows) (.inr w.bag)=_:=kX o.nb hw;have h2:aL (pC x.rows) (.inr w.bag)=_:=kX o.nb hw;unfold EZ MZ yK;rcases IG o hw with⟨e1,e2⟩|⟨f,ct,cl,e1,e2,hc,hk⟩
 .rw[e1] at h2;rw[e2];unfold aS at h2;generalize aF h=hd at *;simp only[↓ev,hR,uN,wc,ba,h2,aV,eE]
 .rw[e1] at h2;rw[e2];unfold aS at h2;have e:=e6t (n:=w.b) (c:=w.i) g hc;unfold yX at e;dsimp only;unfold si;cases hv:atS (aZ ct h.ae) w.b with
  |none=>
   rw[hv] at e;generalize aF h=hd at *;simp only[↓ev,hR,uN,wc,ba,h2,aV,yy,AQ,hk,oE,o8,mZ,nz,h1,eH,e,eE]
  |some v=>
   rw[hv] at e;generalize aF h=hd at *;simp only[↓ev,hR,uN,wc,ba,h2,aV,yy,AQ,hk,oE,o8,mZ,nz,h1,eH,e,Ct,Gb,kK,eE]
theorem e3r(g:aB h)(o:Ok h n x)(hw:w∈x.rows):E0 0 [.d (.ref 0),.d (.str w.bag)] (hS (aF h) r x s)=some (.ok (rd (.str (fq h x w))) (hS (aF h) r x s)):=by
 have h2:aL (pC x.rows) (.inr w.bag)=_:=kX o.nb hw;have e1:=λq=>Pk (s:=s) (r:=r) q (hd:=aF h) (o.rw w hw).2.1 hw o.nb
 have e2:=ZH (s:=s) (r:=r) g o hw;obtain⟨_,ha⟩:=Ck g;have hD:aF h=.tup [.lst (h.ae.map av),.lst (dS h.carts)]:=rfl;rw[hD] at e1 e2 ⊢;unfold E0 M3 fq;unfold yK at e2;rcases IG o hw with⟨e3,e4⟩|⟨f,ct,cl,e3,e4,hc,hk⟩
 .rw[e4] at e2 ⊢;unfold iz;generalize h.carts.getD 0 ""=hnd at *;simp only[↓ev,hR,fJ,EK,e1,Ir,e2,aV,oE,o8,eH,ha,eE]
 .rw[e4] at e2 ⊢;rw[e3] at h2;unfold aS at h2;dsimp only at e2 ⊢;unfold iz;generalize h.carts.getD 0 ""=hnd at *;cases hb:si h ct x.now cl w.b w.i with
  |true=>
   rw[hb] at e2;simp only[↓ev,hR,fJ,EK,e1,Ir,e2,yy,AQ,ba,uN,wc,h2,hk,eH,eE]
  |false=>
   rw[hb] at e2;simp only[↓ev,hR,fJ,EK,e1,Ir,e2,aV,oE,o8,eH,ha,eE]
theorem IS(g:aB h):∀{bs pre:List ao},h.ae=pre++bs->∀b∈bs,∃v,atS (aZ (iz h) h.ae) b.name=some v
 |x::bs,pre,eq,b,hb=>by
  have wH:h.ae=(pre++[x])++bs:=by rw[eq];simp
  rcases y04.mp hb with rfl|hb
  .have Gu:b∈h.ae:=by rw[eq];simp
   have fx:lu h.carts (b::bs):=BX (by rw[<-eq];exact g.fwd)
   have key:∀o∈b.outs,∀v,atS (aZ (iz h) h.ae) o=some v->∃v,atS (aZ (iz h) h.ae) b.name=some v:=λo m v e=>by
    have hm:=kG.mpr ⟨o,m,e⟩;rw[Ji (Ck g).1 g.fwd b Gu,aK λz=>by rw[z] at hm;cases hm]
    exact⟨_,rfl⟩
   rcases g.hd b Gu with z|⟨o,z1,z2⟩
   .exact key _ z _ (Pn (Ck g).1 g.fwd)
   .rcases fx.1 o z1 with y|y
    .obtain⟨w,hw,rfl⟩:=gp.mp y;obtain⟨v,e⟩:=IS g wH w hw;exact key _ z1 v e
    .exact bW z2 (Fb g.fwd o y)
  .exact IS g wH b hb
theorem Pp(g:aB h)(o:Ok h n x)(hw:w∈x.rows):fq h x w∈h.carts/\∃v,atS (aZ (fq h x w) h.ae) w.b=some v:=by
 obtain⟨bt,hb,eb,_⟩:=(o.rw w hw).1;have hh:iz h∈h.carts/\∃v,atS (aZ (iz h) h.ae) w.b=some v:=⟨(Ck g).1,by rw[<-eb];exact IS g (pre:=[]) (bs:=h.ae) rfl bt hb⟩
 unfold fq;rcases IG o hw with⟨e3,e4⟩|⟨f,ct,cl,e3,e4,hc,hk⟩
 .rw[e4];exact hh
 .rw[e4];dsimp only;split
  .rename_i y6
   refine⟨hc,?_⟩;unfold si at y6;cases hv:atS (aZ ct h.ae) w.b with
   |none=>rw[hv] at y6;cases y6
   |some v=>exact⟨v,rfl⟩
  .exact hh
end
variable{bt:ao}{o:Str}{busy:List Str}
abbrev Goal:=Str×ak Int
def gD:Goal->D
 |(c,none)=>.str c
 |(b,some i)=>pl b i
section
variable{s:List Cell}{h:ay}{r:Int}{x:Hl}{n:Nat}{w:Row}{ct:Str}
theorem e3s(g:aB h)(hb:bt∈h.ae)(hc:ct∈h.carts)(ho:fR (aZ ct h.ae) bt.outs=some o)(hi:h.carts.contains o=true){busy:D}:P0 q9 [.d (aF h),.d (av bt),.d (.str ct),.d busy] (rd (.str o)):=by
 intro S;have e:=Gh g hb hc;rw[ho] at e;have hD:aF h=.tup [.lst (h.ae.map av),.lst (dS h.carts)]:=rfl;have hB:av bt=.tup [.str bt.name,.int bt.long,.bl bt.ring,.lst (dS bt.outs)]:=rfl;rw[hD] at e ⊢;rw[hB];unfold q9 BW;unfold aS at e;simp only[↓ev,cJ,e,ba,eH,jH,aV,j5,hi,oJ]
theorem e3t(g:aB h)(hb:bt∈h.ae)(hc:ct∈h.carts)(ho:fR (aZ ct h.ae) bt.outs=some o)(hi:h.carts.contains o=false)(hy:busy.contains o=false):P0 q9 [.d (aF h),.d (av bt),.d (.str ct),.d (.lst (dS busy))] (rd (pl o 0)):=by
 intro S;have e:=Gh g hb hc;rw[ho] at e;have hD:aF h=.tup [.lst (h.ae.map av),.lst (dS h.carts)]:=rfl;have hB:av bt=.tup [.str bt.name,.int bt.long,.bl bt.ring,.lst (dS bt.outs)]:=rfl;rw[hD] at e ⊢;rw[hB];unfold q9 BW;unfold aS at e;cases hr:bt.ring with
 |true=>simp only[↓ev,cJ,e,ba,eH,jH,aV,j5,hi,kK,hy,oJ]
 |false=>simp only[↓ev,cJ,e,ba,eH,jH,aV,j5,hi,kK,oJ]
theorem e3u(g:aB h)(hb:bt∈h.ae)(hc:ct∈h.carts)(ho:fR (aZ ct h.ae) bt.outs=some o)(hi:h.carts.contains o=false)(hr:bt.ring=true)(hy:busy.contains o=true):P0 q9 [.d (aF h),.d (av bt),.d (.str ct),.d (.lst (dS busy))] (rd (pl bt.name 0)):=by
 intro S;have e:=Gh g hb hc;rw[ho] at e;have hD:aF h=.tup [.lst (h.ae.map av),.lst (dS h.carts)]:=rfl;have hB:av bt=.tup [.str bt.name,.int bt.long,.bl bt.ring,.lst (dS bt.outs)]:=rfl;rw[hD] at e ⊢;rw[hB,hr];unfold q9 BW;unfold aS at e;simp only[↓ev,cJ,e,ba,eH,jH,aV,j5,hi,kK,hy,oJ]
theorem e3v(g:aB h)(hb:bt∈h.ae)(hc:ct∈h.carts)(ho:fR (aZ ct h.ae) bt.outs=some o)(hi:h.carts.contains o=false)(hr:bt.ring=false):P0 q9 [.d (aF h),.d (av bt),.d (.str ct),.d (.lst (dS busy))] (rd (pl o 0)):=by
 intro S;have e:=Gh g hb hc;rw[ho] at e;have hD:aF h=.tup [.lst (h.ae.map av),.lst (dS h.carts)]:=rfl;have hB:av bt=.tup [.str bt.name,.int bt.long,.bl bt.ring,.lst (dS bt.outs)]:=rfl;rw[hD] at e ⊢;rw[hB,hr];unfold q9 BW;unfold aS at e;simp only[↓ev,cJ,e,ba,eH,jH,aV,j5,hi,kK,oJ]
def eI(h:ay)(x:Hl):List Str:=bx h x++(ord h x.rows).filterMap λw=>if(w.i == 0)=true then some w.b else none
theorem Vk(q:Nat)(l:List Row)(hl:l.length<=1000){S:aO}:bB (af 0) (HQ q) (HR q) (l.map bC) [none] S []=some (.ok (dS (l.filterMap λw=>if(w.i == 0)=true then some w.b else none)) S):=by
 rw[yN (λw=>(if(w.i == 0)=true then some w.b else none).map D.str) l (by lia) λw m=>by
  unfold HQ HR bC;generalize aS w.fl=ff at *;cases hc:(w.i == 0) with
  |true=>exact .inr ⟨rd (.str w.b),.str w.b,rfl,by simp only[↓ev,kK,eH,aV,oK,hc],by simp only[↓ev,kK,cJ],rfl⟩
  |false=>exact .inl ⟨rfl,by simp only[↓ev,kK,eH,aV,oK,hc]⟩]
 congr 2
 unfold dS;rw[List.map_filterMap]
theorem e3w(g:aB h)(o:Ok h n x):EU 0 [.d (.ref 0)] (hS (aF h) r x s)=some (.ok (.o (.lst (dS (eI h x)))) (hS (aF h) r x s)):=by
 have rl:=o.rl;have e1:=λq=>NR (s:=s) (r:=r) (q:=q) (x:=x) g
 have e2:=λq=>A2 (s:=s) (r:=r) (q:=q) g o
 have e3:=λq=>Vk (S:=hS (aF h) r x s) q (ord h x.rows) (by rw[o.perm.length_eq];lia)
 have hl:((dS (bx h x)).length+(dS ((ord h x.rows).filterMap λw=>if(w.i == 0)=true then some w.b else none)).length<=1000000)=True:=bN (by
  have h1:(bx h x).length<=(h.ae.map ao.name).length:=Ad _ _;have h2:=Hv (λw:Row=>if(w.i == 0)=true then some w.b else none) (ord h x.rows)
  have h3:=o.perm.length_eq;have h4:=g.sm.bl;rw[bc] at h1;rw[bc,bc];lia)
 generalize aF h=hd at *;unfold EU MP eI;rw[dS,c_,<-dS,<-dS];simp only[↓ev,hR,fJ,Ni,e1,yz,e2,e3,hl,eE]
def tu(h:ay)(x:Hl)(bt:ao)(o:Str):Goal:=if h.carts.contains o=true then(o,none) else if(bt.ring&&(eI h x).contains o)=true then(bt.name,some 0) else(o,some 0)
def kx(h:ay)(r:Int)(x:Hl)(w:Row)(bt:ao):Goal:=if w.i+1<bt.long then(bt.name,some (w.i+1)) else if bt.ring=true/\w.fl=none/\w.gn<r then(bt.name,some 0) else tu h x bt ((fR (aZ (fq h x w) h.ae) bt.outs).getD "")
def ai(h:ay)(r:Int)(x:Hl)(w:Row):Goal:=match findB h.ae w.b with
 |none=>(w.b,none)
 |some bt=>kx h r x w bt
theorem B2(g:aB h)(hb:bt∈h.ae):findB h.ae bt.name=some bt:=by
 unfold findB;cases e:h.ae.find? (λb=>b.name == bt.name) with
 |none=>
  have:=Eo.mp e bt hb;rw[ju] at this;exact bW rfl this
 |some c=>
  have h1:=Mn e;rw[wj g.fwd c (Hu e) bt hb (beq_iff_eq.mp h1)]
theorem Jw(g:aB h)(o:Ok h n x)(hw:w∈x.rows)(hb:bt∈h.ae)(eb:bt.name=w.b):∃a,fR (aZ (fq h x w) h.ae) bt.outs=some a/\a∈bt.outs:=by
 obtain⟨hc,v,hv⟩:=Pp g o hw;have bg:=Ji hc g.fwd bt hb;rw[eb,hv] at bg;have eY:¬cY (aZ (fq h x w) h.ae) bt.outs=[]:=λz=>by rw[aP z] at bg;cases bg
 cases e:fR (aZ (fq h x w) h.ae) bt.outs with
 |none=>exact bW (lB.mp e) eY
 |some a=>exact⟨a,rfl,(Vj e).1⟩
theorem WR(g:aB h)(hb:bt∈h.ae)(hc:ct∈h.carts)(ho:fR (aZ ct h.ae) bt.outs=some o):P0 q9 [.d (aF h),.d (av bt),.d (.str ct),.d (.lst (dS (eI h x)))] (rd (gD (tu h x bt o))):=by
 unfold tu;cases e1:h.carts.contains o with
 |true=>exact e3s g hb hc ho e1
 |false=>
  rw[aK (by decide)]
  cases e2:bt.ring with
  |false=>exact e3v g hb hc ho e1 e2
  |true=>
   cases e3:(eI h x).contains o with
   |true=>exact e3u g hb hc ho e1 e2 e3
   |false=>exact e3t g hb hc ho e1 e3
end
section
variable{s:List Cell}{h:ay}{r:Int}{x:Hl}{n:Nat}{w:Row}{bt:ao}{aU:List D}{a8 a9:ak Val}{bz:D}
abbrev wS(hd:D)(r:Int)(x:Hl)(s:List Cell)(aU:List D):aO:=⟨s++[.o (.lst aU)],hR hd r x⟩
theorem LW(g:aB h)(hb:bt∈h.ae)(eb:bt.name=w.b)(hl:(w.i+1<bt.long)=True)(ha:(aU.length<1000000)=True):uO 0 [some (.d (.ref 0)),some (.d (aF h)),some (.d bz),some (.c s.length),some (.d (.str w.bag)),some (.d (aS w.fl)),some (.d (pl w.b w.i)),some (.d (.int w.gn)),a8,a9] (wS (aF h) r x s aU)=some (.nx [some (.d (.ref 0)),some (.d (aF h)),some (.d bz),some (.c s.length),some (.d (.str w.bag)),some (.d (aS w.fl)),some (.d (pl w.b w.i)),some (.d (.int w.gn)),some (.d (av bt)),some (.d (pl bt.name (w.i+1)))] (wS (aF h) r x s (aU++[.tup [.str w.bag,pl bt.name (w.i+1)]]))):=by
 have e4:=AB g hb;have hB:av bt=.tup [.str bt.name,.int bt.long,.bl bt.ring,.lst (dS bt.outs)]:=rfl;rw[hB] at e4 ⊢;rw[eb] at e4 ⊢;generalize aF h=hd at *;generalize aS w.fl=ff at *;unfold uO;simp only[↓ev,cJ,e4,ba,eH,hl,decide_true,jJ,ha,qU]
theorem LX(g:aB h)(hb:bt∈h.ae)(eb:bt.name=w.b)(hl:(w.i+1<bt.long)=False)(hr:bt.ring=true)(hf:w.fl=none)(hg:(w.gn<r)=True)(ha:(aU.length<1000000)=True):uO 0 [some (.d (.ref 0)),some (.d (aF h)),some (.d bz),some (.c s.length),some (.d (.str w.bag)),some (.d (aS w.fl)),some (.d (pl w.b w.i)),some (.d (.int w.gn)),a8,a9] (wS (aF h) r x s aU)=some (.nx [some (.d (.ref 0)),some (.d (aF h)),some (.d bz),some (.c s.length),some (.d (.str w.bag)),some (.d (aS w.fl)),some (.d (pl w.b w.i)),some (.d (.int w.gn)),some (.d (av bt)),some (.d (pl bt.name 0))] (wS (aF h) r x s (aU++[.tup [.str w.bag,pl bt.name 0]]))):=by
 have e4:=AB g hb;have e5:=λq s=>IE (s:=s) (hd:=aF h) (r:=r) (q:=q) (x:=x)
 have hB:av bt=.tup [.str bt.name,.int bt.long,.bl bt.ring,.lst (dS bt.outs)]:=rfl;rw[hB,hr] at e4 ⊢;rw[eb] at e4 ⊢;rw[hf];generalize aF h=hd at *;unfold uO aS;simp only[↓ev,cJ,e4,ba,eH,hl,decide_false,aV,kK,hR,fJ,ID,e5,hg,decide_true,jJ,ha,qU]
theorem LY(g:aB h)(o:Ok h n x)(hw:w∈x.rows)(hb:bt∈h.ae)(eb:bt.name=w.b)(hl:(w.i+1<bt.long)=False){goal:D}(ho:P0 q9 [.d (aF h),.d (av bt),.d (.str (fq h x w)),.d bz] (rd goal))(hc:bt.ring=false\/(∃f,w.fl=some f)\/w.fl=none/\¬w.gn<r)(ha:(aU.length<1000000)=True):uO 0 [some (.d (.ref 0)),some (.d (aF h)),some (.d bz),some (.c s.length),some (.d (.str w.bag)),some (.d (aS w.fl)),some (.d (pl w.b w.i)),some (.d (.int w.gn)),a8,a9] (wS (aF h) r x s aU)=some (.nx [some (.d (.ref 0)),some (.d (aF h)),some (.d bz),some (.c s.length),some (.d (.str w.bag)),some (.d (aS w.fl)),some (.d (pl w.b w.i)),some (.d (.int w.gn)),some (.d (av bt)),some (.d goal)] (wS (aF h) r x s (aU++[.tup [.str w.bag,goal]]))):=by
 have e4:=AB g hb;have e5:=λq s=>IE (s:=s) (hd:=aF h) (r:=r) (q:=q) (x:=x)
 have e6:=λs=>e3r (s:=s) (r:=r) g o hw
 have hB:av bt=.tup [.str bt.name,.int bt.long,.bl bt.ring,.lst (dS bt.outs)]:=rfl;rw[hB] at e4 ho ⊢;rw[eb] at e4 ho ⊢;generalize aF h=hd at *;generalize fq h x w=ct at *;unfold uO;cases er:bt.ring with
 |false=>
  rw[er] at e4 ho;generalize aS w.fl=ff at *;simp only[↓ev,cJ,e4,ba,eH,hl,decide_false,aV,kK,hR,fJ,Iq,e6,ho,jJ,ha,qU]
 |true=>
  rw[er] at e4 ho;rcases hc with z|⟨f,hf⟩|⟨hf,hg⟩
  .rw[er] at z;cases z
  .rw[hf];unfold aS;simp only[↓ev,cJ,e4,ba,eH,hl,decide_false,aV,kK,hR,fJ,Iq,e6,ho,jJ,ha,qU]
  .rw[hf];unfold aS;have hg:=eq_false hg;simp only[↓ev,cJ,e4,ba,eH,hl,decide_false,aV,kK,hR,fJ,ID,e5,hg,Iq,e6,ho,jJ,ha,qU]
theorem e3x(g:aB h)(o:Ok h n x)(hw:w∈x.rows)(ha:aU.length<1000)(s:List Cell):∃b8 b9,uO 0 [some (.d (.ref 0)),some (.d (aF h)),some (.d (.lst (dS (eI h x)))),some (.c s.length),some (.d (.str w.bag)),some (.d (aS w.fl)),some (.d (pl w.b w.i)),some (.d (.int w.gn)),a8,a9] (wS (aF h) r x s aU)=some (.nx [some (.d (.ref 0)),some (.d (aF h)),some (.d (.lst (dS (eI h x)))),some (.c s.length),some (.d (.str w.bag)),some (.d (aS w.fl)),some (.d (pl w.b w.i)),some (.d (.int w.gn)),b8,b9] (wS (aF h) r x s (aU++[.tup [.str w.bag,gD (ai h r x w)]]))):=by
 obtain⟨bt,hb,eb,_,_⟩:=(o.rw w hw).1;have Kb:(aU.length<1000000)=True:=bN (by lia)
 have eg:ai h r x w=kx h r x w bt:=by unfold ai;rw[<-eb,B2 g hb]
 rw[eg];unfold kx;by_cases hl:w.i+1<bt.long
 .rw[aP hl];exact⟨_,_,LW g hb eb (bN hl) Kb⟩
 .rw[aK hl];by_cases hc:bt.ring=true/\w.fl=none/\w.gn<r
  .rw[aP hc];exact⟨_,_,LX g hb eb (eq_false hl) hc.1 hc.2.1 (bN hc.2.2) Kb⟩
  .rw[aK hc];obtain⟨a,ea,_⟩:=Jw g o hw hb eb;rw[ea,xX];refine⟨_,_,LY g o hw hb eb (eq_false hl) (WR g hb (Pp g o hw).1 ea) ?_ Kb⟩;cases er:bt.ring with
   |false=>exact .inl rfl
   |true=>
    cases ef:w.fl with
    |some f=>exact .inr (.inl ⟨f,rfl⟩)
    |none=>exact .inr (.inr ⟨rfl,λz=>hc ⟨er,ef,z⟩⟩)
def qp(h:ay)(r:Int)(x:Hl)(w:Row):D:=.tup [.str w.bag,gD (ai h r x w)]
theorem WS(g:aB h)(o:Ok h n x):Fp 0 [.d (.ref 0)] (hS (aF h) r x s)=some (.ok (.o (.lst ((ord h x.rows).map (qp h r x)))) (hS (aF h) r x s)):=by
 have rl:=o.rl;have e1:=λq s=>WD (s:=s) (r:=r) (q:=q) (x:=x) g
 have e2:=λs=>e3w (s:=s) (r:=r) g o
 have e3:=λq s=>A2 (s:=s) (r:=r) (q:=q) g o
 have pl:=o.perm.length_eq;obtain⟨U',S',e,⟨a4,a5,a6,a7,a8,a9,rfl⟩,rfl⟩:=jI (gg:=aN [(af 4),(af 5),(af 6),(af 7)]) (body:=uO 0) (f:=bC) (U:=[some (.d (.ref 0)),some (.d (aF h)),some (.d (.lst (dS (eI h x)))),some (.c s.length),none,none,none,none,none,none]) (S:=wS (aF h) r x s []) (λpre U S'=>(∃a4 a5 a6 a7 a8 a9,U=[some (.d (.ref 0)),some (.d (aF h)),some (.d (.lst (dS (eI h x)))),some (.c s.length),a4,a5,a6,a7,a8,a9])/\S'=wS (aF h) r x s (pre.map (qp h r x))) (ord h x.rows) ⟨⟨_,_,_,_,_,_,rfl⟩,rfl⟩ (by
  rintro d w post eq U S' ⟨⟨a4,a5,a6,a7,a8,a9,rfl⟩,rfl⟩;have hw:w∈x.rows:=o.mem.mp (by rw[eq];simp)
  have hd:d.length<1000:=by
   grind
  obtain⟨b8,b9,e⟩:=e3x (r:=r) (a8:=a8) (a9:=a9) g o hw (aU:=d.map (qp h r x)) (by rw[bc];exact hd) s
  refine⟨_,_,_,rfl,.inl e,⟨_,_,_,_,_,_,rfl⟩,?_⟩;rw[c_];rfl)
 generalize aF h=hd at *;generalize dS (eI h x)=bz at *;unfold Fp Ol;simp only[↓ev,hR,fJ,WC,e1,ba,e2,aV,yz,e3,iI,e,RF,jJ,A5]
end
variable{W W':List (Str×D)}{b:Str}{S:aO}{n:Nat}
noncomputable def b_(W:List (Str×D)):List (TK×D):=td (·.1) (·.2) W
noncomputable def cv(G:Row->Goal)(L:List Row):List (TK×D):=td Row.bag (λw=>gD (G w)) L
abbrev tw(S:aO)(n:Nat)(W:List (Str×D)):aO:=⟨S.s.set n (.o (.ar (b_ W))),S.r⟩
theorem Jx{y:D}(h:b∉W.map (·.1)):bQ (b_ W) (.inr b) y=b_ (W++[(b,y)]):=by
 unfold b_;rw[Cv h];unfold td;rw[c_];rfl
theorem A3:(aL (b_ W) (.inr b)).isSome=(W.map (·.1)).contains b:=A1
theorem JK(hn:n<S.s.length):(S.s.set n (.o (.ar (b_ W))))[n]?=some (.o (.ar (b_ W))):=vY hn
theorem Jy:(S.s.set n (.o (.ar (b_ W)))).set n (.o (.ar (b_ W')))=S.s.set n (.o (.ar (b_ W'))):=Hs ..
theorem e3y:(tw S n W').cut (S.s.set n (.o (.ar (b_ W)))).length=tw S n W':=by
 unfold aO.cut;dsimp only;rw[m9,v5 (by rw[m9];exact bF _)]
noncomputable def jo(st:List Str)(G:Row->Goal)(w:Row):ak D:=if st.contains w.b=true then some (.tup [.str "stopped",.str w.b]) else match G w with
 |(b,some _)=>if st.contains b=true then some (.tup [.str "stopped",.str b]) else none
 |(_,none)=>none
def cx(st:List Str)(G:Row->Goal)(L:List Row):List (Str×D):=L.filterMap λw=>(jo st G w).map λy=>(w.bag,y)
section
variable{S:aO}{n:Nat}{st:List Str}{G:Row->Goal}{L:List Row}{w:Row}{W:List (Str×D)}{a8 bg:ak Val}
theorem WT(hn:n<S.s.length)(hv:aL (cv G L) (.inr w.bag)=some (gD (G w)))(hW:w.bag∉W.map (·.1))(hl:W.length<1000):∃b8,Ak 0 [bg,some (.d (.ar (cv G L))),some (.d (.lst (dS st))),some (.c n),some (.d (.str w.bag)),some (.d (aS w.fl)),some (.d (pl w.b w.i)),some (.d (.int w.gn)),a8] (tw S n W)=some (.nx [bg,some (.d (.ar (cv G L))),some (.d (.lst (dS st))),some (.c n),some (.d (.str w.bag)),some (.d (aS w.fl)),some (.d (pl w.b w.i)),some (.d (.int w.gn)),b8] (tw S n (W++((jo st G w).map λy=>(w.bag,y)).toList))):=by
 have ta:=JK (W:=W) hn;have ts:=λW'=>Jy (S:=S) (n:=n) (W:=W) (W':=W')
 have hp:=λy=>Jx (y:=y) hW
 have mE:((b_ W).length<1000000)=True:=bN (by unfold b_;rw[pR];lia)
 unfold jo;cases h1:st.contains w.b with
 |true=>
  refine⟨some (.d (gD (G w))),?_⟩;generalize gD (G w)=gg at *;generalize aS w.fl=ff at *;show _=some (Fr.nx _ (tw S n (W++[(w.bag,_)])));unfold Ak;simp only[↓ev,hv,ba,cJ,jH,aV,j5,h1,ta,mE,hp,ts]
 |false=>
  rw[aK (by decide)]
  generalize aS w.fl=ff at *;obtain⟨c,gi⟩:∃c,G w=c:=⟨_,rfl⟩;rw[gi] at hv ⊢;obtain⟨c,i⟩:=c;cases i with
  |none=>
   refine⟨some (.d (.str c)),?_⟩;show _=some (Fr.nx _ (tw S n (W++[])));rw[lq];unfold Ak;unfold gD at hv;simp only[↓ev,hv,ba,cJ,jH,aV,j5,h1,KH]
  |some i=>
   refine⟨some (.d (pl c i)),?_⟩;unfold Ak;unfold gD at hv;dsimp only at hv ⊢;cases h2:st.contains c with
   |true=>
    show _=some (Fr.nx _ (tw S n (W++[(w.bag,_)])));simp only[↓ev,hv,ba,cJ,jH,aV,j5,h1,GU,h2,ta,mE,hp,ts]
   |false=>
    show _=some (Fr.nx _ (tw S n (W++[])));rw[lq];simp only[↓ev,hv,ba,cJ,jH,aV,j5,h1,GU,h2]
theorem T1(st:List Str)(G:Row->Goal)(L:List Row):∀b∈(cx st G L).map (·.1),b∈L.map Row.bag:=λb m=>by
 obtain⟨p,hp,rfl⟩:=gp.mp m;obtain⟨w,hw,e⟩:=mW.mp hp;obtain⟨y,_,rfl⟩:=cV.mp e;exact jT hw
theorem IT{d post:List Row}(eq:L=d++w::post)(nd:(L.map Row.bag).Nodup):w.bag∉d.map Row.bag:=by
 rw[eq,c_,bL] at nd;exact λm=>(iF.mp nd).2.2 _ m _ (.head _) rfl
theorem ZI(hn:n<S.s.length)(nd:(L.map Row.bag).Nodup)(hl:L.length<100):EG 0 [.d (.lst (L.map bC)),.d (.ar (cv G L)),.d (.lst (dS st)),.c n] (tw S n [])=some (.ok (rd .aG) (tw S n (cx st G L))):=by
 obtain⟨U',S',e,⟨a4,a5,a6,a7,a8,rfl⟩,rfl⟩:=jI (gg:=aN [(af 4),(af 5),(af 6),(af 7)]) (body:=Ak 0) (f:=bC) (U:=[some (.d (.lst (L.map bC))),some (.d (.ar (cv G L))),some (.d (.lst (dS st))),some (.c n),none,none,none,none,none]) (S:=tw S n []) (λpre U S'=>(∃a4 a5 a6 a7 a8,U=[some (.d (.lst (L.map bC))),some (.d (.ar (cv G L))),some (.d (.lst (dS st))),some (.c n),a4,a5,a6,a7,a8])/\S'=tw S n (cx st G pre)) L ⟨⟨_,_,_,_,_,rfl⟩,rfl⟩ (by
  rintro d w post eq U S' ⟨⟨a4,a5,a6,a7,a8,rfl⟩,rfl⟩;have hw:w∈L:=by rw[eq];simp
  have hv:aL (cv G L) (.inr w.bag)=some (gD (G w)):=kX nd hw;have hd:d.length<100:=by
   grind
  obtain⟨b8,e⟩:=WT (st:=st) (a8:=a8) (bg:=some (.d (.lst (L.map bC)))) hn hv (W:=cx st G d) (λm=>IT eq nd (T1 st G d _ m)) (L_ (Hv _ _) (by lia))
  refine⟨_,_,_,rfl,.inl e,⟨_,_,_,_,_,rfl⟩,?_⟩;unfold cx;rw[Mo];rw[show List.filterMap (λw=>(jo st G w).map λy=>(w.bag,y)) [w]=((jo st G w).map λy=>(w.bag,y)).toList by rw[pG,Bs];cases(jo st G w) <;> rfl])
 have cu:=e3y (S:=S) (n:=n) (W:=[]) (W':=cx st G L);generalize cx st G L=W2 at *;unfold EG Mx;simp only[↓ev,iI,e,cu]
end
abbrev bf:=Str×Int
noncomputable def kC(p:bf):TK:=.tp [.inr p.1,.inl p.2]
theorem Qx{p q:bf}(e:kC p=kC q):p=q:=by
 unfold kC at e;have e:=TK.tp.inj e;have e1:=(List.cons.inj e).1;have e2:=(List.cons.inj (List.cons.inj e).2).1;exact Prod.ext (TK.inr.inj e1) (TK.inl.inj e2)
def fY(C:List (bf×Str)):List (TK×D):=C.map λe=>(kC e.1,.str e.2)
noncomputable def look(C:List (bf×Str))(k:bf):ak Str:=(C.find? λe=>e.1 == k).map (·.2)
noncomputable def j9:List (bf×Str)->bf->Str->List (bf×Str)
 |[],k,v=>[(k,v)]
 |e::es,k,v=>if e.1=k then(e.1,v)::es else e::j9 es k v
theorem yp{e:bf×Str}{es:List (bf×Str)}{k:bf}:look (e::es) k=if e.1=k then some e.2 else look es k:=by
 unfold look;rw[t6];by_cases h:e.1=k
 .rw[aP h,show(e.1 == k)=true from beq_iff_eq.mpr h];rfl
 .rw[aK h,show(e.1 == k)=false by rw[oB];exact h]
theorem IU(k:bf)(v:Str)(k':bf):∀C:List (bf×Str),look (j9 C k v) k'=if k=k' then some v else look C k'
 |[]=>by show look [(k,v)] k'=_;rw[yp]
 |e::es=>by
  unfold j9;by_cases h:e.1=k
  .rw[aP h,yp,yp,h];split <;> rfl
  .rw[aK h,yp,IU k v k' es,yp];by_cases h2:e.1=k'
   .rw[aP h2,aP h2,aK λz=>h (h2.trans z.symm)]
   .rw[aK h2,aK h2]
theorem Cw(k:bf):∀C:List (bf×Str),aL (fY C) (kC k)=(look C k).map D.str
 |[]=>rfl
 |e::es=>by
  have ih:=Cw k es;rw[yp];unfold aL fY at *;rw[bL,t6];dsimp only;by_cases h:e.1=k
  .rw[aP h,rG (by rw[h])];rfl
  .rw[aK h,rH λz=>h (Qx z)];exact ih
theorem Jz(k:bf)(v:Str):∀C:List (bf×Str),bQ (fY C) (kC k) (.str v)=fY (j9 C k v)
 |[]=>rfl
 |e::es=>by
  have ih:=Jz k v es;unfold fY at *;rw[bL,Fe];unfold j9;dsimp only;by_cases h:e.1=k
  .rw[aP (by rw[h]),aP h];rfl
  .rw[aK λz=>h (Qx z),aK h,ih];rfl
theorem OC(k:bf)(v:Str):∀C:List (bf×Str),(j9 C k v).length<=C.length+1
 |[]=>by unfold j9;exact bF _
 |e::es=>by
  have ih:=OC k v es;unfold j9;split
  .rw[jt,jt];lia
  .rw[jt,jt];lia
noncomputable def gk(G:Row->Goal)(w:Row):bf:=((G w).1,(G w).2.getD 0)
def ask(G:Row->Goal)(W:List (Str×D))(L:List Row):List Row:=L.filter λw => !(W.map (·.1)).contains w.bag&&(G w).2.isSome
theorem QP{G:Row->Goal}{w:Row}(h:(G w).2.isSome=true):gD (G w)=pl (gk G w).1 (gk G w).2:=by
 unfold gk gD;generalize G w=p at *;obtain⟨c,i⟩:=p;cases i with
 |none=>cases h
 |some i=>rfl
theorem kp{o:Str}{j:Int}:ox [.str o,.int j]=some [.inr o,.inl j]:=by simp[ox,rA]
def CG(G:Row->Goal)(C:List (bf×Str))(w:Row):List (bf×Str):=if look C (gk G w)=none\/w.b=(gk G w).1 then j9 C (gk G w) w.bag else C
section
variable{S:aO}{n m:Nat}{G:Row->Goal}{L:List Row}{w:Row}{W:List (Str×D)}{C:List (bf×Str)}{a8 a9 a10 g0 g3:ak Val}{t rr:List Cell}
theorem e4a(hv:aL (cv G L) (.inr w.bag)=some (gD (G w)))(hs:(G w).2.isSome=true)(ht:t[m]?=some (.o (.ar (fY C))))(hl:C.length<1000):BH 0 [g0,some (.d (.ar (cv G L))),some (.c n),g3,some (.c m),some (.d (.str w.bag)),some (.d (aS w.fl)),some (.d (pl w.b w.i)),some (.d (.int w.gn)),a9,a10] ⟨t,rr⟩=some (.nx [g0,some (.d (.ar (cv G L))),some (.c n),g3,some (.c m),some (.d (.str w.bag)),some (.d (aS w.fl)),some (.d (pl w.b w.i)),some (.d (.int w.gn)),some (.d (gD (G w))),a10] ⟨t.set m (.o (.ar (fY (CG G C w)))),rr⟩):=by
 rw[QP hs] at hv ⊢;have v:=Cw (gk G w) C;have pu:=Jz (gk G w) w.bag C;have mE:((fY C).length<1000000)=True:=bN (by unfold fY;rw[bc];lia)
 have lt:(m<t.length)=True:=bN (eR.mp ht).1;have se:t.set m (.o (.ar (fY C)))=t:=by
  obtain⟨h1,h2⟩:=eR.mp ht;rw[<-h2,Mp]
 unfold CG;unfold kC at v pu;generalize aS w.fl=ff at *;unfold BH;cases hk:look C (gk G w) with
 |none=>
  rw[aP (.inl rfl)];rw[hk] at v;simp only[↓ev,hv,ba,ht,v,Ab,oA,mE,pu]
 |some b=>
  rw[hk] at v;cases he:(w.b == (gk G w).1) with
  |true=>
   rw[aP (.inr (beq_iff_eq.mp he))];simp only[↓ev,hv,ba,ht,v,v8,jR,aV,cJ,pZ,he,mE,pu]
  |false=>
   rw[aK (by rw[not_or];exact⟨λz=>(by cases z),λz=>(by rw[z,ju] at he;cases he)⟩),se]
   simp only[↓ev,hv,ba,ht,v,v8,jR,aV,cJ,pZ,he]
theorem WU(q:Nat)(nd:(L.map Row.bag).Nodup)(hl:L.length<=1000)(hn:t[n]?=some (.o (.ar (b_ W)))):bB (af 0) (HJ q) (HK q) (L.map bC) [none,some (.c n),some (.d (.ar (cv G L)))] ⟨t,rr⟩ []=some (.ok ((ask G W L).map bC) ⟨t,rr⟩):=by
 rw[yN (λw=>if(!(W.map (·.1)).contains w.bag&&(G w).2.isSome)=true then some (bC w) else none) L (by lia) λw m=>by
  have v:aL (cv G L) (.inr w.bag)=_:=kX nd m;have i:=A3 (W:=W) (b:=w.bag);unfold HJ HK;cases h1:(W.map (·.1)).contains w.bag with
  |true=>
   refine .inl ⟨rfl,?_⟩;rw[h1] at i;unfold bC;generalize aS w.fl=ff at *;generalize gD (G w)=gg at *;simp only[↓ev,cJ,hn,i,jR,aV]
  |false=>
   rw[h1] at i;cases h2:(G w).2 with
   |none=>
    have e:gD (G w)=.str (G w).1:=by unfold gD;generalize G w=p at *;obtain⟨c,j⟩:=p;cases h2;rfl
    rw[e] at v;refine .inl ⟨rfl,?_⟩;unfold bC;generalize aS w.fl=ff at *;simp only[↓ev,cJ,hn,i,oA,v,KH]
   |some j=>
    have e:gD (G w)=pl (G w).1 j:=by unfold gD;generalize G w=p at *;obtain⟨c,j⟩:=p;cases h2;rfl
    rw[e] at v;refine .inr ⟨rd (bC w),bC w,rfl,?_,?_,rfl⟩
    .unfold bC;generalize aS w.fl=ff at *;simp only[↓ev,cJ,hn,i,oA,v,GU]
    rfl]
 congr 2
 unfold ask;clear nd hl
 induction L with
 |nil=>rfl
 |cons w L ih=>
  rw[pG,tZ,ih];cases(!(W.map (·.1)).contains w.bag&&(G w).2.isSome) <;> rfl
end
variable{G:Row->Goal}
def nh(G:Row->Goal)(d:List Row)(C:List (bf×Str)):Prop:=(∀k b,look C k=some b->∃c∈d,c.bag=b/\gk G c=k/\((∃z∈d,gk G z=k/\z.b=k.1)->c.b=k.1))/\(∀w∈d,look C (gk G w)≠none)/\C.length<=d.length
theorem e4b:nh G [] []:=⟨λk b e=>(by cases e),λw m=>(by cases m),bF _⟩
theorem ZJ{d:List Row}{C:List (bf×Str)}(o:nh G d C)(w:Row):nh G (d++[w]) (CG G C w):=by
 obtain⟨o1,o2,o3⟩:=o;have me:∀{z},z∈d++[w]↔z∈d\/z=w:=λ{z}=>by rw[cG,kJ]
 unfold CG;by_cases hc:look C (gk G w)=none\/w.b=(gk G w).1
 .rw[aP hc];refine⟨λk b e=>?_,λz m=>?_,?_⟩
  .rw[IU] at e;by_cases hk:gk G w=k
   .rw[aP hk] at e;refine⟨w,me.mpr (.inr rfl),Option.some.inj e,hk,λ⟨z,mz,e1,e2⟩=>?_⟩
    rcases hc with hc|hc
    .rcases me.mp mz with mz|rfl
     .exact bW (by rw[e1,<-hk];exact hc) (o2 z mz)
     .exact e2
    .rw[<-hk];exact hc
   .rw[aK hk] at e;obtain⟨c,mc,e1,e2,e3⟩:=o1 k b e;refine⟨c,me.mpr (.inl mc),e1,e2,λ⟨z,mz,e4,e5⟩=>e3 ?_⟩
    rcases me.mp mz with mz|rfl
    .exact⟨z,mz,e4,e5⟩
    .exact bW e4 hk
  .rw[IU];split
   .intro z;cases z
   .rename_i hk
    rcases me.mp m with m|rfl
    .exact o2 z m
    .exact bW rfl hk
  .rw[cP];exact i4 (OC _ _ _) (Nat.add_le_add_right o3 1)
 .rw[aK hc];rw[not_or] at hc;refine⟨λk b e=>?_,λz m=>?_,by rw[cP];lia⟩
  .obtain⟨c,mc,e1,e2,e3⟩:=o1 k b e;refine⟨c,me.mpr (.inl mc),e1,e2,λ⟨z,mz,e4,e5⟩=>e3 ?_⟩
   rcases me.mp mz with mz|rfl
   .exact⟨z,mz,e4,e5⟩
   .exact bW (by rw[e4];exact e5) hc.2
  .rcases me.mp m with m|rfl
   .exact o2 z m
   .exact hc.1
def cW(G:Row->Goal)(C:List (bf×Str))(w:Row):ak (Str×D):=match look C (gk G w) with
 |none=>none
 |some c=>if c=w.bag then none else some (w.bag,.tup [.str "yields",.str c])
section
variable{S:aO}{n m:Nat}{G:Row->Goal}{L A:List Row}{w:Row}{W:List (Str×D)}{C:List (bf×Str)}{a8 a9 a10 g0 g3:ak Val}{t rr:List Cell}
theorem e4c(hv:aL (cv G L) (.inr w.bag)=some (gD (G w)))(hs:(G w).2.isSome=true)(hm:t[m]?=some (.o (.ar (fY C))))(hn:t[n]?=some (.o (.ar (b_ W))))(hW:w.bag∉W.map (·.1))(hl:W.length<1000){c:Str}(hk:look C (gk G w)=some c):BI 0 [g0,some (.d (.ar (cv G L))),some (.c n),g3,some (.c m),some (.d (.str w.bag)),some (.d (aS w.fl)),some (.d (pl w.b w.i)),some (.d (.int w.gn)),a9,a10] ⟨t,rr⟩=some (.nx [g0,some (.d (.ar (cv G L))),some (.c n),g3,some (.c m),some (.d (.str w.bag)),some (.d (aS w.fl)),some (.d (pl w.b w.i)),some (.d (.int w.gn)),a9,some (.d (.str c))] ⟨t.set n (.o (.ar (b_ (W++(cW G C w).toList)))),rr⟩):=by
 rw[QP hs] at hv;have v:=Cw (gk G w) C;rw[hk] at v;have hp:=λy=>Jx (y:=y) hW
 have mE:((b_ W).length<1000000)=True:=bN (by unfold b_;rw[pR];lia)
 have lt:(n<t.length)=True:=bN (eR.mp hn).1;have se:t.set n (.o (.ar (b_ W)))=t:=by
  obtain⟨h1,h2⟩:=eR.mp hn;rw[<-h2,Mp]
 unfold cW;rw[hk];dsimp only;unfold kC at v;generalize aS w.fl=ff at *;unfold BI;cases he:(c == w.bag) with
 |true=>
  rw[aP (beq_iff_eq.mp he)];show _=some (Fr.nx _ ⟨t.set n (.o (.ar (b_ (W++[])))),rr⟩);rw[lq,se];simp only[↓ev,hv,hm,v,ba,pZ,he,jR,aV]
 |false=>
  rw[aK (by rw[oB] at he;exact he)]
  show _=some (Fr.nx _ ⟨t.set n (.o (.ar (b_ (W++[(w.bag,.tup [.str "yields",.str c])])))),rr⟩);simp only[↓ev,hv,hm,v,ba,pZ,he,oA,hn,mE,hp]
theorem g_:w∈ask G W L↔w∈L/\w.bag∉W.map (·.1)/\(G w).2.isSome=true:=by
 unfold ask;rw[rB,jq,Mg,t7,ne_eq,iG]
theorem WV(C:List (bf×Str))(A:List Row):∀b∈(A.filterMap (cW G C)).map (·.1),b∈A.map Row.bag:=λb m=>by
 obtain⟨p,hp,rfl⟩:=gp.mp m;obtain⟨w,hw,e⟩:=mW.mp hp;unfold cW at e;split at e
 .cases e
 .split at e
  .cases e
  .cases e;exact jT hw
theorem ZK(nd:(L.map Row.bag).Nodup)(hl:L.length<100)(hA:∀w∈A,w∈L/\(G w).2.isSome=true)(Gn:A.length<100)(t:List Cell):∃C,nh G A C/\∃a5 a6 a7 a8 a9,aH (aN [(af 5),(af 6),(af 7),(af 8)]) (BH 0) (A.map bC) [g0,some (.d (.ar (cv G L))),some (.c n),g3,some (.c t.length),none,none,none,none,none,none] ⟨t++[.o (.ar [])],rr⟩=some (.nx [g0,some (.d (.ar (cv G L))),some (.c n),g3,some (.c t.length),a5,a6,a7,a8,a9,none] ⟨t++[.o (.ar (fY C))],rr⟩):=by
 obtain⟨U',S',e,⟨a5,a6,a7,a8,a9,rfl⟩,C,oC,rfl⟩:=jI (gg:=aN [(af 5),(af 6),(af 7),(af 8)]) (body:=BH 0) (f:=bC) (U:=[g0,some (.d (.ar (cv G L))),some (.c n),g3,some (.c t.length),none,none,none,none,none,none]) (S:=⟨t++[.o (.ar [])],rr⟩) (λpre U S'=>(∃a5 a6 a7 a8 a9,U=[g0,some (.d (.ar (cv G L))),some (.c n),g3,some (.c t.length),a5,a6,a7,a8,a9,none])/\∃C,nh G pre C/\S'=⟨t++[.o (.ar (fY C))],rr⟩) A ⟨⟨_,_,_,_,_,rfl⟩,[],e4b,rfl⟩ (by
  rintro d w post eq U S' ⟨⟨a5,a6,a7,a8,a9,rfl⟩,C,oC,rfl⟩;obtain⟨hw,hs⟩:=hA w (by rw[eq];simp)
  have hd:d.length<100:=by
   grind
  have:=oC.2.2;refine⟨_,_,_,rfl,.inl (e4a (kX nd hw) hs jJ (by lia)),⟨_,_,_,_,_,rfl⟩,CG G C w,ZJ oC w,?_⟩
  rw[qU];rfl)
 exact⟨C,oC,a5,a6,a7,a8,a9,e⟩
theorem ZL(nd:(L.map Row.bag).Nodup)(K4:(A.map Row.bag).Nodup)(hA:∀w∈A,w∈L/\w.bag∉W.map (·.1)/\(G w).2.isSome=true)(Gn:A.length<100)(Ka:W.length<100)(oC:nh G A C){t:List Cell}(hn:t[n]?=some (.o (.ar (b_ W))))(hm:t[m]?=some (.o (.ar (fY C))))(nm:n≠m){a5 a6 a7 a8 a9:ak Val}:∃b5 b6 b7 b8 nD,aH (aN [(af 5),(af 6),(af 7),(af 8)]) (BI 0) (A.map bC) [g0,some (.d (.ar (cv G L))),some (.c n),g3,some (.c m),a5,a6,a7,a8,a9,none] ⟨t,rr⟩=some (.nx [g0,some (.d (.ar (cv G L))),some (.c n),g3,some (.c m),b5,b6,b7,b8,a9,nD] ⟨t.set n (.o (.ar (b_ (W++A.filterMap (cW G C))))),rr⟩):=by
 have lt:=(eR.mp hn).1;have se:t.set n (.o (.ar (b_ (W++[]))))=t:=by
  obtain⟨h1,h2⟩:=eR.mp hn;rw[lq,<-h2,Mp]
 obtain⟨U',S',e,⟨b5,b6,b7,b8,nD,rfl⟩,rfl⟩:=jI (gg:=aN [(af 5),(af 6),(af 7),(af 8)]) (body:=BI 0) (f:=bC) (U:=[g0,some (.d (.ar (cv G L))),some (.c n),g3,some (.c m),a5,a6,a7,a8,a9,none]) (S:=⟨t,rr⟩) (λpre U S'=>(∃b5 b6 b7 b8 nD,U=[g0,some (.d (.ar (cv G L))),some (.c n),g3,some (.c m),b5,b6,b7,b8,a9,nD])/\S'=⟨t.set n (.o (.ar (b_ (W++pre.filterMap (cW G C))))),rr⟩) A ⟨⟨_,_,_,_,_,rfl⟩,by rw[Bs,se]⟩ (by
  rintro d w post eq U S' ⟨⟨b5,b6,b7,b8,nD,rfl⟩,rfl⟩;have Rn:w∈A:=by rw[eq];simp
  obtain⟨hw,hwW,hs⟩:=hA w Rn;have hd:d.length<100:=by
   have:=congrArg List.length eq;rw[cP] at this;lia
  obtain⟨c,hc⟩:=Option.ne_none_iff_exists'.mp (oC.2.1 w Rn);have hlen:=Hv (cW G C) d;refine⟨_,_,_,rfl,.inl (e4c (kX nd hw) hs (by rw[Bm nm];exact hm) (by rw[vY lt]) (W:=W++d.filterMap (cW G C)) (λz=>?_) (by rw[cP];lia) hc),⟨_,_,_,_,_,rfl⟩,?_⟩
  .rw[c_,cG] at z;rcases z with z|z
   .exact hwW z
   .exact IT eq K4 (WV C d _ z)
  .rw[Hs,Mo,mY,show List.filterMap (cW G C) [w]=(cW G C w).toList by rw[pG,Bs];cases cW G C w <;> rfl])
 exact⟨b5,b6,b7,b8,nD,e⟩
theorem ZM(hn:n<S.s.length)(nd:(L.map Row.bag).Nodup)(hl:L.length<100)(Ka:W.length<100):∃C,nh G (ask G W L) C/\EC 0 [.d (.lst (L.map bC)),.d (.ar (cv G L)),.c n] (tw S n W)=some (.ok (rd .aG) (tw S n (W++(ask G W L).filterMap (cW G C)))):=by
 have ta:=JK (W:=W) hn;have hA:∀w∈ask G W L,w∈L/\w.bag∉W.map (·.1)/\(G w).2.isSome=true:=λw m=>g_.mp m
 have Gn:(ask G W L).length<100:=L_ (Ad _ _) hl;have K4:((ask G W L).map Row.bag).Nodup:=nd.sublist (List.Sublist.map _ Ma);have e1:=λq=>WU (G:=G) (rr:=S.r) q nd (by lia) ta
 obtain⟨C,oC,a5,a6,a7,a8,a9,e2⟩:=ZK (n:=n) (rr:=S.r) (g0:=some (.d (.lst (L.map bC)))) (g3:=some (.d (.lst ((ask G W L).map bC)))) nd hl (λw m=>⟨(hA w m).1,(hA w m).2.2⟩) Gn (S.s.set n (.o (.ar (b_ W))))
 have iT:n<(S.s.set n (.o (.ar (b_ W)))).length:=by rw[m9];exact hn
 obtain⟨b5,b6,b7,b8,nD,e3⟩:=ZL (n:=n) (m:=(S.s.set n (.o (.ar (b_ W)))).length) (rr:=S.r) (g0:=some (.d (.lst (L.map bC)))) (g3:=some (.d (.lst ((ask G W L).map bC)))) (a5:=a5) (a6:=a6) (a7:=a7) (a8:=a8) (a9:=a9) nd K4 hA Gn Ka oC (t:=S.s.set n (.o (.ar (b_ W)))++[.o (.ar (fY C))]) (by rw[xS iT];exact ta) jJ (by lia)
 refine⟨C,oC,?_⟩;generalize(ask G W L).filterMap (cW G C)=Y at *;rw[List.set_append_left _ _ iT,Jy] at e3;have cu:aO.cut ⟨S.s.set n (.o (.ar (b_ (W++Y))))++[.o (.ar (fY C))],S.r⟩ (S.s.set n (.o (.ar (b_ W)))).length=tw S n (W++Y):=by
  unfold aO.cut;dsimp only;rw[m9,List.take_append_of_le_length (by rw[m9];exact bF _),v5 (by rw[m9];exact bF _)]
 generalize(ask G W L).map bC=al at *;unfold EC Ms;simp only[↓ev,iI,e1,ba,e2,e3,cu]
end
variable{C:List (bf×Str)}{k:bf}{b:Str}
noncomputable def gM(L:List Row):List (bf×Str):=L.map λw=>((w.b,w.i),w.bag)
theorem OD{k:bf}{v:Str}:∀{C:List (bf×Str)},k∉C.map (·.1)->j9 C k v=C++[(k,v)]
 |[],_=>rfl
 |e::es,h=>by
  rw[bL,y04,not_or] at h;unfold j9;rw[aK λz=>h.1 z.symm,OD h.2]
  rfl
theorem Vl(h:look C k=some b):(k,b)∈C:=by
 unfold look at h;obtain⟨e,h1,h2⟩:=cV.mp h;have h3:=Mn h1;have h3:e.1=k:=beq_iff_eq.mp h3;rw[<-h3,<-h2];exact Hu h1
theorem WW(nd:(C.map (·.1)).Nodup)(h:(k,b)∈C):look C k=some b:=by
 induction C with
 |nil=>cases h
 |cons e es ih=>
  rw[bL,qr] at nd;rw[yp];rcases y04.mp h with rfl|m
  .rw[aP rfl]
  .rw[aK λz=>nd.1 (by rw[z];exact jT (f:=(·.1)) m)]
   exact ih nd.2 m
def hold(G:Row->Goal)(L:List Row)(w:Row):ak Str:=match(G w).2 with
 |none=>none
 |some i=>look (gM L) ((G w).1,i)
noncomputable def CA(o:Str):D:=.tup [.str "behind",.str o]
def j6(G:Row->Goal)(L:List Row)(X:List (Str×D))(w:Row)(o:Str):Prop:=w.bag∉X.map (·.1)/\hold G L w=some o/\o∈X.map (·.1)
inductive kT (G:Row->Goal) (L:List Row) (W:List (Str×D)):List (Str×D)->Prop
 |base:kT G L W W
 |step {X:List (Str×D)} {w:Row} {o:Str}:kT G L W X->w∈L->j6 G L X w o->kT G L W (X++[(w.bag,CA o)])
theorem kT.trans{G:Row->Goal}{L:List Row}{W X Y:List (Str×D)}(a:kT G L W X)(b:kT G L X Y):kT G L W Y:=by
 induction b with
 |base=>exact a
 |step _ hw hc ih=>exact .step ih hw hc
section
variable{S:aO}{n m:Nat}{G:Row->Goal}{L:List Row}{w:Row}{W X:List (Str×D)}{a5 a6 a7 a9 g0:ak Val}{t rr:List Cell}{gr:Bool}
theorem e4d{d:List Row}(ht:t[m]?=some (.o (.ar (fY (gM d)))))(hl:d.length<1000)(hk:(w.b,w.i)∉d.map λw=>(w.b,w.i)){g1 g2 a8:ak Val}:BJ 0 [g0,g1,g2,some (.c m),some (.d (.str w.bag)),some (.d (aS w.fl)),some (.d (pl w.b w.i)),some (.d (.int w.gn)),a8,a9] ⟨t,rr⟩=some (.nx [g0,g1,g2,some (.c m),some (.d (.str w.bag)),some (.d (aS w.fl)),some (.d (pl w.b w.i)),some (.d (.int w.gn)),a8,a9] ⟨t.set m (.o (.ar (fY (gM (d++[w]))))),rr⟩):=by
 have pu:=Jz (w.b,w.i) w.bag (gM d);rw[OD (by unfold gM;rw[jS];exact hk),show gM d++[((w.b,w.i),w.bag)]=gM (d++[w]) by unfold gM;rw[c_];rfl] at pu
 have mE:((fY (gM d)).length<1000000)=True:=bN (by unfold fY gM;rw[bc,bc];lia)
 have lt:(m<t.length)=True:=bN (eR.mp ht).1;unfold kC at pu;dsimp only at pu;generalize aS w.fl=ff at *;unfold BJ;simp only[↓ev,ht,mE,pu]
theorem WX{t:List Cell}{n:Nat}{c:Cell}(h:t[n]?=some c):t.set n c=t:=by
 obtain⟨h1,h2⟩:=eR.mp h;rw[<-h2,Mp]
theorem e4e{c:Str}:aL (fY C) (.inr c)=none:=by
 unfold aL fY;rw[Eo.mpr]
 .rfl
 .intro e m z;obtain⟨p,_,rfl⟩:=gp.mp m;have:=xY z;unfold kC at this;cases this
theorem e4f{α:Type}{k:α->Str}{v:α->D}{xs:List α}:aL (td k v xs) TK.aG=none:=by
 unfold aL td;rw[Eo.mpr]
 .rfl
 .intro e m z;obtain⟨p,_,rfl⟩:=gp.mp m;cases xY z
theorem e6u(hv:aL (cv G L) (.inr w.bag)=some (gD (G w)))(hm:t[m]?=some (.o (.ar (fY (gM L)))))(hn:t[n]?=some (.o (.ar (b_ X))))(hc:∀o,¬j6 G L X w o):∃b9,yh 0 [g0,some (.d (.ar (cv G L))),some (.c n),some (.c m),some (.d (.str w.bag)),a5,a6,a7,some (.d (.bl gr)),a9] ⟨t,rr⟩=some (.nx [g0,some (.d (.ar (cv G L))),some (.c n),some (.c m),some (.d (.str w.bag)),a5,a6,a7,some (.d (.bl gr)),b9] ⟨t,rr⟩):=by
 have i:=A3 (W:=X) (b:=w.bag);have nn:aL (b_ X) TK.aG=none:=e4f;unfold j6 hold at hc;unfold yh;generalize G w=p at *;obtain⟨c,j⟩:=p;cases j with
 |none=>
  unfold gD at hv;have v:=e4e (C:=gM L) (c:=c);refine⟨some (.d .aG),?_⟩;cases h1:(X.map (·.1)).contains w.bag with
  |true=>
   rw[h1] at i;simp only[↓ev,hm,hv,v,ba,hn,i,jR,aV]
  |false=>
   rw[h1] at i;simp only[↓ev,hm,hv,v,ba,hn,i,oA,aV,nn,Ab]
 |some j=>
  unfold gD at hv;dsimp only at hc hv;have v:=Cw (c,j) (gM L);unfold kC at v;dsimp only at v;cases hk:look (gM L) (c,j) with
  |none=>
   rw[hk] at v;refine⟨some (.d .aG),?_⟩;cases h1:(X.map (·.1)).contains w.bag with
   |true=>
    rw[h1] at i;simp only[↓ev,hm,hv,v,ba,hn,i,jR,aV]
   |false=>
    rw[h1] at i;simp only[↓ev,hm,hv,v,ba,hn,i,oA,aV,nn,Ab]
  |some o=>
   rw[hk] at v;refine⟨some (.d (.str o)),?_⟩;cases h1:(X.map (·.1)).contains w.bag with
   |true=>
    rw[h1] at i;simp only[↓ev,hm,hv,v,ba,hn,i,jR,aV]
   |false=>
    rw[h1] at i;have i2:=A3 (W:=X) (b:=o);have h2:(X.map (·.1)).contains o=false:=by
     rw[t7];intro z;exact hc o ⟨λy=>(by rw[iG.mpr y] at h1;cases h1),hk,iG.mp z⟩
    rw[h2] at i2;simp only[↓ev,hm,hv,v,ba,hn,i,oA,aV,i2]
theorem e4g(hv:aL (cv G L) (.inr w.bag)=some (gD (G w)))(hm:t[m]?=some (.o (.ar (fY (gM L)))))(hn:t[n]?=some (.o (.ar (b_ X)))){o:Str}(hc:j6 G L X w o)(hl:X.length<1000):yh 0 [g0,some (.d (.ar (cv G L))),some (.c n),some (.c m),some (.d (.str w.bag)),a5,a6,a7,some (.d (.bl gr)),a9] ⟨t,rr⟩=some (.nx [g0,some (.d (.ar (cv G L))),some (.c n),some (.c m),some (.d (.str w.bag)),a5,a6,a7,some (.d (.bl true)),some (.d (.str o))] ⟨t.set n (.o (.ar (b_ (X++[(w.bag,CA o)])))),rr⟩):=by
 have i:=A3 (W:=X) (b:=w.bag);have i2:=A3 (W:=X) (b:=o);obtain⟨c1,c2,c3⟩:=hc;rw[show(X.map (·.1)).contains w.bag=false by rw[t7];exact λz=>c1 (iG.mp z)] at i
 rw[iG.mpr c3] at i2;have hp:=Jx (y:=CA o) c1;have mE:((b_ X).length<1000000)=True:=bN (by unfold b_;rw[pR];lia)
 have lt:(n<t.length)=True:=bN (eR.mp hn).1;unfold hold at c2;unfold yh;generalize G w=p at *;obtain⟨c,j⟩:=p;cases j with
 |none=>cases c2
 |some j=>
  unfold gD at hv;dsimp only at c2 hv;have v:=Cw (c,j) (gM L);unfold kC at v;dsimp only at v;rw[c2] at v;unfold CA at hp ⊢;simp only[↓ev,hm,hv,v,ba,hn,i,oA,aV,i2,mE,hp]
end
variable{X:List (Str×D)}{w:Row}{L:List Row}
noncomputable def nk(X:List (Str×D))(w:Row):Bool := !(X.map (·.1)).contains w.bag
theorem mI:nk X w=true↔w.bag∉X.map (·.1):=by
 unfold nk;rw[Mg,t7,ne_eq,iG]
def mu(L:List Row)(X:List (Str×D)):Nat:=(L.filter (nk X)).length
theorem ZN{y:D}(hw:w∈L)(h:w.bag∉X.map (·.1)):mu L (X++[(w.bag,y)])<mu L X:=by
 unfold mu;have e:L.filter (nk (X++[(w.bag,y)]))=(L.filter (nk X)).filter λz=>decide (z.bag≠w.bag):=by
  rw[List.filter_filter];refine List.filter_congr λz _=>?_
  rw[z9,mI,jq,mI,y9a,c_,cG,List.map_singleton,kJ];exact⟨λz=>⟨λy=>z (.inr y),λy=>z (.inl y)⟩,λz y=>y.elim z.2 z.1⟩
 rw[e,List.length_filter_lt_length_iff_exists];exact⟨w,rB.mpr ⟨hw,mI.mpr h⟩,by simp⟩
theorem kT.zZ{G:Row->Goal}{W:List (Str×D)}(a:kT G L W X):X.length+mu L X<=W.length+mu L W:=by
 induction a with
 |base=>exact bF _
 |@step X w o _ hw hc ih=>
  have:=ZN (y:=CA o) hw hc.1;rw[cP];simp;lia
theorem QQ:mu L X<=L.length:=Ad _ _
section
variable{S:aO}{n m:Nat}{G:Row->Goal}{L:List Row}{w:Row}{W X:List (Str×D)}{a4 a5 a6 a7 a9 g0:ak Val}{t rr:List Cell}
theorem WY(nd:(L.map Row.bag).Nodup)(hl:L.length<100)(hX:X.length<200)(nm:n≠m)(hm:t[m]?=some (.o (.ar (fY (gM L)))))(hn:t[n]?=some (.o (.ar (b_ X)))):∃X' gr b4 b9,kT G L X X'/\(gr=true->X.length<X'.length)/\(gr=false->X'=X/\∀w∈L,∀o,¬j6 G L X w o)/\aH (af 4) (yh 0) (dS (L.map Row.bag)) [g0,some (.d (.ar (cv G L))),some (.c n),some (.c m),a4,a5,a6,a7,some (.d (.bl false)),a9] ⟨t,rr⟩=some (.nx [g0,some (.d (.ar (cv G L))),some (.c n),some (.c m),b4,a5,a6,a7,some (.d (.bl gr)),b9] ⟨t.set n (.o (.ar (b_ X'))),rr⟩):=by
 have lt:=(eR.mp hn).1;rw[show dS (L.map Row.bag)=L.map λw=>.str w.bag by unfold dS;rw[jS];rfl]
 obtain⟨U',S',e,X',gr,b4,b9,rfl,rfl,i1,i2,i3⟩:=jI (gg:=af 4) (body:=yh 0) (f:=λw:Row=>.str w.bag) (U:=[g0,some (.d (.ar (cv G L))),some (.c n),some (.c m),a4,a5,a6,a7,some (.d (.bl false)),a9]) (S:=⟨t,rr⟩) (λpre U S'=>∃X' gr b4 b9,U=[g0,some (.d (.ar (cv G L))),some (.c n),some (.c m),b4,a5,a6,a7,some (.d (.bl gr)),b9]/\S'=⟨t.set n (.o (.ar (b_ X'))),rr⟩/\kT G L X X'/\(gr=true->X.length<X'.length)/\(gr=false->X'=X/\∀w∈pre,∀o,¬j6 G L X w o)) L ⟨X,false,_,_,rfl,by rw[WX hn],.base,λz=>(by cases z),λ_=>⟨rfl,λw m=>(by cases m)⟩⟩ (by
  rintro d w post eq U S' ⟨X',gr,b4,b9,rfl,rfl,i1,i2,i3⟩;have hw:w∈L:=by rw[eq];simp
  have hv:aL (cv G L) (.inr w.bag)=some (gD (G w)):=kX nd hw;have uo:(t.set n (.o (.ar (b_ X'))))[m]?=some (.o (.ar (fY (gM L)))):=by rw[Bm nm];exact hm
  have GF:(t.set n (.o (.ar (b_ X'))))[n]?=some (.o (.ar (b_ X'))):=vY lt;have tt:=i1.zZ;have ml:=QQ (L:=L) (X:=X);by_cases hc:∃o,j6 G L X' w o
  .obtain⟨o,hc⟩:=hc;refine⟨_,_,_,rfl,.inl (e4g hv uo GF hc (by lia)),_,true,_,_,rfl,by rw[Hs],.step i1 hw hc,λ_=>?_,λz=>(by cases z)⟩
   have:=(kT.step i1 hw hc).zZ;rw[cP];have h2:X.length<=X'.length:=by
    cases gr with
    |true=>have:=i2 rfl;lia
    |false=>rw[(i3 rfl).1];exact bF _
   simp;lia
  .obtain⟨c9,e⟩:=e6u (gr:=gr) (a5:=a5) (a6:=a6) (a7:=a7) (a9:=b9) (g0:=g0) (rr:=rr) hv uo GF λo z=>hc ⟨o,z⟩
   refine⟨_,_,_,rfl,.inl e,X',gr,_,_,rfl,rfl,i1,i2,λz=>⟨(i3 z).1,λw' mw o co=>?_⟩⟩
   rcases cG.mp mw with mw|mw
   .exact(i3 z).2 w' mw o co
   .rw[kJ.mp mw] at co;exact hc ⟨o,by rw[(i3 z).1];exact co⟩)
 exact⟨X',gr,b4,b9,i1,i2,i3,e⟩
theorem WZ(nd:(L.map Row.bag).Nodup)(hl:L.length<100)(hX:X.length<200)(nm:n≠m)(hm:t[m]?=some (.o (.ar (fY (gM L)))))(hn:t[n]?=some (.o (.ar (b_ X)))){a8:ak Val}:∃X' gr b4 b9,kT G L X X'/\(gr=true->X.length<X'.length)/\(gr=false->X'=X/\∀w∈L,∀o,¬j6 G L X w o)/\ED 0 [g0,some (.d (.ar (cv G L))),some (.c n),some (.c m),a4,a5,a6,a7,a8,a9] ⟨t,rr⟩=some (.nx [g0,some (.d (.ar (cv G L))),some (.c n),some (.c m),b4,a5,a6,a7,some (.d (.bl gr)),b9] ⟨t.set n (.o (.ar (b_ X'))),rr⟩):=by
 obtain⟨X',gr,b4,b9,i1,i2,i3,e⟩:=WY (G:=G) (a4:=a4) (a5:=a5) (a6:=a6) (a7:=a7) (a9:=a9) (g0:=g0) (rr:=rr) nd hl hX nm hm hn;refine⟨X',gr,b4,b9,i1,i2,i3,?_⟩;have k:(cv G L).map (·.1.d)=dS (L.map Row.bag):=Zy
 unfold ED;simp only[↓ev,ba,k,iI,e]
theorem NS(nd:(L.map Row.bag).Nodup)(hl:L.length<100)(nm:n≠m):∀(f:Nat) {X:List (Str×D)} {t:List Cell} {a4 a9:ak Val},X.length+mu L X<200->mu L X+2<=f->t[m]?=some (.o (.ar (fY (gM L))))->t[n]?=some (.o (.ar (b_ X)))->∃X' b4 b9,kT G L X X'/\(∀w∈L,∀o,¬j6 G L X' w o)/\cF (cM (sG 8)) (ED 0) f [g0,some (.d (.ar (cv G L))),some (.c n),some (.c m),a4,a5,a6,a7,some (.d (.bl true)),a9] ⟨t,rr⟩=some (.nx [g0,some (.d (.ar (cv G L))),some (.c n),some (.c m),b4,a5,a6,a7,some (.d (.bl false)),b9] ⟨t.set n (.o (.ar (b_ X'))),rr⟩)
 |0,X,t,a4,a9,h1,h2,hm,hn=>by lia
 |f+1,X,t,a4,a9,h1,h2,hm,hn=>by
  have lt:=(eR.mp hn).1;obtain⟨X',gr,b4,b9,i1,i2,i3,e⟩:=WZ (G:=G) (a4:=a4) (a5:=a5) (a6:=a6) (a7:=a7) (a8:=some (.d (.bl true))) (a9:=a9) (g0:=g0) (rr:=rr) nd hl (by lia) nm hm hn
  have tt:=i1.zZ;cases gr with
  |true=>
   have l1:=i2 rfl;obtain⟨Y,c4,c9,j1,j2,e2⟩:=NS nd hl nm f (X:=X') (t:=t.set n (.o (.ar (b_ X')))) (a4:=b4) (a9:=b9) (by lia) (by lia) (by rw[Bm nm];exact hm) (vY lt)
   rw[Hs] at e2;refine⟨Y,c4,c9,i1.trans j1,j2,?_⟩;unfold cF;simp only[↓ev,e,e2]
  |false=>
   obtain⟨j1,j2⟩:=i3 rfl;subst j1;obtain⟨f',rfl⟩:∃f',f=f'+1:=⟨f - 1,by lia⟩
   refine⟨X',b4,b9,i1,j2,?_⟩;unfold cF;simp only[↓ev,e];rfl
end
section
variable{S:aO}{n:Nat}{G:Row->Goal}{L:List Row}{W:List (Str×D)}{g0 g1 g2:ak Val}{t rr:List Cell}
theorem ZO(un:(L.map λw=>(w.b,w.i)).Nodup)(hl:L.length<100)(t:List Cell):∃b4 b5 b6 b7,aH (aN [(af 4),(af 5),(af 6),(af 7)]) (BJ 0) (L.map bC) [g0,g1,g2,some (.c t.length),none,none,none,none,none,none] ⟨t++[.o (.ar [])],rr⟩=some (.nx [g0,g1,g2,some (.c t.length),b4,b5,b6,b7,none,none] ⟨t++[.o (.ar (fY (gM L)))],rr⟩):=by
 obtain⟨U',S',e,⟨b4,b5,b6,b7,rfl⟩,rfl⟩:=jI (gg:=aN [(af 4),(af 5),(af 6),(af 7)]) (body:=BJ 0) (f:=bC) (U:=[g0,g1,g2,some (.c t.length),none,none,none,none,none,none]) (S:=⟨t++[.o (.ar [])],rr⟩) (λpre U S'=>(∃b4 b5 b6 b7,U=[g0,g1,g2,some (.c t.length),b4,b5,b6,b7,none,none])/\S'=⟨t++[.o (.ar (fY (gM pre)))],rr⟩) L ⟨⟨_,_,_,_,rfl⟩,rfl⟩ (by
  rintro d w post eq U S' ⟨⟨b4,b5,b6,b7,rfl⟩,rfl⟩;have hd:d.length<100:=by
   grind
  have hk:(w.b,w.i)∉d.map λw=>(w.b,w.i):=by
   rw[eq,c_,bL] at un;exact λm=>(iF.mp un).2.2 _ m _ (.head _) rfl
  refine⟨_,_,_,rfl,.inl (e4d jJ (by lia) hk),⟨_,_,_,_,rfl⟩,?_⟩
  rw[qU];rfl)
 exact⟨b4,b5,b6,b7,e⟩
theorem W3(hn:n<S.s.length)(nd:(L.map Row.bag).Nodup)(un:(L.map λw=>(w.b,w.i)).Nodup)(hl:L.length<100)(Ka:W.length<100):∃X,kT G L W X/\(∀w∈L,∀o,¬j6 G L X w o)/\EL 0 [.d (.lst (L.map bC)),.d (.ar (cv G L)),.c n] (tw S n W)=some (.ok (rd .aG) (tw S n X)):=by
 have ta:=JK (W:=W) hn;have iT:n<(S.s.set n (.o (.ar (b_ W)))).length:=by rw[m9];exact hn
 obtain⟨b4,b5,b6,b7,e1⟩:=ZO (g0:=some (.d (.lst (L.map bC)))) (g1:=some (.d (.ar (cv G L)))) (g2:=some (.c n)) (rr:=S.r) un hl (S.s.set n (.o (.ar (b_ W))));have ml:=QQ (L:=L) (X:=W);obtain⟨X,c4,c9,i1,i2,e2⟩:=NS (G:=G) (n:=n) (m:=(S.s.set n (.o (.ar (b_ W)))).length) (g0:=some (.d (.lst (L.map bC)))) (a5:=b5) (a6:=b6) (a7:=b7) (rr:=S.r) nd hl (by lia) 1000 (X:=W) (t:=S.s.set n (.o (.ar (b_ W)))++[.o (.ar (fY (gM L)))]) (a4:=b4) (a9:=none) (by lia) (by lia) jJ (by rw[xS iT];exact ta)
 refine⟨X,i1,i2,?_⟩;rw[List.set_append_left _ _ iT,Jy] at e2;have cu:aO.cut ⟨S.s.set n (.o (.ar (b_ X)))++[.o (.ar (fY (gM L)))],S.r⟩ (S.s.set n (.o (.ar (b_ W)))).length=tw S n X:=by
  unfold aO.cut;dsimp only;rw[m9,List.take_append_of_le_length (by rw[m9];exact bF _),v5 (by rw[m9];exact bF _)]
 unfold EL MB;simp only[↓ev,ba,iI,e1,e2,cu]
end
variable{a bag o:Str}{x j gn:Int}{z:Row}
theorem yW{b:Str}{y:Int}:aR (pl a x) (pl b y)=(a == b&&(x == y)):=by
 show df [.str a,.int x] [.str b,.int y]=_;simp[df,oK,pZ]
theorem Bg:dh 40 (pl a x)=true:=rfl
noncomputable def eX(bag o:Str)(j gn:Int)(z:Row):Row:=if z.bag=bag then{ z with b:=o,i:=j,gn:=gn} else z
theorem Fu:(eX bag o j gn z).bag=z.bag:=by unfold eX;split <;> rfl
theorem ZP:(eX bag o j gn z).fl=z.fl:=by unfold eX;split <;> rfl
theorem rh{α β:Type}{f:α->β}{l:List α}(nd:(l.map f).Nodup){a b:α}(ha:a∈l)(hb:b∈l)(e:f a=f b):a=b:=by
 induction l with
 |nil=>cases ha
 |cons z l ih=>
  rw[bL,qr] at nd;rcases y04.mp ha with e1|ha
  .rcases y04.mp hb with e2|hb
   .rw[e1,e2]
   .exact bW (jT (f:=f) hb) (by rw[<-e,e1];exact nd.1)
  .rcases y04.mp hb with e2|hb
   .exact bW (jT (f:=f) ha) (by rw[e,e2];exact nd.1)
   .exact ih nd.2 ha hb
section
variable{rows:List Row}{bag o:Str}{j gn:Int}{w:Row}
theorem Qy(nb:(rows.map Row.bag).Nodup)(hb:bag∈rows.map Row.bag):bQ (eA rows) (.inr bag) (pl o j)=eA (rows.map (eX bag o j gn)):=by
 unfold eA;rw[Qv nb hb];unfold td;rw[jS];refine Bu λz _=>?_
 dsimp only[Function.comp];rw[Fu];unfold eX;split <;> rfl
theorem e4i(nb:(rows.map Row.bag).Nodup)(hb:bag∈rows.map Row.bag):bQ (mR rows) (.inr bag) (.int gn)=mR (rows.map (eX bag o j gn)):=by
 unfold mR;rw[Qv nb hb];unfold td;rw[jS];refine Bu λz _=>?_
 dsimp only[Function.comp];rw[Fu];unfold eX;split <;> rfl
theorem ZQ(nb:(rows.map Row.bag).Nodup)(hw:w∈rows):mR (rows.map (eX w.bag o j w.gn))=mR rows:=by
 unfold mR td;rw[jS];refine Bu λz mz=>?_
 dsimp only[Function.comp];rw[Fu];unfold eX;split
 .rename_i e
  rw[rh nb mz hw e]
 .rfl
theorem Qz:pC (rows.map (eX bag o j gn))=pC rows:=by
 unfold pC td;rw[jS];refine Bu λz _=>?_
 dsimp only[Function.comp];rw[Fu,ZP]
end
section
variable{s:List Cell}{h:ay}{r:Int}{x:Hl}{w:Row}{bt:ao}{o c:Str}{j:Int}
noncomputable def iY(bt:ao)(i:Int)(o:Str)(j:Int):Bool:=bt.ring&&((i == bt.long - 1)&&(o == bt.name&&(j == 0)))
theorem e4j(g:aB h)(nb:(x.rows.map Row.bag).Nodup)(hw:w∈x.rows)(hb:bt∈h.ae)(eb:bt.name=w.b)(hl:x.rows.length<1000):wb 0 [.d (.ref 0),.d (.str w.bag),.d (pl o j)] (hS (aF h) r x s)=some (.ok (rd .aG) (hS (aF h) r { x with rows:=x.rows.map (eX w.bag o j (if iY bt w.i o j=true then w.gn+1 else w.gn))} s)):=by
 have e:=AB g hb;have hB:av bt=.tup [.str bt.name,.int bt.long,.bl bt.ring,.lst (dS bt.outs)]:=rfl;rw[hB] at e;have hm:=jT (f:=Row.bag) hw;have h1:aL (eA x.rows) (.inr w.bag)=_:=kX nb hw;have h2:aL (mR x.rows) (.inr w.bag)=_:=kX nb hw;have l1:((eA x.rows).length<1000000)=True:=bN (by unfold eA;rw[pR];lia)
 have l2:((mR x.rows).length<1000000)=True:=bN (by unfold mR;rw[pR];lia)
 rw[<-eb] at h1;generalize aF h=hd at *;have yes:iY bt w.i o j=true->wb 0 [.d (.ref 0),.d (.str w.bag),.d (pl o j)] (hS hd r x s)=some (.ok (rd .aG) (hS hd r { x with rows:=x.rows.map (eX w.bag o j (if iY bt w.i o j=true then w.gn+1 else w.gn))} s)):=λhc=>by
  rw[aP hc];have p1:=Qy (o:=o) (j:=j) (gn:=w.gn+1) nb hm;have p2:=e4i (o:=o) (j:=j) (gn:=w.gn+1) nb hm;have p3:=Qz (rows:=x.rows) (bag:=w.bag) (o:=o) (j:=j) (gn:=w.gn+1);unfold iY at hc;rw[jq,jq] at hc;obtain⟨c1,c2,c3⟩:=hc;unfold wb H0;rw[c1] at e;simp only[↓ev,hS,hR,mZ,nz,ba,h1,oE,o8,cJ,e,kK,eH,Bg,aV,yW,ju,c2,c3,Av,BY,h2,l2,p2,l1,p1,eE,p3]
 have no:iY bt w.i o j=false->wb 0 [.d (.ref 0),.d (.str w.bag),.d (pl o j)] (hS hd r x s)=some (.ok (rd .aG) (hS hd r { x with rows:=x.rows.map (eX w.bag o j (if iY bt w.i o j=true then w.gn+1 else w.gn))} s)):=λhc=>by
  rw[aK (by rw[hc];decide)]
  have p1:=Qy (o:=o) (j:=j) (gn:=w.gn) nb hm;have p2:=ZQ (o:=o) (j:=j) nb hw;have p3:=Qz (rows:=x.rows) (bag:=w.bag) (o:=o) (j:=j) (gn:=w.gn);unfold iY at hc;unfold wb H0;cases er:bt.ring with
  |false=>
   rw[er] at e;simp only[↓ev,hS,hR,mZ,nz,ba,h1,oE,o8,cJ,e,kK,aV,l1,p1,eE,p3,p2]
  |true=>
   rw[er] at e hc;rw[Bool.true_and] at hc;cases c2:(w.i == bt.long - 1) with
   |false=>simp only[↓ev,hS,hR,mZ,nz,ba,h1,oE,o8,cJ,e,kK,eH,Bg,aV,yW,ju,c2,l1,p1,eE,p3,p2]
   |true=>
    rw[c2,Bool.true_and] at hc;simp only[↓ev,hS,hR,mZ,nz,ba,h1,oE,o8,cJ,e,kK,eH,Bg,aV,yW,ju,c2,hc,l1,p1,eE,p3,p2]
 cases hc:iY bt w.i o j with
 |true=>have:=yes hc;rw[hc] at this;exact this
 |false=>have:=no hc;rw[hc] at this;exact this
end
section
variable{s:List Cell}{h:ay}{r:Int}{x:Hl}{w:Row}{c:Str}
theorem e4k{l:List (Str×Str×Int)}{b:Str}{nw:Int}(hb:b∉l.map (·.1)):bQ (u9 l) (.inr b) (.str c)=u9 (l++[(b,c,nw)]):=by
 unfold u9;rw[Cv hb];unfold td;rw[c_];rfl
theorem ZR{hd:D}(nb:(x.rows.map Row.bag).Nodup)(hw:w∈x.rows)(hg:w.bag∉x.gone.map (·.1))(hl:x.gone.length<2000):BM 0 [.d (.ref 0),.d (.str w.bag),.d (.str c)] (hS hd r x s)=some (.ok (rd .aG) (hS hd r { x with rows:=x.rows.filter λz=>decide (z.bag≠w.bag),gone:=x.gone++[(w.bag,c,x.now)]} s)):=by
 have h1:aL (eA x.rows) (.inr w.bag)=_:=kX nb hw;have h2:aL (mR x.rows) (.inr w.bag)=_:=kX nb hw;have h3:aL (pC x.rows) (.inr w.bag)=_:=kX nb hw;have d1:dq (eA x.rows) w.bag=eA (x.rows.filter λz=>decide (z.bag≠w.bag)):=FL
 have d2:dq (mR x.rows) w.bag=mR (x.rows.filter λz=>decide (z.bag≠w.bag)):=FL
 have d3:dq (pC x.rows) w.bag=pC (x.rows.filter λz=>decide (z.bag≠w.bag)):=FL
 have p1:=e4k (c:=c) (nw:=x.now) hg;have l1:((u9 x.gone).length<1000000)=True:=bN (by unfold u9;rw[pR];lia)
 have l2:((uj x.gone).length<1000000)=True:=bN (by unfold uj;rw[bc];lia)
 have p2:uj x.gone++[.tup [.str w.bag,.str c,.int x.now]]=uj (x.gone++[(w.bag,c,x.now)]):=by unfold uj;rw[c_];rfl
 have t1:fV (eA x.rows)=true:=yE;have t2:fV (mR x.rows)=true:=yE;have t3:fV (pC x.rows)=true:=yE;generalize aS w.fl=ff at *;unfold BM MM;simp only[↓ev,hS,hR,mZ,nz,ba,t1,h1,d1,uN,wc,t3,h3,d3,Av,BY,t2,h2,d2,uP,we,l1,p1,Jh,Pj,Ct,Gb,l2,p2,eE]
end
variable{z:Row}
def gP(h:ay)(G:Row->Goal)(z:Row):ak Row:=match(G z).2 with
 |none=>none
 |some j=>some { z with b:=(G z).1,i:=j,gn:=match findB h.ae z.b with
  |none=>z.gn
  |some bt=>if iY bt z.i (G z).1 j=true then z.gn+1 else z.gn}
def iQ(h:ay)(G:Row->Goal)(p:Row->Bool)(rows:List Row):List Row:=rows.filterMap λz=>if p z=true then gP h G z else some z
noncomputable def eF(G:Row->Goal)(nw:Int)(w:Row):ak (Str×Str×Int):=match(G w).2 with
 |none=>some (w.bag,(G w).1,nw)
 |some _=>none
def fQ(h:ay)(G:Row->Goal)(p:Row->Bool)(M:List Row)(x:Hl):Hl:={ x with now:=x.now+1,rows:=iQ h G p x.rows,gone:=x.gone++M.filterMap (eF G (x.now+1))}
section
variable{s:List Cell}{h:ay}{r:Int}{x:Hl}{w:Row}{G:Row->Goal}{p p':Row->Bool}{rows:List Row}
theorem OE{α β:Type}{f g:α->ak β}{l:List α}(h:∀x∈l,f x=g x):l.filterMap f=l.filterMap g:=by
 induction l with
 |nil=>rfl
 |cons x l ih=>rw[pG,pG,h x (.head _),ih λy m=>h y (.tail _ m)]
theorem FN{z':Row}(e:gP h G z=some z'):z'.bag=z.bag/\z'.fl=z.fl:=by
 unfold gP at e;split at e
 .cases e
 .cases e;exact⟨rfl,rfl⟩
theorem Fv(p:Row->Bool)(rows:List Row):((iQ h G p rows).map Row.bag).Sublist (rows.map Row.bag):=by
 unfold iQ
 induction rows with
 |nil=>exact .slnil
 |cons z rows ih=>
  rw[pG,bL];split
  .exact .cons _ ih
  .rename_i b hb
   split at hb
   .rw[bL,(FN hb).1];exact ih.cons₂ _
   .cases hb;exact ih.cons₂ _
theorem Jj(hz:z∈rows)(hp:p z=false):z∈iQ h G p rows:=mW.mpr ⟨z,hz,by rw[hp];rfl⟩
theorem ZS(nb:(rows.map Row.bag).Nodup)(hw:w∈rows)(hp:p w=false)(Ku:∀z,p' z=(p z || z.bag == w.bag))(hG:(G w).2=none):(iQ h G p rows).filter (λz=>decide (z.bag≠w.bag))=iQ h G p' rows:=by
 unfold iQ;rw[List.filter_filterMap];refine OE λz mz=>?_
 rw[Ku z];by_cases e:z.bag=w.bag
 .have ez:=rh nb mz hw e;subst ez;rw[hp,ju,Ht,aK (by decide),aP rfl,show gP h G z=none by unfold gP;rw[hG]]
  show Option.filter _ (some z)=none;unfold Option.filter;simp
 .rw[show(z.bag == w.bag)=false by rw[oB];exact e,Hk]
  split
  .cases em:gP h G z with
   |none=>rfl
   |some z'=>
    unfold Option.filter;dsimp only;exact aP (rG (by rw[(FN em).1];exact e))
  .unfold Option.filter;dsimp only;exact aP (rG e)
theorem e4l(nb:(rows.map Row.bag).Nodup)(hw:w∈rows)(hp:p w=false)(Ku:∀z,p' z=(p z || z.bag == w.bag)){j:Int}(hG:(G w).2=some j){bt:ao}(hb:findB h.ae w.b=some bt):(iQ h G p rows).map (eX w.bag (G w).1 j (if iY bt w.i (G w).1 j=true then w.gn+1 else w.gn))=iQ h G p' rows:=by
 obtain⟨gv,Rb⟩:∃gv,(if iY bt w.i (G w).1 j=true then w.gn+1 else w.gn)=gv:=⟨_,rfl⟩
 rw[Rb];unfold iQ;rw[List.map_filterMap];refine OE λz mz=>?_
 rw[Ku z];by_cases e:z.bag=w.bag
 .have ez:=rh nb mz hw e;subst ez;rw[hp,ju,Ht,aK (by decide),aP rfl]
  unfold gP eX;rw[hG,hb,En,aP rfl];dsimp only;rw[Rb]
 .rw[show(z.bag == w.bag)=false by rw[oB];exact e,Hk]
  split
  .cases em:gP h G z with
   |none=>rfl
   |some z'=>
    rw[En];unfold eX;rw[aK (by rw[(FN em).1];exact e)]
  .rw[En];unfold eX;rw[aK e]
end
variable{S2:aO}{hd:D}
noncomputable def kA(d:List Row)(z:Row):Bool:=(d.map Row.bag).contains z.bag
noncomputable def oQ(G:Row->Goal)(w:Row):D:=.tup [.str w.bag,gD (G w)]
section
variable{s:List Cell}{h:ay}{r:Int}{x:Hl}{w:Row}{G:Row->Goal}{n:Nat}{M:List Row}{g1 a2 a3:ak Val}
theorem e6v{j:Int}(hG:(G w).2=some j)(e:wb 0 [.d (.ref 0),.d (.str w.bag),.d (pl (G w).1 j)] (hS hd r x s)=some (.ok (rd .aG) S2)):ym 0 [some (.d (.ref 0)),g1,some (.d (.str w.bag)),some (.d (gD (G w)))] (hS hd r x s)=some (.nx [some (.d (.ref 0)),g1,some (.d (.str w.bag)),some (.d (gD (G w)))] S2):=by
 have e1:gD (G w)=pl (G w).1 j:=by unfold gD;generalize G w=p at *;obtain⟨c,i⟩:=p;cases hG;rfl
 rw[e1];unfold ym;simp only[↓ev,GU,hR,fJ,TZ,e]
theorem e4m(hG:(G w).2=none)(e:BM 0 [.d (.ref 0),.d (.str w.bag),.d (.str (G w).1)] (hS hd r x s)=some (.ok (rd .aG) S2)):ym 0 [some (.d (.ref 0)),g1,some (.d (.str w.bag)),some (.d (gD (G w)))] (hS hd r x s)=some (.nx [some (.d (.ref 0)),g1,some (.d (.str w.bag)),some (.d (gD (G w)))] S2):=by
 have e1:gD (G w)=.str (G w).1:=by unfold gD;generalize G w=p at *;obtain⟨c,i⟩:=p;cases hG;rfl
 rw[e1];unfold ym;simp only[↓ev,KH,aV,hR,fJ,S_,e]
theorem OF(d:List Row)(w z:Row):kA (d++[w]) z=(kA d z || z.bag == w.bag):=by
 unfold kA;rw[z9,Bool.or_eq_true,iG,iG,beq_iff_eq,c_,cG,List.map_singleton,kJ]
theorem ZT(g:aB h)(o:Ok h n x)(hM:∀w∈M,w∈x.rows)(nM:(M.map Row.bag).Nodup)(Q5:M.length<=x.rows.length)(hn:n<1000):∃b2 b3,aH (aN [(af 2),(af 3)]) (ym 0) (M.map (oQ G)) [some (.d (.ref 0)),g1,none,none] (hS (aF h) r { x with now:=x.now+1} s)=some (.nx [some (.d (.ref 0)),g1,b2,b3] (hS (aF h) r (fQ h G (kA M) M x) s)):=by
 obtain⟨U',S',e,⟨b2,b3,rfl⟩,rfl⟩:=jI (gg:=aN [(af 2),(af 3)]) (body:=ym 0) (f:=oQ G) (U:=[some (.d (.ref 0)),g1,none,none]) (S:=hS (aF h) r { x with now:=x.now+1} s) (λpre U S'=>(∃b2 b3,U=[some (.d (.ref 0)),g1,b2,b3])/\S'=hS (aF h) r (fQ h G (kA pre) pre x) s) M ⟨⟨_,_,rfl⟩,by
   have e1:fQ h G (kA []) [] x={ x with now:=x.now+1}:=by
    unfold fQ iQ;rw[Bs,lq,show(λz:Row=>if kA [] z=true then gP h G z else some z)=some from funext λz=>by rw[aK (by unfold kA;simp)],List.filterMap_some]
   rw[e1]⟩ (by
  rintro d w post eq U S' ⟨⟨b2,b3,rfl⟩,rfl⟩;have hw:w∈x.rows:=hM w (by rw[eq];simp)
  have Rq:w.bag∉d.map Row.bag:=IT eq nM;have hp:kA d w=false:=by unfold kA;rw[t7];exact λz=>Rq (iG.mp z)
  have nb:((fQ h G (kA d) d x).rows.map Row.bag).Nodup:=o.nb.sublist (Fv _ _);have Ro:w∈(fQ h G (kA d) d x).rows:=Jj hw hp;have ll:(fQ h G (kA d) d x).rows.length<=x.rows.length:=by
   have:=(Fv (h:=h) (G:=G) (kA d) x.rows).length_le;rw[bc,bc] at this;exact this
  have rl:=o.rl;have sz:=o.sz;obtain⟨bt,hb,eb,_⟩:=(o.rw w hw).1;have fb:=B2 g hb;rw[eb] at fb;cases hG:(G w).2 with
  |some j=>
   refine⟨_,_,_,rfl,.inl (e6v hG (e4j g nb Ro hb eb (by lia))),⟨_,_,rfl⟩,?_⟩
   unfold fQ;dsimp only;rw[e4l o.nb hw hp (OF d w) hG fb,Mo,show List.filterMap (eF G (x.now+1)) [w]=[] by rw[pG,Bs];unfold eF;rw[hG],lq]
  |none=>
   have hgd:w.bag∉(fQ h G (kA d) d x).gone.map (·.1):=by
    unfold fQ;dsimp only;rw[c_,cG];rintro(z|z)
    .exact(iF.mp o.nd).2.2 _ (jT hw) _ z rfl
    .obtain⟨q,hq,e1⟩:=gp.mp z;obtain⟨u,hu,e2⟩:=mW.mp hq;unfold eF at e2;split at e2
     .cases e2;exact Rq (by rw[<-e1];exact jT hu)
     .cases e2
   have C8:(fQ h G (kA d) d x).gone.length<2000:=by
    grind [fQ]
   refine⟨_,_,_,rfl,.inl (e4m hG (ZR nb Ro hgd C8)),⟨_,_,rfl⟩,?_⟩;unfold fQ;dsimp only;rw[ZS o.nb hw hp (OF d w) hG,Mo,show List.filterMap (eF G (x.now+1)) [w]=[(w.bag,(G w).1,x.now+1)] by rw[pG,Bs];unfold eF;rw[hG],mY])
 exact⟨b2,b3,e⟩
end
section
variable{s:List Cell}{h:ay}{r:Int}{x:Hl}{w:Row}{G:Row->Goal}{n m:Nat}{M L:List Row}{X:List (Str×D)}{hd:D}
theorem hlen{nw':Int}{m:Nat}:Nat.blt (hF hd r nw' m).length 1000=true:=rfl
theorem e4n(g:aB h)(o:Ok h n x)(hM:∀w∈M,w∈x.rows)(nM:(M.map Row.bag).Nodup)(Q5:M.length<=x.rows.length)(hn:n<1000)(hs:s[m]?=some (.o (.lst (M.map (oQ G))))):Fo 0 [.d (.ref 0),.c m] (hS (aF h) r x s)=some (.ok (rd .aG) (hS (aF h) r (fQ h G (kA M) M x) (s.set m (.z (.lst (M.map (oQ G))))))):=by
 obtain⟨b2,b3,e⟩:=ZT (G:=G) (r:=r) (s:=s.set m (.z (.lst (M.map (oQ G))))) (g1:=some (.c m)) g o hM nM Q5 hn;generalize M.map (oQ G)=ml at *;generalize aF h=hd at *;unfold Fo Oj;simp only[↓ev,hS,hR,Ct,Gb,ju,hlen,e3k,hs,iI,e,PL]
noncomputable def jB(X:List (Str×D))(G:Row->Goal)(w:Row):D:=match X.find? λp=>p.1 == w.bag with
 |some p=>.tup [.str w.bag,pl w.b w.i,pl w.b w.i,p.2]
 |none=>.tup [.str w.bag,pl w.b w.i,gD (G w),.aG]
abbrev tS(hd:D)(r:Int)(x:Hl)(s:List Cell)(X:List (Str×D))(lg mv:List D):aO:=⟨s++[.o (.ar (b_ X)),.o (.lst lg),.o (.lst mv)],hR hd r x⟩
theorem Pq(X:List (Str×D))(w:Row):(X.find? (λp=>p.1 == w.bag)=none/\nk X w=true/\aL (b_ X) (.inr w.bag)=none)\/∃p,X.find? (λp=>p.1 == w.bag)=some p/\nk X w=false/\aL (b_ X) (.inr w.bag)=some p.2:=by
 have v:aL (b_ X) (.inr w.bag)=_:=Cu w.bag X;have i:=A3 (W:=X) (b:=w.bag);rw[v] at i ⊢;unfold nk;rw[<-i];cases X.find? (λp=>p.1 == w.bag) with
 |none=>exact .inl ⟨rfl,rfl,rfl⟩
 |some p=>exact .inr ⟨p,rfl,rfl,rfl⟩
theorem e4o{lg mv:List D}{g1:ak Val}(hv:aL (cv G L) (.inr w.bag)=some (gD (G w)))(l1:lg.length<1000)(l2:mv.length<1000):Ca 0 [some (.d (.ref 0)),g1,some (.d (.ar (cv G L))),some (.c s.length),some (.c (s.length+1)),some (.c (s.length+2)),some (.d (.str w.bag)),some (.d (aS w.fl)),some (.d (pl w.b w.i)),some (.d (.int w.gn))] (tS hd r x s X lg mv)=some (.nx [some (.d (.ref 0)),g1,some (.d (.ar (cv G L))),some (.c s.length),some (.c (s.length+1)),some (.c (s.length+2)),some (.d (.str w.bag)),some (.d (aS w.fl)),some (.d (pl w.b w.i)),some (.d (.int w.gn))] (tS hd r x s X (lg++[jB X G w]) (if nk X w=true then mv++[oQ G w] else mv))):=by
 have Rz:(lg.length<1000000)=True:=bN (by lia)
 have l2':(mv.length<1000000)=True:=bN (by lia)
 unfold jB oQ;generalize aS w.fl=ff at *;generalize gD (G w)=gg at *;unfold Ca;rcases Pq X w with⟨e1,e2,e3⟩|⟨p,e1,e2,e3⟩
 .rw[e1,e2,aP rfl];simp only[↓ev,tS,jJ,aV,e3,Ab,Fw,hv,ba,Rz,Lv,l2']
 .rw[e1,e2,aK (by decide)]
  dsimp only;generalize p.2=py at *;simp only[↓ev,tS,jJ,aV,e3,v8,Fw,ba,Rz,Lv]
theorem ZU{g1:ak Val}(nd:(L.map Row.bag).Nodup)(hl:L.length<100):∃a6 a7 a8 a9,aH (aN [(af 6),(af 7),(af 8),(af 9)]) (Ca 0) (L.map bC) [some (.d (.ref 0)),g1,some (.d (.ar (cv G L))),some (.c s.length),some (.c (s.length+1)),some (.c (s.length+2)),none,none,none,none] (tS hd r x s X [] [])=some (.nx [some (.d (.ref 0)),g1,some (.d (.ar (cv G L))),some (.c s.length),some (.c (s.length+1)),some (.c (s.length+2)),a6,a7,a8,a9] (tS hd r x s X (L.map (jB X G)) ((L.filter (nk X)).map (oQ G)))):=by
 obtain⟨U',S',e,⟨a6,a7,a8,a9,rfl⟩,rfl⟩:=jI (gg:=aN [(af 6),(af 7),(af 8),(af 9)]) (body:=Ca 0) (f:=bC) (U:=[some (.d (.ref 0)),g1,some (.d (.ar (cv G L))),some (.c s.length),some (.c (s.length+1)),some (.c (s.length+2)),none,none,none,none]) (S:=tS hd r x s X [] []) (λpre U S'=>(∃a6 a7 a8 a9,U=[some (.d (.ref 0)),g1,some (.d (.ar (cv G L))),some (.c s.length),some (.c (s.length+1)),some (.c (s.length+2)),a6,a7,a8,a9])/\S'=tS hd r x s X (pre.map (jB X G)) ((pre.filter (nk X)).map (oQ G))) L ⟨⟨_,_,_,_,rfl⟩,rfl⟩ (by
  rintro d w post eq U S' ⟨⟨a6,a7,a8,a9,rfl⟩,rfl⟩;have hd:d.length<100:=by
   grind
  have hf:=Ad (nk X) d;refine⟨_,_,_,rfl,.inl (e4o (kX nd (by rw[eq];simp)) (by rw[bc];lia) (by rw[bc];lia)),⟨_,_,_,_,rfl⟩,?_⟩
  rw[c_,List.filter_append,c_,tZ,List.filter_nil];cases nk X w with
  |true=>rw[aP rfl,aP rfl];rfl
  |false=>rw[aK (by decide),aK (by decide),z7,lq];rfl)
 exact⟨a6,a7,a8,a9,e⟩
theorem Pu:∀L:List Row,gL (L.map (oQ G))=some (cv G L)
 |[]=>rfl
 |w::L=>by
  have ih:=Pu L;rw[bL];show(kD (.str w.bag)).bind (λk=>(gL (L.map (oQ G))).map ((k,gD (G w))::·))=_
  rw[ih];rfl
theorem ZV(nd:(L.map Row.bag).Nodup):(cv G L).foldl (λa p=>bQ a p.1 p.2) []=cv G L:=by
 have key:∀(M N:List Row),((N++M).map Row.bag).Nodup->(cv G M).foldl (λa p=>bQ a p.1 p.2) (cv G N)=cv G (N++M):=by
  intro M
  induction M with
  |nil=>intro N _;rw[lq];rfl
  |cons w M ih=>
   intro N nd;have hw:w.bag∉N.map Row.bag:=by
    rw[c_,bL] at nd;exact λm=>(iF.mp nd).2.2 _ m _ (.head _) rfl
   have e:bQ (cv G N) (.inr w.bag) (gD (G w))=cv G (N++[w]):=by
    unfold cv;rw[Cv hw];unfold td;rw[c_];rfl
   show(cv G M).foldl _ (bQ (cv G N) (.inr w.bag) (gD (G w)))=_;rw[e,ih (N++[w]) (by rw[mY];exact nd),mY]
   rfl
 exact key L [] nd
end
def gw(h:ay)(r:Int)(x:Hl)(X:List (Str×D)):Prop:=∃C,nh (ai h r x) (ask (ai h r x) (cx (bx h x) (ai h r x) (ord h x.rows)) (ord h x.rows)) C/\kT (ai h r x) (ord h x.rows) (cx (bx h x) (ai h r x) (ord h x.rows)++(ask (ai h r x) (cx (bx h x) (ai h r x) (ord h x.rows)) (ord h x.rows)).filterMap (cW (ai h r x) C)) X/\∀w∈ord h x.rows,∀o,¬j6 (ai h r x) (ord h x.rows) X w o
def bS(h:ay)(x:Hl)(X:List (Str×D)):List Row:=(ord h x.rows).filter (nk X)
def aT(h:ay)(r:Int)(x:Hl)(X:List (Str×D)):Hl:=fQ h (ai h r x) (kA (bS h x X)) (bS h x X) x
section
variable{s:List Cell}{h:ay}{r:Int}{x:Hl}{n:Nat}
theorem AR{s:List Cell}{rr:List Cell}{W W':List (Str×D)}:tw ⟨s++[.o (.ar (b_ W))],rr⟩ s.length W'=⟨s++[.o (.ar (b_ W'))],rr⟩:=by
 unfold tw;dsimp only;rw[qU];rfl
theorem QA(g:aB h)(o:Ok h n x)(hn:n<1000):∃X,gw h r x X/\yD 0 [.d (.ref 0)] (hS (aF h) r x s)=some (.ok (.o (.lst ((ord h x.rows).map (jB X (ai h r x))))) (hS (aF h) r (aT h r x X) s)):=by
 have rl:=o.rl;have pl:=o.perm.length_eq;have nd:((ord h x.rows).map Row.bag).Nodup:=(o.perm.map _).nodup_iff.mpr o.nb;have un:((ord h x.rows).map λw=>(w.b,w.i)).Nodup:=(o.perm.map _).nodup_iff.mpr o.un
 have e1:=λq s=>A2 (s:=s) (r:=r) (q:=q) g o
 have e2:=λs=>WS (s:=s) (r:=r) g o
 have e3:=λq s=>NR (s:=s) (r:=r) (q:=q) (x:=x) g
 have ln:s.length<(s++[Cell.o (.ar (b_ []))]).length:=by rw[cP];exact vZ _
 have e5:=ZI (S:=⟨s++[.o (.ar (b_ []))],hR (aF h) r x⟩) (n:=s.length) (st:=bx h x) (G:=ai h r x) (L:=ord h x.rows) ln nd (by lia)
 rw[AR,AR] at e5;have lw:(cx (bx h x) (ai h r x) (ord h x.rows)).length<=(ord h x.rows).length:=Hv _ _;obtain⟨C,oC,e6⟩:=ZM (S:=⟨s++[.o (.ar (b_ []))],hR (aF h) r x⟩) (n:=s.length) (W:=cx (bx h x) (ai h r x) (ord h x.rows)) (G:=ai h r x) (L:=ord h x.rows) ln nd (by lia) (by lia)
 rw[AR,AR] at e6;have ly:((ask (ai h r x) (cx (bx h x) (ai h r x) (ord h x.rows)) (ord h x.rows)).filterMap (cW (ai h r x) C)).length<=(ord h x.rows).length:=i4 (Hv _ _) (Ad _ _);obtain⟨X,i1,i2,e7⟩:=W3 (S:=⟨s++[.o (.ar (b_ []))],hR (aF h) r x⟩) (n:=s.length) (W:=cx (bx h x) (ai h r x) (ord h x.rows)++(ask (ai h r x) (cx (bx h x) (ai h r x) (ord h x.rows)) (ord h x.rows)).filterMap (cW (ai h r x) C)) (G:=ai h r x) (L:=ord h x.rows) ln nd un (by lia) (by rw[cP];lia)
 rw[AR,AR] at e7;obtain⟨a6,a7,a8,a9,e8⟩:=ZU (s:=s) (hd:=aF h) (r:=r) (x:=x) (X:=X) (G:=ai h r x) (L:=ord h x.rows) (g1:=some (.d (.lst ((ord h x.rows).map bC)))) nd (by lia)
 have e4:=e4n (r:=r) (G:=ai h r x) (M:=bS h x X) (m:=s.length+2) (s:=s++[.o (.ar (b_ X)),.o (.lst ((ord h x.rows).map (jB X (ai h r x)))),.o (.lst ((bS h x X).map (oQ (ai h r x))))]) g o (λw m=>o.mem.mp (rB.mp m).1) (nd.sublist (List.Sublist.map _ Ma)) (by rw[<-pl];exact Ad _ _) hn Fw
 rw[Lv] at e4;refine⟨X,⟨C,oC,i1,i2⟩,?_⟩;have pw:=Pu (G:=ai h r x) (ord h x.rows);have fg:=ZV (G:=ai h r x) nd;have ll:((cv (ai h r x) (ord h x.rows)).length<1000)=True:=bN (by unfold cv;rw[pR];lia)
 have ew:(ord h x.rows).map (qp h r x)=(ord h x.rows).map (oQ (ai h r x)):=rfl;have w0:b_ []=[]:=rfl;rw[w0] at e5;unfold aT;rw[ew] at e2;clear i1 i2 oC;generalize cx (bx h x) (ai h r x) (ord h x.rows)=W1 at *;generalize W1++(ask (ai h r x) W1 (ord h x.rows)).filterMap (cW (ai h r x) C)=W2 at *;generalize fQ h (ai h r x) (kA (bS h x X)) (bS h x X) x=x2 at *;unfold bS at e4;generalize(ord h x.rows).map (oQ (ai h r x))=l1 at *;generalize((ord h x.rows).filter (nk X)).map (oQ (ai h r x))=l2 at *;generalize(ord h x.rows).map (jB X (ai h r x))=l3 at *;generalize(ord h x.rows).map bC=l4 at *;generalize cv (ai h r x) (ord h x.rows)=gs at *;generalize aF h=hd at *;unfold yD Qo;simp only[↓ev,hR,fJ,yz,e1,ba,e2,pw,ll,fg,Ni,e3,e5,e6,e7,aV,KY,Cg,iI,e8,ZA,e4,lt2,Fw,A5]
end
variable{G:Row->Goal}{j:Int}
theorem Pw{α:Type}[DecidableEq α]:∀{l1 l2:List α},l1.Nodup->(∀a∈l1,a∈l2)->l1.length<=l2.length
 |[],_,_,_=>lZ _
 |a::l1,l2,nd,h=>by
  rw[qr] at nd;have ha:=h a (.head _);have ih:=Pw (l1:=l1) (l2:=l2.erase a) nd.2 λb m=>by
   rw[List.mem_erase_of_ne (λe=>nd.1 (by rw[<-e];exact m))]
   exact h b (.tail _ m)
  rw[List.length_erase_of_mem ha] at ih;have:=List.length_pos_of_mem ha;rw[jt];lia
section
variable{h:ay}{r:Int}{x:Hl}{n:Nat}{X:List (Str×D)}{w z:Row}
theorem Px(g:aB h)(o:Ok h n x)(hw:w∈x.rows):((ai h r x w).2=none->(ai h r x w).1∈h.carts)/\∀j,(ai h r x w).2=some j->∃bt∈h.ae,bt.name=(ai h r x w).1/\0<=j/\j<bt.long:=by
 obtain⟨bt,hb,eb,i0,i1,_⟩:=(o.rw w hw).1;have lo:=(g.lg bt hb).1;have eg:ai h r x w=kx h r x w bt:=by unfold ai;rw[<-eb,B2 g hb]
 rw[eg];unfold kx;split
 .exact⟨λz=>(by cases z),λj e=>⟨bt,hb,rfl,by cases e;lia,by cases e;assumption⟩⟩
 .split
  .exact⟨λz=>(by cases z),λj e=>⟨bt,hb,rfl,by cases e;lia,by cases e;lia⟩⟩
  .obtain⟨a,ea,ha⟩:=Jw g o hw hb eb;rw[ea,xX];unfold tu;split
   .rename_i hc
    exact⟨λ_=>iG.mp hc,λj e=>(by cases e)⟩
   .rename_i hc
    split
    .exact⟨λz=>(by cases z),λj e=>⟨bt,hb,rfl,by cases e;lia,by cases e;lia⟩⟩
    .have hm:a∈h.ae.map ao.name:=(Cd g.fwd bt hb a ha).resolve_right λz=>hc (iG.mpr z)
     obtain⟨b2,Gs,e2⟩:=gp.mp hm;have l2:=(g.lg b2 Gs).1;exact⟨λz=>(by cases z),λj e=>⟨b2,Gs,e2,by cases e;lia,by cases e;lia⟩⟩
theorem kT.sub{L:List Row}{W X:List (Str×D)}(a:kT G L W X):∀b∈W.map (·.1),b∈X.map (·.1):=by
 induction a with
 |base=>exact λ_ m=>m
 |step _ _ _ ih=>exact λb m=>by rw[c_];exact cG.mpr (.inl (ih b m))
theorem ug(o:Ok h n x):w∈bS h x X↔w∈x.rows/\w.bag∉X.map (·.1):=by
 unfold bS;rw[rB,o.mem,mI]
theorem W4(o:Ok h n x)(t:gw h r x X):∃C:List (bf×Str),∀w∈bS h x X,(ai h r x w).2.isSome=true->look C (gk (ai h r x) w)=some w.bag:=by
 obtain⟨C,oC,gr,fn⟩:=t;refine⟨C,λw hw hs=>?_⟩
 obtain⟨hr,hX⟩:=(ug o).mp hw;have h1:w.bag∉(cx (bx h x) (ai h r x) (ord h x.rows)).map (·.1):=λm=>hX (gr.sub _ (by rw[c_];exact cG.mpr (.inl m)))
 have ha:w∈ask (ai h r x) (cx (bx h x) (ai h r x) (ord h x.rows)) (ord h x.rows):=g_.mpr ⟨o.mem.mpr hr,h1,hs⟩;obtain⟨c,hc⟩:=Option.ne_none_iff_exists'.mp (oC.2.1 w ha);rw[hc];by_cases e:c=w.bag
 .rw[e]
 .refine bW (gr.sub w.bag ?_) hX;rw[c_];refine cG.mpr (.inr (gp.mpr ⟨(w.bag,.tup [.str "yields",.str c]),mW.mpr ⟨w,ha,?_⟩,rfl⟩));unfold cW;rw[hc];exact aK e
theorem pS(e:(G w).2=some j):gk G w=((G w).1,j):=by unfold gk;rw[e];rfl
theorem T2(o:Ok h n x)(t:gw h r x X)(hw:w∈bS h x X)(hz:z∈bS h x X){k:Int}(ew:(ai h r x w).2=some j)(ez:(ai h r x z).2=some k)(e:((ai h r x w).1,j)=((ai h r x z).1,k)):w=z:=by
 obtain⟨C,hC⟩:=W4 o t;have h1:=hC w hw (by rw[ew];rfl)
 have h2:=hC z hz (by rw[ez];rfl)
 rw[pS ew,e,<-pS ez,h2] at h1;exact rh o.nb ((ug o).mp hw).1 ((ug o).mp hz).1 (Option.some.inj h1).symm
theorem ZW(un:(x.rows.map λw=>(w.b,w.i)).Nodup)(o:Ok h n x)(hz:z∈x.rows)(ew:(G w).2=some j)(e:((G w).1,j)=(z.b,z.i)):hold G (ord h x.rows) w=some z.bag:=by
 unfold hold;rw[ew];dsimp only;rw[e];refine WW ?_ (gp.mpr ⟨z,o.mem.mpr hz,rfl⟩);unfold gM;rw[jS];exact(o.perm.map _).nodup_iff.mpr un
theorem W5(o:Ok h n x)(t:gw h r x X)(hw:w∈bS h x X)(hz:z∈x.rows)(ew:(ai h r x w).2=some j)(e:((ai h r x w).1,j)=(z.b,z.i)):z∈bS h x X:=by
 obtain⟨C,oC,gr,fn⟩:=t;obtain⟨hr,hX⟩:=(ug o).mp hw;refine(ug o).mpr ⟨hz,λm=>fn w (o.mem.mpr hr) z.bag ⟨hX,ZW o.un o hz ew e,m⟩⟩
theorem uS(o:Ok h n x)(hz:z∈x.rows):kA (bS h x X) z=true↔z∈bS h x X:=by
 unfold kA;rw[iG,gp];constructor
 .rintro⟨u,hu,e⟩;rw[<-rh o.nb ((ug o).mp hu).1 hz e];exact hu
 .exact λm=>⟨z,m,rfl⟩
end
section
variable{h:ay}{r:Int}{x:Hl}{n:Nat}{X:List (Str×D)}{w z z':Row}
theorem IV(o:Ok h n x)(hz:z'∈(aT h r x X).rows):∃z∈x.rows,z'.bag=z.bag/\z'.fl=z.fl/\((z∉bS h x X/\z'=z)\/(z∈bS h x X/\gP h (ai h r x) z=some z')):=by
 obtain⟨z,KC,e⟩:=mW.mp hz;refine⟨z,KC,?_⟩;split at e
 .rename_i hm
  obtain⟨e1,e2⟩:=FN e;exact⟨e1,e2,.inr ⟨(uS o KC).mp hm,e⟩⟩
 .rename_i hm
  cases e;exact⟨rfl,rfl,.inl ⟨λm=>hm ((uS o KC).mpr m),rfl⟩⟩
theorem e4p{G:Row->Goal}(e:gP h G z=some z')(h0:0<=z.gn):0<=z'.gn:=by
 unfold gP at e;split at e
 .cases e
 .cases e;dsimp only;split
  .exact h0
  .split <;> lia
theorem Gd{G:Row->Goal}(e:gP h G z=some z'):∃j,(G z).2=some j/\z'.b=(G z).1/\z'.i=j:=by
 unfold gP at e;split at e
 .cases e
 .rename_i j ej
  cases e;exact⟨j,ej,rfl,rfl⟩
theorem Jk{nw:Int}{p:Str×Str×Int}(o:Ok h n x)(hp:p∈(bS h x X).filterMap (eF (ai h r x) nw)):∃u∈x.rows,u∈bS h x X/\(ai h r x u).2=none/\p=(u.bag,(ai h r x u).1,nw):=by
 obtain⟨u,hu,e⟩:=mW.mp hp;refine⟨u,((ug o).mp hu).1,hu,?_⟩;unfold eF at e;split at e
 .rename_i en
  cases e;exact⟨en,rfl⟩
 .cases e
theorem Py{G:Row->Goal}{nw:Int}:∀M:List Row,((M.filterMap (eF G nw)).map (·.1)).Sublist (M.map Row.bag)
 |[]=>.slnil
 |u::M=>by
  have ih:=Py (G:=G) (nw:=nw) M;rw[bL];cases e:(G u).2 with
  |none=>
   rw[Mi (b:=(u.bag,(G u).1,nw)) (by unfold eF;rw[e])]
   exact ih.cons₂ _
  |some j=>
   rw[Mh (by unfold eF;rw[e])]
   exact ih.cons _
theorem Ok.turn(g:aB h)(o:Ok h n x)(t:gw h r x X):Ok h n (aT h r x X):=by
 have nM:((bS h x X).map Row.bag).Nodup:=(((o.perm.map _).nodup_iff.mpr o.nb:((ord h x.rows).map Row.bag).Nodup)).sublist (List.Sublist.map _ Ma);have sb:((aT h r x X).rows.map Row.bag).Sublist (x.rows.map Row.bag):=Fv _ _;have tD:∀b∈((bS h x X).filterMap (eF (ai h r x) (x.now+1))).map (·.1),∃u∈x.rows,u∈bS h x X/\(ai h r x u).2=none/\b=u.bag:=λb m=>by
  obtain⟨p,hp,rfl⟩:=gp.mp m;obtain⟨u,h1,h2,h3,rfl⟩:=Jk o hp;exact⟨u,h1,h2,h3,rfl⟩
 have dj:∀b∈(aT h r x X).rows.map Row.bag,b∉((bS h x X).filterMap (eF (ai h r x) (x.now+1))).map (·.1):=λb mb mo=>by
  obtain⟨z',GP,rfl⟩:=gp.mp mb;obtain⟨u,hu,hum,hn,e⟩:=tD _ mo;obtain⟨z,hz,eb,_,st⟩:=IV o GP;have ezu:z=u:=rh o.nb hz hu (by rw[<-eb,e])
  subst ezu;rcases st with⟨s1,_⟩|⟨_,s2⟩
  .exact s1 hum
  .obtain⟨j,ej,_⟩:=Gd s2;rw[hn] at ej;cases ej
 have ndo:(((bS h x X).filterMap (eF (ai h r x) (x.now+1))).map (·.1)).Nodup:=by
  exact nM.sublist (Py _)
 have nd:((aT h r x X).rows.map Row.bag++(aT h r x X).gone.map (·.1)).Nodup:=by
  have o1:=iF.mp o.nd;have eg:(aT h r x X).gone.map (·.1)=x.gone.map (·.1)++((bS h x X).filterMap (eF (ai h r x) (x.now+1))).map (·.1):=by
   show(x.gone++_).map _=_
   simp_all
  rw[eg,iF];refine⟨o1.1.sublist sb,iF.mpr ⟨o1.2.1,ndo,λa ma b mb e=>?_⟩,λa ma b mb e=>?_⟩
  .obtain⟨u,hu,_,_,eu⟩:=tD b mb;exact o1.2.2 u.bag (jT hu) a ma (by rw[e,eu])
  .rcases cG.mp mb with mb|mb
   .exact o1.2.2 a (sb.subset ma) b mb e
   .exact dj a ma (by rw[e];exact mb)
 refine⟨λz' GP=>?_,nd,?_,o.bk,o.bn,?_,?_⟩
 .obtain⟨z,hz,eb,ef,st⟩:=IV o GP;obtain⟨k1,k2,k3⟩:=o.rw z hz;refine⟨?_,by rw[eb];exact k2,by rw[ef];exact k3⟩
  rcases st with⟨_,rfl⟩|⟨_,s2⟩
  .exact k1
  .obtain⟨j,ej,e1,e2⟩:=Gd s2;obtain⟨bt,hb,e3,e4,e5⟩:=(Px g o hz).2 j ej;obtain⟨_,_,_,_,_,CU⟩:=k1;exact⟨bt,hb,by rw[e1];exact e3,by rw[e2];exact e4,by rw[e2];exact e5,e4p s2 CU⟩
 .show((iQ h (ai h r x) (kA (bS h x X)) x.rows).map _).Nodup;unfold iQ;rw[List.Nodup,Mm,List.pairwise_filterMap];have un:=o.un;have nb:=o.nb;rw[List.Nodup,Mm] at un nb;refine(un.and nb).imp_of_mem λ{a b} ma mb ne a' ea b' wG e=>?_
  grind [Gd,uS,W5,T2]
 .have:=sb.length_le;rw[bc,bc] at this;exact i4 this o.rl
 .have:=Pw nd (l2:=x.rows.map Row.bag++x.gone.map (·.1)) λa m=>by
   rcases cG.mp m with m|m
   .exact cG.mpr (.inl (sb.subset m))
   .have m:a∈(x.gone++(bS h x X).filterMap (eF (ai h r x) (x.now+1))).map (·.1):=m
    rw[c_,cG] at m;rcases m with m|m
    .exact cG.mpr (.inr m)
    .obtain⟨u,hu,_,_,e⟩:=tD a m;exact cG.mpr (.inl (by rw[e];exact jT hu))
  rw[cP,cP,bc,bc,bc,bc] at this;have sz:=o.sz;show x.book.length+x.halts.length+_+_<=n;lia
end
section
variable{s:List Cell}{h:ay}{r:Int}{x:Hl}{n q:Nat}{f ct b:Str}{cl:Int}
theorem Jl{hd:D}(q:Nat)(hv:jA f):EE q [.d (.ref 0),.d (.str f)] (hS hd r x s)=some (if(x.book.map (·.1)).contains f=true then .ok (rd .aG) (hS hd r x s) else .ex 104 none (hS hd r x s)):=by
 have i:(aL (ui x.book) (.inr f)).isSome=_:=A1;unfold EE Mt;cases hc:(x.book.map (·.1)).contains f with
 |true=>rw[hc] at i;simp only[↓ev,hv,aV,hR,yy,AQ,ba,i,jR,eE]
 |false=>rw[hc] at i;simp only[↓ev,hv,aV,hR,yy,AQ,ba,i,oA,eE]
theorem Vm(q:Nat){S:aO}(hl:0<=cl):EH q [.d (.int cl)] S=some (.ok (rd .aG) S):=by
 have hl:(cl<0)=False:=eq_false (by lia)
 unfold EH My;simp only[↓ev,hl,decide_false,aV,oJ]
theorem uL{l:List Str}(h:l.contains b=true):b∈l:=iG.mp h
theorem Nl{l:List Str}(h:l.contains b=false):b∉l:=λm=>by rw[iG.mpr m] at h;cases h
theorem W6(g:aB h)(o:Ok h n x)(hn:n<1000)(hv:jA f)(hf:f∉x.book.map (·.1))(hc:ct∈h.carts.drop 1)(hl:0<=cl):BV 0 [.d (.ref 0),.d (.str f),.d (.str ct),.d (.int cl)] (hS (aF h) r x s)=some (.ok (rd .aG) (hS (aF h) r { x with book:=x.book++[(f,ct,cl)]} s))/\Ok h (n+1) { x with book:=x.book++[(f,ct,cl)]}:=by
 have i:(aL (ui x.book) (.inr f)).isSome=_:=A1;rw[show(x.book.map (·.1)).contains f=false by rw[t7];exact λz=>hf (uL z)] at i
 have cu:cutD (dS h.carts) (some 1) none=dS (h.carts.drop 1):=by rw[show(1:Int)=((1:Nat):Int) from rfl,Wt,dS,dS,Mj]
 have e1:=λq S=>Vm (cl:=cl) (S:=S) q hl
 have h2:(h.carts.drop 1).contains ct=true:=iG.mpr hc;have p:bQ (ui x.book) (.inr f) (.tup [.str f,.str ct,.int cl])=ui (x.book++[(f,ct,cl)]):=by
  unfold ui;rw[Cv hf];unfold td;rw[c_];rfl
 have sz:=o.sz;have l1:((ui x.book).length<1000000)=True:=bN (by unfold ui;rw[pR];lia)
 refine⟨?_,λw m=>⟨(o.rw w m).1,(o.rw w m).2.1,λf' e=>?_⟩,o.nd,o.un,λp m=>?_,?_,o.rl,?_⟩
 .rw[show aF h=.tup [.lst (h.ae.map av),.lst (dS h.carts)] from rfl];unfold BV Nf;simp only[↓ev,hS,hR,hv,aV,yy,AQ,ba,i,oE,o8,eH,cu,jH,j5,h2,jR,e1,l1,p,eE]
 .rw[c_];exact cG.mpr (.inl ((o.rw w m).2.2 f' e))
 .rcases cG.mp m with m|m
  .exact o.bk p m
  .rw[kJ.mp m];exact List.mem_of_mem_drop hc
 .rw[c_,iF];refine⟨o.bn,by simp,λa ma b mb e=>hf ?_⟩
  have:b=f:=by simpa using mb
  rw[<-this,<-e];exact ma
 .dsimp only;rw[cP,pJ];lia
theorem e4q(g:aB h)(o:Ok h n x)(hn:n<1000)(hb:(h.ae.map ao.name).contains b=true):AA 0 [.d (.ref 0),.d (.str b)] (hS (aF h) r x s)=some (.ok (rd .aG) (hS (aF h) r { x with halts:=fP x.halts b} s))/\Ok h (n+1) { x with halts:=fP x.halts b}:=by
 have e0:=λq=>IF (s:=s) (r:=r) (x:=x) (q:=q) g hb
 simp only[uD] at e0;have sz:=o.sz;have l1:((m7 x.halts).length<1000000)=True:=bN (by rw[Jv];lia)
 have p:=Ga b x.halts;refine⟨?_,o.rw,o.nd,o.un,o.bk,o.bn,o.rl,?_⟩
 .generalize aF h=hd at *;unfold AA Oh;simp only[↓ev,hS,hR,fJ,yi,e0,AD,Cb,ba,l1,p,eE]
 grind [Oq]
theorem ZX(b:Str)(ks:List Str):dq (m7 ks) b=m7 (ks.filter λk=>decide (k≠b)):=FL (k:=λk=>k) (v:=λ_=>.bl true)
theorem ZY(g:aB h)(o:Ok h n x)(hb:(h.ae.map ao.name).contains b=true):B1 0 [.d (.ref 0),.d (.str b)] (hS (aF h) r x s)=some (.ok (rd .aG) (hS (aF h) r { x with halts:=x.halts.filter λk=>decide (k≠b)} s)):=by
 have e0:=λq=>IF (s:=s) (r:=r) (x:=x) (q:=q) g hb
 simp only[uD] at e0;have i:=wu b x.halts;have d:=ZX b x.halts;have t1:fV (m7 x.halts)=true:=yE (k:=λk=>k) (v:=λ_=>.bl true)
 generalize aF h=hd at *;unfold B1 NN;cases hc:x.halts.contains b with
 |true=>
  rw[hc] at i;obtain⟨y,hy⟩:=Option.isSome_iff_exists.mp i;simp only[↓ev,hS,hR,fJ,yi,e0,AD,Cb,ba,aV,hy,v8,t1,d,eE]
 |false=>
  rw[hc] at i;have hf:x.halts.filter (λk=>decide (k≠b))=x.halts:=List.filter_eq_self.mpr λk m=>rG λe=>Nl hc (by rw[<-e];exact m)
  simp only[↓ev,hS,hR,fJ,yi,e0,AD,Cb,ba,aV,i,eE,hf]
theorem Ok.start(o:Ok h n x):Ok h n { x with halts:=x.halts.filter λk=>decide (k≠b)}:=⟨o.rw,o.nd,o.un,o.bk,o.bn,o.rl,by
 have:=Ad (λk=>decide (k≠b)) x.halts
 have sz:=o.sz
 lia⟩
end
theorem ZZ{b:Str}(hn:jA b):b.length<=8:=by
 refine R0 λz=>?_
 have e:=hn 0 ⟨[],[]⟩;have h2:((b.length:Int)<=8)=False:=eq_false (by lia)
 have h3:(1<=(b.length:Int))=True:=bN (by lia)
 by_cases hl:b.length<=1000000
 .have h4:=bN hl;have e2:o7 0 [.d (.str b)] ⟨[],[]⟩=some (.ok (rd (.bl false)) ⟨[],[]⟩):=by
   unfold o7 E8;simp only[↓ev,KG,aV,h4,h3,decide_true,h2,decide_false];rfl
  rw[e] at e2;cases e2
 .have h4:=eq_false hl;have e2:o7 0 [.d (.str b)] ⟨[],[]⟩=none:=by
   unfold o7 E8;simp only[↓ev,KG,aV,h4];rfl
  rw[e] at e2;cases e2
noncomputable def GZ(rows:List Row)(b:Str):Bool:=rows.any λw=>w.b == b&&w.i == 0
theorem W7(b:Str)(rows:List Row):((eA rows).map (·.2)).any (λz=>aR z (pl b 0))=GZ rows b:=by
 unfold eA td GZ;rw[jS,List.any_map]
 congr 1
 funext w;exact yW
theorem Z0(rows:List Row):((eA rows).map (·.2)).all (dh 40)=true:=by
 unfold eA td;rw[jS,Hj];exact pK.mpr λw _=>rfl
theorem FO{α:Type}{k:α->Str}{v:α->D}{xs:List α}{x:α}(h:k x∉xs.map k):bQ (td k v xs) (.inr (k x)) (v x)=td k v (xs++[x]):=by
 rw[Cv h];unfold td;rw[c_];rfl
def Dn(h:ay)(r:Int)(n:Nat)(x x':Hl)(s:List Cell)(res:ak (Rs Rv)):Prop:=(res=some (.ok (rd .aG) (hS (aF h) r x' s))/\Ok h (n+1) x')\/∃C,res=some (.ex C none (hS (aF h) r x s))/\(iR.any λp=>p.2 == C)=true
section
variable{s:List Cell}{h:ay}{r:Int}{x:Hl}{n q:Nat}{f b bag:Str}{fl:ak Str}
theorem e6w(g:aB h)(o:Ok h n x)(hn:n<1000)(hv:jA bag)(hf:∀f,fl=some f->jA f)(h8:x.rows.length<8)(pz:bag∉x.rows.map Row.bag)(qd:bag∉x.gone.map (·.1))(hb:(h.ae.map ao.name).contains b=true):Dn h r n x { x with rows:=x.rows++[⟨bag,b,0,fl,0⟩]} s (uf 0 [.d (.ref 0),.d (.str bag),.d (aS fl),.d (.str b)] (hS (aF h) r x s)):=by
 have i1:(aL (eA x.rows) (.inr bag)).isSome=_:=A1;have i2:(aL (u9 x.gone) (.inr bag)).isSome=_:=A1;rw[show(x.rows.map Row.bag).contains bag=false by rw[t7];exact λz=>pz (uL z)] at i1
 rw[show(x.gone.map (·.1)).contains bag=false by rw[t7];exact λz=>qd (uL z)] at i2
 have fz:(∃f,fl=some f/\(x.book.map (·.1)).contains f=false)\/(fl=none\/∃f,fl=some f/\(x.book.map (·.1)).contains f=true):=by
  cases fl with
  |none=>exact .inr (.inl rfl)
  |some f=>
   cases hc:(x.book.map (·.1)).contains f with
   |true=>exact .inr (.inr ⟨f,rfl,hc⟩)
   |false=>exact .inl ⟨f,rfl,hc⟩
 rcases fz with⟨f,rfl,hc⟩|fz
 .have e0:=λq=>Jl (s:=s) (hd:=aF h) (r:=r) (x:=x) q (hf f rfl)
  simp only[hc,aV,m_] at e0;refine .inr ⟨104,?_,rfl⟩;generalize aF h=hd at *;unfold uf AO aS;simp only[↓ev,hv,aV,hR,mZ,nz,ba,i1,uP,we,i2,fJ,HL,e0,eE]
 .have hfl:∀f,fl=some f->f∈x.book.map (·.1):=λf e=>by
   rcases fz with z|⟨f',z,hc⟩
   .rw[z] at e;cases e
   .rw[z] at e;cases e;exact uL hc
  have e1:=λq=>IF (s:=s) (r:=r) (x:=x) (q:=q) g hb
  simp only[uD] at e1;have t1:fV (eA x.rows)=true:=yE;have va:=W7 b x.rows;have vo:=Z0 x.rows;obtain⟨bt,Kc,QX⟩:=gp.mp (uL hb);have lb:=ZZ (g.nm bt Kc);rw[QX] at lb;have l1:(b.length<=1000000)=True:=bN (by lia)
  have l2:((Str.empty++("cell 0 of belt ":Str)).length<=1000000)=True:=bN (by decide +kernel)
  have l3:((Str.empty++("cell 0 of belt ":Str)++b).length<=1000000)=True:=bN (by
   rw[Str.length_append];have:(Str.empty++("cell 0 of belt ":Str)).length<=100:=by decide +kernel
   lia)
  have l4:((Str.empty++("cell 0 of belt ":Str)++b++(" has a bag":Str)).length<=1000000)=True:=bN (by
   rw[Str.length_append,Str.length_append];have:(Str.empty++("cell 0 of belt ":Str)).length<=100:=by decide +kernel
   have:(" has a bag":Str).length<=100:=by decide +kernel
   lia)
  cases ho:GZ x.rows b with
  |true=>
   rw[ho] at va;refine .inr ⟨128,?_,rfl⟩;rcases fz with rfl|⟨f,rfl,hc⟩
   .generalize aF h=hd at *;unfold uf AO aS;simp only[↓ev,hv,aV,hR,mZ,nz,ba,i1,uP,we,i2,fJ,yi,e1,t1,vo,va,l2,l1,l3,l4,eE]
   .have e0:=λq=>Jl (s:=s) (hd:=aF h) (r:=r) (x:=x) q (hf f rfl)
    simp only[hc,uD] at e0;generalize aF h=hd at *;unfold uf AO aS;simp only[↓ev,hv,aV,hR,mZ,nz,ba,i1,uP,we,i2,fJ,HL,e0,yi,e1,t1,vo,va,l2,l1,l3,l4,eE]
  |false=>
   rw[ho] at va;have p1:bQ (eA x.rows) (.inr bag) (pl b 0)=eA (x.rows++[⟨bag,b,0,fl,0⟩]):=FO (x:=(⟨bag,b,0,fl,0⟩:Row)) pz;have p2:bQ (pC x.rows) (.inr bag) (aS fl)=pC (x.rows++[⟨bag,b,0,fl,0⟩]):=FO (x:=(⟨bag,b,0,fl,0⟩:Row)) pz;have p3:bQ (mR x.rows) (.inr bag) (.int 0)=mR (x.rows++[⟨bag,b,0,fl,0⟩]):=FO (x:=(⟨bag,b,0,fl,0⟩:Row)) pz;have m1:((eA x.rows).length<1000000)=True:=bN (by unfold eA;rw[pR];lia)
   have m2:((pC x.rows).length<1000000)=True:=bN (by unfold pC;rw[pR];lia)
   have m3:((mR x.rows).length<1000000)=True:=bN (by unfold mR;rw[pR];lia)
   have sz:=o.sz;have lo:=(g.lg bt Kc).1;refine .inl ⟨?_,λw m=>?_,?_,?_,o.bk,o.bn,?_,?_⟩
   .rcases fz with rfl|⟨f,rfl,hc⟩
    .generalize aF h=hd at *;unfold uf AO;unfold aS at p2 ⊢;simp only[↓ev,hS,hR,hv,aV,mZ,nz,ba,i1,uP,we,i2,fJ,yi,e1,t1,vo,va,m1,p1,uN,wc,m2,p2,Av,BY,m3,p3,eE]
    .have e0:=λq=>Jl (s:=s) (hd:=aF h) (r:=r) (x:=x) q (hf f rfl)
     simp only[hc,uD] at e0;generalize aF h=hd at *;unfold uf AO;unfold aS at p2 ⊢;simp only[↓ev,hS,hR,hv,aV,mZ,nz,ba,i1,uP,we,i2,fJ,HL,e0,yi,e1,t1,vo,va,m1,p1,uN,wc,m2,p2,Av,BY,m3,p3,eE]
   .rcases cG.mp m with m|m
    .exact o.rw w m
    .rw[kJ.mp m];exact⟨⟨bt,Kc,QX,rE _,by show(0:Int)<_;lia,rE _⟩,hv,hfl⟩
   .dsimp only;rw[c_,mY];have o1:=iF.mp o.nd;refine iF.mpr ⟨o1.1,iF.mpr ⟨by simp,o1.2.1,λa ma c mc e=>?_⟩,λa ma c mc e=>?_⟩
    .have:a=bag:=by simpa using ma
     exact qd (by rw[<-this,e];exact mc)
    .rcases cG.mp mc with mc|mc
     .have:c=bag:=by simpa using mc
      exact pz (by rw[<-this,<-e];exact ma)
     .exact o1.2.2 a ma c mc e
   .dsimp only;rw[c_];refine iF.mpr ⟨o.un,by simp,λa ma c mc e=>?_⟩
    have ec:c=(b,0):=by simpa using mc
    obtain⟨w,hw,ew⟩:=gp.mp ma;have:GZ x.rows b=true:=Mb.mpr ⟨w,hw,by
     rw[e,ec] at ew;have h1:=congrArg Prod.fst ew;have h2:=congrArg Prod.snd ew;dsimp only at h1 h2;rw[h1,h2];simp⟩
    rw[ho] at this;cases this
   .dsimp only;rw[cP,pJ];lia
   .dsimp only;rw[cP,pJ];lia
end
section
variable{h:ay}{r:Int}{x:Hl}{n:Nat}{X:List (Str×D)}{w z:Row}{ps:List Str}
theorem Vn(g:aB h)(o:Ok h n x)(t:gw h r x X):((aT h r x X).rows.map Row.bag++(aT h r x X).gone.map (·.1)).Perm (x.rows.map Row.bag++x.gone.map (·.1)):=by
 have o':=o.turn g t;have eg:(aT h r x X).gone=x.gone++(bS h x X).filterMap (eF (ai h r x) (x.now+1)):=rfl;have sb:((aT h r x X).rows.map Row.bag).Sublist (x.rows.map Row.bag):=Fv _ _;refine(List.perm_ext_iff_of_nodup o'.nd o.nd).mpr λa=>⟨λm=>?_,λm=>?_⟩
 .rcases cG.mp m with m|m
  .exact cG.mpr (.inl (sb.subset m))
  .rw[eg,c_,cG] at m;rcases m with m|m
   .exact cG.mpr (.inr m)
   .obtain⟨p,hp,rfl⟩:=gp.mp m;obtain⟨u,hu,_,_,rfl⟩:=Jk o hp;exact cG.mpr (.inl (jT hu))
 .rcases cG.mp m with m|m
  .obtain⟨u,hu,rfl⟩:=gp.mp m;by_cases um:u∈bS h x X
   .cases ej:(ai h r x u).2 with
    |none=>
     refine cG.mpr (.inr ?_);rw[eg,c_,cG];exact .inr (gp.mpr ⟨(u.bag,(ai h r x u).1,x.now+1),mW.mpr ⟨u,um,by unfold eF;rw[ej]⟩,rfl⟩)
    |some j=>
     have em:∃u',gP h (ai h r x) u=some u'/\u'.bag=u.bag:=by unfold gP;rw[ej];exact⟨_,rfl,rfl⟩
     obtain⟨u',em,eu⟩:=em;refine cG.mpr (.inl (gp.mpr ⟨u',mW.mpr ⟨u,hu,?_⟩,eu⟩));rw[aP ((uS o hu).mpr um)];exact em
   .exact cG.mpr (.inl (gp.mpr ⟨u,Jj hu (by rw[t7];exact λz=>um ((uS o hu).mp z)),rfl⟩))
  .refine cG.mpr (.inr ?_);rw[eg,c_,cG];exact .inl m
structure Iv (h:ay) (ps:List Str) (x:Hl):Prop where
 pm:(x.rows.map Row.bag++x.gone.map (·.1)).Perm ps
 go:∀p∈x.gone,p.2.1∈h.carts/\0<p.2.2/\p.2.2<=x.now
 nw:0<=x.now
theorem Iv.turn(g:aB h)(o:Ok h n x)(t:gw h r x X)(i:Iv h ps x):Iv h ps (aT h r x X):=by
 have nw:=i.nw;refine⟨(Vn g o t).trans i.pm,λp m=>?_,by show 0<=x.now+1;lia⟩
 show p.2.1∈h.carts/\0<p.2.2/\p.2.2<=x.now+1;rcases cG.mp (show p∈x.gone++_ from m) with m|m
 .have:=i.go p m;exact⟨this.1,this.2.1,by lia⟩
 .obtain⟨u,hu,_,e,rfl⟩:=Jk o m;exact⟨(Px g o hu).1 e,by show 0<x.now+1;lia,rE _⟩
end
abbrev fG(hd:D)(g3 a4 a5 a6 a7 a8:ak Val):Gm:=[some (.c 0),some (.d hd),some (.d (.ref 0)),g3,a4,a5,a6,a7,a8]
section
variable{F F1 F2:List D}{h:ay}{r cl k v w st:Int}{x x':Hl}{n:Nat}{f ct:Str}{bl cs:List D}{g3 a4 a5 a6 a7 a8:ak Val}
theorem e6x(el:(cs.length:Int)=cl)(h1:(1<cl)=False):uM 0 (fG (.tup [.lst bl,.lst cs]) g3 a4 a5 a6 a7 a8) (hS (.tup [.lst bl,.lst cs]) r x [fC F])=some (.nx (fG (.tup [.lst bl,.lst cs]) g3 a4 a5 a6 a7 a8) (hS (.tup [.lst bl,.lst cs]) r x [fC F])):=by
 unfold uM;simp only[↓ev,fG,eH,el,h1,decide_false,aV]
theorem e4r(el:(cs.length:Int)=cl)(h1:(1<cl)=True)(d1:Dr F (cl - 1) v F1)(ha:dC cs (1+v)=some (.str ct))(hk:dC [D.str "bb",.str "aa"] k=some (.str f))(d2:Dr F1 30 w F2)(e:BV 0 [.d (.ref 0),.d (.str f),.d (.str ct),.d (.int w)] (hS (.tup [.lst bl,.lst cs]) r x [fC F2])=some (.ok (rd .aG) (hS (.tup [.lst bl,.lst cs]) r x' [fC F2]))):
  uM 0 (fG (.tup [.lst bl,.lst cs]) g3 (some (.d (.int k))) a5 a6 a7 a8) (hS (.tup [.lst bl,.lst cs]) r x [fC F])=some (.nx (fG (.tup [.lst bl,.lst cs]) g3 (some (.d (.int k))) (some (.d (.str ct))) a6 a7 a8) (hS (.tup [.lst bl,.lst cs]) r x' [fC F2])):=by
 unfold uM;simp only[↓ev,fG,eH,el,h1,decide_true,d1,hR,ha,ba,fJ,Vg,aV,hk,d2,e]
theorem vq:jA "bb"/\jA "aa":=⟨E' [98,98] (by decide) (by decide) (by decide +kernel),E' [97,97] (by decide) (by decide) (by decide +kernel)⟩
noncomputable def x0:Hl:=⟨0,[],[],[],[]⟩
theorem uw(h:ay):Ok h 0 x0:=⟨λw m=>(by cases m),Hm,Hm,λp m=>(by cases m),Hm,by decide,by decide⟩
theorem Ok.up(o:Ok h n x):Ok h (n+1) x:=⟨o.rw,o.nd,o.un,o.bk,o.bn,o.rl,Nat.le_succ_of_le o.sz⟩
theorem e4s(g:aB h)(o:Ok h n x)(hn:n<100)(hF:Fd st F){i:Nat}(hi:i<2)(hb:∀f∈x.book.map (·.1),f∈[("bb":Str),"aa"].take i):∃bk F' uT,Fd st F'/\Ok h (n+1) { x with book:=bk}/\(∀f∈bk.map (·.1),f∈[("bb":Str),"aa"].take (i+1))/\uM 0 (fG (aF h) g3 (some (.d (.int i))) a5 a6 a7 a8) (hS (aF h) r x [fC F])=some (.nx (fG (aF h) g3 (some (.d (.int i))) uT a6 a7 a8) (hS (aF h) r { x with book:=bk} [fC F'])):=by
 have el:((dS h.carts).length:Int)=(h.carts.length:Int):=by rw[bc]
 have ct:=g.sm.ct;have sub:∀f∈[("bb":Str),"aa"].take i,f∈[("bb":Str),"aa"].take (i+1):=λf m=>by
  rw[List.take_succ];exact cG.mpr (.inl m)
 by_cases h1:(1:Int)<h.carts.length
 .obtain⟨v,F1,v0,v1,f1,d1⟩:=mm hF (m:=(h.carts.length:Int) - 1) (by lia) (by lia)
  obtain⟨w,F2,w0,w1,f2,d2⟩:=mm f1 (m:=30) (by decide) (by decide)
  have ha:=Pf (xs:=h.carts) (k:=1+v) (by lia) (by lia)
  have hc:h.carts.getD (1+v).toNat ""∈h.carts.drop 1:=by
   have hl:(1+v).toNat<h.carts.length:=by lia
   rw[Hq,i5 hl,xX,List.mem_drop_iff_getElem];exact⟨v.toNat,by lia,by congr 1;lia⟩
  obtain⟨f,hk,hf,Dd,hff⟩:∃f:Str,dC [D.str "bb",.str "aa"] (i:Int)=some (.str f)/\jA f/\f∉[("bb":Str),"aa"].take i/\f∈[("bb":Str),"aa"].take (i+1):=by
   match i,hi with
   |0,_=>exact⟨"bb",rfl,vq.1,by simp,.head _⟩
   |1,_=>exact⟨"aa",rfl,vq.2,by decide +kernel,.tail _ (.head _)⟩
  obtain⟨e,o'⟩:=W6 (r:=r) (s:=[fC F2]) (cl:=w) g o (by lia) hf (λm=>Dd (hb f m)) hc w0
  refine⟨_,F2,_,f2,o',λz m=>?_,e4r el (bN h1) d1 ha hk d2 e⟩
  rw[c_] at m;rcases cG.mp m with m|m
  .exact sub z (hb z m)
  .rw[kJ.mp m];exact hff
 .exact⟨x.book,F,a5,hF,o.up,λz m=>sub z (hb z m),e6x el (eq_false h1)⟩
theorem Z4(g:aB h)(hF:Fd st F)(m:Nat)(hm:m<=2):∃bk F' Aw uT,Fd st F'/\Ok h m { x0 with book:=bk}/\aH (af 4) (uM 0) (eV 0 m) (fG (aF h) g3 a4 a5 a6 a7 a8) (hS (aF h) r x0 [fC F])=some (.nx (fG (aF h) g3 Aw uT a6 a7 a8) (hS (aF h) r { x0 with book:=bk} [fC F'])):=by
 obtain⟨U',S',e,bk,F',Aw,uT,f',o',_,rfl,rfl⟩:=jI (gg:=af 4) (body:=uM 0) (f:=λ(i:Nat)=>D.int (i:Int)) (U:=fG (aF h) g3 a4 a5 a6 a7 a8) (S:=hS (aF h) r x0 [fC F])
  (λpre U S=>∃bk F' Aw uT,Fd st F'/\Ok h pre.length { x0 with book:=bk}/\(∀f∈bk.map (·.1),f∈[("bb":Str),"aa"].take pre.length)/\U=fG (aF h) g3 Aw uT a6 a7 a8/\S=hS (aF h) r { x0 with book:=bk} [fC F']) (List.range m)
  ⟨[],F,a4,a5,hF,uw h,λf m=>(by cases m),rfl,rfl⟩ (by
   rintro d i rest eq U S ⟨bk,F',Aw,uT,f',o',hb,rfl,rfl⟩;obtain⟨hq,hi⟩:=Fq eq;obtain⟨Tw,F2,a52,f2,o2,Gs,e⟩:=e4s (g3:=g3) (a5:=uT) (a6:=a6) (a7:=a7) (a8:=a8) (r:=r) g o' (by lia) f' (i:=i) (by lia) (by rw[<-hq];exact hb)
   exact⟨_,_,_,rfl,.inl e,Tw,F2,_,_,f2,by rw[cP];exact o2,by rw[cP,pJ,hq];exact Gs,rfl,rfl⟩)
 rw[t4] at o';rw[<-tN] at e;exact⟨bk,F',Aw,uT,f',o',e⟩
theorem Ok.mono{m:Nat}(o:Ok h n x)(hm:n<=m):Ok h m x:=⟨o.rw,o.nd,o.un,o.bk,o.bn,o.rl,i4 o.sz hm⟩
variable{hd:D}{b4 b5:ak Val}{y:Str}{ol:List D}{lg:Int}{rg:Bool}{x1 x2:Hl}{F3 F4 F5:List D}{u m:Int}{rest:GS}{bn:Int}
structure Mr (F F1 F2 F3 F4 F5:List D) (bl cs:List D) (r m u v:Int) (x1 x2:Hl) (b4 b5:ak Val) (y:Str) (lg:Int) (rg:Bool) (ol:List D) (bn:Int):Prop where
 d1:Dr F 3 r F1
 hi:B' 0 [.d (.ref 0),.d (.tup [.lst bl,.lst cs]),.d (.int r)] ⟨[fC F1],[.ins cHall []]⟩=some (.ok (rd .aG) (hS (.tup [.lst bl,.lst cs]) r x0 [fC F1]))
 d2:Dr F1 3 m F2
 hm:Nat.ble m.natAbs 1000000000000=true
 hl:aH (af 4) (uM 0) (eV 0 m.toNat) (fG (.tup [.lst bl,.lst cs]) (some (.d (.int m))) none none none none none) (hS (.tup [.lst bl,.lst cs]) r x0 [fC F2])=some (.nx (fG (.tup [.lst bl,.lst cs]) (some (.d (.int m))) b4 b5 none none none) (hS (.tup [.lst bl,.lst cs]) r x1 [fC F3]))
 eb:(bl.length:Int)=bn
 d3:Dr F3 bn u F4
 ha:dC bl u=some (.tup [.str y,.int lg,.bl rg,.lst ol])
 d4:Dr F4 4 v F5
 hs:(if(v == 3)=true then AA 0 [.d (.ref 0),.d (.str y)] (hS (.tup [.lst bl,.lst cs]) r x1 [fC F5])=some (.ok (rd .aG) (hS (.tup [.lst bl,.lst cs]) r x2 [fC F5])) else x2=x1)
theorem e4t(b:Mr F F1 F2 F3 F4 F5 bl cs r m u v x1 x2 b4 b5 y lg rg ol bn)(rest:GS):Io rest 0 [some (.c 0),some (.d (.tup [.lst bl,.lst cs])),none,none,none,none,none,none,none] ⟨[fC F],[]⟩=rest (fG (.tup [.lst bl,.lst cs]) (some (.d (.int m))) b4 b5 (some (.d (.str y))) none none) (hS (.tup [.lst bl,.lst cs]) r x2 [fC F5]):=by
 obtain⟨d1,hi,d2,hm,hl,eb,d3,ha,d4,hs⟩:=b;unfold Io;cases hv:(v == 3) with
 |true=>
  rw[hv,aP rfl] at hs;simp only[↓ev,d1,hi,ba,d2,hR,hm,iI,hl,fG,cJ,eb,d3,ha,d4,aV,oK,hv,fJ,Zz,hs]
 |false=>
  rw[hv,aK (by decide)] at hs
  subst hs;simp only[↓ev,d1,hi,ba,d2,hR,hm,iI,hl,fG,cJ,eb,d3,ha,d4,aV,oK,hv]
end
section
variable{F F1 F2:List D}{h:ay}{r u v w st lg bn:Int}{x x':Hl}{n:Nat}{y bag:Str}{bl cs ol:List D}{rg:Bool}{fl:ak Str}{s:List Cell}{C:ah}{ps:List Str}{g3 a4 a5 a6 a7 a8:ak Val}
abbrev JX:List D:=[.str "aa",.str "bb",.aG]
theorem e6y{ff:D}(d1:Dr F 3 v F1)(hf:dC JX v=some ff)(eb:(bl.length:Int)=bn)(d2:Dr F1 bn u F2)(ha:dC bl u=some (.tup [.str y,.int lg,.bl rg,.lst ol]))(e:uf 0 [.d (.ref 0),.d (.str bag),.d ff,.d (.str y)] (hS (.tup [.lst bl,.lst cs]) r x (fC F2::s))=some (.ok (rd .aG) (hS (.tup [.lst bl,.lst cs]) r x' (fC F2::s)))):
  wk 0 [.c 0,.d (.ref 0),.d (.tup [.lst bl,.lst cs]),.d (.str bag)] (hS (.tup [.lst bl,.lst cs]) r x (fC F::s))=some (.ok (rd (.bl true)) (hS (.tup [.lst bl,.lst cs]) r x' (fC F2::s))):=by
 unfold wk Je;simp only[↓ev,ba,aV,d1,hR,hf,cJ,eb,d2,ha,fJ,Qw,e,CH]
theorem e6z{ff:D}(d1:Dr F 3 v F1)(hf:dC JX v=some ff)(eb:(bl.length:Int)=bn)(d2:Dr F1 bn u F2)(ha:dC bl u=some (.tup [.str y,.int lg,.bl rg,.lst ol]))(e:uf 0 [.d (.ref 0),.d (.str bag),.d ff,.d (.str y)] (hS (.tup [.lst bl,.lst cs]) r x (fC F2::s))=some (.ex C none (hS (.tup [.lst bl,.lst cs]) r x (fC F2::s))))(hC:(iR.any λp=>p.2 == C)=true):
  wk 0 [.c 0,.d (.ref 0),.d (.tup [.lst bl,.lst cs]),.d (.str bag)] (hS (.tup [.lst bl,.lst cs]) r x (fC F::s))=some (.ok (rd (.bl false)) (hS (.tup [.lst bl,.lst cs]) r x (fC F2::s))):=by
 unfold wk Je;simp only[↓ev,ba,aV,d1,hR,hf,cJ,eb,d2,ha,fJ,Qw,e,hC,CH]
theorem Pz{h:ay}(v0:0<=v)(v1:v<h.ae.length):∃bt∈h.ae,dC (h.ae.map av) v=some (av bt):=by
 have hl:v.toNat<h.ae.length:=by lia
 have z:=ra (xs:=h.ae.map av) (j:=v.toNat) (by rw[fW,i5 hl];rfl)
 rw[show((v.toNat:Nat):Int)=v by lia] at z
 exact⟨_,El hl,z⟩
theorem e4u(g:aB h)(b0:0<h.ae.length)(o:Ok h n x)(hn:n<1000)(hF:Fd st F)(hv:jA bag)(h8:x.rows.length<8)(pz:bag∉x.rows.map Row.bag)(qd:bag∉x.gone.map (·.1)):∃b F' x',Fd st F'/\(b=true/\(∃w,w.bag=bag/\x'={ x with rows:=x.rows++[w]})/\Ok h (n+1) x'\/b=false/\x'=x)/\wk 0 [.c 0,.d (.ref 0),.d (aF h),.d (.str bag)] (hS (aF h) r x (fC F::s))=some (.ok (rd (.bl b)) (hS (aF h) r x' (fC F'::s))):=by
 have bl:=g.sm.bl;obtain⟨v,F1,v0,v1,f1,d1⟩:=mm hF (m:=3) (by decide) (by decide)
 obtain⟨u,F2,u0,u1,f2,d2⟩:=mm f1 (m:=(h.ae.length:Int)) (by lia) (by lia)
 obtain⟨bt,hb,ha⟩:=Pz (h:=h) u0 u1;obtain⟨fl,hf,C7⟩:∃fl,dC JX v=some (aS fl)/\∀f,fl=some f->jA f:=by
  rcases show v=0\/v=1\/v=2 by lia with rfl|rfl|rfl
  .exact⟨some "aa",rfl,λf e=>by cases e;exact vq.2⟩
  .exact⟨some "bb",rfl,λf e=>by cases e;exact vq.1⟩
  .exact⟨none,rfl,λf e=>by cases e⟩
 rcases e6w (r:=r) (s:=fC F2::s) (fl:=fl) (b:=bt.name) g o hn hv C7 h8 pz qd (iG.mpr (jT hb)) with⟨e,o'⟩|⟨C,e,hC⟩
 .exact⟨true,F2,_,f2,.inl ⟨rfl,⟨_,rfl,rfl⟩,o'⟩,e6y d1 hf (by rw[bc]) d2 ha e⟩
 .exact⟨false,F2,x,f2,.inr ⟨rfl,rfl⟩,e6z d1 hf (by rw[bc]) d2 ha e hC⟩
structure Fi (h:ay) (n:Nat) (bt:Str) (ps:List Str) (x:Hl):Prop where
 o:Ok h n x
 i:Iv h ps x
 s:∀z∈x.halts,z=bt
theorem Z5{S2:aO}{lv:List D}{hd:D}(e:yD 0 [.d (.ref 0)] (hS hd r x s)=some (.ok (.o (.lst lv)) S2)):BO 0 (fG hd g3 a4 a5 a6 a7 a8) (hS hd r x s)=some (.nx (fG hd g3 a4 a5 a6 a7 a8) S2):=by
 unfold BO;simp only[↓ev,fG,e]
theorem QB(g:aB h){bt:Str}(hn:n<1000):∀(ks:List D) {x:Hl} {a8:ak Val},Fi h n bt ps x->∃x' oI,Fi h n bt ps x'/\aH (af 8) (BO 0) ks (fG (aF h) g3 a4 a5 a6 a7 a8) (hS (aF h) r x s)=some (.nx (fG (aF h) g3 a4 a5 a6 a7 oI) (hS (aF h) r x' s))
 |[],x,a8,i=>⟨x,a8,i,rfl⟩
 |k::ks,x,a8,i=>by
  obtain⟨X,t,e⟩:=QA (s:=s) (r:=r) g i.o hn;obtain⟨x',oI,i',e'⟩:=QB g hn ks (x:=aT h r x X) (a8:=some (.d k)) ⟨i.o.turn g t,i.i.turn g i.o t,i.s⟩;refine⟨x',oI,i',?_⟩;unfold aH;rw[show af 8 k (fG (aF h) g3 a4 a5 a6 a7 a8)=some (fG (aF h) g3 a4 a5 a6 a7 (some (.d k))) from rfl,v7,Z5 e];exact e'
end
def bg(k:Nat):Str:=⟨#[("dcab":Str).cps.toList.getD k 0]⟩
theorem e7a:∀k:Nat,k<4->("dcab":Str).cps.toList.getD k 0∈Bv:=by decide +kernel
theorem e4v:∀i:Nat,i<4->∀j:Nat,j<4->bg i=bg j->i=j:=by decide +kernel
theorem QV{k:Nat}(h:k<4):jA (bg k):=E' [("dcab":Str).cps.toList.getD k 0] (bF _) (by show 1<=8;decide) λc m=>by rw[kJ.mp m];exact e7a k h
section
variable{F F1 F2:List D}{h:ay}{r v w st k:Int}{x x1 x2:Hl}{n:Nat}{y bt:Str}{hd:D}{b:Bool}{ps:List Str}{uy:List D}{c:Nat}{s:List Cell}{g3 a4 a5 a6 a7 a8 b8:ak Val}
theorem e4w(l4:(("dcab":Str).length<=1000000)=True)(hc:dC ("dcab":Str).cps.toList k=some c)(e:wk 0 [.c 0,.d (.ref 0),.d hd,.d (.str ⟨#[c]⟩)] (hS hd r x [fC F,.o (.lst uy)])=some (.ok (rd (.bl b)) (hS hd r x1 [fC F1,.o (.lst uy)])))(pl1:(uy.length<1000000)=True)(d:Dr F1 3 w F2)(hw:Nat.ble w.natAbs 1000000000000=true)
  (el:aH (af 8) (BO 0) (eV 0 w.toNat) (fG hd g3 (some (.d (.int k))) a5 a6 (some (.c 1)) a8) (hS hd r x1 [fC F2,.o (.lst (if b=true then uy++[.str ⟨#[c]⟩] else uy))])=some (.nx (fG hd g3 (some (.d (.int k))) a5 a6 (some (.c 1)) b8) (hS hd r x2 [fC F2,.o (.lst (if b=true then uy++[.str ⟨#[c]⟩] else uy))]))) :
  yj 0 (fG hd g3 (some (.d (.int k))) a5 a6 (some (.c 1)) a8) (hS hd r x [fC F,.o (.lst uy)])=some (.nx (fG hd g3 (some (.d (.int k))) a5 a6 (some (.c 1)) b8) (hS hd r x2 [fC F2,.o (.lst (if b=true then uy++[.str ⟨#[c]⟩] else uy))])):=by
 unfold yj;cases b with
 |true=>
  rw[aP rfl] at el ⊢;simp only[↓ev,fG,l4,hc,e,pl1,d,hw,iI,el]
 |false=>
  rw[aK (by decide)] at el ⊢
  simp only[↓ev,fG,l4,hc,e,aV,d,hw,iI,el]
theorem e4x(g:aB h)(b0:0<h.ae.length)(hF:Fd st F){i:Nat}(hi:i<4)(f:Fi h (10+i) bt ps x)(hp:∀p∈ps,∃j,j<i/\p=bg j)(pl:ps.length<=i):∃Bh F' x' b8,Fd st F'/\Fi h (10+(i+1)) bt Bh x'/\(∀p∈Bh,∃j,j<i+1/\p=bg j)/\Bh.length<=i+1/\yj 0 (fG (aF h) g3 (some (.d (.int i))) a5 a6 (some (.c 1)) a8) (hS (aF h) r x [fC F,.o (.lst (dS ps))])=some (.nx (fG (aF h) g3 (some (.d (.int i))) a5 a6 (some (.c 1)) b8) (hS (aF h) r x' [fC F',.o (.lst (dS Bh))])):=by
 have nb:bg i∉ps:=λm=>by
  obtain⟨j,hj,e⟩:=hp _ m;have:=e4v i hi j (by lia) e
  lia
 have ln:=f.i.pm.length_eq;rw[cP,bc,bc] at ln;obtain⟨b,F1,x1,f1,hb,e⟩:=e4u (r:=r) (s:=[.o (.lst (dS ps))]) g b0 f.o (by lia) hF (QV hi) (by lia) (λm=>nb (f.i.pm.mem_iff.mp (cG.mpr (.inl m)))) (λm=>nb (f.i.pm.mem_iff.mp (cG.mpr (.inr m))))
 obtain⟨w,F2,w0,w1,f2,d⟩:=mm f1 (m:=3) (by decide) (by decide)
 have hc:dC ("dcab":Str).cps.toList (i:Int)=some (("dcab":Str).cps.toList.getD i 0):=NZ 0 (by lia) (by show(i:Int)<(4:Nat);lia)
 have l4:(("dcab":Str).length<=1000000)=True:=bN (by decide +kernel)
 have fi:Fi h (10+(i+1)) bt (if b=true then ps++[bg i] else ps) x1:=by
  rcases hb with⟨rfl,⟨z,hz,rfl⟩,o1⟩|⟨rfl,rfl⟩
  .rw[aP rfl];refine⟨o1,⟨?_,f.i.go,f.i.nw⟩,f.s⟩;show((x.rows++[z]).map Row.bag++x.gone.map (·.1)).Perm _
   rw[c_,mY,bL,hz];exact(List.perm_middle (l₁:=x.rows.map Row.bag)).trans ((List.Perm.cons _ f.i.pm).trans (List.perm_append_singleton _ _).symm)
  .rw[aK (by decide)]
   exact⟨f.o.up,f.i,f.s⟩
 have ed:(if b=true then dS ps++[.str ⟨#[("dcab":Str).cps.toList.getD i 0]⟩] else dS ps)=dS (if b=true then ps++[bg i] else ps):=by
  cases b with
  |true=>rw[aP rfl,aP rfl,dS,dS,c_];rfl
  |false=>rfl
 obtain⟨x2,b8,JW,el⟩:=QB (r:=r) (s:=[fC F2,.o (.lst (dS (if b=true then ps++[bg i] else ps)))]) (g3:=g3) (a4:=some (.d (.int i))) (a5:=a5) (a6:=a6) (a7:=some (.c 1)) (a8:=a8) g (by lia) (eV 0 w.toNat) fi
 rw[<-ed] at el;have R:=e4w l4 hc e (bN (by rw[bc];lia)) d (Bt (by lia)) el
 rw[ed] at R;refine⟨_,F2,x2,b8,f2,JW,λp m=>?_,?_,R⟩
 .cases b with
  |true=>
   rcases cG.mp m with m|m
   .obtain⟨j,hj,e⟩:=hp p m;exact⟨j,by lia,e⟩
   .exact⟨i,by lia,kJ.mp m⟩
  |false=>
   obtain⟨j,hj,e⟩:=hp p m;exact⟨j,by lia,e⟩
 .cases b with
  |true=>rw[aP rfl,cP,pJ];lia
  |false=>rw[aK (by decide)];lia
theorem Z8(g:aB h)(b0:0<h.ae.length)(hF:Fd st F)(f:Fi h 10 bt [] x)(m:Nat)(hm:m<=4):∃ps F' x' b4 b8,Fd st F'/\Fi h 14 bt ps x'/\ps.length<=4/\(∀p∈ps,jA p)/\aH (af 4) (yj 0) (eV 0 m) (fG (aF h) g3 a4 a5 a6 (some (.c 1)) a8) (hS (aF h) r x [fC F,.o (.lst [])])=some (.nx (fG (aF h) g3 b4 a5 a6 (some (.c 1)) b8) (hS (aF h) r x' [fC F',.o (.lst (dS ps))])):=by
 obtain⟨U',S',e,ps,F',x',b4,b8,f',fi,hp,pl,rfl,rfl⟩:=jI (gg:=af 4) (body:=yj 0) (f:=λ(i:Nat)=>D.int (i:Int)) (U:=fG (aF h) g3 a4 a5 a6 (some (.c 1)) a8) (S:=hS (aF h) r x [fC F,.o (.lst [])])
  (λpre U S=>∃ps F' x' b4 b8,Fd st F'/\Fi h (10+pre.length) bt ps x'/\(∀p∈ps,∃j,j<pre.length/\p=bg j)/\ps.length<=pre.length/\U=fG (aF h) g3 b4 a5 a6 (some (.c 1)) b8/\S=hS (aF h) r x' [fC F',.o (.lst (dS ps))]) (List.range m)
  ⟨[],F,x,a4,a8,hF,f,λp m=>(by cases m),bF _,rfl,rfl⟩ (by
   rintro d i rest eq U S ⟨ps,F',x',b4,b8,f',fi,hp,pl,rfl,rfl⟩;obtain⟨hq,hi⟩:=Fq eq;rw[hq] at fi hp pl;obtain⟨ps2,F2,x2,c8,f2,JW,Di,DI,e⟩:=e4x (r:=r) (g3:=g3) (a5:=a5) (a6:=a6) (a8:=b8) g b0 f' (by lia) fi hp pl
   exact⟨_,_,_,rfl,.inl e,ps2,F2,x2,_,_,f2,by rw[cP,pJ,hq];exact JW,by rw[cP,pJ,hq];exact Di,by rw[cP,pJ,hq];exact DI,rfl,rfl⟩)
 rw[t4] at fi pl hp;rw[<-tN] at e;exact⟨ps,F',x',b4,b8,f',⟨fi.o.mono (by lia),fi.i,fi.s⟩,by lia,λp m=>by obtain⟨j,hj,rfl⟩:=hp p m;exact QV (by lia),e⟩
theorem Z9{b4:ak Val}{x3:Hl}(d:Dr F 4 v F1)(hv:Nat.ble (1+v).natAbs 1000000000000=true)(el:aH (af 4) (yj 0) (eV 0 (1+v).toNat) (fG hd g3 a4 a5 (some (.d (.str bt))) (some (.c 1)) none) (hS hd r x [fC F1,.o (.lst [])])=some (.nx (fG hd g3 b4 a5 (some (.d (.str bt))) (some (.c 1)) b8) (hS hd r x2 [fC F2,.o (.lst (dS ps))])))
  (e:B1 0 [.d (.ref 0),.d (.str bt)] (hS hd r x2 [fC F2,.o (.lst (dS ps))])=some (.ok (rd .aG) (hS hd r x3 [fC F2,.o (.lst (dS ps))]))):∃S',Im 0 (fG hd g3 a4 a5 (some (.d (.str bt))) none none) (hS hd r x [fC F])=some (.rt (rd (.tup [.ref 0,.lst (dS ps)])) S')/\S'.cut 1=hS hd r x3 [fC F2]:=by
 refine⟨⟨[fC F2,.z (.lst (dS ps))],hR hd r x3⟩,?_,rfl⟩;unfold Im;simp only[↓ev,hS,hR,ba,aV,fG,d,hv,iI,el,fJ,WB,e]
theorem e4y{S' S2:aO}{rv:D}(e:Ip 0 [some (.c 0),some (.d hd),none,none,none,none,none,none,none] ⟨[fC F],[]⟩=some (.rt (rd rv) S'))(hc:S'.cut 1=S2):Au 0 [.c 0,.d hd] ⟨[fC F],[]⟩=some (.ok (rd rv) S2):=by
 unfold Au a_;generalize Ip 0=ml at *;simp only[↓ev,e,hc]
theorem W8(g:aB h)(b0:0<h.ae.length)(hF:Fd st F):∃r ps F' x',Fd st F'/\0<=r/\r<3/\Ok h 14 x'/\Iv h ps x'/\bx h x'=[]/\ps.length<=4/\(∀p∈ps,jA p)/\Au 0 [.c 0,.d (aF h)] ⟨[fC F],[]⟩=some (.ok (rd (.tup [.ref 0,.lst (dS ps)])) (hS (aF h) r x' [fC F'])):=by
 have bl:=g.sm.bl;obtain⟨r,F1,r0,r1,f1,d1⟩:=mm hF (m:=3) (by decide) (by decide)
 obtain⟨m,F2,m0,m1,f2,d2⟩:=mm f1 (m:=3) (by decide) (by decide)
 obtain⟨bk,F3,b4,b5,f3,o3,hl⟩:=Z4 (r:=r) (g3:=some (.d (.int m))) (a4:=none) (a5:=none) (a6:=none) (a7:=none) (a8:=none) g f2 m.toNat (by lia)
 obtain⟨u,F4,u0,u1,f4,d4⟩:=mm f3 (m:=(h.ae.length:Int)) (by lia) (by lia)
 obtain⟨bt,hb,ha⟩:=Pz (h:=h) u0 u1;have Q8:=iG.mpr (jT (f:=ao.name) hb);obtain⟨v,F5,v0,v1,f5,d5⟩:=mm f4 (m:=4) (by decide) (by decide)
 obtain⟨x2,fi,hs⟩:∃x2,Fi h 10 bt.name [] x2/\(if(v == 3)=true then AA 0 [.d (.ref 0),.d (.str bt.name)] (hS (aF h) r { x0 with book:=bk} [fC F5])=some (.ok (rd .aG) (hS (aF h) r x2 [fC F5])) else x2={ x0 with book:=bk}):=by
  cases v == 3 with
  |true=>
   obtain⟨e,o⟩:=e4q (r:=r) (s:=[fC F5]) g o3 (by lia) Q8
   exact⟨_,⟨o.mono (by lia),⟨.nil,λp m=>(by cases m),rE _⟩,λz m=>kJ.mp m⟩,e⟩
  |false=>exact⟨_,⟨o3.mono (by lia),⟨.nil,λp m=>(by cases m),rE _⟩,λz m=>(by cases m)⟩,rfl⟩
 have B:Mr F F1 F2 F3 F4 F5 (h.ae.map av) (dS h.carts) r m u v { x0 with book:=bk} x2 b4 b5 bt.name bt.long bt.ring (dS bt.outs) (h.ae.length:Int):=⟨d1,e3i (S:=⟨[fC F1],[]⟩) g,d2,Bt (by lia),hl,by rw[bc],d4,ha,d5,hs⟩
 obtain⟨w,F6,w0,w1,f6,d6⟩:=mm f5 (m:=4) (by decide) (by decide)
 obtain⟨ps,F7,x3,c4,c8,f7,A6,pl,pn,el⟩:=Z8 (r:=r) (g3:=some (.d (.int m))) (a4:=b4) (a5:=b5) (a6:=some (.d (.str bt.name))) (a8:=none) g b0 f6 fi (1+w).toNat (by lia)
 obtain⟨S',e,hc⟩:=Z9 d6 (Bt (by lia)) el (ZY g A6.o Q8)
 refine⟨r,ps,F7,_,f7,r0,r1,A6.o.start,⟨A6.i.pm,A6.i.go,A6.i.nw⟩,?_,pl,pn,e4y ((e4t B _).trans e) hc⟩;unfold bx;rw[List.filter_eq_nil_iff];intro z _ hz;obtain⟨m1,m2⟩:=rB.mp (uL hz);exact xY m2 (A6.s z m1)
end
noncomputable def lv:List ao->Str->Nat
 |[],_=>0
 |b::bs,n=>if b.name=n then bs.length+1 else lv bs n
theorem JL:∀(bs:List ao) (n:Str),lv bs n<=bs.length
 |[],_=>bF _
 |b::bs,n=>by
  have:=JL bs n;unfold lv;rw[jt];split <;> lia
theorem JA:∀{bs:List ao} {n:Str},n∈bs.map ao.name->1<=lv bs n
 |b::bs,n,h=>by
  unfold lv;split
  .lia
  .rename_i ne
   rcases y04.mp h with e|m
   .exact bW e.symm ne
   .exact JA m
theorem QC{carts:List Str}:∀{bs:List ao},lu carts bs->∀b∈bs,∀o∈b.outs,o≠b.name
 |x::bs,f,b,hb,o,ho=>by
  rcases y04.mp hb with rfl|hb
  .intro e;rcases f.1 o ho with z|z
   .exact f.2.1 (e ▸ z)
   .exact f.2.2.1 (e ▸ z)
  .exact QC f.2.2.2 b hb o ho
theorem Jm(b:ao)(bs:List ao)(n:Str):lv (b::bs) n=if b.name=n then bs.length+1 else lv bs n:=rfl
theorem Ge{carts:List Str}:∀{bs:List ao},lu carts bs->∀bt∈bs,∀a∈bt.outs,a∈bs.map ao.name->lv bs a<lv bs bt.name
 |z::bs,f,bt,hb,a,ha,hn=>by
  have az:z.name≠a:=λe=>by
   rcases y04.mp hb with e2|hb
   .exact QC f bt (by rw[e2];exact .head _) a ha (by rw[<-e,e2])
   .rcases Cd f.2.2.2 bt hb a ha with y|y
    .exact f.2.1 (by rw[e];exact y)
    .exact f.2.2.1 (by rw[e];exact y)
  have ea:lv (z::bs) a=lv bs a:=by rw[Jm,aK az]
  rcases y04.mp hb with e|hb
  .have:=JL bs a;rw[ea,e,Jm,aP rfl];lia
  .have ne:z.name≠bt.name:=λe=>f.2.1 (by rw[e];exact jT (f:=ao.name) hb)
   rw[ea,Jm,aK ne];refine Ge f.2.2.2 bt hb a ha ?_;rcases y04.mp hn with e|m
   .exact bW e.symm az
   .exact m
section
variable{h:ay}{r:Int}{x:Hl}{n:Nat}{X:List (Str×D)}{w z:Row}{bt:ao}
theorem Nm(g:aB h)(o:Ok h n x)(hs:bx h x=[])(hw:w∈x.rows)(hb:bt∈h.ae)(eb:bt.name=w.b):
  (w.i+1<bt.long/\ai h r x w=(bt.name,some (w.i+1)))\/
  (w.i+1=bt.long/\bt.ring=true/\ai h r x w=(bt.name,some 0)/\(w.fl=none/\w.gn<r\/∃a∈bt.outs,a∈h.ae.map ao.name/\∃u∈x.rows,u.b=a))\/
  (w.i+1=bt.long/\¬(bt.ring=true/\w.fl=none/\w.gn<r)/\∃a∈bt.outs,(a∈h.carts/\ai h r x w=(a,none))\/(a∈h.ae.map ao.name/\ai h r x w=(a,some 0))):=by
 obtain⟨gF,pk,wG,i0,i1,_⟩:=(o.rw w hw).1;have e:gF=bt:=wj g.fwd gF pk bt hb (by rw[wG,eb])
 subst e;have eg:ai h r x w=kx h r x w gF:=by unfold ai;rw[<-eb,B2 g hb]
 rw[eg];unfold kx;by_cases hl:w.i+1<gF.long
 .rw[aP hl];exact .inl ⟨hl,rfl⟩
 .rw[aK hl];have le:w.i+1=gF.long:=by lia
  by_cases hc:gF.ring=true/\w.fl=none/\w.gn<r
  .rw[aP hc];exact .inr (.inl ⟨le,hc.1,rfl,.inl hc.2⟩)
  .rw[aK hc];obtain⟨a,ea,ha⟩:=Jw g o hw hb eb;rw[ea,xX];unfold tu;cases Q9:h.carts.contains a with
   |true=>rw[aP rfl];exact .inr (.inr ⟨le,hc,a,ha,.inl ⟨uL Q9,rfl⟩⟩)
   |false=>
    rw[aK (by decide)]
    have hm:a∈h.ae.map ao.name:=(Cd g.fwd gF hb a ha).resolve_right (Nl Q9);cases hr:(gF.ring&&(eI h x).contains a) with
    |false=>rw[aK (by decide)];exact .inr (.inr ⟨le,hc,a,ha,.inr ⟨hm,rfl⟩⟩)
    |true=>
     rw[aP rfl];rw[jq] at hr;refine .inr (.inl ⟨le,hr.1,rfl,.inr ⟨a,ha,hm,?_⟩⟩);have Kd:=uL hr.2;unfold eI at Kd;rw[hs,xW] at Kd;obtain⟨u,hu,e⟩:=mW.mp Kd;split at e
     .cases e;exact⟨u,o.mem.mp hu,rfl⟩
     .cases e
end
section
variable{h:ay}{r:Int}{x:Hl}{n:Nat}{X:List (Str×D)}{w z:Row}{bt:ao}{G:Row->Goal}{L:List Row}
theorem NT{o:Str}(e:hold G L w=some o):∃u∈L,∃j,(G w).2=some j/\(u.b,u.i)=((G w).1,j)/\u.bag=o:=by
 unfold hold at e;split at e
 .cases e
 .rename_i j ej
  obtain⟨u,hu,eu⟩:=gp.mp (Vl e);have h1:=congrArg Prod.fst eu;have h2:=congrArg Prod.snd eu;exact⟨u,hu,j,ej,h1,h2⟩
theorem NU:cx [] G L=[]:=by
 unfold cx;rw[List.filterMap_eq_nil_iff];intro w _;have:jo [] G w=none:=by
  unfold jo;rw[aK (by simp)]
  split
  .rw[aK (by simp)]
  .rfl
 rw[this];rfl
def Last(h:ay)(x:Hl)(bt:ao):Prop:=bt∈h.ae/\∀u∈x.rows,lv h.ae bt.name<=lv h.ae u.b
theorem B3(g:aB h)(o:Ok h n x)(hs:bx h x=[])(la:Last h x bt)(hw:w∈x.rows)(eb:bt.name=w.b):
  (w.i+1<bt.long/\ai h r x w=(bt.name,some (w.i+1)))\/
  (w.i+1=bt.long/\bt.ring=true/\w.fl=none/\w.gn<r/\ai h r x w=(bt.name,some 0))\/
  (w.i+1=bt.long/\¬(bt.ring=true/\w.fl=none/\w.gn<r)/\∃a,ai h r x w=(a,none)\/(lv h.ae a<lv h.ae bt.name/\ai h r x w=(a,some 0))):=by
 rcases Nm (r:=r) g o hs hw la.1 eb with c|⟨c1,c2,c3,c4⟩|⟨c1,c2,a,ha,c3⟩
 .exact .inl c
 .rcases c4 with c4|⟨a,ha,hn,u,hu,eu⟩
  .exact .inr (.inl ⟨c1,c2,c4.1,c4.2,c3⟩)
  .have h1:=Ge g.fwd bt la.1 a ha hn;have h2:=la.2 u hu;rw[eu] at h2;lia
 .refine .inr (.inr ⟨c1,c2,a,?_⟩);rcases c3 with⟨_,c3⟩|⟨hn,c3⟩
  .exact .inl c3
  .exact .inr ⟨Ge g.fwd bt la.1 a ha hn,c3⟩
def Es(h:ay)(r:Int)(x:Hl)(X:List (Str×D)):Prop:=∃w∈bS h x X,(ai h r x w).2=none\/(ai h r x w).1≠w.b
theorem T3(g:aB h)(o:Ok h n x)(hs:bx h x=[])(la:Last h x bt)(t:gw h r x X)(nc:¬Es h r x X)(hw:w∈x.rows)(eb:bt.name=w.b):w∈bS h x X:=by
 have t0:=t;obtain⟨C,oC,gr,fn⟩:=t;rw[hs,NU] at oC gr;rw[xW] at gr;have empty:∀u∈x.rows,∀a,lv h.ae a<lv h.ae bt.name->u.b≠a:=λu hu a ha e=>by
  have:=la.2 u hu;rw[e] at this;lia
 refine(ug o).mpr ⟨hw,?_⟩;have key:∀Y,kT (ai h r x) (ord h x.rows) ((ask (ai h r x) [] (ord h x.rows)).filterMap (cW (ai h r x) C)) Y->(∀b∈Y.map (·.1),b∈X.map (·.1))->∀w∈x.rows,bt.name=w.b->w.bag∉Y.map (·.1):=by
  intro Y gy
  induction gy with
  |base=>
   intro _ y hy ey m;obtain⟨p,hp,e1⟩:=gp.mp m;obtain⟨y',KA,e2⟩:=mW.mp hp;obtain⟨yl,_,ys⟩:=g_.mp KA;unfold cW at e2;split at e2
   .cases e2
   .rename_i cb hcb
    split at e2
    .cases e2
    .rename_i ne
     cases e2;have ey':y'=y:=rh o.nb (o.mem.mp yl) hy e1;subst ey';obtain⟨c,hc,CD,ck,wz⟩:=oC.1 _ _ hcb;obtain⟨cl,_,cs⟩:=g_.mp hc;have vk:=o.mem.mp cl;rcases B3 (r:=r) g o hs la hy ey with⟨l1,l2⟩|⟨l1,l2,_,_,l5⟩|⟨l1,_,a,l3|⟨l3,l4⟩⟩
     .have kb:c.b=bt.name:=by
       have:=wz ⟨y',KA,rfl,by rw[pS (j:=y'.i+1) (by rw[l2]),l2];exact ey.symm⟩
       rw[this,pS (j:=y'.i+1) (by rw[l2]),l2]
      refine ne ?_;rw[<-CD]
      congr 1
      refine rh o.un vk hy (Prod.ext (by show c.b=y'.b;rw[kb,ey]) ?_)
      show c.i=y'.i;have i0:0<=y'.i:=by obtain⟨_,_,_,i0,_⟩:=(o.rw y' hy).1;exact i0
      rw[pS (G:=ai h r x) (w:=y') (j:=y'.i+1) (by rw[l2]),l2] at ck
      rcases B3 (r:=r) g o hs la vk kb.symm with⟨m1,m2⟩|⟨m1,m2,_,_,m5⟩|⟨m1,_,a,m3|⟨m3,m4⟩⟩
      .rw[pS (G:=ai h r x) (j:=c.i+1) (by rw[m2]),m2] at ck
       lia
      .rw[pS (G:=ai h r x) (j:=0) (by rw[m5]),m5] at ck
       lia
      .simp_all
      .rw[pS (G:=ai h r x) (j:=0) (by rw[m4]),m4] at ck
       lia
     .have kb:c.b=bt.name:=by
       have:=wz ⟨y',KA,rfl,by rw[pS (j:=0) (by rw[l5]),l5];exact ey.symm⟩
       rw[this,pS (j:=0) (by rw[l5]),l5]
      refine ne ?_;rw[<-CD]
      congr 1
      refine rh o.un vk hy (Prod.ext (by show c.b=y'.b;rw[kb,ey]) ?_)
      show c.i=y'.i;have i0:0<=c.i:=by obtain⟨_,_,_,i0,_⟩:=(o.rw c vk).1;exact i0
      rw[pS (G:=ai h r x) (w:=y') (j:=0) (by rw[l5]),l5] at ck
      rcases B3 (r:=r) g o hs la vk kb.symm with⟨m1,m2⟩|⟨m1,m2,_,_,m5⟩|⟨m1,_,a,m3|⟨m3,m4⟩⟩
      .rw[pS (G:=ai h r x) (j:=c.i+1) (by rw[m2]),m2] at ck
       lia
      all_goals lia
     .simp_all
     .have JG:gk (ai h r x) c=(a,0):=by rw[ck,pS (j:=0) (by rw[l4]),l4]
      have cX:c.bag∉X.map (·.1):=by
       have kk:∀Z,kT (ai h r x) (ord h x.rows) ((ask (ai h r x) [] (ord h x.rows)).filterMap (cW (ai h r x) C)) Z->c.bag∉Z.map (·.1):=by
        intro Z gz
        induction gz with
        |base=>
         intro m2;obtain⟨p2,Di,e3⟩:=gp.mp m2;obtain⟨c',k7,e4⟩:=mW.mp Di;unfold cW at e4;split at e4
         .cases e4
         .rename_i cb2 hcb2
          split at e4
          .cases e4
          .rename_i ne2
           cases e4;have:c'=c:=rh o.nb (o.mem.mp (g_.mp k7).1) vk e3
           lia
        |@step Z' w' o' _ Kz vj ih=>
         intro m2;rw[c_,cG] at m2;rcases m2 with m2|m2
         .exact ih m2
         .have e3:c.bag=w'.bag:=by simpa using m2
          have:c=w':=rh o.nb vk (o.mem.mp Kz) e3;subst this;obtain⟨u,hu,j,ej,eu,_⟩:=NT vj.2.1;rw[pS ej] at JG;rw[JG] at eu;exact empty u (o.mem.mp hu) a l3 (congrArg Prod.fst eu)
       exact kk X gr
      refine nc ⟨c,(ug o).mpr ⟨vk,cX⟩,.inr λe=>?_⟩
      have:(ai h r x c).1=a:=congrArg Prod.fst JG;exact empty c vk a l3 (by rw[<-e,this])
  |@step Y' w' o' gy' Kz vj ih=>
   intro sub y hy ey m;have ih:=ih λb mb=>sub b (by rw[c_];exact cG.mpr (.inl mb))
   rw[c_,cG] at m;rcases m with m|m
   .exact ih y hy ey m
   .have e3:y.bag=w'.bag:=by simpa using m
    have:y=w':=rh o.nb hy (o.mem.mp Kz) e3;subst this;obtain⟨u,hu,j,ej,eu,ub⟩:=NT vj.2.1;have Kx:=o.mem.mp hu;have LS:u.b=(ai h r x y).1:=congrArg Prod.fst eu;have RY:u.bag∈Y'.map (·.1):=by rw[ub];exact vj.2.2
    rcases B3 (r:=r) g o hs la hy ey with⟨l1,l2⟩|⟨l1,l2,_,_,l5⟩|⟨l1,_,a,l3|⟨l3,l4⟩⟩
    .exact ih u Kx (by rw[LS,l2]) RY
    .exact ih u Kx (by rw[LS,l5]) RY
    .rw[l3] at ej;cases ej
    .exact empty u Kx a l3 (by rw[LS,l4])
 exact key X gr (λ_ m=>m) w hw eb
end
def iD(h:ay)(rows:List Row):Int:=(rows.map λw=>(lv h.ae w.b:Int)).sum
def vl(h:ay):ak Row->Int
 |none=>0
 |some w=>lv h.ae w.b
section
variable{h:ay}{r:Int}{x:Hl}{n:Nat}{X:List (Str×D)}{w z:Row}{bt:ao}{f:Row->ak Row}
theorem JB:∀{rows:List Row},(∀z∈rows,vl h (f z)<=lv h.ae z.b)->iD h (rows.filterMap f)<=iD h rows
 |[],_=>rE _
 |z::rows,hz=>by
  have ih:=JB (rows:=rows) λu m=>hz u (.tail _ m)
  have h1:=hz z (.head _);unfold iD at *;rw[pG,bL,rF];cases e:f z with
  |none=>
   rw[e] at h1;unfold vl at h1;dsimp only at h1 ⊢;lia
  |some u=>
   rw[e] at h1;unfold vl at h1;dsimp only at h1 ⊢;rw[bL,rF];lia
theorem QD:∀{rows:List Row},(∀z∈rows,vl h (f z)<=lv h.ae z.b)->∀{w:Row},w∈rows->vl h (f w)<lv h.ae w.b->iD h (rows.filterMap f)+1<=iD h rows
 |z::rows,hz,w,hw,iT=>by
  have le:=JB (h:=h) (f:=f) (rows:=rows) λu m=>hz u (.tail _ m)
  have h1:=hz z (.head _);rcases y04.mp hw with rfl|hw
  .unfold iD at *;rw[pG,bL,rF];cases e:f w with
   |none=>
    rw[e] at iT;unfold vl at iT;dsimp only at iT ⊢;lia
   |some u=>
    rw[e] at iT;unfold vl at iT;dsimp only at iT ⊢;rw[bL,rF];lia
  .have ih:=QD (rows:=rows) (λu m=>hz u (.tail _ m)) hw iT
   unfold iD at *;rw[pG,bL,rF];cases e:f z with
   |none=>
    rw[e] at h1;unfold vl at h1;dsimp only at h1 ⊢;lia
   |some u=>
    rw[e] at h1;unfold vl at h1;dsimp only at h1 ⊢;rw[bL,rF];lia
theorem Z_(g:aB h)(o:Ok h n x)(hs:bx h x=[])(hw:w∈x.rows){j:Int}(ej:(ai h r x w).2=some j):lv h.ae (ai h r x w).1<=lv h.ae w.b/\((ai h r x w).1≠w.b->lv h.ae (ai h r x w).1<lv h.ae w.b):=by
 obtain⟨bt,hb,eb,_⟩:=(o.rw w hw).1;rcases Nm (r:=r) g o hs hw hb eb with⟨_,c⟩|⟨_,_,c,_⟩|⟨_,_,a,ha,⟨_,c⟩|⟨hn,c⟩⟩
 .rw[c,eb];exact⟨bF _,λz=>bW rfl z⟩
 .rw[c,eb];exact⟨bF _,λz=>bW rfl z⟩
 .rw[c] at ej;cases ej
 .have:=Ge g.fwd bt hb a ha hn;rw[c,<-eb];exact⟨Hb this,λ_=>this⟩
theorem QR(g:aB h)(o:Ok h n x)(hs:bx h x=[])(hz:z∈x.rows):vl h (gP h (ai h r x) z)<=lv h.ae z.b/\((ai h r x z).2=none\/(ai h r x z).1≠z.b->vl h (gP h (ai h r x) z)<lv h.ae z.b):=by
 have lp:=JA (o.rw z hz).1.nm;cases ej:(ai h r x z).2 with
 |none=>
  have e:gP h (ai h r x) z=none:=by unfold gP;rw[ej]
  rw[e];show(0:Int)<=_/\(_->(0:Int)<_)
  lia
 |some j=>
  obtain⟨k1,k2⟩:=Z_ g o hs hz ej;have e:∃z',gP h (ai h r x) z=some z'/\z'.b=(ai h r x z).1:=by unfold gP;rw[ej];exact⟨_,rfl,rfl⟩
  obtain⟨z',e,eb⟩:=e;rw[e];show((lv h.ae z'.b:Nat):Int)<=_/\(_->((lv h.ae z'.b:Nat):Int)<_)
  lia
theorem PB(g:aB h)(o:Ok h n x)(hs:bx h x=[]):∀z∈x.rows,vl h (if kA (bS h x X) z=true then gP h (ai h r x) z else some z)<=lv h.ae z.b:=λz hz=>by
 split
 .exact(QR g o hs hz).1
 .exact rE _
theorem W9(g:aB h)(o:Ok h n x)(hs:bx h x=[]):iD h (aT h r x X).rows<=iD h x.rows:=JB (PB g o hs)
theorem Ta(g:aB h)(o:Ok h n x)(hs:bx h x=[])(c:Es h r x X):iD h (aT h r x X).rows+1<=iD h x.rows:=by
 obtain⟨w,hw,hc⟩:=c;have hr:=((ug o).mp hw).1;refine QD (PB g o hs) hr ?_;rw[aP ((uS o hr).mpr hw)];exact(QR g o hs hr).2 hc
noncomputable def zy(r:Int)(bt:ao)(w:Row):Int:=(if bt.ring=true/\w.fl=none/\w.gn<r then(r - w.gn)*bt.long else 0)+(bt.long - 1 - w.i)
def Ai(h:ay)(r K:Int)(x:Hl)(m:Int):Prop:=x.rows=[]\/∃w bt,w∈x.rows/\bt.name=w.b/\Last h x bt/\K*(iD h x.rows - 1)+zy r bt w+1<=m
theorem PC:∀{rows:List Row},rows≠[]->∃w∈rows,∀u∈rows,lv h.ae w.b<=lv h.ae u.b
 |[w],_=>⟨w,.head _,λu m=>by rw[kJ.mp m];exact bF _⟩
 |w::z::rows,_=>by
  obtain⟨v,hv,hm⟩:=PC (rows:=z::rows) (List.cons_ne_nil _ _);by_cases e:lv h.ae w.b<=lv h.ae v.b
  .refine⟨w,.head _,λu m=>?_⟩
   rcases y04.mp m with rfl|m
   .exact bF _
   .exact i4 e (hm u m)
  .refine⟨v,.tail _ hv,λu m=>?_⟩
   rcases y04.mp m with rfl|m
   .lia
   .exact hm u m
theorem PD(g:aB h)(o:Ok h n x)(ne:x.rows≠[]):∃w bt,w∈x.rows/\bt.name=w.b/\Last h x bt:=by
 obtain⟨w,hw,hm⟩:=PC (h:=h) ne;obtain⟨bt,hb,eb,_⟩:=(o.rw w hw).1;exact⟨w,bt,hw,eb,hb,λu hu=>by rw[eb];exact hm u hu⟩
theorem QS(g:aB h)(o:Ok h n x)(hw:w∈x.rows)(hb:bt∈h.ae)(eb:bt.name=w.b):0<=zy r bt w:=by
 obtain⟨gF,pk,wG,i0,i1,_⟩:=(o.rw w hw).1;have e:gF=bt:=wj g.fwd gF pk bt hb (by rw[wG,eb])
 subst e;unfold zy;split
 .rename_i c
  have:=uC (show 0<=r - w.gn by lia) (show 0<=gF.long by lia)
  lia
 .lia
theorem QE(g:aB h)(o:Ok h n x)(r0:0<=r){K M:Int}(hM:∀b∈h.ae,b.long<=M)(hK:K=(r+1)*M)(hw:w∈x.rows)(hb:bt∈h.ae)(eb:bt.name=w.b):zy r bt w+1<=K:=by
 obtain⟨gF,pk,wG,i0,i1,CU⟩:=(o.rw w hw).1;have e:gF=bt:=wj g.fwd gF pk bt hb (by rw[wG,eb])
 subst e;have l1:=(g.lg gF hb).1;have k1:(r+1)*gF.long<=K:=by rw[hK];exact Hw (hM gF hb) (by lia)
 rw[Int.add_mul,Int.one_mul] at k1;have k2:0<=r*gF.long:=uC r0 (by lia)
 unfold zy;split
 .have:=Int.mul_le_mul_of_nonneg_right (show r - w.gn<=r by lia) (show 0<=gF.long by lia)
  lia
 .lia
end
section
variable{h:ay}{r K M:Int}{x:Hl}{n:Nat}{X:List (Str×D)}{w z:Row}{bt:ao}
theorem Γ(g:aB h)(o:Ok h n x)(hs:bx h x=[])(r0:0<=r)(hM:∀b∈h.ae,b.long<=M)(hK:K=(r+1)*M)(M0:0<=M)(t:gw h r x X){m:Int}(c:Es h r x X)(hm:K*(iD h x.rows - 1)+1<=m+1):Ai h r K (aT h r x X) m:=by
 by_cases ne:(aT h r x X).rows=[]
 .exact .inl ne
 .have o':=o.turn g t;obtain⟨w1,b1,Rm,QW,RC⟩:=PD g o' ne;have k1:=QE g o' r0 hM hK Rm RC.1 QW;have k2:=Ta g o hs c;have K0:0<=K:=by rw[hK];exact uC (by lia) M0
  have k3:=Hw (show iD h (aT h r x X).rows<=iD h x.rows - 1 by lia) K0
  refine .inr ⟨w1,b1,Rm,QW,RC,?_⟩
  lia
theorem OG(g:aB h)(o:Ok h n x)(hs:bx h x=[])(r0:0<=r)(hM:∀b∈h.ae,b.long<=M)(hK:K=(r+1)*M)(M0:0<=M)(t:gw h r x X)(ne:x.rows≠[]){m:Int}(pt:Ai h r K x (m+1)):Ai h r K (aT h r x X) m/\∃w,w∈bS h x X:=by
 obtain⟨w,bt,hw,eb,la,hm⟩:=pt.resolve_left ne;have m0:=QS (r:=r) g o hw la.1 eb;by_cases c:Es h r x X
 .exact⟨Γ g o hs r0 hM hK M0 t c (by lia),by obtain⟨u,hu,_⟩:=c;exact⟨u,hu⟩⟩
 .have wm:=T3 g o hs la t c hw eb;refine⟨?_,w,wm⟩;have iZ:∀u∈bS h x X,∃j,(ai h r x u).2=some j/\(ai h r x u).1=u.b:=λu hu=>by
   cases ej:(ai h r x u).2 with
   |none=>exact bW ⟨u,hu,.inl ej⟩ c
   |some j=>exact⟨j,rfl,R0 λz=>c ⟨u,hu,.inr z⟩⟩
  have Bd:Last h (aT h r x X) bt:=⟨la.1,λu' qM=>by
   obtain⟨u,hu,_,_,st⟩:=IV o qM;rcases st with⟨_,rfl⟩|⟨um,e⟩
   .exact la.2 _ hu
   .obtain⟨j,_,e1,_⟩:=Gd e;obtain⟨_,_,e2⟩:=iZ u um;rw[e1,e2];exact la.2 u hu⟩
  have ph:=W9 (r:=r) (X:=X) g o hs;have K0:0<=K:=by rw[hK];exact uC (by lia) M0
  have k3:=Hw (show iD h (aT h r x X).rows - 1<=iD h x.rows - 1 by lia) K0
  obtain⟨gF,pk,wG,i0,i1,CU⟩:=(o.rw w hw).1;have e:gF=bt:=wj g.fwd gF pk bt la.1 (by rw[wG,eb])
  subst e;have fb:=B2 g la.1;rw[eb] at fb;have l2:=(g.lg gF la.1).2;have Ru:∀w',gP h (ai h r x) w=some w'->w'∈(aT h r x X).rows:=λw' e=>mW.mpr ⟨w,hw,by rw[aP ((uS o hw).mpr wm)];exact e⟩
  rcases B3 (r:=r) g o hs la hw eb with⟨c1,c2⟩|⟨c1,c2,c3,c4,c5⟩|⟨c1,_,a,c3|⟨c3,c4⟩⟩
  .have em:gP h (ai h r x) w=some { w with b:=gF.name,i:=w.i+1}:=by
    unfold gP;rw[c2];dsimp only;rw[fb];dsimp only;rw[aK];unfold iY;intro z;rw[jq,jq,beq_iff_eq] at z;lia
   refine .inr ⟨_,gF,Ru _ em,rfl,Bd,?_⟩
   grind [zy]
  .have em:gP h (ai h r x) w=some { w with b:=gF.name,i:=0,gn:=w.gn+1}:=by
    unfold gP;rw[c5];dsimp only;rw[fb];dsimp only;rw[aP];unfold iY;rw[jq,jq,jq,beq_iff_eq,beq_iff_eq,beq_iff_eq];exact⟨c2,by lia,rfl,rfl⟩
   refine .inr ⟨_,gF,Ru _ em,rfl,Bd,?_⟩;unfold zy at hm ⊢;rw[aP ⟨c2,c3,c4⟩] at hm;dsimp only;have er:(r - w.gn)*gF.long=(r - (w.gn+1))*gF.long+gF.long:=by
    rw[show r - w.gn=(r - (w.gn+1))+1 by lia,Int.add_mul,Int.one_mul]
   split
   .lia
   .rename_i q
    have:r - (w.gn+1)=0:=by
     have:¬w.gn+1<r:=λz=>q ⟨c2,c3,z⟩
     lia
    rw[this,Int.zero_mul] at er;lia
  .obtain⟨j,e1,_⟩:=iZ w wm;rw[c3] at e1;cases e1
  .obtain⟨j,_,e2⟩:=iZ w wm;rw[c4,<-eb] at e2;dsimp only at e2;rw[e2] at c3;exact bW c3 (jE _)
end
section
variable{s:List Cell}{h:ay}{r K M mv:Int}{x:Hl}{n q:Nat}{X:List (Str×D)}{w z:Row}{G:Row->Goal}{L:List Row}{hd:D}{c0:Cell}{carts:List Str}{a3 a4 a6 a7 a8 a9:ak Val}{y:D}
theorem Δ(hs:bx h x=[])(t:gw h r x X):∀p∈X,∃l,p.2=.tup l:=by
 obtain⟨C,oC,gr,fn⟩:=t;rw[hs,NU,xW] at gr;have key:∀Y,kT (ai h r x) (ord h x.rows) ((ask (ai h r x) [] (ord h x.rows)).filterMap (cW (ai h r x) C)) Y->∀p∈Y,∃l,p.2=.tup l:=by
  intro Y gy
  induction gy with
  |base=>
   grind [cW]
  |step _ _ _ ih=>
   intro p hp;rcases cG.mp hp with m|m
   .exact ih p m
   .rw[kJ.mp m];exact⟨_,rfl⟩
 exact key X gr
theorem QT(o:Ok h n x)(hw:w∈x.rows):r_ q [.d (.ref 0),.d (.str w.bag)] (hS hd r x s)=some (.ok (rd (pl w.b w.i)) (hS hd r x s)):=by
 have hn:=(o.rw w hw).2.1;have i2:(aL (u9 x.gone) (.inr w.bag)).isSome=_:=A1;rw[show(x.gone.map (·.1)).contains w.bag=false by rw[t7];exact λz=>(iF.mp o.nd).2.2 _ (jT hw) _ (uL z) rfl] at i2
 have h1:aL (eA x.rows) (.inr w.bag)=_:=kX o.nb hw;have e:=λq=>Pk (s:=s) (hd:=hd) (r:=r) q hn hw o.nb
 unfold r_ IC;simp only[↓ev,hn,hR,uP,we,ba,aV,i2,fJ,EK,e,mZ,nz,h1,eE]
theorem QF(o:Ok h n x){p:Str×Str×Int}(hp:p∈x.gone)(hn:jA p.1):r_ q [.d (.ref 0),.d (.str p.1)] (hS hd r x s)=some (.ok (rd (.str p.2.1)) (hS hd r x s)):=by
 have h1:aL (u9 x.gone) (.inr p.1)=_:=kX (iF.mp o.nd).2.1 hp;unfold r_ IC;simp only[↓ev,hn,hR,uP,we,ba,aV,h1,v8,eE]
theorem Θ(g:aB h)(o:Ok h n x)(t:gw h r x X)(hw:w∈x.rows):r_ q [.d (.ref 0),.d (.str w.bag)] (hS hd r (aT h r x X) s)=some (.ok (rd (if nk X w=true then gD (ai h r x w) else pl w.b w.i)) (hS hd r (aT h r x X) s)):=by
 have o':=o.turn g t;have hn:=(o.rw w hw).2.1;by_cases um:w∈bS h x X
 .have hx:nk X w=true:=(rB.mp um).2;rw[aP hx];cases ej:(ai h r x w).2 with
  |none=>
   have hp:(w.bag,(ai h r x w).1,x.now+1)∈(aT h r x X).gone:=by
    show _∈x.gone++_;exact cG.mpr (.inr (mW.mpr ⟨w,um,by unfold eF;rw[ej]⟩))
   have eg:gD (ai h r x w)=.str (ai h r x w).1:=by unfold gD;generalize ai h r x w=p at *;obtain⟨c,j⟩:=p;cases ej;rfl
   rw[eg];have z:=QF (q:=q) (s:=s) (r:=r) (hd:=hd) o' hp hn;dsimp only at z;generalize aT h r x X=x2 at *;exact z
  |some j=>
   have em:∃u',gP h (ai h r x) w=some u'/\u'.bag=w.bag/\u'.b=(ai h r x w).1/\u'.i=j:=by unfold gP;rw[ej];exact⟨_,rfl,rfl,rfl,rfl⟩
   obtain⟨u',em,e1,e2,e3⟩:=em;have hu:u'∈(aT h r x X).rows:=mW.mpr ⟨w,hw,by rw[aP ((uS o hw).mpr um)];exact em⟩
   have eg:gD (ai h r x w)=pl u'.b u'.i:=by rw[e2,e3];unfold gD;generalize ai h r x w=p at *;obtain⟨c,j⟩:=p;cases ej;rfl
   rw[eg,<-e1];generalize aT h r x X=x2 at *;exact QT o' hu
 .have hx:nk X w≠true:=λz=>um (rB.mpr ⟨o.mem.mpr hw,z⟩)
  rw[aK hx];have hr:w∈(aT h r x X).rows:=Jj hw (by rw[t7];exact λz=>um ((uS o hw).mp z))
  generalize aT h r x X=x2 at *;exact QT o' hr
end
section
variable{h:ay}{r mv:Int}{x x2:Hl}{n:Nat}{X:List (Str×D)}{w:Row}{G:Row->Goal}{L:List Row}{hd:D}{c0:Cell}{carts:List Str}{a3 a4 a6 a7 a8 a9:ak Val}{y t:D}{kv Ry:List (TK×D)}{bag:Str}{lc:List D}
abbrev oT(lc:List D)(a3 a4 a5 a6 a7 a8 a9:ak Val):Gm:=[some (.d (.ref 0)),some (.d (.lst lc)),some (.c 1),a3,a4,a5,a6,a7,a8,a9]
theorem e5c{a5:ak Val}(hp:bQ kv (.inr w.bag) (pl w.b w.i)=Ry)(hl:(kv.length<1000000)=True):Am 0 (oT lc (some (.d (bC w))) a4 a5 a6 a7 a8 a9) (hS hd r x [c0,.o (.ar kv)])=some (.nx (oT lc (some (.d (bC w))) a4 a5 a6 a7 a8 a9) (hS hd r x [c0,.o (.ar Ry)])):=by
 unfold bC;generalize aS w.fl=ff at *;unfold Am;simp only[↓ev,oT,kK,cJ,hl,hp]
theorem Ξ{a5:ak Val}(nd:(L.map Row.bag).Nodup)(hl:L.length<100):∃rb,aH (af 3) (Am 0) (L.map bC) (oT lc a3 a4 a5 a6 a7 a8 a9) (hS hd r x [c0,.o (.ar [])])=some (.nx (oT lc rb a4 a5 a6 a7 a8 a9) (hS hd r x [c0,.o (.ar (eA L))])):=by
 obtain⟨U',S',e,rb,rfl,rfl⟩:=jI (gg:=af 3) (body:=Am 0) (f:=bC) (U:=oT lc a3 a4 a5 a6 a7 a8 a9) (S:=hS hd r x [c0,.o (.ar [])])
  (λpre U S=>∃rb,U=oT lc rb a4 a5 a6 a7 a8 a9/\S=hS hd r x [c0,.o (.ar (eA pre))]) L ⟨a3,rfl,rfl⟩ (by
   rintro d w rest eq U S ⟨rb,rfl,rfl⟩;have hw:w.bag∉d.map Row.bag:=by
    rw[eq,c_,bL] at nd;exact λm=>(iF.mp nd).2.2 _ m _ (.head _) rfl
   have hd:d.length<100:=by rw[eq,cP] at hl;lia
   exact⟨_,_,_,rfl,.inl (e5c (FO (x:=w) hw) (bN (by unfold eA;rw[pR];lia))),_,rfl,rfl⟩)
 exact⟨rb,e⟩
theorem e5d{b:Str}{i:Int}{gl:Goal}(hg:aL kv (.inr bag)=some (pl b i))(e:r_ 0 [.d (.ref 0),.d (.str bag)] (hS hd r x [c0,.o (.ar kv)])=some (.ok (rd (gD gl)) (hS hd r x [c0,.o (.ar kv)]))):
  wa 0 (oT lc a3 a4 (some (.d (.int mv))) (some (.d (.str bag))) (some (.d (pl b i))) (some (.d (gD gl))) (some (.d .aG))) (hS hd r x [c0,.o (.ar kv)])=some (.nx (oT lc a3 a4 (some (.d (.int (mv+1)))) (some (.d (.str bag))) (some (.d (pl b i))) (some (.d (gD gl))) (some (.d .aG))) (hS hd r x [c0,.o (.ar kv)])):=by
 obtain⟨c,j⟩:=gl;unfold wa;cases j with
 |none=>
  rw[show gD (c,none)=.str c from rfl] at e ⊢;simp only[↓ev,oT,hg,xX,Bg,Bool.and_self,yW,ju,jR,aV,hR,fJ,Fs,e,pZ,ba]
 |some j=>
  rw[show gD (c,some j)=pl c j from rfl] at e ⊢;simp only[↓ev,oT,hg,xX,Bg,Bool.and_self,yW,ju,jR,aV,hR,fJ,Fs,e,ba]
theorem e5e{b:Str}{i:Int}{wl:List D}(hg:aL kv (.inr bag)=some (pl b i))(e:r_ 0 [.d (.ref 0),.d (.str bag)] (hS hd r x [c0,.o (.ar kv)])=some (.ok (rd (pl b i)) (hS hd r x [c0,.o (.ar kv)])))(hc:(lc.any λz=>aR z (pl b i))=false)(hk:lc.all (dh 40)=true):
  wa 0 (oT lc a3 a4 (some (.d (.int mv))) (some (.d (.str bag))) (some (.d (pl b i))) (some (.d (pl b i))) (some (.d (.tup wl)))) (hS hd r x [c0,.o (.ar kv)])=some (.nx (oT lc a3 a4 (some (.d (.int mv))) (some (.d (.str bag))) (some (.d (pl b i))) (some (.d (pl b i))) (some (.d (.tup wl)))) (hS hd r x [c0,.o (.ar kv)])):=by
 unfold wa;simp only[↓ev,oT,hg,xX,Bg,Bool.and_self,yW,ju,jR,aV,hR,fJ,Fs,e,hk,hc]
theorem e5f{b:Str}{i:Int}(xs:List Str):((dS xs).any λz=>aR z (pl b i))=false:=by
 rw[List.any_map,List.any_eq_false];intro z _ e;cases e
theorem Φ(g:aB h)(o:Ok h n x)(t:gw h r x X)(hX:∀p∈X,∃l,p.2=.tup l)(nd:((ord h x.rows).map Row.bag).Nodup):∃AE AF oI AS,aH (aN [(af 6),(af 7),(af 8),(af 9)]) (wa 0) ((ord h x.rows).map (jB X (ai h r x))) (oT (dS carts) a3 a4 (some (.d (.int 0))) a6 a7 a8 a9) (hS hd r (aT h r x X) [c0,.o (.ar (eA (ord h x.rows)))])=some (.nx (oT (dS carts) a3 a4 (some (.d (.int (((ord h x.rows).filter (nk X)).length:Nat)))) AE AF oI AS) (hS hd r (aT h r x X) [c0,.o (.ar (eA (ord h x.rows)))])):=by
 obtain⟨U',S',e,AE,AF,oI,AS,rfl,rfl⟩:=jI (gg:=aN [(af 6),(af 7),(af 8),(af 9)]) (body:=wa 0) (f:=jB X (ai h r x)) (U:=oT (dS carts) a3 a4 (some (.d (.int 0))) a6 a7 a8 a9) (S:=hS hd r (aT h r x X) [c0,.o (.ar (eA (ord h x.rows)))])
  (λpre U S=>∃AE AF oI AS,U=oT (dS carts) a3 a4 (some (.d (.int ((pre.filter (nk X)).length:Nat)))) AE AF oI AS/\S=hS hd r (aT h r x X) [c0,.o (.ar (eA (ord h x.rows)))]) (ord h x.rows) ⟨_,_,_,_,rfl,rfl⟩ (by
   rintro d w rest eq U S ⟨AE,AF,oI,AS,rfl,rfl⟩;have hw:w∈ord h x.rows:=by rw[eq];simp
   have hg:aL (eA (ord h x.rows)) (.inr w.bag)=some (pl w.b w.i):=kX nd hw;have e:=Θ (q:=0) (hd:=hd) (s:=[c0,.o (.ar (eA (ord h x.rows)))]) g o t (o.mem.mp hw);generalize aT h r x X=x2 at *;rcases Pq X w with⟨e1,e2,_⟩|⟨p,e1,e2,_⟩
   .rw[e2,aP rfl] at e;refine⟨_,_,_,by unfold jB;rw[e1];rfl,.inl (e5d hg e),?_⟩
    rw[List.filter_append,tZ,e2,aP rfl,cP];exact⟨_,_,_,_,rfl,rfl⟩
   .rw[e2,aK (by decide)] at e
    obtain⟨l,hl⟩:=hX p (Hu e1);refine⟨_,_,_,by unfold jB;rw[e1];dsimp only;rw[hl];rfl,.inl (e5e hg e (e5f carts) (jH 40 carts)),?_⟩
    rw[List.filter_append,tZ,e2,aK (by decide),List.filter_nil,lq]
    exact⟨_,_,_,_,rfl,rfl⟩)
 exact⟨AE,AF,oI,AS,e⟩
theorem Ψ{l1 l2:List D}{rb b6 b7 b8 b9:ak Val}{ln k:Int}(e1:∀q s,qE q [.d (.ref 0)] (hS hd r x s)=some (.ok (.o (.lst l1)) (hS hd r x s)))(e2:aH (af 3) (Am 0) l1 (oT lc none none none none none none none) (hS hd r x [c0,.o (.ar [])])=some (.nx (oT lc rb none none none none none none) (hS hd r x [c0,.o (.ar kv)])))
  (e3:yD 0 [.d (.ref 0)] (hS hd r x [c0,.o (.ar kv)])=some (.ok (.o (.lst l2)) (hS hd r x2 [c0,.o (.ar kv)]))) (e4:aH (aN [(af 6),(af 7),(af 8),(af 9)]) (wa 0) l2 (oT lc rb (some (.d (.lst l2))) (some (.d (.int 0))) none none none none) (hS hd r x2 [c0,.o (.ar kv)])=some (.nx (oT lc rb (some (.d (.lst l2))) (some (.d (.int k))) b6 b7 b8 b9) (hS hd r x2 [c0,.o (.ar kv)])))
  (h1:(l2.length:Int)=ln) (h2:(kv.length:Int)=ln) (hk:(0<k)=True) (ht:fV kv=true):An 0 [.d (.ref 0),.d (.lst lc)] (hS hd r x [c0])=some (.ok (rd (.bl true)) (hS hd r x2 [c0])):=by
 unfold An MQ;simp only[↓ev,ba,hR,fJ,yz,e1,iI,e2,oT,e3,e4,h1,ht,h2,aV,oK,ju,hk,decide_true];rfl
theorem e7b(g:aB h)(o:Ok h n x)(hn:n<1000)(hs:bx h x=[])(mv:∀X,gw h r x X->∃w,w∈bS h x X):∃X,gw h r x X/\An 0 [.d (.ref 0),.d (.lst (dS carts))] (hS (aF h) r x [c0])=some (.ok (rd (.bl true)) (hS (aF h) r (aT h r x X) [c0])):=by
 have rl:=o.rl;have lp:=o.perm.length_eq;have nd:((ord h x.rows).map Row.bag).Nodup:=(o.perm.map _).nodup_iff.mpr o.nb;obtain⟨rb,e2⟩:=Ξ (c0:=c0) (lc:=dS carts) (hd:=aF h) (r:=r) (x:=x) (a3:=none) (a4:=none) (a5:=none) (a6:=none) (a7:=none) (a8:=none) (a9:=none) nd (by lia)
 obtain⟨X,t,e3⟩:=QA (s:=[c0,.o (.ar (eA (ord h x.rows)))]) (r:=r) g o hn;obtain⟨b6,b7,b8,b9,e4⟩:=Φ (c0:=c0) (carts:=carts) (hd:=aF h) (a3:=rb) (a4:=some (.d (.lst ((ord h x.rows).map (jB X (ai h r x)))))) (a6:=none) (a7:=none) (a8:=none) (a9:=none) g o t (Δ hs t) nd;obtain⟨w,hw⟩:=mv X t;have:=List.length_pos_of_mem hw;unfold bS at this;exact⟨X,t,Ψ (λq s=>A2 g o) e2 e3 e4 (by rw[bc]) (by unfold eA;rw[pR]) (bN (by lia)) yE⟩
end
variable{S:aO}
theorem PF{gg:GG}{body:GS}{U U1 U2:Gm}{S':aO}{x:D}{xs:List D}{fr:Fr}(e1:gg x U=some U1)(e2:body U1 S=some (.nx U2 S'))(e3:aH gg body xs U2 S'=some fr):aH gg body (x::xs) U S=some fr:=by
 unfold aH;rw[e1,v7,e2];exact e3
section
variable{h:ay}{r K M:Int}{x:Hl}{n:Nat}{ps:List Str}{F:List D}{hd:D}{bl cs:List D}{g0 g3 g5 g6 g7 a8 a9 a10 a11:ak Val}
abbrev lG(g0:ak Val)(hd:D)(g3 g5 g6 g7 a8 a9 a10 a11:ak Val):Gm:=[g0,some (.c 0),some (.d hd),g3,some (.d (.ref 0)),g5,g6,g7,a8,a9,a10,a11]
theorem Ω{l1:List D}(e1:∀q,qE q [.d (.ref 0)] (hS hd r x [fC F])=some (.ok (.o (.lst [])) (hS hd r x [fC F]))):eD 0 (lG g0 hd g3 g5 g6 g7 a8 a9 a10 a11) (hS hd r x [fC F])=some (.nx (lG g0 hd g3 g5 g6 g7 a8 a9 a10 a11) (hS hd r x [fC F])):=by
 have z0:((0:Int)<((0:Nat):Int))=False:=eq_false (by decide)
 unfold eD;simp only[↓ev,lG,hR,fJ,yz,e1,z0,decide_false,aV]
theorem γ{l1:List D}{k:Int}{x2:Hl}(e1:∀q,qE q [.d (.ref 0)] (hS (.tup [.lst bl,.lst cs]) r x [fC F])=some (.ok (.o (.lst l1)) (hS (.tup [.lst bl,.lst cs]) r x [fC F])))(hl:(l1.length:Int)=k)(hk:(0<k)=True)(e2:An 0 [.d (.ref 0),.d (.lst cs)] (hS (.tup [.lst bl,.lst cs]) r x [fC F])=some (.ok (rd (.bl true)) (hS (.tup [.lst bl,.lst cs]) r x2 [fC F]))):
  eD 0 (lG g0 (.tup [.lst bl,.lst cs]) g3 g5 g6 g7 a8 a9 a10 a11) (hS (.tup [.lst bl,.lst cs]) r x [fC F])=some (.nx (lG g0 (.tup [.lst bl,.lst cs]) g3 g5 g6 g7 a8 a9 a10 a11) (hS (.tup [.lst bl,.lst cs]) r x2 [fC F])):=by
 unfold eD;simp only[↓ev,lG,hR,fJ,yz,e1,hl,hk,decide_true,eH,e2,aV]
theorem QG:∀rows:List Row,0<=iD h rows
 |[]=>rE _
 |z::rows=>by
  have:=QG rows;unfold iD at *;rw[bL,rF];lia
theorem QH:∀{rows:List Row} {w:Row},w∈rows->(lv h.ae w.b:Int)<=iD h rows
 |z::rows,w,m=>by
  have nn:=QG (h:=h) rows;have es:iD h (z::rows)=(lv h.ae z.b:Int)+iD h rows:=by unfold iD;rw[bL,rF]
  rw[es];rcases y04.mp m with rfl|m
  .lia
  .have:=QH m;lia
theorem JC(g:aB h)(hn:n<1000)(r0:0<=r)(hM:∀b∈h.ae,b.long<=M)(hK:K=(r+1)*M)(M0:0<=M):∀(ks:List D) {x:Hl} {m:Int} {a8:ak Val},Ok h n x->Iv h ps x->bx h x=[]->Ai h r K x m->m<=ks.length->∃x' oI,Ok h n x'/\Iv h ps x'/\x'.rows=[]/\aH (af 8) (eD 0) ks (lG g0 (aF h) g3 g5 g6 g7 a8 a9 a10 a11) (hS (aF h) r x [fC F])=some (.nx (lG g0 (aF h) g3 g5 g6 g7 oI a9 a10 a11) (hS (aF h) r x' [fC F]))
 |[],x,m,a8,o,i,hs,pt,hm=>by
  refine⟨x,a8,o,i,R0 λne=>?_,rfl⟩
  have hm:m<=0:=hm;have K0:0<=K:=by rw[hK];exact uC (by lia) M0
  obtain⟨w,bt,hw,eb,la,hm⟩:=pt.resolve_left ne;have h1:=QS (r:=r) g o hw la.1 eb;have h2:=QH (h:=h) hw;have h3:=JA (o.rw w hw).1.nm;have h4:=uC K0 (show 0<=iD h x.rows - 1 by lia)
  lia
 |k::ks,x,m,a8,o,i,hs,pt,hm=>by
  rw[jt] at hm;have e1:=λq=>A2 (s:=[fC F]) (r:=r) (q:=q) g o
  by_cases ne:x.rows=[]
  .rw[show ord h x.rows=[] by rw[ne];rfl,z7] at e1
   obtain⟨x',oI,o',i',r',e'⟩:=JC g hn r0 hM hK M0 ks (x:=x) (m:=m - 1) (a8:=some (.d k)) o i hs (.inl ne) (by lia)
   exact⟨x',oI,o',i',r',PF rfl (Ω (l1:=[]) e1) e'⟩
  .have RN:Ai h r K x (m - 1+1):=by rw[Int.sub_add_cancel];exact pt
   have lp:=o.perm.length_eq;have l0:0<x.rows.length:=List.length_pos_iff.mpr ne;obtain⟨X,t,e2⟩:=e7b (carts:=h.carts) (c0:=fC F) (r:=r) g o hn hs λX t=>(OG g o hs r0 hM hK M0 t ne RN).2
   obtain⟨x',oI,o',i',r',e'⟩:=JC g hn r0 hM hK M0 ks (x:=aT h r x X) (m:=m - 1) (a8:=some (.d k)) (o.turn g t) (i.turn g o t) hs (OG g o hs r0 hM hK M0 t ne RN).1 (by lia)
   exact⟨x',oI,o',i',r',PF rfl (γ e1 rfl (bN (by rw[bc];lia)) e2) e'⟩
theorem Jn:∀{bs:List ao},(∀b∈bs,1<=b.long)->0<=cN bs/\∀b∈bs,b.long<=cN bs
 |[],_=>⟨rE _,λb m=>by cases m⟩
 |z::bs,hl=>by
  obtain⟨i1,i2⟩:=Jn (bs:=bs) λb m=>hl b (.tail _ m)
  have h1:=hl z (.head _);have es:cN (z::bs)=z.long+cN bs:=by unfold cN;rw[bL,rF]
  rw[es];refine⟨by lia,λb m=>?_⟩
  rcases y04.mp m with rfl|m
  .lia
  .have:=i2 b m;lia
theorem PH:∀rows:List Row,iD h rows<=(rows.length:Int)*(h.ae.length:Int)
 |[]=>by unfold iD;simp
 |z::rows=>by
  have ih:=PH rows;have l:=JL h.ae z.b;have es:iD h (z::rows)=(lv h.ae z.b:Int)+iD h rows:=by unfold iD;rw[bL,rF]
  rw[es,jt,Int.natCast_add,Int.add_mul]
  lia
theorem Li(g:aB h)(o:Ok h n x)(r0:0<=r){mn:Int}(hmn:(x.rows.length:Int)<=mn):Ai h r ((r+1)*cN h.ae) x (mn*(h.ae.length:Int)*((r+2)*cN h.ae+mn)):=by
 obtain⟨c0,hM⟩:=Jn (bs:=h.ae) λb m=>(g.lg b m).1
 by_cases ne:x.rows=[]
 .exact .inl ne
 .obtain⟨w,bt,hw,eb,la⟩:=PD g o ne;have k1:=QE g o r0 hM rfl hw la.1 eb;have k2:=Int.le_trans (PH (h:=h) x.rows) (Int.mul_le_mul_of_nonneg_right hmn (show(0:Int)<=(h.ae.length:Int) by lia))
  have K0:0<=(r+1)*cN h.ae:=uC (by lia) c0
  have k3:=Hw k2 K0;have mn0:0<=mn:=by lia
  have P0:0<=mn*(h.ae.length:Int):=uC (by lia) (by lia)
  have k4:(r+1)*cN h.ae<=(r+2)*cN h.ae+mn:=by
   lia
  have k5:=Hw k4 P0;refine .inr ⟨w,bt,hw,eb,la,?_⟩
  lia
theorem T4(q:Nat)(hb:h.ae.length<=1000):bB (af 0) (iH true) (jK q) (h.ae.map av) [none] S []=some (.ok ((h.ae.map ao.long).map D.int) S):=by
 rw[uZ (λb=>.int b.long) h.ae (by lia) λb m=>⟨rd (.int b.long),by unfold jK av;simp only[↓ev,eH],rfl⟩,jS]
 rfl
end
section
variable{h:ay}{r K M:Int}{x x1 x2:Hl}{n:Nat}{ps:List Str}{F F2 F3 F4:List D}{hd:D}{bl cs:List D}{g0 g3 g5 g6 g7 a8 a9 a10 a11:ak Val}{ns is:List Int}{p st md nu v mn bn cells pb pc most:Int}{Dy:List Int}
theorem W_{q:Nat}{s:List Cell}:E2 q [.d (.ref 0)] (hS hd r x s)=some (.ok (rd (.int x.now)) (hS hd r x s)):=by
 unfold E2 Nd;simp only[↓ev,hR,Ct,Gb,eE]
theorem Ut:((2:Int)<((5:Nat):Int))=True:=bN (by decide)
theorem e5g{pd:List D}(e0:P0 B9 [.d (mU ns)] (.o (.lst F)))(d:Dr F 12 v (fL is p 0 md nu))(e1:Ax 0 [.c 0] ⟨[fC (fL is p v md nu)],[]⟩=some (.ok (rd (.tup [.lst bl,.lst cs])) ⟨[fC F3],[]⟩))
  (e2:Au 0 [.c 0,.d (.tup [.lst bl,.lst cs])] ⟨[fC F3],[]⟩=some (.ok (rd (.tup [.ref 0,.lst pd])) (hS (.tup [.lst bl,.lst cs]) r x1 [fC F4]))) (rest:GS) :
  tG rest 0 [some (.d (mU ns)),none,none,none,none,none,none,none,none,none,none,none] ⟨[],[]⟩=rest [some (.d (mU ns)),some (.c 0),some (.d (.tup [.lst bl,.lst cs])),some (.d (.tup [.ref 0,.lst pd])),none,none,none,none,none,none,none,none] (hS (.tup [.lst bl,.lst cs]) r x1 [fC F4]):=by
 unfold tG;simp only[↓ev,e0,ba,d,fL,Ut,e1,e2]
theorem Cn{a b:GS}{U U':Gm}{S S':aO}{t:ak Fr}(e:a U S=some (.nx U' S'))(e2:b U' S'=t):et a b U S=t:=by
 unfold et;rw[e];exact e2
theorem JS:aR (.lst []) (.lst [])=true:=rfl
theorem Xa(xs:List Str):aR (.lst (dS xs)) (.lst (dS xs))=true:=by
 show df (dS xs) (dS xs)=true
 induction xs with
 |nil=>rfl
 |cons a l ih=>
  rw[dS,bL];unfold df;rw[pZ,ju];exact ih
theorem e5h(e3:∀q,bB (af 0) (iH true) (jK q) bl [none] (hS (.tup [.lst bl,.lst cs]) r x1 [fC F4]) []=some (.ok (Dy.map D.int) (hS (.tup [.lst bl,.lst cs]) r x1 [fC F4])))(ne:(Dy=[])=False)(es:Dy.sum=cells)(lp:((dS ps).length:Int)=mn)(lb:(bl.length:Int)=bn)
  (q1:(-2^64<mn/\mn<2^64 \/ -2^64<bn/\bn<2^64)=True) (q2:(-2^64<r+2/\r+2<2^64 \/ -2^64<cells/\cells<2^64)=True) (ep:mn*bn=pb) (wH:(r+2)*cells=pc) (q3:(-2^64<pb/\pb<2^64 \/ -2^64<pc+mn/\pc+mn<2^64)=True) (em:pb*(pc+mn)=most)
  {x2:Hl} {b8 b9 nD uW:ak Val} {gl:List D} {gn:List Str} (hz:Nat.ble most.natAbs 1000000000000=true) (hl:aH (af 8) (eD 0) (eV 0 most.toNat) (lG (some (.d (mU ns))) (.tup [.lst bl,.lst cs]) (some (.d (.tup [.ref 0,.lst (dS ps)]))) (some (.d (.int cells))) (some (.d (.int mn))) (some (.d (.int most))) none none none none) (hS (.tup [.lst bl,.lst cs]) r x1 [fC F4])=some (.nx (lG (some (.d (mU ns))) (.tup [.lst bl,.lst cs]) (some (.d (.tup [.ref 0,.lst (dS ps)]))) (some (.d (.int cells))) (some (.d (.int mn))) (some (.d (.int most))) b8 none none none) (hS (.tup [.lst bl,.lst cs]) r x2 [fC F4])))
  (eb:∀q,qE q [.d (.ref 0)] (hS (.tup [.lst bl,.lst cs]) r x2 [fC F4])=some (.ok (.o (.lst [])) (hS (.tup [.lst bl,.lst cs]) r x2 [fC F4]))) (eo:∀q,AN q [.d (.ref 0)] (hS (.tup [.lst bl,.lst cs]) r x2 [fC F4])=some (.ok (.o (.lst gl)) (hS (.tup [.lst bl,.lst cs]) r x2 [fC F4]))) (ec:∀q,bB (af 0) (iH true) (jL q) gl [none] (hS (.tup [.lst bl,.lst cs]) r x2 [fC F4]) []=some (.ok (dS gn) (hS (.tup [.lst bl,.lst cs]) r x2 [fC F4]))) (pm:gn.Perm ps) (G1:ps.length<64)
  (hf:aH (aN [(af 9),(af 10),(af 11)]) (fK 0) gl (lG (some (.d (mU ns))) (.tup [.lst bl,.lst cs]) (some (.d (.tup [.ref 0,.lst (dS ps)]))) (some (.d (.int cells))) (some (.d (.int mn))) (some (.d (.int most))) b8 none none none) (hS (.tup [.lst bl,.lst cs]) r x2 [fC F4])=some (.nx (lG (some (.d (mU ns))) (.tup [.lst bl,.lst cs]) (some (.d (.tup [.ref 0,.lst (dS ps)]))) (some (.d (.int cells))) (some (.d (.int mn))) (some (.d (.int most))) b8 b9 nD uW) (hS (.tup [.lst bl,.lst cs]) r x2 [fC F4]))) :
  tM 0 [some (.d (mU ns)),some (.c 0),some (.d (.tup [.lst bl,.lst cs])),some (.d (.tup [.ref 0,.lst (dS ps)])),none,none,none,none,none,none,none,none] (hS (.tup [.lst bl,.lst cs]) r x1 [fC F4])=some (.rt (rd (.bl true)) (hS (.tup [.lst bl,.lst cs]) r x2 [fC F4])):=by
 have e4:=IB Dy;have e5:=λq s=>IE (s:=s) (hd:=.tup [.lst bl,.lst cs]) (r:=r) (q:=q) (x:=x1)
 generalize Dy.map D.int=lgd at *;unfold tM;refine Cn (U':=[some (.d (mU ns)),some (.c 0),some (.d (.tup [.lst bl,.lst cs])),some (.d (.tup [.ref 0,.lst (dS ps)])),some (.d (.ref 0)),none,none,none,none,none,none,none]) (S':=hS (.tup [.lst bl,.lst cs]) r x1 [fC F4]) ?_ (Cn (U':=[some (.d (mU ns)),some (.c 0),some (.d (.tup [.lst bl,.lst cs])),some (.d (.tup [.ref 0,.lst (dS ps)])),some (.d (.ref 0)),some (.d (.int cells)),none,none,none,none,none,none]) (S':=hS (.tup [.lst bl,.lst cs]) r x1 [fC F4]) ?_ (Cn (U':=[some (.d (mU ns)),some (.c 0),some (.d (.tup [.lst bl,.lst cs])),some (.d (.tup [.ref 0,.lst (dS ps)])),some (.d (.ref 0)),some (.d (.int cells)),some (.d (.int mn)),none,none,none,none,none]) (S':=hS (.tup [.lst bl,.lst cs]) r x1 [fC F4]) ?_ (Cn (U':=lG (some (.d (mU ns))) (.tup [.lst bl,.lst cs]) (some (.d (.tup [.ref 0,.lst (dS ps)]))) (some (.d (.int cells))) (some (.d (.int mn))) (some (.d (.int most))) none none none none) (S':=hS (.tup [.lst bl,.lst cs]) r x1 [fC F4]) ?_ (Cn (U':=lG (some (.d (mU ns))) (.tup [.lst bl,.lst cs]) (some (.d (.tup [.ref 0,.lst (dS ps)]))) (some (.d (.int cells))) (some (.d (.int mn))) (some (.d (.int most))) b8 none none none) (S':=hS (.tup [.lst bl,.lst cs]) r x2 [fC F4]) ?_ ?_))))
 .simp only[↓ev,cJ,ba]
 .simp only[↓ev,cJ,e3,e4,ne,es,ba]
 .simp only[↓ev,eH,lp,ba]
 .simp only[↓ev,cJ,lb,q1,ep,hR,fJ,ID,e5,q2,wH,q3,em,ba,lG]
 .simp only[↓ev,lG,hz,iI,hl]
 .have s1:=E5 gn;have s2:=E5 ps;have g64:(gn.length<64)=True:=bN (by rw[pm.length_eq];exact G1)
  have G1:=bN G1;have es:=TF pm;have eq1:=Xa (jm ps);have bw:dh 40 (.lst (dS (jm ps)))=true:=jH 39 _;simp only[↓ev,lG,hR,fJ,yz,eb,ba,aV,JS,jR,e3l,eo,iI,ec,s1,g64,es,eH,s2,G1,bw,eq1,hf]
theorem δ(q:Nat){S:aO}(gs:List (Str×Str×Int))(hl:gs.length<=1000):bB (af 0) (iH true) (jL q) (uj gs) [none] S []=some (.ok (dS (gs.map (·.1))) S):=by
 unfold uj;rw[uZ (λp=>D.str p.1) gs (by lia) λp m=>⟨rd (.str p.1),by unfold jL t3;simp only[↓ev,cJ],rfl⟩,dS,jS]
 rfl
theorem e5i{z:Str×Str×Int}{cr:List Str}(e1:r_ 0 [.d (.ref 0),.d (.str z.1)] (hS (.tup [.lst bl,.lst (dS cr)]) r x [fC F])=some (.ok (rd (.str z.2.1)) (hS (.tup [.lst bl,.lst (dS cr)]) r x [fC F])))(hc:cr.contains z.2.1=true)(h0:(0<z.2.2)=True)(h1:(z.2.2<=x.now)=True):
  fK 0 (lG g0 (.tup [.lst bl,.lst (dS cr)]) g3 g5 g6 g7 a8 (some (.d (.str z.1))) (some (.d (.str z.2.1))) (some (.d (.int z.2.2)))) (hS (.tup [.lst bl,.lst (dS cr)]) r x [fC F])=some (.nx (lG g0 (.tup [.lst bl,.lst (dS cr)]) g3 g5 g6 g7 a8 (some (.d (.str z.1))) (some (.d (.str z.2.1))) (some (.d (.int z.2.2)))) (hS (.tup [.lst bl,.lst (dS cr)]) r x [fC F])):=by
 have e2:=λq s=>W_ (hd:=.tup [.lst bl,.lst (dS cr)]) (r:=r) (x:=x) (q:=q) (s:=s)
 obtain⟨z1,z2,z3⟩:=z;dsimp only at *;unfold fK;simp only[↓ev,lG,hR,fJ,Fs,e1,pZ,ju,jR,aV,eH,jH,j5,hc,h0,decide_true,Vh,e2,h1]
theorem ε(g:aB h)(o:Ok h n x)(i:Iv h ps x)(pn:∀p∈ps,jA p):∃b9 nD uW,aH (aN [(af 9),(af 10),(af 11)]) (fK 0) (uj x.gone) (lG g0 (aF h) g3 g5 g6 g7 a8 a9 a10 a11) (hS (aF h) r x [fC F])=some (.nx (lG g0 (aF h) g3 g5 g6 g7 a8 b9 nD uW) (hS (aF h) r x [fC F])):=by
 obtain⟨U',S',e,b9,nD,uW,rfl,rfl⟩:=jI (gg:=aN [(af 9),(af 10),(af 11)]) (body:=fK 0) (f:=t3) (U:=lG g0 (aF h) g3 g5 g6 g7 a8 a9 a10 a11) (S:=hS (aF h) r x [fC F])
  (λpre U S=>∃b9 nD uW,U=lG g0 (aF h) g3 g5 g6 g7 a8 b9 nD uW/\S=hS (aF h) r x [fC F]) x.gone ⟨_,_,_,rfl,rfl⟩ (by
   rintro d z rest eq U S ⟨b9,nD,uW,rfl,rfl⟩;have hz:z∈x.gone:=by rw[eq];simp
   obtain⟨i1,i2,i3⟩:=i.go z hz;have hn:=pn z.1 (i.pm.mem_iff.mp (cG.mpr (.inr (jT hz))));exact⟨_,_,_,rfl,.inl (e5i (QF o hz hn) (iG.mpr i1) (bN i2) (bN i3)),_,_,_,rfl,rfl⟩)
 exact⟨b9,nD,uW,e⟩
theorem e5j{S2:aO}(e:s9 0 [some (.d (mU ns)),none,none,none,none,none,none,none,none,none,none,none] ⟨[],[]⟩=some (.rt (rd (.bl true)) S2)):∃S,pP 0 [.d (mU ns)] ⟨[],[]⟩=some (.ok (.v (.d (.bl true))) S):=by
 refine⟨S2.cut 0,?_⟩;unfold pP a_;generalize s9 0=ml at *;simp only[↓ev,e]
theorem e7c:∀ns:List Int,ns.length<=63->∃S,pP 0 [.d (.lst (ns.map D.int))] ⟨[],[]⟩=some (.ok (.v (.d (.bl true))) S):=by
 intro ns GK;obtain⟨F,f0,e0⟩:=e2z ns GK;obtain⟨v,F1,v0,v1,f1,d⟩:=mm f0 (m:=12) (by decide) (by decide)
 obtain⟨is,p,md,nu,rfl,hl,hp⟩:=f1;obtain⟨h,F3,f3,g,T8,b0,b4,eh⟩:=Zx (rr:=[]) (st:=v) (F:=fL is p v md nu) ⟨is,p,md,nu,rfl,hl,hp⟩ v0 v1;obtain⟨r,ps,F4,x1,f4,r0,r3,o1,i1,s1,pl,pn,ef⟩:=W8 g b0 f3;obtain⟨c0,hM⟩:=Jn (bs:=h.ae) λb m=>(g.lg b m).1
 have ln:=i1.pm.length_eq;rw[cP,bc,bc] at ln;have pt:=Li g o1 r0 (mn:=(ps.length:Int)) (by lia)
 have ne:(h.ae.map ao.long=[])=False:=eq_false λz=>by simp_all
 have p1:0<=(ps.length:Int)*(h.ae.length:Int):=uC (by lia) (by lia)
 have p2:(ps.length:Int)*(h.ae.length:Int)<=4*4:=Int.mul_le_mul (by lia) (by lia) (by lia) (by lia)
 have p3:0<=(r+2)*cN h.ae:=uC (by lia) c0
 have p4:(r+2)*cN h.ae<=4*16:=Int.mul_le_mul (by lia) T8 c0 (by lia)
 have p5:0<=(ps.length:Int)*(h.ae.length:Int)*((r+2)*cN h.ae+(ps.length:Int)):=uC p1 (by lia)
 have p6:(ps.length:Int)*(h.ae.length:Int)*((r+2)*cN h.ae+(ps.length:Int))<=16*68:=Int.mul_le_mul (by lia) (by lia) (by lia) (by lia)
 obtain⟨x2,b8,o2,i2,RQ,el⟩:=JC (F:=F4) (ps:=ps) (g0:=some (.d (mU ns))) (g3:=some (.d (.tup [.ref 0,.lst (dS ps)]))) (g5:=some (.d (.int (cN h.ae)))) (g6:=some (.d (.int (ps.length:Int)))) (g7:=some (.d (.int ((ps.length:Int)*(h.ae.length:Int)*((r+2)*cN h.ae+(ps.length:Int)))))) (a9:=none) (a10:=none) (a11:=none) g (by lia) r0 hM rfl c0 (eV 0 ((ps.length:Int)*(h.ae.length:Int)*((r+2)*cN h.ae+(ps.length:Int))).toNat) (a8:=none) o1 i1 s1 pt (by rw[tN,bc,t4];lia)
 obtain⟨b9,nD,uW,ed⟩:=ε (r:=r) (F:=F4) (g0:=some (.d (mU ns))) (g3:=some (.d (.tup [.ref 0,.lst (dS ps)]))) (g5:=some (.d (.int (cN h.ae)))) (g6:=some (.d (.int (ps.length:Int)))) (g7:=some (.d (.int ((ps.length:Int)*(h.ae.length:Int)*((r+2)*cN h.ae+(ps.length:Int)))))) (a8:=b8) (a9:=none) (a10:=none) (a11:=none) g o2 i2 pn;have eb:=λq=>A2 (s:=[fC F4]) (r:=r) (q:=q) g o2
 rw[show(ord h x2.rows).map bC=[] by rw[RQ];rfl] at eb
 have pm:=i2.pm;rw[RQ] at pm;have sz:=o2.sz;refine e5j ((e5g e0 d eh ef _).trans (e5h (λq=>T4 q (by lia)) ne (show(h.ae.map ao.long).sum=cN h.ae from rfl) (by rw[bc]) (by rw[bc]) (bN (.inl ⟨by lia,by lia⟩)) (bN (.inl ⟨by lia,by lia⟩)) rfl rfl (bN (.inl ⟨by lia,by lia⟩)) rfl (Bt (by lia)) el eb (λq=>e3m) (λq=>δ q x2.gone (by lia)) pm (by lia) ed))
end
variable{w:cg}{K:PySem.W.Frag}{mg:Str->ak aj}{us:List aj}{h:bM}{l:PySem.W.OpenLaw}
def qm(K:PySem.W.Frag):L2.Sp:=λvs H Q _=>∃(a:ah) (ns:List Int),vs=[.ref a]/\cz K H a (ns.map V.int)/\ns.length<=63/\∀H',Q (.bl true) H'
theorem e5k{P:cS}{base:bM}{t:bo}(T:Txt K mg t):de P w K mg base (ng P w) 8 t.sy t.sj ["_law_script"] (qm K):=by
 exact Zg (e2x T 0) e7c
theorem us_1(h:us.length=1):∃a0,us=[a0]:=by
 obtain _|⟨a0,us⟩:=us
 .cases h
 obtain _|⟨z,us⟩:=us
 .exact⟨a0,rfl⟩
 .simp at h
theorem us_2(h:us.length=2):∃a0 a1,us=[a0,a1]:=by
 obtain _|⟨a0,us⟩:=us
 .cases h
 obtain _|⟨a1,us⟩:=us
 .cases h
 obtain _|⟨z,us⟩:=us
 .exact⟨a0,a1,rfl⟩
 .simp at h
theorem us_3(h:us.length=3):∃a0 a1 a2,us=[a0,a1,a2]:=by
 obtain _|⟨a0,us⟩:=us
 .cases h
 obtain _|⟨a1,us⟩:=us
 .cases h
 obtain _|⟨a2,us⟩:=us
 .cases h
 obtain _|⟨z,us⟩:=us
 .exact⟨a0,a1,a2,rfl⟩
 .simp at h
theorem us_4(h:us.length=4):∃a0 a1 a2 a3,us=[a0,a1,a2,a3]:=by
 obtain _|⟨a0,us⟩:=us
 .cases h
 obtain _|⟨a1,us⟩:=us
 .cases h
 obtain _|⟨a2,us⟩:=us
 .cases h
 obtain _|⟨a3,us⟩:=us
 .cases h
 obtain _|⟨z,us⟩:=us
 .exact⟨a0,a1,a2,a3,rfl⟩
 .simp at h
abbrev gR(K:PySem.W.Frag)(n:Str)(C:ah):Prop:=PySem.W.nsIn K mainGlobals n=some (some (.ref C))/\e_ K C (.ref 31::rj) none/\PySem.W.keepIn K (.ref C)=true
theorem errs_mk(X:K.In h)(G:h.Ns mainGlobals mg)(h0:gR K "NoName" 44)(h1:gR K "NoSize" 56)(h2:gR K "NoOut" 68)(h3:gR K "NoHand" 80)(h4:gR K "NoMoment" 92)(h5:gR K "NoFlight" 104)(h6:gR K "NoBelt" 116)(h7:gR K "NoRoom" 128)(h8:gR K "NoBag" 140)(GB:e_ K 31 rj none)(hB:PySem.W.nsIn K mainGlobals "CarryError"=some (some (.ref 31))):qu K mg iR 31:=by
 refine⟨λp hp=>?_,GB,PySem.W.mg_of X G hB⟩
 simp only[iR,y04,y1p,or_false] at hp;rcases hp with rfl|rfl|rfl|rfl|rfl|rfl|rfl|rfl|rfl
 .exact⟨PySem.W.mg_of X G h0.1,h0.2⟩
 .exact⟨PySem.W.mg_of X G h1.1,h1.2⟩
 .exact⟨PySem.W.mg_of X G h2.1,h2.2⟩
 .exact⟨PySem.W.mg_of X G h3.1,h3.2⟩
 .exact⟨PySem.W.mg_of X G h4.1,h4.2⟩
 .exact⟨PySem.W.mg_of X G h5.1,h5.2⟩
 .exact⟨PySem.W.mg_of X G h6.1,h6.2⟩
 .exact⟨PySem.W.mg_of X G h7.1,h7.2⟩
 .exact⟨PySem.W.mg_of X G h8.1,h8.2⟩
theorem fin_mk{fa f0 f1 f2 f3 f4 f5 f6 f7 f8 f9 f10 f11 f12 f13 f14 f15 f16 f17 f18 f19 f20 f21 f22 f23 f24 f25 f26 f27 f28 f29 f30 f31 f32 f33 f34 f35 f36 f37 f38 f39 f40 f41 f42 f43 f44 f45 f46 f47 f48 f49 f50 f51:ah}{d0 d1 d2 d3 d4 d5 d6 d7 d8 d9 Xb Xc Xd Xe Xf Xg Xh Xi Xj Xk Xl Xm Xn Xo Xp Xq Xr Xs Xt Xu Xx Xy Xz XA XB XC XD XE XF XG Yb Yc Yd Ye Yf Yg Yh Yi Yj Yk YJ YK:bV}(X:K.In h)(G:h.Ns mainGlobals mg)(hfa:mg "law"=some (.ref fa))(T:Txt K mg ⟨f0,d0,f1,d1,f2,d2,f3,d3,f4,d4,f5,d5,f6,d6,f7,d7,f8,d8,f9,d9,f10,Xb,f11,Xc,f12,Xd,f13,Xe,f14,Xf,f15,Xg,f16,Xh,f17,Xi,f18,Xj,f19,Xk,f20,Xl,f21,Xm,f22,Xn,f23,Xo,f24,Xp,f25,Xq,f26,Xr,f27,Xs,f28,Xt,f29,Xu,f30,Xx,f31,Xy,f32,Xz,f33,XA,f34,XB,f35,XC,f36,XD,f37,XE,f38,XF,f39,XG,f40,Yb,f41,Yc,f42,Yd,f43,Ye,f44,Yf,f45,Yg,f46,Yh,f47,Yi,f48,Yj,f49,Yk,f50,YJ,f51,YK⟩)
  : ∃fd:bV,(∀(s:aq) (v:aj),BindsTo s fd ⟨[v],[]⟩ [("_law_script",v)])/\∀base:bM,K.In base->base.Ns mainGlobals mg->de l.prog w K mg base (ng l.prog w) 8 fa fd ["_law_script"] (qm K):=by
 have e:=hfa.symm.trans T.rT.mg;cases e;obtain⟨oc,od,kV,doc,pm,an,fS,ct,ux,e,_,_⟩:=T.rT.fn.ex;exact⟨_,λs v=>by rw[e];exact .of_eq rfl,λbase _ _=>e5k T⟩
theorem walk{q:cS}{loose:List Str}{XP:(Str->ak aj)->bM->Prop}{YP:cg->bM->Prop}{d:DefRec}{K:Params->PySem.W.Frag}(hn:l.most=some 63)(C6:d.params.defaults=[])
  (hY:∀(w:cg) (h:bM),YP w h->(K w.params).In h)
  (F:∀(w:cg) (mg:Str->ak aj) (fa:ah) (h:bM),(K w.params).In h->h.Ns mainGlobals mg->mg d.name=some (.ref fa)-> ∃fd:bV,(∀(s:aq) (u:aj),BindsTo s fd ⟨[u],[]⟩ [("_law_script",u)])/\∀base:bM,(K w.params).In base->base.Ns mainGlobals mg->de l.prog w (K w.params) mg base (ng l.prog w) 8 fa fd ["_law_script"] (qm (K w.params))) :
  PySem.W.WalkO q loose XP YP l.row.toRowW d [] (λf vs=>PySem.call f vs):=
 L2.vW (n:=63) (k:=8) (x:="_law_script") (CX:=λw=>ng l.prog w) (sp:=λw=>qm (K w.params)) hn (by decide) C6 ⟨rfl,by decide,by decide⟩ hY F (λ_ _ a ns hl _ hS=>⟨a,ns,rfl,hS,hl,λ_=>rfl⟩) λ_ _ _ _ _ ⟨_,_,_,_,_,_,z⟩=>z
end Carry
end
open PySem PySem.W PyProof.Rows
set_option maxRecDepth 100000 in
set_option maxHeartbeats 0 in
theorem PySem.Challenge.cw_carry_k93_whole_all_come_out_holds : PySem.Challenge.rw_carry_k93_whole_all_come_out.Holds := by
 simp -failIfUnchanged only[Carry.Hd.hd0];w_on;o_law;(try simp only[Carry.Hd.hd]);k_head;(case hw=>w_witness2)
 k_fill
 refine Carry.walk (l:=PySem.Challenge.rw_carry_k93_whole_all_come_out) rfl rfl (λw h Y=>PySem.W.kIn_of Y) ?F
 case F=>
  intro w mg fa h KX G hmg;refine' Carry.fin_mk KX G hmg ⟨L2.dM KX G ?_ ?_ ?_,L2.dM KX G ?_ ?_ ?_,L2.dM KX G ?_ ?_ ?_,L2.dM KX G ?_ ?_ ?_,L2.dM KX G ?_ ?_ ?_,L2.dM KX G ?_ ?_ ?_,L2.dM KX G ?_ ?_ ?_,L2.dM KX G ?_ ?_ ?_,L2.dM KX G ?_ ?_ ?_,L2.dM KX G ?_ ?_ ?_,L2.dM KX G ?_ ?_ ?_,L2.dM KX G ?_ ?_ ?_,L2.dM KX G ?_ ?_ ?_,L2.dM KX G ?_ ?_ ?_,L2.dM KX G ?_ ?_ ?_,L2.dM KX G ?_ ?_ ?_,L2.dM KX G ?_ ?_ ?_,L2.dM KX G ?_ ?_ ?_,L2.dM KX G ?_ ?_ ?_,L2.dM KX G ?_ ?_ ?_,L2.dM KX G ?_ ?_ ?_,L2.dM KX G ?_ ?_ ?_,L2.dM KX G ?_ ?_ ?_,L2.dM KX G ?_ ?_ ?_,L2.dM KX G ?_ ?_ ?_,L2.dM KX G ?_ ?_ ?_,L2.dM KX G ?_ ?_ ?_,L2.dM KX G ?_ ?_ ?_,L2.dM KX G ?_ ?_ ?_,L2.dM KX G ?_ ?_ ?_,L2.dM KX G ?_ ?_ ?_,?F31,(L2.Fun.binds ?F31 ?_),L2.mM ?_ ?_ ?_ ?_,L2.mM ?_ ?_ ?_ ?_,L2.mM ?_ ?_ ?_ ?_,L2.mM ?_ ?_ ?_ ?_,L2.mM ?_ ?_ ?_ ?_,L2.mM ?_ ?_ ?_ ?_,L2.mM ?_ ?_ ?_ ?_,L2.mM ?_ ?_ ?_ ?_,L2.mM ?_ ?_ ?_ ?_,L2.mM ?_ ?_ ?_ ?_,L2.mM ?_ ?_ ?_ ?_,L2.mM ?_ ?_ ?_ ?_,L2.mM ?_ ?_ ?_ ?_,L2.mM ?_ ?_ ?_ ?_,L2.mM ?_ ?_ ?_ ?_,L2.mM ?_ ?_ ?_ ?_,L2.mM ?_ ?_ ?_ ?_,L2.mM ?_ ?_ ?_ ?_,L2.mM ?_ ?_ ?_ ?_,L2.mM ?_ ?_ ?_ ?_,⟨?_,?_,?_,?_⟩,⟨?_,?_,?_,?_⟩,PySem.W.mg_of KX G ?_,?atr,?er,PySem.W.mg_none_of KX G ?_,PySem.W.mg_none_of KX G ?_,PySem.W.mg_none_of KX G ?_,PySem.W.mg_none_of KX G ?_,PySem.W.mg_none_of KX G ?_,PySem.W.mg_none_of KX G ?_,PySem.W.mg_none_of KX G ?_,PySem.W.mg_none_of KX G ?_,PySem.W.mg_none_of KX G ?_,PySem.W.mg_none_of KX G ?_,PySem.W.mg_none_of KX G ?_,PySem.W.mg_none_of KX G ?_,PySem.W.mg_none_of KX G ?_,PySem.W.mg_none_of KX G ?_,PySem.W.mg_none_of KX G ?_,L2.kM KX G ?_,L2.kM KX G ?_⟩
  case atr=>
   intro p hp;simp only[Carry.atrs,y04,y1p,or_false] at hp;rcases hp with rfl|rfl|rfl|rfl|rfl|rfl|rfl|rfl|rfl|rfl <;> (dsimp only[Carry.cHall];exact⟨⟨by k_is,by k_is,by k_is,by k_is⟩,by show _=_;k_is⟩)
  case er=>
   refine' Carry.errs_mk KX G ?h0 ?h1 ?h2 ?h3 ?h4 ?h5 ?h6 ?h7 ?h8 ?GB ?hB
   all_goals first|(refine' ⟨?za,?zb,?zd⟩;(case zb=>refine' L2.errC_mk ?zl ?zm ?zs ?zi;(case zl=>k_is);(case zm=>k_is);(case zs=>kernel_rfl);(case zi=>kernel_rfl));(case za=>k_is);(case zd=>k_is))|(refine' L2.errC_mk ?zl ?zm ?zs ?zi;(case zl=>k_is);(case zm=>k_is);(case zs=>kernel_rfl);(case zi=>kernel_rfl))|k_is|(show _=_;k_is)
  all_goals (try dsimp only[Carry.cHall])
  all_goals first|(refine' L2.fun_mk ?zl ?zc ?zk;(case zl=>k_is);(case zc=>k_is);(case zk=>k_is))|(intro _ _ _ _ _ _ us hl;obtain⟨_,rfl⟩:=Carry.us_1 hl;rfl)|(intro _ _ _ _ _ _ us hl;obtain⟨_,_,rfl⟩:=Carry.us_2 hl;rfl)|(intro _ _ _ _ _ _ us hl;obtain⟨_,_,_,rfl⟩:=Carry.us_3 hl;rfl)|(intro _ _ _ _ _ _ us hl;obtain⟨_,_,_,_,rfl⟩:=Carry.us_4 hl;rfl)|k_is|(show _=_;k_is)|skip
  all_goals (try (refine' L2.fun_mk ?zl ?zc ?zk;(case zl=>k_is);(case zc=>k_is);(case zk=>k_is)))