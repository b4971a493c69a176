import PyProof.Rows.All
import Wide.All
import OpenK.AllK
import Wide.FinOn
import Lean
import PyProof.EqAt
import PyProof.EqKinds
import PyProof.TupleCall
import PyProof.StationsW
import PyProof.ExcClass3
import PyProof.ExcInit
import PyProof.ExcBaseAll.ValueError
import PyProof.ExcArgsOwn
import KE.KIsAll
import PyProof.ExcAttrAll.ValueError
import PyProof.InstStoreFacts
import KE.KTryMore
import PyProof.RulesAs
import PyProof.NsDelKeeps
import KE.KRevIter
import PyProof.SeqI3
import PyProof.DictWalks
import PyProof.EnumIter
import PyProof.EnumStmt
import PyProof.EnumMake
import PyProof.WalksEnum
import PyProof.FactsAll.NoneType_1
import PyProof.NeKinds
import KE.KDictList
import KE.KItemsList
import PyProof.Rows.SortShell
import PyProof.WalkInts
import PyProof.MeetsSeq
import PyProof.SeqRoads2
import KE.KDictOf
import PyProof.AttrMissHeap
import KE.KSortTup
import PyProof.Rows.SortWalk
import PySem.Challenge.RW_carry_k70_whole_a_bag_alone
set_option linter.all false
set_option bootstrap.genMatcherCode false
set_option compiler.extract_closed false
set_option genSizeOf false
set_option genSizeOfSpec false
def cz:=@List.length_map.{0,0}
def cI:=@Nat.le_refl
def dB:=@Option.bind_eq_some_iff.{0,0}
def dX:=@List.map_cons.{0,0}
def eH:=@PySem.Heap.lt_size
def fg:=@PySem.Heap.get?_push_of_some
def fE:=@List.size_toArray.{0}
def fR:=@Option.map_eq_some_iff.{0,0}
def fV:=@List.mem_cons.{0}
def f7:=@List.length_append.{0}
theorem ik:type_of% @Option.any_some.{0}:=rfl
def ja:=@Nat.max_self
def jk:=@Nat.lt_of_lt_of_le
def jl:=@Nat.ne_of_lt
def jx:=@List.getElem?_map.{0,0}
def jQ:=@List.getElem?_eq_some_iff.{0}
def jR:=@List.getElem?_eq_getElem.{0}
theorem kd:type_of% @List.length_cons.{0}:=rfl
def kA:=@PySem.Heap.get?_push_size
def lC:=@Nat.le_trans
def lX:=@Nat.lt_irrefl
def lY:=@List.prefix_refl.{0}
def mU:=@Nat.zero_le
def mV:=@List.map_append.{0,0}
def m6:=@Bool.and_eq_true
def m8:=@List.append_assoc.{0}
def nM:=@Bool.false_ne_true
def nN:=@List.contains_iff_mem.{0}
def nY:=@List.mem_append_right.{0}
def nZ:=@Bool.not_true
def oI:=@List.mem_cons_of_mem.{0}
def oJ:=@List.length_replicate.{0}
def pj:=@List.mem_append.{0}
theorem pz:type_of% @List.lookup_cons.{0,0}:=rfl
def pA:=@List.all_eq_true.{0}
def qa:=@List.mem_cons_self.{0}
def p7:=@List.append_nil.{0}
def p8:=@List.mem_singleton.{0}
def p9:=@List.nodup_append.{0}
def p_:=@List.mem_map.{0,0}
def qu:=@List.mem_range
def qv:=@List.getElem?_append_right.{0}
def qw:=@PySem.Heap.get?_update_other
def qx:=@Bool.false_eq_true
def rQ:=@List.getElem?_append_left.{0}
def rR:=@List.mem_of_getElem?.{0}
def rS:=@PySem.Heap.get?_update_self
def rT:=@Array.getElem?_eq_getElem.{0}
def rV:=@List.all_cons.{0}
def rW:=@Bool.not_false
def sF:=@Nat.lt_succ_self
def sG:=@List.nodup_cons.{0}
def sH:=@List.length_set.{0}
def sJ:=@List.map_map.{0,0,0}
def um:=@Nat.le_succ
def uo:=@List.filter_cons.{0}
def uq:=@List.getElem_mem.{0}
def ur:=@Array.getElem?_toList.{0}
def uv:=@List.length_range
def uw:=@List.getD_eq_getElem?_getD.{0}
def vH:=@List.filterMap_cons.{0,0}
def vI:=@Nat.ne_of_gt
def vJ:=@Bool.and_false
theorem vK:type_of% @List.foldl_cons.{0,0}:=rfl
def vL:=@Option.bind_some.{0,0}
def ye:=@List.length_take.{0}
def yf:=@List.length_drop.{0}
def yg:=@Nat.lt_succ_of_lt
def yh:=@List.mem_iff_getElem?.{0}
def zC:=@List.mem_filter.{0}
def zD:=@List.getElem?_set_self.{0}
def zE:=@List.take_of_length_le.{0}
theorem zF:type_of% @List.length_nil.{0}:=rfl
def zG:=@List.not_mem_nil.{0}
theorem zH:type_of% @Option.isSome_none.{0}:=rfl
def zI:=@List.find?_cons.{0}
def zJ:=@List.mem_map_of_mem.{0,0}
theorem zK:type_of% @Option.isSome_some.{0}:=rfl
def zL:=@Int.add_zero
def Cu:=@List.getElem_inj.{0}
theorem Cv:type_of% @Array.length_toList.{0}:=rfl
def Cw:=@List.mem_filterMap.{0,0}
def Cy:=@Nat.le_of_eq
def Cz:=@List.length_singleton.{0}
def CA:=@List.map_nil.{0,0}
def CB:=@Bool.eq_iff_iff
def CC:=@Array.getElem?_eq_some_iff.{0}
def CD:=@Bool.and_eq_true_iff
def CF:=@Nat.le_of_ble_eq_true
def CG:=@Bool.and_true
def CH:=@PySem.Heap.get?_push_ne
def CI:=@List.filterMap_cons_none.{0,0}
def CJ:=@List.sum_cons.{0}
def E_:=@List.mem_append_left.{0}
def E':=@Bool.false_and
def Fb:=@List.drop_of_length_le.{0}
def Fc:=@Nat.le_add_right
def Fd:=@List.getElem?_range
def E2:=@List.length_reverse.{0}
def E3:=@Option.map_some.{0,0}
def E4:=@PySem.Heap.size_update
def E5:=@PySem.Heap.get?_update_ne
def E6:=@List.filterMap_cons_some.{0,0}
def E7:=@List.nil_append.{0}
def E8:=@List.map_drop.{0,0}
def E9:=@Nat.ble_eq_true_of_le
def K4:=@Nat.le_of_lt
def K5:=@List.getElem?_set_ne.{0}
def K6:=@Array.mem_toList_iff.{0}
def K7:=@List.getElem?_replicate.{0}
def K8:=@Bool.or_false
theorem K9:type_of% @Option.getD_none.{0}:=rfl
def K_:=@Nat.sub_self
theorem K':type_of% @Int.toNat_natCast:=λ_=>rfl
def La:=@List.drop_eq_getElem_cons.{0}
def Lb:=@List.nodup_range
def Lc:=@List.getElem?_eq_none.{0}
def Ld:=@List.foldl_append.{0,0}
def Le:=@List.eraseIdx_eq_take_drop_succ.{0}
def Lf:=@Bool.true_or
def Lg:=@List.sum_append.{0}
def Lh:=@Option.none_or.{0}
def Li:=@List.reverse_reverse.{0}
def Lj:=@List.reverse_append.{0}
def Lk:=@Bool.eq_false_iff
def Ll:=@Int.sub_zero
namespace Carry.Hd
open Lean Meta PySem PySem.W
abbrev Ex:=Lean.Expr
def fit(ds:Array (Ex×Ex×Ex)):MetaM (Array (Ex×Ex×Ex)):=do
 let cs:Std.HashSet Ex:=ds.foldl (λz d=>if d.1.isConst then z.insert d.1 else z) {}
 ds.filterM λd=>do
  let ty:=Fast.bareType (<-inferType d.1)
  return (ty.find? λy=>cs.contains y || y.isConstOf ``PySem.W.Frag).isNone
def spots(ds:Array (Ex×Ex×Ex)):Std.HashMap Ex Nat:=ds.zipIdx.foldl (λz d=>z.insert d.1.1 d.2) {}
def parts(tw:Name->MetaM Unit)(v:Ex):MetaM (Array (Ex×Ex×Ex)):=do
 for x in Fast.constsOf v do
  if let .const c _:=x then
   if((<-getEnv).getModuleIdxFor? c).isNone || (`PySem.Challenge).isPrefixOf c then tw c
 fit (<-Fast.twinsIn v)
def twin:Nat->Name->MetaM Unit
 |0,_=>return
 |k+1,c=>do
  let (n,e) <-Fast.stemIn c true
  if(<-getEnv).contains e then return
  if let some none:=(<-Fast.primed.get).get? c then return
  let some (.defnInfo d):=(<-getEnv).find? c|return
  let ds <-parts (twin k) d.value
  if ds.isEmpty then
   Fast.primed.modify λz=>z.insert c none
   return
  let tys <-ds.mapM λx=>inferType x.1
  let ty <-inferType d.value
  let ix:=spots ds
  let G <-Fast.withLocals tys.toList #[] λxs=>mkLambdaFVars xs (Fast.putIn ix (λi=>xs[i]!) d.value)
  let mut B:=#[ty]
  for q in tys.reverse do B:=B.push (<-mkArrow q B.back!)
  let m:=ds.size
  let mut f:=G
  let mut g:=G
  let mut pf:=mkApp2 (mkConst ``Eq.refl [<-getLevel B[m]!]) B[m]! G
  for i in [0:m] do
   let (x,y,h):=ds[i]!
   pf:=mkAppN (mkConst ``congr [<-getLevel tys[i]!,<-getLevel B[m - 1 - i]!]) #[tys[i]!,B[m - 1 - i]!,f,g,x,y,pf,h]
   f:=mkApp f x
   g:=mkApp g y
  withOptions (Elab.async.set · false) do
   addDecl (.defnDecl { name:=n,levelParams:=[],type:=d.type,value:=Fast.putIn ix (λi=>ds[i]!.2.1) d.value,hints:=d.hints,safety:=.safe})
   addDecl (.thmDecl { name:=e,levelParams:=[],type:=<-mkEq (mkConst c) (mkConst n),value:=pf})
  Fast.primed.modify λz=>z.insert c (some (n,e))
def prep(v:Ex):MetaM (Array (Ex×Ex×Ex)):=parts (twin 9) v
def put(stem:Name)(ty v:Ex):MetaM Ex:=do
 let ds <-prep v
 let c <-defAt stem ty (Fast.putIn (spots ds) (λi=>ds[i]!.2.1) v)
 Fast.primed.modify λz=>z.insert c.constName! none
 return c
abbrev Objs:=Array (Obj×Obj×Ex)
def lay(old:Objs)(s t:Shared):MetaM Objs:=do
 let P:=mkConst ``Params
 unless s.heap.objs.size == t.heap.objs.size && s.toks == t.toks && toExpr s.drawn == toExpr t.drawn && toExpr s.heap.life == toExpr t.heap.life do throwError "the worlds part"
 let mut out:=#[]
 for i in [0:s.heap.objs.size] do
  let (a,b):=(s.heap.objs[i]!,t.heap.objs[i]!)
  if let some (a',b',e):=old[i]? then
   if sameObjNow a' a && sameObjNow b' b then
    out:=out.push (a',b',e)
    continue
  let v <-withLocalDeclD `P P λp=>do
   let e:=objE p a
   unless e == objE p b do throwError "an object is the world's"
   mkLambdaFVars #[p] e
  out:=out.push (a,b,<-put `o (<-mkArrow P (mkConst ``Obj)) v)
 return out
def state(l:Bool)(old:Objs)(s t:Shared):MetaM (Objs×W.State):=do
 let P:=mkConst ``Params
 let os <-lay old s t
 let life:=toExpr s.heap.life
 let S:W.State:={ heap:=default,gens:=<-gensE s t,drawn:=toExpr s.drawn,toks:=mkRawNatLit s.toks}
 if l then
  let v <-withLocalDeclD `P P λp=>mkLambdaFVars #[p] (mkApp2 (mkConst ``Heap.mk) (mkApp2 (mkConst ``Array.mk [0]) (mkConst ``Obj) (listE (mkConst ``Obj) (os.toList.map λx=>mkApp x.2.2 p))) life)
  return (os,{ S with heap:=<-put `h (<-mkArrow P (mkConst ``Heap)) v})
 let v <-withLocalDeclD `P P λp=>mkLambdaFVars #[p] (treeE p (os.map (·.2.2)) 1 0)
 return (os,{ S with tree:=some (<-put `t (<-mkArrow P (mkConst ``BT)) v,mkRawNatLit s.heap.objs.size,life)})
def aux(ty pf:Ex):MetaM Ex:=do return mkConst (<-withOptions (Elab.async.set · false) (mkAuxLemma [] ty pf (cache:=false)))
def look:Nat->Ex->Ex->MetaM Ex
 |k,l,r=>do
  let W:=mkConst ``World
  let O:=mkConst ``OsState
  let q <-withLocalDeclD `w W λw=>withLocalDeclD `os O λos=>do
   let un (e:Ex):MetaM Ex:=do
    let e:=(mkApp2 e w os).headBeta
    if e.isAppOf ``openSeen || e.isAppOf ``openGood then return (<-unfoldDefinition? e).getD e
    return e
   let (a,b):=(<-un l,<-un r)
   unless a.isAppOfArity ``Prod.mk 4 && b.isAppOfArity ``Prod.mk 4 do return none
   let sh (e:Ex) (i:Nat):MetaM Ex:=mkLambdaFVars #[w,os] (e.getArg! i)
   return some (<-sh a 2,<-sh b 2,<-sh a 3,<-sh b 3)
  match k,q with
  |n+1,some (a1,b1,a2,b2)=>
   let (x,y):=(<-look n a1 b1,<-look n a2 b2)
   let (ty,pf) <-withLocalDeclD `w W λw=>withLocalDeclD `os O λos=>do
    return (<-mkForallFVars #[w,os] (<-mkEq (mkApp2 l w os).headBeta (mkApp2 r w os).headBeta),<-mkLambdaFVars #[w,os] (<-mkAppM ``looks_pair #[mkApp2 x w os,mkApp2 y w os]))
   aux ty pf
  |_,_=>
   let P <-withLocalDeclD `w W λw=>do mkLambdaFVars #[w] (<-mkEq (mkApp l w).headBeta (mkApp r w).headBeta)
   discard <| prep P
   let e <-byKernelQuick P []
   withLocalDeclD `w W λw=>withLocalDeclD `os O λos=>do mkLambdaFVars #[w,os] (<-mkAppM ``congrFun #[mkApp e w,os])
def most:Nat:=3000
def left(g:MVarId)(pE:Ex)(p:Program)(_:List String):MetaM Unit:=g.withContext do
 let a:=(<-instantiateMVars (<-g.getType)).consumeMData.getAppArgs
 let some N <-(Meta.evalNat a[7]!).run|throwError "no number"
 let (.ok t,.ok t'):=(<-traceTop p N 1,<-traceTop p N 2)|throwError "no trace"
 let tb:=mkConst ``treeTable
 let (W,O):=(mkConst ``World,mkConst ``OsState)
 let m0:=mkRawNatLit t.s0.heap.objs.size
 let ann:=toExpr t.ann
 let main <-mkAppM ``Program.main #[pE]
 let op <-mkAppM ``opening #[pE]
 let e1 <-aux (<-mkEq op (mkApp (mkConst ``plainProg) (<-mkAppM ``Scope.names #[<-mkAppM ``Module.scope #[main]]))) (<-mkEqRefl op)
 let e2 <-withLocalDeclD `s (mkConst ``Shared) λs=>do
  let r <-mkAppM ``some #[s]
  aux (<-mkForallFVars #[s] (<-mkEq (mkApp2 (mkConst ``fenceModules?) pE s) r)) (<-mkLambdaFVars #[s] (<-mkEqRefl r))
 let e3 <-mkDecideProof (<-mkEq (mkApp2 (mkConst ``Nat.ble) (mkRawNatLit 600) a[7]!) (mkConst ``Bool.true))
 let boot:=mkAppN (mkConst ``boot_open) #[pE,a[7]!,e1,e3,e2]
 let bE <-mkAppM ``behindTheImports #[pE]
 let some cells <-cellsD? bE|throwError "no body"
 let env0 <-Elab.Term.TermElabM.run' do
  let s1 <-Elab.Term.exprToSyntax (<-mkAppM ``Module.scope #[main])
  let s2 <-Elab.Term.exprToSyntax (toExpr t.code)
  let e <-Elab.Term.withSynthesize (Elab.Term.elabTermEnsuringType (<-`(({ scope:=$s1,locals:=mainNs,globals:=mainNs,cells:=[],code:=$s2,frame:=some $(quote t.frame)}:Env))) (mkConst ``Env))
  instantiateMVars e
 let env <-defAt `env (mkConst ``Env) env0
 let fp:=toExpr t.framePos
 let cE:=mkApp2 (mkConst ``Code.body) bE env
 let B:=listE (mkConst ``Frame) [mkApp (mkConst ``topFrame) fp]
 let go (f:Name) (more:Array Ex) (n:Nat) (w s th:Ex):Ex:=mkAppN (mkConst f) (#[tb,pE,w,m0,ann]++more++#[mkRawNatLit n,s,th])
 let one:=#[mkRawNatLit 1]
 let piece (rows:List String) (l r:Ex->Ex->MetaM Ex):MetaM Ex:=do
  for x in [pE,env] do discard <| prep x
  byPiece rows l r
 let ends (S:Ex) (pos:Pos):MetaM Ex:=do mkAppM ``some #[<-mkAppM ``Prod.mk #[mkConst ``Flow.next,<-mkAppM ``Prod.mk #[S,<-mkAppM ``Prod.mk #[cE,toExpr pos]]]]
 let rowsOf (x y:Snap):=(x.rows++y.rows).eraseDups
 let mut o:Objs:=#[]
 for i in [0:t.s0.heap.objs.size] do o:=o.push (t.s0.heap.objs[i]!,t'.s0.heap.objs[i]!,mkConst ((`PySem.W).str s!"boot_o_{i}"))
 let S0:PySem.W.State:={ heap:=mkConst ``boot_heap,gens:=mkApp2 (mkConst ``Array.mk [0]) (mkConst ``GenState) (mkApp (mkConst ``List.nil [0]) (mkConst ``GenState)),drawn:=mkConst ``boot_drawn,toks:=mkConst ``boot_toks}
 let (o1,Sa) <-state true o t.pre.s t'.pre.s
 let thA:=mkApp4 (mkConst ``Thread.mk) (mkApp2 (mkConst ``denote) tb cE) cE (toExpr t.pre.pos) B
 let stub:=mkApp (mkConst ``topStub) pE
 let pre <-piece (rowsOf t.pre t'.pre) (λw os=>pure (go ``topGo #[] t.pre.steps w (S0.at w os) stub)) λw os=>do mkAppM ``some #[<-mkAppM ``Prod.mk #[Sa.at w os,thA]]
 let (o2,Sb) <-state false o1 t.block.s t'.block.s
 let block <-piece (rowsOf t.block t'.block) (λw os=>pure (go ``segRun one t.block.steps.succ w (Sa.at w os) (mkAppN (mkConst ``blockOf) #[bE,env,cE,toExpr t.pre.pos,B]))) λw os=>ends (Sb.at w os) t.block.pos
 let mut gs:Array (List Ex×Nat×Snap×Snap×List String):=#[]
 for (st,x,x') in cells.zip (t.pieces.zip t'.pieces) do
  let k:=max x.steps x'.steps
  let rs:=rowsOf x x'
  match gs.back? with
  |some (l,n,_,_,r)=>
   if n+k<=most && (r++rs).eraseDups.length<=3 then gs:=gs.pop.push (l++[st],n+k,x,x',(r++rs).eraseDups) else gs:=gs.push ([st],k,x,x',rs)
  |none=>gs:=gs.push ([st],k,x,x',rs)
 let mut cur:=(o2,Sb,t.block.pos)
 let mut lems:=#[]
 for (sts,n,x,x',rs) in gs do
  let stE <-defAt `st (mkApp (mkConst ``List [0]) (mkConst ``Stmt)) (listE (mkConst ``Stmt) sts)
  discard <| prep stE
  let (o0,S1,p1):=cur
  let (o',S') <-state false o0 x.s x'.s
  let th:=mkAppN (mkConst ``piecesOf) #[stE,env,cE,toExpr p1,B]
  let h <-piece rs (λw os=>pure (go ``segRunT one n.succ w (S1.atT w os) th)) λw os=>ends (S'.atT w os) x.pos
  lems:=lems.push (stE,n.succ,S1,p1,S',x.pos,<-liftT h ``segRun_of)
  cur:=(o',S',x.pos)
  logInfo m!"PIECE {sts.length} {n} {x.s.heap.objs.size}"
 let (oN,SN,pN):=cur
 let (_,Sf) <-state true oN t.fin.s t'.fin.s
 let fin <-piece (rowsOf t.fin t'.fin) (λw os=>pure (go ``topRun #[] t.fin.steps.succ w (SN.at w os) (mkApp4 (mkConst ``Thread.mk) (mkApp (mkConst ``doneF) (mkConst ``Flow.next)) cE (toExpr pN) B))) λw os=>mkAppM ``some #[Sf.at w os]
 let run <-withLocalDeclD `w W λw=>withLocalDeclD `os O λos=>do
  let w1 (l:Ex):MetaM Ex:=do mkAppM ``congrFun #[mkApp l w,os]
  let r:=Sf.at w os
  let com:=#[tb,pE,w,m0,ann,env,fp]
  let mut k <-w1 fin
  let mut M:=mkRawNatLit t.fin.steps.succ
  let mut rest:=listE (mkConst ``Stmt) []
  for (stE,n,S1,p1,S',p2,h) in lems.toList.reverse do
   k:=mkAppN (mkConst ``piece_app) (com++#[mkRawNatLit n,M,S1.at w os,S'.at w os,r,stE,rest,cE,toExpr p1,toExpr p2,<-w1 h,k])
   M:=mkApp2 (mkConst ``Nat.add) (mkRawNatLit n) M
   rest <-mkAppM ``HAppend.hAppend #[stE,rest]
  k:=mkAppN (mkConst ``piece_block) (com++#[mkRawNatLit t.block.steps.succ,M,Sa.at w os,Sb.at w os,r,bE,cE,toExpr t.pre.pos,toExpr t.block.pos,<-w1 block,k])
  M:=mkApp2 (mkConst ``Nat.add) (mkRawNatLit t.block.steps.succ) M
  k:=mkAppN (mkConst ``go_top) #[tb,pE,w,m0,ann,mkRawNatLit t.pre.steps,M,S0.at w os,Sa.at w os,r,stub,thA,<-w1 pre,k]
  M:=mkApp2 (mkConst ``Nat.add) (mkRawNatLit t.pre.steps) M
  let ty <-mkEq (mkAppN (mkConst ``topRun) #[tb,pE,w,m0,ann,M,S0.at w os,stub]) (<-mkAppM ``some #[r])
  return (M,<-aux (<-mkForallFVars #[w,os] ty) (<-mkLambdaFVars #[w,os] k))
 let lem:=mkConst ``LeftO.of_pieces
 let (ms,_,_) <-forallMetaTelescope (<-inferType lem)
 let vs:=#[pE,a[1]!,a[2]!,a[3]!,a[4]!,a[5]!,a[6]!,a[7]!,a[8]!,S0.heap,Sf.heap,S0.gens,Sf.gens,S0.drawn,Sf.drawn,S0.toks,Sf.toks,m0,ann,run.1]
 for (m,v) in ms.zip vs do m.mvarId!.assign v
 let want (i:Nat):MetaM Ex:=do instantiateMVars (<-inferType ms[i]!)
 let .forallE n1 d1 b1 i1 <-want 21|throwError "size"
 let size <-byKernelQuick (.lam n1 d1 b1 i1) []
 let .forallE _ _ bl _ <-want 24|throwError "looks"
 let (l,r) <-withLocalDeclD `w W λw=>do
  let some (_,l,r):=(bl.instantiate1 w).eq?|throwError "looks"
  return (<-mkLambdaFVars #[w] l,<-mkLambdaFVars #[w] r)
 let h <-look 12 l r
 let looks <-withLocalDeclD `w W λw=>do
  let f <-withLocalDeclD `os O λos=>mkLambdaFVars #[os] (mkApp2 h w os)
  mkLambdaFVars #[w] (<-mkAppM ``funext #[f])
 g.assign (mkAppN lem (vs++#[boot,size,run.2,<-mkDecideProof (<-want 23),looks]))
simproc_decl hd0 (PySem.W.OpenLaw.Holds _):=λe=>do
 if let .const (.str p s) _:=e.appArg! then twin 9 (p.str ("p"++(s.drop 1).toString))
 return .continue
simproc_decl hd (PySem.W.OpenRow.Holds _):=λ_=>do
 PySem.W.leftPieces.set (some left)
 return .continue
end Carry.Hd
noncomputable section
set_option Elab.async false
set_option maxRecDepth 100000
namespace L2
open PySem PySem.Spec PyProof.Rows
abbrev Key:=Sum Int Str
def vi:Key->Value->Bool
 |.inl k,v=>Value.isInt k v
 |.inr x,v=>Value.isStrOf x v
def JR(w:World):Key->Int
 |.inl k=>hashInt k
 |.inr x=>hashStr w x
theorem sR:∀{k:Key} {v:Value},vi k v=true->(∃i t,k=Sum.inl i/\v=Value.int i t)\/(∃x t,k=Sum.inr x/\v=Value.str x t)
 |.inl i,v,h=>by
  obtain⟨t,e⟩:=Value.isInt_shape (k:=i) (v:=v) h;exact .inl ⟨i,t,rfl,e⟩
 |.inr x,v,h=>by
  obtain⟨t,e⟩:=Value.isStrOf_shape (x:=x) (v:=v) h;exact .inr ⟨x,t,rfl,e⟩
theorem Yc(a b:Int):decide ((Sum.inl a:Key)=Sum.inl b)=(a == b):=by
 by_cases e:a=b
 ·subst e;simp
 ·have h:¬(Sum.inl a:Key)=Sum.inl b:=λq=>e (Sum.inl.inj q)
  rw[decide_eq_false h];exact(beq_eq_false_iff_ne.mpr e).symm
theorem Yd(a b:Str):decide ((Sum.inr a:Key)=Sum.inr b)=decide (a=b):=by
 by_cases e:a=b
 ·subst e;simp
 ·have h:¬(Sum.inr a:Key)=Sum.inr b:=λq=>e (Sum.inr.inj q)
  rw[decide_eq_false h,decide_eq_false e]
theorem Ye(a:Int)(b:Str):decide ((Sum.inl a:Key)=Sum.inr b)=false:=decide_eq_false (λq=>nomatch q)
theorem Yf(a:Str)(b:Int):decide ((Sum.inr a:Key)=Sum.inl b)=false:=decide_eq_false (λq=>nomatch q)
def HN(prog:Program)(w:World):PySem.KeyKind prog w Key where
 is:=vi
 hash:=JR w
 inj:=λv a b ha hb=>by
  rcases sR ha with⟨i,t,rfl,rfl⟩|⟨x,t,rfl,rfl⟩
  ·rcases sR hb with⟨j,u,rfl,e⟩|⟨y,u,rfl,e⟩
   ·injection e with e1 _;rw[e1]
   ·exact nomatch e
  ·rcases sR hb with⟨j,u,rfl,e⟩|⟨y,u,rfl,e⟩
   ·exact nomatch e
   ·injection e with e1 _;rw[e1]
 byValue:=λk v h=>by
  rcases sR h with⟨i,t,rfl,rfl⟩|⟨x,t,rfl,rfl⟩ <;> rfl
 pyHash:=λhv h=>by
  rcases sR hv with⟨i,t,rfl,rfl⟩|⟨x,t,rfl,rfl⟩
  ·exact wpAny_pyHash_int h
  ·exact wpAny_pyHash_str h
 eqBool:=λhu hv h=>by
  rcases sR hu with⟨i,t,rfl,rfl⟩|⟨x,t,rfl,rfl⟩
  ·rcases sR hv with⟨j,u,rfl,rfl⟩|⟨y,u,rfl,rfl⟩
   ·rw[Yc] at h;exact wpAny_eqBool_int h
   ·rw[Ye] at h;exact SeqAt.EqAt.int_str i t y u _ _ _ _ h
  ·rcases sR hv with⟨j,u,rfl,rfl⟩|⟨y,u,rfl,rfl⟩
   ·rw[Yf] at h;exact SeqAt.EqAt.str_int x t j u _ _ _ _ h
   ·rw[Yd] at h;exact wpAny_eqBool_str h
 «strs»:=λk x t v h=>by
  rcases sR h with⟨i,u,rfl,e⟩|⟨y,u,rfl,e⟩
  ·exact nomatch e
  ·injection e with e1 _;subst e1;cases v <;> rfl
end L2
namespace L2
open PySem PySem.Spec PyProof.Rows
inductive V where
 |az|bl (b:Bool)|int (i:Int)|str (x:Str)|uS (b:Array UInt8)|uX (b:UInt64)|ref (a:Addr)|ty (n:String)
 deriving DecidableEq
def RelV:V->Value->Prop
 |.az,u=>u=Value.none
 |.bl b,u=>u=Value.bool b
 |.int i,u=>∃t,u=Value.int i t
 |.str x,u=>∃t,u=Value.str x t
 |.uS b,u=>∃t,u=Value.bytes b t
 |.uX b,u=>∃t,u=Value.float b t
 |.ref a,u=>u=Value.ref a
 |.ty n,u=>u=Value.type n
abbrev Vals:List V->List Value->Prop:=Paired RelV
theorem Vals.length{xs:List V}{us:List Value}(r:Vals xs us):xs.length=us.length:=Paired.length r
theorem Vals.get:∀{xs:List V} {us:List Value} {i:Nat} {x:V},Vals xs us->xs[i]?=some x->∃u,us[i]?=some u/\RelV x u
 |_,_,_,_,.nil,e=>by simp at e
 |_,_,0,_,.cons r _,e=>by simp at e;subst e;exact⟨_,rfl,r⟩
 |_,_,i+1,x,.cons _ t,e=>by
  obtain⟨u,h1,h2⟩:=Vals.get (i:=i) (x:=x) t (by simpa using e)
  exact⟨u,by simpa using h1,h2⟩
theorem Vals.set{x:V}{u:Value}(r:RelV x u):∀{xs:List V} {us:List Value} (i:Nat),Vals xs us->Vals (xs.set i x) (us.set i u)
 |_,_,_,.nil=>.nil
 |_,_,0,.cons _ t=>.cons r t
 |_,_,i+1,.cons q t=>.cons q (Vals.set r i t)
theorem Vals.append{xs ys:List V}{us ws:List Value}(h:Vals xs us)(s:Vals ys ws):Vals (xs++ys) (us++ws):=by
 induction h with
 |nil=>exact s
 |cons r t ih=>exact .cons r ih
theorem Vals.take:∀{xs:List V} {us:List Value} (n:Nat),Vals xs us->Vals (xs.take n) (us.take n)
 |_,_,0,_=>.nil
 |_,_,_+1,.nil=>.nil
 |_,_,n+1,.cons r t=>.cons r (Vals.take n t)
theorem Vals.drop:∀{xs:List V} {us:List Value} (n:Nat),Vals xs us->Vals (xs.drop n) (us.drop n)
 |_,_,0,r=>r
 |_,_,_+1,.nil=>.nil
 |_,_,n+1,.cons _ t=>Vals.drop n t
def jF:Option V->Option Value->Prop
 |some v,some u=>RelV v u
 |none,none=>True
 |_,_=>False
def KV{κ:Type}:List (κ×V)->List (κ×Value)->Prop:=Paired λ(p:κ×V) (q:κ×Value)=>p.1=q.1/\RelV p.2 q.2
def kV:Key->V
 |.inl i=>.int i
 |.inr x=>.str x
inductive TK where
 |inl (i:Int)|inr (x:Str)|tp (l:List TK)|az
mutual
def TK.beq:TK->TK->Bool
 |.inl a,.inl b=>decide (a=b)
 |.inr a,.inr b=>decide (a=b)
 |.tp l,.tp m=>TK.oi l m
 |.az,.az=>true
 |_,_=>false
def TK.oi:List TK->List TK->Bool
 |[],[]=>true
 |a::l,b::m=>TK.beq a b && TK.oi l m
 |_,_=>false
end
mutual
theorem TK.beq_iff:∀a b:TK,TK.beq a b=true↔a=b
 |.inl a,.inl b=>by unfold TK.beq;rw[decide_eq_true_eq];exact⟨λe=>by rw[e],λe=>by cases e;rfl⟩
 |.inr a,.inr b=>by unfold TK.beq;rw[decide_eq_true_eq];exact⟨λe=>by rw[e],λe=>by cases e;rfl⟩
 |.tp l,.tp m=>by unfold TK.beq;rw[TK.ny l m];exact⟨λe=>by rw[e],λe=>by cases e;rfl⟩
 |.inl _,.inr _=>by unfold TK.beq;exact⟨λe=>(nomatch e),λe=>(nomatch e)⟩
 |.inl _,.tp _=>by unfold TK.beq;exact⟨λe=>(nomatch e),λe=>(nomatch e)⟩
 |.inr _,.inl _=>by unfold TK.beq;exact⟨λe=>(nomatch e),λe=>(nomatch e)⟩
 |.inr _,.tp _=>by unfold TK.beq;exact⟨λe=>(nomatch e),λe=>(nomatch e)⟩
 |.tp _,.inl _=>by unfold TK.beq;exact⟨λe=>(nomatch e),λe=>(nomatch e)⟩
 |.tp _,.inr _=>by unfold TK.beq;exact⟨λe=>(nomatch e),λe=>(nomatch e)⟩
 |.az,.az=>by unfold TK.beq;exact⟨λ_=>rfl,λ_=>rfl⟩
 |.az,.inl _=>by unfold TK.beq;exact⟨λe=>(nomatch e),λe=>(nomatch e)⟩
 |.az,.inr _=>by unfold TK.beq;exact⟨λe=>(nomatch e),λe=>(nomatch e)⟩
 |.az,.tp _=>by unfold TK.beq;exact⟨λe=>(nomatch e),λe=>(nomatch e)⟩
 |.inl _,.az=>by unfold TK.beq;exact⟨λe=>(nomatch e),λe=>(nomatch e)⟩
 |.inr _,.az=>by unfold TK.beq;exact⟨λe=>(nomatch e),λe=>(nomatch e)⟩
 |.tp _,.az=>by unfold TK.beq;exact⟨λe=>(nomatch e),λe=>(nomatch e)⟩
theorem TK.ny:∀l m:List TK,TK.oi l m=true↔l=m
 |[],[]=>by unfold TK.oi;exact⟨λ_=>rfl,λ_=>rfl⟩
 |a::l,b::m=>by unfold TK.oi;rw[m6,TK.beq_iff a b,TK.ny l m];exact⟨λe=>by rw[e.1,e.2],λe=>by cases e;exact⟨rfl,rfl⟩⟩
 |[],_::_=>by unfold TK.oi;exact⟨λe=>(nomatch e),λe=>(nomatch e)⟩
 |_::_,[]=>by unfold TK.oi;exact⟨λe=>(nomatch e),λe=>(nomatch e)⟩
end
instance:DecidableEq TK:=λa b=>decidable_of_iff _ (TK.beq_iff a b)
mutual
def TK.hash(w:World):TK->Int
 |.inl i=>hashInt i
 |.inr x=>hashStr w x
 |.tp l=>reduceHash (Builtin.Tuple.tupleHashOf (TK.fY w l))
 |.az=>4238894112
def TK.fY(w:World):List TK->List Int
 |[]=>[]
 |a::l=>TK.hash w a::TK.fY w l
end
def TK.ok:Nat->TK->Bool
 |n+1,.tp l=>l.all (TK.ok n)
 |0,.tp _=>false
 |_,_=>true
def jT(w:World)(e:TK×V×V)(x:DictEntry):Prop:=x.hash=e.1.hash w/\RelV e.2.1 x.key/\RelV e.2.2 x.val/\e.1.ok 8=true
inductive HO where
  |lst (xs:List V)
  |tup (xs:List V)
  |dK (kvs:List (Key×V))|dT (kvs:List (List Key×V))
  |dG (es:List (TK×V×V)) (ep:Nat)
  |set (S:Int->Bool) (n:Nat)
  |ins (C dx:Addr) (fs:List (Str×V))
  |own (x:Addr)
  |xd (fs:List (Str×V))
  |met (f x:Addr)
  |Kl (lo hi:Int)
  |Y (o:Obj) (u:HO)
  |x9 (ps:Array Value)
  |ext (φ:Heap->Prop)
abbrev Hp:=Addr->Option HO
noncomputable def upd(H:Hp)(a:Addr)(o:HO):Hp:=λb=>if b=a then some o else H b
theorem aL{H:Hp}{a:Addr}{o:HO}:upd H a o a=some o:=by unfold upd;rw[if_pos rfl]
theorem eX{H:Hp}{a b:Addr}{o:HO}(h:b≠a):upd H a o b=H b:=by unfold upd;rw[if_neg h]
theorem Wf{H:Hp}{a:Addr}{o u:HO}:upd (upd H a o) a u=upd H a u:=by
 funext b;unfold upd;split <;> rfl
theorem qG{H:Hp}{a b:Addr}{o:HO}(h:H a=some o)(h':H b=none):a≠b:=by
 intro e;subst e;rw[h] at h';cases h'
section
variable (P:Program) (w:World)
def bx(H:Hp)(h:Heap)(a:Addr):HO->Prop
 |.lst xs=>xs.length<=sizeLine/\∃(aG:List Value) (n:Nat),Vals xs aG/\h.get? a=some { cls:=.type "list",data:=.seq aG.toArray n}
 |.tup xs=>xs.length<=sizeLine/\∃aG:List Value,Vals xs aG/\IsTup h a aG.toArray
 |.dK kvs=>kvs.length<=sizeLine/\(a == sysModules)=false/\∃vs,KV kvs vs/\h.DictOf (HN P w) a vs
 |.dT kvs=>kvs.length<=sizeLine/\(a == sysModules)=false/\∃xs:List (List Key×Addr×Value),
   Paired (λ(p:List Key×V) (q:List Key×Addr×Value)=>p.1=q.1/\H q.2.1=some (.tup (p.1.map kV))/\RelV p.2 q.2.2) kvs xs/\
   ∃o es ep,h.get? a=some o/\o.ExactDict/\o.data=.dict es ep/\es.toList=xs.map (entryOfKey (tupleKind (HN P w)))/\(xs.map (·.1)).Nodup
 |.dG es ep=>es.length<=sizeLine/\(a == sysModules)=false/\∃o xs,h.get? a=some o/\o.ExactDict/\o.data=.dict xs ep/\Paired (jT w) es xs.toList/\(es.map (·.1)).Nodup
 |.set S n=>h.SetOf (intKind P w) a S n
 |.ins C dx fs=>H dx=some (.own a)/\fs.length<=1000/\dx≠a/\h.get? a=some (PySem.W.instObj C dx)/\
   ∃mA,h.Ns1 dx mA/\(∀f,jF (fs.lookup f) (mA f))/\PySem.Within mA (fs.map (·.1))
 |.own _=>∃o,h.get? a=some o
 |.xd fs=>∃mA,h.Ns1 a mA/\∀f,jF (fs.lookup f) (mA f)
 |.Kl lo hi=>∃t u v,h.get? a=some { cls:=.type "range",data:=.fields #[.int lo t,.int hi u,.int 1 v]}
 |.Y o u=>h.get? a=some o/\bx H h a u
 |.x9 ps=>h.get? a=some { cls:=.none,data:=.fields ps}
 |.met f x=>h.get? a=some (PySem.W.methodObj (.ref f) (.ref x))
 |.ext φ=>φ h/\(∃o,h.get? a=some o)/\∀h1 h2:Heap,φ h1->(∀o,h1.get? a=some o->h2.get? a=some o)->φ h2
def jV(H:Hp)(h:Heap):Prop:=∀a o,H a=some o->bx P w H h a o
end
section
variable {P:Program} {w:World} {H H':Hp} {h h':Heap} {a:Addr} {o:HO}
theorem bx.lt(x:bx P w H h a o):a < h.objs.size:=by
 cases o with
 |lst xs=>obtain⟨_,_,_,_,e⟩:=x;exact eH e
 |tup xs=>obtain⟨_,_,_,p⟩:=x;exact p.lt
 |dK kvs=>obtain⟨_,_,_,_,o,_,_,e,_⟩:=x;exact eH e
 |dT kvs=>obtain⟨_,_,_,_,o,_,_,e,_⟩:=x;exact eH e
 |dG es ep=>obtain⟨_,_,o,_,e,_⟩:=x;exact eH e
 |set S n=>obtain⟨o,_,_,_,e,_⟩:=x;exact eH e
 |ins C dx fs=>obtain⟨_,_,_,e,_⟩:=x;exact eH e
 |own y=>obtain⟨_,e⟩:=x;exact eH e
 |xd fs=>obtain⟨_,⟨_,_,_,e,_⟩,_⟩:=x;exact eH e
 |Kl lo hi=>obtain⟨_,_,_,e⟩:=x;exact eH e
 |Y ob u=>obtain⟨e,_⟩:=x;exact eH e
 |x9 ps=>exact eH (show h.get? a=some _ from x)
 |met f y=>exact eH (show h.get? a=some _ from x)
 |ext φ=>obtain⟨_,⟨_,e⟩,_⟩:=x;exact eH e
theorem Paired.BG{α β:Type}{F G:α->β->Prop}{l₁:List α}{l₂:List β}(h:Paired F l₁ l₂)(f:∀a b,F a b->G a b):Paired G l₁ l₂:=by
 induction h with
 |nil=>exact .nil
 |cons r t ih=>exact .cons (f _ _ r) ih
theorem bx.mQ(x:bx P w H h a o)(k:∀b u,(b=a\/H b=some (.own a))->h.get? b=some u->h'.get? b=some u)
  (ho:∀b,H b=some (.own a)->H' b=some (.own a)) (ht:∀b xs,H b=some (.tup xs)->H' b=some (.tup xs)):bx P w H' h' a o:=by
 induction o with
 |lst xs=>obtain⟨z,aG,n,r,e⟩:=x;exact⟨z,aG,n,r,k _ _ (.inl rfl) e⟩
 |tup xs=>obtain⟨z,aG,r,ob,e,c⟩:=x;exact⟨z,aG,r,ob,k _ _ (.inl rfl) e,c⟩
 |dK kvs=>obtain⟨z,y,vs,r,ob,es,ep,e,c⟩:=x;exact⟨z,y,vs,r,ob,es,ep,k _ _ (.inl rfl) e,c⟩
 |dT kvs=>
  obtain⟨z,y,xs,r,ob,es,ep,e,c⟩:=x;exact⟨z,y,xs,Paired.BG r λp q z=>⟨z.1,ht _ _ z.2.1,z.2.2⟩,ob,es,ep,k _ _ (.inl rfl) e,c⟩
 |dG es ep=>obtain⟨z,y,ob,xs,e,c⟩:=x;exact⟨z,y,ob,xs,k _ _ (.inl rfl) e,c⟩
 |set S n=>obtain⟨ob,es,ep,t,e,c⟩:=x;exact⟨ob,es,ep,t,k _ _ (.inl rfl) e,c⟩
 |ins C dx fs=>
  obtain⟨d,z,ne,e,mA,⟨od,es,ep,e2,c⟩,r⟩:=x;exact⟨ho _ d,z,ne,k _ _ (.inl rfl) e,mA,⟨od,es,ep,k _ _ (.inr d) e2,c⟩,r⟩
 |own y=>obtain⟨ob,e⟩:=x;exact⟨ob,k _ _ (.inl rfl) e⟩
 |xd fs=>obtain⟨mA,⟨od,es,ep,e,c⟩,r⟩:=x;exact⟨mA,⟨od,es,ep,k _ _ (.inl rfl) e,c⟩,r⟩
 |Kl lo hi=>obtain⟨t,u,v,e⟩:=x;exact⟨t,u,v,k _ _ (.inl rfl) e⟩
 |Y ob u ih=>obtain⟨e,q⟩:=x;exact⟨k _ _ (.inl rfl) e,ih q⟩
 |x9 ps=>
  have e:h.get? a=some { cls:=.none,data:=.fields ps}:=x;show h'.get? a=some { cls:=.none,data:=.fields ps};exact k a _ (.inl rfl) e
 |met f y=>
  have e:h.get? a=some (PySem.W.methodObj (.ref f) (.ref y)):=x;show h'.get? a=some (PySem.W.methodObj (.ref f) (.ref y));exact k a _ (.inl rfl) e
 |ext φ=>obtain⟨p,⟨o,e⟩,st⟩:=x;exact⟨st _ _ p λo q=>k _ _ (.inl rfl) q,⟨o,k _ _ (.inl rfl) e⟩,st⟩
theorem jV.lt(x:jV P w H h)(e:H a=some o):a < h.objs.size:=(x a o e).lt
theorem jV.fresh(x:jV P w H h)(e:h.objs.size<=a):H a=none:=by
 cases q:H a with
 |none=>rfl
 |some u=>exact absurd (jk (x.lt q) e) (lX _)
theorem jV.kept(x:jV P w H h)(k:∀b u,h.get? b=some u->h'.get? b=some u):jV P w H h':=λa o e=>
 (x a o e).mQ (λb u _ q=>k b u q) (λ_ q=>q) λ_ _ q=>q
theorem jV.laid(x:jV P w H h)(k:∀b u,h.get? b=some u->h'.get? b=some u)(hp:h.objs.size<=a)(new:bx P w (upd H a o) h' a o):jV P w (upd H a o) h':=λb u e=>by
 have hn:=x.fresh hp;by_cases hb:b=a
 ·subst hb;rw[aL] at e;cases e;exact new
 ·rw[eX hb] at e;exact(x b u e).mQ (λc v _ q=>k c v q) (λc q=>by rw[eX (qG q hn)];exact q) λc xs q=>by rw[eX (qG q hn)];exact q
end
def Rd(H:Hp)(a:Addr)(u:HO):Prop:=H a=some u\/∃o,H a=some (.Y o u)
theorem Rd.ok{P:Program}{w:World}{H:Hp}{h:Heap}{a:Addr}{u:HO}(r:Rd H a u)(x:jV P w H h):bx P w H h a u:=by
 rcases r with r|⟨o,r⟩
 ·exact x a u r
 ·obtain⟨_,q⟩:=x a _ r;exact q
def zS:Option HO->Prop
 |some (.lst _)=>True
 |some (.dK _)=>True
 |some (.dT _)=>True
 |some (.dG _ _)=>True
 |some (.set _ _)=>True
 |some (.ins _ _ _)=>True
 |some (.ext _)=>True
 |_=>False
section
variable {P:Program} {w:World} {H:Hp} {h h':Heap} {x e:Addr} {o':HO}
theorem jV.write(ok:jV P w H h)(mu:zS (H x))(he:e=x\/H e=some (.own x))(k:∀b u,b≠e->h.get? b=some u->h'.get? b=some u)(zj:∃u,h'.get? e=some u)
  (new:bx P w (upd H x o') h' x o'):jV P w (upd H x o') h':=λb u q=>by
 have BP:∀c y,H c=some (.own y)->c≠x:=λc y r z=>by subst z;rw[r] at mu;exact mu
 have J3:∀c xs,H c=some (.tup xs)->c≠x:=λc xs r z=>by subst z;rw[r] at mu;exact mu
 by_cases hb:b=x
 ·subst hb;rw[aL] at q;cases q;exact new
 ·rw[eX hb] at q;by_cases wU:b=e
  ·have q':H b=some (.own x):=by
    rcases he with z|z
    ·exact absurd (wU.trans z) hb
    ·rw[wU];exact z
   rw[q] at q';cases q';obtain⟨v,hv⟩:=zj;exact⟨v,by rw[wU];exact hv⟩
  ·refine(ok b u q).mQ (λc v hc r=>k c v ?_ r) (λc r=>by rw[eX (BP c b r)];exact r) λc xs r=>by rw[eX (J3 c xs r)];exact r
   rcases hc with rfl|hc
   ·exact wU
   ·rintro rfl;rcases he with z|z
    ·exact BP c b hc z
    ·rw[hc] at z;cases z;exact hb rfl
end
structure Un (fs ex:List Addr) (H H':Hp) (h h':Heap):Prop where
 keep:∀b o,h.get? b=some o->H b=none->b∉fs->b∉ex->h'.get? b=some o
 slot:∀b o,h.get? b=some o->H b=none->b∈fs->b∉ex->∃sl,h'.get? b=some { o with slots:=sl}
 free:∀b o,h.get? b=some o->H b=none->b∉ex->H' b=none
 there:∀b o,h.get? b=some o->b∉ex->∃o',h'.get? b=some o'
 lV:∀b xs,H b=some (.tup xs)->H' b=some (.tup xs)
 k_:∀b o u,H b=some (.Y o u)->H' b=some (.Y o u)
 lU:∀b ps,H b=some (.x9 ps)->∃more,H' b=some (.x9 (ps++more))
section
variable {fs zf ex ex':List Addr} {H H1 H2:Hp} {h h1 h2 h':Heap} {a x e:Addr} {o:HO}
theorem Un.any(u:Un fs ex H H1 h h1){b:Addr}{ob:Obj}(q:h.get? b=some ob)(n:H b=none)(hx:b∉ex):∃sl,h1.get? b=some { ob with slots:=sl}:=by
 by_cases hb:b∈fs
 ·exact u.slot b ob q n hb hx
 ·exact⟨ob.slots,u.keep b ob q n hb hx⟩
theorem Un.kept(k:∀b u,h.get? b=some u->h'.get? b=some u):Un fs ex H H h h':=
 ⟨λb ob q _ _ _=>k b ob q,λb ob q _ _ _=>⟨ob.slots,k b ob q⟩,λ_ _ _ n _=>n,λb ob q _=>⟨ob,k b ob q⟩,λ_ _ q=>q,λ_ _ _ q=>q,λ_ ps q=>⟨#[],by rw[q];simp⟩⟩
theorem Un.refl:Un fs ex H H h h:=Un.kept λ_ _ q=>q
theorem Un.laid(k:∀b u,h.get? b=some u->h'.get? b=some u)(hp:h.objs.size<=a)(hn:H a=none):Un fs ex H (upd H a o) h h' where
 keep:=λb u q _ _ _=>k b u q
 slot:=λb u q _ _ _=>⟨u.slots,k b u q⟩
 free:=λb u q n _=>by rw[eX (jl (jk (eH q) hp))];exact n
 there:=λb u q _=>⟨u,k b u q⟩
 lV:=λb xs q=>by rw[eX (qG q hn)];exact q
 k_:=λb u xs q=>by rw[eX (qG q hn)];exact q
 lU:=λb ps q=>⟨#[],by rw[eX (qG q hn),q];simp⟩
theorem Un.write(mu:zS (H x))(he:e=x\/H e=some (.own x))(k:∀b u,b≠e->h.get? b=some u->h'.get? b=some u)(zj:∃u,h'.get? e=some u):Un fs ex H (upd H x o) h h':=by
 have hx:∀b,H b=none->b≠x:=λb n z=>by subst z;rw[n] at mu;exact mu
 have hb:∀b,H b=none->b≠e:=λb n z=>by
  subst z;rcases he with r|r
  ·exact hx b n r
  ·rw[n] at r;cases r
 have hm:∀b u,H b=some u->¬zS (some u)->b≠x:=λb u q nm z=>by subst z;rw[q] at mu;exact nm mu
 refine⟨λb u q n _ _=>k b u (hb b n) q,λb u q n _ _=>⟨u.slots,k b u (hb b n) q⟩,λb u q n _=>by rw[eX (hx b n)];exact n,λb u q _=>?_,
  λb xs q=>by rw[eX (hm b _ q λz=>z)];exact q,λb u xs q=>by rw[eX (hm b _ q λz=>z)];exact q,λb ps q=>⟨#[],by rw[eX (hm b _ q λz=>z),q];simp⟩⟩
 by_cases wU:b=e
 ·subst wU;exact zj
 ·exact⟨u,k b u wU q⟩
end
def EZ(h:Heap)(H:Hp):List Addr:=(List.range h.objs.size).filter λa=>(H a).isSome
def mE(h:Heap)(H:Hp):Heap:=PySem.W.hideAll h (EZ h H)
theorem S7(h:Heap)(H:Hp):(mE h H).objs.size=h.objs.size:=PySem.W.hideAll_size _ _
theorem UQ{h:Heap}{H:Hp}{b:Addr}{o:Obj}(e:h.get? b=some o)(n:H b=none):(mE h H).get? b=some o:=
 PySem.W.hideAll_get _ e λhm=>by
  have q:(H b).isSome=true:=(zC.mp hm).2;rw[n] at q;simp at q
theorem Wg{h:Heap}{H:Hp}{b:Addr}{o:Obj}(e:(mE h H).get? b=some o):h.get? b=some o/\H b=none:=by
 have e':h.get? b=some o:=PySem.W.of_hideAll (EZ h H) e;refine⟨e',?_⟩;cases q:H b with
 |none=>rfl
 |some x=>
  have hm:b∈EZ h H:=zC.mpr ⟨qu.mpr (eH e'),by simp[q]⟩
  have z:(mE h H).get? b=none:=PySem.W.hideAll_none (EZ h H) hm;rw[z] at e;cases e
def Wh(g h:Heap)(L:Addr):List (Addr×Obj):=(List.range h.objs.size).filterMap λa=>if a=L\/(g.get? a).isSome=true then none else(h.get? a).map λo=>(a,o)
def rest(g h:Heap)(L d:Addr):List (Addr×Obj):=(Wh g h L).filter λp=>decide (p.1≠d)
end L2
namespace L2
open PySem PySem.Spec PyProof.Rows
variable{g':Array GenState}{t' i:Nat}{d':Drawn}{ch:List Addr}{x:Str}{M:Model}{A:Around}{E:Value->Shared->Prop}{v:V}{u:Value}{Q:Unit->Shared->Prop}
structure Mod (K:PySem.W.Frag) (mg:Str->Option Value) (base:Heap):Prop where
 zw:K.In base
 glob:base.Ns mainGlobals mg
 blt:∃mb,base.Ns builtinsNs mb/\∀x:Str,x≠"__name__"->mb x=bootBuiltins x
 nolimit:base.NoLimit
set_option genInjectivity false in
structure Cx where
 prog:Program
 w:World
 K:PySem.W.Frag
 mg:Str->Option Value
 base:Heap
 A:Around
 N:List Str
 s₀:Shared
 H₀:Hp
 env:Env
 outer:List Env
 stack:List Env
 ex:List Addr
 fn:Str->Bool
 calm:Bool
 pn:List (Addr×Obj)
 xe:Value->Shared->Prop
def lP(l:List Env):List Addr:=l.filterMap (·.frame)
abbrev Cx.fs(X:Cx):List Addr:=lP X.outer
def CS(sc:Scope)(x:Str):Prop:=sc.names.lookup x=some .local \/ sc.names.lookup x=some .cell\/sc.names.lookup x=some .free
def Loc(sc:Scope)(x:Str):Prop:=sc.names.lookup x=some .local \/ sc.names.lookup x=some .cell
def Look(env:Env)(h:Heap)(m:Str->Option Value)(x:Str)(u:Value):Prop:=
 (env.kindOf x=some .local /\ m x=some u)\/((env.kindOf x=some .cell\/env.kindOf x=some .free)/\∃c,env.cells.lookup x=some c/\h.IsCell c (some u))
structure Cx.Ok (X:Cx):Prop where
 mod:Mod X.K X.mg X.base
 kind:X.env.scope.kind=.function
 glob:X.env.globals=mainGlobals
 blt:X.env.builtins=builtinsNs
 above:X.s₀.heap.objs.size<=X.env.locals
 inj:∀x y c,X.env.cells.lookup x=some c->X.env.cells.lookup y=some c->x=y
 has:∀x,(X.env.kindOf x=some .cell\/X.env.kindOf x=some .free)->∃c,X.env.cells.lookup x=some c
 Iw:∀x c,X.fn x=true->X.env.cells.lookup x=some c->X.s₀.heap.objs.size<=c
 hd:X.calm=true->X.A.handled=none
 frames:X.A.frames=some X.stack
 QF:X.stack=X.outer\/(X.stack=X.env::X.outer/\X.env.frame=some X.env.locals)
 exf:∀b∈X.ex,b≠X.env.locals/\∀x c,X.env.cells.lookup x=some c->c≠b
 bs:∀b o,X.base.get? b=some o->X.s₀.heap.get? b=some o/\X.H₀ b=none
 wH:X.base.objs.size<=X.s₀.heap.objs.size
 xt:∀b o,X.base.get? b=some o->b∉X.ex
 A2:∀b∈X.ex,b∉X.fs
 lQ:X.s₀.heap.FunFrames X.base X.outer
 A4:∀b∈X.fs,X.H₀ b=none
structure Inv (X:Cx) (ae:List (Addr×Obj)) (Z:List (Option V)) (H:Hp) (s:Shared):Prop where
 ok:X.Ok
 os:s.os=X.s₀.os
 bare:AllBare s.gens
 base:Un X.fs X.ex X.H₀ H X.s₀.heap s.heap
 loc:∃m,s.heap.Ns X.env.locals m/\∀(i:Nat) (x:Str) (v:V),X.N[i]?=some x->Z[i]?=some (some v)->CS X.env.scope x->∃u,RelV v u/\Look X.env s.heap m x u
 cell:∀x c,X.env.cells.lookup x=some c->∃v,s.heap.IsCell c v
 free:H X.env.locals=none
 jK:∀x c,X.env.cells.lookup x=some c->H c=none
 pin:∀p∈X.pn++ae,s.heap.get? p.1=some p.2/\H p.1=none/\p.1≠X.env.locals/\p.1∉X.fs/\∀v,p.2.data≠.cell v
 bF:jV X.prog X.w H s.heap
 len:Z.length=X.N.length
section
variable {X:Cx} {ae:List (Addr×Obj)} {Z:List (Option V)} {H H':Hp} {s:Shared} {h':Heap}
theorem Cx.Ok.J0(ok:X.Ok){b:Addr}{o:Obj}(e:X.base.get? b=some o):b∉X.fs:=λhb=>by
 have:=(ok.lQ.mem hb).1;rw[e] at this;cases this
theorem Inv.bs(I:Inv X ae Z H s):∀b o,X.base.get? b=some o->s.heap.get? b=some o/\H b=none:=λb o e=>
 ⟨I.base.keep b o (I.ok.bs b o e).1 (I.ok.bs b o e).2 (I.ok.J0 e) (I.ok.xt b o e),I.base.free b o (I.ok.bs b o e).1 (I.ok.bs b o e).2 (I.ok.xt b o e)⟩
theorem Inv.bk(I:Inv X ae Z H s):∀b o,X.base.get? b=some o->s.heap.get? b=some o:=λb o e=>(I.bs b o e).1
theorem Inv.mod(I:Inv X ae Z H s):Mod X.K X.mg X.base:=I.ok.mod
theorem Inv.lu(I:Inv X ae Z H s):X.K.In s.heap:=I.ok.mod.zw.keeps I.bk
theorem Inv.lt(I:Inv X ae Z H s):X.env.locals < s.heap.objs.size:=let ⟨_,hn,_⟩:=I.loc;hn.lt
theorem Inv.sz(I:Inv X ae Z H s):X.s₀.heap.objs.size<=s.heap.objs.size:=lC I.ok.above (K4 I.lt)
theorem Inv.xw(I:Inv X ae Z H s){a:Addr}(h:s.heap.objs.size<=a):a∉X.fs:=λhb=>by
 obtain⟨_,o,ho,_⟩:=I.ok.lQ.mem hb;exact absurd (jk (eH ho) (lC I.sz h)) (lX _)
theorem Inv.wJ(I:Inv X ae Z H s):∀x c,X.env.cells.lookup x=some c->c≠X.env.locals:=λx c e z=>by
 obtain⟨v,o,ho,hd⟩:=I.cell x c e;obtain⟨m,⟨o',es,ep,tJ,Jr,_⟩,_⟩:=I.loc;rw[z,tJ] at ho;cases ho;rw[Jr] at hd;cases hd
theorem Inv.lQ(I:Inv X ae Z H s):s.heap.FunFrames X.base X.outer:=by
 have all:∀(l:List Env),(∀b∈lP l,b∈X.fs)->X.s₀.heap.FunFrames X.base l->s.heap.FunFrames X.base l:=by
  intro l
  induction l with
  |nil=>intro _ _;trivial
  |cons env r ih=>
   intro hs hl;obtain⟨hk,⟨L,o,hf,hn,ho,hd⟩,hr⟩:=hl;have hL:L∈X.fs:=hs L (by unfold lP;rw[vH,hf];exact qa)
   obtain⟨sl,e⟩:=I.base.slot L o ho (I.ok.A4 L hL) hL λz=>I.ok.A2 L z hL
   exact⟨hk,⟨L,_,hf,hn,e,hd⟩,ih (λb hb=>hs b (by unfold lP;rw[vH,hf];exact oI _ hb)) hr⟩
 exact all X.outer (λ_ hb=>hb) I.ok.lQ
theorem Inv.stack(I:Inv X ae Z H s):s.heap.FunFrames X.base X.stack:=by
 rcases I.ok.QF with e|⟨e,hf⟩
 ·rw[e];exact I.lQ
 ·rw[e];obtain⟨m,hn,_⟩:=I.loc;refine .cons (by rw[I.ok.kind];decide) hf hn ?_ I.lQ
  exact Heap.get?_none_of_le (lC I.ok.wH I.ok.above)
theorem Inv.lA(I:Inv X ae Z H s):∀b∈lP X.stack,b∈X.env.locals::X.fs:=λb hb=>by
 rcases I.ok.QF with e|⟨e,hf⟩
 ·rw[e] at hb;exact oI _ hb
 ·rw[e] at hb;unfold lP at hb;rw[vH,hf] at hb;exact hb
theorem Inv.mR(I:Inv X ae Z H s):∀b∈lP X.stack,H b=none:=λb hb=>by
 rcases fV.mp (I.lA b hb) with e|hb
 ·rw[e];exact I.free
 ·obtain⟨_,o,ho,_⟩:=I.ok.lQ.mem hb;exact I.base.free b o ho (I.ok.A4 b hb) λz=>I.ok.A2 b z hb
theorem Inv.step(I:Inv X ae Z H s)
  (ox:∀b∈ch,(b∈X.ex\/X.s₀.heap.objs.size<=b)/\b≠X.env.locals/\(∀x c,X.env.cells.lookup x=some c->c≠b)/\∀p∈X.pn++ae,p.1≠b)
  (keep:∀b o,b≠X.env.locals->b∉X.fs->b∉ch->s.heap.get? b=some o->H b=none->h'.get? b=some o)
  (slot:∀b o,b≠X.env.locals->b∈X.fs->b∉ch->s.heap.get? b=some o->H b=none->∃sl,h'.get? b=some { o with slots:=sl}) (free:∀b o,b∉ch->s.heap.get? b=some o->H b=none->H' b=none)
  (there:∀b o,b∉ch->s.heap.get? b=some o->∃o',h'.get? b=some o')
  (lV:∀b xs,H b=some (.tup xs)->H' b=some (.tup xs)) (k_:∀b o u,H b=some (.Y o u)->H' b=some (.Y o u)) (lU:∀b ps,H b=some (.x9 ps)->∃more,H' b=some (.x9 (ps++more)))
  (ns:∀m,s.heap.Ns X.env.locals m->h'.Ns X.env.locals m) (bF:jV X.prog X.w H' h') (hg:AllBare g') :
  Inv X ae Z H' { s with heap:=h',gens:=g',drawn:=d',toks:=t'}:=by
 have Qt:∀b o,X.s₀.heap.get? b=some o->b≠X.env.locals:=λb o e=>jl (jk (eH e) I.ok.above)
 have EN:∀b o,X.s₀.heap.get? b=some o->b∉X.ex->b∉ch:=λb o e hx hb=>by
  rcases(ox b hb).1 with z|z
  ·exact hx z
  ·exact absurd (jk (eH e) z) (lX _)
 have cellK:∀x c,X.env.cells.lookup x=some c->∀v,s.heap.IsCell c v->h'.IsCell c v:=λx c e v ⟨o,ho,hd⟩=>by
  have tV:c∉ch:=λz=>(ox c z).2.2.1 x c e rfl
  by_cases hc:c∈X.fs
  ·obtain⟨sl,q⟩:=slot c o (I.wJ x c e) hc tV ho (I.jK x c e);exact⟨_,q,hd⟩
  ·exact⟨o,keep c o (I.wJ x c e) hc tV ho (I.jK x c e),hd⟩
 refine⟨I.ok,I.os,hg,⟨λb o e n hb hx=>?_,λb o e n hb hx=>?_,λb o e n hx=>?_,λb o e hx=>?_,λb xs e=>lV b xs (I.base.lV b xs e),λb o xs e=>k_ b o xs (I.base.k_ b o xs e),λb ps e=>?_⟩,?_,λx c e=>?_,?_,λx c e=>?_,λp hp=>?_,bF,I.len⟩
 ·exact keep b o (Qt b o e) hb (EN b o e hx) (I.base.keep b o e n hb hx) (I.base.free b o e n hx)
 ·obtain⟨sl,e1⟩:=I.base.slot b o e n hb hx;obtain⟨zA,e2⟩:=slot b _ (Qt b o e) hb (EN b o e hx) e1 (I.base.free b o e n hx);exact⟨zA,e2⟩
 ·obtain⟨o',e1⟩:=I.base.there b o e hx;exact free b o' (EN b o e hx) e1 (I.base.free b o e n hx)
 ·obtain⟨o',e1⟩:=I.base.there b o e hx;exact there b o' (EN b o e hx) e1
 ·obtain⟨m1,e1⟩:=I.base.lU b ps e;obtain⟨m2,e2⟩:=lU b _ e1;exact⟨m1++m2,by rw[e2,Array.append_assoc]⟩
 ·obtain⟨m,hn,hl⟩:=I.loc;refine⟨m,ns m hn,λi x v e1 e2 e3=>?_⟩
  obtain⟨u,r,l⟩:=hl i x v e1 e2 e3;refine⟨u,r,?_⟩;rcases l with l|⟨k,c,e,z⟩
  ·exact .inl l
  ·exact .inr ⟨k,c,e,cellK x c e _ z⟩
 ·obtain⟨v,z⟩:=I.cell x c e;exact⟨v,cellK x c e v z⟩
 ·obtain⟨m,⟨o,_,_,ho,_⟩,_⟩:=I.loc;exact free _ o (λz=>(ox _ z).2.1 rfl) ho I.free
 ·obtain⟨v,o,ho,hd⟩:=I.cell x c e;exact free c o (λz=>(ox c z).2.2.1 x c e rfl) ho (I.jK x c e)
 ·obtain⟨e,n,ne,nf,d⟩:=I.pin p hp;have tV:p.1∉ch:=λz=>(ox p.1 z).2.2.2 p hp rfl
  exact⟨keep p.1 p.2 ne nf tV e n,free p.1 p.2 tV e n,ne,nf,d⟩
theorem Inv.un(I:Inv X ae Z H s)(u:Un X.fs [] H H' s.heap h')(bF:jV X.prog X.w H' h'):Inv X ae Z H' { s with heap:=h',toks:=t'}:=by
 obtain⟨m,⟨o,es,ep,ho,r⟩,_⟩:=id I.loc;obtain⟨sl,hL⟩:=u.any ho I.free (by simp)
 exact I.step (g':=s.gens) (d':=s.drawn) (ch:=[]) (λ_ z=>nomatch z) (λb o _ hb _ e n=>u.keep b o e n hb (by simp)) (λb o _ hb _ e n=>u.slot b o e n hb (by simp)) (λb o _ e n=>u.free b o e n (by simp)) (λb o _ e=>u.there b o e (by simp)) u.lV u.k_ u.lU (λm' hm=>by
  obtain⟨o',tq,oo,tJ,r'⟩:=hm;rw[ho] at tJ;cases tJ;exact⟨_,tq,oo,hL,r'⟩) bF I.bare
theorem Inv.call(I:Inv X ae Z H s)(u:Un (lP X.stack) ch H H' s.heap h')(bF:jV X.prog X.w H' h')(hg:AllBare g')
  (ox:∀b∈ch,(b∈X.ex\/X.s₀.heap.objs.size<=b)/\b≠X.env.locals/\(∀x c,X.env.cells.lookup x=some c->c≠b)/\∀p∈X.pn++ae,p.1≠b) :
  Inv X ae Z H' { s with heap:=h',gens:=g',drawn:=d',toks:=t'}:=by
 obtain⟨m,⟨o,es,ep,ho,r⟩,_⟩:=id I.loc;obtain⟨sl,hL⟩:=u.any ho I.free λz=>(ox _ z).2.1 rfl
 exact I.step (ch:=ch) ox (λb o hL hb hc e n=>u.keep b o e n (λz=>(fV.mp (I.lA b z)).elim hL hb) hc) (λb o _ _ hc e n=>u.any e n hc) (λb o hc e n=>u.free b o e n hc) (λb o hc e=>u.there b o e hc) u.lV u.k_ u.lU (λm' hm=>by
  obtain⟨o',tq,oo,tJ,r'⟩:=hm;rw[ho] at tJ;cases tJ;exact⟨_,tq,oo,hL,r'⟩) bF hg
theorem Inv.turned{it:Addr}(I:Inv X ae Z H s)(k:∀b o,b≠it->s.heap.get? b=some o->h'.get? b=some o)(hn:H it=none)(hL:it≠X.env.locals)
  (h1:it∈X.ex\/X.s₀.heap.objs.size<=it) (h2:∀x c,X.env.cells.lookup x=some c->c≠it) (h3:∀p∈X.pn++ae,p.1≠it):Inv X ae Z H { s with heap:=h',toks:=t'}:=by
 have Qv:∀b u,H b=some u->b≠it:=λb u e z=>by rw[z,hn] at e;cases e
 refine I.step (g':=s.gens) (d':=s.drawn) (ch:=[it]) (λb hb=>?_) (λb o _ _ hc e _=>k b o (λz=>hc (by simp[z])) e) (λb o _ _ hc e _=>⟨o.slots,k b o (λz=>hc (by simp[z])) e⟩) (λ_ _ _ _ n=>n)
  (λb o hc e=>⟨o,k b o (λz=>hc (by simp[z])) e⟩) (λ_ _ e=>e) (λ_ _ _ e=>e) (λb ps e=>⟨#[],by rw[e];simp⟩) (λm hm=>?_) (λb u e=>?_) I.bare
 ·have e:b=it:=by simpa using hb
  subst e;exact⟨h1,hL,h2,h3⟩
 ·obtain⟨o,es,ep,ho,r⟩:=hm;exact⟨o,es,ep,k _ o (Ne.symm hL) ho,r⟩
 ·refine(I.bF b u e).mQ (λc v hc q=>k c v ?_ q) (λ_ q=>q) λ_ _ q=>q
  rcases hc with z|z
  ·rw[z];exact Qv b u e
  ·exact Qv c _ z
theorem Inv.tok(I:Inv X ae Z H s)(t:Nat):Inv X ae Z H { s with toks:=t}:=I.un (h':=s.heap) (t':=t) Un.refl I.bF
theorem Inv.kept{t':Nat}(I:Inv X ae Z H s)(k:∀b u,s.heap.get? b=some u->h'.get? b=some u):Inv X ae Z H { s with heap:=h',toks:=t'}:=I.un (Un.kept k) (I.bF.kept k)
theorem Inv.laid{a:Addr}{o:HO}{t':Nat}(I:Inv X ae Z H s)(k:∀b u,s.heap.get? b=some u->h'.get? b=some u)(hp:s.heap.objs.size<=a)(new:bx X.prog X.w (upd H a o) h' a o):
  Inv X ae Z (upd H a o) { s with heap:=h',toks:=t'}:=I.un (Un.laid k hp (I.bF.fresh hp)) (I.bF.laid k hp new)
theorem Inv.write{x e:Addr}{o:HO}{t':Nat}(I:Inv X ae Z H s)(mu:zS (H x))(he:e=x\/H e=some (.own x))(k:∀b u,b≠e->s.heap.get? b=some u->h'.get? b=some u)(zj:∃u,h'.get? e=some u)
  (new:bx X.prog X.w (upd H x o) h' x o):Inv X ae Z (upd H x o) { s with heap:=h',toks:=t'}:=I.un (Un.write mu he k zj) (I.bF.write mu he k zj new)
theorem Inv.kG{rF:List (Addr×Obj)}(I:Inv X ae Z H s)(h:∀p∈rF,s.heap.get? p.1=some p.2/\H p.1=none/\p.1≠X.env.locals/\p.1∉X.fs/\∀v,p.2.data≠.cell v):Inv X rF Z H s:=
 ⟨I.ok,I.os,I.bare,I.base,I.loc,I.cell,I.free,I.jK,λp hp=>(pj.mp hp).elim (λz=>I.pin p (E_ _ z)) (h p),I.bF,I.len⟩
theorem M7{N:List Str}(hN:N.Nodup){j:Nat}(a:N[i]?=some x)(b:N[j]?=some x):i=j:=by
 obtain⟨h1,e1⟩:=jQ.mp a;obtain⟨h2,e2⟩:=jQ.mp b;exact(Cu hN).mp (e1.trans e2.symm)
theorem Ms(I:Inv X ae Z H s)(hN:X.N.Nodup)(hi:X.N[i]?=some x)(hx:Loc X.env.scope x)(r:RelV v u)
  (h:∀s',Inv X ae (Z.set i (some v)) H s'->(∃a,Heap.SameBut a s.heap s'.heap/\(a=X.env.locals\/X.env.cells.lookup x=some a))->Q () s') (hf:X.fn x=true\/X.env.scope.names.lookup x=some .local := by first|exact .inl rfl|exact .inr rfl|assumption):wpAny M A (storeName X.env x u) Q E s:=by
 obtain⟨m,hn,hl⟩:=id I.loc;have Jq:(X.env.scope.kind == .class || (X.env.scope.kind == .module && X.env.locals != X.env.globals))=false:=by rw[I.ok.kind];rfl
 have Qa:i < Z.length:=by rw[I.len];exact(jQ.mp hi).1
 have wJ:=I.wJ;have tracked:∀{a:Addr} {h':Heap},(∃o,s.heap.get? a=some o/\H a=none)->Heap.SameBut a s.heap h'->jV X.prog X.w H h':=λ{a h'} ha hs b ob e=>by
  obtain⟨_,_,u0⟩:=ha;refine(I.bF b ob e).mQ (λc w' hc q=>(hs.2 c ?_).trans q) (λ_ q=>q) λ_ _ q=>q
  rintro rfl;rcases hc with rfl|hc
  ·rw[u0] at e;cases e
  ·rw[u0] at hc;cases hc
 rcases hx with hk|hk
 ·refine wpAny_storeName_local hk hn (λh' hn' hs=>?_) Jq
  obtain⟨oL,_,_,EI,_⟩:=id hn;refine h _ ⟨I.ok,I.os,I.bare,⟨λb o e n hb hx=>?_,λb o e n hb hx=>?_,I.base.free,λb o e hx=>?_,I.base.lV,I.base.k_,I.base.lU⟩,⟨_,hn',λj y v' e1 e2 e3=>?_⟩,λy c e=>?_,I.free,I.jK,λp hp=>?_,tracked ⟨oL,EI,I.free⟩ hs,by simpa using I.len⟩ ⟨_,hs,.inl rfl⟩
  ·exact(hs.2 b (jl (jk (eH e) I.ok.above))).trans (I.base.keep b o e n hb hx)
  ·obtain⟨sl,e1⟩:=I.base.slot b o e n hb hx;exact⟨sl,(hs.2 b (jl (jk (eH e) I.ok.above))).trans e1⟩
  ·obtain⟨o',e1⟩:=I.base.there b o e hx;exact⟨o',(hs.2 b (jl (jk (eH e) I.ok.above))).trans e1⟩
  ·by_cases hj:j=i
   ·subst hj;rw[hi] at e1;cases e1;rw[zD Qa] at e2;cases e2;exact⟨u,r,.inl ⟨hk,by simp⟩⟩
   ·rw[K5 (Ne.symm hj)] at e2;obtain⟨u',r',q⟩:=hl j y v' e1 e2 e3;refine⟨u',r',?_⟩;rcases q with⟨k,e⟩|⟨k,c,e,z⟩
    ·refine .inl ⟨k,?_⟩;have:y≠x:=λe=>hj (M7 hN e1 (e ▸ hi))
     simp[this,e]
    ·exact .inr ⟨k,c,e,z.sameBut hs (wJ y c e)⟩
  ·obtain⟨w',z⟩:=I.cell y c e;exact⟨w',z.sameBut hs (wJ y c e)⟩
  ·obtain⟨e,n,ne,nf,d⟩:=I.pin p hp;exact⟨(hs.2 p.1 ne).trans e,n,ne,nf,d⟩
 ·have Jv:X.fn x=true:=by
   rcases hf with z|z
   ·exact z
   ·rw[z] at hk;cases hk
  obtain⟨c,hc⟩:=I.ok.has x (.inl hk);obtain⟨w',z⟩:=I.cell x c hc;refine wpAny_storeName_cell I.ok.kind hk hc z (λh' lR hs=>?_)
  obtain⟨oc,Qi,JG⟩:=id z;refine h { s with heap:=h'} ⟨I.ok,I.os,I.bare,⟨λb o e n hb hx=>?_,λb o e n hb hx=>?_,I.base.free,λb o e hx=>?_,I.base.lV,I.base.k_,I.base.lU⟩,⟨m,hn.sameBut hs (Ne.symm (wJ x c hc)),λj y v' e1 e2 e3=>?_⟩,λy c' e=>?_,I.free,I.jK,λp hp=>?_,tracked ⟨oc,Qi,I.jK x c hc⟩ hs,by simpa using I.len⟩ ⟨c,hs,.inr hc⟩
  ·exact(hs.2 b (jl (jk (eH e) (I.ok.Iw x c Jv hc)))).trans (I.base.keep b o e n hb hx)
  ·obtain⟨sl,e1⟩:=I.base.slot b o e n hb hx;exact⟨sl,(hs.2 b (jl (jk (eH e) (I.ok.Iw x c Jv hc)))).trans e1⟩
  ·obtain⟨o',e1⟩:=I.base.there b o e hx;exact⟨o',(hs.2 b (jl (jk (eH e) (I.ok.Iw x c Jv hc)))).trans e1⟩
  ·by_cases hj:j=i
   ·subst hj;rw[hi] at e1;cases e1;rw[zD Qa] at e2;cases e2;exact⟨u,r,.inr ⟨.inl hk,c,hc,lR⟩⟩
   ·rw[K5 (Ne.symm hj)] at e2;obtain⟨u',r',q⟩:=hl j y v' e1 e2 e3;refine⟨u',r',?_⟩;rcases q with q|⟨k,c',e,z'⟩
    ·exact .inl q
    ·refine .inr ⟨k,c',e,z'.sameBut hs ?_⟩;rintro rfl;exact hj (M7 hN e1 (I.ok.inj _ _ _ e hc ▸ hi))
  ·by_cases EC:c'=c
   ·subst EC;exact⟨_,lR⟩
   ·obtain⟨w2,z2⟩:=I.cell y c' e;exact⟨w2,z2.sameBut hs EC⟩
  ·obtain⟨e,n,ne,nf,d⟩:=I.pin p hp;refine⟨(hs.2 p.1 ?_).trans e,n,ne,nf,d⟩;intro q;rw[q,Qi] at e;have q':oc=p.2:=Option.some.inj e;exact d w' (by rw[<-q'];exact JG)
theorem M8(I:Inv X ae Z H s)(hN:X.N.Nodup)(hi:X.N[i]?=some x)(hx:Loc X.env.scope x)(r:RelV v u)
  (h:∀s',Inv X ae (Z.set i (some v)) H s'->Q () s') (hf:X.fn x=true\/X.env.scope.names.lookup x=some .local := by first|exact .inl rfl|exact .inr rfl|assumption):wpAny M A (storeName X.env x u) Q E s:=
 Ms I hN hi hx r (λs' I' _=>h s' I') hf
theorem Inv.uT{s':Shared}(I:Inv X ae Z H s)(ho:s'.os=s.os)(u:Un (lP X.stack) ch H H' s.heap s'.heap)(bF:jV X.prog X.w H' s'.heap)(hg:AllBare s'.gens)
  (ox:∀b∈ch,(b∈X.ex\/X.s₀.heap.objs.size<=b)/\b≠X.env.locals/\(∀x c,X.env.cells.lookup x=some c->c≠b)/\∀p∈X.pn++ae,p.1≠b):Inv X ae Z H' s':=by
 obtain⟨h',g',d',t',o'⟩:=s';have e:o'=s.os:=ho;subst e;exact I.call (g':=g') (t':=t') (d':=d') u bF hg ox
end
abbrev XK:=Value->Option Addr->Hp->Prop
abbrev St:=List (Option V)
abbrev VK:=V->Hp->Prop
abbrev TE:=St->Hp->VK->Prop
abbrev TT:=St->Hp->(Bool->Hp->Prop)->Prop
abbrev TA:=St->Hp->(List V->Hp->Prop)->Prop
set_option genInjectivity false in
structure Ends where
 nx:St->Hp->Prop
 rt:VK
 bk:St->Hp->Prop:=λ_ _=>False
 ct:St->Hp->Prop:=λ_ _=>False
abbrev TS:=Ends->St->Hp->Prop
def EP(X:Cx)(ae:List (Addr×Obj))(Z:St)(Q:VK)(u:Value)(s':Shared):Prop:=∃v H',Inv X ae Z H' s'/\RelV v u/\Q v H'
def TP(X:Cx)(ae:List (Addr×Obj))(Z:St)(Q:Bool->Hp->Prop)(b:Bool)(s':Shared):Prop:=∃H',Inv X ae Z H' s'/\Q b H'
def AP(X:Cx)(ae:List (Addr×Obj))(Z:St)(Q:List V->Hp->Prop)(us:List Value)(s':Shared):Prop:=∃vs H',Inv X ae Z H' s'/\Vals vs us/\Q vs H'
def SP(X:Cx)(ae:List (Addr×Obj))(D:Ends)(f:Flow)(s':Shared):Prop:=
 match f with
 |.next=>∃Z' H',Inv X ae Z' H' s'/\D.nx Z' H'
 |.brk=>∃Z' H',Inv X ae Z' H' s'/\D.bk Z' H'
 |.cont=>∃Z' H',Inv X ae Z' H' s'/\D.ct Z' H'
 |.ret u=>∃v Z' H',Inv X ae Z' H' s'/\RelV v u/\D.rt v H'
def PE(X:Cx)(e:Expr)(t:TE):Prop:=
 ∀(ae:List (Addr×Obj)) (s:Shared) (Z:St) (H:Hp) (Q:VK),Inv X ae Z H s->t Z H Q->wpAny (model X.prog X.w) X.A (eval e X.env) (EP X ae Z Q) X.xe s
def PT(X:Cx)(e:Expr)(t:TT):Prop:=
 ∀(ae:List (Addr×Obj)) (s:Shared) (Z:St) (H:Hp) (Q:Bool->Hp->Prop),Inv X ae Z H s->t Z H Q->wpAny (model X.prog X.w) X.A (isTrue e X.env (eval e X.env)) (TP X ae Z Q) X.xe s
def PW(X:Cx)(e:Expr)(t:TT):Prop:=
 ∀(whole:Sem Value) (ae:List (Addr×Obj)) (s:Shared) (Z:St) (H:Hp) (Q:Bool->Hp->Prop),Inv X ae Z H s->t Z H Q->wpAny (model X.prog X.w) X.A (isTrue e X.env whole) (TP X ae Z Q) X.xe s
theorem PW.pt{X:Cx}{e:Expr}{t:TT}(h:PW X e t):PT X e t:=h _
def PA(X:Cx)(es:List Expr)(t:TA):Prop:=
 ∀(pos:Pos) (ae:List (Addr×Obj)) (s:Shared) (Z:St) (H:Hp) (Q:List V->Hp->Prop),Inv X ae Z H s->t Z H Q->wpAny (model X.prog X.w) X.A (spliced (backTo pos (starEach es X.env))) (AP X ae Z Q) X.xe s
def PS(X:Cx)(st:Stmt)(t:TS):Prop:=
 ∀(ae:List (Addr×Obj)) (s:Shared) (Z:St) (H:Hp) (D:Ends),Inv X ae Z H s->t D Z H->wpAny (model X.prog X.w) X.A (exec st X.env) (SP X ae D) X.xe s
def cA(X:Cx)(st:List Stmt)(t:TS):Prop:=
 ∀(ae:List (Addr×Obj)) (s:Shared) (Z:St) (H:Hp) (D:Ends),Inv X ae Z H s->t D Z H->wpAny (model X.prog X.w) X.A (execs st X.env) (SP X ae D) X.xe s
theorem bI{α:Type}{t:Sem α}{Q Q':α->Shared->Prop}{s:Shared}(h:wpAny M A t Q E s)(hQ:∀a s,Q a s->Q' a s):wpAny M A t Q' E s:=wpAny_mono h hQ λ_ _ x=>x
end L2
namespace L2
open PySem PySem.Spec PyProof.Rows
section
variable {X:Cx}
def x8(i:Nat):TE:=λZ H Q=>∃v,Z[i]?=some (some v)/\Q v H
def tC(v:V):TE:=λ_ H Q=>Q v H
theorem OW{i:Nat}{x:Str}{pos:Pos}(hN:X.N[i]?=some x)(hv:CS X.env.scope x)(hd:(x == ("__debug__":Str))=false:=by decide)(pS:(x == ("__classdict__":Str))=false:=by decide):PE X (.Name x pos) (x8 i):=by
 intro ae s Z H Q I h;obtain⟨v,e,h⟩:=h;obtain⟨m,hn,hl⟩:=I.loc;obtain⟨u,r,l⟩:=hl i x v hN e hv;have fin:EP X ae Z Q u s:=⟨v,H,I,r,h⟩;rcases l with⟨hk,hm⟩|⟨hk,c,hc,o4⟩
 ·exact wpAny_Name (wpAny_loadName_local I.ok.kind hk hn hm fin) hd
 ·rcases hk with hk|hk
  ·exact wpAny_Name (wpAny_loadName_cell I.ok.kind hk hc o4 fin) hd
  ·exact wpAny_Name (wpAny_loadName_free I.ok.kind hk hc o4 fin pS) hd
theorem Yg{i j pos}:PE X (.Constant (.int i) j pos) (tC (.int i)):=λ_ _ _ H _ I h=>wpAny_Constant_int ⟨.int i,H,I.tok _,⟨_,rfl⟩,h⟩
theorem ZX{b j pos}:PE X (.Constant (.bool b) j pos) (tC (.bl b)):=λ_ _ _ H _ I h=>Constant_bool ⟨.bl b,H,I,rfl,h⟩
theorem Yh{j pos}:PE X (.Constant .none j pos) (tC .az):=λ_ _ _ H _ I h=>Constant_none ⟨.az,H,I,rfl,h⟩
theorem Yi{x j pos}:PE X (.Constant (.str x) j pos) (tC (.str x)):=λ_ _ _ H _ I h=>Calls.Constant_str ⟨.str x,H,I.tok _,⟨_,rfl⟩,h⟩
def Gl(X:Cx)(x:Str):Prop:=X.env.kindOf x=some .globalImplicit
theorem Ap{E:Value->Shared->Prop}{ae:List (Addr×Obj)}{s:Shared}{Z:St}{H:Hp}{x:Str}{u:Value}{pos:Pos}{Q:Value->Shared->Prop}(I:Inv X ae Z H s)(hg:Gl X x)(hm:X.mg x=some u)(h:Q u s)
  (hd:(x == ("__debug__":Str))=false:=by decide):wpAny (model X.prog X.w) X.A (eval (.Name x pos) X.env) Q E s:=
 Calls.Name_function_global I.ok.kind hg (Calls.loadGlobal_global (by rw[I.ok.glob];exact I.mod.glob.keeps I.bk) hm h) hd
theorem wq{E:Value->Shared->Prop}{ae:List (Addr×Obj)}{s:Shared}{Z:St}{H:Hp}{x:Str}{u:Value}{pos:Pos}{Q:Value->Shared->Prop}(I:Inv X ae Z H s)(hg:Gl X x)(hm:X.mg x=none)(hv:bootBuiltins x=some u)(h:Q u s)
  (hn:x≠"__name__":=by decide) (hd:(x == ("__debug__":Str))=false:=by decide):wpAny (model X.prog X.w) X.A (eval (.Name x pos) X.env) Q E s:=by
 obtain⟨mb,h1,h2⟩:=I.mod.blt;exact Calls.Name_function_global I.ok.kind hg (Calls.loadGlobal_builtin (by rw[I.ok.glob];exact I.mod.glob.keeps I.bk) hm (by rw[I.ok.blt];exact h1.keeps I.bk) ((h2 x hn).trans hv) h) hd
theorem Wi{x:Str}{v:V}{u:Value}{pos:Pos}(hg:Gl X x)(hm:X.mg x=none)(hv:bootBuiltins x=some u)(r:RelV v u)(hn:x≠"__name__":=by decide)(hd:(x == ("__debug__":Str))=false:=by decide):PE X (.Name x pos) (tC v):=
 λ_ _ _ H _ I h=>wq I hg hm hv ⟨v,H,I,r,h⟩ hn hd
variable {a b:Expr} {ta tb:TE} {pos:Pos}
theorem M9(b:Expr){op:CmpOp}(h:op≠.In)(h2:op≠.NotIn):behindInMarks op b=false:=by
 have e1:(op == CmpOp.In)=false:=by cases op <;> first|rfl|exact absurd rfl h
 have e2:(op == CmpOp.NotIn)=false:=by cases op <;> first|rfl|exact absurd rfl h2
 cases b <;> simp[behindInMarks,e1,e2]
def tB(t:TE):TT:=λZ H Q=>t Z H λx H1=>∃c,x=.bl c/\Q c H1
variable {tA EU:TT} {rest:List Expr}
def KG(t u:TT):TT:=λZ H Q=>t Z H λc H1=>if c=true then u Z H1 Q else Q false H1
def tOr(t u:TT):TT:=λZ H Q=>t Z H λc H1=>if c=true then Q true H1 else u Z H1 Q
def KO(t:TT):TT:=λZ H Q=>t Z H λc H1=>Q (!c) H1
theorem Wj(ha:PT X a tA):PW X (.BoolOp .And [a] pos) tA:=by
 intro wh ae s Z H Q I h;refine isTrue_and (bI (ha ae s Z H Q I h) λc s1 e=>?_)
 cases c with
 |true=>exact isTrue_and_nil e
 |false=>exact e
theorem Yj(ha:PT X a tA):PW X (.BoolOp .Or [a] pos) tA:=by
 intro wh ae s Z H Q I h;refine isTrue_or (bI (ha ae s Z H Q I h) λc s1 e=>?_)
 cases c with
 |false=>exact isTrue_or_nil e
 |true=>exact e
theorem Yk(ha:PT X a tA)(hb:PW X (.BoolOp .And (b::rest) pos) EU):PW X (.BoolOp .And (a::b::rest) pos) (KG tA EU):=by
 intro wh ae s Z H Q I h;refine isTrue_and (bI (ha ae s Z H _ I h) λc s1 hh=>?_)
 obtain⟨H1,I1,q1⟩:=hh;cases c with
 |true=>exact hb wh ae s1 Z H1 Q I1 q1
 |false=>exact⟨H1,I1,q1⟩
theorem ZY(ha:PT X a tA)(hb:PW X (.BoolOp .Or (b::rest) pos) EU):PW X (.BoolOp .Or (a::b::rest) pos) (tOr tA EU):=by
 intro wh ae s Z H Q I h;refine isTrue_or (bI (ha ae s Z H _ I h) λc s1 hh=>?_)
 obtain⟨H1,I1,q1⟩:=hh;cases c with
 |true=>exact⟨H1,I1,q1⟩
 |false=>exact hb wh ae s1 Z H1 Q I1 q1
theorem Yl(ha:PT X a tA):PT X (.UnaryOp .Not a pos) (KO tA):=by
 intro ae s Z H Q I h;exact isTrue_not (ha ae s Z H (λc H1=>Q (!c) H1) I h)
def Cc(ta tb:TE):TE:=λZ H Q=>ta Z H λx H1=>∃c,x=.bl c/\if c=true then tb Z H1 Q else Q (.bl false) H1
theorem DZ{op}{t:TE}(h:PE X a t):PE X (.BoolOp op [a] pos) t:=λae s Z H Q I hw=>BoolOp_one (h ae s Z H Q I hw)
theorem Ym(ha:PE X a ta)(hb:PE X (.BoolOp .And (b::rest) pos) tb):PE X (.BoolOp .And (a::b::rest) pos) (Cc ta tb):=by
 intro ae s Z H Q I h;refine BoolOp_and (bI (ha ae s Z H _ I h) λv s1 hh=>?_)
 obtain⟨x,H1,I1,r1,q1⟩:=hh;obtain⟨c,rfl,q1⟩:=q1;cases r1;refine wpAny_truthy_bool ?_;cases c with
 |true=>exact hb ae s1 Z H1 Q I1 q1
 |false=>exact⟨.bl false,H1,I1,rfl,q1⟩
def tIf(t:TT)(ta tb:TE):TE:=λZ H Q=>t Z H λc H1=>if c=true then ta Z H1 Q else tb Z H1 Q
theorem UR{c:Expr}(hc:PT X c tA)(ha:PE X a ta)(hb:PE X b tb):PE X (.IfExp c a b pos) (tIf tA ta tb):=by
 intro ae s Z H Q I h;refine wpAny_IfExp (bI (hc ae s Z H _ I h) λd s1 hh=>?_)
 obtain⟨H1,I1,q1⟩:=hh;cases d with
 |true=>exact ha ae s1 Z H1 Q I1 q1
 |false=>exact hb ae s1 Z H1 Q I1 q1
end
end L2
namespace L2
open PySem PySem.Spec PyProof.Rows
variable{x:Str}{u:Value}{ae:List (Addr×Obj)}{Z:St}{H:Hp}{s:Shared}{c i e o tg:Expr}{tc:TT}{es:List Expr}{to ti te:TE}{P:Program}{w:World}{K:PySem.W.Frag}
def dY(K:PySem.W.Frag)(H:Hp)(a:Addr)(xs:List V):Prop:=
 Rd H a (.lst xs)\/
  ∃(o:Obj) (aG:Array Value) (n:Nat),K.lookup a=some o/\o.cls=.type "list"/\o.dict=none/\o.data=.seq aG n/\aG.size<=sizeLine/\Vals xs aG.toList
def jm(K:PySem.W.Frag)(H:Hp)(a:Addr)(xs:List V):Prop:=
 Rd H a (.tup xs)\/
  ∃(o:Obj) (aG:Array Value) (n:Nat),K.lookup a=some o/\o.cls=.type "tuple"/\o.data=.seq aG n/\aG.size<=sizeLine/\Vals xs aG.toList
def Gs:Value->Option V
 |.none=>some .az
 |.bool b=>some (.bl b)
 |.int i _=>some (.int i)
 |.str x _=>some (.str x)
 |.bytes b _=>some (.uS b)
 |.float b _=>some (.uX b)
 |.ref a=>some (.ref a)
 |.type n=>some (.ty n)
 |_=>none
theorem RelV.abs{x:V}(r:RelV x u):Gs u=some x:=by
 cases x with
 |az=>cases r;rfl
 |bl _=>cases r;rfl
 |int _=>obtain⟨t,rfl⟩:=r;rfl
 |str _=>obtain⟨t,rfl⟩:=r;rfl
 |uS _=>obtain⟨t,rfl⟩:=r;rfl
 |uX _=>obtain⟨t,rfl⟩:=r;rfl
 |ref _=>cases r;rfl
 |ty _=>cases r;rfl
theorem RelV.inj{x y:V}{u:Value}(r:RelV x u)(q:RelV y u):x=y:=Option.some.inj (r.abs.symm.trans q.abs)
theorem Vals.inj{xs ys:List V}{us:List Value}(h:Vals xs us)(h':Vals ys us):xs=ys:=by
 induction h generalizing ys with
 |nil=>cases h';rfl
 |cons r t ih=>
  cases h' with
  |cons r' t'=>rw[r.inj r',ih t']
section
variable {X:Cx} {ae:List (Addr×Obj)} {Z:St} {H:Hp} {s:Shared} {a:Addr} {xs ys:List V}
theorem Inv.list(I:Inv X ae Z H s)(h:dY X.K H a xs):∃aG:List Value,Vals xs aG/\PlainL s.heap a aG.toArray/\xs.length<=sizeLine:=by
 rcases h with h|⟨o,aG,n,hk,hc,hd,hs,hz,r⟩
 ·obtain⟨z,aG,n,r,e⟩:=h.ok I.bF;exact⟨aG,r,⟨_,n,e,rfl,rfl,rfl⟩,z⟩
 ·refine⟨aG.toList,r,⟨o,n,I.lu a o hk,hc,hd,by simpa using hs⟩,?_⟩
  have e:=r.length;simp only[Cv] at e;omega
theorem Inv.tuple(I:Inv X ae Z H s)(h:jm X.K H a xs):∃aG:List Value,Vals xs aG/\IsTup s.heap a aG.toArray/\xs.length<=sizeLine:=by
 rcases h with h|⟨o,aG,n,hk,hc,hs,hz,r⟩
 ·obtain⟨z,aG,r,p⟩:=h.ok I.bF;exact⟨aG,r,p,z⟩
 ·refine⟨aG.toList,r,⟨o,I.lu a o hk,hc,n,by simpa using hs⟩,?_⟩
  have e:=r.length;simp only[Cv] at e;omega
theorem Inv.ly(I:Inv X ae Z H s)(h:dY X.K H a xs)(h':dY X.K H a ys):xs=ys:=by
 obtain⟨aG,r,⟨o,n,e,_,_,d⟩,_⟩:=I.list h;obtain⟨its',r',⟨o',n',e',_,_,d'⟩,_⟩:=I.list h';rw[e] at e';cases e';rw[d] at d';injection d' with d1 _;have:aG=its':=by simpa using congrArg Array.toList d1
 subst this;exact r.inj r'
theorem Inv.mn(I:Inv X ae Z H s)(h:jm X.K H a xs)(h':jm X.K H a ys):xs=ys:=by
 obtain⟨aG,r,⟨o,e,_,n,d⟩,_⟩:=I.tuple h;obtain⟨its',r',⟨o',e',_,n',d'⟩,_⟩:=I.tuple h';rw[e] at e';cases e';rw[d] at d';injection d' with d1 _;have:aG=its':=by simpa using congrArg Array.toList d1
 subst this;exact r.inj r'
end
section
variable {X:Cx} {ae:List (Addr×Obj)} {Z:St} {H:Hp} {s:Shared} {E:Value->Shared->Prop}
end
section
variable {X:Cx} {st:Stmt} {rest:List Stmt} {t u:TS} {e:Expr} {te:TE} {pos:Pos}
def Ci:TS:=λD Z H=>D.nx Z H
def KQ(t u:TS):TS:=λD Z H=>t { D with nx:=u D} Z H
theorem t_:cA X [] Ci:=λ_ _ Z H _ I h=>wpAny_execs_nil ⟨Z,H,I,h⟩
theorem US(h1:PS X st t)(h2:cA X rest u):cA X (st::rest) (KQ t u):=by
 intro ae s Z H D I h;refine wpAny_execs_cons (bI (h1 ae s Z H { D with nx:=u D} I h) λf s1 q=>?_)
 cases f with
 |next=>
  obtain⟨Z',H',I',q⟩:=q;exact h2 ae s1 Z' H' D I' q
 |ret v=>exact q
 |brk=>exact q
 |cont=>exact q
theorem Inv.quiet(I:Inv X ae Z H s):interactive X.env=false:=by simp[interactive,I.ok.kind]
def Cg(te:TE):TS:=λD Z H=>te Z H λ_ H1=>D.nx Z H1
theorem Wk(he:PE X e te)(hs:swapsWith e none pos.line X.env=pure false:=by rfl):PS X (.Expr e pos) (Cg te):=by
 intro ae s Z H D I h;exact wpAny_Expr_any (bI (he ae s Z H _ I h) λv s1 ⟨x,H1,I1,r1,q1⟩=>⟨Z,H1,I1,q1⟩) I.quiet hs
def KP(te:TE):TS:=λD Z H=>te Z H D.rt
theorem Yn(he:PE X e te):PS X (.Return (some e) pos) (KP te):=by
 intro ae s Z H D I h;exact wpAny_Return_some (bI (he ae s Z H _ I h) λv s1 ⟨x,H1,I1,r1,q1⟩=>⟨x,Z,H1,I1,r1,q1⟩)
def KL(c:TT)(t u:TS):TS:=λD Z H=>c Z H λb H1=>if b=true then t D Z H1 else u D Z H1
theorem ZZ{a b:List Stmt}(hc:PT X c tc)(ha:cA X a t)(hb:cA X b u):PS X (.If c a b pos) (KL tc t u):=by
 intro ae s Z H D I h;refine wpAny_If (bI (hc ae s Z H _ I h) λd s1 hh=>?_)
 obtain⟨H1,I1,q1⟩:=hh;cases d with
 |true=>exact ha ae s1 Z H1 D I1 q1
 |false=>exact hb ae s1 Z H1 D I1 q1
end
abbrev TG:=V->St->Hp->(St->Hp->Prop)->Prop
abbrev r6:=List V->St->Hp->(St->Hp->Prop)->Prop
def PG(X:Cx)(target:Expr)(t:TG):Prop:=
 ∀(ae:List (Addr×Obj)) (s:Shared) (Z:St) (H:Hp) (v:V) (u:Value) (Q:St->Hp->Prop),Inv X ae Z H s->RelV v u->t v Z H Q->
  wpAny (model X.prog X.w) X.A (assign target X.env u) (λ_ s'=>∃Z' H',Inv X ae Z' H' s'/\Q Z' H') X.xe s
def zU(X:Cx)(ts:List Expr)(t:r6):Prop:=
 ∀(ae:List (Addr×Obj)) (s:Shared) (Z:St) (H:Hp) (vs:List V) (us:List Value) (Q:St->Hp->Prop),Inv X ae Z H s->Vals vs us->t vs Z H Q->
  wpAny (model X.prog X.w) X.A (assignInOrder ((assignEach ts X.env).map (·.2)) us) (λ_ s'=>∃Z' H',Inv X ae Z' H' s'/\Q Z' H') X.xe s
abbrev pG:=V->V->V->Hp->(Hp->Prop)->Prop
def sQ(X:Cx)(t:pG):Prop:=
 ∀(ae:List (Addr×Obj)) (s:Shared) (Z:St) (H:Hp) (o i v:V) (ov iv u:Value) (Q:Hp->Prop),Inv X ae Z H s->RelV o ov->RelV i iv->RelV v u->t o i v H Q->
  wpAny (model X.prog X.w) X.A (setItem ov iv u) (λ_ s'=>∃H',Inv X ae Z H' s'/\Q H') X.xe s
abbrev CP:=V->V->Hp->VK->Prop
def CN(X:Cx)(op:Operator)(t:CP):Prop:=
 ∀(ae:List (Addr×Obj)) (s:Shared) (Z:St) (H:Hp) (x y:V) (v u:Value) (Q:VK),Inv X ae Z H s->RelV x v->RelV y u->t x y H Q->
  wpAny (model X.prog X.w) X.A (inplaceOp op v u) (EP X ae Z Q) X.xe s
section
variable {X:Cx} {pos:Pos}
def oW(i:Nat):TG:=λv Z H Q=>Q (Z.set i (some v)) H
theorem Wl{i:Nat}(hN:X.N.Nodup)(hi:X.N[i]?=some x)(hx:Loc X.env.scope x)(hf:X.fn x=true\/X.env.scope.names.lookup x=some .local := by first|exact .inl rfl|exact .inr rfl|assumption):PG X (.Name x pos) (oW i):=by
 intro ae s Z H v u Q I r h;exact wpAny_assign_Name (M8 I hN hi hx r (λs' I'=>⟨_,H,I',h⟩) hf)
def A5:r6:=λvs Z H Q=>vs=[]/\Q Z H
def uY(t:TG)(u:r6):r6:=λvs Z H Q=>∃v r,vs=v::r/\t v Z H λZ' H'=>u r Z' H' Q
theorem qi:zU X [] A5:=by
 intro ae s Z H vs us Q I r h;obtain⟨e,h⟩:=h;subst e;cases r;exact assignInOrder_nil ⟨Z,H,I,h⟩
theorem f'{t:TG}{u:r6}(h1:PG X e t)(h2:zU X es u)
  (hs:(assignEach (e::es) X.env).map (·.2)=assign e X.env::(assignEach es X.env).map (·.2):=by rfl):zU X (e::es) (uY t u):=by
 intro ae s Z H vs us Q I r h;obtain⟨v,vr,e1,h⟩:=h;subst e1;cases r with
 |cons r rr=>
  rw[hs];refine assignInOrder_cons (bI (h1 ae s Z H _ _ _ I r h) λ_ s1 hh=>?_)
  obtain⟨Z1,H1,I1,q1⟩:=hh;exact h2 ae s1 Z1 H1 _ _ Q I1 rr q1
def wR(K:PySem.W.Frag)(n:Nat)(t:r6):TG:=λv Z H Q=>∃a xs,v=.ref a/\jm K H a xs/\xs.length=n/\t xs Z H Q
theorem Yo{k:Nat}{t:r6}{n:Nat}(hc:X.calm=true)(h:zU X es t)
  (hn:(assignEach es X.env).length=n:=by rfl) (oA:(assignEach es X.env).findIdx? (·.1)=none:=by rfl):PG X (.Tuple es k pos) (wR X.K n t):=by
 intro ae s Z H v u Q I r hw;obtain⟨a,xs,e1,hq,hl,hw⟩:=hw;subst e1;cases r;obtain⟨aG,rv,ht,hz⟩:=I.tuple hq;refine assign_Tuple_tuple (I.ok.hd hc) ht (by simp[hn,<-hl,rv.length]) oA λh' hx=>?_
 have I1:Inv X ae Z H { s with heap:=h'}:=I.kept (t':=s.toks) λb o e=>hx b o (jl (eH e)) e
 exact h ae _ Z H xs _ Q I1 (by simpa using rv) hw
def Jf(to ti:TE)(t:pG):TG:=λv Z H Q=>to Z H λo H1=>ti Z H1 λi H2=>t o i v H2 λH3=>Q Z H3
theorem Yp{t:pG}(ho:PE X o to)(hi:PE X i ti)(hs:sQ X t)
  (ha:∀v,assign (.Subscript o i pos) X.env v=(do
   let ov <-holding [v] (eval o X.env)
   let iv <-holding [v,ov] (eval i X.env)
   standAt pos
   holding [v,ov,iv] (setItem ov iv v)
   release [v,ov,iv] []):=by intro _;rfl):PG X (.Subscript o i pos) (Jf to ti t):=by
 intro ae s Z H v u Q I r h;rw[ha];refine wpAny_bind (wpAny_holding (bI (ho ae s Z H _ I h) λov s1 hh=>?_))
 obtain⟨x,H1,I1,r1,q1⟩:=hh;refine wpAny_bind (wpAny_holding (bI (hi ae s1 Z H1 _ I1 q1) λiv s2 hh=>?_))
 obtain⟨y,H2,I2,r2,q2⟩:=hh;refine wpAny_bind (wpAny_standAt (wpAny_bind (wpAny_holding (bI (hs ae s2 Z H2 x y v ov iv u _ I2 r1 r2 r q2) λ_ s3 hh=>?_))))
 obtain⟨H3,I3,q3⟩:=hh;exact wpAny_release ⟨Z,H3,I3,q3⟩
def Cd(te:TE)(g:TG):TS:=λD Z H=>te Z H λx H1=>g x Z H1 D.nx
theorem Yq{g:TG}(he:PE X e te)(hg:PG X tg g)(hs:swapsWithSole [tg] e pos.line X.env=pure false:=by rfl)(hw:swappedStores [tg] e X.env=pure none:=by rfl)
  (h1:(assignEach [tg] X.env).map (·.2)=[assign tg X.env]:=by rfl):PS X (.Assign [tg] e pos) (Cd te g):=by
 intro ae s Z H D I h;refine wpAny_Assign_stores (bI (he ae s Z H _ I h) λv s1 hh=>?_) hs hw
 obtain⟨x,H1,I1,r1,q1⟩:=hh;rw[h1];exact bI (hg ae s1 Z H1 x v _ I1 r1 q1) λ_ s2 q=>q
theorem Yr{i:Nat}{pos':Pos}(hN:X.N.Nodup)(hi:X.N[i]?=some x)(hx:Loc X.env.scope x)(he:PE X e te)(hs:swapsWith e (some (.Name x pos')) pos.line X.env=pure false:=by rfl)(hf:X.fn x=true\/X.env.scope.names.lookup x=some .local := by first|exact .inl rfl|exact .inr rfl|assumption):
  PS X (.Assign [.Name x pos'] e pos) (Cd te (oW i)):=by
 intro ae s Z H D I h;refine wpAny_Assign_Name (bI (he ae s Z H _ I h) λv s1 hh=>?_) hs
 obtain⟨y,H1,I1,r1,q1⟩:=hh;exact M8 I1 hN hi hx r1 (λs2 I2=>⟨_,H1,I2,q1⟩) hf
def Ce(to ti te:TE)(uf:V->V->Hp->VK->Prop)(EX:CP)(uh:pG):TS:=λD Z H=>to Z H λo H1=>ti Z H1 λi H2=>uf o i H2 λx H3=>te Z H3 λy H4=>EX x y H4 λz H5=>uh o i z H5 λH6=>D.nx Z H6
def zT(X:Cx)(t:V->V->Hp->VK->Prop):Prop:=
 ∀(ae:List (Addr×Obj)) (s:Shared) (Z:St) (H:Hp) (o i:V) (ov iv:Value) (Q:VK),Inv X ae Z H s->RelV o ov->RelV i iv->t o i H Q->
  wpAny (model X.prog X.w) X.A (getItem ov iv) (EP X ae Z Q) X.xe s
theorem Wm{uf:V->V->Hp->VK->Prop}{EX:CP}{uh:pG}{op:Operator}{iz:Pos}(ho:PE X o to)(hi:PE X i ti)(hg:zT X uf)(he:PE X e te)(hp:CN X op EX)(hs:sQ X uh)
  (ha:∀ov iv new,augStore i ov iv new=(do holding [new,ov,iv] (setItem ov iv new);release [new,ov,iv] [];pure .next):=by intros;rfl):PS X (.AugAssign (.Subscript o i iz) op e pos) (Ce to ti te uf EX uh):=by
 intro ae s Z H D I h;refine wpAny_AugAssign_SubscriptAny (bI (ho ae s Z H _ I h) λov s1 hh=>?_) ha
 obtain⟨x1,H1,I1,r1,q1⟩:=hh;refine bI (hi ae s1 Z H1 _ I1 q1) λiv s2 hh=>?_
 obtain⟨x2,H2,I2,r2,q2⟩:=hh;refine bI (hg ae s2 Z H2 x1 x2 ov iv _ I2 r1 r2 q2) λold s3 hh=>?_
 obtain⟨x3,H3,I3,r3,q3⟩:=hh;refine bI (he ae s3 Z H3 _ I3 q3) λv s4 hh=>?_
 obtain⟨x4,H4,I4,r4,q4⟩:=hh;refine bI (hp ae s4 Z H4 x3 x4 old v _ I4 r3 r4 q4) λnew s5 hh=>?_
 obtain⟨x5,H5,I5,r5,q5⟩:=hh;exact bI (hs ae s5 Z H5 x1 x2 x5 ov iv new _ I5 r1 r2 r5 q5) λ_ s6 ⟨H6,I6,q6⟩=>⟨Z,H6,I6,q6⟩
def JM(f:Int->Int->Int):CP:=λx y H Q=>∃i j,x=.int i/\y=.int j/\Q (.int (f i j)) H
theorem Ys:CN X .Add (JM λi j=>i+j):=by
 intro ae s Z H x y v u Q I r1 r2 h;obtain⟨i,j,e1,e2,q⟩:=h;subst e1;subst e2;obtain⟨t,rfl⟩:=r1;obtain⟨t',rfl⟩:=r2;exact iadd_int ⟨.int _,H,I.tok _,⟨_,rfl⟩,q⟩
end
section
variable {X:Cx} {pos:Pos}
def Yt(c:TT)(tb:TS):TS:=λD Z H=>∃W:Nat->St->Hp->Prop,(∃m,W m Z H)/\∀m Z H,W m Z H->
 c Z H λb H1=>if b=true then ∃N:St->Hp->Prop,(∀Z' H',N Z' H'->∃m',m' < m/\W m' Z' H')/\tb { D with nx:=N,ct:=N,bk:=D.nx} Z H1 else D.nx Z H1
theorem UT{body:List Stmt}{tb:TS}(hp:PassesOwn (model X.prog X.w) X.A X.env X.xe)(hc:PT X c tc)(hb:cA X body tb):PS X (.While c body [] pos) (Yt tc tb):=by
 intro ae s Z H D I h;obtain⟨W,⟨m0,w0⟩,turn⟩:=h;refine wpAny_While (codeAny_whileLoop (λn s'=>∃Z' H',Inv X ae Z' H' s'/\W n Z' H') ?_ m0 ⟨Z,H,I,w0⟩)
 rintro n s1 ⟨Z1,H1,I1,w1⟩;refine wpAny_passesOwn hp (bI (hc ae s1 Z1 H1 _ I1 (turn n Z1 H1 w1)) λb s2 hh=>?_)
 obtain⟨H2,I2,q2⟩:=hh;cases b with
 |true=>
  obtain⟨N,hN,q2⟩:=q2;rw[if_pos rfl];refine wpAny_passesOwn hp (bI (hb ae s2 Z1 H2 _ I2 q2) λf s3 q3=>?_)
  cases f with
  |next=>
   obtain⟨Z3,H3,I3,n3⟩:=q3;obtain⟨m',hm,w3⟩:=hN Z3 H3 n3;exact⟨m',hm,Z3,H3,I3,w3⟩
  |cont=>
   obtain⟨Z3,H3,I3,n3⟩:=q3;obtain⟨m',hm,w3⟩:=hN Z3 H3 n3;exact⟨m',hm,Z3,H3,I3,w3⟩
  |brk=>exact q3
  |ret v=>exact q3
 |false=>
  rw[if_neg nM];exact wpAny_execs_nil ⟨Z1,H2,I2,q2⟩
end
set_option genInjectivity false in
structure It where
 go:Nat->Hp->Prop
 rX:Nat->Hp->V->Hp->Prop
 stop:Nat->Hp->Prop
def jU(X:Cx)(ae:List (Addr×Obj))(H:Hp)(b:Addr):Prop:=
 H b=none/\b≠X.env.locals/\b∉X.fs/\(b∈X.ex\/X.s₀.heap.objs.size<=b)/\(∀x c,X.env.cells.lookup x=some c->c≠b)/\∀p∈X.pn++ae,p.1≠b
theorem Inv.mC{X:Cx}{H':Hp}{b:Addr}(I:Inv X ae Z H s)(hb:s.heap.objs.size<=b)(hn:H' b=none):jU X ae H' b:=by
 refine⟨hn,vI (jk I.lt hb),I.xw hb,.inr (lC I.sz hb),λx c e z=>?_,λp hp z=>?_⟩
 ·obtain⟨v,q⟩:=I.cell x c e;exact absurd (jk q.lt (by rw[z];exact hb)) (lX _)
 ·exact absurd (jk (eH (I.pin p hp).1) (by rw[z];exact hb)) (lX _)
structure Turn (P:Program) (w:World) (K:PySem.W.Frag) (tg:Expr) (J:It) (fp:List Addr) (it:Addr) (tn:Nat->Heap->Prop):Prop where
 mem:it∈fp
 obj:∀i h,tn i h->∀b∈fp,∃o,h.get? b=some o/\∀v,o.data≠.cell v
 keep:∀i h h',tn i h->(∀b∈fp,∀o,h.get? b=some o->h'.get? b=some o)->tn i h'
 item:∀(X:Cx),X.prog=P->X.w=w->X.K=K->X.calm=true->∀(i:Nat) (ae:List (Addr×Obj)) (s:Shared) (Z:St) (H:Hp) (E:Value->Shared->Prop),Inv X ae Z H s->(∀b∈fp,jU X ae H b)->tn i s.heap->J.go i H->
  wpAny (model P w) X.A (pyNext (.ref it)) (λr s1=>∃u,r=some u/\
   wpAny (model P w) X.A (letOwnedTupleGo tg (.ref it) u) (λ_ s2=>∃x H',Inv X ae Z H' s2/\RelV x u/\J.rX i H x H'/\tn (i+1) s2.heap/\∀b∈fp,H' b=none) E s1) E s
 done:∀(X:Cx),X.prog=P->X.w=w->X.K=K->X.calm=true->∀(i:Nat) (ae:List (Addr×Obj)) (s:Shared) (Z:St) (H:Hp) (E:Value->Shared->Prop),Inv X ae Z H s->(∀b∈fp,jU X ae H b)->tn i s.heap->J.stop i H->
  wpAny (model P w) X.A (pyNext (.ref it)) (λr s1=>r=none/\Inv X ae Z H s1) E s
 self:∀(A:Around) (i:Nat) (s:Shared) (Q:Value->Shared->Prop) (E:Value->Shared->Prop),tn i s.heap->Q (.ref it) s->wpAny (model P w) A (pyIter (.ref it)) Q E s
abbrev TI:=St->Hp->(It->Hp->Prop)->Prop
def Fm(X:Cx)(ae:List (Addr×Obj))(Z:St)(tg:Expr)(R:It->Hp->Prop)(EM:Value)(s2:Shared):Prop:=
 ∃(it:Addr) (fp:List Addr) (tn:Nat->Heap->Prop) (J:It) (H':Hp),EM=.ref it/\Inv X ae Z H' s2/\Turn X.prog X.w X.K tg J fp it tn/\tn 0 s2.heap/\(∀b∈fp,jU X ae H' b)/\R J H'
def PI(X:Cx)(tg iter:Expr)(wi:TI):Prop:=
 ∀(ae:List (Addr×Obj)) (s:Shared) (Z:St) (H:Hp) (R:It->Hp->Prop),Inv X ae Z H s->wi Z H R->
  wpAny (model X.prog X.w) X.A (eval iter X.env) (λv s1=>wpAny (model X.prog X.w) X.A (pyIter v) (Fm X ae Z tg R) X.xe s1) X.xe s
theorem y7{M:Model}{A:Around}{E:Value->Shared->Prop}{it:Addr}{o:Obj}{n:String}{vs:Array Value}{Q:Unit->Shared->Prop}(ho:s.heap.get? it=some o)(hc:o.cls=.type n)(hd:o.data=.fields vs)
  (hn:["enumerate","zip","dict_itemiterator","dict_reverseitemiterator","odict_iterator","itertools.zip_longest","itertools.pairwise"].contains n=false) (hQ:Q () s):wpAny M A (letOwnedTupleGo tg (.ref it) u) Q E s:=by
 unfold letOwnedTupleGo;cases tg <;> first
  |exact wpAny_pure hQ
  |(cases u <;> first
    |exact wpAny_pure hQ
    |(refine wpAny_bind (wpAny_load ho ?_)
      rw[hc,hd];show wpAny M A (if(["enumerate","zip","dict_itemiterator","dict_reverseitemiterator","odict_iterator","itertools.zip_longest","itertools.pairwise"].contains n && vs[0]? == some (rawInt _))=true then _ else _) Q E s
      rw[if_neg (by intro h;rw[hn,E'] at h;cases h)]
      exact wpAny_pure hQ))
def Fg(K:PySem.W.Frag)(a:Addr):It:=
 ⟨λi H=>∃xs x,dY K H a xs/\xs[i]?=some x,λi H x H'=>H'=H/\∀xs,dY K H a xs->xs[i]?=some x,λi H=>∃xs,dY K H a xs/\xs.length<=i⟩
def Fh(K:PySem.W.Frag)(a:Addr):It:=
 ⟨λi H=>∃xs x,jm K H a xs/\xs[i]?=some x,λi H x H'=>H'=H/\∀xs,jm K H a xs->xs[i]?=some x,λi H=>∃xs,jm K H a xs/\xs.length<=i⟩
def CL(lo:Int)(n:Nat):It:=⟨λi _=>i < n,λi H x H'=>H'=H/\x=.int (lo+i),λi _=>n<=i⟩
theorem S8(a it:Addr):Turn P w K tg (Fg K a) [it] it (λi h=>h.IsListIter it a i) where
 mem:=by simp
 obj:=λi h st b hb=>by
  have e:b=it:=by simpa using hb
  subst e;obtain⟨o,e,c,d⟩:=st;exact⟨o,e,λv z=>by rw[d] at z;cases z⟩
 keep:=λi h h' st k=>st.at λo e=>k it (by simp) o e
 item:=by
  intro X hP hw hK hc i ae s Z H E I hf st hg;subst hP hw hK;obtain⟨xs,x,hq,hx⟩:=hg;obtain⟨aG,rv,p,hz⟩:=I.list hq;obtain⟨u,hu,ru⟩:=rv.get hx;obtain⟨f0,f1,f2,f3,f4,f5⟩:=hf it (by simp)
  refine wpAny_pyNext_list_item st p.isList (x:=u) (by simpa using hu) λh' lG sb=>?_
  have I1:Inv X ae Z H { s with heap:=h'}:=I.turned (t':=s.toks) (λb o hb e=>(sb.2 b hb).trans e) f0 f1 f3 f4 f5
  obtain⟨o,e,c,d⟩:=id lG;exact⟨u,rfl,y7 (s:={ s with heap:=h'}) e c d (by decide) ⟨x,H,I1,ru,⟨rfl,λys hy=>by rw[I.ly hy hq];exact hx⟩,lG,λb hb=>(hf b hb).1⟩⟩
 done:=by
  intro X hP hw hK hc i ae s Z H E I hf st hg;subst hP hw hK;obtain⟨xs,hq,hx⟩:=hg;obtain⟨aG,rv,p,hz⟩:=I.list hq;obtain⟨f0,f1,f2,f3,f4,f5⟩:=hf it (by simp)
  have hl:=rv.length;exact wpAny_pyNext_list_end (I.ok.hd hc) st p.isList (by simp;omega) λh' eb=>⟨rfl,I.turned (t':=s.toks) (λb o hb e=>eb b o hb e) f0 f1 f3 f4 f5⟩
 self:=λ_ _ _ _ _ st h=>wpAny_pyIter_listiter st h
theorem Se(a it:Addr):Turn P w K tg (Fh K a) [it] it (λi h=>h.IsTupleIter it a i) where
 mem:=by simp
 obj:=λi h st b hb=>by
  have e:b=it:=by simpa using hb
  subst e;obtain⟨o,e,c,d⟩:=st;exact⟨o,e,λv z=>by rw[d] at z;cases z⟩
 keep:=λi h h' st k=>st.at λo e=>k it (by simp) o e
 item:=by
  intro X hP hw hK hc i ae s Z H E I hf st hg;subst hP hw hK;obtain⟨xs,x,hq,hx⟩:=hg;obtain⟨aG,rv,p,hz⟩:=I.tuple hq;obtain⟨u,hu,ru⟩:=rv.get hx;obtain⟨f0,f1,f2,f3,f4,f5⟩:=hf it (by simp)
  refine wpAny_pyNext_tuple_item st (show s.heap.IsTuple a aG.toArray from p) (x:=u) (by simpa using hu) λh' lG sb=>?_
  have I1:Inv X ae Z H { s with heap:=h'}:=I.turned (t':=s.toks) (λb o hb e=>(sb.2 b hb).trans e) f0 f1 f3 f4 f5
  obtain⟨o,e,c,d⟩:=id lG;exact⟨u,rfl,y7 (s:={ s with heap:=h'}) e c d (by decide) ⟨x,H,I1,ru,⟨rfl,λys hy=>by rw[I.mn hy hq];exact hx⟩,lG,λb hb=>(hf b hb).1⟩⟩
 done:=by
  intro X hP hw hK hc i ae s Z H E I hf st hg;subst hP hw hK;obtain⟨xs,hq,hx⟩:=hg;obtain⟨aG,rv,p,hz⟩:=I.tuple hq;obtain⟨f0,f1,f2,f3,f4,f5⟩:=hf it (by simp)
  have hl:=rv.length;exact wpAny_pyNext_tuple_end (I.ok.hd hc) st (show s.heap.IsTuple a aG.toArray from p) (by simp;omega) λh' eb=>⟨rfl,I.turned (t':=s.toks) (λb o hb e=>eb b o hb e) f0 f1 f3 f4 f5⟩
 self:=λ_ _ _ _ _ st h=>wpAny_pyIter_tupleiter st h
theorem Sg(it:Addr)(lo:Int)(n:Nat):Turn P w K tg (CL lo n) [it] it (λi h=>IsRangeIter h it (lo+(i:Nat) * 1) ((n:Int) - (i:Nat)) 1) where
 mem:=by simp
 obj:=λi h st b hb=>by
  have e:b=it:=by simpa using hb
  subst e;exact⟨_,st,λv z=>by
   have z':Data.fields _=Data.cell v:=z;cases z'⟩
 keep:=λi h h' st k=>k it (by simp) _ st
 item:=by
  intro X hP hw hK hc i ae s Z H E I hf st hg;subst hP hw hK;obtain⟨f0,f1,f2,f3,f4,f5⟩:=hf it (by simp)
  have W:=Walks.range (prog:=X.prog) (w:=X.w) (I.ok.hd hc) it lo 1 n;refine W.item i s _ _ hg st λv h' tk hv lG kk=>?_
  obtain⟨t,rfl⟩:=hv;have I1:Inv X ae Z H { s with heap:=h',toks:=tk}:=I.turned (λb o hb e=>kk b o (by simpa using hb) e) f0 f1 f3 f4 f5
  refine⟨_,rfl,y7 (s:={ s with heap:=h',toks:=tk}) (n:="range_iterator") lG rfl rfl (by decide) ⟨.int (lo+i),H,I1,⟨t,?_⟩,⟨rfl,rfl⟩,lG,λb hb=>(hf b hb).1⟩⟩
  rw[Int.mul_one]
 done:=by
  intro X hP hw hK hc i ae s Z H E I hf st hg;subst hP hw hK;obtain⟨f0,f1,f2,f3,f4,f5⟩:=hf it (by simp)
  exact wpAny_pyNext_range_end (I.ok.hd hc) st (by have:n<=i:=hg;omega) λh' eb=>⟨rfl,I.turned (t':=s.toks) (λb o hb e=>eb b o hb e) f0 f1 f3 f4 f5⟩
 self:=λ_ _ _ _ _ st h=>wpAny_pyIter_rangeiter st h
end L2
namespace L2
open PySem PySem.Spec PyProof.Rows
section
variable {X:Cx} {tg:Expr}
def va(K:PySem.W.Frag)(tl:TE):TI:=λZ H R=>tl Z H λx H1=>∃a,x=.ref a/\(∃xs,dY K H1 a xs)/\R (Fg K a) H1
def Bv(K:PySem.W.Frag)(tl:TE):TI:=λZ H R=>tl Z H λx H1=>∃a,x=.ref a/\(∃xs,jm K H1 a xs)/\R (Fh K a) H1
theorem Wn{l:Expr}{tl:TE}(hl:PE X l tl):PI X tg l (va X.K tl):=by
 intro ae s Z H R I h;refine bI (hl ae s Z H _ I h) λv s1 hh=>?_
 obtain⟨x,H1,I1,r1,q1⟩:=hh;obtain⟨a,e,⟨xs,hq⟩,q⟩:=q1;subst e;cases r1;obtain⟨aG,rv,p,hz⟩:=I1.list hq;refine wpAny_pyIter_list p.isList ?_;refine⟨s1.heap.objs.size,[s1.heap.objs.size],_,_,H1,rfl,I1.kept (t':=s1.toks) λb o e=>fg _ e,S8 a _,⟨_,kA _ rfl,rfl,rfl⟩,λb hb=>?_,q⟩
 have e:b=s1.heap.objs.size:=by simpa using hb
 subst e;exact I1.mC (cI _) (I1.bF.fresh (cI _))
theorem Yu{l:Expr}{tl:TE}(hl:PE X l tl):PI X tg l (Bv X.K tl):=by
 intro ae s Z H R I h;refine bI (hl ae s Z H _ I h) λv s1 hh=>?_
 obtain⟨x,H1,I1,r1,q1⟩:=hh;obtain⟨a,e,⟨xs,hq⟩,q⟩:=q1;subst e;cases r1;obtain⟨aG,rv,p,hz⟩:=I1.tuple hq;refine wpAny_pyIter_tuple (show s1.heap.IsTuple a aG.toArray from p) ?_;refine⟨s1.heap.objs.size,[s1.heap.objs.size],_,_,H1,rfl,I1.kept (t':=s1.toks) λb o e=>fg _ e,Se a _,⟨_,kA _ rfl,rfl,rfl⟩,λb hb=>?_,q⟩
 have e:b=s1.heap.objs.size:=by simpa using hb
 subst e;exact I1.mC (cI _) (I1.bF.fresh (cI _))
theorem UU{ae:List (Addr×Obj)}{Z:St}{H:Hp}{s:Shared}{R:It->Hp->Prop}{E:Value->Shared->Prop}{lo hi:Int}{t u v:Tok}{tk:Nat}(I:Inv X ae Z H s)(h1:-(2 ^ 62)<=lo)(h2:lo < 2 ^ 62)(h3:-(2 ^ 62)<=hi)(h4:hi < 2 ^ 62)
  (q:R (CL lo (hi - lo).toNat) H):wpAny (model X.prog X.w) X.A (pyIter (.ref s.heap.objs.size)) (Fm X ae Z tg R) E { s with heap:=s.heap.push { cls:=.type "range",data:=.fields #[.int lo t,.int hi u,.int 1 v]},toks:=tk}:=by
 refine wpAny_pyIter_range (IsRange.new ..) (small_one h1 h2 h3 h4) ?_;have I1:Inv X ae Z H { s with heap:=s.heap.push { cls:=.type "range",data:=.fields #[.int lo t,.int hi u,.int 1 v]},toks:=tk}:=I.kept λb o e=>fg _ e
 refine⟨(s.heap.push { cls:=.type "range",data:=.fields #[.int lo t,.int hi u,.int 1 v]}).objs.size,[(s.heap.push { cls:=.type "range",data:=.fields #[.int lo t,.int hi u,.int 1 v]}).objs.size],_,_,H,rfl,
  I1.kept (t':=tk) λb o e=>fg _ e,Sg _ lo (hi - lo).toNat,?_,λb hb=>?_,q⟩
 ·have e1:lo+((0:Nat):Int) * 1=lo:=by simp
  have e2:(((hi - lo).toNat:Nat):Int) - ((0:Nat):Int)=Builtin.Range.rangeSize lo hi 1:=by rw[rangeSize_one];split <;> omega
  show IsRangeIter _ _ (lo+((0:Nat):Int) * 1) ((((hi - lo).toNat:Nat):Int) - ((0:Nat):Int)) 1;rw[e1,e2];exact kA _ rfl
 ·have e:b=(s.heap.push { cls:=.type "range",data:=.fields #[.int lo t,.int hi u,.int 1 v]}).objs.size:=by simpa using hb
  subst e;exact I1.mC (cI _) (I1.bF.fresh (cI _))
def vb(ta:TA):TI:=λZ H R=>ta Z H λvs H1=>∃j:Int,vs=[.int j] /\ -(2 ^ 62)<=j/\j < 2 ^ 62/\R (CL 0 j.toNat) H1
theorem S9{a:Expr}{ta:TA}{p pos:Pos}(hg:Gl X "range")(hm:X.mg "range"=none)(ha:PA X [a] ta)(hs:starEach [a] X.env=[(false,eval a X.env)]:=by rfl):PI X tg (.Call (.Name "range" p) [a] [] pos) (vb ta):=by
 intro ae s Z H R I h;refine Call_ (wq I hg hm boot_range (PyProof.Rows.callWith_type1 (bI (ha pos ae s Z H _ I h) λus s1 hh=>?_) hs rfl))
 obtain⟨vs,H1,I1,r1,q1⟩:=hh;obtain⟨j,e,q1,q2,q⟩:=q1;subst e;cases r1 with
 |cons r rr=>
  cases rr;obtain⟨t,rfl⟩:=r;exact call_range_1 (UU I1 (by omega) (by omega) q1 q2 (by simpa using q))
def KJ(wi:TI)(g:TG)(tb:TS):TS:=λD Z H=>wi Z H λJ H1=>∃W:Nat->Nat->St->Hp->Prop,(∃m,W 0 m Z H1)/\∀i m Z H,W i m Z H->
 (J.stop i H/\D.nx Z H)\/(J.go i H/\∃N:St->Hp->Prop,(∀Z' H',N Z' H'->∃m',m' < m/\W (i+1) m' Z' H')/\∀x H',J.rX i H x H'->g x Z H' λZ2 H2=>tb { D with nx:=N,ct:=N,bk:=D.nx} Z2 H2)
def AE(fp:List Addr)(h:Heap):List (Addr×Obj):=fp.filterMap λb=>(h.get? b).map λo=>(b,o)
theorem z_{fp:List Addr}{h:Heap}{b:Addr}{o:Obj}(hb:b∈fp)(e:h.get? b=some o):(b,o)∈AE fp h:=Cw.mpr ⟨b,hb,by rw[e];rfl⟩
theorem S_{fp:List Addr}{h:Heap}{p:Addr×Obj}(hp:p∈AE fp h):p.1∈fp/\h.get? p.1=some p.2:=by
 obtain⟨b,hb,e⟩:=Cw.mp hp;cases q:h.get? b with
 |none=>rw[q] at e;cases e
 |some o=>
  rw[q] at e;have e':(b,o)=p:=Option.some.inj e;subst e';exact⟨hb,q⟩
theorem Inv.pinned{ae:List (Addr×Obj)}{Z:St}{H:Hp}{s:Shared}{fp:List Addr}(I:Inv X ae Z H s)(hf:∀b∈fp,jU X ae H b)(ho:∀b∈fp,∃o,s.heap.get? b=some o/\∀v,o.data≠.cell v):Inv X (ae++AE fp s.heap) Z H s:=
 I.kG λp hp=>(pj.mp hp).elim (λz=>I.pin p (nY _ z)) λz=>by
  obtain⟨hb,e⟩:=S_ z;obtain⟨f0,f1,f2,_⟩:=hf p.1 hb;obtain⟨o,e',d⟩:=ho p.1 hb;rw[e] at e';cases e';exact⟨e,f0,f1,f2,d⟩
theorem Inv.g_{ae pl:List (Addr×Obj)}{Z:St}{H:Hp}{s:Shared}(I:Inv X (ae++pl) Z H s):Inv X ae Z H s:=I.kG λp hp=>I.pin p (nY _ (E_ _ hp))
theorem OX{iter:Expr}{body:List Stmt}{wi:TI}{g:TG}{tb:TS}{pos:Pos}(hp:PassesOwn (model X.prog X.w) X.A X.env X.xe)(hc:X.calm=true)(hi:PI X tg iter wi)(hg:PG X tg g)(hb:cA X body tb)
  (hs:∀x,foldedSetIterable iter X.env x=pure x:=by intro _;rfl):PS X (.For tg iter body [] pos) (KJ wi g tb):=by
 intro ae s Z H D I h;refine wpAny_For (bI (hi ae s Z H _ I h) λv s1 h1=>bI h1 λEM s2 h2=>?_) hs
 obtain⟨it,fp,tn,J,H2,e,I2,T,qr,f2,W,⟨m0,w0⟩,turn⟩:=h2;subst e;have oF:∀{H':Hp},(∀b∈fp,H' b=none)->∀b∈fp,jU X ae H' b:=λhn b hb=>⟨hn b hb,(f2 b hb).2⟩
 refine codeAny_forLoop_any (λn s'=>∃i Z' H',Inv X ae Z' H' s'/\tn i s'.heap/\(∀b∈fp,H' b=none)/\W i n Z' H') ?_ m0 ⟨0,Z,H2,I2,qr,λb hb=>(f2 b hb).1,w0⟩
 rintro n s3 ⟨i,Z3,H3,I3,QE,P4,w3⟩;rcases turn i n Z3 H3 w3 with⟨stop,qn⟩|⟨go,N,hN,step⟩
 ·refine wpAny_passesOwn hp (bI (T.done X rfl rfl rfl hc i ae s3 Z3 H3 X.xe I3 (oF P4) QE stop) λr s4 ⟨hr,I4⟩=>?_)
  subst hr;exact wpAny_execs_nil ⟨Z3,H3,I4,qn⟩
 ·refine wpAny_passesOwn hp (bI (T.item X rfl rfl rfl hc i ae s3 Z3 H3 X.xe I3 (oF P4) QE go) λr s4 ⟨u,hr,h4⟩=>?_)
  subst hr;refine wpAny_passesOwn hp (bI h4 λ_ s5 hh=>?_)
  obtain⟨x,H5,I5,r5,y5,xY,Jc⟩:=hh;have Fe:=I5.pinned (oF Jc) (T.obj _ _ xY);refine wpAny_passesOwn hp (bI (hg _ s5 Z3 H5 x u _ Fe r5 (step x H5 y5)) λ_ s6 hh=>?_)
  obtain⟨Z6,H6,I6,q6⟩:=hh;refine wpAny_passesOwn hp (bI (hb _ s6 Z6 H6 _ I6 q6) λf s7 q7=>?_)
  have again:∀{Z7:St} {H7:Hp},Inv X (ae++AE fp s5.heap) Z7 H7 s7->N Z7 H7->∃m,m < n/\∃i Z' H',Inv X ae Z' H' s7/\tn i s7.heap/\(∀b∈fp,H' b=none)/\W i m Z' H':=λ{Z7 H7} I7 n7=>by
   obtain⟨m',hm,w7⟩:=hN Z7 H7 n7;refine⟨m',hm,i+1,Z7,H7,I7.g_,T.keep _ _ _ xY λb hb o e=>(I7.pin (b,o) (nY _ (nY _ (z_ hb e)))).1,λb hb=>?_,w7⟩
   obtain⟨o,e,d⟩:=T.obj _ _ xY b hb;exact(I7.pin (b,o) (nY _ (nY _ (z_ hb e)))).2.1
  cases f with
  |next=>obtain⟨Z7,H7,I7,n7⟩:=q7;exact again I7 n7
  |cont=>obtain⟨Z7,H7,I7,n7⟩:=q7;exact again I7 n7
  |brk=>obtain⟨Z7,H7,I7,q7⟩:=q7;exact⟨Z7,H7,I7.g_,q7⟩
  |ret v=>obtain⟨x7,Z7,H7,I7,r7,q7⟩:=q7;exact⟨x7,Z7,H7,I7.g_,r7,q7⟩
end
end L2
namespace L2
open PySem PySem.Spec PyProof.Rows
variable{ae:List (Addr×Obj)}{s:Shared}{Z:St}{H:Hp}{f:Value->Value->Sem Value}{op:CmpOp}{g:Int->Int->Int}{x:V}{us:List Value}
abbrev R2:=V->V->Hp->VK->Prop
variable{r r':R2}
def fW(X:Cx)(f:Value->Value->Sem Value)(r:R2):Prop:=
 ∀(ae:List (Addr×Obj)) (s:Shared) (Z:St) (H:Hp) (x y:V) (v u:Value) (Q:VK),Inv X ae Z H s->RelV x v->RelV y u->r x y H Q->
  wpAny (model X.prog X.w) X.A (f v u) (EP X ae Z Q) X.xe s
def CQ(X:Cx)(f:Value->Sem Value)(r:V->Hp->VK->Prop):Prop:=
 ∀(ae:List (Addr×Obj)) (s:Shared) (Z:St) (H:Hp) (x:V) (v:Value) (Q:VK),Inv X ae Z H s->RelV x v->r x H Q->
  wpAny (model X.prog X.w) X.A (f v) (EP X ae Z Q) X.xe s
def bU(X:Cx)(f:Value)(r:List V->Hp->VK->Prop):Prop:=
 ∀(ae:List (Addr×Obj)) (s:Shared) (Z:St) (H:Hp) (xs:List V) (us:List Value) (Q:VK),Inv X ae Z H s->Vals xs us->r xs H Q->
  wpAny (model X.prog X.w) X.A (call f us) (EP X ae Z Q) X.xe s
def Fo(X:Cx)(r:V->Hp->(Bool->Hp->Prop)->Prop):Prop:=
 ∀(ae:List (Addr×Obj)) (s:Shared) (Z:St) (H:Hp) (x:V) (v:Value) (Q:Bool->Hp->Prop),Inv X ae Z H s->RelV x v->r x H Q->
  wpAny (model X.prog X.w) X.A (truthy v) (TP X ae Z Q) X.xe s
def EV(r:R2)(ta tb:TE):TE:=λZ H Q=>ta Z H λx H1=>tb Z H1 λy H2=>r x y H2 Q
def tUn(r:V->Hp->VK->Prop)(ta:TE):TE:=λZ H Q=>ta Z H λx H1=>r x H1 Q
def rI(C:Int->Int->Prop)(g:Int->Int->V):R2:=λx y H Q=>∃i j,x=.int i/\y=.int j/\C i j/\Q (g i j) H
def o9(g:Int->Int->V):R2:=λx y H Q=>∃i j,x=.int i/\y=.int j/\Q (g i j) H
def rU(g:Int->V):V->Hp->VK->Prop:=λx H Q=>∃i,x=.int i/\Q (g i) H
section
variable {X:Cx} {a b c:Expr} {ta tb tc:TE} {pos:Pos}
theorem wD(ha:PE X a ta)(hb:PE X b tb){R:V->V->Hp->Prop}(I:Inv X ae Z H s)
  (h:ta Z H λx H1=>tb Z H1 λy H2=>R x y H2) {Q:Value->Shared->Prop} 
  (hf:∀v u s2 x y H2,Inv X ae Z H2 s2->RelV x v->RelV y u->R x y H2->wpAny (model X.prog X.w) X.A (f v u) Q X.xe s2) :
  wpAny (model X.prog X.w) X.A (eval a X.env) (λv s₁=>wpAny (model X.prog X.w) X.A (eval b X.env) (λu s₂=>wpAny (model X.prog X.w) X.A (f v u) Q X.xe s₂) X.xe s₁) X.xe s:=by
 refine bI (ha ae s Z H _ I h) λv s1 hh=>?_
 obtain⟨x,H1,I1,r1,q1⟩:=hh;refine bI (hb ae s1 Z H1 _ I1 q1) λu s2 hh=>?_
 obtain⟨y,H2,I2,r2,q2⟩:=hh;exact hf v u s2 x y H2 I2 r1 r2 q2
theorem Z0{op:Operator}(ho:fW X (binaryOp op) r)(ha:PE X a ta)(hb:PE X b tb):PE X (.BinOp a op b pos) (EV r ta tb):=by
 intro ae s Z H Q I h;exact wpAny_BinOp (wD ha hb I h λv u s2 x y H2 I2 rx ry q=>ho ae s2 Z H2 x y v u Q I2 rx ry q)
theorem Z4{op:UnaryOp}{r:V->Hp->VK->Prop}(ho:CQ X (unaryOp op) r)(ha:PE X a ta):PE X (.UnaryOp op a pos) (tUn r ta):=by
 intro ae s Z H Q I h;exact UnaryOp_ (bI (ha ae s Z H _ I h) λv s1 ⟨x,H1,I1,r1,q1⟩=>ho ae s1 Z H1 x v Q I1 r1 q1)
theorem J5{C:Int->Int->Prop}
  (rule:∀(i j:Int) (t u:Tok) (s:Shared) (Q:Value->Shared->Prop) (E:Value->Shared->Prop),C i j->Q (.int (g i j) s.toks) { s with toks:=s.toks+1}->wpAny (model X.prog X.w) X.A (f (.int i t) (.int j u)) Q E s) :
  fW X f (rI C λi j=>.int (g i j)):=by
 intro ae s Z H x y v u Q I rx ry h;obtain⟨i,j,rfl,rfl,hc,q⟩:=h;obtain⟨t,rfl⟩:=rx;obtain⟨t',rfl⟩:=ry;exact rule i j t t' s _ _ hc ⟨.int (g i j),H,I.tok _,⟨_,rfl⟩,q⟩
theorem BV
  (rule:∀(i j:Int) (t u:Tok) (s:Shared) (Q:Value->Shared->Prop) (E:Value->Shared->Prop),Q (.int (g i j) s.toks) { s with toks:=s.toks+1}->wpAny (model X.prog X.w) X.A (f (.int i t) (.int j u)) Q E s) :
  fW X f (o9 λi j=>.int (g i j)):=by
 intro ae s Z H x y v u Q I rx ry h;obtain⟨i,j,rfl,rfl,q⟩:=h;obtain⟨t,rfl⟩:=rx;obtain⟨t',rfl⟩:=ry;exact rule i j t t' s _ _ ⟨.int (g i j),H,I.tok _,⟨_,rfl⟩,q⟩
theorem xy{g:Int->Int->Bool}
  (rule:∀(i j:Int) (t u:Tok) (s:Shared) (Q:Value->Shared->Prop) (E:Value->Shared->Prop),Q (.bool (g i j)) s->wpAny (model X.prog X.w) X.A (f (.int i t) (.int j u)) Q E s) :
  fW X f (o9 λi j=>.bl (g i j)):=by
 intro ae s Z H x y v u Q I rx ry h;obtain⟨i,j,rfl,rfl,q⟩:=h;obtain⟨t,rfl⟩:=rx;obtain⟨t',rfl⟩:=ry;exact rule i j t t' s _ _ ⟨.bl (g i j),H,I,rfl,q⟩
def vN(i j:Int):Prop:=0 < j/\j < 1073741824
def sM(i j:Int):Prop:=(-(2 ^ 64) < i/\i < 2 ^ 64)\/(-(2 ^ 64) < j/\j < 2 ^ 64)
theorem sM.ok{i j:Int}(h:sM i j):IntMulOk i j:=by
 rcases h with⟨h1,h2⟩|⟨h1,h2⟩
 ·exact .of_left (intBits_le_64 h1 h2)
 ·exact .of_right (intBits_le_64 h1 h2)
theorem xA:fW X (binaryOp .Add) (o9 λi j=>.int (i+j)):=BV λ_ _ _ _ _ _ _ q=>add_int q
theorem Yv:fW X (binaryOp .Sub) (o9 λi j=>.int (i - j)):=BV λ_ _ _ _ _ _ _ q=>sub_int q
theorem xE:fW X (binaryOp .Mult) (rI sM λi j=>.int (i * j)):=J5 λ_ _ _ _ _ _ _ hc q=>mul_int q hc.ok
theorem Wo:fW X (binaryOp .FloorDiv) (rI vN λi j=>.int (i / j)):=J5 λi j _ _ _ _ _ hc q=>by
 have h1:(0:Int) < j:=hc.1;have h2:j < 1073741824:=hc.2;exact floordiv_int (by omega) (by rw[Int.fdiv_eq_ediv_of_nonneg i (by omega)];exact q) (.inl (PyProof.noPylong_small (by omega)))
theorem Yw:fW X (binaryOp .Mod) (rI (λ_ j=>0 < j) λi j=>.int (i % j)):=J5 λi j _ _ _ _ _ hc q=>by
 have h1:(0:Int) < j:=hc;exact mod_int' (by omega) (by rw[Int.fmod_eq_emod_of_nonneg i (by omega)];exact q)
theorem unI{f:Value->Sem Value}{g:Int->Int}
  (rule:∀(i:Int) (t:Tok) (s:Shared) (Q:Value->Shared->Prop) (E:Value->Shared->Prop),Q (.int (g i) s.toks) { s with toks:=s.toks+1}->wpAny (model X.prog X.w) X.A (f (.int i t)) Q E s) :
  CQ X f (rU λi=>.int (g i)):=by
 intro ae s Z H x v Q I rx h;obtain⟨i,rfl,q⟩:=h;obtain⟨t,rfl⟩:=rx;exact rule i t s _ _ ⟨.int (g i),H,I.tok _,⟨_,rfl⟩,q⟩
theorem Yx:CQ X (unaryOp .USub) (rU λi=>.int (-i)):=unI λ_ _ _ _ _ q=>neg_int q
end
section
variable {X:Cx} {a b c:Expr} {ta tb tc:TE} {pos:Pos}
theorem sY{Q:VK}{k k':Bool}(I:Inv X ae Z H s)(q:Q (.bl k) H)(e:k=k'):EP X ae Z Q (.bool k') s:=by
 subst e;exact⟨.bl k,H,I,rfl,q⟩
theorem Z5:fW X (compareOp .Lt) (o9 λi j=>.bl (decide (i < j))):=xy λ_ _ _ _ _ _ _ q=>lt_int q
theorem IF:fW X (compareOp .LtE) (o9 λi j=>.bl (decide (i<=j))):=xy λ_ _ _ _ _ _ _ q=>le_int q
theorem Z8:fW X (compareOp .Gt) (o9 λi j=>.bl (decide (j < i))):=xy λ_ _ _ _ _ _ _ q=>gt_int q
theorem Ta:fW X (compareOp .In) (λx y H Q=>∃i j,x=.str i/\y=.str j/\Q (.bl (!(Builtin.Str.occurrences j i 0 j.length 1).isEmpty)) H):=by
 intro ae s Z H x y v u Q I rx ry h;obtain⟨i,j,rfl,rfl,q⟩:=h;obtain⟨t,rfl⟩:=rx;obtain⟨t',rfl⟩:=ry;exact in_str (sY I q rfl)
theorem xD:fW X (compareOp .Is) (λx y H Q=>y=.az/\Q (.bl (decide (x=.az))) H):=by
 intro ae s Z H x y v u Q I rx ry h;obtain⟨rfl,q⟩:=h;cases ry;refine is_none_gen (sY I q ?_);cases x <;> first
  |(cases rx;rfl)
  |(obtain⟨t,rfl⟩:=rx;rfl)
theorem tY:fW X (compareOp .IsNot) (λx y H Q=>y=.az/\Q (.bl (!decide (x=.az))) H):=by
 intro ae s Z H x y v u Q I rx ry h;obtain⟨rfl,q⟩:=h;cases ry;refine isnot_none_gen (sY I q ?_);cases x <;> first
  |(cases rx;rfl)
  |(obtain⟨t,rfl⟩:=rx;rfl)
theorem Rz:fW X (compareOp .NotIn) (λx y H Q=>∃i j,x=.str i/\y=.str j/\Q (.bl (!(!(Builtin.Str.occurrences j i 0 j.length 1).isEmpty))) H):=by
 intro ae s Z H x y v u Q I rx ry h;obtain⟨i,j,rfl,rfl,q⟩:=h;obtain⟨t,rfl⟩:=rx;obtain⟨t',rfl⟩:=ry;exact notIn_str (sY I q rfl)
theorem fW.or(h:fW X f r)(h':fW X f r'):fW X f (λx y H Q=>r x y H Q\/r' x y H Q):=by
 intro ae s Z H x y v u Q I rx ry q;rcases q with q|q
 ·exact h ae s Z H x y v u Q I rx ry q
 ·exact h' ae s Z H x y v u Q I rx ry q
theorem Wq(ho:fW X (compareOp op) r)(ha:PE X a ta)(hb:PE X b tb)(hm:behindInMarks op b=false):PE X (.Compare a [op] [b] pos) (EV r ta tb):=by
 intro ae s Z H Q I h;exact wpAny_Compare1 (wD ha hb I h λv u s2 x y H2 I2 rx ry q=>ho ae s2 Z H2 x y v u Q I2 rx ry q) hm
def rN(t:TE):TT:=λZ H Q=>t Z H λx H'=>∃k,x=.bl k/\Q k H'
theorem Wr(ho:fW X (compareOp op) r)(ha:PE X a ta)(hb:PE X b tb)(hm:behindInMarks op b=false):PT X (.Compare a [op] [b] pos) (rN (EV r ta tb)):=by
 intro ae s Z H Q I h;refine wpAny_isTrue_Compare1 (bI (ha ae s Z H _ I h) λv s1 ⟨x,H1,I1,r1,q1⟩=>bI (hb ae s1 Z H1 _ I1 q1) λu s2 ⟨y,H2,I2,r2,q2⟩=>
  bI (ho ae s2 Z H2 x y v u _ I2 r1 r2 q2) λc s3 ⟨z,H3,I3,r3,k,e,q3⟩=>?_) hm
 subst e;cases r3;exact wpAny_truthy_bool ⟨H3,I3,q3⟩
def OY(r r':R2)(ta tb tc:TE):TE:=λZ H Q=>ta Z H λx H1=>tb Z H1 λy H2=>r x y H2 λz H3=>∃k,z=.bl k/\
 (if k=true then tc Z H3 λw' H4=>r' y w' H4 Q else Q (.bl false) H3)
theorem UW{xx:CmpOp}(ho:fW X (compareOp op) r)(tJ:fW X (compareOp xx) r')(ha:PE X a ta)(hb:PE X b tb)(hc:PE X c tc)
  (hm:lastMarks [op,xx] [b,c]=false:=by with_unfolding_all rfl):PT X (.Compare a [op,xx] [b,c] pos) (rN (OY r r' ta tb tc)):=by
 intro ae s Z H Q I h;refine isTrue_chain (bI (ha ae s Z H _ I h) λv s1 ⟨x,H1,I1,r1,q1⟩=>test_link (bI (hb ae s1 Z H1 _ I1 q1) λu s2 ⟨y,H2,I2,r2,q2⟩=>
  bI (ho ae s2 Z H2 x y v u _ I2 r1 r2 q2) λd s3 ⟨z,H3,I3,r3,k,e,q3⟩=>?_)) hm
 subst e;cases r3;refine wpAny_truthy_bool ?_;cases k with
 |false=>
  obtain⟨k',e',q'⟩:=q3;cases e';exact ite_ff ⟨H3,I3,q'⟩
 |true=>
  refine ite_tt (test_last (bI (hc ae s3 Z H3 _ I3 q3) λw' s4 ⟨z',H4,I4,r4,q4⟩=>bI (tJ ae s4 Z H4 y z' u w' _ I4 r2 r4 q4) λd' s5 ⟨z2,H5,I5,r5,k2,e2,q5⟩=>?_))
  subst e2;cases r5;exact wpAny_truthy_bool ⟨H5,I5,q5⟩
def vT(K:PySem.W.Frag)(x:V)(H:Hp)(k:Bool):Prop:=
 match x with
 |.az=>k=false
 |.bl b=>k=b
 |.int i=>k=(i != 0)
 |.str y=>y.length<=sizeLine/\k=((y.length:Int) != 0)
 |.uS y=>y.size<=sizeLine/\k=((y.size:Int) != 0)
 |.ref p=>(∃xs,dY K H p xs/\k = !xs.isEmpty)\/(∃xs,jm K H p xs/\k = !xs.isEmpty)\/∃kvs,H p=some (.dK kvs)/\k = !kvs.isEmpty
 |_=>False
theorem Sh{κ:Type}{kvs:List (κ×V)}{vs:List (κ×Value)}(r:KV kvs vs):(!vs.isEmpty) = !kvs.isEmpty:=by
 cases r <;> rfl
theorem L9{xs:List V}{aG:List Value}(r:Vals xs aG):(!aG.toArray.isEmpty) = !xs.isEmpty:=by
 cases r <;> simp
theorem wt:(sizeLine:Nat) < 2 ^ 63:=by rw[sizeLine_eq];decide
theorem Yy:Fo X (λx H Q=>∃k,vT X.K x H k/\Q k H):=by
 intro ae s Z H x v Q I rx h;obtain⟨k,e,q⟩:=h;have hl:=wt;have hs:sizeLine=16777216:=sizeLine_eq;cases x with
 |az=>
  cases rx;have e':k=false:=e;subst e';exact truthy_none ⟨H,I,q⟩
 |bl b=>
  cases rx;have e':k=b:=e;subst e';exact wpAny_truthy_bool ⟨H,I,q⟩
 |int i=>
  obtain⟨t,rfl⟩:=rx;have e':k=(i != 0):=e;subst e';exact PySem.P.truthy_int ⟨H,I,q⟩
 |str y=>
  obtain⟨t,rfl⟩:=rx;obtain⟨hy,e'⟩:y.length<=sizeLine/\k=((y.length:Int) != 0):=e;subst e';exact PySem.P.truthy_str (by omega) ⟨H,I.tok _,q⟩
 |uS y=>
  obtain⟨t,rfl⟩:=rx;obtain⟨hy,e'⟩:y.size<=sizeLine/\k=((y.size:Int) != 0):=e;subst e';exact PySem.W.truthy_bytes (by omega) ⟨H,I.tok _,q⟩
 |ref p=>
  cases rx;have e':(∃xs,dY X.K H p xs/\k = !xs.isEmpty)\/(∃xs,jm X.K H p xs/\k = !xs.isEmpty)\/∃kvs,H p=some (.dK kvs)/\k = !kvs.isEmpty:=e;rcases e' with⟨xs,hx,e'⟩|⟨xs,hx,e'⟩|⟨kvs,hx,e'⟩
  ·subst e';obtain⟨aG,r,pl,hz⟩:=I.list hx;have hlen:=r.length;exact wpAny_truthy_list pl.isList (by simp only[fE];omega) ⟨H,I.tok _,by rw[L9 r];exact q⟩
  ·subst e';obtain⟨aG,r,pl,hz⟩:=I.tuple hx;have hlen:=r.length;exact truthy_tuple pl (by simp only[fE];omega) ⟨H,I.tok _,by rw[L9 r];exact q⟩
  ·subst e';obtain⟨hz,hS,vs,r,m⟩:kvs.length<=sizeLine/\(p == sysModules)=false/\∃vs,KV kvs vs/\s.heap.DictOf (HN X.prog X.w) p vs:=I.bF p _ hx;have hlen:kvs.length=vs.length:=Paired.length r;exact wpAny_truthy_dict hS m (by omega) ⟨H,I.tok _,by rw[Sh r];exact q⟩
 |_=>exact(show False from e).elim
theorem UX(ha:PE X a ta)(he:∀whole,isTrue a X.env whole=(do let v <-whole;standAt a.pos;holding [v] (truthy v))):
  PT X a (λZ H Q=>ta Z H λx H'=>∃k,vT X.K x H' k/\Q k H'):=by
 intro ae s Z H Q I h;exact isTrue_plain (bI (ha ae s Z H _ I h) λv s1 ⟨x,H1,I1,r1,q1⟩=>Yy ae s1 Z H1 x v Q I1 r1 q1) (he _)
theorem oC:fW X (binaryOp .Add) (λx y H Q=>∃i j,x=.str i/\y=.str j/\i.length+j.length<=sizeLine/\Q (.str (i++j)) H):=by
 intro ae s Z H x y v u Q I rx ry h;obtain⟨i,j,rfl,rfl,hz,q⟩:=h;obtain⟨t,rfl⟩:=rx;obtain⟨t',rfl⟩:=ry;exact add_str (λt' tk=>⟨.str (i++j),H,I.tok _,⟨_,rfl⟩,q⟩) hz
theorem vals1(r:Vals [x] us):∃u,us=[u]/\RelV x u:=by
 cases r with
 |cons r1 r2=>cases r2;exact⟨_,rfl,r1⟩
theorem vals2{y:V}(r:Vals [x,y] us):∃u w',us=[u,w']/\RelV x u/\RelV y w':=by
 cases r with
 |cons r1 r2=>
  cases r2 with
  |cons r3 r4=>cases r4;exact⟨_,_,rfl,r1,r3⟩
theorem Tb(hc:X.calm=true):bU X (.builtin "max") (λxs H Q=>∃i j,xs=[.int i,.int j]/\Q (.int (if j > i then j else i)) H):=by
 intro ae s Z H xs us Q I r h;obtain⟨i,j,rfl,q⟩:=h;obtain⟨u,w',rfl,⟨t,rfl⟩,⟨t',rfl⟩⟩:=vals2 r;refine max_two_ints (I.ok.hd hc) λh' tk k=>⟨_,H,I.kept k,?_,q⟩
 by_cases hj:j > i
 ·rw[if_pos hj,if_pos hj];exact⟨_,rfl⟩
 ·rw[if_neg hj,if_neg hj];exact⟨_,rfl⟩
end
end L2
namespace L2
open PySem PySem.Spec PyProof.Rows
variable{h:Heap}{dx C:Addr}{mA:Str->Option Value}{Q:Value->Shared->Prop}{v:V}{o:Option Value}{u:Value}{K:PySem.W.Frag}{f:Str}
structure n5 (h:Heap) (x dx C:Addr) (mA:Str->Option Value):Prop where
 obj:h.get? x=some (PySem.W.instObj C dx)
 ns:h.Ns1 dx mA
 ne:dx≠x
theorem Tc(n:h.Ns1 dx mA):∃od,h.get? dx=some od/\∀name,PySem.W.lookIn name od=some (mA name):=by
 obtain⟨o,es,ep,ho,hd,hk,_,hm⟩:=n;refine⟨o,ho,λname=>?_⟩
 have e:=hm name;unfold nsFind findBy at e;rw[<-Array.find?_toList] at e;unfold PySem.W.lookIn;rw[hd];dsimp only;split
 ·rename_i y q
  rw[q] at e;exact congrArg some e
 ·rename_i q
  rw[q] at e;have a:es.toList.any (·.refKey)=false:=by
   rw[List.any_eq_false];intro y hy;obtain⟨z,t,JB⟩:=hk y (K6.mp hy);simp[DictEntry.refKey,JB]
  have a':¬es.toList.any (·.refKey)=true:=by rw[a];exact nM
  rw[if_neg a'];exact congrArg some e
theorem n5.look{x:Addr}(I:n5 h x dx C mA):∃od,PySem.W.InstAt h x (PySem.W.instObj C dx) C (some od)/\∀name,PySem.W.lookIn name od=some (mA name):=
 let ⟨od,ho,hl⟩:=Tc I.ns
 ⟨od,⟨I.obj,rfl,rfl,ho⟩,hl⟩
section
variable {prog:Program} {w:World} {A:Around} {E:Value->Shared->Prop} {s:Shared} {K:PySem.W.Frag} {x dx C f:Addr} {mA:Str->Option Value} {name:Str} {v:Value}
theorem Ws{expr:Bool}(X:K.In s.heap)(I:n5 s.heap x dx C mA)(hg:PySem.W.plainGet K C name=true)(hh:PySem.W.hasDictIn K C=true)
  (ha:PySem.W.findIn K (.ref C) name=some none) (hv:mA name=some v) (zq:PySem.W.handedIn v=true) (h:Q v { s with toks:=s.toks+1}) :
  wpAny (model prog w) A (getAttr (.ref x) name expr) Q E s:=by
 obtain⟨od,J,hl⟩:=I.look;exact PySem.W.get_value X J (PySem.W.plainGet_of hg).1 (PySem.W.findObj_own hh ha rfl (by rw[hl,hv])) zq h
theorem UY{pl:Sem Bool}{Q:Value×List Value->Shared->Prop}(X:K.In s.heap)(I:n5 s.heap x dx C mA)(hg:PySem.W.plainGet K C name=true)
  (hf:PySem.W.findIn K (.ref C) name=some (some (.ref f))) (ht:PySem.W.isFn K (.ref f)=true) (hv:mA name=none) (h:Q (.ref f,[.ref x]) s) :
  wpAny (model prog w) A (getMethod (.ref x) name pl) Q E s:=by
 obtain⟨od,J,hl⟩:=I.look;exact PySem.W.method_fn X J (PySem.W.plainGet_of hg).1 (PySem.W.plainGet_of hg).2 hf (beq_iff_eq.mp ht) (by show(PySem.W.lookIn name od).map (·.isSome)=some false;rw[hl,hv];rfl) h
theorem Wt{ns:List Str}{Q:Unit->Shared->Prop}(X:K.In s.heap)(I:n5 s.heap x dx C mA)
  (hs:PySem.W.findIn K (.ref C) "__setattr__"=some (some (.builtin "object.__setattr__"))) (hp:PySem.W.plainOver K C=true) (ht:PySem.W.takerIn K C name=some none) (hh:PySem.W.hasDictIn K C=true)
  (hw:PySem.Within mA ns) (hsz:ns.length<=sizeLine)
  (h:∀h',n5 h' x dx C (λy=>if y=name then some v else mA y)->Heap.SameBut dx s.heap h'->Q () { s with heap:=h',toks:=s.toks+2}) :
  wpAny (model prog w) A (setAttr (.ref x) name v) Q E s:=by
 obtain⟨od,J,hl⟩:=I.look;refine PySem.W.set_plain X J hs (PySem.W.osa_open (s:={ s with toks:=s.toks+1}) (r:=none) X J hp ht λb=>?_)
 obtain⟨cd,hc,Jr⟩:=PySem.W.any_some hh;have hx:s.heap.get? x=some ⟨.ref C,some dx,.plain,#[]⟩:=I.obj;refine wpAny_bind (wpAny_pure (wpAny_bind (wpAny_bind (wpAny_loadPart hx (wpAny_bind (PySem.W.Looks.here (s:={ s with toks:=s.toks+1}) (PySem.W.looks_clsIn X hc) ?_))))));rw[Jr];refine wpAny_pure (a:=some dx) (wpAny_bind (wpAny_pure (wpAny_bind ?_)));refine wpAny_nsSet1 (s:={ s with toks:=s.toks+1}) I.ns λh' qU Qj=>?_
 obtain⟨oD,esD,epD,JF,Js,hcD⟩:=qU.count (PySem.Within.cons name v hw);refine wpAny_bind (wpAny_lookBehind JF (by rw[Js];exact pastItsLine_dict (lC hcD (by rw[kd];omega))) ?_)
 exact wpAny_pure (h _ ⟨(Qj.2 _ (Ne.symm I.ne)).trans I.obj,qU,I.ne⟩ Qj)
theorem UZ{R:Result->Shared->Prop}{vs:List Value}{kw:List (Str×Value)}(X:K.In s.heap)(hm:PySem.W.makesIn K C=true)
  (hi:PySem.W.findIn K (.ref C) "__init__"=some (some (.ref f))) (hf:PySem.W.typeIn K (.ref f)=some (.type "function"))
  (h:codeAny (model prog w) (A.under (.builtin "type.__call__" ⟨.ref C::vs,kw⟩)) (.call (.ref f) ⟨.ref (s.heap.objs.size+1)::vs,kw⟩) (PySem.W.InitBack (s.heap.objs.size+1) R)
   {s with heap:=(s.heap.push PySem.W.emptyDict).push (PySem.W.instObj C s.heap.objs.size)}) :
  codeAny (model prog w) A (.call (.ref C) ⟨vs,kw⟩) R s:=by
 obtain⟨hh,g,d,t,os⟩:=s;exact PySem.W.make_core (PySem.W.makes_of X hm) (PySem.W.looks_findIn X hi) (λself=>PySem.W.bind_fn X self hf) (.inl rfl) h
end
def fU(f:Str)(v:V):List (Str×V)->List (Str×V)
 |[]=>[(f,v)]
 |(g,x)::r=>if g=f then(g,v)::r else(g,x)::fU f v r
theorem LZ(f g:Str)(v:V):∀fs:List (Str×V),(fU f v fs).lookup g=if g=f then some v else fs.lookup g
 |[]=>by
  show List.lookup g [(f,v)]=_;by_cases h:g=f
  ·have hb:(g == f)=true:=beq_iff_eq.mpr h;simp only[List.lookup,hb,if_pos h]
  ·have hb:(g == f)=false:=beq_eq_false_iff_ne.mpr h;simp only[List.lookup,hb,if_neg h]
 |(k,x)::r=>by
  have ih:=LZ f g v r;rw[show fU f v ((k,x)::r)=(if k=f then(k,v)::r else(k,x)::fU f v r) from rfl]
  by_cases hk:k=f
  ·rw[if_pos hk];by_cases h:g=k
   ·have hb:(g == k)=true:=beq_iff_eq.mpr h;simp only[List.lookup,hb,if_pos (h.trans hk)]
   ·have hb:(g == k)=false:=beq_eq_false_iff_ne.mpr h;simp only[List.lookup,hb,if_neg (λe:g=f=>h (e.trans hk.symm))]
  ·rw[if_neg hk];by_cases h:g=k
   ·have hb:(g == k)=true:=beq_iff_eq.mpr h;simp only[List.lookup,hb,if_neg (λe:g=f=>hk (h.symm.trans e))]
   ·have hb:(g == k)=false:=beq_eq_false_iff_ne.mpr h;simp only[List.lookup,hb];exact ih
theorem GY(f:Str)(v:V):∀fs:List (Str×V),f∈(fU f v fs).map (·.1)/\∀g,g∈fs.map (·.1)->g∈(fU f v fs).map (·.1)
 |[]=>⟨by simp[fU],λg h=>by simp at h⟩
 |(k,x)::r=>by
  obtain⟨i1,i2⟩:=GY f v r;rw[show fU f v ((k,x)::r)=(if k=f then(k,v)::r else(k,x)::fU f v r) from rfl]
  by_cases hk:k=f
  ·rw[if_pos hk];subst hk;exact⟨by simp,λg h=>by simpa using h⟩
  ·rw[if_neg hk];refine⟨?_,λg h=>?_⟩
   ·rw[dX];exact oI _ i1
   ·rw[dX] at h ⊢;rcases fV.mp h with e|e
    ·exact fV.mpr (.inl e)
    ·exact oI _ (i2 g e)
theorem L0(f:Str)(v:V):∀fs:List (Str×V),(fU f v fs).length<=fs.length+1
 |[]=>by simp[fU]
 |(k,x)::r=>by
  have ih:=L0 f v r;rw[show fU f v ((k,x)::r)=(if k=f then(k,v)::r else(k,x)::fU f v r) from rfl]
  by_cases hk:k=f
  ·rw[if_pos hk,kd,kd];omega
  ·rw[if_neg hk,kd,kd];omega
theorem jF.some_of(r:jF (some v) o):∃u,o=some u/\RelV v u:=by
 cases o with
 |none=>exact(show False from r).elim
 |some u=>exact⟨u,rfl,r⟩
theorem jF.none_of(r:jF none o):o=none:=by
 cases o with
 |none=>rfl
 |some u=>exact(show False from r).elim
theorem Td(r:RelV v u):PySem.W.handedIn u=true:=by
 cases v with
 |az=>cases(show u=Value.none from r);rfl
 |bl b=>cases(show u=Value.bool b from r);rfl
 |int i=>obtain⟨t,e⟩:=(show ∃t,u=Value.int i t from r);cases e;rfl
 |str x=>obtain⟨t,e⟩:=(show ∃t,u=Value.str x t from r);cases e;rfl
 |uS b=>obtain⟨t,e⟩:=(show ∃t,u=Value.bytes b t from r);cases e;rfl
 |uX b=>obtain⟨t,e⟩:=(show ∃t,u=Value.float b t from r);cases e;rfl
 |ref a=>cases(show u=Value.ref a from r);rfl
 |ty n=>cases(show u=Value.type n from r);rfl
section
variable {P:Program} {w:World} {H H':Hp} {h h':Heap} {a C dx:Addr} {fs zf:List (Str×V)}
theorem HP(bF:jV P w H h)(e:H a=some (.ins C dx fs)):∃mA,n5 h a dx C mA/\(∀f,jF (fs.lookup f) (mA f))/\PySem.Within mA (fs.map (·.1))/\fs.length<=1000/\H dx=some (.own a):=by
 obtain⟨d,z,ne,ob,mA,n,r,q⟩:=(show bx P w H h a (.ins C dx fs) from bF a _ e);exact⟨mA,⟨ob,n,ne⟩,r,q,z,d⟩
end
structure nO (K:PySem.W.Frag) (C:Addr):Prop where
 pg:PySem.W.plainGet K C Str.empty=true
 hd:PySem.W.hasDictIn K C=true
 po:PySem.W.plainOver K C=true
 sa:PySem.W.findIn K (.ref C) "__setattr__"=some (some (.builtin "object.__setattr__"))
theorem nO.get(c:nO K C)(f:Str):PySem.W.plainGet K C f=true:=c.pg
def iI(K:PySem.W.Frag)(C:Addr)(f:Str):Prop:=PySem.W.findIn K (.ref C) f=some none
theorem iI.Ck(n:iI K C f):PySem.W.takerIn K C f=some none:=by
 unfold PySem.W.takerIn;rw[show PySem.W.findIn K (.ref C) f=some none from n];rfl
structure Con (K:PySem.W.Frag) (C:Addr) (f:Str) (v:V) (u:Value):Prop where
 at_:PySem.W.findIn K (.ref C) f=some (some u)
 rel:RelV v u
 get:PySem.W.specialIn K u "__get__"=some none
 cp:PySem.W.copiedNames.contains f=false
structure Meth (K:PySem.W.Frag) (C:Addr) (m:Str) (f:Addr):Prop where
 at_:PySem.W.findIn K (.ref C) m=some (some (.ref f))
 fn:PySem.W.isFn K (.ref f)=true
 kp:PySem.W.keepIn K (.ref f)=true
section
variable {X:Cx} {ae:List (Addr×Obj)} {Z:St} {H:Hp} {s:Shared} {a C dx:Addr} {fs:List (Str×V)} {f:Str} {v:V} {A:Around} {E:Value->Shared->Prop}
theorem L_{b:Bool}(I:Inv X ae Z H s)(e:H a=some (.ins C dx fs))(c:nO X.K C)(n:iI X.K C f)(l:fs.lookup f=some v)
  (h:∀u s',Inv X ae Z H s'->RelV v u->Q u s'):wpAny (model X.prog X.w) A (getAttr (.ref a) f b) Q E s:=by
 obtain⟨mA,O,r,_,_,_⟩:=HP I.bF e;obtain⟨u,hu,ru⟩:=jF.some_of (v:=v) (o:=mA f) (by rw[<-l];exact r f)
 exact Ws I.lu O (c.get f) c.hd n hu (Td ru) (h u _ (I.tok _) ru)
theorem Ma{m:Str}{g:Addr}{pl:Sem Bool}{Q:Value×List Value->Shared->Prop}(I:Inv X ae Z H s)(e:H a=some (.ins C dx fs))(c:nO X.K C)(k:Meth X.K C m g)(l:fs.lookup m=none)
  (h:Q (.ref g,[.ref a]) s):wpAny (model X.prog X.w) A (getMethod (.ref a) m pl) Q E s:=by
 obtain⟨mA,O,r,_,_,_⟩:=HP I.bF e;have hn:mA m=none:=jF.none_of (by rw[<-l];exact r m)
 exact UY I.lu O (c.get m) k.at_ k.fn hn h
theorem Mb{y:V}{Q:Unit->Shared->Prop}(I:Inv X ae Z H s)(e:H a=some (.ins C dx fs))(c:nO X.K C)(n:iI X.K C f)(hl:fs.length < 1000)(ry:RelV y u)
  (h:∀s',Inv X ae Z (upd H a (.ins C dx (fU f y fs))) s'->Q () s'):wpAny (model X.prog X.w) A (setAttr (.ref a) f u) Q E s:=by
 obtain⟨mA,O,r,wi,_,ho⟩:=HP I.bF e;have hz:(fs.map (·.1)).length<=sizeLine:=by rw[cz,sizeLine_eq];omega
 refine Wt I.lu O c.sa c.po n.Ck c.hd wi hz λh' O' sb=>h _ ?_
 have hd:∃o,h'.get? dx=some o:=let ⟨o,_,_,e',_⟩:=O'.ns;⟨o,e'⟩
 refine I.write (x:=a) (e:=dx) (by rw[e];exact True.intro) (.inr ho) (λb q hb z=>(sb.2 b hb).trans z) hd ?_
 refine⟨by rw[eX O.ne];exact ho,?_,O.ne,O'.obj,_,O'.ns,λg=>?_,λg hg=>?_⟩
 ·have:=L0 f y fs;omega
 ·show jF ((fU f y fs).lookup g) (if g=f then some u else mA g)
  rw[LZ];by_cases q:g=f
  ·rw[if_pos q,if_pos q];exact ry
  ·rw[if_neg q,if_neg q];exact r g
 ·by_cases q:g=f
  ·rw[q];exact(GY f y fs).1
  ·refine(GY f y fs).2 g (wi g λz=>hg ?_)
   show(if g=f then some u else mA g)=none
   rw[if_neg q];exact z
theorem Inv.made(I:Inv X ae Z H s):Inv X ae Z (upd (upd H s.heap.objs.size (.own (s.heap.objs.size+1))) (s.heap.objs.size+1) (.ins C s.heap.objs.size []))
  {s with heap:=(s.heap.push PySem.W.emptyDict).push (PySem.W.instObj C s.heap.objs.size)}:=by
 have e1:(s.heap.push PySem.W.emptyDict).get? s.heap.objs.size=some PySem.W.emptyDict:=kA s.heap rfl;have e2:((s.heap.push PySem.W.emptyDict).push (PySem.W.instObj C s.heap.objs.size)).get? (s.heap.objs.size+1)=some (PySem.W.instObj C s.heap.objs.size):=by
  have:=kA (s.heap.push PySem.W.emptyDict) (o:=PySem.W.instObj C s.heap.objs.size) rfl
  rwa [Heap.size_push] at this
 have e3:(s.heap.push PySem.W.emptyDict).Ns s.heap.objs.size (λ_=>none):=⟨PySem.W.emptyDict,#[],_,e1,rfl,(λe he=>absurd he (by simp)),λ_=>rfl⟩
 have I1:=I.laid (a:=s.heap.objs.size) (o:=.own (s.heap.objs.size+1)) (h':=s.heap.push PySem.W.emptyDict) (t':=s.toks) (λb u q=>fg _ q) (cI _) ⟨_,e1⟩
 refine I1.laid (a:=s.heap.objs.size+1) (o:=.ins C s.heap.objs.size []) (t':=s.toks) (λb u q=>fg _ q) (Cy (Heap.size_push _ _)) ?_
 have ne:s.heap.objs.size≠s.heap.objs.size+1:=jl (sF _);refine⟨by rw[eX ne,aL],mU _,ne,e2,λ_=>none,(Heap.Ns1.of_empty e3).at λo q=>fg _ q,λ_=>True.intro,λy hy=>absurd rfl hy⟩
theorem Wu{prog:Program}{w:World}{env:Env}{e:Expr}{pos:Pos}{s:Shared}(hb:attributeBase e f env (eval e env)=eval e env)
  (h:wpAny (model prog w) A (eval e env) (λo s₁=>wpAny (model prog w) A (getAttr o f true) Q E s₁) E s):wpAny (model prog w) A (eval (.Attribute e f pos) env) Q E s:=
 Attribute_any_ h (by rw[arm_eval_Attribute,hb])
end
def KI(K:PySem.W.Frag)(ta:TE)(f:Str):TE:=λZ H Q=>ta Z H λx H1=>∃a C dx fs v,x=.ref a/\H1 a=some (.ins C dx fs)/\nO K C/\iI K C f/\fs.lookup f=some v/\Q v H1
def Kp(K:PySem.W.Frag)(ta tv:TE)(f:Str):TS:=λD Z H=>tv Z H λy H1=>ta Z H1 λx H2=>∃a C dx fs,x=.ref a/\H2 a=some (.ins C dx fs)/\nO K C/\iI K C f/\fs.length < 1000/\
 D.nx Z (upd H2 a (.ins C dx (fU f y fs)))
def vQ(X:Cx)(op:Operator)(rd:V->V->Hp->VK->Prop):Prop:=
 ∀(ae:List (Addr×Obj)) (s:Shared) (Z:St) (H:Hp) (x y:V) (u v:Value) (Q:VK),Inv X ae Z H s->RelV x u->RelV y v->rd x y H Q->wpAny (model X.prog X.w) X.A (inplaceOp op u v) (EP X ae Z Q) X.xe s
def Wv(K:PySem.W.Frag)(ta tv:TE)(rd:V->V->Hp->VK->Prop)(f:Str):TS:=λD Z H=>ta Z H λx H1=>∃a C dx fs v,x=.ref a/\H1 a=some (.ins C dx fs)/\nO K C/\iI K C f/\fs.lookup f=some v/\
 tv Z H1 λy H2=>rd v y H2 λz H3=>∃IJ zf,H3 a=some (.ins C IJ zf)/\zf.length < 1000/\D.nx Z (upd H3 a (.ins C IJ (fU f z zf)))
section
variable {X:Cx} {o e value:Expr} {f:Str} {pos pos' iz:Pos} {ta tv:TE}
theorem Yz(he:PE X e ta)(hb:attributeBase e f X.env (eval e X.env)=eval e X.env):PE X (.Attribute e f pos) (KI X.K ta f):=by
 intro ae s Z H Q I h;refine Wu hb (bI (he ae s Z H _ I h) λu s1 hh=>?_)
 obtain⟨x,H1,I1,rx,a,C,dx,fs,v,ex,ea,c,n,l,q⟩:=hh;subst ex;obtain rfl:u=Value.ref a:=rx;exact L_ I1 ea c n l λu' s2 I2 ru=>⟨v,H1,I2,ru,q⟩
theorem YA(ha:PE X o ta)(hv:PE X value tv)(hs:swapsWith value (some (.Attribute o f pos')) pos.line X.env=pure false):PS X (.Assign [.Attribute o f pos'] value pos) (Kp X.K ta tv f):=by
 intro ae s Z H D I h;refine plainObj_wpAny_Assign_Attribute (bI (hv ae s Z H _ I h) λu s1 ⟨y,H1,I1,ry,q⟩=>bI (ha ae s1 Z H1 _ I1 q) λov s2 ⟨x,H2,I2,rx,a,C,dx,fs,ex,ea,c,n,l,q2⟩=>?_) hs
 subst ex;obtain rfl:ov=Value.ref a:=rx;exact Mb I2 ea c n l ry λs3 I3=>⟨Z,_,I3,q2⟩
theorem Te{op:Operator}{rd:V->V->Hp->VK->Prop}(ha:PE X o ta)(hv:PE X value tv)(w_:vQ X op rd):PS X (.AugAssign (.Attribute o f iz) op value pos) (Wv X.K ta tv rd f):=by
 intro ae s Z H D I h;refine wpAny_AugAssign_AttributeAny (bI (ha ae s Z H _ I h) λov s1 hh=>?_)
 obtain⟨x,H1,I1,rx,a,C,dx,fs,v,ex,ea,c,n,l,q⟩:=hh;subst ex;obtain rfl:ov=Value.ref a:=rx;refine L_ I1 ea c n l λu s2 I2 ru=>bI (hv ae s2 Z H1 _ I2 q) λw3 s3 ⟨y,H2,I3,ry,q3⟩=>bI (w_ ae s3 Z H2 v y u w3 _ I3 ru ry q3) λw4 s4 ⟨z,H3,I4,rz,IJ,zf,ρ,l',q4⟩=>?_
 exact Mb I4 ρ c n l' rz λs5 I5=>⟨Z,_,I5,q4⟩
def Ki:V->V->Hp->VK->Prop:=λx y H Q=>∃i j,x=.int i/\y=.int j/\Q (.int (i+j)) H
theorem YB:vQ X .Add Ki:=by
 rintro ae s Z H x y u v Q I rx ry ⟨i,j,rfl,rfl,q⟩;obtain⟨t,rfl⟩:=(show ∃t,u=Value.int i t from rx);obtain⟨t',rfl⟩:=(show ∃t',v=Value.int j t' from ry);exact PyProof.Rows.iadd_int ⟨.int (i+j),H,I.tok _,⟨_,rfl⟩,q⟩
end
section
variable {X:Cx} {ae:List (Addr×Obj)} {Z:St} {H:Hp} {s:Shared} {A:Around} {E:Value->Shared->Prop} {Q:Value->Shared->Prop} {c:Value} {b:Bool}
inductive kW (K:PySem.W.Frag) (H:Hp):V->Value->Prop where
 |az:kW K H .az (.type "NoneType")
 |bl (x:Bool):kW K H (.bl x) (.type "bool")
 |int (i:Int):kW K H (.int i) (.type "int")
 |str (x:Str):kW K H (.str x) (.type "str")
 |uX (x:UInt64):kW K H (.uX x) (.type "float")
 |lst {a:Addr} {xs:List V} (e:H a=some (.lst xs)):kW K H (.ref a) (.type "list")
 |Y {a:Addr} {o:Obj} {xs:List V} (e:H a=some (.Y o (.lst xs))):kW K H (.ref a) (.type "list")
 |tup {a:Addr} {xs:List V} (e:H a=some (.tup xs)):kW K H (.ref a) (.type "tuple")
 |dK {a:Addr} {kvs:List (Key×V)} (e:H a=some (.dK kvs)):kW K H (.ref a) (.type "dict")
 |dT {a:Addr} {kvs:List (List Key×V)} (e:H a=some (.dT kvs)):kW K H (.ref a) (.type "dict")
 |ins {a C dx:Addr} {fs:List (Str×V)} (e:H a=some (.ins C dx fs)) (cl:nO K C) (ha:PySem.W.findIn K (.ref C) "__class__"=some (some (.builtin "object.__class__")))
   (hn:PySem.W.specialIn K (.builtin "object.__class__") "__get__"=some (some (.builtin "getset_descriptor.__get__"))) (Ql:PySem.W.takesIn K (.builtin "object.__class__")=some true)
   (hm:PySem.W.mroIn K C (.type "object")=some true):kW K H (.ref a) (.ref C)
end
end L2
namespace L2
open PySem PySem.Spec PyProof.Rows
variable{k:Nat}{A:Around}{C f:Addr}{us:List Value}{kw:List (Str×Value)}{P:Program}{w:World}{K:PySem.W.Frag}{mg:Str->Option Value}{base:Heap}{outer:List Env}{s:Shared}{H:Hp}{Q:VK}{ps N:List Str}{ae:List (Addr×Obj)}{Z:St}{vs:List V}{qual:Str}{scope:Scope}
structure cL (k:Nat) (A:Around):Prop where
 hd:A.handled=none
 dp:A.depth+3 * k+5 < recursionLimit
 un:A.units+16 * k+200 < cLine
theorem cL.mono{j:Nat}(r:cL k A)(h:j<=k):cL j A:=⟨r.hd,by have:=r.dp;omega,by have:=r.un;omega⟩
theorem cL.deeper{k:Nat}{A:Around}(r:cL (k+1) A)(env:Env):cL k (A.deeper env):=
 ⟨r.hd,by have:=r.dp;show A.depth+1+3 * k+5 < _;omega,by have:=r.un;show A.units+3+16 * k+200 < _;omega⟩
theorem Si:(A.under (.builtin "type.__call__" ⟨.ref C::us,kw⟩)).depth=A.depth+1:=by
 first|rfl|simp[Around.under,Code.weight,Code.isCreation,Code.isGuard,Code.isCaller,Code.frames,Code.isFrame,guardIds]
theorem Sj:(A.under (.builtin "type.__call__" ⟨.ref C::us,kw⟩)).units=A.units+1:=by
 first|rfl|simp[Around.under,Code.cUnits,Code.frames,Code.isFrame]
theorem cL.make(r:cL (k+1) A)(C:Addr)(us:List Value)(kw:List (Str×Value)):cL k (A.under (.builtin "type.__call__" ⟨.ref C::us,kw⟩)):=
 ⟨r.hd,by have:=r.dp;rw[Si];omega,by have:=r.un;rw[Sj];omega⟩
theorem cL.depth{k:Nat}{A:Around}(r:cL k A):A.depth < recursionLimit:=by have:=r.dp;omega
theorem cL.units{k:Nat}{A:Around}(r:cL k A):A.units+64 < cLine:=by have:=r.un;omega
def ue:TA:=λ_ H Q=>Q [] H
def rL(ta:TE)(tr:TA):TA:=λZ H Q=>ta Z H λx H1=>tr Z H1 λxs H2=>Q (x::xs) H2
section
variable {X:Cx} {e:Expr} {es:List Expr} {te:TE} {t:TA} {pos:Pos}
theorem mK:PA X [] ue:=λ_ _ _ _ H Q I h=>Calls.spliced_nil ⟨[],H,I,.nil,h⟩
theorem DJ(ha:PE X e te)(hr:PA X es t)(hs:starEach (e::es) X.env=(false,eval e X.env)::starEach es X.env:=by rfl):PA X (e::es) (rL te t):=by
 intro pos ae s Z H Q I h;rw[hs];show wpAny _ _ (spliced ((false,eval e X.env)::backTo pos (starEach es X.env))) _ _ s;refine Calls.spliced_cons (bI (ha ae s Z H _ I h) λu s1 hh=>?_)
 obtain⟨x,H1,I1,r1,q1⟩:=hh;exact bI (hr pos ae s1 Z H1 _ I1 q1) λus s2 ⟨xs,H2,I2,r2,q2⟩=>⟨x::xs,H2,I2,.cons r1 r2,q2⟩
def KR(t:TA):TE:=λZ H Q=>t Z H λxs H1=>xs.length<=sizeLine/\∀p,H1 p=none->Q (.ref p) (upd H1 p (.tup xs))
def KN(t:TA):TE:=λZ H Q=>t Z H λxs H1=>xs.length<=sizeLine/\∀p,H1 p=none->Q (.ref p) (upd H1 p (.lst xs))
theorem YC{x1}(h:PA X es t):PE X (.Tuple es x1 pos) (KR t):=by
 intro ae s Z H Q I hq;refine wpAny_Tuple_spliced (bI (h pos ae s Z H _ I hq) λus s1 ⟨xs,H1,I1,r,z,q⟩=>⟨by rw[<-r.length];exact z,?_⟩)
 have hf:H1 s1.heap.objs.size=none:=I1.bF.fresh (cI _);refine⟨.ref s1.heap.objs.size,upd H1 s1.heap.objs.size (.tup xs),I1.laid (t':=s1.toks) (λb u e=>fg _ e) (cI _) ?_,rfl,q _ hf⟩
 exact⟨z,us,r,⟨_,kA _ rfl,rfl,_,rfl⟩⟩
theorem YD(h:PA X es t):PE X (.List es pos) (KN t):=by
 intro ae s Z H Q I hq;refine wpAny_List_spliced (bI (h pos ae s Z H _ I hq) λus s1 ⟨xs,H1,I1,r,z,q⟩=>⟨by rw[<-r.length];exact z,?_⟩)
 have hf:H1 s1.heap.objs.size=none:=I1.bF.fresh (cI _);refine⟨.ref s1.heap.objs.size,upd H1 s1.heap.objs.size (.lst xs),I1.laid (t':=s1.toks) (λb u e=>fg _ e) (cI _) ?_,rfl,q _ hf⟩
 exact⟨z,us,0,r,kA _ rfl⟩
end
abbrev Sp:=List V->Hp->VK->XK->Prop
abbrev rY:=List Env->Hp->Shared->XK->Value->Shared->Prop
variable{CX:rY}
structure n4 (P:Program) (w:World) (K:PySem.W.Frag) (mg:Str->Option Value) (base:Heap) (A:Around) (outer:List Env) (s:Shared) (H:Hp):Prop where
 frames:A.frames=some outer
 mod:Mod K mg base
 bs:∀b o,base.get? b=some o->s.heap.get? b=some o/\H b=none
 wH:base.objs.size<=s.heap.objs.size
 lQ:s.heap.FunFrames base outer
 A4:∀b∈lP outer,H b=none
 bF:jV P w H s.heap
 bare:AllBare s.gens
def CE(outer:List Env)(P:Program)(w:World)(H:Hp)(s:Shared)(Q:VK)(u:Value)(s':Shared):Prop:=
 ∃v H',s'.os=s.os/\AllBare s'.gens/\Un (lP outer) [] H H' s.heap s'.heap/\jV P w H' s'.heap/\RelV v u/\Q v H'
def CR(CX:rY)(outer:List Env)(P:Program)(w:World)(H:Hp)(s:Shared)(Q:VK)(E:XK)(r:Result)(s':Shared):Prop:=
 match r with
 |.ok (.ret u)=>CE outer P w H s Q u s'
 |.ok _=>False
 |.error e=>CX outer H s E e s'
structure aQ (P:Program) (w:World) (K:PySem.W.Frag) (mg:Str->Option Value) (base:Heap) (CX:rY) (k:Nat) (f:Addr) (fd:FuncData) (ps:List Str) (sp:Sp):Prop where
 len:∀vs H Q E,sp vs H Q E->vs.length=ps.length
 run:∀(A:Around) (outer:List Env) (s:Shared) (H:Hp) (args:Args) (us:List Value) (vs:List V) (Q:VK) (E:XK),cL k A->n4 P w K mg base A outer s H->BindsTo s fd args (ps.zip us)->Vals vs us->sp vs H Q E->
  codeAny (model P w) A (.call (.ref f) args) (CR CX outer P w H s Q E) s
theorem n4.make(e:n4 P w K mg base A outer s H)(C:Addr)(us:List Value)(kw:List (Str×Value)):
  n4 P w K mg base (A.under (.builtin "type.__call__" ⟨.ref C::us,kw⟩)) outer s H:=⟨by first|exact e.frames|(simpa[Around.under,Code.envs,Code.isFrame,pushEnvs] using e.frames),e.mod,e.bs,e.wH,e.lQ,e.A4,e.bF,e.bare⟩
section
variable {X:Cx} {ae:List (Addr×Obj)} {Z:St} {H:Hp} {s s':Shared}
theorem Inv.AY(I:Inv X ae Z H s):n4 X.prog X.w X.K X.mg X.base X.A X.stack s H:=
 ⟨I.ok.frames,I.ok.mod,I.bs,lC I.ok.wH I.sz,I.stack,I.mR,I.bF,I.bare⟩
theorem Inv.after{u:Value}(I:Inv X ae Z H s)(h:CE X.stack X.prog X.w H s Q u s'):EP X ae Z Q u s':=by
 obtain⟨v,H',os,bare,un,bF,r,q⟩:=h;obtain⟨hh,g,d,t,os'⟩:=s';obtain rfl:os'=s.os:=os;exact⟨v,H',I.call (h':=hh) (g':=g) (d':=d) (t':=t) (ch:=[]) un bF bare (λb z=>absurd z (by simp)),r,q⟩
end
def Cf(sp:Sp)(lO:List V)(E:St->XK)(t:TA):TE:=λZ H Q=>t Z H λvs H1=>sp (vs++lO) H1 Q (E Z)
def rM(C:Addr)(m:Str)(sp:Sp)(lO:List V)(E:St->XK)(ta:TE)(t:TA):TE:=λZ H Q=>ta Z H λx H1=>∃a dx fs,x=.ref a/\H1 a=some (.ins C dx fs)/\fs.lookup m=none/\
 t Z H1 λvs H2=>sp (x::(vs++lO)) H2 Q (E Z)
def vF(C:Addr)(sp:Sp)(lO:List V)(E:St->XK)(t:TA):TE:=λZ H Q=>t Z H λvs H1=>∀x dx,H1 x=none->H1 dx=none->dx≠x->
 sp (.ref x::(vs++lO)) (upd (upd H1 dx (.own x)) x (.ins C dx [])) (λv H2=>v=.az/\Q (.ref x) H2) (E Z)
def Binds(K:PySem.W.Frag)(fd:FuncData)(ps:List Str)(ds:List Value):Prop:=
 ∀(s:Shared) (us:List Value),K.In s.heap->(us++ds).length=ps.length->BindsTo s fd ⟨us,[]⟩ (ps.zip (us++ds))
theorem Binds.all{fd:FuncData}(h:∀us:List Value,us.length=ps.length->bindArgs fd ⟨us,[]⟩=pure (ps.zip us)):Binds K fd ps []:=λs us _ hl=>by
 rw[p7] at hl ⊢;exact .of_eq (h us hl)
def wu(CX:rY)(X:Cx)(E:St->XK):Prop:=∀(ae:List (Addr×Obj)) (Z:St) (H:Hp) (s:Shared) (e:Value) (s':Shared),Inv X ae Z H s->CX X.stack H s (E Z) e s'->X.xe e s'
section
variable {X:Cx} {CX:rY} {k:Nat} {f C:Addr} {fd:FuncData} {ps:List Str} {sp:Sp} {lO:List V} {ds:List Value} {E:St->XK} {x m:Str} {p pos apos:Pos} {e o:Expr} {es:List Expr} {ta:TE} {t:TA}
theorem Ij(F:aQ X.prog X.w X.K X.mg X.base CX k f fd ps sp)(hr:cL k X.A)(hb:Binds X.K fd ps ds)(hd:Vals lO ds)(hx:wu CX X E)
  (I:Inv X ae Z H s) (r:Vals vs us) (h:sp (vs++lO) H Q (E Z)):wpAny (model X.prog X.w) X.A (call (.ref f) us) (EP X ae Z Q) X.xe s:=by
 have r2:Vals (vs++lO) (us++ds):=r.append hd;have hl:(us++ds).length=ps.length:=by rw[<-r2.length];exact F.len _ _ _ _ h
 refine wpAny_call (codeAny_mono (F.run X.A X.stack s H ⟨us,[]⟩ (us++ds) (vs++lO) Q (E Z) hr I.AY (hb s us I.lu hl) r2 h) λr s' hq=>?_)
 cases r with
 |error e=>exact hx ae Z H s e s' I hq
 |ok fl=>
  cases fl with
  |ret u=>exact I.after hq
  |next=>exact False.elim hq
  |brk=>exact False.elim hq
  |cont=>exact False.elim hq
theorem Ww(F:aQ X.prog X.w X.K X.mg X.base CX k f fd ps sp)(hr:cL k X.A)(hg:Gl X x)(hm:X.mg x=some (.ref f))(hk:PySem.W.keepIn X.K (.ref f)=true)(hb:Binds X.K fd ps ds)(hd:Vals lO ds)(hx:wu CX X E)
  (ha:PA X (e::es) t) (mD:(x == ("__debug__":Str))=false:=by decide) (he:starEach (e::es) X.env=(false,eval e X.env)::starEach es X.env:=by rfl) (kE:(backTo pos (starEach es X.env)).any (·.1)=false:=by rfl) :
  PE X (.Call (.Name x p) (e::es) [] pos) (Cf sp lO E t):=by
 intro ae s Z H Q I h;refine wpAny_Call_Name_kw (Ap I hg hm ?_ mD);refine PySem.W.callWith_K (h₀:=X.base) I.ok.mod.zw hk (bI (ha pos ae s Z H _ I h) λus s1 ⟨vs,H1,I1,r,q⟩=>⟨I1.lu,?_⟩) he kE
 exact Ij F hr hb hd hx I1 r q
theorem Wx{pl:Sem Bool}(he:PE X o ta)(c:nO X.K C)(hm:Meth X.K C m f)(F:aQ X.prog X.w X.K X.mg X.base CX k f fd ps sp)(hr:cL k X.A)(hb:Binds X.K fd ps ds)(hd:Vals lO ds)(hx:wu CX X E)(ha:PA X (e::es) t)
  (oA:starEach (e::es) X.env=(false,eval e X.env)::starEach es X.env:=by rfl) (kE:(backTo pos (starEach es X.env)).any (·.1)=false:=by rfl)
  (ht:eval (.Call (.Attribute o m apos) (e::es) [] pos) X.env=(do
   let ov <-eval o X.env
   standAt apos.atName
   let (f,first) <-holding [ov] (getMethod ov m pl)
   callWith pos f first (backTo pos (starEach (e::es) X.env)) (backToKw pos (keywordEach [] X.env))):=by rfl) :
  PE X (.Call (.Attribute o m apos) (e::es) [] pos) (rM C m sp lO E ta t):=by
 intro ae s Z H Q I h;refine PySem.W.methodCall_KW (pl:=pl) (bI (he ae s Z H _ I h) λu s1 hh=>?_) ht
 obtain⟨x,H1,I1,rx,a,dx,fs,ex,ea,l,q⟩:=hh;subst ex;obtain rfl:u=Value.ref a:=rx;refine Ma I1 ea c hm l ?_;refine PySem.W.callWith_K (first:=[.ref a]) (h₀:=X.base) I.ok.mod.zw hm.kp (bI (ha pos ae s1 Z H1 _ I1 q) λus s2 ⟨vs,H2,I2,r,q2⟩=>⟨I2.lu,?_⟩) oA kE
 exact Ij (us:=.ref a::us) (vs:=.ref a::vs) F hr hb hd hx I2 (.cons rfl r) q2
theorem U0{pl:Sem Bool}(he:PE X o ta)(c:nO X.K C)(hm:Meth X.K C m f)(F:aQ X.prog X.w X.K X.mg X.base CX k f fd ps sp)(hr:cL k X.A)(hb:Binds X.K fd ps ds)(hd:Vals lO ds)(hx:wu CX X E)
  (ht:eval (.Call (.Attribute o m apos) [] [] pos) X.env=(do
   let ov <-eval o X.env
   standAt apos.atName
   let (f,first) <-holding [ov] (getMethod ov m pl)
   callWith pos f first (backTo pos (starEach [] X.env)) (backToKw pos (keywordEach [] X.env))):=by rfl) :
  PE X (.Call (.Attribute o m apos) [] [] pos) (rM C m sp lO E ta ue):=by
 intro ae s Z H Q I h;refine PySem.W.methodCall_KW (pl:=pl) (bI (he ae s Z H _ I h) λu s1 hh=>?_) ht
 obtain⟨x,H1,I1,rx,a,dx,fs,ex,ea,l,q⟩:=hh;subst ex;obtain rfl:u=Value.ref a:=rx;refine Ma I1 ea c hm l ?_;exact PySem.W.callWith_K0 (first:=[.ref a]) I1.lu hm.kp (Ij (us:=[.ref a]) (vs:=[.ref a]) F hr hb hd hx I1 (.cons rfl .nil) q)
structure Mk (K:PySem.W.Frag) (C f:Addr):Prop where
 makes:PySem.W.makesIn K C=true
 init:PySem.W.findIn K (.ref C) "__init__"=some (some (.ref f))
 fn:PySem.W.isFn K (.ref f)=true
 kp:PySem.W.keepIn K (.ref C)=true
theorem U3(M:Mk X.K C f)(F:aQ X.prog X.w X.K X.mg X.base CX k f fd ps sp)(hr:cL (k+1) X.A)(hb:Binds X.K fd ps ds)(hd:Vals lO ds)
  (hx:wu CX X E) (I:Inv X ae Z H s) (r:Vals vs us)
  (h:∀x dx,H x=none->H dx=none->dx≠x->sp (.ref x::(vs++lO)) (upd (upd H dx (.own x)) x (.ins C dx [])) (λv H2=>v=.az/\Q (.ref x) H2) (E Z)) :
  wpAny (model X.prog X.w) X.A (call (.ref C) us) (EP X ae Z Q) X.xe s:=by
 have hq:=h (s.heap.objs.size+1) s.heap.objs.size (I.bF.fresh (um _)) (I.bF.fresh (cI _)) (jl (sF _));have I2:=Inv.made (C:=C) I;have r2:Vals (V.ref (s.heap.objs.size+1)::(vs++lO)) (Value.ref (s.heap.objs.size+1)::(us++ds)):=.cons rfl (r.append hd);have hl:(Value.ref (s.heap.objs.size+1)::us++ds).length=ps.length:=by
  have e:=r2.length;rw[F.len _ _ _ _ hq] at e;exact e.symm
 refine wpAny_call (UZ (f:=f) I.lu M.makes M.init (beq_iff_eq.mp M.fn) (codeAny_mono (F.run _ X.stack _ _ ⟨Value.ref (s.heap.objs.size+1)::us,[]⟩ (Value.ref (s.heap.objs.size+1)::(us++ds)) _ _ (E Z) (hr.make C us [])
  (I2.AY.make C us []) (hb _ (Value.ref (s.heap.objs.size+1)::us) I2.lu hl) r2 hq) λr s' Bm=>?_))
 cases r with
 |error e=>exact hx ae Z _ _ e s' I2 Bm
 |ok fl=>
  cases fl with
  |ret u=>
   obtain⟨v,H',I3,rv,ev,q3⟩:=I2.after Bm;subst ev;exact⟨rv,⟨V.ref (s.heap.objs.size+1),H',I3,rfl,q3⟩⟩
  |next=>exact False.elim Bm
  |brk=>exact False.elim Bm
  |cont=>exact False.elim Bm
theorem Wz(M:Mk X.K C f)(F:aQ X.prog X.w X.K X.mg X.base CX k f fd ps sp)(hr:cL (k+1) X.A)(hg:Gl X x)(hm:X.mg x=some (.ref C))(hb:Binds X.K fd ps ds)(hd:Vals lO ds)(hx:wu CX X E)
  (ha:PA X (e::es) t) (mD:(x == ("__debug__":Str))=false:=by decide) (he:starEach (e::es) X.env=(false,eval e X.env)::starEach es X.env:=by rfl) (kE:(backTo pos (starEach es X.env)).any (·.1)=false:=by rfl) :
  PE X (.Call (.Name x p) (e::es) [] pos) (vF C sp lO E t):=by
 intro ae s Z H Q I h;refine wpAny_Call_Name_kw (Ap I hg hm ?_ mD);refine PySem.W.callWith_K (h₀:=X.base) I.ok.mod.zw M.kp (bI (ha pos ae s Z H _ I h) λus s1 ⟨vs,H1,I1,r,q⟩=>⟨I1.lu,?_⟩) he kE
 exact U3 M F hr hb hd hx I1 r q
end
section
variable {X:Cx} {CX:rY} {k:Nat} {f C:Addr} {fd:FuncData} {ps ks:List Str} {sp:Sp} {E:St->XK} {x m:Str} {p pos apos kpos:Pos} {e o:Expr} {es:List Expr} {kws:List Keyword} {te ta:TE} {t tk:TA} {nm:Option Str}
structure KBinds (K:PySem.W.Frag) (fd:FuncData) (ps ks:List Str) (g:List Value->List Value->List Value) (gV:List V->List V->List V):Prop where
 to:∀(s:Shared) (us ws:List Value),K.In s.heap->(g us ws).length=ps.length->BindsTo s fd ⟨us,ks.zip ws⟩ (ps.zip (g us ws))
 rel:∀{vs:List V} {us:List Value} {zs:List V} {ws:List Value},Vals vs us->Vals zs ws->Vals (gV vs zs) (g us ws)
variable {g:List Value->List Value->List Value} {gV:List V->List V->List V}
end
structure aw (N P:List Str) (sc:Scope):Prop where
 kind:sc.kind=.function
 co:sc.isCoroutine=false
 gen:sc.isGenerator=false
 nd:N.Nodup
 pre:N.take P.length=P
 par:∀x∈P,sc.names.lookup x=some .local \/ sc.names.lookup x=some .cell
 xu:∀y∈sc.names,y.2≠.free
theorem Mt{kindOf:Str->Option NameKind}{x:Str}:∀{binds:List (Str×Value)} {m:Str->Option Value},(∀v,(x,v)∉binds)->bindL kindOf binds m x=m x
 |[],_,_=>rfl
 |(n,v)::r,m,h=>by
  unfold bindL;rw[Mt λw hw=>h w (oI _ hw)]
  split
  ·have:x≠n:=by rintro rfl;exact h v qa
   simp[this]
  ·rfl
theorem Mu{kindOf:Str->Option NameKind}{x:Str}:∀{binds:List (Str×Value)} {m:Str->Option Value},(∀v,(x,v)∉binds)->bindC kindOf binds m x=m x
 |[],_,_=>rfl
 |(n,v)::r,m,h=>by
  unfold bindC;rw[Mu λw hw=>h w (oI _ hw)]
  split
  ·rfl
  ·have:x≠n:=by rintro rfl;exact h v qa
   simp[this]
theorem Mv{kindOf:Str->Option NameKind}{x:Str}{v:Value}:∀{P:List Str} {vs:List Value} {i:Nat} {m:Str->Option Value},P.Nodup->P[i]?=some x->vs[i]?=some v->kindOf x=some .local ->
  bindL kindOf (P.zip vs) m x=some v
 |[],_,_,_,_,h,_,_=>by simp at h
 |_::_,[],_,_,_,_,h,_=>by simp at h
 |p::P,w::vs,0,m,nd,h1,h2,hk=>by
  simp at h1 h2;subst h1;subst h2;show bindL kindOf ((p,w)::P.zip vs) m p=_;unfold bindL;rw[Mt λv hv=>(sG.mp nd).1 (List.of_mem_zip hv).1,if_pos hk]
  simp
 |p::P,w::vs,i+1,m,nd,h1,h2,hk=>by
  show bindL kindOf ((p,w)::P.zip vs) m x=_;unfold bindL;exact Mv (i:=i) (sG.mp nd).2 (by simpa using h1) (by simpa using h2) hk
theorem Mw{kindOf:Str->Option NameKind}{x:Str}{v:Value}:∀{P:List Str} {vs:List Value} {i:Nat} {m:Str->Option Value},P.Nodup->P[i]?=some x->vs[i]?=some v->kindOf x≠some .local ->
  bindC kindOf (P.zip vs) m x=some v
 |[],_,_,_,_,h,_,_=>by simp at h
 |_::_,[],_,_,_,_,h,_=>by simp at h
 |p::P,w::vs,0,m,nd,h1,h2,hk=>by
  simp at h1 h2;subst h1;subst h2;show bindC kindOf ((p,w)::P.zip vs) m p=_;unfold bindC;rw[Mu λv hv=>(sG.mp nd).1 (List.of_mem_zip hv).1,if_neg hk]
  simp
 |p::P,w::vs,i+1,m,nd,h1,h2,hk=>by
  show bindC kindOf ((p,w)::P.zip vs) m x=_;unfold bindC;exact Mw (i:=i) (sG.mp nd).2 (by simpa using h1) (by simpa using h2) hk
def start(N:List Str)(vs:List V):St:=vs.map some++List.replicate (N.length - vs.length) none
def nB(CX:rY)(P:Program)(w:World)(K:PySem.W.Frag)(mg:Str->Option Value)(base:Heap)(N:List Str)(qual:Str)(scope:Scope)(f:Addr)(cd:Value)(A:Around)(outer:List Env)(s:Shared)(H:Hp)(E:XK):Cx where
 prog:=P
 w:=w
 K:=K
 mg:=mg
 base:=base
 A:=A.deeper (envOfC qual scope s.heap.objs.size f cd)
 N:=N
 s₀:=s
 H₀:=H
 env:=envOfC qual scope s.heap.objs.size f cd
 outer:=outer
 stack:=envOfC qual scope s.heap.objs.size f cd::outer
 ex:=[]
 calm:=true
 fn:=λ_=>true
 pn:=[]
 xe:=λe s'=>wpAny (model P w) (A.deeper (envOfC qual scope s.heap.objs.size f cd)) (leaving (envOfC qual scope s.heap.objs.size f cd) e) (λ_ rK=>CX outer H s E e rK) (λe' rK=>CX outer H s E e' rK) s'
theorem M_{sc:Scope}{n:Nat}{x:Str}(h:sc.names.lookup x=some .cell):∃c,(cellsFrom n sc.names []).lookup x=some c:=by
 have q:=PySem.W.cellsFrom_some sc.names n [] (.inl h);exact Option.isSome_iff_exists.mp q
theorem Tf{cd:Value}{s1:Shared}{E:XK}
  (S:aw N ps scope) (hd:A.handled=none) (e0:n4 P w K mg base A outer s H) (hl:vs.length=ps.length) (r:Vals vs us)
  (x:InCallC s s.heap.objs.size (bindL (envOfC qual scope s.heap.objs.size f cd).kindOf (ps.zip us) λ_=>none) (cellsFrom (s.heap.objs.size+1) scope.names []) (bindC (envOfC qual scope s.heap.objs.size f cd).kindOf (ps.zip us) λ_=>none) s1) :
  Inv (nB CX P w K mg base N qual scope f cd A outer s H E) [] (start N vs) H s1:=by
 have kE:ps.length<=N.length:=by have:=congrArg List.length S.pre;rw[ye] at this;omega
 obtain⟨h1,tk,rfl,hk⟩:=x.done;have BN:∀b:Addr,b∉(nB CX P w K mg base N qual scope f cd A outer s H E).ex:=λb z=>absurd (show b∈([]:List Addr) from z) (by simp)
 refine⟨⟨e0.mod,S.kind,rfl,rfl,cI _,λy z c h1 h2=>?_,λy hy=>?_,λy c _ h=>?_,λ_=>hd,Around.frames_deeper e0.frames,.inr ⟨rfl,rfl⟩,λb z=>absurd z (BN b),e0.bs,e0.wH,λb _ _=>BN b,λb z=>absurd z (BN b),e0.lQ,e0.A4⟩,
  rfl,e0.bare,Un.kept hk,⟨_,x.toInCall.ns,λi y v h1 h2 h3=>?_⟩,λy c h=>⟨_,x.cell y c h⟩,e0.bF.fresh (cI _),λy c h=>?_,λp hp=>absurd (show p∈([]:List (Addr×Obj)) from hp) (by simp),e0.bF.kept hk,?_⟩
 ·exact name_of_addr x.apart (PySem.mem_of_lookup h1) (PySem.mem_of_lookup h2)
 ·have hy:scope.names.lookup y=some .cell\/scope.names.lookup y=some .free:=hy;rcases hy with hy|hy
  ·exact M_ hy
  ·exact absurd rfl (S.xu _ (PySem.mem_of_lookup hy))
 ·exact K4 (x.above y c (PySem.mem_of_lookup h))
 ·have hi:i < vs.length:=by
   unfold start at h2;by_cases hi:i < vs.length
   ·exact hi
   ·rw[qv (by simpa using hi)] at h2
    rw[K7] at h2;split at h2 <;> cases h2
  have ha:vs[i]?=some v:=by
   unfold start at h2;rw[rQ (by simpa using hi),jx] at h2
   cases e:vs[i]? with
   |none=>rw[e] at h2;cases h2
   |some a=>rw[e] at h2;cases h2;rfl
  obtain⟨u,hu,rv⟩:=r.get ha;have hp:ps[i]?=some y:=by
   rw[<-S.pre,List.getElem?_take_of_lt (by omega)];exact h1
  have Qs:ps.Nodup:=by rw[<-S.pre];exact S.nd.sublist (List.take_sublist _ _)
  refine⟨u,rv,?_⟩;rcases S.par y (rR hp) with k|k
  ·exact .inl ⟨k,Mv Qs hp hu k⟩
  ·obtain⟨c,e⟩:=M_ (n:=s.heap.objs.size+1) k;refine .inr ⟨.inl k,c,e,?_⟩;have q:=x.cell y c e;rw[Mw Qs hp hu (by show scope.names.lookup y≠_;rw[k];decide)] at q
   exact q
 ·exact e0.bF.fresh (K4 (x.above y c (PySem.mem_of_lookup h)))
 ·unfold start;show _=N.length;rw[f7,cz,oJ];omega
theorem Z9{name:Str}{params:Arguments}{body:List Stmt}{dV kV doc pm ck ct oc:Value}{an od:Option Addr}
  {sD:Array (Option Value)}  {sp:Sp} (lk:K.lookup f=some ⟨oc,od,.func (PySem.W.fnOf name qual params body scope dV kV doc pm an ck ct),sD⟩) (pS:PySem.W.codeIn K ck qual=true) (S:aw N ps scope)
  (len:∀vs H Q E,sp vs H Q E->vs.length=ps.length)
  (qR:∀(A:Around) (outer:List Env) (s:Shared) (H:Hp) (vs:List V) (Q:VK) (E:XK),cL k (A.deeper (envOfC qual scope s.heap.objs.size f ck))->sp vs H Q E->
   ∃t,cA (nB CX P w K mg base N qual scope f ck A outer s H E) body t/\t { nx:=λ_ H'=>Q .az H',rt:=Q} (start N vs) H) :
  aQ P w K mg base CX (k+1) f (PySem.W.fnOf name qual params body scope dV kV doc pm an ck ct) ps sp:=by
 refine⟨len,λA outer s H args us vs Q E hr e0 hb r u7=>?_⟩
 have hl:=len _ _ _ _ u7;have KX:K.In s.heap:=e0.mod.zw.keeps λb o e=>(e0.bs b o e).1
 have lim:s.heap.NoLimit:=e0.mod.nolimit.keeps λb o e=>(e0.bs b o e).1
 have Bf:∀y∈ps.zip us,scope.names.lookup y.1=some .local \/ (scope.names.lookup y.1=some .cell/\((cellsFrom (s.heap.objs.size+1) scope.names []).lookup y.1).isSome=true):=λ⟨n,v⟩ hy=>by
  rcases S.par n (List.of_mem_zip hy).1 with q|q
  ·exact .inl q
  ·exact .inr ⟨q,PySem.W.cellsFrom_some _ _ _ (.inl q)⟩
 refine codeAny_call_function hr.depth (KX _ _ lk) rfl S.co S.gen rfl (PySem.W.codeRec_of KX pS) (hb _ _ _ _ ?_);refine wpAny_newFunctionEnv_cells S.kind Bf λenv he s1 x=>?_
 subst he;refine⟨lim.keeps x.toInCall.keep,codeAny_func ?_⟩;obtain⟨t,ht,hq⟩:=qR A outer s H vs Q E (hr.deeper _) u7;have I:Inv (nB CX P w K mg base N qual scope f ck A outer s H E) [] (start N vs) H s1:=Tf S hr.hd e0 hl r x;refine wpAny_mono (ht [] s1 (start N vs) H _ I hq) (λfl s' hs=>?_) λe s' hs=>hs
 have fin:∀{Z':St} {H':Hp} {v:V} {u:Value},Inv (nB CX P w K mg base N qual scope f ck A outer s H E) [] Z' H' s'->RelV v u->Q v H'->CE outer P w H s Q u s':=
  λ{Z' H' v u} J rv q=>⟨v,H',J.os,J.bare,J.base,J.bF,rv,q⟩
 cases fl with
 |ret u=>
  obtain⟨v,Z',H',J,rv,q⟩:=hs;exact fin J rv q
 |next=>
  obtain⟨Z',H',J,q⟩:=hs;exact fin (v:=V.az) (u:=Value.none) J rfl q
 |brk=>
  obtain⟨_,_,_,q⟩:=hs;exact False.elim q
 |cont=>
  obtain⟨_,_,_,q⟩:=hs;exact False.elim q
end L2
namespace L2
open PySem PySem.Spec PyProof.Rows
section
variable {X:Cx} {x:Str} {p pos:Pos} {e:Expr} {es:List Expr} {t:TA} {id T:String} {r:List V->Hp->VK->Prop}
def QG(r:List V->Hp->VK->Prop)(t:TA):TE:=λZ H Q=>t Z H λvs H1=>r vs H1 Q
theorem U4(hc:bU X (.builtin id) r)(hg:Gl X x)(hm:X.mg x=none)(hv:bootBuiltins x=some (.builtin id))(ha:PA X (e::es) t)(hn:x≠"__name__":=by decide)(mD:(x == ("__debug__":Str))=false:=by decide)
  (he:starEach (e::es) X.env=(false,eval e X.env)::starEach es X.env:=by rfl) (kE:(backTo pos (starEach es X.env)).any (·.1)=false:=by rfl):PE X (.Call (.Name x p) (e::es) [] pos) (QG r t):=by
 intro ae s Z H Q I h;refine wpAny_Call_Name_kw (wq I hg hm hv ?_ hn mD);exact PyProof.Rows.callWith_builtin1 (bI (ha pos ae s Z H _ I h) λus s1 ⟨vs,H1,I1,r1,q1⟩=>hc ae s1 Z H1 vs us Q I1 r1 q1) he kE
theorem Tg(hc:bU X (.type T) r)(hg:Gl X x)(hm:X.mg x=none)(hv:bootBuiltins x=some (.type T))(ha:PA X (e::es) t)(hn:x≠"__name__":=by decide)(mD:(x == ("__debug__":Str))=false:=by decide)
  (he:starEach (e::es) X.env=(false,eval e X.env)::starEach es X.env:=by rfl) (kE:(backTo pos (starEach es X.env)).any (·.1)=false:=by rfl):PE X (.Call (.Name x p) (e::es) [] pos) (QG r t):=by
 intro ae s Z H Q I h;refine wpAny_Call_Name_kw (wq I hg hm hv ?_ hn mD);exact PyProof.Rows.callWith_type1 (bI (ha pos ae s Z H _ I h) λus s1 ⟨vs,H1,I1,r1,q1⟩=>hc ae s1 Z H1 vs us Q I1 r1 q1) he kE
end
end L2
namespace HT
open PySem PyProof.Rows
section
open PySem.SeqAt
open PySem.AutoSeq1 (wpAny_loadPart')
open PySem.MeetsSeq PySem.MeetsSeq2 PySem.MeetsSeq3
end
variable{sl:Addr}{vl vu:Value}{lo hi:Option Int}
section
variable {prog:Program} {w:World} {A:Around} {E:Value->Shared->Prop} {s:Shared}
def dA(n d:Nat):Option Int->Nat
 |none=>d
 |some v=>if v < 0 then(v+(n:Int)).toNat else min v.toNat n
theorem YE(n d:Nat)(hd:d<=n)(o:Option Int):dA n d o<=n:=by
 cases o with
 |none=>exact hd
 |some v=>
  show(if v < 0 then(v+(n:Int)).toNat else min v.toNat n)<=n
  by_cases hv:v < 0
  ·rw[if_pos hv];omega
  ·rw[if_neg hv];exact Nat.min_le_right _ _
theorem NV(v:Int)(n d:Nat):(if v < 0 then max (v+(n:Int)) 0 else min v (n:Int))=((dA n d (some v):Nat):Int):=by
 show(if v < 0 then max (v+(n:Int)) 0 else min v (n:Int))=(((if v < 0 then(v+(n:Int)).toNat else min v.toNat n):Nat):Int)
 by_cases hv:v < 0
 ·simp only[if_pos hv];omega
 ·simp only[if_neg hv];omega
theorem Sk(lo hi:Option Int)(n:Nat):Builtin.Slice.sliceAdjust lo hi 1 (n:Int)=(((dA n 0 lo:Nat):Int),((dA n n hi:Nat):Int)):=by
 have h1:¬((1:Int) < 0):=by omega
 unfold Builtin.Slice.sliceAdjust;simp only[h1,if_false];refine Prod.ext ?_ ?_
 ·cases lo with
  |none=>rfl
  |some v=>exact NV v n 0
 ·cases hi with
  |none=>rfl
  |some v=>exact NV v n n
theorem Sl(i j:Nat):Builtin.Slice.slicePlaces (i:Int) (j:Int) 1=j - i:=by
 unfold Builtin.Slice.slicePlaces;have h1:(1:Int) > 0:=by omega
 simp only[h1,if_true,Int.ediv_one];split <;> omega
theorem Mc{v:Value}{o:Option Int}{Q:Option Int->Shared->Prop}(p:IsPart v o)(h:Q o s):wpAny (model prog w) A (Builtin.Slice.slicePartIndex v) Q E s:=by
 cases p with
 |none=>exact slicePart_none h
 |int i t=>exact slicePart_int h
theorem QT{n:Nat}{Q:Int×Int×Nat->Shared->Prop}(hs:s.heap.IsSliceOf sl vl vu .none)(pl:IsPart vl lo)(pu:IsPart vu hi)
  (h:Q (((dA n 0 lo:Nat):Int),1,dA n n hi - dA n 0 lo) s):wpAny (model prog w) A (Builtin.Slice.sliceApplied (.ref sl) (pure (n:Int))) Q E s:=by
 obtain⟨os,Bl,ED,EE⟩:=id hs;unfold Builtin.Slice.sliceApplied Builtin.Slice.sliceFields;refine wpAny_bind (wpAny_bind (wpAny_field Bl EE (x:=vl) rfl (wpAny_bind (wpAny_field Bl EE (x:=vu) rfl (wpAny_bind (wpAny_field Bl EE (x:=.none) rfl (wpAny_pure ?_)))))));refine wpAny_bind (slicePart_none ?_);show wpAny _ _ (if((1:Int) == 0)=true then _ else _) _ _ s
 rw[if_neg (by decide)]
 refine wpAny_bind (Mc pl (wpAny_bind (Mc pu (wpAny_bind (wpAny_pure ?_)))));show wpAny _ _ (match Builtin.Slice.sliceAdjust lo hi 1 (n:Int) with|(lo,hi)=>pure (lo,(1:Int),Builtin.Slice.slicePlaces lo hi 1)) _ _ s
 rw[Sk lo hi n];show wpAny _ _ (pure (((dA n 0 lo:Nat):Int),(1:Int),Builtin.Slice.slicePlaces ((dA n 0 lo:Nat):Int) ((dA n n hi:Nat):Int) 1)) _ _ s;rw[Sl];exact wpAny_pure h
theorem U5(xs:Array Value)(i k:Nat):((List.range k).filterMap λ(m:Nat)=>xs[((i:Int)+(m:Int) * 1).toNat]?).toArray=((xs.toList.drop i).take k).toArray:=by
 have e:(λ(m:Nat)=>xs[((i:Int)+(m:Int) * 1).toNat]?)=λm=>xs[i+m]?:=by
  funext m;have:((i:Int)+(m:Int) * 1).toNat=i+m:=by omega
  rw[this]
 rw[e];have:=pick_run xs i k;rw[List.filterMap_map] at this;have e2:((λx=>xs[x]?)∘λx=>i+x)=λm=>xs[i+m]?:=rfl
 rw[e2] at this;rw[this]
theorem jL{t:Addr}{items:Array Value}{Q:Value->Shared->Prop}(ht:IsTup s.heap t items)(hs:s.heap.IsSliceOf sl vl vu .none)(pl:IsPart vl lo)(pu:IsPart vu hi)
  (hw:¬(dA items.size 0 lo=0/\dA items.size items.size hi=items.size))
  (h:Q (.ref s.heap.objs.size) { s with heap:=s.heap.push { cls:=.type "tuple",data:=.seq ((items.toList.drop (dA items.size 0 lo)).take (dA items.size items.size hi - dA items.size 0 lo)).toArray}})
  (hsz:items.size<=sizeLine):wpAny (model prog w) A (getItem (.ref t) (.ref sl)) Q E s:=by
 have o6:sizeOk (.seq ((items.toList.drop (dA items.size 0 lo)).take (dA items.size items.size hi - dA items.size 0 lo)).toArray):=by
  show((items.toList.drop (dA items.size 0 lo)).take (dA items.size items.size hi - dA items.size 0 lo)).toArray.size<=sizeLine;rw[fE,ye,yf,Cv];omega
 have hj:dA items.size items.size hi<=items.size:=YE _ _ (cI _) hi;obtain⟨os,Bl,ED,EE⟩:=id hs;have hTs:s.TypeIs (.ref sl) "slice":=⟨os,Bl,ED⟩;unfold getItem;try with_reducible refine wpAny_holding ?_
 first|refine wpAny_bind (wpAny_pure ?_)|skip
 refine wpAny_bind (wpAny_sequenceKey ht.typeIs (by decide) ?_)
 refine wpAny_bind (wpAny_callSpecial?_slot (name:=Str.ofString "__getitem__") ht.typeIs PyProof.Rows.slot_tuple_getitem
  (wpAny_call_entry PyProof.Rows.slot_tuple_getitem ht.typeIs entry_tuple_getitem ?_ (args_tuple_getitem _ _)))
 show wpAny _ _ (Builtin.Tuple.tupleItemsOf (.ref t) >>= _) _ _ s;refine wpAny_bind (tupleItemsOf_ ht ?_);refine wpAny_bind (wpAny_typeOf hTs ?_);rw[if_pos (by decide)]
 refine wpAny_bind (QT hs pl pu ?_);have sv:¬((((dA items.size 0 lo:Nat):Int) == 0 && (1:Int) == 1 && (dA items.size items.size hi - dA items.size 0 lo) == items.size)=true):=by
  intro q;rw[m6,m6] at q;have q1:((dA items.size 0 lo:Nat):Int)=0:=eq_of_beq q.1.1;have q2:dA items.size items.size hi - dA items.size 0 lo=items.size:=eq_of_beq q.2;exact hw ⟨by omega,by omega⟩
 show wpAny _ _ (if(((dA items.size 0 lo:Nat):Int) == 0 && (1:Int) == 1 && (dA items.size items.size hi - dA items.size 0 lo) == items.size)=true then _ else _) _ _ s
 rw[if_neg sv,U5];first
  |exact wpAny_bind (m:=Builtin.Tuple.tupleExact _) (wpAny_newObj_type (wpAny_pure ⟨_,rfl,wpAny_pure h⟩) o6)
  |exact wpAny_bind (m:=Builtin.Tuple.tupleExact _) (wpAny_newObj_type (wpAny_bind (wpAny_pure (wpAny_pure ⟨_,rfl,wpAny_pure h⟩))) o6)
  |exact wpAny_bind (wpAny_bind (m:=Builtin.Tuple.tupleExact _) (wpAny_newObj_type (wpAny_pure (wpAny_pure ⟨_,rfl,wpAny_pure h⟩)) o6))
  |exact wpAny_bind (wpAny_bind (m:=Builtin.Tuple.tupleExact _) (wpAny_newObj_type (wpAny_pure ⟨_,rfl,wpAny_pure h⟩) o6))
end
end HT
namespace L2
open PySem PySem.Spec PyProof.Rows
variable{r:V->Option Int->Option Int->Hp->VK->Prop}
abbrev TO:=St->Hp->(Option Int->Hp->Prop)->Prop
def PO(X:Cx)(e:Option Expr)(t:TO):Prop:=
 ∀(ae:List (Addr×Obj)) (s:Shared) (Z:St) (H:Hp) (Q:Option Int->Hp->Prop),Inv X ae Z H s->t Z H Q->
  wpAny (model X.prog X.w) X.A (evalPart e X.env) (λu s'=>∃o H',Inv X ae Z H' s'/\IsPart u o/\Q o H') X.xe s
def WA:TO:=λ_ H Q=>Q none H
def Cj(t:TE):TO:=λZ H Q=>t Z H λx H1=>∃i,x=.int i/\Q (some i) H1
section
variable {X:Cx} {e:Expr} {te:TE} {lo hi:Option Expr} {tl th:TO} {pos p2:Pos}
theorem WB:PO X none WA:=by
 intro ae s Z H Q I h;rw[evalPart_none];exact wpAny_pure ⟨none,H,I,.none,h⟩
theorem WC(h:PE X e te):PO X (some e) (Cj te):=by
 intro ae s Z H Q I hw;rw[evalPart_some];refine bI (h ae s Z H _ I hw) λu s1 hh=>?_
 obtain⟨x,H1,I1,r1,q1⟩:=hh;obtain⟨i,rfl,q⟩:=q1;obtain⟨t,rfl⟩:=r1;exact⟨some i,H1,I1,.int i t,q⟩
def qD(X:Cx)(r:V->Option Int->Option Int->Hp->VK->Prop):Prop:=
 ∀(ae:List (Addr×Obj)) (s:Shared) (Z:St) (H:Hp) (x:V) (v vl vu:Value) (lo hi:Option Int) (sl:Addr) (Q:VK),Inv X ae Z H s->RelV x v->s.heap.IsSliceOf sl vl vu .none->IsPart vl lo->IsPart vu hi->r x lo hi H Q->
  ∃T id,typeLookup (.type T) "__getitem__"=pure (some (.builtin id))/\s.TypeIs v T/\wpAny (model X.prog X.w) X.A (getItem v (.ref sl)) (EP X ae Z Q) X.xe s
theorem qD.or{r':V->Option Int->Option Int->Hp->VK->Prop}(h:qD X r)(h':qD X r'):qD X (λx lo hi H Q=>r x lo hi H Q\/r' x lo hi H Q):=by
 intro ae s Z H x v vl vu lo hi sl Q I rx hs pl pu q;rcases q with q|q
 ·exact h ae s Z H x v vl vu lo hi sl Q I rx hs pl pu q
 ·exact h' ae s Z H x v vl vu lo hi sl Q I rx hs pl pu q
def tSl(r:V->Option Int->Option Int->Hp->VK->Prop)(te:TE)(tl th:TO):TE:=λZ H Q=>te Z H λx H1=>tl Z H1 λl H2=>th Z H2 λu H3=>r x l u H3 Q
theorem U6(hr:qD X r)(he:PE X e te)(hl:PO X lo tl)(hu:PO X hi th):PE X (.Subscript e (.Slice lo hi none p2) pos) (tSl r te tl th):=by
 intro ae s Z H Q I h;refine Subscript_ (bI (he ae s Z H _ I h) λv s1 hh=>?_)
 obtain⟨x,H1,I1,r1,q1⟩:=hh;refine wpAny_Slice (bI (hl ae s1 Z H1 _ I1 q1) λvl s2 ⟨l,H2,I2,pl,q2⟩=>bI (hu ae s2 Z H2 _ I2 q2) λvu s3 ⟨u,H3,I3,pu,q3⟩=>?_)
 rw[evalPart_none];refine wpAny_pure ?_;have I4:Inv X ae Z H3 { s3 with heap:=s3.heap.push { cls:=.type "slice",data:=.fields #[vl,vu,.none]}}:=I3.kept (t':=s3.toks) λb ob q=>fg _ q
 obtain⟨T,id,hT,ht,hg⟩:=hr ae { s3 with heap:=s3.heap.push { cls:=.type "slice",data:=.fields #[vl,vu,.none]}} Z H3 x v vl vu l u s3.heap.objs.size Q I4 r1 (Heap.IsSliceOf.new ..) pl pu q3;show wpAny (model X.prog X.w) X.A (subscriptTail e (.Slice lo hi none p2) v (.ref s3.heap.objs.size)) (EP X ae Z Q) X.xe { s3 with heap:=s3.heap.push { cls:=.type "slice",data:=.fields #[vl,vu,.none]}};exact tail_any (ops:=[.ref s3.heap.objs.size,v]) ht hT hg (by with_unfolding_all rfl)
def nA(xs:List V)(lo hi:Option Int):List V:=(xs.drop (HT.dA xs.length 0 lo)).take (HT.dA xs.length xs.length hi - HT.dA xs.length 0 lo)
theorem L3(xs:List V)(lo hi:Option Int):(nA xs lo hi).length<=xs.length:=by
 unfold nA;rw[ye,yf];omega
def xQ(K:PySem.W.Frag):V->Option Int->Option Int->Hp->VK->Prop:=λx lo hi H Q=>∃a xs,x=.ref a/\jm K H a xs/\
 ¬(HT.dA xs.length 0 lo=0/\HT.dA xs.length xs.length hi=xs.length)/\∀p,H p=none->Q (.ref p) (upd H p (.tup (nA xs lo hi)))
theorem YF:qD X (xQ X.K):=by
 intro ae s Z H x v vl vu lo hi sl Q I rx hs pl pu h;obtain⟨a,xs,rfl,hx,hw,q⟩:=h;cases rx;obtain⟨aG,r,ht,hz⟩:=I.tuple hx;have hlen:aG.toArray.size=xs.length:=by rw[fE];exact r.length.symm
 refine⟨"tuple",_,PyProof.Rows.slot_tuple_getitem.lookup,ht.typeIs,?_⟩;refine HT.jL ht hs pl pu (by rw[hlen];exact hw) ?_ (by rw[hlen];exact hz)
 rw[hlen];refine⟨.ref s.heap.objs.size,_,I.laid (t':=s.toks) (o:=.tup (nA xs lo hi)) (λb ob q=>fg _ q) (cI _) ?_,rfl,q _ (I.bF.fresh (cI _))⟩
 exact⟨lC (L3 xs lo hi) hz,_,(r.drop (HT.dA xs.length 0 lo)).take (HT.dA xs.length xs.length hi - HT.dA xs.length 0 lo),IsTup.new _ _⟩
end
end L2
namespace L2
open PySem PySem.Spec PyProof.Rows
variable{n j:Nat}{i:Int}{r:R2}{ae:List (Addr×Obj)}{Z:St}{H:Hp}{s:Shared}
def tP(n:Nat)(i:Int):Option Nat:=if 0<=i then(if i < n then some i.toNat else none) else if -(n:Int)<=i then some (i+n).toNat else none
def eL{α:Type}(xs:List α)(i:Int):Option α:=(tP xs.length i).bind λj=>xs[j]?
theorem NW(h:tP n i=some j):seqIndex? i n=some j/\j < n /\ -(n:Int)<=i/\i < n:=by
 unfold tP at h;by_cases h0:0<=i
 ·rw[if_pos h0] at h;by_cases h1:i < n
  ·rw[if_pos h1] at h;have e:i.toNat=j:=Option.some.inj h;exact⟨by rw[seqIndex_of h0 h1,e],by omega,by omega,h1⟩
  ·rw[if_neg h1] at h;cases h
 ·rw[if_neg h0] at h;by_cases h1:-(n:Int)<=i
  ·rw[if_pos h1] at h;have e:(i+n).toNat=j:=Option.some.inj h;exact⟨by rw[seqIndex_neg (by omega) h1,e],by omega,h1,by omega⟩
  ·rw[if_neg h1] at h;cases h
theorem HQ{α:Type}{xs:List α}{v:α}(h:eL xs i=some v):∃j,seqIndex? i xs.length=some j/\xs[j]?=some v/\j < xs.length /\ -(xs.length:Int)<=i/\i < xs.length:=by
 unfold eL at h;cases e:tP xs.length i with
 |none=>rw[e] at h;cases h
 |some j=>
  rw[e] at h;obtain⟨h1,h2,h3,h4⟩:=NW e;exact⟨j,h1,h,h2,h3,h4⟩
theorem qJ{α:Type}{xs:List α}{v:α}(h:xs[j]?=some v):eL xs (j:Int)=some v:=by
 have hj:j < xs.length:=(jQ.mp h).1;have e:tP xs.length (j:Int)=some j:=by
  unfold tP;rw[if_pos (by omega),if_pos (by omega)];simp
 unfold eL;rw[e];exact h
def HR(b:Expr):Prop:=∀o i,subscripted b false o i=operate [o,i] (getItem o i)
def pF(X:Cx)(r:R2):Prop:=
 ∀(value slice:Expr) (ae:List (Addr×Obj)) (s:Shared) (Z:St) (H:Hp) (x y:V) (v u:Value) (Q:VK),Inv X ae Z H s->RelV x v->RelV y u->r x y H Q->
  subscripted slice false v u=operate [v,u] (getItem v u)->wpAny (model X.prog X.w) X.A (subscriptTail value slice v u) (EP X ae Z Q) X.xe s
def Fl(X:Cx)(id:String)(r:V->List V->Hp->VK->Prop):Prop:=
 ∀(ae:List (Addr×Obj)) (s:Shared) (Z:St) (H:Hp) (x:V) (xs:List V) (v:Value) (us:List Value) (Q:VK),Inv X ae Z H s->RelV x v->Vals xs us->r x xs H Q->
  wpAny (model X.prog X.w) X.A (call (.builtin id) (v::us)) (EP X ae Z Q) X.xe s
section
variable {X:Cx} {a b:Expr} {ta tb:TE} {pos:Pos}
theorem pF.or{r':R2}(h:pF X r)(h':pF X r'):pF X (λx y H Q=>r x y H Q\/r' x y H Q):=by
 intro value slice ae s Z H x y v u Q I rx ry q hs;rcases q with q|q
 ·exact h value slice ae s Z H x y v u Q I rx ry q hs
 ·exact h' value slice ae s Z H x y v u Q I rx ry q hs
theorem Z_(hr:pF X r)(ha:PE X a ta)(hb:PE X b tb)(hs:HR b):PE X (.Subscript a b pos) (EV r ta tb):=by
 intro ae s Z H Q I h;exact Subscript_ (wD ha hb I h λv u s2 x y H2 I2 rx ry q=>hr a b ae s2 Z H2 x y v u Q I2 rx ry q (hs _ _))
def xK(K:PySem.W.Frag):R2:=λx y H Q=>∃p xs i v,x=.ref p/\y=.int i/\dY K H p xs/\eL xs i=some v/\Q v H
def xO(K:PySem.W.Frag):R2:=λx y H Q=>∃p xs i v,x=.ref p/\y=.int i/\jm K H p xs/\eL xs i=some v/\Q v H
def B1:R2:=λx y H Q=>∃z i c,x=.str z/\y=.int i/\z.length<=sizeLine/\eL z.cps.toList i=some c/\Q (.str ⟨#[c]⟩) H
theorem WD:pF X (xK X.K):=by
 intro value slice ae s Z H x y v u Q I rx ry h hs;obtain⟨p,xs,i,z,rfl,rfl,hq,he,q⟩:=h;cases rx;obtain⟨t,rfl⟩:=ry;obtain⟨aG,r,pl,hz⟩:=I.list hq;obtain⟨j,h1,h2,h3,h4,h5⟩:=HQ he;obtain⟨w,ew,mP⟩:=r.get h2;have hl:=r.length;have hn:=wt;have fin:EP X ae Z Q w s:=⟨z,H,I,mP,q⟩;by_cases h0:0<=i
 ·have hj:i.toNat=j:=by
   rw[seqIndex_of h0 h5] at h1;exact Option.some.inj h1
  exact item_listR pl.isList h0 (by omega) (by rw[hj];simpa using ew) fin hs
 ·have hj:(i+(aG.toArray.size:Int)).toNat=j:=by
   rw[seqIndex_neg (by omega) h4] at h1
   rw[fE,<-hl];exact Option.some.inj h1
  exact subscriptTail_builtinR (x:=w) pl.isList.typeIs slot_list_getitem.lookup
   (wpAny_getItem_list_neg (Q:=λr s'=>r=w/\EP X ae Z Q r s') pl.isList (by omega) (by rw[fE] <;> omega) (by omega) (by rw[hj];simpa using ew) ⟨rfl,fin⟩) hs
theorem YG:pF X (xO X.K):=by
 intro value slice ae s Z H x y v u Q I rx ry h hs;obtain⟨p,xs,i,z,rfl,rfl,hq,he,q⟩:=h;cases rx;obtain⟨t,rfl⟩:=ry;obtain⟨aG,r,pl,hz⟩:=I.tuple hq;obtain⟨j,h1,h2,h3,h4,h5⟩:=HQ he;obtain⟨w,ew,mP⟩:=r.get h2;have hl:=r.length;have hn:=wt;have fin:EP X ae Z Q w s:=⟨z,H,I,mP,q⟩;exact subscriptTail_builtinR (x:=w) pl.typeIs slot_tuple_getitem.lookup
  (getItem_tuple (j:=j) (Q:=λr s'=>r=w/\EP X ae Z Q r s') pl (by omega) (by omega) (by rw[fE,<-hl];exact h1) (by simpa using ew) ⟨rfl,fin⟩) hs
theorem xh:pF X B1:=by
 intro value slice ae s Z H x y v u Q I rx ry h hs;obtain⟨z,i,c,rfl,rfl,hz,he,q⟩:=h;obtain⟨t,rfl⟩:=rx;obtain⟨t',rfl⟩:=ry;obtain⟨j,h1,h2,h3,h4,h5⟩:=HQ he;have hl:z.cps.toList.length=z.length:=by simp[Str.length]
 rw[hl] at h1 h4 h5;have hn:=wt;exact tail_any (typeIs_str s z t) slot_str_getitem.lookup (getItem_str (c:=c) (by
  have e1:decide (i < -(2 ^ 63:Int))=false:=decide_eq_false (by omega)
  have e2:decide (i>=2 ^ 63)=false:=decide_eq_false (by omega)
  rw[e1,e2,K8]) (by rw[h1];simpa using h2) ⟨.str ⟨#[c]⟩,H,I.tok _,⟨_,rfl⟩,q⟩) hs
theorem Sm(aG:List Value)(n j:Nat)(u:Value):Obj.mapSeq (·.setIfInBounds j u) { cls:=.type "list",data:=.seq aG.toArray n}={ cls:=.type "list",data:=.seq (aG.set j u).toArray n}:=by
 simp[Obj.mapSeq]
theorem Inv.lst{ae:List (Addr×Obj)}{Z:St}{H:Hp}{s:Shared}{p:Addr}{xs:List V}(I:Inv X ae Z H s)(h:H p=some (.lst xs)):
  ∃(aG:List Value) (n:Nat),Vals xs aG/\s.heap.get? p=some { cls:=.type "list",data:=.seq aG.toArray n}/\xs.length<=sizeLine:=by
 obtain⟨z,aG,n,r,e⟩:=I.bF p _ h;exact⟨aG,n,r,e,z⟩
theorem Inv.xq{p:Addr}{xs ys:List V}{aG its':List Value}{n':Nat}{f:Obj->Obj}(I:Inv X ae Z H s)(h:H p=some (.lst xs))
  (ho:s.heap.get? p=some { cls:=.type "list",data:=.seq aG.toArray n}) (hf:f { cls:=.type "list",data:=.seq aG.toArray n}={ cls:=.type "list",data:=.seq its'.toArray n'}) (r:Vals ys its') (hz:ys.length<=sizeLine) (t:Nat) :
  Inv X ae Z (upd H p (.lst ys)) { s with heap:=s.heap.update p f,toks:=t}:=by
 have e:(s.heap.update p f).get? p=some { cls:=.type "list",data:=.seq its'.toArray n'}:=by
  rw[rS f ho (by rw[hf] <;> rfl),hf]
 refine I.write (x:=p) (e:=p) (by rw[h];trivial) (.inl rfl) (λb u hb q=>(qw _ _ (Ne.symm hb)).trans q) ⟨_,e⟩ ?_
 exact⟨hz,its',n',r,e⟩
def vB:V->V->V->Hp->(Hp->Prop)->Prop:=λo i v H Q=>∃p xs k j,o=.ref p/\i=.int k/\H p=some (.lst xs)/\tP xs.length k=some j/\Q (upd H p (.lst (xs.set j v)))
theorem U7:sQ X vB:=by
 intro ae s Z H o i v ov iv u Q I ro ri rv h;obtain⟨p,xs,k,j,rfl,rfl,hp,hj,q⟩:=h;cases ro;obtain⟨t,rfl⟩:=ri;obtain⟨aG,n,r,ho,hz⟩:=I.lst hp;obtain⟨h1,h2,h3,h4⟩:=NW hj;have hl:=r.length;have hn:=wt;have I':Inv X ae Z (upd H p (.lst (xs.set j v))) { s with heap:=s.heap.update p (Obj.mapSeq (·.setIfInBounds j u))}:=
  I.xq hp ho (Sm aG n j u) (r.set rv j) (by rw[sH];exact hz) s.toks
 by_cases h0:0<=k
 ·have hk:k.toNat=j:=by
   rw[seqIndex_of h0 h4] at h1;exact Option.some.inj h1
  exact PySem.W.ki_setAt ho h0 (by omega) (by rw[fE,<-hl];exact h4) (by rw[hk];exact⟨_,I',q⟩)
 ·have hk:(k+(aG.toArray.size:Int)).toNat=j:=by
   rw[seqIndex_neg (by omega) h3] at h1
   rw[fE,<-hl];exact Option.some.inj h1
  exact PySem.W.ki_setBack ho (by omega) (by rw[fE,<-hl];exact h3) (by omega) (by rw[hk];exact⟨_,I',q⟩)
theorem RC(lo hi:Option Int)(n:Nat):(sliceBounds lo hi none n).1=((HT.dA n 0 lo:Nat):Int)/\(sliceBounds lo hi none n).2.1=((HT.dA n n hi:Nat):Int)/\(sliceBounds lo hi none n).2.2=1:=by
 refine⟨?_,?_,rfl⟩
 ·cases lo with
  |none=>simp[sliceBounds,HT.dA]
  |some i=>
   simp only[sliceBounds,HT.dA,K9,show(1:Int) > 0 by decide,if_true]
   by_cases h:i < 0
   ·simp only[h,if_true] <;> omega
   ·simp only[h,if_false] <;> omega
 ·cases hi with
  |none=>simp[sliceBounds,HT.dA]
  |some i=>
   simp only[sliceBounds,HT.dA,K9,show(1:Int) > 0 by decide,if_true]
   by_cases h:i < 0
   ·simp only[h,if_true] <;> omega
   ·simp only[h,if_false] <;> omega
theorem Ri(aG:List Value)(lo hi:Option Int):slicePick aG.toArray lo hi none=((aG.drop (HT.dA aG.length 0 lo)).take (HT.dA aG.length aG.length hi - HT.dA aG.length 0 lo)).toArray:=by
 obtain⟨h1,h2,h3⟩:=RC lo hi aG.toArray.size;unfold slicePick;rw[h1,h2,h3];simp only[sliceRange_one,pick_run,fE] <;> rfl
def xP(K:PySem.W.Frag):V->Option Int->Option Int->Hp->VK->Prop:=λx lo hi H Q=>∃a xs,x=.ref a/\dY K H a xs/\∀p,H p=none->Q (.ref p) (upd H p (.lst (nA xs lo hi)))
theorem WE:qD X (xP X.K):=by
 intro ae s Z H x v vl vu lo hi sl Q I rx hs pl pu h;obtain⟨a,xs,rfl,hx,q⟩:=h;cases rx;obtain⟨aG,r,ht,hz⟩:=I.list hx;have hlen:=r.length;refine⟨"list",_,slot_list_getitem.lookup,ht.isList.typeIs,?_⟩;refine wpAny_getItem_list_slice ht.isList hs pl pu .none (by simp) ?_ (by rw[fE] <;> omega)
 rw[Ri,<-hlen];refine⟨.ref s.heap.objs.size,_,I.laid (t':=s.toks) (o:=.lst (nA xs lo hi)) (λb ob q=>fg _ q) (cI _) ?_,rfl,q _ (I.bF.fresh (cI _))⟩
 exact⟨lC (L3 xs lo hi) hz,_,0,(r.drop (HT.dA xs.length 0 lo)).take (HT.dA xs.length xs.length hi - HT.dA xs.length 0 lo),kA _ rfl⟩
def uW:V->Bool
 |.az=>true
 |.bl _=>true
 |.int _=>true
 |.str _=>true
 |_=>false
def ψ:V->V->Bool
 |.az,.az=>true
 |.bl a,.bl b=>a == b
 |.bl a,.int b=>(if a then 1 else 0) == b
 |.int a,.bl b=>a == (if b then 1 else 0)
 |.int a,.int b=>a == b
 |.str a,.str b=>a == b
 |_,_=>false
theorem RF:bU X (.builtin "len") (λxs H Q=>∃p ys,xs=[.ref p]/\(dY X.K H p ys\/jm X.K H p ys)/\Q (.int ys.length) H):=by
 intro ae s Z H xs us Q I r h;obtain⟨p,ys,rfl,hq,q⟩:=h;obtain⟨u,rfl,rx⟩:=vals1 r;cases rx;have hn:=wt;rcases hq with hq|hq
 ·obtain⟨aG,r',pl,hz⟩:=I.list hq;have hlen:=r'.length;exact Calls.call_len_list pl.isList (by simp only[fE] <;> omega) ⟨.int ys.length,H,I.tok _,⟨s.toks+1,by rw[fE,hlen]⟩,q⟩
 ·obtain⟨aG,r',pl,hz⟩:=I.tuple hq;have hlen:=r'.length;exact len_tuple pl (by simp only[fE] <;> omega) ⟨.int ys.length,H,I.tok _,⟨s.toks+1,by rw[fE,hlen]⟩,q⟩
theorem my:bU X (.builtin "len") (λxs H Q=>∃z,xs=[.str z]/\z.length<=sizeLine/\Q (.int z.length) H):=by
 intro ae s Z H xs us Q I r h;obtain⟨z,rfl,hz,q⟩:=h;obtain⟨u,rfl,t,rfl⟩:=vals1 r;have hn:=wt;exact len_str (by omega) ⟨.int z.length,H,I.tok _,⟨_,rfl⟩,q⟩
theorem bU.or{f:Value}{r r':List V->Hp->VK->Prop}(h:bU X f r)(h':bU X f r'):bU X f (λxs H Q=>r xs H Q\/r' xs H Q):=by
 intro ae s Z H xs us Q I rs q;rcases q with q|q
 ·exact h ae s Z H xs us Q I rs q
 ·exact h' ae s Z H xs us Q I rs q
theorem RG:bU X (.type "list") (λxs H Q=>∃p ys,xs=[.ref p]/\(dY X.K H p ys\/jm X.K H p ys)/\∀l,H l=none->Q (.ref l) (upd H l (.lst ys))):=by
 intro ae s Z H xs us Q I r h;obtain⟨p,ys,rfl,hq,q⟩:=h;obtain⟨u,rfl,rx⟩:=vals1 r;cases rx;have fin:∀(aG:List Value),Vals ys aG->ys.length<=sizeLine->∀(h':Heap) (c':Nat),(∀b o',s.heap.get? b=some o'->h'.get? b=some o')->
   h'.get? s.heap.objs.size=some { cls:=.type "list",dict:=none,data:=.seq aG.toArray c',slots:=#[]}->EP X ae Z Q (.ref s.heap.objs.size) { s with heap:=h'}:=λaG r' hz h' c' kp e=>
  ⟨.ref s.heap.objs.size,_,I.laid (t':=s.toks) kp (cI _) (show bx X.prog X.w _ h' _ (.lst ys) from⟨hz,aG,c',r',e⟩),rfl,q _ (I.bF.fresh (cI _))⟩
 rcases hq with hq|hq
 ·obtain⟨aG,r',pl,hz⟩:=I.list hq;have hlen:=r'.length;obtain⟨o,ho,hc,n,hd⟩:=pl.isList;exact call_list_seq p (.inl rfl) ho hc hd (λh' c' kp e=>fin aG r' hz h' c' kp e) (by simp only[fE] <;> omega)
 ·obtain⟨aG,r',pl,hz⟩:=I.tuple hq;have hlen:=r'.length;obtain⟨o,ho,hc,n,hd⟩:=pl;exact call_list_seq p (.inr rfl) ho hc hd (λh' c' kp e=>fin aG r' hz h' c' kp e) (by simp only[fE] <;> omega)
def E0(K:PySem.W.Frag)(T:String)(x:V)(H:Hp):Prop:=match x with
 |.str _=>T="str"
 |.int _=>T="int"
 |.ref p=>(T="list"/\∃xs,dY K H p xs)\/(T="tuple"/\∃o,K.lookup p=some o/\o.cls=.type "tuple"/\o.dict=none)\/
   (T="dict"/\((∃kvs,H p=some (.dK kvs))\/(∃kvs,H p=some (.dT kvs))\/∃es ep,H p=some (.dG es ep)))\/(T="set"/\∃S n,H p=some (.set S n))
 |_=>False
theorem OZ{T:String}{x:V}{v:Value}(I:Inv X ae Z H s)(r:RelV x v)(ty:E0 X.K T x H):
  s.TypeIs v T/\∀a,v=.ref a->∃ob,s.heap.get? a=some ob/\ob.dict=none:=by
 cases x with
 |str z=>
  obtain⟨t,rfl⟩:=r;cases(show T="str" from ty);exact⟨typeIs_str s z t,λ_ e=>nomatch e⟩
 |int i=>
  obtain⟨t,rfl⟩:=r;cases(show T="int" from ty);exact⟨typeIs_int s i t,λ_ e=>nomatch e⟩
 |ref p=>
  cases r;rcases ty with⟨rfl,xs,hq⟩|⟨rfl,o,hk,hc,hd⟩|⟨rfl,hk⟩|⟨rfl,S,n,hk⟩
  ·obtain⟨aG,_,pl,_⟩:=I.list hq;refine⟨pl.isList.typeIs,λa e=>?_⟩
   cases e;obtain⟨o,n,e,c,hd,_⟩:=pl;exact⟨o,e,hd⟩
  ·refine⟨⟨o,I.lu p o hk,hc⟩,λa e=>?_⟩
   cases e;exact⟨o,I.lu _ o hk,hd⟩
  ·have z:∃o,s.heap.get? p=some o/\o.ExactDict:=by
    rcases hk with⟨kvs,hk⟩|⟨kvs,hk⟩|⟨es,ep,hk⟩
    ·obtain⟨_,_,_,_,o,_,_,e,ex,_⟩:=I.bF p _ hk;exact⟨o,e,ex⟩
    ·obtain⟨_,_,_,_,o,_,_,e,ex,_⟩:=I.bF p _ hk;exact⟨o,e,ex⟩
    ·obtain⟨_,_,o,_,e,ex,_⟩:=I.bF p _ hk;exact⟨o,e,ex⟩
   obtain⟨o,e,ex⟩:=z;refine⟨⟨o,e,ex.1⟩,λa e2=>?_⟩
   cases e2;exact⟨o,e,ex.2.1⟩
  ·obtain⟨o,_,_,_,e,ex,_⟩:=I.bF p _ hk;refine⟨⟨o,e,ex.1⟩,λa e2=>?_⟩
   cases e2;exact⟨o,e,ex.2.1⟩
 |_=>exact False.elim ty
def KH(K:PySem.W.Frag)(T:String)(r:V->List V->Hp->VK->Prop)(to:TE)(t:TA):TE:=λZ H Q=>to Z H λx H1=>E0 K T x H1/\t Z H1 λxs H2=>r x xs H2 Q
variable {o e:Expr} {es:List Expr} {to:TE} {t:TA} {name:Str} {apos bP:Pos} {T id:String} {r:V->List V->Hp->VK->Prop}
theorem PF(pa:PlainAttrs T)(slot:Slot T name id)(tM:typeOf (.builtin id)=pure (.type "method_descriptor"))(hm:Fl X id r)(ho:PE X o to)(ha:PA X (e::es) t)
  (gX:attributeBase o name X.env (eval o X.env)=eval o X.env:=by rfl)
  (qS:((backTo bP (starEach (e::es) X.env)).all (λx => !x.1) && (backToKw bP (keywordEach [] X.env)).all (λx=>x.1.isSome)
   && decide ((e::es).length+([]:List Keyword).length+(if([]:List Keyword).isEmpty then 0 else 1) < 30))=true:=by rfl)
  (gY:(apos.endLine == bP.line)=true:=by rfl) (hs:starEach (e::es) X.env=(false,eval e X.env)::starEach es X.env:=by rfl) (lq:(backTo bP (starEach es X.env)).any (·.1)=false:=by rfl) :
  PE X (.Call (.Attribute o name apos) (e::es) [] bP) (KH X.K T r to t):=by
 intro ae s Z H Q I h;refine wpAny_Call_method_late gX qS gY rfl (bI (ho ae s Z H _ I h) λv s1 hh=>?_)
 obtain⟨x,H1,I1,r1,ty,q1⟩:=hh;obtain⟨h1,h2⟩:=OZ I1 r1 ty;refine⟨T,id,pa,slot,tM,h1,h2,?_⟩;have hA:=ha bP ae s1 Z H1 _ I1 q1;rw[hs] at hA ⊢;refine Calls.callWith_builtin (by show(false || (backTo bP (starEach es X.env)).any (·.1))=false;rw[lq] <;> rfl) (Calls.evalArgs_plain ?_)
 exact bI hA λus s2 ⟨vs,H2,I2,r2,q2⟩=>hm ae s2 Z H2 x vs v us Q I2 r1 r2 q2
end
end L2
namespace L2
open PySem PySem.Spec PyProof.Rows
variable{x:V}{us aG:List Value}{t':Nat}
def yk(X:Cx)(id:String)(r:V->List V->Hp->VK->Prop):Prop:=
 ∀(ae:List (Addr×Obj)) (s:Shared) (Z:St) (H:Hp) (x:V) (xs:List V) (v:Value) (us:List Value) (Q:VK),Inv X ae Z H s->RelV x v->Vals xs us->r x xs H Q->
  wpAny (model X.prog X.w) X.A (call (.builtin id) (v::us)) (EP X ae Z Q) X.xe s
theorem Vals.one(h:Vals [x] us):∃u,us=[u]/\RelV x u:=by
 cases h with
 |cons r t=>
  cases t;exact⟨_,rfl,r⟩
theorem Vals.two{y:V}(h:Vals [x,y] us):∃u v,us=[u,v]/\RelV x u/\RelV y v:=by
 cases h with
 |cons r t=>
  obtain⟨v,rfl,q⟩:=Vals.one t;exact⟨_,_,rfl,r,q⟩
section
variable {X:Cx} {ae:List (Addr×Obj)} {Z:St} {H:Hp} {s:Shared} {l b:Addr} {xs ys zs:List V}
theorem Inv.xm{its':List Value}{n:Nat}{f:Array Value->Array Value}(I:Inv X ae Z H s)(hH:H l=some (.lst xs))
  (e:s.heap.get? l=some { cls:=.type "list",data:=.seq aG.toArray n}) (hf:f aG.toArray=its'.toArray) (hv:Vals ys its') (hz:ys.length<=sizeLine) :
  Inv X ae Z (upd H l (.lst ys)) { s with heap:=s.heap.update l (Obj.mapSeq f),toks:=t'}:=by
 have q:=PySem.IsL.update e f;rw[hf] at q;refine I.write (x:=l) (e:=l) (by rw[hH];exact trivial) (.inl rfl) (λb' u hb hu=>(qw s.heap (Obj.mapSeq f) (Ne.symm hb)).trans hu) ⟨_,q⟩ ?_
 exact⟨hz,its',_,hv,q⟩
theorem Inv.JX(I:Inv X ae Z H s)(hv:Vals ys aG)(hz:ys.length<=sizeLine):
  Inv X ae Z (upd H s.heap.objs.size (.lst ys)) { s with heap:=s.heap.push { cls:=.type "list",data:=.seq aG.toArray},toks:=t'}:=
 I.laid (λ_ _ q=>fg _ q) (cI _) ⟨hz,aG,0,hv,kA _ rfl⟩
theorem Inv.fresh(I:Inv X ae Z H s):H s.heap.objs.size=none:=I.bF.fresh (cI _)
theorem Inv.xp(I:Inv X ae Z H s)(hH:H l=some (.lst xs)):xs.length<=sizeLine/\∃(aG:List Value) (n:Nat),Vals xs aG/\xs.length=aG.length/\s.heap.get? l=some { cls:=.type "list",data:=.seq aG.toArray n}:=by
 obtain⟨z,aG,n,r,e⟩:=I.bF l _ hH;exact⟨z,aG,n,r,r.length,e⟩
end
section
variable {X:Cx}
def NX:V->List V->Hp->VK->Prop:=λx vs H Q=>∃l xs y,x=.ref l/\vs=[y]/\H l=some (.lst xs)/\xs.length < sizeLine/\Q .az (upd H l (.lst (xs++[y])))
theorem Th:yk X "list.append" NX:=by
 intro ae s Z H x vs v us Q I rx rv h;obtain⟨l,xs,y,rfl,rfl,hH,hz,q⟩:=h;cases rx;obtain⟨u,rfl,ru⟩:=rv.one;obtain⟨z,aG,n,r,hl,e⟩:=I.xp hH;refine call_meets F.slot_list_append ⟨_,e,rfl⟩ F.entry_list_append (F.args_list_append_2 _ _) (PySem.list_append l aG.toArray n u (by rw[fE];omega)) ⟨e,?_⟩
 refine⟨.az,_,I.xm (its':=aG++[u]) hH e (by simp) (r.append (.cons ru .nil)) ?_,rfl,q⟩
 rw[f7,Cz];omega
end
section
variable {prog:Program} {w:World} {A:Around} {E:Value->Shared->Prop} {s:Shared}
end
section
variable {X:Cx}
end
end L2
namespace L2
open PySem PySem.Spec PyProof.Rows
section
variable {κ:Type} [DecidableEq κ]
theorem jF.pV{o:Option V}{u:Option Value}(r:jF o u):o.isSome=u.isSome:=by
 cases o with
 |none=>cases u with
  |none=>rfl
  |some _=>exact(show False from r).elim
 |some _=>cases u with
  |none=>exact(show False from r).elim
  |some _=>rfl
end
variable{X:Cx}
section
variable {P:Program} {w:World} {H:Hp} {h:Heap} {a:Addr}
end
section
variable {X:Cx} {ae:List (Addr×Obj)} {Z:St} {H:Hp} {s:Shared} {a:Addr} {y v:V} {u r:Value} {o:Option V} {A:Around} {E:Value->Shared->Prop}
theorem Inv.big(I:Inv X ae Z H s):sysModules < s.heap.objs.size:=by
 have h:mainGlobals < s.heap.objs.size:=(I.mod.glob.keeps I.bk).lt;exact Nat.lt_trans (by decide) h
theorem HS{h':Heap}{t':Nat}{ob:HO}(I:Inv X ae Z H s)(mu:zS (H a))(hs:Heap.SameBut a s.heap h')(he:∃q,h'.get? a=some q)(new:bx X.prog X.w (upd H a ob) h' a ob):
  Inv X ae Z (upd H a ob) { s with heap:=h',toks:=t'}:=
 I.write (x:=a) (e:=a) mu (.inl rfl) (λb q hb z=>(hs.2 b hb).trans z) he new
end
section
variable {X:Cx} {ae:List (Addr×Obj)} {Z:St} {H:Hp} {s:Shared} {a:Addr} {kvs:List (Key×V)} {k:Key} {u:Value} {A:Around} {E:Value->Shared->Prop}
end
section
variable {X:Cx} {o i e value:Expr} {pos pos' iz:Pos} {td ty tv:TE}
end
section
variable {X:Cx} {pos:Pos}
end
def D0:List (TE×TE)->St->Hp->(List (V×V)->Hp->Prop)->Prop
 |[],_,H,Q=>Q [] H
 |(tk,tv)::r,Z,H,Q=>tk Z H λx H1=>tv Z H1 λy H2=>D0 r Z H2 λps H3=>Q ((x,y)::ps) H3
abbrev VV:List (V×V)->List (Value×Value)->Prop:=Paired λp q=>RelV p.1 q.1/\RelV p.2 q.2
def yl(X:Cx)(pos:Pos)(keys:List (Option Expr))(values:List Expr)(ug:List (TE×TE)):Prop:=
 ∀(ae:List (Addr×Obj)) (s:Shared) (Z:St) (H:Hp) (Q:List (V×V)->Hp->Prop),Inv X ae Z H s->D0 ug Z H Q->
  wpAny (model X.prog X.w) X.A (evalPairs (pairTrees keys values X.env pos)) (λvs s'=>∃ps H',Inv X ae Z H' s'/\VV ps vs/\Q ps H') X.xe s
theorem WG{pos:Pos}:yl X pos [] [] []:=λae s Z H Q I h=>pairTrees_nil_walk ⟨[],H,I,.nil,h⟩
theorem U8{pos:Pos}{k v:Expr}{ks:List (Option Expr)}{vs:List Expr}{tk tv:TE}{ug:List (TE×TE)}(hk:PE X k tk)(hv:PE X v tv)(hr:yl X pos ks vs ug):
  yl X pos (some k::ks) (v::vs) ((tk,tv)::ug):=λae s Z H Q I h=>
 pairTrees_cons_walk (bI (hk ae s Z H _ I h) λu s1 ⟨x,H1,I1,rx,q1⟩=>bI (hv ae s1 Z H1 _ I1 q1) λw2 s2 ⟨y,H2,I2,ry,q2⟩=>
  bI (hr ae s2 Z H2 _ I2 q2) λws s3 ⟨ps,H3,I3,rel,q3⟩=>⟨(x,y)::ps,H3,I3,.cons ⟨rx,ry⟩ rel,q3⟩)
structure M1 (X:Cx) (o:Expr) (m:Str) (apos:Pos) (e:Expr) (bP:Pos):Prop where
 base:attributeBase o m X.env (eval o X.env)=eval o X.env
 ω:((backTo bP (starEach [e] X.env)).all (λx => !x.1) && (backToKw bP (keywordEach [] X.env)).all (λx=>x.1.isSome)
  && decide (([e]:List Expr).length+([]:List Keyword).length+(if([]:List Keyword).isEmpty then 0 else 1) < 30))=true
 line:(apos.endLine == bP.line)=true
 trees:backTo bP (starEach [e] X.env)=[(false,eval e X.env)]
structure M2 (X:Cx) (o:Expr) (m:Str) (apos:Pos) (e f:Expr) (bP:Pos):Prop where
 base:attributeBase o m X.env (eval o X.env)=eval o X.env
 ω:((backTo bP (starEach [e,f] X.env)).all (λx => !x.1) && (backToKw bP (keywordEach [] X.env)).all (λx=>x.1.isSome)
  && decide (([e,f]:List Expr).length+([]:List Keyword).length+(if([]:List Keyword).isEmpty then 0 else 1) < 30))=true
 line:(apos.endLine == bP.line)=true
 trees:backTo bP (starEach [e,f] X.env)=[(false,eval e X.env),(false,eval f X.env)]
section
variable {X:Cx} {ae:List (Addr×Obj)} {Z:St} {H:Hp} {s:Shared} {a:Addr} {y d:V} {u r:Value} {o:Option V} {A:Around} {E:Value->Shared->Prop}
end
section
variable {X:Cx} {o e f:Expr} {apos bP:Pos} {td ty tx:TE}
end
section
variable {X:Cx} {ae:List (Addr×Obj)} {Z:St} {H:Hp} {s:Shared} {a:Addr} {kvs:List (Key×V)} {A:Around} {E:Value->Shared->Prop}
end
section
variable {X:Cx} {ae:List (Addr×Obj)} {Z:St} {H:Hp} {s:Shared} {a:Addr} {y:V} {u:Value} {A:Around} {E:Value->Shared->Prop}
end
end L2
namespace Lm
open PySem PySem.W PySem.Calls PyProof.Rows
variable{P:Params}{h:Heap}{l:OpenLaw}{n:Nat}
theorem QZ:∀(ns:List Int) (vs:List Value),WellAll P h vs (ns.map WData.int)->IntsAre vs ns:=by
 intro ns
 induction ns with
 |nil=>
  intro vs w;rw[CA] at w;cases w;exact .nil
 |cons n ns ih=>
  intro vs w;rw[dX] at w;cases w with
  |cons a b=>
   cases a;exact .cons _ _ (ih _ b)
theorem Ti(hn:l.most=some n){args:List WData}{vals:List Value}
  (tK:l.row.toRowW.claim.pre args=true) (EJ:WellAll P h vals args) :
  ∃a vs ns,vals=[Value.ref a]/\args=[WData.list (ns.map WData.int)]/\h.get? a=some { cls:=.type "list",data:=.seq vs.toArray}/\IntsAre vs ns/\ns.length<=n:=by
 have hsh:WShape.hasAll [] args [.list .int]=true:=(pre_splitW tK).1;have hc:l.pre.holds [] { args:=args}=true:=(pre_splitW tK).2;obtain⟨d,r,rfl,h1,h2⟩:=hasAllW_cons hsh;obtain rfl:=hasAllW_nil h2;obtain⟨xs,rfl,h3⟩:=hasW_list h1;obtain⟨ns,rfl⟩:=items_int h3;have hlen:ns.length<=n:=by
  unfold OpenLaw.pre at hc;have h4:(WTm.not (.lt (.lit (.int (n:Int))) (.len (.arg 0)))).holds [] { args:=[.list (ns.map .int)]}=true:=by
   have h4:=(holds_andW hc).1;rw[hn] at h4;exact h4
  have h5:=condW_of h4 (w_not (w_lt w_lit (w_len_list (w_arg rfl))));rw[cz] at h5;refine Nat.le_of_not_lt λq=>?_
  have q':(n:Int) < ((ns.length:Nat):Int):=by omega
  first
   |(rw[decide_eq_true q'] at h5;exact absurd h5 (by decide))
   |(simp at h5;omega)
 cases EJ with
 |cons w1 w2=>
  cases w2;cases w1 with
  |list ho ko=>exact⟨_,_,ns,rfl,rfl,ho,QZ ns _ ko,hlen⟩
theorem Tj(l:OpenLaw)(args:List WData):l.row.toRowW.claim.post args (.bool true) args=true:=
 postW_of (r:=l.row.toRowW) (X:=(true == true))
  (show WShape.has [] (.bool true) .bool=true by first|rfl|decide|simp[WShape.has,WShape.arms,WShape.armsAll])
  (show(WTm.eq .res (.lit (.bool true))).value [] { args:=args,res:=some (.bool true),after:=args}=some (.bool (true == true)) from w_eq_bool (w_res rfl) w_lit) rfl
theorem nt{q:Program}{loose:List Str}{XP:(Str->Option Value)->Heap->Prop}{YP:World->Heap->Prop}{d:DefRec}
  (hn:l.most=some n) (Bd:d.params.defaults=[])
  (call:∀(w:World) (s₀ s₁:Shared) (mg mb:Str->Option Value) (fa:Addr) (o:Obj) (pm cd doc:Value) (a:Addr) (vs:List Value) (ns:List Int),
   Ground q loose [] XP w s₀ mg mb s₁.heap->YP w s₁.heap->
   s₁.heap.get? fa=some o->o.data=.func (docDef d.name d.params d.body d.scope pm cd doc)->s₁.heap.CodeRec cd d.name->mg d.name=some (.ref fa)->
   s₁.heap.get? a=some { cls:=.type "list",data:=.seq vs.toArray}->IntsAre vs ns->ns.length<=n->s₁.gens=#[]->
   codeAny (model l.prog w) callerA (.call (.ref fa) ⟨[.ref a],[]⟩) (λr s'=>r=.ok (.ret (.bool true))/\OldK s₁.heap s'.heap/\s'.os=s₁.os/\AllBare s'.gens) s₁) :
  WalkO q loose XP YP l.row.toRowW d [] (λf vs=>PySem.call f vs):=by
 intro w s₀ s₁ mg mb G Y fa o pm cd doc dV kV ho hd pS hD hmg hg args vals as tK hlay hrd EJ hlo;obtain rfl:dV=.none:=Dflts.none hD Bd;obtain rfl:kV=.none:=Dflts.noKw hD;obtain⟨a,vs,ns,rfl,rfl,w9,hints,hlen⟩:=Ti hn tK EJ;refine enter_call (codeAny_mono (call w s₀ s₁ mg mb fa o pm cd doc a vs ns G Y ho (fd_plain hd) pS hmg w9 hints hlen hg) λr s' hq=>?_)
 obtain⟨rfl,h2,h3,h4⟩:=hq;exact⟨.inl ⟨.bool true,.bool true,[],rfl,λ_=>rfl,.bool true,Tj l _,λ_=>⟨List.Pairwise.nil,λ_ hm=>(nomatch hm)⟩⟩,h2,h3,h4⟩
section
variable {prog:Program} {w:World} {A:Around} {E:Value->Shared->Prop} {s:Shared} {K:Frag}
end
end Lm
namespace L2
open PySem PySem.Spec PyProof.Rows
theorem Mx:∀{vs:List Value} {ns:List Int},IntsAre vs ns->Vals (ns.map V.int) vs
 |_,_,.nil=>.nil
 |_,_,.cons n t h=>.cons ⟨t,rfl⟩ (Mx h)
def vR(H:Hp):Prop:=∀b,H b=none\/∃o xs,H b=some (.Y o (.lst xs))
theorem U9{P:Program}{w:World}{K:PySem.W.Frag}{mg mb:Str->Option Value}{CX:rY}{k:Nat}{fa a:Addr}{fd:FuncData}{x:Str}{sp:Sp}{s₁:Shared}{vs:List Value}{ns:List Int}
  (KX:K.In s₁.heap) (Qg:s₁.heap.Ns mainGlobals mg) (hb:s₁.heap.Ns builtinsNs mb) (hbb:∀x:Str,x≠"__name__"->mb x=bootBuiltins x) (JC:s₁.heap.NoLimit) (hg:s₁.gens=#[])
  (ha:s₁.heap.get? a=some { cls:=.type "list",data:=.seq vs.toArray}) (hi:IntsAre vs ns) (hl:ns.length<=sizeLine) (hr:cL k callerA)
  (F:∀base:Heap,K.In base->base.Ns mainGlobals mg->aQ P w K mg base CX k fa fd [x] sp) (Ba:∀(s:Shared) (u:Value),BindsTo s fd ⟨[u],[]⟩ [(x,u)])
  (u7:∀H:Hp,vR H->dY K H a (ns.map V.int)->sp [.ref a] H (λv _=>v=.bl true) λ_ _ _=>False)
  (Jh:∀H e s',CX [] H s₁ (λ_ _ _=>False) e s'->False) :
  codeAny (model P w) callerA (.call (.ref fa) ⟨[.ref a],[]⟩) (λr s'=>r=.ok (.ret (.bool true))/\OldK s₁.heap s'.heap/\s'.os=s₁.os/\AllBare s'.gens) s₁:=by
 have rv:=Mx hi;have JW:=hi.length;have core:∀H:Hp,vR H->dY K H a (ns.map V.int)->jV P w H s₁.heap->(∀b,H b≠none->b=a)->(H a≠none->K.lookup a=none)->
   codeAny (model P w) callerA (.call (.ref fa) ⟨[.ref a],[]⟩) (λr s'=>r=.ok (.ret (.bool true))/\OldK s₁.heap s'.heap/\s'.os=s₁.os/\AllBare s'.gens) s₁:=by
  intro H hO hS bF hA hK;have oR:∀{b:Addr} {o:Obj},s₁.heap.get? b=some o->H b=none->(mE s₁.heap H).get? b=some o:=λe n=>UQ e n
  have BN:∀{b:Addr} {o:Obj} {es:Array DictEntry} {ep:Nat},s₁.heap.get? b=some o->o.data=.dict es ep->H b=none:=λ{b o es ep} e d=>by
   cases q:H b with
   |none=>rfl
   |some u=>
    have e':b=a:=hA b (by rw[q];simp)
    subst e';rw[ha] at e;cases e;have d':Data.seq vs.toArray _=Data.dict es ep:=d;cases d'
  have EO:∀{b:Addr} {m:Str->Option Value},s₁.heap.Ns b m->(mE s₁.heap H).Ns b m:=λ{b m} ⟨o,es,ep,e,d,r⟩=>⟨o,es,ep,oR e (BN e d),d,r⟩
  have P8:K.In (mE s₁.heap H):=λb o e=>oR (KX b o e) (by
   cases q:H b with
   |none=>rfl
   |some u=>
    have e':b=a:=hA b (by rw[q];simp)
    subst e';rw[hK (by rw[q];simp)] at e;cases e)
  have hM:Mod K mg (mE s₁.heap H):=⟨P8,EO Qg,⟨mb,EO hb,hbb⟩,let ⟨mc,h1,h2⟩:=JC;⟨mc,EO h1,h2⟩⟩
  have e0:n4 P w K mg (mE s₁.heap H) callerA [] s₁ H:=⟨rfl,hM,λb o e=>Wg e,Cy (S7 _ _),trivial,λb hb=>absurd (show b∈([]:List Addr) from hb) (by simp),bF,.of_eq hg⟩
  refine codeAny_mono ((F _ P8 (EO Qg)).run callerA [] s₁ H ⟨[.ref a],[]⟩ [.ref a] [.ref a] _ _ hr e0 (Ba s₁ (.ref a)) (.cons rfl .nil) (u7 H hO hS)) λr s' h=>?_
  cases r with
  |error e=>exact(Jh H e s' h).elim
  |ok fl=>
   cases fl with
   |next=>exact False.elim h
   |brk=>exact False.elim h
   |cont=>exact False.elim h
   |ret u=>
    obtain⟨v,H',os,bare,un,JH,r',q⟩:=h;have q':v=.bl true:=q;subst q';obtain rfl:u=Value.bool true:=r';refine⟨rfl,OldK.of_keep λb o e=>?_,os,bare⟩
    cases q:H b with
    |none=>exact un.keep b o e q (by intro z;exact absurd (show b∈([]:List Addr) from z) (by simp)) (by simp)
    |some u=>
     rcases hO b with z|⟨ob,xs,z⟩
     ·rw[q] at z;cases z
     ·have z2:=un.k_ b ob _ z;obtain⟨e1,_⟩:=bF b _ z;obtain⟨e2,_⟩:=JH b _ z2;rw[e] at e1;cases e1;exact e2
 cases hk:K.lookup a with
 |some o=>
  have e:=KX a o hk;rw[ha] at e;cases e;refine core (λ_=>none) (λ_=>.inl rfl) (.inr ⟨_,vs.toArray,_,hk,rfl,rfl,rfl,by rw[fE,JW];exact hl,by simpa using rv⟩) (λb u z=>by have z':(none:Option HO)=some u:=z;cases z') (λb z=>absurd rfl z) λz=>absurd rfl z
 |none=>
  refine core (λb=>if b=a then some (.Y { cls:=.type "list",data:=.seq vs.toArray} (.lst (ns.map V.int))) else none) (λb=>?_) (.inl (.inr ⟨{ cls:=.type "list",data:=.seq vs.toArray},if_pos rfl⟩)) (λb u z=>?_) (λb z=>?_) λ_=>hk
  ·by_cases hb:b=a
   ·exact .inr ⟨_,_,if_pos hb⟩
   ·exact .inl (if_neg hb)
  ·by_cases hb:b=a
   ·have z':=(if_pos hb).symm.trans z;cases z';subst hb;exact⟨ha,by rw[cz];exact hl,vs,_,rv,ha⟩
   ·have z':=(if_neg hb).symm.trans z;cases z'
  ·by_cases hb:b=a
   ·exact hb
   ·exact absurd (if_neg hb) z
end L2
namespace L2
open PySem PySem.Spec PyProof.Rows
theorem uj{l:PySem.W.OpenLaw}{n k:Nat}{q:Program}{loose:List Str}{XP:(Str->Option Value)->Heap->Prop}{YP:World->Heap->Prop}{d:DefRec}{K:Params->PySem.W.Frag}{CX:World->rY}{sp:World->Sp}{x:Str}
  (hn:l.most=some n) (qU:n<=sizeLine) (Bd:d.params.defaults=[]) (hr:cL k callerA)
  (hY:∀(w:World) (h:Heap),YP w h->(K w.params).In h)
  (F:∀(w:World) (mg:Str->Option Value) (fa:Addr) (h:Heap),(K w.params).In h->h.Ns mainGlobals mg->mg d.name=some (.ref fa)->
   ∃fd:FuncData,(∀(s:Shared) (u:Value),BindsTo s fd ⟨[u],[]⟩ [(x,u)])/\
    ∀base:Heap,(K w.params).In base->base.Ns mainGlobals mg->aQ l.prog w (K w.params) mg base (CX w) k fa fd [x] (sp w))
  (u7:∀(w:World) (H:Hp) (a:Addr) (ns:List Int),ns.length<=n->vR H->dY (K w.params) H a (ns.map V.int)->sp w [.ref a] H (λv _=>v=.bl true) λ_ _ _=>False)
  (Jh:∀(w:World) (H:Hp) (s:Shared) (e:Value) (s':Shared),CX w [] H s (λ_ _ _=>False) e s'->False) :
  PySem.W.WalkO q loose XP YP l.row.toRowW d [] (λf vs=>PySem.call f vs):=by
 refine Lm.nt hn Bd λw s₀ s₁ mg mb fa o pm cd doc a vs ns G Y ho hd pS hmg w9 hints hlen hg=>?_
 have KX:=hY w _ Y;obtain⟨fd,hb,hF⟩:=F w mg fa _ KX G.T.g hmg;exact U9 KX G.T.g G.T.b G.T.builtins G.T.nolimit hg w9 hints (lC hlen qU) hr hF hb (λH hO hS=>u7 w H a ns hlen hO hS) λH e s'=>Jh w H s₁ e s'
end L2
namespace L2
open PySem PySem.Spec PyProof.Rows
variable{x qual:Str}{st:Stmt}{f:Addr}{H H':Hp}
def lJ(s:Stmt)(j:Nat):Stmt:=match s with
 |.ClassDef _ _ _ body _ _ _ _ _ _ _=>body.getD j (.Pass ⟨0,0,0,0⟩)
 |_=>.Pass ⟨0,0,0,0⟩
def DK(s:Stmt):Arguments:=match s with
 |.FunctionDef _ a _ _ _ _ _ _ _ _=>a
 |_=>{ posonlyargs:=[],args:=[],vararg:=none,kwonlyargs:=[],kw_defaults:=[],kwarg:=none,defaults:=[]}
def Aq(s:Stmt):List Stmt:=match s with
 |.FunctionDef _ _ b _ _ _ _ _ _ _=>b
 |_=>[]
def dk(s:Stmt):Scope:=match s with
 |.FunctionDef _ _ _ _ _ _ sc _ _ _=>sc
 |_=>{ kind:=.function,names:=[],isGenerator:=false,isCoroutine:=false}
structure dh (K:PySem.W.Frag) (x qual:Str) (st:Stmt) (f:Addr) (fd:FuncData):Prop where
 ex:∃(oc:Value) (od:Option Addr) (kV doc pm:Value) (an:Option Addr) (ck ct:Value) (sD:Array (Option Value)),
  fd=PySem.W.fnOf x qual (DK st) (Aq st) (dk st) .none kV doc pm an ck ct/\K.lookup f=some ⟨oc,od,.func fd,sD⟩/\PySem.W.codeIn K ck qual=true
 kp:PySem.W.keepIn K (.ref f)=true
section
variable {P:Program} {w:World} {K:PySem.W.Frag} {mg:Str->Option Value} {base:Heap}
theorem dh.binds{fd:FuncData}{ps:List Str}(F:dh K x qual st f fd)
  (h:∀(kV doc pm:Value) (an:Option Addr) (ck ct:Value) (us:List Value),us.length=ps.length->bindArgs (PySem.W.fnOf x qual (DK st) (Aq st) (dk st) .none kV doc pm an ck ct) ⟨us,[]⟩=pure (ps.zip us)):Binds K fd ps []:=by
 obtain⟨oc,od,kV,doc,pm,an,ck,ct,sD,rfl,lk,pS⟩:=F.ex;exact .all (h kV doc pm an ck ct)
theorem fun_mk{oc:Value}{od an:Option Addr}{sD:Array (Option Value)}{kV doc pm ck ct:Value}(l:K.lookup f=some ⟨oc,od,.func (PySem.W.fnOf x qual (DK st) (Aq st) (dk st) .none kV doc pm an ck ct),sD⟩)
  (c:PySem.W.codeIn K ck qual=true) (k:PySem.W.keepIn K (.ref f)=true):dh K x qual st f (PySem.W.fnOf x qual (DK st) (Aq st) (dk st) .none kV doc pm an ck ct):=⟨⟨oc,od,kV,doc,pm,an,ck,ct,sD,rfl,l,c⟩,k⟩
end
section
variable {X:Cx}
theorem pv(i:Nat){pos:Pos}(hN:X.N[i]?=some x:=by rfl)(hv:CS X.env.scope x:=by first|exact Or.inl rfl|exact Or.inr (Or.inl rfl)|exact Or.inr (Or.inr rfl))(hd:(x == ("__debug__":Str))=false:=by decide)
  (pS:(x == ("__classdict__":Str))=false:=by decide):PE X (.Name x pos) (x8 i):=OW hN hv hd pS
end
theorem qZ{A B:Prop}(h:B):if false=true then A else B:=by
 rw[if_neg nM];exact h
theorem q8{A B:Prop}(h:A):if true=true then A else B:=by
 rw[if_pos rfl];exact h
def aB(H H':Hp):Prop:=∀b o,H b=some o->H' b=some o
theorem aB.refl(H:Hp):aB H H:=λ_ _ h=>h
theorem aB.trans{H1 H2:Hp}(a:aB H H1)(b:aB H1 H2):aB H H2:=λc o h=>b c o (a c o h)
theorem aB.free(e:aB H H'){l:Addr}(h:H' l=Option.none):H l=Option.none:=by
 cases q:H l with
 |none=>rfl
 |some o=>
  rw[e l o q] at h;cases h
theorem aB.seq{K:PySem.W.Frag}{a:Addr}{xs:List V}(e:aB H H')(h:dY K H a xs):dY K H' a xs:=by
 rcases h with(h|⟨o,h⟩)|h
 ·exact .inl (.inl (e _ _ h))
 ·exact .inl (.inr ⟨o,e _ _ h⟩)
 ·exact .inr h
section
variable {κ:Type} [DecidableEq κ]
end
end L2
set_option maxHeartbeats 4000000
namespace L2
open PySem PySem.Spec PyProof.Rows
variable{env:Env}{names:List (Str×NameKind)}{x:Str}{c:Addr}{scope:Scope}{X:Cx}
def k7(env:Env)(names:List (Str×NameKind)):List (Str×Addr):=((names.filter λy=>y.2 == .free).reverse).map λy=>(y.1,(env.cells.lookup y.1).getD 0)
theorem L4{g:Str->Addr}{x:Str}:∀{l:List (Str×NameKind)},(∃k,(x,k)∈l)->(l.map λy=>(y.1,g y.1)).lookup x=some (g x)
 |[],h=>by obtain⟨k,h⟩:=h;cases h
 |(n,k)::r,h=>by
  show List.lookup x ((n,g n)::_)=_;cases hx:x == n with
  |true=>
   have e:x=n:=by simpa using hx
   subst e;simp[pz]
  |false=>
   simp only[pz,hx];refine L4 (l:=r) ?_;obtain⟨k',h⟩:=h;rcases fV.mp h with e|e
   ·cases e;simp at hx
   ·exact⟨k',e⟩
theorem Lx{g:Str->Addr}{x:Str}{c:Addr}:∀{l:List (Str×NameKind)},(l.map λy=>(y.1,g y.1)).lookup x=some c->c=g x/\∃k,(x,k)∈l
 |[],h=>by cases h
 |(n,k)::r,h=>by
  have h:List.lookup x ((n,g n)::(r.map λy=>(y.1,g y.1)))=some c:=h
  cases hx:x == n with
  |true=>
   have e:x=n:=by simpa using hx
   subst e;simp only[pz,hx] at h;exact⟨(Option.some.inj h).symm,k,qa⟩
  |false=>
   simp only[pz,hx] at h;obtain⟨e,k',hk⟩:=Lx h;exact⟨e,k',oI _ hk⟩
theorem M'(h:(x,NameKind.free)∈names)(hc:env.cells.lookup x=some c):(k7 env names).lookup x=some c:=by
 have:=L4 (g:=λn=>(env.cells.lookup n).getD 0) (x:=x) (l:=(names.filter λy=>y.2 == .free).reverse) ⟨.free,by simp[h]⟩
 unfold k7;rw[this,hc];rfl
theorem HU(hf:∀y∈names,y.2=.free->∃c,env.cells.lookup y.1=some c)(h:(k7 env names).lookup x=some c):env.cells.lookup x=some c:=by
 obtain⟨e,k,hk⟩:=Lx (g:=λn=>(env.cells.lookup n).getD 0) h
 have zp:=zC.mp (List.mem_reverse.mp hk);obtain⟨c',lR⟩:=hf _ zp.1 (by simpa using zp.2)
 have Jn:env.cells.lookup x=some c':=lR;rw[e,Jn];rfl
theorem Gr{env:Env}:∀(names:List (Str×NameKind)) (cs:List (Str×Addr)),(∀y∈names,y.2=.free->∃c,env.cells.lookup y.1=some c)->
  (forIn names cs (λ(x:Str×NameKind) (r:List (Str×Addr))=>if(x.2 == NameKind.free)=true then(do let a <-cellOf env x.1;pure (ForInStep.yield ((x.1,a)::r))) else(pure (ForInStep.yield r):Sem (ForInStep (List (Str×Addr)))))) =
   pure (k7 env names++cs)
 |[],cs,_=>by rw[List.forIn_nil];rfl
 |(n,k)::r,cs,h=>by
  rw[List.forIn_cons];cases hk:k == NameKind.free with
  |true=>
   obtain⟨c,hc⟩:=h (n,k) qa (by simpa using hk)
   have lR:env.cells.lookup n=some c:=hc;have e:cellOf env n=pure c:=by unfold cellOf;rw[lR]
   simp only[hk,if_true,e,pure_bind];rw[Gr r _ λy hy=>h y (oI _ hy)]
   congr 1
   unfold k7;rw[uo];simp[hk,lR]
  |false=>
   simp only[hk,qx,if_false,pure_bind];rw[Gr r _ λy hy=>h y (oI _ hy)]
   congr 1
   unfold k7;rw[uo];simp[hk]
theorem Lu(h:∀y∈scope.names,y.2=.free->∃c,env.cells.lookup y.1=some c):closureFor scope env=pure (k7 env scope.names):=by
 have:=Gr (env:=env) scope.names [] h;rw[p7] at this;unfold closureFor;show(forIn scope.names [] _ >>= λr=>pure r)=_
 rw[bind_pure];exact this
theorem LN{env:Env}:∀{names:List (Str×NameKind)} {x:Str},names.lookup x=some .free->
  (names.map λ(n,k)=>if(k == NameKind.free && env.scope.kind == .function && env.kindOf n == some .cell) then(n,NameKind.cell) else(n,k)).lookup x=some .cell\/
  (names.map λ(n,k)=>if(k == NameKind.free && env.scope.kind == .function && env.kindOf n == some .cell) then(n,NameKind.cell) else(n,k)).lookup x=some .free
 |[],_,h=>by simp at h
 |(n,k)::r,x,h=>by
  have ih:=@LN env r x;show List.lookup x ((if(k == NameKind.free && env.scope.kind == .function && env.kindOf n == some .cell)=true then(n,NameKind.cell) else(n,k))::_)=_\/List.lookup x ((if(k == NameKind.free && env.scope.kind == .function && env.kindOf n == some .cell)=true then(n,NameKind.cell) else(n,k))::_)=_
  cases hx:x == n with
  |true=>
   simp only[pz,hx] at h;cases h;by_cases hc:(NameKind.free == NameKind.free && env.scope.kind == .function && env.kindOf n == some .cell)=true
   ·rw[if_pos hc];simp[pz,hx]
   ·rw[if_neg hc];simp[pz,hx]
  |false=>
   simp only[pz,hx] at h;by_cases hc:(k == NameKind.free && env.scope.kind == .function && env.kindOf n == some .cell)=true
   ·rw[if_pos hc];simp only[pz,hx];exact ih h
   ·rw[if_neg hc];simp only[pz,hx];exact ih h
theorem Gu{env:Env}:∀{names:List (Str×NameKind)} {x:Str} {q:NameKind},(q=.cell\/q=.free)->(∀y∈names,y.2≠.cell)->
  (names.map λ(n,k)=>if(k == NameKind.free && env.scope.kind == .function && env.kindOf n == some .cell) then(n,NameKind.cell) else(n,k)).lookup x=some q->(x,NameKind.free)∈names
 |[],_,_,_,_,h=>by simp at h
 |(n,k)::r,x,q,hq,hn,h=>by
  have ih:=@Gu env r x q hq λy hy=>hn y (oI _ hy)
  have hk:k≠.cell:=hn (n,k) qa;have h:List.lookup x ((if(k == NameKind.free && env.scope.kind == .function && env.kindOf n == some .cell)=true then(n,NameKind.cell) else(n,k))::_)=some q:=h
  cases hx:x == n with
  |true=>
   have e:x=n:=by simpa using hx
   subst e;by_cases hc:(k == NameKind.free && env.scope.kind == .function && env.kindOf x == some .cell)=true
   ·have hf:k=.free:=by
     simp only[m6,beq_iff_eq] at hc;exact hc.1.1
    subst hf;exact qa
   ·rw[if_neg hc] at h;simp only[pz,hx] at h;have e:k=q:=Option.some.inj h;rcases hq with rfl|rfl
    ·exact absurd e hk
    ·rw[e];exact qa
  |false=>
   by_cases hc:(k == NameKind.free && env.scope.kind == .function && env.kindOf n == some .cell)=true
   ·rw[if_pos hc] at h;simp only[pz,hx] at h;exact oI _ (ih h)
   ·rw[if_neg hc] at h;simp only[pz,hx] at h;exact oI _ (ih h)
def iu(X:Cx)(scope:Scope)(M:List Str)(C:Addr)(s:Shared)(H:Hp)(fp:List Addr):Cx:=
 {X with N:=M,s₀:=s,H₀:=H,env:=compEnvC scope (k7 X.env scope.names) C X.env,outer:=X.stack,ex:=fp,fn:=λ_=>false,pn:=[],xe:=λ_ _=>False}
def k6(k:Nat)(e_:List Nat)(Z:St):St:=List.replicate k none++e_.map λi=>(Z[i]?).join
def qB(X:Cx)(ifs:List Expr)(t:TT):Prop:=
 ∀(ae:List (Addr×Obj)) (s:Shared) (Z:St) (H:Hp) (Q:Bool->Hp->Prop),Inv X ae Z H s->t Z H Q->
  wpAny (model X.prog X.w) X.A (forIn ifs true λc r=>if r=true then do let ok <-isTrue c X.env (eval c X.env);pure (ForInStep.yield ok) else pure (ForInStep.yield r)) (TP X ae Z Q) X.xe s
def KU:TT:=λ_ H Q=>Q true H
theorem WH:qB X [] KU:=λ_ _ Z H _ I h=>wpAny_tests_nil ⟨H,I,h⟩
theorem WI{c:Expr}{t:TT}(hc:PT X c t):qB X [c] t:=λae s Z H Q I h=>wpAny_tests_one (hc ae s Z H Q I h)
theorem QN{prog:Program}{w:World}{A:Around}{R:Result->Shared->Prop}{s:Shared}{elt target iter:Expr}{ifs:List Expr}{pos:Pos}{it bA:Value}(I:Nat->Shared->Prop)
  (turn:∀n s,I n s->wpAny (model prog w) A (pyNext it) (λr s₁=>match r with
   |none=>R (.ok .next) s₁
   |some v=>wpAny (model prog w) A (letOwnedTupleGo target it v) (λ_ s₀=>wpAny (model prog w) A (assign target env v) (λ_ s₂=>
     wpAny (model prog w) A (forIn ifs true λc r=>if r=true then do let ok <-isTrue c env (eval c env);pure (ForInStep.yield ok) else pure (ForInStep.yield r)) (λok s₃=>
      if ok=true then wpAny (model prog w) A (eval elt env) (λx s₄=>
       wpAny (model prog w) A (call (.builtin "list.append") [bA,x]) (λ_ s₅=>∃m,m < n/\I m s₅) (λ_ _=>False) s₄) (λ_ _=>False) s₃
      else ∃m,m < n/\I m s₃) (λ_ _=>False) s₂) (λ_ _=>False) s₀) (λ_ _=>False) s₁) (λ_ _=>False) s)
  (n:Nat) (h:I n s) :
  codeAny (model prog w) A (.compLoop (.ListComp elt [⟨target,iter,ifs,0⟩] scope pos) 0 it bA env) R s:=by
 refine codeAny_loop rfl I (λn s hI=>?_) n h
 show wpAny _ A ((compTurn (.ListComp elt [⟨target,iter,ifs,0⟩] scope pos) 0 it bA env).onRaise (λx=>do noteFrame x env;theTreesLotGoes x)) _ _ s
 refine wpAny_noted ?_;rw[compTurn_list];refine wpAny_bind (wpAny_standAt (wpAny_bind (wpAny_mono (turn n s hI) (λr s₁ h₁=>?_) λ_ _ h'=>h'.elim)))
 cases r with
 |none=>exact wpAny_pure h₁
 |some v=>
  refine wpAny_bind (wpAny_mono h₁ (λ_ s₀ h₀=>?_) λ_ _ h'=>h'.elim)
  refine wpAny_bind (wpAny_mono h₀ (λ_ s₂ h₂=>wpAny_bind (wpAny_mono h₂ (λok s₃ h₃=>?_) λ_ _ h'=>h'.elim)) λ_ _ h'=>h'.elim)
  cases ok with
  |false=>exact wpAny_pure ⟨rfl,h₃⟩
  |true=>
   exact wpAny_bind (wpAny_bind (wpAny_mono h₃ (λx s₄ h₄=>wpAny_bind (wpAny_mono h₄ (λ_ s₅ h₅=>wpAny_pure (wpAny_pure ⟨rfl,h₅⟩)) λ_ _ h'=>h'.elim)) λ_ _ h'=>h'.elim))
end L2
namespace L2
open PySem PySem.Spec PyProof.Rows
variable{H:Hp}{s:Shared}{fp:List Addr}{wi:TI}
theorem Inv.Cn{X:Cx}{ae:List (Addr×Obj)}{Z:St}{a:Addr}{o:HO}(I:Inv X ae Z H s)(hn:H a=none)(hy:X.s₀.heap.objs.size<=a)(hL:a≠X.env.locals)(hC:∀x c,X.env.cells.lookup x=some c->c≠a)
  (hP:∀p∈X.pn++ae,p.1≠a) (new:bx X.prog X.w (upd H a o) s.heap a o):Inv X ae Z (upd H a o) s:=by
 refine⟨I.ok,I.os,I.bare,⟨I.base.keep,I.base.slot,λb ob e n hx=>?_,I.base.there,λb xs e=>?_,λb ob u e=>?_,λb ps e=>?_⟩,I.loc,I.cell,?_,λx c e=>?_,λp hp=>?_,λb u e=>?_,I.len⟩
 ·rw[eX (jl (jk (eH e) hy))];exact I.base.free b ob e n hx
 ·have z:=I.base.lV b xs e;rw[eX (qG z hn)];exact z
 ·have z:=I.base.k_ b ob u e;rw[eX (qG z hn)];exact z
 ·obtain⟨m,z⟩:=I.base.lU b ps e;exact⟨m,by rw[eX (qG z hn)];exact z⟩
 ·rw[eX (Ne.symm hL)];exact I.free
 ·rw[eX (hC x c e)];exact I.jK x c e
 ·obtain⟨e,n,r⟩:=I.pin p hp;exact⟨e,by rw[eX (hP p hp)];exact n,r⟩
 ·by_cases hb:b=a
  ·subst hb;rw[aL] at e;cases e;exact new
  ·rw[eX hb] at e;exact(I.bF b u e).mQ (λc v _ q=>q) (λc q=>by rw[eX (qG q hn)];exact q) λc xs q=>by rw[eX (qG q hn)];exact q
def oK(J:It)(g:TG)(tt:TT)(te:TE)(τ₀:St)(H1:Hp)(Fin:List V->Hp->Prop):Prop:=
 ∃(n:Nat) (W:Nat->St->List V->Hp->Prop),W 0 τ₀ [] H1/\∀i τ bA H,i<=n->W i τ bA H->
  (J.stop i H/\Fin bA H)\/(i < n/\J.go i H/\∀x H',J.rX i H x H'->g x τ H' λτ2 H2=>tt τ2 H2 λb H3=>if b=true then te τ2 H3 λv H4=>bA.length < sizeLine/\W (i+1) τ2 (bA++[v]) H4 else W (i+1) τ2 bA H3)
structure f9 (X:Cx) (scope:Scope) (M:List Str) (k:Nat) (e_:List Nat):Prop where
 kind:scope.kind=.function
 cell:∀y∈scope.names,y.2≠.cell
 free:∀y∈scope.names,y.2=.free->X.env.kindOf y.1=some .cell\/X.env.kindOf y.1=some .free
 names:∀y∈scope.names,y.2=.local -> scope.names.lookup y.1=some .local
 len:M.length=k+e_.length
 Iy:∀(j i:Nat) (x:Str),e_[j]?=some i->M[k+j]?=some x->X.N[i]?=some x/\scope.names.lookup x=some .free
section
variable {X:Cx} {ae:List (Addr×Obj)} {Z:St} {tg elt iter:Expr} {ifs:List Expr} {scope:Scope} {pos:Pos} {M:List Str} {k:Nat} {e_:List Nat} {g:TG} {tt:TT} {te:TE}
theorem Inv.jM(I:Inv X ae Z H s)(ok:f9 X scope M k e_):∀y∈scope.names,y.2=.free->∃c,X.env.cells.lookup y.1=some c:=λy hy e=>I.ok.has y.1 (ok.free y hy e)
theorem Inv.block{s4:Shared}{C D:Addr}{oD:Obj}{m:Str->Option Value}(I:Inv X ae Z H s)(ok:f9 X scope M k e_)(f2:∀b∈fp,jU X ae H b)(EF:∀b∈fp,∃o,s.heap.get? b=some o/\∀v,o.data≠.cell v)
  (hC:s.heap.objs.size<=C) (A8:D≠C) (hD:s.heap.objs.size<=D) (old:∀b o,s.heap.get? b=some o->s4.heap.get? b=some o) (os:s4.os=s.os) (gens:s4.gens=s.gens)
  (ns:s4.heap.Ns C m) (JF:s4.heap.get? D=some oD) (Js:∀v,oD.data≠.cell v):Inv (iu X scope M C s H fp) [(D,oD)] (k6 k e_ Z) H s4:=by
 have hf:=I.jM ok;have fr:∀a,s.heap.objs.size<=a->H a=none:=λa ha=>I.bF.fresh ha
 have nfs:∀b∈lP X.stack,b < s.heap.objs.size:=λb hb=>by
  rcases fV.mp (I.lA b hb) with e|e
  ·rw[e];exact I.lt
  ·exact Nat.lt_of_not_le λz=>I.xw z e
 have cl:∀x c,(k7 X.env scope.names).lookup x=some c->X.env.cells.lookup x=some c:=λx c e=>HU hf e
 refine⟨⟨I.ok.mod,ok.kind,I.ok.glob,I.ok.blt,hC,λx y c e1 e2=>I.ok.inj x y c (cl x c e1) (cl y c e2),λx hx=>?_,λx c e _=>?_,I.ok.hd,I.ok.frames,.inl rfl,λb hb=>?_,I.bs,lC I.ok.wH I.sz,λb o e hb=>?_,λb hb z=>?_,I.stack,I.mR⟩,
  os,by rw[gens];exact I.bare,Un.kept old,⟨m,ns,λi x v h1 h2 h3=>?_⟩,λx c e=>?_,fr C hC,λx c e=>I.jK x c (cl x c e),λp hp=>?_,I.bF.kept old,?_⟩
 ·have hx:(relabel scope X.env).names.lookup x=some .cell\/(relabel scope X.env).names.lookup x=some .free:=hx;have hm:(x,NameKind.free)∈scope.names:=by
   rcases hx with h|h
   ·exact Gu (env:=X.env) (.inl rfl) ok.cell h
   ·exact Gu (env:=X.env) (.inr rfl) ok.cell h
  obtain⟨c,hc⟩:=hf _ hm rfl;exact⟨c,M' hm hc⟩
 ·cases e
 ·obtain⟨f0,f1,f2,f3,f4,f5⟩:=f2 b hb;obtain⟨ob,eb,_⟩:=EF b hb;exact⟨jl (jk (eH eb) hC),λx c e=>f4 x c (cl x c e)⟩
 ·obtain⟨f0,f1,f2,f3,f4,f5⟩:=f2 b hb;rcases f3 with q|q
  ·exact I.ok.xt b o e q
  ·exact absurd (jk (eH e) (lC I.ok.wH q)) (lX _)
 ·obtain⟨f0,f1,f2,f3,f4,f5⟩:=f2 b hb;rcases fV.mp (I.lA b z) with q|q
  ·exact f1 q
  ·exact f2 q
 ·unfold k6 at h2;have hk:¬i < k:=λq=>by
   rw[rQ (by simpa using q),K7] at h2
   split at h2 <;> cases h2
  rw[qv (by simpa using hk),oJ,jx] at h2
  cases e:e_[i - k]? with
  |none=>rw[e] at h2;cases h2
  |some j=>
   rw[e] at h2;have A7:(Z[j]?).join=some v:=Option.some.inj h2;have hj:Z[j]?=some (some v):=by
    cases q:Z[j]? with
    |none=>rw[q] at A7;cases A7
    |some z=>rw[q] at A7;simp at A7;rw[A7]
   have wW:k+(i - k)=i:=by omega
   obtain⟨hN,qT⟩:=ok.Iy (i - k) j x e (by rw[wW];exact h1)
   have hm:(x,NameKind.free)∈scope.names:=PySem.mem_of_lookup qT;have Qc:=ok.free _ hm rfl;obtain⟨mX,hnX,hlX⟩:=I.loc;obtain⟨u,ru,lk⟩:=hlX j x v hN hj (by rcases Qc with q|q;exact .inr (.inl q);exact .inr (.inr q))
   refine⟨u,ru,.inr ⟨LN (env:=X.env) qT,?_⟩⟩;rcases lk with⟨q,_⟩|⟨_,c,hc,o4⟩
   ·rcases Qc with z|z
    ·rw[show X.env.kindOf x=some .cell from z] at q;cases q
    ·rw[show X.env.kindOf x=some .free from z] at q;cases q
   ·exact⟨c,M' hm hc,o4.keeps old⟩
 ·obtain⟨v,z⟩:=I.cell x c (cl x c e);exact⟨v,z.keeps old⟩
 ·have e:p=(D,oD):=by simpa[iu] using hp
  subst e;exact⟨JF,fr D hD,A8,λz=>absurd (jk (nfs D z) hD) (lX _),Js⟩
 ·unfold k6;rw[f7,oJ,cz];exact ok.len.symm
theorem My{H2:Hp}{s2:Shared}{J:It}{it:Addr}{tn:Nat->Heap->Prop}{RR:Value->Addr->Result->Shared->Prop}{E:Value->Shared->Prop}{Fin:List V->Hp->Prop}(I2:Inv X ae Z H2 s2)(hc:X.calm=true)(ok:f9 X scope M k e_)
  (T:Turn X.prog X.w X.K tg J fp it tn) (qr:tn 0 s2.heap) (f2:∀b∈fp,jU X ae H2 b)
  (hg:∀C s H fp,PG (iu X scope M C s H fp) tg g) (ht:∀C s H fp,qB (iu X scope M C s H fp) ifs tt) (he:∀C s H fp,PE (iu X scope M C s H fp) elt te)
  (hW:oK J g tt te (k6 k e_ Z) H2 Fin)
  (hRR:∀D C s' H' bA,Inv X ae Z (upd H' D (.lst bA)) s'->jU X ae (upd H' D (.lst bA)) C->(∃m,s'.heap.Ns C m)->H' D=none->Fin bA H'->RR (.ref D) C (.ok .next) s') :
  wpAny (model X.prog X.w) X.A (newList []) (λbA s₃=>wpAny (model X.prog X.w) X.A (newFunctionEnv scope X.env.globals (k7 X.env scope.names) [] X.env.qual none .none (some X.env)) (λAU s₄=>
   codeAny (model X.prog X.w) X.A (.compStart (.ListComp elt [⟨tg,iter,ifs,0⟩] scope pos) 0 (.ref it) bA { AU with scope:=relabel scope X.env}) (RR bA AU.locals) s₄) E s₃) E s2:=by
 refine wpAny_newObj_type (wpAny_newFunctionEnv ok.cell (by intro y hy;simp at hy) (λh₁ hns₁ hsb₁=>?_) ok.kind)
 dsimp only at hns₁ hsb₁ ⊢;generalize Jj:s2.heap.push { cls:=.type "list",dict:=none,data:=.seq ([]:List Value).toArray}=H3 at hns₁ hsb₁ ⊢;have Ji:H3.objs.size=s2.heap.objs.size+1:=by rw[<-Jj,Heap.size_push]
 have A8:s2.heap.objs.size≠H3.objs.size:=by rw[Ji];exact jl (sF _)
 have below:∀b,b < s2.heap.objs.size->b≠H3.objs.size/\b≠s2.heap.objs.size:=λb hb=>⟨by rw[Ji];exact jl (yg hb),jl hb⟩
 have old:∀b o,s2.heap.get? b=some o->h₁.get? b=some o:=λb o e=>hsb₁.extBut b o (below b (eH e)).1 (fg _ (Jj ▸ fg _ e))
 have tG:h₁.get? s2.heap.objs.size=some { cls:=.type "list",data:=.seq ([]:List Value).toArray 0}:=hsb₁.extBut _ _ A8 (fg _ (Jj ▸ kA _ rfl));have EF:=T.obj 0 _ qr;have tF:s2.heap.objs.size<=H3.objs.size:=by rw[Ji];exact um _
 obtain⟨N,W,w0,turn⟩:=hW;have QD:tn 0 h₁:=T.keep _ _ _ qr λb _ o e=>old b o e
 have loop:∀s₃:Shared,s₃={ s2 with heap:=h₁,toks:=s2.toks+([]:List (Str×Value)).length}->
   codeAny (model X.prog X.w) X.A (.compLoop (.ListComp elt [⟨tg,iter,ifs,0⟩] scope pos) 0 (.ref it) (.ref s2.heap.objs.size) (compEnvC scope (k7 X.env scope.names) H3.objs.size X.env))
    (RR (.ref s2.heap.objs.size) H3.objs.size) s₃:=by
  rintro s₃ rfl;have I3:Inv (iu X scope M H3.objs.size s2 H2 fp) [(s2.heap.objs.size,{ cls:=.type "list",data:=.seq ([]:List Value).toArray 0})] (k6 k e_ Z) H2 { s2 with heap:=h₁,toks:=s2.toks+([]:List (Str×Value)).length}:=
   I2.block ok f2 EF tF A8 (cI _) old rfl rfl hns₁ tG (λv z=>by cases z)
  have Ja:∀b∈fp,b≠H3.objs.size/\b≠s2.heap.objs.size:=λb hb=>let ⟨o,e,_⟩:=EF b hb;below b (eH e)
  have oF:∀{H':Hp} {oD:Obj},(∀b∈fp,H' b=none)->∀b∈fp,jU (iu X scope M H3.objs.size s2 H2 fp) [(s2.heap.objs.size,oD)] H' b:=λ{H' oD} hn b hb=>by
   obtain⟨f0,f1,f2,f3,f4,f5⟩:=f2 b hb;refine⟨hn b hb,(Ja b hb).1,λz=>?_,.inl hb,λx c e=>f4 x c (HU (I2.jM ok) e),λp hp z=>?_⟩
   ·rcases fV.mp (I2.lA b z) with q|q
    ·exact f1 q
    ·exact f2 q
   ·have e:p=(s2.heap.objs.size,oD):=by simpa[iu] using hp
    subst e;exact(Ja b hb).2 z.symm
  refine QN (λn s'=>∃(i:Nat) (τ:St) (bA:List V) (us:List Value) (c:Nat) (H':Hp),Vals bA us/\bA.length<=sizeLine/\
   Inv (iu X scope M H3.objs.size s2 H2 fp) [(s2.heap.objs.size,{ cls:=.type "list",data:=.seq us.toArray c})] τ H' s'/\tn i s'.heap/\(∀b∈fp,H' b=none)/\n=N - i/\i<=N/\W i τ bA H') ?_ N
   ⟨0,k6 k e_ Z,[],[],0,H2,.nil,mU _,I3,QD,λb hb=>(f2 b hb).1,rfl,mU _,w0⟩
  rintro n s3 ⟨i,τ,bA,us,c,H',rv,hlen,I,st,fr,rfl,hiN,w⟩;have pinD:=(I.pin (s2.heap.objs.size,{ cls:=.type "list",data:=.seq us.toArray c}) (by simp[iu]))
  rcases turn i τ bA H' hiN w with⟨stop,qn⟩|⟨oz,go,step⟩
  ·refine bI (T.done (iu X scope M H3.objs.size s2 H2 fp) rfl rfl rfl hc i _ s3 τ H' (λ_ _=>False) I (oF fr) st stop) λr s4 ⟨hr,I4⟩=>?_
   subst hr;have rE:=(I4.pin (s2.heap.objs.size,{ cls:=.type "list",data:=.seq us.toArray c}) (by simp[iu]))
   have ox:∀b∈fp,(b∈X.ex\/X.s₀.heap.objs.size<=b)/\b≠X.env.locals/\(∀x c,X.env.cells.lookup x=some c->c≠b)/\∀p∈X.pn++ae,p.1≠b:=λb hb=>by
    obtain⟨f0,f1,f2,f3,f4,f5⟩:=f2 b hb;exact⟨f3,f1,f4,f5⟩
   have J1:Inv X ae Z H' s4:=I2.uT (ch:=fp) I4.os I4.base I4.bF I4.bare ox;have young:X.s₀.heap.objs.size<=s2.heap.objs.size:=I2.sz;have apart:∀a,s2.heap.objs.size<=a->a≠X.env.locals/\(∀x c,X.env.cells.lookup x=some c->c≠a)/\∀p∈X.pn++ae,p.1≠a:=λa ha=>
    ⟨vI (jk I2.lt ha),λx c e z=>by
     obtain⟨v,q⟩:=I2.cell x c e;exact absurd (jk q.lt (by rw[z];exact ha)) (lX _),λp hp z=>absurd (jk (eH (I2.pin p hp).1) (by rw[z];exact ha)) (lX _)⟩
   have aD:=apart _ (cI _);have aC:=apart _ tF;have J2:Inv X ae Z (upd H' s2.heap.objs.size (.lst bA)) s4:=J1.Cn rE.2.1 young aD.1 aD.2.1 aD.2.2 ⟨hlen,us,c,rv,rE.1⟩;obtain⟨m,hn,_⟩:=I4.loc;have hCn:H' H3.objs.size=none:=I4.free;refine hRR _ _ s4 H' bA J2 ⟨?_,aC.1,I2.xw tF,.inr (lC young tF),aC.2.1,aC.2.2⟩ ⟨m,hn⟩ rE.2.1 qn;rw[eX (Ne.symm A8)];exact hCn
  ·refine bI (T.item (iu X scope M H3.objs.size s2 H2 fp) rfl rfl rfl hc i _ s3 τ H' (λ_ _=>False) I (oF fr) st go) λr s4 ⟨u,hr,h4⟩=>?_
   subst hr;refine bI h4 λ_ s5 hh=>?_
   obtain⟨x,H5,I5,r5,y5,xY,Jc⟩:=hh;have Fe:=I5.pinned (oF Jc) (T.obj _ _ xY);refine bI (hg _ _ _ _ _ s5 τ H5 x u _ Fe r5 (step x H5 y5)) λ_ s6 hh=>?_
   obtain⟨τ6,H6,I6,q6⟩:=hh;refine bI (ht _ _ _ _ _ s6 τ6 H6 _ I6 q6) λb s7 hh=>?_
   obtain⟨H7,I7,q7⟩:=hh;have q_:∀{s':Shared} {τ':St} {Hn:Hp},Inv (iu X scope M H3.objs.size s2 H2 fp) ([(s2.heap.objs.size,{ cls:=.type "list",data:=.seq us.toArray c})]++AE fp s5.heap) τ' Hn s'->tn (i+1) s'.heap/\∀b∈fp,Hn b=none:=λ{s' τ' Hn} I'=>by
    refine⟨T.keep _ _ _ xY λb hb o e=>(I'.pin (b,o) (nY _ (nY _ (z_ hb e)))).1,λb hb=>?_⟩
    obtain⟨o,e,d⟩:=T.obj _ _ xY b hb;exact(I'.pin (b,o) (nY _ (nY _ (z_ hb e)))).2.1
   cases b with
   |false=>
    rw[if_neg nM] at q7;show ∃m,m < N - i/\_;obtain⟨st7,fr7⟩:=q_ I7;exact⟨N - (i+1),by omega,i+1,τ6,bA,us,c,H7,rv,hlen,I7.g_,st7,fr7,rfl,oz,q7⟩
   |true=>
    rw[if_pos rfl] at q7;show wpAny _ _ (eval elt _) _ _ s7;refine bI (he _ _ _ _ _ s7 τ6 H7 _ I7 q7) λv s8 hh=>?_
    obtain⟨y,H8,I8,r8,hl8,w8⟩:=hh;obtain⟨st8,fr8⟩:=q_ I8;have mm:=(I8.pin (s2.heap.objs.size,{ cls:=.type "list",data:=.seq us.toArray c}) (by simp[iu]))
    have hul:=rv.length;refine append_at (hsz:=by show us.toArray.size<=sizeLine;rw[fE,<-hul];exact hlen) mm.1 λh9 QC e9=>?_
    have π:h9.get? s2.heap.objs.size=some { cls:=.type "list",data:=.seq (us++[v]).toArray (c+1)}:=by rw[e9,List.push_toArray]
    have QL:=I8.g_;have A9:s2.heap.objs.size≠(iu X scope M H3.objs.size s2 H2 fp).env.locals:=mm.2.2.1;have nx:∀(b:Addr),H8 b≠none->b≠s2.heap.objs.size:=λb hb z=>hb (by rw[z];exact mm.2.1)
    refine⟨N - (i+1),by omega,i+1,τ6,bA++[y],us++[v],c+1,H8,rv.append (.cons r8 .nil),by rw[f7,Cz];exact hl8,?_,?_,fr8,rfl,oz,w8⟩
    ·have I9:Inv (iu X scope M H3.objs.size s2 H2 fp) [] τ6 H8 s8:=QL.kG (λp hp=>absurd hp (by simp))
     have QK:Inv (iu X scope M H3.objs.size s2 H2 fp) [] τ6 H8 { s8 with heap:=h9}:=I9.turned (t':=s8.toks) (λb o hb e=>(QC.2 b hb).trans e) mm.2.1 A9 (.inr (cI _))
      (λx cc e z=>by
       obtain⟨v',q⟩:=I2.cell x cc (HU (I2.jM ok) e);exact absurd (jk q.lt (by rw[z];exact cI _)) (lX _)) (λp hp=>absurd hp (by simp[iu]))
     refine QK.kG λp hp=>?_
     have e:p=(s2.heap.objs.size,{ cls:=.type "list",data:=.seq (us++[v]).toArray (c+1)}):=by simpa using hp
     subst e;exact⟨π,mm.2.1,A9,mm.2.2.2.1,λv' z=>by cases z⟩
    ·exact T.keep _ _ _ st8 λb hb o e=>QC.extBut b o (Ja b hb).2 e
 exact codeAny_compStart_list (loop _ rfl) (T.self _ 0 _ _ _ QD (loop _ rfl))
def vE(wi:TI)(g:TG)(tt:TT)(te:TE)(k:Nat)(e_:List Nat):TE:=λZ H Q=>wi Z H λJ H1=>oK J g tt te (k6 k e_ Z) H1 λbA H'=>∀l,H' l=none->Q (.ref l) (upd H' l (.lst bA))
theorem WJ(hc:X.calm=true)(ok:f9 X scope M k e_)(hi:PI X tg iter wi)
  (hg:∀C s H fp,PG (iu X scope M C s H fp) tg g) (ht:∀C s H fp,qB (iu X scope M C s H fp) ifs tt) (he:∀C s H fp,PE (iu X scope M C s H fp) elt te)
  (hs:∀x,foldedSetIterable iter X.env x=pure x:=by intro _;rfl):PE X (.ListComp elt [⟨tg,iter,ifs,0⟩] scope pos) (vE wi g tt te k e_):=by
 intro ae s Z H Q I h;rw[eval_ListComp];refine wpAny_comprehension_free (use:=none) rfl hs (Lu (I.jM ok)) ok.kind ok.names (bI (hi ae s Z H _ I h) λv s1 h1=>bI h1 λEM s2 h2=>?_)
 obtain⟨it,fp,tn,J,H2,e,I2,T,qr,f2,hW⟩:=h2;subst e;refine My (RR:=λbA C=>compPost (model X.prog X.w) X.A X.xe none (EP X ae Z Q) bA C) I2 hc ok T qr f2 hg ht he hW ?_
 intro D C s' H' bA I' fC ⟨m,hn⟩ hD hq;refine⟨m,hn,λh' sb=>?_⟩
 obtain⟨f0,f1,f2,f3,f4,f5⟩:=fC;exact⟨.ref D,_,I'.turned (t':=s'.toks) (λb o hb e=>(sb.2 b hb).trans e) f0 f1 f3 f4 f5,rfl,hq D hD⟩
def B6(wi:TI)(g:TG)(tt:TT)(te:TE)(k:Nat)(e_:List Nat)(i:Nat):TS:=λD Z H=>vE wi g tt te k e_ Z H λv H'=>D.nx (Z.set i (some v)) H'
theorem WK{i:Nat}{x:Str}{px nJ:Pos}(hc:X.calm=true)(ok:f9 X scope M k e_)(hN:X.N.Nodup)(wW:X.N[i]?=some x)(hx:Loc X.env.scope x)(hi:PI X tg iter wi)
  (hg:∀C s H fp,PG (iu X scope M C s H fp) tg g) (ht:∀C s H fp,qB (iu X scope M C s H fp) ifs tt) (he:∀C s H fp,PE (iu X scope M C s H fp) elt te)
  (Bo:swapsWith (.ListComp elt [⟨tg,iter,ifs,0⟩] scope pos) (some (.Name x px)) nJ.line X.env=pure true)
  (hs:∀x,foldedSetIterable iter X.env x=pure x:=by intro _;rfl) (hf:X.fn x=true\/X.env.scope.names.lookup x=some .local := by first|exact .inl rfl|exact .inr rfl|assumption) :
  PS X (.Assign [.Name x px] (.ListComp elt [⟨tg,iter,ifs,0⟩] scope pos) nJ) (B6 wi g tt te k e_ i):=by
 intro ae s Z H D I h;rw[exec_Assign_Name_used _ _ _ _ Bo];refine wpAny_bind (wpAny_standAt (wpAny_bind ?_));show wpAny _ X.A (do let _ <-comprehension (.ListComp elt [⟨tg,iter,ifs,0⟩] scope pos) scope X.env _ (newList []) false (eval iter X.env) (some (assign (.Name x px) X.env))) _ _ s
 refine wpAny_bind (wpAny_mono (wpAny_comprehension_free (use:=some (assign (.Name x px) X.env)) (Q:=λ_ s'=>SP X ae D .next s') rfl hs (Lu (I.jM ok)) ok.kind ok.names
  (bI (hi ae s Z H _ I h) λv s1 h1=>bI h1 λEM s2 h2=>?_)) (λ_ s' hq=>wpAny_pure (wpAny_pure hq)) λ_ _ e=>e)
 obtain⟨it,fp,tn,J,H2,e,I2,T,qr,f2,hW⟩:=h2;subst e;refine My (RR:=λbA C=>compPost (model X.prog X.w) X.A X.xe (some (assign (.Name x px) X.env)) (λ_ s'=>SP X ae D .next s') bA C) I2 hc ok T qr f2 hg ht he hW ?_
 intro D' C s' H' bA I' fC ⟨m,hn⟩ hD hq;obtain⟨f0,f1,f2,f3,f4,f5⟩:=fC;show wpAny _ X.A (assign (.Name x px) X.env (.ref D')) _ _ _;refine wpAny_assign_Name (Ms I' hN wW hx (v:=.ref D') rfl (λrK QJ hh=>?_) hf)
 obtain⟨a,sb,ha⟩:=hh;have hCa:C≠a:=by
  rcases ha with e|e
  ·rw[e];exact f1
  ·exact λz=>f4 _ _ e z.symm
 refine⟨m,hn.sameBut sb hCa,λh' sb'=>⟨_,_,QJ.turned (t':=rK.toks) (λb o hb e=>(sb'.2 b hb).trans e) f0 f1 f3 f4 f5,hq D' hD⟩⟩
end
end L2
namespace L2
open PySem PySem.Spec PyProof.Rows
variable{w:World}{tg:Expr}{X:Cx}
def om(c:Nat):Str:=⟨#[c]⟩
def CM(x:Str):It:=⟨λi _=>i < x.cps.size,λi H v H'=>H'=H/\∃c,x.cps[i]?=some c/\v=.str (om c),λi _=>x.cps.size<=i⟩
theorem U_{P:Program}{K:PySem.W.Frag}(it:Addr)(x:Str)(t:Tok)(ty:String)(tM:ty="str_ascii_iterator"\/ty="str_iterator"):Turn P w K tg (CM x) [it] it (λi h=>h.IsStrIter it ty x t i) where
 mem:=by simp
 obj:=λi h st b hb=>by
  have e:b=it:=by simpa using hb
  subst e;obtain⟨o,e,c,d⟩:=st;exact⟨o,e,λv z=>by rw[d] at z;cases z⟩
 keep:=λi h h' st k=>by
  obtain⟨o,e,c,d⟩:=st;exact⟨o,k it (by simp) o e,c,d⟩
 item:=by
  intro X hP hw hK hc i ae s Z H E I hf st hg;subst hP hw hK;have hi:i < x.cps.size:=hg;obtain⟨f0,f1,f2,f3,f4,f5⟩:=hf it (by simp)
  have fin:∀h',h'.IsStrIter it ty x t (i+1)->Heap.SameBut it s.heap h'->∃u,some (Value.str ⟨#[x.cps[i]]⟩ s.toks)=some u/\
    wpAny (model X.prog X.w) X.A (letOwnedTupleGo tg (.ref it) u) (λ_ s2=>∃y H',Inv X ae Z H' s2/\RelV y u/\(CM x).rX i H y H'/\s2.heap.IsStrIter it ty x t (i+1)/\∀b∈[it],H' b=none) E { s with heap:=h',toks:=s.toks+1}:=λh' lG sb=>by
   have I1:Inv X ae Z H { s with heap:=h',toks:=s.toks+1}:=I.turned (λb o hb e=>(sb.2 b hb).trans e) f0 f1 f3 f4 f5
   obtain⟨o,e,c,d⟩:=id lG;refine⟨_,rfl,y7 (s:={ s with heap:=h',toks:=s.toks+1}) e c d (by rcases tM with z|z <;> subst z <;> decide) ⟨.str (om x.cps[i]),H,I1,⟨_,rfl⟩,⟨rfl,_,by simp[hi],rfl⟩,lG,λb hb=>(hf b hb).1⟩⟩
  rcases tM with z|z
  ·subst z;exact wpAny_pyNext_ascii_item st (c:=x.cps[i]) (by simp[hi]) fin
  ·subst z;exact wpAny_pyNext_wide_item st (c:=x.cps[i]) (by simp[hi]) fin
 done:=by
  intro X hP hw hK hc i ae s Z H E I hf st hg;subst hP hw hK;have hi:x.cps.size<=i:=hg;obtain⟨f0,f1,f2,f3,f4,f5⟩:=hf it (by simp)
  rcases tM with z|z
  ·subst z;exact wpAny_pyNext_ascii_end (I.ok.hd hc) st (by simp;omega) λh' eb=>⟨rfl,I.turned (t':=s.toks) (λb o hb e=>eb b o hb e) f0 f1 f3 f4 f5⟩
  ·subst z;exact wpAny_pyNext_wide_end (I.ok.hd hc) st (by simp;omega) λh' eb=>⟨rfl,I.turned (t':=s.toks) (λb o hb e=>eb b o hb e) f0 f1 f3 f4 f5⟩
 self:=λ_ _ _ _ _ st h=>by
  rcases tM with z|z
  ·subst z;exact wpAny_pyIter_striter_ascii st h
  ·subst z;exact wpAny_pyIter_striter_wide st h
def Bu(tl:TE):TI:=λZ H R=>tl Z H λx H1=>∃z,x=.str z/\R (CM z) H1
theorem YH{l:Expr}{tl:TE}(hl:PE X l tl):PI X tg l (Bu tl):=by
 intro ae s Z H R I h;refine bI (hl ae s Z H _ I h) λv s1 hh=>?_
 obtain⟨x,H1,I1,r1,q1⟩:=hh;obtain⟨z,e,q⟩:=q1;subst e;obtain⟨t,rfl⟩:=r1;have key:∀ty:String,ty="str_ascii_iterator"\/ty="str_iterator"->Fm X ae Z tg R (.ref s1.heap.objs.size) { s1 with heap:=s1.heap.push { cls:=.type ty,data:=.fields #[.str z t,.int 0 0]}}:=λty tM=>by
  refine⟨s1.heap.objs.size,[s1.heap.objs.size],_,_,H1,rfl,I1.kept (t':=s1.toks) λb o e=>fg _ e,U_ _ z t ty tM,⟨_,kA _ (by rcases tM with e|e <;> subst e <;> rfl),rfl,rfl⟩,λb hb=>?_,q⟩
  have e:b=s1.heap.objs.size:=by simpa using hb
  subst e;exact I1.mC (cI _) (I1.bF.fresh (cI _))
 cases ha:z.cps.all (· < 128)
 ·exact wpAny_pyIter_wide ha (key _ (.inr rfl))
 ·exact wpAny_pyIter_ascii ha (key _ (.inl rfl))
def Ar(names outer:List (Str×NameKind))(N M:List Str)(k:Nat)(e_:List Nat):Bool:=
 names.all (λy=>y.2 != .cell) && (names.all (λy=>y.2 != .free || (outer.lookup y.1 == some .cell || outer.lookup y.1 == some .free)) && (names.all (λy=>y.2 != .local || names.lookup y.1 == some .local) &&
  (M.length == k+e_.length && (List.range e_.length).all (λj=>match e_[j]?,M[k+j]? with|some i,some x=>N[i]? == some x && names.lookup x == some .free|_,_=>true))))
theorem f9.of{scope:Scope}{M:List Str}{k:Nat}{e_:List Nat}(outer:List (Str×NameKind))(N:List Str)(h:Ar scope.names outer N M k e_=true)(ho:X.env.scope.names=outer:=by rfl)(hN:X.N=N:=by rfl)(hk:scope.kind=.function:=by rfl):f9 X scope M k e_:=by
 unfold Ar at h;simp only[m6,pA,Bool.or_eq_true,bne_iff_ne,ne_eq,beq_iff_eq] at h;obtain⟨h1,h2,h3,h4,h5⟩:=h;refine⟨hk,h1,λy hy e=>?_,λy hy e=>?_,h4,λj i x e1 e2=>?_⟩
 ·rcases h2 y hy with z|z
  ·exact absurd e z
  ·show X.env.scope.names.lookup y.1=_\/X.env.scope.names.lookup y.1=_;rw[ho];exact z
 ·rcases h3 y hy with z|z
  ·exact absurd e z
  ·exact z
 ·have hj:j < e_.length:=(jQ.mp e1).1;have:=h5 j (qu.mpr hj);rw[e1,e2] at this;simp only[m6,beq_iff_eq] at this;rw[hN];exact this
section
variable {X:Cx}
theorem YI:fW X (compareOp .Is) (λx y H Q=>∃a b,x=.bl a/\y=.bl b/\Q (.bl (a == b)) H):=by
 intro ae s Z H x y v u Q I rx ry h;obtain⟨a,b,rfl,rfl,q⟩:=h;cases rx;cases ry;exact is_bool (sY I q rfl)
theorem WL:fW X (compareOp .IsNot) (λx y H Q=>∃a b,x=.bl a/\y=.bl b/\Q (.bl (a != b)) H):=by
 intro ae s Z H x y v u Q I rx ry h;obtain⟨a,b,rfl,rfl,q⟩:=h;cases rx;cases ry;exact isnot_bool (sY I q rfl)
def AF(K:PySem.W.Frag)(H:Hp):V->String->Prop
 |.az,n=>n="NoneType"
 |.bl _,n=>n="bool"
 |.int _,n=>n="int"
 |.str _,n=>n="str"
 |.ref a,n=>(n="list"/\∃xs,dY K H a xs)\/(n="tuple"/\∃xs,jm K H a xs)
 |_,_=>False
def pW(k T:String):Bool:=k == T || (k == "bool" && T == "int")
theorem Va:bU X (.builtin "isinstance") (λxs H Q=>∃x k T,xs=[x,.ty T]/\AF X.K H x k/\(T="int"\/T="str"\/T="bool"\/T="list"\/T="tuple")/\Q (.bl (pW k T)) H):=by
 intro ae s Z H xs us Q I r h;obtain⟨x,k,T,rfl,hk,hT,q⟩:=h;obtain⟨u,w',rfl,rx,ry⟩:=vals2 r;cases ry;have fin:∀b,b=pW k T->EP X ae Z Q (.bool b) s:=λb e=>sY I q e.symm
 have ff:∀b,b=pW k T->EP X ae Z Q (.bool b) { s with toks:=s.toks+1}:=λb e=>sY (I.tok _) q e.symm
 cases x with
 |az=>
  cases rx;have hk:k="NoneType":=hk;subst hk;rcases hT with rfl|rfl|rfl|rfl|rfl
  ·exact IsiPair.NoneType_int (ff _ (by decide))
  ·exact IsiPair.NoneType_str (ff _ (by decide))
  ·exact IsiPair.NoneType_bool (ff _ (by decide))
  ·exact IsiPair.NoneType_list (ff _ (by decide))
  ·exact IsiPair.NoneType_tuple (ff _ (by decide))
 |bl b=>
  cases rx;have hk:k="bool":=hk;subst hk;rcases hT with rfl|rfl|rfl|rfl|rfl
  ·exact IsiPair.bool_int (fin _ (by decide))
  ·exact IsiPair.bool_str (ff _ (by decide))
  ·exact IsiPair.bool_bool (fin _ (by decide))
  ·exact IsiPair.bool_list (ff _ (by decide))
  ·exact IsiPair.bool_tuple (ff _ (by decide))
 |int i=>
  obtain⟨t,rfl⟩:=rx;have hk:k="int":=hk;subst hk;rcases hT with rfl|rfl|rfl|rfl|rfl
  ·exact IsiPair.int_int (fin _ (by decide))
  ·exact IsiPair.int_str (ff _ (by decide))
  ·exact IsiPair.int_bool (ff _ (by decide))
  ·exact IsiPair.int_list (ff _ (by decide))
  ·exact IsiPair.int_tuple (ff _ (by decide))
 |str z=>
  obtain⟨t,rfl⟩:=rx;have hk:k="str":=hk;subst hk;rcases hT with rfl|rfl|rfl|rfl|rfl
  ·exact IsiPair.str_int (ff _ (by decide))
  ·exact IsiPair.str_str (fin _ (by decide))
  ·exact IsiPair.str_bool (ff _ (by decide))
  ·exact IsiPair.str_list (ff _ (by decide))
  ·exact IsiPair.str_tuple (ff _ (by decide))
 |ref a=>
  cases rx;rcases hk with⟨hk,ys,hs⟩|⟨hk,ys,hs⟩
  ·subst hk;obtain⟨aG,_,⟨o,n,e,hc,_⟩,_⟩:=I.list hs;rcases hT with rfl|rfl|rfl|rfl|rfl
   ·exact IsiPair.list_int e hc (ff _ (by decide))
   ·exact IsiPair.list_str e hc (ff _ (by decide))
   ·exact IsiPair.list_bool e hc (ff _ (by decide))
   ·exact IsiPair.list_list e hc (fin _ (by decide))
   ·exact IsiPair.list_tuple e hc (ff _ (by decide))
  ·subst hk;obtain⟨aG,_,⟨o,e,hc,_⟩,_⟩:=I.tuple hs;rcases hT with rfl|rfl|rfl|rfl|rfl
   ·exact IsiPair.tuple_int e hc (ff _ (by decide))
   ·exact IsiPair.tuple_str e hc (ff _ (by decide))
   ·exact IsiPair.tuple_bool e hc (ff _ (by decide))
   ·exact IsiPair.tuple_list e hc (ff _ (by decide))
   ·exact IsiPair.tuple_tuple e hc (fin _ (by decide))
 |uS _=>exact False.elim hk
 |uX _=>exact False.elim hk
 |ty _=>exact False.elim hk
theorem Γ{x:Str}{n:String}{pos:Pos}(hg:Gl X x)(hm:X.mg x=none)(hv:bootBuiltins x=some (.type n))(hn:x≠"__name__":=by decide)(hd:(x == ("__debug__":Str))=false:=by decide):PE X (.Name x pos) (tC (.ty n)):=
 Wi hg hm hv rfl hn hd
theorem RX{prog:Program}{A:Around}(aG:List Value)(bs:List Bool)(hv:Vals (bs.map V.bl) aG):TruthOf prog w A (λi v=>aG.toArray[i]?=some v) (λi=>bs.getD i false):=by
 intro i v s Q E hP hQ;have P9:aG[i]?=some v:=by simpa using hP
 have hl:=hv.length;rw[cz] at hl;have hi:i < aG.length:=(jQ.mp P9).1;have hb:(bs.map V.bl)[i]?=some (.bl bs[i]):=by simp[show i < bs.length by omega]
 obtain⟨u,hu,ru⟩:=hv.get hb;rw[P9] at hu;cases hu;cases ru;have e:bs.getD i false=bs[i]:=by simp[show i < bs.length by omega]
 have P_:Q (bs.getD i false) s:=hQ;rw[e] at P_;exact wpAny_truthy_bool P_
theorem Tn(bs:List Bool):(List.range bs.length).all (λi=>bs.getD i false)=bs.all id:=by
 rw[CB,pA,pA];constructor
 ·intro h b hb;obtain⟨i,hi,e⟩:=List.mem_iff_getElem.mp hb;have:=h i (qu.mpr hi);simp[hi] at this;rw[<-e];exact this
 ·intro h i hi;have hi:=qu.mp hi;have:=h bs[i] (uq hi);simp[hi];exact this
theorem To(hc:X.calm=true):bU X (.builtin "all") (λxs H Q=>∃(a:Addr) (bs:List Bool),xs=[.ref a]/\dY X.K H a (bs.map V.bl)/\Q (.bl (bs.all id)) H):=by
 intro ae s Z H xs us Q I r h;obtain⟨a,bs,rfl,hs,q⟩:=h;obtain⟨u,rfl,ru⟩:=vals1 r;cases ru;obtain⟨aG,rv,p,hz⟩:=I.list hs;have hl:=rv.length;rw[cz] at hl;refine call_all_walk (wpAny_pyIter_list p.isList ?_);have ic:a≠s.heap.objs.size:=by obtain⟨o,n,e,_⟩:=p;exact jl (eH e)
 refine⟨s.heap.objs.size,_,_,aG.toArray.size,_,_,λi=>bs.getD i false,rfl,Walks.list (A:=X.A.in1) (show X.A.in1.handled=none from I.ok.hd hc) _ a ic aG.toArray,⟨⟨_,kA _ rfl,rfl,rfl⟩,?_⟩,RX aG bs rv,λh' tk hk=>?_⟩
 ·exact p.isList.at λo e=>fg _ e
 ·have e1:aG.toArray.size=bs.length:=by rw[fE,<-hl]
  refine⟨.bl (bs.all id),H,I.kept (h':=h') (t':=tk) (λb o e=>hk b o (λz=>absurd (jk (eH e) (Cy (p8.mp z).symm)) (lX _)) (fg _ e)),?_,q⟩
  show Value.bool _=Value.bool _;rw[e1,Tn]
end
end L2
namespace L2
open PySem PySem.Spec PyProof.Rows
variable{H:Hp}{a:Addr}{o:HO}
structure ba (K:PySem.W.Frag) (mg:Str->Option Value) (x:Str) (st:Stmt) (f:Addr) (fd:FuncData) (ps:List Str):Prop where
 fn:dh K x x st f fd
 mg:mg x=some (.ref f)
 bd:Binds K fd ps []
section
variable {X:Cx} {k:Nat} {f:Addr} {fd:FuncData} {ps:List Str} {sp:Sp} {x:Str} {p pos:Pos} {e:Expr} {es:List Expr} {t:TA} {st:Stmt}
end
section
variable {X:Cx} {a b:Expr} {rest:List Expr} {pos:Pos} {ta tb:TE} {tA tB:TT}
end
theorem aB.put{H':Hp}(s:aB H H')(h:H' a=none):aB H (upd H' a o):=λb u e=>by
 have z:=s b u e;rw[eX (qG z h)];exact z
theorem qI(h:H a=none):aB H (upd H a o):=(aB.refl H).put h
theorem Vb{α:Type}{xs:List α}{k:Int}(d:α)(h0:0<=k)(hk:k < xs.length):eL xs k=some (xs.getD k.toNat d):=by
 have zp:k.toNat < xs.length:=by omega
 have e:xs[k.toNat]?=some (xs.getD k.toNat d):=by simp[zp]
 have z:=qJ e
 rwa [show((k.toNat:Nat):Int)=k by omega] at z
theorem Ik:bootBuiltins "str"=some (.type "str"):=by decide +kernel
theorem As:bootBuiltins "list"=some (.type "list"):=by decide +kernel
theorem He:bootBuiltins "tuple"=some (.type "tuple"):=by decide +kernel
theorem wx:bootBuiltins "isinstance"=some (.builtin "isinstance"):=by decide +kernel
theorem YJ:bootBuiltins "all"=some (.builtin "all"):=by decide +kernel
theorem oQ:bootBuiltins "len"=some (.builtin "len"):=by decide +kernel
end L2
namespace L2
open PySem PySem.Spec PyProof.Rows
section
variable {X:Cx}
def pU(xs:List V)(k:Nat)(y:V):List V:=xs.take k++y::xs.drop k
theorem RY(xs:List V)(k:Nat)(y:V):(pU xs k y).length=xs.length+1:=by
 unfold pU;rw[f7,kd,ye,yf];omega
def NY:V->List V->Hp->VK->Prop:=λx vs H Q=>∃l xs i y,x=.ref l/\vs=[.int i,y]/\H l=some (.lst xs)/\0<=i/\i < 2 ^ 62/\xs.length < sizeLine/\Q .az (upd H l (.lst (pU xs i.toNat y)))
theorem Tp:yk X "list.insert" NY:=by
 intro ae s Z H x vs v us Q I rx rv h;obtain⟨l,xs,i,y,rfl,rfl,hH,h0,hi,hz,q⟩:=h;cases rx;obtain⟨u,u',rfl,⟨t,rfl⟩,ru⟩:=rv.two;obtain⟨z,aG,n,r,hl,e⟩:=I.xp hH;have Ju:¬(!Builtin.List.listFitsIndex i)=true:=by
  unfold Builtin.List.listFitsIndex;simp;omega
 refine call_meets F.slot_list_insert ⟨_,e,rfl⟩ F.entry_list_insert (F.args_list_insert_3 _ _ _) (PySem.AutoSeq1.list_insert_list_int_val_1 l aG.toArray n i t u' Ju (by rw[fE];omega)) ⟨e,?_⟩
 refine⟨.az,_,I.xm (its':=aG.take i.toNat++u'::aG.drop i.toNat) hH e ?_ ((r.take i.toNat).append (.cons ru (r.drop i.toNat))) ?_,rfl,q⟩
 ·have h1:¬i < 0:=by omega
  simp only[h1,if_false];apply Array.ext';simp only[Array.toList_append,Array.toList_push,Array.toList_extract,fE];rw[List.extract_eq_drop_take,List.extract_eq_drop_take];have e1:min i.toNat aG.length - 0=min i.toNat aG.length:=by omega
  rw[e1];simp only[List.drop_zero];have e2:aG.take (min i.toNat aG.length)=aG.take i.toNat:=by rw[List.take_eq_take_iff];omega
  rw[e2];by_cases hc:i.toNat<=aG.length
  ·rw[Nat.min_eq_left hc,zE (l:=List.drop i.toNat aG) (by rw[yf];omega)]
   simp
  ·have hc:aG.length<=i.toNat:=by omega
   rw[Nat.min_eq_right hc,Fb (cI _),Fb hc];simp
 ·show(pU xs i.toNat y).length<=sizeLine;rw[RY];omega
def B5:V->Option Int->Option Int->Hp->VK->Prop:=λx lo hi H Q=>∃z,x=.str z/\z.length<=sizeLine/\Q (.str (Txt.slice z lo hi)) H
theorem xW:qD X B5:=by
 intro ae s Z H x v vl vu lo hi sl Q I rx hs pl pu h;obtain⟨z,rfl,hz,q⟩:=h;obtain⟨t,rfl⟩:=rx;refine⟨"str",_,F.slot_str_getitem.lookup,typeIs_str _ _ _,?_⟩;have fin:∀t' k,EP X ae Z Q (.str (Txt.slice z lo hi) t') { s with toks:=k}:=λt' k=>⟨.str _,H,I.tok _,⟨_,rfl⟩,q⟩
 cases pl with
 |none=>
  cases pu with
  |none=>exact wpAny_getItem_str_slice (l:=none) (u:=none) (st:=none) hs rfl (post_val_or_str ⟨lC (Txt.slice_le z _ _) hz,fin⟩)
  |int j tj=>exact wpAny_getItem_str_slice (l:=none) (u:=some (j,tj)) (st:=none) hs rfl (post_val_or_str ⟨lC (Txt.slice_le z _ _) hz,fin⟩)
 |int i ti=>
  cases pu with
  |none=>exact wpAny_getItem_str_slice (l:=some (i,ti)) (u:=none) (st:=none) hs rfl (post_val_or_str ⟨lC (Txt.slice_le z _ _) hz,fin⟩)
  |int j tj=>exact wpAny_getItem_str_slice (l:=some (i,ti)) (u:=some (j,tj)) (st:=none) hs rfl (post_val_or_str ⟨lC (Txt.slice_le z _ _) hz,fin⟩)
theorem Sn:fW X (binaryOp .Mult) (λx y H Q=>∃z n,x=.str z/\y=.int n/\MulOk z n/\Q (.str (Txt.mul z n)) H):=by
 intro ae s Z H x y v u Q I rx ry h;obtain⟨z,n,rfl,rfl,hm,q⟩:=h;obtain⟨t,rfl⟩:=rx;obtain⟨t',rfl⟩:=ry;exact SB.mul hm λt' k=>⟨.str _,H,I.tok _,⟨_,rfl⟩,q⟩
end
inductive vO (K:PySem.W.Frag) (H:Hp):Nat->V->V->Bool->Prop
 |flat {d:Nat} {x y:V}:uW x=true->uW y=true->vO K H d x y (ψ x y)
 |same {d:Nat} {a:Addr}:vO K H d (.ref a) (.ref a) true
 |lst {d:Nat} {a b:Addr} {xs ys:List V} {e:Nat->Bool}:a≠b->dY K H a xs->dY K H b ys->xs.length=ys.length->(∀(i:Nat) x y,xs[i]?=some x->ys[i]?=some y->vO K H d x y (e i))->vO K H (d+1) (.ref a) (.ref b) ((List.range xs.length).all e)
 |lstN {d:Nat} {a b:Addr} {xs ys:List V}:a≠b->dY K H a xs->dY K H b ys->xs.length≠ys.length->vO K H (d+1) (.ref a) (.ref b) false
 |tup {d:Nat} {a b:Addr} {xs ys:List V} {e:Nat->Bool}:a≠b->jm K H a xs->jm K H b ys->(∀(i:Nat) x y,xs[i]?=some x->ys[i]?=some y->vO K H d x y (e i))->vO K H (d+1) (.ref a) (.ref b) ((List.range (min xs.length ys.length)).all e && xs.length == ys.length)
section
variable {X:Cx} {ae:List (Addr×Obj)} {Z:St} {H:Hp} {s:Shared}
theorem Vals.at{xs:List V}{us:List Value}(r:Vals xs us){j:Nat}(h:j < us.toArray.size):∃x,xs[j]?=some x/\RelV x us.toArray[j]:=by
 have hl:=r.length;have h':j < us.length:=by simpa using h
 have hx:xs[j]?=some xs[j]:=by simp[show j < xs.length by omega]
 obtain⟨u,hu,ru⟩:=r.get hx;have:us[j]?=some us[j]:=by simp[h']
 rw[this] at hu;cases hu;exact⟨xs[j],hx,by simpa using ru⟩
end
section
variable {X:Cx}
theorem Vc(K:PySem.W.Frag)(hK:X.K=K:=by rfl):pF X (xK K):=hK ▸ WD
theorem WM(K:PySem.W.Frag)(hK:X.K=K:=by rfl):pF X (xO K):=hK ▸ YG
theorem Rj(K:PySem.W.Frag)(hK:X.K=K:=by rfl):bU X (.builtin "len") (λxs H Q=>∃p ys,xs=[.ref p]/\(dY K H p ys\/jm K H p ys)/\Q (.int ys.length) H):=hK ▸ RF
theorem Vd(K:PySem.W.Frag)(hK:X.K=K:=by rfl):qD X (xP K):=hK ▸ WE
theorem WN(K:PySem.W.Frag)(hK:X.K=K:=by rfl):qD X (xQ K):=hK ▸ YF
theorem Tq(K:PySem.W.Frag)(hK:X.K=K:=by rfl):bU X (.builtin "isinstance") (λxs H Q=>∃x k T,xs=[x,.ty T]/\AF K H x k/\(T="int"\/T="str"\/T="bool"\/T="list"\/T="tuple")/\Q (.bl (pW k T)) H):=hK ▸ Va
theorem Rk(K:PySem.W.Frag)(hK:X.K=K:=by rfl):bU X (.type "list") (λxs H Q=>∃p ys,xs=[.ref p]/\(dY K H p ys\/jm K H p ys)/\∀l,H l=none->Q (.ref l) (upd H l (.lst ys))):=hK ▸ RG
end
end L2
set_option autoImplicit false
namespace L2
open PySem PySem.Spec PyProof.Rows
theorem Dl{α β:Type}{R:α->β->Prop}:∀{l:List α} {m:List β} (i:Nat) {b:β},Paired R l m->m[i]?=some b->∃a,l[i]?=some a/\R a b
 |_,_,_,_,.nil,e=>by simp at e
 |_,_,0,_,.cons r _,e=>by simp at e;subst e;exact⟨_,rfl,r⟩
 |_,_,i+1,_,.cons _ t,e=>by
  obtain⟨a,h1,h2⟩:=Dl i t (by simpa using e)
  exact⟨a,by simpa using h1,h2⟩
theorem Ad{α β:Type}{R:α->β->Prop}:∀{l:List α} {m:List β} (i:Nat) {a:α},Paired R l m->l[i]?=some a->∃b,m[i]?=some b/\R a b
 |_,_,_,_,.nil,e=>by simp at e
 |_,_,0,_,.cons r _,e=>by simp at e;subst e;exact⟨_,rfl,r⟩
 |_,_,i+1,_,.cons _ t,e=>by
  obtain⟨a,h1,h2⟩:=Ad i t (by simpa using e)
  exact⟨a,by simpa using h1,h2⟩
inductive D where
 |az|bl (b:Bool)|int (i:Int)|str (x:Str)|ty (n:String)|ref (n:Nat)
 |lst (xs:List D)|tup (xs:List D)|aN (kvs:List (TK×D))
mutual
def TK.d:TK->D
 |.inl i=>.int i
 |.inr x=>.str x
 |.tp l=>.tup (TK.dl l)
 |.az=>.az
def TK.dl:List TK->List D
 |[]=>[]
 |k::l=>TK.d k::TK.dl l
end
def uP:D->Option V
 |.az=>some .az
 |.bl b=>some (.bl b)
 |.int i=>some (.int i)
 |.str x=>some (.str x)
 |.ty n=>some (.ty n)
 |_=>none
structure Kn where
 F:Hp
 A:List Addr
 T:List Addr
inductive ai (K:PySem.W.Frag) (k:Kn):List V->List D->Prop
 |nil:ai K k [] []
 |flat {v:V} {d:D} {vs:List V} {ds:List D}:uP d=some v->ai K k vs ds->ai K k (v::vs) (d::ds)
 |ref {n:Nat} {a:Addr} {vs:List V} {ds:List D}:k.A[n]?=some a->ai K k vs ds->ai K k (.ref a::vs) (.ref n::ds)
 |lst {a:Addr} {ws vs:List V} {es ds:List D}:dY K k.F a ws->ai K k ws es->ai K k vs ds->ai K k (.ref a::vs) (.lst es::ds)
 |tup {a:Addr} {ws vs:List V} {es ds:List D}:jm K k.F a ws->ai K k ws es->ai K k vs ds->ai K k (.ref a::vs) (.tup es::ds)
 |aN {a:Addr} {kvs:List (TK×V×V)} {es:List (TK×D)} {ep:Nat} {vs:List V} {ds:List D}:k.F a=some (.dG kvs ep)->kvs.map (·.1)=es.map (·.1)->ai K k (kvs.map (·.2.1)) (es.map (·.1.d))->ai K k (kvs.map (·.2.2)) (es.map (·.2))->ai K k vs ds->ai K k (.ref a::vs) (.aN es::ds)
theorem aB.rd{H H':Hp}{a:Addr}{u:HO}(e:aB H H')(h:Rd H a u):Rd H' a u:=by
 rcases h with h|⟨o,h⟩
 ·exact .inl (e _ _ h)
 ·exact .inr ⟨o,e _ _ h⟩
theorem aB.xX{K:PySem.W.Frag}{H H':Hp}{a:Addr}{xs:List V}(e:aB H H')(h:jm K H a xs):jm K H' a xs:=h.imp e.rd id
theorem aB.Kx{K:PySem.W.Frag}{H H':Hp}{a:Addr}{xs:List V}(e:aB H H')(h:dY K H a xs):dY K H' a xs:=h.imp e.rd id
structure Kn.le (k k':Kn):Prop where
 f:aB k.F k'.F
 a:k.A <+: k'.A
theorem D5{α:Type}{l l':List α}{n:Nat}{x:α}(h:l <+: l')(e:l[n]?=some x):l'[n]?=some x:=by
 obtain⟨t,rfl⟩:=h;rw[rQ (jQ.mp e).1];exact e
section
variable {K:PySem.W.Frag} {k k':Kn} {v:V} {vs ws:List V} {d:D} {ds es:List D}
theorem ai.mono(s:k.le k')(h:ai K k vs ds):ai K k' vs ds:=by
 induction h with
 |nil=>exact .nil
 |flat e _ ih=>exact .flat e ih
 |ref e _ ih=>exact .ref (D5 s.a e) ih
 |lst e _ _ i1 i2=>exact .lst (s.f.Kx e) i1 i2
 |tup e _ _ i1 i2=>exact .tup (s.f.xX e) i1 i2
 |aN e q _ _ _ i0 i1 i2=>exact .aN (s.f _ _ e) q i0 i1 i2
theorem ai.length(h:ai K k vs ds):vs.length=ds.length:=by
 induction h with
 |nil=>rfl
 |flat _ _ ih=>exact congrArg _ ih
 |ref _ _ ih=>exact congrArg _ ih
 |lst _ _ _ _ ih=>exact congrArg _ ih
 |tup _ _ _ _ ih=>exact congrArg _ ih
 |aN _ _ _ _ _ _ _ ih=>exact congrArg _ ih
theorem ai.inv(h:ai K k (v::vs) (d::ds)):ai K k [v] [d]/\ai K k vs ds:=by
 cases h with
 |flat e t=>exact⟨.flat e .nil,t⟩
 |ref e t=>exact⟨.ref e .nil,t⟩
 |lst e i t=>exact⟨.lst e i .nil,t⟩
 |tup e i t=>exact⟨.tup e i .nil,t⟩
 |aN e q j i t=>exact⟨.aN e q j i .nil,t⟩
theorem ai.cons(h:ai K k [v] [d])(t:ai K k vs ds):ai K k (v::vs) (d::ds):=by
 cases h with
 |flat e _=>exact .flat e t
 |ref e _=>exact .ref e t
 |lst e i _=>exact .lst e i t
 |tup e i _=>exact .tup e i t
 |aN e q j i _=>exact .aN e q j i t
theorem ai.cK(h:ai K k vs (d::ds)):∃w us,vs=w::us/\ai K k [w] [d]/\ai K k us ds:=by
 cases vs with
 |nil=>have:=h.length;cases this
 |cons w us=>exact⟨w,us,rfl,h.inv⟩
theorem ai.iY(h:ai K k vs []):vs=[]:=List.eq_nil_of_length_eq_zero h.length
theorem ai.get{i:Nat}(h:ai K k vs ds)(e:ds[i]?=some d):∃v,vs[i]?=some v/\ai K k [v] [d]:=by
 induction ds generalizing vs i with
 |nil=>cases e
 |cons x ds ih=>
  obtain⟨w,us,rfl,h1,h2⟩:=h.cK;cases i with
  |zero=>cases e;exact⟨w,rfl,h1⟩
  |succ i=>exact ih (vs:=us) (i:=i) h2 e
theorem ai.append(h:ai K k vs ds)(t:ai K k ws es):ai K k (vs++ws) (ds++es):=by
 induction ds generalizing vs with
 |nil=>rw[h.iY];exact t
 |cons x ds ih=>
  obtain⟨w,us,rfl,h1,h2⟩:=h.cK;exact .cons h1 (ih h2)
theorem ai.take(n:Nat)(h:ai K k vs ds):ai K k (vs.take n) (ds.take n):=by
 induction n generalizing vs ds with
 |zero=>exact .nil
 |succ n ih=>
  cases ds with
  |nil=>rw[h.iY];exact .nil
  |cons x ds=>
   obtain⟨w,us,rfl,h1,h2⟩:=h.cK;exact .cons h1 (ih h2)
theorem ai.drop(n:Nat)(h:ai K k vs ds):ai K k (vs.drop n) (ds.drop n):=by
 induction n generalizing vs ds with
 |zero=>exact h
 |succ n ih=>
  cases ds with
  |nil=>rw[h.iY];exact .nil
  |cons x ds=>
   obtain⟨w,us,rfl,h1,h2⟩:=h.cK;exact ih h2
theorem Ve(ns:List Int):ai K k (ns.map V.int) (ns.map D.int):=by
 induction ns with
 |nil=>exact .nil
 |cons n ns ih=>exact .flat rfl ih
theorem ai.bu{u:V}(h:ai K k [v] [d])(e:uP d=some u):v=u:=by
 cases h with
 |flat q _=>rw[e] at q;exact(Option.some.inj q).symm
 |_=>cases e
theorem ai.isRef{n:Nat}(h:ai K k [v] [.ref n]):∃a,v=.ref a/\k.A[n]?=some a:=by
 cases h with
 |flat q _=>cases q
 |ref e _=>exact⟨_,rfl,e⟩
theorem ai.vd(h:ai K k [v] [.lst es]):∃a ws,v=.ref a/\dY K k.F a ws/\ai K k ws es:=by
 cases h with
 |flat q _=>cases q
 |lst e i _=>exact⟨_,_,rfl,e,i⟩
theorem ai.isTup(h:ai K k [v] [.tup es]):∃a ws,v=.ref a/\jm K k.F a ws/\ai K k ws es:=by
 cases h with
 |flat q _=>cases q
 |tup e i _=>exact⟨_,_,rfl,e,i⟩
theorem ai.vc{kvs:List (TK×D)}(h:ai K k [v] [.aN kvs]):∃a es ep,v=.ref a/\k.F a=some (.dG es ep)/\es.map (·.1)=kvs.map (·.1)/\ai K k (es.map (·.2.1)) (kvs.map (·.1.d))/\ai K k (es.map (·.2.2)) (kvs.map (·.2)):=by
 cases h with
 |flat q _=>cases q
 |aN e q j i _=>exact⟨_,_,_,rfl,e,q,j,i⟩
end
end L2
set_option autoImplicit false
namespace L2
open PySem PySem.Spec PyProof.Rows
inductive Bx where
 |lst (xs:List D)|aN (kvs:List (TK×D))
def Bx.d:Bx->D
 |.lst xs=>.lst xs
 |.aN kvs=>.aN kvs
inductive Cell where
 |o (c:Bx)|z (c:Bx)|ins (C:Addr) (fs:List (Str×D))
structure aX where
 s:List Cell
 r:List Cell
inductive Val where
 |d (x:D)|c (n:Nat)
abbrev Gm:=List (Option Val)
inductive Rv where
 |v (x:Val)|o (c:Bx)
inductive Rs (α:Type) where
 |ok (a:α) (S:aX)|ex (C:Addr) (l:Option Int) (S:aX)
abbrev Gx(α:Type):=Gm->aX->Option (Rs α)
def bd{α β:Type}(x:Option (Rs α))(f:α->aX->Option (Rs β)):Option (Rs β):=match x with
 |none=>none
 |some (.ok a S)=>f a S
 |some (.ex C l S)=>some (.ex C l S)
def tQ:Nat->HO->Bool
 |0,_=>false
 |1,.dG _ _=>true
 |1,_=>false
 |_,_=>true
def fS(K:PySem.W.Frag)(k:Kn)(H:Hp)(a:Addr):Bx->Prop
 |.lst xs=>∃ws,H a=some (.lst ws)/\ai K k ws xs
 |.aN kvs=>∃es ep,H a=some (.dG es ep)/\es.map (·.1)=kvs.map (·.1)/\ai K k (es.map (·.2.1)) (kvs.map (·.1.d))/\ai K k (es.map (·.2.2)) (kvs.map (·.2))
def bc(K:PySem.W.Frag)(k:Kn)(H:Hp)(a:Addr):Cell->Prop
 |.o c=>k.F a=none/\fS K k H a c
 |.z c=>k.F a≠none/\ai K k [.ref a] [c.d]
 |.ins C fs=>k.F a=none/\∃dx gs,H a=some (.ins C dx gs)/\gs.map (·.1)=fs.map (·.1)/\ai K k (gs.map (·.2)) (fs.map (·.2))
structure Lay (K:PySem.W.Frag) (k:Kn) (H:Hp) (as:List Addr) (cs:List Cell):Prop where
 ln:as.length=cs.length
 at':∀(n:Nat) (a:Addr) (c:Cell),as[n]?=some a->cs[n]?=some c->bc K k H a c
structure cD (K:PySem.W.Frag) (k:Kn) (H:Hp) (S:aX):Prop where
 le:aB k.F H
 nd:(k.A++k.T).Nodup
 r:Lay K k H k.A S.r
 s:Lay K k H k.T S.s
structure Up (q:Nat) (k:Kn) (H:Hp) (k':Kn) (H':Hp):Prop where
 f:aB k.F k'.F
 a:k.A <+: k'.A
 t:k.T <+: k'.T
 h:∀a o,tQ q o=true->H a=some o->H' a=some o
def eY(K:PySem.W.Frag)(k:Kn)(x:V):Val->Prop
 |.d y=>ai K k [x] [y]
 |.c n=>∃a,x=.ref a/\k.T[n]?=some a
structure jw (K:PySem.W.Frag) (k:Kn) (Z:St) (U:Gm):Prop where
 ln:Z.length=U.length
 at':∀(i:Nat) (v:Val),U[i]?=some (some v)->∃x,Z[i]?=some (some x)/\eY K k x v
def n8(K:PySem.W.Frag)(k:Kn)(H:Hp)(x:V):Rv->Prop
 |.v y=>eY K k x y
 |.o c=>∃a,x=.ref a/\k.F a=none/\a∉k.A++k.T/\fS K k H a c
section
variable {q:Nat} {K:PySem.W.Frag} {k k' Qp:Kn} {F' H H' zP:Hp} {S S':aX} {Z:St} {U:Gm} {n:Nat} {a:Addr} {as:List Addr} {cs:List Cell} {c:Cell} {b:Bx}
theorem Kn.le.refl:k.le k:=⟨aB.refl _,lY _⟩
theorem Up.le(u:Up q k H k' H'):k.le k':=⟨u.f,u.a⟩
theorem Up.refl:Up q k H k H:=⟨aB.refl _,lY _,lY _,λ_ _ _ h=>h⟩
theorem Up.trans(x:Up q k H k' H')(y:Up q k' H' Qp zP):Up q k H Qp zP:=⟨x.f.trans y.f,x.a.trans y.a,x.t.trans y.t,λa o z h=>y.h a o z (x.h a o z h)⟩
theorem Up.of{F':Hp}(s:aB k.F F')(t:aB H H'):Up q k H ⟨F',k.A,k.T⟩ H':=⟨s,lY _,lY _,λa o _ h=>t a o h⟩
theorem eY.up{x:V}{v:Val}(h:eY K k x v)(u:Up q k H k' H'):eY K k' x v:=by
 cases v with
 |d y=>exact ai.mono u.le h
 |c n=>obtain⟨a,e,z⟩:=h;exact⟨a,e,D5 u.t z⟩
theorem uA.up{xs:List V}{vs:List Val}(h:Paired (eY K k) xs vs)(u:Up q k H k' H'):Paired (eY K k') xs vs:=Paired.BG h λ_ _ r=>r.up u
theorem jw.up(h:jw K k Z U)(u:Up q k H k' H'):jw K k' Z U:=⟨h.ln,λi v e=>let ⟨x,z,r⟩:=h.at' i v e;⟨x,z,r.up u⟩⟩
theorem fS.keep(h:fS K k H a b)(s:k.le k')(e:∀o,H a=some o->H' a=some o):fS K k' H' a b:=by
 cases b with
 |lst xs=>obtain⟨ws,z,r⟩:=h;exact⟨ws,e _ z,r.mono s⟩
 |aN kvs=>obtain⟨es,ep,z,q,r,t⟩:=h;exact⟨es,ep,e _ z,q,r.mono s,t.mono s⟩
theorem bc.keep(h:bc K k H a c)(s:k.le k')(e:∀o,H a=some o->H' a=some o)(fr:k.F a=none->k'.F a=none):bc K k' H' a c:=by
 cases c with
 |o b=>exact⟨fr h.1,h.2.keep s e⟩
 |z b=>exact⟨λz=>h.1 (s.f.free z),h.2.mono s⟩
 |ins C fs=>obtain⟨h0,dx,gs,h1,h2,h3⟩:=h;exact⟨fr h0,dx,gs,e _ h1,h2,h3.mono s⟩
theorem fS.there(h:fS K k H a b):H a≠none:=λz=>by
 cases b with
 |lst xs=>obtain⟨_,e,_⟩:=h;rw[e] at z;cases z
 |aN kvs=>obtain⟨_,_,e,_⟩:=h;rw[e] at z;cases z
theorem bc.there(h:bc K k H a c)(le:aB k.F H):H a≠none:=by
 cases c with
 |o b=>exact h.2.there
 |z b=>exact λz=>h.1 (le.free z)
 |ins C fs=>obtain⟨_,dx,gs,h1,_⟩:=h;rw[h1];exact λz=>nomatch z
theorem Lay.get(h:Lay K k H as cs)(e:as[n]?=some a):∃c,cs[n]?=some c/\bc K k H a c:=by
 have hn:n < cs.length:=h.ln ▸ (jQ.mp e).1;exact⟨_,jR hn,h.at' n a _ e (jR hn)⟩
theorem Lay.keep(h:Lay K k H as cs)(f:∀a∈as,∀c,bc K k H a c->bc K k' H' a c):Lay K k' H' as cs:=⟨h.ln,λn a c e1 e2=>f a (rR e1) c (h.at' n a c e1 e2)⟩
theorem NZ{α:Type}{l:List α}{x y:α}(e:(l++[x])[n]?=some y):l[n]?=some y\/(n=l.length/\y=x):=by
 by_cases h:n < l.length
 ·rw[rQ h] at e;exact .inl e
 ·have h1:=Nat.le_of_not_lt h;rw[qv h1] at e;have h2:n - l.length=0:=Nat.lt_one_iff.mp (jQ.mp e).1;rw[h2] at e;cases e;exact .inr ⟨by omega,rfl⟩
theorem DL{α:Type}{l:List α}{x:α}:(l++[x])[l.length]?=some x:=by rw[qv (cI _),K_];rfl
theorem Lay.push(h:Lay K k H as cs)(hc:bc K k H a c):Lay K k H (as++[a]) (cs++[c]):=by
 refine⟨by rw[f7,f7,h.ln];rfl,λn b d e1 e2=>?_⟩
 rcases NZ e1 with e1|⟨z,rfl⟩ <;> rcases NZ e2 with e2|⟨y,rfl⟩
 ·exact h.at' n b d e1 e2
 ·exact absurd (jQ.mp e1).1 (by rw[y,h.ln];exact lX _)
 ·exact absurd (jQ.mp e2).1 (by rw[z,h.ln];exact lX _)
 ·exact hc
theorem Na{α:Type}{l:List α}{i j:Nat}{x:α}(nd:l.Nodup)(e1:l[i]?=some x)(e2:l[j]?=some x):i=j:=by
 obtain⟨h1,z1⟩:=jQ.mp e1;obtain⟨h2,z2⟩:=jQ.mp e2;exact(Cu nd).mp (z1.trans z2.symm)
theorem Lay.set(h:Lay K k H as cs)(nd:as.Nodup)(ha:as[n]?=some a)(hc:bc K k' H' a c)(f:∀b∈as,b≠a->∀c,bc K k H b c->bc K k' H' b c):Lay K k' H' as (cs.set n c):=by
 refine⟨by rw[sH];exact h.ln,λj b d e1 e2=>?_⟩
 by_cases e0:n=j
 ·subst e0;rw[zD (h.ln ▸ (jQ.mp ha).1)] at e2;cases e2;cases ha.symm.trans e1;exact hc
 ·rw[K5 e0] at e2;exact f b (rR e1) (λz=>e0 (Na nd ha (z ▸ e1))) d (h.at' j b d e1 e2)
theorem Lay.take(h:Lay K k H as cs)(m:Nat):Lay K k H (as.take m) (cs.take m):=by
 refine⟨by rw[ye,ye,h.ln],λj b d e1 e2=>?_⟩
 rw[List.getElem?_take] at e1 e2;split at e1
 ·rename_i hj
  rw[if_pos hj] at e2;exact h.at' j b d e1 e2
 ·cases e1
theorem Lay.there(h:Lay K k H as cs)(le:aB k.F H):∀a∈as,H a≠none:=λa m=>by
 obtain⟨n,e⟩:=yh.mp m;obtain⟨c,_,hc⟩:=h.get e;exact hc.there le
theorem cD.there(h:cD K k H S):∀a∈k.A++k.T,H a≠none:=λa m=>(pj.mp m).elim (h.r.there h.le a) (h.s.there h.le a)
theorem cD.fresh(h:cD K k H S)(e:H a=none):k.F a=none/\a∉k.A++k.T:=⟨h.le.free e,λm=>h.there a m e⟩
theorem cD.new(h:cD K k H S)(s1:aB k.F F')(s2:∀a∈k.A++k.T,∀o,H a=some o->H' a=some o)(s3:aB F' H')(fr:∀p∈k.A++k.T,k.F p=none->F' p=none):cD K ⟨F',k.A,k.T⟩ H' S:=
 have go:∀a∈k.A++k.T,∀c,bc K k H a c->bc K ⟨F',k.A,k.T⟩ H' a c:=λa m _ q=>q.keep ⟨s1,lY _⟩ (s2 a m) (fr a m)
 ⟨s3,h.nd,h.r.keep λa m=>go a (E_ _ m),h.s.keep λa m=>go a (nY _ m)⟩
theorem bc.le(h:bc K k H a c)(s:k.le k')(e:k.F=k'.F):bc K k' H a c:=h.keep s (λ_ z=>z) λz=>by rw[<-e];exact z
theorem Hf{α:Type}{l:List α}{x:α}:l <+: l++[x]:=List.prefix_append _ _
theorem YK{α:Type}{l m:List α}{x:α}(h:(l++m).Nodup)(n:x∉l++m):((l++[x])++m).Nodup:=by
 rw[m8];exact(List.perm_middle (l₁:=l) (l₂:=m) (a:=x)).nodup_iff.mpr (sG.mpr ⟨n,h⟩)
theorem cD.pushS(h:cD K k H S)(hF:k.F a=none)(hn:a∉k.A++k.T)(hb:fS K k H a b):cD K ⟨k.F,k.A,k.T++[a]⟩ H ⟨S.s++[.o b],S.r⟩/\∀q,Up q k H ⟨k.F,k.A,k.T++[a]⟩ H:=by
 have go:k.le ⟨k.F,k.A,k.T++[a]⟩:=⟨aB.refl _,lY _⟩;refine⟨⟨h.le,?_,h.r.keep λ_ _ _ z=>z.le go rfl,(h.s.push (c:=.o b) ⟨hF,hb⟩).keep λ_ _ _ z=>z.le go rfl⟩,λq=>⟨aB.refl _,lY _,Hf,λ_ _ _ z=>z⟩⟩
 rw[<-m8];exact p9.mpr ⟨h.nd,by simp,λx m y m' e=>hn (by rw[p8.mp m'] at e;exact e ▸ m)⟩
theorem cD.vt(h:cD K k H S)(hn:a∉k.A++k.T)(hc:bc K k H a c):cD K ⟨k.F,k.A++[a],k.T⟩ H ⟨S.s,S.r++[c]⟩/\∀q,Up q k H ⟨k.F,k.A++[a],k.T⟩ H:=by
 have go:k.le ⟨k.F,k.A++[a],k.T⟩:=⟨aB.refl _,Hf⟩;exact⟨⟨h.le,YK h.nd hn,(h.r.push hc).keep λ_ _ _ z=>z.le go rfl,h.s.keep λ_ _ _ z=>z.le go rfl⟩,λq=>⟨aB.refl _,Hf,lY _,λ_ _ _ z=>z⟩⟩
def l5(H H':Hp)(a:Addr):Prop:=∀b,b≠a->H' b=H b
theorem Ai{o:HO}:l5 H (upd H a o) a:=λ_ z=>eX z
theorem cD.chg(h:cD K k H S)(ho:l5 H H' a)(hF:k.F a=none)(hq:∀o,H a=some o->tQ q o=false):aB k.F H'/\Up q k H k H'/\∀b,b≠a->∀c,bc K k H b c->bc K k H' b c:=
 ⟨λb o e=>by rw[ho b λz=>by rw[z,hF] at e;cases e];exact h.le b o e,⟨aB.refl _,lY _,lY _,λb o e z=>by
  by_cases y:b=a
  ·subst y;rw[hq o z] at e;cases e
  ·rw[ho b y];exact z⟩,λb y c z=>z.keep .refl (λo e=>by rw[ho b y];exact e) id⟩
theorem cD.B9(h:cD K k H S)(ha:k.A[n]?=some a)(ho:l5 H H' a)(hF:k.F a=none)(hq:∀o,H a=some o->tQ q o=false)(hc:bc K k H' a c):cD K k H' ⟨S.s,S.r.set n c⟩/\Up q k H k H':=by
 obtain⟨h1,h2,h3⟩:=h.chg ho hF hq;obtain⟨n1,n2,n3⟩:=p9.mp h.nd;exact⟨⟨h1,h.nd,h.r.set n1 ha hc λb _=>h3 b,h.s.keep λb m=>h3 b λz=>n3 a (rR ha) b m z.symm⟩,h2⟩
theorem cD.Ku(h:cD K k H S)(ha:k.T[n]?=some a)(ho:l5 H H' a)(hF:k.F a=none)(hq:∀o,H a=some o->tQ q o=false)(hc:bc K k H' a c):cD K k H' ⟨S.s.set n c,S.r⟩/\Up q k H k H':=by
 obtain⟨h1,h2,h3⟩:=h.chg ho hF hq;obtain⟨n1,n2,n3⟩:=p9.mp h.nd;exact⟨⟨h1,h.nd,h.r.keep λb m=>h3 b λz=>n3 b m a (rR ha) z,h.s.set n2 ha hc λb _=>h3 b⟩,h2⟩
theorem fS.Y(h:fS K k H a b)(le:aB k.F H)(hF:k.F a=none):∃o,H a=some o/\aB k.F (upd k.F a o)/\aB (upd k.F a o) H/\ai K ⟨upd k.F a o,k.A,k.T⟩ [.ref a] [b.d]:=by
 have sm:∀o,aB k.F (upd k.F a o):=λo=>qI hF
 have sh:∀o,H a=some o->aB (upd k.F a o) H:=λo e p u q=>by
  by_cases z:p=a
  ·subst z;rw[aL] at q;cases q;exact e
  ·rw[eX z] at q;exact le p u q
 cases b with
 |lst xs=>
  obtain⟨ws,e,r⟩:=h;exact⟨_,e,sm _,sh _ e,.lst (.inl (.inl aL)) (r.mono ⟨sm _,lY _⟩) .nil⟩
 |aN kvs=>
  obtain⟨es,ep,e,q,r,t⟩:=h;exact⟨_,e,sm _,sh _ e,.aN aL q (r.mono ⟨sm _,lY _⟩) (t.mono ⟨sm _,lY _⟩) .nil⟩
theorem cD.Jd(h:cD K k H S)(hF:k.F a=none)(hn:a∉k.A++k.T)(hb:fS K k H a b):∃F',cD K ⟨F',k.A,k.T⟩ H S/\(∀q,Up q k H ⟨F',k.A,k.T⟩ H)/\ai K ⟨F',k.A,k.T⟩ [.ref a] [b.d]:=by
 obtain⟨o,e,s1,s2,rp⟩:=hb.Y h.le hF;exact⟨_,h.new s1 (λ_ _ _ z=>z) s2 λp m z=>by rw[eX (show p≠a from λy=>hn (y ▸ m))];exact z,λq=>.of s1 (aB.refl _),rp⟩
theorem cD.Je(h:cD K k H S)(ha:k.T[n]?=some a)(hc:S.s[n]?=some (.o b)):∃F',cD K ⟨F',k.A,k.T⟩ H ⟨S.s.set n (.z b),S.r⟩/\(∀q,Up q k H ⟨F',k.A,k.T⟩ H)/\ai K ⟨F',k.A,k.T⟩ [.ref a] [b.d]:=by
 obtain⟨hF,hb⟩:=h.s.at' n a _ ha hc;obtain⟨o,e,s1,s2,rp⟩:=hb.Y h.le hF;obtain⟨n1,n2,n3⟩:=p9.mp h.nd;have go:∀p,p≠a->∀c,bc K k H p c->bc K ⟨upd k.F a o,k.A,k.T⟩ H p c:=λp y c z=>z.keep ⟨s1,lY _⟩ (λ_ z=>z) λz=>(eX y).trans z
 exact⟨_,⟨s2,h.nd,h.r.keep λp m=>go p λz=>n3 p m a (rR ha) z,h.s.set n2 ha (c:=.z b) ⟨λz=>(nomatch aL.symm.trans z),rp⟩ λp _=>go p⟩,λq=>.of s1 (aB.refl _),rp⟩
theorem cD.take(h:cD K k H S)(m:Nat):cD K ⟨k.F,k.A,k.T.take m⟩ H ⟨S.s.take m,S.r⟩:=
 have go:k.le ⟨k.F,k.A,k.T.take m⟩:=⟨aB.refl _,lY _⟩
 ⟨h.le,h.nd.sublist ((List.Sublist.refl _).append (List.take_sublist _ _)),h.r.keep λ_ _ _ z=>z.le go rfl,(h.s.take m).keep λ_ _ _ z=>z.le go rfl⟩
theorem Nb{α:Type}{l l':List α}{m:Nat}(h:l <+: l')(hm:l.length<=m):l <+: l'.take m:=by
 obtain⟨t,rfl⟩:=h;rw[List.take_append,zE hm];exact List.prefix_append _ _
theorem Up.take(u:Up q k H k' H'){m:Nat}(h:k.T.length<=m):Up q k H ⟨k'.F,k'.A,k'.T.take m⟩ H':=⟨u.f,u.a,Nb u.t h,u.h⟩
end
end L2
set_option autoImplicit false
namespace L2
open PySem PySem.Spec PyProof.Rows
variable{X:Cx}{e:Expr}{t:TE}{t':TT}{v x:V}{k:Kn}{S:aX}{r:R2}{Q:List V->Hp->Prop}{vs:List Val}{ds:List D}{o:List D->Option Rv}
theorem PE.mono{t':TE}(h:PE X e t)(m:∀Z H Q,t' Z H Q->t Z H Q):PE X e t':=λae s Z H Q I q=>h ae s Z H Q I (m _ _ _ q)
theorem PT.mono{t:TT}(h:PT X e t)(m:∀Z H Q,t' Z H Q->t Z H Q):PT X e t':=λae s Z H Q I q=>h ae s Z H Q I (m _ _ _ q)
theorem PW.mono{t:TT}(h:PW X e t)(m:∀Z H Q,t' Z H Q->t Z H Q):PW X e t':=λwh ae s Z H Q I q=>h wh ae s Z H Q I (m _ _ _ q)
theorem PA.mono{e:List Expr}{t t':TA}(h:PA X e t)(m:∀Z H Q,t' Z H Q->t Z H Q):PA X e t':=λpos ae s Z H Q I q=>h pos ae s Z H Q I (m _ _ _ q)
theorem PS.mono{e:Stmt}{t t':TS}(h:PS X e t)(m:∀D Z H,t' D Z H->t D Z H):PS X e t':=λae s Z H D I q=>h ae s Z H D I (m _ _ _ q)
theorem cA.mono{e:List Stmt}{t t':TS}(h:cA X e t)(m:∀D Z H,t' D Z H->t D Z H):cA X e t':=λae s Z H D I q=>h ae s Z H D I (m _ _ _ q)
abbrev XW:=Addr->Option Addr->St->Hp->Prop
def zN(F:Hp)(dx:Option Addr):Option Int->Prop
 |none=>dx=none
 |some n=>∃d,dx=some d/\F d=some (.xd [("line",.int n)])
abbrev Rp(α β:Type):=Kn->Hp->β->α->Prop
section
variable {α β α' β':Type} (R:Rp α β) {R':Rp α' β'} (K:PySem.W.Frag) (W:XW) (q:Nat) {Z:St} {H H':Hp} {k k':Kn} {U:Gm} {S:aX} {Q:β->Hp->Prop} {Q':β'->Hp->Prop}
def i7(Z:St)(k:Kn)(H:Hp)(Q:β->Hp->Prop):Rs α->Prop
 |.ok a S=>∀b k' H',Up q k H k' H'->cD K k' H' S->R k' H' b a->Q b H'
 |.ex C l S=>∀dx k' H',Up q k H k' H'->cD K k' H' S->zN k'.F dx l->W C dx Z H'
def tX(g:Gx α):St->Hp->(β->Hp->Prop)->Prop:=λZ H Q=>∃k U S res,cD K k H S/\jw K k Z U/\g U S=some res/\i7 R K W q Z k H Q res
variable {R K W q}
theorem i7.up{res:Rs α}(w:i7 R K W q Z k H Q res)(u:Up q k H k' H'):i7 R K W q Z k' H' Q res:=by
 cases res with
 |ok a S=>exact λb k2 H2 u2 k r=>w b k2 H2 (u.trans u2) k r
 |ex C l S=>exact λdx k2 H2 u2 k r=>w dx k2 H2 (u.trans u2) k r
theorem yX{x:Option (Rs α)}{f:α->aX->Option (Rs α')}{res:Rs α'}(e:bd x f=some res):(∃a S,x=some (.ok a S)/\f a S=some res)\/∃C l S,x=some (.ex C l S)/\res=.ex C l S:=by
 unfold bd at e;split at e
 ·cases e
 ·exact .inl ⟨_,_,rfl,e⟩
 ·cases e;exact .inr ⟨_,_,_,rfl,rfl⟩
theorem tX.bd{g:Gx α}{f:α->aX->Option (Rs α')}{res:Rs α'}(ok:cD K k H S)(gk:jw K k Z U)(e:bd (g U S) f=some res)(w:i7 R' K W q Z k H Q' res)
  (h:∀a S1 b k1 H1,cD K k1 H1 S1->jw K k1 Z U->R k1 H1 b a->f a S1=some res->i7 R' K W q Z k1 H1 Q' res->Up q k H k1 H1->Q b H1):tX R K W q g Z H Q:=by
 rcases yX e with⟨a,S1,e1,e2⟩|⟨C,l,S1,e1,rfl⟩
 ·exact⟨k,U,S,_,ok,gk,e1,λb k' H' u i5 r=>h a S1 b k' H' i5 (gk.up u) r e2 (w.up u) u⟩
 ·exact⟨k,U,S,_,ok,gk,e1,w⟩
theorem i7.now{a:α}{b:β}(w:i7 R K W q Z k H Q (.ok a S))(ok:cD K k H S)(r:R k H b a):Q b H:=w b k H .refl ok r
theorem oa{g:Gx α}{Q₂:β->Hp->Prop}(h:tX R K W q g Z H Q)(m:∀b H,Q b H->Q₂ b H):tX R K W q g Z H Q₂:=by
 obtain⟨k,U,S,res,ok,gk,e,w⟩:=h;refine⟨k,U,S,res,ok,gk,e,?_⟩;cases res with
 |ok a S=>exact λb k2 H2 u k r=>m _ _ (w b k2 H2 u k r)
 |ex C l S=>exact w
end
abbrev RE(K:PySem.W.Frag):Rp Rv V:=λk H x r=>n8 K k H x r
abbrev RA(K:PySem.W.Frag):Rp (List Val) (List V):=λk _ xs vs=>Paired (eY K k) xs vs
abbrev RB:Rp Bool Bool:=λ_ _ b a=>b=a
abbrev GE:=Gx Rv
variable{g f:GE}
abbrev GA:=Gx (List Val)
variable{h:GA}
abbrev GT:=Gx Bool
abbrev tE(K:PySem.W.Frag)(W:XW)(q:Nat)(g:GE):TE:=tX (RE K) K W q g
abbrev jv(K:PySem.W.Frag)(W:XW)(q:Nat)(g:GA):TA:=tX (RA K) K W q g
abbrev tT(K:PySem.W.Frag)(W:XW)(q:Nat)(g:GT):TT:=tX RB K W q g
noncomputable def gC(d:D):GE:=λ_ S=>some (.ok (.v (.d d)) S)
noncomputable def aa(i:Nat):GE:=λU S=>((U[i]?).join).map λv=>.ok (.v v) S
theorem Mz{α:Type}{x:Option (Option α)}{v:α}(h:x.join=some v):x=some (some v):=by
 cases x with
 |none=>cases h
 |some y=>exact congrArg some h
def mS:Rv->Val
 |.v x=>x
 |.o c=>.d c.d
def hpR(S:aX):Rv->Rs Rv
 |.o c=>.ok (.v (.d (.ref S.r.length))) ⟨S.s,S.r++[.o c]⟩
 |r=>.ok r S
def lh(g:GE):GE:=λU S=>bd (g U S) λr S1=>some (hpR S1 r)
noncomputable def gN:GA:=λ_ S=>some (.ok [] S)
def aj(g:GE)(h:GA):GA:=λU S=>bd (g U S) λr S1=>bd (h U S1) λvs S2=>some (.ok (mS r::vs) S2)
section
variable {X:Cx} {K:PySem.W.Frag} {W:XW} {q:Nat} {e a b:Expr} {es:List Expr} {mz fb fc:GE} {fs:GA} {ft fu:GT} {pos:Pos} {Z:St} {H:Hp}
theorem wK{d:D}(h:PE X e (tC v))(hf:uP d=some v:=by rfl):PE X e (tE K W q (gC d)):=h.mono λZ H Q t=>by
 obtain⟨k,U,S,res,ok,gk,e,w⟩:=t;cases e;exact w.now ok (show ai K k [v] [d] from .flat hf .nil)
theorem YL{i:Nat}(h:PE X e (x8 i)):PE X e (tE K W q (aa i)):=h.mono λZ H Q t=>by
 obtain⟨k,U,S,res,ok,gk,e,w⟩:=t;obtain⟨v,q,rfl⟩:=fR.mp e;obtain⟨x,hx,r⟩:=gk.at' i v (Mz q);exact⟨x,hx,w.now ok (show n8 K k H x (.v v) from r)⟩
theorem qk{r:Rv}(ok:cD K k H S)(h:n8 K k H x r):∃k',(∀q,Up q k H k' H)/\cD K k' H S/\eY K k' x (mS r):=by
 cases r with
 |v y=>exact⟨k,λ_=>.refl,ok,h⟩
 |o c=>
  obtain⟨p,rfl,hF,hi,hc⟩:=h;obtain⟨F',i5,u,rp⟩:=ok.Jd hF hi hc;exact⟨_,u,i5,rp⟩
theorem yO(h:PE X e (tE K W q mz)):PE X e (tE K W q (lh mz)):=h.mono λZ H Q t=>by
 obtain⟨k,U,S,res,ok,gk,e,w⟩:=t;refine tX.bd ok gk e w λr S1 x k1 H1 bC g1 r1 e1 w1 _=>?_
 cases r with
 |v y=>cases e1;exact w1.now bC r1
 |o c=>
  cases e1;obtain⟨p,rfl,hF,hi,hc⟩:=r1;obtain⟨ee,u⟩:=bC.vt hi (c:=.o c) ⟨hF,hc⟩;exact w1 _ _ _ (u q) ee (show ai K _ [.ref p] [.ref S1.r.length] from .ref (by rw[<-bC.r.ln];exact DL) .nil)
theorem sW(t:jv K W q (aj g h) Z H Q):tE K W q g Z H λx H1=>jv K W q h Z H1 λxs H2=>Q (x::xs) H2:=by
 obtain⟨k,U,S,res,ok,gk,e,w⟩:=t;refine tX.bd ok gk e w λr S1 x k1 H1 bC g1 r1 e1 w1 _=>?_
 obtain⟨k2,u2,ee,r2⟩:=qk bC r1;refine tX.bd ee (g1.up (u2 q)) e1 (w1.up (u2 q)) λvs S3 xs k3 H3 kq g3 r3 e3 w3 u3=>?_
 cases e3;exact w3.now kq (.cons (r2.up u3) r3)
theorem yY(t:jv K W q gN Z H Q):Q [] H:=by
 obtain⟨k,U,S,res,ok,gk,e,w⟩:=t;cases e;exact w.now ok .nil
theorem aH:PA X [] (jv K W q gN):=mK.mono λZ H Q t=>yY t
theorem WO(ha:PE X e (tE K W q g))(hr:PA X es (jv K W q h))(hs:starEach (e::es) X.env=(false,eval e X.env)::starEach es X.env):PA X (e::es) (jv K W q (aj g h)):=(DJ ha hr hs).mono λZ H Q t=>sW t
def Top(K:PySem.W.Frag)(k:Kn)(H:Hp)(x:V)(d:D):Prop:=ai K k [x] [d]\/∃p c,x=.ref p/\d=Bx.d c/\fS K k H p c
def Cell.ub:Cell->Option D
 |.o c=>some c.d
 |.z c=>some c.d
 |.ins _ _=>none
def ub(S:aX):Val->Option D
 |.d (.ref n)=>(S.r[n]?).bind Cell.ub
 |.d x=>some x
 |.c n=>(S.s[n]?).bind Cell.ub
def uc(S:aX):List Val->Option (List D)
 |[]=>some []
 |v::vs=>(ub S v).bind λd=>(uc S vs).map λds=>d::ds
theorem Nc{x:Addr}{c:Cell}{d:D}(h:bc K k H x c)(e:c.ub=some d):Top K k H (.ref x) d:=by
 cases c with
 |o b=>cases e;exact .inr ⟨x,b,rfl,rfl,h.2⟩
 |z b=>cases e;exact .inl h.2
 |ins _ _=>cases e
theorem D6{v:Val}{d:D}(ok:cD K k H S)(h:eY K k x v)(e:ub S v=some d):Top K k H x d:=by
 cases v with
 |d y=>
  cases y with
  |ref n=>
   obtain⟨p,rfl,h1⟩:=ai.isRef h;obtain⟨c,h2,e⟩:=dB.mp e;exact Nc (ok.r.at' n p c h1 h2) e
  |_=>cases e;exact .inl h
 |c n=>
  obtain⟨p,rfl,h1⟩:=h;obtain⟨c,h2,e⟩:=dB.mp e;exact Nc (ok.s.at' n p c h1 h2) e
theorem N0{xs:List V}(ok:cD K k H S)(h:Paired (eY K k) xs vs)(e:uc S vs=some ds):Paired (Top K k H) xs ds:=by
 induction h generalizing ds with
 |nil=>cases e;exact .nil
 |cons r _ ih=>
  obtain⟨d,e1,e⟩:=dB.mp e;obtain⟨es,e2,rfl⟩:=fR.mp e;exact .cons (D6 ok r e1) (ih e2)
def QM(K:PySem.W.Frag)(k':Kn)(H H':Hp)(x:V):Rv->Prop
 |.v (.d y)=>ai K k' [x] [y]
 |.o c=>∃p,x=.ref p/\H p=none/\k'.F p=none/\fS K k' H' p c
 |_=>False
def lI(K:PySem.W.Frag)(k:Kn)(H:Hp)(r:Rv)(Q:VK):Prop:=∀x F' H',aB k.F F'->aB H H'->aB F' H'->(∀p,H p≠none->k.F p=none->F' p=none)->QM K ⟨F',k.A,k.T⟩ H H' x r->Q x H'
def cJ(K:PySem.W.Frag)(r:List V->Hp->VK->Prop)(o:List D->Option Rv):Prop:=∀k H xs ds y Q,aB k.F H->Paired (Top K k H) xs ds->o ds=some y->lI K k H y Q->r xs H Q
def gO(o:List D->Option Rv)(g:GA):GE:=λU S=>bd (g U S) λvs S1=>(uc S1 vs).bind λds=>(o ds).map λr=>.ok r S1
theorem lI.fin{y:Rv}{Q:VK}(ok:cD K k H S)(w:i7 (RE K) K W q Z k H Q (.ok y S)):lI K k H y Q:=λx F' H' s1 s2 s3 fr nw=>by
 refine w x ⟨F',k.A,k.T⟩ H' (.of s1 s2) (ok.new s1 (λp _ o z=>s2 p o z) s3 λp m=>fr p (ok.there p m)) ?_
 cases y with
 |v z=>
  cases z with
  |d z=>exact nw
  |_=>exact nw.elim
 |o c=>obtain⟨p,e4,e5,e6,e7⟩:=nw;exact⟨p,e4,e6,(ok.fresh e5).2,e7⟩
theorem s9{r:List V->Hp->VK->Prop}(bF:cJ K r o){g:GA}{Q:VK}(t:tE K W q (gO o g) Z H Q):jv K W q g Z H λxs H1=>r xs H1 Q:=by
 obtain⟨k,U,S,res,ok,gk,e,w⟩:=t;refine tX.bd ok gk e w λvs S1 xs k1 H1 bC g1 r1 e1 w1 _=>?_
 obtain⟨ds,e2,e1⟩:=dB.mp e1;obtain⟨y,e3,rfl⟩:=fR.mp e1;exact bF k1 H1 xs ds y Q bC.le (N0 bC r1 e2) e3 (.fin bC w1)
section
variable {k:Kn} {x:V} {Q:VK}
theorem lI.rep{y:D}(h:lI K k H (.v (.d y)) Q)(le:aB k.F H)(r:ai K k [v] [y]):Q v H:=h v k.F H (aB.refl _) (aB.refl _) le (λ_ _ z=>z) r
theorem lI.flat{y:D}{v:V}(h:lI K k H (.v (.d y)) Q)(le:aB k.F H)(e:uP y=some v):Q v H:=h.rep le (.flat e .nil)
theorem lI.lst{ds:List D}{ws:List V}(h:lI K k H (.o (.lst ds)) Q)(le:aB k.F H)(r:ai K k ws ds){l:Addr}(hn:H l=none):Q (.ref l) (upd H l (.lst ws)):=
 h _ k.F _ (aB.refl _) (qI hn) (le.put hn) (λ_ _ z=>z) ⟨l,rfl,hn,le.free hn,ws,aL,r⟩
theorem lI.aN{kvs:List (TK×D)}{es:List (TK×V×V)}{ep:Nat}(h:lI K k H (.o (.aN kvs)) Q)(le:aB k.F H)(q:es.map (·.1)=kvs.map (·.1))(r:ai K k (es.map (·.2.1)) (kvs.map (·.1.d)))(t:ai K k (es.map (·.2.2)) (kvs.map (·.2))){l:Addr}(hn:H l=none):Q (.ref l) (upd H l (.dG es ep)):=
 h _ k.F _ (aB.refl _) (qI hn) (le.put hn) (λ_ _ z=>z) ⟨l,rfl,hn,le.free hn,es,ep,aL,q,r,t⟩
theorem lI.tup{ds:List D}{ws:List V}(h:lI K k H (.v (.d (.tup ds))) Q)(le:aB k.F H)(r:ai K k ws ds){l:Addr}(hn:H l=none):Q (.ref l) (upd H l (.tup ws)):=by
 have hF:=le.free hn;refine h _ (upd k.F l (.tup ws)) _ (qI hF) (qI hn) (λb u z=>?_) (λp z1 z2=>by rw[eX (show p≠l from λz=>z1 (z ▸ hn))];exact z2) (show ai K ⟨upd k.F l (.tup ws),k.A,k.T⟩ [.ref l] [.tup ds] from .tup (.inl (.inl aL)) (r.mono ⟨qI hF,lY _⟩) .nil)
 by_cases q:b=l
 ·subst q;rw[aL] at z ⊢;exact z
 ·rw[eX q] at z ⊢;exact le b u z
abbrev Kn.all(k:Kn)(H:Hp):Kn:=⟨H,k.A,k.T⟩
theorem ai.all{vs:List V}{ds:List D}(h:ai K k vs ds)(le:aB k.F H):ai K (k.all H) vs ds:=h.mono ⟨le,lY _⟩
theorem Top.rep{d:D}(h:Top K k H x d)(le:aB k.F H):ai K (k.all H) [x] [d]:=by
 rcases h with h|⟨p,c,rfl,rfl,h⟩
 ·exact h.all le
 ·cases c with
  |lst xs=>obtain⟨ws,e,r⟩:=h;exact .lst (.inl (.inl e)) (r.all le) .nil
  |aN kvs=>obtain⟨es,ep,e,q,r,t⟩:=h;exact .aN e q (r.all le) (t.all le) .nil
theorem Top.flat{d:D}(h:Top K k H x d)(e:uP d=some v):x=v:=by
 rcases h with h|⟨p,c,rfl,rfl,h⟩
 ·exact h.bu e
 ·cases c <;> cases e
theorem Top.lst{ds:List D}(h:Top K k H x (.lst ds))(le:aB k.F H):∃p ws,x=.ref p/\dY K H p ws/\ai K k ws ds:=by
 rcases h with h|⟨p,c,rfl,e,h⟩
 ·obtain⟨p,ws,rfl,q,r⟩:=h.vd;exact⟨p,ws,rfl,le.Kx q,r⟩
 ·cases c <;> cases e;obtain⟨ws,e,r⟩:=h;exact⟨p,ws,rfl,.inl (.inl e),r⟩
theorem Top.tup{ds:List D}(h:Top K k H x (.tup ds))(le:aB k.F H):∃p ws,x=.ref p/\jm K H p ws/\ai K k ws ds:=by
 rcases h with h|⟨p,c,rfl,e,h⟩
 ·obtain⟨p,ws,rfl,q,r⟩:=h.isTup;exact⟨p,ws,rfl,le.xX q,r⟩
 ·cases c <;> cases e
theorem Top.aN{kvs:List (TK×D)}(h:Top K k H x (.aN kvs))(le:aB k.F H):∃p es ep,x=.ref p/\H p=some (.dG es ep)/\es.map (·.1)=kvs.map (·.1)/\ai K k (es.map (·.2.1)) (kvs.map (·.1.d))/\ai K k (es.map (·.2.2)) (kvs.map (·.2)):=by
 rcases h with h|⟨p,c,rfl,e,h⟩
 ·obtain⟨p,es,ep,rfl,q,r⟩:=h.vc;exact⟨p,es,ep,rfl,le _ _ q,r⟩
 ·cases c <;> cases e;obtain⟨es,ep,h⟩:=h;exact⟨p,es,ep,rfl,h⟩
end
def mZ(r:R2):List V->Hp->VK->Prop:=λxs H Q=>∃x y,xs=[x,y]/\r x y H Q
def Kh(r:V->Hp->VK->Prop):List V->Hp->VK->Prop:=λxs H Q=>∃x,xs=[x]/\r x H Q
abbrev ow(f:GE):GA:=aj f gN
abbrev au(f g:GE):GA:=aj f (aj g gN)
theorem Es{r:V->V->Hp->Prop}(h:jv K W q (au f g) Z H λxs H1=>∃x y,xs=[x,y]/\r x y H1):tE K W q f Z H λx H1=>tE K W q g Z H1 λy H2=>r x y H2:=
 oa (sW h) λx H1 t=>oa (sW t) λy H2 t=>by
  obtain⟨x',y',e,q⟩:=yY t;cases e;exact q
theorem IT{r:V->Hp->Prop}(h:jv K W q (ow f) Z H λxs H1=>∃x,xs=[x]/\r x H1):tE K W q f Z H r:=
 oa (sW h) λx H1 t=>by
  obtain⟨x',e,q⟩:=yY t;cases e;exact q
theorem Δ{op:Operator}(ho:fW X (binaryOp op) r)(ok:cJ K (mZ r) o)(ha:PE X a (tE K W q mz))(hb:PE X b (tE K W q fb)):PE X (.BinOp a op b pos) (tE K W q (gO o (au mz fb))):=(Z0 ho ha hb).mono λ_ _ _ t=>Es (s9 ok t)
theorem Θ{op:UnaryOp}{r:V->Hp->VK->Prop}(ho:CQ X (unaryOp op) r)(ok:cJ K (Kh r) o)(ha:PE X a (tE K W q mz)):PE X (.UnaryOp op a pos) (tE K W q (gO o (ow mz))):=(Z4 ho ha).mono λ_ _ _ t=>IT (s9 ok t)
theorem YM{op:CmpOp}(ho:fW X (compareOp op) r)(ok:cJ K (mZ r) o)(ha:PE X a (tE K W q mz))(hb:PE X b (tE K W q fb))(hm:behindInMarks op b=false):PE X (.Compare a [op] [b] pos) (tE K W q (gO o (au mz fb))):=(Wq ho ha hb hm).mono λ_ _ _ t=>Es (s9 ok t)
theorem Ξ(ho:pF X r)(ok:cJ K (mZ r) o)(ha:PE X a (tE K W q mz))(hb:PE X b (tE K W q fb))(hs:HR b):PE X (.Subscript a b pos) (tE K W q (gO o (au mz fb))):=(Z_ ho ha hb hs).mono λ_ _ _ t=>Es (s9 ok t)
end
def Rv.bool:Rv->Option Bool
 |.v (.d (.bl b))=>some b
 |_=>none
theorem Rv.tf{r:Rv}{b:Bool}(h:r.bool=some b):r=.v (.d (.bl b)):=by
 unfold Rv.bool at h;split at h
 ·cases h;rfl
 ·cases h
def x_:D->Option Bool
 |.az=>some false
 |.bl b=>some b
 |.int i=>some (i != 0)
 |.str y=>if y.length<=1000000 then some ((y.length:Int) != 0) else none
 |.lst xs=>some (!xs.isEmpty)
 |.tup xs=>some (!xs.isEmpty)
 |_=>none
def gB(g:GE):GT:=λU S=>bd (g U S) λr S1=>r.bool.map λb=>.ok b S1
def ec(g:GE):GT:=λU S=>bd (g U S) λr S1=>((ub S1 (mS r)).bind x_).map λb=>.ok b S1
def iV(g:GT):GT:=λU S=>bd (g U S) λb S1=>some (.ok (!b) S1)
def A6(c g h:GT):GT:=λU S=>bd (c U S) λb S1=>if b=true then g U S1 else h U S1
def mh(b:Bool):GT:=λ_ S=>some (.ok b S)
def ez(g h:GT):GT:=A6 g h (mh false)
def km(g h:GT):GT:=A6 g (mh true) h
def wQ(c:GT)(g h:GE):GE:=λU S=>bd (c U S) λb S1=>if b=true then g U S1 else h U S1
def pQ(g h:GE):GE:=wQ (gB g) h (gC (.bl false))
section
variable {X:Cx} {K:PySem.W.Frag} {W:XW} {q:Nat} {e a b:Expr} {es rest:List Expr} {f g h:GE} {fs:GA} {ft fu:GT} {pos:Pos} {Z:St} {H:Hp}
theorem PX{Q:Bool->Hp->Prop}(t:tT K W q (gB f) Z H Q):tE K W q f Z H λx H1=>∃k,x=.bl k/\Q k H1:=by
 obtain⟨k,U,S,res,ok,gk,e,w⟩:=t;refine tX.bd ok gk e w λr S1 x k1 H1 bC g1 r1 e1 w1 _=>?_
 obtain⟨b,e2,rfl⟩:=fR.mp e1;cases Rv.tf e2;exact⟨b,(show ai K k1 [x] [.bl b] from r1).bu rfl,w1.now bC rfl⟩
theorem WQ{d:D}{b:Bool}(le:aB k.F H)(h:Top K k H x d)(e:x_ d=some b):vT K x H b:=by
 cases d with
 |az=>cases h.flat rfl;cases e;rfl
 |bl b=>cases h.flat rfl;cases e;rfl
 |int i=>cases h.flat rfl;cases e;rfl
 |str y=>
  cases h.flat rfl;unfold x_ at e;dsimp only at e;split at e
  ·cases e;exact⟨lC (by assumption) (by decide),rfl⟩
  ·cases e
 |lst xs=>
  cases e;obtain⟨p,ws,rfl,h1,h2⟩:=h.lst le;refine .inl ⟨ws,h1,?_⟩;have:=h2.length;cases ws <;> cases xs <;> first|rfl|cases this
 |tup xs=>
  cases e;obtain⟨p,ws,rfl,h1,h2⟩:=h.tup le;refine .inr (.inl ⟨ws,h1,?_⟩);have:=h2.length;cases ws <;> cases xs <;> first|rfl|cases this
 |_=>cases e
theorem YN(hK:X.K=K)(he:PE X a (tE K W q f))(ht:∀whole,isTrue a X.env whole=(do let v <-whole;standAt a.pos;holding [v] (truthy v))):PT X a (tT K W q (ec f)):=(UX he ht).mono λZ H Q t=>by
 obtain⟨k,U,S,res,ok,gk,e,w⟩:=t;refine tX.bd ok gk e w λr S1 x k1 H1 bC g1 r1 e1 w1 _=>?_
 obtain⟨b,e2,rfl⟩:=fR.mp e1;obtain⟨d,e3,e4⟩:=dB.mp e2;obtain⟨k2,u2,ee,r2⟩:=qk bC r1;rw[hK];exact⟨b,WQ ee.le (D6 ee r2 e3) e4,(w1.up (u2 q)).now ee rfl⟩
theorem PY(h:PT X a (rN t))(m:∀Z H Q,tE K W q f Z H Q->t Z H Q):PT X a (tT K W q (gB f)):=h.mono λZ H Q q=>m Z H _ (PX q)
theorem sk(h:PT X a (tT K W q ft)):PT X (.UnaryOp .Not a pos) (tT K W q (iV ft)):=(Yl h).mono λZ H Q t=>by
 obtain⟨k,U,S,res,ok,gk,e,w⟩:=t;refine tX.bd ok gk e w λb S1 x k1 H1 bC g1 r1 e1 w1 _=>?_
 cases e1;cases r1;exact w1.now bC rfl
theorem Eo{β' α':Type}{R':Rp α' β'}{gx gy:Gx α'}{Q':β'->Hp->Prop}(t:tX R' K W q (λU S=>bd (ft U S) λb S1=>if b=true then gx U S1 else gy U S1) Z H Q'):tT K W q ft Z H λb H1=>if b=true then tX R' K W q gx Z H1 Q' else tX R' K W q gy Z H1 Q':=by
 obtain⟨k,U,S,res,ok,gk,e,w⟩:=t;refine tX.bd ok gk e w λb S1 x k1 H1 bC g1 r1 e1 w1 _=>?_
 cases r1;cases b with
 |true=>exact q8 ⟨k1,U,S1,res,bC,g1,e1,w1⟩
 |false=>exact qZ ⟨k1,U,S1,res,bC,g1,e1,w1⟩
theorem AR{α β:Type}{R:Rp α β}{c:α}{b:β}{Q:β->Hp->Prop}(t:tX R K W q (λ_ S=>some (.ok c S)) Z H Q)(r:∀k H,R k H b c):Q b H:=by
 obtain⟨k,U,S,res,ok,gk,e,w⟩:=t;cases e;exact w.now ok (r k H)
theorem HV{c:Bool}{p p' q q':Prop}(h:if c=true then p else q)(h1:p->p')(h2:q->q'):if c=true then p' else q':=by
 cases c with
 |true=>exact h1 h
 |false=>exact h2 h
theorem nq(ha:PT X a (tT K W q ft))(hb:PW X (.BoolOp .And (b::rest) pos) (tT K W q fu)):PW X (.BoolOp .And (a::b::rest) pos) (tT K W q (ez ft fu)):=(Yk ha hb).mono λZ H Q t=>
 oa (Eo t) λc H1 z=>HV z id λz=>AR z λ_ _=>rfl
theorem qK(ha:PT X a (tT K W q ft))(hb:PW X (.BoolOp .Or (b::rest) pos) (tT K W q fu)):PW X (.BoolOp .Or (a::b::rest) pos) (tT K W q (km ft fu)):=(ZY ha hb).mono λZ H Q t=>
 oa (Eo t) λc H1 z=>HV z (λz=>AR z λ_ _=>rfl) id
theorem AG(ha:PE X a (tE K W q f))(hb:PE X (.BoolOp .And (b::rest) pos) (tE K W q g)):PE X (.BoolOp .And (a::b::rest) pos) (tE K W q (pQ f g)):=(Ym ha hb).mono λZ H Q t=>
 oa (PX (Eo t)) λx H1 ⟨c,e,z⟩=>⟨c,e,HV z id λz=>AR z λ_ _=>ai.flat rfl .nil⟩
theorem AS{c:Expr}(hc:PT X c (tT K W q ft))(ha:PE X a (tE K W q f))(hb:PE X b (tE K W q g)):PE X (.IfExp c a b pos) (tE K W q (wQ ft f g)):=(UR hc ha hb).mono λZ H Q t=>Eo t
end
def oq(S:aX):Val->Option (D×aX)
 |.d x=>some (x,S)
 |.c n=>(S.s[n]?).bind λc=>match c with
  |.o b=>some (b.d,⟨S.s.set n (.z b),S.r⟩)
  |.z b=>some (b.d,S)
  |.ins _ _=>none
def pP:List Val->aX->Option (List D×aX)
 |[],S=>some ([],S)
 |v::vs,S=>(oq S v).bind λp=>(pP vs p.2).map λq=>(p.1::q.1,q.2)
section
variable {K:PySem.W.Frag} {k:Kn} {H:Hp} {S S':aX}
theorem DM{v:Val}{d:D}(ok:cD K k H S)(h:eY K k x v)(e:oq S v=some (d,S')):∃k',(∀q,Up q k H k' H)/\cD K k' H S'/\ai K k' [x] [d]:=by
 cases v with
 |d y=>cases e;exact⟨k,λ_=>.refl,ok,h⟩
 |c n=>
  obtain⟨p,rfl,hp⟩:=h;obtain⟨c,h1,e⟩:=dB.mp e;cases c with
  |o b=>
   cases e;obtain⟨F',i5,u,rp⟩:=ok.Je hp h1;exact⟨_,u,i5,rp⟩
  |z b=>cases e;exact⟨k,λ_=>.refl,ok,(ok.s.at' n p _ hp h1).2⟩
  |ins C fs=>cases e
theorem DN{xs:List V}(ok:cD K k H S)(h:Paired (eY K k) xs vs)(e:pP vs S=some (ds,S')):∃k',(∀q,Up q k H k' H)/\cD K k' H S'/\ai K k' xs ds:=by
 induction vs generalizing xs ds k S with
 |nil=>cases e;cases h;exact⟨k,λ_=>.refl,ok,.nil⟩
 |cons v vs ih=>
  cases h with
  |cons r t=>
   obtain⟨⟨v1,S1⟩,e1,e⟩:=dB.mp e;obtain⟨⟨vs2,S2⟩,e2,e⟩:=fR.mp e;cases e;obtain⟨k1,u1,bC,r1⟩:=DM ok r e1;obtain⟨k2,u2,ee,r2⟩:=ih bC (uA.up t (u1 0)) e2;exact⟨k2,λb=>(u1 b).trans (u2 b),ee,.cons (r1.mono (u2 0).le) r2⟩
end
def Kt(t:Bool)(p:List D×aX):Rs Rv:=.ok (if t=true then .v (.d (.tup p.1)) else .o (.lst p.1)) p.2
def bT(t:Bool)(g:GA):GE:=λU S=>bd (g U S) λvs S1=>if vs.length<=1000000 then(pP vs S1).map (Kt t) else none
section
variable {X:Cx} {K:PySem.W.Frag} {W:XW} {q:Nat} {es:List Expr} {fs:GA} {pos:Pos} {Z:St} {H:Hp}
theorem ml{n:Nat}(h:n<=1000000):n<=sizeLine:=lC h (by decide)
theorem O0{t:Bool}{Q:VK}(h:tE K W q (bT t fs) Z H Q):jv K W q fs Z H λxs H1=>xs.length<=sizeLine/\∀p,H1 p=none->Q (.ref p) (upd H1 p (if t=true then .tup xs else .lst xs)):=by
 obtain⟨k,U,S,res,ok,gk,e,w⟩:=h;refine tX.bd ok gk e w λvs S1 xs k1 H1 bC g1 r1 e1 w1 _=>?_
 split at e1
 ·rename_i hl
  refine⟨by rw[Paired.length r1];exact ml hl,λp hp=>?_⟩
  obtain⟨⟨ds,S2⟩,e2,e3⟩:=fR.mp e1;obtain⟨k2,u2,ee,r2⟩:=DN bC r1 e2;have w2:=w1.up (u2 q);cases e3;cases t with
  |false=>exact lI.lst (.fin ee w2) ee.le r2 hp
  |true=>exact lI.tup (.fin ee w2) ee.le r2 hp
 ·cases e1
theorem kc{x1}(h:PA X es (jv K W q fs)):PE X (.Tuple es x1 pos) (tE K W q (bT true fs)):=(YC h).mono λZ H Q t=>O0 t
theorem pJ(h:PA X es (jv K W q fs)):PE X (.List es pos) (tE K W q (bT false fs)):=(YD h).mono λZ H Q t=>O0 t
end
end L2
namespace L2
open PySem PySem.Spec PyProof.Rows
variable{base:Heap}{env:Env}{outer:List Env}{L e C:Addr}{dx:Option Addr}{n:Nat}{H:Hp}{Q:Unit->Shared->Prop}
structure kT (fs ch:List Addr) (h h':Heap):Prop where
 keep:∀b o,b∉fs->b∉ch->h.get? b=some o->h'.get? b=some o
 slot:∀b o,b∈fs->b∉ch->h.get? b=some o->∃sl,h'.get? b=some { o with slots:=sl}
def kS(n:Nat)(h:Heap)(H:Hp)(e C:Addr)(dx:Option Addr):Prop:=n<=e/\H e=none/\∃oe vs,h.get? e=some oe/\oe.cls=.ref C/\oe.dict=dx/\oe.data=.fields vs/\1 < vs.size/\
 (vs[1]?=some .none\/∃T oT ts,vs[1]?=some (.ref T)/\n<=T/\H T=none/\T≠e/\h.get? T=some oT/\oT.data=.fields ts/\ts[3]?=some .none)
theorem Tr(f:Array Value->Array Value)(o:Obj):(Obj.mapFields f o).dict=o.dict:=by obtain⟨c,d,dt,sl⟩:=o;cases dt <;> rfl
section
variable {M:Model} {A:Around} {E:Value->Shared->Prop} {s:Shared}
theorem N1{oe:Obj}{vs:Array Value}{head:Value}{had:Bool}
  (qT:A.frames=some (env::outer)) (hl:s.heap.FunFrames base (env::outer)) (hf:env.frame=some L) (he:s.heap.get? e=some oe) (hc:oe.cls=.ref C) (hx:oe.dict=dx) (hd:oe.data=.fields vs) (hsz:1 < vs.size) (hn:n<=s.heap.objs.size) (ic:n<=e) (zg:H e=none) (hH:∀a,s.heap.objs.size<=a->H a=none)
  (h:∀h',kT (lP (env::outer)) [e] s.heap h'->kS n h' H e C dx->Q () { s with heap:=h'}) :
  wpAny M A (do let a <-frameOf env;let pl <-entryPlaceOf L had;let b <-EntryCells.newEntry head a .none (rawInt L) .none pl;setField (.ref e) 1 b) (λ_ s'=>wpAny M A (setFlight (.ref e) none) Q E s') E s:=by
 have χ:e∉lP (env::outer):=λm=>by
  obtain⟨_,o,ho,Bi⟩:=hl.mem m;rw[he] at ho;cases ho;exact Bi vs hd
 refine wpAny_bind (wpAny_frameOf_fun qT hl hf λh1 so=>wpAny_bind (wpAny_entryPlaceOf λpl kE=>?_))
 unfold EntryCells.newEntry newFields;refine wpAny_bind (wpAny_newObj_type ?_ (kE.sizeOk5 _ _ _ _ _));generalize eN:({ cls:=.type "traceback",dict:=none,data:=.fields ([head,.ref L,.none,rawInt L,.none]++(if pl.isEmpty then List.replicate 6 Value.none else pl)).toArray}:Obj)=oN
 have e1:h1.get? e=some oe:=(so.2.1 e χ).trans he;have e2:(h1.push oN).get? e=some oe:=fg _ e1;have nT:h1.objs.size≠e:=vI (eH e1);have fN:oN.data=.fields ([head,.ref L,.none,rawInt L,.none]++(if pl.isEmpty then List.replicate 6 Value.none else pl)).toArray:=by rw[<-eN]
 have lN:3 < ([head,.ref L,.none,rawInt L,.none]++(if pl.isEmpty then List.replicate 6 Value.none else pl)).toArray.size:=by simp only[fE,f7,kd,zF];omega
 have dE:=Obj.data_mapFields hd (·.setIfInBounds 1 (Value.ref h1.objs.size))
 have e3:=rS (Obj.mapFields (·.setIfInBounds 1 (Value.ref h1.objs.size))) e2 (Obj.isFreed_of_fields dE)
 have t3:((h1.push oN).update e (Obj.mapFields (·.setIfInBounds 1 (Value.ref h1.objs.size)))).get? h1.objs.size=some oN:=(qw _ _ (Ne.symm nT)).trans (kA h1 (Obj.isFreed_of_fields fN))
 have dT:=Obj.data_mapFields fN (·.setIfInBounds 3 ((none:Option Addr).elim Value.none λf=>rawInt f))
 refine wpAny_setField e2 hd hsz ?_;unfold setFlight;refine wpAny_bind (wpAny_field e3 dE (x:=.ref h1.objs.size) (by simp[hsz]) ?_)
 rw[if_pos (show(Value.ref h1.objs.size != Value.none)=true by simp)]
 refine wpAny_setField t3 fN lN (h _ ⟨λb o hb lR g=>?_,λb o hb lR g=>?_⟩ ⟨ic,zg,_,_,(qw _ _ nT).trans e3,(Obj.cls_mapFields _ _).trans hc,(Tr _ _).trans hx,dE,by simpa using hsz,.inr ⟨h1.objs.size,_,_,by simp[hsz],by rw[so.1];exact hn,hH _ (by rw[so.1];exact cI _),nT,rS _ t3 (Obj.isFreed_of_fields dT),dT,by simp[Array.getElem?_setIfInBounds,lN]⟩⟩)
 ·have be:b≠e:=λz=>lR (by simp[z])
  have b1:h1.get? b=some o:=(so.2.1 b hb).trans g;rw[qw _ _ (vI (eH b1)),qw _ _ (Ne.symm be)];exact fg _ b1
 ·have be:b≠e:=λz=>lR (by simp[z])
  obtain⟨sl,b1⟩:=so.2.2 b o g;refine⟨sl,?_⟩;rw[qw _ _ (vI (eH b1)),qw _ _ (Ne.symm be)];exact fg _ b1
theorem YO
  (qT:A.frames=some (env::outer)) (hl:s.heap.FunFrames base (env::outer)) (hf:env.frame=some L) (hn:n<=s.heap.objs.size) (hH:∀a,s.heap.objs.size<=a->H a=none) (fl:kS n s.heap H e C dx)
  (h:∀h' ch,(∀b∈ch,n<=b/\H b=none)->kT (lP (env::outer)) ch s.heap h'->kS n h' H e C dx->Q () { s with heap:=h'}):wpAny M A (noteFrame (.ref e) env) (λ_ s'=>wpAny M A (setFlight (.ref e) none) Q E s') E s:=by
 obtain⟨ic,zg,oe,vs,he,hc,hx,hd,hsz,h1⟩:=fl;unfold noteFrame;simp only[hf];rcases h1 with h1|⟨T,oT,ts,h1,hnT,hHT,hTe,hT,Jt,h3⟩
 ·refine wpAny_bind (wpAny_field he hd h1 ?_);rw[if_neg (by decide)]
  exact N1 qT hl hf he hc hx hd hsz hn ic zg hH λh' l f=>h h' [e] (λb m=>by cases p8.1 m;exact⟨ic,zg⟩) l f
 ·refine wpAny_bind (wpAny_field he hd h1 ?_);rw[if_pos (show(Value.ref T != Value.none)=true by simp)]
  refine wpAny_bind (wpAny_field hT Jt h3 ?_);rw[if_neg (show ¬(Value.none == rawInt L)=true by simp[rawInt])]
  refine wpAny_bind (wpAny_setField hT Jt (CC.mp h3).1 ?_);have ot:∀b,b≠T->(s.heap.update T (Obj.mapFields (·.setIfInBounds 3 Value.none))).get? b=s.heap.get? b:=λb z=>qw _ _ (Ne.symm z)
  have nr:∀b o,s.heap.get? b=some o->(∀vs,o.data≠.fields vs)->b≠T:=λb o hb Bi z=>by
   rw[z,hT] at hb;cases hb;exact Bi ts Jt
  refine N1 (s:={ s with heap:=s.heap.update T (Obj.mapFields (·.setIfInBounds 3 Value.none))}) qT (hl.of_keeps λb o hb Bi=>⟨o,(ot b (nr b o hb Bi)).trans hb,rfl⟩) hf ((ot e (Ne.symm hTe)).trans he) hc hx hd hsz (by simpa[Heap.size_after_update] using hn) ic zg (λa z=>hH a (by simpa[Heap.size_after_update] using z)) λh' l f=>h h' [e,T] (λb m=>?_) ⟨λb o hb lR g=>?_,λb o hb lR g=>?_⟩ f
  ·simp only[fV,zG,or_false] at m;rcases m with rfl|rfl
   ·exact⟨ic,zg⟩
   ·exact⟨hnT,hHT⟩
  ·simp only[fV,zG,or_false,not_or] at lR;exact l.keep b o hb (by simp[lR.1]) ((ot b lR.2).trans g)
  ·simp only[fV,zG,or_false,not_or] at lR;exact l.slot b o hb (by simp[lR.1]) ((ot b lR.2).trans g)
theorem WR
  (qT:A.frames=some (env::outer)) (hl:s.heap.FunFrames base (env::outer)) (hf:env.frame=some L) (hn:n<=s.heap.objs.size) (hH:∀a,s.heap.objs.size<=a->H a=none) (fl:kS n s.heap H e C dx)
  (h:∀h' ch,(∀b∈ch,n<=b/\H b=none)->kT (lP (env::outer)) ch s.heap h'->kS n h' H e C dx->Q () { s with heap:=h'}):wpAny M A (leaving env (.ref e)) Q E s:=by
 unfold leaving;exact wpAny_bind (YO qT hl hf hn hH fl h)
end
end L2
namespace L2
open PySem PySem.Spec PyProof.Rows
variable{n:Nat}{h h':Heap}{H:Hp}{e C:Addr}{dx:Option Addr}{X:Cx}{ch:List Addr}{x:Str}{k:Kn}{Q:VK}
structure CK (P:Program) (w:World) (outer:List Env) (H:Hp) (s:Shared) (H':Hp) (s':Shared) (e C:Addr) (dx:Option Addr):Prop where
 os:s'.os=s.os
 bare:AllBare s'.gens
 un:Un (lP outer) [] H H' s.heap s'.heap
 bF:jV P w H' s'.heap
 P1:kS s.heap.objs.size s'.heap H' e C dx
def cO(P:Program)(w:World):rY:=λouter H s E e s'=>∃a C dx H',e=.ref a/\CK P w outer H s H' s' a C dx/\E (.ref C) dx H'
def jH(X:Cx)(W:XW):Prop:=∀(ae:List (Addr×Obj)) (Z:St) (H:Hp) (s:Shared) (H':Hp) (s':Shared) (e C:Addr) (dx:Option Addr),Inv X ae Z H s->CK X.prog X.w X.stack H s H' s' e C dx->W C dx Z H'->X.xe (.ref e) s'
theorem kS.mono{n':Nat}(f:kS n h H e C dx)(l:n'<=n):kS n' h H e C dx:=by
 obtain⟨a,b,oe,vs,c1,c2,c3,c4,c5,c6⟩:=f;refine⟨lC l a,b,oe,vs,c1,c2,c3,c4,c5,?_⟩;rcases c6 with c6|⟨T,oT,ts,d1,d2,d3⟩
 ·exact .inl c6
 ·exact .inr ⟨T,oT,ts,d1,lC l d2,d3⟩
theorem kS.lt(f:kS n h H e C dx):n<=h.objs.size:=by
 obtain⟨a,b,oe,vs,c1,_⟩:=f;exact K4 (Nat.lt_of_le_of_lt a (eH c1))
theorem CK.inv{ae:List (Addr×Obj)}{Z:St}{H':Hp}{s s':Shared}(c:CK X.prog X.w X.stack H s H' s' e C dx)(I:Inv X ae Z H s):Inv X ae Z H' s':=
 I.uT (ch:=[]) c.os c.un c.bF c.bare λ_ z=>nomatch z
theorem kT.bF{P:Program}{w:World}{fs:List Addr}(l:kT fs ch h h')(k:jV P w H h)(hf:∀b∈fs,H b=none)(hc:∀b∈ch,H b=none):jV P w H h':=λb o q=>
 (k b o q).mQ (λc u z g=>l.keep c u (λm=>by
  have:=hf c m;rcases z with z|z
  ·rw[z,q] at this;cases this
  ·rw[z] at this;cases this) (λm=>by
  have:=hc c m;rcases z with z|z
  ·rw[z,q] at this;cases this
  ·rw[z] at this;cases this) g) (λ_ z=>z) λ_ _ z=>z
theorem kT.any{fs:List Addr}(l:kT fs ch h h'){b:Addr}{o:Obj}(g:h.get? b=some o)(hc:b∉ch):∃sl,h'.get? b=some { o with slots:=sl}:=by
 by_cases m:b∈fs
 ·exact l.slot b o m hc g
 ·exact⟨o.slots,l.keep b o m hc g⟩
def WF(E:XK):XW:=λC dx _ H'=>E (.ref C) dx H'
section
variable {P:Program} {w:World} {K:PySem.W.Frag} {mg:Str->Option Value} {base:Heap} {N:List Str} {qual:Str} {scope:Scope} {f:Addr} {cd:Value} {A:Around} {outer:List Env} {s₀:Shared} {H₀:Hp} {E:XK}
theorem Au:jH (nB (cO P w) P w K mg base N qual scope f cd A outer s₀ H₀ E) (WF E):=by
 intro ae Z H s H' s' e C dx I c q;have I':=c.inv I;have qT:(A.deeper (envOfC qual scope s₀.heap.objs.size f cd)).frames=some (envOfC qual scope s₀.heap.objs.size f cd::outer):=I.ok.frames;have sz:s₀.heap.objs.size<=s.heap.objs.size:=I.sz;refine WR (base:=base) (L:=s₀.heap.objs.size) qT I'.stack rfl c.P1.lt (λa z=>I'.bF.fresh z) c.P1 λh' ch ox lx fl=>⟨e,C,dx,H',rfl,⟨I'.os,I'.bare,?_,lx.bF I'.bF I'.mR λb m=>(ox b m).2,fl.mono sz⟩,q⟩
 have tV:∀b o,s₀.heap.get? b=some o->b∉ch:=λb o g m=>absurd (jk (eH g) (lC sz (ox b m).1)) (lX _)
 have nL:∀b o,s₀.heap.get? b=some o->b∉lP outer->b∉lP (envOfC qual scope s₀.heap.objs.size f cd::outer):=λb o g z m=>by
  rcases fV.mp (show b∈s₀.heap.objs.size::lP outer from m) with m|m
  ·exact absurd (m ▸ eH g) (lX _)
  ·exact z m
 have B:Un (lP outer) [] H₀ H' s₀.heap s'.heap:=I'.base;refine⟨λb o g n hb hx=>lx.keep b o (nL b o g hb) (tV b o g) (B.keep b o g n hb hx),λb o g n hb hx=>?_,B.free,λb o g hx=>?_,B.lV,B.k_,B.lU⟩
 ·obtain⟨sl,g1⟩:=B.slot b o g n hb hx;obtain⟨zA,g2⟩:=lx.any g1 (tV b o g);exact⟨zA,g2⟩
 ·obtain⟨o',g1⟩:=B.there b o g hx;obtain⟨sl,g2⟩:=lx.any g1 (tV b o g);exact⟨_,g2⟩
theorem PH:PassesOwn (model P w) (A.deeper (envOfC qual scope s₀.heap.objs.size f cd)) (envOfC qual scope s₀.heap.objs.size f cd) (nB (cO P w) P w K mg base N qual scope f cd A outer s₀ H₀ E).xe:=PassesOwn.leaving
end
def EW(W:XW):St->XK:=λZ c dx H'=>∃C,c=.ref C/\W C dx Z H'
theorem o7{W:XW}(h:jH X W):wu (cO X.prog X.w) X (EW W):=λae Z H s e s' I ⟨a,C,dx,H',he,c,C',hc,q⟩=>by
 cases hc;subst he;exact h ae Z H s H' s' a C dx I c q
abbrev GM:=List Val->aX->Option (Rs Rv)
def c_(K:PySem.W.Frag)(q n:Nat)(m:GM):Sp:=λxs H Q E=>xs.length=n/\∃k vs S res,cD K k H S/\Paired (eY K k) xs vs/\m vs S=some res/\i7 (RE K) K (WF E) q [] k H Q res
def kb(m:GM)(n:Nat):Prop:=∀vs S res,m vs S=some res->vs.length=n
def aA(m:GM)(g:GA):GE:=λU S=>bd (g U S) m
def Rv.ref:Rv->Option Nat
 |.v (.d (.ref n))=>some n
 |_=>none
def Cell.lE(C:Addr)(m:Str):Cell->Bool
 |.ins C' fs=>C' == C && (fs.lookup m).isNone
 |_=>false
def aW(C:Addr)(x:Str)(m:GM)(f:GE)(g:GA):GE:=λU S=>bd (f U S) λr S1=>r.ref.bind λn=>if(S1.r[n]?).any (Cell.lE C x)=true then bd (g U S1) λvs S2=>m (.d (.ref n)::vs) S2 else none
def Rv.ve:Rv->Bool
 |.v (.d .az)=>true
 |_=>false
def oV(C:Addr)(m:GM)(g:GA):GE:=λU S=>bd (g U S) λvs S1=>bd (m (.d (.ref S1.r.length)::vs) ⟨S1.s,S1.r++[.ins C []]⟩) λr S2=>if r.ve=true then some (.ok (.v (.d (.ref S1.r.length))) S2) else none
theorem any_some{α:Type}{x:Option α}{p:α->Bool}(h:x.any p=true):∃c,x=some c/\p c=true:=by
 cases x with
 |none=>cases h
 |some c=>exact⟨c,rfl,h⟩
theorem Rv.mM{r:Rv}(h:r.ref=some n):r=.v (.d (.ref n)):=by
 unfold Rv.ref at h;split at h
 ·cases h;rfl
 ·cases h
theorem Ts{fs:List (Str×D)}{gs:List (Str×V)}(h:gs.map (·.1)=fs.map (·.1))(e:fs.lookup x=none):gs.lookup x=none:=by
 induction fs generalizing gs with
 |nil=>cases gs with
  |nil=>rfl
  |cons _ _=>cases h
 |cons p fs ih=>
  obtain⟨y,d⟩:=p;cases gs with
  |nil=>cases h
  |cons r gs=>
   obtain⟨z,v⟩:=r;obtain⟨h1,h2⟩:=List.cons.inj (show z::gs.map (·.1)=y::fs.map (·.1) from h)
   subst h1;rw[pz] at e ⊢;split at e
   ·cases e
   ·exact ih h2 e
section
variable {X:Cx} {K:PySem.W.Frag} {W:XW} {Z:St} {H:Hp} {q n:Nat} {m:GM} {g:GA} {f:GE}
theorem i7.wf{res:Rs Rv}(w:i7 (RE K) K W q Z k H Q res):i7 (RE K) K (WF (EW W Z)) q [] k H Q res:=by
 cases res with
 |ok a S=>exact w
 |ex C l S=>exact λdx k' H' u k r=>⟨C,rfl,w dx k' H' u k r⟩
theorem WS(hm:kb m n)(t:tE K W q (aA m g) Z H Q):jv K W q g Z H λxs H1=>c_ K q n m (xs++[]) H1 Q (EW W Z):=by
 obtain⟨k,U,S,res,ok,gk,e,w⟩:=t;refine tX.bd ok gk e w λvs S1 xs k1 H1 bC g1 r1 e1 w1 _=>?_
 rw[p7];exact⟨(Paired.length r1).trans (hm _ _ _ e1),k1,vs,S1,res,bC,r1,e1,w1.wf⟩
theorem AH{S:aX}{fs:List (Str×D)}{x:V}(ok:cD K k H S)(r:ai K k [x] [.ref n])(hn:S.r[n]?=some (.ins C fs)):∃a dx gs,x=.ref a/\k.A[n]?=some a/\k.F a=none/\H a=some (.ins C dx gs)/\gs.map (·.1)=fs.map (·.1)/\ai K k (gs.map (·.2)) (fs.map (·.2)):=by
 obtain⟨a,rfl,h1⟩:=r.isRef;obtain⟨h0,dx,gs,h2,h3,h4⟩:=ok.r.at' n a _ h1 hn;exact⟨a,dx,gs,rfl,h1,h0,h2,h3,h4⟩
theorem N2(hm:kb m n)(t:tE K W q (aW C x m f g) Z H Q):rM C x (c_ K q n m) [] (EW W) (tE K W q f) (jv K W q g) Z H Q:=by
 obtain⟨k,U,S,res,ok,gk,e,w⟩:=t;refine tX.bd ok gk e w λr S1 y k1 H1 bC g1 r1 e1 w1 _=>?_
 obtain⟨j,e2,e3⟩:=dB.mp e1;clear e1;cases Rv.mM e2;split at e3
 ·rename_i hi
  obtain⟨c,h1,h2⟩:=any_some hi;cases c with
  |ins C' fs=>
   obtain⟨h3,h4⟩:=CD.mp h2;cases(beq_iff_eq.mp h3);obtain⟨a,dx,gs,q1,q2,q3,q4,q5,q6⟩:=AH bC r1 h1;refine⟨a,dx,gs,q1,q4,Ts q5 (Option.isNone_iff_eq_none.mp h4),?_⟩;refine tX.bd bC g1 e3 w1 λvs S2 xs k2 H2 ee g2 r2 e2 w2 u2=>?_
   rw[p7];have r3:Paired (eY K k2) (y::xs) (.d (.ref j)::vs):=.cons (eY.up (v:=.d (.ref j)) r1 u2) r2;exact⟨(Paired.length r3).trans (hm _ _ _ e2),k2,_,S2,res,ee,r3,e2,w2.wf⟩
  |_=>cases h2
 ·cases e3
theorem WT(hm:kb m n)(t:tE K W q (oV C m g) Z H Q):vF C (c_ K q n m) [] (EW W) (jv K W q g) Z H Q:=by
 obtain⟨k,U,S,res,ok,gk,e,w⟩:=t;refine tX.bd ok gk e w λvs S1 xs k1 H1 bC g1 r1 e1 w1 _=>?_
 intro x dx hx hdx ne;rw[p7];have sm:aB H1 (upd (upd H1 dx (.own x)) x (.ins C dx [])):=(qI hdx).put (by rw[eX (Ne.symm ne)];exact hx)
 obtain⟨fx,nx⟩:=bC.fresh hx;have ee:cD K k1 _ S1:=bC.new (aB.refl _) (λa _ o z=>sm a o z) (bC.le.trans sm) λ_ _ z=>z
 obtain⟨kq,u3⟩:=ee.vt nx (c:=.ins C []) ⟨fx,dx,[],aL,rfl,.nil⟩;have h3:ai K ⟨k1.F,k1.A++[x],k1.T⟩ [.ref x] [.ref S1.r.length]:=.ref (by rw[<-bC.r.ln];exact DL) .nil
 have u4:Up q k1 H1 ⟨k1.F,k1.A++[x],k1.T⟩ (upd (upd H1 dx (.own x)) x (.ins C dx [])):=(Up.of (aB.refl _) sm).trans (u3 q);have r3:Paired (eY K ⟨k1.F,k1.A++[x],k1.T⟩) (.ref x::xs) (.d (.ref S1.r.length)::vs):=.cons h3 (uA.up r1 u4);rcases yX e1 with⟨r,S2,e2,e1⟩|⟨C',l,S2,e2,rfl⟩
 ·refine⟨(Paired.length r3).trans (hm _ _ _ e2),_,_,_,_,kq,r3,e2,λv k' H' u i5 r'=>?_⟩
  split at e1
  ·rename_i hr
   cases e1;unfold Rv.ve at hr;split at hr
   ·exact⟨(show ai K k' [v] [.az] from r').bu rfl,w1 (.ref x) k' H' (u4.trans u) i5 (ai.mono u.le h3)⟩
   ·cases hr
  ·cases e1
 ·exact⟨(Paired.length r3).trans (hm _ _ _ e2),_,_,_,_,kq,r3,e2,λex k' H' u i5 r'=>⟨C',rfl,w1 ex k' H' (u4.trans u) i5 r'⟩⟩
end
end L2
set_option autoImplicit false
namespace L2
open PySem PySem.Spec PyProof.Rows
variable{p i:Nat}{P:St->Hp->Prop}{mu:Bool}{H:Hp}{Z:St}{ts:r6}
inductive Fr where
 |nx (U:Gm) (S:aX)|bk (U:Gm) (S:aX)|ct (U:Gm) (S:aX)|rt (r:Rv) (S:aX)|ex (C:Addr) (l:Option Int) (U:Gm) (S:aX)
abbrev GS:=Gm->aX->Option Fr
section
variable (K:PySem.W.Frag) (W:XW) (q:Nat) {D:Ends} {k k':Kn} {H H':Hp} {Z:St} {U:Gm} {S:aX} {fr:Fr}
def cv(k:Kn)(H:Hp)(P:St->Hp->Prop)(U:Gm)(S:aX):Prop:=∀Z' k' H',Up q k H k' H'->cD K k' H' S->jw K k' Z' U->P Z' H'
def Done(D:Ends)(k:Kn)(H:Hp):Fr->Prop
 |.nx U S=>cv K q k H D.nx U S
 |.bk U S=>cv K q k H D.bk U S
 |.ct U S=>cv K q k H D.ct U S
 |.rt r S=>∀v k' H',Up q k H k' H'->cD K k' H' S->n8 K k' H' v r->D.rt v H'
 |.ex C l U S=>∀dx Z' k' H',Up q k H k' H'->cD K k' H' S->jw K k' Z' U->zN k'.F dx l->W C dx Z' H'
def tS(f:GS):TS:=λD Z H=>∃k U S fr,cD K k H S/\jw K k Z U/\f U S=some fr/\Done K W q D k H fr
variable {K W q}
theorem Hg{q:Nat}{o:HO}(h:p<=q)(e:tQ p o=true):tQ q o=true:=by
 match p,q with
 |0,_=>cases e
 |1,0=>omega
 |1,1=>exact e
 |1,n+2=>rfl
 |n+2,0=>omega
 |n+2,1=>omega
 |n+2,m+2=>rfl
theorem Up.weak(u:Up q k H k' H')(h:p<=q):Up p k H k' H':=⟨u.f,u.a,u.t,λa o z e=>u.h a o (Hg h z) e⟩
theorem cv.up(w:cv K q k H P U S)(u:Up q k H k' H'):cv K q k' H' P U S:=λZ' k2 H2 u2 ok g=>w Z' k2 H2 (u.trans u2) ok g
theorem cv.now(w:cv K q k H P U S)(ok:cD K k H S)(g:jw K k Z U):P Z H:=w Z k H .refl ok g
theorem Done.up(w:Done K W q D k H fr)(u:Up q k H k' H'):Done K W q D k' H' fr:=by
 cases fr with
 |nx U S=>exact cv.up w u
 |bk U S=>exact cv.up w u
 |ct U S=>exact cv.up w u
 |rt r S=>exact λv k2 H2 u2 k r=>w v k2 H2 (u.trans u2) k r
 |ex C l U S=>exact λdx Z' k2 H2 u2 k g r=>w dx Z' k2 H2 (u.trans u2) k g r
theorem Done.weak{p:Nat}(w:Done K W q D k H fr)(h:q<=p):Done K W p D k H fr:=by
 cases fr with
 |nx U S=>exact λZ' k2 H2 u=>w Z' k2 H2 (u.weak h)
 |bk U S=>exact λZ' k2 H2 u=>w Z' k2 H2 (u.weak h)
 |ct U S=>exact λZ' k2 H2 u=>w Z' k2 H2 (u.weak h)
 |rt r S=>exact λv k2 H2 u=>w v k2 H2 (u.weak h)
 |ex C l U S=>exact λdx Z' k2 H2 u=>w dx Z' k2 H2 (u.weak h)
def lL{α:Type}(U:Gm)(x:Option (Rs α))(f:α->aX->Option Fr):Option Fr:=match x with
 |none=>none
 |some (.ok a S)=>f a S
 |some (.ex C l S)=>some (.ex C l U S)
theorem tS.AN{α β:Type}{R:Rp α β}{g:Gx α}{f:α->aX->Option Fr}{Q:β->Hp->Prop}(ok:cD K k H S)(gk:jw K k Z U)(e:lL U (g U S) f=some fr)(w:Done K W q D k H fr)
  (h:∀a S1 b k1 H1,cD K k1 H1 S1->jw K k1 Z U->R k1 H1 b a->f a S1=some fr->Done K W q D k1 H1 fr->Up q k H k1 H1->Q b H1):tX R K W q g Z H Q:=by
 unfold lL at e;split at e
 ·cases e
 ·rename_i a S1 e1
  exact⟨k,U,S,_,ok,gk,e1,λb k' H' u i5 r=>h a S1 b k' H' i5 (gk.up u) r e (w.up u) u⟩
 ·rename_i C l S1 e1
  cases e;exact⟨k,U,S,_,ok,gk,e1,λdx k' H' u i5 r=>w dx Z k' H' u i5 (gk.up u) r⟩
theorem tS.bd{α β:Type}{R:Rp α β}{g:Gx α}{f:α->aX->Option Fr}{Q:β->Hp->Prop}(ok:cD K k H S)(gk:jw K k Z U)(e:lL U (g U S) f=some fr)(w:Done K W q D k H fr)
  (h:∀a S1 b k1 H1,cD K k1 H1 S1->jw K k1 Z U->R k1 H1 b a->f a S1=some fr->Done K W q D k1 H1 fr->Q b H1):tX R K W q g Z H Q:=tS.AN ok gk e w λa S1 b k1 H1 h1 h2 h3 h4 h5 _=>h a S1 b k1 H1 h1 h2 h3 h4 h5
end
def ag:GS:=λU S=>some (.nx U S)
def av(f g:GS):GS:=λU S=>(f U S).bind λr=>match r with
 |.nx U S=>g U S
 |r=>some r
def aK(g:GE):GS:=λU S=>lL U (g U S) λr S1=>some (.rt r S1)
def bq(c:GT)(f g:GS):GS:=λU S=>lL U (c U S) λb S1=>if b=true then f U S1 else g U S1
def hG(g:GE):GS:=λU S=>lL U (g U S) λ_ S1=>some (.nx U S1)
def asg(mu:Bool)(S:aX):Rv->Val×aX
 |.o c=>if mu=true then(.c S.s.length,⟨S.s++[.o c],S.r⟩) else(.d c.d,S)
 |.v x=>(x,S)
def ay(i:Nat)(mu:Bool)(g:GE):GS:=λU S=>lL U (g U S) λr S1=>if i < U.length then some (.nx (U.set i (some (asg mu S1 r).1)) (asg mu S1 r).2) else none
section
variable {X:Cx} {K:PySem.W.Frag} {W:XW} {q:Nat} {st:Stmt} {rest sa sb:List Stmt} {e c:Expr} {f g:GS} {mz:GE} {ft:GT} {pos:Pos}
theorem aJ:cA X [] (tS K W q ag):=t_.mono λD Z H t=>by
 obtain⟨k,U,S,fr,ok,gk,e,w⟩:=t;cases e;exact cv.now w ok gk
theorem ax(h1:PS X st (tS K W q f))(h2:cA X rest (tS K W q g)):cA X (st::rest) (tS K W q (av f g)):=(US h1 h2).mono λD Z H t=>by
 obtain⟨k,U,S,fr,ok,gk,e,w⟩:=t;obtain⟨r,e1,e⟩:=dB.mp e;refine⟨k,U,S,r,ok,gk,e1,?_⟩;cases r with
 |nx U1 S1=>exact λZ' k' H' u i5 g'=>⟨k',U1,S1,fr,i5,g',e,w.up u⟩
 |bk U1 S1=>cases e;exact w
 |ct U1 S1=>cases e;exact w
 |rt r S1=>cases e;exact w
 |ex C l U1 S1=>cases e;exact w
theorem dD(h:PE X e (tE K W q mz)):PS X (.Return (some e) pos) (tS K W q (aK mz)):=(Yn h).mono λD Z H t=>by
 obtain⟨k,U,S,fr,ok,gk,e,w⟩:=t;refine tS.bd ok gk e w λr S1 v k1 H1 bC g1 r1 e1 w1=>?_
 cases e1;exact w1 v k1 H1 .refl bC r1
theorem eI(hc:PT X c (tT K W q ft))(ha:cA X sa (tS K W q f))(hb:cA X sb (tS K W q g)):PS X (.If c sa sb pos) (tS K W q (bq ft f g)):=(ZZ hc ha hb).mono λD Z H t=>by
 obtain⟨k,U,S,fr,ok,gk,e,w⟩:=t;refine tS.bd ok gk e w λb S1 v k1 H1 bC g1 r1 e1 w1=>?_
 cases r1;cases b with
 |true=>exact q8 ⟨k1,U,S1,fr,bC,g1,e1,w1⟩
 |false=>exact qZ ⟨k1,U,S1,fr,bC,g1,e1,w1⟩
theorem WU(he:PE X e (tE K W q mz))(hs:swapsWith e none pos.line X.env=pure false):PS X (.Expr e pos) (tS K W q (hG mz)):=(Wk he hs).mono λD Z H t=>by
 obtain⟨k,U,S,fr,ok,gk,e,w⟩:=t;refine tS.bd ok gk e w λr S1 v k1 H1 bC g1 r1 e1 w1=>?_
 cases e1;exact cv.now w1 bC g1
theorem YQ{k:Kn}{S:aX}{x:V}{r:Rv}(ok:cD K k H S)(h:n8 K k H x r):∃k',(∀q,Up q k H k' H)/\cD K k' H (asg mu S r).2/\eY K k' x (asg mu S r).1:=by
 cases r with
 |v y=>exact qk ok h
 |o c=>
  cases mu with
  |false=>exact qk (r:=.o c) ok h
  |true=>
   obtain⟨p,rfl,hF,hi,hc⟩:=h;obtain⟨bC,u⟩:=ok.pushS hF hi hc;exact⟨_,u,bC,p,rfl,by rw[<-ok.s.ln];exact DL⟩
theorem jw.set{k:Kn}{Z:St}{U:Gm}{i:Nat}{x:V}{v:Val}(g:jw K k Z U)(r:eY K k x v)(hi:i < U.length):jw K k (Z.set i (some x)) (U.set i (some v)):=by
 refine⟨by rw[sH,sH,g.ln],λj w e=>?_⟩
 by_cases z:i=j
 ·subst z;rw[zD hi] at e;cases e;exact⟨x,zD (g.ln ▸ hi),r⟩
 ·rw[K5 z] at e ⊢;exact g.at' j w e
theorem O1{D:Ends}(t:tS K W q (ay i mu mz) D Z H):tE K W q mz Z H λv H1=>D.nx (Z.set i (some v)) H1:=by
 obtain⟨k,U,S,fr,ok,gk,e,w⟩:=t;refine tS.bd ok gk e w λr S1 v k1 H1 bC g1 r1 e1 w1=>?_
 split at e1
 ·cases e1;obtain⟨k2,u,ee,r2⟩:=YQ (mu:=mu) bC r1;exact cv.now (cv.up w1 (u q)) ee ((g1.up (u q)).set r2 (by assumption))
 ·cases e1
theorem YR{x:Str}{pos':Pos}(hN:X.N.Nodup)(hi:X.N[i]?=some x)(hx:Loc X.env.scope x)(he:PE X e (tE K W q mz))(hs:swapsWith e (some (.Name x pos')) pos.line X.env=pure false)(hf:X.fn x=true\/X.env.scope.names.lookup x=some .local):
  PS X (.Assign [.Name x pos'] e pos) (tS K W q (ay i mu mz)):=(Yr hN hi hx he hs hf).mono λD Z H t=>O1 t
def eJ(c:GT)(f:GS):Nat->GS
 |0=>λ_ _=>none
 |n+1=>λU S=>lL U (c U S) λb S1=>if b=true then(f U S1).bind λr=>match r with
   |.nx U2 S2=>eJ c f n U2 S2
   |.ct U2 S2=>eJ c f n U2 S2
   |.bk U2 S2=>some (.nx U2 S2)
   |r=>some r
  else some (.nx U S1)
theorem Vf(n:Nat)(hp:PassesOwn (model X.prog X.w) X.A X.env X.xe)(hc:PT X c (tT K W q ft))(hb:cA X sa (tS K W q f)):PS X (.While c sa [] pos) (tS K W q (eJ ft f n)):=(UT hp hc hb).mono λD Z H t=>by
 obtain⟨k,U,S,fr,ok,gk,e,w⟩:=t;refine⟨λn Z H=>∃k U S,cD K k H S/\jw K k Z U/\eJ ft f n U S=some fr/\Done K W q D k H fr,⟨n,k,U,S,ok,gk,e,w⟩,?_⟩
 clear ok gk e w;rintro n Z H ⟨k,U,S,ok,gk,e,w⟩;cases n with
 |zero=>cases e
 |succ n=>
  refine tS.bd ok gk e w λb S1 v k1 H1 bC g1 r1 e1 w1=>?_
  cases r1;cases b with
  |false=>cases e1;exact qZ (cv.now w1 bC g1)
  |true=>
   refine q8 ⟨λZ' H'=>∃k U S,cD K k H' S/\jw K k Z' U/\eJ ft f n U S=some fr/\Done K W q D k H' fr,λZ' H' h=>⟨n,sF _,h⟩,?_⟩
   obtain⟨r,e2,e3⟩:=dB.mp (show((f U S1).bind _)=some fr from e1);refine⟨k1,U,S1,r,bC,g1,e2,?_⟩;cases r with
   |nx U2 S2=>exact λZ' k' H' u i5 g'=>⟨k',U2,S2,i5,g',e3,w1.up u⟩
   |ct U2 S2=>exact λZ' k' H' u i5 g'=>⟨k',U2,S2,i5,g',e3,w1.up u⟩
   |bk U2 S2=>cases e3;exact w1
   |rt r S2=>cases e3;exact w1
   |ex C l U2 S2=>cases e3;exact w1
end
abbrev GG:=D->Gm->Option Gm
variable{gs:List GG}
def aR(i:Nat):GG:=λd U=>if i < U.length then some (U.set i (some (.d d))) else none
def oY:List GG->List D->Gm->Option Gm
 |[],[],U=>some U
 |g::gs,d::ds,U=>(g d U).bind λU1=>oY gs ds U1
 |_,_,_=>none
def dg(gs:List GG):GG:=λd U=>match d with
 |.tup ds=>oY gs ds U
 |_=>none
section
variable {K:PySem.W.Frag}
def kU(K:PySem.W.Frag)(t:TG)(g:GG):Prop:=
 ∀(k:Kn) (H:Hp) (Z:St) (U U1:Gm) (x:V) (d:D) (Q:St->Hp->Prop),aB k.F H->jw K k Z U->ai K k [x] [d]->g d U=some U1->(∀Z',jw K k Z' U1->Q Z' H)->t x Z H Q
def oO(K:PySem.W.Frag)(t:r6)(gs:List GG):Prop:=
 ∀(k:Kn) (H:Hp) (Z:St) (U U1:Gm) (xs:List V) (ds:List D) (Q:St->Hp->Prop),aB k.F H->jw K k Z U->ai K k xs ds->oY gs ds U=some U1->(∀Z',jw K k Z' U1->Q Z' H)->t xs Z H Q
theorem cM:kU K (oW i) (aR i):=by
 intro k H Z U U1 x v Q le gk r e w;unfold aR at e;split at e
 ·cases e;exact w _ (gk.set (v:=.d v) r (by assumption))
 ·cases e
theorem qj:oO K A5 []:=by
 intro k H Z U U1 xs vs Q le gk r e w;cases vs with
 |nil=>cases e;exact⟨r.iY,w Z gk⟩
 |cons _ _=>cases e
theorem gb{t:TG}{g:GG}(h1:kU K t g)(h2:oO K ts gs):oO K (uY t ts) (g::gs):=by
 intro k H Z U U1 xs vs Q le gk r e w;cases vs with
 |nil=>cases e
 |cons d ds=>
  obtain⟨U2,e1,e2⟩:=dB.mp e;obtain⟨x,xs,rfl,r1,r2⟩:=r.cK;exact⟨_,_,rfl,h1 k H Z U U2 _ _ _ le gk r1 e1 λZ1 g1=>h2 k H Z1 U2 U1 _ _ Q le g1 r2 e2 w⟩
theorem Tt:∀{gs:List GG} {vs:List D} {U U1:Gm},oY gs vs U=some U1->vs.length=gs.length:=by
 intro gs
 induction gs with
 |nil=>intro vs U U1 e;cases vs with
  |nil=>rfl
  |cons _ _=>cases e
 |cons g gs ih=>intro vs U U1 e;cases vs with
  |nil=>cases e
  |cons v vs=>obtain⟨U2,_,e2⟩:=dB.mp e;exact congrArg (·+1) (ih e2)
theorem ql{n:Nat}(h:oO K ts gs)(hn:n=gs.length):kU K (wR K n ts) (dg gs):=by
 intro k H Z U U1 x d Q le gk r e w;cases d with
 |tup es=>
  obtain⟨a,ws,rfl,sq,rp⟩:=r.isTup;exact⟨a,ws,rfl,le.xX sq,by rw[hn,<-Tt e,rp.length],h k H Z U U1 _ _ Q le gk rp e w⟩
 |_=>cases e
end
def gD(g:GE):Gx D:=λU S=>bd (g U S) λr S1=>(oq S1 (mS r)).map λp=>.ok p.1 p.2
abbrev RD(K:PySem.W.Frag):Rp D V:=λk _ x d=>ai K k [x] [d]
section
variable {X:Cx} {K:PySem.W.Frag} {W:XW} {q:Nat} {g:GE} {gg:GG} {t:TG} {e tg:Expr} {pos:Pos}
theorem KS{Q:VK}(t:tX (RD K) K W q (gD g) Z H Q):tE K W q g Z H Q:=by
 obtain⟨k,U,S,res,ok,gk,e,w⟩:=t;refine tX.bd ok gk e w λr S1 x k1 H1 bC g1 r1 e1 w1 _=>?_
 obtain⟨p,e2,rfl⟩:=fR.mp e1;obtain⟨k2,u2,ee,r2⟩:=qk bC r1;obtain⟨k3,u3,kq,r3⟩:=DM ee r2 e2;exact((w1.up (u2 q)).up (u3 q)).now kq r3
end
end L2
namespace L2
open PySem PySem.Spec PyProof.Rows
variable{N:List Str}{n p:Nat}{m:GS}
def aX.cut(S:aX)(b:Nat):aX:=⟨S.s.take b,S.r⟩
def AM:Cell->Option Rv
 |.o x=>some (.o x)
 |.z x=>some (.v (.d x.d))
 |_=>none
def back(b:Nat)(S:aX):Rv->Option Rv
 |.v (.c n)=>if n < b then some (.v (.c n)) else(S.s[n]?).bind AM
 |r=>some r
def leave(b:Nat):Fr->Option (Rs Rv)
 |.nx _ S=>some (.ok (.v (.d .az)) (S.cut b))
 |.rt r S=>(back b S r).map λr'=>.ok r' (S.cut b)
 |.ex C l _ S=>some (.ex C l (S.cut b))
 |_=>none
def runM(p n:Nat)(m:GS):GM:=λvs S=>if vs.length=p then(m (vs.map some++List.replicate (n - vs.length) none) S).bind (leave S.s.length) else none
section
variable {K:PySem.W.Frag} {k k':Kn} {H H':Hp} {S:aX} {q b:Nat}
theorem WV{v:V}{r r':Rv}(ok:cD K k H S)(h:n8 K k H v r)(e:back b S r=some r'):n8 K ⟨k.F,k.A,k.T.take b⟩ H v r':=by
 have go:k.le ⟨k.F,k.A,k.T.take b⟩:=⟨aB.refl _,lY _⟩;cases r with
 |o c=>
  cases e;obtain⟨a,e1,e2,e3,e4⟩:=h;exact⟨a,e1,e2,λm=>e3 ((pj.mp m).elim (E_ _) λm=>nY _ (List.mem_of_mem_take m)),e4.keep go λ_ z=>z⟩
 |v x=>
  cases x with
  |d y=>cases e;exact ai.mono go h
  |c n=>
   obtain⟨a,e1,e2⟩:=h;unfold back at e;dsimp only at e;split at e
   ·rename_i hn
    cases e;exact⟨a,e1,by rw[List.getElem?_take,if_pos hn];exact e2⟩
   ·rename_i hn
    obtain⟨c,h1,h2⟩:=dB.mp e;have h3:=ok.s.at' n a c e2 h1;cases c with
    |ins _ _=>cases h2
    |z x=>cases h2;rw[e1];exact ai.mono go h3.2
    |o x=>
     cases h2;obtain⟨n1,n2,n3⟩:=p9.mp ok.nd;refine⟨a,e1,h3.1,λm=>?_,h3.2.keep go λ_ z=>z⟩
     rcases pj.mp m with m|m
     ·exact n3 a m a (rR e2) rfl
     ·obtain⟨j,hj⟩:=yh.mp m;rw[List.getElem?_take] at hj;split at hj
      ·rename_i EG
       have:=Na n2 hj e2;omega
      ·cases hj
theorem Tu{xs:List V}{vs:List Val}(h:Paired (eY K k) xs vs)(hn:N.length=n):jw K k (start N xs) (vs.map some++List.replicate (n - vs.length) none):=by
 have hl:=Paired.length h;refine⟨by unfold start;simp[hl,hn],λi v e=>?_⟩
 by_cases hi:i < vs.length
 ·rw[rQ (by rw[cz];exact hi),jx] at e
  obtain⟨w,e1,e2⟩:=fR.mp e;cases e2;obtain⟨x,h1,h2⟩:=Dl i h e1;refine⟨x,?_,h2⟩;unfold start;rw[rQ (by rw[cz,hl];exact hi),jx,h1]
  rfl
 ·rw[qv (by rw[cz];omega),K7] at e
  split at e <;> cases e
end
section
variable {P:Program} {w:World} {K:PySem.W.Frag} {mg:Str->Option Value} {base:Heap}
theorem d_{x qual:Str}{st:Stmt}{f:Addr}{fd:FuncData}{ps:List Str}{k q:Nat}(F:dh K x qual st f fd)(S:aw N ps (dk st))(hp:ps.length=p)(hn:N.length=n)
  (qR:∀(ck:Value) (A:Around) (outer:List Env) (s:Shared) (H:Hp) (E:XK),cL k (A.deeper (envOfC qual (dk st) s.heap.objs.size f ck))->cA (nB (cO P w) P w K mg base N qual (dk st) f ck A outer s H E) (Aq st) (tS K (WF E) q m)) :
  aQ P w K mg base (cO P w) (k+1) f fd ps (c_ K q p (runM p n m)):=by
 obtain⟨oc,od,kV,doc,pm,an,ck,ct,sD,rfl,lk,pS⟩:=F.ex;refine Z9 lk pS S (λvs H Q E h=>h.1.trans hp.symm) λA outer s H xs Q E hr u7=>⟨_,qR ck A outer s H E hr,?_⟩
 obtain⟨hl,k,vs,S,res,ok,rp,e,w⟩:=u7;unfold runM at e;split at e
 ·obtain⟨fr,e1,e2⟩:=dB.mp e;refine⟨k,_,S,fr,ok,Tu rp hn,e1,?_⟩;have lb:k.T.length<=S.s.length:=Cy ok.s.ln;cases fr with
  |nx U S'=>
   cases e2;exact λZ' k' H' u i5 g'=>w .az _ H' (u.take lb) (i5.take _) (show ai K _ [.az] [.az] from .flat rfl .nil)
  |bk U S'=>cases e2
  |ct U S'=>cases e2
  |rt r S'=>
   obtain⟨r',e3,rfl⟩:=fR.mp e2;exact λv k' H' u i5 r1=>w v _ H' (u.take lb) (i5.take _) (WV i5 r1 e3)
  |ex C l U S'=>
   cases e2;exact λdx Z' k' H' u i5 g' el=>w dx _ H' (u.take lb) (i5.take _) el
 ·cases e
theorem Dm:kb (runM p n m) p:=λvs S res e=>by
 unfold runM at e;split at e
 ·assumption
 ·cases e
end
end L2
namespace L2
open PySem PySem.Spec PyProof.Rows
section
variable {prog:Program} {w:World} {A:Around} {E:Value->Shared->Prop} {h:Heap} {g:Array GenState} {d:Drawn} {t:Nat} {os:OsState}
variable {nm q:Str} {C N:Addr} {bs bm wG:List Value} {hdct:Bool} {sn:List Str} {sub:List Value} {ab:Bool} {col:Option Bool} {dd:Option Addr} {k0 k1 k2 k3 k5:Option Value} {B Bn newId Qu mF Qn:String} {MS:List Value}
theorem Cm(Fn:ExcBaseFacts Bn newId Qn MS)(Ew:wG.contains (.type Bn)=true)(F:ExcBaseFacts B Qu mF wG)(T:OwnTail h wG bm){mN:Str->Option Value}{rest:List Value}{Q:Fin->Shared->Prop}
  (hC:h.get? C=some (excClassObj nm q C N bs bm hdct sn sub ab col dd k0 k1 k2 k3 k5 newId)) (hn:h.Ns N mN) (qW:rest.length<=sizeLine)
  (hq:∀i,i=(mN "__init__").getD (.builtin mF)->wpAny (model prog w) A (bindSpecial i (.ref (h.objs.size+1))) (λp s'=>wpAny (model prog w) A (call p.1 (p.2++rest)) (λr rK=>r=.none/\Q (.done (.ret (.ref (h.objs.size+1)))) rK) E s') E ⟨((h.push { cls:=.type "tuple",data:=.seq rest.toArray}).push { cls:=.ref C,data:=.fields #[.ref h.objs.size,.none,.none,.none,.bool false,.none]}),g,d,t,os⟩) :
  wpAny (model prog w) A (Builtin.«type.__call__» ⟨.ref C::rest,[]⟩) Q E ⟨h,g,d,t,os⟩:=by
 repeat (first|with_reducible refine wpAny_loadPart_at hC ?_|with_reducible refine wpAny_madeBy_exc hC ?_|wp_step)
 refine codeAny_call_builtin_code (Code.quiet_builtin _ Fn.quiet) (wpAny_check_new_subU Fn Ew T hC (codeAny_exc_new_subU Fn Ew F T hC ?_ qW));show wpAny _ _ _ _ _ _;have st:∀b o,h.get? b=some o->((h.push { cls:=.type "tuple",data:=.seq rest.toArray}).push { cls:=.ref C,data:=.fields #[.ref h.objs.size,.none,.none,.none,.bool false,.none]}).get? b=some o:=λb o e=>fg _ (fg _ e)
 have hC₁:=st _ _ hC;have wV:((h.push { cls:=.type "tuple",data:=.seq rest.toArray}).push { cls:=.ref C,data:=.fields #[.ref h.objs.size,.none,.none,.none,.bool false,.none]}).get? (h.objs.size+1)=some { cls:=.ref C,data:=.fields #[.ref h.objs.size,.none,.none,.none,.bool false,.none]}:=by heap_get
 have hcC:(Value.ref C::bm).contains (.ref C)=true:=by simp
 unfold isInstance
 repeat (first|with_reducible refine wpAny_loadPart_at wV ?_|(with_reducible refine wpAny_isSubtype_exc hC₁ ?_;rw[hcC])|wp_step)
 show wpAny _ _ (typeLookup (.ref C) _) _ _ _;refine wpAny_typeLookup_tail hC₁ (hn.keeps st) (T.keeps st) F.mroIs F.init.lookup ?_;cases hv:mN "__init__" with
 |none=>
  refine wpAny_holding (wpAny_bind (wpAny_mono (hq _ (by rw[hv];rfl)) (λp s' z=>wpAny_bind (wpAny_mono z (λr rK y=>?_) λ_ _ y=>y)) λ_ _ y=>y))
  obtain⟨rfl,y⟩:=y
  wp_walk
  exact y
 |some v=>
  refine wpAny_holding (wpAny_bind (wpAny_mono (hq _ (by rw[hv];rfl)) (λp s' z=>wpAny_bind (wpAny_mono z (λr rK y=>?_) λ_ _ y=>y)) λ_ _ y=>y))
  obtain⟨rfl,y⟩:=y
  wp_walk
  exact y
theorem Vg(Fn:ExcBaseFacts Bn newId Qn MS)(Ew:wG.contains (.type Bn)=true)(F:ExcBaseFacts B Qu mF wG)(T:OwnTail h wG bm){mN:Str->Option Value}{rest:List Value}{Q:Value->Shared->Prop}
  (hC:h.get? C=some (excClassObj nm q C N bs bm hdct sn sub ab col dd k0 k1 k2 k3 k5 newId)) (hn:h.Ns N mN) (qW:rest.length<=sizeLine)
  (hq:∀i,i=(mN "__init__").getD (.builtin mF)->wpAny (model prog w) (A.under (.builtin "type.__call__" ⟨.ref C::rest,[]⟩)) (bindSpecial i (.ref (h.objs.size+1))) (λp s'=>wpAny (model prog w) (A.under (.builtin "type.__call__" ⟨.ref C::rest,[]⟩)) (call p.1 (p.2++rest)) (λr rK=>r=.none/\Q (.ref (h.objs.size+1)) rK) E s') E ⟨((h.push { cls:=.type "tuple",data:=.seq rest.toArray}).push { cls:=.ref C,data:=.fields #[.ref h.objs.size,.none,.none,.none,.bool false,.none]}),g,d,t,os⟩) :
  wpAny (model prog w) A (call (.ref C) rest) Q E ⟨h,g,d,t,os⟩:=by
 have f1:=tc_lookup;have f2:=tc_bind (.ref C);have hT:(⟨h,g,d,t,os⟩:Shared).TypeIs (.ref C) "type":=⟨_,hC,rfl⟩;refine wpAny_call (codeAny_of_tree (show wpAny _ _ (callAny (.ref C) _) _ _ _ from ?_))
 repeat (any_goals (first|assumption|with_reducible refine wpAny_loadPart_at hC ?_|wp_step))
 exact⟨rfl,codeAny_call_builtin_at (Code.quiet_builtin _ (by decide +kernel)) entry_typeCall (wpAny_check_type_call_sub hC (Cm Fn Ew F T hC hn qW λi e=>hq i e))⟩
end
end L2
namespace L2
open PySem PySem.Spec PySem.W PySem.Calls PyProof.Rows
def qP(C t:Addr)(d:Option Addr):Obj:={ cls:=.ref C,dict:=d,data:=.fields #[.ref t,.none,.none,.none,.bool false,.none]}
end L2
namespace L2
open PySem PySem.Spec PySem.W PySem.Calls PyProof.Rows
section
variable {prog:Program} {w:World} {A:Around} {E:Value->Shared->Prop} {h:Heap} {g:Array GenState} {d:Drawn} {tt:Nat} {os:OsState} {x t:Addr}
variable {nm q:Str} {C N:Addr} {bs bm wG:List Value} {hdct:Bool} {sn:List Str} {sub:List Value} {ab:Bool} {col:Option Bool} {dd:Option Addr} {k0 k1 k2 k3 k5:Option Value} {newId:String}
theorem Ct{u:Value}{Q:Value->Shared->Prop}(T:OwnTail h [.type "ValueError",.type "Exception",.type "BaseException",.type "object"] bm)(hC:h.get? C=some (excClassObj nm q C N bs bm hdct sn sub ab col dd k0 k1 k2 k3 k5 newId))(hx:h.get? x=some (qP C t none))
  (hq:∀h',h'.get? x=some (qP C h.objs.size none)->(∀b o,b≠x->h.get? b=some o->h'.get? b=some o)->Q .none ⟨h',g,d,tt,os⟩) :
  wpAny (model prog w) A (call (.builtin "ValueError.__init__") [.ref x,u]) Q E ⟨h,g,d,tt,os⟩:=by
 have FB:=F.excBase_ValueError;have sx:h.get? x=some { cls:=.ref C,data:=.fields #[.ref t,.none,.none,.none,.bool false,.none]}:=hx;refine wpAny_call (codeAny_call_builtin FB.init.plain FB.initEntry (wpAny_check_init_subU FB T hC sx rfl ?_))
 wp_walk
 refine hq _ ?_ λb o n e=>?_
 ·rw[rS _ (fg _ sx) rfl];rfl
 ·rw[qw _ _ (Ne.symm n)];exact fg _ e
end
end L2
namespace L2
open PySem PySem.Spec PySem.W PySem.Calls PyProof.Rows
abbrev qm:List Value:=[.type "ValueError",.type "Exception",.type "BaseException",.type "object"]
def lH(K:Frag)(C:Addr)(bm:List Value)(EL:Option Value):Prop:=∃nm q N bs sn sub ab col dd k0 k1 k2 k3 k5 on BR es ep B_,
 K.lookup C=some (excClassObj nm q C N bs bm true sn sub ab col dd k0 k1 k2 k3 k5 "ValueError.__new__")/\K.lookup N=some ⟨on,BR,.dict es ep,B_⟩/\StrKeys es/\nsFind es "__init__"=EL
section
variable {K:Frag} {C C' B0 a:Addr} {bm bm':List Value} {i i':Option Value} {l:Option Int}
end
end L2
namespace L2
open PySem PySem.Spec PySem.W PySem.Calls PyProof.Rows
section
variable {X:Cx} {ae:List (Addr×Obj)} {Z:St} {H:Hp} {s:Shared} {C B0:Addr} {R:Value->Shared->Prop}
theorem Vh{u:Value}(G:lH X.K C (.ref B0::qm) none)(G0:lH X.K B0 qm none)(I:Inv X ae Z H s)(h:∀h' t,(∀b o,s.heap.get? b=some o->h'.get? b=some o)->h'.get? (s.heap.objs.size+1)=some (qP C t none)->R (.ref (s.heap.objs.size+1)) { s with heap:=h'}):
  wpAny (model X.prog X.w) X.A (call (.ref C) [u]) R X.xe s:=by
 obtain⟨hh,g,d,tt,os⟩:=s;have KX:X.K.In hh:=I.lu;obtain⟨nm,q,N,bs,sn,sub,ab,col,dd,k0,k1,k2,k3,k5,on,BR,es,ep,B_,g1,g2,g3,g4⟩:=G;obtain⟨nm',q',N',bs',sn',sub',ab',col',dd',k0',k1',k2',k3',k5',on',odn',tq,oo,sln',g1',g2',g3',g4'⟩:=G0;have FB:=F.excBase_ValueError;have T:OwnTail hh qm (.ref B0::qm):=.own (KX _ _ g1') (mA:=λn=>nsFind tq n) ⟨_,_,_,KX _ _ g2',rfl,g3',λ_=>rfl⟩ g4' .base
 refine Vg FB rfl FB T (KX _ _ g1) (mN:=λn=>nsFind es n) ⟨_,_,_,KX _ _ g2,rfl,g3,λ_=>rfl⟩ (by rw[sizeLine_eq];exact(by decide:1<=16777216)) λi ei=>?_
 rw[g4] at ei;subst ei;have st:∀b o,hh.get? b=some o->((hh.push { cls:=.type "tuple",data:=.seq [u].toArray}).push { cls:=.ref C,data:=.fields #[.ref hh.objs.size,.none,.none,.none,.bool false,.none]}).get? b=some o:=λb o e=>fg _ (fg _ e)
 have wV:((hh.push { cls:=.type "tuple",data:=.seq [u].toArray}).push { cls:=.ref C,data:=.fields #[.ref hh.objs.size,.none,.none,.none,.bool false,.none]}).get? (hh.objs.size+1)=some (qP C hh.objs.size none):=by unfold qP;heap_get
 refine wpAny_of_eq (FB.init.bind _) (Ct (T.keeps st) (st _ _ (KX _ _ g1)) wV λh' e1 e2=>?_)
 exact⟨rfl,h h' _ (λb o z=>e2 b o (jl (yg (eH z))) (st b o z)) e1⟩
end
end L2
namespace L2
open PySem PySem.Spec PySem.W PySem.Calls PyProof.Rows
structure Yng (X:Cx) (ae:List (Addr×Obj)) (n:Nat):Prop where
 s:X.s₀.heap.objs.size<=n
 l:X.env.locals < n
 c:∀x c,X.env.cells.lookup x=some c->c < n
 p:∀q∈X.pn++ae,q.1 < n
section
variable {X:Cx} {ae rF:List (Addr×Obj)} {pn:List (Addr×Obj)} {Z:St} {H:Hp} {s:Shared} {E:Value->Shared->Prop} {n:Nat} {ch:List Addr} {h':Heap}
end
end L2
namespace L2
open PySem PySem.Spec PyProof.Rows
variable{P:Program}{w:World}{K:PySem.W.Frag}{tg l:Expr}{X:Cx}{ta:TA}{p:Pos}{Q:Option Value->Shared->Prop}{n t' x1:Nat}{ob:Obj}{L:List Addr}{elts:List Expr}{it:Addr}
def qA(K:PySem.W.Frag)(a:Addr)(n:Nat):It:=
 ⟨λi H=>i < n/\∃xs,dY K H a xs/\xs.length=n,λi H x H'=>H'=H/\∀xs,dY K H a xs->xs[n - 1 - i]?=some x,λi H=>n<=i⟩
theorem Vi(a it:Addr)(n:Nat):Turn P w K tg (qA K a n) [it] it (λi h=>i<=n/\h.IsRevIter it a ((n:Int) - 1 - i)) where
 mem:=by simp
 obj:=λi h st b hb=>by
  have e:b=it:=by simpa using hb
  subst e;obtain⟨_,o,e,c,d⟩:=st;exact⟨o,e,λv z=>by rw[d] at z;cases z⟩
 keep:=λi h h' st k=>⟨st.1,st.2.at λo e=>k it (by simp) o e⟩
 item:=by
  intro X hP hw hK hc i ae s Z H E I hf st hg;subst hP hw hK;obtain⟨hi,xs,hq,hx⟩:=hg;obtain⟨aG,rv,p,hz⟩:=I.list hq;have sx:xs[n - 1 - i]?=some xs[n - 1 - i]:=jR (by omega)
  obtain⟨u,hu,ru⟩:=rv.get sx;obtain⟨f0,f1,f2,f3,f4,f5⟩:=hf it (by simp)
  have qr:s.heap.IsRevIter it a (((n - 1 - i:Nat):Int)):=by
   have:=st.2
   rwa [show((n:Int) - 1 - i)=((n - 1 - i:Nat):Int) by omega] at this
  refine wpAny_pyNext_rev_item qr p.isList (x:=u) (by simpa using hu) λh' lG sb=>?_
  have I1:Inv X ae Z H { s with heap:=h'}:=I.turned (t':=s.toks) (λb o hb e=>(sb.2 b hb).trans e) f0 f1 f3 f4 f5
  obtain⟨o,e,c,d⟩:=id lG;refine⟨u,rfl,y7 (s:={ s with heap:=h'}) e c d (by decide) ⟨_,H,I1,ru,⟨rfl,λys hy=>by rw[I.ly hy hq];exact sx⟩,⟨by omega,?_⟩,λb hb=>(hf b hb).1⟩⟩
  rw[show((n:Int) - 1 - ((i+1:Nat):Int))=((n - 1 - i:Nat):Int) - 1 by omega]
  exact lG
 done:=by
  intro X hP hw hK hc i ae s Z H E I hf st hg;subst hP hw hK;obtain⟨f0,f1,f2,f3,f4,f5⟩:=hf it (by simp)
  have hg:n<=i:=hg;have qr:s.heap.IsRevIter it a (-1):=by
   have:=st.2
   rwa [show((n:Int) - 1 - i) = -1 by have:=st.1;omega] at this
  exact wpAny_pyNext_rev_end (I.ok.hd hc) qr λh' eb=>⟨rfl,I.turned (t':=s.toks) (λb o hb e=>eb b o hb e) f0 f1 f3 f4 f5⟩
 self:=λ_ _ _ _ _ st h=>wpAny_pyIter_revIter st.2 h
def Bt(K:PySem.W.Frag)(ta:TA):TI:=λZ H R=>ta Z H λvs H1=>∃a xs,vs=[.ref a]/\dY K H1 a xs/\R (qA K a xs.length) H1
theorem YS{pos:Pos}(hg:Gl X "reversed")(hm:X.mg "reversed"=none)(ha:PA X [l] ta)(hs:starEach [l] X.env=[(false,eval l X.env)]:=by rfl):PI X tg (.Call (.Name "reversed" p) [l] [] pos) (Bt X.K ta):=by
 intro ae s Z H R I h;refine Call_ (wq I hg hm boot_reversed (PyProof.Rows.callWith_type1 (bI (ha pos ae s Z H _ I h) λus s1 hh=>?_) hs rfl))
 obtain⟨vs,H1,I1,r1,q1⟩:=hh;obtain⟨a,xs,e,hq,q⟩:=q1;subst e;cases r1 with
 |cons r rr=>
  cases rr;cases r;obtain⟨aG,rv,pl,hz⟩:=I1.list hq;have hl:=rv.length;refine call_reversed_list pl.isList ?_;have st:(s1.heap.push (revObj a ((aG.toArray.size:Int) - 1))).IsRevIter s1.heap.objs.size a ((aG.toArray.size:Int) - 1):=⟨_,kA _ rfl,rfl,rfl⟩;refine wpAny_pyIter_revIter st ?_;refine⟨s1.heap.objs.size,[s1.heap.objs.size],_,_,H1,rfl,I1.kept (t':=s1.toks) λb o e=>fg _ e,Vi a _ xs.length,⟨mU _,?_⟩,λb hb=>?_,q⟩
  ·rw[show((xs.length:Int) - 1 - ((0:Nat):Int))=(aG.toArray.size:Int) - 1 by rw[fE,hl];simp]
   exact st
  ·have e:b=s1.heap.objs.size:=by simpa using hb
   subst e;exact I1.mC (cI _) (I1.bF.fresh (cI _))
section
variable {X:Cx} {ae:List (Addr×Obj)} {Z:St} {H:Hp} {A:Around} {E:Value->Shared->Prop} {s:Shared} {d it:Addr} {es:List (TK×V×V)} {ep i:Nat}
theorem Nd{Q:Value->Shared->Prop}(I:Inv X ae Z H s)(hd:H d=some (.dG es ep))
  (hQ:Q (.ref s.heap.objs.size) { s with heap:=s.heap.push { cls:=.type "dict_keyiterator",data:=.fields #[.ref d,.int 0 0,.int es.length 0,.int ep 0]}}):wpAny (model X.prog X.w) A (pyIter (.ref d)) Q E s:=by
 obtain⟨_,z,ob,xs,g1,g5,g2,g3,g4⟩:=(show bx X.prog X.w H s.heap d (.dG es ep) from I.bF d _ hd);have hT:s.TypeIs (.ref d) "dict":=⟨ob,g1,g5.1⟩;have hl:xs.size=es.length:=by have:=Paired.length g3;simpa using this.symm
 refine wpAny_pyIter_slot hT F.slot_dict_iter (wpAny_call_entry F.slot_dict_iter hT F.entry_dict_iter ?_ (F.args_dict_iter_1 _));unfold Builtin.«dict.__iter__»;refine wpAny_bind ?_;unfold Builtin.Dict.dictSlotNone;refine wpAny_bind (wpAny_notOrdered_dict hT (show wpAny _ _ (pure (Value.ref d)) _ _ s from wpAny_pure (show wpAny _ _ (Builtin.Dict.showsAll d >>= _) _ _ s from ?_)));unfold Builtin.Dict.showsAll;rw[if_neg (by rw[z];exact nM)]
 refine wpAny_bind (wpAny_pure (wpAny_bind (wpAny_dictEntries g1 g2 (wpAny_bind (wpAny_dictEpoch g1 g2 ?_)))));refine wpAny_bind (wpAny_newObj_type (wpAny_pure ⟨_,rfl,"dict_keyiterator",_,⟨_,kA _ rfl,rfl⟩,F.slot_dict_keyiterator_next.lookup,?_⟩));simpa[rawInt,hl] using hQ
theorem Md{xs:Array DictEntry}(g1:s.heap.get? d=some ob)(g2:ob.data=.dict xs ep)(hl:xs.size=n)(hit:s.heap.IsKeyIter it d i n ep)(lt':i < xs.size)
  (hQ:∀h',h'.IsKeyIter it d (i+1) n ep->Heap.SameBut it s.heap h'->Q (some xs[i].key) { s with heap:=h'}):wpAny (model P w) A (pyNext (.ref it)) Q E s:=by
 obtain⟨o,k1,k2,k3⟩:=id hit;unfold pyNext;refine wpAny_bind (wpAny_attempt (wpAny_callSpecial?_slot (name:=Str.ofString "__next__") hit.typeIs F.slot_dict_keyiterator_next (wpAny_call_entry F.slot_dict_keyiterator_next hit.typeIs F.entry_dict_keyiterator_next (wpAny_bind (wpAny_pure (wpAny_bind (wpAny_bind ?_)))) (F.args_dict_keyiterator_next_1 _))))
 (first|refine wpAny_bind (wpAny_typeNameOfWhole_keyiter hit.typeIs (wpAny_pure ?_))|refine wpAny_bind (wpAny_typeNameOf_keyiter hit.typeIs (wpAny_pure ?_)));refine wpAny_bind (wpAny_fieldsOf k1 k3 ?_)
 have xF:Builtin.Dict_items.ownsTuple "dict_keyiterator"=false:=by decide
 simp only[xF,qx,if_false]
 (show wpAny _ _ (if(Value.ref d == Value.none)=true then _ else _) _ _ s);rw[if_neg (show ¬((Value.ref d == Value.none)=true) from nM)]
 refine wpAny_bind (wpAny_pure (wpAny_bind (wpAny_dictEntries g1 g2 ?_)));rw[if_neg (by rw[hl];simp)]
 refine wpAny_bind (wpAny_pure (wpAny_bind (wpAny_dictEpoch g1 g2 ?_)));rw[if_neg (by simp)]
 refine wpAny_pure ?_;simp only[show ¬((i:Int) < 0) from by omega,if_false,K',rT lt']
 refine wpAny_bind ?_
 (first|refine wpAny_bind (wpAny_typeNameOfWhole_keyiter hit.typeIs (wpAny_pure ?_))|refine wpAny_bind (wpAny_typeNameOf_keyiter hit.typeIs (wpAny_pure ?_)));refine wpAny_bind (wpAny_isOneOf_keyiter hit.typeIs ?_)
 (show wpAny _ _ (setField (.ref it) 1 (rawInt ((i:Int)+1)) >>= _) _ _ s);refine wpAny_bind (wpAny_setField k1 k3 (by simp) ?_)
 have Be:(s.heap.update it (Obj.mapFields (·.setIfInBounds 1 (rawInt ((i:Int)+1))))).IsKeyIter it d (i+1) n ep:=
  ⟨_,rS _ k1 (Obj.isFreed_of_fields (Obj.data_mapFields k3 _)),(Obj.cls_mapFields ..).trans k2,by rw[Obj.data_mapFields k3];simp[rawInt]⟩
 refine wpAny_bind (wpAny_holding (wpAny_bind (wpAny_isOneOf_keyiter (s:={ s with heap:=s.heap.update it (Obj.mapFields (·.setIfInBounds 1 (rawInt ((i:Int)+1))))}) Be.typeIs ?_)))
 show wpAny _ _ (pure xs[i].key) _ _ _;exact wpAny_pure (wpAny_pure ⟨_,rfl,wpAny_pure (hQ _ Be (Heap.SameBut.update ..))⟩)
theorem So(I:Inv X ae Z H s)(hd:H d=some (.dG es ep))(hit:s.heap.IsKeyIter it d i es.length ep){e:TK×V×V}(hx:es[i]?=some e)
  (hQ:∀key h',RelV e.2.1 key->h'.IsKeyIter it d (i+1) es.length ep->Heap.SameBut it s.heap h'->Q (some key) { s with heap:=h'}):wpAny (model X.prog X.w) A (pyNext (.ref it)) Q E s:=by
 obtain⟨_,z,ob,xs,g1,g5,g2,g3,g4⟩:=(show bx X.prog X.w H s.heap d (.dG es ep) from I.bF d _ hd);have hl:xs.size=es.length:=by have:=Paired.length g3;simpa using this.symm
 obtain⟨x,x1,x2⟩:=Ad i g3 hx;have lt':i < xs.size:=by
  have:=(jQ.mp hx).1;omega
 have ex:xs[i]=x:=by
  have:xs[i]?=some x:=by rw[<-ur];exact x1
  rw[rT lt'] at this;exact Option.some.inj this
 exact Md g1 g2 hl hit lt' λh' zv sb=>hQ _ h' (by rw[ex];exact x2.2.1) zv sb
theorem MA{xs:Array DictEntry}(hh:A.handled=none)(g1:s.heap.get? d=some ob)(g2:ob.data=.dict xs ep)(hl:xs.size=n)(hit:s.heap.IsKeyIter it d i n ep)(hx:n<=i)
  (hQ:∀h',Heap.ExtBut it s.heap h'->Q none { s with heap:=h'}):wpAny (model P w) A (pyNext (.ref it)) Q E s:=by
 obtain⟨o,k1,k2,k3⟩:=id hit;unfold pyNext;refine wpAny_bind (wpAny_attempt (wpAny_callSpecial?_slot (name:=Str.ofString "__next__") hit.typeIs F.slot_dict_keyiterator_next (wpAny_call_entry F.slot_dict_keyiterator_next hit.typeIs F.entry_dict_keyiterator_next (wpAny_bind (wpAny_pure (wpAny_bind (wpAny_bind ?_)))) (F.args_dict_keyiterator_next_1 _))))
 (first|refine wpAny_bind (wpAny_typeNameOfWhole_keyiter hit.typeIs (wpAny_pure ?_))|refine wpAny_bind (wpAny_typeNameOf_keyiter hit.typeIs (wpAny_pure ?_)));refine wpAny_bind (wpAny_fieldsOf k1 k3 ?_)
 have xF:Builtin.Dict_items.ownsTuple "dict_keyiterator"=false:=by decide
 simp only[xF,qx,if_false]
 (show wpAny _ _ (if(Value.ref d == Value.none)=true then _ else _) _ _ s);rw[if_neg (show ¬((Value.ref d == Value.none)=true) from nM)]
 refine wpAny_bind (wpAny_pure (wpAny_bind (wpAny_dictEntries g1 g2 ?_)));rw[if_neg (by rw[hl];simp)]
 refine wpAny_bind (wpAny_pure (wpAny_bind (wpAny_dictEpoch g1 g2 ?_)));rw[if_neg (by simp)]
 refine wpAny_pure ?_;have hge:xs.size<=i:=by omega
 simp only[show ¬((i:Int) < 0) from by omega,if_false,K',Array.getElem?_eq_none hge]
 refine wpAny_bind ?_
 (first|refine wpAny_bind (wpAny_typeNameOfWhole_keyiter hit.typeIs (wpAny_pure ?_))|refine wpAny_bind (wpAny_typeNameOf_keyiter hit.typeIs (wpAny_pure ?_)));(show wpAny _ _ (setField (.ref it) 0 .none >>= _) _ _ s);refine wpAny_bind (wpAny_setField k1 k3 (by simp) ?_)
 (show wpAny _ _ (newExc (.type "StopIteration") [] >>= _) _ _ _);refine wpAny_bind ?_
 simp only[newExc,newTuple];refine wpAny_bind (wpAny_newObj_type (wpAny_bind (m:=firstArgMember _ _) (wpAny_of_eq (a:=Value.none) (by first|rfl|(simp only[firstArgMember];rfl)) (wpAny_newObj_type ?_ (by size_fits)))) (by size_fits))
 simp only[raiseNew];refine wpAny_bind (wpAny_handled ?_);rw[show A.in1.handled=none from hh]
 (refine wpAny_bind (wpAny_pure (wpAny_throw ?_)));refine wpAny_bind (wpAny_isInstance (T:="StopIteration") (b:=true) ⟨_,kA _ rfl,rfl⟩ isSubtype_stop ?_)
 exact wpAny_pure (hQ _ (((Heap.SameBut.update ..).extBut.push _).push _))
theorem Tv(hh:A.handled=none)(I:Inv X ae Z H s)(hd:H d=some (.dG es ep))(hit:s.heap.IsKeyIter it d i es.length ep)(hx:es.length<=i)
  (hQ:∀h',Heap.ExtBut it s.heap h'->Q none { s with heap:=h'}):wpAny (model X.prog X.w) A (pyNext (.ref it)) Q E s:=by
 obtain⟨_,z,ob,xs,g1,g5,g2,g3,g4⟩:=(show bx X.prog X.w H s.heap d (.dG es ep) from I.bF d _ hd);exact MA hh g1 g2 (by have:=Paired.length g3;simpa using this.symm) hit hx hQ
end
def Ff(a:Addr)(n ep:Nat):It:=
 ⟨λi H=>∃es,H a=some (.dG es ep)/\es.length=n/\i < n,λi H x H'=>H'=H/\∀es,H a=some (.dG es ep)->∃e,es[i]?=some e/\e.2.1=x,λi H=>∃es,H a=some (.dG es ep)/\es.length=n/\n<=i⟩
theorem Tw(a it:Addr)(n ep:Nat):Turn P w K tg (Ff a n ep) [it] it (λi h=>h.IsKeyIter it a i n ep) where
 mem:=by simp
 obj:=λi h st b hb=>by
  have e:b=it:=by simpa using hb
  subst e;obtain⟨o,e,c,d⟩:=st;exact⟨o,e,λv z=>by rw[d] at z;cases z⟩
 keep:=λi h h' st k=>st.at λo e=>k it (by simp) o e
 item:=by
  intro X hP hw hK hc i ae s Z H E I hf st hg;subst hP hw hK;obtain⟨es,hd,hl,hi⟩:=hg;subst hl;obtain⟨f0,f1,f2,f3,f4,f5⟩:=hf it (by simp)
  refine So I hd st (e:=es[i]) (jR hi) λkey h' rk lG sb=>?_
  have I1:Inv X ae Z H { s with heap:=h'}:=I.turned (t':=s.toks) (λb o hb e=>(sb.2 b hb).trans e) f0 f1 f3 f4 f5
  obtain⟨o,e,c,d⟩:=id lG;refine⟨key,rfl,y7 (s:={ s with heap:=h'}) e c d (by decide) ⟨es[i].2.1,H,I1,rk,⟨rfl,λys hy=>?_⟩,lG,λb hb=>(hf b hb).1⟩⟩
  rw[hd] at hy;cases hy;exact⟨_,jR hi,rfl⟩
 done:=by
  intro X hP hw hK hc i ae s Z H E I hf st hg;subst hP hw hK;obtain⟨es,hd,hl,hi⟩:=hg;subst hl;obtain⟨f0,f1,f2,f3,f4,f5⟩:=hf it (by simp)
  exact Tv (I.ok.hd hc) I hd st hi λh' eb=>⟨rfl,I.turned (t':=s.toks) (λb o hb e=>eb b o hb e) f0 f1 f3 f4 f5⟩
 self:=λ_ _ _ _ _ st h=>wpAny_pyIter_keyiter st h
def u9(tl:TE):TI:=λZ H R=>tl Z H λx H1=>∃a es ep,x=.ref a/\H1 a=some (.dG es ep)/\R (Ff a es.length ep) H1
theorem WW{tl:TE}(hl:PE X l tl):PI X tg l (u9 tl):=by
 intro ae s Z H R I h;refine bI (hl ae s Z H _ I h) λv s1 hh=>?_
 obtain⟨x,H1,I1,r1,q1⟩:=hh;obtain⟨a,es,ep,e,hd,q⟩:=q1;subst e;cases r1;refine Nd I1 hd ?_;refine⟨s1.heap.objs.size,[s1.heap.objs.size],_,_,H1,rfl,I1.kept (t':=s1.toks) λb o e=>fg _ e,Tw a _ _ _,⟨_,kA _ rfl,rfl,rfl⟩,λb hb=>?_,q⟩
 have e:b=s1.heap.objs.size:=by simpa using hb
 subst e;exact I1.mC (cI _) (I1.bF.fresh (cI _))
theorem IG{w1 w2:TI}(h1:PI X tg l w1)(h2:PI X tg l w2):PI X tg l (λZ H R=>w1 Z H R\/w2 Z H R):=by
 intro ae s Z H R I h;rcases h with h|h
 ·exact h1 ae s Z H R I h
 ·exact h2 ae s Z H R I h
open PySem PySem.Spec PyProof.Rows
section
variable {X:Cx} {ae:List (Addr×Obj)} {Z:List (Option V)} {H:Hp} {s:Shared} {h':Heap}
theorem Inv.ui{T:Addr}{o:HO}(I:Inv X ae Z H s)(k:∀b ob,b∉L->s.heap.get? b=some ob->h'.get? b=some ob)(hL:∀b∈L,jU X ae H b)(hT:s.heap.objs.size<=T)
  (new:bx X.prog X.w (upd H T o) h' T o):Inv X ae Z (upd H T o) { s with heap:=h',toks:=t'}:=by
 have hn:H T=none:=I.bF.fresh hT;have nL:∀b u,H b=some u->b∉L:=λb u e z=>by rw[(hL b z).1] at e;cases e
 have nT:∀b u,H b=some u->b≠T:=λb u e z=>by rw[z,hn] at e;cases e
 refine I.step (g':=s.gens) (d':=s.drawn) (ch:=L) (λb hb=>?_) (λb ob _ _ hc e _=>k b ob hc e) (λb ob _ _ hc e _=>⟨ob.slots,k b ob hc e⟩) (λb ob _ e n=>?_)
  (λb ob hc e=>⟨ob,k b ob hc e⟩) (λb xs e=>?_) (λb ob u e=>?_) (λb ps e=>⟨#[],?_⟩) (λm hm=>?_) (λb u e=>?_) I.bare
 ·obtain⟨f0,f1,f2,f3,f4,f5⟩:=hL b hb;exact⟨f3,f1,f4,f5⟩
 ·rw[eX (λz=>by subst z;exact absurd (jk (eH e) hT) (lX _))];exact n
 ·rw[eX (nT b _ e)];exact e
 ·rw[eX (nT b _ e)];exact e
 ·rw[eX (nT b _ e),e];simp
 ·obtain⟨ob,es,ep,ho,r⟩:=hm;exact⟨ob,es,ep,k _ ob (λz=>(hL _ z).2.1 rfl) ho,r⟩
 ·by_cases hb:b=T
  ·subst hb;rw[aL] at e;cases e;exact new
  ·rw[eX hb] at e;refine(I.bF b u e).mQ (λc v hc q=>k c v ?_ q) (λc q=>by rw[eX (nT c _ q)];exact q) λc xs q=>by rw[eX (nT c _ q)];exact q
   rcases hc with z|z
   ·rw[z];exact nL b u e
   ·exact nL c _ z
theorem Inv.Co(I:Inv X ae Z H s)(k:∀b ob,b∉L->s.heap.get? b=some ob->h'.get? b=some ob)(hL:∀b∈L,jU X ae H b):Inv X ae Z H { s with heap:=h',toks:=t'}:=by
 have nL:∀b u,H b=some u->b∉L:=λb u e z=>by rw[(hL b z).1] at e;cases e
 refine I.step (g':=s.gens) (d':=s.drawn) (ch:=L) (λb hb=>?_) (λb ob _ _ hc e _=>k b ob hc e) (λb ob _ _ hc e _=>⟨ob.slots,k b ob hc e⟩) (λb ob _ e n=>n)
  (λb ob hc e=>⟨ob,k b ob hc e⟩) (λb xs e=>e) (λb ob u e=>e) (λb ps e=>⟨#[],by rw[e];simp⟩) (λm hm=>?_) (λb u e=>?_) I.bare
 ·obtain⟨f0,f1,f2,f3,f4,f5⟩:=hL b hb;exact⟨f3,f1,f4,f5⟩
 ·obtain⟨ob,es,ep,ho,r⟩:=hm;exact⟨ob,es,ep,k _ ob (λz=>(hL _ z).2.1 rfl) ho,r⟩
 ·refine(I.bF b u e).mQ (λc v hc q=>k c v ?_ q) (λc q=>q) λc xs q=>q
  rcases hc with z|z
  ·rw[z];exact nL b u e
  ·exact nL c _ z
end
def yj(Src:Hp->Prop)(n:Nat)(val:Nat->List V->Prop):It:=
 ⟨λi H=>i < n/\Src H,λi H x H'=>∃p ws,x=.ref p/\H p=none/\val i ws/\H'=upd H p (.tup ws),λi H=>n<=i/\Src H⟩
theorem MB{pos:Pos}{FP wr:List Addr}{Src:Hp->Prop}{val:Nat->List V->Prop}{tn:Nat->Heap->Prop}(mem:it∈FP)(sub:∀b∈wr,b∈FP)
  (obj:∀i h,tn i h->∀b∈FP,∃o,h.get? b=some o/\∀v,o.data≠.cell v) (keep:∀i h h',tn i h->(∀b∈FP,∀o,h.get? b=some o->h'.get? b=some o)->tn i h')
  (hW:∀(X:Cx),X.prog=P->X.w=w->X.K=K->X.calm=true->∀(ae:List (Addr×Obj)) (s:Shared) (Z:St) (H:Hp),Inv X ae Z H s->Src H->∃(Jb:List Addr) (Pt:Nat->Array Value->Prop) (St:Nat->Heap->Prop) (Fi:Nat->Addr->Heap->Prop),
   WalksT P w X.A it Jb wr n Pt St Fi/\(∀i,tn i s.heap->St i s.heap)/\(∀i h,St i h->tn i h)/\∀i vals,Pt i vals->∃ws,val i ws/\Vals ws vals.toList/\ws.length<=10)
  (self:∀(A:Around) (i:Nat) (s:Shared) (Q:Value->Shared->Prop) (E:Value->Shared->Prop),tn i s.heap->Q (.ref it) s->wpAny (model P w) A (pyIter (.ref it)) Q E s) :
  Turn P w K (.Tuple elts x1 pos) (yj Src n val) FP it (λi h=>i<=n/\tn i h) where
 mem:=mem
 obj:=λi h st=>obj i h st.2
 keep:=λi h h' st k=>⟨st.1,keep i h h' st.2 k⟩
 item:=by
  intro X hP hw hK hc i ae s Z H E I hf st hg;obtain⟨Jb,Pt,St,Fi,W,toSt,BS,pv⟩:=hW X hP hw hK hc ae s Z H I hg.2;subst hP hw hK;refine W.item i s _ E hg.1 (toSt i st.2) λT vals h1 tk hPt hsz Jl A_ hk1=>?_
  refine⟨.ref T,rfl,W.go elts x1 pos i T _ _ E A_ λh2 hSt Qb=>?_⟩
  obtain⟨ws,hv,rv,EJ⟩:=pv i vals hPt;have Jk:IsTup h2 T vals:=by
   obtain⟨o,e,c⟩:=Jl;exact⟨o,Qb T o (W.apart i T h1 A_) e,c⟩
  have hn:H T=none:=I.bF.fresh hsz;have I2:Inv X ae Z (upd H T (.tup ws)) { s with heap:=h2,toks:=tk}:=I.ui (L:=wr) (λb ob hb e=>Qb b ob hb (hk1 b ob hb e)) (λb hb=>hf b (sub b hb)) hsz ⟨by rw[sizeLine_eq];omega,vals.toList,rv,by simpa using Jk⟩
  refine⟨.ref T,_,I2,rfl,⟨T,ws,rfl,hn,hv,rfl⟩,⟨by have:=hg.1;omega,BS _ _ hSt⟩,λb hb=>?_⟩
  have tH:=(hf b hb).1;rw[eX]
  ·exact tH
  ·intro z;subst z;obtain⟨o,e,_⟩:=obj i s.heap st.2 b hb;exact absurd (jk (eH e) hsz) (lX _)
 done:=by
  intro X hP hw hK hc i ae s Z H E I hf st hg;obtain⟨Jb,Pt,St,Fi,W,toSt,BS,pv⟩:=hW X hP hw hK hc ae s Z H I hg.2;subst hP hw hK;have ei:i=n:=by have:=hg.1;have:=st.1;omega
  subst ei;exact W.done s _ E (toSt i st.2) λh2 tk hk=>⟨rfl,I.Co (L:=wr) (λb ob hb e=>hk b ob hb e) λb hb=>hf b (sub b hb)⟩
 self:=λA i s Q E st h=>self A i s Q E st.2 h
theorem Vj{h:Heap}{a l:Addr}{i:Nat}(p:h.IsListIter a l i):∃o,h.get? a=some o/\∀v,o.data≠.cell v:=by
 obtain⟨o,e,_,d⟩:=p;exact⟨o,e,λv z=>by rw[d] at z;cases z⟩
def Cq(xs:List V)(i:Nat)(ws:List V):Prop:=∃x,xs[i]?=some x/\ws=[.int i,x]
theorem Tx{pos:Pos}{e l:Addr}(n1:e≠it)(n2:l≠e)(n3:l≠it)(xs:List V):
  Turn P w K (.Tuple elts x1 pos) (yj (λH=>dY K H l xs) xs.length (Cq xs)) [e,it] e (λi h=>i<=xs.length/\((∃old,IsEnum h e it (i:Int) old)/\h.IsListIter it l i)):=by
 refine MB (FP:=[e,it]) (wr:=[e,it]) (by simp) (λb hb=>hb) (λi h st b hb=>?_) (λi h h' st k=>?_) (λX hP hw hK hc ae s Z H I hS=>?_) (λA i s Q E st h=>?_)
 ·obtain⟨⟨old,s1⟩,s2⟩:=st;simp only[fV,zG,or_false] at hb;rcases hb with rfl|rfl
  ·exact⟨_,s1,λv z=>by cases z⟩
  ·exact Vj s2
 ·obtain⟨⟨old,s1⟩,s2⟩:=st;exact⟨⟨old,k e (by simp) _ s1⟩,s2.at λo q=>k it (by simp) o q⟩
 ·subst hP hw hK;obtain⟨tO,Km,p1,_⟩:=I.list hS;have e1:=Km.length;have W:=WalksT.enumerate (prog:=X.prog) (w:=X.w) (A:=X.A) (I.ok.hd hc) e it l n1 n2 n3 tO.toArray;rw[show tO.toArray.size=xs.length by rw[fE,<-e1]] at W
  refine⟨_,_,_,_,W,λi st=>?_,λi h st=>?_,λi vals hp=>?_⟩
  ·exact⟨st.1,st.2,p1.isList⟩
  ·exact⟨st.1,st.2.1⟩
  ·obtain⟨t,u,hu,rfl⟩:=hp;have hu:tO[i]?=some u:=by simpa using hu
   have Jx:i < xs.length:=by have:=(jQ.mp hu).1;omega
   obtain⟨u',qX,ru⟩:=Km.get (jR Jx);rw[hu] at qX;cases qX;exact⟨[.int i,xs[i]],⟨_,jR Jx,rfl⟩,.cons ⟨t,rfl⟩ (.cons ru .nil),by show 2<=10;decide⟩
 ·obtain⟨old,s1⟩:=st.1;exact wpAny_pyIter_enum s1 h
def u_(K:PySem.W.Frag)(ta:TA):TI:=λZ H R=>ta Z H λvs H1=>∃a xs,vs=[.ref a]/\dY K H1 a xs/\R (yj (λH=>dY K H a xs) xs.length (Cq xs)) H1
theorem WX{iz:Pos}{a:Expr}{pos:Pos}(hg:Gl X "enumerate")(hm:X.mg "enumerate"=none)(ha:PA X [a] ta)(hs:starEach [a] X.env=[(false,eval a X.env)]:=by rfl):
  PI X (.Tuple elts x1 iz) (.Call (.Name "enumerate" p) [a] [] pos) (u_ X.K ta):=by
 intro ae s Z H R I h;refine Call_ (wq I hg hm PyProof.Rows.Boot.enumerate (PyProof.Rows.callWith_type1 (bI (ha pos ae s Z H _ I h) λus s1 hh=>?_) hs rfl))
 obtain⟨vs,H1,I1,r1,q1⟩:=hh;obtain⟨l1,xs,e,hq1,q⟩:=q1;subst e;cases r1 with
 |cons r rr=>
  cases rr;cases r;obtain⟨tO,Km,p1,_⟩:=I1.list hq1;refine call_enumerate_list p1.isList λh' z1 z2 z3 z4=>?_
  have L1:l1 < s1.heap.objs.size:=by obtain⟨o,n,e,_⟩:=p1;exact eH e
  refine wpAny_pyIter_enum z1 ?_;refine⟨s1.heap.objs.size+1,[s1.heap.objs.size+1,s1.heap.objs.size],_,_,H1,rfl,I1.kept (t':=s1.toks) z4,Tx (e:=s1.heap.objs.size+1) (it:=s1.heap.objs.size) (l:=l1) (vI (by omega)) (jl (jk L1 (Fc _ _))) (jl L1) xs,⟨mU _,⟨_,z1⟩,z2⟩,λb hb=>?_,q⟩
  simp only[fV,zG,or_false] at hb;have nV:s1.heap.objs.size<=b:=by rcases hb with rfl|rfl <;> omega
  exact I1.mC nV (I1.bF.fresh nV)
section
variable {X:Cx} {pos p:Pos} {tg a b c:Expr}
end
end L2
set_option autoImplicit false
namespace L2
open PySem PySem.Spec PyProof.Rows
variable{a:Addr}{k:Kn}{q:Nat}{H H':Hp}
def Kept(q:Nat)(H H':Hp):Prop:=∀a o,tQ q o=true->H a=some o->H' a=some o
def ke(K:PySem.W.Frag)(k:Kn)(H:Hp)(q:Nat)(x:V):D->Prop
 |.lst ds=>∃a ws,x=.ref a/\ai K k ws ds/\∀H',aB k.F H'->Kept q H H'->dY K H' a ws
 |.tup ds=>∃a ws,x=.ref a/\ai K k ws ds/\∀H',aB k.F H'->Kept q H H'->jm K H' a ws
 |.aN kvs=>∃a es ep,x=.ref a/\es.map (·.1)=kvs.map (·.1)/\ai K k (es.map (·.2.1)) (kvs.map (·.1.d))/\ai K k (es.map (·.2.2)) (kvs.map (·.2))/\∀H',aB k.F H'->Kept q H H'->H' a=some (.dG es ep)
 |.str z=>x=.str z
 |_=>True
def Bx.lv:Bx->Nat
 |.lst _=>2
 |.aN _=>1
def qV:Cell->Option (Nat×D)
 |.o b=>some (b.lv,b.d)
 |.z b=>some (0,b.d)
 |.ins _ _=>none
def Bk(fz:Bool)(S:aX):Rv->Option (Rs (Nat×D))
 |.o c=>some (.ok (0,c.d) S)
 |.v (.d (.ref n))=>(S.r[n]?).bind λc=>(qV c).map λp=>.ok p S
 |.v (.d x)=>some (.ok (0,x) S)
 |.v (.c n)=>if fz=true then(oq S (.c n)).map λp=>.ok (0,p.1) p.2 else(S.s[n]?).bind λc=>(qV c).map λp=>.ok p S
def uZ(fz:Bool)(g:GE):Gx (Nat×D):=λU S=>bd (g U S) (λr S1=>Bk fz S1 r)
abbrev RH(K:PySem.W.Frag)(q:Nat):Rp (Nat×D) V:=λk H x p=>ke K k H (max q p.1) x p.2
section
variable {X:Cx} {K:PySem.W.Frag} {W:XW} {q:Nat} {k:Kn} {H:Hp} {x:V} {d:D} {g:GE} {Z:St}
theorem Dy(h:ai K k [x] [d]):ke K k H q x d:=by
 cases d with
 |lst ds=>obtain⟨a,ws,rfl,h1,h2⟩:=h.vd;exact⟨a,ws,rfl,h2,λH' s _=>s.Kx h1⟩
 |tup ds=>obtain⟨a,ws,rfl,h1,h2⟩:=h.isTup;exact⟨a,ws,rfl,h2,λH' s _=>s.xX h1⟩
 |aN kvs=>obtain⟨a,es,ep,rfl,h1,h2,h3,h4⟩:=h.vc;exact⟨a,es,ep,rfl,h2,h3,h4,λH' s _=>s _ _ h1⟩
 |str z=>exact h.bu rfl
 |_=>exact True.intro
theorem JT{o:HO}:tQ (max q 2) o=true:=Hg (p:=2) (Nat.le_max_right _ _) rfl
theorem WY{b:Bx}(h:fS K k H a b):ke K k H (max q b.lv) (.ref a) b.d:=by
 cases b with
 |lst xs=>obtain⟨ws,h1,h2⟩:=h;exact⟨a,ws,rfl,h2,λH' _ c=>.inl (.inl (c _ _ JT h1))⟩
 |aN kvs=>obtain⟨es,ep,h1,h2,h3,h4⟩:=h;exact⟨a,es,ep,rfl,h2,h3,h4,λH' _ c=>c _ _ (Hg (p:=1) (Nat.le_max_right _ _) rfl) h1⟩
theorem MC{c:Cell}{p:Nat×D}(h:bc K k H a c)(e:qV c=some p):ke K k H (max q p.1) (.ref a) p.2:=by
 cases c with
 |o b=>cases e;exact WY h.2
 |z b=>cases e;exact Dy h.2
 |ins _ _=>cases e
theorem N3{fz:Bool}{Q:VK}(t:tX (RH K q) K W q (uZ fz g) Z H Q):tE K W q g Z H Q:=by
 obtain⟨k,U,S,res,ok,gk,e,w⟩:=t;refine tX.bd ok gk e w λr S1 x k1 H1 bC g1 r1 e1 w1 _=>?_
 cases r with
 |o c=>
  cases e1;obtain⟨k2,u2,ee,r2⟩:=qk bC r1;exact(w1.up (u2 q)).now ee (Dy r2)
 |v y=>
  cases y with
  |d y=>
   cases y with
   |ref n=>
    obtain⟨c,h1,e2⟩:=dB.mp e1;obtain⟨p,h2,rfl⟩:=fR.mp e2;obtain⟨a,rfl,h3⟩:=ai.isRef r1;exact w1.now bC (MC (bC.r.at' n a c h3 h1) h2)
   |_=>cases e1;exact w1.now bC (Dy r1)
  |c n=>
   cases fz with
   |true=>
    obtain⟨p,h1,rfl⟩:=fR.mp (show(oq S1 (.c n)).map _=some res from e1);obtain⟨k2,u2,ee,r2⟩:=DM (v:=.c n) bC r1 h1;exact(w1.up (u2 q)).now ee (Dy r2)
   |false=>
    obtain⟨c,h1,e2⟩:=dB.mp (show(S1.s[n]?).bind _=some res from e1);obtain⟨p,h2,rfl⟩:=fR.mp e2;obtain⟨a,rfl,h3⟩:=r1;exact w1.now bC (MC (bC.s.at' n a c h3 h1) h2)
end
structure jE (K:PySem.W.Frag) (k1:Kn) (H1:Hp) (q:Nat) (J:It) (ds:List D):Prop where
 go:∀i k H,k1.le k->aB k.F H->Kept q H1 H->i < ds.length->J.go i H
 stop:∀i k H,k1.le k->aB k.F H->Kept q H1 H->ds.length<=i->J.stop i H
 rX:∀i k H x H',k1.le k->aB k.F H->Kept q H1 H->J.rX i H x H'->∀d,ds[i]?=some d->∃F',aB k.F F'/\aB H H'/\aB F' H'/\(∀p,H p≠none->k.F p=none->F' p=none)/\ai K ⟨F',k.A,k.T⟩ [x] [d]
abbrev RI(K:PySem.W.Frag)(q:Nat):Rp (Nat×List D) It:=λk H J p=>jE K k H (max q p.1) J p.2
section
variable {K:PySem.W.Frag} {k1:Kn} {H1:Hp} {q n:Nat} {ds:List D} {J:It} {a:Addr} {ws xs:List V}
theorem jE.old(hn:ds.length=n)(h1:∀i H,aB k1.F H->Kept q H1 H->i < n->J.go i H)(h2:∀i H,aB k1.F H->Kept q H1 H->n<=i->J.stop i H)(h3:∀i H x H' d,aB k1.F H->Kept q H1 H->J.rX i H x H'->ds[i]?=some d->H'=H/\ai K k1 [x] [d]):jE K k1 H1 q J ds where
 go:=λi k H l s c hi=>h1 i H (l.f.trans s) c (hn ▸ hi)
 stop:=λi k H l s c hi=>h2 i H (l.f.trans s) c (hn ▸ hi)
 rX:=λi k H x H' l s c y d hd=>by
  obtain⟨rfl,r⟩:=h3 i H x H' d (l.f.trans s) c y hd;exact⟨k.F,aB.refl _,aB.refl _,s,λ_ _ z=>z,r.mono l⟩
theorem jE.BM{Src:Hp->Prop}{val:Nat->List V->Prop}{f:Nat->List D}(hs:∀H,aB k1.F H->Kept q H1 H->Src H)(hv:∀i us,i < n->val i us->ai K k1 us (f i)):jE K k1 H1 q (yj Src n val) ((List.range n).map λi=>.tup (f i)) where
 go:=λi k H l s c hi=>⟨by simpa using hi,hs H (l.f.trans s) c⟩
 stop:=λi k H l s c hi=>⟨by simpa using hi,hs H (l.f.trans s) c⟩
 rX:=λi k H x H' l s c y d hd=>by
  obtain⟨p,us,rfl,hp,hw,rfl⟩:=y;have hi:i < n:=by have:=(jQ.mp hd).1;simpa using this
  rw[jx,Fd hi] at hd;cases hd;have hF:=s.free hp;refine⟨upd k.F p (.tup us),qI hF,qI hp,λb u z=>?_,λb z1 z2=>?_,.tup (.inl (.inl aL)) ((hv i us hi hw).mono ⟨l.f.trans (qI hF),l.a⟩) .nil⟩
  ·by_cases z3:b=p
   ·subst z3;rw[aL] at z ⊢;exact z
   ·rw[eX z3] at z ⊢;exact s b u z
  ·rw[eX (show b≠p from λz=>z1 (z ▸ hp))];exact z2
theorem WZ(h:∀H',aB k1.F H'->Kept q H1 H'->dY K H' a ws)(r:ai K k1 ws ds):jE K k1 H1 q (Fg K a) ds:=
 .old r.length.symm (λi H s c hi=>⟨ws,ws[i],h H s c,jR _⟩) (λi H s c hi=>⟨ws,h H s c,hi⟩) λi H x H' d s c y hd=>by
  obtain⟨rfl,y⟩:=y;obtain⟨v,h1,h2⟩:=r.get hd;cases(y ws (h _ s c)).symm.trans h1;exact⟨rfl,h2⟩
theorem YT(h:∀H',aB k1.F H'->Kept q H1 H'->jm K H' a ws)(r:ai K k1 ws ds):jE K k1 H1 q (Fh K a) ds:=
 .old r.length.symm (λi H s c hi=>⟨ws,ws[i],h H s c,jR _⟩) (λi H s c hi=>⟨ws,h H s c,hi⟩) λi H x H' d s c y hd=>by
  obtain⟨rfl,y⟩:=y;obtain⟨v,h1,h2⟩:=r.get hd;cases(y ws (h _ s c)).symm.trans h1;exact⟨rfl,h2⟩
theorem YU(h:∀H',aB k1.F H'->Kept q H1 H'->dY K H' a ws)(r:ai K k1 ws ds):jE K k1 H1 q (qA K a ws.length) ds.reverse:=
 .old (by rw[E2,r.length]) (λi H s c hi=>⟨hi,ws,h H s c,rfl⟩) (λi H s c hi=>hi) λi H x H' d s c y hd=>by
  obtain⟨rfl,y⟩:=y;have hi:=(jQ.mp hd).1;rw[E2] at hi;rw[List.getElem?_reverse hi,<-r.length] at hd;obtain⟨v,h1,h2⟩:=r.get hd;cases(y ws (h _ s c)).symm.trans h1;exact⟨rfl,h2⟩
theorem W2{es:List (TK×V×V)}{ep:Nat}(h:∀H',aB k1.F H'->Kept q H1 H'->H' a=some (.dG es ep))(r:ai K k1 (es.map (·.2.1)) ds):jE K k1 H1 q (Ff a es.length ep) ds:=
 .old (by rw[<-r.length,cz]) (λi H s c hi=>⟨es,h H s c,rfl,hi⟩) (λi H s c hi=>⟨es,h H s c,rfl,hi⟩) λi H x H' d s c y hd=>by
  obtain⟨rfl,y⟩:=y;obtain⟨v,h1,h2⟩:=r.get hd;rw[jx] at h1;obtain⟨e,h3,rfl⟩:=fR.mp h1;obtain⟨e',h4,rfl⟩:=y es (h _ s c);cases h3.symm.trans h4;exact⟨rfl,h2⟩
theorem YV{z:Str}:jE K k1 H1 q (CM z) (z.cps.toList.map λc=>.str (om c)):=
 .old (by rw[cz,Cv]) (λi H s _ hi=>hi) (λi H s _ hi=>hi) λi H x H' d s _ y hd=>by
  obtain⟨rfl,c,h1,rfl⟩:=y;rw[jx,ur,h1] at hd;cases hd;exact⟨rfl,.flat rfl .nil⟩
def ie(lo:Int)(n:Nat):List D:=(List.range n).map λ(i:Nat)=>D.int (lo+(i:Int))
theorem YW{lo:Int}:jE K k1 H1 q (CL lo n) (ie lo n):=
 .old (by unfold ie;rw[cz,uv]) (λi H s _ hi=>hi) (λi H s _ hi=>hi) λi H x H' d s _ y hd=>by
  obtain⟨rfl,rfl⟩:=y;have hi:=(jQ.mp hd).1;unfold ie at hi hd;rw[cz,uv] at hi;rw[jx,Fd hi] at hd;cases hd;exact⟨rfl,.flat rfl .nil⟩
end
abbrev mv:=Gx (Nat×List D)
def bS(fz:Bool)(o:D->Option (List D))(g:GE):mv:=λU S=>bd (uZ fz g U S) λp S1=>(o p.2).map λds=>.ok (p.1,ds) S1
def i_:D->Option (List D)
 |.lst ds=>some ds
 |.tup ds=>some ds
 |.aN kvs=>some (kvs.map (·.1.d))
 |.str z=>some (z.cps.toList.map λc=>.str (om c))
 |_=>none
def xR:D->Option (List D)
 |.lst ds=>some ds.reverse
 |_=>none
def gF(ds:List D):List D:=(List.range ds.length).map λi=>.tup [.int (i:Nat),(ds[i]?).getD .az]
def IU:D->Option (List D)
 |.lst ds=>some (gF ds)
 |_=>none
def j7:List Val->Option (List D)
 |[.d (.int j)]=>if Nat.ble j.natAbs 1000000000000=true then some (ie 0 j.toNat) else none
 |_=>none
def j5(o:List Val->Option (List D))(g:GA):mv:=λU S=>bd (g U S) λvs S1=>(o vs).map λds=>.ok (0,ds) S1
section
variable {X:Cx} {K:PySem.W.Frag} {W:XW} {q:Nat} {g:GE} {ga:GA} {fz:Bool} {Z:St} {H:Hp} {R:It->Hp->Prop}
theorem Dn{o:D->Option (List D)}(t:tX (RI K q) K W q (bS fz o g) Z H R):(∀Q:VK,tE K W q g Z H Q)\/∃d ds n,o d=some ds/\∀Q:VK,(∀k1 H1 x,aB k1.F H1->ke K k1 H1 n x d->(∀J,jE K k1 H1 n J ds->R J H1)->Q x H1)->tE K W q g Z H Q:=by
 obtain⟨k,U,S,res,ok,gk,e,w⟩:=t;rcases yX e with⟨⟨n,d⟩,S1,e1,e2⟩|⟨C,l,S1,e1,rfl⟩
 ·obtain⟨ds,e3,rfl⟩:=fR.mp e2;exact .inr ⟨d,ds,max q n,e3,λQ h=>N3 ⟨k,U,S,_,ok,gk,e1,λx k1 H1 u bC r=>h k1 H1 x bC.le r λJ j=>w J k1 H1 u bC j⟩⟩
 ·exact .inl λQ=>N3 ⟨k,U,S,_,ok,gk,e1,w⟩
theorem ke.now{x:V}{P:Hp->Prop}{n:Nat}(h:∀H',aB k.F H'->Kept n H H'->P H')(le:aB k.F H):P H:=h H le λ_ _ _ z=>z
def Bs(K:PySem.W.Frag)(te:TE):TI:=λZ H R=>va K te Z H R\/Bv K te Z H R\/u9 te Z H R\/Bu te Z H R
theorem YX{tg l:Expr}{te:TE}(h:PE X l te):PI X tg l (Bs X.K te):=IG (Wn h) (IG (Yu h) (IG (WW h) (YH h)))
theorem YY(t:tX (RI K q) K W q (bS fz i_ g) Z H R):Bs K (tE K W q g) Z H R:=by
 rcases Dn t with h|⟨d,ds,n,e,h⟩
 ·exact .inl (h _)
 ·cases d with
  |lst _=>
   cases e;refine .inl (h _ λk1 H1 x le hd j=>?_)
   obtain⟨a,ws,rfl,q2,q1⟩:=hd;exact⟨a,rfl,⟨ws,ke.now (x:=.az) q1 le⟩,j _ (WZ q1 q2)⟩
  |tup _=>
   cases e;refine .inr (.inl (h _ λk1 H1 x le hd j=>?_))
   obtain⟨a,ws,rfl,q2,q1⟩:=hd;exact⟨a,rfl,⟨ws,ke.now (x:=.az) q1 le⟩,j _ (YT q1 q2)⟩
  |aN kvs=>
   cases e;refine .inr (.inr (.inl (h _ λk1 H1 x le hd j=>?_)))
   obtain⟨a,es,ep,rfl,q2,q3,q4,q1⟩:=hd;exact⟨a,es,ep,rfl,ke.now (x:=.az) q1 le,j _ (W2 q1 q3)⟩
  |str z=>
   cases e;exact .inr (.inr (.inr (h _ λk1 H1 x le hd j=>⟨z,hd,j _ YV⟩)))
  |_=>cases e
theorem W4(t:tX (RI K q) K W q (bS fz xR g) Z H R):Bt K (rL (tE K W q g) ue) Z H R:=by
 rcases Dn t with h|⟨d,ds,n,e,h⟩
 ·exact h _
 ·cases d with
  |lst _=>
   cases e;refine h _ λk1 H1 x le hd j=>?_
   obtain⟨a,ws,rfl,q2,q1⟩:=hd;exact⟨a,ws,rfl,ke.now (x:=.az) q1 le,j _ (YU q1 q2)⟩
  |_=>cases e
theorem YZ(t:tX (RI K q) K W q (bS fz IU g) Z H R):u_ K (rL (tE K W q g) ue) Z H R:=by
 rcases Dn t with h|⟨d,ds,n,e,h⟩
 ·exact h _
 ·cases d with
  |lst es=>
   cases e;refine h _ λk1 H1 x le hd j=>?_
   obtain⟨a,ws,rfl,q2,q1⟩:=hd;refine⟨a,ws,rfl,ke.now (x:=.az) q1 le,j _ ?_⟩;unfold gF;rw[<-q2.length];refine .BM q1 λi us hi hv=>?_
   obtain⟨x,h1,rfl⟩:=hv;obtain⟨d,hd⟩:∃d,es[i]?=some d:=⟨es[i]'(by rw[<-q2.length];exact hi),jR _⟩
   obtain⟨v,h3,h4⟩:=q2.get hd;cases h1.symm.trans h3;rw[hd];exact .flat rfl h4
  |_=>cases e
theorem rep1{xs:List V}{j:Int}(h:Paired (eY K k) xs [.d (.int j)]):xs=[.int j]:=by
 cases h with
 |cons r t=>cases t;rw[(show ai K k [_] [_] from r).bu rfl]
theorem Tz{o:List Val->Option (List D)}{Q:List V->Hp->Prop}(t:tX (RI K q) K W q (j5 o ga) Z H R)(h:∀vs ds k1 H1 xs,o vs=some ds->(∀J,jE K k1 H1 (max q 0) J ds->R J H1)->Paired (eY K k1) xs vs->Q xs H1):jv K W q ga Z H Q:=by
 obtain⟨k,U,S,res,ok,gk,e,w⟩:=t;rcases yX e with⟨vs,S1,e1,e2⟩|⟨C,l,S1,e1,rfl⟩
 ·obtain⟨ds,e3,rfl⟩:=fR.mp e2;exact⟨k,U,S,_,ok,gk,e1,λxs k1 H1 u bC r=>h vs ds k1 H1 xs e3 (λJ j=>w J k1 H1 u bC j) r⟩
 ·exact⟨k,U,S,_,ok,gk,e1,w⟩
theorem W5(t:tX (RI K q) K W q (j5 j7 ga) Z H R):vb (jv K W q ga) Z H R:=Tz t λvs ds k1 H1 xs e j r=>by
 unfold j7 at e;split at e
 ·split at e
  ·rename_i h
   have h:=CF h;cases e;exact⟨_,rep1 r,by omega,by omega,j _ YW⟩
  ·cases e
 ·cases e
end
def aE(g:GG)(f:GS):List D->GS
 |[]=>λU S=>some (.nx U S)
 |d::ds=>λU S=>(g d U).bind λU1=>(f U1 S).bind λr=>match r with
   |.nx U2 S2=>aE g f ds U2 S2
   |.ct U2 S2=>aE g f ds U2 S2
   |.bk U2 S2=>some (.nx U2 S2)
   |r=>some r
def bQ(q:Nat)(src:mv)(g:GG)(f:Nat->GS):GS:=λU S=>lL U (src U S) λp S1=>aE g (f (max q p.1)) p.2 U S1
theorem Up.kept{k':Kn}(u:Up q k H k' H'):Kept q H H':=u.h
theorem Kept.refl:Kept q H H:=λ_ _ _ z=>z
theorem Kept.trans{zP:Hp}(a:Kept q H H')(b:Kept q H' zP):Kept q H zP:=λx o z h=>b x o z (a x o z h)
theorem Kept.same(a:aB H H'):Kept q H H':=λx o _ h=>a x o h
section
variable {X:Cx} {K:PySem.W.Frag} {W:XW} {q:Nat} {tg iter:Expr} {body:List Stmt} {wi:TI} {t:TG} {gg:GG} {f:Nat->GS} {src:mv} {pos:Pos}
theorem Y0(hp:PassesOwn (model X.prog X.w) X.A X.env X.xe)(hc:X.calm=true)(hi:PI X tg iter wi)(pT:∀Z H R,tX (RI K q) K W q src Z H R->wi Z H R)(hg:PG X tg t)(ht:kU K t gg)(hb:∀n,cA X body (tS K W n (f n)))(hs:∀x,foldedSetIterable iter X.env x=pure x):
  PS X (.For tg iter body [] pos) (tS K W q (bQ q src gg f)):=by
 intro ae s Z H De I t;obtain⟨k,U,S,fr,ok,gk,e,w⟩:=t;unfold bQ lL at e;split at e
 ·cases e
 ·rename_i p S1 e1
  obtain⟨n,ds⟩:=p;refine OX hp hc hi hg (hb (max q n)) hs ae s Z H De I (pT _ _ _ ⟨k,U,S,_,ok,gk,e1,λJ k1 H1 u1 bC r1=>?_⟩)
  have w1:=(w.up u1).weak (Nat.le_max_left q n);have g1:=gk.up u1;clear w gk ok e1 u1;refine⟨λi m Z H=>m=ds.length - i/\i<=ds.length/\∃k U S,cD K k H S/\jw K k Z U/\k1.le k/\Kept (max q n) H1 H/\aE gg (f (max q n)) (ds.drop i) U S=some fr/\Done K W (max q n) De k H fr,⟨_,rfl,mU _,k1,U,S1,bC,g1,.refl,.refl,e,w1⟩,?_⟩
  rintro i m Z H ⟨rfl,hi,k,U,S,ok,gk,l,c,e,w⟩;rcases Nat.lt_or_ge i ds.length with h|h
  ·rw[La h] at e;refine .inr ⟨r1.go i k H l ok.le c h,λZ' H'=>∃k U S,cD K k H' S/\jw K k Z' U/\k1.le k/\Kept (max q n) H1 H'/\aE gg (f (max q n)) (ds.drop (i+1)) U S=some fr/\Done K W (max q n) De k H' fr,λZ' H' z=>⟨_,by omega,rfl,h,z⟩,λx H' y=>?_⟩
   obtain⟨F',s1,s2,s3,s4,rp⟩:=r1.rX i k H x H' l ok.le c y _ (jR h);have u:Up (max q n) k H ⟨F',k.A,k.T⟩ H':=.of s1 s2;obtain⟨U1,e1,e2⟩:=dB.mp e;obtain⟨r,e3,e4⟩:=dB.mp e2;have i5:cD K ⟨F',k.A,k.T⟩ H' S:=ok.new s1 (λp _ o z=>s2 p o z) s3 λp m=>s4 p (ok.there p m)
   have l':k1.le ⟨F',k.A,k.T⟩:=⟨l.f.trans s1,l.a⟩;refine ht _ H' Z U U1 x ds[i] _ s3 (gk.up u) rp e1 λZ1 g1=>⟨_,U1,S,r,i5,g1,e3,?_⟩
   have w':=w.up u;have c':Kept (max q n) H1 H':=c.trans (.same s2);cases r with
   |nx U2 S2=>exact λZ' k2 H2 u2 ee g2=>⟨k2,U2,S2,ee,g2,⟨l'.f.trans u2.f,l'.a.trans u2.a⟩,c'.trans u2.kept,e4,w'.up u2⟩
   |ct U2 S2=>exact λZ' k2 H2 u2 ee g2=>⟨k2,U2,S2,ee,g2,⟨l'.f.trans u2.f,l'.a.trans u2.a⟩,c'.trans u2.kept,e4,w'.up u2⟩
   |bk U2 S2=>cases e4;exact w'
   |rt r S2=>cases e4;exact w'
   |ex C l U2 S2=>cases e4;exact w'
  ·rw[Fb h] at e;cases e;exact .inl ⟨r1.stop i k H l ok.le c h,cv.now w ok gk⟩
 ·rename_i C l S1 e1
  cases e;exact OX hp hc hi hg (hb q) hs ae s Z H De I (pT _ _ _ ⟨k,U,S,_,ok,gk,e1,λdx k' H' u i5 r=>w dx Z k' H' u i5 (gk.up u) r⟩)
end
end L2
set_option autoImplicit false
namespace L2
open PySem PySem.Spec PyProof.Rows
variable{ds:List D}{U:Gm}{Z:St}
def s_{α β:Type}(x:Option (Rs α))(f:α->aX->Option (Rs β)):Option (Rs β):=match x with
 |some (.ok a S)=>f a S
 |_=>none
def W0:XW:=λ_ _ _ _=>False
def aV(gg:GG)(tt:GT)(te:GE):List D->Gm->aX->List D->Option (Rs (List D))
 |[],_,S,bA=>some (.ok bA S)
 |d::ds,U,S,bA=>(gg d U).bind λU1=>s_ (tt U1 S) λb S1=>if b=true then s_ (gD te U1 S1) λx S2=>if bA.length < 1000000 then aV gg tt te ds U1 S2 (bA++[x]) else none else aV gg tt te ds U1 S1 bA
def tm(n:Nat)(e_:List Nat)(U:Gm):Gm:=List.replicate n none++e_.map λi=>(U[i]?).join
def cY(q:Nat)(src:mv)(gg:GG)(tt:Nat->GT)(te:Nat->GE)(n:Nat)(e_:List Nat):GE:=λU S=>bd (src U S) λp S1=>bd (aV gg (tt (max q p.1)) (te (max q p.1)) p.2 (tm n e_ U) S1 []) λds S2=>some (.ok (.o (.lst ds)) S2)
section
variable {X:Cx} {K:PySem.W.Frag} {W:XW} {q:Nat} {tg iter elt:Expr} {ifs:List Expr} {scope:Scope} {wi:TI} {t:TG} {gg:GG} {tt:Nat->GT} {te:Nat->GE} {src:mv} {pos:Pos} {M:List Str} {n:Nat} {e_:List Nat}
theorem DO{α β:Type}{x:Option (Rs α)}{f:α->aX->Option (Rs β)}{res:Rs β}(e:s_ x f=some res):∃a S,x=some (.ok a S)/\f a S=some res:=by
 unfold s_ at e;split at e
 ·exact⟨_,_,rfl,e⟩
 ·cases e
theorem Vk{gg:GG}{tt:GT}{te:GE}{S:aX}{bA:List D}{res:Rs (List D)}(e:aV gg tt te ds U S bA=some res):∃l S',res=.ok l S':=by
 induction ds generalizing U S bA with
 |nil=>cases e;exact⟨_,_,rfl⟩
 |cons d ds ih=>
  obtain⟨U1,_,e⟩:=dB.mp e;obtain⟨b,S1,_,e⟩:=DO e;cases b with
  |false=>exact ih e
  |true=>
   obtain⟨x,S2,_,e⟩:=DO (show s_ _ _=some res from e);split at e
   ·exact ih e
   ·cases e
theorem W6{k:Kn}(g:jw K k Z U):jw K k (k6 n e_ Z) (tm n e_ U):=by
 refine⟨by unfold k6 tm;rw[f7,f7,cz,cz,oJ,oJ],λi v e=>?_⟩
 unfold tm at e;unfold k6;by_cases hi:i < n
 ·rw[rQ (by rw[oJ];exact hi),K7,if_pos hi] at e;cases e
 ·have hi:=Nat.le_of_not_lt hi;rw[qv (by rw[oJ];exact hi),oJ,jx] at e ⊢
  obtain⟨j,h1,h2⟩:=fR.mp e;obtain⟨x,h3,h4⟩:=g.at' j v (Mz h2);exact⟨x,by rw[h1];exact congrArg some (show(Z[j]?).join=some x by rw[h3];rfl),h4⟩
theorem Y1{J:It}{k1:Kn}{H1:Hp}{m:Nat}{out:List D}{S1 S2:aX}{τ:St}{gt:GT}{ge:GE}{i7:List V->Hp->Prop}(ht:kU K t gg)(r1:jE K k1 H1 m J ds)(bC:cD K k1 H1 S1)(g1:jw K k1 τ U)(e:aV gg gt ge ds U S1 []=some (.ok out S2))
  (w:∀k H vs,Up m k1 H1 k H->cD K k H S2->ai K k vs out->i7 vs H):oK J t (tT K W0 m gt) (tE K W0 m ge) τ H1 i7:=by
 refine⟨ds.length,λi τ vs H=>i<=ds.length/\∃k U S bA,cD K k H S/\jw K k τ U/\ai K k vs bA/\Up m k1 H1 k H/\aV gg gt ge (ds.drop i) U S bA=some (.ok out S2),⟨mU _,k1,U,S1,[],bC,g1,.nil,.refl,e⟩,?_⟩
 rintro i τ vs H hi ⟨_,k,U,S,bA,ok,gk,rv,u,e⟩;rcases Nat.lt_or_ge i ds.length with h|h
 ·rw[La h] at e;refine .inr ⟨h,r1.go i k H u.le ok.le u.kept h,λx H' y=>?_⟩
  obtain⟨F',s1,s2,s3,s4,rp⟩:=r1.rX i k H x H' u.le ok.le u.kept y _ (jR h);have u2:Up m k H ⟨F',k.A,k.T⟩ H':=.of s1 s2;have i5:cD K ⟨F',k.A,k.T⟩ H' S:=ok.new s1 (λp _ o z=>s2 p o z) s3 λp m=>s4 p (ok.there p m)
  obtain⟨U1,e1,e2⟩:=dB.mp e;refine ht _ H' τ U U1 x ds[i] _ s3 (gk.up u2) rp e1 λτ1 g1=>?_
  obtain⟨b,S3,e3,e4⟩:=DO e2;refine⟨_,U1,S,_,i5,g1,e3,λb' k3 H3 u3 kq r3=>?_⟩
  cases r3;have u4:=(u.trans u2).trans u3;cases b with
  |false=>exact qZ ⟨h,k3,U1,S3,bA,kq,g1.up u3,rv.mono (u2.trans u3).le,u4,e4⟩
  |true=>
   obtain⟨y,S4,e5,e6⟩:=DO (show s_ _ _=some _ from e4);refine q8 (KS ⟨_,U1,S3,_,kq,g1.up u3,e5,λv k5 H5 u5 mH r5=>?_⟩)
   split at e6
   ·rename_i hl
    refine⟨jk (by rw[rv.length];exact hl) (by decide),h,k5,U1,S4,bA++[y],mH,(g1.up u3).up u5,(rv.mono ((u2.trans u3).trans u5).le).append r5,u4.trans u5,e6⟩
   ·cases e6
 ·rw[Fb h] at e;cases e;exact .inl ⟨r1.stop i k H u.le ok.le u.kept h,w k H vs u ok rv⟩
theorem N4{H:Hp}{Q:VK}(ht:kU K t gg)(h:tE K W q (cY q src gg tt te n e_) Z H Q):∃m,tX (RI K q) K W q src Z H λJ H1=>oK J t (tT K W0 m (tt m)) (tE K W0 m (te m)) (k6 n e_ Z) H1 λbA H'=>∀l,H' l=none->Q (.ref l) (upd H' l (.lst bA)):=by
 obtain⟨k,U,S,res,ok,gk,e,w⟩:=h;rcases yX e with⟨⟨m,ds⟩,S1,e1,e2⟩|⟨C,l,S1,e1,rfl⟩
 ·refine⟨max q m,k,U,S,_,ok,gk,e1,λJ k1 H1 u1 bC r1=>?_⟩
  rcases yX e2 with⟨out,S2,e3,e4⟩|⟨C,l,S2,e3,rfl⟩
  ·cases e4;refine Y1 ht r1 bC (W6 (gk.up u1)) e3 λk2 H2 vs u2 ee rv l hl=>?_
   exact lI.lst (.fin ee ((w.up u1).up (u2.weak (Nat.le_max_left q m)))) ee.le rv hl
  ·obtain⟨_,_,z⟩:=Vk e3;cases z
 ·exact⟨0,k,U,S,_,ok,gk,e1,w⟩
theorem W7(hc:X.calm=true)(ok:f9 X scope M n e_)(hi:PI X tg iter wi)(pT:∀Z H R,tX (RI K q) K W q src Z H R->wi Z H R)(ht:kU K t gg)
  (hg:∀C s H fp,PG (iu X scope M C s H fp) tg t) (hT:∀m C s H fp,qB (iu X scope M C s H fp) ifs (tT K W0 m (tt m))) (hE:∀m C s H fp,PE (iu X scope M C s H fp) elt (tE K W0 m (te m)))
  (hs:∀x,foldedSetIterable iter X.env x=pure x):PE X (.ListComp elt [⟨tg,iter,ifs,0⟩] scope pos) (tE K W q (cY q src gg tt te n e_)):=λae s Z H Q I h=>by
 obtain⟨m,h⟩:=N4 ht h;exact WJ hc ok hi hg (hT m) (hE m) hs ae s Z H Q I (pT _ _ _ h)
theorem W8{mu:Bool}{i:Nat}{x:Str}{px nJ:Pos}(hc:X.calm=true)(ok:f9 X scope M n e_)(hN:X.N.Nodup)(wW:X.N[i]?=some x)(hx:Loc X.env.scope x)(hi:PI X tg iter wi)(pT:∀Z H R,tX (RI K q) K W q src Z H R->wi Z H R)(ht:kU K t gg)
  (hg:∀C s H fp,PG (iu X scope M C s H fp) tg t) (hT:∀m C s H fp,qB (iu X scope M C s H fp) ifs (tT K W0 m (tt m))) (hE:∀m C s H fp,PE (iu X scope M C s H fp) elt (tE K W0 m (te m)))
  (Bo:swapsWith (.ListComp elt [⟨tg,iter,ifs,0⟩] scope pos) (some (.Name x px)) nJ.line X.env=pure true) (hs:∀x,foldedSetIterable iter X.env x=pure x) (hf:X.fn x=true\/X.env.scope.names.lookup x=some .local) :
  PS X (.Assign [.Name x px] (.ListComp elt [⟨tg,iter,ifs,0⟩] scope pos) nJ) (tS K W q (ay i mu (cY q src gg tt te n e_))):=λae s Z H D I h=>by
 obtain⟨m,h⟩:=N4 ht (O1 h);exact WK hc ok hN wW hx hi hg (hT m) (hE m) Bo hs hf ae s Z H D I (pT _ _ _ h)
end
end L2
namespace L2
open PySem PySem.Spec PySem.W PySem.Calls PyProof.Rows
def nR(C:Addr)(fe:GE):GS:=λU S=>lL U (fe U S) λ_ S1=>some (.ex C none U S1)
section
variable {X:Cx} {K:Frag} {W:XW} {q:Nat} {C B0:Addr} {x:Str} {p cp pos:Pos} {e:Expr} {fe:GE}
theorem Vl(G:lH K C (.ref B0::qm) none)(G0:lH K B0 qm none)(hk:keepIn K (.ref C)=true)(hm:X.mg x=some (.ref C))(hp:jH X W)(he:PE X e (tE K W q fe))(hc:X.calm=true)(hg:Gl X x)(mD:(x == ("__debug__":Str))=false)
  (oA:starEach [e] X.env=(false,eval e X.env)::starEach [] X.env) (hK:X.K=K):PS X (.Raise (some (.Call (.Name x p) [e] [] cp)) none pos) (tS K W q (nR C fe)):=by
 subst hK;intro ae s Z H D I t;have t1:tE X.K W q fe Z H λ_ H1=>W C none Z H1:=by
  obtain⟨k,U,S,fr,ok,gk,e,w⟩:=t;refine tS.bd ok gk e w λr S1 v k1 H1 bC g1 r1 e1 w1=>?_
  cases e1;exact w1 none Z k1 H1 .refl bC g1 rfl
 obtain⟨nm,qq,N,bs,sn,sub,ab,col,dd,k0,k1,k2,k3,k5,on,BR,es,ep,B_,g1,g2,g3,g4⟩:=id G;rw[arm_exec_Raise];show wpAny _ _ (do standAt pos;raiseStmt X.env (some (do let v <-eval (.Call (.Name x p) [e] [] cp) X.env;standAt pos;pure v)) none) _ _ _
 refine wpAny_bind (wpAny_standAt (wpAny_raiseStmt_made_sub (C:=C) (nm:=nm) (q:=qq) (N:=N) (bs:=bs) (bm:=.ref B0::qm) (hdct:=true) (sn:=sn) (sub:=sub) (ab:=ab) (col:=col) (dd:=dd) (k0:=k0) (k1:=k1) (k2:=k2) (k3:=k3) (k5:=k5) (newId:="ValueError.__new__") rfl (I.ok.hd hc) (wpAny_bind (bI ?_ λv s3 h3=>wpAny_bind (wpAny_standAt (wpAny_pure h3))))))
 refine wpAny_Call_Name_kw (Ap I hg hm ?_ mD);have kE:(backTo cp (starEach [] X.env)).any (·.1)=false:=by rw[starEach];rfl
 refine PySem.W.callWith_K (h₀:=X.base) I.ok.mod.zw hk (bI ((DJ he mK oA) cp ae s Z H (λvs H1=>vs.length=1/\W C none Z H1) I (oa t1 λ_ H1 h=>⟨rfl,h⟩)) λus s1 hh=>?_) oA kE
 obtain⟨vs,H1,I1,r,hl,pp⟩:=hh;refine⟨I1.lu,?_⟩;obtain⟨u,rfl⟩:∃u,us=[u]:=by
  have l:=r.length;rw[hl] at l;cases us with
  |nil=>cases l
  |cons u us=>cases us with
   |nil=>exact⟨u,rfl⟩
   |cons _ _=>cases l
 refine Vh G G0 I1 λh' t kp g=>⟨_,t,rfl,kp _ _ (I1.lu _ _ g1),g,?_⟩
 exact hp ae Z H1 s1 H1 _ _ C none I1 ⟨rfl,I1.bare,Un.kept kp,I1.bF.kept kp,um _,I1.bF.fresh (um _),_,_,g,rfl,rfl,rfl,by show 1 < 6;decide,.inl rfl⟩ pp
end
section
variable {X:Cx} {K:Frag} {W:XW} {q:Nat}
end
end L2
namespace L2
open PySem PySem.Spec PyProof.Rows
variable{K:PySem.W.Frag}{es:List D}{j n:Nat}
abbrev bf(K:PySem.W.Frag)(H:Hp):List V->List D->Prop:=ai K ⟨H,[],[]⟩
theorem ai.E1{H H1:Hp}{vs:List V}{ds:List D}(h:ai K ⟨H,[],[]⟩ vs ds)(s:aB H H1):ai K ⟨H1,[],[]⟩ vs ds:=ai.mono (k:=⟨H,[],[]⟩) ⟨s,lY ([]:List Addr)⟩ h
section
variable {X:Cx}
mutual
def aY:D->D->Bool
 |.lst xs,.lst ys=>fT xs ys
 |.tup xs,.tup ys=>fT xs ys
 |.az,.az=>true
 |.bl a,.bl b=>a == b
 |.bl a,.int b=>(if a then 1 else 0) == b
 |.int a,.bl b=>a == (if b then 1 else 0)
 |.int a,.int b=>a == b
 |.str a,.str b=>a == b
 |_,_=>false
def fT:List D->List D->Bool
 |[],[]=>true
 |x::xs,y::ys=>aY x y && fT xs ys
 |_,_=>false
end
def gc:Nat->D->Bool
 |n+1,.lst xs=>xs.all (gc n)
 |n+1,.tup xs=>xs.all (gc n)
 |_,.az=>true
 |_,.bl _=>true
 |_,.int _=>true
 |_,.str _=>true
 |_,_=>false
theorem Aj:∀{xs ys:List D},xs.length≠ys.length->fT xs ys=false
 |[],[],h=>absurd rfl h
 |[],_::_,_=>by unfold fT;rfl
 |_::_,[],_=>by unfold fT;rfl
 |x::xs,y::ys,h=>by unfold fT;rw[Aj (by simpa using h),vJ]
theorem Ak:∀{xs ys:List D} (n:Nat),xs.length=n->ys.length=n->fT xs ys=(List.range n).all λj=>aY (xs.getD j .az) (ys.getD j .az)
 |[],[],0,_,_=>by unfold fT;rfl
 |x::xs,y::ys,n+1,h1,h2=>by
  unfold fT;rw[Ak n (by simpa using h1) (by simpa using h2),List.range_succ_eq_map,rV,List.all_map]
  rfl
 |[],_,_+1,h,_=>by simp at h
 |_::_,[],_+1,_,h=>by simp at h
 |_::_,_,0,h,_=>by simp at h
 |[],_::_,0,_,h=>by simp at h
variable {ae:List (Addr×Obj)} {Z:St} {H:Hp} {s:Shared}
theorem uQ{F:Hp}{ws:List V}(r:bf K F ws es){aG:List Value}(rv:Vals ws aG)(h:j < aG.toArray.size):∃x,RelV x aG.toArray[j]/\bf K F [x] [es.getD j .az]/\j < es.length:=by
 obtain⟨x,hx,rx⟩:=rv.at h;have hl:=r.length;have hj:j < es.length:=by
  have:=(jQ.mp hx).1;omega
 obtain⟨y,hy,ry⟩:=r.get (i:=j) (d:=es[j]) (by simp[hj])
 rw[hx] at hy;cases hy;refine⟨x,rx,?_,hj⟩;rw[show es.getD j .az=es[j] by simp[hj]]
 exact ry
theorem uJ{p:D->Bool}(h:es.all p=true)(hj:j < es.length):p (es.getD j .az)=true:=by
 rw[show es.getD j .az=es[j] by simp[hj]]
 exact pA.mp h _ (uq hj)
inductive vS (K:PySem.W.Frag) (H:Hp) (s:Shared):Value->D->Prop
 |none:vS K H s .none .az
 |bool (b:Bool):vS K H s (.bool b) (.bl b)
 |int (i:Int) (t:Tok):vS K H s (.int i t) (.int i)
 |str (x:Str) (t:Tok):vS K H s (.str x t) (.str x)
 |list {a:Addr} {aG:List Value} {ws:List V} {es:List D}:s.heap.IsList a aG.toArray->Vals ws aG->bf K H ws es->vS K H s (.ref a) (.lst es)
 |tuple {a:Addr} {aG:List Value} {ws:List V} {es:List D}:s.heap.IsTuple a aG.toArray->Vals ws aG->bf K H ws es->vS K H s (.ref a) (.tup es)
theorem D7(I:Inv X ae Z H s){x:V}{u:Value}{d:D}(r:bf X.K H [x] [d])(ru:RelV x u)(ok:gc n d=true):vS X.K H s u d:=by
 cases r with
 |lst q i _=>
  cases ru;obtain⟨aG,rv,pl,_⟩:=I.list q;exact .list pl.isList rv i
 |tup q i _=>
  cases ru;obtain⟨aG,rv,pl,_⟩:=I.tuple q;exact .tuple pl rv i
 |aN _ _ _ _ _=>cases n <;> cases ok
 |ref _ _=>cases n <;> cases ok
 |flat q _=>
  cases d with
  |az=>cases q;cases ru;exact .none
  |bl b=>cases q;cases ru;exact .bool b
  |int i=>cases q;obtain⟨t,rfl⟩:=ru;exact .int i t
  |str z=>cases q;obtain⟨t,rfl⟩:=ru;exact .str z t
  |ty _=>cases n <;> cases ok
  |lst _=>cases q
  |tup _=>cases q
  |aN _=>cases q
  |ref _=>cases q
theorem wa(h:gc n (.lst es)=true):∃m,n=m+1/\es.all (gc m)=true:=by
 cases n with
 |zero=>cases h
 |succ n=>exact⟨n,rfl,h⟩
theorem wb(h:gc n (.tup es)=true):∃m,n=m+1/\es.all (gc m)=true:=by
 cases n with
 |zero=>cases h
 |succ n=>exact⟨n,rfl,h⟩
theorem MD(h:∀d∈es,aY d d=true):fT es es=true:=by
 induction es with
 |nil=>unfold fT;rfl
 |cons d es ih=>unfold fT;rw[h d (by simp),ih λd m=>h d (by simp[m])];rfl
theorem Hh:∀(n:Nat) {d:D},gc n d=true->aY d d=true:=by
 intro n
 induction n with
 |zero=>intro d h;cases d <;> first|(cases h;done)|simp[aY]
 |succ n ih=>
  intro d h;cases d with
  |lst es=>simp only[aY];exact MD λd m=>ih (pA.mp h d m)
  |tup es=>simp only[aY];exact MD λd m=>ih (pA.mp h d m)
  |aN _=>cases h
  |ref _=>cases h
  |ty _=>cases h
  |_=>simp[aY]
theorem RJ{xs ys:List D}(hl:xs.length=ys.length)(h:∀j,j < xs.length->xs.getD j .az=ys.getD j .az):xs=ys:=by
 apply List.ext_getElem hl;intro j h1 h2;have:=h j h1;simpa[h1,h2] using this
def KZ:V->D
 |.bl b=>.bl b
 |.int i=>.int i
 |.str x=>.str x
 |.ty n=>.ty n
 |_=>.az
theorem ME{d:D}{v:V}(h:uP d=some v):d=KZ v:=by cases d <;> cases h <;> rfl
theorem yH{d:D}{a:Addr}(h:uP d=some (.ref a)):False:=by cases d <;> cases h
theorem DP(I:Inv X ae Z H s):∀(n m:Nat) {x:V} {d e:D},bf X.K H [x] [d]->bf X.K H [x] [e]->gc n d=true->gc m e=true->d=e:=by
 intro n
 induction n using Nat.strongRecOn with
 |ind n ih=>
 intro m x d e rd re od oe;have go:∀{ws:List V} {es l_:List D} {n' m':Nat},n' < n->bf X.K H ws es->bf X.K H ws l_->es.all (gc n')=true->l_.all (gc m')=true->es=l_:=by
  intro ws es l_ n' m' hn r1 r2 o1 o2;have l1:=r1.length;have l2:=r2.length;refine RJ (by omega) λj hj=>?_
  have EG:j < l_.length:=by omega
  obtain⟨v,g1,g2⟩:=r1.get (i:=j) (d:=es[j]) (by simp[hj])
  obtain⟨v',p1,p2⟩:=r2.get (i:=j) (d:=l_[j]) (by simp[EG])
  rw[g1] at p1;cases p1;rw[show es.getD j .az=es[j] by simp[hj],show l_.getD j .az=l_[j] by simp[EG]]
  exact ih n' hn m' g2 p2 (pA.mp o1 _ (uq hj)) (pA.mp o2 _ (uq EG))
 cases rd with
 |flat q _=>
  cases re with
  |flat q' _=>
   rw[ME q,ME q']
  |lst _ _ _=>exact(yH q).elim
  |tup _ _ _=>exact(yH q).elim
  |aN _ _ _ _ _=>exact(yH q).elim
  |ref _ _=>exact(yH q).elim
 |lst q i _=>
  obtain⟨n',rfl,rq⟩:=wa od;cases re with
  |flat q' _=>exact(yH q').elim
  |lst q' i' _=>
   obtain⟨m',rfl,rA⟩:=wa oe;cases I.ly q q';rw[go (sF _) i i' rq rA]
  |tup q' i' _=>
   obtain⟨_,_,p1,_⟩:=I.list q;obtain⟨_,_,p2,_⟩:=I.tuple q';exact absurd rfl (SeqAt.ne_of_list_tuple p1.isList p2)
  |aN _ _ _ _ _=>cases m <;> cases oe
  |ref _ _=>cases m <;> cases oe
 |tup q i _=>
  obtain⟨n',rfl,rq⟩:=wb od;cases re with
  |flat q' _=>exact(yH q').elim
  |tup q' i' _=>
   obtain⟨m',rfl,rA⟩:=wb oe;cases I.mn q q';rw[go (sF _) i i' rq rA]
  |lst q' i' _=>
   obtain⟨_,_,p1,_⟩:=I.list q';obtain⟨_,_,p2,_⟩:=I.tuple q;exact absurd rfl (SeqAt.ne_of_list_tuple p1.isList p2)
  |aN _ _ _ _ _=>cases m <;> cases oe
  |ref _ _=>cases m <;> cases oe
 |aN _ _ _ _ _=>cases n <;> cases od
 |ref _ _=>cases n <;> cases od
theorem AI(I:Inv X ae Z H s):∀(n m:Nat) {A:Around} {x y:V} {u v:Value} {d e:D},bf X.K H [x] [d]->bf X.K H [y] [e]->gc n d=true->gc m e=true->RelV x u->RelV y v->A.units+n < cLine->
  SeqAt.EqAt A s u v (aY d e)/\SeqAt.RcAt A s u v (aY d e):=by
 intro n
 induction n using Nat.strongRecOn with
 |ind n ih=>
 intro m A x y u v d e rd re od oe ru rv hu;have dC:A.units < cLine:=by omega
 have s1:=D7 I rd ru od;have s2:=D7 I re rv oe;cases s1 with
 |none=>
  cases s2 with
  |none=>
   exact⟨SeqAt.EqAt.same _,SeqAt.RcAt.none_none⟩
  |bool a2=>
   simp only[aY];exact⟨SeqAt.EqAt.none_bool a2,SeqAt.RcAt.none_bool a2⟩
  |int a2 t2=>
   simp only[aY];exact⟨SeqAt.EqAt.none_int a2 t2,SeqAt.RcAt.none_int a2 t2⟩
  |str a2 t2=>
   simp only[aY];exact⟨SeqAt.EqAt.none_str a2 t2,SeqAt.RcAt.none_str a2 t2⟩
  |list l2 v2 r2=>
   simp only[aY];exact⟨SeqAt.EqAt.none_list l2 dC,SeqAt.RcAt.none_list l2 dC⟩
  |tuple l2 v2 r2=>
   simp only[aY];exact⟨SeqAt.EqAt.none_tuple l2 dC,SeqAt.RcAt.none_tuple l2 dC⟩
 |bool a1=>
  cases s2 with
  |none=>
   simp only[aY];exact⟨SeqAt.EqAt.bool_none a1,SeqAt.RcAt.bool_none a1⟩
  |bool a2=>
   simp only[aY];exact⟨SeqAt.EqAt.bool_bool a1 a2,SeqAt.RcAt.bool_bool a1 a2⟩
  |int a2 t2=>
   simp only[aY];exact⟨SeqAt.EqAt.bool_int a1 a2 t2,SeqAt.RcAt.bool_int a1 a2 t2⟩
  |str a2 t2=>
   simp only[aY];exact⟨SeqAt.EqAt.bool_str a1 a2 t2,SeqAt.RcAt.bool_str a1 a2 t2⟩
  |list l2 v2 r2=>
   simp only[aY];exact⟨SeqAt.EqAt.bool_list a1 l2 dC,SeqAt.RcAt.bool_list a1 l2 dC⟩
  |tuple l2 v2 r2=>
   simp only[aY];exact⟨SeqAt.EqAt.bool_tuple a1 l2 dC,SeqAt.RcAt.bool_tuple a1 l2 dC⟩
 |int a1 t1=>
  cases s2 with
  |none=>
   simp only[aY];exact⟨SeqAt.EqAt.int_none a1 t1,SeqAt.RcAt.int_none a1 t1⟩
  |bool a2=>
   simp only[aY];exact⟨SeqAt.EqAt.int_bool a1 t1 a2,SeqAt.RcAt.int_bool a1 t1 a2⟩
  |int a2 t2=>
   simp only[aY];exact⟨SeqAt.EqAt.int_int a1 t1 a2 t2,SeqAt.RcAt.int_int a1 t1 a2 t2⟩
  |str a2 t2=>
   simp only[aY];exact⟨SeqAt.EqAt.int_str a1 t1 a2 t2,SeqAt.RcAt.int_str a1 t1 a2 t2⟩
  |list l2 v2 r2=>
   simp only[aY];exact⟨SeqAt.EqAt.int_list a1 t1 l2 dC,SeqAt.RcAt.int_list a1 t1 l2 dC⟩
  |tuple l2 v2 r2=>
   simp only[aY];exact⟨SeqAt.EqAt.int_tuple a1 t1 l2 dC,SeqAt.RcAt.int_tuple a1 t1 l2 dC⟩
 |str a1 t1=>
  cases s2 with
  |none=>
   simp only[aY];exact⟨SeqAt.EqAt.str_none a1 t1,SeqAt.RcAt.str_none a1 t1⟩
  |bool a2=>
   simp only[aY];exact⟨SeqAt.EqAt.str_bool a1 t1 a2,SeqAt.RcAt.str_bool a1 t1 a2⟩
  |int a2 t2=>
   simp only[aY];exact⟨SeqAt.EqAt.str_int a1 t1 a2 t2,SeqAt.RcAt.str_int a1 t1 a2 t2⟩
  |str a2 t2=>
   simp only[aY];exact⟨SeqAt.EqAt.str_str a1 t1 a2 t2,SeqAt.RcAt.str_str a1 t1 a2 t2⟩
  |list l2 v2 r2=>
   simp only[aY];exact⟨SeqAt.EqAt.str_list a1 t1 l2 dC,SeqAt.RcAt.str_list a1 t1 l2 dC⟩
  |tuple l2 v2 r2=>
   simp only[aY];exact⟨SeqAt.EqAt.str_tuple a1 t1 l2 dC,SeqAt.RcAt.str_tuple a1 t1 l2 dC⟩
 |list l1 v1 r1=>
  cases s2 with
  |none=>
   simp only[aY];exact⟨SeqAt.EqAt.list_none l1 dC,SeqAt.RcAt.list_none l1 dC⟩
  |bool a2=>
   simp only[aY];exact⟨SeqAt.EqAt.list_bool a2 l1 dC,SeqAt.RcAt.list_bool a2 l1 dC⟩
  |int a2 t2=>
   simp only[aY];exact⟨SeqAt.EqAt.list_int a2 t2 l1 dC,SeqAt.RcAt.list_int a2 t2 l1 dC⟩
  |str a2 t2=>
   simp only[aY];exact⟨SeqAt.EqAt.list_str a2 t2 l1 dC,SeqAt.RcAt.list_str a2 t2 l1 dC⟩
  |list l2 v2 r2=>
   rename_i a aG ws es b jN Cs l_
   obtain⟨n',rfl,rq⟩:=wa od;obtain⟨m',rfl,rA⟩:=wa oe;have la:=v1.length;have lb:=v2.length;have JU:=r1.length;have JV:=r2.length;have rc:SeqAt.RcAt A s (.ref a) (.ref b) (aY (.lst es) (.lst l_)):=by
    simp only[aY];by_cases hl:es.length=l_.length
    ·rw[Ak aG.toArray.size (by simp only[fE];omega) (by simp only[fE];omega)]
     refine SeqAt.RcAt.lists (A:=A) l1 l2 (by simp only[fE];omega) dC λj h1 h2=>?_
     obtain⟨x1,q1,q2,q3⟩:=uQ r1 v1 h1;obtain⟨y1,p1,p2,p3⟩:=uQ r2 v2 h2;exact(ih n' (sF _) m' q2 p2 (uJ rq q3) (uJ rA p3) q1 p1 (by show A.units+1+n' < cLine;omega)).1
    ·rw[Aj hl];exact SeqAt.RcAt.lists_lengths (A:=A) l1 l2 (by simp only[fE,bne_iff_ne,ne_eq];omega) dC
   refine⟨?_,rc⟩;by_cases A':a=b
   ·subst A';have I_:x=y:=RelV.inj ru rv;subst I_;have e2:=DP I _ _ rd re od oe;cases e2;rw[Hh _ od];exact SeqAt.EqAt.same _
   ·exact SeqAt.EqAt.of_refs A' rc
  |tuple l2 v2 r2=>
   simp only[aY];exact⟨SeqAt.EqAt.list_tuple l1 l2 dC,SeqAt.RcAt.list_tuple l1 l2 dC⟩
 |tuple l1 v1 r1=>
  cases s2 with
  |none=>
   simp only[aY];exact⟨SeqAt.EqAt.tuple_none l1 dC,SeqAt.RcAt.tuple_none l1 dC⟩
  |bool a2=>
   simp only[aY];exact⟨SeqAt.EqAt.tuple_bool a2 l1 dC,SeqAt.RcAt.tuple_bool a2 l1 dC⟩
  |int a2 t2=>
   simp only[aY];exact⟨SeqAt.EqAt.tuple_int a2 t2 l1 dC,SeqAt.RcAt.tuple_int a2 t2 l1 dC⟩
  |str a2 t2=>
   simp only[aY];exact⟨SeqAt.EqAt.tuple_str a2 t2 l1 dC,SeqAt.RcAt.tuple_str a2 t2 l1 dC⟩
  |list l2 v2 r2=>
   simp only[aY];exact⟨SeqAt.EqAt.tuple_list l1 l2 dC,SeqAt.RcAt.tuple_list l1 l2 dC⟩
  |tuple l2 v2 r2=>
   rename_i a aG ws es b jN Cs l_
   obtain⟨n',rfl,rq⟩:=wb od;obtain⟨m',rfl,rA⟩:=wb oe;have la:=v1.length;have lb:=v2.length;have JU:=r1.length;have JV:=r2.length;have rc:SeqAt.RcAt A s (.ref a) (.ref b) (aY (.tup es) (.tup l_)):=by
    have z:=SeqAt.RcAt.tuples (A:=A) (e:=λj=>aY (es.getD j .az) (l_.getD j .az)) l1 l2 dC λj h1 h2=>by
     obtain⟨x1,q1,q2,q3⟩:=uQ r1 v1 h1;obtain⟨y1,p1,p2,p3⟩:=uQ r2 v2 h2;exact(ih n' (sF _) m' q2 p2 (uJ rq q3) (uJ rA p3) q1 p1 (by show A.units+1+n' < cLine;omega)).1
    simp only[aY];by_cases hl:es.length=l_.length
    ·rw[Ak aG.toArray.size (by simp only[fE];omega) (by simp only[fE];omega)]
     have e1:jN.toArray.size=aG.toArray.size:=by simp only[fE];omega
     rw[e1,Nat.min_self,beq_self_eq_true,CG] at z;exact z
    ·rw[Aj hl];have e1:(aG.toArray.size == jN.toArray.size)=false:=by rw[beq_eq_false_iff_ne];simp only[fE];omega
     rw[e1,vJ] at z;exact z
   refine⟨?_,rc⟩;by_cases A':a=b
   ·subst A';have I_:x=y:=RelV.inj ru rv;subst I_;have e2:=DP I _ _ rd re od oe;cases e2;rw[Hh _ od];exact SeqAt.EqAt.same _
   ·exact SeqAt.EqAt.of_refs A' rc
end
end L2
namespace L2
open PySem PySem.Spec PyProof.Rows
mutual
theorem HW:∀k j:TK,aY k.d j.d=decide (k=j)
 |.inl a,.inl b=>by simp only[TK.d,aY];rw[CB];simp
 |.inr a,.inr b=>by simp only[TK.d,aY];rw[CB];simp
 |.tp l,.tp m=>by simp only[TK.d,aY];rw[nE l m,CB];simp
 |.inl _,.inr _=>by simp[TK.d,aY]
 |.inl _,.tp _=>by simp[TK.d,aY]
 |.inr _,.inl _=>by simp[TK.d,aY]
 |.inr _,.tp _=>by simp[TK.d,aY]
 |.tp _,.inl _=>by simp[TK.d,aY]
 |.tp _,.inr _=>by simp[TK.d,aY]
 |.az,.az=>by simp[TK.d,aY]
 |.az,.inl _=>by simp[TK.d,aY]
 |.az,.inr _=>by simp[TK.d,aY]
 |.az,.tp _=>by simp[TK.d,aY]
 |.inl _,.az=>by simp[TK.d,aY]
 |.inr _,.az=>by simp[TK.d,aY]
 |.tp _,.az=>by simp[TK.d,aY]
theorem nE:∀l m:List TK,fT (TK.dl l) (TK.dl m)=decide (l=m)
 |[],[]=>by simp[TK.dl,fT]
 |a::l,b::m=>by simp only[TK.dl,fT];rw[HW a b,nE l m,CB];simp
 |[],_::_=>by simp[TK.dl,fT]
 |_::_,[]=>by simp[TK.dl,fT]
end
theorem D8:∀l:List TK,TK.dl l=l.map TK.d
 |[]=>by simp[TK.dl]
 |a::l=>by simp[TK.dl,D8 l]
theorem yP:∀(n:Nat) {k:TK},k.ok n=true->gc n k.d=true
 |n,.inl i,_=>by cases n <;> simp[TK.d,gc]
 |n,.inr i,_=>by cases n <;> simp[TK.d,gc]
 |n,.az,_=>by cases n <;> simp[TK.d,gc]
 |0,.tp l,h=>by simp[TK.ok] at h
 |n+1,.tp l,h=>by
  simp only[TK.d,gc,D8,List.all_map];refine pA.mpr λa m=>?_
  exact yP n (pA.mp (by simpa only[TK.ok] using h) a m)
theorem TB{α:Type}{M:Model}{A:Around}{E:Value->Shared->Prop}{s:Shared}{c:Prop}[Decidable c]{a b:Sem α}{Q:α->Shared->Prop}(h1:wpAny M A a Q E s)(h2:wpAny M A b Q E s):wpAny M A (if c then a else b) Q E s:=by
 split
 ·exact h1
 ·exact h2
theorem LO(w:World):∀l m:List TK,TK.fY w (l++m)=TK.fY w l++TK.fY w m
 |[],m=>by simp[TK.fY]
 |a::l,m=>by simp[TK.fY,LO w l m]
section
variable {X:Cx} {ae:List (Addr×Obj)} {Z:St} {H:Hp}
theorem N5{A:Around}{E:Value->Shared->Prop}{s:Shared}{y:V}{u:Value}{i:Int}{Q:Int->Shared->Prop}(r:bf X.K H [y] [TK.d (.inl i)])(ru:RelV y u)(h:∀t,Q (TK.hash X.w (.inl i)) { s with toks:=t}):wpAny (model X.prog X.w) A (pyHash u) Q E s:=by
 simp only[TK.d] at r;cases r with
 |flat q _=>cases q;obtain⟨t,rfl⟩:=ru;exact wpAny_pyHash_int (by simpa only[TK.hash] using h _)
theorem N6{A:Around}{E:Value->Shared->Prop}{s:Shared}{y:V}{u:Value}{i:Str}{Q:Int->Shared->Prop}(r:bf X.K H [y] [TK.d (.inr i)])(ru:RelV y u)(h:∀t,Q (TK.hash X.w (.inr i)) { s with toks:=t}):wpAny (model X.prog X.w) A (pyHash u) Q E s:=by
 simp only[TK.d] at r;cases r with
 |flat q _=>cases q;obtain⟨t,rfl⟩:=ru;exact wpAny_pyHash_str (by simpa only[TK.hash] using h _)
theorem N7{A:Around}{E:Value->Shared->Prop}{s:Shared}{y:V}{u:Value}{Q:Int->Shared->Prop}(r:bf X.K H [y] [TK.d .az])(ru:RelV y u)(h:∀t,Q (TK.hash X.w .az) { s with toks:=t}):wpAny (model X.prog X.w) A (pyHash u) Q E s:=by
 simp only[TK.d] at r;cases r with
 |flat q _=>
  cases q;cases ru;have hT:s.TypeIs .none "NoneType":=rfl;unfold pyHash;have hv:[Value.none].any Value.onHeap=false:=rfl;refine wpAny_bind ?_;rw[cRoomFor,if_neg (by rw[hv];exact nM)];refine wpAny_pure ?_
  refine wpAny_bind (wpAny_specialOf hT F.slot_NoneType_hash.lookup ?_);show wpAny _ _ (if(some (Value.builtin "NoneType.__hash__") == some Value.none)=true then _ else _) Q E s
  rw[if_neg (by rw[beq_builtin_none];exact nM)]
  refine wpAny_bind (wpAny_specialOf hT F.slot_NoneType_hash.lookup ?_);show wpAny _ _ (callSpecialIfBoundUnlessNone? .none "__hash__" _ >>= _) Q E s;refine wpAny_bind (wpAny_callSpecialIfBoundUnlessNone?_slot hT F.slot_NoneType_hash (wpAny_call_entry F.slot_NoneType_hash hT F.entry_NoneType_hash (show wpAny _ _ (do ret (<-mkInt 4238894112)) _ _ s from wpAny_ret_mkInt ?_) (F.args_NoneType_hash_1 _)))
  refine wpAny_pure ?_;have e:(if((4238894112:Int) == -1)=true then(-2:Int) else 4238894112)=4238894112:=by decide
  rw[e];simpa only[TK.hash] using h _
theorem Nf:∀(n:Nat) {A:Around} {E:Value->Shared->Prop} {s:Shared} {y:V} {u:Value} {k:TK} {Q:Int->Shared->Prop},Inv X ae Z H s->bf X.K H [y] [k.d]->k.ok n=true->RelV y u->A.units+n < cLine->
  (∀t,Q (k.hash X.w) { s with toks:=t})->wpAny (model X.prog X.w) A (pyHash u) Q E s:=by
 intro n
 induction n with
 |zero=>
  intro A E s y u k Q I r ok ru hu h;cases k with
  |tp l=>simp[TK.ok] at ok
  |inl i=>exact N5 r ru h
  |inr x=>exact N6 r ru h
  |az=>exact N7 r ru h
 |succ n ih=>
  intro A E s y u k Q I r ok ru hu h;cases k with
  |inl i=>exact N5 r ru h
  |inr x=>exact N6 r ru h
  |az=>exact N7 r ru h
  |tp l=>
   simp only[TK.d] at r;cases r with
   |flat q _=>cases q
   |@tup a ws _ _ _ q i _=>
    cases ru;obtain⟨aG,rv,pl,_⟩:=I.tuple q;have hT:s.TypeIs (.ref a) "tuple":=pl.typeIs;obtain⟨o,g1,g2,nn,g3⟩:=pl;have ok:l.all (TK.ok n)=true:=by simpa only[TK.ok] using ok
    show wpAny _ _ (pyHashByItsType (.ref a)) Q E s;unfold pyHashByItsType;refine wpAny_bind (wpAny_cRoomFor_or (.inr (by omega)) (wpAny_bind (wpAny_specialOf hT F.slot_tuple_hash.lookup ?_)))
    dsimp only;rw[if_neg (by rw[beq_builtin_none];exact nM)]
    refine wpAny_bind (wpAny_specialOf hT F.slot_tuple_hash.lookup (wpAny_bind ?_));refine wpAny_callSpecialIfBoundUnlessNone?_slot hT F.slot_tuple_hash (wpAny_call_entry F.slot_tuple_hash hT F.entry_tuple_hash ?_ (F.args_tuple_hash_1 _));show wpAny _ _ (Builtin.Tuple.tupleItemsOf (.ref a) >>= λz=>_) _ _ s
    refine wpAny_bind (wpAny_tupleItemsOf g1 g3 (wpAny_bind ?_));rw[<-Array.forIn_toList];refine wpAny_forIn_list _ (λrest (b:Array Int) s'=>∃done left wl t,l=done++left/\bf X.K H wl (TK.dl left)/\Vals wl rest/\b.toList=TK.fY X.w done/\s'={ s with toks:=t}) _ ?_ ?_ _ _ ⟨[],l,ws,s.toks,rfl,i,rv,by simp[TK.fY],rfl⟩
    ·rintro x rest b s' ⟨done,left,wl,t,e,r',v',hb,rfl⟩;cases v' with
     |@cons w1 _ wl _ Ko v'=>
      cases left with
      |nil=>have:=r'.length;simp[TK.dl] at this
      |cons k1 left=>
       simp only[TK.dl] at r';have bC:k1.ok n=true:=pA.mp ok k1 (by rw[e];simp)
       have fin:∀t',∃uU vk QI t'',l=uU++vk/\bf X.K H QI (TK.dl vk)/\Vals QI rest/\(b.push (k1.hash X.w)).toList=TK.fY X.w uU/\({ s with toks:=t'}:Shared)={ s with toks:=t''}:=
        λt'=>⟨done++[k1],left,wl,t',by simp[e],r'.inv.2,v',by rw[LO,<-hb];simp[TK.fY],rfl⟩
       exact wpAny_bind (ih (I.tok t) r'.inv.1 bC Ko (by show A.units+1+n < cLine;omega) λt'=>by
        first
         |exact wpAny_pure (fin t')
         |exact wpAny_bind (wpAny_pure (wpAny_pure (fin t'))))
    ·rintro b s' ⟨done,left,wl,t,e,r',v',hb,rfl⟩;cases v';have hl:left=[]:=by
      cases left with
      |nil=>rfl
      |cons _ _=>have:=r'.length;simp[TK.dl] at this
     subst hl;rw[p7] at e;subst e;show wpAny _ _ (retInt (Builtin.Tuple.tupleHashOf b.toList)) _ _ _;rw[hb];refine wpAny_ret_mkInt ?_;have h':∀t,Q (reduceHash (Builtin.Tuple.tupleHashOf (TK.fY X.w l))) { s with toks:=t}:=λt=>by simpa only[TK.hash] using h t
     unfold reduceHash at h';show wpAny _ _ (if(decide (-(2:Int) ^ 63<=Builtin.Tuple.tupleHashOf (TK.fY X.w l)) && decide (Builtin.Tuple.tupleHashOf (TK.fY X.w l) < 2 ^ 63))=true then _ else _) Q E _
     split
     ·rename_i hc
      rw[if_pos hc] at h';exact wpAny_pure (h' _)
     ·rename_i hc
      rw[if_neg hc] at h';exact wpAny_bind (wpAny_rule (wpAny_pure (h' _)))
theorem MF:∀(n:Nat) {A:Around} {E:Value->Shared->Prop} {s:Shared} {y:V} {u:Value} {k:TK} {Q:Bool->Shared->Prop},Inv X ae Z H s->bf X.K H [y] [k.d]->k.ok n=true->RelV y u->Q true s->
  wpAny (model X.prog X.w) A (eqIsQuiet n u) Q E s:=by
 intro n
 induction n with
 |zero=>
  intro A E s y u k Q I r ok ru h;cases k with
  |tp l=>simp[TK.ok] at ok
  |inl i=>simp only[TK.d] at r;cases r with|flat q _=>cases q;obtain⟨t,rfl⟩:=ru;rw[eqIsQuiet_byValue 0 rfl];exact wpAny_pure h
  |inr i=>simp only[TK.d] at r;cases r with|flat q _=>cases q;obtain⟨t,rfl⟩:=ru;rw[eqIsQuiet_byValue 0 rfl];exact wpAny_pure h
  |az=>simp only[TK.d] at r;cases r with|flat q _=>cases q;cases ru;rw[eqIsQuiet_byValue 0 rfl];exact wpAny_pure h
 |succ n ih=>
  intro A E s y u k Q I r ok ru h;cases k with
  |inl i=>simp only[TK.d] at r;cases r with|flat q _=>cases q;obtain⟨t,rfl⟩:=ru;rw[eqIsQuiet_byValue (n+1) rfl];exact wpAny_pure h
  |inr i=>simp only[TK.d] at r;cases r with|flat q _=>cases q;obtain⟨t,rfl⟩:=ru;rw[eqIsQuiet_byValue (n+1) rfl];exact wpAny_pure h
  |az=>simp only[TK.d] at r;cases r with|flat q _=>cases q;cases ru;rw[eqIsQuiet_byValue (n+1) rfl];exact wpAny_pure h
  |tp l=>
   simp only[TK.d] at r;cases r with
   |flat q _=>cases q
   |@tup a ws _ _ _ q i _=>
    cases ru;obtain⟨aG,rv,pl,_⟩:=I.tuple q;have hT:s.TypeIs (.ref a) "tuple":=pl.typeIs;obtain⟨o,g1,g2,nn,g3⟩:=pl;have ok:l.all (TK.ok n)=true:=by simpa only[TK.ok] using ok
    unfold eqIsQuiet;refine wpAny_bind (wpAny_specialOf hT F.slot_tuple_eq.lookup (wpAny_bind (wpAny_isInstance hT isSubtype_tuple_tuple ?_)));simp only[nZ,qx,if_false];refine wpAny_bind (wpAny_seqItems g1 g3 (wpAny_bind ?_));show wpAny _ _ (forIn aG.toArray _ _) _ _ s;rw[<-Array.forIn_toList];refine wpAny_forIn_list _ (λrest r s'=>r.1=none/\s'=s/\∃left wl,bf X.K H wl (TK.dl left)/\Vals wl rest/\∀x∈left,x.ok n=true) _ ?_ ?_ _ _ ⟨rfl,rfl,l,ws,i,rv,λx m=>pA.mp ok x m⟩
    ·rintro v rest r s' ⟨hr,rfl,left,wl,r',v',hk⟩;cases v' with
     |@cons w1 _ wl _ Ko v'=>
      cases left with
      |nil=>have:=r'.length;simp[TK.dl] at this
      |cons k1 left=>
       simp only[TK.dl] at r';refine wpAny_bind (ih I r'.inv.1 (hk k1 (by simp)) Ko ?_)
       simp only[nZ,qx,if_false];exact wpAny_pure ⟨rfl,rfl,left,wl,r'.inv.2,v',λx m=>hk x (by simp[m])⟩
    ·rintro⟨r1,r2⟩ s' ⟨hr,rfl,_⟩;cases(show r1=none from hr);exact wpAny_pure h
structure zM (X:Cx) (A:Around) (E:Value->Shared->Prop) (s:Shared) (xs:Array DictEntry) (es:List (TK×V×V)) (k:TK) (u:Value):Prop where
 ent:∀(j:Nat) (x:DictEntry),xs[j]?=some x->∃e,es[j]?=some e/\jT X.w e x/\(∀(R:Bool->Shared->Prop),R (decide (e.1=k)) s->wpAny (model X.prog X.w) A (eqBool x.key u) R E s)/\
  ∀(R:Bool->Shared->Prop),R true s->wpAny (model X.prog X.w) A (eqIsQuiet 8 x.key) R E s
 ents:∀(j:Nat) (e:TK×V×V),es[j]?=some e->∃x:DictEntry,xs[j]?=some x/\jT X.w e x
 uniq:∀(i j:Nat) (e f:TK×V×V),es[i]?=some e->es[j]?=some f->e.1=k->f.1=k->i=j
theorem Y2{A:Around}{E:Value->Shared->Prop}{s:Shared}{xs:Array DictEntry}{es:List (TK×V×V)}{k:TK}{y:V}{u:Value}(I:Inv X ae Z H s)(g3:Paired (jT X.w) es xs.toList)(g4:(es.map (·.1)).Nodup)
  (rk:bf X.K H (es.map (·.2.1)) (es.map (·.1.d))) (ry:bf X.K H [y] [k.d]) (ok:k.ok 8=true) (ru:RelV y u) (hu:A.units+8 < cLine):zM X A E s xs es k u where
 ent:=λj x hx=>by
  obtain⟨e,e1,e2⟩:=Dl j g3 (by rw[ur];exact hx)
  obtain⟨v,v1,v2⟩:=rk.get (i:=j) (d:=e.1.d) (by rw[jx,e1];rfl)
  rw[jx,e1] at v1;cases v1;refine⟨e,e1,e2,λR hR=>?_,λR hR=>MF 8 I v2 e2.2.2.2 e2.2.1 hR⟩
  refine(AI I 8 8 v2 ry (yP 8 e2.2.2.2) (yP 8 ok) e2.2.1 ru hu).1 X.prog X.w E R ?_;rw[HW];exact hR
 ents:=λj e he=>by
  obtain⟨x,x1,x2⟩:=Ad j g3 he;exact⟨x,by rw[<-ur];exact x1,x2⟩
 uniq:=λi j e f he hf ek fk=>by
  have hi:(es.map (·.1))[i]?=some k:=by rw[jx,he,<-ek];rfl
  have hj:(es.map (·.1))[j]?=some k:=by rw[jx,hf,<-fk];rfl
  exact(List.getElem?_inj (jQ.mp hi).1 g4).mp (hi.trans hj.symm)
section
variable {A:Around} {E:Value->Shared->Prop} {s:Shared} {d:Addr} {o:Obj} {xs:Array DictEntry} {ep:Nat} {es:List (TK×V×V)} {k:TK} {u:Value} {Q:Option Nat->Shared->Prop}
abbrev nH(xs:Array DictEntry)(h:Int):List Nat:=placesWithHash xs.size (λi=>xs[i]?.map (·.hash)) h
theorem mL{h:Int}{i:Nat}:i∈nH xs h↔∃x,xs[i]?=some x/\x.hash=h:=by
 unfold nH placesWithHash;rw[zC,qu];constructor
 ·rintro⟨h1,h2⟩;refine⟨xs[i],rT h1,?_⟩;dsimp only at h2;rw[rT h1] at h2;simpa using h2
 ·rintro⟨x,h1,h2⟩;refine⟨(CC.mp h1).1,?_⟩;dsimp only;rw[h1,E3,h2];simp
theorem TC{h:Int}:(nH xs h).Nodup:=List.Nodup.sublist List.filter_sublist Lb
theorem zM.nH(D:zM X A E s xs es k u){j:Nat}{e:TK×V×V}(he:es[j]?=some e)(ek:e.1=k):j∈nH xs (k.hash X.w):=by
 obtain⟨x,x1,x2⟩:=D.ents j e he;exact mL.mpr ⟨x,x1,by rw[x2.1,ek]⟩
theorem TF(D:zM X A E s xs es k u)(g1:s.heap.get? d=some o)(g2:o.data=.dict xs ep)
  (q0:(∀(j:Nat) (e:TK×V×V),es[j]?=some e->e.1≠k)->Q none s) (q1:∀(j:Nat) (e:TK×V×V),es[j]?=some e->e.1=k->Q (some j) s) :
  wpAny (model X.prog X.w) A (dictWalkPlain d u (k.hash X.w) xs (nH xs (k.hash X.w))) Q E s:=by
 unfold dictWalkPlain;refine wpAny_bind (wpAny_forIn_list _ (λrest b s'=>s'=s/\b=(none,())/\∃done,nH xs (k.hash X.w)=done++rest/\∀j e,j∈done->es[j]?=some e->e.1≠k) _ ?_ ?_ _ _ ⟨rfl,rfl,[],rfl,λ_ _ m=>by cases m⟩)
 ·rintro i rest b s' ⟨rfl,rfl,done,hd,sv⟩;obtain⟨x,x1,x2⟩:=mL.mp (show i∈nH xs (k.hash X.w) by rw[hd];simp)
  obtain⟨e,e1,e2,eq,_⟩:=D.ent i x x1;simp only[x1];rw[if_pos (by rw[x2];simp)]
  refine wpAny_bind (wpAny_dictEpoch g1 g2 (wpAny_bind (eq _ (wpAny_bind (wpAny_dictEpoch g1 g2 ?_)))));rw[if_neg (by simp)]
  by_cases ek:e.1=k
  ·rw[decide_eq_true ek];exact wpAny_bind (wpAny_rule (wpAny_pure (wpAny_pure (q1 i e e1 ek))))
  ·rw[decide_eq_false ek];refine wpAny_bind (wpAny_rule (wpAny_pure ⟨rfl,rfl,done++[i],by simp[hd],λj f m hf=>?_⟩))
   rcases pj.mp m with m|m
   ·exact sv j f m hf
   ·simp at m;subst m;rw[e1] at hf;cases hf;exact ek
 ·rintro b s' ⟨rfl,rfl,done,hd,sv⟩;refine wpAny_pure (q0 λj e he ek=>sv j e ?_ he ek)
  have:=D.nH he ek;rw[hd] at this;simpa using this
def idv(u:Value):Value:=u
theorem Vm(D:zM X A E s xs es k u)(g1:s.heap.get? d=some o)(g2:o.data=.dict xs ep)(hq:∀(R:Bool->Shared->Prop),R true s->wpAny (model X.prog X.w) A (eqIsQuiet 8 u) R E s)
  (hs:∀z t,u=.str z t->k=.inr z) (oA:∀(j:Nat) (x:DictEntry) (e:TK×V×V) z t,xs[j]?=some x->es[j]?=some e->x.key=.str z t->e.1=.inr z) (hh:∀a (j:Nat) (x:DictEntry) (e:TK×V×V),u=.ref a->xs[j]?=some x->es[j]?=some e->x.key=u->e.1=k)
  (q0:(∀(j:Nat) (e:TK×V×V),es[j]?=some e->e.1≠k)->Q none s) (q1:∀(j:Nat) (e:TK×V×V),es[j]?=some e->e.1=k->Q (some j) s) :
  wpAny (model X.prog X.w) A (dictFind d u (k.hash X.w)) Q E s:=by
 have walk:=TF D g1 g2 q0 q1;have stored:∀v∈(nH xs (k.hash X.w)).filterMap (λi=>xs[i]?.map (·.key)),∀(R:Bool->Shared->Prop),R true s->wpAny (model X.prog X.w) A (eqIsQuiet 8 v) R E s:=by
  intro v hv R hR;obtain⟨i,_,hi⟩:=Cw.mp hv;cases hx:xs[i]? with
  |none=>rw[hx] at hi;cases hi
  |some x=>
   rw[hx] at hi;obtain rfl:x.key=v:=by simpa using hi
   obtain⟨e,_,_,_,h⟩:=D.ent i x hx;exact h R hR
 have tell:∀(R:Bool->Shared->Prop),R false s->wpAny (model X.prog X.w) A (tableMayTell u ((nH xs (k.hash X.w)).filterMap λi=>xs[i]?.map (·.key))) R E s:=by
  intro R hR;unfold tableMayTell;split
  ·exact wpAny_pure hR
  ·refine wpAny_bind (hq _ ?_);simp only[nZ,qx,if_false];refine wpAny_bind (wpAny_forIn_list _ (λrest r s'=>s'=s/\r=(none,())/\∀v∈rest,∀(R:Bool->Shared->Prop),R true s->wpAny (model X.prog X.w) A (eqIsQuiet 8 v) R E s) _ ?_ ?_ _ _ ⟨rfl,rfl,stored⟩)
   ·rintro x rest r s' ⟨rfl,rfl,hr⟩;refine wpAny_bind (hr x (by simp) _ ?_)
    simp only[nZ,qx,if_false];exact wpAny_pure ⟨rfl,rfl,λv hv=>hr v (by simp[hv])⟩
   ·rintro r s' ⟨rfl,rfl,_⟩;exact wpAny_pure hR
 have tell2:∀(R:Bool->Shared->Prop),R false s->wpAny (model X.prog X.w) A (if((nH xs (k.hash X.w)).filterMap (λi=>xs[i]?.map (·.key)) == [u])=true then pure false else tableMayTell u ((nH xs (k.hash X.w)).filterMap λi=>xs[i]?.map (·.key))) R E s:=by
  intro R hR;split
  ·exact wpAny_pure hR
  ·exact tell R hR
 have fin:∀(i:Nat) (x:DictEntry) (e:TK×V×V),xs[i]?=some x->es[i]?=some e->jT X.w e x->(x.hash == k.hash X.w)=false->e.1≠k:=λi x e _ _ he hf ek=>by
  rw[he.1,ek] at hf;simp at hf
 unfold dictFind
 (try with_reducible refine wpAny_holding ?_);refine wpAny_bind (wpAny_dictEntries g1 g2 ?_)
 dsimp only;by_cases ko:((u::(nH xs (k.hash X.w)).filterMap λi=>xs[i]?.map (·.key)).all carriedByValue)=true
 ·rw[if_pos ko];split;next z t=>
   split;next JK=>
    unfold foundByValue;cases hf:xs.findIdx? (λe=>e.key.isStr z) with
    |none=>
     refine wpAny_pure (q0 λj e he ek=>?_)
     obtain⟨x,x1,x2⟩:=D.ents j e he;have n1:=Array.findIdx?_eq_none_iff.mp hf x (Array.mem_of_getElem? x1);have e2:=x2.2.1;have n2:isExactStrKey x.key=true:=by
      have h:=Array.all_eq_true.mp JK j (CC.mp x1).1;rw[(CC.mp x1).2] at h;exact h
     cases hk:x.key with
     |str z2 t2=>
      have e3:=oA j x e z2 t2 x1 he hk;rw[ek,hs z t rfl] at e3;cases e3;rw[hk] at n1;simp[Value.isStr] at n1
     |_=>rw[hk] at n2;cases n2
    |some i=>
     obtain⟨oz,hi,_⟩:=Array.findIdx?_eq_some_iff_getElem.mp hf;obtain⟨e,e1,e2,eq,_⟩:=D.ent i xs[i] (rT oz);have ek:e.1=k:=by
      cases hk:xs[i].key with
      |str z2 t2=>
       rw[hk] at hi;have:z2=z:=by simpa[Value.isStr] using hi
       subst this;rw[oA i _ e z2 t2 (rT oz) e1 hk,hs z2 t rfl]
      |_=>rw[hk] at hi;simp[Value.isStr] at hi
     simp only[rT oz];refine wpAny_bind (wpAny_dictEpoch g1 g2 (wpAny_bind (eq _ (wpAny_bind (wpAny_dictEpoch g1 g2 ?_)))));rw[if_neg (by simp),decide_eq_true ek]
     exact wpAny_bind (wpAny_rule (wpAny_pure (q1 i e e1 ek)))
   next=>exact walk
  next=>exact walk
 ·rw[if_neg ko];have BO:∀z t,u=.str z t->¬(xs.all λe=>isExactStrKey e.key)=true:=by
   intro z t hu hx;refine ko (pA.mpr λv hv=>?_)
   rcases fV.mp hv with rfl|hv
   ·rw[hu];rfl
   ·obtain⟨i,_,hi⟩:=Cw.mp hv;cases sy:xs[i]? with
    |none=>rw[sy] at hi;cases hi
    |some x=>
     rw[sy] at hi;obtain rfl:x.key=v:=by simpa using hi
     have h:=Array.all_eq_true.mp hx i (CC.mp sy).1;rw[(CC.mp sy).2] at h;cases hk:x.key with
     |str _ _=>rfl
     |_=>rw[hk] at h;cases h
  have vm:∀a,u=.ref a->¬(xs.any λe=>e.key == u && e.hash != k.hash X.w)=true:=by
   intro a hu hx;rw[Array.any_eq_true] at hx;obtain⟨i,hi,hc⟩:=hx;rw[m6,beq_iff_eq,bne_iff_ne] at hc;obtain⟨e,e1,e2,_⟩:=D.ent i xs[i] (rT hi);have:=hh a i _ e hu (rT hi) e1 hc.1;exact hc.2 (by rw[e2.1,this])
  have Jy:u=idv u:=rfl;refine(λ(key:?P)=>?main) ?k
  case main=>
   rw(occs:=.pos [1]) [Jy];split
   ·rename_i z t hz
    rw[if_neg (BO z t hz)];rw(occs:=.pos [1]) [Jy];split
    ·rename_i a ha
     rw[if_neg (vm a ha)];exact key
    ·exact key
   ·rw(occs:=.pos [1]) [Jy];split
    ·rename_i a ha
     rw[if_neg (vm a ha)];exact key
    ·exact key
  refine(λ(BB:?P2)=>?BF) ?k2
  case BF=>
   refine TB ?_ ?_
   ·refine wpAny_bind (wpAny_pure ?_);exact BB
   ·refine wpAny_bind (tell _ ?_);exact BB
  all_goals (
   show wpAny _ _ (if(false && _)=true then _ else _) _ _ _
   rw[if_neg (by rw[E'];exact nM)]
   refine wpAny_bind (wpAny_forIn_list _ (λrest b s'=>s'=s/\∃hit done,b=(none,hit)/\nH xs (k.hash X.w)=done++rest/\((hit=none/\∀(j:Nat) (e:TK×V×V),j∈done->es[j]?=some e->e.1≠k)\/∃(j:Nat) (e:TK×V×V),hit=some j/\j∈done/\es[j]?=some e/\e.1=k)) _ ?_ ?_ _ _
    ⟨rfl,none,[],rfl,rfl,.inl ⟨rfl,λ_ _ m=>by cases m⟩⟩)
   ·rintro i rest b s' ⟨rfl,hit,done,rfl,hd,hH⟩;obtain⟨x,x1,x2⟩:=mL.mp (show i∈nH xs (k.hash X.w) by rw[hd];simp)
    obtain⟨e,e1,e2,eq,_⟩:=D.ent i x x1;have hni:i∉done:=λm=>by
     have:=TC (xs:=xs) (h:=k.hash X.w);rw[hd] at this;exact(p9.mp this).2.2 i m i (by simp) rfl
    simp only[x1];rw[if_pos (by rw[x2];simp)]
    refine wpAny_bind (wpAny_dictEpoch g1 g2 (wpAny_bind (eq _ (wpAny_bind (wpAny_dictEpoch g1 g2 ?_)))));rw[if_neg (by simp)]
    by_cases ek:e.1=k
    ·rw[decide_eq_true ek];rcases hH with⟨rfl,sv⟩|⟨j,f,rfl,jd,jf,fk⟩
     ·first|rw[if_pos rfl]|skip
      simp only[zH,qx,if_false];first|refine wpAny_bind (wpAny_pure ?_)|skip
      refine wpAny_bind (wpAny_rule ?_);split
      ·exact wpAny_pure (wpAny_pure (q1 i e e1 ek))
      ·exact wpAny_pure ⟨rfl,some i,done++[i],rfl,by simp[hd],.inr ⟨i,e,rfl,by simp,e1,ek⟩⟩
     ·exact absurd (D.uniq i j e f e1 jf ek fk) λz=>hni (by rw[z];exact jd)
    ·rw[decide_eq_false ek];have nx:(hit=none/\∀(j:Nat) (e:TK×V×V),j∈done++[i]->es[j]?=some e->e.1≠k)\/∃(j:Nat) (e:TK×V×V),hit=some j/\j∈done++[i]/\es[j]?=some e/\e.1=k:=by
      rcases hH with⟨h0,sv⟩|⟨j,f,h0,jd,jf,fk⟩
      ·refine .inl ⟨h0,λj f m hf=>?_⟩
       rcases pj.mp m with m|m
       ·exact sv j f m hf
       ·simp at m;subst m;rw[e1] at hf;cases hf;exact ek
      ·exact .inr ⟨j,f,h0,by simp[jd],jf,fk⟩
     simp only[qx,if_false];refine wpAny_bind (wpAny_rule ?_);first|rw[if_neg (by simp)]|skip
     first
      |exact wpAny_pure ⟨rfl,hit,done++[i],rfl,by simp[hd],nx⟩
      |exact wpAny_bind (wpAny_pure (wpAny_pure ⟨rfl,hit,done++[i],rfl,by simp[hd],nx⟩))
   ·rintro b s' ⟨rfl,hit,done,rfl,hd,hH⟩;rcases hH with⟨rfl,sv⟩|⟨j,f,rfl,jd,jf,fk⟩
    ·refine wpAny_pure (q0 λj e he ek=>sv j e ?_ he ek)
     have:=D.nH he ek;rw[hd] at this;simpa using this
    ·exact wpAny_pure (q1 j f jf fk))
end
end
end L2
namespace L2
open PySem PySem.Spec PyProof.Rows
variable{k:TK}{y:V}{o:Option V}{Q:Value->Shared->Prop}{H':Hp}
def ky(es:List (TK×V×V))(k:TK):Option V:=(es.find? λe=>decide (e.1=k)).map (·.2.2)
def eV:List (TK×V×V)->TK->V->V->List (TK×V×V)
 |[],k,y,v=>[(k,y,v)]
 |e::es,k,y,v=>if e.1=k then(e.1,e.2.1,v)::es else e::eV es k y v
def p5(es:List (TK×V×V))(k:TK)(ep:Nat):Nat:=if(es.any λe=>decide (e.1=k))=true then ep else ep+1
def jo(K:PySem.W.Frag)(H:Hp)(a:Addr)(y:V)(r:Option V):Prop:=∃es ep k,H a=some (.dG es ep)/\bf K H (es.map (·.2.1)) (es.map (·.1.d))/\bf K H [y] [k.d]/\k.ok 8=true/\r=ky es k
def vU(K:PySem.W.Frag)(H:Hp)(a:Addr)(y v:V)(H':Hp):Prop:=∃es ep k,H a=some (.dG es ep)/\bf K H (es.map (·.2.1)) (es.map (·.1.d))/\bf K H [y] [k.d]/\k.ok 8=true/\es.length < sizeLine/\H'=upd H a (.dG (eV es k y v) (p5 es k ep))
theorem W9{j:TK}(e:k.d=j.d)(h:k.ok 8=true):k=j:=by
 have h1:=HW k j;rw[<-e,Hh 8 (yP 8 h)] at h1;exact of_decide_eq_true h1.symm
section
variable {X:Cx} {ae:List (Addr×Obj)} {Z:St} {H:Hp}
theorem N8{z:Str}{t:Tok}(r:bf X.K H [y] [k.d])(ru:RelV y (.str z t)):k=.inr z:=by
 cases k with
 |inl i=>simp only[TK.d] at r;cases r with|flat q _=>cases q;obtain⟨t,e⟩:=ru;cases e
 |inr i=>simp only[TK.d] at r;cases r with|flat q _=>cases q;obtain⟨t,e⟩:=ru;cases e;rfl
 |tp l=>simp only[TK.d] at r;cases r with|flat q _=>cases q|tup q _ _=>cases ru
 |az=>simp only[TK.d] at r;cases r with|flat q _=>cases q;cases ru
theorem N9{a:Addr}(ru:RelV y (.ref a)):y=.ref a:=by
 cases y with
 |ref b=>cases ru;rfl
 |az=>cases ru
 |bl _=>cases ru
 |ty _=>cases ru
 |_=>obtain⟨t,e⟩:=ru;cases e
section
variable {A:Around} {E:Value->Shared->Prop} {s:Shared} {d:Addr} {es:List (TK×V×V)} {k:TK} {y v:V} {u r:Value}
theorem O2{o:Obj}{xs:Array DictEntry}{ep:Nat}{Q:Option Nat->Shared->Prop}(I:Inv X ae Z H s)(g1:s.heap.get? d=some o)(g2:o.data=.dict xs ep)(g3:Paired (jT X.w) es xs.toList)(g4:(es.map (·.1)).Nodup)
  (rk:bf X.K H (es.map (·.2.1)) (es.map (·.1.d))) (ry:bf X.K H [y] [k.d]) (ok:k.ok 8=true) (ru:RelV y u) (hu:A.units+8 < cLine)
  (q0:(∀(j:Nat) (e:TK×V×V),es[j]?=some e->e.1≠k)->Q none s) (q1:∀(j:Nat) (e:TK×V×V),es[j]?=some e->e.1=k->Q (some j) s):wpAny (model X.prog X.w) A (dictFind d u (k.hash X.w)) Q E s:=by
 have at':∀(j:Nat) (x:DictEntry) (e:TK×V×V),xs[j]?=some x->es[j]?=some e->jT X.w e x/\bf X.K H [e.2.1] [e.1.d]:=by
  intro j x e hx he;obtain⟨e',e1,e2⟩:=Dl j g3 (by rw[ur];exact hx)
  rw[he] at e1;cases e1;obtain⟨v,v1,v2⟩:=rk.get (i:=j) (d:=e.1.d) (by rw[jx,he];rfl)
  rw[jx,he] at v1;cases v1;exact⟨e2,v2⟩
 refine Vm (Y2 I g3 g4 rk ry ok ru hu) g1 g2 (λR hR=>MF 8 I ry ok ru hR) (λz t e=>N8 ry (by rw[<-e];exact ru)) (λj x e z t hx he hk=>?_) (λa j x e qX hx he hk=>?_) q0 q1
 ·obtain⟨g,r'⟩:=at' j x e hx he;exact N8 r' (by rw[<-hk];exact g.2.1)
 ·obtain⟨g,r'⟩:=at' j x e hx he;have h1:=g.2.1;rw[hk,qX] at h1;rw[qX] at ru;rw[N9 h1] at r';rw[N9 ru] at ry;exact W9 (DP I 8 8 r' ry (yP 8 g.2.2.2) (yP 8 ok)) g.2.2.2
theorem TH(h:∀(j:Nat) (e:TK×V×V),es[j]?=some e->e.1≠k):ky es k=none:=by
 unfold ky;rw[List.find?_eq_none.mpr λe m z=>?_,Option.map_none]
 obtain⟨j,hj⟩:=yh.mp m;exact h j e hj (of_decide_eq_true z)
theorem TL(hn:(es.map (·.1)).Nodup){j:Nat}{e:TK×V×V}(he:es[j]?=some e)(ek:e.1=k):ky es k=some e.2.2:=by
 induction es generalizing j with
 |nil=>simp at he
 |cons x es ih=>
  rw[dX,sG] at hn;unfold ky;rw[zI];cases j with
  |zero=>
   simp only[List.getElem?_cons_zero,Option.some.injEq] at he;subst he;rw[decide_eq_true ek];rfl
  |succ j=>
   simp only[List.getElem?_cons_succ] at he;have ne:¬x.1=k:=λz=>hn.1 (by rw[z,<-ek];exact p_.mpr ⟨e,rR he,rfl⟩)
   rw[decide_eq_false ne];exact ih hn.2 he
theorem GZ{Q:Option Value->Shared->Prop}(hu:A.units+8 < cLine)(I:Inv X ae Z H s)(g:jo X.K H d y o)(ru:RelV y u)(h:∀w t,jF o w->Q w { s with toks:=t}):
  wpAny (model X.prog X.w) A (dictGet d u) Q E s:=by
 obtain⟨es,ep,k,hd,rk,ry,ok,rfl⟩:=g;obtain⟨_,_,ob,xs,g1,_,g2,g3,g4⟩:=(show bx X.prog X.w H s.heap d (.dG es ep) from I.bF d _ hd);unfold dictGet
 (try with_reducible refine wpAny_holding ?_);refine wpAny_bind (Nf 8 I ry ok ru hu λt=>wpAny_bind (O2 (I.tok t) g1 g2 g3 g4 rk ry ok ru hu (λq0=>?_) (λj e he ek=>?_)))
 ·exact wpAny_pure (h none t (by rw[TH q0];exact True.intro))
 ·obtain⟨x,x1,x2⟩:=Ad j g3 he;refine wpAny_bind (wpAny_dictEntries (s:={ s with toks:=t}) g1 g2 (wpAny_pure ?_));rw[<-ur,x1];exact h (some x.val) t (by rw[TL g4 he ek];exact x2.2.2.1)
theorem jo.ty(I:Inv X ae Z H s)(g:jo X.K H d y o):s.TypeIs (.ref d) "dict"/\(d == sysModules)=false:=by
 obtain⟨es,ep,k,hd,_⟩:=g;obtain⟨_,z,ob,xs,g1,g5,_⟩:=(show bx X.prog X.w H s.heap d (.dG es ep) from I.bF d _ hd);exact⟨⟨ob,g1,g5.1⟩,z⟩
theorem MG(hu:A.units+9 < cLine)(I:Inv X ae Z H s)(g:jo X.K H d y (some v))(ru:RelV y u)(h:∀w' s',Inv X ae Z H s'->RelV v w'->Q w' s'):wpAny (model X.prog X.w) A (getItem (.ref d) u) Q E s:=by
 have hT:=(g.ty I).1;unfold getItem
 (try with_reducible refine wpAny_holding ?_);refine wpAny_bind (wpAny_sequenceKey hT (by decide) (wpAny_bind (wpAny_callSpecial?_slot (name:=Str.ofString "__getitem__") hT slot_dict_getitem (wpAny_call_entry slot_dict_getitem hT entry_dict_getitem ?_ (args_dict_getitem _ _)))))
 show wpAny _ _ (dictGet d u >>= _) _ _ s;refine wpAny_bind (GZ (by show A.units+1+8 < cLine;omega) I g ru λw t mP=>?_)
 obtain⟨w',rfl,r'⟩:=jF.some_of mP;exact wpAny_pure ⟨w',rfl,wpAny_pure (h w' _ (I.tok t) r')⟩
theorem Me{Q:Bool->Shared->Prop}(hu:A.units+9 < cLine)(I:Inv X ae Z H s)(g:jo X.K H d y o)(ru:RelV y u)(h:∀s',Inv X ae Z H s'->Q o.isSome s'):wpAny (model X.prog X.w) A (contains (.ref d) u) Q E s:=by
 obtain⟨hT,hd⟩:=g.ty I;unfold contains
 (try with_reducible refine wpAny_holding ?_);refine wpAny_bind (wpAny_specialOf hT slot_dict_contains.lookup ?_)
 dsimp only;rw[if_neg (by rw[beq_builtin_none];exact nM)]
 refine wpAny_bind (wpAny_callSpecialUnlessNone?_slot (name:=Str.ofString "__contains__") hT slot_dict_contains (wpAny_call_entry slot_dict_contains hT entry_dict_contains ?_ (args_dict_contains _ _)));show wpAny _ _ (dictGet d u >>= _) _ _ s;refine wpAny_bind (GZ (by show A.units+1+8 < cLine;omega) I g ru λw t mP=>?_)
 have e:=mP.pV;cases w with
 |some w=>
  show wpAny _ _ (ret (.bool true)) _ _ _;refine wpAny_pure ⟨_,rfl,wpAny_truthy_bool ?_⟩;have:=h _ (I.tok t);rw[e] at this;exact this
 |none=>
  show wpAny _ _ (Builtin.Dict.pendingKey? d u >>= _) _ _ _;refine wpAny_bind (wpAny_pendingKey_other hd (wpAny_pure ⟨_,rfl,wpAny_truthy_bool ?_⟩));have:=h _ (I.tok t);rw[e] at this;exact this
theorem K2(hu:A.units+9 < cLine)(I:Inv X ae Z H s)(g:jo X.K H d y o)(ru:RelV y u)(h:∀s',Inv X ae Z H s'->Q (.bool o.isSome) s'):wpAny (model X.prog X.w) A (compareOp .In u (.ref d)) Q E s:=
 wpAny_bind (Me hu I g ru λs' I'=>wpAny_pure (h s' I'))
theorem W_(hu:A.units+9 < cLine)(I:Inv X ae Z H s)(g:jo X.K H d y o)(ru:RelV y u)(h:∀s',Inv X ae Z H s'->Q (.bool (!o.isSome)) s'):wpAny (model X.prog X.w) A (compareOp .NotIn u (.ref d)) Q E s:=
 wpAny_bind (Me hu I g ru λs' I'=>wpAny_pure (h s' I'))
theorem Dd(k:TK)(y v:V):∀es:List (TK×V×V),(eV es k y v).length<=es.length+1
 |[]=>by simp[eV]
 |e::es=>by
  unfold eV;have:=Dd k y v es;split <;> simp <;> omega
theorem Ng:∀{es:List (TK×V×V)},(∀(j:Nat) (e:TK×V×V),es[j]?=some e->e.1≠k)->eV es k y v=es++[(k,y,v)]
 |[],_=>rfl
 |e::es,h=>by
  unfold eV;rw[if_neg (h 0 e rfl),Ng λj x hx=>h (j+1) x (by simpa using hx)]
  rfl
theorem W'{w:World}{xs:List DictEntry}(g3:Paired (jT w) es xs)(ry:RelV y u)(rv:RelV v r)(ok:k.ok 8=true):Paired (jT w) (es++[(k,y,v)]) (xs++[⟨k.hash w,u,r⟩]):=by
 induction g3 with
 |nil=>exact .cons ⟨rfl,ry,rv,ok⟩ .nil
 |cons a _ ih=>exact .cons a ih
theorem N_{w:World}:∀{es:List (TK×V×V)} {xs:List DictEntry} {j:Nat} {e:TK×V×V},Paired (jT w) es xs->(es.map (·.1)).Nodup->es[j]?=some e->e.1=k->RelV v r->
  Paired (jT w) (eV es k y v) (xs.modify j λx=>{ x with val:=r})/\(eV es k y v).map (·.1)=es.map (·.1)
 |_,_,_,_,.nil,_,he,_,_=>by simp at he
 |_::es,_::xs,0,e,.cons a t,hn,he,ek,rv=>by
  simp only[List.getElem?_cons_zero,Option.some.injEq] at he;subst he;unfold eV;rw[if_pos ek];exact⟨.cons ⟨a.1,a.2.1,rv,a.2.2.2⟩ t,rfl⟩
 |x::es,_::xs,j+1,e,.cons a t,hn,he,ek,rv=>by
  simp only[List.getElem?_cons_succ] at he;rw[dX,sG] at hn;have ne:¬x.1=k:=λz=>hn.1 (by rw[z,<-ek];exact p_.mpr ⟨e,rR he,rfl⟩)
  unfold eV;rw[if_neg ne];have ih:=N_ t hn.2 he ek rv;exact⟨.cons a ih.1,by rw[dX,dX,ih.2]⟩
theorem G1{Q:Unit->Shared->Prop}(hu:A.units+8 < cLine)(I:Inv X ae Z H s)(g:vU X.K H d y v H')(ru:RelV y u)(rv:RelV v r)(h:∀s',Inv X ae Z H' s'->Q () s'):
  wpAny (model X.prog X.w) A (dictSet d u r) Q E s:=by
 obtain⟨es,ep,k,hd,rk,ry,ok,hl,rfl⟩:=g;obtain⟨_,z,ob,xs,g1,g5,g2,g3,g4⟩:=(show bx X.prog X.w H s.heap d (.dG es ep) from I.bF d _ hd);have hz:xs.size<=sizeLine:=by have:=Paired.length g3;simp at this;omega
 have EH:(eV es k y v).length<=sizeLine:=by have:=Dd k y v es;omega
 unfold dictSet
 (try with_reducible refine wpAny_holding ?_);refine wpAny_bind (Nf 8 I ry ok ru hu λt=>?_)
 unfold dictSetHashed
 (try with_reducible refine wpAny_holding ?_);refine wpAny_bind (O2 (I.tok t) g1 g2 g3 g4 rk ry ok ru hu (λq0=>?_) (λj e he ek=>?_))
 ·have PZ:eV es k y v=es++[(k,y,v)]:=Ng q0;have IV:p5 es k ep=ep+1:=if_neg (by
   rw[List.any_eq_true];rintro⟨e,m,q⟩;obtain⟨j,hj⟩:=yh.mp m;exact q0 j e hj (of_decide_eq_true q))
  rw[IV] at h;refine wpAny_bind (wpAny_rule (wpAny_updateDictKeys (hz:=hz) (s:={ s with toks:=t}) g1 g2 (h _ ?_)));refine HS (I.tok t) (by rw[hd];exact True.intro) (Heap.SameBut.update ..) ⟨_,rS _ g1 (Obj.isFreed_of_dict (Obj.data_mapDictKeys g2 _))⟩ ⟨EH,z,_,_,rS _ g1 (Obj.isFreed_of_dict (Obj.data_mapDictKeys g2 _)),g5.mapDictKeys _,Obj.data_mapDictKeys g2 _,?_,?_⟩
  ·rw[PZ,Array.toList_push];exact W' g3 ru rv ok
  ·rw[PZ,mV,p9];refine⟨g4,by simp,λa m b m' e=>?_⟩
   simp at m';subst m';obtain⟨x,mx,rfl⟩:=p_.mp m;obtain⟨j,hj⟩:=yh.mp mx;exact q0 j x hj e
 ·have em:=N_ (y:=y) g3 g4 he ek rv;have IV:p5 es k ep=ep:=if_pos (List.any_eq_true.mpr ⟨e,rR he,decide_eq_true ek⟩);rw[IV] at h;refine wpAny_bind (wpAny_rule (wpAny_bind (wpAny_updateDict (s:={ s with toks:=t}) g1 g2 (wpAny_point (h _ ?_)))));refine HS (I.tok t) (by rw[hd];exact True.intro) (Heap.SameBut.update ..) ⟨_,rS _ g1 (Obj.isFreed_of_dict (Obj.data_mapDict g2 _))⟩ ⟨EH,z,_,_,rS _ g1 (Obj.isFreed_of_dict (Obj.data_mapDict g2 _)),g5.mapDict _,Obj.data_mapDict g2 _,?_,?_⟩
  ·obtain⟨l⟩:=xs;simpa using em.1
  ·rw[em.2];exact g4
theorem TM{Q:Unit->Shared->Prop}(hu:A.units+9 < cLine)(I:Inv X ae Z H s)(g:vU X.K H d y v H')(ru:RelV y u)(rv:RelV v r)(h:∀s',Inv X ae Z H' s'->Q () s'):
  wpAny (model X.prog X.w) A (setItem (.ref d) u r) Q E s:=by
 have hT:s.TypeIs (.ref d) "dict":=by
  obtain⟨es,ep,k,hd,rk,ry,ok,_⟩:=g;exact(jo.ty I ⟨es,ep,k,hd,rk,ry,ok,rfl⟩).1
 unfold setItem
 (try with_reducible refine wpAny_holding ?_);refine wpAny_bind (wpAny_sequenceKey hT (by decide) (wpAny_bind (wpAny_callSpecial?_slot (name:=Str.ofString "__setitem__") hT slot_dict_setitem (wpAny_call_entry slot_dict_setitem hT entry_dict_setitem ?_ (args_dict_setitem _ _ _)))))
 show wpAny _ _ (Builtin.Dict.notOrdered "__setitem__" ⟨[.ref d,u,r],[]⟩ >>= _) _ _ s;refine wpAny_bind (wpAny_notOrdered_dict hT ?_);show wpAny _ _ (dictSet d u r >>= λz=>_) _ _ s
 exact wpAny_bind (G1 (by show A.units+1+8 < cLine;omega) I g ru rv λs' I'=>wpAny_pure ⟨.none,rfl,wpAny_pure (h s' I')⟩)
theorem Y3(hu:A.units+9 < cLine)(I:Inv X ae Z H s)(g:jo X.K H d y o)(ru:RelV y u)(h:∀w' s',Inv X ae Z H s'->RelV (o.getD .az) w'->Q w' s'):
  wpAny (model X.prog X.w) A (call (.builtin "dict.get") [.ref d,u]) Q E s:=by
 obtain⟨hT,hd⟩:=g.ty I;refine wpAny_call_entry PySem.F.slot_dict_get hT PySem.F.entry_dict_get ?_ (PySem.F.args_dict_get_2 _ _);show wpAny _ _ (dictGet d u >>= _) _ _ s;refine wpAny_bind (GZ (by show A.units+1+8 < cLine;omega) I g ru λw t mP=>?_)
 cases o with
 |none=>
  cases w with
  |none=>
   show wpAny _ _ (Builtin.Dict.missed d u >>= _) _ _ _;exact wpAny_bind (wpAny_missed_other hd (wpAny_pure ⟨.none,rfl,h .none _ (I.tok t) rfl⟩))
  |some w=>exact mP.elim
 |some v'=>
  cases w with
  |none=>exact mP.elim
  |some w=>exact wpAny_pure ⟨w,rfl,h w _ (I.tok t) mP⟩
end
end
end L2
namespace L2
open PySem PySem.Spec PyProof.Rows
section
variable {X:Cx}
def rH(K:PySem.W.Frag):R2:=λx y H Q=>∃l b xs zs,x=.ref l/\y=.ref b/\dY K H l xs/\dY K H b zs/\xs.length+zs.length<=sizeLine/\∀p,H p=none->Q (.ref p) (upd H p (.lst (xs++zs)))
theorem Xa:fW X (binaryOp .Add) (rH X.K):=by
 intro ae s Z H x y v u Q I rx ry h;obtain⟨l,b,xs,zs,rfl,rfl,hH,hB,hz,q⟩:=h;cases rx;cases ry;obtain⟨aG,r,pl,_⟩:=I.list hH;obtain⟨jN,r2,Ke,_⟩:=I.list hB;have hl:=r.length;have EH:=r2.length;obtain⟨⟨cls,dd,data,sl⟩,ho,hc,n,hd⟩:=id pl.isList;obtain⟨⟨cls2,Xo,data2,ET⟩,Qh,zh,n2,hd2⟩:=id Ke.isList;simp only at hc hd zh hd2;subst hc hd zh hd2;have ea:aG.toArray++jN.toArray=(aG++jN).toArray:=by simp
 refine concat_meets ⟨_,ho,rfl⟩ ⟨_,Qh,rfl⟩ noFill_list_add seq_list_add PySem.F.slot_list_add PySem.F.entry_list_add (PySem.F.args_list_add_2 _ _) (list_addW l b aG.toArray jN.toArray n n2 dd Xo sl ET (by simp only[fE];omega)) ⟨ho,Qh,?_⟩
 rw[ea];exact⟨.ref _,_,I.JX (t':=s.toks) (r.append r2) (by rw[f7];omega),rfl,q _ I.fresh⟩
theorem Vn(K:PySem.W.Frag)(hK:X.K=K:=by rfl):fW X (binaryOp .Add) (rH K):=hK ▸ Xa
end
variable{n:Nat}
instance (z:Str) (n:Int):Decidable (MulOk z n):=by unfold MulOk;infer_instance
abbrev rd(x:D):Rv:=.v (.d x)
section
variable {K:PySem.W.Frag} {k:Kn} {H:Hp} {x:V} {xs:List V} {d e:D} {vs:List V} {ds:List D}
theorem ai.vn(h:ai K k vs ds)(ok:ds.all (gc n)=true):ai K ⟨k.F,[],[]⟩ vs ds:=by
 induction h generalizing n with
 |nil=>exact .nil
 |flat e _ ih=>rw[rV,m6] at ok;exact .flat e (ih ok.2)
 |ref _ _ _=>rw[rV,m6] at ok;obtain⟨ok,_⟩:=ok;cases n <;> cases ok
 |lst e _ _ i1 i2=>
  rw[rV,m6] at ok;obtain⟨m,rfl,o⟩:=wa ok.1;exact .lst e (i1 o) (i2 ok.2)
 |tup e _ _ i1 i2=>
  rw[rV,m6] at ok;obtain⟨m,rfl,o⟩:=wb ok.1;exact .tup e (i1 o) (i2 ok.2)
 |aN _ _ _ _ _ _ _ _=>rw[rV,m6] at ok;obtain⟨ok,_⟩:=ok;cases n <;> cases ok
theorem Top.vn{n:Nat}(h:Top K k H x d)(le:aB k.F H)(ok:gc n d=true):bf K H [x] [d]:=ai.vn (k:=k.all H) (n:=n) (h.rep le) (by rw[rV,ok];rfl)
theorem Top.Qx(r:ai K k vs ds)(le:aB k.F H)(ok:ds.all (gc n)=true):bf K H vs ds:=ai.vn (k:=k.all H) (n:=n) (r.all le) ok
mutual
theorem ra:∀{v:V} (j:TK),ai K k [v] [j.d]->ai K ⟨k.F,[],[]⟩ [v] [j.d]
 |_,.inl i,h=>by simp only[TK.d] at h ⊢;rw[h.bu rfl];exact .flat rfl .nil
 |_,.inr x,h=>by simp only[TK.d] at h ⊢;rw[h.bu rfl];exact .flat rfl .nil
 |_,.az,h=>by simp only[TK.d] at h ⊢;rw[h.bu rfl];exact .flat rfl .nil
 |_,.tp l,h=>by
  simp only[TK.d] at h ⊢;obtain⟨a,ws,rfl,q,r⟩:=h.isTup;exact .tup q (rb l r) .nil
theorem rb:∀{vs:List V} (l:List TK),ai K k vs (TK.dl l)->ai K ⟨k.F,[],[]⟩ vs (TK.dl l)
 |_,[],h=>by simp only[TK.dl] at h ⊢;rw[h.iY];exact .nil
 |_,j::l,h=>by
  simp only[TK.dl] at h ⊢;obtain⟨w,us,rfl,h1,h2⟩:=h.cK;exact .cons (ra j h1) (rb l h2)
end
theorem Oa{es:List (TK×V×V)}{kvs:List (TK×D)}(q:es.map (·.1)=kvs.map (·.1))(r:ai K k (es.map (·.2.1)) (kvs.map (·.1.d)))(le:aB k.F H):bf K H (es.map (·.2.1)) (es.map (·.1.d)):=by
 have e1:kvs.map (·.1.d)=TK.dl (kvs.map (·.1)):=by rw[D8,sJ];rfl
 have e2:es.map (·.1.d)=TK.dl (es.map (·.1)):=by rw[D8,sJ];rfl
 rw[e1,<-q] at r;rw[e2];exact rb (k:=k.all H) _ (r.all le)
theorem Ob(h:Paired (Top K k H) xs [d]):∃x,xs=[x]/\Top K k H x d:=by
 cases h with
 |cons r t=>cases t;exact⟨_,rfl,r⟩
theorem Xb(h:Paired (Top K k H) xs [d,e]):∃x y,xs=[x,y]/\Top K k H x d/\Top K k H y e:=by
 cases h with
 |cons r t=>obtain⟨y,rfl,r'⟩:=Ob t;exact⟨_,_,rfl,r,r'⟩
end
def o1(f:D->Option Rv):List D->Option Rv
 |[a]=>f a
 |_=>none
def o2(f:D->D->Option Rv):List D->Option Rv
 |[a,b]=>f a b
 |_=>none
section
variable {X:Cx} {K:PySem.W.Frag}
theorem tW{r:List V->Hp->VK->Prop}{f:D->Option Rv}(h:∀k H x a y Q,aB k.F H->Top K k H x a->f a=some y->lI K k H y Q->r [x] H Q):cJ K r (o1 f):=λk H xs ds y Q le t e res=>by
 unfold o1 at e;split at e
 ·obtain⟨x,rfl,t1⟩:=Ob t;exact h k H x _ y Q le t1 e res
 ·cases e
theorem rB{r:List V->Hp->VK->Prop}{f:D->D->Option Rv}(h:∀k H x z a b y Q,aB k.F H->Top K k H x a->Top K k H z b->f a b=some y->lI K k H y Q->r [x,z] H Q):cJ K r (o2 f):=λk H xs ds y Q le t e res=>by
 unfold o2 at e;split at e
 ·obtain⟨x,z,rfl,t1,t2⟩:=Xb t;exact h k H x z _ _ y Q le t1 t2 e res
 ·cases e
theorem vo{r:R2}{f:D->D->Option Rv}(h:∀k H x z a b y Q,aB k.F H->Top K k H x a->Top K k H z b->f a b=some y->lI K k H y Q->r x z H Q):cJ K (mZ r) (o2 f):=rB λk H x z a b y Q le t1 t2 e res=>⟨x,z,rfl,h k H x z a b y Q le t1 t2 e res⟩
def sZ:D->D->Option Rv
 |.int i,.int j=>some (rd (.int (i+j)))
 |.str x,.str y=>if x.length+y.length<=1000000 then some (rd (.str (x++y))) else none
 |.lst xs,.lst ys=>if xs.length+ys.length<=1000000 then some (.o (.lst (xs++ys))) else none
 |_,_=>none
def vv(K:PySem.W.Frag):R2:=λx y H Q=>o9 (λi j=>.int (i+j)) x y H Q\/(∃i j,x=.str i/\y=.str j/\i.length+j.length<=sizeLine/\Q (.str (i++j)) H)\/rH K x y H Q
theorem Xc(K:PySem.W.Frag)(hK:X.K=K):fW X (binaryOp .Add) (vv K):=xA.or (oC.or (Vn K hK))
theorem Y4:cJ K (mZ (vv K)) (o2 sZ):=vo λk H x z a b y Q le t1 t2 e res=>by
 unfold sZ at e;split at e
 ·cases e;cases t1.flat rfl;cases t2.flat rfl;exact .inl ⟨_,_,rfl,rfl,res.flat le rfl⟩
 ·split at e
  ·cases e;cases t1.flat rfl;cases t2.flat rfl;exact .inr (.inl ⟨_,_,rfl,rfl,ml (by assumption),res.flat le rfl⟩)
  ·cases e
 ·split at e
  ·cases e;obtain⟨a1,ws1,rfl,s1,r1⟩:=t1.lst le;obtain⟨a2,Cs,rfl,s2,r2⟩:=t2.lst le;exact .inr (.inr ⟨a1,a2,ws1,Cs,rfl,rfl,s1,s2,ml (by rw[r1.length,r2.length];assumption),λp hp=>res.lst le (r1.append r2) hp⟩)
  ·cases e
 ·cases e
def iw(C:Int->Int->Bool)(f:Int->Int->D):D->D->Option Rv
 |.int i,.int j=>if C i j=true then some (rd (f i j)) else none
 |_,_=>none
theorem D9{r:R2}{C:Int->Int->Bool}{f:Int->Int->D}{g:Int->Int->V}(hf:∀i j,uP (f i j)=some (g i j))(hr:∀i j H Q,C i j=true->Q (g i j) H->r (.int i) (.int j) H Q):cJ K (mZ r) (o2 (iw C f)):=vo λk H x z a b y Q le t1 t2 e res=>by
 unfold iw at e;split at e
 ·split at e
  ·cases e;cases t1.flat rfl;cases t2.flat rfl;exact hr _ _ _ _ (by assumption) (res.flat le (hf _ _))
  ·cases e
 ·cases e
abbrev sE:Int->Int->Bool:=λ_ _=>true
theorem Y5:cJ K (mZ (o9 λi j=>.int (i - j))) (o2 (iw sE λi j=>.int (i - j))):=D9 (λ_ _=>rfl) λ_ _ _ _ _ q=>⟨_,_,rfl,rfl,q⟩
theorem Xd:cJ K (mZ (rI vN λi j=>.int (i / j))) (o2 (iw (λ_ j=>decide (0 < j/\j < 1073741824)) λi j=>.int (i / j))):=D9 (λ_ _=>rfl) λi j _ _ c q=>⟨_,_,rfl,rfl,show vN i j from of_decide_eq_true (p:=0 < j/\j < 1073741824) c,q⟩
theorem Y6:cJ K (mZ (rI (λ_ j=>0 < j) λi j=>.int (i % j))) (o2 (iw (λ_ j=>decide (0 < j)) λi j=>.int (i % j))):=D9 (λ_ _=>rfl) λ_ _ _ _ c q=>⟨_,_,rfl,rfl,of_decide_eq_true c,q⟩
theorem Il{f:Int->Int->Bool}:cJ K (mZ (o9 λi j=>.bl (f i j))) (o2 (iw sE λi j=>.bl (f i j))):=D9 (λ_ _=>rfl) λ_ _ _ _ _ q=>⟨_,_,rfl,rfl,q⟩
def tU:D->D->Option Rv
 |.int i,.int j=>if(-(2 ^ 64) < i/\i < 2 ^ 64)\/(-(2 ^ 64) < j/\j < 2 ^ 64) then some (rd (.int (i * j))) else none
 |.str z,.int j=>if MulOk z j then some (rd (.str (Txt.mul z j))) else none
 |_,_=>none
def vz:R2:=λx y H Q=>rI sM (λi j=>.int (i * j)) x y H Q\/∃z n,x=.str z/\y=.int n/\MulOk z n/\Q (.str (Txt.mul z n)) H
theorem Xe:fW X (binaryOp .Mult) vz:=xE.or Sn
theorem Y7:cJ K (mZ vz) (o2 tU):=vo λk H x z a b y Q le t1 t2 e res=>by
 unfold tU at e;split at e
 ·split at e
  ·cases e;cases t1.flat rfl;cases t2.flat rfl;exact .inl ⟨_,_,rfl,rfl,by assumption,res.flat le rfl⟩
  ·cases e
 ·split at e
  ·cases e;cases t1.flat rfl;cases t2.flat rfl;exact .inr ⟨_,_,rfl,rfl,by assumption,res.flat le rfl⟩
  ·cases e
 ·cases e
def pZ:D->Option Rv
 |.int i=>some (rd (.int (-i)))
 |_=>none
theorem Y8:cJ K (Kh (rU λi=>.int (-i))) (o1 pZ):=tW λk H x a y Q le t e res=>by
 unfold pZ at e;split at e
 ·cases e;cases t.flat rfl;exact⟨_,rfl,_,rfl,res.flat le rfl⟩
 ·cases e
end
end L2
namespace L2
open PySem PySem.Spec PyProof.Rows
section
variable {X:Cx} {ae:List (Addr×Obj)} {s:Shared} {Z:St} {H:Hp}
theorem Y9(I:Inv X ae Z H s){n m:Nat}{A:Around}{x y:V}{u v:Value}{d e:D}(rd:bf X.K H [x] [d])(re:bf X.K H [y] [e])(od:gc n d=true)(oe:gc m e=true)(ru:RelV x u)(rv:RelV y v)(hu:A.units+n < cLine):SeqAt.RcNeAt A s u v (!aY d e):=by
 have dC:A.units < cLine:=by omega
 have s1:=D7 I rd ru od;have s2:=D7 I re rv oe;cases s1 with
 |none=>
  cases s2 with
  |none=>
   simp only[aY];exact SeqAt.RcNeAt.none_none
  |bool a2=>
   simp only[aY];exact SeqAt.RcNeAt.none_bool a2
  |int a2 t2=>
   simp only[aY];exact SeqAt.RcNeAt.none_int a2 t2
  |str a2 t2=>
   simp only[aY];exact SeqAt.RcNeAt.none_str a2 t2
  |list l2 v2 r2=>
   simp only[aY];exact SeqAt.RcNeAt.none_list l2 dC
  |tuple l2 v2 r2=>
   simp only[aY];exact SeqAt.RcNeAt.none_tuple l2 dC
 |bool a1=>
  cases s2 with
  |none=>
   simp only[aY];exact SeqAt.RcNeAt.bool_none a1
  |bool a2=>
   simp only[aY];exact SeqAt.RcNeAt.bool_bool a1 a2
  |int a2 t2=>
   simp only[aY];exact SeqAt.RcNeAt.bool_int a1 a2 t2
  |str a2 t2=>
   simp only[aY];exact SeqAt.RcNeAt.bool_str a1 a2 t2
  |list l2 v2 r2=>
   simp only[aY];exact SeqAt.RcNeAt.bool_list a1 l2 dC
  |tuple l2 v2 r2=>
   simp only[aY];exact SeqAt.RcNeAt.bool_tuple a1 l2 dC
 |int a1 t1=>
  cases s2 with
  |none=>
   simp only[aY];exact SeqAt.RcNeAt.int_none a1 t1
  |bool a2=>
   simp only[aY];exact SeqAt.RcNeAt.int_bool a1 t1 a2
  |int a2 t2=>
   simp only[aY];exact SeqAt.RcNeAt.int_int a1 t1 a2 t2
  |str a2 t2=>
   simp only[aY];exact SeqAt.RcNeAt.int_str a1 t1 a2 t2
  |list l2 v2 r2=>
   simp only[aY];exact SeqAt.RcNeAt.int_list a1 t1 l2 dC
  |tuple l2 v2 r2=>
   simp only[aY];exact SeqAt.RcNeAt.int_tuple a1 t1 l2 dC
 |str a1 t1=>
  cases s2 with
  |none=>
   simp only[aY];exact SeqAt.RcNeAt.str_none a1 t1
  |bool a2=>
   simp only[aY];exact SeqAt.RcNeAt.str_bool a1 t1 a2
  |int a2 t2=>
   simp only[aY];exact SeqAt.RcNeAt.str_int a1 t1 a2 t2
  |str a2 t2=>
   simp only[aY];exact SeqAt.RcNeAt.str_str a1 t1 a2 t2
  |list l2 v2 r2=>
   simp only[aY];exact SeqAt.RcNeAt.str_list a1 t1 l2 dC
  |tuple l2 v2 r2=>
   simp only[aY];exact SeqAt.RcNeAt.str_tuple a1 t1 l2 dC
 |list l1 v1 r1=>
  cases s2 with
  |none=>
   simp only[aY];exact SeqAt.RcNeAt.list_none l1 dC
  |bool a2=>
   simp only[aY];exact SeqAt.RcNeAt.list_bool a2 l1 dC
  |int a2 t2=>
   simp only[aY];exact SeqAt.RcNeAt.list_int a2 t2 l1 dC
  |str a2 t2=>
   simp only[aY];exact SeqAt.RcNeAt.list_str a2 t2 l1 dC
  |list l2 v2 r2=>
   rename_i a aG ws es b jN Cs l_
   obtain⟨n',rfl,rq⟩:=wa od;obtain⟨m',rfl,rA⟩:=wa oe;have la:=v1.length;have lb:=v2.length;have JU:=r1.length;have JV:=r2.length;simp only[aY];by_cases hl:es.length=l_.length
   ·rw[Ak aG.toArray.size (by simp only[fE];omega) (by simp only[fE];omega)]
    refine SeqAt.RcNeAt.lists (A:=A) l1 l2 (by simp only[fE];omega) dC λj h1 h2=>?_
    obtain⟨x1,q1,q2,q3⟩:=uQ r1 v1 h1;obtain⟨y1,p1,p2,p3⟩:=uQ r2 v2 h2;exact(AI I n' m' q2 p2 (uJ rq q3) (uJ rA p3) q1 p1 (by show A.units+1+n' < cLine;omega)).1
   ·rw[Aj hl];exact SeqAt.RcNeAt.lists_lengths (A:=A) l1 l2 (by simp only[fE,bne_iff_ne,ne_eq];omega) dC
  |tuple l2 v2 r2=>
   simp only[aY];exact SeqAt.RcNeAt.list_tuple l1 l2 dC
 |tuple l1 v1 r1=>
  cases s2 with
  |none=>
   simp only[aY];exact SeqAt.RcNeAt.tuple_none l1 dC
  |bool a2=>
   simp only[aY];exact SeqAt.RcNeAt.tuple_bool a2 l1 dC
  |int a2 t2=>
   simp only[aY];exact SeqAt.RcNeAt.tuple_int a2 t2 l1 dC
  |str a2 t2=>
   simp only[aY];exact SeqAt.RcNeAt.tuple_str a2 t2 l1 dC
  |list l2 v2 r2=>
   simp only[aY];exact SeqAt.RcNeAt.tuple_list l1 l2 dC
  |tuple l2 v2 r2=>
   rename_i a aG ws es b jN Cs l_
   obtain⟨n',rfl,rq⟩:=wb od;obtain⟨m',rfl,rA⟩:=wb oe;have la:=v1.length;have lb:=v2.length;have JU:=r1.length;have JV:=r2.length;have z:=SeqAt.RcNeAt.tuples (A:=A) (e:=λj=>aY (es.getD j .az) (l_.getD j .az)) l1 l2 dC λj h1 h2=>by
    obtain⟨x1,q1,q2,q3⟩:=uQ r1 v1 h1;obtain⟨y1,p1,p2,p3⟩:=uQ r2 v2 h2;exact(AI I n' m' q2 p2 (uJ rq q3) (uJ rA p3) q1 p1 (by show A.units+1+n' < cLine;omega)).1
   simp only[aY];by_cases hl:es.length=l_.length
   ·rw[Ak aG.toArray.size (by simp only[fE];omega) (by simp only[fE];omega)]
    have e1:jN.toArray.size=aG.toArray.size:=by simp only[fE];omega
    rw[e1,Nat.min_self,beq_self_eq_true,CG] at z;exact z
   ·rw[Aj hl];have e1:(aG.toArray.size == jN.toArray.size)=false:=by rw[beq_eq_false_iff_ne];simp only[fE];omega
    rw[e1,vJ] at z;exact z
end
section
variable {X:Cx} {K:PySem.W.Frag}
def B3(K:PySem.W.Frag):R2:=λx y H Q=>∃d e,bf K H [x] [d]/\bf K H [y] [e]/\gc 40 d=true/\gc 40 e=true/\Q (.bl (!aY d e)) H
theorem Y_(K:PySem.W.Frag)(hu:X.A.units+40 < cLine)(hK:X.K=K:=by rfl):fW X (compareOp .NotEq) (B3 K):=by
 subst hK;intro ae s Z H x y v u Q I rx ry h;obtain⟨d,e,r1,r2,o1,o2,q⟩:=h;exact(Y9 I r1 r2 o1 o2 rx ry hu) X.prog X.w _ _ ⟨.bl _,H,I,rfl,q⟩
end
end L2
namespace L2
open PySem PySem.Spec PySem.W PySem.Calls PyProof.Rows
variable{P:Program}{w:World}{o:Expr}{to:TE}{apos bP:Pos}{elts:List Expr}{x1:Nat}
def jG(es:List (TK×V×V)):Prop:=∀e∈es,∃x,e.1=.inr x/\e.2.1=.str x
theorem Xf{es:List (TK×V×V)}{xs:List DictEntry}(p:Paired (jT w) es xs)(h:jG es):∃kvs:List (Str×Value),(∀x∈xs,∃k,(strKind P w).is k x.key=true/\x.hash=(strKind P w).hash k)/\Pairs (strKind P w) xs kvs/\kvs.map (λp=>TK.inr p.1)=es.map (·.1)/\Vals (es.map (·.2.2)) (kvs.map (·.2)):=by
 induction p with
 |nil=>exact⟨[],by simp,.nil,rfl,.nil⟩
 |@cons e x es xs r t ih=>
  obtain⟨kvs,h1,h2,h3,h4⟩:=ih λe m=>h e (oI _ m)
  obtain⟨z,e1,e2⟩:=h e (qa ..);obtain⟨r1,r2,r3,r4⟩:=r;rw[e2] at r2;obtain⟨t',r2⟩:=r2;have hk:(strKind P w).is z x.key=true:=by rw[r2];show Value.isStrOf z (.str z t')=true;simp[Value.isStrOf]
  refine⟨(z,x.val)::kvs,λy m=>?_,.cons hk rfl h2,by rw[dX,dX,h3,e1],.cons r3 h4⟩
  rcases fV.mp m with rfl|m
  ·exact⟨z,hk,by rw[r1,e1];rfl⟩
  ·exact h1 y m
section
variable {X:Cx} {ae:List (Addr×Obj)} {Z:St} {H:Hp} {s:Shared} {d:Addr} {es:List (TK×V×V)} {ep:Nat}
theorem yQ(I:Inv X ae Z H s)(hd:H d=some (.dG es ep))(ht:jG es):∃kvs,s.heap.DictAt (strKind X.prog X.w) d kvs ep/\Vals (es.map (·.2.2)) (kvs.map (·.2))/\kvs.map (λp=>TK.inr p.1)=es.map (·.1)/\kvs.length<=sizeLine/\(d == sysModules)=false:=by
 obtain⟨hz,lo,ob,xs,g1,g5,g2,g3,g4⟩:=(show bx X.prog X.w H s.heap d (.dG es ep) from I.bF d _ hd);obtain⟨kvs,h1,h2,h3,h4⟩:=Xf (P:=X.prog) g3 ht;refine⟨kvs,⟨ob,xs,g1,g5,g2,λx m=>h1 x (K6.mpr m),h2,?_⟩,h4,h3,?_,lo⟩
 ·rw[<-h3] at g4;rw[show(λp:Str×Value=>TK.inr p.1)=TK.inr∘(·.1) from rfl,<-sJ] at g4
  exact List.Pairwise.of_map _ (λa b ne z=>ne (by rw[z])) g4
 ·have:=congrArg List.length h3;rw[cz,cz] at this;omega
theorem DQ(I:Inv X ae Z H s)(hd:H d=some (.dG es ep)):s.TypeIs (.ref d) "dict"/\∀a,Value.ref d=.ref a->∃ob,s.heap.get? a=some ob/\ob.dict=none:=
 OZ (x:=.ref d) I rfl (.inr (.inr (.inl ⟨rfl,.inr (.inr ⟨es,ep,hd⟩)⟩)))
theorem Sq{ys:List V}{kvs:List (Str×Value)}{bA:Array Value}(rv:Vals ys (kvs.map (·.2)))(h:ItemsOf (λi v=>∃k,kvs[i]?=some (k,v)) bA kvs.length):Vals ys bA.toList:=by
 have e:bA.toList=kvs.map (·.2):=by
  apply List.ext_getElem?;intro i;by_cases hi:i < bA.toList.length
  ·have zo:i < bA.size:=by simpa using hi
   obtain⟨k,hk⟩:=h.2 i bA[i] (rT zo);rw[jx,hk,ur,rT zo];rfl
  ·rw[Lc (by omega),Lc (by rw[cz];have:=h.1;simp at hi;omega)]
 rw[e];exact rv
def Y'(to:TE):TE:=λZ H Q=>to Z H λx H1=>∃d es ep,x=.ref d/\H1 d=some (.dG es ep)/\jG es/\∀q,H1 q=none->Q (.ref q) (upd H1 q (.lst (es.map (·.2.2))))
theorem Vo{p pos:Pos}(Jw:Gl X "list")(JE:X.mg "list"=none)(ho:PE X o to)(hc:X.calm=true)
  (hs:starEach [.Call (.Attribute o "values" apos) [] [] bP] X.env=[(false,eval (.Call (.Attribute o "values" apos) [] [] bP) X.env)]:=by rfl)
  (gX:attributeBase o "values" X.env (eval o X.env)=eval o X.env:=by rfl) (gY:(apos.endLine == bP.line)=true:=by rfl):PE X (.Call (.Name "list" p) [.Call (.Attribute o "values" apos) [] [] bP] [] pos) (Y' to):=by
 intro ae s Z H Q I h;refine Call_ (wq I Jw JE As (PyProof.Rows.callWith_type1 ?_ hs rfl));rw[hs];show wpAny _ _ (spliced ((false,eval (.Call (.Attribute o "values" apos) [] [] bP) X.env)::[])) _ _ s;refine Calls.spliced_cons (wpAny_Call_method0_late gX gY (bI (ho ae s Z H _ I h) λv s1 hh=>?_))
 obtain⟨x,H1,I1,r1,d,es,ep,rfl,hd,ht,q⟩:=hh;cases r1;obtain⟨t1,t2⟩:=DQ I1 hd;obtain⟨kvs,D1,D2,D3,D4,lo⟩:=yQ I1 hd ht;refine⟨"dict","dict.values",PySem.F.plainAttrs_dict,PySem.F.slot_dict_values,PySem.F.type_dict_values,t1,t2,Calls.callWith_builtin rfl (PySem.evalArgs_none ?_)⟩;refine call_meetsIn PySem.F.slot_dict_values t1 PySem.F.entry_dict_values (PySem.F.args_dict_values_1 _) (meets_dict_values (strKind X.prog X.w) d lo) ⟨⟨kvs,D1.dictOf⟩,?_⟩;refine Calls.spliced_nil ?_;refine kdl_call (kdl_values (knd:=strKind X.prog X.w) (r:=s1.heap.objs.size) (d:=d) (kvs:=kvs) (ep:=ep)) (I1.ok.hd hc) ⟨⟨_,kA _ rfl,rfl,rfl⟩,D1.push _⟩ D4 λh' tk bA c kp hg hi=>?_
 have sz:(s1.heap.push { cls:=.type "dict_values",data:=.fields #[.ref d]}).objs.size=s1.heap.objs.size+1:=by simp[Heap.push]
 rw[show({ s1 with heap:=s1.heap.push { cls:=.type "dict_values",data:=.fields #[.ref d]}}:Shared).heap.objs.size=s1.heap.objs.size+1 from sz] at hg ⊢;have rv:=Sq D2 hi;refine⟨.ref (s1.heap.objs.size+1),_,I1.laid (t':=tk) (λb o e=>kp b o (fg _ e)) (um _) (show bx X.prog X.w _ h' _ (.lst (es.map (·.2.2))) from⟨?_,bA.toList,c,rv,by simpa using hg⟩),rfl,q _ (I1.bF.fresh (um _))⟩
 have:=congrArg List.length D3;rw[cz,cz] at this;rw[cz];omega
def vf:TK->Bool
 |.inr _=>true
 |_=>false
theorem O3{K:Frag}{F:Kn}:∀{ws:List (TK×V×V)} {ks:List TK},ws.map (·.1)=ks->ai K F (ws.map (·.2.1)) (ks.map (·.d))->ks.all vf=true->jG ws
 |[],_,_,_,_=>λe m=>nomatch m
 |w::ws,[],e,_,_=>by cases e
 |w::ws,k::ks,e,r,a=>by
  rw[dX,List.cons.injEq] at e;obtain⟨e1,e2⟩:=e;rw[rV,m6] at a;rw[dX,dX] at r;intro y m;rcases fV.mp m with rfl|m
  ·cases k with
   |inr x=>
    refine⟨x,e1,?_⟩;have:=r.inv.1;obtain⟨y1,y2,y3⟩:=y;dsimp only at this ⊢;cases this with
    |flat z _=>cases z;rfl
   |inl _=>cases a.1
   |tp _=>cases a.1
   |az=>cases a.1
  ·exact O3 e2 r.inv.2 a.2 y m
end
theorem QU:entryFor table "dict_itemiterator.__iter__"=some Builtin.«dict_keyiterator.__iter__»:=
 entryFor_alias (id':="dict_keyiterator.__iter__") (by kernel_rfl) rfl (by decide +kernel) (by kernel_rfl)
section
variable {prog:Program} {w:World} {A:Around} {E:Value->Shared->Prop} {s:Shared} {it d:Addr} {kvs:List (Str×Value)} {ep:Nat}
theorem LP{i n ep:Nat}{ok ov:Value}{Q:Value->Shared->Prop}(hit:IsItemIter s.heap it d i n ep ok ov)(h:Q (.ref it) s):wpAny (model prog w) A (pyIter (.ref it)) Q E s:=by
 have hT:s.TypeIs (.ref it) "dict_itemiterator":=⟨_,hit,rfl⟩;refine wpAny_pyIter_slot hT PySem.F.slot_dict_itemiterator_iter (wpAny_call_entry PySem.F.slot_dict_itemiterator_iter hT QU ?_ (PySem.F.args_dict_itemiterator_iter_1 _));show wpAny _ _ (ret (.ref it)) _ _ s;exact wpAny_pure ⟨_,rfl,"dict_itemiterator",_,hT,PySem.F.slot_dict_itemiterator_next.lookup,h⟩
theorem RZ(hh:A.handled=none)(it d:Addr)(ic:d≠it)(kvs:List (Str×Value))(ep:Nat):
  WalksT prog w A it [it,d] [it] kvs.length (λi vals=>∃k x key,kvs[i]?=some (k,x)/\(PySem.strKind prog w).is k key=true/\vals=#[key,x])
   (λi h=>(∃ok ov,IsItemIter h it d i kvs.length ep ok ov)/\h.DictAt (PySem.strKind prog w) d kvs ep)
   (λi T h=>(∃ok ov,IsItemIterOut h it d (i+1) kvs.length ep ok ov T)/\T≠it/\h.DictAt (PySem.strKind prog w) d kvs ep) where
 sub:=λb hb=>by simp at hb;simp[hb]
 frame:=λi h h' ⟨⟨ok,ov,a⟩,b⟩ k=>⟨⟨ok,ov,k it (by simp) _ a⟩,b.at' λo e=>k d (by simp) o e⟩
 item:=λi s Q E hi ⟨⟨ok,ov,a⟩,b⟩ hQ=>by
  obtain⟨⟨k,x⟩,hx⟩:∃p,kvs[i]?=some p:=⟨kvs[i],by simp[hi]⟩
  have lt:it < s.heap.objs.size:=eH a;refine wpAny_pyNext_items_item a b hx λkey h' hk o1 o2 o3 kp=>?_
  exact hQ s.heap.objs.size #[key,x] h' s.toks ⟨k,x,key,hx,hk,rfl⟩ (cI _) ⟨_,o2,rfl,_,rfl⟩ ⟨⟨_,_,o1⟩,vI lt,b.at' λo e=>kp d o ic e⟩ λb o hb e=>kp b o (λz=>hb (by simp[z])) e
 go:=λelts k pos i T s Q E ⟨⟨ok,ov,a⟩,b,c⟩ hQ=>wpAny_letOwnedTupleGo_items a λh' a' sb=>hQ h' ⟨⟨ok,ov,a'⟩,c.at' λo e=>(sb.2 d ic).trans e⟩ λb o hb e=>(sb.2 b (λz=>hb (by simp[z]))).trans e
 apart:=λi T h ⟨_,b,_⟩=>by simpa using b
 done:=λs Q E ⟨⟨ok,ov,a⟩,b⟩ hQ=>wpAny_pyNext_items_end hh a b (by simp) λh' eb=>hQ h' s.toks λb o hb e=>eb b o (λz=>hb (by simp[z])) e
 self:=λi s Q E ⟨⟨ok,ov,a⟩,_⟩ hQ=>LP a hQ
end
def Cr(es:List (TK×V×V))(i:Nat)(ws:List V):Prop:=∃e,es[i]?=some e/\ws=[e.2.1,e.2.2]
theorem Sr{K:Frag}{pos:Pos}{it d:Addr}(ic:d≠it)(es:List (TK×V×V))(ep:Nat):
  Turn P w K (.Tuple elts x1 pos) (yj (λH=>H d=some (.dG es ep)/\jG es) es.length (Cr es)) [it] it (λi h=>i<=es.length/\∃ok ov,IsItemIter h it d i es.length ep ok ov):=by
 refine MB (FP:=[it]) (wr:=[it]) (by simp) (λb hb=>hb) (λi h st b hb=>?_) (λi h h' st k=>?_) (λX hP hw hK hc ae s Z H I hS=>?_) (λA i s Q E st h=>?_)
 ·obtain⟨ok,ov,a⟩:=st;cases p8.mp hb;exact⟨_,a,λv z=>by cases z⟩
 ·obtain⟨ok,ov,a⟩:=st;exact⟨ok,ov,k it (by simp) _ a⟩
 ·subst hP hw hK;obtain⟨kvs,D1,D2,D3,D4,lo⟩:=yQ I hS.1 hS.2;have l1:kvs.length=es.length:=by have:=congrArg List.length D3;simpa using this
  have W:=RZ (prog:=X.prog) (w:=X.w) (A:=X.A) (I.ok.hd hc) it d ic kvs ep;rw[l1] at W;refine⟨_,_,_,_,W,λi st=>⟨st,D1⟩,λi h st=>st.1,λi vals hp=>?_⟩
  obtain⟨k,x,key,k1,k2,rfl⟩:=hp;have hi:i < es.length:=by have:=(jQ.mp k1).1;omega
  have e3:es[i]?=some es[i]:=jR hi;refine⟨[es[i].2.1,es[i].2.2],⟨_,e3,rfl⟩,.cons ?_ (.cons ?_ .nil),by show 2<=10;decide⟩
  ·obtain⟨z,z1,z2⟩:=hS.2 es[i] (uq hi);have k3:(kvs.map (λp=>TK.inr p.1))[i]?=(es.map (·.1))[i]?:=by rw[D3]
   rw[jx,jx,k1,e3] at k3;have k4:TK.inr k=es[i].1:=Option.some.inj k3;rw[z1] at k4;cases k4;rw[z2];exact Value.isStrOf_shape k2
  ·obtain⟨u,u1,u2⟩:=D2.get (i:=i) (x:=es[i].2.2) (by rw[jx,e3];rfl)
   rw[jx,k1] at u1;cases u1;exact u2
 ·obtain⟨ok,ov,a⟩:=st;exact LP a h
def O4(to:TE):TI:=λZ H R=>to Z H λx H1=>∃d es ep,x=.ref d/\H1 d=some (.dG es ep)/\jG es/\R (yj (λH=>H d=some (.dG es ep)/\jG es) es.length (Cr es)) H1
section
variable {X:Cx} {K:Frag}
theorem Vp{iz:Pos}(ho:PE X o to)(gX:attributeBase o "items" X.env (eval o X.env)=eval o X.env:=by rfl)(gY:(apos.endLine == bP.line)=true:=by rfl):
  PI X (.Tuple elts x1 iz) (.Call (.Attribute o "items" apos) [] [] bP) (O4 to):=by
 intro ae s Z H R I h;refine wpAny_Call_method0_late gX gY (bI (ho ae s Z H _ I h) λv s1 hh=>?_)
 obtain⟨x,H1,I1,r1,d,es,ep,rfl,hd,ht,q⟩:=hh;cases r1;obtain⟨t1,t2⟩:=DQ I1 hd;obtain⟨kvs,D1,D2,D3,D4,lo⟩:=yQ I1 hd ht;have l1:kvs.length=es.length:=by have:=congrArg List.length D3;simpa using this
 have ld:d < s1.heap.objs.size:=D1.lt_size;refine⟨"dict","dict.items",PySem.F.plainAttrs_dict,PySem.F.slot_dict_items,PySem.F.type_dict_items,t1,t2,Calls.callWith_builtin rfl (PySem.evalArgs_none ?_)⟩;refine call_meetsIn PySem.F.slot_dict_items t1 PySem.F.entry_dict_items (PySem.F.args_dict_items_1 _) (meets_dict_items (PySem.strKind X.prog X.w) d lo) ⟨⟨kvs,D1.dictOf⟩,?_⟩;refine wpAny_pyIter_items (knd:=PySem.strKind X.prog X.w) (v:=s1.heap.objs.size) (d:=d) (kvs:=kvs) (ep:=ep) ⟨_,kA _ rfl,rfl,rfl⟩ (D1.push _) ?_;have sz:(s1.heap.push { cls:=.type "dict_items",data:=.fields #[.ref d]}).objs.size=s1.heap.objs.size+1:=by simp[Heap.push]
 have hg:=kA (s1.heap.push { cls:=.type "dict_items",data:=.fields #[.ref d]}) (o:={ cls:=.type "dict_itemiterator",data:=.fields #[.none,.bool false,.ref d,.int 0 0,.int kvs.length 0,.int ep 0,.none,.none]}) rfl;rw[l1] at hg ⊢;refine⟨(s1.heap.push { cls:=.type "dict_items",data:=.fields #[.ref d]}).objs.size,[(s1.heap.push { cls:=.type "dict_items",data:=.fields #[.ref d]}).objs.size],_,_,H1,rfl,I1.kept (t':=s1.toks) λb o e=>fg _ (fg _ e),Sr (it:=(s1.heap.push { cls:=.type "dict_items",data:=.fields #[.ref d]}).objs.size) (d:=d) (by rw[sz];exact jl (yg ld)) es ep,⟨mU _,.none,.none,hg⟩,λb hb=>?_,q⟩
 cases p8.mp hb;have nV:s1.heap.objs.size<=(s1.heap.push { cls:=.type "dict_items",data:=.fields #[.ref d]}).objs.size:=by rw[sz];exact um _
 exact I1.mC nV (I1.bF.fresh nV)
end
end L2
namespace L2
open PySem PySem.Spec PyProof.Rows
section
variable {X:Cx} {K:PySem.W.Frag}
def BX(K:PySem.W.Frag):R2:=λx y H Q=>∃d e,bf K H [x] [d]/\bf K H [y] [e]/\gc 40 d=true/\gc 40 e=true/\Q (.bl (aY d e)) H
theorem Za(K:PySem.W.Frag)(hu:X.A.units+40 < cLine)(hK:X.K=K:=by rfl):fW X (compareOp .Eq) (BX K):=by
 subst hK;intro ae s Z H x y v u Q I rx ry h;obtain⟨d,e,r1,r2,o1,o2,q⟩:=h;exact(AI I 40 40 r1 r2 o1 o2 rx ry hu).2 X.prog X.w _ _ ⟨.bl _,H,I,rfl,q⟩
open Classical in
noncomputable def nW (K:PySem.W.Frag) (H:Hp) (dx:D) (u:Value):Bool:=decide (∃x d,RelV x u/\bf K H [x] [d]/\gc 40 d=true/\aY d dx=true)
open Classical in
theorem O5{ae:List (Addr×Obj)}{s:Shared}{Z:St}{H:Hp}(I:Inv X ae Z H s){dx d:D}{x:V}{u:Value}(rx:RelV x u)(r:bf X.K H [x] [d])(ok:gc 40 d=true):nW X.K H dx u=aY d dx:=by
 unfold nW;rw[CB,decide_eq_true_iff];constructor
 ·rintro⟨x',d',rx',r',i5,e⟩;have:=RelV.inj rx rx';subst this;rw[DP I 40 40 r r' ok i5];exact e
 ·exact λe=>⟨x,d,rx,r,ok,e⟩
theorem D_{ae:List (Addr×Obj)}{s:Shared}{Z:St}{H:Hp}(I:Inv X ae Z H s){dx:D}{ws:List V}{aG:List Value}{ds:List D}(t:Vals ws aG)(rp:bf X.K H ws ds)(ok:ds.all (gc 40)=true):aG.any (nW X.K H dx)=ds.any λd=>aY d dx:=by
 induction t generalizing ds with
 |nil=>
  cases ds with
  |nil=>rfl
  |cons _ _=>have:=rp.length;simp at this
 |cons r t ih=>
  cases ds with
  |nil=>have:=rp.length;simp at this
  |cons d ds=>
   rw[rV,m6] at ok;rw[List.any_cons,List.any_cons,O5 I r rp.inv.1 ok.1,ih rp.inv.2 ok.2]
theorem Ea{ae:List (Addr×Obj)}{s:Shared}{Z:St}{H:Hp}(I:Inv X ae Z H s){dx:D}{y:V}{v:Value}{A:Around}(rv:RelV y v)(ry:bf X.K H [y] [dx])(oy:gc 40 dx=true)(hu:A.units+40 < cLine):
  ∀{ws:List V} {aG:List Value} {ds:List D},Vals ws aG->bf X.K H ws ds->ds.all (gc 40)=true->∀u∈aG,SeqAt.EqAt A s u v (nW X.K H dx u):=by
 intro ws aG ds t
 induction t generalizing ds with
 |nil=>intro _ _ u m;cases m
 |cons r t ih=>
  intro rp ok u' m;cases ds with
  |nil=>have:=rp.length;simp at this
  |cons d ds=>
   rw[rV,m6] at ok;rcases fV.mp m with rfl|m
   ·rw[O5 I r rp.inv.1 ok.1];exact(AI I 40 40 rp.inv.1 ry ok.1 oy r rv hu).1
   ·exact ih rp.inv.2 ok.2 u' m
def xV:D->Option (List D)
 |.lst ds=>some ds
 |.tup ds=>some ds
 |_=>none
def xI(K:PySem.W.Frag)(neg:Bool):R2:=λx y H Q=>
 (∃d e ds,bf K H [x] [d]/\bf K H [y] [e]/\xV e=some ds/\gc 40 d=true/\ds.all (gc 40)=true/\Q (.bl (if neg then !ds.any λz=>aY z d else ds.any λz=>aY z d)) H)\/
 (∃i j,x=.str i/\y=.str j/\Q (.bl (if neg then !(!(Builtin.Str.occurrences j i 0 j.length 1).isEmpty) else !(Builtin.Str.occurrences j i 0 j.length 1).isEmpty)) H)\/
 ∃a o,y=.ref a/\jo K H a x o/\Q (.bl (if neg then !o.isSome else o.isSome)) H
theorem Zb(K:PySem.W.Frag)(hu:X.A.units+41 < cLine)(hK:X.K=K:=by rfl):fW X (compareOp .In) (xI K false):=by
 subst hK;intro ae s Z H x y v u Q I rx ry h;rcases h with⟨d,e,ds,r1,r2,es,o1,o2,q⟩|⟨i,j,rfl,rfl,q⟩|⟨a,o,rfl,g,q⟩
 ·have qX:X.A.in1.units+40 < cLine:=by show X.A.units+1+40 < cLine;omega
  cases r2 with
  |flat z _=>cases e <;> first|(cases z;done)|cases es
  |lst sq i _=>
   cases es;cases ry;obtain⟨aG,r,pl,hz⟩:=I.list sq;refine SeqAt.in_listAt (nW X.K H d) pl.isList (λw hw=>Ea I rx r1 o1 qX r i o2 w (by simpa using hw)) ⟨.bl _,H,I,rfl,?_⟩
   rw[show aG.toArray.any (nW X.K H d)=aG.any (nW X.K H d) by simp,D_ I r i o2]
   exact q
  |tup sq i _=>
   cases es;cases ry;obtain⟨aG,r,pl,hz⟩:=I.tuple sq;refine SeqAt.in_tupleAt (nW X.K H d) pl (λw hw=>Ea I rx r1 o1 qX r i o2 w (by simpa using hw)) ⟨.bl _,H,I,rfl,?_⟩
   rw[show aG.toArray.any (nW X.K H d)=aG.any (nW X.K H d) by simp,D_ I r i o2]
   exact q
  |aN _ _ _ _ _=>cases es
  |ref _ _=>cases es
 ·exact Ta ae s Z H _ _ v u Q I rx ry ⟨i,j,rfl,rfl,q⟩
 ·cases ry;exact K2 (by omega) I g rx λs3 I3=>⟨.bl o.isSome,H,I3,rfl,q⟩
theorem TN(K:PySem.W.Frag)(hu:X.A.units+41 < cLine)(hK:X.K=K:=by rfl):fW X (compareOp .NotIn) (xI K true):=by
 subst hK;intro ae s Z H x y v u Q I rx ry h;rcases h with⟨d,e,ds,r1,r2,es,o1,o2,q⟩|⟨i,j,rfl,rfl,q⟩|⟨a,o,rfl,g,q⟩
 ·have qX:X.A.in1.units+40 < cLine:=by show X.A.units+1+40 < cLine;omega
  cases r2 with
  |flat z _=>cases e <;> first|(cases z;done)|cases es
  |lst sq i _=>
   cases es;cases ry;obtain⟨aG,r,pl,hz⟩:=I.list sq;refine SeqAt.notIn_listAt (nW X.K H d) pl.isList (λw hw=>Ea I rx r1 o1 qX r i o2 w (by simpa using hw)) ⟨.bl _,H,I,rfl,?_⟩
   rw[show aG.toArray.any (nW X.K H d)=aG.any (nW X.K H d) by simp,D_ I r i o2]
   exact q
  |tup sq i _=>
   cases es;cases ry;obtain⟨aG,r,pl,hz⟩:=I.tuple sq;refine SeqAt.notIn_tupleAt (nW X.K H d) pl (λw hw=>Ea I rx r1 o1 qX r i o2 w (by simpa using hw)) ⟨.bl _,H,I,rfl,?_⟩
   rw[show aG.toArray.any (nW X.K H d)=aG.any (nW X.K H d) by simp,D_ I r i o2]
   exact q
  |aN _ _ _ _ _=>cases es
  |ref _ _=>cases es
 ·exact Rz ae s Z H _ _ v u Q I rx ry ⟨i,j,rfl,rfl,q⟩
 ·cases ry;exact W_ (by omega) I g rx λs3 I3=>⟨.bl (!o.isSome),H,I3,rfl,q⟩
def uV(ne:Bool)(a b:D):Option Rv:=if(gc 40 a && gc 40 b)=true then some (rd (.bl (if ne=true then !aY a b else aY a b))) else none
theorem Φ:cJ K (mZ (BX K)) (o2 (uV false)):=vo λk H x z a b y Q le t1 t2 e res=>by
 unfold uV at e;split at e
 ·rename_i h
  obtain⟨h1,h2⟩:=CD.mp h;cases e;exact⟨_,_,t1.vn le h1,t2.vn le h2,h1,h2,res.flat le rfl⟩
 ·cases e
theorem Ψ:cJ K (mZ (B3 K)) (o2 (uV true)):=vo λk H x z a b y Q le t1 t2 e res=>by
 unfold uV at e;split at e
 ·rename_i h
  obtain⟨h1,h2⟩:=CD.mp h;cases e;exact⟨_,_,t1.vn le h1,t2.vn le h2,h1,h2,res.flat le rfl⟩
 ·cases e
mutual
def qt:D->Option TK
 |.int i=>some (.inl i)
 |.str x=>some (.inr x)
 |.az=>some .az
 |.tup l=>(nK l).map .tp
 |_=>none
def nK:List D->Option (List TK)
 |[]=>some []
 |d::l=>(qt d).bind λk=>(nK l).map λks=>k::ks
end
def lS:D->Option TK
 |.int i=>some (.inl i)
 |.str x=>some (.inr x)
 |.az=>some .az
 |.tup l=>(nK l).bind λks=>if TK.ok 8 (.tp ks)=true then some (.tp ks) else none
 |_=>none
mutual
theorem Ω:∀{d:D} {k:TK},qt d=some k->k.d=d
 |.int i,k,e=>by simp only[qt] at e;cases e;simp[TK.d]
 |.str i,k,e=>by simp only[qt] at e;cases e;simp[TK.d]
 |.tup l,k,e=>by
  simp only[qt] at e;obtain⟨ks,h1,rfl⟩:=fR.mp e;simp only[TK.d];rw[oG h1]
 |.az,k,e=>by simp only[qt] at e;cases e;simp[TK.d]
 |.ref _,k,e=>by simp[qt] at e
 |.bl _,k,e=>by simp[qt] at e
 |.ty _,k,e=>by simp[qt] at e
 |.lst _,k,e=>by simp[qt] at e
 |.aN _,k,e=>by simp[qt] at e
theorem oG:∀{l:List D} {ks:List TK},nK l=some ks->TK.dl ks=l
 |[],ks,e=>by simp only[nK] at e;cases e;simp[TK.dl]
 |d::l,ks,e=>by
  simp only[nK] at e;obtain⟨k,h1,e⟩:=dB.mp e;obtain⟨vj,h2,rfl⟩:=fR.mp e;simp only[TK.dl];rw[Ω h1,oG h2]
end
theorem yR{d:D}{k:TK}(e:lS d=some k):k.d=d/\k.ok 8=true:=by
 cases d with
 |int i=>cases e;exact⟨by simp[TK.d],rfl⟩
 |str i=>cases e;exact⟨by simp[TK.d],rfl⟩
 |az=>cases e;exact⟨by simp[TK.d],rfl⟩
 |tup l=>
  simp only[lS] at e;obtain⟨ks,h1,e⟩:=dB.mp e;split at e
  ·rename_i h
   cases e;exact⟨by simp only[TK.d];rw[oG h1],h⟩
  ·cases e
 |_=>cases e
def bw(kvs:List (TK×D))(k:TK):Option D:=(kvs.find? λkv=>decide (kv.1=k)).map (·.2)
theorem HX{F:Kn}{k:TK}:∀{ws:List (TK×V×V)} {kvs:List (TK×D)},ws.map (·.1)=kvs.map (·.1)->ai K F (ws.map (·.2.2)) (kvs.map (·.2))->(ky ws k=none/\bw kvs k=none)\/∃v d,ky ws k=some v/\bw kvs k=some d/\ai K F [v] [d]
 |[],[],_,_=>.inl ⟨rfl,rfl⟩
 |w::ws,p::kvs,h,r=>by
  rw[dX,dX] at h;injection h with h1 h2;unfold ky bw;rw[zI,zI,h1];by_cases e:p.1=k
  ·rw[decide_eq_true e];exact .inr ⟨w.2.2,p.2,rfl,rfl,r.inv.1⟩
  ·rw[decide_eq_false e];exact HX h2 r.inv.2
 |[],_::_,h,_=>by simp at h
 |_::_,[],h,_=>by simp at h
theorem uk{k:Kn}{H:Hp}{x y:V}{kvs:List (TK×D)}{d:D}{j:TK}(le:aB k.F H)(t1:Top K k H x (.aN kvs))(t2:Top K k H y d)(hk:lS d=some j):∃a o,x=.ref a/\jo K H a y o/\((o=none/\bw kvs j=none)\/∃v e,o=some v/\bw kvs j=some e/\ai K k [v] [e]):=by
 obtain⟨a,es,ep,rfl,h1,h2,h3,h4⟩:=t1.aN le;obtain⟨k1,k2⟩:=yR hk;refine⟨a,ky es j,rfl,⟨es,ep,j,h1,Oa h2 h3 le,?_,k2,rfl⟩,HX h2 h4⟩;have:=t2.rep le;rw[<-k1] at this;exact ra (k:=k.all H) j this
def zt(neg:Bool)(a b:D):Option Rv:=match b with
 |.aN kvs=>(lS a).map λj=>rd (.bl (if neg=true then !(bw kvs j).isSome else(bw kvs j).isSome))
 |.str j=>(match a with
  |.str i=>some (rd (.bl (if neg=true then !(!(Builtin.Str.occurrences j i 0 j.length 1).isEmpty) else !(Builtin.Str.occurrences j i 0 j.length 1).isEmpty)))
  |_=>none)
 |e=>(xV e).bind λds=>if(gc 40 a && ds.all (gc 40))=true then some (rd (.bl (if neg=true then !ds.any λz=>aY z a else ds.any λz=>aY z a))) else none
theorem Xg{k:Kn}{H:Hp}{x:V}{e:D}{ds:List D}(le:aB k.F H)(t:Top K k H x e)(h:xV e=some ds)(ok:ds.all (gc 40)=true):bf K H [x] [e]:=by
 cases e with
 |lst _=>cases h;obtain⟨p,ws,rfl,q,r⟩:=t.lst le;exact .lst q (Top.Qx r le ok) .nil
 |tup _=>cases h;obtain⟨p,ws,rfl,q,r⟩:=t.tup le;exact .tup q (Top.Qx r le ok) .nil
 |_=>cases h
theorem PK(neg:Bool):cJ K (mZ (xI K neg)) (o2 (zt neg)):=vo λk H x z a b y Q le t1 t2 e res=>by
 unfold zt at e;split at e
 ·obtain⟨j,hj,rfl⟩:=fR.mp e;obtain⟨p,o,rfl,g,h⟩:=uk le t2 t1 hj;refine .inr (.inr ⟨p,o,rfl,g,?_⟩);have z:=res.flat le rfl;rcases h with⟨rfl,h⟩|⟨v,e,rfl,h,_⟩ <;> rw[h] at z <;> exact z
 ·split at e
  ·cases e;cases t1.flat rfl;cases t2.flat rfl;exact .inr (.inl ⟨_,_,rfl,rfl,res.flat le rfl⟩)
  ·cases e
 ·obtain⟨ds,h1,e⟩:=dB.mp e;split at e
  ·rename_i h
   obtain⟨h2,h3⟩:=CD.mp h;cases e;exact .inl ⟨_,_,ds,t1.vn le h2,Xg le t2 h1 h3,h1,h2,h3,res.flat le rfl⟩
  ·cases e
def xJ(neg:Bool):R2:=λx y H Q=>(y=.az/\Q (.bl (if neg then !decide (x=.az) else decide (x=.az))) H)\/∃a b,x=.bl a/\y=.bl b/\Q (.bl (if neg then a != b else a == b)) H
theorem Zc:fW X (compareOp .Is) (xJ false):=xD.or YI
theorem Xh:fW X (compareOp .IsNot) (xJ true):=tY.or WL
def rn:D->Bool
 |.az=>true
 |_=>false
def zu(neg:Bool)(a b:D):Option Rv:=match b with
 |.az=>some (rd (.bl (if neg=true then !rn a else rn a)))
 |.bl b=>(match a with
  |.bl a=>some (rd (.bl (if neg=true then a != b else a == b)))
  |_=>none)
 |_=>none
theorem Vq{k:Kn}{H:Hp}{x:V}{d:D}(h:Top K k H x d):decide (x=.az)=rn d:=by
 rcases h with h|⟨p,c,rfl,rfl,h⟩
 ·cases h with
  |flat q _=>cases d <;> cases q <;> rfl
  |_=>rfl
 ·cases c <;> rfl
theorem PL(neg:Bool):cJ K (mZ (xJ neg)) (o2 (zu neg)):=vo λk H x z a b y Q le t1 t2 e res=>by
 unfold zu at e;split at e
 ·cases e;cases t2.flat rfl;refine .inl ⟨rfl,?_⟩;rw[Vq t1];exact res.flat le rfl
 ·split at e
  ·cases e;cases t1.flat rfl;cases t2.flat rfl;exact .inr ⟨_,_,rfl,rfl,res.flat le rfl⟩
  ·cases e
 ·cases e
def BZ(K:PySem.W.Frag):R2:=λx y H Q=>xK K x y H Q\/xO K x y H Q\/B1 x y H Q\/∃a v,x=.ref a/\jo K H a y (some v)/\Q v H
theorem Xi(hu:X.A.units+9 < cLine):pF X (λx y H Q=>∃a v,x=.ref a/\jo X.K H a y (some v)/\Q v H):=by
 intro value slice ae s Z H x y v u Q I rx ry h hs;obtain⟨a,w,rfl,g,q⟩:=h;cases rx;exact tail_any (g.ty I).1 PySem.F.slot_dict_getitem.lookup (MG hu I g ry λw' s3 I3 mP=>⟨w,H,I3,mP,q⟩) hs
theorem JP(K:PySem.W.Frag)(hu:X.A.units+41 < cLine)(hK:X.K=K):pF X (BZ K):=by
 subst hK;exact(Vc X.K rfl).or ((WM X.K rfl).or (xh.or (Xi (by omega))))
def intD:D->Option Int
 |.int k=>some k
 |_=>none
theorem DR{i:D}{k:Int}(h:intD i=some k):i=.int k:=by
 cases i with
 |int _=>cases h;rfl
 |_=>cases h
theorem Oc{F:Kn}{ws:List V}{ds:List D}{i:Int}{d:D}(r:ai K F ws ds)(e:eL ds i=some d):∃v,eL ws i=some v/\ai K F [v] [d]:=by
 unfold eL at e ⊢;rw[r.length];cases q:tP ds.length i with
 |none=>rw[q] at e;cases e
 |some j=>
  rw[q] at e;exact r.get e
def aP(a i:D):Option Rv:=match a with
 |.lst ds=>(intD i).bind λk=>(eL ds k).map rd
 |.tup ds=>(intD i).bind λk=>(eL ds k).map rd
 |.str z=>(intD i).bind λk=>if z.length<=1000000 then(eL z.cps.toList k).map λc=>rd (.str ⟨#[c]⟩) else none
 |.aN kvs=>(lS i).bind λj=>(bw kvs j).map rd
 |_=>none
theorem γ:cJ K (mZ (BZ K)) (o2 aP):=vo λk H x z a b y Q le t1 t2 e res=>by
 unfold aP at e;split at e
 ·obtain⟨i,hi,e⟩:=dB.mp e;cases DR hi;cases t2.flat rfl;obtain⟨d,h1,rfl⟩:=fR.mp e;obtain⟨p,ws,rfl,q,r⟩:=t1.lst le;obtain⟨v,h2,h3⟩:=Oc r h1;exact .inl ⟨p,ws,i,v,rfl,rfl,q,h2,res.rep le h3⟩
 ·obtain⟨i,hi,e⟩:=dB.mp e;cases DR hi;cases t2.flat rfl;obtain⟨d,h1,rfl⟩:=fR.mp e;obtain⟨p,ws,rfl,q,r⟩:=t1.tup le;obtain⟨v,h2,h3⟩:=Oc r h1;exact .inr (.inl ⟨p,ws,i,v,rfl,rfl,q,h2,res.rep le h3⟩)
 ·obtain⟨i,hi,e⟩:=dB.mp e;cases DR hi;cases t2.flat rfl;cases t1.flat rfl;split at e
  ·obtain⟨c,h1,rfl⟩:=fR.mp e;exact .inr (.inr (.inl ⟨_,i,c,rfl,rfl,ml (by assumption),h1,res.flat le rfl⟩))
  ·cases e
 ·obtain⟨j,hj,e⟩:=dB.mp e;obtain⟨d,h1,rfl⟩:=fR.mp e;obtain⟨p,o,rfl,g,h⟩:=uk le t1 t2 hj;rcases h with⟨_,h⟩|⟨v,e,rfl,h,r⟩
  ·rw[h] at h1;cases h1
  ·rw[h] at h1;cases h1;exact .inr (.inr (.inr ⟨p,v,rfl,g,res.rep le r⟩))
 ·cases e
def cutD(ds:List D)(lo hi:Option Int):List D:=(ds.drop (HT.dA ds.length 0 lo)).take (HT.dA ds.length ds.length hi - HT.dA ds.length 0 lo)
def B4(K:PySem.W.Frag):V->Option Int->Option Int->Hp->VK->Prop:=λx lo hi H Q=>B5 x lo hi H Q\/xP K x lo hi H Q\/xQ K x lo hi H Q
theorem Kw(K:PySem.W.Frag)(hK:X.K=K):qD X (B4 K):=xW.or ((Vd K hK).or (WN K hK))
def Kv(a:D)(lo hi:Option Int):Option Rv:=match a with
 |.str z=>if z.length<=1000000 then some (rd (.str (Txt.slice z lo hi))) else none
 |.lst ds=>some (.o (.lst (cutD ds lo hi)))
 |.tup ds=>if HT.dA ds.length 0 lo=0/\HT.dA ds.length ds.length hi=ds.length then none else some (rd (.tup (cutD ds lo hi)))
 |_=>none
theorem Od{k:Kn}{ws:List V}{ds:List D}{lo hi:Option Int}(r:ai K k ws ds):ai K k (nA ws lo hi) (cutD ds lo hi):=by
 unfold nA cutD;rw[r.length];exact(r.drop _).take _
theorem δ{k:Kn}{H:Hp}{x:V}{a:D}{y:Rv}{Q:VK}{lo hi:Option Int}(le:aB k.F H)(t:Top K k H x a)(e:Kv a lo hi=some y)(res:lI K k H y Q):B4 K x lo hi H Q:=by
 unfold Kv at e;split at e
 ·split at e
  ·cases e;cases t.flat rfl;exact .inl ⟨_,rfl,ml (by assumption),res.flat le rfl⟩
  ·cases e
 ·cases e;obtain⟨p,ws,rfl,q,r⟩:=t.lst le;exact .inr (.inl ⟨p,ws,rfl,q,λl hl=>res.lst le (Od r) hl⟩)
 ·split at e
  ·cases e
  ·rename_i ic
   cases e;obtain⟨p,ws,rfl,q,r⟩:=t.tup le;exact .inr (.inr ⟨p,ws,rfl,q,by rw[r.length];exact ic,λl hl=>res.tup le (Od r) hl⟩)
 ·cases e
abbrev GO:=Gx (Option Int)
abbrev ym:Rp (Option Int) (Option Int):=λ_ _ b a=>b=a
def Eb:GO:=λ_ S=>some (.ok none S)
def Rv.int:Rv->Option Int
 |.v (.d (.int i))=>some i
 |_=>none
def Ec(g:GE):GO:=λU S=>bd (g U S) λr S1=>r.int.map λi=>.ok (some i) S1
def AJ(f:GE)(lo hi:GO):GE:=λU S=>bd (f U S) λr S1=>bd (lo U S1) λl S2=>bd (hi U S2) λu S3=>((ub S3 (mS r)).bind λd=>Kv d l u).map λy=>.ok y S3
theorem Rv.j6{r:Rv}{i:Int}(h:r.int=some i):r=rd (.int i):=by
 unfold Rv.int at h;split at h
 ·cases h;rfl
 ·cases h
section
variable {W:XW} {q:Nat} {e:Expr} {lo hi:Option Expr} {f:GE} {fl fh:GO} {pos p2:Pos}
theorem HY:PO X none (tX ym K W q Eb):=λae s Z H Q I t=>WB ae s Z H Q I (AR t λ_ _=>rfl)
theorem HZ(h:PE X e (tE K W q f)):PO X (some e) (tX ym K W q (Ec f)):=λae s Z H Q I t=>WC h ae s Z H Q I (by
 obtain⟨k,U,S,res,ok,gk,e,w⟩:=t;refine tX.bd ok gk e w λr S1 x k1 H1 bC g1 r1 e1 w1 _=>?_
 obtain⟨i,e2,rfl⟩:=fR.mp e1;cases Rv.j6 e2;exact⟨i,(show ai K k1 [x] [.int i] from r1).bu rfl,w1.now bC rfl⟩)
theorem Vr(he:PE X e (tE K W q f))(hl:PO X lo (tX ym K W q fl))(hu:PO X hi (tX ym K W q fh))(hK:X.K=K):PE X (.Subscript e (.Slice lo hi none p2) pos) (tE K W q (AJ f fl fh)):=(U6 (Kw K hK) he hl hu).mono λZ H Q t=>by
 obtain⟨k,U,S,res,ok,gk,e,w⟩:=t;refine tX.bd ok gk e w λr S1 x k1 H1 bC g1 r1 e1 w1 _=>?_
 obtain⟨k2,u2,ee,r2⟩:=qk bC r1;refine tX.bd ee (g1.up (u2 q)) e1 (w1.up (u2 q)) λl S3 l' k3 H3 kq g3 r3 e3 w3 u3=>?_
 cases r3;refine tX.bd kq g3 e3 w3 λu S4 u' k4 H4 p4 g4 r4 e4 w4 u4=>?_
 cases r4;obtain⟨y,e5,rfl⟩:=fR.mp e4;obtain⟨d,e6,e7⟩:=dB.mp e5;exact δ p4.le (D6 p4 ((r2.up u3).up u4) e6) e7 (.fin p4 w4)
end
end
end L2
namespace L2
open PySem PySem.Spec PyProof.Rows
section
variable {X:Cx} {K:PySem.W.Frag}
def fQ:List Int->Int
 |[]=>0
 |x::xs=>xs.foldl (λa b=>if b < a then b else a) x
theorem TQ(xs:List Int):∀x:Int,(xs.foldl (λa b=>if b < a then b else a) x<=x/\∀y∈xs,xs.foldl (λa b=>if b < a then b else a) x<=y)/\(xs.foldl (λa b=>if b < a then b else a) x=x\/xs.foldl (λa b=>if b < a then b else a) x∈xs):=by
 induction xs with
 |nil=>intro x;exact⟨⟨Int.le_refl _,λy m=>by cases m⟩,.inl rfl⟩
 |cons z xs ih=>
  intro x;obtain⟨⟨h1,h2⟩,h3⟩:=ih (if z < x then z else x)
  rw[vK];have hle:(if z < x then z else x)<=x/\(if z < x then z else x)<=z:=by split <;> omega
  refine⟨⟨by omega,λy m=>?_⟩,?_⟩
  ·rcases fV.mp m with rfl|m
   ·omega
   ·exact h2 y m
  ·rcases h3 with h3|h3
   ·rw[h3];by_cases hz:z < x
    ·rw[if_pos hz];exact .inr (.head _)
    ·rw[if_neg hz];exact .inl rfl
   ·exact .inr (.tail _ h3)
theorem v5{xs:List Int}(h:xs≠[]):fQ xs∈xs/\∀y∈xs,fQ xs<=y:=by
 cases xs with
 |nil=>exact absurd rfl h
 |cons x xs=>
  obtain⟨⟨h1,h2⟩,h3⟩:=TQ xs x;refine⟨?_,λy m=>?_⟩
  ·rcases h3 with h3|h3
   ·show List.foldl _ x xs∈_;rw[h3];exact .head _
   ·exact .tail _ h3
  ·rcases fV.mp m with rfl|m
   ·exact h1
   ·exact h2 y m
theorem Mf:∀{is:List Int} {aG:List Value},Vals (is.map V.int) aG->∃ps:List (Int×Tok),aG=ps.map (λp=>Value.int p.1 p.2)/\ps.map (·.1)=is
 |[],aG,h=>by
  rw[CA] at h;cases h;exact⟨[],rfl,rfl⟩
 |i::is,aG,h=>by
  rw[dX] at h;cases h with
  |cons r t=>
   obtain⟨ps,e1,e2⟩:=Mf t;obtain⟨tk,rfl⟩:=r;exact⟨(i,tk)::ps,by rw[e1];rfl,by rw[dX,e2]⟩
theorem Vs(K:PySem.W.Frag)(hc:X.calm=true:=by rfl)(hK:X.K=K:=by rfl):bU X (.builtin "min") (λxs H Q=>∃(a:Addr) (is:List Int),xs=[.ref a]/\dY K H a (is.map V.int)/\is≠[]/\Q (.int (fQ is)) H):=by
 subst hK;intro ae s Z H xs us Q I r h;obtain⟨a,is,rfl,hs,ic,q⟩:=h;obtain⟨u,rfl,ru⟩:=vals1 r;cases ru;obtain⟨aG,rv,p,hz⟩:=I.list hs;obtain⟨ps,e1,e2⟩:=Mf rv;subst e1;have hl:0 < ps.length:=by
  cases ps with
  |nil=>exact absurd e2.symm ic
  |cons _ _=>simp
 have el:(ps.map λp=>Value.int p.1 p.2).toArray=intItems ps.toArray:=by unfold intItems;simp
 have pl:=p.isList;rw[el] at pl;refine min_intList (I.ok.hd hc) pl (by simpa using hl) λv h' tk hv hk=>?_
 obtain⟨b1,b2⟩:=argBest_lt (numAt ps.toArray) (ps.toArray.size - 1);generalize argBest (λi j=>decide (numAt ps.toArray i < numAt ps.toArray j)) (ps.toArray.size - 1)=n at *
 have hn:n < ps.length:=by simp at b1;omega
 have Bj:∀j (hj:j < ps.length),numAt ps.toArray j=(ps[j]).1:=λj hj=>by unfold numAt;simp[hj]
 have zq:v=Value.int (ps[n]).1 (ps[n]).2:=by
  unfold intItems at hv;simp[hn] at hv;exact hv.symm
 have hm:fQ is=(ps[n]).1:=by
  obtain⟨m1,m2⟩:=v5 ic;have i1:(ps[n]).1∈is:=by rw[<-e2];exact zJ (f:=(·.1)) (uq hn)
  have c1:=m2 _ i1;rw[<-e2] at m1;obtain⟨pp,JJ,hp2⟩:=p_.mp m1;obtain⟨j,hj,ej⟩:=List.mem_iff_getElem.mp JJ;have c2:=b2 j (by simp;omega)
  rw[Bj n hn,Bj j hj,ej] at c2;rw[e2] at hp2;omega
 rw[zq];exact⟨.int (fQ is),H,I.kept (h':=h') (t':=tk) λb o e=>hk b o e,⟨(ps[n]).2,by rw[hm]⟩,q⟩
def lr:List D->Option (List Int)
 |[]=>some []
 |.int i::ds=>(lr ds).map λis=>i::is
 |_=>none
theorem Dp:∀is:List Int,lr (is.map .int)=some is
 |[]=>rfl
 |i::is=>by rw[dX];show(lr (is.map .int)).map _=_;rw[Dp is];rfl
theorem MH:∀{ds:List D} {is:List Int},lr ds=some is->ds=is.map .int
 |[],is,e=>by cases e;rfl
 |d::ds,is,e=>by
  cases d with
  |int i=>
   obtain⟨js,e1,e2⟩:=fR.mp (show(lr ds).map _=some is from e);rw[<-e2,MH e1];rfl
  |_=>cases e
theorem L5{F:Kn}:∀{ws:List V} {is:List Int},ai K F ws (is.map .int)->ws=is.map .int
 |[],[],_=>rfl
 |[],_::_,h=>by have:=h.length;simp at this
 |_::_,[],h=>by have:=h.length;simp at this
 |w::ws,i::is,h=>by
  rw[dX] at h;have h1:=h.inv.1;have h2:=L5 h.inv.2;rw[h2,dX];cases h1 with
  |flat e _=>cases e;rfl
end
end L2
namespace L2
open PySem PySem.Spec PyProof.Rows
section
variable {X:Cx} {K:PySem.W.Frag}
end
end L2
namespace L2
open PySem PySem.Spec PySem.W PyProof.Rows
section
variable {X:Cx} {K:PySem.W.Frag}
def KW(k:String):Bool:=k == "tuple" || k == "list"
def vx(K:Frag):List V->Hp->VK->Prop:=λxs H Q=>∃x k q,xs=[x,.ref q]/\AF K H x k/\jm K H q [.ty "tuple",.ty "list"]/\Q (.bl (KW k)) H
theorem TR(K:Frag)(hK:X.K=K:=by rfl):bU X (.builtin "isinstance") (vx K):=by
 subst hK;intro ae s Z H xs us Q I r h;obtain⟨x,k,q,rfl,hk,hq,qq⟩:=h;obtain⟨u,w',rfl,rx,ry⟩:=vals2 r;cases ry;obtain⟨aG,rv,⟨ot,h1,h2,n,h3⟩,_⟩:=I.tuple hq;obtain⟨oc,odd,odt,sD⟩:=ot;dsimp only at h2 h3;subst h2;subst h3;obtain⟨u1,u2,rfl,r1,r2⟩:=vals2 rv;cases r1;cases r2;have fin:∀b,b=KW k->∀tk,EP X ae Z Q (.bool b) { s with toks:=tk}:=λb e tk=>sY (I.tok _) qq e.symm
 cases x with
 |az=>
  cases rx;have hk:k="NoneType":=hk;subst hk;exact kia_tup (b:=false) kitx_none I.lu True.intro h1 (by rfl) (λz=>nomatch z) (fin _ rfl)
 |bl b=>
  cases rx;have hk:k="bool":=hk;subst hk;exact kia_tup (b:=false) kitx_bool I.lu True.intro h1 (by rfl) (λz=>nomatch z) (fin _ rfl)
 |int i=>
  obtain⟨t,rfl⟩:=rx;have hk:k="int":=hk;subst hk;exact kia_tup (b:=false) kitx_int I.lu True.intro h1 (by rfl) (λz=>nomatch z) (fin _ rfl)
 |str z=>
  obtain⟨t,rfl⟩:=rx;have hk:k="str":=hk;subst hk;exact kia_tup (b:=false) kitx_str I.lu True.intro h1 (by rfl) (λz=>nomatch z) (fin _ rfl)
 |ref a=>
  cases rx;rcases hk with⟨hk,ys,hs⟩|⟨hk,ys,hs⟩
  ·subst hk;obtain⟨aG,_,⟨o,n,e,hc,_⟩,_⟩:=I.list hs;exact kia_tup (b:=true) kitx_list I.lu ⟨o,e,hc⟩ h1 (by rfl) (λz=>nomatch z) (fin _ rfl)
  ·subst hk;obtain⟨aG,_,⟨o,e,hc,_⟩,_⟩:=I.tuple hs;exact kia_tup (b:=true) kitx_tuple I.lu ⟨o,e,hc⟩ h1 (by rfl) (λz=>nomatch z) (fin _ rfl)
 |uS _=>exact False.elim hk
 |uX _=>exact False.elim hk
 |ty _=>exact False.elim hk
end
end L2
namespace L2
open PySem PySem.Spec PyProof.Rows
variable{A:Around}{E:Value->Shared->Prop}{s:Shared}{ep:Nat}
theorem R0{Q:Bool->Shared->Prop}{P:Program}{w:World}{d:Addr}(hT:s.TypeIs (.ref d) "dict")(h:Q false s):wpAny (model P w) A (Builtin.List.listLengthHint (.ref d)) Q E s:=by
 unfold Builtin.List.listLengthHint;refine wpAny_bind (wpAny_specialOf hT F.slot_dict_len.lookup ?_);dsimp only;rw[show splitId "dict.__len__"=some ("dict","__len__") from by decide +kernel]
 dsimp only;refine wpAny_bind (wpAny_isInstance (b:=true) hT (by rw[isSubtype_type];kernel_rfl) ?_)
 rw[if_neg (by decide)]
 refine wpAny_ite_true (by decide +kernel) (wpAny_bind (wpAny_typeOf hT ?_))
 exact wpAny_pure h
section
variable {P:Program} {w:World} {A:Around} {E:Value->Shared->Prop} {s:Shared}
theorem TU{n:Nat}{ob:Obj}{xs:Array DictEntry}(hh:A.handled=none)(J d:Addr)(ic:d≠J)(g2:ob.data=.dict xs ep)(hl:xs.size=n):
  Walks P w A J [J,d] [J] n (λi v=>xs[i]?.map (·.key)=some v) (λi h=>h.IsKeyIter J d i n ep/\h.get? d=some ob) where
 sub:=λb hb=>by simp at hb;simp[hb]
 frame:=λ_ _ _ st hk=>⟨st.1.at λo e=>hk J (by simp) o e,hk d (by simp) _ st.2⟩
 item:=λi s Q E hi st hQ=>by
  have lt:i < xs.size:=by omega
  refine Md st.2 g2 hl st.1 lt λh' zv sb=>?_
  exact hQ _ h' s.toks (by rw[rT lt];rfl) ⟨zv,(sb.2 d ic).trans st.2⟩ λb o hb e=>sb.extBut b o (λh=>hb (by simp[h])) e
 done:=λs Q E st hQ=>MA hh st.2 g2 hl st.1 (cI _) λh' he'=>hQ h' s.toks λb o hb e=>he' b o (λh=>hb (by simp[h])) e
 self:=λ_ _ _ _ st hQ=>wpAny_pyIter_keyiter st.1 hQ
end
theorem Oe:∀{ys:List V} {us:List Value},ys.length=us.length->(∀(j:Nat) (y:V) (u:Value),ys[j]?=some y->us[j]?=some u->RelV y u)->Vals ys us
 |[],[],_,_=>.nil
 |y::ys,u::us,hl,h=>.cons (h 0 y u rfl rfl) (Oe (by simpa using hl) λj y' u' e1 e2=>h (j+1) y' u' (by simpa using e1) (by simpa using e2))
 |[],_::_,h,_=>by simp at h
 |_::_,[],h,_=>by simp at h
section
variable {X:Cx} {ae:List (Addr×Obj)} {Z:St} {H:Hp}
theorem Q9{d:Addr}{es:List (TK×V×V)}{Q:Value->Shared->Prop}(hh:A.handled=none)(I:Inv X ae Z H s)(hd:H d=some (.dG es ep))
  (hQ:∀s',(∀b u,s.heap.get? b=some u->s'.heap.get? b=some u)->s'={ s with heap:=s'.heap,toks:=s'.toks}->(∃aG c,Vals (es.map (·.2.1)) aG/\s'.heap.get? s.heap.objs.size=some { cls:=.type "list",data:=.seq aG.toArray c})->Q (.ref s.heap.objs.size) s') :
  wpAny (model X.prog X.w) A (call (.type "list") [.ref d]) Q E s:=by
 obtain⟨hz,z,ob,xs,g1,g5,g2,g3,g4⟩:=(show bx X.prog X.w H s.heap d (.dG es ep) from I.bF d _ hd);have hl:xs.size=es.length:=by have:=Paired.length g3;simpa using this.symm
 have ld:d < s.heap.objs.size:=eH g1;refine callType_codes (Q₁:=λobj s₁=>obj=.ref s.heap.objs.size/\s₁={ s with heap:=s.heap.push { cls:=.type "list",data:=.seq #[]}}) F.called_list (F.typeCall_list_1 _) F.entry_list_init (code_list_new _ ⟨rfl,rfl⟩) λobj s₁ q₁=>?_
 obtain⟨rfl,rfl⟩:=q₁;have gS:(s.heap.push { cls:=.type "list",data:=.seq #[]}).get? s.heap.objs.size=some { cls:=.type "list",data:=.seq #[]}:=kA _ rfl;refine⟨⟨_,gS,rfl⟩,F.args_list_init_2 _ _,?_⟩;show wpAny _ _ (do let old <-Builtin.List.listItems (.ref s.heap.objs.size);Builtin.List.listUpdate (.ref s.heap.objs.size) (λ_=>#[]);letGo old.toList.reverse;Builtin.List.listExtendWith (.ref s.heap.objs.size) (.ref d) .none) _ _ _
 refine wpAny_bind ?_;unfold Builtin.List.listItems;refine wpAny_bind (wpAny_seqItems gS rfl (wpAny_pure ?_));show wpAny _ _ (updateSeq s.heap.objs.size (λ_=>#[]) >>= λ_=>letGo (#[]:Array Value).toList.reverse >>= λ_=>Builtin.List.listExtendWith (.ref s.heap.objs.size) (.ref d) .none) _ _ _
 refine wpAny_bind (wpAny_updateSeq gS rfl ?_);have gT:=rS (Obj.mapSeq (λ_=>(#[]:Array Value))) gS rfl
 refine wpAny_bind (wpAny_letGo ?_);have nS:∀b u,s.heap.get? b=some u->b≠s.heap.objs.size:=λb u e z=>by rw[z] at e;exact lX _ (eH e)
 have k1:∀b u,s.heap.get? b=some u->((s.heap.push { cls:=.type "list",data:=.seq #[]}).update s.heap.objs.size (Obj.mapSeq (λ_=>(#[]:Array Value)))).get? b=some u:=
  λb u e=>(qw _ _ (Ne.symm (nS b u e))).trans (fg _ e)
 have KD:((s.heap.push { cls:=.type "list",data:=.seq #[]}).update s.heap.objs.size (Obj.mapSeq (λ_=>(#[]:Array Value)))).objs.size=s.heap.objs.size+1:=by simp[Heap.update,Heap.push]
 generalize(s.heap.push { cls:=.type "list",data:=.seq #[]}).update s.heap.objs.size (Obj.mapSeq (λ_=>(#[]:Array Value)))=h1 at *
 have I1:Inv X ae Z H { s with heap:=h1,toks:=s.toks}:=I.kept k1;have hT1:Shared.TypeIs { s with heap:=h1} (.ref d) "dict":=⟨ob,k1 _ _ g1,g5.1⟩;unfold Builtin.List.listExtendWith;refine wpAny_bind (wpAny_typeOf hT1 ?_);have ne:s.heap.objs.size≠d:=λe=>lX _ (e ▸ ld)
 have c1:Builtin.List.listSameRef (.ref s.heap.objs.size) (.ref d)=false:=by simp[Builtin.List.listSameRef,ne]
 have c2:(Value.type "dict" == Value.type "list")=false:=by decide
 have c3:(Value.type "dict" == Value.type "tuple")=false:=by decide
 simp only[c1,c2,c3,K8,qx,if_false];refine wpAny_bind (Nd I1 hd ?_);have Jk:Shared.TypeIs { s with heap:=h1.push { cls:=.type "dict_keyiterator",data:=.fields #[.ref d,.int 0 0,.int es.length 0,.int ep 0]}} (.ref d) "dict":=⟨ob,fg _ (k1 _ _ g1),g5.1⟩;refine wpAny_bind (wpAny_holding (R0 Jk ?_));refine wpAny_ite_true (by decide +kernel) (wpAny_bind (wpAny_rule (wpAny_bind ?_)))
 show wpAny _ _ (updateSeq s.heap.objs.size (·.push .none) >>= λ_=>updateSeq s.heap.objs.size (·.pop)) _ _ _
 have gU:=fg { cls:=.type "dict_keyiterator",data:=.fields #[.ref d,.int 0 0,.int es.length 0,.int ep 0]} gT;refine wpAny_bind (wpAny_updateSeq gU rfl ?_);have gV:=rS (Obj.mapSeq (·.push Value.none)) gU rfl
 refine wpAny_updateSeq (hz:=by seq_fits) gV rfl ?_
 have gW:=rS (Obj.mapSeq (·.pop)) gV rfl
 have gJ:(h1.push { cls:=.type "dict_keyiterator",data:=.fields #[.ref d,.int 0 0,.int es.length 0,.int ep 0]}).get? h1.objs.size=some { cls:=.type "dict_keyiterator",data:=.fields #[.ref d,.int 0 0,.int es.length 0,.int ep 0]}:=kA _ rfl;have J6:∀b o,b≠s.heap.objs.size->(h1.push { cls:=.type "dict_keyiterator",data:=.fields #[.ref d,.int 0 0,.int es.length 0,.int ep 0]}).get? b=some o->
   (((h1.push { cls:=.type "dict_keyiterator",data:=.fields #[.ref d,.int 0 0,.int es.length 0,.int ep 0]}).update s.heap.objs.size (Obj.mapSeq (·.push Value.none))).update s.heap.objs.size (Obj.mapSeq (·.pop))).get? b=some o:=
  λb o hb e=>(qw _ _ (Ne.symm hb)).trans ((qw _ _ (Ne.symm hb)).trans e)
 have hJ:h1.objs.size≠s.heap.objs.size:=by rw[KD];exact Nat.succ_ne_self _
 have dJ:d≠h1.objs.size:=jl (by rw[KD];exact yg ld)
 have W:=(TU (P:=X.prog) (w:=X.w) (A:=A.in1.in1) (n:=es.length) (ep:=ep) hh h1.objs.size d dJ g2 hl).toS;have hSf:s.heap.objs.size∉[h1.objs.size,d]:=λm=>by
  simp at m;rcases m with m|m
  ·exact hJ m.symm
  ·exact ne m
 refine wpAny_pure ⟨plainId_quiet F.plain_extend_loop _,codeAny_extend_loopS W hz _ hSf _ es.length 0 _ _ _ rfl (mU _) ⟨⟨_,J6 _ _ hJ gJ,rfl,rfl⟩,J6 _ _ (Ne.symm ne) (fg _ (k1 _ _ g1))⟩ gW (ItemsOf.nil _) λs' Ao c' hm hS' tG=>?_⟩
 obtain⟨m1,m2,m3,m4,m5⟩:=hm;have tq:s'={ s with heap:=s'.heap,toks:=s'.toks}:=by
  cases s';cases m2;cases m3;cases m4;rfl
 refine⟨rfl,hQ s' (λb u e=>m1 b u (λq=>?_) (J6 b u (nS b u e) (fg _ (k1 b u e)))) tq ⟨Ao.toList,c',?_,by simpa using hS'⟩⟩
 ·rcases fV.mp q with q|q
  ·exact nS b u e q
  ·rw[p8] at q;have:=eH e;rw[q,KD] at this;exact absurd this (Nat.not_lt.mpr (um _))
 ·have h2:Ao.size=es.length:=tG.1;refine Oe (by simp[h2]) λj y u e1 e2=>?_
  rw[jx] at e1;obtain⟨e,e3,rfl⟩:=fR.mp e1;obtain⟨x,x1,x2⟩:=Ad j g3 e3;have h3:=tG.2 j u (by rw[<-ur];exact e2)
  have x1:xs[j]?=some x:=by rw[<-ur];exact x1
  have h3:Option.map (λx=>x.key) xs[j]?=some u:=h3
  rw[x1] at h3;cases h3;exact x2.2.1
def QB(K:PySem.W.Frag):List V->Hp->VK->Prop:=λxs H Q=>∃d es ep,xs=[.ref d]/\H d=some (.dG es ep)/\∀l,H l=none->Q (.ref l) (upd H l (.lst (es.map (·.2.1))))
theorem Ss(hc:X.calm=true):bU X (.type "list") (QB X.K):=by
 intro ae s Z H xs us Q I r h;obtain⟨d,es,ep,rfl,hd,q⟩:=h;obtain⟨u,rfl,ru⟩:=vals1 r;cases ru;refine Q9 (I.ok.hd hc) I hd λs' kp tq hh=>?_
 obtain⟨aG,c,rv,g⟩:=hh;have hz:=(show bx X.prog X.w H s.heap d (.dG es ep) from I.bF d _ hd).1;rw[tq];exact⟨.ref s.heap.objs.size,_,I.laid kp (cI _) (show bx X.prog X.w _ s'.heap _ (.lst (es.map (·.2.1))) from⟨by rw[cz];exact hz,aG,c,rv,g⟩),rfl,q _ (I.bF.fresh (cI _))⟩
end
end L2
namespace L2
open PySem PySem.Spec PyProof.Rows
section
variable {X:Cx} {K:PySem.W.Frag}
def o_(r:V->List V->Hp->VK->Prop):List V->Hp->VK->Prop:=λvs H Q=>∃x xs,vs=x::xs/\r x xs H Q
def ir:List D->Option (List Str)
 |[]=>some []
 |.str x::ds=>(ir ds).map λxs=>x::xs
 |_=>none
theorem MI:∀xs:List Str,ir (xs.map .str)=some xs
 |[]=>rfl
 |i::is=>by rw[dX];show(ir (is.map .str)).map _=_;rw[MI is];rfl
theorem G2:∀{ds:List D} {xs:List Str},ir ds=some xs->ds=xs.map .str
 |[],xs,e=>by cases e;rfl
 |d::ds,xs,e=>by
  cases d with
  |str i=>
   obtain⟨js,e1,e2⟩:=fR.mp (show(ir ds).map _=some xs from e);rw[<-e2,G2 e1];rfl
  |_=>cases e
theorem Ga{F:Kn}:∀{ws:List V} {xs:List Str},ai K F ws (xs.map .str)->ws=xs.map .str
 |[],[],_=>rfl
 |[],_::_,h=>by have:=h.length;simp at this
 |_::_,[],h=>by have:=h.length;simp at this
 |w::ws,i::is,h=>by
  rw[dX] at h;have h1:=h.inv.1;have h2:=Ga h.inv.2;rw[h2,dX];cases h1 with
  |flat e _=>cases e;rfl
theorem Gv:∀{xs:List Str} {aG:List Value},Vals (xs.map V.str) aG->∃ps:List (Str×Tok),aG=ps.map (λp=>Value.str p.1 p.2)/\ps.map (·.1)=xs
 |[],aG,h=>by
  rw[CA] at h;cases h;exact⟨[],rfl,rfl⟩
 |i::is,aG,h=>by
  rw[dX] at h;cases h with
  |cons r t=>
   obtain⟨ps,e1,e2⟩:=Gv t;obtain⟨tk,rfl⟩:=r;exact⟨(i,tk)::ps,by rw[e1];rfl,by rw[dX,e2]⟩
end
end L2
namespace L2
open PySem PySem.Spec PyProof.Rows
section
variable {X:Cx} {K:PySem.W.Frag}
def jr:List D->Option (List Bool)
 |[]=>some []
 |.bl b::ds=>(jr ds).map λbs=>b::bs
 |_=>none
theorem Mg:∀{ds:List D} {bs:List Bool},jr ds=some bs->ds=bs.map .bl
 |[],bs,e=>by cases e;rfl
 |d::ds,bs,e=>by
  cases d with
  |bl i=>
   obtain⟨js,e1,e2⟩:=fR.mp (show(jr ds).map _=some bs from e);rw[<-e2,Mg e1];rfl
  |_=>cases e
theorem Mh{F:Kn}:∀{ws:List V} {bs:List Bool},ai K F ws (bs.map .bl)->ws=bs.map .bl
 |[],[],_=>rfl
 |[],_::_,h=>by have:=h.length;simp at this
 |_::_,[],h=>by have:=h.length;simp at this
 |w::ws,i::is,h=>by
  rw[dX] at h;have h1:=h.inv.1;have h2:=Mh h.inv.2;rw[h2,dX];cases h1 with
  |flat e _=>cases e;rfl
theorem TV(K:PySem.W.Frag)(hc:X.calm=true:=by rfl)(hK:X.K=K:=by rfl):bU X (.builtin "all") (λxs H Q=>∃(a:Addr) (bs:List Bool),xs=[.ref a]/\dY K H a (bs.map V.bl)/\Q (.bl (bs.all id)) H):=hK ▸ To hc
def yZ(z:Str):Value->Bool
 |.str y _=>y == z
 |_=>false
def O6(K:PySem.W.Frag):V->List V->Hp->VK->Prop:=λx xs H Q=>∃(a:Addr) (ys:List Str) (z:Str) (j:Nat),x=.ref a/\xs=[.str z]/\dY K H a (ys.map V.str)/\ys[j]?=some z/\(∀i y,i < j->ys[i]?=some y->y≠z)/\Q (.int (j:Nat)) H
theorem Vt(K:PySem.W.Frag)(hK:X.K=K:=by rfl):yk X "list.index" (O6 K):=by
 subst hK;intro ae s Z H x xs v us Q I rx rs h;obtain⟨a,ys,z,j,rfl,rfl,hq,hj,ic,q⟩:=h;cases rx;obtain⟨u,rfl,ru⟩:=vals1 rs;obtain⟨t,rfl⟩:=ru;obtain⟨aG,rv,p,hz⟩:=I.list hq;obtain⟨ps,e1,e2⟩:=Gv rv;subst e1;obtain⟨ob,n,eo,Bb,hdi,hda⟩:=p;have hlen:ps.length=ys.length:=by rw[<-e2,cz]
 have hjl:j < ys.length:=(jQ.mp hj).1;have hit:∀i (hi:i < ps.length),(ps.map λp=>Value.str p.1 p.2)[i]?=some (Value.str ps[i].1 ps[i].2):=λi hi=>by simp[hi]
 have Bq:∀i (hi:i < ps.length),ys[i]?=some ps[i].1:=λi hi=>by rw[<-e2];simp[hi]
 have hsz:(ps.map λp=>Value.str p.1 p.2).toArray.size=ps.length:=by simp
 have Jz:ps[j].1=z:=by
  have:=Bq j (by omega)
  rw[hj] at this;exact(Option.some.inj this).symm
 obtain⟨cl,di,da,sl⟩:=ob;cases Bb;cases hda;have zr:ys.length<=16777216:=by rw[cz,sizeLine_eq] at hz;exact hz
 refine call_meets F.slot_list_index ⟨_,eo,rfl⟩ F.entry_list_index (F.args_list_index_2 _ _) (SeqAt.list_indexAt a _ n di sl (.str z t) (yZ z) j (by rw[hsz];omega) (by omega) ?_ ?_) ⟨eo,?_,?_⟩
 ·simp[yZ,Jz]
 ·intro i hi o5;rw[hsz] at hi;have:=ic i _ o5 (Bq i hi);simp[yZ];exact this
 ·intro y hy;simp at hy;obtain⟨b,t',_,rfl⟩:=hy;exact SeqAt.EqAt.str_str b t' z t
 ·exact⟨.int (j:Nat),H,I.tok _,⟨_,rfl⟩,q⟩
def findS(ys:List Str)(z:Str):Option Nat:=ys.findIdx? (· == z)
theorem Gw{ys:List Str}{z:Str}{j:Nat}(e:findS ys z=some j):ys[j]?=some z/\∀i y,i < j->ys[i]?=some y->y≠z:=by
 unfold findS at e;rw[List.findIdx?_eq_some_iff_getElem] at e;obtain⟨h,h1,h2⟩:=e;refine⟨by rw[jR h];congr 1;exact eq_of_beq h1,λi y hi ey=>?_⟩
 have:=h2 i hi;obtain⟨hl,e3⟩:=jQ.mp ey;rw[e3] at this;intro z';subst z';simp at this
end
end L2
namespace L2
open PySem PySem.Spec PyProof.Rows
section
variable {X:Cx} {K:PySem.W.Frag}
def Of:V->List V->Hp->VK->Prop:=λx xs H Q=>∃(l:Addr) (ys:List Str) (z:Str) (j:Nat),x=.ref l/\xs=[.str z]/\H l=some (.lst (ys.map V.str))/\ys[j]?=some z/\(∀i y,i < j->ys[i]?=some y->y≠z)/\Q .az (upd H l (.lst ((ys.eraseIdx j).map V.str)))
theorem Dq{α β:Type}(f:α->β):∀(xs:List α) (j:Nat),(xs.map f).eraseIdx j=(xs.eraseIdx j).map f
 |[],j=>by simp
 |_::_,0=>rfl
 |x::xs,j+1=>by show f x::(xs.map f).eraseIdx j=f x::(xs.eraseIdx j).map f;rw[Dq f xs j]
theorem LF:∀{ps:List (Str×Tok)},Vals ((ps.map (·.1)).map V.str) (ps.map λp=>Value.str p.1 p.2)
 |[]=>.nil
 |p::ps=>.cons ⟨p.2,rfl⟩ LF
theorem TX:yk X "list.remove" Of:=by
 intro ae s Z H x xs v us Q I rx rs h;obtain⟨l,ys,z,j,rfl,rfl,hH,hj,ic,q⟩:=h;cases rx;obtain⟨u,rfl,ru⟩:=vals1 rs;obtain⟨t,rfl⟩:=ru;obtain⟨hz,aG,n,rv,hl,eo⟩:=I.xp hH;obtain⟨ps,e1,e2⟩:=Gv rv;subst e1;have hlen:ps.length=ys.length:=by rw[<-e2,cz]
 have hjl:j < ys.length:=(jQ.mp hj).1;have Bq:∀i (hi:i < ps.length),ys[i]?=some ps[i].1:=λi hi=>by rw[<-e2];simp[hi]
 have hsz:(ps.map λp=>Value.str p.1 p.2).toArray.size=ps.length:=by simp
 have Jz:ps[j].1=z:=by
  have:=Bq j (by omega)
  rw[hj] at this;exact(Option.some.inj this).symm
 refine call_meets F.slot_list_remove ⟨_,eo,rfl⟩ F.entry_list_remove (F.args_list_remove_2 _ _) (MeetsSeq.list_remove l _ n (.str z t) (yZ z) ?_ j (by rw[hsz];omega) ?_ ?_ (by rw[hsz,hlen];simpa using hz)) ⟨eo,?_⟩
 ·intro y hy;simp at hy;obtain⟨b,t',_,rfl⟩:=hy;show MeetsSeq.EqGives _ _ (b == z);rw[<-SeqAt.str_beq];exact SeqRoads2.EqGives.str b z t' t
 ·simp[yZ,Jz]
 ·intro i hi o5;rw[hsz] at hi;have:=ic i _ o5 (Bq i hi);simp[yZ];exact this
 ·refine⟨.az,_,I.xm (its':=(ps.eraseIdx j).map λp=>Value.str p.1 p.2) hH eo ?_ ?_ ?_,rfl,q⟩
  ·apply Array.toList_inj.mp;simp[Array.toList_eraseIdxIfInBounds,Dq]
  ·rw[<-e2,Dq];exact LF
  ·rw[cz];have:=List.length_eraseIdx_le ys j;rw[cz] at hz;omega
end
end L2
namespace L2
open PySem PySem.Spec PySem.W PyProof.Rows
theorem Vu{P:Program}{w:World}{xs:List DictEntry}{kvs:List (Str×Value)}(p:Pairs (strKind P w) xs kvs):∀{es:List (TK×V×V)},(∀x∈xs,∃k,(strKind P w).is k x.key=true/\x.hash=(strKind P w).hash k)->kvs.map (λp=>TK.inr p.1)=es.map (·.1)->Vals (es.map (·.2.2)) (kvs.map (·.2))->jG es->Paired (jT w) es xs:=by
 induction p with
 |nil=>
  intro es _ e _ _;cases es with
  |nil=>exact .nil
  |cons _ _=>cases e
 |@cons x kv xs kvs h1 h2 _ ih=>
  intro es hk e v t;cases es with
  |nil=>cases e
  |cons a es=>
   rw[dX,dX,List.cons.injEq] at e;cases v with
   |cons v1 v2=>
    refine .cons ?_ (ih (λy m=>hk y (.tail _ m)) e.2 v2 λy m=>t y (.tail _ m))
    obtain⟨k,k1,k2⟩:=hk x (.head _);obtain⟨z,t1,t2⟩:=t a (.head _);have i1:Value.isStrOf kv.1 x.key=true:=h1;have i2:Value.isStrOf k x.key=true:=k1;cases hx:x.key with
    |str s tk=>
     rw[hx] at i1 i2;have j1:s=kv.1:=by simpa[Value.isStrOf] using i1
     have j2:s=k:=by simpa[Value.isStrOf] using i2
     have j3:kv.1=z:=by
      have:=e.1.trans t1;cases this;rfl
     refine⟨?_,?_,by rw[h2];exact v1,by rw[t1];rfl⟩
     ·rw[k2,t1,<-j2,j1,j3];rfl
     ·rw[t2,hx,j1,j3];exact⟨tk,rfl⟩
    |_=>rw[hx] at i1;cases i1
def jj(z:Str)(k:TK):Bool:=decide (k≠.inr z)
theorem Og(z:Str):∀{es:List (TK×V×V)} {kvs:List (Str×Value)},kvs.map (λp=>TK.inr p.1)=es.map (·.1)->Vals (es.map (·.2.2)) (kvs.map (·.2))->(without kvs z).map (λp=>TK.inr p.1)=(es.filter λe=>jj z e.1).map (·.1)/\Vals ((es.filter λe=>jj z e.1).map (·.2.2)) ((without kvs z).map (·.2))
 |[],[],_,_=>⟨rfl,.nil⟩
 |[],_::_,e,_=>by cases e
 |_::_,[],e,_=>by cases e
 |a::es,kv::kvs,e,v=>by
  rw[dX,dX,List.cons.injEq] at e;cases v with
  |cons v1 v2=>
   obtain⟨i1,i2⟩:=Og z e.2 v2;unfold without at *;by_cases h:kv.1=z
   ·have h':jj z a.1=false:=by unfold jj;rw[<-e.1,h];simp
    rw[uo,uo,if_neg (by simp[h]),if_neg (by rw[h'];exact nM)]
    exact⟨i1,i2⟩
   ·have h':jj z a.1=true:=by unfold jj;rw[<-e.1];simpa using h
    rw[uo,uo,if_pos (by simpa using h),if_pos h']
    exact⟨by rw[dX,dX,i1,e.1],.cons v1 i2⟩
theorem O7(z:Str){v:V}:∀{es:List (TK×V×V)} {kvs:List (Str×Value)},kvs.map (λp=>TK.inr p.1)=es.map (·.1)->Vals (es.map (·.2.2)) (kvs.map (·.2))->ky es (.inr z)=some v->∃u,valueAt kvs z=some u/\RelV v u
 |[],[],_,_,h=>by cases h
 |[],_::_,e,_,_=>by cases e
 |_::_,[],e,_,_=>by cases e
 |a::es,kv::kvs,e,vs,h=>by
  rw[dX,dX,List.cons.injEq] at e;cases vs with
  |cons v1 v2=>
   unfold ky at h;unfold valueAt;rw[zI] at h ⊢;by_cases g:kv.1=z
   ·have g':a.1=.inr z:=by rw[<-e.1,g]
    rw[decide_eq_true g'] at h;rw[decide_eq_true g];cases h;exact⟨_,rfl,v1⟩
   ·have g':¬a.1=.inr z:=by rw[<-e.1];intro x;cases x;exact g rfl
    rw[decide_eq_false g'] at h;rw[decide_eq_false g];exact O7 z e.2 v2 h
def vA(K:PySem.W.Frag):V->List V->Hp->VK->Prop:=λx vs H Q=>∃d es ep z v,x=.ref d/\vs=[.str z]/\H d=some (.dG es ep)/\jG es/\ky es (.inr z)=some v/\∀oo,Q v (upd H d (.dG (es.filter λe=>jj z e.1) oo))
theorem Xj{X:Cx}(K:PySem.W.Frag):yk X "dict.pop" (vA K):=by
 intro ae s Z H x xs v us Q I rx rs h;obtain⟨d,es,ep,z,v',rfl,rfl,hd,ht,hv,q⟩:=h;cases rx;obtain⟨u,rfl,ru⟩:=rs.one;obtain⟨tk,rfl⟩:=ru;obtain⟨kvs,D1,D2,D3,D4,lo⟩:=yQ I hd ht;obtain⟨w,hw,mP⟩:=O7 z D3 D2 hv;refine call_meetsIn PySem.F.slot_dict_pop (DQ I hd).1 PySem.F.entry_dict_pop (PySem.F.args_dict_pop_2 _ _) (meets_dict_pop_there (strKind X.prog X.w) d (k:=z) (by show Value.isStrOf z (.str z tk)=true;simp[Value.isStrOf]) [] (.inl rfl) (by rfl)) ⟨kvs,w,D1.dictOf,D4,hw,λh' hD hs=>?_⟩
 obtain⟨o,xs,oo,g1,g2,g3,g4,g5,g6⟩:=hD;obtain⟨f1,f2⟩:=Og z D3 D2;obtain⟨hz,_⟩:=(show bx X.prog X.w H s.heap d (.dG es ep) from I.bF d _ hd);refine⟨v',_,HS (ob:=.dG (es.filter λe=>jj z e.1) oo) I (by rw[hd];exact True.intro) hs ⟨_,g1⟩ ⟨?_,lo,o,xs,g1,g2,g3,Vu g5 (λx m=>g4 x (K6.mp m)) f1 f2 λe m=>ht e (zC.mp m).1,?_⟩,mP,q oo⟩
 ·exact lC (List.length_filter_le _ _) hz
 ·rw[<-f1,show(λp:Str×Value=>TK.inr p.1)=TK.inr∘(·.1) from rfl,<-sJ]
  exact List.Pairwise.map _ (λa b ne z=>ne (by cases z;rfl)) g6
end L2
namespace L2
open PySem PySem.Spec PyProof.Rows
section
variable {X:Cx} {K:PySem.W.Frag}
def vw(K:PySem.W.Frag):V->List V->Hp->VK->Prop:=λx xs H Q=>∃a y o,x=.ref a/\xs=[y]/\jo K H a y o/\Q (o.getD .az) H
theorem Xk(K:PySem.W.Frag)(hu:X.A.units+41 < cLine)(hK:X.K=K:=by rfl):yk X "dict.get" (vw K):=by
 subst hK;intro ae s Z H x xs v us Q I r rs h;obtain⟨a,y,o,rfl,rfl,g,q⟩:=h;obtain⟨u,rfl,ru⟩:=Vals.one rs;cases r;exact Y3 (by omega) I g ru λw' s' I' mP=>⟨o.getD .az,H,I',mP,q⟩
end
end L2
namespace L2
open PySem PySem.Spec PySem.W PyProof.Rows
section
variable {X:Cx} {A:Around} {E:Value->Shared->Prop} {ae:List (Addr×Obj)} {Z:St} {H:Hp} {s:Shared} {d:Addr} {y v2:V} {u r:Value}
end
section
variable {X:Cx} {K:PySem.W.Frag}
end
end L2
namespace L2
open PySem PySem.Spec PyProof.Rows
end L2
namespace L2
open PySem PySem.Spec PyProof.Rows
theorem Hi{P:Program}{w:World}{H:Hp}(h:Heap)(hb:sysModules < h.objs.size):bx P w H (h.push { cls:=.type "dict",data:=.dict #[]}) h.objs.size (.dG [] 0):=
 ⟨mU _,beq_eq_false_iff_ne.mpr (Ne.symm (jl hb)),_,#[],kA _ rfl,⟨rfl,rfl,rfl⟩,rfl,.nil,List.nodup_nil⟩
def Zd:TE:=λ_ H Q=>∀p,H p=none->Q (.ref p) (upd H p (.dG [] 0))
end L2
namespace L2
open PySem PySem.Spec PySem.W PyProof.Rows
variable{H:Hp}{ps:List (TK×V×V)}{A:Around}{l:Addr}{ys:List V}{E:Value->Shared->Prop}{s:Shared}
theorem Lv:entryFor table "dict.update.loop"=some Builtin.«dict.update.loop»:=entryFor_of_tree (by kernel_rfl)
theorem CY:plainId "dict.update.loop"=true:=by decide +kernel
def h_(es:List (TK×V×V))(ps:List (TK×V×V)):List (TK×V×V):=ps.foldl (λes p=>eV es p.1 p.2.1 p.2.2) es
theorem Dz{d:Addr}{o:HO}(h:H d=none):aB H (upd H d o):=λb u e=>by
 rw[eX (λz=>by rw[z,h] at e;cases e)]
 exact e
section
variable {X:Cx} {ae:List (Addr×Obj)} {Z:St} {H:Hp}
structure kB (K:PySem.W.Frag) (H:Hp) (ys:List V) (ps:List (TK×V×V)):Prop where
 len:ys.length=ps.length
 item:∀(i:Nat) p,ps[i]?=some p->∃a,ys[i]?=some (.ref a)/\jm K H a [p.2.1,p.2.2]/\bf K H [p.2.1] [p.1.d]/\p.1.ok 8=true
theorem Su(es ps:List (TK×V×V)):(h_ es ps).length<=es.length+ps.length:=by
 induction ps generalizing es with
 |nil=>exact cI _
 |cons p ps ih=>
  have:=ih (eV es p.1 p.2.1 p.2.2);have:=Dd p.1 p.2.1 p.2.2 es;show(h_ (eV es p.1 p.2.1 p.2.2) ps).length<=_;rw[kd];omega
theorem Mi(K:PySem.W.Frag)(h:∀p∈ps,bf K H [p.2.1] [p.1.d]):∀{es:List (TK×V×V)},bf K H (es.map (·.2.1)) (es.map (·.1.d))->bf K H ((h_ es ps).map (·.2.1)) ((h_ es ps).map (·.1.d)):=by
 induction ps with
 |nil=>exact λr=>r
 |cons p ps ih=>
  intro es r;refine ih (λq m=>h q (.tail _ m)) ?_
  have hp:=h p (.head _);clear ih h
  induction es with
  |nil=>exact hp
  |cons e es ih=>
   obtain⟨r1,r2⟩:=ai.inv r;show bf K H ((if e.1=p.1 then(e.1,e.2.1,p.2.2)::es else e::eV es p.1 p.2.1 p.2.2).map (·.2.1)) ((if e.1=p.1 then(e.1,e.2.1,p.2.2)::es else e::eV es p.1 p.2.1 p.2.2).map (·.1.d))
   split
   ·exact .cons r1 r2
   ·exact .cons r1 (ih r2)
theorem Sv{R:Result->Shared->Prop}{d J:Addr}(hd:H d=none)(hl:dY X.K H l ys)(hp:kB X.K H ys ps)(hh:A.handled=none)(hu:A.units+12 < cLine)(hn:ps.length < 1000)
  (hJ:∀u,jU X ae (upd H d u) J)
  (fin:∀s ep,Inv X ae Z (upd H d (.dG (h_ [] ps) ep)) s->R (.ok (.ret .none)) s) :
  ∀(n i:Nat) (ep:Nat) (s:Shared) (tk:Tok),ps.length - i=n->i<=ps.length->Inv X ae Z (upd H d (.dG (h_ [] (ps.take i)) ep)) s->s.heap.IsListIter J l i->codeAny (model X.prog X.w) A (.builtin "dict.update.loop" ⟨[.ref d,.ref J,.int (i:Int) tk,.none],[]⟩) R s:=by
 intro n
 induction n with
 |zero=>
  intro i ep s tk hi hi2 I it;have e:i=ps.length:=by omega
  subst e;refine codeAny_builtin Lv ?_;rw[Around.under_plainId CY _];show wpAny _ A.in1 (pyNext (.ref J) >>= _) _ _ s;have wY:=(Dz (o:=.dG (h_ [] (ps.take ps.length)) ep) hd).seq hl;obtain⟨aG,rv,p,hz⟩:=I.list wY;obtain⟨f0,f1,f2,f3,f4,f5⟩:=hJ (.dG (h_ [] (ps.take ps.length)) ep);have hlen:=rv.length;have Bg:=hp.len;refine wpAny_bind (wpAny_pyNext_list_end hh it p.isList (by simp;omega) λh' eb=>?_)
  have I1:=I.turned (t':=s.toks) (λb o hb e=>eb b o hb e) f0 f1 f3 f4 f5
  rw[List.take_length] at I1;exact wpAny_bind (wpAny_pure (wpAny_pure (fin _ ep I1)))
 |succ n ih=>
  intro i ep s tk hi hi2 I it;have lt:i < ps.length:=by omega
  obtain⟨a,ya,sq,rk,ok⟩:=hp.item i ps[i] (jR lt);refine codeAny_builtin Lv ?_;rw[Around.under_plainId CY _];show wpAny _ A.in1 (pyNext (.ref J) >>= _) _ _ s;have sm:=Dz (o:=.dG (h_ [] (ps.take i)) ep) hd;obtain⟨aG,rv,p,hz⟩:=I.list (sm.seq hl);obtain⟨u,hu1,ru⟩:=rv.get ya;obtain rfl:u=Value.ref a:=ru;obtain⟨f0,f1,f2,f3,f4,f5⟩:=hJ (.dG (h_ [] (ps.take i)) ep);refine wpAny_bind (wpAny_pyNext_list_item it p.isList (x:=.ref a) (by simpa using hu1) λh' zv sb=>?_)
  have I1:Inv X ae Z (upd H d (.dG (h_ [] (ps.take i)) ep)) { s with heap:=h'}:=I.turned (t':=s.toks) (λb o hb e=>(sb.2 b hb).trans e) f0 f1 f3 f4 f5
  obtain⟨jN,ES,tp,_⟩:=I1.tuple (sm.xX sq);obtain⟨w1,w2,rfl,r1,r2⟩:∃w1 w2,jN=[w1,w2]/\RelV ps[i].2.1 w1/\RelV ps[i].2.2 w2:=by
   cases ES with
   |cons r1 t=>
    cases t with
    |cons r2 t=>cases t;exact⟨_,_,rfl,r1,r2⟩
  obtain⟨o,ho,hc,n0,tI⟩:∃o,h'.get? a=some o/\o.cls=.type "tuple"/\∃n,o.data=.seq #[w1,w2] n:=by
   obtain⟨o,h1,h2,h3⟩:=tp;exact⟨o,h1,h2,h3⟩
  have hT:({ s with heap:=h'}:Shared).TypeIs (.ref a) "tuple":=⟨o,ho,hc⟩;refine wpAny_bind (wpAny_holding (wpAny_bind (wpAny_tryCatch ?_)));unfold Builtin.Dict.pairItems;refine wpAny_bind (wpAny_typeOf hT ?_);rw[if_pos (by decide)]
  refine wpAny_bind (m:=seqItems? (.ref a)) (wpAny_bind (wpAny_load ho ?_));rw[tI];refine wpAny_pure (wpAny_pure ?_);show wpAny _ _ (holding [w1,w2] (dictSet d w1 w2)) _ _ _;refine wpAny_holding ?_;have I2:=I1.pinned (fp:=[J]) (λb hb=>by rw[p8.mp hb];exact hJ _) (λb hb=>by
   rw[p8.mp hb];obtain⟨oj,ej,_,dj⟩:=zv;exact⟨oj,ej,λv z=>by rw[dj] at z;cases z⟩)
  have tk1:ps.take (i+1)=ps.take i++[ps[i]]:=(List.take_append_getElem lt).symm;have hpa:eV (h_ [] (ps.take i)) ps[i].1 ps[i].2.1 ps[i].2.2=h_ [] (ps.take (i+1)):=by rw[tk1];unfold h_;rw[Ld];rfl
  have hlen:=Su [] (ps.take i);rw[ye,zF] at hlen;refine G1 (H':=upd (upd H d (.dG (h_ [] (ps.take i)) ep)) d (.dG (h_ [] (ps.take (i+1))) (p5 (h_ [] (ps.take i)) ps[i].1 ep))) (show A.in1.units+8 < cLine from ?_) I2 ⟨_,ep,ps[i].1,aL,?_,(ai.E1 rk sm),ok,?_,by rw[hpa]⟩ r1 r2 λs' I3=>?_
  ·have:A.in1.units=A.units+1:=rfl;omega
  ·exact ai.E1 (H:=H) (Mi X.K (λq m=>by
    obtain⟨j,hj⟩:=yh.mp (List.mem_of_mem_take m);obtain⟨_,_,_,r,_⟩:=hp.item j q hj;exact r) .nil) sm
  ·exact jk (by omega:(h_ [] (ps.take i)).length < 1000000) (by decide)
  ·have eu:upd (upd H d (.dG (h_ [] (ps.take i)) ep)) d (.dG (h_ [] (ps.take (i+1))) (p5 (h_ [] (ps.take i)) ps[i].1 ep))=upd H d (.dG (h_ [] (ps.take (i+1))) (p5 (h_ [] (ps.take i)) ps[i].1 ep)):=by
    funext b;unfold upd;split <;> rfl
   rw[eu] at I3;obtain⟨oj,ej,cj,dj⟩:=id zv;have υ:s'.heap.get? J=some oj:=(I3.pin (J,oj) (nY _ (nY _ (z_ (by simp) ej)))).1
   refine wpAny_pure ⟨plainId_quiet CY _,?_⟩;exact ih (i+1) _ s' _ (by omega) lt I3.g_ ⟨oj,υ,cj,dj⟩
theorem TY{aG:Array Value}{Q:Option Value->Shared->Prop}(pl:PlainL s.heap l aG)(hA:A.handled=none)
  (h:∀h' tk,(∀b u,s.heap.get? b=some u->h'.get? b=some u)->Q none { s with heap:=h',toks:=tk}):wpAny (model X.prog X.w) A (getAttr? (.ref l) "keys") Q E s:=by
 obtain⟨o,n,hx,hc,hd,tI⟩:=pl;obtain⟨c,aN,dat,sl⟩:=o;simp only at hc tI hd;subst hc tI hd;obtain⟨hp,g,d,tk,os⟩:=s;have hT:∀QH,(⟨hp,g,d,QH,os⟩:Shared).TypeIs (.ref l) "list":=λ_=>⟨_,hx,rfl⟩
 have f1:=sub_AttributeError;have f3:=F.slot_list_getattribute.lookup;have f4:=F.slot_list_getattribute.bind (.ref l);have f5:=am_list_getattr_none;unfold getAttr? getAttrBy? getAttrBy
 repeat (any_goals (first|assumption|exact hT _|((with_reducible show wpAny _ _ (call (Value.builtin "list.__getattribute__") _ _) _ _ _);refine call_meets F.slot_list_getattribute (hT _) am_entry_list_getattribute (F.args_list_getattribute_2 _ _) (meets_getattribute_miss_list l aG n sl "keys" _ (by rw[typeLookup_type,builtinLookup_eq_fast];kernel_rfl) (by decide) (by size_fits)) ⟨hx,hA,λh' QH e sx=>?_⟩)|wp_step))
 obtain⟨t',u',he⟩:=sx.there;show wpAny _ _ (getattributeRaised _ _ _ _ _ _ _) _ _ _;unfold getattributeRaised
 repeat (any_goals (first|assumption|wp_step))
 exact h _ _ sx.keeps
theorem Q0{Q:Value->Shared->Prop}(I:Inv X ae Z H s)(hl:dY X.K H l ys)(hp:kB X.K H ys ps)(hh:A.handled=none)(hu:A.units+20 < cLine)(hn:ps.length < 1000)
  (q:∀s' ep,Inv X ae Z (upd H s.heap.objs.size (.dG (h_ [] ps) ep)) s'->Q (.ref s.heap.objs.size) s'):wpAny (model X.prog X.w) A (call (.type "dict") [.ref l]) Q E s:=by
 refine callType_codes (Q₁:=λobj s₁=>obj=.ref s.heap.objs.size/\s₁={ s with heap:=s.heap.push { cls:=.type "dict",data:=.dict #[]}}) F.kt_called_dict (F.kt_typeCall_dict_1 _) F.entry_dict_init (kt_code_dict_new _ ⟨rfl,rfl⟩) ?_
 rintro obj s₁ ⟨rfl,rfl⟩;have hd:H s.heap.objs.size=none:=I.bF.fresh (cI _);have I1:=I.laid (a:=s.heap.objs.size) (o:=.dG [] 0) (h':=s.heap.push { cls:=.type "dict",data:=.dict #[]}) (t':=s.toks) (λ_ _ q=>fg _ q) (cI _) (Hi s.heap I.big)
 generalize s.heap.objs.size=d at *;generalize s.heap.push { cls:=.type "dict",data:=.dict #[]}=JJ at *;have hT:=(DQ I1 aL).1;obtain⟨aG,rv,pl,hz⟩:=I1.list ((Dz hd).seq hl);have hTl:({ s with heap:=JJ,toks:=s.toks}:Shared).TypeIs (.ref l) "list":=by
  obtain⟨o,n,h1,h2,_⟩:=pl;exact⟨o,h1,h2⟩
 refine⟨hT,F.args_dict_init_2 _ _,?_⟩;unfold Builtin.«dict.__init__»;refine wpAny_bind ?_;unfold Builtin.Dict.selfAndRest;refine wpAny_bind (wpAny_notOrdered_dict hT ?_);show wpAny _ _ (pure (d,[Value.ref l])) _ _ _;refine wpAny_pure ?_;show wpAny _ _ (Builtin.Dict.updateFrom "dict.__init__" d (.ref l) [] .none) _ _ _;unfold Builtin.Dict.updateFrom;refine wpAny_bind (wpAny_typeOf hTl ?_);rw[if_pos (by decide)]
 refine wpAny_bind (TY (X:=X) pl (show A.in1.in1.handled=none from hh) λh' tk kp=>?_)
 have I2:Inv X ae Z (upd H d (.dG [] 0)) { s with heap:=h',toks:=tk}:=I1.kept (t':=tk) kp;obtain⟨jN,ES,Ke,_⟩:=I2.list ((Dz hd).seq hl);show wpAny _ _ (rule _ >>= _) _ _ _;refine wpAny_bind (wpAny_rule ?_);refine wpAny_bind (wpAny_pyIter_list Ke.isList ?_);have I3:=I2.kept (h':=h'.push { cls:=.type "list_iterator",data:=.fields #[.ref l,.int 0 0]}) (t':=tk) (λ_ _ e=>fg _ e)
 have PD:d < h'.objs.size:=by
  obtain⟨_,_,o,xs,g1,_⟩:=(show bx X.prog X.w _ h' d (.dG [] 0) from I2.bF d _ aL);exact eH g1
 refine wpAny_pure ⟨plainId_quiet CY _,?_⟩;refine Sv (A:=A.in1) (J:=h'.objs.size) hd hl hp hh (show A.units+1+12 < cLine by omega) hn (λu=>I2.mC (cI _) ?_) (λs' ep I4=>⟨rfl,q s' ep I4⟩) ps.length 0 0 _ _ rfl (mU _) I3 ⟨_,kA _ rfl,rfl,rfl⟩
 rw[eX (vI PD)];have:=I2.bF.fresh (cI _)
 rwa [eX (vI PD)] at this
def O8(K:PySem.W.Frag):List V->Hp->VK->Prop:=λvs H Q=>∃a ys ps,vs=[.ref a]/\dY K H a ys/\kB K H ys ps/\ps.length < 1000/\∀p ep,H p=none->Q (.ref p) (upd H p (.dG (h_ [] ps) ep))
theorem Sw(K:PySem.W.Frag)(hu:X.A.units+41 < cLine)(hc:X.calm=true:=by rfl)(hK:X.K=K:=by rfl):bU X (.type "dict") (O8 K):=by
 subst hK;intro ae s Z H xs us Q I r h;obtain⟨a,ys,ps,rfl,hl,hp,hn,q⟩:=h;obtain⟨u,rfl,ru⟩:=vals1 r;cases ru;exact Q0 I hl hp (I.ok.hd hc) (by omega) hn λs' ep I'=>⟨.ref s.heap.objs.size,_,I',rfl,q _ ep (I.bF.fresh (cI _))⟩
end
theorem Xl:bootBuiltins "dict"=some (.type "dict"):=by decide +kernel
end L2
namespace L2
open PySem PySem.Spec PySem.W PySem.Calls PyProof.Rows
section
variable {prog:Program} {w:World} {A:Around} {E:Value->Shared->Prop} {s:Shared}
theorem O9{vs:List Value}(h:vs.length < 2):(arrOf (SortSt.mk' general' (vs.toArray.zip vs.toArray) #[] 7 none)).map (·.2)=vs.toArray:=by
 show((vs.toArray.zip vs.toArray).map (·.2))=vs.toArray
 match vs,h with
 |[],_=>simp
 |[_],_=>simp
theorem Sx{a:Addr}{vs:List Value}{n:Nat}{P:Fin->Shared->Prop}(ho:s.heap.get? a=some (seqObj "list" vs.toArray n))(h1:vs.length < 2)
  (h:P (.done (.ret .none)) { s with heap:=sortedHeap s.heap a vs vs.toArray}):wpAny (model prog w) A (Builtin.«list.sort» ⟨[.ref a],[]⟩) P E s:=by
 rw[list_sort_plain];have ha:a < s.heap.objs.size:=eH ho;have hz:vs.length<=sizeLine:=by rw[sizeLine_eq];omega
 refine wpAny_bind (listItems_at ho rfl ?_);refine wpAny_bind (listUpdate_at ho rfl ?_ (by rw[fE];exact hz) (mU _))
 obtain⟨e1,wZ⟩:∃e1,(s.heap.update a (Obj.mapSeq λ_=>#[])).get? a=some (seqObj "list" #[] e1):=⟨_,get?_update_seq ho (λ_=>#[])⟩
 refine wpAny_bind (seqEpoch_at wZ rfl ?_);refine wpAny_bind (wpAny_newTuple ?_ (by show vs.length<=_;exact hz))
 refine wpAny_bind (wpAny_newList ?_ (mU _));refine wpAny_holding ?_;have w6:(((s.heap.update a (Obj.mapSeq λ_=>#[])).push (seqObj "tuple" vs.toArray 0)).push (seqObj "list" #[] 0)).get? a=some (seqObj "list" #[] e1):=by
  rw[CH _ _ _ (by rw[size_push',E4];exact jl (yg ha)),CH _ _ _ (by rw[E4];exact jl ha)]
  exact wZ
 show wpAny (model prog w) A _ P E { s with heap:=((s.heap.update a (Obj.mapSeq λ_=>#[])).push (seqObj "tuple" vs.toArray 0)).push (seqObj "list" #[] 0)}
 dsimp only;have h2:vs.toArray.size < 2:=by simpa using h1
 rw[if_pos h2,if_pos h2];refine wpAny_bind (wpAny_pure ?_);rw[StateT.run_pure];refine wpAny_bind (wpAny_pure ?_);dsimp only;refine wpAny_bind (seqEpoch_at w6 rfl ?_);refine wpAny_bind (listUpdate_at w6 rfl ?_ (mU _) (by rw[O9 h1,fE];first|exact hz|exact Nat.le_succ_of_le hz))
 simp only[bne_self_eq_false,qx,if_false];rw[O9 h1];exact wpAny_pure h
theorem Vv{vs:List Value}{h0:Heap}{Q:Value->Shared->Prop}(h1:vs.length < 2)(h:∀h' c,(∀b o,h0.get? b=some o->h'.get? b=some o)->h'.get? h0.objs.size=some (seqObj "list" vs.toArray c)->Q (.ref h0.objs.size) { s with heap:=h'}):
  wpAny (model prog w) A (call (.builtin "list.sort") [.ref h0.objs.size]) (λ_ s'=>Q (.ref h0.objs.size) s') E { s with heap:=h0.push (seqObj "list" vs.toArray 0)}:=by
 have ho:(h0.push (seqObj "list" vs.toArray 0)).get? h0.objs.size=some (seqObj "list" vs.toArray 0):=kA _ rfl;refine wpAny_call_entry slot_list_sort ⟨_,ho,rfl⟩ entry_list_sort ?_ (args_list_sort _);refine Sx (s:={ s with heap:=h0.push (seqObj "list" vs.toArray 0)}) ho h1 ⟨_,rfl,?_⟩;have lt:h0.objs.size < (h0.push (seqObj "list" vs.toArray 0)).objs.size:=eH ho;obtain⟨e1,wZ⟩:∃e1,((h0.push (seqObj "list" vs.toArray 0)).update h0.objs.size (Obj.mapSeq λ_=>#[])).get? h0.objs.size=some (seqObj "list" #[] e1):=⟨_,get?_update_seq ho (λ_=>#[])⟩
 have w6:((((h0.push (seqObj "list" vs.toArray 0)).update h0.objs.size (Obj.mapSeq λ_=>#[])).push (seqObj "tuple" vs.toArray 0)).push (seqObj "list" #[] 0)).get? h0.objs.size=some (seqObj "list" #[] e1):=fg _ (fg _ wZ)
 have ho7:=get?_update_seq w6 (λ_=>vs.toArray)
 refine h _ _ (λb o e=>?_) ho7
 have nb:b≠h0.objs.size:=jl (eH e);unfold sortedHeap;rw[E5 _ _ _ _ nb];refine fg _ (fg _ ?_);rw[E5 _ _ _ _ nb];exact fg _ e
theorem TZ{P:List Value->Prop}{r:Addr}{Q:Value->Shared->Prop}(h1:∀vs,P vs->vs.length < 2)(hc:∀R:List Value->Shared->Prop,(∀vs (h':Heap) (tk:Nat),P vs->(∀b o,s.heap.get? b=some o->h'.get? b=some o)->R vs { s with heap:=h',toks:=tk})->wpAny (model prog w) A.in1 (collect (.ref r)) R E s)
  (h:∀vs (h0:Heap) (tk:Nat),P vs->(∀b o,s.heap.get? b=some o->h0.get? b=some o)->∀(h':Heap) (c:Nat),(∀b o,h0.get? b=some o->h'.get? b=some o)->h'.get? h0.objs.size=some (seqObj "list" vs.toArray c)->Q (.ref h0.objs.size) { s with heap:=h',toks:=tk}):wpAny (model prog w) A (call (.builtin "sorted") [.ref r]) Q E s:=by
 refine Calls.call_function_entry kind_sorted plain_sorted entry_sorted (args_sorted1 _) ?_;unfold Builtin.«sorted»;refine wpAny_bind (m:=checkCount "sorted" 1 1 _) (wpAny_pure ?_);refine wpAny_bind (hc _ λvs h' tk hP kp=>?_)
 have hl:=h1 vs hP;refine wpAny_bind (wpAny_newList ?_ (by rw[sizeLine_eq];omega))
 refine wpAny_bind (wpAny_holding (wpAny_mono (Vv (s:={ s with heap:=h',toks:=tk}) (h0:=h') (vs:=vs) (Q:=λv s'=>Q v s') hl λh2 c JS hg=>h vs h' tk hP kp h2 c JS hg) (λ_ s' x=>?_) λ_ _ e=>e))
 exact wpAny_pure ⟨_,rfl,x⟩
end
section
variable {X:Cx} {K:Frag}
theorem MJ:bootBuiltins "sorted"=some (.builtin "sorted"):=by decide +kernel
theorem Nh:∀{ys:List V} {us:List Value},ys.length=us.length->(∀(j:Nat) (y:V) (u:Value),ys[j]?=some y->us[j]?=some u->RelV y u)->Vals ys us
 |[],[],_,_=>.nil
 |[],_::_,h,_=>by simp at h
 |_::_,[],h,_=>by simp at h
 |y::ys,u::us,h,r=>.cons (r 0 y u rfl rfl) (Nh (by simpa using h) λj y' u' e1 e2=>r (j+1) y' u' (by simpa using e1) (by simpa using e2))
def O_(K:Frag):List V->Hp->VK->Prop:=λxs H Q=>∃a ys,xs=[.ref a]/\(dY K H a ys\/∃es ep,H a=some (.dG es ep)/\jG es/\ys=es.map (·.2.1))/\ys.length < 2/\∀l,H l=none->Q (.ref l) (upd H l (.lst ys))
theorem RK(hc:X.calm=true):bU X (.builtin "sorted") (O_ X.K):=by
 intro ae s Z H xs us Q I r h;obtain⟨a,ys,rfl,hq,hl,q⟩:=h;obtain⟨u,rfl,ru⟩:=Vals.one r;cases ru;refine TZ (P:=Vals ys) (λvs rv=>by have:=rv.length;omega) ?_ λvs h0 tk rv kp h' c JS hg=>?_
 ·intro R hR;rcases hq with hq|⟨es,ep,hd,ht,rfl⟩
  ·obtain⟨aG,rv,pl,hz⟩:=I.list hq;refine collect_list pl.isList (hR aG _ s.toks rv λb o e=>?_) (by have:=rv.length;rw[sizeLine_eq];omega)
   have nb:b≠s.heap.objs.size:=jl (eH e);rw[E5 _ _ _ _ nb];exact fg _ e
  ·obtain⟨kvs,D1,D2,D3,D4,lo⟩:=yQ I hd ht;have l1:kvs.length=es.length:=by have:=congrArg List.length D3;simpa using this
   refine kdu_collect (kdl_dict (knd:=strKind X.prog X.w) (kvs:=kvs) (ep:=ep) lo) (I.ok.hd hc) D1 D4 λh' tk bA kp hi=>hR _ h' tk ?_ kp
   refine Nh (by have:=hi.1;rw[cz,<-l1,<-this];simp) λj y u e1 e2=>?_
   rw[jx] at e1;obtain⟨e,e3,rfl⟩:=fR.mp e1;obtain⟨z,z1,z2⟩:=ht e (rR e3);obtain⟨k,v,k1,k2⟩:=hi.2 j u (by rw[<-ur];exact e2)
   have k3:(kvs.map (λp=>TK.inr p.1))[j]?=(es.map (·.1))[j]?:=by rw[D3]
   rw[jx,jx,k1,e3] at k3;have k4:TK.inr k=e.1:=Option.some.inj k3;rw[z1] at k4;cases k4;rw[z2];exact Value.isStrOf_shape k2
 ·have e:=rv.length;have I0:Inv X ae Z H { s with heap:=h0,toks:=tk}:=I.kept kp;have I1:=I0.laid (h':=h') (t':=tk) (o:=.lst ys) JS (cI _) (show bx X.prog X.w _ h' _ (.lst ys) from⟨by rw[sizeLine_eq];omega,vs,c,rv,hg⟩)
  exact⟨.ref h0.objs.size,_,I1,rfl,q _ (I0.bF.fresh (cI _))⟩
end
end L2
namespace L2
open PySem PySem.Spec PySem.W PyProof.Rows
variable{p:Array Nat}{i m k l:Nat}
def pw(lt:Nat->Nat->Bool)(n:Nat){α:Type}:KasT α->(α->Prop)->Prop
 |.ret a,P=>P a
 |.ask i j k,P=>i < n/\j < n/\i≠j/\pw lt n (k (lt i j)) P
section
variable {lt:Nat->Nat->Bool} {n:Nat}
theorem DS{α:Type}{P Q:α->Prop}(h:∀a,P a->Q a):∀{t:KasT α},pw lt n t P->pw lt n t Q
 |.ret a,p=>h a p
 |.ask i j k,p=>⟨p.1,p.2.1,p.2.2.1,DS h p.2.2.2⟩
theorem yS{α β:Type}{P:α->Prop}{Q:β->Prop}{f:α->KasT β}(h:∀a,P a->pw lt n (f a) Q):∀{t:KasT α},pw lt n t P->pw lt n (t.bind f) Q
 |.ret a,p=>h a p
 |.ask i j k,p=>⟨p.1,p.2.1,p.2.2.1,yS h p.2.2.2⟩
structure Ord (lt:Nat->Nat->Bool) (n:Nat):Prop where
 KY:∀i j,i < n->j < n->i≠j->lt i j=false->lt j i=true
 asy:∀i j,i < n->j < n->lt i j=true->lt j i=false
 tr:∀i j k,i < n->j < n->k < n->lt i j=true->lt j k=true->lt i k=true
structure qb (n:Nat) (p:Array Nat):Prop where
 pm:p.Perm (List.toArray (List.range n))
theorem qb.size{p:Array Nat}(h:qb n p):p.size=n:=by have:=h.pm.size_eq;simpa using this
theorem qb.below(h:qb n p)(hi:i < n):p.getD i 0 < n:=by
 have hs:=h.size;have e:p.getD i 0=p[i]'(by omega):=by simp[Array.getD,hs,hi]
 rw[e];have:p[i]'(by omega)∈p:=Array.getElem_mem _
 have:=h.pm.mem_iff.mp this;simpa using this
theorem qb.inj(h:qb n p){j:Nat}(hi:i < n)(hj:j < n)(e:p.getD i 0=p.getD j 0):i=j:=by
 have hs:=h.size;have nd:p.toList.Nodup:=(Array.perm_iff_toList_perm.mp h.pm).nodup_iff.mpr (by simpa using Lb)
 have ei:p.getD i 0=p.toList[i]'(by simp;omega):=by simp[Array.getD,hs,hi]
 have ej:p.getD j 0=p.toList[j]'(by simp;omega):=by simp[Array.getD,hs,hj]
 rw[ei,ej] at e;exact(Cu nd).mp e
def qc(lt:Nat->Nat->Bool)(p:Array Nat)(k:Nat):Prop:=∀i j,i < j->j < k->lt (p.getD i 0) (p.getD j 0)=true
def yi(lt:Nat->Nat->Bool)(p:Array Nat)(k:Nat):Prop:=∀i j,i < j->j < k->lt (p.getD j 0) (p.getD i 0)=true
variable (O:Ord lt n) {p:Array Nat} (hp:qb n p)
include O hp
theorem Vw(h1:1<=m)(hm:m < n)(h:qc lt p m)(e:lt (p.getD (m - 1) 0) (p.getD m 0)=true):qc lt p (m+1):=by
 intro i j o5 hj;by_cases z:j=m
 ·subst z;by_cases z2:i=j - 1
  ·rw[z2];exact e
  ·exact O.tr _ _ _ (hp.below (by omega)) (hp.below (by omega)) (hp.below hm) (h i (j - 1) (by omega) (by omega)) e
 ·exact h i j o5 (by omega)
theorem Vx(h1:1<=m)(hm:m < n)(h:yi lt p m)(e:lt (p.getD m 0) (p.getD (m - 1) 0)=true):yi lt p (m+1):=by
 intro i j o5 hj;by_cases z:j=m
 ·subst z;by_cases z2:i=j - 1
  ·rw[z2];exact e
  ·exact O.tr _ _ _ (hp.below hm) (hp.below (by omega)) (hp.below (by omega)) e (h i (j - 1) (by omega) (by omega))
 ·exact h i j o5 (by omega)
theorem Im:∀(f m:Nat),1<=m->m+f<=n->qc lt p m->pw lt n (kas_asc p f m) λr=>m<=r/\r<=m+f/\qc lt p r/\(r < m+f->lt (p.getD r 0) (p.getD (r - 1) 0)=true)
 |0,m,_,_,h=>⟨cI _,cI _,h,λz=>absurd z (lX _)⟩
 |f+1,m,h1,hm,h=>by
  refine⟨hp.below (by omega),hp.below (by omega),λz=>by have:=hp.inj (by omega) (by omega) z;omega,?_⟩
  cases e:lt (p.getD m 0) (p.getD (m - 1) 0) with
  |true=>exact⟨cI _,by omega,h,λ_=>e⟩
  |false=>
   have:=O.KY _ _ (hp.below (by omega)) (hp.below (by omega)) (λz=>by have:=hp.inj (by omega) (by omega) z;omega) e
   exact DS (λr hr=>⟨by omega,by omega,hr.2.2.1,λz=>hr.2.2.2 (by omega)⟩) (Im f (m+1) (by omega) (by omega) (Vw O hp h1 (by omega) h this))
theorem Oh:∀(f m:Nat),1<=m->m+f<=n->yi lt p m->pw lt n (kas_desc f p m 0) λr=>r.1=p/\r.2.2=0/\m<=r.2.1/\r.2.1<=m+f/\yi lt p r.2.1
 |0,m,_,_,h=>⟨rfl,rfl,cI _,cI _,h⟩
 |f+1,m,h1,hm,h=>by
  refine⟨hp.below (by omega),hp.below (by omega),λz=>by have:=hp.inj (by omega) (by omega) z;omega,?_⟩
  cases e:lt (p.getD m 0) (p.getD (m - 1) 0) with
  |true=>exact DS (λr hr=>⟨hr.1,hr.2.1,by omega,by omega,hr.2.2.2.2⟩) (Oh f (m+1) (by omega) (by omega) (Vx O hp h1 (by omega) h e))
  |false=>
   have:=O.KY _ _ (hp.below (by omega)) (hp.below (by omega)) (λz=>by have:=hp.inj (by omega) (by omega) z;omega) e
   refine⟨hp.below (by omega),hp.below (by omega),λz=>by have:=hp.inj (by omega) (by omega) z;omega,?_⟩
   rw[this];exact⟨rfl,rfl,cI _,Fc _ _,h⟩
omit O in
theorem Pa(hm:m<=n)(i:Nat):(kas_rev p 0 m).getD i 0=if i < m then p.getD (m - 1 - i) 0 else p.getD i 0:=by
 have hs:=hp.size;have:=getElem?_mirror_all (xs:=p) (i:=0) (j:=m) (by omega) i
 have g:∀(q:Array Nat) (j:Nat),q.getD j 0=(q[j]?).getD 0:=λq j=>by
  unfold Array.getD;split <;> simp_all
 unfold kas_rev;rw[g,this];simp only[mU,true_and,Nat.zero_add];split
 ·rw[g]
 ·rw[g]
omit O in
theorem Oi(m:Nat):qb n (kas_rev p 0 m):=⟨(mirror_perm _ _ _ _).trans hp.pm⟩
theorem Xm(hm:m<=n)(h:yi lt p m):qc lt (kas_rev p 0 m) m:=by
 intro i j o5 hj;rw[Pa hp hm,Pa hp hm,if_pos (by omega),if_pos hj]
 exact h _ _ (by omega) (by omega)
theorem Hj{k:Nat}(hk:k < n)(hs:qc lt p k):∀(f l r:Nat),l<=r->r<=k->r - l<=f->(∀i,i < l->lt (p.getD i 0) (p.getD k 0)=true)->(∀i,r<=i->i < k->lt (p.getD k 0) (p.getD i 0)=true)->
  pw lt n (kas_place p k f l r) λx=>x<=k/\(∀i,i < x->lt (p.getD i 0) (p.getD k 0)=true)/\∀i,x<=i->i < k->lt (p.getD k 0) (p.getD i 0)=true
 |0,l,r,h1,h2,h3,a,b=>⟨by omega,a,λi hi hk=>b i (by omega) hk⟩
 |f+1,l,r,h1,h2,h3,a,b=>by
  unfold kas_place;split
  ·exact⟨by omega,a,λi hi hk=>b i (by omega) hk⟩
  ·refine⟨hp.below hk,hp.below (by omega),λz=>by have:=hp.inj hk (by omega) z;omega,?_⟩
   have hm:(l+r) / 2 < k:=by omega
   cases e:lt (p.getD k 0) (p.getD ((l+r) / 2) 0) with
   |true=>
    refine Hj hk hs f l _ (by omega) (by omega) (by omega) a λi hi hik=>?_
    by_cases z:i=(l+r) / 2
    ·rw[z];exact e
    ·exact O.tr _ _ _ (hp.below hk) (hp.below (by omega)) (hp.below (by omega)) e (hs _ _ (by omega) hik)
   |false=>
    have e2:=O.KY _ _ (hp.below hk) (hp.below (by omega)) (λz=>by have:=hp.inj hk (by omega) z;omega) e
    refine Hj hk hs f _ r (by omega) (by omega) (by omega) (λi hi=>?_) b
    by_cases z:i=(l+r) / 2
    ·rw[z];exact e2
    ·exact O.tr _ _ _ (hp.below (by omega)) (hp.below (by omega)) (hp.below hk) (hs _ _ (by omega) (by omega)) e2
omit O in
theorem Pb(hk:k < n)(hl:l<=k)(i:Nat):(bubble p k (k - l)).getD i 0=if i=l then p.getD k 0 else if l < i/\i<=k then p.getD (i - 1) 0 else p.getD i 0:=by
 have hs:=hp.size;have:=getElem?_bubble (xs:=p) (src:=k) (by omega) (k - l) (by omega) i
 have g:∀(q:Array Nat) (j:Nat),q.getD j 0=(q[j]?).getD 0:=λq j=>by
  unfold Array.getD;split <;> simp_all
 rw[g,this,show k - (k - l)=l by omega]
 split
 ·rw[g]
 ·split
  ·rw[g]
  ·rw[g]
theorem Xn(hk:k < n)(hl:l<=k)(hs:qc lt p k)(a:∀i,i < l->lt (p.getD i 0) (p.getD k 0)=true)(b:∀i,l<=i->i < k->lt (p.getD k 0) (p.getD i 0)=true):qc lt (bubble p k (k - l)) (k+1):=by
 intro i j o5 hj;rw[Pb hp hk hl,Pb hp hk hl];by_cases j1:j=l
 ·rw[if_pos j1,if_neg (show ¬i=l by omega),if_neg (show ¬(l < i/\i<=k) by omega)]
  exact a i (by omega)
 ·rw[if_neg j1];by_cases i1:i=l
  ·rw[if_pos i1,if_pos (show l < j/\j<=k by omega)]
   exact b (j - 1) (by omega) (by omega)
  ·rw[if_neg i1];by_cases j2:l < j
   ·rw[if_pos (show l < j/\j<=k by omega)]
    by_cases i2:l < i
    ·rw[if_pos (show l < i/\i<=k by omega)];exact hs _ _ (by omega) (by omega)
    ·rw[if_neg (show ¬(l < i/\i<=k) by omega)]
     by_cases z:i=j - 1
     ·omega
     ·exact hs _ _ (by omega) (by omega)
   ·rw[if_neg (show ¬(l < j/\j<=k) by omega),if_neg (show ¬(l < i/\i<=k) by omega)]
    exact hs _ _ o5 (by omega)
omit hp in
theorem Pc:∀(f:Nat) (p:Array Nat) (k:Nat),qb n p->k+f=n->qc lt p k->pw lt n (kas_bin f p k) λq=>qb n q/\qc lt q n
 |0,p,k,hp,e,h=>by subst e;exact⟨hp,h⟩
 |f+1,p,k,hp,e,h=>by
  refine yS (λl hl=>?_) (Hj O hp (by omega) h k 0 k (mU _) (cI _) (by omega) (λi hi=>by omega) λi hi hk=>by omega)
  exact Pc f _ (k+1) ⟨(bubble_perm _ _ _).trans hp.pm⟩ (by omega) (Xn O hp (by omega) hl.1 h hl.2.1 hl.2.2)
theorem Vy(h1:1<=n):pw lt n (kas_count n p) λr=>1<=r.1/\r.1<=n/\qb n r.2/\qc lt r.2 r.1:=by
 refine yS (λm hm=>?_) (Im O hp (n - 1) 1 (cI _) (by omega) λi j o5 hj=>by omega)
 obtain⟨m1,m2,m3,m4⟩:=hm;by_cases e:m=n
 ·rw[if_pos (by simpa using e)]
  exact⟨m1,by show m<=n;omega,hp,m3⟩
 ·rw[if_neg (by simpa using e)]
  by_cases g:m > 1
  ·rw[if_pos g];refine⟨hp.below (by omega),hp.below (by omega),λz=>by have:=hp.inj (by omega) (by omega) z;omega,?_⟩
   rw[m3 0 (m - 1) (by omega) (by omega)]
   exact⟨m1,by show m<=n;omega,hp,m3⟩
  ·rw[if_neg g];have em:m=1:=by omega
   subst em;have d2:yi lt p 2:=λi j o5 hj=>by
    have:i=0/\j=1:=by omega
    rw[this.1,this.2];exact m4 (by omega)
   refine yS (λr hr=>?_) (Oh O hp (n - (1+1)) (1+1) (by omega) (by omega) d2)
   obtain⟨r1,r2,r3,r4,r5⟩:=hr;rw[if_neg (by rw[r2];exact lX 0),r1]
   refine yS (λx hx=>?_) (Im O (Oi hp r.2.1) (n - r.2.1) r.2.1 (by omega) (by omega) (Xm O hp (by omega) r5))
   exact⟨by show 1<=x;omega,by show x<=n;omega,Oi hp _,hx.2.2.1⟩
omit hp in
theorem Oj(h1:1<=n):pw lt n (kas_sort n) λq=>qb n q/\qc lt q n:=by
 refine yS (λr hr=>?_) (Vy O ⟨Array.Perm.refl _⟩ h1)
 obtain⟨r1,r2,r3,r4⟩:=hr;have e:max r.1 1=r.1:=by omega
 rw[e];split
 ·exact Pc O (n - r.1) r.2 r.1 r3 (by omega) r4
 ·have:r.1=n:=by omega
  rw[this] at r4;exact⟨r3,r4⟩
end
end L2
namespace L2
open PySem PySem.Spec PySem.W PyProof.Rows
variable{ks:List (Int×Int)}
def zB(lt:Nat->Nat->Bool){α:Type}:KasT α->α
 |.ret a=>a
 |.ask i j k=>zB lt (k (lt i j))
theorem Ed{lt:Nat->Nat->Bool}{n:Nat}{α:Type}{P:α->Prop}:∀{t:KasT α},pw lt n t P->P (zB lt t)/\pw lt n t λa=>a=zB lt t
 |.ret _,p=>⟨p,rfl⟩
 |.ask _ _ _,p=>⟨(Ed p.2.2.2).1,p.1,p.2.1,p.2.2.1,(Ed p.2.2.2).2⟩
theorem Pd{lt:Nat->Nat->Bool}{n:Nat}{α:Type}{cmp:Nat->Nat->(Bool->Shared->Prop)->Shared->Prop}{Q:α->Shared->Prop}{s:Shared}(hc:∀i j C,i < n->j < n->i≠j->C (lt i j) s->cmp i j C s):∀{t:KasT α},pw lt n t (λa=>Q a s)->t.kasWp cmp Q s
 |.ret _,p=>p
 |.ask i j k,p=>hc i j _ p.1 p.2.1 p.2.2.1 (Pd hc p.2.2.2)
def BD(x y:Int×Int):Bool:=decide (x.1 < y.1\/(x.1=y.1/\x.2 < y.2))
def ltAt(ks:List (Int×Int))(i j:Nat):Bool:=BD (ks.getD i (0,0)) (ks.getD j (0,0))
theorem Pe(nd:ks.Nodup):Ord (ltAt ks) ks.length:=by
 refine⟨λi j hi hj hn h=>?_,λi j _ _ h=>?_,λi j k _ _ _ h1 h2=>?_⟩
 ·have ne:ks.getD i (0,0)≠ks.getD j (0,0):=by
   have e1:ks.getD i (0,0)=ks[i]:=by simp[hi]
   have e2:ks.getD j (0,0)=ks[j]:=by simp[hj]
   rw[e1,e2];exact λz=>hn ((Cu nd).mp z)
  unfold ltAt BD at *;generalize ks.getD i (0,0)=x at *;generalize ks.getD j (0,0)=y at *;rw[decide_eq_false_iff_not] at h;rw[decide_eq_true_eq];have:¬(x.1=y.1/\x.2=y.2):=λz=>ne (Prod.ext z.1 z.2)
  omega
 ·unfold ltAt BD at *;rw[decide_eq_true_eq] at h;rw[decide_eq_false_iff_not];omega
 ·unfold ltAt BD at *;rw[decide_eq_true_eq] at *;omega
def f6(ks:List (Int×Int)):List Nat:=(zB (ltAt ks) (kas_sort ks.length)).toList
def hZ(h:Heap)(vs:List Value)(ks:List (Int×Int)):Prop:=vs.length=ks.length/\∀i,i < ks.length->∃x o a b t t' z m,vs.getD i Value.none=.ref x/\h.get? x=some o/\o.cls=.type "tuple"/\o.data=.seq #[.int a t,.int b t',z] m/\ks.getD i (0,0)=(a,b)
theorem hZ.keep{h h':Heap}{vs:List Value}(T:hZ h vs ks)(k:∀b o,h.get? b=some o->h'.get? b=some o):hZ h' vs ks:=⟨T.1,λi hi=>by
 obtain⟨x,o,a,b,t,t',z,m,h1,h2,r⟩:=T.2 i hi;exact⟨x,o,a,b,t,t',z,m,h1,k _ _ h2,r⟩⟩
section
variable {prog:Program} {w:World} {A:Around} {E:Value->Shared->Prop} {s:Shared} {vs:List Value} {ks:List (Int×Int)}
theorem Xs(T:hZ s.heap vs ks)(nd:ks.Nodup)(i j:Nat)(C:Bool->Shared->Prop)(hi:i < ks.length)(hj:j < ks.length)(ij:i≠j)(h:C (ltAt ks i j) s):kas_ask prog w A (tuples' true) vs i j C s:=by
 obtain⟨x,o,a,b,t,t',z,m,x1,x2,x3,x4,x5⟩:=T.2 i hi;obtain⟨y,p,c,d,u,u',z',m',y1,y2,y3,y4,y5⟩:=T.2 j hj;have hl:ltAt ks i j=decide (a < c\/(a=c/\b < d)):=by unfold ltAt BD;rw[x5,y5]
 rw[hl] at h;unfold kas_ask;rw[x1,y1];refine kat_lt x2 x4 y2 y4 ?_;show KatLex prog w A true _ C [(.int a t,.int c u),(.int b t',.int d u'),(z,z')] 0 s;refine kat_cons (wpAny_eqBool_int (kat_go (λe=>?_) λe=>?_))
 ·have e:a=c:=by simpa using e
  refine kat_yes (kat_cons (wpAny_eqBool_int (kat_go (λe2=>?_) λe2=>?_)))
  ·have e2:b=d:=by simpa using e2
   have e3:ks.getD i (0,0)=ks.getD j (0,0):=by rw[x5,y5,e,e2]
   have f1:ks.getD i (0,0)=ks[i]:=by simp[hi]
   have f2:ks.getD j (0,0)=ks[j]:=by simp[hj]
   rw[f1,f2] at e3;exact absurd ((Cu nd).mp e3) ij
  ·have e2:b≠d:=by simpa using e2
   refine kat_no (kat_one _ _ (wpAny_lt_int ?_));rw[show decide (a < c\/(a=c/\b < d))=decide (b < d) by simp[e]] at h
   exact h
 ·have e:a≠c:=by simpa using e
  refine kat_no (oneLt_int ?_);rw[show decide (a < c\/(a=c/\b < d))=decide (a < c) by simp[e]] at h
  exact h
theorem Ni{h:Heap}:∀{vs:List Value} {ks:List (Int×Int)},hZ h vs ks->∃fs,KatTups h vs fs/\fs.length=vs.length/\∀v∈fs,∃a t,v=Value.int a t
 |[],_,_=>⟨[],.nil,rfl,λv m=>by cases m⟩
 |v::vs,[],T=>by have:=T.1;simp at this
 |v::vs,k::ks,T=>by
  obtain⟨fs,f1,f2,f3⟩:=Ni (h:=h) (vs:=vs) (ks:=ks) ⟨by have:=T.1;simpa using this,λi hi=>by
   obtain⟨x,o,a,b,t,t',z,m,r⟩:=T.2 (i+1) (by simpa using hi)
   exact⟨x,o,a,b,t,t',z,m,by simpa using r⟩⟩
  obtain⟨x,o,a,b,t,t',z,m,h1,h2,h3,h4,_⟩:=T.2 0 (by simp)
  have h1:v=.ref x:=by simpa using h1
  subst h1;refine⟨.int a t::fs,.cons h2 h3 h4 (by simp) f1,by simp[f2],λv m=>?_⟩
  rcases fV.mp m with rfl|m
  ·exact⟨a,t,rfl⟩
  ·exact f3 v m
theorem Rl{a:Addr}{n:Nat}{P:PySem.Fin->Shared->Prop}(ho:s.heap.get? a=some (seqObj "list" vs.toArray n))(T:hZ s.heap vs ks)(nd:ks.Nodup)(na:∀i x,i < ks.length->vs.getD i Value.none=.ref x->x≠a)(h2:2<=vs.length)(Eu:vs.length < 64)
  (h:P (.done (.ret .none)) { s with heap:=sortedHeap s.heap a vs (List.toArray ((f6 ks).map λi=>vs.getD i Value.none))}):wpAny (model prog w) A (Builtin.«list.sort» ⟨[.ref a],[]⟩) P E s:=by
 rw[list_sort_plain];have ha:a < s.heap.objs.size:=eH ho;refine wpAny_bind (listItems_at ho rfl ?_);refine wpAny_bind (listUpdate_at ho rfl ?_ (by rw[fE,sizeLine_eq];omega) (mU _))
 obtain⟨e1,wZ⟩:∃e1,(s.heap.update a (Obj.mapSeq λ_=>#[])).get? a=some (seqObj "list" #[] e1):=⟨_,get?_update_seq ho (λ_=>#[])⟩
 refine wpAny_bind (seqEpoch_at wZ rfl ?_);refine wpAny_bind (wpAny_newTuple ?_ (by show vs.length<=_;rw[sizeLine_eq];omega))
 refine wpAny_bind (wpAny_newList ?_ (mU _));refine wpAny_holding ?_;have w6:(((s.heap.update a (Obj.mapSeq λ_=>#[])).push (seqObj "tuple" vs.toArray 0)).push (seqObj "list" #[] 0)).get? a=some (seqObj "list" #[] e1):=by
  rw[CH _ _ _ (by rw[size_push',E4];exact jl (yg ha)),CH _ _ _ (by rw[E4];exact jl ha)]
  exact wZ
 have T6:hZ (((s.heap.update a (Obj.mapSeq λ_=>#[])).push (seqObj "tuple" vs.toArray 0)).push (seqObj "list" #[] 0)) vs ks:=⟨T.1,λi hi=>by
  obtain⟨x,o,b,c,t,t',z,m,y1,y2,r⟩:=T.2 i hi;refine⟨x,o,b,c,t,t',z,m,y1,fg _ (fg _ ?_),r⟩;rw[E5 _ _ _ _ (na i x hi y1)];exact y2⟩
 show wpAny (model prog w) A _ P E { s with heap:=((s.heap.update a (Obj.mapSeq λ_=>#[])).push (seqObj "tuple" vs.toArray 0)).push (seqObj "list" #[] 0)}
 dsimp only;have qU:¬vs.toArray.size < 2:=by rw[fE];omega
 rw[if_neg qU,if_neg qU];obtain⟨fs,f1,f2,f3⟩:=Ni T6;refine wpAny_bind (kat_kind (T:=.type "int") f1 (by omega) (λv hv=>?_) (by decide) ?_)
 ·obtain⟨b,t,rfl⟩:=f3 v hv;exact λA Q E s' _ q=>wpAny_typeOf (typeIs_int s' b t) q
 ·have O:=Pe nd;have pq:=Oj O (show 1<=ks.length by have:=T.1;omega)
  obtain⟨⟨q1,q2⟩,q3⟩:=Ed pq;have hlen:=T.1;refine wpAny_bind (wpAny_mono (kat_run (Q:=λlG s'=>s'={ s with heap:=((s.heap.update a (Obj.mapSeq λ_=>#[])).push (seqObj "tuple" vs.toArray 0)).push (seqObj "list" #[] 0)}/\arrOf lG=(zB (ltAt ks) (kas_sort ks.length)).map (kas_item (vs.toArray.zip vs.toArray))/\failedOf lG=none)
   rfl h2 Eu (λp' lG s' a1 a2 a3 a4=>⟨a4.2,by rw[<-a4.1];exact a2,a3⟩) (G:=λp s'=>p=zB (ltAt ks) (kas_sort ks.length)/\s'=_) ?_) ?_ λ_ _ e=>e)
  ·rw[hlen];exact Pd (λi j C hi hj ij hC=>Xs T6 nd i j C hi hj ij hC) (DS (λp hp=>⟨hp,rfl⟩) q3)
  ·rintro⟨⟨⟩,lG⟩ s' ⟨rfl,Jm,hf⟩;dsimp only;have JI:=kat_snds rfl Jm;rw[JI];refine wpAny_bind (seqEpoch_at w6 rfl ?_);refine wpAny_bind (listUpdate_at w6 rfl ?_ (mU _) (by rw[fE,cz,Cv,q1.size,sizeLine_eq];omega))
   rw[hf];simp only[bne_self_eq_false,qx,if_false];exact wpAny_pure h
theorem Sy{l:Addr}{Q:Value->Shared->Prop}(hl:s.heap.IsList l vs.toArray)(T:hZ s.heap vs ks)(nd:ks.Nodup)(h2:2<=vs.length)(Eu:vs.length < 64)
  (h:Q (.ref (s.heap.objs.size+1)) { s with heap:=sortedAll s.heap vs (List.toArray ((f6 ks).map λi=>vs.getD i Value.none))}):wpAny (model prog w) A (call (.builtin "sorted") [.ref l]) Q E s:=by
 refine Calls.call_function_entry kind_sorted plain_sorted entry_sorted (args_sorted1 _) ?_;unfold Builtin.«sorted»;refine wpAny_bind (m:=checkCount "sorted" 1 1 _) (wpAny_pure ?_);refine wpAny_bind (collect_list hl ?_ (by rw[sizeLine_eq];omega))
 refine wpAny_bind (wpAny_newList ?_ (by rw[sizeLine_eq];omega))
 have hsz:((s.heap.push (seqObj "list" #[] 0)).update s.heap.objs.size (Obj.mapSeq (·++vs.toArray))).objs.size=s.heap.objs.size+1:=by
  rw[E4,size_push']
 have EI:(((s.heap.push (seqObj "list" #[] 0)).update s.heap.objs.size (Obj.mapSeq (·++vs.toArray))).push (seqObj "list" vs.toArray 0)).get? (s.heap.objs.size+1)=some (seqObj "list" vs.toArray 0):=by
  rw[<-hsz];exact kA _ rfl
 have keep:∀b o,s.heap.get? b=some o->(((s.heap.push (seqObj "list" #[] 0)).update s.heap.objs.size (Obj.mapSeq (·++vs.toArray))).push (seqObj "list" vs.toArray 0)).get? b=some o:=λb o q=>by
  have oz:b < s.heap.objs.size:=eH q;rw[CH _ _ _ (by rw[hsz];exact jl (yg oz)),E5 _ _ _ _ (jl oz),CH _ _ _ (jl oz)]
  exact q
 show wpAny _ _ _ _ _ { s with heap:=((s.heap.push (seqObj "list" #[] 0)).update s.heap.objs.size (Obj.mapSeq (·++vs.toArray))).push (seqObj "list" vs.toArray 0)}
 rw[hsz];refine wpAny_bind (wpAny_holding (wpAny_call_entry slot_list_sort ⟨_,EI,rfl⟩ entry_list_sort (Rl EI (T.keep keep) nd (λi x hi e=>?_) h2 Eu ⟨_,rfl,?_⟩) (args_list_sort _)))
 ·obtain⟨y,o,_,_,_,_,_,_,y1,y2,_⟩:=T.2 i hi;rw[y1] at e;cases e;exact jl (yg (eH y2))
 ·exact wpAny_pure ⟨_,rfl,h⟩
end
section
variable {X:Cx} {K:PySem.W.Frag} {H:Hp}
def uB(K:PySem.W.Frag)(H:Hp)(ys:List V)(ks:List (Int×Int)):Prop:=ys.length=ks.length/\∀i,i < ks.length->∃p z,ys[i]?=some (.ref p)/\jm K H p [.int (ks.getD i (0,0)).1,.int (ks.getD i (0,0)).2,z]
def Pf(K:PySem.W.Frag):List V->Hp->VK->Prop:=λvs H Q=>∃a ys ks,vs=[.ref a]/\dY K H a ys/\uB K H ys ks/\ks.Nodup/\2<=ks.length/\ks.length < 64/\∀l,H l=none->Q (.ref l) (upd H l (.lst ((f6 ks).map λi=>ys.getD i .az)))
theorem MK{ys:List V}{us:List Value}(r:Vals ys us):∀{is:List Nat},(∀i∈is,i < ys.length)->Vals (is.map λi=>ys.getD i .az) (is.map λi=>us.getD i Value.none)
 |[],_=>.nil
 |i::is,h=>by
  have hi:=h i (.head _);obtain⟨u,e,ru⟩:=r.get (jR hi);have e1:ys.getD i .az=ys[i]:=by simp[hi]
  have e2:us.getD i Value.none=u:=by rw[uw,e];rfl
  refine .cons ?_ (MK r λj m=>h j (.tail _ m))
  show RelV (ys.getD i .az) (us.getD i Value.none);rw[e1,e2];exact ru
theorem Nj(nd:ks.Nodup)(h:1<=ks.length):(f6 ks).Perm (List.range ks.length)/\(f6 ks).Pairwise λi j=>ltAt ks i j=true:=by
 obtain⟨⟨q1,q2⟩,_⟩:=Ed (Oj (Pe nd) h);refine⟨by unfold f6;have:=Array.perm_iff_toList_perm.mp q1.pm;simpa using this,?_⟩
 rw[List.pairwise_iff_getElem];intro i j hi hj o5;have hs:=q1.size;have:=q2 i j o5 (by unfold f6 at hj;simp at hj;omega)
 unfold f6 at hi hj ⊢;simp only[Cv] at hi hj;simpa[Array.getD,hi,hj] using this
theorem Sz(K:PySem.W.Frag)(hK:X.K=K:=by rfl):bU X (.builtin "sorted") (Pf K):=by
 subst hK;intro ae s Z H xs us Q I r h;obtain⟨a,ys,ks,rfl,hl,T,nd,h2,Eu,q⟩:=h;obtain⟨u,rfl,ru⟩:=vals1 r;cases ru;obtain⟨aG,rv,pl,hz⟩:=I.list hl;have hlen:=rv.length;have Bg:=T.1;have T':hZ s.heap aG ks:=⟨by omega,λi hi=>by
  obtain⟨p,z,y1,y2⟩:=T.2 i hi;obtain⟨u,e,ru⟩:=rv.get y1;obtain rfl:u=Value.ref p:=ru;obtain⟨it2,ES,⟨o,g1,g2,n,g3⟩,_⟩:=I.tuple y2;cases ES with
  |cons r1 t=>
   cases t with
   |cons r2 t=>
    cases t with
    |cons r3 t=>
     cases t;obtain⟨t1,rfl⟩:=r1;obtain⟨t2,rfl⟩:=r2;exact⟨p,o,_,_,t1,t2,_,n,by rw[uw,e];rfl,g1,g2,g3,rfl⟩⟩
 refine Sy pl.isList T' nd (by omega) (by omega) ?_
 obtain⟨c,hc⟩:=sortedAll_at s.heap aG (List.toArray ((f6 ks).map λi=>aG.getD i Value.none))
 obtain⟨s1,_⟩:=Nj nd (by omega)
 have hm:∀i∈f6 ks,i < ys.length:=λi m=>by have:=s1.mem_iff.mp m;rw[qu] at this;omega
 have I3:=I.laid (h':=sortedAll s.heap aG (List.toArray ((f6 ks).map λi=>aG.getD i Value.none))) (t':=s.toks) (o:=.lst ((f6 ks).map λi=>ys.getD i .az)) (λb o g=>sortedAll_old g) (um _) (show bx X.prog X.w _ _ _ (.lst _) from⟨by rw[cz,s1.length_eq,uv,sizeLine_eq];omega,_,c,MK rv hm,hc⟩)
 exact⟨.ref (s.heap.objs.size+1),_,I3,rfl,q _ (I.bF.fresh (um _))⟩
end
end L2
set_option autoImplicit false
namespace L2
open PySem PySem.Spec PySem.W PySem.Calls PyProof.Rows
def oH(kvs:List (TK×D)):Bool:=kvs.all λp=>vf p.1
def tN:D->Option (List D)
 |.aN kvs=>if oH kvs=true then some ((List.range kvs.length).map λi=>.tup (((kvs[i]?).map λp=>[p.1.d,p.2]).getD [])) else none
 |_=>none
section
variable {K:Frag} {W:XW} {q:Nat} {g:GE} {fz:Bool} {Z:St} {H:Hp} {R:It->Hp->Prop} {k:Kn} {es:List (TK×V×V)} {kvs:List (TK×D)}
theorem IK(h1:es.map (·.1)=kvs.map (·.1))(h2:ai K k (es.map (·.2.1)) (kvs.map (·.1.d)))(h:oH kvs=true):jG es:=O3 h1 (by rw[sJ];exact h2) (by rw[List.all_map];exact h)
theorem Xt(t:tX (RI K q) K W q (bS fz tN g) Z H R):O4 (tE K W q g) Z H R:=by
 rcases Dn t with h|⟨d,ds,n,e,h⟩
 ·exact h _
 ·cases d with
  |aN kvs=>
   unfold tN at e;dsimp only at e;split at e
   ·rename_i ht
    cases e;refine h _ λk1 H1 x le hd j=>?_
    obtain⟨a,es,ep,rfl,q2,q3,q4,q1⟩:=hd;have tx:=IK q2 q3 ht;refine⟨a,es,ep,rfl,ke.now (x:=.az) q1 le,tx,j _ ?_⟩;have hl:kvs.length=es.length:=by have:=q4.length;rw[cz,cz] at this;exact this.symm
    rw[hl];refine .BM (λH s c=>⟨q1 H s c,tx⟩) λi us hi hv=>?_
    obtain⟨e,h1,rfl⟩:=hv;have zo:i < kvs.length:=by omega
    obtain⟨v,h3,h4⟩:=q4.get (i:=i) (d:=kvs[i].2) (by rw[jx,jR zo];rfl)
    obtain⟨v',h5,h6⟩:=q3.get (i:=i) (d:=kvs[i].1.d) (by rw[jx,jR zo];rfl)
    rw[jx,h1] at h3 h5;cases h3;cases h5;rw[jR zo];exact .cons h6 h4
   ·cases e
  |_=>cases e
end
end L2
namespace L2
open PySem PySem.Spec PyProof.Rows
section
variable {X:Cx} {K:PySem.W.Frag} {k:Kn} {H:Hp} {x:V} {d:D}
theorem Top.txt{kvs:List (TK×D)}(t:Top K k H x (.aN kvs))(le:aB k.F H)(h:oH kvs=true):∃p es ep,x=.ref p/\H p=some (.dG es ep)/\jG es/\es.map (·.1)=kvs.map (·.1)/\ai K k (es.map (·.2.1)) (kvs.map (·.1.d))/\ai K k (es.map (·.2.2)) (kvs.map (·.2)):=by
 obtain⟨p,es,ep,rfl,h1,h2,h3,h4⟩:=t.aN le;exact⟨p,es,ep,rfl,h1,IK h2 h3 h,h2,h3,h4⟩
def B2(K:PySem.W.Frag):List V->Hp->VK->Prop:=λxs H Q=>(∃p ys,xs=[.ref p]/\(dY K H p ys\/jm K H p ys)/\Q (.int ys.length) H)\/(∃z,xs=[.str z]/\z.length<=sizeLine/\Q (.int z.length) H)\/∃p es ep,xs=[.ref p]/\H p=some (.dG es ep)/\jG es/\Q (.int es.length) H
theorem T1(hK:X.K=K):bU X (.builtin "len") (B2 K):=(Rj K hK).or (my.or (by
 intro ae s Z H xs us Q I r h;obtain⟨p,es,ep,rfl,hp,ht,q⟩:=h;obtain⟨u,rfl,ru⟩:=vals1 r;cases ru;obtain⟨kvs,D1,D2,D3,D4,lo⟩:=yQ I hp ht;have l1:kvs.length=es.length:=by have:=congrArg List.length D3;simpa using this
 refine call_len_dict lo D1.dictOf (by rw[sizeLine_eq] at D4;omega) ?_
 rw[l1];exact⟨.int es.length,H,I.tok _,⟨_,rfl⟩,q⟩))
def iy:D->Option Rv
 |.lst ds=>some (rd (.int ds.length))
 |.tup ds=>some (rd (.int ds.length))
 |.str z=>if z.length<=1000000 then some (rd (.int z.length)) else none
 |.aN kvs=>if oH kvs=true then some (rd (.int kvs.length)) else none
 |_=>none
theorem Ze:cJ K (B2 K) (o1 iy):=tW λk H x a y Q le t e res=>by
 unfold iy at e;split at e
 ·cases e;obtain⟨p,ws,rfl,q,r⟩:=t.lst le;exact .inl ⟨p,ws,rfl,.inl q,by rw[r.length];exact res.flat le rfl⟩
 ·cases e;obtain⟨p,ws,rfl,q,r⟩:=t.tup le;exact .inl ⟨p,ws,rfl,.inr q,by rw[r.length];exact res.flat le rfl⟩
 ·split at e
  ·cases e;cases t.flat rfl;exact .inr (.inl ⟨_,rfl,ml (by assumption),res.flat le rfl⟩)
  ·cases e
 ·split at e
  ·cases e;obtain⟨p,es,ep,rfl,h1,h2,h3,h4,h5⟩:=t.txt le (by assumption)
   refine .inr (.inr ⟨p,es,ep,rfl,h1,h2,?_⟩);have:=h5.length;rw[cz,cz] at this;rw[this];exact res.flat le rfl
  ·cases e
 ·cases e
def rf:D->Option String
 |.az=>some "NoneType"
 |.bl _=>some "bool"
 |.int _=>some "int"
 |.str _=>some "str"
 |.lst _=>some "list"
 |.tup _=>some "tuple"
 |_=>none
theorem Nk{n:String}(le:aB k.F H)(t:Top K k H x d)(e:rf d=some n):AF K H x n:=by
 cases d with
 |lst _=>cases e;obtain⟨p,ws,rfl,q,r⟩:=t.lst le;exact .inl ⟨rfl,_,q⟩
 |tup _=>cases e;obtain⟨p,ws,rfl,q,r⟩:=t.tup le;exact .inr ⟨rfl,_,q⟩
 |_=>cases e <;> cases t.flat rfl <;> rfl
def BY(K:PySem.W.Frag):List V->Hp->VK->Prop:=λxs H Q=>(∃x k T,xs=[x,.ty T]/\AF K H x k/\(T="int"\/T="str"\/T="bool"\/T="list"\/T="tuple")/\Q (.bl (pW k T)) H)\/vx K xs H Q
theorem T2(hK:X.K=K):bU X (.builtin "isinstance") (BY K):=(Tq K hK).or (TR K hK)
def xg:List D->Bool
 |[.ty a,.ty b]=>decide (a="tuple"/\b="list")
 |_=>false
theorem Xu{ds:List D}(h:xg ds=true):ds=[.ty "tuple",.ty "list"]:=by
 unfold xg at h;split at h
 ·obtain⟨rfl,rfl⟩:=of_decide_eq_true h;rfl
 ·cases h
def i9(a t:D):Option Rv:=match t with
 |.ty T=>if T="int"\/T="str"\/T="bool"\/T="list"\/T="tuple" then(rf a).map λk=>rd (.bl (pW k T)) else none
 |.tup ds=>if xg ds=true then(rf a).map λk=>rd (.bl (KW k)) else none
 |_=>none
theorem Zf:cJ K (BY K) (o2 i9):=rB λk H x z a b y Q le t1 t2 e res=>by
 unfold i9 at e;split at e
 ·split at e
  ·obtain⟨n,h,rfl⟩:=fR.mp e;cases t2.flat rfl;exact .inl ⟨x,n,_,rfl,Nk le t1 h,by assumption,res.flat le rfl⟩
  ·cases e
 ·split at e
  ·rename_i ht
   cases Xu ht;obtain⟨n,h,rfl⟩:=fR.mp e;obtain⟨p,ws,rfl,q,r⟩:=t2.tup le;obtain⟨w1,us,rfl,r1,r2⟩:=r.cK;obtain⟨w2,us,rfl,r3,r4⟩:=r2.cK;cases r4.iY;cases r1.bu rfl;cases r3.bu rfl;exact .inr ⟨x,n,p,rfl,Nk le t1 h,q,res.flat le rfl⟩
  ·cases e
 ·cases e
def vy(K:PySem.W.Frag):List V->Hp->VK->Prop:=λxs H Q=>(∃p ys,xs=[.ref p]/\(dY K H p ys\/jm K H p ys)/\∀l,H l=none->Q (.ref l) (upd H l (.lst ys)))\/QB K xs H Q
theorem SA(hc:X.calm=true)(hK:X.K=K):bU X (.type "list") (vy K):=(Rk K hK).or (hK ▸ Ss hc)
def mi:D->Option Rv
 |.lst ds=>some (.o (.lst ds))
 |.tup ds=>some (.o (.lst ds))
 |.aN kvs=>some (.o (.lst (kvs.map (·.1.d))))
 |_=>none
theorem Xv:cJ K (vy K) (o1 mi):=tW λk H x a y Q le t e res=>by
 unfold mi at e;split at e
 ·cases e;obtain⟨p,ws,rfl,q,r⟩:=t.lst le;exact .inl ⟨p,ws,rfl,.inl q,λl hl=>res.lst le r hl⟩
 ·cases e;obtain⟨p,ws,rfl,q,r⟩:=t.tup le;exact .inl ⟨p,ws,rfl,.inr q,λl hl=>res.lst le r hl⟩
 ·cases e;obtain⟨p,es,ep,rfl,h1,h2,h3,h4⟩:=t.aN le;exact .inr ⟨p,es,ep,rfl,h1,λl hl=>res.lst le h3 hl⟩
 ·cases e
def ph:D->Option Rv
 |.aN kvs=>if oH kvs=true then some (.o (.lst (kvs.map (·.2)))) else none
 |_=>none
theorem Xw:cJ K (λxs H Q=>∃d es ep,xs=[.ref d]/\H d=some (.dG es ep)/\jG es/\∀q,H q=none->Q (.ref q) (upd H q (.lst (es.map (·.2.2))))) (o1 ph):=tW λk H x a y Q le t e res=>by
 unfold ph at e;split at e
 ·split at e
  ·cases e;obtain⟨p,es,ep,rfl,h1,h2,h3,h4,h5⟩:=t.txt le (by assumption)
   exact⟨p,es,ep,rfl,h1,h2,λl hl=>res.lst le h5 hl⟩
  ·cases e
 ·cases e
def Ee(q:List Bool->Bool):D->Option Rv
 |.lst ds=>(jr ds).map λbs=>rd (.bl (q bs))
 |_=>none
theorem Vz(q:List Bool->Bool):cJ K (λxs H Q=>∃(a:Addr) (bs:List Bool),xs=[.ref a]/\dY K H a (bs.map V.bl)/\Q (.bl (q bs)) H) (o1 (Ee q)):=tW λk H x a y Q le t e res=>by
 unfold Ee at e;split at e
 ·obtain⟨bs,h,rfl⟩:=fR.mp e;obtain⟨p,ws,rfl,s,r⟩:=t.lst le;rw[Mg h] at r;cases Mh r;exact⟨p,bs,rfl,s,res.flat le rfl⟩
 ·cases e
def nz(f:List Int->Int):D->Option Rv
 |.lst ds=>(lr ds).bind λis=>if is=[] then none else some (rd (.int (f is)))
 |_=>none
theorem Xx(f:List Int->Int):cJ K (λxs H Q=>∃(a:Addr) (is:List Int),xs=[.ref a]/\dY K H a (is.map V.int)/\is≠[]/\Q (.int (f is)) H) (o1 (nz f)):=tW λk H x a y Q le t e res=>by
 unfold nz at e;split at e
 ·obtain⟨is,h,e⟩:=dB.mp e;split at e
  ·cases e
  ·cases e;obtain⟨p,ws,rfl,s,r⟩:=t.lst le;rw[MH h] at r;cases L5 r;exact⟨p,is,rfl,s,by assumption,res.flat le rfl⟩
 ·cases e
def nF:List D->Option (List (Int×Int))
 |[]=>some []
 |.tup [.int a,.int b,_]::ds=>(nF ds).map λks=>(a,b)::ks
 |_=>none
theorem Nl:∀{ds:List D} {ks:List (Int×Int)} {ws:List V},nF ds=some ks->ai K k ws ds->aB k.F H->uB K H ws ks
 |[],ks,ws,e,r,le=>by cases e;exact⟨by rw[r.length];rfl,λi hi=>nomatch hi⟩
 |d::ds,ks,ws,e,r,le=>by
  obtain⟨w,us,rfl,r1,r2⟩:=r.cK;unfold nF at e;split at e
  ·rename_i h;cases h
  ·rename_i a b z Xq h
   cases h;obtain⟨vj,e1,rfl⟩:=fR.mp e;obtain⟨l1,l2⟩:=Nl e1 r2 le;obtain⟨p,ws,rfl,q,r3⟩:=r1.isTup;obtain⟨w1,us1,rfl,t1,r3⟩:=r3.cK;obtain⟨w2,us2,rfl,t2,r3⟩:=r3.cK;obtain⟨w3,us3,rfl,t3,r3⟩:=r3.cK;cases r3.iY;cases t1.bu rfl;cases t2.bu rfl;refine⟨congrArg (·+1) l1,λi hi=>?_⟩
   cases i with
   |zero=>exact⟨p,w3,rfl,le.xX q⟩
   |succ i=>exact l2 i (Nat.lt_of_succ_lt_succ hi)
  ·cases e
def vC(K:PySem.W.Frag):List V->Hp->VK->Prop:=λvs H Q=>O_ K vs H Q\/Pf K vs H Q
theorem SD(hc:X.calm=true)(hK:X.K=K):bU X (.builtin "sorted") (vC K):=(hK ▸ RK hc).or (Sz K hK)
def o8(ds:List D)(is:List Nat):List D:=is.map λi=>ds.getD i .az
def nI:D->Option Rv
 |.lst ds=>if ds.length < 2 then some (.o (.lst ds)) else(nF ds).bind λks=>if ks.Nodup/\ks.length < 64 then some (.o (.lst (o8 ds (f6 ks)))) else none
 |.aN kvs=>if(oH kvs && Nat.blt kvs.length 2)=true then some (.o (.lst (kvs.map (·.1.d)))) else none
 |_=>none
theorem Nm{ws:List V}{ds:List D}(r:ai K k ws ds):∀{is:List Nat},(∀i∈is,i < ds.length)->ai K k (is.map λi=>ws.getD i .az) (o8 ds is)
 |[],_=>.nil
 |i::is,h=>by
  have hi:=h i (.head _);obtain⟨v,h1,h2⟩:=r.get (i:=i) (d:=ds[i]) (jR hi);unfold o8;rw[dX,dX,show ws.getD i .az=v by rw[uw,h1];rfl,show ds.getD i .az=ds[i] by rw[uw,jR hi];rfl]
  exact .cons h2 (Nm r λj m=>h j (.tail _ m))
theorem Xy:cJ K (vC K) (o1 nI):=tW λk H x a y Q le t e res=>by
 unfold nI at e;split at e
 ·obtain⟨p,ws,rfl,s,r⟩:=t.lst le;split at e
  ·cases e;exact .inl ⟨p,ws,rfl,.inl s,by rw[r.length];assumption,λl hl=>res.lst le r hl⟩
  ·rename_i h2
   obtain⟨ks,h,e⟩:=dB.mp e;split at e
   ·rename_i hk
    cases e;have T:=Nl h r le;have l1:ks.length=ws.length:=T.1.symm;have l2:=r.length;refine .inr ⟨p,ws,ks,rfl,s,T,hk.1,by omega,hk.2,λl hl=>res.lst le (Nm r λi m=>?_) hl⟩
    have:=(Nj hk.1 (by omega)).1.mem_iff.mp m
    rw[qu] at this;omega
   ·cases e
 ·split at e
  ·rename_i hh
   obtain⟨h1,h2⟩:=CD.mp hh;cases e;obtain⟨p,es,ep,rfl,h3,h4,h5,h6,h7⟩:=t.txt le h1;have:=h6.length;have l2:_ < 2:=jk (CF h2) (cI _);exact .inl ⟨p,_,rfl,.inr ⟨es,ep,h3,h4,rfl⟩,by rw[this,cz];exact l2,λl hl=>res.lst le h6 hl⟩
  ·cases e
 ·cases e
def dW{α:Type}:List (TK×α)->TK->α->List (TK×α)
 |[],k,v=>[(k,v)]
 |(j,w)::r,k,v=>if j=k then(j,v)::r else(j,w)::dW r k v
def iW:List D->Option (List (TK×D))
 |[]=>some []
 |.tup [a,b]::ds=>(lS a).bind λj=>(iW ds).map λps=>(j,b)::ps
 |_=>none
def oS:D->Option Rv
 |.lst ds=>(iW ds).bind λps=>if ps.length < 1000 then some (.o (.aN (ps.foldl (λkvs p=>dW kvs p.1 p.2) []))) else none
 |_=>none
theorem H0{j:TK}{y v:V}{e:D}(ry:ai K k [y] [j.d])(rv:ai K k [v] [e]):∀{ws:List (TK×V×V)} {kvs:List (TK×D)},ws.map (·.1)=kvs.map (·.1)->ai K k (ws.map (·.2.1)) (kvs.map (·.1.d))->ai K k (ws.map (·.2.2)) (kvs.map (·.2))->
  (eV ws j y v).map (·.1)=(dW kvs j e).map (·.1)/\ai K k ((eV ws j y v).map (·.2.1)) ((dW kvs j e).map (·.1.d))/\ai K k ((eV ws j y v).map (·.2.2)) ((dW kvs j e).map (·.2))
 |[],[],_,_,_=>⟨rfl,ry,rv⟩
 |w::ws,p::kvs,h,r1,r2=>by
  obtain⟨h1,h2⟩:=List.cons.inj (show w.1::ws.map (·.1)=p.1::kvs.map (·.1) from h)
  obtain⟨a1,a2⟩:=ai.inv r1;obtain⟨b1,b2⟩:=ai.inv r2;unfold eV dW;by_cases q:p.1=j
  ·rw[if_pos (h1.trans q),if_pos q];exact⟨congr (congrArg List.cons h1) h2,.cons a1 a2,.cons rv b2⟩
  ·rw[if_neg (λz=>q (h1.symm.trans z)),if_neg q]
   obtain⟨c1,c2,c3⟩:=H0 ry rv h2 a2 b2;exact⟨congr (congrArg List.cons h1) c1,.cons a1 c2,.cons b1 c3⟩
 |[],_::_,h,_,_=>nomatch h
 |_::_,[],h,_,_=>nomatch h
def qC(K:PySem.W.Frag)(k:Kn)(q:TK×V×V)(p:TK×D):Prop:=q.1=p.1/\ai K k [q.2.1] [q.1.d]/\ai K k [q.2.2] [p.2]
theorem Nn:∀{ds:List D} {ps:List (TK×D)} {ws:List V},iW ds=some ps->ai K k ws ds->aB k.F H->∃qs:List (TK×V×V),kB K H ws qs/\Paired (qC K k) qs ps
 |[],ps,ws,e,r,le=>by cases e;cases r.iY;exact⟨[],⟨rfl,λi p h=>nomatch h⟩,.nil⟩
 |d::ds,ps,ws,e,r,le=>by
  unfold iW at e;split at e
  ·rename_i h;cases h
  ·rename_i a b Xq h
   cases h;obtain⟨j,q1,e⟩:=dB.mp e;obtain⟨ps',q2,rfl⟩:=fR.mp e;obtain⟨w,us,rfl,r1,r2⟩:=r.cK;obtain⟨p,ws,rfl,sq,ri⟩:=r1.isTup;obtain⟨y,us1,rfl,t1,ri⟩:=ri.cK;obtain⟨v,us2,rfl,t2,ri⟩:=ri.cK;cases ri.iY;obtain⟨qs,h1,h3⟩:=Nn q2 r2 le;have rk:ai K k [y] [j.d]:=by rw[(yR q1).1];exact t1
   refine⟨(j,y,v)::qs,⟨congrArg (·+1) h1.len,λi p h=>?_⟩,.cons ⟨rfl,rk,t2⟩ h3⟩
   cases i with
   |zero=>cases h;exact⟨_,rfl,le.xX sq,ra (k:=k.all H) j (rk.all le),(yR q1).2⟩
   |succ i=>exact h1.item i p h
  ·cases e
theorem Ol{qs:List (TK×V×V)}{ps:List (TK×D)}(p:Paired (qC K k) qs ps):∀{ws:List (TK×V×V)} {kvs:List (TK×D)},ws.map (·.1)=kvs.map (·.1)->ai K k (ws.map (·.2.1)) (kvs.map (·.1.d))->ai K k (ws.map (·.2.2)) (kvs.map (·.2))->
  (h_ ws qs).map (·.1)=(ps.foldl (λkvs p=>dW kvs p.1 p.2) kvs).map (·.1)/\ai K k ((h_ ws qs).map (·.2.1)) ((ps.foldl (λkvs p=>dW kvs p.1 p.2) kvs).map (·.1.d))/\ai K k ((h_ ws qs).map (·.2.2)) ((ps.foldl (λkvs p=>dW kvs p.1 p.2) kvs).map (·.2)):=by
 induction p with
 |nil=>exact λa b c=>⟨a,b,c⟩
 |@cons q p qs ps h _ ih=>
  intro ws kvs a b c;obtain⟨h1,h2,h3⟩:=h;obtain⟨j1,j2,j3⟩:=H0 h2 h3 a b c;rw[h1] at j1 j2 j3;have:=ih (ws:=eV ws p.1 q.2.1 q.2.2) (kvs:=dW kvs p.1 p.2) j1 j2 j3;rw[show h_ ws (q::qs)=h_ (eV ws p.1 q.2.1 q.2.2) qs by unfold h_;rw[vK,h1],vK]
  exact this
theorem VA:cJ K (O8 K) (o1 oS):=tW λk H x a y Q le t e res=>by
 unfold oS at e;split at e
 ·obtain⟨ps,q1,e⟩:=dB.mp e;split at e
  ·rename_i hn
   cases e;obtain⟨p,ws,rfl,s,r⟩:=t.lst le;obtain⟨qs,g1,g3⟩:=Nn q1 r le;obtain⟨o1,o2,o3⟩:=Ol g3 (ws:=[]) (kvs:=[]) rfl .nil .nil;exact⟨p,ws,qs,rfl,s,g1,by rw[Paired.length g3];exact hn,λl ep hl=>res.aN le o1 o2 o3 hl⟩
  ·cases e
 ·cases e
def Qq:D->Option String
 |.str _=>some "str"
 |.lst _=>some "list"
 |.aN _=>some "dict"
 |_=>none
theorem Zg{T:String}(le:aB k.F H)(t:Top K k H x d)(e:Qq d=some T):E0 K T x H:=by
 cases d with
 |str _=>cases e;cases t.flat rfl;rfl
 |lst _=>cases e;obtain⟨p,ws,rfl,q,r⟩:=t.lst le;exact .inl ⟨rfl,_,q⟩
 |aN _=>cases e;obtain⟨p,es,ep,rfl,h1,h2⟩:=t.aN le;exact .inr (.inr (.inl ⟨rfl,.inr (.inr ⟨es,ep,h1⟩)⟩))
 |_=>cases e
def Ef(T:String)(o:List D->Option Rv)(f:GE)(g:GA):GE:=λU S=>bd (f U S) λr S1=>if(ub S1 (mS r)).bind Qq=some T then bd (g U S1) λvs S2=>(uc S2 (mS r::vs)).bind λds=>(o ds).map λy=>.ok y S2 else none
theorem VB{W:XW}{q:Nat}{T:String}{o:List D->Option Rv}{r:V->List V->Hp->VK->Prop}{f:GE}{g:GA}{Z:St}{H:Hp}{Q:VK}(bF:cJ K (o_ r) o)(t:tE K W q (Ef T o f g) Z H Q):KH K T r (tE K W q f) (jv K W q g) Z H Q:=by
 obtain⟨k,U,S,res,ok,gk,e,w⟩:=t;refine tX.bd ok gk e w λr S1 x k1 H1 bC g1 r1 e1 w1 _=>?_
 obtain⟨k2,u2,ee,r2⟩:=qk bC r1;split at e1
 ·rename_i hT
  obtain⟨d,h1,h2⟩:=dB.mp hT;refine⟨Zg ee.le (D6 ee r2 h1) h2,tX.bd ee (g1.up (u2 q)) e1 (w1.up (u2 q)) λvs S3 xs k3 H3 kq g3 r3 e3 w3 u3=>?_⟩
  obtain⟨ds,e4,e5⟩:=dB.mp e3;obtain⟨y,e6,rfl⟩:=fR.mp e5;obtain⟨x',xs',z,rr⟩:=bF k3 H3 (x::xs) ds y Q kq.le (N0 kq (.cons (r2.up u3) r3) e4) e6 (.fin kq w3);cases z;exact rr
 ·cases e1
def b_:D->D->Option Rv
 |.lst ds,.str z=>(ir ds).bind λys=>(findS ys z).map λj=>rd (.int (j:Nat))
 |_,_=>none
theorem VC:cJ K (o_ (O6 K)) (o2 b_):=rB λk H x z a b y Q le t1 t2 e res=>by
 unfold b_ at e;split at e
 ·obtain⟨ys,e1,e2⟩:=dB.mp e;obtain⟨j,e3,rfl⟩:=fR.mp e2;obtain⟨p,ws,rfl,s,r⟩:=t1.lst le;rw[G2 e1] at r;cases Ga r;cases t2.flat rfl;obtain⟨s1,s2⟩:=Gw e3;exact⟨_,_,rfl,p,ys,_,j,rfl,rfl,s,s1,s2,res.flat le rfl⟩
 ·cases e
def oX:D->D->Option Rv
 |.aN kvs,i=>(lS i).map λj=>rd ((bw kvs j).getD .az)
 |_,_=>none
theorem Xz:cJ K (o_ (vw K)) (o2 oX):=rB λk H x z a b y Q le t1 t2 e res=>by
 unfold oX at e;split at e
 ·obtain⟨j,hj,rfl⟩:=fR.mp e;obtain⟨p,o,rfl,g,h⟩:=uk le t1 t2 hj;refine⟨_,_,rfl,p,_,o,rfl,rfl,g,?_⟩;rcases h with⟨rfl,h⟩|⟨v,e,rfl,h,r⟩
  ·rw[h] at res;exact res.flat le rfl
  ·rw[h] at res;exact res.rep le r
 ·cases e
end
end L2
namespace L2
open PySem PySem.Spec PyProof.Rows
variable{k:Kn}{ws:List V}{ds:List D}{v:V}
def Cell.box:Cell->Option Bx
 |.o b=>some b
 |_=>none
def pR(S:aX):Val->Option Bx
 |.c n=>(S.s[n]?).bind Cell.box
 |.d (.ref n)=>(S.r[n]?).bind Cell.box
 |_=>none
def setB(S:aX)(b:Bx):Val->aX
 |.c n=>⟨S.s.set n (.o b),S.r⟩
 |.d (.ref n)=>⟨S.s,S.r.set n (.o b)⟩
 |_=>S
def Bx.mb(q:Nat):Bx->Bool
 |.lst _=>Nat.ble q 1
 |.aN _=>q == 0
def Bx.ty:Bx->String
 |.lst _=>"list"
 |.aN _=>"dict"
section
variable {K:PySem.W.Frag} {k:Kn} {H:Hp} {S:aX} {x:V} {v:Val} {b:Bx} {a:Addr}
theorem Pg{c:Cell}(h:c.box=some b):c=.o b:=by
 cases c <;> cases h;rfl
theorem Ph{q:Nat}(h:fS K k H a b)(m:b.mb q=true):∀o,H a=some o->tQ q o=false:=by
 intro o e;cases b with
 |lst xs=>
  obtain⟨ws,e1,_⟩:=h;rw[e] at e1;cases e1;have:=CF m
  match q,this with
  |0,_=>rfl
  |1,_=>rfl
 |aN kvs=>cases(beq_iff_eq.mp m);rfl
theorem Av(ok:cD K k H S)(r:eY K k x v)(e:pR S v=some b):∃a,x=.ref a/\fS K k H a b/\∀q b' H',l5 H H' a->b.mb q=true->fS K k H' a b'->cD K k H' (setB S b' v)/\Up q k H k H':=by
 cases v with
 |c n=>
  obtain⟨a,rfl,h1⟩:=r;obtain⟨c,h2,h3⟩:=dB.mp e;cases Pg h3;obtain⟨h4,h5⟩:=ok.s.at' n a _ h1 h2;exact⟨a,rfl,h5,λq b' H' o m h=>ok.Ku h1 o h4 (Ph h5 m) (c:=.o b') ⟨h4,h⟩⟩
 |d y=>
  cases y with
  |ref n=>
   obtain⟨a,rfl,h1⟩:=ai.isRef r;obtain⟨c,h2,h3⟩:=dB.mp e;cases Pg h3;obtain⟨h4,h5⟩:=ok.r.at' n a _ h1 h2;exact⟨a,rfl,h5,λq b' H' o m h=>ok.B9 h1 o h4 (Ph h5 m) (c:=.o b') ⟨h4,h⟩⟩
  |_=>cases e
theorem ε{T:String}(h:fS K k H a b)(e:b.ty=T):E0 K T (.ref a) H:=by
 cases b with
 |lst xs=>obtain⟨ws,h1,_⟩:=h;exact .inl ⟨e.symm,ws,.inl (.inl h1)⟩
 |aN kvs=>obtain⟨es,ep,h1,_⟩:=h;exact .inr (.inr (.inl ⟨e.symm,.inr (.inr ⟨es,ep,h1⟩)⟩))
end
def l4(K:PySem.W.Frag)(r:V->List V->Hp->VK->Prop)(m:Bx->List D->Option (Bx×D)):Prop:=∀k H a b ds b' d xs Q,aB k.F H->fS K k H a b->ai K k xs ds->m b ds=some (b',d)->(∀x o',fS K k (upd H a o') a b'->ai K k [x] [d]->Q x (upd H a o'))->r (.ref a) xs H Q
def jt(q:Nat)(T:String)(m:Bx->List D->Option (Bx×D))(f:GE)(g:GA):GE:=λU S=>bd (f U S) λr S1=>if(pR S1 (mS r)).map Bx.ty=some T then bd (g U S1) λvs S2=>(pP vs S2).bind λp=>(pR p.2 (mS r)).bind λb=>if b.mb q=true then(m b p.1).map λz=>.ok (rd z.2) (setB p.2 z.1 (mS r)) else none else none
section
variable {X:Cx} {K:PySem.W.Frag} {W:XW} {q:Nat} {T:String} {m:Bx->List D->Option (Bx×D)} {r:V->List V->Hp->VK->Prop} {f:GE} {g:GA} {Z:St} {H:Hp} {Q:VK}
theorem Zh(hm:l4 K r m)(t:tE K W q (jt q T m f g) Z H Q):KH K T r (tE K W q f) (jv K W q g) Z H Q:=by
 obtain⟨k,U,S,res,ok,gk,e,w⟩:=t;refine tX.bd ok gk e w λr S1 x k1 H1 bC g1 r1 e1 w1 _=>?_
 obtain⟨k2,u2,ee,r2⟩:=qk bC r1;split at e1
 ·rename_i hT
  obtain⟨b0,h1,h2⟩:=fR.mp hT;obtain⟨a0,ea,h3,_⟩:=Av ee r2 h1;refine⟨ea ▸ ε h3 h2,tX.bd ee (g1.up (u2 q)) e1 (w1.up (u2 q)) λvs S3 xs k3 H3 kq g3 r3 e3 w3 u3=>?_⟩
  obtain⟨⟨ds,S4⟩,e4,e5⟩:=dB.mp e3;obtain⟨k4,u4,p4,r4⟩:=DN kq r3 e4;obtain⟨b,e6,e7⟩:=dB.mp e5;obtain⟨a,rfl,h4,h5⟩:=Av p4 ((r2.up u3).up (u4 q)) e6;split at e7
  ·rename_i hb
   obtain⟨⟨b',d⟩,e8,rfl⟩:=fR.mp e7;refine hm k4 H3 a b ds b' d xs Q p4.le h4 r4 e8 λy o' h6 h7=>?_
   obtain⟨mH,u5⟩:=h5 q b' _ Ai hb h6;exact(w3.up (u4 q)) y k4 _ u5 mH h7
  ·cases e7
 ·cases e1
def sj:Bx->List D->Option (Bx×D)
 |.lst xs,[d]=>if xs.length < 1000000 then some (.lst (xs++[d]),.az) else none
 |_,_=>none
theorem xS:ai K k [.az] [.az]:=.flat rfl .nil
theorem DT{xs:List V}{d:D}(h:ai K k xs [d]):∃x,xs=[x]/\ai K k [x] [d]:=by
 obtain⟨x,us,rfl,h1,h2⟩:=h.cK;cases h2.iY;exact⟨x,rfl,h1⟩
theorem T3:l4 K NX sj:=by
 intro k H a b ds b' d xs Q le hb r e h;unfold sj at e;split at e
 ·split at e
  ·rename_i hl
   cases e;obtain⟨ws,h1,h2⟩:=hb;obtain⟨y,rfl,r1⟩:=DT r;exact⟨a,ws,y,rfl,rfl,h1,jk (by rw[h2.length];exact hl) (by decide),h .az _ ⟨_,aL,h2.append r1⟩ xS⟩
  ·cases e
 ·cases e
def Aw:Bx->List D->Option (Bx×D)
 |.lst xs,[.int i,d]=>if 0<=i/\i < 2 ^ 62/\xs.length < 1000000 then some (.lst (xs.take i.toNat++d::xs.drop i.toNat),.az) else none
 |_,_=>none
theorem T4:l4 K NY Aw:=by
 intro k H a b ds b' d xs Q le hb r e h;unfold Aw at e;split at e
 ·split at e
  ·rename_i hl
   cases e;obtain⟨ws,h1,h2⟩:=hb;obtain⟨y,us,rfl,r1,r2⟩:=r.cK;obtain⟨z,rfl,r3⟩:=DT r2;cases r1.bu rfl;refine⟨a,ws,_,z,rfl,rfl,h1,hl.1,hl.2.1,jk (by rw[h2.length];exact hl.2.2) (by decide),h .az _ ⟨_,aL,?_⟩ xS⟩
   have:∀(n:Nat) (l:List V),pU l n z=l.take n++z::l.drop n:=λn l=>by unfold pU;rfl
   rw[this];exact(h2.take _).append (.cons r3 (h2.drop _))
  ·cases e
 ·cases e
def DU:Bx->List D->Option (Bx×D)
 |.lst xs,[.str z]=>(ir xs).bind λys=>(findS ys z).map λj=>(.lst (xs.eraseIdx j),.az)
 |_,_=>none
theorem T5(h:ai K k ws ds)(j:Nat):ai K k (ws.eraseIdx j) (ds.eraseIdx j):=by
 rw[Le,Le];exact(h.take _).append (h.drop _)
theorem T7:l4 K Of DU:=by
 intro k H a b ds b' d xs Q le hb r e h;unfold DU at e;split at e
 ·obtain⟨ys,e1,e2⟩:=dB.mp e;obtain⟨j,e3,e4⟩:=fR.mp e2;cases e4;obtain⟨ws,h1,h2⟩:=hb;obtain⟨y,rfl,r1⟩:=DT r;cases r1.bu rfl;obtain⟨s1,s2⟩:=Gw e3;have h3:=T5 h2 j;rw[G2 e1] at h2;cases Ga h2;exact⟨a,ys,_,j,rfl,rfl,h1,s1,s2,h .az _ ⟨_,aL,by rw[<-Dq];exact h3⟩ xS⟩
 ·cases e
def ji{α:Type}(kvs:List (TK×α))(z:Str):List (TK×α):=kvs.filter λe=>jj z e.1
def mj:Bx->List D->Option (Bx×D)
 |.aN kvs,[.str z]=>if oH kvs=true then(bw kvs (.inr z)).map λd=>(.aN (ji kvs z),d) else none
 |_,_=>none
theorem Np{k:Kn}(z:Str):∀{ws:List (TK×V×V)} {kvs:List (TK×D)},ws.map (·.1)=kvs.map (·.1)->ai K k (ws.map (·.2.1)) (kvs.map (·.1.d))->ai K k (ws.map (·.2.2)) (kvs.map (·.2))->
  (ji ws z).map (·.1)=(ji kvs z).map (·.1)/\ai K k ((ji ws z).map (·.2.1)) ((ji kvs z).map (·.1.d))/\ai K k ((ji ws z).map (·.2.2)) ((ji kvs z).map (·.2))
 |[],[],_,_,_=>⟨rfl,.nil,.nil⟩
 |w::ws,p::kvs,h,r1,r2=>by
  obtain⟨h1,h2⟩:=List.cons.inj (show w.1::ws.map (·.1)=p.1::kvs.map (·.1) from h)
  obtain⟨a1,a2⟩:=ai.inv r1;obtain⟨b1,b2⟩:=ai.inv r2;obtain⟨c1,c2,c3⟩:=Np z h2 a2 b2;unfold ji at *;rw[uo,uo,h1];split
  ·exact⟨congr (congrArg List.cons h1) c1,.cons a1 c2,.cons b1 c3⟩
  ·exact⟨c1,c2,c3⟩
 |[],_::_,h,_,_=>nomatch h
 |_::_,[],h,_,_=>nomatch h
theorem XA:l4 K (vA K) mj:=by
 intro k H a b ds b' d xs Q le hb r e h;unfold mj at e;split at e
 ·split at e
  ·rename_i ht
   obtain⟨v0,e1,e2⟩:=fR.mp e;cases e2;obtain⟨es,ep,h1,h2,h3,h4⟩:=hb;obtain⟨y,rfl,r1⟩:=DT r;cases r1.bu rfl;obtain⟨f1,f2,f3⟩:=Np (K:=K) _ h2 h3 h4;rcases HX (k:=.inr _) h2 h4 with⟨_,z⟩|⟨v,e,z1,z2,z3⟩
   ·rw[z] at e1;cases e1
   ·rw[z2] at e1;cases e1;exact⟨a,es,ep,_,v,rfl,rfl,h1,IK h2 h3 ht,z1,λoo=>h v _ ⟨_,oo,aL,f1,f2,f3⟩ z3⟩
  ·cases e
 ·cases e
end
def pd(K:PySem.W.Frag):pG:=λo i v H Q=>vB o i v H Q\/∃a H4,o=.ref a/\vU K H a i v H4/\Q H4
theorem PM{X:Cx}(hu:X.A.units+41 < cLine):sQ X (pd X.K):=by
 intro ae s Z H o i v ov iv u Q I ro ri rv h;rcases h with h|⟨a,H4,rfl,g,q⟩
 ·exact U7 ae s Z H o i v ov iv u Q I ro ri rv h
 ·cases ro;exact TM (by omega) I g ri rv λs4 I4=>⟨H4,I4,q⟩
def ud(b:Bx)(i v:D):Option Bx:=match b with
 |.lst xs=>(intD i).bind λk=>(tP xs.length k).map λj=>.lst (xs.set j v)
 |.aN kvs=>(lS i).bind λj=>if kvs.length < 1000000 then some (.aN (dW kvs j v)) else none
section
variable {X:Cx} {K:PySem.W.Frag} {W:XW} {q:Nat} {fv fo fi:GE} {o e i:Expr} {pos pos':Pos} {Z:St} {H:Hp}
theorem XB{d:D}(h:ai K k ws ds)(r:ai K k [v] [d])(j:Nat):ai K k (ws.set j v) (ds.set j d):=by
 induction ds generalizing ws j with
 |nil=>rw[h.iY];exact .nil
 |cons x ds ih=>
  obtain⟨w,us,rfl,h1,h2⟩:=h.cK;cases j with
  |zero=>exact .cons r h2
  |succ j=>exact .cons h1 (ih h2 j)
theorem Pj{a:Addr}{b b':Bx}{di dv:D}{y:V}{Q:Hp->Prop}(le:aB k.F H)(hb:fS K k H a b)(ri:ai K k [y] [di])(rv:ai K k [v] [dv])(e:ud b di dv=some b')(h:∀o',fS K k (upd H a o') a b'->Q (upd H a o')):pd K (.ref a) y v H Q:=by
 unfold ud at e;split at e
 ·obtain⟨j,h1,e⟩:=dB.mp e;obtain⟨n,h2,rfl⟩:=fR.mp e;cases DR h1;cases ri.bu rfl;obtain⟨ws,h3,h4⟩:=hb;exact .inl ⟨a,ws,j,n,rfl,rfl,h3,by rw[h4.length];exact h2,h _ ⟨_,aL,XB h4 rv n⟩⟩
 ·obtain⟨j,h1,e⟩:=dB.mp e;split at e
  ·rename_i hl
   cases e;obtain⟨es,ep,h2,h3,h4,h5⟩:=hb;obtain⟨k1,k2⟩:=yR h1;have ry:ai K k [y] [j.d]:=by rw[k1];exact ri
   obtain⟨p1,p2,p3⟩:=H0 ry rv h3 h4 h5;have wY:es.length < sizeLine:=by
    have:=h5.length;rw[cz,cz] at this;rw[this];exact jk hl (by decide)
   exact .inr ⟨a,_,rfl,⟨es,ep,j,h2,Oa h3 h4 le,ra (k:=k.all H) j (ry.all le),k2,wY,rfl⟩,h _ ⟨_,_,aL,p1,p2,p3⟩⟩
  ·cases e
def dU(q:Nat)(fv fo fi:GE):GS:=λU S=>lL U (aj fv (aj fo (aj fi gN)) U S) λvs S1=>match vs with
 |[v,o,i]=>(pP [v,i] S1).bind λp=>(pR p.2 o).bind λb=>if b.mb q=true then(match p.1 with
  |[dv,di]=>(ud b di dv).map λb'=>.nx U (setB p.2 b' o)
  |_=>none) else none
 |_=>none
theorem Zi{D:Ends}(t:tS K W q (dU q fv fo fi) D Z H):tE K W q fv Z H λv H1=>tE K W q fo Z H1 λo H2=>tE K W q fi Z H2 λi H3=>pd K o i v H3 λH4=>D.nx Z H4:=by
 have t1:jv K W q (aj fv (aj fo (aj fi gN))) Z H λxs H3=>∃v o i,xs=[v,o,i]/\pd K o i v H3 λH4=>D.nx Z H4:=by
  obtain⟨k,U,S,fr,ok,gk,e,w⟩:=t;refine tS.bd ok gk e w λvs S1 xs k1 H1 bC g1 r1 e1 w1=>?_
  split at e1
  ·rename_i v o i
   cases r1 with
   |@cons xv _ _ _ rv t=>
    cases t with
    |@cons xo _ _ _ ro t=>
     cases t with
     |@cons xi _ _ _ ri t=>
      cases t;refine⟨xv,xo,xi,rfl,?_⟩;obtain⟨⟨ds,S2⟩,e2,e3⟩:=dB.mp e1;obtain⟨k2,u2,ee,r2⟩:=DN bC (.cons rv (.cons ri .nil)) e2;obtain⟨b,e4,e5⟩:=dB.mp e3;obtain⟨a,rfl,h4,h5⟩:=Av ee (ro.up (u2 q)) e4;split at e5
      ·rename_i hb
       obtain _|⟨dv,_|⟨di,_|⟨_,_⟩⟩⟩:=ds
       ·cases e5
       ·cases e5
       ·obtain⟨b',e6,rfl⟩:=fR.mp e5;obtain⟨s1,s2⟩:=r2.inv;refine Pj ee.le h4 s2 s1 e6 λo' h6=>?_
        obtain⟨mH,u5⟩:=h5 q b' _ Ai hb h6;exact cv.now (cv.up (cv.up w1 (u2 q)) u5) mH ((g1.up (u2 q)).up u5)
       ·cases e5
      ·cases e5
  ·cases e1
 refine oa (sW t1) λv H1 h=>oa (sW h) λo H2 h=>oa (sW h) λi H3 h=>?_
 obtain⟨v',o',i',e,h⟩:=yY h;cases e;exact h
theorem Zj(he:PE X e (tE K W q fv))(ho:PE X o (tE K W q fo))(hi:PE X i (tE K W q fi))(hu:X.A.units+41 < cLine)(hK:X.K=K)
  (ha:∀v,assign (.Subscript o i pos') X.env v=(do
   let ov <-holding [v] (eval o X.env)
   let iv <-holding [v,ov] (eval i X.env)
   standAt pos'
   holding [v,ov,iv] (setItem ov iv v)
   release [v,ov,iv] []))
  (hs:swapsWithSole [.Subscript o i pos'] e pos.line X.env=pure false) (hw:swappedStores [.Subscript o i pos'] e X.env=pure none)
  (h1:(assignEach [.Subscript o i pos'] X.env).map (·.2)=[assign (.Subscript o i pos') X.env]):PS X (.Assign [.Subscript o i pos'] e pos) (tS K W q (dU q fv fo fi)):=by
 subst hK;exact(Yq he (Yp ho hi (PM hu) ha) hs hw h1).mono λD Z H t=>Zi t
end
end L2
namespace L2
open PySem PySem.Spec PySem.W PyProof.Rows
section
variable {X:Cx} {K:Frag} {W:XW} {q:Nat} {pos:Pos} {ae:List (Addr×Obj)} {Z:St}
theorem rC:PE X (.Dict [] [] pos) Zd:=λae s Z H Q I h=>
 wpAny_Dict_empty ⟨.ref s.heap.objs.size,_,I.laid (a:=s.heap.objs.size) (o:=.dG [] 0) (t':=s.toks) (λ_ _ q=>fg _ q) (cI _) (Hi s.heap I.big),rfl,h _ (I.bF.fresh (cI _))⟩
def pK:GE:=λ_ S=>some (.ok (.o (.aN [])) S)
theorem qg:PE X (.Dict [] [] pos) (tE K W q pK):=rC.mono λZ H Q t p hp=>by
 obtain⟨k,U,S,res,ok,gk,e,w⟩:=t;cases e;exact lI.aN (.fin ok w) ok.le rfl .nil .nil hp
def oM(K:Frag)(F:Hp)(e:TK×V×V):Prop:=bf K F [e.2.1] [e.1.d]/\e.1.ok 8=true
def Pk(K:Frag)(ug:List (TE×TE)):TE:=λZ H Q=>∀p,H p=none->D0 ug Z (upd H p (.dG [] 0)) λps H2=>(∃e0,H2 p=some (.dG [] e0))/\∃(F:Hp) (qs:List (TK×V×V)),F p=none/\aB F H2/\ps=qs.map (·.2)/\(∀e∈qs,oM K F e)/\qs.length<=15/\∀ep,Q (.ref p) (upd H2 p (.dG (h_ [] qs) ep))
theorem VD{F:Hp}{qs:List (TK×V×V)}(h:∀e∈qs,oM K F e):∀{es:List (TK×V×V)},bf K F (es.map (·.2.1)) (es.map (·.1.d))->bf K F ((h_ es qs).map (·.2.1)) ((h_ es qs).map (·.1.d)):=λ{es} r=>Mi K (λp m=>(h p m).1) r
theorem ML{A:Around}{E:Value->Shared->Prop}{F H2:Hp}{p:Addr}(hF:F p=none)(le:aB F H2)(hu:A.units+8 < cLine){Q:Unit->Shared->Prop}:∀{qs:List (TK×V×V)} {ws:List (Value×Value)} {es:List (TK×V×V)} {ep:Nat} {s:Shared},VV (qs.map (·.2)) ws->(∀e∈qs,oM X.K F e)->bf X.K F (es.map (·.2.1)) (es.map (·.1.d))->es.length+qs.length<=1000->Inv X ae Z (upd H2 p (.dG es ep)) s->(∀ep s,Inv X ae Z (upd H2 p (.dG (h_ es qs) ep)) s->Q () s)->
  wpAny (model X.prog X.w) A (forIn ws () λ(x:Value×Value) _=>do dictSet p x.1 x.2;pure (ForInStep.yield ())) Q E s
 |[],_,es,ep,s,v,_,_,_,I,h=>by
  rw[CA] at v;cases v;rw[List.forIn_nil];exact wpAny_pure (h ep s I)
 |e::qs,_,es,ep,s,v,hk,r,hl,I,h=>by
  rw[dX] at v;cases v with
  |cons rv v=>
   rw[List.forIn_cons];have sm:aB F (upd H2 p (.dG es ep)):=λb o z=>by rw[eX (λy=>by rw[y,hF] at z;cases z)];exact le b o z
   have JA:=hk e (.head _);rw[kd] at hl;refine wpAny_bind (wpAny_bind (G1 (by omega) I ⟨es,ep,e.1,aL,r.E1 sm,JA.1.E1 sm,JA.2,by rw[sizeLine_eq];omega,rfl⟩ rv.1 rv.2 λs' I'=>wpAny_pure ?_))
   rw[Wf] at I';have EH:=Dd e.1 e.2.1 e.2.2 es;have e3:(h_ es [e]).length=(eV es e.1 e.2.1 e.2.2).length:=rfl;exact ML (es:=h_ es [e]) hF le hu v (λe m=>hk e (.tail _ m)) (VD (qs:=[e]) (λx m=>by cases p8.mp m;exact JA) r) (by omega) I' h
theorem VE{keys:List (Option Expr)}{values:List Expr}{ug:List (TE×TE)}(h:yl X pos keys values ug)(hu:X.A.units+41 < cLine)(ko:keys.all (·.isSome)=true)(hl:keys.length=values.length)(h0:keys≠[])(oZ:keys.length<=15):PE X (.Dict keys values pos) (Pk X.K ug):=by
 intro ae s Z H Q I q;have hn:=I.bF.fresh (cI s.heap.objs.size);have I1:=I.laid (a:=s.heap.objs.size) (o:=.dG [] 0) (h':=s.heap.push { cls:=.type "dict",data:=.dict #[]}) (t':=s.toks) (λ_ _ q=>fg _ q) (cI _) (Hi s.heap I.big)
 have lp:∀(ks:List (Option Expr)) (vs:List Expr),ks.all (·.isSome)=true->ks.length=vs.length->(pairTrees ks vs X.env pos).length=ks.length:=by
  intro ks
  induction ks with
  |nil=>intro vs _ e;cases vs with
   |nil=>rfl
   |cons _ _=>cases e
  |cons k ks ih=>
   intro vs a e;rw[rV,m6] at a;cases k with
   |none=>cases a.1
   |some k=>cases vs with
    |nil=>cases e
    |cons v vs=>exact congrArg (·+1) (ih vs a.2 (Nat.succ.inj e))
 have JY:=lp keys values ko hl;rw[arm_eval_Dict,zip_pairTrees keys values X.env pos ko hl,dictDisplay_pairs _ (λz=>h0 (List.eq_nil_of_length_eq_zero (by rw[<-JY,z];rfl))) (by rw[JY];omega)]
 refine wpAny_bind (wpAny_standAt (wpAny_bind ?_));unfold subDict;refine wpAny_bind (wpAny_alloc (wpAny_bind (wpAny_holding ?_)));rw[if_pos (by rw[JY];exact oZ)]
 refine wpAny_bind (bI (h ae _ Z _ _ I1 (q _ hn)) λws s2 hh=>?_)
 obtain⟨ps,H2,I2,rel,⟨e0,e⟩,F,qs,hF,le,ep,hk,hq,q2⟩:=hh;subst ep;refine wpAny_holding (wpAny_bind ?_);have eu:upd H2 s.heap.objs.size (.dG [] e0)=H2:=by
  funext b;by_cases z:b=s.heap.objs.size
  ·rw[z,aL,e]
  ·rw[eX z]
 refine ML hF le (by show X.A.units+8 < cLine;omega) rel hk .nil (by rw[zF];omega) (eu ▸ I2) λep s' I'=>?_
 exact wpAny_pure (wpAny_pure (wpAny_pure ⟨.ref _,_,I',rfl,q2 ep⟩))
def Io:List D->Option (List (TK×D))
 |[]=>some []
 |a::b::ds=>(lS a).bind λj=>(Io ds).map λps=>(j,b)::ps
 |_=>none
def oU(g:GA):GE:=λU S=>bd (g U ⟨S.s++[.o (.aN [])],S.r⟩) λvs S1=>(pP vs S1).bind λz=>if z.2.s.length=S.s.length+1 then(match z.2.s[S.s.length]? with
 |some (.o (.aN []))=>(Io z.1).bind λps=>if ps.length<=15 then some (.ok (.o (.aN (ps.foldl (λkvs p=>dW kvs p.1 p.2) []))) ⟨z.2.s.take S.s.length,z.2.r⟩) else none
 |_=>none) else none
def yT:List (GE×GE)->GA
 |[]=>gN
 |p::r=>aj p.1 (aj p.2 (yT r))
def qQ:List (V×V)->List V
 |[]=>[]
 |p::r=>p.1::p.2::qQ r
abbrev EY(K:Frag)(W:XW)(q:Nat)(gs:List (GE×GE)):List (TE×TE):=gs.map λp=>(tE K W q p.1,tE K W q p.2)
theorem VF{gs:List (GE×GE)}:∀{H:Hp} {Q:List (V×V)->Hp->Prop},jv K W q (yT gs) Z H (λxs H2=>∀ps,qQ ps=xs->Q ps H2)->D0 (EY K W q gs) Z H Q:=by
 induction gs with
 |nil=>intro H Q t;exact yY t [] rfl
 |cons p gs ih=>intro H Q t;exact oa (sW t) λx H1 t=>oa (sW t) λy H2 t=>ih (oa t λxs H3 h ps e=>h _ (by rw[<-e];rfl))
theorem Om{k:Kn}:∀{ps:List (V×V)} {ds:List D} {es:List (TK×D)},Io ds=some es->ai K k (qQ ps) ds->∃qs:List (TK×V×V),ps=qs.map (·.2)/\(∀e∈qs,oM K k.F e)/\Paired (qC K k) qs es
 |[],ds,es,e,r=>by
  cases ds with
  |nil=>cases e;exact⟨[],rfl,(λ_ m=>nomatch m),.nil⟩
  |cons _ _=>have:=r.length;cases this
 |p::ps,ds,es,e,r=>by
  cases ds with
  |nil=>have:=r.length;cases this
  |cons a ds=>cases ds with
   |nil=>have:=r.length;cases this
   |cons b ds=>
    obtain⟨j,q1,e⟩:=dB.mp e;obtain⟨ps',q2,rfl⟩:=fR.mp e;obtain⟨r1,r⟩:=ai.inv r;obtain⟨r2,r⟩:=ai.inv r;obtain⟨qs,h1,h2,h3⟩:=Om q2 r;have rk:ai K k [p.1] [j.d]:=by rw[(yR q1).1];exact r1
    refine⟨(j,p.1,p.2)::qs,by rw[h1];rfl,λe m=>?_,.cons ⟨rfl,rk,r2⟩ h3⟩
    rcases fV.mp m with rfl|m
    ·exact⟨ra (k:=k) j rk,(yR q1).2⟩
    ·exact h2 e m
theorem T8{α:Type}{l:List α}{n:Nat}{p:α}(h:l.length=n+1)(e:l[n]?=some p):l=l.take n++[p]:=by
 conv=>lhs;rw[<-List.take_append_drop n l]
 congr 1
 obtain⟨hn,e⟩:=jQ.mp e;rw[La hn,e,Fb (by omega)]
theorem XC{gs:List (GE×GE)}{H:Hp}{Q:VK}(t:tE K W q (oU (yT gs)) Z H Q):Pk K (EY K W q gs) Z H Q:=by
 intro p hp;obtain⟨k,U,S,res,ok,gk,e,w⟩:=t;have sm:aB H (upd H p (.dG [] 0)):=qI hp;obtain⟨fx,nx⟩:=ok.fresh hp;have ee:cD K k _ S:=ok.new (aB.refl _) (λa _ o z=>sm a o z) (ok.le.trans sm) λ_ _ z=>z
 obtain⟨kq,u3⟩:=ee.pushS (b:=.aN []) fx nx ⟨[],0,aL,rfl,.nil,.nil⟩;have u4:Up q k H ⟨k.F,k.A,k.T++[p]⟩ (upd H p (.dG [] 0)):=(Up.of (aB.refl _) sm).trans (u3 q);refine VF ?_;refine tX.bd (R':=RE K) (Q':=Q) kq (gk.up u4) e (w.up u4) λvs S1 xs k1 H1 bC g1 r1 e1 w1 u1 ps0 e0=>?_
 subst e0;obtain⟨z,e2,e1⟩:=dB.mp e1;obtain⟨k2,u2,mH,r5⟩:=DN bC r1 e2;split at e1
 ·rename_i hl
  split at e1
  ·rename_i hc
   obtain⟨ps,e3,e1⟩:=dB.mp e1;split at e1
   ·rename_i oZ
    cases e1;have ep:k2.T[S.s.length]?=some p:=D5 (u2 q).t (D5 u1.t (by rw[<-ok.s.ln];exact DL))
    obtain⟨hF,es,e0,hH,hk,_,_⟩:=mH.s.at' _ _ _ ep hc;cases es with
    |cons _ _=>cases hk
    |nil=>
     obtain⟨qs,h1,h2,h3⟩:=Om e3 r5;have hlT:k2.T.length=S.s.length+1:=mH.s.ln.trans hl;have eT:=T8 hlT ep;have np:p∉k2.A++k2.T.take S.s.length:=by
      have nd:=mH.nd;rw[eT,<-m8] at nd;exact λm=>(p9.mp nd).2.2 p m p (List.mem_singleton_self _) rfl
     refine⟨⟨e0,hH⟩,k2.F,qs,hF,mH.le,h1,h2,by rw[Paired.length h3];exact oZ,λoo=>?_⟩
     obtain⟨o1,o2,o3⟩:=Ol h3 (ws:=[]) (kvs:=[]) rfl .nil .nil;have ho:l5 H1 (upd H1 p (.dG (h_ [] qs) oo)) p:=Ai;have J4:=mH.take S.s.length;have ok7:cD K ⟨k2.F,k2.A,k2.T.take S.s.length⟩ (upd H1 p (.dG (h_ [] qs) oo)) ⟨z.2.s.take S.s.length,z.2.r⟩:=J4.new (aB.refl _) (λa m o y=>by rw[ho a λy=>np (y ▸ m)];exact y) (λb o y=>by rw[ho b λy'=>by rw[y',hF] at y;cases y];exact mH.le b o y) λ_ _ y=>y
     have uu:=u4.trans (u1.trans (u2 q));refine w (.ref p) ⟨k2.F,k2.A,k2.T.take S.s.length⟩ _ ⟨uu.f,uu.a,Nb uu.t (Cy ok.s.ln),λa o y1 y2=>?_⟩ ok7 ⟨p,rfl,hF,np,_,oo,aL,o1,ai.mono (k:=k2) ⟨aB.refl k2.F,lY k2.A⟩ o2,ai.mono (k:=k2) ⟨aB.refl k2.F,lY k2.A⟩ o3⟩
     rw[ho a λy=>by rw[y,hp] at y2;cases y2]
     exact uu.h a o y1 y2
   ·cases e1
  ·cases e1
 ·cases e1
theorem XD{keys:List (Option Expr)}{values:List Expr}{gs:List (GE×GE)}(hK:X.K=K)(h:yl X pos keys values (EY K W q gs))(hu:X.A.units+41 < cLine)(ko:keys.all (·.isSome)=true)(hl:keys.length=values.length)(h0:keys≠[])(oZ:keys.length<=15):PE X (.Dict keys values pos) (tE K W q (oU (yT gs))):=(VE h hu ko hl h0 oZ).mono λZ H Q t=>by
 rw[hK];exact XC t
end
end L2
namespace L2
open PySem PySem.Spec PyProof.Rows
variable{bA:Str}{Z:St}{H:Hp}{Q:Str->Hp->Prop}
def mB:D->Option Rv
 |.str x=>if x.length<=1000000 then some (rd (.str x)) else none
 |.int i=>if i.natAbs.log2 < 1920 then some (rd (.str (Str.ofString (toString i)))) else none
 |_=>none
def Kj:V->Hp->VK->Prop:=λx H Q=>(∃z:Str,x=.str z/\z.length<=sizeLine/\Q (.str z) H)\/∃i:Int,x=.int i/\i.natAbs.log2 < 1920/\Q (.str (Str.ofString (toString i))) H
abbrev TJ:=Str->St->Hp->(Str->Hp->Prop)->Prop
def vG:TJ:=λbA _ H Q=>Q bA H
def Pl(te:TE)(tj:TJ):TJ:=λbA Z H Q=>te Z H λx H1=>∃y,x=.str y/\(bA++y).length<=sizeLine/\tj (bA++y) Z H1 Q
def PJ(X:Cx)(es:List Expr)(tj:TJ):Prop:=∀(bA:Str) (ae:List (Addr×Obj)) (s:Shared) (Z:St) (H:Hp) (Q:Str->Hp->Prop) (R:Str->Shared->Prop),Inv X ae Z H s->tj bA Z H Q->bA.length<=sizeLine->
 (∀out s' H',out.length<=sizeLine->Inv X ae Z H' s'->Q out H'->R out s')->Joins (model X.prog X.w) X.A X.xe (evalEach es X.env) bA R s
abbrev GJ:=Str->Gx Str
def lj:GJ:=λbA _ S=>some (.ok bA S)
def Rv.str:Rv->Option Str
 |.v (.d (.str i))=>some i
 |_=>none
def mY(f:GE)(j:GJ):GJ:=λbA U S=>bd (f U S) λr S1=>r.str.bind λy=>if(bA++y).length<=1000000 then j (bA++y) U S1 else none
def wc(j:GJ):GE:=λU S=>bd (j Str.empty U S) λz S1=>some (.ok (rd (.str z)) S1)
abbrev RS:Rp Str Str:=λ_ _ b a=>b=a
section
variable {X:Cx} {K:PySem.W.Frag} {W:XW} {q:Nat} {f:GE} {e v:Expr} {es:List Expr} {j:GJ} {pos:Pos} {te:TE} {tj:TJ}
theorem Rv.xZ{r:Rv}{i:Str}(h:r.str=some i):r=rd (.str i):=by
 unfold Rv.str at h;split at h
 ·cases h;rfl
 ·cases h
theorem Zk:cJ K (Kh Kj) (o1 mB):=tW λk H x a y Q le t e res=>by
 unfold mB at e;split at e
 ·split at e
  ·cases e;cases t.flat rfl;exact⟨_,rfl,.inl ⟨_,rfl,ml (by assumption),res.flat le rfl⟩⟩
  ·cases e
 ·split at e
  ·cases e;cases t.flat rfl;exact⟨_,rfl,.inr ⟨_,rfl,by assumption,res.flat le rfl⟩⟩
  ·cases e
 ·cases e
theorem y8(h:PE X v (tE K W q f)):PE X (.FormattedValue v (-1) none pos) (tE K W q (gO (o1 mB) (ow f))):=by
 intro ae s Z H Q I t;refine wpAny_FormattedValue_plain (bI (h ae s Z H _ I (IT (s9 Zk t))) λu s1 ⟨x,H1,I1,r1,q1⟩=>?_)
 rcases q1 with⟨z,rfl,hz,q⟩|⟨i,rfl,hi,q⟩
 ·obtain⟨t',rfl⟩:=r1;exact PyProof.Rows.formatField_str (λt2 tk=>⟨.str z,H1,I1.tok _,⟨_,rfl⟩,q⟩) hz
 ·obtain⟨t',rfl⟩:=r1;exact wpAny_formatField_int hi ⟨.str _,H1,I1.tok _,⟨_,rfl⟩,q⟩
theorem Zl:PJ X [] vG:=λbA ae s Z H Q R I t hl hR=>Joins_nil (hR _ _ _ hl I t)
theorem XE(he:PE X e te)(hj:PJ X es tj):PJ X (e::es) (Pl te tj):=λbA ae s Z H Q R I t hl hR=>
 Joins_cons (bI (he ae s Z H _ I t) λu s1 ⟨x,H1,I1,r1,y,hy,Qd,q1⟩=>by
  subst hy;obtain⟨t,rfl⟩:=r1;exact⟨y,t,rfl,Qd,hj (bA++y) ae s1 Z H1 Q R I1 q1 Qd hR⟩)
theorem XF(t:tX RS K W q (lj bA) Z H Q):vG bA Z H Q:=AR t λ_ _=>rfl
theorem VG(hj:∀bA Z H Q,tX RS K W q (j bA) Z H Q->tj bA Z H Q)(t:tX RS K W q (mY f j bA) Z H Q):Pl (tE K W q f) tj bA Z H Q:=by
 obtain⟨k,U,S,res,ok,gk,e,w⟩:=t;refine tX.bd ok gk e w λr S1 x k1 H1 bC g1 r1 e1 w1 _=>?_
 obtain⟨y,e2,e3⟩:=dB.mp e1;cases Rv.xZ e2;split at e3
 ·exact⟨y,(show ai K k1 [x] [.str y] from r1).bu rfl,ml (by assumption),hj _ _ _ _ ⟨k1,U,S1,res,bC,g1,e3,w1⟩⟩
 ·cases e3
theorem T9{v1 v2:Expr}{rest:List Expr}(h:PJ X (v1::v2::rest) tj)(hj:∀bA Z H Q,tX RS K W q (j bA) Z H Q->tj bA Z H Q):PE X (.JoinedStr (v1::v2::rest) pos) (tE K W q (wc j)):=by
 intro ae s Z H Q I t;refine wpAny_JoinedStr (h Str.empty ae s Z H (λout H'=>Q (.str out) H') _ I (hj _ _ _ _ ?_) (mU _) λout s' H' h1 I' hQ=>⟨h1,.str out,H',I'.tok _,⟨_,rfl⟩,hQ⟩)
 obtain⟨k,U,S,res,ok,gk,e,w⟩:=t;refine tX.bd ok gk e w λz S1 z' k1 H1 bC g1 r1 e1 w1 _=>?_
 cases e1;cases r1;exact w1.now bC (show ai K k1 [_] [_] from .flat rfl .nil)
end
end L2
namespace L2
open PySem PySem.Spec PyProof.Rows
variable{S:aX}{n:Nat}{op:Operator}{h:Int->Int->Int}
def kH(K:PySem.W.Frag)(cg:List (Addr×Str)):Prop:=∀p∈cg,nO K p.1/\iI K p.1 p.2
def qY(S:aX)(n:Nat):Option (Addr×List (Str×D)):=(S.r[n]?).bind λc=>match c with
 |.ins C fs=>some (C,fs)
 |_=>none
theorem DV{p:Addr×List (Str×D)}(h:qY S n=some p):S.r[n]?=some (.ins p.1 p.2):=by
 obtain⟨c,h1,h2⟩:=dB.mp h;cases c <;> cases h2;exact h1
def bB(cg:List (Addr×Str))(g:Str)(f:GE):GE:=λU S=>bd (f U S) λr S1=>r.ref.bind λn=>(qY S1 n).bind λp=>if cg.contains (p.1,g)=true then(p.2.lookup g).map λd=>.ok (rd d) S1 else none
def iX(f:Str)(v:D):List (Str×D)->List (Str×D)
 |[]=>[(f,v)]
 |(g,x)::r=>if g=f then(g,v)::r else(g,x)::iX f v r
section
variable {X:Cx} {K:PySem.W.Frag} {W:XW} {q:Nat} {cg:List (Addr×Str)} {g:Str} {f fv fo fe fi:GE} {e o value i:Expr} {pos pos' iz:Pos} {Z:St} {H:Hp}
theorem Hk{k:Kn}{g:Str}{d:D}:∀{gs:List (Str×V)} {fs:List (Str×D)},gs.map (·.1)=fs.map (·.1)->ai K k (gs.map (·.2)) (fs.map (·.2))->fs.lookup g=some d->∃v,gs.lookup g=some v/\ai K k [v] [d]
 |[],[],_,_,e=>nomatch e
 |(x,v)::gs,(y,c)::fs,h,r,e=>by
  obtain⟨h1,h2⟩:=List.cons.inj (show x::gs.map (·.1)=y::fs.map (·.1) from h)
  obtain⟨a1,a2⟩:=ai.inv r;subst h1;rw[pz] at e ⊢;split at e
  ·cases e;exact⟨v,rfl,a1⟩
  ·exact Hk h2 a2 e
 |[],_::_,h,_,_=>nomatch h
 |_::_,[],h,_,_=>nomatch h
theorem Nq{k:Kn}{g:Str}{v:V}{d:D}(rv:ai K k [v] [d]):∀{gs:List (Str×V)} {fs:List (Str×D)},gs.map (·.1)=fs.map (·.1)->ai K k (gs.map (·.2)) (fs.map (·.2))->(fU g v gs).map (·.1)=(iX g d fs).map (·.1)/\ai K k ((fU g v gs).map (·.2)) ((iX g d fs).map (·.2))
 |[],[],_,_=>⟨rfl,rv⟩
 |(x,w)::gs,(y,c)::fs,h,r=>by
  obtain⟨h1,h2⟩:=List.cons.inj (show x::gs.map (·.1)=y::fs.map (·.1) from h)
  obtain⟨a1,a2⟩:=ai.inv r;subst h1;unfold fU iX;split
  ·exact⟨congrArg (List.cons x) h2,.cons rv a2⟩
  ·obtain⟨c1,c2⟩:=Nq rv h2 a2;exact⟨congrArg (List.cons x) c1,.cons a1 c2⟩
 |[],_::_,h,_=>nomatch h
 |_::_,[],h,_=>nomatch h
theorem Zm(ha:kH K cg)(he:PE X e (tE K W q f))(hb:attributeBase e g X.env (eval e X.env)=eval e X.env)(hK:X.K=K):PE X (.Attribute e g pos) (tE K W q (bB cg g f)):=by
 subst hK;refine(Yz he hb).mono λZ H Q t=>?_
 obtain⟨k,U,S,res,ok,gk,e,w⟩:=t;refine tX.bd ok gk e w λr S1 x k1 H1 bC g1 r1 e1 w1 _=>?_
 obtain⟨n,e2,e3⟩:=dB.mp e1;cases Rv.mM e2;obtain⟨p,e4,e5⟩:=dB.mp e3;split at e5
 ·rename_i hc
  obtain⟨h1,h2⟩:=ha _ (nN.mp hc);obtain⟨d,e6,rfl⟩:=fR.mp e5;obtain⟨a,dx,gs,rfl,h3,h4,h5,h6,h7⟩:=AH bC r1 (DV e4);obtain⟨v,h8,h9⟩:=Hk h6 h7 e6;exact⟨a,_,dx,gs,v,rfl,h5,h1,h2,h8,w1.now bC h9⟩
 ·cases e5
theorem cD.B8{k:Kn}{a C dx:Addr}{gs:List (Str×V)}{fs:List (Str×D)}{v:V}{d:D}(ok:cD K k H S)(hA:k.A[n]?=some a)(hF:k.F a=none)(h5:H a=some (.ins C dx gs))(h6:gs.map (·.1)=fs.map (·.1))(h7:ai K k (gs.map (·.2)) (fs.map (·.2)))(rv:ai K k [v] [d])(hq:Nat.ble q 1=true):
  cD K k (upd H a (.ins C dx (fU g v gs))) ⟨S.s,S.r.set n (.ins C (iX g d fs))⟩/\Up q k H k (upd H a (.ins C dx (fU g v gs))):=by
 obtain⟨c1,c2⟩:=Nq (g:=g) rv h6 h7;refine ok.B9 hA Ai hF (λo z=>?_) ⟨hF,dx,_,aL,c1,c2⟩
 rw[h5] at z;cases z;have:=CF hq
 match q,this with
 |0,_=>rfl
 |1,_=>rfl
def iq(q:Nat)(cg:List (Addr×Str))(g:Str)(fv fo:GE):GS:=λU S=>lL U (fv U S) λr1 S1=>lL U (fo U S1) λr2 S2=>(oq S2 (mS r1)).bind λz=>r2.ref.bind λn=>(qY z.2 n).bind λp=>if(cg.contains (p.1,g) && Nat.ble q 1 && Nat.blt p.2.length 1000)=true then some (.nx U ⟨z.2.s,z.2.r.set n (.ins p.1 (iX g z.1 p.2))⟩) else none
theorem Zn(ha:kH K cg)(ho:PE X o (tE K W q fo))(hv:PE X value (tE K W q fv))(hs:swapsWith value (some (.Attribute o g pos')) pos.line X.env=pure false)(hK:X.K=K):PS X (.Assign [.Attribute o g pos'] value pos) (tS K W q (iq q cg g fv fo)):=by
 subst hK;refine(YA ho hv hs).mono λD Z H t=>?_
 obtain⟨k,U,S,fr,ok,gk,e,w⟩:=t;refine tS.bd ok gk e w λr1 S1 y k1 H1 bC g1 q1 e1 w1=>?_
 obtain⟨k2,u2,ee,q2⟩:=qk bC q1;refine tS.AN ee (g1.up (u2 q)) e1 (w1.up (u2 q)) λr2 S2 x k3 H3 kq g3 r3 e2 w3 u3=>?_
 obtain⟨⟨d,S3⟩,e3,e4⟩:=dB.mp e2;obtain⟨k4,u4,p4,r4⟩:=DM kq (q2.up u3) e3;obtain⟨n,e5,e6⟩:=dB.mp e4;cases Rv.mM e5;obtain⟨p,e7,e8⟩:=dB.mp e6;split at e8
 ·rename_i hc
  cases e8;simp only[m6] at hc;obtain⟨⟨EA,zh⟩,Jo⟩:=hc;obtain⟨h1,h2⟩:=ha _ (nN.mp EA);obtain⟨a,dx,gs,rfl,h3,h4,h5,h6,h7⟩:=AH p4 (ai.mono (u4 q).le r3) (DV e7);have hl:gs.length < 1000:=by
   have:=h7.length;rw[cz,cz] at this;rw[this];exact CF Jo
  obtain⟨mH,u5⟩:=p4.B8 (g:=g) h3 h4 h5 h6 h7 r4 zh;exact⟨a,_,dx,gs,rfl,h5,h1,h2,hl,cv.now (cv.up w3 ((u4 q).trans u5)) mH (g3.up ((u4 q).trans u5))⟩
 ·cases e8
def Ip(q:Nat)(h:Int->Int->Int)(cg:List (Addr×Str))(g:Str)(fo fe:GE):GS:=λU S=>lL U (fo U S) λr S1=>r.ref.bind λn=>(qY S1 n).bind λp=>if cg.contains (p.1,g)=true then(match p.2.lookup g with
 |some (.int a)=>lL U (fe U S1) λr2 S2=>r2.int.bind λb=>(qY S2 n).bind λp2=>if(p2.1 == p.1 && Nat.ble q 1 && Nat.blt p2.2.length 1000)=true then some (.nx U ⟨S2.s,S2.r.set n (.ins p2.1 (iX g (.int (h a b)) p2.2))⟩) else none
 |_=>none) else none
theorem XG(w_:vQ X op λx y H Q=>∃i j,x=.int i/\y=.int j/\Q (.int (h i j)) H)(ha:kH K cg)(ho:PE X o (tE K W q fo))(hv:PE X value (tE K W q fe))(hK:X.K=K):PS X (.AugAssign (.Attribute o g iz) op value pos) (tS K W q (Ip q h cg g fo fe)):=by
 subst hK;refine(Te ho hv w_).mono λD Z H t=>?_
 obtain⟨k,U,S,fr,ok,gk,e,w⟩:=t;refine tS.bd ok gk e w λr S1 x k1 H1 bC g1 r1 e1 w1=>?_
 obtain⟨n,e2,e3⟩:=dB.mp e1;cases Rv.mM e2;obtain⟨p,e4,e5⟩:=dB.mp e3;split at e5
 case isFalse=>cases e5
 rename_i hc
 obtain⟨h1,h2⟩:=ha _ (nN.mp hc);obtain⟨a,dx,gs,rfl,h3,h4,h5,h6,h7⟩:=AH bC r1 (DV e4);split at e5
 case h_2=>cases e5
 rename_i iv hl
 obtain⟨v,h8,h9⟩:=Hk h6 h7 hl;cases h9.bu rfl;refine⟨a,_,dx,gs,_,rfl,h5,h1,h2,h8,tS.AN bC g1 e5 w1 λr2 S2 y k2 H2 ee g2 q2 e6 w2 u2=>?_⟩
 obtain⟨b,e7,e8⟩:=dB.mp e6;cases Rv.j6 e7;cases(show ai X.K k2 [y] [.int b] from q2).bu rfl;obtain⟨p2,e9,IQ⟩:=dB.mp e8;split at IQ
 case isFalse=>cases IQ
 rename_i hc
 cases IQ;simp only[m6,beq_iff_eq] at hc;obtain⟨⟨EA,zh⟩,Jo⟩:=hc;obtain⟨a',Xr,P5,z,h3',h4',P6,h6',P7⟩:=AH ee (ai.mono u2.le r1) (DV e9);cases z;have hl:P5.length < 1000:=by
  have:=P7.length;rw[cz,cz] at this;rw[this];exact CF Jo
 obtain⟨mH,u5⟩:=ee.B8 (g:=g) (v:=.int (h iv b)) (d:=.int (h iv b)) h3' h4' P6 h6' P7 (.flat rfl .nil) zh;exact⟨_,_,rfl,rfl,Xr,P5,EA ▸ P6,hl,EA ▸ cv.now (cv.up w2 u5) mH (g2.up u5)⟩
def Iq(q:Nat)(h:Int->Int->Int)(fo fi fe:GE):GS:=λU S=>lL U (fo U S) λr1 S1=>lL U (fi U S1) λr2 S2=>(match mS r2,pR S2 (mS r1) with
 |.d di,some (.aN kvs)=>(lS di).bind λj=>(match bw kvs j with
  |some (.int a)=>lL U (fe U S2) λr3 S3=>r3.int.bind λb=>(pR S3 (mS r1)).bind λc=>if c.mb q=true then(match c with
   |.aN rh=>if rh.length < 1000000 then some (.nx U (setB S3 (.aN (dW rh j (.int (h a b)))) (mS r1))) else none
   |_=>none) else none
  |_=>none)
 |_,_=>none)
theorem VH(hu:X.A.units+41 < cLine):zT X (λo i H Q=>∃a v,o=.ref a/\jo X.K H a i (some v)/\Q v H):=by
 intro ae s Z H o i ov iv Q I ro ri h;obtain⟨p,v,rfl,g,q⟩:=h;cases ro;exact MG (by omega) I g ri λw' s3 I3 mP=>⟨v,H,I3,mP,q⟩
theorem XH(w_:CN X op (JM h))(ho:PE X o (tE K W q fo))(hi:PE X i (tE K W q fi))(hv:PE X value (tE K W q fe))(hu:X.A.units+41 < cLine)(hK:X.K=K)
  (ha:∀ov iv new,augStore i ov iv new=(do holding [new,ov,iv] (setItem ov iv new);release [new,ov,iv] [];pure .next)):PS X (.AugAssign (.Subscript o i iz) op value pos) (tS K W q (Iq q h fo fi fe)):=by
 subst hK;refine(Wm ho hi (VH hu) hv w_ (PM hu) ha).mono λD Z H t=>?_
 obtain⟨k,U,S,fr,ok,gk,e,w⟩:=t;refine tS.bd ok gk e w λr1 S1 x k1 H1 bC g1 q1 e1 w1=>?_
 obtain⟨k2,u2,ee,q2⟩:=qk bC q1;refine tS.AN ee (g1.up (u2 q)) e1 (w1.up (u2 q)) λr2 S2 y k3 H3 kq g3 r3 e2 w3 u3=>?_
 obtain⟨k4,u4,p4,q4⟩:=qk kq r3;have q5:=(q2.up u3).up (u4 q);split at e2
 case h_2=>cases e2
 rename_i di kvs hd hg
 rw[hd] at q4;obtain⟨j,e3,e4⟩:=dB.mp e2;obtain⟨a,rfl,hb,_⟩:=Av p4 q5 hg;split at e4
 case h_2=>cases e4
 rename_i iv Bp
 have tp:Top X.K k4 H3 (.ref a) (.aN kvs):=.inr ⟨a,.aN kvs,rfl,rfl,hb⟩;obtain⟨p,o,z,g,hh⟩:=uk p4.le tp (.inl q4) e3;cases z;rcases hh with⟨_,z⟩|⟨v,d,rfl,z,rv⟩
 ·rw[Bp] at z;cases z
 rw[Bp] at z;cases z;cases rv.bu rfl;refine⟨a,_,rfl,g,tS.AN p4 (g3.up (u4 q)) e4 (w3.up (u4 q)) λr5 S5 y5 k5 H5 mH g5 q6 e5 w5 u5=>?_⟩
 obtain⟨b,e6,e7⟩:=dB.mp e5;cases Rv.j6 e6;cases(show ai X.K k5 [y5] [.int b] from q6).bu rfl;obtain⟨c,e8,e9⟩:=dB.mp e7;obtain⟨a',z,nV,K0⟩:=Av mH (q5.up u5) e8;cases z;split at e9
 case isFalse=>cases e9
 rename_i hm
 cases c with
 |lst _=>cases e9
 |aN rh=>
  dsimp only at e9;split at e9
  case isFalse=>cases e9
  rename_i hl
  cases e9;refine⟨_,_,rfl,rfl,Pj (b:=.aN rh) (dv:=.int (h iv b)) (di:=di) (b':=.aN (dW rh j (.int (h iv b)))) mH.le nV ((show eY X.K k4 y (.d di) from q4).up u5) (.flat rfl .nil) ?_ λo' h6=>?_⟩
  ·unfold ud;dsimp only;rw[e3,vL,if_pos hl]
  ·obtain⟨J4,u6⟩:=K0 q _ _ Ai hm h6;exact cv.now (cv.up w5 u6) J4 (g5.up u6)
end
end L2
namespace L2
open PySem PySem.Spec PySem.W PyProof.Rows
variable{k k':Int->Int->Bool}{op:CmpOp}{j:GJ}{T:String}{m:Str}
theorem cL.le{k k':Nat}{A:PySem.Around}(h:cL k A)(e:k'<=k:=by decide):cL k' A:=h.mono e
theorem Ax{X:Cx}:jH X W0:=λ_ _ _ _ _ _ _ _ _ _ _ z=>z.elim
def BL:List Str->Bool
 |[]=>true
 |x::l => !l.contains x && BL l
theorem Eg:∀{l:List Str},BL l=true->l.Nodup
 |[],_=>.nil
 |x::l,h=>by
  obtain⟨h1,h2⟩:=CD.mp h;rw[Bool.not_eq_true',<-Bool.not_eq_true,nN] at h1;exact sG.mpr ⟨h1,Eg h2⟩
section
variable {X:Cx} {K:Frag} {W:XW} {q:Nat} {a b c e o:Expr} {es rest:List Expr} {f g h:GE} {fs:GA} {ft fu:GT} {pos p apos bP:Pos} {x:Str}
theorem xv(i:Nat)(hN:X.N[i]?=some x:=by rfl)(hv:CS X.env.scope x:=by first|exact Or.inl rfl|exact Or.inr (Or.inl rfl)|exact Or.inr (Or.inr rfl))(hd:(x == ("__debug__":Str))=false:=by decide)(pS:(x == ("__classdict__":Str))=false:=by decide):PE X (.Name x pos) (tE K W q (aa i)):=YL (OW hN hv hd pS)
theorem xi{i:Int}{j}:PE X (.Constant (.int i) j pos) (tE K W q (gC (.int i))):=wK Yg
theorem xs{i:Str}{j}:PE X (.Constant (.str i) j pos) (tE K W q (gC (.str i))):=wK Yi
theorem xb{i:Bool}{j}:PE X (.Constant (.bool i) j pos) (tE K W q (gC (.bl i))):=wK ZX
theorem xn{j}:PE X (.Constant .none j pos) (tE K W q (gC .az)):=wK Yh
theorem yd{n:String}(hm:X.mg x=none)(hv:bootBuiltins x=some (.type n))(hg:Gl X x:=by rfl)(hn:x≠"__name__":=by decide)(hd:(x == ("__debug__":Str))=false:=by decide):PE X (.Name x pos) (tE K W q (gC (.ty n))):=wK (Γ hg hm hv hn hd)
def pC(K:Frag)(op:Operator)(o:List D->Option Rv):Prop:=∀X:Cx,X.K=K->∃r,fW X (binaryOp op) r/\cJ K (mZ r) o
theorem bK:pC K .Add (o2 sZ):=λX h=>⟨_,Xc K h,Y4⟩
theorem lW:pC K .Sub (o2 (iw sE λi j=>.int (i - j))):=λX h=>⟨_,Yv,Y5⟩
theorem kz:pC K .Mult (o2 tU):=λX h=>⟨_,Xe,Y7⟩
theorem rP:pC K .FloorDiv (o2 (iw (λ_ j=>decide (0 < j/\j < 1073741824)) λi j=>.int (i / j))):=λX h=>⟨_,Wo,Xd⟩
theorem j8:pC K .Mod (o2 (iw (λ_ j=>decide (0 < j)) λi j=>.int (i % j))):=λX h=>⟨_,Yw,Y6⟩
theorem xo{op:Operator}{o:List D->Option Rv}(c:pC K op o)(ha:PE X a (tE K W q f))(hb:PE X b (tE K W q g))(hK:X.K=K:=by rfl):PE X (.BinOp a op b pos) (tE K W q (gO o (au f g))):=by
 obtain⟨r,h1,h2⟩:=c X hK;exact Δ h1 h2 ha hb
theorem yb(ha:PE X a (tE K W q f)):PE X (.UnaryOp .USub a pos) (tE K W q (gO (o1 pZ) (ow f))):=Θ Yx Y8 ha
def kI(K:Frag)(op:CmpOp)(o:List D->Option Rv):Prop:=∀X:Cx,X.K=K->X.A.units+41 < cLine->∃r,fW X (compareOp op) r/\cJ K (mZ r) o
theorem lD:kI K .Eq (o2 (uV false)):=λX h u=>⟨_,Za K (by omega) h,Φ⟩
theorem Em:kI K .NotEq (o2 (uV true)):=λX h u=>⟨_,Y_ K (by omega) h,Ψ⟩
theorem wI:kI K .Lt (o2 (iw sE λi j=>.bl (decide (i < j)))):=λX h u=>⟨_,Z5,Il⟩
theorem Ov:kI K .LtE (o2 (iw sE λi j=>.bl (decide (i<=j)))):=λX h u=>⟨_,IF,Il⟩
theorem Ue:kI K .Gt (o2 (iw sE λi j=>.bl (decide (j < i)))):=λX h u=>⟨_,Z8,Il⟩
theorem lM:kI K .In (o2 (zt false)):=λX h u=>⟨_,Zb K u h,PK false⟩
theorem kj:kI K .NotIn (o2 (zt true)):=λX h u=>⟨_,TN K u h,PK true⟩
theorem y_:kI K .Is (o2 (zu false)):=λX h u=>⟨_,Zc,PL false⟩
theorem qN:kI K .IsNot (o2 (zu true)):=λX h u=>⟨_,Xh,PL true⟩
theorem xc{o:List D->Option Rv}(c:kI K op o)(ha:PE X a (tE K W q f))(hb:PE X b (tE K W q g))(hu:X.A.units+41 < cLine:=by assumption)(hK:X.K=K:=by rfl)(hm:behindInMarks op b=false:=by first|exact M9 _ (by decide) (by decide)|rfl):PE X (.Compare a [op] [b] pos) (tE K W q (gO o (au f g))):=by
 obtain⟨r,h1,h2⟩:=c X hK hu;exact YM h1 h2 ha hb hm
theorem yc{o:List D->Option Rv}(c:kI K op o)(ha:PE X a (tE K W q f))(hb:PE X b (tE K W q g))(hu:X.A.units+41 < cLine:=by assumption)(hK:X.K=K:=by rfl)(hm:behindInMarks op b=false:=by first|exact M9 _ (by decide) (by decide)|rfl):PT X (.Compare a [op] [b] pos) (tT K W q (gB (gO o (au f g)))):=by
 obtain⟨r,h1,h2⟩:=c X hK hu;exact PY (Wr h1 ha hb hm) λ_ _ _ t=>Es (s9 h2 t)
def Ir(c c':Int->Int->Bool)(f g h:GE):GE:=λU S=>bd (f U S) λr1 S1=>bd (g U S1) λr2 S2=>r1.int.bind λi=>r2.int.bind λj=>if c i j=true then bd (h U S2) λr3 S3=>r3.int.map λl=>.ok (rd (.bl (c' j l))) S3 else some (.ok (rd (.bl false)) S2)
theorem VI{Z:St}{H:Hp}{Q:VK}(t:tE K W q (Ir k k' f g h) Z H Q):OY (o9 λi j=>.bl (k i j)) (o9 λi j=>.bl (k' i j)) (tE K W q f) (tE K W q g) (tE K W q h) Z H Q:=by
 obtain⟨n,U,S,res,ok,gk,e,w⟩:=t;refine tX.bd ok gk e w λr1 S1 x k1 H1 bC g1 q1 e1 w1 _=>tX.bd bC g1 e1 w1 λr2 S2 y k2 H2 ee g2 q2 e2 w2 _=>?_
 obtain⟨i,h1,e3⟩:=dB.mp e2;obtain⟨j,h2,e4⟩:=dB.mp e3;cases Rv.j6 h1;cases Rv.j6 h2;cases(show ai K k1 [x] [.int i] from q1).bu rfl;cases(show ai K k2 [y] [.int j] from q2).bu rfl;refine⟨i,j,rfl,rfl,k i j,rfl,?_⟩;split at e4
 ·rename_i hk
  rw[hk];refine q8 (tX.bd ee g2 e4 w2 λr3 S3 z k3 H3 kq g3 q3 e5 w3 _=>?_)
  obtain⟨l,h3,rfl⟩:=fR.mp e5;cases Rv.j6 h3;cases(show ai K k3 [z] [.int l] from q3).bu rfl;exact⟨_,_,rfl,rfl,w3.now kq (show ai K k3 [_] [_] from .flat rfl .nil)⟩
 ·rename_i hk
  cases e4;rw[Bool.not_eq_true] at hk;rw[hk];exact qZ (w2.now ee (show ai K k2 [_] [_] from .flat rfl .nil))
theorem ych{xx:CmpOp}(h1:∀X:Cx,fW X (compareOp op) (o9 λi j=>.bl (k i j)))(h2:∀X:Cx,fW X (compareOp xx) (o9 λi j=>.bl (k' i j)))(ha:PE X a (tE K W q f))(hb:PE X b (tE K W q g))(hc:PE X c (tE K W q h))(hm:lastMarks [op,xx] [b,c]=false:=by with_unfolding_all rfl):PT X (.Compare a [op,xx] [b,c] pos) (tT K W q (gB (Ir k k' f g h))):=PY (UW (h1 X) (h2 X) ha hb hc hm) λ_ _ _ t=>VI t
theorem yt(ha:PE X a (tE K W q f))(hK:X.K=K:=by rfl)(ht:∀whole,isTrue a X.env whole=(do let v <-whole;standAt a.pos;holding [v] (truthy v)):=by intro _;rfl):PT X a (tT K W q (ec f)):=YN hK ha ht
theorem pB(h:PT X a (tT K W q ft)):PW X (.BoolOp .And [a] pos) (tT K W q ft):=Wj h
theorem sL(h:PT X a (tT K W q ft)):PW X (.BoolOp .Or [a] pos) (tT K W q ft):=Yj h
theorem aS(ha:PE X a (tE K W q f))(hb:PE X b (tE K W q g))(hu:X.A.units+41 < cLine:=by assumption)(hK:X.K=K:=by rfl)(hs:HR b:=by intro _ _;rfl):PE X (.Subscript a b pos) (tE K W q (gO (o2 aP) (au f g))):=Ξ (JP K hu hK) γ ha hb hs
theorem K3{lo hi:Option Expr}{p2:Pos}{fl fh}(he:PE X e (tE K W q f))(hl:PO X lo (tX ym K W q fl))(hu:PO X hi (tX ym K W q fh))(hK:X.K=K:=by rfl):PE X (.Subscript e (.Slice lo hi none p2) pos) (tE K W q (AJ f fl fh)):=Vr he hl hu hK
theorem zc{g:GE}{h:GA}(ha:PE X e (tE K W q g))(hr:PA X es (jv K W q h))(hs:starEach (e::es) X.env=(false,eval e X.env)::starEach es X.env:=by rfl):PA X (e::es) (jv K W q (aj g h)):=WO ha hr hs
theorem xd{keys:List (Option Expr)}{values:List Expr}{gs:List (GE×GE)}(h:yl X pos keys values (EY K W q gs))(hu:X.A.units+41 < cLine:=by assumption)(hK:X.K=K:=by rfl)(ko:keys.all (·.isSome)=true:=by rfl)(hl:keys.length=values.length:=by rfl)(h0:keys≠[]:=by exact List.cons_ne_nil _ _)(oZ:keys.length<=15:=by decide):PE X (.Dict keys values pos) (tE K W q (oU (yT gs))):=XD hK h hu ko hl h0 oZ
def CO(X:Cx)(K:Frag)(W:XW)(q:Nat)(es:List Expr)(j:GJ):Prop:=∃tj,PJ X es tj/\∀bA Z H Q,tX RS K W q (j bA) Z H Q->tj bA Z H Q
theorem jn:CO X K W q [] lj:=⟨_,Zl,λ_ _ _ _ t=>XF t⟩
theorem jc(he:PE X e (tE K W q f))(hr:CO X K W q es j):CO X K W q (e::es) (mY f j):=by
 obtain⟨tj,h1,h2⟩:=hr;exact⟨_,XE he h1,λ_ _ _ _ t=>VG h2 t⟩
theorem xj{v1 v2:Expr}(h:CO X K W q (v1::v2::rest) j):PE X (.JoinedStr (v1::v2::rest) pos) (tE K W q (wc j)):=by
 obtain⟨tj,h1,h2⟩:=h;exact T9 h1 h2
def rZ(K:Frag)(v:Value)(o:List D->Option Rv):Prop:=∀X:Cx,X.K=K->X.calm=true->X.A.units+41 < cLine->∃r,bU X v r/\cJ K r o
theorem jO:rZ K (.builtin "len") (o1 iy):=λX h c u=>⟨_,T1 h,Ze⟩
theorem oB:rZ K (.builtin "isinstance") (o2 i9):=λX h c u=>⟨_,T2 h,Zf⟩
theorem JQ:rZ K (.builtin "all") (o1 (Ee λbs=>bs.all id)):=λX h c u=>⟨_,TV K c h,Vz _⟩
theorem BA:rZ K (.builtin "min") (o1 (nz fQ)):=λX h c u=>⟨_,Vs K c h,Xx _⟩
theorem vg:rZ K (.builtin "sorted") (o1 nI):=λX h c u=>⟨_,SD c h,Xy⟩
theorem q9:rZ K (.type "list") (o1 mi):=λX h c u=>⟨_,SA c h,Xv⟩
theorem By:rZ K (.type "dict") (o1 oS):=λX h c u=>⟨_,Sw K u c h,VA⟩
theorem xB{id:String}{o:List D->Option Rv}(k:rZ K (.builtin id) o)(hm:X.mg x=none)(hv:bootBuiltins x=some (.builtin id))(ha:PA X (e::es) (jv K W q fs))(hu:X.A.units+41 < cLine:=by assumption)(hc:X.calm=true:=by rfl)(hK:X.K=K:=by rfl)(hg:Gl X x:=by rfl)(hn:x≠"__name__":=by decide)(mD:(x == ("__debug__":Str))=false:=by decide)
  (he:starEach (e::es) X.env=(false,eval e X.env)::starEach es X.env:=by rfl) (kE:(backTo pos (starEach es X.env)).any (·.1)=false:=by rfl):PE X (.Call (.Name x p) (e::es) [] pos) (tE K W q (gO o fs)):=by
 obtain⟨r,h1,h2⟩:=k X hK hc hu;exact(U4 h1 hg hm hv ha hn mD he kE).mono λ_ _ _ t=>s9 h2 t
theorem xT{o:List D->Option Rv}(k:rZ K (.type T) o)(hm:X.mg x=none)(hv:bootBuiltins x=some (.type T))(ha:PA X (e::es) (jv K W q fs))(hu:X.A.units+41 < cLine:=by assumption)(hc:X.calm=true:=by rfl)(hK:X.K=K:=by rfl)(hg:Gl X x:=by rfl)(hn:x≠"__name__":=by decide)(mD:(x == ("__debug__":Str))=false:=by decide)
  (he:starEach (e::es) X.env=(false,eval e X.env)::starEach es X.env:=by rfl) (kE:(backTo pos (starEach es X.env)).any (·.1)=false:=by rfl):PE X (.Call (.Name x p) (e::es) [] pos) (tE K W q (gO o fs)):=by
 obtain⟨r,h1,h2⟩:=k X hK hc hu;exact(Tg h1 hg hm hv ha hn mD he kE).mono λ_ _ _ t=>s9 h2 t
def Fj(K:Frag)(T:String)(m:Str)(o:List D->Option Rv):Prop:=∀X:Cx,X.K=K->X.A.units+41 < cLine->∃id r,PlainAttrs T/\Slot T m id/\typeOf (.builtin id)=pure (.type "method_descriptor")/\Fl X id r/\cJ K (o_ r) o
theorem Zo:Fj K "list" "index" (o2 b_):=λX h u=>⟨_,_,PySem.F.plainAttrs_list,PySem.F.slot_list_index,PySem.F.type_list_index,Vt K h,VC⟩
theorem BE:Fj K "dict" "get" (o2 oX):=λX h u=>⟨_,_,PySem.F.plainAttrs_dict,PySem.F.slot_dict_get,PySem.F.type_dict_get,Xk K u h,Xz⟩
theorem xM{o':List D->Option Rv}(k:Fj K T m o')(ho:PE X o (tE K W q f))(ha:PA X (e::es) (jv K W q fs))(hu:X.A.units+41 < cLine:=by assumption)(hK:X.K=K:=by rfl)
  (gX:attributeBase o m X.env (eval o X.env)=eval o X.env:=by rfl)
  (qS:((backTo bP (starEach (e::es) X.env)).all (λx => !x.1) && (backToKw bP (keywordEach [] X.env)).all (λx=>x.1.isSome)
   && decide ((e::es).length+([]:List Keyword).length+(if([]:List Keyword).isEmpty then 0 else 1) < 30))=true:=by rfl)
  (gY:(apos.endLine == bP.line)=true:=by rfl) (hs:starEach (e::es) X.env=(false,eval e X.env)::starEach es X.env:=by rfl) (lq:(backTo bP (starEach es X.env)).any (·.1)=false:=by rfl):PE X (.Call (.Attribute o m apos) (e::es) [] bP) (tE K W q (Ef T o' f fs)):=by
 subst hK;obtain⟨id,r,h1,h2,h3,h4,h5⟩:=k X rfl hu;exact(PF h1 h2 h3 h4 ho ha gX qS gY hs lq).mono λ_ _ _ t=>VB h5 t
def zR(K:Frag)(T:String)(m:Str)(o:Bx->List D->Option (Bx×D)):Prop:=∀X:Cx,X.K=K->∃id r,PlainAttrs T/\Slot T m id/\typeOf (.builtin id)=pure (.type "method_descriptor")/\Fl X id r/\l4 K r o
theorem wd:zR K "list" "append" sj:=λX h=>⟨_,_,PySem.F.plainAttrs_list,PySem.F.slot_list_append,PySem.F.type_list_append,Th,T3⟩
theorem Oo:zR K "list" "insert" Aw:=λX h=>⟨_,_,PySem.F.plainAttrs_list,PySem.F.slot_list_insert,PySem.F.type_list_insert,Tp,T4⟩
theorem XI:zR K "list" "remove" DU:=λX h=>⟨_,_,PySem.F.plainAttrs_list,PySem.F.slot_list_remove,PySem.F.type_list_remove,TX,T7⟩
theorem rO:zR K "dict" "pop" mj:=λX h=>⟨_,_,PySem.F.plainAttrs_dict,PySem.F.slot_dict_pop,PySem.F.type_dict_pop,Xj K,XA⟩
theorem xU{o':Bx->List D->Option (Bx×D)}(k:zR K T m o')(ho:PE X o (tE K W q f))(ha:PA X (e::es) (jv K W q fs))(hK:X.K=K:=by rfl)
  (gX:attributeBase o m X.env (eval o X.env)=eval o X.env:=by rfl)
  (qS:((backTo bP (starEach (e::es) X.env)).all (λx => !x.1) && (backToKw bP (keywordEach [] X.env)).all (λx=>x.1.isSome)
   && decide ((e::es).length+([]:List Keyword).length+(if([]:List Keyword).isEmpty then 0 else 1) < 30))=true:=by rfl)
  (gY:(apos.endLine == bP.line)=true:=by rfl) (hs:starEach (e::es) X.env=(false,eval e X.env)::starEach es X.env:=by rfl) (lq:(backTo bP (starEach es X.env)).any (·.1)=false:=by rfl):PE X (.Call (.Attribute o m apos) (e::es) [] bP) (tE K W q (jt q T o' f fs)):=by
 subst hK;obtain⟨id,r,h1,h2,h3,h4,h5⟩:=k X rfl;exact(PF h1 h2 h3 h4 ho ha gX qS gY hs lq).mono λ_ _ _ t=>Zh h5 t
theorem xf{cg:List (Addr×Str)}(ha:kH K cg)(he:PE X e (tE K W q f))(hb:attributeBase e m X.env (eval e X.env)=eval e X.env:=by rfl)(hK:X.K=K:=by rfl):PE X (.Attribute e m pos) (tE K W q (bB cg m f)):=Zm ha he hb hK
end
section
variable {X:Cx} {K:Frag} {W:XW} {q k n:Nat} {e o:Expr} {es:List Expr} {f:GE} {fs:GA} {m:GM} {pos p apos:Pos} {x y:Str} {st:Stmt} {fa C:Addr} {fd:FuncData} {ps:List Str}
theorem xC(D:ba K X.mg x st fa fd ps)(F:aQ X.prog X.w X.K X.mg X.base (cO X.prog X.w) k fa fd ps (c_ K q n m))(ha:PA X (e::es) (jv K W q fs))(hr:cL k X.A:=by exact cL.le (by assumption))(hm:kb m n:=by exact Dm)(hp:jH X W:=by first|exact Au|assumption|exact Ax)(hK:X.K=K:=by rfl)(hg:Gl X x:=by rfl)(mD:(x == ("__debug__":Str))=false:=by decide)
  (he:starEach (e::es) X.env=(false,eval e X.env)::starEach es X.env:=by rfl) (kE:(backTo pos (starEach es X.env)).any (·.1)=false:=by rfl):PE X (.Call (.Name x p) (e::es) [] pos) (tE K W q (aA m fs)):=by
 subst hK;exact(Ww F hr hg D.mg D.fn.kp D.bd .nil (o7 hp) ha mD he kE).mono λ_ _ _ t=>WS hm t
theorem xN(M:Mk K C fa)(hx:X.mg x=some (.ref C))(B:Binds K fd ps [])(F:aQ X.prog X.w X.K X.mg X.base (cO X.prog X.w) k fa fd ps (c_ K q n m))(ha:PA X (e::es) (jv K W q fs))(hr:cL (k+1) X.A:=by exact cL.le (by assumption))(hm:kb m n:=by exact Dm)(hp:jH X W:=by first|exact Au|assumption|exact Ax)(hK:X.K=K:=by rfl)(hg:Gl X x:=by rfl)(mD:(x == ("__debug__":Str))=false:=by decide)
  (he:starEach (e::es) X.env=(false,eval e X.env)::starEach es X.env:=by rfl) (kE:(backTo pos (starEach es X.env)).any (·.1)=false:=by rfl):PE X (.Call (.Name x p) (e::es) [] pos) (tE K W q (oV C m fs)):=by
 subst hK;exact(Wz M F hr hg hx B .nil (o7 hp) ha mD he kE).mono λ_ _ _ t=>WT hm t
end
structure MethAt (K:Frag) (C:Addr) (m qual:Str) (st:Stmt) (f:Addr) (fd:FuncData) (ps:List Str):Prop where
 fn:dh K m qual st f fd
 mt:Meth K C m f
 bd:Binds K fd ps []
section
variable {X:Cx} {K:Frag} {W:XW} {q k n:Nat} {e o:Expr} {es:List Expr} {f:GE} {fs:GA} {m:GM} {pos p apos:Pos} {x y:Str} {st:Stmt} {fa C:Addr} {fd:FuncData} {ps:List Str} {pl:Sem Bool}
theorem xH(c:nO K C)(D:MethAt K C x y st fa fd ps)(F:aQ X.prog X.w X.K X.mg X.base (cO X.prog X.w) k fa fd ps (c_ K q n m))(ho:PE X o (tE K W q f))(ha:PA X (e::es) (jv K W q fs))(hr:cL k X.A:=by exact cL.le (by assumption))(hm:kb m n:=by exact Dm)(hp:jH X W:=by first|exact Au|assumption|exact Ax)(hK:X.K=K:=by rfl)
  (oA:starEach (e::es) X.env=(false,eval e X.env)::starEach es X.env:=by rfl) (kE:(backTo pos (starEach es X.env)).any (·.1)=false:=by rfl)
  (ht:eval (.Call (.Attribute o x apos) (e::es) [] pos) X.env=(do
   let ov <-eval o X.env
   standAt apos.atName
   let (f,first) <-holding [ov] (getMethod ov x pl)
   callWith pos f first (backTo pos (starEach (e::es) X.env)) (backToKw pos (keywordEach [] X.env))):=by rfl):PE X (.Call (.Attribute o x apos) (e::es) [] pos) (tE K W q (aW C x m f fs)):=by
 subst hK;exact(Wx ho c D.mt F hr D.bd .nil (o7 hp) ha oA kE ht).mono λ_ _ _ t=>N2 hm t
theorem mT(c:nO K C)(D:MethAt K C x y st fa fd ps)(F:aQ X.prog X.w X.K X.mg X.base (cO X.prog X.w) k fa fd ps (c_ K q n m))(ho:PE X o (tE K W q f))(hr:cL k X.A:=by exact cL.le (by assumption))(hm:kb m n:=by exact Dm)(hp:jH X W:=by first|exact Au|assumption|exact Ax)(hK:X.K=K:=by rfl)
  (ht:eval (.Call (.Attribute o x apos) [] [] pos) X.env=(do
   let ov <-eval o X.env
   standAt apos.atName
   let (f,first) <-holding [ov] (getMethod ov x pl)
   callWith pos f first (backTo pos (starEach [] X.env)) (backToKw pos (keywordEach [] X.env))):=by rfl):PE X (.Call (.Attribute o x apos) [] [] pos) (tE K W q (aW C x m f gN)):=by
 subst hK;refine(U0 ho c D.mt F hr D.bd .nil (o7 hp) ht).mono λZ H Q t=>?_
 refine oa (N2 hm t) λz H1 h=>?_
 obtain⟨a,dx,fs,h1,h2,h3,h4⟩:=h;exact⟨a,dx,fs,h1,h2,h3,yY h4⟩
end
end L2
namespace L2
open PySem PySem.Spec PySem.W PyProof.Rows
section
variable {X:Cx} {K:Frag} {W:XW} {q:Nat} {a b c e o l tg:Expr} {es:List Expr} {f g:GE} {fz:Bool} {pos p apos bP:Pos}
theorem xLV(JE:X.mg "list"=none)(ho:PE X o (tE K W q f))(hc:X.calm=true:=by rfl)(Jw:Gl X "list":=by rfl)(hs:starEach [.Call (.Attribute o "values" apos) [] [] bP] X.env=[(false,eval (.Call (.Attribute o "values" apos) [] [] bP) X.env)]:=by rfl)
  (gX:attributeBase o "values" X.env (eval o X.env)=eval o X.env:=by rfl) (gY:(apos.endLine == bP.line)=true:=by rfl):PE X (.Call (.Name "list" p) [.Call (.Attribute o "values" apos) [] [] bP] [] pos) (tE K W q (gO (o1 ph) (ow f))):=(Vo Jw JE ho hc hs gX gY).mono λZ H Q t=>IT (oa (s9 Xw t) λxs H1 h=>by
 obtain⟨d,es,ep,rfl,h⟩:=h;exact⟨_,rfl,d,es,ep,rfl,h⟩)
theorem cN(i:Nat){x:Str}(hN:BL X.N=true:=by kernel_rfl)(hi:X.N[i]?=some x:=by rfl)(hx:Loc X.env.scope x:=by first|exact Or.inl rfl|exact Or.inr rfl)(hf:X.fn x=true\/X.env.scope.names.lookup x=some .local := by first|exact .inl rfl|exact .inr rfl):PG X (.Name x pos) (oW i):=Wl (Eg hN) hi hx hf
theorem qp{es:List Expr}{k:Nat}{t:r6}{n:Nat}(h:zU X es t)(hn:(assignEach es X.env).length=n:=by rfl)(oA:(assignEach es X.env).findIdx? (·.1)=none:=by rfl)(hc:X.calm=true:=by rfl)(hK:X.K=K:=by rfl):PG X (.Tuple es k pos) (wR K n t):=hK ▸ Yo hc h hn oA
def uz(X:Cx)(K:Frag)(W:XW)(q:Nat)(tg iter:Expr)(src:mv):Prop:=∃wi,PI X tg iter wi/\∀Z H R,tX (RI K q) K W q src Z H R->wi Z H R
theorem sA(he:PE X l (tE K W q g))(hK:X.K=K:=by rfl):uz X K W q tg l (bS fz i_ g):=⟨_,YX he,λ_ _ _ t=>by rw[hK];exact YY t⟩
theorem Kq(hm:X.mg "reversed"=none)(he:PE X l (tE K W q g))(hK:X.K=K:=by rfl)(hg:Gl X "reversed":=by rfl)(hs:starEach [l] X.env=[(false,eval l X.env)]:=by rfl):uz X K W q tg (.Call (.Name "reversed" p) [l] [] pos) (bS fz xR g):=⟨_,YS hg hm (DJ he mK (by rw[hs,starEach])) hs,λ_ _ _ t=>by rw[hK];exact W4 t⟩
theorem sEn{elts:List Expr}{x1:Nat}{iz:Pos}(hm:X.mg "enumerate"=none)(he:PE X l (tE K W q g))(hK:X.K=K:=by rfl)(hg:Gl X "enumerate":=by rfl)(hs:starEach [l] X.env=[(false,eval l X.env)]:=by rfl):uz X K W q (.Tuple elts x1 iz) (.Call (.Name "enumerate" p) [l] [] pos) (bS fz IU g):=⟨_,WX hg hm (DJ he mK (by rw[hs,starEach])) hs,λ_ _ _ t=>by rw[hK];exact YZ t⟩
theorem sI{elts:List Expr}{x1:Nat}{iz:Pos}(ho:PE X o (tE K W q g))(gX:attributeBase o "items" X.env (eval o X.env)=eval o X.env:=by rfl)(gY:(apos.endLine == bP.line)=true:=by rfl):uz X K W q (.Tuple elts x1 iz) (.Call (.Attribute o "items" apos) [] [] bP) (bS fz tN g):=⟨_,Vp ho gX gY,λ_ _ _ t=>Xt t⟩
theorem ua{fs:GA}(hm:X.mg "range"=none)(ha:PA X [a] (jv K W q fs))(hg:Gl X "range":=by rfl)(hs:starEach [a] X.env=[(false,eval a X.env)]:=by rfl):uz X K W q tg (.Call (.Name "range" p) [a] [] pos) (j5 j7 fs):=⟨_,S9 hg hm ha hs,λ_ _ _ t=>W5 t⟩
theorem yn:qB X [] (tT K W0 q (mh true)):=λae s Z H Q I t=>WH ae s Z H Q I (by
 obtain⟨k,U,S,res,ok,gk,e,w⟩:=t;cases e;exact w.now ok rfl)
theorem y1{ft:GT}(h:PT X c (tT K W0 q ft)):qB X [c] (tT K W0 q ft):=WI h
end
variable{x g:Str}{mu:Bool}{cg:List (Addr×Str)}{mg:Str->Option Value}{tab:List (Str×Addr)}{B0 C:Addr}
section
variable {X:Cx} {K:Frag} {W:XW} {q:Nat} {tg iter elt:Expr} {ifs:List Expr} {scope:Scope} {t:TG} {gg:GG} {tt:Nat->GT} {te:Nat->GE} {src:mv} {pos:Pos} {M:List Str} {n:Nat} {e_:List Nat}
theorem Ow(h:Ar scope.names X.env.scope.names X.N M n e_=true)(hk:scope.kind=.function):f9 X scope M n e_:=.of _ _ h rfl rfl hk
theorem xL(M:List Str)(s:uz X K W q tg iter src)(ht:kU K t gg)(hg:∀C s H fp,PG (iu X scope M C s H fp) tg t)(hT:∀m C s H fp,qB (iu X scope M C s H fp) ifs (tT K W0 m (tt m)))(hE:∀m C s H fp,PE (iu X scope M C s H fp) elt (tE K W0 m (te m)))
  (ok:Ar scope.names X.env.scope.names X.N M n e_=true:=by kernel_rfl) (hk:scope.kind=.function:=by rfl) (hc:X.calm=true:=by rfl) (hs:∀x,foldedSetIterable iter X.env x=pure x:=by intro _;rfl):PE X (.ListComp elt [⟨tg,iter,ifs,0⟩] scope pos) (tE K W q (cY q src gg tt te n e_)):=by
 obtain⟨wi,h1,h2⟩:=s;exact W7 hc (Ow ok hk) h1 h2 ht hg hT hE hs
theorem wL{i:Nat}{px nJ:Pos}(M:List Str)(s:uz X K W q tg iter src)(ht:kU K t gg)(hg:∀C s H fp,PG (iu X scope M C s H fp) tg t)(hT:∀m C s H fp,qB (iu X scope M C s H fp) ifs (tT K W0 m (tt m)))(hE:∀m C s H fp,PE (iu X scope M C s H fp) elt (tE K W0 m (te m)))
  (ok:Ar scope.names X.env.scope.names X.N M n e_=true:=by kernel_rfl) (hN:BL X.N=true:=by kernel_rfl) (hk:scope.kind=.function:=by rfl) (wW:X.N[i]?=some x:=by rfl) (hx:Loc X.env.scope x:=by first|exact Or.inl rfl|exact Or.inr rfl) (hc:X.calm=true:=by rfl) (Bo:swapsWith (.ListComp elt [⟨tg,iter,ifs,0⟩] scope pos) (some (.Name x px)) nJ.line X.env=pure true:=by rfl) (hs:∀x,foldedSetIterable iter X.env x=pure x:=by intro _;rfl) (hf:X.fn x=true\/X.env.scope.names.lookup x=some .local := by first|exact Or.inl rfl|exact Or.inr rfl) :
  PS X (.Assign [.Name x px] (.ListComp elt [⟨tg,iter,ifs,0⟩] scope pos) nJ) (tS K W q (ay i mu (cY q src gg tt te n e_))):=by
 obtain⟨wi,h1,h2⟩:=s;exact W8 hc (Ow ok hk) (Eg hN) wW hx h1 h2 ht hg hT hE Bo hs hf
end
section
variable {X:Cx} {K:Frag} {W:XW} {q:Nat} {tg iter e o i value:Expr} {body:List Stmt} {t:TG} {gg:GG} {src:mv} {pos pos' iz:Pos} {f fv fo fi fe:GE} {x:Str}
theorem wF{fb:Nat->GS}(s:uz X K W q tg iter src)(ht:kU K t gg)(hg:PG X tg t)(hb:∀n,cA X body (tS K W n (fb n)))(hp:PassesOwn (model X.prog X.w) X.A X.env X.xe:=by exact PH)(hc:X.calm=true:=by rfl)(hs:∀x,foldedSetIterable iter X.env x=pure x:=by intro _;rfl):PS X (.For tg iter body [] pos) (tS K W q (bQ q src gg fb)):=by
 obtain⟨wi,h1,h2⟩:=s;exact Y0 hp hc h1 h2 hg ht hb hs
theorem wS{i:Nat}(he:PE X e (tE K W q f))(hN:BL X.N=true:=by kernel_rfl)(hi:X.N[i]?=some x:=by rfl)(hx:Loc X.env.scope x:=by first|exact Or.inl rfl|exact Or.inr rfl)(hs:swapsWith e (some (.Name x pos')) pos.line X.env=pure false:=by rfl)(hf:X.fn x=true\/X.env.scope.names.lookup x=some .local := by first|exact Or.inl rfl|exact Or.inr rfl):PS X (.Assign [.Name x pos'] e pos) (tS K W q (ay i mu f)):=YR (Eg hN) hi hx he hs hf
theorem wE(he:PE X e (tE K W q f))(hs:swapsWith e none pos.line X.env=pure false:=by rfl):PS X (.Expr e pos) (tS K W q (hG f)):=WU he hs
theorem wP(he:PE X e (tE K W q fv))(ho:PE X o (tE K W q fo))(hi:PE X i (tE K W q fi))(hu:X.A.units+41 < cLine:=by assumption)(hK:X.K=K:=by rfl)
  (ha:∀v,assign (.Subscript o i pos') X.env v=(do
   let ov <-holding [v] (eval o X.env)
   let iv <-holding [v,ov] (eval i X.env)
   standAt pos'
   holding [v,ov,iv] (setItem ov iv v)
   release [v,ov,iv] []):=by intro _;rfl)
  (hs:swapsWithSole [.Subscript o i pos'] e pos.line X.env=pure false:=by rfl) (hw:swappedStores [.Subscript o i pos'] e X.env=pure none:=by rfl)
  (h1:(assignEach [.Subscript o i pos'] X.env).map (·.2)=[assign (.Subscript o i pos') X.env]:=by rfl):PS X (.Assign [.Subscript o i pos'] e pos) (tS K W q (dU q fv fo fi)):=Zj he ho hi hu hK ha hs hw h1
theorem wA(ha:kH K cg)(ho:PE X o (tE K W q fo))(hv:PE X value (tE K W q fv))(hs:swapsWith value (some (.Attribute o g pos')) pos.line X.env=pure false:=by rfl)(hK:X.K=K:=by rfl):PS X (.Assign [.Attribute o g pos'] value pos) (tS K W q (iq q cg g fv fo)):=Zn ha ho hv hs hK
theorem wAI(ha:kH K cg)(ho:PE X o (tE K W q fo))(hv:PE X value (tE K W q fe))(hK:X.K=K:=by rfl):PS X (.AugAssign (.Attribute o g iz) .Add value pos) (tS K W q (Ip q (λi j=>i+j) cg g fo fe)):=XG (λae s Z H x y v u Q I r1 r2 h=>YB ae s Z H x y v u Q I r1 r2 (by
 obtain⟨i,j,rfl,rfl,h⟩:=h;exact⟨i,j,rfl,rfl,h⟩)) ha ho hv hK
theorem wAD{op:Operator}{h:Int->Int->Int}(w_:∀X:Cx,CN X op (JM h))(ho:PE X o (tE K W q fo))(hi:PE X i (tE K W q fi))(hv:PE X value (tE K W q fe))(hu:X.A.units+41 < cLine:=by assumption)(hK:X.K=K:=by rfl)
  (ha:∀ov iv new,augStore i ov iv new=(do holding [new,ov,iv] (setItem ov iv new);release [new,ov,iv] [];pure .next):=by intro _ _ _;rfl):PS X (.AugAssign (.Subscript o i iz) op value pos) (tS K W q (Iq q h fo fi fe)):=XH (w_ X) ho hi hv hu hK ha
structure pD (K:Frag) (mg:Str->Option Value) (tab:List (Str×Addr)) (B0:Addr):Prop where
 all:∀p∈tab,mg p.1=some (.ref p.2)/\lH K p.2 (.ref B0::qm) none/\keepIn K (.ref p.2)=true
 G0:lH K B0 qm none
 mg0:mg "CarryError"=some (.ref B0)
theorem pD.ix(E:pD K mg tab B0){i:Nat}{n:Str}(h:tab[i]?=some (n,C)):mg n=some (.ref C)/\lH K C (.ref B0::qm) none/\keepIn K (.ref C)=true:=E.all (n,C) (rR h)
theorem wX{p cp:Pos}(j:Nat)(E:pD K X.mg tab B0)(he:PE X e (tE K W q fe))(hp:jH X W:=by first|exact Au|assumption|exact Ax)(hj:tab[j]?=some (x,C):=by rfl)(hc:X.calm=true:=by rfl)(hg:Gl X x:=by rfl)(mD:(x == ("__debug__":Str))=false:=by decide)
  (oA:starEach [e] X.env=(false,eval e X.env)::starEach [] X.env:=by rfl) (hK:X.K=K:=by rfl):PS X (.Raise (some (.Call (.Name x p) [e] [] cp)) none pos) (tS K W q (nR C fe)):=by
 obtain⟨h1,h2,h4⟩:=E.ix hj;exact Vl h2 E.G0 h4 h1 hp he hc hg mD oA hK
end
theorem XJ{P:Program}{w:World}{K:Frag}{base:Heap}{k:Nat}{f:Addr}{fd:FuncData}{m:GM}(F:aQ P w K mg base (cO P w) k f fd [x] (c_ K 0 1 m)){n:Nat}(h:∀ns:List Int,ns.length<=n->∃S,m [.d (.lst (ns.map D.int))] ⟨[],[]⟩=some (.ok (.v (.d (.bl true))) S)):
  aQ P w K mg base (cO P w) k f fd [x] (λvs H Q _=>∃(a:Addr) (ns:List Int),vs=[.ref a]/\dY K H a (ns.map V.int)/\ns.length<=n/\∀H',Q (.bl true) H'):=⟨λvs H Q E h=>by obtain⟨a,ns,rfl,_⟩:=h;rfl,λA outer s H args us vs Q E hr e0 hb r hq=>by
 obtain⟨a,ns,rfl,hs,hl,q⟩:=hq;obtain⟨S,e⟩:=h ns hl;refine F.run A outer s H args us [.ref a] Q E hr e0 hb r ⟨rfl,⟨H,[],[]⟩,[.d (.lst (ns.map D.int))],⟨[],[]⟩,_,⟨aB.refl _,.nil,⟨rfl,λ_ _ _ z=>nomatch z⟩,⟨rfl,λ_ _ _ z=>nomatch z⟩⟩,.cons (show ai K ⟨H,[],[]⟩ [.ref a] [.lst (ns.map D.int)] from .lst hs ?_ .nil) .nil,e,λv k' H' u ok r'=>?_⟩
 ·exact Ve ns
 ·cases(show ai K k' [v] [.bl true] from r').bu rfl;exact q H'⟩
end L2
namespace L2
open PySem PySem.Spec PySem.W PyProof.Rows
variable{K:Frag}
theorem aZ{N P:List Str}{sc:Scope}(h1:sc.kind=.function:=by rfl)(h2:sc.isCoroutine=false:=by rfl)(h3:sc.isGenerator=false:=by rfl)(h4:N.Nodup:=by decide +kernel)(h5:N.take P.length=P:=by rfl)(h6:∀x∈P,sc.names.lookup x=some .local \/ sc.names.lookup x=some .cell:=by decide +kernel)(h7:∀y∈sc.names,y.2≠.free:=by decide +kernel):aw N P sc:=⟨h1,h2,h3,h4,h5,h6,h7⟩
theorem dZ{A:PySem.Around}{k:Nat}(hr:cL k A):A.units+41 < PySem.cLine:=Nat.lt_of_le_of_lt (Nat.add_le_add_left (by decide:41<=64) _) hr.units
section
variable {X:Cx} {K:Frag} {W:XW} {q:Nat} {pos:Pos} {x:Str}
theorem xk{z:Str}(hm:∃t,X.mg x=some (.str z t))(hg:Gl X x:=by rfl)(hd:(x == ("__debug__":Str))=false:=by decide):PE X (.Name x pos) (tE K W q (gC (.str z))):=wK (v:=.str z) (by
 intro ae s Z H Q I h;obtain⟨t,hm⟩:=hm;exact Ap I hg hm ⟨.str z,H,I,⟨t,rfl⟩,h⟩ hd)
theorem xki{n:Int}(hm:∃t,X.mg x=some (.int n t))(hg:Gl X x:=by rfl)(hd:(x == ("__debug__":Str))=false:=by decide):PE X (.Name x pos) (tE K W q (gC (.int n))):=wK (v:=.int n) (by
 intro ae s Z H Q I h;obtain⟨t,hm⟩:=hm;exact Ap I hg hm ⟨.int n,H,I,⟨t,rfl⟩,h⟩ hd)
end
def rm:D->D->Option Rv
 |.int i,.int j=>some (rd (.int (if j > i then j else i)))
 |_,_=>none
theorem Bz:rZ K (.builtin "max") (o2 rm):=λX h c u=>⟨_,Tb c,rB λk H x z a b y Q le t1 t2 e res=>by
 unfold rm at e;split at e
 ·cases e;cases t1.flat rfl;cases t2.flat rfl;exact⟨_,_,rfl,res.flat le rfl⟩
 ·cases e⟩
abbrev bJ:=o2 sZ
abbrev lK:=o2 (iw sE λi j=>.int (i - j))
abbrev kh:=o2 tU
abbrev qL:=o2 (iw (λ_ j=>decide (0 < j/\j < 1073741824)) λi j=>.int (i / j))
abbrev jX:=o2 (iw (λ_ j=>decide (0 < j)) λi j=>.int (i % j))
abbrev lF:=o2 (uV false)
abbrev ER:=o2 (uV true)
abbrev iLt:Int->Int->Bool:=λi j=>decide (i < j)
abbrev JL:Int->Int->Bool:=λi j=>decide (i<=j)
abbrev iGt:Int->Int->Bool:=λi j=>decide (j < i)
abbrev Br:Int->Int->Int:=λi j=>i+j
abbrev xG:=o2 (iw sE λi j=>.bl (iLt i j))
abbrev Qz:=o2 (iw sE λi j=>.bl (JL i j))
abbrev qGt:=o2 (iw sE λi j=>.bl (iGt i j))
abbrev lT:=o2 (zt false)
abbrev ku:=o2 (zt true)
abbrev zy:=o2 (zu false)
abbrev rG:=o2 (zu true)
abbrev Kg:List Bool->Bool:=λbs=>bs.all id
def Pm(e:DictEntry):Bool:=match e.key with|.str _ _=>true|_=>false
theorem errC_mk{C:Addr}{bm:List Value}{EL:Option Value}{nm q:Str}{N:Addr}{bs:List Value}{sn:List Str}{sub:List Value}{ab:Bool}{col:Option Bool}{dd:Option Addr}{k0 k1 k2 k3 k5:Option Value}{on:Value}{BR:Option Addr}{es:Array DictEntry}{ep:Nat}{B_:Array (Option Value)}
  (l:K.lookup C=some (excClassObj nm q C N bs bm true sn sub ab col dd k0 k1 k2 k3 k5 "ValueError.__new__")) (d:K.lookup N=some ⟨on,BR,.dict es ep,B_⟩) (s:es.toList.all Pm=true) (i:nsFind es "__init__"=EL):lH K C bm EL:=by
 refine⟨_,_,_,_,_,_,_,_,_,_,_,_,_,_,_,_,_,_,_,l,d,λe he=>?_,i⟩
 have:=pA.1 s e (K6.2 he);unfold Pm at this;split at this
 ·exact⟨_,_,by assumption⟩
 ·cases this
end L2
namespace L2
open PySem Lean Meta
variable{s:List Cell}{z:List D}
def qO(e:Lean.Expr)(i:Nat)(k:Lean.Expr->Option (Lean.Expr×Bool)):SimpM Simp.Step:=do
 let a:=e.getAppArgs
 let r0 <-Simp.simp a[i]!
 let x:=(<-instantiateMVars r0.expr).cleanupAnnotations.headBeta
 let pr <-match r0.proof? with
  |none=>pure none
  |some p=>pure (some (<-mkCongrArg (.lam `z (<-inferType a[i]!) (mkAppN e.getAppFn (a.set! i (.bvar 0))) .default) p))
 match k x with
 |some (y,true)=>return .visit { expr:=y.headBeta,proof?:=pr}
 |some (y,false)=>return .done { expr:=y.headBeta,proof?:=pr}
 |none=>return .done { expr:=mkAppN e.getAppFn (a.set! i x),proof?:=pr}
def isOk(x:Lean.Expr):Option (Lean.Expr×Lean.Expr):=if x.isAppOfArity ``Option.some 2 && x.appArg!.isAppOfArity ``Rs.ok 3 then some (x.appArg!.appFn!.appArg!,x.appArg!.appArg!) else none
def A1(n:Name):Bool:=(n.getRoot == `L2 && !(#[``eL,``findS,``ir,``jr,``lr,``om,``i9,``aX.cut,``bw,``aY,``dW,``iW,``nF,``f6,``o8,``ie,``gF,``fQ,``aE,``aV,``eJ,``bd,``lL,``s_,``b_,``Cell.lE,``runM].contains n)) || (n.getRoot == `List && n != ``List.toArray) || n.getRoot == `Option || n.getRoot == `Prod || n.getRoot == `GetElem? || n.getRoot == `OfNat || n.getRoot == `Nat || n.getRoot == `BEq || n == ``ite || n == ``dite || n.getRoot == `Bool || n.getRoot == `Decidable || n == ``and || n == ``or || n == ``not || n.getRoot == `id || n.getRoot == `HAppend || n.getRoot == `Append || n.getRoot == `instHAppendOfAppend
def Zp(e:Lean.Expr):MetaM Lean.Expr:=withCanUnfoldPred (λ_ c=>return A1 c.name || c.name.isInternal || (<-isInstance c.name) || (<-isMatcher c.name)) (withDefault (whnf e))
def Zq(e:Lean.Expr):MetaM Bool:=do
 if e.isFVar || e.isLit then return true
 let .const n _:=e.getAppFn|return false
 if n == ``OfNat.ofNat then return true
 if n == ``Nat.succ then return false
 return (<-getEnv).isConstructor n
simproc_decl ev (_):=λe=>do
 let .const n ls:=e.getAppFn|return .continue
 let a:=e.getAppArgs
 if n == ``Option.bind && a.size == 4 then
  return <-qO e 2 λx=>if x.isAppOfArity ``Option.some 2 then some (mkApp a[3]! x.appArg!,true) else if x.isAppOfArity ``Option.none 1 then some (mkApp (.const ``Option.none (ls.drop 1)) a[1]!,false) else none
 if n == ``Option.map && a.size == 4 then
  return <-qO e 3 λx=>if x.isAppOfArity ``Option.some 2 then some (mkApp2 (.const ``Option.some (ls.drop 1)) a[1]! (mkApp a[2]! x.appArg!).headBeta,true) else if x.isAppOfArity ``Option.none 1 then some (mkApp (.const ``Option.none (ls.drop 1)) a[1]!,false) else none
 if(n == ``bd || n == ``s_ || n == ``lL) && a.size == 4 then
  return <-qO e 2 λx=>match isOk x with
   |some (v,S)=>some (mkApp2 a[3]! v S,true)
   |none=>none
 if n == ``ite then return <-reduceIte e
 if n == ``List.length && a.size == 2 then
  let some (_,vs):=a[1]!.listLit?|return .continue
  return .done { expr:=mkNatLit vs.length}
 if n == ``runM && a.size == 5 then
  let some (_,vs):=a[3]!.listLit?|return .continue
  let (some p,some k):=(a[0]!.nat?,a[1]!.nat?)|return .continue
  unless vs.length == p do return .continue
  let V:=mkConst ``Val
  let G <-mkListLit (mkApp (.const ``Option [0]) V) (vs.map (λv=>mkApp2 (.const ``Option.some [0]) V v)++List.replicate (k - p) (mkApp (.const ``Option.none [0]) V))
  let f <-mkAppM ``leave #[<-mkAppM ``List.length #[<-mkAppM ``aX.s #[a[4]!]]]
  return .visit { expr:=<-mkAppM ``Option.bind #[(mkApp2 a[2]! G a[4]!).headBeta,f]}
 if n.getRoot == `Nat || n.getRoot == `OfNat || n.getRoot == `BEq || n.getRoot == `Decidable || n == ``dite then return .continue
 unless A1 n || n == ``getElem? || n == ``HAppend.hAppend do return .continue
 if <-isMatcher n then return .continue
 if(<-getEnv).isConstructor n then return .continue
 if n.getRoot == `L2 && (<-isReducible n) then
  let some e' <-withDefault (unfoldDefinition? e)|return .continue
  return .visit { expr:=e'.headBeta}
 let t <-whnfR (<-inferType e)
 if t.isAppOfArity ``Option 1 && n.getRoot == `L2 then
  let some e' <-withDefault (unfoldDefinition? e)|return .continue
  let e' <-whnfCore e'
  if(<-isMatcherApp e') then return .continue
  return .visit { expr:=e'}
 if t.isForall then return .continue
 let e' <-Zp e
 if e' != e && (<-Zq e') then return .visit { expr:=e'}
 return .continue
def IY:List Simp.DSimproc:=[Nat.reduceAdd,Nat.reduceSub,Nat.reduceMul,Nat.reduceDiv,Nat.reduceMod,Int.reduceAdd,Int.reduceSub,Int.reduceMul,Int.reduceDiv,Int.reduceMod,Int.reduceNeg,Int.reduceToNat,Int.reduceBEq,Nat.reduceBEq]
def IZ:List Simp.Simproc:=[reduceCtorEq,Nat.reduceLT,Nat.reduceLeDiff,Nat.reduceEqDiff,Int.reduceLT,Int.reduceLE,Int.reduceEq]
simproc_decl br (_):=λe=>do
 for p in IY do
  match <-p e with
  |.done x=>return .done { expr:=x}
  |.visit x=>return .visit { expr:=x}
  |.continue (some x)=>return .continue (some { expr:=x})
  |_=>pure ()
 for p in IZ do
  match <-p e with
  |.continue none=>pure ()
  |r=>return r
 return .continue
section
variable {α:Type} {l L M:List α} {c:α} {j:Nat} {S:aX} {r L':List Cell}
theorem jY:S.cut S.s.length=S:=by unfold aX.cut;rw[List.take_length]
theorem k8:aX.cut ⟨s++L',r⟩ s.length=⟨s,r⟩:=by unfold aX.cut;rw[List.take_left]
theorem gj:aX.cut ⟨s,r⟩ s.length=⟨s,r⟩:=by unfold aX.cut;rw[List.take_length]
theorem f_:(l++L)[l.length]?=L[0]?:=by rw[qv (cI _),K_]
theorem yN:(l++L)[l.length+j]?=L[j]?:=by rw[qv (Fc _ _),Nat.add_sub_cancel_left]
theorem kx:(l++L).set l.length c=l++L.set 0 c:=by rw[List.set_append_right _ _ (cI _),K_]
theorem B7:(l++L).set (l.length+j) c=l++L.set j c:=by rw[List.set_append_right _ _ (Fc _ _),Nat.add_sub_cancel_left]
theorem zx:(l++L).length=l.length+L.length:=f7
theorem wm:(l++L)++M=l++(L++M):=m8 _ _ _
theorem rj:(l.length < l.length)=False:=eq_false (lX _)
theorem JZ:(l.length+j < l.length)=False:=eq_false (by omega)
theorem jS{a b:Int}:aY (.int a) (.int b)=(a == b):=rfl
theorem qo{a b:Str}:aY (.str a) (.str b)=(a == b):=rfl
theorem Qo{z:Str}:i9 (.str z) (.ty "str")=some (rd (.bl true)):=rfl
theorem JN:i9 (.tup z) (.ty "tuple")=some (rd (.bl true)):=rfl
theorem JO{z:Str}:i9 (.str z) (.ty "tuple")=some (rd (.bl false)):=rfl
theorem is4:i9 (.lst z) (.ty "list")=some (rd (.bl true)):=rfl
theorem Bw:i9 (.tup z) (.ty "str")=some (rd (.bl false)):=rfl
theorem En{n:Nat}{x:Cell}:aX.cut ⟨s.set n x,r⟩ s.length=⟨s.set n x,r⟩:=by
 unfold aX.cut;dsimp only;rw[zE (by rw[sH];exact cI _)]
theorem eW{a:α}:eL (a::l) 0=some a:=qJ (j:=0) rfl
theorem hV{a b:α}:eL (a::b::l) 1=some b:=qJ (j:=1) rfl
theorem kX{a b c:α}:eL (a::b::c::l) 2=some c:=qJ (j:=2) rfl
theorem yM{a b c d:α}:eL (a::b::c::d::l) 3=some d:=qJ (j:=3) rfl
end
end L2
namespace L2
open PySem
section
variable {α:Type} {gg:GG} {tt:GT} {te:GE} {S:aX} {f:α->D} {U cs:Gm} {a:Option Val}
theorem Iu(h:α->Option D)(G:Gm->Prop):∀(xs:List α) (U:Gm) (bA:List D),G U->bA.length+xs.length<=1000000->(∀x∈xs,∀U,G U->∃U',gg (f x) U=some U'/\G U'/\((h x=none/\tt U' S=some (.ok false S))\/∃r d,h x=some d/\tt U' S=some (.ok true S)/\te U' S=some (.ok r S)/\mS r=.d d))->
  aV gg tt te (xs.map f) U S bA=some (.ok (bA++xs.filterMap h) S)
 |[],U,bA,_,_,_=>by rw[List.filterMap_nil,p7];rfl
 |x::xs,U,bA,g,hl,hx=>by
  obtain⟨U',e1,g',e2⟩:=hx x (.head _) U g;rw[kd] at hl;rw[dX];unfold aV;rw[e1,vL];rcases e2 with⟨e2,e3⟩|⟨r,d,e2,e3,e4,e5⟩
  ·rw[e3,CI e2];exact Iu h G xs U' bA g' (by omega) λy m=>hx y (.tail _ m)
  ·have e6:gD te U' S=some (.ok d S):=by unfold gD bd;rw[e4];show(oq S (mS r)).map _=_;rw[e5];rfl
   rw[e3,E6 e2];show s_ (gD te U' S) _=_;rw[e6];show(if bA.length < 1000000 then _ else _)=_
   rw[if_pos (by omega),Iu h G xs U' (bA++[d]) g' (by rw[f7,Cz];omega) λy m=>hx y (.tail _ m),m8]
   rfl
theorem gn0{d:D}:aR 0 d (a::cs)=some (some (.d d)::cs):=by
 unfold aR;rw[if_pos (by rw[kd];omega)]
 rfl
theorem wM(h:α->Option D)(xs:List α)(hl:xs.length<=1000000)(hx:∀x∈xs,(h x=none/\tt (some (.d (f x))::cs) S=some (.ok false S))\/∃r d,h x=some d/\tt (some (.d (f x))::cs) S=some (.ok true S)/\te (some (.d (f x))::cs) S=some (.ok r S)/\mS r=.d d):aV (aR 0) tt te (xs.map f) (a::cs) S []=some (.ok (xs.filterMap h) S):=by
 rw[Iu h (λU=>∃a,U=a::cs) xs _ [] ⟨a,rfl⟩ (by rw[zF];omega) λx m U ⟨a,hU⟩=>⟨_,by rw[hU];exact gn0,⟨_,rfl⟩,hx x m⟩,E7]
theorem AX(h:α->D)(xs:List α)(hl:xs.length<=1000000)(hx:∀x∈xs,∃r,te (some (.d (f x))::cs) S=some (.ok r S)/\mS r=.d (h x)):aV (aR 0) (mh true) te (xs.map f) (a::cs) S []=some (.ok (xs.map h) S):=by
 rw[wM (λx=>some (h x)) xs hl λx m=>.inr (let ⟨r,h1,h2⟩:=hx x m;⟨r,_,rfl,rfl,h1,h2⟩),List.filterMap_eq_map']
theorem Pn{body:GS}(I:List α->Gm->aX->Prop):∀(xs dn:List α) (U:Gm) (S:aX),I dn U S->(∀d x r,dn++xs=d++x::r->∀U S,I d U S->∃U1 U' S',gg (f x) U=some U1/\(body U1 S=some (.nx U' S')\/body U1 S=some (.ct U' S'))/\I (d++[x]) U' S')->∃U' S',aE gg body (xs.map f) U S=some (.nx U' S')/\I (dn++xs) U' S'
 |[],dn,U,S,i,_=>⟨U,S,rfl,by rw[p7];exact i⟩
 |x::xs,dn,U,S,i,hx=>by
  obtain⟨U1,U',S',e1,e2,i'⟩:=hx dn x xs rfl U S i;obtain⟨U2,S2,e3,i2⟩:=Pn I xs (dn++[x]) U' S' i' λd y r e=>hx d y r (by rw[<-e,m8];rfl)
  refine⟨U2,S2,?_,by rw[m8] at i2;exact i2⟩
  rw[dX];unfold aE;rw[e1,vL];rcases e2 with e2|e2
  ·rw[e2];exact e3
  ·rw[e2];exact e3
theorem pL{body:GS}(I:List α->Gm->aX->Prop)(xs:List α)(i:I [] U S)(hx:∀d x r,xs=d++x::r->∀U S,I d U S->∃U1 U' S',gg (f x) U=some U1/\(body U1 S=some (.nx U' S')\/body U1 S=some (.ct U' S'))/\I (d++[x]) U' S'):∃U' S',aE gg body (xs.map f) U S=some (.nx U' S')/\I xs U' S':=Pn I xs [] U S i λd x r e=>hx d x r e
theorem Oq{β:Type}{body:GS}(st:β->aX->Gm×aX)(I:List α->β->Prop):∀(xs dn:List α) (b:β),I dn b->(∀d x r,dn++xs=d++x::r->∀b,I d b->∃b',I (d++[x]) b'/\∀S,∃U1,gg (f x) (st b S).1=some U1/\(body U1 (st b S).2=some (.nx (st b' S).1 (st b' S).2)\/body U1 (st b S).2=some (.ct (st b' S).1 (st b' S).2)))->
  ∃b',I (dn++xs) b'/\∀S,aE gg body (xs.map f) (st b S).1 (st b S).2=some (.nx (st b' S).1 (st b' S).2)
 |[],dn,b,i,_=>⟨b,by rw[p7];exact i,λS=>rfl⟩
 |x::xs,dn,b,i,hx=>by
  obtain⟨b1,i1,h1⟩:=hx dn x xs rfl b i;obtain⟨b2,i2,h2⟩:=Oq st I xs (dn++[x]) b1 i1 λd y r e=>hx d y r (by rw[<-e,m8];rfl)
  refine⟨b2,by rw[m8] at i2;exact i2,λS=>?_⟩
  obtain⟨U1,e1,e2⟩:=h1 S;rw[dX];unfold aE;rw[e1,vL];rcases e2 with e2|e2
  ·rw[e2];exact h2 S
  ·rw[e2];exact h2 S
theorem Po{β:Type}{body:GS}(st:β->aX->Gm×aX)(I:List α->β->Prop)(xs:List α)(b:β)(i:I [] b)(hx:∀d x r,xs=d++x::r->∀b,I d b->∃b',I (d++[x]) b'/\∀S,∃U1,gg (f x) (st b S).1=some U1/\(body U1 (st b S).2=some (.nx (st b' S).1 (st b' S).2)\/body U1 (st b S).2=some (.ct (st b' S).1 (st b' S).2))):
  ∃b',I xs b'/\∀S,aE gg body (xs.map f) (st b S).1 (st b S).2=some (.nx (st b' S).1 (st b' S).2):=Oq st I xs [] b i λd x r e=>hx d x r e
theorem Zr(enc:α->D)(xs:List α):gF (xs.map enc)=((List.range xs.length).zip xs).map λ(p:Nat×α)=>D.tup [.int (p.1:Nat),enc p.2]:=by
 unfold gF;rw[cz];refine List.ext_getElem? λi=>?_
 rw[jx,jx];by_cases h:i < xs.length
 ·have z:((List.range xs.length).zip xs)[i]?=some (i,xs[i]):=List.getElem?_zip_eq_some.mpr ⟨Fd h,jR h⟩;rw[Fd h,z];simp[h]
 ·rw[Lc (by simp;omega),Lc (by simp;omega)]
  rfl
theorem ζ{body:GS}(enc:α->D)(I:List α->Gm->aX->Prop)(xs:List α)(i:I [] U S)(hx:∀d x r,xs=d++x::r->∀U S,I d U S->∃U1 U' S',gg (.tup [.int (d.length:Nat),enc x]) U=some U1/\body U1 S=some (.nx U' S')/\I (d++[x]) U' S'):∃U' S',aE gg body (gF (xs.map enc)) U S=some (.nx U' S')/\I xs U' S':=by
 have hs:((List.range xs.length).zip xs).map Prod.snd=xs:=by rw[List.map_snd_zip];simp
 rw[Zr];obtain⟨U',S',e,p⟩:=pL (gg:=gg) (body:=body) (f:=λ(p:Nat×α)=>D.tup [.int (p.1:Nat),enc p.2]) (U:=U) (S:=S) (λpre U S=>I (pre.map Prod.snd) U S) ((List.range xs.length).zip xs) i (by
  intro q x post e U S p;have sx:xs=q.map Prod.snd++x.2::post.map Prod.snd:=by
   have:=congrArg (List.map Prod.snd) e;rw[hs] at this;rw[this,mV,dX]
  have hi:x.1=(q.map Prod.snd).length:=by
   have:((List.range xs.length).zip xs)[q.length]?=some x:=by rw[e,qv (cI _)];simp
   rw[List.getElem?_zip_eq_some] at this;have h1:=this.1;rw[jQ] at h1;obtain⟨hl,h1⟩:=h1;rw[List.getElem_range] at h1;rw[cz];exact h1.symm
  obtain⟨U1,U2,S2,a,b,c⟩:=hx _ _ _ sx U S p;exact⟨U1,U2,S2,by rw[hi];exact a,.inl b,by rw[mV];exact c⟩)
 exact⟨U',S',e,by rw[hs] at p;exact p⟩
theorem Ot{body:GS}{rv:Rv}{S':aX}(I:List α->Gm->aX->Prop){x:α}{r:List α}:∀(d dn:List α) (U:Gm) (S:aX),I dn U S->(∀d' y r',dn++d=d'++y::r'->∀U S,I d' U S->∃U1 U' S',gg (f y) U=some U1/\(body U1 S=some (.nx U' S')\/body U1 S=some (.ct U' S'))/\I (d'++[y]) U' S')->(∀U S,I (dn++d) U S->∃U1,gg (f x) U=some U1/\body U1 S=some (.rt rv S'))->aE gg body ((d++x::r).map f) U S=some (.rt rv S')
 |[],dn,U,S,i,_,hs=>by
  obtain⟨U1,e1,e2⟩:=hs U S (by rw[p7];exact i)
  rw[E7,dX];unfold aE;rw[e1,vL,e2];rfl
 |y::d,dn,U,S,i,hp,hs=>by
  obtain⟨U1,U',S',e1,e2,i'⟩:=hp dn y d rfl U S i;have e3:=Ot I (x:=x) (r:=r) d (dn++[y]) U' S' i' (λd' z r' e=>hp d' z r' (by rw[<-e,m8];rfl)) (λU S h=>hs U S (by rw[m8] at h;exact h))
  rw[List.cons_append,dX];unfold aE;rw[e1,vL];rcases e2 with e2|e2
  ·rw[e2];exact e3
  ·rw[e2];exact e3
end
end L2
namespace Carry
open PySem L2
def SB(f:Addr)(H H':Hp):Prop:=∀b o,H b=some o->b≠f->H' b=some o
structure vP where
 ns:List Int
 pl:Int
 B':Int
 mode:Int
 num:Int
def A3(sl:Addr)(F:vP):HO:=.lst [.ref sl,.int F.pl,.int F.B',.int F.mode,.int F.num]
structure FeedAt (H:Hp) (f sl:Addr) (F:vP):Prop where
 fo:H f=some (A3 sl F)
 so:H sl=some (.lst (F.ns.map V.int))
 pos:0<=F.pl
 len:F.ns.length<=63
def cellOf(F:vP):Int:=if 0 < F.ns.length then F.ns.getD (F.pl % F.ns.length).toNat 0+F.pl / F.ns.length * 31 else F.pl
structure aq where
 name:Str
 long:Int
 ring:Bool
 outs:List Str
structure aU where
 af:List aq
 carts:List Str
def vD(xs:List Str):List V:=xs.map V.str
def Zs(H:Hp)(v:V)(b:aq):Prop:=∃p o,v=.ref p/\H p=some (.tup [.str b.name,.int b.long,.bl b.ring,.ref o])/\H o=some (.lst (vD b.outs))
structure HouseAt (H:Hp) (p pb pc:Addr) (refs:List V) (h:aU):Prop where
 top:H p=some (.tup [.ref pb,.ref pc])
 bl:H pb=some (.lst refs)
 ct:H pc=some (.lst (vD h.carts))
 each:Paired (Zs H) refs h.af
def mG(xs:List Str)(k:Nat)(y:Str):List Str:=xs.take k++y::xs.drop k
theorem DA(xs:List Str)(k:Nat)(y:Str):(mG xs k y).length=xs.length+1:=by
 unfold mG;rw[f7,kd,ye,yf];omega
theorem lz{xs:List Str}{k:Nat}{y z:Str}:z∈mG xs k y↔z=y\/z∈xs:=by
 unfold mG;rw[pj,fV];constructor
 ·rintro(h|h|h)
  ·exact .inr (List.mem_of_mem_take h)
  ·exact .inl h
  ·exact .inr (List.mem_of_mem_drop h)
 ·rintro(h|h)
  ·exact .inr (.inl h)
  ·rw[<-List.take_append_drop k xs,pj] at h;rcases h with h|h
   ·exact .inl h
   ·exact .inr (.inr h)
end Carry
namespace Carry
open PySem L2
seal PE PA PT PS cA
def top(i:Nat):Stmt:=PySem.Challenge.pw_carry_k70_whole_a_bag_alone.main.body.getD i (.Pass ⟨0,0,0,0⟩)
abbrev G3:Stmt:=top 15
abbrev FL:Stmt:=top 17
abbrev FN:Stmt:=top 18
abbrev FO:Stmt:=top 19
abbrev Gb:Stmt:=top 20
abbrev FR:Stmt:=top 21
abbrev FT:Stmt:=top 22
abbrev FU:Stmt:=top 23
abbrev G4:Stmt:=top 24
abbrev G5:Stmt:=top 25
abbrev IL:Stmt:=top 27
abbrev Hl:Stmt:=top 28
abbrev IM:Stmt:=top 29
abbrev Hm:Stmt:=top 31
abbrev FV:Stmt:=top 32
abbrev Gy:Stmt:=top 33
abbrev Iv:Stmt:=top 34
abbrev Fx:Stmt:=top 35
abbrev Fs:Stmt:=top 36
abbrev FC:Stmt:=top 37
abbrev Ho:Stmt:=top 40
abbrev Fy:Stmt:=top 41
abbrev Hq:Stmt:=top 43
abbrev G6:Stmt:=top 44
abbrev Hr:Stmt:=top 45
abbrev G7:Stmt:=top 46
abbrev G8:Stmt:=top 47
abbrev Ht:Stmt:=top 48
abbrev Hu:Stmt:=top 49
abbrev G9:Stmt:=top 50
abbrev Hv:Stmt:=top 51
abbrev Hw:Stmt:=top 52
abbrev FD:Stmt:=top 53
abbrev FE:Stmt:=top 54
abbrev Gz:Stmt:=top 55
abbrev IP:Stmt:=top 56
abbrev Hx:Stmt:=lJ (top 39) 0
abbrev GC:Stmt:=lJ (top 39) 1
abbrev H9:Stmt:=lJ (top 39) 4
abbrev Ft:Stmt:=lJ (top 39) 8
abbrev FF:Stmt:=lJ (top 39) 9
abbrev Fu:Stmt:=lJ (top 39) 10
abbrev G_:Stmt:=lJ (top 39) 11
abbrev GD:Stmt:=lJ (top 39) 12
abbrev GF:Stmt:=lJ (top 39) 13
abbrev Gd:Stmt:=lJ (top 39) 14
abbrev Ge:Stmt:=lJ (top 39) 15
abbrev Hy:Stmt:=lJ (top 39) 16
abbrev H_:Stmt:=lJ (top 39) 17
abbrev Hz:Stmt:=lJ (top 39) 18
abbrev G':Stmt:=lJ (top 39) 19
abbrev Gf:Stmt:=lJ (top 39) 20
abbrev Gg:Stmt:=lJ (top 39) 21
abbrev FW:Stmt:=lJ (top 39) 22
abbrev HA:Stmt:=lJ (top 39) 23
abbrev Gh:Stmt:=lJ (top 39) 24
abbrev FX:Stmt:=lJ (top 39) 25
abbrev Eh:List (Str×Addr):=[("NoName",44),("NoSize",56),("NoOut",68),("NoHand",80),("NoMoment",92),("NoFlight",104),("NoBelt",116),("NoRoom",128),("NoBag",140)]
abbrev ak:Addr:=452
abbrev aT:List (Addr×Str):=[(ak,"built"),(ak,"told_rounds"),(ak,"now"),(ak,"book"),(ak,"halts"),(ak,"places"),(ak,"readings"),(ak,"rounded"),(ak,"gone"),(ak,"carted")]
set_option genInjectivity false in
set_option genSizeOfSpec false in
structure dF where
 fm:Addr
 gu:FuncData
 cH:Addr
 df:FuncData
 cG:Addr
 de:FuncData
 cF:Addr
 dc:FuncData
 dz:Addr
 eS:FuncData
 c9:Addr
 dP:FuncData
 c8:Addr
 dO:FuncData
 cZ:Addr
 dM:FuncData
 fD:Addr
 gE:FuncData
 fj:Addr
 gm:FuncData
 md:Addr
 nD:FuncData
 gG:Addr
 iJ:FuncData
 ma:Addr
 nC:FuncData
 gR:Addr
 iU:FuncData
 c7:Addr
 dN:FuncData
 eG:Addr
 fK:FuncData
 jZ:Addr
 k9:FuncData
 bN:Addr
 cC:FuncData
 bG:Addr
 bX:FuncData
 b8:Addr
 cS:FuncData
 gH:Addr
 iK:FuncData
 bM:Addr
 cB:FuncData
 gI:Addr
 iO:FuncData
 fq:Addr
 gv:FuncData
 gQ:Addr
 iT:FuncData
 fA:Addr
 gz:FuncData
 fB:Addr
 gA:FuncData
 gM:Addr
 iR:FuncData
 gP:Addr
 iS:FuncData
 fy:Addr
 gw:FuncData
 gK:Addr
 iP:FuncData
 gL:Addr
 iQ:FuncData
 bZ:Addr
 cR:FuncData
 bY:Addr
 cQ:FuncData
 eF:Addr
 fJ:FuncData
 mf:Addr
 l9:FuncData
 eU:Addr
 gq:FuncData
 dm:Addr
 fG:FuncData
 ib:Addr
 jJ:FuncData
 bj:Addr
 bV:FuncData
 bH:Addr
 cP:FuncData
 bo:Addr
 bW:FuncData
 eD:Addr
 gp:FuncData
 dr:Addr
 fI:FuncData
 dq:Addr
 fH:FuncData
 cV:Addr
 eP:FuncData
 cX:Addr
 eR:FuncData
 fL:Addr
 iL:FuncData
 ia:Addr
 jI:FuncData
 fM:Addr
 iM:FuncData
 eE:Addr
 gr:FuncData
 cT:Addr
 eM:FuncData
 cU:Addr
 eO:FuncData
 cx:Addr
 dQ:FuncData
 fO:Addr
 iN:FuncData
 cW:Addr
 eQ:FuncData
 cy:Addr
 dR:FuncData
structure Txt (K:PySem.W.Frag) (mg:Str->Option Value) (t:dF):Prop where
 eC:ba K mg "is_name" G3 t.fm t.gu ["thing"]
 jg:ba K mg "right_house" FL t.cH t.df ["house"]
 je:ba K mg "check_carts" FN t.cG t.de ["carts","taken"]
 jb:ba K mg "check_belts" FO t.cF t.dc ["belts","taken"]
 iH:ba K mg "take_name" Gb t.dz t.eS ["name","taken"]
 jC:ba K mg "check_outs" FR t.c9 t.dP ["belts","carts"]
 jB:ba K mg "check_hand" FT t.c8 t.dO ["house"]
 bO:ba K mg "belt_names" FU t.cZ t.dM ["belts"]
 l3:ba K mg "reached" G4 t.fD t.gE ["house","belt"]
 gd:ba K mg "belt_of" G5 t.fj t.gm ["house","name"]
 uy:ba K mg "far" IL t.md t.nD ["house","place","cart"]
 kJ:ba K mg "begins" Hl t.gG t.iJ ["house","cart"]
 ux:ba K mg "arm" IM t.ma t.nC ["house","belt","cart"]
 nh:ba K mg "wanted" Hm t.gR t.iU ["hall"]
 jA:ba K mg "busy_belts" FV t.c7 t.dN ["hall"]
 kQ:ba K mg "off_belt" Gy t.eG t.fK ["house","belt","cart","busy"]
 kR:ba K mg "turn" Iv t.jZ t.k9 ["hall"]
 ip:ba K mg "stand_stopped" Fx t.bN t.cC ["bags","goals","stopped","whys"]
 gh:ba K mg "stand_yielding" Fs t.bG t.bX ["bags","goals","whys"]
 iG:ba K mg "stand_behind" FC t.b8 t.cS ["bags","goals","whys"]
 kK:ba K mg "copied" Ho t.gH t.iK ["house"]
 il:ba K mg "check_closing" Fy t.bM t.cB ["closing"]
 kN:ba K mg "_law_cell" Hq t.gI t.iO ["_law_script","_law_k"]
 dw:ba K mg "_law_digit" G6 t.fq t.gv ["_law_script","_law_k","_law_at","_law_many"]
 eK:ba K mg "_law_pick" Hr t.gQ t.iT ["_law_script","_law_k","_law_many"]
 dy:ba K mg "_law_other" G7 t.fA t.gz ["_law_script","_law_k","_law_many"]
 iZ:ba K mg "_law_third" G8 t.fB t.gA ["_law_script","_law_k","_law_many"]
 kO:ba K mg "_law_name" Ht t.gM t.iR ["_law_script","_law_k","_law_n"]
 ng:ba K mg "_law_outs" Hu t.gP t.iS ["_law_script","_law_k","_law_names","_law_carts"]
 l0:ba K mg "_law_house" G9 t.fy t.gw ["_law_script"]
 nc:ba K mg "_law_fars" Hv t.gK t.iP ["_law_house_here","_law_cart"]
 iF:ba K mg "_law_left" Hw t.gL t.iQ ["_law_house_here","_law_place","_law_cart"]
 dH:ba K mg "_law_goes_there" FD t.bZ t.cR ["_law_hall","_law_house_here","_law_bag","_law_cart","_law_late"]
 iE:ba K mg "_law_first_ring" FE t.bY t.cQ ["_law_hall","_law_house_here","_law_bag"]
 kP:ba K mg "_law_unread" Gz t.eF t.fJ ["_law_hall","_law_house_here","_law_bag","_law_rounds"]
 zO:ba K mg "law" IP t.mf t.l9 ["_law_script"]
 qz:dh K "__init__" "Hall.__init__" Hx t.eU t.gq
 qy:Binds K t.gq ["self","house","rounds"] []
 kL:MethAt K ak "flight" "Hall.flight" GC t.dm t.fG ["self","name","cart","closing"]
 mr:MethAt K ak "put" "Hall.put" H9 t.ib t.jJ ["self","bag","flight","belt"]
 gf:MethAt K ak "check_flight" "Hall.check_flight" Ft t.bj t.bV ["self","name"]
 iC:MethAt K ak "check_belt" "Hall.check_belt" FF t.bH t.cP ["self","name"]
 eA:MethAt K ak "check_inside" "Hall.check_inside" Fu t.bo t.bW ["self","bag"]
 lZ:MethAt K ak "house" "Hall.house" G_ t.eD t.gp ["self"]
 kM:MethAt K ak "rounds" "Hall.rounds" GD t.dr t.fI ["self"]
 eB:MethAt K ak "moment" "Hall.moment" GF t.dq t.fH ["self"]
 j_:MethAt K ak "flights" "Hall.flights" Gd t.cV t.eP ["self"]
 iD:MethAt K ak "stopped" "Hall.stopped" Ge t.cX t.eR ["self"]
 iA:MethAt K ak "bags" "Hall.bags" Hy t.fL t.iL ["self"]
 mq:MethAt K ak "out" "Hall.out" H_ t.ia t.jI ["self"]
 m9:MethAt K ak "late" "Hall.late" Hz t.fM t.iM ["self"]
 du:MethAt K ak "where" "Hall.where" G' t.eE t.gr ["self","bag"]
 j9:MethAt K ak "cart_of" "Hall.cart_of" Gf t.cT t.eM ["self","bag"]
 iB:MethAt K ak "catches" "Hall.catches" Gg t.cU t.eO ["self","bag"]
 hX:MethAt K ak "in_order" "Hall.in_order" FW t.cx t.dQ ["self"]
 m_:MethAt K ak "move" "Hall.move" HA t.fO t.iN ["self","moves"]
 j':MethAt K ak "move_on" "Hall.move_on" Gh t.cW t.eQ ["self","bag","goal"]
 jD:MethAt K ak "move_out" "Hall.move_out" FX t.cy t.dR ["self","bag","cart"]
 aO:nO K ak
 sO:Mk K ak t.eU
 tR:mg "Hall"=some (.ref ak)
 cg:kH K aT
 er:pD K mg Eh 31
 fX:mg "len"=none
 cw:mg "isinstance"=none
 b_int:mg "int"=none
 b_bool:mg "bool"=none
 qM:mg "str"=none
 kY:mg "list"=none
 mw:mg "tuple"=none
 eZ:mg "range"=none
 nu:mg "enumerate"=none
 oh:mg "reversed"=none
 AK:mg "all"=none
 nv:mg "sorted"=none
 wC:mg "dict"=none
 uR:mg "min"=none
 AL:mg "max"=none
 pO:∃t,mg "LETTERS"=some (.str "abcdefghijklmnopqrstuvwxyz" t)
 kZ:∃t,mg "MOST_LETTERS"=some (.int 8 t)
end Carry
namespace Carry
open PySem L2
seal PE PA PT PS cA
section
variable {P:Program} {w:World} {K:PySem.W.Frag} {mg:Str->Option Value} {base:Heap} {t:dF}
theorem SE:aw ["thing"] ["thing"] (dk G3):=aZ
def Gi(n1:Nat):GE:=(gO lT (au (aa 0) (gC (.str "abcdefghijklmnopqrstuvwxyz"))))
def MM(q:Nat):GS:=(av (bq (iV (ec (gO (o2 i9) (aj (aa 0) (aj (gC (.ty "str")) gN)))))
  (av (aK (gC (.bl false)))
 ag)
  ag)
 (av (bq (iV (gB (Ir JL JL (gC (.int 1)) (gO (o1 iy) (aj (aa 0) gN)) (gC (.int 8)))))
  (av (aK (gC (.bl false)))
 ag)
  ag)
 (av (aK (gO (o1 (Ee Kg)) (aj (cY q (bS false i_ (aa 0)) (aR 0) (λ_=>mh true) Gi 1 []) gN)))
 ag)))
def sd(q:Nat):GM:=runM 1 1 (MM q)
theorem yw(T:Txt K mg t):∀q,aQ P w K mg base (cO P w) 1 t.fm t.gu ["thing"] (c_ K q 1 (sd q)):=
 λq=>d_ (k:=0) T.eC.fn SE rfl rfl λck A outer s H E hr=>(by
  have hu:=dZ hr;exact(ax (eI (sk (yt (xB oB T.cw wx (zc (xv 0) (zc (yd T.qM Ik) aH)))))
   (ax (dD xb)
   aJ)
   aJ)
   (ax (eI (sk (ych (λ_=>IF) (λ_=>IF) xi (xB jO T.fX oQ (zc (xv 0) aH)) (xki T.kZ)))
   (ax (dD xb)
   aJ)
   aJ)
   (ax (dD (xB JQ T.AK YJ (zc (xL ["sign"] (sA (xv 0)) cM (λ_ _ _ _=>(cN 0)) (λ_ _ _ _ _=>yn) (λ_ _ _ _ _=>(xc lM (xv 0) (xk T.pO)))) aH)))
   aJ))))
end
end Carry
namespace Carry
open PySem L2
seal PE PA PT PS cA
section
variable {P:Program} {w:World} {K:PySem.W.Frag} {mg:Str->Option Value} {base:Heap} {t:dF}
theorem Rm:aw ["belts"] ["belts"] (dk FU):=aZ
def FG(n1:Nat):GE:=(gO (o2 aP) (au (aa 0) (gC (.int 0))))
def LQ(q:Nat):GS:=(av (aK (cY q (bS false i_ (aa 0)) (aR 0) (λ_=>mh true) FG 1 []))
 ag)
def r9(q:Nat):GM:=runM 1 1 (LQ q)
theorem vV(T:Txt K mg t):∀q,aQ P w K mg base (cO P w) 1 t.cZ t.dM ["belts"] (c_ K q 1 (r9 q)):=
 λq=>d_ (k:=0) T.bO.fn Rm rfl rfl λck A outer s H E hr=>(by
  have hu:=dZ hr;exact(ax (dD (xL ["belt"] (sA (xv 0)) cM (λ_ _ _ _=>(cN 0)) (λ_ _ _ _ _=>yn) (λ_ _ _ _ _=>(aS (xv 0) xi))))
   aJ))
end
end Carry
namespace Carry
open PySem L2
seal PE PA PT PS cA
section
variable {P:Program} {w:World} {K:PySem.W.Frag} {mg:Str->Option Value} {base:Heap} {t:dF}
theorem SF:aw ["house","name","belt"] ["house","name"] (dk G5):=aZ
def yq(n1:Nat):GS:=(av (bq (gB (gO lF (au (gO (o2 aP) (au (aa 2) (gC (.int 0)))) (aa 1))))
  (av (aK (bT true (aj (gO (o2 aP) (au (aa 2) (gC (.int 0)))) (aj (gO (o2 aP) (au (aa 2) (gC (.int 1)))) (aj (gO (o2 aP) (au (aa 2) (gC (.int 2)))) (aj (gO (o1 mi) (aj (gO (o2 aP) (au (aa 2) (gC (.int 3)))) gN)) gN))))))
 ag)
  ag)
 ag)
def MN(q:Nat):GS:=(av (bQ q (bS true i_ (gO (o2 aP) (au (aa 0) (gC (.int 0))))) (aR 2) yq)
 (av (aK (gC .az))
 ag))
def v7(q:Nat):GM:=runM 2 3 (MN q)
theorem Di(T:Txt K mg t):∀q,aQ P w K mg base (cO P w) 1 t.fj t.gm ["house","name"] (c_ K q 2 (v7 q)):=
 λq=>d_ (k:=0) T.gd.fn SF rfl rfl λck A outer s H E hr=>(by
  have hu:=dZ hr;exact(ax (wF (sA (aS (xv 0) xi)) cM (cN 2) λ_=>
   (ax (eI (yc lD (aS (xv 2) xi) (xv 1))
   (ax (dD (kc (zc (aS (xv 2) xi) (zc (aS (xv 2) xi) (zc (aS (xv 2) xi) (zc (xT q9 T.kY As (zc (aS (xv 2) xi) aH)) aH))))))
   aJ)
   aJ)
   aJ))
   (ax (dD xn)
   aJ)))
end
end Carry
namespace Carry
open PySem L2
seal PE PA PT PS cA
section
variable {P:Program} {w:World} {K:PySem.W.Frag} {mg:Str->Option Value} {base:Heap} {t:dF}
theorem T_:aw ["house","cart","known","name","long","ring","outs","behind"] ["house","cart"] (dk Hl):=aZ
def GH(n2:Nat):GT:=(gB (gO lT (au (aa 0) (aa 1))))
def GI(n2:Nat):GE:=(gO (o2 aP) (au (aa 1) (aa 0)))
def yx(n1:Nat):GS:=(av (ay 7 false (cY n1 (bS false i_ (aa 6)) (aR 0) GH GI 1 [2]))
 (av (bq (ec (aa 7))
  (av (dU n1 (gO bJ (au (aa 4) (gO (o1 (nz fQ)) (aj (aa 7) gN)))) (aa 2) (aa 3))
 ag)
  ag)
 ag))
def Nr(q:Nat):GS:=(av (ay 2 true (oU (yT [((aa 1),(gC (.int 0)))])))
 (av (bQ q (bS true xR (gO (o2 aP) (au (aa 0) (gC (.int 0))))) (dg [(aR 3),(aR 4),(aR 5),(aR 6)]) yx)
 (av (aK (aa 2))
 ag)))
def Al(q:Nat):GM:=runM 2 8 (Nr q)
theorem MO(T:Txt K mg t):∀q,aQ P w K mg base (cO P w) 1 t.gG t.iJ ["house","cart"] (c_ K q 2 (Al q)):=
 λq=>d_ (k:=0) T.kJ.fn T_ rfl rfl λck A outer s H E hr=>(by
  have hu:=dZ hr;exact(ax (wS (xd (U8 (xv 1) xi WG)))
   (ax (wF (Kq T.oh (aS (xv 0) xi)) (ql (gb cM (gb cM (gb cM (gb cM qj)))) rfl) (qp (f' (cN 3) (f' (cN 4) (f' (cN 5) (f' (cN 6) qi))))) λ_=>
   (ax (wL ["out","known"] (sA (xv 6)) cM (λ_ _ _ _=>(cN 0)) (λ_ _ _ _ _=>(y1 (yc lM (xv 0) (xv 1)))) (λ_ _ _ _ _=>(aS (xv 1) (xv 0))))
   (ax (eI (yt (xv 7))
   (ax (wP (xo bK (xv 4) (xB BA T.uR PyProof.Rows.Boot.min (zc (xv 7) aH))) (xv 2) (xv 3))
   aJ)
   aJ)
   aJ)))
   (ax (dD (xv 2))
   aJ))))
end
end Carry
namespace Carry
open PySem L2
seal PE PA PT PS cA
section
variable {P:Program} {w:World} {K:PySem.W.Frag} {mg:Str->Option Value} {base:Heap} {t:dF}
theorem QV:aw ["bags","goals","stopped","whys","bag","flight","place","gone","goal"] ["bags","goals","stopped","whys"] (dk Fx):=aZ
def Fq(n1:Nat):GS:=(av (ay 8 false (gO (o2 aP) (au (aa 1) (aa 4))))
 (av (bq (gB (gO lT (au (gO (o2 aP) (au (aa 6) (gC (.int 0)))) (aa 2))))
  (av (dU n1 (bT true (aj (gC (.str "stopped")) (aj (gO (o2 aP) (au (aa 6) (gC (.int 0)))) gN))) (aa 3) (aa 4))
 ag)
  (av (bq (ez (ec (gO (o2 i9) (aj (aa 8) (aj (gC (.ty "tuple")) gN)))) (gB (gO lT (au (gO (o2 aP) (au (aa 8) (gC (.int 0)))) (aa 2)))))
  (av (dU n1 (bT true (aj (gC (.str "stopped")) (aj (gO (o2 aP) (au (aa 8) (gC (.int 0)))) gN))) (aa 3) (aa 4))
 ag)
  ag)
 ag))
 ag))
def CZ(q:Nat):GS:=(av (bQ q (bS true i_ (aa 0)) (dg [(aR 4),(aR 5),(aR 6),(aR 7)]) Fq)
 ag)
def uE(q:Nat):GM:=runM 4 9 (CZ q)
theorem QW(T:Txt K mg t):∀q,aQ P w K mg base (cO P w) 1 t.bN t.cC ["bags","goals","stopped","whys"] (c_ K q 4 (uE q)):=
 λq=>d_ (k:=0) T.ip.fn QV rfl rfl λck A outer s H E hr=>(by
  have hu:=dZ hr;exact(ax (wF (sA (xv 0)) (ql (gb cM (gb cM (gb cM (gb cM qj)))) rfl) (qp (f' (cN 4) (f' (cN 5) (f' (cN 6) (f' (cN 7) qi))))) λ_=>
   (ax (wS (aS (xv 1) (xv 4)))
   (ax (eI (yc lM (aS (xv 6) xi) (xv 2))
   (ax (wP (kc (zc xs (zc (aS (xv 6) xi) aH))) (xv 3) (xv 4))
   aJ)
   (ax (eI (PW.pt (nq (yt (xB oB T.cw wx (zc (xv 8) (zc (yd T.mw He) aH)))) (pB (yc lM (aS (xv 8) xi) (xv 2)))))
   (ax (wP (kc (zc xs (zc (aS (xv 8) xi) aH))) (xv 3) (xv 4))
   aJ)
   aJ)
   aJ))
   aJ)))
   aJ))
end
end Carry
namespace Carry
open PySem L2
seal PE PA PT PS cA
section
variable {P:Program} {w:World} {K:PySem.W.Frag} {mg:Str->Option Value} {base:Heap} {t:dF}
theorem QO:aw ["bags","goals","whys","asking","chosen","bag","flight","place","gone","goal","other"] ["bags","goals","whys"] (dk Fs):=aZ
def Fp(n1:Nat):GT:=(ez (gB (gO ku (au (gO (o2 aP) (au (aa 0) (gC (.int 0)))) (aa 1)))) (ec (gO (o2 i9) (aj (gO (o2 aP) (au (aa 2) (gO (o2 aP) (au (aa 0) (gC (.int 0)))))) (aj (gC (.ty "tuple")) gN)))))
def Ln(n1:Nat):GE:=(aa 0)
def Lo(n1:Nat):GS:=(av (ay 9 false (gO (o2 aP) (au (aa 1) (aa 5))))
 (av (bq (km (gB (gO ku (au (aa 9) (aa 4)))) (gB (gO lF (au (gO (o2 aP) (au (aa 7) (gC (.int 0)))) (gO (o2 aP) (au (aa 9) (gC (.int 0))))))))
  (av (dU n1 (aa 5) (aa 4) (aa 9))
 ag)
  ag)
 ag))
def Lp(n1:Nat):GS:=(av (ay 10 false (gO (o2 aP) (au (aa 4) (gO (o2 aP) (au (aa 1) (aa 5))))))
 (av (bq (gB (gO ER (au (aa 10) (aa 5))))
  (av (dU n1 (bT true (aj (gC (.str "yields")) (aj (aa 10) gN))) (aa 2) (aa 5))
 ag)
  ag)
 ag))
def CT(q:Nat):GS:=(av (ay 3 false (cY q (bS false i_ (aa 0)) (aR 0) Fp Ln 1 [2,1]))
 (av (ay 4 true pK)
 (av (bQ q (bS true i_ (aa 3)) (dg [(aR 5),(aR 6),(aR 7),(aR 8)]) Lo)
 (av (bQ q (bS true i_ (aa 3)) (dg [(aR 5),(aR 6),(aR 7),(aR 8)]) Lp)
 ag))))
def uC(q:Nat):GM:=runM 3 11 (CT q)
theorem QP(T:Txt K mg t):∀q,aQ P w K mg base (cO P w) 1 t.bG t.bX ["bags","goals","whys"] (c_ K q 3 (uC q)):=
 λq=>d_ (k:=0) T.gh.fn QO rfl rfl λck A outer s H E hr=>(by
  have hu:=dZ hr;exact(ax (wL ["told","whys","goals"] (sA (xv 0)) cM (λ_ _ _ _=>(cN 0)) (λ_ _ _ _ _=>(y1 (PW.pt (nq (yc kj (aS (xv 0) xi) (xv 1)) (pB (yt (xB oB T.cw wx (zc (aS (xv 2) (aS (xv 0) xi)) (zc (yd T.mw He) aH))))))))) (λ_ _ _ _ _=>(xv 0)))
   (ax (wS qg)
   (ax (wF (sA (xv 3)) (ql (gb cM (gb cM (gb cM (gb cM qj)))) rfl) (qp (f' (cN 5) (f' (cN 6) (f' (cN 7) (f' (cN 8) qi))))) λ_=>
   (ax (wS (aS (xv 1) (xv 5)))
   (ax (eI (PW.pt (qK (yc kj (xv 9) (xv 4)) (sL (yc lD (aS (xv 7) xi) (aS (xv 9) xi)))))
   (ax (wP (xv 5) (xv 4) (xv 9))
   aJ)
   aJ)
   aJ)))
   (ax (wF (sA (xv 3)) (ql (gb cM (gb cM (gb cM (gb cM qj)))) rfl) (qp (f' (cN 5) (f' (cN 6) (f' (cN 7) (f' (cN 8) qi))))) λ_=>
   (ax (wS (aS (xv 4) (aS (xv 1) (xv 5))))
   (ax (eI (yc Em (xv 10) (xv 5))
   (ax (wP (kc (zc xs (zc (xv 10) aH))) (xv 2) (xv 5))
   aJ)
   aJ)
   aJ)))
   aJ)))))
end
end Carry
namespace Carry
open PySem L2
seal PE PA PT PS cA
section
variable {P:Program} {w:World} {K:PySem.W.Frag} {mg:Str->Option Value} {base:Heap} {t:dF}
theorem Q1:aw ["bags","goals","whys","holder","bag","flight","place","gone","grown","other"] ["bags","goals","whys"] (dk FC):=aZ
def Fv(n1:Nat):GS:=(av (dU n1 (aa 4) (aa 3) (aa 6))
 ag)
def Fw(n1:Nat):GS:=(av (ay 9 false (Ef "dict" (o2 oX) (aa 3) (aj (gO (o2 aP) (au (aa 1) (aa 4))) gN)))
 (av (bq (ez (gB (gO ku (au (aa 4) (aa 2)))) (gB (gO lT (au (aa 9) (aa 2)))))
  (av (dU n1 (bT true (aj (gC (.str "behind")) (aj (aa 9) gN))) (aa 2) (aa 4))
 (av (ay 8 false (gC (.bl true)))
 ag))
  ag)
 ag))
def CU(q:Nat):GS:=(av (ay 8 false (gC (.bl false)))
 (av (bQ q (bS true i_ (aa 1)) (aR 4) Fw)
 ag))
def C4(q:Nat):GS:=(av (ay 3 true pK)
 (av (bQ q (bS true i_ (aa 0)) (dg [(aR 4),(aR 5),(aR 6),(aR 7)]) Fv)
 (av (ay 8 false (gC (.bl true)))
 (av (eJ (ec (aa 8)) (CU q) 1000)
 ag))))
def uF(q:Nat):GM:=runM 3 10 (C4 q)
theorem Q2(T:Txt K mg t):∀q,aQ P w K mg base (cO P w) 1 t.b8 t.cS ["bags","goals","whys"] (c_ K q 3 (uF q)):=
 λq=>d_ (k:=0) T.iG.fn Q1 rfl rfl λck A outer s H E hr=>(by
  have hu:=dZ hr;exact(ax (wS qg)
   (ax (wF (sA (xv 0)) (ql (gb cM (gb cM (gb cM (gb cM qj)))) rfl) (qp (f' (cN 4) (f' (cN 5) (f' (cN 6) (f' (cN 7) qi))))) λ_=>
   (ax (wP (xv 4) (xv 3) (xv 6))
   aJ))
   (ax (wS xb)
   (ax (Vf 1000 PH (yt (xv 8))
   (ax (wS xb)
   (ax (wF (sA (xv 1)) cM (cN 4) λ_=>
   (ax (wS (xM BE (xv 3) (zc (aS (xv 1) (xv 4)) aH)))
   (ax (eI (PW.pt (nq (yc kj (xv 4) (xv 2)) (pB (yc lM (xv 9) (xv 2)))))
   (ax (wP (kc (zc xs (zc (xv 9) aH))) (xv 2) (xv 4))
   (ax (wS xb)
   aJ))
   aJ)
   aJ)))
   aJ)))
   aJ)))))
end
end Carry
namespace Carry
open PySem L2
seal PE PA PT PS cA
section
variable {P:Program} {w:World} {K:PySem.W.Frag} {mg:Str->Option Value} {base:Heap} {t:dF}
theorem QX:aw ["closing"] ["closing"] (dk Fy):=aZ
def Lw(q:Nat):GS:=(av (bq (gB (gO xG (au (aa 0) (gC (.int 0)))))
  (av (nR 92 (gC (.str "a flight closes at a moment from 0 on")))
 ag)
  ag)
 ag)
def C0(q:Nat):GM:=runM 1 1 (Lw q)
theorem QY(T:Txt K mg t):∀q,aQ P w K mg base (cO P w) 1 t.bM t.cB ["closing"] (c_ K q 1 (C0 q)):=
 λq=>d_ (k:=0) T.il.fn QX rfl rfl λck A outer s H E hr=>(by
  have hu:=dZ hr;exact(ax (eI (yc wI (xv 0) xi)
   (ax (wX 4 T.er xs)
   aJ)
   aJ)
   aJ))
end
end Carry
namespace Carry
open PySem L2
seal PE PA PT PS cA
section
variable {P:Program} {w:World} {K:PySem.W.Frag} {mg:Str->Option Value} {base:Heap} {t:dF}
theorem Ua:aw ["_law_script","_law_k"] ["_law_script","_law_k"] (dk Hq):=aZ
def HB(q:Nat):GS:=(av (bq (gB (gO xG (au (aa 1) (gO (o1 iy) (aj (aa 0) gN)))))
  (av (aK (gO (o2 aP) (au (aa 0) (aa 1))))
 ag)
  ag)
 (av (aK (gC (.int 0)))
 ag))
def qh(q:Nat):GM:=runM 2 2 (HB q)
theorem MP(T:Txt K mg t):∀q,aQ P w K mg base (cO P w) 1 t.gI t.iO ["_law_script","_law_k"] (c_ K q 2 (qh q)):=
 λq=>d_ (k:=0) T.kN.fn Ua rfl rfl λck A outer s H E hr=>(by
  have hu:=dZ hr;exact(ax (eI (yc wI (xv 1) (xB jO T.fX oQ (zc (xv 0) aH)))
   (ax (dD (aS (xv 0) (xv 1)))
   aJ)
   aJ)
   (ax (dD xi)
   aJ)))
end
end Carry
namespace Carry
open PySem L2
seal PE PA PT PS cA
section
variable {P:Program} {w:World} {K:PySem.W.Frag} {mg:Str->Option Value} {base:Heap} {t:dF}
theorem Ub:aw ["_law_house_here","_law_cart","_law_table","_law_k","_law_belt","_law_some"] ["_law_house_here","_law_cart"] (dk Hv):=aZ
def yy(n2:Nat):GT:=(ez (gB (gO lT (au (aa 0) (aa 1)))) (gB (gO rG (au (gO (o2 aP) (au (aa 1) (aa 0))) (gC .az)))))
def yz(n2:Nat):GE:=(gO (o2 aP) (au (aa 1) (aa 0)))
def sS(n1:Nat):GS:=(av (ay 4 false (gO (o2 aP) (au (gO (o2 aP) (au (aa 0) (gC (.int 0)))) (gO lK (au (gO lK (au (gO (o1 iy) (aj (gO (o2 aP) (au (aa 0) (gC (.int 0)))) gN)) (gC (.int 1)))) (aa 3))))))
 (av (ay 5 true (cY n1 (bS false i_ (gO (o2 aP) (au (aa 4) (gC (.int 3))))) (aR 0) yy yz 1 [2]))
 (av (bq (gB (gO lT (au (aa 1) (gO (o2 aP) (au (aa 4) (gC (.int 3)))))))
  (av (hG (jt n1 "list" sj (aa 5) (aj (gC (.int 0)) gN)))
 ag)
  ag)
 (av (dU n1 (wQ (gB (gO qGt (au (gO (o1 iy) (aj (aa 5) gN)) (gC (.int 0))))) (gO bJ (au (gO (o2 aP) (au (aa 4) (gC (.int 1)))) (gO (o1 (nz fQ)) (aj (aa 5) gN)))) (gC .az)) (aa 2) (gO (o2 aP) (au (aa 4) (gC (.int 0)))))
 ag))))
def Nt(q:Nat):GS:=(av (ay 2 true pK)
 (av (bQ q (j5 j7 (aj (gO (o1 iy) (aj (gO (o2 aP) (au (aa 0) (gC (.int 0)))) gN)) gN)) (aR 3) sS)
 (av (aK (aa 2))
 ag)))
def DB(q:Nat):GM:=runM 2 6 (Nt q)
theorem Uc(T:Txt K mg t):∀q,aQ P w K mg base (cO P w) 1 t.gK t.iP ["_law_house_here","_law_cart"] (c_ K q 2 (DB q)):=
 λq=>d_ (k:=0) T.nc.fn Ub rfl rfl λck A outer s H E hr=>(by
  have hu:=dZ hr;exact(ax (wS qg)
   (ax (wF (ua T.eZ (zc (xB jO T.fX oQ (zc (aS (xv 0) xi) aH)) aH)) cM (cN 3) λ_=>
   (ax (wS (aS (aS (xv 0) xi) (xo lW (xo lW (xB jO T.fX oQ (zc (aS (xv 0) xi) aH)) xi) (xv 3))))
   (ax (wL ["_law_out","_law_table"] (sA (aS (xv 4) xi)) cM (λ_ _ _ _=>(cN 0)) (λ_ _ _ _ _=>(y1 (PW.pt (nq (yc lM (xv 0) (xv 1)) (pB (yc qN (aS (xv 1) (xv 0)) xn)))))) (λ_ _ _ _ _=>(aS (xv 1) (xv 0))))
   (ax (eI (yc lM (xv 1) (aS (xv 4) xi))
   (ax (wE (xU wd (xv 5) (zc xi aH)))
   aJ)
   aJ)
   (ax (wP (AS (yc Ue (xB jO T.fX oQ (zc (xv 5) aH)) xi) (xo bK (aS (xv 4) xi) (xB BA T.uR PyProof.Rows.Boot.min (zc (xv 5) aH))) xn) (xv 2) (aS (xv 4) xi))
   aJ)))))
   (ax (dD (xv 2))
   aJ))))
end
end Carry
namespace Carry
open PySem L2
seal PE PA PT PS cA
section
variable {P:Program} {w:World} {K:PySem.W.Frag} {mg:Str->Option Value} {base:Heap} {t:dF}
theorem R1:aw ["self"] ["self"] (dk GD):=aZ
def Mj(q:Nat):GS:=(av (aK (bB aT "told_rounds" (aa 0)))
 ag)
def Dj(q:Nat):GM:=runM 1 1 (Mj q)
theorem R3(T:Txt K mg t):∀q,aQ P w K mg base (cO P w) 1 t.dr t.fI ["self"] (c_ K q 1 (Dj q)):=
 λq=>d_ (k:=0) T.kM.fn R1 rfl rfl λck A outer s H E hr=>(by
  have hu:=dZ hr;exact(ax (dD (xf T.cg (xv 0)))
   aJ))
end
end Carry
namespace Carry
open PySem L2
seal PE PA PT PS cA
section
variable {P:Program} {w:World} {K:PySem.W.Frag} {mg:Str->Option Value} {base:Heap} {t:dF}
theorem R4:aw ["self"] ["self"] (dk GF):=aZ
def Ml(q:Nat):GS:=(av (aK (bB aT "now" (aa 0)))
 ag)
def uI(q:Nat):GM:=runM 1 1 (Ml q)
theorem z6(T:Txt K mg t):∀q,aQ P w K mg base (cO P w) 1 t.dq t.fH ["self"] (c_ K q 1 (uI q)):=
 λq=>d_ (k:=0) T.eB.fn R4 rfl rfl λck A outer s H E hr=>(by
  have hu:=dZ hr;exact(ax (dD (xf T.cg (xv 0)))
   aJ))
end
end Carry
namespace Carry
open PySem L2
seal PE PA PT PS cA
section
variable {P:Program} {w:World} {K:PySem.W.Frag} {mg:Str->Option Value} {base:Heap} {t:dF}
theorem RL:aw ["self"] ["self"] (dk Gd):=aZ
def LG(n1:Nat):GE:=(gO (o2 aP) (au (bB aT "book" (aa 1)) (aa 0)))
def L6(q:Nat):GS:=(av (aK (cY q (bS false i_ (gO (o1 nI) (aj (bB aT "book" (aa 0)) gN))) (aR 0) (λ_=>mh true) LG 1 [0]))
 ag)
def Df(q:Nat):GM:=runM 1 1 (L6 q)
theorem RM(T:Txt K mg t):∀q,aQ P w K mg base (cO P w) 1 t.cV t.eP ["self"] (c_ K q 1 (Df q)):=
 λq=>d_ (k:=0) T.j_.fn RL rfl rfl λck A outer s H E hr=>(by
  have hu:=dZ hr;exact(ax (dD (xL ["name","self"] (sA (xB vg T.nv MJ (zc (xf T.cg (xv 0)) aH))) cM (λ_ _ _ _=>(cN 0)) (λ_ _ _ _ _=>yn) (λ_ _ _ _ _=>(aS (xf T.cg (xv 1)) (xv 0)))))
   aJ))
end
end Carry
namespace Carry
open PySem L2
seal PE PA PT PS cA
section
variable {P:Program} {w:World} {K:PySem.W.Frag} {mg:Str->Option Value} {base:Heap} {t:dF}
theorem VJ:aw ["self"] ["self"] (dk H_):=aZ
def Ou(q:Nat):GS:=(av (aK (gO (o1 mi) (aj (bB aT "gone" (aa 0)) gN)))
 ag)
def Ay(q:Nat):GM:=runM 1 1 (Ou q)
theorem Nu(T:Txt K mg t):∀q,aQ P w K mg base (cO P w) 1 t.ia t.jI ["self"] (c_ K q 1 (Ay q)):=
 λq=>d_ (k:=0) T.mq.fn VJ rfl rfl λck A outer s H E hr=>(by
  have hu:=dZ hr;exact(ax (dD (xT q9 T.kY As (zc (xf T.cg (xv 0)) aH)))
   aJ))
end
end Carry
namespace Carry
open PySem L2
seal PE PA PT PS cA
section
variable {P:Program} {w:World} {K:PySem.W.Frag} {mg:Str->Option Value} {base:Heap} {t:dF}
theorem Rn:aw ["self","bag","cart"] ["self","bag","cart"] (dk FX):=aZ
def LR(q:Nat):GS:=(av (hG (jt q "dict" mj (bB aT "places" (aa 0)) (aj (aa 1) gN)))
 (av (hG (jt q "dict" mj (bB aT "readings" (aa 0)) (aj (aa 1) gN)))
 (av (hG (jt q "dict" mj (bB aT "rounded" (aa 0)) (aj (aa 1) gN)))
 (av (dU q (aa 2) (bB aT "carted" (aa 0)) (aa 1))
 (av (hG (jt q "list" sj (bB aT "gone" (aa 0)) (aj (bT true (aj (aa 1) (aj (aa 2) (aj (bB aT "now" (aa 0)) gN)))) gN)))
 ag)))))
def yo(q:Nat):GM:=runM 3 3 (LR q)
theorem Ro(T:Txt K mg t):∀q,aQ P w K mg base (cO P w) 1 t.cy t.dR ["self","bag","cart"] (c_ K q 3 (yo q)):=
 λq=>d_ (k:=0) T.jD.fn Rn rfl rfl λck A outer s H E hr=>(by
  have hu:=dZ hr;exact(ax (wE (xU rO (xf T.cg (xv 0)) (zc (xv 1) aH)))
   (ax (wE (xU rO (xf T.cg (xv 0)) (zc (xv 1) aH)))
   (ax (wE (xU rO (xf T.cg (xv 0)) (zc (xv 1) aH)))
   (ax (wP (xv 2) (xf T.cg (xv 0)) (xv 1))
   (ax (wE (xU wd (xf T.cg (xv 0)) (zc (kc (zc (xv 1) (zc (xv 2) (zc (xf T.cg (xv 0)) aH)))) aH)))
   aJ))))))
end
end Carry
namespace Carry
open PySem L2
seal PE PA PT PS cA
section
variable {P:Program} {w:World} {K:PySem.W.Frag} {mg:Str->Option Value} {base:Heap} {t:dF}
theorem RN:aw ["name","taken"] ["name","taken"] (dk Gb):=aZ
def L7(q:Nat):GS:=(av (bq (km (iV (ec (aA (sd q) (aj (aa 0) gN)))) (gB (gO lT (au (aa 0) (aa 1)))))
  (av (nR 44 (gC (.str "a belt or a cart has no name, or one that is taken")))
 ag)
  ag)
 (av (dU q (gC (.bl true)) (aa 1) (aa 0))
 ag))
def yr(q:Nat):GM:=runM 2 2 (L7 q)
theorem LS(T:Txt K mg t):∀q,aQ P w K mg base (cO P w) 2 t.dz t.eS ["name","taken"] (c_ K q 2 (yr q)):=
 λq=>d_ (k:=1) T.iH.fn RN rfl rfl λck A outer s H E hr=>(by
  have hu:=dZ hr;exact(ax (eI (PW.pt (qK (sk (yt (xC T.eC (yw T _) (zc (xv 0) aH)))) (sL (yc lM (xv 0) (xv 1)))))
   (ax (wX 0 T.er xs)
   aJ)
   aJ)
   (ax (wP xb (xv 1) (xv 0))
   aJ)))
end
end Carry
namespace Carry
open PySem L2
seal PE PA PT PS cA
section
variable {P:Program} {w:World} {K:PySem.W.Frag} {mg:Str->Option Value} {base:Heap} {t:dF}
theorem Rq:aw ["belts","carts","k","belt","name","outs","left","out"] ["belts","carts"] (dk FR):=aZ
def zY(n2:Nat):GS:=(av (bq (gB (gO ku (au (aa 7) (aa 6))))
  (av (nR 68 (wc (mY (gC (.str "belt ")) (mY (gO (o1 mB) (ow (aa 4))) (mY (gC (.str " has an out that is no cart, no belt behind it, or there twice")) lj)))))
 ag)
  ag)
 (av (hG (jt n2 "list" DU (aa 6) (aj (aa 7) gN)))
 ag))
def C5(n1:Nat):GS:=(av (ay 4 false (gO (o2 aP) (au (aa 3) (gC (.int 0)))))
 (av (ay 5 false (wQ (ec (gO (o2 i9) (aj (gO (o2 aP) (au (aa 3) (gC (.int 3)))) (aj (gC (.ty "list")) gN)))) (gO (o2 aP) (au (aa 3) (gC (.int 3)))) (bT false gN)))
 (av (ay 6 true (gO bJ (au (aA (r9 n1) (aj (AJ (aa 0) (Ec (gO bJ (au (aa 2) (gC (.int 1))))) Eb) gN)) (aa 1))))
 (av (bQ n1 (bS true i_ (aa 5)) (aR 7) zY)
 (av (bq (iV (ec (aa 5)))
  (av (nR 68 (wc (mY (gC (.str "belt ")) (mY (gO (o1 mB) (ow (aa 4))) (mY (gC (.str " has no outs")) lj)))))
 ag)
  ag)
 ag)))))
def LU(q:Nat):GS:=(av (bQ q (bS true IU (aa 0)) (dg [(aR 2),(aR 3)]) C5)
 ag)
def C_(q:Nat):GM:=runM 2 8 (LU q)
theorem Rr(T:Txt K mg t):∀q,aQ P w K mg base (cO P w) 2 t.c9 t.dP ["belts","carts"] (c_ K q 2 (C_ q)):=
 λq=>d_ (k:=1) T.jC.fn Rq rfl rfl λck A outer s H E hr=>(by
  have hu:=dZ hr;exact(ax (wF (sEn T.nu (xv 0)) (ql (gb cM (gb cM qj)) rfl) (qp (f' (cN 2) (f' (cN 3) qi))) λ_=>
   (ax (wS (aS (xv 3) xi))
   (ax (wS (AS (yt (xB oB T.cw wx (zc (aS (xv 3) xi) (zc (yd T.kY As) aH)))) (aS (xv 3) xi) (pJ aH)))
   (ax (wS (xo bK (xC T.bO (vV T _) (zc (K3 (xv 0) (HZ (xo bK (xv 2) xi)) HY) aH)) (xv 1)))
   (ax (wF (sA (xv 5)) cM (cN 7) λ_=>
   (ax (eI (yc kj (xv 7) (xv 6))
   (ax (wX 2 T.er (xj (jc xs (jc (y8 (xv 4)) (jc xs jn)))))
   aJ)
   aJ)
   (ax (wE (xU XI (xv 6) (zc (xv 7) aH)))
   aJ)))
   (ax (eI (sk (yt (xv 5)))
   (ax (wX 2 T.er (xj (jc xs (jc (y8 (xv 4)) (jc xs jn)))))
   aJ)
   aJ)
   aJ))))))
   aJ))
end
end Carry
namespace Carry
open PySem L2
seal PE PA PT PS cA
section
variable {P:Program} {w:World} {K:PySem.W.Frag} {mg:Str->Option Value} {base:Heap} {t:dF}
theorem SG:aw ["house","belt","found","name","long","ring","outs","out"] ["house","belt"] (dk G4):=aZ
def z7(n2:Nat):GS:=(av (dU n2 (gC (.bl true)) (aa 2) (aa 7))
 ag)
def yu(n1:Nat):GS:=(av (bq (km (gB (gO lF (au (aa 3) (aa 1)))) (gB (gO lT (au (aa 3) (aa 2)))))
  (av (bQ n1 (bS true i_ (aa 6)) (aR 7) z7)
 ag)
  ag)
 ag)
def Gj(n1:Nat):GT:=(gB (gO lT (au (aa 0) (aa 1))))
def Gk(n1:Nat):GE:=(aa 0)
def MQ(q:Nat):GS:=(av (ay 2 true pK)
 (av (bQ q (bS true i_ (gO (o2 aP) (au (aa 0) (gC (.int 0))))) (dg [(aR 3),(aR 4),(aR 5),(aR 6)]) yu)
 (av (aK (cY q (bS false i_ (gO bJ (au (aA (r9 q) (aj (gO (o2 aP) (au (aa 0) (gC (.int 0)))) gN)) (gO (o2 aP) (au (aa 0) (gC (.int 1))))))) (aR 0) Gj Gk 1 [2]))
 ag)))
def Dr(q:Nat):GM:=runM 2 8 (MQ q)
theorem SH(T:Txt K mg t):∀q,aQ P w K mg base (cO P w) 2 t.fD t.gE ["house","belt"] (c_ K q 2 (Dr q)):=
 λq=>d_ (k:=1) T.l3.fn SG rfl rfl λck A outer s H E hr=>(by
  have hu:=dZ hr;exact(ax (wS qg)
   (ax (wF (sA (aS (xv 0) xi)) (ql (gb cM (gb cM (gb cM (gb cM qj)))) rfl) (qp (f' (cN 3) (f' (cN 4) (f' (cN 5) (f' (cN 6) qi))))) λ_=>
   (ax (eI (PW.pt (qK (yc lD (xv 3) (xv 1)) (sL (yc lM (xv 3) (xv 2)))))
   (ax (wF (sA (xv 6)) cM (cN 7) λ_=>
   (ax (wP xb (xv 2) (xv 7))
   aJ))
   aJ)
   aJ)
   aJ))
   (ax (dD (xL ["name","found"] (sA (xo bK (xC T.bO (vV T _) (zc (aS (xv 0) xi) aH)) (aS (xv 0) xi))) cM (λ_ _ _ _=>(cN 0)) (λ_ _ _ _ _=>(y1 (yc lM (xv 0) (xv 1)))) (λ_ _ _ _ _=>(xv 0))))
   aJ))))
end
end Carry
namespace Carry
open PySem L2
seal PE PA PT PS cA
section
variable {P:Program} {w:World} {K:PySem.W.Frag} {mg:Str->Option Value} {base:Heap} {t:dF}
theorem Zt:aw ["house","place","cart","known"] ["house","place","cart"] (dk IL):=aZ
def PN(q:Nat):GS:=(av (ay 3 false (aA (Al q) (aj (aa 0) (aj (aa 2) gN))))
 (av (bq (gB (gO ku (au (gO (o2 aP) (au (aa 1) (gC (.int 0)))) (aa 3))))
  (av (aK (gC .az))
 ag)
  ag)
 (av (aK (gO lK (au (gO (o2 aP) (au (aa 3) (gO (o2 aP) (au (aa 1) (gC (.int 0)))))) (gO (o2 aP) (au (aa 1) (gC (.int 1)))))))
 ag)))
def Ep(q:Nat):GM:=runM 3 4 (PN q)
theorem Zu(T:Txt K mg t):∀q,aQ P w K mg base (cO P w) 2 t.md t.nD ["house","place","cart"] (c_ K q 3 (Ep q)):=
 λq=>d_ (k:=1) T.uy.fn Zt rfl rfl λck A outer s H E hr=>(by
  have hu:=dZ hr;exact(ax (wS (xC T.kJ (MO T _) (zc (xv 0) (zc (xv 2) aH))))
   (ax (eI (yc kj (aS (xv 1) xi) (xv 3))
   (ax (dD xn)
   aJ)
   aJ)
   (ax (dD (xo lW (aS (xv 3) (aS (xv 1) xi)) (aS (xv 1) xi)))
   aJ))))
end
end Carry
namespace Carry
open PySem L2
seal PE PA PT PS cA
section
variable {P:Program} {w:World} {K:PySem.W.Frag} {mg:Str->Option Value} {base:Heap} {t:dF}
theorem Zv:aw ["house","belt","cart","known","best","out"] ["house","belt","cart"] (dk IM):=aZ
def Az(n1:Nat):GS:=(av (bq (ez (gB (gO lT (au (aa 5) (aa 3)))) (km (gB (gO zy (au (aa 4) (gC .az)))) (gB (gO xG (au (gO (o2 aP) (au (aa 3) (aa 5))) (gO (o2 aP) (au (aa 3) (aa 4))))))))
  (av (ay 4 false (aa 5))
 ag)
  ag)
 ag)
def PQ(q:Nat):GS:=(av (ay 3 false (aA (Al q) (aj (aa 0) (aj (aa 2) gN))))
 (av (ay 4 false (gC .az))
 (av (bQ q (bS true i_ (gO (o2 aP) (au (aA (v7 q) (aj (aa 0) (aj (aa 1) gN))) (gC (.int 3))))) (aR 5) Az)
 (av (aK (aa 4))
 ag))))
def Er(q:Nat):GM:=runM 3 6 (PQ q)
theorem Zw(T:Txt K mg t):∀q,aQ P w K mg base (cO P w) 2 t.ma t.nC ["house","belt","cart"] (c_ K q 3 (Er q)):=
 λq=>d_ (k:=1) T.ux.fn Zv rfl rfl λck A outer s H E hr=>(by
  have hu:=dZ hr;exact(ax (wS (xC T.kJ (MO T _) (zc (xv 0) (zc (xv 2) aH))))
   (ax (wS xn)
   (ax (wF (sA (aS (xC T.gd (Di T _) (zc (xv 0) (zc (xv 1) aH))) xi)) cM (cN 5) λ_=>
   (ax (eI (PW.pt (nq (yc lM (xv 5) (xv 3)) (pB (PW.pt (qK (yc y_ (xv 4) xn) (sL (yc wI (aS (xv 3) (xv 5)) (aS (xv 3) (xv 4)))))))))
   (ax (wS (xv 5))
   aJ)
   aJ)
   aJ))
   (ax (dD (xv 4))
   aJ)))))
end
end Carry
namespace Carry
open PySem L2
seal PE PA PT PS cA
section
variable {P:Program} {w:World} {K:PySem.W.Frag} {mg:Str->Option Value} {base:Heap} {t:dF}
theorem Ud:aw ["house","belts"] ["house"] (dk Ho):=aZ
def GK(n1:Nat):GE:=(aA (v7 n1) (aj (aa 1) (aj (aa 0) gN)))
def Nv(q:Nat):GS:=(av (ay 1 false (cY q (bS false i_ (aA (r9 q) (aj (gO (o2 aP) (au (aa 0) (gC (.int 0)))) gN))) (aR 0) (λ_=>mh true) GK 1 [0]))
 (av (aK (bT true (aj (aa 1) (aj (gO (o1 mi) (aj (gO (o2 aP) (au (aa 0) (gC (.int 1)))) gN)) gN))))
 ag))
def Am(q:Nat):GM:=runM 1 2 (Nv q)
theorem MR(T:Txt K mg t):∀q,aQ P w K mg base (cO P w) 2 t.gH t.iK ["house"] (c_ K q 1 (Am q)):=
 λq=>d_ (k:=1) T.kK.fn Ud rfl rfl λck A outer s H E hr=>(by
  have hu:=dZ hr;exact(ax (wL ["name","house"] (sA (xC T.bO (vV T _) (zc (aS (xv 0) xi) aH))) cM (λ_ _ _ _=>(cN 0)) (λ_ _ _ _ _=>yn) (λ_ _ _ _ _=>(xC T.gd (Di T _) (zc (xv 1) (zc (xv 0) aH)))))
   (ax (dD (kc (zc (xv 1) (zc (xT q9 T.kY As (zc (aS (xv 0) xi) aH)) aH))))
   aJ)))
end
end Carry
namespace Carry
open PySem L2
seal PE PA PT PS cA
section
variable {P:Program} {w:World} {K:PySem.W.Frag} {mg:Str->Option Value} {base:Heap} {t:dF}
theorem SI:aw ["_law_script","_law_k","_law_at","_law_many","_law_cell_here","_law_mixed"] ["_law_script","_law_k","_law_at","_law_many"] (dk G6):=aZ
def Ha(q:Nat):GS:=(av (ay 4 false (aA (qh q) (aj (aa 0) (aj (aa 1) gN))))
 (av (bq (gB (gO lF (au (gO jX (au (aA (qh q) (aj (aa 0) (aj (gC (.int 0)) gN))) (gC (.int 2)))) (gC (.int 1)))))
  (av (aK (gO jX (au (gO jX (au (gO qL (au (aa 4) (gO (o2 aP) (au (bT false (aj (gC (.int 2)) (aj (gC (.int 128)) (aj (gC (.int 8192)) (aj (gC (.int 524288)) (aj (gC (.int 33554432)) gN)))))) (aa 2))))) (gC (.int 64)))) (aa 3))))
 ag)
  ag)
 (av (ay 5 false (gO jX (au (gO kh (au (gO bJ (au (gO bJ (au (gO bJ (au (gO jX (au (aa 4) (gC (.int 1000003)))) (gO kh (au (aa 1) (aa 1))))) (gO kh (au (gC (.int 1009)) (aa 2))))) (gC (.int 7)))) (gC (.int 48271)))) (gC (.int 999983)))))
 (av (aK (gO jX (au (gO jX (au (gO kh (au (gO bJ (au (gO bJ (au (aa 5) (gO kh (au (gC (.int 5)) (aa 1))))) (aa 2))) (gO bJ (au (gC (.int 69621)) (gO kh (au (gC (.int 2)) (aa 2))))))) (gC (.int 1000033)))) (aa 3))))
 ag))))
def kC(q:Nat):GM:=runM 4 6 (Ha q)
theorem vY(T:Txt K mg t):∀q,aQ P w K mg base (cO P w) 2 t.fq t.gv ["_law_script","_law_k","_law_at","_law_many"] (c_ K q 4 (kC q)):=
 λq=>d_ (k:=1) T.dw.fn SI rfl rfl λck A outer s H E hr=>(by
  have hu:=dZ hr;exact(ax (wS (xC T.kN (MP T _) (zc (xv 0) (zc (xv 1) aH))))
   (ax (eI (yc lD (xo j8 (xC T.kN (MP T _) (zc (xv 0) (zc xi aH))) xi) xi)
   (ax (dD (xo j8 (xo j8 (xo rP (xv 4) (aS (pJ (zc xi (zc xi (zc xi (zc xi (zc xi aH)))))) (xv 2))) xi) (xv 3)))
   aJ)
   aJ)
   (ax (wS (xo j8 (xo kz (xo bK (xo bK (xo bK (xo j8 (xv 4) xi) (xo kz (xv 1) (xv 1))) (xo kz xi (xv 2))) xi) xi) xi))
   (ax (dD (xo j8 (xo j8 (xo kz (xo bK (xo bK (xv 5) (xo kz xi (xv 1))) (xv 2)) (xo bK xi (xo kz xi (xv 2)))) xi) (xv 3)))
   aJ)))))
end
end Carry
namespace Carry
open PySem L2
seal PE PA PT PS cA
section
variable {P:Program} {w:World} {K:PySem.W.Frag} {mg:Str->Option Value} {base:Heap} {t:dF}
theorem Uh:aw ["_law_house_here","_law_place","_law_cart","_law_whole"] ["_law_house_here","_law_place","_law_cart"] (dk Hw):=aZ
def Nw(q:Nat):GS:=(av (ay 3 false (gO (o2 aP) (au (aA (DB q) (aj (aa 0) (aj (aa 2) gN))) (gO (o2 aP) (au (aa 1) (gC (.int 0)))))))
 (av (bq (gB (gO zy (au (aa 3) (gC .az))))
  (av (aK (gC .az))
 ag)
  ag)
 (av (aK (gO lK (au (aa 3) (gO (o2 aP) (au (aa 1) (gC (.int 1)))))))
 ag)))
def sf(q:Nat):GM:=runM 3 4 (Nw q)
theorem Ds(T:Txt K mg t):∀q,aQ P w K mg base (cO P w) 2 t.gL t.iQ ["_law_house_here","_law_place","_law_cart"] (c_ K q 3 (sf q)):=
 λq=>d_ (k:=1) T.iF.fn Uh rfl rfl λck A outer s H E hr=>(by
  have hu:=dZ hr;exact(ax (wS (aS (xC T.nc (Uc T _) (zc (xv 0) (zc (xv 2) aH))) (aS (xv 1) xi)))
   (ax (eI (yc y_ (xv 3) xn)
   (ax (dD xn)
   aJ)
   aJ)
   (ax (dD (xo lW (xv 3) (aS (xv 1) xi)))
   aJ))))
end
end Carry
namespace Carry
open PySem L2
seal PE PA PT PS cA
section
variable {P:Program} {w:World} {K:PySem.W.Frag} {mg:Str->Option Value} {base:Heap} {t:dF}
theorem R5:aw ["self","name","cart","closing"] ["self","name","cart","closing"] (dk GC):=aZ
def Mm(q:Nat):GS:=(av (bq (km (iV (ec (aA (sd q) (aj (aa 1) gN)))) (gB (gO lT (au (aa 1) (bB aT "book" (aa 0))))))
  (av (nR 44 (gC (.str "a flight has no name, or one that another flight has")))
 ag)
  ag)
 (av (bq (gB (gO ku (au (aa 2) (AJ (gO (o2 aP) (au (bB aT "built" (aa 0)) (gC (.int 1)))) (Ec (gC (.int 1))) Eb))))
  (av (nR 68 (gC (.str "a flight's cart is none of the house, or the hand")))
 ag)
  ag)
 (av (hG (aA (C0 q) (aj (aa 3) gN)))
 (av (dU q (bT true (aj (aa 1) (aj (aa 2) (aj (aa 3) gN)))) (bB aT "book" (aa 0)) (aa 1))
 ag))))
def Aa(q:Nat):GM:=runM 4 4 (Mm q)
theorem R6(T:Txt K mg t):∀q,aQ P w K mg base (cO P w) 2 t.dm t.fG ["self","name","cart","closing"] (c_ K q 4 (Aa q)):=
 λq=>d_ (k:=1) T.kL.fn R5 rfl rfl λck A outer s H E hr=>(by
  have hu:=dZ hr;exact(ax (eI (PW.pt (qK (sk (yt (xC T.eC (yw T _) (zc (xv 1) aH)))) (sL (yc lM (xv 1) (xf T.cg (xv 0))))))
   (ax (wX 0 T.er xs)
   aJ)
   aJ)
   (ax (eI (yc kj (xv 2) (K3 (aS (xf T.cg (xv 0)) xi) (HZ xi) HY))
   (ax (wX 2 T.er xs)
   aJ)
   aJ)
   (ax (wE (xC T.il (QY T _) (zc (xv 3) aH)))
   (ax (wP (kc (zc (xv 1) (zc (xv 2) (zc (xv 3) aH)))) (xf T.cg (xv 0)) (xv 1))
   aJ)))))
end
end Carry
namespace Carry
open PySem L2
seal PE PA PT PS cA
section
variable {P:Program} {w:World} {K:PySem.W.Frag} {mg:Str->Option Value} {base:Heap} {t:dF}
theorem QQ:aw ["self","name"] ["self","name"] (dk Ft):=aZ
def Lr(q:Nat):GS:=(av (bq (km (iV (ec (aA (sd q) (aj (aa 1) gN)))) (gB (gO ku (au (aa 1) (bB aT "book" (aa 0))))))
  (av (nR 104 (gC (.str "no flight is called so")))
 ag)
  ag)
 ag)
def CV(q:Nat):GM:=runM 2 2 (Lr q)
theorem QR(T:Txt K mg t):∀q,aQ P w K mg base (cO P w) 2 t.bj t.bV ["self","name"] (c_ K q 2 (CV q)):=
 λq=>d_ (k:=1) T.gf.fn QQ rfl rfl λck A outer s H E hr=>(by
  have hu:=dZ hr;exact(ax (eI (PW.pt (qK (sk (yt (xC T.eC (yw T _) (zc (xv 1) aH)))) (sL (yc kj (xv 1) (xf T.cg (xv 0))))))
   (ax (wX 5 T.er xs)
   aJ)
   aJ)
   aJ))
end
end Carry
namespace Carry
open PySem L2
seal PE PA PT PS cA
section
variable {P:Program} {w:World} {K:PySem.W.Frag} {mg:Str->Option Value} {base:Heap} {t:dF}
theorem Q3:aw ["self","name"] ["self","name"] (dk FF):=aZ
def Ly(q:Nat):GS:=(av (bq (gB (gO ku (au (aa 1) (aA (r9 q) (aj (gO (o2 aP) (au (bB aT "built" (aa 0)) (gC (.int 0)))) gN)))))
  (av (nR 116 (gC (.str "no belt is called so")))
 ag)
  ag)
 ag)
def C6(q:Nat):GM:=runM 2 2 (Ly q)
theorem Q4(T:Txt K mg t):∀q,aQ P w K mg base (cO P w) 2 t.bH t.cP ["self","name"] (c_ K q 2 (C6 q)):=
 λq=>d_ (k:=1) T.iC.fn Q3 rfl rfl λck A outer s H E hr=>(by
  have hu:=dZ hr;exact(ax (eI (yc kj (xv 1) (xC T.bO (vV T _) (zc (aS (xf T.cg (xv 0)) xi) aH)))
   (ax (wX 6 T.er xs)
   aJ)
   aJ)
   aJ))
end
end Carry
namespace Carry
open PySem L2
seal PE PA PT PS cA
section
variable {P:Program} {w:World} {K:PySem.W.Frag} {mg:Str->Option Value} {base:Heap} {t:dF}
theorem QS:aw ["self","bag"] ["self","bag"] (dk Fu):=aZ
def Ls(q:Nat):GS:=(av (bq (km (iV (ec (aA (sd q) (aj (aa 1) gN)))) (gB (gO ku (au (aa 1) (bB aT "places" (aa 0))))))
  (av (nR 140 (gC (.str "no bag in the house is called so")))
 ag)
  ag)
 ag)
def zV(q:Nat):GM:=runM 2 2 (Ls q)
theorem Lq(T:Txt K mg t):∀q,aQ P w K mg base (cO P w) 2 t.bo t.bW ["self","bag"] (c_ K q 2 (zV q)):=
 λq=>d_ (k:=1) T.eA.fn QS rfl rfl λck A outer s H E hr=>(by
  have hu:=dZ hr;exact(ax (eI (PW.pt (qK (sk (yt (xC T.eC (yw T _) (zc (xv 1) aH)))) (sL (yc kj (xv 1) (xf T.cg (xv 0))))))
   (ax (wX 8 T.er xs)
   aJ)
   aJ)
   aJ))
end
end Carry
namespace Carry
open PySem L2
seal PE PA PT PS cA
section
variable {P:Program} {w:World} {K:PySem.W.Frag} {mg:Str->Option Value} {base:Heap} {t:dF}
theorem RO:aw ["self"] ["self"] (dk Ge):=aZ
def FQ(n1:Nat):GT:=(gB (gO lT (au (aa 0) (bB aT "halts" (aa 1)))))
def LH(n1:Nat):GE:=(aa 0)
def L8(q:Nat):GS:=(av (aK (cY q (bS false i_ (aA (r9 q) (aj (gO (o2 aP) (au (bB aT "built" (aa 0)) (gC (.int 0)))) gN))) (aR 0) FQ LH 1 [0]))
 ag)
def z8(q:Nat):GM:=runM 1 1 (L8 q)
theorem LV(T:Txt K mg t):∀q,aQ P w K mg base (cO P w) 2 t.cX t.eR ["self"] (c_ K q 1 (z8 q)):=
 λq=>d_ (k:=1) T.iD.fn RO rfl rfl λck A outer s H E hr=>(by
  have hu:=dZ hr;exact(ax (dD (xL ["name","self"] (sA (xC T.bO (vV T _) (zc (aS (xf T.cg (xv 0)) xi) aH))) cM (λ_ _ _ _=>(cN 0)) (λ_ _ _ _ _=>(y1 (yc lM (xv 0) (xf T.cg (xv 1))))) (λ_ _ _ _ _=>(xv 0))))
   aJ))
end
end Carry
namespace Carry
open PySem L2
seal PE PA PT PS cA
section
variable {P:Program} {w:World} {K:PySem.W.Frag} {mg:Str->Option Value} {base:Heap} {t:dF}
theorem Rt:aw ["self","ranks","spots"] ["self"] (dk FW):=aZ
def Lz(n1:Nat):GE:=(bT true (aj (Ef "list" (o2 b_) (aa 2) (aj (gO (o2 aP) (au (aa 1) (gC (.int 0)))) gN)) (aj (gO (o2 aP) (au (aa 1) (gC (.int 1)))) (aj (aa 0) gN))))
def LA(n1:Nat):GE:=(gO (o2 aP) (au (aa 0) (gC (.int 2))))
def FY(q:Nat):GS:=(av (ay 1 false (aA (r9 q) (aj (gO (o2 aP) (au (bB aT "built" (aa 0)) (gC (.int 0)))) gN)))
 (av (ay 2 false (cY q (bS false tN (bB aT "places" (aa 0))) (dg [(aR 0),(aR 1)]) (λ_=>mh true) Lz 2 [1]))
 (av (aK (cY q (bS false i_ (gO (o1 nI) (aj (aa 2) gN))) (aR 0) (λ_=>mh true) LA 1 []))
 ag)))
def vW(q:Nat):GM:=runM 1 3 (FY q)
theorem LI(T:Txt K mg t):∀q,aQ P w K mg base (cO P w) 2 t.cx t.dQ ["self"] (c_ K q 1 (vW q)):=
 λq=>d_ (k:=1) T.hX.fn Rt rfl rfl λck A outer s H E hr=>(by
  have hu:=dZ hr;exact(ax (wS (xC T.bO (vV T _) (zc (aS (xf T.cg (xv 0)) xi) aH)))
   (ax (wL ["bag","place","ranks"] (sI (xf T.cg (xv 0))) (ql (gb cM (gb cM qj)) rfl) (λ_ _ _ _=>(qp (f' (cN 0) (f' (cN 1) qi)))) (λ_ _ _ _ _=>yn) (λ_ _ _ _ _=>(kc (zc (xM Zo (xv 2) (zc (aS (xv 1) xi) aH)) (zc (aS (xv 1) xi) (zc (xv 0) aH))))))
   (ax (dD (xL ["spot"] (sA (xB vg T.nv MJ (zc (xv 2) aH))) cM (λ_ _ _ _=>(cN 0)) (λ_ _ _ _ _=>yn) (λ_ _ _ _ _=>(aS (xv 0) xi))))
   aJ))))
end
end Carry
namespace Carry
open PySem L2
seal PE PA PT PS cA
section
variable {P:Program} {w:World} {K:PySem.W.Frag} {mg:Str->Option Value} {base:Heap} {t:dF}
theorem RP:aw ["self","bag","goal","was","belt"] ["self","bag","goal"] (dk Gh):=aZ
def Gn(q:Nat):GS:=(av (ay 3 false (gO (o2 aP) (au (bB aT "places" (aa 0)) (aa 1))))
 (av (ay 4 false (aA (v7 q) (aj (bB aT "built" (aa 0)) (aj (gO (o2 aP) (au (aa 3) (gC (.int 0)))) gN))))
 (av (bq (ez (ec (gO (o2 aP) (au (aa 4) (gC (.int 2))))) (ez (gB (gO lF (au (aa 3) (bT true (aj (gO (o2 aP) (au (aa 4) (gC (.int 0)))) (aj (gO lK (au (gO (o2 aP) (au (aa 4) (gC (.int 1)))) (gC (.int 1)))) gN)))))) (gB (gO lF (au (aa 2) (bT true (aj (gO (o2 aP) (au (aa 4) (gC (.int 0)))) (aj (gC (.int 0)) gN))))))))
  (av (Iq q Br (bB aT "rounded" (aa 0)) (aa 1) (gC (.int 1)))
 ag)
  ag)
 (av (dU q (aa 2) (bB aT "places" (aa 0)) (aa 1))
 ag))))
def uH(q:Nat):GM:=runM 3 5 (Gn q)
theorem RQ(T:Txt K mg t):∀q,aQ P w K mg base (cO P w) 2 t.cW t.eQ ["self","bag","goal"] (c_ K q 3 (uH q)):=
 λq=>d_ (k:=1) T.j'.fn RP rfl rfl λck A outer s H E hr=>(by
  have hu:=dZ hr;exact(ax (wS (aS (xf T.cg (xv 0)) (xv 1)))
   (ax (wS (xC T.gd (Di T _) (zc (xf T.cg (xv 0)) (zc (aS (xv 3) xi) aH))))
   (ax (eI (PW.pt (nq (yt (aS (xv 4) xi)) (nq (yc lD (xv 3) (kc (zc (aS (xv 4) xi) (zc (xo lW (aS (xv 4) xi) xi) aH)))) (pB (yc lD (xv 2) (kc (zc (aS (xv 4) xi) (zc xi aH))))))))
   (ax (wAD (λ_=>Ys) (xf T.cg (xv 0)) (xv 1) xi)
   aJ)
   aJ)
   (ax (wP (xv 2) (xf T.cg (xv 0)) (xv 1))
   aJ)))))
end
end Carry
namespace Carry
open PySem L2
seal PE PA PT PS cA
section
variable {P:Program} {w:World} {K:PySem.W.Frag} {mg:Str->Option Value} {base:Heap} {t:dF}
theorem Q_:aw ["carts","taken","cart"] ["carts","taken"] (dk FN):=aZ
def C1(n1:Nat):GS:=(av (hG (aA (yr n1) (aj (aa 2) (aj (aa 1) gN))))
 ag)
def LJ(q:Nat):GS:=(av (bQ q (bS true i_ (aa 0)) (aR 2) C1)
 (av (bq (iV (ec (aa 0)))
  (av (nR 80 (gC (.str "a house has a cart at least, the hand")))
 ag)
  ag)
 ag))
def C7(q:Nat):GM:=runM 2 3 (LJ q)
theorem Ra(T:Txt K mg t):∀q,aQ P w K mg base (cO P w) 3 t.cG t.de ["carts","taken"] (c_ K q 2 (C7 q)):=
 λq=>d_ (k:=2) T.je.fn Q_ rfl rfl λck A outer s H E hr=>(by
  have hu:=dZ hr;exact(ax (wF (sA (xv 0)) cM (cN 2) λ_=>
   (ax (wE (xC T.iH (LS T _) (zc (xv 2) (zc (xv 1) aH))))
   aJ))
   (ax (eI (sk (yt (xv 0)))
   (ax (wX 3 T.er xs)
   aJ)
   aJ)
   aJ)))
end
end Carry
namespace Carry
open PySem L2
seal PE PA PT PS cA
section
variable {P:Program} {w:World} {K:PySem.W.Frag} {mg:Str->Option Value} {base:Heap} {t:dF}
theorem Rb:aw ["belts","taken","name","long","ring","outs","least"] ["belts","taken"] (dk FO):=aZ
def C2(n1:Nat):GS:=(av (hG (aA (yr n1) (aj (aa 2) (aj (aa 1) gN))))
 (av (ay 6 false (wQ (ec (aa 4)) (gC (.int 2)) (gC (.int 1))))
 (av (bq (gB (gO xG (au (aa 3) (aa 6))))
  (av (nR 56 (wc (mY (gC (.str "belt ")) (mY (gO (o1 mB) (ow (aa 2))) (mY (gC (.str " has fewer than ")) (mY (gO (o1 mB) (ow (aa 6))) (mY (gC (.str " cells")) lj)))))))
 ag)
  ag)
 ag)))
def LK(q:Nat):GS:=(av (bQ q (bS true i_ (aa 0)) (dg [(aR 2),(aR 3),(aR 4),(aR 5)]) C2)
 ag)
def C8(q:Nat):GM:=runM 2 7 (LK q)
theorem Rc(T:Txt K mg t):∀q,aQ P w K mg base (cO P w) 3 t.cF t.dc ["belts","taken"] (c_ K q 2 (C8 q)):=
 λq=>d_ (k:=2) T.jb.fn Rb rfl rfl λck A outer s H E hr=>(by
  have hu:=dZ hr;exact(ax (wF (sA (xv 0)) (ql (gb cM (gb cM (gb cM (gb cM qj)))) rfl) (qp (f' (cN 2) (f' (cN 3) (f' (cN 4) (f' (cN 5) qi))))) λ_=>
   (ax (wE (xC T.iH (LS T _) (zc (xv 2) (zc (xv 1) aH))))
   (ax (wS (AS (yt (xv 4)) xi xi))
   (ax (eI (yc wI (xv 3) (xv 6))
   (ax (wX 1 T.er (xj (jc xs (jc (y8 (xv 2)) (jc xs (jc (y8 (xv 6)) (jc xs jn)))))))
   aJ)
   aJ)
   aJ))))
   aJ))
end
end Carry
namespace Carry
open PySem L2
seal PE PA PT PS cA
section
variable {P:Program} {w:World} {K:PySem.W.Frag} {mg:Str->Option Value} {base:Heap} {t:dF}
theorem Ru:aw ["house","hand","name"] ["house"] (dk FT):=aZ
def FH(n1:Nat):GS:=(av (bq (gB (gO ku (au (aa 1) (aA (Dr n1) (aj (aa 0) (aj (aa 2) gN))))))
  (av (nR 80 (wc (mY (gC (.str "the hand can not be come to from belt ")) (mY (gO (o1 mB) (ow (aa 2))) lj))))
 ag)
  ag)
 ag)
def LW(q:Nat):GS:=(av (ay 1 false (gO (o2 aP) (au (gO (o2 aP) (au (aa 0) (gC (.int 1)))) (gC (.int 0)))))
 (av (bQ q (bS true i_ (aA (r9 q) (aj (gO (o2 aP) (au (aa 0) (gC (.int 0)))) gN))) (aR 2) FH)
 ag))
def Dc(q:Nat):GM:=runM 1 3 (LW q)
theorem Rw(T:Txt K mg t):∀q,aQ P w K mg base (cO P w) 3 t.c8 t.dO ["house"] (c_ K q 1 (Dc q)):=
 λq=>d_ (k:=2) T.jB.fn Ru rfl rfl λck A outer s H E hr=>(by
  have hu:=dZ hr;exact(ax (wS (aS (aS (xv 0) xi) xi))
   (ax (wF (sA (xC T.bO (vV T _) (zc (aS (xv 0) xi) aH))) cM (cN 2) λ_=>
   (ax (eI (yc kj (xv 1) (xC T.l3 (SH T _) (zc (xv 0) (zc (xv 2) aH))))
   (ax (wX 3 T.er (xj (jc xs (jc (y8 (xv 2)) jn))))
   aJ)
   aJ)
   aJ))
   aJ)))
end
end Carry
namespace Carry
open PySem L2
seal PE PA PT PS cA
section
variable {P:Program} {w:World} {K:PySem.W.Frag} {mg:Str->Option Value} {base:Heap} {t:dF}
theorem R7:aw ["house","belt","cart","busy","out"] ["house","belt","cart","busy"] (dk Gy):=aZ
def GL(q:Nat):GS:=(av (ay 4 false (aA (Er q) (aj (aa 0) (aj (gO (o2 aP) (au (aa 1) (gC (.int 0)))) (aj (aa 2) gN)))))
 (av (bq (gB (gO lT (au (aa 4) (gO (o2 aP) (au (aa 0) (gC (.int 1)))))))
  (av (aK (aa 4))
 ag)
  ag)
 (av (bq (ez (ec (gO (o2 aP) (au (aa 1) (gC (.int 2))))) (gB (gO lT (au (aa 4) (aa 3)))))
  (av (aK (bT true (aj (gO (o2 aP) (au (aa 1) (gC (.int 0)))) (aj (gC (.int 0)) gN))))
 ag)
  ag)
 (av (aK (bT true (aj (aa 4) (aj (gC (.int 0)) gN))))
 ag))))
def r_(q:Nat):GM:=runM 4 5 (GL q)
theorem R8(T:Txt K mg t):∀q,aQ P w K mg base (cO P w) 3 t.eG t.fK ["house","belt","cart","busy"] (c_ K q 4 (r_ q)):=
 λq=>d_ (k:=2) T.kQ.fn R7 rfl rfl λck A outer s H E hr=>(by
  have hu:=dZ hr;exact(ax (wS (xC T.ux (Zw T _) (zc (xv 0) (zc (aS (xv 1) xi) (zc (xv 2) aH)))))
   (ax (eI (yc lM (xv 4) (aS (xv 0) xi))
   (ax (dD (xv 4))
   aJ)
   aJ)
   (ax (eI (PW.pt (nq (yt (aS (xv 1) xi)) (pB (yc lM (xv 4) (xv 3)))))
   (ax (dD (kc (zc (aS (xv 1) xi) (zc xi aH))))
   aJ)
   aJ)
   (ax (dD (kc (zc (xv 4) (zc xi aH))))
   aJ)))))
end
end Carry
namespace Carry
open PySem L2
seal PE PA PT PS cA
section
variable {P:Program} {w:World} {K:PySem.W.Frag} {mg:Str->Option Value} {base:Heap} {t:dF}
theorem Ui:aw ["_law_script","_law_k","_law_many"] ["_law_script","_law_k","_law_many"] (dk Hr):=aZ
def Ny(q:Nat):GS:=(av (aK (aA (kC q) (aj (aa 0) (aj (aa 1) (aj (gC (.int 0)) (aj (aa 2) gN))))))
 ag)
def jW(q:Nat):GM:=runM 3 3 (Ny q)
theorem v8(T:Txt K mg t):∀q,aQ P w K mg base (cO P w) 3 t.gQ t.iT ["_law_script","_law_k","_law_many"] (c_ K q 3 (jW q)):=
 λq=>d_ (k:=2) T.eK.fn Ui rfl rfl λck A outer s H E hr=>(by
  have hu:=dZ hr;exact(ax (dD (xC T.dw (vY T _) (zc (xv 0) (zc (xv 1) (zc xi (zc (xv 2) aH))))))
   aJ))
end
end Carry
namespace Carry
open PySem L2
seal PE PA PT PS cA
section
variable {P:Program} {w:World} {K:PySem.W.Frag} {mg:Str->Option Value} {base:Heap} {t:dF}
theorem SJ:aw ["_law_script","_law_k","_law_many"] ["_law_script","_law_k","_law_many"] (dk G7):=aZ
def MT(q:Nat):GS:=(av (aK (aA (kC q) (aj (aa 0) (aj (aa 1) (aj (gC (.int 1)) (aj (aa 2) gN))))))
 ag)
def kf(q:Nat):GM:=runM 3 3 (MT q)
theorem vZ(T:Txt K mg t):∀q,aQ P w K mg base (cO P w) 3 t.fA t.gz ["_law_script","_law_k","_law_many"] (c_ K q 3 (kf q)):=
 λq=>d_ (k:=2) T.dy.fn SJ rfl rfl λck A outer s H E hr=>(by
  have hu:=dZ hr;exact(ax (dD (xC T.dw (vY T _) (zc (xv 0) (zc (xv 1) (zc xi (zc (xv 2) aH))))))
   aJ))
end
end Carry
namespace Carry
open PySem L2
seal PE PA PT PS cA
section
variable {P:Program} {w:World} {K:PySem.W.Frag} {mg:Str->Option Value} {base:Heap} {t:dF}
theorem SK:aw ["_law_script","_law_k","_law_many"] ["_law_script","_law_k","_law_many"] (dk G8):=aZ
def MU(q:Nat):GS:=(av (aK (aA (kC q) (aj (aa 0) (aj (aa 1) (aj (gC (.int 2)) (aj (aa 2) gN))))))
 ag)
def qH(q:Nat):GM:=runM 3 3 (MU q)
theorem GN(T:Txt K mg t):∀q,aQ P w K mg base (cO P w) 3 t.fB t.gA ["_law_script","_law_k","_law_many"] (c_ K q 3 (qH q)):=
 λq=>d_ (k:=2) T.iZ.fn SK rfl rfl λck A outer s H E hr=>(by
  have hu:=dZ hr;exact(ax (dD (xC T.dw (vY T _) (zc (xv 0) (zc (xv 1) (zc xi (zc (xv 2) aH))))))
   aJ))
end
end Carry
namespace Carry
open PySem L2
seal PE PA PT PS cA
section
variable {P:Program} {w:World} {K:PySem.W.Frag} {mg:Str->Option Value} {base:Heap} {t:dF}
theorem VL:aw ["self","bag","flight","belt","place"] ["self","bag","flight","belt"] (dk H9):=aZ
def Ia(q:Nat):GS:=(av (bq (km (iV (ec (aA (sd q) (aj (aa 1) gN)))) (km (gB (gO lT (au (aa 1) (bB aT "places" (aa 0))))) (gB (gO lT (au (aa 1) (bB aT "carted" (aa 0)))))))
  (av (nR 44 (gC (.str "a bag has no name, or one that a bag of this hall has or had")))
 ag)
  ag)
 (av (bq (gB (gO rG (au (aa 2) (gC .az))))
  (av (hG (aW ak "check_flight" (CV q) (aa 0) (aj (aa 2) gN)))
 ag)
  ag)
 (av (hG (aW ak "check_belt" (C6 q) (aa 0) (aj (aa 3) gN)))
 (av (ay 4 false (bT true (aj (aa 3) (aj (gC (.int 0)) gN))))
 (av (bq (gB (gO lT (au (aa 4) (gO (o1 ph) (ow (bB aT "places" (aa 0)))))))
  (av (nR 128 (wc (mY (gC (.str "cell 0 of belt ")) (mY (gO (o1 mB) (ow (aa 3))) (mY (gC (.str " has a bag")) lj)))))
 ag)
  ag)
 (av (dU q (aa 4) (bB aT "places" (aa 0)) (aa 1))
 (av (dU q (aa 2) (bB aT "readings" (aa 0)) (aa 1))
 (av (dU q (gC (.int 0)) (bB aT "rounded" (aa 0)) (aa 1))
 ag))))))))
def sX(q:Nat):GM:=runM 4 5 (Ia q)
theorem Nz(T:Txt K mg t):∀q,aQ P w K mg base (cO P w) 3 t.ib t.jJ ["self","bag","flight","belt"] (c_ K q 4 (sX q)):=
 λq=>d_ (k:=2) T.mr.fn VL rfl rfl λck A outer s H E hr=>(by
  have hu:=dZ hr;exact(ax (eI (PW.pt (qK (sk (yt (xC T.eC (yw T _) (zc (xv 1) aH)))) (qK (yc lM (xv 1) (xf T.cg (xv 0))) (sL (yc lM (xv 1) (xf T.cg (xv 0)))))))
   (ax (wX 0 T.er xs)
   aJ)
   aJ)
   (ax (eI (yc qN (xv 2) xn)
   (ax (wE (xH T.aO T.gf (QR T _) (xv 0) (zc (xv 2) aH)))
   aJ)
   aJ)
   (ax (wE (xH T.aO T.iC (Q4 T _) (xv 0) (zc (xv 3) aH)))
   (ax (wS (kc (zc (xv 3) (zc xi aH))))
   (ax (eI (yc lM (xv 4) (xLV T.kY (xf T.cg (xv 0))))
   (ax (wX 7 T.er (xj (jc xs (jc (y8 (xv 3)) (jc xs jn)))))
   aJ)
   aJ)
   (ax (wP (xv 4) (xf T.cg (xv 0)) (xv 1))
   (ax (wP (xv 2) (xf T.cg (xv 0)) (xv 1))
   (ax (wP xi (xf T.cg (xv 0)) (xv 1))
   aJ)))))))))
end
end Carry
namespace Carry
open PySem L2
seal PE PA PT PS cA
section
variable {P:Program} {w:World} {K:PySem.W.Frag} {mg:Str->Option Value} {base:Heap} {t:dF}
theorem SM:aw ["self"] ["self"] (dk G_):=aZ
def MV(q:Nat):GS:=(av (aK (aA (Am q) (aj (bB aT "built" (aa 0)) gN)))
 ag)
def Dt(q:Nat):GM:=runM 1 1 (MV q)
theorem SO(T:Txt K mg t):∀q,aQ P w K mg base (cO P w) 3 t.eD t.gp ["self"] (c_ K q 1 (Dt q)):=
 λq=>d_ (k:=2) T.lZ.fn SM rfl rfl λck A outer s H E hr=>(by
  have hu:=dZ hr;exact(ax (dD (xC T.kK (MR T _) (zc (xf T.cg (xv 0)) aH)))
   aJ))
end
end Carry
namespace Carry
open PySem L2
seal PE PA PT PS cA
section
variable {P:Program} {w:World} {K:PySem.W.Frag} {mg:Str->Option Value} {base:Heap} {t:dF}
theorem Uj:aw ["self"] ["self"] (dk Hy):=aZ
def Mn(n1:Nat):GE:=(bT true (aj (aa 0) (aj (gO (o2 aP) (au (bB aT "readings" (aa 1)) (aa 0))) (aj (gO (o2 aP) (au (bB aT "places" (aa 1)) (aa 0))) (aj (gO (o2 aP) (au (bB aT "rounded" (aa 1)) (aa 0))) gN)))))
def HC(q:Nat):GS:=(av (aK (cY q (bS false i_ (aW ak "in_order" (vW q) (aa 0) gN)) (aR 0) (λ_=>mh true) Mn 1 [0]))
 ag)
def sU(q:Nat):GM:=runM 1 1 (HC q)
theorem Du(T:Txt K mg t):∀q,aQ P w K mg base (cO P w) 3 t.fL t.iL ["self"] (c_ K q 1 (sU q)):=
 λq=>d_ (k:=2) T.iA.fn Uj rfl rfl λck A outer s H E hr=>(by
  have hu:=dZ hr;exact(ax (dD (xL ["bag","self"] (sA (mT T.aO T.hX (LI T _) (xv 0))) cM (λ_ _ _ _=>(cN 0)) (λ_ _ _ _ _=>yn) (λ_ _ _ _ _=>(kc (zc (xv 0) (zc (aS (xf T.cg (xv 1)) (xv 0)) (zc (aS (xf T.cg (xv 1)) (xv 0)) (zc (aS (xf T.cg (xv 1)) (xv 0)) aH))))))))
   aJ))
end
end Carry
namespace Carry
open PySem L2
seal PE PA PT PS cA
section
variable {P:Program} {w:World} {K:PySem.W.Frag} {mg:Str->Option Value} {base:Heap} {t:dF}
theorem SQ:aw ["self","bag"] ["self","bag"] (dk G'):=aZ
def Hb(q:Nat):GS:=(av (bq (ez (ec (aA (sd q) (aj (aa 1) gN))) (gB (gO lT (au (aa 1) (bB aT "carted" (aa 0))))))
  (av (aK (gO (o2 aP) (au (bB aT "carted" (aa 0)) (aa 1))))
 ag)
  ag)
 (av (hG (aW ak "check_inside" (zV q) (aa 0) (aj (aa 1) gN)))
 (av (aK (gO (o2 aP) (au (bB aT "places" (aa 0)) (aa 1))))
 ag)))
def qf(q:Nat):GM:=runM 2 2 (Hb q)
theorem v3(T:Txt K mg t):∀q,aQ P w K mg base (cO P w) 3 t.eE t.gr ["self","bag"] (c_ K q 2 (qf q)):=
 λq=>d_ (k:=2) T.du.fn SQ rfl rfl λck A outer s H E hr=>(by
  have hu:=dZ hr;exact(ax (eI (PW.pt (nq (yt (xC T.eC (yw T _) (zc (xv 1) aH))) (pB (yc lM (xv 1) (xf T.cg (xv 0))))))
   (ax (dD (aS (xf T.cg (xv 0)) (xv 1)))
   aJ)
   aJ)
   (ax (wE (xH T.aO T.eA (Lq T _) (xv 0) (zc (xv 1) aH)))
   (ax (dD (aS (xf T.cg (xv 0)) (xv 1)))
   aJ))))
end
end Carry
namespace Carry
open PySem L2
seal PE PA PT PS cA
section
variable {P:Program} {w:World} {K:PySem.W.Frag} {mg:Str->Option Value} {base:Heap} {t:dF}
theorem RT:aw ["self","bag","flight","needed"] ["self","bag"] (dk Gg):=aZ
def Gp(q:Nat):GS:=(av (bq (gB (gO zy (au (gO (o2 aP) (au (bB aT "readings" (aa 0)) (aa 1))) (gC .az))))
  (av (aK (gC (.bl false)))
 ag)
  ag)
 (av (ay 2 false (gO (o2 aP) (au (bB aT "book" (aa 0)) (gO (o2 aP) (au (bB aT "readings" (aa 0)) (aa 1))))))
 (av (ay 3 false (aA (Ep q) (aj (bB aT "built" (aa 0)) (aj (gO (o2 aP) (au (bB aT "places" (aa 0)) (aa 1))) (aj (gO (o2 aP) (au (aa 2) (gC (.int 1)))) gN)))))
 (av (aK (pQ (gO rG (au (aa 3) (gC .az))) (gO Qz (au (gO bJ (au (bB aT "now" (aa 0)) (aa 3))) (gO (o2 aP) (au (aa 2) (gC (.int 2))))))))
 ag))))
def vX(q:Nat):GM:=runM 2 4 (Gp q)
theorem LX(T:Txt K mg t):∀q,aQ P w K mg base (cO P w) 3 t.cU t.eO ["self","bag"] (c_ K q 2 (vX q)):=
 λq=>d_ (k:=2) T.iB.fn RT rfl rfl λck A outer s H E hr=>(by
  have hu:=dZ hr;exact(ax (eI (yc y_ (aS (xf T.cg (xv 0)) (xv 1)) xn)
   (ax (dD xb)
   aJ)
   aJ)
   (ax (wS (aS (xf T.cg (xv 0)) (aS (xf T.cg (xv 0)) (xv 1))))
   (ax (wS (xC T.uy (Zu T _) (zc (xf T.cg (xv 0)) (zc (aS (xf T.cg (xv 0)) (xv 1)) (zc (aS (xv 2) xi) aH)))))
   (ax (dD (AG (xc qN (xv 3) xn) (DZ (xc Ov (xo bK (xf T.cg (xv 0)) (xv 3)) (aS (xv 2) xi)))))
   aJ)))))
end
end Carry
namespace Carry
open PySem L2
seal PE PA PT PS cA
section
variable {P:Program} {w:World} {K:PySem.W.Frag} {mg:Str->Option Value} {base:Heap} {t:dF}
theorem Uk:aw ["self","moves","bag","goal"] ["self","moves"] (dk HA):=aZ
def GP(n1:Nat):GS:=(av (bq (ec (gO (o2 i9) (aj (aa 3) (aj (gC (.ty "tuple")) gN))))
  (av (hG (aW ak "move_on" (uH n1) (aa 0) (aj (aa 2) (aj (aa 3) gN))))
 ag)
  (av (hG (aW ak "move_out" (yo n1) (aa 0) (aj (aa 2) (aj (aa 3) gN))))
 ag))
 ag)
def DC(q:Nat):GS:=(av (Ip q Br aT "now" (aa 0) (gC (.int 1)))
 (av (bQ q (bS true i_ (aa 1)) (dg [(aR 2),(aR 3)]) GP)
 ag))
def uK(q:Nat):GM:=runM 2 4 (DC q)
theorem Ul(T:Txt K mg t):∀q,aQ P w K mg base (cO P w) 3 t.fO t.iN ["self","moves"] (c_ K q 2 (uK q)):=
 λq=>d_ (k:=2) T.m_.fn Uk rfl rfl λck A outer s H E hr=>(by
  have hu:=dZ hr;exact(ax (wAI T.cg (xv 0) xi)
   (ax (wF (sA (xv 1)) (ql (gb cM (gb cM qj)) rfl) (qp (f' (cN 2) (f' (cN 3) qi))) λ_=>
   (ax (eI (yt (xB oB T.cw wx (zc (xv 3) (zc (yd T.mw He) aH))))
   (ax (wE (xH T.aO T.j' (RQ T _) (xv 0) (zc (xv 2) (zc (xv 3) aH))))
   aJ)
   (ax (wE (xH T.aO T.jD (Ro T _) (xv 0) (zc (xv 2) (zc (xv 3) aH))))
   aJ))
   aJ))
   aJ)))
end
end Carry
namespace Carry
open PySem L2
seal PE PA PT PS cA
section
variable {P:Program} {w:World} {K:PySem.W.Frag} {mg:Str->Option Value} {base:Heap} {t:dF}
theorem Rf:aw ["house","belts","carts","taken"] ["house"] (dk FL):=aZ
def LL(q:Nat):GS:=(av (ay 1 false (gO (o2 aP) (au (aa 0) (gC (.int 0)))))
 (av (ay 2 false (gO (o2 aP) (au (aa 0) (gC (.int 1)))))
 (av (ay 3 true pK)
 (av (hG (aA (C7 q) (aj (aa 2) (aj (aa 3) gN))))
 (av (hG (aA (C8 q) (aj (aa 1) (aj (aa 3) gN))))
 (av (hG (aA (C_ q) (aj (aa 1) (aj (aa 2) gN))))
 (av (hG (aA (Dc q) (aj (aa 0) gN)))
 (av (aK (gC (.bl true)))
 ag))))))))
def C9(q:Nat):GM:=runM 1 4 (LL q)
theorem Rg(T:Txt K mg t):∀q,aQ P w K mg base (cO P w) 4 t.cH t.df ["house"] (c_ K q 1 (C9 q)):=
 λq=>d_ (k:=3) T.jg.fn Rf rfl rfl λck A outer s H E hr=>(by
  have hu:=dZ hr;exact(ax (wS (aS (xv 0) xi))
   (ax (wS (aS (xv 0) xi))
   (ax (wS qg)
   (ax (wE (xC T.je (Ra T _) (zc (xv 2) (zc (xv 3) aH))))
   (ax (wE (xC T.jb (Rc T _) (zc (xv 1) (zc (xv 3) aH))))
   (ax (wE (xC T.jC (Rr T _) (zc (xv 1) (zc (xv 2) aH))))
   (ax (wE (xC T.jB (Rw T _) (zc (xv 0) aH)))
   (ax (dD xb)
   aJ)))))))))
end
end Carry
namespace Carry
open PySem L2
seal PE PA PT PS cA
section
variable {P:Program} {w:World} {K:PySem.W.Frag} {mg:Str->Option Value} {base:Heap} {t:dF}
theorem Rx:aw ["hall"] ["hall"] (dk FV):=aZ
def FI(n1:Nat):GT:=(gB (gO lF (au (gO (o2 aP) (au (gO (o2 aP) (au (aa 0) (gC (.int 2)))) (gC (.int 1)))) (gC (.int 0)))))
def LB(n1:Nat):GE:=(gO (o2 aP) (au (gO (o2 aP) (au (aa 0) (gC (.int 2)))) (gC (.int 0))))
def FZ(q:Nat):GS:=(av (aK (gO bJ (au (aW ak "stopped" (z8 q) (aa 0) gN) (cY q (bS false i_ (aW ak "bags" (sU q) (aa 0) gN)) (aR 0) FI LB 1 []))))
 ag)
def yp(q:Nat):GM:=runM 1 1 (FZ q)
theorem Ry(T:Txt K mg t):∀q,aQ P w K mg base (cO P w) 4 t.c7 t.dN ["hall"] (c_ K q 1 (yp q)):=
 λq=>d_ (k:=3) T.jA.fn Rx rfl rfl λck A outer s H E hr=>(by
  have hu:=dZ hr;exact(ax (dD (xo bK (mT T.aO T.iD (LV T _) (xv 0)) (xL ["told"] (sA (mT T.aO T.iA (Du T _) (xv 0))) cM (λ_ _ _ _=>(cN 0)) (λ_ _ _ _ _=>(y1 (yc lD (aS (aS (xv 0) xi) xi) xi))) (λ_ _ _ _ _=>(aS (aS (xv 0) xi) xi)))))
   aJ))
end
end Carry
namespace Carry
open PySem L2
seal PE PA PT PS cA
section
variable {P:Program} {w:World} {K:PySem.W.Frag} {mg:Str->Option Value} {base:Heap} {t:dF}
theorem Um:aw ["_law_script","_law_k","_law_n","_law_letters","_law_base","_law_many","_law_spot","_law_rest"] ["_law_script","_law_k","_law_n"] (dk Ht):=aZ
def HD(q:Nat):GS:=(av (ay 3 false (gC (.str "abcdefghijklmnopqrstuvwxyz")))
 (av (ay 4 false (aA (jW q) (aj (aa 0) (aj (aa 1) (aj (gC (.int 26)) gN)))))
 (av (bq (gB (gO lF (au (aA (kf q) (aj (aa 0) (aj (aa 1) (aj (gC (.int 3)) gN)))) (gC (.int 0)))))
  (av (aK (gO kh (au (gO (o2 aP) (au (aa 3) (gO jX (au (gO bJ (au (aa 4) (gO qL (au (aa 2) (gC (.int 8)))))) (gC (.int 26)))))) (gO bJ (au (gC (.int 1)) (gO jX (au (aa 2) (gC (.int 8)))))))))
 ag)
  ag)
 (av (ay 5 false (gO bJ (au (gC (.int 1)) (aA (qH q) (aj (aa 0) (aj (aa 1) (aj (gC (.int 8)) gN)))))))
 (av (ay 6 false (aA (kf q) (aj (aa 0) (aj (aa 1) (aj (aa 5) gN)))))
 (av (ay 7 false (gO (o2 aP) (au (aa 3) (aA (kC q) (aj (aa 0) (aj (aa 1) (aj (gC (.int 3)) (aj (gC (.int 26)) gN))))))))
 (av (aK (gO bJ (au (gO bJ (au (gO kh (au (aa 7) (aa 6))) (gO (o2 aP) (au (aa 3) (gO jX (au (gO bJ (au (gO kh (au (gC (.int 7)) (aa 2))) (aa 4))) (gC (.int 26)))))))) (gO kh (au (aa 7) (gO lK (au (gO lK (au (aa 5) (gC (.int 1)))) (aa 6))))))))
 ag)))))))
def sg(q:Nat):GM:=runM 3 8 (HD q)
theorem MW(T:Txt K mg t):∀q,aQ P w K mg base (cO P w) 4 t.gM t.iR ["_law_script","_law_k","_law_n"] (c_ K q 3 (sg q)):=
 λq=>d_ (k:=3) T.kO.fn Um rfl rfl λck A outer s H E hr=>(by
  have hu:=dZ hr;exact(ax (wS xs)
   (ax (wS (xC T.eK (v8 T _) (zc (xv 0) (zc (xv 1) (zc xi aH)))))
   (ax (eI (yc lD (xC T.dy (vZ T _) (zc (xv 0) (zc (xv 1) (zc xi aH)))) xi)
   (ax (dD (xo kz (aS (xv 3) (xo j8 (xo bK (xv 4) (xo rP (xv 2) xi)) xi)) (xo bK xi (xo j8 (xv 2) xi))))
   aJ)
   aJ)
   (ax (wS (xo bK xi (xC T.iZ (GN T _) (zc (xv 0) (zc (xv 1) (zc xi aH))))))
   (ax (wS (xC T.dy (vZ T _) (zc (xv 0) (zc (xv 1) (zc (xv 5) aH)))))
   (ax (wS (aS (xv 3) (xC T.dw (vY T _) (zc (xv 0) (zc (xv 1) (zc xi (zc xi aH)))))))
   (ax (dD (xo bK (xo bK (xo kz (xv 7) (xv 6)) (aS (xv 3) (xo j8 (xo bK (xo kz xi (xv 2)) (xv 4)) xi))) (xo kz (xv 7) (xo lW (xo lW (xv 5) xi) (xv 6)))))
   aJ))))))))
end
end Carry
namespace Carry
open PySem L2
seal PE PA PT PS cA
section
variable {P:Program} {w:World} {K:PySem.W.Frag} {mg:Str->Option Value} {base:Heap} {t:dF}
theorem Uo:aw ["_law_script","_law_k","_law_names","_law_carts","_law_later","_law_some","_law_outs_here","_law_spots","_law_j","_law_out"] ["_law_script","_law_k","_law_names","_law_carts"] (dk Hu):=aZ
def sT(n1:Nat):GS:=(av (ay 9 false (gO (o2 aP) (au (aa 5) (aA (kC n1) (aj (aa 0) (aj (gO bJ (au (gC (.int 6)) (aa 1))) (aj (gO bJ (au (gC (.int 1)) (aa 8))) (aj (gO (o1 iy) (aj (aa 5) gN)) gN))))))))
 (av (bq (gB (gO ku (au (aa 9) (aa 6))))
  (av (hG (jt n1 "list" Aw (aa 6) (aj (gO jX (au (gO jX (au (gO qL (au (aa 7) (gO (o2 aP) (au (bT false (aj (gC (.int 1)) (aj (gC (.int 4)) (aj (gC (.int 16)) gN)))) (aa 8))))) (gC (.int 4)))) (gO bJ (au (gO (o1 iy) (aj (aa 6) gN)) (gC (.int 1)))))) (aj (aa 9) gN))))
 ag)
  ag)
 ag))
def GQ(n1:Nat):GT:=(gB (gO lT (au (aa 0) (aa 1))))
def GR(n1:Nat):GE:=(aa 0)
def DD(q:Nat):GS:=(av (ay 4 false (AJ (aa 2) (Ec (gO bJ (au (aa 1) (gC (.int 1))))) Eb))
 (av (ay 5 false (gO bJ (au (aa 4) (aa 3))))
 (av (ay 6 true (bT false gN))
 (av (ay 7 false (aA (qH q) (aj (aa 0) (aj (gO bJ (au (gC (.int 1)) (aa 1))) (aj (gC (.int 64)) gN)))))
 (av (bQ q (j5 j7 (aj (gO bJ (au (gC (.int 1)) (aA (jW q) (aj (aa 0) (aj (gO bJ (au (gC (.int 6)) (aa 1))) (aj (gC (.int 3)) gN)))))) gN)) (aR 8) sT)
 (av (bq (ez (gB (gO ku (au (gO (o2 aP) (au (aa 3) (gC (.int 0)))) (aa 6)))) (gB (gO lF (au (gO (o1 iy) (aj (cY q (bS false i_ (aa 6)) (aR 0) GQ GR 1 [4]) gN)) (gC (.int 0))))))
  (av (hG (jt q "list" Aw (aa 6) (aj (aA (kC q) (aj (aa 0) (aj (gO bJ (au (gC (.int 1)) (aa 1))) (aj (gC (.int 3)) (aj (gO bJ (au (gO (o1 iy) (aj (aa 6) gN)) (gC (.int 1)))) gN))))) (aj (gO (o2 aP) (au (aa 3) (gC (.int 0)))) gN))))
 ag)
  ag)
 (av (aK (aa 6))
 ag)))))))
def pH(q:Nat):GM:=runM 4 10 (DD q)
theorem Uq(T:Txt K mg t):∀q,aQ P w K mg base (cO P w) 4 t.gP t.iS ["_law_script","_law_k","_law_names","_law_carts"] (c_ K q 4 (pH q)):=
 λq=>d_ (k:=3) T.ng.fn Uo rfl rfl λck A outer s H E hr=>(by
  have hu:=dZ hr;exact(ax (wS (K3 (xv 2) (HZ (xo bK (xv 1) xi)) HY))
   (ax (wS (xo bK (xv 4) (xv 3)))
   (ax (wS (pJ aH))
   (ax (wS (xC T.iZ (GN T _) (zc (xv 0) (zc (xo bK xi (xv 1)) (zc xi aH)))))
   (ax (wF (ua T.eZ (zc (xo bK xi (xC T.eK (v8 T _) (zc (xv 0) (zc (xo bK xi (xv 1)) (zc xi aH))))) aH)) cM (cN 8) λ_=>
   (ax (wS (aS (xv 5) (xC T.dw (vY T _) (zc (xv 0) (zc (xo bK xi (xv 1)) (zc (xo bK xi (xv 8)) (zc (xB jO T.fX oQ (zc (xv 5) aH)) aH)))))))
   (ax (eI (yc kj (xv 9) (xv 6))
   (ax (wE (xU Oo (xv 6) (zc (xo j8 (xo j8 (xo rP (xv 7) (aS (pJ (zc xi (zc xi (zc xi aH)))) (xv 8))) xi) (xo bK (xB jO T.fX oQ (zc (xv 6) aH)) xi)) (zc (xv 9) aH))))
   aJ)
   aJ)
   aJ)))
   (ax (eI (PW.pt (nq (yc kj (aS (xv 3) xi) (xv 6)) (pB (yc lD (xB jO T.fX oQ (zc (xL ["_law_out","_law_later"] (sA (xv 6)) cM (λ_ _ _ _=>(cN 0)) (λ_ _ _ _ _=>(y1 (yc lM (xv 0) (xv 1)))) (λ_ _ _ _ _=>(xv 0))) aH)) xi))))
   (ax (wE (xU Oo (xv 6) (zc (xC T.dw (vY T _) (zc (xv 0) (zc (xo bK xi (xv 1)) (zc xi (zc (xo bK (xB jO T.fX oQ (zc (xv 6) aH)) xi) aH))))) (zc (aS (xv 3) xi) aH))))
   aJ)
   aJ)
   (ax (dD (xv 6))
   aJ))))))))
end
end Carry
namespace Carry
open PySem L2
seal PE PA PT PS cA
section
variable {P:Program} {w:World} {K:PySem.W.Frag} {mg:Str->Option Value} {base:Heap} {t:dF}
theorem Ur:aw ["self"] ["self"] (dk Hz):=aZ
def Dk(n1:Nat):GT:=(ez (gB (gO rG (au (gO (o2 aP) (au (bB aT "readings" (aa 1)) (aa 0))) (gC .az)))) (iV (ec (aW ak "catches" (vX n1) (aa 1) (aj (aa 0) gN)))))
def Mo(n1:Nat):GE:=(aa 0)
def HE(q:Nat):GS:=(av (aK (cY q (bS false i_ (aW ak "in_order" (vW q) (aa 0) gN)) (aR 0) Dk Mo 1 [0]))
 ag)
def uL(q:Nat):GM:=runM 1 1 (HE q)
theorem Us(T:Txt K mg t):∀q,aQ P w K mg base (cO P w) 4 t.fM t.iM ["self"] (c_ K q 1 (uL q)):=
 λq=>d_ (k:=3) T.m9.fn Ur rfl rfl λck A outer s H E hr=>(by
  have hu:=dZ hr;exact(ax (dD (xL ["bag","self"] (sA (mT T.aO T.hX (LI T _) (xv 0))) cM (λ_ _ _ _=>(cN 0)) (λ_ _ _ _ _=>(y1 (PW.pt (nq (yc qN (aS (xf T.cg (xv 1)) (xv 0)) xn) (pB (sk (yt (xH T.aO T.iB (LX T _) (xv 1) (zc (xv 0) aH))))))))) (λ_ _ _ _ _=>(xv 0))))
   aJ))
end
end Carry
namespace Carry
open PySem L2
seal PE PA PT PS cA
section
variable {P:Program} {w:World} {K:PySem.W.Frag} {mg:Str->Option Value} {base:Heap} {t:dF}
theorem RU:aw ["self","bag"] ["self","bag"] (dk Gf):=aZ
def Gq(q:Nat):GS:=(av (hG (aW ak "check_inside" (zV q) (aa 0) (aj (aa 1) gN)))
 (av (bq (ec (aW ak "catches" (vX q) (aa 0) (aj (aa 1) gN)))
  (av (aK (gO (o2 aP) (au (gO (o2 aP) (au (bB aT "book" (aa 0)) (gO (o2 aP) (au (bB aT "readings" (aa 0)) (aa 1))))) (gC (.int 1)))))
 ag)
  ag)
 (av (aK (gO (o2 aP) (au (gO (o2 aP) (au (bB aT "built" (aa 0)) (gC (.int 1)))) (gC (.int 0)))))
 ag)))
def qd(q:Nat):GM:=runM 2 2 (Gq q)
theorem RV(T:Txt K mg t):∀q,aQ P w K mg base (cO P w) 4 t.cT t.eM ["self","bag"] (c_ K q 2 (qd q)):=
 λq=>d_ (k:=3) T.j9.fn RU rfl rfl λck A outer s H E hr=>(by
  have hu:=dZ hr;exact(ax (wE (xH T.aO T.eA (Lq T _) (xv 0) (zc (xv 1) aH)))
   (ax (eI (yt (xH T.aO T.iB (LX T _) (xv 0) (zc (xv 1) aH)))
   (ax (dD (aS (aS (xf T.cg (xv 0)) (aS (xf T.cg (xv 0)) (xv 1))) xi))
   aJ)
   aJ)
   (ax (dD (aS (aS (xf T.cg (xv 0)) xi) xi))
   aJ))))
end
end Carry
namespace Carry
open PySem L2
seal PE PA PT PS cA
section
variable {P:Program} {w:World} {K:PySem.W.Frag} {mg:Str->Option Value} {base:Heap} {t:dF}
theorem Ut:aw ["hall","house","busy","told","bag","flight","place","gone","belt","goal"] ["hall"] (dk Hm):=aZ
def yA(n1:Nat):GS:=(av (ay 8 false (aA (v7 n1) (aj (aa 1) (aj (gO (o2 aP) (au (aa 6) (gC (.int 0)))) gN))))
 (av (bq (gB (gO xG (au (gO bJ (au (gO (o2 aP) (au (aa 6) (gC (.int 1)))) (gC (.int 1)))) (gO (o2 aP) (au (aa 8) (gC (.int 1)))))))
  (av (ay 9 false (bT true (aj (gO (o2 aP) (au (aa 6) (gC (.int 0)))) (aj (gO bJ (au (gO (o2 aP) (au (aa 6) (gC (.int 1)))) (gC (.int 1)))) gN))))
 ag)
  (av (bq (ez (ec (gO (o2 aP) (au (aa 8) (gC (.int 2))))) (ez (gB (gO zy (au (aa 5) (gC .az)))) (gB (gO xG (au (aa 7) (aW ak "rounds" (Dj n1) (aa 0) gN))))))
  (av (ay 9 false (bT true (aj (gO (o2 aP) (au (aa 6) (gC (.int 0)))) (aj (gC (.int 0)) gN))))
 ag)
  (av (ay 9 false (aA (r_ n1) (aj (aa 1) (aj (aa 8) (aj (aW ak "cart_of" (qd n1) (aa 0) (aj (aa 4) gN)) (aj (aa 2) gN))))))
 ag))
 ag))
 (av (hG (jt n1 "list" sj (aa 3) (aj (bT true (aj (aa 4) (aj (aa 9) gN))) gN)))
 ag)))
def v_(q:Nat):GS:=(av (ay 1 false (aW ak "house" (Dt q) (aa 0) gN))
 (av (ay 2 false (aA (yp q) (aj (aa 0) gN)))
 (av (ay 3 true (bT false gN))
 (av (bQ q (bS true i_ (aW ak "bags" (sU q) (aa 0) gN)) (dg [(aR 4),(aR 5),(aR 6),(aR 7)]) yA)
 (av (aK (aa 3))
 ag)))))
def ni(q:Nat):GM:=runM 1 10 (v_ q)
theorem Uu(T:Txt K mg t):∀q,aQ P w K mg base (cO P w) 5 t.gR t.iU ["hall"] (c_ K q 1 (ni q)):=
 λq=>d_ (k:=4) T.nh.fn Ut rfl rfl λck A outer s H E hr=>(by
  have hu:=dZ hr;exact(ax (wS (mT T.aO T.lZ (SO T _) (xv 0)))
   (ax (wS (xC T.jA (Ry T _) (zc (xv 0) aH)))
   (ax (wS (pJ aH))
   (ax (wF (sA (mT T.aO T.iA (Du T _) (xv 0))) (ql (gb cM (gb cM (gb cM (gb cM qj)))) rfl) (qp (f' (cN 4) (f' (cN 5) (f' (cN 6) (f' (cN 7) qi))))) λ_=>
   (ax (wS (xC T.gd (Di T _) (zc (xv 1) (zc (aS (xv 6) xi) aH))))
   (ax (eI (yc wI (xo bK (aS (xv 6) xi) xi) (aS (xv 8) xi))
   (ax (wS (kc (zc (aS (xv 6) xi) (zc (xo bK (aS (xv 6) xi) xi) aH))))
   aJ)
   (ax (eI (PW.pt (nq (yt (aS (xv 8) xi)) (nq (yc y_ (xv 5) xn) (pB (yc wI (xv 7) (mT T.aO T.kM (R3 T _) (xv 0)))))))
   (ax (wS (kc (zc (aS (xv 6) xi) (zc xi aH))))
   aJ)
   (ax (wS (xC T.kQ (R8 T _) (zc (xv 1) (zc (xv 8) (zc (xH T.aO T.j9 (RV T _) (xv 0) (zc (xv 4) aH)) (zc (xv 2) aH))))))
   aJ))
   aJ))
   (ax (wE (xU wd (xv 3) (zc (kc (zc (xv 4) (zc (xv 9) aH))) aH)))
   aJ))))
   (ax (dD (xv 3))
   aJ))))))
end
end Carry
namespace Carry
open PySem L2
seal PE PA PT PS cA
section
variable {P:Program} {w:World} {K:PySem.W.Frag} {mg:Str->Option Value} {base:Heap} {t:dF}
theorem SR:aw ["_law_script","_law_names","_law_carts","_law_belts","_law_k","_law_ring","_law_long"] ["_law_script"] (dk G9):=aZ
def Dg(n1:Nat):GE:=(aA (sg n1) (aj (aa 1) (aj (gC (.int 11)) (aj (aa 0) gN))))
def Dh(n1:Nat):GE:=(aA (sg n1) (aj (aa 1) (aj (gC (.int 11)) (aj (gO bJ (au (gC (.int 10)) (aa 0))) gN))))
def oP(n1:Nat):GS:=(av (ay 5 false (gO lF (au (aA (jW n1) (aj (aa 0) (aj (gO bJ (au (gC (.int 1)) (aa 4))) (aj (gC (.int 3)) gN)))) (gC (.int 0)))))
 (av (ay 6 false (gO bJ (au (gC (.int 1)) (aA (kf n1) (aj (aa 0) (aj (gO bJ (au (gC (.int 1)) (aa 4))) (aj (gC (.int 5)) gN)))))))
 (av (bq (ez (gB (gO lF (au (aa 4) (gC (.int 0))))) (ez (gB (gO xG (au (gO (o1 iy) (aj (aa 1) gN)) (gC (.int 3))))) (gB (gO lF (au (aA (qH n1) (aj (aa 0) (aj (gC (.int 0)) (aj (gC (.int 3)) gN)))) (gC (.int 1)))))))
  (av (ay 6 false (gO bJ (au (gC (.int 10)) (aA (kC n1) (aj (aa 0) (aj (gC (.int 0)) (aj (gC (.int 3)) (aj (gC (.int 14)) gN))))))))
 ag)
  ag)
 (av (bq (ec (aa 5))
  (av (ay 6 false (gO bJ (au (aa 6) (gC (.int 1)))))
 ag)
  ag)
 (av (hG (jt n1 "list" sj (aa 3) (aj (bT true (aj (gO (o2 aP) (au (aa 1) (aa 4))) (aj (aa 6) (aj (aa 5) (aj (aA (pH n1) (aj (aa 0) (aj (aa 4) (aj (aa 1) (aj (aa 2) gN))))) gN))))) gN)))
 ag)))))
def MX(q:Nat):GS:=(av (ay 1 false (cY q (j5 j7 (aj (gO bJ (au (gC (.int 1)) (aA (jW q) (aj (aa 0) (aj (gC (.int 0)) (aj (gC (.int 5)) gN)))))) gN)) (aR 0) (λ_=>mh true) Dg 1 [0]))
 (av (ay 2 false (cY q (j5 j7 (aj (gO bJ (au (gC (.int 1)) (aA (kf q) (aj (aa 0) (aj (gC (.int 0)) (aj (gC (.int 4)) gN)))))) gN)) (aR 0) (λ_=>mh true) Dh 1 [0]))
 (av (ay 3 true (bT false gN))
 (av (bQ q (j5 j7 (aj (gO (o1 iy) (aj (aa 1) gN)) gN)) (aR 4) oP)
 (av (aK (bT true (aj (aa 3) (aj (aa 2) gN))))
 ag)))))
def v9(q:Nat):GM:=runM 1 7 (MX q)
theorem SS(T:Txt K mg t):∀q,aQ P w K mg base (cO P w) 5 t.fy t.gw ["_law_script"] (c_ K q 1 (v9 q)):=
 λq=>d_ (k:=4) T.l0.fn SR rfl rfl λck A outer s H E hr=>(by
  have hu:=dZ hr;exact(ax (wL ["_law_k","_law_script"] (ua T.eZ (zc (xo bK xi (xC T.eK (v8 T _) (zc (xv 0) (zc xi (zc xi aH))))) aH)) cM (λ_ _ _ _=>(cN 0)) (λ_ _ _ _ _=>yn) (λ_ _ _ _ _=>(xC T.kO (MW T _) (zc (xv 1) (zc xi (zc (xv 0) aH))))))
   (ax (wL ["_law_k","_law_script"] (ua T.eZ (zc (xo bK xi (xC T.dy (vZ T _) (zc (xv 0) (zc xi (zc xi aH))))) aH)) cM (λ_ _ _ _=>(cN 0)) (λ_ _ _ _ _=>yn) (λ_ _ _ _ _=>(xC T.kO (MW T _) (zc (xv 1) (zc xi (zc (xo bK xi (xv 0)) aH))))))
   (ax (wS (pJ aH))
   (ax (wF (ua T.eZ (zc (xB jO T.fX oQ (zc (xv 1) aH)) aH)) cM (cN 4) λ_=>
   (ax (wS (xc lD (xC T.eK (v8 T _) (zc (xv 0) (zc (xo bK xi (xv 4)) (zc xi aH)))) xi))
   (ax (wS (xo bK xi (xC T.dy (vZ T _) (zc (xv 0) (zc (xo bK xi (xv 4)) (zc xi aH))))))
   (ax (eI (PW.pt (nq (yc lD (xv 4) xi) (nq (yc wI (xB jO T.fX oQ (zc (xv 1) aH)) xi) (pB (yc lD (xC T.iZ (GN T _) (zc (xv 0) (zc xi (zc xi aH)))) xi)))))
   (ax (wS (xo bK xi (xC T.dw (vY T _) (zc (xv 0) (zc xi (zc xi (zc xi aH)))))))
   aJ)
   aJ)
   (ax (eI (yt (xv 5))
   (ax (wS (xo bK (xv 6) xi))
   aJ)
   aJ)
   (ax (wE (xU wd (xv 3) (zc (kc (zc (aS (xv 1) (xv 4)) (zc (xv 6) (zc (xv 5) (zc (xC T.ng (Uq T _) (zc (xv 0) (zc (xv 4) (zc (xv 1) (zc (xv 2) aH))))) aH))))) aH)))
   aJ))))))
   (ax (dD (kc (zc (xv 3) (zc (xv 2) aH))))
   aJ))))))
end
end Carry
namespace Carry
open PySem L2
seal PE PA PT PS cA
section
variable {P:Program} {w:World} {K:PySem.W.Frag} {mg:Str->Option Value} {base:Heap} {t:dF}
theorem Uv:aw ["self","house","rounds"] ["self","house","rounds"] (dk Hx):=aZ
def NA(q:Nat):GS:=(av (hG (aA (C9 q) (aj (aa 1) gN)))
 (av (iq q aT "built" (aA (Am q) (aj (aa 1) gN)) (aa 0))
 (av (iq q aT "told_rounds" (aa 2) (aa 0))
 (av (iq q aT "now" (gC (.int 0)) (aa 0))
 (av (iq q aT "book" (lh pK) (aa 0))
 (av (iq q aT "halts" pK (aa 0))
 (av (iq q aT "places" (lh pK) (aa 0))
 (av (iq q aT "readings" (lh pK) (aa 0))
 (av (iq q aT "rounded" (lh pK) (aa 0))
 (av (iq q aT "gone" (lh (bT false gN)) (aa 0))
 (av (iq q aT "carted" (lh pK) (aa 0))
 ag)))))))))))
def yI(q:Nat):GM:=runM 3 3 (NA q)
theorem Uw(T:Txt K mg t):∀q,aQ P w K mg base (cO P w) 5 t.eU t.gq ["self","house","rounds"] (c_ K q 3 (yI q)):=
 λq=>d_ (k:=4) T.qz Uv rfl rfl λck A outer s H E hr=>(by
  have hu:=dZ hr;exact(ax (wE (xC T.jg (Rg T _) (zc (xv 1) aH)))
   (ax (wA T.cg (xv 0) (xC T.kK (MR T _) (zc (xv 1) aH)))
   (ax (wA T.cg (xv 0) (xv 2))
   (ax (wA T.cg (xv 0) xi)
   (ax (wA T.cg (xv 0) (yO qg))
   (ax (wA T.cg (xv 0) qg)
   (ax (wA T.cg (xv 0) (yO qg))
   (ax (wA T.cg (xv 0) (yO qg))
   (ax (wA T.cg (xv 0) (yO qg))
   (ax (wA T.cg (xv 0) (yO (pJ aH)))
   (ax (wA T.cg (xv 0) (yO qg))
   aJ))))))))))))
end
end Carry
namespace Carry
open PySem L2
seal PE PA PT PS cA
section
variable {P:Program} {w:World} {K:PySem.W.Frag} {mg:Str->Option Value} {base:Heap} {t:dF}
theorem XM:aw ["hall","bags","goals","whys","log","moves","bag","flight","place","gone"] ["hall"] (dk Iv):=aZ
def HF(n1:Nat):GS:=(av (bq (gB (gO lT (au (aa 6) (aa 3))))
  (av (hG (jt n1 "list" sj (aa 4) (aj (bT true (aj (aa 6) (aj (aa 8) (aj (aa 8) (aj (gO (o2 aP) (au (aa 3) (aa 6))) gN))))) gN)))
 ag)
  (av (hG (jt n1 "list" sj (aa 4) (aj (bT true (aj (aa 6) (aj (aa 8) (aj (gO (o2 aP) (au (aa 2) (aa 6))) (aj (gC .az) gN))))) gN)))
 (av (hG (jt n1 "list" sj (aa 5) (aj (bT true (aj (aa 6) (aj (gO (o2 aP) (au (aa 2) (aa 6))) gN))) gN)))
 ag)))
 ag)
def Ei(q:Nat):GS:=(av (ay 1 false (aW ak "bags" (sU q) (aa 0) gN))
 (av (ay 2 false (gO (o1 oS) (aj (aA (ni q) (aj (aa 0) gN)) gN)))
 (av (ay 3 true pK)
 (av (hG (aA (uE q) (aj (aa 1) (aj (aa 2) (aj (aW ak "stopped" (z8 q) (aa 0) gN) (aj (aa 3) gN))))))
 (av (hG (aA (uC q) (aj (aa 1) (aj (aa 2) (aj (aa 3) gN)))))
 (av (hG (aA (uF q) (aj (aa 1) (aj (aa 2) (aj (aa 3) gN)))))
 (av (ay 4 true (bT false gN))
 (av (ay 5 true (bT false gN))
 (av (bQ q (bS true i_ (aa 1)) (dg [(aR 6),(aR 7),(aR 8),(aR 9)]) HF)
 (av (hG (aW ak "move" (uK q) (aa 0) (aj (aa 5) gN)))
 (av (aK (aa 4))
 ag)))))))))))
def l6(q:Nat):GM:=runM 1 10 (Ei q)
theorem DW(T:Txt K mg t):∀q,aQ P w K mg base (cO P w) 6 t.jZ t.k9 ["hall"] (c_ K q 1 (l6 q)):=
 λq=>d_ (k:=5) T.kR.fn XM rfl rfl λck A outer s H E hr=>(by
  have hu:=dZ hr;exact(ax (wS (mT T.aO T.iA (Du T _) (xv 0)))
   (ax (wS (xT By T.wC Xl (zc (xC T.nh (Uu T _) (zc (xv 0) aH)) aH)))
   (ax (wS qg)
   (ax (wE (xC T.ip (QW T _) (zc (xv 1) (zc (xv 2) (zc (mT T.aO T.iD (LV T _) (xv 0)) (zc (xv 3) aH))))))
   (ax (wE (xC T.gh (QP T _) (zc (xv 1) (zc (xv 2) (zc (xv 3) aH)))))
   (ax (wE (xC T.iG (Q2 T _) (zc (xv 1) (zc (xv 2) (zc (xv 3) aH)))))
   (ax (wS (pJ aH))
   (ax (wS (pJ aH))
   (ax (wF (sA (xv 1)) (ql (gb cM (gb cM (gb cM (gb cM qj)))) rfl) (qp (f' (cN 6) (f' (cN 7) (f' (cN 8) (f' (cN 9) qi))))) λ_=>
   (ax (eI (yc lM (xv 6) (xv 3))
   (ax (wE (xU wd (xv 4) (zc (kc (zc (xv 6) (zc (xv 8) (zc (xv 8) (zc (aS (xv 3) (xv 6)) aH))))) aH)))
   aJ)
   (ax (wE (xU wd (xv 4) (zc (kc (zc (xv 6) (zc (xv 8) (zc (aS (xv 2) (xv 6)) (zc xn aH))))) aH)))
   (ax (wE (xU wd (xv 5) (zc (kc (zc (xv 6) (zc (aS (xv 2) (xv 6)) aH))) aH)))
   aJ)))
   aJ))
   (ax (wE (xH T.aO T.m_ (Ul T _) (xv 0) (zc (xv 5) aH)))
   (ax (dD (xv 4))
   aJ))))))))))))
end
end Carry
namespace Carry
open PySem L2
seal PE PA PT PS cA
section
variable {P:Program} {w:World} {K:PySem.W.Frag} {mg:Str->Option Value} {base:Heap} {t:dF}
theorem Q5:aw ["_law_hall","_law_house_here","_law_bag","_law_cart","_law_late","_law_count","_law_k","_law_spot"] ["_law_hall","_law_house_here","_law_bag","_law_cart","_law_late"] (dk FD):=aZ
def CW(n1:Nat):GS:=(av (ay 7 false (aW ak "where" (qf n1) (aa 0) (aj (aa 2) gN)))
 (av (bq (km (ec (gO (o2 i9) (aj (aa 7) (aj (gC (.ty "str")) gN)))) (gB (gO ER (au (aA (sf n1) (aj (aa 1) (aj (aa 7) (aj (aa 3) gN)))) (gO lK (au (aa 5) (aa 6)))))))
  (av (aK (gC (.bl false)))
 ag)
  ag)
 (av (bq (gB (gO ER (au (aW ak "late" (uL n1) (aa 0) gN) (wQ (ec (aa 4)) (bT false (aj (aa 2) gN)) (bT false gN)))))
  (av (aK (gC (.bl false)))
 ag)
  ag)
 (av (hG (aA (l6 n1) (aj (aa 0) gN)))
 ag))))
def LC(q:Nat):GS:=(av (ay 5 false (aA (sf q) (aj (aa 1) (aj (aW ak "where" (qf q) (aa 0) (aj (aa 2) gN)) (aj (aa 3) gN)))))
 (av (bQ q (j5 j7 (aj (aa 5) gN)) (aR 6) CW)
 (av (aK (pQ (gO lF (au (aW ak "where" (qf q) (aa 0) (aj (aa 2) gN)) (aa 3))) (pQ (gO lF (au (gO (o2 aP) (au (aW ak "out" (Ay q) (aa 0) gN) (gO (o1 pZ) (ow (gC (.int 1)))))) (bT true (aj (aa 2) (aj (aa 3) (aj (aW ak "moment" (uI q) (aa 0) gN) gN)))))) (gO lF (au (aW ak "bags" (sU q) (aa 0) gN) (bT false gN))))))
 ag)))
def uG(q:Nat):GM:=runM 5 8 (LC q)
theorem FA(T:Txt K mg t):∀q,aQ P w K mg base (cO P w) 7 t.bZ t.cR ["_law_hall","_law_house_here","_law_bag","_law_cart","_law_late"] (c_ K q 5 (uG q)):=
 λq=>d_ (k:=6) T.dH.fn Q5 rfl rfl λck A outer s H E hr=>(by
  have hu:=dZ hr;exact(ax (wS (xC T.iF (Ds T _) (zc (xv 1) (zc (xH T.aO T.du (v3 T _) (xv 0) (zc (xv 2) aH)) (zc (xv 3) aH)))))
   (ax (wF (ua T.eZ (zc (xv 5) aH)) cM (cN 6) λ_=>
   (ax (wS (xH T.aO T.du (v3 T _) (xv 0) (zc (xv 2) aH)))
   (ax (eI (PW.pt (qK (yt (xB oB T.cw wx (zc (xv 7) (zc (yd T.qM Ik) aH)))) (sL (yc Em (xC T.iF (Ds T _) (zc (xv 1) (zc (xv 7) (zc (xv 3) aH)))) (xo lW (xv 5) (xv 6))))))
   (ax (dD xb)
   aJ)
   aJ)
   (ax (eI (yc Em (mT T.aO T.m9 (Us T _) (xv 0)) (AS (yt (xv 4)) (pJ (zc (xv 2) aH)) (pJ aH)))
   (ax (dD xb)
   aJ)
   aJ)
   (ax (wE (xC T.kR (DW T _) (zc (xv 0) aH)))
   aJ)))))
   (ax (dD (AG (xc lD (xH T.aO T.du (v3 T _) (xv 0) (zc (xv 2) aH)) (xv 3)) (AG (xc lD (aS (mT T.aO T.mq (Nu T _) (xv 0)) (yb xi)) (kc (zc (xv 2) (zc (xv 3) (zc (mT T.aO T.eB (z6 T _) (xv 0)) aH))))) (DZ (xc lD (mT T.aO T.iA (Du T _) (xv 0)) (pJ aH))))))
   aJ))))
end
end Carry
namespace Carry
open PySem L2
seal PE PA PT PS cA
section
variable {P:Program} {w:World} {K:PySem.W.Frag} {mg:Str->Option Value} {base:Heap} {t:dF}
theorem Q6:aw ["_law_hall","_law_house_here","_law_bag","_law_k","_law_spot","_law_belt"] ["_law_hall","_law_house_here","_law_bag"] (dk FE):=aZ
def zW(n2:Nat):GT:=(gB (gO lF (au (gO (o2 aP) (au (aa 0) (gC (.int 0)))) (gO (o2 aP) (au (aa 1) (gC (.int 0)))))))
def zX(n2:Nat):GE:=(aa 0)
def uD(n1:Nat):GS:=(av (ay 4 false (aW ak "where" (qf n1) (aa 0) (aj (aa 2) gN)))
 (av (bq (ec (gO (o2 i9) (aj (aa 4) (aj (gC (.ty "str")) gN))))
  (av (aK (gC .az))
 ag)
  ag)
 (av (ay 5 false (gO (o2 aP) (au (cY n1 (bS false i_ (gO (o2 aP) (au (aa 1) (gC (.int 0))))) (aR 0) zW zX 1 [4]) (gC (.int 0)))))
 (av (bq (ez (ec (gO (o2 aP) (au (aa 5) (gC (.int 2))))) (gB (gO lF (au (gO (o2 aP) (au (aa 4) (gC (.int 1)))) (gO lK (au (gO (o2 aP) (au (aa 5) (gC (.int 1)))) (gC (.int 1))))))))
  (av (aK (aa 5))
 ag)
  ag)
 (av (hG (aA (l6 n1) (aj (aa 0) gN)))
 ag)))))
def FJ(q:Nat):GS:=(av (bQ q (j5 j7 (aj (gC (.int 40)) gN)) (aR 3) uD)
 (av (aK (gC .az))
 ag))
def zZ(q:Nat):GM:=runM 3 6 (FJ q)
theorem Q7(T:Txt K mg t):∀q,aQ P w K mg base (cO P w) 7 t.bY t.cQ ["_law_hall","_law_house_here","_law_bag"] (c_ K q 3 (zZ q)):=
 λq=>d_ (k:=6) T.iE.fn Q6 rfl rfl λck A outer s H E hr=>(by
  have hu:=dZ hr;exact(ax (wF (ua T.eZ (zc xi aH)) cM (cN 3) λ_=>
   (ax (wS (xH T.aO T.du (v3 T _) (xv 0) (zc (xv 2) aH)))
   (ax (eI (yt (xB oB T.cw wx (zc (xv 4) (zc (yd T.qM Ik) aH))))
   (ax (dD xn)
   aJ)
   aJ)
   (ax (wS (aS (xL ["_law_belt","_law_spot"] (sA (aS (xv 1) xi)) cM (λ_ _ _ _=>(cN 0)) (λ_ _ _ _ _=>(y1 (yc lD (aS (xv 0) xi) (aS (xv 1) xi)))) (λ_ _ _ _ _=>(xv 0))) xi))
   (ax (eI (PW.pt (nq (yt (aS (xv 5) xi)) (pB (yc lD (aS (xv 4) xi) (xo lW (aS (xv 5) xi) xi)))))
   (ax (dD (xv 5))
   aJ)
   aJ)
   (ax (wE (xC T.kR (DW T _) (zc (xv 0) aH)))
   aJ))))))
   (ax (dD xn)
   aJ)))
end
end Carry
namespace Carry
open PySem L2
seal PE PA PT PS cA
section
variable {P:Program} {w:World} {K:PySem.W.Frag} {mg:Str->Option Value} {base:Heap} {t:dF}
theorem R9:aw ["_law_hall","_law_house_here","_law_bag","_law_rounds","_law_start","_law_whole","_law_ring","_law_k"] ["_law_hall","_law_house_here","_law_bag","_law_rounds"] (dk Gz):=aZ
def z5(n1:Nat):GS:=(av (hG (aA (l6 n1) (aj (aa 0) gN)))
 (av (bq (gB (gO ER (au (aW ak "where" (qf n1) (aa 0) (aj (aa 2) gN)) (bT true (aj (gO (o2 aP) (au (aa 6) (gC (.int 0)))) (aj (gO jX (au (aa 7) (gO (o2 aP) (au (aa 6) (gC (.int 1)))))) gN))))))
  (av (aK (gC (.bl false)))
 ag)
  ag)
 ag))
def GU(q:Nat):GS:=(av (ay 4 false (aW ak "moment" (uI q) (aa 0) gN))
 (av (ay 5 false (aA (sf q) (aj (aa 1) (aj (aW ak "where" (qf q) (aa 0) (aj (aa 2) gN)) (aj (gO (o2 aP) (au (gO (o2 aP) (au (aa 1) (gC (.int 1)))) (gC (.int 0)))) gN)))))
 (av (ay 6 false (aA (zZ q) (aj (aa 0) (aj (aa 1) (aj (aa 2) gN)))))
 (av (bq (gB (gO zy (au (aa 6) (gC .az))))
  (av (aK (pQ (gO lF (au (aW ak "where" (qf q) (aa 0) (aj (aa 2) gN)) (gO (o2 aP) (au (gO (o2 aP) (au (aa 1) (gC (.int 1)))) (gC (.int 0)))))) (gO lF (au (gO (o2 aP) (au (gO (o2 aP) (au (aW ak "out" (Ay q) (aa 0) gN) (gO (o1 pZ) (ow (gC (.int 1)))))) (gC (.int 2)))) (gO bJ (au (aa 4) (aa 5)))))))
 ag)
  ag)
 (av (bQ q (j5 j7 (aj (gO kh (au (aa 3) (gO (o2 aP) (au (aa 6) (gC (.int 1)))))) gN)) (aR 7) z5)
 (av (aK (pQ (aA (uG q) (aj (aa 0) (aj (aa 1) (aj (aa 2) (aj (gO (o2 aP) (au (gO (o2 aP) (au (aa 1) (gC (.int 1)))) (gC (.int 0)))) (aj (gC (.bl false)) gN)))))) (gO lF (au (aW ak "moment" (uI q) (aa 0) gN) (gO bJ (au (gO bJ (au (aa 4) (aa 5))) (gO kh (au (aa 3) (gO (o2 aP) (au (aa 6) (gC (.int 1))))))))))))
 ag))))))
def yB(q:Nat):GM:=runM 4 8 (GU q)
theorem R_(T:Txt K mg t):∀q,aQ P w K mg base (cO P w) 8 t.eF t.fJ ["_law_hall","_law_house_here","_law_bag","_law_rounds"] (c_ K q 4 (yB q)):=
 λq=>d_ (k:=7) T.kP.fn R9 rfl rfl λck A outer s H E hr=>(by
  have hu:=dZ hr;exact(ax (wS (mT T.aO T.eB (z6 T _) (xv 0)))
   (ax (wS (xC T.iF (Ds T _) (zc (xv 1) (zc (xH T.aO T.du (v3 T _) (xv 0) (zc (xv 2) aH)) (zc (aS (aS (xv 1) xi) xi) aH)))))
   (ax (wS (xC T.iE (Q7 T _) (zc (xv 0) (zc (xv 1) (zc (xv 2) aH)))))
   (ax (eI (yc y_ (xv 6) xn)
   (ax (dD (AG (xc lD (xH T.aO T.du (v3 T _) (xv 0) (zc (xv 2) aH)) (aS (aS (xv 1) xi) xi)) (DZ (xc lD (aS (aS (mT T.aO T.mq (Nu T _) (xv 0)) (yb xi)) xi) (xo bK (xv 4) (xv 5))))))
   aJ)
   aJ)
   (ax (wF (ua T.eZ (zc (xo kz (xv 3) (aS (xv 6) xi)) aH)) cM (cN 7) λ_=>
   (ax (wE (xC T.kR (DW T _) (zc (xv 0) aH)))
   (ax (eI (yc Em (xH T.aO T.du (v3 T _) (xv 0) (zc (xv 2) aH)) (kc (zc (aS (xv 6) xi) (zc (xo j8 (xv 7) (aS (xv 6) xi)) aH))))
   (ax (dD xb)
   aJ)
   aJ)
   aJ)))
   (ax (dD (AG (xC T.dH (FA T _) (zc (xv 0) (zc (xv 1) (zc (xv 2) (zc (aS (aS (xv 1) xi) xi) (zc xb aH)))))) (DZ (xc lD (mT T.aO T.eB (z6 T _) (xv 0)) (xo bK (xo bK (xv 4) (xv 5)) (xo kz (xv 3) (aS (xv 6) xi)))))))
   aJ)))))))
end
end Carry
namespace Carry
open PySem L2
seal PE PA PT PS cA
section
variable {P:Program} {w:World} {K:PySem.W.Frag} {mg:Str->Option Value} {base:Heap} {t:dF}
theorem Zx:aw ["_law_script","_law_house_here","_law_rounds","_law_hall","_law_k","_law_belt","_law_cart","_law_whole","_law_more","_law_closing"] ["_law_script"] (dk IP):=aZ
def we(n1:Nat):GS:=(av (hG (aA (l6 n1) (aj (aa 3) gN)))
 ag)
def AV(q:Nat):GS:=(av (ay 1 false (aA (v9 q) (aj (aa 0) gN)))
 (av (ay 2 false (aA (jW q) (aj (aa 0) (aj (gC (.int 14)) (aj (gC (.int 4)) gN)))))
 (av (ay 3 false (oV ak (yI q) (aj (aa 1) (aj (aa 2) gN))))
 (av (bQ q (j5 j7 (aj (aA (kf q) (aj (aa 0) (aj (gC (.int 14)) (aj (gC (.int 21)) gN)))) gN)) (aR 4) we)
 (av (ay 5 false (gO (o2 aP) (au (gO (o2 aP) (au (gO (o2 aP) (au (aa 1) (gC (.int 0)))) (aA (jW q) (aj (aa 0) (aj (gC (.int 15)) (aj (gO (o1 iy) (aj (gO (o2 aP) (au (aa 1) (gC (.int 0)))) gN)) gN)))))) (gC (.int 0)))))
 (av (bq (km (gB (gO lF (au (gO (o1 iy) (aj (gO (o2 aP) (au (aa 1) (gC (.int 1)))) gN)) (gC (.int 1))))) (gB (gO lF (au (aA (jW q) (aj (aa 0) (aj (gC (.int 16)) (aj (gC (.int 3)) gN)))) (gC (.int 0))))))
  (av (hG (aW ak "put" (sX q) (aa 3) (aj (gC (.str "bag")) (aj (gC .az) (aj (aa 5) gN)))))
 (av (aK (aA (yB q) (aj (aa 3) (aj (aa 1) (aj (gC (.str "bag")) (aj (aa 2) gN))))))
 ag))
  ag)
 (av (ay 6 false (gO (o2 aP) (au (gO (o2 aP) (au (aa 1) (gC (.int 1)))) (gO bJ (au (gC (.int 1)) (aA (kf q) (aj (aa 0) (aj (gC (.int 15)) (aj (gO lK (au (gO (o1 iy) (aj (gO (o2 aP) (au (aa 1) (gC (.int 1)))) gN)) (gC (.int 1)))) gN)))))))))
 (av (ay 7 false (aA (sf q) (aj (aa 1) (aj (bT true (aj (aa 5) (aj (gC (.int 0)) gN))) (aj (aa 6) gN)))))
 (av (ay 8 false (gO (o2 aP) (au (bT false (aj (gO (o1 pZ) (ow (gC (.int 1)))) (aj (gC (.int 0)) (aj (gC (.int 1)) (aj (gC (.int 7)) gN))))) (aA (kf q) (aj (aa 0) (aj (gC (.int 16)) (aj (gC (.int 4)) gN)))))))
 (av (hG (aW ak "flight" (Aa q) (aa 3) (aj (gC (.str "fly")) (aj (aa 6) (aj (gO (o2 rm) (aj (gC (.int 0)) (aj (gO bJ (au (gO bJ (au (aW ak "moment" (uI q) (aa 3) gN) (aa 8))) (wQ (gB (gO zy (au (aa 7) (gC .az)))) (gC (.int 0)) (aa 7)))) gN))) gN)))))
 (av (hG (aW ak "put" (sX q) (aa 3) (aj (gC (.str "bag")) (aj (gC (.str "fly")) (aj (aa 5) gN)))))
 (av (ay 9 false (gO (o2 aP) (au (gO (o2 aP) (au (aW ak "flights" (Df q) (aa 3) gN) (gC (.int 0)))) (gC (.int 2)))))
 (av (bq (ez (gB (gO rG (au (aa 7) (gC .az)))) (gB (gO Qz (au (gO bJ (au (aW ak "moment" (uI q) (aa 3) gN) (aa 7))) (aa 9)))))
  (av (aK (aA (uG q) (aj (aa 3) (aj (aa 1) (aj (gC (.str "bag")) (aj (aa 6) (aj (gC (.bl false)) gN)))))))
 ag)
  ag)
 (av (aK (aA (uG q) (aj (aa 3) (aj (aa 1) (aj (gC (.str "bag")) (aj (gO (o2 aP) (au (gO (o2 aP) (au (aa 1) (gC (.int 1)))) (gC (.int 0)))) (aj (gC (.bl true)) gN)))))))
 ag))))))))))))))
def y9(q:Nat):GM:=runM 1 10 (AV q)
theorem Zy(T:Txt K mg t):∀q,aQ P w K mg base (cO P w) 9 t.mf t.l9 ["_law_script"] (c_ K q 1 (y9 q)):=
 λq=>d_ (k:=8) T.zO.fn Zx rfl rfl λck A outer s H E hr=>(by
  have hu:=dZ hr;exact(ax (wS (xC T.l0 (SS T _) (zc (xv 0) aH)))
   (ax (wS (xC T.eK (v8 T _) (zc (xv 0) (zc xi (zc xi aH)))))
   (ax (wS (xN T.sO T.tR T.qy (Uw T _) (zc (xv 1) (zc (xv 2) aH))))
   (ax (wF (ua T.eZ (zc (xC T.dy (vZ T _) (zc (xv 0) (zc xi (zc xi aH)))) aH)) cM (cN 4) λ_=>
   (ax (wE (xC T.kR (DW T _) (zc (xv 3) aH)))
   aJ))
   (ax (wS (aS (aS (aS (xv 1) xi) (xC T.eK (v8 T _) (zc (xv 0) (zc xi (zc (xB jO T.fX oQ (zc (aS (xv 1) xi) aH)) aH))))) xi))
   (ax (eI (PW.pt (qK (yc lD (xB jO T.fX oQ (zc (aS (xv 1) xi) aH)) xi) (sL (yc lD (xC T.eK (v8 T _) (zc (xv 0) (zc xi (zc xi aH)))) xi))))
   (ax (wE (xH T.aO T.mr (Nz T _) (xv 3) (zc xs (zc xn (zc (xv 5) aH)))))
   (ax (dD (xC T.kP (R_ T _) (zc (xv 3) (zc (xv 1) (zc xs (zc (xv 2) aH))))))
   aJ))
   aJ)
   (ax (wS (aS (aS (xv 1) xi) (xo bK xi (xC T.dy (vZ T _) (zc (xv 0) (zc xi (zc (xo lW (xB jO T.fX oQ (zc (aS (xv 1) xi) aH)) xi) aH)))))))
   (ax (wS (xC T.iF (Ds T _) (zc (xv 1) (zc (kc (zc (xv 5) (zc xi aH))) (zc (xv 6) aH)))))
   (ax (wS (aS (pJ (zc (yb xi) (zc xi (zc xi (zc xi aH))))) (xC T.dy (vZ T _) (zc (xv 0) (zc xi (zc xi aH))))))
   (ax (wE (xH T.aO T.kL (R6 T _) (xv 3) (zc xs (zc (xv 6) (zc (xB Bz T.AL PyProof.Rows.Boot.max (zc xi (zc (xo bK (xo bK (mT T.aO T.eB (z6 T _) (xv 3)) (xv 8)) (AS (yc y_ (xv 7) xn) xi (xv 7))) aH))) aH)))))
   (ax (wE (xH T.aO T.mr (Nz T _) (xv 3) (zc xs (zc xs (zc (xv 5) aH)))))
   (ax (wS (aS (aS (mT T.aO T.j_ (RM T _) (xv 3)) xi) xi))
   (ax (eI (PW.pt (nq (yc qN (xv 7) xn) (pB (yc Ov (xo bK (mT T.aO T.eB (z6 T _) (xv 3)) (xv 7)) (xv 9)))))
   (ax (dD (xC T.dH (FA T _) (zc (xv 3) (zc (xv 1) (zc xs (zc (xv 6) (zc xb aH)))))))
   aJ)
   aJ)
   (ax (dD (xC T.dH (FA T _) (zc (xv 3) (zc (xv 1) (zc xs (zc (aS (aS (xv 1) xi) xi) (zc xb aH)))))))
   aJ)))))))))))))))
end
end Carry
namespace Carry
open PySem L2
variable{i n:Nat}
abbrev Pr(M:Nat->GM)(vs:List Val)(r:Rv):Prop:=∀q S,M q vs S=some (.ok r S)
abbrev bD(ns:List Int):D:=.lst (ns.map D.int)
theorem qq0{α:Type _}{a:α}{l:List α}:(a::l)[0]?=some a:=rfl
theorem qq1{α:Type _}{a:α}{l:List α}:(a::l)[i+1]?=l[i]?:=rfl
theorem QA{α:Type _}{a:α}{l:List α}:(a::l).length=l.length+1:=rfl
theorem qq3{α:Type _}:([]:List α).length=0:=rfl
theorem qq4{α:Type _}{x a:α}{l:List α}:(x::l).set 0 a=a::l:=rfl
theorem qq5{α:Type _}{x a:α}{l:List α}:(x::l).set (n+1) a=x::l.set n a:=rfl
theorem qq6{α β:Type _}{f:α->β}{a:α}{l:List α}:(a::l).map f=f a::l.map f:=rfl
theorem qq7{α β:Type _}{f:α->β}:([]:List α).map f=[]:=rfl
theorem qq8{α:Type _}{a:α}:List.replicate 0 a=[]:=rfl
theorem qq9{α:Type _}{a:α}:List.replicate (n+1) a=a::List.replicate n a:=rfl
theorem qqa{α:Type _}{a:α}{l:List α}:(a::l).take (i+1)=a::l.take i:=rfl
theorem qqb{α:Type _}{a:α}{l r:List α}:(a::l)++r=a::(l++r):=rfl
theorem qqc{α:Type _}(l:List α):[]++l=l:=rfl
theorem qqd{α:Type _}{l:List α}:l.take 0=[]:=rfl
theorem a_:(false=true)=False:=qx
theorem qqf(n:Nat):0+n=n:=Nat.zero_add n
theorem Ux(ns:List Int)(k v:Int)(h1:(k < (ns.length:Int))=True)(h2:eL (ns.map D.int) k=some (.int v)):Pr qh [.d (bD ns),.d (.int k)] (rd (.int v)):=by
 intro q S;unfold qh HB;simp only[↓ev,cz,h1,decide_true,h2,jY]
theorem Uy(ns:List Int)(k:Int)(h1:(k < (ns.length:Int))=False):Pr qh [.d (bD ns),.d (.int k)] (rd (.int 0)):=by
 intro q S;unfold qh HB;simp only[↓ev,cz,h1,decide_false,a_,jY]
theorem Pp(ns:List Int)(k:Nat):∃v,Pr qh [.d (bD ns),.d (.int k)] (rd (.int v)):=by
 by_cases h:k < ns.length
 ·exact⟨_,Ux ns k _ (eq_true (by omega)) (qJ (by rw[jx,jR h];rfl))⟩
 ·exact⟨_,Uy ns k (eq_false (by omega))⟩
abbrev Qy:List D:=[.int 2,.int 128,.int 8192,.int 524288,.int 33554432]
theorem IH(ns:List Int)(k a cq c0 c d:Int)(h0:Pr qh [.d (bD ns),.d (.int 0)] (rd (.int c0)))(hk:Pr qh [.d (bD ns),.d (.int k)] (rd (.int c)))(e:(c0 % 2 == 1)=true)
  (ha:eL Qy a=some (.int d)) (d0:(0 < d)=True) (d1:(d < 1073741824)=True) (m0:(0 < cq)=True):Pr kC [.d (bD ns),.d (.int k),.d (.int a),.d (.int cq)] (rd (.int (c / d % 64 % cq))):=by
 intro q S;unfold kC Ha;simp only[↓ev,hk,br,h0,decide_true,a_,jS,e,ha,d0,d1,and_self,m0,jY]
theorem II(ns:List Int)(k a cq c0 c:Int)(h0:Pr qh [.d (bD ns),.d (.int 0)] (rd (.int c0)))(hk:Pr qh [.d (bD ns),.d (.int k)] (rd (.int c)))(e:(c0 % 2 == 1)=false)
  (k0:0<=k) (k1:k < 1000) (a0:0<=a) (a1:a < 1000) (m0:(0 < cq)=True):∃v,Pr kC [.d (bD ns),.d (.int k),.d (.int a),.d (.int cq)] (rd (.int (v % cq))):=by
 have mk:((-(2 ^ 64) < k/\k < 2 ^ 64 \/ -(2 ^ 64) < k/\k < 2 ^ 64)=True):=eq_true (.inl ⟨by omega,by omega⟩)
 have m1:∀x:Int,(((-(2 ^ 64):Int) < 1009/\(1009:Int) < 2 ^ 64 \/ -(2 ^ 64) < x/\x < 2 ^ 64)=True):=λx=>eq_true (.inl ⟨by decide,by decide⟩)
 have m2:∀x:Int,((-(2 ^ 64) < x/\x < 2 ^ 64\/(-(2 ^ 64):Int) < 48271/\(48271:Int) < 2 ^ 64)=True):=λx=>eq_true (.inr ⟨by decide,by decide⟩)
 have m3:∀x:Int,(((-(2 ^ 64):Int) < 5/\(5:Int) < 2 ^ 64 \/ -(2 ^ 64) < x/\x < 2 ^ 64)=True):=λx=>eq_true (.inl ⟨by decide,by decide⟩)
 have m4:∀x:Int,(((-(2 ^ 64):Int) < 2/\(2:Int) < 2 ^ 64 \/ -(2 ^ 64) < x/\x < 2 ^ 64)=True):=λx=>eq_true (.inl ⟨by decide,by decide⟩)
 have m5:∀x:Int,((-(2 ^ 64) < x/\x < 2 ^ 64\/(-(2 ^ 64):Int) < 69621+2 * a/\69621+2 * a < 2 ^ 64)=True):=λx=>eq_true (.inr ⟨by omega,by omega⟩)
 refine⟨((c % 1000003+k * k+1009 * a+7) * 48271 % 999983+5 * k+a) * (69621+2 * a) % 1000033,?_⟩;intro q S;unfold kC Ha;simp only[↓ev,hk,br,h0,decide_true,a_,jS,e,mk,m1,m2,m3,m4,m5,m0,jY]
def bL(ns:List Int)(k a:Nat)(cq:Int):Int:=match kC 0 [.d (bD ns),.d (.int k),.d (.int a),.d (.int cq)] ⟨[],[]⟩ with
 |some (.ok (.v (.d (.int v))) _)=>v
 |_=>0
theorem η:∀a:Nat,a < 5->∃d:Int,eL Qy (a:Int)=some (.int d)/\0 < d/\d < 1073741824
 |0,_=>⟨2,rfl,by decide,by decide⟩
 |1,_=>⟨128,rfl,by decide,by decide⟩
 |2,_=>⟨8192,rfl,by decide,by decide⟩
 |3,_=>⟨524288,rfl,by decide,by decide⟩
 |4,_=>⟨33554432,rfl,by decide,by decide⟩
 |n+5,h=>absurd h (by omega)
theorem kD(ns:List Int)(k a:Nat)(cq:Int)(hk:k < 1000)(ha:a < 5)(m0:0 < cq):Pr kC [.d (bD ns),.d (.int k),.d (.int a),.d (.int cq)] (rd (.int (bL ns k a cq)))/\0<=bL ns k a cq/\bL ns k a cq < cq:=by
 obtain⟨c0,h0⟩:=Pp ns 0;obtain⟨c,h1⟩:=Pp ns k;obtain⟨v,e⟩:∃v,Pr kC [.d (bD ns),.d (.int k),.d (.int a),.d (.int cq)] (rd (.int (v % cq))):=by
  cases e:(c0 % 2 == 1) with
  |true=>
   obtain⟨d,d1,d2,d3⟩:=η a ha;exact⟨_,IH ns k a cq c0 c d h0 h1 e d1 (eq_true d2) (eq_true d3) (eq_true m0)⟩
  |false=>exact II ns k a cq c0 c h0 h1 e (by omega) (by omega) (by omega) (by omega) (eq_true m0)
 have z:bL ns k a cq=v % cq:=by unfold bL;rw[e]
 rw[z];exact⟨e,Int.emod_nonneg _ (by omega),Int.emod_lt_of_pos _ m0⟩
theorem wy(ns:List Int)(k:Nat)(cq:Int)(hk:k < 1000)(m0:0 < cq):Pr jW [.d (bD ns),.d (.int k),.d (.int cq)] (rd (.int (bL ns k 0 cq))):=by
 have h:=(kD ns k 0 cq hk (by decide) m0).1
 have h:Pr kC [.d (bD ns),.d (.int k),.d (.int 0),.d (.int cq)] _:=h;intro q S;unfold jW Ny;simp only[↓ev,h,jY]
theorem wg(ns:List Int)(k:Nat)(cq:Int)(hk:k < 1000)(m0:0 < cq):Pr kf [.d (bD ns),.d (.int k),.d (.int cq)] (rd (.int (bL ns k 1 cq))):=by
 have h:=(kD ns k 1 cq hk (by decide) m0).1
 have h:Pr kC [.d (bD ns),.d (.int k),.d (.int 1),.d (.int cq)] _:=h;intro q S;unfold kf MT;simp only[↓ev,h,jY]
theorem Ib(ns:List Int)(k:Nat)(cq:Int)(hk:k < 1000)(m0:0 < cq):Pr qH [.d (bD ns),.d (.int k),.d (.int cq)] (rd (.int (bL ns k 2 cq))):=by
 have h:=(kD ns k 2 cq hk (by decide) m0).1
 have h:Pr kC [.d (bD ns),.d (.int k),.d (.int 2),.d (.int cq)] _:=h;intro q S;unfold qH MU;simp only[↓ev,h,jY]
end Carry
namespace Carry
open PySem L2
variable{i:Nat}
abbrev Dx:Str:="abcdefghijklmnopqrstuvwxyz"
abbrev jy:List Nat:=Dx.cps.toList
theorem xl:jy.length=26:=by decide +kernel
theorem Ox:(Dx.length<=1000000)=True:=eq_true (by decide +kernel)
theorem Zz:jy.Nodup:=by decide +kernel
theorem wo(k:Int)(h0:0<=k)(h1:k < 26):eL jy k=some (jy.getD k.toNat 0):=Vb 0 h0 (by rw[xl];exact h1)
theorem BH:∀i:Nat,i < 26->∀n:Nat,n < 9->MulOk ⟨#[jy.getD i 0]⟩ (n:Int):=by decide +kernel
theorem BI:∀i:Nat,i < 26->∀n:Nat,n < 9->Txt.mul ⟨#[jy.getD i 0]⟩ (n:Int)=⟨(List.replicate n (jy.getD i 0)).toArray⟩:=by decide +kernel
theorem xr(i:Nat)(hi:i < 26)(n:Nat)(hn:n < 9):MulOk ⟨#[jy.getD i 0]⟩ (n:Int)/\Txt.mul ⟨#[jy.getD i 0]⟩ (n:Int)=⟨(List.replicate n (jy.getD i 0)).toArray⟩:=⟨BH i hi n hn,BI i hi n hn⟩
theorem Oy(a b:List Nat):(⟨a.toArray⟩:Str)++(⟨b.toArray⟩:Str)=⟨(a++b).toArray⟩:=by
 show(⟨a.toArray++b.toArray⟩:Str)=_;rw[List.append_toArray]
theorem BJ(ns:List Int)(q n b m:Int)(c:Nat)(z:Str)(hp:Pr jW [.d (bD ns),.d (.int q),.d (.int 26)] (rd (.int b)))(ho:Pr kf [.d (bD ns),.d (.int q),.d (.int 3)] (rd (.int 0)))
  (sr:eL jy ((b+n / 8) % 26)=some c) (em:1+n % 8=m) (hm:MulOk ⟨#[c]⟩ m=True) (hz:Txt.mul ⟨#[c]⟩ m=z):Pr sg [.d (bD ns),.d (.int q),.d (.int n)] (rd (.str z)):=by
 intro q' S;unfold sg HD;simp only[↓ev,br,hp,ho,a_,jS,beq_self_eq_true,and_self,decide_true,Ox,sr,em,hm,hz,jY]
theorem BK(ns:List Int)(q n b v t sp r:Int)(cr cc:Nat)(z1 z2 z3 z4:Str)(hp:Pr jW [.d (bD ns),.d (.int q),.d (.int 26)] (rd (.int b)))(ho:Pr kf [.d (bD ns),.d (.int q),.d (.int 3)] (rd (.int v)))(hv:(v == 0)=false)
  (ht:Pr qH [.d (bD ns),.d (.int q),.d (.int 8)] (rd (.int t))) (hs:Pr kf [.d (bD ns),.d (.int q),.d (.int (1+t))] (rd (.int sp))) (hr:Pr kC [.d (bD ns),.d (.int q),.d (.int 3),.d (.int 26)] (rd (.int r)))
  (Jm:eL jy r=some cr) (hac:eL jy ((7 * n+b) % 26)=some cc) (h7:((-(2 ^ 64):Int) < 7/\(7:Int) < 2 ^ 64 \/ -(2 ^ 64) < n/\n < 2 ^ 64)=True) (m1:MulOk ⟨#[cr]⟩ sp=True) (e1:Txt.mul ⟨#[cr]⟩ sp=z1) (m2:MulOk ⟨#[cr]⟩ (1+t - 1 - sp)=True) (e2:Txt.mul ⟨#[cr]⟩ (1+t - 1 - sp)=z2)
  (l1:(z1.length+(⟨#[cc]⟩:Str).length<=1000000)=True) (e3:z1++(⟨#[cc]⟩:Str)=z3) (l2:(z3.length+z2.length<=1000000)=True) (e4:z3++z2=z4):Pr sg [.d (bD ns),.d (.int q),.d (.int n)] (rd (.str z4)):=by
 intro q' S;unfold sg HD;simp only[↓ev,br,hp,ho,a_,jS,hv,ht,hs,hr,Ox,Jm,m1,e1,h7,decide_true,hac,l1,e3,m2,e2,l2,e4,jY]
def sC(ns:List Int)(q n:Nat):List Nat:=if bL ns q 1 3=0 then List.replicate (1+n % 8) (jy.getD (((bL ns q 0 26).toNat+n / 8) % 26) 0)
 else List.replicate (bL ns q 1 (1+bL ns q 2 8)).toNat (jy.getD (bL ns q 3 26).toNat 0)++jy.getD ((7 * n+(bL ns q 0 26).toNat) % 26) 0::List.replicate ((bL ns q 2 8).toNat - (bL ns q 1 (1+bL ns q 2 8)).toNat) (jy.getD (bL ns q 3 26).toNat 0)
def kF(ns:List Int)(q n:Nat):Str:=⟨(sC ns q n).toArray⟩
theorem yU(l:List Nat):(⟨l.toArray⟩:Str).length=l.length:=by show l.toArray.size=_;simp
theorem Pq(ns:List Int)(q:Nat)(hq:q < 1000)(n:Nat)(hn:n < 20):Pr sg [.d (bD ns),.d (.int q),.d (.int n)] (rd (.str (kF ns q n))):=by
 obtain⟨p1,p2,p3⟩:=kD ns q 0 26 hq (by decide) (by decide)
 obtain⟨o1,o2,o3⟩:=kD ns q 1 3 hq (by decide) (by decide)
 obtain⟨t1,t2,t3⟩:=kD ns q 2 8 hq (by decide) (by decide)
 obtain⟨r1,r2,r3⟩:=kD ns q 3 26 hq (by decide) (by decide)
 obtain⟨s1,s2,s3⟩:=kD ns q 1 (1+bL ns q 2 8) hq (by decide) (by omega)
 have hp:=wy ns q 26 hq (by decide)
 have ho:=wg ns q 3 hq (by decide)
 have ht:=Ib ns q 8 hq (by decide)
 have hs:=wg ns q (1+bL ns q 2 8) hq (by omega)
 unfold kF sC;split
 ·rename_i h
  rw[h] at ho;have ei:(((bL ns q 0 26).toNat+n / 8) % 26:Nat)=((bL ns q 0 26+(n:Int) / 8) % 26).toNat:=by omega
  rw[ei];obtain⟨q1,q2⟩:=xr ((bL ns q 0 26+(n:Int) / 8) % 26).toNat (by omega) (1+n % 8) (by omega)
  exact BJ ns q n _ ((1+n % 8:Nat):Int) _ _ hp ho (wo _ (by omega) (by omega)) (by omega) (eq_true q1) q2
 ·rename_i h
  have ei:((7 * n+(bL ns q 0 26).toNat) % 26:Nat)=((7 * (n:Int)+bL ns q 0 26) % 26).toNat:=by omega
  rw[ei];obtain⟨q1,q2⟩:=xr (bL ns q 3 26).toNat (by omega) (bL ns q 1 (1+bL ns q 2 8)).toNat (by omega)
  obtain⟨q3,q4⟩:=xr (bL ns q 3 26).toNat (by omega) ((bL ns q 2 8).toNat - (bL ns q 1 (1+bL ns q 2 8)).toNat) (by omega)
  rw[show(((bL ns q 1 (1+bL ns q 2 8)).toNat:Nat):Int)=bL ns q 1 (1+bL ns q 2 8) by omega] at q1 q2
  rw[show(((bL ns q 2 8).toNat - (bL ns q 1 (1+bL ns q 2 8)).toNat:Nat):Int)=1+bL ns q 2 8 - 1 - bL ns q 1 (1+bL ns q 2 8) by omega] at q3 q4
  refine BK ns q n _ _ _ _ _ _ _ _ _ (⟨(List.replicate (bL ns q 1 (1+bL ns q 2 8)).toNat (jy.getD (bL ns q 3 26).toNat 0)++[jy.getD ((7 * (n:Int)+bL ns q 0 26) % 26).toNat 0]).toArray⟩:Str) _ hp ho (by simpa using h) ht hs r1 (wo _ r2 r3) (wo _ (by omega) (by omega)) (eq_true (.inl ⟨by decide,by decide⟩)) (eq_true q1) q2 (eq_true q3) q4 (eq_true ?_) ?_ (eq_true ?_) ?_
  ·rw[yU,oJ];show _+1<=_;omega
  ·exact Oy _ [_]
  ·rw[yU,yU,f7,oJ,oJ];simp only[QA,qq3];omega
  ·rw[Oy,m8];rfl
theorem DE{l:List Nat}(h:i < l.length):l.getD i 0∈l:=by
 rw[uw,jR h];exact uq h
theorem NB(ns:List Int)(q:Nat)(hq:q < 1000)(n:Nat):∀c∈sC ns q n,c∈jy:=by
 obtain⟨r1,r2,r3⟩:=kD ns q 3 26 hq (by decide) (by decide)
 intro c hc;unfold sC at hc;split at hc
 ·rw[List.eq_of_mem_replicate hc];exact DE (by rw[xl];omega)
 ·rw[pj,fV] at hc;rcases hc with hc|hc|hc
  ·rw[List.eq_of_mem_replicate hc];exact DE (by rw[xl];omega)
  ·rw[hc];exact DE (by rw[xl];omega)
  ·rw[List.eq_of_mem_replicate hc];exact DE (by rw[xl];omega)
theorem Ej(ns:List Int)(q:Nat)(hq:q < 1000)(n:Nat):1<=(sC ns q n).length/\(sC ns q n).length<=8:=by
 obtain⟨t1,t2,t3⟩:=kD ns q 2 8 hq (by decide) (by decide)
 obtain⟨s1,s2,s3⟩:=kD ns q 1 (1+bL ns q 2 8) hq (by decide) (by omega)
 unfold sC;split
 ·rw[oJ];omega
 ·rw[f7,kd,oJ,oJ];omega
theorem NC{j:Nat}(hi:i < 26)(hj:j < 26)(e:jy.getD i 0=jy.getD j 0):i=j:=by
 have h1:i < jy.length:=by rw[xl];exact hi
 have h2:j < jy.length:=by rw[xl];exact hj
 rw[uw,jR h1,uw,jR h2] at e;exact(Cu Zz).mp e
theorem Pu(ns:List Int)(q:Nat)(hq:q < 1000)(n m:Nat)(hn:n < 20)(hm:m < 20)(e:kF ns q n=kF ns q m):n=m:=by
 obtain⟨p1,p2,p3⟩:=kD ns q 0 26 hq (by decide) (by decide)
 have e:sC ns q n=sC ns q m:=by
  have:=congrArg Str.cps e;simpa[kF] using this
 unfold sC at e;split at e
 ·have l:=congrArg List.length e;rw[oJ,oJ] at l;have z:jy.getD (((bL ns q 0 26).toNat+n / 8) % 26) 0=jy.getD (((bL ns q 0 26).toNat+m / 8) % 26) 0:=by
   have h1:∀(k:Nat) (x:Nat),(List.replicate (1+k) x).head?=some x:=λk x=>by rw[Nat.add_comm];rfl
   have h:=congrArg List.head? e;rw[h1,h1] at h;exact Option.some.inj h
  have:=NC (by omega) (by omega) z
  omega
 ·have e:=List.append_cancel_left e;rw[List.cons.injEq] at e;have:=NC (by omega) (by omega) e.1
  omega
theorem XN:∀c∈jy,(Builtin.Str.occurrences Dx ⟨#[c]⟩ 0 Dx.length 1).isEmpty=false:=by decide +kernel
theorem ZA(c:Nat)(h:c∈jy):(Builtin.Str.occurrences (Str.ofString "abcdefghijklmnopqrstuvwxyz") (om c) 0 (Str.ofString "abcdefghijklmnopqrstuvwxyz").length 1).isEmpty=false:=XN c h
theorem ND:∀n:Nat,(List.replicate n true).all id=true
 |0=>rfl
 |n+1=>by rw[List.replicate_succ,rV,ND n];rfl
theorem MY:∀bs:List Bool,jr (bs.map D.bl)=some bs
 |[]=>rfl
 |b::bs=>by rw[dX];unfold jr;rw[MY bs];rfl
theorem Dv(l:List Nat)(h1:1<=l.length)(h2:l.length<=8)(hc:∀c∈l,c∈jy):Pr sd [.d (.str ⟨l.toArray⟩)] (rd (.bl true)):=by
 have e:∀q S,aV (aR 0) (mh true) (Gi q) (l.map λc=>.str (om c)) [none] S []=some (.ok ((List.replicate l.length true).map D.bl) S):=λq S=>by
  rw[AX (λ_=>D.bl true) l (by omega) λc m=>⟨rd (.bl true),by
   have h:=ZA c (hc c m);unfold Gi;simp only[↓ev,a_,h,rW],rfl⟩,List.map_replicate,List.map_const']
 have c1:(1<=((⟨l.toArray⟩:Str).length:Int))=True:=eq_true (by rw[yU];omega)
 have c2:(((⟨l.toArray⟩:Str).length:Int)<=8)=True:=eq_true (by rw[yU];omega)
 have c3:((⟨l.toArray⟩:Str).length<=1000000)=True:=eq_true (by rw[yU];omega)
 intro q S;unfold sd MM;simp only[↓ev,Qo,a_,c3,c1,decide_true,c2,e,MY,ND,jY]
end Carry
namespace Carry
open PySem L2
abbrev P0(M:Nat->GM)(vs:List Val)(r:Rv):Prop:=∀S,M 0 vs S=some (.ok r S)
abbrev dS(xs:List Str):List D:=xs.map D.str
theorem mW(x:Str):∀xs:List Str,((dS xs).any λz=>aY z (.str x))=xs.contains x
 |[]=>rfl
 |y::r=>by
  rw[dS,dX,List.any_cons,<-dS,mW x r,List.contains_cons,qo]
  congr 1
  exact BEq.comm
theorem nj(n:Nat)(xs:List Str):(dS xs).all (gc n)=true:=by
 rw[pA];intro d hd;obtain⟨y,_,rfl⟩:=p_.mp hd;cases n <;> rfl
theorem Oz(xs:List Str)(i:Nat)(y:Str):(dS xs).take i++.str y::(dS xs).drop i=dS (mG xs i y):=by
 unfold mG;simp only[dS,mV,qq6,List.map_take,E8]
abbrev cb(S:aX)(xs:List D):aX:=⟨S.s++[.o (.lst xs)],S.r⟩
section
variable {S:aX} {ns:List Int} {k j sp d ll:Int} {s2 s3 s4:Option Val} {i6:List D} {outs:List Str} {y:Str} {a9:Option Val}
theorem θ(hl:(i6.length:Int)=ll)(hd:Pr kC [.d (bD ns),.d (.int (6+k)),.d (.int (1+j)),.d (.int ll)] (rd (.int d)))(ha:eL i6 d=some (.str y))(hc:outs.contains y=true):
  sT 0 [some (.d (bD ns)),some (.d (.int k)),s2,s3,s4,some (.d (.lst i6)),some (.c S.s.length),some (.d (.int sp)),some (.d (.int j)),a9] (cb S (dS outs))=some (.nx [some (.d (bD ns)),some (.d (.int k)),s2,s3,s4,some (.d (.lst i6)),some (.c S.s.length),some (.d (.int sp)),some (.d (.int j)),some (.d (.str y))] (cb S (dS outs))):=by
 unfold sT;simp only[↓ev,hl,hd,ha,br,f_,nj,mW,hc,nZ,a_]
abbrev W3:List D:=[.int 1,.int 4,.int 16]
theorem ZC{w ol p:Int}{o2:List Str}(hl:(i6.length:Int)=ll)(hd:Pr kC [.d (bD ns),.d (.int (6+k)),.d (.int (1+j)),.d (.int ll)] (rd (.int d)))(ha:eL i6 d=some (.str y))(hc:outs.contains y=false)
  (hw:eL W3 j=some (.int w)) (w0:(0 < w)=True) (w1:(w < 1073741824)=True) (el:((dS outs).length:Int)=ol) (o0:(0 < ol+1)=True) (hp:sp / w % 4 % (ol+1)=p) (p0:(0<=p)=True) (p1:(p < 2 ^ 62)=True) (p2:((dS outs).length < 1000000)=True) (h2:(dS outs).take p.toNat++.str y::(dS outs).drop p.toNat=dS o2) :
  sT 0 [some (.d (bD ns)),some (.d (.int k)),s2,s3,s4,some (.d (.lst i6)),some (.c S.s.length),some (.d (.int sp)),some (.d (.int j)),a9] (cb S (dS outs))=some (.nx [some (.d (bD ns)),some (.d (.int k)),s2,s3,s4,some (.d (.lst i6)),some (.c S.s.length),some (.d (.int sp)),some (.d (.int j)),some (.d (.str y))] (cb S (dS o2))):=by
 unfold sT;simp only[↓ev,hl,hd,ha,br,f_,nj,mW,hc,rW,a_,hw,w0,w1,and_self,decide_true,el,o0,hp,p0,p1,p2,h2,kx]
end
end Carry
namespace Carry
open PySem L2
theorem NF(ds:List D)(n:Nat):cutD ds (some (n:Int)) none=ds.drop n:=by
 unfold cutD;have e:HT.dA ds.length 0 (some (n:Int))=min n ds.length:=by
  unfold HT.dA;simp;omega
 have e2:HT.dA ds.length ds.length none=ds.length:=rfl;rw[e,e2];by_cases h:n<=ds.length
 ·rw[Nat.min_eq_left h];exact zE (by rw[yf];exact cI _)
 ·rw[Nat.min_eq_right (by omega),List.drop_eq_nil_of_le (cI _),List.drop_eq_nil_of_le (by omega),List.take_nil]
theorem Uz(xs:List Str)(k:Nat)(y:Str):(mG xs k y).Perm (y::xs):=by
 unfold mG;refine(List.perm_middle (l₁:=xs.take k) (l₂:=xs.drop k)).trans ?_;rw[List.take_append_drop]
theorem OA{xs:List Str}{k:Nat}{y:Str}(h:xs.Nodup)(hy:y∉xs):(mG xs k y).Nodup:=(Uz xs k y).nodup_iff.mpr (sG.mpr ⟨hy,h⟩)
structure n6 (later carts:List Str) (hd:Str) (outs:List Str):Prop where
 nd:outs.Nodup
 sub:∀o∈outs,o∈later++carts
 ne:outs≠[]
 hand:hd∈outs\/∃o∈outs,o∈later
 len:outs.length<=4
theorem Ic{xs:List Str}{k:Int}(h0:0<=k)(h1:k < xs.length):eL (dS xs) k=some (.str (xs.getD k.toNat "")):=by
 have zp:k.toNat < xs.length:=by omega
 have e:(dS xs)[k.toNat]?=some (.str (xs.getD k.toNat "")):=by simp[zp]
 have z:=qJ e
 rwa [show((k.toNat:Nat):Int)=k by omega] at z
theorem UA{xs:List Str}{i:Nat}(h:i < xs.length):xs.getD i ""∈xs:=by
 rw[uw,jR h];exact uq h
theorem ι:∀j:Nat,j < 3->∃d:Int,eL W3 (j:Int)=some (.int d)/\0 < d/\d < 1073741824
 |0,_=>⟨1,rfl,by decide,by decide⟩
 |1,_=>⟨4,rfl,by decide,by decide⟩
 |2,_=>⟨16,rfl,by decide,by decide⟩
 |n+3,h=>absurd h (by omega)
abbrev nG(S:aX)(ns:List Int)(k sp:Int)(s2:Option Val)(carts later:List Str)(a8 a9:Option Val):Gm:=[some (.d (bD ns)),some (.d (.int k)),s2,some (.d (.lst (dS carts))),some (.d (.lst (dS later))),some (.d (.lst (dS (later++carts)))),some (.c S.s.length),some (.d (.int sp)),a8,a9]
theorem XO(ns:List Int)(k j:Nat)(sp:Int)(s2:Option Val)(carts later outs:List Str)(a9:Option Val)(hk:k < 5)(hj:j < 3)(sl:0 < (later++carts).length)(ET:(later++carts).length<=100)(nd:outs.Nodup)(sb:∀o∈outs,o∈later++carts)(ol:outs.length<=j):
  ∃o2 y,o2.Nodup/\(∀o∈o2,o∈later++carts)/\o2.length<=j+1/\o2≠[]/\∀S,sT 0 (nG S ns k sp s2 carts later (some (.d (.int j))) a9) (cb S (dS outs))=some (.nx (nG S ns k sp s2 carts later (some (.d (.int j))) (some (.d (.str y)))) (cb S (dS o2))):=by
 obtain⟨d1,d2,d3⟩:=kD ns (6+k) (1+j) ((later++carts).length:Int) (by omega) (by omega) (by omega)
 rw[show((6+k:Nat):Int)=6+(k:Int) by omega,show((1+j:Nat):Int)=1+(j:Int) by omega] at d1
 have ha:=Ic (xs:=later++carts) d2 d3;have hm:(later++carts).getD (bL ns (6+k) (1+j) ((later++carts).length:Int)).toNat ""∈later++carts:=UA (by omega)
 generalize(later++carts).getD (bL ns (6+k) (1+j) ((later++carts).length:Int)).toNat ""=y at ha hm;have hl:((dS (later++carts)).length:Int)=((later++carts).length:Int):=by rw[cz]
 cases hc:outs.contains y with
 |true=>
  refine⟨outs,y,nd,sb,by omega,λz=>?_,λS=>θ hl d1 ha hc⟩
  rw[z] at hc;cases hc
 |false=>
  obtain⟨w,w1,w2,w3⟩:=ι j hj;have o0:(0:Int) < (outs.length:Int)+1:=by omega
  have el:((dS outs).length:Int)=(outs.length:Int):=by rw[cz]
  have p0:0<=sp / w % 4 % ((outs.length:Int)+1):=Int.emod_nonneg _ (by omega)
  have p1:sp / w % 4 % ((outs.length:Int)+1) < (outs.length:Int)+1:=Int.emod_lt_of_pos _ o0;have hy:y∉outs:=by simpa using hc
  refine⟨_,y,OA (k:=(sp / w % 4 % ((outs.length:Int)+1)).toNat) nd hy,λo ho=>?_,by rw[DA];omega,λz=>?_,λS=>ZC hl d1 ha hc w1 (eq_true w2) (eq_true w3) el (eq_true o0) rfl (eq_true p0) (eq_true (by omega)) (eq_true (by rw[cz];omega)) (Oz _ _ _)⟩
  ·rcases lz.mp ho with z|z
   ·rw[z];exact hm
   ·exact sb o z
  ·have:=DA outs (sp / w % 4 % ((outs.length:Int)+1)).toNat y;rw[z] at this;simp at this
theorem Mp(q:Nat)(S:aX)(outs later:List Str)(h:outs.length<=1000):aV (aR 0) (GQ q) (GR q) (dS outs) [none,some (.d (.lst (dS later)))] S []=some (.ok (dS (outs.filter λo=>later.contains o)) S):=by
 rw[dS,wM (λo=>if later.contains o=true then some (.str o) else none) outs (by omega) λo m=>by
  unfold GQ GR;cases hc:later.contains o with
  |true=>exact .inr ⟨rd (.str o),.str o,rfl,by simp only[↓ev,nj,a_,mW,hc],by simp only[↓ev],rfl⟩
  |false=>exact .inl ⟨rfl,by simp only[↓ev,nj,a_,mW,hc]⟩]
 congr 2
 induction outs with
 |nil=>rfl
 |cons o r ih=>
  rw[vH,uo];split
  ·rename_i z
   split at z
   ·cases z
   ·rename_i z2
    rw[if_neg z2];exact ih (by simp at h;omega)
  ·rename_i b z
   split at z
   ·rename_i z2
    cases z;rw[if_pos z2,ih (by simp at h;omega)]
    rfl
   ·cases z
end Carry
namespace Carry
open PySem L2
section
variable {S:aX} {ns:List Int} {k sp r:Int} {later carts o1 outs:List Str} {names:List D} {hand:Str} {a8 a9:Option Val}
structure sP (S:aX) (ns:List Int) (k sp r:Int) (later carts o1:List Str) (names:List D) (hand:Str) (a8 a9:Option Val):Prop where
 c1:cutD names (some (k+1)) none=dS later
 c2:((dS later).length+(dS carts).length<=1000000)=True
 ht:Pr qH [.d (bD ns),.d (.int (1+k)),.d (.int 64)] (rd (.int sp))
 hp:Pr jW [.d (bD ns),.d (.int (6+k)),.d (.int 3)] (rd (.int r))
 hi:Nat.ble (1+r).natAbs 1000000000000=true
 ap:dS later++dS carts=dS (later++carts)
 hl:aE (aR 8) (sT 0) (ie 0 (1+r).toNat) (nG S ns k sp (some (.d (.lst names))) carts later none none) (cb S [])=some (.nx (nG S ns k sp (some (.d (.lst names))) carts later a8 a9) (cb S (dS o1)))
 sr:eL (dS carts) 0=some (.str hand)
theorem XQ(h:sP S ns k sp r later carts o1 names hand a8 a9)(hc:o1.contains hand=true):pH 0 [.d (bD ns),.d (.int k),.d (.lst names),.d (.lst (dS carts))] S=some (.ok (.o (.lst (dS o1))) S):=by
 obtain⟨c1,c2,ht,hp,hi,ap,hl,sr⟩:=h;unfold pH DD;simp only[↓ev,c1,br,c2,ap,a_,ht,hp,hi,ja,hl,nG,cb,sr,f_,nj,mW,hc,nZ,rj,k8]
theorem XR(h:sP S ns k sp r later carts o1 names hand a8 a9)(hc:o1.contains hand=false)(hlen:o1.length<=1000){n:Int}(hn:((dS (o1.filter λo=>later.contains o)).length:Int)=n)(hz:(n == 0)=false):pH 0 [.d (bD ns),.d (.int k),.d (.lst names),.d (.lst (dS carts))] S=some (.ok (.o (.lst (dS o1))) S):=by
 obtain⟨c1,c2,ht,hp,hi,ap,hl,sr⟩:=h;have e:=λq S=>Mp q S o1 later hlen
 unfold pH DD;simp only[↓ev,c1,br,c2,ap,a_,ht,hp,hi,ja,hl,nG,cb,sr,f_,nj,mW,hc,rW,e,hn,jS,hz,rj,k8]
theorem VM(h:sP S ns k sp r later carts o1 names hand a8 a9)(hc:o1.contains hand=false)(hlen:o1.length<=1000)(hn:((dS (o1.filter λo=>later.contains o)).length:Int)=0){d ol:Int}(el:((dS o1).length:Int)=ol)(hd:Pr kC [.d (bD ns),.d (.int (1+k)),.d (.int 3),.d (.int (ol+1))] (rd (.int d)))
  (p0:(0<=d)=True) (p1:(d < 2 ^ 62)=True) (p2:((dS o1).length < 1000000)=True) (h2:(dS o1).take d.toNat++.str hand::(dS o1).drop d.toNat=dS outs):pH 0 [.d (bD ns),.d (.int k),.d (.lst names),.d (.lst (dS carts))] S=some (.ok (.o (.lst (dS outs))) S):=by
 obtain⟨c1,c2,ht,hp,hi,ap,hl,sr⟩:=h;have e:=λq S=>Mp q S o1 later hlen
 unfold pH DD;simp only[↓ev,c1,br,c2,ap,a_,ht,hp,hi,ja,hl,nG,cb,sr,f_,nj,mW,hc,rW,e,hn,jS,beq_self_eq_true,el,hd,p0,p1,p2,and_self,h2,kx,rj,k8]
end
end Carry
namespace Carry
open PySem L2
theorem b2i{n i:Nat}{d r:List Nat}(e:List.range n=d++i::r):d.length=i/\i < n:=by
 have h2:d.length < n:=by have:=congrArg List.length e;simp at this;omega
 have h1:=congrArg (λl=>l[d.length]?) e
 simp only[qv (cI _),K_,qq0] at h1;rw[Fd h2] at h1;have:=Option.some.inj h1;exact⟨this,this ▸ h2⟩
theorem mO(n:Nat):ie 0 n=(List.range n).map λ(i:Nat)=>D.int (i:Int):=by
 unfold ie;simp only[Int.zero_add]
theorem ZD(ns:List Int)(k:Nat)(names carts:List Str)(hand:Str)(hk:k < 5)(hl:names.length<=5)(hh:carts.head?=some hand)(hc:carts.length<=4):
  ∃outs,n6 (names.drop (k+1)) carts hand outs/\∀S,pH 0 [.d (bD ns),.d (.int k),.d (.lst (dS names)),.d (.lst (dS carts))] S=some (.ok (.o (.lst (dS outs))) S):=by
 have hc0:0 < carts.length:=by cases carts with|nil=>cases hh|cons a b=>simp
 obtain⟨r1,r2,r3⟩:=kD ns (6+k) 0 3 (by omega) (by decide) (by decide)
 have hp:=wy ns (6+k) 3 (by omega) (by decide)
 have ht:=Ib ns (1+k) 64 (by omega) (by decide)
 rw[show((6+k:Nat):Int)=6+(k:Int) by omega] at hp
 rw[show((1+k:Nat):Int)=1+(k:Int) by omega] at ht
 have sl:0 < (names.drop (k+1)++carts).length:=by rw[f7];omega
 have ET:(names.drop (k+1)++carts).length<=100:=by rw[f7,yf];omega
 obtain⟨⟨o1,a8,a9⟩,⟨nd,sb,ol,one⟩,e1⟩:=Po (gg:=aR 8) (body:=sT 0) (f:=λ(i:Nat)=>D.int (i:Int)) (λ(b:List Str×Option Val×Option Val) S=>(nG S ns k (bL ns (1+k) 2 64) (some (.d (.lst (dS names)))) carts (names.drop (k+1)) b.2.1 b.2.2,cb S (dS b.1)))
  (λpre b=>b.1.Nodup/\(∀o∈b.1,o∈names.drop (k+1)++carts)/\b.1.length<=pre.length/\(pre≠[]->b.1≠[])) (List.range (1+bL ns (6+k) 0 3).toNat) ([],none,none)
  ⟨List.nodup_nil,λo m=>(by cases m),cI _,λz=>absurd rfl z⟩ (by
   rintro d i r eq ⟨outs,a8,a9⟩ ⟨nd,sb,ol,_⟩;obtain⟨hq,hi⟩:=b2i eq;obtain⟨o2,y,n2,s2,l2,ne2,e2⟩:=XO ns k i (bL ns (1+k) 2 64) (some (.d (.lst (dS names)))) carts (names.drop (k+1)) outs a9 hk (by omega) sl ET nd sb (lC ol (Cy hq))
   exact⟨(o2,some (.d (.int i)),some (.d (.str y))),⟨n2,s2,by rw[f7,Cz,hq];exact l2,λ_=>ne2⟩,λS=>⟨_,rfl,.inl (e2 S)⟩⟩)
 dsimp only at nd sb ol one e1;rw[uv] at ol;have one:o1≠[]:=one (by intro z;have:=congrArg List.length z;simp at this;omega)
 have e1:=λS=>(congrArg (λl=>aE (aR 8) (sT 0) l _ _) (mO _)).trans (e1 S)
 have sr:eL (dS carts) 0=some (.str hand):=by
  cases carts with
  |nil=>cases hh
  |cons a b=>cases hh;exact qJ (xs:=D.str hand::b.map D.str) (j:=0) rfl
 have hm:hand∈names.drop (k+1)++carts:=nY _ (List.mem_of_mem_head? hh);have H:∀S,sP S ns k (bL ns (1+k) 2 64) (bL ns (6+k) 0 3) (names.drop (k+1)) carts o1 (dS names) hand a8 a9:=λS=>⟨by rw[show(k:Int)+1=((k+1:Nat):Int) by omega,NF,dS,dS,E8],eq_true (by rw[cz,cz,yf];omega),ht,hp,E9 (by omega),mV.symm,e1 S,sr⟩
 cases Bc:o1.contains hand with
 |true=>exact⟨o1,⟨nd,sb,one,.inl (by simpa using Bc),by omega⟩,λS=>XQ (H S) Bc⟩
 |false=>
  by_cases hf:(o1.filter λo=>(names.drop (k+1)).contains o).length=0
  ·obtain⟨d1,d2,d3⟩:=kD ns (1+k) 3 ((o1.length:Int)+1) (by omega) (by decide) (by omega)
   rw[show((1+k:Nat):Int)=1+(k:Int) by omega] at d1
   have hy:hand∉o1:=by simpa using Bc
   refine⟨_,⟨OA (k:=(bL ns (1+k) 3 ((o1.length:Int)+1)).toNat) nd hy,λo ho=>?_,λz=>?_,.inl (lz.mpr (.inl rfl)),by rw[DA];omega⟩,λS=>VM (H S) Bc (by omega) (by rw[cz,hf];rfl) (by rw[cz]) d1 (eq_true d2) (eq_true (by omega)) (eq_true (by rw[cz];omega)) (Oz _ _ _)⟩
   ·rcases lz.mp ho with z|z
    ·rw[z];exact hm
    ·exact sb o z
   ·have:=DA o1 (bL ns (1+k) 3 ((o1.length:Int)+1)).toNat hand;rw[z] at this;simp at this
  ·refine⟨o1,⟨nd,sb,one,.inr ?_,by omega⟩,λS=>XR (H S) Bc (by omega) rfl (by rw[cz];simp only[beq_eq_false_iff_ne];omega)⟩
   obtain⟨o,ho⟩:∃o,o∈o1.filter λo=>(names.drop (k+1)).contains o:=List.exists_mem_of_length_pos (by omega)
   rw[zC] at ho;exact⟨o,ho.1,by simpa using ho.2⟩
end Carry
namespace Carry
open PySem L2
def ao(b:aq):D:=.tup [.str b.name,.int b.long,.bl b.ring,.lst (dS b.outs)]
def aF(h:aU):D:=.tup [.lst (h.af.map ao),.lst (dS h.carts)]
abbrev i8(S:aX)(ns:List Int)(names carts:List Str)(k:Int)(a5 a6:Option Val):Gm:=[some (.d (bD ns)),some (.d (.lst (dS names))),some (.d (.lst (dS carts))),some (.c S.s.length),some (.d (.int k)),a5,a6]
section
variable {S:aX} {ns:List Int} {ki pv ov nl tv dv:Int} {names carts outs:List Str} {nm:Str} {bl:List D} {rg:Bool} {a5 a6:Option Val}
theorem hB0(hp:Pr jW [.d (bD ns),.d (.int (1+ki)),.d (.int 3)] (rd (.int pv)))(hr:(pv == 0)=rg)(ho:Pr kf [.d (bD ns),.d (.int (1+ki)),.d (.int 5)] (rd (.int ov)))(ha:eL (dS names) ki=some (.str nm))(hx:∀S,pH 0 [.d (bD ns),.d (.int ki),.d (.lst (dS names)),.d (.lst (dS carts))] S=some (.ok (.o (.lst (dS outs))) S))(hb:(bl.length < 1000000)=True)(e1:(ki == 0)=false):oP 0 (i8 S ns names carts ki a5 a6) (cb S bl)=some (.nx (i8 S ns names carts ki (some (.d (.bl rg))) (some (.d (.int (if rg=true then(1+ov)+1 else(1+ov)))))) (cb S (bl++[.tup [.str nm,.int (if rg=true then(1+ov)+1 else(1+ov)),.bl rg,.lst (dS outs)]]))):=by
 unfold oP i8 cb;cases rg with
 |true=>simp only[↓ev,hp,a_,jS,hr,br,ho,e1,f_,ha,hx,hb,kx]
 |false=>simp only[↓ev,hp,a_,jS,hr,br,ho,e1,f_,ha,hx,hb,kx]
theorem hB1(hp:Pr jW [.d (bD ns),.d (.int (1+ki)),.d (.int 3)] (rd (.int pv)))(hr:(pv == 0)=rg)(ho:Pr kf [.d (bD ns),.d (.int (1+ki)),.d (.int 5)] (rd (.int ov)))(ha:eL (dS names) ki=some (.str nm))(hx:∀S,pH 0 [.d (bD ns),.d (.int ki),.d (.lst (dS names)),.d (.lst (dS carts))] S=some (.ok (.o (.lst (dS outs))) S))(hb:(bl.length < 1000000)=True)(e1:(ki == 0)=true)(el:((dS names).length:Int)=nl)(e2:(nl < 3)=False):oP 0 (i8 S ns names carts ki a5 a6) (cb S bl)=some (.nx (i8 S ns names carts ki (some (.d (.bl rg))) (some (.d (.int (if rg=true then(1+ov)+1 else(1+ov)))))) (cb S (bl++[.tup [.str nm,.int (if rg=true then(1+ov)+1 else(1+ov)),.bl rg,.lst (dS outs)]]))):=by
 unfold oP i8 cb;cases rg with
 |true=>simp only[↓ev,hp,a_,jS,hr,br,ho,e1,el,e2,decide_false,f_,ha,hx,hb,kx]
 |false=>simp only[↓ev,hp,a_,jS,hr,br,ho,e1,el,e2,decide_false,f_,ha,hx,hb,kx]
theorem hB2(hp:Pr jW [.d (bD ns),.d (.int (1+ki)),.d (.int 3)] (rd (.int pv)))(hr:(pv == 0)=rg)(ho:Pr kf [.d (bD ns),.d (.int (1+ki)),.d (.int 5)] (rd (.int ov)))(ha:eL (dS names) ki=some (.str nm))(hx:∀S,pH 0 [.d (bD ns),.d (.int ki),.d (.lst (dS names)),.d (.lst (dS carts))] S=some (.ok (.o (.lst (dS outs))) S))(hb:(bl.length < 1000000)=True)(e1:(ki == 0)=true)(el:((dS names).length:Int)=nl)(e2:(nl < 3)=True)(ht:Pr qH [.d (bD ns),.d (.int 0),.d (.int 3)] (rd (.int tv)))(e3:(tv == 1)=false):oP 0 (i8 S ns names carts ki a5 a6) (cb S bl)=some (.nx (i8 S ns names carts ki (some (.d (.bl rg))) (some (.d (.int (if rg=true then(1+ov)+1 else(1+ov)))))) (cb S (bl++[.tup [.str nm,.int (if rg=true then(1+ov)+1 else(1+ov)),.bl rg,.lst (dS outs)]]))):=by
 unfold oP i8 cb;cases rg with
 |true=>simp only[↓ev,hp,a_,jS,hr,br,ho,e1,el,e2,decide_true,ht,e3,f_,ha,hx,hb,kx]
 |false=>simp only[↓ev,hp,a_,jS,hr,br,ho,e1,el,e2,decide_true,ht,e3,f_,ha,hx,hb,kx]
theorem hB3(hp:Pr jW [.d (bD ns),.d (.int (1+ki)),.d (.int 3)] (rd (.int pv)))(hr:(pv == 0)=rg)(ho:Pr kf [.d (bD ns),.d (.int (1+ki)),.d (.int 5)] (rd (.int ov)))(ha:eL (dS names) ki=some (.str nm))(hx:∀S,pH 0 [.d (bD ns),.d (.int ki),.d (.lst (dS names)),.d (.lst (dS carts))] S=some (.ok (.o (.lst (dS outs))) S))(hb:(bl.length < 1000000)=True)(e1:(ki == 0)=true)(el:((dS names).length:Int)=nl)(e2:(nl < 3)=True)(ht:Pr qH [.d (bD ns),.d (.int 0),.d (.int 3)] (rd (.int tv)))(e3:(tv == 1)=true)(hd:Pr kC [.d (bD ns),.d (.int 0),.d (.int 3),.d (.int 14)] (rd (.int dv))):oP 0 (i8 S ns names carts ki a5 a6) (cb S bl)=some (.nx (i8 S ns names carts ki (some (.d (.bl rg))) (some (.d (.int (if rg=true then(10+dv)+1 else(10+dv)))))) (cb S (bl++[.tup [.str nm,.int (if rg=true then(10+dv)+1 else(10+dv)),.bl rg,.lst (dS outs)]]))):=by
 unfold oP i8 cb;cases rg with
 |true=>simp only[↓ev,hp,a_,jS,hr,br,ho,e1,el,e2,decide_true,ht,e3,hd,f_,ha,hx,hb,kx]
 |false=>simp only[↓ev,hp,a_,jS,hr,br,ho,e1,el,e2,decide_true,ht,e3,hd,f_,ha,hx,hb,kx]
end
end Carry
namespace Carry
open PySem L2
theorem XS(ns:List Int)(k:Nat)(names carts:List Str)(hand:Str)(bs:List aq)(a5 a6:Option Val)(hk:k < names.length)(hl:names.length<=5)(hh:carts.head?=some hand)(hc:carts.length<=4)(hb:bs.length<=100):
  ∃b:aq,b.name=names.getD k ""/\(1<=b.long/\b.long<=26/\(b.long<=6\/k=0/\names.length < 3))/\(b.ring=true->2<=b.long)/\n6 (names.drop (k+1)) carts hand b.outs/\∃Fz FK,∀S,oP 0 (i8 S ns names carts k a5 a6) (cb S (bs.map ao))=some (.nx (i8 S ns names carts k Fz FK) (cb S ((bs++[b]).map ao))):=by
 have hp:=wy ns (1+k) 3 (by omega) (by decide)
 have ho:=wg ns (1+k) 5 (by omega) (by decide)
 obtain⟨o1,o2,o3⟩:=kD ns (1+k) 1 5 (by omega) (by decide) (by decide)
 rw[show((1+k:Nat):Int)=1+(k:Int) by omega] at hp ho
 obtain⟨outs,ok,eo⟩:=ZD ns k names carts hand (by omega) hl hh hc
 have ha:=Ic (xs:=names) (k:=(k:Int)) (by omega) (by omega)
 rw[K'] at ha;have ht:Pr qH [.d (bD ns),.d (.int 0),.d (.int 3)] _:=Ib ns 0 3 (by decide) (by decide)
 obtain⟨d1,d2,d3⟩:=kD ns 0 3 14 (by decide) (by decide) (by decide)
 have d1:Pr kC [.d (bD ns),.d (.int 0),.d (.int 3),.d (.int 14)] _:=d1;have el:((dS names).length:Int)=(names.length:Int):=by rw[cz]
 have Ey:((bs.map ao).length < 1000000)=True:=eq_true (by rw[cz];omega)
 obtain⟨l',l1,e⟩:∃l':Int,(1<=l'/\l'<=25/\(l'<=5\/k=0/\names.length < 3))/\∀S,oP 0 (i8 S ns names carts k a5 a6) (cb S (bs.map ao))=some (.nx (i8 S ns names carts k (some (.d (.bl (bL ns (1+k) 0 3 == 0)))) (some (.d (.int (if(bL ns (1+k) 0 3 == 0)=true then l'+1 else l'))))) (cb S (bs.map ao++[.tup [.str (names.getD k ""),.int (if(bL ns (1+k) 0 3 == 0)=true then l'+1 else l'),.bl (bL ns (1+k) 0 3 == 0),.lst (dS outs)]]))):=by
  cases e1:((k:Int) == 0) with
  |false=>exact⟨_,by omega,λS=>hB0 hp rfl ho ha eo Ey e1⟩
  |true=>
   by_cases e2:(names.length:Int) < 3
   ·cases e3:(bL ns 0 2 3 == 1) with
    |false=>exact⟨_,by omega,λS=>hB2 hp rfl ho ha eo Ey e1 el (eq_true e2) ht e3⟩
    |true=>exact⟨_,by have:=beq_iff_eq.mp e1;omega,λS=>hB3 hp rfl ho ha eo Ey e1 el (eq_true e2) ht e3 d1⟩
   ·exact⟨_,by omega,λS=>hB1 hp rfl ho ha eo Ey e1 el (eq_false e2)⟩
 refine⟨aq.mk (names.getD k "") (if(bL ns (1+k) 0 3 == 0)=true then l'+1 else l') (bL ns (1+k) 0 3 == 0) outs,rfl,?_,λhr=>?_,ok,_,_,λS=>by rw[mV];exact e S⟩
 ·show 1<=(if(bL ns (1+k) 0 3 == 0)=true then l'+1 else l')/\(if(bL ns (1+k) 0 3 == 0)=true then l'+1 else l')<=26/\((if(bL ns (1+k) 0 3 == 0)=true then l'+1 else l')<=6\/k=0/\names.length < 3)
  split <;> omega
 ·have hr:(bL ns (1+k) 0 3 == 0)=true:=hr;show 2<=if(bL ns (1+k) 0 3 == 0)=true then l'+1 else l'
  rw[if_pos hr];omega
theorem SU(q:Nat)(S:aX)(ns:List Int)(n:Nat)(hn:n<=14):aV (aR 0) (mh true) (Dg q) (ie 0 n) [none,some (.d (bD ns))] S []=some (.ok (dS ((List.range n).map (kF ns 11))) S):=by
 rw[mO,AX (λk=>D.str (kF ns 11 k)) (List.range n) (by rw[uv];omega) λi m=>⟨rd (.str (kF ns 11 i)),by
  have h:Pr sg [.d (bD ns),.d (.int 11),.d (.int i)] _:=Pq ns 11 (by decide) i (by have:=qu.mp m;omega)
  unfold Dg;generalize(i:Int)=ii at *;simp only[↓ev,h],rfl⟩,dS,sJ]
 rfl
theorem SV(q:Nat)(S:aX)(ns:List Int)(n:Nat)(hn:n<=4):aV (aR 0) (mh true) (Dh q) (ie 0 n) [none,some (.d (bD ns))] S []=some (.ok (dS ((List.range n).map λi=>kF ns 11 (10+i))) S):=by
 rw[mO,AX (λk=>D.str (kF ns 11 (10+k))) (List.range n) (by rw[uv];omega) λi m=>⟨rd (.str (kF ns 11 (10+i))),by
  have h:Pr sg [.d (bD ns),.d (.int 11),.d (.int ((10+i:Nat):Int))] _:=Pq ns 11 (by decide) (10+i) (by have:=qu.mp m;omega)
  rw[show((10+i:Nat):Int)=10+(i:Int) by omega] at h
  unfold Dh;generalize(i:Int)=ii at *;simp only[↓ev,h],rfl⟩,dS,sJ]
 rfl
theorem OB:∀{bs:List aq},(∀b∈bs,b.outs.length<=4)->(bs.map λx=>x.outs.length).sum<=4 * bs.length
 |[],_=>cI _
 |b::bs,h=>by
  rw[dX,CJ,kd];have:=OB λb m=>h b (oI _ m)
  have:=h b (qa ..);omega
theorem NG(ns:List Int)(l:List Nat)(nd:l.Nodup)(hl:∀i∈l,i < 14):(l.map (kF ns 11)).Nodup:=by
 rw[List.Nodup,List.pairwise_map];exact nd.imp_of_mem λha hb ne z=>ne (Pu ns 11 (by decide) _ _ (by have:=hl _ ha;omega) (by have:=hl _ hb;omega) z)
theorem UB(S:aX)(ns:List Int)(n c:Int)(names carts:List Str)(a4 a5 a6:Option Val)(bs:List D)(hp:Pr jW [.d (bD ns),.d (.int 0),.d (.int 5)] (rd (.int n)))(ho:Pr kf [.d (bD ns),.d (.int 0),.d (.int 4)] (rd (.int c)))
  (i1:Nat.ble (1+n).natAbs 1000000000000=true) (i2:Nat.ble (1+c).natAbs 1000000000000=true) (nl:Int) (el:((dS names).length:Int)=nl) (i3:Nat.ble nl.natAbs 1000000000000=true)
  (e1:∀q S,aV (aR 0) (mh true) (Dg q) (ie 0 (1+n).toNat) [none,some (.d (bD ns))] S []=some (.ok (dS names) S)) (e2:∀q S,aV (aR 0) (mh true) (Dh q) (ie 0 (1+c).toNat) [none,some (.d (bD ns))] S []=some (.ok (dS carts) S))
  (e3:aE (aR 4) (oP 0) (ie 0 nl.toNat) [some (.d (bD ns)),some (.d (.lst (dS names))),some (.d (.lst (dS carts))),some (.c S.s.length),none,none,none] (cb S [])=some (.nx [some (.d (bD ns)),some (.d (.lst (dS names))),some (.d (.lst (dS carts))),some (.c S.s.length),a4,a5,a6] (cb S bs))) :
  v9 0 [.d (bD ns)] S=some (.ok (rd (.tup [.lst bs,.lst (dS carts)])) S):=by
 unfold v9 MX;simp only[↓ev,hp,i1,ja,e1,br,ho,i2,e2,a_,el,i3,e3,cb,f_,kx,k8]
end Carry
namespace Carry
open PySem L2
variable{ks:List Str}
structure qE (h:aU):Prop where
 bl:h.af.length<=100
 ct:h.carts.length<=100
 ou:(h.af.map λx=>x.outs.length).sum<=900
def ka(carts:List Str):List aq->Prop
 |[]=>True
 |b::bs=>(∀o∈b.outs,o∈bs.map aq.name\/o∈carts)/\b.name∉bs.map aq.name/\b.name∉carts/\ka carts bs
theorem DF{carts:List Str}:∀{bs:List aq},ka carts bs->∀x∈bs,∀y∈bs,x.name=y.name->x=y
 |z::bs,f,x,hx,y,hy,e=>by
  rcases fV.mp hx with sy|sy
  ·rcases fV.mp hy with xa|xa
   ·rw[sy,xa]
   ·exact absurd (zJ (f:=aq.name) xa) (by rw[<-e,sy];exact f.2.1)
  ·rcases fV.mp hy with xa|xa
   ·exact absurd (zJ (f:=aq.name) sy) (by rw[e,xa];exact f.2.1)
   ·exact DF f.2.2.2 x sy y xa e
theorem Ae{carts:List Str}:∀{bs:List aq},ka carts bs->∀c∈carts,c∉bs.map aq.name
 |[],_,c,_,h=>by cases h
 |b::bs,f,c,hc,h=>by
  rcases fV.mp h with z|z
  ·exact f.2.2.1 (by rw[<-z];exact hc)
  ·exact Ae f.2.2.2 c hc z
theorem yC{carts:List Str}:∀{xs ys:List aq},ka carts (xs++ys)->ka carts ys
 |[],_,f=>f
 |_::xs,ys,f=>yC (xs:=xs) f.2.2.2
abbrev i4(x:Str):Prop:=Pr sd [.d (.str x)] (rd (.bl true))
structure aI (h:aU):Prop where
 fwd:ka h.carts h.af
 sm:qE h
 nm:∀b∈h.af,i4 b.name
 cm:∀c∈h.carts,i4 c
 lg:∀b∈h.af,1<=b.long/\(b.ring=true->2<=b.long)
 hd:∀b∈h.af,h.carts.getD 0 ""∈b.outs\/∃o∈b.outs,o∈h.af.map aq.name
 cn:h.carts.Nodup
 c0:0 < h.carts.length
 nd:∀b∈h.af,b.outs.Nodup
theorem uN(bs:List aq)(h:bs.length<=1000000):Pr r9 [.d (.lst (bs.map ao))] (.o (.lst (dS (bs.map aq.name)))):=by
 have e:∀q S,aV (aR 0) (mh true) (FG q) (bs.map ao) [none] S []=some (.ok (dS (bs.map aq.name)) S):=λq S=>by
  rw[AX (λb=>D.str (aq.name b)) bs h λb m=>⟨rd (.str b.name),by
   unfold FG;simp only[↓ev,ao,eW],rfl⟩,dS,sJ]
  rfl
 intro q S;unfold r9 LQ;simp only[↓ev,e,jY]
def pX(ks:List Str):List (TK×D):=ks.map λk=>(TK.inr k,.bl true)
def jq(ks:List Str)(k:Str):List Str:=if ks.contains k then ks else ks++[k]
theorem y0(x:Str):∀ks:List Str,(bw (pX ks) (.inr x)).isSome=ks.contains x
 |[]=>rfl
 |k::ks=>by
  have ih:=y0 x ks;unfold bw pX at *;rw[dX,zI,List.contains_cons];by_cases e:k=x
  ·rw[decide_eq_true (by rw[e]),e,beq_self_eq_true]
   rfl
  ·rw[decide_eq_false (λz=>e (TK.inr.inj z)),show(x == k)=false by rw[beq_eq_false_iff_ne];exact λz=>e z.symm]
   rw[Bool.false_or];exact ih
theorem Iz(k:Str):∀ks:List Str,dW (pX ks) (.inr k) (.bl true)=pX (jq ks k)
 |[]=>rfl
 |j::ks=>by
  have ih:=Iz k ks;show(if(TK.inr j)=TK.inr k then(TK.inr j,D.bl true)::pX ks else(TK.inr j,D.bl true)::dW (pX ks) (.inr k) (.bl true))=_
  unfold jq at *;rw[List.contains_cons];by_cases e:j=k
  ·rw[if_pos (by rw[e]),e,beq_self_eq_true,Lf,if_pos rfl];rfl
  ·rw[if_neg (λz=>e (TK.inr.inj z)),ih,show(k == j)=false by rw[beq_eq_false_iff_ne];exact λz=>e z.symm,Bool.false_or]
   cases ks.contains k with
   |true=>rw[if_pos rfl,if_pos rfl];rfl
   |false=>rw[if_neg nM,if_neg nM];rfl
theorem Pw(ks:List Str):(pX ks).length=ks.length:=by unfold pX;rw[cz]
theorem VN(ks:List Str)(k:Str):(jq ks k).length<=ks.length+1:=by
 unfold jq;split
 ·omega
 ·rw[f7,Cz];exact cI _
theorem VO{k n:Str}:n∈jq ks k↔n=k\/n∈ks:=by
 unfold jq;split
 ·rename_i h
  rw[nN] at h;constructor
  ·exact .inr
  ·rintro(rfl|h')
   ·exact h
   ·exact h'
 ·rw[pj,p8];exact Or.comm
theorem ZE{x:Str}{S:aX}{n:Nat}(hs:S.s[n]?=some (.o (.aN (pX ks))))(hn:i4 x)(hx:ks.contains x=false)(hl:(ks.length < 1000000)=True):yr 0 [.d (.str x),.c n] S=some (.ok (rd .az) ⟨S.s.set n (.o (.aN (pX (jq ks x)))),S.r⟩):=by
 unfold yr L7;simp only[↓ev,hn,a_,hs,y0,hx,Pw,hl,Iz,En]
end Carry
namespace Carry
open PySem L2
variable{S:aX}{n:Nat}{ks carts:List Str}
abbrev tk(S:aX)(n:Nat)(ks:List Str):aX:=⟨S.s.set n (.o (.aN (pX ks))),S.r⟩
theorem take1{x:Str}(hn:n < S.s.length)(hx:i4 x)(h:x∉ks)(hl:ks.length < 1000):yr 0 [.d (.str x),.c n] (tk S n ks)=some (.ok (rd .az) (tk S n (ks++[x]))):=by
 have hc:ks.contains x=false:=by simpa using h
 rw[ZE (S:=tk S n ks) (n:=n) (zD hn) hx hc (eq_true (by omega))]
 unfold jq tk;rw[hc,if_neg nM];simp only[List.set_set]
theorem SW{d0 a:Option Val}(hn:n < S.s.length)(nm:∀c∈carts,i4 c)(nd:(ks++carts).Nodup)(hl:ks.length+carts.length < 1000):
  ∃a',aE (aR 2) (C1 0) (dS carts) [d0,some (.c n),a] (tk S n ks)=some (.nx [d0,some (.c n),a'] (tk S n (ks++carts))):=by
 obtain⟨U',S',e,a',rfl,rfl⟩:=pL (gg:=aR 2) (body:=C1 0) (f:=D.str) (U:=[d0,some (.c n),a]) (S:=tk S n ks) (λpre U S'=>∃a',U=[d0,some (.c n),a']/\S'=tk S n (ks++pre)) carts ⟨a,rfl,by rw[p7]⟩ (by
  rintro d x r eq U S' ⟨a',rfl,rfl⟩;have h1:x∉ks++d:=by
   rw[eq,<-m8] at nd;exact λm=>(p9.mp nd).2.2 x m x (qa ..) rfl
  have h2:=congrArg List.length eq;rw[f7,kd] at h2;have h:=take1 hn (nm x (by rw[eq];simp)) h1 (by rw[f7];omega)
  refine⟨[d0,some (.c n),some (.d (.str x))],[d0,some (.c n),some (.d (.str x))],_,rfl,.inl ?_,_,rfl,rfl⟩;rw[<-m8];unfold C1;simp only[↓ev,h,wm])
 exact⟨a',e⟩
theorem XT(hn:n < S.s.length)(nm:∀c∈carts,i4 c)(nd:(ks++carts).Nodup)(hl:ks.length+carts.length < 1000)(h0:carts≠[]):C7 0 [.d (.lst (dS carts)),.c n] (tk S n ks)=some (.ok (rd .az) (tk S n (ks++carts))):=by
 obtain⟨a',e⟩:=SW (d0:=some (.d (.lst (dS carts)))) (a:=none) hn nm nd hl;have z:(dS carts).isEmpty=false:=by cases carts with|nil=>exact absurd rfl h0|cons _ _=>rfl
 have lc:∀vj,(tk S n vj).cut (tk S n ks).s.length=tk S n vj:=λvj=>by unfold aX.cut;simp only[sH];rw[zE (by rw[sH];exact cI _)]
 unfold C7 LJ;simp only[↓ev,ja,e,z,rW,a_,lc]
end Carry
namespace Carry
open PySem L2
variable{S:aX}{n:Nat}{ks:List Str}
theorem ZF{c:Cell}{vj:List Str}:(tk S n vj).cut (S.s.set n c).length=tk S n vj:=by
 unfold aX.cut;simp only[sH];rw[zE (by rw[sH];exact cI _)]
theorem SX{bs:List aq}{d0 a2 a3 a4 a5 a6:Option Val}(hn:n < S.s.length)(nm:∀b∈bs,i4 b.name)(lg:∀b∈bs,1<=b.long/\(b.ring=true->2<=b.long))(nd:(ks++bs.map aq.name).Nodup)(hl:ks.length+bs.length < 1000):
  ∃b2 b3 b4 b5 b6,aE (dg [(aR 2),(aR 3),(aR 4),(aR 5)]) (C2 0) (bs.map ao) [d0,some (.c n),a2,a3,a4,a5,a6] (tk S n ks)=some (.nx [d0,some (.c n),b2,b3,b4,b5,b6] (tk S n (ks++bs.map aq.name))):=by
 obtain⟨U',S',e,b2,b3,b4,b5,b6,rfl,rfl⟩:=pL (gg:=dg [(aR 2),(aR 3),(aR 4),(aR 5)]) (body:=C2 0) (f:=ao) (U:=[d0,some (.c n),a2,a3,a4,a5,a6]) (S:=tk S n ks) (λpre U S'=>∃b2 b3 b4 b5 b6,U=[d0,some (.c n),b2,b3,b4,b5,b6]/\S'=tk S n (ks++pre.map aq.name)) bs ⟨a2,a3,a4,a5,a6,rfl,by rw[CA,p7]⟩ (by
  rintro d x r eq U S' ⟨b2,b3,b4,b5,b6,rfl,rfl⟩;have h1:x.name∉ks++d.map aq.name:=by
   rw[eq,mV,dX,<-m8] at nd;exact λm=>(p9.mp nd).2.2 _ m _ (qa ..) rfl
  have h2:=congrArg List.length eq;rw[f7,kd] at h2;have mx:x∈bs:=by rw[eq];simp
  have h:=take1 hn (nm x mx) h1 (by rw[f7,cz];omega)
  obtain⟨l1,l2⟩:=lg x mx;have e1:∀b,dg [(aR 2),(aR 3),(aR 4),(aR 5)] (ao x) [d0,some (.c n),b2,b3,b4,b5,b]=some [d0,some (.c n),some (.d (.str x.name)),some (.d (.int x.long)),some (.d (.bl x.ring)),some (.d (.lst (dS x.outs))),b]:=λ_=>rfl
  refine⟨_,[d0,some (.c n),some (.d (.str x.name)),some (.d (.int x.long)),some (.d (.bl x.ring)),some (.d (.lst (dS x.outs))),some (.d (.int (if x.ring=true then 2 else 1)))],_,e1 _,.inl ?_,_,_,_,_,_,rfl,rfl⟩
  rw[mV,dX,CA,<-m8];unfold C2;cases hr:x.ring with
  |true=>
   have z:(x.long < 2)=False:=eq_false (by have:=l2 hr;omega)
   simp only[↓ev,h,wm,br,z,decide_false,a_]
  |false=>
   have z:(x.long < 1)=False:=eq_false (by omega)
   simp only[↓ev,h,wm,a_,br,z,decide_false])
 exact⟨b2,b3,b4,b5,b6,e⟩
theorem XU{bs:List aq}(hn:n < S.s.length)(nm:∀b∈bs,i4 b.name)(lg:∀b∈bs,1<=b.long/\(b.ring=true->2<=b.long))(nd:(ks++bs.map aq.name).Nodup)(hl:ks.length+bs.length < 1000):C8 0 [.d (.lst (bs.map ao)),.c n] (tk S n ks)=some (.ok (rd .az) (tk S n (ks++bs.map aq.name))):=by
 obtain⟨b2,b3,b4,b5,b6,e⟩:=SX (d0:=some (.d (.lst (bs.map ao)))) (a2:=none) (a3:=none) (a4:=none) (a5:=none) (a6:=none) hn nm lg nd hl;unfold C8 LK;simp only[↓ev,ja,e,ZF]
end Carry
namespace Carry
open PySem L2
variable{ks:List Str}
abbrev ju(S:aX)(ks:List Str):aX:=⟨S.s++[.o (.aN (pX ks))],S.r⟩
def bR(b:Str)(ks:List Str)(x:aq):List Str:=if(x.name == b || ks.contains x.name)=true then x.outs.foldl jq ks else ks
theorem NH(outs:List Str):∀ks:List Str,(outs.foldl jq ks).length<=ks.length+outs.length:=by
 induction outs with
 |nil=>intro ks;exact cI _
 |cons o outs ih=>
  intro ks;rw[vK,kd];have:=ih (jq ks o);have:=VN ks o;omega
section
variable {S:aX} {g0 g1 g3 g4 g5 g6 a:Option Val}
theorem Kf{o:Str}(hl:(ks.length < 1000000)=True):z7 0 [g0,g1,some (.c S.s.length),g3,g4,g5,g6,some (.d (.str o))] (ju S ks)=some (.nx [g0,g1,some (.c S.s.length),g3,g4,g5,g6,some (.d (.str o))] (ju S (jq ks o))):=by
 unfold z7;simp only[↓ev,f_,Pw,hl,Iz,kx]
theorem VP(outs ks:List Str)(h:ks.length+outs.length < 1000000):∃a',aE (aR 7) (z7 0) (dS outs) [g0,g1,some (.c S.s.length),g3,g4,g5,g6,a] (ju S ks)=some (.nx [g0,g1,some (.c S.s.length),g3,g4,g5,g6,a'] (ju S (outs.foldl jq ks))):=by
 obtain⟨U',S',e,a',rfl,rfl⟩:=pL (gg:=aR 7) (body:=z7 0) (f:=D.str) (U:=[g0,g1,some (.c S.s.length),g3,g4,g5,g6,a]) (S:=ju S ks) (λpre U S'=>∃a',U=[g0,g1,some (.c S.s.length),g3,g4,g5,g6,a']/\S'=ju S (pre.foldl jq ks)) outs ⟨a,rfl,rfl⟩ (by
  rintro d x r eq U S' ⟨a',rfl,rfl⟩;have h2:=congrArg List.length eq;rw[f7,kd] at h2;have:=NH d ks;refine⟨_,_,_,rfl,.inl (Kf (eq_true (by omega))),_,rfl,by rw[Ld];rfl⟩)
 exact⟨a',e⟩
theorem SY(b:Str)(bs:List aq)(ks:List Str)(a3 a4 a5 a6 a7:Option Val)(h:ks.length+(bs.map λx=>x.outs.length).sum < 1000000):∃b3 b4 b5 b6 b7,aE (dg [(aR 3),(aR 4),(aR 5),(aR 6)]) (yu 0) (bs.map ao) [g0,some (.d (.str b)),some (.c S.s.length),a3,a4,a5,a6,a7] (ju S ks)=some (.nx [g0,some (.d (.str b)),some (.c S.s.length),b3,b4,b5,b6,b7] (ju S (bs.foldl (bR b) ks))):=by
 obtain⟨U',S',e,b3,b4,b5,b6,b7,rfl,rfl,_⟩:=pL (gg:=dg [(aR 3),(aR 4),(aR 5),(aR 6)]) (body:=yu 0) (f:=ao) (U:=[g0,some (.d (.str b)),some (.c S.s.length),a3,a4,a5,a6,a7]) (S:=ju S ks) (λpre U S'=>∃b3 b4 b5 b6 b7,U=[g0,some (.d (.str b)),some (.c S.s.length),b3,b4,b5,b6,b7]/\S'=ju S (pre.foldl (bR b) ks)/\(pre.foldl (bR b) ks).length<=ks.length+(pre.map λx=>x.outs.length).sum) bs ⟨a3,a4,a5,a6,a7,rfl,rfl,Fc _ _⟩ (by
  rintro d x r eq U S' ⟨b3,b4,b5,b6,b7,rfl,rfl,hl⟩;rw[eq,mV,dX,Lg,CJ] at h;have hf:=NH x.outs (d.foldl (bR b) ks);have e1:dg [(aR 3),(aR 4),(aR 5),(aR 6)] (ao x) [g0,some (.d (.str b)),some (.c S.s.length),b3,b4,b5,b6,b7]=some [g0,some (.d (.str b)),some (.c S.s.length),some (.d (.str x.name)),some (.d (.int x.long)),some (.d (.bl x.ring)),some (.d (.lst (dS x.outs))),b7]:=rfl;rw[Ld,mV,Lg];show ∃U1 U' S',_/\_/\∃b3 b4 b5 b6 b7,U'=_/\S'=ju S (bR b (d.foldl (bR b) ks) x)/\(bR b (d.foldl (bR b) ks) x).length<=_+(_+(x.outs.length+0));obtain⟨a',e2⟩:=VP (S:=S) (g0:=g0) (g1:=some (.d (.str b))) (g3:=some (.d (.str x.name))) (g4:=some (.d (.int x.long))) (g5:=some (.d (.bl x.ring))) (g6:=some (.d (.lst (dS x.outs)))) (a:=b7) x.outs (d.foldl (bR b) ks) (by omega)
  generalize d.foldl (bR b) ks=ks1 at *;unfold bR;cases c1:x.name == b with
  |true=>
   refine⟨_,_,_,e1,.inl (by unfold yu;simp only[↓ev,a_,qo,c1,ja,e2] <;> rfl),_,_,_,_,_,rfl,?_,?_⟩
   ·rw[Lf,if_pos rfl]
   ·rw[Lf,if_pos rfl];omega
  |false=>
   cases c2:ks1.contains x.name with
   |true=>
    refine⟨_,_,_,e1,.inl (by unfold yu;simp only[↓ev,a_,qo,c1,f_,y0,c2,ja,e2] <;> rfl),_,_,_,_,_,rfl,?_,?_⟩
    ·rw[Bool.or_true,if_pos rfl]
    ·rw[Bool.or_true,if_pos rfl];omega
   |false=>
    refine⟨_,_,_,e1,.inl (by unfold yu;simp only[↓ev,a_,qo,c1,f_,y0,c2] <;> rfl),_,_,_,_,_,rfl,?_,?_⟩
    ·rw[K8,if_neg nM]
    ·rw[K8,if_neg nM];omega)
 exact⟨b3,b4,b5,b6,b7,e⟩
theorem RW(q:Nat)(xs:List Str)(h:xs.length<=1000000):aV (aR 0) (Gj q) (Gk q) (dS xs) [none,some (.c S.s.length)] (ju S ks) []=some (.ok (dS (xs.filter λo=>ks.contains o)) (ju S ks)):=by
 rw[dS,wM (λo=>if ks.contains o=true then some (.str o) else none) xs (by omega) λo m=>by
  unfold Gj Gk;cases hc:ks.contains o with
  |true=>exact .inr ⟨rd (.str o),.str o,rfl,by simp only[↓ev,f_,a_,y0,hc],by simp only[↓ev],rfl⟩
  |false=>exact .inl ⟨rfl,by simp only[↓ev,f_,a_,y0,hc]⟩]
 congr 2
 induction xs with
 |nil=>rfl
 |cons o r ih=>
  rw[vH,uo];split
  ·rename_i z
   split at z
   ·cases z
   ·rename_i z2
    rw[if_neg z2];exact ih (by simp at h;omega)
  ·rename_i b z
   split at z
   ·rename_i z2
    cases z;rw[if_pos z2,ih (by simp at h;omega)]
    rfl
   ·cases z
theorem UC{h:aU}(sm:qE h)(b:Str):P0 Dr [.d (aF h),.d (.str b)] (.o (.lst (dS ((h.af.map aq.name++h.carts).filter λx=>(h.af.foldl (bR b) []).contains x)))):=by
 intro S;have h1:=sm.bl;have h2:=sm.ct;have h3:=sm.ou;obtain⟨b3,b4,b5,b6,b7,e⟩:=SY (S:=S) (g0:=some (.d (aF h))) b h.af [] none none none none none (by rw[zF];omega)
 have hn:=uN h.af (by omega)
 have hc:=λq=>RW (S:=S) (ks:=h.af.foldl (bR b) []) q (h.af.map aq.name++h.carts) (by rw[f7,cz];omega)
 have ap:dS (h.af.map aq.name)++dS h.carts=dS (h.af.map aq.name++h.carts):=mV.symm;have le:((dS (h.af.map aq.name)).length+(dS h.carts).length<=1000000)=True:=eq_true (by rw[cz,cz,cz];omega)
 have hD:aF h=.tup [.lst (h.af.map ao),.lst (dS h.carts)]:=rfl;rw[show ju S []=⟨S.s++[.o (.aN [])],S.r⟩ from rfl] at e;rw[hD] at e ⊢;unfold Dr MQ;simp only[↓ev,br,eW,ja,e,ju,hn,hV,le,ap,hc,k8]
end
end Carry
namespace Carry
open PySem L2
variable{outs:List Str}{b n:Str}{h:aU}
def Px(bs:List aq)(b:Str):List Str:=bs.foldl (bR b) []
inductive RR (bs:List aq) (outs:List Str):Str->Prop
 |base {n:Str}:n∈outs->RR bs outs n
 |step {m n:Str} {b:aq}:RR bs outs m->b∈bs->b.name=m->n∈b.outs->RR bs outs n
theorem jP:∀{ks:List Str} {n:Str},n∈outs.foldl jq ks↔n∈outs\/n∈ks:=by
 induction outs with
 |nil=>intro ks n;simp
 |cons o outs ih=>
  intro ks n;rw[vK,ih,VO,fV];constructor
  ·rintro(h|h|h)
   ·exact .inl (.inr h)
   ·exact .inl (.inl h)
   ·exact .inr h
  ·rintro((h|h)|h)
   ·exact .inr (.inl h)
   ·exact .inl h
   ·exact .inr (.inr h)
theorem UD{ks:List Str}{x:aq}(h:n∈ks):n∈bR b ks x:=by
 unfold bR;split
 ·exact jP.mpr (.inr h)
 ·exact h
theorem UE{bs:List aq}:∀{ks:List Str} {n:Str},n∈ks->n∈bs.foldl (bR b) ks:=by
 induction bs with
 |nil=>intro ks n h;exact h
 |cons x bs ih=>intro ks n h;exact ih (UD h)
theorem MZ{carts:List Str}{b:Str}:∀{bs:List aq} {ks:List Str} {n:Str},ka carts bs->n∈bs.foldl (bR b) ks->n∈ks\/n∈bs.tail.map aq.name\/n∈carts
 |[],ks,n,_,h=>.inl h
 |x::bs,ks,n,f,h=>by
  rcases MZ f.2.2.2 h with z|z|z
  ·unfold bR at z;split at z
   ·rcases jP.mp z with z|z
    ·rcases f.1 n z with z|z
     ·exact .inr (.inl z)
     ·exact .inr (.inr z)
    ·exact .inl z
   ·exact .inl z
  ·refine .inr (.inl ?_);cases bs with
   |nil=>exact z
   |cons y bs=>exact oI _ z
  ·exact .inr (.inr z)
theorem F_{carts:List Str}{b:Str}:∀{bs:List aq} {ks:List Str},ka carts bs->∀x∈bs,(x.name=b\/x.name∈bs.foldl (bR b) ks)->∀o∈x.outs,o∈bs.foldl (bR b) ks
 |y::bs,ks,f,x,hx,hn,o,ho=>by
  rcases fV.mp hx with rfl|hx
  ·have h1:(x.name == b || ks.contains x.name)=true:=by
    rcases hn with hn|hn
    ·rw[hn,beq_self_eq_true,Lf]
    ·rcases MZ (b:=b) f hn with z|z|z
     ·rw[nN.mpr z,Bool.or_true]
     ·exact absurd z f.2.1
     ·exact absurd z f.2.2.1
   show o∈bs.foldl (bR b) (bR b ks x);refine UE ?_;unfold bR;rw[if_pos h1];exact jP.mpr (.inl ho)
  ·exact F_ (ks:=bR b ks y) f.2.2.2 x hx hn o ho
theorem NI{AO:List aq}{b:aq}(hb:b∈AO)(hu:∀x∈AO,x.name=b.name->x=b):∀{bs:List aq} {ks:List Str},(∀x∈bs,x∈AO)->(∀n∈ks,RR AO b.outs n)->∀n∈bs.foldl (bR b.name) ks,RR AO b.outs n
 |[],ks,_,h,n,hn=>h n hn
 |x::bs,ks,hs,h,n,hn=>NI hb hu (λy hy=>hs y (oI _ hy)) (λm hm=>by
   unfold bR at hm;split at hm
   ·rename_i hc
    rcases jP.mp hm with z|z
    ·rw[Bool.or_eq_true,beq_iff_eq,nN] at hc;rcases hc with hc|hc
     ·rw[hu x (hs x qa) hc] at z;exact .base z
     ·exact .step (h _ hc) (hs x qa) rfl z
    ·exact h m z
   ·exact h m hm) n hn
theorem UG(f:ka h.carts h.af){b:aq}(hb:b∈h.af)(n:Str):n∈Px h.af b.name↔RR h.af b.outs n:=by
 unfold Px;constructor
 ·exact NI hb (λx hx e=>DF f x hx b hb e) (λ_ m=>m) (λ_ m=>by cases m) n
 ·intro r
  induction r with
  |base m=>exact F_ f b hb (.inl rfl) _ m
  |step r hx hn hm ih=>exact F_ f _ hx (.inr (by rw[hn];exact ih)) _ hm
theorem VQ{bs:List aq}{w:aq}(hw:w∈bs)(r:RR bs outs w.name)(r2:RR bs w.outs n):RR bs outs n:=by
 induction r2 with
 |base m=>exact .step r hw rfl m
 |step _ hb hn hm ih=>exact .step ih hb hn hm
theorem Ie{h:aU}(g:aI h):∀{bs pre:List aq},h.af=pre++bs->∀b∈bs,RR h.af b.outs (h.carts.getD 0 "")
 |x::bs,pre,eq,b,hb=>by
  have ze:h.af=(pre++[x])++bs:=by rw[eq];simp
  rcases fV.mp hb with rfl|hb
  ·have Ez:b∈h.af:=by rw[eq];simp
   have fx:ka h.carts (b::bs):=yC (by rw[<-eq];exact g.fwd)
   rcases g.hd b Ez with z|⟨o,z1,z2⟩
   ·exact .base z
   ·rcases fx.1 o z1 with y|y
    ·obtain⟨w,hw,ew⟩:=p_.mp y;exact VQ (w:=w) (by rw[ze];simp[hw]) (by rw[ew];exact .base z1) (Ie g ze w hw)
    ·exact absurd z2 (Ae g.fwd o y)
  ·exact Ie g ze b hb
theorem og(g:aI h):h.carts.getD 0 ""∈h.carts/\eL (dS h.carts) 0=some (.str (h.carts.getD 0 "")):=by
 have:=g.c0;cases ED:h.carts with
 |nil=>rw[ED] at this;simp at this
 |cons c cs=>exact⟨by simp,qJ (j:=0) rfl⟩
theorem ZG(g:aI h):P0 Dc [.d (aF h)] (rd .az):=by
 intro S;have bl:=g.sm.bl;obtain⟨hc,i0⟩:=og g;have e1:=uN h.af (by omega)
 obtain⟨U',S',e,a,rfl,rfl⟩:=pL (gg:=aR 2) (body:=FH 0) (f:=D.str) (U:=[some (.d (aF h)),some (.d (.str (h.carts.getD 0 ""))),none]) (S:=S) (λ_ U S'=>∃a,U=[some (.d (aF h)),some (.d (.str (h.carts.getD 0 ""))),a]/\S'=S) (h.af.map aq.name) ⟨_,rfl,rfl⟩ (by
  rintro d x r eq U S' ⟨a,rfl,rfl⟩;obtain⟨b,hb,rfl⟩:∃b∈h.af,b.name=x:=p_.mp (by rw[eq];simp)
  have e1:=UC g.sm b.name;have hm:((h.af.map aq.name++h.carts).filter λx=>(h.af.foldl (bR b.name) []).contains x).contains (h.carts.getD 0 "")=true:=by
   rw[nN,zC];exact⟨nY _ hc,nN.mpr ((UG g.fwd hb _).mpr (Ie g (pre:=[]) rfl b hb))⟩
  refine⟨[some (.d (aF h)),some (.d (.str (h.carts.getD 0 ""))),some (.d (.str b.name))],_,_,rfl,.inl ?_,some (.d (.str b.name)),rfl,rfl⟩;unfold FH;generalize((h.af.map aq.name++h.carts).filter λx=>(h.af.foldl (bR b.name) []).contains x)=l at *
  generalize h.carts.getD 0 ""=hand at *;simp only[↓ev,e1,nj,mW,hm,nZ,a_])
 have hD:aF h=.tup [.lst (h.af.map ao),.lst (dS h.carts)]:=rfl;generalize h.carts.getD 0 ""=hand at *;rw[hD] at e ⊢;unfold Dc LW;simp only[↓ev,hV,i0,br,eW,e1,ja,e,jY]
end Carry
namespace Carry
open PySem L2
theorem LY{x z:Str}:∀{ys:List Str} {j:Nat},ys[j]?=some z->x∈ys->x≠z->x∈ys.eraseIdx j
 |y::ys,0,e,hx,ic=>by
  rw[List.getElem?_cons_zero] at e;cases e;rcases fV.mp hx with rfl|hx
  ·exact absurd rfl ic
  ·exact hx
 |y::ys,j+1,e,hx,ic=>by
  rw[List.getElem?_cons_succ] at e;show x∈y::ys.eraseIdx j;rcases fV.mp hx with rfl|hx
  ·exact .head _
  ·exact .tail _ (LY e hx ic)
 |[],_,_,hx,_=>by cases hx
theorem M0{z:Str}{ys:List Str}(h:z∈ys):∃j,findS ys z=some j:=by
 cases q:findS ys z with
 |some j=>exact⟨j,rfl⟩
 |none=>
  unfold findS at q;rw[List.findIdx?_eq_none_iff] at q;have:=q z h;simp at this
theorem VR(L:List Str)(j:Nat):(dS L).eraseIdx j=dS (L.eraseIdx j):=by
 unfold dS;rw[Le,Le,mV,List.map_take,E8]
section
variable {S:aX} {s0 s1 s2 s3 s4 s5 a7:Option Val}
theorem Kk{L:List Str}{x:Str}{j:Nat}(hc:L.contains x=true)(hj:findS L x=some j):zY 0 [s0,s1,s2,s3,s4,s5,some (.c S.s.length),some (.d (.str x))] (cb S (dS L))=some (.nx [s0,s1,s2,s3,s4,s5,some (.c S.s.length),some (.d (.str x))] (cb S (dS (L.eraseIdx j)))):=by
 have h:=MI L;unfold zY;simp only[↓ev,cb,f_,nj,mW,hc,nZ,a_,h,hj,VR,kx]
theorem XX(outs L:List Str)(nd:outs.Nodup)(hs:∀o∈outs,o∈L):∃L' b7,aE (aR 7) (zY 0) (dS outs) [s0,s1,s2,s3,s4,s5,some (.c S.s.length),a7] (cb S (dS L))=some (.nx [s0,s1,s2,s3,s4,s5,some (.c S.s.length),b7] (cb S (dS L'))):=by
 obtain⟨U',S',e,L',b7,rfl,rfl,_⟩:=pL (gg:=aR 7) (body:=zY 0) (f:=D.str) (U:=[s0,s1,s2,s3,s4,s5,some (.c S.s.length),a7]) (S:=cb S (dS L)) (λpre U S'=>∃L' b7,U=[s0,s1,s2,s3,s4,s5,some (.c S.s.length),b7]/\S'=cb S (dS L')/\∀o∈outs,o∉pre->o∈L') outs ⟨L,a7,rfl,rfl,λo ho _=>hs o ho⟩ (by
  rintro q x post eq U S' ⟨L',b7,rfl,rfl,hL⟩;have hxq:x∉q:=λz=>by
   rw[eq] at nd;exact(p9.mp nd).2.2 x z x (.head _) rfl
  have hx:x∈L':=hL x (by rw[eq];simp) hxq
  obtain⟨j,hj⟩:=M0 hx;refine⟨_,_,_,rfl,.inl (Kk (nN.mpr hx) hj),L'.eraseIdx j,some (.d (.str x)),rfl,rfl,λo ho hq=>?_⟩
  simp only[pj,p8,not_or] at hq;exact LY (Gw hj).1 (hL o ho hq.1) hq.2)
 exact⟨L',b7,e⟩
end
end Carry
namespace Carry
open PySem L2
theorem VS(q:List aq)(x:aq)(post:List aq)(i:Int)(hi:i=(q.length:Nat)):cutD ((q++x::post).map ao) (some (i+1)) none=post.map ao:=by
 unfold cutD;have e4:HT.dA ((q++x::post).map ao).length 0 (some (i+1))=q.length+1:=by
  unfold HT.dA;simp only[cz,f7,QA];rw[if_neg (by omega)]
  omega
 have e5:HT.dA ((q++x::post).map ao).length ((q++x::post).map ao).length none=((q++x::post).map ao).length:=rfl;have e6:((q++x::post).map ao).drop (q.length+1)=post.map ao:=by
  rw[<-E8,show q++x::post=(q++[x])++post by simp,List.drop_left' (by simp)]
 rw[e4,e5,e6];exact zE (by rw[cz,cz,f7,kd];omega)
section
variable {S:aX} {h:aU}
theorem VT{d0:List D}{cs:List Str}{i:Int}{x:aq}{post:List aq}{a4 a5 a6 a7:Option Val}(hs:cutD d0 (some (i+1)) none=post.map ao)(hp:post.length<=1000)(hc:cs.length<=1000)(nd:x.outs.Nodup)(sb:∀o∈x.outs,o∈post.map aq.name++cs)(ne:x.outs≠[]):
  ∃L' b7,C5 0 [some (.d (.lst d0)),some (.d (.lst (dS cs))),some (.d (.int i)),some (.d (ao x)),a4,a5,a6,a7] S=some (.nx [some (.d (.lst d0)),some (.d (.lst (dS cs))),some (.d (.int i)),some (.d (ao x)),some (.d (.str x.name)),some (.d (.lst (dS x.outs))),some (.c S.s.length),b7] (cb S (dS L'))):=by
 obtain⟨L',b7,e⟩:=XX (S:=S) (s0:=some (.d (.lst d0))) (s1:=some (.d (.lst (dS cs)))) (s2:=some (.d (.int i))) (s3:=some (.d (ao x))) (s4:=some (.d (.str x.name))) (s5:=some (.d (.lst (dS x.outs)))) (a7:=a7) x.outs (post.map aq.name++cs) nd sb;have e1:=uN post (by omega)
 have ap:dS (post.map aq.name)++dS cs=dS (post.map aq.name++cs):=mV.symm;have le:((dS (post.map aq.name)).length+(dS cs).length<=1000000)=True:=eq_true (by rw[cz,cz,cz];omega)
 have z:(dS x.outs).isEmpty=false:=by cases hz:x.outs with|nil=>exact absurd hz ne|cons _ _=>rfl
 have hD:ao x=.tup [.str x.name,.int x.long,.bl x.ring,.lst (dS x.outs)]:=rfl;refine⟨L',b7,?_⟩;rw[hD] at e ⊢;unfold C5;simp only[↓ev,eW,br,yM,is4,hs,e1,le,ap,ja,e,z,rW,a_]
theorem UH(g:aI h)(ho:∀b∈h.af,b.outs≠[]):P0 C_ [.d (.lst (h.af.map ao)),.d (.lst (dS h.carts))] (rd .az):=by
 intro S;have bl:=g.sm.bl;have ct:=g.sm.ct;have fw:=g.fwd;obtain⟨U',S',e,a2,a3,a4,a5,a6,a7,L,rfl,rfl⟩:=ζ (gg:=dg [(aR 2),(aR 3)]) (body:=C5 0) (U:=[some (.d (.lst (h.af.map ao))),some (.d (.lst (dS h.carts))),none,none,none,none,none,none]) (S:=S) ao (λpre U S'=>∃a2 a3 a4 a5 a6 a7 L,U=[some (.d (.lst (h.af.map ao))),some (.d (.lst (dS h.carts))),a2,a3,a4,a5,a6,a7]/\S'=⟨S.s++L,S.r⟩) h.af ⟨_,_,_,_,_,_,[],rfl,by rw[p7]⟩ (by
  rintro q x post eq U S' ⟨a2,a3,a4,a5,a6,a7,L,rfl,rfl⟩;have hb:x∈h.af:=by rw[eq];simp
  have hl:=congrArg List.length eq;rw[f7,kd] at hl;have fx:ka h.carts (x::post):=yC (by rw[<-eq];exact fw)
  have hs:=VS q x post (q.length:Nat) rfl;rw[<-eq] at hs;obtain⟨L',b7,e⟩:=VT (S:=⟨S.s++L,S.r⟩) (a4:=a4) (a5:=a5) (a6:=a6) (a7:=a7) (cs:=h.carts) hs (by omega) (by omega) (g.nd x hb) (λo m=>by
   rcases fx.1 o m with z|z
   ·exact E_ _ z
   ·exact nY _ z) (ho x hb)
  exact⟨_,_,_,rfl,e,_,_,_,_,_,_,L++[.o (.lst (dS L'))],rfl,by unfold cb;rw[m8]⟩)
 unfold C_ LU;simp only[↓ev,ja,e,k8]
theorem Mq(g:aI h):(h.carts++h.af.map aq.name).Nodup:=by
 refine p9.mpr ⟨g.cn,?_,λa ha b hb e=>Ae g.fwd a ha (e ▸ hb)⟩
 have:∀{bs:List aq},ka h.carts bs->(bs.map aq.name).Nodup:=by
  intro bs
  induction bs with
  |nil=>intro _;exact .nil
  |cons b bs ih=>intro f;exact sG.mpr ⟨f.2.1,ih f.2.2.2⟩
 exact this g.fwd
theorem XY(g:aI h):P0 C9 [.d (aF h)] (rd (.bl true)):=by
 intro S;have ho:∀b∈h.af,b.outs≠[]:=λb hb z=>by
  rcases g.hd b hb with y|⟨o,y,_⟩
  ·rw[z] at y;cases y
  ·rw[z] at y;cases y
 have bl:=g.sm.bl;have ct:=g.sm.ct;have nd:=Mq g;have c0:h.carts≠[]:=λz=>by have:=g.c0;rw[z] at this;cases this
 have ln:∀c,S.s.length < (S.s++[c]:List Cell).length:=λc=>by rw[f7];exact sF _
 have e1:=XT (S:=⟨S.s++[.o (.aN [])],S.r⟩) (n:=S.s.length) (ks:=[]) (carts:=h.carts) (ln _) g.cm (by rw[E7];exact g.cn) (by rw[zF];omega) c0
 have e2:=XU (S:=⟨S.s++[.o (.aN [])],S.r⟩) (n:=S.s.length) (ks:=h.carts) (bs:=h.af) (ln _) g.nm g.lg nd (by omega)
 have se:∀c:Cell,(S.s++[Cell.o (.aN [])]).set S.s.length c=S.s++[c]:=λc=>kx
 simp only[tk,se,qqc] at e1 e2;have k0:pX []=[]:=rfl;rw[k0] at e1;have e3:=UH g ho;have e4:=ZG g;have hD:aF h=.tup [.lst (h.af.map ao),.lst (dS h.carts)]:=rfl;rw[hD] at e4 ⊢;unfold C9 LL;simp only[↓ev,eW,br,hV,e1,e2,e3,e4,k8]
end
end Carry
namespace Carry
open PySem L2
theorem M3(names carts:List Str)(nd:names.Nodup)(dj:∀x∈names,x∉carts):∀(bs:List aq) (j:Nat),j+bs.length=names.length->(∀i b,bs[i]?=some b->b.name=names.getD (j+i) ""/\∀o∈b.outs,o∈names.drop (j+i+1)++carts)->ka carts bs/\bs.map aq.name=names.drop j
 |[],j,hl,_=>⟨True.intro,by rw[List.drop_eq_nil_of_le (by simp at hl;omega)];rfl⟩
 |b::bs,j,hl,h=>by
  rw[kd] at hl;obtain⟨f,e⟩:=M3 names carts nd dj bs (j+1) (by omega) λi b hb=>by
   have:=h (i+1) b (by simpa using hb)
   rw[show j+(i+1)=j+1+i by omega] at this
   exact this
  obtain⟨h1,h2⟩:=h 0 b rfl;rw[Nat.add_zero] at h1 h2;have hj:j < names.length:=by omega
  have ed:names.drop j=names[j]::names.drop (j+1):=La hj;have en:b.name=names[j]:=by rw[h1,uw,jR hj];rfl
  have Qr:(names.drop j).Nodup:=nd.sublist (List.drop_sublist _ _);rw[ed] at Qr;refine⟨⟨λo ho=>?_,?_,?_,f⟩,by rw[dX,e,en,ed]⟩
  ·rcases pj.mp (h2 o ho) with z|z
   ·exact .inl (by rw[e];exact z)
   ·exact .inr z
  ·rw[e,en];exact(sG.mp Qr).1
  ·rw[en];exact dj _ (uq hj)
def ig(bs:List aq):Int:=(bs.map aq.long).sum
theorem Cb:∀{bs:List aq},(∀b∈bs,b.long<=6)->ig bs<=6 * bs.length
 |[],_=>by unfold ig;simp
 |b::bs,h=>by
  have h1:=h b (.head _);have h2:=Cb (bs:=bs) λx m=>h x (.tail _ m)
  unfold ig at *;rw[dX,CJ,kd];omega
theorem Ca{bs:List aq}(hl:bs.length<=5)(h:∀(i:Nat) (b:aq),bs[i]?=some b->b.long<=26/\(b.long<=6\/i=0/\bs.length < 3)):ig bs<=39:=by
 by_cases z:bs.length < 3
 ·clear hl
  match bs,z,h with
  |[],_,_=>unfold ig;simp
  |[a],_,h=>
   have:=h 0 a rfl;unfold ig;simp;omega
  |[a,b],_,h=>
   have:=h 0 a rfl;have:=h 1 b rfl;unfold ig;simp;omega
 ·have:=Cb (bs:=bs) λb m=>by
   obtain⟨i,hi⟩:=yh.mp m;have:=h i b hi;omega
  omega
theorem XZ(ns:List Int):∃h:aU,aI h/\ig h.af<=39/\0 < h.af.length/\h.af.length<=5/\h.carts.length<=4/\P0 v9 [.d (bD ns)] (rd (aF h)):=by
 obtain⟨p1,p2,p3⟩:=kD ns 0 0 5 (by decide) (by decide) (by decide)
 obtain⟨q1,q2,q3⟩:=kD ns 0 1 4 (by decide) (by decide) (by decide)
 have hp:=wy ns 0 5 (by decide) (by decide)
 have ho:=wg ns 0 4 (by decide) (by decide)
 have e1:=λq S=>SU q S ns (1+bL ns 0 0 5).toNat (by omega)
 have e2:=λq S=>SV q S ns (1+bL ns 0 1 4).toNat (by omega)
 have nl:((List.range (1+bL ns 0 0 5).toNat).map (kF ns 11)).length=(1+bL ns 0 0 5).toNat:=by simp
 have cl:((List.range (1+bL ns 0 1 4).toNat).map λi=>kF ns 11 (10+i)).length=(1+bL ns 0 1 4).toNat:=by simp
 have nnd:((List.range (1+bL ns 0 0 5).toNat).map (kF ns 11)).Nodup:=NG ns _ Lb λi m=>by have:=qu.mp m;omega
 have Ug:((List.range (1+bL ns 0 1 4).toNat).map λi=>kF ns 11 (10+i)).Nodup:=by
  rw[show(λi=>kF ns 11 (10+i))=kF ns 11∘(10+·) from rfl,<-sJ]
  refine NG ns _ ?_ λi m=>?_
  ·rw[List.Nodup,List.pairwise_map];exact Lb.imp λne z=>ne (by omega)
  ·obtain⟨j,hj,rfl⟩:=p_.mp m;have:=qu.mp hj;omega
 have dj:∀x∈(List.range (1+bL ns 0 0 5).toNat).map (kF ns 11),x∉(List.range (1+bL ns 0 1 4).toNat).map λi=>kF ns 11 (10+i):=λx hx hc=>by
  obtain⟨i,hi,rfl⟩:=p_.mp hx;obtain⟨j,hj,e⟩:=p_.mp hc;have h1:=qu.mp hi;have h2:=qu.mp hj;have:=Pu ns 11 (by decide) _ _ (by omega) (by omega) e
  omega
 have nmN:∀x∈(List.range (1+bL ns 0 0 5).toNat).map (kF ns 11),i4 x:=λx hx=>by
  obtain⟨i,hi,rfl⟩:=p_.mp hx;exact Dv _ (Ej ns 11 (by decide) i).1 (Ej ns 11 (by decide) i).2 (NB ns 11 (by decide) i)
 have nmC:∀x∈(List.range (1+bL ns 0 1 4).toNat).map (λi=>kF ns 11 (10+i)),i4 x:=λx hx=>by
  obtain⟨i,hi,rfl⟩:=p_.mp hx;exact Dv _ (Ej ns 11 (by decide) (10+i)).1 (Ej ns 11 (by decide) (10+i)).2 (NB ns 11 (by decide) (10+i))
 generalize(List.range (1+bL ns 0 0 5).toNat).map (kF ns 11)=names at *;generalize((List.range (1+bL ns 0 1 4).toNat).map λi=>kF ns 11 (10+i))=carts at *
 obtain⟨hand,hh⟩:∃x,carts.head?=some x:=by
  cases carts with
  |nil=>simp at cl;omega
  |cons a b=>exact⟨a,rfl⟩
 obtain⟨⟨bs,a4,a5,a6⟩,⟨bl,bp⟩,e3⟩:=Po (gg:=aR 4) (body:=oP 0) (f:=λ(i:Nat)=>D.int (i:Int)) (λ(b:List aq×Option Val×Option Val×Option Val) S=>([some (.d (bD ns)),some (.d (.lst (dS names))),some (.d (.lst (dS carts))),some (.c S.s.length),b.2.1,b.2.2.1,b.2.2.2],cb S (b.1.map ao)))
  (λpre b=>b.1.length=pre.length/\(∀i x,b.1[i]?=some x->x.name=names.getD i ""/\(1<=x.long/\x.long<=26/\(x.long<=6\/i=0/\names.length < 3))/\(x.ring=true->2<=x.long)/\n6 (names.drop (i+1)) carts hand x.outs)) (List.range (names.length:Int).toNat) ([],none,none,none) ⟨rfl,λi b e=>(by simp at e)⟩ (by
   rintro q i post eq ⟨bs,a4,a5,a6⟩ ⟨bl,bp⟩;obtain⟨hq,hi⟩:=b2i eq;dsimp only at bl bp;have hi:i < names.length:=by omega
   obtain⟨b,b1,b2,b3,b4,Fz,FK,e⟩:=XS ns i names carts hand bs a5 a6 hi (by omega) hh (by omega) (by omega)
   refine⟨(bs++[b],some (.d (.int i)),Fz,FK),⟨by show(bs++[b]).length=_;rw[f7,f7,bl];rfl,λj b' nV=>?_⟩,λS=>⟨_,rfl,.inl (e S)⟩⟩
   have nV:(bs++[b])[j]?=some b':=nV;by_cases hj:j < bs.length
   ·rw[rQ hj] at nV;exact bp j b' nV
   ·rw[qv (by omega)] at nV
    have:j - bs.length=0:=by
     have:=(jQ.mp nV).1;simp at this;omega
    rw[this] at nV;cases nV;have ej:j=i:=by omega
    rw[ej];exact⟨b1,b2,b3,b4⟩)
 dsimp only at bl bp e3;rw[uv] at bl;have e3:=λS=>(congrArg (λl=>aE (aR 4) (oP 0) l _ _) (mO _)).trans (e3 S)
 obtain⟨fw,en⟩:=M3 names carts nnd dj bs 0 (by omega) λi b hb=>by
  rw[Nat.zero_add];exact⟨(bp i b hb).1,(bp i b hb).2.2.2.sub⟩
 rw[List.drop_zero] at en;have gi:∀b∈bs,∃i,bs[i]?=some b:=λb hb=>yh.mp hb
 have hg:carts.getD 0 ""=hand:=by
  cases carts with
  |nil=>cases hh
  |cons a b=>cases hh;rfl
 refine⟨⟨bs,carts⟩,⟨fw,⟨by show bs.length<=100;omega,by show carts.length<=100;omega,?_⟩,λb hb=>?_,nmC,λb hb=>?_,λb hb=>?_,Ug,by show 0 < carts.length;omega,λb hb=>?_⟩,Ca (bs:=bs) (by omega) λi b hi=>(by have:=bp i b hi;omega),by show 0 < bs.length;omega,by show bs.length<=5;omega,by show carts.length<=4;omega,λS=>UB S ns _ _ names carts a4 a5 a6 _ hp ho (E9 (by omega)) (E9 (by omega)) (names.length:Int) (by rw[cz]) (E9 (by omega)) e1 e2 (e3 S)⟩
 ·have:=OB (bs:=bs) λb hb=>by
   obtain⟨i,hi⟩:=gi b hb;exact(bp i b hi).2.2.2.len
  show(bs.map λx=>x.outs.length).sum<=900
  omega
 ·exact nmN _ (by rw[<-en];exact zJ hb)
 ·obtain⟨i,hi⟩:=gi b hb;exact⟨(bp i b hi).2.1.1,(bp i b hi).2.2.1⟩
 ·obtain⟨i,hi⟩:=gi b hb;show carts.getD 0 ""∈b.outs\/∃o∈b.outs,o∈bs.map aq.name;rw[hg,en];rcases(bp i b hi).2.2.2.hand with z|⟨o,z1,z2⟩
  ·exact .inl z
  ·exact .inr ⟨o,z1,List.mem_of_mem_drop z2⟩
 ·obtain⟨i,hi⟩:=gi b hb;exact(bp i b hi).2.2.2.nd
end Carry
namespace Carry
open PySem L2
section
variable {h:aU}
theorem μ{q:Nat}{S:aX}{n:Str}{b:aq}{d0:Option Val}(hb:(b.name == n)=false):yq q [d0,some (.d (.str n)),some (.d (ao b))] S=some (.nx [d0,some (.d (.str n)),some (.d (ao b))] S):=by
 unfold yq ao;simp only[↓ev,eW,a_,qo,hb]
theorem ZH{q:Nat}{S:aX}{n:Str}{b:aq}{d0:Option Val}(hb:(b.name == n)=true):yq q [d0,some (.d (.str n)),some (.d (ao b))] S=some (.rt (rd (ao b)) S):=by
 unfold yq ao;simp only[↓ev,eW,a_,qo,hb,hV,kX,yM,br]
theorem sV(g:aI h){b:aq}(hb:b∈h.af):Pr v7 [.d (aF h),.d (.str b.name)] (rd (ao b)):=by
 intro q S;obtain⟨d,r,eq⟩:=List.append_of_mem hb;have e:aE (aR 2) (yq q) (h.af.map ao) [some (.d (aF h)),some (.d (.str b.name)),none] S=some (.rt (rd (ao b)) S):=by
  rw[eq];refine Ot (f:=ao) (λ_ U S'=>∃a,U=[some (.d (aF h)),some (.d (.str b.name)),a]/\S'=S) d [] _ _ ⟨_,rfl,rfl⟩ ?_ ?_
  ·rintro d' y r' e' U S' ⟨a,rfl,rfl⟩;refine⟨_,_,_,rfl,.inl (μ ?_),_,rfl,rfl⟩;rw[beq_eq_false_iff_ne];intro z;have hy:y∈d:=by rw[E7] at e';rw[e'];simp
   have e2:=DF g.fwd y (by rw[eq];simp[hy]) b hb z
   have nd:=(p9.mp (Mq g)).2.1;rw[eq,mV,dX] at nd;exact(p9.mp nd).2.2 _ (zJ hy) _ (.head _) z
  ·rintro U S' ⟨a,rfl,rfl⟩;exact⟨_,rfl,ZH (beq_self_eq_true _)⟩
 have hD:aF h=.tup [.lst (h.af.map ao),.lst (dS h.carts)]:=rfl;rw[hD] at e ⊢;unfold v7 MN;simp only[↓ev,eW,Nat.max_zero,e,jY]
theorem NJ(g:aI h):Pr Am [.d (aF h)] (rd (aF h)):=by
 intro q S;have bl:=g.sm.bl;have hn:=uN h.af (by omega)
 have e:∀q S,aV (aR 0) (mh true) (GK q) (dS (h.af.map aq.name)) [none,some (.d (aF h))] S []=some (.ok (h.af.map ao) S):=λq S=>by
  rw[dS,sJ,AX ao h.af (by omega) λb m=>⟨rd (ao b),by
   have hb:=sV g m;unfold GK;simp only[↓ev,Function.comp,hb],rfl⟩]
 have hD:aF h=.tup [.lst (h.af.map ao),.lst (dS h.carts)]:=rfl;rw[hD] at e ⊢;unfold Am Nv;simp only[↓ev,eW,hn,e,br,hV,jY]
end
end Carry
namespace Carry
open PySem L2
theorem nQ:aT.contains (ak,("built":Str))=true:=by decide +kernel
theorem LD:aT.contains (ak,("told_rounds":Str))=true:=by decide +kernel
theorem wz:aT.contains (ak,("now":Str))=true:=by decide +kernel
theorem wj:aT.contains (ak,("book":Str))=true:=by decide +kernel
theorem NK:aT.contains (ak,("halts":Str))=true:=by decide +kernel
theorem nP:aT.contains (ak,("places":Str))=true:=by decide +kernel
theorem qe:aT.contains (ak,("readings":Str))=true:=by decide +kernel
theorem yD:aT.contains (ak,("rounded":Str))=true:=by decide +kernel
theorem Ig:aT.contains (ak,("gone":Str))=true:=by decide +kernel
theorem yF:aT.contains (ak,("carted":Str))=true:=by decide +kernel
section
variable {d0 d1 d2 d3 d4 d5 d6 d7 d8 d9 v:D}
theorem J7:iX "told_rounds" v [(("built":Str),d0)]=[(("built":Str),d0),(("told_rounds":Str),v)]:=by kernel_rfl
theorem J8:iX "now" v [(("built":Str),d0),(("told_rounds":Str),d1)]=[(("built":Str),d0),(("told_rounds":Str),d1),(("now":Str),v)]:=by kernel_rfl
theorem J9:iX "book" v [(("built":Str),d0),(("told_rounds":Str),d1),(("now":Str),d2)]=[(("built":Str),d0),(("told_rounds":Str),d1),(("now":Str),d2),(("book":Str),v)]:=by kernel_rfl
theorem J_:iX "halts" v [(("built":Str),d0),(("told_rounds":Str),d1),(("now":Str),d2),(("book":Str),d3)]=[(("built":Str),d0),(("told_rounds":Str),d1),(("now":Str),d2),(("book":Str),d3),(("halts":Str),v)]:=by kernel_rfl
theorem J':iX "places" v [(("built":Str),d0),(("told_rounds":Str),d1),(("now":Str),d2),(("book":Str),d3),(("halts":Str),d4)]=[(("built":Str),d0),(("told_rounds":Str),d1),(("now":Str),d2),(("book":Str),d3),(("halts":Str),d4),(("places":Str),v)]:=by kernel_rfl
theorem Ka:iX "readings" v [(("built":Str),d0),(("told_rounds":Str),d1),(("now":Str),d2),(("book":Str),d3),(("halts":Str),d4),(("places":Str),d5)]=[(("built":Str),d0),(("told_rounds":Str),d1),(("now":Str),d2),(("book":Str),d3),(("halts":Str),d4),(("places":Str),d5),(("readings":Str),v)]:=by kernel_rfl
theorem Kb:iX "rounded" v [(("built":Str),d0),(("told_rounds":Str),d1),(("now":Str),d2),(("book":Str),d3),(("halts":Str),d4),(("places":Str),d5),(("readings":Str),d6)]=[(("built":Str),d0),(("told_rounds":Str),d1),(("now":Str),d2),(("book":Str),d3),(("halts":Str),d4),(("places":Str),d5),(("readings":Str),d6),(("rounded":Str),v)]:=by kernel_rfl
theorem Kc:iX "gone" v [(("built":Str),d0),(("told_rounds":Str),d1),(("now":Str),d2),(("book":Str),d3),(("halts":Str),d4),(("places":Str),d5),(("readings":Str),d6),(("rounded":Str),d7)]=[(("built":Str),d0),(("told_rounds":Str),d1),(("now":Str),d2),(("book":Str),d3),(("halts":Str),d4),(("places":Str),d5),(("readings":Str),d6),(("rounded":Str),d7),(("gone":Str),v)]:=by kernel_rfl
theorem Kd:iX "carted" v [(("built":Str),d0),(("told_rounds":Str),d1),(("now":Str),d2),(("book":Str),d3),(("halts":Str),d4),(("places":Str),d5),(("readings":Str),d6),(("rounded":Str),d7),(("gone":Str),d8)]=[(("built":Str),d0),(("told_rounds":Str),d1),(("now":Str),d2),(("book":Str),d3),(("halts":Str),d4),(("places":Str),d5),(("readings":Str),d6),(("rounded":Str),d7),(("gone":Str),d8),(("carted":Str),v)]:=by kernel_rfl
end
def hF(hd:D)(r now:Int)(n:Nat):List (Str×D):=[("built",hd),("told_rounds",.int r),("now",.int now),("book",.ref (n+1)),("halts",.aN []),("places",.ref (n+2)),("readings",.ref (n+3)),("rounded",.ref (n+4)),("gone",.ref (n+5)),("carted",.ref (n+6))]
section
variable {S:aX} {h:aU} {r:Int}
theorem ZI(g:aI h):yI 0 [.d (.ref S.r.length),.d (aF h),.d (.int r)] ⟨S.s,S.r++[.ins ak []]⟩=some (.ok (rd .az) ⟨S.s,S.r++[.ins ak (hF (aF h) r 0 S.r.length),.o (.aN []),.o (.aN []),.o (.aN []),.o (.aN []),.o (.lst []),.o (.aN [])]⟩):=by
 have e1:=XY g;have e2:=NJ g;generalize aF h=hd at *;unfold yI NA hF;simp only[↓ev,e1,e2,f_,nQ,kx,LD,J7,wz,J8,zx,wm,wj,J9,NK,J_,nP,J',qe,Ka,yD,Kb,br,a_,Ig,Kc,yF,Kd,jY]
end
end Carry
namespace Carry
open PySem L2
section
variable {hd:D} {r nw v:Int} {n:Nat}
theorem n_:List.lookup ("built":Str) (hF hd r nw n)=some (hd):=by kernel_rfl
theorem Rh:List.lookup ("told_rounds":Str) (hF hd r nw n)=some (.int r):=by kernel_rfl
theorem y6:List.lookup ("now":Str) (hF hd r nw n)=some (.int nw):=by kernel_rfl
theorem yV:List.lookup ("book":Str) (hF hd r nw n)=some (.ref (n+1)):=by kernel_rfl
theorem VU:List.lookup ("halts":Str) (hF hd r nw n)=some (.aN []):=by kernel_rfl
theorem n9:List.lookup ("places":Str) (hF hd r nw n)=some (.ref (n+2)):=by kernel_rfl
theorem qF:List.lookup ("readings":Str) (hF hd r nw n)=some (.ref (n+3)):=by kernel_rfl
theorem Ab:List.lookup ("rounded":Str) (hF hd r nw n)=some (.ref (n+4)):=by kernel_rfl
theorem OC:List.lookup ("gone":Str) (hF hd r nw n)=some (.ref (n+5)):=by kernel_rfl
theorem Af:List.lookup ("carted":Str) (hF hd r nw n)=some (.ref (n+6)):=by kernel_rfl
theorem IA:iX "now" (.int v) (hF hd r nw n)=hF hd r v n:=by kernel_rfl
end
variable{hd:D}
structure Hs where
 now:Int
 book:List (TK×D)
 places:List (TK×D)
 rJ:List (TK×D)
 rounded:List (TK×D)
 gone:List D
 carted:List (TK×D)
abbrev hR(hd:D)(r:Int)(x:Hs):List Cell:=[.ins ak (hF hd r x.now 0),.o (.aN x.book),.o (.aN x.places),.o (.aN x.rJ),.o (.aN x.rounded),.o (.lst x.gone),.o (.aN x.carted)]
section
variable {s:List Cell} {h:aU} {r:Int} {x:Hs} {q:Nat}
theorem yJ(g:aI h):Dt q [.d (.ref 0)] ⟨s,hR (aF h) r x⟩=some (.ok (rd (aF h)) ⟨s,hR (aF h) r x⟩):=by
 have e2:=NJ g;unfold Dt MV;generalize aF h=hd at *;simp only[↓ev,hR,nQ,n_,e2,gj]
theorem Dw:Dj q [.d (.ref 0)] ⟨s,hR hd r x⟩=some (.ok (rd (.int r)) ⟨s,hR hd r x⟩):=by
 unfold Dj Mj;simp only[↓ev,hR,LD,Rh,gj]
theorem Ag:uI q [.d (.ref 0)] ⟨s,hR hd r x⟩=some (.ok (rd (.int x.now)) ⟨s,hR hd r x⟩):=by
 unfold uI Ml;simp only[↓ev,hR,wz,y6,gj]
theorem Py:Ay q [.d (.ref 0)] ⟨s,hR hd r x⟩=some (.ok (.o (.lst x.gone)) ⟨s,hR hd r x⟩):=by
 unfold Ay Ou;simp only[↓ev,hR,Ig,OC,br,gj]
end
end Carry
namespace Carry
open PySem L2
section
variable {s:List Cell} {h:aU} {r:Int} {q:Nat} {nw i k gn:Int} {bag b:Str} {fl:D} {book carted:List (TK×D)} {gone:List D}
abbrev pl(b:Str)(i:Int):D:=.tup [.str b,.int i]
abbrev one(nw:Int)(book:List (TK×D))(bag b:Str)(i:Int)(fl:D)(gn:Int)(gone:List D)(carted:List (TK×D)):Hs:=⟨nw,book,[(.inr bag,pl b i)],[(.inr bag,fl)],[(.inr bag,.int gn)],gone,carted⟩
abbrev fZ(nw:Int)(book:List (TK×D))(gone:List D)(carted:List (TK×D)):Hs:=⟨nw,book,[],[],[],gone,carted⟩
theorem VW(g:aI h):vW q [.d (.ref 0)] ⟨s,hR (aF h) r (fZ nw book gone carted)⟩=some (.ok (.o (.lst [])) ⟨s,hR (aF h) r (fZ nw book gone carted)⟩):=by
 have bl:=g.sm.bl;have hn:=uN h.af (by omega)
 unfold vW FY aF;simp only[↓ev,hR,nQ,n_,eW,hn,br,nP,n9,aV,gj]
theorem HG(g:aI h)(hi:b_ (.lst (dS (h.af.map aq.name))) (.str b)=some (rd (.int k))):vW q [.d (.ref 0)] ⟨s,hR (aF h) r (one nw book bag b i fl gn gone carted)⟩=some (.ok (.o (.lst [.str bag])) ⟨s,hR (aF h) r (one nw book bag b i fl gn gone carted)⟩):=by
 have bl:=g.sm.bl;have hn:=uN h.af (by omega)
 unfold vW FY aF;simp only[↓ev,hR,nQ,n_,eW,hn,br,nP,n9,aV,Lz,hi,hV,LA,kX,gj]
end
end Carry
namespace Carry
open PySem L2
section
variable {hd:D} {r nw:Int} {n:Nat}
theorem Hc:Cell.lE ak ("flight":Str) (.ins ak (hF hd r nw n))=true:=by kernel_rfl
theorem AQ:Cell.lE ak ("put":Str) (.ins ak (hF hd r nw n))=true:=by kernel_rfl
theorem Q8:Cell.lE ak ("check_flight":Str) (.ins ak (hF hd r nw n))=true:=by kernel_rfl
theorem LM:Cell.lE ak ("check_belt":Str) (.ins ak (hF hd r nw n))=true:=by kernel_rfl
theorem C3:Cell.lE ak ("check_inside":Str) (.ins ak (hF hd r nw n))=true:=by kernel_rfl
theorem yK:Cell.lE ak ("house":Str) (.ins ak (hF hd r nw n))=true:=by kernel_rfl
theorem M4:Cell.lE ak ("rounds":Str) (.ins ak (hF hd r nw n))=true:=by kernel_rfl
theorem yG:Cell.lE ak ("moment":Str) (.ins ak (hF hd r nw n))=true:=by kernel_rfl
theorem GV:Cell.lE ak ("flights":Str) (.ins ak (hF hd r nw n))=true:=by kernel_rfl
theorem yE:Cell.lE ak ("stopped":Str) (.ins ak (hF hd r nw n))=true:=by kernel_rfl
theorem pI:Cell.lE ak ("bags":Str) (.ins ak (hF hd r nw n))=true:=by kernel_rfl
theorem Pz:Cell.lE ak ("out":Str) (.ins ak (hF hd r nw n))=true:=by kernel_rfl
theorem OD:Cell.lE ak ("late":Str) (.ins ak (hF hd r nw n))=true:=by kernel_rfl
theorem si:Cell.lE ak ("where":Str) (.ins ak (hF hd r nw n))=true:=by kernel_rfl
theorem GW:Cell.lE ak ("cart_of":Str) (.ins ak (hF hd r nw n))=true:=by kernel_rfl
theorem Ac:Cell.lE ak ("catches":Str) (.ins ak (hF hd r nw n))=true:=by kernel_rfl
theorem z9:Cell.lE ak ("in_order":Str) (.ins ak (hF hd r nw n))=true:=by kernel_rfl
theorem Ih:Cell.lE ak ("move":Str) (.ins ak (hF hd r nw n))=true:=by kernel_rfl
theorem S6:Cell.lE ak ("move_on":Str) (.ins ak (hF hd r nw n))=true:=by kernel_rfl
theorem Sd:Cell.lE ak ("move_out":Str) (.ins ak (hF hd r nw n))=true:=by kernel_rfl
end
section
variable {s:List Cell} {h:aU} {hd:D} {r:Int} {q:Nat} {nw i k gn:Int} {bag b:Str} {fl:D} {book carted:List (TK×D)} {gone:List D} {x:Hs}
abbrev h0(hd:D)(r nw:Int)(book:List (TK×D))(gone:List D)(carted:List (TK×D))(s:List Cell):aX:=⟨s,hR hd r (fZ nw book gone carted)⟩
abbrev h1(hd:D)(r nw:Int)(book:List (TK×D))(bag b:Str)(i:Int)(fl:D)(gn:Int)(gone:List D)(carted:List (TK×D))(s:List Cell):aX:=⟨s,hR hd r (one nw book bag b i fl gn gone carted)⟩
theorem DX(g:aI h):sU q [.d (.ref 0)] (h0 (aF h) r nw book gone carted s)=some (.ok (.o (.lst [])) (h0 (aF h) r nw book gone carted s)):=by
 have e:=λq=>VW (s:=s) (r:=r) (q:=q) (nw:=nw) (book:=book) (gone:=gone) (carted:=carted) g
 unfold sU HC;generalize aF h=hd at *;simp only[↓ev,hR,ik,z9,e,aV,gj]
theorem uO(g:aI h)(hi:b_ (.lst (dS (h.af.map aq.name))) (.str b)=some (rd (.int k))):sU q [.d (.ref 0)] (h1 (aF h) r nw book bag b i fl gn gone carted s)=some (.ok (.o (.lst [.tup [.str bag,fl,pl b i,.int gn]])) (h1 (aF h) r nw book bag b i fl gn gone carted s)):=by
 have e:=λq=>HG (s:=s) (r:=r) (q:=q) (nw:=nw) (book:=book) (gone:=gone) (carted:=carted) (bag:=bag) (i:=i) (fl:=fl) (gn:=gn) g hi
 have v:∀y:D,bw [(.inr bag,y)] (.inr bag)=some y:=λy=>by unfold bw;simp
 unfold sU HC;generalize aF h=hd at *;simp only[↓ev,hR,ik,z9,e,aV,br,Mn,qe,qF,v,nP,n9,yD,Ab,gj]
theorem M5(g:aI h)(hb:(h.af.map aq.name).contains b=true):C6 q [.d (.ref 0),.d (.str b)] ⟨s,hR (aF h) r x⟩=some (.ok (rd .az) ⟨s,hR (aF h) r x⟩):=by
 have bl:=g.sm.bl;have hn:=uN h.af (by omega)
 unfold C6 Ly aF;simp only[↓ev,hR,nQ,n_,eW,hn,nj,mW,hb,nZ,a_,gj]
theorem Ah(g:aI h):z8 q [.d (.ref 0)] ⟨s,hR (aF h) r x⟩=some (.ok (.o (.lst [])) ⟨s,hR (aF h) r x⟩):=by
 have bl:=g.sm.bl;have hn:=uN h.af (by omega)
 have e:∀q,aV (aR 0) (FQ q) (LH q) (dS (h.af.map aq.name)) [none,some (.d (.ref 0))] ⟨s,hR (aF h) r x⟩ []=some (.ok [] ⟨s,hR (aF h) r x⟩):=λq=>by
  rw[dS,wM (λ_=>none) (h.af.map aq.name) (by rw[cz];omega) λo m=>.inl ⟨rfl,by
   have v:bw [] (.inr o)=none:=rfl;unfold FQ;generalize aF h=hd at *;simp only[↓ev,hR,NK,VU,a_,v]⟩]
  congr 2
  induction h.af.map aq.name with
  |nil=>rfl
  |cons _ _ ih=>rw[CI rfl];exact ih
 unfold z8 L8 aF at *;simp only[↓ev,hR,nQ,n_,eW,hn,e,gj]
end
end Carry
namespace Carry
open PySem L2
section
variable {s:List Cell} {h:aU} {hd:D} {r:Int} {q:Nat} {nw i k gn cl:Int} {bag b f c:Str} {fl:D} {book carted:List (TK×D)} {gone:List D} {x:Hs}
theorem v1{y:D}{a:Str}:bw [(.inr a,y)] (.inr a)=some y:=by unfold bw;simp
theorem v0{a:Str}:bw [] (.inr a)=none:=rfl
theorem tZ{a:TK}{y:D}:dW [] a y=[(a,y)]:=rfl
theorem Ii(hn:i4 bag):zV q [.d (.ref 0),.d (.str bag)] (h1 hd r nw book bag b i fl gn gone carted s)=some (.ok (rd .az) (h1 hd r nw book bag b i fl gn gone carted s)):=by
 unfold zV Ls;simp only[↓ev,hn,a_,hR,nP,n9,br,v1,nZ,gj]
theorem yL(hn:i4 bag)(hc:bw carted (.inr bag)=none):qf q [.d (.ref 0),.d (.str bag)] (h1 hd r nw book bag b i fl gn gone carted s)=some (.ok (rd (pl b i)) (h1 hd r nw book bag b i fl gn gone carted s)):=by
 have e:=λq=>Ii (q:=q) (hd:=hd) (r:=r) (nw:=nw) (book:=book) (b:=b) (i:=i) (fl:=fl) (gn:=gn) (gone:=gone) (carted:=carted) (s:=s) hn
 unfold qf Hb;simp only[↓ev,hn,hR,yF,Af,br,a_,hc,ik,C3,e,nP,n9,v1,gj]
theorem HH(hn:i4 bag)(hc:bw carted (.inr bag)=some (.str c)):qf q [.d (.ref 0),.d (.str bag)] (h0 hd r nw book gone carted s)=some (.ok (rd (.str c)) (h0 hd r nw book gone carted s)):=by
 unfold qf Hb;simp only[↓ev,hn,hR,yF,Af,br,a_,hc,gj]
theorem X0(hn:i4 f)(hb:bw x.book (.inr f)=some fl):CV q [.d (.ref 0),.d (.str f)] ⟨s,hR hd r x⟩=some (.ok (rd .az) ⟨s,hR hd r x⟩):=by
 unfold CV Lr;simp only[↓ev,hR,hn,a_,wj,yV,br,hb,nZ,gj]
theorem ZJ(g:aI h)(hn:i4 bag)(hb:(h.af.map aq.name).contains b=true)(hc:bw carted (.inr bag)=none):sX 0 [.d (.ref 0),.d (.str bag),.d .az,.d (.str b)] (h0 (aF h) r nw book gone carted s)=some (.ok (rd .az) (h1 (aF h) r nw book bag b 0 .az 0 gone carted s)):=by
 have e:=λq=>M5 (s:=s) (r:=r) (q:=q) (x:=fZ nw book gone carted) g hb
 unfold sX Ia;generalize aF h=hd at *;simp only[↓ev,hn,a_,hR,nP,n9,br,v0,yF,Af,hc,ik,LM,e,tZ,qe,qF,yD,Ab,gj]
theorem ZK(g:aI h)(hn:i4 bag)(hf:i4 f)(hk:bw book (.inr f)=some fl)(hb:(h.af.map aq.name).contains b=true)(hc:bw carted (.inr bag)=none):sX 0 [.d (.ref 0),.d (.str bag),.d (.str f),.d (.str b)] (h0 (aF h) r nw book gone carted s)=some (.ok (rd .az) (h1 (aF h) r nw book bag b 0 (.str f) 0 gone carted s)):=by
 have e:=λq=>M5 (s:=s) (r:=r) (q:=q) (x:=fZ nw book gone carted) g hb
 have e2:=λq=>X0 (s:=s) (r:=r) (q:=q) (hd:=aF h) (x:=fZ nw book gone carted) hf hk
 unfold sX Ia;generalize aF h=hd at *;simp only[↓ev,hn,a_,hR,nP,n9,br,v0,yF,Af,hc,ik,Q8,e2,LM,e,tZ,qe,qF,yD,Ab,gj]
end
end Carry
namespace Carry
open PySem L2
def nX(kn:List (Str×Int)):List (TK×D):=kn.map λp=>(.inr p.1,.int p.2)
def atS(kn:List (Str×Int))(n:Str):Option Int:=(kn.find? λp=>p.1 == n).map (·.2)
theorem X1(a b:Str):decide ((TK.inr a:TK)=TK.inr b)=(a == b):=by
 by_cases e:a=b
 ·rw[decide_eq_true (by rw[e]),e,beq_self_eq_true]
 ·rw[decide_eq_false (λz=>e (TK.inr.inj z)),show(a == b)=false by rw[beq_eq_false_iff_ne];exact e]
theorem OE(x:Str):atS [] x=none:=rfl
theorem uM(k:Str)(v:Int)(kn:List (Str×Int))(x:Str):atS ((k,v)::kn) x=if k=x then some v else atS kn x:=by
 unfold atS;rw[zI];by_cases e:k=x
 ·rw[if_pos e,show(k == x)=true by rw[e,beq_self_eq_true]];rfl
 ·rw[if_neg e,show(k == x)=false by rw[beq_eq_false_iff_ne];exact e]
theorem An(k:Str)(v:Int)(x:Str):∀kn:List (Str×Int),atS (kn++[(k,v)]) x=(atS kn x).or (if k=x then some v else none)
 |[]=>by rw[E7,uM,OE,Lh]
 |(k',v')::kn=>by
  rw[List.cons_append,uM,uM,An k v x kn];split
  ·rfl
  ·rfl
theorem AA(x:Str):∀kn:List (Str×Int),bw (nX kn) (.inr x)=(atS kn x).map .int
 |[]=>rfl
 |(k,v)::kn=>by
  have ih:=AA x kn;rw[uM];unfold bw nX at *;rw[dX,zI];dsimp only;rw[X1];by_cases e:k=x
  ·rw[if_pos e,show(k == x)=true by rw[e,beq_self_eq_true]];rfl
  ·rw[if_neg e,show(k == x)=false by rw[beq_eq_false_iff_ne];exact e];exact ih
theorem M6{α:Type}(e:TK×α)(es:List (TK×α))(k:TK)(v:α):dW (e::es) k v=if e.1=k then(e.1,v)::es else e::dW es k v:=rfl
theorem OF:∀(kn:List (Str×Int)) (k:Str) (v:Int),atS kn k=none->dW (nX kn) (.inr k) (.int v)=nX (kn++[(k,v)])
 |[],_,_,_=>rfl
 |(k',v')::kn,k,v,h=>by
  rw[uM] at h;have e:¬k'=k:=λz=>by rw[if_pos z] at h;cases h
  rw[if_neg e] at h;show dW ((TK.inr k',D.int v')::nX kn) (.inr k) (.int v)=(TK.inr k',D.int v')::nX (kn++[(k,v)]);rw[<-OF kn k v h,M6,if_neg (λz=>e (TK.inr.inj z))]
def dI(kn:List (Str×Int))(outs:List Str):List Int:=outs.filterMap (atS kn)
def aM(ar:Str):List aq->List (Str×Int)
 |[]=>[(ar,0)]
 |b::bs=>if dI (aM ar bs) b.outs=[] then aM ar bs else aM ar bs++[(b.name,b.long+fQ (dI (aM ar bs) b.outs))]
theorem NL(ar:Str):∀bs:List aq,(aM ar bs).length<=bs.length+1
 |[]=>cI _
 |b::bs=>by
  have:=NL ar bs;unfold aM;split
  ·rw[kd];omega
  ·rw[f7,Cz,kd];omega
theorem DG{ar:Str}:∀{bs:List aq} {n:Str},n≠ar->n∉bs.map aq.name->atS (aM ar bs) n=none
 |[],n,h1,_=>by
  show atS [(ar,0)] n=none;rw[uM,if_neg (λz=>h1 z.symm),OE]
 |b::bs,n,h1,h2=>by
  rw[dX] at h2;have h3:n≠b.name:=λz=>h2 (by rw[z];exact .head _)
  have ih:=DG (ar:=ar) (bs:=bs) h1 λz=>h2 (.tail _ z)
  unfold aM;split
  ·exact ih
  ·rw[An,ih,if_neg (λz=>h3 z.symm)];rfl
theorem OG(kn:List (Str×Int)):∀outs:List Str,(outs.filterMap λo=>(atS kn o).map D.int)=(dI kn outs).map D.int
 |[]=>rfl
 |o::outs=>by
  have ih:=OG kn outs;unfold dI at *;cases e:atS kn o with
  |none=>rw[CI (by rw[e];rfl),CI e,ih]
  |some v=>rw[E6 (b:=D.int v) (by rw[e];rfl),E6 e,ih];rfl
abbrev mJ(S:aX)(kn:List (Str×Int)):aX:=⟨S.s++[.o (.aN (nX kn))],S.r⟩
section
variable {S:aX} {kn:List (Str×Int)} {outs:List Str} {g0 g1 a7:Option Val} {x:aq}
theorem NM(q:Nat)(h:outs.length<=1000):aV (aR 0) (GH q) (GI q) (dS outs) [none,some (.c S.s.length)] (mJ S kn) []=some (.ok ((dI kn outs).map D.int) (mJ S kn)):=by
 rw[dS,wM (λo=>(atS kn o).map D.int) outs (by omega) λo m=>by
  have v:=AA o kn;unfold GH GI;cases hc:atS kn o with
  |some w=>
   rw[hc] at v;exact .inr ⟨rd (.int w),.int w,rfl,by simp only[↓ev,f_,a_,v,zK],by simp only[↓ev,f_,v],rfl⟩
  |none=>
   rw[hc] at v;exact .inl ⟨rfl,by simp only[↓ev,f_,a_,v,zH]⟩,OG]
theorem ZL(ho:x.outs.length<=1000)(hb:dI kn x.outs=[]):yx 0 [g0,g1,some (.c S.s.length),some (.d (.str x.name)),some (.d (.int x.long)),some (.d (.bl x.ring)),some (.d (.lst (dS x.outs))),a7] (mJ S kn)=some (.nx [g0,g1,some (.c S.s.length),some (.d (.str x.name)),some (.d (.int x.long)),some (.d (.bl x.ring)),some (.d (.lst (dS x.outs))),some (.d (.lst []))] (mJ S kn)):=by
 have e:=λq=>NM (S:=S) (kn:=kn) q ho
 rw[hb] at e;unfold yx;simp only[↓ev,e,br,a_]
theorem X2(ho:x.outs.length<=1000){i:Int}{is:List Int}(hb:dI kn x.outs=i::is)(hn:atS kn x.name=none)(hl:((nX kn).length < 1000000)=True):yx 0 [g0,g1,some (.c S.s.length),some (.d (.str x.name)),some (.d (.int x.long)),some (.d (.bl x.ring)),some (.d (.lst (dS x.outs))),a7] (mJ S kn)=some (.nx [g0,g1,some (.c S.s.length),some (.d (.str x.name)),some (.d (.int x.long)),some (.d (.bl x.ring)),some (.d (.lst (dS x.outs))),some (.d (.lst ((i::is).map D.int)))] (mJ S (kn++[(x.name,x.long+fQ (i::is))]))):=by
 have e:=λq=>NM (S:=S) (kn:=kn) q ho
 rw[hb] at e;have p:=OF kn x.name (x.long+fQ (i::is)) hn;have z:((i::is).map D.int).isEmpty=false:=rfl;have m:=Dp (i::is);have ne:((i::is)=[])=False:=eq_false (List.cons_ne_nil _ _);generalize(i::is).map D.int=l at *;unfold yx;simp only[↓ev,e,br,z,rW,m,ne,f_,hl,p,kx]
theorem NN{h:aU}(g:aI h){ar:Str}(hc:ar∈h.carts):P0 Al [.d (aF h),.d (.str ar)] (.o (.aN (nX (aM ar h.af)))):=by
 intro S;have bl:=g.sm.bl;have ou:=g.sm.ou;have f:=g.fwd;obtain⟨U',S',e,a3,a4,a5,a6,a7,rfl,rfl⟩:=pL (gg:=dg [(aR 3),(aR 4),(aR 5),(aR 6)]) (body:=yx 0) (f:=ao) (U:=[some (.d (aF h)),some (.d (.str ar)),some (.c S.s.length),none,none,none,none,none]) (S:=mJ S (aM ar [])) (λpre U S'=>∃a3 a4 a5 a6 a7,U=[some (.d (aF h)),some (.d (.str ar)),some (.c S.s.length),a3,a4,a5,a6,a7]/\S'=mJ S (aM ar pre.reverse)) h.af.reverse ⟨_,_,_,_,_,rfl,rfl⟩ (by
  rintro q x post eq U S' ⟨a3,a4,a5,a6,a7,rfl,rfl⟩;have eb:h.af=post.reverse++x::q.reverse:=by
   have:=congrArg List.reverse eq;rw[Li,Lj,List.reverse_cons,m8] at this;exact this
  have fx:ka h.carts (x::q.reverse):=yC (by rw[<-eb];exact f)
  have ho:x.outs.length<=1000:=by
   rw[eb,mV,dX,Lg,CJ] at ou;omega
  have hn:atS (aM ar q.reverse) x.name=none:=DG (λz=>fx.2.2.1 (z ▸ hc)) fx.2.1
  have hl:(aM ar q.reverse).length<=1000:=by
   have h1:=NL ar q.reverse;have h2:=congrArg List.length eb;rw[f7,kd] at h2;omega
  rw[Lj,List.reverse_singleton,List.singleton_append];have σ:aM ar (x::q.reverse)=if dI (aM ar q.reverse) x.outs=[] then aM ar q.reverse else aM ar q.reverse++[(x.name,x.long+fQ (dI (aM ar q.reverse) x.outs))]:=by
   conv=>lhs;unfold aM
  rw[σ];generalize aM ar q.reverse=kn at *;cases hb:dI kn x.outs with
  |nil=>exact⟨_,_,_,rfl,.inl (ZL ho hb),_,_,_,_,_,rfl,by rw[if_pos rfl]⟩
  |cons i is=>exact⟨_,_,_,rfl,.inl (X2 ho hb hn (eq_true (by unfold nX;rw[cz];omega))),_,_,_,_,_,rfl,by rw[if_neg (List.cons_ne_nil _ _)]⟩)
 rw[Li,List.map_reverse,show mJ S (aM ar [])=⟨S.s++[.o (.aN [(.inr ar,.int 0)])],S.r⟩ from rfl] at e;have hD:aF h=.tup [.lst (h.af.map ao),.lst (dS h.carts)]:=rfl;have tl:∀c:Cell,(S.s++[c]).take S.s.length=S.s:=λc=>List.take_left
 rw[hD] at e ⊢;unfold Al Nr;simp only[↓ev,zx,f_,br,vK,tZ,List.foldl_nil,tl,eW,ja,e,rj,k8]
end
end Carry
namespace Carry
open PySem L2
variable{ar:Str}{kn:List (Str×Int)}{outs:List Str}{best:Option Str}
theorem HI{carts:List Str}:∀{bs:List aq},ka carts bs->∀b∈bs,∀o∈b.outs,o∈bs.map aq.name\/o∈carts
 |x::bs,f,b,hb,o,ho=>by
  rcases fV.mp hb with rfl|hb
  ·rcases f.1 o ho with z|z
   ·exact .inl (.tail _ z)
   ·exact .inr z
  ·rcases HI f.2.2.2 b hb o ho with z|z
   ·exact .inl (.tail _ z)
   ·exact .inr z
theorem yv{x:aq}{bs:List aq}{n:Str}(h:n≠x.name):atS (aM ar (x::bs)) n=atS (aM ar bs) n:=by
 conv=>lhs;unfold aM
 split
 ·rfl
 ·rw[An,if_neg (λz=>h z.symm),Option.or_none]
theorem GX{kn':List (Str×Int)}(h:∀o∈outs,atS kn o=atS kn' o):dI kn outs=dI kn' outs:=by
 unfold dI
 induction outs with
 |nil=>rfl
 |cons o outs ih=>
  have:=ih λz hz=>h z (.tail _ hz)
  rw[vH,vH,h o (.head _),this]
theorem yW{carts:List Str}{ar:Str}(hc:ar∈carts):∀{bs:List aq},ka carts bs->∀b∈bs,atS (aM ar bs) b.name=if dI (aM ar bs) b.outs=[] then none else some (b.long+fQ (dI (aM ar bs) b.outs))
 |x::bs,f,b,hb=>by
  rcases fV.mp hb with rfl|hb
  ·have ho:∀o∈b.outs,o≠b.name:=λo ho z=>by
    rcases f.1 o ho with y|y
    ·exact f.2.1 (by rw[<-z];exact y)
    ·exact f.2.2.1 (by rw[<-z];exact y)
   have e:=GX (kn:=aM ar (b::bs)) (kn':=aM ar bs) (outs:=b.outs) λo m=>yv (ho o m)
   rw[e]
   conv=>lhs;unfold aM
   have hn:atS (aM ar bs) b.name=none:=DG (λz=>f.2.2.1 (by rw[z];exact hc)) f.2.1
   split
   ·exact hn
   ·rw[An,hn,if_pos rfl];rfl
  ·have hn:b.name≠x.name:=λz=>f.2.1 (by rw[<-z];exact zJ (f:=aq.name) hb)
   have ho:∀o∈b.outs,o≠x.name:=λo ho z=>by
    rcases HI f.2.2.2 b hb o ho with y|y
    ·exact f.2.1 (by rw[<-z];exact y)
    ·exact f.2.2.1 (by rw[<-z];exact y)
   have e:=GX (kn:=aM ar (x::bs)) (kn':=aM ar bs) (outs:=b.outs) λo m=>yv (ho o m)
   rw[e,yv hn];exact yW hc f.2.2.2 b hb
theorem AB{carts:List Str}{ar:Str}(hc:ar∈carts):∀{bs:List aq},ka carts bs->atS (aM ar bs) ar=some 0
 |[],_=>by show atS [(ar,0)] ar=some 0;rw[uM,if_pos rfl]
 |x::bs,f=>by rw[yv (λz=>f.2.2.1 (by rw[<-z];exact hc))];exact AB hc f.2.2.2
theorem NO{carts:List Str}{c:Str}{bs:List aq}(f:ka carts bs)(hc:c∈carts)(h:c≠ar):atS (aM ar bs) c=none:=DG h (Ae f c hc)
def wO(h:aU)(ar n:Str)(c:Int):D:=match atS (aM ar h.af) n with
 |none=>.az
 |some v=>.int (v - c)
def nk(kn:List (Str×Int))(best:Option Str)(o:Str):Option Str:=match atS kn o with
 |none=>best
 |some v=>match best with
  |none=>some o
  |some p=>if v < (atS kn p).getD 0 then some o else best
def kg(kn:List (Str×Int))(outs:List Str):Option Str:=outs.foldl (nk kn) none
def mI:Option Str->D
 |none=>.az
 |some x=>.str x
def wB(kn:List (Str×Int))(best:Option Str):Prop:=∀p,best=some p->∃v,atS kn p=some v
theorem Mr(h:wB kn best)(o:Str):wB kn (nk kn best o):=by
 intro p e;unfold nk at e;cases q:atS kn o with
 |none=>rw[q] at e;exact h p e
 |some v=>
  rw[q] at e;dsimp only at e;cases best with
  |none=>cases e;exact⟨v,q⟩
  |some p'=>
   dsimp only at e;split at e
   ·cases e;exact⟨v,q⟩
   ·exact h p e
theorem OH{kn:List (Str×Int)}:∀{outs:List Str} {best:Option Str},wB kn best->wB kn (outs.foldl (nk kn) best)
 |[],_,h=>h
 |o::outs,best,h=>OH (outs:=outs) (Mr h o)
theorem HJ{kn:List (Str×Int)}:∀{outs:List Str} {best:Option Str},wB kn best->
  (outs.foldl (nk kn) best=none↔best=none/\dI kn outs=[])/\
  ∀a,outs.foldl (nk kn) best=some a->(best=some a\/a∈outs)/\∃v,atS kn a=some v/\(∀o∈outs,∀w,atS kn o=some w->v<=w)/\∀p w,best=some p->atS kn p=some w->v<=w
 |[],best,h=>by
  refine⟨⟨λe=>⟨e,rfl⟩,λe=>e.1⟩,λa e=>?_⟩
  obtain⟨v,hv⟩:=h a e;refine⟨.inl e,v,hv,λo m=>(by cases m),λp w e1 e2=>?_⟩
  have e:best=some a:=e;rw[e] at e1;cases e1;rw[hv] at e2;cases e2;exact Int.le_refl _
 |o::outs,best,h=>by
  obtain⟨i1,i2⟩:=HJ (outs:=outs) (Mr h o);rw[vK];constructor
  ·rw[i1];unfold nk dI;cases q:atS kn o with
   |none=>rw[CI q]
   |some v=>
    rw[E6 q];constructor
    ·rintro⟨e,_⟩;exfalso;cases best with
     |none=>cases e
     |some p=>dsimp only at e;split at e <;> cases e
    ·rintro⟨_,e⟩;cases e
  ·intro a e;obtain⟨j1,v,j2,j3,j4⟩:=i2 a e;cases q:atS kn o with
   |none=>
    have es:nk kn best o=best:=by unfold nk;rw[q]
    rw[es] at j1 j4;refine⟨?_,v,j2,λo' m w e'=>?_,j4⟩
    ·rcases j1 with z|z
     ·exact .inl z
     ·exact .inr (.tail _ z)
    ·rcases fV.mp m with rfl|m
     ·rw[q] at e';cases e'
     ·exact j3 o' m w e'
   |some u=>
    cases best with
    |none=>
     have es:nk kn none o=some o:=by unfold nk;rw[q]
     rw[es] at j1 j4;refine⟨.inr ?_,v,j2,λo' m w e'=>?_,λp w e'=>(by cases e')⟩
     ·rcases j1 with z|z
      ·cases z;exact .head _
      ·exact .tail _ z
     ·rcases fV.mp m with rfl|m
      ·rw[q] at e';cases e';exact j4 o' u rfl q
      ·exact j3 o' m w e'
    |some p=>
     obtain⟨pv,hp⟩:=h p rfl;by_cases oz:u < pv
     ·have es:nk kn (some p) o=some o:=by unfold nk;rw[q];dsimp only;rw[hp,Option.getD_some,if_pos oz]
      rw[es] at j1 j4;refine⟨.inr ?_,v,j2,λo' m w e'=>?_,λp' w e1 e2=>?_⟩
      ·rcases j1 with z|z
       ·cases z;exact .head _
       ·exact .tail _ z
      ·rcases fV.mp m with rfl|m
       ·rw[q] at e';cases e';exact j4 o' u rfl q
       ·exact j3 o' m w e'
      ·cases e1;rw[hp] at e2;cases e2;have:=j4 o u rfl q;omega
     ·have es:nk kn (some p) o=some p:=by unfold nk;rw[q];dsimp only;rw[hp,Option.getD_some,if_neg oz]
      rw[es] at j1 j4;refine⟨?_,v,j2,λo' m w e'=>?_,j4⟩
      ·rcases j1 with z|z
       ·exact .inl z
       ·exact .inr (.tail _ z)
      ·rcases fV.mp m with rfl|m
       ·rw[q] at e';cases e';have:=j4 p pv rfl hp;omega
       ·exact j3 o' m w e'
theorem fP{v:Int}:v∈dI kn outs↔∃o∈outs,atS kn o=some v:=Cw
theorem l7:kg kn outs=none↔dI kn outs=[]:=by
 have:=(HJ (kn:=kn) (outs:=outs) (best:=none) (λp e=>by cases e)).1
 unfold kg;rw[this];exact⟨λz=>z.2,λz=>⟨rfl,z⟩⟩
theorem UI{a:Str}(e:kg kn outs=some a):a∈outs/\atS kn a=some (fQ (dI kn outs)):=by
 obtain⟨j1,v,j2,j3,_⟩:=(HJ (kn:=kn) (outs:=outs) (best:=none) (λp e=>by cases e)).2 a e
 have ha:a∈outs:=by
  rcases j1 with z|z
  ·cases z
  ·exact z
 have ic:dI kn outs≠[]:=λz=>by rw[l7.mpr z] at e;cases e
 obtain⟨m1,m2⟩:=v5 ic;obtain⟨o,ho,eo⟩:=fP.mp m1;have c1:=j3 o ho _ eo;have c2:=m2 v (fP.mpr ⟨a,ha,j2⟩);exact⟨ha,by rw[j2,show v=fQ (dI kn outs) by omega]⟩
section
variable {h:aU} {ar n:Str} {c:Int}
theorem ν(g:aI h)(hc:ar∈h.carts):P0 Ep [.d (aF h),.d (.tup [.str n,.int c]),.d (.str ar)] (rd (wO h ar n c)):=by
 intro S;have e:=NN g hc;have v:=AA n (aM ar h.af);unfold Ep PN wO;generalize aF h=hd at *;cases hk:atS (aM ar h.af) n with
 |none=>
  rw[hk] at v;simp only[↓ev,e,br,eW,v,zH,rW,jY]
 |some w=>
  rw[hk] at v;simp only[↓ev,e,br,eW,v,zK,nZ,a_,hV,jY]
theorem VX{S:aX}(ok:wB kn best)(o:Str){g0 g1 g2:Option Val}:Az 0 [g0,g1,g2,some (.d (.aN (nX kn))),some (.d (mI best)),some (.d (.str o))] S=some (.nx [g0,g1,g2,some (.d (.aN (nX kn))),some (.d (mI (nk kn best o))),some (.d (.str o))] S):=by
 have v:=AA o kn;unfold Az nk;cases hk:atS kn o with
 |none=>
  rw[hk] at v;simp only[↓ev,a_,v,zH]
 |some w=>
  rw[hk] at v;cases best with
  |none=>
   unfold mI;simp only[↓ev,a_,v,zK,br]
  |some p=>
   obtain⟨u,hu⟩:=ok p rfl;have v2:=AA p kn;rw[hu] at v2;unfold mI;by_cases hl:w < u
   ·have wY:=eq_true hl;simp only[↓ev,a_,v,zK,v2,wY,decide_true,br,hu]
   ·have wY:=eq_false hl;simp only[↓ev,a_,v,zK,v2,wY,decide_false,hu]
end
end Carry
namespace Carry
open PySem L2
section
variable {h:aU} {ar n:Str} {c:Int}
theorem VY{S:aX}{kn:List (Str×Int)}{outs:List Str}{g0 g1 g2 a:Option Val}:∃a',aE (aR 5) (Az 0) (dS outs) [g0,g1,g2,some (.d (.aN (nX kn))),some (.d .az),a] S=some (.nx [g0,g1,g2,some (.d (.aN (nX kn))),some (.d (mI (kg kn outs))),a'] S):=by
 obtain⟨U',S',e,a',rfl,rfl⟩:=pL (gg:=aR 5) (body:=Az 0) (f:=D.str) (U:=[g0,g1,g2,some (.d (.aN (nX kn))),some (.d .az),a]) (S:=S) (λpre U S'=>∃a',U=[g0,g1,g2,some (.d (.aN (nX kn))),some (.d (mI (kg kn pre))),a']/\S'=S) outs ⟨a,rfl,rfl⟩ (by
  rintro d x r eq U S' ⟨a',rfl,rfl⟩;have ok:wB kn (kg kn d):=OH λp z=>by cases z
  refine⟨_,_,_,rfl,.inl (VX ok x),some (.d (.str x)),?_,rfl⟩;unfold kg;rw[Ld];rfl)
 exact⟨a',e⟩
theorem PR(g:aI h){b:aq}(hb:b∈h.af)(hc:ar∈h.carts):P0 Er [.d (aF h),.d (.str b.name),.d (.str ar)] (rd (mI (kg (aM ar h.af) b.outs))):=by
 intro S;have e1:=NN g hc;have e2:=sV g hb;obtain⟨a',e⟩:=VY (S:=S) (kn:=aM ar h.af) (outs:=b.outs) (g0:=some (.d (aF h))) (g1:=some (.d (.str b.name))) (g2:=some (.d (.str ar))) (a:=none);have hD:ao b=.tup [.str b.name,.int b.long,.bl b.ring,.lst (dS b.outs)]:=rfl;rw[hD] at e2;unfold Er PQ;generalize aF h=hd at *;simp only[↓ev,e1,br,e2,yM,ja,e,jY]
end
section
variable {s:List Cell} {h:aU} {r nw i gn cl:Int} {bag b f ct:Str} {fl:D} {book carted:List (TK×D)} {gone:List D}
theorem VZ:vX 0 [.d (.ref 0),.d (.str bag)] (h1 (aF h) r nw book bag b i .az gn gone carted s)=some (.ok (rd (.bl false)) (h1 (aF h) r nw book bag b i .az gn gone carted s)):=by
 unfold vX Gp;generalize aF h=hd at *;simp only[↓ev,hR,qe,qF,br,v1,a_,gj]
def kl(h:aU)(ct:Str)(nw cl:Int)(b:Str)(i:Int):Bool:=match atS (aM ct h.af) b with
 |none=>false
 |some v=>decide (nw+(v - i)<=cl)
theorem NP(g:aI h)(hc:ct∈h.carts)(hk:bw book (.inr f)=some (.tup [.str f,.str ct,.int cl])):vX 0 [.d (.ref 0),.d (.str bag)] (h1 (aF h) r nw book bag b i (.str f) gn gone carted s)=some (.ok (rd (.bl (kl h ct nw cl b i))) (h1 (aF h) r nw book bag b i (.str f) gn gone carted s)):=by
 have e:=ν (n:=b) (c:=i) g hc;unfold vX Gp kl;unfold wO at e;cases hv:atS (aM ct h.af) b with
 |none=>
  rw[hv] at e;generalize aF h=hd at *;simp only[↓ev,hR,qe,qF,br,v1,a_,wj,yV,hk,nQ,n_,nP,n9,hV,e,gj]
 |some v=>
  rw[hv] at e;generalize aF h=hd at *;simp only[↓ev,hR,qe,qF,br,v1,a_,wj,yV,hk,nQ,n_,nP,n9,hV,e,wz,y6,kX,gj]
end
end Carry
namespace Carry
open PySem L2
section
variable {s:List Cell} {h:aU} {r nw i k gn cl:Int} {bag b f ct:Str} {fl:D} {book carted:List (TK×D)} {gone:List D}
abbrev b9(h:aU):Str:=h.carts.getD 0 ""
theorem X3(g:aI h)(hn:i4 bag):qd 0 [.d (.ref 0),.d (.str bag)] (h1 (aF h) r nw book bag b i .az gn gone carted s)=some (.ok (rd (.str (b9 h))) (h1 (aF h) r nw book bag b i .az gn gone carted s)):=by
 have e1:=λq=>Ii (q:=q) (hd:=aF h) (r:=r) (nw:=nw) (book:=book) (b:=b) (i:=i) (fl:=.az) (gn:=gn) (gone:=gone) (carted:=carted) (s:=s) hn
 have e2:=VZ (s:=s) (h:=h) (r:=r) (nw:=nw) (book:=book) (bag:=bag) (b:=b) (i:=i) (gn:=gn) (gone:=gone) (carted:=carted);obtain⟨_,ha⟩:=og g;have hD:aF h=.tup [.lst (h.af.map ao),.lst (dS h.carts)]:=rfl;rw[hD] at e1 e2 ⊢;unfold b9;generalize h.carts.getD 0 ""=Qf at *;unfold qd Gq;simp only[↓ev,hR,ik,C3,e1,Ac,e2,a_,nQ,n_,hV,ha,gj]
theorem OI(g:aI h)(hn:i4 bag)(hc:ct∈h.carts)(hk:bw book (.inr f)=some (.tup [.str f,.str ct,.int cl])):qd 0 [.d (.ref 0),.d (.str bag)] (h1 (aF h) r nw book bag b i (.str f) gn gone carted s)=some (.ok (rd (.str (if kl h ct nw cl b i=true then ct else b9 h))) (h1 (aF h) r nw book bag b i (.str f) gn gone carted s)):=by
 have e1:=λq=>Ii (q:=q) (hd:=aF h) (r:=r) (nw:=nw) (book:=book) (b:=b) (i:=i) (fl:=.str f) (gn:=gn) (gone:=gone) (carted:=carted) (s:=s) hn
 have e2:=NP (s:=s) (r:=r) (nw:=nw) (bag:=bag) (b:=b) (i:=i) (gn:=gn) (gone:=gone) (carted:=carted) g hc hk;obtain⟨_,ha⟩:=og g;have hD:aF h=.tup [.lst (h.af.map ao),.lst (dS h.carts)]:=rfl;rw[hD] at e1 e2 ⊢;unfold qd Gq;cases hb:kl h ct nw cl b i with
 |true=>
  rw[hb] at e2;unfold b9;generalize h.carts.getD 0 ""=Qf at *;simp only[↓ev,hR,ik,C3,e1,Ac,e2,wj,yV,br,qe,qF,v1,hk,hV,gj]
 |false=>
  rw[hb] at e2;unfold b9;generalize h.carts.getD 0 ""=Qf at *;simp only[↓ev,hR,ik,C3,e1,Ac,e2,a_,nQ,n_,hV,ha,gj]
theorem ZM(g:aI h){bt:aq}(hb:bt∈h.af)(hc:ct∈h.carts){o:Str}(ho:kg (aM ct h.af) bt.outs=some o)(hi:h.carts.contains o=true){busy:D}:P0 r_ [.d (aF h),.d (ao bt),.d (.str ct),.d busy] (rd (.str o)):=by
 intro S;have e:=PR g hb hc;rw[ho] at e;have hD:aF h=.tup [.lst (h.af.map ao),.lst (dS h.carts)]:=rfl;have hB:ao bt=.tup [.str bt.name,.int bt.long,.bl bt.ring,.lst (dS bt.outs)]:=rfl;rw[hD] at e ⊢;rw[hB];unfold r_ GL;unfold mI at e;simp only[↓ev,eW,e,br,hV,nj,a_,mW,hi,jY]
theorem ZN(g:aI h){bt:aq}(hb:bt∈h.af)(hc:ct∈h.carts){o:Str}(ho:kg (aM ct h.af) bt.outs=some o)(hi:h.carts.contains o=false){busy:List Str}(hy:busy.contains o=false):P0 r_ [.d (aF h),.d (ao bt),.d (.str ct),.d (.lst (dS busy))] (rd (pl o 0)):=by
 intro S;have e:=PR g hb hc;rw[ho] at e;have hD:aF h=.tup [.lst (h.af.map ao),.lst (dS h.carts)]:=rfl;have hB:ao bt=.tup [.str bt.name,.int bt.long,.bl bt.ring,.lst (dS bt.outs)]:=rfl;rw[hD] at e ⊢;rw[hB];unfold r_ GL;unfold mI at e;cases hr:bt.ring with
 |true=>simp only[↓ev,eW,e,br,hV,nj,a_,mW,hi,kX,hy,jY]
 |false=>simp only[↓ev,eW,e,br,hV,nj,a_,mW,hi,kX,jY]
theorem X4(g:aI h):yp 0 [.d (.ref 0)] (h0 (aF h) r nw book gone carted s)=some (.ok (.o (.lst [])) (h0 (aF h) r nw book gone carted s)):=by
 have e1:=λq=>Ah (s:=s) (r:=r) (q:=q) (x:=fZ nw book gone carted) g
 have e2:=λq=>DX (s:=s) (r:=r) (q:=q) (nw:=nw) (book:=book) (gone:=gone) (carted:=carted) g
 generalize aF h=hd at *;unfold yp FZ;simp only[↓ev,hR,ik,yE,e1,pI,e2,aV,br,gj]
theorem AD(g:aI h)(hi:b_ (.lst (dS (h.af.map aq.name))) (.str b)=some (rd (.int k))):yp 0 [.d (.ref 0)] (h1 (aF h) r nw book bag b i fl gn gone carted s)=some (.ok (.o (.lst (dS (if(i == 0)=true then[b] else[])))) (h1 (aF h) r nw book bag b i fl gn gone carted s)):=by
 have e1:=λq=>Ah (s:=s) (r:=r) (q:=q) (x:=one nw book bag b i fl gn gone carted) g
 have e2:=λq=>uO (s:=s) (r:=r) (q:=q) (nw:=nw) (book:=book) (gone:=gone) (carted:=carted) (bag:=bag) (i:=i) (fl:=fl) (gn:=gn) g hi
 generalize aF h=hd at *;unfold yp FZ;cases hz:(i == 0) with
 |true=>simp only[↓ev,hR,ik,yE,e1,pI,e2,aV,br,FI,kX,hV,a_,jS,hz,LB,eW,gj,dS]
 |false=>simp only[↓ev,hR,ik,yE,e1,pI,e2,aV,br,FI,kX,hV,a_,jS,hz,gj,dS]
end
end Carry
namespace Carry
open PySem L2
section
variable {s:List Cell} {h:aU} {r nw i k gn cl:Int} {bag b f ct:Str} {fl goal:D} {book carted:List (TK×D)} {gone:List D}
theorem OJ(g:aI h){bt:aq}(hb:bt∈h.af)(hi:b_ (.lst (dS (h.af.map aq.name))) (.str bt.name)=some (rd (.int k)))(hl:(i+1 < bt.long)=True):ni 0 [.d (.ref 0)] (h1 (aF h) r nw book bag bt.name i fl gn gone carted s)=some (.ok (.o (.lst [.tup [.str bag,pl bt.name (i+1)]])) (h1 (aF h) r nw book bag bt.name i fl gn gone carted s)):=by
 have e1:=λq s=>yJ (s:=s) (r:=r) (q:=q) (x:=one nw book bag bt.name i fl gn gone carted) g
 have e2:=λs=>AD (s:=s) (r:=r) (nw:=nw) (book:=book) (gone:=gone) (carted:=carted) (bag:=bag) (i:=i) (fl:=fl) (gn:=gn) g hi
 have e3:=λq s=>uO (s:=s) (r:=r) (q:=q) (nw:=nw) (book:=book) (gone:=gone) (carted:=carted) (bag:=bag) (i:=i) (fl:=fl) (gn:=gn) g hi
 have e4:=sV g hb;have hB:ao bt=.tup [.str bt.name,.int bt.long,.bl bt.ring,.lst (dS bt.outs)]:=rfl;rw[hB] at e4;generalize aF h=hd at *;unfold ni v_;simp only[↓ev,hR,ik,yK,e1,br,e2,a_,pI,e3,aE,yA,eW,ja,e4,hV,hl,decide_true,f_,kx,rj,k8]
theorem X5(g:aI h){bt:aq}(hb:bt∈h.af)(hi:b_ (.lst (dS (h.af.map aq.name))) (.str bt.name)=some (rd (.int k)))(hl:(i+1 < bt.long)=False)(hr:bt.ring=true)(hg:(gn < r)=True):ni 0 [.d (.ref 0)] (h1 (aF h) r nw book bag bt.name i .az gn gone carted s)=some (.ok (.o (.lst [.tup [.str bag,pl bt.name 0]])) (h1 (aF h) r nw book bag bt.name i .az gn gone carted s)):=by
 have e1:=λq s=>yJ (s:=s) (r:=r) (q:=q) (x:=one nw book bag bt.name i .az gn gone carted) g
 have e2:=λs=>AD (s:=s) (r:=r) (nw:=nw) (book:=book) (gone:=gone) (carted:=carted) (bag:=bag) (i:=i) (fl:=.az) (gn:=gn) g hi
 have e3:=λq s=>uO (s:=s) (r:=r) (q:=q) (nw:=nw) (book:=book) (gone:=gone) (carted:=carted) (bag:=bag) (i:=i) (fl:=.az) (gn:=gn) g hi
 have e4:=sV g hb;have hB:ao bt=.tup [.str bt.name,.int bt.long,.bl bt.ring,.lst (dS bt.outs)]:=rfl;rw[hB] at e4;have e5:=λq s=>Dw (s:=s) (hd:=aF h) (r:=r) (q:=q) (x:=one nw book bag bt.name i .az gn gone carted)
 generalize aF h=hd at *;unfold ni v_;simp only[↓ev,hR,ik,yK,e1,br,e2,a_,pI,e3,aE,yA,eW,ja,e4,hr,hV,hl,decide_false,kX,M4,e5,hg,decide_true,f_,kx,rj,k8]
theorem X6(g:aI h):ni 0 [.d (.ref 0)] (h0 (aF h) r nw book gone carted s)=some (.ok (.o (.lst [])) (h0 (aF h) r nw book gone carted s)):=by
 have e1:=λq s=>yJ (s:=s) (r:=r) (q:=q) (x:=fZ nw book gone carted) g
 have e2:=λs=>X4 (s:=s) (r:=r) (nw:=nw) (book:=book) (gone:=gone) (carted:=carted) g
 have e3:=λq s=>DX (s:=s) (r:=r) (q:=q) (nw:=nw) (book:=book) (gone:=gone) (carted:=carted) g
 generalize aF h=hd at *;unfold ni v_;simp only[↓ev,hR,ik,yK,e1,br,e2,a_,pI,e3,aE,rj,f_,k8]
theorem V0(g:aI h){bt:aq}(hb:bt∈h.af)(hi:b_ (.lst (dS (h.af.map aq.name))) (.str bt.name)=some (rd (.int k)))(hl:(i+1 < bt.long)=False)(hc:∀s,qd 0 [.d (.ref 0),.d (.str bag)] (h1 (aF h) r nw book bag bt.name i fl gn gone carted s)=some (.ok (rd (.str ct)) (h1 (aF h) r nw book bag bt.name i fl gn gone carted s)))(ho:P0 r_ [.d (aF h),.d (ao bt),.d (.str ct),.d (.lst (dS (if(i == 0)=true then[bt.name] else[])))] (rd goal))(hr:bt.ring=false):ni 0 [.d (.ref 0)] (h1 (aF h) r nw book bag bt.name i fl gn gone carted s)=some (.ok (.o (.lst [.tup [.str bag,goal]])) (h1 (aF h) r nw book bag bt.name i fl gn gone carted s)):=by
 have e1:=λq s=>yJ (s:=s) (r:=r) (q:=q) (x:=one nw book bag bt.name i fl gn gone carted) g
 have e2:=λs=>AD (s:=s) (r:=r) (nw:=nw) (book:=book) (gone:=gone) (carted:=carted) (bag:=bag) (i:=i) (fl:=fl) (gn:=gn) g hi
 have e3:=λq s=>uO (s:=s) (r:=r) (q:=q) (nw:=nw) (book:=book) (gone:=gone) (carted:=carted) (bag:=bag) (i:=i) (fl:=fl) (gn:=gn) g hi
 have e4:=sV g hb;have e5:=λq s=>Dw (s:=s) (hd:=aF h) (r:=r) (q:=q) (x:=one nw book bag bt.name i fl gn gone carted)
 have hB:ao bt=.tup [.str bt.name,.int bt.long,.bl bt.ring,.lst (dS bt.outs)]:=rfl;rw[hB,hr] at e4 ho;generalize aF h=hd at *;generalize dS (if(i == 0)=true then[bt.name] else[])=bz at *
 unfold ni v_;simp only[↓ev,hR,ik,yK,e1,br,e2,a_,pI,e3,aE,yA,eW,ja,e4,hV,hl,decide_false,kX,GW,hc,ho,f_,kx,rj,k8]
theorem V1(g:aI h){bt:aq}(hb:bt∈h.af)(hi:b_ (.lst (dS (h.af.map aq.name))) (.str bt.name)=some (rd (.int k)))(hl:(i+1 < bt.long)=False)(hc:∀s,qd 0 [.d (.ref 0),.d (.str bag)] (h1 (aF h) r nw book bag bt.name i (.str f) gn gone carted s)=some (.ok (rd (.str ct)) (h1 (aF h) r nw book bag bt.name i (.str f) gn gone carted s)))(ho:P0 r_ [.d (aF h),.d (ao bt),.d (.str ct),.d (.lst (dS (if(i == 0)=true then[bt.name] else[])))] (rd goal))(hr:bt.ring=true):ni 0 [.d (.ref 0)] (h1 (aF h) r nw book bag bt.name i (.str f) gn gone carted s)=some (.ok (.o (.lst [.tup [.str bag,goal]])) (h1 (aF h) r nw book bag bt.name i (.str f) gn gone carted s)):=by
 have e1:=λq s=>yJ (s:=s) (r:=r) (q:=q) (x:=one nw book bag bt.name i (.str f) gn gone carted) g
 have e2:=λs=>AD (s:=s) (r:=r) (nw:=nw) (book:=book) (gone:=gone) (carted:=carted) (bag:=bag) (i:=i) (fl:=(.str f)) (gn:=gn) g hi
 have e3:=λq s=>uO (s:=s) (r:=r) (q:=q) (nw:=nw) (book:=book) (gone:=gone) (carted:=carted) (bag:=bag) (i:=i) (fl:=(.str f)) (gn:=gn) g hi
 have e4:=sV g hb;have e5:=λq s=>Dw (s:=s) (hd:=aF h) (r:=r) (q:=q) (x:=one nw book bag bt.name i (.str f) gn gone carted)
 have hB:ao bt=.tup [.str bt.name,.int bt.long,.bl bt.ring,.lst (dS bt.outs)]:=rfl;rw[hB,hr] at e4 ho;generalize aF h=hd at *;generalize dS (if(i == 0)=true then[bt.name] else[])=bz at *
 unfold ni v_;simp only[↓ev,hR,ik,yK,e1,br,e2,a_,pI,e3,aE,yA,eW,ja,e4,hV,hl,decide_false,kX,GW,hc,ho,f_,kx,rj,k8]
theorem V2(g:aI h){bt:aq}(hb:bt∈h.af)(hi:b_ (.lst (dS (h.af.map aq.name))) (.str bt.name)=some (rd (.int k)))(hl:(i+1 < bt.long)=False)(hc:∀s,qd 0 [.d (.ref 0),.d (.str bag)] (h1 (aF h) r nw book bag bt.name i .az gn gone carted s)=some (.ok (rd (.str ct)) (h1 (aF h) r nw book bag bt.name i .az gn gone carted s)))(ho:P0 r_ [.d (aF h),.d (ao bt),.d (.str ct),.d (.lst (dS (if(i == 0)=true then[bt.name] else[])))] (rd goal))(hr:bt.ring=true)(hg:(gn < r)=False):ni 0 [.d (.ref 0)] (h1 (aF h) r nw book bag bt.name i .az gn gone carted s)=some (.ok (.o (.lst [.tup [.str bag,goal]])) (h1 (aF h) r nw book bag bt.name i .az gn gone carted s)):=by
 have e1:=λq s=>yJ (s:=s) (r:=r) (q:=q) (x:=one nw book bag bt.name i .az gn gone carted) g
 have e2:=λs=>AD (s:=s) (r:=r) (nw:=nw) (book:=book) (gone:=gone) (carted:=carted) (bag:=bag) (i:=i) (fl:=.az) (gn:=gn) g hi
 have e3:=λq s=>uO (s:=s) (r:=r) (q:=q) (nw:=nw) (book:=book) (gone:=gone) (carted:=carted) (bag:=bag) (i:=i) (fl:=.az) (gn:=gn) g hi
 have e4:=sV g hb;have e5:=λq s=>Dw (s:=s) (hd:=aF h) (r:=r) (q:=q) (x:=one nw book bag bt.name i .az gn gone carted)
 have hB:ao bt=.tup [.str bt.name,.int bt.long,.bl bt.ring,.lst (dS bt.outs)]:=rfl;rw[hB,hr] at e4 ho;generalize aF h=hd at *;generalize dS (if(i == 0)=true then[bt.name] else[])=bz at *
 unfold ni v_;simp only[↓ev,hR,ik,yK,e1,br,e2,a_,pI,e3,aE,yA,eW,ja,e4,hV,hl,decide_false,kX,M4,e5,hg,GW,hc,ho,f_,kx,rj,k8]
end
end Carry
namespace Carry
open PySem L2
section
variable {S:aX} {n:Nat} {s:List Cell} {h:aU} {r nw:Int} {book carted:List (TK×D)} {gone:List D} {hd:D}
theorem ss0{gs st:D}:uE 0 [.d (.lst []),.d gs,.d st,.c n] S=some (.ok (rd .az) S):=by
 unfold uE CZ;simp only[↓ev,aE,jY]
theorem hlen{BQ:Int}{m:Nat}:Nat.blt (hF hd r BQ m).length 1000=true:=rfl
theorem X7(hn:s[n]?=some (.o (.lst []))):uK 0 [.d (.ref 0),.c n] (h0 hd r nw book gone carted s)=some (.ok (rd .az) (h0 hd r (nw+1) book gone carted (s.set n (.z (.lst []))))):=by
 unfold uK DC;simp only[↓ev,hR,wz,y6,beq_self_eq_true,hlen,IA,hn,aE,En]
theorem sy0{gs:D}:uC 0 [.d (.lst []),.d gs,.c n] S=some (.ok (rd .az) S):=by
 unfold uC CT;simp only[↓ev,aV,br,aE,k8]
theorem sb0:uF 0 [.d (.lst []),.d (.aN []),.c n] S=some (.ok (rd .az) S):=by
 unfold uF C4;simp only[↓ev,br,aE,eJ,CU,a_,k8]
theorem X8(g:aI h):l6 0 [.d (.ref 0)] (h0 (aF h) r nw book gone carted s)=some (.ok (.o (.lst [])) (h0 (aF h) r (nw+1) book gone carted s)):=by
 have e1:=λq s=>DX (s:=s) (r:=r) (q:=q) (nw:=nw) (book:=book) (gone:=gone) (carted:=carted) g
 have e2:=λs=>X6 (s:=s) (r:=r) (nw:=nw) (book:=book) (gone:=gone) (carted:=carted) g
 have e3:=λq s=>Ah (s:=s) (r:=r) (q:=q) (x:=fZ nw book gone carted) g
 generalize aF h=hd at *;have e4:=X7 (s:=s++[.o (.aN []),.o (.lst []),.o (.lst [])]) (n:=s.length+2) (hd:=hd) (r:=r) (nw:=nw) (book:=book) (gone:=gone) (carted:=carted) yN;rw[B7] at e4;have p0:iW []=some []:=rfl;unfold l6 Ei;simp only[↓ev,hR,ik,pI,e1,br,e2,p0,yE,e3,ss0,sy0,sb0,a_,zx,wm,aE,Ih,e4,JZ,yN,k8]
end
end Carry
namespace Carry
open PySem L2
section
variable {S:aX} {n:Nat} {s:List Cell} {h:aU} {r nw i j gn:Int} {book carted:List (TK×D)} {gone:List D} {hd fl:D} {bag b o c:Str}
abbrev row(bag b:Str)(i:Int)(fl:D)(gn:Int):D:=.tup [.str bag,fl,pl b i,.int gn]
theorem Kz:uE 0 [.d (.lst [row bag b i fl gn]),.d (.aN [(.inr bag,pl o j)]),.d (.lst []),.c n] S=some (.ok (rd .az) S):=by
 unfold uE CZ;simp only[↓ev,aE,br,Fq,v1,eW,a_,JN,jY]
theorem Ky:uE 0 [.d (.lst [row bag b i fl gn]),.d (.aN [(.inr bag,.str c)]),.d (.lst []),.c n] S=some (.ok (rd .az) S):=by
 unfold uE CZ;simp only[↓ev,aE,br,Fq,v1,eW,a_,JO,jY]
theorem KA(hn:S.s[n]?=some (.o (.aN []))):uC 0 [.d (.lst [row bag b i fl gn]),.d (.aN [(.inr bag,.str c)]),.c n] S=some (.ok (rd .az) S):=by
 unfold uC CT;simp only[↓ev,aV,br,Fp,eW,hn,v0,rW,v1,JO,a_,aE,k8]
theorem kp:nK [.str o,.int j]=some [.inr o,.inl j]:=by simp[nK,qt]
theorem vp{y:D}{a:TK}:bw [(a,y)] a=some y:=by unfold bw;simp
theorem vq{y:D}{a a':TK}(h:a≠a'):bw [(a,y)] a'=none:=by unfold bw;simp[h]
theorem KC(hn:S.s[n]?=some (.o (.aN [])))(hl:n < S.s.length):uC 0 [.d (.lst [row bag b i fl gn]),.d (.aN [(.inr bag,pl o j)]),.c n] S=some (.ok (rd .az) S):=by
 have Cp:∀a,bw [] a=none:=λ_=>rfl
 have b0:(bag == bag)=true:=beq_self_eq_true _;unfold uC CT;simp only[↓ev,aV,br,Fp,eW,hn,Cp,rW,vp,JN,Ln,aE,Lo,f_,ja,tZ,kx,Lp,qo,beq_self_eq_true,nZ,a_,k8]
theorem Ks(ic:(b,i)≠(o,j))(hn:S.s[n]?=some (.o (.aN [])))(hl:n < S.s.length):uF 0 [.d (.lst [row bag b i fl gn]),.d (.aN [(.inr bag,pl o j)]),.c n] S=some (.ok (rd .az) S):=by
 have Cp:∀a,bw [] a=none:=λ_=>rfl
 have v2:∀y,bw [(.tp [.inr b,.inl i],y)] (.tp [.inr o,.inl j])=none:=λy=>vq (λz=>ic (by cases z;rfl))
 have qU:∀c,(S.s++[c])[n]?=some (.o (.aN [])):=λc=>by rw[rQ hl];exact hn
 unfold uF C4;simp only[↓ev,br,aE,Fv,f_,ja,tZ,kx,eJ,CU,Fw,v1,v2,K9,qU,Cp,zH,rW,a_,k8]
theorem Kr(hn:S.s[n]?=some (.o (.aN [])))(hl:n < S.s.length):uF 0 [.d (.lst [row bag b i fl gn]),.d (.aN [(.inr bag,.str c)]),.c n] S=some (.ok (rd .az) S):=by
 have Cp:∀a,bw [] a=none:=λ_=>rfl
 have v2:∀y,bw [(.tp [.inr b,.inl i],y)] (.inr c)=none:=λy=>vq (λz=>nomatch z)
 have qU:∀c,(S.s++[c])[n]?=some (.o (.aN [])):=λc=>by rw[rQ hl];exact hn
 unfold uF C4;simp only[↓ev,br,aE,Fv,f_,ja,tZ,kx,eJ,CU,Fw,v1,v2,K9,qU,Cp,zH,rW,a_,k8]
end
end Carry
namespace Carry
open PySem L2
section
variable {n:Nat} {s:List Cell} {h:aU} {r nw i j gn:Int} {book carted:List (TK×D)} {gone:List D} {hd fl:D} {bag o c:Str} {bt:aq}
theorem A0{a b:Str}{x y:Int}:aY (pl a x) (pl b y)=(a == b && (x == y)):=by
 show fT [.str a,.int x] [.str b,.int y]=_;simp[fT,jS,qo]
theorem BU{a:Str}{x:Int}:gc 40 (pl a x)=true:=rfl
theorem BW{a:Str}{y z:D}:dW [(TK.inr a,y)] (.inr a) z=[(.inr a,z)]:=by simp[dW]
theorem IB(g:aI h)(hb:bt∈h.af)(hc:(bt.ring && ((i == bt.long - 1) && (bt.name == o && (j == 0))))=false):uH 0 [.d (.ref 0),.d (.str bag),.d (pl o j)] (h1 (aF h) r nw book bag bt.name i fl gn gone carted s)=some (.ok (rd .az) (h1 (aF h) r nw book bag o j fl gn gone carted s)):=by
 have e:=sV g hb;have hB:ao bt=.tup [.str bt.name,.int bt.long,.bl bt.ring,.lst (dS bt.outs)]:=rfl;rw[hB] at e;generalize aF h=hd at *;unfold uH Gn;cases hr:bt.ring with
 |false=>
  rw[hr] at e;simp only[↓ev,hR,nP,n9,br,v1,nQ,n_,eW,e,kX,a_,BW,gj]
 |true=>
  rw[hr,Bool.true_and] at hc;rw[hr] at e;cases Et:(i == bt.long - 1) with
  |false=>simp only[↓ev,hR,nP,n9,br,v1,nQ,n_,eW,e,kX,hV,BU,a_,A0,beq_self_eq_true,Et,vJ,BW,gj]
  |true=>
   rw[Et,Bool.true_and] at hc;cases h2:(j == 0) with
   |false=>simp only[↓ev,hR,nP,n9,br,v1,nQ,n_,eW,e,kX,hV,BU,CG,a_,A0,beq_self_eq_true,Et,h2,vJ,BW,gj]
   |true=>
    rw[h2,CG] at hc;have lR:(o == bt.name)=false:=by rw[beq_eq_false_iff_ne] at hc ⊢;exact λz=>hc z.symm
    simp only[↓ev,hR,nP,n9,br,v1,nQ,n_,eW,e,kX,hV,BU,CG,a_,A0,beq_self_eq_true,Et,lR,h2,BW,gj]
theorem X9(g:aI h)(hb:bt∈h.af)(hr:bt.ring=true)(hi:i=bt.long - 1):uH 0 [.d (.ref 0),.d (.str bag),.d (pl bt.name 0)] (h1 (aF h) r nw book bag bt.name i fl gn gone carted s)=some (.ok (rd .az) (h1 (aF h) r nw book bag bt.name 0 fl (gn+1) gone carted s)):=by
 have e:=sV g hb;have hB:ao bt=.tup [.str bt.name,.int bt.long,.bl bt.ring,.lst (dS bt.outs)]:=rfl;rw[hB,hr] at e;subst hi;generalize aF h=hd at *;unfold uH Gn;simp only[↓ev,hR,nP,n9,br,v1,nQ,n_,eW,e,kX,hV,BU,CG,a_,A0,beq_self_eq_true,yD,Ab,BW,gj]
theorem Xp{a:Str}{y:D}:ji [(TK.inr a,y)] a=[]:=by simp[ji,jj]
theorem ZO(hc:bw carted (.inr bag)=none)(hl:(carted.length < 1000000)=True)(hg:(gone.length < 1000000)=True){c2:List (TK×D)}(hp:dW carted (.inr bag) (.str c)=c2):yo 0 [.d (.ref 0),.d (.str bag),.d (.str c)] (h1 hd r nw book bag o i fl gn gone carted s)=some (.ok (rd .az) (h0 hd r nw book (gone++[.tup [.str bag,.str c,.int nw]]) c2 s)):=by
 unfold yo LR;simp only[↓ev,hR,nP,n9,br,v1,Xp,qe,qF,yD,Ab,yF,Af,hl,hp,Ig,OC,wz,y6,hg,gj]
end
end Carry
namespace Carry
open PySem L2
section
variable {n:Nat} {s:List Cell} {r nw i j gn tu:Int} {book carted c2:List (TK×D)} {gone g2:List D} {hd fl:D} {bag b o c:Str}
theorem V3(hn:s[n]?=some (.o (.lst [.tup [.str bag,pl o j]])))(hm:∀s,uH 0 [.d (.ref 0),.d (.str bag),.d (pl o j)] (h1 hd r (nw+1) book bag b i fl gn gone carted s)=some (.ok (rd .az) (h1 hd r (nw+1) book bag o j fl tu gone carted s))):
  uK 0 [.d (.ref 0),.c n] (h1 hd r nw book bag b i fl gn gone carted s)=some (.ok (rd .az) (h1 hd r (nw+1) book bag o j fl tu gone carted (s.set n (.z (.lst [.tup [.str bag,pl o j]]))))):=by
 unfold uK DC;simp only[↓ev,hR,wz,y6,beq_self_eq_true,hlen,IA,hn,aE,br,GP,JN,ik,S6,ja,hm,En]
theorem V4(hn:s[n]?=some (.o (.lst [.tup [.str bag,.str c]])))(hm:∀s,yo 0 [.d (.ref 0),.d (.str bag),.d (.str c)] (h1 hd r (nw+1) book bag b i fl gn gone carted s)=some (.ok (rd .az) (h0 hd r (nw+1) book g2 c2 s))):
  uK 0 [.d (.ref 0),.c n] (h1 hd r nw book bag b i fl gn gone carted s)=some (.ok (rd .az) (h0 hd r (nw+1) book g2 c2 (s.set n (.z (.lst [.tup [.str bag,.str c]]))))):=by
 unfold uK DC;simp only[↓ev,hR,wz,y6,beq_self_eq_true,hlen,IA,hn,aE,br,GP,JO,a_,ik,Sd,ja,hm,En]
end
end Carry
namespace Carry
open PySem L2
section
variable {s:List Cell} {h:aU} {r nw i j k gn tu:Int} {book carted c2:List (TK×D)} {gone g2:List D} {fl:D} {bag b o c:Str}
theorem DH(g:aI h)(hi:b_ (.lst (dS (h.af.map aq.name))) (.str b)=some (rd (.int k)))(hw:∀s,ni 0 [.d (.ref 0)] (h1 (aF h) r nw book bag b i fl gn gone carted s)=some (.ok (.o (.lst [.tup [.str bag,pl o j]])) (h1 (aF h) r nw book bag b i fl gn gone carted s)))(ic:(b,i)≠(o,j))(hm:∀s,uH 0 [.d (.ref 0),.d (.str bag),.d (pl o j)] (h1 (aF h) r (nw+1) book bag b i fl gn gone carted s)=some (.ok (rd .az) (h1 (aF h) r (nw+1) book bag o j fl tu gone carted s))):l6 0 [.d (.ref 0)] (h1 (aF h) r nw book bag b i fl gn gone carted s)=some (.ok (.o (.lst [.tup [.str bag,pl b i,pl o j,.az]])) (h1 (aF h) r (nw+1) book bag o j fl tu gone carted s)):=by
 have e1:=λq s=>uO (s:=s) (r:=r) (q:=q) (nw:=nw) (book:=book) (gone:=gone) (carted:=carted) (bag:=bag) (i:=i) (fl:=fl) (gn:=gn) g hi
 have e3:=λq s=>Ah (s:=s) (r:=r) (q:=q) (x:=one nw book bag b i fl gn gone carted) g
 generalize aF h=hd at *;have ln:s.length < (s++[Cell.o (.aN [])]).length:=by rw[f7];exact sF _
 have at':(s++[Cell.o (.aN [])])[s.length]?=some (.o (.aN [])):=f_;have e5:=Kz (S:=⟨s++[.o (.aN [])],hR hd r (one nw book bag b i fl gn gone carted)⟩) (n:=s.length) (bag:=bag) (b:=b) (i:=i) (fl:=fl) (gn:=gn) (o:=o) (j:=j);have e6:=KC (S:=⟨s++[.o (.aN [])],hR hd r (one nw book bag b i fl gn gone carted)⟩) (n:=s.length) (bag:=bag) (b:=b) (i:=i) (fl:=fl) (gn:=gn) (o:=o) (j:=j) at' ln;have e7:=Ks (S:=⟨s++[.o (.aN [])],hR hd r (one nw book bag b i fl gn gone carted)⟩) (n:=s.length) (bag:=bag) (b:=b) (i:=i) (fl:=fl) (gn:=gn) (o:=o) (j:=j) ic at' ln;have e4:=V3 (s:=s++[.o (.aN []),.o (.lst [.tup [.str bag,pl b i,pl o j,.az]]),.o (.lst [.tup [.str bag,pl o j]])]) (n:=s.length+2) yN hm;rw[B7] at e4;have p1:∀y,iW [.tup [.str bag,y]]=some [(.inr bag,y)]:=λ_=>rfl
 unfold l6 Ei;simp only[↓ev,hR,ik,pI,e1,br,hw,p1,vK,tZ,List.foldl_nil,yE,e3,e5,e6,e7,a_,zx,wm,aE,HF,f_,v0,yN,v1,ja,B7,Ih,e4,JZ,k8]
theorem V5(g:aI h)(hi:b_ (.lst (dS (h.af.map aq.name))) (.str b)=some (rd (.int k)))(hw:∀s,ni 0 [.d (.ref 0)] (h1 (aF h) r nw book bag b i fl gn gone carted s)=some (.ok (.o (.lst [.tup [.str bag,.str c]])) (h1 (aF h) r nw book bag b i fl gn gone carted s)))(hm:∀s,yo 0 [.d (.ref 0),.d (.str bag),.d (.str c)] (h1 (aF h) r (nw+1) book bag b i fl gn gone carted s)=some (.ok (rd .az) (h0 (aF h) r (nw+1) book g2 c2 s))):l6 0 [.d (.ref 0)] (h1 (aF h) r nw book bag b i fl gn gone carted s)=some (.ok (.o (.lst [.tup [.str bag,pl b i,.str c,.az]])) (h0 (aF h) r (nw+1) book g2 c2 s)):=by
 have e1:=λq s=>uO (s:=s) (r:=r) (q:=q) (nw:=nw) (book:=book) (gone:=gone) (carted:=carted) (bag:=bag) (i:=i) (fl:=fl) (gn:=gn) g hi
 have e3:=λq s=>Ah (s:=s) (r:=r) (q:=q) (x:=one nw book bag b i fl gn gone carted) g
 generalize aF h=hd at *;have ln:s.length < (s++[Cell.o (.aN [])]).length:=by rw[f7];exact sF _
 have at':(s++[Cell.o (.aN [])])[s.length]?=some (.o (.aN [])):=f_;have e5:=Ky (S:=⟨s++[.o (.aN [])],hR hd r (one nw book bag b i fl gn gone carted)⟩) (n:=s.length) (bag:=bag) (b:=b) (i:=i) (fl:=fl) (gn:=gn) (c:=c);have e6:=KA (S:=⟨s++[.o (.aN [])],hR hd r (one nw book bag b i fl gn gone carted)⟩) (n:=s.length) (bag:=bag) (b:=b) (i:=i) (fl:=fl) (gn:=gn) (c:=c) at';have e7:=Kr (S:=⟨s++[.o (.aN [])],hR hd r (one nw book bag b i fl gn gone carted)⟩) (n:=s.length) (bag:=bag) (b:=b) (i:=i) (fl:=fl) (gn:=gn) (c:=c) at' ln;have e4:=V4 (s:=s++[.o (.aN []),.o (.lst [.tup [.str bag,pl b i,.str c,.az]]),.o (.lst [.tup [.str bag,.str c]])]) (n:=s.length+2) yN hm;rw[B7] at e4;have p1:∀y,iW [.tup [.str bag,y]]=some [(.inr bag,y)]:=λ_=>rfl
 unfold l6 Ei;simp only[↓ev,hR,ik,pI,e1,br,hw,p1,vK,tZ,List.foldl_nil,yE,e3,e5,e6,e7,a_,zx,wm,aE,HF,f_,v0,yN,v1,ja,B7,Ih,e4,JZ,k8]
end
end Carry
namespace Carry
open PySem L2
section
variable {s:List Cell} {h:aU} {q:Nat} {r nw i k gn cl:Int} {book carted:List (TK×D)} {gone:List D} {fl:D} {bag b f ct:Str}
theorem UJ(hl:(cl < 0)=False):Pr C0 [.d (.int cl)] (rd .az):=by
 intro q S;unfold C0 Lw;simp only[↓ev,hl,decide_false,a_,jY]
theorem V6(hf:i4 f)(hc:(h.carts.drop 1).contains ct=true)(hl:(cl < 0)=False):Aa 0 [.d (.ref 0),.d (.str f),.d (.str ct),.d (.int cl)] (h0 (aF h) r nw [] gone carted s)=some (.ok (rd .az) (h0 (aF h) r nw [(.inr f,.tup [.str f,.str ct,.int cl])] gone carted s)):=by
 have e:=UJ hl;have cu:cutD (dS h.carts) (some 1) none=dS (h.carts.drop 1):=by rw[show(1:Int)=((1:Nat):Int) from rfl,NF,dS,dS,E8]
 have hD:aF h=.tup [.lst (h.af.map ao),.lst (dS h.carts)]:=rfl;rw[hD];unfold Aa Mm;simp only[↓ev,hf,a_,hR,wj,yV,br,v0,nQ,n_,hV,cu,nj,mW,hc,nZ,e,tZ,gj]
theorem UK{x:Hs}{hd y:D}(hb:x.book=[(.inr f,y)]):Df q [.d (.ref 0)] ⟨s,hR hd r x⟩=some (.ok (.o (.lst [y])) ⟨s,hR hd r x⟩):=by
 obtain⟨x1,x2,x3,x4,x5,x6,x7⟩:=x;dsimp only at hb;subst hb;have d1:TK.d (.inr f)=.str f:=by simp[TK.d]
 unfold Df L6;simp only[↓ev,hR,wj,yV,br,aV,LG,v1,gj]
theorem X_(g:aI h)(hi:b_ (.lst (dS (h.af.map aq.name))) (.str b)=some (rd (.int k))):uL 0 [.d (.ref 0)] (h1 (aF h) r nw book bag b i .az gn gone carted s)=some (.ok (.o (.lst [])) (h1 (aF h) r nw book bag b i .az gn gone carted s)):=by
 have e1:=λq=>HG (s:=s) (r:=r) (q:=q) (nw:=nw) (book:=book) (gone:=gone) (carted:=carted) (bag:=bag) (i:=i) (fl:=.az) (gn:=gn) g hi
 generalize aF h=hd at *;unfold uL HE;simp only[↓ev,hR,ik,z9,e1,aV,br,Dk,qe,qF,v1,a_,gj]
theorem OK(g:aI h)(hi:b_ (.lst (dS (h.af.map aq.name))) (.str b)=some (rd (.int k)))(hc:ct∈h.carts)(hk:bw book (.inr f)=some (.tup [.str f,.str ct,.int cl])):uL 0 [.d (.ref 0)] (h1 (aF h) r nw book bag b i (.str f) gn gone carted s)=some (.ok (.o (.lst (if kl h ct nw cl b i=true then[] else[.str bag]))) (h1 (aF h) r nw book bag b i (.str f) gn gone carted s)):=by
 have e1:=λq=>HG (s:=s) (r:=r) (q:=q) (nw:=nw) (book:=book) (gone:=gone) (carted:=carted) (bag:=bag) (i:=i) (fl:=.str f) (gn:=gn) g hi
 have e2:=NP (s:=s) (r:=r) (nw:=nw) (bag:=bag) (b:=b) (i:=i) (gn:=gn) (gone:=gone) (carted:=carted) g hc hk;generalize aF h=hd at *;unfold uL HE;cases hb:kl h ct nw cl b i with
 |true=>
  rw[hb] at e2;simp only[↓ev,hR,ik,z9,e1,aV,br,Dk,qe,qF,v1,Ac,ja,e2,a_,gj]
 |false=>
  rw[hb] at e2;simp only[↓ev,hR,ik,z9,e1,aV,br,Dk,qe,qF,v1,Ac,ja,e2,Mo,gj,a_]
end
end Carry
namespace Carry
open PySem L2
variable{h:aU}{bt:aq}
theorem NQ:∀xs:List Str,ir (dS xs)=some xs
 |[]=>rfl
 |x::xs=>by
  have ih:=NQ xs;show(ir (D.str x::dS xs))=_;unfold ir;rw[ih];rfl
theorem V7{xs:List Str}{b:Str}(hb:b∈xs):∃k:Int,b_ (.lst (dS xs)) (.str b)=some (rd (.int k)):=by
 obtain⟨j,hj⟩:=M0 hb;refine⟨(j:Nat),?_⟩;show(ir (dS xs)).bind _=_;rw[NQ,vL,hj];rfl
theorem HK(hb:bt∈h.af):bt.name∈h.af.map aq.name:=zJ (f:=aq.name) hb
theorem HL(hb:bt∈h.af):∃k:Int,b_ (.lst (dS (h.af.map aq.name))) (.str bt.name)=some (rd (.int k)):=V7 (HK hb)
theorem IC{carts:List Str}:∀{bs:List aq},ka carts bs->∀b∈bs,∀o∈b.outs,o≠b.name
 |x::bs,f,b,hb,o,ho=>by
  rcases fV.mp hb with rfl|hb
  ·intro e;rcases f.1 o ho with z|z
   ·exact f.2.1 (e ▸ z)
   ·exact f.2.2.1 (e ▸ z)
  ·exact IC f.2.2.2 b hb o ho
def Nx(bt:aq)(i:Int)(o:aq)(j:Int):Prop:=(o=bt/\j=i+1)\/(i+1=bt.long/\o.name∈bt.outs/\j=0)
section
variable {s:List Cell} {h:aU} {r nw i j gn v:Int} {book:List (TK×D)} {fl:D} {bag ct:Str} {bt:aq}
theorem NR(g:aI h)(hb:bt∈h.af){k:Int}(hi:b_ (.lst (dS (h.af.map aq.name))) (.str bt.name)=some (rd (.int k)))(hl:¬i+1 < bt.long){goal:D}(hc:∀s,qd 0 [.d (.ref 0),.d (.str bag)] (h1 (aF h) r nw book bag bt.name i fl gn [] [] s)=some (.ok (rd (.str ct)) (h1 (aF h) r nw book bag bt.name i fl gn [] [] s)))(ho:P0 r_ [.d (aF h),.d (ao bt),.d (.str ct),.d (.lst (dS (if(i == 0)=true then[bt.name] else[])))] (rd goal))(hr:bt.ring=false\/(∃f,fl=.str f)\/fl=.az/\¬gn < r):ni 0 [.d (.ref 0)] (h1 (aF h) r nw book bag bt.name i fl gn [] [] s)=some (.ok (.o (.lst [.tup [.str bag,goal]])) (h1 (aF h) r nw book bag bt.name i fl gn [] [] s)):=by
 cases er:bt.ring with
 |false=>exact V0 g hb hi (eq_false hl) hc ho er
 |true=>
  rcases hr with z|⟨f,rfl⟩|⟨rfl,z⟩
  ·rw[er] at z;cases z
  ·exact V1 g hb hi (eq_false hl) hc ho er
  ·exact V2 g hb hi (eq_false hl) hc ho er (eq_false z)
theorem OL(g:aI h)(hb:bt∈h.af)(hi0:0<=i)(Jx:i < bt.long)(su:ct∈h.carts)(hc:∀s,qd 0 [.d (.ref 0),.d (.str bag)] (h1 (aF h) r nw book bag bt.name i fl gn [] [] s)=some (.ok (rd (.str ct)) (h1 (aF h) r nw book bag bt.name i fl gn [] [] s)))(hv:atS (aM ct h.af) bt.name=some v)(hr:i+1 < bt.long\/bt.ring=false\/(∃f,fl=.str f)\/fl=.az/\¬gn < r):
  (∃(o:aq) (j w:Int) (l:D),o∈h.af/\0<=j/\j < o.long/\Nx bt i o j/\atS (aM ct h.af) o.name=some w/\w - j=v - i - 1/\∀s,l6 0 [.d (.ref 0)] (h1 (aF h) r nw book bag bt.name i fl gn [] [] s)=some (.ok (.o (.lst [l])) (h1 (aF h) r (nw+1) book bag o.name j fl gn [] [] s)))\/
  v - i=1/\∃l:D,∀s,l6 0 [.d (.ref 0)] (h1 (aF h) r nw book bag bt.name i fl gn [] [] s)=some (.ok (.o (.lst [l])) (h0 (aF h) r (nw+1) book [.tup [.str bag,.str ct,.int (nw+1)]] [(.inr bag,.str ct)] s)):=by
 obtain⟨k,hi⟩:=HL hb;by_cases hl:i+1 < bt.long
 ·refine .inl ⟨bt,i+1,v,_,hb,by omega,hl,.inl ⟨rfl,rfl⟩,hv,by omega,λs=>DH g hi (λs=>OJ g hb hi (eq_true hl)) (λz=>?_) λs=>IB g hb ?_⟩
  ·have:=congrArg Prod.snd z;dsimp only at this;omega
  ·rw[show(i == bt.long - 1)=false by rw[beq_eq_false_iff_ne];omega,E',vJ]
 ·have hr:=hr.resolve_left hl;have bg:=yW su g.fwd bt hb;rw[hv] at bg;have ic:¬dI (aM ct h.af) bt.outs=[]:=λz=>by rw[if_pos z] at bg;cases bg
  rw[if_neg ic] at bg;have bg:=Option.some.inj bg;obtain⟨a,ha⟩:∃a,kg (aM ct h.af) bt.outs=some a:=by
   cases e:kg (aM ct h.af) bt.outs with
   |none=>exact absurd (l7.mp e) ic
   |some a=>exact⟨a,rfl⟩
  obtain⟨m,hm⟩:=UI ha;by_cases EB:a∈h.carts
  ·have ea:a=ct:=Classical.byContradiction λz=>by rw[NO g.fwd EB z] at hm;cases hm
   subst ea;rw[AB su g.fwd] at hm;have hm:=Option.some.inj hm;exact .inr ⟨by omega,_,λs=>V5 g hi (λs=>NR g hb hi hl hc (ZM g hb su ha (nN.mpr EB)) hr) λs=>ZO rfl (eq_true (by decide)) (eq_true (by decide)) rfl⟩
  ·have hmb:a∈h.af.map aq.name:=(HI g.fwd bt hb a m).resolve_right EB;obtain⟨o,ho,rfl⟩:=p_.mp hmb;have ne:=IC g.fwd bt hb _ m;have lo:=(g.lg o ho).1;have Jp:h.carts.contains o.name=false:=by rw[Lk];exact λz=>EB (nN.mp z)
   have hy:(if(i == 0)=true then[bt.name] else[]).contains o.name=false:=by
    rw[Lk];intro z;have z:=nN.mp z;split at z
    ·exact ne (p8.mp z)
    ·cases z
   refine .inl ⟨o,0,_,_,ho,by omega,by omega,.inr ⟨by omega,m,rfl⟩,hm,by omega,λs=>DH g hi (λs=>NR g hb hi hl hc (ZN g hb su ha Jp hy) hr) (λz=>ne (congrArg Prod.fst z).symm) λs=>IB g hb ?_⟩
   rw[show(bt.name == o.name)=false by rw[beq_eq_false_iff_ne];exact λz=>ne z.symm,E',vJ,vJ]
end
end Carry
namespace Carry
open PySem L2
variable{v:Int}
def kr:Option Int->D
 |none=>.az
 |some v=>.int v
def gZ(ar:Str):List aq->List (TK×D)
 |[]=>[]
 |b::bs=>gZ ar bs++[(.inr b.name,kr (atS (aM ar (b::bs)) b.name))]
theorem NS(ar:Str):∀bs:List aq,(gZ ar bs).length=bs.length
 |[]=>rfl
 |b::bs=>by unfold gZ;rw[f7,NS ar bs];rfl
theorem NT{l m:List (TK×D)}{k:TK}:bw (l++m) k=(bw l k).or (bw m k):=by
 unfold bw;rw[List.find?_append];cases List.find? (λe=>decide (e.1=k)) l with
 |none=>rfl
 |some x=>rfl
theorem Ek{ar:Str}:∀{bs:List aq} {n:Str},n∉bs.map aq.name->bw (gZ ar bs) (.inr n)=none
 |[],n,_=>rfl
 |b::bs,n,hn=>by
  have ne:TK.inr b.name≠TK.inr n:=λz=>hn (by rw[<-TK.inr.inj z];exact .head _)
  unfold gZ;rw[NT,Ek (bs:=bs) λz=>hn (.tail _ z),Lh,vq ne]
theorem ID{carts:List Str}{ar:Str}:∀{bs:List aq} {n:Str},ka carts bs->n∈bs.map aq.name->bw (gZ ar bs) (.inr n)=some (kr (atS (aM ar bs) n))
 |b::bs,n,f,hn=>by
  have eu:gZ ar (b::bs)=gZ ar bs++[(.inr b.name,kr (atS (aM ar (b::bs)) b.name))]:=rfl;rw[eu,NT];by_cases e:n=b.name
  ·subst e;rw[Ek f.2.1,Lh,vp]
  ·have hm:n∈bs.map aq.name:=by
    rcases fV.mp hn with z|z
    ·exact absurd z e
    ·exact z
   rw[ID f.2.2.2 hm,yv e];rfl
theorem OM(b:aq){ar:Str}{y:D}:∀{l:List (TK×D)},bw l (.inr b.name)=none->dW l (.inr b.name) y=l++[(.inr b.name,y)]
 |[],_=>rfl
 |(k,z)::l,h=>by
  have hk:k≠.inr b.name:=λe=>by
   rw[e] at h;unfold bw at h;rw[List.find?_cons_of_pos (by simp)] at h
   cases h
  have h':bw l (.inr b.name)=none:=by
   unfold bw at h ⊢
   rwa [List.find?_cons_of_neg (by simpa using hk)] at h
  rw[M6,if_neg hk,OM b (ar:=ar) h'];rfl
def oE(ar:Str)(bs:List aq)(outs:List Str):List Int:=outs.filterMap λo=>if o∈bs.map aq.name then atS (aM ar bs) o else none
theorem X'{carts:List Str}{ar:Str}(hc:ar∈carts){bs:List aq}(f:ka carts bs){outs:List Str}(ho:∀o∈outs,o∈bs.map aq.name\/o∈carts):v∈oE ar bs outs++(if outs.contains ar=true then[0] else[])↔v∈dI (aM ar bs) outs:=by
 rw[pj,fP];unfold oE;rw[Cw];constructor
 ·rintro(⟨o,m,e⟩|z)
  ·split at e
   ·exact⟨o,m,e⟩
   ·cases e
  ·split at z
   ·rename_i EC
    have:=p8.mp z;exact⟨ar,nN.mp EC,by rw[AB hc f,this]⟩
   ·cases z
 ·rintro⟨o,m,e⟩;rcases ho o m with z|z
  ·exact .inl ⟨o,m,by rw[if_pos z];exact e⟩
  ·have eo:o=ar:=Classical.byContradiction λne=>by rw[NO f z ne] at e;cases e
   rw[eo,AB hc f] at e;rw[if_pos (nN.mpr (eo ▸ m)),p8];exact .inr (Option.some.inj e).symm
theorem PB{xs ys:List Int}(h:∀v,v∈xs↔v∈ys)(ic:ys≠[]):xs≠[]/\fQ xs=fQ ys:=by
 obtain⟨m1,m2⟩:=v5 ic;have hx:xs≠[]:=λz=>by
  have:=(h _).mpr m1;rw[z] at this;cases this
 obtain⟨n1,n2⟩:=v5 hx;have c1:=m2 _ ((h _).mp n1);have c2:=n2 _ ((h _).mpr m1);exact⟨hx,by omega⟩
section
variable {S:aX} {ar:Str} {bs:List aq} {carts outs:List Str} {t:List Cell} {n:Nat} {rr:List Cell}
theorem ON:∀outs:List Str,(outs.filterMap λo=>(if o∈bs.map aq.name then atS (aM ar bs) o else none).map D.int)=(oE ar bs outs).map D.int
 |[]=>rfl
 |o::outs=>by
  have ih:=ON outs;unfold oE at *;rw[vH,vH,ih];cases(if o∈bs.map aq.name then atS (aM ar bs) o else none) with
  |none=>rfl
  |some v=>rfl
theorem UL(hn:t[n]?=some (.o (.aN (gZ ar bs))))(f:ka carts bs)(q:Nat)(h:outs.length<=1000):aV (aR 0) (yy q) (yz q) (dS outs) [none,some (.c n)] ⟨t,rr⟩ []=some (.ok ((oE ar bs outs).map D.int) ⟨t,rr⟩):=by
 rw[dS,wM (λo=>(if o∈bs.map aq.name then atS (aM ar bs) o else none).map D.int) outs (by omega) λo m=>by
  unfold yy yz;by_cases hm:o∈bs.map aq.name
  ·have v:=ID (ar:=ar) f hm;rw[if_pos hm];cases hc:atS (aM ar bs) o with
   |some w=>
    rw[hc] at v;unfold kr at v;exact .inr ⟨rd (.int w),.int w,rfl,by simp only[↓ev,hn,a_,v,zK],by simp only[↓ev,hn,v],rfl⟩
   |none=>
    rw[hc] at v;unfold kr at v;exact .inl ⟨rfl,by simp only[↓ev,hn,a_,v,zK]⟩
  ·have v:=Ek (ar:=ar) hm;rw[if_neg hm];exact .inl ⟨rfl,by simp only[↓ev,hn,a_,v,zH]⟩,ON]
end
section
variable {S:aX} {t rr:List Cell} {n:Nat} {l l':List (TK×D)} {bl:List D} {k d:Int} {b:aq} {ar:Str} {a4 a5:Option Val} {i6:List Int} {cs:D}
theorem V8(hl:((bl.length:Nat):Int)=d)(ha:eL bl (d - 1 - k)=some (ao b))(hn:t[n]?=some (.o (.aN l)))(hm:∀c:Cell,(t++[c])[n]?=some (.o (.aN l)))(hs:∀c x:Cell,(t++[c]).set n x=t.set n x++[c])(ht:(n < t.length)=True)(hc:∀q,aV (aR 0) (yy q) (yz q) (dS b.outs) [none,some (.c n)] ⟨t,rr⟩ []=some (.ok (i6.map D.int) ⟨t,rr⟩))(hw:b.outs.contains ar=true)(hz:(i6.length < 1000000)=True)(hv:b.long+fQ (i6++[0])=v)(hp:dW l (.inr b.name) (.int v)=l')(hq:(l.length < 1000000)=True):
  sS 0 [some (.d (.tup [.lst bl,cs])),some (.d (.str ar)),some (.c n),some (.d (.int k)),a4,a5] ⟨t,rr⟩=some (.nx [some (.d (.tup [.lst bl,cs])),some (.d (.str ar)),some (.c n),some (.d (.int k)),some (.d (ao b)),some (.c t.length)] ⟨t.set n (.o (.aN l'))++[.o (.lst ((i6++[0]).map D.int))],rr⟩):=by
 have m:=Dp (i6++[0]);have ap:(i6++[0]).map D.int=i6.map D.int++[.int 0]:=by rw[mV];rfl
 have z:(i6.map D.int).length=i6.length:=cz ..;rw[ap] at m ⊢;have ne:(i6++[0]=[])=False:=eq_false (by simp)
 have ps:((0:Int) < ((i6.length+1:Nat):Int))=True:=eq_true (by omega)
 unfold sS ao at *;simp only[↓ev,eW,hl,ha,br,yM,hc,nj,a_,mW,hw,f_,z,hz,kx,zx,ps,decide_true,hV,m,ne,hv,hm,hq,hp,hs]
theorem V9(hl:((bl.length:Nat):Int)=d)(ha:eL bl (d - 1 - k)=some (ao b))(hn:t[n]?=some (.o (.aN l)))(hm:∀c:Cell,(t++[c])[n]?=some (.o (.aN l)))(hs:∀c x:Cell,(t++[c]).set n x=t.set n x++[c])(ht:(n < t.length)=True)(hc:∀q,aV (aR 0) (yy q) (yz q) (dS b.outs) [none,some (.c n)] ⟨t,rr⟩ []=some (.ok (i6.map D.int) ⟨t,rr⟩))(hw:b.outs.contains ar=false)(ps:((0:Int) < (i6.length:Int))=True)(ne:(i6=[])=False)(hv:b.long+fQ i6=v)(hp:dW l (.inr b.name) (.int v)=l')(hq:(l.length < 1000000)=True):
  sS 0 [some (.d (.tup [.lst bl,cs])),some (.d (.str ar)),some (.c n),some (.d (.int k)),a4,a5] ⟨t,rr⟩=some (.nx [some (.d (.tup [.lst bl,cs])),some (.d (.str ar)),some (.c n),some (.d (.int k)),some (.d (ao b)),some (.c t.length)] ⟨t.set n (.o (.aN l'))++[.o (.lst (i6.map D.int))],rr⟩):=by
 have m:=Dp i6;have z:(i6.map D.int).length=i6.length:=cz ..;unfold sS ao at *;simp only[↓ev,eW,hl,ha,br,yM,hc,nj,a_,mW,hw,f_,z,ps,decide_true,hV,m,ne,hv,hm,hq,hp,hs]
theorem UM(hl:((bl.length:Nat):Int)=d)(ha:eL bl (d - 1 - k)=some (ao b))(hn:t[n]?=some (.o (.aN l)))(hm:∀c:Cell,(t++[c])[n]?=some (.o (.aN l)))(hs:∀c x:Cell,(t++[c]).set n x=t.set n x++[c])(ht:(n < t.length)=True)(hc:∀q,aV (aR 0) (yy q) (yz q) (dS b.outs) [none,some (.c n)] ⟨t,rr⟩ []=some (.ok [] ⟨t,rr⟩))(hw:b.outs.contains ar=false)(hp:dW l (.inr b.name) .az=l')(hq:(l.length < 1000000)=True):
  sS 0 [some (.d (.tup [.lst bl,cs])),some (.d (.str ar)),some (.c n),some (.d (.int k)),a4,a5] ⟨t,rr⟩=some (.nx [some (.d (.tup [.lst bl,cs])),some (.d (.str ar)),some (.c n),some (.d (.int k)),some (.d (ao b)),some (.c t.length)] ⟨t.set n (.o (.aN l'))++[.o (.lst [])],rr⟩):=by
 have z0:((0:Int) < ((0:Nat):Int))=False:=eq_false (by decide)
 unfold sS ao at *;simp only[↓ev,eW,hl,ha,br,yM,hc,nj,a_,mW,hw,f_,z0,decide_false,hm,hq,hp,hs]
end
end Carry
namespace Carry
open PySem L2
section
variable {h:aU} {ar:Str} {b:aq} {i v:Int}
theorem V_{carts:List Str}(hc:ar∈carts){bs:List aq}(f:ka carts (b::bs)):atS (aM ar (b::bs)) b.name=if dI (aM ar bs) b.outs=[] then none else some (b.long+fQ (dI (aM ar bs) b.outs)):=by
 have ho:∀o∈b.outs,o≠b.name:=IC f b (.head _);rw[yW hc f b (.head _),GX (kn:=aM ar (b::bs)) (kn':=aM ar bs) (outs:=b.outs) λo m=>yv (ho o m)]
theorem ZP{l:List aq}{q post:List aq}{x:aq}(e:l.reverse=q++x::post):l=post.reverse++x::q.reverse/\eL (l.map ao) ((l.length:Int) - 1 - (q.length:Int))=some (ao x):=by
 have e1:l=post.reverse++x::q.reverse:=by
  have:=congrArg List.reverse e;rw[Li,Lj,List.reverse_cons,m8] at this;exact this
 refine⟨e1,?_⟩;have hl:l.length=post.length+q.length+1:=by rw[e1];simp;omega
 rw[show(l.length:Int) - 1 - (q.length:Int)=((post.length:Nat):Int) by omega]
 refine qJ ?_;rw[e1,mV,qv (by simp)]
 simp
theorem UN(g:aI h)(hc:ar∈h.carts)(S:aX):∃U' t,aE (aR 3) (sS 0) (ie 0 h.af.length) [some (.d (aF h)),some (.d (.str ar)),some (.c S.s.length),none,none,none] ⟨S.s++[.o (.aN [])],S.r⟩=some (.nx U' ⟨t,S.r⟩)/\(∃a3 a4 a5,U'=[some (.d (aF h)),some (.d (.str ar)),some (.c S.s.length),a3,a4,a5])/\t[S.s.length]?=some (.o (.aN (gZ ar h.af)))/\t.take S.s.length=S.s:=by
 have bl:=g.sm.bl;have ou:=g.sm.ou;have hen:ie 0 h.af.length=((List.range h.af.length).zip h.af.reverse).map λ(p:Nat×aq)=>D.int (p.1:Nat):=by
  rw[mO,show(λ(p:Nat×aq)=>D.int (p.1:Nat))=(λ(i:Nat)=>D.int (i:Int))∘Prod.fst from rfl,<-sJ,List.map_fst_zip (by simp)]
 have Qk:((List.range h.af.length).zip h.af.reverse).map Prod.snd=h.af.reverse:=by rw[List.map_snd_zip];simp
 rw[hen];obtain⟨U',S',e,⟨a3,a4,a5,e1⟩,t,rfl,e2,e3⟩:=pL (gg:=aR 3) (body:=sS 0) (f:=λ(p:Nat×aq)=>D.int (p.1:Nat)) (U:=[some (.d (aF h)),some (.d (.str ar)),some (.c S.s.length),none,none,none]) (S:=⟨S.s++[.o (.aN [])],S.r⟩) (λpre U S'=>(∃a3 a4 a5,U=[some (.d (aF h)),some (.d (.str ar)),some (.c S.s.length),a3,a4,a5])/\∃t,S'=⟨t,S.r⟩/\t[S.s.length]?=some (.o (.aN (gZ ar (pre.map Prod.snd).reverse)))/\t.take S.s.length=S.s) ((List.range h.af.length).zip h.af.reverse) ⟨⟨_,_,_,rfl⟩,_,rfl,f_,List.take_left⟩ (by
  rintro q ⟨k,x⟩ post eq U S' ⟨⟨a3,a4,a5,rfl⟩,t,rfl,hn,Ql⟩;have eq2:=congrArg (List.map Prod.snd) eq;rw[Qk,mV,dX] at eq2;obtain⟨eb,ha⟩:=ZP eq2;have ek:k=(q.map Prod.snd).length:=by
   have:((List.range h.af.length).zip h.af.reverse)[q.length]?=some (k,x):=by rw[eq,qv (cI _)];simp
   rw[List.getElem?_zip_eq_some] at this;have h1:=this.1;rw[jQ] at h1;obtain⟨hl,h1⟩:=h1;rw[List.getElem_range] at h1;rw[cz];exact h1.symm
  rw[mV,List.map_singleton,Lj,List.reverse_singleton,List.singleton_append];generalize q.map Prod.snd=qs at *;have fx:ka h.carts (x::qs.reverse):=yC (by rw[<-eb];exact g.fwd)
  have ho:x.outs.length<=900:=by
   rw[eb,mV,dX,Lg,CJ] at ou;dsimp only at ou;omega
  have hql:qs.length<=100:=by
   have h2:=congrArg List.length eb;rw[f7,kd,E2,E2] at h2;omega
  have lt:S.s.length < t.length:=(jQ.mp hn).1;have hm:∀c:Cell,(t++[c])[S.s.length]?=some (.o (.aN (gZ ar qs.reverse))):=λc=>by rw[rQ lt];exact hn
  have hs:∀c x:Cell,(t++[c]).set S.s.length x=t.set S.s.length x++[c]:=λc x=>List.set_append_left _ _ lt
  have Bb:=λq=>UL (rr:=S.r) (outs:=x.outs) hn fx.2.2.2 q (by omega)
  have hlen:((h.af.map ao).length:Int)=(h.af.length:Int):=by rw[cz]
  have hq:((gZ ar qs.reverse).length < 1000000)=True:=eq_true (by rw[NS,E2];omega)
  have pu:=λy=>OM x (ar:=ar) (y:=y) (Ek (ar:=ar) fx.2.1)
  have sm:=λv=>X' (v:=v) hc fx.2.2.2 fx.1
  have bh:=V_ hc fx;have et:gZ ar (x::qs.reverse)=gZ ar qs.reverse++[(.inr x.name,kr (atS (aM ar (x::qs.reverse)) x.name))]:=rfl;have fin:∀(y:D) (m:List D),y=kr (atS (aM ar (x::qs.reverse)) x.name)->(t.set S.s.length (.o (.aN (gZ ar qs.reverse++[(TK.inr x.name,y)])))++[Cell.o (.lst m)])[S.s.length]?=some (.o (.aN (gZ ar (x::qs.reverse))))/\(t.set S.s.length (.o (.aN (gZ ar qs.reverse++[(TK.inr x.name,y)])))++[Cell.o (.lst m)]).take S.s.length=S.s:=λy m hy=>by
   rw[hy,<-et];constructor
   ·rw[rQ (by rw[sH];exact lt),zD lt]
   ·rw[List.take_append_of_le_length (by rw[sH];omega),List.take_set_of_le (cI _)]
    exact Ql
  subst ek;have hsl:(oE ar qs.reverse x.outs).length<=x.outs.length:=List.length_filterMap_le _ _;generalize oE ar qs.reverse x.outs=i6 at *;cases hw:x.outs.contains ar with
  |true=>
   rw[hw,if_pos rfl] at sm;have tH:dI (aM ar qs.reverse) x.outs≠[]:=λz=>by
    have:=(sm 0).mp (pj.mpr (.inr (.head _)));rw[z] at this;cases this
   obtain⟨_,me⟩:=PB sm tH;rw[if_neg tH] at bh;obtain⟨f1,f2⟩:=fin (.int (x.long+fQ (i6++[0]))) ((i6++[0]).map D.int) (by rw[bh,me];rfl)
   exact⟨_,_,_,rfl,.inl (V8 hlen ha hn hm hs (eq_true lt) Bb hw (eq_true (by omega)) rfl (pu _) hq),⟨_,_,_,rfl⟩,_,rfl,f1,f2⟩
  |false=>
   rw[hw,if_neg (by decide),p7] at sm
   by_cases tH:dI (aM ar qs.reverse) x.outs=[]
   ·have se:i6=[]:=List.eq_nil_iff_forall_not_mem.mpr λv m=>by
     have:=(sm v).mp m;rw[tH] at this;cases this
    subst se;rw[if_pos tH] at bh;obtain⟨f1,f2⟩:=fin .az [] (by rw[bh];rfl)
    exact⟨_,_,_,rfl,.inl (UM hlen ha hn hm hs (eq_true lt) Bb hw (pu _) hq),⟨_,_,_,rfl⟩,_,rfl,f1,f2⟩
   ·obtain⟨ne,me⟩:=PB sm tH;rw[if_neg tH] at bh;obtain⟨f1,f2⟩:=fin (.int (x.long+fQ i6)) (i6.map D.int) (by rw[bh,me];rfl)
    exact⟨_,_,_,rfl,.inl (V9 hlen ha hn hm hs (eq_true lt) Bb hw (eq_true (by have:=List.length_pos_iff.mpr ne;omega)) (eq_false ne) rfl (pu _) hq),⟨_,_,_,rfl⟩,_,rfl,f1,f2⟩)
 rw[Qk,Li] at e2;exact⟨U',t,e,⟨a3,a4,a5,e1⟩,e2,e3⟩
theorem ZQ(g:aI h)(hc:ar∈h.carts):P0 DB [.d (aF h),.d (.str ar)] (.o (.aN (gZ ar h.af))):=by
 intro S;obtain⟨U',t,e,⟨a3,a4,a5,rfl⟩,e2,e3⟩:=UN g hc S;have bl:=g.sm.bl;have hlen:((h.af.map ao).length:Int)=(h.af.length:Int):=by rw[cz]
 have hD:aF h=.tup [.lst (h.af.map ao),.lst (dS h.carts)]:=rfl;rw[hD] at e ⊢;have hz:Nat.ble (h.af.length:Int).natAbs 1000000000000=true:=by rw[Nat.ble_eq];omega
 have tn:((h.af.length:Int)).toNat=h.af.length:=K' _;have cu:aX.cut ⟨t,S.r⟩ S.s.length=S:=by unfold aX.cut;dsimp only;rw[e3]
 unfold DB Nt;simp only[↓ev,br,eW,hlen,hz,tn,ja,e,rj,e2,cu]
theorem El(g:aI h)(hc:ar∈h.carts)(hb:b∈h.af):P0 sf [.d (aF h),.d (pl b.name i),.d (.str ar)] (rd (kr ((atS (aM ar h.af) b.name).map (· - i)))):=by
 intro S;have e:=ZQ g hc;have v:=ID (ar:=ar) g.fwd (HK hb);generalize aF h=hd at *;generalize gZ ar h.af=tl at *;unfold sf Nw;cases hk:atS (aM ar h.af) b.name with
 |none=>
  rw[hk] at v;unfold kr at *;simp only[↓ev,e,eW,v,br,a_,jY]
 |some w=>
  rw[hk] at v;unfold kr at *;simp only[↓ev,e,eW,v,br,a_,hV,jY]
end
end Carry
namespace Carry
open PySem L2
theorem OO{ar:Str}:∀{bs:List aq},(∀b∈bs,1<=b.long)->∀{n:Str} {v:Int},atS (aM ar bs) n=some v->0<=v/\v<=ig bs
 |[],_,n,v,e=>by
  have e:atS [(ar,0)] n=some v:=e;rw[uM] at e;split at e
  ·have:=Option.some.inj e;unfold ig;simp;omega
  ·cases e
 |b::bs,hl,n,v,e=>by
  have lb:=hl b (.head _);have ih:=λ{n v}=>OO (ar:=ar) (bs:=bs) (λx m=>hl x (.tail _ m)) (n:=n) (v:=v)
  have es:ig (b::bs)=b.long+ig bs:=by unfold ig;rw[dX,CJ]
  unfold aM at e;split at e
  ·have:=ih e;omega
  ·rename_i ne
   rw[An] at e;cases e1:atS (aM ar bs) n with
   |some w=>
    rw[e1] at e;have:=ih e1;have:=Option.some.inj e;omega
   |none=>
    rw[e1,Lh] at e;split at e
    ·obtain⟨o,_,eo⟩:=fP.mp (v5 ne).1;have:=ih eo;have:=Option.some.inj e;omega
    ·cases e
theorem DY{h:aU}(g:aI h){ar:Str}(hc:ar∈h.carts){b:aq}(hb:b∈h.af){v:Int}(e:atS (aM ar h.af) b.name=some v):b.long<=v/\v<=ig h.af:=by
 have rg:=λ{n v}=>OO (ar:=ar) (bs:=h.af) (λx m=>(g.lg x m).1) (n:=n) (v:=v)
 refine⟨?_,(rg e).2⟩;rw[yW hc g.fwd b hb] at e;split at e
 ·cases e
 ·rename_i ne
  obtain⟨o,_,eo⟩:=fP.mp (v5 ne).1;have:=rg eo;have:=Option.some.inj e;omega
def vM(h:aU)(book:List (TK×D))(fl:D)(ct:Str)(lt:Bool)(nw:Int)(b:Str)(i:Int):Prop:=(fl=.az/\ct=b9 h/\lt=false)\/∃f cf cl,fl=.str f/\cf∈h.carts/\bw book (.inr f)=some (.tup [.str f,.str cf,.int cl])/\((kl h cf nw cl b i=true/\ct=cf/\lt=false)\/(kl h cf nw cl b i=false/\ct=b9 h/\lt=true))
section
variable {s:List Cell} {h:aU} {r nw i j gn v w:Int} {book:List (TK×D)} {fl:D} {bag ct:Str} {bt o:aq} {lt:Bool}
theorem DI(g:aI h)(a:vM h book fl ct lt nw bt.name i):ct∈h.carts:=by
 rcases a with⟨_,e,_⟩|⟨f,cf,cl,_,m,_,⟨_,e,_⟩|⟨_,e,_⟩⟩
 ·rw[e];exact(og g).1
 ·rw[e];exact m
 ·rw[e];exact(og g).1
theorem PC(g:aI h)(hn:i4 bag)(a:vM h book fl ct lt nw bt.name i)(s:List Cell):qd 0 [.d (.ref 0),.d (.str bag)] (h1 (aF h) r nw book bag bt.name i fl gn [] [] s)=some (.ok (rd (.str ct)) (h1 (aF h) r nw book bag bt.name i fl gn [] [] s)):=by
 rcases a with⟨rfl,rfl,_⟩|⟨f,cf,cl,rfl,m,hk,⟨e,rfl,_⟩|⟨e,rfl,_⟩⟩
 ·exact X3 g hn
 ·have:=OI (s:=s) (r:=r) (nw:=nw) (b:=bt.name) (i:=i) (gn:=gn) (gone:=[]) (carted:=[]) g hn m hk;rw[e,if_pos rfl] at this;exact this
 ·have:=OI (s:=s) (r:=r) (nw:=nw) (b:=bt.name) (i:=i) (gn:=gn) (gone:=[]) (carted:=[]) g hn m hk;rw[e,if_neg (by decide)] at this
  exact this
theorem V'(g:aI h)(hb:bt∈h.af)(a:vM h book fl ct lt nw bt.name i)(s:List Cell):uL 0 [.d (.ref 0)] (h1 (aF h) r nw book bag bt.name i fl gn [] [] s)=some (.ok (.o (.lst (if lt=true then[.str bag] else[]))) (h1 (aF h) r nw book bag bt.name i fl gn [] [] s)):=by
 obtain⟨k,hi⟩:=HL hb;rcases a with⟨rfl,_,rfl⟩|⟨f,cf,cl,rfl,m,hk,⟨e,_,rfl⟩|⟨e,_,rfl⟩⟩
 ·exact X_ g hi
 ·have:=OK (s:=s) (r:=r) (nw:=nw) (bag:=bag) (b:=bt.name) (i:=i) (gn:=gn) (gone:=[]) (carted:=[]) g hi m hk;rw[e,if_pos rfl] at this;exact this
 ·have:=OK (s:=s) (r:=r) (nw:=nw) (bag:=bag) (b:=bt.name) (i:=i) (gn:=gn) (gone:=[]) (carted:=[]) g hi m hk;rw[e,if_neg (by decide)] at this
  exact this
theorem fF{cf b:Str}{cl:Int}:kl h cf nw cl b i=true↔∃v,atS (aM cf h.af) b=some v/\nw+(v - i)<=cl:=by
 unfold kl;cases atS (aM cf h.af) b with
 |none=>exact⟨λz=>(by cases z),λ⟨_,z,_⟩=>(by cases z)⟩
 |some v=>exact⟨λz=>⟨v,rfl,of_decide_eq_true z⟩,λ⟨_,e,z⟩=>by cases e;exact decide_eq_true z⟩
theorem Wa(g:aI h)(hb:bt∈h.af)(hx:Nx bt i o j)(a:vM h book fl ct lt nw bt.name i)(hv:atS (aM ct h.af) bt.name=some v)(hw:atS (aM ct h.af) o.name=some w)(e:w - j=v - i - 1):vM h book fl ct lt (nw+1) o.name j:=by
 rcases a with a|⟨f,cf,cl,ef,m,hk,⟨e1,e2,e3⟩|⟨e1,e2,e3⟩⟩
 ·exact .inl a
 ·refine .inr ⟨f,cf,cl,ef,m,hk,.inl ⟨?_,e2,e3⟩⟩;subst e2;obtain⟨v',zq,le⟩:=fF.mp e1;rw[hv] at zq;cases zq;exact fF.mpr ⟨w,hw,by omega⟩
 ·refine .inr ⟨f,cf,cl,ef,m,hk,.inr ⟨?_,e2,e3⟩⟩;rw[Lk] at e1 ⊢;intro z;apply e1;obtain⟨u,hu,le⟩:=fF.mp z;rcases hx with⟨rfl,rfl⟩|⟨x1,x2,rfl⟩
  ·exact fF.mpr ⟨u,hu,by omega⟩
  ·have bg:=yW m g.fwd bt hb;have hm:=fP.mpr ⟨o.name,x2,hu⟩;have ne:dI (aM cf h.af) bt.outs≠[]:=λz=>by rw[z] at hm;cases hm
   rw[if_neg ne] at bg;have:=(v5 ne).2 u hm;exact fF.mpr ⟨_,bg,by omega⟩
end
end Carry
namespace Carry
open PySem L2
section
variable {s:List Cell} {h:aU} {r nw i j gn v w d c k:Int} {book:List (TK×D)} {fl hd l:D} {bag ct b:Str} {bt o:aq} {lt:Bool} {S2:aX} {a6 a7:Option Val}
theorem AZ:aY (.lst []) (.lst [])=true:=rfl
theorem IW{x:Str}:aY (.lst [.str x]) (.lst [.str x])=true:=by simp[aY,fT]
theorem IX{x y:Str}{z:Int}:aY (.tup [.str x,.str y,.int z]) (.tup [.str x,.str y,.int z])=true:=by simp[aY,fT]
theorem OP(hn:i4 bag)(hf:P0 sf [.d hd,.d (pl b i),.d (.str ct)] (rd (.int d)))(he:(d == c - k)=true)(hl:uL 0 [.d (.ref 0)] (h1 hd r nw book bag b i fl gn [] [] s)=some (.ok (.o (.lst (if lt=true then[.str bag] else[]))) (h1 hd r nw book bag b i fl gn [] [] s)))(ht:l6 0 [.d (.ref 0)] (h1 hd r nw book bag b i fl gn [] [] s)=some (.ok (.o (.lst [l])) S2)):
  CW 0 [some (.d (.ref 0)),some (.d hd),some (.d (.str bag)),some (.d (.str ct)),some (.d (.bl lt)),some (.d (.int c)),some (.d (.int k)),a7] (h1 hd r nw book bag b i fl gn [] [] s)=some (.nx [some (.d (.ref 0)),some (.d hd),some (.d (.str bag)),some (.d (.str ct)),some (.d (.bl lt)),some (.d (.int c)),some (.d (.int k)),some (.d (pl b i))] S2):=by
 have e1:=λq=>yL (q:=q) (hd:=hd) (r:=r) (nw:=nw) (book:=book) (b:=b) (i:=i) (fl:=fl) (gn:=gn) (gone:=[]) (carted:=[]) (s:=s) hn rfl
 unfold CW;cases lt with
 |true=>
  rw[if_pos rfl] at hl;simp only[↓ev,hR,ik,si,e1,br,Bw,a_,hf,jS,he,nZ,OD,hl,IW,ht]
 |false=>
  rw[if_neg (by decide)] at hl
  simp only[↓ev,hR,ik,si,e1,br,Bw,a_,hf,jS,he,nZ,OD,hl,AZ,ht]
structure jh (h:aU) (r nw:Int) (book:List (TK×D)) (fl:D) (gn:Int) (ct:Str) (lt:Bool) (bt:aq) (i n:Int):Prop where
 hb:bt∈h.af
 i0:0<=i
 i1:i < bt.long
 wk:vM h book fl ct lt nw bt.name i
 at':atS (aM ct h.af) bt.name=some (n+i)
 fr:(∃f,fl=.str f)\/fl=.az/\¬gn < r
theorem jh.pos(g:aI h){n:Int}(w:jh h r nw book fl gn ct lt bt i n):1<=n/\n<=ig h.af:=by
 have h1:=DY g (DI g w.wk) w.hb w.at';have h2:=w.i0;have h3:=w.i1;omega
theorem jh.go(g:aI h)(hn:i4 bag){n:Int}(w:jh h r nw book fl gn ct lt bt i n):(∃(o:aq) (j:Int) (l:D),jh h r (nw+1) book fl gn ct lt o j (n - 1)/\1 < n/\∀s,l6 0 [.d (.ref 0)] (h1 (aF h) r nw book bag bt.name i fl gn [] [] s)=some (.ok (.o (.lst [l])) (h1 (aF h) r (nw+1) book bag o.name j fl gn [] [] s)))\/
  n=1/\∃l:D,∀s,l6 0 [.d (.ref 0)] (h1 (aF h) r nw book bag bt.name i fl gn [] [] s)=some (.ok (.o (.lst [l])) (h0 (aF h) r (nw+1) book [.tup [.str bag,.str ct,.int (nw+1)]] [(.inr bag,.str ct)] s)):=by
 rcases OL g w.hb w.i0 w.i1 (DI g w.wk) (PC g hn w.wk) w.at' (.inr (.inr w.fr)) with⟨o,j,u,l,ho,j0,j1,hx,hu,e,t⟩|⟨e,l,t⟩
 ·have w2:jh h r (nw+1) book fl gn ct lt o j (n - 1):=⟨ho,j0,j1,Wa g w.hb hx w.wk w.at' hu e,by rw[hu];congr 1;omega,w.fr⟩
  have:=w2.pos g;exact .inl ⟨o,j,l,w2,by omega,t⟩
 ·exact .inr ⟨by omega,l,t⟩
theorem IE(g:aI h)(sl:ig h.af<=1000)(hn:i4 bag){n:Int}(w:jh h r nw book fl gn ct lt bt i n):uG 0 [.d (.ref 0),.d (aF h),.d (.str bag),.d (.str ct),.d (.bl lt)] (h1 (aF h) r nw book bag bt.name i fl gn [] [] s)=some (.ok (rd (.bl true)) (h0 (aF h) r (nw+n) book [.tup [.str bag,.str ct,.int (nw+n)]] [(.inr bag,.str ct)] s)):=by
 have pn:=w.pos g;obtain⟨U',S',e,i1,i2⟩:=pL (gg:=aR 6) (body:=CW 0) (f:=λ(i:Nat)=>D.int (i:Int)) (U:=[some (.d (.ref 0)),some (.d (aF h)),some (.d (.str bag)),some (.d (.str ct)),some (.d (.bl lt)),some (.d (.int n)),none,none]) (S:=h1 (aF h) r nw book bag bt.name i fl gn [] [] s) (λpre U S'=>(∃a6 a7,U=[some (.d (.ref 0)),some (.d (aF h)),some (.d (.str bag)),some (.d (.str ct)),some (.d (.bl lt)),some (.d (.int n)),a6,a7])/\(((pre.length:Int) < n/\∃bt i,jh h r (nw+pre.length) book fl gn ct lt bt i (n - pre.length)/\S'=h1 (aF h) r (nw+pre.length) book bag bt.name i fl gn [] [] s)\/(pre.length:Int)=n/\S'=h0 (aF h) r (nw+n) book [.tup [.str bag,.str ct,.int (nw+n)]] [(.inr bag,.str ct)] s)) (List.range n.toNat) ⟨⟨_,_,rfl⟩,.inl ⟨by show(0:Int) < n;omega,bt,i,by
    show jh h r (nw+0) book fl gn ct lt bt i (n - 0);rw[zL,Ll];exact w,by show _=h1 (aF h) r (nw+0) book bag bt.name i fl gn [] [] s;rw[zL]⟩⟩ (by
  rintro q k post eq U S' ⟨⟨a6,a7,rfl⟩,st⟩;obtain⟨hq,hk⟩:=b2i eq;subst hq;rcases st with⟨lt',bt,i,w,rfl⟩|⟨z,_⟩
  ·have hl:=El (i:=i) g (DI g w.wk) w.hb;rw[w.at',E3] at hl;have Qe:=V' (bag:=bag) (r:=r) (gn:=gn) g w.hb w.wk s;have he:(n - (q.length:Int)+i - i == n - (q.length:Int))=true:=by rw[beq_iff_eq];omega
   rcases w.go g hn with⟨o,j,l,w2,n2,t⟩|⟨n1,l,t⟩
   ·refine⟨_,_,_,rfl,.inl (OP hn hl he Qe (t s)),⟨_,_,rfl⟩,.inl ⟨by rw[f7];show((q.length+1:Nat):Int) < n;omega,o,j,?_,?_⟩⟩
    ·rw[f7];show jh h r (nw+((q.length+1:Nat):Int)) book fl gn ct lt o j (n - ((q.length+1:Nat):Int));rw[show nw+((q.length+1:Nat):Int)=nw+(q.length:Int)+1 by omega,show n - ((q.length+1:Nat):Int)=n - (q.length:Int) - 1 by omega]
     exact w2
    ·rw[f7];show _=h1 (aF h) r (nw+((q.length+1:Nat):Int)) book bag o.name j fl gn [] [] s;rw[show nw+((q.length+1:Nat):Int)=nw+(q.length:Int)+1 by omega]
   ·refine⟨_,_,_,rfl,.inl (OP hn hl he Qe (t s)),⟨_,_,rfl⟩,.inr ⟨by rw[f7];show((q.length+1:Nat):Int)=n;omega,?_⟩⟩
    rw[show nw+(q.length:Int)+1=nw+n by omega]
  ·omega)
 obtain⟨a6,a7,rfl⟩:=i1;rw[uv] at i2;have e0:=i2.resolve_left λz=>by omega
 rw[e0.2] at e;rw[<-mO] at e;have hl:=El (i:=i) g (DI g w.wk) w.hb;rw[w.at',E3,show n+i - i=n by omega] at hl
 have e1:=λq=>yL (q:=q) (hd:=aF h) (r:=r) (nw:=nw) (book:=book) (b:=bt.name) (i:=i) (fl:=fl) (gn:=gn) (gone:=[]) (carted:=[]) (s:=s) hn rfl
 have e2:=λq=>HH (q:=q) (hd:=aF h) (r:=r) (nw:=nw+n) (book:=book) (gone:=[.tup [.str bag,.str ct,.int (nw+n)]]) (carted:=[(.inr bag,.str ct)]) (s:=s) (c:=ct) hn v1
 have e3:=λq=>Py (q:=q) (hd:=aF h) (r:=r) (x:=fZ (nw+n) book [.tup [.str bag,.str ct,.int (nw+n)]] [(.inr bag,.str ct)]) (s:=s)
 have e4:=λq=>Ag (q:=q) (hd:=aF h) (r:=r) (x:=fZ (nw+n) book [.tup [.str bag,.str ct,.int (nw+n)]] [(.inr bag,.str ct)]) (s:=s)
 have e5:=λq=>DX (s:=s) (r:=r) (q:=q) (nw:=nw+n) (book:=book) (gone:=[.tup [.str bag,.str ct,.int (nw+n)]]) (carted:=[(.inr bag,.str ct)]) g
 have hz:Nat.ble n.natAbs 1000000000000=true:=by rw[Nat.ble_eq];omega
 have am:∀x:D,eL [x] (-1)=some x:=λx=>rfl
 generalize aF h=hd at *;generalize nw+n=nn at *;unfold uG LC;unfold kr at hl;simp only[↓ev,hR,ik,si,e1,hl,br,hz,ja,e,e2,a_,qo,beq_self_eq_true,Pz,e3,am,yG,e4,IX,pI,e5,AZ,gj]
end
end Carry
namespace Carry
open PySem L2
section
variable {s:List Cell} {h:aU} {r nw i j v w d c k n:Int} {book:List (TK×D)} {hd l:D} {bag ct b:Str} {bt o:aq} {S S2:aX} {a3 a4 a5 a6 a7:Option Val} {bl:List D} {cs:D}
def rD(bs:List aq)(n:Str):List D:=bs.filterMap λb=>if(b.name == n)=true then some (ao b) else none
theorem UO{bs:List aq}(hl:bs.length<=1000)(q:Nat):aV (aR 0) (zW q) (zX q) (bs.map ao) [none,some (.d (pl b i))] S []=some (.ok (rD bs b) S):=by
 rw[wM (λx=>if(x.name == b)=true then some (ao x) else none) bs (by omega) λo m=>by
  have hB:ao o=.tup [.str o.name,.int o.long,.bl o.ring,.lst (dS o.outs)]:=rfl;unfold zW zX;cases hc:(o.name == b) with
  |true=>
   refine .inr ⟨rd (ao o),ao o,rfl,?_,?_,rfl⟩
   ·rw[hB];simp only[↓ev,eW,a_,qo,hc]
   ·generalize ao o=z;simp only[↓ev]
  |false=>
   refine .inl ⟨rfl,?_⟩;rw[hB];simp only[↓ev,eW,a_,qo,hc]]
 rfl
theorem OQ{carts:List Str}:∀{bs:List aq},ka carts bs->bt∈bs->eL (rD bs bt.name) 0=some (ao bt)
 |x::bs,f,hb=>by
  unfold rD;by_cases e:x.name=bt.name
  ·have ex:x=bt:=DF f x (.head _) bt hb e;rw[E6 (b:=ao x) (by rw[if_pos (by rw[e,beq_self_eq_true])]),ex,eW]
  ·rw[CI (by rw[if_neg (by rw[beq_iff_eq];exact e)])]
   rcases fV.mp hb with z|z
   ·exact absurd (by rw[z]) e
   ·exact OQ f.2.2.2 z
theorem ZR{pk:List D}(hn:i4 bag)(hp:∀q S,aV (aR 0) (zW q) (zX q) bl [none,some (.d (pl b i))] S []=some (.ok pk S))(ha:eL pk 0=some (ao bt))(hr:bt.ring=true)(hi:(i == bt.long - 1)=true):
  uD 0 [some (.d (.ref 0)),some (.d (.tup [.lst bl,cs])),some (.d (.str bag)),a3,a4,a5] (h1 hd r nw book bag b i .az 0 [] [] s)=some (.rt (rd (ao bt)) (h1 hd r nw book bag b i .az 0 [] [] s)):=by
 have e1:=λq=>yL (q:=q) (hd:=hd) (r:=r) (nw:=nw) (book:=book) (b:=b) (i:=i) (fl:=.az) (gn:=0) (gone:=[]) (carted:=[]) (s:=s) hn rfl
 have hB:ao bt=.tup [.str bt.name,.int bt.long,.bl bt.ring,.lst (dS bt.outs)]:=rfl;rw[hB,hr] at ha ⊢;unfold uD;simp only[↓ev,hR,ik,si,e1,br,Bw,a_,eW,hp,ha,kX,hV,jS,hi]
theorem PU{pk:List D}(hn:i4 bag)(hp:∀q S,aV (aR 0) (zW q) (zX q) bl [none,some (.d (pl b i))] S []=some (.ok pk S))(ha:eL pk 0=some (ao bt))(hr:(bt.ring && (i == bt.long - 1))=false)(ht:l6 0 [.d (.ref 0)] (h1 hd r nw book bag b i .az 0 [] [] s)=some (.ok (.o (.lst [l])) S2)):
  uD 0 [some (.d (.ref 0)),some (.d (.tup [.lst bl,cs])),some (.d (.str bag)),a3,a4,a5] (h1 hd r nw book bag b i .az 0 [] [] s)=some (.nx [some (.d (.ref 0)),some (.d (.tup [.lst bl,cs])),some (.d (.str bag)),a3,some (.d (pl b i)),some (.d (ao bt))] S2):=by
 have e1:=λq=>yL (q:=q) (hd:=hd) (r:=r) (nw:=nw) (book:=book) (b:=b) (i:=i) (fl:=.az) (gn:=0) (gone:=[]) (carted:=[]) (s:=s) hn rfl
 have hB:ao bt=.tup [.str bt.name,.int bt.long,.bl bt.ring,.lst (dS bt.outs)]:=rfl;rw[hB] at ha ⊢;unfold uD;cases er:bt.ring with
 |true=>
  rw[er,Bool.true_and] at hr;rw[er] at ha;simp only[↓ev,hR,ik,si,e1,br,Bw,a_,eW,hp,ha,kX,hV,jS,hr,ht]
 |false=>
  rw[er] at ha;simp only[↓ev,hR,ik,si,e1,br,Bw,a_,eW,hp,ha,kX,ht]
theorem ZS{gone:List D}(hn:i4 bag):
  uD 0 [some (.d (.ref 0)),some (.d hd),some (.d (.str bag)),a3,a4,a5] (h0 hd r nw book gone [(.inr bag,.str ct)] s)=some (.rt (rd .az) (h0 hd r nw book gone [(.inr bag,.str ct)] s)):=by
 have e1:=λq=>HH (q:=q) (hd:=hd) (r:=r) (nw:=nw) (book:=book) (gone:=gone) (carted:=[(.inr bag,.str ct)]) (s:=s) hn v1
 unfold uD;simp only[↓ev,hR,ik,si,e1,br,Qo]
structure Wy (h:aU) (bt:aq) (i n:Int):Prop where
 hb:bt∈h.af
 i0:0<=i
 i1:i < bt.long
 at':atS (aM (b9 h) h.af) bt.name=some (n+i)
theorem Wy.pos(g:aI h)(w:Wy h bt i n):1<=n/\n<=ig h.af:=by
 have h1:=DY g (og g).1 w.hb w.at';have h2:=w.i0;have h3:=w.i1;omega
def OR(h:aU)(r nw n:Int)(book:List (TK×D))(bag:Str)(s:List Cell)(rv:Rv)(S':aX):Prop:=(∃bt i n',Wy h bt i n'/\bt.ring=true/\i=bt.long - 1/\rv=rd (ao bt)/\S'=h1 (aF h) r (nw+(n - n')) book bag bt.name i .az 0 [] [] s)\/rv=rd .az/\S'=h0 (aF h) r (nw+n) book [.tup [.str bag,.str (b9 h),.int (nw+n)]] [(.inr bag,.str (b9 h))] s
theorem OS{gg:GG}{body:GS}{U U1:Gm}{S S':aX}{x:D}{xs:List D}{rv:Rv}(e1:gg x U=some U1)(e2:body U1 S=some (.rt rv S')):aE gg body (x::xs) U S=some (.rt rv S'):=by
 unfold aE;rw[e1,vL,e2];rfl
theorem OT{gg:GG}{body:GS}{U U1 U2:Gm}{S S':aX}{x:D}{xs:List D}{fr:Fr}(e1:gg x U=some U1)(e2:body U1 S=some (.nx U2 S'))(e3:aE gg body xs U2 S'=some fr):aE gg body (x::xs) U S=some fr:=by
 unfold aE;rw[e1,vL,e2];exact e3
theorem NU(g:aI h)(hn:i4 bag):∀(ks:List D) {nw i n:Int} {bt:aq} {a3 a4 a5:Option Val},Wy h bt i n->n < ks.length->∃rv S',aE (aR 3) (uD 0) ks [some (.d (.ref 0)),some (.d (aF h)),some (.d (.str bag)),a3,a4,a5] (h1 (aF h) r nw book bag bt.name i .az 0 [] [] s)=some (.rt rv S')/\OR h r nw n book bag s rv S'
 |[],nw,i,n,bt,a3,a4,a5,w,hl=>by
  have:=w.pos g;have hl:n < 0:=hl;omega
 |x::ks,nw,i,n,bt,a3,a4,a5,w,hl=>by
  have pn:=w.pos g;rw[kd] at hl;have cp:=λq S=>UO (b:=bt.name) (i:=i) (bs:=h.af) (S:=S) (lC g.sm.bl (by decide)) q
  have pa:=OQ g.fwd w.hb;cases tL:(bt.ring && (i == bt.long - 1)) with
  |true=>
   rw[m6] at tL;exact⟨_,_,OS rfl (ZR hn cp pa tL.1 tL.2),.inl ⟨bt,i,n,w,tL.1,beq_iff_eq.mp tL.2,rfl,by rw[Int.sub_self,zL]⟩⟩
  |false=>
   have hr':i+1 < bt.long\/bt.ring=false\/(∃f,D.az=.str f)\/D.az=.az/\¬(0:Int) < r:=by
    rw[Bool.and_eq_false_iff] at tL;rcases tL with z|z
    ·exact .inr (.inl z)
    ·rw[beq_eq_false_iff_ne] at z;have:=w.i1;exact .inl (by omega)
   have am:vM h book .az (b9 h) false nw bt.name i:=.inl ⟨rfl,rfl,rfl⟩;rcases OL (r:=r) (gn:=0) g w.hb w.i0 w.i1 (og g).1 (PC g hn am) w.at' hr' with⟨o,j,u,l,ho,j0,j1,hx,hu,e,t⟩|⟨e,l,t⟩
   ·have w2:Wy h o j (n - 1):=⟨ho,j0,j1,by rw[hu];congr 1;omega⟩
    obtain⟨rv,S',e3,re⟩:=NU g hn ks (nw:=nw+1) w2 (by omega)
    refine⟨rv,S',OT rfl (PU hn cp pa tL (t s)) e3,?_⟩;rcases re with⟨b',i',n',q1,q2,q3,q4,q5⟩|⟨q1,q2⟩
    ·exact .inl ⟨b',i',n',q1,q2,q3,q4,by rw[q5,show nw+1+(n - 1 - n')=nw+(n - n') by omega]⟩
    ·exact .inr ⟨q1,by rw[q2,show nw+1+(n - 1)=nw+n by omega]⟩
   ·have en:n=1:=by omega
    cases ks with
    |nil=>rw[zF] at hl;omega
    |cons y ks=>exact⟨_,_,OT rfl (PU hn cp pa tL (t s)) (OS rfl (ZS hn)),.inr ⟨rfl,by rw[en];rfl⟩⟩
theorem ZT(g:aI h)(hn:i4 bag)(w:Wy h bt i n)(h40:n < 40):∃rv S',zZ 0 [.d (.ref 0),.d (aF h),.d (.str bag)] (h1 (aF h) r nw book bag bt.name i .az 0 [] [] s)=some (.ok rv S')/\OR h r nw n book bag s rv S':=by
 obtain⟨rv,S',e,re⟩:=NU (r:=r) (nw:=nw) (book:=book) (s:=s) (a3:=none) (a4:=none) (a5:=none) g hn (ie 0 40) w (by rw[mO];simp;omega)
 refine⟨rv,S',?_,re⟩;have h2:Nat.ble (40:Int).natAbs 1000000000000=true:=by decide
 rcases re with⟨b',i',n',q1,q2,q3,q4,q5⟩|⟨q1,q2⟩
 ·subst q4 q5;generalize ao b'=bb at *;generalize aF h=hd at *;unfold zZ FJ;simp only[↓ev,h2,br,ja,e,gj,hR]
 ·subst q1 q2;generalize aF h=hd at *;unfold zZ FJ;simp only[↓ev,h2,br,ja,e,gj,hR]
end
end Carry
namespace Carry
open PySem L2
section
variable {s:List Cell} {h:aU} {r nw i j v w d c k n gn:Int} {book:List (TK×D)} {hd l:D} {bag ct b:Str} {bt o:aq} {S S2:aX} {a3 a4 a5 a6 a7:Option Val}
theorem Ya{BQ tu:Int}(hn:i4 bag)(ht:l6 0 [.d (.ref 0)] (h1 hd r nw book bag b i .az gn [] [] s)=some (.ok (.o (.lst [l])) (h1 hd r BQ book bag b j .az tu [] [] s)))(hz:(0 < d)=True)(hk:k % d=j){rg os:D}{g1 g3 g4 g5:Option Val}:
  z5 0 [some (.d (.ref 0)),g1,some (.d (.str bag)),g3,g4,g5,some (.d (.tup [.str b,.int d,rg,os])),some (.d (.int k))] (h1 hd r nw book bag b i .az gn [] [] s)=some (.nx [some (.d (.ref 0)),g1,some (.d (.str bag)),g3,g4,g5,some (.d (.tup [.str b,.int d,rg,os])),some (.d (.int k))] (h1 hd r BQ book bag b j .az tu [] [] s)):=by
 have e1:=λq=>yL (q:=q) (hd:=hd) (r:=r) (nw:=BQ) (book:=book) (b:=b) (i:=j) (fl:=.az) (gn:=tu) (gone:=[]) (carted:=[]) (s:=s) hn rfl
 unfold z5;simp only[↓ev,ht,hR,ik,si,e1,eW,hV,hz,decide_true,hk,br,BU,A0,beq_self_eq_true,nZ,a_]
theorem UP(g:aI h)(hb:bt∈h.af)(hr:bt.ring=true)(i0:0<=i)(i1:i < bt.long)(hg:i+1=bt.long->gn < r):∃l,∀s,l6 0 [.d (.ref 0)] (h1 (aF h) r nw book bag bt.name i .az gn [] [] s)=some (.ok (.o (.lst [l])) (h1 (aF h) r (nw+1) book bag bt.name (if i+1 < bt.long then i+1 else 0) .az (if i+1 < bt.long then gn else gn+1) [] [] s)):=by
 obtain⟨k,hi⟩:=HL hb;have l2:=(g.lg bt hb).2 hr;by_cases hl:i+1 < bt.long
 ·rw[if_pos hl,if_pos hl];refine⟨_,λs=>DH g hi (λs=>OJ g hb hi (eq_true hl)) (λz=>?_) λs=>IB g hb ?_⟩
  ·have:=congrArg Prod.snd z;dsimp only at this;omega
  ·rw[show(i == bt.long - 1)=false by rw[beq_eq_false_iff_ne];omega,E',vJ]
 ·rw[if_neg hl,if_neg hl];refine⟨_,λs=>DH g hi (λs=>X5 g hb hi (eq_false hl) hr (eq_true (hg (by omega)))) (λz=>?_) λs=>X9 g hb hr (by omega)⟩
  have:=congrArg Prod.snd z;dsimp only at this;omega
theorem ZU{m d q x:Int}(h0:0<=x)(h1:x < d)(e:m+d=q * d+x):m % d=x:=by
 have e2:m=x+d * (q - 1):=by rw[Int.mul_sub,Int.mul_one,Int.mul_comm d q];omega
 rw[e2,Int.add_mul_emod_self_left,Int.emod_eq_of_lt h0 h1]
theorem ZV{d q x r:Int}(h0:0<=x)(h1:x < d)(e:r * d+d - 1=q * d+x):q=r/\x=d - 1:=by
 rcases Int.lt_trichotomy q r with z|z|z
 ·have:=Int.mul_le_mul_of_nonneg_right (show q+1<=r by omega) (show 0<=d by omega)
  rw[Int.add_mul,Int.one_mul] at this;omega
 ·subst z;omega
 ·have:=Int.mul_le_mul_of_nonneg_right (show r+1<=q by omega) (show 0<=d by omega)
  rw[Int.add_mul,Int.one_mul] at this;omega
theorem Yb(g:aI h)(hn:i4 bag)(hb:bt∈h.af)(hr:bt.ring=true)(r0:0<=r){g1 g3 g4 g5:Option Val}:∃a7,aE (aR 7) (z5 0) (ie 0 (r * bt.long).toNat) [some (.d (.ref 0)),g1,some (.d (.str bag)),g3,g4,g5,some (.d (ao bt)),none] (h1 (aF h) r nw book bag bt.name (bt.long - 1) .az 0 [] [] s)=some (.nx [some (.d (.ref 0)),g1,some (.d (.str bag)),g3,g4,g5,some (.d (ao bt)),a7] (h1 (aF h) r (nw+r * bt.long) book bag bt.name (bt.long - 1) .az r [] [] s)):=by
 have l2:=(g.lg bt hb).2 hr;have rl:0<=r * bt.long:=Int.mul_nonneg r0 (by omega)
 rw[mO];obtain⟨U',S',e,⟨a7,rfl⟩,i,gn,i0,i1,eq,rfl⟩:=pL (gg:=aR 7) (body:=z5 0) (f:=λ(i:Nat)=>D.int (i:Int)) (U:=[some (.d (.ref 0)),g1,some (.d (.str bag)),g3,g4,g5,some (.d (ao bt)),none]) (S:=h1 (aF h) r nw book bag bt.name (bt.long - 1) .az 0 [] [] s) (λpre U S'=>(∃a7,U=[some (.d (.ref 0)),g1,some (.d (.str bag)),g3,g4,g5,some (.d (ao bt)),a7])/\∃i gn,0<=i/\i < bt.long/\(pre.length:Int)+bt.long - 1=gn * bt.long+i/\S'=h1 (aF h) r (nw+pre.length) book bag bt.name i .az gn [] [] s) (List.range (r * bt.long).toNat) ⟨⟨_,rfl⟩,bt.long - 1,0,by omega,by omega,by show(0:Int)+_ - 1=_;omega,by show _=h1 (aF h) r (nw+0) book bag bt.name (bt.long - 1) .az 0 [] [] s;rw[zL]⟩ (by
  rintro q k post eq U S' ⟨⟨a7,rfl⟩,i,gn,i0,i1,e,rfl⟩;obtain⟨hq,hk⟩:=b2i eq;subst hq;have hg:i+1=bt.long->gn < r:=λz=>by
   have e2:(q.length:Int)=gn * bt.long:=by omega
   exact Int.lt_of_mul_lt_mul_right (a:=bt.long) (by omega) (by omega)
  obtain⟨l,t⟩:=UP (nw:=nw+q.length) (book:=book) (bag:=bag) g hb hr i0 i1 hg;have hw:0<=(if i+1 < bt.long then i+1 else 0)/\(if i+1 < bt.long then i+1 else 0) < bt.long/\(q.length:Int)+bt.long=(if i+1 < bt.long then gn else gn+1) * bt.long+(if i+1 < bt.long then i+1 else 0):=by
   by_cases z:i+1 < bt.long
   ·rw[if_pos z,if_pos z];omega
   ·rw[if_neg z,if_neg z,Int.add_mul,Int.one_mul];omega
  refine⟨_,_,_,rfl,.inl (Ya hn (t s) (eq_true (by omega)) (ZU hw.1 hw.2.1 hw.2.2)),⟨_,rfl⟩,(if i+1 < bt.long then i+1 else 0),(if i+1 < bt.long then gn else gn+1),hw.1,hw.2.1,?_,?_⟩
  ·rw[f7];show((q.length+1:Nat):Int)+bt.long - 1=_;have:=hw.2.2;omega
  ·rw[f7];show _=h1 (aF h) r (nw+((q.length+1:Nat):Int)) book bag bt.name _ .az _ [] [] s;rw[show nw+((q.length+1:Nat):Int)=nw+(q.length:Int)+1 by omega])
 rw[uv,Int.toNat_of_nonneg rl] at eq e;obtain⟨e1,e2⟩:=ZV i0 i1 eq;rw[e1,e2] at e;exact⟨a7,e⟩
theorem Wb(g:aI h)(sl:ig h.af<=39)(hn:i4 bag)(w:Wy h bt i n)(r0:0<=r)(r3:r<=100):∃S',yB 0 [.d (.ref 0),.d (aF h),.d (.str bag),.d (.int r)] (h1 (aF h) r nw book bag bt.name i .az 0 [] [] s)=some (.ok (rd (.bl true)) S'):=by
 have pn:=w.pos g;obtain⟨rv,S',er,re⟩:=ZT (r:=r) (nw:=nw) (book:=book) (s:=s) g hn w (by omega)
 have hl:=El (i:=i) g (og g).1 w.hb;rw[w.at',E3,show n+i - i=n by omega] at hl
 have e1:=λq=>yL (q:=q) (hd:=.tup [.lst (h.af.map ao),.lst (dS h.carts)]) (r:=r) (nw:=nw) (book:=book) (b:=bt.name) (i:=i) (fl:=.az) (gn:=0) (gone:=[]) (carted:=[]) (s:=s) hn rfl
 have e2:=λq=>Ag (q:=q) (hd:=.tup [.lst (h.af.map ao),.lst (dS h.carts)]) (r:=r) (x:=one nw book bag bt.name i .az 0 [] []) (s:=s)
 have ah:=(og g).2;have hD:aF h=.tup [.lst (h.af.map ao),.lst (dS h.carts)]:=rfl;unfold kr at hl;have am:∀x:D,eL [x] (-1)=some x:=λx=>rfl
 rcases re with⟨b',i',n',w',rg,ei,rfl,rfl⟩|⟨rfl,rfl⟩
 ·have pn':=w'.pos g;have l2:=(g.lg b' w'.hb).2 rg;have lb:=(DY g (og g).1 w'.hb w'.at').1;have lb2:=(DY g (og g).1 w'.hb w'.at').2;have rl:0<=r * b'.long:=Int.mul_nonneg r0 (by omega)
  have rl2:r * b'.long<=100 * 100:=Int.mul_le_mul r3 (by omega) (by omega) (by omega)
  have i0:=w'.i0;subst ei;obtain⟨a7,el⟩:=Yb (nw:=nw+(n - n')) (book:=book) (s:=s) (g1:=some (.d (aF h))) (g3:=some (.d (.int r))) (g4:=some (.d (.int nw))) (g5:=some (.d (.int n))) g hn w'.hb rg r0;have eg:=IE (r:=r) (nw:=nw+(n - n')+r * b'.long) (book:=book) (gn:=r) (s:=s) (n:=n') (lt:=false) (fl:=.az) (ct:=b9 h) (bt:=b') (i:=b'.long - 1) g (by omega) hn ⟨w'.hb,w'.i0,w'.i1,.inl ⟨rfl,rfl,rfl⟩,w'.at',.inr ⟨rfl,by omega⟩⟩
  rw[show nw+(n - n')+r * b'.long+n'=nw+n+r * b'.long by omega] at eg
  have e4:=λq=>Ag (q:=q) (hd:=.tup [.lst (h.af.map ao),.lst (dS h.carts)]) (r:=r) (x:=fZ (nw+n+r * b'.long) book [.tup [.str bag,.str (b9 h),.int (nw+n+r * b'.long)]] [(.inr bag,.str (b9 h))]) (s:=s)
  have hz:Nat.ble (r * b'.long).natAbs 1000000000000=true:=by rw[Nat.ble_eq];omega
  have hmu:(-2 ^ 64 < r/\r < 2 ^ 64 \/ -2 ^ 64 < b'.long/\b'.long < 2 ^ 64)=True:=eq_true (.inl ⟨by omega,by omega⟩)
  have hB:ao b'=.tup [.str b'.name,.int b'.long,.bl b'.ring,.lst (dS b'.outs)]:=rfl;rw[hB] at er el;rw[hD] at hl er el eg;rw[hD];refine⟨h0 (.tup [.lst (h.af.map ao),.lst (dS h.carts)]) r (nw+n+r * b'.long) book [.tup [.str bag,.str (b9 h),.int (nw+n+r * b'.long)]] [(.inr bag,.str (b9 h))] s,?_⟩;unfold yB GU;simp only[↓ev,hR,ik,yG,e2,br,si,e1,hV,ah,hl,er,a_,hmu,hz,ja,el,eg,e4,jS,beq_self_eq_true,gj]
 ·have e3:=λq=>HH (q:=q) (hd:=.tup [.lst (h.af.map ao),.lst (dS h.carts)]) (r:=r) (nw:=nw+n) (book:=book) (gone:=[.tup [.str bag,.str (b9 h),.int (nw+n)]]) (carted:=[(.inr bag,.str (b9 h))]) (s:=s) (c:=b9 h) hn v1
  have e4:=λq=>Py (q:=q) (hd:=.tup [.lst (h.af.map ao),.lst (dS h.carts)]) (r:=r) (x:=fZ (nw+n) book [.tup [.str bag,.str (b9 h),.int (nw+n)]] [(.inr bag,.str (b9 h))]) (s:=s)
  rw[hD] at hl er;rw[hD];refine⟨h0 (.tup [.lst (h.af.map ao),.lst (dS h.carts)]) r (nw+n) book [.tup [.str bag,.str (b9 h),.int (nw+n)]] [(.inr bag,.str (b9 h))] s,?_⟩;unfold yB GU;simp only[↓ev,hR,ik,yG,e2,br,si,e1,hV,ah,hl,er,a_,e3,qo,beq_self_eq_true,Pz,e4,am,kX,jS,gj]
end
end Carry
namespace Carry
open PySem L2
section
variable {ns:List Int} {h:aU} {r t p n1 n2:Int} {bl cs:List D} {hd:D} {bt:aq} {a4:Option Val}
theorem AW:i4 "bag":=by
 rw[show("bag":Str)=⟨[98,97,103].toArray⟩ by decide +kernel]
 exact Dv _ (by decide) (by decide) (by decide +kernel)
theorem PV:i4 "fly":=by
 rw[show("fly":Str)=⟨[102,108,121].toArray⟩ by decide +kernel]
 exact Dv _ (by decide) (by decide) (by decide +kernel)
structure sN (ns:List Int) (hd:D) (bl cs:List D) (r t p n1 n2:Int) (bt:aq) (a4:Option Val):Prop where
 ed:hd=.tup [.lst bl,.lst cs]
 hh:P0 v9 [.d (bD ns)] (rd hd)
 hr:Pr jW [.d (bD ns),.d (.int 14),.d (.int 4)] (rd (.int r))
 hi:yI 0 [.d (.ref 0),.d hd,.d (.int r)] ⟨[],[.ins ak []]⟩=some (.ok (rd .az) (h0 hd r 0 [] [] [] []))
 ho:Pr kf [.d (bD ns),.d (.int 14),.d (.int 21)] (rd (.int t))
 ht:Nat.ble t.natAbs 1000000000000=true
 hl:aE (aR 4) (we 0) (ie 0 t.toNat) [some (.d (bD ns)),some (.d hd),some (.d (.int r)),some (.d (.ref 0)),none,none,none,none,none,none] (h0 hd r 0 [] [] [] [])=some (.nx [some (.d (bD ns)),some (.d hd),some (.d (.int r)),some (.d (.ref 0)),a4,none,none,none,none,none] (h0 hd r t [] [] [] []))
 e1:(bl.length:Int)=n1
 hp:Pr jW [.d (bD ns),.d (.int 15),.d (.int n1)] (rd (.int p))
 hb:eL bl p=some (ao bt)
 e2:(cs.length:Int)=n2
abbrev pY(ns:List Int)(hd:D)(r:Int)(a4:Option Val)(b:Str):Gm:=[some (.d (bD ns)),some (.d hd),some (.d (.int r)),some (.d (.ref 0)),a4,some (.d (.str b)),none,none,none,none]
theorem OU(b:sN ns hd bl cs r t p n1 n2 bt a4)(rest:GS):(av (ay 1 false (aA (v9 0) (aj (aa 0) gN)))
 (av (ay 2 false (aA (jW 0) (aj (aa 0) (aj (gC (.int 14)) (aj (gC (.int 4)) gN)))))
 (av (ay 3 false (oV ak (yI 0) (aj (aa 1) (aj (aa 2) gN))))
 (av (bQ 0 (j5 j7 (aj (aA (kf 0) (aj (aa 0) (aj (gC (.int 14)) (aj (gC (.int 21)) gN)))) gN)) (aR 4) we)
 (av (ay 5 false (gO (o2 aP) (au (gO (o2 aP) (au (gO (o2 aP) (au (aa 1) (gC (.int 0)))) (aA (jW 0) (aj (aa 0) (aj (gC (.int 15)) (aj (gO (o1 iy) (aj (gO (o2 aP) (au (aa 1) (gC (.int 0)))) gN)) gN)))))) (gC (.int 0)))))
 rest))))) [some (.d (bD ns)),none,none,none,none,none,none,none,none,none] ⟨[],[]⟩=rest (pY ns hd r a4 bt.name) (h0 hd r t [] [] [] []):=by
 obtain⟨ed,hh,hr,hi,ho,ht,hl,e1,hp,hb,e2⟩:=b;subst ed;unfold ao at hb;simp only[↓ev,hh,br,hr,hi,ho,ht,ja,hl,eW,e1,hp,hb]
theorem OV{S S2:aX}(e:AV 0 [some (.d (bD ns)),none,none,none,none,none,none,none,none,none] ⟨[],[]⟩=some (.rt (rd (.bl true)) S2)):∃S,y9 0 [.d (bD ns)] ⟨[],[]⟩=some (.ok (.v (.d (.bl true))) S):=by
 refine⟨S2.cut 0,?_⟩;unfold y9;generalize AV 0=ml at *;simp only[↓ev,e]
theorem ξ(b:sN ns hd bl cs r t p n1 n2 bt a4){z:Int}(hz:(n2 == 1)=true\/(n2 == 1)=false/\(z == 0)=true)(tD:Pr jW [.d (bD ns),.d (.int 16),.d (.int 3)] (rd (.int z))){S1 S2:aX}(pu:sX 0 [.d (.ref 0),.d (.str "bag"),.d .az,.d (.str bt.name)] (h0 hd r t [] [] [] [])=some (.ok (rd .az) S1))(un:yB 0 [.d (.ref 0),.d hd,.d (.str "bag"),.d (.int r)] S1=some (.ok (rd (.bl true)) S2)):∃S,y9 0 [.d (bD ns)] ⟨[],[]⟩=some (.ok (.v (.d (.bl true))) S):=by
 have e2:=b.e2;have ed:=b.ed;refine OV (S2:=S2) (S:=S2) ?_;unfold AV;rw[OU b];clear b;subst ed;rcases hz with hz|⟨hz,zr⟩
 ·simp only[↓ev,pY,hV,e2,a_,jS,hz,hR,ik,AQ,pu,un]
 ·simp only[↓ev,pY,hV,e2,a_,jS,hz,tD,zr,hR,ik,AQ,pu,un]
structure zQ (ns:List Int) (hd:D) (cs:List D) (r t n2:Int) (ct b:Str) (w:D) (mo cl:Int):Prop where
 e2:(cs.length:Int)=n2
 hz:(n2 == 1)=false
 tD:∃z,Pr jW [.d (bD ns),.d (.int 16),.d (.int 3)] (rd (.int z))/\(z == 0)=false
 oZ:∃o,Pr kf [.d (bD ns),.d (.int 15),.d (.int (n2 - 1))] (rd (.int o))/\eL cs (1+o)=some (.str ct)
 hw:P0 sf [.d hd,.d (pl b 0),.d (.str ct)] (rd w)
 hm:∃x,Pr kf [.d (bD ns),.d (.int 16),.d (.int 4)] (rd (.int x))/\eL [D.int (-1),.int 0,.int 1,.int 7] x=some (.int mo)
 fl:Aa 0 [.d (.ref 0),.d (.str "fly"),.d (.str ct),.d (.int cl)] (h0 hd r t [] [] [] [])=some (.ok (rd .az) (h0 hd r t [(.inr "fly",.tup [.str "fly",.str ct,.int cl])] [] [] []))
 pu:sX 0 [.d (.ref 0),.d (.str "bag"),.d (.str "fly"),.d (.str b)] (h0 hd r t [(.inr "fly",.tup [.str "fly",.str ct,.int cl])] [] [] [])=some (.ok (rd .az) (h1 hd r t [(.inr "fly",.tup [.str "fly",.str ct,.int cl])] "bag" b 0 (.str "fly") 0 [] [] []))
theorem IS(b:sN ns hd bl cs r t p n1 n2 bt a4){ct:Str}{w:D}{mo cl:Int}(f:zQ ns hd cs r t n2 ct bt.name w mo cl){lt:Bool}{cc:Str}(hh:lt=true->eL cs 0=some (.str cc)){S2:aX}(go:uG 0 [.d (.ref 0),.d hd,.d (.str "bag"),.d (.str cc),.d (.bl lt)] (h1 hd r t [(.inr "fly",.tup [.str "fly",.str ct,.int cl])] "bag" bt.name 0 (.str "fly") 0 [] [] [])=some (.ok (rd (.bl true)) S2))
  (hc:w=.az/\lt=true/\(if t+mo+0 > 0 then t+mo+0 else 0)=cl\/∃v,w=.int v/\(if t+mo+v > 0 then t+mo+v else 0)=cl/\((t+v<=cl)=True/\lt=false/\cc=ct\/(t+v<=cl)=False/\lt=true)):∃S,y9 0 [.d (bD ns)] ⟨[],[]⟩=some (.ok (.v (.d (.bl true))) S):=by
 have ed:=b.ed;obtain⟨e2,hz,⟨z,tD,zr⟩,⟨o,oZ,su⟩,hw,⟨x,hm,Bh⟩,fl,pu⟩:=f;refine OV (S2:=S2) (S:=S2) ?_;unfold AV;rw[OU b];clear b;subst ed;have f1:=λq=>Ag (q:=q) (hd:=.tup [.lst bl,.lst cs]) (r:=r) (x:=fZ t [] [] []) (s:=[])
 have f2:=λq=>UK (q:=q) (f:="fly") (hd:=.tup [.lst bl,.lst cs]) (r:=r) (x:=one t [(.inr "fly",.tup [.str "fly",.str ct,.int cl])] "bag" bt.name 0 (.str "fly") 0 [] []) (s:=[]) rfl
 have f3:=λq=>Ag (q:=q) (hd:=.tup [.lst bl,.lst cs]) (r:=r) (x:=one t [(.inr "fly",.tup [.str "fly",.str ct,.int cl])] "bag" bt.name 0 (.str "fly") 0 [] []) (s:=[])
 rcases hc with⟨rfl,rfl,em⟩|⟨v,rfl,em,⟨hle,rfl,rfl⟩|⟨hle,rfl⟩⟩
 ·have Jg:=hh rfl;simp only[↓ev,pY,hV,e2,a_,jS,hz,tD,zr,oZ,su,br,hw,hm,Bh,hR,ik,Hc,yG,f1,em,fl,AQ,pu,GV,f2,eW,kX,Jg,go]
 ·simp only[↓ev,pY,hV,e2,a_,jS,hz,tD,zr,oZ,su,br,hw,hm,Bh,hR,ik,Hc,yG,f1,em,fl,AQ,pu,GV,f2,eW,kX,f3,hle,decide_true,go]
 ·have Jg:=hh rfl;simp only[↓ev,pY,hV,e2,a_,jS,hz,tD,zr,oZ,su,br,hw,hm,Bh,hR,ik,Hc,yG,f1,em,fl,AQ,pu,GV,f2,eW,kX,f3,hle,decide_false,Jg,go]
end
end Carry
namespace Carry
open PySem L2
section
variable {ns:List Int} {h:aU} {r t p n1 n2:Int} {bl cs:List D} {hd:D} {bt:aq} {a4:Option Val} {nw:Int}
theorem Wc{s:List Cell}{g0 g1 g2 g5 g6 g7 g8 g9:Option Val}{S:aX}{l:List D}{S2:aX}(e:l6 0 [.d (.ref 0)] S=some (.ok (.o (.lst l)) S2)):we 0 [g0,g1,g2,some (.d (.ref 0)),a4,g5,g6,g7,g8,g9] S=some (.nx [g0,g1,g2,some (.d (.ref 0)),a4,g5,g6,g7,g8,g9] S2):=by
 unfold we;simp only[↓ev,e]
theorem Wd(g:aI h)(t0:0<=t):∃a4,aE (aR 4) (we 0) (ie 0 t.toNat) [some (.d (bD ns)),some (.d (aF h)),some (.d (.int r)),some (.d (.ref 0)),none,none,none,none,none,none] (h0 (aF h) r 0 [] [] [] [])=some (.nx [some (.d (bD ns)),some (.d (aF h)),some (.d (.int r)),some (.d (.ref 0)),a4,none,none,none,none,none] (h0 (aF h) r t [] [] [] [])):=by
 rw[mO];obtain⟨U',S',e,⟨a4,rfl⟩,rfl⟩:=pL (gg:=aR 4) (body:=we 0) (f:=λ(i:Nat)=>D.int (i:Int)) (U:=[some (.d (bD ns)),some (.d (aF h)),some (.d (.int r)),some (.d (.ref 0)),none,none,none,none,none,none]) (S:=h0 (aF h) r 0 [] [] [] []) (λpre U S'=>(∃a4,U=[some (.d (bD ns)),some (.d (aF h)),some (.d (.int r)),some (.d (.ref 0)),a4,none,none,none,none,none])/\S'=h0 (aF h) r pre.length [] [] [] []) (List.range t.toNat) ⟨⟨_,rfl⟩,rfl⟩ (by
  rintro q k post eq U S' ⟨⟨a4,rfl⟩,rfl⟩;refine⟨_,_,_,rfl,.inl (Wc (s:=[]) (X8 g)),⟨_,rfl⟩,?_⟩;rw[f7];rfl)
 rw[uv,Int.toNat_of_nonneg t0] at e;exact⟨a4,e⟩
theorem We{p:Int}(h0:0<=p)(h1:p < h.af.length):∃bt∈h.af,eL (h.af.map ao) p=some (ao bt):=by
 obtain⟨n,rfl⟩:=Int.eq_ofNat_of_zero_le h0;have hn:n < h.af.length:=by omega
 exact⟨h.af[n],uq hn,qJ (by rw[jx,jR hn];rfl)⟩
theorem HM(g:aI h):∀{bs pre:List aq},h.af=pre++bs->∀b∈bs,∃v,atS (aM (b9 h) h.af) b.name=some v
 |x::bs,pre,eq,b,hb=>by
  have ze:h.af=(pre++[x])++bs:=by rw[eq];simp
  rcases fV.mp hb with rfl|hb
  ·have Ez:b∈h.af:=by rw[eq];simp
   have fx:ka h.carts (b::bs):=yC (by rw[<-eq];exact g.fwd)
   have key:∀o∈b.outs,∀v,atS (aM (b9 h) h.af) o=some v->∃v,atS (aM (b9 h) h.af) b.name=some v:=λo m v e=>by
    have hm:=fP.mpr ⟨o,m,e⟩;rw[yW (og g).1 g.fwd b Ez,if_neg λz=>by rw[z] at hm;cases hm]
    exact⟨_,rfl⟩
   rcases g.hd b Ez with z|⟨o,z1,z2⟩
   ·exact key _ z _ (AB (og g).1 g.fwd)
   ·rcases fx.1 o z1 with y|y
    ·obtain⟨w,hw,rfl⟩:=p_.mp y;obtain⟨v,e⟩:=HM g ze w hw;exact key _ z1 v e
    ·exact absurd z2 (Ae g.fwd o y)
  ·exact HM g ze b hb
theorem ο:∀ns:List Int,ns.length<=63->∃S,y9 0 [.d (.lst (ns.map D.int))] ⟨[],[]⟩=some (.ok (.v (.d (.bl true))) S):=by
 intro ns _;obtain⟨h,g,sl,b0,b5,c4,eh⟩:=XZ ns;obtain⟨_,r0,r4⟩:=kD ns 14 0 4 (by decide) (by decide) (by decide)
 have hr:Pr jW [.d (bD ns),.d (.int 14),.d (.int 4)] _:=wy ns 14 4 (by decide) (by decide)
 obtain⟨_,t0,t21⟩:=kD ns 14 1 21 (by decide) (by decide) (by decide)
 have ho:Pr kf [.d (bD ns),.d (.int 14),.d (.int 21)] _:=wg ns 14 21 (by decide) (by decide)
 obtain⟨_,p0,p1⟩:=kD ns 15 0 (h.af.length:Int) (by decide) (by decide) (by omega)
 have hp:Pr jW [.d (bD ns),.d (.int 15),.d (.int (h.af.length:Int))] _:=wy ns 15 (h.af.length:Int) (by decide) (by omega)
 have tD:Pr jW [.d (bD ns),.d (.int 16),.d (.int 3)] _:=wy ns 16 3 (by decide) (by decide)
 generalize bL ns 14 0 4=r at *;generalize bL ns 14 1 21=t at *;generalize bL ns 15 0 (h.af.length:Int)=p at *;generalize bL ns 16 0 3=z at *;obtain⟨bt,hb,ab⟩:=We p0 p1;obtain⟨a4,hl⟩:=Wd (ns:=ns) (r:=r) g t0;have bb:sN ns (aF h) (h.af.map ao) (dS h.carts) r t p h.af.length h.carts.length bt a4:=⟨rfl,eh,hr,ZI (S:=⟨[],[]⟩) g,ho,E9 (by omega),hl,by rw[cz],hp,ab,by rw[cz]⟩
 have Qw:(h.af.map aq.name).contains bt.name=true:=nN.mpr (HK hb);have lb:=(g.lg bt hb).1;obtain⟨vh,Qm⟩:=HM g (pre:=[]) (bs:=h.af) rfl bt hb;by_cases hc:(((h.carts.length:Int) == 1)=true\/((h.carts.length:Int) == 1)=false/\(z == 0)=true)
 ·obtain⟨S2,un⟩:=Wb (r:=r) (nw:=t) (book:=[]) (s:=[]) (bt:=bt) (i:=0) (n:=vh) g sl AW ⟨hb,by omega,by omega,by rw[Qm,zL]⟩ r0 (by omega)
  exact ξ bb hc tD (ZJ g AW Qw rfl) un
 ·have EK:((h.carts.length:Int) == 1)=false:=by
   cases e:((h.carts.length:Int) == 1) with
   |true=>exact absurd (.inl e) hc
   |false=>rfl
  have hz2:(z == 0)=false:=by
   cases e:(z == 0) with
   |true=>exact absurd (.inr ⟨EK,e⟩) hc
   |false=>rfl
  have c0:=g.c0;have c1:(h.carts.length:Int)≠1:=by rw[beq_eq_false_iff_ne] at EK;exact EK
  obtain⟨_,o0,o1⟩:=kD ns 15 1 ((h.carts.length:Int) - 1) (by decide) (by decide) (by omega)
  have oZ:Pr kf [.d (bD ns),.d (.int 15),.d (.int ((h.carts.length:Int) - 1))] _:=wg ns 15 ((h.carts.length:Int) - 1) (by decide) (by omega)
  obtain⟨_,x0,x4⟩:=kD ns 16 1 4 (by decide) (by decide) (by decide)
  have hm:Pr kf [.d (bD ns),.d (.int 16),.d (.int 4)] _:=wg ns 16 4 (by decide) (by decide)
  generalize bL ns 15 1 ((h.carts.length:Int) - 1)=o at *;generalize bL ns 16 1 4=x at *;obtain⟨mo,Bh,m1,m7⟩:∃mo,eL [D.int (-1),.int 0,.int 1,.int 7] x=some (.int mo) /\ -1<=mo/\mo<=7:=by
   rcases(show x=0\/x=1\/x=2\/x=3 by omega) with e|e|e|e
   ·subst e;exact⟨_,rfl,by decide,by decide⟩
   ·subst e;exact⟨_,rfl,by decide,by decide⟩
   ·subst e;exact⟨_,rfl,by decide,by decide⟩
   ·subst e;exact⟨_,rfl,by decide,by decide⟩
  have su:=Ic (xs:=h.carts) (k:=1+o) (by omega) (by omega)
  have P':(h.carts.drop 1).contains (h.carts.getD (1+o).toNat "")=true:=by
   rw[nN];have oz:(1+o).toNat < h.carts.length:=by omega
   rw[uw,jR oz];show h.carts[(1+o).toNat]∈h.carts.drop 1;rw[List.mem_drop_iff_getElem];exact⟨(1+o).toNat - 1,by omega,by congr 1;omega⟩
  have JD:h.carts.getD (1+o).toNat ""∈h.carts:=List.mem_of_mem_drop (nN.mp P');generalize h.carts.getD (1+o).toNat ""=ct at *;have hw:=El (i:=0) g JD hb;have mk:∀(w:D) (cl:Int),0<=cl->P0 sf [.d (aF h),.d (pl bt.name 0),.d (.str ct)] (rd w)->zQ ns (aF h) (dS h.carts) r t h.carts.length ct bt.name w mo cl:=λw cl c hw=>⟨by rw[cz],EK,⟨z,tD,hz2⟩,⟨o,oZ,su⟩,hw,⟨x,hm,Bh⟩,V6 PV P' (eq_false (by omega)),ZK g AW PV v1 Qw rfl⟩
  have zA:ig h.af<=1000:=by omega
  have BC:∀cl,kl h ct t cl bt.name 0=false->∃S2,uG 0 [.d (.ref 0),.d (aF h),.d (.str "bag"),.d (.str (b9 h)),.d (.bl true)] (h1 (aF h) r t [(.inr "fly",.tup [.str "fly",.str ct,.int cl])] "bag" bt.name 0 (.str "fly") 0 [] [] [])=some (.ok (rd (.bl true)) S2):=λcl hcb=>⟨_,IE g zA AW ⟨hb,by omega,by omega,.inr ⟨_,ct,cl,rfl,JD,v1,.inr ⟨hcb,rfl,rfl⟩⟩,by rw[Qm,zL],.inl ⟨_,rfl⟩⟩⟩
  cases hv:atS (aM ct h.af) bt.name with
  |none=>
   rw[hv] at hw;obtain⟨S2,go⟩:=BC (if t+mo+0 > 0 then t+mo+0 else 0) (by unfold kl;rw[hv])
   exact IS bb (mk .az _ (by split <;> omega) hw) (λ_=>(og g).2) go (.inl ⟨rfl,rfl,rfl⟩)
  |some v=>
   rw[hv,E3,Ll] at hw;by_cases hle:t+v<=(if t+mo+v > 0 then t+mo+v else 0)
   ·have go:=IE (r:=r) (nw:=t) (book:=[(.inr "fly",.tup [.str "fly",.str ct,.int (if t+mo+v > 0 then t+mo+v else 0)])]) (fl:=.str "fly") (gn:=0) (s:=[]) (ct:=ct) (lt:=false) (bt:=bt) (i:=0) (n:=v) g zA AW ⟨hb,by omega,by omega,.inr ⟨_,ct,_,rfl,JD,v1,.inl ⟨fF.mpr ⟨v,hv,by rw[Ll];exact hle⟩,rfl,rfl⟩⟩,by rw[hv,zL],.inl ⟨_,rfl⟩⟩
    exact IS bb (mk (.int v) _ (by split <;> omega) hw) (λz=>by cases z) go (.inr ⟨v,rfl,rfl,.inl ⟨eq_true hle,rfl,rfl⟩⟩)
   ·obtain⟨S2,go⟩:=BC (if t+mo+v > 0 then t+mo+v else 0) (by
     rw[Lk];intro zz;obtain⟨v',e1,e2⟩:=fF.mp zz;rw[hv] at e1;cases e1;rw[Ll] at e2;exact hle e2)
    exact IS bb (mk (.int v) _ (by split <;> omega) hw) (λ_=>(og g).2) go (.inr ⟨v,rfl,rfl,.inr ⟨eq_false hle,rfl⟩⟩)
end
end Carry
namespace Carry
open PySem L2
variable{w:World}{K:PySem.W.Frag}{mg:Str->Option Value}{us:List Value}{h:Heap}{l:PySem.W.OpenLaw}
def pe(K:PySem.W.Frag):L2.Sp:=λvs H Q _=>∃(a:Addr) (ns:List Int),vs=[.ref a]/\dY K H a (ns.map V.int)/\ns.length<=63/\∀H',Q (.bl true) H'
theorem ZW{P:Program}{base:Heap}{t:dF}(T:Txt K mg t):aQ P w K mg base (cO P w) 9 t.mf t.l9 ["_law_script"] (pe K):=by
 exact XJ (Zy T 0) ο
theorem l8(h:us.length=1):∃a0,us=[a0]:=by
 obtain _|⟨a0,us⟩:=us
 ·cases h
 obtain _|⟨z,us⟩:=us
 ·exact⟨a0,rfl⟩
 ·simp at h
theorem nU(h:us.length=2):∃a0 a1,us=[a0,a1]:=by
 obtain _|⟨a0,us⟩:=us
 ·cases h
 obtain _|⟨a1,us⟩:=us
 ·cases h
 obtain _|⟨z,us⟩:=us
 ·exact⟨a0,a1,rfl⟩
 ·simp at h
theorem pM(h:us.length=3):∃a0 a1 a2,us=[a0,a1,a2]:=by
 obtain _|⟨a0,us⟩:=us
 ·cases h
 obtain _|⟨a1,us⟩:=us
 ·cases h
 obtain _|⟨a2,us⟩:=us
 ·cases h
 obtain _|⟨z,us⟩:=us
 ·exact⟨a0,a1,a2,rfl⟩
 ·simp at h
theorem wN(h:us.length=4):∃a0 a1 a2 a3,us=[a0,a1,a2,a3]:=by
 obtain _|⟨a0,us⟩:=us
 ·cases h
 obtain _|⟨a1,us⟩:=us
 ·cases h
 obtain _|⟨a2,us⟩:=us
 ·cases h
 obtain _|⟨a3,us⟩:=us
 ·cases h
 obtain _|⟨z,us⟩:=us
 ·exact⟨a0,a1,a2,a3,rfl⟩
 ·simp at h
theorem K1(h:us.length=5):∃a0 a1 a2 a3 a4,us=[a0,a1,a2,a3,a4]:=by
 obtain _|⟨a0,us⟩:=us
 ·cases h
 obtain _|⟨a1,us⟩:=us
 ·cases h
 obtain _|⟨a2,us⟩:=us
 ·cases h
 obtain _|⟨a3,us⟩:=us
 ·cases h
 obtain _|⟨a4,us⟩:=us
 ·cases h
 obtain _|⟨z,us⟩:=us
 ·exact⟨a0,a1,a2,a3,a4,rfl⟩
 ·simp at h
abbrev jz(K:PySem.W.Frag)(n:Str)(C:Addr):Prop:=PySem.W.nsIn K mainGlobals n=some (some (.ref C))/\lH K C (.ref 31::qm) none/\PySem.W.keepIn K (.ref C)=true
theorem errs_mk(X:K.In h)(G:h.Ns mainGlobals mg)(h0:jz K "NoName" 44)(h1:jz K "NoSize" 56)(h2:jz K "NoOut" 68)(h3:jz K "NoHand" 80)(h4:jz K "NoMoment" 92)(h5:jz K "NoFlight" 104)(h6:jz K "NoBelt" 116)(h7:jz K "NoRoom" 128)(h8:jz K "NoBag" 140)(GB:lH K 31 qm none)(hB:PySem.W.nsIn K mainGlobals "CarryError"=some (some (.ref 31))):pD K mg Eh 31:=by
 refine⟨λp hp=>?_,GB,PySem.W.mg_of X G hB⟩
 simp only[Eh,fV,zG,or_false] at hp;rcases hp with rfl|rfl|rfl|rfl|rfl|rfl|rfl|rfl|rfl
 ·exact⟨PySem.W.mg_of X G h0.1,h0.2⟩
 ·exact⟨PySem.W.mg_of X G h1.1,h1.2⟩
 ·exact⟨PySem.W.mg_of X G h2.1,h2.2⟩
 ·exact⟨PySem.W.mg_of X G h3.1,h3.2⟩
 ·exact⟨PySem.W.mg_of X G h4.1,h4.2⟩
 ·exact⟨PySem.W.mg_of X G h5.1,h5.2⟩
 ·exact⟨PySem.W.mg_of X G h6.1,h6.2⟩
 ·exact⟨PySem.W.mg_of X G h7.1,h7.2⟩
 ·exact⟨PySem.W.mg_of X G h8.1,h8.2⟩
theorem all_mk{fa fm cH cG cF dz c9 c8 cZ fD fj md gG ma gR c7 eG jZ bN bG b8 gH bM gI fq gQ fA fB gM gP fy gK gL bZ bY eF mf eU dm ib bj bH bo eD dr dq cV cX fL ia fM eE cT cU cx fO cW cy:Addr}{gu df de dc eS dP dO dM gE gm nD iJ nC iU dN fK k9 cC bX cS iK cB iO gv iT gz gA iR iS gw iP iQ cR cQ fJ l9 gq fG jJ bV cP bW gp fI fH eP eR iL jI iM gr eM eO dQ iN eQ dR:FuncData}(X:K.In h)(G:h.Ns mainGlobals mg)(hfa:mg "law"=some (.ref fa))
  (a0:PySem.W.nsIn K mainGlobals "is_name"=some (some (.ref fm)))
  (a1:PySem.W.nsIn K mainGlobals "right_house"=some (some (.ref cH)))
  (a2:PySem.W.nsIn K mainGlobals "check_carts"=some (some (.ref cG)))
  (a3:PySem.W.nsIn K mainGlobals "check_belts"=some (some (.ref cF)))
  (a4:PySem.W.nsIn K mainGlobals "take_name"=some (some (.ref dz)))
  (a5:PySem.W.nsIn K mainGlobals "check_outs"=some (some (.ref c9)))
  (a6:PySem.W.nsIn K mainGlobals "check_hand"=some (some (.ref c8)))
  (a7:PySem.W.nsIn K mainGlobals "belt_names"=some (some (.ref cZ)))
  (a8:PySem.W.nsIn K mainGlobals "reached"=some (some (.ref fD)))
  (a9:PySem.W.nsIn K mainGlobals "belt_of"=some (some (.ref fj)))
  (a10:PySem.W.nsIn K mainGlobals "far"=some (some (.ref md)))
  (a11:PySem.W.nsIn K mainGlobals "begins"=some (some (.ref gG)))
  (a12:PySem.W.nsIn K mainGlobals "arm"=some (some (.ref ma)))
  (a13:PySem.W.nsIn K mainGlobals "wanted"=some (some (.ref gR)))
  (a14:PySem.W.nsIn K mainGlobals "busy_belts"=some (some (.ref c7)))
  (a15:PySem.W.nsIn K mainGlobals "off_belt"=some (some (.ref eG)))
  (a16:PySem.W.nsIn K mainGlobals "turn"=some (some (.ref jZ)))
  (a17:PySem.W.nsIn K mainGlobals "stand_stopped"=some (some (.ref bN)))
  (a18:PySem.W.nsIn K mainGlobals "stand_yielding"=some (some (.ref bG)))
  (a19:PySem.W.nsIn K mainGlobals "stand_behind"=some (some (.ref b8)))
  (a20:PySem.W.nsIn K mainGlobals "copied"=some (some (.ref gH)))
  (a21:PySem.W.nsIn K mainGlobals "check_closing"=some (some (.ref bM)))
  (a22:PySem.W.nsIn K mainGlobals "_law_cell"=some (some (.ref gI)))
  (a23:PySem.W.nsIn K mainGlobals "_law_digit"=some (some (.ref fq)))
  (a24:PySem.W.nsIn K mainGlobals "_law_pick"=some (some (.ref gQ)))
  (a25:PySem.W.nsIn K mainGlobals "_law_other"=some (some (.ref fA)))
  (a26:PySem.W.nsIn K mainGlobals "_law_third"=some (some (.ref fB)))
  (a27:PySem.W.nsIn K mainGlobals "_law_name"=some (some (.ref gM)))
  (a28:PySem.W.nsIn K mainGlobals "_law_outs"=some (some (.ref gP)))
  (a29:PySem.W.nsIn K mainGlobals "_law_house"=some (some (.ref fy)))
  (a30:PySem.W.nsIn K mainGlobals "_law_fars"=some (some (.ref gK)))
  (a31:PySem.W.nsIn K mainGlobals "_law_left"=some (some (.ref gL)))
  (a32:PySem.W.nsIn K mainGlobals "_law_goes_there"=some (some (.ref bZ)))
  (a33:PySem.W.nsIn K mainGlobals "_law_first_ring"=some (some (.ref bY)))
  (a34:PySem.W.nsIn K mainGlobals "_law_unread"=some (some (.ref eF)))
  (a35:PySem.W.nsIn K mainGlobals "law"=some (some (.ref mf)))
  (a36:PySem.W.findIn K (.ref 452) "__init__"=some (some (.ref eU))) (n36:PySem.W.isFn K (.ref eU)=true)
  (a37:PySem.W.findIn K (.ref 452) "flight"=some (some (.ref dm))) (n37:PySem.W.isFn K (.ref dm)=true)
  (a38:PySem.W.findIn K (.ref 452) "put"=some (some (.ref ib))) (n38:PySem.W.isFn K (.ref ib)=true)
  (a39:PySem.W.findIn K (.ref 452) "check_flight"=some (some (.ref bj))) (n39:PySem.W.isFn K (.ref bj)=true)
  (a40:PySem.W.findIn K (.ref 452) "check_belt"=some (some (.ref bH))) (n40:PySem.W.isFn K (.ref bH)=true)
  (a41:PySem.W.findIn K (.ref 452) "check_inside"=some (some (.ref bo))) (n41:PySem.W.isFn K (.ref bo)=true)
  (a42:PySem.W.findIn K (.ref 452) "house"=some (some (.ref eD))) (n42:PySem.W.isFn K (.ref eD)=true)
  (a43:PySem.W.findIn K (.ref 452) "rounds"=some (some (.ref dr))) (n43:PySem.W.isFn K (.ref dr)=true)
  (a44:PySem.W.findIn K (.ref 452) "moment"=some (some (.ref dq))) (n44:PySem.W.isFn K (.ref dq)=true)
  (a45:PySem.W.findIn K (.ref 452) "flights"=some (some (.ref cV))) (n45:PySem.W.isFn K (.ref cV)=true)
  (a46:PySem.W.findIn K (.ref 452) "stopped"=some (some (.ref cX))) (n46:PySem.W.isFn K (.ref cX)=true)
  (a47:PySem.W.findIn K (.ref 452) "bags"=some (some (.ref fL))) (n47:PySem.W.isFn K (.ref fL)=true)
  (a48:PySem.W.findIn K (.ref 452) "out"=some (some (.ref ia))) (n48:PySem.W.isFn K (.ref ia)=true)
  (a49:PySem.W.findIn K (.ref 452) "late"=some (some (.ref fM))) (n49:PySem.W.isFn K (.ref fM)=true)
  (a50:PySem.W.findIn K (.ref 452) "where"=some (some (.ref eE))) (n50:PySem.W.isFn K (.ref eE)=true)
  (a51:PySem.W.findIn K (.ref 452) "cart_of"=some (some (.ref cT))) (n51:PySem.W.isFn K (.ref cT)=true)
  (a52:PySem.W.findIn K (.ref 452) "catches"=some (some (.ref cU))) (n52:PySem.W.isFn K (.ref cU)=true)
  (a53:PySem.W.findIn K (.ref 452) "in_order"=some (some (.ref cx))) (n53:PySem.W.isFn K (.ref cx)=true)
  (a54:PySem.W.findIn K (.ref 452) "move"=some (some (.ref fO))) (n54:PySem.W.isFn K (.ref fO)=true)
  (a55:PySem.W.findIn K (.ref 452) "move_on"=some (some (.ref cW))) (n55:PySem.W.isFn K (.ref cW)=true)
  (a56:PySem.W.findIn K (.ref 452) "move_out"=some (some (.ref cy))) (n56:PySem.W.isFn K (.ref cy)=true)
  (F0:dh K "is_name" "is_name" G3 fm gu)
  (F1:dh K "right_house" "right_house" FL cH df)
  (F2:dh K "check_carts" "check_carts" FN cG de)
  (F3:dh K "check_belts" "check_belts" FO cF dc)
  (F4:dh K "take_name" "take_name" Gb dz eS)
  (F5:dh K "check_outs" "check_outs" FR c9 dP)
  (F6:dh K "check_hand" "check_hand" FT c8 dO)
  (F7:dh K "belt_names" "belt_names" FU cZ dM)
  (F8:dh K "reached" "reached" G4 fD gE)
  (F9:dh K "belt_of" "belt_of" G5 fj gm)
  (F10:dh K "far" "far" IL md nD)
  (F11:dh K "begins" "begins" Hl gG iJ)
  (F12:dh K "arm" "arm" IM ma nC)
  (F13:dh K "wanted" "wanted" Hm gR iU)
  (F14:dh K "busy_belts" "busy_belts" FV c7 dN)
  (F15:dh K "off_belt" "off_belt" Gy eG fK)
  (F16:dh K "turn" "turn" Iv jZ k9)
  (F17:dh K "stand_stopped" "stand_stopped" Fx bN cC)
  (F18:dh K "stand_yielding" "stand_yielding" Fs bG bX)
  (F19:dh K "stand_behind" "stand_behind" FC b8 cS)
  (F20:dh K "copied" "copied" Ho gH iK)
  (F21:dh K "check_closing" "check_closing" Fy bM cB)
  (F22:dh K "_law_cell" "_law_cell" Hq gI iO)
  (F23:dh K "_law_digit" "_law_digit" G6 fq gv)
  (F24:dh K "_law_pick" "_law_pick" Hr gQ iT)
  (F25:dh K "_law_other" "_law_other" G7 fA gz)
  (F26:dh K "_law_third" "_law_third" G8 fB gA)
  (F27:dh K "_law_name" "_law_name" Ht gM iR)
  (F28:dh K "_law_outs" "_law_outs" Hu gP iS)
  (F29:dh K "_law_house" "_law_house" G9 fy gw)
  (F30:dh K "_law_fars" "_law_fars" Hv gK iP)
  (F31:dh K "_law_left" "_law_left" Hw gL iQ)
  (F32:dh K "_law_goes_there" "_law_goes_there" FD bZ cR)
  (F33:dh K "_law_first_ring" "_law_first_ring" FE bY cQ)
  (F34:dh K "_law_unread" "_law_unread" Gz eF fJ)
  (F35:dh K "law" "law" IP mf l9)
  (F36:dh K "__init__" "Hall.__init__" Hx eU gq)
  (F37:dh K "flight" "Hall.flight" GC dm fG)
  (F38:dh K "put" "Hall.put" H9 ib jJ)
  (F39:dh K "check_flight" "Hall.check_flight" Ft bj bV)
  (F40:dh K "check_belt" "Hall.check_belt" FF bH cP)
  (F41:dh K "check_inside" "Hall.check_inside" Fu bo bW)
  (F42:dh K "house" "Hall.house" G_ eD gp)
  (F43:dh K "rounds" "Hall.rounds" GD dr fI)
  (F44:dh K "moment" "Hall.moment" GF dq fH)
  (F45:dh K "flights" "Hall.flights" Gd cV eP)
  (F46:dh K "stopped" "Hall.stopped" Ge cX eR)
  (F47:dh K "bags" "Hall.bags" Hy fL iL)
  (F48:dh K "out" "Hall.out" H_ ia jI)
  (F49:dh K "late" "Hall.late" Hz fM iM)
  (F50:dh K "where" "Hall.where" G' eE gr)
  (F51:dh K "cart_of" "Hall.cart_of" Gf cT eM)
  (F52:dh K "catches" "Hall.catches" Gg cU eO)
  (F53:dh K "in_order" "Hall.in_order" FW cx dQ)
  (F54:dh K "move" "Hall.move" HA fO iN)
  (F55:dh K "move_on" "Hall.move_on" Gh cW eQ)
  (F56:dh K "move_out" "Hall.move_out" FX cy dR)
  (hc_Hall:nO K 452) (hm_Hall:PySem.W.makesIn K 452=true) (hk_Hall:PySem.W.keepIn K (.ref 452)=true) (hg_Hall:PySem.W.nsIn K mainGlobals "Hall"=some (some (.ref 452)))
  (t0:PySem.W.findIn K (.ref 452) "built"=some none)
  (t1:PySem.W.findIn K (.ref 452) "told_rounds"=some none)
  (t2:PySem.W.findIn K (.ref 452) "now"=some none)
  (t3:PySem.W.findIn K (.ref 452) "book"=some none)
  (t4:PySem.W.findIn K (.ref 452) "halts"=some none)
  (t5:PySem.W.findIn K (.ref 452) "places"=some none)
  (t6:PySem.W.findIn K (.ref 452) "readings"=some none)
  (t7:PySem.W.findIn K (.ref 452) "rounded"=some none)
  (t8:PySem.W.findIn K (.ref 452) "gone"=some none)
  (t9:PySem.W.findIn K (.ref 452) "carted"=some none)
  (er:pD K mg Eh 31)
  (z_len:PySem.W.nsIn K mainGlobals "len"=some none)
  (z_isinstance:PySem.W.nsIn K mainGlobals "isinstance"=some none)
  (z_int:PySem.W.nsIn K mainGlobals "int"=some none)
  (z_bool:PySem.W.nsIn K mainGlobals "bool"=some none)
  (z_str:PySem.W.nsIn K mainGlobals "str"=some none)
  (z_list:PySem.W.nsIn K mainGlobals "list"=some none)
  (z_tuple:PySem.W.nsIn K mainGlobals "tuple"=some none)
  (z_range:PySem.W.nsIn K mainGlobals "range"=some none)
  (z_enumerate:PySem.W.nsIn K mainGlobals "enumerate"=some none)
  (z_reversed:PySem.W.nsIn K mainGlobals "reversed"=some none)
  (z_all:PySem.W.nsIn K mainGlobals "all"=some none)
  (z_sorted:PySem.W.nsIn K mainGlobals "sorted"=some none)
  (z_dict:PySem.W.nsIn K mainGlobals "dict"=some none)
  (z_min:PySem.W.nsIn K mainGlobals "min"=some none)
  (z_max:PySem.W.nsIn K mainGlobals "max"=some none)
  {p6:Tok} (y_LETTERS:PySem.W.nsIn K mainGlobals "LETTERS"=some (some (.str "abcdefghijklmnopqrstuvwxyz" p6)))
  {lB:Tok} (y_MOST_LETTERS:PySem.W.nsIn K mainGlobals "MOST_LETTERS"=some (some (.int 8 lB)))
  : ∃fd:FuncData,(∀(s:Shared) (v:Value),BindsTo s fd ⟨[v],[]⟩ [("_law_script",v)])/\∀base:Heap,K.In base->base.Ns mainGlobals mg->aQ l.prog w K mg base (cO l.prog w) 9 fa fd ["_law_script"] (pe K):=by
 have e:=hfa.symm.trans (PySem.W.mg_of X G a35);cases e;have T:Txt K mg ⟨fm,gu,cH,df,cG,de,cF,dc,dz,eS,c9,dP,c8,dO,cZ,dM,fD,gE,fj,gm,md,nD,gG,iJ,ma,nC,gR,iU,c7,dN,eG,fK,jZ,k9,bN,cC,bG,bX,b8,cS,gH,iK,bM,cB,gI,iO,fq,gv,gQ,iT,fA,gz,fB,gA,gM,iR,gP,iS,fy,gw,gK,iP,gL,iQ,bZ,cR,bY,cQ,eF,fJ,fa,l9,eU,gq,dm,fG,ib,jJ,bj,bV,bH,cP,bo,bW,eD,gp,dr,fI,dq,fH,cV,eP,cX,eR,fL,iL,ia,jI,fM,iM,eE,gr,cT,eM,cU,eO,cx,dQ,fO,iN,cW,eQ,cy,dR⟩:=⟨⟨F0,PySem.W.mg_of X G a0,F0.binds λ_ _ _ _ _ _ us hl=>by obtain⟨_,rfl⟩:=l8 hl;rfl⟩,⟨F1,PySem.W.mg_of X G a1,F1.binds λ_ _ _ _ _ _ us hl=>by obtain⟨_,rfl⟩:=l8 hl;rfl⟩,⟨F2,PySem.W.mg_of X G a2,F2.binds λ_ _ _ _ _ _ us hl=>by obtain⟨_,_,rfl⟩:=nU hl;rfl⟩,⟨F3,PySem.W.mg_of X G a3,F3.binds λ_ _ _ _ _ _ us hl=>by obtain⟨_,_,rfl⟩:=nU hl;rfl⟩,⟨F4,PySem.W.mg_of X G a4,F4.binds λ_ _ _ _ _ _ us hl=>by obtain⟨_,_,rfl⟩:=nU hl;rfl⟩,⟨F5,PySem.W.mg_of X G a5,F5.binds λ_ _ _ _ _ _ us hl=>by obtain⟨_,_,rfl⟩:=nU hl;rfl⟩,⟨F6,PySem.W.mg_of X G a6,F6.binds λ_ _ _ _ _ _ us hl=>by obtain⟨_,rfl⟩:=l8 hl;rfl⟩,⟨F7,PySem.W.mg_of X G a7,F7.binds λ_ _ _ _ _ _ us hl=>by obtain⟨_,rfl⟩:=l8 hl;rfl⟩,⟨F8,PySem.W.mg_of X G a8,F8.binds λ_ _ _ _ _ _ us hl=>by obtain⟨_,_,rfl⟩:=nU hl;rfl⟩,⟨F9,PySem.W.mg_of X G a9,F9.binds λ_ _ _ _ _ _ us hl=>by obtain⟨_,_,rfl⟩:=nU hl;rfl⟩,⟨F10,PySem.W.mg_of X G a10,F10.binds λ_ _ _ _ _ _ us hl=>by obtain⟨_,_,_,rfl⟩:=pM hl;rfl⟩,⟨F11,PySem.W.mg_of X G a11,F11.binds λ_ _ _ _ _ _ us hl=>by obtain⟨_,_,rfl⟩:=nU hl;rfl⟩,⟨F12,PySem.W.mg_of X G a12,F12.binds λ_ _ _ _ _ _ us hl=>by obtain⟨_,_,_,rfl⟩:=pM hl;rfl⟩,⟨F13,PySem.W.mg_of X G a13,F13.binds λ_ _ _ _ _ _ us hl=>by obtain⟨_,rfl⟩:=l8 hl;rfl⟩,⟨F14,PySem.W.mg_of X G a14,F14.binds λ_ _ _ _ _ _ us hl=>by obtain⟨_,rfl⟩:=l8 hl;rfl⟩,⟨F15,PySem.W.mg_of X G a15,F15.binds λ_ _ _ _ _ _ us hl=>by obtain⟨_,_,_,_,rfl⟩:=wN hl;rfl⟩,⟨F16,PySem.W.mg_of X G a16,F16.binds λ_ _ _ _ _ _ us hl=>by obtain⟨_,rfl⟩:=l8 hl;rfl⟩,⟨F17,PySem.W.mg_of X G a17,F17.binds λ_ _ _ _ _ _ us hl=>by obtain⟨_,_,_,_,rfl⟩:=wN hl;rfl⟩,⟨F18,PySem.W.mg_of X G a18,F18.binds λ_ _ _ _ _ _ us hl=>by obtain⟨_,_,_,rfl⟩:=pM hl;rfl⟩,⟨F19,PySem.W.mg_of X G a19,F19.binds λ_ _ _ _ _ _ us hl=>by obtain⟨_,_,_,rfl⟩:=pM hl;rfl⟩,⟨F20,PySem.W.mg_of X G a20,F20.binds λ_ _ _ _ _ _ us hl=>by obtain⟨_,rfl⟩:=l8 hl;rfl⟩,⟨F21,PySem.W.mg_of X G a21,F21.binds λ_ _ _ _ _ _ us hl=>by obtain⟨_,rfl⟩:=l8 hl;rfl⟩,⟨F22,PySem.W.mg_of X G a22,F22.binds λ_ _ _ _ _ _ us hl=>by obtain⟨_,_,rfl⟩:=nU hl;rfl⟩,⟨F23,PySem.W.mg_of X G a23,F23.binds λ_ _ _ _ _ _ us hl=>by obtain⟨_,_,_,_,rfl⟩:=wN hl;rfl⟩,⟨F24,PySem.W.mg_of X G a24,F24.binds λ_ _ _ _ _ _ us hl=>by obtain⟨_,_,_,rfl⟩:=pM hl;rfl⟩,⟨F25,PySem.W.mg_of X G a25,F25.binds λ_ _ _ _ _ _ us hl=>by obtain⟨_,_,_,rfl⟩:=pM hl;rfl⟩,⟨F26,PySem.W.mg_of X G a26,F26.binds λ_ _ _ _ _ _ us hl=>by obtain⟨_,_,_,rfl⟩:=pM hl;rfl⟩,⟨F27,PySem.W.mg_of X G a27,F27.binds λ_ _ _ _ _ _ us hl=>by obtain⟨_,_,_,rfl⟩:=pM hl;rfl⟩,⟨F28,PySem.W.mg_of X G a28,F28.binds λ_ _ _ _ _ _ us hl=>by obtain⟨_,_,_,_,rfl⟩:=wN hl;rfl⟩,⟨F29,PySem.W.mg_of X G a29,F29.binds λ_ _ _ _ _ _ us hl=>by obtain⟨_,rfl⟩:=l8 hl;rfl⟩,⟨F30,PySem.W.mg_of X G a30,F30.binds λ_ _ _ _ _ _ us hl=>by obtain⟨_,_,rfl⟩:=nU hl;rfl⟩,⟨F31,PySem.W.mg_of X G a31,F31.binds λ_ _ _ _ _ _ us hl=>by obtain⟨_,_,_,rfl⟩:=pM hl;rfl⟩,⟨F32,PySem.W.mg_of X G a32,F32.binds λ_ _ _ _ _ _ us hl=>by obtain⟨_,_,_,_,_,rfl⟩:=K1 hl;rfl⟩,⟨F33,PySem.W.mg_of X G a33,F33.binds λ_ _ _ _ _ _ us hl=>by obtain⟨_,_,_,rfl⟩:=pM hl;rfl⟩,⟨F34,PySem.W.mg_of X G a34,F34.binds λ_ _ _ _ _ _ us hl=>by obtain⟨_,_,_,_,rfl⟩:=wN hl;rfl⟩,⟨F35,PySem.W.mg_of X G a35,F35.binds λ_ _ _ _ _ _ us hl=>by obtain⟨_,rfl⟩:=l8 hl;rfl⟩,F36,F36.binds λ_ _ _ _ _ _ us hl=>by obtain⟨_,_,_,rfl⟩:=pM hl;rfl,⟨F37,⟨a37,n37,F37.kp⟩,F37.binds λ_ _ _ _ _ _ us hl=>by obtain⟨_,_,_,_,rfl⟩:=wN hl;rfl⟩,⟨F38,⟨a38,n38,F38.kp⟩,F38.binds λ_ _ _ _ _ _ us hl=>by obtain⟨_,_,_,_,rfl⟩:=wN hl;rfl⟩,⟨F39,⟨a39,n39,F39.kp⟩,F39.binds λ_ _ _ _ _ _ us hl=>by obtain⟨_,_,rfl⟩:=nU hl;rfl⟩,⟨F40,⟨a40,n40,F40.kp⟩,F40.binds λ_ _ _ _ _ _ us hl=>by obtain⟨_,_,rfl⟩:=nU hl;rfl⟩,⟨F41,⟨a41,n41,F41.kp⟩,F41.binds λ_ _ _ _ _ _ us hl=>by obtain⟨_,_,rfl⟩:=nU hl;rfl⟩,⟨F42,⟨a42,n42,F42.kp⟩,F42.binds λ_ _ _ _ _ _ us hl=>by obtain⟨_,rfl⟩:=l8 hl;rfl⟩,⟨F43,⟨a43,n43,F43.kp⟩,F43.binds λ_ _ _ _ _ _ us hl=>by obtain⟨_,rfl⟩:=l8 hl;rfl⟩,⟨F44,⟨a44,n44,F44.kp⟩,F44.binds λ_ _ _ _ _ _ us hl=>by obtain⟨_,rfl⟩:=l8 hl;rfl⟩,⟨F45,⟨a45,n45,F45.kp⟩,F45.binds λ_ _ _ _ _ _ us hl=>by obtain⟨_,rfl⟩:=l8 hl;rfl⟩,⟨F46,⟨a46,n46,F46.kp⟩,F46.binds λ_ _ _ _ _ _ us hl=>by obtain⟨_,rfl⟩:=l8 hl;rfl⟩,⟨F47,⟨a47,n47,F47.kp⟩,F47.binds λ_ _ _ _ _ _ us hl=>by obtain⟨_,rfl⟩:=l8 hl;rfl⟩,⟨F48,⟨a48,n48,F48.kp⟩,F48.binds λ_ _ _ _ _ _ us hl=>by obtain⟨_,rfl⟩:=l8 hl;rfl⟩,⟨F49,⟨a49,n49,F49.kp⟩,F49.binds λ_ _ _ _ _ _ us hl=>by obtain⟨_,rfl⟩:=l8 hl;rfl⟩,⟨F50,⟨a50,n50,F50.kp⟩,F50.binds λ_ _ _ _ _ _ us hl=>by obtain⟨_,_,rfl⟩:=nU hl;rfl⟩,⟨F51,⟨a51,n51,F51.kp⟩,F51.binds λ_ _ _ _ _ _ us hl=>by obtain⟨_,_,rfl⟩:=nU hl;rfl⟩,⟨F52,⟨a52,n52,F52.kp⟩,F52.binds λ_ _ _ _ _ _ us hl=>by obtain⟨_,_,rfl⟩:=nU hl;rfl⟩,⟨F53,⟨a53,n53,F53.kp⟩,F53.binds λ_ _ _ _ _ _ us hl=>by obtain⟨_,rfl⟩:=l8 hl;rfl⟩,⟨F54,⟨a54,n54,F54.kp⟩,F54.binds λ_ _ _ _ _ _ us hl=>by obtain⟨_,_,rfl⟩:=nU hl;rfl⟩,⟨F55,⟨a55,n55,F55.kp⟩,F55.binds λ_ _ _ _ _ _ us hl=>by obtain⟨_,_,_,rfl⟩:=pM hl;rfl⟩,⟨F56,⟨a56,n56,F56.kp⟩,F56.binds λ_ _ _ _ _ _ us hl=>by obtain⟨_,_,_,rfl⟩:=pM hl;rfl⟩,hc_Hall,⟨hm_Hall,a36,n36,hk_Hall⟩,PySem.W.mg_of X G hg_Hall,(by
  intro p hp;simp only[aT,fV,zG,or_false] at hp;rcases hp with rfl|rfl|rfl|rfl|rfl|rfl|rfl|rfl|rfl|rfl
  ·exact⟨hc_Hall,t0⟩
  ·exact⟨hc_Hall,t1⟩
  ·exact⟨hc_Hall,t2⟩
  ·exact⟨hc_Hall,t3⟩
  ·exact⟨hc_Hall,t4⟩
  ·exact⟨hc_Hall,t5⟩
  ·exact⟨hc_Hall,t6⟩
  ·exact⟨hc_Hall,t7⟩
  ·exact⟨hc_Hall,t8⟩
  ·exact⟨hc_Hall,t9⟩),er,PySem.W.mg_none_of X G z_len,PySem.W.mg_none_of X G z_isinstance,PySem.W.mg_none_of X G z_int,PySem.W.mg_none_of X G z_bool,PySem.W.mg_none_of X G z_str,PySem.W.mg_none_of X G z_list,PySem.W.mg_none_of X G z_tuple,PySem.W.mg_none_of X G z_range,PySem.W.mg_none_of X G z_enumerate,PySem.W.mg_none_of X G z_reversed,PySem.W.mg_none_of X G z_all,PySem.W.mg_none_of X G z_sorted,PySem.W.mg_none_of X G z_dict,PySem.W.mg_none_of X G z_min,PySem.W.mg_none_of X G z_max,⟨_,PySem.W.mg_of X G y_LETTERS⟩,⟨_,PySem.W.mg_of X G y_MOST_LETTERS⟩⟩
 obtain⟨oc,od,kV,doc,pm,an,ck,ct,sD,rfl,_,_⟩:=F35.ex;exact⟨_,λs v=>.of_eq rfl,λbase _ _=>ZW T⟩
theorem walk{q:Program}{loose:List Str}{XP:(Str->Option Value)->Heap->Prop}{YP:World->Heap->Prop}{d:DefRec}{K:Params->PySem.W.Frag}(hn:l.most=some 63)(Bd:d.params.defaults=[])
  (hY:∀(w:World) (h:Heap),YP w h->(K w.params).In h)
  (F:∀(w:World) (mg:Str->Option Value) (fa:Addr) (h:Heap),(K w.params).In h->h.Ns mainGlobals mg->mg d.name=some (.ref fa)->
   ∃fd:FuncData,(∀(s:Shared) (u:Value),BindsTo s fd ⟨[u],[]⟩ [("_law_script",u)])/\∀base:Heap,(K w.params).In base->base.Ns mainGlobals mg->aQ l.prog w (K w.params) mg base (cO l.prog w) 9 fa fd ["_law_script"] (pe (K w.params))) :
  PySem.W.WalkO q loose XP YP l.row.toRowW d [] (λf vs=>PySem.call f vs):=
 L2.uj (n:=63) (k:=9) (x:="_law_script") (CX:=λw=>cO l.prog w) (sp:=λw=>pe (K w.params)) hn (by decide) Bd ⟨rfl,by decide,by decide⟩ hY F (λ_ _ a ns hl _ hS=>⟨a,ns,rfl,hS,hl,λ_=>rfl⟩) λ_ _ _ _ _ ⟨_,_,_,_,_,_,z⟩=>z
end Carry
end
open PySem PySem.W PyProof.Rows
set_option maxRecDepth 100000 in
set_option maxHeartbeats 0 in
theorem PySem.Challenge.cw_carry_k70_whole_a_bag_alone_holds : PySem.Challenge.rw_carry_k70_whole_a_bag_alone.Holds := by
 simp -failIfUnchanged only[Carry.Hd.hd0];w_on;o_law;(try simp only[Carry.Hd.hd]);k_head;(case hw=>w_witness2)
 k_fill
 refine Carry.walk (l:=PySem.Challenge.rw_carry_k70_whole_a_bag_alone) rfl rfl (λw h Y=>PySem.W.kIn_of Y) ?F
 case F=>
  intro w mg fa h KX G hmg;refine' Carry.all_mk KX G hmg ?a0 ?a1 ?a2 ?a3 ?a4 ?a5 ?a6 ?a7 ?a8 ?a9 ?a10 ?a11 ?a12 ?a13 ?a14 ?a15 ?a16 ?a17 ?a18 ?a19 ?a20 ?a21 ?a22 ?a23 ?a24 ?a25 ?a26 ?a27 ?a28 ?a29 ?a30 ?a31 ?a32 ?a33 ?a34 ?a35 ?a36 ?n36 ?a37 ?n37 ?a38 ?n38 ?a39 ?n39 ?a40 ?n40 ?a41 ?n41 ?a42 ?n42 ?a43 ?n43 ?a44 ?n44 ?a45 ?n45 ?a46 ?n46 ?a47 ?n47 ?a48 ?n48 ?a49 ?n49 ?a50 ?n50 ?a51 ?n51 ?a52 ?n52 ?a53 ?n53 ?a54 ?n54 ?a55 ?n55 ?a56 ?n56 ?F0 ?F1 ?F2 ?F3 ?F4 ?F5 ?F6 ?F7 ?F8 ?F9 ?F10 ?F11 ?F12 ?F13 ?F14 ?F15 ?F16 ?F17 ?F18 ?F19 ?F20 ?F21 ?F22 ?F23 ?F24 ?F25 ?F26 ?F27 ?F28 ?F29 ?F30 ?F31 ?F32 ?F33 ?F34 ?F35 ?F36 ?F37 ?F38 ?F39 ?F40 ?F41 ?F42 ?F43 ?F44 ?F45 ?F46 ?F47 ?F48 ?F49 ?F50 ?F51 ?F52 ?F53 ?F54 ?F55 ?F56 ?hc_Hall ?hm_Hall ?hk_Hall ?hg_Hall ?t0 ?t1 ?t2 ?t3 ?t4 ?t5 ?t6 ?t7 ?t8 ?t9 ?er ?z_len ?z_isinstance ?z_int ?z_bool ?z_str ?z_list ?z_tuple ?z_range ?z_enumerate ?z_reversed ?z_all ?z_sorted ?z_dict ?z_min ?z_max ?y_LETTERS ?y_MOST_LETTERS
  case hc_Hall=>exact⟨by k_is,by k_is,by k_is,by k_is⟩
  case er=>
   refine' Carry.errs_mk KX G ?h0 ?h1 ?h2 ?h3 ?h4 ?h5 ?h6 ?h7 ?h8 ?GB ?hB
   all_goals first|(refine' ⟨?za,?zb,?zd⟩;(case zb=>refine' L2.errC_mk ?zl ?zm ?zs ?zi;(case zl=>k_is);(case zm=>k_is);(case zs=>kernel_rfl);(case zi=>kernel_rfl));(case za=>k_is);(case zd=>k_is))|(refine' L2.errC_mk ?zl ?zm ?zs ?zi;(case zl=>k_is);(case zm=>k_is);(case zs=>kernel_rfl);(case zi=>kernel_rfl))|k_is
  all_goals first|(refine' L2.fun_mk ?zl ?zc ?zk;(case zl=>k_is);(case zc=>k_is);(case zk=>k_is))|k_is|skip