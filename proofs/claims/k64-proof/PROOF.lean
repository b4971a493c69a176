import PyProof.Rows.All
import Wide.All
import OpenK.AllK
import Wide.FinOn
import Lean
import PyProof.EqAt
import PyProof.EqKinds
import PyProof.TupleCall
import PyProof.StationsW
import PyProof.NeKinds
import KE.KRevIter
import PyProof.SeqI3
import PyProof.ZipIter
import PyProof.EnumIter
import PyProof.EnumStmt
import PyProof.EnumMake
import PyProof.WalksEnum
import PyProof.ExcClass3
import PyProof.ExcInit
import PyProof.ExcBaseAll.ValueError
import PyProof.ExcArgsOwn
import KE.KIsAll
import PyProof.ExcAttrAll.ValueError
import PyProof.InstStoreFacts
import KE.KTryMore
import PyProof.RulesAs
import PyProof.NsDelKeeps
import KE.KDictList
import KE.KItemsList
import PyProof.Rows.SortShell
import KE.IntTextLaws
import KE.KIntText
import PyProof.MeetsSeq
import PyProof.SeqRoads2
import PyProof.Rows.SortRev
import PyProof.Rows.CallKwBuiltin
import KE.KSort
import PyProof.StrLawsChain
import PyProof.WalkInts
import KE.KDictOf
import PyProof.AttrMissHeap
import KE.KSortTup
import PyProof.Rows.SortWalk
import PySem.Challenge.RW_carry_k64_bags_moved
set_option linter.all false
set_option bootstrap.genMatcherCode false
set_option compiler.extract_closed false
set_option genSizeOf false
set_option genSizeOfSpec false
def bB:=@List.length_map.{0,0}
def cv:=@List.map_cons.{0,0}
def cP:=@Nat.le_refl
def cV:=@Option.bind_eq_some_iff.{0,0}
def dh:=@List.map_append.{0,0}
def dZ:=@List.mem_cons.{0}
def d_:=@List.append_nil.{0}
def eI:=@List.size_toArray.{0}
def fF:=@PySem.Heap.lt_size
def fG:=@List.append_assoc.{0}
def gK:=@List.length_append.{0}
def gL:=@List.mem_map.{0,0}
def hV:=@List.nodup_append.{0}
def iq:=@List.getElem?_eq_some_iff.{0}
def iz:=@List.getElem?_map.{0,0}
def iA:=@List.nil_append.{0}
def iK:=@PySem.Heap.get?_push_of_some
def i8:=@Nat.ne_of_lt
def i_:=@Nat.lt_of_lt_of_le
def ja:=@List.mem_append_right.{0}
def jw:=@List.mem_append.{0}
def jx:=@List.map_map.{0,0,0}
theorem jJ:type_of% @Option.bind_some.{0,0}:=λ_ _=>rfl
def jP:=@Option.map_eq_some_iff.{0,0}
theorem jV:type_of% @List.length_cons.{0}:=rfl
def jW:=@List.getElem?_eq_getElem.{0}
theorem jX:type_of% @Option.join_some.{0}:=rfl
def j7:=@List.nodup_cons.{0}
def kM:=@Bool.not_true
def kU:=@Bool.false_ne_true
def lu:=@List.mem_cons_of_mem.{0}
def lx:=@List.mem_append_left.{0}
def ly:=@List.sublist_append_right.{0}
def lQ:=@Nat.le_trans
def mF:=@List.mem_range
def mG:=@PySem.Heap.get?_push_size
def mE:=@Nat.zero_le
def nq:=@List.drop_zero.{0}
def nJ:=@List.length_take.{0}
def og:=@List.all_eq_true.{0}
def om:=@List.perm_append_comm.{0}
def oq:=@List.drop_succ_cons.{0}
def o8:=@Nat.lt_irrefl
theorem o9:type_of% @List.lookup_cons.{0,0}:=rfl
theorem o_:type_of% @Option.map_some.{0,0}:=λ_ _=>rfl
def pe:=@List.mem_map_of_mem.{0,0}
def qb:=@Bool.and_eq_true
def qc:=@List.mem_filterMap.{0,0}
def qe:=@List.filter_cons.{0}
def qN:=@List.mem_cons_self.{0}
def qO:=@List.mem_singleton.{0}
def qP:=@List.find?_cons.{0}
theorem r_:type_of% @List.filterMap_cons.{0,0}:=rfl
def sd:=@List.map_nil.{0,0}
def se:=@List.getElem_mem.{0}
def sZ:=@List.length_replicate.{0}
def s9:=@List.length_singleton.{0}
def s_:=@List.contains_iff_mem.{0}
def uD:=@List.length_set.{0}
def uE:=@Bool.false_eq_true
def uF:=@List.length_range
def uG:=@List.length_filterMap_le.{0,0}
def vK:=@List.length_drop.{0}
def vL:=@Array.getElem?_eq_getElem.{0}
def vM:=@List.length_nil.{0}
def vN:=@List.not_mem_nil.{0}
def vO:=@List.getD_eq_getElem?_getD.{0}
def vP:=@Bool.not_false
def xU:=@List.getElem?_append_right.{0}
def xV:=@List.take_append_drop.{0}
def xW:=@List.foldl_cons.{0,0}
def xX:=@List.filterMap_append.{0,0}
def zm:=@List.mem_filter.{0}
def zo:=@Nat.lt_succ_self
def zp:=@Nat.le_succ
def zq:=@List.mem_of_getElem?.{0}
def zr:=@Bool.eq_iff_iff
theorem zt:type_of% @List.cons_append.{0}:=rfl
def zu:=@List.set_set.{0}
def zv:=@List.nodup_nil.{0}
def zw:=@Array.getElem?_toList.{0}
def zx:=@List.find?_eq_none.{0}
def zy:=@List.any_eq_true.{0}
def zA:=@List.map_set.{0,0}
def zB:=@List.pairwise_map.{0,0}
def CV:=@Nat.ne_of_gt
def CW:=@Nat.lt_succ_of_lt
def CY:=@List.sublist_append_left.{0}
def CZ:=@List.mem_iff_getElem?.{0}
def C5:=@List.perm_middle.{0}
def C6:=@PySem.Heap.get?_push_ne
def C8:=@Int.zero_add
def C9:=@Bool.eq_false_iff
def FA:=@List.getElem_inj.{0}
def FC:=@List.getElem?_set_ne.{0}
theorem FD:type_of% @Array.length_toList.{0}:=rfl
def FE:=@List.getElem?_append_left.{0}
def FF:=@PySem.Heap.get?_update_self
def Ft:=@List.drop_eq_getElem_cons.{0}
def Fu:=@List.getElem?_range
def Fv:=@List.all_cons.{0}
def Fw:=@List.all_map.{0,0}
def Fx:=@Array.getElem?_eq_some_iff.{0}
def Fy:=@PySem.Heap.size_update
def Fz:=@PySem.Heap.get?_update_ne
def KD:=@List.getElem?_take_of_lt.{0}
def KG:=@Nat.lt_of_le_of_lt
def KH:=@List.drop_of_length_le.{0}
def KI:=@Bool.and_false
def KJ:=@Nat.min_self
def KL:=@List.nodup_range
def KN:=@List.getElem?_eq_none.{0}
def KO:=@List.append_of_mem.{0}
namespace Carry.Hd
open Lean Meta PySem PySem.W
abbrev Ex:=Lean.Expr
def fit(ds:Array (Ex×Ex×Ex)):MetaM (Array (Ex×Ex×Ex)):=do
 let cs:Std.HashSet Ex:=ds.foldl (λz d=>if d.1.isConst then z.insert d.1 else z) {}
 ds.filterM λd=>do
  let ty:=Fast.bareType (<-inferType d.1)
  return (ty.find? λy=>cs.contains y || y.isConstOf ``PySem.W.Frag).isNone
def spots(ds:Array (Ex×Ex×Ex)):Std.HashMap Ex Nat:=ds.zipIdx.foldl (λz d=>z.insert d.1.1 d.2) {}
def parts(tw:Name->MetaM Unit)(v:Ex):MetaM (Array (Ex×Ex×Ex)):=do
 for x in Fast.constsOf v do
  if let .const c _:=x then
   if((<-getEnv).getModuleIdxFor? c).isNone || (`PySem.Challenge).isPrefixOf c then tw c
 fit (<-Fast.twinsIn v)
def twin:Nat->Name->MetaM Unit
 |0,_=>return
 |k+1,c=>do
  let (n,e) <-Fast.stemIn c true
  if(<-getEnv).contains e then return
  if let some none:=(<-Fast.primed.get).get? c then return
  let some (.defnInfo d):=(<-getEnv).find? c|return
  let ds <-parts (twin k) d.value
  if ds.isEmpty then
   Fast.primed.modify λz=>z.insert c none
   return
  let tys <-ds.mapM λx=>inferType x.1
  let ty <-inferType d.value
  let ix:=spots ds
  let G <-Fast.withLocals tys.toList #[] λxs=>mkLambdaFVars xs (Fast.putIn ix (λi=>xs[i]!) d.value)
  let mut B:=#[ty]
  for q in tys.reverse do B:=B.push (<-mkArrow q B.back!)
  let m:=ds.size
  let mut f:=G
  let mut g:=G
  let mut pf:=mkApp2 (mkConst ``Eq.refl [<-getLevel B[m]!]) B[m]! G
  for i in [0:m] do
   let (x,y,h):=ds[i]!
   pf:=mkAppN (mkConst ``congr [<-getLevel tys[i]!,<-getLevel B[m - 1 - i]!]) #[tys[i]!,B[m - 1 - i]!,f,g,x,y,pf,h]
   f:=mkApp f x
   g:=mkApp g y
  withOptions (Elab.async.set · false) do
   addDecl (.defnDecl { name:=n,levelParams:=[],type:=d.type,value:=Fast.putIn ix (λi=>ds[i]!.2.1) d.value,hints:=d.hints,safety:=.safe})
   addDecl (.thmDecl { name:=e,levelParams:=[],type:=<-mkEq (mkConst c) (mkConst n),value:=pf})
  Fast.primed.modify λz=>z.insert c (some (n,e))
def prep(v:Ex):MetaM (Array (Ex×Ex×Ex)):=parts (twin 9) v
def put(stem:Name)(ty v:Ex):MetaM Ex:=do
 let ds <-prep v
 let c <-defAt stem ty (Fast.putIn (spots ds) (λi=>ds[i]!.2.1) v)
 Fast.primed.modify λz=>z.insert c.constName! none
 return c
abbrev Objs:=Array (Obj×Obj×Ex)
def lay(old:Objs)(s t:Shared):MetaM Objs:=do
 let P:=mkConst ``Params
 unless s.heap.objs.size == t.heap.objs.size && s.toks == t.toks && toExpr s.drawn == toExpr t.drawn && toExpr s.heap.life == toExpr t.heap.life do throwError "the worlds part"
 let mut out:=#[]
 for i in [0:s.heap.objs.size] do
  let (a,b):=(s.heap.objs[i]!,t.heap.objs[i]!)
  if let some (a',b',e):=old[i]? then
   if sameObjNow a' a && sameObjNow b' b then
    out:=out.push (a',b',e)
    continue
  let v <-withLocalDeclD `P P λp=>do
   let e:=objE p a
   unless e == objE p b do throwError "an object is the world's"
   mkLambdaFVars #[p] e
  out:=out.push (a,b,<-put `o (<-mkArrow P (mkConst ``Obj)) v)
 return out
def state(l:Bool)(old:Objs)(s t:Shared):MetaM (Objs×W.State):=do
 let P:=mkConst ``Params
 let os <-lay old s t
 let life:=toExpr s.heap.life
 let S:W.State:={ heap:=default,gens:=<-gensE s t,drawn:=toExpr s.drawn,toks:=mkRawNatLit s.toks}
 if l then
  let v <-withLocalDeclD `P P λp=>mkLambdaFVars #[p] (mkApp2 (mkConst ``Heap.mk) (mkApp2 (mkConst ``Array.mk [0]) (mkConst ``Obj) (listE (mkConst ``Obj) (os.toList.map λx=>mkApp x.2.2 p))) life)
  return (os,{ S with heap:=<-put `h (<-mkArrow P (mkConst ``Heap)) v})
 let v <-withLocalDeclD `P P λp=>mkLambdaFVars #[p] (treeE p (os.map (·.2.2)) 1 0)
 return (os,{ S with tree:=some (<-put `t (<-mkArrow P (mkConst ``BT)) v,mkRawNatLit s.heap.objs.size,life)})
def aux(ty pf:Ex):MetaM Ex:=do return mkConst (<-withOptions (Elab.async.set · false) (mkAuxLemma [] ty pf (cache:=false)))
def look:Nat->Ex->Ex->MetaM Ex
 |k,l,r=>do
  let W:=mkConst ``World
  let O:=mkConst ``OsState
  let q <-withLocalDeclD `w W λw=>withLocalDeclD `os O λos=>do
   let un (e:Ex):MetaM Ex:=do
    let e:=(mkApp2 e w os).headBeta
    if e.isAppOf ``openSeen || e.isAppOf ``openGood then return (<-unfoldDefinition? e).getD e
    return e
   let (a,b):=(<-un l,<-un r)
   unless a.isAppOfArity ``Prod.mk 4 && b.isAppOfArity ``Prod.mk 4 do return none
   let sh (e:Ex) (i:Nat):MetaM Ex:=mkLambdaFVars #[w,os] (e.getArg! i)
   return some (<-sh a 2,<-sh b 2,<-sh a 3,<-sh b 3)
  match k,q with
  |n+1,some (a1,b1,a2,b2)=>
   let (x,y):=(<-look n a1 b1,<-look n a2 b2)
   let (ty,pf) <-withLocalDeclD `w W λw=>withLocalDeclD `os O λos=>do
    return (<-mkForallFVars #[w,os] (<-mkEq (mkApp2 l w os).headBeta (mkApp2 r w os).headBeta),<-mkLambdaFVars #[w,os] (<-mkAppM ``looks_pair #[mkApp2 x w os,mkApp2 y w os]))
   aux ty pf
  |_,_=>
   let P <-withLocalDeclD `w W λw=>do mkLambdaFVars #[w] (<-mkEq (mkApp l w).headBeta (mkApp r w).headBeta)
   discard <| prep P
   let e <-byKernelQuick P []
   withLocalDeclD `w W λw=>withLocalDeclD `os O λos=>do mkLambdaFVars #[w,os] (<-mkAppM ``congrFun #[mkApp e w,os])
def most:Nat:=3000
def left(g:MVarId)(pE:Ex)(p:Program)(_:List String):MetaM Unit:=g.withContext do
 let a:=(<-instantiateMVars (<-g.getType)).consumeMData.getAppArgs
 let some N <-(Meta.evalNat a[7]!).run|throwError "no number"
 let (.ok t,.ok t'):=(<-traceTop p N 1,<-traceTop p N 2)|throwError "no trace"
 let tb:=mkConst ``treeTable
 let (W,O):=(mkConst ``World,mkConst ``OsState)
 let m0:=mkRawNatLit t.s0.heap.objs.size
 let ann:=toExpr t.ann
 let main <-mkAppM ``Program.main #[pE]
 let op <-mkAppM ``opening #[pE]
 let e1 <-aux (<-mkEq op (mkApp (mkConst ``plainProg) (<-mkAppM ``Scope.names #[<-mkAppM ``Module.scope #[main]]))) (<-mkEqRefl op)
 let e2 <-withLocalDeclD `s (mkConst ``Shared) λs=>do
  let r <-mkAppM ``some #[s]
  aux (<-mkForallFVars #[s] (<-mkEq (mkApp2 (mkConst ``fenceModules?) pE s) r)) (<-mkLambdaFVars #[s] (<-mkEqRefl r))
 let e3 <-mkDecideProof (<-mkEq (mkApp2 (mkConst ``Nat.ble) (mkRawNatLit 600) a[7]!) (mkConst ``Bool.true))
 let boot:=mkAppN (mkConst ``boot_open) #[pE,a[7]!,e1,e3,e2]
 let bE <-mkAppM ``behindTheImports #[pE]
 let some cells <-cellsD? bE|throwError "no body"
 let env0 <-Elab.Term.TermElabM.run' do
  let s1 <-Elab.Term.exprToSyntax (<-mkAppM ``Module.scope #[main])
  let s2 <-Elab.Term.exprToSyntax (toExpr t.code)
  let e <-Elab.Term.withSynthesize (Elab.Term.elabTermEnsuringType (<-`(({ scope:=$s1,locals:=mainNs,globals:=mainNs,cells:=[],code:=$s2,frame:=some $(quote t.frame)}:Env))) (mkConst ``Env))
  instantiateMVars e
 let env <-defAt `env (mkConst ``Env) env0
 let fp:=toExpr t.framePos
 let cE:=mkApp2 (mkConst ``Code.body) bE env
 let B:=listE (mkConst ``Frame) [mkApp (mkConst ``topFrame) fp]
 let go (f:Name) (more:Array Ex) (n:Nat) (w s th:Ex):Ex:=mkAppN (mkConst f) (#[tb,pE,w,m0,ann]++more++#[mkRawNatLit n,s,th])
 let one:=#[mkRawNatLit 1]
 let piece (rows:List String) (l r:Ex->Ex->MetaM Ex):MetaM Ex:=do
  for x in [pE,env] do discard <| prep x
  byPiece rows l r
 let ends (S:Ex) (pos:Pos):MetaM Ex:=do mkAppM ``some #[<-mkAppM ``Prod.mk #[mkConst ``Flow.next,<-mkAppM ``Prod.mk #[S,<-mkAppM ``Prod.mk #[cE,toExpr pos]]]]
 let rowsOf (x y:Snap):=(x.rows++y.rows).eraseDups
 let mut o:Objs:=#[]
 for i in [0:t.s0.heap.objs.size] do o:=o.push (t.s0.heap.objs[i]!,t'.s0.heap.objs[i]!,mkConst ((`PySem.W).str s!"boot_o_{i}"))
 let S0:PySem.W.State:={ heap:=mkConst ``boot_heap,gens:=mkApp2 (mkConst ``Array.mk [0]) (mkConst ``GenState) (mkApp (mkConst ``List.nil [0]) (mkConst ``GenState)),drawn:=mkConst ``boot_drawn,toks:=mkConst ``boot_toks}
 let (o1,Sa) <-state true o t.pre.s t'.pre.s
 let thA:=mkApp4 (mkConst ``Thread.mk) (mkApp2 (mkConst ``denote) tb cE) cE (toExpr t.pre.pos) B
 let stub:=mkApp (mkConst ``topStub) pE
 let pre <-piece (rowsOf t.pre t'.pre) (λw os=>pure (go ``topGo #[] t.pre.steps w (S0.at w os) stub)) λw os=>do mkAppM ``some #[<-mkAppM ``Prod.mk #[Sa.at w os,thA]]
 let (o2,Sb) <-state false o1 t.block.s t'.block.s
 let block <-piece (rowsOf t.block t'.block) (λw os=>pure (go ``segRun one t.block.steps.succ w (Sa.at w os) (mkAppN (mkConst ``blockOf) #[bE,env,cE,toExpr t.pre.pos,B]))) λw os=>ends (Sb.at w os) t.block.pos
 let mut gs:Array (List Ex×Nat×Snap×Snap×List String):=#[]
 for (st,x,x') in cells.zip (t.pieces.zip t'.pieces) do
  let k:=max x.steps x'.steps
  let rs:=rowsOf x x'
  match gs.back? with
  |some (l,n,_,_,r)=>
   if n+k<=most && (r++rs).eraseDups.length<=3 then gs:=gs.pop.push (l++[st],n+k,x,x',(r++rs).eraseDups) else gs:=gs.push ([st],k,x,x',rs)
  |none=>gs:=gs.push ([st],k,x,x',rs)
 let mut cur:=(o2,Sb,t.block.pos)
 let mut lems:=#[]
 for (sts,n,x,x',rs) in gs do
  let stE <-defAt `st (mkApp (mkConst ``List [0]) (mkConst ``Stmt)) (listE (mkConst ``Stmt) sts)
  discard <| prep stE
  let (o0,S1,p1):=cur
  let (o',S') <-state false o0 x.s x'.s
  let th:=mkAppN (mkConst ``piecesOf) #[stE,env,cE,toExpr p1,B]
  let h <-piece rs (λw os=>pure (go ``segRunT one n.succ w (S1.atT w os) th)) λw os=>ends (S'.atT w os) x.pos
  lems:=lems.push (stE,n.succ,S1,p1,S',x.pos,<-liftT h ``segRun_of)
  cur:=(o',S',x.pos)
  logInfo m!"PIECE {sts.length} {n} {x.s.heap.objs.size}"
 let (oN,SN,pN):=cur
 let (_,Sf) <-state true oN t.fin.s t'.fin.s
 let fin <-piece (rowsOf t.fin t'.fin) (λw os=>pure (go ``topRun #[] t.fin.steps.succ w (SN.at w os) (mkApp4 (mkConst ``Thread.mk) (mkApp (mkConst ``doneF) (mkConst ``Flow.next)) cE (toExpr pN) B))) λw os=>mkAppM ``some #[Sf.at w os]
 let run <-withLocalDeclD `w W λw=>withLocalDeclD `os O λos=>do
  let w1 (l:Ex):MetaM Ex:=do mkAppM ``congrFun #[mkApp l w,os]
  let r:=Sf.at w os
  let com:=#[tb,pE,w,m0,ann,env,fp]
  let mut k <-w1 fin
  let mut M:=mkRawNatLit t.fin.steps.succ
  let mut rest:=listE (mkConst ``Stmt) []
  for (stE,n,S1,p1,S',p2,h) in lems.toList.reverse do
   k:=mkAppN (mkConst ``piece_app) (com++#[mkRawNatLit n,M,S1.at w os,S'.at w os,r,stE,rest,cE,toExpr p1,toExpr p2,<-w1 h,k])
   M:=mkApp2 (mkConst ``Nat.add) (mkRawNatLit n) M
   rest <-mkAppM ``HAppend.hAppend #[stE,rest]
  k:=mkAppN (mkConst ``piece_block) (com++#[mkRawNatLit t.block.steps.succ,M,Sa.at w os,Sb.at w os,r,bE,cE,toExpr t.pre.pos,toExpr t.block.pos,<-w1 block,k])
  M:=mkApp2 (mkConst ``Nat.add) (mkRawNatLit t.block.steps.succ) M
  k:=mkAppN (mkConst ``go_top) #[tb,pE,w,m0,ann,mkRawNatLit t.pre.steps,M,S0.at w os,Sa.at w os,r,stub,thA,<-w1 pre,k]
  M:=mkApp2 (mkConst ``Nat.add) (mkRawNatLit t.pre.steps) M
  let ty <-mkEq (mkAppN (mkConst ``topRun) #[tb,pE,w,m0,ann,M,S0.at w os,stub]) (<-mkAppM ``some #[r])
  return (M,<-aux (<-mkForallFVars #[w,os] ty) (<-mkLambdaFVars #[w,os] k))
 let lem:=mkConst ``LeftO.of_pieces
 let (ms,_,_) <-forallMetaTelescope (<-inferType lem)
 let vs:=#[pE,a[1]!,a[2]!,a[3]!,a[4]!,a[5]!,a[6]!,a[7]!,a[8]!,S0.heap,Sf.heap,S0.gens,Sf.gens,S0.drawn,Sf.drawn,S0.toks,Sf.toks,m0,ann,run.1]
 for (m,v) in ms.zip vs do m.mvarId!.assign v
 let want (i:Nat):MetaM Ex:=do instantiateMVars (<-inferType ms[i]!)
 let .forallE n1 d1 b1 i1 <-want 21|throwError "size"
 let size <-byKernelQuick (.lam n1 d1 b1 i1) []
 let .forallE _ _ bl _ <-want 24|throwError "looks"
 let (l,r) <-withLocalDeclD `w W λw=>do
  let some (_,l,r):=(bl.instantiate1 w).eq?|throwError "looks"
  return (<-mkLambdaFVars #[w] l,<-mkLambdaFVars #[w] r)
 let h <-look 12 l r
 let looks <-withLocalDeclD `w W λw=>do
  let f <-withLocalDeclD `os O λos=>mkLambdaFVars #[os] (mkApp2 h w os)
  mkLambdaFVars #[w] (<-mkAppM ``funext #[f])
 g.assign (mkAppN lem (vs++#[boot,size,run.2,<-mkDecideProof (<-want 23),looks]))
simproc_decl hd0 (PySem.W.OpenLaw.Holds _):=λe=>do
 if let .const (.str p s) _:=e.appArg! then twin 9 (p.str ("p"++(s.drop 1).toString))
 return .continue
simproc_decl hd (PySem.W.OpenRow.Holds _):=λ_=>do
 PySem.W.leftPieces.set (some left)
 return .continue
end Carry.Hd
noncomputable section
set_option Elab.async false
set_option maxRecDepth 100000
abbrev L2.FG:=PySem.W.Frag
namespace L2
open PySem PySem.Spec PyProof.Rows
abbrev Key:=Sum Int Str
noncomputable def vi:Key->Value->Bool
 |.inl k,v=>Value.isInt k v
 |.inr x,v=>Value.isStrOf x v
noncomputable def J3(w:World):Key->Int
 |.inl k=>hashInt k
 |.inr x=>hashStr w x
theorem tJ:∀{k:Key} {v:Value},vi k v=true->(∃i t,k=Sum.inl i/\v=Value.int i t)\/(∃x t,k=Sum.inr x/\v=Value.str x t)
 |.inl i,v,h=>by
  obtain⟨t,e⟩:=Value.isInt_shape (k:=i) (v:=v) h;exact .inl ⟨i,t,rfl,e⟩
 |.inr x,v,h=>by
  obtain⟨t,e⟩:=Value.isStrOf_shape (x:=x) (v:=v) h;exact .inr ⟨x,t,rfl,e⟩
theorem Wm(a b:Int):decide ((Sum.inl a:Key)=Sum.inl b)=(a == b):=by
 by_cases e:a=b
 ·subst e;simp
 ·have h:¬(Sum.inl a:Key)=Sum.inl b:=λq=>e (Sum.inl.inj q)
  rw[decide_eq_false h];exact(beq_eq_false_iff_ne.mpr e).symm
theorem Wn(a b:Str):decide ((Sum.inr a:Key)=Sum.inr b)=decide (a=b):=by
 by_cases e:a=b
 ·subst e;simp
 ·have h:¬(Sum.inr a:Key)=Sum.inr b:=λq=>e (Sum.inr.inj q)
  rw[decide_eq_false h,decide_eq_false e]
theorem Wo(a:Int)(b:Str):decide ((Sum.inl a:Key)=Sum.inr b)=false:=decide_eq_false (λq=>nomatch q)
theorem Wq(a:Str)(b:Int):decide ((Sum.inr a:Key)=Sum.inl b)=false:=decide_eq_false (λq=>nomatch q)
noncomputable def HQ(prog:Program)(w:World):PySem.KeyKind prog w Key where
 is:=vi
 hash:=J3 w
 inj:=λv a b ha hb=>by
  rcases tJ ha with⟨i,t,rfl,rfl⟩|⟨x,t,rfl,rfl⟩
  ·rcases tJ hb with⟨j,u,rfl,e⟩|⟨y,u,rfl,e⟩
   ·injection e with e1 _;rw[e1]
   ·exact nomatch e
  ·rcases tJ hb with⟨j,u,rfl,e⟩|⟨y,u,rfl,e⟩
   ·exact nomatch e
   ·injection e with e1 _;rw[e1]
 byValue:=λk v h=>by
  rcases tJ h with⟨i,t,rfl,rfl⟩|⟨x,t,rfl,rfl⟩ <;> rfl
 pyHash:=λhv h=>by
  rcases tJ hv with⟨i,t,rfl,rfl⟩|⟨x,t,rfl,rfl⟩
  ·exact wpAny_pyHash_int h
  ·exact wpAny_pyHash_str h
 eqBool:=λhu hv h=>by
  rcases tJ hu with⟨i,t,rfl,rfl⟩|⟨x,t,rfl,rfl⟩
  ·rcases tJ hv with⟨j,u,rfl,rfl⟩|⟨y,u,rfl,rfl⟩
   ·rw[Wm] at h;exact wpAny_eqBool_int h
   ·rw[Wo] at h;exact SeqAt.EqAt.int_str i t y u _ _ _ _ h
  ·rcases tJ hv with⟨j,u,rfl,rfl⟩|⟨y,u,rfl,rfl⟩
   ·rw[Wq] at h;exact SeqAt.EqAt.str_int x t j u _ _ _ _ h
   ·rw[Wn] at h;exact wpAny_eqBool_str h
 «strs»:=λk x t v h=>by
  rcases tJ h with⟨i,u,rfl,e⟩|⟨y,u,rfl,e⟩
  ·exact nomatch e
  ·injection e with e1 _;subst e1;cases v <;> rfl
inductive V where
 |aI|bl (b:Bool)|int (i:Int)|str (x:Str)|uX (b:Array UInt8)|u_ (b:UInt64)|ref (a:Addr)|ty (n:String)
 deriving DecidableEq
def RelV:V->Value->Prop
 |.aI,u=>u=Value.none
 |.bl b,u=>u=Value.bool b
 |.int i,u=>∃t,u=Value.int i t
 |.str x,u=>∃t,u=Value.str x t
 |.uX b,u=>∃t,u=Value.bytes b t
 |.u_ b,u=>∃t,u=Value.float b t
 |.ref a,u=>u=Value.ref a
 |.ty n,u=>u=Value.type n
abbrev Vals:List V->List Value->Prop:=Paired RelV
theorem Vals.length{xs:List V}{us:List Value}(r:Vals xs us):xs.length=us.length:=Paired.length r
theorem Vals.get:∀{xs:List V} {us:List Value} {i:Nat} {x:V},Vals xs us->xs[i]?=some x->∃u,us[i]?=some u/\RelV x u
 |_,_,_,_,.nil,e=>by simp at e
 |_,_,0,_,.cons r _,e=>by simp at e;subst e;exact⟨_,rfl,r⟩
 |_,_,i+1,x,.cons _ t,e=>by
  obtain⟨u,h1,h2⟩:=Vals.get (i:=i) (x:=x) t (by simpa using e)
  exact⟨u,by simpa using h1,h2⟩
theorem Vals.set{x:V}{u:Value}(r:RelV x u):∀{xs:List V} {us:List Value} (i:Nat),Vals xs us->Vals (xs.set i x) (us.set i u)
 |_,_,_,.nil=>.nil
 |_,_,0,.cons _ t=>.cons r t
 |_,_,i+1,.cons q t=>.cons q (Vals.set r i t)
theorem Vals.append{xs ys:List V}{us ws:List Value}(h:Vals xs us)(s:Vals ys ws):Vals (xs++ys) (us++ws):=by
 induction h with
 |nil=>exact s
 |cons r t ih=>exact .cons r ih
theorem Vals.take:∀{xs:List V} {us:List Value} (n:Nat),Vals xs us->Vals (xs.take n) (us.take n)
 |_,_,0,_=>.nil
 |_,_,_+1,.nil=>.nil
 |_,_,n+1,.cons r t=>.cons r (Vals.take n t)
theorem Vals.drop:∀{xs:List V} {us:List Value} (n:Nat),Vals xs us->Vals (xs.drop n) (us.drop n)
 |_,_,0,r=>r
 |_,_,_+1,.nil=>.nil
 |_,_,n+1,.cons _ t=>Vals.drop n t
def jc:Option V->Option Value->Prop
 |some v,some u=>RelV v u
 |none,none=>True
 |_,_=>False
def KV{κ:Type}:List (κ×V)->List (κ×Value)->Prop:=Paired λ(p:κ×V) (q:κ×Value)=>p.1=q.1/\RelV p.2 q.2
noncomputable def kV:Key->V
 |.inl i=>.int i
 |.inr x=>.str x
inductive TK where
 |inl (i:Int)|inr (x:Str)|tp (l:List TK)
mutual
noncomputable def TK.beq:TK->TK->Bool
 |.inl a,.inl b=>decide (a=b)
 |.inr a,.inr b=>decide (a=b)
 |.tp l,.tp m=>TK.nV l m
 |_,_=>false
noncomputable def TK.nV:List TK->List TK->Bool
 |[],[]=>true
 |a::l,b::m=>TK.beq a b && TK.nV l m
 |_,_=>false
end
mutual
theorem TK.beq_iff:∀a b:TK,TK.beq a b=true↔a=b
 |.inl a,.inl b=>by unfold TK.beq;rw[decide_eq_true_eq];exact⟨λe=>by rw[e],λe=>by cases e;rfl⟩
 |.inr a,.inr b=>by unfold TK.beq;rw[decide_eq_true_eq];exact⟨λe=>by rw[e],λe=>by cases e;rfl⟩
 |.tp l,.tp m=>by unfold TK.beq;rw[TK.mU l m];exact⟨λe=>by rw[e],λe=>by cases e;rfl⟩
 |.inl _,.inr _=>by unfold TK.beq;exact⟨λe=>(nomatch e),λe=>(nomatch e)⟩
 |.inl _,.tp _=>by unfold TK.beq;exact⟨λe=>(nomatch e),λe=>(nomatch e)⟩
 |.inr _,.inl _=>by unfold TK.beq;exact⟨λe=>(nomatch e),λe=>(nomatch e)⟩
 |.inr _,.tp _=>by unfold TK.beq;exact⟨λe=>(nomatch e),λe=>(nomatch e)⟩
 |.tp _,.inl _=>by unfold TK.beq;exact⟨λe=>(nomatch e),λe=>(nomatch e)⟩
 |.tp _,.inr _=>by unfold TK.beq;exact⟨λe=>(nomatch e),λe=>(nomatch e)⟩
theorem TK.mU:∀l m:List TK,TK.nV l m=true↔l=m
 |[],[]=>by unfold TK.nV;exact⟨λ_=>rfl,λ_=>rfl⟩
 |a::l,b::m=>by unfold TK.nV;rw[qb,TK.beq_iff a b,TK.mU l m];exact⟨λe=>by rw[e.1,e.2],λe=>by cases e;exact⟨rfl,rfl⟩⟩
 |[],_::_=>by unfold TK.nV;exact⟨λe=>(nomatch e),λe=>(nomatch e)⟩
 |_::_,[]=>by unfold TK.nV;exact⟨λe=>(nomatch e),λe=>(nomatch e)⟩
end
instance:DecidableEq TK:=λa b=>decidable_of_iff _ (TK.beq_iff a b)
mutual
noncomputable def TK.hash(w:World):TK->Int
 |.inl i=>hashInt i
 |.inr x=>hashStr w x
 |.tp l=>reduceHash (Builtin.Tuple.tupleHashOf (TK.fM w l))
noncomputable def TK.fM(w:World):List TK->List Int
 |[]=>[]
 |a::l=>TK.hash w a::TK.fM w l
end
noncomputable def TK.ok:Nat->TK->Bool
 |n+1,.tp l=>l.all (TK.ok n)
 |0,.tp _=>false
 |_,_=>true
def jy(w:World)(e:TK×V×V)(x:DictEntry):Prop:=x.hash=e.1.hash w/\RelV e.2.1 x.key/\RelV e.2.2 x.val/\e.1.ok 8=true
inductive HO where
  |lst (xs:List V)
  |tup (xs:List V)
  |dK (kvs:List (Key×V))|dT (kvs:List (List Key×V))
  |dG (es:List (TK×V×V)) (ep:Nat)
  |set (S:Int->Bool) (n:Nat)
  |ins (C dx:Addr) (fs:List (Str×V))
  |own (x:Addr)
  |xd (fs:List (Str×V))
  |met (f x:Addr)
  |Ke (lo hi:Int)
  |Y (o:Obj) (u:HO)
  |xP (ps:Array Value)
  |ext (φ:Heap->Prop)
abbrev Hp:=Addr->Option HO
noncomputable def upd(H:Hp)(a:Addr)(o:HO):Hp:=λb=>if b=a then some o else H b
theorem iU{H:Hp}{a:Addr}{o:HO}:upd H a o a=some o:=by unfold upd;rw[if_pos rfl]
theorem cK{H:Hp}{a b:Addr}{o:HO}(h:b≠a):upd H a o b=H b:=by unfold upd;rw[if_neg h]
theorem lU{H:Hp}{a b:Addr}{o:HO}(h:H a=some o)(h':H b=none):a≠b:=by
 intro e;subst e;rw[h] at h';cases h'
section
variable (P:Program) (w:World)
def cb(H:Hp)(h:Heap)(a:Addr):HO->Prop
 |.lst xs=>xs.length<=sizeLine/\∃(aG:List Value) (n:Nat),Vals xs aG/\h.get? a=some { cls:=.type "list",data:=.seq aG.toArray n}
 |.tup xs=>xs.length<=sizeLine/\∃aG:List Value,Vals xs aG/\IsTup h a aG.toArray
 |.dK kvs=>kvs.length<=sizeLine/\(a == sysModules)=false/\∃vs,KV kvs vs/\h.DictOf (HQ P w) a vs
 |.dT kvs=>kvs.length<=sizeLine/\(a == sysModules)=false/\∃xs:List (List Key×Addr×Value),
   Paired (λ(p:List Key×V) (q:List Key×Addr×Value)=>p.1=q.1/\H q.2.1=some (.tup (p.1.map kV))/\RelV p.2 q.2.2) kvs xs/\
   ∃o es ep,h.get? a=some o/\o.ExactDict/\o.data=.dict es ep/\es.toList=xs.map (entryOfKey (tupleKind (HQ P w)))/\(xs.map (·.1)).Nodup
 |.dG es ep=>es.length<=sizeLine/\(a == sysModules)=false/\∃o xs,h.get? a=some o/\o.ExactDict/\o.data=.dict xs ep/\Paired (jy w) es xs.toList/\(es.map (·.1)).Nodup
 |.set S n=>h.SetOf (intKind P w) a S n
 |.ins C dx fs=>H dx=some (.own a)/\fs.length<=1000/\dx≠a/\h.get? a=some (PySem.W.instObj C dx)/\
   ∃mA,h.Ns1 dx mA/\(∀f,jc (fs.lookup f) (mA f))/\PySem.Within mA (fs.map (·.1))
 |.own _=>∃o,h.get? a=some o
 |.xd fs=>∃mA,h.Ns1 a mA/\∀f,jc (fs.lookup f) (mA f)
 |.Ke lo hi=>∃t u v,h.get? a=some { cls:=.type "range",data:=.fields #[.int lo t,.int hi u,.int 1 v]}
 |.Y o u=>h.get? a=some o/\cb H h a u
 |.xP ps=>h.get? a=some { cls:=.none,data:=.fields ps}
 |.met f x=>h.get? a=some (PySem.W.methodObj (.ref f) (.ref x))
 |.ext φ=>φ h/\(∃o,h.get? a=some o)/\∀h1 h2:Heap,φ h1->(∀o,h1.get? a=some o->h2.get? a=some o)->φ h2
def jQ(H:Hp)(h:Heap):Prop:=∀a o,H a=some o->cb P w H h a o
end
section
variable {P:Program} {w:World} {H H':Hp} {h h':Heap} {a:Addr} {o:HO}
theorem cb.lt(x:cb P w H h a o):a < h.objs.size:=by
 cases o with
 |lst xs=>obtain⟨_,_,_,_,e⟩:=x;exact fF e
 |tup xs=>obtain⟨_,_,_,p⟩:=x;exact p.lt
 |dK kvs=>obtain⟨_,_,_,_,o,_,_,e,_⟩:=x;exact fF e
 |dT kvs=>obtain⟨_,_,_,_,o,_,_,e,_⟩:=x;exact fF e
 |dG es ep=>obtain⟨_,_,o,_,e,_⟩:=x;exact fF e
 |set S n=>obtain⟨o,_,_,_,e,_⟩:=x;exact fF e
 |ins C dx fs=>obtain⟨_,_,_,e,_⟩:=x;exact fF e
 |own y=>obtain⟨_,e⟩:=x;exact fF e
 |xd fs=>obtain⟨_,⟨_,_,_,e,_⟩,_⟩:=x;exact fF e
 |Ke lo hi=>obtain⟨_,_,_,e⟩:=x;exact fF e
 |Y ob u=>obtain⟨e,_⟩:=x;exact fF e
 |xP ps=>exact fF (show h.get? a=some _ from x)
 |met f y=>exact fF (show h.get? a=some _ from x)
 |ext φ=>obtain⟨_,⟨_,e⟩,_⟩:=x;exact fF e
theorem Paired.J8{α β:Type}{F G:α->β->Prop}{l₁:List α}{l₂:List β}(h:Paired F l₁ l₂)(f:∀a b,F a b->G a b):Paired G l₁ l₂:=by
 induction h with
 |nil=>exact .nil
 |cons r t ih=>exact .cons (f _ _ r) ih
theorem cb.nj(x:cb P w H h a o)(k:∀b u,(b=a\/H b=some (.own a))->h.get? b=some u->h'.get? b=some u)
  (ho:∀b,H b=some (.own a)->H' b=some (.own a)) (ht:∀b xs,H b=some (.tup xs)->H' b=some (.tup xs)):cb P w H' h' a o:=by
 induction o with
 |lst xs=>obtain⟨z,aG,n,r,e⟩:=x;exact⟨z,aG,n,r,k _ _ (.inl rfl) e⟩
 |tup xs=>obtain⟨z,aG,r,ob,e,c⟩:=x;exact⟨z,aG,r,ob,k _ _ (.inl rfl) e,c⟩
 |dK kvs=>obtain⟨z,y,vs,r,ob,es,ep,e,c⟩:=x;exact⟨z,y,vs,r,ob,es,ep,k _ _ (.inl rfl) e,c⟩
 |dT kvs=>
  obtain⟨z,y,xs,r,ob,es,ep,e,c⟩:=x;exact⟨z,y,xs,Paired.J8 r λp q z=>⟨z.1,ht _ _ z.2.1,z.2.2⟩,ob,es,ep,k _ _ (.inl rfl) e,c⟩
 |dG es ep=>obtain⟨z,y,ob,xs,e,c⟩:=x;exact⟨z,y,ob,xs,k _ _ (.inl rfl) e,c⟩
 |set S n=>obtain⟨ob,es,ep,t,e,c⟩:=x;exact⟨ob,es,ep,t,k _ _ (.inl rfl) e,c⟩
 |ins C dx fs=>
  obtain⟨d,z,ne,e,mA,⟨od,es,ep,e2,c⟩,r⟩:=x;exact⟨ho _ d,z,ne,k _ _ (.inl rfl) e,mA,⟨od,es,ep,k _ _ (.inr d) e2,c⟩,r⟩
 |own y=>obtain⟨ob,e⟩:=x;exact⟨ob,k _ _ (.inl rfl) e⟩
 |xd fs=>obtain⟨mA,⟨od,es,ep,e,c⟩,r⟩:=x;exact⟨mA,⟨od,es,ep,k _ _ (.inl rfl) e,c⟩,r⟩
 |Ke lo hi=>obtain⟨t,u,v,e⟩:=x;exact⟨t,u,v,k _ _ (.inl rfl) e⟩
 |Y ob u ih=>obtain⟨e,q⟩:=x;exact⟨k _ _ (.inl rfl) e,ih q⟩
 |xP ps=>
  have e:h.get? a=some { cls:=.none,data:=.fields ps}:=x;show h'.get? a=some { cls:=.none,data:=.fields ps};exact k a _ (.inl rfl) e
 |met f y=>
  have e:h.get? a=some (PySem.W.methodObj (.ref f) (.ref y)):=x;show h'.get? a=some (PySem.W.methodObj (.ref f) (.ref y));exact k a _ (.inl rfl) e
 |ext φ=>obtain⟨p,⟨o,e⟩,st⟩:=x;exact⟨st _ _ p λo q=>k _ _ (.inl rfl) q,⟨o,k _ _ (.inl rfl) e⟩,st⟩
theorem jQ.lt(x:jQ P w H h)(e:H a=some o):a < h.objs.size:=(x a o e).lt
theorem jQ.fresh(x:jQ P w H h)(e:h.objs.size<=a):H a=none:=by
 cases q:H a with
 |none=>rfl
 |some u=>exact absurd (i_ (x.lt q) e) (o8 _)
theorem jQ.kept(x:jQ P w H h)(k:∀b u,h.get? b=some u->h'.get? b=some u):jQ P w H h':=λa o e=>
 (x a o e).nj (λb u _ q=>k b u q) (λ_ q=>q) λ_ _ q=>q
theorem jQ.laid(x:jQ P w H h)(k:∀b u,h.get? b=some u->h'.get? b=some u)(hp:h.objs.size<=a)(new:cb P w (upd H a o) h' a o):jQ P w (upd H a o) h':=λb u e=>by
 have hn:=x.fresh hp;by_cases hb:b=a
 ·subst hb;rw[iU] at e;cases e;exact new
 ·rw[cK hb] at e;exact(x b u e).nj (λc v _ q=>k c v q) (λc q=>by rw[cK (lU q hn)];exact q) λc xs q=>by rw[cK (lU q hn)];exact q
end
def Rd(H:Hp)(a:Addr)(u:HO):Prop:=H a=some u\/∃o,H a=some (.Y o u)
theorem Rd.ok{P:Program}{w:World}{H:Hp}{h:Heap}{a:Addr}{u:HO}(r:Rd H a u)(x:jQ P w H h):cb P w H h a u:=by
 rcases r with r|⟨o,r⟩
 ·exact x a u r
 ·obtain⟨_,q⟩:=x a _ r;exact q
def zJ:Option HO->Prop
 |some (.lst _)=>True
 |some (.dK _)=>True
 |some (.dT _)=>True
 |some (.dG _ _)=>True
 |some (.set _ _)=>True
 |some (.ins _ _ _)=>True
 |some (.ext _)=>True
 |_=>False
section
variable {P:Program} {w:World} {H:Hp} {h h':Heap} {x e:Addr} {o':HO}
theorem jQ.write(ok:jQ P w H h)(mu:zJ (H x))(he:e=x\/H e=some (.own x))(k:∀b u,b≠e->h.get? b=some u->h'.get? b=some u)(y6:∃u,h'.get? e=some u)
  (new:cb P w (upd H x o') h' x o'):jQ P w (upd H x o') h':=λb u q=>by
 have Cn:∀c y,H c=some (.own y)->c≠x:=λc y r z=>by subst z;rw[r] at mu;exact mu
 have J':∀c xs,H c=some (.tup xs)->c≠x:=λc xs r z=>by subst z;rw[r] at mu;exact mu
 by_cases hb:b=x
 ·subst hb;rw[iU] at q;cases q;exact new
 ·rw[cK hb] at q;by_cases xc:b=e
  ·have q':H b=some (.own x):=by
    rcases he with z|z
    ·exact absurd (xc.trans z) hb
    ·rw[xc];exact z
   rw[q] at q';cases q';obtain⟨v,hv⟩:=y6;exact⟨v,by rw[xc];exact hv⟩
  ·refine(ok b u q).nj (λc v hc r=>k c v ?_ r) (λc r=>by rw[cK (Cn c b r)];exact r) λc xs r=>by rw[cK (J' c xs r)];exact r
   rcases hc with rfl|hc
   ·exact xc
   ·rintro rfl;rcases he with z|z
    ·exact Cn c b hc z
    ·rw[hc] at z;cases z;exact hb rfl
end
structure Un (fs ex:List Addr) (H H':Hp) (h h':Heap):Prop where
 keep:∀b o,h.get? b=some o->H b=none->b∉fs->b∉ex->h'.get? b=some o
 slot:∀b o,h.get? b=some o->H b=none->b∈fs->b∉ex->∃sl,h'.get? b=some { o with slots:=sl}
 free:∀b o,h.get? b=some o->H b=none->b∉ex->H' b=none
 there:∀b o,h.get? b=some o->b∉ex->∃o',h'.get? b=some o'
 mq:∀b xs,H b=some (.tup xs)->H' b=some (.tup xs)
 k_:∀b o u,H b=some (.Y o u)->H' b=some (.Y o u)
 mj:∀b ps,H b=some (.xP ps)->∃more,H' b=some (.xP (ps++more))
section
variable {fs oO ex ex':List Addr} {H H1 H2:Hp} {h h1 h2 h':Heap} {a x e:Addr} {o:HO}
theorem Un.any(u:Un fs ex H H1 h h1){b:Addr}{ob:Obj}(q:h.get? b=some ob)(n:H b=none)(hx:b∉ex):∃sl,h1.get? b=some { ob with slots:=sl}:=by
 by_cases hb:b∈fs
 ·exact u.slot b ob q n hb hx
 ·exact⟨ob.slots,u.keep b ob q n hb hx⟩
theorem Un.kept(k:∀b u,h.get? b=some u->h'.get? b=some u):Un fs ex H H h h':=
 ⟨λb ob q _ _ _=>k b ob q,λb ob q _ _ _=>⟨ob.slots,k b ob q⟩,λ_ _ _ n _=>n,λb ob q _=>⟨ob,k b ob q⟩,λ_ _ q=>q,λ_ _ _ q=>q,λ_ ps q=>⟨#[],by rw[q];simp⟩⟩
theorem Un.refl:Un fs ex H H h h:=Un.kept λ_ _ q=>q
theorem Un.laid(k:∀b u,h.get? b=some u->h'.get? b=some u)(hp:h.objs.size<=a)(hn:H a=none):Un fs ex H (upd H a o) h h' where
 keep:=λb u q _ _ _=>k b u q
 slot:=λb u q _ _ _=>⟨u.slots,k b u q⟩
 free:=λb u q n _=>by rw[cK (i8 (i_ (fF q) hp))];exact n
 there:=λb u q _=>⟨u,k b u q⟩
 mq:=λb xs q=>by rw[cK (lU q hn)];exact q
 k_:=λb u xs q=>by rw[cK (lU q hn)];exact q
 mj:=λb ps q=>⟨#[],by rw[cK (lU q hn),q];simp⟩
theorem Un.write(mu:zJ (H x))(he:e=x\/H e=some (.own x))(k:∀b u,b≠e->h.get? b=some u->h'.get? b=some u)(y6:∃u,h'.get? e=some u):Un fs ex H (upd H x o) h h':=by
 have hx:∀b,H b=none->b≠x:=λb n z=>by subst z;rw[n] at mu;exact mu
 have hb:∀b,H b=none->b≠e:=λb n z=>by
  subst z;rcases he with r|r
  ·exact hx b n r
  ·rw[n] at r;cases r
 have hm:∀b u,H b=some u->¬zJ (some u)->b≠x:=λb u q nm z=>by subst z;rw[q] at mu;exact nm mu
 refine⟨λb u q n _ _=>k b u (hb b n) q,λb u q n _ _=>⟨u.slots,k b u (hb b n) q⟩,λb u q n _=>by rw[cK (hx b n)];exact n,λb u q _=>?_,
  λb xs q=>by rw[cK (hm b _ q λz=>z)];exact q,λb u xs q=>by rw[cK (hm b _ q λz=>z)];exact q,λb ps q=>⟨#[],by rw[cK (hm b _ q λz=>z),q];simp⟩⟩
 by_cases xc:b=e
 ·subst xc;exact y6
 ·exact⟨u,k b u xc q⟩
end
noncomputable def Fp(h:Heap)(H:Hp):List Addr:=(List.range h.objs.size).filter λa=>(H a).isSome
noncomputable def lX(h:Heap)(H:Hp):Heap:=PySem.W.hideAll h (Fp h H)
theorem Ro(h:Heap)(H:Hp):(lX h H).objs.size=h.objs.size:=PySem.W.hideAll_size _ _
theorem SX{h:Heap}{H:Hp}{b:Addr}{o:Obj}(e:h.get? b=some o)(n:H b=none):(lX h H).get? b=some o:=
 PySem.W.hideAll_get _ e λhm=>by
  have q:(H b).isSome=true:=(zm.mp hm).2;rw[n] at q;simp at q
theorem Uy{h:Heap}{H:Hp}{b:Addr}{o:Obj}(e:(lX h H).get? b=some o):h.get? b=some o/\H b=none:=by
 have e':h.get? b=some o:=PySem.W.of_hideAll (Fp h H) e;refine⟨e',?_⟩;cases q:H b with
 |none=>rfl
 |some x=>
  have hm:b∈Fp h H:=zm.mpr ⟨mF.mpr (fF e'),by simp[q]⟩
  have z:(lX h H).get? b=none:=PySem.W.hideAll_none (Fp h H) hm;rw[z] at e;cases e
noncomputable def Uz(g h:Heap)(L:Addr):List (Addr×Obj):=(List.range h.objs.size).filterMap λa=>if a=L\/(g.get? a).isSome=true then none else(h.get? a).map λo=>(a,o)
noncomputable def rest(g h:Heap)(L d:Addr):List (Addr×Obj):=(Uz g h L).filter λp=>decide (p.1≠d)
structure Mod (K:L2.FG) (mg:Str->Option Value) (base:Heap):Prop where
 B9:K.In base
 glob:base.Ns mainGlobals mg
 blt:∃mb,base.Ns builtinsNs mb/\∀x:Str,x≠"__name__"->mb x=bootBuiltins x
 nolimit:base.NoLimit
set_option genInjectivity false in
structure Cx where
 prog:Program
 w:World
 K:L2.FG
 mg:Str->Option Value
 base:Heap
 A:Around
 N:List Str
 s₀:Shared
 H₀:Hp
 env:Env
 outer:List Env
 stack:List Env
 ex:List Addr
 fn:Str->Bool
 calm:Bool
 pn:List (Addr×Obj)
 xe:Value->Shared->Prop
noncomputable def pO(l:List Env):List Addr:=l.filterMap (·.frame)
noncomputable abbrev Cx.fs(X:Cx):List Addr:=pO X.outer
def Dh(sc:Scope)(x:Str):Prop:=sc.names.lookup x=some .local \/ sc.names.lookup x=some .cell\/sc.names.lookup x=some .free
def Loc(sc:Scope)(x:Str):Prop:=sc.names.lookup x=some .local \/ sc.names.lookup x=some .cell
def Look(env:Env)(h:Heap)(m:Str->Option Value)(x:Str)(u:Value):Prop:=
 (env.kindOf x=some .local /\ m x=some u)\/((env.kindOf x=some .cell\/env.kindOf x=some .free)/\∃c,env.cells.lookup x=some c/\h.IsCell c (some u))
structure Cx.Ok (X:Cx):Prop where
 mod:Mod X.K X.mg X.base
 kind:X.env.scope.kind=.function
 glob:X.env.globals=mainGlobals
 blt:X.env.builtins=builtinsNs
 above:X.s₀.heap.objs.size<=X.env.locals
 inj:∀x y c,X.env.cells.lookup x=some c->X.env.cells.lookup y=some c->x=y
 has:∀x,(X.env.kindOf x=some .cell\/X.env.kindOf x=some .free)->∃c,X.env.cells.lookup x=some c
 AY:∀x c,X.fn x=true->X.env.cells.lookup x=some c->X.s₀.heap.objs.size<=c
 hd:X.calm=true->X.A.handled=none
 frames:X.A.frames=some X.stack
 Fg:X.stack=X.outer\/(X.stack=X.env::X.outer/\X.env.frame=some X.env.locals)
 ON:∀b∈X.ex,b≠X.env.locals/\∀x c,X.env.cells.lookup x=some c->c≠b
 bs:∀b o,X.base.get? b=some o->X.s₀.heap.get? b=some o/\X.H₀ b=none
 tX:X.base.objs.size<=X.s₀.heap.objs.size
 rN:∀b o,X.base.get? b=some o->b∉X.ex
 t4:∀b∈X.ex,b∉X.fs
 jU:X.s₀.heap.FunFrames X.base X.outer
 w9:∀b∈X.fs,X.H₀ b=none
structure Inv (X:Cx) (pins:List (Addr×Obj)) (Z:List (Option V)) (H:Hp) (s:Shared):Prop where
 ok:X.Ok
 os:s.os=X.s₀.os
 bare:AllBare s.gens
 base:Un X.fs X.ex X.H₀ H X.s₀.heap s.heap
 loc:∃m,s.heap.Ns X.env.locals m/\∀(i:Nat) (x:Str) (v:V),X.N[i]?=some x->Z[i]?=some (some v)->Dh X.env.scope x->∃u,RelV v u/\Look X.env s.heap m x u
 cell:∀x c,X.env.cells.lookup x=some c->∃v,s.heap.IsCell c v
 free:H X.env.locals=none
 ib:∀x c,X.env.cells.lookup x=some c->H c=none
 pin:∀p∈X.pn++pins,s.heap.get? p.1=some p.2/\H p.1=none/\p.1≠X.env.locals/\p.1∉X.fs/\∀v,p.2.data≠.cell v
 cx:jQ X.prog X.w H s.heap
 len:Z.length=X.N.length
section
variable {X:Cx} {pins:List (Addr×Obj)} {Z:List (Option V)} {H H':Hp} {s:Shared} {h':Heap}
theorem Cx.Ok.J_(ok:X.Ok){b:Addr}{o:Obj}(e:X.base.get? b=some o):b∉X.fs:=λhb=>by
 have:=(ok.jU.mem hb).1;rw[e] at this;cases this
theorem Inv.bs(I:Inv X pins Z H s):∀b o,X.base.get? b=some o->s.heap.get? b=some o/\H b=none:=λb o e=>
 ⟨I.base.keep b o (I.ok.bs b o e).1 (I.ok.bs b o e).2 (I.ok.J_ e) (I.ok.rN b o e),I.base.free b o (I.ok.bs b o e).1 (I.ok.bs b o e).2 (I.ok.rN b o e)⟩
theorem Inv.bk(I:Inv X pins Z H s):∀b o,X.base.get? b=some o->s.heap.get? b=some o:=λb o e=>(I.bs b o e).1
theorem Inv.mod(I:Inv X pins Z H s):Mod X.K X.mg X.base:=I.ok.mod
theorem Inv.lI(I:Inv X pins Z H s):X.K.In s.heap:=I.ok.mod.B9.keeps I.bk
theorem Inv.lt(I:Inv X pins Z H s):X.env.locals < s.heap.objs.size:=let ⟨_,hn,_⟩:=I.loc;hn.lt
theorem Inv.sz(I:Inv X pins Z H s):X.s₀.heap.objs.size<=s.heap.objs.size:=lQ I.ok.above (Nat.le_of_lt I.lt)
theorem Inv.xw(I:Inv X pins Z H s){a:Addr}(h:s.heap.objs.size<=a):a∉X.fs:=λhb=>by
 obtain⟨_,o,ho,_⟩:=I.ok.jU.mem hb;exact absurd (i_ (fF ho) (lQ I.sz h)) (o8 _)
theorem Inv.wJ(I:Inv X pins Z H s):∀x c,X.env.cells.lookup x=some c->c≠X.env.locals:=λx c e z=>by
 obtain⟨v,o,ho,hd⟩:=I.cell x c e;obtain⟨m,⟨o',es,ep,rG,JC,_⟩,_⟩:=I.loc;rw[z,rG] at ho;cases ho;rw[JC] at hd;cases hd
theorem Inv.jU(I:Inv X pins Z H s):s.heap.FunFrames X.base X.outer:=by
 have all:∀(l:List Env),(∀b∈pO l,b∈X.fs)->X.s₀.heap.FunFrames X.base l->s.heap.FunFrames X.base l:=by
  intro l
  induction l with
  |nil=>intro _ _;trivial
  |cons env r ih=>
   intro hs hl;obtain⟨hk,⟨L,o,hf,hn,ho,hd⟩,hr⟩:=hl;have hL:L∈X.fs:=hs L (by unfold pO;rw[r_,hf];exact qN)
   obtain⟨sl,e⟩:=I.base.slot L o ho (I.ok.w9 L hL) hL λz=>I.ok.t4 L z hL
   exact⟨hk,⟨L,_,hf,hn,e,hd⟩,ih (λb hb=>hs b (by unfold pO;rw[r_,hf];exact lu _ hb)) hr⟩
 exact all X.outer (λ_ hb=>hb) I.ok.jU
theorem Inv.stack(I:Inv X pins Z H s):s.heap.FunFrames X.base X.stack:=by
 rcases I.ok.Fg with e|⟨e,hf⟩
 ·rw[e];exact I.jU
 ·rw[e];obtain⟨m,hn,_⟩:=I.loc;refine .cons (by rw[I.ok.kind];decide) hf hn ?_ I.jU
  exact Heap.get?_none_of_le (lQ I.ok.tX I.ok.above)
theorem Inv.kH(I:Inv X pins Z H s):∀b∈pO X.stack,b∈X.env.locals::X.fs:=λb hb=>by
 rcases I.ok.Fg with e|⟨e,hf⟩
 ·rw[e] at hb;exact lu _ hb
 ·rw[e] at hb;unfold pO at hb;rw[r_,hf] at hb;exact hb
theorem Inv.o6(I:Inv X pins Z H s):∀b∈pO X.stack,H b=none:=λb hb=>by
 rcases dZ.mp (I.kH b hb) with e|hb
 ·rw[e];exact I.free
 ·obtain⟨_,o,ho,_⟩:=I.ok.jU.mem hb;exact I.base.free b o ho (I.ok.w9 b hb) λz=>I.ok.t4 b z hb
theorem Inv.step{g':Array GenState}{t':Nat}{d':Drawn}{ch:List Addr}(I:Inv X pins Z H s)
  (qH:∀b∈ch,(b∈X.ex\/X.s₀.heap.objs.size<=b)/\b≠X.env.locals/\(∀x c,X.env.cells.lookup x=some c->c≠b)/\∀p∈X.pn++pins,p.1≠b)
  (keep:∀b o,b≠X.env.locals->b∉X.fs->b∉ch->s.heap.get? b=some o->H b=none->h'.get? b=some o)
  (slot:∀b o,b≠X.env.locals->b∈X.fs->b∉ch->s.heap.get? b=some o->H b=none->∃sl,h'.get? b=some { o with slots:=sl}) (free:∀b o,b∉ch->s.heap.get? b=some o->H b=none->H' b=none)
  (there:∀b o,b∉ch->s.heap.get? b=some o->∃o',h'.get? b=some o')
  (mq:∀b xs,H b=some (.tup xs)->H' b=some (.tup xs)) (k_:∀b o u,H b=some (.Y o u)->H' b=some (.Y o u)) (mj:∀b ps,H b=some (.xP ps)->∃more,H' b=some (.xP (ps++more)))
  (ns:∀m,s.heap.Ns X.env.locals m->h'.Ns X.env.locals m) (cx:jQ X.prog X.w H' h') (hg:AllBare g') :
  Inv X pins Z H' { s with heap:=h',gens:=g',drawn:=d',toks:=t'}:=by
 have Pf:∀b o,X.s₀.heap.get? b=some o->b≠X.env.locals:=λb o e=>i8 (i_ (fF e) I.ok.above)
 have E9:∀b o,X.s₀.heap.get? b=some o->b∉X.ex->b∉ch:=λb o e hx hb=>by
  rcases(qH b hb).1 with z|z
  ·exact hx z
  ·exact absurd (i_ (fF e) z) (o8 _)
 have cellK:∀x c,X.env.cells.lookup x=some c->∀v,s.heap.IsCell c v->h'.IsCell c v:=λx c e v ⟨o,ho,hd⟩=>by
  have Cj:c∉ch:=λz=>(qH c z).2.2.1 x c e rfl
  by_cases hc:c∈X.fs
  ·obtain⟨sl,q⟩:=slot c o (I.wJ x c e) hc Cj ho (I.ib x c e);exact⟨_,q,hd⟩
  ·exact⟨o,keep c o (I.wJ x c e) hc Cj ho (I.ib x c e),hd⟩
 refine⟨I.ok,I.os,hg,⟨λb o e n hb hx=>?_,λb o e n hb hx=>?_,λb o e n hx=>?_,λb o e hx=>?_,λb xs e=>mq b xs (I.base.mq b xs e),λb o xs e=>k_ b o xs (I.base.k_ b o xs e),λb ps e=>?_⟩,?_,λx c e=>?_,?_,λx c e=>?_,λp hp=>?_,cx,I.len⟩
 ·exact keep b o (Pf b o e) hb (E9 b o e hx) (I.base.keep b o e n hb hx) (I.base.free b o e n hx)
 ·obtain⟨sl,e1⟩:=I.base.slot b o e n hb hx;obtain⟨Z_,e2⟩:=slot b _ (Pf b o e) hb (E9 b o e hx) e1 (I.base.free b o e n hx);exact⟨Z_,e2⟩
 ·obtain⟨o',e1⟩:=I.base.there b o e hx;exact free b o' (E9 b o e hx) e1 (I.base.free b o e n hx)
 ·obtain⟨o',e1⟩:=I.base.there b o e hx;exact there b o' (E9 b o e hx) e1
 ·obtain⟨m1,e1⟩:=I.base.mj b ps e;obtain⟨m2,e2⟩:=mj b _ e1;exact⟨m1++m2,by rw[e2,Array.append_assoc]⟩
 ·obtain⟨m,hn,hl⟩:=I.loc;refine⟨m,ns m hn,λi x v e1 e2 e3=>?_⟩
  obtain⟨u,r,l⟩:=hl i x v e1 e2 e3;refine⟨u,r,?_⟩;rcases l with l|⟨k,c,e,z⟩
  ·exact .inl l
  ·exact .inr ⟨k,c,e,cellK x c e _ z⟩
 ·obtain⟨v,z⟩:=I.cell x c e;exact⟨v,cellK x c e v z⟩
 ·obtain⟨m,⟨o,_,_,ho,_⟩,_⟩:=I.loc;exact free _ o (λz=>(qH _ z).2.1 rfl) ho I.free
 ·obtain⟨v,o,ho,hd⟩:=I.cell x c e;exact free c o (λz=>(qH c z).2.2.1 x c e rfl) ho (I.ib x c e)
 ·obtain⟨e,n,ne,nf,d⟩:=I.pin p hp;have Cj:p.1∉ch:=λz=>(qH p.1 z).2.2.2 p hp rfl
  exact⟨keep p.1 p.2 ne nf Cj e n,free p.1 p.2 Cj e n,ne,nf,d⟩
theorem Inv.un{t':Nat}(I:Inv X pins Z H s)(u:Un X.fs [] H H' s.heap h')(cx:jQ X.prog X.w H' h'):Inv X pins Z H' { s with heap:=h',toks:=t'}:=by
 obtain⟨m,⟨o,es,ep,ho,r⟩,_⟩:=id I.loc;obtain⟨sl,hL⟩:=u.any ho I.free (by simp)
 exact I.step (g':=s.gens) (d':=s.drawn) (ch:=[]) (λ_ z=>nomatch z) (λb o _ hb _ e n=>u.keep b o e n hb (by simp)) (λb o _ hb _ e n=>u.slot b o e n hb (by simp)) (λb o _ e n=>u.free b o e n (by simp)) (λb o _ e=>u.there b o e (by simp)) u.mq u.k_ u.mj (λm' hm=>by
  obtain⟨o',Jh,tZ,rG,r'⟩:=hm;rw[ho] at rG;cases rG;exact⟨_,Jh,tZ,hL,r'⟩) cx I.bare
theorem Inv.call{g':Array GenState}{t':Nat}{d':Drawn}{ch:List Addr}(I:Inv X pins Z H s)(u:Un (pO X.stack) ch H H' s.heap h')(cx:jQ X.prog X.w H' h')(hg:AllBare g')
  (qH:∀b∈ch,(b∈X.ex\/X.s₀.heap.objs.size<=b)/\b≠X.env.locals/\(∀x c,X.env.cells.lookup x=some c->c≠b)/\∀p∈X.pn++pins,p.1≠b) :
  Inv X pins Z H' { s with heap:=h',gens:=g',drawn:=d',toks:=t'}:=by
 obtain⟨m,⟨o,es,ep,ho,r⟩,_⟩:=id I.loc;obtain⟨sl,hL⟩:=u.any ho I.free λz=>(qH _ z).2.1 rfl
 exact I.step (ch:=ch) qH (λb o hL hb hc e n=>u.keep b o e n (λz=>(dZ.mp (I.kH b z)).elim hL hb) hc) (λb o _ _ hc e n=>u.any e n hc) (λb o hc e n=>u.free b o e n hc) (λb o hc e=>u.there b o e hc) u.mq u.k_ u.mj (λm' hm=>by
  obtain⟨o',Jh,tZ,rG,r'⟩:=hm;rw[ho] at rG;cases rG;exact⟨_,Jh,tZ,hL,r'⟩) cx hg
theorem Inv.turned{t':Nat}{it:Addr}(I:Inv X pins Z H s)(k:∀b o,b≠it->s.heap.get? b=some o->h'.get? b=some o)(hn:H it=none)(hL:it≠X.env.locals)
  (h1:it∈X.ex\/X.s₀.heap.objs.size<=it) (h2:∀x c,X.env.cells.lookup x=some c->c≠it) (h3:∀p∈X.pn++pins,p.1≠it):Inv X pins Z H { s with heap:=h',toks:=t'}:=by
 have Pg:∀b u,H b=some u->b≠it:=λb u e z=>by rw[z,hn] at e;cases e
 refine I.step (g':=s.gens) (d':=s.drawn) (ch:=[it]) (λb hb=>?_) (λb o _ _ hc e _=>k b o (λz=>hc (by simp[z])) e) (λb o _ _ hc e _=>⟨o.slots,k b o (λz=>hc (by simp[z])) e⟩) (λ_ _ _ _ n=>n)
  (λb o hc e=>⟨o,k b o (λz=>hc (by simp[z])) e⟩) (λ_ _ e=>e) (λ_ _ _ e=>e) (λb ps e=>⟨#[],by rw[e];simp⟩) (λm hm=>?_) (λb u e=>?_) I.bare
 ·have e:b=it:=by simpa using hb
  subst e;exact⟨h1,hL,h2,h3⟩
 ·obtain⟨o,es,ep,ho,r⟩:=hm;exact⟨o,es,ep,k _ o (Ne.symm hL) ho,r⟩
 ·refine(I.cx b u e).nj (λc v hc q=>k c v ?_ q) (λ_ q=>q) λ_ _ q=>q
  rcases hc with z|z
  ·rw[z];exact Pg b u e
  ·exact Pg c _ z
theorem Inv.tok(I:Inv X pins Z H s)(t:Nat):Inv X pins Z H { s with toks:=t}:=I.un (h':=s.heap) (t':=t) Un.refl I.cx
theorem Inv.kept{t':Nat}(I:Inv X pins Z H s)(k:∀b u,s.heap.get? b=some u->h'.get? b=some u):Inv X pins Z H { s with heap:=h',toks:=t'}:=I.un (Un.kept k) (I.cx.kept k)
theorem Inv.laid{a:Addr}{o:HO}{t':Nat}(I:Inv X pins Z H s)(k:∀b u,s.heap.get? b=some u->h'.get? b=some u)(hp:s.heap.objs.size<=a)(new:cb X.prog X.w (upd H a o) h' a o):
  Inv X pins Z (upd H a o) { s with heap:=h',toks:=t'}:=I.un (Un.laid k hp (I.cx.fresh hp)) (I.cx.laid k hp new)
theorem Inv.write{x e:Addr}{o:HO}{t':Nat}(I:Inv X pins Z H s)(mu:zJ (H x))(he:e=x\/H e=some (.own x))(k:∀b u,b≠e->s.heap.get? b=some u->h'.get? b=some u)(y6:∃u,h'.get? e=some u)
  (new:cb X.prog X.w (upd H x o) h' x o):Inv X pins Z (upd H x o) { s with heap:=h',toks:=t'}:=I.un (Un.write mu he k y6) (I.cx.write mu he k y6 new)
theorem Inv.j5{rU:List (Addr×Obj)}(I:Inv X pins Z H s)(h:∀p∈rU,s.heap.get? p.1=some p.2/\H p.1=none/\p.1≠X.env.locals/\p.1∉X.fs/\∀v,p.2.data≠.cell v):Inv X rU Z H s:=
 ⟨I.ok,I.os,I.bare,I.base,I.loc,I.cell,I.free,I.ib,λp hp=>(jw.mp hp).elim (λz=>I.pin p (lx _ z)) (h p),I.cx,I.len⟩
theorem Hk{N:List Str}(hN:N.Nodup){i j:Nat}{x:Str}(a:N[i]?=some x)(b:N[j]?=some x):i=j:=by
 obtain⟨h1,e1⟩:=iq.mp a;obtain⟨h2,e2⟩:=iq.mp b;exact(FA hN).mp (e1.trans e2.symm)
theorem Ly{M:Model}{A:Around}{E:Value->Shared->Prop}{i:Nat}{x:Str}{v:V}{u:Value}{Q:Unit->Shared->Prop}(I:Inv X pins Z H s)(hN:X.N.Nodup)(hi:X.N[i]?=some x)(hx:Loc X.env.scope x)(r:RelV v u)
  (h:∀s',Inv X pins (Z.set i (some v)) H s'->(∃a,Heap.SameBut a s.heap s'.heap/\(a=X.env.locals\/X.env.cells.lookup x=some a))->Q () s') (hf:X.fn x=true\/X.env.scope.names.lookup x=some .local := by first|exact .inl rfl|exact .inr rfl|assumption):wpAny M A (storeName X.env x u) Q E s:=by
 obtain⟨m,hn,hl⟩:=id I.loc;have JB:(X.env.scope.kind == .class || (X.env.scope.kind == .module && X.env.locals != X.env.globals))=false:=by rw[I.ok.kind];rfl
 have O3:i < Z.length:=by rw[I.len];exact(iq.mp hi).1
 have wJ:=I.wJ;have tracked:∀{a:Addr} {h':Heap},(∃o,s.heap.get? a=some o/\H a=none)->Heap.SameBut a s.heap h'->jQ X.prog X.w H h':=λ{a h'} ha hs b ob e=>by
  obtain⟨_,_,vc⟩:=ha;refine(I.cx b ob e).nj (λc w' hc q=>(hs.2 c ?_).trans q) (λ_ q=>q) λ_ _ q=>q
  rintro rfl;rcases hc with rfl|hc
  ·rw[vc] at e;cases e
  ·rw[vc] at hc;cases hc
 rcases hx with hk|hk
 ·refine wpAny_storeName_local hk hn (λh' Zk hs=>?_) JB
  obtain⟨oL,_,_,E3,_⟩:=id hn;refine h _ ⟨I.ok,I.os,I.bare,⟨λb o e n hb hx=>?_,λb o e n hb hx=>?_,I.base.free,λb o e hx=>?_,I.base.mq,I.base.k_,I.base.mj⟩,⟨_,Zk,λj y v' e1 e2 e3=>?_⟩,λy c e=>?_,I.free,I.ib,λp hp=>?_,tracked ⟨oL,E3,I.free⟩ hs,by simpa using I.len⟩ ⟨_,hs,.inl rfl⟩
  ·exact(hs.2 b (i8 (i_ (fF e) I.ok.above))).trans (I.base.keep b o e n hb hx)
  ·obtain⟨sl,e1⟩:=I.base.slot b o e n hb hx;exact⟨sl,(hs.2 b (i8 (i_ (fF e) I.ok.above))).trans e1⟩
  ·obtain⟨o',e1⟩:=I.base.there b o e hx;exact⟨o',(hs.2 b (i8 (i_ (fF e) I.ok.above))).trans e1⟩
  ·by_cases hj:j=i
   ·subst hj;rw[hi] at e1;cases e1;rw[List.getElem?_set_self O3] at e2;cases e2;exact⟨u,r,.inl ⟨hk,by simp⟩⟩
   ·rw[FC (Ne.symm hj)] at e2;obtain⟨u',r',q⟩:=hl j y v' e1 e2 e3;refine⟨u',r',?_⟩;rcases q with⟨k,e⟩|⟨k,c,e,z⟩
    ·refine .inl ⟨k,?_⟩;have:y≠x:=λe=>hj (Hk hN e1 (e ▸ hi))
     simp[this,e]
    ·exact .inr ⟨k,c,e,z.sameBut hs (wJ y c e)⟩
  ·obtain⟨w',z⟩:=I.cell y c e;exact⟨w',z.sameBut hs (wJ y c e)⟩
  ·obtain⟨e,n,ne,nf,d⟩:=I.pin p hp;exact⟨(hs.2 p.1 ne).trans e,n,ne,nf,d⟩
 ·have JF:X.fn x=true:=by
   rcases hf with z|z
   ·exact z
   ·rw[z] at hk;cases hk
  obtain⟨c,hc⟩:=I.ok.has x (.inl hk);obtain⟨w',z⟩:=I.cell x c hc;refine wpAny_storeName_cell I.ok.kind hk hc z (λh' xf hs=>?_)
  obtain⟨oc,O6,JQ⟩:=id z;refine h { s with heap:=h'} ⟨I.ok,I.os,I.bare,⟨λb o e n hb hx=>?_,λb o e n hb hx=>?_,I.base.free,λb o e hx=>?_,I.base.mq,I.base.k_,I.base.mj⟩,⟨m,hn.sameBut hs (Ne.symm (wJ x c hc)),λj y v' e1 e2 e3=>?_⟩,λy c' e=>?_,I.free,I.ib,λp hp=>?_,tracked ⟨oc,O6,I.ib x c hc⟩ hs,by simpa using I.len⟩ ⟨c,hs,.inr hc⟩
  ·exact(hs.2 b (i8 (i_ (fF e) (I.ok.AY x c JF hc)))).trans (I.base.keep b o e n hb hx)
  ·obtain⟨sl,e1⟩:=I.base.slot b o e n hb hx;exact⟨sl,(hs.2 b (i8 (i_ (fF e) (I.ok.AY x c JF hc)))).trans e1⟩
  ·obtain⟨o',e1⟩:=I.base.there b o e hx;exact⟨o',(hs.2 b (i8 (i_ (fF e) (I.ok.AY x c JF hc)))).trans e1⟩
  ·by_cases hj:j=i
   ·subst hj;rw[hi] at e1;cases e1;rw[List.getElem?_set_self O3] at e2;cases e2;exact⟨u,r,.inr ⟨.inl hk,c,hc,xf⟩⟩
   ·rw[FC (Ne.symm hj)] at e2;obtain⟨u',r',q⟩:=hl j y v' e1 e2 e3;refine⟨u',r',?_⟩;rcases q with q|⟨k,c',e,z'⟩
    ·exact .inl q
    ·refine .inr ⟨k,c',e,z'.sameBut hs ?_⟩;rintro rfl;exact hj (Hk hN e1 (I.ok.inj _ _ _ e hc ▸ hi))
  ·by_cases OY:c'=c
   ·subst OY;exact⟨_,xf⟩
   ·obtain⟨w2,z2⟩:=I.cell y c' e;exact⟨w2,z2.sameBut hs OY⟩
  ·obtain⟨e,n,ne,nf,d⟩:=I.pin p hp;refine⟨(hs.2 p.1 ?_).trans e,n,ne,nf,d⟩;intro q;rw[q,O6] at e;have q':oc=p.2:=Option.some.inj e;exact d w' (by rw[<-q'];exact JQ)
theorem Mc{M:Model}{A:Around}{E:Value->Shared->Prop}{i:Nat}{x:Str}{v:V}{u:Value}{Q:Unit->Shared->Prop}(I:Inv X pins Z H s)(hN:X.N.Nodup)(hi:X.N[i]?=some x)(hx:Loc X.env.scope x)(r:RelV v u)
  (h:∀s',Inv X pins (Z.set i (some v)) H s'->Q () s') (hf:X.fn x=true\/X.env.scope.names.lookup x=some .local := by first|exact .inl rfl|exact .inr rfl|assumption):wpAny M A (storeName X.env x u) Q E s:=
 Ly I hN hi hx r (λs' I' _=>h s' I') hf
theorem Inv.AZ{s':Shared}{ch:List Addr}(I:Inv X pins Z H s)(ho:s'.os=s.os)(u:Un (pO X.stack) ch H H' s.heap s'.heap)(cx:jQ X.prog X.w H' s'.heap)(hg:AllBare s'.gens)
  (qH:∀b∈ch,(b∈X.ex\/X.s₀.heap.objs.size<=b)/\b≠X.env.locals/\(∀x c,X.env.cells.lookup x=some c->c≠b)/\∀p∈X.pn++pins,p.1≠b):Inv X pins Z H' s':=by
 obtain⟨h',g',d',t',o'⟩:=s';have e:o'=s.os:=ho;subst e;exact I.call (g':=g') (t':=t') (d':=d') u cx hg qH
end
abbrev XK:=Value->Option Addr->Hp->Prop
abbrev St:=List (Option V)
abbrev VK:=V->Hp->Prop
abbrev TE:=St->Hp->VK->Prop
abbrev TT:=St->Hp->(Bool->Hp->Prop)->Prop
abbrev TA:=St->Hp->(List V->Hp->Prop)->Prop
set_option genInjectivity false in
structure Ends where
 nx:St->Hp->Prop
 rt:VK
 bk:St->Hp->Prop:=λ_ _=>False
 ct:St->Hp->Prop:=λ_ _=>False
abbrev TS:=Ends->St->Hp->Prop
def EP(X:Cx)(pins:List (Addr×Obj))(Z:St)(Q:VK)(u:Value)(s':Shared):Prop:=∃v H',Inv X pins Z H' s'/\RelV v u/\Q v H'
def TP(X:Cx)(pins:List (Addr×Obj))(Z:St)(Q:Bool->Hp->Prop)(b:Bool)(s':Shared):Prop:=∃H',Inv X pins Z H' s'/\Q b H'
def AP(X:Cx)(pins:List (Addr×Obj))(Z:St)(Q:List V->Hp->Prop)(us:List Value)(s':Shared):Prop:=∃vs H',Inv X pins Z H' s'/\Vals vs us/\Q vs H'
def SP(X:Cx)(pins:List (Addr×Obj))(D:Ends)(f:Flow)(s':Shared):Prop:=
 match f with
 |.next=>∃Z' H',Inv X pins Z' H' s'/\D.nx Z' H'
 |.brk=>∃Z' H',Inv X pins Z' H' s'/\D.bk Z' H'
 |.cont=>∃Z' H',Inv X pins Z' H' s'/\D.ct Z' H'
 |.ret u=>∃v Z' H',Inv X pins Z' H' s'/\RelV v u/\D.rt v H'
def PE(X:Cx)(e:Expr)(t:TE):Prop:=
 ∀(pins:List (Addr×Obj)) (s:Shared) (Z:St) (H:Hp) (Q:VK),Inv X pins Z H s->t Z H Q->wpAny (model X.prog X.w) X.A (eval e X.env) (EP X pins Z Q) X.xe s
def PT(X:Cx)(e:Expr)(t:TT):Prop:=
 ∀(pins:List (Addr×Obj)) (s:Shared) (Z:St) (H:Hp) (Q:Bool->Hp->Prop),Inv X pins Z H s->t Z H Q->wpAny (model X.prog X.w) X.A (isTrue e X.env (eval e X.env)) (TP X pins Z Q) X.xe s
def PW(X:Cx)(e:Expr)(t:TT):Prop:=
 ∀(whole:Sem Value) (pins:List (Addr×Obj)) (s:Shared) (Z:St) (H:Hp) (Q:Bool->Hp->Prop),Inv X pins Z H s->t Z H Q->wpAny (model X.prog X.w) X.A (isTrue e X.env whole) (TP X pins Z Q) X.xe s
theorem PW.pt{X:Cx}{e:Expr}{t:TT}(h:PW X e t):PT X e t:=h _
def PA(X:Cx)(es:List Expr)(t:TA):Prop:=
 ∀(pos:Pos) (pins:List (Addr×Obj)) (s:Shared) (Z:St) (H:Hp) (Q:List V->Hp->Prop),Inv X pins Z H s->t Z H Q->wpAny (model X.prog X.w) X.A (spliced (backTo pos (starEach es X.env))) (AP X pins Z Q) X.xe s
def PS(X:Cx)(st:Stmt)(t:TS):Prop:=
 ∀(pins:List (Addr×Obj)) (s:Shared) (Z:St) (H:Hp) (D:Ends),Inv X pins Z H s->t D Z H->wpAny (model X.prog X.w) X.A (exec st X.env) (SP X pins D) X.xe s
def jt(X:Cx)(st:List Stmt)(t:TS):Prop:=
 ∀(pins:List (Addr×Obj)) (s:Shared) (Z:St) (H:Hp) (D:Ends),Inv X pins Z H s->t D Z H->wpAny (model X.prog X.w) X.A (execs st X.env) (SP X pins D) X.xe s
theorem ck{α:Type}{t:Sem α}{Q Q':α->Shared->Prop}{M:Model}{A:Around}{E:Value->Shared->Prop}{s:Shared}(h:wpAny M A t Q E s)(hQ:∀a s,Q a s->Q' a s):wpAny M A t Q' E s:=wpAny_mono h hQ λ_ _ x=>x
section
variable {X:Cx}
def kJ(i:Nat):TE:=λZ H Q=>∃v,Z[i]?=some (some v)/\Q v H
def tC(v:V):TE:=λ_ H Q=>Q v H
theorem Wr{i:Nat}{x:Str}{pos:Pos}(hN:X.N[i]?=some x)(hv:Dh X.env.scope x)(hd:(x == ("__debug__":Str))=false:=by decide)(pQ:(x == ("__classdict__":Str))=false:=by decide):PE X (.Name x pos) (kJ i):=by
 intro pins s Z H Q I h;obtain⟨v,e,h⟩:=h;obtain⟨m,hn,hl⟩:=I.loc;obtain⟨u,r,l⟩:=hl i x v hN e hv;have fin:EP X pins Z Q u s:=⟨v,H,I,r,h⟩;rcases l with⟨hk,hm⟩|⟨hk,c,hc,oR⟩
 ·exact wpAny_Name (wpAny_loadName_local I.ok.kind hk hn hm fin) hd
 ·rcases hk with hk|hk
  ·exact wpAny_Name (wpAny_loadName_cell I.ok.kind hk hc oR fin) hd
  ·exact wpAny_Name (wpAny_loadName_free I.ok.kind hk hc oR fin pQ) hd
theorem Iu{i j pos}:PE X (.Constant (.int i) j pos) (tC (.int i)):=λ_ _ _ H _ I h=>wpAny_Constant_int ⟨.int i,H,I.tok _,⟨_,rfl⟩,h⟩
theorem qD{b j pos}:PE X (.Constant (.bool b) j pos) (tC (.bl b)):=λ_ _ _ H _ I h=>Constant_bool ⟨.bl b,H,I,rfl,h⟩
theorem yy{j pos}:PE X (.Constant .none j pos) (tC .aI):=λ_ _ _ H _ I h=>Constant_none ⟨.aI,H,I,rfl,h⟩
theorem Ws{x j pos}:PE X (.Constant (.str x) j pos) (tC (.str x)):=λ_ _ _ H _ I h=>Calls.Constant_str ⟨.str x,H,I.tok _,⟨_,rfl⟩,h⟩
def Gl(X:Cx)(x:Str):Prop:=X.env.kindOf x=some .globalImplicit
theorem HR{E:Value->Shared->Prop}{pins:List (Addr×Obj)}{s:Shared}{Z:St}{H:Hp}{x:Str}{u:Value}{pos:Pos}{Q:Value->Shared->Prop}(I:Inv X pins Z H s)(hg:Gl X x)(hm:X.mg x=some u)(h:Q u s)
  (hd:(x == ("__debug__":Str))=false:=by decide):wpAny (model X.prog X.w) X.A (eval (.Name x pos) X.env) Q E s:=
 Calls.Name_function_global I.ok.kind hg (Calls.loadGlobal_global (by rw[I.ok.glob];exact I.mod.glob.keeps I.bk) hm h) hd
theorem wo{E:Value->Shared->Prop}{pins:List (Addr×Obj)}{s:Shared}{Z:St}{H:Hp}{x:Str}{u:Value}{pos:Pos}{Q:Value->Shared->Prop}(I:Inv X pins Z H s)(hg:Gl X x)(hm:X.mg x=none)(hv:bootBuiltins x=some u)(h:Q u s)
  (hn:x≠"__name__":=by decide) (hd:(x == ("__debug__":Str))=false:=by decide):wpAny (model X.prog X.w) X.A (eval (.Name x pos) X.env) Q E s:=by
 obtain⟨mb,h1,h2⟩:=I.mod.blt;exact Calls.Name_function_global I.ok.kind hg (Calls.loadGlobal_builtin (by rw[I.ok.glob];exact I.mod.glob.keeps I.bk) hm (by rw[I.ok.blt];exact h1.keeps I.bk) ((h2 x hn).trans hv) h) hd
theorem MV{x:Str}{v:V}{u:Value}{pos:Pos}(hg:Gl X x)(hm:X.mg x=some u)(r:RelV v u)(hd:(x == ("__debug__":Str))=false:=by decide):PE X (.Name x pos) (tC v):=
 λ_ _ _ H _ I h=>HR I hg hm ⟨v,H,I,r,h⟩ hd
theorem UA{x:Str}{v:V}{u:Value}{pos:Pos}(hg:Gl X x)(hm:X.mg x=none)(hv:bootBuiltins x=some u)(r:RelV v u)(hn:x≠"__name__":=by decide)(hd:(x == ("__debug__":Str))=false:=by decide):PE X (.Name x pos) (tC v):=
 λ_ _ _ H _ I h=>wo I hg hm hv ⟨v,H,I,r,h⟩ hn hd
variable {a b:Expr} {ta tb:TE} {pos:Pos}
def tB(t:TE):TT:=λZ H Q=>t Z H λx H1=>∃c,x=.bl c/\Q c H1
variable {tA Fh:TT} {rest:List Expr}
def Kk(t u:TT):TT:=λZ H Q=>t Z H λc H1=>if c=true then u Z H1 Q else Q false H1
def tOr(t u:TT):TT:=λZ H Q=>t Z H λc H1=>if c=true then Q true H1 else u Z H1 Q
def Kp(t:TT):TT:=λZ H Q=>t Z H λc H1=>Q (!c) H1
theorem UB(ha:PT X a tA):PW X (.BoolOp .And [a] pos) tA:=by
 intro wh pins s Z H Q I h;refine isTrue_and (ck (ha pins s Z H Q I h) λc s1 e=>?_)
 cases c with
 |true=>exact isTrue_and_nil e
 |false=>exact e
theorem Wt(ha:PT X a tA):PW X (.BoolOp .Or [a] pos) tA:=by
 intro wh pins s Z H Q I h;refine isTrue_or (ck (ha pins s Z H Q I h) λc s1 e=>?_)
 cases c with
 |false=>exact isTrue_or_nil e
 |true=>exact e
theorem Wu(ha:PT X a tA)(hb:PW X (.BoolOp .And (b::rest) pos) Fh):PW X (.BoolOp .And (a::b::rest) pos) (Kk tA Fh):=by
 intro wh pins s Z H Q I h;refine isTrue_and (ck (ha pins s Z H _ I h) λc s1 hh=>?_)
 obtain⟨H1,I1,q1⟩:=hh;cases c with
 |true=>exact hb wh pins s1 Z H1 Q I1 q1
 |false=>exact⟨H1,I1,q1⟩
theorem XN(ha:PT X a tA)(hb:PW X (.BoolOp .Or (b::rest) pos) Fh):PW X (.BoolOp .Or (a::b::rest) pos) (tOr tA Fh):=by
 intro wh pins s Z H Q I h;refine isTrue_or (ck (ha pins s Z H _ I h) λc s1 hh=>?_)
 obtain⟨H1,I1,q1⟩:=hh;cases c with
 |true=>exact⟨H1,I1,q1⟩
 |false=>exact hb wh pins s1 Z H1 Q I1 q1
theorem Wv(ha:PT X a tA):PT X (.UnaryOp .Not a pos) (Kp tA):=by
 intro pins s Z H Q I h;exact isTrue_not (ha pins s Z H (λc H1=>Q (!c) H1) I h)
def CG(ta tb:TE):TE:=λZ H Q=>ta Z H λx H1=>∃c,x=.bl c/\if c=true then tb Z H1 Q else Q (.bl false) H1
def CM(ta:TE):TE:=λZ H Q=>ta Z H λx H1=>∃c,x=.bl c/\Q (.bl (!c)) H1
theorem Ww{op}{t:TE}(h:PE X a t):PE X (.BoolOp op [a] pos) t:=λpins s Z H Q I hw=>BoolOp_one (h pins s Z H Q I hw)
theorem Wx(ha:PE X a ta)(hb:PE X (.BoolOp .And (b::rest) pos) tb):PE X (.BoolOp .And (a::b::rest) pos) (CG ta tb):=by
 intro pins s Z H Q I h;refine BoolOp_and (ck (ha pins s Z H _ I h) λv s1 hh=>?_)
 obtain⟨x,H1,I1,r1,q1⟩:=hh;obtain⟨c,rfl,q1⟩:=q1;cases r1;refine wpAny_truthy_bool ?_;cases c with
 |true=>exact hb pins s1 Z H1 Q I1 q1
 |false=>exact⟨.bl false,H1,I1,rfl,q1⟩
theorem Wy(ha:PE X a ta):PE X (.UnaryOp .Not a pos) (CM ta):=by
 intro pins s Z H Q I h;refine UnaryOp_ (ck (ha pins s Z H _ I h) λv s1 hh=>?_)
 obtain⟨x,H1,I1,r1,q1⟩:=hh;obtain⟨c,rfl,q1⟩:=q1;cases r1;exact not_of (wpAny_truthy_bool ⟨.bl (!c),H1,I1,rfl,q1⟩)
def tIf(t:TT)(ta tb:TE):TE:=λZ H Q=>t Z H λc H1=>if c=true then ta Z H1 Q else tb Z H1 Q
theorem SY{c:Expr}(hc:PT X c tA)(ha:PE X a ta)(hb:PE X b tb):PE X (.IfExp c a b pos) (tIf tA ta tb):=by
 intro pins s Z H Q I h;refine wpAny_IfExp (ck (hc pins s Z H _ I h) λd s1 hh=>?_)
 obtain⟨H1,I1,q1⟩:=hh;cases d with
 |true=>exact ha pins s1 Z H1 Q I1 q1
 |false=>exact hb pins s1 Z H1 Q I1 q1
end
def dq(K:L2.FG)(H:Hp)(a:Addr)(xs:List V):Prop:=
 Rd H a (.lst xs)\/
  ∃(o:Obj) (aG:Array Value) (n:Nat),K.lookup a=some o/\o.cls=.type "list"/\o.dict=none/\o.data=.seq aG n/\aG.size<=sizeLine/\Vals xs aG.toList
def iL(K:L2.FG)(H:Hp)(a:Addr)(xs:List V):Prop:=
 Rd H a (.tup xs)\/
  ∃(o:Obj) (aG:Array Value) (n:Nat),K.lookup a=some o/\o.cls=.type "tuple"/\o.data=.seq aG n/\aG.size<=sizeLine/\Vals xs aG.toList
noncomputable def Gv:Value->Option V
 |.none=>some .aI
 |.bool b=>some (.bl b)
 |.int i _=>some (.int i)
 |.str x _=>some (.str x)
 |.bytes b _=>some (.uX b)
 |.float b _=>some (.u_ b)
 |.ref a=>some (.ref a)
 |.type n=>some (.ty n)
 |_=>none
theorem RelV.abs{x:V}{u:Value}(r:RelV x u):Gv u=some x:=by
 cases x with
 |aI=>cases r;rfl
 |bl _=>cases r;rfl
 |int _=>obtain⟨t,rfl⟩:=r;rfl
 |str _=>obtain⟨t,rfl⟩:=r;rfl
 |uX _=>obtain⟨t,rfl⟩:=r;rfl
 |u_ _=>obtain⟨t,rfl⟩:=r;rfl
 |ref _=>cases r;rfl
 |ty _=>cases r;rfl
theorem RelV.inj{x y:V}{u:Value}(r:RelV x u)(q:RelV y u):x=y:=Option.some.inj (r.abs.symm.trans q.abs)
theorem Vals.inj{xs ys:List V}{us:List Value}(h:Vals xs us)(h':Vals ys us):xs=ys:=by
 induction h generalizing ys with
 |nil=>cases h';rfl
 |cons r t ih=>
  cases h' with
  |cons r' t'=>rw[r.inj r',ih t']
section
variable {X:Cx} {pins:List (Addr×Obj)} {Z:St} {H:Hp} {s:Shared} {a:Addr} {xs ys:List V}
theorem dq.of{K:L2.FG}(h:H a=some (.lst xs)):dq K H a xs:=.inl (.inl h)
theorem iL.of{K:L2.FG}(h:H a=some (.tup xs)):iL K H a xs:=.inl (.inl h)
theorem Inv.list(I:Inv X pins Z H s)(h:dq X.K H a xs):∃aG:List Value,Vals xs aG/\PlainL s.heap a aG.toArray/\xs.length<=sizeLine:=by
 rcases h with h|⟨o,aG,n,hk,hc,hd,hs,hz,r⟩
 ·obtain⟨z,aG,n,r,e⟩:=h.ok I.cx;exact⟨aG,r,⟨_,n,e,rfl,rfl,rfl⟩,z⟩
 ·refine⟨aG.toList,r,⟨o,n,I.lI a o hk,hc,hd,by simpa using hs⟩,?_⟩
  have e:=r.length;simp only[FD] at e;lia
theorem Inv.tuple(I:Inv X pins Z H s)(h:iL X.K H a xs):∃aG:List Value,Vals xs aG/\IsTup s.heap a aG.toArray/\xs.length<=sizeLine:=by
 rcases h with h|⟨o,aG,n,hk,hc,hs,hz,r⟩
 ·obtain⟨z,aG,r,p⟩:=h.ok I.cx;exact⟨aG,r,p,z⟩
 ·refine⟨aG.toList,r,⟨o,I.lI a o hk,hc,n,by simpa using hs⟩,?_⟩
  have e:=r.length;simp only[FD] at e;lia
theorem Inv.m7(I:Inv X pins Z H s)(h:dq X.K H a xs)(h':dq X.K H a ys):xs=ys:=by
 obtain⟨aG,r,⟨o,n,e,_,_,d⟩,_⟩:=I.list h;obtain⟨its',r',⟨o',n',e',_,_,d'⟩,_⟩:=I.list h';rw[e] at e';cases e';rw[d] at d';injection d' with d1 _;have:aG=its':=by simpa using congrArg Array.toList d1
 subst this;exact r.inj r'
theorem Inv.qa(I:Inv X pins Z H s)(h:iL X.K H a xs)(h':iL X.K H a ys):xs=ys:=by
 obtain⟨aG,r,⟨o,e,_,n,d⟩,_⟩:=I.tuple h;obtain⟨its',r',⟨o',e',_,n',d'⟩,_⟩:=I.tuple h';rw[e] at e';cases e';rw[d] at d';injection d' with d1 _;have:aG=its':=by simpa using congrArg Array.toList d1
 subst this;exact r.inj r'
end
noncomputable abbrev Cx.lr(X:Cx)(E:Value->Shared->Prop):Cx:={ X with xe:=E}
noncomputable abbrev Cx.zd(X:Cx):Cx:=X.lr λ_ _=>False
theorem Cx.Ok.lr{X:Cx}(ok:X.Ok)(E:Value->Shared->Prop):(X.lr E).Ok:=
 ⟨ok.mod,ok.kind,ok.glob,ok.blt,ok.above,ok.inj,ok.has,ok.AY,ok.hd,ok.frames,ok.Fg,ok.ON,ok.bs,ok.tX,ok.rN,ok.t4,ok.jU,ok.w9⟩
theorem Cx.Ok.ip{X:Cx}{E:Value->Shared->Prop}(ok:(X.lr E).Ok):X.Ok:=
 ⟨ok.mod,ok.kind,ok.glob,ok.blt,ok.above,ok.inj,ok.has,ok.AY,ok.hd,ok.frames,ok.Fg,ok.ON,ok.bs,ok.tX,ok.rN,ok.t4,ok.jU,ok.w9⟩
section
variable {X:Cx} {pins:List (Addr×Obj)} {Z:St} {H:Hp} {s:Shared} {E:Value->Shared->Prop}
theorem Inv.lr(I:Inv X pins Z H s)(E:Value->Shared->Prop):Inv (X.lr E) pins Z H s:=⟨I.ok.lr E,I.os,I.bare,I.base,I.loc,I.cell,I.free,I.ib,I.pin,I.cx,I.len⟩
theorem Inv.ip(I:Inv (X.lr E) pins Z H s):Inv X pins Z H s:=⟨I.ok.ip,I.os,I.bare,I.base,I.loc,I.cell,I.free,I.ib,I.pin,I.cx,I.len⟩
theorem SP.ip{D:Ends}{f:Flow}{s':Shared}(h:SP (X.lr E) pins D f s'):SP X pins D f s':=by
 cases f with
 |next=>obtain⟨Z',H',I,q⟩:=h;exact⟨Z',H',I.ip,q⟩
 |brk=>obtain⟨Z',H',I,q⟩:=h;exact⟨Z',H',I.ip,q⟩
 |cont=>obtain⟨Z',H',I,q⟩:=h;exact⟨Z',H',I.ip,q⟩
 |ret u=>obtain⟨v,Z',H',I,r,q⟩:=h;exact⟨v,Z',H',I.ip,r,q⟩
theorem jt.zd{st:List Stmt}{t:TS}(h:jt X.zd st t):jt X st t:=λpins s Z H D I hw=>
 wpAny_mono (h pins s Z H D (I.lr _) hw) (λ_ _ q=>q.ip) λ_ _ z=>False.elim z
end
section
variable {X:Cx} {st:Stmt} {rest:List Stmt} {t u:TS} {e:Expr} {te:TE} {pos:Pos}
def CK:TS:=λD Z H=>D.nx Z H
def Kr(t u:TS):TS:=λD Z H=>t { D with nx:=u D} Z H
theorem uw:jt X [] CK:=λ_ _ Z H _ I h=>wpAny_execs_nil ⟨Z,H,I,h⟩
theorem S2(h1:PS X st t)(h2:jt X rest u):jt X (st::rest) (Kr t u):=by
 intro pins s Z H D I h;refine wpAny_execs_cons (ck (h1 pins s Z H { D with nx:=u D} I h) λf s1 q=>?_)
 cases f with
 |next=>
  obtain⟨Z',H',I',q⟩:=q;exact h2 pins s1 Z' H' D I' q
 |ret v=>exact q
 |brk=>exact q
 |cont=>exact q
theorem UC(h1:PS X st t):jt X [st] t:=by
 intro pins s Z H D I h;refine wpAny_execs_cons (ck (h1 pins s Z H D I h) λf s1 q=>?_)
 cases f with
 |next=>exact wpAny_execs_nil q
 |ret v=>exact q
 |brk=>exact q
 |cont=>exact q
theorem Inv.quiet{pins:List (Addr×Obj)}{Z:St}{H:Hp}{s:Shared}(I:Inv X pins Z H s):interactive X.env=false:=by simp[interactive,I.ok.kind]
def CJ(te:TE):TS:=λD Z H=>te Z H λ_ H1=>D.nx Z H1
theorem UD(he:PE X e te)(hs:swapsWith e none pos.line X.env=pure false:=by rfl):PS X (.Expr e pos) (CJ te):=by
 intro pins s Z H D I h;exact wpAny_Expr_any (ck (he pins s Z H _ I h) λv s1 ⟨x,H1,I1,r1,q1⟩=>⟨Z,H1,I1,q1⟩) I.quiet hs
def Kq(te:TE):TS:=λD Z H=>te Z H D.rt
theorem Wz(he:PE X e te):PS X (.Return (some e) pos) (Kq te):=by
 intro pins s Z H D I h;exact wpAny_Return_some (ck (he pins s Z H _ I h) λv s1 ⟨x,H1,I1,r1,q1⟩=>⟨x,Z,H1,I1,r1,q1⟩)
def Kn(c:TT)(t u:TS):TS:=λD Z H=>c Z H λb H1=>if b=true then t D Z H1 else u D Z H1
theorem XO{c:Expr}{a b:List Stmt}{tc:TT}(hc:PT X c tc)(ha:jt X a t)(hb:jt X b u):PS X (.If c a b pos) (Kn tc t u):=by
 intro pins s Z H D I h;refine wpAny_If (ck (hc pins s Z H _ I h) λd s1 hh=>?_)
 obtain⟨H1,I1,q1⟩:=hh;cases d with
 |true=>exact ha pins s1 Z H1 D I1 q1
 |false=>exact hb pins s1 Z H1 D I1 q1
end
abbrev TG:=V->St->Hp->(St->Hp->Prop)->Prop
abbrev sj:=List V->St->Hp->(St->Hp->Prop)->Prop
def PG(X:Cx)(target:Expr)(t:TG):Prop:=
 ∀(pins:List (Addr×Obj)) (s:Shared) (Z:St) (H:Hp) (v:V) (u:Value) (Q:St->Hp->Prop),Inv X pins Z H s->RelV v u->t v Z H Q->
  wpAny (model X.prog X.w) X.A (assign target X.env u) (λ_ s'=>∃Z' H',Inv X pins Z' H' s'/\Q Z' H') X.xe s
def Df(X:Cx)(ts:List Expr)(t:sj):Prop:=
 ∀(pins:List (Addr×Obj)) (s:Shared) (Z:St) (H:Hp) (vs:List V) (us:List Value) (Q:St->Hp->Prop),Inv X pins Z H s->Vals vs us->t vs Z H Q->
  wpAny (model X.prog X.w) X.A (assignInOrder ((assignEach ts X.env).map (·.2)) us) (λ_ s'=>∃Z' H',Inv X pins Z' H' s'/\Q Z' H') X.xe s
abbrev pB:=V->V->V->Hp->(Hp->Prop)->Prop
def tF(X:Cx)(t:pB):Prop:=
 ∀(pins:List (Addr×Obj)) (s:Shared) (Z:St) (H:Hp) (o i v:V) (ov iv u:Value) (Q:Hp->Prop),Inv X pins Z H s->RelV o ov->RelV i iv->RelV v u->t o i v H Q->
  wpAny (model X.prog X.w) X.A (setItem ov iv u) (λ_ s'=>∃H',Inv X pins Z H' s'/\Q H') X.xe s
abbrev Dg:=V->V->Hp->VK->Prop
def KQ(X:Cx)(op:Operator)(t:Dg):Prop:=
 ∀(pins:List (Addr×Obj)) (s:Shared) (Z:St) (H:Hp) (x y:V) (v u:Value) (Q:VK),Inv X pins Z H s->RelV x v->RelV y u->t x y H Q->
  wpAny (model X.prog X.w) X.A (inplaceOp op v u) (EP X pins Z Q) X.xe s
section
variable {X:Cx} {pos:Pos}
def rC(i:Nat):TG:=λv Z H Q=>Q (Z.set i (some v)) H
theorem fg{i:Nat}{x:Str}(hN:X.N.Nodup)(hi:X.N[i]?=some x)(hx:Loc X.env.scope x)(hf:X.fn x=true\/X.env.scope.names.lookup x=some .local := by first|exact .inl rfl|exact .inr rfl|assumption):PG X (.Name x pos) (rC i):=by
 intro pins s Z H v u Q I r h;exact wpAny_assign_Name (Mc I hN hi hx r (λs' I'=>⟨_,H,I',h⟩) hf)
def BF:sj:=λvs Z H Q=>vs=[]/\Q Z H
def vb(t:TG)(u:sj):sj:=λvs Z H Q=>∃v r,vs=v::r/\t v Z H λZ' H'=>u r Z' H' Q
theorem wd:Df X [] BF:=by
 intro pins s Z H vs us Q I r h;obtain⟨e,h⟩:=h;subst e;cases r;exact assignInOrder_nil ⟨Z,H,I,h⟩
theorem lA{e:Expr}{es:List Expr}{t:TG}{u:sj}(h1:PG X e t)(h2:Df X es u)
  (hs:(assignEach (e::es) X.env).map (·.2)=assign e X.env::(assignEach es X.env).map (·.2):=by rfl):Df X (e::es) (vb t u):=by
 intro pins s Z H vs us Q I r h;obtain⟨v,vr,e1,h⟩:=h;subst e1;cases r with
 |cons r rr=>
  rw[hs];refine assignInOrder_cons (ck (h1 pins s Z H _ _ _ I r h) λ_ s1 hh=>?_)
  obtain⟨Z1,H1,I1,q1⟩:=hh;exact h2 pins s1 Z1 H1 _ _ Q I1 rr q1
def BG(K:L2.FG)(n:Nat)(t:sj):TG:=λv Z H Q=>∃a xs,v=.ref a/\iL K H a xs/\xs.length=n/\t xs Z H Q
theorem wq{es:List Expr}{k:Nat}{t:sj}{n:Nat}(hc:X.calm=true)(h:Df X es t)
  (hn:(assignEach es X.env).length=n:=by rfl) (sT:(assignEach es X.env).findIdx? (·.1)=none:=by rfl):PG X (.Tuple es k pos) (BG X.K n t):=by
 intro pins s Z H v u Q I r hw;obtain⟨a,xs,e1,hq,hl,hw⟩:=hw;subst e1;cases r;obtain⟨aG,rv,ht,hz⟩:=I.tuple hq;refine assign_Tuple_tuple (I.ok.hd hc) ht (by simp[hn,<-hl,rv.length]) sT λh' hx=>?_
 have I1:Inv X pins Z H { s with heap:=h'}:=I.kept (t':=s.toks) λb o e=>hx b o (i8 (fF e)) e
 exact h pins _ Z H xs _ Q I1 (by simpa using rv) hw
def Js(to ti:TE)(t:pB):TG:=λv Z H Q=>to Z H λo H1=>ti Z H1 λi H2=>t o i v H2 λH3=>Q Z H3
theorem NS{o i:Expr}{to ti:TE}{t:pB}(ho:PE X o to)(hi:PE X i ti)(hs:tF X t)
  (ha:∀v,assign (.Subscript o i pos) X.env v=(do
   let ov <-holding [v] (eval o X.env)
   let iv <-holding [v,ov] (eval i X.env)
   standAt pos
   holding [v,ov,iv] (setItem ov iv v)
   release [v,ov,iv] []):=by intro _;rfl):PG X (.Subscript o i pos) (Js to ti t):=by
 intro pins s Z H v u Q I r h;rw[ha];refine wpAny_bind (wpAny_holding (ck (ho pins s Z H _ I h) λov s1 hh=>?_))
 obtain⟨x,H1,I1,r1,q1⟩:=hh;refine wpAny_bind (wpAny_holding (ck (hi pins s1 Z H1 _ I1 q1) λiv s2 hh=>?_))
 obtain⟨y,H2,I2,r2,q2⟩:=hh;refine wpAny_bind (wpAny_standAt (wpAny_bind (wpAny_holding (ck (hs pins s2 Z H2 x y v ov iv u _ I2 r1 r2 r q2) λ_ s3 hh=>?_))))
 obtain⟨H3,I3,q3⟩:=hh;exact wpAny_release ⟨Z,H3,I3,q3⟩
def CH(te:TE)(g:TG):TS:=λD Z H=>te Z H λx H1=>g x Z H1 D.nx
theorem NT{tg e:Expr}{te:TE}{g:TG}(he:PE X e te)(hg:PG X tg g)(hs:swapsWithSole [tg] e pos.line X.env=pure false:=by rfl)(hw:swappedStores [tg] e X.env=pure none:=by rfl)
  (h1:(assignEach [tg] X.env).map (·.2)=[assign tg X.env]:=by rfl):PS X (.Assign [tg] e pos) (CH te g):=by
 intro pins s Z H D I h;refine wpAny_Assign_stores (ck (he pins s Z H _ I h) λv s1 hh=>?_) hs hw
 obtain⟨x,H1,I1,r1,q1⟩:=hh;rw[h1];exact ck (hg pins s1 Z H1 x v _ I1 r1 q1) λ_ s2 q=>q
theorem WA{i:Nat}{x:Str}{e:Expr}{te:TE}{pos':Pos}(hN:X.N.Nodup)(hi:X.N[i]?=some x)(hx:Loc X.env.scope x)(he:PE X e te)(hs:swapsWith e (some (.Name x pos')) pos.line X.env=pure false:=by rfl)(hf:X.fn x=true\/X.env.scope.names.lookup x=some .local := by first|exact .inl rfl|exact .inr rfl|assumption):
  PS X (.Assign [.Name x pos'] e pos) (CH te (rC i)):=by
 intro pins s Z H D I h;refine wpAny_Assign_Name (ck (he pins s Z H _ I h) λv s1 hh=>?_) hs
 obtain⟨y,H1,I1,r1,q1⟩:=hh;exact Mc I1 hN hi hx r1 (λs2 I2=>⟨_,H1,I2,q1⟩) hf
def CI(to ti te:TE)(tget:V->V->Hp->VK->Prop)(Fm:Dg)(tset:pB):TS:=λD Z H=>to Z H λo H1=>ti Z H1 λi H2=>tget o i H2 λx H3=>te Z H3 λy H4=>Fm x y H4 λz H5=>tset o i z H5 λH6=>D.nx Z H6
def FT(X:Cx)(t:V->V->Hp->VK->Prop):Prop:=
 ∀(pins:List (Addr×Obj)) (s:Shared) (Z:St) (H:Hp) (o i:V) (ov iv:Value) (Q:VK),Inv X pins Z H s->RelV o ov->RelV i iv->t o i H Q->
  wpAny (model X.prog X.w) X.A (getItem ov iv) (EP X pins Z Q) X.xe s
theorem UE{o i e:Expr}{to ti te:TE}{tget:V->V->Hp->VK->Prop}{Fm:Dg}{tset:pB}{op:Operator}{i6:Pos}(ho:PE X o to)(hi:PE X i ti)(hg:FT X tget)(he:PE X e te)(hp:KQ X op Fm)(hs:tF X tset)
  (ha:∀ov iv new,augStore i ov iv new=(do holding [new,ov,iv] (setItem ov iv new);release [new,ov,iv] [];pure .next):=by intros;rfl):PS X (.AugAssign (.Subscript o i i6) op e pos) (CI to ti te tget Fm tset):=by
 intro pins s Z H D I h;refine wpAny_AugAssign_SubscriptAny (ck (ho pins s Z H _ I h) λov s1 hh=>?_) ha
 obtain⟨x1,H1,I1,r1,q1⟩:=hh;refine ck (hi pins s1 Z H1 _ I1 q1) λiv s2 hh=>?_
 obtain⟨x2,H2,I2,r2,q2⟩:=hh;refine ck (hg pins s2 Z H2 x1 x2 ov iv _ I2 r1 r2 q2) λold s3 hh=>?_
 obtain⟨x3,H3,I3,r3,q3⟩:=hh;refine ck (he pins s3 Z H3 _ I3 q3) λv s4 hh=>?_
 obtain⟨x4,H4,I4,r4,q4⟩:=hh;refine ck (hp pins s4 Z H4 x3 x4 old v _ I4 r3 r4 q4) λnew s5 hh=>?_
 obtain⟨x5,H5,I5,r5,q5⟩:=hh;exact ck (hs pins s5 Z H5 x1 x2 x5 ov iv new _ I5 r1 r2 r5 q5) λ_ s6 ⟨H6,I6,q6⟩=>⟨Z,H6,I6,q6⟩
def ZA(f:Int->Int->Int):Dg:=λx y H Q=>∃i j,x=.int i/\y=.int j/\Q (.int (f i j)) H
theorem WB:KQ X .Add (ZA λi j=>i+j):=by
 intro pins s Z H x y v u Q I r1 r2 h;obtain⟨i,j,e1,e2,q⟩:=h;subst e1;subst e2;obtain⟨t,rfl⟩:=r1;obtain⟨t',rfl⟩:=r2;exact iadd_int ⟨.int _,H,I.tok _,⟨_,rfl⟩,q⟩
end
section
variable {X:Cx} {pos:Pos}
end
set_option genInjectivity false in
structure It where
 go:Nat->Hp->Prop
 vQ:Nat->Hp->V->Hp->Prop
 stop:Nat->Hp->Prop
def jz(X:Cx)(pins:List (Addr×Obj))(H:Hp)(b:Addr):Prop:=
 H b=none/\b≠X.env.locals/\b∉X.fs/\(b∈X.ex\/X.s₀.heap.objs.size<=b)/\(∀x c,X.env.cells.lookup x=some c->c≠b)/\∀p∈X.pn++pins,p.1≠b
theorem Inv.nW{X:Cx}{pins:List (Addr×Obj)}{Z:St}{H H':Hp}{s:Shared}{b:Addr}(I:Inv X pins Z H s)(hb:s.heap.objs.size<=b)(hn:H' b=none):jz X pins H' b:=by
 refine⟨hn,CV (i_ I.lt hb),I.xw hb,.inr (lQ I.sz hb),λx c e z=>?_,λp hp z=>?_⟩
 ·obtain⟨v,q⟩:=I.cell x c e;exact absurd (i_ q.lt (by rw[z];exact hb)) (o8 _)
 ·exact absurd (i_ (fF (I.pin p hp).1) (by rw[z];exact hb)) (o8 _)
structure Turn (P:Program) (w:World) (K:L2.FG) (tg:Expr) (J:It) (fp:List Addr) (it:Addr) (tn:Nat->Heap->Prop):Prop where
 mem:it∈fp
 obj:∀i h,tn i h->∀b∈fp,∃o,h.get? b=some o/\∀v,o.data≠.cell v
 keep:∀i h h',tn i h->(∀b∈fp,∀o,h.get? b=some o->h'.get? b=some o)->tn i h'
 item:∀(X:Cx),X.prog=P->X.w=w->X.K=K->X.calm=true->∀(i:Nat) (pins:List (Addr×Obj)) (s:Shared) (Z:St) (H:Hp) (E:Value->Shared->Prop),Inv X pins Z H s->(∀b∈fp,jz X pins H b)->tn i s.heap->J.go i H->
  wpAny (model P w) X.A (pyNext (.ref it)) (λr s1=>∃u,r=some u/\
   wpAny (model P w) X.A (letOwnedTupleGo tg (.ref it) u) (λ_ s2=>∃x H',Inv X pins Z H' s2/\RelV x u/\J.vQ i H x H'/\tn (i+1) s2.heap/\∀b∈fp,H' b=none) E s1) E s
 done:∀(X:Cx),X.prog=P->X.w=w->X.K=K->X.calm=true->∀(i:Nat) (pins:List (Addr×Obj)) (s:Shared) (Z:St) (H:Hp) (E:Value->Shared->Prop),Inv X pins Z H s->(∀b∈fp,jz X pins H b)->tn i s.heap->J.stop i H->
  wpAny (model P w) X.A (pyNext (.ref it)) (λr s1=>r=none/\Inv X pins Z H s1) E s
 self:∀(A:Around) (i:Nat) (s:Shared) (Q:Value->Shared->Prop) (E:Value->Shared->Prop),tn i s.heap->Q (.ref it) s->wpAny (model P w) A (pyIter (.ref it)) Q E s
abbrev TI:=St->Hp->(It->Hp->Prop)->Prop
def FU(X:Cx)(pins:List (Addr×Obj))(Z:St)(tg:Expr)(R:It->Hp->Prop)(E5:Value)(s2:Shared):Prop:=
 ∃(it:Addr) (fp:List Addr) (tn:Nat->Heap->Prop) (J:It) (H':Hp),E5=.ref it/\Inv X pins Z H' s2/\Turn X.prog X.w X.K tg J fp it tn/\tn 0 s2.heap/\(∀b∈fp,jz X pins H' b)/\R J H'
def PI(X:Cx)(tg iter:Expr)(wi:TI):Prop:=
 ∀(pins:List (Addr×Obj)) (s:Shared) (Z:St) (H:Hp) (R:It->Hp->Prop),Inv X pins Z H s->wi Z H R->
  wpAny (model X.prog X.w) X.A (eval iter X.env) (λv s1=>wpAny (model X.prog X.w) X.A (pyIter v) (FU X pins Z tg R) X.xe s1) X.xe s
theorem EE{M:Model}{A:Around}{E:Value->Shared->Prop}{s:Shared}{tg:Expr}{it:Addr}{u:Value}{o:Obj}{n:String}{vs:Array Value}{Q:Unit->Shared->Prop}(ho:s.heap.get? it=some o)(hc:o.cls=.type n)(hd:o.data=.fields vs)
  (hn:["enumerate","zip","dict_itemiterator","dict_reverseitemiterator","odict_iterator","itertools.zip_longest","itertools.pairwise"].contains n=false) (hQ:Q () s):wpAny M A (letOwnedTupleGo tg (.ref it) u) Q E s:=by
 unfold letOwnedTupleGo;cases tg <;> first
  |exact wpAny_pure hQ
  |(cases u <;> first
    |exact wpAny_pure hQ
    |(refine wpAny_bind (wpAny_load ho ?_)
      rw[hc,hd];show wpAny M A (if(["enumerate","zip","dict_itemiterator","dict_reverseitemiterator","odict_iterator","itertools.zip_longest","itertools.pairwise"].contains n && vs[0]? == some (rawInt _))=true then _ else _) Q E s
      rw[if_neg (by intro h;rw[hn,Bool.false_and] at h;cases h)]
      exact wpAny_pure hQ))
noncomputable def uH(K:L2.FG)(a:Addr):It:=
 ⟨λi H=>∃xs x,dq K H a xs/\xs[i]?=some x,λi H x H'=>H'=H/\∀xs,dq K H a xs->xs[i]?=some x,λi H=>∃xs,dq K H a xs/\xs.length<=i⟩
noncomputable def uI(lo:Int)(n:Nat):It:=⟨λi _=>i < n,λi H x H'=>H'=H/\x=.int (lo+i),λi _=>n<=i⟩
theorem Rp{P:Program}{w:World}{K:L2.FG}{tg:Expr}(a it:Addr):Turn P w K tg (uH K a) [it] it (λi h=>h.IsListIter it a i) where
 mem:=by simp
 obj:=λi h st b hb=>by
  have e:b=it:=by simpa using hb
  subst e;obtain⟨o,e,c,d⟩:=st;exact⟨o,e,λv z=>by rw[d] at z;cases z⟩
 keep:=λi h h' st k=>st.at λo e=>k it (by simp) o e
 item:=by
  intro X hP hw hK hc i pins s Z H E I hf st hg;subst hP hw hK;obtain⟨xs,x,hq,hx⟩:=hg;obtain⟨aG,rv,p,hz⟩:=I.list hq;obtain⟨u,hu,ru⟩:=rv.get hx;obtain⟨f0,f1,f2,f3,f4,f5⟩:=hf it (by simp)
  refine wpAny_pyNext_list_item st p.isList (x:=u) (by simpa using hu) λh' nI sb=>?_
  have I1:Inv X pins Z H { s with heap:=h'}:=I.turned (t':=s.toks) (λb o hb e=>(sb.2 b hb).trans e) f0 f1 f3 f4 f5
  obtain⟨o,e,c,d⟩:=id nI;exact⟨u,rfl,EE (s:={ s with heap:=h'}) e c d (by decide) ⟨x,H,I1,ru,⟨rfl,λys hy=>by rw[I.m7 hy hq];exact hx⟩,nI,λb hb=>(hf b hb).1⟩⟩
 done:=by
  intro X hP hw hK hc i pins s Z H E I hf st hg;subst hP hw hK;obtain⟨xs,hq,hx⟩:=hg;obtain⟨aG,rv,p,hz⟩:=I.list hq;obtain⟨f0,f1,f2,f3,f4,f5⟩:=hf it (by simp)
  have hl:=rv.length;exact wpAny_pyNext_list_end (I.ok.hd hc) st p.isList (by simp;lia) λh' eb=>⟨rfl,I.turned (t':=s.toks) (λb o hb e=>eb b o hb e) f0 f1 f3 f4 f5⟩
 self:=λ_ _ _ _ _ st h=>wpAny_pyIter_listiter st h
theorem QA{P:Program}{w:World}{K:L2.FG}{tg:Expr}(it:Addr)(lo:Int)(n:Nat):Turn P w K tg (uI lo n) [it] it (λi h=>IsRangeIter h it (lo+(i:Nat) * 1) ((n:Int) - (i:Nat)) 1) where
 mem:=by simp
 obj:=λi h st b hb=>by
  have e:b=it:=by simpa using hb
  subst e;exact⟨_,st,λv z=>by
   have z':Data.fields _=Data.cell v:=z;cases z'⟩
 keep:=λi h h' st k=>k it (by simp) _ st
 item:=by
  intro X hP hw hK hc i pins s Z H E I hf st hg;subst hP hw hK;obtain⟨f0,f1,f2,f3,f4,f5⟩:=hf it (by simp)
  have W:=Walks.range (prog:=X.prog) (w:=X.w) (I.ok.hd hc) it lo 1 n;refine W.item i s _ _ hg st λv h' tk hv nI kk=>?_
  obtain⟨t,rfl⟩:=hv;have I1:Inv X pins Z H { s with heap:=h',toks:=tk}:=I.turned (λb o hb e=>kk b o (by simpa using hb) e) f0 f1 f3 f4 f5
  refine⟨_,rfl,EE (s:={ s with heap:=h',toks:=tk}) (n:="range_iterator") nI rfl rfl (by decide) ⟨.int (lo+i),H,I1,⟨t,?_⟩,⟨rfl,rfl⟩,nI,λb hb=>(hf b hb).1⟩⟩
  rw[Int.mul_one]
 done:=by
  intro X hP hw hK hc i pins s Z H E I hf st hg;subst hP hw hK;obtain⟨f0,f1,f2,f3,f4,f5⟩:=hf it (by simp)
  exact wpAny_pyNext_range_end (I.ok.hd hc) st (by have:n<=i:=hg;lia) λh' eb=>⟨rfl,I.turned (t':=s.toks) (λb o hb e=>eb b o hb e) f0 f1 f3 f4 f5⟩
 self:=λ_ _ _ _ _ st h=>wpAny_pyIter_rangeiter st h
section
variable {X:Cx} {tg:Expr}
def oU(K:L2.FG)(tl:TE):TI:=λZ H R=>tl Z H λx H1=>∃a,x=.ref a/\(∃xs,dq K H1 a xs)/\R (uH K a) H1
theorem MW{l:Expr}{tl:TE}(hl:PE X l tl):PI X tg l (oU X.K tl):=by
 intro pins s Z H R I h;refine ck (hl pins s Z H _ I h) λv s1 hh=>?_
 obtain⟨x,H1,I1,r1,q1⟩:=hh;obtain⟨a,e,⟨xs,hq⟩,q⟩:=q1;subst e;cases r1;obtain⟨aG,rv,p,hz⟩:=I1.list hq;refine wpAny_pyIter_list p.isList ?_;refine⟨s1.heap.objs.size,[s1.heap.objs.size],_,_,H1,rfl,I1.kept (t':=s1.toks) λb o e=>iK _ e,Rp a _,⟨_,mG _ rfl,rfl,rfl⟩,λb hb=>?_,q⟩
 have e:b=s1.heap.objs.size:=by simpa using hb
 subst e;exact I1.nW (cP _) (I1.cx.fresh (cP _))
theorem S3{pins:List (Addr×Obj)}{Z:St}{H:Hp}{s:Shared}{R:It->Hp->Prop}{E:Value->Shared->Prop}{lo hi:Int}{t u v:Tok}{tk:Nat}(I:Inv X pins Z H s)(h1:-(2 ^ 62)<=lo)(h2:lo < 2 ^ 62)(h3:-(2 ^ 62)<=hi)(h4:hi < 2 ^ 62)
  (q:R (uI lo (hi - lo).toNat) H):wpAny (model X.prog X.w) X.A (pyIter (.ref s.heap.objs.size)) (FU X pins Z tg R) E { s with heap:=s.heap.push { cls:=.type "range",data:=.fields #[.int lo t,.int hi u,.int 1 v]},toks:=tk}:=by
 refine wpAny_pyIter_range (IsRange.new ..) (small_one h1 h2 h3 h4) ?_;have I1:Inv X pins Z H { s with heap:=s.heap.push { cls:=.type "range",data:=.fields #[.int lo t,.int hi u,.int 1 v]},toks:=tk}:=I.kept λb o e=>iK _ e
 refine⟨(s.heap.push { cls:=.type "range",data:=.fields #[.int lo t,.int hi u,.int 1 v]}).objs.size,[(s.heap.push { cls:=.type "range",data:=.fields #[.int lo t,.int hi u,.int 1 v]}).objs.size],_,_,H,rfl,
  I1.kept (t':=tk) λb o e=>iK _ e,QA _ lo (hi - lo).toNat,?_,λb hb=>?_,q⟩
 ·have e1:lo+((0:Nat):Int) * 1=lo:=by simp
  have e2:(((hi - lo).toNat:Nat):Int) - ((0:Nat):Int)=Builtin.Range.rangeSize lo hi 1:=by rw[rangeSize_one];split <;> lia
  show IsRangeIter _ _ (lo+((0:Nat):Int) * 1) ((((hi - lo).toNat:Nat):Int) - ((0:Nat):Int)) 1;rw[e1,e2];exact mG _ rfl
 ·have e:b=(s.heap.push { cls:=.type "range",data:=.fields #[.int lo t,.int hi u,.int 1 v]}).objs.size:=by simpa using hb
  subst e;exact I1.nW (cP _) (I1.cx.fresh (cP _))
def vh(ta:TA):TI:=λZ H R=>ta Z H λvs H1=>∃j:Int,vs=[.int j] /\ -(2 ^ 62)<=j/\j < 2 ^ 62/\R (uI 0 j.toNat) H1
theorem Dx{a:Expr}{ta:TA}{p pos:Pos}(hg:Gl X "range")(hm:X.mg "range"=none)(ha:PA X [a] ta)(hs:starEach [a] X.env=[(false,eval a X.env)]:=by rfl):PI X tg (.Call (.Name "range" p) [a] [] pos) (vh ta):=by
 intro pins s Z H R I h;refine Call_ (wo I hg hm boot_range (PyProof.Rows.callWith_type1 (ck (ha pos pins s Z H _ I h) λus s1 hh=>?_) hs rfl))
 obtain⟨vs,H1,I1,r1,q1⟩:=hh;obtain⟨j,e,q1,q2,q⟩:=q1;subst e;cases r1 with
 |cons r rr=>
  cases rr;obtain⟨t,rfl⟩:=r;exact call_range_1 (S3 I1 (by lia) (by lia) q1 q2 (by simpa using q))
def Km(wi:TI)(g:TG)(tb:TS):TS:=λD Z H=>wi Z H λJ H1=>∃W:Nat->Nat->St->Hp->Prop,(∃m,W 0 m Z H1)/\∀i m Z H,W i m Z H->
 (J.stop i H/\D.nx Z H)\/(J.go i H/\∃N:St->Hp->Prop,(∀Z' H',N Z' H'->∃m',m' < m/\W (i+1) m' Z' H')/\∀x H',J.vQ i H x H'->g x Z H' λZ2 H2=>tb { D with nx:=N,ct:=N,bk:=D.nx} Z2 H2)
noncomputable def AF(fp:List Addr)(h:Heap):List (Addr×Obj):=fp.filterMap λb=>(h.get? b).map λo=>(b,o)
theorem zO{fp:List Addr}{h:Heap}{b:Addr}{o:Obj}(hb:b∈fp)(e:h.get? b=some o):(b,o)∈AF fp h:=qc.mpr ⟨b,hb,by rw[e];rfl⟩
theorem Rq{fp:List Addr}{h:Heap}{p:Addr×Obj}(hp:p∈AF fp h):p.1∈fp/\h.get? p.1=some p.2:=by
 obtain⟨b,hb,e⟩:=qc.mp hp;cases q:h.get? b with
 |none=>rw[q] at e;cases e
 |some o=>
  rw[q] at e;have e':(b,o)=p:=Option.some.inj e;subst e';exact⟨hb,q⟩
theorem Inv.pinned{pins:List (Addr×Obj)}{Z:St}{H:Hp}{s:Shared}{fp:List Addr}(I:Inv X pins Z H s)(hf:∀b∈fp,jz X pins H b)(ho:∀b∈fp,∃o,s.heap.get? b=some o/\∀v,o.data≠.cell v):Inv X (pins++AF fp s.heap) Z H s:=
 I.j5 λp hp=>(jw.mp hp).elim (λz=>I.pin p (ja _ z)) λz=>by
  obtain⟨hb,e⟩:=Rq z;obtain⟨f0,f1,f2,_⟩:=hf p.1 hb;obtain⟨o,e',d⟩:=ho p.1 hb;rw[e] at e';cases e';exact⟨e,f0,f1,f2,d⟩
theorem Inv.gm{pins pl:List (Addr×Obj)}{Z:St}{H:Hp}{s:Shared}(I:Inv X (pins++pl) Z H s):Inv X pins Z H s:=I.j5 λp hp=>I.pin p (ja _ (lx _ hp))
theorem Ek{iter:Expr}{body:List Stmt}{wi:TI}{g:TG}{tb:TS}{pos:Pos}(hp:PassesOwn (model X.prog X.w) X.A X.env X.xe)(hc:X.calm=true)(hi:PI X tg iter wi)(hg:PG X tg g)(hb:jt X body tb)
  (hs:∀x,foldedSetIterable iter X.env x=pure x:=by intro _;rfl):PS X (.For tg iter body [] pos) (Km wi g tb):=by
 intro pins s Z H D I h;refine wpAny_For (ck (hi pins s Z H _ I h) λv s1 h1=>ck h1 λE5 s2 h2=>?_) hs
 obtain⟨it,fp,tn,J,H2,e,I2,T,vC,f2,W,⟨m0,w0⟩,turn⟩:=h2;subst e;have n8:∀{H':Hp},(∀b∈fp,H' b=none)->∀b∈fp,jz X pins H' b:=λhn b hb=>⟨hn b hb,(f2 b hb).2⟩
 refine codeAny_forLoop_any (λn s'=>∃i Z' H',Inv X pins Z' H' s'/\tn i s'.heap/\(∀b∈fp,H' b=none)/\W i n Z' H') ?_ m0 ⟨0,Z,H2,I2,vC,λb hb=>(f2 b hb).1,w0⟩
 rintro n s3 ⟨i,Z3,H3,I3,Pw,OO,w3⟩;rcases turn i n Z3 H3 w3 with⟨stop,qn⟩|⟨go,N,hN,step⟩
 ·refine wpAny_passesOwn hp (ck (T.done X rfl rfl rfl hc i pins s3 Z3 H3 X.xe I3 (n8 OO) Pw stop) λr s4 ⟨hr,I4⟩=>?_)
  subst hr;exact wpAny_execs_nil ⟨Z3,H3,I4,qn⟩
 ·refine wpAny_passesOwn hp (ck (T.item X rfl rfl rfl hc i pins s3 Z3 H3 X.xe I3 (n8 OO) Pw go) λr s4 ⟨u,hr,h4⟩=>?_)
  subst hr;refine wpAny_passesOwn hp (ck h4 λ_ s5 hh=>?_)
  obtain⟨x,H5,I5,r5,y5,xO,Jp⟩:=hh;have FN:=I5.pinned (n8 Jp) (T.obj _ _ xO);refine wpAny_passesOwn hp (ck (hg _ s5 Z3 H5 x u _ FN r5 (step x H5 y5)) λ_ s6 hh=>?_)
  obtain⟨Z6,H6,I6,q6⟩:=hh;refine wpAny_passesOwn hp (ck (hb _ s6 Z6 H6 _ I6 q6) λf s7 q7=>?_)
  have again:∀{Z7:St} {H7:Hp},Inv X (pins++AF fp s5.heap) Z7 H7 s7->N Z7 H7->∃m,m < n/\∃i Z' H',Inv X pins Z' H' s7/\tn i s7.heap/\(∀b∈fp,H' b=none)/\W i m Z' H':=λ{Z7 H7} I7 n7=>by
   obtain⟨m',hm,w7⟩:=hN Z7 H7 n7;refine⟨m',hm,i+1,Z7,H7,I7.gm,T.keep _ _ _ xO λb hb o e=>(I7.pin (b,o) (ja _ (ja _ (zO hb e)))).1,λb hb=>?_,w7⟩
   obtain⟨o,e,d⟩:=T.obj _ _ xO b hb;exact(I7.pin (b,o) (ja _ (ja _ (zO hb e)))).2.1
  cases f with
  |next=>obtain⟨Z7,H7,I7,n7⟩:=q7;exact again I7 n7
  |cont=>obtain⟨Z7,H7,I7,n7⟩:=q7;exact again I7 n7
  |brk=>obtain⟨Z7,H7,I7,q7⟩:=q7;exact⟨Z7,H7,I7.gm,q7⟩
  |ret v=>obtain⟨x7,Z7,H7,I7,r7,q7⟩:=q7;exact⟨x7,Z7,H7,I7.gm,r7,q7⟩
end
theorem S4{K:L2.FG}{a:Addr}{xs:List V}{g:TG}{tb:TS}{D:Ends}{Z:St}{H:Hp}(Pv:Nat->St->Hp->Prop)(h0:Pv 0 Z H)(hl:∀i Z H,i<=xs.length->Pv i Z H->dq K H a xs)
  (hs:∀i x Z H,xs[i]?=some x->Pv i Z H->g x Z H λZ2 H2=>tb { D with nx:=Pv (i+1),ct:=Pv (i+1),bk:=D.nx} Z2 H2) (hd:∀Z H,Pv xs.length Z H->D.nx Z H) :
  ∃W:Nat->Nat->St->Hp->Prop,(∃m,W 0 m Z H)/\∀i m Z H,W i m Z H->
   ((uH K a).stop i H/\D.nx Z H)\/((uH K a).go i H/\∃N:St->Hp->Prop,(∀Z' H',N Z' H'->∃m',m' < m/\W (i+1) m' Z' H')/\∀x H',(uH K a).vQ i H x H'->g x Z H' λZ2 H2=>tb { D with nx:=N,ct:=N,bk:=D.nx} Z2 H2):=by
 refine⟨λi m Z H=>m=xs.length - i/\i<=xs.length/\Pv i Z H,⟨xs.length,by simp,mE _,h0⟩,?_⟩
 rintro i m Z H ⟨rfl,hi,p⟩;have q:=hl i Z H hi p;by_cases fq:i < xs.length
 ·refine .inr ⟨⟨xs,xs[i],q,by simp[fq]⟩,Pv (i+1),λZ' H' p'=>⟨xs.length - (i+1),by lia,rfl,fq,p'⟩,λx H' y=>?_⟩
  obtain⟨e,y⟩:=y;subst e;exact hs i x Z _ (y xs q) p
 ·have e:i=xs.length:=by lia
  subst e;exact .inl ⟨⟨xs,q,cP _⟩,hd Z H p⟩
theorem Rr{lo:Int}{n:Nat}{g:TG}{tb:TS}{D:Ends}{Z:St}{H:Hp}(Pv:Nat->St->Hp->Prop)(h0:Pv 0 Z H)
  (hs:∀i Z H,i < n->Pv i Z H->g (.int (lo+i)) Z H λZ2 H2=>tb { D with nx:=Pv (i+1),ct:=Pv (i+1),bk:=D.nx} Z2 H2) (hd:∀Z H,Pv n Z H->D.nx Z H) :
  ∃W:Nat->Nat->St->Hp->Prop,(∃m,W 0 m Z H)/\∀i m Z H,W i m Z H->
   ((uI lo n).stop i H/\D.nx Z H)\/((uI lo n).go i H/\∃N:St->Hp->Prop,(∀Z' H',N Z' H'->∃m',m' < m/\W (i+1) m' Z' H')/\∀x H',(uI lo n).vQ i H x H'->g x Z H' λZ2 H2=>tb { D with nx:=N,ct:=N,bk:=D.nx} Z2 H2):=by
 refine⟨λi m Z H=>m=n - i/\i<=n/\Pv i Z H,⟨n,by simp,mE _,h0⟩,?_⟩
 rintro i m Z H ⟨rfl,hi,p⟩;by_cases fq:i < n
 ·refine .inr ⟨fq,Pv (i+1),λZ' H' p'=>⟨n - (i+1),by lia,rfl,fq,p'⟩,λx H' y=>?_⟩
  obtain⟨e,y⟩:=y;subst e y;exact hs i Z _ fq p
 ·have e:i=n:=by lia
  subst e;exact .inl ⟨cP _,hd Z H p⟩
abbrev R2:=V->V->Hp->VK->Prop
def fH(X:Cx)(f:Value->Value->Sem Value)(r:R2):Prop:=
 ∀(pins:List (Addr×Obj)) (s:Shared) (Z:St) (H:Hp) (x y:V) (v u:Value) (Q:VK),Inv X pins Z H s->RelV x v->RelV y u->r x y H Q->
  wpAny (model X.prog X.w) X.A (f v u) (EP X pins Z Q) X.xe s
def cJ(X:Cx)(f:Value)(r:List V->Hp->VK->Prop):Prop:=
 ∀(pins:List (Addr×Obj)) (s:Shared) (Z:St) (H:Hp) (xs:List V) (us:List Value) (Q:VK),Inv X pins Z H s->Vals xs us->r xs H Q->
  wpAny (model X.prog X.w) X.A (call f us) (EP X pins Z Q) X.xe s
def FV(X:Cx)(r:V->Hp->(Bool->Hp->Prop)->Prop):Prop:=
 ∀(pins:List (Addr×Obj)) (s:Shared) (Z:St) (H:Hp) (x:V) (v:Value) (Q:Bool->Hp->Prop),Inv X pins Z H s->RelV x v->r x H Q->
  wpAny (model X.prog X.w) X.A (truthy v) (TP X pins Z Q) X.xe s
def CN(r:R2)(ta tb:TE):TE:=λZ H Q=>ta Z H λx H1=>tb Z H1 λy H2=>r x y H2 Q
def rI(C:Int->Int->Prop)(g:Int->Int->V):R2:=λx y H Q=>∃i j,x=.int i/\y=.int j/\C i j/\Q (g i j) H
def pY(g:Int->Int->V):R2:=λx y H Q=>∃i j,x=.int i/\y=.int j/\Q (g i j) H
section
variable {X:Cx} {a b c:Expr} {ta tb tc:TE} {pos:Pos}
theorem wG(ha:PE X a ta)(hb:PE X b tb){pins:List (Addr×Obj)}{s:Shared}{Z:St}{H:Hp}{R:V->V->Hp->Prop}(I:Inv X pins Z H s)
  (h:ta Z H λx H1=>tb Z H1 λy H2=>R x y H2) {Q:Value->Shared->Prop} {f:Value->Value->Sem Value}
  (hf:∀v u s2 x y H2,Inv X pins Z H2 s2->RelV x v->RelV y u->R x y H2->wpAny (model X.prog X.w) X.A (f v u) Q X.xe s2) :
  wpAny (model X.prog X.w) X.A (eval a X.env) (λv s₁=>wpAny (model X.prog X.w) X.A (eval b X.env) (λu s₂=>wpAny (model X.prog X.w) X.A (f v u) Q X.xe s₂) X.xe s₁) X.xe s:=by
 refine ck (ha pins s Z H _ I h) λv s1 hh=>?_
 obtain⟨x,H1,I1,r1,q1⟩:=hh;refine ck (hb pins s1 Z H1 _ I1 q1) λu s2 hh=>?_
 obtain⟨y,H2,I2,r2,q2⟩:=hh;exact hf v u s2 x y H2 I2 r1 r2 q2
theorem XQ{op:Operator}{r:R2}(ho:fH X (binaryOp op) r)(ha:PE X a ta)(hb:PE X b tb):PE X (.BinOp a op b pos) (CN r ta tb):=by
 intro pins s Z H Q I h;exact wpAny_BinOp (wG ha hb I h λv u s2 x y H2 I2 rx ry q=>ho pins s2 Z H2 x y v u Q I2 rx ry q)
theorem E'{f:Value->Value->Sem Value}{C:Int->Int->Prop}{g:Int->Int->Int}
  (rule:∀(i j:Int) (t u:Tok) (s:Shared) (Q:Value->Shared->Prop) (E:Value->Shared->Prop),C i j->Q (.int (g i j) s.toks) { s with toks:=s.toks+1}->wpAny (model X.prog X.w) X.A (f (.int i t) (.int j u)) Q E s) :
  fH X f (rI C λi j=>.int (g i j)):=by
 intro pins s Z H x y v u Q I rx ry h;obtain⟨i,j,rfl,rfl,hc,q⟩:=h;obtain⟨t,rfl⟩:=rx;obtain⟨t',rfl⟩:=ry;exact rule i j t t' s _ _ hc ⟨.int (g i j),H,I.tok _,⟨_,rfl⟩,q⟩
theorem Cq{f:Value->Value->Sem Value}{g:Int->Int->Int}
  (rule:∀(i j:Int) (t u:Tok) (s:Shared) (Q:Value->Shared->Prop) (E:Value->Shared->Prop),Q (.int (g i j) s.toks) { s with toks:=s.toks+1}->wpAny (model X.prog X.w) X.A (f (.int i t) (.int j u)) Q E s) :
  fH X f (pY λi j=>.int (g i j)):=by
 intro pins s Z H x y v u Q I rx ry h;obtain⟨i,j,rfl,rfl,q⟩:=h;obtain⟨t,rfl⟩:=rx;obtain⟨t',rfl⟩:=ry;exact rule i j t t' s _ _ ⟨.int (g i j),H,I.tok _,⟨_,rfl⟩,q⟩
theorem xA{f:Value->Value->Sem Value}{g:Int->Int->Bool}
  (rule:∀(i j:Int) (t u:Tok) (s:Shared) (Q:Value->Shared->Prop) (E:Value->Shared->Prop),Q (.bool (g i j)) s->wpAny (model X.prog X.w) X.A (f (.int i t) (.int j u)) Q E s) :
  fH X f (pY λi j=>.bl (g i j)):=by
 intro pins s Z H x y v u Q I rx ry h;obtain⟨i,j,rfl,rfl,q⟩:=h;obtain⟨t,rfl⟩:=rx;obtain⟨t',rfl⟩:=ry;exact rule i j t t' s _ _ ⟨.bl (g i j),H,I,rfl,q⟩
def vR(i j:Int):Prop:=0 < j/\j < 1073741824
def zD(i j:Int):Prop:=0<=j/\j<=1000000/\i.natAbs < 2 ^ 64
def tf(i j:Int):Prop:=(-(2 ^ 64) < i/\i < 2 ^ 64)\/(-(2 ^ 64) < j/\j < 2 ^ 64)
theorem tf.ok{i j:Int}(h:tf i j):IntMulOk i j:=by
 rcases h with⟨h1,h2⟩|⟨h1,h2⟩
 ·exact .of_left (intBits_le_64 h1 h2)
 ·exact .of_right (intBits_le_64 h1 h2)
theorem xB:fH X (binaryOp .Add) (pY λi j=>.int (i+j)):=Cq λ_ _ _ _ _ _ _ q=>add_int q
theorem Iv:fH X (binaryOp .Sub) (pY λi j=>.int (i - j)):=Cq λ_ _ _ _ _ _ _ q=>sub_int q
theorem xD:fH X (binaryOp .Mult) (rI tf λi j=>.int (i * j)):=E' λ_ _ _ _ _ _ _ hc q=>mul_int q hc.ok
theorem Aq:fH X (binaryOp .FloorDiv) (rI vR λi j=>.int (i / j)):=E' λi j _ _ _ _ _ hc q=>by
 have h1:(0:Int) < j:=hc.1;have h2:j < 1073741824:=hc.2;exact floordiv_int (by lia) (by rw[Int.fdiv_eq_ediv_of_nonneg i (by lia)];exact q) (.inl (PyProof.noPylong_small (by lia)))
theorem oG:fH X (binaryOp .Mod) (rI (λ_ j=>0 < j) λi j=>.int (i % j)):=E' λi j _ _ _ _ _ hc q=>by
 have h1:(0:Int) < j:=hc;exact mod_int' (by lia) (by rw[Int.fmod_eq_emod_of_nonneg i (by lia)];exact q)
theorem WC:fH X (binaryOp .LShift) (rI zD λi j=>.int (i * 2 ^ j.toNat)):=E' λ_ _ _ _ _ _ _ hc q=>lshift_int_small hc.1 hc.2.1 hc.2.2 q
end
section
variable {X:Cx} {a b c:Expr} {ta tb tc:TE} {pos:Pos}
theorem tT{pins:List (Addr×Obj)}{Z:St}{H:Hp}{s:Shared}{Q:VK}{k k':Bool}(I:Inv X pins Z H s)(q:Q (.bl k) H)(e:k=k'):EP X pins Z Q (.bool k') s:=by
 subst e;exact⟨.bl k,H,I,rfl,q⟩
theorem yH:fH X (compareOp .Lt) (pY λi j=>.bl (decide (i < j))):=xA λ_ _ _ _ _ _ _ q=>lt_int q
theorem OB:fH X (compareOp .LtE) (pY λi j=>.bl (decide (i<=j))):=xA λ_ _ _ _ _ _ _ q=>le_int q
theorem XR:fH X (compareOp .Gt) (pY λi j=>.bl (decide (j < i))):=xA λ_ _ _ _ _ _ _ q=>gt_int q
theorem Rt:fH X (compareOp .In) (λx y H Q=>∃i j,x=.str i/\y=.str j/\Q (.bl (!(Builtin.Str.occurrences j i 0 j.length 1).isEmpty)) H):=by
 intro pins s Z H x y v u Q I rx ry h;obtain⟨i,j,rfl,rfl,q⟩:=h;obtain⟨t,rfl⟩:=rx;obtain⟨t',rfl⟩:=ry;exact in_str (tT I q rfl)
theorem xC:fH X (compareOp .Is) (λx y H Q=>y=.aI/\Q (.bl (decide (x=.aI))) H):=by
 intro pins s Z H x y v u Q I rx ry h;obtain⟨rfl,q⟩:=h;cases ry;refine is_none_gen (tT I q ?_);cases x <;> first
  |(cases rx;rfl)
  |(obtain⟨t,rfl⟩:=rx;rfl)
theorem uq:fH X (compareOp .IsNot) (λx y H Q=>y=.aI/\Q (.bl (!decide (x=.aI))) H):=by
 intro pins s Z H x y v u Q I rx ry h;obtain⟨rfl,q⟩:=h;cases ry;refine isnot_none_gen (tT I q ?_);cases x <;> first
  |(cases rx;rfl)
  |(obtain⟨t,rfl⟩:=rx;rfl)
theorem Qj:fH X (compareOp .NotIn) (λx y H Q=>∃i j,x=.str i/\y=.str j/\Q (.bl (!(!(Builtin.Str.occurrences j i 0 j.length 1).isEmpty))) H):=by
 intro pins s Z H x y v u Q I rx ry h;obtain⟨i,j,rfl,rfl,q⟩:=h;obtain⟨t,rfl⟩:=rx;obtain⟨t',rfl⟩:=ry;exact notIn_str (tT I q rfl)
theorem fH.or{f:Value->Value->Sem Value}{r r':R2}(h:fH X f r)(h':fH X f r'):fH X f (λx y H Q=>r x y H Q\/r' x y H Q):=by
 intro pins s Z H x y v u Q I rx ry q;rcases q with q|q
 ·exact h pins s Z H x y v u Q I rx ry q
 ·exact h' pins s Z H x y v u Q I rx ry q
theorem NU(b:Expr){op:CmpOp}(h:op≠.In:=by decide)(h2:op≠.NotIn:=by decide):behindInMarks op b=false:=by
 have e1:(op == CmpOp.In)=false:=by cases op <;> first|rfl|exact absurd rfl h
 have e2:(op == CmpOp.NotIn)=false:=by cases op <;> first|rfl|exact absurd rfl h2
 cases b <;> simp[behindInMarks,e1,e2]
theorem UG{op:CmpOp}{r:R2}(ho:fH X (compareOp op) r)(ha:PE X a ta)(hb:PE X b tb)(hm:behindInMarks op b=false):PE X (.Compare a [op] [b] pos) (CN r ta tb):=by
 intro pins s Z H Q I h;exact wpAny_Compare1 (wG ha hb I h λv u s2 x y H2 I2 rx ry q=>ho pins s2 Z H2 x y v u Q I2 rx ry q) hm
def vG(t:TE):TT:=λZ H Q=>t Z H λx H'=>∃k,x=.bl k/\Q k H'
theorem UH{op:CmpOp}{r:R2}(ho:fH X (compareOp op) r)(ha:PE X a ta)(hb:PE X b tb)(hm:behindInMarks op b=false):PT X (.Compare a [op] [b] pos) (vG (CN r ta tb)):=by
 intro pins s Z H Q I h;refine wpAny_isTrue_Compare1 (ck (ha pins s Z H _ I h) λv s1 ⟨x,H1,I1,r1,q1⟩=>ck (hb pins s1 Z H1 _ I1 q1) λu s2 ⟨y,H2,I2,r2,q2⟩=>
  ck (ho pins s2 Z H2 x y v u _ I2 r1 r2 q2) λc s3 ⟨z,H3,I3,r3,k,e,q3⟩=>?_) hm
 subst e;cases r3;exact wpAny_truthy_bool ⟨H3,I3,q3⟩
def WD(r r':R2)(ta tb tc:TE):TE:=λZ H Q=>ta Z H λx H1=>tb Z H1 λy H2=>r x y H2 λz H3=>∃k,z=.bl k/\
 (if k=true then tc Z H3 λw' H4=>r' y w' H4 Q else Q (.bl false) H3)
theorem S5{op xy:CmpOp}{r r':R2}(ho:fH X (compareOp op) r)(rG:fH X (compareOp xy) r')(ha:PE X a ta)(hb:PE X b tb)(hc:PE X c tc)
  (hm:lastMarks [op,xy] [b,c]=false:=by with_unfolding_all rfl):PT X (.Compare a [op,xy] [b,c] pos) (vG (WD r r' ta tb tc)):=by
 intro pins s Z H Q I h;refine isTrue_chain (ck (ha pins s Z H _ I h) λv s1 ⟨x,H1,I1,r1,q1⟩=>test_link (ck (hb pins s1 Z H1 _ I1 q1) λu s2 ⟨y,H2,I2,r2,q2⟩=>
  ck (ho pins s2 Z H2 x y v u _ I2 r1 r2 q2) λd s3 ⟨z,H3,I3,r3,k,e,q3⟩=>?_)) hm
 subst e;cases r3;refine wpAny_truthy_bool ?_;cases k with
 |false=>
  obtain⟨k',e',q'⟩:=q3;cases e';exact ite_ff ⟨H3,I3,q'⟩
 |true=>
  refine ite_tt (test_last (ck (hc pins s3 Z H3 _ I3 q3) λw' s4 ⟨z',H4,I4,r4,q4⟩=>ck (rG pins s4 Z H4 y z' u w' _ I4 r2 r4 q4) λd' s5 ⟨z2,H5,I5,r5,k2,e2,q5⟩=>?_))
  subst e2;cases r5;exact wpAny_truthy_bool ⟨H5,I5,q5⟩
def tH(K:L2.FG)(x:V)(H:Hp)(k:Bool):Prop:=
 match x with
 |.aI=>k=false
 |.bl b=>k=b
 |.int i=>k=(i != 0)
 |.str y=>y.length<=sizeLine/\k=((y.length:Int) != 0)
 |.uX y=>y.size<=sizeLine/\k=((y.size:Int) != 0)
 |.ref p=>(∃xs,dq K H p xs/\k = !xs.isEmpty)\/(∃xs,iL K H p xs/\k = !xs.isEmpty)\/∃kvs,H p=some (.dK kvs)/\k = !kvs.isEmpty
 |_=>False
theorem QB{κ:Type}{kvs:List (κ×V)}{vs:List (κ×Value)}(r:KV kvs vs):(!vs.isEmpty) = !kvs.isEmpty:=by
 cases r <;> rfl
theorem Lk{xs:List V}{aG:List Value}(r:Vals xs aG):(!aG.toArray.isEmpty) = !xs.isEmpty:=by
 cases r <;> simp
theorem wt:(sizeLine:Nat) < 2 ^ 63:=by rw[sizeLine_eq];decide
theorem WE:FV X (λx H Q=>∃k,tH X.K x H k/\Q k H):=by
 intro pins s Z H x v Q I rx h;obtain⟨k,e,q⟩:=h;have hl:=wt;have hs:sizeLine=16777216:=sizeLine_eq;cases x with
 |aI=>
  cases rx;have e':k=false:=e;subst e';exact truthy_none ⟨H,I,q⟩
 |bl b=>
  cases rx;have e':k=b:=e;subst e';exact wpAny_truthy_bool ⟨H,I,q⟩
 |int i=>
  obtain⟨t,rfl⟩:=rx;have e':k=(i != 0):=e;subst e';exact PySem.P.truthy_int ⟨H,I,q⟩
 |str y=>
  obtain⟨t,rfl⟩:=rx;obtain⟨hy,e'⟩:y.length<=sizeLine/\k=((y.length:Int) != 0):=e;subst e';exact PySem.P.truthy_str (by lia) ⟨H,I.tok _,q⟩
 |uX y=>
  obtain⟨t,rfl⟩:=rx;obtain⟨hy,e'⟩:y.size<=sizeLine/\k=((y.size:Int) != 0):=e;subst e';exact PySem.W.truthy_bytes (by lia) ⟨H,I.tok _,q⟩
 |ref p=>
  cases rx;have e':(∃xs,dq X.K H p xs/\k = !xs.isEmpty)\/(∃xs,iL X.K H p xs/\k = !xs.isEmpty)\/∃kvs,H p=some (.dK kvs)/\k = !kvs.isEmpty:=e;rcases e' with⟨xs,hx,e'⟩|⟨xs,hx,e'⟩|⟨kvs,hx,e'⟩
  ·subst e';obtain⟨aG,r,pl,hz⟩:=I.list hx;have hlen:=r.length;exact wpAny_truthy_list pl.isList (by simp only[eI];lia) ⟨H,I.tok _,by rw[Lk r];exact q⟩
  ·subst e';obtain⟨aG,r,pl,hz⟩:=I.tuple hx;have hlen:=r.length;exact truthy_tuple pl (by simp only[eI];lia) ⟨H,I.tok _,by rw[Lk r];exact q⟩
  ·subst e';obtain⟨hz,hS,vs,r,m⟩:kvs.length<=sizeLine/\(p == sysModules)=false/\∃vs,KV kvs vs/\s.heap.DictOf (HQ X.prog X.w) p vs:=I.cx p _ hx;have hlen:kvs.length=vs.length:=Paired.length r;exact wpAny_truthy_dict hS m (by lia) ⟨H,I.tok _,by rw[QB r];exact q⟩
 |_=>exact(show False from e).elim
theorem S6(ha:PE X a ta)(he:∀whole,isTrue a X.env whole=(do let v <-whole;standAt a.pos;holding [v] (truthy v))):
  PT X a (λZ H Q=>ta Z H λx H'=>∃k,tH X.K x H' k/\Q k H'):=by
 intro pins s Z H Q I h;exact isTrue_plain (ck (ha pins s Z H _ I h) λv s1 ⟨x,H1,I1,r1,q1⟩=>WE pins s1 Z H1 x v Q I1 r1 q1) (he _)
theorem nY:fH X (binaryOp .Add) (λx y H Q=>∃i j,x=.str i/\y=.str j/\i.length+j.length<=sizeLine/\Q (.str (i++j)) H):=by
 intro pins s Z H x y v u Q I rx ry h;obtain⟨i,j,rfl,rfl,hz,q⟩:=h;obtain⟨t,rfl⟩:=rx;obtain⟨t',rfl⟩:=ry;exact add_str (λt' tk=>⟨.str (i++j),H,I.tok _,⟨_,rfl⟩,q⟩) hz
theorem vals1{x:V}{us:List Value}(r:Vals [x] us):∃u,us=[u]/\RelV x u:=by
 cases r with
 |cons r1 r2=>cases r2;exact⟨_,rfl,r1⟩
theorem vals2{x y:V}{us:List Value}(r:Vals [x,y] us):∃u w',us=[u,w']/\RelV x u/\RelV y w':=by
 cases r with
 |cons r1 r2=>
  cases r2 with
  |cons r3 r4=>cases r4;exact⟨_,_,rfl,r1,r3⟩
theorem Ru:cJ X (.type "int") (λxs H Q=>(∃i,xs=[.int i]/\Q (.int i) H)\/∃k,xs=[.bl k]/\Q (.int (if k then 1 else 0)) H):=by
 intro pins s Z H xs us Q I r h;rcases h with⟨i,rfl,q⟩|⟨k,rfl,q⟩
 ·obtain⟨u,rfl,t,rfl⟩:=vals1 r;exact call_int_int ⟨.int i,H,I,⟨_,rfl⟩,q⟩
 ·obtain⟨u,rfl,r1⟩:=vals1 r;cases r1;exact call_int_bool ⟨.int (if k then 1 else 0),H,I.tok _,⟨_,rfl⟩,q⟩
end
structure nM (h:Heap) (x dx C:Addr) (mA:Str->Option Value):Prop where
 obj:h.get? x=some (PySem.W.instObj C dx)
 ns:h.Ns1 dx mA
 ne:dx≠x
theorem Rv{h:Heap}{dx:Addr}{mA:Str->Option Value}(n:h.Ns1 dx mA):∃od,h.get? dx=some od/\∀name,PySem.W.lookIn name od=some (mA name):=by
 obtain⟨o,es,ep,ho,hd,hk,_,hm⟩:=n;refine⟨o,ho,λname=>?_⟩
 have e:=hm name;unfold nsFind findBy at e;rw[<-Array.find?_toList] at e;unfold PySem.W.lookIn;rw[hd];dsimp only;split
 ·rename_i y q
  rw[q] at e;exact congrArg some e
 ·rename_i q
  rw[q] at e;have a:es.toList.any (·.refKey)=false:=by
   rw[List.any_eq_false];intro y hy;obtain⟨z,t,JK⟩:=hk y (Array.mem_toList_iff.mp hy);simp[DictEntry.refKey,JK]
  have a':¬es.toList.any (·.refKey)=true:=by rw[a];exact kU
  rw[if_neg a'];exact congrArg some e
theorem nM.look{h:Heap}{x dx C:Addr}{mA:Str->Option Value}(I:nM h x dx C mA):∃od,PySem.W.InstAt h x (PySem.W.instObj C dx) C (some od)/\∀name,PySem.W.lookIn name od=some (mA name):=
 let ⟨od,ho,hl⟩:=Rv I.ns
 ⟨od,⟨I.obj,rfl,rfl,ho⟩,hl⟩
section
variable {prog:Program} {w:World} {A:Around} {E:Value->Shared->Prop} {s:Shared} {K:L2.FG} {x dx C f:Addr} {mA:Str->Option Value} {name:Str} {v:Value}
theorem UI{expr:Bool}{Q:Value->Shared->Prop}(X:K.In s.heap)(I:nM s.heap x dx C mA)(hg:PySem.W.plainGet K C name=true)(hh:PySem.W.hasDictIn K C=true)
  (ha:PySem.W.findIn K (.ref C) name=some none) (hv:mA name=some v) (Zu:PySem.W.handedIn v=true) (h:Q v { s with toks:=s.toks+1}) :
  wpAny (model prog w) A (getAttr (.ref x) name expr) Q E s:=by
 obtain⟨od,J,hl⟩:=I.look;exact PySem.W.get_value X J (PySem.W.plainGet_of hg).1 (PySem.W.findObj_own hh ha rfl (by rw[hl,hv])) Zu h
theorem S7{pl:Sem Bool}{Q:Value×List Value->Shared->Prop}(X:K.In s.heap)(I:nM s.heap x dx C mA)(hg:PySem.W.plainGet K C name=true)
  (hf:PySem.W.findIn K (.ref C) name=some (some (.ref f))) (ht:PySem.W.isFn K (.ref f)=true) (hv:mA name=none) (h:Q (.ref f,[.ref x]) s) :
  wpAny (model prog w) A (getMethod (.ref x) name pl) Q E s:=by
 obtain⟨od,J,hl⟩:=I.look;exact PySem.W.method_fn X J (PySem.W.plainGet_of hg).1 (PySem.W.plainGet_of hg).2 hf (beq_iff_eq.mp ht) (by show(PySem.W.lookIn name od).map (·.isSome)=some false;rw[hl,hv];rfl) h
theorem UJ{ns:List Str}{Q:Unit->Shared->Prop}(X:K.In s.heap)(I:nM s.heap x dx C mA)
  (hs:PySem.W.findIn K (.ref C) "__setattr__"=some (some (.builtin "object.__setattr__"))) (hp:PySem.W.plainOver K C=true) (ht:PySem.W.takerIn K C name=some none) (hh:PySem.W.hasDictIn K C=true)
  (hw:PySem.Within mA ns) (hsz:ns.length<=sizeLine)
  (h:∀h',nM h' x dx C (λy=>if y=name then some v else mA y)->Heap.SameBut dx s.heap h'->Q () { s with heap:=h',toks:=s.toks+2}) :
  wpAny (model prog w) A (setAttr (.ref x) name v) Q E s:=by
 obtain⟨od,J,hl⟩:=I.look;refine PySem.W.set_plain X J hs (PySem.W.osa_open (s:={ s with toks:=s.toks+1}) (r:=none) X J hp ht λb=>?_)
 obtain⟨cd,hc,JC⟩:=PySem.W.any_some hh;have hx:s.heap.get? x=some ⟨.ref C,some dx,.plain,#[]⟩:=I.obj;refine wpAny_bind (wpAny_pure (wpAny_bind (wpAny_bind (wpAny_loadPart hx (wpAny_bind (PySem.W.Looks.here (s:={ s with toks:=s.toks+1}) (PySem.W.looks_clsIn X hc) ?_))))));rw[JC];refine wpAny_pure (a:=some dx) (wpAny_bind (wpAny_pure (wpAny_bind ?_)));refine wpAny_nsSet1 (s:={ s with toks:=s.toks+1}) I.ns λh' xh xm=>?_
 obtain⟨oD,esD,epD,JP,JD,Y6⟩:=xh.count (PySem.Within.cons name v hw);refine wpAny_bind (wpAny_lookBehind JP (by rw[JD];exact pastItsLine_dict (lQ Y6 (by rw[jV];lia))) ?_)
 exact wpAny_pure (h _ ⟨(xm.2 _ (Ne.symm I.ne)).trans I.obj,xh,I.ne⟩ xm)
theorem S8{R:Result->Shared->Prop}{vs:List Value}{kw:List (Str×Value)}(X:K.In s.heap)(hm:PySem.W.makesIn K C=true)
  (hi:PySem.W.findIn K (.ref C) "__init__"=some (some (.ref f))) (hf:PySem.W.typeIn K (.ref f)=some (.type "function"))
  (h:codeAny (model prog w) (A.under (.builtin "type.__call__" ⟨.ref C::vs,kw⟩)) (.call (.ref f) ⟨.ref (s.heap.objs.size+1)::vs,kw⟩) (PySem.W.InitBack (s.heap.objs.size+1) R)
   {s with heap:=(s.heap.push PySem.W.emptyDict).push (PySem.W.instObj C s.heap.objs.size)}) :
  codeAny (model prog w) A (.call (.ref C) ⟨vs,kw⟩) R s:=by
 obtain⟨hh,g,d,t,os⟩:=s;exact PySem.W.make_core (PySem.W.makes_of X hm) (PySem.W.looks_findIn X hi) (λself=>PySem.W.bind_fn X self hf) (.inl rfl) h
end
noncomputable def fu(f:Str)(v:V):List (Str×V)->List (Str×V)
 |[]=>[(f,v)]
 |(g,x)::r=>if g=f then(g,v)::r else(g,x)::fu f v r
theorem Ld(f g:Str)(v:V):∀fs:List (Str×V),(fu f v fs).lookup g=if g=f then some v else fs.lookup g
 |[]=>by
  show List.lookup g [(f,v)]=_;by_cases h:g=f
  ·have hb:(g == f)=true:=beq_iff_eq.mpr h;simp only[List.lookup,hb,if_pos h]
  ·have hb:(g == f)=false:=beq_eq_false_iff_ne.mpr h;simp only[List.lookup,hb,if_neg h]
 |(k,x)::r=>by
  have ih:=Ld f g v r;rw[show fu f v ((k,x)::r)=(if k=f then(k,v)::r else(k,x)::fu f v r) from rfl]
  by_cases hk:k=f
  ·rw[if_pos hk];by_cases h:g=k
   ·have hb:(g == k)=true:=beq_iff_eq.mpr h;simp only[List.lookup,hb,if_pos (h.trans hk)]
   ·have hb:(g == k)=false:=beq_eq_false_iff_ne.mpr h;simp only[List.lookup,hb,if_neg (λe:g=f=>h (e.trans hk.symm))]
  ·rw[if_neg hk];by_cases h:g=k
   ·have hb:(g == k)=true:=beq_iff_eq.mpr h;simp only[List.lookup,hb,if_neg (λe:g=f=>hk (h.symm.trans e))]
   ·have hb:(g == k)=false:=beq_eq_false_iff_ne.mpr h;simp only[List.lookup,hb];exact ih
theorem GU(f:Str)(v:V):∀fs:List (Str×V),f∈(fu f v fs).map (·.1)/\∀g,g∈fs.map (·.1)->g∈(fu f v fs).map (·.1)
 |[]=>⟨by simp[fu],λg h=>by simp at h⟩
 |(k,x)::r=>by
  obtain⟨i1,i2⟩:=GU f v r;rw[show fu f v ((k,x)::r)=(if k=f then(k,v)::r else(k,x)::fu f v r) from rfl]
  by_cases hk:k=f
  ·rw[if_pos hk];subst hk;exact⟨by simp,λg h=>by simpa using h⟩
  ·rw[if_neg hk];refine⟨?_,λg h=>?_⟩
   ·rw[cv];exact lu _ i1
   ·rw[cv] at h ⊢;rcases dZ.mp h with e|e
    ·exact dZ.mpr (.inl e)
    ·exact lu _ (i2 g e)
theorem Le(f:Str)(v:V):∀fs:List (Str×V),(fu f v fs).length<=fs.length+1
 |[]=>by simp[fu]
 |(k,x)::r=>by
  have ih:=Le f v r;rw[show fu f v ((k,x)::r)=(if k=f then(k,v)::r else(k,x)::fu f v r) from rfl]
  by_cases hk:k=f
  ·rw[if_pos hk,jV,jV];lia
  ·rw[if_neg hk,jV,jV];lia
theorem jc.some_of{v:V}{o:Option Value}(r:jc (some v) o):∃u,o=some u/\RelV v u:=by
 cases o with
 |none=>exact(show False from r).elim
 |some u=>exact⟨u,rfl,r⟩
theorem jc.none_of{o:Option Value}(r:jc none o):o=none:=by
 cases o with
 |none=>rfl
 |some u=>exact(show False from r).elim
theorem Rw{v:V}{u:Value}(r:RelV v u):PySem.W.handedIn u=true:=by
 cases v with
 |aI=>cases(show u=Value.none from r);rfl
 |bl b=>cases(show u=Value.bool b from r);rfl
 |int i=>obtain⟨t,e⟩:=(show ∃t,u=Value.int i t from r);cases e;rfl
 |str x=>obtain⟨t,e⟩:=(show ∃t,u=Value.str x t from r);cases e;rfl
 |uX b=>obtain⟨t,e⟩:=(show ∃t,u=Value.bytes b t from r);cases e;rfl
 |u_ b=>obtain⟨t,e⟩:=(show ∃t,u=Value.float b t from r);cases e;rfl
 |ref a=>cases(show u=Value.ref a from r);rfl
 |ty n=>cases(show u=Value.type n from r);rfl
section
variable {P:Program} {w:World} {H H':Hp} {h h':Heap} {a C dx:Addr} {fs oO:List (Str×V)}
theorem HS(cx:jQ P w H h)(e:H a=some (.ins C dx fs)):∃mA,nM h a dx C mA/\(∀f,jc (fs.lookup f) (mA f))/\PySem.Within mA (fs.map (·.1))/\fs.length<=1000/\H dx=some (.own a):=by
 obtain⟨d,z,ne,ob,mA,n,r,q⟩:=(show cb P w H h a (.ins C dx fs) from cx a _ e);exact⟨mA,⟨ob,n,ne⟩,r,q,z,d⟩
end
structure mr (K:L2.FG) (C:Addr):Prop where
 pg:PySem.W.plainGet K C Str.empty=true
 hd:PySem.W.hasDictIn K C=true
 po:PySem.W.plainOver K C=true
 sa:PySem.W.findIn K (.ref C) "__setattr__"=some (some (.builtin "object.__setattr__"))
theorem mr.get{K:L2.FG}{C:Addr}(c:mr K C)(f:Str):PySem.W.plainGet K C f=true:=c.pg
def b_(K:L2.FG)(C:Addr)(f:Str):Prop:=PySem.W.findIn K (.ref C) f=some none
theorem b_.CP{K:L2.FG}{C:Addr}{f:Str}(n:b_ K C f):PySem.W.takerIn K C f=some none:=by
 unfold PySem.W.takerIn;rw[show PySem.W.findIn K (.ref C) f=some none from n];rfl
structure Con (K:L2.FG) (C:Addr) (f:Str) (v:V) (u:Value):Prop where
 at_:PySem.W.findIn K (.ref C) f=some (some u)
 rel:RelV v u
 get:PySem.W.specialIn K u "__get__"=some none
 cp:PySem.W.copiedNames.contains f=false
structure Meth (K:L2.FG) (C:Addr) (m:Str) (f:Addr):Prop where
 at_:PySem.W.findIn K (.ref C) m=some (some (.ref f))
 fn:PySem.W.isFn K (.ref f)=true
 kp:PySem.W.keepIn K (.ref f)=true
section
variable {X:Cx} {pins:List (Addr×Obj)} {Z:St} {H:Hp} {s:Shared} {a C dx:Addr} {fs:List (Str×V)} {f:Str} {v:V} {A:Around} {E:Value->Shared->Prop}
theorem Ll{b:Bool}{Q:Value->Shared->Prop}(I:Inv X pins Z H s)(e:H a=some (.ins C dx fs))(c:mr X.K C)(n:b_ X.K C f)(l:fs.lookup f=some v)
  (h:∀u s',Inv X pins Z H s'->RelV v u->Q u s'):wpAny (model X.prog X.w) A (getAttr (.ref a) f b) Q E s:=by
 obtain⟨mA,O,r,_,_,_⟩:=HS I.cx e;obtain⟨u,hu,ru⟩:=jc.some_of (v:=v) (o:=mA f) (by rw[<-l];exact r f)
 exact UI I.lI O (c.get f) c.hd n hu (Rw ru) (h u _ (I.tok _) ru)
theorem Lm{m:Str}{g:Addr}{pl:Sem Bool}{Q:Value×List Value->Shared->Prop}(I:Inv X pins Z H s)(e:H a=some (.ins C dx fs))(c:mr X.K C)(k:Meth X.K C m g)(l:fs.lookup m=none)
  (h:Q (.ref g,[.ref a]) s):wpAny (model X.prog X.w) A (getMethod (.ref a) m pl) Q E s:=by
 obtain⟨mA,O,r,_,_,_⟩:=HS I.cx e;have hn:mA m=none:=jc.none_of (by rw[<-l];exact r m)
 exact S7 I.lI O (c.get m) k.at_ k.fn hn h
theorem Ln{y:V}{u:Value}{Q:Unit->Shared->Prop}(I:Inv X pins Z H s)(e:H a=some (.ins C dx fs))(c:mr X.K C)(n:b_ X.K C f)(hl:fs.length < 1000)(ry:RelV y u)
  (h:∀s',Inv X pins Z (upd H a (.ins C dx (fu f y fs))) s'->Q () s'):wpAny (model X.prog X.w) A (setAttr (.ref a) f u) Q E s:=by
 obtain⟨mA,O,r,wi,_,ho⟩:=HS I.cx e;have hz:(fs.map (·.1)).length<=sizeLine:=by rw[bB,sizeLine_eq];lia
 refine UJ I.lI O c.sa c.po n.CP c.hd wi hz λh' O' sb=>h _ ?_
 have hd:∃o,h'.get? dx=some o:=let ⟨o,_,_,e',_⟩:=O'.ns;⟨o,e'⟩
 refine I.write (x:=a) (e:=dx) (by rw[e];exact True.intro) (.inr ho) (λb q hb z=>(sb.2 b hb).trans z) hd ?_
 refine⟨by rw[cK O.ne];exact ho,?_,O.ne,O'.obj,_,O'.ns,λg=>?_,λg hg=>?_⟩
 ·have:=Le f y fs;lia
 ·show jc ((fu f y fs).lookup g) (if g=f then some u else mA g)
  rw[Ld];by_cases q:g=f
  ·rw[if_pos q,if_pos q];exact ry
  ·rw[if_neg q,if_neg q];exact r g
 ·by_cases q:g=f
  ·rw[q];exact(GU f y fs).1
  ·refine(GU f y fs).2 g (wi g λz=>hg ?_)
   show(if g=f then some u else mA g)=none
   rw[if_neg q];exact z
theorem Inv.made(I:Inv X pins Z H s):Inv X pins Z (upd (upd H s.heap.objs.size (.own (s.heap.objs.size+1))) (s.heap.objs.size+1) (.ins C s.heap.objs.size []))
  {s with heap:=(s.heap.push PySem.W.emptyDict).push (PySem.W.instObj C s.heap.objs.size)}:=by
 have e1:(s.heap.push PySem.W.emptyDict).get? s.heap.objs.size=some PySem.W.emptyDict:=mG s.heap rfl;have e2:((s.heap.push PySem.W.emptyDict).push (PySem.W.instObj C s.heap.objs.size)).get? (s.heap.objs.size+1)=some (PySem.W.instObj C s.heap.objs.size):=by
  have:=mG (s.heap.push PySem.W.emptyDict) (o:=PySem.W.instObj C s.heap.objs.size) rfl
  rwa [Heap.size_push] at this
 have e3:(s.heap.push PySem.W.emptyDict).Ns s.heap.objs.size (λ_=>none):=⟨PySem.W.emptyDict,#[],_,e1,rfl,(λe he=>absurd he (by simp)),λ_=>rfl⟩
 have I1:=I.laid (a:=s.heap.objs.size) (o:=.own (s.heap.objs.size+1)) (h':=s.heap.push PySem.W.emptyDict) (t':=s.toks) (λb u q=>iK _ q) (cP _) ⟨_,e1⟩
 refine I1.laid (a:=s.heap.objs.size+1) (o:=.ins C s.heap.objs.size []) (t':=s.toks) (λb u q=>iK _ q) (Nat.le_of_eq (Heap.size_push _ _)) ?_
 have ne:s.heap.objs.size≠s.heap.objs.size+1:=i8 (zo _);refine⟨by rw[cK ne,iU],mE _,ne,e2,λ_=>none,(Heap.Ns1.of_empty e3).at λo q=>iK _ q,λ_=>True.intro,λy hy=>absurd rfl hy⟩
theorem UK{prog:Program}{w:World}{env:Env}{e:Expr}{f:Str}{pos:Pos}{s:Shared}{Q:Value->Shared->Prop}(hb:attributeBase e f env (eval e env)=eval e env)
  (h:wpAny (model prog w) A (eval e env) (λo s₁=>wpAny (model prog w) A (getAttr o f true) Q E s₁) E s):wpAny (model prog w) A (eval (.Attribute e f pos) env) Q E s:=
 Attribute_any_ h (by rw[arm_eval_Attribute,hb])
end
def Kl(K:L2.FG)(ta:TE)(f:Str):TE:=λZ H Q=>ta Z H λx H1=>∃a C dx fs v,x=.ref a/\H1 a=some (.ins C dx fs)/\mr K C/\b_ K C f/\fs.lookup f=some v/\Q v H1
def Ki(K:L2.FG)(ta tv:TE)(f:Str):TS:=λD Z H=>tv Z H λy H1=>ta Z H1 λx H2=>∃a C dx fs,x=.ref a/\H2 a=some (.ins C dx fs)/\mr K C/\b_ K C f/\fs.length < 1000/\
 D.nx Z (upd H2 a (.ins C dx (fu f y fs)))
def zF(X:Cx)(op:Operator)(rd:V->V->Hp->VK->Prop):Prop:=
 ∀(pins:List (Addr×Obj)) (s:Shared) (Z:St) (H:Hp) (x y:V) (u v:Value) (Q:VK),Inv X pins Z H s->RelV x u->RelV y v->rd x y H Q->wpAny (model X.prog X.w) X.A (inplaceOp op u v) (EP X pins Z Q) X.xe s
def UL(K:L2.FG)(ta tv:TE)(rd:V->V->Hp->VK->Prop)(f:Str):TS:=λD Z H=>ta Z H λx H1=>∃a C dx fs v,x=.ref a/\H1 a=some (.ins C dx fs)/\mr K C/\b_ K C f/\fs.lookup f=some v/\
 tv Z H1 λy H2=>rd v y H2 λz H3=>∃wM oO,H3 a=some (.ins C wM oO)/\oO.length < 1000/\D.nx Z (upd H3 a (.ins C wM (fu f z oO)))
section
variable {X:Cx} {o e value:Expr} {f:Str} {pos pos' i6:Pos} {ta tv:TE}
theorem WG(he:PE X e ta)(hb:attributeBase e f X.env (eval e X.env)=eval e X.env):PE X (.Attribute e f pos) (Kl X.K ta f):=by
 intro pins s Z H Q I h;refine UK hb (ck (he pins s Z H _ I h) λu s1 hh=>?_)
 obtain⟨x,H1,I1,rx,a,C,dx,fs,v,ex,ea,c,n,l,q⟩:=hh;subst ex;obtain rfl:u=Value.ref a:=rx;exact Ll I1 ea c n l λu' s2 I2 ru=>⟨v,H1,I2,ru,q⟩
theorem WH(ha:PE X o ta)(hv:PE X value tv)(hs:swapsWith value (some (.Attribute o f pos')) pos.line X.env=pure false):PS X (.Assign [.Attribute o f pos'] value pos) (Ki X.K ta tv f):=by
 intro pins s Z H D I h;refine plainObj_wpAny_Assign_Attribute (ck (hv pins s Z H _ I h) λu s1 ⟨y,H1,I1,ry,q⟩=>ck (ha pins s1 Z H1 _ I1 q) λov s2 ⟨x,H2,I2,rx,a,C,dx,fs,ex,ea,c,n,l,q2⟩=>?_) hs
 subst ex;obtain rfl:ov=Value.ref a:=rx;exact Ln I2 ea c n l ry λs3 I3=>⟨Z,_,I3,q2⟩
theorem Rx{op:Operator}{rd:V->V->Hp->VK->Prop}(ha:PE X o ta)(hv:PE X value tv)(Zn:zF X op rd):PS X (.AugAssign (.Attribute o f i6) op value pos) (UL X.K ta tv rd f):=by
 intro pins s Z H D I h;refine wpAny_AugAssign_AttributeAny (ck (ha pins s Z H _ I h) λov s1 hh=>?_)
 obtain⟨x,H1,I1,rx,a,C,dx,fs,v,ex,ea,c,n,l,q⟩:=hh;subst ex;obtain rfl:ov=Value.ref a:=rx;refine Ll I1 ea c n l λu s2 I2 ru=>ck (hv pins s2 Z H1 _ I2 q) λw3 s3 ⟨y,H2,I3,ry,q3⟩=>ck (Zn pins s3 Z H2 v y u w3 _ I3 ru ry q3) λw4 s4 ⟨z,H3,I4,rz,wM,oO,Yv,l',q4⟩=>?_
 exact Ln I4 Yv c n l' rz λs5 I5=>⟨Z,_,I5,q4⟩
def Kd:V->V->Hp->VK->Prop:=λx y H Q=>∃i j,x=.int i/\y=.int j/\Q (.int (i+j)) H
theorem WI:zF X .Add Kd:=by
 rintro pins s Z H x y u v Q I rx ry ⟨i,j,rfl,rfl,q⟩;obtain⟨t,rfl⟩:=(show ∃t,u=Value.int i t from rx);obtain⟨t',rfl⟩:=(show ∃t',v=Value.int j t' from ry);exact PyProof.Rows.iadd_int ⟨.int (i+j),H,I.tok _,⟨_,rfl⟩,q⟩
end
section
variable {X:Cx} {pins:List (Addr×Obj)} {Z:St} {H:Hp} {s:Shared} {A:Around} {E:Value->Shared->Prop} {Q:Value->Shared->Prop} {c:Value} {b:Bool}
inductive j9 (K:L2.FG) (H:Hp):V->Value->Prop where
 |aI:j9 K H .aI (.type "NoneType")
 |bl (x:Bool):j9 K H (.bl x) (.type "bool")
 |int (i:Int):j9 K H (.int i) (.type "int")
 |str (x:Str):j9 K H (.str x) (.type "str")
 |u_ (x:UInt64):j9 K H (.u_ x) (.type "float")
 |lst {a:Addr} {xs:List V} (e:H a=some (.lst xs)):j9 K H (.ref a) (.type "list")
 |Y {a:Addr} {o:Obj} {xs:List V} (e:H a=some (.Y o (.lst xs))):j9 K H (.ref a) (.type "list")
 |tup {a:Addr} {xs:List V} (e:H a=some (.tup xs)):j9 K H (.ref a) (.type "tuple")
 |dK {a:Addr} {kvs:List (Key×V)} (e:H a=some (.dK kvs)):j9 K H (.ref a) (.type "dict")
 |dT {a:Addr} {kvs:List (List Key×V)} (e:H a=some (.dT kvs)):j9 K H (.ref a) (.type "dict")
 |ins {a C dx:Addr} {fs:List (Str×V)} (e:H a=some (.ins C dx fs)) (cl:mr K C) (ha:PySem.W.findIn K (.ref C) "__class__"=some (some (.builtin "object.__class__")))
   (hn:PySem.W.specialIn K (.builtin "object.__class__") "__get__"=some (some (.builtin "getset_descriptor.__get__"))) (htk:PySem.W.takesIn K (.builtin "object.__class__")=some true)
   (hm:PySem.W.mroIn K C (.type "object")=some true):j9 K H (.ref a) (.ref C)
end
structure cA (k:Nat) (A:Around):Prop where
 hd:A.handled=none
 dp:A.depth+3 * k+5 < recursionLimit
 un:A.units+16 * k+200 < cLine
theorem cA.mono{j k:Nat}{A:Around}(r:cA k A)(h:j<=k):cA j A:=⟨r.hd,by have:=r.dp;lia,by have:=r.un;lia⟩
theorem cA.deeper{k:Nat}{A:Around}(r:cA (k+1) A)(env:Env):cA k (A.deeper env):=
 ⟨r.hd,by have:=r.dp;show A.depth+1+3 * k+5 < _;lia,by have:=r.un;show A.units+3+16 * k+200 < _;lia⟩
theorem QC{A:Around}{C:Addr}{us:List Value}{kw:List (Str×Value)}:(A.under (.builtin "type.__call__" ⟨.ref C::us,kw⟩)).depth=A.depth+1:=by
 first|rfl|simp[Around.under,Code.weight,Code.isCreation,Code.isGuard,Code.isCaller,Code.frames,Code.isFrame,guardIds]
theorem QD{A:Around}{C:Addr}{us:List Value}{kw:List (Str×Value)}:(A.under (.builtin "type.__call__" ⟨.ref C::us,kw⟩)).units=A.units+1:=by
 first|rfl|simp[Around.under,Code.cUnits,Code.frames,Code.isFrame]
theorem cA.make{k:Nat}{A:Around}(r:cA (k+1) A)(C:Addr)(us:List Value)(kw:List (Str×Value)):cA k (A.under (.builtin "type.__call__" ⟨.ref C::us,kw⟩)):=
 ⟨r.hd,by have:=r.dp;rw[QC];lia,by have:=r.un;rw[QD];lia⟩
theorem cA.depth{k:Nat}{A:Around}(r:cA k A):A.depth < recursionLimit:=by have:=r.dp;lia
theorem cA.units{k:Nat}{A:Around}(r:cA k A):A.units+64 < cLine:=by have:=r.un;lia
def CL:TA:=λ_ H Q=>Q [] H
def vE(ta:TE)(tr:TA):TA:=λZ H Q=>ta Z H λx H1=>tr Z H1 λxs H2=>Q (x::xs) H2
section
variable {X:Cx} {e:Expr} {es:List Expr} {te:TE} {t:TA} {pos:Pos}
theorem xE:PA X [] CL:=λ_ _ _ _ H Q I h=>Calls.spliced_nil ⟨[],H,I,.nil,h⟩
theorem UM(ha:PE X e te)(hr:PA X es t)(hs:starEach (e::es) X.env=(false,eval e X.env)::starEach es X.env:=by rfl):PA X (e::es) (vE te t):=by
 intro pos pins s Z H Q I h;rw[hs];show wpAny _ _ (spliced ((false,eval e X.env)::backTo pos (starEach es X.env))) _ _ s;refine Calls.spliced_cons (ck (ha pins s Z H _ I h) λu s1 hh=>?_)
 obtain⟨x,H1,I1,r1,q1⟩:=hh;exact ck (hr pos pins s1 Z H1 _ I1 q1) λus s2 ⟨xs,H2,I2,r2,q2⟩=>⟨x::xs,H2,I2,.cons r1 r2,q2⟩
def Ks(t:TA):TE:=λZ H Q=>t Z H λxs H1=>xs.length<=sizeLine/\∀p,H1 p=none->Q (.ref p) (upd H1 p (.tup xs))
def Ko(t:TA):TE:=λZ H Q=>t Z H λxs H1=>xs.length<=sizeLine/\∀p,H1 p=none->Q (.ref p) (upd H1 p (.lst xs))
theorem WJ{x1}(h:PA X es t):PE X (.Tuple es x1 pos) (Ks t):=by
 intro pins s Z H Q I hq;refine wpAny_Tuple_spliced (ck (h pos pins s Z H _ I hq) λus s1 ⟨xs,H1,I1,r,z,q⟩=>⟨by rw[<-r.length];exact z,?_⟩)
 have hf:H1 s1.heap.objs.size=none:=I1.cx.fresh (cP _);refine⟨.ref s1.heap.objs.size,upd H1 s1.heap.objs.size (.tup xs),I1.laid (t':=s1.toks) (λb u e=>iK _ e) (cP _) ?_,rfl,q _ hf⟩
 exact⟨z,us,r,⟨_,mG _ rfl,rfl,_,rfl⟩⟩
theorem WK(h:PA X es t):PE X (.List es pos) (Ko t):=by
 intro pins s Z H Q I hq;refine wpAny_List_spliced (ck (h pos pins s Z H _ I hq) λus s1 ⟨xs,H1,I1,r,z,q⟩=>⟨by rw[<-r.length];exact z,?_⟩)
 have hf:H1 s1.heap.objs.size=none:=I1.cx.fresh (cP _);refine⟨.ref s1.heap.objs.size,upd H1 s1.heap.objs.size (.lst xs),I1.laid (t':=s1.toks) (λb u e=>iK _ e) (cP _) ?_,rfl,q _ hf⟩
 exact⟨z,us,0,r,mG _ rfl⟩
end
abbrev Sp:=List V->Hp->VK->XK->Prop
abbrev pj:=List Env->Hp->Shared->XK->Value->Shared->Prop
structure nK (P:Program) (w:World) (K:L2.FG) (mg:Str->Option Value) (base:Heap) (A:Around) (outer:List Env) (s:Shared) (H:Hp):Prop where
 frames:A.frames=some outer
 mod:Mod K mg base
 bs:∀b o,base.get? b=some o->s.heap.get? b=some o/\H b=none
 tX:base.objs.size<=s.heap.objs.size
 jU:s.heap.FunFrames base outer
 w9:∀b∈pO outer,H b=none
 cx:jQ P w H s.heap
 bare:AllBare s.gens
def CE(outer:List Env)(P:Program)(w:World)(H:Hp)(s:Shared)(Q:VK)(u:Value)(s':Shared):Prop:=
 ∃v H',s'.os=s.os/\AllBare s'.gens/\Un (pO outer) [] H H' s.heap s'.heap/\jQ P w H' s'.heap/\RelV v u/\Q v H'
def CR(CX:pj)(outer:List Env)(P:Program)(w:World)(H:Hp)(s:Shared)(Q:VK)(E:XK)(r:Result)(s':Shared):Prop:=
 match r with
 |.ok (.ret u)=>CE outer P w H s Q u s'
 |.ok _=>False
 |.error e=>CX outer H s E e s'
structure aT (P:Program) (w:World) (K:L2.FG) (mg:Str->Option Value) (base:Heap) (CX:pj) (k:Nat) (f:Addr) (fd:FuncData) (ps:List Str) (sp:Sp):Prop where
 len:∀vs H Q E,sp vs H Q E->vs.length=ps.length
 run:∀(A:Around) (outer:List Env) (s:Shared) (H:Hp) (args:Args) (us:List Value) (vs:List V) (Q:VK) (E:XK),cA k A->nK P w K mg base A outer s H->BindsTo s fd args (ps.zip us)->Vals vs us->sp vs H Q E->
  codeAny (model P w) A (.call (.ref f) args) (CR CX outer P w H s Q E) s
theorem aT.imp{P:Program}{w:World}{K:L2.FG}{mg:Str->Option Value}{base:Heap}{CX:pj}{k:Nat}{f:Addr}{fd:FuncData}{ps:List Str}{sp Pq:Sp}(F:aT P w K mg base CX k f fd ps sp)
  (h:∀vs H Q E,Pq vs H Q E->sp vs H Q E):aT P w K mg base CX k f fd ps Pq:=
 ⟨λvs H Q E q=>F.len vs H Q E (h _ _ _ _ q),λA outer s H args us vs Q E hr he hb hv hs=>F.run A outer s H args us vs Q E hr he hb hv (h _ _ _ _ hs)⟩
theorem nK.make{P:Program}{w:World}{K:L2.FG}{mg:Str->Option Value}{base:Heap}{A:Around}{outer:List Env}{s:Shared}{H:Hp}(e:nK P w K mg base A outer s H)(C:Addr)(us:List Value)(kw:List (Str×Value)):
  nK P w K mg base (A.under (.builtin "type.__call__" ⟨.ref C::us,kw⟩)) outer s H:=⟨by first|exact e.frames|(simpa[Around.under,Code.envs,Code.isFrame,pushEnvs] using e.frames),e.mod,e.bs,e.tX,e.jU,e.w9,e.cx,e.bare⟩
section
variable {X:Cx} {pins:List (Addr×Obj)} {Z:St} {H:Hp} {s s':Shared}
theorem Inv.BC(I:Inv X pins Z H s):nK X.prog X.w X.K X.mg X.base X.A X.stack s H:=
 ⟨I.ok.frames,I.ok.mod,I.bs,lQ I.ok.tX I.sz,I.stack,I.o6,I.cx,I.bare⟩
theorem Inv.after{Q:VK}{u:Value}(I:Inv X pins Z H s)(h:CE X.stack X.prog X.w H s Q u s'):EP X pins Z Q u s':=by
 obtain⟨v,H',os,bare,un,cx,r,q⟩:=h;obtain⟨hh,g,d,t,vm⟩:=s';obtain rfl:vm=s.os:=os;exact⟨v,H',I.call (h':=hh) (g':=g) (d':=d) (t':=t) (ch:=[]) un cx bare (λb z=>absurd z (by simp)),r,q⟩
end
def o7(sp:Sp)(kZ:List V)(E:St->XK)(t:TA):TE:=λZ H Q=>t Z H λvs H1=>sp (vs++kZ) H1 Q (E Z)
def r9(C:Addr)(m:Str)(sp:Sp)(kZ:List V)(E:St->XK)(ta:TE)(t:TA):TE:=λZ H Q=>ta Z H λx H1=>∃a dx fs,x=.ref a/\H1 a=some (.ins C dx fs)/\fs.lookup m=none/\
 t Z H1 λvs H2=>sp (x::(vs++kZ)) H2 Q (E Z)
def vF(C:Addr)(sp:Sp)(kZ:List V)(E:St->XK)(t:TA):TE:=λZ H Q=>t Z H λvs H1=>∀x dx,H1 x=none->H1 dx=none->dx≠x->
 sp (.ref x::(vs++kZ)) (upd (upd H1 dx (.own x)) x (.ins C dx [])) (λv H2=>v=.aI/\Q (.ref x) H2) (E Z)
def Binds(K:L2.FG)(fd:FuncData)(ps:List Str)(ds:List Value):Prop:=
 ∀(s:Shared) (us:List Value),K.In s.heap->(us++ds).length=ps.length->BindsTo s fd ⟨us,[]⟩ (ps.zip (us++ds))
theorem Binds.all{K:L2.FG}{fd:FuncData}{ps:List Str}(h:∀us:List Value,us.length=ps.length->bindArgs fd ⟨us,[]⟩=pure (ps.zip us)):Binds K fd ps []:=λs us _ hl=>by
 rw[d_] at hl ⊢;exact .of_eq (h us hl)
def wu(CX:pj)(X:Cx)(E:St->XK):Prop:=∀(pins:List (Addr×Obj)) (Z:St) (H:Hp) (s:Shared) (e:Value) (s':Shared),Inv X pins Z H s->CX X.stack H s (E Z) e s'->X.xe e s'
section
variable {X:Cx} {CX:pj} {k:Nat} {f C:Addr} {fd:FuncData} {ps:List Str} {sp:Sp} {kZ:List V} {ds:List Value} {E:St->XK} {x m:Str} {p pos apos:Pos} {e o:Expr} {es:List Expr} {ta:TE} {t:TA}
theorem Iw{pins:List (Addr×Obj)}{Z:St}{H:Hp}{s:Shared}{Q:VK}{us:List Value}{vs:List V}(F:aT X.prog X.w X.K X.mg X.base CX k f fd ps sp)(hr:cA k X.A)(hb:Binds X.K fd ps ds)(hd:Vals kZ ds)(hx:wu CX X E)
  (I:Inv X pins Z H s) (r:Vals vs us) (h:sp (vs++kZ) H Q (E Z)):wpAny (model X.prog X.w) X.A (call (.ref f) us) (EP X pins Z Q) X.xe s:=by
 have r2:Vals (vs++kZ) (us++ds):=r.append hd;have hl:(us++ds).length=ps.length:=by rw[<-r2.length];exact F.len _ _ _ _ h
 refine wpAny_call (codeAny_mono (F.run X.A X.stack s H ⟨us,[]⟩ (us++ds) (vs++kZ) Q (E Z) hr I.BC (hb s us I.lI hl) r2 h) λr s' hq=>?_)
 cases r with
 |error e=>exact hx pins Z H s e s' I hq
 |ok fl=>
  cases fl with
  |ret u=>exact I.after hq
  |next=>exact False.elim hq
  |brk=>exact False.elim hq
  |cont=>exact False.elim hq
theorem UN(F:aT X.prog X.w X.K X.mg X.base CX k f fd ps sp)(hr:cA k X.A)(hg:Gl X x)(hm:X.mg x=some (.ref f))(hk:PySem.W.keepIn X.K (.ref f)=true)(hb:Binds X.K fd ps ds)(hd:Vals kZ ds)(hx:wu CX X E)
  (ha:PA X (e::es) t) (lW:(x == ("__debug__":Str))=false:=by decide) (he:starEach (e::es) X.env=(false,eval e X.env)::starEach es X.env:=by rfl) (jM:(backTo pos (starEach es X.env)).any (·.1)=false:=by rfl) :
  PE X (.Call (.Name x p) (e::es) [] pos) (o7 sp kZ E t):=by
 intro pins s Z H Q I h;refine wpAny_Call_Name_kw (HR I hg hm ?_ lW);refine PySem.W.callWith_K (h₀:=X.base) I.ok.mod.B9 hk (ck (ha pos pins s Z H _ I h) λus s1 ⟨vs,H1,I1,r,q⟩=>⟨I1.lI,?_⟩) he jM
 exact Iw F hr hb hd hx I1 r q
theorem UO{pl:Sem Bool}(he:PE X o ta)(c:mr X.K C)(hm:Meth X.K C m f)(F:aT X.prog X.w X.K X.mg X.base CX k f fd ps sp)(hr:cA k X.A)(hb:Binds X.K fd ps ds)(hd:Vals kZ ds)(hx:wu CX X E)(ha:PA X (e::es) t)
  (sT:starEach (e::es) X.env=(false,eval e X.env)::starEach es X.env:=by rfl) (jM:(backTo pos (starEach es X.env)).any (·.1)=false:=by rfl)
  (ht:eval (.Call (.Attribute o m apos) (e::es) [] pos) X.env=(do
   let ov <-eval o X.env
   standAt apos.atName
   let (f,first) <-holding [ov] (getMethod ov m pl)
   callWith pos f first (backTo pos (starEach (e::es) X.env)) (backToKw pos (keywordEach [] X.env))):=by rfl) :
  PE X (.Call (.Attribute o m apos) (e::es) [] pos) (r9 C m sp kZ E ta t):=by
 intro pins s Z H Q I h;refine PySem.W.methodCall_KW (pl:=pl) (ck (he pins s Z H _ I h) λu s1 hh=>?_) ht
 obtain⟨x,H1,I1,rx,a,dx,fs,ex,ea,l,q⟩:=hh;subst ex;obtain rfl:u=Value.ref a:=rx;refine Lm I1 ea c hm l ?_;refine PySem.W.callWith_K (first:=[.ref a]) (h₀:=X.base) I.ok.mod.B9 hm.kp (ck (ha pos pins s1 Z H1 _ I1 q) λus s2 ⟨vs,H2,I2,r,q2⟩=>⟨I2.lI,?_⟩) sT jM
 exact Iw (us:=.ref a::us) (vs:=.ref a::vs) F hr hb hd hx I2 (.cons rfl r) q2
theorem S9{pl:Sem Bool}(he:PE X o ta)(c:mr X.K C)(hm:Meth X.K C m f)(F:aT X.prog X.w X.K X.mg X.base CX k f fd ps sp)(hr:cA k X.A)(hb:Binds X.K fd ps ds)(hd:Vals kZ ds)(hx:wu CX X E)
  (ht:eval (.Call (.Attribute o m apos) [] [] pos) X.env=(do
   let ov <-eval o X.env
   standAt apos.atName
   let (f,first) <-holding [ov] (getMethod ov m pl)
   callWith pos f first (backTo pos (starEach [] X.env)) (backToKw pos (keywordEach [] X.env))):=by rfl) :
  PE X (.Call (.Attribute o m apos) [] [] pos) (r9 C m sp kZ E ta CL):=by
 intro pins s Z H Q I h;refine PySem.W.methodCall_KW (pl:=pl) (ck (he pins s Z H _ I h) λu s1 hh=>?_) ht
 obtain⟨x,H1,I1,rx,a,dx,fs,ex,ea,l,q⟩:=hh;subst ex;obtain rfl:u=Value.ref a:=rx;refine Lm I1 ea c hm l ?_;exact PySem.W.callWith_K0 (first:=[.ref a]) I1.lI hm.kp (Iw (us:=[.ref a]) (vs:=[.ref a]) F hr hb hd hx I1 (.cons rfl .nil) q)
structure Mk (K:L2.FG) (C f:Addr):Prop where
 makes:PySem.W.makesIn K C=true
 init:PySem.W.findIn K (.ref C) "__init__"=some (some (.ref f))
 fn:PySem.W.isFn K (.ref f)=true
 kp:PySem.W.keepIn K (.ref C)=true
theorem S_{pins:List (Addr×Obj)}{Z:St}{H:Hp}{s:Shared}{Q:VK}{us:List Value}{vs:List V}(M:Mk X.K C f)(F:aT X.prog X.w X.K X.mg X.base CX k f fd ps sp)(hr:cA (k+1) X.A)(hb:Binds X.K fd ps ds)(hd:Vals kZ ds)
  (hx:wu CX X E) (I:Inv X pins Z H s) (r:Vals vs us)
  (h:∀x dx,H x=none->H dx=none->dx≠x->sp (.ref x::(vs++kZ)) (upd (upd H dx (.own x)) x (.ins C dx [])) (λv H2=>v=.aI/\Q (.ref x) H2) (E Z)) :
  wpAny (model X.prog X.w) X.A (call (.ref C) us) (EP X pins Z Q) X.xe s:=by
 have hq:=h (s.heap.objs.size+1) s.heap.objs.size (I.cx.fresh (zp _)) (I.cx.fresh (cP _)) (i8 (zo _));have I2:=Inv.made (C:=C) I;have r2:Vals (V.ref (s.heap.objs.size+1)::(vs++kZ)) (Value.ref (s.heap.objs.size+1)::(us++ds)):=.cons rfl (r.append hd);have hl:(Value.ref (s.heap.objs.size+1)::us++ds).length=ps.length:=by
  have e:=r2.length;rw[F.len _ _ _ _ hq] at e;exact e.symm
 refine wpAny_call (S8 (f:=f) I.lI M.makes M.init (beq_iff_eq.mp M.fn) (codeAny_mono (F.run _ X.stack _ _ ⟨Value.ref (s.heap.objs.size+1)::us,[]⟩ (Value.ref (s.heap.objs.size+1)::(us++ds)) _ _ (E Z) (hr.make C us [])
  (I2.BC.make C us []) (hb _ (Value.ref (s.heap.objs.size+1)::us) I2.lI hl) r2 hq) λr s' BX=>?_))
 cases r with
 |error e=>exact hx pins Z _ _ e s' I2 BX
 |ok fl=>
  cases fl with
  |ret u=>
   obtain⟨v,H',I3,rv,ev,q3⟩:=I2.after BX;subst ev;exact⟨rv,⟨V.ref (s.heap.objs.size+1),H',I3,rfl,q3⟩⟩
  |next=>exact False.elim BX
  |brk=>exact False.elim BX
  |cont=>exact False.elim BX
theorem UP(M:Mk X.K C f)(F:aT X.prog X.w X.K X.mg X.base CX k f fd ps sp)(hr:cA (k+1) X.A)(hg:Gl X x)(hm:X.mg x=some (.ref C))(hb:Binds X.K fd ps ds)(hd:Vals kZ ds)(hx:wu CX X E)
  (ha:PA X (e::es) t) (lW:(x == ("__debug__":Str))=false:=by decide) (he:starEach (e::es) X.env=(false,eval e X.env)::starEach es X.env:=by rfl) (jM:(backTo pos (starEach es X.env)).any (·.1)=false:=by rfl) :
  PE X (.Call (.Name x p) (e::es) [] pos) (vF C sp kZ E t):=by
 intro pins s Z H Q I h;refine wpAny_Call_Name_kw (HR I hg hm ?_ lW);refine PySem.W.callWith_K (h₀:=X.base) I.ok.mod.B9 M.kp (ck (ha pos pins s Z H _ I h) λus s1 ⟨vs,H1,I1,r,q⟩=>⟨I1.lI,?_⟩) he jM
 exact S_ M F hr hb hd hx I1 r q
end
section
variable {X:Cx} {CX:pj} {k:Nat} {f C:Addr} {fd:FuncData} {ps ks:List Str} {sp:Sp} {E:St->XK} {x m:Str} {p pos apos B_:Pos} {e o:Expr} {es:List Expr} {kws:List Keyword} {te ta:TE} {t tk:TA} {nm:Option Str}
structure KBinds (K:L2.FG) (fd:FuncData) (ps ks:List Str) (g:List Value->List Value->List Value) (gV:List V->List V->List V):Prop where
 to:∀(s:Shared) (us ws:List Value),K.In s.heap->(g us ws).length=ps.length->BindsTo s fd ⟨us,ks.zip ws⟩ (ps.zip (g us ws))
 rel:∀{vs:List V} {us:List Value} {zs:List V} {ws:List Value},Vals vs us->Vals zs ws->Vals (gV vs zs) (g us ws)
variable {g:List Value->List Value->List Value} {gV:List V->List V->List V}
end
structure aB (N P:List Str) (sc:Scope):Prop where
 kind:sc.kind=.function
 co:sc.isCoroutine=false
 gen:sc.isGenerator=false
 nd:N.Nodup
 pre:N.take P.length=P
 par:∀x∈P,sc.names.lookup x=some .local \/ sc.names.lookup x=some .cell
 xv:∀y∈sc.names,y.2≠.free
theorem Lz{kindOf:Str->Option NameKind}{x:Str}:∀{binds:List (Str×Value)} {m:Str->Option Value},(∀v,(x,v)∉binds)->bindL kindOf binds m x=m x
 |[],_,_=>rfl
 |(n,v)::r,m,h=>by
  unfold bindL;rw[Lz λw hw=>h w (lu _ hw)]
  split
  ·have:x≠n:=by rintro rfl;exact h v qN
   simp[this]
  ·rfl
theorem LA{kindOf:Str->Option NameKind}{x:Str}:∀{binds:List (Str×Value)} {m:Str->Option Value},(∀v,(x,v)∉binds)->bindC kindOf binds m x=m x
 |[],_,_=>rfl
 |(n,v)::r,m,h=>by
  unfold bindC;rw[LA λw hw=>h w (lu _ hw)]
  split
  ·rfl
  ·have:x≠n:=by rintro rfl;exact h v qN
   simp[this]
theorem LB{kindOf:Str->Option NameKind}{x:Str}{v:Value}:∀{P:List Str} {vs:List Value} {i:Nat} {m:Str->Option Value},P.Nodup->P[i]?=some x->vs[i]?=some v->kindOf x=some .local ->
  bindL kindOf (P.zip vs) m x=some v
 |[],_,_,_,_,h,_,_=>by simp at h
 |_::_,[],_,_,_,_,h,_=>by simp at h
 |p::P,w::vs,0,m,nd,h1,h2,hk=>by
  simp at h1 h2;subst h1;subst h2;show bindL kindOf ((p,w)::P.zip vs) m p=_;unfold bindL;rw[Lz λv hv=>(j7.mp nd).1 (List.of_mem_zip hv).1,if_pos hk]
  simp
 |p::P,w::vs,i+1,m,nd,h1,h2,hk=>by
  show bindL kindOf ((p,w)::P.zip vs) m x=_;unfold bindL;exact LB (i:=i) (j7.mp nd).2 (by simpa using h1) (by simpa using h2) hk
theorem LC{kindOf:Str->Option NameKind}{x:Str}{v:Value}:∀{P:List Str} {vs:List Value} {i:Nat} {m:Str->Option Value},P.Nodup->P[i]?=some x->vs[i]?=some v->kindOf x≠some .local ->
  bindC kindOf (P.zip vs) m x=some v
 |[],_,_,_,_,h,_,_=>by simp at h
 |_::_,[],_,_,_,_,h,_=>by simp at h
 |p::P,w::vs,0,m,nd,h1,h2,hk=>by
  simp at h1 h2;subst h1;subst h2;show bindC kindOf ((p,w)::P.zip vs) m p=_;unfold bindC;rw[LA λv hv=>(j7.mp nd).1 (List.of_mem_zip hv).1,if_neg hk]
  simp
 |p::P,w::vs,i+1,m,nd,h1,h2,hk=>by
  show bindC kindOf ((p,w)::P.zip vs) m x=_;unfold bindC;exact LC (i:=i) (j7.mp nd).2 (by simpa using h1) (by simpa using h2) hk
noncomputable def start(N:List Str)(vs:List V):St:=vs.map some++List.replicate (N.length - vs.length) none
noncomputable def mY(CX:pj)(P:Program)(w:World)(K:L2.FG)(mg:Str->Option Value)(base:Heap)(N:List Str)(qual:Str)(scope:Scope)(f:Addr)(cd:Value)(A:Around)(outer:List Env)(s:Shared)(H:Hp)(E:XK):Cx where
 prog:=P
 w:=w
 K:=K
 mg:=mg
 base:=base
 A:=A.deeper (envOfC qual scope s.heap.objs.size f cd)
 N:=N
 s₀:=s
 H₀:=H
 env:=envOfC qual scope s.heap.objs.size f cd
 outer:=outer
 stack:=envOfC qual scope s.heap.objs.size f cd::outer
 ex:=[]
 calm:=true
 fn:=λ_=>true
 pn:=[]
 xe:=λe s'=>wpAny (model P w) (A.deeper (envOfC qual scope s.heap.objs.size f cd)) (leaving (envOfC qual scope s.heap.objs.size f cd) e) (λ_ CC=>CX outer H s E e CC) (λe' CC=>CX outer H s E e' CC) s'
theorem Md{sc:Scope}{n:Nat}{x:Str}(h:sc.names.lookup x=some .cell):∃c,(cellsFrom n sc.names []).lookup x=some c:=by
 have q:=PySem.W.cellsFrom_some sc.names n [] (.inl h);exact Option.isSome_iff_exists.mp q
theorem Ry{CX:pj}{P:Program}{w:World}{K:L2.FG}{mg:Str->Option Value}{base:Heap}{N ps:List Str}{qual:Str}{scope:Scope}{f:Addr}{cd:Value}{A:Around}{outer:List Env}{s s1:Shared}{H:Hp}{E:XK}{us:List Value}{vs:List V}
  (S:aB N ps scope) (hd:A.handled=none) (e0:nK P w K mg base A outer s H) (hl:vs.length=ps.length) (r:Vals vs us)
  (x:InCallC s s.heap.objs.size (bindL (envOfC qual scope s.heap.objs.size f cd).kindOf (ps.zip us) λ_=>none) (cellsFrom (s.heap.objs.size+1) scope.names []) (bindC (envOfC qual scope s.heap.objs.size f cd).kindOf (ps.zip us) λ_=>none) s1) :
  Inv (mY CX P w K mg base N qual scope f cd A outer s H E) [] (start N vs) H s1:=by
 have jM:ps.length<=N.length:=by have:=congrArg List.length S.pre;rw[nJ] at this;lia
 obtain⟨h1,tk,rfl,hk⟩:=x.done;have Ck:∀b:Addr,b∉(mY CX P w K mg base N qual scope f cd A outer s H E).ex:=λb z=>absurd (show b∈([]:List Addr) from z) (by simp)
 refine⟨⟨e0.mod,S.kind,rfl,rfl,cP _,λy z c h1 h2=>?_,λy hy=>?_,λy c _ h=>?_,λ_=>hd,Around.frames_deeper e0.frames,.inr ⟨rfl,rfl⟩,λb z=>absurd z (Ck b),e0.bs,e0.tX,λb _ _=>Ck b,λb z=>absurd z (Ck b),e0.jU,e0.w9⟩,
  rfl,e0.bare,Un.kept hk,⟨_,x.toInCall.ns,λi y v h1 h2 h3=>?_⟩,λy c h=>⟨_,x.cell y c h⟩,e0.cx.fresh (cP _),λy c h=>?_,λp hp=>absurd (show p∈([]:List (Addr×Obj)) from hp) (by simp),e0.cx.kept hk,?_⟩
 ·exact name_of_addr x.apart (PySem.mem_of_lookup h1) (PySem.mem_of_lookup h2)
 ·have hy:scope.names.lookup y=some .cell\/scope.names.lookup y=some .free:=hy;rcases hy with hy|hy
  ·exact Md hy
  ·exact absurd rfl (S.xv _ (PySem.mem_of_lookup hy))
 ·exact Nat.le_of_lt (x.above y c (PySem.mem_of_lookup h))
 ·have hi:i < vs.length:=by
   unfold start at h2;by_cases hi:i < vs.length
   ·exact hi
   ·rw[xU (by simpa using hi)] at h2
    rw[List.getElem?_replicate] at h2;split at h2 <;> cases h2
  have ha:vs[i]?=some v:=by
   unfold start at h2;rw[FE (by simpa using hi),iz] at h2
   cases e:vs[i]? with
   |none=>rw[e] at h2;cases h2
   |some a=>rw[e] at h2;cases h2;rfl
  obtain⟨u,hu,rv⟩:=r.get ha;have hp:ps[i]?=some y:=by
   rw[<-S.pre,KD (by lia)];exact h1
  have Pe:ps.Nodup:=by rw[<-S.pre];exact S.nd.sublist (List.take_sublist _ _)
  refine⟨u,rv,?_⟩;rcases S.par y (zq hp) with k|k
  ·exact .inl ⟨k,LB Pe hp hu k⟩
  ·obtain⟨c,e⟩:=Md (n:=s.heap.objs.size+1) k;refine .inr ⟨.inl k,c,e,?_⟩;have q:=x.cell y c e;rw[LC Pe hp hu (by show scope.names.lookup y≠_;rw[k];decide)] at q
   exact q
 ·exact e0.cx.fresh (Nat.le_of_lt (x.above y c (PySem.mem_of_lookup h)))
 ·unfold start;show _=N.length;rw[gK,bB,sZ];lia
theorem XS{CX:pj}{P:Program}{w:World}{K:L2.FG}{mg:Str->Option Value}{base:Heap}{k:Nat}{f:Addr}{name qual:Str}{params:Arguments}{body:List Stmt}{scope:Scope}{dV kV doc pm cL ct oc:Value}{an od:Option Addr}
  {sY:Array (Option Value)} {N ps:List Str} {sp:Sp} (lk:K.lookup f=some ⟨oc,od,.func (PySem.W.fnOf name qual params body scope dV kV doc pm an cL ct),sY⟩) (pQ:PySem.W.codeIn K cL qual=true) (S:aB N ps scope)
  (len:∀vs H Q E,sp vs H Q E->vs.length=ps.length)
  (ko:∀(A:Around) (outer:List Env) (s:Shared) (H:Hp) (vs:List V) (Q:VK) (E:XK),cA k (A.deeper (envOfC qual scope s.heap.objs.size f cL))->sp vs H Q E->
   ∃t,jt (mY CX P w K mg base N qual scope f cL A outer s H E) body t/\t { nx:=λ_ H'=>Q .aI H',rt:=Q} (start N vs) H) :
  aT P w K mg base CX (k+1) f (PySem.W.fnOf name qual params body scope dV kV doc pm an cL ct) ps sp:=by
 refine⟨len,λA outer s H args us vs Q E hr e0 hb r vf=>?_⟩
 have hl:=len _ _ _ _ vf;have KX:K.In s.heap:=e0.mod.B9.keeps λb o e=>(e0.bs b o e).1
 have lim:s.heap.NoLimit:=e0.mod.nolimit.keeps λb o e=>(e0.bs b o e).1
 have BR:∀y∈ps.zip us,scope.names.lookup y.1=some .local \/ (scope.names.lookup y.1=some .cell/\((cellsFrom (s.heap.objs.size+1) scope.names []).lookup y.1).isSome=true):=λ⟨n,v⟩ hy=>by
  rcases S.par n (List.of_mem_zip hy).1 with q|q
  ·exact .inl q
  ·exact .inr ⟨q,PySem.W.cellsFrom_some _ _ _ (.inl q)⟩
 refine codeAny_call_function hr.depth (KX _ _ lk) rfl S.co S.gen rfl (PySem.W.codeRec_of KX pQ) (hb _ _ _ _ ?_);refine wpAny_newFunctionEnv_cells S.kind BR λenv he s1 x=>?_
 subst he;refine⟨lim.keeps x.toInCall.keep,codeAny_func ?_⟩;obtain⟨t,ht,hq⟩:=ko A outer s H vs Q E (hr.deeper _) vf;have I:Inv (mY CX P w K mg base N qual scope f cL A outer s H E) [] (start N vs) H s1:=Ry S hr.hd e0 hl r x;refine wpAny_mono (ht [] s1 (start N vs) H _ I hq) (λfl s' hs=>?_) λe s' hs=>hs
 have fin:∀{Z':St} {H':Hp} {v:V} {u:Value},Inv (mY CX P w K mg base N qual scope f cL A outer s H E) [] Z' H' s'->RelV v u->Q v H'->CE outer P w H s Q u s':=
  λ{Z' H' v u} J rv q=>⟨v,H',J.os,J.bare,J.base,J.cx,rv,q⟩
 cases fl with
 |ret u=>
  obtain⟨v,Z',H',J,rv,q⟩:=hs;exact fin J rv q
 |next=>
  obtain⟨Z',H',J,q⟩:=hs;exact fin (v:=V.aI) (u:=Value.none) J rfl q
 |brk=>
  obtain⟨_,_,_,q⟩:=hs;exact False.elim q
 |cont=>
  obtain⟨_,_,_,q⟩:=hs;exact False.elim q
section
variable {X:Cx} {x:Str} {p pos:Pos} {e:Expr} {es:List Expr} {t:TA} {id T:String} {r:List V->Hp->VK->Prop}
def Px(r:List V->Hp->VK->Prop)(t:TA):TE:=λZ H Q=>t Z H λvs H1=>r vs H1 Q
theorem Ta(hc:cJ X (.builtin id) r)(hg:Gl X x)(hm:X.mg x=none)(hv:bootBuiltins x=some (.builtin id))(ha:PA X (e::es) t)(hn:x≠"__name__":=by decide)(lW:(x == ("__debug__":Str))=false:=by decide)
  (he:starEach (e::es) X.env=(false,eval e X.env)::starEach es X.env:=by rfl) (jM:(backTo pos (starEach es X.env)).any (·.1)=false:=by rfl):PE X (.Call (.Name x p) (e::es) [] pos) (Px r t):=by
 intro pins s Z H Q I h;refine wpAny_Call_Name_kw (wo I hg hm hv ?_ hn lW);exact PyProof.Rows.callWith_builtin1 (ck (ha pos pins s Z H _ I h) λus s1 ⟨vs,H1,I1,r1,q1⟩=>hc pins s1 Z H1 vs us Q I1 r1 q1) he jM
theorem Rz(hc:cJ X (.type T) r)(hg:Gl X x)(hm:X.mg x=none)(hv:bootBuiltins x=some (.type T))(ha:PA X (e::es) t)(hn:x≠"__name__":=by decide)(lW:(x == ("__debug__":Str))=false:=by decide)
  (he:starEach (e::es) X.env=(false,eval e X.env)::starEach es X.env:=by rfl) (jM:(backTo pos (starEach es X.env)).any (·.1)=false:=by rfl):PE X (.Call (.Name x p) (e::es) [] pos) (Px r t):=by
 intro pins s Z H Q I h;refine wpAny_Call_Name_kw (wo I hg hm hv ?_ hn lW);exact PyProof.Rows.callWith_type1 (ck (ha pos pins s Z H _ I h) λus s1 ⟨vs,H1,I1,r1,q1⟩=>hc pins s1 Z H1 vs us Q I1 r1 q1) he jM
end
end L2
namespace HT
open PySem PyProof.Rows
section
open PySem.SeqAt
open PySem.AutoSeq1 (wpAny_loadPart')
open PySem.MeetsSeq PySem.MeetsSeq2 PySem.MeetsSeq3
end
variable{sl:Addr}{vl vu:Value}{lo hi:Option Int}
section
variable {prog:Program} {w:World} {A:Around} {E:Value->Shared->Prop} {s:Shared}
noncomputable def c8(n d:Nat):Option Int->Nat
 |none=>d
 |some v=>if v < 0 then(v+(n:Int)).toNat else min v.toNat n
theorem WL(n d:Nat)(hd:d<=n)(o:Option Int):c8 n d o<=n:=by
 cases o with
 |none=>exact hd
 |some v=>
  show(if v < 0 then(v+(n:Int)).toNat else min v.toNat n)<=n
  by_cases hv:v < 0
  ·rw[if_pos hv];lia
  ·rw[if_neg hv];exact Nat.min_le_right _ _
theorem MX(v:Int)(n d:Nat):(if v < 0 then max (v+(n:Int)) 0 else min v (n:Int))=((c8 n d (some v):Nat):Int):=by
 show(if v < 0 then max (v+(n:Int)) 0 else min v (n:Int))=(((if v < 0 then(v+(n:Int)).toNat else min v.toNat n):Nat):Int)
 by_cases hv:v < 0
 ·simp only[if_pos hv];lia
 ·simp only[if_neg hv];lia
theorem QE(lo hi:Option Int)(n:Nat):Builtin.Slice.sliceAdjust lo hi 1 (n:Int)=(((c8 n 0 lo:Nat):Int),((c8 n n hi:Nat):Int)):=by
 have h1:¬((1:Int) < 0):=by lia
 unfold Builtin.Slice.sliceAdjust;simp only[h1,if_false];refine Prod.ext ?_ ?_
 ·cases lo with
  |none=>rfl
  |some v=>exact MX v n 0
 ·cases hi with
  |none=>rfl
  |some v=>exact MX v n n
theorem QF(i j:Nat):Builtin.Slice.slicePlaces (i:Int) (j:Int) 1=j - i:=by
 unfold Builtin.Slice.slicePlaces;have h1:(1:Int) > 0:=by lia
 simp only[h1,if_true,Int.ediv_one];split <;> lia
theorem Lo{v:Value}{o:Option Int}{Q:Option Int->Shared->Prop}(p:IsPart v o)(h:Q o s):wpAny (model prog w) A (Builtin.Slice.slicePartIndex v) Q E s:=by
 cases p with
 |none=>exact slicePart_none h
 |int i t=>exact slicePart_int h
theorem PZ{n:Nat}{Q:Int×Int×Nat->Shared->Prop}(hs:s.heap.IsSliceOf sl vl vu .none)(pl:IsPart vl lo)(pu:IsPart vu hi)
  (h:Q (((c8 n 0 lo:Nat):Int),1,c8 n n hi - c8 n 0 lo) s):wpAny (model prog w) A (Builtin.Slice.sliceApplied (.ref sl) (pure (n:Int))) Q E s:=by
 obtain⟨os,BW,sQ,EW⟩:=id hs;unfold Builtin.Slice.sliceApplied Builtin.Slice.sliceFields;refine wpAny_bind (wpAny_bind (wpAny_field BW EW (x:=vl) rfl (wpAny_bind (wpAny_field BW EW (x:=vu) rfl (wpAny_bind (wpAny_field BW EW (x:=.none) rfl (wpAny_pure ?_)))))));refine wpAny_bind (slicePart_none ?_);show wpAny _ _ (if((1:Int) == 0)=true then _ else _) _ _ s
 rw[if_neg (by decide)]
 refine wpAny_bind (Lo pl (wpAny_bind (Lo pu (wpAny_bind (wpAny_pure ?_)))));show wpAny _ _ (match Builtin.Slice.sliceAdjust lo hi 1 (n:Int) with|(lo,hi)=>pure (lo,(1:Int),Builtin.Slice.slicePlaces lo hi 1)) _ _ s
 rw[QE lo hi n];show wpAny _ _ (pure (((c8 n 0 lo:Nat):Int),(1:Int),Builtin.Slice.slicePlaces ((c8 n 0 lo:Nat):Int) ((c8 n n hi:Nat):Int) 1)) _ _ s;rw[QF];exact wpAny_pure h
theorem Tb(xs:Array Value)(i k:Nat):((List.range k).filterMap λ(m:Nat)=>xs[((i:Int)+(m:Int) * 1).toNat]?).toArray=((xs.toList.drop i).take k).toArray:=by
 have e:(λ(m:Nat)=>xs[((i:Int)+(m:Int) * 1).toNat]?)=λm=>xs[i+m]?:=by
  funext m;have:((i:Int)+(m:Int) * 1).toNat=i+m:=by lia
  rw[this]
 rw[e];have:=pick_run xs i k;rw[List.filterMap_map] at this;have e2:((λx=>xs[x]?)∘λx=>i+x)=λm=>xs[i+m]?:=rfl
 rw[e2] at this;rw[this]
theorem jk{t:Addr}{items:Array Value}{Q:Value->Shared->Prop}(ht:IsTup s.heap t items)(hs:s.heap.IsSliceOf sl vl vu .none)(pl:IsPart vl lo)(pu:IsPart vu hi)
  (hw:¬(c8 items.size 0 lo=0/\c8 items.size items.size hi=items.size))
  (h:Q (.ref s.heap.objs.size) { s with heap:=s.heap.push { cls:=.type "tuple",data:=.seq ((items.toList.drop (c8 items.size 0 lo)).take (c8 items.size items.size hi - c8 items.size 0 lo)).toArray}})
  (hsz:items.size<=sizeLine):wpAny (model prog w) A (getItem (.ref t) (.ref sl)) Q E s:=by
 have oS:sizeOk (.seq ((items.toList.drop (c8 items.size 0 lo)).take (c8 items.size items.size hi - c8 items.size 0 lo)).toArray):=by
  show((items.toList.drop (c8 items.size 0 lo)).take (c8 items.size items.size hi - c8 items.size 0 lo)).toArray.size<=sizeLine;rw[eI,nJ,vK,FD];lia
 have hj:c8 items.size items.size hi<=items.size:=WL _ _ (cP _) hi;obtain⟨os,BW,sQ,EW⟩:=id hs;have Y2:s.TypeIs (.ref sl) "slice":=⟨os,BW,sQ⟩;unfold getItem;try with_reducible refine wpAny_holding ?_
 first|refine wpAny_bind (wpAny_pure ?_)|skip
 refine wpAny_bind (wpAny_sequenceKey ht.typeIs (by decide) ?_)
 refine wpAny_bind (wpAny_callSpecial?_slot (name:=Str.ofString "__getitem__") ht.typeIs PyProof.Rows.slot_tuple_getitem
  (wpAny_call_entry PyProof.Rows.slot_tuple_getitem ht.typeIs entry_tuple_getitem ?_ (args_tuple_getitem _ _)))
 show wpAny _ _ (Builtin.Tuple.tupleItemsOf (.ref t) >>= _) _ _ s;refine wpAny_bind (tupleItemsOf_ ht ?_);refine wpAny_bind (wpAny_typeOf Y2 ?_);rw[if_pos (by decide)]
 refine wpAny_bind (PZ hs pl pu ?_);have sS:¬((((c8 items.size 0 lo:Nat):Int) == 0 && (1:Int) == 1 && (c8 items.size items.size hi - c8 items.size 0 lo) == items.size)=true):=by
  intro q;rw[qb,qb] at q;have q1:((c8 items.size 0 lo:Nat):Int)=0:=eq_of_beq q.1.1;have q2:c8 items.size items.size hi - c8 items.size 0 lo=items.size:=eq_of_beq q.2;exact hw ⟨by lia,by lia⟩
 show wpAny _ _ (if(((c8 items.size 0 lo:Nat):Int) == 0 && (1:Int) == 1 && (c8 items.size items.size hi - c8 items.size 0 lo) == items.size)=true then _ else _) _ _ s
 rw[if_neg sS,Tb];first
  |exact wpAny_bind (m:=Builtin.Tuple.tupleExact _) (wpAny_newObj_type (wpAny_pure ⟨_,rfl,wpAny_pure h⟩) oS)
  |exact wpAny_bind (m:=Builtin.Tuple.tupleExact _) (wpAny_newObj_type (wpAny_bind (wpAny_pure (wpAny_pure ⟨_,rfl,wpAny_pure h⟩))) oS)
  |exact wpAny_bind (wpAny_bind (m:=Builtin.Tuple.tupleExact _) (wpAny_newObj_type (wpAny_pure (wpAny_pure ⟨_,rfl,wpAny_pure h⟩)) oS))
  |exact wpAny_bind (wpAny_bind (m:=Builtin.Tuple.tupleExact _) (wpAny_newObj_type (wpAny_pure ⟨_,rfl,wpAny_pure h⟩) oS))
end
end HT
namespace L2
open PySem PySem.Spec PyProof.Rows
variable{r:V->Option Int->Option Int->Hp->VK->Prop}{n j t':Nat}{i:Int}{pins:List (Addr×Obj)}{Z:St}{H:Hp}{s:Shared}{aG its' us:List Value}{x:V}
abbrev TO:=St->Hp->(Option Int->Hp->Prop)->Prop
def PO(X:Cx)(e:Option Expr)(t:TO):Prop:=
 ∀(pins:List (Addr×Obj)) (s:Shared) (Z:St) (H:Hp) (Q:Option Int->Hp->Prop),Inv X pins Z H s->t Z H Q->
  wpAny (model X.prog X.w) X.A (evalPart e X.env) (λu s'=>∃o H',Inv X pins Z H' s'/\IsPart u o/\Q o H') X.xe s
def UQ:TO:=λ_ H Q=>Q none H
def CO(t:TE):TO:=λZ H Q=>t Z H λx H1=>∃i,x=.int i/\Q (some i) H1
section
variable {X:Cx} {e:Expr} {te:TE} {lo hi:Option Expr} {tl th:TO} {pos p2:Pos}
theorem UR:PO X none UQ:=by
 intro pins s Z H Q I h;rw[evalPart_none];exact wpAny_pure ⟨none,H,I,.none,h⟩
theorem US(h:PE X e te):PO X (some e) (CO te):=by
 intro pins s Z H Q I hw;rw[evalPart_some];refine ck (h pins s Z H _ I hw) λu s1 hh=>?_
 obtain⟨x,H1,I1,r1,q1⟩:=hh;obtain⟨i,rfl,q⟩:=q1;obtain⟨t,rfl⟩:=r1;exact⟨some i,H1,I1,.int i t,q⟩
def qU(X:Cx)(r:V->Option Int->Option Int->Hp->VK->Prop):Prop:=
 ∀(pins:List (Addr×Obj)) (s:Shared) (Z:St) (H:Hp) (x:V) (v vl vu:Value) (lo hi:Option Int) (sl:Addr) (Q:VK),Inv X pins Z H s->RelV x v->s.heap.IsSliceOf sl vl vu .none->IsPart vl lo->IsPart vu hi->r x lo hi H Q->
  ∃T id,typeLookup (.type T) "__getitem__"=pure (some (.builtin id))/\s.TypeIs v T/\wpAny (model X.prog X.w) X.A (getItem v (.ref sl)) (EP X pins Z Q) X.xe s
theorem qU.or{r':V->Option Int->Option Int->Hp->VK->Prop}(h:qU X r)(h':qU X r'):qU X (λx lo hi H Q=>r x lo hi H Q\/r' x lo hi H Q):=by
 intro pins s Z H x v vl vu lo hi sl Q I rx hs pl pu q;rcases q with q|q
 ·exact h pins s Z H x v vl vu lo hi sl Q I rx hs pl pu q
 ·exact h' pins s Z H x v vl vu lo hi sl Q I rx hs pl pu q
def tSl(r:V->Option Int->Option Int->Hp->VK->Prop)(te:TE)(tl th:TO):TE:=λZ H Q=>te Z H λx H1=>tl Z H1 λl H2=>th Z H2 λu H3=>r x l u H3 Q
theorem Tc(hr:qU X r)(he:PE X e te)(hl:PO X lo tl)(hu:PO X hi th):PE X (.Subscript e (.Slice lo hi none p2) pos) (tSl r te tl th):=by
 intro pins s Z H Q I h;refine Subscript_ (ck (he pins s Z H _ I h) λv s1 hh=>?_)
 obtain⟨x,H1,I1,r1,q1⟩:=hh;refine wpAny_Slice (ck (hl pins s1 Z H1 _ I1 q1) λvl s2 ⟨l,H2,I2,pl,q2⟩=>ck (hu pins s2 Z H2 _ I2 q2) λvu s3 ⟨u,H3,I3,pu,q3⟩=>?_)
 rw[evalPart_none];refine wpAny_pure ?_;have I4:Inv X pins Z H3 { s3 with heap:=s3.heap.push { cls:=.type "slice",data:=.fields #[vl,vu,.none]}}:=I3.kept (t':=s3.toks) λb ob q=>iK _ q
 obtain⟨T,id,hT,ht,hg⟩:=hr pins { s3 with heap:=s3.heap.push { cls:=.type "slice",data:=.fields #[vl,vu,.none]}} Z H3 x v vl vu l u s3.heap.objs.size Q I4 r1 (Heap.IsSliceOf.new ..) pl pu q3;show wpAny (model X.prog X.w) X.A (subscriptTail e (.Slice lo hi none p2) v (.ref s3.heap.objs.size)) (EP X pins Z Q) X.xe { s3 with heap:=s3.heap.push { cls:=.type "slice",data:=.fields #[vl,vu,.none]}};exact tail_any (ops:=[.ref s3.heap.objs.size,v]) ht hT hg (by with_unfolding_all rfl)
noncomputable def mW(xs:List V)(lo hi:Option Int):List V:=(xs.drop (HT.c8 xs.length 0 lo)).take (HT.c8 xs.length xs.length hi - HT.c8 xs.length 0 lo)
theorem Lf(xs:List V)(lo hi:Option Int):(mW xs lo hi).length<=xs.length:=by
 unfold mW;rw[nJ,vK];lia
def xM(K:L2.FG):V->Option Int->Option Int->Hp->VK->Prop:=λx lo hi H Q=>∃a xs,x=.ref a/\iL K H a xs/\
 ¬(HT.c8 xs.length 0 lo=0/\HT.c8 xs.length xs.length hi=xs.length)/\∀p,H p=none->Q (.ref p) (upd H p (.tup (mW xs lo hi)))
theorem WM:qU X (xM X.K):=by
 intro pins s Z H x v vl vu lo hi sl Q I rx hs pl pu h;obtain⟨a,xs,rfl,hx,hw,q⟩:=h;cases rx;obtain⟨aG,r,ht,hz⟩:=I.tuple hx;have hlen:aG.toArray.size=xs.length:=by rw[eI];exact r.length.symm
 refine⟨"tuple",_,PyProof.Rows.slot_tuple_getitem.lookup,ht.typeIs,?_⟩;refine HT.jk ht hs pl pu (by rw[hlen];exact hw) ?_ (by rw[hlen];exact hz)
 rw[hlen];refine⟨.ref s.heap.objs.size,_,I.laid (t':=s.toks) (o:=.tup (mW xs lo hi)) (λb ob q=>iK _ q) (cP _) ?_,rfl,q _ (I.cx.fresh (cP _))⟩
 exact⟨lQ (Lf xs lo hi) hz,_,(r.drop (HT.c8 xs.length 0 lo)).take (HT.c8 xs.length xs.length hi - HT.c8 xs.length 0 lo),IsTup.new _ _⟩
end
noncomputable def sW(n:Nat)(i:Int):Option Nat:=if 0<=i then(if i < n then some i.toNat else none) else if -(n:Int)<=i then some (i+n).toNat else none
noncomputable def dw{α:Type}(xs:List α)(i:Int):Option α:=(sW xs.length i).bind λj=>xs[j]?
theorem HU(h:sW n i=some j):seqIndex? i n=some j/\j < n /\ -(n:Int)<=i/\i < n:=by
 unfold sW at h;by_cases h0:0<=i
 ·rw[if_pos h0] at h;by_cases h1:i < n
  ·rw[if_pos h1] at h;have e:i.toNat=j:=Option.some.inj h;exact⟨by rw[seqIndex_of h0 h1,e],by lia,by lia,h1⟩
  ·rw[if_neg h1] at h;cases h
 ·rw[if_neg h0] at h;by_cases h1:-(n:Int)<=i
  ·rw[if_pos h1] at h;have e:(i+n).toNat=j:=Option.some.inj h;exact⟨by rw[seqIndex_neg (by lia) h1,e],by lia,h1,by lia⟩
  ·rw[if_neg h1] at h;cases h
theorem HV{α:Type}{xs:List α}{v:α}(h:dw xs i=some v):∃j,seqIndex? i xs.length=some j/\xs[j]?=some v/\j < xs.length /\ -(xs.length:Int)<=i/\i < xs.length:=by
 unfold dw at h;cases e:sW xs.length i with
 |none=>rw[e] at h;cases h
 |some j=>
  rw[e] at h;obtain⟨h1,h2,h3,h4⟩:=HU e;exact⟨j,h1,h,h2,h3,h4⟩
theorem qt{α:Type}{xs:List α}{v:α}(h:xs[j]?=some v):dw xs (j:Int)=some v:=by
 have hj:j < xs.length:=(iq.mp h).1;have e:sW xs.length (j:Int)=some j:=by
  unfold sW;rw[if_pos (by lia),if_pos (by lia)];simp
 unfold dw;rw[e];exact h
def HW(b:Expr):Prop:=∀o i,subscripted b false o i=operate [o,i] (getItem o i)
def pz(X:Cx)(r:R2):Prop:=
 ∀(value slice:Expr) (pins:List (Addr×Obj)) (s:Shared) (Z:St) (H:Hp) (x y:V) (v u:Value) (Q:VK),Inv X pins Z H s->RelV x v->RelV y u->r x y H Q->
  subscripted slice false v u=operate [v,u] (getItem v u)->wpAny (model X.prog X.w) X.A (subscriptTail value slice v u) (EP X pins Z Q) X.xe s
def PU(X:Cx)(id:String)(r:V->List V->Hp->VK->Prop):Prop:=
 ∀(pins:List (Addr×Obj)) (s:Shared) (Z:St) (H:Hp) (x:V) (xs:List V) (v:Value) (us:List Value) (Q:VK),Inv X pins Z H s->RelV x v->Vals xs us->r x xs H Q->
  wpAny (model X.prog X.w) X.A (call (.builtin id) (v::us)) (EP X pins Z Q) X.xe s
section
variable {X:Cx} {a b:Expr} {ta tb:TE} {pos:Pos}
theorem pz.or{r r':R2}(h:pz X r)(h':pz X r'):pz X (λx y H Q=>r x y H Q\/r' x y H Q):=by
 intro value slice pins s Z H x y v u Q I rx ry q hs;rcases q with q|q
 ·exact h value slice pins s Z H x y v u Q I rx ry q hs
 ·exact h' value slice pins s Z H x y v u Q I rx ry q hs
theorem XT{r:R2}(hr:pz X r)(ha:PE X a ta)(hb:PE X b tb)(hs:HW b):PE X (.Subscript a b pos) (CN r ta tb):=by
 intro pins s Z H Q I h;exact Subscript_ (wG ha hb I h λv u s2 x y H2 I2 rx ry q=>hr a b pins s2 Z H2 x y v u Q I2 rx ry q (hs _ _))
def xI(K:L2.FG):R2:=λx y H Q=>∃p xs i v,x=.ref p/\y=.int i/\dq K H p xs/\dw xs i=some v/\Q v H
def xJ(K:L2.FG):R2:=λx y H Q=>∃p xs i v,x=.ref p/\y=.int i/\iL K H p xs/\dw xs i=some v/\Q v H
def Cu:R2:=λx y H Q=>∃z i c,x=.str z/\y=.int i/\z.length<=sizeLine/\dw z.cps.toList i=some c/\Q (.str ⟨#[c]⟩) H
theorem UT:pz X (xI X.K):=by
 intro value slice pins s Z H x y v u Q I rx ry h hs;obtain⟨p,xs,i,z,rfl,rfl,hq,he,q⟩:=h;cases rx;obtain⟨t,rfl⟩:=ry;obtain⟨aG,r,pl,hz⟩:=I.list hq;obtain⟨j,h1,h2,h3,h4,h5⟩:=HV he;obtain⟨w,ew,mi⟩:=r.get h2;have hl:=r.length;have hn:=wt;have fin:EP X pins Z Q w s:=⟨z,H,I,mi,q⟩;by_cases h0:0<=i
 ·have hj:i.toNat=j:=by
   rw[seqIndex_of h0 h5] at h1;exact Option.some.inj h1
  exact item_listR pl.isList h0 (by lia) (by rw[hj];simpa using ew) fin hs
 ·have hj:(i+(aG.toArray.size:Int)).toNat=j:=by
   rw[seqIndex_neg (by lia) h4] at h1
   rw[eI,<-hl];exact Option.some.inj h1
  exact subscriptTail_builtinR (x:=w) pl.isList.typeIs slot_list_getitem.lookup
   (wpAny_getItem_list_neg (Q:=λr s'=>r=w/\EP X pins Z Q r s') pl.isList (by lia) (by rw[eI] <;> lia) (by lia) (by rw[hj];simpa using ew) ⟨rfl,fin⟩) hs
theorem WN:pz X (xJ X.K):=by
 intro value slice pins s Z H x y v u Q I rx ry h hs;obtain⟨p,xs,i,z,rfl,rfl,hq,he,q⟩:=h;cases rx;obtain⟨t,rfl⟩:=ry;obtain⟨aG,r,pl,hz⟩:=I.tuple hq;obtain⟨j,h1,h2,h3,h4,h5⟩:=HV he;obtain⟨w,ew,mi⟩:=r.get h2;have hl:=r.length;have hn:=wt;have fin:EP X pins Z Q w s:=⟨z,H,I,mi,q⟩;exact subscriptTail_builtinR (x:=w) pl.typeIs slot_tuple_getitem.lookup
  (getItem_tuple (j:=j) (Q:=λr s'=>r=w/\EP X pins Z Q r s') pl (by lia) (by lia) (by rw[eI,<-hl];exact h1) (by simpa using ew) ⟨rfl,fin⟩) hs
theorem xp:pz X Cu:=by
 intro value slice pins s Z H x y v u Q I rx ry h hs;obtain⟨z,i,c,rfl,rfl,hz,he,q⟩:=h;obtain⟨t,rfl⟩:=rx;obtain⟨t',rfl⟩:=ry;obtain⟨j,h1,h2,h3,h4,h5⟩:=HV he;have hl:z.cps.toList.length=z.length:=by simp[Str.length]
 rw[hl] at h1 h4 h5;have hn:=wt;exact tail_any (typeIs_str s z t) slot_str_getitem.lookup (getItem_str (c:=c) (by
  have e1:decide (i < -(2 ^ 63:Int))=false:=decide_eq_false (by lia)
  have e2:decide (i>=2 ^ 63)=false:=decide_eq_false (by lia)
  rw[e1,e2,Bool.or_false]) (by rw[h1];simpa using h2) ⟨.str ⟨#[c]⟩,H,I.tok _,⟨_,rfl⟩,q⟩) hs
theorem QG(aG:List Value)(n j:Nat)(u:Value):Obj.mapSeq (·.setIfInBounds j u) { cls:=.type "list",data:=.seq aG.toArray n}={ cls:=.type "list",data:=.seq (aG.set j u).toArray n}:=by
 simp[Obj.mapSeq]
theorem Inv.lst{pins:List (Addr×Obj)}{Z:St}{H:Hp}{s:Shared}{p:Addr}{xs:List V}(I:Inv X pins Z H s)(h:H p=some (.lst xs)):
  ∃(aG:List Value) (n:Nat),Vals xs aG/\s.heap.get? p=some { cls:=.type "list",data:=.seq aG.toArray n}/\xs.length<=sizeLine:=by
 obtain⟨z,aG,n,r,e⟩:=I.cx p _ h;exact⟨aG,n,r,e,z⟩
theorem Inv.xq{p:Addr}{xs ys:List V}{n':Nat}{f:Obj->Obj}(I:Inv X pins Z H s)(h:H p=some (.lst xs))
  (ho:s.heap.get? p=some { cls:=.type "list",data:=.seq aG.toArray n}) (hf:f { cls:=.type "list",data:=.seq aG.toArray n}={ cls:=.type "list",data:=.seq its'.toArray n'}) (r:Vals ys its') (hz:ys.length<=sizeLine) (t:Nat) :
  Inv X pins Z (upd H p (.lst ys)) { s with heap:=s.heap.update p f,toks:=t}:=by
 have e:(s.heap.update p f).get? p=some { cls:=.type "list",data:=.seq its'.toArray n'}:=by
  rw[FF f ho (by rw[hf] <;> rfl),hf]
 refine I.write (x:=p) (e:=p) (by rw[h];trivial) (.inl rfl) (λb u hb q=>(Heap.get?_update_other _ _ (Ne.symm hb)).trans q) ⟨_,e⟩ ?_
 exact⟨hz,its',n',r,e⟩
def vz:V->V->V->Hp->(Hp->Prop)->Prop:=λo i v H Q=>∃p xs k j,o=.ref p/\i=.int k/\H p=some (.lst xs)/\sW xs.length k=some j/\Q (upd H p (.lst (xs.set j v)))
theorem Td:tF X vz:=by
 intro pins s Z H o i v ov iv u Q I ro ri rv h;obtain⟨p,xs,k,j,rfl,rfl,hp,hj,q⟩:=h;cases ro;obtain⟨t,rfl⟩:=ri;obtain⟨aG,n,r,ho,hz⟩:=I.lst hp;obtain⟨h1,h2,h3,h4⟩:=HU hj;have hl:=r.length;have hn:=wt;have I':Inv X pins Z (upd H p (.lst (xs.set j v))) { s with heap:=s.heap.update p (Obj.mapSeq (·.setIfInBounds j u))}:=
  I.xq hp ho (QG aG n j u) (r.set rv j) (by rw[uD];exact hz) s.toks
 by_cases h0:0<=k
 ·have hk:k.toNat=j:=by
   rw[seqIndex_of h0 h4] at h1;exact Option.some.inj h1
  exact PySem.W.ki_setAt ho h0 (by lia) (by rw[eI,<-hl];exact h4) (by rw[hk];exact⟨_,I',q⟩)
 ·have hk:(k+(aG.toArray.size:Int)).toNat=j:=by
   rw[seqIndex_neg (by lia) h3] at h1
   rw[eI,<-hl];exact Option.some.inj h1
  exact PySem.W.ki_setBack ho (by lia) (by rw[eI,<-hl];exact h3) (by lia) (by rw[hk];exact⟨_,I',q⟩)
theorem Qk(lo hi:Option Int)(n:Nat):(sliceBounds lo hi none n).1=((HT.c8 n 0 lo:Nat):Int)/\(sliceBounds lo hi none n).2.1=((HT.c8 n n hi:Nat):Int)/\(sliceBounds lo hi none n).2.2=1:=by
 refine⟨?_,?_,rfl⟩
 ·cases lo with
  |none=>simp[sliceBounds,HT.c8]
  |some i=>
   simp only[sliceBounds,HT.c8,Option.getD_none,show(1:Int) > 0 by decide,if_true]
   by_cases h:i < 0
   ·simp only[h,if_true] <;> lia
   ·simp only[h,if_false] <;> lia
 ·cases hi with
  |none=>simp[sliceBounds,HT.c8]
  |some i=>
   simp only[sliceBounds,HT.c8,Option.getD_none,show(1:Int) > 0 by decide,if_true]
   by_cases h:i < 0
   ·simp only[h,if_true] <;> lia
   ·simp only[h,if_false] <;> lia
theorem P'(aG:List Value)(lo hi:Option Int):slicePick aG.toArray lo hi none=((aG.drop (HT.c8 aG.length 0 lo)).take (HT.c8 aG.length aG.length hi - HT.c8 aG.length 0 lo)).toArray:=by
 obtain⟨h1,h2,h3⟩:=Qk lo hi aG.toArray.size;unfold slicePick;rw[h1,h2,h3];simp only[sliceRange_one,pick_run,eI] <;> rfl
def xK(K:L2.FG):V->Option Int->Option Int->Hp->VK->Prop:=λx lo hi H Q=>∃a xs,x=.ref a/\dq K H a xs/\∀p,H p=none->Q (.ref p) (upd H p (.lst (mW xs lo hi)))
theorem UU:qU X (xK X.K):=by
 intro pins s Z H x v vl vu lo hi sl Q I rx hs pl pu h;obtain⟨a,xs,rfl,hx,q⟩:=h;cases rx;obtain⟨aG,r,ht,hz⟩:=I.list hx;have hlen:=r.length;refine⟨"list",_,slot_list_getitem.lookup,ht.isList.typeIs,?_⟩;refine wpAny_getItem_list_slice ht.isList hs pl pu .none (by simp) ?_ (by rw[eI] <;> lia)
 rw[P',<-hlen];refine⟨.ref s.heap.objs.size,_,I.laid (t':=s.toks) (o:=.lst (mW xs lo hi)) (λb ob q=>iK _ q) (cP _) ?_,rfl,q _ (I.cx.fresh (cP _))⟩
 exact⟨lQ (Lf xs lo hi) hz,_,0,(r.drop (HT.c8 xs.length 0 lo)).take (HT.c8 xs.length xs.length hi - HT.c8 xs.length 0 lo),mG _ rfl⟩
noncomputable def u9:V->Bool
 |.aI=>true
 |.bl _=>true
 |.int _=>true
 |.str _=>true
 |_=>false
noncomputable def Yy:V->V->Bool
 |.aI,.aI=>true
 |.bl a,.bl b=>a == b
 |.bl a,.int b=>(if a then 1 else 0) == b
 |.int a,.bl b=>a == (if b then 1 else 0)
 |.int a,.int b=>a == b
 |.str a,.str b=>a == b
 |_,_=>false
theorem Ql:cJ X (.builtin "len") (λxs H Q=>∃p ys,xs=[.ref p]/\(dq X.K H p ys\/iL X.K H p ys)/\Q (.int ys.length) H):=by
 intro pins s Z H xs us Q I r h;obtain⟨p,ys,rfl,hq,q⟩:=h;obtain⟨u,rfl,rx⟩:=vals1 r;cases rx;have hn:=wt;rcases hq with hq|hq
 ·obtain⟨aG,r',pl,hz⟩:=I.list hq;have hlen:=r'.length;exact Calls.call_len_list pl.isList (by simp only[eI] <;> lia) ⟨.int ys.length,H,I.tok _,⟨s.toks+1,by rw[eI,hlen]⟩,q⟩
 ·obtain⟨aG,r',pl,hz⟩:=I.tuple hq;have hlen:=r'.length;exact len_tuple pl (by simp only[eI] <;> lia) ⟨.int ys.length,H,I.tok _,⟨s.toks+1,by rw[eI,hlen]⟩,q⟩
theorem Qm:cJ X (.builtin "len") (λxs H Q=>∃z,xs=[.str z]/\z.length<=sizeLine/\Q (.int z.length) H):=by
 intro pins s Z H xs us Q I r h;obtain⟨z,rfl,hz,q⟩:=h;obtain⟨u,rfl,t,rfl⟩:=vals1 r;have hn:=wt;exact len_str (by lia) ⟨.int z.length,H,I.tok _,⟨_,rfl⟩,q⟩
theorem cJ.or{f:Value}{r r':List V->Hp->VK->Prop}(h:cJ X f r)(h':cJ X f r'):cJ X f (λxs H Q=>r xs H Q\/r' xs H Q):=by
 intro pins s Z H xs us Q I rs q;rcases q with q|q
 ·exact h pins s Z H xs us Q I rs q
 ·exact h' pins s Z H xs us Q I rs q
theorem Qn:cJ X (.type "list") (λxs H Q=>∃p ys,xs=[.ref p]/\(dq X.K H p ys\/iL X.K H p ys)/\∀l,H l=none->Q (.ref l) (upd H l (.lst ys))):=by
 intro pins s Z H xs us Q I r h;obtain⟨p,ys,rfl,hq,q⟩:=h;obtain⟨u,rfl,rx⟩:=vals1 r;cases rx;have fin:∀(aG:List Value),Vals ys aG->ys.length<=sizeLine->∀(h':Heap) (c':Nat),(∀b o',s.heap.get? b=some o'->h'.get? b=some o')->
   h'.get? s.heap.objs.size=some { cls:=.type "list",dict:=none,data:=.seq aG.toArray c',slots:=#[]}->EP X pins Z Q (.ref s.heap.objs.size) { s with heap:=h'}:=λaG r' hz h' c' kp e=>
  ⟨.ref s.heap.objs.size,_,I.laid (t':=s.toks) kp (cP _) (show cb X.prog X.w _ h' _ (.lst ys) from⟨hz,aG,c',r',e⟩),rfl,q _ (I.cx.fresh (cP _))⟩
 rcases hq with hq|hq
 ·obtain⟨aG,r',pl,hz⟩:=I.list hq;have hlen:=r'.length;obtain⟨o,ho,hc,n,hd⟩:=pl.isList;exact call_list_seq p (.inl rfl) ho hc hd (λh' c' kp e=>fin aG r' hz h' c' kp e) (by simp only[eI] <;> lia)
 ·obtain⟨aG,r',pl,hz⟩:=I.tuple hq;have hlen:=r'.length;obtain⟨o,ho,hc,n,hd⟩:=pl;exact call_list_seq p (.inr rfl) ho hc hd (λh' c' kp e=>fin aG r' hz h' c' kp e) (by simp only[eI] <;> lia)
def Fq(K:L2.FG)(T:String)(x:V)(H:Hp):Prop:=match x with
 |.str _=>T="str"
 |.int _=>T="int"
 |.ref p=>(T="list"/\∃xs,dq K H p xs)\/(T="tuple"/\∃o,K.lookup p=some o/\o.cls=.type "tuple"/\o.dict=none)\/
   (T="dict"/\((∃kvs,H p=some (.dK kvs))\/(∃kvs,H p=some (.dT kvs))\/∃es ep,H p=some (.dG es ep)))\/(T="set"/\∃S n,H p=some (.set S n))
 |_=>False
theorem NV{T:String}{v:Value}(I:Inv X pins Z H s)(r:RelV x v)(ty:Fq X.K T x H):
  s.TypeIs v T/\∀a,v=.ref a->∃ob,s.heap.get? a=some ob/\ob.dict=none:=by
 cases x with
 |str z=>
  obtain⟨t,rfl⟩:=r;cases(show T="str" from ty);exact⟨typeIs_str s z t,λ_ e=>nomatch e⟩
 |int i=>
  obtain⟨t,rfl⟩:=r;cases(show T="int" from ty);exact⟨typeIs_int s i t,λ_ e=>nomatch e⟩
 |ref p=>
  cases r;rcases ty with⟨rfl,xs,hq⟩|⟨rfl,o,hk,hc,hd⟩|⟨rfl,hk⟩|⟨rfl,S,n,hk⟩
  ·obtain⟨aG,_,pl,_⟩:=I.list hq;refine⟨pl.isList.typeIs,λa e=>?_⟩
   cases e;obtain⟨o,n,e,c,hd,_⟩:=pl;exact⟨o,e,hd⟩
  ·refine⟨⟨o,I.lI p o hk,hc⟩,λa e=>?_⟩
   cases e;exact⟨o,I.lI _ o hk,hd⟩
  ·have z:∃o,s.heap.get? p=some o/\o.ExactDict:=by
    rcases hk with⟨kvs,hk⟩|⟨kvs,hk⟩|⟨es,ep,hk⟩
    ·obtain⟨_,_,_,_,o,_,_,e,ex,_⟩:=I.cx p _ hk;exact⟨o,e,ex⟩
    ·obtain⟨_,_,_,_,o,_,_,e,ex,_⟩:=I.cx p _ hk;exact⟨o,e,ex⟩
    ·obtain⟨_,_,o,_,e,ex,_⟩:=I.cx p _ hk;exact⟨o,e,ex⟩
   obtain⟨o,e,ex⟩:=z;refine⟨⟨o,e,ex.1⟩,λa e2=>?_⟩
   cases e2;exact⟨o,e,ex.2.1⟩
  ·obtain⟨o,_,_,_,e,ex,_⟩:=I.cx p _ hk;refine⟨⟨o,e,ex.1⟩,λa e2=>?_⟩
   cases e2;exact⟨o,e,ex.2.1⟩
 |_=>exact False.elim ty
def zf(K:L2.FG)(T:String)(r:V->List V->Hp->VK->Prop)(to:TE)(t:TA):TE:=λZ H Q=>to Z H λx H1=>Fq K T x H1/\t Z H1 λxs H2=>r x xs H2 Q
variable {o e:Expr} {es:List Expr} {to:TE} {t:TA} {name:Str} {apos aV:Pos} {T id:String} {r:V->List V->Hp->VK->Prop}
theorem AU(pa:PlainAttrs T)(slot:Slot T name id)(kr:typeOf (.builtin id)=pure (.type "method_descriptor"))(hm:PU X id r)(ho:PE X o to)(ha:PA X (e::es) t)
  (dS:attributeBase o name X.env (eval o X.env)=eval o X.env:=by rfl)
  (kq:((backTo aV (starEach (e::es) X.env)).all (λx => !x.1) && (backToKw aV (keywordEach [] X.env)).all (λx=>x.1.isSome)
   && decide ((e::es).length+([]:List Keyword).length+(if([]:List Keyword).isEmpty then 0 else 1) < 30))=true:=by rfl)
  (dU:(apos.endLine == aV.line)=true:=by rfl) (hs:starEach (e::es) X.env=(false,eval e X.env)::starEach es X.env:=by rfl) (eU:(backTo aV (starEach es X.env)).any (·.1)=false:=by rfl) :
  PE X (.Call (.Attribute o name apos) (e::es) [] aV) (zf X.K T r to t):=by
 intro pins s Z H Q I h;refine wpAny_Call_method_late dS kq dU rfl (ck (ho pins s Z H _ I h) λv s1 hh=>?_)
 obtain⟨x,H1,I1,r1,ty,q1⟩:=hh;obtain⟨h1,h2⟩:=NV I1 r1 ty;refine⟨T,id,pa,slot,kr,h1,h2,?_⟩;have hA:=ha aV pins s1 Z H1 _ I1 q1;rw[hs] at hA ⊢;refine Calls.callWith_builtin (by show(false || (backTo aV (starEach es X.env)).any (·.1))=false;rw[eU] <;> rfl) (Calls.evalArgs_plain ?_)
 exact ck hA λus s2 ⟨vs,H2,I2,r2,q2⟩=>hm pins s2 Z H2 x vs v us Q I2 r1 r2 q2
end
def qf(X:Cx)(id:String)(r:V->List V->Hp->VK->Prop):Prop:=
 ∀(pins:List (Addr×Obj)) (s:Shared) (Z:St) (H:Hp) (x:V) (xs:List V) (v:Value) (us:List Value) (Q:VK),Inv X pins Z H s->RelV x v->Vals xs us->r x xs H Q->
  wpAny (model X.prog X.w) X.A (call (.builtin id) (v::us)) (EP X pins Z Q) X.xe s
theorem Vals.one(h:Vals [x] us):∃u,us=[u]/\RelV x u:=by
 cases h with
 |cons r t=>
  cases t;exact⟨_,rfl,r⟩
theorem Vals.two{y:V}(h:Vals [x,y] us):∃u v,us=[u,v]/\RelV x u/\RelV y v:=by
 cases h with
 |cons r t=>
  obtain⟨v,rfl,q⟩:=Vals.one t;exact⟨_,_,rfl,r,q⟩
section
variable {X:Cx} {pins:List (Addr×Obj)} {Z:St} {H:Hp} {s:Shared} {l b:Addr} {xs ys zs:List V}
theorem Inv.uf{f:Array Value->Array Value}(I:Inv X pins Z H s)(hH:H l=some (.lst xs))
  (e:s.heap.get? l=some { cls:=.type "list",data:=.seq aG.toArray n}) (hf:f aG.toArray=its'.toArray) (hv:Vals ys its') (hz:ys.length<=sizeLine) :
  Inv X pins Z (upd H l (.lst ys)) { s with heap:=s.heap.update l (Obj.mapSeq f),toks:=t'}:=by
 have q:=PySem.IsL.update e f;rw[hf] at q;refine I.write (x:=l) (e:=l) (by rw[hH];exact trivial) (.inl rfl) (λb' u hb hu=>(Heap.get?_update_other s.heap (Obj.mapSeq f) (Ne.symm hb)).trans hu) ⟨_,q⟩ ?_
 exact⟨hz,its',_,hv,q⟩
theorem Inv.J7(I:Inv X pins Z H s)(hv:Vals ys aG)(hz:ys.length<=sizeLine):
  Inv X pins Z (upd H s.heap.objs.size (.lst ys)) { s with heap:=s.heap.push { cls:=.type "list",data:=.seq aG.toArray},toks:=t'}:=
 I.laid (λ_ _ q=>iK _ q) (cP _) ⟨hz,aG,0,hv,mG _ rfl⟩
theorem Inv.fresh(I:Inv X pins Z H s):H s.heap.objs.size=none:=I.cx.fresh (cP _)
theorem Inv.ug(I:Inv X pins Z H s)(hH:H l=some (.lst xs)):xs.length<=sizeLine/\∃(aG:List Value) (n:Nat),Vals xs aG/\xs.length=aG.length/\s.heap.get? l=some { cls:=.type "list",data:=.seq aG.toArray n}:=by
 obtain⟨z,aG,n,r,e⟩:=I.cx l _ hH;exact⟨z,aG,n,r,r.length,e⟩
theorem Te(h:n<=sizeLine):Builtin.List.listTooLong n=false:=by
 unfold Builtin.List.listTooLong;exact decide_eq_false (by lia)
end
section
variable {X:Cx}
def MY:V->List V->Hp->VK->Prop:=λx vs H Q=>∃l xs y,x=.ref l/\vs=[y]/\H l=some (.lst xs)/\xs.length < sizeLine/\Q .aI (upd H l (.lst (xs++[y])))
theorem zP:qf X "list.append" MY:=by
 intro pins s Z H x vs v us Q I rx rv h;obtain⟨l,xs,y,rfl,rfl,hH,hz,q⟩:=h;cases rx;obtain⟨u,rfl,ru⟩:=rv.one;obtain⟨z,aG,n,r,hl,e⟩:=I.ug hH;refine call_meets F.slot_list_append ⟨_,e,rfl⟩ F.entry_list_append (F.args_list_append_2 _ _) (PySem.list_append l aG.toArray n u (by rw[eI];lia)) ⟨e,?_⟩
 refine⟨.aI,_,I.uf (its':=aG++[u]) hH e (by simp) (r.append (.cons ru .nil)) ?_,rfl,q⟩
 rw[gK,s9];lia
end
section
variable {prog:Program} {w:World} {A:Around} {E:Value->Shared->Prop} {s:Shared}
end
section
variable {X:Cx}
end
section
variable {κ:Type} [DecidableEq κ]
theorem jc.pS{o:Option V}{u:Option Value}(r:jc o u):o.isSome=u.isSome:=by
 cases o with
 |none=>cases u with
  |none=>rfl
  |some _=>exact(show False from r).elim
 |some _=>cases u with
  |none=>exact(show False from r).elim
  |some _=>rfl
end
section
variable {P:Program} {w:World} {H:Hp} {h:Heap} {a:Addr}
end
section
variable {X:Cx} {pins:List (Addr×Obj)} {Z:St} {H:Hp} {s:Shared} {a:Addr} {y v:V} {u r:Value} {o:Option V} {A:Around} {E:Value->Shared->Prop}
theorem Inv.big(I:Inv X pins Z H s):sysModules < s.heap.objs.size:=by
 have h:mainGlobals < s.heap.objs.size:=(I.mod.glob.keeps I.bk).lt;exact Nat.lt_trans (by decide) h
theorem HX{h':Heap}{ob:HO}(I:Inv X pins Z H s)(mu:zJ (H a))(hs:Heap.SameBut a s.heap h')(he:∃q,h'.get? a=some q)(new:cb X.prog X.w (upd H a ob) h' a ob):
  Inv X pins Z (upd H a ob) { s with heap:=h',toks:=t'}:=
 I.write (x:=a) (e:=a) mu (.inl rfl) (λb q hb z=>(hs.2 b hb).trans z) he new
end
section
variable {X:Cx} {pins:List (Addr×Obj)} {Z:St} {H:Hp} {s:Shared} {a:Addr} {kvs:List (Key×V)} {k:Key} {u:Value} {A:Around} {E:Value->Shared->Prop}
end
section
variable {X:Cx} {o i e value:Expr} {pos pos' i6:Pos} {td ty tv:TE}
end
section
variable {X:Cx} {pos:Pos}
end
structure M1 (X:Cx) (o:Expr) (m:Str) (apos:Pos) (e:Expr) (aV:Pos):Prop where
 base:attributeBase o m X.env (eval o X.env)=eval o X.env
 YA:((backTo aV (starEach [e] X.env)).all (λx => !x.1) && (backToKw aV (keywordEach [] X.env)).all (λx=>x.1.isSome)
  && decide (([e]:List Expr).length+([]:List Keyword).length+(if([]:List Keyword).isEmpty then 0 else 1) < 30))=true
 line:(apos.endLine == aV.line)=true
 trees:backTo aV (starEach [e] X.env)=[(false,eval e X.env)]
structure M2 (X:Cx) (o:Expr) (m:Str) (apos:Pos) (e f:Expr) (aV:Pos):Prop where
 base:attributeBase o m X.env (eval o X.env)=eval o X.env
 YA:((backTo aV (starEach [e,f] X.env)).all (λx => !x.1) && (backToKw aV (keywordEach [] X.env)).all (λx=>x.1.isSome)
  && decide (([e,f]:List Expr).length+([]:List Keyword).length+(if([]:List Keyword).isEmpty then 0 else 1) < 30))=true
 line:(apos.endLine == aV.line)=true
 trees:backTo aV (starEach [e,f] X.env)=[(false,eval e X.env),(false,eval f X.env)]
section
variable {X:Cx} {pins:List (Addr×Obj)} {Z:St} {H:Hp} {s:Shared} {a:Addr} {y d:V} {u r:Value} {o:Option V} {A:Around} {E:Value->Shared->Prop}
end
section
variable {X:Cx} {o e f:Expr} {apos aV:Pos} {td ty tx:TE}
end
section
variable {X:Cx} {pins:List (Addr×Obj)} {Z:St} {H:Hp} {s:Shared} {a:Addr} {kvs:List (Key×V)} {A:Around} {E:Value->Shared->Prop}
end
section
variable {X:Cx} {pins:List (Addr×Obj)} {Z:St} {H:Hp} {s:Shared} {a:Addr} {y:V} {u:Value} {A:Around} {E:Value->Shared->Prop}
end
end L2
namespace nt
open PySem PySem.W PySem.Calls PyProof.Rows
variable{P:Params}{h:Heap}{l:OpenLaw}{n:Nat}
theorem P1:∀(ns:List Int) (vs:List Value),WellAll P h vs (ns.map WData.int)->IntsAre vs ns:=by
 intro ns
 induction ns with
 |nil=>
  intro vs w;rw[sd] at w;cases w;exact .nil
 |cons n ns ih=>
  intro vs w;rw[cv] at w;cases w with
  |cons a b=>
   cases a;exact .cons _ _ (ih _ b)
theorem RA(hn:l.most=some n){args:List WData}{vals:List Value}
  (uc:l.row.toRowW.claim.pre args=true) (E4:WellAll P h vals args) :
  ∃a vs ns,vals=[Value.ref a]/\args=[WData.list (ns.map WData.int)]/\h.get? a=some { cls:=.type "list",data:=.seq vs.toArray}/\IntsAre vs ns/\ns.length<=n:=by
 have Zs:WShape.hasAll [] args [.list .int]=true:=(pre_splitW uc).1;have hc:l.pre.holds [] { args:=args}=true:=(pre_splitW uc).2;obtain⟨d,r,rfl,h1,h2⟩:=hasAllW_cons Zs;obtain rfl:=hasAllW_nil h2;obtain⟨xs,rfl,h3⟩:=hasW_list h1;obtain⟨ns,rfl⟩:=items_int h3;have hlen:ns.length<=n:=by
  unfold OpenLaw.pre at hc;have h4:(WTm.not (.lt (.lit (.int (n:Int))) (.len (.arg 0)))).holds [] { args:=[.list (ns.map .int)]}=true:=by
   have h4:=(holds_andW hc).1;rw[hn] at h4;exact h4
  have h5:=condW_of h4 (w_not (w_lt w_lit (w_len_list (w_arg rfl))));rw[bB] at h5;refine Nat.le_of_not_lt λq=>?_
  have q':(n:Int) < ((ns.length:Nat):Int):=by lia
  first
   |(rw[decide_eq_true q'] at h5;exact absurd h5 (by decide))
   |(simp at h5;lia)
 cases E4 with
 |cons w1 w2=>
  cases w2;cases w1 with
  |list ho rE=>exact⟨_,_,ns,rfl,rfl,ho,P1 ns _ rE,hlen⟩
theorem RB(l:OpenLaw)(args:List WData):l.row.toRowW.claim.post args (.bool true) args=true:=
 postW_of (r:=l.row.toRowW) (X:=(true == true))
  (show WShape.has [] (.bool true) .bool=true by first|rfl|decide|simp[WShape.has,WShape.arms,WShape.armsAll])
  (show(WTm.eq .res (.lit (.bool true))).value [] { args:=args,res:=some (.bool true),after:=args}=some (.bool (true == true)) from w_eq_bool (w_res rfl) w_lit) rfl
theorem mS{q:Program}{loose:List Str}{XP:(Str->Option Value)->Heap->Prop}{YP:World->Heap->Prop}{d:DefRec}
  (hn:l.most=some n) (BQ:d.params.defaults=[])
  (call:∀(w:World) (s₀ s₁:Shared) (mg mb:Str->Option Value) (fa:Addr) (o:Obj) (pm cd doc:Value) (a:Addr) (vs:List Value) (ns:List Int),
   Ground q loose [] XP w s₀ mg mb s₁.heap->YP w s₁.heap->
   s₁.heap.get? fa=some o->o.data=.func (docDef d.name d.params d.body d.scope pm cd doc)->s₁.heap.CodeRec cd d.name->mg d.name=some (.ref fa)->
   s₁.heap.get? a=some { cls:=.type "list",data:=.seq vs.toArray}->IntsAre vs ns->ns.length<=n->s₁.gens=#[]->
   codeAny (model l.prog w) callerA (.call (.ref fa) ⟨[.ref a],[]⟩) (λr s'=>r=.ok (.ret (.bool true))/\OldK s₁.heap s'.heap/\s'.os=s₁.os/\AllBare s'.gens) s₁) :
  WalkO q loose XP YP l.row.toRowW d [] (λf vs=>PySem.call f vs):=by
 intro w s₀ s₁ mg mb G Y fa o pm cd doc dV kV ho hd pQ hD hmg hg args vals as uc hlay hrd E4 JM;obtain rfl:dV=.none:=Dflts.none hD BQ;obtain rfl:kV=.none:=Dflts.noKw hD;obtain⟨a,vs,ns,rfl,rfl,xl,hints,hlen⟩:=RA hn uc E4;refine enter_call (codeAny_mono (call w s₀ s₁ mg mb fa o pm cd doc a vs ns G Y ho (fd_plain hd) pQ hmg xl hints hlen hg) λr s' hq=>?_)
 obtain⟨rfl,h2,h3,h4⟩:=hq;exact⟨.inl ⟨.bool true,.bool true,[],rfl,λ_=>rfl,.bool true,RB l _,λ_=>⟨List.Pairwise.nil,λ_ hm=>(nomatch hm)⟩⟩,h2,h3,h4⟩
section
variable {prog:Program} {w:World} {A:Around} {E:Value->Shared->Prop} {s:Shared} {K:Frag}
end
end nt
namespace L2
open PySem PySem.Spec PyProof.Rows
variable{K:L2.FG}{k:Nat}{a f:Addr}{fd:FuncData}{x qual:Str}{sp:Sp}{st:Stmt}{ps:List Str}{H H':Hp}
theorem LD:∀{vs:List Value} {ns:List Int},IntsAre vs ns->Vals (ns.map V.int) vs
 |_,_,.nil=>.nil
 |_,_,.cons n t h=>.cons ⟨t,rfl⟩ (LD h)
def vV(H:Hp):Prop:=∀b,H b=none\/∃o xs,H b=some (.Y o (.lst xs))
theorem Tf{P:Program}{w:World}{mg mb:Str->Option Value}{CX:pj}{fa:Addr}{s₁:Shared}{vs:List Value}{ns:List Int}
  (KX:K.In s₁.heap) (bO:s₁.heap.Ns mainGlobals mg) (hb:s₁.heap.Ns builtinsNs mb) (Y4:∀x:Str,x≠"__name__"->mb x=bootBuiltins x) (JL:s₁.heap.NoLimit) (hg:s₁.gens=#[])
  (ha:s₁.heap.get? a=some { cls:=.type "list",data:=.seq vs.toArray}) (hi:IntsAre vs ns) (hl:ns.length<=sizeLine) (hr:cA k callerA)
  (F:∀base:Heap,K.In base->base.Ns mainGlobals mg->aT P w K mg base CX k fa fd [x] sp) (BN:∀(s:Shared) (u:Value),BindsTo s fd ⟨[u],[]⟩ [(x,u)])
  (vf:∀H:Hp,vV H->dq K H a (ns.map V.int)->sp [.ref a] H (λv _=>v=.bl true) λ_ _ _=>False)
  (Jt:∀H e s',CX [] H s₁ (λ_ _ _=>False) e s'->False) :
  codeAny (model P w) callerA (.call (.ref fa) ⟨[.ref a],[]⟩) (λr s'=>r=.ok (.ret (.bool true))/\OldK s₁.heap s'.heap/\s'.os=s₁.os/\AllBare s'.gens) s₁:=by
 have rv:=LD hi;have J6:=hi.length;have core:∀H:Hp,vV H->dq K H a (ns.map V.int)->jQ P w H s₁.heap->(∀b,H b≠none->b=a)->(H a≠none->K.lookup a=none)->
   codeAny (model P w) callerA (.call (.ref fa) ⟨[.ref a],[]⟩) (λr s'=>r=.ok (.ret (.bool true))/\OldK s₁.heap s'.heap/\s'.os=s₁.os/\AllBare s'.gens) s₁:=by
  intro H hO hS cx hA hK;have oK:∀{b:Addr} {o:Obj},s₁.heap.get? b=some o->H b=none->(lX s₁.heap H).get? b=some o:=λe n=>SX e n
  have Ck:∀{b:Addr} {o:Obj} {es:Array DictEntry} {ep:Nat},s₁.heap.get? b=some o->o.data=.dict es ep->H b=none:=λ{b o es ep} e d=>by
   cases q:H b with
   |none=>rfl
   |some u=>
    have e':b=a:=hA b (by rw[q];simp)
    subst e';rw[ha] at e;cases e;have d':Data.seq vs.toArray _=Data.dict es ep:=d;cases d'
  have E_:∀{b:Addr} {m:Str->Option Value},s₁.heap.Ns b m->(lX s₁.heap H).Ns b m:=λ{b m} ⟨o,es,ep,e,d,r⟩=>⟨o,es,ep,oK e (Ck e d),d,r⟩
  have OT:K.In (lX s₁.heap H):=λb o e=>oK (KX b o e) (by
   cases q:H b with
   |none=>rfl
   |some u=>
    have e':b=a:=hA b (by rw[q];simp)
    subst e';rw[hK (by rw[q];simp)] at e;cases e)
  have hM:Mod K mg (lX s₁.heap H):=⟨OT,E_ bO,⟨mb,E_ hb,Y4⟩,let ⟨mc,h1,h2⟩:=JL;⟨mc,E_ h1,h2⟩⟩
  have e0:nK P w K mg (lX s₁.heap H) callerA [] s₁ H:=⟨rfl,hM,λb o e=>Uy e,Nat.le_of_eq (Ro _ _),trivial,λb hb=>absurd (show b∈([]:List Addr) from hb) (by simp),cx,.of_eq hg⟩
  refine codeAny_mono ((F _ OT (E_ bO)).run callerA [] s₁ H ⟨[.ref a],[]⟩ [.ref a] [.ref a] _ _ hr e0 (BN s₁ (.ref a)) (.cons rfl .nil) (vf H hO hS)) λr s' h=>?_
  cases r with
  |error e=>exact(Jt H e s' h).elim
  |ok fl=>
   cases fl with
   |next=>exact False.elim h
   |brk=>exact False.elim h
   |cont=>exact False.elim h
   |ret u=>
    obtain⟨v,H',os,bare,un,JR,r',q⟩:=h;have q':v=.bl true:=q;subst q';obtain rfl:u=Value.bool true:=r';refine⟨rfl,OldK.of_keep λb o e=>?_,os,bare⟩
    cases q:H b with
    |none=>exact un.keep b o e q (by intro z;exact absurd (show b∈([]:List Addr) from z) (by simp)) (by simp)
    |some u=>
     rcases hO b with z|⟨ob,xs,z⟩
     ·rw[q] at z;cases z
     ·have z2:=un.k_ b ob _ z;obtain⟨e1,_⟩:=cx b _ z;obtain⟨e2,_⟩:=JR b _ z2;rw[e] at e1;cases e1;exact e2
 cases hk:K.lookup a with
 |some o=>
  have e:=KX a o hk;rw[ha] at e;cases e;refine core (λ_=>none) (λ_=>.inl rfl) (.inr ⟨_,vs.toArray,_,hk,rfl,rfl,rfl,by rw[eI,J6];exact hl,by simpa using rv⟩) (λb u z=>by have z':(none:Option HO)=some u:=z;cases z') (λb z=>absurd rfl z) λz=>absurd rfl z
 |none=>
  refine core (λb=>if b=a then some (.Y { cls:=.type "list",data:=.seq vs.toArray} (.lst (ns.map V.int))) else none) (λb=>?_) (.inl (.inr ⟨{ cls:=.type "list",data:=.seq vs.toArray},if_pos rfl⟩)) (λb u z=>?_) (λb z=>?_) λ_=>hk
  ·by_cases hb:b=a
   ·exact .inr ⟨_,_,if_pos hb⟩
   ·exact .inl (if_neg hb)
  ·by_cases hb:b=a
   ·have z':=(if_pos hb).symm.trans z;cases z';subst hb;exact⟨ha,by rw[bB];exact hl,vs,_,rv,ha⟩
   ·have z':=(if_neg hb).symm.trans z;cases z'
  ·by_cases hb:b=a
   ·exact hb
   ·exact absurd (if_neg hb) z
theorem uC{l:PySem.W.OpenLaw}{n:Nat}{q:Program}{loose:List Str}{XP:(Str->Option Value)->Heap->Prop}{YP:World->Heap->Prop}{d:DefRec}{K:Params->L2.FG}{CX:World->pj}{sp:World->Sp}
  (hn:l.most=some n) (xh:n<=sizeLine) (BQ:d.params.defaults=[]) (hr:cA k callerA)
  (hY:∀(w:World) (h:Heap),YP w h->(K w.params).In h)
  (F:∀(w:World) (mg:Str->Option Value) (fa:Addr) (h:Heap),(K w.params).In h->h.Ns mainGlobals mg->mg d.name=some (.ref fa)->
   ∃fd:FuncData,(∀(s:Shared) (u:Value),BindsTo s fd ⟨[u],[]⟩ [(x,u)])/\
    ∀base:Heap,(K w.params).In base->base.Ns mainGlobals mg->aT l.prog w (K w.params) mg base (CX w) k fa fd [x] (sp w))
  (vf:∀(w:World) (H:Hp) (a:Addr) (ns:List Int),ns.length<=n->vV H->dq (K w.params) H a (ns.map V.int)->sp w [.ref a] H (λv _=>v=.bl true) λ_ _ _=>False)
  (Jt:∀(w:World) (H:Hp) (s:Shared) (e:Value) (s':Shared),CX w [] H s (λ_ _ _=>False) e s'->False) :
  PySem.W.WalkO q loose XP YP l.row.toRowW d [] (λf vs=>PySem.call f vs):=by
 refine nt.mS hn BQ λw s₀ s₁ mg mb fa o pm cd doc a vs ns G Y ho hd pQ hmg xl hints hlen hg=>?_
 have KX:=hY w _ Y;obtain⟨fd,hb,hF⟩:=F w mg fa _ KX G.T.g hmg;exact Tf KX G.T.g G.T.b G.T.builtins G.T.nolimit hg xl hints (lQ hlen xh) hr hF hb (λH hO hS=>vf w H a ns hlen hO hS) λH e s'=>Jt w H s₁ e s'
noncomputable def qu(s:Stmt)(j:Nat):Stmt:=match s with
 |.ClassDef _ _ _ body _ _ _ _ _ _ _=>body.getD j (.Pass ⟨0,0,0,0⟩)
 |_=>.Pass ⟨0,0,0,0⟩
noncomputable def DZ(s:Stmt):Arguments:=match s with
 |.FunctionDef _ a _ _ _ _ _ _ _ _=>a
 |_=>{ posonlyargs:=[],args:=[],vararg:=none,kwonlyargs:=[],kw_defaults:=[],kwarg:=none,defaults:=[]}
noncomputable def we(s:Stmt):List Stmt:=match s with
 |.FunctionDef _ _ b _ _ _ _ _ _ _=>b
 |_=>[]
noncomputable def cS(s:Stmt):Scope:=match s with
 |.FunctionDef _ _ _ _ _ _ sc _ _ _=>sc
 |_=>{ kind:=.function,names:=[],isGenerator:=false,isCoroutine:=false}
abbrev dz:pj:=λ_ _ _ _ _ _=>False
abbrev E0:XK:=λ_ _ _=>False
abbrev E1:St->XK:=λ_=>E0
theorem oX{X:Cx}:wu dz X E1:=λ_ _ _ _ _ _ _ h=>h.elim
structure e_ (K:L2.FG) (x qual:Str) (st:Stmt) (f:Addr) (fd:FuncData):Prop where
 ex:∃(oc:Value) (od:Option Addr) (kV doc pm:Value) (an:Option Addr) (cL ct:Value) (sY:Array (Option Value)),
  fd=PySem.W.fnOf x qual (DZ st) (we st) (cS st) .none kV doc pm an cL ct/\K.lookup f=some ⟨oc,od,.func fd,sY⟩/\PySem.W.codeIn K cL qual=true
 kp:PySem.W.keepIn K (.ref f)=true
section
variable {P:Program} {w:World} {K:L2.FG} {mg:Str->Option Value} {base:Heap}
theorem e_.ok{N:List Str}(F:e_ K x qual st f fd)(S:aB N ps (cS st))(len:∀vs H Q E,sp vs H Q E->vs.length=ps.length)
  (ko:∀(cL:Value) (A:Around) (outer:List Env) (s:Shared) (H:Hp) (vs:List V) (Q:VK) (E:XK),cA k (A.deeper (envOfC qual (cS st) s.heap.objs.size f cL))->sp vs H Q E->
   ∃t,jt (mY dz P w K mg base N qual (cS st) f cL A outer s H E).zd (we st) t/\t { nx:=λ_ H'=>Q .aI H',rt:=Q} (start N vs) H):aT P w K mg base dz (k+1) f fd ps sp:=by
 obtain⟨oc,od,kV,doc,pm,an,cL,ct,sY,rfl,lk,pQ⟩:=F.ex;refine XS lk pQ S len λA outer s H vs Q E hr vf=>?_
 obtain⟨t,h,q⟩:=ko cL A outer s H vs Q E hr vf;exact⟨t,h.zd,q⟩
theorem e_.binds(F:e_ K x qual st f fd)
  (h:∀(kV doc pm:Value) (an:Option Addr) (cL ct:Value) (us:List Value),us.length=ps.length->bindArgs (PySem.W.fnOf x qual (DZ st) (we st) (cS st) .none kV doc pm an cL ct) ⟨us,[]⟩=pure (ps.zip us)):Binds K fd ps []:=by
 obtain⟨oc,od,kV,doc,pm,an,cL,ct,sY,rfl,lk,pQ⟩:=F.ex;exact .all (h kV doc pm an cL ct)
theorem fun_mk{oc:Value}{od an:Option Addr}{sY:Array (Option Value)}{kV doc pm cL ct:Value}(l:K.lookup f=some ⟨oc,od,.func (PySem.W.fnOf x qual (DZ st) (we st) (cS st) .none kV doc pm an cL ct),sY⟩)
  (c:PySem.W.codeIn K cL qual=true) (k:PySem.W.keepIn K (.ref f)=true):e_ K x qual st f (PySem.W.fnOf x qual (DZ st) (we st) (cS st) .none kV doc pm an cL ct):=⟨⟨oc,od,kV,doc,pm,an,cL,ct,sY,rfl,l,c⟩,k⟩
end
theorem hu_of{A:Around}(hr:cA k A):A.units+1 < cLine:=KG (Nat.add_le_add_left (by decide:1<=64) _) hr.units
section
variable {X:Cx}
theorem pv(i:Nat){pos:Pos}(hN:X.N[i]?=some x:=by rfl)(hv:Dh X.env.scope x:=by first|exact Or.inl rfl|exact Or.inr (Or.inl rfl)|exact Or.inr (Or.inr rfl))(hd:(x == ("__debug__":Str))=false:=by decide)
  (pQ:(x == ("__classdict__":Str))=false:=by decide):PE X (.Name x pos) (kJ i):=Wr hN hv hd pQ
end
theorem pT{A B:Prop}(h:B):if false=true then A else B:=by
 rw[if_neg kU];exact h
theorem pU{A B:Prop}(h:A):if true=true then A else B:=by
 rw[if_pos rfl];exact h
def aH(H H':Hp):Prop:=∀b o,H b=some o->H' b=some o
theorem aH.refl(H:Hp):aH H H:=λ_ _ h=>h
theorem aH.trans{H1 H2:Hp}(a:aH H H1)(b:aH H1 H2):aH H H2:=λc o h=>b c o (a c o h)
theorem aH.free(e:aH H H'){l:Addr}(h:H' l=Option.none):H l=Option.none:=by
 cases q:H l with
 |none=>rfl
 |some o=>
  rw[e l o q] at h;cases h
theorem aH.seq{xs:List V}(e:aH H H')(h:dq K H a xs):dq K H' a xs:=by
 rcases h with(h|⟨o,h⟩)|h
 ·exact .inl (.inl (e _ _ h))
 ·exact .inl (.inr ⟨o,e _ _ h⟩)
 ·exact .inr h
section
variable {κ:Type} [DecidableEq κ]
end
end L2
set_option maxHeartbeats 4000000
namespace L2
open PySem PySem.Spec PyProof.Rows
variable{env:Env}{names:List (Str×NameKind)}{x:Str}{c a:Addr}{scope:Scope}{X:Cx}{prog P:Program}{w:World}{A:Around}{s:Shared}{pos:Pos}{Z τ:St}{H:Hp}{fp:List Addr}{Fin:List V->Hp->Prop}{wi:TI}{K:L2.FG}{tg l:Expr}{tl te:TE}{g:TG}{tt:TT}{n k:Nat}
noncomputable def kh(env:Env)(names:List (Str×NameKind)):List (Str×Addr):=((names.filter λy=>y.2 == .free).reverse).map λy=>(y.1,(env.cells.lookup y.1).getD 0)
theorem Lg{g:Str->Addr}{x:Str}:∀{l:List (Str×NameKind)},(∃k,(x,k)∈l)->(l.map λy=>(y.1,g y.1)).lookup x=some (g x)
 |[],h=>by obtain⟨k,h⟩:=h;cases h
 |(n,k)::r,h=>by
  show List.lookup x ((n,g n)::_)=_;cases hx:x == n with
  |true=>
   have e:x=n:=by simpa using hx
   subst e;simp[o9]
  |false=>
   simp only[o9,hx];refine Lg (l:=r) ?_;obtain⟨k',h⟩:=h;rcases dZ.mp h with e|e
   ·cases e;simp at hx
   ·exact⟨k',e⟩
theorem KW{g:Str->Addr}{x:Str}{c:Addr}:∀{l:List (Str×NameKind)},(l.map λy=>(y.1,g y.1)).lookup x=some c->c=g x/\∃k,(x,k)∈l
 |[],h=>by cases h
 |(n,k)::r,h=>by
  have h:List.lookup x ((n,g n)::(r.map λy=>(y.1,g y.1)))=some c:=h
  cases hx:x == n with
  |true=>
   have e:x=n:=by simpa using hx
   subst e;simp only[o9,hx] at h;exact⟨(Option.some.inj h).symm,k,qN⟩
  |false=>
   simp only[o9,hx] at h;obtain⟨e,k',hk⟩:=KW h;exact⟨e,k',lu _ hk⟩
theorem Me(h:(x,NameKind.free)∈names)(hc:env.cells.lookup x=some c):(kh env names).lookup x=some c:=by
 have:=Lg (g:=λn=>(env.cells.lookup n).getD 0) (x:=x) (l:=(names.filter λy=>y.2 == .free).reverse) ⟨.free,by simp[h]⟩
 unfold kh;rw[this,hc];rfl
theorem HY(hf:∀y∈names,y.2=.free->∃c,env.cells.lookup y.1=some c)(h:(kh env names).lookup x=some c):env.cells.lookup x=some c:=by
 obtain⟨e,k,hk⟩:=KW (g:=λn=>(env.cells.lookup n).getD 0) h
 have y8:=zm.mp (List.mem_reverse.mp hk);obtain⟨c',xf⟩:=hf _ y8.1 (by simpa using y8.2)
 have JA:env.cells.lookup x=some c':=xf;rw[e,JA];rfl
theorem GF{env:Env}:∀(names:List (Str×NameKind)) (cs:List (Str×Addr)),(∀y∈names,y.2=.free->∃c,env.cells.lookup y.1=some c)->
  (forIn names cs (λ(x:Str×NameKind) (r:List (Str×Addr))=>if(x.2 == NameKind.free)=true then(do let a <-cellOf env x.1;pure (ForInStep.yield ((x.1,a)::r))) else(pure (ForInStep.yield r):Sem (ForInStep (List (Str×Addr)))))) =
   pure (kh env names++cs)
 |[],cs,_=>by rw[List.forIn_nil];rfl
 |(n,k)::r,cs,h=>by
  rw[List.forIn_cons];cases hk:k == NameKind.free with
  |true=>
   obtain⟨c,hc⟩:=h (n,k) qN (by simpa using hk)
   have xf:env.cells.lookup n=some c:=hc;have e:cellOf env n=pure c:=by unfold cellOf;rw[xf]
   simp only[hk,if_true,e,pure_bind];rw[GF r _ λy hy=>h y (lu _ hy)]
   congr 1
   unfold kh;rw[qe];simp[hk,xf]
  |false=>
   simp only[hk,uE,if_false,pure_bind];rw[GF r _ λy hy=>h y (lu _ hy)]
   congr 1
   unfold kh;rw[qe];simp[hk]
theorem KS(h:∀y∈scope.names,y.2=.free->∃c,env.cells.lookup y.1=some c):closureFor scope env=pure (kh env scope.names):=by
 have:=GF (env:=env) scope.names [] h;rw[d_] at this;unfold closureFor;show(forIn scope.names [] _ >>= λr=>pure r)=_
 rw[bind_pure];exact this
theorem K6{env:Env}:∀{names:List (Str×NameKind)} {x:Str},names.lookup x=some .free->
  (names.map λ(n,k)=>if(k == NameKind.free && env.scope.kind == .function && env.kindOf n == some .cell) then(n,NameKind.cell) else(n,k)).lookup x=some .cell\/
  (names.map λ(n,k)=>if(k == NameKind.free && env.scope.kind == .function && env.kindOf n == some .cell) then(n,NameKind.cell) else(n,k)).lookup x=some .free
 |[],_,h=>by simp at h
 |(n,k)::r,x,h=>by
  have ih:=@K6 env r x;show List.lookup x ((if(k == NameKind.free && env.scope.kind == .function && env.kindOf n == some .cell)=true then(n,NameKind.cell) else(n,k))::_)=_\/List.lookup x ((if(k == NameKind.free && env.scope.kind == .function && env.kindOf n == some .cell)=true then(n,NameKind.cell) else(n,k))::_)=_
  cases hx:x == n with
  |true=>
   simp only[o9,hx] at h;cases h;by_cases hc:(NameKind.free == NameKind.free && env.scope.kind == .function && env.kindOf n == some .cell)=true
   ·rw[if_pos hc];simp[o9,hx]
   ·rw[if_neg hc];simp[o9,hx]
  |false=>
   simp only[o9,hx] at h;by_cases hc:(k == NameKind.free && env.scope.kind == .function && env.kindOf n == some .cell)=true
   ·rw[if_pos hc];simp only[o9,hx];exact ih h
   ·rw[if_neg hc];simp only[o9,hx];exact ih h
theorem GH{env:Env}:∀{names:List (Str×NameKind)} {x:Str} {q:NameKind},(q=.cell\/q=.free)->(∀y∈names,y.2≠.cell)->
  (names.map λ(n,k)=>if(k == NameKind.free && env.scope.kind == .function && env.kindOf n == some .cell) then(n,NameKind.cell) else(n,k)).lookup x=some q->(x,NameKind.free)∈names
 |[],_,_,_,_,h=>by simp at h
 |(n,k)::r,x,q,hq,hn,h=>by
  have ih:=@GH env r x q hq λy hy=>hn y (lu _ hy)
  have hk:k≠.cell:=hn (n,k) qN;have h:List.lookup x ((if(k == NameKind.free && env.scope.kind == .function && env.kindOf n == some .cell)=true then(n,NameKind.cell) else(n,k))::_)=some q:=h
  cases hx:x == n with
  |true=>
   have e:x=n:=by simpa using hx
   subst e;by_cases hc:(k == NameKind.free && env.scope.kind == .function && env.kindOf x == some .cell)=true
   ·have hf:k=.free:=by
     simp only[qb,beq_iff_eq] at hc;exact hc.1.1
    subst hf;exact qN
   ·rw[if_neg hc] at h;simp only[o9,hx] at h;have e:k=q:=Option.some.inj h;rcases hq with rfl|rfl
    ·exact absurd e hk
    ·rw[e];exact qN
  |false=>
   by_cases hc:(k == NameKind.free && env.scope.kind == .function && env.kindOf n == some .cell)=true
   ·rw[if_pos hc] at h;simp only[o9,hx] at h;exact lu _ (ih h)
   ·rw[if_neg hc] at h;simp only[o9,hx] at h;exact lu _ (ih h)
noncomputable def ir(X:Cx)(scope:Scope)(M:List Str)(C:Addr)(s:Shared)(H:Hp)(fp:List Addr):Cx:=
 {X with N:=M,s₀:=s,H₀:=H,env:=compEnvC scope (kh X.env scope.names) C X.env,outer:=X.stack,ex:=fp,fn:=λ_=>false,pn:=[],xe:=λ_ _=>False}
noncomputable def iG(k:Nat)(aL:List Nat)(Z:St):St:=List.replicate k none++aL.map λi=>(Z[i]?).join
def pA(X:Cx)(ifs:List Expr)(t:TT):Prop:=
 ∀(pins:List (Addr×Obj)) (s:Shared) (Z:St) (H:Hp) (Q:Bool->Hp->Prop),Inv X pins Z H s->t Z H Q->
  wpAny (model X.prog X.w) X.A (forIn ifs true λc r=>if r=true then do let ok <-isTrue c X.env (eval c X.env);pure (ForInStep.yield ok) else pure (ForInStep.yield r)) (TP X pins Z Q) X.xe s
def Kt:TT:=λ_ H Q=>Q true H
theorem ux:pA X [] Kt:=λ_ _ Z H _ I h=>wpAny_tests_nil ⟨H,I,h⟩
theorem UW{c:Expr}{t:TT}(hc:PT X c t):pA X [c] t:=λpins s Z H Q I h=>wpAny_tests_one (hc pins s Z H Q I h)
theorem PV{R:Result->Shared->Prop}{elt target iter:Expr}{ifs:List Expr}{it acc:Value}(I:Nat->Shared->Prop)
  (turn:∀n s,I n s->wpAny (model prog w) A (pyNext it) (λr s₁=>match r with
   |none=>R (.ok .next) s₁
   |some v=>wpAny (model prog w) A (letOwnedTupleGo target it v) (λ_ s₀=>wpAny (model prog w) A (assign target env v) (λ_ s₂=>
     wpAny (model prog w) A (forIn ifs true λc r=>if r=true then do let ok <-isTrue c env (eval c env);pure (ForInStep.yield ok) else pure (ForInStep.yield r)) (λok s₃=>
      if ok=true then wpAny (model prog w) A (eval elt env) (λx s₄=>
       wpAny (model prog w) A (call (.builtin "list.append") [acc,x]) (λ_ s₅=>∃m,m < n/\I m s₅) (λ_ _=>False) s₄) (λ_ _=>False) s₃
      else ∃m,m < n/\I m s₃) (λ_ _=>False) s₂) (λ_ _=>False) s₀) (λ_ _=>False) s₁) (λ_ _=>False) s)
  (n:Nat) (h:I n s) :
  codeAny (model prog w) A (.compLoop (.ListComp elt [⟨target,iter,ifs,0⟩] scope pos) 0 it acc env) R s:=by
 refine codeAny_loop rfl I (λn s hI=>?_) n h
 show wpAny _ A ((compTurn (.ListComp elt [⟨target,iter,ifs,0⟩] scope pos) 0 it acc env).onRaise (λx=>do noteFrame x env;theTreesLotGoes x)) _ _ s
 refine wpAny_noted ?_;rw[compTurn_list];refine wpAny_bind (wpAny_standAt (wpAny_bind (wpAny_mono (turn n s hI) (λr s₁ h₁=>?_) λ_ _ h'=>h'.elim)))
 cases r with
 |none=>exact wpAny_pure h₁
 |some v=>
  refine wpAny_bind (wpAny_mono h₁ (λ_ s₀ h₀=>?_) λ_ _ h'=>h'.elim)
  refine wpAny_bind (wpAny_mono h₀ (λ_ s₂ h₂=>wpAny_bind (wpAny_mono h₂ (λok s₃ h₃=>?_) λ_ _ h'=>h'.elim)) λ_ _ h'=>h'.elim)
  cases ok with
  |false=>exact wpAny_pure ⟨rfl,h₃⟩
  |true=>
   exact wpAny_bind (wpAny_bind (wpAny_mono h₃ (λx s₄ h₄=>wpAny_bind (wpAny_mono h₄ (λ_ s₅ h₅=>wpAny_pure (wpAny_pure ⟨rfl,h₅⟩)) λ_ _ h'=>h'.elim)) λ_ _ h'=>h'.elim))
theorem Inv.CQ{pins:List (Addr×Obj)}{o:HO}(I:Inv X pins Z H s)(hn:H a=none)(hy:X.s₀.heap.objs.size<=a)(hL:a≠X.env.locals)(hC:∀x c,X.env.cells.lookup x=some c->c≠a)
  (hP:∀p∈X.pn++pins,p.1≠a) (new:cb X.prog X.w (upd H a o) s.heap a o):Inv X pins Z (upd H a o) s:=by
 refine⟨I.ok,I.os,I.bare,⟨I.base.keep,I.base.slot,λb ob e n hx=>?_,I.base.there,λb xs e=>?_,λb ob u e=>?_,λb ps e=>?_⟩,I.loc,I.cell,?_,λx c e=>?_,λp hp=>?_,λb u e=>?_,I.len⟩
 ·rw[cK (i8 (i_ (fF e) hy))];exact I.base.free b ob e n hx
 ·have z:=I.base.mq b xs e;rw[cK (lU z hn)];exact z
 ·have z:=I.base.k_ b ob u e;rw[cK (lU z hn)];exact z
 ·obtain⟨m,z⟩:=I.base.mj b ps e;exact⟨m,by rw[cK (lU z hn)];exact z⟩
 ·rw[cK (Ne.symm hL)];exact I.free
 ·rw[cK (hC x c e)];exact I.ib x c e
 ·obtain⟨e,n,r⟩:=I.pin p hp;exact⟨e,by rw[cK (hP p hp)];exact n,r⟩
 ·by_cases hb:b=a
  ·subst hb;rw[iU] at e;cases e;exact new
  ·rw[cK hb] at e;exact(I.cx b u e).nj (λc v _ q=>q) (λc q=>by rw[cK (lU q hn)];exact q) λc xs q=>by rw[cK (lU q hn)];exact q
def j8(J:It)(g:TG)(tt:TT)(te:TE)(τ₀:St)(H1:Hp)(Fin:List V->Hp->Prop):Prop:=
 ∃(n:Nat) (W:Nat->St->List V->Hp->Prop),W 0 τ₀ [] H1/\∀i τ acc H,i<=n->W i τ acc H->
  (J.stop i H/\Fin acc H)\/(i < n/\J.go i H/\∀x H',J.vQ i H x H'->g x τ H' λτ2 H2=>tt τ2 H2 λb H3=>if b=true then te τ2 H3 λv H4=>acc.length < sizeLine/\W (i+1) τ2 (acc++[v]) H4 else W (i+1) τ2 acc H3)
structure bJ (X:Cx) (scope:Scope) (M:List Str) (k:Nat) (aL:List Nat):Prop where
 kind:scope.kind=.function
 cell:∀y∈scope.names,y.2≠.cell
 free:∀y∈scope.names,y.2=.free->X.env.kindOf y.1=some .cell\/X.env.kindOf y.1=some .free
 names:∀y∈scope.names,y.2=.local -> scope.names.lookup y.1=some .local
 len:M.length=k+aL.length
 IH:∀(j i:Nat) (x:Str),aL[j]?=some i->M[k+j]?=some x->X.N[i]?=some x/\scope.names.lookup x=some .free
section
variable {X:Cx} {pins:List (Addr×Obj)} {Z:St} {tg elt iter:Expr} {ifs:List Expr} {scope:Scope} {pos:Pos} {M:List Str} {k:Nat} {aL:List Nat} {g:TG} {tt:TT} {te:TE}
theorem Inv.jn(I:Inv X pins Z H s)(ok:bJ X scope M k aL):∀y∈scope.names,y.2=.free->∃c,X.env.cells.lookup y.1=some c:=λy hy e=>I.ok.has y.1 (ok.free y hy e)
theorem Inv.block{s4:Shared}{C D:Addr}{oD:Obj}{m:Str->Option Value}(I:Inv X pins Z H s)(ok:bJ X scope M k aL)(f2:∀b∈fp,jz X pins H b)(EX:∀b∈fp,∃o,s.heap.get? b=some o/\∀v,o.data≠.cell v)
  (hC:s.heap.objs.size<=C) (BI:D≠C) (hD:s.heap.objs.size<=D) (old:∀b o,s.heap.get? b=some o->s4.heap.get? b=some o) (os:s4.os=s.os) (gens:s4.gens=s.gens)
  (ns:s4.heap.Ns C m) (JP:s4.heap.get? D=some oD) (JD:∀v,oD.data≠.cell v):Inv (ir X scope M C s H fp) [(D,oD)] (iG k aL Z) H s4:=by
 have hf:=I.jn ok;have fr:∀a,s.heap.objs.size<=a->H a=none:=λa ha=>I.cx.fresh ha
 have ZP:∀b∈pO X.stack,b < s.heap.objs.size:=λb hb=>by
  rcases dZ.mp (I.kH b hb) with e|e
  ·rw[e];exact I.lt
  ·exact Nat.lt_of_not_le λz=>I.xw z e
 have cl:∀x c,(kh X.env scope.names).lookup x=some c->X.env.cells.lookup x=some c:=λx c e=>HY hf e
 refine⟨⟨I.ok.mod,ok.kind,I.ok.glob,I.ok.blt,hC,λx y c e1 e2=>I.ok.inj x y c (cl x c e1) (cl y c e2),λx hx=>?_,λx c e _=>?_,I.ok.hd,I.ok.frames,.inl rfl,λb hb=>?_,I.bs,lQ I.ok.tX I.sz,λb o e hb=>?_,λb hb z=>?_,I.stack,I.o6⟩,
  os,by rw[gens];exact I.bare,Un.kept old,⟨m,ns,λi x v h1 h2 h3=>?_⟩,λx c e=>?_,fr C hC,λx c e=>I.ib x c (cl x c e),λp hp=>?_,I.cx.kept old,?_⟩
 ·have hx:(relabel scope X.env).names.lookup x=some .cell\/(relabel scope X.env).names.lookup x=some .free:=hx;have hm:(x,NameKind.free)∈scope.names:=by
   rcases hx with h|h
   ·exact GH (env:=X.env) (.inl rfl) ok.cell h
   ·exact GH (env:=X.env) (.inr rfl) ok.cell h
  obtain⟨c,hc⟩:=hf _ hm rfl;exact⟨c,Me hm hc⟩
 ·cases e
 ·obtain⟨f0,f1,f2,f3,f4,f5⟩:=f2 b hb;obtain⟨ob,eb,_⟩:=EX b hb;exact⟨i8 (i_ (fF eb) hC),λx c e=>f4 x c (cl x c e)⟩
 ·obtain⟨f0,f1,f2,f3,f4,f5⟩:=f2 b hb;rcases f3 with q|q
  ·exact I.ok.rN b o e q
  ·exact absurd (i_ (fF e) (lQ I.ok.tX q)) (o8 _)
 ·obtain⟨f0,f1,f2,f3,f4,f5⟩:=f2 b hb;rcases dZ.mp (I.kH b z) with q|q
  ·exact f1 q
  ·exact f2 q
 ·unfold iG at h2;have hk:¬i < k:=λq=>by
   rw[FE (by simpa using q),List.getElem?_replicate] at h2
   split at h2 <;> cases h2
  rw[xU (by simpa using hk),sZ,iz] at h2
  cases e:aL[i - k]? with
  |none=>rw[e] at h2;cases h2
  |some j=>
   rw[e] at h2;have t_:(Z[j]?).join=some v:=Option.some.inj h2;have hj:Z[j]?=some (some v):=by
    cases q:Z[j]? with
    |none=>rw[q] at t_;cases t_
    |some z=>rw[q] at t_;simp at t_;rw[t_]
   have xg:k+(i - k)=i:=by lia
   obtain⟨hN,O0⟩:=ok.IH (i - k) j x e (by rw[xg];exact h1)
   have hm:(x,NameKind.free)∈scope.names:=PySem.mem_of_lookup O0;have O4:=ok.free _ hm rfl;obtain⟨mX,hnX,Zh⟩:=I.loc;obtain⟨u,ru,lk⟩:=Zh j x v hN hj (by rcases O4 with q|q;exact .inr (.inl q);exact .inr (.inr q))
   refine⟨u,ru,.inr ⟨K6 (env:=X.env) O0,?_⟩⟩;rcases lk with⟨q,_⟩|⟨_,c,hc,oR⟩
   ·rcases O4 with z|z
    ·rw[show X.env.kindOf x=some .cell from z] at q;cases q
    ·rw[show X.env.kindOf x=some .free from z] at q;cases q
   ·exact⟨c,Me hm hc,oR.keeps old⟩
 ·obtain⟨v,z⟩:=I.cell x c (cl x c e);exact⟨v,z.keeps old⟩
 ·have e:p=(D,oD):=by simpa[ir] using hp
  subst e;exact⟨JP,fr D hD,BI,λz=>absurd (i_ (ZP D z) hD) (o8 _),JD⟩
 ·unfold iG;rw[gK,sZ,bB];exact ok.len.symm
theorem LF{H2:Hp}{s2:Shared}{J:It}{it:Addr}{tn:Nat->Heap->Prop}{RR:Value->Addr->Result->Shared->Prop}{E:Value->Shared->Prop}(I2:Inv X pins Z H2 s2)(hc:X.calm=true)(ok:bJ X scope M k aL)
  (T:Turn X.prog X.w X.K tg J fp it tn) (vC:tn 0 s2.heap) (f2:∀b∈fp,jz X pins H2 b)
  (hg:∀C s H fp,PG (ir X scope M C s H fp) tg g) (ht:∀C s H fp,pA (ir X scope M C s H fp) ifs tt) (he:∀C s H fp,PE (ir X scope M C s H fp) elt te)
  (hW:j8 J g tt te (iG k aL Z) H2 Fin)
  (YY:∀D C s' H' acc,Inv X pins Z (upd H' D (.lst acc)) s'->jz X pins (upd H' D (.lst acc)) C->(∃m,s'.heap.Ns C m)->H' D=none->Fin acc H'->RR (.ref D) C (.ok .next) s') :
  wpAny (model X.prog X.w) X.A (newList []) (λacc s₃=>wpAny (model X.prog X.w) X.A (newFunctionEnv scope X.env.globals (kh X.env scope.names) [] X.env.qual none .none (some X.env)) (λA_ s₄=>
   codeAny (model X.prog X.w) X.A (.compStart (.ListComp elt [⟨tg,iter,ifs,0⟩] scope pos) 0 (.ref it) acc { A_ with scope:=relabel scope X.env}) (RR acc A_.locals) s₄) E s₃) E s2:=by
 refine wpAny_newObj_type (wpAny_newFunctionEnv ok.cell (by intro y hy;simp at hy) (λh₁ hns₁ hsb₁=>?_) ok.kind)
 dsimp only at hns₁ hsb₁ ⊢;generalize Jv:s2.heap.push { cls:=.type "list",dict:=none,data:=.seq ([]:List Value).toArray}=H3 at hns₁ hsb₁ ⊢;have Ju:H3.objs.size=s2.heap.objs.size+1:=by rw[<-Jv,Heap.size_push]
 have BI:s2.heap.objs.size≠H3.objs.size:=by rw[Ju];exact i8 (zo _)
 have below:∀b,b < s2.heap.objs.size->b≠H3.objs.size/\b≠s2.heap.objs.size:=λb hb=>⟨by rw[Ju];exact i8 (CW hb),i8 hb⟩
 have old:∀b o,s2.heap.get? b=some o->h₁.get? b=some o:=λb o e=>hsb₁.extBut b o (below b (fF e)).1 (iK _ (Jv ▸ iK _ e))
 have Jy:h₁.get? s2.heap.objs.size=some { cls:=.type "list",data:=.seq ([]:List Value).toArray 0}:=hsb₁.extBut _ _ BI (iK _ (Jv ▸ mG _ rfl));have EX:=T.obj 0 _ vC;have ua:s2.heap.objs.size<=H3.objs.size:=by rw[Ju];exact zp _
 obtain⟨N,W,w0,turn⟩:=hW;have Pu:tn 0 h₁:=T.keep _ _ _ vC λb _ o e=>old b o e
 have loop:∀s₃:Shared,s₃={ s2 with heap:=h₁,toks:=s2.toks+([]:List (Str×Value)).length}->
   codeAny (model X.prog X.w) X.A (.compLoop (.ListComp elt [⟨tg,iter,ifs,0⟩] scope pos) 0 (.ref it) (.ref s2.heap.objs.size) (compEnvC scope (kh X.env scope.names) H3.objs.size X.env))
    (RR (.ref s2.heap.objs.size) H3.objs.size) s₃:=by
  rintro s₃ rfl;have I3:Inv (ir X scope M H3.objs.size s2 H2 fp) [(s2.heap.objs.size,{ cls:=.type "list",data:=.seq ([]:List Value).toArray 0})] (iG k aL Z) H2 { s2 with heap:=h₁,toks:=s2.toks+([]:List (Str×Value)).length}:=
   I2.block ok f2 EX ua BI (cP _) old rfl rfl hns₁ Jy (λv z=>by cases z)
  have Jm:∀b∈fp,b≠H3.objs.size/\b≠s2.heap.objs.size:=λb hb=>let ⟨o,e,_⟩:=EX b hb;below b (fF e)
  have n8:∀{H':Hp} {oD:Obj},(∀b∈fp,H' b=none)->∀b∈fp,jz (ir X scope M H3.objs.size s2 H2 fp) [(s2.heap.objs.size,oD)] H' b:=λ{H' oD} hn b hb=>by
   obtain⟨f0,f1,f2,f3,f4,f5⟩:=f2 b hb;refine⟨hn b hb,(Jm b hb).1,λz=>?_,.inl hb,λx c e=>f4 x c (HY (I2.jn ok) e),λp hp z=>?_⟩
   ·rcases dZ.mp (I2.kH b z) with q|q
    ·exact f1 q
    ·exact f2 q
   ·have e:p=(s2.heap.objs.size,oD):=by simpa[ir] using hp
    subst e;exact(Jm b hb).2 z.symm
  refine PV (λn s'=>∃(i:Nat) (τ:St) (acc:List V) (us:List Value) (c:Nat) (H':Hp),Vals acc us/\acc.length<=sizeLine/\
   Inv (ir X scope M H3.objs.size s2 H2 fp) [(s2.heap.objs.size,{ cls:=.type "list",data:=.seq us.toArray c})] τ H' s'/\tn i s'.heap/\(∀b∈fp,H' b=none)/\n=N - i/\i<=N/\W i τ acc H') ?_ N
   ⟨0,iG k aL Z,[],[],0,H2,.nil,mE _,I3,Pu,λb hb=>(f2 b hb).1,rfl,mE _,w0⟩
  rintro n s3 ⟨i,τ,acc,us,c,H',rv,hlen,I,st,fr,rfl,Zb,w⟩;have pinD:=(I.pin (s2.heap.objs.size,{ cls:=.type "list",data:=.seq us.toArray c}) (by simp[ir]))
  rcases turn i τ acc H' Zb w with⟨stop,qn⟩|⟨fq,go,step⟩
  ·refine ck (T.done (ir X scope M H3.objs.size s2 H2 fp) rfl rfl rfl hc i _ s3 τ H' (λ_ _=>False) I (n8 fr) st stop) λr s4 ⟨hr,I4⟩=>?_
   subst hr;have rT:=(I4.pin (s2.heap.objs.size,{ cls:=.type "list",data:=.seq us.toArray c}) (by simp[ir]))
   have qH:∀b∈fp,(b∈X.ex\/X.s₀.heap.objs.size<=b)/\b≠X.env.locals/\(∀x c,X.env.cells.lookup x=some c->c≠b)/\∀p∈X.pn++pins,p.1≠b:=λb hb=>by
    obtain⟨f0,f1,f2,f3,f4,f5⟩:=f2 b hb;exact⟨f3,f1,f4,f5⟩
   have J1:Inv X pins Z H' s4:=I2.AZ (ch:=fp) I4.os I4.base I4.cx I4.bare qH;have young:X.s₀.heap.objs.size<=s2.heap.objs.size:=I2.sz;have apart:∀a,s2.heap.objs.size<=a->a≠X.env.locals/\(∀x c,X.env.cells.lookup x=some c->c≠a)/\∀p∈X.pn++pins,p.1≠a:=λa ha=>
    ⟨CV (i_ I2.lt ha),λx c e z=>by
     obtain⟨v,q⟩:=I2.cell x c e;exact absurd (i_ q.lt (by rw[z];exact ha)) (o8 _),λp hp z=>absurd (i_ (fF (I2.pin p hp).1) (by rw[z];exact ha)) (o8 _)⟩
   have aD:=apart _ (cP _);have aC:=apart _ ua;have J2:Inv X pins Z (upd H' s2.heap.objs.size (.lst acc)) s4:=J1.CQ rT.2.1 young aD.1 aD.2.1 aD.2.2 ⟨hlen,us,c,rv,rT.1⟩;obtain⟨m,hn,_⟩:=I4.loc;have YW:H' H3.objs.size=none:=I4.free;refine YY _ _ s4 H' acc J2 ⟨?_,aC.1,I2.xw ua,.inr (lQ young ua),aC.2.1,aC.2.2⟩ ⟨m,hn⟩ rT.2.1 qn;rw[cK (Ne.symm BI)];exact YW
  ·refine ck (T.item (ir X scope M H3.objs.size s2 H2 fp) rfl rfl rfl hc i _ s3 τ H' (λ_ _=>False) I (n8 fr) st go) λr s4 ⟨u,hr,h4⟩=>?_
   subst hr;refine ck h4 λ_ s5 hh=>?_
   obtain⟨x,H5,I5,r5,y5,xO,Jp⟩:=hh;have FN:=I5.pinned (n8 Jp) (T.obj _ _ xO);refine ck (hg _ _ _ _ _ s5 τ H5 x u _ FN r5 (step x H5 y5)) λ_ s6 hh=>?_
   obtain⟨τ6,H6,I6,q6⟩:=hh;refine ck (ht _ _ _ _ _ s6 τ6 H6 _ I6 q6) λb s7 hh=>?_
   obtain⟨H7,I7,q7⟩:=hh;have rJ:∀{s':Shared} {τ':St} {Hn:Hp},Inv (ir X scope M H3.objs.size s2 H2 fp) ([(s2.heap.objs.size,{ cls:=.type "list",data:=.seq us.toArray c})]++AF fp s5.heap) τ' Hn s'->tn (i+1) s'.heap/\∀b∈fp,Hn b=none:=λ{s' τ' Hn} I'=>by
    refine⟨T.keep _ _ _ xO λb hb o e=>(I'.pin (b,o) (ja _ (ja _ (zO hb e)))).1,λb hb=>?_⟩
    obtain⟨o,e,d⟩:=T.obj _ _ xO b hb;exact(I'.pin (b,o) (ja _ (ja _ (zO hb e)))).2.1
   cases b with
   |false=>
    rw[if_neg kU] at q7;show ∃m,m < N - i/\_;obtain⟨st7,Jq⟩:=rJ I7;exact⟨N - (i+1),by lia,i+1,τ6,acc,us,c,H7,rv,hlen,I7.gm,st7,Jq,rfl,fq,q7⟩
   |true=>
    rw[if_pos rfl] at q7;show wpAny _ _ (eval elt _) _ _ s7;refine ck (he _ _ _ _ _ s7 τ6 H7 _ I7 q7) λv s8 hh=>?_
    obtain⟨y,H8,I8,r8,Zg,w8⟩:=hh;obtain⟨st8,YC⟩:=rJ I8;have lK:=(I8.pin (s2.heap.objs.size,{ cls:=.type "list",data:=.seq us.toArray c}) (by simp[ir]))
    have Zt:=rv.length;refine append_at (hsz:=by show us.toArray.size<=sizeLine;rw[eI,<-Zt];exact hlen) lK.1 λh9 Pp e9=>?_
    have Yu:h9.get? s2.heap.objs.size=some { cls:=.type "list",data:=.seq (us++[v]).toArray (c+1)}:=by rw[e9,List.push_toArray]
    have PQ:=I8.gm;have BJ:s2.heap.objs.size≠(ir X scope M H3.objs.size s2 H2 fp).env.locals:=lK.2.2.1;have nx:∀(b:Addr),H8 b≠none->b≠s2.heap.objs.size:=λb hb z=>hb (by rw[z];exact lK.2.1)
    refine⟨N - (i+1),by lia,i+1,τ6,acc++[y],us++[v],c+1,H8,rv.append (.cons r8 .nil),by rw[gK,s9];exact Zg,?_,?_,YC,rfl,fq,w8⟩
    ·have I9:Inv (ir X scope M H3.objs.size s2 H2 fp) [] τ6 H8 s8:=PQ.j5 (λp hp=>absurd hp (by simp))
     have PN:Inv (ir X scope M H3.objs.size s2 H2 fp) [] τ6 H8 { s8 with heap:=h9}:=I9.turned (t':=s8.toks) (λb o hb e=>(Pp.2 b hb).trans e) lK.2.1 BJ (.inr (cP _))
      (λx cc e z=>by
       obtain⟨v',q⟩:=I2.cell x cc (HY (I2.jn ok) e);exact absurd (i_ q.lt (by rw[z];exact cP _)) (o8 _)) (λp hp=>absurd hp (by simp[ir]))
     refine PN.j5 λp hp=>?_
     have e:p=(s2.heap.objs.size,{ cls:=.type "list",data:=.seq (us++[v]).toArray (c+1)}):=by simpa using hp
     subst e;exact⟨Yu,lK.2.1,BJ,lK.2.2.2.1,λv' z=>by cases z⟩
    ·exact T.keep _ _ _ st8 λb hb o e=>Pp.extBut b o (Jm b hb).2 e
 exact codeAny_compStart_list (loop _ rfl) (T.self _ 0 _ _ _ Pu (loop _ rfl))
def r6(wi:TI)(g:TG)(tt:TT)(te:TE)(k:Nat)(aL:List Nat):TE:=λZ H Q=>wi Z H λJ H1=>j8 J g tt te (iG k aL Z) H1 λacc H'=>∀l,H' l=none->Q (.ref l) (upd H' l (.lst acc))
theorem UX(hc:X.calm=true)(ok:bJ X scope M k aL)(hi:PI X tg iter wi)
  (hg:∀C s H fp,PG (ir X scope M C s H fp) tg g) (ht:∀C s H fp,pA (ir X scope M C s H fp) ifs tt) (he:∀C s H fp,PE (ir X scope M C s H fp) elt te)
  (hs:∀x,foldedSetIterable iter X.env x=pure x:=by intro _;rfl):PE X (.ListComp elt [⟨tg,iter,ifs,0⟩] scope pos) (r6 wi g tt te k aL):=by
 intro pins s Z H Q I h;rw[eval_ListComp];refine wpAny_comprehension_free (use:=none) rfl hs (KS (I.jn ok)) ok.kind ok.names (ck (hi pins s Z H _ I h) λv s1 h1=>ck h1 λE5 s2 h2=>?_)
 obtain⟨it,fp,tn,J,H2,e,I2,T,vC,f2,hW⟩:=h2;subst e;refine LF (RR:=λacc C=>compPost (model X.prog X.w) X.A X.xe none (EP X pins Z Q) acc C) I2 hc ok T vC f2 hg ht he hW ?_
 intro D C s' H' acc I' fC ⟨m,hn⟩ hD hq;refine⟨m,hn,λh' sb=>?_⟩
 obtain⟨f0,f1,f2,f3,f4,f5⟩:=fC;exact⟨.ref D,_,I'.turned (t':=s'.toks) (λb o hb e=>(sb.2 b hb).trans e) f0 f1 f3 f4 f5,rfl,hq D hD⟩
def CD(wi:TI)(g:TG)(tt:TT)(te:TE)(k:Nat)(aL:List Nat)(i:Nat):TS:=λD Z H=>r6 wi g tt te k aL Z H λv H'=>D.nx (Z.set i (some v)) H'
theorem MZ{i:Nat}{px ni:Pos}(hc:X.calm=true)(ok:bJ X scope M k aL)(hN:X.N.Nodup)(xg:X.N[i]?=some x)(hx:Loc X.env.scope x)(hi:PI X tg iter wi)
  (hg:∀C s H fp,PG (ir X scope M C s H fp) tg g) (ht:∀C s H fp,pA (ir X scope M C s H fp) ifs tt) (he:∀C s H fp,PE (ir X scope M C s H fp) elt te)
  (BY:swapsWith (.ListComp elt [⟨tg,iter,ifs,0⟩] scope pos) (some (.Name x px)) ni.line X.env=pure true)
  (hs:∀x,foldedSetIterable iter X.env x=pure x:=by intro _;rfl) (hf:X.fn x=true\/X.env.scope.names.lookup x=some .local := by first|exact .inl rfl|exact .inr rfl|assumption) :
  PS X (.Assign [.Name x px] (.ListComp elt [⟨tg,iter,ifs,0⟩] scope pos) ni) (CD wi g tt te k aL i):=by
 intro pins s Z H D I h;rw[exec_Assign_Name_used _ _ _ _ BY];refine wpAny_bind (wpAny_standAt (wpAny_bind ?_));show wpAny _ X.A (do let _ <-comprehension (.ListComp elt [⟨tg,iter,ifs,0⟩] scope pos) scope X.env _ (newList []) false (eval iter X.env) (some (assign (.Name x px) X.env))) _ _ s
 refine wpAny_bind (wpAny_mono (wpAny_comprehension_free (use:=some (assign (.Name x px) X.env)) (Q:=λ_ s'=>SP X pins D .next s') rfl hs (KS (I.jn ok)) ok.kind ok.names
  (ck (hi pins s Z H _ I h) λv s1 h1=>ck h1 λE5 s2 h2=>?_)) (λ_ s' hq=>wpAny_pure (wpAny_pure hq)) λ_ _ e=>e)
 obtain⟨it,fp,tn,J,H2,e,I2,T,vC,f2,hW⟩:=h2;subst e;refine LF (RR:=λacc C=>compPost (model X.prog X.w) X.A X.xe (some (assign (.Name x px) X.env)) (λ_ s'=>SP X pins D .next s') acc C) I2 hc ok T vC f2 hg ht he hW ?_
 intro D' C s' H' acc I' fC ⟨m,hn⟩ hD hq;obtain⟨f0,f1,f2,f3,f4,f5⟩:=fC;show wpAny _ X.A (assign (.Name x px) X.env (.ref D')) _ _ _;refine wpAny_assign_Name (Ly I' hN xg hx (v:=.ref D') rfl (λCC PM hh=>?_) hf)
 obtain⟨a,sb,ha⟩:=hh;have YV:C≠a:=by
  rcases ha with e|e
  ·rw[e];exact f1
  ·exact λz=>f4 _ _ e z.symm
 refine⟨m,hn.sameBut sb YV,λh' Z9=>⟨_,_,PM.turned (t':=CC.toks) (λb o hb e=>(Z9.2 b hb).trans e) f0 f1 f3 f4 f5,hq D' hD⟩⟩
end
noncomputable def kY(c:Nat):Str:=⟨#[c]⟩
noncomputable def zI(x:Str):It:=⟨λi _=>i < x.cps.size,λi H v H'=>H'=H/\∃c,x.cps[i]?=some c/\v=.str (kY c),λi _=>x.cps.size<=i⟩
theorem Tg(it:Addr)(x:Str)(t:Tok)(ty:String)(kr:ty="str_ascii_iterator"\/ty="str_iterator"):Turn P w K tg (zI x) [it] it (λi h=>h.IsStrIter it ty x t i) where
 mem:=by simp
 obj:=λi h st b hb=>by
  have e:b=it:=by simpa using hb
  subst e;obtain⟨o,e,c,d⟩:=st;exact⟨o,e,λv z=>by rw[d] at z;cases z⟩
 keep:=λi h h' st k=>by
  obtain⟨o,e,c,d⟩:=st;exact⟨o,k it (by simp) o e,c,d⟩
 item:=by
  intro X hP hw hK hc i pins s Z H E I hf st hg;subst hP hw hK;have hi:i < x.cps.size:=hg;obtain⟨f0,f1,f2,f3,f4,f5⟩:=hf it (by simp)
  have fin:∀h',h'.IsStrIter it ty x t (i+1)->Heap.SameBut it s.heap h'->∃u,some (Value.str ⟨#[x.cps[i]]⟩ s.toks)=some u/\
    wpAny (model X.prog X.w) X.A (letOwnedTupleGo tg (.ref it) u) (λ_ s2=>∃y H',Inv X pins Z H' s2/\RelV y u/\(zI x).vQ i H y H'/\s2.heap.IsStrIter it ty x t (i+1)/\∀b∈[it],H' b=none) E { s with heap:=h',toks:=s.toks+1}:=λh' nI sb=>by
   have I1:Inv X pins Z H { s with heap:=h',toks:=s.toks+1}:=I.turned (λb o hb e=>(sb.2 b hb).trans e) f0 f1 f3 f4 f5
   obtain⟨o,e,c,d⟩:=id nI;refine⟨_,rfl,EE (s:={ s with heap:=h',toks:=s.toks+1}) e c d (by rcases kr with z|z <;> subst z <;> decide) ⟨.str (kY x.cps[i]),H,I1,⟨_,rfl⟩,⟨rfl,_,by simp[hi],rfl⟩,nI,λb hb=>(hf b hb).1⟩⟩
  rcases kr with z|z
  ·subst z;exact wpAny_pyNext_ascii_item st (c:=x.cps[i]) (by simp[hi]) fin
  ·subst z;exact wpAny_pyNext_wide_item st (c:=x.cps[i]) (by simp[hi]) fin
 done:=by
  intro X hP hw hK hc i pins s Z H E I hf st hg;subst hP hw hK;have hi:x.cps.size<=i:=hg;obtain⟨f0,f1,f2,f3,f4,f5⟩:=hf it (by simp)
  rcases kr with z|z
  ·subst z;exact wpAny_pyNext_ascii_end (I.ok.hd hc) st (by simp;lia) λh' eb=>⟨rfl,I.turned (t':=s.toks) (λb o hb e=>eb b o hb e) f0 f1 f3 f4 f5⟩
  ·subst z;exact wpAny_pyNext_wide_end (I.ok.hd hc) st (by simp;lia) λh' eb=>⟨rfl,I.turned (t':=s.toks) (λb o hb e=>eb b o hb e) f0 f1 f3 f4 f5⟩
 self:=λ_ _ _ _ _ st h=>by
  rcases kr with z|z
  ·subst z;exact wpAny_pyIter_striter_ascii st h
  ·subst z;exact wpAny_pyIter_striter_wide st h
def B6(tl:TE):TI:=λZ H R=>tl Z H λx H1=>∃z,x=.str z/\R (zI z) H1
theorem WO(hl:PE X l tl):PI X tg l (B6 tl):=by
 intro pins s Z H R I h;refine ck (hl pins s Z H _ I h) λv s1 hh=>?_
 obtain⟨x,H1,I1,r1,q1⟩:=hh;obtain⟨z,e,q⟩:=q1;subst e;obtain⟨t,rfl⟩:=r1;have key:∀ty:String,ty="str_ascii_iterator"\/ty="str_iterator"->FU X pins Z tg R (.ref s1.heap.objs.size) { s1 with heap:=s1.heap.push { cls:=.type ty,data:=.fields #[.str z t,.int 0 0]}}:=λty kr=>by
  refine⟨s1.heap.objs.size,[s1.heap.objs.size],_,_,H1,rfl,I1.kept (t':=s1.toks) λb o e=>iK _ e,Tg _ z t ty kr,⟨_,mG _ (by rcases kr with e|e <;> subst e <;> rfl),rfl,rfl⟩,λb hb=>?_,q⟩
  have e:b=s1.heap.objs.size:=by simpa using hb
  subst e;exact I1.nW (cP _) (I1.cx.fresh (cP _))
 cases ha:z.cps.all (· < 128)
 ·exact wpAny_pyIter_wide ha (key _ (.inr rfl))
 ·exact wpAny_pyIter_ascii ha (key _ (.inl rfl))
theorem LG{xs:List V}(Pv:Nat->St->List V->Hp->Prop)(h0:Pv 0 τ [] H)(hl:∀i τ acc H,i<=xs.length->Pv i τ acc H->dq K H a xs)
  (hs:∀i x τ acc H,xs[i]?=some x->Pv i τ acc H->g x τ H λτ2 H2=>tt τ2 H2 λb H3=>if b=true then te τ2 H3 λv H4=>acc.length < sizeLine/\Pv (i+1) τ2 (acc++[v]) H4 else Pv (i+1) τ2 acc H3)
  (hd:∀τ acc H,Pv xs.length τ acc H->Fin acc H):j8 (uH K a) g tt te τ H Fin:=by
 refine⟨xs.length,Pv,h0,λi τ acc H hi p=>?_⟩
 have q:=hl i τ acc H hi p;by_cases fq:i < xs.length
 ·refine .inr ⟨fq,⟨xs,xs[i],q,by simp[fq]⟩,λx H' y=>?_⟩
  obtain⟨e,y⟩:=y;subst e;exact hs i x τ acc _ (y xs q) p
 ·have e:i=xs.length:=by lia
  subst e;exact .inl ⟨⟨xs,q,cP _⟩,hd τ acc H p⟩
theorem QH{lo:Int}(Pv:Nat->St->List V->Hp->Prop)(h0:Pv 0 τ [] H)
  (hs:∀i τ acc H,i < n->Pv i τ acc H->g (.int (lo+i)) τ H λτ2 H2=>tt τ2 H2 λb H3=>if b=true then te τ2 H3 λv H4=>acc.length < sizeLine/\Pv (i+1) τ2 (acc++[v]) H4 else Pv (i+1) τ2 acc H3)
  (hd:∀τ acc H,Pv n τ acc H->Fin acc H):j8 (uI lo n) g tt te τ H Fin:=by
 refine⟨n,Pv,h0,λi τ acc H hi p=>?_⟩
 by_cases fq:i < n
 ·refine .inr ⟨fq,fq,λx H' y=>?_⟩
  obtain⟨e,y⟩:=y;subst e y;exact hs i τ acc _ fq p
 ·have e:i=n:=by lia
  subst e;exact .inl ⟨cP _,hd τ acc H p⟩
theorem Th(Pv:Nat->St->List V->Hp->Prop)(h0:Pv 0 τ [] H)
  (hs:∀i c τ acc H,x.cps[i]?=some c->Pv i τ acc H->g (.str (kY c)) τ H λτ2 H2=>tt τ2 H2 λb H3=>if b=true then te τ2 H3 λv H4=>acc.length < sizeLine/\Pv (i+1) τ2 (acc++[v]) H4 else Pv (i+1) τ2 acc H3)
  (hd:∀τ acc H,Pv x.cps.size τ acc H->Fin acc H):j8 (zI x) g tt te τ H Fin:=by
 refine⟨x.cps.size,Pv,h0,λi τ acc H hi p=>?_⟩
 by_cases fq:i < x.cps.size
 ·refine .inr ⟨fq,fq,λv H' y=>?_⟩
  obtain⟨e,c,hc,y⟩:=y;subst e y;exact hs i c τ acc _ hc p
 ·have e:i=x.cps.size:=by lia
  subst e;exact .inl ⟨cP _,hd τ acc H p⟩
noncomputable def M0(names outer:List (Str×NameKind))(N M:List Str)(k:Nat)(aL:List Nat):Bool:=
 names.all (λy=>y.2 != .cell) && (names.all (λy=>y.2 != .free || (outer.lookup y.1 == some .cell || outer.lookup y.1 == some .free)) && (names.all (λy=>y.2 != .local || names.lookup y.1 == some .local) &&
  (M.length == k+aL.length && (List.range aL.length).all (λj=>match aL[j]?,M[k+j]? with|some i,some x=>N[i]? == some x && names.lookup x == some .free|_,_=>true))))
theorem bJ.of{M:List Str}{aL:List Nat}(outer:List (Str×NameKind))(N:List Str)(h:M0 scope.names outer N M k aL=true)(ho:X.env.scope.names=outer:=by rfl)(hN:X.N=N:=by rfl)(hk:scope.kind=.function:=by rfl):bJ X scope M k aL:=by
 unfold M0 at h;simp only[qb,og,Bool.or_eq_true,bne_iff_ne,ne_eq,beq_iff_eq] at h;obtain⟨h1,h2,h3,h4,h5⟩:=h;refine⟨hk,h1,λy hy e=>?_,λy hy e=>?_,h4,λj i x e1 e2=>?_⟩
 ·rcases h2 y hy with z|z
  ·exact absurd e z
  ·show X.env.scope.names.lookup y.1=_\/X.env.scope.names.lookup y.1=_;rw[ho];exact z
 ·rcases h3 y hy with z|z
  ·exact absurd e z
  ·exact z
 ·have hj:j < aL.length:=(iq.mp e1).1;have:=h5 j (mF.mpr hj);rw[e1,e2] at this;simp only[qb,beq_iff_eq] at this;rw[hN];exact this
section
variable {X:Cx}
theorem WQ:fH X (compareOp .Is) (λx y H Q=>∃a b,x=.bl a/\y=.bl b/\Q (.bl (a == b)) H):=by
 intro pins s Z H x y v u Q I rx ry h;obtain⟨a,b,rfl,rfl,q⟩:=h;cases rx;cases ry;exact is_bool (tT I q rfl)
theorem UY:fH X (compareOp .IsNot) (λx y H Q=>∃a b,x=.bl a/\y=.bl b/\Q (.bl (a != b)) H):=by
 intro pins s Z H x y v u Q I rx ry h;obtain⟨a,b,rfl,rfl,q⟩:=h;cases rx;cases ry;exact isnot_bool (tT I q rfl)
def AG(K:L2.FG)(H:Hp):V->String->Prop
 |.aI,n=>n="NoneType"
 |.bl _,n=>n="bool"
 |.int _,n=>n="int"
 |.str _,n=>n="str"
 |.ref a,n=>(n="list"/\∃xs,dq K H a xs)\/(n="tuple"/\∃xs,iL K H a xs)
 |_,_=>False
noncomputable def iH(k T:String):Bool:=k == T || (k == "bool" && T == "int")
theorem Ti:cJ X (.builtin "isinstance") (λxs H Q=>∃x k T,xs=[x,.ty T]/\AG X.K H x k/\(T="int"\/T="str"\/T="bool"\/T="list"\/T="tuple")/\Q (.bl (iH k T)) H):=by
 intro pins s Z H xs us Q I r h;obtain⟨x,k,T,rfl,hk,hT,q⟩:=h;obtain⟨u,w',rfl,rx,ry⟩:=vals2 r;cases ry;have fin:∀b,b=iH k T->EP X pins Z Q (.bool b) s:=λb e=>tT I q e.symm
 have dF:∀b,b=iH k T->EP X pins Z Q (.bool b) { s with toks:=s.toks+1}:=λb e=>tT (I.tok _) q e.symm
 cases x with
 |aI=>
  cases rx;have hk:k="NoneType":=hk;subst hk;rcases hT with rfl|rfl|rfl|rfl|rfl
  ·exact IsiPair.NoneType_int (dF _ (by decide))
  ·exact IsiPair.NoneType_str (dF _ (by decide))
  ·exact IsiPair.NoneType_bool (dF _ (by decide))
  ·exact IsiPair.NoneType_list (dF _ (by decide))
  ·exact IsiPair.NoneType_tuple (dF _ (by decide))
 |bl b=>
  cases rx;have hk:k="bool":=hk;subst hk;rcases hT with rfl|rfl|rfl|rfl|rfl
  ·exact IsiPair.bool_int (fin _ (by decide))
  ·exact IsiPair.bool_str (dF _ (by decide))
  ·exact IsiPair.bool_bool (fin _ (by decide))
  ·exact IsiPair.bool_list (dF _ (by decide))
  ·exact IsiPair.bool_tuple (dF _ (by decide))
 |int i=>
  obtain⟨t,rfl⟩:=rx;have hk:k="int":=hk;subst hk;rcases hT with rfl|rfl|rfl|rfl|rfl
  ·exact IsiPair.int_int (fin _ (by decide))
  ·exact IsiPair.int_str (dF _ (by decide))
  ·exact IsiPair.int_bool (dF _ (by decide))
  ·exact IsiPair.int_list (dF _ (by decide))
  ·exact IsiPair.int_tuple (dF _ (by decide))
 |str z=>
  obtain⟨t,rfl⟩:=rx;have hk:k="str":=hk;subst hk;rcases hT with rfl|rfl|rfl|rfl|rfl
  ·exact IsiPair.str_int (dF _ (by decide))
  ·exact IsiPair.str_str (fin _ (by decide))
  ·exact IsiPair.str_bool (dF _ (by decide))
  ·exact IsiPair.str_list (dF _ (by decide))
  ·exact IsiPair.str_tuple (dF _ (by decide))
 |ref a=>
  cases rx;rcases hk with⟨hk,ys,hs⟩|⟨hk,ys,hs⟩
  ·subst hk;obtain⟨aG,_,⟨o,n,e,hc,_⟩,_⟩:=I.list hs;rcases hT with rfl|rfl|rfl|rfl|rfl
   ·exact IsiPair.list_int e hc (dF _ (by decide))
   ·exact IsiPair.list_str e hc (dF _ (by decide))
   ·exact IsiPair.list_bool e hc (dF _ (by decide))
   ·exact IsiPair.list_list e hc (fin _ (by decide))
   ·exact IsiPair.list_tuple e hc (dF _ (by decide))
  ·subst hk;obtain⟨aG,_,⟨o,e,hc,_⟩,_⟩:=I.tuple hs;rcases hT with rfl|rfl|rfl|rfl|rfl
   ·exact IsiPair.tuple_int e hc (dF _ (by decide))
   ·exact IsiPair.tuple_str e hc (dF _ (by decide))
   ·exact IsiPair.tuple_bool e hc (dF _ (by decide))
   ·exact IsiPair.tuple_list e hc (dF _ (by decide))
   ·exact IsiPair.tuple_tuple e hc (fin _ (by decide))
 |uX _=>exact False.elim hk
 |u_ _=>exact False.elim hk
 |ty _=>exact False.elim hk
theorem qE{n:String}(hg:Gl X x)(hm:X.mg x=none)(hv:bootBuiltins x=some (.type n))(hn:x≠"__name__":=by decide)(hd:(x == ("__debug__":Str))=false:=by decide):PE X (.Name x pos) (tC (.ty n)):=
 UA hg hm hv rfl hn hd
theorem Qu(aG:List Value)(bs:List Bool)(hv:Vals (bs.map V.bl) aG):TruthOf prog w A (λi v=>aG.toArray[i]?=some v) (λi=>bs.getD i false):=by
 intro i v s Q E hP hQ;have OU:aG[i]?=some v:=by simpa using hP
 have hl:=hv.length;rw[bB] at hl;have hi:i < aG.length:=(iq.mp OU).1;have hb:(bs.map V.bl)[i]?=some (.bl bs[i]):=by simp[show i < bs.length by lia]
 obtain⟨u,hu,ru⟩:=hv.get hb;rw[OU] at hu;cases hu;cases ru;have e:bs.getD i false=bs[i]:=by simp[show i < bs.length by lia]
 have OV:Q (bs.getD i false) s:=hQ;rw[e] at OV;exact wpAny_truthy_bool OV
theorem RC(bs:List Bool):(List.range bs.length).all (λi=>bs.getD i false)=bs.all id:=by
 rw[zr,og,og];constructor
 ·intro h b hb;obtain⟨i,hi,e⟩:=List.mem_iff_getElem.mp hb;have:=h i (mF.mpr hi);simp[hi] at this;rw[<-e];exact this
 ·intro h i hi;have hi:=mF.mp hi;have:=h bs[i] (se hi);simp[hi];exact this
theorem RD(hc:X.calm=true):cJ X (.builtin "all") (λxs H Q=>∃(a:Addr) (bs:List Bool),xs=[.ref a]/\dq X.K H a (bs.map V.bl)/\Q (.bl (bs.all id)) H):=by
 intro pins s Z H xs us Q I r h;obtain⟨a,bs,rfl,hs,q⟩:=h;obtain⟨u,rfl,ru⟩:=vals1 r;cases ru;obtain⟨aG,rv,p,hz⟩:=I.list hs;have hl:=rv.length;rw[bB] at hl;refine call_all_walk (wpAny_pyIter_list p.isList ?_);have lH:a≠s.heap.objs.size:=by obtain⟨o,n,e,_⟩:=p;exact i8 (fF e)
 refine⟨s.heap.objs.size,_,_,aG.toArray.size,_,_,λi=>bs.getD i false,rfl,Walks.list (A:=X.A.in1) (show X.A.in1.handled=none from I.ok.hd hc) _ a lH aG.toArray,⟨⟨_,mG _ rfl,rfl,rfl⟩,?_⟩,Qu aG bs rv,λh' tk hk=>?_⟩
 ·exact p.isList.at λo e=>iK _ e
 ·have e1:aG.toArray.size=bs.length:=by rw[eI,<-hl]
  refine⟨.bl (bs.all id),H,I.kept (h':=h') (t':=tk) (λb o e=>hk b o (λz=>absurd (i_ (fF e) (Nat.le_of_eq (qO.mp z).symm)) (o8 _)) (iK _ e)),?_,q⟩
  show Value.bool _=Value.bool _;rw[e1,RC]
end
structure bZ (K:L2.FG) (mg:Str->Option Value) (x:Str) (st:Stmt) (f:Addr) (fd:FuncData) (ps:List Str):Prop where
 fn:e_ K x x st f fd
 mg:mg x=some (.ref f)
 bd:Binds K fd ps []
section
variable {X:Cx} {k:Nat} {f:Addr} {fd:FuncData} {ps:List Str} {sp:Sp} {x:Str} {p pos:Pos} {e:Expr} {es:List Expr} {t:TA} {st:Stmt}
theorem vn(D:bZ X.K X.mg x st f fd ps)(F:aT X.prog X.w X.K X.mg X.base dz k f fd ps sp)(hr:cA k X.A)(ha:PA X (e::es) t)(hg:Gl X x:=by rfl)(lW:(x == ("__debug__":Str))=false:=by decide)
  (he:starEach (e::es) X.env=(false,eval e X.env)::starEach es X.env:=by rfl) (jM:(backTo pos (starEach es X.env)).any (·.1)=false:=by rfl) :
  PE X (.Call (.Name x p) (e::es) [] pos) (o7 sp [] E1 t):=UN F hr hg D.mg D.fn.kp D.bd .nil oX ha lW he jM
end
section
variable {X:Cx} {a b:Expr} {rest:List Expr} {pos:Pos} {ta tb:TE} {tA tB:TT}
end
theorem aH.put{H':Hp}{o:HO}(s:aH H H')(h:H' a=none):aH H (upd H' a o):=λb u e=>by
 have z:=s b u e;rw[cK (lU z h)];exact z
theorem nu{o:HO}(h:H a=none):aH H (upd H a o):=(aH.refl H).put h
theorem Tj{α:Type}{xs:List α}{k:Int}(d:α)(h0:0<=k)(hk:k < xs.length):dw xs k=some (xs.getD k.toNat d):=by
 have y8:k.toNat < xs.length:=by lia
 have e:xs[k.toNat]?=some (xs.getD k.toNat d):=by simp[y8]
 have z:=qt e
 rwa [show((k.toNat:Nat):Int)=k by lia] at z
theorem NW:bootBuiltins "int"=some (.type "int"):=by decide +kernel
theorem Iy:bootBuiltins "str"=some (.type "str"):=by decide +kernel
theorem UZ:bootBuiltins "bool"=some (.type "bool"):=by decide +kernel
theorem uP:bootBuiltins "list"=some (.type "list"):=by decide +kernel
theorem DI:bootBuiltins "tuple"=some (.type "tuple"):=by decide +kernel
theorem ra:bootBuiltins "isinstance"=some (.builtin "isinstance"):=by decide +kernel
theorem WR:bootBuiltins "all"=some (.builtin "all"):=by decide +kernel
theorem mL:bootBuiltins "len"=some (.builtin "len"):=by decide +kernel
theorem NX(h:n<=1000):n<=sizeLine:=lQ h (by decide)
section
variable {X:Cx}
noncomputable def pR(xs:List V)(k:Nat)(y:V):List V:=xs.take k++y::xs.drop k
theorem Qv(xs:List V)(k:Nat)(y:V):(pR xs k y).length=xs.length+1:=by
 unfold pR;rw[gK,jV,nJ,vK];lia
def M3:V->List V->Hp->VK->Prop:=λx vs H Q=>∃l xs i y,x=.ref l/\vs=[.int i,y]/\H l=some (.lst xs)/\0<=i/\i < 2 ^ 62/\xs.length < sizeLine/\Q .aI (upd H l (.lst (pR xs i.toNat y)))
theorem LH:qf X "list.insert" M3:=by
 intro pins s Z H x vs v us Q I rx rv h;obtain⟨l,xs,i,y,rfl,rfl,hH,h0,hi,hz,q⟩:=h;cases rx;obtain⟨u,u',rfl,⟨t,rfl⟩,ru⟩:=rv.two;obtain⟨z,aG,n,r,hl,e⟩:=I.ug hH;have JE:¬(!Builtin.List.listFitsIndex i)=true:=by
  unfold Builtin.List.listFitsIndex;simp;lia
 refine call_meets F.slot_list_insert ⟨_,e,rfl⟩ F.entry_list_insert (F.args_list_insert_3 _ _ _) (PySem.AutoSeq1.list_insert_list_int_val_1 l aG.toArray n i t u' JE (by rw[eI];lia)) ⟨e,?_⟩
 refine⟨.aI,_,I.uf (its':=aG.take i.toNat++u'::aG.drop i.toNat) hH e ?_ ((r.take i.toNat).append (.cons ru (r.drop i.toNat))) ?_,rfl,q⟩
 ·have h1:¬i < 0:=by lia
  simp only[h1,if_false];apply Array.ext';simp only[Array.toList_append,Array.toList_push,Array.toList_extract,eI];rw[List.extract_eq_drop_take,List.extract_eq_drop_take];have e1:min i.toNat aG.length - 0=min i.toNat aG.length:=by lia
  rw[e1];simp only[nq];have e2:aG.take (min i.toNat aG.length)=aG.take i.toNat:=by rw[List.take_eq_take_iff];lia
  rw[e2];by_cases hc:i.toNat<=aG.length
  ·rw[Nat.min_eq_left hc,List.take_of_length_le (l:=List.drop i.toNat aG) (by rw[vK];lia)]
   simp
  ·have hc:aG.length<=i.toNat:=by lia
   rw[Nat.min_eq_right hc,KH (cP _),KH hc];simp
 ·show(pR xs i.toNat y).length<=sizeLine;rw[Qv];lia
noncomputable def zH(a c:Int)(n:Nat):It:=⟨λi _=>i < n,λi H x H'=>H'=H/\x=.int (a+i * c),λi _=>n<=i⟩
theorem Qw(it:Addr)(a c:Int)(n:Nat):Turn P w K tg (zH a c n) [it] it (λi h=>IsRangeIter h it (a+(i:Nat) * c) ((n:Int) - (i:Nat)) c) where
 mem:=by simp
 obj:=λi h st b hb=>by
  have e:b=it:=by simpa using hb
  subst e;exact⟨_,st,λv z=>by
   have z':Data.fields _=Data.cell v:=z;cases z'⟩
 keep:=λi h h' st k=>k it (by simp) _ st
 item:=by
  intro X hP hw hK hc i pins s Z H E I hf st hg;subst hP hw hK;obtain⟨f0,f1,f2,f3,f4,f5⟩:=hf it (by simp)
  have W:=Walks.range (prog:=X.prog) (w:=X.w) (I.ok.hd hc) it a c n;refine W.item i s _ _ hg st λv h' tk hv nI kk=>?_
  obtain⟨t,rfl⟩:=hv;have I1:Inv X pins Z H { s with heap:=h',toks:=tk}:=I.turned (λb o hb e=>kk b o (by simpa using hb) e) f0 f1 f3 f4 f5
  exact⟨_,rfl,EE (s:={ s with heap:=h',toks:=tk}) (n:="range_iterator") nI rfl rfl (by decide) ⟨.int (a+i * c),H,I1,⟨t,rfl⟩,⟨rfl,rfl⟩,nI,λb hb=>(hf b hb).1⟩⟩
 done:=by
  intro X hP hw hK hc i pins s Z H E I hf st hg;subst hP hw hK;obtain⟨f0,f1,f2,f3,f4,f5⟩:=hf it (by simp)
  exact wpAny_pyNext_range_end (I.ok.hd hc) st (by have:n<=i:=hg;lia) λh' eb=>⟨rfl,I.turned (t':=s.toks) (λb o hb e=>eb b o hb e) f0 f1 f3 f4 f5⟩
 self:=λ_ _ _ _ _ st h=>wpAny_pyIter_rangeiter st h
theorem QI{a c:Int}{tb:TS}{D:Ends}(Pv:Nat->St->Hp->Prop)(h0:Pv 0 Z H)
  (hs:∀i Z H,i < n->Pv i Z H->g (.int (a+i * c)) Z H λZ2 H2=>tb { D with nx:=Pv (i+1),ct:=Pv (i+1),bk:=D.nx} Z2 H2) (hd:∀Z H,Pv n Z H->D.nx Z H) :
  ∃W:Nat->Nat->St->Hp->Prop,(∃m,W 0 m Z H)/\∀i m Z H,W i m Z H->
   ((zH a c n).stop i H/\D.nx Z H)\/((zH a c n).go i H/\∃N:St->Hp->Prop,(∀Z' H',N Z' H'->∃m',m' < m/\W (i+1) m' Z' H')/\∀x H',(zH a c n).vQ i H x H'->g x Z H' λZ2 H2=>tb { D with nx:=N,ct:=N,bk:=D.nx} Z2 H2):=by
 refine⟨λi m Z H=>m=n - i/\i<=n/\Pv i Z H,⟨n,by simp,mE _,h0⟩,?_⟩
 rintro i m Z H ⟨rfl,hi,p⟩;by_cases fq:i < n
 ·refine .inr ⟨fq,Pv (i+1),λZ' H' p'=>⟨n - (i+1),by lia,rfl,fq,p'⟩,λx H' y=>?_⟩
  obtain⟨e,y⟩:=y;subst e y;exact hs i Z _ fq p
 ·have e:i=n:=by lia
  subst e;exact .inl ⟨cP _,hd Z H p⟩
def Cz:V->Option Int->Option Int->Hp->VK->Prop:=λx lo hi H Q=>∃z,x=.str z/\z.length<=sizeLine/\Q (.str (Txt.slice z lo hi)) H
theorem xN:qU X Cz:=by
 intro pins s Z H x v vl vu lo hi sl Q I rx hs pl pu h;obtain⟨z,rfl,hz,q⟩:=h;obtain⟨t,rfl⟩:=rx;refine⟨"str",_,F.slot_str_getitem.lookup,typeIs_str _ _ _,?_⟩;have fin:∀t' k,EP X pins Z Q (.str (Txt.slice z lo hi) t') { s with toks:=k}:=λt' k=>⟨.str _,H,I.tok _,⟨_,rfl⟩,q⟩
 cases pl with
 |none=>
  cases pu with
  |none=>exact wpAny_getItem_str_slice (l:=none) (u:=none) (st:=none) hs rfl (post_val_or_str ⟨lQ (Txt.slice_le z _ _) hz,fin⟩)
  |int j tj=>exact wpAny_getItem_str_slice (l:=none) (u:=some (j,tj)) (st:=none) hs rfl (post_val_or_str ⟨lQ (Txt.slice_le z _ _) hz,fin⟩)
 |int i ti=>
  cases pu with
  |none=>exact wpAny_getItem_str_slice (l:=some (i,ti)) (u:=none) (st:=none) hs rfl (post_val_or_str ⟨lQ (Txt.slice_le z _ _) hz,fin⟩)
  |int j tj=>exact wpAny_getItem_str_slice (l:=some (i,ti)) (u:=some (j,tj)) (st:=none) hs rfl (post_val_or_str ⟨lQ (Txt.slice_le z _ _) hz,fin⟩)
theorem QJ:fH X (binaryOp .Mult) (λx y H Q=>∃z n,x=.str z/\y=.int n/\MulOk z n/\Q (.str (Txt.mul z n)) H):=by
 intro pins s Z H x y v u Q I rx ry h;obtain⟨z,n,rfl,rfl,hm,q⟩:=h;obtain⟨t,rfl⟩:=rx;obtain⟨t',rfl⟩:=ry;exact SB.mul hm λt' k=>⟨.str _,H,I.tok _,⟨_,rfl⟩,q⟩
end
inductive vS (K:L2.FG) (H:Hp):Nat->V->V->Bool->Prop
 |flat {d:Nat} {x y:V}:u9 x=true->u9 y=true->vS K H d x y (Yy x y)
 |same {d:Nat} {a:Addr}:vS K H d (.ref a) (.ref a) true
 |lst {d:Nat} {a b:Addr} {xs ys:List V} {e:Nat->Bool}:a≠b->dq K H a xs->dq K H b ys->xs.length=ys.length->(∀(i:Nat) x y,xs[i]?=some x->ys[i]?=some y->vS K H d x y (e i))->vS K H (d+1) (.ref a) (.ref b) ((List.range xs.length).all e)
 |lstN {d:Nat} {a b:Addr} {xs ys:List V}:a≠b->dq K H a xs->dq K H b ys->xs.length≠ys.length->vS K H (d+1) (.ref a) (.ref b) false
 |tup {d:Nat} {a b:Addr} {xs ys:List V} {e:Nat->Bool}:a≠b->iL K H a xs->iL K H b ys->(∀(i:Nat) x y,xs[i]?=some x->ys[i]?=some y->vS K H d x y (e i))->vS K H (d+1) (.ref a) (.ref b) ((List.range (min xs.length ys.length)).all e && xs.length == ys.length)
section
variable {X:Cx} {pins:List (Addr×Obj)} {Z:St} {H:Hp} {s:Shared}
theorem Vals.at{xs:List V}{us:List Value}(r:Vals xs us){j:Nat}(h:j < us.toArray.size):∃x,xs[j]?=some x/\RelV x us.toArray[j]:=by
 have hl:=r.length;have h':j < us.length:=by simpa using h
 have hx:xs[j]?=some xs[j]:=by simp[show j < xs.length by lia]
 obtain⟨u,hu,ru⟩:=r.get hx;have:us[j]?=some us[j]:=by simp[h']
 rw[this] at hu;cases hu;exact⟨xs[j],hx,by simpa using ru⟩
end
section
variable {X:Cx}
theorem Tn(K:L2.FG)(hK:X.K=K:=by rfl):pz X (xI K):=hK ▸ UT
theorem U4(K:L2.FG)(hK:X.K=K:=by rfl):pz X (xJ K):=hK ▸ WN
theorem Qa(K:L2.FG)(hK:X.K=K:=by rfl):cJ X (.builtin "len") (λxs H Q=>∃p ys,xs=[.ref p]/\(dq K H p ys\/iL K H p ys)/\Q (.int ys.length) H):=hK ▸ Ql
theorem To(K:L2.FG)(hK:X.K=K:=by rfl):qU X (xK K):=hK ▸ UU
theorem U5(K:L2.FG)(hK:X.K=K:=by rfl):qU X (xM K):=hK ▸ WM
theorem sk(K:L2.FG)(hK:X.K=K:=by rfl):cJ X (.builtin "isinstance") (λxs H Q=>∃x k T,xs=[x,.ty T]/\AG K H x k/\(T="int"\/T="str"\/T="bool"\/T="list"\/T="tuple")/\Q (.bl (iH k T)) H):=hK ▸ Ti
theorem Dl(K:L2.FG)(hK:X.K=K:=by rfl):cJ X (.type "list") (λxs H Q=>∃p ys,xs=[.ref p]/\(dq K H p ys\/iL K H p ys)/\∀l,H l=none->Q (.ref l) (upd H l (.lst ys))):=hK ▸ Qn
theorem RE(K:L2.FG){a:Expr}{ta:TE}(ha:PE X a ta)(he:∀whole,isTrue a X.env whole=(do let v <-whole;standAt a.pos;holding [v] (truthy v)))(hK:X.K=K:=by rfl):
  PT X a (λZ H Q=>ta Z H λx H'=>∃k,tH K x H' k/\Q k H'):=hK ▸ S6 ha he
theorem qX(K:L2.FG)(hl:PE X l tl)(hK:X.K=K:=by rfl):PI X tg l (oU K tl):=hK ▸ MW hl
end
theorem qv(hr:cA k A):A.units+40 < cLine:=KG (Nat.add_le_add_left (by decide:40<=64) _) hr.units
end L2
namespace Carry
open PySem L2
def SB(f:Addr)(H H':Hp):Prop:=∀b o,H b=some o->b≠f->H' b=some o
structure vT where
 ns:List Int
 pl:Int
 CF:Int
 mode:Int
 num:Int
noncomputable def BD(sl:Addr)(F:vT):HO:=.lst [.ref sl,.int F.pl,.int F.CF,.int F.mode,.int F.num]
structure FeedAt (H:Hp) (f sl:Addr) (F:vT):Prop where
 fo:H f=some (BD sl F)
 so:H sl=some (.lst (F.ns.map V.int))
 pos:0<=F.pl
 len:F.ns.length<=63
noncomputable def cellOf(F:vT):Int:=if 0 < F.ns.length then F.ns.getD (F.pl % F.ns.length).toNat 0+F.pl / F.ns.length * 31 else F.pl
structure az where
 name:Str
 long:Int
 ring:Bool
 outs:List Str
structure aU where
 aj:List az
 af:List Str
noncomputable def vD(xs:List Str):List V:=xs.map V.str
def WS(H:Hp)(v:V)(b:az):Prop:=∃p o,v=.ref p/\H p=some (.tup [.str b.name,.int b.long,.bl b.ring,.ref o])/\H o=some (.lst (vD b.outs))
structure HouseAt (H:Hp) (p pb pc:Addr) (refs:List V) (h:aU):Prop where
 top:H p=some (.tup [.ref pb,.ref pc])
 bl:H pb=some (.lst refs)
 ct:H pc=some (.lst (vD h.af))
 each:Paired (WS H) refs h.aj
noncomputable def lY(xs:List Str)(k:Nat)(y:Str):List Str:=xs.take k++y::xs.drop k
theorem DJ(xs:List Str)(k:Nat)(y:Str):(lY xs k y).length=xs.length+1:=by
 unfold lY;rw[gK,jV,nJ,vK];lia
theorem kz{xs:List Str}{k:Nat}{y z:Str}:z∈lY xs k y↔z=y\/z∈xs:=by
 unfold lY;rw[jw,dZ];constructor
 ·rintro(h|h|h)
  ·exact .inr (List.mem_of_mem_take h)
  ·exact .inl h
  ·exact .inr (List.mem_of_mem_drop h)
 ·rintro(h|h)
  ·exact .inr (.inl h)
  ·rw[<-xV k xs,jw] at h;rcases h with h|h
   ·exact .inl h
   ·exact .inr (.inr h)
end Carry
namespace L2
open PySem PySem.Spec PyProof.Rows
structure LeftX (fs ch:List Addr) (h h':Heap):Prop where
 keep:∀b o,b∉fs->b∉ch->h.get? b=some o->h'.get? b=some o
 slot:∀b o,b∈fs->b∉ch->h.get? b=some o->∃sl,h'.get? b=some { o with slots:=sl}
def FL(n:Nat)(h:Heap)(H:Hp)(e C:Addr)(dx:Option Addr):Prop:=n<=e/\H e=none/\∃oe vs,h.get? e=some oe/\oe.cls=.ref C/\oe.dict=dx/\oe.data=.fields vs/\1 < vs.size/\
 (vs[1]?=some .none\/∃T oT ts,vs[1]?=some (.ref T)/\n<=T/\H T=none/\T≠e/\h.get? T=some oT/\oT.data=.fields ts/\ts[3]?=some .none)
section
variable {M:Model} {A:Around} {E:Value->Shared->Prop} {s:Shared}
end
inductive D where
 |aI|bl (b:Bool)|int (i:Int)|str (x:Str)|ty (n:String)
 |lst (xs:List D)|tup (xs:List D)|aK (kvs:List (TK×D))|aS (ns:List Int)|exc (C:Addr) (l:Option Int)|obj
mutual
noncomputable def TK.d:TK->D
 |.inl i=>.int i
 |.inr x=>.str x
 |.tp l=>.tup (TK.dl l)
noncomputable def TK.dl:List TK->List D
 |[]=>[]
 |k::l=>TK.d k::TK.dl l
end
noncomputable def mM:D->Option V
 |.aI=>some .aI
 |.bl b=>some (.bl b)
 |.int i=>some (.int i)
 |.str x=>some (.str x)
 |.ty n=>some (.ty n)
 |_=>none
noncomputable def Ji(C t:Addr)(d:Option Addr):Obj:={ cls:=.ref C,dict:=d,data:=.fields #[.ref t,.none,.none,.none,.bool false,.none]}
def KP(o:Obj)(C:Addr)(d:Option Addr):Prop:=o.cls=.ref C/\o.dict=d/\∃vs,o.data=.fields vs
def tm(F:Hp)(a C:Addr):Option Int->Prop
 |none=>∃o,F a=some (.Y o (.own 0))/\KP o C none
 |some n=>∃o dx,F a=some (.Y o (.own 0))/\KP o C (some dx)/\F dx=some (.xd [("line",.int n)])
inductive au (K:L2.FG) (F:Hp):List V->List D->Prop
 |nil:au K F [] []
 |flat {v:V} {d:D} {vs:List V} {ds:List D}:mM d=some v->au K F vs ds->au K F (v::vs) (d::ds)
 |lst {a:Addr} {ws vs:List V} {es ds:List D}:Rd F a (.lst ws)->au K F ws es->au K F vs ds->au K F (.ref a::vs) (.lst es::ds)
 |tup {a:Addr} {ws vs:List V} {es ds:List D}:iL K F a ws->au K F ws es->au K F vs ds->au K F (.ref a::vs) (.tup es::ds)
 |aK {a:Addr} {kvs:List (TK×V×V)} {es:List (TK×D)} {ep:Nat} {vs:List V} {ds:List D}:F a=some (.dG kvs ep)->kvs.map (·.1)=es.map (·.1)->au K F (kvs.map (·.2.1)) (es.map (·.1.d))->au K F (kvs.map (·.2.2)) (es.map (·.2))->au K F vs ds->au K F (.ref a::vs) (.aK es::ds)
 |aS {a:Addr} {ns:List Int} {vs:List V} {ds:List D}:dq K F a (ns.map V.int)->au K F vs ds->au K F (.ref a::vs) (.aS ns::ds)
 |exc {a C:Addr} {l:Option Int} {vs:List V} {ds:List D}:tm F a C l->au K F vs ds->au K F (.ref a::vs) (.exc C l::ds)
 |obj {a:Addr} {vs:List V} {ds:List D}:au K F vs ds->au K F (.ref a::vs) (.obj::ds)
theorem aH.rd{H H':Hp}{a:Addr}{u:HO}(e:aH H H')(h:Rd H a u):Rd H' a u:=by
 rcases h with h|⟨o,h⟩
 ·exact .inl (e _ _ h)
 ·exact .inr ⟨o,e _ _ h⟩
theorem aH.ng{K:L2.FG}{H H':Hp}{a:Addr}{xs:List V}(e:aH H H')(h:iL K H a xs):iL K H' a xs:=by
 rcases h with(h|⟨o,h⟩)|h
 ·exact .inl (.inl (e _ _ h))
 ·exact .inl (.inr ⟨o,e _ _ h⟩)
 ·exact .inr h
section
variable {K:L2.FG} {F F':Hp}
theorem tm.mono{F F':Hp}{a C:Addr}{l:Option Int}(s:aH F F')(h:tm F a C l):tm F' a C l:=by
 cases l with
 |none=>obtain⟨o,e,z⟩:=h;exact⟨o,s _ _ e,z⟩
 |some n=>obtain⟨o,dx,e,z,q⟩:=h;exact⟨o,dx,s _ _ e,z,s _ _ q⟩
theorem au.mono(s:aH F F'){vs:List V}{ds:List D}(h:au K F vs ds):au K F' vs ds:=by
 induction h with
 |nil=>exact .nil
 |flat e _ ih=>exact .flat e ih
 |lst e _ _ i1 i2=>exact .lst (s.rd e) i1 i2
 |tup e _ _ i1 i2=>exact .tup (s.ng e) i1 i2
 |aK e k _ _ _ i0 i1 i2=>exact .aK (s _ _ e) k i0 i1 i2
 |aS e _ i=>exact .aS (s.seq e) i
 |exc e _ i=>exact .exc (e.mono s) i
 |obj _ i=>exact .obj i
theorem au.length{vs:List V}{ds:List D}(h:au K F vs ds):vs.length=ds.length:=by
 induction h with
 |nil=>rfl
 |flat _ _ ih=>simp[ih]
 |lst _ _ _ _ ih=>simp[ih]
 |tup _ _ _ _ ih=>simp[ih]
 |aK _ _ _ _ _ _ _ ih=>simp[ih]
 |aS _ _ ih=>simp[ih]
 |exc _ _ ih=>simp[ih]
 |obj _ ih=>simp[ih]
theorem au.inv{v:V}{vs:List V}{d:D}{ds:List D}(h:au K F (v::vs) (d::ds)):au K F [v] [d]/\au K F vs ds:=by
 cases h with
 |flat e t=>exact⟨.flat e .nil,t⟩
 |lst e i t=>exact⟨.lst e i .nil,t⟩
 |tup e i t=>exact⟨.tup e i .nil,t⟩
 |aK e k j i t=>exact⟨.aK e k j i .nil,t⟩
 |aS e t=>exact⟨.aS e .nil,t⟩
 |exc e t=>exact⟨.exc e .nil,t⟩
 |obj t=>exact⟨.obj .nil,t⟩
theorem au.cons{v:V}{vs:List V}{d:D}{ds:List D}(h:au K F [v] [d])(t:au K F vs ds):au K F (v::vs) (d::ds):=by
 cases h with
 |flat e _=>exact .flat e t
 |lst e i _=>exact .lst e i t
 |tup e i _=>exact .tup e i t
 |aK e k j i _=>exact .aK e k j i t
 |aS e _=>exact .aS e t
 |exc e _=>exact .exc e t
 |obj _=>exact .obj t
theorem au.get:∀{vs:List V} {ds:List D} {i:Nat} {d:D},au K F vs ds->ds[i]?=some d->∃v,vs[i]?=some v/\au K F [v] [d]
 |[],[],i,d,_,e=>by simp at e
 |v::vs,d'::ds,0,d,h,e=>by simp at e;subst e;exact⟨v,rfl,h.inv.1⟩
 |v::vs,d'::ds,i+1,d,h,e=>by
  obtain⟨u,h1,h2⟩:=au.get (i:=i) h.inv.2 (by simpa using e)
  exact⟨u,by simpa using h1,h2⟩
 |[],_::_,_,_,h,_=>by have:=h.length;simp at this
 |_::_,[],_,_,h,_=>by have:=h.length;simp at this
theorem au.append:∀{vs:List V} {ds:List D} {ws:List V} {es:List D},au K F vs ds->au K F ws es->au K F (vs++ws) (ds++es)
 |[],[],_,_,_,h=>h
 |v::vs,d::ds,_,_,h,t=>.cons h.inv.1 (au.append h.inv.2 t)
 |[],_::_,_,_,h,_=>by have:=h.length;simp at this
 |_::_,[],_,_,h,_=>by have:=h.length;simp at this
theorem au.take:∀{vs:List V} {ds:List D} (n:Nat),au K F vs ds->au K F (vs.take n) (ds.take n)
 |[],[],_,_=>by simp;exact .nil
 |v::vs,d::ds,0,_=>.nil
 |v::vs,d::ds,n+1,h=>.cons h.inv.1 (au.take n h.inv.2)
 |[],_::_,_,h=>by have:=h.length;simp at this
 |_::_,[],_,h=>by have:=h.length;simp at this
theorem au.drop:∀{vs:List V} {ds:List D} (n:Nat),au K F vs ds->au K F (vs.drop n) (ds.drop n)
 |[],[],_,_=>by simp;exact .nil
 |v::vs,d::ds,0,h=>h
 |v::vs,d::ds,n+1,h=>by simpa using au.drop n h.inv.2
 |[],_::_,_,h=>by have:=h.length;simp at this
 |_::_,[],_,h=>by have:=h.length;simp at this
end
inductive O where
 |Y (d:D)|lst (xs:List O)|tup (xs:List O)|aK (kvs:List (TK×O))|ins (C:Addr) (ns:List Str) (ps:List O)
abbrev Gm:=List (Option O)
inductive ai (K:L2.FG) (F H:Hp):St->Gm->List Addr->Prop
 |nil:ai K F H [] [] []
 |skip {x:Option V} {Z:St} {U:Gm} {B:List Addr}:ai K F H Z U B->ai K F H (x::Z) (none::U) B
 |Y {v:V} {d:D} {Z:St} {U:Gm} {B:List Addr}:au K F [v] [d]->ai K F H Z U B->ai K F H (some v::Z) (some (.Y d)::U) B
 |lst {a:Addr} {ws:List V} {ps:List O} {A B:List Addr} {Z:St} {U:Gm}:H a=some (.lst ws)->ai K F H (ws.map some) (ps.map some) A->ai K F H Z U B->ai K F H (some (.ref a)::Z) (some (.lst ps)::U) (a::A++B)
 |tup {a:Addr} {ws:List V} {ps:List O} {A B:List Addr} {Z:St} {U:Gm}:H a=some (.tup ws)->ai K F H (ws.map some) (ps.map some) A->ai K F H Z U B->ai K F H (some (.ref a)::Z) (some (.tup ps)::U) (a::A++B)
 |aK {a:Addr} {kvs:List (TK×V×V)} {ps:List (TK×O)} {ep:Nat} {A B:List Addr} {Z:St} {U:Gm}:H a=some (.dG kvs ep)->kvs.map (·.1)=ps.map (·.1)->au K F (kvs.map (·.2.1)) (ps.map (·.1.d))->ai K F H (kvs.map λp=>some p.2.2) (ps.map λp=>some p.2) A->ai K F H Z U B->
   ai K F H (some (.ref a)::Z) (some (.aK ps)::U) (a::A++B)
  |ins {a dx C:Addr} {fs:List (Str×V)} {ns:List Str} {ps:List O} {A B:List Addr} {Z:St} {U:Gm}:H a=some (.ins C dx fs)->H dx=some (.own a)->fs.map (·.1)=ns.take ps.length->ai K F H (fs.map λp=>some p.2) (ps.map some) A->ai K F H Z U B->
   ai K F H (some (.ref a)::Z) (some (.ins C ns ps)::U) (a::dx::A++B)
section
variable {K:L2.FG} {F F' H H':Hp} {Z τ:St} {U Θ:Gm} {A B:List Addr}
theorem ai.keep(h:ai K F H Z U A)(s:aH F F')(k:∀a∈A,∀o,H a=some o->H' a=some o):ai K F' H' Z U A:=by
 induction h with
 |nil=>exact .nil
 |skip _ ih=>exact .skip (ih k)
 |Y r _ ih=>exact .Y (r.mono s) (ih k)
 |lst e _ _ i1 i2=>exact .lst (k _ (by simp) _ e) (i1 λa ha=>k a (by simp[ha])) (i2 λa ha=>k a (by simp[ha]))
 |tup e _ _ i1 i2=>exact .tup (k _ (by simp) _ e) (i1 λa ha=>k a (by simp[ha])) (i2 λa ha=>k a (by simp[ha]))
 |aK e q r _ _ i1 i2=>exact .aK (k _ (by simp) _ e) q (r.mono s) (i1 λa ha=>k a (by simp[ha])) (i2 λa ha=>k a (by simp[ha]))
 |ins e d q _ _ i1 i2=>exact .ins (k _ (by simp) _ e) (k _ (by simp) _ d) q (i1 λa ha=>k a (by simp[ha])) (i2 λa ha=>k a (by simp[ha]))
theorem ai.there(h:ai K F H Z U A):∀a∈A,H a≠none:=by
 induction h with
 |nil=>intro a ha;cases ha
 |skip _ ih=>exact ih
 |Y _ _ ih=>exact ih
 |lst e _ _ i1 i2=>
  intro a ha;rcases dZ.mp ha with rfl|ha
  ·rw[e];exact λz=>by cases z
  ·rcases jw.mp ha with ha|ha
   ·exact i1 a ha
   ·exact i2 a ha
 |tup e _ _ i1 i2=>
  intro a ha;rcases dZ.mp ha with rfl|ha
  ·rw[e];exact λz=>by cases z
  ·rcases jw.mp ha with ha|ha
   ·exact i1 a ha
   ·exact i2 a ha
 |aK e _ _ _ _ i1 i2=>
  intro a ha;rcases dZ.mp ha with rfl|ha
  ·rw[e];exact λz=>by cases z
  ·rcases jw.mp ha with ha|ha
   ·exact i1 a ha
   ·exact i2 a ha
 |ins e d _ _ _ i1 i2=>
  intro a ha;simp only[zt,dZ,jw] at ha;rcases ha with rfl|rfl|ha|ha
  ·rw[e];exact λz=>by cases z
  ·rw[d];exact λz=>by cases z
  ·exact i1 a ha
  ·exact i2 a ha
theorem ai.length(h:ai K F H Z U A):Z.length=U.length:=by
 induction h <;> simp_all
theorem ai.app(h:ai K F H τ Θ B)(t:ai K F H Z U A):ai K F H (τ++Z) (Θ++U) (B++A):=by
 induction h with
 |nil=>exact t
 |skip _ ih=>exact .skip ih
 |Y r _ ih=>exact .Y r ih
 |lst e i _ _ ih=>simp only[zt,fG];exact .lst e i ih
 |tup e i _ _ ih=>simp only[zt,fG];exact .tup e i ih
 |aK e q r i _ _ ih=>simp only[zt,fG];exact .aK e q r i ih
 |ins e d q i _ _ ih=>simp only[zt,fG];exact .ins e d q i ih
theorem ai.split:∀{τ:St} {Θ:Gm} {A:List Addr},τ.length=Θ.length->ai K F H (τ++Z) (Θ++U) A->∃B C,ai K F H τ Θ B/\ai K F H Z U C/\A=B++C
 |[],[],A,_,h=>⟨[],A,.nil,h,rfl⟩
 |[],_::_,_,e,_=>by simp at e
 |_::_,[],_,e,_=>by simp at e
 |x::τ,y::Θ,A,e,h=>by
  have e':τ.length=Θ.length:=by simpa using e
  cases h with
  |skip t=>obtain⟨B,C,h1,h2,h3⟩:=ai.split e' t;exact⟨B,C,.skip h1,h2,h3⟩
  |Y r t=>obtain⟨B,C,h1,h2,h3⟩:=ai.split e' t;exact⟨B,C,.Y r h1,h2,h3⟩
  |lst q i t=>obtain⟨B,C,h1,h2,h3⟩:=ai.split e' t;subst h3;exact⟨_,C,.lst q i h1,h2,by simp⟩
  |tup q i t=>obtain⟨B,C,h1,h2,h3⟩:=ai.split e' t;subst h3;exact⟨_,C,.tup q i h1,h2,by simp⟩
  |aK q z r i t=>obtain⟨B,C,h1,h2,h3⟩:=ai.split e' t;subst h3;exact⟨_,C,.aK q z r i h1,h2,by simp⟩
  |ins q d z i t=>obtain⟨B,C,h1,h2,h3⟩:=ai.split e' t;subst h3;exact⟨_,C,.ins q d z i h1,h2,by simp⟩
theorem ai.one{x:Option V}{y:Option O}(h:ai K F H (x::Z) (y::U) A):∃B C,ai K F H [x] [y] B/\ai K F H Z U C/\A=B++C:=ai.split (τ:=[x]) (Θ:=[y]) rfl h
theorem ai.take:∀{Z:St} {U:Gm} {A:List Addr} {i:Nat} {o:O},ai K F H Z U A->U[i]?=some (some o)->∃v Ai B,Z[i]?=some (some v)/\ai K F H [some v] [some o] Ai/\ai K F H Z (U.set i none) B/\A.Perm (Ai++B)
 |_,[],_,_,_,_,e=>by simp at e
 |[],_::_,_,_,_,h,_=>by have:=h.length;simp at this
 |x::Z,y::U,A,0,o,h,e=>by
  have e:y=some o:=by simpa using e
  subst e;obtain⟨B,C,h1,h2,h3⟩:=h.one;cases x with
  |none=>cases h1
  |some v=>exact⟨v,B,C,rfl,h1,.skip h2,by rw[h3]⟩
 |x::Z,y::U,A,i+1,o,h,e=>by
  obtain⟨B,C,h1,h2,h3⟩:=h.one;obtain⟨v,Ai,B',g1,g2,g3,g4⟩:=ai.take (i:=i) h2 (by simpa using e)
  refine⟨v,Ai,B++B',by simpa using g1,g2,h1.app g3,?_⟩
  subst h3;exact(List.Perm.append_left B g4).trans (by rw[<-fG,<-fG];exact(om).append_right _)
theorem ai.forget:∀{Z:St} {U:Gm} {A:List Addr} (i:Nat),ai K F H Z U A->∃B,ai K F H Z (U.set i none) B/\B.Sublist A
 |Z,[],A,i,h=>⟨A,by simpa using h,List.Sublist.refl _⟩
 |[],_::_,_,_,h=>by have:=h.length;simp at this
 |x::Z,y::U,A,0,h=>by
  obtain⟨B,C,h1,h2,h3⟩:=h.one;subst h3;exact⟨C,.skip h2,ly _ _⟩
 |x::Z,y::U,A,i+1,h=>by
  obtain⟨B,C,h1,h2,h3⟩:=h.one;obtain⟨B',g1,g2⟩:=ai.forget i h2;subst h3;exact⟨B++B',h1.app g1,g2.append_left _⟩
theorem ai.put{v:V}{o:O}{Ai:List Addr}(q:ai K F H [some v] [some o] Ai):∀{Z:St} {U:Gm} {A:List Addr} (i:Nat),ai K F H Z U A->i < U.length->∃B,ai K F H (Z.set i (some v)) (U.set i (some o)) B/\∃C,B.Perm (Ai++C)/\C.Sublist A
 |_,[],_,_,_,hi=>by simp at hi
 |[],_::_,_,_,h,_=>by have:=h.length;simp at this
 |x::Z,y::U,A,0,h,hi=>by
  obtain⟨B,C,h1,h2,h3⟩:=h.one;subst h3;exact⟨Ai++C,q.app h2,C,.refl _,ly _ _⟩
 |x::Z,y::U,A,i+1,h,hi=>by
  obtain⟨B,C,h1,h2,h3⟩:=h.one;obtain⟨B',g1,C',g2,g3⟩:=ai.put q i h2 (by simpa using hi)
  subst h3;refine⟨B++B',h1.app g1,B++C',?_,g3.append_left _⟩;exact(List.Perm.append_left B g2).trans (by rw[<-fG,<-fG];exact(om).append_right _)
end
structure OK (K:L2.FG) (F H:Hp) (Z:St) (U:Gm) (A:List Addr):Prop where
 le:aH F H
 os:ai K F H Z U A
 nd:A.Nodup
 fr:∀a∈A,F a=none
def nt(H H':Hp):Prop:=∀a C dx fs,H a=some (.ins C dx fs)->∃oO,H' a=some (.ins C dx oO)/\∀(j:Nat) f p,fs[j]?=some (f,V.ref p)->oO[j]?=some (f,V.ref p)
theorem nt.same{H H':Hp}(s:aH H H'):nt H H':=λa _ _ _ e=>⟨_,s a _ e,λ_ _ _ z=>z⟩
theorem nt.trans{H H1 H2:Hp}(x:nt H H1)(y:nt H1 H2):nt H H2:=λa C dx fs e=>by
 obtain⟨YD,e1,z1⟩:=x a C dx fs e;obtain⟨va,e2,z2⟩:=y a C dx YD e1;exact⟨va,e2,λj f p q=>z2 j f p (z1 j f p q)⟩
theorem nt.upd{H:Hp}{l:Addr}{o:HO}(h:∀C dx fs,H l≠some (.ins C dx fs)):nt H (upd H l o):=λa C dx fs e=>by
 by_cases z:a=l
 ·subst z;exact absurd e (h C dx fs)
 ·exact⟨fs,by rw[cK z];exact e,λ_ _ _ q=>q⟩
structure Ext (F H:Hp) (A:List Addr) (F' H':Hp) (A':List Addr):Prop where
 ff:aH F F'
 keep:∀a o,H a=some o->a∉A->H' a=some o
 wL:∀a,H a≠none->H' a≠none
 new:∀a,F' a≠none->F a≠none\/a∈A\/H a=none
 own:∀a∈A',a∈A\/H a=none
 kf:nt H H'
section
variable {K:L2.FG} {F F' F1 F2 H H' H1 H2:Hp} {Z Z' τ:St} {U U' Θ:Gm} {A A' A1 A2 B C:List Addr}
theorem Ext.refl:Ext F H A F H A:=⟨aH.refl _,λ_ _ e _=>e,λ_ h=>h,λ_ h=>.inl h,λ_ h=>.inl h,.same (aH.refl _)⟩
theorem Ext.trans(x:Ext F H A F1 H1 A1)(y:Ext F1 H1 A1 F2 H2 A2):Ext F H A F2 H2 A2 where
 ff:=x.ff.trans y.ff
 keep:=λa o e n=>y.keep a o (x.keep a o e n) λm=>by
  rcases x.own a m with z|z
  ·exact n z
  ·rw[e] at z;cases z
 wL:=λa h=>y.wL a (x.wL a h)
 new:=λa h=>by
  rcases y.new a h with z|z|z
  ·exact x.new a z
  ·exact .inr (x.own a z)
  ·exact .inr (.inr (Classical.byContradiction λq=>x.wL a q z))
 own:=λa h=>by
  rcases y.own a h with z|z
  ·exact x.own a z
  ·exact .inr (Classical.byContradiction λq=>x.wL a q z)
 kf:=x.kf.trans y.kf
theorem Ext.iX(x:Ext F H A F' H' A')(h:∀a∈B,a∈A'):Ext F H A F' H' B:=⟨x.ff,x.keep,x.wL,x.new,λa m=>x.own a (h a m),x.kf⟩
theorem OK.perm(k:ai K F H Z U A)(le:aH F H)(nd:B.Nodup)(fr:∀a∈B,F a=none)(p:A.Perm B):OK K F H Z U A:=⟨le,k,p.nodup_iff.mpr nd,λa m=>fr a (p.mem_iff.mp m)⟩
theorem OK.oM(k:OK K F H (τ++Z) (Θ++U) (B++C))(h1:ai K F H τ Θ B)(h2:ai K F H Z U C):OK K F H Z U C/\∀F' H' Z' U' A',Ext F H C F' H' A'->OK K F' H' Z' U' A'->∃ph,Ext F H (B++C) F' H' ph/\OK K F' H' (τ++Z') (Θ++U') ph:=by
 obtain⟨n1,n2,n3⟩:=hV.mp k.nd;have nB:∀a∈B,a∉C:=λa h1 h2=>n3 a h1 a h2 rfl
 refine⟨⟨k.le,h2,n2,λa m=>k.fr a (ja _ m)⟩,λF' H' Z' U' A' x k'=>?_⟩
 have hB:∀a∈B,F' a=none:=λa m=>by
  cases e:F' a with
  |none=>rfl
  |some o=>
   rcases x.new a (by rw[e];exact λz=>by cases z) with z|z|z
   ·exact absurd (k.fr a (lx _ m)) z
   ·exact absurd z (nB a m)
   ·exact absurd z (h1.there a m)
 refine⟨B++A',⟨x.ff,λa o e n=>x.keep a o e λm=>n (ja _ m),x.wL,λa h=>?_,λa m=>?_,x.kf⟩,k'.le,(h1.keep x.ff λa m o e=>x.keep a o e (nB a m)).app k'.os,?_,?_⟩
 ·rcases x.new a h with z|z|z
  ·exact .inl z
  ·exact .inr (.inl (ja _ z))
  ·exact .inr (.inr z)
 ·rcases jw.mp m with m|m
  ·exact .inl (lx _ m)
  ·rcases x.own a m with z|z
   ·exact .inl (ja _ z)
   ·exact .inr z
 ·refine hV.mpr ⟨n1,k'.nd,λa m b m' e=>?_⟩
  subst e;rcases x.own a m' with z|z
  ·exact nB a m z
  ·exact h1.there a m z
 ·intro a m;rcases jw.mp m with m|m
  ·exact hB a m
  ·exact k'.fr a m
theorem OK.frame(k:OK K F H (τ++Z) (Θ++U) A)(hl:τ.length=Θ.length):∃C,OK K F H Z U C/\∀F' H' Z' U' A',Ext F H C F' H' A'->OK K F' H' Z' U' A'->∃ph,Ext F H A F' H' ph/\OK K F' H' (τ++Z') (Θ++U') ph:=by
 obtain⟨B,C,h1,h2,h3⟩:=ai.split hl k.os;subst h3;exact⟨C,k.oM h1 h2⟩
theorem OK.swap(k:OK K F H (τ++Z) (Θ++U) A)(hl:τ.length=Θ.length):∃B,B.Perm A/\OK K F H (Z++τ) (U++Θ) B:=by
 obtain⟨B,C,h1,h2,h3⟩:=ai.split hl k.os;subst h3;exact⟨C++B,om,.perm (h2.app h1) k.le k.nd k.fr om⟩
theorem OK.part(k:OK K F H (τ++Z) (Θ++U) A)(hl:τ.length=Θ.length):∃B,OK K F H Z U B/\∀a∈B,a∈A:=by
 obtain⟨B,C,h1,h2,h3⟩:=ai.split hl k.os;subst h3;exact⟨C,⟨k.le,h2,(hV.mp k.nd).2.1,λa m=>k.fr a (ja _ m)⟩,λa m=>ja _ m⟩
theorem OK.push{v:V}{o:O}{Av:List Addr}(k:OK K F H Z U A)(s:aH H H')(q:ai K F H' [some v] [some o] Av)(nd:Av.Nodup)(fresh:∀a∈Av,H a=none):
  OK K F H' (some v::Z) (some o::U) (Av++A)/\Ext F H A F H' (Av++A):=by
 have ne:∀a∈Av,a∉A:=λa m z=>k.os.there a z (fresh a m)
 refine⟨⟨k.le.trans s,q.app (k.os.keep (aH.refl _) λa _ o e=>s a o e),hV.mpr ⟨nd,k.nd,λa m b m' e=>?_⟩,λa m=>?_⟩,aH.refl _,λa o e _=>s a o e,λa h z=>?_,λa h=>.inl h,λa m=>?_,.same s⟩
 ·subst e;exact ne a m m'
 ·rcases jw.mp m with m|m
  ·exact k.le.free (fresh a m)
  ·exact k.fr a m
 ·exact h (s.free z)
 ·rcases jw.mp m with m|m
  ·exact .inr (fresh a m)
  ·exact .inl m
end
inductive R where
 |own (o:O)|var (i:Nat)|fld (i j:Nat)
noncomputable def R.o:R->Option O
 |.own o=>some o
 |_=>none
abbrev GE:=Gm->Option (R×Gm)
abbrev GA:=Gm->Option (List R×Gm)
abbrev GT:=Gm->Option (Bool×Gm)
def mH(Z:St)(H:Hp)(i j:Nat)(v:V):Prop:=∃a C dx fs f p,Z[i]?=some (some (.ref a))/\H a=some (.ins C dx fs)/\fs[j]?=some (f,v)/\v=.ref p
def eE(Z:St)(H:Hp):List R->List V->Prop
 |[],[]=>True
 |.own _::rs,_::vs=>eE Z H rs vs
 |.var i::rs,v::vs=>Z[i]?=some (some v)/\eE Z H rs vs
 |.fld i j::rs,v::vs=>mH Z H i j v/\eE Z H rs vs
 |_,_=>False
def dW(K:L2.FG)(F H:Hp)(A:List Addr)(Z:St)(U':Gm)(rs:List R)(vs:List V)(H':Hp):Prop:=
 ∃F' A',Ext F H A F' H' A'/\OK K F' H' (vs.map some++Z) (rs.map R.o++U') A'/\eE Z H' rs vs
def tG(K:L2.FG)(f:GE):TE:=λZ H Q=>∃F A U r U',OK K F H Z U A/\f U=some (r,U')/\∀v H',dW K F H A Z U' [r] [v] H'->Q v H'
def gZ(K:L2.FG)(f:GA):TA:=λZ H Q=>∃F A U rs U',OK K F H Z U A/\f U=some (rs,U')/\∀vs H',dW K F H A Z U' rs vs H'->Q vs H'
def g_(K:L2.FG)(f:GT):TT:=λZ H Q=>∃F A U b U',OK K F H Z U A/\f U=some (b,U')/\∀H',dW K F H A Z U' [] [] H'->Q b H'
theorem eE.length:∀{Z:St} {H:Hp} {rs:List R} {vs:List V},eE Z H rs vs->rs.length=vs.length
 |_,_,[],[],_=>rfl
 |_,_,.own _::rs,_::vs,h=>by simp[eE.length (Z:=_) (H:=_) (rs:=rs) (vs:=vs) h]
 |_,_,.var _::rs,_::vs,h=>by simp[eE.length (Z:=_) (H:=_) (rs:=rs) (vs:=vs) h.2]
 |_,_,.fld _ _::rs,_::vs,h=>by simp[eE.length (Z:=_) (H:=_) (rs:=rs) (vs:=vs) h.2]
 |_,_,[],_::_,h=>h.elim
 |_,_,.own _::_,[],h=>h.elim
 |_,_,.var _::_,[],h=>h.elim
 |_,_,.fld _ _::_,[],h=>h.elim
theorem mH.kf{Z:St}{H H':Hp}{i j:Nat}{v:V}(h:mH Z H i j v)(x:nt H H'):mH Z H' i j v:=by
 obtain⟨a,C,dx,fs,f,p,h1,h2,h3,rfl⟩:=h;obtain⟨oO,e,z⟩:=x a C dx fs h2;exact⟨a,C,dx,oO,f,p,h1,e,z j f p h3,rfl⟩
theorem eE.kf:∀{Z:St} {H H':Hp} {rs:List R} {vs:List V},eE Z H rs vs->nt H H'->eE Z H' rs vs
 |_,_,_,[],[],_,_=>True.intro
 |_,_,_,.own _::rs,_::vs,h,x=>eE.kf (rs:=rs) (vs:=vs) h x
 |_,_,_,.var _::rs,_::vs,h,x=>⟨h.1,eE.kf (rs:=rs) (vs:=vs) h.2 x⟩
 |_,_,_,.fld _ _::rs,_::vs,h,x=>⟨h.1.kf x,eE.kf (rs:=rs) (vs:=vs) h.2 x⟩
 |_,_,_,[],_::_,h,_=>h.elim
 |_,_,_,.own _::_,[],h,_=>h.elim
 |_,_,_,.var _::_,[],h,_=>h.elim
 |_,_,_,.fld _ _::_,[],h,_=>h.elim
theorem eE.one{Z:St}{H:Hp}{r:R}{vs:List V}{rs:List R}{v:V}(h:eE Z H [r] [v])(t:eE Z H rs vs):eE Z H (r::rs) (v::vs):=by
 cases r with
 |own o=>exact t
 |var i=>exact⟨h.1,t⟩
 |fld i j=>exact⟨h.1,t⟩
theorem PE.mono{X:Cx}{e:Expr}{t t':TE}(h:PE X e t)(m:∀Z H Q,t' Z H Q->t Z H Q):PE X e t':=λpins s Z H Q I q=>h pins s Z H Q I (m _ _ _ q)
theorem PT.mono{X:Cx}{e:Expr}{t t':TT}(h:PT X e t)(m:∀Z H Q,t' Z H Q->t Z H Q):PT X e t':=λpins s Z H Q I q=>h pins s Z H Q I (m _ _ _ q)
theorem PW.mono{X:Cx}{e:Expr}{t t':TT}(h:PW X e t)(m:∀Z H Q,t' Z H Q->t Z H Q):PW X e t':=λwh pins s Z H Q I q=>h wh pins s Z H Q I (m _ _ _ q)
theorem PA.mono{X:Cx}{e:List Expr}{t t':TA}(h:PA X e t)(m:∀Z H Q,t' Z H Q->t Z H Q):PA X e t':=λpos pins s Z H Q I q=>h pos pins s Z H Q I (m _ _ _ q)
theorem PS.mono{X:Cx}{e:Stmt}{t t':TS}(h:PS X e t)(m:∀D Z H,t' D Z H->t D Z H):PS X e t':=λpins s Z H D I q=>h pins s Z H D I (m _ _ _ q)
theorem jt.mono{X:Cx}{e:List Stmt}{t t':TS}(h:jt X e t)(m:∀D Z H,t' D Z H->t D Z H):jt X e t':=λpins s Z H D I q=>h pins s Z H D I (m _ _ _ q)
section
variable {K:L2.FG} {F H:Hp} {A:List Addr} {Z:St} {U U':Gm}
noncomputable def iI(U:Gm):R->Option O
 |.own o=>some o
 |.var i=>(U[i]?).join
 |.fld i j=>match U[i]? with
  |some (some (.ins _ _ ps))=>ps[j]?
  |_=>none
noncomputable def fD(U:Gm):List R->Option (List O)
 |[]=>some []
 |r::rs=>(iI U r).bind λo=>(fD U rs).bind λos=>some (o::os)
def lT(K:L2.FG)(F H:Hp):List V->List O->Prop:=Paired λv o=>∃B,ai K F H [some v] [some o] B
theorem yj:∀{rs:List R} {vs:List V} {os:List O} {B:List Addr},ai K F H Z U A->ai K F H (vs.map some) (rs.map R.o) B->eE Z H rs vs->fD U rs=some os->lT K F H vs os
 |[],[],os,_,_,_,_,e=>by cases e;exact .nil
 |r::rs,v::vs,os,B,k,h,hh,e=>by
  obtain⟨B1,C1,h1,h2,_⟩:=ai.one h;unfold fD at e;cases e1:iI U r with
  |none=>rw[e1] at e;cases e
  |some o=>
   rw[e1] at e;cases e2:fD U rs with
   |none=>rw[e2] at e;cases e
   |some vm=>
    rw[e2] at e;cases e;cases r with
    |own o'=>cases e1;exact .cons ⟨_,h1⟩ (yj k h2 hh e2)
    |var i=>
     have e3:U[i]?=some (some o):=by
      have:(U[i]?).join=some o:=e1;cases q:U[i]? with
      |none=>rw[q] at this;cases this
      |some z=>rw[q] at this;exact congrArg some this
     obtain⟨v',Ai,B',g1,g2,_⟩:=k.take e3;have:=hh.1;rw[g1] at this;cases this;exact .cons ⟨_,g2⟩ (yj k h2 hh.2 e2)
    |fld i j=>
     obtain⟨⟨a,C,dx,fs,f,p,h3,h4,h5,h6⟩,O2⟩:=hh;unfold iI at e1;dsimp only at e1;split at e1
     ·rename_i C' ns ps e3
      obtain⟨v',Ai,B',g1,g2,_⟩:=k.take e3;rw[h3] at g1;cases g1;cases g2 with
      |ins q1 q2 q3 q4 _=>
       rw[h4] at q1;cases q1;obtain⟨v2,A2,B2,j1,j2,_⟩:=q4.take (i:=j) (o:=o) (by rw[iz,e1];rfl)
       rw[iz,h5] at j1;cases j1;exact .cons ⟨_,j2⟩ (yj k h2 O2 e2)
     ·cases e1
 |[],_::_,_,_,_,_,h,_=>h.elim
 |.own _::_,[],_,_,_,_,h,_=>h.elim
 |.var _::_,[],_,_,_,_,h,_=>h.elim
 |.fld _ _::_,[],_,_,_,_,h,_=>h.elim
def Res(K:L2.FG)(F H:Hp)(o:O)(Q:VK):Prop:=∀v H' Av,aH H H'->ai K F H' [some v] [some o] Av->Av.Nodup->(∀a∈Av,H a=none)->Q v H'
theorem dW.res{rs:List R}{vs:List V}{H1:Hp}{os:List O}{o:O}{Q:VK}(h:dW K F H A Z U' rs vs H1)(e:fD U' rs=some os)(q:∀v H',dW K F H A Z U' [.own o] [v] H'->Q v H'):
  ∃F1,aH F1 H1/\lT K F1 H1 vs os/\Res K F1 H1 o Q:=by
 obtain⟨F1,A1,x,k,hh⟩:=h;have hl:(vs.map some).length=(rs.map R.o).length:=by rw[bB,bB,hh.length]
 obtain⟨B,C,h1,h2,h3⟩:=ai.split hl k.os;refine⟨F1,k.le,yj h2 h1 hh e,λv H' Av s w nd fresh=>q v H' ?_⟩
 obtain⟨B',kB,sub⟩:=k.part hl;obtain⟨k2,x2⟩:=kB.push s w nd fresh;exact⟨F1,Av++B',x.trans ((Ext.iX Ext.refl sub).trans x2),k2,True.intro⟩
theorem Res.flat{d:D}{v:V}{Q:VK}(h:Res K F H (.Y d) Q)(e:mM d=some v):Q v H:=h v H [] (aH.refl _) (.Y (.flat e .nil) .nil) .nil (λ_ m=>by cases m)
theorem Res.Y{d:D}{v:V}{Q:VK}(h:Res K F H (.Y d) Q)(e:au K F [v] [d]):Q v H:=h v H [] (aH.refl _) (.Y e .nil) .nil (λ_ m=>by cases m)
end
noncomputable def gC(d:D):GE:=λU=>some (.own (.Y d),U)
noncomputable def aa(i:Nat):GE:=λU=>match U[i]? with
 |some (some (.Y d))=>some (.own (.Y d),U)
 |some (some _)=>some (.var i,U)
 |_=>none
section
variable {X:Cx} {K:L2.FG} {e a b:Expr} {es:List Expr} {fa fb:GE} {fs:GA} {pos:Pos}
theorem iy{v:V}{d:D}(h:PE X e (tC v))(q:mM d=some v:=by rfl):PE X e (tG K (gC d)):=h.mono λZ H Q t=>by
 obtain⟨F,A,U,r,U',k,e,w⟩:=t;cases e;obtain⟨k2,x⟩:=k.push (v:=v) (o:=.Y d) (Av:=[]) (aH.refl _) (.Y (.flat q .nil) .nil) .nil (λ_ m=>by cases m)
 exact w v H ⟨F,_,x,k2,True.intro⟩
theorem WT{i:Nat}(h:PE X e (kJ i)):PE X e (tG K (aa i)):=h.mono λZ H Q t=>by
 obtain⟨F,A,U,r,U',k,e,w⟩:=t;unfold aa at e;cases q:U[i]? with
 |none=>rw[q] at e;cases e
 |some z=>
  cases z with
  |none=>rw[q] at e;cases e
  |some o=>
   rw[q] at e;obtain⟨v,Ai,B,g1,g2,g3,g4⟩:=k.os.take q;refine⟨v,g1,w v H ?_⟩;cases o with
   |Y d=>
    cases e;cases g2 with
    |Y rp _=>
     obtain⟨k2,x⟩:=k.push (v:=v) (o:=.Y d) (Av:=[]) (aH.refl _) (.Y rp .nil) .nil (λ_ m=>by cases m)
     exact⟨F,_,x,k2,True.intro⟩
   |_=>
    cases e;exact⟨F,A,Ext.refl,⟨k.le,.skip k.os,k.nd,k.fr⟩,g1,True.intro⟩
noncomputable def gN:GA:=λU=>some ([],U)
noncomputable def ao(f:GE)(g:GA):GA:=λU=>(f U).bind λp=>(g p.2).bind λq=>some (p.1::q.1,q.2)
theorem GI{f:GE}{g:GA}{U U':Gm}{rs:List R}(e:ao f g U=some (rs,U')):∃r U1 CB,f U=some (r,U1)/\g U1=some (CB,U')/\rs=r::CB:=by
 unfold ao at e;cases e1:f U with
 |none=>rw[e1] at e;cases e
 |some p=>
  rw[e1] at e;dsimp only[Option.bind] at e;cases e2:g p.2 with
  |none=>rw[e2] at e;cases e
  |some q=>rw[e2] at e;cases e;exact⟨p.1,p.2,q.1,rfl,e2,rfl⟩
theorem aM:PA X [] (gZ K gN):=xE.mono λZ H Q t=>by
 obtain⟨F,A,U,r,U',k,e,w⟩:=t;cases e;exact w [] H ⟨F,A,Ext.refl,k,True.intro⟩
theorem pC{Z:St}{H:Hp}{Q:List V->Hp->Prop}(t:gZ K (ao fa fs) Z H Q):vE (tG K fa) (gZ K fs) Z H Q:=by
 obtain⟨F,A,U,r,U',k,e,w⟩:=t;obtain⟨r1,U1,rs,e1,e2,rfl⟩:=GI e;refine⟨F,A,U,r1,U1,k,e1,λv H1 p=>?_⟩
 obtain⟨F1,A1,x,k1,hh⟩:=id p;obtain⟨C,kC,fr⟩:=OK.frame (τ:=[some v]) (Θ:=[r1.o]) k1 rfl;refine⟨F1,C,U1,rs,U',kC,e2,λvs H2 p2=>w (v::vs) H2 ?_⟩
 obtain⟨F2,A2,x2,k2,h2⟩:=p2;obtain⟨A3,x3,k3⟩:=fr _ _ _ _ _ x2 k2;exact⟨F2,A3,x.trans x3,k3,eE.one (hh.kf x2.kf) h2⟩
theorem aw(ha:PE X e (tG K fa))(hs:PA X es (gZ K fs))(hp:starEach (e::es) X.env=(false,eval e X.env)::starEach es X.env:=by rfl):PA X (e::es) (gZ K (ao fa fs)):=
 (UM ha hs hp).mono λZ H Q t=>pC t
noncomputable def gO(g:List O->Option O)(fs:GA):GE:=λU=>(fs U).bind λp=>(fD p.2 p.1).bind λos=>(g os).bind λo=>some (.own o,p.2)
abbrev gB(g:List O->Option O)(fa fb:GE):GE:=gO g (ao fa (ao fb gN))
theorem U6{g:List O->Option O}{U U':Gm}{r:R}(e:gO g fs U=some (r,U')):∃rs os o,fs U=some (rs,U')/\fD U' rs=some os/\g os=some o/\r=.own o:=by
 unfold gO at e;cases e1:fs U with
 |none=>rw[e1] at e;cases e
 |some p=>
  rw[e1] at e;dsimp only[Option.bind] at e;cases e2:fD p.2 p.1 with
  |none=>rw[e2] at e;cases e
  |some os=>
   rw[e2] at e;dsimp only at e;cases e3:g os with
   |none=>rw[e3] at e;cases e
   |some o=>rw[e3] at e;cases e;exact⟨p.1,os,o,rfl,e2,e3,rfl⟩
def cD(K:L2.FG)(r:List V->Hp->VK->Prop)(g:List O->Option O):Prop:=
 ∀(F H:Hp) (vs:List V) (os:List O) (o:O) (Q:VK),aH F H->lT K F H vs os->g os=some o->Res K F H o Q->r vs H Q
theorem EF{r:List V->Hp->VK->Prop}{g:List O->Option O}(ok:cD K r g){Z:St}{H:Hp}{Q:VK}(t:tG K (gO g fs) Z H Q):gZ K fs Z H λvs H1=>r vs H1 Q:=by
 obtain⟨F,A,U,rr,U',k,e,w⟩:=t;obtain⟨rs,os,o,e1,e2,e3,rfl⟩:=U6 e;refine⟨F,A,U,rs,U',k,e1,λvs H1 p=>?_⟩
 obtain⟨F1,le,eD,res⟩:=p.res e2 w;exact ok F1 H1 vs os o Q le eD e3 res
def mh(r:R2):List V->Hp->VK->Prop:=λvs H Q=>∃x y,vs=[x,y]/\r x y H Q
theorem tG.mono{f:GE}{Q1 Q2:VK}{Z:St}{H:Hp}(t:tG K f Z H Q1)(q:∀v H',Q1 v H'->Q2 v H'):tG K f Z H Q2:=by
 obtain⟨F,A,U,rr,U',k,e,w⟩:=t;exact⟨F,A,U,rr,U',k,e,λv H' p=>q _ _ (w v H' p)⟩
theorem El{r:R2}{g:List O->Option O}(ok:cD K (mh r) g){Z:St}{H:Hp}{Q:VK}(t:tG K (gB g fa fb) Z H Q):CN r (tG K fa) (tG K fb) Z H Q:=by
 show tG K fa Z H λx H1=>tG K fb Z H1 λy H2=>r x y H2 Q
 refine tG.mono (pC (EF ok t)) λx H1 h=>tG.mono (pC h) λy H2 h2=>?_
 obtain⟨F,A,U,rs,U',k,e,w⟩:=h2;cases e;obtain⟨x',y',e1,h3⟩:=w [] H2 ⟨F,A,Ext.refl,k,True.intro⟩;cases e1;exact h3
theorem cq{op:Operator}{r:R2}{g:List O->Option O}(ho:fH X (binaryOp op) r)(ok:cD K (mh r) g)(ha:PE X a (tG K fa))(hb:PE X b (tG K fb)):PE X (.BinOp a op b pos) (tG K (gB g fa fb)):=
 (XQ ho ha hb).mono λ_ _ _ t=>El ok t
theorem tU{op:CmpOp}{r:R2}{g:List O->Option O}(ho:fH X (compareOp op) r)(ok:cD K (mh r) g)(ha:PE X a (tG K fa))(hb:PE X b (tG K fb))(hm:behindInMarks op b=false:=by first|rfl|exact NU _):PE X (.Compare a [op] [b] pos) (tG K (gB g fa fb)):=
 (UG ho ha hb hm).mono λ_ _ _ t=>El ok t
theorem XU{r:R2}{g:List O->Option O}(hr:pz X r)(ok:cD K (mh r) g)(ha:PE X a (tG K fa))(hb:PE X b (tG K fb))(hs:HW b:=by exact λ_ _=>rfl):PE X (.Subscript a b pos) (tG K (gB g fa fb)):=
 (XT hr ha hb hs).mono λ_ _ _ t=>El ok t
variable {x:Str} {p:Pos} {id T:String} {r:List V->Hp->VK->Prop} {g:List O->Option O}
theorem i9(hc:cJ X (.builtin id) r)(ok:cD K r g)(hm:X.mg x=none)(hv:bootBuiltins x=some (.builtin id))(ha:PA X (e::es) (gZ K fs))(hg:Gl X x:=by rfl)(hn:x≠"__name__":=by decide)(lW:(x == ("__debug__":Str))=false:=by decide)
  (he:starEach (e::es) X.env=(false,eval e X.env)::starEach es X.env:=by rfl) (jM:(backTo pos (starEach es X.env)).any (·.1)=false:=by rfl):PE X (.Call (.Name x p) (e::es) [] pos) (tG K (gO g fs)):=
 (Ta hc hg hm hv ha hn lW he jM).mono λ_ _ _ t=>EF ok t
theorem xZ(hc:cJ X (.type T) r)(ok:cD K r g)(hm:X.mg x=none)(hv:bootBuiltins x=some (.type T))(ha:PA X (e::es) (gZ K fs))(hg:Gl X x:=by rfl)(hn:x≠"__name__":=by decide)(lW:(x == ("__debug__":Str))=false:=by decide)
  (he:starEach (e::es) X.env=(false,eval e X.env)::starEach es X.env:=by rfl) (jM:(backTo pos (starEach es X.env)).any (·.1)=false:=by rfl):PE X (.Call (.Name x p) (e::es) [] pos) (tG K (gO g fs)):=
 (Rz hc hg hm hv ha hn lW he jM).mono λ_ _ _ t=>EF ok t
mutual
noncomputable def O.d:O->D
 |.Y d=>d
 |.lst xs=>.lst (O.dl xs)
 |.tup xs=>.tup (O.dl xs)
 |.aK kvs=>.aK (O.dk kvs)
 |.ins _ _ _=>.obj
noncomputable def O.dl:List O->List D
 |[]=>[]
 |x::xs=>x.d::O.dl xs
noncomputable def O.dk:List (TK×O)->List (TK×D)
 |[]=>[]
 |(k,x)::xs=>(k,x.d)::O.dk xs
end
end
theorem ai.rep{K:L2.FG}{F F' H:Hp}{Z:St}{U:Gm}{A:List Addr}(h:ai K F H Z U A)(s:aH F F')(k:∀a∈A,∀o,H a=some o->F' a=some o):
  ∀(vs:List V) (os:List O),Z=vs.map some->U=os.map some->au K F' vs (O.dl os):=by
 induction h with
 |nil=>
  intro vs os e1 e2;cases vs with
  |nil=>cases os with
   |nil=>exact .nil
   |cons _ _=>cases e2
  |cons _ _=>cases e1
 |skip _ _=>
  intro vs os e1 e2;cases os with
  |nil=>cases e2
  |cons _ _=>injection e2 with e3 _;cases e3
 |Y r _ ih=>
  intro vs os e1 e2;cases vs with
  |nil=>cases e1
  |cons v vs=>cases os with
   |nil=>cases e2
   |cons o os=>
    injection e1 with e3 e4;injection e2 with e5 e6;cases e3;cases e5;exact .cons (r.mono s) (ih k vs os e4 e6)
 |lst e _ _ i1 i2=>
  intro vs os e1 e2;cases vs with
  |nil=>cases e1
  |cons v vs=>cases os with
   |nil=>cases e2
   |cons o os=>
    injection e1 with e3 e4;injection e2 with e5 e6;cases e3;cases e5;exact .lst (.inl (k _ (by simp) _ e)) (i1 (λa m=>k a (by simp[m])) _ _ rfl rfl) (i2 (λa m=>k a (by simp[m])) vs os e4 e6)
 |tup e _ _ i1 i2=>
  intro vs os e1 e2;cases vs with
  |nil=>cases e1
  |cons v vs=>cases os with
   |nil=>cases e2
   |cons o os=>
    injection e1 with e3 e4;injection e2 with e5 e6;cases e3;cases e5;exact .tup (iL.of (k _ (by simp) _ e)) (i1 (λa m=>k a (by simp[m])) _ _ rfl rfl) (i2 (λa m=>k a (by simp[m])) vs os e4 e6)
 |@aK a kvs ps ep A B Z U e q r _ _ i1 i2=>
  intro vs os e1 e2;cases vs with
  |nil=>cases e1
  |cons v vs=>cases os with
   |nil=>cases e2
   |cons o os=>
    injection e1 with e3 e4;injection e2 with e5 e6;cases e3;cases e5;have hk:∀ps:List (TK×O),(O.dk ps).map (·.1)=ps.map (·.1)/\(O.dk ps).map (·.2)=O.dl (ps.map (·.2))/\(O.dk ps).map (·.1.d)=ps.map (·.1.d):=by
     intro ps
     induction ps with
     |nil=>exact⟨rfl,rfl,rfl⟩
     |cons p ps ih=>obtain⟨a,b⟩:=p;exact⟨by simp[O.dk,ih.1],by simp[O.dk,O.dl,ih.2.1],by simp[O.dk,ih.2.2]⟩
    refine .aK (k _ (by simp) _ e) (q.trans (hk ps).1.symm) (by rw[(hk ps).2.2];exact r.mono s) ?_ (i2 (λa m=>k a (by simp[m])) vs os e4 e6)
    rw[(hk ps).2.1];exact i1 (λa m=>k a (by simp[m])) _ _ (by simp) (by simp)
 |ins _ _ _ _ _ _ i2=>
  intro vs os e1 e2;cases vs with
  |nil=>cases e1
  |cons v vs=>cases os with
   |nil=>cases e2
   |cons o os=>
    injection e1 with e3 e4;injection e2 with e5 e6;cases e3;cases e5;exact .obj (i2 (λa m=>k a (by simp[m])) vs os e4 e6)
section
variable {K:L2.FG} {F H:Hp} {A:List Addr} {Z:St} {U:Gm}
theorem OK.freeze{v:V}{o:O}(k:OK K F H (some v::Z) (some o::U) A):∃F' A',OK K F' H (some v::Z) (some (.Y o.d)::U) A'/\Ext F H A F' H A':=by
 obtain⟨B,C,h1,h2,h3⟩:=k.os.one;subst h3;obtain⟨n1,n2,n3⟩:=hV.mp k.nd
 let F':Hp:=λa=>if a∈B then H a else F a
 have O8:∀a,a∈B->F' a=H a:=λa m=>if_pos m
 have ur:∀a,a∉B->F' a=F a:=λa m=>if_neg m
 have s:aH F F':=λa u e=>by
  rw[ur a λm=>by rw[k.fr a (lx _ m)] at e;cases e]
  exact e
 have le:aH F' H:=λa u e=>by
  by_cases m:a∈B
  ·rw[O8 a m] at e;exact e
  ·rw[ur a m] at e;exact k.le a u e
 have rp:au K F' [v] [o.d]:=h1.rep s (λa m u e=>by rw[O8 a m];exact e) [v] [o] rfl rfl
 refine⟨F',C,⟨le,.Y rp (h2.keep s λa _ u e=>e),n2,λa m=>?_⟩,s,λa u e _=>e,λa h=>h,λa h=>?_,λa m=>.inl (ja _ m),.same (aH.refl _)⟩
 ·rw[ur a λz=>n3 a z a m rfl]
  exact k.fr a (ja _ m)
 ·by_cases m:a∈B
  ·exact .inr (.inl (lx _ m))
  ·rw[ur a m] at h;exact .inl h
theorem OK.BH{v:V}{o:O}{i:Nat}{A:List Addr}(k:OK K F H (some v::Z) (none::U) A)(hv:Z[i]?=some (some v))(ho:U[i]?=some (some o)):∃A',OK K F H (some v::Z) (some o::U.set i none) A'/\Ext F H A F H A':=by
 obtain⟨B,C,h1,h2,h3⟩:=k.os.one;subst h3;have eB:B=[]:=by cases h1 with|skip t=>cases t;rfl
 subst eB;obtain⟨v',Ai,B',g1,g2,g3,g4⟩:=h2.take ho;rw[hv] at g1;cases g1;have nd:=k.nd;have fr:=k.fr;rw[iA] at nd fr;exact⟨Ai++B',.perm (g2.app g3) k.le nd fr g4.symm,Ext.iX Ext.refl λa m=>g4.mem_iff.mpr m⟩
end
noncomputable def gF(f:GE):GE:=λU=>(f U).bind λp=>match p.1 with
 |.own o=>some (.own (.Y o.d),p.2)
 |.var i=>match p.2[i]? with
  |some (some o)=>some (.own (.Y o.d),p.2.set i (some (.Y o.d)))
  |_=>none
 |_=>none
noncomputable def ji(f:GE):GE:=λU=>(f U).bind λp=>match p.1 with
 |.own o=>some (.own o,p.2)
 |.var i=>match p.2[i]? with
  |some (some o)=>some (.own o,p.2.set i none)
  |_=>none
 |_=>none
section
variable {X:Cx} {K:L2.FG} {e a b:Expr} {es:List Expr} {fa fb:GE} {fs:GA} {pos:Pos}
theorem tL{α:Type}:∀{l:List α} {i:Nat} {x:α},l[i]?=some x->l.set i x=l
 |[],_,_,e=>by simp at e
 |y::l,0,x,e=>by simp at e;subst e;rfl
 |y::l,i+1,x,e=>by rw[List.set_cons_succ,tL (by simpa using e)]
theorem dW.Y{F H:Hp}{A:List Addr}{Z:St}{U U1 U':Gm}{r r':R}{v:V}{H':Hp}{f:GE}(e:f U=some (r,U1))(e':gF f U=some (r',U'))(h:dW K F H A Z U1 [r] [v] H'):dW K F H A Z U' [r'] [v] H':=by
 obtain⟨F1,A1,x,k,hh⟩:=h;unfold gF at e';rw[e] at e';cases r with
 |own o=>
  cases e';obtain⟨F2,A2,k2,x2⟩:=OK.freeze (Z:=Z) (U:=U1) k;exact⟨F2,A2,x.trans x2,k2,True.intro⟩
 |var i=>
  dsimp only[Option.bind] at e';cases q:U1[i]? with
  |none=>rw[q] at e';cases e'
  |some z=>
   cases z with
   |none=>rw[q] at e';cases e'
   |some o=>
    rw[q] at e';cases e';have hv:Z[i]?=some (some v):=hh.1;obtain⟨A2,k2,x2⟩:=OK.BH (Z:=Z) (U:=U1) k hv q;obtain⟨F3,A3,k3,x3⟩:=OK.freeze k2;obtain⟨B,C,h1,h2,h3⟩:=k3.os.one;have hi:i < (U1.set i none).length:=by
     rw[uD];exact(iq.mp q).1
    have rp:au K F3 [v] [o.d]:=by cases h1 with|Y r _=>exact r
    have eB:B=[]:=by cases h1 with|Y _ t=>cases t;rfl
    subst eB;obtain⟨B2,g1,C2,g2,g3⟩:=ai.put (.Y rp .nil) i h2 hi;rw[tL hv,zu] at g1;rw[iA] at g2 h3;subst h3;have xu:B2.Nodup:=g2.nodup_iff.mpr (k3.nd.sublist g3);have sub:∀a∈B2,a∈A3:=λa m=>g3.subset (g2.mem_iff.mp m)
    exact⟨F3,B2,(x.trans (x2.trans x3)).iX sub,⟨k3.le,.Y rp g1,xu,λa m=>k3.fr a (sub a m)⟩,True.intro⟩
 |fld i j=>cases e'
theorem Tp{f:GE}{U U':Gm}{r:R}(e:gF f U=some (r,U')):∃r1 U1,f U=some (r1,U1):=by
 unfold gF at e;cases q:f U with
 |none=>rw[q] at e;cases e
 |some p=>exact⟨p.1,p.2,rfl⟩
theorem NY{Z:St}{H:Hp}{Q:VK}(t:tG K (gF fa) Z H Q):tG K fa Z H Q:=by
 obtain⟨F,A,U,rr,U',k,e,w⟩:=t;obtain⟨r1,U1,e1⟩:=Tp e;exact⟨F,A,U,r1,U1,k,e1,λv H' p=>w v H' (p.Y e1 e)⟩
theorem cW(h:PE X e (tG K fa)):PE X e (tG K (gF fa)):=h.mono λ_ _ _ t=>NY t
theorem U7{Z:St}{H:Hp}{Q:VK}(t:tG K (ji fa) Z H Q):tG K fa Z H Q:=by
 obtain⟨F,A,U,rr,U',k,e,w⟩:=t;unfold ji at e;cases q:fa U with
 |none=>rw[q] at e;cases e
 |some p=>
  rw[q] at e;refine⟨F,A,U,p.1,p.2,k,q,λv H' pp=>w v H' ?_⟩
  obtain⟨r,U1⟩:=p;cases r with
  |own o=>cases e;exact pp
  |var i=>
   dsimp only[Option.bind] at e;cases q:U1[i]? with
   |none=>rw[q] at e;cases e
   |some z=>
    cases z with
    |none=>rw[q] at e;cases e
    |some o=>
     rw[q] at e;cases e;obtain⟨F1,A1,x,k,hh⟩:=pp;obtain⟨A2,k2,x2⟩:=OK.BH (Z:=Z) (U:=U1) k hh.1 q;exact⟨F1,A2,x.trans x2,k2,True.intro⟩
  |fld i j=>cases e
theorem As(h:PE X e (tG K fa)):PE X e (tG K (ji fa)):=h.mono λ_ _ _ t=>U7 t
noncomputable def eY:List R->Option (List O)
 |[]=>some []
 |.own o::rs=>(eY rs).bind λos=>some (o::os)
 |_::_=>none
theorem pD:∀{rs:List R} {os:List O},eY rs=some os->rs.map R.o=os.map some
 |[],os,e=>by cases e;rfl
 |.own o::rs,os,e=>by
  unfold eY at e;cases q:eY rs with
  |none=>rw[q] at e;cases e
  |some vm=>rw[q] at e;cases e;simp[pD q,R.o]
 |.var _::_,_,e=>by cases e
 |.fld _ _::_,_,e=>by cases e
noncomputable def gS(c:List O->O)(fs:GA):GE:=λU=>(fs U).bind λp=>if p.1.length<=1000 then(eY p.1).bind λos=>some (.own (c os),p.2) else none
theorem Mf{c:List O->O}{U U':Gm}{r:R}(e:gS c fs U=some (r,U')):∃rs os,fs U=some (rs,U')/\rs.length<=1000/\eY rs=some os/\r=.own (c os):=by
 unfold gS at e;cases e1:fs U with
 |none=>rw[e1] at e;cases e
 |some p=>
  rw[e1] at e;dsimp only[Option.bind] at e;split at e
  ·cases e2:eY p.1 with
   |none=>rw[e2] at e;cases e
   |some os=>rw[e2] at e;cases e;exact⟨p.1,os,rfl,by assumption,e2,rfl⟩
  ·cases e
theorem pI(h:PA X es (gZ K fs)):PE X (.List es pos) (tG K (gS .lst fs)):=(WK h).mono λZ H Q t=>by
 obtain⟨F,A,U,rr,U',k,e,w⟩:=t;obtain⟨rs,os,e1,e2,e3,rfl⟩:=Mf e;refine⟨F,A,U,rs,U',k,e1,λvs H1 p=>?_⟩
 obtain⟨F1,A1,x,k1,hh⟩:=p;rw[pD e3] at k1;have hl:=hh.length;have ho:os.length=rs.length:=by have:=congrArg List.length (pD e3);simpa using this.symm
 refine⟨NX (by lia),λl hn=>w (.ref l) _ ?_⟩
 obtain⟨B,C,h1,h2,h3⟩:=ai.split (by simp only[bB];lia) k1.os
 have nl:∀a∈A1,a≠l:=λa m z=>k1.os.there a m (by rw[z];exact hn)
 have kp:∀a∈A1,∀o,H1 a=some o->upd H1 l (.lst vs) a=some o:=λa m o e=>by rw[cK (nl a m)];exact e
 subst h3;refine⟨F1,l::B++C,x.trans ⟨aH.refl _,λa o e _=>?_,λa h=>?_,λa h=>.inl h,λa m=>?_,.same (nu hn)⟩,⟨λa o e=>?_,?_,?_,?_⟩,True.intro⟩
 ·rw[cK (lU e hn)];exact e
 ·by_cases z:a=l
  ·rw[z,iU];exact λz=>by cases z
  ·rw[cK z];exact h
 ·rcases dZ.mp m with rfl|m
  ·exact .inr hn
  ·exact .inl m
 ·have:=k1.le a o e;rw[cK (lU this hn)];exact this
 ·exact .lst iU (h1.keep (aH.refl _) λa m=>kp a (lx _ m)) (h2.keep (aH.refl _) λa m=>kp a (ja _ m))
 ·exact j7.mpr ⟨λm=>nl l m rfl,k1.nd⟩
 ·intro a m;rcases dZ.mp m with rfl|m
  ·exact k1.le.free hn
  ·exact k1.fr a m
theorem kQ{x1}(h:PA X es (gZ K fs)):PE X (.Tuple es x1 pos) (tG K (gS .tup fs)):=(WJ h).mono λZ H Q t=>by
 obtain⟨F,A,U,rr,U',k,e,w⟩:=t;obtain⟨rs,os,e1,e2,e3,rfl⟩:=Mf e;refine⟨F,A,U,rs,U',k,e1,λvs H1 p=>?_⟩
 obtain⟨F1,A1,x,k1,hh⟩:=p;rw[pD e3] at k1;have hl:=hh.length;have ho:os.length=rs.length:=by have:=congrArg List.length (pD e3);simpa using this.symm
 refine⟨NX (by lia),λl hn=>w (.ref l) _ ?_⟩
 obtain⟨B,C,h1,h2,h3⟩:=ai.split (by simp only[bB];lia) k1.os
 have nl:∀a∈A1,a≠l:=λa m z=>k1.os.there a m (by rw[z];exact hn)
 have kp:∀a∈A1,∀o,H1 a=some o->upd H1 l (.tup vs) a=some o:=λa m o e=>by rw[cK (nl a m)];exact e
 subst h3;refine⟨F1,l::B++C,x.trans ⟨aH.refl _,λa o e _=>?_,λa h=>?_,λa h=>.inl h,λa m=>?_,.same (nu hn)⟩,⟨λa o e=>?_,?_,?_,?_⟩,True.intro⟩
 ·rw[cK (lU e hn)];exact e
 ·by_cases z:a=l
  ·rw[z,iU];exact λz=>by cases z
  ·rw[cK z];exact h
 ·rcases dZ.mp m with rfl|m
  ·exact .inr hn
  ·exact .inl m
 ·have:=k1.le a o e;rw[cK (lU this hn)];exact this
 ·exact .tup iU (h1.keep (aH.refl _) λa m=>kp a (lx _ m)) (h2.keep (aH.refl _) λa m=>kp a (ja _ m))
 ·exact j7.mpr ⟨λm=>nl l m rfl,k1.nd⟩
 ·intro a m;rcases dZ.mp m with rfl|m
  ·exact k1.le.free hn
  ·exact k1.fr a m
noncomputable def rf:GE:=λU=>some (.own (.aK []),U)
theorem Mg{P:Program}{w:World}{H:Hp}(h:Heap)(hb:sysModules < h.objs.size):cb P w H (h.push { cls:=.type "dict",data:=.dict #[]}) h.objs.size (.dG [] 0):=
 ⟨mE _,beq_eq_false_iff_ne.mpr (Ne.symm (i8 hb)),_,#[],mG _ rfl,⟨rfl,rfl,rfl⟩,rfl,.nil,zv⟩
def WU:TE:=λ_ H Q=>∀p,H p=none->Q (.ref p) (upd H p (.dG [] 0))
theorem rS:PE X (.Dict [] [] pos) WU:=λpins s Z H Q I h=>
 wpAny_Dict_empty ⟨.ref s.heap.objs.size,_,I.laid (a:=s.heap.objs.size) (o:=.dG [] 0) (t':=s.toks) (λ_ _ q=>iK _ q) (cP _) (Mg s.heap I.big),rfl,h _ (I.cx.fresh (cP _))⟩
theorem tM:PE X (.Dict [] [] pos) (tG K rf):=rS.mono λZ H Q t=>by
 obtain⟨F,A,U,rr,U',k,e,w⟩:=t;cases e;intro l hn;refine w (.ref l) _ ?_;have s:aH H (upd H l (.dG [] 0)):=nu hn;obtain⟨k2,x⟩:=k.push (v:=.ref l) (o:=.aK []) (Av:=[l]++[]++[]) s (.aK (kvs:=[]) iU rfl .nil .nil .nil) (by simp) (λa m=>by simp at m;rw[m];exact hn)
 exact⟨F,_,x,k2,True.intro⟩
noncomputable def gT(f:GE):GT:=λU=>(f U).bind λp=>match p.1 with
 |.own (.Y (.bl b))=>some (b,p.2)
 |_=>none
theorem dW.drop{F H:Hp}{A:List Addr}{Z:St}{U':Gm}{rs:List R}{vs:List V}{H':Hp}(h:dW K F H A Z U' rs vs H'):dW K F H A Z U' [] [] H':=by
 obtain⟨F1,A1,x,k,hh⟩:=h;obtain⟨B,kB,sub⟩:=k.part (by rw[bB,bB,hh.length])
 exact⟨F1,B,x.iX sub,kB,True.intro⟩
theorem dW.flat{F H:Hp}{A:List Addr}{Z:St}{U':Gm}{d:D}{v w:V}{H':Hp}(h:dW K F H A Z U' [.own (.Y d)] [v] H')(e:mM d=some w):v=w:=by
 obtain⟨F1,A1,x,k,hh⟩:=h;obtain⟨B,C,h1,_⟩:=ai.one (Z:=Z) (U:=U') k.os;cases h1 with
 |Y r _=>
  cases r with
  |flat e' _=>rw[e] at e';exact(Option.some.inj e').symm
  |lst _ _ _=>cases e
  |tup _ _ _=>cases e
  |aK _ _ _ _ _=>cases e
  |aS _ _=>cases e
  |exc _ _=>cases e
  |obj _=>cases e
theorem HZ{f:GE}{Z:St}{H:Hp}{Q:Bool->Hp->Prop}(t:g_ K (gT f) Z H Q):tG K f Z H λx H'=>∃k,x=.bl k/\Q k H':=by
 obtain⟨F,A,U,b,U',k,e,w⟩:=t;unfold gT at e;cases q:f U with
 |none=>rw[q] at e;cases e
 |some p=>
  obtain⟨r,U1⟩:=p;rw[q] at e;dsimp only[Option.bind] at e;cases r with
  |var i=>cases e
  |fld i j=>cases e
  |own o=>
   cases o with
   |Y d=>
    cases d with
    |bl b'=>
     cases e;exact⟨F,A,U,_,_,k,q,λv H' pp=>⟨_,pp.flat rfl,w H' pp.drop⟩⟩
    |_=>cases e
   |_=>cases e
theorem fX{op:CmpOp}{r:R2}{g:List O->Option O}(ho:fH X (compareOp op) r)(ok:cD K (mh r) g)(ha:PE X a (tG K fa))(hb:PE X b (tG K fb))(hm:behindInMarks op b=false:=by first|rfl|exact NU _):PT X (.Compare a [op] [b] pos) (g_ K (gT (gB g fa fb))):=
 (UH ho ha hb hm).mono λ_ _ _ t=>El ok (HZ t)
noncomputable def oa:O->Option Bool
 |.Y .aI=>some false
 |.Y (.bl b)=>some b
 |.Y (.int i)=>some (i != 0)
 |.Y (.str x)=>if x.length<=1000000 then some ((x.length:Int) != 0) else none
 |.Y (.lst xs)=>some (!xs.isEmpty)
 |.Y (.tup xs)=>some (!xs.isEmpty)
 |.lst xs=>some (!xs.isEmpty)
 |.tup xs=>some (!xs.isEmpty)
 |_=>none
noncomputable def dc(f:GE):GT:=λU=>(f U).bind λp=>(iI p.2 p.1).bind λo=>(oa o).bind λb=>some (b,p.2)
theorem Dt{α β:Type}{xs:List α}{ys:List β}(h:xs.length=ys.length):(!xs.isEmpty) = !ys.isEmpty:=by
 cases xs <;> cases ys <;> simp_all
theorem U8{F H:Hp}{v:V}{o:O}{b:Bool}{B:List Addr}(le:aH F H)(h:ai K F H [some v] [some o] B)(e:oa o=some b):tH K v H b:=by
 cases h with
 |lst q i _=>cases e;exact .inl ⟨_,dq.of q,Dt (by have:=i.length;simpa using this.symm)⟩
 |tup q i _=>cases e;exact .inr (.inl ⟨_,iL.of q,Dt (by have:=i.length;simpa using this.symm)⟩)
 |aK q z r i _=>cases e
 |ins _ _ _ _ _=>cases e
 |@Y v d Z U B r _=>
  cases r with
  |lst q i _=>cases e;exact .inl ⟨_,.inl (le.rd q),Dt i.length.symm⟩
  |tup q i _=>cases e;exact .inr (.inl ⟨_,le.ng q,Dt i.length.symm⟩)
  |aK q z r i _=>cases e
  |aS _ _=>cases e
  |exc _ _=>cases e
  |obj _=>cases e
  |flat q _=>
   cases d with
   |aI=>cases q;cases e;rfl
   |bl b'=>cases q;cases e;rfl
   |int i=>cases q;cases e;rfl
   |str x=>
    cases q;unfold oa at e;dsimp only at e;split at e
    ·cases e;exact⟨lQ (by assumption) (by decide),rfl⟩
    ·cases e
   |ty n=>cases e
   |lst _=>cases q
   |tup _=>cases q
   |aK _=>cases q
   |aS _=>cases q
   |exc _ _=>cases q
   |obj=>cases q
theorem kb{X:Cx}{a:Expr}{fa:GE}(ha:PE X a (tG K fa))(he:∀whole,isTrue a X.env whole=(do let v <-whole;standAt a.pos;holding [v] (truthy v)):=by exact λ_=>rfl)(hK:X.K=K:=by rfl):PT X a (g_ K (dc fa)):=
 (RE K ha he hK).mono λZ H Q t=>by
  obtain⟨F,A,U,b,U',k,e,w⟩:=t;unfold dc at e;cases q:fa U with
  |none=>rw[q] at e;cases e
  |some p=>
   obtain⟨r,U1⟩:=p;rw[q] at e;dsimp only[Option.bind] at e;cases q2:iI U1 r with
   |none=>rw[q2] at e;cases e
   |some o=>
    rw[q2] at e;dsimp only at e;cases q3:oa o with
    |none=>rw[q3] at e;cases e
    |some b'=>
     rw[q3] at e;cases e;refine⟨F,A,U,r,_,k,q,λv H' pp=>⟨_,?_,w H' pp.drop⟩⟩
     obtain⟨F1,le,eD,_⟩:=dW.res (Q:=λ_ _=>True) (o:=.Y .aI) pp (os:=[o]) (by unfold fD;rw[q2];rfl) (λ_ _ _=>True.intro)
     cases eD with
     |cons hs _=>obtain⟨B,hB⟩:=hs;exact U8 le hB q3
noncomputable def ez(f:GT):GT:=λU=>(f U).bind λp=>some (!p.1,p.2)
noncomputable def gR(f g:GT):GT:=λU=>(f U).bind λp=>if p.1=true then g p.2 else some (false,p.2)
noncomputable def lh(f g:GT):GT:=λU=>(f U).bind λp=>if p.1=true then some (true,p.2) else g p.2
theorem Hl{f:GT}{h:GT}{φ:Bool->GT}(eh:∀U,h U=(f U).bind λp=>φ p.1 p.2){Z:St}{H:Hp}{Q:Bool->Hp->Prop}(t:g_ K h Z H Q):g_ K f Z H λc H1=>g_ K (φ c) Z H1 Q:=by
 obtain⟨F,A,U,b,U',k,e,w⟩:=t;rw[eh] at e;cases q:f U with
 |none=>rw[q] at e;cases e
 |some p=>
  obtain⟨c,U1⟩:=p;rw[q] at e;refine⟨F,A,U,c,U1,k,q,λH1 pp=>?_⟩
  obtain⟨F1,A1,x,k1,_⟩:=pp;exact⟨F1,A1,U1,b,U',k1,e,λH2 p2=>w H2 (by obtain⟨F2,A2,x2,k2,h2⟩:=p2;exact⟨F2,A2,x.trans x2,k2,h2⟩)⟩
theorem DK{b:Bool}{Z:St}{H:Hp}{Q:Bool->Hp->Prop}(t:g_ K (λU=>some (b,U)) Z H Q):Q b H:=by
 obtain⟨F,A,U,b',U',k,e,w⟩:=t;cases e;exact w H ⟨F,A,Ext.refl,k,True.intro⟩
theorem g_.mono{f:GT}{Q1 Q2:Bool->Hp->Prop}{Z:St}{H:Hp}(t:g_ K f Z H Q1)(q:∀v H',Q1 v H'->Q2 v H'):g_ K f Z H Q2:=by
 obtain⟨F,A,U,rr,U',k,e,w⟩:=t;exact⟨F,A,U,rr,U',k,e,λH' p=>q _ _ (w H' p)⟩
variable {ft gt:GT} {rest:List Expr}
theorem pJ(h:PT X a (g_ K ft)):PT X (.UnaryOp .Not a pos) (g_ K (ez ft)):=(Wv h).mono λZ H Q t=>
 (Hl (φ:=λc U=>some (!c,U)) (λ_=>rfl) t).mono λc H1 h=>DK h
theorem yk(h:PT X a (g_ K ft)):PW X (.BoolOp .And [a] pos) (g_ K ft):=UB h
theorem yz(h:PT X a (g_ K ft)):PW X (.BoolOp .Or [a] pos) (g_ K ft):=Wt h
theorem sF(ha:PT X a (g_ K ft))(hb:PW X (.BoolOp .And (b::rest) pos) (g_ K gt)):PW X (.BoolOp .And (a::b::rest) pos) (g_ K (gR ft gt)):=(Wu ha hb).mono λZ H Q t=>
 (Hl (φ:=λc U=>if c=true then gt U else some (false,U)) (λ_=>rfl) t).mono λc H1 h=>by
  cases c with
  |true=>exact pU (by simpa using h)
  |false=>exact pT (DK (by simpa using h))
theorem wH(ha:PT X a (g_ K ft))(hb:PW X (.BoolOp .Or (b::rest) pos) (g_ K gt)):PW X (.BoolOp .Or (a::b::rest) pos) (g_ K (lh ft gt)):=(XN ha hb).mono λZ H Q t=>
 (Hl (φ:=λc U=>if c=true then some (true,U) else gt U) (λ_=>rfl) t).mono λc H1 h=>by
  cases c with
  |true=>exact pU (DK (by simpa using h))
  |false=>exact pT (by simpa using h)
noncomputable def t9(c:GT)(f g:GE):GE:=λU=>(c U).bind λp=>if p.1=true then f p.2 else g p.2
def kj(f g:GE):GE:=λU=>(gT f U).bind λp=>if p.1=true then g p.2 else gC (.bl false) p.2
def rD(f:GE):GE:=λU=>(gT f U).bind λp=>gC (.bl (!p.1)) p.2
theorem Iz{f:GT}{h:GE}{φ:Bool->GE}(eh:∀U,h U=(f U).bind λp=>φ p.1 p.2){Z:St}{H:Hp}{Q:VK}(t:tG K h Z H Q):g_ K f Z H λc H1=>tG K (φ c) Z H1 Q:=by
 obtain⟨F,A,U,b,U',k,e,w⟩:=t;rw[eh] at e;cases q:f U with
 |none=>rw[q] at e;cases e
 |some p=>
  obtain⟨c,U1⟩:=p;rw[q] at e;refine⟨F,A,U,c,U1,k,q,λH1 pp=>?_⟩
  obtain⟨F1,A1,x,k1,_⟩:=pp;exact⟨F1,A1,U1,b,U',k1,e,λv H2 p2=>w v H2 (by obtain⟨F2,A2,x2,k2,h2⟩:=p2;exact⟨F2,A2,x.trans x2,k2,h2⟩)⟩
theorem OI{d:D}{v:V}{Z:St}{H:Hp}{Q:VK}(t:tG K (gC d) Z H Q)(q:mM d=some v):Q v H:=by
 obtain⟨F,A,U,r,U',k,e,w⟩:=t;cases e;obtain⟨k2,x⟩:=k.push (v:=v) (o:=.Y d) (Av:=[]) (aH.refl _) (.Y (.flat q .nil) .nil) .nil (λ_ m=>by cases m)
 exact w v H ⟨F,_,x,k2,True.intro⟩
theorem EG{c:Expr}{fc:GT}(hc:PT X c (g_ K fc))(ha:PE X a (tG K fa))(hb:PE X b (tG K fb)):PE X (.IfExp c a b pos) (tG K (t9 fc fa fb)):=(SY hc ha hb).mono λZ H Q t=>
 (Iz (φ:=λc U=>if c=true then fa U else fb U) (λ_=>rfl) t).mono λc H1 h=>by
  cases c with
  |true=>exact pU (by simpa using h)
  |false=>exact pT (by simpa using h)
theorem IA{op}(h:PE X a (tG K fa)):PE X (.BoolOp op [a] pos) (tG K fa):=Ww h
theorem AH(ha:PE X a (tG K fa))(hb:PE X (.BoolOp .And (b::rest) pos) (tG K fb)):PE X (.BoolOp .And (a::b::rest) pos) (tG K (kj fa fb)):=(Wx ha hb).mono λZ H Q t=>
 tG.mono (HZ (Iz (φ:=λc U=>if c=true then fb U else gC (.bl false) U) (λ_=>rfl) t)) λv H1 ⟨c,e,h⟩=>⟨c,e,by
  cases c with
  |true=>exact pU (by simpa using h)
  |false=>exact pT (OI (d:=.bl false) (by simpa using h) rfl)⟩
theorem WV(ha:PE X a (tG K fa)):PE X (.UnaryOp .Not a pos) (tG K (rD fa)):=(Wy ha).mono λZ H Q t=>
 tG.mono (HZ (Iz (φ:=λc=>gC (.bl (!c))) (λ_=>rfl) t)) λv H1 ⟨c,e,h⟩=>⟨c,e,OI h rfl⟩
end
def aJ(A B:List Addr):Prop:=∃L,A.Perm L/\L.Sublist B
theorem aJ.refl(A:List Addr):aJ A A:=⟨A,.refl _,List.Sublist.refl _⟩
theorem aJ.aZ{A B:List Addr}(p:A.Perm B):aJ A B:=⟨B,p,List.Sublist.refl _⟩
theorem aJ.aP{A B:List Addr}(p:A.Sublist B):aJ A B:=⟨A,.refl _,p⟩
theorem aJ.trans{A B C:List Addr}(x:aJ A B)(y:aJ B C):aJ A C:=by
 obtain⟨L,p,s⟩:=x;obtain⟨M,q,t⟩:=y;obtain⟨N,n1,n2⟩:=List.exists_perm_sublist s q;exact⟨N,p.trans n1.symm,n2.trans t⟩
theorem aJ.mem{A B:List Addr}(x:aJ A B):∀a∈A,a∈B:=λa m=>let ⟨_,p,s⟩:=x;s.subset (p.mem_iff.mp m)
theorem aJ.nodup{A B:List Addr}(x:aJ A B)(n:B.Nodup):A.Nodup:=let ⟨_,p,s⟩:=x;p.nodup_iff.mpr (n.sublist s)
theorem aJ.app{A B C D:List Addr}(x:aJ A B)(y:aJ C D):aJ (A++C) (B++D):=let ⟨_,p,s⟩:=x;let ⟨_,q,t⟩:=y;⟨_,p.append q,s.append t⟩
theorem OK.sub{K:L2.FG}{F H:Hp}{Z Z':St}{U U':Gm}{A B:List Addr}(k:OK K F H Z U A)(h:ai K F H Z' U' B)(s:aJ B A):OK K F H Z' U' B/\Ext F H A F H B:=
 ⟨⟨k.le,h,s.nodup k.nd,λa m=>k.fr a (s.mem a m)⟩,Ext.iX Ext.refl s.mem⟩
inductive Fl where
 |nx|bk|ct|rt (o:O)
abbrev GS:=Gm->Option (Fl×Gm)
def Kept(m:List Bool)(Z Z':St):Prop:=∀j:Nat,m[j]?=some true->Z'[j]?=Z[j]?
theorem Kept.refl{m:List Bool}{Z:St}:Kept m Z Z:=λ_ _=>rfl
theorem Kept.trans{m:List Bool}{Z Z1 Z2:St}(a:Kept m Z Z1)(b:Kept m Z1 Z2):Kept m Z Z2:=λj h=>(b j h).trans (a j h)
theorem Kept.set{m:List Bool}{Z:St}{i:Nat}{v:Option V}(h:(m[i]? == some true)=false):Kept m Z (Z.set i v):=λj hj=>by
 by_cases e:i=j
 ·subst e;rw[hj] at h;simp at h
 ·rw[FC e]
def qT(K:L2.FG)(F H:Hp)(A:List Addr)(m:List Bool)(Z:St)(U':Gm)(Z':St)(H':Hp):Prop:=∃F' A',Ext F H A F' H' A'/\OK K F' H' Z' U' A'/\Kept m Z Z'
def ow(K:L2.FG)(F H:Hp)(A:List Addr)(m:List Bool)(Z:St)(U':Gm)(o:O)(v:V)(Z':St)(H':Hp):Prop:=∃F' A',Ext F H A F' H' A'/\OK K F' H' (some v::Z') (some o::U') A'/\Kept m Z Z'
abbrev XW:=Addr->Option Addr->St->Hp->Prop
noncomputable def Pb:O->Option (Addr×Option Int)
 |.Y (.exc C l)=>some (C,l)
 |_=>none
def FK(F:Hp)(dx:Option Addr):Option Int->Prop
 |none=>dx=none
 |some n=>∃d,dx=some d/\F d=some (.xd [("line",.int n)])
def zL(K:L2.FG)(F H:Hp)(A:List Addr)(m:List Bool)(Z:St)(U':Gm)(l:Option Int)(dx:Option Addr)(Z':St)(H':Hp):Prop:=∃F' A',Ext F H A F' H' A'/\OK K F' H' Z' U' A'/\Kept m Z Z'/\FK F' dx l
def lz(K:L2.FG)(m:List Bool)(D:Ends)(F H:Hp)(A:List Addr)(Z:St)(o:O)(U':Gm):Option XW->Prop
 |none=>∀v Z' H',ow K F H A m Z U' o v Z' H'->D.rt v H'
 |some W=>match Pb o with
  |some p=>∀dx Z' H',zL K F H A m Z U' p.2 dx Z' H'->W p.1 dx Z' H'
  |none=>∀v Z' H',ow K F H A m Z U' o v Z' H'->D.rt v H'
def Done(K:L2.FG)(m:List Bool)(W:Option XW)(D:Ends)(F H:Hp)(A:List Addr)(Z:St):Fl->Gm->Prop
 |.nx,U'=>∀Z' H',qT K F H A m Z U' Z' H'->D.nx Z' H'
 |.bk,U'=>∀Z' H',qT K F H A m Z U' Z' H'->D.bk Z' H'
 |.ct,U'=>∀Z' H',qT K F H A m Z U' Z' H'->D.ct Z' H'
 |.rt o,U'=>lz K m D F H A Z o U' W
def tS(K:L2.FG)(m:List Bool)(W:Option XW)(f:GS):TS:=λD Z H=>∃F A U fl U',OK K F H Z U A/\f U=some (fl,U')/\Done K m W D F H A Z fl U'
theorem lz.imp{K:L2.FG}{m:List Bool}{W:Option XW}{D D1:Ends}{F H F1 H1:Hp}{A A1:List Addr}{Z Z1:St}{o:O}{U':Gm}(d:lz K m D F H A Z o U' W)(x:Ext F H A F1 H1 A1)(kp:Kept m Z Z1)(h:∀v H,D.rt v H->D1.rt v H):lz K m D1 F1 H1 A1 Z1 o U' W:=by
 have pv:(∀v Z' H',ow K F H A m Z U' o v Z' H'->D.rt v H')->∀v Z' H',ow K F1 H1 A1 m Z1 U' o v Z' H'->D1.rt v H':=λd v Z' H' ⟨F',A',x',k,q⟩=>h v H' (d v Z' H' ⟨F',A',x.trans x',k,kp.trans q⟩)
 cases W with
 |none=>exact pv d
 |some W=>
  unfold lz at d ⊢;cases q:Pb o with
  |none=>rw[q] at d;exact pv d
  |some p=>
   rw[q] at d;exact λdx Z' H' ⟨F',A',x',k,q,r⟩=>d dx Z' H' ⟨F',A',x.trans x',k,kp.trans q,r⟩
theorem Done.step{K:L2.FG}{m:List Bool}{W:Option XW}{D:Ends}{F H F1 H1:Hp}{A A1:List Addr}{Z Z1:St}{fl:Fl}{U':Gm}(d:Done K m W D F H A Z fl U')(x:Ext F H A F1 H1 A1)(kp:Kept m Z Z1):Done K m W D F1 H1 A1 Z1 fl U':=by
 cases fl with
 |nx=>exact λZ' H' ⟨F',A',x',k,q⟩=>d Z' H' ⟨F',A',x.trans x',k,kp.trans q⟩
 |bk=>exact λZ' H' ⟨F',A',x',k,q⟩=>d Z' H' ⟨F',A',x.trans x',k,kp.trans q⟩
 |ct=>exact λZ' H' ⟨F',A',x',k,q⟩=>d Z' H' ⟨F',A',x.trans x',k,kp.trans q⟩
 |rt o=>exact lz.imp d x kp λ_ _ z=>z
section
variable {X:Cx} {K:L2.FG} {m:List Bool} {W:Option XW} {st:Stmt} {rest sa sb:List Stmt} {e:Expr} {f g:GS} {fa:GE} {ft:GT} {pos:Pos}
noncomputable def aQ:GS:=λU=>some (.nx,U)
noncomputable def aW(f g:GS):GS:=λU=>(f U).bind λp=>match p.1 with
 |.nx=>g p.2
 |.bk=>some (.bk,p.2)
 |.ct=>some (.ct,p.2)
 |.rt o=>some (.rt o,p.2)
theorem gM:jt X [] (tS K m W aQ):=uw.mono λD Z H t=>by
 obtain⟨F,A,U,fl,U',k,e,w⟩:=t;cases e;exact w Z H ⟨F,A,Ext.refl,k,Kept.refl⟩
theorem bf(h1:PS X st (tS K m W f))(h2:jt X rest (tS K m W g)):jt X (st::rest) (tS K m W (aW f g)):=(S2 h1 h2).mono λD Z H t=>by
 obtain⟨F,A,U,fl,U',k,e,w⟩:=t;unfold aW at e;cases q:f U with
 |none=>rw[q] at e;cases e
 |some p=>
  obtain⟨BE,U1⟩:=p;rw[q] at e;dsimp only[Option.bind] at e;refine⟨F,A,U,BE,U1,k,q,?_⟩;cases BE with
  |nx=>
   intro Z' H' ⟨F1,A1,x,k1,kp⟩;exact⟨F1,A1,U1,fl,U',k1,e,w.step x kp⟩
  |bk=>cases e;exact w
  |ct=>cases e;exact w
  |rt o=>cases e;exact w
theorem bV(h1:PS X st (tS K m W f)):jt X [st] (tS K m W f):=UC h1
noncomputable def aR(f:GE):GS:=λU=>(f U).bind λp=>match p.1 with
 |.own o=>some (.rt o,p.2)
 |_=>none
theorem gp(h:PE X e (tG K fa)):PS X (.Return (some e) pos) (tS K m none (aR fa)):=(Wz h).mono λD Z H t=>by
 obtain⟨F,A,U,fl,U',k,e,w⟩:=t;unfold aR at e;cases q:fa U with
 |none=>rw[q] at e;cases e
 |some p=>
  obtain⟨r,U1⟩:=p;rw[q] at e;cases r with
  |var i=>cases e
  |fld i j=>cases e
  |own o=>
   cases e;exact⟨F,A,U,_,_,k,q,λv H' ⟨F1,A1,x,k1,_⟩=>w v Z H' ⟨F1,A1,x,k1,Kept.refl⟩⟩
noncomputable def bQ(c:GT)(f g:GS):GS:=λU=>(c U).bind λp=>if p.1=true then f p.2 else g p.2
theorem gz{c:Expr}(hc:PT X c (g_ K ft))(ha:jt X sa (tS K m W f))(hb:jt X sb (tS K m W g)):PS X (.If c sa sb pos) (tS K m W (bQ ft f g)):=(XO hc ha hb).mono λD Z H t=>by
 obtain⟨F,A,U,fl,U',k,e,w⟩:=t;unfold bQ at e;cases q:ft U with
 |none=>rw[q] at e;cases e
 |some p=>
  obtain⟨b,U1⟩:=p;rw[q] at e;refine⟨F,A,U,b,U1,k,q,λH1 hh=>?_⟩
  obtain⟨F1,A1,x,k1,_⟩:=hh;cases b with
  |true=>exact pU ⟨F1,A1,U1,fl,U',k1,e,w.step x Kept.refl⟩
  |false=>exact pT ⟨F1,A1,U1,fl,U',k1,e,w.step x Kept.refl⟩
noncomputable def iO(f:GE):GS:=λU=>(f U).bind λp=>some (.nx,p.2)
theorem jS(he:PE X e (tG K fa))(hs:swapsWith e none pos.line X.env=pure false:=by rfl):PS X (.Expr e pos) (tS K m W (iO fa)):=(UD he hs).mono λD Z H t=>by
 obtain⟨F,A,U,fl,U',k,e,w⟩:=t;unfold iO at e;cases q:fa U with
 |none=>rw[q] at e;cases e
 |some p=>
  rw[q] at e;cases e;exact⟨F,A,U,p.1,p.2,k,q,λv H' pp=>by obtain⟨F1,A1,x,k1,_⟩:=pp.drop;exact w Z H' ⟨F1,A1,x,k1,Kept.refl⟩⟩
noncomputable def aF(i:Nat)(f:GE):GS:=λU=>(f U).bind λp=>match p.1 with
 |.own o=>if i < p.2.length then some (.nx,p.2.set i (some o)) else none
 |_=>none
theorem OK.store{F H:Hp}{A:List Addr}{Z:St}{U:Gm}{v:V}{o:O}{i:Nat}(k:OK K F H (some v::Z) (some o::U) A)(hi:i < U.length):∃B,OK K F H (Z.set i (some v)) (U.set i (some o)) B/\Ext F H A F H B:=by
 obtain⟨B,C,h1,h2,h3⟩:=k.os.one;obtain⟨B2,g1,C2,g2,g3⟩:=ai.put h1 i h2 hi;subst h3;exact⟨B2,k.sub g1 ((aJ.aZ g2).trans ((aJ.refl B).app (.aP g3)))⟩
theorem dM{i:Nat}{x:Str}{pos':Pos}(hN:X.N.Nodup)(hi:X.N[i]?=some x)(hx:Loc X.env.scope x)(he:PE X e (tG K fa))(hm:(m[i]? == some true)=false:=by rfl)(hs:swapsWith e (some (.Name x pos')) pos.line X.env=pure false:=by rfl)(hf:X.fn x=true\/X.env.scope.names.lookup x=some .local := by first|exact .inl rfl|exact .inr rfl):
  PS X (.Assign [.Name x pos'] e pos) (tS K m W (aF i fa)):=(WA hN hi hx he hs hf).mono λD Z H t=>by
 obtain⟨F,A,U,fl,U',k,e,w⟩:=t;unfold aF at e;cases q:fa U with
 |none=>rw[q] at e;cases e
 |some p=>
  obtain⟨r,U1⟩:=p;rw[q] at e;cases r with
  |var i=>cases e
  |fld i j=>cases e
  |own o=>
   dsimp only[Option.bind] at e;split at e
   ·cases e;refine⟨F,A,U,_,U1,k,q,λv H' hh=>?_⟩
    obtain⟨F1,A1,x,k1,_⟩:=hh;obtain⟨B,k2,x2⟩:=OK.store (Z:=Z) (U:=U1) k1 (by assumption)
    exact w _ H' ⟨F1,B,x.trans x2,k2,Kept.set hm⟩
   ·cases e
abbrev GG:=D->Gm->Option Gm
def gX(K:L2.FG)(m:List Bool)(t:TG)(g:GG):Prop:=
 ∀(F H:Hp) (Z:St) (U U1:Gm) (A:List Addr) (x:V) (d:D) (Q:St->Hp->Prop),OK K F H Z U A->au K F [x] [d]->g d U=some U1->(∀Z' A',OK K F H Z' U1 A'->Ext F H A F H A'->Kept m Z Z'->Q Z' H)->t x Z H Q
noncomputable def aX(i:Nat):GG:=λd U=>if i < U.length then some (U.set i (some (.Y d))) else none
theorem fm{i:Nat}(hm:(m[i]? == some true)=false:=by rfl):gX K m (rC i) (aX i):=by
 intro F H Z U U1 A x d Q k r e w;unfold aX at e;split at e
 ·cases e;obtain⟨k1,x1⟩:=k.push (v:=x) (o:=.Y d) (Av:=[]) (aH.refl _) (.Y r .nil) .nil (λ_ m=>by cases m)
  obtain⟨B,k2,x2⟩:=OK.store k1 (by assumption)
  exact w _ _ k2 (x1.trans x2) (Kept.set hm)
 ·cases e
noncomputable def ie:List GG->List D->Gm->Option Gm
 |[],[],U=>some U
 |g::gs,d::ds,U=>(g d U).bind λU1=>ie gs ds U1
 |_,_,_=>none
def oz(K:L2.FG)(m:List Bool)(t:sj)(g:List GG):Prop:=
 ∀(F H:Hp) (Z:St) (U U1:Gm) (A:List Addr) (xs:List V) (ds:List D) (Q:St->Hp->Prop),OK K F H Z U A->au K F xs ds->ie g ds U=some U1->(∀Z' A',OK K F H Z' U1 A'->Ext F H A F H A'->Kept m Z Z'->Q Z' H)->t xs Z H Q
theorem wg:oz K m BF []:=by
 intro F H Z U U1 A xs ds Q k r e w;cases ds with
 |nil=>
  cases e;cases xs with
  |nil=>exact⟨rfl,w Z A k Ext.refl Kept.refl⟩
  |cons _ _=>have:=r.length;simp at this
 |cons _ _=>cases e
theorem lB{t:TG}{ts:sj}{g:GG}{gs:List GG}(h1:gX K m t g)(h2:oz K m ts gs):oz K m (L2.vb t ts) (g::gs):=by
 intro F H Z U U1 A xs ds Q k r e w;cases ds with
 |nil=>cases e
 |cons d ds=>
  cases xs with
  |nil=>have:=r.length;simp at this
  |cons x xs=>
   unfold ie at e;cases q:g d U with
   |none=>rw[q] at e;cases e
   |some U2=>
    rw[q] at e;refine⟨x,xs,rfl,h1 F H Z U U2 A x d _ k r.inv.1 q λZ1 A1 k1 x1 ZK=>?_⟩
    exact h2 F H Z1 U2 U1 A1 xs ds _ k1 r.inv.2 e λZ2 A2 k2 x2 qI=>w Z2 A2 k2 (x1.trans x2) (ZK.trans qI)
noncomputable def cT(gs:List GG):GG:=λd U=>match d with
 |.tup ds=>ie gs ds U
 |_=>none
theorem LJ:∀{gs:List GG} {ds:List D} {U U1:Gm},ie gs ds U=some U1->ds.length=gs.length
 |[],[],_,_,_=>rfl
 |g::gs,d::ds,U,U1,e=>by
  unfold ie at e;cases q:g d U with
  |none=>rw[q] at e;cases e
  |some U2=>rw[q] at e;simp[LJ (gs:=gs) (ds:=ds) e]
 |[],_::_,_,_,e=>by cases e
 |_::_,[],_,_,e=>by cases e
theorem wx{ts:sj}{gs:List GG}{n:Nat}(h:oz K m ts gs)(hn:n=gs.length:=by rfl):gX K m (BG K n ts) (cT gs):=by
 intro F H Z U U1 A x d Q k r e w;cases d with
 |tup ds=>
  have e:ie gs ds U=some U1:=e;cases r with
  |flat z _=>cases z
  |tup q i _=>exact⟨_,_,rfl,k.le.ng q,by rw[hn,i.length,LJ e],h F H Z U U1 A _ ds Q k i e w⟩
 |_=>cases e
noncomputable def iD(g:GG)(f:GS):List D->GS
 |[]=>λU=>some (.nx,U)
 |d::ds=>λU=>(g d U).bind λU1=>(f U1).bind λq=>match q.1 with
   |.nx=>iD g f ds q.2
   |.ct=>iD g f ds q.2
   |.bk=>some (.nx,q.2)
   |.rt o=>some (.rt o,q.2)
theorem LK{t:TG}{g:GG}(tg:gX K m t g){F H:Hp}{Z:St}{U U':Gm}{A:List Addr}{x:V}{d:D}{ds:List D}{fl:Fl}{E:Ends}{Pv:St->Hp->Prop}(k:OK K F H Z U A)(r:au K F [x] [d])
  (e:iD g f (d::ds) U=some (fl,U')) (w:Done K m W E F H A Z fl U')
  (Ph:∀F1 H1 Z1 U1 A1,Ext F H A F1 H1 A1->OK K F1 H1 Z1 U1 A1->iD g f ds U1=some (fl,U')->Done K m W E F1 H1 A1 Z1 fl U'->Pv Z1 H1):t x Z H λZ2 H2=>tS K m W f { E with nx:=Pv,ct:=Pv,bk:=E.nx} Z2 H2:=by
 unfold iD at e;cases q:g d U with
 |none=>rw[q] at e;cases e
 |some U1=>
  rw[q] at e;dsimp only[Option.bind] at e;cases q2:f U1 with
  |none=>rw[q2] at e;cases e
  |some p=>
   obtain⟨BE,U2⟩:=p;rw[q2] at e;dsimp only at e;refine tg F H Z U U1 A x d _ k r q λZ1 A1 k1 x1 kp=>⟨F,A1,U1,BE,U2,k1,q2,?_⟩
   have w1:=w.step x1 kp;cases BE with
   |nx=>exact λZ' H' ⟨F2,A2,x2,k2,qI⟩=>Ph F2 H' Z' U2 A2 (x1.trans x2) k2 e (w1.step x2 qI)
   |ct=>exact λZ' H' ⟨F2,A2,x2,k2,qI⟩=>Ph F2 H' Z' U2 A2 (x1.trans x2) k2 e (w1.step x2 qI)
   |bk=>cases e;exact w1
   |rt o=>cases e;exact w1
theorem Tq{g:GG}{F H:Hp}{Z:St}{U U':Gm}{A:List Addr}{fl:Fl}{E:Ends}(k:OK K F H Z U A)(e:iD g f [] U=some (fl,U'))(w:Done K m W E F H A Z fl U'):E.nx Z H:=by
 cases e;exact w Z H ⟨F,A,Ext.refl,k,Kept.refl⟩
noncomputable def eA(it:GE)(g:GG)(f:GS):GS:=λU=>(gF it U).bind λp=>match p.1 with
 |.own (.Y (.lst ds))=>iD g f ds p.2
 |_=>none
variable {tg iter:Expr} {t:TG} {gg:GG} {body:List Stmt}
def LI(K:L2.FG)(m:List Bool)(W:Option XW)(gg:GG)(f:GS)(E:Ends)(F1:Hp)(fl:Fl)(U':Gm)(ds:List D)(i:Nat)(Z:St)(H:Hp):Prop:=∃F A U,OK K F H Z U A/\iD gg f (ds.drop i) U=some (fl,U')/\Done K m W E F H A Z fl U'/\aH F1 F
section
variable {F1 H1:Hp} {Z:St} {ds:List D} {i:Nat} {E:Ends} {fl:Fl} {U':Gm}
theorem LI.same(p:LI K m W gg f E F1 fl U' ds i Z H1):aH F1 H1:=by
 obtain⟨F',A',Uc,k',e',w',s'⟩:=p;exact s'.trans k'.le
theorem LI.turn(p:LI K m W gg f E F1 fl U' ds i Z H1)(ht:gX K m t gg){x:V}{d:D}(hd:ds[i]?=some d)(r:au K F1 [x] [d]):t x Z H1 λZ2 H2=>tS K m W f { E with nx:=LI K m W gg f E F1 fl U' ds (i+1),ct:=LI K m W gg f E F1 fl U' ds (i+1),bk:=E.nx} Z2 H2:=by
 obtain⟨F',A',Uc,k',e',w',s'⟩:=p;obtain⟨hi,he⟩:=iq.mp hd;rw[Ft hi,he] at e';exact LK ht k' (r.mono s') e' w' λF2 H2 Z2 U2 A2 x2 k2 e2 w2=>⟨F2,A2,U2,k2,e2,w2,s'.trans x2.ff⟩
theorem LI.step(p:LI K m W gg f E F1 fl U' ds i Z H1)(ht:gX K m t gg){ws:List V}(ri:au K F1 ws ds){x:V}(hx:ws[i]?=some x):t x Z H1 λZ2 H2=>tS K m W f { E with nx:=LI K m W gg f E F1 fl U' ds (i+1),ct:=LI K m W gg f E F1 fl U' ds (i+1),bk:=E.nx} Z2 H2:=by
 have hi:i < ds.length:=by rw[<-ri.length];exact(iq.mp hx).1
 obtain⟨x2,vg,rx⟩:=ri.get (jW hi);rw[hx] at vg;cases vg;exact p.turn ht (jW hi) rx
theorem LI.fin(p:LI K m W gg f E F1 fl U' ds i Z H1)(h:ds.length<=i):E.nx Z H1:=by
 obtain⟨F',A',Uc,k',e',w',s'⟩:=p;rw[KH h] at e';exact Tq k' e' w'
theorem LI.start{F H:Hp}{A A1:List Addr}{v:V}{d:D}{U1:Gm}(k1:OK K F1 H1 (some v::Z) (some (.Y d)::U1) A1)(x:Ext F H A F1 H1 A1)(w:Done K m W E F H A Z fl U')(e:iD gg f ds U1=some (fl,U')):au K F1 [v] [d]/\LI K m W gg f E F1 fl U' ds 0 Z H1:=by
 obtain⟨B,C,h1,h2,h3⟩:=ai.one (Z:=Z) (U:=U1) k1.os;subst h3;cases h1 with
 |Y rp tl=>exact⟨rp,F1,_,U1,(k1.sub h2 (.aP (ly _ _))).1,e,w.step (x.iX λa m=>ja _ m) Kept.refl,aH.refl _⟩
theorem U9{α:Type}{φ:List D->Gm->Option α}{z:α}{U:Gm}(e:((gF fa U).bind λp=>match p.1 with|.own (.Y (.lst ds))=>φ ds p.2|_=>none)=some z):∃ds U1,gF fa U=some (.own (.Y (.lst ds)),U1)/\φ ds U1=some z:=by
 obtain⟨⟨r,U1⟩,q,e⟩:=cV.mp e;dsimp only at e;split at e
 ·exact⟨_,U1,q,e⟩
 ·cases e
theorem M4{v:V}(h:au K F1 [v] [.lst ds]):∃a ws,v=.ref a/\Rd F1 a (.lst ws)/\au K F1 ws ds:=by
 cases h with
 |flat z _=>cases z
 |@lst a ws vs es sN sq ri _=>exact⟨a,ws,rfl,sq,ri⟩
end
theorem rh(hp:PassesOwn (model X.prog X.w) X.A X.env X.xe)(hi:PE X iter (tG K fa))(hg:PG X tg t)(ht:gX K m t gg)(hb:jt X body (tS K m W f))(hc:X.calm=true:=by rfl)(hK:X.K=K:=by rfl)(hs:∀x,foldedSetIterable iter X.env x=pure x:=by intro _;rfl):PS X (.For tg iter body [] pos) (tS K m W (eA fa gg f)):=by
 subst hK;refine(Ek hp hc (MW (cW hi)) hg hb hs).mono λD Z H tt=>?_
 obtain⟨F,A,U,fl,U',k,e,w⟩:=tt;obtain⟨ds,U1,q,e⟩:=U9 (φ:=λds U=>iD gg f ds U) e
 refine⟨F,A,U,_,U1,k,q,λv H1 pp=>?_⟩
 obtain⟨F1,A1,x,k1,_⟩:=pp;obtain⟨rp,st⟩:=LI.start k1 x w e;obtain⟨a,ws,rfl,sq,ri⟩:=M4 rp;exact⟨a,rfl,⟨ws,.inl (k1.le.rd sq)⟩,S4 (xs:=ws) (LI X.K m W gg f D F1 fl U' ds) st (λi Z' H' _ p=>.inl (p.same.rd sq)) (λi x' Z' H' hx p=>p.step ht ri hx) λZ' H' p=>p.fin (by rw[ri.length];exact cP _)⟩
end
noncomputable def ig(lo:Int)(n:Nat):List D:=(List.range n).map λ(k:Nat)=>D.int (lo+(k:Int))
noncomputable def rY(lo c:Int)(n:Nat):List D:=(List.range n).map λ(k:Nat)=>D.int (lo+(k:Int) * c)
theorem P7{α:Type}(h:Nat->α){i n:Nat}(hi:i < n):((List.range n).map h).drop i=h i::((List.range n).map h).drop (i+1):=by
 have e:i < ((List.range n).map h).length:=by simpa using hi
 rw[Ft e];simp
noncomputable def gY:List R->Option Int
 |[.own (.Y (.int j))]=>if Nat.ble j.natAbs 1000000000000=true then some j else none
 |_=>none
theorem Mh{rs:List R}{j:Int}(e:gY rs=some j):rs=[.own (.Y (.int j))] /\ -(2 ^ 62)<=j/\j < 2 ^ 62:=by
 unfold gY at e;split at e
 ·split at e
  ·rename_i h
   have h:=Nat.le_of_ble_eq_true h;cases e;exact⟨rfl,by lia,by lia⟩
  ·cases e
 ·cases e
theorem fN{j:Int}(h:j.natAbs<=1000000):gY [.own (.Y (.int j))]=some j:=by
 unfold gY;dsimp only;rw[if_pos (Nat.ble_eq_true_of_le (by lia))]
noncomputable def yd(fs:GA)(g:GG)(f:GS):GS:=λU=>(fs U).bind λp=>(gY p.1).bind λj=>iD g f (ig 0 j.toNat) p.2
section
variable {X:Cx} {K:L2.FG} {m:List Bool} {W:Option XW} {f:GS} {fa:GE} {fs:GA} {pos p:Pos} {tg a b c:Expr} {t:TG} {gg:GG} {body:List Stmt}
theorem wj{F H:Hp}{Z:St}{U:Gm}{A:List Addr}{v:V}{i:Int}(h:ai K F H (some v::Z) (some (.Y (.int i))::U) A):v=.int i/\ai K F H Z U A:=by
 cases h with
 |Y r t=>
  cases r with
  |flat e _=>cases e;exact⟨rfl,t⟩
theorem OC{α:Type}:∀{l:List α},1=l.length->∃a,l=[a]
 |[a],_=>⟨a,rfl⟩
theorem EH{α:Type}:∀{l:List α},2=l.length->∃a b,l=[a,b]
 |[a,b],_=>⟨a,b,rfl⟩
theorem EI{α:Type}:∀{l:List α},3=l.length->∃a b c,l=[a,b,c]
 |[a,b,c],_=>⟨a,b,c,rfl⟩
theorem LI.ints{F1 H1:Hp}{Z:St}{E:Ends}{fl:Fl}{U' U1:Gm}{F H:Hp}{A A1:List Addr}{τ:St}{Θ:Gm}{ds:List D}(k1:OK K F1 H1 τ Θ A1)(h:ai K F1 H1 Z U1 A1)(x:Ext F H A F1 H1 A1)(w:Done K m W E F H A Z fl U')(e:iD gg f ds U1=some (fl,U')):LI K m W gg f E F1 fl U' ds 0 Z H1:=
 ⟨F1,A1,U1,(k1.sub h (aJ.refl _)).1,e,w.step x Kept.refl,aH.refl _⟩
theorem NZ{g:Nat->D}{n i:Nat}(h:i < n):((List.range n).map g)[i]?=some (g i):=by rw[iz,Fu h];rfl
theorem Dy(hp:PassesOwn (model X.prog X.w) X.A X.env X.xe)(hm:X.mg "range"=none)(ha:PA X [a] (gZ K fs))(hg:PG X tg t)(ht:gX K m t gg)(hb:jt X body (tS K m W f))(hc:X.calm=true:=by rfl)(rF:Gl X "range":=by rfl)
  (hs:starEach [a] X.env=[(false,eval a X.env)]:=by rfl) (hf:∀x,foldedSetIterable (.Call (.Name "range" p) [a] [] pos) X.env x=pure x:=by intro _;rfl) {fp:Pos}:PS X (.For tg (.Call (.Name "range" p) [a] [] pos) body [] fp) (tS K m W (yd fs gg f)):=by
 refine(Ek hp hc (Dx rF hm ha hs) hg hb hf).mono λD Z H tt=>?_
 obtain⟨F,A,U,fl,U',k,e,w⟩:=tt;obtain⟨⟨rs,U1⟩,q,e⟩:=cV.mp e;obtain⟨j,q2,e⟩:=cV.mp e;obtain⟨hj,hb⟩:=Mh q2;subst hj;refine⟨F,A,U,_,U1,k,q,λvs H1 pp=>?_⟩
 obtain⟨F1,A1,x,k1,hh⟩:=pp;obtain⟨v,rfl⟩:=OC hh.length;obtain⟨rfl,h2⟩:=wj (Z:=Z) (U:=U1) k1.os;exact⟨j,rfl,hb.1,hb.2,Rr (LI K m W gg f D F1 fl U' (ig 0 j.toNat)) (.ints k1 h2 x w e) (λi Z' H' hi p=>p.turn ht (NZ hi) (.flat rfl .nil)) λZ' H' p=>p.fin (by simp[ig])⟩
end
abbrev GM:=List O->Option (O×Gm)
def zK(K:L2.FG)(F H:Hp)(A:List Addr)(vs:List V)(fin:Gm)(o:O)(v:V)(H':Hp):Prop:=∃F' A',Ext F H A F' H' A'/\OK K F' H' (some v::vs.map some) (some o::fin) A'
def dB(K:L2.FG)(n:Nat)(M:GM):Sp:=λvs H Q _=>vs.length=n/\∃F A os o fin,OK K F H (vs.map some) (os.map some) A/\M os=some (o,fin)/\∀v H',zK K F H A vs fin o v H'->Q v H'
noncomputable def fZ:List Bool->Gm->Gm
 |true::m,x::U=>x::fZ m U
 |false::m,_::U=>none::fZ m U
 |[],_::U=>none::fZ [] U
 |_,[]=>[]
noncomputable def Fl.val:Fl->Option O
 |.rt o=>some o
 |.nx=>some (.Y .aI)
 |_=>none
noncomputable def runM(n:Nat)(m:List Bool)(f:GS):GM:=λos=>(f (os.map some++List.replicate (n - os.length) none)).bind λp=>p.1.val.bind λo=>if p.2.length=n then some (o,fZ m (p.2.take os.length)) else none
section
variable {K:L2.FG} {F H:Hp} {Z:St} {U:Gm} {A:List Addr}
theorem GV:∀n:Nat,ai K F H (List.replicate n none) (List.replicate n none) []
 |0=>.nil
 |n+1=>.skip (GV n)
theorem Hm:∀{m:List Bool} {vs:List V} {Z':St} {U:Gm} {B:List Addr},ai K F H Z' U B->Z'.length=vs.length->(∀j:Nat,m[j]?=some true->Z'[j]?=(vs.map some)[j]?)->∃C,ai K F H (vs.map some) (fZ m U) C/\C.Sublist B
 |m,[],[],[],B,h,_,_=>by
  cases m with
  |nil=>exact⟨B,h,List.Sublist.refl _⟩
  |cons b m=>cases b <;> exact⟨B,h,List.Sublist.refl _⟩
 |m,v::vs,x::Z',y::U,B,h,hl,hk=>by
  obtain⟨B1,B2,h1,h2,h3⟩:=h.one;subst h3;have E2:Z'.length=vs.length:=by simpa using hl
  cases m with
  |nil=>
   obtain⟨C,g1,g2⟩:=Hm (m:=[]) h2 E2 (λj hj=>by simp at hj)
   exact⟨C,.skip g1,g2.trans (ly _ _)⟩
  |cons b m=>
   obtain⟨C,g1,g2⟩:=Hm (m:=m) h2 E2 (λj hj=>by simpa using hk (j+1) (by simpa using hj))
   cases b with
   |false=>exact⟨C,.skip g1,g2.trans (ly _ _)⟩
   |true=>
    have hx:x=some v:=by simpa using hk 0 rfl
    subst hx;exact⟨B1++C,h1.app g1,g2.append_left _⟩
 |_,[],_::_,_,_,_,hl,_=>by simp at hl
 |_,_::_,[],_,_,_,hl,_=>by simp at hl
 |_,[],[],_::_,_,h,_,_=>by have:=h.length;simp at this
 |_,_::_,_::_,[],_,h,_,_=>by have:=h.length;simp at this
theorem OK.params{m:List Bool}{vs:List V}{Z':St}{U':Gm}{v:V}{o:O}{rest:St}(k:OK K F H (some v::Z') (some o::U') A)(hl:vs.length<=Z'.length)(kp:Kept m (vs.map some++rest) Z')(hm:m.length<=vs.length):
  ∃B,OK K F H (some v::vs.map some) (some o::fZ m (U'.take vs.length)) B/\Ext F H A F H B:=by
 obtain⟨B,C,h1,h2,h3⟩:=k.os.one;subst h3;have hU:=h2.length;have e1:Z'=Z'.take vs.length++Z'.drop vs.length:=(xV _ _).symm;have e2:U'=U'.take vs.length++U'.drop vs.length:=(xV _ _).symm;have t_:ai K F H (Z'.take vs.length++Z'.drop vs.length) (U'.take vs.length++U'.drop vs.length) C:=by rw[<-e1,<-e2];exact h2
 obtain⟨C1,C2,g1,g2,g3⟩:=ai.split (by rw[nJ,nJ];lia) t_
 subst g3;obtain⟨C3,j1,j2⟩:=Hm (m:=m) (vs:=vs) g1 (by rw[nJ];lia) (λj hj=>by
  have fq:j < vs.length:=by
   have:=(iq.mp hj).1;lia
  rw[KD fq,kp j hj,FE (by simpa using fq)])
 exact⟨B++C3,k.sub (h1.app j1) ((aJ.refl B).app (.aP (j2.trans (CY _ _))))⟩
end
section
variable {P:Program} {w:World} {K:L2.FG} {mg:Str->Option Value} {base:Heap}
theorem RF{x qual:Str}{st:Stmt}{fa:Addr}{fd:FuncData}{N ps:List Str}{k:Nat}(m:List Bool)(f:GS)(Fn:e_ K x qual st fa fd)(S:aB N ps (cS st))(hm:m.length<=ps.length)
  (ko:∀(cL:Value) (A:Around) (outer:List Env) (s:Shared) (H:Hp) (E:XK),cA k (A.deeper (envOfC qual (cS st) s.heap.objs.size fa cL))->
   jt (mY dz P w K mg base N qual (cS st) fa cL A outer s H E).zd (we st) (tS K m none f)):aT P w K mg base dz (k+1) fa fd ps (dB K ps.length (runM N.length m f)):=by
 refine Fn.ok S (λvs H Q E h=>h.1) λcL A outer s H vs Q E hr h=>⟨_,ko cL A outer s H E hr,?_⟩
 obtain⟨hl,F,A0,os,o,fin,k0,e,q⟩:=h;have JM:vs.length=os.length:=by have:=k0.os.length;simpa using this
 have hN:ps.length<=N.length:=by have:=congrArg List.length S.pre;rw[nJ] at this;lia
 unfold runM at e;cases q1:f (os.map some++List.replicate (N.length - os.length) none) with
 |none=>rw[q1] at e;cases e
 |some p=>
  obtain⟨fl,U'⟩:=p;rw[q1] at e;dsimp only[Option.bind] at e;have k1:OK K F H (start N vs) (os.map some++List.replicate (N.length - os.length) none) A0:=by
   unfold start;rw[JM];have z:=k0.os.app (GV (K:=K) (F:=F) (H:=H) (N.length - os.length));rw[d_] at z;exact⟨k0.le,z,k0.nd,k0.fr⟩
  cases q2:fl.val with
  |none=>rw[q2] at e;cases e
  |some o'=>
   rw[q2] at e;dsimp only at e;split at e
   ·rename_i hlen
    cases e;refine⟨F,A0,_,fl,U',k1,q1,?_⟩;have dF:∀{F' H':Hp} {A':List Addr} {v:V} {Z':St},Ext F H A0 F' H' A'->OK K F' H' (some v::Z') (some o::U') A'->Kept m (start N vs) Z'->Q v H':=by
     intro F' H' A' v Z' x k' kp;unfold start at kp;have hs:Z'.length=U'.length:=by have:=k'.os.length;simpa using this
     obtain⟨B,k2,x2⟩:=OK.params (m:=m) (vs:=vs) k' (by lia) kp (by lia)
     rw[JM] at k2;exact q v H' ⟨F',B,x.trans x2,k2⟩
    cases fl with
    |nx=>
     cases q2;intro Z' H' ⟨F',A',x,k',kp⟩;obtain⟨k2,x2⟩:=k'.push (v:=.aI) (o:=.Y .aI) (Av:=[]) (aH.refl _) (.Y (.flat rfl .nil) .nil) .nil (λ_ m=>by cases m)
     exact dF (x.trans x2) k2 kp
    |rt o1=>
     cases q2;intro v Z' H' ⟨F',A',x,k',kp⟩;exact dF x k' kp
    |bk=>cases q2
    |ct=>cases q2
   ·cases e
theorem hE{x qual:Str}{st:Stmt}{fa:Addr}{fd:FuncData}{N ps:List Str}{k:Nat}(m:List Bool)(f:GS)(Fn:e_ K x qual st fa fd)(S:aB N ps (cS st)){n pn:Nat}(hn:N.length=n)(hp:ps.length=pn)(hm:m.length<=ps.length)
  (ko:∀(cL:Value) (A:Around) (outer:List Env) (s:Shared) (H:Hp) (E:XK),cA k (A.deeper (envOfC qual (cS st) s.heap.objs.size fa cL))->
   ∃f',jt (mY dz P w K mg base N qual (cS st) fa cL A outer s H E).zd (we st) (tS K m none f')/\f'=f):aT P w K mg base dz (k+1) fa fd ps (dB K pn (runM n m f)):=by
 subst hn hp;exact RF m f Fn S hm λcL A outer s H E hr=>by
  obtain⟨f',h,e⟩:=ko cL A outer s H E hr;rw[<-e];exact h
end
noncomputable def mz:List R->Gm->Option (List O×Gm)
 |[],U=>some ([],U)
 |.own o::rs,U=>(mz rs U).bind λp=>some (o::p.1,p.2)
 |.var i::rs,U=>match U[i]? with
  |some (some o)=>(mz rs (U.set i none)).bind λp=>some (o::p.1,p.2)
  |_=>none
 |_::_,_=>none
noncomputable def nP:List R->Gm->Gm->Gm
 |.own _::rs,_::fin,U=>nP rs fin U
 |.var i::rs,f::fin,U=>(nP rs fin U).set i f
 |_,_,U=>U
noncomputable def bN(M:GM)(fs:GA):GE:=λU=>(fs U).bind λp=>(mz p.1 p.2).bind λq=>(M q.1).bind λr=>some (.own r.1,nP p.1 r.2 q.2)
section
variable {K:L2.FG} {F H:Hp} {Z:St}
theorem Dz:∀{rs:List R} {vs:List V} {U U2:Gm} {os:List O} {B C:List Addr},ai K F H (vs.map some) (rs.map R.o) B->ai K F H Z U C->eE Z H rs vs->mz rs U=some (os,U2)->
  ∃B' C',ai K F H (vs.map some) (os.map some) B'/\ai K F H Z U2 C'/\(B'++C').Perm (B++C)
 |[],[],U,U2,os,B,C,h1,h2,_,e=>by cases e;exact⟨B,C,h1,h2,.refl _⟩
 |.own o::rs,v::vs,U,U2,os,B,C,h1,h2,hh,e=>by
  obtain⟨B1,B2,g1,g2,rfl⟩:=ai.one h1;unfold mz at e;cases q:mz rs U with
  |none=>rw[q] at e;cases e
  |some p=>
   rw[q] at e;cases e;obtain⟨B',C',j1,j2,j3⟩:=Dz g2 h2 hh q;exact⟨B1++B',C',g1.app j1,j2,by rw[fG,fG];exact .append_left _ j3⟩
 |.var i::rs,v::vs,U,U2,os,B,C,h1,h2,hh,e=>by
  obtain⟨B1,B2,g1,g2,rfl⟩:=ai.one h1;have eB:B1=[]:=by cases g1 with|skip t=>cases t;rfl
  subst eB;unfold mz at e;cases q0:U[i]? with
  |none=>rw[q0] at e;cases e
  |some z=>
   cases z with
   |none=>rw[q0] at e;cases e
   |some o=>
    rw[q0] at e;dsimp only at e;cases q:mz rs (U.set i none) with
    |none=>rw[q] at e;cases e
    |some p=>
     rw[q] at e;cases e;obtain⟨v',Ai,C1,k1,k2,k3,k4⟩:=h2.take q0;rw[hh.1] at k1;cases k1;obtain⟨B',C',j1,j2,j3⟩:=Dz g2 k3 hh.2 q;refine⟨Ai++B',C',k2.app j1,j2,?_⟩;rw[fG,iA];refine(List.Perm.append_left Ai j3).trans ?_;rw[<-fG];refine(List.Perm.append_right C1 om).trans ?_;rw[fG];exact .append_left _ k4.symm
 |[],_::_,_,_,_,_,_,_,_,h,_=>h.elim
 |.own _::_,[],_,_,_,_,_,_,_,h,_=>h.elim
 |.var _::_,[],_,_,_,_,_,_,_,h,_=>h.elim
theorem DL:∀{rs:List R} {vs:List V} {fin U:Gm} {B C:List Addr},ai K F H (vs.map some) fin B->ai K F H Z U C->eE Z H rs vs->∃D,ai K F H Z (nP rs fin U) D/\aJ D (B++C)
 |[],[],fin,U,B,C,h1,h2,_=>by
  cases h1;exact⟨C,h2,.aP (ly _ _)⟩
 |.own o::rs,v::vs,[],U,B,C,h1,h2,hh=>by have:=h1.length;simp at this
 |.var i::rs,v::vs,[],U,B,C,h1,h2,hh=>by have:=h1.length;simp at this
 |.own o::rs,v::vs,f::fin,U,B,C,h1,h2,hh=>by
  obtain⟨B1,B2,g1,g2,rfl⟩:=ai.one h1;obtain⟨D,j1,j2⟩:=DL g2 h2 hh;exact⟨D,j1,j2.trans (by rw[fG];exact .aP (ly _ _))⟩
 |.var i::rs,v::vs,f::fin,U,B,C,h1,h2,hh=>by
  obtain⟨B1,B2,g1,g2,rfl⟩:=ai.one h1;obtain⟨D,j1,j2⟩:=DL g2 h2 hh.2;cases f with
  |none=>
   obtain⟨D',k1,k2⟩:=ai.forget i j1;exact⟨D',k1,(aJ.aP k2).trans (j2.trans (by rw[fG];exact .aP (ly _ _)))⟩
  |some o=>
   have hi:i < (nP rs fin U).length:=by
    rw[<-j1.length];exact(iq.mp hh.1).1
   obtain⟨D',k1,C',k2,k3⟩:=ai.put g1 i j1 hi;rw[tL hh.1] at k1;refine⟨D',k1,(aJ.aZ k2).trans ?_⟩;rw[fG];exact(aJ.refl B1).app ((aJ.aP k3).trans j2)
 |.fld _ _::_,_,[],_,_,C,_,h2,_=>⟨C,h2,.aP (ly _ _)⟩
 |.fld _ _::_,_,_::_,_,_,C,_,h2,_=>⟨C,h2,.aP (ly _ _)⟩
 |[],_::_,_,_,_,_,_,_,h=>h.elim
 |.own _::_,[],_,_,_,_,_,_,h=>h.elim
 |.var _::_,[],_,_,_,_,_,_,h=>h.elim
end
section
variable {X:Cx} {K:L2.FG} {k n:Nat} {f:Addr} {fd:FuncData} {ps:List Str} {x:Str} {p pos:Pos} {e:Expr} {es:List Expr} {fs:GA} {st:Stmt} {M:GM}
theorem U_{Z:St}{H:Hp}{Q:VK}(t:tG K (bN M fs) Z H Q)(hn:∀rs U U',fs U=some (rs,U')->rs.length=n):o7 (dB K n M) [] E1 (gZ K fs) Z H Q:=by
 obtain⟨F,A,U,rr,U',k,e,w⟩:=t;unfold bN at e;cases q:fs U with
 |none=>rw[q] at e;cases e
 |some pr=>
  obtain⟨rs,U1⟩:=pr;rw[q] at e;dsimp only[Option.bind] at e;cases q2:mz rs U1 with
  |none=>rw[q2] at e;cases e
  |some ZX=>
   obtain⟨os,U2⟩:=ZX;rw[q2] at e;dsimp only at e;cases q3:M os with
   |none=>rw[q3] at e;cases e
   |some ZY=>
    obtain⟨o,fin⟩:=ZY;rw[q3] at e;cases e;refine⟨F,A,U,rs,U1,k,q,λvs H1 pp=>?_⟩
    show dB K n M (vs++[]) H1 Q E0;rw[d_];obtain⟨F1,A1,x,k1,hh⟩:=pp;have hl:(vs.map some).length=(rs.map R.o).length:=by rw[bB,bB,hh.length]
    obtain⟨B,C,h1,h2,h3⟩:=ai.split hl k1.os;subst h3;obtain⟨B',C',j1,j2,j3⟩:=Dz h1 h2 hh q2;have k2:OK K F1 H1 (vs.map some++Z) (os.map some++U2) (B'++C'):=.perm (j1.app j2) k1.le k1.nd k1.fr j3;obtain⟨A3,p3,k3⟩:=k2.swap j1.length;obtain⟨A4,k4,fr⟩:=k3.frame j2.length;refine⟨by rw[<-hh.length];exact hn rs U U1 q,F1,A4,os,o,fin,k4,q3,λv H' pc=>w v H' ?_⟩
    obtain⟨F5,A5,x5,k5⟩:=pc;obtain⟨A6,x6,k6⟩:=fr _ _ _ _ _ x5 k5;obtain⟨D1,D2,g1,g2,g3⟩:=ai.split j2.length k6.os;subst g3;obtain⟨D3,D4,g4,g5,g6⟩:=g2.one;subst g6;obtain⟨D5,g7,g8⟩:=DL g5 g1 (hh.kf x6.kf);have s1:aJ (D3++D5) (D1++(D3++D4)):=by
     refine((aJ.refl D3).app g8).trans (.aZ ?_);rw[<-fG];exact om
    obtain⟨k7,x7⟩:=k6.sub (Z':=some v::Z) (U':=some o::nP rs fin U2) (g4.app g7) s1;have x3:Ext F1 H1 (B++C) F1 H1 A3:=Ext.iX Ext.refl λa m=>j3.mem_iff.mp (p3.mem_iff.mp m)
    exact⟨F5,D3++D5,((x.trans x3).trans x6).trans x7,k7,True.intro⟩
theorem cO:∀rs U U',gN U=some (rs,U')->rs.length=0:=λrs U U' e=>by cases e;rfl
theorem aN{f:GE}{g:GA}{n:Nat}(h:∀rs U U',g U=some (rs,U')->rs.length=n):∀rs U U',ao f g U=some (rs,U')->rs.length=n+1:=λrs U U' e=>by
 obtain⟨r,U1,CB,_,e2,rfl⟩:=GI e;simp[h _ _ _ e2]
theorem kN(D:bZ X.K X.mg x st f fd ps)(Fn:aT X.prog X.w X.K X.mg X.base dz k f fd ps (dB K n M))(hr:cA k X.A)(ha:PA X (e::es) (gZ K fs))(hn:∀rs U U',fs U=some (rs,U')->rs.length=n)(hg:Gl X x:=by rfl)(lW:(x == ("__debug__":Str))=false:=by decide)
  (he:starEach (e::es) X.env=(false,eval e X.env)::starEach es X.env:=by rfl) (jM:(backTo pos (starEach es X.env)).any (·.1)=false:=by rfl) :
  PE X (.Call (.Name x p) (e::es) [] pos) (tG K (bN M fs)):=(vn D Fn hr ha hg lW he jM).mono λ_ _ _ t=>U_ t hn
end
noncomputable def fY:List O->Option (List D)
 |[]=>some []
 |.Y d::os=>(fY os).bind λds=>some (d::ds)
 |_::_=>none
noncomputable def df:O->Option (List D)
 |.Y (.lst ds)=>some ds
 |.Y (.aS ns)=>some (ns.map .int)
 |.lst os=>fY os
 |_=>none
noncomputable def xR:O->Option (List D)
 |.Y (.tup ds)=>some ds
 |.tup os=>fY os
 |_=>none
theorem uM:∀ds:List D,fY (ds.map .Y)=some ds
 |[]=>rfl
 |d::ds=>by rw[cv,fY,uM ds];rfl
theorem uR:∀ds:List D,O.dl (ds.map .Y)=ds
 |[]=>rfl
 |d::ds=>by rw[cv,O.dl,uR ds];rfl
section
variable {K:L2.FG} {F H:Hp} {x y v:V} {o:O} {B:List Addr} {ds:List D} {d:D} {ws:List V}
theorem ye:∀{ws:List V} {os:List O} {ds:List D} {B:List Addr},ai K F H (ws.map some) (os.map some) B->fY os=some ds->au K F ws ds
 |[],[],_,_,_,e=>by cases e;exact .nil
 |w::ws,o::os,ds,B,h,e=>by
  obtain⟨B1,B2,h1,h2,_⟩:=ai.one h;cases o with
  |Y d=>
   unfold fY at e;cases q:fY os with
   |none=>rw[q] at e;cases e
   |some sN=>
    rw[q] at e;cases e;cases h1 with
    |Y r _=>exact .cons r (ye h2 q)
  |_=>cases e
 |[],_::_,_,_,h,_=>by have:=h.length;simp at this
 |_::_,[],_,_,h,_=>by have:=h.length;simp at this
theorem Aa:∀{ws:List V} {ds:List D},au K F ws ds->ai K F H (ws.map some) ((ds.map .Y).map some) []
 |[],[],_=>.nil
 |w::ws,d::ds,h=>.Y h.inv.1 (Aa h.inv.2)
 |[],_::_,h=>by have:=h.length;simp at this
 |_::_,[],h=>by have:=h.length;simp at this
theorem Ho:∀ns:List Int,au K F (ns.map V.int) (ns.map D.int)
 |[]=>.nil
 |n::ns=>.flat rfl (Ho ns)
theorem v9(le:aH F H)(h:ai K F H [some x] [some o] B)(e:df o=some ds):∃a ws,x=.ref a/\dq K H a ws/\au K F ws ds:=by
 cases h with
 |@Y _ d _ _ _ r _=>
  cases r with
  |lst q i _=>cases e;exact⟨_,_,rfl,.inl (le.rd q),i⟩
  |exc _ _=>cases e
  |obj _=>cases e
  |aS q _=>cases e;exact⟨_,_,rfl,le.seq q,Ho _⟩
  |flat q _=>cases d <;> first|(cases q;done)|cases e
  |tup _ _ _=>cases e
  |aK _ _ _ _ _=>cases e
 |lst q i _=>exact⟨_,_,rfl,dq.of q,ye i e⟩
 |tup _ _ _=>cases e
 |aK _ _ _ _ _=>cases e
 |ins _ _ _ _ _=>cases e
theorem M5(le:aH F H)(h:ai K F H [some x] [some o] B)(e:xR o=some ds):∃a ws,x=.ref a/\iL K H a ws/\au K F ws ds:=by
 cases h with
 |@Y _ d _ _ _ r _=>
  cases r with
  |tup q i _=>cases e;exact⟨_,_,rfl,le.ng q,i⟩
  |aS q _=>cases e
  |exc _ _=>cases e
  |obj _=>cases e
  |flat q _=>cases d <;> first|(cases q;done)|cases e
  |lst _ _ _=>cases e
  |aK _ _ _ _ _=>cases e
 |tup q i _=>exact⟨_,_,rfl,iL.of q,ye i e⟩
 |lst _ _ _=>cases e
 |aK _ _ _ _ _=>cases e
 |ins _ _ _ _ _=>cases e
theorem iM(h:ai K F H [some x] [some (.Y d)] B)(e:mM d=some v):x=v:=by
 cases h with
 |Y r _=>
  cases r with
  |flat q _=>rw[e] at q;exact(Option.some.inj q).symm
  |lst _ _ _=>cases e
  |tup _ _ _=>cases e
  |aK _ _ _ _ _=>cases e
  |aS _ _=>cases e
  |exc _ _=>cases e
  |obj _=>cases e
theorem nz(le:aH F H)(h:ai K F H [some x] [some o] B):au K H [x] [o.d]:=h.rep le (λ_ _ _ e=>e) [x] [o] rfl rfl
theorem Res.lst{Q:VK}(h:Res K F H (.lst (ds.map .Y)) Q)(r:au K F ws ds){l:Addr}(hn:H l=none):Q (.ref l) (upd H l (.lst ws)):=
 h (.ref l) _ ([l]++[]++[]) (nu hn) (.lst iU (Aa r) .nil) (by simp) (λa m=>by simp at m;rw[m];exact hn)
theorem Res.tup{Q:VK}(h:Res K F H (.tup (ds.map .Y)) Q)(r:au K F ws ds){l:Addr}(hn:H l=none):Q (.ref l) (upd H l (.tup ws)):=
 h (.ref l) _ ([l]++[]++[]) (nu hn) (.tup iU (Aa r) .nil) (by simp) (λa m=>by simp at m;rw[m];exact hn)
theorem lT.one{o:O}{vs:List V}(h:lT K F H vs [o]):∃x B,vs=[x]/\ai K F H [some x] [some o] B:=by
 cases h with
 |cons a t=>cases t;obtain⟨B,a⟩:=a;exact⟨_,B,rfl,a⟩
theorem lT.two{o o':O}{vs:List V}(h:lT K F H vs [o,o']):∃x y B C,vs=[x,y]/\ai K F H [some x] [some o] B/\ai K F H [some y] [some o'] C:=by
 cases h with
 |cons a t=>cases t with
  |cons b t=>cases t;obtain⟨B,a⟩:=a;obtain⟨C,b⟩:=b;exact⟨_,_,B,C,rfl,a,b⟩
end
section
variable {X:Cx}
def rW(K:L2.FG):R2:=λx y H Q=>∃l b xs zs,x=.ref l/\y=.ref b/\dq K H l xs/\dq K H b zs/\xs.length+zs.length<=sizeLine/\∀p,H p=none->Q (.ref p) (upd H p (.lst (xs++zs)))
theorem Va:fH X (binaryOp .Add) (rW X.K):=by
 intro pins s Z H x y v u Q I rx ry h;obtain⟨l,b,xs,zs,rfl,rfl,hH,hB,hz,q⟩:=h;cases rx;cases ry;obtain⟨aG,r,pl,_⟩:=I.list hH;obtain⟨gG,r2,rV,_⟩:=I.list hB;have hl:=r.length;have y9:=r2.length;obtain⟨⟨cls,dd,data,sl⟩,ho,hc,n,hd⟩:=id pl.isList;obtain⟨⟨cls2,Vo,data2,Ff⟩,ve,OX,n2,hd2⟩:=id rV.isList;simp only at hc hd OX hd2;subst hc hd OX hd2;have ea:aG.toArray++gG.toArray=(aG++gG).toArray:=by simp
 refine concat_meets ⟨_,ho,rfl⟩ ⟨_,ve,rfl⟩ noFill_list_add seq_list_add PySem.F.slot_list_add PySem.F.entry_list_add (PySem.F.args_list_add_2 _ _) (list_addW l b aG.toArray gG.toArray n n2 dd Vo sl Ff (by simp only[eI];lia)) ⟨ho,ve,?_⟩
 rw[ea];exact⟨.ref _,_,I.J7 (t':=s.toks) (r.append r2) (by rw[gK];lia),rfl,q _ I.fresh⟩
theorem Tr(K:L2.FG)(hK:X.K=K:=by rfl):fH X (binaryOp .Add) (rW K):=hK ▸ Va
noncomputable def z_:O->O->Option (Option O)
 |.Y (.int i),.Y (.int j)=>some (some (.Y (.int (i+j))))
 |.Y (.str x),.Y (.str y)=>some (if x.length+y.length<=1000000 then some (.Y (.str (x++y))) else none)
 |_,_=>none
noncomputable def bq:List O->Option O
 |[a,b]=>match z_ a b with
  |some r=>r
  |none=>(df a).bind λxs=>(df b).bind λys=>if xs.length+ys.length<=1000000 then some (.lst ((xs++ys).map .Y)) else none
 |_=>none
def vq(K:L2.FG):R2:=λx y H Q=>pY (λi j=>.int (i+j)) x y H Q\/(∃i j,x=.str i/\y=.str j/\i.length+j.length<=sizeLine/\Q (.str (i++j)) H)\/rW K x y H Q
theorem eQ(K:L2.FG)(hK:X.K=K:=by rfl):fH X (binaryOp .Add) (vq K):=xB.or (nY.or (Tr K hK))
theorem ml{n:Nat}(h:n<=1000000):n<=sizeLine:=lQ h (by decide)
theorem eT{K:L2.FG}:cD K (mh (vq K)) bq:=by
 intro F H vs os o Q le eD e res;unfold bq at e;split at e
 ·rename_i a b
  obtain⟨x,y,B,C,rfl,h1,h2⟩:=eD.two;split at e
  ·rename_i r q
   unfold z_ at q;split at q
   ·cases q;cases e;cases iM h1 rfl;cases iM h2 rfl;exact⟨_,_,rfl,.inl ⟨_,_,rfl,rfl,res.flat rfl⟩⟩
   ·cases q;split at e
    ·cases e;cases iM h1 rfl;cases iM h2 rfl;exact⟨_,_,rfl,.inr (.inl ⟨_,_,rfl,rfl,ml (by assumption),res.flat rfl⟩)⟩
    ·cases e
   ·cases q
  ·cases q1:df a with
   |none=>rw[q1] at e;cases e
   |some xs=>
    rw[q1] at e;cases q2:df b with
    |none=>rw[q2] at e;cases e
    |some ys=>
     rw[q2] at e;dsimp only[Option.bind] at e;split at e
     ·cases e;obtain⟨a1,Kw,rfl,s1,r1⟩:=v9 le h1 q1;obtain⟨a2,xS,rfl,s2,r2⟩:=v9 le h2 q2;refine⟨_,_,rfl,.inr (.inr ⟨a1,a2,Kw,xS,rfl,rfl,s1,s2,ml (by rw[r1.length,r2.length];assumption),λp hp=>res.lst (r1.append r2) hp⟩)⟩
     ·cases e
 ·cases e
noncomputable def l9(C:Int->Int->Bool)(f:Int->Int->D):List O->Option O
 |[.Y (.int i),.Y (.int j)]=>if C i j=true then some (.Y (f i j)) else none
 |_=>none
theorem yA{K:L2.FG}{r:R2}{C:Int->Int->Bool}{f:Int->Int->D}{g:Int->Int->V}(hf:∀i j,mM (f i j)=some (g i j))(hr:∀i j H Q,C i j=true->Q (g i j) H->r (.int i) (.int j) H Q):cD K (mh r) (l9 C f):=by
 intro F H vs os o Q le eD e res;unfold l9 at e;split at e
 ·split at e
  ·cases e;obtain⟨x,y,B,C,rfl,h1,h2⟩:=eD.two;cases iM h1 rfl;cases iM h2 rfl;exact⟨_,_,rfl,hr _ _ _ _ (by assumption) (res.flat (hf _ _))⟩
  ·cases e
 ·cases e
noncomputable abbrev uo:=l9 (λ_ _=>true) λi j=>.int (i - j)
noncomputable abbrev lJ:=l9 (λ_ j=>decide (0 < j/\j < 1073741824)) λi j=>.int (i / j)
noncomputable abbrev oMod:=l9 (λ_ j=>decide (0 < j)) λi j=>.int (i % j)
noncomputable abbrev oLt:=l9 (λ_ _=>true) λi j=>.bl (decide (i < j))
noncomputable abbrev Pj:=l9 (λ_ _=>true) λi j=>.bl (decide (j < i))
theorem IB{K:L2.FG}:cD K (mh (pY λi j=>.int (i - j))) uo:=yA (λ_ _=>rfl) λ_ _ _ _ _ q=>⟨_,_,rfl,rfl,q⟩
theorem Au{K:L2.FG}:cD K (mh (rI vR λi j=>.int (i / j))) lJ:=yA (λ_ _=>rfl) λi j _ _ c q=>⟨_,_,rfl,rfl,show vR i j from of_decide_eq_true (p:=0 < j/\j < 1073741824) c,q⟩
theorem oH{K:L2.FG}:cD K (mh (rI (λ_ j=>0 < j) λi j=>.int (i % j))) oMod:=yA (λ_ _=>rfl) λ_ _ _ _ c q=>⟨_,_,rfl,rfl,of_decide_eq_true c,q⟩
theorem yI{K:L2.FG}:cD K (mh (pY λi j=>.bl (decide (i < j)))) oLt:=yA (λ_ _=>rfl) λ_ _ _ _ _ q=>⟨_,_,rfl,rfl,q⟩
theorem XX{K:L2.FG}:cD K (mh (pY λi j=>.bl (decide (j < i)))) Pj:=yA (λ_ _=>rfl) λ_ _ _ _ _ q=>⟨_,_,rfl,rfl,q⟩
end
instance (z:Str) (n:Int):Decidable (MulOk z n):=by unfold MulOk;infer_instance
section
variable {X:Cx}
noncomputable def Ce(j:Int):O->Option O
 |.Y (.int i)=>if(-(2 ^ 64) < i/\i < 2 ^ 64)\/(-(2 ^ 64) < j/\j < 2 ^ 64) then some (.Y (.int (i * j))) else none
 |.Y (.str z)=>if MulOk z j then some (.Y (.str (Txt.mul z j))) else none
 |_=>none
noncomputable def eC:List O->Option O
 |[a,.Y (.int j)]=>Ce j a
 |_=>none
def vx:R2:=λx y H Q=>rI tf (λi j=>.int (i * j)) x y H Q\/∃z n,x=.str z/\y=.int n/\MulOk z n/\Q (.str (Txt.mul z n)) H
theorem qw:fH X (binaryOp .Mult) vx:=xD.or QJ
theorem qA{K:L2.FG}:cD K (mh vx) eC:=by
 intro F H vs os o Q le eD e res;unfold eC at e;split at e
 ·obtain⟨x,y,B,C,rfl,h1,h2⟩:=eD.two;unfold Ce at e;split at e
  ·split at e
   ·cases e;cases iM h1 rfl;cases iM h2 rfl;exact⟨_,_,rfl,.inl ⟨_,_,rfl,rfl,by assumption,res.flat rfl⟩⟩
   ·cases e
  ·split at e
   ·cases e;cases iM h1 rfl;cases iM h2 rfl;exact⟨_,_,rfl,.inr ⟨_,_,rfl,rfl,by assumption,res.flat rfl⟩⟩
   ·cases e
  ·cases e
 ·cases e
mutual
noncomputable def bb:D->D->Bool
 |.lst xs,.lst ys=>gE xs ys
 |.tup xs,.tup ys=>gE xs ys
 |.aI,.aI=>true
 |.bl a,.bl b=>a == b
 |.bl a,.int b=>(if a then 1 else 0) == b
 |.int a,.bl b=>a == (if b then 1 else 0)
 |.int a,.int b=>a == b
 |.str a,.str b=>a == b
 |_,_=>false
noncomputable def gE:List D->List D->Bool
 |[],[]=>true
 |x::xs,y::ys=>bb x y && gE xs ys
 |_,_=>false
end
noncomputable def eK:Nat->D->Bool
 |n+1,.lst xs=>xs.all (eK n)
 |n+1,.tup xs=>xs.all (eK n)
 |_,.aI=>true
 |_,.bl _=>true
 |_,.int _=>true
 |_,.str _=>true
 |_,_=>false
theorem Ab:∀{xs ys:List D},xs.length≠ys.length->gE xs ys=false
 |[],[],h=>absurd rfl h
 |[],_::_,_=>by unfold gE;rfl
 |_::_,[],_=>by unfold gE;rfl
 |x::xs,y::ys,h=>by unfold gE;rw[Ab (by simpa using h),KI]
theorem Ad:∀{xs ys:List D} (n:Nat),xs.length=n->ys.length=n->gE xs ys=(List.range n).all λj=>bb (xs.getD j .aI) (ys.getD j .aI)
 |[],[],0,_,_=>by unfold gE;rfl
 |x::xs,y::ys,n+1,h1,h2=>by
  unfold gE;rw[Ad n (by simpa using h1) (by simpa using h2),List.range_succ_eq_map,Fv,Fw]
  rfl
 |[],_,_+1,h,_=>by simp at h
 |_::_,[],_+1,_,h=>by simp at h
 |_::_,_,0,h,_=>by simp at h
 |[],_::_,0,_,h=>by simp at h
variable {pins:List (Addr×Obj)} {Z:St} {H:Hp} {s:Shared}
theorem uS{K:L2.FG}{F:Hp}{ws:List V}{es:List D}(r:au K F ws es){aG:List Value}(rv:Vals ws aG){j:Nat}(h:j < aG.toArray.size):∃x,RelV x aG.toArray[j]/\au K F [x] [es.getD j .aI]/\j < es.length:=by
 obtain⟨x,hx,rx⟩:=rv.at h;have hl:=r.length;have hj:j < es.length:=by
  have:=(iq.mp hx).1;lia
 obtain⟨y,hy,ry⟩:=r.get (i:=j) (d:=es[j]) (by simp[hj])
 rw[hx] at hy;cases hy;refine⟨x,rx,?_,hj⟩;rw[show es.getD j .aI=es[j] by simp[hj]]
 exact ry
theorem uN{p:D->Bool}{es:List D}(h:es.all p=true){j:Nat}(hj:j < es.length):p (es.getD j .aI)=true:=by
 rw[show es.getD j .aI=es[j] by simp[hj]]
 exact og.mp h _ (se hj)
inductive vW (K:L2.FG) (H:Hp) (s:Shared):Value->D->Prop
 |none:vW K H s .none .aI
 |bool (b:Bool):vW K H s (.bool b) (.bl b)
 |int (i:Int) (t:Tok):vW K H s (.int i t) (.int i)
 |str (x:Str) (t:Tok):vW K H s (.str x t) (.str x)
 |list {a:Addr} {aG:List Value} {ws:List V} {es:List D}:s.heap.IsList a aG.toArray->Vals ws aG->au K H ws es->vW K H s (.ref a) (.lst es)
 |tuple {a:Addr} {aG:List Value} {ws:List V} {es:List D}:s.heap.IsTuple a aG.toArray->Vals ws aG->au K H ws es->vW K H s (.ref a) (.tup es)
theorem Em(I:Inv X pins Z H s){n:Nat}{x:V}{u:Value}{d:D}(r:au X.K H [x] [d])(ru:RelV x u)(ok:eK n d=true):vW X.K H s u d:=by
 cases r with
 |lst q i _=>
  cases ru;obtain⟨aG,rv,pl,_⟩:=I.list (.inl q);exact .list pl.isList rv i
 |tup q i _=>
  cases ru;obtain⟨aG,rv,pl,_⟩:=I.tuple q;exact .tuple pl rv i
 |aK _ _ _ _ _=>cases n <;> cases ok
 |aS _ _=>cases n <;> cases ok
 |exc _ _=>cases n <;> cases ok
 |obj _=>cases n <;> cases ok
 |flat q _=>
  cases d with
  |aI=>cases q;cases ru;exact .none
  |bl b=>cases q;cases ru;exact .bool b
  |int i=>cases q;obtain⟨t,rfl⟩:=ru;exact .int i t
  |str z=>cases q;obtain⟨t,rfl⟩:=ru;exact .str z t
  |ty _=>cases n <;> cases ok
  |lst _=>cases q
  |tup _=>cases q
  |aK _=>cases q
  |aS _=>cases q
  |exc _ _=>cases q
  |obj=>cases q
theorem yl{n:Nat}{es:List D}(h:eK n (.lst es)=true):∃m,n=m+1/\es.all (eK m)=true:=by
 cases n with
 |zero=>cases h
 |succ n=>exact⟨n,rfl,h⟩
theorem ym{n:Nat}{es:List D}(h:eK n (.tup es)=true):∃m,n=m+1/\es.all (eK m)=true:=by
 cases n with
 |zero=>cases h
 |succ n=>exact⟨n,rfl,h⟩
theorem LL{es:List D}(h:∀d∈es,bb d d=true):gE es es=true:=by
 induction es with
 |nil=>unfold gE;rfl
 |cons d es ih=>unfold gE;rw[h d (by simp),ih λd m=>h d (by simp[m])];rfl
theorem Hq:∀(n:Nat) {d:D},eK n d=true->bb d d=true:=by
 intro n
 induction n with
 |zero=>intro d h;cases d <;> first|(cases h;done)|simp[bb]
 |succ n ih=>
  intro d h;cases d with
  |lst es=>simp only[bb];exact LL λd m=>ih (og.mp h d m)
  |tup es=>simp only[bb];exact LL λd m=>ih (og.mp h d m)
  |aK _=>cases h
  |aS _=>cases h
  |exc _ _=>cases h
  |obj=>cases h
  |ty _=>cases h
  |_=>simp[bb]
theorem Qp{xs ys:List D}(hl:xs.length=ys.length)(h:∀j,j < xs.length->xs.getD j .aI=ys.getD j .aI):xs=ys:=by
 apply List.ext_getElem hl;intro j h1 h2;have:=h j h1;simpa[h1,h2] using this
noncomputable def Kv:V->D
 |.bl b=>.bl b
 |.int i=>.int i
 |.str x=>.str x
 |.ty n=>.ty n
 |_=>.aI
theorem LM{d:D}{v:V}(h:mM d=some v):d=Kv v:=by cases d <;> cases h <;> rfl
theorem uO{d:D}{a:Addr}(h:mM d=some (.ref a)):False:=by cases d <;> cases h
theorem D8(I:Inv X pins Z H s):∀(n m:Nat) {x:V} {d e:D},au X.K H [x] [d]->au X.K H [x] [e]->eK n d=true->eK m e=true->d=e:=by
 intro n
 induction n using Nat.strongRecOn with
 |ind n ih=>
 intro m x d e rd re od oe;have go:∀{ws:List V} {es lE:List D} {n' m':Nat},n' < n->au X.K H ws es->au X.K H ws lE->es.all (eK n')=true->lE.all (eK m')=true->es=lE:=by
  intro ws es lE n' m' hn r1 r2 o1 o2;have l1:=r1.length;have l2:=r2.length;refine Qp (by lia) λj hj=>?_
  have sR:j < lE.length:=by lia
  obtain⟨v,g1,g2⟩:=r1.get (i:=j) (d:=es[j]) (by simp[hj])
  obtain⟨v',p1,p2⟩:=r2.get (i:=j) (d:=lE[j]) (by simp[sR])
  rw[g1] at p1;cases p1;rw[show es.getD j .aI=es[j] by simp[hj],show lE.getD j .aI=lE[j] by simp[sR]]
  exact ih n' hn m' g2 p2 (og.mp o1 _ (se hj)) (og.mp o2 _ (se sR))
 cases rd with
 |flat q _=>
  cases re with
  |flat q' _=>
   rw[LM q,LM q']
  |lst _ _ _=>exact(uO q).elim
  |tup _ _ _=>exact(uO q).elim
  |aK _ _ _ _ _=>exact(uO q).elim
  |aS _ _=>exact(uO q).elim
  |exc _ _=>exact(uO q).elim
  |obj _=>exact(uO q).elim
 |lst q i _=>
  obtain⟨n',rfl,rQ⟩:=yl od;cases re with
  |flat q' _=>exact(uO q').elim
  |lst q' i' _=>
   obtain⟨m',rfl,rR⟩:=yl oe;cases I.m7 (.inl q) (.inl q');rw[go (zo _) i i' rQ rR]
  |tup q' i' _=>
   obtain⟨_,_,p1,_⟩:=I.list (.inl q);obtain⟨_,_,p2,_⟩:=I.tuple q';exact absurd rfl (SeqAt.ne_of_list_tuple p1.isList p2)
  |aK _ _ _ _ _=>cases m <;> cases oe
  |aS _ _=>cases m <;> cases oe
  |exc _ _=>cases m <;> cases oe
  |obj _=>cases m <;> cases oe
 |tup q i _=>
  obtain⟨n',rfl,rQ⟩:=ym od;cases re with
  |flat q' _=>exact(uO q').elim
  |tup q' i' _=>
   obtain⟨m',rfl,rR⟩:=ym oe;cases I.qa q q';rw[go (zo _) i i' rQ rR]
  |lst q' i' _=>
   obtain⟨_,_,p1,_⟩:=I.list (.inl q');obtain⟨_,_,p2,_⟩:=I.tuple q;exact absurd rfl (SeqAt.ne_of_list_tuple p1.isList p2)
  |aK _ _ _ _ _=>cases m <;> cases oe
  |aS _ _=>cases m <;> cases oe
  |exc _ _=>cases m <;> cases oe
  |obj _=>cases m <;> cases oe
 |aK _ _ _ _ _=>cases n <;> cases od
 |aS _ _=>cases n <;> cases od
 |exc _ _=>cases n <;> cases od
 |obj _=>cases n <;> cases od
theorem AL(I:Inv X pins Z H s):∀(n m:Nat) {A:Around} {x y:V} {u v:Value} {d e:D},au X.K H [x] [d]->au X.K H [y] [e]->eK n d=true->eK m e=true->RelV x u->RelV y v->A.units+n < cLine->
  SeqAt.EqAt A s u v (bb d e)/\SeqAt.RcAt A s u v (bb d e):=by
 intro n
 induction n using Nat.strongRecOn with
 |ind n ih=>
 intro m A x y u v d e rd re od oe ru rv hu;have c9:A.units < cLine:=by lia
 have s1:=Em I rd ru od;have s2:=Em I re rv oe;cases s1 with
 |none=>
  cases s2 with
  |none=>
   exact⟨SeqAt.EqAt.same _,SeqAt.RcAt.none_none⟩
  |bool a2=>
   simp only[bb];exact⟨SeqAt.EqAt.none_bool a2,SeqAt.RcAt.none_bool a2⟩
  |int a2 t2=>
   simp only[bb];exact⟨SeqAt.EqAt.none_int a2 t2,SeqAt.RcAt.none_int a2 t2⟩
  |str a2 t2=>
   simp only[bb];exact⟨SeqAt.EqAt.none_str a2 t2,SeqAt.RcAt.none_str a2 t2⟩
  |list l2 v2 r2=>
   simp only[bb];exact⟨SeqAt.EqAt.none_list l2 c9,SeqAt.RcAt.none_list l2 c9⟩
  |tuple l2 v2 r2=>
   simp only[bb];exact⟨SeqAt.EqAt.none_tuple l2 c9,SeqAt.RcAt.none_tuple l2 c9⟩
 |bool a1=>
  cases s2 with
  |none=>
   simp only[bb];exact⟨SeqAt.EqAt.bool_none a1,SeqAt.RcAt.bool_none a1⟩
  |bool a2=>
   simp only[bb];exact⟨SeqAt.EqAt.bool_bool a1 a2,SeqAt.RcAt.bool_bool a1 a2⟩
  |int a2 t2=>
   simp only[bb];exact⟨SeqAt.EqAt.bool_int a1 a2 t2,SeqAt.RcAt.bool_int a1 a2 t2⟩
  |str a2 t2=>
   simp only[bb];exact⟨SeqAt.EqAt.bool_str a1 a2 t2,SeqAt.RcAt.bool_str a1 a2 t2⟩
  |list l2 v2 r2=>
   simp only[bb];exact⟨SeqAt.EqAt.bool_list a1 l2 c9,SeqAt.RcAt.bool_list a1 l2 c9⟩
  |tuple l2 v2 r2=>
   simp only[bb];exact⟨SeqAt.EqAt.bool_tuple a1 l2 c9,SeqAt.RcAt.bool_tuple a1 l2 c9⟩
 |int a1 t1=>
  cases s2 with
  |none=>
   simp only[bb];exact⟨SeqAt.EqAt.int_none a1 t1,SeqAt.RcAt.int_none a1 t1⟩
  |bool a2=>
   simp only[bb];exact⟨SeqAt.EqAt.int_bool a1 t1 a2,SeqAt.RcAt.int_bool a1 t1 a2⟩
  |int a2 t2=>
   simp only[bb];exact⟨SeqAt.EqAt.int_int a1 t1 a2 t2,SeqAt.RcAt.int_int a1 t1 a2 t2⟩
  |str a2 t2=>
   simp only[bb];exact⟨SeqAt.EqAt.int_str a1 t1 a2 t2,SeqAt.RcAt.int_str a1 t1 a2 t2⟩
  |list l2 v2 r2=>
   simp only[bb];exact⟨SeqAt.EqAt.int_list a1 t1 l2 c9,SeqAt.RcAt.int_list a1 t1 l2 c9⟩
  |tuple l2 v2 r2=>
   simp only[bb];exact⟨SeqAt.EqAt.int_tuple a1 t1 l2 c9,SeqAt.RcAt.int_tuple a1 t1 l2 c9⟩
 |str a1 t1=>
  cases s2 with
  |none=>
   simp only[bb];exact⟨SeqAt.EqAt.str_none a1 t1,SeqAt.RcAt.str_none a1 t1⟩
  |bool a2=>
   simp only[bb];exact⟨SeqAt.EqAt.str_bool a1 t1 a2,SeqAt.RcAt.str_bool a1 t1 a2⟩
  |int a2 t2=>
   simp only[bb];exact⟨SeqAt.EqAt.str_int a1 t1 a2 t2,SeqAt.RcAt.str_int a1 t1 a2 t2⟩
  |str a2 t2=>
   simp only[bb];exact⟨SeqAt.EqAt.str_str a1 t1 a2 t2,SeqAt.RcAt.str_str a1 t1 a2 t2⟩
  |list l2 v2 r2=>
   simp only[bb];exact⟨SeqAt.EqAt.str_list a1 t1 l2 c9,SeqAt.RcAt.str_list a1 t1 l2 c9⟩
  |tuple l2 v2 r2=>
   simp only[bb];exact⟨SeqAt.EqAt.str_tuple a1 t1 l2 c9,SeqAt.RcAt.str_tuple a1 t1 l2 c9⟩
 |list l1 v1 r1=>
  cases s2 with
  |none=>
   simp only[bb];exact⟨SeqAt.EqAt.list_none l1 c9,SeqAt.RcAt.list_none l1 c9⟩
  |bool a2=>
   simp only[bb];exact⟨SeqAt.EqAt.list_bool a2 l1 c9,SeqAt.RcAt.list_bool a2 l1 c9⟩
  |int a2 t2=>
   simp only[bb];exact⟨SeqAt.EqAt.list_int a2 t2 l1 c9,SeqAt.RcAt.list_int a2 t2 l1 c9⟩
  |str a2 t2=>
   simp only[bb];exact⟨SeqAt.EqAt.list_str a2 t2 l1 c9,SeqAt.RcAt.list_str a2 t2 l1 c9⟩
  |list l2 v2 r2=>
   rename_i a aG ws es b gG xS lE
   obtain⟨n',rfl,rQ⟩:=yl od;obtain⟨m',rfl,rR⟩:=yl oe;have la:=v1.length;have lb:=v2.length;have J4:=r1.length;have J5:=r2.length;have rc:SeqAt.RcAt A s (.ref a) (.ref b) (bb (.lst es) (.lst lE)):=by
    simp only[bb];by_cases hl:es.length=lE.length
    ·rw[Ad aG.toArray.size (by simp only[eI];lia) (by simp only[eI];lia)]
     refine SeqAt.RcAt.lists (A:=A) l1 l2 (by simp only[eI];lia) c9 λj h1 h2=>?_
     obtain⟨x1,q1,q2,q3⟩:=uS r1 v1 h1;obtain⟨y1,p1,p2,p3⟩:=uS r2 v2 h2;exact(ih n' (zo _) m' q2 p2 (uN rQ q3) (uN rR p3) q1 p1 (by show A.units+1+n' < cLine;lia)).1
    ·rw[Ab hl];exact SeqAt.RcAt.lists_lengths (A:=A) l1 l2 (by simp only[eI,bne_iff_ne,ne_eq];lia) c9
   refine⟨?_,rc⟩;by_cases BL:a=b
   ·subst BL;have Jk:x=y:=RelV.inj ru rv;subst Jk;have e2:=D8 I _ _ rd re od oe;cases e2;rw[Hq _ od];exact SeqAt.EqAt.same _
   ·exact SeqAt.EqAt.of_refs BL rc
  |tuple l2 v2 r2=>
   simp only[bb];exact⟨SeqAt.EqAt.list_tuple l1 l2 c9,SeqAt.RcAt.list_tuple l1 l2 c9⟩
 |tuple l1 v1 r1=>
  cases s2 with
  |none=>
   simp only[bb];exact⟨SeqAt.EqAt.tuple_none l1 c9,SeqAt.RcAt.tuple_none l1 c9⟩
  |bool a2=>
   simp only[bb];exact⟨SeqAt.EqAt.tuple_bool a2 l1 c9,SeqAt.RcAt.tuple_bool a2 l1 c9⟩
  |int a2 t2=>
   simp only[bb];exact⟨SeqAt.EqAt.tuple_int a2 t2 l1 c9,SeqAt.RcAt.tuple_int a2 t2 l1 c9⟩
  |str a2 t2=>
   simp only[bb];exact⟨SeqAt.EqAt.tuple_str a2 t2 l1 c9,SeqAt.RcAt.tuple_str a2 t2 l1 c9⟩
  |list l2 v2 r2=>
   simp only[bb];exact⟨SeqAt.EqAt.tuple_list l1 l2 c9,SeqAt.RcAt.tuple_list l1 l2 c9⟩
  |tuple l2 v2 r2=>
   rename_i a aG ws es b gG xS lE
   obtain⟨n',rfl,rQ⟩:=ym od;obtain⟨m',rfl,rR⟩:=ym oe;have la:=v1.length;have lb:=v2.length;have J4:=r1.length;have J5:=r2.length;have rc:SeqAt.RcAt A s (.ref a) (.ref b) (bb (.tup es) (.tup lE)):=by
    have z:=SeqAt.RcAt.tuples (A:=A) (e:=λj=>bb (es.getD j .aI) (lE.getD j .aI)) l1 l2 c9 λj h1 h2=>by
     obtain⟨x1,q1,q2,q3⟩:=uS r1 v1 h1;obtain⟨y1,p1,p2,p3⟩:=uS r2 v2 h2;exact(ih n' (zo _) m' q2 p2 (uN rQ q3) (uN rR p3) q1 p1 (by show A.units+1+n' < cLine;lia)).1
    simp only[bb];by_cases hl:es.length=lE.length
    ·rw[Ad aG.toArray.size (by simp only[eI];lia) (by simp only[eI];lia)]
     have e1:gG.toArray.size=aG.toArray.size:=by simp only[eI];lia
     rw[e1,KJ,beq_self_eq_true,Bool.and_true] at z;exact z
    ·rw[Ab hl];have e1:(aG.toArray.size == gG.toArray.size)=false:=by rw[beq_eq_false_iff_ne];simp only[eI];lia
     rw[e1,KI] at z;exact z
   refine⟨?_,rc⟩;by_cases BL:a=b
   ·subst BL;have Jk:x=y:=RelV.inj ru rv;subst Jk;have e2:=D8 I _ _ rd re od oe;cases e2;rw[Hq _ od];exact SeqAt.EqAt.same _
   ·exact SeqAt.EqAt.of_refs BL rc
end
mutual
theorem H0:∀k j:TK,bb k.d j.d=decide (k=j)
 |.inl a,.inl b=>by simp only[TK.d,bb];rw[zr];simp
 |.inr a,.inr b=>by simp only[TK.d,bb];rw[zr];simp
 |.tp l,.tp m=>by simp only[TK.d,bb];rw[mZ l m,zr];simp
 |.inl _,.inr _=>by simp[TK.d,bb]
 |.inl _,.tp _=>by simp[TK.d,bb]
 |.inr _,.inl _=>by simp[TK.d,bb]
 |.inr _,.tp _=>by simp[TK.d,bb]
 |.tp _,.inl _=>by simp[TK.d,bb]
 |.tp _,.inr _=>by simp[TK.d,bb]
theorem mZ:∀l m:List TK,gE (TK.dl l) (TK.dl m)=decide (l=m)
 |[],[]=>by simp[TK.dl,gE]
 |a::l,b::m=>by simp only[TK.dl,gE];rw[H0 a b,mZ l m,zr];simp
 |[],_::_=>by simp[TK.dl,gE]
 |_::_,[]=>by simp[TK.dl,gE]
end
theorem N0:∀l:List TK,TK.dl l=l.map TK.d
 |[]=>by simp[TK.dl]
 |a::l=>by simp[TK.dl,N0 l]
theorem yn:∀(n:Nat) {k:TK},k.ok n=true->eK n k.d=true
 |n,.inl i,_=>by cases n <;> simp[TK.d,eK]
 |n,.inr i,_=>by cases n <;> simp[TK.d,eK]
 |0,.tp l,h=>by simp[TK.ok] at h
 |n+1,.tp l,h=>by
  simp only[TK.d,eK,N0,Fw];refine og.mpr λa m=>?_
  exact yn n (og.mp (by simpa only[TK.ok] using h) a m)
theorem RG{α:Type}{M:Model}{A:Around}{E:Value->Shared->Prop}{s:Shared}{c:Prop}[Decidable c]{a b:Sem α}{Q:α->Shared->Prop}(h1:wpAny M A a Q E s)(h2:wpAny M A b Q E s):wpAny M A (if c then a else b) Q E s:=by
 split
 ·exact h1
 ·exact h2
theorem K7(w:World):∀l m:List TK,TK.fM w (l++m)=TK.fM w l++TK.fM w m
 |[],m=>by simp[TK.fM]
 |a::l,m=>by simp[TK.fM,K7 w l m]
theorem GW{α β:Type}{R:α->β->Prop}:∀{l:List α} {m:List β} (i:Nat) {b:β},Paired R l m->m[i]?=some b->∃a,l[i]?=some a/\R a b
 |_,_,_,_,.nil,e=>by simp at e
 |_,_,0,_,.cons r _,e=>by simp at e;subst e;exact⟨_,rfl,r⟩
 |_,_,i+1,_,.cons _ t,e=>by
  obtain⟨a,h1,h2⟩:=GW i t (by simpa using e)
  exact⟨a,by simpa using h1,h2⟩
theorem GX{α β:Type}{R:α->β->Prop}:∀{l:List α} {m:List β} (i:Nat) {a:α},Paired R l m->l[i]?=some a->∃b,m[i]?=some b/\R a b
 |_,_,_,_,.nil,e=>by simp at e
 |_,_,0,_,.cons r _,e=>by simp at e;subst e;exact⟨_,rfl,r⟩
 |_,_,i+1,_,.cons _ t,e=>by
  obtain⟨a,h1,h2⟩:=GX i t (by simpa using e)
  exact⟨a,by simpa using h1,h2⟩
section
variable {X:Cx} {pins:List (Addr×Obj)} {Z:St} {H:Hp}
theorem M6{A:Around}{E:Value->Shared->Prop}{s:Shared}{y:V}{u:Value}{i:Int}{Q:Int->Shared->Prop}(r:au X.K H [y] [TK.d (.inl i)])(ru:RelV y u)(h:∀t,Q (TK.hash X.w (.inl i)) { s with toks:=t}):wpAny (model X.prog X.w) A (pyHash u) Q E s:=by
 simp only[TK.d] at r;cases r with
 |flat q _=>cases q;obtain⟨t,rfl⟩:=ru;exact wpAny_pyHash_int (by simpa only[TK.hash] using h _)
theorem M7{A:Around}{E:Value->Shared->Prop}{s:Shared}{y:V}{u:Value}{i:Str}{Q:Int->Shared->Prop}(r:au X.K H [y] [TK.d (.inr i)])(ru:RelV y u)(h:∀t,Q (TK.hash X.w (.inr i)) { s with toks:=t}):wpAny (model X.prog X.w) A (pyHash u) Q E s:=by
 simp only[TK.d] at r;cases r with
 |flat q _=>cases q;obtain⟨t,rfl⟩:=ru;exact wpAny_pyHash_str (by simpa only[TK.hash] using h _)
theorem Mi:∀(n:Nat) {A:Around} {E:Value->Shared->Prop} {s:Shared} {y:V} {u:Value} {k:TK} {Q:Int->Shared->Prop},Inv X pins Z H s->au X.K H [y] [k.d]->k.ok n=true->RelV y u->A.units+n < cLine->
  (∀t,Q (k.hash X.w) { s with toks:=t})->wpAny (model X.prog X.w) A (pyHash u) Q E s:=by
 intro n
 induction n with
 |zero=>
  intro A E s y u k Q I r ok ru hu h;cases k with
  |tp l=>simp[TK.ok] at ok
  |inl i=>exact M6 r ru h
  |inr x=>exact M7 r ru h
 |succ n ih=>
  intro A E s y u k Q I r ok ru hu h;cases k with
  |inl i=>exact M6 r ru h
  |inr x=>exact M7 r ru h
  |tp l=>
   simp only[TK.d] at r;cases r with
   |flat q _=>cases q
   |@tup a ws _ _ _ q i _=>
    cases ru;obtain⟨aG,rv,pl,_⟩:=I.tuple q;have hT:s.TypeIs (.ref a) "tuple":=pl.typeIs;obtain⟨o,g1,g2,nn,g3⟩:=pl;have ok:l.all (TK.ok n)=true:=by simpa only[TK.ok] using ok
    show wpAny _ _ (pyHashByItsType (.ref a)) Q E s;unfold pyHashByItsType;refine wpAny_bind (wpAny_cRoomFor_or (.inr (by lia)) (wpAny_bind (wpAny_specialOf hT F.slot_tuple_hash.lookup ?_)))
    dsimp only;rw[if_neg (by rw[beq_builtin_none];exact kU)]
    refine wpAny_bind (wpAny_specialOf hT F.slot_tuple_hash.lookup (wpAny_bind ?_));refine wpAny_callSpecialIfBoundUnlessNone?_slot hT F.slot_tuple_hash (wpAny_call_entry F.slot_tuple_hash hT F.entry_tuple_hash ?_ (F.args_tuple_hash_1 _));show wpAny _ _ (Builtin.Tuple.tupleItemsOf (.ref a) >>= λz=>_) _ _ s
    refine wpAny_bind (wpAny_tupleItemsOf g1 g3 (wpAny_bind ?_));rw[<-Array.forIn_toList];refine wpAny_forIn_list _ (λrest (b:Array Int) s'=>∃done left wl t,l=done++left/\au X.K H wl (TK.dl left)/\Vals wl rest/\b.toList=TK.fM X.w done/\s'={ s with toks:=t}) _ ?_ ?_ _ _ ⟨[],l,ws,s.toks,rfl,i,rv,by simp[TK.fM],rfl⟩
    ·rintro x rest b s' ⟨done,left,wl,t,e,r',v',hb,rfl⟩;cases v' with
     |@cons w1 _ wl _ Kh v'=>
      cases left with
      |nil=>have:=r'.length;simp[TK.dl] at this
      |cons k1 left=>
       simp only[TK.dl] at r';have ZV:k1.ok n=true:=og.mp ok k1 (by rw[e];simp)
       have fin:∀t',∃uZ vj PC ze,l=uZ++vj/\au X.K H PC (TK.dl vj)/\Vals PC rest/\(b.push (k1.hash X.w)).toList=TK.fM X.w uZ/\({ s with toks:=t'}:Shared)={ s with toks:=ze}:=
        λt'=>⟨done++[k1],left,wl,t',by simp[e],r'.inv.2,v',by rw[K7,<-hb];simp[TK.fM],rfl⟩
       exact wpAny_bind (ih (I.tok t) r'.inv.1 ZV Kh (by show A.units+1+n < cLine;lia) λt'=>by
        first
         |exact wpAny_pure (fin t')
         |exact wpAny_bind (wpAny_pure (wpAny_pure (fin t'))))
    ·rintro b s' ⟨done,left,wl,t,e,r',v',hb,rfl⟩;cases v';have hl:left=[]:=by
      cases left with
      |nil=>rfl
      |cons _ _=>have:=r'.length;simp[TK.dl] at this
     subst hl;rw[d_] at e;subst e;show wpAny _ _ (retInt (Builtin.Tuple.tupleHashOf b.toList)) _ _ _;rw[hb];refine wpAny_ret_mkInt ?_;have h':∀t,Q (reduceHash (Builtin.Tuple.tupleHashOf (TK.fM X.w l))) { s with toks:=t}:=λt=>by simpa only[TK.hash] using h t
     unfold reduceHash at h';show wpAny _ _ (if(decide (-(2:Int) ^ 63<=Builtin.Tuple.tupleHashOf (TK.fM X.w l)) && decide (Builtin.Tuple.tupleHashOf (TK.fM X.w l) < 2 ^ 63))=true then _ else _) Q E _
     split
     ·rename_i hc
      rw[if_pos hc] at h';exact wpAny_pure (h' _)
     ·rename_i hc
      rw[if_neg hc] at h';exact wpAny_bind (wpAny_rule (wpAny_pure (h' _)))
theorem LN:∀(n:Nat) {A:Around} {E:Value->Shared->Prop} {s:Shared} {y:V} {u:Value} {k:TK} {Q:Bool->Shared->Prop},Inv X pins Z H s->au X.K H [y] [k.d]->k.ok n=true->RelV y u->Q true s->
  wpAny (model X.prog X.w) A (eqIsQuiet n u) Q E s:=by
 intro n
 induction n with
 |zero=>
  intro A E s y u k Q I r ok ru h;cases k with
  |tp l=>simp[TK.ok] at ok
  |inl i=>simp only[TK.d] at r;cases r with|flat q _=>cases q;obtain⟨t,rfl⟩:=ru;rw[eqIsQuiet_byValue 0 rfl];exact wpAny_pure h
  |inr i=>simp only[TK.d] at r;cases r with|flat q _=>cases q;obtain⟨t,rfl⟩:=ru;rw[eqIsQuiet_byValue 0 rfl];exact wpAny_pure h
 |succ n ih=>
  intro A E s y u k Q I r ok ru h;cases k with
  |inl i=>simp only[TK.d] at r;cases r with|flat q _=>cases q;obtain⟨t,rfl⟩:=ru;rw[eqIsQuiet_byValue (n+1) rfl];exact wpAny_pure h
  |inr i=>simp only[TK.d] at r;cases r with|flat q _=>cases q;obtain⟨t,rfl⟩:=ru;rw[eqIsQuiet_byValue (n+1) rfl];exact wpAny_pure h
  |tp l=>
   simp only[TK.d] at r;cases r with
   |flat q _=>cases q
   |@tup a ws _ _ _ q i _=>
    cases ru;obtain⟨aG,rv,pl,_⟩:=I.tuple q;have hT:s.TypeIs (.ref a) "tuple":=pl.typeIs;obtain⟨o,g1,g2,nn,g3⟩:=pl;have ok:l.all (TK.ok n)=true:=by simpa only[TK.ok] using ok
    unfold eqIsQuiet;refine wpAny_bind (wpAny_specialOf hT F.slot_tuple_eq.lookup (wpAny_bind (wpAny_isInstance hT isSubtype_tuple_tuple ?_)));simp only[kM,uE,if_false];refine wpAny_bind (wpAny_seqItems g1 g3 (wpAny_bind ?_));show wpAny _ _ (forIn aG.toArray _ _) _ _ s;rw[<-Array.forIn_toList];refine wpAny_forIn_list _ (λrest r s'=>r.1=none/\s'=s/\∃left wl,au X.K H wl (TK.dl left)/\Vals wl rest/\∀x∈left,x.ok n=true) _ ?_ ?_ _ _ ⟨rfl,rfl,l,ws,i,rv,λx m=>og.mp ok x m⟩
    ·rintro v rest r s' ⟨hr,rfl,left,wl,r',v',hk⟩;cases v' with
     |@cons w1 _ wl _ Kh v'=>
      cases left with
      |nil=>have:=r'.length;simp[TK.dl] at this
      |cons k1 left=>
       simp only[TK.dl] at r';refine wpAny_bind (ih I r'.inv.1 (hk k1 (by simp)) Kh ?_)
       simp only[kM,uE,if_false];exact wpAny_pure ⟨rfl,rfl,left,wl,r'.inv.2,v',λx m=>hk x (by simp[m])⟩
    ·rintro⟨r1,r2⟩ s' ⟨hr,rfl,_⟩;cases(show r1=none from hr);exact wpAny_pure h
structure zE (X:Cx) (A:Around) (E:Value->Shared->Prop) (s:Shared) (xs:Array DictEntry) (es:List (TK×V×V)) (k:TK) (u:Value):Prop where
 ent:∀(j:Nat) (x:DictEntry),xs[j]?=some x->∃e,es[j]?=some e/\jy X.w e x/\(∀(R:Bool->Shared->Prop),R (decide (e.1=k)) s->wpAny (model X.prog X.w) A (eqBool x.key u) R E s)/\
  ∀(R:Bool->Shared->Prop),R true s->wpAny (model X.prog X.w) A (eqIsQuiet 8 x.key) R E s
 ents:∀(j:Nat) (e:TK×V×V),es[j]?=some e->∃x:DictEntry,xs[j]?=some x/\jy X.w e x
 uniq:∀(i j:Nat) (e f:TK×V×V),es[i]?=some e->es[j]?=some f->e.1=k->f.1=k->i=j
theorem WW{A:Around}{E:Value->Shared->Prop}{s:Shared}{xs:Array DictEntry}{es:List (TK×V×V)}{k:TK}{y:V}{u:Value}(I:Inv X pins Z H s)(g3:Paired (jy X.w) es xs.toList)(g4:(es.map (·.1)).Nodup)
  (rk:au X.K H (es.map (·.2.1)) (es.map (·.1.d))) (ry:au X.K H [y] [k.d]) (ok:k.ok 8=true) (ru:RelV y u) (hu:A.units+8 < cLine):zE X A E s xs es k u where
 ent:=λj x hx=>by
  obtain⟨e,e1,e2⟩:=GW j g3 (by rw[zw];exact hx)
  obtain⟨v,v1,v2⟩:=rk.get (i:=j) (d:=e.1.d) (by rw[iz,e1];rfl)
  rw[iz,e1] at v1;cases v1;refine⟨e,e1,e2,λR hR=>?_,λR hR=>LN 8 I v2 e2.2.2.2 e2.2.1 hR⟩
  refine(AL I 8 8 v2 ry (yn 8 e2.2.2.2) (yn 8 ok) e2.2.1 ru hu).1 X.prog X.w E R ?_;rw[H0];exact hR
 ents:=λj e he=>by
  obtain⟨x,x1,x2⟩:=GX j g3 he;exact⟨x,by rw[<-zw];exact x1,x2⟩
 uniq:=λi j e f he hf ek fk=>by
  have hi:(es.map (·.1))[i]?=some k:=by rw[iz,he,<-ek];rfl
  have hj:(es.map (·.1))[j]?=some k:=by rw[iz,hf,<-fk];rfl
  exact(List.getElem?_inj (iq.mp hi).1 g4).mp (hi.trans hj.symm)
section
variable {A:Around} {E:Value->Shared->Prop} {s:Shared} {d:Addr} {o:Obj} {xs:Array DictEntry} {ep:Nat} {es:List (TK×V×V)} {k:TK} {u:Value} {Q:Option Nat->Shared->Prop}
noncomputable abbrev m9(xs:Array DictEntry)(h:Int):List Nat:=placesWithHash xs.size (λi=>xs[i]?.map (·.hash)) h
theorem mf{h:Int}{i:Nat}:i∈m9 xs h↔∃x,xs[i]?=some x/\x.hash=h:=by
 unfold m9 placesWithHash;rw[zm,mF];constructor
 ·rintro⟨h1,h2⟩;refine⟨xs[i],vL h1,?_⟩;dsimp only at h2;rw[vL h1] at h2;simpa using h2
 ·rintro⟨x,h1,h2⟩;refine⟨(Fx.mp h1).1,?_⟩;dsimp only;rw[h1,o_,h2];simp
theorem RH{h:Int}:(m9 xs h).Nodup:=List.Nodup.sublist List.filter_sublist KL
theorem zE.m9(D:zE X A E s xs es k u){j:Nat}{e:TK×V×V}(he:es[j]?=some e)(ek:e.1=k):j∈m9 xs (k.hash X.w):=by
 obtain⟨x,x1,x2⟩:=D.ents j e he;exact mf.mpr ⟨x,x1,by rw[x2.1,ek]⟩
theorem RI(D:zE X A E s xs es k u)(g1:s.heap.get? d=some o)(g2:o.data=.dict xs ep)
  (q0:(∀(j:Nat) (e:TK×V×V),es[j]?=some e->e.1≠k)->Q none s) (q1:∀(j:Nat) (e:TK×V×V),es[j]?=some e->e.1=k->Q (some j) s) :
  wpAny (model X.prog X.w) A (dictWalkPlain d u (k.hash X.w) xs (m9 xs (k.hash X.w))) Q E s:=by
 unfold dictWalkPlain;refine wpAny_bind (wpAny_forIn_list _ (λrest b s'=>s'=s/\b=(none,())/\∃done,m9 xs (k.hash X.w)=done++rest/\∀j e,j∈done->es[j]?=some e->e.1≠k) _ ?_ ?_ _ _ ⟨rfl,rfl,[],rfl,λ_ _ m=>by cases m⟩)
 ·rintro i rest b s' ⟨rfl,rfl,done,hd,sS⟩;obtain⟨x,x1,x2⟩:=mf.mp (show i∈m9 xs (k.hash X.w) by rw[hd];simp)
  obtain⟨e,e1,e2,eq,_⟩:=D.ent i x x1;simp only[x1];rw[if_pos (by rw[x2];simp)]
  refine wpAny_bind (wpAny_dictEpoch g1 g2 (wpAny_bind (eq _ (wpAny_bind (wpAny_dictEpoch g1 g2 ?_)))));rw[if_neg (by simp)]
  by_cases ek:e.1=k
  ·rw[decide_eq_true ek];exact wpAny_bind (wpAny_rule (wpAny_pure (wpAny_pure (q1 i e e1 ek))))
  ·rw[decide_eq_false ek];refine wpAny_bind (wpAny_rule (wpAny_pure ⟨rfl,rfl,done++[i],by simp[hd],λj f m hf=>?_⟩))
   rcases jw.mp m with m|m
   ·exact sS j f m hf
   ·simp at m;subst m;rw[e1] at hf;cases hf;exact ek
 ·rintro b s' ⟨rfl,rfl,done,hd,sS⟩;refine wpAny_pure (q0 λj e he ek=>sS j e ?_ he ek)
  have:=D.m9 he ek;rw[hd] at this;simpa using this
noncomputable def Zy(u:Value):Value:=u
theorem Ts(D:zE X A E s xs es k u)(g1:s.heap.get? d=some o)(g2:o.data=.dict xs ep)(hq:∀(R:Bool->Shared->Prop),R true s->wpAny (model X.prog X.w) A (eqIsQuiet 8 u) R E s)
  (hs:∀z t,u=.str z t->k=.inr z) (sT:∀(j:Nat) (x:DictEntry) (e:TK×V×V) z t,xs[j]?=some x->es[j]?=some e->x.key=.str z t->e.1=.inr z) (hh:∀a (j:Nat) (x:DictEntry) (e:TK×V×V),u=.ref a->xs[j]?=some x->es[j]?=some e->x.key=u->e.1=k)
  (q0:(∀(j:Nat) (e:TK×V×V),es[j]?=some e->e.1≠k)->Q none s) (q1:∀(j:Nat) (e:TK×V×V),es[j]?=some e->e.1=k->Q (some j) s) :
  wpAny (model X.prog X.w) A (dictFind d u (k.hash X.w)) Q E s:=by
 have walk:=RI D g1 g2 q0 q1;have stored:∀v∈(m9 xs (k.hash X.w)).filterMap (λi=>xs[i]?.map (·.key)),∀(R:Bool->Shared->Prop),R true s->wpAny (model X.prog X.w) A (eqIsQuiet 8 v) R E s:=by
  intro v hv R hR;obtain⟨i,_,hi⟩:=qc.mp hv;cases hx:xs[i]? with
  |none=>rw[hx] at hi;cases hi
  |some x=>
   rw[hx] at hi;obtain rfl:x.key=v:=by simpa using hi
   obtain⟨e,_,_,_,h⟩:=D.ent i x hx;exact h R hR
 have tell:∀(R:Bool->Shared->Prop),R false s->wpAny (model X.prog X.w) A (tableMayTell u ((m9 xs (k.hash X.w)).filterMap λi=>xs[i]?.map (·.key))) R E s:=by
  intro R hR;unfold tableMayTell;split
  ·exact wpAny_pure hR
  ·refine wpAny_bind (hq _ ?_);simp only[kM,uE,if_false];refine wpAny_bind (wpAny_forIn_list _ (λrest r s'=>s'=s/\r=(none,())/\∀v∈rest,∀(R:Bool->Shared->Prop),R true s->wpAny (model X.prog X.w) A (eqIsQuiet 8 v) R E s) _ ?_ ?_ _ _ ⟨rfl,rfl,stored⟩)
   ·rintro x rest r s' ⟨rfl,rfl,hr⟩;refine wpAny_bind (hr x (by simp) _ ?_)
    simp only[kM,uE,if_false];exact wpAny_pure ⟨rfl,rfl,λv hv=>hr v (by simp[hv])⟩
   ·rintro r s' ⟨rfl,rfl,_⟩;exact wpAny_pure hR
 have tell2:∀(R:Bool->Shared->Prop),R false s->wpAny (model X.prog X.w) A (if((m9 xs (k.hash X.w)).filterMap (λi=>xs[i]?.map (·.key)) == [u])=true then pure false else tableMayTell u ((m9 xs (k.hash X.w)).filterMap λi=>xs[i]?.map (·.key))) R E s:=by
  intro R hR;split
  ·exact wpAny_pure hR
  ·exact tell R hR
 have fin:∀(i:Nat) (x:DictEntry) (e:TK×V×V),xs[i]?=some x->es[i]?=some e->jy X.w e x->(x.hash == k.hash X.w)=false->e.1≠k:=λi x e _ _ he hf ek=>by
  rw[he.1,ek] at hf;simp at hf
 unfold dictFind
 (try with_reducible refine wpAny_holding ?_);refine wpAny_bind (wpAny_dictEntries g1 g2 ?_)
 dsimp only;by_cases rE:((u::(m9 xs (k.hash X.w)).filterMap λi=>xs[i]?.map (·.key)).all carriedByValue)=true
 ·rw[if_pos rE];split;next z t=>
   split;next JV=>
    unfold foundByValue;cases hf:xs.findIdx? (λe=>e.key.isStr z) with
    |none=>
     refine wpAny_pure (q0 λj e he ek=>?_)
     obtain⟨x,x1,x2⟩:=D.ents j e he;have n1:=Array.findIdx?_eq_none_iff.mp hf x (Array.mem_of_getElem? x1);have e2:=x2.2.1;have n2:isExactStrKey x.key=true:=by
      have h:=Array.all_eq_true.mp JV j (Fx.mp x1).1;rw[(Fx.mp x1).2] at h;exact h
     cases hk:x.key with
     |str z2 t2=>
      have e3:=sT j x e z2 t2 x1 he hk;rw[ek,hs z t rfl] at e3;cases e3;rw[hk] at n1;simp[Value.isStr] at n1
     |_=>rw[hk] at n2;cases n2
    |some i=>
     obtain⟨fq,hi,_⟩:=Array.findIdx?_eq_some_iff_getElem.mp hf;obtain⟨e,e1,e2,eq,_⟩:=D.ent i xs[i] (vL fq);have ek:e.1=k:=by
      cases hk:xs[i].key with
      |str z2 t2=>
       rw[hk] at hi;have:z2=z:=by simpa[Value.isStr] using hi
       subst this;rw[sT i _ e z2 t2 (vL fq) e1 hk,hs z2 t rfl]
      |_=>rw[hk] at hi;simp[Value.isStr] at hi
     simp only[vL fq];refine wpAny_bind (wpAny_dictEpoch g1 g2 (wpAny_bind (eq _ (wpAny_bind (wpAny_dictEpoch g1 g2 ?_)))));rw[if_neg (by simp),decide_eq_true ek]
     exact wpAny_bind (wpAny_rule (wpAny_pure (q1 i e e1 ek)))
   next=>exact walk
  next=>exact walk
 ·rw[if_neg rE];have Cm:∀z t,u=.str z t->¬(xs.all λe=>isExactStrKey e.key)=true:=by
   intro z t hu hx;refine rE (og.mpr λv hv=>?_)
   rcases dZ.mp hv with rfl|hv
   ·rw[hu];rfl
   ·obtain⟨i,_,hi⟩:=qc.mp hv;cases sU:xs[i]? with
    |none=>rw[sU] at hi;cases hi
    |some x=>
     rw[sU] at hi;obtain rfl:x.key=v:=by simpa using hi
     have h:=Array.all_eq_true.mp hx i (Fx.mp sU).1;rw[(Fx.mp sU).2] at h;cases hk:x.key with
     |str _ _=>rfl
     |_=>rw[hk] at h;cases h
  have vk:∀a,u=.ref a->¬(xs.any λe=>e.key == u && e.hash != k.hash X.w)=true:=by
   intro a hu hx;rw[Array.any_eq_true] at hx;obtain⟨i,hi,hc⟩:=hx;rw[qb,beq_iff_eq,bne_iff_ne] at hc;obtain⟨e,e1,e2,_⟩:=D.ent i xs[i] (vL hi);have:=hh a i _ e hu (vL hi) e1 hc.1;exact hc.2 (by rw[e2.1,this])
  have JG:u=Zy u:=rfl;refine(λ(key:?P)=>?main) ?k
  case main=>
   rw(occs:=.pos [1]) [JG];split
   ·rename_i z t hz
    rw[if_neg (Cm z t hz)];rw(occs:=.pos [1]) [JG];split
    ·rename_i a ha
     rw[if_neg (vk a ha)];exact key
    ·exact key
   ·rw(occs:=.pos [1]) [JG];split
    ·rename_i a ha
     rw[if_neg (vk a ha)];exact key
    ·exact key
  refine(λ(B8:?P2)=>?Ca) ?k2
  case Ca=>
   refine RG ?_ ?_
   ·refine wpAny_bind (wpAny_pure ?_);exact B8
   ·refine wpAny_bind (tell _ ?_);exact B8
  all_goals (
   show wpAny _ _ (if(false && _)=true then _ else _) _ _ _
   rw[if_neg (by rw[Bool.false_and];exact kU)]
   refine wpAny_bind (wpAny_forIn_list _ (λrest b s'=>s'=s/\∃hit done,b=(none,hit)/\m9 xs (k.hash X.w)=done++rest/\((hit=none/\∀(j:Nat) (e:TK×V×V),j∈done->es[j]?=some e->e.1≠k)\/∃(j:Nat) (e:TK×V×V),hit=some j/\j∈done/\es[j]?=some e/\e.1=k)) _ ?_ ?_ _ _
    ⟨rfl,none,[],rfl,rfl,.inl ⟨rfl,λ_ _ m=>by cases m⟩⟩)
   ·rintro i rest b s' ⟨rfl,hit,done,rfl,hd,hH⟩;obtain⟨x,x1,x2⟩:=mf.mp (show i∈m9 xs (k.hash X.w) by rw[hd];simp)
    obtain⟨e,e1,e2,eq,_⟩:=D.ent i x x1;have Zl:i∉done:=λm=>by
     have:=RH (xs:=xs) (h:=k.hash X.w);rw[hd] at this;exact(hV.mp this).2.2 i m i (by simp) rfl
    simp only[x1];rw[if_pos (by rw[x2];simp)]
    refine wpAny_bind (wpAny_dictEpoch g1 g2 (wpAny_bind (eq _ (wpAny_bind (wpAny_dictEpoch g1 g2 ?_)))));rw[if_neg (by simp)]
    by_cases ek:e.1=k
    ·rw[decide_eq_true ek];rcases hH with⟨rfl,sS⟩|⟨j,f,rfl,jd,jf,fk⟩
     ·first|rw[if_pos rfl]|skip
      simp only[Option.isSome_none,uE,if_false];first|refine wpAny_bind (wpAny_pure ?_)|skip
      refine wpAny_bind (wpAny_rule ?_);split
      ·exact wpAny_pure (wpAny_pure (q1 i e e1 ek))
      ·exact wpAny_pure ⟨rfl,some i,done++[i],rfl,by simp[hd],.inr ⟨i,e,rfl,by simp,e1,ek⟩⟩
     ·exact absurd (D.uniq i j e f e1 jf ek fk) λz=>Zl (by rw[z];exact jd)
    ·rw[decide_eq_false ek];have nx:(hit=none/\∀(j:Nat) (e:TK×V×V),j∈done++[i]->es[j]?=some e->e.1≠k)\/∃(j:Nat) (e:TK×V×V),hit=some j/\j∈done++[i]/\es[j]?=some e/\e.1=k:=by
      rcases hH with⟨h0,sS⟩|⟨j,f,h0,jd,jf,fk⟩
      ·refine .inl ⟨h0,λj f m hf=>?_⟩
       rcases jw.mp m with m|m
       ·exact sS j f m hf
       ·simp at m;subst m;rw[e1] at hf;cases hf;exact ek
      ·exact .inr ⟨j,f,h0,by simp[jd],jf,fk⟩
     simp only[uE,if_false];refine wpAny_bind (wpAny_rule ?_);first|rw[if_neg (by simp)]|skip
     first
      |exact wpAny_pure ⟨rfl,hit,done++[i],rfl,by simp[hd],nx⟩
      |exact wpAny_bind (wpAny_pure (wpAny_pure ⟨rfl,hit,done++[i],rfl,by simp[hd],nx⟩))
   ·rintro b s' ⟨rfl,hit,done,rfl,hd,hH⟩;rcases hH with⟨rfl,sS⟩|⟨j,f,rfl,jd,jf,fk⟩
    ·refine wpAny_pure (q0 λj e he ek=>sS j e ?_ he ek)
     have:=D.m9 he ek;rw[hd] at this;simpa using this
    ·exact wpAny_pure (q1 j f jf fk))
end
end
noncomputable def iJ(es:List (TK×V×V))(k:TK):Option V:=(es.find? λe=>decide (e.1=k)).map (·.2.2)
noncomputable def dY:List (TK×V×V)->TK->V->V->List (TK×V×V)
 |[],k,y,v=>[(k,y,v)]
 |e::es,k,y,v=>if e.1=k then(e.1,e.2.1,v)::es else e::dY es k y v
noncomputable def pX(es:List (TK×V×V))(k:TK)(ep:Nat):Nat:=if(es.any λe=>decide (e.1=k))=true then ep else ep+1
def iT(K:L2.FG)(H:Hp)(a:Addr)(y:V)(r:Option V):Prop:=∃es ep k,H a=some (.dG es ep)/\au K H (es.map (·.2.1)) (es.map (·.1.d))/\au K H [y] [k.d]/\k.ok 8=true/\r=iJ es k
def qW(K:L2.FG)(H:Hp)(a:Addr)(y v:V)(H':Hp):Prop:=∃es ep k,H a=some (.dG es ep)/\au K H (es.map (·.2.1)) (es.map (·.1.d))/\au K H [y] [k.d]/\k.ok 8=true/\es.length < sizeLine/\H'=upd H a (.dG (dY es k y v) (pX es k ep))
theorem Vb{k j:TK}(e:k.d=j.d)(h:k.ok 8=true):k=j:=by
 have h1:=H0 k j;rw[<-e,Hq 8 (yn 8 h)] at h1;exact of_decide_eq_true h1.symm
section
variable {X:Cx} {pins:List (Addr×Obj)} {Z:St} {H:Hp}
theorem M8{y:V}{z:Str}{t:Tok}{k:TK}(r:au X.K H [y] [k.d])(ru:RelV y (.str z t)):k=.inr z:=by
 cases k with
 |inl i=>simp only[TK.d] at r;cases r with|flat q _=>cases q;obtain⟨t,e⟩:=ru;cases e
 |inr i=>simp only[TK.d] at r;cases r with|flat q _=>cases q;obtain⟨t,e⟩:=ru;cases e;rfl
 |tp l=>simp only[TK.d] at r;cases r with|flat q _=>cases q|tup q _ _=>cases ru
theorem M9{y:V}{a:Addr}(ru:RelV y (.ref a)):y=.ref a:=by
 cases y with
 |ref b=>cases ru;rfl
 |aI=>cases ru
 |bl _=>cases ru
 |ty _=>cases ru
 |_=>obtain⟨t,e⟩:=ru;cases e
section
variable {A:Around} {E:Value->Shared->Prop} {s:Shared} {d:Addr} {es:List (TK×V×V)} {k:TK} {y v:V} {u r:Value}
theorem N1{o:Obj}{xs:Array DictEntry}{ep:Nat}{Q:Option Nat->Shared->Prop}(I:Inv X pins Z H s)(g1:s.heap.get? d=some o)(g2:o.data=.dict xs ep)(g3:Paired (jy X.w) es xs.toList)(g4:(es.map (·.1)).Nodup)
  (rk:au X.K H (es.map (·.2.1)) (es.map (·.1.d))) (ry:au X.K H [y] [k.d]) (ok:k.ok 8=true) (ru:RelV y u) (hu:A.units+8 < cLine)
  (q0:(∀(j:Nat) (e:TK×V×V),es[j]?=some e->e.1≠k)->Q none s) (q1:∀(j:Nat) (e:TK×V×V),es[j]?=some e->e.1=k->Q (some j) s):wpAny (model X.prog X.w) A (dictFind d u (k.hash X.w)) Q E s:=by
 have at':∀(j:Nat) (x:DictEntry) (e:TK×V×V),xs[j]?=some x->es[j]?=some e->jy X.w e x/\au X.K H [e.2.1] [e.1.d]:=by
  intro j x e hx he;obtain⟨e',e1,e2⟩:=GW j g3 (by rw[zw];exact hx)
  rw[he] at e1;cases e1;obtain⟨v,v1,v2⟩:=rk.get (i:=j) (d:=e.1.d) (by rw[iz,he];rfl)
  rw[iz,he] at v1;cases v1;exact⟨e2,v2⟩
 refine Ts (WW I g3 g4 rk ry ok ru hu) g1 g2 (λR hR=>LN 8 I ry ok ru hR) (λz t e=>M8 ry (by rw[<-e];exact ru)) (λj x e z t hx he hk=>?_) (λa j x e rH hx he hk=>?_) q0 q1
 ·obtain⟨g,r'⟩:=at' j x e hx he;exact M8 r' (by rw[<-hk];exact g.2.1)
 ·obtain⟨g,r'⟩:=at' j x e hx he;have h1:=g.2.1;rw[hk,rH] at h1;rw[rH] at ru;rw[M9 h1] at r';rw[M9 ru] at ry;exact Vb (D8 I 8 8 r' ry (yn 8 g.2.2.2) (yn 8 ok)) g.2.2.2
theorem RJ(h:∀(j:Nat) (e:TK×V×V),es[j]?=some e->e.1≠k):iJ es k=none:=by
 unfold iJ;rw[zx.mpr λe m z=>?_,Option.map_none]
 obtain⟨j,hj⟩:=CZ.mp m;exact h j e hj (of_decide_eq_true z)
theorem RK(hn:(es.map (·.1)).Nodup){j:Nat}{e:TK×V×V}(he:es[j]?=some e)(ek:e.1=k):iJ es k=some e.2.2:=by
 induction es generalizing j with
 |nil=>simp at he
 |cons x es ih=>
  rw[cv,j7] at hn;unfold iJ;rw[qP];cases j with
  |zero=>
   simp only[List.getElem?_cons_zero,Option.some.injEq] at he;subst he;rw[decide_eq_true ek];rfl
  |succ j=>
   simp only[List.getElem?_cons_succ] at he;have ne:¬x.1=k:=λz=>hn.1 (by rw[z,<-ek];exact gL.mpr ⟨e,zq he,rfl⟩)
   rw[decide_eq_false ne];exact ih hn.2 he
theorem GY{o:Option V}{Q:Option Value->Shared->Prop}(hu:A.units+8 < cLine)(I:Inv X pins Z H s)(g:iT X.K H d y o)(ru:RelV y u)(h:∀w t,jc o w->Q w { s with toks:=t}):
  wpAny (model X.prog X.w) A (dictGet d u) Q E s:=by
 obtain⟨es,ep,k,hd,rk,ry,ok,rfl⟩:=g;obtain⟨_,_,ob,xs,g1,_,g2,g3,g4⟩:=(show cb X.prog X.w H s.heap d (.dG es ep) from I.cx d _ hd);unfold dictGet
 (try with_reducible refine wpAny_holding ?_);refine wpAny_bind (Mi 8 I ry ok ru hu λt=>wpAny_bind (N1 (I.tok t) g1 g2 g3 g4 rk ry ok ru hu (λq0=>?_) (λj e he ek=>?_)))
 ·exact wpAny_pure (h none t (by rw[RJ q0];exact True.intro))
 ·obtain⟨x,x1,x2⟩:=GX j g3 he;refine wpAny_bind (wpAny_dictEntries (s:={ s with toks:=t}) g1 g2 (wpAny_pure ?_));rw[<-zw,x1];exact h (some x.val) t (by rw[RK g4 he ek];exact x2.2.2.1)
theorem iT.ty{o:Option V}(I:Inv X pins Z H s)(g:iT X.K H d y o):s.TypeIs (.ref d) "dict"/\(d == sysModules)=false:=by
 obtain⟨es,ep,k,hd,_⟩:=g;obtain⟨_,z,ob,xs,g1,g5,_⟩:=(show cb X.prog X.w H s.heap d (.dG es ep) from I.cx d _ hd);exact⟨⟨ob,g1,g5.1⟩,z⟩
theorem LO{Q:Value->Shared->Prop}(hu:A.units+9 < cLine)(I:Inv X pins Z H s)(g:iT X.K H d y (some v))(ru:RelV y u)(h:∀w' s',Inv X pins Z H s'->RelV v w'->Q w' s'):wpAny (model X.prog X.w) A (getItem (.ref d) u) Q E s:=by
 have hT:=(g.ty I).1;unfold getItem
 (try with_reducible refine wpAny_holding ?_);refine wpAny_bind (wpAny_sequenceKey hT (by decide) (wpAny_bind (wpAny_callSpecial?_slot (name:=Str.ofString "__getitem__") hT slot_dict_getitem (wpAny_call_entry slot_dict_getitem hT entry_dict_getitem ?_ (args_dict_getitem _ _)))))
 show wpAny _ _ (dictGet d u >>= _) _ _ s;refine wpAny_bind (GY (by show A.units+1+8 < cLine;lia) I g ru λw t mi=>?_)
 obtain⟨w',rfl,r'⟩:=jc.some_of mi;exact wpAny_pure ⟨w',rfl,wpAny_pure (h w' _ (I.tok t) r')⟩
theorem Lp{o:Option V}{Q:Bool->Shared->Prop}(hu:A.units+9 < cLine)(I:Inv X pins Z H s)(g:iT X.K H d y o)(ru:RelV y u)(h:∀s',Inv X pins Z H s'->Q o.isSome s'):wpAny (model X.prog X.w) A (contains (.ref d) u) Q E s:=by
 obtain⟨hT,hd⟩:=g.ty I;unfold contains
 (try with_reducible refine wpAny_holding ?_);refine wpAny_bind (wpAny_specialOf hT slot_dict_contains.lookup ?_)
 dsimp only;rw[if_neg (by rw[beq_builtin_none];exact kU)]
 refine wpAny_bind (wpAny_callSpecialUnlessNone?_slot (name:=Str.ofString "__contains__") hT slot_dict_contains (wpAny_call_entry slot_dict_contains hT entry_dict_contains ?_ (args_dict_contains _ _)));show wpAny _ _ (dictGet d u >>= _) _ _ s;refine wpAny_bind (GY (by show A.units+1+8 < cLine;lia) I g ru λw t mi=>?_)
 have e:=mi.pS;cases w with
 |some w=>
  show wpAny _ _ (ret (.bool true)) _ _ _;refine wpAny_pure ⟨_,rfl,wpAny_truthy_bool ?_⟩;have:=h _ (I.tok t);rw[e] at this;exact this
 |none=>
  show wpAny _ _ (Builtin.Dict.pendingKey? d u >>= _) _ _ _;refine wpAny_bind (wpAny_pendingKey_other hd (wpAny_pure ⟨_,rfl,wpAny_truthy_bool ?_⟩));have:=h _ (I.tok t);rw[e] at this;exact this
theorem Kx{o:Option V}{Q:Value->Shared->Prop}(hu:A.units+9 < cLine)(I:Inv X pins Z H s)(g:iT X.K H d y o)(ru:RelV y u)(h:∀s',Inv X pins Z H s'->Q (.bool o.isSome) s'):wpAny (model X.prog X.w) A (compareOp .In u (.ref d)) Q E s:=
 wpAny_bind (Lp hu I g ru λs' I'=>wpAny_pure (h s' I'))
theorem Vc{o:Option V}{Q:Value->Shared->Prop}(hu:A.units+9 < cLine)(I:Inv X pins Z H s)(g:iT X.K H d y o)(ru:RelV y u)(h:∀s',Inv X pins Z H s'->Q (.bool (!o.isSome)) s'):wpAny (model X.prog X.w) A (compareOp .NotIn u (.ref d)) Q E s:=
 wpAny_bind (Lp hu I g ru λs' I'=>wpAny_pure (h s' I'))
theorem Gx(k:TK)(y v:V):∀es:List (TK×V×V),(dY es k y v).length<=es.length+1
 |[]=>by simp[dY]
 |e::es=>by
  unfold dY;have:=Gx k y v es;split <;> simp <;> lia
theorem Mj:∀{es:List (TK×V×V)},(∀(j:Nat) (e:TK×V×V),es[j]?=some e->e.1≠k)->dY es k y v=es++[(k,y,v)]
 |[],_=>rfl
 |e::es,h=>by
  unfold dY;rw[if_neg (h 0 e rfl),Mj λj x hx=>h (j+1) x (by simpa using hx)]
  rfl
theorem Vd{w:World}{xs:List DictEntry}(g3:Paired (jy w) es xs)(ry:RelV y u)(rv:RelV v r)(ok:k.ok 8=true):Paired (jy w) (es++[(k,y,v)]) (xs++[⟨k.hash w,u,r⟩]):=by
 induction g3 with
 |nil=>exact .cons ⟨rfl,ry,rv,ok⟩ .nil
 |cons a _ ih=>exact .cons a ih
theorem M_{w:World}:∀{es:List (TK×V×V)} {xs:List DictEntry} {j:Nat} {e:TK×V×V},Paired (jy w) es xs->(es.map (·.1)).Nodup->es[j]?=some e->e.1=k->RelV v r->
  Paired (jy w) (dY es k y v) (xs.modify j λx=>{ x with val:=r})/\(dY es k y v).map (·.1)=es.map (·.1)
 |_,_,_,_,.nil,_,he,_,_=>by simp at he
 |_::es,_::xs,0,e,.cons a t,hn,he,ek,rv=>by
  simp only[List.getElem?_cons_zero,Option.some.injEq] at he;subst he;unfold dY;rw[if_pos ek];exact⟨.cons ⟨a.1,a.2.1,rv,a.2.2.2⟩ t,rfl⟩
 |x::es,_::xs,j+1,e,.cons a t,hn,he,ek,rv=>by
  simp only[List.getElem?_cons_succ] at he;rw[cv,j7] at hn;have ne:¬x.1=k:=λz=>hn.1 (by rw[z,<-ek];exact gL.mpr ⟨e,zq he,rfl⟩)
  unfold dY;rw[if_neg ne];have ih:=M_ t hn.2 he ek rv;exact⟨.cons a ih.1,by rw[cv,cv,ih.2]⟩
theorem LP{H':Hp}{Q:Unit->Shared->Prop}(hu:A.units+8 < cLine)(I:Inv X pins Z H s)(g:qW X.K H d y v H')(ru:RelV y u)(rv:RelV v r)(h:∀s',Inv X pins Z H' s'->Q () s'):
  wpAny (model X.prog X.w) A (dictSet d u r) Q E s:=by
 obtain⟨es,ep,k,hd,rk,ry,ok,hl,rfl⟩:=g;obtain⟨_,z,ob,xs,g1,g5,g2,g3,g4⟩:=(show cb X.prog X.w H s.heap d (.dG es ep) from I.cx d _ hd);have hz:xs.size<=sizeLine:=by have:=Paired.length g3;simp at this;lia
 have y9:(dY es k y v).length<=sizeLine:=by have:=Gx k y v es;lia
 unfold dictSet
 (try with_reducible refine wpAny_holding ?_);refine wpAny_bind (Mi 8 I ry ok ru hu λt=>?_)
 unfold dictSetHashed
 (try with_reducible refine wpAny_holding ?_);refine wpAny_bind (N1 (I.tok t) g1 g2 g3 g4 rk ry ok ru hu (λq0=>?_) (λj e he ek=>?_))
 ·have OM:dY es k y v=es++[(k,y,v)]:=Mj q0;have Jf:pX es k ep=ep+1:=if_neg (by
   rw[zy];rintro⟨e,m,q⟩;obtain⟨j,hj⟩:=CZ.mp m;exact q0 j e hj (of_decide_eq_true q))
  rw[Jf] at h;refine wpAny_bind (wpAny_rule (wpAny_updateDictKeys (hz:=hz) (s:={ s with toks:=t}) g1 g2 (h _ ?_)));refine HX (I.tok t) (by rw[hd];exact True.intro) (Heap.SameBut.update ..) ⟨_,FF _ g1 (Obj.isFreed_of_dict (Obj.data_mapDictKeys g2 _))⟩ ⟨y9,z,_,_,FF _ g1 (Obj.isFreed_of_dict (Obj.data_mapDictKeys g2 _)),g5.mapDictKeys _,Obj.data_mapDictKeys g2 _,?_,?_⟩
  ·rw[OM,Array.toList_push];exact Vd g3 ru rv ok
  ·rw[OM,dh,hV];refine⟨g4,by simp,λa m b m' e=>?_⟩
   simp at m';subst m';obtain⟨x,mx,rfl⟩:=gL.mp m;obtain⟨j,hj⟩:=CZ.mp mx;exact q0 j x hj e
 ·have em:=M_ (y:=y) g3 g4 he ek rv;have Jf:pX es k ep=ep:=if_pos (zy.mpr ⟨e,zq he,decide_eq_true ek⟩);rw[Jf] at h;refine wpAny_bind (wpAny_rule (wpAny_bind (wpAny_updateDict (s:={ s with toks:=t}) g1 g2 (wpAny_point (h _ ?_)))));refine HX (I.tok t) (by rw[hd];exact True.intro) (Heap.SameBut.update ..) ⟨_,FF _ g1 (Obj.isFreed_of_dict (Obj.data_mapDict g2 _))⟩ ⟨y9,z,_,_,FF _ g1 (Obj.isFreed_of_dict (Obj.data_mapDict g2 _)),g5.mapDict _,Obj.data_mapDict g2 _,?_,?_⟩
  ·obtain⟨l⟩:=xs;simpa using em.1
  ·rw[em.2];exact g4
theorem LQ{H':Hp}{Q:Unit->Shared->Prop}(hu:A.units+9 < cLine)(I:Inv X pins Z H s)(g:qW X.K H d y v H')(ru:RelV y u)(rv:RelV v r)(h:∀s',Inv X pins Z H' s'->Q () s'):
  wpAny (model X.prog X.w) A (setItem (.ref d) u r) Q E s:=by
 have hT:s.TypeIs (.ref d) "dict":=by
  obtain⟨es,ep,k,hd,rk,ry,ok,_⟩:=g;exact(iT.ty I ⟨es,ep,k,hd,rk,ry,ok,rfl⟩).1
 unfold setItem
 (try with_reducible refine wpAny_holding ?_);refine wpAny_bind (wpAny_sequenceKey hT (by decide) (wpAny_bind (wpAny_callSpecial?_slot (name:=Str.ofString "__setitem__") hT slot_dict_setitem (wpAny_call_entry slot_dict_setitem hT entry_dict_setitem ?_ (args_dict_setitem _ _ _)))))
 show wpAny _ _ (Builtin.Dict.notOrdered "__setitem__" ⟨[.ref d,u,r],[]⟩ >>= _) _ _ s;refine wpAny_bind (wpAny_notOrdered_dict hT ?_);show wpAny _ _ (dictSet d u r >>= λz=>_) _ _ s
 exact wpAny_bind (LP (by show A.units+1+8 < cLine;lia) I g ru rv λs' I'=>wpAny_pure ⟨.none,rfl,wpAny_pure (h s' I')⟩)
end
end
section
variable {X:Cx} {K:L2.FG}
def Cr(K:L2.FG):R2:=λx y H Q=>∃d e,au K H [x] [d]/\au K H [y] [e]/\eK 40 d=true/\eK 40 e=true/\Q (.bl (bb d e)) H
theorem mN(K:L2.FG)(hu:X.A.units+40 < cLine)(hK:X.K=K:=by rfl):fH X (compareOp .Eq) (Cr K):=by
 subst hK;intro pins s Z H x y v u Q I rx ry h;obtain⟨d,e,r1,r2,o1,o2,q⟩:=h;exact(AL I 40 40 r1 r2 o1 o2 rx ry hu).2 X.prog X.w _ _ ⟨.bl _,H,I,rfl,q⟩
open Classical in
noncomputable def nH (K:L2.FG) (H:Hp) (dx:D) (u:Value):Bool:=decide (∃x d,RelV x u/\au K H [x] [d]/\eK 40 d=true/\bb d dx=true)
open Classical in
theorem N2{pins:List (Addr×Obj)}{s:Shared}{Z:St}{H:Hp}(I:Inv X pins Z H s){dx d:D}{x:V}{u:Value}(rx:RelV x u)(r:au X.K H [x] [d])(ok:eK 40 d=true):nH X.K H dx u=bb d dx:=by
 unfold nH;rw[zr,decide_eq_true_iff];constructor
 ·rintro⟨x',d',Z5,r',ZU,e⟩;have:=RelV.inj rx Z5;subst this;rw[D8 I 40 40 r r' ok ZU];exact e
 ·exact λe=>⟨x,d,rx,r,ok,e⟩
theorem En{pins:List (Addr×Obj)}{s:Shared}{Z:St}{H:Hp}(I:Inv X pins Z H s){dx:D}{ws:List V}{aG:List Value}{ds:List D}(t:Vals ws aG)(rp:au X.K H ws ds)(ok:ds.all (eK 40)=true):aG.any (nH X.K H dx)=ds.any λd=>bb d dx:=by
 induction t generalizing ds with
 |nil=>
  cases ds with
  |nil=>rfl
  |cons _ _=>have:=rp.length;simp at this
 |cons r t ih=>
  cases ds with
  |nil=>have:=rp.length;simp at this
  |cons d ds=>
   rw[Fv,qb] at ok;rw[List.any_cons,List.any_cons,N2 I r rp.inv.1 ok.1,ih rp.inv.2 ok.2]
theorem Eo{pins:List (Addr×Obj)}{s:Shared}{Z:St}{H:Hp}(I:Inv X pins Z H s){dx:D}{y:V}{v:Value}{A:Around}(rv:RelV y v)(ry:au X.K H [y] [dx])(oy:eK 40 dx=true)(hu:A.units+40 < cLine):
  ∀{ws:List V} {aG:List Value} {ds:List D},Vals ws aG->au X.K H ws ds->ds.all (eK 40)=true->∀u∈aG,SeqAt.EqAt A s u v (nH X.K H dx u):=by
 intro ws aG ds t
 induction t generalizing ds with
 |nil=>intro _ _ u m;cases m
 |cons r t ih=>
  intro rp ok u' m;cases ds with
  |nil=>have:=rp.length;simp at this
  |cons d ds=>
   rw[Fv,qb] at ok;rcases dZ.mp m with rfl|m
   ·rw[N2 I r rp.inv.1 ok.1];exact(AL I 40 40 rp.inv.1 ry ok.1 oy r rv hu).1
   ·exact ih rp.inv.2 ok.2 u' m
noncomputable def nZ:D->Option (List D)
 |.lst ds=>some ds
 |.tup ds=>some ds
 |_=>none
def xG(K:L2.FG)(neg:Bool):R2:=λx y H Q=>
 (∃d e ds,au K H [x] [d]/\au K H [y] [e]/\nZ e=some ds/\eK 40 d=true/\ds.all (eK 40)=true/\Q (.bl (if neg then !ds.any λz=>bb z d else ds.any λz=>bb z d)) H)\/
 (∃i j,x=.str i/\y=.str j/\Q (.bl (if neg then !(!(Builtin.Str.occurrences j i 0 j.length 1).isEmpty) else !(Builtin.Str.occurrences j i 0 j.length 1).isEmpty)) H)\/
 ∃a o,y=.ref a/\iT K H a x o/\Q (.bl (if neg then !o.isSome else o.isSome)) H
theorem qB(K:L2.FG)(hu:X.A.units+41 < cLine)(hK:X.K=K:=by rfl):fH X (compareOp .In) (xG K false):=by
 subst hK;intro pins s Z H x y v u Q I rx ry h;rcases h with⟨d,e,ds,r1,r2,es,o1,o2,q⟩|⟨i,j,rfl,rfl,q⟩|⟨a,o,rfl,g,q⟩
 ·have rH:X.A.in1.units+40 < cLine:=by show X.A.units+1+40 < cLine;lia
  cases r2 with
  |flat z _=>cases e <;> first|(cases z;done)|cases es
  |lst sq i _=>
   cases es;cases ry;obtain⟨aG,r,pl,hz⟩:=I.list (.inl sq);refine SeqAt.in_listAt (nH X.K H d) pl.isList (λw hw=>Eo I rx r1 o1 rH r i o2 w (by simpa using hw)) ⟨.bl _,H,I,rfl,?_⟩
   rw[show aG.toArray.any (nH X.K H d)=aG.any (nH X.K H d) by simp,En I r i o2]
   exact q
  |tup sq i _=>
   cases es;cases ry;obtain⟨aG,r,pl,hz⟩:=I.tuple sq;refine SeqAt.in_tupleAt (nH X.K H d) pl (λw hw=>Eo I rx r1 o1 rH r i o2 w (by simpa using hw)) ⟨.bl _,H,I,rfl,?_⟩
   rw[show aG.toArray.any (nH X.K H d)=aG.any (nH X.K H d) by simp,En I r i o2]
   exact q
  |aK _ _ _ _ _=>cases es
  |aS _ _=>cases es
  |exc _ _=>cases es
  |obj _=>cases es
 ·exact Rt pins s Z H _ _ v u Q I rx ry ⟨i,j,rfl,rfl,q⟩
 ·cases ry;exact Kx (by lia) I g rx λs3 I3=>⟨.bl o.isSome,H,I3,rfl,q⟩
theorem sr(K:L2.FG)(hu:X.A.units+41 < cLine)(hK:X.K=K:=by rfl):fH X (compareOp .NotIn) (xG K true):=by
 subst hK;intro pins s Z H x y v u Q I rx ry h;rcases h with⟨d,e,ds,r1,r2,es,o1,o2,q⟩|⟨i,j,rfl,rfl,q⟩|⟨a,o,rfl,g,q⟩
 ·have rH:X.A.in1.units+40 < cLine:=by show X.A.units+1+40 < cLine;lia
  cases r2 with
  |flat z _=>cases e <;> first|(cases z;done)|cases es
  |lst sq i _=>
   cases es;cases ry;obtain⟨aG,r,pl,hz⟩:=I.list (.inl sq);refine SeqAt.notIn_listAt (nH X.K H d) pl.isList (λw hw=>Eo I rx r1 o1 rH r i o2 w (by simpa using hw)) ⟨.bl _,H,I,rfl,?_⟩
   rw[show aG.toArray.any (nH X.K H d)=aG.any (nH X.K H d) by simp,En I r i o2]
   exact q
  |tup sq i _=>
   cases es;cases ry;obtain⟨aG,r,pl,hz⟩:=I.tuple sq;refine SeqAt.notIn_tupleAt (nH X.K H d) pl (λw hw=>Eo I rx r1 o1 rH r i o2 w (by simpa using hw)) ⟨.bl _,H,I,rfl,?_⟩
   rw[show aG.toArray.any (nH X.K H d)=aG.any (nH X.K H d) by simp,En I r i o2]
   exact q
  |aK _ _ _ _ _=>cases es
  |aS _ _=>cases es
  |exc _ _=>cases es
  |obj _=>cases es
 ·exact Qj pins s Z H _ _ v u Q I rx ry ⟨i,j,rfl,rfl,q⟩
 ·cases ry;exact Vc (by lia) I g rx λs3 I3=>⟨.bl (!o.isSome),H,I3,rfl,q⟩
noncomputable def oEq:List O->Option O
 |[a,b]=>if eK 40 a.d=true/\eK 40 b.d=true then some (.Y (.bl (bb a.d b.d))) else none
 |_=>none
theorem mR:cD K (mh (Cr K)) oEq:=by
 intro F H vs os o Q le eD e res;unfold oEq at e;split at e
 ·split at e
  ·cases e;obtain⟨x,y,B,C,rfl,h1,h2⟩:=eD.two
   rename_i hh
   exact⟨_,_,rfl,_,_,nz le h1,nz le h2,hh.1,hh.2,res.flat rfl⟩
  ·cases e
 ·cases e
mutual
noncomputable def p_:D->Option TK
 |.int i=>some (.inl i)
 |.str x=>some (.inr x)
 |.tup l=>(n9 l).map .tp
 |_=>none
noncomputable def n9:List D->Option (List TK)
 |[]=>some []
 |d::l=>(p_ d).bind λk=>(n9 l).map λks=>k::ks
end
noncomputable def eV:D->Option TK
 |.int i=>some (.inl i)
 |.str x=>some (.inr x)
 |.tup l=>(n9 l).bind λks=>if TK.ok 8 (.tp ks)=true then some (.tp ks) else none
 |_=>none
mutual
theorem XY:∀{d:D} {k:TK},p_ d=some k->k.d=d
 |.int i,k,e=>by simp only[p_] at e;cases e;simp[TK.d]
 |.str i,k,e=>by simp only[p_] at e;cases e;simp[TK.d]
 |.tup l,k,e=>by
  simp only[p_] at e;obtain⟨ks,h1,rfl⟩:=jP.mp e;simp only[TK.d];rw[n_ h1]
 |.aI,k,e=>by simp[p_] at e
 |.bl _,k,e=>by simp[p_] at e
 |.ty _,k,e=>by simp[p_] at e
 |.lst _,k,e=>by simp[p_] at e
 |.aK _,k,e=>by simp[p_] at e
 |.aS _,k,e=>by simp[p_] at e
 |.exc _ _,k,e=>by simp[p_] at e
theorem n_:∀{l:List D} {ks:List TK},n9 l=some ks->TK.dl ks=l
 |[],ks,e=>by simp only[n9] at e;cases e;simp[TK.dl]
 |d::l,ks,e=>by
  simp only[n9] at e;obtain⟨k,h1,e⟩:=cV.mp e;obtain⟨ZL,h2,rfl⟩:=jP.mp e;simp only[TK.dl];rw[XY h1,n_ h2]
end
theorem oE{d:D}{k:TK}(e:eV d=some k):k.d=d/\k.ok 8=true:=by
 cases d with
 |int i=>cases e;exact⟨by simp[TK.d],rfl⟩
 |str i=>cases e;exact⟨by simp[TK.d],rfl⟩
 |tup l=>
  simp only[eV] at e;obtain⟨ks,h1,e⟩:=cV.mp e;split at e
  ·rename_i h
   cases e;exact⟨by simp only[TK.d];rw[n_ h1],h⟩
  ·cases e
 |_=>cases e
noncomputable def h_:O->Option (List (TK×D))
 |.Y (.aK kvs)=>some kvs
 |.aK kvs=>some (O.dk kvs)
 |_=>none
theorem AM{α β:Type}:∀{ws:List (TK×α)} {kvs:List (TK×β)},ws.map (·.1)=kvs.map (·.1)->ws.map (·.1.d)=kvs.map (·.1.d):=λ{ws kvs} h=>by
 have:=congrArg (List.map TK.d) h;rw[jx,jx] at this;exact this
theorem Ml{F H:Hp}{x:V}{o:O}{B:List Addr}{kvs:List (TK×D)}(le:aH F H)(h:ai K F H [some x] [some o] B)(e:h_ o=some kvs):∃a ws ep,x=.ref a/\H a=some (.dG ws ep)/\ws.map (·.1)=kvs.map (·.1)/\au K H (ws.map (·.2.1)) (ws.map (·.1.d))/\au K H (ws.map (·.2.2)) (kvs.map (·.2)):=by
 have r:=nz le h;have ed:o.d=.aK kvs:=by
  cases o with
  |Y d=>cases d <;> cases e;rfl
  |aK _=>cases e;rfl
  |_=>cases e
 rw[ed] at r;cases r with
 |flat z _=>cases z
 |aK q k r i _=>exact⟨_,_,_,rfl,q,k,by rw[AM k];exact r,i⟩
noncomputable def i7(kvs:List (TK×D))(k:TK):Option D:=(kvs.find? λkv=>decide (kv.1=k)).map (·.2)
theorem D9{F:Hp}{k:TK}:∀{ws:List (TK×V×V)} {kvs:List (TK×D)},ws.map (·.1)=kvs.map (·.1)->au K F (ws.map (·.2.2)) (kvs.map (·.2))->(iJ ws k=none/\i7 kvs k=none)\/∃v d,iJ ws k=some v/\i7 kvs k=some d/\au K F [v] [d]
 |[],[],_,_=>.inl ⟨rfl,rfl⟩
 |w::ws,p::kvs,h,r=>by
  rw[cv,cv] at h;injection h with h1 h2;unfold iJ i7;rw[qP,qP,h1];by_cases e:p.1=k
  ·rw[decide_eq_true e];exact .inr ⟨w.2.2,p.2,rfl,rfl,r.inv.1⟩
  ·rw[decide_eq_false e];exact D9 h2 r.inv.2
 |[],_::_,h,_=>by simp at h
 |_::_,[],h,_=>by simp at h
theorem QK{F:Hp}{k:TK}{ws:List (TK×V×V)}{kvs:List (TK×D)}(h:ws.map (·.1)=kvs.map (·.1))(r:au K F (ws.map (·.2.2)) (kvs.map (·.2))):(iJ ws k).isSome=(i7 kvs k).isSome:=by
 rcases D9 (k:=k) h r with⟨e1,e2⟩|⟨v,d,e1,e2,_⟩ <;> rw[e1,e2] <;> rfl
noncomputable def a_(neg:Bool):List O->Option O
 |[a,b]=>match h_ b with
  |some kvs=>(match a with
   |.Y d=>(eV d).bind λk=>some (.Y (.bl (if neg then !(i7 kvs k).isSome else(i7 kvs k).isSome)))
   |_=>none)
  |none=>(match a,b with
   |.Y (.str i),.Y (.str j)=>some (.Y (.bl (if neg then !(!(Builtin.Str.occurrences j i 0 j.length 1).isEmpty) else !(Builtin.Str.occurrences j i 0 j.length 1).isEmpty)))
   |a,b=>(nZ b.d).bind λds=>if eK 40 a.d=true/\ds.all (eK 40)=true then some (.Y (.bl (if neg then !ds.any λz=>bb z a.d else ds.any λz=>bb z a.d))) else none)
 |_=>none
theorem kT(neg:Bool):cD K (mh (xG K neg)) (a_ neg):=by
 intro F H vs os o Q le eD e res;unfold a_ at e;split at e
 ·rename_i a b
  obtain⟨x,y,B,C,rfl,h1,h2⟩:=eD.two;cases q:h_ b with
  |some kvs=>
   rw[q] at e;dsimp only at e;cases a with
   |Y d=>
    dsimp only at e;cases q2:eV d with
    |none=>rw[q2] at e;cases e
    |some k=>
     rw[q2] at e;cases e;obtain⟨p,ws,ep,rfl,hp,hk,rk,hr⟩:=Ml le h2 q;refine⟨_,_,rfl,.inr (.inr ⟨p,iJ ws k,rfl,⟨ws,ep,k,hp,rk,by rw[(oE q2).1];exact nz le h1,(oE q2).2,rfl⟩,?_⟩)⟩
     rw[QK hk hr];exact res.flat rfl
   |_=>cases e
  |none=>
   rw[q] at e;dsimp only at e;split at e
   ·cases e;cases iM h1 rfl;cases iM h2 rfl;exact⟨_,_,rfl,.inr (.inl ⟨_,_,rfl,rfl,res.flat rfl⟩)⟩
   ·cases q3:nZ b.d with
    |none=>rw[q3] at e;cases e
    |some ds=>
     rw[q3] at e;dsimp only[Option.bind] at e;split at e
     ·rename_i hh
      cases e;exact⟨_,_,rfl,.inl ⟨_,_,ds,nz le h1,nz le h2,q3,hh.1,hh.2,res.flat rfl⟩⟩
     ·cases e
 ·cases e
def xH(neg:Bool):R2:=λx y H Q=>(y=.aI/\Q (.bl (if neg then !decide (x=.aI) else decide (x=.aI))) H)\/∃a b,x=.bl a/\y=.bl b/\Q (.bl (if neg then a != b else a == b)) H
theorem N3:fH X (compareOp .Is) (xH false):=xC.or WQ
theorem Ve:fH X (compareOp .IsNot) (xH true):=uq.or UY
noncomputable def rO:O->Bool
 |.Y .aI=>true
 |_=>false
noncomputable def O_(neg b:Bool):O->Option O
 |.Y (.bl a)=>some (.Y (.bl (if neg then a != b else a == b)))
 |_=>none
noncomputable def Pa(neg:Bool)(a:O):O->Option O
 |.Y .aI=>some (.Y (.bl (if neg then !rO a else rO a)))
 |.Y (.bl b)=>O_ neg b a
 |_=>none
noncomputable def l_(neg:Bool):List O->Option O
 |[a,b]=>Pa neg a b
 |_=>none
theorem Tt{F H:Hp}{x:V}{o:O}{B:List Addr}(h:ai K F H [some x] [some o] B):decide (x=.aI)=rO o:=by
 cases h with
 |@Y _ d _ _ _ r _=>
  cases r with
  |flat q _=>cases d <;> cases q <;> rfl
  |lst _ _ _=>rfl
  |tup _ _ _=>rfl
  |aK _ _ _ _ _=>rfl
  |aS _ _=>rfl
  |exc _ _=>rfl
  |obj _=>rfl
 |lst _ _ _=>rfl
 |tup _ _ _=>rfl
 |aK _ _ _ _ _=>rfl
 |ins _ _ _ _ _=>rfl
theorem IU(neg:Bool):cD K (mh (xH neg)) (l_ neg):=by
 intro F H vs os o Q le eD e res;unfold l_ at e;split at e
 ·obtain⟨x,y,B,C,rfl,h1,h2⟩:=eD.two;unfold Pa at e;split at e
  ·cases e;cases iM h2 rfl;refine⟨_,_,rfl,.inl ⟨rfl,?_⟩⟩;rw[Tt h1];exact res.flat rfl
  ·unfold O_ at e;split at e
   ·cases e;cases iM h1 rfl;cases iM h2 rfl;exact⟨_,_,rfl,.inr ⟨_,_,rfl,rfl,res.flat rfl⟩⟩
   ·cases e
  ·cases e
 ·cases e
def Ct(K:L2.FG):R2:=λx y H Q=>xI K x y H Q\/xJ K x y H Q\/Cu x y H Q\/∃a v,x=.ref a/\iT K H a y (some v)/\Q v H
theorem Vf(hu:X.A.units+9 < cLine):pz X (λx y H Q=>∃a v,x=.ref a/\iT X.K H a y (some v)/\Q v H):=by
 intro value slice pins s Z H x y v u Q I rx ry h hs;obtain⟨a,w,rfl,g,q⟩:=h;cases rx;exact tail_any (g.ty I).1 PySem.F.slot_dict_getitem.lookup (LO hu I g ry λw' s3 I3 mi=>⟨w,H,I3,mi,q⟩) hs
theorem JY(K:L2.FG)(hu:X.A.units+41 < cLine)(hK:X.K=K:=by rfl):pz X (Ct K):=by
 subst hK;exact(Tn X.K rfl).or ((U4 X.K rfl).or (xp.or (Vf (by lia))))
noncomputable def gW:O->Option O
 |.Y d=>some (.Y d)
 |_=>none
noncomputable def jI(kvs:List (TK×O))(k:TK):Option O:=(kvs.find? λkv=>decide (kv.1=k)).map (·.2)
noncomputable def intD:D->Option Int
 |.int k=>some k
 |_=>none
theorem wk{i:D}{k:Int}(h:intD i=some k):i=.int k:=by
 cases i with
 |int _=>cases h;rfl
 |_=>cases h
noncomputable def ZC(d i:D):Option O:=match d with
 |.lst ds=>(intD i).bind λk=>(dw ds k).map .Y
 |.tup ds=>(intD i).bind λk=>(dw ds k).map .Y
 |.aS ns=>(intD i).bind λk=>(dw (ns.map D.int) k).map .Y
 |.str z=>(intD i).bind λk=>if z.length<=1000000 then(dw z.cps.toList k).map λc=>.Y (.str ⟨#[c]⟩) else none
 |.aK kvs=>(eV i).bind λk=>(i7 kvs k).map .Y
 |_=>none
noncomputable def cF(a:O)(i:D):Option O:=match a with
 |.Y d=>ZC d i
 |.lst os=>(intD i).bind λk=>(dw os k).bind gW
 |.tup os=>(intD i).bind λk=>(dw os k).bind gW
 |.aK kvs=>(eV i).bind λk=>(jI kvs k).bind gW
 |_=>none
noncomputable def bu:List O->Option O
 |[a,.Y i]=>cF a i
 |_=>none
theorem H9{F:Hp}{ws:List V}{ds:List D}{i:Int}{d:D}(r:au K F ws ds)(e:dw ds i=some d):∃v,dw ws i=some v/\au K F [v] [d]:=by
 unfold dw at e ⊢;rw[r.length];cases q:sW ds.length i with
 |none=>rw[q] at e;cases e
 |some j=>
  rw[q] at e;exact r.get e
theorem M'{F H:Hp}:∀{ws:List V} {os:List O} {B:List Addr} {j:Nat} {d:D},ai K F H (ws.map some) (os.map some) B->os[j]?=some (.Y d)->∃v,ws[j]?=some v/\au K F [v] [d]
 |w::ws,o::os,B,0,d,h,e=>by
  obtain⟨B1,B2,h1,h2,_⟩:=ai.one h;simp at e;subst e;cases h1 with
  |Y r _=>exact⟨w,rfl,r⟩
 |w::ws,o::os,B,j+1,d,h,e=>by
  obtain⟨B1,B2,h1,h2,_⟩:=ai.one h;obtain⟨v,g1,g2⟩:=M' (j:=j) h2 (by simpa using e)
  exact⟨v,by simpa using g1,g2⟩
 |[],[],_,_,_,_,e=>by simp at e
 |[],_::_,_,_,_,h,_=>by have:=h.length;simp at this
 |_::_,[],_,_,_,h,_=>by have:=h.length;simp at this
theorem Na{F H:Hp}{ws:List V}{os:List O}{B:List Addr}{i:Int}{o:O}(r:ai K F H (ws.map some) (os.map some) B)(e:(dw os i).bind gW=some o):∃v d,dw ws i=some v/\au K F [v] [d]/\o=.Y d:=by
 have hl:ws.length=os.length:=by have:=r.length;simpa using this
 unfold dw at e ⊢;rw[hl];cases q:sW os.length i with
 |none=>rw[q] at e;cases e
 |some j=>
  rw[q] at e;dsimp only[Option.bind] at e;cases q2:os[j]? with
  |none=>rw[q2] at e;cases e
  |some o'=>
   rw[q2] at e;dsimp only at e;cases o' with
   |Y d=>cases e;obtain⟨v,g1,g2⟩:=M' r q2;exact⟨v,d,g1,g2,rfl⟩
   |_=>cases e
theorem sv{F H:Hp}{v:V}{d:D}{B:List Addr}(h:ai K F H [some v] [some (.Y d)] B):au K F [v] [d]:=by
 cases h with
 |Y r _=>exact r
theorem D_{F H:Hp}{k:TK}{d:D}:∀{ws:List (TK×V×V)} {kvs:List (TK×O)} {B:List Addr},ws.map (·.1)=kvs.map (·.1)->ai K F H (ws.map λp=>some p.2.2) (kvs.map λp=>some p.2) B->jI kvs k=some (.Y d)->∃v,iJ ws k=some v/\au K F [v] [d]
 |[],[],_,_,_,e=>by cases e
 |w::ws,p::kvs,B,h,r,e=>by
  rw[cv,cv] at h;injection h with h1 h2;obtain⟨B1,B2,g1,g2,_⟩:=ai.one r;unfold jI at e;unfold iJ;rw[qP] at e ⊢;rw[h1];by_cases q:p.1=k
  ·rw[decide_eq_true q] at e ⊢;have e:some p.2=some (.Y d):=e;injection e with e;have g1:ai K F H [some w.2.2] [some p.2] B1:=g1;rw[e] at g1;exact⟨w.2.2,rfl,sv g1⟩
  ·rw[decide_eq_false q] at e ⊢;exact D_ h2 g2 e
 |[],_::_,_,h,_,_=>by simp at h
 |_::_,[],_,h,_,_=>by simp at h
theorem XZ:cD K (mh (Ct K)) bu:=by
 intro F H vs os o Q le eD e res;unfold bu at e;split at e
 ·rename_i a i
  obtain⟨x,y,B,C,rfl,h1,h2⟩:=eD.two;refine⟨_,_,rfl,?_⟩;cases h1 with
  |ins _ _ _ _ _=>cases e
  |@Y _ da _ _ _ r _=>
   cases r with
   |lst sq ri _=>
    obtain⟨k,hk,ee⟩:=cV.mp (show(intD i).bind (λk=>(dw _ k).map O.Y)=some o from e)
    cases wk hk;cases iM h2 rfl;obtain⟨d,q1,q2⟩:=jP.mp ee;subst q2;obtain⟨v,g1,g2⟩:=H9 ri q1;exact .inl ⟨_,_,_,v,rfl,rfl,.inl (le.rd sq),g1,res.Y g2⟩
   |exc _ _=>cases e
   |obj _=>cases e
   |@aS _ ns _ _ sq _=>
    obtain⟨k,hk,ee⟩:=cV.mp (show(intD i).bind (λk=>(dw (ns.map D.int) k).map O.Y)=some o from e)
    cases wk hk;cases iM h2 rfl;obtain⟨d,q1,q2⟩:=jP.mp ee;subst q2;obtain⟨v,g1,g2⟩:=H9 (Ho (K:=K) (F:=F) ns) q1;exact .inl ⟨_,_,_,v,rfl,rfl,le.seq sq,g1,res.Y g2⟩
   |tup sq ri _=>
    obtain⟨k,hk,ee⟩:=cV.mp (show(intD i).bind (λk=>(dw _ k).map O.Y)=some o from e)
    cases wk hk;cases iM h2 rfl;obtain⟨d,q1,q2⟩:=jP.mp ee;subst q2;obtain⟨v,g1,g2⟩:=H9 ri q1;exact .inr (.inl ⟨_,_,_,v,rfl,rfl,le.ng sq,g1,res.Y g2⟩)
   |@aK _ ws es ep _ _ hd hk rk ri _=>
    obtain⟨k,q,e⟩:=cV.mp (show(eV i).bind (λk=>(i7 es k).map O.Y)=some o from e)
    obtain⟨d,q1,q2⟩:=jP.mp e;subst q2;rcases D9 (k:=k) hk ri with⟨_,z⟩|⟨v,d',g1,g2,g3⟩
    ·rw[q1] at z;cases z
    ·rw[q1] at g2;cases g2;exact .inr (.inr (.inr ⟨_,v,rfl,⟨ws,ep,k,le _ _ hd,by rw[AM hk];exact rk.mono le,by rw[(oE q).1];exact nz le h2,(oE q).2,g1.symm⟩,res.Y g3⟩))
   |flat z _=>
    cases da with
    |str zz=>
     obtain⟨k,hk,ee⟩:=cV.mp (show(intD i).bind (λk=>if zz.length<=1000000 then(dw zz.cps.toList k).map λc=>O.Y (.str ⟨#[c]⟩) else none)=some o from e)
     cases wk hk;split at ee
     ·obtain⟨c,q1,q2⟩:=jP.mp ee;subst q2;cases z;cases iM h2 rfl;exact .inr (.inr (.inl ⟨_,_,c,rfl,rfl,ml (by assumption),q1,res.flat rfl⟩))
     ·cases ee
    |aI=>cases e
    |bl _=>cases e
    |int _=>cases e
    |ty _=>cases e
    |_=>cases z
  |lst sq ri _=>
   obtain⟨k,hk,ee⟩:=cV.mp (show(intD i).bind (λk=>(dw _ k).bind gW)=some o from e)
   cases wk hk;cases iM h2 rfl;obtain⟨v,d,g1,g2,rfl⟩:=Na ri ee;exact .inl ⟨_,_,_,v,rfl,rfl,dq.of sq,g1,res.Y g2⟩
  |tup sq ri _=>
   obtain⟨k,hk,ee⟩:=cV.mp (show(intD i).bind (λk=>(dw _ k).bind gW)=some o from e)
   cases wk hk;cases iM h2 rfl;obtain⟨v,d,g1,g2,rfl⟩:=Na ri ee;exact .inr (.inl ⟨_,_,_,v,rfl,rfl,iL.of sq,g1,res.Y g2⟩)
  |@aK _ ws es ep _ _ _ _ hd hk rk ri _=>
   obtain⟨k,q,e⟩:=cV.mp (show(eV i).bind (λk=>(jI es k).bind gW)=some o from e)
   obtain⟨o',q2,e⟩:=cV.mp e;cases o' with
   |Y d=>
    cases e;obtain⟨v,g1,g2⟩:=D_ hk ri q2;exact .inr (.inr (.inr ⟨_,v,rfl,⟨ws,ep,k,hd,by rw[AM hk];exact rk.mono le,by rw[(oE q).1];exact nz le h2,(oE q).2,g1.symm⟩,res.Y g2⟩))
   |_=>cases e
 ·cases e
def vw(K:L2.FG):List V->Hp->VK->Prop:=λxs H Q=>(∃p ys,xs=[.ref p]/\(dq K H p ys\/iL K H p ys)/\Q (.int ys.length) H)\/(∃z,xs=[.str z]/\z.length<=sizeLine/\Q (.int z.length) H)
theorem mI(K:L2.FG)(hK:X.K=K:=by rfl):cJ X (.builtin "len") (vw K):=(Qa K hK).or Qm
noncomputable def m6:D->Option Int
 |.lst ds=>some ds.length
 |.tup ds=>some ds.length
 |.str z=>if z.length<=1000000 then some z.length else none
 |.aS ns=>some ns.length
 |_=>none
noncomputable def gj:List O->Option O
 |[a]=>(m6 a.d).map λn=>.Y (.int n)
 |_=>none
theorem mO:cD K (vw K) gj:=by
 intro F H vs os o Q le eD e res;unfold gj at e;split at e
 ·rename_i a
  obtain⟨x,B,rfl,h1⟩:=eD.one;obtain⟨n,q1,q2⟩:=jP.mp e;subst q2;have r:=nz le h1;cases hd:a.d with
  |lst ds=>
   rw[hd] at q1 r;cases q1;cases r with
   |flat z _=>cases z
   |lst sq ri _=>exact .inl ⟨_,_,rfl,.inl (.inl sq),by rw[ri.length];exact res.flat rfl⟩
  |tup ds=>
   rw[hd] at q1 r;cases q1;cases r with
   |flat z _=>cases z
   |tup sq ri _=>exact .inl ⟨_,_,rfl,.inr sq,by rw[ri.length];exact res.flat rfl⟩
  |str z=>
   rw[hd] at q1 r;unfold m6 at q1;dsimp only at q1;split at q1
   ·cases q1;cases r with
    |flat z _=>cases z;exact .inr ⟨_,rfl,ml (by assumption),res.flat rfl⟩
   ·cases q1
  |aS ns=>
   rw[hd] at q1 r;cases q1;cases r with
   |flat z _=>cases z
   |aS sq _=>exact .inl ⟨_,_,rfl,.inl sq,by rw[bB];exact res.flat rfl⟩
  |_=>rw[hd] at q1;cases q1
 ·cases e
noncomputable def f_:D->Option String
 |.aI=>some "NoneType"
 |.bl _=>some "bool"
 |.int _=>some "int"
 |.str _=>some "str"
 |.lst _=>some "list"
 |.tup _=>some "tuple"
 |_=>none
noncomputable def cM:List O->Option O
 |[a,.Y (.ty T)]=>if T="int"\/T="str"\/T="bool"\/T="list"\/T="tuple" then(f_ a.d).map λk=>.Y (.bl (iH k T)) else none
 |_=>none
theorem Mm{H:Hp}{x:V}{d:D}{k:String}(r:au K H [x] [d])(e:f_ d=some k):AG K H x k:=by
 cases r with
 |flat q _=>cases d <;> cases e <;> cases q <;> rfl
 |lst sq _ _=>cases e;exact .inl ⟨rfl,_,.inl sq⟩
 |tup sq _ _=>cases e;exact .inr ⟨rfl,_,sq⟩
 |aK _ _ _ _ _=>cases e
 |aS _ _=>cases e
 |exc _ _=>cases e
 |obj _=>cases e
theorem sG:cD K (λxs H Q=>∃x k T,xs=[x,.ty T]/\AG K H x k/\(T="int"\/T="str"\/T="bool"\/T="list"\/T="tuple")/\Q (.bl (iH k T)) H) cM:=by
 intro F H vs os o Q le eD e res;unfold cM at e;split at e
 ·split at e
  ·obtain⟨x,y,B,C,rfl,h1,h2⟩:=eD.two;obtain⟨k,q1,q2⟩:=jP.mp e;subst q2;cases iM h2 rfl;exact⟨x,k,_,rfl,Mm (nz le h1) q1,by assumption,res.flat rfl⟩
  ·cases e
 ·cases e
noncomputable def oV:List O->Option O
 |[.Y (.int i)]=>some (.Y (.int i))
 |[.Y (.bl b)]=>some (.Y (.int (if b then 1 else 0)))
 |_=>none
theorem Vg:cD K (λxs H Q=>(∃i,xs=[.int i]/\Q (.int i) H)\/∃k,xs=[.bl k]/\Q (.int (if k then 1 else 0)) H) oV:=by
 intro F H vs os o Q le eD e res;unfold oV at e;split at e
 ·cases e;obtain⟨x,B,rfl,h1⟩:=eD.one;cases iM h1 rfl;exact .inl ⟨_,rfl,res.flat rfl⟩
 ·cases e;obtain⟨x,B,rfl,h1⟩:=eD.one;cases iM h1 rfl;exact .inr ⟨_,rfl,res.flat rfl⟩
 ·cases e
noncomputable def uy(o:O):Option (List D):=match df o with
 |some ds=>some ds
 |none=>xR o
noncomputable def iS:List O->Option O
 |[a]=>(uy a).map λds=>.lst (ds.map .Y)
 |_=>none
theorem Ea:cD K (λxs H Q=>∃p ys,xs=[.ref p]/\(dq K H p ys\/iL K H p ys)/\∀l,H l=none->Q (.ref l) (upd H l (.lst ys))) iS:=by
 intro F H vs os o Q le eD e res;unfold iS at e;split at e
 ·rename_i a
  obtain⟨x,B,rfl,h1⟩:=eD.one;obtain⟨ds,q1,q2⟩:=jP.mp e;subst q2;unfold uy at q1;cases q:df a with
  |some sN=>
   rw[q] at q1;cases q1;obtain⟨p,ws,rfl,sq,r⟩:=v9 le h1 q;exact⟨p,ws,rfl,.inl sq,λl hl=>res.lst r hl⟩
  |none=>
   rw[q] at q1;obtain⟨p,ws,rfl,sq,r⟩:=M5 le h1 q1;exact⟨p,ws,rfl,.inr sq,λl hl=>res.lst r hl⟩
 ·cases e
end
def eP(K:L2.FG)(r:V->List V->Hp->VK->Prop)(g:O->List O->Option (O×O)):Prop:=
 ∀(F H:Hp) (x:V) (vs:List V) (o:O) (os:List O) (o' res:O) (Ai Aτ:List Addr) (Q:VK),aH F H->ai K F H [some x] [some o] Ai->ai K F H (vs.map some) (os.map some) Aτ->(Ai++Aτ).Nodup->(∀a∈Ai++Aτ,F a=none)->
  g o os=some (o',res)->
  (∀v H' A' Ar,(∀a u,a∉Ai->H a=some u->H' a=some u)->(∀a,H a≠none->H' a≠none)->nt H H'->ai K F H' [some x] [some o'] A'->ai K F H' [some v] [some res] Ar->aJ (Ar++A') (Ai++Aτ)->Q v H')->r x vs H Q
noncomputable def jD(g:O->List O->Option (O×O))(fo:GE)(fs:GA):GE:=λU=>(fo U).bind λp=>match p.1 with
 |.var i=>match p.2[i]? with
  |some (some (.lst _))=>(fs p.2).bind λq=>(eY q.1).bind λos=>match q.2[i]? with
   |some (some o)=>(g o os).bind λz=>some (.own z.2,q.2.set i (some z.1))
   |_=>none
  |_=>none
 |_=>none
section
variable {K:L2.FG} {F H:Hp} {A:List Addr} {Z:St} {U:Gm}
theorem Tu{g:O->List O->Option (O×O)}{fo:GE}{fs:GA}{U U':Gm}{r:R}(e:jD g fo fs U=some (r,U')):
  ∃i U1 ps rs U2 os o z,fo U=some (.var i,U1)/\U1[i]?=some (some (.lst ps))/\fs U1=some (rs,U2)/\eY rs=some os/\U2[i]?=some (some o)/\g o os=some z/\r=.own z.2/\U'=U2.set i (some z.1):=by
 unfold jD at e;cases q:fo U with
 |none=>rw[q] at e;cases e
 |some p=>
  obtain⟨r1,U1⟩:=p;rw[q] at e;dsimp only[Option.bind] at e;cases r1 with
  |own _=>cases e
  |fld _ _=>cases e
  |var i=>
   dsimp only at e;split at e
   ·rename_i ps h1
    cases q2:fs U1 with
    |none=>rw[q2] at e;cases e
    |some p2=>
     obtain⟨rs,U2⟩:=p2;rw[q2] at e;dsimp only at e;cases q3:eY rs with
     |none=>rw[q3] at e;cases e
     |some os=>
      rw[q3] at e;dsimp only at e;split at e
      ·rename_i o h2
       cases q4:g o os with
       |none=>rw[q4] at e;cases e
       |some z=>rw[q4] at e;cases e;exact⟨i,U1,ps,rs,U2,os,o,z,rfl,h1,q2,q3,h2,q4,rfl,rfl⟩
      ·cases e
   ·cases e
theorem OK.rL{vs:List V}{os:List O}{i:Nat}{x:V}{o o' res:O}{g:O->List O->Option (O×O)}{r:V->List V->Hp->VK->Prop}{Q:VK}(ok:eP K r g)(k:OK K F H (vs.map some++Z) (os.map some++U) A)(hx:Z[i]?=some (some x))(ho:U[i]?=some (some o))
  (hl:vs.length=os.length) (e:g o os=some (o',res)) (q:∀v H' A',Ext F H A F H' A'->OK K F H' (some v::Z) (some res::U.set i (some o')) A'->Q v H'):r x vs H Q:=by
 obtain⟨B,C,h1,h2,h3⟩:=ai.split (by simpa using hl) k.os
 subst h3;obtain⟨x',Ai,C',g1,g2,g3,g4⟩:=h2.take ho;rw[hx] at g1;cases g1;have p1:(B++C).Perm ((Ai++B)++C'):=by
  refine(List.Perm.append_left B g4).trans ?_;rw[<-fG];exact om.append_right _
 have nd:((Ai++B)++C').Nodup:=p1.nodup_iff.mp k.nd;have fr:∀a∈(Ai++B)++C',F a=none:=λa m=>k.fr a (p1.mem_iff.mpr m)
 obtain⟨n1,n2,n3⟩:=hV.mp nd;have nC:∀a∈C',a∉Ai:=λa m z=>n3 a (lx _ z) a m rfl
 refine ok F H x vs o os o' res Ai B Q k.le g2 h1 n1 (λa m=>fr a (lx _ m)) e λv H' A' Ar kp dm at' w1 w2 sp=>?_
 have s2:aJ ((Ar++A')++C') ((Ai++B)++C'):=sp.app (aJ.refl C');have hi:i < U.length:=(iq.mp ho).1;have t8:ai K F H' Z (U.set i none) C':=g3.keep (aH.refl _) λa m u e=>kp a u (nC a m) e
 obtain⟨D,j1,C2,j2,j3⟩:=ai.put w1 i t8 (by rw[uD];exact hi)
 rw[tL hx,zu] at j1;have s3:aJ (Ar++D) (B++C):=by
  have a1:aJ (Ar++D) (Ar++(A'++C')):=(aJ.refl Ar).app ((aJ.aZ j2).trans ((aJ.refl A').app (.aP j3)));rw[<-fG] at a1;exact a1.trans (s2.trans (.aZ p1.symm))
 refine q v H' (Ar++D) ⟨aH.refl _,λa u e n=>kp a u (λm=>n (p1.mem_iff.mpr (by simp[m]))) e,dm,λa h=>.inl h,λa m=>.inl (s3.mem a m),at'⟩ ⟨λa u e=>?_,w2.app j1,s3.nodup k.nd,λa m=>k.fr a (s3.mem a m)⟩
 refine kp a u (λm=>?_) (k.le a u e)
 rw[fr a (by simp[m])] at e
 cases e
end
section
variable {X:Cx} {K:L2.FG} {o e:Expr} {es:List Expr} {fo:GE} {fs:GA} {name:Str} {apos aV:Pos} {id:String} {r:V->List V->Hp->VK->Prop} {g:O->List O->Option (O×O)}
theorem WX(ok:eP K r g){Z:St}{H:Hp}{Q:VK}(t:tG K (jD g fo fs) Z H Q):zf K "list" r (tG K fo) (gZ K fs) Z H Q:=by
 obtain⟨F,A,U,rr,U',k,e,w⟩:=t;obtain⟨i,U1,ps,rs,U2,os,o,z,e1,e2,e3,e4,e5,e6,rfl,rfl⟩:=Tu e;refine⟨F,A,U,_,U1,k,e1,λx H1 p=>?_⟩
 obtain⟨F1,A1,x1,k1,hh⟩:=p;have hx:Z[i]?=some (some x):=hh.1;obtain⟨k2,x2⟩:=k1.sub (Z':=Z) (U':=U1) (by cases k1.os with|skip t=>exact t) (aJ.refl _)
 refine⟨?_,F1,A1,U1,rs,U2,k2,e3,λvs H2 p2=>?_⟩
 ·obtain⟨v,Ai,B,g1,g2,_⟩:=k2.os.take e2;rw[hx] at g1;cases g1;cases g2 with
  |lst hq _ _=>exact .inl ⟨rfl,_,dq.of hq⟩
 ·obtain⟨F3,A3,x3,k3,h3⟩:=p2;rw[pD e4] at k3;have hl:vs.length=os.length:=by
   have:=h3.length;have h4:=congrArg List.length (pD e4);simp at h4;lia
  exact OK.rL ok k3 hx e5 hl e6 λv H' A' x4 k4=>w v H' ⟨F3,A',(x1.trans (x2.trans (x3.trans x4))),k4,True.intro⟩
theorem uT(slot:Slot "list" name id)(kr:typeOf (.builtin id)=pure (.type "method_descriptor"))(hm:qf X id r)(ok:eP K r g)(ho:PE X o (tG K fo))(ha:PA X (e::es) (gZ K fs))
  (dS:attributeBase o name X.env (eval o X.env)=eval o X.env:=by rfl)
  (kq:((backTo aV (starEach (e::es) X.env)).all (λx => !x.1) && (backToKw aV (keywordEach [] X.env)).all (λx=>x.1.isSome)
   && decide ((e::es).length+([]:List Keyword).length+(if([]:List Keyword).isEmpty then 0 else 1) < 30))=true:=by rfl)
  (dU:(apos.endLine == aV.line)=true:=by rfl) (hs:starEach (e::es) X.env=(false,eval e X.env)::starEach es X.env:=by rfl) (eU:(backTo aV (starEach es X.env)).any (·.1)=false:=by rfl) (hK:X.K=K:=by rfl) :
  PE X (.Call (.Attribute o name apos) (e::es) [] aV) (tG K (jD g fo fs)):=by
 subst hK;exact(AU PySem.F.plainAttrs_list slot kr hm ho ha dS kq dU hs eU).mono λ_ _ _ t=>WX ok t
end
section
variable {K:L2.FG} {F H:Hp} {l:Addr} {ws zh:List V} {ps xF:List O} {Ap A':List Addr}
theorem QL(hn:l∉A')(h:ai K F H (zh.map some) (xF.map some) A'):ai K F (upd H l (.lst zh)) [some (.ref l)] [some (.lst xF)] (l::A'++[]):=
 .lst iU (h.keep (aH.refl _) λa m u e=>by rw[cK (λz=>hn (by rw[<-z];exact m):a≠l)];exact e) .nil
theorem Hr{o:HO}{Ai:List Addr}(hm:l∈Ai):∀a u,a∉Ai->H a=some u->upd H l o a=some u:=λa u n e=>by
 rw[cK (λz=>n (by rw[z];exact hm):a≠l)];exact e
theorem yo{o:HO}:∀a,H a≠none->upd H l o a≠none:=λa h=>by
 by_cases z:a=l
 ·rw[z,iU];exact λz=>by cases z
 ·rw[cK z];exact h
theorem Ae{x:V}{Ai Aτ:List Addr}{Q:VK}{o:O}(h:ai K F H [some x] [some o] Ai)(Zq:o=.lst ps)(nd:(Ai++Aτ).Nodup){o' res:O}
  (q:∀v H' A' Ar,(∀a u,a∉Ai->H a=some u->H' a=some u)->(∀a,H a≠none->H' a≠none)->nt H H'->ai K F H' [some x] [some o'] A'->ai K F H' [some v] [some res] Ar->aJ (Ar++A') (Ai++Aτ)->Q v H') :
  ∃l ws Ap,x=.ref l/\H l=some (.lst ws)/\ai K F H (ws.map some) (ps.map some) Ap/\(Ap++Aτ).Nodup/\∀zh xF A' v Ar,o'=.lst xF->ai K F H (zh.map some) (xF.map some) A'->ai K F H [some v] [some res] Ar->aJ (Ar++A') (Ap++Aτ)->Q v (upd H l (.lst zh)):=by
 subst Zq;cases h with
 |@lst l ws _ Ap B _ _ hl i t=>
  have eB:B=[]:=by cases t;rfl
  subst eB;rw[d_] at nd q;obtain⟨nl,qM⟩:=j7.mp (by simpa using nd:(l::(Ap++Aτ)).Nodup)
  refine⟨l,ws,Ap,rfl,hl,i,qM,λzh xF A' v Ar eo w1 w2 sp=>?_⟩
  subst eo;have nA:l∉A':=λm=>nl (sp.mem l (ja _ m))
  have nR:l∉Ar:=λm=>nl (sp.mem l (lx _ m))
  refine q v _ _ Ar (Hr (by simp)) yo (.upd λC dx fs z=>by rw[hl] at z;cases z) (QL nA w1) (w2.keep (aH.refl _) λa m u e=>by rw[cK (λz=>nR (by rw[<-z];exact m):a≠l)];exact e) ?_
  rw[d_];have s1:aJ (Ar++l::A') (l::(Ar++A')):=.aZ (by simpa using C5)
  refine s1.trans ?_;obtain⟨L,p1,p2⟩:=sp;exact⟨l::L,p1.cons l,by rw[zt];exact p2.cons_cons l⟩
theorem yp:ai K F H [some .aI] [some (.Y .aI)] []:=.Y (.flat rfl .nil) .nil
noncomputable def qx:O->List O->Option (O×O)
 |.lst ps,[y]=>if ps.length < 1000000 then some (.lst (ps++[y]),.Y .aI) else none
 |_,_=>none
theorem zQ:eP K MY qx:=by
 intro F H x vs o os o' res Ai Aτ Q le h1 h2 nd fr e q;unfold qx at e;split at e
 ·rename_i ps y
  split at e
  ·rename_i hz
   cases e;obtain⟨l,ws,Ap,rfl,hl,i,qM,go⟩:=Ae h1 rfl nd q
   match vs,h2 with
   |[v],h2=>
    have hlen:ws.length=ps.length:=by have:=i.length;simpa using this
    refine⟨l,ws,v,rfl,rfl,hl,i_ (by lia:ws.length < 1000000) (by decide),?_⟩
    refine go (ws++[v]) (ps++[y]) (Ap++Aτ) .aI [] rfl ?_ yp (aJ.refl _);rw[dh,dh];exact i.app h2
   |[],h2=>have:=h2.length;simp at this
   |_::_::_,h2=>have:=h2.length;simp at this
  ·cases e
 ·cases e
noncomputable def uQ:O->List O->Option (O×O)
 |.lst ps,[.Y (.int i),y]=>if 0<=i/\i < 1000000/\ps.length < 1000000 then some (.lst (ps.take i.toNat++y::ps.drop i.toNat),.Y .aI) else none
 |_,_=>none
theorem LR:eP K M3 uQ:=by
 intro F H x vs o os o' res Ai Aτ Q le h1 h2 nd fr e q;unfold uQ at e;split at e
 ·rename_i ps k y
  split at e
  ·rename_i hz
   cases e;obtain⟨l,ws,Ap,rfl,hl,i,qM,go⟩:=Ae h1 rfl nd q
   match vs,h2 with
   |[v,v'],h2=>
    have hlen:ws.length=ps.length:=by have:=i.length;simpa using this
    obtain⟨rfl,h3⟩:=wj h2;refine⟨l,ws,k,v',rfl,rfl,hl,hz.1,by lia,i_ (by lia:ws.length < 1000000) (by decide),?_⟩
    have es:ai K F H ((ws.take k.toNat).map some++(ws.drop k.toNat).map some) ((ps.take k.toNat).map some++(ps.drop k.toNat).map some) Ap:=by
     rw[<-dh,<-dh,xV,xV];exact i
    obtain⟨B,C,g1,g2,g3⟩:=ai.split (by simp[hlen]) es
    subst g3;refine go (pR ws k.toNat v') (ps.take k.toNat++y::ps.drop k.toNat) (B++(Aτ++C)) .aI [] rfl ?_ yp ?_
    ·unfold pR;rw[dh,dh,cv,cv];exact g1.app (h3.app g2)
    ·rw[iA,fG];exact(aJ.refl B).app (.aZ om)
   |[],h2=>have:=h2.length;simp at this
   |[_],h2=>have:=h2.length;simp at this
   |_::_::_::_,h2=>have:=h2.length;simp at this
  ·cases e
 ·cases e
def Mn:V->List V->Hp->VK->Prop:=λx vs H Q=>∃l b xs zs,x=.ref l/\vs=[.ref b]/\H l=some (.lst xs)/\Rd H b (.lst zs)/\xs.length+zs.length<=sizeLine/\Q .aI (upd H l (.lst (xs++zs)))
theorem QM{X:Cx}:qf X "list.extend" Mn:=by
 intro pins s Z H x vs v us Q I rx rv h;obtain⟨l,b,xs,zs,rfl,rfl,hH,hB,hz,q⟩:=h;cases rx;obtain⟨u,rfl,ru⟩:=rv.one;cases ru;obtain⟨z,aG,n,r,hl,e⟩:=I.ug hH;obtain⟨z2,gG,n2,r2,e2⟩:=hB.ok I.cx;have y9:=r2.length;have hsz:aG.toArray.size+gG.toArray.size<=sizeLine:=by rw[eI,eI];lia
 have BU:¬(!aG.toArray.isEmpty && Builtin.List.listTooLong (aG.toArray.size+gG.toArray.size))=true:=by
  rw[Te hsz,KI];exact kU
 refine call_meets F.slot_list_extend ⟨_,e,rfl⟩ F.entry_list_extend (F.args_list_extend_2 _ _)
  (AutoSeq1.list_extend_list_list_0 l aG.toArray n b gG.toArray n2 BU (by rw[eI];lia) (by lia)) ⟨e,e2,?_⟩
 refine⟨.aI,_,I.uf (its':=aG++gG) hH e (by simp) (r.append r2) ?_,rfl,q⟩
 rw[gK];lia
noncomputable def Eb:O->List O->Option (O×O)
 |.lst ps,[.Y (.lst ds)]=>if ps.length+ds.length<=1000000 then some (.lst (ps++ds.map .Y),.Y .aI) else none
 |_,_=>none
theorem RL:eP K Mn Eb:=by
 intro F H x vs o os o' res Ai Aτ Q le h1 h2 nd fr e q;unfold Eb at e;split at e
 ·rename_i ps ds
  split at e
  ·rename_i hz
   cases e;obtain⟨l,ws,Ap,rfl,hl,i,qM,go⟩:=Ae h1 rfl nd q
   match vs,h2 with
   |[v],h2=>
    have hlen:ws.length=ps.length:=by have:=i.length;simpa using this
    have rp:=sv h2;cases rp with
    |flat z _=>cases z
    |@lst b zs _ _ _ sq ri _=>
     have hlz:=ri.length;refine⟨l,b,ws,zs,rfl,rfl,hl,le.rd sq,ml (by lia),?_⟩
     refine go (ws++zs) (ps++ds.map .Y) (Ap++[]) .aI [] rfl ?_ yp ?_
     ·rw[dh,dh];exact i.app (Aa ri)
     ·rw[d_];exact .aP (CY _ _)
   |[],h2=>have:=h2.length;simp at this
   |_::_::_,h2=>have:=h2.length;simp at this
  ·cases e
 ·cases e
end
def oY(K:L2.FG):pB:=λo i v H Q=>vz o i v H Q\/∃a H4,o=.ref a/\qW K H a i v H4/\Q H4
theorem OD{X:Cx}(hu:X.A.units+41 < cLine):tF X (oY X.K):=by
 intro pins s Z H o i v ov iv u Q I ro ri rv h;rcases h with h|⟨a,H4,rfl,g,q⟩
 ·exact Td pins s Z H o i v ov iv u Q I ro ri rv h
 ·cases ro;exact LQ (by lia) I g ri rv λs4 I4=>⟨H4,I4,q⟩
noncomputable def fy{α:Type}:List (TK×α)->TK->α->List (TK×α)
 |[],k,v=>[(k,v)]
 |e::es,k,v=>if e.1=k then(e.1,v)::es else e::fy es k v
noncomputable def rZ(v:O)(i:D):O->Option (O×O)
 |.lst ps=>(intD i).bind λk=>(sW ps.length k).map λj=>(.lst (ps.set j v),.Y .aI)
 |.aK kvs=>(eV i).bind λk=>if kvs.length < 1000000 then some (.aK (fy kvs k v),.Y .aI) else none
 |_=>none
noncomputable def eW(o:O):List O->Option (O×O)
 |[v,.Y i]=>rZ v i o
 |_=>none
def rX(K:L2.FG):V->List V->Hp->VK->Prop:=λx vs H Q=>∃v i,vs=[v,i]/\oY K x i v H λH'=>Q .aI H'
section
variable {K:L2.FG} {F H:Hp}
theorem Hs{k:TK}{y v:V}{o:O}{Bv:List Addr}(q:ai K F H [some v] [some o] Bv)(ry:au K F [y] [k.d]):∀{ws:List (TK×V×V)} {kvs:List (TK×O)} {B:List Addr},ws.map (·.1)=kvs.map (·.1)->au K F (ws.map (·.2.1)) (kvs.map (·.1.d))->
  ai K F H (ws.map λp=>some p.2.2) (kvs.map λp=>some p.2) B->∃C,ai K F H ((dY ws k y v).map λp=>some p.2.2) ((fy kvs k o).map λp=>some p.2) C/\aJ C (Bv++B)/\(dY ws k y v).map (·.1)=(fy kvs k o).map (·.1)/\
   au K F ((dY ws k y v).map (·.2.1)) ((fy kvs k o).map (·.1.d))
 |[],[],B,_,_,h=>⟨Bv,q,.aP (CY _ _),rfl,ry⟩
 |w::ws,p::kvs,B,hk,rk,h=>by
  rw[cv,cv] at hk;injection hk with h1 h2;obtain⟨B1,B2,g1,g2,rfl⟩:=ai.one h;unfold dY fy;rw[h1];by_cases e:p.1=k
  ·rw[if_pos e,if_pos e];refine⟨Bv++B2,ai.app (τ:=[some v]) (Θ:=[some o]) q g2,.aP ((List.Sublist.refl _).append (ly _ _)),?_,?_⟩
   ·simp only[cv,h2]
   ·simp only[cv];exact rk
  ·rw[if_neg e,if_neg e];obtain⟨C,j1,j2,j3,j4⟩:=Hs q ry h2 rk.inv.2 g2;refine⟨B1++C,ai.app (τ:=[some w.2.2]) (Θ:=[some p.2]) g1 j1,?_,?_,?_⟩
   ·refine((aJ.refl B1).app j2).trans (.aZ ?_);rw[<-fG,<-fG];exact om.append_right _
   ·simp only[cv,h1,j3]
   ·exact .cons rk.inv.1 j4
 |[],_::_,_,h,_,_=>by simp at h
 |_::_,[],_,h,_,_=>by simp at h
theorem Ec{F H:Hp}{v:V}{kvs:List (TK×O)}{A:List Addr}(h:ai K F H [some v] [some (.aK kvs)] A):∃a ws ep Ap,v=.ref a/\A=a::Ap/\H a=some (.dG ws ep)/\ws.map (·.1)=kvs.map (·.1)/\au K F (ws.map (·.2.1)) (kvs.map (·.1.d))/\ai K F H (ws.map λp=>some p.2.2) (kvs.map λp=>some p.2) Ap:=by
 cases h with
 |@aK a ws _ ep Ap B _ _ hl hk rk ch t=>
  cases t;exact⟨a,ws,ep,Ap,rfl,d_ _,hl,hk,rk,ch⟩
theorem IC:eP K (rX K) eW:=by
 intro F H x vs o os o' res Ai Aτ Q le h1 h2 nd fr e q;unfold eW at e;split at e
 case h_2=>cases e
 rename_i ov i
 unfold rZ at e;split at e
 ·rename_i ps
  obtain⟨k,hk,e⟩:=cV.mp e;cases wk hk;obtain⟨j,e1,e2⟩:=jP.mp e;cases e2;obtain⟨l,ws,Ap,rfl,hl,i,qM,go⟩:=Ae h1 rfl nd q;obtain⟨v,v',rfl⟩:=EH (l:=vs) (by have:=h2.length;simp at this;lia)
  have hlen:ws.length=ps.length:=by have:=i.length;simpa using this
  obtain⟨B1,B2,g1,g2,rfl⟩:=ai.one h2;obtain⟨rfl,g3⟩:=wj g2;cases g3;have hj:j < ps.length:=(HU e1).2.1;refine⟨v,.int k,rfl,.inl ⟨l,ws,k,j,rfl,rfl,hl,by rw[hlen];exact e1,?_⟩⟩
  obtain⟨D,j1,C2,j2,j3⟩:=ai.put g1 j i (by simpa using hj)
  refine go (ws.set j v) (ps.set j ov) D .aI [] rfl (by rw[zA,zA];exact j1) yp ?_
  rw[iA,d_];exact((aJ.aZ j2).trans ((aJ.refl B1).app (.aP j3))).trans (.aZ om)
 ·rename_i kvs
  cases q1:eV i with
  |none=>rw[q1] at e;cases e
  |some k=>
   rw[q1] at e;dsimp only[Option.bind] at e;split at e
   ·rename_i hz
    cases e;obtain⟨v,v',rfl⟩:=EH (l:=vs) (by have:=h2.length;simp at this;lia)
    obtain⟨B1,B2,g1,g2,rfl⟩:=ai.one h2;have ry:au K F [v'] [k.d]:=by rw[(oE q1).1];exact sv g2
    obtain⟨l,ws,ep,Ap,rfl,rfl,hl,hk,rk,ch⟩:=Ec h1;obtain⟨C,j1,j2,j3,j4⟩:=Hs (k:=k) g1 ry hk rk ch;have hlen:ws.length=kvs.length:=by have:=congrArg List.length hk;simpa using this
    have uk:(l::(Ap++(B1++B2))).Nodup:=by simpa using nd
    have nC:l∉C:=λm=>(j7.mp uk).1 (by
     rcases jw.mp (j2.mem l m) with z|z
     ·simp[z]
     ·simp[z])
    refine⟨v,v',rfl,.inr ⟨l,_,rfl,⟨ws,ep,k,hl,by rw[AM hk];exact rk.mono le,ry.mono le,(oE q1).2,i_ (by lia:ws.length < 1000000) (by decide),rfl⟩,?_⟩⟩
    refine q .aI _ (l::C++[]) [] (Hr (by simp)) yo (.upd λC dx fs z=>by rw[hl] at z;cases z) (.aK iU j3 j4 (j1.keep (aH.refl _) λa m u e=>by rw[cK (λz=>nC (by rw[<-z];exact m):a≠l)];exact e) .nil) yp ?_
    rw[iA,d_];refine((aJ.refl [l]).app j2).trans ⟨l::(Ap++B1),?_,?_⟩
    ·show(l::(B1++Ap)).Perm _;exact om.cons l
    ·exact((List.Sublist.refl Ap).append (CY B1 B2)).cons_cons l
   ·cases e
 ·cases e
end
noncomputable def jm(fv fo fi:GE):GS:=λU=>(fv U).bind λp=>(fo p.2).bind λq=>(fi q.2).bind λr=>match p.1,q.1,r.1 with
 |.own v,.var i,.own y=>match r.2[i]? with
  |some (some o)=>(eW o [v,y]).bind λz=>some (.nx,r.2.set i (some z.1))
  |_=>none
 |_,_,_=>none
section
variable {X:Cx} {K:L2.FG} {m:List Bool} {W:Option XW} {e o i:Expr} {fv fo fi:GE} {pos pos':Pos}
theorem RM{U U':Gm}{fl:Fl}(e:jm fv fo fi U=some (fl,U')):∃v U1 j U2 y U3 o z,fv U=some (.own v,U1)/\fo U1=some (.var j,U2)/\fi U2=some (.own y,U3)/\U3[j]?=some (some o)/\eW o [v,y]=some z/\fl=.nx/\U'=U3.set j (some z.1):=by
 unfold jm at e;cases q1:fv U with
 |none=>rw[q1] at e;cases e
 |some p=>
  obtain⟨r1,U1⟩:=p;rw[q1] at e;dsimp only[Option.bind] at e;cases q2:fo U1 with
  |none=>rw[q2] at e;cases e
  |some p=>
   obtain⟨r2,U2⟩:=p;rw[q2] at e;dsimp only at e;cases q3:fi U2 with
   |none=>rw[q3] at e;cases e
   |some p=>
    obtain⟨r3,U3⟩:=p;rw[q3] at e;dsimp only at e;cases r1 with
    |var _=>cases e
    |fld _ _=>cases e
    |own v=>
     cases r2 with
     |own _=>cases e
     |fld _ _=>cases e
     |var j=>
      cases r3 with
      |var _=>cases e
      |fld _ _=>cases e
      |own y=>
       dsimp only at e;split at e
       ·rename_i oo h
        cases q4:eW oo [v,y] with
        |none=>rw[q4] at e;cases e
        |some z=>rw[q4] at e;cases e;exact⟨v,U1,j,U2,y,U3,oo,z,rfl,q2,q3,h,q4,rfl,rfl⟩
       ·cases e
theorem ID(he:PE X e (tG K fv))(ho:PE X o (tG K fo))(hi:PE X i (tG K fi))(hu:X.A.units+41 < cLine)
  (ha:∀v,assign (.Subscript o i pos') X.env v=(do
   let ov <-holding [v] (eval o X.env)
   let iv <-holding [v,ov] (eval i X.env)
   standAt pos'
   holding [v,ov,iv] (setItem ov iv v)
   release [v,ov,iv] []):=by intro _;rfl)
  (hs:swapsWithSole [.Subscript o i pos'] e pos.line X.env=pure false:=by rfl) (hw:swappedStores [.Subscript o i pos'] e X.env=pure none:=by rfl)
  (h1:(assignEach [.Subscript o i pos'] X.env).map (·.2)=[assign (.Subscript o i pos') X.env]:=by rfl) (hK:X.K=K:=by rfl):PS X (.Assign [.Subscript o i pos'] e pos) (tS K m W (jm fv fo fi)):=by
 subst hK;refine(NT he (NS ho hi (OD hu) ha) hs hw h1).mono λD Z H t=>?_
 obtain⟨F,A,U,fl,U',k,e,w⟩:=t;obtain⟨v,U1,j,U2,y,U3,oo,z,e1,e2,e3,e4,e5,rfl,rfl⟩:=RM e;have t:gZ X.K (ao fv (ao fo (ao fi gN))) Z H λvs H'=>∃a b c,vs=[a,b,c]/\oY X.K b c a H' λH4=>D.nx Z H4:=by
  refine⟨F,A,U,[.own v,.var j,.own y],U3,k,?_,λvs H1 p=>?_⟩
  ·unfold ao;simp only[e1,e2,e3,Option.bind,gN]
  ·obtain⟨F1,A1,x,k1,hh⟩:=p;obtain⟨a,b,c,rfl⟩:=EI hh.length;refine⟨a,b,c,rfl,?_⟩;have hx:Z[j]?=some (some b):=hh.1;have k2:OK X.K F1 H1 ([a,c].map some++Z) ([v,y].map some++U3) A1:=by
    obtain⟨B1,C1,g1,g2,g3⟩:=ai.one (Z:=some b::some c::Z) (U:=none::some y::U3) k1.os;cases g2 with
    |skip g2=>subst g3;exact⟨k1.le,g1.app g2,k1.nd,k1.fr⟩
   have z':=OK.rL (r:=rX X.K) (g:=eW) (Q:=λ_ H4=>D.nx Z H4) (o':=z.1) (res:=z.2) IC k2 hx e4 rfl e5 λv' H' A' x4 k4=>by
    obtain⟨B2,k5,sub⟩:=OK.part (τ:=[some v']) (Θ:=[some z.2]) k4 rfl;exact w Z H' ⟨F1,B2,(x.trans x4).iX sub,k5,Kept.refl⟩
   obtain⟨v',i',ee,q⟩:=z';cases ee;exact q
 have t1:=pC t;refine tG.mono t1 λa H1 h=>tG.mono (pC h) λb H2 h2=>tG.mono (pC h2) λc H3 h3=>?_
 obtain⟨F,A,U,rs,U',k,e,w⟩:=h3;cases e;obtain⟨a',b',c',ee,q⟩:=w [] H3 ⟨F,A,Ext.refl,k,True.intro⟩;cases ee;exact q
end
abbrev GO:=Gm->Option (Option Int×Gm)
def Fj(K:L2.FG)(f:GO):TO:=λZ H Q=>∃F A U b U',OK K F H Z U A/\f U=some (b,U')/\∀H',dW K F H A Z U' [] [] H'->Q b H'
noncomputable def Ep:GO:=λU=>some (none,U)
noncomputable def ud:R->Option Int
 |.own (.Y (.int i))=>some i
 |_=>none
noncomputable def AN(f:GE):GO:=λU=>(f U).bind λp=>(ud p.1).map λi=>(some i,p.2)
section
variable {X:Cx} {K:L2.FG} {e:Expr} {fa:GE} {lo hi:Option Expr} {fl fh:GO} {pos p2:Pos}
theorem Nb:PO X none (Fj K Ep):=by
 intro pins s Z H Q I t;refine UR pins s Z H Q I ?_;obtain⟨F,A,U,b,U',k,e,w⟩:=t;cases e;exact w H ⟨F,A,Ext.refl,k,True.intro⟩
theorem Nc(h:PE X e (tG K fa)):PO X (some e) (Fj K (AN fa)):=by
 intro pins s Z H Q I t;refine US h pins s Z H Q I ?_;obtain⟨F,A,U,b,U',k,e,w⟩:=t;unfold AN at e;cases q:fa U with
 |none=>rw[q] at e;cases e
 |some p=>
  obtain⟨r,U1⟩:=p;rw[q] at e;obtain⟨i,e1,e2⟩:=jP.mp e;cases e2;have er:r=.own (.Y (.int i)):=by
   unfold ud at e1;split at e1
   ·rename_i hh;cases e1;exact hh
   ·cases e1
  subst er;exact⟨F,A,U,_,_,k,q,λv H' pp=>⟨i,pp.flat rfl,w H' pp.drop⟩⟩
noncomputable def cutD(ds:List D)(lo hi:Option Int):List D:=(ds.drop (HT.c8 ds.length 0 lo)).take (HT.c8 ds.length ds.length hi - HT.c8 ds.length 0 lo)
noncomputable def vB(o:O)(lo hi:Option Int):Option O:=match o,df o,xR o with
 |.Y (.str z),_,_=>if z.length<=1000000 then some (.Y (.str (Txt.slice z lo hi))) else none
 |_,some ds,_=>some (.lst ((cutD ds lo hi).map .Y))
 |_,none,some ds=>if HT.c8 ds.length 0 lo=0/\HT.c8 ds.length ds.length hi=ds.length then none else some (.tup ((cutD ds lo hi).map .Y))
 |_,_,_=>none
def Cw(K:L2.FG):V->Option Int->Option Int->Hp->VK->Prop:=λx lo hi H Q=>Cz x lo hi H Q\/xK K x lo hi H Q\/xM K x lo hi H Q
theorem Kj(K:L2.FG)(hK:X.K=K:=by rfl):qU X (Cw K):=xN.or ((To K hK).or (U5 K hK))
theorem X0{F H:Hp}{x:V}{o o':O}{B:List Addr}{Q:VK}{lo hi:Option Int}(le:aH F H)(h:ai K F H [some x] [some o] B)(e:vB o lo hi=some o')(res:Res K F H o' Q):Cw K x lo hi H Q:=by
 unfold vB at e;split at e
 ·split at e
  ·cases e;cases iM h rfl;exact .inl ⟨_,rfl,ml (by assumption),res.flat rfl⟩
  ·cases e
 ·rename_i ds _ _ q1 _
  cases e;obtain⟨a,ws,rfl,sq,r⟩:=v9 le h (by assumption)
  refine .inr (.inl ⟨a,ws,rfl,sq,λp hp=>res.lst ?_ hp⟩)
  unfold mW cutD;rw[r.length];exact(r.drop _).take _
 ·split at e
  ·cases e
  ·rename_i lH
   cases e;obtain⟨a,ws,rfl,sq,r⟩:=M5 le h (by assumption)
   refine .inr (.inr ⟨a,ws,rfl,sq,by rw[r.length];exact lH,λp hp=>res.tup ?_ hp⟩)
   unfold mW cutD;rw[r.length];exact(r.drop _).take _
 ·cases e
noncomputable def yB(f:GE)(lo hi:GO):GE:=λU=>(f U).bind λp=>(lo p.2).bind λq=>(hi q.2).bind λr=>(iI r.2 p.1).bind λo=>(vB o q.1 r.1).bind λo'=>some (.own o',r.2)
theorem QN{U U':Gm}{r:R}(e:yB fa fl fh U=some (r,U')):∃r1 U1 l U2 u o o',fa U=some (r1,U1)/\fl U1=some (l,U2)/\fh U2=some (u,U')/\iI U' r1=some o/\vB o l u=some o'/\r=.own o':=by
 unfold yB at e;cases q1:fa U with
 |none=>rw[q1] at e;cases e
 |some p=>
  rw[q1] at e;dsimp only[Option.bind] at e;cases q2:fl p.2 with
  |none=>rw[q2] at e;cases e
  |some q=>
   rw[q2] at e;dsimp only at e;cases q3:fh q.2 with
   |none=>rw[q3] at e;cases e
   |some w=>
    rw[q3] at e;dsimp only at e;cases q4:iI w.2 p.1 with
    |none=>rw[q4] at e;cases e
    |some o=>
     rw[q4] at e;dsimp only at e;cases q5:vB o q.1 w.1 with
     |none=>rw[q5] at e;cases e
     |some o'=>rw[q5] at e;cases e;exact⟨p.1,p.2,q.1,q.2,w.1,o,o',rfl,q2,q3,q4,q5,rfl⟩
theorem Mo(he:PE X e (tG K fa))(hl:PO X lo (Fj K fl))(hu:PO X hi (Fj K fh))(hK:X.K=K:=by rfl):PE X (.Subscript e (.Slice lo hi none p2) pos) (tG K (yB fa fl fh)):=by
 refine(Tc (Kj K hK) he hl hu).mono λZ H Q t=>?_
 obtain⟨F,A,U,rr,U',k,e,w⟩:=t;obtain⟨r1,U1,l,U2,u,o,o',e1,e2,e3,e4,e5,rfl⟩:=QN e;refine⟨F,A,U,r1,U1,k,e1,λv H1 p=>?_⟩
 obtain⟨F1,A1,x1,k1,hh⟩:=p;obtain⟨C,kC,fr⟩:=OK.frame (τ:=[some v]) (Θ:=[r1.o]) k1 rfl;refine⟨F1,C,U1,l,U2,kC,e2,λH2 p2=>?_⟩
 obtain⟨F2,A2,x2,k2,_⟩:=p2;obtain⟨A3,x3,k3⟩:=fr _ _ _ _ _ x2 k2;obtain⟨C2,ZI,Jo⟩:=OK.frame (τ:=[some v]) (Θ:=[r1.o]) k3 rfl;refine⟨F2,C2,U2,u,U',ZI,e3,λH3 p3=>?_⟩
 obtain⟨F4,A4,x4,k4,_⟩:=p3;obtain⟨A5,x5,k5⟩:=Jo _ _ _ _ _ x4 k4;have pp:dW K F H A Z U' [r1] [v] H3:=⟨F4,A5,x1.trans (x3.trans x5),k5,hh.kf (x3.trans x5).kf⟩;obtain⟨F6,le,eD,res⟩:=pp.res (os:=[o]) (o:=o') (by unfold fD;rw[e4];rfl) w
 obtain⟨x,B,ev,h1⟩:=eD.one;cases ev;exact X0 le h1 e5 res
end
noncomputable def cy:List Nat->Gm->Gm×Gm
 |[],U=>([],U)
 |i::aL,U=>let p:=cy aL (U.set i none);((U[i]?).join::p.1,p.2)
noncomputable def sH:List Nat->Gm->Gm->Gm
 |i::aL,x::Ui,U=>(sH aL Ui U).set i x
 |_,_,U=>U
noncomputable def compLoop(g:GG)(ct:GT)(ce:GE):List D->Gm->List O->Option (List O×Gm)
 |[],U,acc=>some (acc,U)
 |d::ds,U,acc=>(g d U).bind λU1=>(ct U1).bind λp=>if p.1=true then
   (ce p.2).bind λq=>(eY [q.1]).bind λos=>if acc.length < 1000000 then compLoop g ct ce ds q.2 (acc++os) else none
  else compLoop g ct ce ds p.2 acc
section
variable {K:L2.FG} {F H:Hp} {Z:St}
theorem Er:∀{aL:List Nat} {U:Gm} {C:List Addr},ai K F H Z U C->∃B C',ai K F H (aL.map λi=>(Z[i]?).join) (cy aL U).1 B/\ai K F H Z (cy aL U).2 C'/\aJ (B++C') C
 |[],U,C,h=>⟨[],C,.nil,h,aJ.refl _⟩
 |i::aL,U,C,h=>by
  cases q:U[i]? with
  |none=>
   obtain⟨C1,g1,g2⟩:=ai.forget i h;obtain⟨B,C',j1,j2,j3⟩:=Er (aL:=aL) g1;refine⟨B,C',?_,j2,j3.trans (.aP g2)⟩;unfold cy;simp only[q,cv];exact .skip j1
  |some z=>
   cases z with
   |none=>
    obtain⟨C1,g1,g2⟩:=ai.forget i h;obtain⟨B,C',j1,j2,j3⟩:=Er (aL:=aL) g1;refine⟨B,C',?_,j2,j3.trans (.aP g2)⟩;unfold cy;simp only[q,cv];exact .skip j1
   |some o=>
    obtain⟨v,Ai,C1,g1,g2,g3,g4⟩:=h.take q;obtain⟨B,C',j1,j2,j3⟩:=Er (aL:=aL) g3;refine⟨Ai++B,C',?_,j2,?_⟩
    ·unfold cy;simp only[q,cv,g1];exact g2.app j1
    ·rw[fG];exact((aJ.refl Ai).app j3).trans (.aZ g4.symm)
theorem Nd:∀{aL:List Nat} {τ:St} {Ui U:Gm} {B C:List Addr},ai K F H τ Ui B->ai K F H Z U C->τ=(aL.map λi=>(Z[i]?).join)->∃D,ai K F H Z (sH aL Ui U) D/\aJ D (B++C)
 |[],_,Ui,U,B,C,h1,h2,e=>by
  subst e;cases h1;exact⟨C,h2,.aP (ly _ _)⟩
 |i::aL,τ,[],U,B,C,h1,h2,e=>by subst e;have:=h1.length;simp at this
 |i::aL,τ,x::Ui,U,B,C,h1,h2,e=>by
  subst e;obtain⟨B1,B2,g1,g2,rfl⟩:=ai.one h1;obtain⟨D,j1,j2⟩:=Nd (aL:=aL) g2 h2 rfl;have s1:aJ D ((B1++B2)++C):=j2.trans (by rw[fG];exact .aP (ly _ _))
  cases x with
  |none=>
   obtain⟨D',k1,k2⟩:=ai.forget i j1;exact⟨D',k1,(aJ.aP k2).trans s1⟩
  |some o=>
   have g1:ai K F H [(Z[i]?).join] [some o] B1:=g1;cases q:Z[i]? with
   |none=>rw[q] at g1;cases g1
   |some z=>
    cases z with
    |none=>rw[q] at g1;cases g1
    |some v=>
     rw[q] at g1;have hi:i < (sH aL Ui U).length:=by rw[<-j1.length];exact(iq.mp q).1
     obtain⟨D',k1,C',k2,k3⟩:=ai.put (show ai K F H [some v] [some o] B1 from g1) i j1 hi;rw[tL q] at k1;refine⟨D',k1,(aJ.aZ k2).trans ?_⟩;rw[fG];exact(aJ.refl B1).app ((aJ.aP k3).trans j2)
end
noncomputable def mV(k:Nat)(aL:List Nat):List Bool:=List.replicate k false++List.replicate aL.length true
noncomputable def jZ(src:Gm->Option (List D×Gm))(g:GG)(ct:GT)(ce:GE)(k:Nat)(aL:List Nat):GE:=λU=>(src U).bind λp=>
 (compLoop g ct ce p.1 (List.replicate k none++(cy aL p.2).1) []).bind λq=>if q.2.length=k+aL.length then some (.own (.lst q.1),sH aL (q.2.drop k) (cy aL p.2).2) else none
section
variable {K:L2.FG}
structure sg (K:L2.FG) (m:List Bool) (g:GG) (ct:GT) (ce:GE) (ds:List D) (fin:List O×Gm) (F1 H1:Hp) (C:List Addr) (τ₀:St) (i:Nat) (τ:St) (acc:List V) (H:Hp):Prop where
 ex:∃F A Uc eG,OK K F H (acc.map some++τ) (eG.map some++Uc) A/\Ext F1 H1 C F H A/\compLoop g ct ce (ds.drop i) Uc eG=some fin/\acc.length=eG.length/\Kept m τ₀ τ
theorem Lq{m:List Bool}{t:TG}{g:GG}{ct:GT}{ce:GE}(tg:gX K m t g){ds:List D}{fin:List O×Gm}{F1 H1:Hp}{C:List Addr}{τ₀:St}{i:Nat}{τ:St}{acc:List V}{H:Hp}{x:V}{d:D}{F:Hp}{A:List Addr}{Uc:Gm}{eG:List O}
  (k:OK K F H (acc.map some++τ) (eG.map some++Uc) A) (x0:Ext F1 H1 C F H A) (e:compLoop g ct ce (ds.drop i) Uc eG=some fin) (hl:acc.length=eG.length) (kp:Kept m τ₀ τ) (ed:ds.drop i=d::ds.drop (i+1)) (rx:au K F [x] [d]) :
  t x τ H λτ2 H2=>g_ K ct τ2 H2 λb H3=>if b=true then tG K ce τ2 H3 λv H4=>acc.length < sizeLine/\sg K m g ct ce ds fin F1 H1 C τ₀ (i+1) τ2 (acc++[v]) H4 else sg K m g ct ce ds fin F1 H1 C τ₀ (i+1) τ2 acc H3:=by
 rw[ed] at e;unfold compLoop at e;cases q1:g d Uc with
 |none=>rw[q1] at e;cases e
 |some U1=>
  rw[q1] at e;dsimp only[Option.bind] at e;cases q2:ct U1 with
  |none=>rw[q2] at e;cases e
  |some pb=>
   obtain⟨b,U2⟩:=pb;rw[q2] at e;dsimp only at e;have hle:(acc.map some).length=(eG.map some).length:=by simp[hl]
   obtain⟨C1,k1,ER⟩:=k.frame hle;refine tg F H τ Uc U1 C1 x d _ k1 rx q1 λτ2 A2 k2 x2 qI=>?_
   obtain⟨A3,x3,k3⟩:=ER _ _ _ _ _ x2 k2;obtain⟨C4,k4,YB⟩:=k3.frame hle;refine⟨F,C4,U1,b,U2,k4,q2,λH3 pp=>?_⟩
   obtain⟨F5,A5,x5,k5,_⟩:=pp;obtain⟨A6,x6,k6⟩:=YB _ _ _ _ _ x5 k5;cases b with
   |false=>exact pT ⟨F5,A6,U2,eG,k6,x0.trans (x3.trans x6),e,hl,kp.trans qI⟩
   |true=>
    have e:((ce U2).bind λq=>(eY [q.1]).bind λos=>if eG.length < 1000000 then compLoop g ct ce (ds.drop (i+1)) q.2 (eG++os) else none)=some fin:=e
    cases q3:ce U2 with
    |none=>rw[q3] at e;cases e
    |some pr=>
     obtain⟨r,U3⟩:=pr;rw[q3] at e;dsimp only[Option.bind] at e;cases q4:eY [r] with
     |none=>rw[q4] at e;cases e
     |some os=>
      rw[q4] at e;dsimp only at e;split at e
      ·rename_i hz
       obtain⟨C7,k7,Jq⟩:=k6.frame hle;refine pU ⟨F5,C7,U2,r,U3,k7,q3,λv H4 pp=>⟨i_ (by lia:acc.length < 1000000) (by decide),?_⟩⟩
       obtain⟨F8,A8,x8,k8,_⟩:=pp;rw[pD q4] at k8;obtain⟨A9,x9,k9⟩:=Jq _ _ _ _ _ x8 k8;refine⟨F8,A9,U3,eG++os,?_,x0.trans (x3.trans (x6.trans x9)),e,?_,kp.trans qI⟩
       ·rw[dh,dh,fG,fG];exact k9
       ·have:=congrArg List.length (pD q4);simp at this;simp[hl,this]
      ·cases e
theorem Vh{F H:Hp}{Z:St}{U:Gm}{A:List Addr}{p:Addr}{u:HO}(k:OK K F H Z U A)(hn:H p=none):OK K (upd F p u) (upd H p u) Z U A/\Ext F H A (upd F p u) (upd H p u) A:=by
 have hF:F p=none:=k.le.free hn;have np:∀a∈A,a≠p:=λa m z=>k.os.there a m (by rw[z];exact hn)
 refine⟨⟨λa o e=>?_,k.os.keep (nu hF) λa m o e=>by rw[cK (np a m)];exact e,k.nd,λa m=>by rw[cK (np a m)];exact k.fr a m⟩,⟨nu hF,λa o e _=>nu hn a o e,λa h z=>h ((nu hn).free z),λa h=>?_,λa m=>.inl m,.same (nu hn)⟩⟩
 ·by_cases z:a=p
  ·subst z;rw[iU] at e ⊢;exact e
  ·rw[cK z] at e ⊢;exact k.le a o e
 ·by_cases z:a=p
  ·subst z;exact .inr (.inr hn)
  ·rw[cK z] at h;exact .inl h
theorem RN{m:List Bool}{t:TG}{g:GG}{ct:GT}{ce:GE}(tg:gX K m t g){ds:List D}{fin:List O×Gm}{F1 H1:Hp}{C:List Addr}{τ₀:St}{i:Nat}{τ:St}{acc:List V}{H:Hp}{x:V}{d:D}(p:sg K m g ct ce ds fin F1 H1 C τ₀ i τ acc H)
  (ed:ds.drop i=d::ds.drop (i+1)) (rx:∀F,aH F1 F->au K F [x] [d]) :
  t x τ H λτ2 H2=>g_ K ct τ2 H2 λb H3=>if b=true then tG K ce τ2 H3 λv H4=>acc.length < sizeLine/\sg K m g ct ce ds fin F1 H1 C τ₀ (i+1) τ2 (acc++[v]) H4 else sg K m g ct ce ds fin F1 H1 C τ₀ (i+1) τ2 acc H3:=by
 obtain⟨F,A,Uc,eG,k,x0,e,hl,kp⟩:=p.ex;exact Lq tg k x0 e hl kp ed (rx F x0.ff)
theorem QO{m:List Bool}{t:TG}{g:GG}{ct:GT}{ce:GE}(tg:gX K m t g){ds:List D}{fin:List O×Gm}{F1 H1:Hp}{C:List Addr}{τ₀:St}{i:Nat}{τ:St}{acc:List V}{H:Hp}{q:Addr}{ws:List V}{es:List D}(p:sg K m g ct ce ds fin F1 H1 C τ₀ i τ acc H)
  (ed:ds.drop i=.tup es::ds.drop (i+1)) (hq:H q=none) (rx:∀F,aH F1 F->au K F ws es) :
  t (.ref q) τ (upd H q (.tup ws)) λτ2 H2=>g_ K ct τ2 H2 λb H3=>if b=true then tG K ce τ2 H3 λv H4=>acc.length < sizeLine/\sg K m g ct ce ds fin F1 H1 C τ₀ (i+1) τ2 (acc++[v]) H4 else sg K m g ct ce ds fin F1 H1 C τ₀ (i+1) τ2 acc H3:=by
 obtain⟨F,A,Uc,eG,k,x0,e,hl,kp⟩:=p.ex;obtain⟨k2,x2⟩:=Vh (u:=.tup ws) k hq;exact Lq tg k2 (x0.trans x2) e hl kp ed (.tup (iL.of iU) ((rx F x0.ff).mono x2.ff) .nil)
theorem Tv{m:List Bool}{g:GG}{ct:GT}{ce:GE}{ds:List D}{fin:List O×Gm}{F1 H1:Hp}{C:List Addr}{τ₀:St}{τ:St}{acc:List V}{H:Hp}(p:sg K m g ct ce ds fin F1 H1 C τ₀ ds.length τ acc H):
  ∃F A,OK K F H (acc.map some++τ) (fin.1.map some++fin.2) A/\Ext F1 H1 C F H A/\acc.length=fin.1.length/\Kept m τ₀ τ:=by
 obtain⟨F,A,Uc,eG,k,x0,e,hl,kp⟩:=p.ex;rw[KH (cP _)] at e;cases e;exact⟨F,A,k,x0,hl,kp⟩
theorem GZ:∀{aL:List Nat} {U:Gm} {j:Nat},j∉aL->(cy aL U).2[j]?=U[j]?
 |[],U,j,_=>rfl
 |i::aL,U,j,h=>by
  unfold cy;dsimp only;rw[GZ (λz=>h (lu _ z)),FC (λz=>h (by rw[z];exact qN))]
theorem Tw{F H:Hp}{Z:St}{U:Gm}{A:List Addr}{j:Nat}{ps:List O}{a:Addr}(h:ai K F H Z U A)(hU:U[j]?=some (some (.lst ps)))(hZ:Z[j]?=some (some (.ref a))):a∈A:=by
 obtain⟨v,Ai,B,g1,g2,_,g4⟩:=h.take hU;rw[hZ] at g1;cases g1;cases g2 with
 |lst _ _ _=>exact g4.mem_iff.mpr (by simp)
def jA(Z:St)(U:Gm)(H:Hp)(j:Nat)(a:Addr):Prop:=(∃ps,U[j]?=some (some (.lst ps))/\Z[j]?=some (some (.ref a)))\/∃C ns qs i kvs,U[j]?=some (some (.ins C ns qs))/\qs[i]?=some (.aK kvs)/\mH Z H j i (.ref a)
theorem Vi{F H:Hp}{Z:St}{U:Gm}{A:List Addr}{j:Nat}{a:Addr}(h:ai K F H Z U A)(i:jA Z U H j a):a∈A:=by
 rcases i with⟨ps,e1,e2⟩|⟨C,ns,qs,i,kvs,e1,e2,hf⟩
 ·exact Tw h e1 e2
 ·obtain⟨x,Ai,C',g1,g2,g3,g4⟩:=h.take e1;obtain⟨b,C2,dx,fs,f,p,y1,y2,y3,y4⟩:=hf;cases y4;rw[g1] at y1;cases y1;cases g2 with
  |ins q1 q2 q3 q4 t=>
   rw[y2] at q1;cases q1;have wN:(qs.map some)[i]?=some (some (.aK kvs)):=by rw[iz,e2];rfl
   obtain⟨v,Ac,C3,z1,z2,z3,z4⟩:=q4.take wN;rw[iz,y3] at z1;cases z1;refine g4.mem_iff.mpr (lx _ (lx _ ?_));refine lu _ (lu _ (z4.mem_iff.mpr (lx _ ?_)));cases z2 with
   |aK _ _ _ _ _=>simp
theorem jA.aL{Z:St}{U:Gm}{H:Hp}{aL:List Nat}{j:Nat}{a:Addr}(hj:j∉aL)(i:jA Z U H j a):jA Z (cy aL U).2 H j a:=by
 rcases i with⟨ps,e1,e2⟩|⟨C,ns,qs,i,kvs,e1,r⟩
 ·exact .inl ⟨ps,by rw[GZ hj];exact e1,e2⟩
 ·exact .inr ⟨C,ns,qs,i,kvs,by rw[GZ hj];exact e1,r⟩
theorem QP{k:Nat}{aL:List Nat}{F H:Hp}{Z:St}{U:Gm}{A:List Addr}(ok:OK K F H Z U A):∃C,OK K F H (iG k aL Z) (List.replicate k none++(cy aL U).1) C/\
  (∀j a,j∉aL->jA Z U H j a->a∉C)/\
  ∀F' H' τ' eG acc Ui A',Ext F H C F' H' A'->OK K F' H' (acc.map some++τ') (eG.map some++Ui) A'->acc.length=eG.length->Kept (mV k aL) (iG k aL Z) τ'->Ui.length=k+aL.length->∀l,H' l=none->
   ∃ph,Ext F H A F' (upd H' l (.lst acc)) ph/\OK K F' (upd H' l (.lst acc)) (some (.ref l)::Z) (some (.lst eG)::sH aL (Ui.drop k) (cy aL U).2) ph:=by
 obtain⟨B,C',h1,h2,h3⟩:=Er (aL:=aL) ok.os;have k0:ai K F H (iG k aL Z++Z) ((List.replicate k none++(cy aL U).1)++(cy aL U).2) (B++C'):=by
  have:=(GV (K:=K) (F:=F) (H:=H) k).app h1;exact this.app h2
 obtain⟨k1,x1⟩:=ok.sub k0 h3;have Ze:(iG k aL Z).length=(List.replicate k (none:Option O)++(cy aL U).1).length:=by
  have:=h1.length;unfold iG;simp at this ⊢;lia
 obtain⟨A1,p1,k2⟩:=k1.swap Ze;have k2':=k2;obtain⟨D0,C,hd0,Y8,hd2⟩:=ai.split h2.length k2.os;have nn:∀a∈D0,a∉C:=λa m z=>(hV.mp (hd2 ▸ k2.nd)).2.2 a m a z rfl
 obtain⟨k3,fr⟩:OK K F H (iG k aL Z) (List.replicate k none++(cy aL U).1) C/\∀F' H' Z' U' A',Ext F H C F' H' A'->OK K F' H' Z' U' A'->∃ph,Ext F H A1 F' H' ph/\OK K F' H' (Z++Z') ((cy aL U).2++U') ph:=by
  subst hd2;exact k2.oM hd0 Y8
 refine⟨C,k3,λj a hj i=>nn a (Vi hd0 (i.aL hj)),λF' H' τ' eG acc Ui A' x k' hl kp hU l hn=>?_⟩
 have hUl:=k'.os.length;have k5:∃A5,OK K F' (upd H' l (.lst acc)) (some (.ref l)::τ') (some (.lst eG)::Ui) A5/\Ext F' H' A' F' (upd H' l (.lst acc)) A5:=by
  obtain⟨B1,C1,g1,g2,g3⟩:=ai.split (by simp[hl]) k'.os
  have nl:∀a∈A',a≠l:=λa m z=>k'.os.there a m (by rw[z];exact hn)
  have Pd:∀a∈A',∀o,H' a=some o->upd H' l (.lst acc) a=some o:=λa m o e=>by rw[cK (nl a m)];exact e
  subst g3;refine⟨l::B1++C1,⟨λa o e=>?_,.lst iU (g1.keep (aH.refl _) λa m=>Pd a (lx _ m)) (g2.keep (aH.refl _) λa m=>Pd a (ja _ m)),j7.mpr ⟨λm=>nl l m rfl,k'.nd⟩,λa m=>?_⟩,
   aH.refl _,λa o e _=>?_,yo,λa h=>.inl h,λa m=>?_,.same (nu hn)⟩
  ·have:=k'.le a o e;rw[cK (lU this hn)];exact this
  ·rcases dZ.mp m with rfl|m
   ·exact k'.le.free hn
   ·exact k'.fr a m
  ·rw[cK (lU e hn)];exact e
  ·rcases dZ.mp m with rfl|m
   ·exact .inr hn
   ·exact .inl m
 obtain⟨A5,k5,x5⟩:=k5;obtain⟨A6,x6,k6⟩:=fr _ _ _ _ _ (x.trans x5) k5;obtain⟨D1,D2,g1,g2,g3⟩:=ai.split h2.length k6.os;subst g3;obtain⟨D3,D4,g4,g5,g6⟩:=g2.one;subst g6;have hτ:τ'.length=k+aL.length:=by
  have:=g5.length;lia
 have e1:τ'=τ'.take k++τ'.drop k:=(xV _ _).symm;have e2:Ui=Ui.take k++Ui.drop k:=(xV _ _).symm;have YU:ai K F' (upd H' l (.lst acc)) (τ'.take k++τ'.drop k) (Ui.take k++Ui.drop k) D4:=by rw[<-e1,<-e2];exact g5
 obtain⟨D5,D6,g7,g8,g9⟩:=ai.split (by rw[nJ,nJ];lia) YU
 subst g9;have eτ:τ'.drop k=aL.map λi=>(Z[i]?).join:=by
  apply List.ext_getElem?;intro j;by_cases hj:j < aL.length
  ·have hm:(mV k aL)[k+j]?=some true:=by
    unfold mV;rw[xU (by simp)]
    simp[hj]
   have:=kp (k+j) hm;rw[List.getElem?_drop,this];unfold iG;rw[xU (by simp)]
   simp
  ·rw[KN (by rw[vK];lia),KN (by rw[bB];lia)]
 obtain⟨D7,Jr,ES⟩:=Nd g8 g1 eτ;have s1:aJ (D3++D7) (D1++(D3++(D5++D6))):=by
  refine((aJ.refl D3).app ES).trans ?_;refine aJ.trans (B:=D3++(D5++D6)++D1) ?_ (.aZ om);rw[fG];refine(aJ.refl D3).app ?_;rw[fG];exact .aP (ly _ _)
 obtain⟨k7,x7⟩:=k6.sub (Z':=some (.ref l)::Z) (U':=some (.lst eG)::sH aL (Ui.drop k) (cy aL U).2) (g4.app Jr) s1;exact⟨D3++D7,(x1.trans (Ext.iX Ext.refl λa m=>p1.mem_iff.mp m)).trans (x6.trans x7),k7⟩
end
noncomputable def jH(it:GE):Gm->Option (List D×Gm):=λU=>(gF it U).bind λp=>match p.1 with
 |.own (.Y (.lst ds))=>some (ds,p.2)
 |_=>none
noncomputable def uz(it:GE):Gm->Option (List D×Gm):=λU=>(it U).bind λp=>match p.1 with
 |.own (.Y (.str z))=>some (z.cps.toList.map λc=>.str (kY c),p.2)
 |_=>none
noncomputable def lO(fs:GA):Gm->Option (List D×Gm):=λU=>(fs U).bind λp=>(gY p.1).map λj=>(ig 0 j.toNat,p.2)
noncomputable def uA(i:Nat)(aL:List Nat):Gm->Option (List D×Gm):=λU=>if i∈aL then none else match U[i]? with
 |some (some (.lst os))=>(fY os).map λds=>(ds,U)
 |_=>none
def Nw(K:L2.FG)(F1 H:Hp)(x:V)(d:D)(H':Hp):Prop:=(H'=H/\∀F,aH F1 F->au K F [x] [d])\/∃p ws es,x=.ref p/\d=.tup es/\H p=none/\H'=upd H p (.tup ws)/\∀F,aH F1 F->au K F ws es
def je(K:L2.FG)(aL:List Nat)(wi:TI)(src:Gm->Option (List D×Gm)):Prop:=
 ∀(Z:St) (F H:Hp) (A:List Addr) (U U1:Gm) (ds:List D) (R:It->Hp->Prop),OK K F H Z U A->src U=some (ds,U1)->
  (∀J H1 F1 A1,Ext F H A F1 H1 A1->OK K F1 H1 Z U1 A1->
   (∀(g:TG) (tt:TT) (te:TE) (τ:St) (Fin:List V->Hp->Prop) (Pv:Nat->St->List V->Hp->Prop),Pv 0 τ [] H1->(∀i τ acc H,Pv i τ acc H->(∃F,aH F1 F/\aH F H)/\∀(j:Nat) a o,j∉aL->jA Z U1 H1 j a->H1 a=some o->H a=some o)->
    (∀i d x τ acc H H',ds.drop i=d::ds.drop (i+1)->Nw K F1 H x d H'->Pv i τ acc H->g x τ H' λτ2 H2=>tt τ2 H2 λb H3=>if b=true then te τ2 H3 λv H4=>acc.length < sizeLine/\Pv (i+1) τ2 (acc++[v]) H4 else Pv (i+1) τ2 acc H3)->
    (∀τ acc H,Pv ds.length τ acc H->Fin acc H)->j8 J g tt te τ H1 Fin)->R J H1)->wi Z H R
section
variable {X:Cx} {K:L2.FG} {fa:GE} {fs:GA}
theorem Ed{α:Type}{l:List α}{i:Nat}{x:α}(h:l[i]?=some x):l.drop i=x::l.drop (i+1):=by
 obtain⟨hi,e⟩:=iq.mp h;rw[Ft hi,e]
theorem sx{aL:List Nat}:je K aL (oU K (tG K (gF fa))) (jH fa):=by
 intro Z F H A U U1 ds R k e w;unfold jH at e;cases q:gF fa U with
 |none=>rw[q] at e;cases e
 |some p=>
  obtain⟨r,U2⟩:=p;rw[q] at e;dsimp only[Option.bind] at e;cases r with
  |var i=>cases e
  |fld _ _=>cases e
  |own o=>
   cases o with
   |Y d=>
    cases d with
    |lst es=>
     cases e;refine⟨F,A,U,_,_,k,q,λv H1 pp=>?_⟩
     obtain⟨F1,A1,x,k1,_⟩:=pp;obtain⟨B,C,h1,h2,h3⟩:=ai.one (Z:=Z) k1.os;have rp:=sv h1;subst h3;obtain⟨k2,x2⟩:=k1.sub h2 (.aP (ly _ _));cases rp with
     |flat z _=>cases z
     |@lst a ws _ _ _ sq ri _=>
      refine⟨a,rfl,⟨ws,.inl (k1.le.rd sq)⟩,w (uH K a) H1 F1 C (x.trans x2) k2 λg tt te τ Fin Pv h0 hF hs hd=>?_⟩
      have hl:=ri.length;refine LG (xs:=ws) Pv h0 (λi τ acc H hi p=>?_) (λi x τ acc H hx p=>?_) (λτ acc H p=>hd τ acc H (by rw[<-hl];exact p))
      ·obtain⟨⟨F',s1,s2⟩,_⟩:=hF i τ acc H p;exact .inl ((s1.trans s2).rd sq)
      ·have hi:i < ds.length:=by
        have:=(iq.mp hx).1;lia
       obtain⟨x2,vg,rx⟩:=ri.get (i:=i) (d:=ds[i]) (by simp[hi])
       rw[hx] at vg;cases vg;exact hs i ds[i] x τ acc H H (Ed (by simp[hi])) (.inl ⟨rfl,λF' s=>rx.mono s⟩) p
    |_=>cases e
   |_=>cases e
theorem Vj{i:Nat}{aL:List Nat}:je K aL (oU K (kJ i)) (uA i aL):=by
 intro Z F H A U U1 ds R k e w;unfold uA at e;split at e
 ·cases e
 ·rename_i hi
  split at e
  ·rename_i os hU
   obtain⟨sN,e1,e2⟩:=jP.mp e;cases e2;obtain⟨v,Ai,B,g1,g2,_⟩:=k.os.take hU;refine⟨v,g1,?_⟩;cases g2 with
   |@lst a ws _ _ _ _ _ hl ch _=>
    have ri:=ye ch e1;refine⟨a,rfl,⟨ws,dq.of hl⟩,w (uH K a) H F A Ext.refl k λg tt te τ Fin Pv h0 hF hs hd=>?_⟩
    have Zi:=ri.length;refine LG (xs:=ws) Pv h0 (λj τ acc H' hj p=>?_) (λj x τ acc H' hx p=>?_) (λτ acc H' p=>hd τ acc H' (by rw[<-Zi];exact p))
    ·exact dq.of ((hF j τ acc H' p).2 i a _ hi (.inl ⟨os,hU,g1⟩) hl)
    ·have hj:j < ds.length:=by
      have:=(iq.mp hx).1;lia
     obtain⟨x2,vg,rx⟩:=ri.get (i:=j) (d:=ds[j]) (by simp[hj])
     rw[hx] at vg;cases vg;exact hs j ds[j] x τ acc H' H' (Ed (by simp[hj])) (.inl ⟨rfl,λF' s=>rx.mono s⟩) p
  ·cases e
theorem Vk{aL:List Nat}:je K aL (B6 (tG K fa)) (uz fa):=by
 intro Z F H A U U1 ds R k e w;unfold uz at e;cases q:fa U with
 |none=>rw[q] at e;cases e
 |some p=>
  obtain⟨r,U2⟩:=p;rw[q] at e;dsimp only[Option.bind] at e;cases r with
  |var i=>cases e
  |fld _ _=>cases e
  |own o=>
   cases o with
   |Y d=>
    cases d with
    |str z=>
     cases e;refine⟨F,A,U,_,_,k,q,λv H1 pp=>?_⟩
     have ev:=pp.flat rfl;obtain⟨F1,A1,x,k1,_⟩:=pp.drop;refine⟨z,ev,w (zI z) H1 F1 A1 x k1 λg tt te τ Fin Pv h0 hF hs hd=>?_⟩
     refine Th Pv h0 (λi c τ acc H hc p=>?_) (λτ acc H p=>hd τ acc H (by simpa using p))
     refine hs i (.str (kY c)) _ τ acc H H (Ed ?_) (.inl ⟨rfl,λF' s=>.flat rfl .nil⟩) p
     rw[iz,zw,hc];rfl
    |_=>cases e
   |_=>cases e
theorem IE{aL:List Nat}:je K aL (vh (gZ K fs)) (lO fs):=by
 intro Z F H A U U1 ds R k e w;unfold lO at e;cases q:fs U with
 |none=>rw[q] at e;cases e
 |some p=>
  obtain⟨rs,U2⟩:=p;rw[q] at e;obtain⟨j,e1,e2⟩:=jP.mp e;cases e2;obtain⟨hj,hb⟩:=Mh e1;have hj:rs=_:=hj;subst hj;refine⟨F,A,U,_,_,k,q,λvs H1 pp=>?_⟩
  obtain⟨F1,A1,x,k1,hh⟩:=pp
  match vs,hh with
  |[v],_=>
   obtain⟨rfl,h2⟩:=wj (Z:=Z) k1.os;obtain⟨k2,x2⟩:=k1.sub h2 (aJ.refl _);refine⟨j,rfl,hb.1,hb.2,w (uI 0 j.toNat) H1 F1 A1 x k2 λg tt te τ Fin Pv h0 hF hs hd=>?_⟩
   refine QH Pv h0 (λi τ acc H hi p=>?_) (λτ acc H p=>hd τ acc H (by simpa[ig] using p))
   exact hs i (.int (0+(i:Int))) _ τ acc H H (by unfold ig;exact P7 _ hi) (.inl ⟨rfl,λF' s=>.flat rfl .nil⟩) p
theorem pA.mono{ifs:List Expr}{t t':TT}(h:pA X ifs t)(m:∀Z H Q,t' Z H Q->t Z H Q):pA X ifs t':=λpins s Z H Q I q=>h pins s Z H Q I (m _ _ _ q)
noncomputable def cX:GT:=λU=>some (true,U)
theorem qY:pA X [] (g_ K cX):=ux.mono λZ H Q t=>DK t
theorem Ax{c:Expr}{ft:GT}(h:PT X c (g_ K ft)):pA X [c] (g_ K ft):=UW h
variable {tg elt iter:Expr} {ifs:List Expr} {scope:Scope} {pos:Pos} {M:List Str} {k:Nat} {aL:List Nat} {t:TG} {gg:GG} {ct:GT} {ce:GE} {wi:TI} {src:Gm->Option (List D×Gm)}
theorem H_(so:je K aL wi src)(vH:gX K (mV k aL) t gg){Z:St}{H:Hp}{Q:VK}(tt:tG K (jZ src gg ct ce k aL) Z H Q):r6 wi t (g_ K ct) (tG K ce) k aL Z H Q:=by
 obtain⟨F,A,U,rr,U',ok,e,w⟩:=tt;unfold jZ at e;cases q1:src U with
 |none=>rw[q1] at e;cases e
 |some p=>
  obtain⟨ds,U1⟩:=p;rw[q1] at e;dsimp only[Option.bind] at e;cases q2:compLoop gg ct ce ds (List.replicate k none++(cy aL U1).1) [] with
  |none=>rw[q2] at e;cases e
  |some fin=>
   rw[q2] at e;dsimp only at e;split at e
   ·rename_i hlen
    cases e;refine so Z F H A U U1 ds _ ok q1 λJ H1 F1 A1 x1 k1 mk=>?_
    obtain⟨C,kC,nC,back⟩:=QP (k:=k) (aL:=aL) k1;refine mk t (g_ K ct) (tG K ce) (iG k aL Z) _ (sg K (mV k aL) gg ct ce ds fin F1 H1 C (iG k aL Z)) ?_ ?_ ?_ ?_
    ·exact⟨F1,C,_,[],kC,Ext.refl,q2,rfl,Kept.refl⟩
    ·rintro i τ acc H ⟨F',A',Uc,eG,k',x',_⟩;exact⟨⟨F',x'.ff,k'.le⟩,λj a o hj h1 h3=>x'.keep a o h3 (nC j a hj h1)⟩
    ·intro i d x τ acc H H' ed nw p;rcases nw with⟨rfl,rx⟩|⟨q,ws,es,rfl,rfl,hq,rfl,rx⟩
     ·obtain⟨F',A',Uc,eG,k',x',_⟩:=p.ex;exact RN vH p ed λF e=>rx F e
     ·exact QO vH p ed hq rx
    ·intro τ acc H p l hn;obtain⟨F',A',k',x',hl,kp⟩:=Tv p;obtain⟨ph,x'',ZD⟩:=back F' H τ fin.1 acc fin.2 A' x' k' hl kp hlen l hn;exact w _ _ ⟨F',ph,x1.trans x'',ZD,True.intro⟩
   ·cases e
theorem sE(so:je K aL wi src)(vH:gX K (mV k aL) t gg)(ok:bJ X scope M k aL)(hi:PI X tg iter wi)
  (hg:∀C s H fp,PG (ir X scope M C s H fp) tg t) (ht:∀C s H fp,pA (ir X scope M C s H fp) ifs (g_ K ct)) (he:∀C s H fp,PE (ir X scope M C s H fp) elt (tG K ce)) (hc:X.calm=true:=by rfl)
  (hs:∀x,foldedSetIterable iter X.env x=pure x:=by intro _;rfl):PE X (.ListComp elt [⟨tg,iter,ifs,0⟩] scope pos) (tG K (jZ src gg ct ce k aL)):=
 (UX hc ok hi hg ht he hs).mono λ_ _ _ t=>H_ so vH t
variable {m:List Bool} {W:Option XW}
theorem Nf{i:Nat}{x:Str}{px ni:Pos}(so:je K aL wi src)(vH:gX K (mV k aL) t gg)(ok:bJ X scope M k aL)(hN:X.N.Nodup)(xg:X.N[i]?=some x)(hx:Loc X.env.scope x)(hi:PI X tg iter wi)
  (hg:∀C s H fp,PG (ir X scope M C s H fp) tg t) (ht:∀C s H fp,pA (ir X scope M C s H fp) ifs (g_ K ct)) (he:∀C s H fp,PE (ir X scope M C s H fp) elt (tG K ce)) (hc:X.calm=true:=by rfl) (hm:(m[i]? == some true)=false:=by rfl)
  (BY:swapsWith (.ListComp elt [⟨tg,iter,ifs,0⟩] scope pos) (some (.Name x px)) ni.line X.env=pure true:=by rfl)
  (hs:∀x,foldedSetIterable iter X.env x=pure x:=by intro _;rfl) (hf:X.fn x=true\/X.env.scope.names.lookup x=some .local := by first|exact .inl rfl|exact .inr rfl) :
  PS X (.Assign [.Name x px] (.ListComp elt [⟨tg,iter,ifs,0⟩] scope pos) ni) (tS K m W (aF i (jZ src gg ct ce k aL))):=(MZ hc ok hN xg hx hi hg ht he BY hs hf).mono λD Z H tt=>by
 obtain⟨F,A,U,fl,U',k,e,w⟩:=tt;unfold aF at e;cases q:jZ src gg ct ce _ aL U with
 |none=>rw[q] at e;cases e
 |some p=>
  obtain⟨r,U1⟩:=p;rw[q] at e;cases r with
  |var i=>cases e
  |fld _ _=>cases e
  |own o=>
   dsimp only[Option.bind] at e;split at e
   ·cases e;refine H_ so vH ⟨F,A,U,_,U1,k,q,λv H' hh=>?_⟩
    obtain⟨F1,A1,x,k1,_⟩:=hh;obtain⟨B,k2,x2⟩:=OK.store (Z:=Z) (U:=U1) k1 (by assumption)
    exact w _ H' ⟨F1,B,x.trans x2,k2,Kept.set hm⟩
   ·cases e
theorem DM{i:Nat}{x:Str}{px ni:Pos}(so:je K aL wi src)(vH:gX K (mV k aL) t gg)(ok:bJ X scope M k aL)(hN:X.N.Nodup)(xg:X.N[i]?=some x)(hx:Loc X.env.scope x)(hi:PI X tg iter wi)
  (hg:∀C s H fp,PG (ir X scope M C s H fp) tg t) (ht:∀C s H fp,pA (ir X scope M C s H fp) ifs (g_ K ct)) (he:∀C s H fp,PE (ir X scope M C s H fp) elt (tG K ce)) (hc:X.calm=true:=by rfl) (hm:(m[i]? == some true)=false:=by rfl)
  (BY:swapsWith (.ListComp elt [⟨tg,iter,ifs,0⟩] scope pos) (some (.Name x px)) ni.line X.env=pure true:=by rfl)
  (hs:∀x,foldedSetIterable iter X.env x=pure x:=by intro _;rfl) (hf:X.fn x=true\/X.env.scope.names.lookup x=some .local := by first|exact .inl rfl|exact .inr rfl) :
  PS X (.Assign [.Name x px] (.ListComp elt [⟨tg,iter,ifs,0⟩] scope pos) ni) (tS K m W (aF i (gF (jZ src gg ct ce k aL)))):=(MZ hc ok hN xg hx hi hg ht he BY hs hf).mono λD Z H tt=>by
 obtain⟨F,A,U,fl,U',k,e,w⟩:=tt;unfold aF at e;cases q:gF (jZ src gg ct ce _ aL) U with
 |none=>rw[q] at e;cases e
 |some p=>
  obtain⟨r,U1⟩:=p;rw[q] at e;cases r with
  |var i=>cases e
  |fld _ _=>cases e
  |own o=>
   dsimp only[Option.bind] at e;split at e
   ·cases e;refine H_ so vH (NY ⟨F,A,U,_,U1,k,q,λv H' hh=>?_⟩)
    obtain⟨F1,A1,x,k1,_⟩:=hh;obtain⟨B,k2,x2⟩:=OK.store (Z:=Z) (U:=U1) k1 (by assumption)
    exact w _ H' ⟨F1,B,x.trans x2,k2,Kept.set hm⟩
   ·cases e
end
inductive Wk (K:L2.FG) (H:Hp):V->List Nat->V->Prop
 |nil {x:V}:Wk K H x [] x
 |cons {p:Addr} {ws:List V} {j:Nat} {y v:V} {π:List Nat}:(dq K H p ws\/iL K H p ws)->ws[j]?=some y->Wk K H y π v->Wk K H (.ref p) (j::π) v
section
variable {X:Cx} {K:L2.FG} {e:Expr} {i j:Nat} {π:List Nat} {pos p1 p2:Pos} {n:Nat}
end
section
variable {K:L2.FG} {F H:Hp}
theorem QQ{ws:List V}{os:List O}{A:List Addr}{j:Nat}{c:O}(h:ai K F H (ws.map some) (os.map some) A)(e:os[j]?=some c):∃v Ac B,ws[j]?=some v/\ai K F H [some v] [some c] Ac/\A.Perm (Ac++B)/\
  ∀F' H' c' A',aH F F'->(∀a∈B,∀u,H a=some u->H' a=some u)->ai K F' H' [some v] [some c'] A'->∃D,ai K F' H' (ws.map some) ((os.set j c').map some) D/\aJ D (A'++B):=by
 have e':(os.map some)[j]?=some (some c):=by rw[iz,e];rfl
 obtain⟨v,Ac,B,g1,g2,g3,g4⟩:=h.take e';have hv:ws[j]?=some v:=by
  rw[iz] at g1;cases q:ws[j]? with
  |none=>rw[q] at g1;cases g1
  |some z=>rw[q] at g1;cases g1;rfl
 refine⟨v,Ac,B,hv,g2,g4,λF' H' c' A' sf kp w=>?_⟩
 have t8:ai K F' H' (ws.map some) ((os.map some).set j none) B:=g3.keep sf kp;have hj:j < ((os.map some).set j none).length:=by
  rw[uD,bB];exact(iq.mp e).1
 obtain⟨D,k1,C,k2,k3⟩:=ai.put w j t8 hj;rw[zu,tL g1] at k1;refine⟨D,by rw[zA];exact k1,(aJ.aZ k2).trans ((aJ.refl A').app (.aP k3))⟩
end
section
variable {X:Cx} {K:L2.FG} {o e:Expr} {es:List Expr} {i:Nat} {π:List Nat} {t:TA} {name:Str} {apos aV:Pos} {id:String} {r:V->List V->Hp->VK->Prop} {g:O->List O->Option (O×O)} {ds:List D} {vs:List V}
end
noncomputable def dX(M:GM)(fs:GA):GE:=λU=>(fs U).bind λp=>(fD p.2 p.1).bind λos=>(M ((O.dl os).map .Y)).bind λr=>match r.1 with
 |.Y d=>(mM d).bind λ_=>some (.own (.Y d),p.2)
 |_=>none
section
variable {K:L2.FG}
theorem Tx{F H:Hp}(le:aH F H){vs:List V}{os:List O}(h:lT K F H vs os):au K H vs (O.dl os):=by
 unfold lT at h
 induction h with
 |nil=>exact .nil
 |cons p t ih=>obtain⟨B,h⟩:=p;exact .cons (nz le h) ih
theorem QR{M:GM}{fs:GA}{U U':Gm}{r:R}(e:dX M fs U=some (r,U')):∃rs os d fin v,fs U=some (rs,U')/\fD U' rs=some os/\M ((O.dl os).map .Y)=some (.Y d,fin)/\mM d=some v/\r=.own (.Y d):=by
 unfold dX at e;cases q1:fs U with
 |none=>rw[q1] at e;cases e
 |some p=>
  rw[q1] at e;dsimp only[Option.bind] at e;cases q2:fD p.2 p.1 with
  |none=>rw[q2] at e;cases e
  |some os=>
   rw[q2] at e;dsimp only at e;cases q3:M ((O.dl os).map .Y) with
   |none=>rw[q3] at e;cases e
   |some z=>
    obtain⟨o,fin⟩:=z;rw[q3] at e;dsimp only at e;cases o with
    |Y d=>
     dsimp only at e;cases q4:mM d with
     |none=>rw[q4] at e;cases e
     |some v=>rw[q4] at e;cases e;exact⟨p.1,os,d,fin,v,rfl,q2,q3,q4,rfl⟩
    |_=>cases e
variable {X:Cx} {k n:Nat} {f:Addr} {fd:FuncData} {ps:List Str} {x:Str} {p pos:Pos} {e:Expr} {es:List Expr} {fs:GA} {st:Stmt} {M:GM}
theorem Tz{Z:St}{H:Hp}{Q:VK}(t:tG K (dX M fs) Z H Q)(hn:∀rs U U',fs U=some (rs,U')->rs.length=n):o7 (dB K n M) [] E1 (gZ K fs) Z H Q:=by
 obtain⟨F,A,U,rr,U',k,e,w⟩:=t;obtain⟨rs,os,d,fin,v0,e1,e2,e3,e4,rfl⟩:=QR e;refine⟨F,A,U,rs,U',k,e1,λvs H1 pp=>?_⟩
 show dB K n M (vs++[]) H1 Q E0;rw[d_];obtain⟨F1,le,eD,res⟩:=pp.res e2 w;obtain⟨_,_,_,_,hh⟩:=pp;refine⟨by rw[<-hh.length];exact hn rs U U' e1,H1,[],(O.dl os).map .Y,.Y d,fin,⟨aH.refl _,Aa (Tx le eD),.nil,λ_ m=>by cases m⟩,e3,λv H' pc=>?_⟩
 obtain⟨F5,A5,x5,k5⟩:=pc;have s:aH H1 H':=λa o e=>x5.keep a o e (by simp)
 have ev:v=v0:=by
  obtain⟨B,C,h1,_⟩:=k5.os.one;exact iM h1 e4
 subst ev;exact res v H' [] s (.Y (.flat e4 .nil) .nil) .nil (λ_ m=>by cases m)
theorem gv(D:bZ X.K X.mg x st f fd ps)(Fn:aT X.prog X.w X.K X.mg X.base dz k f fd ps (dB K n M))(hr:cA k X.A)(ha:PA X (e::es) (gZ K fs))(hn:∀rs U U',fs U=some (rs,U')->rs.length=n)(hg:Gl X x:=by rfl)(lW:(x == ("__debug__":Str))=false:=by decide)
  (he:starEach (e::es) X.env=(false,eval e X.env)::starEach es X.env:=by rfl) (jM:(backTo pos (starEach es X.env)).any (·.1)=false:=by rfl) :
  PE X (.Call (.Name x p) (e::es) [] pos) (tG K (dX M fs)):=(vn D Fn hr ha hg lW he jM).mono λ_ _ _ t=>Tz t hn
theorem Vl{P:Program}{w:World}{mg:Str->Option Value}{base:Heap}{k:Nat}{f:Addr}{fd:FuncData}{ps:List Str}{M:GM}(F:aT P w K mg base dz k f fd ps (dB K 1 M))(h:∀ns:List Int,ns.length<=63->∃fin,M [.Y (.aS ns)]=some (.Y (.bl true),fin)):
  aT P w K mg base dz k f fd ps (λvs H Q _=>∃(a:Addr) (ns:List Int),vs=[.ref a]/\dq K H a (ns.map V.int)/\ns.length<=63/\∀H',Q (.bl true) H'):=F.imp λvs H Q E q=>by
 obtain⟨a,ns,rfl,hS,hl,q⟩:=q;obtain⟨fin,e⟩:=h ns hl;refine⟨rfl,H,[],[.Y (.aS ns)],_,fin,⟨aH.refl _,.Y (.aS hS .nil) .nil,.nil,λ_ m=>by cases m⟩,e,λv H' pc=>?_⟩
 obtain⟨F5,A5,x5,k5⟩:=pc;obtain⟨B,C,h1,_⟩:=k5.os.one;cases iM h1 rfl;exact q H'
end
end L2
namespace L2
open PySem
open Lean Meta in
simproc_decl ah (Option.bind _ _):=λe=>do
 let a:=e.getAppArgs
 unless a.size == 4 do return .continue
 let r0 <-Simp.simp a[2]!
 let r:={ r0 with expr:=(<-instantiateMVars r0.expr).cleanupAnnotations.headBeta}
 let pr <-match r.proof? with
  |none=>pure none
  |some p=>pure (some (<-mkCongrArg (.lam `z (<-inferType a[2]!) (mkApp4 e.getAppFn a[0]! a[1]! (.bvar 0) a[3]!) .default) p))
 if r.expr.isAppOfArity ``Option.some 2 then
  return .visit { expr:=(mkApp a[3]! r.expr.appArg!).headBeta,proof?:=pr}
 if r.expr.isAppOfArity ``Option.none 1 then
  return .done { expr:=mkApp (.const ``Option.none (e.getAppFn.constLevels!.drop 1)) a[1]!,proof?:=pr}
 return .done { expr:=mkApp4 e.getAppFn a[0]! a[1]! r.expr a[3]!,proof?:=pr}
open Lean Meta in
simproc_decl evMap (Option.map _ _):=λe=>do
 let a:=e.getAppArgs
 unless a.size == 4 do return .continue
 let r0 <-Simp.simp a[3]!
 let r:={ r0 with expr:=(<-instantiateMVars r0.expr).cleanupAnnotations.headBeta}
 let pr <-match r.proof? with
  |none=>pure none
  |some p=>pure (some (<-mkCongrArg (.lam `z (<-inferType a[3]!) (mkApp4 e.getAppFn a[0]! a[1]! a[2]! (.bvar 0)) .default) p))
 if r.expr.isAppOfArity ``Option.some 2 then
  return .visit { expr:=mkApp2 (.const ``Option.some (e.getAppFn.constLevels!.drop 1)) a[1]! (mkApp a[2]! r.expr.appArg!).headBeta,proof?:=pr}
 if r.expr.isAppOfArity ``Option.none 1 then
  return .done { expr:=mkApp (.const ``Option.none (e.getAppFn.constLevels!.drop 1)) a[1]!,proof?:=pr}
 return .done { expr:=mkApp4 e.getAppFn a[0]! a[1]! a[2]! r.expr,proof?:=pr}
section
variable (f g h:GS) (fa fb fc:GE) (fs:GA) (ft gt:GT) (lo hi:GO) (U:Gm) (i n:Nat) (o:O) (d:D) (ds:List D) (os:List O) (gg:GG) (M:GM) (op:List O->Option O) (mu:O->List O->Option (O×O)) (c:List O->O)
theorem dJ:aW f g U=(f U).bind λp=>match p.1 with
 |.nx=>g p.2
 |.bk=>some (.bk,p.2)
 |.ct=>some (.ct,p.2)
 |.rt o=>some (.rt o,p.2):=rfl
theorem dD:aQ U=some (.nx,U):=rfl
theorem ef:aF i fa U=(fa U).bind λp=>match p.1 with
 |.own o=>if i < p.2.length then some (.nx,p.2.set i (some o)) else none
 |_=>none:=rfl
theorem gx:aR fa U=(fa U).bind λp=>match p.1 with
 |.own o=>some (.rt o,p.2)
 |_=>none:=rfl
theorem jK:iO fa U=(fa U).bind λp=>some (.nx,p.2):=rfl
theorem dr:bQ ft f g U=(ft U).bind λp=>if p.1=true then f p.2 else g p.2:=rfl
theorem IF:jm fa fb fc U=(fa U).bind λp=>(fb p.2).bind λq=>(fc q.2).bind λr=>match p.1,q.1,r.1 with
 |.own v,.var i,.own y=>match r.2[i]? with
  |some (some o)=>(eW o [v,y]).bind λz=>some (.nx,r.2.set i (some z.1))
  |_=>none
 |_,_,_=>none:=rfl
theorem pK:eA fa gg f U=(gF fa U).bind λp=>match p.1 with
 |.own (.Y (.lst ds))=>iD gg f ds p.2
 |_=>none:=rfl
theorem AW:yd fs gg f U=(fs U).bind λp=>(gY p.1).bind λj=>iD gg f (ig 0 j.toNat) p.2:=rfl
theorem bU:gC d U=some (.own (.Y d),U):=rfl
theorem ba:aa i U=match U[i]? with
 |some (some (.Y d))=>some (.own (.Y d),U)
 |some (some _)=>some (.var i,U)
 |_=>none:=rfl
theorem cI:gF fa U=(fa U).bind λp=>match p.1 with
 |.own o=>some (.own (.Y o.d),p.2)
 |.var i=>match p.2[i]? with
  |some (some o)=>some (.own (.Y o.d),p.2.set i (some (.Y o.d)))
  |_=>none
 |_=>none:=rfl
theorem yq:ji fa U=(fa U).bind λp=>match p.1 with
 |.own o=>some (.own o,p.2)
 |.var i=>match p.2[i]? with
  |some (some o)=>some (.own o,p.2.set i none)
  |_=>none
 |_=>none:=rfl
theorem bj:gN U=some ([],U):=rfl
theorem bc:ao fa fs U=(fa U).bind λp=>(fs p.2).bind λq=>some (p.1::q.1,q.2):=rfl
theorem bL:gO op fs U=(fs U).bind λp=>(fD p.2 p.1).bind λos=>(op os).bind λo=>some (.own o,p.2):=rfl
theorem fV:gS c fs U=(fs U).bind λp=>if p.1.length<=1000 then(eY p.1).bind λos=>some (.own (c os),p.2) else none:=rfl
theorem DN:rf U=some (.own (.aK []),U):=rfl
theorem cR:gT fa U=(fa U).bind λp=>match p.1 with
 |.own (.Y (.bl b))=>some (b,p.2)
 |_=>none:=rfl
theorem iP:dc fa U=(fa U).bind λp=>(iI p.2 p.1).bind λo=>(oa o).bind λb=>some (b,p.2):=rfl
theorem qy:ez ft U=(ft U).bind λp=>some (!p.1,p.2):=rfl
theorem lC:gR ft gt U=(ft U).bind λp=>if p.1=true then gt p.2 else some (false,p.2):=rfl
theorem tV:lh ft gt U=(ft U).bind λp=>if p.1=true then some (true,p.2) else gt p.2:=rfl
theorem sJ:t9 ft fa fb U=(ft U).bind λp=>if p.1=true then fa p.2 else fb p.2:=rfl
theorem Ay:kj fa fb U=(gT fa U).bind λp=>if p.1=true then fb p.2 else gC (.bl false) p.2:=rfl
theorem Vm:rD fa U=(gT fa U).bind λp=>gC (.bl (!p.1)) p.2:=rfl
theorem iC:bN M fs U=(fs U).bind λp=>(mz p.1 p.2).bind λq=>(M q.1).bind λr=>some (.own r.1,nP p.1 r.2 q.2):=rfl
theorem oI:jD mu fa fs U=(fa U).bind λp=>match p.1 with
 |.var i=>match p.2[i]? with
  |some (some (.lst _))=>(fs p.2).bind λq=>(eY q.1).bind λos=>match q.2[i]? with
   |some (some o)=>(mu o os).bind λz=>some (.own z.2,q.2.set i (some z.1))
   |_=>none
  |_=>none
 |_=>none:=rfl
theorem Ng:Ep U=some (none,U):=rfl
theorem Nh:AN fa U=(fa U).bind λp=>(ud p.1).map λi=>(some i,p.2):=rfl
theorem Mp:yB fa lo hi U=(fa U).bind λp=>(lo p.2).bind λq=>(hi q.2).bind λr=>(iI r.2 p.1).bind λo=>(vB o q.1 r.1).bind λo'=>some (.own o',r.2):=rfl
theorem mK(src:Gm->Option (List D×Gm))(k:Nat)(aL:List Nat):jZ src gg ft fa k aL U=(src U).bind λp=>
 (compLoop gg ft fa p.1 (List.replicate k none++(cy aL p.2).1) []).bind λq=>if q.2.length=k+aL.length then some (.own (.lst q.1),sH aL (q.2.drop k) (cy aL p.2).2) else none:=rfl
theorem qZ:jH fa U=(gF fa U).bind λp=>match p.1 with
 |.own (.Y (.lst ds))=>some (ds,p.2)
 |_=>none:=rfl
theorem Mq:lO fs U=(fs U).bind λp=>(gY p.1).map λj=>(ig 0 j.toNat,p.2):=rfl
theorem Vn:uz fa U=(fa U).bind λp=>match p.1 with
 |.own (.Y (.str z))=>some (z.cps.toList.map λc=>.str (kY c),p.2)
 |_=>none:=rfl
theorem rm:cX U=some (true,U):=rfl
theorem fP:aX i d U=if i < U.length then some (U.set i (some (.Y d))) else none:=rfl
theorem pH(gs:List GG):cT gs (.tup ds) U=ie gs ds U:=rfl
theorem pF:ie [] [] U=some U:=rfl
theorem pG(gs:List GG):ie (gg::gs) (d::ds) U=(gg d U).bind λU1=>ie gs ds U1:=rfl
theorem eF(m:List Bool):runM n m f os=(f (os.map some++List.replicate (n - os.length) none)).bind λp=>p.1.val.bind λo=>if p.2.length=n then some (o,fZ m (p.2.take os.length)) else none:=rfl
theorem v_:iD gg f (d::ds) U=(gg d U).bind λU1=>(f U1).bind λq=>match q.1 with
 |.nx=>iD gg f ds q.2
 |.ct=>iD gg f ds q.2
 |.bk=>some (.nx,q.2)
 |.rt o=>some (.rt o,q.2):=rfl
theorem IG:compLoop gg ft fa [] U os=some (os,U):=rfl
theorem Es:compLoop gg ft fa (d::ds) U os=(gg d U).bind λU1=>(ft U1).bind λp=>if p.1=true then
   (fa p.2).bind λq=>(eY [q.1]).bind λvm=>if os.length < 1000000 then compLoop gg ft fa ds q.2 (os++vm) else none
  else compLoop gg ft fa ds p.2 os:=rfl
theorem RO:vB (.Y (.lst ds)) l u=some (.lst ((cutD ds l u).map .Y)):=rfl
theorem WY:df (.Y (.lst ds))=some ds:=rfl
theorem WZ:df (.lst (ds.map .Y))=some ds:=uM ds
theorem Et:df (.lst os)=fY os:=rfl
theorem W0:fY []=some []:=rfl
theorem W2:fY (.Y d::os)=(fY os).bind λds=>some (d::ds):=rfl
theorem jB(a b:Int):bq [.Y (.int a),.Y (.int b)]=some (.Y (.int (a+b))):=rfl
theorem Vq(a b:Str):bq [.Y (.str a),.Y (.str b)]=if a.length+b.length<=1000000 then some (.Y (.str (a++b))) else none:=rfl
theorem Vr(a b:List D):bq [.Y (.lst a),.Y (.lst b)]=if a.length+b.length<=1000000 then some (.lst ((a++b).map .Y)) else none:=rfl
theorem Mr(a:List O)(b:List D):bq [.lst a,.Y (.lst b)]=(df (.lst a)).bind λxs=>if xs.length+b.length<=1000000 then some (.lst ((xs++b).map .Y)) else none:=rfl
theorem Ms(a:List D)(b:List O):bq [.Y (.lst a),.lst b]=(df (.lst b)).bind λys=>if a.length+ys.length<=1000000 then some (.lst ((a++ys).map .Y)) else none:=rfl
theorem iW(C:Int->Int->Bool)(q:Int->Int->D)(a b:Int):l9 C q [.Y (.int a),.Y (.int b)]=if C a b=true then some (.Y (q a b)) else none:=rfl
theorem Ee(a b:Int):eC [.Y (.int a),.Y (.int b)]=if(-(2 ^ 64) < a/\a < 2 ^ 64)\/(-(2 ^ 64) < b/\b < 2 ^ 64) then some (.Y (.int (a * b))) else none:=rfl
theorem Ni(a:Str)(b:Int):eC [.Y (.str a),.Y (.int b)]=if MulOk a b then some (.Y (.str (Txt.mul a b))) else none:=rfl
theorem dA(a:O):bu [a,.Y d]=cF a d:=rfl
theorem sI(k:Int):cF (.Y (.lst ds)) (.int k)=(dw ds k).map .Y:=rfl
theorem mP(k:Int):cF (.Y (.tup ds)) (.int k)=(dw ds k).map .Y:=rfl
theorem wy(k:Int):cF (.lst os) (.int k)=(dw os k).bind gW:=rfl
theorem N4(z:Str)(k:Int):cF (.Y (.str z)) (.int k)=if z.length<=1000000 then(dw z.cps.toList k).map λc=>.Y (.str ⟨#[c]⟩) else none:=rfl
theorem Af:gW (.Y d)=some (.Y d):=rfl
theorem kc(a:O):gj [a]=(m6 a.d).map λn=>.Y (.int n):=rfl
theorem lV:m6 (.lst ds)=some (ds.length:Int):=rfl
theorem Vs:m6 (.tup ds)=some (ds.length:Int):=rfl
theorem iQ(a b:O):oEq [a,b]=if eK 40 a.d=true/\eK 40 b.d=true then some (.Y (.bl (bb a.d b.d))) else none:=rfl
theorem W4(a:Bool):oV [.Y (.bl a)]=some (.Y (.int (if a then 1 else 0))):=rfl
theorem iB:mz [] U=some ([],U):=rfl
theorem jg(rs:List R):mz (.own o::rs) U=(mz rs U).bind λp=>some (o::p.1,p.2):=rfl
theorem nO(rs:List R):mz (.var i::rs) U=match U[i]? with
  |some (some o)=>(mz rs (U.set i none)).bind λp=>some (o::p.1,p.2)
  |_=>none:=rfl
theorem iE(fin:Gm):nP [] fin U=U:=by cases fin <;> rfl
theorem jh(rs:List R)(x:Option O)(fin:Gm):nP (.own o::rs) (x::fin) U=nP rs fin U:=rfl
theorem nQ(rs:List R)(x:Option O)(fin:Gm):nP (.var i::rs) (x::fin) U=(nP rs fin U).set i x:=rfl
theorem bC:fD U []=some []:=rfl
theorem bD(r:R)(rs:List R):fD U (r::rs)=(iI U r).bind λo=>(fD U rs).bind λos=>some (o::os):=rfl
theorem bF:iI U (.own o)=some o:=rfl
theorem nD:iI U (.var i)=(U[i]?).join:=rfl
theorem eS:eY []=some []:=rfl
theorem fW(rs:List R):eY (.own o::rs)=(eY rs).bind λos=>some (o::os):=rfl
theorem Nj(k:Int):ud (.own (.Y (.int k)))=some k:=rfl
theorem mC(m:List Bool)(x:Option O):fZ (true::m) (x::U)=x::fZ m U:=rfl
theorem fJ(m:List Bool)(x:Option O):fZ (false::m) (x::U)=none::fZ m U:=rfl
theorem eJ(m:List Bool):fZ m []=[]:=by
 cases m with
 |nil=>rfl
 |cons b m=>cases b <;> rfl
theorem iu:(Fl.rt o).val=some o:=rfl
theorem nU:Fl.nx.val=some (.Y .aI):=rfl
theorem iV(b:Bool):oa (.Y (.bl b))=some b:=rfl
theorem Nk:oa (.Y (.lst ds))=some (!ds.isEmpty):=rfl
theorem bP:(O.Y d).d=d:=rfl
theorem jT:(O.lst os).d=.lst (O.dl os):=rfl
theorem kX:(O.tup os).d=.tup (O.dl os):=rfl
theorem dt:O.dl []=[]:=rfl
theorem du:O.dl (o::os)=o.d::O.dl os:=rfl
theorem mQ:O.dl (ds.map .Y)=ds:=uR ds
end
theorem qj{α:Type}(a:α)(l:List α):dw (a::l) 0=some a:=qt (j:=0) rfl
theorem yf{α:Type}(a b:α)(l:List α):dw (a::b::l) 1=some b:=qt (j:=1) rfl
theorem Ag{α:Type}(a b c:α)(l:List α):dw (a::b::c::l) 2=some c:=qt (j:=2) rfl
theorem Ht{α:Type}(a b c d:α)(l:List α):dw (a::b::c::d::l) 3=some d:=qt (j:=3) rfl
theorem N5(ns:List Int)(k:Int):cF (.Y (.aS ns)) (.int k)=(dw (ns.map D.int) k).map .Y:=rfl
theorem Nl(ns:List Int):m6 (.aS ns)=some (ns.length:Int):=rfl
theorem Ia(i:Nat)(aL:List Nat)(U:Gm):uA i aL U=if i∈aL then none else match U[i]? with
 |some (some (.lst os))=>(fY os).map λds=>(ds,U)
 |_=>none:=rfl
theorem nv(U:Gm):cy [] U=([],U):=rfl
theorem ql(i:Nat)(aL:List Nat)(U:Gm):cy (i::aL) U=((U[i]?).join::(cy aL (U.set i none)).1,(cy aL (U.set i none)).2):=rfl
theorem ny(x U:Gm):sH [] x U=U:=by cases x <;> rfl
theorem qm(i:Nat)(aL:List Nat)(x:Option O)(Ui U:Gm):sH (i::aL) (x::Ui) U=(sH aL Ui U).set i x:=rfl
theorem gw(M:GM)(fs:GA)(U:Gm):dX M fs U=(fs U).bind λp=>(fD p.2 p.1).bind λos=>(M ((O.dl os).map .Y)).bind λr=>match r.1 with
 |.Y d=>(mM d).bind λ_=>some (.own (.Y d),p.2)
 |_=>none:=rfl
theorem ka(a:Int):mM (.int a)=some (.int a):=rfl
theorem Ib(a:Str):mM (.str a)=some (.str a):=rfl
theorem tO(a:Bool):mM (.bl a)=some (.bl a):=rfl
theorem kO(n:Nat)(a:Int):eK n (.int a)=true:=by cases n <;> rfl
theorem oF(n:Nat)(a:Str):eK n (.str a)=true:=by cases n <;> rfl
theorem kR(a b:Int):bb (.int a) (.int b)=(a == b):=by unfold bb;rfl
theorem qC(a b:Str):bb (.str a) (.str b)=(a == b):=by unfold bb;rfl
end L2
namespace L2
open PySem PySem.Spec PyProof.Rows
section
variable {X:Cx} {pins:List (Addr×Obj)} {s:Shared} {Z:St} {H:Hp}
theorem W5(I:Inv X pins Z H s){n m:Nat}{A:Around}{x y:V}{u v:Value}{d e:D}(rd:au X.K H [x] [d])(re:au X.K H [y] [e])(od:eK n d=true)(oe:eK m e=true)(ru:RelV x u)(rv:RelV y v)(hu:A.units+n < cLine):SeqAt.RcNeAt A s u v (!bb d e):=by
 have c9:A.units < cLine:=by lia
 have s1:=Em I rd ru od;have s2:=Em I re rv oe;cases s1 with
 |none=>
  cases s2 with
  |none=>
   simp only[bb];exact SeqAt.RcNeAt.none_none
  |bool a2=>
   simp only[bb];exact SeqAt.RcNeAt.none_bool a2
  |int a2 t2=>
   simp only[bb];exact SeqAt.RcNeAt.none_int a2 t2
  |str a2 t2=>
   simp only[bb];exact SeqAt.RcNeAt.none_str a2 t2
  |list l2 v2 r2=>
   simp only[bb];exact SeqAt.RcNeAt.none_list l2 c9
  |tuple l2 v2 r2=>
   simp only[bb];exact SeqAt.RcNeAt.none_tuple l2 c9
 |bool a1=>
  cases s2 with
  |none=>
   simp only[bb];exact SeqAt.RcNeAt.bool_none a1
  |bool a2=>
   simp only[bb];exact SeqAt.RcNeAt.bool_bool a1 a2
  |int a2 t2=>
   simp only[bb];exact SeqAt.RcNeAt.bool_int a1 a2 t2
  |str a2 t2=>
   simp only[bb];exact SeqAt.RcNeAt.bool_str a1 a2 t2
  |list l2 v2 r2=>
   simp only[bb];exact SeqAt.RcNeAt.bool_list a1 l2 c9
  |tuple l2 v2 r2=>
   simp only[bb];exact SeqAt.RcNeAt.bool_tuple a1 l2 c9
 |int a1 t1=>
  cases s2 with
  |none=>
   simp only[bb];exact SeqAt.RcNeAt.int_none a1 t1
  |bool a2=>
   simp only[bb];exact SeqAt.RcNeAt.int_bool a1 t1 a2
  |int a2 t2=>
   simp only[bb];exact SeqAt.RcNeAt.int_int a1 t1 a2 t2
  |str a2 t2=>
   simp only[bb];exact SeqAt.RcNeAt.int_str a1 t1 a2 t2
  |list l2 v2 r2=>
   simp only[bb];exact SeqAt.RcNeAt.int_list a1 t1 l2 c9
  |tuple l2 v2 r2=>
   simp only[bb];exact SeqAt.RcNeAt.int_tuple a1 t1 l2 c9
 |str a1 t1=>
  cases s2 with
  |none=>
   simp only[bb];exact SeqAt.RcNeAt.str_none a1 t1
  |bool a2=>
   simp only[bb];exact SeqAt.RcNeAt.str_bool a1 t1 a2
  |int a2 t2=>
   simp only[bb];exact SeqAt.RcNeAt.str_int a1 t1 a2 t2
  |str a2 t2=>
   simp only[bb];exact SeqAt.RcNeAt.str_str a1 t1 a2 t2
  |list l2 v2 r2=>
   simp only[bb];exact SeqAt.RcNeAt.str_list a1 t1 l2 c9
  |tuple l2 v2 r2=>
   simp only[bb];exact SeqAt.RcNeAt.str_tuple a1 t1 l2 c9
 |list l1 v1 r1=>
  cases s2 with
  |none=>
   simp only[bb];exact SeqAt.RcNeAt.list_none l1 c9
  |bool a2=>
   simp only[bb];exact SeqAt.RcNeAt.list_bool a2 l1 c9
  |int a2 t2=>
   simp only[bb];exact SeqAt.RcNeAt.list_int a2 t2 l1 c9
  |str a2 t2=>
   simp only[bb];exact SeqAt.RcNeAt.list_str a2 t2 l1 c9
  |list l2 v2 r2=>
   rename_i a aG ws es b gG xS lE
   obtain⟨n',rfl,rQ⟩:=yl od;obtain⟨m',rfl,rR⟩:=yl oe;have la:=v1.length;have lb:=v2.length;have J4:=r1.length;have J5:=r2.length;simp only[bb];by_cases hl:es.length=lE.length
   ·rw[Ad aG.toArray.size (by simp only[eI];lia) (by simp only[eI];lia)]
    refine SeqAt.RcNeAt.lists (A:=A) l1 l2 (by simp only[eI];lia) c9 λj h1 h2=>?_
    obtain⟨x1,q1,q2,q3⟩:=uS r1 v1 h1;obtain⟨y1,p1,p2,p3⟩:=uS r2 v2 h2;exact(AL I n' m' q2 p2 (uN rQ q3) (uN rR p3) q1 p1 (by show A.units+1+n' < cLine;lia)).1
   ·rw[Ab hl];exact SeqAt.RcNeAt.lists_lengths (A:=A) l1 l2 (by simp only[eI,bne_iff_ne,ne_eq];lia) c9
  |tuple l2 v2 r2=>
   simp only[bb];exact SeqAt.RcNeAt.list_tuple l1 l2 c9
 |tuple l1 v1 r1=>
  cases s2 with
  |none=>
   simp only[bb];exact SeqAt.RcNeAt.tuple_none l1 c9
  |bool a2=>
   simp only[bb];exact SeqAt.RcNeAt.tuple_bool a2 l1 c9
  |int a2 t2=>
   simp only[bb];exact SeqAt.RcNeAt.tuple_int a2 t2 l1 c9
  |str a2 t2=>
   simp only[bb];exact SeqAt.RcNeAt.tuple_str a2 t2 l1 c9
  |list l2 v2 r2=>
   simp only[bb];exact SeqAt.RcNeAt.tuple_list l1 l2 c9
  |tuple l2 v2 r2=>
   rename_i a aG ws es b gG xS lE
   obtain⟨n',rfl,rQ⟩:=ym od;obtain⟨m',rfl,rR⟩:=ym oe;have la:=v1.length;have lb:=v2.length;have J4:=r1.length;have J5:=r2.length;have z:=SeqAt.RcNeAt.tuples (A:=A) (e:=λj=>bb (es.getD j .aI) (lE.getD j .aI)) l1 l2 c9 λj h1 h2=>by
    obtain⟨x1,q1,q2,q3⟩:=uS r1 v1 h1;obtain⟨y1,p1,p2,p3⟩:=uS r2 v2 h2;exact(AL I n' m' q2 p2 (uN rQ q3) (uN rR p3) q1 p1 (by show A.units+1+n' < cLine;lia)).1
   simp only[bb];by_cases hl:es.length=lE.length
   ·rw[Ad aG.toArray.size (by simp only[eI];lia) (by simp only[eI];lia)]
    have e1:gG.toArray.size=aG.toArray.size:=by simp only[eI];lia
    rw[e1,KJ,beq_self_eq_true,Bool.and_true] at z;exact z
   ·rw[Ab hl];have e1:(aG.toArray.size == gG.toArray.size)=false:=by rw[beq_eq_false_iff_ne];simp only[eI];lia
    rw[e1,KI] at z;exact z
end
section
variable {X:Cx} {K:L2.FG}
def Cv(K:L2.FG):R2:=λx y H Q=>∃d e,au K H [x] [d]/\au K H [y] [e]/\eK 40 d=true/\eK 40 e=true/\Q (.bl (!bb d e)) H
theorem W6(K:L2.FG)(hu:X.A.units+40 < cLine)(hK:X.K=K:=by rfl):fH X (compareOp .NotEq) (Cv K):=by
 subst hK;intro pins s Z H x y v u Q I rx ry h;obtain⟨d,e,r1,r2,o1,o2,q⟩:=h;exact(W5 I r1 r2 o1 o2 rx ry hu) X.prog X.w _ _ ⟨.bl _,H,I,rfl,q⟩
noncomputable def rP:List O->Option O
 |[a,b]=>if eK 40 a.d=true/\eK 40 b.d=true then some (.Y (.bl (!bb a.d b.d))) else none
 |_=>none
theorem W7:cD K (mh (Cv K)) rP:=by
 intro F H vs os o Q le eD e res;unfold rP at e;split at e
 ·split at e
  ·cases e;obtain⟨x,y,B,C,rfl,h1,h2⟩:=eD.two
   rename_i hh
   exact⟨_,_,rfl,_,_,nz le h1,nz le h2,hh.1,hh.2,res.flat rfl⟩
  ·cases e
 ·cases e
end
end L2
namespace L2
open PySem
variable{g:GG}{ct:GT}{ce:GE}
noncomputable def Ah(g:GG)(ct:GT)(ce:GE)(d:D)(U:Gm):Option (Option R×Gm):=(g d U).bind λU1=>(ct U1).bind λp=>if p.1=true then(ce p.2).bind λq=>some (some q.1,q.2) else some (none,p.2)
theorem LS{d:D}{ds:List D}{U U':Gm}{os:List O}{r:Option R}(h:Ah g ct ce d U=some (r,U')):
  compLoop g ct ce (d::ds) U os=match r with
   |some r=>(eY [r]).bind λvm=>if os.length < 1000000 then compLoop g ct ce ds U' (os++vm) else none
   |none=>compLoop g ct ce ds U' os:=by
 rw[Es];unfold Ah at h;cases e1:g d U with
 |none=>rw[e1] at h;cases h
 |some U1=>
  rw[e1] at h;rw[jJ] at h ⊢;cases e2:ct U1 with
  |none=>rw[e2] at h;cases h
  |some p=>
   rw[e2] at h;rw[jJ] at h ⊢;by_cases hp:p.1=true
   ·rw[if_pos hp] at h ⊢;cases e3:ce p.2 with
    |none=>rw[e3] at h;cases h
    |some q=>rw[e3] at h;cases h;rfl
   ·rw[if_neg hp] at h ⊢;cases h;rfl
theorem wa{α:Type}{g:GG}{ct:GT}{ce:GE}(St:Gm->Prop)(enc:α->D)(p:α->Bool)(val:α->D):∀(xs:List α) (acc:List D) (U:Gm),St U->acc.length+xs.length < 1000000->
  (∀x∈xs,∀U,St U->∃U',Ah g ct ce (enc x) U=some (if p x=true then some (.own (.Y (val x))) else none,U')/\St U')->
  ∃U',St U'/\compLoop g ct ce (xs.map enc) U (acc.map .Y)=some ((acc++(xs.filter p).map val).map .Y,U')
 |[],acc,U,hS,_,_=>⟨U,hS,by rw[sd,IG,List.filter_nil,sd,d_]⟩
 |x::xs,acc,U,hS,hl,h=>by
  rw[jV] at hl;obtain⟨U1,e1,s1⟩:=h x (.head _) U hS;by_cases hp:p x=true
  ·rw[if_pos hp] at e1;rw[cv,LS e1];obtain⟨U2,s2,e2⟩:=wa St enc p val xs (acc++[val x]) U1 s1 (by rw[gK,s9];lia) λy hy=>h y (.tail _ hy)
   refine⟨U2,s2,?_⟩;show(if(acc.map O.Y).length < 1000000 then compLoop g ct ce (xs.map enc) U1 (acc.map O.Y++[O.Y (val x)]) else none)=_
   rw[if_pos (by rw[bB];lia),List.filter_cons_of_pos hp,cv,show acc++val x::(xs.filter p).map val=acc++[val x]++(xs.filter p).map val by simp,<-e2,dh]
   rfl
  ·rw[if_neg hp] at e1;rw[cv,LS e1];obtain⟨U2,s2,e2⟩:=wa St enc p val xs acc U1 s1 (by lia) λy hy=>h y (.tail _ hy)
   refine⟨U2,s2,?_⟩;rw[List.filter_cons_of_neg hp];exact e2
theorem tN{α:Type}(St:Gm->Prop)(enc:α->D)(val:α->D)(xs:List α)(U:Gm)(hS:St U)(hl:xs.length < 1000000)
  (h:∀x∈xs,∀U,St U->∃U',Ah g ct ce (enc x) U=some (some (.own (.Y (val x))),U')/\St U'):∃U',St U'/\compLoop g ct ce (xs.map enc) U []=some ((xs.map val).map .Y,U'):=by
 obtain⟨U',s,e⟩:=wa St enc (λ_=>true) val xs [] U hS (by rw[vM];lia) λx hx U hU=>h x hx U hU
 refine⟨U',s,?_⟩;rw[iA,List.filter_eq_self.mpr (λ_ _=>rfl)] at e
 exact e
theorem mB(g:GG)(ct:GT)(ce:GE)(d:D)(U:Gm):Ah g ct ce d U=(g d U).bind λU1=>(ct U1).bind λp=>if p.1=true then(ce p.2).bind λq=>some (some q.1,q.2) else some (none,p.2):=rfl
theorem N6(a b:Int):rP [.Y (.int a),.Y (.int b)]=some (.Y (.bl (!(a == b)))):=by
 unfold rP;simp[O.d,eK,bb]
theorem qo{α:Type}{g:GG}{f:GS}(enc:α->D)(P:List α->Gm->Prop):∀(xs pre:List α) (U:Gm),P pre U->
  (∀q x post U,xs=q++x::post->P (pre++q) U->∃U2,(g (enc x) U).bind f=some (.nx,U2)/\P (pre++q++[x]) U2)->∃U',iD g f (xs.map enc) U=some (.nx,U')/\P (pre++xs) U'
 |[],pre,U,h,_=>⟨U,rfl,by rw[d_];exact h⟩
 |x::xs,pre,U,h,st=>by
  obtain⟨U2,h2,h3⟩:=st [] x xs U rfl (by rw[d_];exact h)
  rw[d_] at h3;obtain⟨U',h4,h5⟩:=qo enc P xs (pre++[x]) U2 h3 λq y post U e p=>by
   obtain⟨U2,b,c⟩:=st (x::q) y post U (by rw[e];rfl) (by rw[show pre++x::q=pre++[x]++q by simp];exact p)
   exact⟨U2,b,by rw[show pre++[x]++q++[y]=pre++x::q++[y] by simp];exact c⟩
  refine⟨U',?_,by rw[show pre++x::xs=pre++[x]++xs by simp];exact h5⟩
  rw[cv,v_];cases q:g (enc x) U with
  |none=>rw[q] at h2;cases h2
  |some U1=>
   rw[q] at h2;have h2:f U1=some (.nx,U2):=h2;show(f U1).bind _=_;rw[h2];exact h4
theorem DO{α:Type}{f:GS}(enc:α->D)(P:Gm->Prop)(xs:List α)(U:Gm)(h:P U)(st:∀x∈xs,∀U,P U->∃U2,(g (enc x) U).bind f=some (.nx,U2)/\P U2):∃U',iD g f (xs.map enc) U=some (.nx,U')/\P U':=
 qo enc (λ_ U=>P U) xs [] U h λq x post U e p=>st x (by rw[e];simp) U p
theorem yg(lo:Int)(n:Nat):ig lo n=(List.range n).map λ(k:Nat)=>D.int (lo+(k:Int)):=rfl
end L2
namespace L2
open PySem PySem.Spec PyProof.Rows
section
variable {X:Cx} {K:L2.FG} {fa fk fv:GE} {f:GS} {m:List Bool} {W:Option XW} {tg l:Expr} {t:TG} {gg:GG} {body:List Stmt} {p0 p1 pos:Pos}
end
variable{L:List Addr}{t' x1 n:Nat}{P:Program}{w:World}{K:L2.FG}{elts:List Expr}{pos:Pos}{it l:Addr}{Src:Hp->Prop}{Z:St}{H:Hp}
section
variable {X:Cx} {K:L2.FG} {fo f:GE} {fs:GA} {g:List O->Option O} {r:V->List V->Hp->VK->Prop} {o e:Expr} {es:List Expr} {name:Str} {id:String} {apos aV pos:Pos}
def lL(r:V->List V->Hp->VK->Prop):List V->Hp->VK->Prop:=λvs H Q=>∃x xs,vs=x::xs/\r x xs H Q
noncomputable def lP:List D->Option (List Str)
 |[]=>some []
 |.str x::ds=>(lP ds).map λxs=>x::xs
 |_=>none
theorem LU:∀xs:List Str,lP (xs.map .str)=some xs
 |[]=>rfl
 |i::is=>by rw[cv];show(lP (is.map .str)).map _=_;rw[LU is];rfl
theorem LV:∀{ds:List D} {xs:List Str},lP ds=some xs->ds=xs.map .str
 |[],xs,e=>by cases e;rfl
 |d::ds,xs,e=>by
  cases d with
  |str i=>
   obtain⟨js,e1,e2⟩:=jP.mp (show(lP ds).map _=some xs from e);rw[<-e2,LV e1];rfl
  |_=>cases e
theorem Lh{F:Hp}:∀{ws:List V} {xs:List Str},au K F ws (xs.map .str)->ws=xs.map .str
 |[],[],_=>rfl
 |[],_::_,h=>by have:=h.length;simp at this
 |_::_,[],h=>by have:=h.length;simp at this
 |w::ws,i::is,h=>by
  rw[cv] at h;have h1:=h.inv.1;have h2:=Lh h.inv.2;rw[h2,cv];cases h1 with
  |flat e _=>cases e;rfl
theorem GJ:∀{xs:List Str} {aG:List Value},Vals (xs.map V.str) aG->∃ps:List (Str×Tok),aG=ps.map (λp=>Value.str p.1 p.2)/\ps.map (·.1)=xs
 |[],aG,h=>by
  rw[sd] at h;cases h;exact⟨[],rfl,rfl⟩
 |i::is,aG,h=>by
  rw[cv] at h;cases h with
  |cons r t=>
   obtain⟨ps,e1,e2⟩:=GJ t;obtain⟨tk,rfl⟩:=r;exact⟨(i,tk)::ps,by rw[e1];rfl,by rw[cv,e2]⟩
end
section
variable {X:Cx} {pins:List (Addr×Obj)} {Z:List (Option V)} {H:Hp} {s:Shared} {h':Heap}
theorem Inv.uB{T:Addr}{o:HO}(I:Inv X pins Z H s)(k:∀b ob,b∉L->s.heap.get? b=some ob->h'.get? b=some ob)(hL:∀b∈L,jz X pins H b)(hT:s.heap.objs.size<=T)
  (new:cb X.prog X.w (upd H T o) h' T o):Inv X pins Z (upd H T o) { s with heap:=h',toks:=t'}:=by
 have hn:H T=none:=I.cx.fresh hT;have nL:∀b u,H b=some u->b∉L:=λb u e z=>by rw[(hL b z).1] at e;cases e
 have nT:∀b u,H b=some u->b≠T:=λb u e z=>by rw[z,hn] at e;cases e
 refine I.step (g':=s.gens) (d':=s.drawn) (ch:=L) (λb hb=>?_) (λb ob _ _ hc e _=>k b ob hc e) (λb ob _ _ hc e _=>⟨ob.slots,k b ob hc e⟩) (λb ob _ e n=>?_)
  (λb ob hc e=>⟨ob,k b ob hc e⟩) (λb xs e=>?_) (λb ob u e=>?_) (λb ps e=>⟨#[],?_⟩) (λm hm=>?_) (λb u e=>?_) I.bare
 ·obtain⟨f0,f1,f2,f3,f4,f5⟩:=hL b hb;exact⟨f3,f1,f4,f5⟩
 ·rw[cK (λz=>by subst z;exact absurd (i_ (fF e) hT) (o8 _))];exact n
 ·rw[cK (nT b _ e)];exact e
 ·rw[cK (nT b _ e)];exact e
 ·rw[cK (nT b _ e),e];simp
 ·obtain⟨ob,es,ep,ho,r⟩:=hm;exact⟨ob,es,ep,k _ ob (λz=>(hL _ z).2.1 rfl) ho,r⟩
 ·by_cases hb:b=T
  ·subst hb;rw[iU] at e;cases e;exact new
  ·rw[cK hb] at e;refine(I.cx b u e).nj (λc v hc q=>k c v ?_ q) (λc q=>by rw[cK (nT c _ q)];exact q) λc xs q=>by rw[cK (nT c _ q)];exact q
   rcases hc with z|z
   ·rw[z];exact nL b u e
   ·exact nL c _ z
theorem Inv.CS(I:Inv X pins Z H s)(k:∀b ob,b∉L->s.heap.get? b=some ob->h'.get? b=some ob)(hL:∀b∈L,jz X pins H b):Inv X pins Z H { s with heap:=h',toks:=t'}:=by
 have nL:∀b u,H b=some u->b∉L:=λb u e z=>by rw[(hL b z).1] at e;cases e
 refine I.step (g':=s.gens) (d':=s.drawn) (ch:=L) (λb hb=>?_) (λb ob _ _ hc e _=>k b ob hc e) (λb ob _ _ hc e _=>⟨ob.slots,k b ob hc e⟩) (λb ob _ e n=>n)
  (λb ob hc e=>⟨ob,k b ob hc e⟩) (λb xs e=>e) (λb ob u e=>e) (λb ps e=>⟨#[],by rw[e];simp⟩) (λm hm=>?_) (λb u e=>?_) I.bare
 ·obtain⟨f0,f1,f2,f3,f4,f5⟩:=hL b hb;exact⟨f3,f1,f4,f5⟩
 ·obtain⟨ob,es,ep,ho,r⟩:=hm;exact⟨ob,es,ep,k _ ob (λz=>(hL _ z).2.1 rfl) ho,r⟩
 ·refine(I.cx b u e).nj (λc v hc q=>k c v ?_ q) (λc q=>q) λc xs q=>q
  rcases hc with z|z
  ·rw[z];exact nL b u e
  ·exact nL c _ z
end
noncomputable def tq(Src:Hp->Prop)(n:Nat)(val:Nat->List V->Prop):It:=
 ⟨λi H=>i < n/\Src H,λi H x H'=>∃p ws,x=.ref p/\H p=none/\val i ws/\H'=upd H p (.tup ws),λi H=>n<=i/\Src H⟩
theorem LW{FP wr:List Addr}{val:Nat->List V->Prop}{tn:Nat->Heap->Prop}(mem:it∈FP)(sub:∀b∈wr,b∈FP)
  (obj:∀i h,tn i h->∀b∈FP,∃o,h.get? b=some o/\∀v,o.data≠.cell v) (keep:∀i h h',tn i h->(∀b∈FP,∀o,h.get? b=some o->h'.get? b=some o)->tn i h')
  (hW:∀(X:Cx),X.prog=P->X.w=w->X.K=K->X.calm=true->∀(pins:List (Addr×Obj)) (s:Shared) (Z:St) (H:Hp),Inv X pins Z H s->Src H->∃(Jn:List Addr) (Pt:Nat->Array Value->Prop) (St:Nat->Heap->Prop) (FO:Nat->Addr->Heap->Prop),
   WalksT P w X.A it Jn wr n Pt St FO/\(∀i,tn i s.heap->St i s.heap)/\(∀i h,St i h->tn i h)/\∀i vals,Pt i vals->∃ws,val i ws/\Vals ws vals.toList/\ws.length<=10)
  (self:∀(A:Around) (i:Nat) (s:Shared) (Q:Value->Shared->Prop) (E:Value->Shared->Prop),tn i s.heap->Q (.ref it) s->wpAny (model P w) A (pyIter (.ref it)) Q E s) :
  Turn P w K (.Tuple elts x1 pos) (tq Src n val) FP it (λi h=>i<=n/\tn i h) where
 mem:=mem
 obj:=λi h st=>obj i h st.2
 keep:=λi h h' st k=>⟨st.1,keep i h h' st.2 k⟩
 item:=by
  intro X hP hw hK hc i pins s Z H E I hf st hg;obtain⟨Jn,Pt,St,FO,W,toSt,Cp,pv⟩:=hW X hP hw hK hc pins s Z H I hg.2;subst hP hw hK;refine W.item i s _ E hg.1 (toSt i st.2) λT vals h1 tk YX hsz Jx BK Zd=>?_
  refine⟨.ref T,rfl,W.go elts x1 pos i T _ _ E BK λh2 YZ EZ=>?_⟩
  obtain⟨ws,hv,rv,E4⟩:=pv i vals YX;have Y0:IsTup h2 T vals:=by
   obtain⟨o,e,c⟩:=Jx;exact⟨o,EZ T o (W.apart i T h1 BK) e,c⟩
  have hn:H T=none:=I.cx.fresh hsz;have I2:Inv X pins Z (upd H T (.tup ws)) { s with heap:=h2,toks:=tk}:=I.uB (L:=wr) (λb ob hb e=>EZ b ob hb (Zd b ob hb e)) (λb hb=>hf b (sub b hb)) hsz ⟨by rw[sizeLine_eq];lia,vals.toList,rv,by simpa using Y0⟩
  refine⟨.ref T,_,I2,rfl,⟨T,ws,rfl,hn,hv,rfl⟩,⟨by have:=hg.1;lia,Cp _ _ YZ⟩,λb hb=>?_⟩
  have Y3:=(hf b hb).1;rw[cK]
  ·exact Y3
  ·intro z;subst z;obtain⟨o,e,_⟩:=obj i s.heap st.2 b hb;exact absurd (i_ (fF e) hsz) (o8 _)
 done:=by
  intro X hP hw hK hc i pins s Z H E I hf st hg;obtain⟨Jn,Pt,St,FO,W,toSt,Cp,pv⟩:=hW X hP hw hK hc pins s Z H I hg.2;subst hP hw hK;have ei:i=n:=by have:=hg.1;have:=st.1;lia
  subst ei;exact W.done s _ E (toSt i st.2) λh2 tk hk=>⟨rfl,I.CS (L:=wr) (λb ob hb e=>hk b ob hb e) λb hb=>hf b (sub b hb)⟩
 self:=λA i s Q E st h=>self A i s Q E st.2 h
theorem TB{val:Nat->List V->Prop}{g:TG}{tb:TS}{D:Ends}(Pv:Nat->St->Hp->Prop)(h0:Pv 0 Z H)(hl:∀i Z H,i<=n->Pv i Z H->Src H)
  (hs:∀i p ws Z H,i < n->H p=none->val i ws->Pv i Z H->g (.ref p) Z (upd H p (.tup ws)) λZ2 H2=>tb { D with nx:=Pv (i+1),ct:=Pv (i+1),bk:=D.nx} Z2 H2) (hd:∀Z H,Pv n Z H->D.nx Z H) :
  ∃W:Nat->Nat->St->Hp->Prop,(∃m,W 0 m Z H)/\∀i m Z H,W i m Z H->
   ((tq Src n val).stop i H/\D.nx Z H)\/((tq Src n val).go i H/\∃N:St->Hp->Prop,(∀Z' H',N Z' H'->∃m',m' < m/\W (i+1) m' Z' H')/\∀x H',(tq Src n val).vQ i H x H'->g x Z H' λZ2 H2=>tb { D with nx:=N,ct:=N,bk:=D.nx} Z2 H2):=by
 refine⟨λi m Z H=>m=n - i/\i<=n/\Pv i Z H,⟨n,by simp,mE _,h0⟩,?_⟩
 rintro i m Z H ⟨rfl,hi,p⟩;have q:=hl i Z H hi p;by_cases fq:i < n
 ·refine .inr ⟨⟨fq,q⟩,Pv (i+1),λZ' H' p'=>⟨n - (i+1),by lia,rfl,fq,p'⟩,λx H' y=>?_⟩
  obtain⟨pp,ws,rfl,hn,hv,rfl⟩:=y;exact hs i pp ws Z H fq hn hv p
 ·have e:i=n:=by lia
  subst e;exact .inl ⟨⟨cP _,q⟩,hd Z H p⟩
theorem TC{h:Heap}{a:Addr}{i:Nat}(p:h.IsListIter a l i):∃o,h.get? a=some o/\∀v,o.data≠.cell v:=by
 obtain⟨o,e,_,d⟩:=p;exact⟨o,e,λv z=>by rw[d] at z;cases z⟩
def CT(xs:List V)(i:Nat)(ws:List V):Prop:=∃x,xs[i]?=some x/\ws=[.int i,x]
theorem RP{e:Addr}(n1:e≠it)(n2:l≠e)(n3:l≠it)(xs:List V):
  Turn P w K (.Tuple elts x1 pos) (tq (λH=>dq K H l xs) xs.length (CT xs)) [e,it] e (λi h=>i<=xs.length/\((∃old,IsEnum h e it (i:Int) old)/\h.IsListIter it l i)):=by
 refine LW (FP:=[e,it]) (wr:=[e,it]) (by simp) (λb hb=>hb) (λi h st b hb=>?_) (λi h h' st k=>?_) (λX hP hw hK hc pins s Z H I hS=>?_) (λA i s Q E st h=>?_)
 ·obtain⟨⟨old,s1⟩,s2⟩:=st;simp only[dZ,vN,or_false] at hb;rcases hb with rfl|rfl
  ·exact⟨_,s1,λv z=>by cases z⟩
  ·exact TC s2
 ·obtain⟨⟨old,s1⟩,s2⟩:=st;exact⟨⟨old,k e (by simp) _ s1⟩,s2.at λo q=>k it (by simp) o q⟩
 ·subst hP hw hK;obtain⟨ue,Kg,p1,_⟩:=I.list hS;have e1:=Kg.length;have W:=WalksT.enumerate (prog:=X.prog) (w:=X.w) (A:=X.A) (I.ok.hd hc) e it l n1 n2 n3 ue.toArray;rw[show ue.toArray.size=xs.length by rw[eI,<-e1]] at W
  refine⟨_,_,_,_,W,λi st=>?_,λi h st=>?_,λi vals hp=>?_⟩
  ·exact⟨st.1,st.2,p1.isList⟩
  ·exact⟨st.1,st.2.1⟩
  ·obtain⟨t,u,hu,rfl⟩:=hp;have hu:ue[i]?=some u:=by simpa using hu
   have y7:i < xs.length:=by have:=(iq.mp hu).1;lia
   obtain⟨u',rH,ru⟩:=Kg.get (jW y7);rw[hu] at rH;cases rH;exact⟨[.int i,xs[i]],⟨_,jW y7,rfl⟩,.cons ⟨t,rfl⟩ (.cons ru .nil),by show 2<=10;decide⟩
 ·obtain⟨old,s1⟩:=st.1;exact wpAny_pyIter_enum s1 h
def B4(K:L2.FG)(ta:TA):TI:=λZ H R=>ta Z H λvs H1=>∃a xs,vs=[.ref a]/\dq K H1 a xs/\R (tq (λH=>dq K H a xs) xs.length (CT xs)) H1
theorem Vt{X:Cx}{i6:Pos}{a:Expr}{ta:TA}{p:Pos}(hg:Gl X "enumerate")(hm:X.mg "enumerate"=none)(ha:PA X [a] ta)(hs:starEach [a] X.env=[(false,eval a X.env)]:=by rfl):
  PI X (.Tuple elts x1 i6) (.Call (.Name "enumerate" p) [a] [] pos) (B4 X.K ta):=by
 intro pins s Z H R I h;refine Call_ (wo I hg hm PyProof.Rows.Boot.enumerate (PyProof.Rows.callWith_type1 (ck (ha pos pins s Z H _ I h) λus s1 hh=>?_) hs rfl))
 obtain⟨vs,H1,I1,r1,q1⟩:=hh;obtain⟨l1,xs,e,Zr,q⟩:=q1;subst e;cases r1 with
 |cons r rr=>
  cases rr;cases r;obtain⟨ue,Kg,p1,_⟩:=I1.list Zr;refine call_enumerate_list p1.isList λh' z1 z2 z3 z4=>?_
  have L1:l1 < s1.heap.objs.size:=by obtain⟨o,n,e,_⟩:=p1;exact fF e
  refine wpAny_pyIter_enum z1 ?_;refine⟨s1.heap.objs.size+1,[s1.heap.objs.size+1,s1.heap.objs.size],_,_,H1,rfl,I1.kept (t':=s1.toks) z4,RP (e:=s1.heap.objs.size+1) (it:=s1.heap.objs.size) (l:=l1) (CV (by lia)) (i8 (i_ L1 (Nat.le_add_right _ _))) (i8 L1) xs,⟨mE _,⟨_,z1⟩,z2⟩,λb hb=>?_,q⟩
  simp only[dZ,vN,or_false] at hb;have lq:s1.heap.objs.size<=b:=by rcases hb with rfl|rfl <;> lia
  exact I1.nW lq (I1.cx.fresh lq)
section
variable {X:Cx} {K:L2.FG} {fa fb:GE} {f:GS} {m:List Bool} {W:Option XW} {l l':Expr} {elts:List Expr} {x1:Nat} {i6:Pos} {t:TG} {gg:GG} {body:List Stmt} {p0 p1 pos:Pos}
theorem Vu{F:Hp}{U:Gm}{A:List Addr}{p:Addr}{ws:List V}(k:OK K F H Z U A)(hn:H p=none):OK K (upd F p (.tup ws)) (upd H p (.tup ws)) Z U A/\Ext F H A (upd F p (.tup ws)) (upd H p (.tup ws)) A:=by
 have hF:F p=none:=k.le.free hn;have np:∀a∈A,a≠p:=λa m z=>k.os.there a m (by rw[z];exact hn)
 refine⟨⟨λa o e=>?_,k.os.keep (nu hF) λa m o e=>by rw[cK (np a m)];exact e,k.nd,λa m=>by rw[cK (np a m)];exact k.fr a m⟩,⟨nu hF,λa o e _=>nu hn a o e,λa h z=>h ((nu hn).free z),λa h=>?_,λa m=>.inl m,.same (nu hn)⟩⟩
 ·by_cases z:a=p
  ·subst z;rw[iU] at e ⊢;exact e
  ·rw[cK z] at e ⊢;exact k.le a o e
 ·by_cases z:a=p
  ·subst z;exact .inr (.inr hn)
  ·rw[cK z] at h;exact .inl h
theorem LI.tup{m:List Bool}{W:Option XW}{gg:GG}{f:GS}{t:TG}{F1 H1:Hp}{Z:St}{ds es:List D}{i:Nat}{E:Ends}{fl:Fl}{U':Gm}{p:Addr}{us:List V}(q:LI K m W gg f E F1 fl U' ds i Z H1)(ht:gX K m t gg)(hn:H1 p=none)(hd:ds[i]?=some (.tup es))(r:au K F1 us es):
  t (.ref p) Z (upd H1 p (.tup us)) λZ2 H2=>tS K m W f { E with nx:=LI K m W gg f E F1 fl U' ds (i+1),ct:=LI K m W gg f E F1 fl U' ds (i+1),bk:=E.nx} Z2 H2:=by
 obtain⟨F',A',Uc,k',e',w',s'⟩:=q;obtain⟨k2,x2⟩:=Vu (ws:=us) k' hn;have s2:aH F1 (upd F' p (.tup us)):=s'.trans x2.ff;obtain⟨hi,he⟩:=iq.mp hd;rw[Ft hi,he] at e';exact LK ht k2 (.tup (.inl (.inl iU)) (r.mono s2) .nil) e' (w'.step x2 Kept.refl) λF2 H2 Z2 U3 A2 x3 k3 e3 w3=>⟨F2,A2,U3,k3,e3,w3,s2.trans x3.ff⟩
noncomputable def jL(ds:List D):List D:=(List.range ds.length).zipWith (λ(i:Nat) d=>D.tup [.int i,d]) ds
noncomputable def Eu(fa:GE)(gg:GG)(f:GS):GS:=λU=>(gF fa U).bind λp=>match p.1 with
 |.own (.Y (.lst ds))=>iD gg f (jL ds) p.2
 |_=>none
theorem Vv(fa:GE)(gg:GG)(f:GS)(U:Gm):Eu fa gg f U=(gF fa U).bind λp=>match p.1 with
 |.own (.Y (.lst ds))=>iD gg f (jL ds) p.2
 |_=>none:=rfl
theorem Vw(hp:PassesOwn (model X.prog X.w) X.A X.env X.xe)(hm:X.mg "enumerate"=none)(hi:PE X l (tG K fa))(hg:PG X (.Tuple elts x1 i6) t)(ht:gX K m t gg)(hb:jt X body (tS K m W f))(hc:X.calm=true:=by rfl)(rF:Gl X "enumerate":=by rfl)(sT:starEach [l] X.env=(false,eval l X.env)::starEach [] X.env:=by rfl)(JU:starEach [l] X.env=[(false,eval l X.env)]:=by rfl)(hK:X.K=K:=by rfl)(hs:∀x,foldedSetIterable (.Call (.Name "enumerate" p0) [l] [] p1) X.env x=pure x:=by intro _;rfl):PS X (.For (.Tuple elts x1 i6) (.Call (.Name "enumerate" p0) [l] [] p1) body [] pos) (tS K m W (Eu fa gg f)):=by
 subst hK;refine(Ek hp hc (Vt rF hm (aw (cW hi) aM sT) JU) hg hb hs).mono λDe Z H tt=>?_
 obtain⟨F,A,U,fl,U',k,e,w⟩:=tt;unfold Eu at e;obtain⟨⟨r1,U1⟩,q1,e'⟩:=cV.mp e;clear e;dsimp only at e';split at e'
 ·rename_i ds
  refine⟨F,A,U,[.own (.Y (.lst ds))],U1,k,by rw[bc,q1];rfl,λvs H1 pp=>?_⟩
  obtain⟨F1,A1,x,k1,hh⟩:=pp;have Zj:=hh.length;obtain⟨v1,rfl⟩:=OC Zj;obtain⟨Z4,st⟩:=LI.start k1 x w e';obtain⟨a,Kw,rfl,Pr,Po⟩:=M4 Z4;have Zf:=Po.length;refine⟨a,Kw,rfl,.inl (k1.le.rd Pr),TB (LI X.K m W gg f De F1 fl U' (jL ds)) st (λi Z' H' _ p=>.inl (p.same.rd Pr)) ?_ λZ' H' p=>p.fin (by unfold jL;rw[List.length_zipWith,uF,Zf,KJ];exact cP _)⟩
  rintro i p ws Z' H' fq hn ⟨u1,JW,rfl⟩ q;have y7:i < ds.length:=by lia
  obtain⟨y1,sV,Z8⟩:=Po.get (i:=i) (d:=ds[i]) (jW y7);rw[JW] at sV;cases sV;exact q.tup ht hn (by unfold jL;rw[List.getElem?_zipWith,Fu y7,jW y7]) (.flat rfl (.cons Z8 .nil))
 ·cases e'
end
section
variable {X:Cx} {K:L2.FG} {fa fo:GE} {fs:GA} {f:GS} {m:List Bool} {W:Option XW} {e o:Expr} {es:List Expr} {tg:Expr} {t:TG} {gg:GG} {pos apos aV:Pos} {name:Str} {xn:String} {g:List O->Option O} {r:V->List V->Hp->VK->Prop}
noncomputable def wz:List D->Option (List Bool)
 |[]=>some []
 |.bl b::ds=>(wz ds).map λbs=>b::bs
 |_=>none
theorem Lr:∀bs:List Bool,wz (bs.map .bl)=some bs
 |[]=>rfl
 |i::is=>by rw[cv];show(wz (is.map .bl)).map _=_;rw[Lr is];rfl
theorem Ls:∀{ds:List D} {bs:List Bool},wz ds=some bs->ds=bs.map .bl
 |[],bs,e=>by cases e;rfl
 |d::ds,bs,e=>by
  cases d with
  |bl i=>
   obtain⟨js,e1,e2⟩:=jP.mp (show(wz ds).map _=some bs from e);rw[<-e2,Ls e1];rfl
  |_=>cases e
theorem Lu{F:Hp}:∀{ws:List V} {bs:List Bool},au K F ws (bs.map .bl)->ws=bs.map .bl
 |[],[],_=>rfl
 |[],_::_,h=>by have:=h.length;simp at this
 |_::_,[],h=>by have:=h.length;simp at this
 |w::ws,i::is,h=>by
  rw[cv] at h;have h1:=h.inv.1;have h2:=Lu h.inv.2;rw[h2,cv];cases h1 with
  |flat e _=>cases e;rfl
noncomputable def Ew(q:List Bool->Bool):List O->Option O
 |[o]=>(df o).bind λds=>(wz ds).bind λbs=>some (.Y (.bl (q bs)))
 |_=>none
theorem TF(q:List Bool->Bool):cD K (λxs H Q=>∃(a:Addr) (bs:List Bool),xs=[.ref a]/\dq K H a (bs.map V.bl)/\Q (.bl (q bs)) H) (Ew q):=by
 intro F H vs os o Q le eD e res;unfold Ew at e;split at e
 ·obtain⟨ds,e1,e2⟩:=cV.mp e;obtain⟨bs,e3,e4⟩:=cV.mp e2;cases e4;obtain⟨x,B,rfl,h1⟩:=eD.one;obtain⟨a,ws,rfl,sq,ri⟩:=v9 le h1 e1;rw[Ls e3] at ri;have:=Lu ri;subst this;exact⟨a,bs,rfl,sq,res.flat rfl⟩
 ·cases e
theorem RQ(K:L2.FG)(hc:X.calm=true:=by rfl)(hK:X.K=K:=by rfl):cJ X (.builtin "all") (λxs H Q=>∃(a:Addr) (bs:List Bool),xs=[.ref a]/\dq K H a (bs.map V.bl)/\Q (.bl (bs.all id)) H):=hK ▸ RD hc
theorem RS(q:List Bool->Bool)(bs:List Bool):Ew q [.lst ((bs.map D.bl).map .Y)]=some (.Y (.bl (q bs))):=by
 show((df (.lst ((bs.map D.bl).map .Y))).bind λds=>(wz ds).bind λbs=>some (O.Y (.bl (q bs))))=_
 rw[WZ,jJ,Lr,jJ]
noncomputable def yC(g:List O->Option O)(fo:GE)(fs:GA):GE:=λU=>(fo U).bind λp=>match p.1 with
 |.own (.Y (.lst ds))=>(fs p.2).bind λq=>(fD q.2 q.1).bind λos=>(g (.Y (.lst ds)::os)).bind λo=>some (.own o,q.2)
 |_=>none
theorem TH(g:List O->Option O)(fo:GE)(fs:GA)(U:Gm):yC g fo fs U=(fo U).bind λp=>match p.1 with
 |.own (.Y (.lst ds))=>(fs p.2).bind λq=>(fD q.2 q.1).bind λos=>(g (.Y (.lst ds)::os)).bind λo=>some (.own o,q.2)
 |_=>none:=rfl
theorem TJ(ok:cD K (lL r) g){Q:VK}(t:tG K (yC g fo fs) Z H Q):zf K "list" r (tG K fo) (gZ K fs) Z H Q:=by
 obtain⟨F,A,U,rr,U',k,e,w⟩:=t;unfold yC at e;obtain⟨⟨r1,U1⟩,e1,e'⟩:=cV.mp e;clear e;dsimp only at e';split at e'
 ·rename_i ds
  obtain⟨⟨rs,U2⟩,e2,e3⟩:=cV.mp e';obtain⟨os,e4,e5⟩:=cV.mp e3;obtain⟨ob,e6,e7⟩:=cV.mp e5;cases e7;refine⟨F,A,U,_,U1,k,e1,λv H1 pp=>?_⟩
  obtain⟨F1,A1,x1,k1,hh⟩:=pp;obtain⟨B,C,h1,h2,h3⟩:=ai.one (Z:=Z) (U:=U1) k1.os;have rp:=sv h1;subst h3;obtain⟨k2,x2⟩:=k1.sub h2 (.aP (ly _ _));have kr:Fq K "list" v H1:=by
   cases rp with
   |flat z _=>cases z
   |lst sq ri _=>exact .inl ⟨rfl,_,.inl (k1.le.rd sq)⟩
  refine⟨kr,F1,C,U1,rs,_,k2,e2,λvs H2 p2=>?_⟩
  obtain⟨F2,A2,x3,k3,vd⟩:=p2;have p3:dW K F1 H1 C Z U2 rs vs H2:=⟨F2,A2,x3,k3,vd⟩;have hl:(vs.map some).length=(rs.map R.o).length:=by rw[bB,bB,vd.length]
  obtain⟨B3,C3,o1,o2,o3⟩:=ai.split hl k3.os;have eD:=yj o2 o1 vd e4;have res:Res K F2 H2 ob Q:=λv' H' Av s' w' nd fresh=>by
   obtain⟨B',kB,sub⟩:=k3.part hl;obtain⟨k4,x4⟩:=kB.push s' w' nd fresh;exact w v' H' ⟨F2,Av++B',(x1.trans x2).trans (x3.trans ((Ext.iX Ext.refl sub).trans x4)),k4,True.intro⟩
  obtain⟨y,ys,Jj,Kf⟩:=ok F2 H2 (v::vs) (.Y (.lst ds)::os) ob Q k3.le (.cons ⟨[],.Y (rp.mono x3.ff) .nil⟩ eD) e6 res;cases Jj;exact Kf
 ·cases e'
theorem TM(slot:Slot "list" name xn)(kr:typeOf (.builtin xn)=pure (.type "method_descriptor"))(hm:qf X xn r)(ok:cD K (lL r) g)(ho:PE X o (tG K fo))(ha:PA X (e::es) (gZ K fs))
  (dS:attributeBase o name X.env (eval o X.env)=eval o X.env:=by rfl)
  (kq:((backTo aV (starEach (e::es) X.env)).all (λx => !x.1) && (backToKw aV (keywordEach [] X.env)).all (λx=>x.1.isSome)
   && decide ((e::es).length+([]:List Keyword).length+(if([]:List Keyword).isEmpty then 0 else 1) < 30))=true:=by rfl)
  (dU:(apos.endLine == aV.line)=true:=by rfl) (hs:starEach (e::es) X.env=(false,eval e X.env)::starEach es X.env:=by rfl) (eU:(backTo aV (starEach es X.env)).any (·.1)=false:=by rfl) (hK:X.K=K:=by rfl) :
  PE X (.Call (.Attribute o name apos) (e::es) [] aV) (tG K (yC g fo fs)):=by
 subst hK;exact(AU PySem.F.plainAttrs_list slot kr hm ho ha dS kq dU hs eU).mono λ_ _ _ t=>TJ ok t
noncomputable def yD(z:Str):Value->Bool
 |.str y _=>y == z
 |_=>false
def N7(K:L2.FG):V->List V->Hp->VK->Prop:=λx xs H Q=>∃(a:Addr) (ys:List Str) (z:Str) (j:Nat),x=.ref a/\xs=[.str z]/\dq K H a (ys.map V.str)/\ys[j]?=some z/\(∀i y,i < j->ys[i]?=some y->y≠z)/\Q (.int (j:Nat)) H
theorem TN(K:L2.FG)(hK:X.K=K:=by rfl):qf X "list.index" (N7 K):=by
 subst hK;intro pins s Z H x xs v us Q I rx rs h;obtain⟨a,ys,z,j,rfl,rfl,hq,hj,lH,q⟩:=h;cases rx;obtain⟨u,rfl,ru⟩:=vals1 rs;obtain⟨t,rfl⟩:=ru;obtain⟨aG,rv,p,hz⟩:=I.list hq;obtain⟨ps,e1,e2⟩:=GJ rv;subst e1;obtain⟨ob,n,eo,Y7,hdi,Y9⟩:=p;have hlen:ps.length=ys.length:=by rw[<-e2,bB]
 have JI:j < ys.length:=(iq.mp hj).1;have hit:∀i (hi:i < ps.length),(ps.map λp=>Value.str p.1 p.2)[i]?=some (Value.str ps[i].1 ps[i].2):=λi hi=>by simp[hi]
 have BZ:∀i (hi:i < ps.length),ys[i]?=some ps[i].1:=λi hi=>by rw[<-e2];simp[hi]
 have hsz:(ps.map λp=>Value.str p.1 p.2).toArray.size=ps.length:=by simp
 have JJ:ps[j].1=z:=by
  have:=BZ j (by lia)
  rw[hj] at this;exact(Option.some.inj this).symm
 obtain⟨cl,di,da,sl⟩:=ob;cases Y7;cases Y9;have hz':ys.length<=16777216:=by rw[bB,sizeLine_eq] at hz;exact hz
 refine call_meets F.slot_list_index ⟨_,eo,rfl⟩ F.entry_list_index (F.args_list_index_2 _ _) (SeqAt.list_indexAt a _ n di sl (.str z t) (yD z) j (by rw[hsz];lia) (by lia) ?_ ?_) ⟨eo,?_,?_⟩
 ·simp[yD,JJ]
 ·intro i hi nF;rw[hsz] at hi;have:=lH i _ nF (BZ i hi);simp[yD];exact this
 ·intro y hy;simp at hy;obtain⟨b,t',_,rfl⟩:=hy;exact SeqAt.EqAt.str_str b t' z t
 ·exact⟨.int (j:Nat),H,I.tok _,⟨_,rfl⟩,q⟩
noncomputable def findS(ys:List Str)(z:Str):Option Nat:=ys.findIdx? (· == z)
noncomputable def yE:List O->Option O
 |[.Y (.lst ds),.Y (.str z)]=>(lP ds).bind λys=>(findS ys z).map λj=>.Y (.int (j:Nat))
 |_=>none
theorem GK{ys:List Str}{z:Str}{j:Nat}(e:findS ys z=some j):ys[j]?=some z/\∀i y,i < j->ys[i]?=some y->y≠z:=by
 unfold findS at e;rw[List.findIdx?_eq_some_iff_getElem] at e;obtain⟨h,h1,h2⟩:=e;refine⟨by rw[jW h];congr 1;exact eq_of_beq h1,λi y hi ey=>?_⟩
 have:=h2 i hi;obtain⟨hl,e3⟩:=iq.mp ey;rw[e3] at this;intro z';subst z';simp at this
theorem TQ:cD K (lL (N7 K)) yE:=by
 intro F H vs os o Q le eD e res;unfold yE at e;split at e
 ·rename_i ds z
  obtain⟨ys,e1,e2⟩:=cV.mp e;obtain⟨j,e3,e4⟩:=jP.mp e2;cases e4;obtain⟨x,y,B,C,rfl,h1,h2⟩:=eD.two;obtain⟨a,ws,rfl,sq,ri⟩:=v9 le h1 (WY _);rw[LV e1] at ri;have:=Lh ri;subst this;cases iM h2 rfl;obtain⟨s1,s2⟩:=GK e3;exact⟨_,_,rfl,a,ys,z,j,rfl,rfl,sq,s1,s2,res.flat rfl⟩
 ·cases e
end
structure CXr (P:Program) (w:World) (outer:List Env) (H:Hp) (s:Shared) (H':Hp) (s':Shared) (e C:Addr) (dx:Option Addr):Prop where
 os:s'.os=s.os
 bare:AllBare s'.gens
 un:Un (pO outer) [] H H' s.heap s'.heap
 cx:jQ P w H' s'.heap
 fly:FL s.heap.objs.size s'.heap H' e C dx
section
variable {P:Program} {w:World} {K:L2.FG} {mg:Str->Option Value} {base:Heap} {N:List Str} {qual:Str} {scope:Scope} {f:Addr} {cd:Value} {A:Around} {outer:List Env} {s₀:Shared} {H₀:Hp} {E:XK}
end
section
variable {P:Program} {w:World} {K:L2.FG} {mg:Str->Option Value} {base:Heap}
end
section
variable {K:L2.FG} {F H:Hp} {Z:St}
theorem LX{F1 H1:Hp}{vs:List V}{rs:List R}{os:List O}{U1 U2:Gm}{A1:List Addr}(k1:OK K F1 H1 (vs.map some++Z) (rs.map R.o++U1) A1)(hh:eE Z H1 rs vs)(q2:mz rs U1=some (os,U2)):
  ∃A4,OK K F1 H1 (vs.map some) (os.map some) A4/\∀F5 H' A5 (τ:St) (Θ:Gm) fin,τ.length=Θ.length->Ext F1 H1 A4 F5 H' A5->OK K F5 H' (τ++vs.map some) (Θ++fin) A5->∃A7,Ext F1 H1 A1 F5 H' A7/\OK K F5 H' (τ++Z) (Θ++nP rs fin U2) A7:=by
 have hl:(vs.map some).length=(rs.map R.o).length:=by rw[bB,bB,hh.length]
 obtain⟨B,C,h1,h2,h3⟩:=ai.split hl k1.os;subst h3;obtain⟨B',C',j1,j2,j3⟩:=Dz h1 h2 hh q2;have k2:OK K F1 H1 (vs.map some++Z) (os.map some++U2) (B'++C'):=.perm (j1.app j2) k1.le k1.nd k1.fr j3;obtain⟨A3,p3,k3⟩:=k2.swap j1.length;obtain⟨A4,k4,fr⟩:=k3.frame j2.length;refine⟨A4,k4,λF5 H' A5 τ Θ fin hτ x5 k5=>?_⟩
 obtain⟨A6,x6,k6⟩:=fr _ _ _ _ _ x5 k5;obtain⟨D1,D2,g1,g2,g3⟩:=ai.split j2.length k6.os;subst g3;obtain⟨D3,D4,g4,g5,g6⟩:=ai.split hτ g2;subst g6;obtain⟨D5,g7,g8⟩:=DL g5 g1 (hh.kf x6.kf);have s1:aJ (D3++D5) (D1++(D3++D4)):=by
  refine((aJ.refl D3).app g8).trans (.aZ ?_);rw[<-fG];exact om
 obtain⟨k7,x7⟩:=k6.sub (g4.app g7) s1;have x3:Ext F1 H1 (B++C) F1 H1 A3:=Ext.iX Ext.refl λa m=>j3.mem_iff.mp (p3.mem_iff.mp m)
 exact⟨D3++D5,(x3.trans x6).trans x7,k7⟩
variable {X:Cx} {m:List Bool} {W:XW} {e:Expr} {fa:GE} {pos:Pos}
variable {k n:Nat} {f:Addr} {fd:FuncData} {ps:List Str} {x:Str} {p:Pos} {es:List Expr} {fs:GA} {st:Stmt} {M:GM}
end
section
variable {prog:Program} {w:World} {A:Around} {E:Value->Shared->Prop} {h:Heap} {g:Array GenState} {d:Drawn} {t:Nat} {os:OsState}
variable {nm q:Str} {C N:Addr} {bs bm Qo:List Value} {BP:Bool} {sn:List Str} {sub:List Value} {ab:Bool} {col:Option Bool} {dd:Option Addr} {k0 k1 k2 k3 k5:Option Value} {B Bn newId nid initId inN:String} {bmN:List Value}
end
end L2
namespace L2
open PySem PySem.Spec PySem.W PySem.Calls PyProof.Rows
section
variable {prog:Program} {w:World} {A:Around} {E:Value->Shared->Prop} {s:Shared} {K:Frag} {x C:Addr} {ox:Obj} {od:Option Obj} {name:Str} {tk:Tok}
end
end L2
namespace L2
open PySem PySem.Spec PySem.W PySem.Calls PyProof.Rows Builtin Builtin.ObjectAttr
section
variable {prog:Program} {w:World} {A:Around} {E:Value->Shared->Prop} {s:Shared} {K:Frag} {x C B0 t:Addr} {name:Str} {tk:Tok} {v:Value} {cd:ClassData}
end
section
variable {prog:Program} {w:World} {A:Around} {E:Value->Shared->Prop} {h:Heap} {g:Array GenState} {d:Drawn} {tt:Nat} {os:OsState} {x t:Addr}
variable {nm q:Str} {C N:Addr} {bs bm Qo:List Value} {BP:Bool} {sn:List Str} {sub:List Value} {ab:Bool} {col:Option Bool} {dd:Option Addr} {k0 k1 k2 k3 k5:Option Value} {newId:String}
end
end L2
namespace L2
open PySem PySem.Spec PySem.W PySem.Calls PyProof.Rows
noncomputable abbrev AJ:List Value:=[.type "ValueError",.type "Exception",.type "BaseException",.type "object"]
def qQ(K:Frag)(C:Addr)(bm:List Value)(Zz:Option Value):Prop:=∃nm q N bs sn sub ab col dd k0 k1 k2 k3 k5 on ZT es ep sln,
 K.lookup C=some (excClassObj nm q C N bs bm true sn sub ab col dd k0 k1 k2 k3 k5 "ValueError.__new__")/\K.lookup N=some ⟨on,ZT,.dict es ep,sln⟩/\StrKeys es/\nsFind es "__init__"=Zz
section
variable {X:Cx} {pins:List (Addr×Obj)} {Z:St} {H:Hp} {s:Shared} {Q:VK} {C B0:Addr} {x:Str} {p pos:Pos} {e:Expr} {t:TA}
end
structure qR (K:Frag) (C:Addr):Prop where
 g:findIn K (.ref C) "__getattribute__"=some (some (.builtin "BaseException.__getattribute__"))
 n:findIn K (.ref C) "__getattr__"=some none
 c:findIn K (.ref C) "__class__"=some (some (.builtin "object.__class__"))
 s:specialIn K (.builtin "object.__class__") "__get__"=some (some (.builtin "getset_descriptor.__get__"))
 t:takesIn K (.builtin "object.__class__")=some true
section
variable {K:Frag} {C C' B0 a:Addr} {bm bm':List Value} {i i':Option Value} {l:Option Int}
end
section
variable {K:Frag} {F H:Hp} {Z:St} {U:Gm} {A:List Addr} {p:Addr}
end
section
variable {K:Frag} {X:Cx} {C B0:Addr} {x:Str} {p pos:Pos} {e:Expr} {fe:GE}
end
structure zG (K:Frag) (B0:Addr):Prop where
 g:specialIn K (.ref B0) "__getattribute__"=some (some (.builtin "type.__getattribute__"))
 r:readsIn K B0 (.type "type")=true
 c:findCls K (.ref B0) (.type "type") "__init__"=some (.val (.builtin "ValueError.__init__"))
noncomputable def Yz(C t dx:Addr):HO:=.Y (Ji C t (some dx)) (.own 0)
section
variable {X:Cx} {pins:List (Addr×Obj)} {Z:St} {H:Hp} {s:Shared} {C B0 e t:Addr} {i:Option Value}
variable {x0:Str} {p0 ap cp pos p1:Pos} {e1 e2 o value:Expr} {k j:Nat} {v:V}
end
structure Lined (H H':Hp) (C e t dx:Addr) (n:Int):Prop where
 ne:dx≠e
 d0:H dx=none
 e1:H' e=some (Yz C t dx)
 d1:H' dx=some (.xd [("line",.int n)])
 old:∀b,b≠e->b≠dx->H' b=H b
section
variable {X:Cx} {pins:List (Addr×Obj)} {Z:St} {H:Hp} {s:Shared} {Q:VK} {C B0 fI:Addr} {x:Str} {p pos:Pos} {e:Expr} {t:TA} {fd:FuncData} {k:Nat}
end
section
variable {X:Cx} {C B0 fI:Addr} {x:Str} {p pos:Pos} {e:Expr} {t:TA} {fd:FuncData} {k:Nat} {K:Frag} {fe:GE}
end
structure Errs (K:Frag) (mg:Str->Option Value) (tab:List (Str×Addr)) (L B0 fI:Addr):Prop where
 all:∀p∈tab,mg p.1=some (.ref p.2)/\qQ K p.2 (.ref B0::AJ) none/\qR K p.2/\keepIn K (.ref p.2)=true
 mgL:mg "NoLine"=some (.ref L)
 GL:qQ K L (.ref B0::AJ) (some (.ref fI))
 EL:qR K L
 kL:keepIn K (.ref L)=true
 sL:findIn K (.ref L) "__setattr__"=some (some (.builtin "object.__setattr__"))
 nL:findIn K (.ref L) "line"=some none
 fL:isFn K (.ref fI)=true
 ZM:mg "CarryError"=some (.ref B0)
 G0:qQ K B0 AJ none
 I0:zG K B0
section
variable {K:Frag} {mg:Str->Option Value} {tab:List (Str×Addr)} {L B0 fI:Addr}
end
section
variable {X:Cx} {pins:List (Addr×Obj)} {Z:St} {H:Hp} {s:Shared} {C B0:Addr} {R:Value->Shared->Prop}
end
section
variable {X:Cx} {K:Frag} {m:List Bool} {W:XW} {C B0:Addr} {x:Str} {p cp pos:Pos} {e:Expr} {fe:GE}
end
structure Yng (X:Cx) (pins:List (Addr×Obj)) (n:Nat):Prop where
 s:X.s₀.heap.objs.size<=n
 l:X.env.locals < n
 c:∀x c,X.env.cells.lookup x=some c->c < n
 p:∀q∈X.pn++pins,q.1 < n
section
variable {X:Cx} {pins rU:List (Addr×Obj)} {pn:List (Addr×Obj)} {Z:St} {H:Hp} {s:Shared} {E:Value->Shared->Prop} {n:Nat} {ch:List Addr} {h':Heap}
end
section
variable {X:Cx} {K:Frag} {m:List Bool}
end
end L2
namespace L2
open PySem PySem.Spec PyProof.Rows
variable{v:V}{r:R}{Q:VK}{U U':Gm}{F H:Hp}{c:O}{A:List Addr}{Z:St}{qual:Str}{st:Stmt}{pl:Sem Bool}
theorem vo{α:Type}{a b:α}{L M:List α}:(a::b::(L++M)).Perm (L++a::b::M):=((C5 (a:=b) (l₁:=L) (l₂:=M)).symm.cons a).trans (C5 (a:=a) (l₁:=L) (l₂:=b::M)).symm
section
variable {K:L2.FG} {F H:Hp} {Z:St} {U:Gm} {A:List Addr} {C:Addr} {ns:List Str} {ps:List O} {x:V} {i j:Nat} {c:O}
theorem Ef(h:ai K F H [some x] [some (.ins C ns ps)] A):∃a dx fs Ap,x=.ref a/\A=a::dx::Ap/\H a=some (.ins C dx fs)/\H dx=some (.own a)/\fs.map (·.1)=ns.take ps.length/\ai K F H ((fs.map (·.2)).map some) (ps.map some) Ap:=by
 cases h with
 |ins q1 q2 q3 q4 t=>
  cases t;exact⟨_,_,_,_,rfl,by rw[d_],q1,q2,q3,by rw[jx];exact q4⟩
theorem Ey{F' H':Hp}{a dx:Addr}{fs:List (Str×V)}{Ap:List Addr}(q1:H' a=some (.ins C dx fs))(q2:H' dx=some (.own a))(q3:fs.map (·.1)=ns.take ps.length)(q4:ai K F' H' ((fs.map (·.2)).map some) (ps.map some) Ap):ai K F' H' [some (.ref a)] [some (.ins C ns ps)] (a::dx::Ap):=by
 have:=ai.ins (Z:=[]) (U:=[]) (B:=[]) q1 q2 q3 (by rw[jx] at q4;exact q4) .nil
 rw[d_] at this;exact this
theorem zR(h:ai K F H [some x] [some (.ins C ns ps)] A)(nd:A.Nodup)(e:ps[j]?=some c):∃a dx fs f v Ac B,x=.ref a/\H a=some (.ins C dx fs)/\fs.map (·.1)=ns.take ps.length/\fs[j]?=some (f,v)/\ai K F H [some v] [some c] Ac/\A.Perm (Ac++B)/\
  ∀F' H' c' A',aH F F'->(∀b u,b∉Ac->H b=some u->H' b=some u)->ai K F' H' [some v] [some c'] A'->∃D,ai K F' H' [some x] [some (.ins C ns (ps.set j c'))] D/\aJ D (A'++B):=by
 obtain⟨a,dx,fs,Ap,rfl,rfl,q1,q2,q3,q4⟩:=Ef h;obtain⟨v,Ac,B1,g1,g2,g3,g4⟩:=QQ q4 e;obtain⟨⟨f,v'⟩,g5,g6⟩:∃p,fs[j]?=some p/\p.2=v:=by
  rw[iz] at g1;exact jP.mp g1
 dsimp only at g6;subst g6;obtain⟨na,uk⟩:=j7.mp nd;obtain⟨nx,xu⟩:=j7.mp uk;have ZN:(Ac++B1).Nodup:=g3.nodup_iff.mp xu;refine⟨a,dx,fs,f,v',Ac,a::dx::B1,rfl,q1,q3,g5,g2,?_,λF' H' c' A' sf kp w=>?_⟩
 ·refine((g3.cons dx).cons a).trans ?_;exact vo
 ·have ia:a∉Ac:=λm=>na (by simp[g3.mem_iff,m])
  have ix:dx∉Ac:=λm=>nx (by simp[g3.mem_iff,m])
  obtain⟨D,w1,w2⟩:=g4 F' H' c' A' sf (λb m u g=>kp b u (λz=>(hV.mp ZN).2.2 b z b m rfl) g) w
  refine⟨a::dx::D,Ey (kp a _ ia q1) (kp dx _ ix q2) (by rw[uD];exact q3) w1,?_⟩
  obtain⟨L,p1,p2⟩:=w2;refine aJ.trans ⟨a::dx::L,(p1.cons dx).cons a,(p2.cons_cons dx).cons_cons a⟩ (.aZ ?_);exact vo
theorem Nm:∀{fs:List (Str×V)} {j:Nat} {f:Str} {v:V},(fs.map (·.1)).Nodup->fs[j]?=some (f,v)->fs.lookup f=some v
 |[],_,_,_,_,g=>by simp at g
 |(f',v')::fs,0,f,v,_,g=>by simp at g;obtain⟨rfl,rfl⟩:=g;simp
 |(f',v')::fs,j+1,f,v,nd,g=>by
  have qM:f'∉fs.map (·.1)/\(fs.map (·.1)).Nodup:=j7.mp nd
  have g':fs[j]?=some (f,v):=by simpa using g
  have ne:f≠f':=λz=>qM.1 (by rw[<-z];exact gL.2 ⟨_,zq g',rfl⟩)
  rw[o9,beq_false_of_ne ne];exact Nm qM.2 g'
theorem Nn{fs:List (Str×V)}{n:Nat}{f f':Str}(h:fs.map (·.1)=ns.take n)(nd:ns.Nodup)(g:fs[j]?=some (f',v))(hj:ns[j]?=some f):f'=f/\fs.lookup f=some v:=by
 have e1:(fs.map (·.1))[j]?=some f':=by rw[iz,g];rfl
 have e2:f'=f:=by
  rw[h] at e1;have lt:j < n:=by
   have:=(iq.mp e1).1;rw[nJ] at this;lia
  rw[KD lt,hj] at e1;exact(Option.some.inj e1).symm
 subst e2;exact⟨rfl,Nm (by rw[h];exact nd.sublist (List.take_sublist _ _)) g⟩
theorem OK.ui{vs:List V}{os:List O}{v0:V}{c' res:O}{g:O->List O->Option (O×O)}{r:V->List V->Hp->VK->Prop}(ok:eP K r g)(k:OK K F H (vs.map some++Z) (os.map some++U) A)(hf:mH Z H i j v0)(ho:U[i]?=some (some (.ins C ns ps)))(hc:ps[j]?=some c)
  (hl:vs.length=os.length) (e:g c os=some (c',res)) (q:∀v H' A',Ext F H A F H' A'->OK K F H' (some v::Z) (some res::U.set i (some (.ins C ns (ps.set j c')))) A'->Q v H'):r v0 vs H Q:=by
 obtain⟨B,C0,h1,h2,h3⟩:=ai.split (by simpa using hl) k.os
 subst h3;obtain⟨x',Ai,C',g1,g2,g3,g4⟩:=h2.take ho;have p1:(B++C0).Perm ((Ai++B)++C'):=by
  refine(List.Perm.append_left B g4).trans ?_;rw[<-fG];exact om.append_right _
 have nd:((Ai++B)++C').Nodup:=p1.nodup_iff.mp k.nd;have fr:∀a∈(Ai++B)++C',F a=none:=λa m=>k.fr a (p1.mem_iff.mpr m)
 obtain⟨n1,n2,n3⟩:=hV.mp nd;obtain⟨n4,n5,n6⟩:=hV.mp n1;obtain⟨a,dx,fs,f,v,Ac,B1,rfl,q1,q2,q3,q4,q5,q6⟩:=zR g2 n4 hc;obtain⟨a',C2,wM,oO,f',p,e1,e2,e3,e4⟩:=hf;rw[g1] at e1;cases e1;rw[q1] at e2;cases e2;rw[q3] at e3;cases e3;have w_:∀b∈Ac,b∈Ai:=λb m=>q5.mem_iff.mpr (lx _ m)
 have nB:(Ac++B).Nodup:=hV.mpr ⟨(hV.mp (q5.nodup_iff.mp n4)).1,n5,λb m b' m' z=>n6 b (w_ b m) b' m' z⟩
 refine ok F H _ vs c os c' res Ac B Q k.le q4 h1 nB (λb m=>?_) e λv1 H' A' Ar kp dm at' w1 w2 sp=>?_
 ·rcases jw.mp m with m|m
  ·exact fr b (by simp[w_ b m])
  ·exact fr b (by simp[m])
 obtain⟨D,j1,j2⟩:=q6 F H' c' A' (aH.refl _) kp w1;have nC:∀b∈C',b∉Ac:=λb m z=>n3 b (lx _ (w_ b z)) b m rfl
 have t8:ai K F H' Z (U.set i none) C':=g3.keep (aH.refl _) λb m u e=>kp b u (nC b m) e
 have hi:i < (U.set i none).length:=by rw[uD];exact(iq.mp ho).1
 obtain⟨D2,k1,C3,k2,k3⟩:=ai.put j1 i t8 hi;rw[tL g1,zu] at k1;have s3:aJ (Ar++D2) (B++C0):=by
  have a1:aJ D2 ((A'++B1)++C'):=((aJ.aZ k2).trans ((aJ.refl D).app (.aP k3))).trans (j2.app (aJ.refl C'));have a2:aJ (Ar++D2) (((Ar++A')++B1)++C'):=by
   have:=(aJ.refl Ar).app a1;rw[<-fG,<-fG] at this;exact this
  have a3:aJ (((Ar++A')++B1)++C') (((Ac++B)++B1)++C'):=(sp.app (aJ.refl B1)).app (aJ.refl C');have a4:(((Ac++B)++B1)++C').Perm ((Ai++B)++C'):=by
   refine List.Perm.append_right C' ?_;rw[fG];refine(List.Perm.append_left Ac om).trans ?_;rw[<-fG];exact q5.symm.append_right B
  exact a2.trans (a3.trans (.aZ (a4.trans p1.symm)))
 refine q v1 H' (Ar++D2) ⟨aH.refl _,λb u e n=>kp b u (λm=>n (p1.mem_iff.mpr (by simp[w_ b m]))) e,dm,λb h=>.inl h,λb m=>.inl (s3.mem b m),at'⟩ ⟨λb u e=>?_,w2.app k1,s3.nodup k.nd,λb m=>k.fr b (s3.mem b m)⟩
 refine kp b u (λm=>?_) (k.le b u e)
 rw[fr b (by simp[w_ b m])] at e
 cases e
end
noncomputable def cw(Ch:Addr)(ns:List Str)(i j:Nat):GE:=λU=>match U[i]? with
 |some (some (.ins C jr ps))=>if C=Ch/\jr=ns then(match ps[j]? with
   |some (.Y d)=>some (.own (.Y d),U)
   |some _=>some (.fld i j,U)
   |none=>none) else none
 |_=>none
theorem Hu{Ch:Addr}{ns:List Str}{i j:Nat}(e:cw Ch ns i j U=some (r,U')):∃ps c,U[i]?=some (some (.ins Ch ns ps))/\ps[j]?=some c/\U'=U/\((∃d,c=.Y d/\r=.own (.Y d))\/((∀d,c≠.Y d)/\r=.fld i j)):=by
 unfold cw at e;split at e
 ·rename_i C jr ps h
  split at e
  ·rename_i hh
   obtain⟨rfl,rfl⟩:=hh;split at e
   ·rename_i d h2
    cases e;exact⟨ps,_,h,h2,rfl,.inl ⟨d,rfl,rfl⟩⟩
   ·rename_i c hn h2
    cases e;exact⟨ps,c,h,h2,rfl,.inr ⟨λd z=>hn d (by rw[z]),rfl⟩⟩
   ·cases e
  ·cases e
 ·cases e
section
variable {X:Cx} {K:L2.FG} {m:List Bool} {W:Option XW} {Ch:Addr} {ns:List Str} {i j:Nat} {e o value:Expr} {f:Str} {pos pos' apos aV:Pos} {fe:GE}
theorem Vx(h:ai K F H [some v] [some c] A)(hn:∀d,c≠.Y d):∃p,v=.ref p:=by
 cases h with
 |Y _ _=>exact absurd rfl (hn _)
 |lst _ _ _=>exact⟨_,rfl⟩
 |tup _ _ _=>exact⟨_,rfl⟩
 |aK _ _ _ _ _=>exact⟨_,rfl⟩
 |ins _ _ _ _ _=>exact⟨_,rfl⟩
theorem jv(he:PE X e (kJ i))(c:mr K Ch)(na:b_ K Ch f)(hj:ns[j]?=some f)(y_:ns.Nodup)(hb:attributeBase e f X.env (eval e X.env)=eval e X.env:=by rfl)(hK:X.K=K:=by rfl):PE X (.Attribute e f pos) (tG K (cw Ch ns i j)):=by
 subst hK;refine(WG he hb).mono λZ H Q t=>?_
 obtain⟨F,A,U,r,U',k,e,w⟩:=t;obtain⟨ps,cc,h1,h2,rfl,h3⟩:=Hu e;obtain⟨x,Ai,C',g1,g2,g3,g4⟩:=k.os.take h1;have nd:Ai.Nodup:=(hV.mp (g4.nodup_iff.mp k.nd)).1;obtain⟨a,dx,fs,f',v,Ac,B1,rfl,q1,q2,q3,q4,q5,q6⟩:=zR g2 nd h2;obtain⟨rfl,q7⟩:=Nn q2 y_ q3 hj;refine⟨_,g1,a,Ch,dx,fs,v,rfl,q1,c,na,q7,w v H ?_⟩;rcases h3 with⟨d,rfl,rfl⟩|⟨hn,rfl⟩
 ·cases q4 with
  |Y rp _=>
   obtain⟨k2,x⟩:=k.push (v:=v) (o:=.Y d) (Av:=[]) (aH.refl _) (.Y rp .nil) .nil (λ_ m=>by cases m)
   exact⟨F,_,x,k2,True.intro⟩
 ·obtain⟨p,rfl⟩:=Vx q4 hn;exact⟨F,A,Ext.refl,⟨k.le,.skip k.os,k.nd,k.fr⟩,⟨a,Ch,dx,fs,_,p,g1,q1,q3,rfl⟩,True.intro⟩
end
noncomputable def lF(g:O->List O->Option (O×O))(Ch:Addr)(ns:List Str)(i j:Nat)(fs:GA):GE:=λU=>match U[i]? with
 |some (some (.ins C jr ps))=>if C=Ch/\jr=ns then(match ps[j]? with
   |some (.lst _)=>(fs U).bind λq=>(eY q.1).bind λos=>(match q.2[i]? with
     |some (some (.ins C1 mD j6))=>(j6[j]?).bind λc=>(g c os).bind λz=>some (.own z.2,q.2.set i (some (.ins C1 mD (j6.set j z.1))))
     |_=>none)
   |_=>none) else none
 |_=>none
noncomputable def wA(fv:GE)(Ch:Addr)(ns:List Str)(i j:Nat)(fi:GE):GS:=λU=>(fv U).bind λp=>(cw Ch ns i j p.2).bind λq=>(fi q.2).bind λr=>match p.1,q.1,r.1 with
 |.own v,.fld _ _,.own y=>(match r.2[i]? with
  |some (some (.ins C1 mD j6))=>(j6[j]?).bind λc=>(eW c [v,y]).bind λz=>some (.nx,r.2.set i (some (.ins C1 mD (j6.set j z.1))))
  |_=>none)
 |_,_,_=>none
noncomputable def qp(Ch:Addr)(ns:List Str)(i j:Nat)(fe:GE):GS:=λU=>(fe U).bind λp=>match p.1 with
 |.own o=>(match p.2[i]? with
  |some (some (.ins C jr ps))=>if C=Ch/\jr=ns/\ps.length=j then some (.nx,p.2.set i (some (.ins C jr (ps++[o])))) else none
  |_=>none)
 |_=>none
section
variable {X:Cx} {K:L2.FG} {m:List Bool} {W:Option XW} {Ch:Addr} {ns:List Str} {i j:Nat} {e o value ei:Expr} {es:List Expr} {f name:Str} {pos pos' apos aV i6:Pos} {fe fv fi:GE} {fs:GA} {id:String} {r:V->List V->Hp->VK->Prop} {g:O->List O->Option (O×O)}
theorem RT{rr:R}(e:lF g Ch ns i j fs U=some (rr,U')):∃ps l rs U2 os C1 mD j6 c z,U[i]?=some (some (.ins Ch ns ps))/\ps[j]?=some (.lst l)/\fs U=some (rs,U2)/\eY rs=some os/\U2[i]?=some (some (.ins C1 mD j6))/\j6[j]?=some c/\g c os=some z/\rr=.own z.2/\U'=U2.set i (some (.ins C1 mD (j6.set j z.1))):=by
 unfold lF at e;split at e
 ·rename_i C jr ps h
  split at e
  ·rename_i hh
   obtain⟨rfl,rfl⟩:=hh;split at e
   ·rename_i l h2
    obtain⟨⟨rs,U2⟩,q1,e⟩:=cV.mp e;obtain⟨os,q2,e⟩:=cV.mp e;split at e
    ·rename_i C1 mD j6 h3
     obtain⟨c,q3,e⟩:=cV.mp e;obtain⟨z,q4,e⟩:=cV.mp e;cases e;exact⟨ps,l,rs,U2,os,C1,mD,j6,c,z,h,h2,q1,q2,h3,q3,q4,rfl,rfl⟩
    ·cases e
   ·cases e
  ·cases e
 ·cases e
theorem N8{ps:List O}(h:U[i]?=some (some (.ins Ch ns ps)))(h2:ps[j]?=some c)(hn:∀d,c≠.Y d):cw Ch ns i j U=some (.fld i j,U):=by
 unfold cw;rw[h];dsimp only;rw[if_pos ⟨rfl,rfl⟩,h2];cases c with
 |Y d=>exact absurd rfl (hn d)
 |_=>rfl
theorem Vy(ok:eP K r g)(t:tG K (lF g Ch ns i j fs) Z H Q):zf K "list" r (tG K (cw Ch ns i j)) (gZ K fs) Z H Q:=by
 obtain⟨F,A,U,rr,U',k,e,w⟩:=t;obtain⟨ps,l,rs,U2,os,C1,mD,j6,c,z,e1,e2,e3,e4,e5,e6,e7,rfl,rfl⟩:=RT e;refine⟨F,A,U,_,U,k,N8 e1 e2 (λd z=>by cases z),λx H1 p=>?_⟩
 obtain⟨F1,A1,x1,k1,hh⟩:=p;obtain⟨hx,_⟩:=hh;obtain⟨k2,x2⟩:=k1.sub (Z':=Z) (U':=U) (by cases k1.os with|skip t=>exact t) (aJ.refl _)
 refine⟨?_,F1,A1,U,rs,U2,k2,e3,λvs H2 p2=>?_⟩
 ·obtain⟨x0,Ai,C',g1,g2,g3,g4⟩:=k2.os.take e1;obtain⟨a,dx,oO,f',v,Ac,B1,rfl,q1,q2,q3,q4,_⟩:=zR g2 (hV.mp (g4.nodup_iff.mp k2.nd)).1 e2;obtain⟨a',C2,wM,va,f2,p,y1,y2,y3,rfl⟩:=hx;rw[g1] at y1;cases y1;rw[q1] at y2;cases y2;rw[q3] at y3;cases y3;cases q4 with
  |lst hq _ _=>exact .inl ⟨rfl,_,dq.of hq⟩
 ·obtain⟨F3,A3,x3,k3,h3⟩:=p2;rw[pD e4] at k3;have hl:vs.length=os.length:=by
   have:=h3.length;have h4:=congrArg List.length (pD e4);simp at h4;lia
  exact OK.ui ok k3 (hx.kf x3.kf) e5 e6 hl e7 λv H' A' x4 k4=>w v H' ⟨F3,A',(x1.trans (x2.trans (x3.trans x4))),k4,True.intro⟩
theorem Vz(slot:Slot "list" name id)(kr:typeOf (.builtin id)=pure (.type "method_descriptor"))(hm:qf X id r)(ok:eP K r g)(ho:PE X o (tG K (cw Ch ns i j)))(ha:PA X (e::es) (gZ K fs))
  (dS:attributeBase o name X.env (eval o X.env)=eval o X.env:=by rfl)
  (kq:((backTo aV (starEach (e::es) X.env)).all (λx => !x.1) && (backToKw aV (keywordEach [] X.env)).all (λx=>x.1.isSome)
   && decide ((e::es).length+([]:List Keyword).length+(if([]:List Keyword).isEmpty then 0 else 1) < 30))=true:=by rfl)
  (dU:(apos.endLine == aV.line)=true:=by rfl) (hs:starEach (e::es) X.env=(false,eval e X.env)::starEach es X.env:=by rfl) (eU:(backTo aV (starEach es X.env)).any (·.1)=false:=by rfl) (hK:X.K=K:=by rfl) :
  PE X (.Call (.Attribute o name apos) (e::es) [] aV) (tG K (lF g Ch ns i j fs)):=by
 subst hK;exact(AU PySem.F.plainAttrs_list slot kr hm ho ha dS kq dU hs eU).mono λ_ _ _ t=>Vy ok t
theorem Az(he:PE X e (tG K fv))(ho:PE X o (tG K (cw Ch ns i j)))(hi:PE X ei (tG K fi))(hu:X.A.units+41 < cLine)
  (ha:∀v,assign (.Subscript o ei pos') X.env v=(do
   let ov <-holding [v] (eval o X.env)
   let iv <-holding [v,ov] (eval ei X.env)
   standAt pos'
   holding [v,ov,iv] (setItem ov iv v)
   release [v,ov,iv] []):=by intro _;rfl)
  (hs:swapsWithSole [.Subscript o ei pos'] e pos.line X.env=pure false:=by rfl) (hw:swappedStores [.Subscript o ei pos'] e X.env=pure none:=by rfl)
  (h1:(assignEach [.Subscript o ei pos'] X.env).map (·.2)=[assign (.Subscript o ei pos') X.env]:=by rfl) (hK:X.K=K:=by rfl):PS X (.Assign [.Subscript o ei pos'] e pos) (tS K m W (wA fv Ch ns i j fi)):=by
 subst hK;refine(NT he (NS ho hi (OD hu) ha) hs hw h1).mono λD Z H t=>?_
 obtain⟨F,A,U,fl,U',k,e,w⟩:=t;obtain⟨⟨r1,U1⟩,e1,ee⟩:=cV.mp e;clear e;obtain⟨⟨r2,U2⟩,e2,e⟩:=cV.mp ee;clear ee;obtain⟨⟨r3,U3⟩,e3,ee⟩:=cV.mp e;clear e;have e:=ee;clear ee;dsimp only at e2 e3 e;split at e
 ·rename_i v i' j' y
  obtain⟨ZZ,c0,_,_,_,hr⟩:=Hu e2;obtain⟨rfl,rfl⟩:i'=i/\j'=j:=by
   rcases hr with⟨d,_,z⟩|⟨_,z⟩
   ·cases z
   ·cases z;exact⟨rfl,rfl⟩
  split at e
  ·rename_i C1 mD j6 e4
   obtain⟨c,e5,e⟩:=cV.mp e;obtain⟨z,e6,e⟩:=cV.mp e;cases e;have t:gZ X.K (ao fv (ao (cw Ch ns i' j') (ao fi gN))) Z H λvs H'=>∃a b c,vs=[a,b,c]/\oY X.K b c a H' λH4=>D.nx Z H4:=by
    refine⟨F,A,U,[.own v,.fld i' j',.own y],U3,k,?_,λvs H1 p=>?_⟩
    ·unfold ao;simp only[e1,e2,e3,Option.bind,gN]
    ·obtain⟨F1,A1,x,k1,hh⟩:=p;obtain⟨a,b,c2,rfl⟩:=EI hh.length;refine⟨a,b,c2,rfl,?_⟩;have hx:mH Z H1 i' j' b:=hh.1;have k2:OK X.K F1 H1 ([a,c2].map some++Z) ([v,y].map some++U3) A1:=by
      obtain⟨B1,C1',g1,g2,g3⟩:=ai.one (Z:=some b::some c2::Z) (U:=none::some y::U3) k1.os;cases g2 with
      |skip g2=>subst g3;exact⟨k1.le,g1.app g2,k1.nd,k1.fr⟩
     have z':=OK.ui (r:=rX X.K) (g:=eW) (Q:=λ_ H4=>D.nx Z H4) (c':=z.1) (res:=z.2) IC k2 hx e4 e5 rfl e6 λv' H' A' x4 k4=>by
      obtain⟨B2,k5,sub⟩:=OK.part (τ:=[some v']) (Θ:=[some z.2]) k4 rfl;exact w Z H' ⟨F1,B2,(x.trans x4).iX sub,k5,Kept.refl⟩
     obtain⟨v',i',ee,q⟩:=z';cases ee;exact q
   have t1:=pC t;refine tG.mono t1 λa H1 h=>tG.mono (pC h) λb H2 h2=>tG.mono (pC h2) λc H3 h3=>?_
   obtain⟨F,A,U,rs,U',k,e,w⟩:=h3;cases e;obtain⟨a',b',c',ee,q⟩:=w [] H3 ⟨F,A,Ext.refl,k,True.intro⟩;cases ee;exact q
  ·cases e
 ·cases e
theorem Mt{f:Str}{v:V}:∀{fs:List (Str×V)},f∉fs.map (·.1)->fu f v fs=fs++[(f,v)]
 |[],_=>rfl
 |(g,x)::fs,h=>by
  have hh:g≠f/\f∉fs.map (·.1):=by
   rw[cv,dZ,not_or] at h;exact⟨λz=>h.1 z.symm,h.2⟩
  show(if g=f then(g,v)::fs else(g,x)::fu f v fs)=_
  rw[if_neg hh.1,Mt hh.2];rfl
theorem su(ho:PE X o (kJ i))(hv:PE X value (tG K fe))(c:mr K Ch)(na:b_ K Ch f)(hj:ns[j]?=some f)(y_:ns.Nodup)(hsz:ns.length<=900)(hm:(m[i]? == some true)=true:=by rfl)(hs:swapsWith value (some (.Attribute o f pos')) pos.line X.env=pure false:=by rfl)(hK:X.K=K:=by rfl):PS X (.Assign [.Attribute o f pos'] value pos) (tS K m W (qp Ch ns i j fe)):=by
 subst hK;refine(WH ho hv hs).mono λD Z H t=>?_
 obtain⟨F,A,U,fl,U',k,e,w⟩:=t;obtain⟨⟨r1,U1⟩,q,ee⟩:=cV.mp e;clear e;have e:=ee;clear ee;dsimp only at e;cases r1 with
 |var _=>cases e
 |fld _ _=>cases e
 |own oo=>
  dsimp only at e;split at e
  ·rename_i C jr ps h1
   split at e
   ·rename_i hh
    obtain⟨rfl,rfl,rfl⟩:=hh;cases e;refine⟨F,A,U,_,U1,k,q,λy H1 pp=>?_⟩
    obtain⟨F1,A1,x1,k1,_⟩:=pp;obtain⟨By,Cy,y1,y2,y3⟩:=ai.one (Z:=Z) (U:=U1) k1.os;subst y3;obtain⟨x,Ai,C',g1,g2,g3,g4⟩:=y2.take h1;obtain⟨a,dx,fs,Ap,rfl,rfl,q1,q2,q3,q4⟩:=Ef g2;have kn:f∉fs.map (·.1):=by
     rw[q3];intro mm;obtain⟨jj,JH⟩:=CZ.1 mm;have lt:jj < ps.length:=by
      have:=(iq.mp JH).1;rw[nJ] at this;lia
     rw[KD lt] at JH;exact absurd (Hk y_ JH hj) (i8 lt)
    have lj:ps.length < jr.length:=(iq.mp hj).1;have lf:fs.length=ps.length:=by
     have:=congrArg List.length q3;rw[bB,nJ] at this;lia
    refine⟨_,g1,a,C,dx,fs,rfl,q1,c,na,by lia,?_⟩
    rw[Mt kn];have p1:(By++Cy).Perm ((a::dx::(Ap++By))++C'):=by
     refine(List.Perm.append_left By g4).trans ?_;rw[<-fG];refine List.Perm.append_right C' ?_;refine om.trans ?_;exact .refl _
    have nd:((a::dx::(Ap++By))++C').Nodup:=p1.nodup_iff.mp k1.nd;have J9:a∉dx::((Ap++By)++C'):=(j7.mp (by simpa using nd)).1
    have ne:∀b,b∈Ap++By\/b∈C'\/b=dx->b≠a:=λb hb z=>J9 (by subst z;rcases hb with hb|hb|hb <;> simp_all)
    have kp:∀b u,b≠a->H1 b=some u->upd H1 a (.ins C dx (fs++[(f,y)])) b=some u:=λb u z g=>by rw[cK z];exact g
    have w1:ai X.K F1 (upd H1 a (.ins C dx (fs++[(f,y)]))) [some (.ref a)] [some (.ins C jr (ps++[oo]))] (a::dx::(Ap++By)):=by
     refine Ey iU (kp _ _ (ne dx (.inr (.inr rfl))) q2) ?_ ?_
     ·rw[dh,q3,gK,cv,sd,jV,vM,List.take_succ,hj];rfl
     ·rw[dh,dh,dh];exact(q4.app y1).keep (aH.refl _) λb mb u g=>kp b u (ne b (.inl mb)) g
    have t8:ai X.K F1 (upd H1 a (.ins C dx (fs++[(f,y)]))) Z (U1.set i none) C':=g3.keep (aH.refl _) λb mb u g=>kp b u (ne b (.inr (.inl mb))) g
    have hi:i < (U1.set i none).length:=by rw[uD];exact(iq.mp h1).1
    obtain⟨D2,k4,C3,k5,k6⟩:=ai.put w1 i t8 hi;rw[tL g1,zu] at k4;have s3:aJ D2 (By++Cy):=((aJ.aZ k5).trans ((aJ.refl _).app (.aP k6))).trans (.aZ p1.symm);have aA:a∈By++Cy:=p1.mem_iff.mpr (by simp)
    refine w Z _ ⟨F1,D2,x1.trans ⟨aH.refl _,λb u g n=>kp b u (λz=>n (z ▸ aA)) g,yo,λb h=>.inl h,λb mb=>.inl (s3.mem b mb),λb C2 Vp va g=>?_⟩,⟨λb u g=>kp b u (λz=>by subst z;rw[k1.fr b aA] at g;cases g) (k1.le b u g),k4,s3.nodup k1.nd,λb mb=>k1.fr b (s3.mem b mb)⟩,Kept.refl⟩
    by_cases z:b=a
    ·subst z;rw[q1] at g;cases g;exact⟨_,iU,λjj f2 p2 sR=>by rw[FE (iq.mp sR).1];exact sR⟩
    ·exact⟨va,by rw[cK z];exact g,λ_ _ _ q=>q⟩
   ·cases e
  ·cases e
end
def c7(M:GM)(Ch:Addr)(ns:List Str)(i:Nat)(fs:GA):GE:=λU=>match U[i]? with
 |some (some (.ins C jr _))=>if C=Ch/\jr=ns then bN M (ao (aa i) fs) U else none
 |_=>none
section
variable {X:Cx} {K:L2.FG} {W:XW} {Ch:Addr} {ns:List Str} {i k n:Nat} {e o:Expr} {es:List Expr} {f:Addr} {fd:FuncData} {ps:List Str} {m:Str} {pos apos p:Pos} {fs:GA} {M:GM} {fa:GE}
theorem RU(e:c7 M Ch ns i fs U=some (r,U')):∃qs,U[i]?=some (some (.ins Ch ns qs))/\bN M (ao (aa i) fs) U=some (r,U'):=by
 unfold c7 at e;split at e
 ·rename_i C jr qs h
  split at e
  ·rename_i hh
   obtain⟨rfl,rfl⟩:=hh;exact⟨qs,h,e⟩
  ·cases e
 ·cases e
theorem RV{qs:List O}{t:List V->Hp->Prop}(k:OK K F H Z U A)(h:U[i]?=some (some (.ins Ch ns qs)))(hm:m∉ns){rs:List R}{U1:Gm}(q:ao (aa i) fs U=some (rs,U1))(w:∀vs H',dW K F H A Z U1 rs vs H'->t vs H'):
  kJ i Z H λx H1=>∃a dx gs,x=.ref a/\H1 a=some (.ins Ch dx gs)/\gs.lookup m=none/\gZ K fs Z H1 λvs H2=>t (x::vs) H2:=by
 have tt:tG K (aa i) Z H λx H1=>gZ K fs Z H1 λvs H2=>t (x::vs) H2:=pC ⟨F,A,U,rs,U1,k,q,w⟩
 obtain⟨x,Ai,C',g1,g2,g3,g4⟩:=k.os.take h;obtain⟨a,dx,gs,Ap,rfl,rfl,q1,q2,q3,q4⟩:=Ef g2;refine⟨_,g1,a,dx,gs,rfl,q1,?_,?_⟩
 ·cases z:gs.lookup m with
  |none=>rfl
  |some v=>
   have:m∈gs.map (·.1):=by
    clear q1 q3 q4 g2 tt w
    induction gs with
    |nil=>cases z
    |cons p gs ih=>
     obtain⟨g,y⟩:=p;rw[o9] at z;by_cases e:m=g
     ·subst e;simp
     ·rw[beq_false_of_ne e] at z;exact lu _ (ih z)
   rw[q3] at this;exact absurd (List.mem_of_mem_take this) hm
 ·obtain⟨r1,U2,CB,e1,e2,rfl⟩:=GI q;have ev:aa i U=some (.var i,U):=by unfold aa;rw[h]
  rw[ev] at e1;cases e1;refine⟨F,A,U,CB,U1,k,e2,λvs H2 pp=>w _ H2 ?_⟩
  obtain⟨F2,A2,x2,k2,hh⟩:=pp;exact⟨F2,A2,x2,⟨k2.le,.skip k2.os,k2.nd,k2.fr⟩,g1,hh⟩
theorem QS{E:XK}(e:bN M fs U=some (r,U'))(w:∀v H',dW K F H A Z U' [r] [v] H'->Q v H')(hn:∀rs U U',fs U=some (rs,U')->rs.length=n):∃rs U1,fs U=some (rs,U1)/\∀vs H',dW K F H A Z U1 rs vs H'->dB K n M vs H' Q E:=by
 obtain⟨⟨rs,U1⟩,q,e⟩:=cV.mp e;obtain⟨⟨os,U2⟩,q2,e⟩:=cV.mp e;obtain⟨⟨o',fin⟩,q3,e⟩:=cV.mp e;cases e;refine⟨rs,U1,q,λvs H1 pp=>?_⟩
 obtain⟨F1,A1,x,k1,hh⟩:=pp;obtain⟨A4,k4,back⟩:=LX k1 hh q2;refine⟨by rw[<-hh.length];exact hn rs U U1 q,F1,A4,os,o',fin,k4,q3,λv H' ⟨F5,A5,x5,k5⟩=>?_⟩
 obtain⟨A7,x7,k7⟩:=back F5 H' A5 [some v] [some o'] fin rfl x5 k5;exact w v H' ⟨F5,A7,x.trans x7,k7,True.intro⟩
theorem Np(t:tG K (c7 M Ch ns i fs) Z H Q)(hm:m∉ns)(hn:∀rs U U',fs U=some (rs,U')->rs.length=n):r9 Ch m (dB K (n+1) M) [] E1 (kJ i) (gZ K fs) Z H Q:=by
 obtain⟨F,A,U,r,U',k,e,w⟩:=t;obtain⟨qs,h,e⟩:=RU e;obtain⟨rs,U1,q,w'⟩:=QS (n:=n+1) (E:=E0) e w (aN hn);obtain⟨x,g1,a,dx,gs,q1,q2,q3,q4⟩:=RV (t:=λvs H'=>dB K (n+1) M vs H' Q E0) k h hm q w'
 exact⟨x,g1,a,dx,gs,q1,q2,q3,by simpa only[d_] using q4⟩
structure MethAt (K:L2.FG) (C:Addr) (m qual:Str) (st:Stmt) (f:Addr) (fd:FuncData) (ps:List Str):Prop where
 fn:e_ K m qual st f fd
 mt:Meth K C m f
 bd:Binds K fd ps []
theorem wm(ho:PE X o (kJ i))(c:mr X.K Ch)(D:MethAt X.K Ch m qual st f fd ps)(Fn:aT X.prog X.w X.K X.mg X.base dz k f fd ps (dB K (n+1) M))(hr:cA k X.A)(hm:m∉ns)(ha:PA X (e::es) (gZ K fs))(hn:∀rs U U',fs U=some (rs,U')->rs.length=n)
  (sT:starEach (e::es) X.env=(false,eval e X.env)::starEach es X.env:=by rfl) (jM:(backTo pos (starEach es X.env)).any (·.1)=false:=by rfl)
  (ht:eval (.Call (.Attribute o m apos) (e::es) [] pos) X.env=(do
   let ov <-eval o X.env
   standAt apos.atName
   let (f,first) <-holding [ov] (getMethod ov m pl)
   callWith pos f first (backTo pos (starEach (e::es) X.env)) (backToKw pos (keywordEach [] X.env))):=by rfl) :
  PE X (.Call (.Attribute o m apos) (e::es) [] pos) (tG K (c7 M Ch ns i fs)):=(UO ho c D.mt Fn hr D.bd .nil oX ha sT jM ht).mono λ_ _ _ t=>Np t hm hn
theorem Aj(ho:PE X o (kJ i))(c:mr X.K Ch)(D:MethAt X.K Ch m qual st f fd ps)(Fn:aT X.prog X.w X.K X.mg X.base dz k f fd ps (dB K 1 M))(hr:cA k X.A)(hm:m∉ns)
  (ht:eval (.Call (.Attribute o m apos) [] [] pos) X.env=(do
   let ov <-eval o X.env
   standAt apos.atName
   let (f,first) <-holding [ov] (getMethod ov m pl)
   callWith pos f first (backTo pos (starEach [] X.env)) (backToKw pos (keywordEach [] X.env))):=by rfl) :
  PE X (.Call (.Attribute o m apos) [] [] pos) (tG K (c7 M Ch ns i gN)):=(S9 ho c D.mt Fn hr D.bd .nil oX ht).mono λZ H Q t=>by
 obtain⟨x,g1,a,dx,gs,q1,q2,q3,F,A,U,rs,U',k,ee,w⟩:=Np (n:=0) t hm cO;cases ee;exact⟨x,g1,a,dx,gs,q1,q2,q3,w [] H ⟨F,A,Ext.refl,k,True.intro⟩⟩
noncomputable def um(r:O×Gm):Option (O×Gm):=match r.1,r.2 with
 |.Y .aI,some o::fin=>some (o,fin)
 |_,_=>none
noncomputable def oP(M:GM)(Ch:Addr)(ns:List Str)(fs:GA):GE:=λU=>(fs U).bind λp=>(mz p.1 p.2).bind λq=>(M (.ins Ch ns []::q.1)).bind λr=>(um r).bind λz=>some (.own z.1,nP p.1 z.2 q.2)
theorem VA(t:tG K (oP M Ch ns fs) Z H Q)(hn:∀rs U U',fs U=some (rs,U')->rs.length=n):vF Ch (dB K (n+1) M) [] E1 (gZ K fs) Z H Q:=by
 obtain⟨F,A,U,r,U',k,e,w⟩:=t;obtain⟨⟨rs,U1⟩,q,e⟩:=cV.mp e;obtain⟨⟨os,U2⟩,q2,e⟩:=cV.mp e;obtain⟨⟨o',fin⟩,q3,e⟩:=cV.mp e;obtain⟨⟨oi,fin2⟩,q4,e⟩:=cV.mp e;cases e;obtain⟨rfl,rfl⟩:o'=.Y .aI/\fin=some oi::fin2:=by
  unfold um at q4;split at q4
  ·rename_i h1 h2
   cases q4;exact⟨h1,h2⟩
  ·cases q4
 refine⟨F,A,U,rs,U1,k,q,λvs H1 pp x dx hx hd ne=>?_⟩
 show dB K (n+1) M (.ref x::(vs++[])) _ _ _;rw[d_];obtain⟨F1,A1,x1,k1,hh⟩:=pp;obtain⟨A4,k4,back⟩:=LX k1 hh q2;have s1:aH H1 (upd (upd H1 dx (.own x)) x (.ins Ch dx [])):=λb u g=>by rw[cK (lU g hx),cK (lU g hd)];exact g
 have w1:ai K F1 (upd (upd H1 dx (.own x)) x (.ins Ch dx [])) [some (.ref x)] [some (.ins Ch ns [])] [x,dx]:=Ey (ps:=[]) iU (by rw[cK ne,iU]) rfl .nil
 obtain⟨k5,x5⟩:=k4.push s1 w1 (by simp[Ne.symm ne]) (λb m=>by simp at m;rcases m with rfl|rfl <;> assumption)
 refine⟨by simp only[jV];rw[<-hh.length,hn rs U U1 q],F1,_,.ins Ch ns []::os,.Y .aI,some oi::fin2,k5,q3,λv H' ⟨F6,A6,x6,k6⟩=>?_⟩
 obtain⟨B,C,h1,h2,h3⟩:=ai.one k6.os;have ev:v=.aI:=by
  cases h1 with
  |Y rp _=>
   cases rp with
   |flat z _=>cases z;rfl
 obtain⟨A7,k7,sub⟩:=OK.part (τ:=[some v]) (Θ:=[some (O.Y .aI)]) k6 rfl;obtain⟨A8,x8,k8⟩:=back F6 H' A7 [some (.ref x)] [some oi] fin2 rfl ((x5.trans x6).iX sub) k7;exact⟨ev,w _ H' ⟨F6,A8,x1.trans x8,k8,True.intro⟩⟩
theorem VB{x:Str}(PR:Mk X.K Ch f)(hmg:X.mg x=some (.ref Ch))(Fn:aT X.prog X.w X.K X.mg X.base dz k f fd ps (dB K (n+1) M))(hb:Binds X.K fd ps [])(hr:cA (k+1) X.A)(ha:PA X (e::es) (gZ K fs))(hn:∀rs U U',fs U=some (rs,U')->rs.length=n)(hg:Gl X x:=by rfl)
  (lW:(x == ("__debug__":Str))=false:=by decide) (he:starEach (e::es) X.env=(false,eval e X.env)::starEach es X.env:=by rfl) (jM:(backTo pos (starEach es X.env)).any (·.1)=false:=by rfl) :
  PE X (.Call (.Name x p) (e::es) [] pos) (tG K (oP M Ch ns fs)):=(UP PR Fn hr hg hmg hb .nil oX ha lW he jM).mono λ_ _ _ t=>VA t hn
end
end L2
namespace L2
open PySem PySem.Spec PySem.W PySem.Calls PyProof.Rows
variable{P:Program}{w:World}{to:TE}{p apos aV pos:Pos}{K:Frag}{fo:GE}{vs:List Value}{n x1:Nat}{Q:Value->Shared->Prop}{elts:List Expr}
def jR(es:List (TK×V×V)):Prop:=∀e∈es,∃x,e.1=.inr x/\e.2.1=.str x
theorem VC{es:List (TK×V×V)}{xs:List DictEntry}(p:Paired (jy w) es xs)(h:jR es):∃kvs:List (Str×Value),(∀x∈xs,∃k,(strKind P w).is k x.key=true/\x.hash=(strKind P w).hash k)/\Pairs (strKind P w) xs kvs/\kvs.map (λp=>TK.inr p.1)=es.map (·.1)/\Vals (es.map (·.2.2)) (kvs.map (·.2)):=by
 induction p with
 |nil=>exact⟨[],by simp,.nil,rfl,.nil⟩
 |@cons e x es xs r t ih=>
  obtain⟨kvs,h1,h2,h3,h4⟩:=ih λe m=>h e (lu _ m)
  obtain⟨z,e1,e2⟩:=h e (qN ..);obtain⟨r1,r2,r3,r4⟩:=r;rw[e2] at r2;obtain⟨t',r2⟩:=r2;have hk:(strKind P w).is z x.key=true:=by rw[r2];show Value.isStrOf z (.str z t')=true;simp[Value.isStrOf]
  refine⟨(z,x.val)::kvs,λy m=>?_,.cons hk rfl h2,by rw[cv,cv,h3,e1],.cons r3 h4⟩
  rcases dZ.mp m with rfl|m
  ·exact⟨z,hk,by rw[r1,e1];rfl⟩
  ·exact h1 y m
section
variable {X:Cx} {pins:List (Addr×Obj)} {Z:St} {H:Hp} {s:Shared} {d:Addr} {es:List (TK×V×V)} {ep:Nat}
theorem AA(I:Inv X pins Z H s)(hd:H d=some (.dG es ep))(ht:jR es):∃kvs,s.heap.DictAt (strKind X.prog X.w) d kvs ep/\Vals (es.map (·.2.2)) (kvs.map (·.2))/\kvs.map (λp=>TK.inr p.1)=es.map (·.1)/\kvs.length<=sizeLine/\(d == sysModules)=false:=by
 obtain⟨hz,lo,ob,xs,g1,g5,g2,g3,g4⟩:=(show cb X.prog X.w H s.heap d (.dG es ep) from I.cx d _ hd);obtain⟨kvs,h1,h2,h3,h4⟩:=VC (P:=X.prog) g3 ht;refine⟨kvs,⟨ob,xs,g1,g5,g2,λx m=>h1 x (Array.mem_toList_iff.mpr m),h2,?_⟩,h4,h3,?_,lo⟩
 ·rw[<-h3] at g4;rw[show(λp:Str×Value=>TK.inr p.1)=TK.inr∘(·.1) from rfl,<-jx] at g4
  exact List.Pairwise.of_map _ (λa b ne z=>ne (by rw[z])) g4
 ·have:=congrArg List.length h3;rw[bB,bB] at this;lia
theorem Eg(I:Inv X pins Z H s)(hd:H d=some (.dG es ep)):s.TypeIs (.ref d) "dict"/\∀a,Value.ref d=.ref a->∃ob,s.heap.get? a=some ob/\ob.dict=none:=
 NV (x:=.ref d) I rfl (.inr (.inr (.inl ⟨rfl,.inr (.inr ⟨es,ep,hd⟩)⟩)))
theorem QT{ys:List V}{kvs:List (Str×Value)}{acc:Array Value}(rv:Vals ys (kvs.map (·.2)))(h:ItemsOf (λi v=>∃k,kvs[i]?=some (k,v)) acc kvs.length):Vals ys acc.toList:=by
 have e:acc.toList=kvs.map (·.2):=by
  apply List.ext_getElem?;intro i;by_cases hi:i < acc.toList.length
  ·have EY:i < acc.size:=by simpa using hi
   obtain⟨k,hk⟩:=h.2 i acc[i] (vL EY);rw[iz,hk,zw,vL EY];rfl
  ·rw[KN (by lia),KN (by rw[bB];have:=h.1;simp at hi;lia)]
 rw[e];exact rv
def W8(to:TE):TE:=λZ H Q=>to Z H λx H1=>∃d es ep,x=.ref d/\H1 d=some (.dG es ep)/\jR es/\∀q,H1 q=none->Q (.ref q) (upd H1 q (.lst (es.map (·.2.2))))
theorem TR{o:Expr}(rF:Gl X "list")(JO:X.mg "list"=none)(ho:PE X o to)(hc:X.calm=true)
  (hs:starEach [.Call (.Attribute o "values" apos) [] [] aV] X.env=[(false,eval (.Call (.Attribute o "values" apos) [] [] aV) X.env)]:=by rfl)
  (dS:attributeBase o "values" X.env (eval o X.env)=eval o X.env:=by rfl) (dU:(apos.endLine == aV.line)=true:=by rfl):PE X (.Call (.Name "list" p) [.Call (.Attribute o "values" apos) [] [] aV] [] pos) (W8 to):=by
 intro pins s Z H Q I h;refine Call_ (wo I rF JO uP (PyProof.Rows.callWith_type1 ?_ hs rfl));rw[hs];show wpAny _ _ (spliced ((false,eval (.Call (.Attribute o "values" apos) [] [] aV) X.env)::[])) _ _ s;refine Calls.spliced_cons (wpAny_Call_method0_late dS dU (ck (ho pins s Z H _ I h) λv s1 hh=>?_))
 obtain⟨x,H1,I1,r1,d,es,ep,rfl,hd,ht,q⟩:=hh;cases r1;obtain⟨t1,t2⟩:=Eg I1 hd;obtain⟨kvs,D1,D2,D3,D4,lo⟩:=AA I1 hd ht;refine⟨"dict","dict.values",PySem.F.plainAttrs_dict,PySem.F.slot_dict_values,PySem.F.type_dict_values,t1,t2,Calls.callWith_builtin rfl (PySem.evalArgs_none ?_)⟩;refine call_meetsIn PySem.F.slot_dict_values t1 PySem.F.entry_dict_values (PySem.F.args_dict_values_1 _) (meets_dict_values (strKind X.prog X.w) d lo) ⟨⟨kvs,D1.dictOf⟩,?_⟩;refine Calls.spliced_nil ?_;refine kdl_call (kdl_values (knd:=strKind X.prog X.w) (r:=s1.heap.objs.size) (d:=d) (kvs:=kvs) (ep:=ep)) (I1.ok.hd hc) ⟨⟨_,mG _ rfl,rfl,rfl⟩,D1.push _⟩ D4 λh' tk acc c kp hg hi=>?_
 have sz:(s1.heap.push { cls:=.type "dict_values",data:=.fields #[.ref d]}).objs.size=s1.heap.objs.size+1:=by simp[Heap.push]
 rw[show({ s1 with heap:=s1.heap.push { cls:=.type "dict_values",data:=.fields #[.ref d]}}:Shared).heap.objs.size=s1.heap.objs.size+1 from sz] at hg ⊢;have rv:=QT D2 hi;refine⟨.ref (s1.heap.objs.size+1),_,I1.laid (t':=tk) (λb o e=>kp b o (iK _ e)) (zp _) (show cb X.prog X.w _ h' _ (.lst (es.map (·.2.2))) from⟨?_,acc.toList,c,rv,by simpa using hg⟩),rfl,q _ (I1.cx.fresh (zp _))⟩
 have:=congrArg List.length D3;rw[bB,bB] at this;rw[bB];lia
noncomputable def kx:TK->Bool
 |.inr _=>true
 |_=>false
noncomputable def kF:List O->Option O
 |[.aK kvs]=>if kvs.all (λp=>kx p.1)=true then(fY (kvs.map (·.2))).map λds=>.lst (ds.map .Y) else none
 |_=>none
theorem Ez{K:Frag}{F:Hp}:∀{ws:List (TK×V×V)} {ks:List TK},ws.map (·.1)=ks->au K F (ws.map (·.2.1)) (ks.map (·.d))->ks.all kx=true->jR ws
 |[],_,_,_,_=>λe m=>nomatch m
 |w::ws,[],e,_,_=>by cases e
 |w::ws,k::ks,e,r,a=>by
  rw[cv,List.cons.injEq] at e;obtain⟨e1,e2⟩:=e;rw[Fv,qb] at a;rw[cv,cv] at r;intro y m;rcases dZ.mp m with rfl|m
  ·cases k with
   |inr x=>
    refine⟨x,e1,?_⟩;have:=r.inv.1;obtain⟨y1,y2,y3⟩:=y;dsimp only at this ⊢;cases this with
    |flat z _=>cases z;rfl
   |inl _=>cases a.1
   |tp _=>cases a.1
  ·exact Ez e2 r.inv.2 a.2 y m
theorem VD:cD K (λxs H Q=>∃d es ep,xs=[.ref d]/\H d=some (.dG es ep)/\jR es/\∀q,H q=none->Q (.ref q) (upd H q (.lst (es.map (·.2.2))))) kF:=by
 intro F H vs os o Q le eD e res;unfold kF at e;split at e
 ·rename_i kvs
  split at e
  ·rename_i ha
   obtain⟨x,B,rfl,h1⟩:=eD.one;obtain⟨ds,q1,q2⟩:=jP.mp e;subst q2;cases h1 with
   |@aK a ws _ ep A1 B1 _ _ hd hk rk ch t=>
    rw[show kvs.map (λp=>p.1.d)=(kvs.map (·.1)).map (·.d) by rw[jx];rfl] at rk
    have II:ai K F H ((ws.map (·.2.2)).map some) ((kvs.map (·.2)).map some) A1:=by rw[jx,jx];exact ch
    exact⟨a,ws,ep,rfl,hd,Ez hk rk (by rw[Fw];exact ha),λq hq=>res.lst (ye II q1) hq⟩
  ·cases e
 ·cases e
theorem TU{o:Expr}(JO:X.mg "list"=none)(ho:PE X o (tG K fo))(hc:X.calm=true:=by rfl)(rF:Gl X "list":=by rfl)
  (hs:starEach [.Call (.Attribute o "values" apos) [] [] aV] X.env=[(false,eval (.Call (.Attribute o "values" apos) [] [] aV) X.env)]:=by rfl)
  (dS:attributeBase o "values" X.env (eval o X.env)=eval o X.env:=by rfl) (dU:(apos.endLine == aV.line)=true:=by rfl):PE X (.Call (.Name "list" p) [.Call (.Attribute o "values" apos) [] [] aV] [] pos) (tG K (gO kF (ao fo gN))):=
 (TR rF JO ho hc hs dS dU).mono λZ H Q t=>by
  have t1:=pC (EF VD t);refine tG.mono t1 λv H1 h=>?_
  obtain⟨F,A,U,rs,U',k,e,w⟩:=h;cases e;obtain⟨d,es,ep,ee,r⟩:=w [] H1 ⟨F,A,Ext.refl,k,True.intro⟩;cases ee;exact⟨d,es,ep,rfl,r⟩
end
section
variable {prog:Program} {w:World} {A:Around} {E:Value->Shared->Prop} {s:Shared}
theorem N9(h:vs.length < 2):(arrOf (SortSt.mk' general' (vs.toArray.zip vs.toArray) #[] 7 none)).map (·.2)=vs.toArray:=by
 show((vs.toArray.zip vs.toArray).map (·.2))=vs.toArray
 match vs,h with
 |[],_=>simp
 |[_],_=>simp
theorem QU{a:Addr}{P:Fin->Shared->Prop}(ho:s.heap.get? a=some (seqObj "list" vs.toArray n))(h1:vs.length < 2)
  (h:P (.done (.ret .none)) { s with heap:=sortedHeap s.heap a vs vs.toArray}):wpAny (model prog w) A (Builtin.«list.sort» ⟨[.ref a],[]⟩) P E s:=by
 rw[list_sort_plain];have ha:a < s.heap.objs.size:=fF ho;have hz:vs.length<=sizeLine:=by rw[sizeLine_eq];lia
 refine wpAny_bind (listItems_at ho rfl ?_);refine wpAny_bind (listUpdate_at ho rfl ?_ (by rw[eI];exact hz) (mE _))
 obtain⟨e1,xj⟩:∃e1,(s.heap.update a (Obj.mapSeq λ_=>#[])).get? a=some (seqObj "list" #[] e1):=⟨_,get?_update_seq ho (λ_=>#[])⟩
 refine wpAny_bind (seqEpoch_at xj rfl ?_);refine wpAny_bind (wpAny_newTuple ?_ (by show vs.length<=_;exact hz))
 refine wpAny_bind (wpAny_newList ?_ (mE _));refine wpAny_holding ?_;have xk:(((s.heap.update a (Obj.mapSeq λ_=>#[])).push (seqObj "tuple" vs.toArray 0)).push (seqObj "list" #[] 0)).get? a=some (seqObj "list" #[] e1):=by
  rw[C6 _ _ _ (by rw[size_push',Fy];exact i8 (CW ha)),C6 _ _ _ (by rw[Fy];exact i8 ha)]
  exact xj
 show wpAny (model prog w) A _ P E { s with heap:=((s.heap.update a (Obj.mapSeq λ_=>#[])).push (seqObj "tuple" vs.toArray 0)).push (seqObj "list" #[] 0)}
 dsimp only;have h2:vs.toArray.size < 2:=by simpa using h1
 rw[if_pos h2,if_pos h2];refine wpAny_bind (wpAny_pure ?_);rw[StateT.run_pure];refine wpAny_bind (wpAny_pure ?_);dsimp only;refine wpAny_bind (seqEpoch_at xk rfl ?_);refine wpAny_bind (listUpdate_at xk rfl ?_ (mE _) (by rw[N9 h1,eI];first|exact hz|exact Nat.le_succ_of_le hz))
 simp only[bne_self_eq_false,uE,if_false];rw[N9 h1];exact wpAny_pure h
theorem TV{h0:Heap}(h1:vs.length < 2)(h:∀h' c,(∀b o,h0.get? b=some o->h'.get? b=some o)->h'.get? h0.objs.size=some (seqObj "list" vs.toArray c)->Q (.ref h0.objs.size) { s with heap:=h'}):
  wpAny (model prog w) A (call (.builtin "list.sort") [.ref h0.objs.size]) (λ_ s'=>Q (.ref h0.objs.size) s') E { s with heap:=h0.push (seqObj "list" vs.toArray 0)}:=by
 have ho:(h0.push (seqObj "list" vs.toArray 0)).get? h0.objs.size=some (seqObj "list" vs.toArray 0):=mG _ rfl;refine wpAny_call_entry slot_list_sort ⟨_,ho,rfl⟩ entry_list_sort ?_ (args_list_sort _);refine QU (s:={ s with heap:=h0.push (seqObj "list" vs.toArray 0)}) ho h1 ⟨_,rfl,?_⟩;have lt:h0.objs.size < (h0.push (seqObj "list" vs.toArray 0)).objs.size:=fF ho;obtain⟨e1,xj⟩:∃e1,((h0.push (seqObj "list" vs.toArray 0)).update h0.objs.size (Obj.mapSeq λ_=>#[])).get? h0.objs.size=some (seqObj "list" #[] e1):=⟨_,get?_update_seq ho (λ_=>#[])⟩
 have xk:((((h0.push (seqObj "list" vs.toArray 0)).update h0.objs.size (Obj.mapSeq λ_=>#[])).push (seqObj "tuple" vs.toArray 0)).push (seqObj "list" #[] 0)).get? h0.objs.size=some (seqObj "list" #[] e1):=iK _ (iK _ xj)
 have Zm:=get?_update_seq xk (λ_=>vs.toArray)
 refine h _ _ (λb o e=>?_) Zm
 have nb:b≠h0.objs.size:=i8 (fF e);unfold sortedHeap;rw[Fz _ _ _ _ nb];refine iK _ (iK _ ?_);rw[Fz _ _ _ _ nb];exact iK _ e
theorem RX{P:List Value->Prop}{r:Addr}(h1:∀vs,P vs->vs.length < 2)(hc:∀R:List Value->Shared->Prop,(∀vs (h':Heap) (tk:Nat),P vs->(∀b o,s.heap.get? b=some o->h'.get? b=some o)->R vs { s with heap:=h',toks:=tk})->wpAny (model prog w) A.in1 (collect (.ref r)) R E s)
  (h:∀vs (h0:Heap) (tk:Nat),P vs->(∀b o,s.heap.get? b=some o->h0.get? b=some o)->∀(h':Heap) (c:Nat),(∀b o,h0.get? b=some o->h'.get? b=some o)->h'.get? h0.objs.size=some (seqObj "list" vs.toArray c)->Q (.ref h0.objs.size) { s with heap:=h',toks:=tk}):wpAny (model prog w) A (call (.builtin "sorted") [.ref r]) Q E s:=by
 refine Calls.call_function_entry kind_sorted plain_sorted entry_sorted (args_sorted1 _) ?_;unfold Builtin.«sorted»;refine wpAny_bind (m:=checkCount "sorted" 1 1 _) (wpAny_pure ?_);refine wpAny_bind (hc _ λvs h' tk hP kp=>?_)
 have hl:=h1 vs hP;refine wpAny_bind (wpAny_newList ?_ (by rw[sizeLine_eq];lia))
 refine wpAny_bind (wpAny_holding (wpAny_mono (TV (s:={ s with heap:=h',toks:=tk}) (h0:=h') (vs:=vs) (Q:=λv s'=>Q v s') hl λh2 c qI hg=>h vs h' tk hP kp h2 c qI hg) (λ_ s' x=>?_) λ_ _ e=>e))
 exact wpAny_pure ⟨_,rfl,x⟩
end
section
variable {X:Cx} {K:Frag}
theorem RY:bootBuiltins "sorted"=some (.builtin "sorted"):=by decide +kernel
theorem Mu:∀{ys:List V} {us:List Value},ys.length=us.length->(∀(j:Nat) (y:V) (u:Value),ys[j]?=some y->us[j]?=some u->RelV y u)->Vals ys us
 |[],[],_,_=>.nil
 |[],_::_,h,_=>by simp at h
 |_::_,[],h,_=>by simp at h
 |y::ys,u::us,h,r=>.cons (r 0 y u rfl rfl) (Mu (by simpa using h) λj y' u' e1 e2=>r (j+1) y' u' (by simpa using e1) (by simpa using e2))
def N_(K:Frag):List V->Hp->VK->Prop:=λxs H Q=>∃a ys,xs=[.ref a]/\(dq K H a ys\/∃es ep,H a=some (.dG es ep)/\jR es/\ys=es.map (·.2.1))/\ys.length < 2/\∀l,H l=none->Q (.ref l) (upd H l (.lst ys))
theorem Qq(hc:X.calm=true):cJ X (.builtin "sorted") (N_ X.K):=by
 intro pins s Z H xs us Q I r h;obtain⟨a,ys,rfl,hq,hl,q⟩:=h;obtain⟨u,rfl,ru⟩:=Vals.one r;cases ru;refine RX (P:=Vals ys) (λvs rv=>by have:=rv.length;lia) ?_ λvs h0 tk rv kp h' c qI hg=>?_
 ·intro R hR;rcases hq with hq|⟨es,ep,hd,ht,rfl⟩
  ·obtain⟨aG,rv,pl,hz⟩:=I.list hq;refine collect_list pl.isList (hR aG _ s.toks rv λb o e=>?_) (by have:=rv.length;rw[sizeLine_eq];lia)
   have nb:b≠s.heap.objs.size:=i8 (fF e);rw[Fz _ _ _ _ nb];exact iK _ e
  ·obtain⟨kvs,D1,D2,D3,D4,lo⟩:=AA I hd ht;have l1:kvs.length=es.length:=by have:=congrArg List.length D3;simpa using this
   refine kdu_collect (kdl_dict (knd:=strKind X.prog X.w) (kvs:=kvs) (ep:=ep) lo) (I.ok.hd hc) D1 D4 λh' tk acc kp hi=>hR _ h' tk ?_ kp
   refine Mu (by have:=hi.1;rw[bB,<-l1,<-this];simp) λj y u e1 e2=>?_
   rw[iz] at e1;obtain⟨e,e3,rfl⟩:=jP.mp e1;obtain⟨z,z1,z2⟩:=ht e (zq e3);obtain⟨k,v,k1,k2⟩:=hi.2 j u (by rw[<-zw];exact e2)
   have k3:(kvs.map (λp=>TK.inr p.1))[j]?=(es.map (·.1))[j]?:=by rw[D3]
   rw[iz,iz,k1,e3] at k3;have k4:TK.inr k=e.1:=Option.some.inj k3;rw[z1] at k4;cases k4;rw[z2];exact Value.isStrOf_shape k2
 ·have e:=rv.length;have I0:Inv X pins Z H { s with heap:=h0,toks:=tk}:=I.kept kp;have I1:=I0.laid (h':=h') (t':=tk) (o:=.lst ys) qI (cP _) (show cb X.prog X.w _ h' _ (.lst ys) from⟨by rw[sizeLine_eq];lia,vs,c,rv,hg⟩)
  exact⟨.ref h0.objs.size,_,I1,rfl,q _ (I0.cx.fresh (cP _))⟩
end
theorem P0:entryFor table "dict_itemiterator.__iter__"=some Builtin.«dict_keyiterator.__iter__»:=
 entryFor_alias (id':="dict_keyiterator.__iter__") (by kernel_rfl) rfl (by decide +kernel) (by kernel_rfl)
section
variable {prog:Program} {w:World} {A:Around} {E:Value->Shared->Prop} {s:Shared} {it d:Addr} {kvs:List (Str×Value)} {ep:Nat}
theorem K8{i ep:Nat}{ok ov:Value}(hit:IsItemIter s.heap it d i n ep ok ov)(h:Q (.ref it) s):wpAny (model prog w) A (pyIter (.ref it)) Q E s:=by
 have hT:s.TypeIs (.ref it) "dict_itemiterator":=⟨_,hit,rfl⟩;refine wpAny_pyIter_slot hT PySem.F.slot_dict_itemiterator_iter (wpAny_call_entry PySem.F.slot_dict_itemiterator_iter hT P0 ?_ (PySem.F.args_dict_itemiterator_iter_1 _));show wpAny _ _ (ret (.ref it)) _ _ s;exact wpAny_pure ⟨_,rfl,"dict_itemiterator",_,hT,PySem.F.slot_dict_itemiterator_next.lookup,h⟩
theorem Qx(hh:A.handled=none)(it d:Addr)(lH:d≠it)(kvs:List (Str×Value))(ep:Nat):
  WalksT prog w A it [it,d] [it] kvs.length (λi vals=>∃k x key,kvs[i]?=some (k,x)/\(PySem.strKind prog w).is k key=true/\vals=#[key,x])
   (λi h=>(∃ok ov,IsItemIter h it d i kvs.length ep ok ov)/\h.DictAt (PySem.strKind prog w) d kvs ep)
   (λi T h=>(∃ok ov,IsItemIterOut h it d (i+1) kvs.length ep ok ov T)/\T≠it/\h.DictAt (PySem.strKind prog w) d kvs ep) where
 sub:=λb hb=>by simp at hb;simp[hb]
 frame:=λi h h' ⟨⟨ok,ov,a⟩,b⟩ k=>⟨⟨ok,ov,k it (by simp) _ a⟩,b.at' λo e=>k d (by simp) o e⟩
 item:=λi s Q E hi ⟨⟨ok,ov,a⟩,b⟩ hQ=>by
  obtain⟨⟨k,x⟩,hx⟩:∃p,kvs[i]?=some p:=⟨kvs[i],by simp[hi]⟩
  have lt:it < s.heap.objs.size:=fF a;refine wpAny_pyNext_items_item a b hx λkey h' hk o1 o2 o3 kp=>?_
  exact hQ s.heap.objs.size #[key,x] h' s.toks ⟨k,x,key,hx,hk,rfl⟩ (cP _) ⟨_,o2,rfl,_,rfl⟩ ⟨⟨_,_,o1⟩,CV lt,b.at' λo e=>kp d o lH e⟩ λb o hb e=>kp b o (λz=>hb (by simp[z])) e
 go:=λelts k pos i T s Q E ⟨⟨ok,ov,a⟩,b,c⟩ hQ=>wpAny_letOwnedTupleGo_items a λh' a' sb=>hQ h' ⟨⟨ok,ov,a'⟩,c.at' λo e=>(sb.2 d lH).trans e⟩ λb o hb e=>(sb.2 b (λz=>hb (by simp[z]))).trans e
 apart:=λi T h ⟨_,b,_⟩=>by simpa using b
 done:=λs Q E ⟨⟨ok,ov,a⟩,b⟩ hQ=>wpAny_pyNext_items_end hh a b (by simp) λh' eb=>hQ h' s.toks λb o hb e=>eb b o (λz=>hb (by simp[z])) e
 self:=λi s Q E ⟨⟨ok,ov,a⟩,_⟩ hQ=>K8 a hQ
end
def CU(es:List (TK×V×V))(i:Nat)(ws:List V):Prop:=∃e,es[i]?=some e/\ws=[e.2.1,e.2.2]
theorem QV{it d:Addr}(lH:d≠it)(es:List (TK×V×V))(ep:Nat):
  Turn P w K (.Tuple elts x1 pos) (tq (λH=>H d=some (.dG es ep)/\jR es) es.length (CU es)) [it] it (λi h=>i<=es.length/\∃ok ov,IsItemIter h it d i es.length ep ok ov):=by
 refine LW (FP:=[it]) (wr:=[it]) (by simp) (λb hb=>hb) (λi h st b hb=>?_) (λi h h' st k=>?_) (λX hP hw hK hc pins s Z H I hS=>?_) (λA i s Q E st h=>?_)
 ·obtain⟨ok,ov,a⟩:=st;cases qO.mp hb;exact⟨_,a,λv z=>by cases z⟩
 ·obtain⟨ok,ov,a⟩:=st;exact⟨ok,ov,k it (by simp) _ a⟩
 ·subst hP hw hK;obtain⟨kvs,D1,D2,D3,D4,lo⟩:=AA I hS.1 hS.2;have l1:kvs.length=es.length:=by have:=congrArg List.length D3;simpa using this
  have W:=Qx (prog:=X.prog) (w:=X.w) (A:=X.A) (I.ok.hd hc) it d lH kvs ep;rw[l1] at W;refine⟨_,_,_,_,W,λi st=>⟨st,D1⟩,λi h st=>st.1,λi vals hp=>?_⟩
  obtain⟨k,x,key,k1,k2,rfl⟩:=hp;have hi:i < es.length:=by have:=(iq.mp k1).1;lia
  have e3:es[i]?=some es[i]:=jW hi;refine⟨[es[i].2.1,es[i].2.2],⟨_,e3,rfl⟩,.cons ?_ (.cons ?_ .nil),by show 2<=10;decide⟩
  ·obtain⟨z,z1,z2⟩:=hS.2 es[i] (se hi);have k3:(kvs.map (λp=>TK.inr p.1))[i]?=(es.map (·.1))[i]?:=by rw[D3]
   rw[iz,iz,k1,e3] at k3;have k4:TK.inr k=es[i].1:=Option.some.inj k3;rw[z1] at k4;cases k4;rw[z2];exact Value.isStrOf_shape k2
  ·obtain⟨u,u1,u2⟩:=D2.get (i:=i) (x:=es[i].2.2) (by rw[iz,e3];rfl)
   rw[iz,k1] at u1;cases u1;exact u2
 ·obtain⟨ok,ov,a⟩:=st;exact K8 a h
def N'(to:TE):TI:=λZ H R=>to Z H λx H1=>∃d es ep,x=.ref d/\H1 d=some (.dG es ep)/\jR es/\R (tq (λH=>H d=some (.dG es ep)/\jR es) es.length (CU es)) H1
section
variable {X:Cx} {K:Frag}
theorem TX{i6:Pos}{o:Expr}(ho:PE X o to)(dS:attributeBase o "items" X.env (eval o X.env)=eval o X.env:=by rfl)(dU:(apos.endLine == aV.line)=true:=by rfl):
  PI X (.Tuple elts x1 i6) (.Call (.Attribute o "items" apos) [] [] aV) (N' to):=by
 intro pins s Z H R I h;refine wpAny_Call_method0_late dS dU (ck (ho pins s Z H _ I h) λv s1 hh=>?_)
 obtain⟨x,H1,I1,r1,d,es,ep,rfl,hd,ht,q⟩:=hh;cases r1;obtain⟨t1,t2⟩:=Eg I1 hd;obtain⟨kvs,D1,D2,D3,D4,lo⟩:=AA I1 hd ht;have l1:kvs.length=es.length:=by have:=congrArg List.length D3;simpa using this
 have ld:d < s1.heap.objs.size:=D1.lt_size;refine⟨"dict","dict.items",PySem.F.plainAttrs_dict,PySem.F.slot_dict_items,PySem.F.type_dict_items,t1,t2,Calls.callWith_builtin rfl (PySem.evalArgs_none ?_)⟩;refine call_meetsIn PySem.F.slot_dict_items t1 PySem.F.entry_dict_items (PySem.F.args_dict_items_1 _) (meets_dict_items (PySem.strKind X.prog X.w) d lo) ⟨⟨kvs,D1.dictOf⟩,?_⟩;refine wpAny_pyIter_items (knd:=PySem.strKind X.prog X.w) (v:=s1.heap.objs.size) (d:=d) (kvs:=kvs) (ep:=ep) ⟨_,mG _ rfl,rfl,rfl⟩ (D1.push _) ?_;have sz:(s1.heap.push { cls:=.type "dict_items",data:=.fields #[.ref d]}).objs.size=s1.heap.objs.size+1:=by simp[Heap.push]
 have hg:=mG (s1.heap.push { cls:=.type "dict_items",data:=.fields #[.ref d]}) (o:={ cls:=.type "dict_itemiterator",data:=.fields #[.none,.bool false,.ref d,.int 0 0,.int kvs.length 0,.int ep 0,.none,.none]}) rfl;rw[l1] at hg ⊢;refine⟨(s1.heap.push { cls:=.type "dict_items",data:=.fields #[.ref d]}).objs.size,[(s1.heap.push { cls:=.type "dict_items",data:=.fields #[.ref d]}).objs.size],_,_,H1,rfl,I1.kept (t':=s1.toks) λb o e=>iK _ (iK _ e),QV (it:=(s1.heap.push { cls:=.type "dict_items",data:=.fields #[.ref d]}).objs.size) (d:=d) (by rw[sz];exact i8 (CW ld)) es ep,⟨mE _,.none,.none,hg⟩,λb hb=>?_,q⟩
 cases qO.mp hb;have lq:s1.heap.objs.size<=(s1.heap.push { cls:=.type "dict_items",data:=.fields #[.ref d]}).objs.size:=by rw[sz];exact zp _
 exact I1.nW lq (I1.cx.fresh lq)
theorem RZ{Src:Hp->Prop}{val:Nat->List V->Prop}{g:TG}{tt:TT}{te:TE}{τ:St}{H:Hp}{Fin:List V->Hp->Prop}(Pv:Nat->St->List V->Hp->Prop)(h0:Pv 0 τ [] H)(hl:∀i τ acc H,i<=n->Pv i τ acc H->Src H)
  (hs:∀i p ws τ acc H,i < n->H p=none->val i ws->Pv i τ acc H->g (.ref p) τ (upd H p (.tup ws)) λτ2 H2=>tt τ2 H2 λb H3=>if b=true then te τ2 H3 λv H4=>acc.length < sizeLine/\Pv (i+1) τ2 (acc++[v]) H4 else Pv (i+1) τ2 acc H3)
  (hd:∀τ acc H,Pv n τ acc H->Fin acc H):j8 (tq Src n val) g tt te τ H Fin:=by
 refine⟨n,Pv,h0,λi τ acc H hi p=>?_⟩
 have q:=hl i τ acc H hi p;by_cases fq:i < n
 ·refine .inr ⟨fq,⟨fq,q⟩,λx H' y=>?_⟩
  obtain⟨pp,ws,rfl,hn,hv,rfl⟩:=y;exact hs i pp ws τ acc H fq hn hv p
 ·have e:i=n:=by lia
  subst e;exact .inl ⟨⟨cP _,q⟩,hd τ acc H p⟩
noncomputable def lN(fo:GE)(aL:List Nat):Gm->Option (List D×Gm):=λU=>(fo U).bind λp=>match p.1 with
 |.fld i j=>if i∈aL then none else match p.2[i]? with
  |some (some (.ins _ _ ps))=>(match ps[j]? with
   |some (.aK kvs)=>if kvs.all (λp=>kx p.1)=true then(fY (kvs.map (·.2))).map λds=>(List.zipWith (λk d=>D.tup [k,d]) (kvs.map (·.1.d)) ds,p.2) else none
   |_=>none)
  |_=>none
 |_=>none
theorem R0{aL:List Nat}:je K aL (N' (tG K fo)) (lN fo aL):=by
 intro Z F H A U U1 ds R k e w;unfold lN at e;obtain⟨⟨r,U2⟩,q,e⟩:=cV.mp e;dsimp only at e;split at e
 ·rename_i i j
  split at e
  ·cases e
  ·rename_i hi
   split at e
   ·rename_i C ns ps h1
    split at e
    ·rename_i kvs h2
     split at e
     ·rename_i ha
      obtain⟨sN,q1,q2⟩:=jP.mp e;cases q2;refine⟨F,A,U,_,_,k,q,λv H1 pp=>?_⟩
      obtain⟨F1,A1,x,k1,hh⟩:=pp;obtain⟨hf,_⟩:=hh;obtain⟨k2,x2⟩:=k1.sub (Z':=Z) (U':=U1) (by cases k1.os with|skip t=>exact t) (aJ.refl _)
      obtain⟨x0,Ai,C',g1,g2,g3,g4⟩:=k2.os.take h1;obtain⟨a,dx,fs,f',v',Ac,B1,rfl,z1,z2,z3,z4,_⟩:=zR g2 (hV.mp (g4.nodup_iff.mp k2.nd)).1 h2;obtain⟨a',C2,wM,va,f2,pd,y1,y2,y3,rfl⟩:=id hf;rw[g1] at y1;cases y1;rw[z1] at y2;cases y2;rw[z3] at y3;cases y3;cases z4 with
      |@aK _ ws _ ep Aw _ _ _ hd hk rk ch t=>
       have ht:jR ws:=Ez hk (by rw[jx];exact rk) (by rw[Fw];exact ha)
       have II:ai K F1 H1 ((ws.map (·.2.2)).map some) ((kvs.map (·.2)).map some) Aw:=by rw[jx,jx];exact ch
       have rv:=ye II q1;have hl:ws.length=(List.zipWith (λk d=>D.tup [k,d]) (kvs.map (·.1.d)) sN).length:=by
        have a1:=rk.length;have a2:=rv.length;simp only[bB] at a1 a2;rw[List.length_zipWith,bB,<-a1,<-a2,KJ]
       refine⟨_,ws,ep,rfl,hd,ht,w _ H1 F1 A1 (x.trans x2) k2 λg tt te τ Fin Pv h0 hF hs Y_=>?_⟩
       refine RZ Pv h0 (λi' τ acc H EY p=>⟨(hF i' τ acc H p).2 i _ _ hi (.inr ⟨C,ns,ps,j,kvs,h1,h2,hf⟩) hd,ht⟩) (λi' p us τ acc H EY hp hv pv=>?_) (λτ acc H p=>Y_ τ acc H (by rw[<-hl];exact p))
       obtain⟨ee,e3,rfl⟩:=hv;have a1:i' < (kvs.map (·.1.d)).length:=by have:=rk.length;rw[bB] at this;lia
       have a2:i' < sN.length:=by have:=rv.length;rw[bB] at this;lia
       obtain⟨u1,u2,u3⟩:=rk.get (i:=i') (jW a1);obtain⟨u4,u5,u6⟩:=rv.get (i:=i') (jW a2);rw[iz,e3] at u2 u5;cases u2;cases u5;refine hs i' (.tup [(kvs.map (λp:TK×O=>p.1.d))[i'],sN[i']]) _ τ acc H _ (Ed ?_) (.inr ⟨p,[ee.2.1,ee.2.2],[(kvs.map (λp:TK×O=>p.1.d))[i'],sN[i']],rfl,rfl,hp,rfl,λF' s=>((u3.mono s).append (u6.mono s))⟩) pv
       rw[List.getElem?_zipWith,jW a1,jW a2]
     ·cases e
    ·cases e
   ·cases e
 ·cases e
end
section
variable {K:Frag} {mg:Str->Option Value} {tab:List (Str×Addr)} {L B0 fI:Addr}
end
section
variable {X:Cx} {K:Frag} {B0:Addr}
end
end L2
namespace L2
open PySem PySem.Spec PyProof.Rows
section
variable {X:Cx} {K:L2.FG} {fa fb fc:GE} {m:List Bool} {W:Option XW} {a b c:Expr} {pos:Pos}
noncomputable def nS:GS:=λ_=>none
theorem sy(U:Gm):nS U=none:=rfl
theorem q8{st:Stmt}:PS X st (tS K m W nS):=λ_ _ _ _ _ _ ⟨_,_,_,_,_,_,e,_⟩=>by cases e
noncomputable def EA(c1 c2:Int->Int->Bool)(fa fb fc:GE):GT:=λU=>(fa U).bind λp=>(fb p.2).bind λq=>match p.1,q.1 with
 |.own (.Y (.int x)),.own (.Y (.int y))=>if c1 x y=true then(fc q.2).bind λr=>match r.1 with
   |.own (.Y (.int z))=>some (c2 y z,r.2)
   |_=>none
  else some (false,q.2)
 |_,_=>none
theorem TY(c1 c2:Int->Int->Bool)(fa fb fc:GE)(U:Gm):EA c1 c2 fa fb fc U=(fa U).bind λp=>(fb p.2).bind λq=>match p.1,q.1 with
 |.own (.Y (.int x)),.own (.Y (.int y))=>if c1 x y=true then(fc q.2).bind λr=>match r.1 with
   |.own (.Y (.int z))=>some (c2 y z,r.2)
   |_=>none
  else some (false,q.2)
 |_,_=>none:=rfl
theorem TZ{op xy:CmpOp}{c1 c2:Int->Int->Bool}(ho:fH X (compareOp op) (pY λi j=>.bl (c1 i j)))(rG:fH X (compareOp xy) (pY λi j=>.bl (c2 i j)))(ha:PE X a (tG K fa))(hb:PE X b (tG K fb))(hc:PE X c (tG K fc))
  (hm:lastMarks [op,xy] [b,c]=false:=by with_unfolding_all rfl):PT X (.Compare a [op,xy] [b,c] pos) (g_ K (EA c1 c2 fa fb fc)):=(S5 ho rG ha hb hc hm).mono λZ H Q t=>by
 obtain⟨F,A,U,rb,U',k,e,w⟩:=t;unfold EA at e;obtain⟨⟨r1,U1⟩,e1,e'⟩:=cV.mp e;clear e;obtain⟨⟨r2,U2⟩,e2,e⟩:=cV.mp e';clear e';dsimp only at e2 e;split at e
 ·rename_i x y
  refine⟨F,A,U,_,U1,k,e1,λv H1 pp=>?_⟩
  have hv:v=.int x:=dW.flat pp rfl;subst hv;obtain⟨F1,A1,x1,k1,hh⟩:=pp;obtain⟨B,C,h1,h2,h3⟩:=ai.one (Z:=Z) (U:=U1) k1.os;subst h3;obtain⟨k2,x2⟩:=k1.sub h2 (.aP (ly _ _));refine⟨F1,C,U1,_,U2,k2,e2,λv2 H2 Pl=>?_⟩
  have Zv:v2=.int y:=dW.flat Pl rfl;subst Zv;obtain⟨F2,A2,x3,k3,O2⟩:=Pl;obtain⟨B2,C2,h4,h5,h6⟩:=ai.one (Z:=Z) (U:=U2) k3.os;subst h6;obtain⟨k4,x4⟩:=k3.sub h5 (.aP (ly _ _));have PD:=(x1.trans x2).trans (x3.trans x4);refine⟨x,y,rfl,rfl,c1 x y,rfl,?_⟩;cases OW:c1 x y with
  |true=>
   rw[OW,if_pos rfl] at e;rw[if_pos rfl];obtain⟨⟨r3,U3⟩,e3,e4⟩:=cV.mp e;dsimp only at e4;split at e4
   ·rename_i z
    cases e4;refine⟨F2,C2,U2,_,_,k4,e3,λv3 H3 Pm=>?_⟩
    have Zw:v3=.int z:=dW.flat Pm rfl;subst Zw;obtain⟨F3,A3,x5,k5,vd⟩:=Pm;obtain⟨B3,C3,h7,h8,h9⟩:=ai.one (Z:=Z) k5.os;subst h9;obtain⟨k6,x6⟩:=k5.sub h8 (.aP (ly _ _));exact⟨y,z,rfl,rfl,_,rfl,w H3 ⟨F3,C3,PD.trans (x5.trans x6),k6,True.intro⟩⟩
   ·cases e4
  |false=>
   rw[OW,if_neg kU] at e;rw[if_neg kU];cases e;exact⟨_,rfl,w H2 ⟨F2,C2,PD,k4,True.intro⟩⟩
 ·cases e
end
variable{k:Nat}{x:Str}
theorem VE{P:Program}{w:World}{K:L2.FG}{mg:Str->Option Value}{base:Heap}{CX:pj}{n:Nat}{f:Addr}{fd:FuncData}{ps:List Str}:aT P w K mg base CX k f fd ps (dB K n λ_=>none):=
 {len:=λ_ _ _ _ q=>(by
   obtain⟨_,_,_,_,_,_,_,e,_⟩:=q;cases e)
  run:=λ_ _ _ _ _ _ _ _ _ _ _ _ _ q=>(by
   obtain⟨_,_,_,_,_,_,_,e,_⟩:=q;cases e)}
section
variable {X:Cx} {K:L2.FG} {pos:Pos}
theorem R3{n:Int}(hg:Gl X x)(hm:∃t,X.mg x=some (.int n t))(hd:(x == ("__debug__":Str))=false:=by decide):PE X (.Name x pos) (tC (.int n)):=by
 obtain⟨t,h⟩:=hm;exact MV hg h ⟨t,rfl⟩ hd
theorem R4{z:Str}(hg:Gl X x)(hm:∃t,X.mg x=some (.str z t))(hd:(x == ("__debug__":Str))=false:=by decide):PE X (.Name x pos) (tC (.str z)):=by
 obtain⟨t,h⟩:=hm;exact MV hg h ⟨t,rfl⟩ hd
end
section
variable {X:Cx} {K:L2.FG}
def Nq:V->List V->Hp->VK->Prop:=λx xs H Q=>∃(l:Addr) (ys:List Str) (z:Str) (j:Nat),x=.ref l/\xs=[.str z]/\H l=some (.lst (ys.map V.str))/\ys[j]?=some z/\(∀i y,i < j->ys[i]?=some y->y≠z)/\Q .aI (upd H l (.lst ((ys.eraseIdx j).map V.str)))
theorem G1{α β:Type}(f:α->β):∀(xs:List α) (j:Nat),(xs.map f).eraseIdx j=(xs.eraseIdx j).map f
 |[],j=>by simp
 |_::_,0=>rfl
 |x::xs,j+1=>by show f x::(xs.map f).eraseIdx j=f x::(xs.eraseIdx j).map f;rw[G1 f xs j]
theorem K1:∀{ps:List (Str×Tok)},Vals ((ps.map (·.1)).map V.str) (ps.map λp=>Value.str p.1 p.2)
 |[]=>.nil
 |p::ps=>.cons ⟨p.2,rfl⟩ K1
theorem R5:qf X "list.remove" Nq:=by
 intro pins s Z H x xs v us Q I rx rs h;obtain⟨l,ys,z,j,rfl,rfl,hH,hj,lH,q⟩:=h;cases rx;obtain⟨u,rfl,ru⟩:=vals1 rs;obtain⟨t,rfl⟩:=ru;obtain⟨hz,aG,n,rv,hl,eo⟩:=I.ug hH;obtain⟨ps,e1,e2⟩:=GJ rv;subst e1;have hlen:ps.length=ys.length:=by rw[<-e2,bB]
 have JI:j < ys.length:=(iq.mp hj).1;have BZ:∀i (hi:i < ps.length),ys[i]?=some ps[i].1:=λi hi=>by rw[<-e2];simp[hi]
 have hsz:(ps.map λp=>Value.str p.1 p.2).toArray.size=ps.length:=by simp
 have JJ:ps[j].1=z:=by
  have:=BZ j (by lia)
  rw[hj] at this;exact(Option.some.inj this).symm
 refine call_meets F.slot_list_remove ⟨_,eo,rfl⟩ F.entry_list_remove (F.args_list_remove_2 _ _) (MeetsSeq.list_remove l _ n (.str z t) (yD z) ?_ j (by rw[hsz];lia) ?_ ?_ (by rw[hsz,hlen];simpa using hz)) ⟨eo,?_⟩
 ·intro y hy;simp at hy;obtain⟨b,t',_,rfl⟩:=hy;show MeetsSeq.EqGives _ _ (b == z);rw[<-SeqAt.str_beq];exact SeqRoads2.EqGives.str b z t' t
 ·simp[yD,JJ]
 ·intro i hi nF;rw[hsz] at hi;have:=lH i _ nF (BZ i hi);simp[yD];exact this
 ·refine⟨.aI,_,I.uf (its':=(ps.eraseIdx j).map λp=>Value.str p.1 p.2) hH eo ?_ ?_ ?_,rfl,q⟩
  ·apply Array.toList_inj.mp;simp[Array.toList_eraseIdxIfInBounds,G1]
  ·rw[<-e2,G1];exact K1
  ·rw[bB];have:=List.length_eraseIdx_le ys j;rw[bB] at hz;lia
noncomputable def kI:List O->Option (List Str)
 |[]=>some []
 |.Y (.str x)::os=>(kI os).map λxs=>x::xs
 |_=>none
noncomputable abbrev t5(y:Str):O:=.Y (.str y)
theorem LY:∀xs:List Str,kI (xs.map t5)=some xs
 |[]=>rfl
 |i::is=>by rw[cv];show(kI (is.map t5)).map _=_;rw[LY is];rfl
theorem LZ:∀{os:List O} {xs:List Str},kI os=some xs->os=xs.map t5
 |[],xs,e=>by cases e;rfl
 |o::os,xs,e=>by
  unfold kI at e;split at e
  ·cases e
   rename_i h
   cases h
  ·rename_i x vm h
   cases h;obtain⟨ys,e1,e2⟩:=jP.mp e;subst e2;rw[cv,<-LZ e1]
  ·cases e
theorem K9{F H:Hp}:∀{ws:List V} {xs:List Str} {A:List Addr},ai K F H (ws.map some) ((xs.map t5).map some) A->ws=xs.map .str
 |[],[],_,_=>rfl
 |[],_::_,_,h=>by have:=h.length;simp at this
 |_::_,[],_,h=>by have:=h.length;simp at this
 |w::ws,i::is,A,h=>by
  obtain⟨B1,B2,g1,g2,rfl⟩:=ai.one h;cases iM g1 rfl;rw[K9 g2];rfl
theorem Mv{F H:Hp}:∀(xs:List Str),ai K F H ((xs.map V.str).map some) ((xs.map t5).map some) []
 |[]=>.nil
 |_::xs=>.Y (.flat rfl .nil) (Mv xs)
noncomputable def AB:O->List O->Option (O×O)
 |.lst ps,[.Y (.str z)]=>(kI ps).bind λys=>(findS ys z).map λj=>(.lst ((ys.eraseIdx j).map t5),.Y .aI)
 |_,_=>none
theorem R6:eP K Nq AB:=by
 intro F H x vs o os o' res Ai Aτ Q le h1 h2 nd fr e q;unfold AB at e;split at e
 ·rename_i ps z
  obtain⟨ys,e1,e2⟩:=cV.mp e;obtain⟨j,e3,e4⟩:=jP.mp e2;cases e4;cases LZ e1;obtain⟨l,ws,Ap,rfl,hl,i,qM,go⟩:=Ae h1 rfl nd q
  match vs,h2 with
  |[v],h2=>
   cases iM h2 rfl;cases K9 i;obtain⟨s1,s2⟩:=GK e3;exact⟨l,ys,z,j,rfl,rfl,hl,s1,s2,go _ _ [] .aI [] rfl (Mv _) yp ⟨_,List.Perm.refl _,List.nil_sublist _⟩⟩
  |[],h2=>have:=h2.length;simp at this
  |_::_::_,h2=>have:=h2.length;simp at this
 ·cases e
theorem R7(ys:List Str)(z:Str):AB (.lst (ys.map t5)) [.Y (.str z)]=(findS ys z).map λj=>(.lst ((ys.eraseIdx j).map t5),.Y .aI):=by
 show((kI (ys.map t5)).bind _)=_;rw[LY,jJ]
end
theorem cH{N P:List Str}{sc:Scope}(h1:sc.kind=.function:=by rfl)(h2:sc.isCoroutine=false:=by rfl)(h3:sc.isGenerator=false:=by rfl)(h4:N.Nodup:=by decide +kernel)(h5:N.take P.length=P:=by rfl)(h6:∀x∈P,sc.names.lookup x=some .local \/ sc.names.lookup x=some .cell:=by decide +kernel)(h7:∀y∈sc.names,y.2≠.free:=by decide +kernel):aB N P sc:=⟨h1,h2,h3,h4,h5,h6,h7⟩
theorem cA.le{k':Nat}{A:PySem.Around}(h:cA k A)(e:k'<=k:=by decide):cA k' A:=h.mono e
section
variable {C Ch:Addr} {ns:List Str} {U:Gm}
theorem oJ(i j:Nat):cw Ch ns i j U=match U[i]? with
 |some (some (.ins C jr ps))=>if C=Ch/\jr=ns then(match ps[j]? with
   |some (.Y d)=>some (.own (.Y d),U)
   |some _=>some (.fld i j,U)
   |none=>none) else none
 |_=>none:=rfl
theorem q9(M:GM)(i:Nat)(fs:GA):c7 M Ch ns i fs U=match U[i]? with
 |some (some (.ins C jr _))=>if C=Ch/\jr=ns then bN M (ao (aa i) fs) U else none
 |_=>none:=rfl
theorem tQ(i j:Nat):iI U (.fld i j)=match U[i]? with
 |some (some (.ins _ _ ps))=>ps[j]?
 |_=>none:=by first|rfl|(unfold iI;rfl)
theorem b2i(fv fi:GE)(i j:Nat):wA fv Ch ns i j fi U=(fv U).bind λp=>(cw Ch ns i j p.2).bind λq=>(fi q.2).bind λr=>match p.1,q.1,r.1 with
 |.own v,.fld _ _,.own y=>(match r.2[i]? with
  |some (some (.ins C1 mD j6))=>(j6[j]?).bind λc=>(eW c [v,y]).bind λz=>some (.nx,r.2.set i (some (.ins C1 mD (j6.set j z.1))))
  |_=>none)
 |_,_,_=>none:=rfl
theorem R8(fe:GE)(i j:Nat):qp Ch ns i j fe U=(fe U).bind λp=>match p.1 with
 |.own o=>(match p.2[i]? with
  |some (some (.ins C jr ps))=>if C=Ch/\jr=ns/\ps.length=j then some (.nx,p.2.set i (some (.ins C jr (ps++[o])))) else none
  |_=>none)
 |_=>none:=rfl
theorem VF(M:GM)(fs:GA):oP M Ch ns fs U=(fs U).bind λp=>(mz p.1 p.2).bind λq=>(M (.ins Ch ns []::q.1)).bind λr=>(um r).bind λz=>some (.own z.1,nP p.1 z.2 q.2):=rfl
theorem VG(o:O)(fin:Gm):um (.Y .aI,some o::fin)=some (o,fin):=rfl
theorem T1(fo:GE)(aL:List Nat):lN fo aL U=(fo U).bind λp=>match p.1 with
 |.fld i j=>if i∈aL then none else match p.2[i]? with
  |some (some (.ins _ _ ps))=>(match ps[j]? with
   |some (.aK kvs)=>if kvs.all (λp=>kx p.1)=true then(fY (kvs.map (·.2))).map λds=>(List.zipWith (λk d=>D.tup [k,d]) (kvs.map (·.1.d)) ds,p.2) else none
   |_=>none)
  |_=>none
 |_=>none:=rfl
end
end L2
namespace L2
open PySem PySem.Spec PySem.W PyProof.Rows
mutual
noncomputable def ZW:O->Bool
 |.Y d=>(mM d).isSome
 |.lst xs=>Fd xs
 |.tup xs=>Fd xs
 |.aK kvs=>kvs.isEmpty
 |.ins _ _ ps=>Fd ps
noncomputable def Fd:List O->Bool
 |[]=>true
 |o::os=>ZW o && Fd os
end
section
variable {K:Frag} {F F' H:Hp} {Z:St} {U:Gm} {A:List Addr}
end
section
variable {X:Cx} {K:Frag} {k n:Nat} {f Ch:Addr} {fd:FuncData} {ps ns:List Str} {p pos:Pos} {e:Expr} {es:List Expr} {fs:GA} {M:GM} {W:XW}
end
section
variable {X:Cx} {K:Frag} {m:List Bool} {W:Option XW} {body:List Stmt} {f:GS} {i j:Nat}
end
section
variable {X:Cx} {K:Frag} {o e:Expr} {es:List Expr} {fo:GE} {fs:GA} {name:Str} {apos aV:Pos} {id:String} {r:V->List V->Hp->VK->Prop} {g:O->List O->Option (O×O)}
noncomputable def Ku(k:String):Bool:=k == "tuple" || k == "list"
def vv(K:Frag):List V->Hp->VK->Prop:=λxs H Q=>∃x k q,xs=[x,.ref q]/\AG K H x k/\iL K H q [.ty "tuple",.ty "list"]/\Q (.bl (Ku k)) H
theorem R9(K:Frag)(hK:X.K=K:=by rfl):cJ X (.builtin "isinstance") (vv K):=by
 subst hK;intro pins s Z H xs us Q I r h;obtain⟨x,k,q,rfl,hk,hq,qq⟩:=h;obtain⟨u,w',rfl,rx,ry⟩:=vals2 r;cases ry;obtain⟨aG,rv,⟨ot,h1,h2,n,h3⟩,_⟩:=I.tuple hq;obtain⟨oc,odd,odt,sY⟩:=ot;dsimp only at h2 h3;subst h2;subst h3;obtain⟨u1,u2,rfl,r1,r2⟩:=vals2 rv;cases r1;cases r2;have fin:∀b,b=Ku k->∀tk,EP X pins Z Q (.bool b) { s with toks:=tk}:=λb e tk=>tT (I.tok _) qq e.symm
 cases x with
 |aI=>
  cases rx;have hk:k="NoneType":=hk;subst hk;exact kia_tup (b:=false) kitx_none I.lI True.intro h1 (by rfl) (λz=>nomatch z) (fin _ rfl)
 |bl b=>
  cases rx;have hk:k="bool":=hk;subst hk;exact kia_tup (b:=false) kitx_bool I.lI True.intro h1 (by rfl) (λz=>nomatch z) (fin _ rfl)
 |int i=>
  obtain⟨t,rfl⟩:=rx;have hk:k="int":=hk;subst hk;exact kia_tup (b:=false) kitx_int I.lI True.intro h1 (by rfl) (λz=>nomatch z) (fin _ rfl)
 |str z=>
  obtain⟨t,rfl⟩:=rx;have hk:k="str":=hk;subst hk;exact kia_tup (b:=false) kitx_str I.lI True.intro h1 (by rfl) (λz=>nomatch z) (fin _ rfl)
 |ref a=>
  cases rx;rcases hk with⟨hk,ys,hs⟩|⟨hk,ys,hs⟩
  ·subst hk;obtain⟨aG,_,⟨o,n,e,hc,_⟩,_⟩:=I.list hs;exact kia_tup (b:=true) kitx_list I.lI ⟨o,e,hc⟩ h1 (by rfl) (λz=>nomatch z) (fin _ rfl)
  ·subst hk;obtain⟨aG,_,⟨o,e,hc,_⟩,_⟩:=I.tuple hs;exact kia_tup (b:=true) kitx_tuple I.lI ⟨o,e,hc⟩ h1 (by rfl) (λz=>nomatch z) (fin _ rfl)
 |uX _=>exact False.elim hk
 |u_ _=>exact False.elim hk
 |ty _=>exact False.elim hk
noncomputable def kD:List O->Option O
 |[a,.tup [.Y (.ty T),.Y (.ty U)]]=>if T="tuple"/\U="list" then(f_ a.d).map λk=>.Y (.bl (Ku k)) else none
 |_=>none
theorem VH:cD K (vv K) kD:=by
 intro F H vs os o Q le eD e res;unfold kD at e;split at e
 ·rename_i a T U
  split at e
  ·rename_i h
   obtain⟨rfl,rfl⟩:=h;obtain⟨x,y,B,C,rfl,h1,h2⟩:=eD.two;obtain⟨k,q1,q2⟩:=jP.mp e;subst q2;cases nz le h2 with
   |flat z _=>cases z
   |@tup p ws _ _ _ hq hr _=>
    cases hr with
    |flat z1 hr=>
     cases hr with
     |flat z2 hr=>
      cases hr;cases z1;cases z2;exact⟨x,k,p,rfl,Mm (nz le h1) q1,hq,res.flat rfl⟩
  ·cases e
 ·cases e
end
end L2
namespace L2
open PySem PySem.Spec PySem.W PySem.Calls PyProof.Rows
structure FJ (K:Frag) (mg:Str->Option Value) (tab:List (Str×Addr)) (B0:Addr):Prop where
 all:∀p∈tab,mg p.1=some (.ref p.2)/\qQ K p.2 (.ref B0::AJ) none/\qR K p.2/\keepIn K (.ref p.2)=true
 G0:qQ K B0 AJ none
section
variable {K:Frag} {mg:Str->Option Value} {tab:List (Str×Addr)} {B0:Addr}
end
end L2
namespace L2
open PySem PySem.Spec PyProof.Rows
section
variable {C Ch:Addr} {ns:List Str} {U:Gm}
end
end L2
namespace L2
open PySem PySem.Spec PySem.W PyProof.Rows
section
variable {X:Cx} {K:Frag} {F H:Hp} {Z:St} {U:Gm} {A:List Addr} {e:Expr} {f:GE} {ft:GT} {Q:VK}
end
section
variable {X:Cx} {K:Frag} {a b:Expr} {fa fb:GE} {pos:Pos}
end
end L2
namespace L2
open PySem PySem.Spec PyProof.Rows
section
variable {X:Cx} {K:L2.FG} {o e:Expr} {es:List Expr} {i:Nat} {π:List Nat} {fs:GA} {name:Str} {apos aV:Pos} {id:String} {r:V->List V->Hp->VK->Prop} {g:O->List O->Option (O×O)}
end
end L2
namespace L2
open PySem PySem.Spec PySem.W PyProof.Rows
section
variable {X:Cx} {K:Frag} {F H:Hp} {Z:St} {U:Gm} {A:List Addr} {f:GE} {Q:VK}
variable {e b:Expr} {i:Nat} {π ρ:List Nat} {fj:GE} {pos p1:Pos} {n:Nat}
end
section
variable {X:Cx} {K:Frag} {F H:Hp} {Z:St} {U:Gm} {A:List Addr} {i ix:Nat} {π ρ:List Nat} {fj:GE} {m m':List Bool} {fB:GS}
end
section
variable {X:Cx} {K:Frag} {F H:Hp} {Z:St} {U:Gm} {A:List Addr} {i ix iw:Nat} {π ρ:List Nat} {fj fE f:GE} {m m':List Bool} {fB:GS} {Q:VK}
end
section
variable {X:Cx} {K:Frag} {F H:Hp} {Z:St} {U:Gm} {A:List Addr} {i:Nat} {π ρ:List Nat} {fj fv fi:GE} {m:List Bool} {W:Option XW} {te:TE} {fp:Gm->Option (List Nat)} {Q:VK}
end
end L2
namespace L2
open PySem PySem.Spec PySem.W PySem.Calls PyProof.Rows
section
variable {X:Cx} {K:Frag} {e:Expr} {p pos B_ q:Pos} {n:Nat} {t:TA} {fs:GA}
end
end L2
namespace L2
open PySem PySem.Spec PySem.W PyProof.Rows
section
variable {X:Cx} {K:Frag} {e:Expr} {p pos B_ q:Pos} {n:Nat} {fs:GA}
end
section
variable {X:Cx} {K:Frag} {m m':List Bool} {f g f1 f2 fR:GS} {s1 s2:Stmt} {rest:List Stmt} {D:Ends} {Z:St} {H:Hp} {W:Option XW} {i ix:Nat} {π ρ:List Nat} {fj:GE}
end
section
variable {X:Cx} {K:Frag} {m:List Bool} {W:XW} {e:Expr} {fa:GE} {f:GS} {pos p1 p2:Pos} {n:Nat} {sa:List Stmt}
end
structure Errw (K:Frag) (mg:Str->Option Value) (tab:List (Str×Addr)) (B0:Addr):Prop extends FJ K mg tab B0 where
 ZM:mg "CarryError"=some (.ref B0)
section
variable {K:Frag} {mg:Str->Option Value} {tab:List (Str×Addr)} {B0:Addr}
end
end L2
namespace L2
open PySem PySem.Spec PyProof.Rows PySem.StrLaws Builtin Builtin.Str
noncomputable def jl(c:Nat):List (List Nat)->List Nat
 |[]=>[]
 |[p]=>p
 |p::q::r=>p++c::jl c (q::r)
end L2
namespace L2
open PySem PySem.Spec PySem.W PySem.Calls PyProof.Rows
section
variable {M:Model} {A:Around} {E:Value->Shared->Prop} {env:Env}
variable {nm q:Str} {C N:Addr} {bs bm:List Value} {BP:Bool} {sn:List Str} {sub:List Value} {ab:Bool} {col:Option Bool} {dd:Option Addr} {k0 k1 k2 k3 k5:Option Value} {newId:String}
end
section
variable {X:Cx} {pins:List (Addr×Obj)} {Z:St} {H:Hp} {s:Shared} {C B0 fI:Addr} {fd:FuncData} {k:Nat} {R:Value->Shared->Prop}
end
section
variable {X:Cx} {K:Frag} {m:List Bool} {W:XW} {C B0 fI:Addr} {x:Str} {p cp pos:Pos} {e:Expr} {fe:GE} {fd:FuncData} {k:Nat}
end
end L2
namespace L2
open PySem PySem.Spec PySem.W PyProof.Rows
section
variable {X:Cx} {K:Frag} {F H:Hp} {Z:St} {U:Gm} {A:List Addr} {i:Nat} {m:List Bool} {W:Option XW} {f:GS} {body:List Stmt}
end
section
variable {K:Frag} {F H:Hp} {A:List Addr} {Z:St} {U:Gm}
end
section
variable {K:Frag} {F H:Hp} {A:List Addr} {Z:St} {U:Gm}
end
section
variable {K:Frag} {F H:Hp} {A:List Addr} {Z:St} {U:Gm}
end
section
variable {X:Cx} {K:Frag} {F H:Hp} {A:List Addr} {Z:St}
end
section
variable {X:Cx} {K:Frag}
end
end L2
namespace L2
open PySem PySem.Spec PyProof.Rows
section
variable {U:Gm} {i ix iw:Nat}
end
end L2
namespace L2
open PySem PySem.Spec PySem.W PyProof.Rows
noncomputable abbrev Co:=l9 (λi j=>decide (0<=j/\j<=1000/\i.natAbs < 2 ^ 64)) λi j=>.int (i * 2 ^ j.toNat)
theorem W9{K:L2.FG}:cD K (mh (rI zD λi j=>.int (i * 2 ^ j.toNat))) Co:=yA (λ_ _=>rfl) λ_ _ _ _ c q=>⟨_,_,rfl,rfl,⟨(of_decide_eq_true c).1,Int.le_trans (of_decide_eq_true c).2.1 (by decide),(of_decide_eq_true c).2.2⟩,q⟩
noncomputable def Ak(Ch:Addr)(ns:List Str)(i j:Nat)(b:Int):GS:=λU=>match U[i]? with
 |some (some (.ins C jr ps))=>if C=Ch/\jr=ns then(match ps[j]? with
   |some (.Y (.int a))=>some (.nx,U.set i (some (.ins C jr (ps.set j (.Y (.int (a+b)))))))
   |_=>none) else none
 |_=>none
theorem Mw{f:Str}{v z:V}:∀{fs:List (Str×V)} {j:Nat},(fs.map (·.1)).Nodup->fs[j]?=some (f,v)->fu f z fs=fs.set j (f,z)
 |[],j,_,h=>by cases h
 |(g,x)::fs,0,_,h=>by
  cases h;show(if f=f then(f,z)::fs else(f,v)::fu f z fs)=_
  rw[if_pos rfl];rfl
 |(g,x)::fs,j+1,nd,h=>by
  have h:fs[j]?=some (f,v):=by simpa using h
  obtain⟨n1,n2⟩:=j7.mp (show(g::fs.map (·.1)).Nodup from nd)
  have lH:g≠f:=λe=>n1 (by rw[e];exact pe (f:=(·.1)) (zq h))
  show(if g=f then(g,z)::fs else(g,x)::fu f z fs)=_
  rw[if_neg lH,Mw n2 h];rfl
section
variable {X:Cx} {K:L2.FG} {m:List Bool} {W:Option XW} {Ch:Addr} {ns:List Str} {i j:Nat} {e o value:Expr} {f:Str} {pos i6:Pos} {b:Int}
theorem R_(ho:PE X o (kJ i))(hv:PE X value (tC (.int b)))(c:mr K Ch)(na:b_ K Ch f)(hj:ns[j]?=some f)(y_:ns.Nodup)(hsz:ns.length<=900)(hK:X.K=K:=by rfl):PS X (.AugAssign (.Attribute o f i6) .Add value pos) (tS K m W (Ak Ch ns i j b)):=by
 subst hK;refine(Rx ho hv WI).mono λD Z H t=>?_
 obtain⟨F,A,U,fl,U',k,e,w⟩:=t;unfold Ak at e;split at e
 case h_2=>cases e
 rename_i C jr ps h1
 split at e
 case isFalse=>cases e
 rename_i hh
 obtain⟨rfl,rfl⟩:=hh;split at e
 case h_2=>cases e
 rename_i av h2
 cases e;obtain⟨x,Ai,C',g1,g2,g3,g4⟩:=k.os.take h1;obtain⟨a,dx,fs,Ap,rfl,rfl,q1,q2,q3,q4⟩:=Ef g2;have t_:(ps.map some)[j]?=some (some (.Y (.int av))):=by rw[iz,h2];rfl
 obtain⟨v,Ac,B,c1,c2,c3,c4⟩:=q4.take t_;cases iM c2 rfl;obtain⟨⟨f',v'⟩,c5,c6⟩:∃p,fs[j]?=some p/\p.2=.int av:=by
  rw[iz,iz] at c1;cases q:fs[j]? with
  |none=>rw[q] at c1;cases c1
  |some p=>rw[q] at c1;exact⟨p,rfl,by simpa using c1⟩
 dsimp only at c6;subst c6;obtain⟨rfl,q7⟩:=Nn q3 y_ c5 hj;have ZO:(fs.map (·.1)).Nodup:=by rw[q3];exact(List.take_sublist _ _).nodup y_
 have lf:fs.length<=900:=by
  have:=congrArg List.length q3;rw[bB,nJ] at this;lia
 refine⟨_,g1,a,C,dx,fs,_,rfl,q1,c,na,q7,av,b,rfl,rfl,dx,fs,q1,by lia,?_⟩
 rw[Mw ZO c5];have nd:((a::dx::Ap)++C').Nodup:=g4.nodup_iff.mp k.nd;have J9:a∉dx::(Ap++C'):=(j7.mp (by simpa using nd)).1
 have ne:∀y,y∈Ap\/y∈C'\/y=dx->y≠a:=λy hy z=>J9 (by subst z;rcases hy with hy|hy|hy <;> simp_all)
 have bA:∀y∈B,y∈Ap:=λy my=>c4.mem_iff.mpr (ja _ my)
 generalize eH:upd H a (.ins C dx (fs.set j (f',.int (av+b))))=H2;have kp:∀y u,y≠a->H y=some u->H2 y=some u:=λy u z g=>by rw[<-eH,cK z];exact g
 have fl:ai X.K F H2 [some (.int (av+b))] [some (.Y (.int (av+b)))] []:=.Y (.flat rfl .nil) .nil;have JI:j < ((ps.map some).set j none).length:=by rw[uD,bB];exact(iq.mp h2).1
 obtain⟨D3,d1,C3,d2,d3⟩:=fl.put j (c3.keep (aH.refl _) λy my u g=>kp y u (ne y (.inl (bA y my))) g) JI
 rw[zu,<-zA,<-zA,show((fs.map (·.2)).set j (.int (av+b)))=(fs.set j (f',.int (av+b))).map (·.2) by rw[zA]] at d1
 have w1:ai X.K F H2 [some (.ref a)] [some (.ins C jr (ps.set j (.Y (.int (av+b)))))] (a::dx::D3):=by
  refine Ey (by rw[<-eH];exact iU) (kp _ _ (ne dx (.inr (.inr rfl))) q2) ?_ d1
  rw[zA,uD,<-q3];obtain⟨fq,he⟩:=iq.mp (show(fs.map (·.1))[j]?=some f' by rw[iz,c5];rfl)
  show(fs.map (·.1)).set j f'=_
  rw[<-he];exact List.set_getElem_self fq
 have t8:ai X.K F H2 Z (U.set i none) C':=g3.keep (aH.refl _) λy my u g=>kp y u (ne y (.inr (.inl my))) g
 have hi:i < (U.set i none).length:=by rw[uD];exact(iq.mp h1).1
 obtain⟨D2,k4,C4,k5,k6⟩:=w1.put i t8 hi;rw[tL g1,zu] at k4;have sD:aJ D3 Ap:=((aJ.aZ d2).trans (.aP (by simpa using d3))).trans ((aJ.aP (ly _ _)).trans (.aZ c4.symm))
 have s3:aJ D2 A:=by
  refine((aJ.aZ k5).trans ?_).trans (.aZ g4.symm);obtain⟨L,p1,p2⟩:=sD;exact(aJ.app ⟨a::dx::L,(p1.cons dx).cons a,(p2.cons_cons dx).cons_cons a⟩ (.aP k6))
 have aA:a∈A:=g4.mem_iff.mpr (by simp)
 refine w Z _ ⟨F,D2,⟨aH.refl _,λy u g n=>kp y u (λz=>n (z ▸ aA)) g,λy hy=>?_,λy h=>.inl h,λy my=>.inl (s3.mem y my),λy C2 Vp va g=>?_⟩,⟨λy u g=>kp y u (λz=>by subst z;rw[k.fr y aA] at g;cases g) (k.le y u g),k4,s3.nodup k.nd,λy my=>k.fr y (s3.mem y my)⟩,Kept.refl⟩
 ·rw[<-eH];exact yo y hy
 by_cases z:y=a
 ·subst z;rw[q1] at g;cases g;refine⟨_,by rw[<-eH];exact iU,λjj f2 p2 sR=>?_⟩
  rw[FC (λz=>by rw[<-z,c5] at sR;cases sR)]
  exact sR
 ·exact⟨va,kp _ _ z g,λ_ _ _ q=>q⟩
noncomputable def pW(b:Int):O->List O->Option (O×O)
 |.aK kvs,[.Y d]=>match cF (.aK kvs) d with
  |some (.Y (.int a))=>eW (.aK kvs) [.Y (.int (a+b)),.Y d]
  |_=>none
 |_,_=>none
def Cs(K:L2.FG)(b:Int):V->List V->Hp->VK->Prop:=λx vs H Q=>∃p y a H4,x=.ref p/\vs=[y]/\iT K H p y (some (.int a))/\qW K H p y (.int (a+b)) H4/\Q .aI H4
theorem W_:eP K (Cs K b) (pW b):=by
 intro F H x vs o os o' res Ai Aτ Q le h1 h2 nd fr e q;unfold pW at e;split at e
 case h_2=>cases e
 rename_i kvs d
 split at e
 case h_2=>cases e
 rename_i a h3
 obtain⟨y,rfl⟩:∃y,vs=[y]:=by
  match vs,h2.length with
  |[y],_=>exact⟨y,rfl⟩
 obtain⟨l,ws,ep,Ap,rfl,rfl,hl,hk,rk,ch⟩:=Ec h1;obtain⟨k,q1,h4⟩:=cV.mp (show(eV d).bind (λk=>(jI kvs k).bind gW)=_ from h3)
 obtain⟨ov,q2,q3⟩:=cV.mp h4;have q4:ov=.Y (.int a):=by
  cases ov with
  |Y _=>cases q3;rfl
  |_=>cases q3
 subst q4;obtain⟨v,g1,g2⟩:=D_ hk ch q2;have hv:v=.int a:=by
  cases g2 with
  |flat z _=>cases z;rfl
 subst hv;have ry:au K F [y] [k.d]:=by rw[(oE q1).1];exact sv h2
 obtain⟨v',y',e1,z⟩:=IC F H (.ref l) [.int (a+b),y] (.aK kvs) [.Y (.int (a+b)),.Y d] o' res _ Aτ Q le h1 (.Y (.flat rfl .nil) h2) nd fr e q;cases e1;rcases z with⟨l2,xS,_,_,z1,_,z2,_⟩|⟨a2,H4,z1,z2,z3⟩
 ·cases z1;rw[hl] at z2;cases z2
 ·cases z1;exact⟨l,y,a,H4,rfl,rfl,⟨ws,ep,k,hl,by rw[AM hk];exact rk.mono le,ry.mono le,(oE q1).2,g1.symm⟩,z2,z3⟩
noncomputable def IJ(Ch:Addr)(ns:List Str)(i j:Nat)(fi:GE)(b:Int):GS:=λU=>(cw Ch ns i j U).bind λq=>(fi q.2).bind λr=>match q.1,r.1 with
 |.fld _ _,.own y=>(match r.2[i]? with
  |some (some (.ins C1 mD j6))=>(j6[j]?).bind λc=>(pW b c [y]).bind λz=>some (.nx,r.2.set i (some (.ins C1 mD (j6.set j z.1))))
  |_=>none)
 |_,_=>none
theorem VI{ei:Expr}{fi:GE}(ho:PE X o (tG K (cw Ch ns i j)))(hi:PE X ei (tG K fi))(hv:PE X value (tC (.int b)))(hu:X.A.units+41 < cLine)
  (ha:∀ov iv new,augStore ei ov iv new=(do holding [new,ov,iv] (setItem ov iv new);release [new,ov,iv] [];pure .next):=by intros;rfl) (hK:X.K=K:=by rfl):PS X (.AugAssign (.Subscript o ei i6) .Add value pos) (tS K m W (IJ Ch ns i j fi b)):=by
 subst hK;refine(UE (tget:=λo i H Q=>∃p v,o=.ref p/\iT X.K H p i (some v)/\Q v H) (tset:=λo i z H Q=>∃p H4,o=.ref p/\qW X.K H p i z H4/\Q H4) ho hi (λpins s Z H o i ov iv Q I ro ri h=>?_) hv WB (λpins s Z H o i v ov iv u Q I ro ri rv h=>?_) ha).mono λD Z H t=>?_
 ·obtain⟨p,v,rfl,g,q⟩:=h;cases ro;exact LO (by lia) I g ri λw' s3 I3 mi=>⟨v,H,I3,mi,q⟩
 ·obtain⟨p,H4,rfl,g,q⟩:=h;cases ro;exact LQ (by lia) I g ri rv λs4 I4=>⟨H4,I4,q⟩
 ·obtain⟨F,A,U,fl,U',k,e,w⟩:=t;obtain⟨⟨r2,U2⟩,e2,e⟩:=cV.mp e;obtain⟨⟨r3,U3⟩,e3,ee⟩:=cV.mp e;clear e;have e:=ee;clear ee;dsimp only at e2 e3 e;split at e
  case h_2=>cases e
  rename_i i' j' y
  obtain⟨ZZ,c0,_,_,_,hr⟩:=Hu e2;obtain⟨rfl,rfl⟩:i'=i/\j'=j:=by
   rcases hr with⟨d,_,z⟩|⟨_,z⟩
   ·cases z
   ·cases z;exact⟨rfl,rfl⟩
  split at e
  case h_2=>cases e
  rename_i C1 mD j6 e4
  obtain⟨c,e5,e⟩:=cV.mp e;obtain⟨z,e6,e⟩:=cV.mp e;cases e;have t:gZ X.K (ao (cw Ch ns i' j') (ao fi gN)) Z H λvs H'=>∃u v,vs=[u,v]/\Cs X.K b u [v] H' λ_ H4=>D.nx Z H4:=by
   refine⟨F,A,U,[.fld i' j',.own y],U3,k,?_,λvs H1 p=>?_⟩
   ·unfold ao;simp only[e2,e3,Option.bind,gN]
   ·obtain⟨F1,A1,x,k1,hh⟩:=p;obtain⟨u,v,rfl⟩:=EH hh.length;refine⟨u,v,rfl,?_⟩;have hx:mH Z H1 i' j' u:=hh.1;have k2:OK X.K F1 H1 ([v].map some++Z) ([y].map some++U3) A1:=by
     obtain⟨ZE,ZF,ZG,ZH⟩:=k1;cases ZF with
     |skip g2=>exact⟨ZE,g2,ZG,ZH⟩
    exact OK.ui (g:=pW b) (Q:=λ_ H4=>D.nx Z H4) (c':=z.1) (res:=z.2) W_ k2 hx e4 e5 rfl e6 λv' H' A' x4 k4=>by
     obtain⟨B2,k5,sub⟩:=OK.part (τ:=[some v']) (Θ:=[some z.2]) k4 rfl;exact w Z H' ⟨F1,B2,(x.trans x4).iX sub,k5,Kept.refl⟩
  refine tG.mono (pC t) λu H2 h2=>tG.mono (pC h2) λv H3 h3=>?_
  obtain⟨F,A,U,rs,U',k,e,w⟩:=h3;cases e;obtain⟨u',v',ee,p,y',a,H4,rfl,ey,g1,g2,g3⟩:=w [] H3 ⟨F,A,Ext.refl,k,True.intro⟩;cases ee;cases ey;exact⟨p,.int a,rfl,g1,a,b,rfl,rfl,p,H4,rfl,g2,g3⟩
end
theorem T2{P:Program}{w:World}{xs:List DictEntry}{kvs:List (Str×Value)}(p:Pairs (strKind P w) xs kvs):∀{es:List (TK×V×V)},(∀x∈xs,∃k,(strKind P w).is k x.key=true/\x.hash=(strKind P w).hash k)->kvs.map (λp=>TK.inr p.1)=es.map (·.1)->Vals (es.map (·.2.2)) (kvs.map (·.2))->jR es->Paired (jy w) es xs:=by
 induction p with
 |nil=>
  intro es _ e _ _;cases es with
  |nil=>exact .nil
  |cons _ _=>cases e
 |@cons x kv xs kvs h1 h2 _ ih=>
  intro es hk e v t;cases es with
  |nil=>cases e
  |cons a es=>
   rw[cv,cv,List.cons.injEq] at e;cases v with
   |cons v1 v2=>
    refine .cons ?_ (ih (λy m=>hk y (.tail _ m)) e.2 v2 λy m=>t y (.tail _ m))
    obtain⟨k,k1,k2⟩:=hk x (.head _);obtain⟨z,t1,t2⟩:=t a (.head _);have i1:Value.isStrOf kv.1 x.key=true:=h1;have i2:Value.isStrOf k x.key=true:=k1;cases hx:x.key with
    |str s tk=>
     rw[hx] at i1 i2;have j1:s=kv.1:=by simpa[Value.isStrOf] using i1
     have j2:s=k:=by simpa[Value.isStrOf] using i2
     have j3:kv.1=z:=by
      have:=e.1.trans t1;cases this;rfl
     refine⟨?_,?_,by rw[h2];exact v1,by rw[t1];rfl⟩
     ·rw[k2,t1,<-j2,j1,j3];rfl
     ·rw[t2,hx,j1,j3];exact⟨tk,rfl⟩
    |_=>rw[hx] at i1;cases i1
noncomputable def dE(z:Str)(k:TK):Bool:=decide (k≠.inr z)
theorem Nr(z:Str):∀{es:List (TK×V×V)} {kvs:List (Str×Value)},kvs.map (λp=>TK.inr p.1)=es.map (·.1)->Vals (es.map (·.2.2)) (kvs.map (·.2))->(without kvs z).map (λp=>TK.inr p.1)=(es.filter λe=>dE z e.1).map (·.1)/\Vals ((es.filter λe=>dE z e.1).map (·.2.2)) ((without kvs z).map (·.2))
 |[],[],_,_=>⟨rfl,.nil⟩
 |[],_::_,e,_=>by cases e
 |_::_,[],e,_=>by cases e
 |a::es,kv::kvs,e,v=>by
  rw[cv,cv,List.cons.injEq] at e;cases v with
  |cons v1 v2=>
   obtain⟨i1,i2⟩:=Nr z e.2 v2;unfold without at *;by_cases h:kv.1=z
   ·have h':dE z a.1=false:=by unfold dE;rw[<-e.1,h];simp
    rw[qe,qe,if_neg (by simp[h]),if_neg (by rw[h'];exact kU)]
    exact⟨i1,i2⟩
   ·have h':dE z a.1=true:=by unfold dE;rw[<-e.1];simpa using h
    rw[qe,qe,if_pos (by simpa using h),if_pos h']
    exact⟨by rw[cv,cv,i1,e.1],.cons v1 i2⟩
theorem Oa(z:Str){v:V}:∀{es:List (TK×V×V)} {kvs:List (Str×Value)},kvs.map (λp=>TK.inr p.1)=es.map (·.1)->Vals (es.map (·.2.2)) (kvs.map (·.2))->iJ es (.inr z)=some v->∃u,valueAt kvs z=some u/\RelV v u
 |[],[],_,_,h=>by cases h
 |[],_::_,e,_,_=>by cases e
 |_::_,[],e,_,_=>by cases e
 |a::es,kv::kvs,e,vs,h=>by
  rw[cv,cv,List.cons.injEq] at e;cases vs with
  |cons v1 v2=>
   unfold iJ at h;unfold valueAt;rw[qP] at h ⊢;by_cases g:kv.1=z
   ·have g':a.1=.inr z:=by rw[<-e.1,g]
    rw[decide_eq_true g'] at h;rw[decide_eq_true g];cases h;exact⟨_,rfl,v1⟩
   ·have g':¬a.1=.inr z:=by rw[<-e.1];intro x;cases x;exact g rfl
    rw[decide_eq_false g'] at h;rw[decide_eq_false g];exact Oa z e.2 v2 h
def vy(K:L2.FG):V->List V->Hp->VK->Prop:=λx vs H Q=>∃d es ep z v,x=.ref d/\vs=[.str z]/\H d=some (.dG es ep)/\jR es/\iJ es (.inr z)=some v/\∀tZ,Q v (upd H d (.dG (es.filter λe=>dE z e.1) tZ))
theorem Ic{X:Cx}(K:L2.FG):qf X "dict.pop" (vy K):=by
 intro pins s Z H x xs v us Q I rx rs h;obtain⟨d,es,ep,z,v',rfl,rfl,hd,ht,hv,q⟩:=h;cases rx;obtain⟨u,rfl,ru⟩:=rs.one;obtain⟨tk,rfl⟩:=ru;obtain⟨kvs,D1,D2,D3,D4,lo⟩:=AA I hd ht;obtain⟨w,hw,mi⟩:=Oa z D3 D2 hv;refine call_meetsIn PySem.F.slot_dict_pop (Eg I hd).1 PySem.F.entry_dict_pop (PySem.F.args_dict_pop_2 _ _) (meets_dict_pop_there (strKind X.prog X.w) d (k:=z) (by show Value.isStrOf z (.str z tk)=true;simp[Value.isStrOf]) [] (.inl rfl) (by rfl)) ⟨kvs,w,D1.dictOf,D4,hw,λh' hD hs=>?_⟩
 obtain⟨o,xs,tZ,g1,g2,g3,g4,g5,g6⟩:=hD;obtain⟨f1,f2⟩:=Nr z D3 D2;obtain⟨hz,_⟩:=(show cb X.prog X.w H s.heap d (.dG es ep) from I.cx d _ hd);refine⟨v',_,HX (ob:=.dG (es.filter λe=>dE z e.1) tZ) I (by rw[hd];exact True.intro) hs ⟨_,g1⟩ ⟨?_,lo,o,xs,g1,g2,g3,T2 g5 (λx m=>g4 x (Array.mem_toList_iff.mp m)) f1 f2 λe m=>ht e (zm.mp m).1,?_⟩,mi,q tZ⟩
 ·exact lQ (List.length_filter_le _ _) hz
 ·rw[<-f1,show(λp:Str×Value=>TK.inr p.1)=TK.inr∘(·.1) from rfl,<-jx]
  exact List.Pairwise.map _ (λa b ne z=>ne (by cases z;rfl)) g6
noncomputable def iR:O->List O->Option (O×O)
 |.aK kvs,[.Y (.str z)]=>if kvs.all (λp=>kx p.1)=true then(jI kvs (.inr z)).bind λo=>(match o with
   |.Y d=>some (.aK (kvs.filter λp=>dE z p.1),.Y d)
   |_=>none) else none
 |_,_=>none
section
variable {K:L2.FG} {F H:Hp}
theorem Mx(z:Str):∀{ws:List (TK×V×V)} {kvs:List (TK×O)} {B:List Addr},ws.map (·.1)=kvs.map (·.1)->au K F (ws.map (·.2.1)) (kvs.map (·.1.d))->ai K F H (ws.map λp=>some p.2.2) (kvs.map λp=>some p.2) B->
  ∃C,ai K F H ((ws.filter λe=>dE z e.1).map λp=>some p.2.2) ((kvs.filter λe=>dE z e.1).map λp=>some p.2) C/\C.Sublist B/\(ws.filter λe=>dE z e.1).map (·.1)=(kvs.filter λe=>dE z e.1).map (·.1)/\au K F ((ws.filter λe=>dE z e.1).map (·.2.1)) ((kvs.filter λe=>dE z e.1).map (·.1.d))
 |[],[],B,_,r,o=>⟨B,o,List.Sublist.refl _,rfl,r⟩
 |[],_::_,_,e,_,_=>by cases e
 |_::_,[],_,e,_,_=>by cases e
 |w::ws,p::kvs,B,e,r,o=>by
  rw[cv,cv,List.cons.injEq] at e;obtain⟨B1,B2,g1,g2,rfl⟩:=ai.one o;obtain⟨r1,r2⟩:=au.inv r;obtain⟨C,i1,i2,i3,i4⟩:=Mx z e.2 r2 g2;rw[qe,qe,e.1];by_cases h:dE z p.1=true
  ·rw[if_pos h,if_pos h];exact⟨B1++C,g1.app i1,(List.Sublist.refl _).append i2,by rw[cv,cv,i3,e.1],.cons r1 i4⟩
  ·rw[if_neg h,if_neg h];exact⟨C,i1,i2.trans (ly _ _),i3,i4⟩
theorem Ie:eP K (vy K) iR:=by
 intro F H x vs o os o' res Ai Aτ Q le h1 h2 nd fr e q;unfold iR at e;split at e
 case h_2=>cases e
 rename_i kvs z
 split at e
 case isFalse=>cases e
 rename_i ha
 obtain⟨ov,q2,e⟩:=cV.mp e;split at e
 case h_2=>cases e
 rename_i d
 cases e;obtain⟨y,rfl⟩:∃y,vs=[y]:=by
  match vs,h2.length with
  |[y],_=>exact⟨y,rfl⟩
 cases iM h2 rfl;obtain⟨l,ws,ep,Ap,rfl,rfl,hl,hk,rk,ch⟩:=Ec h1;obtain⟨v,g1,g2⟩:=D_ hk ch q2;obtain⟨C,i1,i2,i3,i4⟩:=Mx z hk rk ch;have uk:(l::(Ap++Aτ)).Nodup:=by simpa using nd
 have nC:l∉C:=λm=>(j7.mp uk).1 (by simp[i2.mem m])
 refine⟨l,ws,ep,z,v,rfl,rfl,hl,Ez hk (by rw[jx];exact rk) (by rw[Fw];exact ha),g1,λtZ=>?_⟩
 refine q v _ (l::C++[]) [] (Hr (by simp)) yo (.upd λC dx fs z=>by rw[hl] at z;cases z) (.aK iU i3 i4 (i1.keep (aH.refl _) λa m u e=>by rw[cK (λz=>nC (by rw[<-z];exact m):a≠l)];exact e) .nil) (.Y g2 .nil) ?_
 rw[iA,d_];exact(aJ.refl [l]).app (.aP i2) |>.trans (.aP (CY _ _))
end
noncomputable def km(g:O->List O->Option (O×O))(Ch:Addr)(ns:List Str)(i j:Nat)(fs:GA):GE:=λU=>match U[i]? with
 |some (some (.ins C jr ps))=>if C=Ch/\jr=ns then(match ps[j]? with
   |some (.aK _)=>(fs U).bind λq=>(eY q.1).bind λos=>(match q.2[i]? with
     |some (some (.ins C1 mD j6))=>(j6[j]?).bind λc=>(g c os).bind λz=>some (.own z.2,q.2.set i (some (.ins C1 mD (j6.set j z.1))))
     |_=>none)
   |_=>none) else none
 |_=>none
section
variable {X:Cx} {K:L2.FG} {Ch:Addr} {ns:List Str} {i j:Nat} {e o:Expr} {es:List Expr} {name:Str} {apos aV:Pos} {fs:GA} {id:String} {r:V->List V->Hp->VK->Prop} {g:O->List O->Option (O×O)}
theorem VJ(ok:eP K r g){Z:St}{H:Hp}{Q:VK}(t:tG K (km g Ch ns i j fs) Z H Q):zf K "dict" r (tG K (cw Ch ns i j)) (gZ K fs) Z H Q:=by
 obtain⟨F,A,U,rr,U',k,e,w⟩:=t;unfold km at e;split at e
 case h_2=>cases e
 rename_i C jr ps e1
 split at e
 case isFalse=>cases e
 rename_i hh
 obtain⟨rfl,rfl⟩:=hh;split at e
 case h_2=>cases e
 rename_i l e2
 obtain⟨⟨rs,U2⟩,e3,e⟩:=cV.mp e;obtain⟨os,e4,e⟩:=cV.mp e;split at e
 case h_2=>cases e
 rename_i C1 mD j6 e5
 obtain⟨c,e6,e⟩:=cV.mp e;obtain⟨z,e7,e⟩:=cV.mp e;cases e;refine⟨F,A,U,_,U,k,N8 e1 e2 (λd z=>by cases z),λx H1 p=>?_⟩
 obtain⟨F1,A1,x1,k1,hh⟩:=p;obtain⟨hx,_⟩:=hh;obtain⟨k2,x2⟩:=k1.sub (Z':=Z) (U':=U) (by cases k1.os with|skip t=>exact t) (aJ.refl _)
 refine⟨?_,F1,A1,U,rs,U2,k2,e3,λvs H2 p2=>?_⟩
 ·obtain⟨x0,Ai,C',g1,g2,g3,g4⟩:=k2.os.take e1;obtain⟨a,dx,oO,f',v,Ac,B1,rfl,q1,q2,q3,q4,_⟩:=zR g2 (hV.mp (g4.nodup_iff.mp k2.nd)).1 e2;obtain⟨a',C2,wM,va,f2,p,y1,y2,y3,rfl⟩:=hx;rw[g1] at y1;cases y1;rw[q1] at y2;cases y2;rw[q3] at y3;cases y3;obtain⟨l,ws,ep,Ap,z1,_,hl,_⟩:=Ec q4;cases z1;exact .inr (.inr (.inl ⟨rfl,.inr (.inr ⟨ws,ep,hl⟩)⟩))
 ·obtain⟨F3,A3,x3,k3,h3⟩:=p2;rw[pD e4] at k3;have hl:vs.length=os.length:=by
   have:=h3.length;have h4:=congrArg List.length (pD e4);simp at h4;lia
  exact OK.ui ok k3 (hx.kf x3.kf) e5 e6 hl e7 λv H' A' x4 k4=>w v H' ⟨F3,A',(x1.trans (x2.trans (x3.trans x4))),k4,True.intro⟩
theorem Ig(slot:Slot "dict" name id)(kr:typeOf (.builtin id)=pure (.type "method_descriptor"))(hm:qf X id r)(ok:eP K r g)(ho:PE X o (tG K (cw Ch ns i j)))(ha:PA X (e::es) (gZ K fs))
  (dS:attributeBase o name X.env (eval o X.env)=eval o X.env:=by rfl)
  (kq:((backTo aV (starEach (e::es) X.env)).all (λx => !x.1) && (backToKw aV (keywordEach [] X.env)).all (λx=>x.1.isSome)
   && decide ((e::es).length+([]:List Keyword).length+(if([]:List Keyword).isEmpty then 0 else 1) < 30))=true:=by rfl)
  (dU:(apos.endLine == aV.line)=true:=by rfl) (hs:starEach (e::es) X.env=(false,eval e X.env)::starEach es X.env:=by rfl) (eU:(backTo aV (starEach es X.env)).any (·.1)=false:=by rfl) (hK:X.K=K:=by rfl) :
  PE X (.Call (.Attribute o name apos) (e::es) [] aV) (tG K (km g Ch ns i j fs)):=by
 subst hK;exact(AU PySem.F.plainAttrs_dict slot kr hm ho ha dS kq dU hs eU).mono λ_ _ _ t=>VJ ok t
end
end L2
namespace L2
open PySem PySem.Spec PyProof.Rows
section
variable {X:Cx} {K:L2.FG} {fo f:GE} {fs:GA} {g:List O->Option O} {r:V->List V->Hp->VK->Prop} {o e:Expr} {es:List Expr} {name:Str} {xn:String} {apos aV pos:Pos}
noncomputable def AO(g:List O->Option O)(fo:GE)(fs:GA):GE:=λU=>(fo U).bind λp=>match p.1 with
 |.own (.Y (.aK ds))=>(fs p.2).bind λq=>(fD q.2 q.1).bind λos=>(g (.Y (.aK ds)::os)).bind λo=>some (.own o,q.2)
 |_=>none
theorem My(g:List O->Option O)(fo:GE)(fs:GA)(U:Gm):AO g fo fs U=(fo U).bind λp=>match p.1 with
 |.own (.Y (.aK ds))=>(fs p.2).bind λq=>(fD q.2 q.1).bind λos=>(g (.Y (.aK ds)::os)).bind λo=>some (.own o,q.2)
 |_=>none:=rfl
theorem T3(ok:cD K (lL r) g){Z:St}{H:Hp}{Q:VK}(t:tG K (AO g fo fs) Z H Q):zf K "dict" r (tG K fo) (gZ K fs) Z H Q:=by
 obtain⟨F,A,U,rr,U',k,e,w⟩:=t;unfold AO at e;obtain⟨⟨r1,U1⟩,e1,e'⟩:=cV.mp e;clear e;dsimp only at e';split at e'
 ·rename_i ds
  obtain⟨⟨rs,U2⟩,e2,e3⟩:=cV.mp e';obtain⟨os,e4,e5⟩:=cV.mp e3;obtain⟨ob,e6,e7⟩:=cV.mp e5;cases e7;refine⟨F,A,U,_,U1,k,e1,λv H1 pp=>?_⟩
  obtain⟨F1,A1,x1,k1,hh⟩:=pp;obtain⟨B,C,h1,h2,h3⟩:=ai.one (Z:=Z) (U:=U1) k1.os;have rp:=sv h1;subst h3;obtain⟨k2,x2⟩:=k1.sub h2 (.aP (ly _ _));have kr:Fq K "dict" v H1:=by
   cases rp with
   |flat z _=>cases z
   |aK q _ _ _ _=>exact .inr (.inr (.inl ⟨rfl,.inr (.inr ⟨_,_,k1.le _ _ q⟩)⟩))
  refine⟨kr,F1,C,U1,rs,_,k2,e2,λvs H2 p2=>?_⟩
  obtain⟨F2,A2,x3,k3,vd⟩:=p2;have p3:dW K F1 H1 C Z U2 rs vs H2:=⟨F2,A2,x3,k3,vd⟩;have hl:(vs.map some).length=(rs.map R.o).length:=by rw[bB,bB,vd.length]
  obtain⟨B3,C3,o1,o2,o3⟩:=ai.split hl k3.os;have eD:=yj o2 o1 vd e4;have res:Res K F2 H2 ob Q:=λv' H' Av s' w' nd fresh=>by
   obtain⟨B',kB,sub⟩:=k3.part hl;obtain⟨k4,x4⟩:=kB.push s' w' nd fresh;exact w v' H' ⟨F2,Av++B',(x1.trans x2).trans (x3.trans ((Ext.iX Ext.refl sub).trans x4)),k4,True.intro⟩
  obtain⟨y,ys,Jj,Kf⟩:=ok F2 H2 (v::vs) (.Y (.aK ds)::os) ob Q k3.le (.cons ⟨[],.Y (rp.mono x3.ff) .nil⟩ eD) e6 res;cases Jj;exact Kf
 ·cases e'
theorem T4(slot:Slot "dict" name xn)(kr:typeOf (.builtin xn)=pure (.type "method_descriptor"))(hm:qf X xn r)(ok:cD K (lL r) g)(ho:PE X o (tG K fo))(ha:PA X (e::es) (gZ K fs))
  (dS:attributeBase o name X.env (eval o X.env)=eval o X.env:=by rfl)
  (kq:((backTo aV (starEach (e::es) X.env)).all (λx => !x.1) && (backToKw aV (keywordEach [] X.env)).all (λx=>x.1.isSome)
   && decide ((e::es).length+([]:List Keyword).length+(if([]:List Keyword).isEmpty then 0 else 1) < 30))=true:=by rfl)
  (dU:(apos.endLine == aV.line)=true:=by rfl) (hs:starEach (e::es) X.env=(false,eval e X.env)::starEach es X.env:=by rfl) (eU:(backTo aV (starEach es X.env)).any (·.1)=false:=by rfl) (hK:X.K=K:=by rfl) :
  PE X (.Call (.Attribute o name apos) (e::es) [] aV) (tG K (AO g fo fs)):=by
 subst hK;exact(AU PySem.F.plainAttrs_dict slot kr hm ho ha dS kq dU hs eU).mono λ_ _ _ t=>T3 ok t
end
end L2
namespace L2
open PySem PySem.Spec PySem.W PyProof.Rows
section
variable {X:Cx} {A:Around} {E:Value->Shared->Prop} {pins:List (Addr×Obj)} {Z:St} {H:Hp} {s:Shared} {d:Addr} {y v2:V} {u r:Value}
theorem W'{o:Option V}{Q:Value->Shared->Prop}(hu:A.units+9 < cLine)(I:Inv X pins Z H s)(g:iT X.K H d y o)(ru:RelV y u)(rr:RelV v2 r)(h:∀w' s',Inv X pins Z H s'->RelV (o.getD v2) w'->Q w' s'):
  wpAny (model X.prog X.w) A (call (.builtin "dict.get") [.ref d,u,r]) Q E s:=by
 obtain⟨hT,hd⟩:=g.ty I;refine wpAny_call_entry PySem.F.slot_dict_get hT PySem.F.entry_dict_get ?_ (PySem.F.args_dict_get_3 _ _ _);show wpAny _ _ (dictGet d u >>= _) _ _ s;refine wpAny_bind (GY (by show A.units+1+8 < cLine;lia) I g ru λw t mi=>?_)
 cases o with
 |none=>
  cases w with
  |none=>
   show wpAny _ _ (Builtin.Dict.missed d u >>= _) _ _ _;exact wpAny_bind (wpAny_missed_other hd (wpAny_pure ⟨r,rfl,h r _ (I.tok t) rr⟩))
  |some w=>exact mi.elim
 |some v'=>
  cases w with
  |none=>exact mi.elim
  |some w=>exact wpAny_pure ⟨w,rfl,h w _ (I.tok t) mi⟩
end
variable{Q E:Value->Shared->Prop}{H:Hp}{ps:List (TK×V×V)}{A:Around}{l:Addr}{ys:List V}{s:Shared}{i m k:Nat}{p:Array Nat}{ks:List (Int×Int)}
section
variable {X:Cx} {K:L2.FG}
def vt(K:L2.FG):V->List V->Hp->VK->Prop:=λx xs H Q=>∃a y z o,x=.ref a/\xs=[y,z]/\iT K H a y o/\Q (o.getD z) H
theorem VL(K:L2.FG)(hu:X.A.units+41 < cLine)(hK:X.K=K:=by rfl):qf X "dict.get" (vt K):=by
 subst hK;intro pins s Z H x xs v us Q I r rs h;obtain⟨a,y,z,o,rfl,rfl,g,q⟩:=h;cases rs with
 |cons r1 rs=>
  obtain⟨u,rfl,ru⟩:=Vals.one rs;cases r;exact W' (by lia) I g r1 ru λw' s' I' mi=>⟨o.getD z,H,I',mi,q⟩
noncomputable def m8:List O->Option O
 |[.Y (.aK kvs),.Y i,.Y d]=>(eV i).map λk=>.Y ((i7 kvs k).getD d)
 |_=>none
theorem VM(kvs:List (TK×D))(i d:D):m8 [.Y (.aK kvs),.Y i,.Y d]=(eV i).map λk=>.Y ((i7 kvs k).getD d):=rfl
theorem VN:cD K (lL (vt K)) m8:=by
 intro F H vs os o Q le eD e res;unfold m8 at e;split at e
 case h_2=>cases e
 rename_i kvs i d
 obtain⟨x,y,z,B,C,D,rfl,h1,h2,h3⟩:∃x y z B C D,vs=[x,y,z]/\ai K F H [some x] [some (.Y (.aK kvs))] B/\ai K F H [some y] [some (.Y i)] C/\ai K F H [some z] [some (.Y d)] D:=by
  cases eD with
  |cons s1 t=>
   cases t with
   |cons s2 t=>
    cases t with
    |cons s3 t=>
     cases t;obtain⟨B,h1⟩:=s1;obtain⟨C,h2⟩:=s2;obtain⟨D,h3⟩:=s3;exact⟨_,_,_,B,C,D,rfl,h1,h2,h3⟩
 obtain⟨k,q1,q2⟩:=jP.mp e;subst q2;obtain⟨p,ws,ep,rfl,hp,hk,rk,hr⟩:=Ml le h1 rfl;refine⟨_,_,rfl,p,y,z,iJ ws k,rfl,rfl,⟨ws,ep,k,hp,rk,by rw[(oE q1).1];exact nz le h2,(oE q1).2,rfl⟩,?_⟩
 have r1:=sv h1;cases r1 with
 |flat z _=>cases z
 |@aK _ xS _ _ _ _ hq EZ _ ri _=>
  have e2:=le _ _ hq;rw[hp] at e2;cases e2;rcases D9 (k:=k) EZ ri with⟨g1,g2⟩|⟨v,d',g1,g2,g3⟩
  ·rw[g1];rw[g2] at res;exact res.Y (sv h3)
  ·rw[g1];rw[g2] at res;exact res.Y g3
end
theorem KU:entryFor table "dict.update.loop"=some Builtin.«dict.update.loop»:=entryFor_of_tree (by kernel_rfl)
theorem Dj:plainId "dict.update.loop"=true:=by decide +kernel
noncomputable def iF(es:List (TK×V×V))(ps:List (TK×V×V)):List (TK×V×V):=ps.foldl (λes p=>dY es p.1 p.2.1 p.2.2) es
theorem Al{d:Addr}{o:HO}(h:H d=none):aH H (upd H d o):=λb u e=>by
 rw[cK (λz=>by rw[z,h] at e;cases e)]
 exact e
section
variable {X:Cx} {pins:List (Addr×Obj)} {Z:St} {H:Hp}
structure jY (K:L2.FG) (H:Hp) (ys:List V) (ps:List (TK×V×V)):Prop where
 len:ys.length=ps.length
 item:∀(i:Nat) p,ps[i]?=some p->∃a,ys[i]?=some (.ref a)/\iL K H a [p.2.1,p.2.2]/\au K H [p.2.1] [p.1.d]/\p.1.ok 8=true
theorem QW(es ps:List (TK×V×V)):(iF es ps).length<=es.length+ps.length:=by
 induction ps generalizing es with
 |nil=>exact cP _
 |cons p ps ih=>
  have:=ih (dY es p.1 p.2.1 p.2.2);have:=Gx p.1 p.2.1 p.2.2 es;show(iF (dY es p.1 p.2.1 p.2.2) ps).length<=_;rw[jV];lia
theorem QX(K:L2.FG)(h:∀p∈ps,au K H [p.2.1] [p.1.d]):∀{es:List (TK×V×V)},au K H (es.map (·.2.1)) (es.map (·.1.d))->au K H ((iF es ps).map (·.2.1)) ((iF es ps).map (·.1.d)):=by
 induction ps with
 |nil=>exact λr=>r
 |cons p ps ih=>
  intro es r;refine ih (λq m=>h q (.tail _ m)) ?_
  have hp:=h p (.head _);clear ih h
  induction es with
  |nil=>exact hp
  |cons e es ih=>
   obtain⟨r1,r2⟩:=au.inv r;show au K H ((if e.1=p.1 then(e.1,e.2.1,p.2.2)::es else e::dY es p.1 p.2.1 p.2.2).map (·.2.1)) ((if e.1=p.1 then(e.1,e.2.1,p.2.2)::es else e::dY es p.1 p.2.1 p.2.2).map (·.1.d))
   split
   ·exact .cons r1 r2
   ·exact .cons r1 (ih r2)
theorem QY{R:Result->Shared->Prop}{d J:Addr}(hd:H d=none)(hl:dq X.K H l ys)(hp:jY X.K H ys ps)(hh:A.handled=none)(hu:A.units+12 < cLine)(hn:ps.length < 1000)
  (hJ:∀u,jz X pins (upd H d u) J)
  (fin:∀s ep,Inv X pins Z (upd H d (.dG (iF [] ps) ep)) s->R (.ok (.ret .none)) s) :
  ∀(n i:Nat) (ep:Nat) (s:Shared) (tk:Tok),ps.length - i=n->i<=ps.length->Inv X pins Z (upd H d (.dG (iF [] (ps.take i)) ep)) s->s.heap.IsListIter J l i->codeAny (model X.prog X.w) A (.builtin "dict.update.loop" ⟨[.ref d,.ref J,.int (i:Int) tk,.none],[]⟩) R s:=by
 intro n
 induction n with
 |zero=>
  intro i ep s tk hi Za I it;have e:i=ps.length:=by lia
  subst e;refine codeAny_builtin KU ?_;rw[Around.under_plainId Dj _];show wpAny _ A.in1 (pyNext (.ref J) >>= _) _ _ s;have E2:=(Al (o:=.dG (iF [] (ps.take ps.length)) ep) hd).seq hl;obtain⟨aG,rv,p,hz⟩:=I.list E2;obtain⟨f0,f1,f2,f3,f4,f5⟩:=hJ (.dG (iF [] (ps.take ps.length)) ep);have hlen:=rv.length;have BS:=hp.len;refine wpAny_bind (wpAny_pyNext_list_end hh it p.isList (by simp;lia) λh' eb=>?_)
  have I1:=I.turned (t':=s.toks) (λb o hb e=>eb b o hb e) f0 f1 f3 f4 f5
  rw[List.take_length] at I1;exact wpAny_bind (wpAny_pure (wpAny_pure (fin _ ep I1)))
 |succ n ih=>
  intro i ep s tk hi Za I it;have lt:i < ps.length:=by lia
  obtain⟨a,ya,sq,rk,ok⟩:=hp.item i ps[i] (jW lt);refine codeAny_builtin KU ?_;rw[Around.under_plainId Dj _];show wpAny _ A.in1 (pyNext (.ref J) >>= _) _ _ s;have sm:=Al (o:=.dG (iF [] (ps.take i)) ep) hd;obtain⟨aG,rv,p,hz⟩:=I.list (sm.seq hl);obtain⟨u,JW,ru⟩:=rv.get ya;obtain rfl:u=Value.ref a:=ru;obtain⟨f0,f1,f2,f3,f4,f5⟩:=hJ (.dG (iF [] (ps.take i)) ep);refine wpAny_bind (wpAny_pyNext_list_item it p.isList (x:=.ref a) (by simpa using JW) λh' Pc sb=>?_)
  have I1:Inv X pins Z (upd H d (.dG (iF [] (ps.take i)) ep)) { s with heap:=h'}:=I.turned (t':=s.toks) (λb o hb e=>(sb.2 b hb).trans e) f0 f1 f3 f4 f5
  obtain⟨gG,Fe,tp,_⟩:=I1.tuple (sm.ng sq);obtain⟨w1,w2,rfl,r1,r2⟩:∃w1 w2,gG=[w1,w2]/\RelV ps[i].2.1 w1/\RelV ps[i].2.2 w2:=by
   cases Fe with
   |cons r1 t=>
    cases t with
    |cons r2 t=>cases t;exact⟨_,_,rfl,r1,r2⟩
  obtain⟨o,ho,hc,n0,ub⟩:∃o,h'.get? a=some o/\o.cls=.type "tuple"/\∃n,o.data=.seq #[w1,w2] n:=by
   obtain⟨o,h1,h2,h3⟩:=tp;exact⟨o,h1,h2,h3⟩
  have hT:({ s with heap:=h'}:Shared).TypeIs (.ref a) "tuple":=⟨o,ho,hc⟩;refine wpAny_bind (wpAny_holding (wpAny_bind (wpAny_tryCatch ?_)));unfold Builtin.Dict.pairItems;refine wpAny_bind (wpAny_typeOf hT ?_);rw[if_pos (by decide)]
  refine wpAny_bind (m:=seqItems? (.ref a)) (wpAny_bind (wpAny_load ho ?_));rw[ub];refine wpAny_pure (wpAny_pure ?_);show wpAny _ _ (holding [w1,w2] (dictSet d w1 w2)) _ _ _;refine wpAny_holding ?_;have I2:=I1.pinned (fp:=[J]) (λb hb=>by rw[qO.mp hb];exact hJ _) (λb hb=>by
   rw[qO.mp hb];obtain⟨oj,ej,_,dj⟩:=Pc;exact⟨oj,ej,λv z=>by rw[dj] at z;cases z⟩)
  have tk1:ps.take (i+1)=ps.take i++[ps[i]]:=(List.take_append_getElem lt).symm;have Zp:dY (iF [] (ps.take i)) ps[i].1 ps[i].2.1 ps[i].2.2=iF [] (ps.take (i+1)):=by rw[tk1];unfold iF;rw[List.foldl_append];rfl
  have hlen:=QW [] (ps.take i);rw[nJ,vM] at hlen;refine LP (H':=upd (upd H d (.dG (iF [] (ps.take i)) ep)) d (.dG (iF [] (ps.take (i+1))) (pX (iF [] (ps.take i)) ps[i].1 ep))) (show A.in1.units+8 < cLine from ?_) I2 ⟨_,ep,ps[i].1,iU,?_,rk.mono sm,ok,?_,by rw[Zp]⟩ r1 r2 λs' I3=>?_
  ·have:A.in1.units=A.units+1:=rfl;lia
  ·exact(QX X.K (λq m=>by
    obtain⟨j,hj⟩:=CZ.mp (List.mem_of_mem_take m);obtain⟨_,_,_,r,_⟩:=hp.item j q hj;exact r) .nil).mono sm
  ·exact i_ (by lia:(iF [] (ps.take i)).length < 1000000) (by decide)
  ·have eu:upd (upd H d (.dG (iF [] (ps.take i)) ep)) d (.dG (iF [] (ps.take (i+1))) (pX (iF [] (ps.take i)) ps[i].1 ep))=upd H d (.dG (iF [] (ps.take (i+1))) (pX (iF [] (ps.take i)) ps[i].1 ep)):=by
    funext b;unfold upd;split <;> rfl
   rw[eu] at I3;obtain⟨oj,ej,cj,dj⟩:=id Pc;have Yw:s'.heap.get? J=some oj:=(I3.pin (J,oj) (ja _ (ja _ (zO (by simp) ej)))).1
   refine wpAny_pure ⟨plainId_quiet Dj _,?_⟩;exact ih (i+1) _ s' _ (by lia) lt I3.gm ⟨oj,Yw,cj,dj⟩
theorem Sd{aG:Array Value}{Q:Option Value->Shared->Prop}(pl:PlainL s.heap l aG)(hA:A.handled=none)
  (h:∀h' tk,(∀b u,s.heap.get? b=some u->h'.get? b=some u)->Q none { s with heap:=h',toks:=tk}):wpAny (model X.prog X.w) A (getAttr? (.ref l) "keys") Q E s:=by
 obtain⟨o,n,hx,hc,hd,ub⟩:=pl;obtain⟨c,aK,dat,sl⟩:=o;simp only at hc ub hd;subst hc ub hd;obtain⟨hp,g,d,tk,os⟩:=s;have hT:∀Pz,(⟨hp,g,d,Pz,os⟩:Shared).TypeIs (.ref l) "list":=λ_=>⟨_,hx,rfl⟩
 have f1:=sub_AttributeError;have f3:=F.slot_list_getattribute.lookup;have f4:=F.slot_list_getattribute.bind (.ref l);have f5:=am_list_getattr_none;unfold getAttr? getAttrBy? getAttrBy
 repeat (any_goals (first|assumption|exact hT _|((with_reducible show wpAny _ _ (call (Value.builtin "list.__getattribute__") _ _) _ _ _);refine call_meets F.slot_list_getattribute (hT _) am_entry_list_getattribute (F.args_list_getattribute_2 _ _) (meets_getattribute_miss_list l aG n sl "keys" _ (by rw[typeLookup_type,builtinLookup_eq_fast];kernel_rfl) (by decide) (by size_fits)) ⟨hx,hA,λh' Pz e O7=>?_⟩)|wp_step))
 obtain⟨t',u',he⟩:=O7.there;show wpAny _ _ (getattributeRaised _ _ _ _ _ _ _) _ _ _;unfold getattributeRaised
 repeat (any_goals (first|assumption|wp_step))
 exact h _ _ O7.keeps
theorem P4(I:Inv X pins Z H s)(hl:dq X.K H l ys)(hp:jY X.K H ys ps)(hh:A.handled=none)(hu:A.units+20 < cLine)(hn:ps.length < 1000)
  (q:∀s' ep,Inv X pins Z (upd H s.heap.objs.size (.dG (iF [] ps) ep)) s'->Q (.ref s.heap.objs.size) s'):wpAny (model X.prog X.w) A (call (.type "dict") [.ref l]) Q E s:=by
 refine callType_codes (Q₁:=λobj s₁=>obj=.ref s.heap.objs.size/\s₁={ s with heap:=s.heap.push { cls:=.type "dict",data:=.dict #[]}}) F.kt_called_dict (F.kt_typeCall_dict_1 _) F.entry_dict_init (kt_code_dict_new _ ⟨rfl,rfl⟩) ?_
 rintro obj s₁ ⟨rfl,rfl⟩;have hd:H s.heap.objs.size=none:=I.cx.fresh (cP _);have I1:=I.laid (a:=s.heap.objs.size) (o:=.dG [] 0) (h':=s.heap.push { cls:=.type "dict",data:=.dict #[]}) (t':=s.toks) (λ_ _ q=>iK _ q) (cP _) (Mg s.heap I.big)
 generalize s.heap.objs.size=d at *;generalize s.heap.push { cls:=.type "dict",data:=.dict #[]}=JT at *;have hT:=(Eg I1 iU).1;obtain⟨aG,rv,pl,hz⟩:=I1.list ((Al hd).seq hl);have Y1:({ s with heap:=JT,toks:=s.toks}:Shared).TypeIs (.ref l) "list":=by
  obtain⟨o,n,h1,h2,_⟩:=pl;exact⟨o,h1,h2⟩
 refine⟨hT,F.args_dict_init_2 _ _,?_⟩;unfold Builtin.«dict.__init__»;refine wpAny_bind ?_;unfold Builtin.Dict.selfAndRest;refine wpAny_bind (wpAny_notOrdered_dict hT ?_);show wpAny _ _ (pure (d,[Value.ref l])) _ _ _;refine wpAny_pure ?_;show wpAny _ _ (Builtin.Dict.updateFrom "dict.__init__" d (.ref l) [] .none) _ _ _;unfold Builtin.Dict.updateFrom;refine wpAny_bind (wpAny_typeOf Y1 ?_);rw[if_pos (by decide)]
 refine wpAny_bind (Sd (X:=X) pl (show A.in1.in1.handled=none from hh) λh' tk kp=>?_)
 have I2:Inv X pins Z (upd H d (.dG [] 0)) { s with heap:=h',toks:=tk}:=I1.kept (t':=tk) kp;obtain⟨gG,Fe,rV,_⟩:=I2.list ((Al hd).seq hl);show wpAny _ _ (rule _ >>= _) _ _ _;refine wpAny_bind (wpAny_rule ?_);refine wpAny_bind (wpAny_pyIter_list rV.isList ?_);have I3:=I2.kept (h':=h'.push { cls:=.type "list_iterator",data:=.fields #[.ref l,.int 0 0]}) (t':=tk) (λ_ _ e=>iK _ e)
 have OA:d < h'.objs.size:=by
  obtain⟨_,_,o,xs,g1,_⟩:=(show cb X.prog X.w _ h' d (.dG [] 0) from I2.cx d _ iU);exact fF g1
 refine wpAny_pure ⟨plainId_quiet Dj _,?_⟩;refine QY (A:=A.in1) (J:=h'.objs.size) hd hl hp hh (show A.units+1+12 < cLine by lia) hn (λu=>I2.nW (cP _) ?_) (λs' ep I4=>⟨rfl,q s' ep I4⟩) ps.length 0 0 _ _ rfl (mE _) I3 ⟨_,mG _ rfl,rfl,rfl⟩
 rw[cK (CV OA)];have:=I2.cx.fresh (cP _)
 rwa [cK (CV OA)] at this
def Ob(K:L2.FG):List V->Hp->VK->Prop:=λvs H Q=>∃a ys ps,vs=[.ref a]/\dq K H a ys/\jY K H ys ps/\ps.length < 1000/\∀p ep,H p=none->Q (.ref p) (upd H p (.dG (iF [] ps) ep))
theorem QZ(K:L2.FG)(hu:X.A.units+41 < cLine)(hc:X.calm=true:=by rfl)(hK:X.K=K:=by rfl):cJ X (.type "dict") (Ob K):=by
 subst hK;intro pins s Z H xs us Q I r h;obtain⟨a,ys,ps,rfl,hl,hp,hn,q⟩:=h;obtain⟨u,rfl,ru⟩:=vals1 r;cases ru;exact P4 I hl hp (I.ok.hd hc) (by lia) hn λs' ep I'=>⟨.ref s.heap.objs.size,_,I',rfl,q _ ep (I.cx.fresh (cP _))⟩
end
theorem VO:bootBuiltins "dict"=some (.type "dict"):=by decide +kernel
noncomputable def wB:List D->Option (List (TK×D))
 |[]=>some []
 |.tup [k,v]::ds=>(eV k).bind λk=>(wB ds).map ((k,v)::·)
 |_=>none
noncomputable def AQ:List O->Option O
 |[.Y (.lst ds)]=>(wB ds).bind λps=>if ps.length < 1000 then some (.aK (ps.foldl (λkvs p=>fy kvs p.1 (.Y p.2)) [])) else none
 |_=>none
theorem T5(ds:List D):AQ [.Y (.lst ds)]=(wB ds).bind λps=>if ps.length < 1000 then some (.aK (ps.foldl (λkvs p=>fy kvs p.1 (.Y p.2)) [])) else none:=rfl
section
variable {K:L2.FG} {F H:Hp}
theorem Mz:∀{ds:List D} {ps:List (TK×D)} {ws:List V},wB ds=some ps->au K F ws ds->∃qs:List (TK×V×V),jY K F ws qs/\qs.length=ps.length/\Paired (λq p=>q.1=p.1/\au K F [q.2.1] [q.1.d]/\au K F [q.2.2] [p.2]) qs ps
 |[],ps,ws,e,r=>by
  cases e;cases r;exact⟨[],⟨rfl,λi p h=>by cases h⟩,rfl,.nil⟩
 |d::ds,ps,ws,e,r=>by
  unfold wB at e;split at e
  ·rename_i h;cases h
  ·rename_i k v sN h
   cases h;obtain⟨k',q1,e⟩:=cV.mp e;obtain⟨xF,q2,rfl⟩:=jP.mp e;cases r with
   |flat z _=>cases z
   |@tup a w2 vs _ _ sq ri rt=>
    obtain⟨qs,h1,h2,h3⟩:=Mz q2 rt;obtain⟨y,w,rfl⟩:=EH (l:=w2) (by have:=ri.length;simp at this;lia)
    obtain⟨r1,r2⟩:=au.inv ri;have rk:au K F [y] [k'.d]:=by rw[(oE q1).1];exact r1
    refine⟨(k',y,w)::qs,⟨by rw[jV,jV,h1.len],λi p h=>?_⟩,by rw[jV,jV,h2],.cons ⟨rfl,rk,r2⟩ h3⟩
    cases i with
    |zero=>cases h;exact⟨a,rfl,sq,rk,(oE q1).2⟩
    |succ i=>
     obtain⟨b,g1,g2⟩:=h1.item i p (by simpa using h)
     exact⟨b,by simpa using g1,g2⟩
  ·cases e
theorem VQ{qs:List (TK×V×V)}{ps:List (TK×D)}(p:Paired (λq p=>q.1=p.1/\au K F [q.2.1] [q.1.d]/\au K F [q.2.2] [p.2]) qs ps):∀{ws:List (TK×V×V)} {kvs:List (TK×O)},ws.map (·.1)=kvs.map (·.1)->au K F (ws.map (·.2.1)) (kvs.map (·.1.d))->ai K F H (ws.map λp=>some p.2.2) (kvs.map λp=>some p.2) []->
  ai K F H ((iF ws qs).map λp=>some p.2.2) ((ps.foldl (λkvs p=>fy kvs p.1 (.Y p.2)) kvs).map λp=>some p.2) []/\(iF ws qs).map (·.1)=(ps.foldl (λkvs p=>fy kvs p.1 (.Y p.2)) kvs).map (·.1)/\au K F ((iF ws qs).map (·.2.1)) ((ps.foldl (λkvs p=>fy kvs p.1 (.Y p.2)) kvs).map (·.1.d)):=by
 induction p with
 |nil=>exact λa b c=>⟨c,a,b⟩
 |@cons q p qs ps h _ ih=>
  intro ws kvs a b c;obtain⟨h1,h2,h3⟩:=h;obtain⟨C,j1,j2,j3,j4⟩:=Hs (k:=q.1) (y:=q.2.1) (v:=q.2.2) (o:=.Y p.2) (Bv:=[]) (.Y h3 .nil) h2 a b c;have:C=[]:=by
   cases C with
   |nil=>rfl
   |cons x C=>have:=j2.mem x (.head _);simp at this
  subst this;rw[h1] at j1 j3 j4;have:=ih (ws:=dY ws p.1 q.2.1 q.2.2) (kvs:=fy kvs p.1 (.Y p.2)) j3 j4 j1;rw[show iF ws (q::qs)=iF (dY ws p.1 q.2.1 q.2.2) qs by unfold iF;rw[xW,h1],xW]
  exact this
theorem T7:cD K (Ob K) AQ:=by
 intro F H vs os o Q le eD e res;unfold AQ at e;split at e
 case h_2=>cases e
 rename_i ds
 obtain⟨ps,q1,e⟩:=cV.mp e;split at e
 case isFalse=>cases e
 rename_i hn
 cases e;obtain⟨x,B,rfl,h1⟩:=eD.one;have r:=sv h1;cases r with
 |flat z _=>cases z
 |@lst a ws _ _ _ sq ri _=>
  obtain⟨qs,g1,g2,g3⟩:=Mz q1 ri;refine⟨a,ws,qs,rfl,.inl (le.rd sq),⟨g1.len,λi p h=>?_⟩,by lia,λp ep hp=>?_⟩
  ·obtain⟨b,y1,y2,y3,y4⟩:=g1.item i p h;exact⟨b,y1,le.ng y2,y3.mono le,y4⟩
  ·have sm:=Al (o:=.dG (iF [] qs) ep) hp;obtain⟨o1,o2,o3⟩:=VQ (H:=upd H p (.dG (iF [] qs) ep)) g3 (ws:=[]) (kvs:=[]) rfl .nil .nil;refine res (.ref p) _ [p] sm ?_ (by simp) λb mb=>by rw[qO.mp mb];exact hp
   have:=ai.aK (A:=[]) (B:=[]) (Z:=[]) (U:=[]) (iU (H:=H) (a:=p)) o2 o3 o1 .nil;simpa using this
end
noncomputable def gc(i j:Int):Nat:=((j - i+1) / 2).toNat
theorem K2(i j:Int):Builtin.Range.rangeSize i j 2=(gc i j:Nat):=by
 unfold Builtin.Range.rangeSize gc;rw[if_pos (by decide)]
 split <;> lia
theorem Se{i j:Int}(h1:-(2 ^ 20)<=i)(h2:i < 2 ^ 20)(h3:-(2 ^ 20)<=j)(h4:j < 2 ^ 20):Builtin.Range.small i j 2=true:=by
 have:=K2 i j;unfold gc at this;unfold Builtin.Range.small;rw[this];simp only[Builtin.Range.rangeFitsLong,qb,Bool.or_eq_true,decide_eq_true_eq,beq_iff_eq,show(2:Int) > 0 by decide,if_true]
 lia
section
variable {X:Cx} {K:L2.FG} {m:List Bool} {W:Option XW} {f:GS} {fs:GA} {pos p:Pos} {tg a b c:Expr} {t:TG} {gg:GG} {body:List Stmt}
def B5(ta:TA):TI:=λZ H R=>ta Z H λvs H1=>∃i j:Int,vs=[.int i,.int j,.int 2]/\(-(2 ^ 20)<=i/\i < 2 ^ 20 /\ -(2 ^ 20)<=j/\j < 2 ^ 20)/\R (zH i 2 (gc i j)) H1
theorem Sg{ta:TA}(hg:Gl X "range")(hm:X.mg "range"=none)(ha:PA X [a,b,c] ta)(hs:starEach [a,b,c] X.env=[(false,eval a X.env),(false,eval b X.env),(false,eval c X.env)]:=by rfl)
  (xm:starEach [b,c] X.env=[(false,eval b X.env),(false,eval c X.env)]:=by rfl):PI X tg (.Call (.Name "range" p) [a,b,c] [] pos) (B5 ta):=by
 intro pins s Z H R I h;refine Call_ (wo I hg hm boot_range (PyProof.Rows.callWith_type1 (ck (ha pos pins s Z H _ I h) λus s1 ⟨vs,H1,I1,r1,q1⟩=>?_) (by rw[hs,xm]) (by rw[xm];rfl)))
 obtain⟨i,j,e,⟨q1,q2,q3,q4⟩,q⟩:=q1;subst e;cases r1 with
 |cons r rr=>
  cases rr with
  |cons r' rr=>
   cases rr with
   |cons Z0 rr=>
    cases rr;obtain⟨t,rfl⟩:=r;obtain⟨t',rfl⟩:=r';obtain⟨ze,rfl⟩:=Z0;refine call_range_3 (by decide) ?_ (Or.inl (PyProof.noPylong_small (by lia)))
    refine wpAny_pyIter_range (IsRange.new ..) (Se q1 q2 q3 q4) ?_;have I2:Inv X pins Z H1 { s1 with heap:=s1.heap.push { cls:=.type "range",data:=.fields #[.int i t,.int j t',.int 2 ze]}}:=I1.kept (t':=s1.toks) λb o e=>iK _ e
    refine⟨(s1.heap.push { cls:=.type "range",data:=.fields #[.int i t,.int j t',.int 2 ze]}).objs.size,[(s1.heap.push { cls:=.type "range",data:=.fields #[.int i t,.int j t',.int 2 ze]}).objs.size],_,_,H1,rfl,
     I2.kept (t':=s1.toks) λb o e=>iK _ e,Qw _ i 2 (gc i j),?_,λb hb=>?_,q⟩
    ·have e1:i+((0:Nat):Int) * 2=i:=by simp
     have e2:((gc i j:Nat):Int) - ((0:Nat):Int)=Builtin.Range.rangeSize i j 2:=by rw[K2];lia
     show IsRangeIter _ _ (i+((0:Nat):Int) * 2) (((gc i j:Nat):Int) - ((0:Nat):Int)) 2;rw[e1,e2];exact mG _ rfl
    ·have e:b=(s1.heap.push { cls:=.type "range",data:=.fields #[.int i t,.int j t',.int 2 ze]}).objs.size:=by simpa using hb
     subst e;exact I2.nW (cP _) (I2.cx.fresh (cP _))
noncomputable def ku:List R->Option (Int×Int)
 |[.own (.Y (.int i)),.own (.Y (.int j)),.own (.Y (.int k))]=>if k=2/\Nat.ble i.natAbs 1000000=true/\Nat.ble j.natAbs 1000000=true then some (i,j) else none
 |_=>none
theorem Sh{rs:List R}{p:Int×Int}(e:ku rs=some p):rs=[.own (.Y (.int p.1)),.own (.Y (.int p.2)),.own (.Y (.int 2))] /\ -(2 ^ 20)<=p.1/\p.1 < 2 ^ 20 /\ -(2 ^ 20)<=p.2/\p.2 < 2 ^ 20:=by
 unfold ku at e;split at e
 ·split at e
  ·rename_i h
   obtain⟨rfl,h1,h2⟩:=h;have h1:=Nat.le_of_ble_eq_true h1;have h2:=Nat.le_of_ble_eq_true h2;cases e;exact⟨rfl,by lia,by lia,by lia,by lia⟩
  ·cases e
 ·cases e
noncomputable def IK(fs:GA)(g:GG)(f:GS):GS:=λU=>(fs U).bind λp=>(ku p.1).bind λj=>iD g f (rY j.1 2 (gc j.1 j.2)) p.2
theorem VS{U:Gm}:IK fs gg f U=(fs U).bind λp=>(ku p.1).bind λj=>iD gg f (rY j.1 2 (gc j.1 j.2)) p.2:=rfl
theorem VW(hp:PassesOwn (model X.prog X.w) X.A X.env X.xe)(hm:X.mg "range"=none)(ha:PA X [a,b,c] (gZ K fs))(hg:PG X tg t)(ht:gX K m t gg)(hb:jt X body (tS K m W f))(hc:X.calm=true:=by rfl)(rF:Gl X "range":=by rfl)
  (hs:starEach [a,b,c] X.env=[(false,eval a X.env),(false,eval b X.env),(false,eval c X.env)]:=by rfl) (xm:starEach [b,c] X.env=[(false,eval b X.env),(false,eval c X.env)]:=by rfl)
  (hf:∀x,foldedSetIterable (.Call (.Name "range" p) [a,b,c] [] pos) X.env x=pure x:=by intro _;rfl) {fp:Pos} :
  PS X (.For tg (.Call (.Name "range" p) [a,b,c] [] pos) body [] fp) (tS K m W (IK fs gg f)):=by
 refine(Ek hp hc (Sg rF hm ha hs xm) hg hb hf).mono λD Z H tt=>?_
 obtain⟨F,A,U,fl,U',k,e,w⟩:=tt;obtain⟨⟨rs,U1⟩,q,e⟩:=cV.mp e;obtain⟨⟨i0,j⟩,q2,e⟩:=cV.mp e;obtain⟨hj,hb⟩:=Sh q2;subst hj;refine⟨F,A,U,_,U1,k,q,λvs H1 pp=>?_⟩
 obtain⟨F1,A1,x,k1,hh⟩:=pp;obtain⟨v,v',PB,rfl⟩:=EI hh.length;obtain⟨rfl,h0⟩:=wj (Z:=some v'::some PB::Z) (U:=some (.Y (.int j))::some (.Y (.int 2))::U1) k1.os;obtain⟨rfl,h1⟩:=wj (Z:=some PB::Z) (U:=some (.Y (.int 2))::U1) h0;obtain⟨rfl,h2⟩:=wj (Z:=Z) (U:=U1) h1;exact⟨i0,j,rfl,hb,QI (LI K m W gg f D F1 fl U' (rY i0 2 (gc i0 j))) (.ints k1 h2 x w e) (λi Z' H' hi p=>p.turn ht (NZ hi) (.flat rfl .nil)) λZ' H' p=>p.fin (by simp[rY])⟩
end
def pw(lt:Nat->Nat->Bool)(n:Nat){α:Type}:KasT α->(α->Prop)->Prop
 |.ret a,P=>P a
 |.ask i j k,P=>i < n/\j < n/\i≠j/\pw lt n (k (lt i j)) P
section
variable {lt:Nat->Nat->Bool} {n:Nat}
theorem Eh{α:Type}{P Q:α->Prop}(h:∀a,P a->Q a):∀{t:KasT α},pw lt n t P->pw lt n t Q
 |.ret a,p=>h a p
 |.ask i j k,p=>⟨p.1,p.2.1,p.2.2.1,Eh h p.2.2.2⟩
theorem yr{α β:Type}{P:α->Prop}{Q:β->Prop}{f:α->KasT β}(h:∀a,P a->pw lt n (f a) Q):∀{t:KasT α},pw lt n t P->pw lt n (t.bind f) Q
 |.ret a,p=>h a p
 |.ask i j k,p=>⟨p.1,p.2.1,p.2.2.1,yr h p.2.2.2⟩
structure Ord (lt:Nat->Nat->Bool) (n:Nat):Prop where
 xQ:∀i j,i < n->j < n->i≠j->lt i j=false->lt j i=true
 asy:∀i j,i < n->j < n->lt i j=true->lt j i=false
 tr:∀i j k,i < n->j < n->k < n->lt i j=true->lt j k=true->lt i k=true
structure qg (n:Nat) (p:Array Nat):Prop where
 pm:p.Perm (List.toArray (List.range n))
theorem qg.size{p:Array Nat}(h:qg n p):p.size=n:=by have:=h.pm.size_eq;simpa using this
theorem qg.below(h:qg n p)(hi:i < n):p.getD i 0 < n:=by
 have hs:=h.size;have e:p.getD i 0=p[i]'(by lia):=by simp[Array.getD,hs,hi]
 rw[e];have:p[i]'(by lia)∈p:=Array.getElem_mem _
 have:=h.pm.mem_iff.mp this;simpa using this
theorem qg.inj(h:qg n p){j:Nat}(hi:i < n)(hj:j < n)(e:p.getD i 0=p.getD j 0):i=j:=by
 have hs:=h.size;have nd:p.toList.Nodup:=(Array.perm_iff_toList_perm.mp h.pm).nodup_iff.mpr (by simpa using KL)
 have ei:p.getD i 0=p.toList[i]'(by simp;lia):=by simp[Array.getD,hs,hi]
 have ej:p.getD j 0=p.toList[j]'(by simp;lia):=by simp[Array.getD,hs,hj]
 rw[ei,ej] at e;exact(FA nd).mp e
def qh(lt:Nat->Nat->Bool)(p:Array Nat)(k:Nat):Prop:=∀i j,i < j->j < k->lt (p.getD i 0) (p.getD j 0)=true
def xY(lt:Nat->Nat->Bool)(p:Array Nat)(k:Nat):Prop:=∀i j,i < j->j < k->lt (p.getD j 0) (p.getD i 0)=true
variable (O:Ord lt n) {p:Array Nat} (hp:qg n p)
include O hp
theorem T8(h1:1<=m)(hm:m < n)(h:qh lt p m)(e:lt (p.getD (m - 1) 0) (p.getD m 0)=true):qh lt p (m+1):=by
 intro i j nF hj;by_cases z:j=m
 ·subst z;by_cases z2:i=j - 1
  ·rw[z2];exact e
  ·exact O.tr _ _ _ (hp.below (by lia)) (hp.below (by lia)) (hp.below hm) (h i (j - 1) (by lia) (by lia)) e
 ·exact h i j nF (by lia)
theorem T9(h1:1<=m)(hm:m < n)(h:xY lt p m)(e:lt (p.getD m 0) (p.getD (m - 1) 0)=true):xY lt p (m+1):=by
 intro i j nF hj;by_cases z:j=m
 ·subst z;by_cases z2:i=j - 1
  ·rw[z2];exact e
  ·exact O.tr _ _ _ (hp.below hm) (hp.below (by lia)) (hp.below (by lia)) e (h i (j - 1) (by lia) (by lia))
 ·exact h i j nF (by lia)
theorem IL:∀(f m:Nat),1<=m->m+f<=n->qh lt p m->pw lt n (kas_asc p f m) λr=>m<=r/\r<=m+f/\qh lt p r/\(r < m+f->lt (p.getD r 0) (p.getD (r - 1) 0)=true)
 |0,m,_,_,h=>⟨cP _,cP _,h,λz=>absurd z (o8 _)⟩
 |f+1,m,h1,hm,h=>by
  refine⟨hp.below (by lia),hp.below (by lia),λz=>by have:=hp.inj (by lia) (by lia) z;lia,?_⟩
  cases e:lt (p.getD m 0) (p.getD (m - 1) 0) with
  |true=>exact⟨cP _,by lia,h,λ_=>e⟩
  |false=>
   have:=O.xQ _ _ (hp.below (by lia)) (hp.below (by lia)) (λz=>by have:=hp.inj (by lia) (by lia) z;lia) e
   exact Eh (λr hr=>⟨by lia,by lia,hr.2.2.1,λz=>hr.2.2.2 (by lia)⟩) (IL f (m+1) (by lia) (by lia) (T8 O hp h1 (by lia) h this))
theorem Nt:∀(f m:Nat),1<=m->m+f<=n->xY lt p m->pw lt n (kas_desc f p m 0) λr=>r.1=p/\r.2.2=0/\m<=r.2.1/\r.2.1<=m+f/\xY lt p r.2.1
 |0,m,_,_,h=>⟨rfl,rfl,cP _,cP _,h⟩
 |f+1,m,h1,hm,h=>by
  refine⟨hp.below (by lia),hp.below (by lia),λz=>by have:=hp.inj (by lia) (by lia) z;lia,?_⟩
  cases e:lt (p.getD m 0) (p.getD (m - 1) 0) with
  |true=>exact Eh (λr hr=>⟨hr.1,hr.2.1,by lia,by lia,hr.2.2.2.2⟩) (Nt f (m+1) (by lia) (by lia) (T9 O hp h1 (by lia) h e))
  |false=>
   have:=O.xQ _ _ (hp.below (by lia)) (hp.below (by lia)) (λz=>by have:=hp.inj (by lia) (by lia) z;lia) e
   refine⟨hp.below (by lia),hp.below (by lia),λz=>by have:=hp.inj (by lia) (by lia) z;lia,?_⟩
   rw[this];exact⟨rfl,rfl,cP _,Nat.le_add_right _ _,h⟩
omit O in
theorem Oc(hm:m<=n)(i:Nat):(kas_rev p 0 m).getD i 0=if i < m then p.getD (m - 1 - i) 0 else p.getD i 0:=by
 have hs:=hp.size;have:=getElem?_mirror_all (xs:=p) (i:=0) (j:=m) (by lia) i
 have g:∀(q:Array Nat) (j:Nat),q.getD j 0=(q[j]?).getD 0:=λq j=>by
  unfold Array.getD;split <;> simp_all
 unfold kas_rev;rw[g,this];simp only[mE,true_and,Nat.zero_add];split
 ·rw[g]
 ·rw[g]
omit O in
theorem Nu(m:Nat):qg n (kas_rev p 0 m):=⟨(mirror_perm _ _ _ _).trans hp.pm⟩
theorem VX(hm:m<=n)(h:xY lt p m):qh lt (kas_rev p 0 m) m:=by
 intro i j nF hj;rw[Oc hp hm,Oc hp hm,if_pos (by lia),if_pos hj]
 exact h _ _ (by lia) (by lia)
theorem Hv{k:Nat}(hk:k < n)(hs:qh lt p k):∀(f l r:Nat),l<=r->r<=k->r - l<=f->(∀i,i < l->lt (p.getD i 0) (p.getD k 0)=true)->(∀i,r<=i->i < k->lt (p.getD k 0) (p.getD i 0)=true)->
  pw lt n (kas_place p k f l r) λx=>x<=k/\(∀i,i < x->lt (p.getD i 0) (p.getD k 0)=true)/\∀i,x<=i->i < k->lt (p.getD k 0) (p.getD i 0)=true
 |0,l,r,h1,h2,h3,a,b=>⟨by lia,a,λi hi hk=>b i (by lia) hk⟩
 |f+1,l,r,h1,h2,h3,a,b=>by
  unfold kas_place;split
  ·exact⟨by lia,a,λi hi hk=>b i (by lia) hk⟩
  ·refine⟨hp.below hk,hp.below (by lia),λz=>by have:=hp.inj hk (by lia) z;lia,?_⟩
   have hm:(l+r) / 2 < k:=by lia
   cases e:lt (p.getD k 0) (p.getD ((l+r) / 2) 0) with
   |true=>
    refine Hv hk hs f l _ (by lia) (by lia) (by lia) a λi hi Zc=>?_
    by_cases z:i=(l+r) / 2
    ·rw[z];exact e
    ·exact O.tr _ _ _ (hp.below hk) (hp.below (by lia)) (hp.below (by lia)) e (hs _ _ (by lia) Zc)
   |false=>
    have e2:=O.xQ _ _ (hp.below hk) (hp.below (by lia)) (λz=>by have:=hp.inj hk (by lia) z;lia) e
    refine Hv hk hs f _ r (by lia) (by lia) (by lia) (λi hi=>?_) b
    by_cases z:i=(l+r) / 2
    ·rw[z];exact e2
    ·exact O.tr _ _ _ (hp.below (by lia)) (hp.below (by lia)) (hp.below hk) (hs _ _ (by lia) (by lia)) e2
omit O in
theorem Od{l:Nat}(hk:k < n)(hl:l<=k)(i:Nat):(bubble p k (k - l)).getD i 0=if i=l then p.getD k 0 else if l < i/\i<=k then p.getD (i - 1) 0 else p.getD i 0:=by
 have hs:=hp.size;have:=getElem?_bubble (xs:=p) (src:=k) (by lia) (k - l) (by lia) i
 have g:∀(q:Array Nat) (j:Nat),q.getD j 0=(q[j]?).getD 0:=λq j=>by
  unfold Array.getD;split <;> simp_all
 rw[g,this,show k - (k - l)=l by lia]
 split
 ·rw[g]
 ·split
  ·rw[g]
  ·rw[g]
theorem VY{l:Nat}(hk:k < n)(hl:l<=k)(hs:qh lt p k)(a:∀i,i < l->lt (p.getD i 0) (p.getD k 0)=true)(b:∀i,l<=i->i < k->lt (p.getD k 0) (p.getD i 0)=true):qh lt (bubble p k (k - l)) (k+1):=by
 intro i j nF hj;rw[Od hp hk hl,Od hp hk hl];by_cases j1:j=l
 ·rw[if_pos j1,if_neg (show ¬i=l by lia),if_neg (show ¬(l < i/\i<=k) by lia)]
  exact a i (by lia)
 ·rw[if_neg j1];by_cases i1:i=l
  ·rw[if_pos i1,if_pos (show l < j/\j<=k by lia)]
   exact b (j - 1) (by lia) (by lia)
  ·rw[if_neg i1];by_cases j2:l < j
   ·rw[if_pos (show l < j/\j<=k by lia)]
    by_cases i2:l < i
    ·rw[if_pos (show l < i/\i<=k by lia)];exact hs _ _ (by lia) (by lia)
    ·rw[if_neg (show ¬(l < i/\i<=k) by lia)]
     by_cases z:i=j - 1
     ·lia
     ·exact hs _ _ (by lia) (by lia)
   ·rw[if_neg (show ¬(l < j/\j<=k) by lia),if_neg (show ¬(l < i/\i<=k) by lia)]
    exact hs _ _ nF (by lia)
omit hp in
theorem Oe:∀(f:Nat) (p:Array Nat) (k:Nat),qg n p->k+f=n->qh lt p k->pw lt n (kas_bin f p k) λq=>qg n q/\qh lt q n
 |0,p,k,hp,e,h=>by subst e;exact⟨hp,h⟩
 |f+1,p,k,hp,e,h=>by
  refine yr (λl hl=>?_) (Hv O hp (by lia) h k 0 k (mE _) (cP _) (by lia) (λi hi=>by lia) λi hi hk=>by lia)
  exact Oe f _ (k+1) ⟨(bubble_perm _ _ _).trans hp.pm⟩ (by lia) (VY O hp (by lia) hl.1 h hl.2.1 hl.2.2)
theorem T_(h1:1<=n):pw lt n (kas_count n p) λr=>1<=r.1/\r.1<=n/\qg n r.2/\qh lt r.2 r.1:=by
 refine yr (λm hm=>?_) (IL O hp (n - 1) 1 (cP _) (by lia) λi j nF hj=>by lia)
 obtain⟨m1,m2,m3,m4⟩:=hm;by_cases e:m=n
 ·rw[if_pos (by simpa using e)]
  exact⟨m1,by show m<=n;lia,hp,m3⟩
 ·rw[if_neg (by simpa using e)]
  by_cases g:m > 1
  ·rw[if_pos g];refine⟨hp.below (by lia),hp.below (by lia),λz=>by have:=hp.inj (by lia) (by lia) z;lia,?_⟩
   rw[m3 0 (m - 1) (by lia) (by lia)]
   exact⟨m1,by show m<=n;lia,hp,m3⟩
  ·rw[if_neg g];have em:m=1:=by lia
   subst em;have d2:xY lt p 2:=λi j nF hj=>by
    have:i=0/\j=1:=by lia
    rw[this.1,this.2];exact m4 (by lia)
   refine yr (λr hr=>?_) (Nt O hp (n - (1+1)) (1+1) (by lia) (by lia) d2)
   obtain⟨r1,r2,r3,r4,r5⟩:=hr;rw[if_neg (by rw[r2];exact o8 0),r1]
   refine yr (λx hx=>?_) (IL O (Nu hp r.2.1) (n - r.2.1) r.2.1 (by lia) (by lia) (VX O hp (by lia) r5))
   exact⟨by show 1<=x;lia,by show x<=n;lia,Nu hp _,hx.2.2.1⟩
omit hp in
theorem Nv(h1:1<=n):pw lt n (kas_sort n) λq=>qg n q/\qh lt q n:=by
 refine yr (λr hr=>?_) (T_ O ⟨Array.Perm.refl _⟩ h1)
 obtain⟨r1,r2,r3,r4⟩:=hr;have e:max r.1 1=r.1:=by lia
 rw[e];split
 ·exact Oe O (n - r.1) r.2 r.1 r3 (by lia) r4
 ·have:r.1=n:=by lia
  rw[this] at r4;exact⟨r3,r4⟩
end
noncomputable def zg(lt:Nat->Nat->Bool){α:Type}:KasT α->α
 |.ret a=>a
 |.ask i j k=>zg lt (k (lt i j))
theorem EB{lt:Nat->Nat->Bool}{n:Nat}{α:Type}{P:α->Prop}:∀{t:KasT α},pw lt n t P->P (zg lt t)/\pw lt n t λa=>a=zg lt t
 |.ret _,p=>⟨p,rfl⟩
 |.ask _ _ _,p=>⟨(EB p.2.2.2).1,p.1,p.2.1,p.2.2.1,(EB p.2.2.2).2⟩
theorem Of{lt:Nat->Nat->Bool}{n:Nat}{α:Type}{cmp:Nat->Nat->(Bool->Shared->Prop)->Shared->Prop}{Q:α->Shared->Prop}{s:Shared}(hc:∀i j C,i < n->j < n->i≠j->C (lt i j) s->cmp i j C s):∀{t:KasT α},pw lt n t (λa=>Q a s)->t.kasWp cmp Q s
 |.ret _,p=>p
 |.ask i j k,p=>hc i j _ p.1 p.2.1 p.2.2.1 (Of hc p.2.2.2)
noncomputable def qK(x y:Int×Int):Bool:=decide (x.1 < y.1\/(x.1=y.1/\x.2 < y.2))
noncomputable def ltAt(ks:List (Int×Int))(i j:Nat):Bool:=qK (ks.getD i (0,0)) (ks.getD j (0,0))
theorem Og(nd:ks.Nodup):Ord (ltAt ks) ks.length:=by
 refine⟨λi j hi hj hn h=>?_,λi j _ _ h=>?_,λi j k _ _ _ h1 h2=>?_⟩
 ·have ne:ks.getD i (0,0)≠ks.getD j (0,0):=by
   have e1:ks.getD i (0,0)=ks[i]:=by simp[hi]
   have e2:ks.getD j (0,0)=ks[j]:=by simp[hj]
   rw[e1,e2];exact λz=>hn ((FA nd).mp z)
  unfold ltAt qK at *;generalize ks.getD i (0,0)=x at *;generalize ks.getD j (0,0)=y at *;rw[decide_eq_false_iff_not] at h;rw[decide_eq_true_eq];have:¬(x.1=y.1/\x.2=y.2):=λz=>ne (Prod.ext z.1 z.2)
  lia
 ·unfold ltAt qK at *;rw[decide_eq_true_eq] at h;rw[decide_eq_false_iff_not];lia
 ·unfold ltAt qK at *;rw[decide_eq_true_eq] at *;lia
noncomputable def eZ(ks:List (Int×Int)):List Nat:=(zg (ltAt ks) (kas_sort ks.length)).toList
def gu(h:Heap)(vs:List Value)(ks:List (Int×Int)):Prop:=vs.length=ks.length/\∀i,i < ks.length->∃x o a b t t' z m,vs.getD i Value.none=.ref x/\h.get? x=some o/\o.cls=.type "tuple"/\o.data=.seq #[.int a t,.int b t',z] m/\ks.getD i (0,0)=(a,b)
theorem gu.keep{h h':Heap}{vs:List Value}(T:gu h vs ks)(k:∀b o,h.get? b=some o->h'.get? b=some o):gu h' vs ks:=⟨T.1,λi hi=>by
 obtain⟨x,o,a,b,t,t',z,m,h1,h2,r⟩:=T.2 i hi;exact⟨x,o,a,b,t,t',z,m,h1,k _ _ h2,r⟩⟩
section
variable {prog:Program} {w:World} {A:Around} {E:Value->Shared->Prop} {s:Shared} {vs:List Value} {ks:List (Int×Int)}
theorem VZ(T:gu s.heap vs ks)(nd:ks.Nodup)(i j:Nat)(C:Bool->Shared->Prop)(hi:i < ks.length)(hj:j < ks.length)(ij:i≠j)(h:C (ltAt ks i j) s):kas_ask prog w A (tuples' true) vs i j C s:=by
 obtain⟨x,o,a,b,t,t',z,m,x1,x2,x3,x4,x5⟩:=T.2 i hi;obtain⟨y,p,c,d,u,u',z',m',y1,y2,y3,y4,y5⟩:=T.2 j hj;have hl:ltAt ks i j=decide (a < c\/(a=c/\b < d)):=by unfold ltAt qK;rw[x5,y5]
 rw[hl] at h;unfold kas_ask;rw[x1,y1];refine kat_lt x2 x4 y2 y4 ?_;show KatLex prog w A true _ C [(.int a t,.int c u),(.int b t',.int d u'),(z,z')] 0 s;refine kat_cons (wpAny_eqBool_int (kat_go (λe=>?_) λe=>?_))
 ·have e:a=c:=by simpa using e
  refine kat_yes (kat_cons (wpAny_eqBool_int (kat_go (λe2=>?_) λe2=>?_)))
  ·have e2:b=d:=by simpa using e2
   have e3:ks.getD i (0,0)=ks.getD j (0,0):=by rw[x5,y5,e,e2]
   have f1:ks.getD i (0,0)=ks[i]:=by simp[hi]
   have f2:ks.getD j (0,0)=ks[j]:=by simp[hj]
   rw[f1,f2] at e3;exact absurd ((FA nd).mp e3) ij
  ·have e2:b≠d:=by simpa using e2
   refine kat_no (kat_one _ _ (wpAny_lt_int ?_));rw[show decide (a < c\/(a=c/\b < d))=decide (b < d) by simp[e]] at h
   exact h
 ·have e:a≠c:=by simpa using e
  refine kat_no (oneLt_int ?_);rw[show decide (a < c\/(a=c/\b < d))=decide (a < c) by simp[e]] at h
  exact h
theorem MA{h:Heap}:∀{vs:List Value} {ks:List (Int×Int)},gu h vs ks->∃fs,KatTups h vs fs/\fs.length=vs.length/\∀v∈fs,∃a t,v=Value.int a t
 |[],_,_=>⟨[],.nil,rfl,λv m=>by cases m⟩
 |v::vs,[],T=>by have:=T.1;simp at this
 |v::vs,k::ks,T=>by
  obtain⟨fs,f1,f2,f3⟩:=MA (h:=h) (vs:=vs) (ks:=ks) ⟨by have:=T.1;simpa using this,λi hi=>by
   obtain⟨x,o,a,b,t,t',z,m,r⟩:=T.2 (i+1) (by simpa using hi)
   exact⟨x,o,a,b,t,t',z,m,by simpa using r⟩⟩
  obtain⟨x,o,a,b,t,t',z,m,h1,h2,h3,h4,_⟩:=T.2 0 (by simp)
  have h1:v=.ref x:=by simpa using h1
  subst h1;refine⟨.int a t::fs,.cons h2 h3 h4 (by simp) f1,by simp[f2],λv m=>?_⟩
  rcases dZ.mp m with rfl|m
  ·exact⟨a,t,rfl⟩
  ·exact f3 v m
theorem Qb{a:Addr}{n:Nat}{P:PySem.Fin->Shared->Prop}(ho:s.heap.get? a=some (seqObj "list" vs.toArray n))(T:gu s.heap vs ks)(nd:ks.Nodup)(na:∀i x,i < ks.length->vs.getD i Value.none=.ref x->x≠a)(h2:2<=vs.length)(EV:vs.length < 64)
  (h:P (.done (.ret .none)) { s with heap:=sortedHeap s.heap a vs (List.toArray ((eZ ks).map λi=>vs.getD i Value.none))}):wpAny (model prog w) A (Builtin.«list.sort» ⟨[.ref a],[]⟩) P E s:=by
 rw[list_sort_plain];have ha:a < s.heap.objs.size:=fF ho;refine wpAny_bind (listItems_at ho rfl ?_);refine wpAny_bind (listUpdate_at ho rfl ?_ (by rw[eI,sizeLine_eq];lia) (mE _))
 obtain⟨e1,xj⟩:∃e1,(s.heap.update a (Obj.mapSeq λ_=>#[])).get? a=some (seqObj "list" #[] e1):=⟨_,get?_update_seq ho (λ_=>#[])⟩
 refine wpAny_bind (seqEpoch_at xj rfl ?_);refine wpAny_bind (wpAny_newTuple ?_ (by show vs.length<=_;rw[sizeLine_eq];lia))
 refine wpAny_bind (wpAny_newList ?_ (mE _));refine wpAny_holding ?_;have xk:(((s.heap.update a (Obj.mapSeq λ_=>#[])).push (seqObj "tuple" vs.toArray 0)).push (seqObj "list" #[] 0)).get? a=some (seqObj "list" #[] e1):=by
  rw[C6 _ _ _ (by rw[size_push',Fy];exact i8 (CW ha)),C6 _ _ _ (by rw[Fy];exact i8 ha)]
  exact xj
 have T6:gu (((s.heap.update a (Obj.mapSeq λ_=>#[])).push (seqObj "tuple" vs.toArray 0)).push (seqObj "list" #[] 0)) vs ks:=⟨T.1,λi hi=>by
  obtain⟨x,o,b,c,t,t',z,m,y1,y2,r⟩:=T.2 i hi;refine⟨x,o,b,c,t,t',z,m,y1,iK _ (iK _ ?_),r⟩;rw[Fz _ _ _ _ (na i x hi y1)];exact y2⟩
 show wpAny (model prog w) A _ P E { s with heap:=((s.heap.update a (Obj.mapSeq λ_=>#[])).push (seqObj "tuple" vs.toArray 0)).push (seqObj "list" #[] 0)}
 dsimp only;have xh:¬vs.toArray.size < 2:=by rw[eI];lia
 rw[if_neg xh,if_neg xh];obtain⟨fs,f1,f2,f3⟩:=MA T6;refine wpAny_bind (kat_kind (T:=.type "int") f1 (by lia) (λv hv=>?_) (by decide) ?_)
 ·obtain⟨b,t,rfl⟩:=f3 v hv;exact λA Q E s' _ q=>wpAny_typeOf (typeIs_int s' b t) q
 ·have O:=Og nd;have pq:=Nv O (show 1<=ks.length by have:=T.1;lia)
  obtain⟨⟨q1,q2⟩,q3⟩:=EB pq;have hlen:=T.1;refine wpAny_bind (wpAny_mono (kat_run (Q:=λnI s'=>s'={ s with heap:=((s.heap.update a (Obj.mapSeq λ_=>#[])).push (seqObj "tuple" vs.toArray 0)).push (seqObj "list" #[] 0)}/\arrOf nI=(zg (ltAt ks) (kas_sort ks.length)).map (kas_item (vs.toArray.zip vs.toArray))/\failedOf nI=none)
   rfl h2 EV (λp' nI s' a1 a2 a3 a4=>⟨a4.2,by rw[<-a4.1];exact a2,a3⟩) (G:=λp s'=>p=zg (ltAt ks) (kas_sort ks.length)/\s'=_) ?_) ?_ λ_ _ e=>e)
  ·rw[hlen];exact Of (λi j C hi hj ij hC=>VZ T6 nd i j C hi hj ij hC) (Eh (λp hp=>⟨hp,rfl⟩) q3)
  ·rintro⟨⟨⟩,nI⟩ s' ⟨rfl,Jz,hf⟩;dsimp only;have JS:=kat_snds rfl Jz;rw[JS];refine wpAny_bind (seqEpoch_at xk rfl ?_);refine wpAny_bind (listUpdate_at xk rfl ?_ (mE _) (by rw[eI,bB,FD,q1.size,sizeLine_eq];lia))
   rw[hf];simp only[bne_self_eq_false,uE,if_false];exact wpAny_pure h
theorem Q0(hl:s.heap.IsList l vs.toArray)(T:gu s.heap vs ks)(nd:ks.Nodup)(h2:2<=vs.length)(EV:vs.length < 64)
  (h:Q (.ref (s.heap.objs.size+1)) { s with heap:=sortedAll s.heap vs (List.toArray ((eZ ks).map λi=>vs.getD i Value.none))}):wpAny (model prog w) A (call (.builtin "sorted") [.ref l]) Q E s:=by
 refine Calls.call_function_entry kind_sorted plain_sorted entry_sorted (args_sorted1 _) ?_;unfold Builtin.«sorted»;refine wpAny_bind (m:=checkCount "sorted" 1 1 _) (wpAny_pure ?_);refine wpAny_bind (collect_list hl ?_ (by rw[sizeLine_eq];lia))
 refine wpAny_bind (wpAny_newList ?_ (by rw[sizeLine_eq];lia))
 have hsz:((s.heap.push (seqObj "list" #[] 0)).update s.heap.objs.size (Obj.mapSeq (·++vs.toArray))).objs.size=s.heap.objs.size+1:=by
  rw[Fy,size_push']
 have E3:(((s.heap.push (seqObj "list" #[] 0)).update s.heap.objs.size (Obj.mapSeq (·++vs.toArray))).push (seqObj "list" vs.toArray 0)).get? (s.heap.objs.size+1)=some (seqObj "list" vs.toArray 0):=by
  rw[<-hsz];exact mG _ rfl
 have keep:∀b o,s.heap.get? b=some o->(((s.heap.push (seqObj "list" #[] 0)).update s.heap.objs.size (Obj.mapSeq (·++vs.toArray))).push (seqObj "list" vs.toArray 0)).get? b=some o:=λb o q=>by
  have fq:b < s.heap.objs.size:=fF q;rw[C6 _ _ _ (by rw[hsz];exact i8 (CW fq)),Fz _ _ _ _ (i8 fq),C6 _ _ _ (i8 fq)]
  exact q
 show wpAny _ _ _ _ _ { s with heap:=((s.heap.push (seqObj "list" #[] 0)).update s.heap.objs.size (Obj.mapSeq (·++vs.toArray))).push (seqObj "list" vs.toArray 0)}
 rw[hsz];refine wpAny_bind (wpAny_holding (wpAny_call_entry slot_list_sort ⟨_,E3,rfl⟩ entry_list_sort (Qb E3 (T.keep keep) nd (λi x hi e=>?_) h2 EV ⟨_,rfl,?_⟩) (args_list_sort _)))
 ·obtain⟨y,o,_,_,_,_,_,_,y1,y2,_⟩:=T.2 i hi;rw[y1] at e;cases e;exact i8 (CW (fF y2))
 ·exact wpAny_pure ⟨_,rfl,h⟩
end
section
variable {X:Cx} {K:L2.FG} {F H:Hp}
def uJ(K:L2.FG)(H:Hp)(ys:List V)(ks:List (Int×Int)):Prop:=ys.length=ks.length/\∀i,i < ks.length->∃p z,ys[i]?=some (.ref p)/\iL K H p [.int (ks.getD i (0,0)).1,.int (ks.getD i (0,0)).2,z]
def Oh(K:L2.FG):List V->Hp->VK->Prop:=λvs H Q=>∃a ys ks,vs=[.ref a]/\dq K H a ys/\uJ K H ys ks/\ks.Nodup/\2<=ks.length/\ks.length < 64/\∀l,H l=none->Q (.ref l) (upd H l (.lst ((eZ ks).map λi=>ys.getD i .aI)))
theorem L0{ys:List V}{us:List Value}(r:Vals ys us):∀{is:List Nat},(∀i∈is,i < ys.length)->Vals (is.map λi=>ys.getD i .aI) (is.map λi=>us.getD i Value.none)
 |[],_=>.nil
 |i::is,h=>by
  have hi:=h i (.head _);obtain⟨u,e,ru⟩:=r.get (jW hi);have e1:ys.getD i .aI=ys[i]:=by simp[hi]
  have e2:us.getD i Value.none=u:=by rw[vO,e];rfl
  refine .cons ?_ (L0 r λj m=>h j (.tail _ m))
  show RelV (ys.getD i .aI) (us.getD i Value.none);rw[e1,e2];exact ru
theorem Hw(nd:ks.Nodup)(h:1<=ks.length):(eZ ks).Perm (List.range ks.length)/\(eZ ks).Pairwise λi j=>ltAt ks i j=true:=by
 obtain⟨⟨q1,q2⟩,_⟩:=EB (Nv (Og nd) h);refine⟨by unfold eZ;have:=Array.perm_iff_toList_perm.mp q1.pm;simpa using this,?_⟩
 rw[List.pairwise_iff_getElem];intro i j hi hj nF;have hs:=q1.size;have:=q2 i j nF (by unfold eZ at hj;simp at hj;lia)
 unfold eZ at hi hj ⊢;simp only[FD] at hi hj;simpa[Array.getD,hi,hj] using this
theorem Q3(K:L2.FG)(hK:X.K=K:=by rfl):cJ X (.builtin "sorted") (Oh K):=by
 subst hK;intro pins s Z H xs us Q I r h;obtain⟨a,ys,ks,rfl,hl,T,nd,h2,EV,q⟩:=h;obtain⟨u,rfl,ru⟩:=vals1 r;cases ru;obtain⟨aG,rv,pl,hz⟩:=I.list hl;have hlen:=rv.length;have BS:=T.1;have T':gu s.heap aG ks:=⟨by lia,λi hi=>by
  obtain⟨p,z,y1,y2⟩:=T.2 i hi;obtain⟨u,e,ru⟩:=rv.get y1;obtain rfl:u=Value.ref p:=ru;obtain⟨it2,Fe,⟨o,g1,g2,n,g3⟩,_⟩:=I.tuple y2;cases Fe with
  |cons r1 t=>
   cases t with
   |cons r2 t=>
    cases t with
    |cons r3 t=>
     cases t;obtain⟨t1,rfl⟩:=r1;obtain⟨t2,rfl⟩:=r2;exact⟨p,o,_,_,t1,t2,_,n,by rw[vO,e];rfl,g1,g2,g3,rfl⟩⟩
 refine Q0 pl.isList T' nd (by lia) (by lia) ?_
 obtain⟨c,hc⟩:=sortedAll_at s.heap aG (List.toArray ((eZ ks).map λi=>aG.getD i Value.none))
 obtain⟨s1,_⟩:=Hw nd (by lia)
 have hm:∀i∈eZ ks,i < ys.length:=λi m=>by have:=s1.mem_iff.mp m;rw[mF] at this;lia
 have I3:=I.laid (h':=sortedAll s.heap aG (List.toArray ((eZ ks).map λi=>aG.getD i Value.none))) (t':=s.toks) (o:=.lst ((eZ ks).map λi=>ys.getD i .aI)) (λb o g=>sortedAll_old g) (zp _) (show cb X.prog X.w _ _ _ (.lst _) from⟨by rw[bB,s1.length_eq,uF,sizeLine_eq];lia,_,c,L0 rv hm,hc⟩)
 exact⟨.ref (s.heap.objs.size+1),_,I3,rfl,q _ (I.cx.fresh (zp _))⟩
noncomputable def ky:List D->Option (List (Int×Int))
 |[]=>some []
 |.tup [.int a,.int b,_]::ds=>(ky ds).map ((a,b)::·)
 |_=>none
noncomputable def yF:List O->Option O
 |[a]=>(df a).bind λds=>if ds.length < 2 then some (.lst (ds.map .Y)) else(ky ds).bind λks=>if ks.Nodup/\ks.length < 64 then some (.lst (((eZ ks).map λi=>ds.getD i .aI).map .Y)) else none
 |_=>none
theorem Ua(a:O):yF [a]=(df a).bind λds=>if ds.length < 2 then some (.lst (ds.map .Y)) else(ky ds).bind λks=>if ks.Nodup/\ks.length < 64 then some (.lst (((eZ ks).map λi=>ds.getD i .aI).map .Y)) else none:=rfl
theorem Nx:∀{ds:List D} {ks:List (Int×Int)} {ws:List V},ky ds=some ks->au K F ws ds->uJ K F ws ks
 |[],ks,ws,e,r=>by cases e;cases r;exact⟨rfl,λi hi=>by simp at hi⟩
 |d::ds,ks,ws,e,r=>by
  unfold ky at e;split at e
  ·rename_i h;cases h
  ·rename_i a b z sN h
   cases h;obtain⟨ZL,q2,rfl⟩:=jP.mp e;cases r with
   |flat z _=>cases z
   |@tup p w3 vs _ _ sq ri rt=>
    obtain⟨h1,h2⟩:=Nx q2 rt;obtain⟨x,y,z',rfl⟩:=EI (l:=w3) (by have:=ri.length;simp at this;lia)
    obtain⟨r1,r2⟩:=au.inv ri;obtain⟨r2,r3⟩:=au.inv r2;have ex:x=.int a:=by cases r1 with|flat z _=>cases z;rfl
    have ey:y=.int b:=by cases r2 with|flat z _=>cases z;rfl
    subst ex ey;refine⟨by simp[h1],λi hi=>?_⟩
    cases i with
    |zero=>exact⟨p,z',rfl,by simpa using sq⟩
    |succ i=>
     obtain⟨p2,z2,g1,g2⟩:=h2 i (by simpa using hi)
     exact⟨p2,z2,by simpa using g1,by simpa using g2⟩
  ·cases e
theorem MB{ws:List V}{ds:List D}(r:au K F ws ds):∀{is:List Nat},(∀i∈is,i < ds.length)->au K F (is.map λi=>ws.getD i .aI) (is.map λi=>ds.getD i .aI)
 |[],_=>.nil
 |i::is,h=>by
  have hi:=h i (.head _);refine .cons ?_ (MB r λj m=>h j (.tail _ m))
  obtain⟨v,g1,g2⟩:=r.get (jW hi);show au K F [ws.getD i .aI] [ds.getD i .aI];rw[vO,g1,vO,jW hi];exact g2
theorem Ub:cD K (λvs H Q=>N_ K vs H Q\/Oh K vs H Q) yF:=by
 intro F H vs os o Q le eD e res;unfold yF at e;split at e
 case h_2=>cases e
 rename_i a
 obtain⟨ds,q1,q2⟩:=cV.mp e;obtain⟨x,B,rfl,h1⟩:=eD.one;obtain⟨p,ws,rfl,sq,r⟩:=v9 le h1 q1;split at q2
 ·cases q2;exact .inl ⟨p,ws,rfl,.inl sq,by rw[r.length];assumption,λl hl=>res.lst r hl⟩
 ·rename_i hn
  obtain⟨ks,q3,q4⟩:=cV.mp q2;split at q4
  case isFalse=>cases q4
  rename_i hk
  cases q4;obtain⟨t1,t2⟩:=Nx q3 r;have hl:=r.length;obtain⟨s1,_⟩:=Hw hk.1 (by lia)
  refine .inr ⟨p,ws,ks,rfl,sq,⟨t1,λi hi=>?_⟩,hk.1,by lia,hk.2,λl y9=>res.lst (MB r λi m=>?_) y9⟩
  ·obtain⟨p2,z,g1,g2⟩:=t2 i hi;exact⟨p2,z,g1,le.ng g2⟩
  ·have:=s1.mem_iff.mp m;rw[mF] at this;lia
theorem Ud{e:Expr}{fs:GA}{p pos:Pos}(hm:X.mg "sorted"=none)(ha:PA X [e] (gZ K fs))(hc:X.calm=true:=by rfl)(hg:Gl X "sorted":=by rfl)(he:starEach [e] X.env=(false,eval e X.env)::starEach [] X.env:=by rfl)(jM:(backTo pos (starEach [] X.env)).any (·.1)=false:=by rfl)(hK:X.K=K:=by rfl):PE X (.Call (.Name "sorted" p) [e] [] pos) (tG K (gO yF fs)):=by
 subst hK;exact i9 (λpins s Z H xs us Q I r h=>h.elim (Qq hc pins s Z H xs us Q I r) (Q3 X.K rfl pins s Z H xs us Q I r)) Ub hm RY ha hg (by decide) (by decide) he jM
end
end L2
namespace L2
theorem jC{A:PySem.Around}{k:Nat}(hr:cA k A):A.units+41 < PySem.cLine:=KG (Nat.add_le_add_left (by decide:41<=64) _) hr.units
end L2
namespace Carry
open PySem L2
variable{X:Cx}{K:L2.FG}{pos:Pos}
seal PE PA PT PS jt
theorem dI{i:Int}{j pos}:PE X (.Constant (.int i) j pos) (tG K (gC (.int i))):=iy Iu
theorem ak(i:Nat){x:Str}(hN:X.N[i]?=some x:=by rfl)(hv:Dh X.env.scope x:=by first|exact Or.inl rfl|exact Or.inr (Or.inl rfl)|exact Or.inr (Or.inr rfl))(hd:(x == ("__debug__":Str))=false:=by decide)(pQ:(x == ("__classdict__":Str))=false:=by decide):PE X (.Name x pos) (tG K (aa i)):=WT (pv i hN hv hd pQ)
theorem bY{a b:Expr}{fa fb:GE}(hu:X.A.units+41 < cLine)(ha:PE X a (tG K fa))(hb:PE X b (tG K fb))(hs:HW b:=by exact λ_ _=>rfl)(hK:X.K=K:=by rfl):PE X (.Subscript a b pos) (tG K (gB bu fa fb)):=XU (JY K hu hK) XZ ha hb hs
noncomputable def top(i:Nat):Stmt:=PySem.Challenge.pw_carry_k64_bags_moved.main.body.getD i (.Pass ⟨0,0,0,0⟩)
noncomputable abbrev DB:Stmt:=top 15
noncomputable abbrev Gb:Stmt:=top 17
noncomputable abbrev Gd:Stmt:=top 18
noncomputable abbrev Ge:Stmt:=top 19
noncomputable abbrev Gy:Stmt:=top 20
noncomputable abbrev Gi:Stmt:=top 21
noncomputable abbrev Gj:Stmt:=top 22
noncomputable abbrev Dp:Stmt:=top 23
noncomputable abbrev DC:Stmt:=top 24
noncomputable abbrev G3:Stmt:=top 25
noncomputable abbrev DP:Stmt:=top 28
noncomputable abbrev Hx:Stmt:=top 31
noncomputable abbrev G4:Stmt:=top 32
noncomputable abbrev Hy:Stmt:=top 33
noncomputable abbrev G5:Stmt:=top 34
noncomputable abbrev G6:Stmt:=top 35
noncomputable abbrev Hz:Stmt:=top 36
noncomputable abbrev DQ:Stmt:=top 37
noncomputable abbrev zS:Stmt:=top 38
noncomputable abbrev HA:Stmt:=top 39
noncomputable abbrev zT:Stmt:=top 40
noncomputable abbrev DD:Stmt:=top 41
noncomputable abbrev DE:Stmt:=top 42
noncomputable abbrev Bj:Stmt:=top 43
noncomputable abbrev HB:Stmt:=qu (top 27) 0
noncomputable abbrev Ih:Stmt:=qu (top 27) 4
noncomputable abbrev F_:Stmt:=qu (top 27) 9
noncomputable abbrev FY:Stmt:=qu (top 27) 10
noncomputable abbrev GN:Stmt:=qu (top 27) 13
noncomputable abbrev DR:Stmt:=qu (top 27) 16
noncomputable abbrev Ii:Stmt:=qu (top 27) 17
noncomputable abbrev G7:Stmt:=qu (top 27) 19
noncomputable abbrev zN:Stmt:=qu (top 27) 22
noncomputable abbrev HC:Stmt:=qu (top 27) 23
noncomputable abbrev Gz:Stmt:=qu (top 27) 24
noncomputable abbrev Gk:Stmt:=qu (top 27) 25
noncomputable abbrev aq:Addr:=394
noncomputable abbrev bO:List Str:=["built","told_rounds","now","book","halts","places","readings","rounded","gone","carted"]
theorem gy:bO.Nodup:=by decide +kernel
set_option genInjectivity false in
set_option genSizeOfSpec false in
structure FI where
 f0:Addr
 d0:FuncData
 f1:Addr
 d1:FuncData
 f2:Addr
 d2:FuncData
 f3:Addr
 d3:FuncData
 f4:Addr
 d4:FuncData
 f5:Addr
 d5:FuncData
 f6:Addr
 d6:FuncData
 f7:Addr
 d7:FuncData
 f8:Addr
 d8:FuncData
 f9:Addr
 d9:FuncData
 yM:Addr
 Ba:FuncData
 yN:Addr
 Bb:FuncData
 yO:Addr
 Bc:FuncData
 yP:Addr
 Bd:FuncData
 yQ:Addr
 Be:FuncData
 yR:Addr
 Bf:FuncData
 yS:Addr
 Bg:FuncData
 yT:Addr
 Bh:FuncData
 yU:Addr
 Bi:FuncData
 u0:Addr
 wK:FuncData
 yV:Addr
 Bk:FuncData
 yW:Addr
 Bl:FuncData
 yX:Addr
 Bm:FuncData
 yY:Addr
 yJ:FuncData
 u7:Addr
 yK:FuncData
 wO:Addr
 Bo:FuncData
 wQ:Addr
 Bp:FuncData
 wR:Addr
 Bq:FuncData
 wU:Addr
 Br:FuncData
 wV:Addr
 Bs:FuncData
 wW:Addr
 Bt:FuncData
 wX:Addr
 Bu:FuncData
 wY:Addr
 Bw:FuncData
 wZ:Addr
 Bx:FuncData
 w5:Addr
 Bz:FuncData
 w6:Addr
 BA:FuncData
structure Txt (K:L2.FG) (mg:Str->Option Value) (t:FI):Prop where
 F0:bZ K mg "is_name" DB t.f0 t.d0 ["thing"]
 F1:bZ K mg "right_house" Gb t.f1 t.d1 ["house"]
 F2:bZ K mg "check_carts" Gd t.f2 t.d2 ["carts","taken"]
 F3:bZ K mg "check_belts" Ge t.f3 t.d3 ["belts","taken"]
 F4:bZ K mg "take_name" Gy t.f4 t.d4 ["name","taken"]
 F5:bZ K mg "check_outs" Gi t.f5 t.d5 ["belts","carts"]
 F6:bZ K mg "check_hand" Gj t.f6 t.d6 ["house"]
 F7:bZ K mg "belt_names" Dp t.f7 t.d7 ["belts"]
 F8:bZ K mg "reached" DC t.f8 t.d8 ["house","belt"]
 F9:bZ K mg "belt_of" G3 t.f9 t.d9 ["house","name"]
 F10:bZ K mg "copied" DP t.yM t.Ba ["house"]
 F11:bZ K mg "_law_cell" Hx t.yN t.Bb ["_law_script","_law_k"]
 F12:bZ K mg "_law_digit" G4 t.yO t.Bc ["_law_script","_law_k","_law_at","_law_many"]
 F13:bZ K mg "_law_pick" Hy t.yP t.Bd ["_law_script","_law_k","_law_many"]
 F14:bZ K mg "_law_other" G5 t.yQ t.Be ["_law_script","_law_k","_law_many"]
 F15:bZ K mg "_law_third" G6 t.yR t.Bf ["_law_script","_law_k","_law_many"]
 F16:bZ K mg "_law_name" Hz t.yS t.Bg ["_law_script","_law_k","_law_n"]
 F17:bZ K mg "_law_outs" DQ t.yT t.Bh ["_law_script","_law_k","_law_names","_law_carts"]
 F18:bZ K mg "_law_house" zS t.yU t.Bi ["_law_script"]
 F19:bZ K mg "_law_same" HA t.u0 t.wK ["_law_found","_law_due"]
 F20:bZ K mg "_law_goals" zT t.yV t.Bk ["_law_house_here","_law_place"]
 F21:bZ K mg "_law_moves" DD t.yW t.Bl ["_law_script","_law_k","_law_house_here","_law_rows"]
 F22:bZ K mg "_law_moved" DE t.yX t.Bm ["_law_house_here","_law_rows","_law_moves_here"]
 F23:bZ K mg "law" Bj t.yY t.yJ ["_law_script"]
 F24:e_ K "__init__" "Hall.__init__" HB t.u7 t.yK
 PL:Binds K t.yK ["self","house","rounds"] []
 F25:MethAt K aq "put" "Hall.put" Ih t.wO t.Bo ["self","bag","flight","belt"]
 F26:MethAt K aq "check_belt" "Hall.check_belt" F_ t.wQ t.Bp ["self","name"]
 F27:MethAt K aq "check_inside" "Hall.check_inside" FY t.wR t.Bq ["self","bag"]
 F28:MethAt K aq "moment" "Hall.moment" GN t.wU t.Br ["self"]
 F29:MethAt K aq "bags" "Hall.bags" DR t.wV t.Bs ["self"]
 F30:MethAt K aq "out" "Hall.out" Ii t.wW t.Bt ["self"]
 F31:MethAt K aq "where" "Hall.where" G7 t.wX t.Bu ["self","bag"]
 F32:MethAt K aq "in_order" "Hall.in_order" zN t.wY t.Bw ["self"]
 F33:MethAt K aq "move" "Hall.move" HC t.wZ t.Bx ["self","moves"]
 F34:MethAt K aq "move_on" "Hall.move_on" Gz t.w5 t.Bz ["self","bag","goal"]
 F35:MethAt K aq "move_out" "Hall.move_out" Gk t.w6 t.BA ["self","bag","cart"]
 aE:mr K aq
 tu:Mk K aq t.u7
 uh:mg "Hall"=some (.ref aq)
 jq:b_ K aq "built"
 kA:b_ K aq "told_rounds"
 l8:b_ K aq "now"
 uj:b_ K aq "book"
 rM:b_ K aq "halts"
 cf:b_ K aq "places"
 fO:b_ K aq "readings"
 eX:b_ K aq "rounded"
 lZ:b_ K aq "gone"
 gf:b_ K aq "carted"
 dO:mg "len"=none
 bh:mg "isinstance"=none
 uW:mg "int"=none
 wD:mg "bool"=none
 rA:mg "str"=none
 hX:mg "list"=none
 j0:mg "tuple"=none
 fK:mg "range"=none
 mT:mg "enumerate"=none
 AI:mg "all"=none
 rq:mg "sorted"=none
 wF:mg "dict"=none
 pM:∃t,mg "LETTERS"=some (.str "abcdefghijklmnopqrstuvwxyz" t)
 kg:∃t,mg "MOST_LETTERS"=some (.int 8 t)
section
variable {P:Program} {w:World} {K:L2.FG} {mg:Str->Option Value} {base:Heap} {t:FI}
theorem Q4:aB ["thing"] ["thing"] (cS DB):=cH
def G8:GS:=(aW (bQ (ez (dc (gO cM (ao (aa 0) (ao (gC (.ty "str")) gN)))))
  (aR (gC (.bl false)))
  aQ)
 (aW (bQ (ez (EA (λi j=>decide (i<=j)) (λi j=>decide (i<=j)) (gC (.int 1)) (gO gj (ao (aa 0) gN)) (gC (.int 8))))
  (aR (gC (.bl false)))
  aQ)
 (aR (gO (Ew λbs=>bs.all id) (ao (jZ (uz (aa 0)) (aX 0) cX (gB (a_ false) (aa 0) (gC (.str "abcdefghijklmnopqrstuvwxyz"))) 1 []) gN)))))
def uK:GM:=runM 1 [false] G8
variable(P w K mg base t)in
abbrev zU:Prop:=aT P w K mg base dz 1 t.f0 t.d0 ["thing"] (dB K 1 uK)
theorem Q5(T:Txt K mg t):zU P w K mg base t:=
 hE (k:=0) [false] G8 T.F0.fn Q4 rfl rfl (by decide) λcL A outer s H E hr=>(by
  have ax:=jC hr;exact⟨_,(bf (gz (pJ (kb (i9 (sk K) sG T.bh ra (aw (ak 0) (aw (iy (d:=.ty "str") (qE (by rfl) T.rA Iy)) aM)))))
   (bV (gp (iy (d:=.bl false) qD)))
   gM)
   (bf (gz (pJ (TZ OB OB dI (i9 (mI K) mO T.dO mL (aw (ak 0) aM)) (iy (d:=(.int 8)) (R3 (by rfl) T.kg))))
   (bV (gp (iy (d:=.bl false) qD)))
   gM)
   (bV (gp (i9 (RQ K) (TF _) T.AI WR (aw (sE Vk (k:=1) (aL:=[]) fm (M:=["sign"]) (bJ.of (cS DB).names ["thing"] (by decide +kernel)) (WO (ak 0))
    (λ_ _ _ _=>(fg (i:=0) (show List.Nodup (["sign"]:List Str) by decide +kernel) rfl (Or.inl rfl))) (λ_ _ _ _=>qY) (λ_ _ _ _=>(tU (qB K (by exact ax)) (kT false) (ak 0) (iy (d:=(.str "abcdefghijklmnopqrstuvwxyz")) (R4 (by rfl) T.pM))))) aM)))))),rfl⟩)
theorem Qc:aB ["belts"] ["belts"] (cS Dp):=cH
def Gn:GS:=(aR (jZ (jH (aa 0)) (aX 0) cX (gB bu (aa 0) (gC (.int 0))) 1 []))
def tI:GM:=runM 1 [false] Gn
variable(P w K mg base t)in
abbrev vX:Prop:=aT P w K mg base dz 1 t.f7 t.d7 ["belts"] (dB K 1 tI)
theorem Qd(T:Txt K mg t):vX P w K mg base t:=
 hE (k:=0) [false] Gn T.F7.fn Qc rfl rfl (by decide) λcL A outer s H E hr=>(by
  have ax:=jC hr;exact⟨_,(bV (gp (sE sx (k:=1) (aL:=[]) fm (M:=["belt"]) (bJ.of (cS Dp).names ["belts"] (by decide +kernel)) (qX K (cW (ak 0)))
    (λ_ _ _ _=>(fg (i:=0) (show List.Nodup (["belt"]:List Str) by decide +kernel) rfl (Or.inl rfl))) (λ_ _ _ _=>qY) (λ_ _ _ _=>(bY (by exact ax) (ak 0) dI))))),rfl⟩)
theorem kG:aB ["house","name","belt"] ["house","name"] (cS G3):=cH
def G9:GS:=(aW (eA (gB bu (aa 0) (gC (.int 0))) (aX 2)
  (bQ (gT (gB oEq (gB bu (aa 2) (gC (.int 0))) (aa 1)))
  (aR (gS .tup (ao (gB bu (aa 2) (gC (.int 0))) (ao (gB bu (aa 2) (gC (.int 1))) (ao (gB bu (aa 2) (gC (.int 2))) (ao (gF (gO iS (ao (gB bu (aa 2) (gC (.int 3))) gN))) gN))))))
  aQ))
 (aR (gC .aI)))
def uL:GM:=runM 3 [false,false] G9
variable(P w K mg base t)in
abbrev G_:Prop:=aT P w K mg base dz 1 t.f9 t.d9 ["house","name"] (dB K 2 uL)
theorem Q6(T:Txt K mg t):G_ P w K mg base t:=
 hE (k:=0) [false,false] G9 T.F9.fn kG rfl rfl (by decide) λcL A outer s H E hr=>(by
  have de:=qv hr;have ax:=jC hr;exact⟨_,(bf (rh PassesOwn.never (bY (by exact ax) (ak 0) dI) (fg (i:=2) kG.nd rfl (Or.inl rfl)) fm
   (bV (gz (fX (mN K (by exact de)) mR (bY (by exact ax) (ak 2) dI) (ak 1))
   (bV (gp (kQ (aw (bY (by exact ax) (ak 2) dI) (aw (bY (by exact ax) (ak 2) dI) (aw (bY (by exact ax) (ak 2) dI) (aw (cW (xZ (Dl K) Ea T.hX uP (aw (bY (by exact ax) (ak 2) dI) aM))) aM)))))))
   gM)))
   (bV (gp (iy (d:=.aI) yy)))),rfl⟩)
theorem Si:aB ["_law_script","_law_k"] ["_law_script","_law_k"] (cS Hx):=cH
def DS:GS:=(aW (bQ (gT (gB oLt (aa 1) (gO gj (ao (aa 0) gN))))
  (aR (gB bu (aa 0) (aa 1)))
  aQ)
 (aR (gC (.int 0))))
def qr:GM:=runM 2 [false,false] DS
variable(P w K mg base t)in
abbrev MC:Prop:=aT P w K mg base dz 1 t.yN t.Bb ["_law_script","_law_k"] (dB K 2 qr)
theorem Sj(T:Txt K mg t):MC P w K mg base t:=
 hE (k:=0) [false,false] DS T.F11.fn Si rfl rfl (by decide) λcL A outer s H E hr=>(by
  have ax:=jC hr;exact⟨_,(bf (gz (fX yH yI (ak 1) (i9 (mI K) mO T.dO mL (aw (ak 0) aM)))
   (bV (gp (bY (by exact ax) (ak 0) (ak 1))))
   gM)
   (bV (gp dI))),rfl⟩)
theorem iZ:aB ["_law_house_here","_law_place","_law_belt","_law_goals_here"] ["_law_house_here","_law_place"] (cS zT):=cH
def Ha:GS:=(aW (aF 2 (gB bu (jZ (jH (gB bu (aa 0) (gC (.int 0)))) (aX 0) (gT (gB oEq (gB bu (aa 0) (gC (.int 0))) (gB bu (aa 1) (gC (.int 0))))) (aa 0) 1 [1]) (gC (.int 0))))
 (aW (bQ (gT (gB oLt (gB bq (gB bu (aa 1) (gC (.int 1))) (gC (.int 1))) (gB bu (aa 2) (gC (.int 1)))))
  (aR (gS .lst (ao (gF (gS .tup (ao (gB bu (aa 2) (gC (.int 0))) (ao (gF (gB bq (gB bu (aa 1) (gC (.int 1))) (gC (.int 1)))) gN)))) gN)))
  aQ)
 (aW (aF 3 (jZ (jH (gB bu (aa 2) (gC (.int 3)))) (aX 0) cX (gF (t9 (gT (gB (a_ false) (aa 0) (gB bu (aa 1) (gC (.int 1))))) (aa 0) (gS .tup (ao (aa 0) (ao (gC (.int 0)) gN))))) 1 [0]))
 (aW (bQ (dc (gB bu (aa 2) (gC (.int 2))))
  (iO (jD qx (aa 3) (ao (gF (gS .tup (ao (gB bu (aa 2) (gC (.int 0))) (ao (gC (.int 0)) gN)))) gN)))
  aQ)
 (aR (ji (aa 3)))))))
def zV:GM:=runM 4 [false,false] Ha
variable(P w K mg base t)in
abbrev L3:Prop:=aT P w K mg base dz 1 t.yV t.Bk ["_law_house_here","_law_place"] (dB K 2 zV)
theorem Q7(T:Txt K mg t):L3 P w K mg base t:=
 hE (k:=0) [false,false] Ha T.F20.fn iZ rfl rfl (by decide) λcL A outer s H E hr=>(by
  have de:=qv hr;have ax:=jC hr;exact⟨_,(bf (dM (i:=2) iZ.nd rfl (Or.inl rfl) (bY (by exact ax) (sE sx (k:=1) (aL:=[1]) fm (M:=["_law_belt","_law_place"]) (bJ.of (cS zT).names ["_law_house_here","_law_place","_law_belt","_law_goals_here"] (by decide +kernel)) (qX K (cW (bY (by exact ax) (ak 0) dI)))
    (λ_ _ _ _=>(fg (i:=0) (show List.Nodup (["_law_belt","_law_place"]:List Str) by decide +kernel) rfl (Or.inl rfl))) (λ_ _ _ _=>(Ax (fX (mN K (by exact de)) mR (bY (by exact ax) (ak 0) dI) (bY (by exact ax) (ak 1) dI)))) (λ_ _ _ _=>(ak 0))) dI))
   (bf (gz (fX yH yI (cq (eQ K) eT (bY (by exact ax) (ak 1) dI) dI) (bY (by exact ax) (ak 2) dI))
   (bV (gp (pI (aw (cW (kQ (aw (bY (by exact ax) (ak 2) dI) (aw (cW (cq (eQ K) eT (bY (by exact ax) (ak 1) dI) dI)) aM)))) aM))))
   gM)
   (bf (Nf (i:=3) sx (k:=1) (aL:=[0]) fm (M:=["_law_out","_law_house_here"]) (bJ.of (cS zT).names ["_law_house_here","_law_place","_law_belt","_law_goals_here"] (by decide +kernel)) iZ.nd rfl (Or.inl rfl) (qX K (cW (bY (by exact ax) (ak 2) dI)))
    (λ_ _ _ _=>(fg (i:=0) (show List.Nodup (["_law_out","_law_house_here"]:List Str) by decide +kernel) rfl (Or.inl rfl))) (λ_ _ _ _=>qY) (λ_ _ _ _=>(cW (EG (fX (qB K (by exact ax)) (kT false) (ak 0) (bY (by exact ax) (ak 1) dI)) (ak 0) (kQ (aw (ak 0) (aw dI aM)))))))
   (bf (gz (kb (bY (by exact ax) (ak 2) dI))
   (bV (jS (uT PySem.F.slot_list_append PySem.F.type_list_append zP zQ (ak 3) (aw (cW (kQ (aw (bY (by exact ax) (ak 2) dI) (aw dI aM)))) aM))))
   gM)
   (bV (gp (As (ak 3)))))))),rfl⟩)
theorem bT:aB ["_law_house_here","_law_rows","_law_moves_here","_law_goals_here","_law_left","_law_bag","_law_flight","_law_place","_law_count","_law_goal","_law_again","_law_told","_law_belt"] ["_law_house_here","_law_rows","_law_moves_here"] (cS DE):=cH
def Dw:GE:=kj (gB oEq (gB bu (aa 7) (gC (.int 0))) (gB bu (aa 9) (gC (.int 0)))) (kj (gB oEq (gB bu (aa 9) (gC (.int 1))) (gC (.int 0))) (gB Pj (gB bu (aa 7) (gC (.int 1))) (gC (.int 0))))
def Cb:GS:=(aW (aF 9 (AO m8 (aa 3) (ao (aa 5) (ao (aa 7) gN))))
 (bQ (gT (gB (a_ true) (aa 9) (gB bu (aa 0) (gC (.int 1)))))
  (aW (aF 10 (gO oV (ao Dw gN)))
 (jm (gF (gS .tup (ao (aa 5) (ao (aa 6) (ao (aa 9) (ao (gF (gB bq (aa 8) (aa 10))) gN)))))) (aa 4) (aa 9)))
  aQ))
noncomputable abbrev E6:GG:=cT [(aX 5),(aX 6),(aX 7),(aX 8)]
abbrev kE:GE:=(gF (gS .tup (ao (gB bu (aa 2) (gC (.int 0))) (ao (aa 0) gN))))
def rK:GS:=(iO (jD Eb (aa 11) (ao (gF (jZ (lO (ao (gB bu (aa 12) (gC (.int 1))) gN)) (aX 0) (gT (gB (a_ false) kE (aa 1))) (gB bu (aa 1) kE) 1 [4,12])) gN)))
def Hb:GS:=(aW (aF 3 (gF (gO AQ (ao (aa 2) gN))))
 (aW (aF 4 rf)
 (aW (eA (aa 1) E6 Cb)
 (aW (aF 11 (gS .lst gN))
 (aW (eA (gB bu (aa 0) (gC (.int 0))) (aX 12) rK)
 (aR (ji (aa 11))))))))
def v7:GM:=runM 13 [false,false,false] Hb
variable(P w K mg base t)in
abbrev L4:Prop:=aT P w K mg base dz 1 t.yX t.Bm ["_law_house_here","_law_rows","_law_moves_here"] (dB K 3 v7)
theorem Q8(T:Txt K mg t):L4 P w K mg base t:=
 hE (k:=0) [false,false,false] Hb T.F22.fn bT rfl rfl (by decide) λcL A outer s H E hr=>(by
  have de:=qv hr;have ax:=jC hr;exact⟨_,(bf (dM (i:=3) bT.nd rfl (Or.inl rfl) (cW (xZ (QZ K (by exact ax)) T7 T.wF VO (aw (ak 2) aM))))
   (bf (dM (i:=4) bT.nd rfl (Or.inr rfl) tM)
   (bf (rh PassesOwn.never (ak 1) (wq rfl (lA (fg (i:=5) bT.nd rfl (Or.inl rfl)) (lA (fg (i:=6) bT.nd rfl (Or.inl rfl)) (lA (fg (i:=7) bT.nd rfl (Or.inl rfl)) (lA (fg (i:=8) bT.nd rfl (Or.inl rfl)) wd))))) (wx (lB fm (lB fm (lB fm (lB fm wg)))))
   (bf (dM (i:=9) bT.nd rfl (Or.inl rfl) (T4 PySem.F.slot_dict_get PySem.F.type_dict_get (VL K (by exact ax)) VN (ak 3) (aw (ak 5) (aw (ak 7) aM))))
   (bV (gz (fX (sr K (by exact ax)) (kT true) (ak 9) (bY (by exact ax) (ak 0) dI))
   (bf (dM (i:=10) bT.nd rfl (Or.inl rfl) (xZ Ru Vg T.uW NW (aw (AH (tU (mN K (by exact de)) mR (bY (by exact ax) (ak 7) dI) (bY (by exact ax) (ak 9) dI)) (AH (tU (mN K (by exact de)) mR (bY (by exact ax) (ak 9) dI) dI) (IA (tU XR XX (bY (by exact ax) (ak 7) dI) dI)))) aM)))
   (bV (ID (cW (kQ (aw (ak 5) (aw (ak 6) (aw (ak 9) (aw (cW (cq (eQ K) eT (ak 8) (ak 10))) aM)))))) (ak 4) (ak 9) (by exact ax))))
   gM))))
   (bf (dM (i:=11) bT.nd rfl (Or.inl rfl) (pI aM))
   (bf (rh PassesOwn.never (bY (by exact ax) (ak 0) dI) (fg (i:=12) bT.nd rfl (Or.inr rfl)) fm
   (bV (jS (uT PySem.F.slot_list_extend PySem.F.type_list_extend QM RL (ak 11) (aw (cW (sE IE (k:=1) (aL:=[4,12]) fm (M:=["_law_cell_here","_law_left","_law_belt"]) (bJ.of (cS DE).names ["_law_house_here","_law_rows","_law_moves_here","_law_goals_here","_law_left","_law_bag","_law_flight","_law_place","_law_count","_law_goal","_law_again","_law_told","_law_belt"] (by decide +kernel)) (Dx (by rfl) T.fK (aw (bY (by exact ax) (ak 12) dI) aM))
    (λ_ _ _ _=>(fg (i:=0) (show List.Nodup (["_law_cell_here","_law_left","_law_belt"]:List Str) by decide +kernel) rfl (Or.inl rfl))) (λ_ _ _ _=>(Ax (fX (qB K (by exact ax)) (kT false) (cW (kQ (aw (bY (by exact ax) (ak 2) dI) (aw (ak 0) aM)))) (ak 1)))) (λ_ _ _ _=>(bY (by exact ax) (ak 1) (cW (kQ (aw (bY (by exact ax) (ak 2) dI) (aw (ak 0) aM)))))))) aM)))))
   (bV (gp (As (ak 11))))))))),rfl⟩)
theorem Qy:aB ["self"] ["self"] (cS GN):=cH
noncomputable def GP:GS:=(aR (cw aq bO 0 2))
noncomputable def tK:GM:=runM 1 [true] GP
variable(P w K mg base t)in
abbrev Lv:Prop:=aT P w K mg base dz 1 t.wU t.Br ["self"] (dB K 1 tK)
theorem Qz(T:Txt K mg t):Lv P w K mg base t:=
 hE (k:=0) [true] GP T.F28.fn Qy rfl rfl (by decide) λcL A outer s H E hr=>(by
  exact⟨_,(bV (gp (jv (pv 0) T.aE T.l8 rfl gy))),rfl⟩)
theorem Ue:aB ["self"] ["self"] (cS Ii):=cH
def Ij:GS:=(aR (gO iS (ao (cw aq bO 0 8) gN)))
def yt:GM:=runM 1 [true] Ij
variable(P w K mg base t)in
abbrev Ny:Prop:=aT P w K mg base dz 1 t.wW t.Bt ["self"] (dB K 1 yt)
theorem Ug(T:Txt K mg t):Ny P w K mg base t:=
 hE (k:=0) [true] Ij T.F30.fn Ue rfl rfl (by decide) λcL A outer s H E hr=>(by
  exact⟨_,(bV (gp (xZ (Dl K) Ea T.hX uP (aw (jv (pv 0) T.aE T.lZ rfl gy) aM)))),rfl⟩)
theorem Qe:aB ["self","bag","cart"] ["self","bag","cart"] (cS Gk):=cH
def Gp:GS:=(aW (iO (km iR aq bO 0 5 (ao (aa 1) gN)))
 (aW (iO (km iR aq bO 0 6 (ao (aa 1) gN)))
 (aW (iO (km iR aq bO 0 7 (ao (aa 1) gN)))
 (aW (wA (aa 2) aq bO 0 9 (aa 1))
 (iO (lF qx aq bO 0 8 (ao (gF (gS .tup (ao (aa 1) (ao (aa 2) (ao (cw aq bO 0 2) gN))))) gN)))))))
def vY:GM:=runM 3 [true,false,false] Gp
variable(P w K mg base t)in
abbrev K_:Prop:=aT P w K mg base dz 1 t.w6 t.BA ["self","bag","cart"] (dB K 3 vY)
theorem Qf(T:Txt K mg t):K_ P w K mg base t:=
 hE (k:=0) [true,false,false] Gp T.F35.fn Qe rfl rfl (by decide) λcL A outer s H E hr=>(by
  have ax:=jC hr;exact⟨_,(bf (jS (Ig PySem.F.slot_dict_pop PySem.F.type_dict_pop (Ic K) Ie (jv (pv 0) T.aE T.cf rfl gy) (aw (ak 1) aM)))
   (bf (jS (Ig PySem.F.slot_dict_pop PySem.F.type_dict_pop (Ic K) Ie (jv (pv 0) T.aE T.fO rfl gy) (aw (ak 1) aM)))
   (bf (jS (Ig PySem.F.slot_dict_pop PySem.F.type_dict_pop (Ic K) Ie (jv (pv 0) T.aE T.eX rfl gy) (aw (ak 1) aM)))
   (bf (Az (ak 2) (jv (pv 0) T.aE T.gf rfl gy) (ak 1) (by exact ax))
   (bV (jS (Vz PySem.F.slot_list_append PySem.F.type_list_append zP zQ (jv (pv 0) T.aE T.lZ rfl gy) (aw (cW (kQ (aw (ak 1) (aw (ak 2) (aw (jv (pv 0) T.aE T.l8 rfl gy) aM))))) aM)))))))),rfl⟩)
theorem Qr:aB ["name","taken"] ["name","taken"] (cS Gy):=cH
def GB:GS:=(aW (bQ (lh (ez (dc (dX uK (ao (aa 0) gN)))) (gT (gB (a_ false) (aa 0) (aa 1))))
  nS
  aQ)
 (jm (gC (.bl true)) (aa 1) (aa 0)))
def vZ:GM:=runM 2 [false,true] GB
variable(P w K mg base t)in
abbrev GC:Prop:=aT P w K mg base dz 2 t.f4 t.d4 ["name","taken"] (dB K 2 vZ)
theorem Qs(T:Txt K mg t)(g0:zU P w K mg base t):GC P w K mg base t:=
 hE (k:=1) [false,true] GB T.F4.fn Qr rfl rfl (by decide) λcL A outer s H E hr=>(by
  have ax:=jC hr;exact⟨_,(bf (gz (PW.pt (wH (pJ (kb (gv T.F0 g0 hr.le (aw (ak 0) aM) (aN cO)))) (yz (fX (qB K (by exact ax)) (kT false) (ak 0) (ak 1)))))
   (bV q8)
   gM)
   (bV (ID (iy (d:=.bl true) qD) (ak 1) (ak 0) (by exact ax)))),rfl⟩)
theorem bX:aB ["belts","carts","k","belt","name","outs","left","out"] ["belts","carts"] (cS Gi):=cH
def uu:GS:=(aW (bQ (gT (gB (a_ true) (aa 7) (aa 6)))
  nS
  aQ)
 (iO (jD AB (aa 6) (ao (aa 7) gN))))
def Ik:GS:=(aW (aF 4 (gB bu (aa 3) (gC (.int 0))))
 (aW (aF 5 (gF (t9 (dc (gO cM (ao (gB bu (aa 3) (gC (.int 3))) (ao (gC (.ty "list")) gN)))) (gB bu (aa 3) (gC (.int 3))) (gS .lst gN))))
 (aW (aF 6 (gB bq (bN tI (ao (gF (yB (aa 0) (AN (gB bq (aa 2) (gC (.int 1)))) Ep)) gN)) (aa 1)))
 (aW (eA (aa 5) (aX 7) uu)
 (bQ (ez (dc (aa 5)))
  nS
  aQ)))))
def Gq:GS:=Eu (aa 0) (cT [(aX 2),(aX 3)]) Ik
def Dq:GM:=runM 8 [false,false] Gq
variable(P w K mg base t)in
abbrev K':Prop:=aT P w K mg base dz 2 t.f5 t.d5 ["belts","carts"] (dB K 2 Dq)
theorem Qg(T:Txt K mg t)(g7:vX P w K mg base t):K' P w K mg base t:=
 hE (k:=1) [false,false] Gq T.F5.fn bX rfl rfl (by decide) λcL A outer s H E hr=>(by
  have ax:=jC hr;exact⟨_,(bV (Vw PassesOwn.never T.mT (ak 0) (wq rfl (lA (fg (i:=2) bX.nd rfl (Or.inl rfl)) (lA (fg (i:=3) bX.nd rfl (Or.inl rfl)) wd))) (wx (lB fm (lB fm wg)))
   (bf (dM (i:=4) bX.nd rfl (Or.inl rfl) (bY (by exact ax) (ak 3) dI))
   (bf (dM (i:=5) bX.nd rfl (Or.inl rfl) (cW (EG (kb (i9 (sk K) sG T.bh ra (aw (bY (by exact ax) (ak 3) dI) (aw (iy (d:=.ty "list") (qE (by rfl) T.hX uP)) aM)))) (bY (by exact ax) (ak 3) dI) (pI aM))))
   (bf (dM (i:=6) bX.nd rfl (Or.inl rfl) (cq (eQ K) eT (kN T.F7 g7 hr.le (aw (cW (Mo (ak 0) (Nc (cq (eQ K) eT (ak 2) dI)) Nb)) aM) (aN cO)) (ak 1)))
   (bf (rh PassesOwn.never (ak 5) (fg (i:=7) bX.nd rfl (Or.inl rfl)) fm
   (bf (gz (fX (sr K (by exact ax)) (kT true) (ak 7) (ak 6))
   (bV q8)
   gM)
   (bV (jS (uT PySem.F.slot_list_remove PySem.F.type_list_remove R5 R6 (ak 6) (aw (ak 7) aM))))))
   (bV (gz (pJ (kb (ak 5)))
   (bV q8)
   gM)))))))),rfl⟩)
theorem cZ:aB ["house","belt","found","name","long","ring","outs","out"] ["house","belt"] (cS DC):=cH
def Hc:GS:=(aW (aF 2 rf)
 (aW (eA (gB bu (aa 0) (gC (.int 0))) (cT [(aX 3),(aX 4),(aX 5),(aX 6)])
  (bQ (lh (gT (gB oEq (aa 3) (aa 1))) (gT (gB (a_ false) (aa 3) (aa 2))))
  (eA (aa 6) (aX 7)
  (jm (gC (.bl true)) (aa 2) (aa 7)))
  aQ))
 (aR (jZ (jH (gB bq (bN tI (ao (gB bu (aa 0) (gC (.int 0))) gN)) (gB bu (aa 0) (gC (.int 1))))) (aX 0) (gT (gB (a_ false) (aa 0) (aa 1))) (aa 0) 1 [2]))))
def zW:GM:=runM 8 [false,false] Hc
variable(P w K mg base t)in
abbrev L5:Prop:=aT P w K mg base dz 2 t.f8 t.d8 ["house","belt"] (dB K 2 zW)
theorem Q9(T:Txt K mg t)(g7:vX P w K mg base t):L5 P w K mg base t:=
 hE (k:=1) [false,false] Hc T.F8.fn cZ rfl rfl (by decide) λcL A outer s H E hr=>(by
  have de:=qv hr;have ax:=jC hr;exact⟨_,(bf (dM (i:=2) cZ.nd rfl (Or.inr rfl) tM)
   (bf (rh PassesOwn.never (bY (by exact ax) (ak 0) dI) (wq rfl (lA (fg (i:=3) cZ.nd rfl (Or.inl rfl)) (lA (fg (i:=4) cZ.nd rfl (Or.inl rfl)) (lA (fg (i:=5) cZ.nd rfl (Or.inl rfl)) (lA (fg (i:=6) cZ.nd rfl (Or.inl rfl)) wd))))) (wx (lB fm (lB fm (lB fm (lB fm wg)))))
   (bV (gz (PW.pt (wH (fX (mN K (by exact de)) mR (ak 3) (ak 1)) (yz (fX (qB K (by exact ax)) (kT false) (ak 3) (ak 2)))))
   (bV (rh PassesOwn.never (ak 6) (fg (i:=7) cZ.nd rfl (Or.inl rfl)) fm
   (bV (ID (iy (d:=.bl true) qD) (ak 2) (ak 7) (by exact ax)))))
   gM)))
   (bV (gp (sE sx (k:=1) (aL:=[2]) fm (M:=["name","found"]) (bJ.of (cS DC).names ["house","belt","found","name","long","ring","outs","out"] (by decide +kernel)) (qX K (cW (cq (eQ K) eT (kN T.F7 g7 hr.le (aw (bY (by exact ax) (ak 0) dI) aM) (aN cO)) (bY (by exact ax) (ak 0) dI))))
    (λ_ _ _ _=>(fg (i:=0) (show List.Nodup (["name","found"]:List Str) by decide +kernel) rfl (Or.inl rfl))) (λ_ _ _ _=>(Ax (fX (qB K (by exact ax)) (kT false) (ak 0) (ak 1)))) (λ_ _ _ _=>(ak 0))))))),rfl⟩)
theorem lM:aB ["house","belts"] ["house"] (cS DP):=cH
def HD:GS:=(aW (aF 1 (gF (jZ (jH (bN tI (ao (gB bu (aa 0) (gC (.int 0))) gN))) (aX 0) cX (gF (bN uL (ao (aa 1) (ao (aa 0) gN)))) 1 [0])))
 (aR (gS .tup (ao (aa 1) (ao (gF (gO iS (ao (gB bu (aa 0) (gC (.int 1))) gN))) gN)))))
def DT:GM:=runM 2 [false] HD
variable(P w K mg base t)in
abbrev MD:Prop:=aT P w K mg base dz 2 t.yM t.Ba ["house"] (dB K 1 DT)
theorem Sk(T:Txt K mg t)(g7:vX P w K mg base t)(g9:G_ P w K mg base t):MD P w K mg base t:=
 hE (k:=1) [false] HD T.F10.fn lM rfl rfl (by decide) λcL A outer s H E hr=>(by
  have ax:=jC hr;exact⟨_,(bf (DM (i:=1) sx (k:=1) (aL:=[0]) fm (M:=["name","house"]) (bJ.of (cS DP).names ["house","belts"] (by decide +kernel)) lM.nd rfl (Or.inl rfl) (qX K (cW (kN T.F7 g7 hr.le (aw (bY (by exact ax) (ak 0) dI) aM) (aN cO))))
    (λ_ _ _ _=>(fg (i:=0) (show List.Nodup (["name","house"]:List Str) by decide +kernel) rfl (Or.inl rfl))) (λ_ _ _ _=>qY) (λ_ _ _ _=>(cW (kN T.F9 g9 hr.le (aw (ak 1) (aw (ak 0) aM)) (aN (aN cO))))))
   (bV (gp (kQ (aw (ak 1) (aw (cW (xZ (Dl K) Ea T.hX uP (aw (bY (by exact ax) (ak 0) dI) aM))) aM)))))),rfl⟩)
theorem iY:aB ["_law_script","_law_k","_law_at","_law_many","_law_cell_here","_law_mixed"] ["_law_script","_law_k","_law_at","_law_many"] (cS G4):=cH
def DF:GS:=(aW (aF 4 (dX qr (ao (aa 0) (ao (aa 1) gN))))
 (aW (bQ (gT (gB oEq (gB oMod (dX qr (ao (aa 0) (ao (gC (.int 0)) gN))) (gC (.int 2))) (gC (.int 1))))
  (aR (gB oMod (gB oMod (gB lJ (aa 4) (gB bu (gS .lst (ao (gC (.int 2)) (ao (gC (.int 128)) (ao (gC (.int 8192)) (ao (gC (.int 524288)) (ao (gC (.int 33554432)) gN)))))) (aa 2))) (gC (.int 64))) (aa 3)))
  aQ)
 (aW (aF 5 (gB oMod (gB eC (gB bq (gB bq (gB bq (gB oMod (aa 4) (gC (.int 1000003))) (gB eC (aa 1) (aa 1))) (gB eC (gC (.int 1009)) (aa 2))) (gC (.int 7))) (gC (.int 48271))) (gC (.int 999983))))
 (aR (gB oMod (gB oMod (gB eC (gB bq (gB bq (aa 5) (gB eC (gC (.int 5)) (aa 1))) (aa 2)) (gB bq (gC (.int 69621)) (gB eC (gC (.int 2)) (aa 2)))) (gC (.int 1000033))) (aa 3))))))
def j_:GM:=runM 6 [false,false,false,false] DF
variable(P w K mg base t)in
abbrev v8:Prop:=aT P w K mg base dz 2 t.yO t.Bc ["_law_script","_law_k","_law_at","_law_many"] (dB K 4 j_)
theorem Q_(T:Txt K mg t)(ES:MC P w K mg base t):v8 P w K mg base t:=
 hE (k:=1) [false,false,false,false] DF T.F12.fn iY rfl rfl (by decide) λcL A outer s H E hr=>(by
  have de:=qv hr;have ax:=jC hr;exact⟨_,(bf (dM (i:=4) iY.nd rfl (Or.inl rfl) (gv T.F11 ES hr.le (aw (ak 0) (aw (ak 1) aM)) (aN (aN cO))))
   (bf (gz (fX (mN K (by exact de)) mR (cq oG oH (gv T.F11 ES hr.le (aw (ak 0) (aw dI aM)) (aN (aN cO))) dI) dI)
   (bV (gp (cq oG oH (cq oG oH (cq Aq Au (ak 4) (bY (by exact ax) (pI (aw dI (aw dI (aw dI (aw dI (aw dI aM)))))) (ak 2))) dI) (ak 3))))
   gM)
   (bf (dM (i:=5) iY.nd rfl (Or.inl rfl) (cq oG oH (cq qw qA (cq (eQ K) eT (cq (eQ K) eT (cq (eQ K) eT (cq oG oH (ak 4) dI) (cq qw qA (ak 1) (ak 1))) (cq qw qA dI (ak 2))) dI) dI) dI))
   (bV (gp (cq oG oH (cq oG oH (cq qw qA (cq (eQ K) eT (cq (eQ K) eT (ak 5) (cq qw qA dI (ak 1))) (ak 2)) (cq (eQ K) eT dI (cq qw qA dI (ak 2)))) dI) (ak 3))))))),rfl⟩)
theorem P5:aB ["self","name"] ["self","name"] (cS F_):=cH
def Ga:GS:=(bQ (gT (gB (a_ true) (aa 1) (bN tI (ao (gB bu (cw aq bO 0 0) (gC (.int 0))) gN))))
  nS
  aQ)
def Dk:GM:=runM 2 [true,false] Ga
variable(P w K mg base t)in
abbrev KY:Prop:=aT P w K mg base dz 2 t.wQ t.Bp ["self","name"] (dB K 2 Dk)
theorem P6(T:Txt K mg t)(g7:vX P w K mg base t):KY P w K mg base t:=
 hE (k:=1) [true,false] Ga T.F26.fn P5 rfl rfl (by decide) λcL A outer s H E hr=>(by
  have ax:=jC hr;exact⟨_,(bV (gz (fX (sr K (by exact ax)) (kT true) (ak 1) (kN T.F7 g7 hr.le (aw (bY (by exact ax) (jv (pv 0) T.aE T.jq rfl gy) dI) aM) (aN cO)))
   (bV q8)
   gM)),rfl⟩)
theorem PX:aB ["self","bag"] ["self","bag"] (cS FY):=cH
def FZ:GS:=(bQ (lh (ez (dc (dX uK (ao (aa 1) gN)))) (gT (gB (a_ true) (aa 1) (cw aq bO 0 5))))
  nS
  aQ)
def Di:GM:=runM 2 [true,false] FZ
variable(P w K mg base t)in
abbrev KR:Prop:=aT P w K mg base dz 2 t.wR t.Bq ["self","bag"] (dB K 2 Di)
theorem PY(T:Txt K mg t)(g0:zU P w K mg base t):KR P w K mg base t:=
 hE (k:=1) [true,false] FZ T.F27.fn PX rfl rfl (by decide) λcL A outer s H E hr=>(by
  have ax:=jC hr;exact⟨_,(bV (gz (PW.pt (wH (pJ (kb (gv T.F0 g0 hr.le (aw (ak 1) aM) (aN cO)))) (yz (fX (sr K (by exact ax)) (kT true) (ak 1) (jv (pv 0) T.aE T.cf rfl gy)))))
   (bV q8)
   gM)),rfl⟩)
theorem fT:aB ["self","ranks","spots"] ["self"] (cS zN):=cH
def Gr:GS:=(aW (aF 1 (gF (bN tI (ao (gB bu (cw aq bO 0 0) (gC (.int 0))) gN))))
 (aW (aF 2 (gF (jZ (lN (cw aq bO 0 5) [1]) (cT [(aX 0),(aX 1)]) cX (gF (gS .tup (ao (yC yE (aa 2) (ao (gB bu (aa 1) (gC (.int 0))) gN)) (ao (gB bu (aa 1) (gC (.int 1))) (ao (aa 0) gN))))) 2 [1])))
 (aR (jZ (jH (gO yF (ao (aa 2) gN))) (aX 0) cX (gB bu (aa 0) (gC (.int 2))) 1 []))))
def Dr:GM:=runM 3 [true] Gr
variable(P w K mg base t)in
abbrev La:Prop:=aT P w K mg base dz 2 t.wY t.Bw ["self"] (dB K 1 Dr)
theorem Qh(T:Txt K mg t)(g7:vX P w K mg base t):La P w K mg base t:=
 hE (k:=1) [true] Gr T.F32.fn fT rfl rfl (by decide) λcL A outer s H E hr=>(by
  have ax:=jC hr;exact⟨_,(bf (dM (i:=1) fT.nd rfl (Or.inr rfl) (cW (kN T.F7 g7 hr.le (aw (bY (by exact ax) (jv (pv 0) T.aE T.jq rfl gy) dI) aM) (aN cO))))
   (bf (DM (i:=2) R0 (k:=2) (aL:=[1]) (wx (lB fm (lB fm wg))) (M:=["bag","place","ranks"]) (bJ.of (cS zN).names ["self","ranks","spots"] (by decide +kernel)) fT.nd rfl (Or.inl rfl) (TX (jv (pv 0) T.aE T.cf rfl gy))
    (λ_ _ _ _=>(wq rfl (lA (fg (i:=0) (show List.Nodup (["bag","place","ranks"]:List Str) by decide +kernel) rfl (Or.inl rfl)) (lA (fg (i:=1) (show List.Nodup (["bag","place","ranks"]:List Str) by decide +kernel) rfl (Or.inl rfl)) wd)))) (λ_ _ _ _=>qY) (λ_ _ _ _=>(cW (kQ (aw (TM PySem.F.slot_list_index PySem.F.type_list_index (TN K) TQ (ak 2) (aw (bY (by exact ax) (ak 1) dI) aM)) (aw (bY (by exact ax) (ak 1) dI) (aw (ak 0) aM)))))))
   (bV (gp (sE sx (k:=1) (aL:=[]) fm (M:=["spot"]) (bJ.of (cS zN).names ["self","ranks","spots"] (by decide +kernel)) (qX K (cW (Ud T.rq (aw (ak 2) aM))))
    (λ_ _ _ _=>(fg (i:=0) (show List.Nodup (["spot"]:List Str) by decide +kernel) rfl (Or.inl rfl))) (λ_ _ _ _=>qY) (λ_ _ _ _=>(bY (by exact ax) (ak 0) dI))))))),rfl⟩)
theorem gJ:aB ["self","bag","goal","was","belt"] ["self","bag","goal"] (cS Gz):=cH
def GD:GS:=(aW (aF 3 (gB bu (cw aq bO 0 5) (aa 1)))
 (aW (aF 4 (gF (bN uL (ao (cw aq bO 0 0) (ao (gB bu (aa 3) (gC (.int 0))) gN)))))
 (aW (bQ (gR (dc (gB bu (aa 4) (gC (.int 2)))) (gR (gT (gB oEq (aa 3) (gS .tup (ao (gB bu (aa 4) (gC (.int 0))) (ao (gB uo (gB bu (aa 4) (gC (.int 1))) (gC (.int 1))) gN))))) (gT (gB oEq (aa 2) (gS .tup (ao (gB bu (aa 4) (gC (.int 0))) (ao (gC (.int 0)) gN)))))))
  (IJ aq bO 0 7 (aa 1) 1)
  aQ)
 (wA (aa 2) aq bO 0 5 (aa 1)))))
def v5:GM:=runM 5 [true,false,false] GD
variable(P w K mg base t)in
abbrev Li:Prop:=aT P w K mg base dz 2 t.w5 t.Bz ["self","bag","goal"] (dB K 3 v5)
theorem Qt(T:Txt K mg t)(g9:G_ P w K mg base t):Li P w K mg base t:=
 hE (k:=1) [true,false,false] GD T.F34.fn gJ rfl rfl (by decide) λcL A outer s H E hr=>(by
  have de:=qv hr;have ax:=jC hr;exact⟨_,(bf (dM (i:=3) gJ.nd rfl (Or.inl rfl) (bY (by exact ax) (jv (pv 0) T.aE T.cf rfl gy) (ak 1)))
   (bf (dM (i:=4) gJ.nd rfl (Or.inl rfl) (cW (kN T.F9 g9 hr.le (aw (jv (pv 0) T.aE T.jq rfl gy) (aw (bY (by exact ax) (ak 3) dI) aM)) (aN (aN cO)))))
   (bf (gz (PW.pt (sF (kb (bY (by exact ax) (ak 4) dI)) (sF (fX (mN K (by exact de)) mR (ak 3) (kQ (aw (bY (by exact ax) (ak 4) dI) (aw (cq Iv IB (bY (by exact ax) (ak 4) dI) dI) aM)))) (yk (fX (mN K (by exact de)) mR (ak 2) (kQ (aw (bY (by exact ax) (ak 4) dI) (aw dI aM))))))))
   (bV (VI (jv (pv 0) T.aE T.eX rfl gy) (ak 1) Iu (by exact ax)))
   gM)
   (bV (Az (ak 2) (jv (pv 0) T.aE T.cf rfl gy) (ak 1) (by exact ax)))))),rfl⟩)
theorem ik:aB ["carts","taken","cart"] ["carts","taken"] (cS Gd):=cH
def Gf:GS:=(aW (eA (aa 0) (aX 2)
  (iO (bN vZ (ao (aa 2) (ao (aa 1) gN)))))
 (bQ (ez (dc (aa 0)))
  nS
  aQ))
def zM:GM:=runM 3 [false,true] Gf
variable(P w K mg base t)in
abbrev K3:Prop:=aT P w K mg base dz 3 t.f2 t.d2 ["carts","taken"] (dB K 2 zM)
theorem P8(T:Txt K mg t)(g4:GC P w K mg base t):K3 P w K mg base t:=
 hE (k:=2) [false,true] Gf T.F2.fn ik rfl rfl (by decide) λcL A outer s H E hr=>(by
  exact⟨_,(bf (rh PassesOwn.never (ak 0) (fg (i:=2) ik.nd rfl (Or.inl rfl)) fm
   (bV (jS (kN T.F4 g4 hr.le (aw (ak 2) (aw (ak 1) aM)) (aN (aN cO))))))
   (bV (gz (pJ (kb (ak 0)))
   (bV q8)
   gM))),rfl⟩)
theorem cg:aB ["belts","taken","name","long","ring","outs","least"] ["belts","taken"] (cS Ge):=cH
def Gg:GS:=(eA (aa 0) (cT [(aX 2),(aX 3),(aX 4),(aX 5)])
  (aW (iO (bN vZ (ao (aa 2) (ao (aa 1) gN))))
 (aW (aF 6 (gF (t9 (dc (aa 4)) (gC (.int 2)) (gC (.int 1)))))
 (bQ (gT (gB oLt (aa 3) (aa 6)))
  nS
  aQ))))
def Dm:GM:=runM 7 [false,true] Gg
variable(P w K mg base t)in
abbrev K4:Prop:=aT P w K mg base dz 3 t.f3 t.d3 ["belts","taken"] (dB K 2 Dm)
theorem P9(T:Txt K mg t)(g4:GC P w K mg base t):K4 P w K mg base t:=
 hE (k:=2) [false,true] Gg T.F3.fn cg rfl rfl (by decide) λcL A outer s H E hr=>(by
  exact⟨_,(bV (rh PassesOwn.never (ak 0) (wq rfl (lA (fg (i:=2) cg.nd rfl (Or.inl rfl)) (lA (fg (i:=3) cg.nd rfl (Or.inl rfl)) (lA (fg (i:=4) cg.nd rfl (Or.inl rfl)) (lA (fg (i:=5) cg.nd rfl (Or.inl rfl)) wd))))) (wx (lB fm (lB fm (lB fm (lB fm wg)))))
   (bf (jS (kN T.F4 g4 hr.le (aw (ak 2) (aw (ak 1) aM)) (aN (aN cO))))
   (bf (dM (i:=6) cg.nd rfl (Or.inl rfl) (cW (EG (kb (ak 4)) dI dI)))
   (bV (gz (fX yH yI (ak 3) (ak 6))
   (bV q8)
   gM)))))),rfl⟩)
theorem fQ:aB ["house","hand","name"] ["house"] (cS Gj):=cH
def Gs:GS:=(aW (aF 1 (gB bu (gB bu (aa 0) (gC (.int 1))) (gC (.int 0))))
 (eA (bN tI (ao (gB bu (aa 0) (gC (.int 0))) gN)) (aX 2)
  (bQ (gT (gB (a_ true) (aa 1) (bN zW (ao (aa 0) (ao (aa 2) gN)))))
  nS
  aQ)))
def Ds:GM:=runM 3 [false] Gs
variable(P w K mg base t)in
abbrev Lb:Prop:=aT P w K mg base dz 3 t.f6 t.d6 ["house"] (dB K 1 Ds)
theorem Qi(T:Txt K mg t)(g7:vX P w K mg base t)(g8:L5 P w K mg base t):Lb P w K mg base t:=
 hE (k:=2) [false] Gs T.F6.fn fQ rfl rfl (by decide) λcL A outer s H E hr=>(by
  have ax:=jC hr;exact⟨_,(bf (dM (i:=1) fQ.nd rfl (Or.inl rfl) (bY (by exact ax) (bY (by exact ax) (ak 0) dI) dI))
   (bV (rh PassesOwn.never (kN T.F7 g7 hr.le (aw (bY (by exact ax) (ak 0) dI) aM) (aN cO)) (fg (i:=2) fQ.nd rfl (Or.inl rfl)) fm
   (bV (gz (fX (sr K (by exact ax)) (kT true) (ak 1) (kN T.F8 g8 hr.le (aw (ak 0) (aw (ak 2) aM)) (aN (aN cO))))
   (bV q8)
   gM))))),rfl⟩)
theorem Sl:aB ["_law_script","_law_k","_law_many"] ["_law_script","_law_k","_law_many"] (cS Hy):=cH
def HE:GS:=(aR (dX j_ (ao (aa 0) (ao (aa 1) (ao (gC (.int 0)) (ao (aa 2) gN))))))
def oC:GM:=runM 3 [false,false,false] HE
variable(P w K mg base t)in
abbrev yh:Prop:=aT P w K mg base dz 3 t.yP t.Bd ["_law_script","_law_k","_law_many"] (dB K 3 oC)
theorem Sm(T:Txt K mg t)(qF:v8 P w K mg base t):yh P w K mg base t:=
 hE (k:=2) [false,false,false] HE T.F13.fn Sl rfl rfl (by decide) λcL A outer s H E hr=>(by
  exact⟨_,(bV (gp (gv T.F12 qF hr.le (aw (ak 0) (aw (ak 1) (aw dI (aw (ak 2) aM)))) (aN (aN (aN (aN cO))))))),rfl⟩)
theorem Ra:aB ["_law_script","_law_k","_law_many"] ["_law_script","_law_k","_law_many"] (cS G5):=cH
def He:GS:=(aR (dX j_ (ao (aa 0) (ao (aa 1) (ao (gC (.int 1)) (ao (aa 2) gN))))))
def nN:GM:=runM 3 [false,false,false] He
variable(P w K mg base t)in
abbrev zX:Prop:=aT P w K mg base dz 3 t.yQ t.Be ["_law_script","_law_k","_law_many"] (dB K 3 nN)
theorem Rb(T:Txt K mg t)(qF:v8 P w K mg base t):zX P w K mg base t:=
 hE (k:=2) [false,false,false] He T.F14.fn Ra rfl rfl (by decide) λcL A outer s H E hr=>(by
  exact⟨_,(bV (gp (gv T.F12 qF hr.le (aw (ak 0) (aw (ak 1) (aw dI (aw (ak 2) aM)))) (aN (aN (aN (aN cO))))))),rfl⟩)
theorem Rc:aB ["_law_script","_law_k","_law_many"] ["_law_script","_law_k","_law_many"] (cS G6):=cH
def Hf:GS:=(aR (dX j_ (ao (aa 0) (ao (aa 1) (ao (gC (.int 2)) (ao (aa 2) gN))))))
def oA:GM:=runM 3 [false,false,false] Hf
variable(P w K mg base t)in
abbrev x_:Prop:=aT P w K mg base dz 3 t.yR t.Bf ["_law_script","_law_k","_law_many"] (dB K 3 oA)
theorem Rf(T:Txt K mg t)(qF:v8 P w K mg base t):x_ P w K mg base t:=
 hE (k:=2) [false,false,false] Hf T.F15.fn Rc rfl rfl (by decide) λcL A outer s H E hr=>(by
  exact⟨_,(bV (gp (gv T.F12 qF hr.le (aw (ak 0) (aw (ak 1) (aw dI (aw (ak 2) aM)))) (aN (aN (aN (aN cO))))))),rfl⟩)
theorem m_:aB ["self","bag","flight","belt","place"] ["self","bag","flight","belt"] (cS Ih):=cH
def Il:GS:=(aW (bQ (lh (ez (dc (dX uK (ao (aa 1) gN)))) (lh (gT (gB (a_ false) (aa 1) (cw aq bO 0 5))) (gT (gB (a_ false) (aa 1) (cw aq bO 0 9)))))
  nS
  aQ)
 (aW (bQ (gT (gB (l_ true) (aa 2) (gC .aI)))
  nS
  aQ)
 (aW (iO (c7 Dk aq bO 0 (ao (aa 3) gN)))
 (aW (aF 4 (gF (gS .tup (ao (aa 3) (ao (gC (.int 0)) gN)))))
 (aW (bQ (gT (gB (a_ false) (aa 4) (gO kF (ao (cw aq bO 0 5) gN))))
  nS
  aQ)
 (aW (wA (aa 4) aq bO 0 5 (aa 1))
 (aW (wA (aa 2) aq bO 0 6 (aa 1))
 (wA (gC (.int 0)) aq bO 0 7 (aa 1)))))))))
def yu:GM:=runM 5 [true,false,false,false] Il
variable(P w K mg base t)in
abbrev Nz:Prop:=aT P w K mg base dz 3 t.wO t.Bo ["self","bag","flight","belt"] (dB K 4 yu)
theorem Uh(T:Txt K mg t)(YK:KY P w K mg base t)(g0:zU P w K mg base t):Nz P w K mg base t:=
 hE (k:=2) [true,false,false,false] Il T.F25.fn m_ rfl rfl (by decide) λcL A outer s H E hr=>(by
  have ax:=jC hr;exact⟨_,(bf (gz (PW.pt (wH (pJ (kb (gv T.F0 g0 hr.le (aw (ak 1) aM) (aN cO)))) (wH (fX (qB K (by exact ax)) (kT false) (ak 1) (jv (pv 0) T.aE T.cf rfl gy)) (yz (fX (qB K (by exact ax)) (kT false) (ak 1) (jv (pv 0) T.aE T.gf rfl gy))))))
   (bV q8)
   gM)
   (bf (gz (fX Ve (IU true) (ak 2) (iy (d:=.aI) yy))
   (bV q8)
   gM)
   (bf (jS (wm (pv 0) T.aE T.F26 YK hr.le (by decide +kernel) (aw (ak 3) aM) (aN cO)))
   (bf (dM (i:=4) m_.nd rfl (Or.inl rfl) (cW (kQ (aw (ak 3) (aw dI aM)))))
   (bf (gz (fX (qB K (by exact ax)) (kT false) (ak 4) (TU T.hX (jv (pv 0) T.aE T.cf rfl gy)))
   (bV q8)
   gM)
   (bf (Az (ak 4) (jv (pv 0) T.aE T.cf rfl gy) (ak 1) (by exact ax))
   (bf (Az (ak 2) (jv (pv 0) T.aE T.fO rfl gy) (ak 1) (by exact ax))
   (bV (Az dI (jv (pv 0) T.aE T.eX rfl gy) (ak 1) (by exact ax)))))))))),rfl⟩)
theorem Sn:aB ["self"] ["self"] (cS DR):=cH
def HF:GS:=(aR (jZ (jH (c7 Dr aq bO 0 gN)) (aX 0) cX (gF (gS .tup (ao (aa 0) (ao (gB bu (cw aq bO 1 6) (aa 0)) (ao (gB bu (cw aq bO 1 5) (aa 0)) (ao (gB bu (cw aq bO 1 7) (aa 0)) gN)))))) 1 [0]))
def Am:GM:=runM 1 [true] HF
variable(P w K mg base t)in
abbrev ME:Prop:=aT P w K mg base dz 3 t.wV t.Bs ["self"] (dB K 1 Am)
theorem So(T:Txt K mg t)(YQ:La P w K mg base t):ME P w K mg base t:=
 hE (k:=2) [true] HF T.F29.fn Sn rfl rfl (by decide) λcL A outer s H E hr=>(by
  have ax:=jC hr;exact⟨_,(bV (gp (sE sx (k:=1) (aL:=[0]) fm (M:=["bag","self"]) (bJ.of (cS DR).names ["self"] (by decide +kernel)) (qX K (cW (Aj (pv 0) T.aE T.F32 YQ hr.le (by decide +kernel))))
    (λ_ _ _ _=>(fg (i:=0) (show List.Nodup (["bag","self"]:List Str) by decide +kernel) rfl (Or.inl rfl))) (λ_ _ _ _=>qY) (λ_ _ _ _=>(cW (kQ (aw (ak 0) (aw (bY (by exact ax) (jv (pv 1) T.aE T.fO rfl gy) (ak 0)) (aw (bY (by exact ax) (jv (pv 1) T.aE T.cf rfl gy) (ak 0)) (aw (bY (by exact ax) (jv (pv 1) T.aE T.eX rfl gy) (ak 0)) aM)))))))))),rfl⟩)
theorem Rg:aB ["self","bag"] ["self","bag"] (cS G7):=cH
def Hg:GS:=(aW (bQ (gR (dc (dX uK (ao (aa 1) gN))) (gT (gB (a_ false) (aa 1) (cw aq bO 0 9))))
  (aR (gB bu (cw aq bO 0 9) (aa 1)))
  aQ)
 (aW (iO (c7 Di aq bO 0 (ao (aa 1) gN)))
 (aR (gB bu (cw aq bO 0 5) (aa 1)))))
def yb:GM:=runM 2 [true,false] Hg
variable(P w K mg base t)in
abbrev L6:Prop:=aT P w K mg base dz 3 t.wX t.Bu ["self","bag"] (dB K 2 yb)
theorem Rh(T:Txt K mg t)(YL:KR P w K mg base t)(g0:zU P w K mg base t):L6 P w K mg base t:=
 hE (k:=2) [true,false] Hg T.F31.fn Rg rfl rfl (by decide) λcL A outer s H E hr=>(by
  have ax:=jC hr;exact⟨_,(bf (gz (PW.pt (sF (kb (gv T.F0 g0 hr.le (aw (ak 1) aM) (aN cO))) (yk (fX (qB K (by exact ax)) (kT false) (ak 1) (jv (pv 0) T.aE T.gf rfl gy)))))
   (bV (gp (bY (by exact ax) (jv (pv 0) T.aE T.gf rfl gy) (ak 1))))
   gM)
   (bf (jS (wm (pv 0) T.aE T.F27 YL hr.le (by decide +kernel) (aw (ak 1) aM) (aN cO)))
   (bV (gp (bY (by exact ax) (jv (pv 0) T.aE T.cf rfl gy) (ak 1)))))),rfl⟩)
theorem jE:aB ["self","moves","bag","goal"] ["self","moves"] (cS HC):=cH
def HG:GS:=(aW (Ak aq bO 0 2 1)
 (eA (aa 1) (cT [(aX 2),(aX 3)])
  (bQ (dc (gO cM (ao (aa 3) (ao (gC (.ty "tuple")) gN))))
  (iO (c7 v5 aq bO 0 (ao (aa 2) (ao (aa 3) gN))))
  (iO (c7 vY aq bO 0 (ao (aa 2) (ao (aa 3) gN)))))))
def An:GM:=runM 4 [true,false] HG
variable(P w K mg base t)in
abbrev MF:Prop:=aT P w K mg base dz 3 t.wZ t.Bx ["self","moves"] (dB K 2 An)
theorem Sq(T:Txt K mg t)(YS:Li P w K mg base t)(YT:K_ P w K mg base t):MF P w K mg base t:=
 hE (k:=2) [true,false] HG T.F33.fn jE rfl rfl (by decide) λcL A outer s H E hr=>(by
  exact⟨_,(bf (R_ (pv 0) Iu T.aE T.l8 rfl gy (by decide))
   (bV (rh PassesOwn.never (ak 1) (wq rfl (lA (fg (i:=2) jE.nd rfl (Or.inl rfl)) (lA (fg (i:=3) jE.nd rfl (Or.inl rfl)) wd))) (wx (lB fm (lB fm wg)))
   (bV (gz (kb (i9 (sk K) sG T.bh ra (aw (ak 3) (aw (iy (d:=.ty "tuple") (qE (by rfl) T.j0 DI)) aM))))
   (bV (jS (wm (pv 0) T.aE T.F34 YS hr.le (by decide +kernel) (aw (ak 2) (aw (ak 3) aM)) (aN (aN cO)))))
   (bV (jS (wm (pv 0) T.aE T.F35 YT hr.le (by decide +kernel) (aw (ak 2) (aw (ak 3) aM)) (aN (aN cO)))))))))),rfl⟩)
theorem dg:aB ["house","belts","carts","taken"] ["house"] (cS Gb):=cH
def Gh:GS:=(aW (aF 1 (gB bu (aa 0) (gC (.int 0))))
 (aW (aF 2 (gB bu (aa 0) (gC (.int 1))))
 (aW (aF 3 rf)
 (aW (iO (bN zM (ao (aa 2) (ao (aa 3) gN))))
 (aW (iO (bN Dm (ao (aa 1) (ao (aa 3) gN))))
 (aW (iO (bN Dq (ao (aa 1) (ao (aa 2) gN))))
 (aW (iO (bN Ds (ao (aa 0) gN)))
 (aR (gC (.bl true))))))))))
def Dn:GM:=runM 4 [false] Gh
variable(P w K mg base t)in
abbrev K5:Prop:=aT P w K mg base dz 4 t.f1 t.d1 ["house"] (dB K 1 Dn)
theorem P_(T:Txt K mg t)(g3:K4 P w K mg base t)(g2:K3 P w K mg base t)(g6:Lb P w K mg base t)(g5:K' P w K mg base t):K5 P w K mg base t:=
 hE (k:=3) [false] Gh T.F1.fn dg rfl rfl (by decide) λcL A outer s H E hr=>(by
  have ax:=jC hr;exact⟨_,(bf (dM (i:=1) dg.nd rfl (Or.inl rfl) (bY (by exact ax) (ak 0) dI))
   (bf (dM (i:=2) dg.nd rfl (Or.inl rfl) (bY (by exact ax) (ak 0) dI))
   (bf (dM (i:=3) dg.nd rfl (Or.inl rfl) tM)
   (bf (jS (kN T.F2 g2 hr.le (aw (ak 2) (aw (ak 3) aM)) (aN (aN cO))))
   (bf (jS (kN T.F3 g3 hr.le (aw (ak 1) (aw (ak 3) aM)) (aN (aN cO))))
   (bf (jS (kN T.F5 g5 hr.le (aw (ak 1) (aw (ak 2) aM)) (aN (aN cO))))
   (bf (jS (kN T.F6 g6 hr.le (aw (ak 0) aM) (aN cO)))
   (bV (gp (iy (d:=.bl true) qD)))))))))),rfl⟩)
theorem eN:aB ["_law_script","_law_k","_law_n","_law_letters","_law_base","_law_many","_law_spot","_law_rest"] ["_law_script","_law_k","_law_n"] (cS Hz):=cH
def DU:GS:=(aW (aF 3 (gC (.str "abcdefghijklmnopqrstuvwxyz")))
 (aW (aF 4 (dX oC (ao (aa 0) (ao (aa 1) (ao (gC (.int 26)) gN)))))
 (aW (bQ (gT (gB oEq (dX nN (ao (aa 0) (ao (aa 1) (ao (gC (.int 3)) gN)))) (gC (.int 0))))
  (aR (gB eC (gB bu (aa 3) (gB oMod (gB bq (aa 4) (gB lJ (aa 2) (gC (.int 8)))) (gC (.int 26)))) (gB bq (gC (.int 1)) (gB oMod (aa 2) (gC (.int 8))))))
  aQ)
 (aW (aF 5 (gF (gB bq (gC (.int 1)) (dX oA (ao (aa 0) (ao (aa 1) (ao (gC (.int 8)) gN)))))))
 (aW (aF 6 (dX nN (ao (aa 0) (ao (aa 1) (ao (aa 5) gN)))))
 (aW (aF 7 (gB bu (aa 3) (dX j_ (ao (aa 0) (ao (aa 1) (ao (gC (.int 3)) (ao (gC (.int 26)) gN)))))))
 (aR (gB bq (gB bq (gB eC (aa 7) (aa 6)) (gB bu (aa 3) (gB oMod (gB bq (gB eC (gC (.int 7)) (aa 2)) (aa 4)) (gC (.int 26))))) (gB eC (aa 7) (gB uo (gB uo (aa 5) (gC (.int 1))) (aa 6)))))))))))
def mJ:GM:=runM 8 [false,false,false] DU
variable(P w K mg base t)in
abbrev HH:Prop:=aT P w K mg base dz 4 t.yS t.Bg ["_law_script","_law_k","_law_n"] (dB K 3 mJ)
theorem Sr(T:Txt K mg t)(qF:v8 P w K mg base t)(t6:zX P w K mg base t)(sO:yh P w K mg base t)(t7:x_ P w K mg base t):HH P w K mg base t:=
 hE (k:=3) [false,false,false] DU T.F16.fn eN rfl rfl (by decide) λcL A outer s H E hr=>(by
  have de:=qv hr;have ax:=jC hr;exact⟨_,(bf (dM (i:=3) eN.nd rfl (Or.inl rfl) (iy (d:=.str "abcdefghijklmnopqrstuvwxyz") Ws))
   (bf (dM (i:=4) eN.nd rfl (Or.inl rfl) (gv T.F13 sO hr.le (aw (ak 0) (aw (ak 1) (aw dI aM))) (aN (aN (aN cO)))))
   (bf (gz (fX (mN K (by exact de)) mR (gv T.F14 t6 hr.le (aw (ak 0) (aw (ak 1) (aw dI aM))) (aN (aN (aN cO)))) dI)
   (bV (gp (cq qw qA (bY (by exact ax) (ak 3) (cq oG oH (cq (eQ K) eT (ak 4) (cq Aq Au (ak 2) dI)) dI)) (cq (eQ K) eT dI (cq oG oH (ak 2) dI)))))
   gM)
   (bf (dM (i:=5) eN.nd rfl (Or.inl rfl) (cW (cq (eQ K) eT dI (gv T.F15 t7 hr.le (aw (ak 0) (aw (ak 1) (aw dI aM))) (aN (aN (aN cO)))))))
   (bf (dM (i:=6) eN.nd rfl (Or.inl rfl) (gv T.F14 t6 hr.le (aw (ak 0) (aw (ak 1) (aw (ak 5) aM))) (aN (aN (aN cO)))))
   (bf (dM (i:=7) eN.nd rfl (Or.inl rfl) (bY (by exact ax) (ak 3) (gv T.F12 qF hr.le (aw (ak 0) (aw (ak 1) (aw dI (aw dI aM)))) (aN (aN (aN (aN cO)))))))
   (bV (gp (cq (eQ K) eT (cq (eQ K) eT (cq qw qA (ak 7) (ak 6)) (bY (by exact ax) (ak 3) (cq oG oH (cq (eQ K) eT (cq qw qA dI (ak 2)) (ak 4)) dI))) (cq qw qA (ak 7) (cq Iv IB (cq Iv IB (ak 5) dI) (ak 6)))))))))))),rfl⟩)
theorem dH:aB ["_law_script","_law_k","_law_names","_law_carts","_law_later","_law_some","_law_outs_here","_law_spots","_law_j","_law_out"] ["_law_script","_law_k","_law_names","_law_carts"] (cS DQ):=cH
def oB:GS:=(aW (aF 9 (gB bu (aa 5) (dX j_ (ao (aa 0) (ao (gB bq (gC (.int 6)) (aa 1)) (ao (gB bq (gC (.int 1)) (aa 8)) (ao (gO gj (ao (aa 5) gN)) gN)))))))
 (bQ (gT (gB (a_ true) (aa 9) (aa 6)))
  (iO (jD uQ (aa 6) (ao (gB oMod (gB oMod (gB lJ (aa 7) (gB bu (gS .lst (ao (gC (.int 1)) (ao (gC (.int 4)) (ao (gC (.int 16)) gN)))) (aa 8))) (gC (.int 4))) (gB bq (gO gj (ao (aa 6) gN)) (gC (.int 1)))) (ao (aa 9) gN))))
  aQ))
def oW:GS:=(bQ (gR (gT (gB (a_ true) (gB bu (aa 3) (gC (.int 0))) (aa 6))) (gT (gB oEq (gO gj (ao (jZ (uA 6 [4]) (aX 0) (gT (gB (a_ false) (aa 0) (aa 1))) (aa 0) 1 [4]) gN)) (gC (.int 0)))))
  (iO (jD uQ (aa 6) (ao (dX j_ (ao (aa 0) (ao (gB bq (gC (.int 1)) (aa 1)) (ao (gC (.int 3)) (ao (gB bq (gO gj (ao (aa 6) gN)) (gC (.int 1))) gN))))) (ao (gB bu (aa 3) (gC (.int 0))) gN))))
  aQ)
def HI:GS:=(aW (aF 4 (gF (yB (aa 2) (AN (gB bq (aa 1) (gC (.int 1)))) Ep)))
 (aW (aF 5 (gF (gB bq (aa 4) (aa 3))))
 (aW (aF 6 (gS .lst gN))
 (aW (aF 7 (dX oA (ao (aa 0) (ao (gB bq (gC (.int 1)) (aa 1)) (ao (gC (.int 64)) gN)))))
 (aW (yd (ao (gB bq (gC (.int 1)) (dX oC (ao (aa 0) (ao (gB bq (gC (.int 6)) (aa 1)) (ao (gC (.int 3)) gN))))) gN) (aX 8) oB)
 (aW oW (aR (ji (aa 6)))))))))
def yi:GM:=runM 10 [false,false,false,false] HI
variable(P w K mg base t)in
abbrev MG:Prop:=aT P w K mg base dz 4 t.yT t.Bh ["_law_script","_law_k","_law_names","_law_carts"] (dB K 4 yi)
theorem Ss(T:Txt K mg t)(qF:v8 P w K mg base t)(sO:yh P w K mg base t)(t7:x_ P w K mg base t):MG P w K mg base t:=
 hE (k:=3) [false,false,false,false] HI T.F17.fn dH rfl rfl (by decide) λcL A outer s H E hr=>(by
  have de:=qv hr;have ax:=jC hr;exact⟨_,(bf (dM (i:=4) dH.nd rfl (Or.inr rfl) (cW (Mo (ak 2) (Nc (cq (eQ K) eT (ak 1) dI)) Nb)))
   (bf (dM (i:=5) dH.nd rfl (Or.inl rfl) (cW (cq (eQ K) eT (ak 4) (ak 3))))
   (bf (dM (i:=6) dH.nd rfl (Or.inl rfl) (pI aM))
   (bf (dM (i:=7) dH.nd rfl (Or.inl rfl) (gv T.F15 t7 hr.le (aw (ak 0) (aw (cq (eQ K) eT dI (ak 1)) (aw dI aM))) (aN (aN (aN cO)))))
   (bf (Dy PassesOwn.never T.fK (aw (cq (eQ K) eT dI (gv T.F13 sO hr.le (aw (ak 0) (aw (cq (eQ K) eT dI (ak 1)) (aw dI aM))) (aN (aN (aN cO))))) aM) (fg (i:=8) dH.nd rfl (Or.inl rfl)) fm
   (bf (dM (i:=9) dH.nd rfl (Or.inl rfl) (bY (by exact ax) (ak 5) (gv T.F12 qF hr.le (aw (ak 0) (aw (cq (eQ K) eT dI (ak 1)) (aw (cq (eQ K) eT dI (ak 8)) (aw (i9 (mI K) mO T.dO mL (aw (ak 5) aM)) aM)))) (aN (aN (aN (aN cO)))))))
   (bV (gz (fX (sr K (by exact ax)) (kT true) (ak 9) (ak 6))
   (bV (jS (uT PySem.F.slot_list_insert PySem.F.type_list_insert LH LR (ak 6) (aw (cq oG oH (cq oG oH (cq Aq Au (ak 7) (bY (by exact ax) (pI (aw dI (aw dI (aw dI aM)))) (ak 8))) dI) (cq (eQ K) eT (i9 (mI K) mO T.dO mL (aw (ak 6) aM)) dI)) (aw (ak 9) aM)))))
   gM))))
   (bf (gz (PW.pt (sF (fX (sr K (by exact ax)) (kT true) (bY (by exact ax) (ak 3) dI) (ak 6)) (yk (fX (mN K (by exact de)) mR (i9 (mI K) mO T.dO mL (aw (sE Vj (k:=1) (aL:=[4]) fm (M:=["_law_out","_law_later"]) (bJ.of (cS DQ).names ["_law_script","_law_k","_law_names","_law_carts","_law_later","_law_some","_law_outs_here","_law_spots","_law_j","_law_out"] (by decide +kernel)) (qX K (pv 6))
    (λ_ _ _ _=>(fg (i:=0) (show List.Nodup (["_law_out","_law_later"]:List Str) by decide +kernel) rfl (Or.inl rfl))) (λ_ _ _ _=>(Ax (fX (qB K (by exact ax)) (kT false) (ak 0) (ak 1)))) (λ_ _ _ _=>(ak 0))) aM)) dI))))
   (bV (jS (uT PySem.F.slot_list_insert PySem.F.type_list_insert LH LR (ak 6) (aw (gv T.F12 qF hr.le (aw (ak 0) (aw (cq (eQ K) eT dI (ak 1)) (aw dI (aw (cq (eQ K) eT (i9 (mI K) mO T.dO mL (aw (ak 6) aM)) dI) aM)))) (aN (aN (aN (aN cO))))) (aw (bY (by exact ax) (ak 3) dI) aM)))))
   gM)
   (bV (gp (As (ak 6)))))))))),rfl⟩)
theorem cY:aB ["_law_script","_law_k","_law_house_here","_law_rows","_law_moves_here","_law_taken","_law_marks","_law_j","_law_goals_here","_law_goal"] ["_law_script","_law_k","_law_house_here","_law_rows"] (cS DD):=cH
def xt:GS:=(bQ (gR (gT (gB oEq (gB oMod (gB lJ (aa 6) (gB Co (gC (.int 1)) (aa 7))) (gC (.int 2))) (gC (.int 1)))) (gT (gB (a_ true) (aa 9) (aa 5))))
  (aW (iO (jD qx (aa 4) (ao (gF (gS .tup (ao (gB bu (gB bu (aa 3) (aa 7)) (gC (.int 0))) (ao (aa 9) gN)))) gN)))
 (bQ (gT (gB (a_ true) (aa 9) (gB bu (aa 2) (gC (.int 1)))))
  (iO (jD qx (aa 5) (ao (aa 9) gN)))
  aQ))
  aQ)
def za:GS:=(aW (aF 8 (gF (bN zV (ao (aa 2) (ao (gB bu (gB bu (aa 3) (aa 7)) (gC (.int 2))) gN)))))
 (aW (aF 9 (gB bu (aa 8) (gB oMod (gB lJ (dX oA (ao (aa 0) (ao (gB bq (aa 1) (gC (.int 1))) (ao (gC (.int 64)) gN)))) (gB bq (aa 7) (gC (.int 1)))) (gO gj (ao (aa 8) gN))))) xt))
def Hh:GS:=(aW (aF 4 (gS .lst gN))
 (aW (aF 5 (jZ (jH (aa 3)) (aX 0) cX (gB bu (aa 0) (gC (.int 2))) 1 []))
 (aW (aF 6 (gF (gB bq (dX oC (ao (aa 0) (ao (gB bq (aa 1) (gC (.int 1))) (ao (gC (.int 64)) gN)))) (gB eC (gC (.int 64)) (dX nN (ao (aa 0) (ao (gB bq (aa 1) (gC (.int 1))) (ao (gC (.int 64)) gN))))))))
 (aW (yd (ao (gO gj (ao (aa 3) gN)) gN) (aX 7) za)
 (aR (ji (aa 4)))))))
def zY:GM:=runM 10 [false,false,false,false] Hh
variable(P w K mg base t)in
abbrev L7:Prop:=aT P w K mg base dz 4 t.yW t.Bl ["_law_script","_law_k","_law_house_here","_law_rows"] (dB K 4 zY)
theorem Ri(T:Txt K mg t)(YG:L3 P w K mg base t)(t6:zX P w K mg base t)(sO:yh P w K mg base t)(t7:x_ P w K mg base t):L7 P w K mg base t:=
 hE (k:=3) [false,false,false,false] Hh T.F21.fn cY rfl rfl (by decide) λcL A outer s H E hr=>(by
  have de:=qv hr;have ax:=jC hr;exact⟨_,(bf (dM (i:=4) cY.nd rfl (Or.inl rfl) (pI aM))
   (bf (Nf (i:=5) sx (k:=1) (aL:=[]) fm (M:=["_law_row"]) (bJ.of (cS DD).names ["_law_script","_law_k","_law_house_here","_law_rows","_law_moves_here","_law_taken","_law_marks","_law_j","_law_goals_here","_law_goal"] (by decide +kernel)) cY.nd rfl (Or.inl rfl) (qX K (cW (ak 3)))
    (λ_ _ _ _=>(fg (i:=0) (show List.Nodup (["_law_row"]:List Str) by decide +kernel) rfl (Or.inl rfl))) (λ_ _ _ _=>qY) (λ_ _ _ _=>(bY (by exact ax) (ak 0) dI)))
   (bf (dM (i:=6) cY.nd rfl (Or.inl rfl) (cW (cq (eQ K) eT (gv T.F13 sO hr.le (aw (ak 0) (aw (cq (eQ K) eT (ak 1) dI) (aw dI aM))) (aN (aN (aN cO)))) (cq qw qA dI (gv T.F14 t6 hr.le (aw (ak 0) (aw (cq (eQ K) eT (ak 1) dI) (aw dI aM))) (aN (aN (aN cO))))))))
   (bf (Dy PassesOwn.never T.fK (aw (i9 (mI K) mO T.dO mL (aw (ak 3) aM)) aM) (fg (i:=7) cY.nd rfl (Or.inl rfl)) fm
   (bf (dM (i:=8) cY.nd rfl (Or.inl rfl) (cW (kN T.F20 YG hr.le (aw (ak 2) (aw (bY (by exact ax) (bY (by exact ax) (ak 3) (ak 7)) dI) aM)) (aN (aN cO)))))
   (bf (dM (i:=9) cY.nd rfl (Or.inl rfl) (bY (by exact ax) (ak 8) (cq oG oH (cq Aq Au (gv T.F15 t7 hr.le (aw (ak 0) (aw (cq (eQ K) eT (ak 1) dI) (aw dI aM))) (aN (aN (aN cO)))) (cq (eQ K) eT (ak 7) dI)) (i9 (mI K) mO T.dO mL (aw (ak 8) aM)))))
   (bV (gz (PW.pt (sF (fX (mN K (by exact de)) mR (cq oG oH (cq Aq Au (ak 6) (cq WC W9 dI (ak 7))) dI) dI) (yk (fX (sr K (by exact ax)) (kT true) (ak 9) (ak 5)))))
   (bf (jS (uT PySem.F.slot_list_append PySem.F.type_list_append zP zQ (ak 4) (aw (cW (kQ (aw (bY (by exact ax) (bY (by exact ax) (ak 3) (ak 7)) dI) (aw (ak 9) aM)))) aM)))
   (bV (gz (fX (sr K (by exact ax)) (kT true) (ak 9) (bY (by exact ax) (ak 2) dI))
   (bV (jS (uT PySem.F.slot_list_append PySem.F.type_list_append zP zQ (ak 5) (aw (ak 9) aM))))
   gM)))
   gM)))))
   (bV (gp (As (ak 4)))))))),rfl⟩)
theorem cz:aB ["_law_script","_law_names","_law_carts","_law_belts","_law_k","_law_ring","_law_long"] ["_law_script"] (cS zS):=cH
def yZ:GS:=(bQ (gR (gT (gB oEq (aa 4) (gC (.int 0)))) (gR (gT (gB oLt (gO gj (ao (aa 1) gN)) (gC (.int 3)))) (gT (gB oEq (dX oA (ao (aa 0) (ao (gC (.int 0)) (ao (gC (.int 3)) gN)))) (gC (.int 1))))))
  (aF 6 (gF (gB bq (gC (.int 10)) (dX j_ (ao (aa 0) (ao (gC (.int 0)) (ao (gC (.int 3)) (ao (gC (.int 14)) gN))))))))
  aQ)
def Jw:GS:=(bQ (dc (aa 5))
  (aF 6 (gF (gB bq (aa 6) (gC (.int 1)))))
  aQ)
def hA:GS:=(iO (jD qx (aa 3) (ao (gF (gS .tup (ao (gB bu (aa 1) (aa 4)) (ao (aa 6) (ao (aa 5) (ao (gF (bN yi (ao (aa 0) (ao (aa 4) (ao (aa 1) (ao (aa 2) gN)))))) gN)))))) gN)))
def hB:GS:=(aW (aF 5 (gB oEq (dX oC (ao (aa 0) (ao (gB bq (gC (.int 1)) (aa 4)) (ao (gC (.int 3)) gN)))) (gC (.int 0))))
 (aW (aF 6 (gF (gB bq (gC (.int 1)) (dX nN (ao (aa 0) (ao (gB bq (gC (.int 1)) (aa 4)) (ao (gC (.int 5)) gN)))))))
 (aW yZ (aW Jw hA))))
def cN:GE:=jZ (lO (ao (gB bq (gC (.int 1)) (dX oC (ao (aa 0) (ao (gC (.int 0)) (ao (gC (.int 5)) gN))))) gN)) (aX 0) cX (dX mJ (ao (aa 1) (ao (gC (.int 11)) (ao (aa 0) gN)))) 1 [0]
def cC:GE:=jZ (lO (ao (gB bq (gC (.int 1)) (dX nN (ao (aa 0) (ao (gC (.int 0)) (ao (gC (.int 4)) gN))))) gN)) (aX 0) cX (dX mJ (ao (aa 1) (ao (gC (.int 11)) (ao (gB bq (gC (.int 10)) (aa 0)) gN)))) 1 [0]
def Hi:GS:=(aW (aF 1 (gF cN)) (aW (aF 2 (gF cC)) (aW (aF 3 (gS .lst gN)) (aW (yd (ao (gO gj (ao (aa 1) gN)) gN) (aX 4) hB)
 (aR (gS .tup (ao (ji (aa 3)) (ao (aa 2) gN))))))))
def yc:GM:=runM 7 [false] Hi
variable(P w K mg base t)in
abbrev L8:Prop:=aT P w K mg base dz 5 t.yU t.Bi ["_law_script"] (dB K 1 yc)
theorem Rj(T:Txt K mg t)(qF:v8 P w K mg base t)(ET:HH P w K mg base t)(t6:zX P w K mg base t)(YE:MG P w K mg base t)(sO:yh P w K mg base t)(t7:x_ P w K mg base t):L8 P w K mg base t:=
 hE (k:=4) [false] Hi T.F18.fn cz rfl rfl (by decide) λcL A outer s H E hr=>(by
  have de:=qv hr;have ax:=jC hr;exact⟨_,(bf (DM (i:=1) IE (k:=1) (aL:=[0]) fm (M:=["_law_k","_law_script"]) (bJ.of (cS zS).names ["_law_script","_law_names","_law_carts","_law_belts","_law_k","_law_ring","_law_long"] (by decide +kernel)) cz.nd rfl (Or.inl rfl) (Dx (by rfl) T.fK (aw (cq (eQ K) eT dI (gv T.F13 sO hr.le (aw (ak 0) (aw dI (aw dI aM))) (aN (aN (aN cO))))) aM))
    (λ_ _ _ _=>(fg (i:=0) (show List.Nodup (["_law_k","_law_script"]:List Str) by decide +kernel) rfl (Or.inl rfl))) (λ_ _ _ _=>qY) (λ_ _ _ _=>(gv T.F16 ET hr.le (aw (ak 1) (aw dI (aw (ak 0) aM))) (aN (aN (aN cO))))))
   (bf (DM (i:=2) IE (k:=1) (aL:=[0]) fm (M:=["_law_k","_law_script"]) (bJ.of (cS zS).names ["_law_script","_law_names","_law_carts","_law_belts","_law_k","_law_ring","_law_long"] (by decide +kernel)) cz.nd rfl (Or.inl rfl) (Dx (by rfl) T.fK (aw (cq (eQ K) eT dI (gv T.F14 t6 hr.le (aw (ak 0) (aw dI (aw dI aM))) (aN (aN (aN cO))))) aM))
    (λ_ _ _ _=>(fg (i:=0) (show List.Nodup (["_law_k","_law_script"]:List Str) by decide +kernel) rfl (Or.inl rfl))) (λ_ _ _ _=>qY) (λ_ _ _ _=>(gv T.F16 ET hr.le (aw (ak 1) (aw dI (aw (cq (eQ K) eT dI (ak 0)) aM))) (aN (aN (aN cO))))))
   (bf (dM (i:=3) cz.nd rfl (Or.inl rfl) (pI aM))
   (bf (Dy PassesOwn.never T.fK (aw (i9 (mI K) mO T.dO mL (aw (ak 1) aM)) aM) (fg (i:=4) cz.nd rfl (Or.inl rfl)) fm
   (bf (dM (i:=5) cz.nd rfl (Or.inl rfl) (tU (mN K (by exact de)) mR (gv T.F13 sO hr.le (aw (ak 0) (aw (cq (eQ K) eT dI (ak 4)) (aw dI aM))) (aN (aN (aN cO)))) dI))
   (bf (dM (i:=6) cz.nd rfl (Or.inl rfl) (cW (cq (eQ K) eT dI (gv T.F14 t6 hr.le (aw (ak 0) (aw (cq (eQ K) eT dI (ak 4)) (aw dI aM))) (aN (aN (aN cO)))))))
   (bf (gz (PW.pt (sF (fX (mN K (by exact de)) mR (ak 4) dI) (sF (fX yH yI (i9 (mI K) mO T.dO mL (aw (ak 1) aM)) dI) (yk (fX (mN K (by exact de)) mR (gv T.F15 t7 hr.le (aw (ak 0) (aw dI (aw dI aM))) (aN (aN (aN cO)))) dI)))))
   (bV (dM (i:=6) cz.nd rfl (Or.inl rfl) (cW (cq (eQ K) eT dI (gv T.F12 qF hr.le (aw (ak 0) (aw dI (aw dI (aw dI aM)))) (aN (aN (aN (aN cO)))))))))
   gM)
   (bf (gz (kb (ak 5))
   (bV (dM (i:=6) cz.nd rfl (Or.inl rfl) (cW (cq (eQ K) eT (ak 6) dI))))
   gM)
   (bV (jS (uT PySem.F.slot_list_append PySem.F.type_list_append zP zQ (ak 3) (aw (cW (kQ (aw (bY (by exact ax) (ak 1) (ak 4)) (aw (ak 6) (aw (ak 5) (aw (cW (kN T.F17 YE hr.le (aw (ak 0) (aw (ak 4) (aw (ak 1) (aw (ak 2) aM)))) (aN (aN (aN (aN cO)))))) aM)))))) aM)))))))))
   (bV (gp (kQ (aw (As (ak 3)) (aw (ak 2) aM))))))))),rfl⟩)
theorem Su:aB ["self","house","rounds"] ["self","house","rounds"] (cS HB):=cH
def HJ:GS:=(aW (iO (dX Dn (ao (aa 1) gN)))
 (aW (qp aq bO 0 0 (gF (bN DT (ao (aa 1) gN))))
 (aW (qp aq bO 0 1 (aa 2))
 (aW (qp aq bO 0 2 (gC (.int 0)))
 (aW (qp aq bO 0 3 rf)
 (aW (qp aq bO 0 4 rf)
 (aW (qp aq bO 0 5 rf)
 (aW (qp aq bO 0 6 rf)
 (aW (qp aq bO 0 7 rf)
 (aW (qp aq bO 0 8 (gS .lst gN))
 (qp aq bO 0 9 rf)))))))))))
def Ao:GM:=runM 3 [true,false,false] HJ
variable(P w K mg base t)in
abbrev MH:Prop:=aT P w K mg base dz 5 t.u7 t.yK ["self","house","rounds"] (dB K 3 Ao)
theorem Sv(T:Txt K mg t)(Jr:MD P w K mg base t)(g1:K5 P w K mg base t):MH P w K mg base t:=
 hE (k:=4) [true,false,false] HJ T.F24 Su rfl rfl (by decide) λcL A outer s H E hr=>(by
  exact⟨_,(bf (jS (gv T.F1 g1 hr.le (aw (ak 1) aM) (aN cO)))
   (bf (su (pv 0) (cW (kN T.F10 Jr hr.le (aw (ak 1) aM) (aN cO))) T.aE T.jq rfl gy (by decide))
   (bf (su (pv 0) (ak 2) T.aE T.kA rfl gy (by decide))
   (bf (su (pv 0) dI T.aE T.l8 rfl gy (by decide))
   (bf (su (pv 0) tM T.aE T.uj rfl gy (by decide))
   (bf (su (pv 0) tM T.aE T.rM rfl gy (by decide))
   (bf (su (pv 0) tM T.aE T.cf rfl gy (by decide))
   (bf (su (pv 0) tM T.aE T.fO rfl gy (by decide))
   (bf (su (pv 0) tM T.aE T.eX rfl gy (by decide))
   (bf (su (pv 0) (pI aM) T.aE T.lZ rfl gy (by decide))
   (bV (su (pv 0) tM T.aE T.gf rfl gy (by decide))))))))))))),rfl⟩)
theorem jF:aB ["_law_found","_law_due","_law_kind","_law_k"] ["_law_found","_law_due"] (cS HA):=cH
def sC(S:GM):GS:=(aW (bQ (dc (gO kD (ao (aa 1) (ao (gS .tup (ao (gC (.ty "tuple")) (ao (gC (.ty "list")) gN))) gN))))
  (aW (aF 2 (gF (t9 (dc (gO cM (ao (aa 1) (ao (gC (.ty "tuple")) gN)))) (gO cM (ao (aa 0) (ao (gC (.ty "tuple")) gN))) (gO cM (ao (aa 0) (ao (gC (.ty "list")) gN))))))
 (aW (bQ (lh (ez (dc (aa 2))) (gT (gB rP (gO gj (ao (aa 0) gN)) (gO gj (ao (aa 1) gN)))))
  (aR (gC (.bl false)))
  aQ)
 (aW (yd (ao (gO gj (ao (aa 1) gN)) gN) (aX 3)
  (bQ (ez (dc (dX S (ao (gB bu (aa 0) (aa 3)) (ao (gB bu (aa 1) (aa 3)) gN)))))
  (aR (gC (.bl false)))
  aQ))
 (aR (gC (.bl true))))))
  aQ)
 (aW (bQ (gT (gB (l_ false) (aa 1) (gC .aI)))
  (aR (gB (l_ false) (aa 0) (gC .aI)))
  aQ)
 (aW (bQ (dc (gO cM (ao (aa 1) (ao (gC (.ty "str")) gN))))
  (aR (kj (gO cM (ao (aa 0) (ao (gC (.ty "str")) gN))) (gB oEq (aa 0) (aa 1))))
  aQ)
 (aR (kj (gO cM (ao (aa 0) (ao (gC (.ty "int")) gN))) (kj (rD (gO cM (ao (aa 0) (ao (gC (.ty "bool")) gN)))) (gB oEq (aa 0) (aa 1))))))))
def iN:Nat->GM
 |0=>λ_=>none
 |n+1=>runM 4 [false,false] (sC (iN n))
theorem Lj(T:Txt K mg t):∀n:Nat,aT P w K mg base dz (1+n) t.u0 t.wK ["_law_found","_law_due"] (dB K 2 (iN n))
 |0=>VE
 |n+1=>by
  have vU:=Lj T n;exact hE (k:=1+n) [false,false] (sC (iN n)) T.F19.fn jF rfl rfl (by decide) λcL A outer s H E hr=>(by
   have de:=qv hr;have ax:=jC hr;exact⟨_,(bf (gz (kb (i9 (R9 K) VH T.bh ra (aw (ak 1) (aw (kQ (aw (iy (d:=.ty "tuple") (qE (by rfl) T.j0 DI)) (aw (iy (d:=.ty "list") (qE (by rfl) T.hX uP)) aM))) aM))))
   (bf (dM (i:=2) jF.nd rfl (Or.inl rfl) (cW (EG (kb (i9 (sk K) sG T.bh ra (aw (ak 1) (aw (iy (d:=.ty "tuple") (qE (by rfl) T.j0 DI)) aM)))) (i9 (sk K) sG T.bh ra (aw (ak 0) (aw (iy (d:=.ty "tuple") (qE (by rfl) T.j0 DI)) aM))) (i9 (sk K) sG T.bh ra (aw (ak 0) (aw (iy (d:=.ty "list") (qE (by rfl) T.hX uP)) aM))))))
   (bf (gz (PW.pt (wH (pJ (kb (ak 2))) (yz (fX (W6 K (by exact de)) W7 (i9 (mI K) mO T.dO mL (aw (ak 0) aM)) (i9 (mI K) mO T.dO mL (aw (ak 1) aM))))))
   (bV (gp (iy (d:=.bl false) qD)))
   gM)
   (bf (Dy PassesOwn.never T.fK (aw (i9 (mI K) mO T.dO mL (aw (ak 1) aM)) aM) (fg (i:=3) jF.nd rfl (Or.inl rfl)) fm
   (bV (gz (pJ (kb (gv T.F19 vU hr (aw (bY (by exact ax) (ak 0) (ak 3)) (aw (bY (by exact ax) (ak 1) (ak 3)) aM)) (aN (aN cO)))))
   (bV (gp (iy (d:=.bl false) qD)))
   gM)))
   (bV (gp (iy (d:=.bl true) qD))))))
   gM)
   (bf (gz (fX N3 (IU false) (ak 1) (iy (d:=.aI) yy))
   (bV (gp (tU N3 (IU false) (ak 0) (iy (d:=.aI) yy))))
   gM)
   (bf (gz (kb (i9 (sk K) sG T.bh ra (aw (ak 1) (aw (iy (d:=.ty "str") (qE (by rfl) T.rA Iy)) aM))))
   (bV (gp (AH (i9 (sk K) sG T.bh ra (aw (ak 0) (aw (iy (d:=.ty "str") (qE (by rfl) T.rA Iy)) aM))) (IA (tU (mN K (by exact de)) mR (ak 0) (ak 1))))))
   gM)
   (bV (gp (AH (i9 (sk K) sG T.bh ra (aw (ak 0) (aw (iy (d:=.ty "int") (qE (by rfl) T.uW NW)) aM))) (AH (WV (i9 (sk K) sG T.bh ra (aw (ak 0) (aw (iy (d:=.ty "bool") (qE (by rfl) T.wD UZ)) aM)))) (IA (tU (mN K (by exact de)) mR (ak 0) (ak 1)))))))))),rfl⟩)
theorem Sw(T:Txt K mg t):aT P w K mg base dz 9 t.u0 t.wK ["_law_found","_law_due"] (dB K 2 (iN 8)):=Lj T 8
theorem cQ:aB ["_law_script","_law_house_here","_law_hall","_law_rows","_law_gone","_law_k","_law_belt","_law_many","_law_free","_law_bag","_law_moves_here","_law_moment","_law_row"] ["_law_script"] (cS Bj):=cH
def p1:GS:=aF 6 (gB bu (gB bu (gB bu (aa 1) (gC (.int 0))) (dX oC (ao (aa 0) (ao (aa 5) (ao (gO gj (ao (gB bu (aa 1) (gC (.int 0))) gN)) gN))))) (gC (.int 0)))
def p2:GS:=aF 7 (gF (gB bq (gO gj (ao (aa 3) gN)) (gO gj (ao (aa 4) gN))))
def p3:GS:=aF 8 (gB (a_ true) (gF (gS .tup (ao (aa 6) (ao (gC (.int 0)) gN)))) (jZ (jH (aa 3)) (aX 0) cX (gB bu (aa 0) (gC (.int 2))) 1 []))
def Fb:GT:=gR (gT (gB oEq (dX oA (ao (aa 0) (ao (aa 5) (ao (gC (.int 3)) gN)))) (gC (.int 0)))) (gR (dc (aa 8)) (gR (gT (gB oLt (gO gj (ao (aa 3) gN)) (gC (.int 8)))) (gT (gB oLt (aa 7) (gC (.int 20))))))
def Fc:GS:=(aW (aF 9 (dX mJ (ao (aa 0) (ao (gC (.int 12)) (ao (aa 7) gN)))))
 (aW (iO (c7 yu aq bO 2 (ao (aa 9) (ao (gC .aI) (ao (aa 6) gN)))))
 (aF 3 (gF (bN v7 (ao (aa 1) (ao (gF (gB bq (aa 3) (gS .lst (ao (gF (gS .tup (ao (aa 9) (ao (gC .aI) (ao (gF (gS .tup (ao (aa 6) (ao (gC (.int 0)) gN)))) (ao (gC (.int 0)) gN)))))) gN)))) (ao (gF (gS .lst gN)) gN))))))))
def p4:GS:=bQ Fb Fc aQ
def p5:GS:=aF 10 (gF (bN zY (ao (aa 0) (ao (aa 5) (ao (aa 1) (ao (aa 3) gN))))))
def p6:GS:=aF 11 (gF (c7 tK aq bO 2 gN))
def p7:GS:=iO (c7 An aq bO 2 (ao (gF (gO iS (ao (aa 10) gN))) gN))
def p8:GS:=aF 3 (gF (bN v7 (ao (aa 1) (ao (aa 3) (ao (aa 10) gN)))))
abbrev AX:GT:=(gT (gB (a_ false) (aa 1) (gB bu (aa 3) (gC (.int 1)))))
abbrev AV:GE:=(gF (gS .tup (ao (aa 0) (ao (aa 1) (ao (gF (gB bq (aa 2) (gC (.int 1)))) gN)))))
def p9:GS:=aF 4 (gF (gB bq (aa 4) (jZ (jH (aa 10)) (cT [(aX 0),(aX 1)]) AX AV 2 [11,1])))
def Kb:GS:=(bQ (lh (ez (dc (dX (iN 8) (ao (c7 tK aq bO 2 gN) (ao (gB bq (aa 11) (gC (.int 1))) gN))))) (ez (dc (dX (iN 8) (ao (c7 Am aq bO 2 gN) (ao (aa 3) gN))))))
  (aR (gC (.bl false)))
  aQ)
def Kc:GS:=(bQ (ez (dc (dX (iN 8) (ao (c7 yt aq bO 2 gN) (ao (aa 4) gN)))))
  (aR (gC (.bl false)))
  aQ)
def uv:GS:=(bQ (ez (dc (dX (iN 8) (ao (c7 yb aq bO 2 (ao (gB bu (aa 12) (gC (.int 0))) gN)) (ao (gB bu (aa 12) (gC (.int 2))) gN)))))
  (aR (gC (.bl false)))
  aQ)
abbrev E8:GS:=aW p5 (aW p6 (aW p7 (aW p8 (aW p9 (aW Kb (aW Kc (eA (aa 3) (aX 12) uv)))))))
def Fo:GS:=aW p1 (aW p2 (aW p3 (aW p4 E8)))
def IX:GS:=(aW (aF 1 (gF (bN yc (ao (aa 0) gN))))
 (aW (aF 2 (oP Ao aq bO (ao (aa 1) (ao (gC (.int 2)) gN))))
 (aW (aF 3 (gF (gS .lst gN)))
 (aW (aF 4 (gF (gS .lst gN)))
 (aW (IK (ao (gC (.int 15)) (ao (gB bq (gC (.int 23)) (gB eC (gC (.int 2)) (dX nN (ao (aa 0) (ao (gC (.int 14)) (ao (gC (.int 20)) gN)))))) (ao (gC (.int 2)) gN))) (aX 5) Fo)
 (aR (gC (.bl true))))))))
def EJ:GM:=runM 13 [false] IX
theorem Xa(T:Txt K mg t)(YI:MH P w K mg base t)(YM:ME P w K mg base t)(OQ:Lv P w K mg base t)(YR:MF P w K mg base t)(YN:Ny P w K mg base t)(YJ:Nz P w K mg base t)(YO:L6 P w K mg base t)(YF:L8 P w K mg base t)(OP:L4 P w K mg base t)(YH:L7 P w K mg base t)(ET:HH P w K mg base t)(t6:zX P w K mg base t)(sO:yh P w K mg base t)(EU:aT P w K mg base dz 9 t.u0 t.wK ["_law_found","_law_due"] (dB K 2 (iN 8)))(t7:x_ P w K mg base t):aT P w K mg base dz 10 t.yY t.yJ ["_law_script"] (dB K 1 EJ):=
 hE (k:=9) [false] IX T.F23.fn cQ rfl rfl (by decide) λcL A outer s H E hr=>(by
  have de:=qv hr;have ax:=jC hr;exact⟨_,(bf (dM (i:=1) cQ.nd rfl (Or.inr rfl) (cW (kN T.F18 YF hr.le (aw (ak 0) aM) (aN cO))))
   (bf (dM (i:=2) cQ.nd rfl (Or.inl rfl) (VB T.tu T.uh YI T.PL hr.le (aw (ak 1) (aw dI aM)) (aN (aN cO))))
   (bf (dM (i:=3) cQ.nd rfl (Or.inl rfl) (cW (pI aM)))
   (bf (dM (i:=4) cQ.nd rfl (Or.inl rfl) (cW (pI aM)))
   (bf (VW PassesOwn.never T.fK (aw dI (aw (cq (eQ K) eT dI (cq qw qA dI (gv T.F14 t6 hr.le (aw (ak 0) (aw dI (aw dI aM))) (aN (aN (aN cO)))))) (aw dI aM))) (fg (i:=5) cQ.nd rfl (Or.inl rfl)) fm
   (bf (dM (i:=6) cQ.nd rfl (Or.inl rfl) (bY (by exact ax) (bY (by exact ax) (bY (by exact ax) (ak 1) dI) (gv T.F13 sO hr.le (aw (ak 0) (aw (ak 5) (aw (i9 (mI K) mO T.dO mL (aw (bY (by exact ax) (ak 1) dI) aM)) aM))) (aN (aN (aN cO))))) dI))
   (bf (dM (i:=7) cQ.nd rfl (Or.inl rfl) (cW (cq (eQ K) eT (i9 (mI K) mO T.dO mL (aw (ak 3) aM)) (i9 (mI K) mO T.dO mL (aw (ak 4) aM)))))
   (bf (dM (i:=8) cQ.nd rfl (Or.inl rfl) (tU (sr K (by exact ax)) (kT true) (cW (kQ (aw (ak 6) (aw dI aM)))) (sE sx (k:=1) (aL:=[]) fm (M:=["_law_row"]) (bJ.of (cS Bj).names ["_law_script","_law_house_here","_law_hall","_law_rows","_law_gone","_law_k","_law_belt","_law_many","_law_free","_law_bag","_law_moves_here","_law_moment","_law_row"] (by decide +kernel)) (qX K (cW (ak 3)))
    (λ_ _ _ _=>(fg (i:=0) (show List.Nodup (["_law_row"]:List Str) by decide +kernel) rfl (Or.inl rfl))) (λ_ _ _ _=>qY) (λ_ _ _ _=>(bY (by exact ax) (ak 0) dI)))))
   (bf (gz (PW.pt (sF (fX (mN K (by exact de)) mR (gv T.F15 t7 hr.le (aw (ak 0) (aw (ak 5) (aw dI aM))) (aN (aN (aN cO)))) dI) (sF (kb (ak 8)) (sF (fX yH yI (i9 (mI K) mO T.dO mL (aw (ak 3) aM)) dI) (yk (fX yH yI (ak 7) dI))))))
   (bf (dM (i:=9) cQ.nd rfl (Or.inl rfl) (gv T.F16 ET hr.le (aw (ak 0) (aw dI (aw (ak 7) aM))) (aN (aN (aN cO)))))
   (bf (jS (wm (pv 2) T.aE T.F25 YJ hr.le (by decide +kernel) (aw (ak 9) (aw (iy (d:=.aI) yy) (aw (ak 6) aM))) (aN (aN (aN cO)))))
   (bV (dM (i:=3) cQ.nd rfl (Or.inl rfl) (cW (kN T.F22 OP hr.le (aw (ak 1) (aw (cW (cq (eQ K) eT (ak 3) (pI (aw (cW (kQ (aw (ak 9) (aw (iy (d:=.aI) yy) (aw (cW (kQ (aw (ak 6) (aw dI aM)))) (aw dI aM)))))) aM)))) (aw (cW (pI aM)) aM))) (aN (aN (aN cO)))))))))
   gM)
   (bf (dM (i:=10) cQ.nd rfl (Or.inl rfl) (cW (kN T.F21 YH hr.le (aw (ak 0) (aw (ak 5) (aw (ak 1) (aw (ak 3) aM)))) (aN (aN (aN (aN cO)))))))
   (bf (dM (i:=11) cQ.nd rfl (Or.inr rfl) (cW (Aj (pv 2) T.aE T.F28 OQ hr.le (by decide +kernel))))
   (bf (jS (wm (pv 2) T.aE T.F33 YR hr.le (by decide +kernel) (aw (cW (xZ (Dl K) Ea T.hX uP (aw (ak 10) aM))) aM) (aN cO)))
   (bf (dM (i:=3) cQ.nd rfl (Or.inl rfl) (cW (kN T.F22 OP hr.le (aw (ak 1) (aw (ak 3) (aw (ak 10) aM))) (aN (aN (aN cO))))))
   (bf (dM (i:=4) cQ.nd rfl (Or.inl rfl) (cW (cq (eQ K) eT (ak 4) (sE sx (k:=2) (aL:=[11,1]) (wx (lB fm (lB fm wg))) (M:=["_law_bag","_law_goal","_law_moment","_law_house_here"]) (bJ.of (cS Bj).names ["_law_script","_law_house_here","_law_hall","_law_rows","_law_gone","_law_k","_law_belt","_law_many","_law_free","_law_bag","_law_moves_here","_law_moment","_law_row"] (by decide +kernel)) (qX K (cW (ak 10)))
    (λ_ _ _ _=>(wq rfl (lA (fg (i:=0) (show List.Nodup (["_law_bag","_law_goal","_law_moment","_law_house_here"]:List Str) by decide +kernel) rfl (Or.inl rfl)) (lA (fg (i:=1) (show List.Nodup (["_law_bag","_law_goal","_law_moment","_law_house_here"]:List Str) by decide +kernel) rfl (Or.inl rfl)) wd)))) (λ_ _ _ _=>(Ax (fX (qB K (by exact ax)) (kT false) (ak 1) (bY (by exact ax) (ak 3) dI)))) (λ_ _ _ _=>(cW (kQ (aw (ak 0) (aw (ak 1) (aw (cW (cq (eQ K) eT (ak 2) dI)) aM))))))))))
   (bf (gz (PW.pt (wH (pJ (kb (gv T.F19 EU hr.le (aw (Aj (pv 2) T.aE T.F28 OQ hr.le (by decide +kernel)) (aw (cq (eQ K) eT (ak 11) dI) aM)) (aN (aN cO))))) (yz (pJ (kb (gv T.F19 EU hr.le (aw (Aj (pv 2) T.aE T.F29 YM hr.le (by decide +kernel)) (aw (ak 3) aM)) (aN (aN cO))))))))
   (bV (gp (iy (d:=.bl false) qD)))
   gM)
   (bf (gz (pJ (kb (gv T.F19 EU hr.le (aw (Aj (pv 2) T.aE T.F30 YN hr.le (by decide +kernel)) (aw (ak 4) aM)) (aN (aN cO)))))
   (bV (gp (iy (d:=.bl false) qD)))
   gM)
   (bV (rh PassesOwn.never (ak 3) (fg (i:=12) cQ.nd rfl (Or.inl rfl)) fm
   (bV (gz (pJ (kb (gv T.F19 EU hr.le (aw (wm (pv 2) T.aE T.F31 YO hr.le (by decide +kernel) (aw (bY (by exact ax) (ak 12) dI) aM) (aN cO)) (aw (bY (by exact ax) (ak 12) dI) aM)) (aN (aN cO)))))
   (bV (gp (iy (d:=.bl false) qD)))
   gM))))))))))))))))
   (bV (gp (iy (d:=.bl true) qD)))))))),rfl⟩)
end
end Carry
namespace Carry
open PySem L2
variable{i:Nat}{n j k t mk now:Int}{l:PySem.W.OpenLaw}{xs ks outs:List Str}{y x:Str}{f:GS}{b:az}{h:aU}{w:World}{ns:List Int}{hd rj s md:D}{a4 a5 a6 a8 a9 a a2 a7 a10 a11 a12 a0 a1:Option O}{neg c:Bool}{ds:List D}{h2 ho:List O}{S:GM}{K:L2.FG}{U':Gm}{mg:Str->Option Value}{us:List Value}
theorem aY{α:Type _}{a:α}{l:List α}:(a::l)[0]?=some a:=rfl
theorem bx{α:Type _}{a:α}{l:List α}:(a::l)[i+1]?=l[i]?:=rfl
theorem bw{α:Type _}{a:α}{l:List α}:(a::l).length=l.length+1:=rfl
theorem bz{α:Type _}:([]:List α).length=0:=rfl
theorem bS{α:Type _}{x a:α}{l:List α}:(x::l).set 0 a=a::l:=rfl
theorem cG{α:Type _}{x a:α}{n:Nat}{l:List α}:(x::l).set (n+1) a=x::l.set n a:=rfl
theorem cu{α β:Type _}{f:α->β}{a:α}{l:List α}:(a::l).map f=f a::l.map f:=rfl
theorem cB{α β:Type _}{f:α->β}:([]:List α).map f=[]:=rfl
theorem dN{α:Type _}{a:α}:List.replicate 0 a=[]:=rfl
theorem gk{α:Type _}{a:α}{n:Nat}:List.replicate (n+1) a=a::List.replicate n a:=rfl
theorem eL{α:Type _}{a:α}{l:List α}:(a::l).take (i+1)=a::l.take i:=rfl
theorem gr{α:Type _}{a:α}{l r:List α}:(a::l)++r=a::(l++r):=rfl
theorem gI{α:Type _}(l:List α):[]++l=l:=rfl
theorem eM{α:Type _}{l:List α}:l.take 0=[]:=rfl
theorem dy:(false=true)=False:=uE
theorem bI(n:Nat):0+n=n:=Nat.zero_add n
theorem Sx(ns:List Int)(k v:Int)(h1:(k < (ns.length:Int))=True)(h2:dw (ns.map D.int) k=some (.int v)):qr [.Y (.aS ns),.Y (.int k)]=some (.Y (.int v),[none,none]):=by
 unfold qr DS;simp only[eF,cu,cB,bw,bz,bI,Nat.reduceAdd,Nat.reduceSub,dN,d_,dJ,dr,cR,bL,bc,ba,bx,aY,↓ah,bj,bD,bF,bC,kc,bP,Nl,↓evMap,iW,h1,decide_true,if_true,gx,dA,N5,h2,dD,iu,eL,eM,fJ,eJ]
theorem Sy(ns:List Int)(k:Int)(h1:(k < (ns.length:Int))=False):qr [.Y (.aS ns),.Y (.int k)]=some (.Y (.int 0),[none,none]):=by
 unfold qr DS;simp only[eF,cu,cB,bw,bz,bI,Nat.reduceAdd,Nat.reduceSub,dN,d_,dJ,dr,cR,bL,bc,ba,bx,aY,↓ah,bj,bD,bF,bC,kc,bP,Nl,↓evMap,iW,h1,decide_false,if_true,dy,gx,dA,N5,dD,if_false,bU,iu,eL,eM,fJ,eJ]
theorem Oi(ns:List Int)(k:Nat):∃v,qr [.Y (.aS ns),.Y (.int k)]=some (.Y (.int v),[none,none]):=by
 by_cases h:k < ns.length
 ·exact⟨_,Sx ns k _ (eq_true (by lia)) (qt (by rw[iz,jW h];rfl))⟩
 ·exact⟨_,Sy ns k (eq_false (by lia))⟩
noncomputable abbrev Pn:List O:=[.Y (.int 2),.Y (.int 128),.Y (.int 8192),.Y (.int 524288),.Y (.int 33554432)]
theorem IV(ns:List Int)(k a many c0 c d:Int)(h0:qr [.Y (.aS ns),.Y (.int 0)]=some (.Y (.int c0),[none,none]))(hk:qr [.Y (.aS ns),.Y (.int k)]=some (.Y (.int c),[none,none]))(e:(c0 % 2 == 1)=true)
  (ha:dw Pn a=some (.Y (.int d))) (d0:(0 < d)=True) (d1:(d < 1073741824)=True) (m0:(0 < many)=True):j_ [.Y (.aS ns),.Y (.int k),.Y (.int a),.Y (.int many)]=some (.Y (.int (c / d % 64 % many)),[none,none,none,none]):=by
 unfold j_ DF;simp only[eF,cu,cB,bw,bz,bI,Nat.reduceAdd,Nat.reduceSub,gk,dN,gr,gI,dJ,ef,gw,bc,ba,aY,↓ah,bx,bj,bD,bF,bC,du,bP,dt,hk,ka,Nat.reduceLT,cG,bS,if_true,dr,cR,bL,bU,h0,iW,Int.reduceLT,decide_true,iQ,kO,and_self,kR,e,gx,fV,Nat.reduceLeDiff,fW,eS,dA,wy,ha,Af,d0,d1,m0,dD,iu,eL,eM,fJ,eJ]
theorem IW(ns:List Int)(k a many c0 c:Int)(h0:qr [.Y (.aS ns),.Y (.int 0)]=some (.Y (.int c0),[none,none]))(hk:qr [.Y (.aS ns),.Y (.int k)]=some (.Y (.int c),[none,none]))(e:(c0 % 2 == 1)=false)
  (k0:0<=k) (k1:k < 1000) (a0:0<=a) (a1:a < 1000) (m0:(0 < many)=True):∃v,j_ [.Y (.aS ns),.Y (.int k),.Y (.int a),.Y (.int many)]=some (.Y (.int (v % many)),[none,none,none,none]):=by
 have mk:((-(2 ^ 64) < k/\k < 2 ^ 64 \/ -(2 ^ 64) < k/\k < 2 ^ 64)=True):=eq_true (.inl ⟨by lia,by lia⟩)
 have m1:∀x:Int,(((-(2 ^ 64):Int) < 1009/\(1009:Int) < 2 ^ 64 \/ -(2 ^ 64) < x/\x < 2 ^ 64)=True):=λx=>eq_true (.inl ⟨by decide,by decide⟩)
 have m2:∀x:Int,((-(2 ^ 64) < x/\x < 2 ^ 64\/(-(2 ^ 64):Int) < 48271/\(48271:Int) < 2 ^ 64)=True):=λx=>eq_true (.inr ⟨by decide,by decide⟩)
 have m3:∀x:Int,(((-(2 ^ 64):Int) < 5/\(5:Int) < 2 ^ 64 \/ -(2 ^ 64) < x/\x < 2 ^ 64)=True):=λx=>eq_true (.inl ⟨by decide,by decide⟩)
 have m4:∀x:Int,(((-(2 ^ 64):Int) < 2/\(2:Int) < 2 ^ 64 \/ -(2 ^ 64) < x/\x < 2 ^ 64)=True):=λx=>eq_true (.inl ⟨by decide,by decide⟩)
 have m5:∀x:Int,((-(2 ^ 64) < x/\x < 2 ^ 64\/(-(2 ^ 64):Int) < 69621+2 * a/\69621+2 * a < 2 ^ 64)=True):=λx=>eq_true (.inr ⟨by lia,by lia⟩)
 refine⟨((c % 1000003+k * k+1009 * a+7) * 48271 % 999983+5 * k+a) * (69621+2 * a) % 1000033,?_⟩;unfold j_ DF;simp only[eF,cu,cB,bw,bz,bI,Nat.reduceAdd,Nat.reduceSub,gk,dN,gr,gI,dJ,ef,gw,bc,ba,aY,↓ah,bx,bj,bD,bF,bC,du,bP,dt,hk,ka,Nat.reduceLT,cG,bS,if_true,dr,cR,bL,bU,h0,iW,Int.reduceLT,decide_true,iQ,kO,and_self,kR,e,dy,gx,fV,Nat.reduceLeDiff,fW,eS,dA,wy,dD,if_false,Ee,mk,jB,m1,m2,m3,m4,m5,m0,iu,eL,eM,fJ,eJ]
def bM(ns:List Int)(k a:Nat)(many:Int):Int:=match j_ [.Y (.aS ns),.Y (.int k),.Y (.int a),.Y (.int many)] with
 |some (.Y (.int v),_)=>v
 |_=>0
theorem X1:∀a:Nat,a < 5->∃d:Int,dw Pn (a:Int)=some (.Y (.int d))/\0 < d/\d < 1073741824
 |0,_=>⟨2,rfl,by decide,by decide⟩
 |1,_=>⟨128,rfl,by decide,by decide⟩
 |2,_=>⟨8192,rfl,by decide,by decide⟩
 |3,_=>⟨524288,rfl,by decide,by decide⟩
 |4,_=>⟨33554432,rfl,by decide,by decide⟩
 |n+5,h=>absurd h (by lia)
theorem kW(ns:List Int)(k a:Nat)(many:Int)(hk:k < 1000)(ha:a < 5)(m0:0 < many):j_ [.Y (.aS ns),.Y (.int k),.Y (.int a),.Y (.int many)]=some (.Y (.int (bM ns k a many)),[none,none,none,none])/\0<=bM ns k a many/\bM ns k a many < many:=by
 obtain⟨c0,h0⟩:=Oi ns 0;obtain⟨c,h1⟩:=Oi ns k;obtain⟨v,e⟩:∃v,j_ [.Y (.aS ns),.Y (.int k),.Y (.int a),.Y (.int many)]=some (.Y (.int (v % many)),[none,none,none,none]):=by
  cases e:(c0 % 2 == 1) with
  |true=>
   obtain⟨d,d1,d2,d3⟩:=X1 a ha;exact⟨_,IV ns k a many c0 c d h0 h1 e d1 (eq_true d2) (eq_true d3) (eq_true m0)⟩
  |false=>exact IW ns k a many c0 c h0 h1 e (by lia) (by lia) (by lia) (by lia) (eq_true m0)
 have z:bM ns k a many=v % many:=by unfold bM;rw[e]
 rw[z];exact⟨e,Int.emod_nonneg _ (by lia),Int.emod_lt_of_pos _ m0⟩
theorem yG(ns:List Int)(k:Nat)(many:Int)(hk:k < 1000)(m0:0 < many):oC [.Y (.aS ns),.Y (.int k),.Y (.int many)]=some (.Y (.int (bM ns k 0 many)),[none,none,none]):=by
 have h:=(kW ns k 0 many hk (by decide) m0).1
 have h:j_ [.Y (.aS ns),.Y (.int k),.Y (.int 0),.Y (.int many)]=_:=h;unfold oC HE;simp only[eF,cu,cB,bw,bz,bI,Nat.reduceAdd,Nat.reduceSub,dN,d_,gx,gw,bc,ba,aY,↓ah,bx,bU,bj,bD,bF,bC,du,bP,dt,h,ka,iu,eL,eM,fJ,eJ,if_true]
theorem yv(ns:List Int)(k:Nat)(many:Int)(hk:k < 1000)(m0:0 < many):nN [.Y (.aS ns),.Y (.int k),.Y (.int many)]=some (.Y (.int (bM ns k 1 many)),[none,none,none]):=by
 have h:=(kW ns k 1 many hk (by decide) m0).1
 have h:j_ [.Y (.aS ns),.Y (.int k),.Y (.int 1),.Y (.int many)]=_:=h;unfold nN He;simp only[eF,cu,cB,bw,bz,bI,Nat.reduceAdd,Nat.reduceSub,dN,d_,gx,gw,bc,ba,aY,↓ah,bx,bU,bj,bD,bF,bC,du,bP,dt,h,ka,iu,eL,eM,fJ,eJ,if_true]
theorem AD(ns:List Int)(k:Nat)(many:Int)(hk:k < 1000)(m0:0 < many):oA [.Y (.aS ns),.Y (.int k),.Y (.int many)]=some (.Y (.int (bM ns k 2 many)),[none,none,none]):=by
 have h:=(kW ns k 2 many hk (by decide) m0).1
 have h:j_ [.Y (.aS ns),.Y (.int k),.Y (.int 2),.Y (.int many)]=_:=h;unfold oA Hf;simp only[eF,cu,cB,bw,bz,bI,Nat.reduceAdd,Nat.reduceSub,dN,d_,gx,gw,bc,ba,aY,↓ah,bx,bU,bj,bD,bF,bC,du,bP,dt,h,ka,iu,eL,eM,fJ,eJ,if_true]
noncomputable abbrev wb:Str:="abcdefghijklmnopqrstuvwxyz"
noncomputable abbrev jb:List Nat:=wb.cps.toList
theorem qJ:jb.length=26:=by decide +kernel
theorem NA:(wb.length<=1000000)=True:=eq_true (by decide +kernel)
theorem Xb:jb.Nodup:=by decide +kernel
theorem wc(k:Int)(h0:0<=k)(h1:k < 26):dw jb k=some (jb.getD k.toNat 0):=Tj 0 h0 (by rw[qJ];exact h1)
theorem Cc:∀i:Nat,i < 26->∀n:Nat,n < 9->MulOk ⟨#[jb.getD i 0]⟩ (n:Int):=by decide +kernel
theorem Cd:∀i:Nat,i < 26->∀n:Nat,n < 9->Txt.mul ⟨#[jb.getD i 0]⟩ (n:Int)=⟨(List.replicate n (jb.getD i 0)).toArray⟩:=by decide +kernel
theorem xr(i:Nat)(hi:i < 26)(n:Nat)(hn:n < 9):MulOk ⟨#[jb.getD i 0]⟩ (n:Int)/\Txt.mul ⟨#[jb.getD i 0]⟩ (n:Int)=⟨(List.replicate n (jb.getD i 0)).toArray⟩:=⟨Cc i hi n hn,Cd i hi n hn⟩
theorem NB(a b:List Nat):(⟨a.toArray⟩:Str)++(⟨b.toArray⟩:Str)=⟨(a++b).toArray⟩:=by
 show(⟨a.toArray++b.toArray⟩:Str)=_;rw[List.append_toArray]
theorem Cg(ns:List Int)(q n b m:Int)(c:Nat)(z:Str)(hp:oC [.Y (.aS ns),.Y (.int q),.Y (.int 26)]=some (.Y (.int b),[none,none,none]))(ho:nN [.Y (.aS ns),.Y (.int q),.Y (.int 3)]=some (.Y (.int 0),[none,none,none]))
  (BM:dw jb ((b+n / 8) % 26)=some c) (em:1+n % 8=m) (hm:MulOk ⟨#[c]⟩ m=True) (hz:Txt.mul ⟨#[c]⟩ m=z):mJ [.Y (.aS ns),.Y (.int q),.Y (.int n)]=some (.Y (.str z),[none,none,none]):=by
 unfold mJ DU;simp only[eF,cu,cB,bw,bz,bI,Nat.reduceAdd,Nat.reduceSub,gk,dN,gr,gI,dJ,ef,bU,↓ah,Nat.reduceLT,cG,bS,if_true,gw,bc,ba,aY,bx,bj,bD,bF,bC,du,bP,dt,hp,ka,dr,cR,bL,ho,iQ,kO,and_self,kR,beq_self_eq_true,gx,iW,Int.reduceLT,decide_true,jB,dA,N4,NA,BM,↓evMap,em,Ni,hm,hz,dD,iu,eL,eM,fJ,eJ]
theorem Ci(ns:List Int)(q n b v t sp r:Int)(cr cc:Nat)(z1 z2 z3 z4:Str)(hp:oC [.Y (.aS ns),.Y (.int q),.Y (.int 26)]=some (.Y (.int b),[none,none,none]))(ho:nN [.Y (.aS ns),.Y (.int q),.Y (.int 3)]=some (.Y (.int v),[none,none,none]))(hv:(v == 0)=false)
  (ht:oA [.Y (.aS ns),.Y (.int q),.Y (.int 8)]=some (.Y (.int t),[none,none,none])) (hs:nN [.Y (.aS ns),.Y (.int q),.Y (.int (1+t))]=some (.Y (.int sp),[none,none,none])) (hr:j_ [.Y (.aS ns),.Y (.int q),.Y (.int 3),.Y (.int 26)]=some (.Y (.int r),[none,none,none,none]))
  (Jz:dw jb r=some cr) (w_:dw jb ((7 * n+b) % 26)=some cc) (h7:((-(2 ^ 64):Int) < 7/\(7:Int) < 2 ^ 64 \/ -(2 ^ 64) < n/\n < 2 ^ 64)=True) (m1:MulOk ⟨#[cr]⟩ sp=True) (e1:Txt.mul ⟨#[cr]⟩ sp=z1) (m2:MulOk ⟨#[cr]⟩ (1+t - 1 - sp)=True) (e2:Txt.mul ⟨#[cr]⟩ (1+t - 1 - sp)=z2)
  (l1:(z1.length+(⟨#[cc]⟩:Str).length<=1000000)=True) (e3:z1++(⟨#[cc]⟩:Str)=z3) (l2:(z3.length+z2.length<=1000000)=True) (e4:z3++z2=z4):mJ [.Y (.aS ns),.Y (.int q),.Y (.int n)]=some (.Y (.str z4),[none,none,none]):=by
 unfold mJ DU;simp only[eF,cu,cB,bw,bz,bI,Nat.reduceAdd,Nat.reduceSub,gk,dN,gr,gI,dJ,ef,bU,↓ah,Nat.reduceLT,cG,bS,if_true,gw,bc,ba,aY,bx,bj,bD,bF,bC,du,bP,dt,hp,ka,dr,cR,bL,ho,iQ,kO,and_self,kR,hv,dy,gx,iW,Int.reduceLT,decide_true,jB,dA,N4,NA,↓evMap,dD,if_false,cI,ht,hs,hr,Jz,Ni,m1,e1,Ee,h7,w_,Vq,l1,e3,m2,e2,l2,e4,iu,eL,eM,fJ,eJ]
def sX(ns:List Int)(q n:Nat):List Nat:=if bM ns q 1 3=0 then List.replicate (1+n % 8) (jb.getD (((bM ns q 0 26).toNat+n / 8) % 26) 0)
 else List.replicate (bM ns q 1 (1+bM ns q 2 8)).toNat (jb.getD (bM ns q 3 26).toNat 0)++jb.getD ((7 * n+(bM ns q 0 26).toNat) % 26) 0::List.replicate ((bM ns q 2 8).toNat - (bM ns q 1 (1+bM ns q 2 8)).toNat) (jb.getD (bM ns q 3 26).toNat 0)
def jN(ns:List Int)(q n:Nat):Str:=⟨(sX ns q n).toArray⟩
theorem yw(l:List Nat):(⟨l.toArray⟩:Str).length=l.length:=by show l.toArray.size=_;simp
theorem IM(ns:List Int)(q:Nat)(hq:q < 1000)(n:Nat)(hn:n < 20):mJ [.Y (.aS ns),.Y (.int q),.Y (.int n)]=some (.Y (.str (jN ns q n)),[none,none,none]):=by
 obtain⟨p1,p2,p3⟩:=kW ns q 0 26 hq (by decide) (by decide)
 obtain⟨o1,o2,o3⟩:=kW ns q 1 3 hq (by decide) (by decide)
 obtain⟨t1,t2,t3⟩:=kW ns q 2 8 hq (by decide) (by decide)
 obtain⟨r1,r2,r3⟩:=kW ns q 3 26 hq (by decide) (by decide)
 obtain⟨s1,s2,s3⟩:=kW ns q 1 (1+bM ns q 2 8) hq (by decide) (by lia)
 have hp:=yG ns q 26 hq (by decide)
 have ho:=yv ns q 3 hq (by decide)
 have ht:=AD ns q 8 hq (by decide)
 have hs:=yv ns q (1+bM ns q 2 8) hq (by lia)
 unfold jN sX;split
 ·rename_i h
  rw[h] at ho;have ei:(((bM ns q 0 26).toNat+n / 8) % 26:Nat)=((bM ns q 0 26+(n:Int) / 8) % 26).toNat:=by lia
  rw[ei];obtain⟨q1,q2⟩:=xr ((bM ns q 0 26+(n:Int) / 8) % 26).toNat (by lia) (1+n % 8) (by lia)
  exact Cg ns q n _ ((1+n % 8:Nat):Int) _ _ hp ho (wc _ (by lia) (by lia)) (by lia) (eq_true q1) q2
 ·rename_i h
  have ei:((7 * n+(bM ns q 0 26).toNat) % 26:Nat)=((7 * (n:Int)+bM ns q 0 26) % 26).toNat:=by lia
  rw[ei];obtain⟨q1,q2⟩:=xr (bM ns q 3 26).toNat (by lia) (bM ns q 1 (1+bM ns q 2 8)).toNat (by lia)
  obtain⟨q3,q4⟩:=xr (bM ns q 3 26).toNat (by lia) ((bM ns q 2 8).toNat - (bM ns q 1 (1+bM ns q 2 8)).toNat) (by lia)
  rw[show(((bM ns q 1 (1+bM ns q 2 8)).toNat:Nat):Int)=bM ns q 1 (1+bM ns q 2 8) by lia] at q1 q2
  rw[show(((bM ns q 2 8).toNat - (bM ns q 1 (1+bM ns q 2 8)).toNat:Nat):Int)=1+bM ns q 2 8 - 1 - bM ns q 1 (1+bM ns q 2 8) by lia] at q3 q4
  refine Ci ns q n _ _ _ _ _ _ _ _ _ (⟨(List.replicate (bM ns q 1 (1+bM ns q 2 8)).toNat (jb.getD (bM ns q 3 26).toNat 0)++[jb.getD ((7 * (n:Int)+bM ns q 0 26) % 26).toNat 0]).toArray⟩:Str) _ hp ho (by simpa using h) ht hs r1 (wc _ r2 r3) (wc _ (by lia) (by lia)) (eq_true (.inl ⟨by decide,by decide⟩)) (eq_true q1) q2 (eq_true q3) q4 (eq_true ?_) ?_ (eq_true ?_) ?_
  ·rw[yw,sZ];show _+1<=_;lia
  ·exact NB _ [_]
  ·rw[yw,yw,gK,sZ,sZ];simp only[bw,bz];lia
  ·rw[NB,fG];rfl
theorem DV{l:List Nat}(h:i < l.length):l.getD i 0∈l:=by
 rw[vO,jW h];exact se h
theorem DW(ns:List Int)(q:Nat)(hq:q < 1000)(n:Nat):∀c∈sX ns q n,c∈jb:=by
 obtain⟨r1,r2,r3⟩:=kW ns q 3 26 hq (by decide) (by decide)
 intro c hc;unfold sX at hc;split at hc
 ·rw[List.eq_of_mem_replicate hc];exact DV (by rw[qJ];lia)
 ·rw[jw,dZ] at hc;rcases hc with hc|hc|hc
  ·rw[List.eq_of_mem_replicate hc];exact DV (by rw[qJ];lia)
  ·rw[hc];exact DV (by rw[qJ];lia)
  ·rw[List.eq_of_mem_replicate hc];exact DV (by rw[qJ];lia)
theorem uU(ns:List Int)(q:Nat)(hq:q < 1000)(n:Nat):1<=(sX ns q n).length/\(sX ns q n).length<=8:=by
 obtain⟨t1,t2,t3⟩:=kW ns q 2 8 hq (by decide) (by decide)
 obtain⟨s1,s2,s3⟩:=kW ns q 1 (1+bM ns q 2 8) hq (by decide) (by lia)
 unfold sX;split
 ·rw[sZ];lia
 ·rw[gK,jV,sZ,sZ];lia
theorem MI{j:Nat}(hi:i < 26)(hj:j < 26)(e:jb.getD i 0=jb.getD j 0):i=j:=by
 have h1:i < jb.length:=by rw[qJ];exact hi
 have h2:j < jb.length:=by rw[qJ];exact hj
 rw[vO,jW h1,vO,jW h2] at e;exact(FA Xb).mp e
theorem IP(ns:List Int)(q:Nat)(hq:q < 1000)(n m:Nat)(hn:n < 20)(hm:m < 20)(e:jN ns q n=jN ns q m):n=m:=by
 obtain⟨p1,p2,p3⟩:=kW ns q 0 26 hq (by decide) (by decide)
 have e:sX ns q n=sX ns q m:=by
  have:=congrArg Str.cps e;simpa[jN] using this
 unfold sX at e;split at e
 ·have l:=congrArg List.length e;rw[sZ,sZ] at l;have z:jb.getD (((bM ns q 0 26).toNat+n / 8) % 26) 0=jb.getD (((bM ns q 0 26).toNat+m / 8) % 26) 0:=by
   have h1:∀(k:Nat) (x:Nat),(List.replicate (1+k) x).head?=some x:=λk x=>by rw[Nat.add_comm];rfl
   have h:=congrArg List.head? e;rw[h1,h1] at h;exact Option.some.inj h
  have:=MI (by lia) (by lia) z
  lia
 ·have e:=List.append_cancel_left e;rw[List.cons.injEq] at e;have:=MI (by lia) (by lia) e.1
  lia
theorem V0:∀c∈jb,(Builtin.Str.occurrences wb ⟨#[c]⟩ 0 wb.length 1).isEmpty=false:=by decide +kernel
theorem Xc(c:Nat)(h:c∈jb):a_ false [.Y (.str ⟨#[c]⟩),.Y (.str wb)]=some (.Y (.bl true)):=by
 show some (O.Y (.bl (!(Builtin.Str.occurrences wb ⟨#[c]⟩ 0 wb.length 1).isEmpty)))=_;rw[V0 c h];rfl
theorem MJ:∀n:Nat,(List.replicate n true).all id=true
 |0=>rfl
 |n+1=>by rw[List.replicate_succ,Fv,MJ n];rfl
theorem V1(z:Str):cM [.Y (.str z),.Y (.ty "str")]=some (.Y (.bl true)):=rfl
theorem len_str(z:Str)(h:z.length<=1000000):m6 (.str z)=some (z.length:Int):=if_pos h
theorem DG(l:List Nat)(h1:1<=l.length)(h2:l.length<=8)(hc:∀c∈l,c∈jb):uK [.Y (.str ⟨l.toArray⟩)]=some (.Y (.bl true),[none]):=by
 obtain⟨a,e⟩:∃a,compLoop (aX 0) cX (gB (a_ false) (aa 0) (gC (.str (Str.ofString "abcdefghijklmnopqrstuvwxyz")))) (l.map λc=>.str (kY c)) [none] []=some (((List.replicate l.length true).map D.bl).map .Y,[a]):=by
  obtain⟨U,⟨a,rfl⟩,e⟩:=tN (g:=aX 0) (ct:=cX) (ce:=gB (a_ false) (aa 0) (gC (.str (Str.ofString "abcdefghijklmnopqrstuvwxyz")))) (λU=>∃a,U=[a]) (λc:Nat=>D.str (kY c)) (λ_=>D.bl true) l [none] ⟨_,rfl⟩ (by lia) λc m U hU=>by
   obtain⟨a,rfl⟩:=hU;refine⟨[some (.Y (.str (kY c)))],?_,⟨_,rfl⟩⟩;have h:a_ false [.Y (.str (kY c)),.Y (.str (Str.ofString "abcdefghijklmnopqrstuvwxyz"))]=some (.Y (.bl true)):=Xc c (hc c m);simp only[mB,fP,bw,bz,bI,Nat.reduceLT,bS,if_true,↓ah,rm,bL,bc,ba,aY,bU,bj,bD,bF,bC,h]
  refine⟨a,e.trans ?_⟩;rw[show(l.map λ_=>D.bl true)=(List.replicate l.length true).map D.bl by rw[List.map_replicate];exact List.map_const']
 have c1:(1<=((⟨l.toArray⟩:Str).length:Int))=True:=eq_true (by rw[yw];lia)
 have c2:(((⟨l.toArray⟩:Str).length:Int)<=8)=True:=eq_true (by rw[yw];lia)
 have c3:(⟨l.toArray⟩:Str).length<=1000000:=by rw[yw];lia
 unfold uK G8;simp only[eF,cu,cB,bw,bz,bI,Nat.reduceSub,dN,d_,dJ,dr,qy,iP,bL,bc,ba,aY,↓ah,bU,bj,bD,bF,bC,V1,iV,kM,dy,gx,dD,if_false,TY,kc,bP,len_str _ c3,↓evMap,c1,decide_true,c2,if_true,mK,Vn,gk,nv,e,Nat.reduceAdd,oq,nq,ny,RS,MJ,iu,eL,eM,fJ,eJ]
noncomputable abbrev fS(x:Str):O:=.Y (.str x)
theorem EC(xs:List Str):xs.map fS=(xs.map D.str).map .Y:=by rw[jx];rfl
theorem wI(xs:List Str):O.dl (xs.map fS)=xs.map D.str:=by rw[EC,uR]
theorem IY(xs:List Str):fY (xs.map fS)=some (xs.map D.str):=by rw[EC,uM]
theorem Im(x:Str):∀xs:List Str,((xs.map D.str).any λz=>bb z (.str x))=xs.contains x
 |[]=>rfl
 |y::r=>by
  rw[cv,List.any_cons,Im x r,List.contains_cons,qC]
  congr 1
  exact BEq.comm
theorem Io(n:Nat)(xs:List Str):(xs.map D.str).all (eK n)=true:=by
 rw[og];intro d hd;obtain⟨y,_,rfl⟩:=gL.mp hd;exact oF n y
theorem uV(neg:Bool)(x:Str)(xs:List Str):a_ neg [.Y (.str x),.lst (xs.map fS)]=some (.Y (.bl (if neg then !xs.contains x else xs.contains x))):=by
 unfold a_;have e:nZ (O.lst (xs.map fS)).d=some (xs.map D.str):=by rw[EC];show some (O.dl _)=_;rw[uR]
 simp only[h_,e,jJ,bP,oF,Io,and_self,if_true,Im]
theorem IQ(neg:Bool)(x:Str)(xs:List Str):a_ neg [.Y (.str x),.Y (.lst (xs.map D.str))]=some (.Y (.bl (if neg then !xs.contains x else xs.contains x))):=by
 unfold a_;have e:nZ (.lst (xs.map D.str))=some (xs.map D.str):=rfl;simp only[h_,e,jJ,bP,oF,Io,and_self,if_true,Im]
theorem NC(xs:List Str)(i:Int)(y:Str)(h0:0<=i)(h1:i < 1000000)(hl:xs.length < 1000000):uQ (.lst (xs.map fS)) [.Y (.int i),.Y (.str y)]=some (.lst ((lY xs i.toNat y).map fS),.Y .aI):=by
 unfold uQ;dsimp only;rw[if_pos ⟨h0,h1,by rw[bB];exact hl⟩]
 unfold lY;rw[dh,cv,List.map_take,List.map_drop]
noncomputable def ay(b:az):D:=.tup [.str b.name,.int b.long,.bl b.ring,.lst (b.outs.map .str)]
noncomputable def c_(h:aU):D:=.tup [.lst (h.aj.map ay),.lst (h.af.map .str)]
noncomputable abbrev fB(b:az):O:=.Y (ay b)
theorem X2(xs:List az):O.dl (xs.map fB)=xs.map ay:=by rw[show xs.map fB=(xs.map ay).map .Y by rw[jx];rfl,uR]
theorem Lw:∀(xs:List az) (acc:List Str) (a:Option O),acc.length+xs.length < 1000000->∃a',compLoop (aX 0) cX (gB bu (aa 0) (gC (.int 0))) (xs.map ay) [a] (acc.map fS)=some ((acc++xs.map az.name).map fS,[a'])
 |[],acc,a,_=>⟨a,by rw[sd,IG,sd,d_]⟩
 |x::xs,acc,a,h=>by
  rw[jV] at h;have hl:(acc.map fS).length < 1000000:=by rw[bB];lia
  obtain⟨a',e⟩:=Lw xs (acc++[x.name]) (some (fB x)) (by rw[gK,s9];lia)
  refine⟨a',?_⟩;rw[cv (f:=az.name),show acc++x.name::xs.map az.name=acc++[x.name]++xs.map az.name by simp]
  rw[<-e,dh];simp only[cu,ay,Es,fP,bw,bz,bI,Nat.reduceLT,bS,if_true,↓ah,rm,bL,bc,ba,aY,bU,bj,bD,bF,bC,dA,mP,qj,↓evMap,fW,eS,hl,cB];rfl
noncomputable abbrev fL(xs:List Str):O:=.Y (.lst (xs.map .str))
noncomputable abbrev W3:List O:=[.Y (.int 1),.Y (.int 4),.Y (.int 16)]
theorem X3(ns:List Int)(k j sp d ll:Int)(s2 s3 s4:D)(jG:List D)(outs:List Str)(y:Str)(a9:Option O)(hl:(jG.length:Int)=ll)(hd:j_ [.Y (.aS ns),.Y (.int (6+k)),.Y (.int (1+j)),.Y (.int ll)]=some (.Y (.int d),[none,none,none,none]))(ha:dw jG d=some (.str y))(hc:outs.contains y=true):
  oB [some (.Y (.aS ns)),some (.Y (.int k)),some (.Y s2),some (.Y s3),some (.Y s4),some (.Y (.lst jG)),some (.lst (outs.map fS)),some (.Y (.int sp)),some (.Y (.int j)),a9]=some (.nx,[some (.Y (.aS ns)),some (.Y (.int k)),some (.Y s2),some (.Y s3),some (.Y s4),some (.Y (.lst jG)),some (.lst (outs.map fS)),some (.Y (.int sp)),some (.Y (.int j)),some (.Y (.str y))]):=by
 have hi:=uV true y outs;rw[hc] at hi;unfold oB;simp only[dJ,ef,bL,bc,ba,bx,aY,↓ah,gw,bU,bj,bD,bF,bC,jB,kc,bP,lV,hl,↓evMap,du,dt,cu,cB,hd,ka,dA,sI,ha,bw,bz,bI,Nat.reduceAdd,Nat.reduceLT,cG,bS,if_true,dr,cR,nD,jX,hi,kM,dy,jK,oI,fV,Nat.reduceLeDiff,fW,eS,wy,dD,if_false]
theorem Xd(ns:List Int)(k j sp d ll w ol p:Int)(s2 s3 s4:D)(jG:List D)(outs o2:List Str)(y:Str)(a9:Option O)(hl:(jG.length:Int)=ll)(hd:j_ [.Y (.aS ns),.Y (.int (6+k)),.Y (.int (1+j)),.Y (.int ll)]=some (.Y (.int d),[none,none,none,none]))(ha:dw jG d=some (.str y))(hc:outs.contains y=false)
  (hw:dw W3 j=some (.Y (.int w))) (w0:(0 < w)=True) (w1:(w < 1073741824)=True) (el:((outs.map D.str).length:Int)=ol) (o0:(0 < ol+1)=True) (hp:sp / w % 4 % (ol+1)=p) (hn:uQ (.lst (outs.map fS)) [.Y (.int p),.Y (.str y)]=some (.lst (o2.map fS),.Y .aI)) :
  oB [some (.Y (.aS ns)),some (.Y (.int k)),some (.Y s2),some (.Y s3),some (.Y s4),some (.Y (.lst jG)),some (.lst (outs.map fS)),some (.Y (.int sp)),some (.Y (.int j)),a9]=some (.nx,[some (.Y (.aS ns)),some (.Y (.int k)),some (.Y s2),some (.Y s3),some (.Y s4),some (.Y (.lst jG)),some (.lst (o2.map fS)),some (.Y (.int sp)),some (.Y (.int j)),some (.Y (.str y))]):=by
 have hi:=uV true y outs;rw[hc] at hi;unfold oB;simp only[dJ,ef,bL,bc,ba,bx,aY,↓ah,gw,bU,bj,bD,bF,bC,jB,kc,bP,lV,hl,↓evMap,du,dt,cu,cB,hd,ka,dA,sI,ha,bw,bz,bI,Nat.reduceAdd,Nat.reduceLT,cG,bS,if_true,dr,cR,nD,jX,hi,vP,jK,oI,fV,Nat.reduceLeDiff,fW,eS,wy,hw,Af,iW,w0,w1,and_self,decide_true,Int.reduceLT,jT,wI,el,o0,hp,hn,dD]
theorem ND(outs later:List Str)(h:outs.length < 1000):∃a,compLoop (aX 0) (gT (gB (a_ false) (aa 0) (aa 1))) (aa 0) (outs.map D.str) [none,some (fL later)] []=some (((outs.filter λo=>later.contains o).map D.str).map .Y,[a,some (fL later)]):=by
 obtain⟨U,⟨a,rfl⟩,e⟩:=wa (g:=aX 0) (ct:=gT (gB (a_ false) (aa 0) (aa 1))) (ce:=aa 0) (λU=>∃a,U=[a,some (fL later)]) D.str (λo=>later.contains o) D.str outs [] [none,some (fL later)] ⟨_,rfl⟩ (by simp;lia) λo m U hU=>by
  obtain⟨a,rfl⟩:=hU;refine⟨[some (.Y (.str o)),some (fL later)],?_,⟨_,rfl⟩⟩;have hi:=IQ false o later;cases hc:later.contains o with
  |true=>
   rw[hc] at hi;simp only[mB,fP,bw,bz,bI,Nat.reduceAdd,Nat.reduceLT,bS,if_true,↓ah,cR,bL,bc,ba,aY,bx,bj,bD,bF,bC,hi,dy,if_false]
  |false=>
   rw[hc] at hi;simp only[mB,fP,bw,bz,bI,Nat.reduceAdd,Nat.reduceLT,bS,if_true,↓ah,cR,bL,bc,ba,aY,bx,bj,bD,bF,bC,hi,dy,if_false]
 rw[iA] at e;exact⟨a,e⟩
noncomputable abbrev gU(ns:List Int)(k sp:Int)(s2:D)(af later:List Str)(s5:D)(outs:List Str)(a8 a9:Option O):Gm:=[some (.Y (.aS ns)),some (.Y (.int k)),some (.Y s2),some (fL af),some (fL later),some (.Y s5),some (.lst (outs.map fS)),some (.Y (.int sp)),a8,a9]
theorem X4(ns:List Int)(k sp:Int)(s2 s5:D)(af later outs:List Str)(a8 a9:Option O)(hand:Str)(hh:dw (af.map D.str) 0=some (.str hand))(hc:outs.contains hand=true):oW (gU ns k sp s2 af later s5 outs a8 a9)=some (.nx,gU ns k sp s2 af later s5 outs a8 a9):=by
 have hi:=uV true hand outs;rw[hc] at hi;unfold oW gU;simp only[dr,lC,cR,bL,bc,ba,bx,aY,↓ah,bU,bj,bD,bF,bC,dA,sI,hh,↓evMap,nD,jX,hi,kM,if_true,dy,mK,Ia,dZ,Nat.reduceEqDiff,vN,or_false,if_false,jK,oI,gw,jB,kc,jT,lV,du,bP,dt,cu,cB,dD]
theorem X5(ns:List Int)(k sp:Int)(s2 s5:D)(af later outs:List Str)(a8 a9:Option O)(hand:Str)(hh:dw (af.map D.str) 0=some (.str hand))(hc:outs.contains hand=false)(hl:outs.length < 1000)(n:Int)(hn:(((outs.filter λo=>later.contains o).map D.str).length:Int)=n)(hz:(n == 0)=false):oW (gU ns k sp s2 af later s5 outs a8 a9)=some (.nx,gU ns k sp s2 af later s5 outs a8 a9):=by
 have hi:=uV true hand outs;rw[hc] at hi;obtain⟨a,e⟩:=ND outs later hl;unfold oW gU;simp only[dr,lC,cR,bL,bc,ba,bx,aY,↓ah,bU,bj,bD,bF,bC,dA,sI,hh,↓evMap,nD,jX,hi,vP,if_true,mK,Ia,dZ,Nat.reduceEqDiff,vN,or_false,IY,if_false,gk,dN,ql,cG,bS,nv,gr,gI,e,bw,bz,bI,Nat.reduceAdd,oq,nq,qm,ny,kc,jT,mQ,lV,hn,iQ,bP,kO,and_self,kR,hz,dy,jK,oI,gw,jB,du,dt,cu,cB,dD]
theorem Xe(ns:List Int)(k sp d ol:Int)(s2 s5:D)(af later outs o2:List Str)(a8 a9:Option O)(hand:Str)(hh:dw (af.map D.str) 0=some (.str hand))(hc:outs.contains hand=false)(hl:outs.length < 1000)(hn:(((outs.filter λo=>later.contains o).map D.str).length:Int)=0)
  (el:((outs.map D.str).length:Int)=ol) (hd:j_ [.Y (.aS ns),.Y (.int (1+k)),.Y (.int 3),.Y (.int (ol+1))]=some (.Y (.int d),[none,none,none,none])) (hm:uQ (.lst (outs.map fS)) [.Y (.int d),.Y (.str hand)]=some (.lst (o2.map fS),.Y .aI)):oW (gU ns k sp s2 af later s5 outs a8 a9)=some (.nx,gU ns k sp s2 af later s5 o2 a8 a9):=by
 have hi:=uV true hand outs;rw[hc] at hi;obtain⟨a,e⟩:=ND outs later hl;unfold oW gU;simp only[dr,lC,cR,bL,bc,ba,bx,aY,↓ah,bU,bj,bD,bF,bC,dA,sI,hh,↓evMap,nD,jX,hi,vP,if_true,mK,Ia,dZ,Nat.reduceEqDiff,vN,or_false,IY,if_false,gk,dN,ql,cG,bS,nv,gr,gI,e,bw,bz,bI,Nat.reduceAdd,oq,nq,qm,ny,kc,jT,mQ,lV,hn,iQ,bP,kO,and_self,kR,beq_self_eq_true,jK,oI,gw,jB,wI,el,du,dt,cu,cB,hd,ka,fW,eS,hm,dD]
theorem Uj(ds:List D)(n:Nat):cutD ds (some (n:Int)) none=ds.drop n:=by
 unfold cutD;have e:HT.c8 ds.length 0 (some (n:Int))=min n ds.length:=by
  unfold HT.c8;simp;lia
 have e2:HT.c8 ds.length ds.length none=ds.length:=rfl;rw[e,e2];by_cases h:n<=ds.length
 ·rw[Nat.min_eq_left h];exact List.take_of_length_le (by rw[vK];exact cP _)
 ·rw[Nat.min_eq_right (by lia),List.drop_eq_nil_of_le (cP _),List.drop_eq_nil_of_le (by lia),List.take_nil]
theorem Sz(xs:List Str)(k:Nat)(y:Str):(lY xs k y).Perm (y::xs):=by
 unfold lY;refine(C5 (l₁:=xs.take k) (l₂:=xs.drop k)).trans ?_;rw[xV]
theorem NF{k:Nat}(h:xs.Nodup)(hy:y∉xs):(lY xs k y).Nodup:=(Sz xs k y).nodup_iff.mpr (j7.mpr ⟨hy,h⟩)
structure lS (later af:List Str) (hd:Str) (outs:List Str):Prop where
 nd:outs.Nodup
 sub:∀o∈outs,o∈later++af
 ne:outs≠[]
 hand:hd∈outs\/∃o∈outs,o∈later
 len:outs.length<=4
theorem NG(h0:0<=k)(h1:k < xs.length):dw (xs.map D.str) k=some (.str (xs.getD k.toNat "")):=by
 have y8:k.toNat < xs.length:=by lia
 have e:(xs.map D.str)[k.toNat]?=some (.str (xs.getD k.toNat "")):=by simp[y8]
 have z:=qt e
 rwa [show((k.toNat:Nat):Int)=k by lia] at z
theorem SA(h:i < xs.length):xs.getD i ""∈xs:=by
 rw[vO,jW h];exact se h
theorem X6:∀j:Nat,j < 3->∃d:Int,dw W3 (j:Int)=some (.Y (.int d))/\0 < d/\d < 1073741824
 |0,_=>⟨1,rfl,by decide,by decide⟩
 |1,_=>⟨4,rfl,by decide,by decide⟩
 |2,_=>⟨16,rfl,by decide,by decide⟩
 |n+3,h=>absurd h (by lia)
theorem V2(ns:List Int)(k j:Nat)(sp:Int)(s2 s3 s4:D)(jG outs:List Str)(a9:Option O)(hk:k < 5)(hj:j < 3)(sl:0 < jG.length)(Ff:jG.length<=100)(nd:outs.Nodup)(sb:∀o∈outs,o∈jG)(ol:outs.length<=j):
  ∃o2 y,o2.Nodup/\(∀o∈o2,o∈jG)/\o2.length<=j+1/\o2≠[]/\oB [some (.Y (.aS ns)),some (.Y (.int k)),some (.Y s2),some (.Y s3),some (.Y s4),some (fL jG),some (.lst (outs.map fS)),some (.Y (.int sp)),some (.Y (.int j)),a9]=some (.nx,[some (.Y (.aS ns)),some (.Y (.int k)),some (.Y s2),some (.Y s3),some (.Y s4),some (fL jG),some (.lst (o2.map fS)),some (.Y (.int sp)),some (.Y (.int j)),some (.Y (.str y))]):=by
 obtain⟨d1,d2,d3⟩:=kW ns (6+k) (1+j) (jG.length:Int) (by lia) (by lia) (by lia)
 rw[show((6+k:Nat):Int)=6+(k:Int) by lia,show((1+j:Nat):Int)=1+(j:Int) by lia] at d1
 have ha:=NG (xs:=jG) d2 d3;have hm:jG.getD (bM ns (6+k) (1+j) (jG.length:Int)).toNat ""∈jG:=SA (by lia)
 generalize jG.getD (bM ns (6+k) (1+j) (jG.length:Int)).toNat ""=y at ha hm;have hl:((jG.map D.str).length:Int)=(jG.length:Int):=by rw[bB]
 cases hc:outs.contains y with
 |true=>
  refine⟨outs,y,nd,sb,by lia,λz=>?_,X3 ns k j sp _ _ s2 s3 s4 _ outs y a9 hl d1 ha hc⟩
  rw[z] at hc;cases hc
 |false=>
  obtain⟨w,w1,w2,w3⟩:=X6 j hj;have o0:(0:Int) < (outs.length:Int)+1:=by lia
  have el:((outs.map D.str).length:Int)=(outs.length:Int):=by rw[bB]
  have p0:0<=sp / w % 4 % ((outs.length:Int)+1):=Int.emod_nonneg _ (by lia)
  have p1:sp / w % 4 % ((outs.length:Int)+1) < (outs.length:Int)+1:=Int.emod_lt_of_pos _ o0;have hn:=NC outs (sp / w % 4 % ((outs.length:Int)+1)) y p0 (by lia) (by lia)
  have hy:y∉outs:=by simpa using hc
  refine⟨_,y,NF (k:=(sp / w % 4 % ((outs.length:Int)+1)).toNat) nd hy,λo ho=>?_,by rw[DJ];lia,λz=>?_,Xd ns k j sp _ _ w _ _ s2 s3 s4 _ outs _ y a9 hl d1 ha hc w1 (eq_true w2) (eq_true w3) el (eq_true o0) rfl hn⟩
  ·rcases kz.mp ho with z|z
   ·rw[z];exact hm
   ·exact sb o z
  ·have:=DJ outs (sp / w % 4 % ((outs.length:Int)+1)).toNat y;rw[z] at this;simp at this
theorem fN{i:Int}(h:i.natAbs<=1000000):gY [.own (.Y (.int i))]=some i:=by
 unfold gY;dsimp only;rw[if_pos (Nat.ble_eq_true_of_le (by lia))]
theorem Uk(ns:List Int)(k:Int)(later af:List Str)(names:List D)(sp r:Int)(o1 outs:List Str)(a8 a9:Option O)(c1:cutD names (some (k+1)) none=later.map D.str)(c2:((later.map D.str).length+(af.map D.str).length<=1000000)=True)
  (ht:oA [.Y (.aS ns),.Y (.int (1+k)),.Y (.int 64)]=some (.Y (.int sp),[none,none,none])) (hp:oC [.Y (.aS ns),.Y (.int (6+k)),.Y (.int 3)]=some (.Y (.int r),[none,none,none])) (hi:gY [.own (.Y (.int (1+r)))]=some (1+r))
  (hl:iD (aX 8) oB (ig 0 (1+r).toNat) [some (.Y (.aS ns)),some (.Y (.int k)),some (.Y (.lst names)),some (fL af),some (fL later),some (.Y (.lst (later.map D.str++af.map D.str))),some (.lst []),some (.Y (.int sp)),none,none]=some (.nx,[some (.Y (.aS ns)),some (.Y (.int k)),some (.Y (.lst names)),some (fL af),some (fL later),some (.Y (.lst (later.map D.str++af.map D.str))),some (.lst (o1.map fS)),some (.Y (.int sp)),a8,a9]))
  (hw:oW [some (.Y (.aS ns)),some (.Y (.int k)),some (.Y (.lst names)),some (fL af),some (fL later),some (.Y (.lst (later.map D.str++af.map D.str))),some (.lst (o1.map fS)),some (.Y (.int sp)),a8,a9]=some (.nx,[some (.Y (.aS ns)),some (.Y (.int k)),some (.Y (.lst names)),some (fL af),some (fL later),some (.Y (.lst (later.map D.str++af.map D.str))),some (.lst (outs.map fS)),some (.Y (.int sp)),a8,a9])) :
  yi [.Y (.aS ns),.Y (.int k),.Y (.lst names),fL af]=some (.lst (outs.map fS),[none,none,none,none]):=by
 unfold yi;unfold HI;simp only[eF,cu,cB,bw,bz,bI,Nat.reduceAdd,Nat.reduceSub,gk,dN,gr,gI,dJ,ef,cI,Mp,ba,bx,aY,↓ah,Nh,bL,bc,bU,bj,bD,bF,bC,jB,Nj,↓evMap,Ng,RO,c1,jT,mQ,Nat.reduceLT,cG,bS,if_true,Vr,c2,fV,Nat.reduceLeDiff,eS,gw,du,bP,dt,ht,ka,AW,hp,hi,hl,hw,gx,yq,iu,eL,eM,fJ,eJ]
theorem Xf(ns:List Int)(k:Nat)(names af:List Str)(hand:Str)(hk:k < 5)(hl:names.length<=5)(hh:af.head?=some hand)(hc:af.length<=4):
  ∃outs,lS (names.drop (k+1)) af hand outs/\yi [.Y (.aS ns),.Y (.int k),fL names,fL af]=some (.lst (outs.map fS),[none,none,none,none]):=by
 have hc0:0 < af.length:=by cases af with|nil=>cases hh|cons a b=>simp
 obtain⟨r1,r2,r3⟩:=kW ns (6+k) 0 3 (by lia) (by decide) (by decide)
 have hp:=yG ns (6+k) 3 (by lia) (by decide)
 have ht:=AD ns (1+k) 64 (by lia) (by decide)
 rw[show((6+k:Nat):Int)=6+(k:Int) by lia] at hp
 rw[show((1+k:Nat):Int)=1+(k:Int) by lia] at ht
 have sl:0 < (names.drop (k+1)++af).length:=by rw[gK];lia
 have Ff:(names.drop (k+1)++af).length<=100:=by rw[gK,vK];lia
 obtain⟨U1,e1,o1,a8,a9,nd,sb,ol,one,rfl⟩:=qo (g:=aX 8) (f:=oB) (λ(i:Nat)=>D.int (0+(i:Int))) (λpre U=>∃(outs:List Str) (a8 a9:Option O),outs.Nodup/\(∀o∈outs,o∈names.drop (k+1)++af)/\outs.length<=pre.length/\(pre≠[]->outs≠[])/\U=[some (.Y (.aS ns)),some (.Y (.int k)),some (fL names),some (fL af),some (fL (names.drop (k+1))),some (fL (names.drop (k+1)++af)),some (.lst (outs.map fS)),some (.Y (.int (bM ns (1+k) 2 64))),a8,a9]) (List.range (1+bM ns (6+k) 0 3).toNat) []
  [some (.Y (.aS ns)),some (.Y (.int k)),some (fL names),some (fL af),some (fL (names.drop (k+1))),some (fL (names.drop (k+1)++af)),some (.lst []),some (.Y (.int (bM ns (1+k) 2 64))),none,none] ⟨[],none,none,zv,λo m=>(by cases m),cP _,λz=>absurd rfl z,rfl⟩ (by
   rintro q i post U eq ⟨outs,a8,a9,nd,sb,ol,_,rfl⟩;rw[iA] at *;have hi:i < (1+bM ns (6+k) 0 3).toNat:=by
    have:i∈List.range (1+bM ns (6+k) 0 3).toNat:=by rw[eq];simp
    exact mF.mp this
   have hq:q.length=i:=by
    have h1:=congrArg (λl=>l[q.length]?) eq
    simp only[xU (cP _),Nat.sub_self,aY] at h1;have h2:q.length < (1+bM ns (6+k) 0 3).toNat:=by have:=congrArg List.length eq;simp at this;lia
    rw[Fu h2] at h1;exact Option.some.inj h1
   obtain⟨o2,y,n2,s2,l2,ne2,e2⟩:=V2 ns k i (bM ns (1+k) 2 64) (.lst (names.map .str)) (.lst (af.map .str)) (.lst ((names.drop (k+1)).map .str)) (names.drop (k+1)++af) outs a9 hk (by lia) sl Ff nd sb (by lia)
   refine⟨_,?_,o2,some (.Y (.int i)),some (.Y (.str y)),n2,s2,by rw[gK,s9];lia,λ_=>ne2,rfl⟩
   rw[C8];generalize(i:Int)=ii at *;simp only[fP,bw,bz,bI,Nat.reduceAdd,Nat.reduceLT,cG,bS,if_true,↓ah,e2])
 rw[iA,uF] at ol;have one:o1≠[]:=one (by rw[iA];intro z;have:=congrArg List.length z;simp at this;lia)
 rw[<-yg] at e1;have BM:dw (af.map D.str) 0=some (.str hand):=by
  cases af with
  |nil=>cases hh
  |cons a b=>cases hh;exact qt (xs:=D.str hand::b.map D.str) (j:=0) rfl
 have hm:hand∈names.drop (k+1)++af:=ja _ (List.mem_of_mem_head? hh);have hi:gY [.own (.Y (.int (1+bM ns (6+k) 0 3)))]=some (1+bM ns (6+k) 0 3):=fN (by lia)
 have c1:cutD (names.map D.str) (some ((k:Int)+1)) none=(names.drop (k+1)).map D.str:=by
  rw[show(k:Int)+1=((k+1:Nat):Int) by lia,Uj,List.map_drop]
 have c2:(((names.drop (k+1)).map D.str).length+(af.map D.str).length<=1000000)=True:=eq_true (by rw[bB,bB,vK];lia)
 have jG:(names.drop (k+1)++af).map D.str=(names.drop (k+1)).map D.str++af.map D.str:=dh;obtain⟨outs,ok,hw⟩:∃outs,lS (names.drop (k+1)) af hand outs/\oW (gU ns k (bM ns (1+k) 2 64) (.lst (names.map .str)) af (names.drop (k+1)) (.lst ((names.drop (k+1)++af).map .str)) o1 a8 a9)=some (.nx,gU ns k (bM ns (1+k) 2 64) (.lst (names.map .str)) af (names.drop (k+1)) (.lst ((names.drop (k+1)++af).map .str)) outs a8 a9):=by
  cases BO:o1.contains hand with
  |true=>exact⟨o1,⟨nd,sb,one,.inl (by simpa using BO),by lia⟩,X4 ns k _ _ _ af _ o1 a8 a9 hand BM BO⟩
  |false=>
   by_cases hf:(o1.filter λo=>(names.drop (k+1)).contains o).length=0
   ·obtain⟨d1,d2,d3⟩:=kW ns (1+k) 3 ((o1.length:Int)+1) (by lia) (by decide) (by lia)
    rw[show((1+k:Nat):Int)=1+(k:Int) by lia] at d1
    have hn:=NC o1 (bM ns (1+k) 3 ((o1.length:Int)+1)) hand d2 (by lia) (by lia)
    have hy:hand∉o1:=by simpa using BO
    refine⟨_,⟨NF (k:=(bM ns (1+k) 3 ((o1.length:Int)+1)).toNat) nd hy,λo ho=>?_,λz=>?_,.inl (kz.mpr (.inl rfl)),by rw[DJ];lia⟩,Xe ns k _ _ _ _ _ af _ o1 _ a8 a9 hand BM BO (by lia) (by rw[bB,hf];rfl) (by rw[bB]) d1 hn⟩
    ·rcases kz.mp ho with z|z
     ·rw[z];exact hm
     ·exact sb o z
    ·have:=DJ o1 (bM ns (1+k) 3 ((o1.length:Int)+1)).toNat hand;rw[z] at this;simp at this
   ·refine⟨o1,⟨nd,sb,one,.inr ?_,by lia⟩,X5 ns k _ _ _ af _ o1 a8 a9 hand BM BO (by lia) _ rfl (by rw[bB];simp only[beq_eq_false_iff_ne];lia)⟩
    obtain⟨o,ho⟩:∃o,o∈o1.filter λo=>(names.drop (k+1)).contains o:=List.exists_mem_of_length_pos (by lia)
    rw[zm] at ho;exact⟨o,ho.1,by simpa using ho.2⟩
 unfold fL at e1;unfold gU fL at hw;rw[jG] at e1 hw;exact⟨outs,ok,Uk ns k _ af _ _ _ o1 outs a8 a9 c1 c2 ht hp hi e1 hw⟩
noncomputable def findB(bs:List az)(n:Str):Option az:=bs.find? λb=>b.name == n
structure qV (h:aU):Prop where
 bl:h.aj.length<=100
 ct:h.af.length<=100
 ou:(h.aj.map λx=>x.outs.length).sum<=900
def mw(af:List Str):List az->Prop
 |[]=>True
 |b::bs=>(∀o∈b.outs,o∈bs.map az.name\/o∈af)/\b.name∉bs.map az.name/\b.name∉af/\mw af bs
theorem MK{af:List Str}:∀{bs:List az},mw af bs->∀x∈bs,∀y∈bs,x.name=y.name->x=y
 |z::bs,f,x,hx,y,hy,e=>by
  rcases dZ.mp hx with sU|sU
  ·rcases dZ.mp hy with sV|sV
   ·rw[sU,sV]
   ·exact absurd (pe (f:=az.name) sV) (by rw[<-e,sU];exact f.2.1)
  ·rcases dZ.mp hy with sV|sV
   ·exact absurd (pe (f:=az.name) sU) (by rw[e,sV];exact f.2.1)
   ·exact MK f.2.2.2 x sU y sV e
theorem Hj{af:List Str}:∀{bs:List az},mw af bs->∀c∈af,c∉bs.map az.name
 |[],_,c,_,h=>by cases h
 |b::bs,f,c,hc,h=>by
  rcases dZ.mp h with z|z
  ·exact f.2.2.1 (by rw[<-z];exact hc)
  ·exact Hj f.2.2.2 c hc z
theorem GQ{af:List Str}:∀{xs ys:List az},mw af (xs++ys)->mw af ys
 |[],_,f=>f
 |_::xs,ys,f=>GQ (xs:=xs) f.2.2.2
theorem Ul{α:Type}(enc:α->D)(xs:List α):jL (xs.map enc)=((List.range xs.length).zip xs).map λ(p:Nat×α)=>D.tup [.int (p.1:Nat),enc p.2]:=by
 unfold jL;rw[bB,List.zipWith_map_right,List.map_zip_eq_zipWith];rfl
theorem SD{α:Type}{g:GG}(enc:α->D)(P:List α->Gm->Prop)(xs:List α)(U:Gm)(h:P [] U)
  (st:∀q x post U (i:Int),xs=q++x::post->i=(q.length:Nat)->P q U->∃U2,(g (.tup [.int i,enc x]) U).bind f=some (.nx,U2)/\P (q++[x]) U2):∃U',iD g f (jL (xs.map enc)) U=some (.nx,U')/\P xs U':=by
 have hs:((List.range xs.length).zip xs).map Prod.snd=xs:=by rw[List.map_snd_zip];simp
 rw[Ul];obtain⟨U',e,p⟩:=qo (g:=g) (f:=f) (λ(p:Nat×α)=>D.tup [.int (p.1:Nat),enc p.2]) (λpre U=>P (pre.map Prod.snd) U) ((List.range xs.length).zip xs) [] U h (by
  intro q x post U e p;rw[iA] at p ⊢;have hx:xs=q.map Prod.snd++x.2::post.map Prod.snd:=by
   have:=congrArg (List.map Prod.snd) e;rw[hs] at this;rw[this,dh,cv]
  have hi:x.1=q.length:=by
   have:((List.range xs.length).zip xs)[q.length]?=some x:=by rw[e,xU (cP _)];simp
   rw[List.getElem?_zip_eq_some] at this;have h1:=this.1;rw[iq] at h1;obtain⟨hl,h1⟩:=h1;rw[List.getElem_range] at h1;exact h1.symm
  obtain⟨U2,a,b⟩:=st (q.map Prod.snd) x.2 (post.map Prod.snd) U (x.1:Nat) hx (by rw[hi,bB]) p
  exact⟨U2,a,by rw[dh];exact b⟩)
 exact⟨U',e,by rw[iA,hs] at p;exact p⟩
theorem X7(ds:List D):cM [.Y (.lst ds),.Y (.ty "list")]=some (.Y (.bl true)):=by unfold cM;simp[f_,iH,O.d]
theorem zi(b:az):cF (.Y (ay b)) (.int 0)=some (.Y (.str b.name)):=by unfold ay;simp only[mP,qj,o_]
theorem PH(b:az):cF (.Y (ay b)) (.int 3)=some (.Y (.lst (b.outs.map .str))):=by unfold ay;simp only[mP,Ht,o_]
theorem vJ(h:aU):cF (.Y (c_ h)) (.int 0)=some (.Y (.lst (h.aj.map ay))):=by unfold c_;simp only[mP,qj,o_]
theorem xT(h:aU):cF (.Y (c_ h)) (.int 1)=some (.Y (.lst (h.af.map .str))):=by unfold c_;simp only[mP,yf,o_]
theorem OJ(cs:List Str):O.dl (cs.map fS)=cs.map D.str:=by
 rw[show cs.map fS=(cs.map D.str).map O.Y by rw[jx];rfl,uR]
theorem V3(x:Str)(xs:List Str):cF (fL (x::xs)) (.int 0)=some (.Y (.str x)):=by simp only[sI,cu,qj,o_]
abbrev nX(x:Str):Prop:=uK [.Y (.str x)]=some (.Y (.bl true),[none])
structure bR (h:aU):Prop where
 fwd:mw h.af h.aj
 sm:qV h
 nm:∀b∈h.aj,nX b.name
 cm:∀c∈h.af,nX c
 lg:∀b∈h.aj,1<=b.long/\(b.ring=true->2<=b.long)
 hd:∀b∈h.aj,h.af.getD 0 ""∈b.outs\/∃o∈b.outs,o∈h.aj.map az.name
 cn:h.af.Nodup
 c0:0 < h.af.length
 nd:∀b∈h.aj,b.outs.Nodup
theorem yx(bs:List az)(h:bs.length < 1000000):tI [.Y (.lst (bs.map ay))]=some (.lst ((bs.map az.name).map fS),[none]):=by
 obtain⟨a',e⟩:=Lw bs [] none (by rw[vM];lia)
 rw[sd,iA] at e;unfold tI Gn;simp only[eF,cu,cB,bw,bz,bI,Nat.reduceSub,dN,d_,gx,mK,qZ,cI,ba,aY,↓ah,bP,gk,nv,e,Nat.reduceAdd,oq,nq,ny,if_true,iu,eL,eM,fJ,eJ]
noncomputable def kd(ks:List Str):List (TK×O):=ks.map λk=>(TK.inr k,.Y (.bl true))
noncomputable def J0(ks:List Str):List (TK×D):=ks.map λk=>(TK.inr k,.bl true)
noncomputable def gA(ks:List Str)(k:Str):List Str:=if ks.contains k then ks else ks++[k]
theorem OE:∀ks:List Str,O.dk (kd ks)=J0 ks
 |[]=>rfl
 |k::ks=>by
  show(_,_)::O.dk (kd ks)=_;rw[OE ks];rfl
theorem Oj(x:Str):∀ks:List Str,(i7 (J0 ks) (.inr x)).isSome=ks.contains x
 |[]=>rfl
 |k::ks=>by
  have ih:=Oj x ks;unfold i7 J0 at *;rw[cv,qP,List.contains_cons];by_cases e:k=x
  ·rw[decide_eq_true (by rw[e]),e,beq_self_eq_true]
   rfl
  ·rw[decide_eq_false (λz=>e (TK.inr.inj z)),show(x == k)=false by rw[beq_eq_false_iff_ne];exact λz=>e z.symm]
   rw[Bool.false_or];exact ih
theorem ED(neg:Bool)(x:Str)(ks:List Str):a_ neg [.Y (.str x),.aK (kd ks)]=some (.Y (.bl (if neg then !ks.contains x else ks.contains x))):=by
 unfold a_;simp only[h_,OE,eV,jJ,Oj]
theorem Ol(k:Str):∀ks:List Str,fy (kd ks) (.inr k) (.Y (.bl true))=kd (gA ks k)
 |[]=>rfl
 |j::ks=>by
  have ih:=Ol k ks;show(if(TK.inr j)=TK.inr k then(TK.inr j,O.Y (.bl true))::kd ks else(TK.inr j,O.Y (.bl true))::fy (kd ks) (.inr k) (.Y (.bl true)))=_
  unfold gA at *;rw[List.contains_cons];by_cases e:j=k
  ·rw[if_pos (by rw[e]),e,beq_self_eq_true,Bool.true_or,if_pos rfl];rfl
  ·rw[if_neg (λz=>e (TK.inr.inj z)),ih,show(k == j)=false by rw[beq_eq_false_iff_ne];exact λz=>e z.symm,Bool.false_or]
   cases ks.contains k with
   |true=>rw[if_pos rfl,if_pos rfl];rfl
   |false=>rw[if_neg kU,if_neg kU];rfl
theorem Om(ks:List Str)(k:Str)(h:ks.length < 1000000):eW (.aK (kd ks)) [.Y (.bl true),.Y (.str k)]=some (.aK (kd (gA ks k)),.Y .aI):=by
 show(if(kd ks).length < 1000000 then some (O.aK (fy (kd ks) (.inr k) (.Y (.bl true))),O.Y .aI) else none)=_
 rw[if_pos (by unfold kd;rw[bB];exact h),Ol]
theorem ML(ks:List Str)(k:Str):(gA ks k).length<=ks.length+1:=by
 unfold gA;split
 ·lia
 ·rw[gK,s9];exact cP _
theorem Um{k n:Str}:n∈gA ks k↔n=k\/n∈ks:=by
 unfold gA;split
 ·rename_i h
  rw[s_] at h;constructor
  ·exact .inr
  ·rintro(rfl|h')
   ·exact h
   ·exact h'
 ·rw[jw,qO];exact Or.comm
theorem MM:∀(outs ks:List Str) (g0 g1 g3 g4 g5 g6 a:Option O),ks.length+outs.length < 1000000->∃a',iD (aX 7) (jm (gC (.bl true)) (aa 2) (aa 7)) (outs.map D.str) [g0,g1,some (.aK (kd ks)),g3,g4,g5,g6,a] =
  some (.nx,[g0,g1,some (.aK (kd (outs.foldl gA ks))),g3,g4,g5,g6,a'])
 |[],ks,g0,g1,g3,g4,g5,g6,a,_=>⟨a,rfl⟩
 |o::outs,ks,g0,g1,g3,g4,g5,g6,a,h=>by
  rw[jV] at h;have hl:=ML ks o;obtain⟨a',e⟩:=MM outs (gA ks o) g0 g1 g3 g4 g5 g6 (some (fS o)) (by lia)
  refine⟨a',?_⟩;rw[xW,<-e];simp only[cu,v_,fP,bw,bz,bI,Nat.reduceAdd,Nat.reduceLT,cG,bS,if_true,↓ah,IF,bU,ba,bx,aY,Om ks o (by lia)]
noncomputable def cU(b:Str)(ks:List Str)(x:az):List Str:=if(x.name == b || ks.contains x.name)=true then x.outs.foldl gA ks else ks
theorem Uo(outs:List Str):∀ks:List Str,(outs.foldl gA ks).length<=ks.length+outs.length:=by
 induction outs with
 |nil=>intro ks;exact cP _
 |cons o outs ih=>
  intro ks;rw[xW,jV];have:=ih (gA ks o);have:=ML ks o;lia
theorem Du(b:Str)(hd:D):∀(bs:List az) (ks:List Str) (a3 a4 a5 a6 a7:Option O),ks.length+(bs.map λx=>x.outs.length).sum < 1000000->∃b3 b4 b5 b6 b7,iD (cT [(aX 3),(aX 4),(aX 5),(aX 6)])
  (bQ (lh (gT (gB oEq (aa 3) (aa 1))) (gT (gB (a_ false) (aa 3) (aa 2))))
  (eA (aa 6) (aX 7)
  (jm (gC (.bl true)) (aa 2) (aa 7)))
  aQ) (bs.map ay) [some (.Y hd),some (fS b),some (.aK (kd ks)),a3,a4,a5,a6,a7]=some (.nx,[some (.Y hd),some (fS b),some (.aK (kd (bs.foldl (cU b) ks))),b3,b4,b5,b6,b7])
 |[],ks,a3,a4,a5,a6,a7,_=>⟨a3,a4,a5,a6,a7,rfl⟩
 |x::bs,ks,a3,a4,a5,a6,a7,h=>by
  rw[cv,List.sum_cons] at h;have hf:=Uo x.outs ks;obtain⟨a',e1⟩:=MM x.outs ks (some (.Y hd)) (some (fS b)) (some (.Y (.str x.name))) (some (.Y (.int x.long))) (some (.Y (.bl x.ring))) (some (.Y (.lst (x.outs.map .str)))) a7 (by lia)
  cases c1:x.name == b with
  |true=>
   obtain⟨b3,b4,b5,b6,b7,e⟩:=Du b hd bs (x.outs.foldl gA ks) (some (.Y (.str x.name))) (some (.Y (.int x.long))) (some (.Y (.bl x.ring))) (some (.Y (.lst (x.outs.map .str)))) a' (by lia)
   refine⟨b3,b4,b5,b6,b7,?_⟩;rw[xW,show cU b ks x=x.outs.foldl gA ks by unfold cU;rw[c1,Bool.true_or,if_pos rfl],<-e,cv]
   rw[show ay x=.tup [.str x.name,.int x.long,.bl x.ring,.lst (x.outs.map .str)] from rfl];simp only[v_,pH,pG,fP,bw,bz,bI,Nat.reduceAdd,Nat.reduceLT,cG,bS,if_true,↓ah,pF,dr,tV,cR,bL,bc,ba,bx,aY,bj,bD,bF,bC,iQ,bP,oF,and_self,qC,c1,nD,jX,pK,cI,e1,dD]
  |false=>
   cases c2:ks.contains x.name with
   |true=>
    obtain⟨b3,b4,b5,b6,b7,e⟩:=Du b hd bs (x.outs.foldl gA ks) (some (.Y (.str x.name))) (some (.Y (.int x.long))) (some (.Y (.bl x.ring))) (some (.Y (.lst (x.outs.map .str)))) a' (by lia)
    refine⟨b3,b4,b5,b6,b7,?_⟩;rw[xW,show cU b ks x=x.outs.foldl gA ks by unfold cU;rw[c1,c2,Bool.or_true,if_pos rfl],<-e,cv]
    rw[show ay x=.tup [.str x.name,.int x.long,.bl x.ring,.lst (x.outs.map .str)] from rfl];simp only[v_,pH,pG,fP,bw,bz,bI,Nat.reduceAdd,Nat.reduceLT,cG,bS,if_true,↓ah,pF,dr,tV,cR,bL,bc,ba,bx,aY,bj,bD,bF,bC,iQ,bP,oF,and_self,qC,c1,dy,nD,jX,ED,c2,if_false,pK,cI,e1,dD]
   |false=>
    obtain⟨b3,b4,b5,b6,b7,e⟩:=Du b hd bs ks (some (.Y (.str x.name))) (some (.Y (.int x.long))) (some (.Y (.bl x.ring))) (some (.Y (.lst (x.outs.map .str)))) a7 (by lia)
    refine⟨b3,b4,b5,b6,b7,?_⟩;rw[xW,show cU b ks x=ks by unfold cU;rw[c1,c2,Bool.false_or,if_neg kU],<-e,cv]
    rw[show ay x=.tup [.str x.name,.int x.long,.bl x.ring,.lst (x.outs.map .str)] from rfl];simp only[v_,pH,pG,fP,bw,bz,bI,Nat.reduceAdd,Nat.reduceLT,cG,bS,if_true,↓ah,pF,dr,tV,cR,bL,bc,ba,bx,aY,bj,bD,bF,bC,iQ,bP,oF,and_self,qC,c1,dy,nD,jX,ED,c2,if_false,pK,cI,dD]
theorem HK(ks:List Str)(o:O)(ho:∀x,a_ false [.Y (.str x),o]=some (.Y (.bl (ks.contains x))))(hv:aa 1=aa 1):∀(xs acc:List Str) (a:Option O),acc.length+xs.length < 1000000->(∀U0:Option O,∃r,aa 1 [U0,some o]=some (r,[U0,some o])/\iI [U0,some o] r=some o)->
  ∃a',compLoop (aX 0) (gT (gB (a_ false) (aa 0) (aa 1))) (aa 0) (xs.map D.str) [a,some o] (acc.map fS)=some ((acc++xs.filter λx=>ks.contains x).map fS,[a',some o])
 |[],acc,a,_,_=>⟨a,by rw[sd,IG,List.filter_nil,d_]⟩
 |x::xs,acc,a,h,hg=>by
  rw[jV] at h;have hl:(acc.map fS).length < 1000000:=by rw[bB];lia
  obtain⟨r,r1,r2⟩:=hg (some (.Y (.str x)));have v0:aa 0 [some (.Y (.str x)),some o]=some (.own (.Y (.str x)),[some (.Y (.str x)),some o]):=rfl;cases hc:ks.contains x with
  |true=>
   obtain⟨a',e⟩:=HK ks o ho hv xs (acc++[x]) (some (fS x)) (by rw[gK,s9];lia) hg
   refine⟨a',?_⟩;rw[qe,if_pos hc,show acc++x::(xs.filter λo=>ks.contains o)=acc++[x]++(xs.filter λo=>ks.contains o) by simp]
   rw[<-e,dh];simp only[↓ah,↓evMap,cu,cB,Es,fP,bw,bz,Nat.reduceAdd,Nat.reduceLT,if_true,bS,jJ,cR,bL,bc,bj,v0,r1,bD,bC,bF,r2,ho,hc,fW,eS,hl]
  |false=>
   obtain⟨a',e⟩:=HK ks o ho hv xs acc (some (fS x)) (by lia) hg
   refine⟨a',?_⟩;rw[qe,if_neg (by rw[hc];exact kU)]
   rw[<-e];simp only[↓ah,↓evMap,cu,cB,Es,fP,bw,bz,Nat.reduceAdd,Nat.reduceLT,if_true,bS,jJ,cR,bL,bc,bj,v0,r1,bD,bC,bF,r2,ho,hc,fW,eS,hl,dy,if_false]
noncomputable def tW(bs:List az)(b:Str):List Str:=bs.foldl (cU b) []
theorem SE(h:aU)(b:Str)(sm:qV h):zW [.Y (c_ h),fS b]=some (.lst (((h.aj.map az.name++h.af).filter λx=>(tW h.aj b).contains x).map fS),[none,none]):=by
 have hb:=sm.bl;have hc:=sm.ct;obtain⟨b3,b4,b5,b6,b7,e1⟩:=Du b (c_ h) h.aj [] none none none none none (by have:=sm.ou;rw[vM];lia)
 have e2:=yx h.aj (by lia)
 obtain⟨a',e3⟩:=HK (tW h.aj b) (.aK (kd (tW h.aj b))) (λx=>ED false x _) rfl (h.aj.map az.name++h.af) [] none (by rw[vM,gK,bB];lia) (λU0=>⟨.var 1,rfl,rfl⟩)
 rw[sd,iA] at e3;have c1:(h.aj.length+h.af.length<=1000000)=True:=eq_true (by lia)
 have ZJ:kd []=[]:=rfl;unfold zW Hc;unfold tW at *;rw[ZJ] at e1;unfold c_ at *;simp only[eF,cu,cB,bw,bz,bI,Nat.reduceAdd,Nat.reduceSub,gk,dN,gr,gI,dJ,ef,DN,↓ah,Nat.reduceLT,cG,bS,if_true,pK,cI,bL,bc,ba,aY,bU,bj,bD,bF,bC,dA,mP,qj,↓evMap,bP,e1,gx,mK,qZ,iC,jg,iB,e2,jh,iE,yf,Mr,Et,IY,bB,c1,<-dh,jT,mQ,ql,bx,jX,nv,e3,oq,nq,qm,ny,iu,eL,eM,fJ,eJ]
inductive RR (bs:List az) (outs:List Str):Str->Prop
 |base {n:Str}:n∈outs->RR bs outs n
 |step {m n:Str} {b:az}:RR bs outs m->b∈bs->b.name=m->n∈b.outs->RR bs outs n
theorem jo:∀{ks:List Str} {n:Str},n∈outs.foldl gA ks↔n∈outs\/n∈ks:=by
 induction outs with
 |nil=>intro ks n;simp
 |cons o outs ih=>
  intro ks n;rw[xW,ih,Um,dZ];constructor
  ·rintro(h|h|h)
   ·exact .inl (.inr h)
   ·exact .inl (.inl h)
   ·exact .inr h
  ·rintro((h|h)|h)
   ·exact .inr (.inl h)
   ·exact .inl h
   ·exact .inr (.inr h)
theorem SF{b:Str}{x:az}{n:Str}(h:n∈ks):n∈cU b ks x:=by
 unfold cU;split
 ·exact jo.mpr (.inr h)
 ·exact h
theorem SG{b:Str}{bs:List az}:∀{ks:List Str} {n:Str},n∈ks->n∈bs.foldl (cU b) ks:=by
 induction bs with
 |nil=>intro ks n h;exact h
 |cons x bs ih=>intro ks n h;exact ih (SF h)
theorem L9{af:List Str}{b:Str}:∀{bs:List az} {ks:List Str} {n:Str},mw af bs->n∈bs.foldl (cU b) ks->n∈ks\/n∈bs.tail.map az.name\/n∈af
 |[],ks,n,_,h=>.inl h
 |x::bs,ks,n,f,h=>by
  rcases L9 f.2.2.2 h with z|z|z
  ·unfold cU at z;split at z
   ·rcases jo.mp z with z|z
    ·rcases f.1 n z with z|z
     ·exact .inr (.inl z)
     ·exact .inr (.inr z)
    ·exact .inl z
   ·exact .inl z
  ·refine .inr (.inl ?_);cases bs with
   |nil=>exact z
   |cons y bs=>exact lu _ z
  ·exact .inr (.inr z)
theorem Gu{af:List Str}{b:Str}:∀{bs:List az} {ks:List Str},mw af bs->∀x∈bs,(x.name=b\/x.name∈bs.foldl (cU b) ks)->∀o∈x.outs,o∈bs.foldl (cU b) ks
 |y::bs,ks,f,x,hx,hn,o,ho=>by
  rcases dZ.mp hx with rfl|hx
  ·have h1:(x.name == b || ks.contains x.name)=true:=by
    rcases hn with hn|hn
    ·rw[hn,beq_self_eq_true,Bool.true_or]
    ·rcases L9 (b:=b) f hn with z|z|z
     ·rw[s_.mpr z,Bool.or_true]
     ·exact absurd z f.2.1
     ·exact absurd z f.2.2.1
   show o∈bs.foldl (cU b) (cU b ks x);refine SG ?_;unfold cU;rw[if_pos h1];exact jo.mpr (.inl ho)
  ·exact Gu (ks:=cU b ks y) f.2.2.2 x hx hn o ho
theorem MN{AK:List az}{b:az}(hb:b∈AK)(hu:∀x∈AK,x.name=b.name->x=b):∀{bs:List az} {ks:List Str},(∀x∈bs,x∈AK)->(∀n∈ks,RR AK b.outs n)->∀n∈bs.foldl (cU b.name) ks,RR AK b.outs n
 |[],ks,_,h,n,hn=>h n hn
 |x::bs,ks,hs,h,n,hn=>MN hb hu (λy hy=>hs y (lu _ hy)) (λm hm=>by
   unfold cU at hm;split at hm
   ·rename_i hc
    rcases jo.mp hm with z|z
    ·rw[Bool.or_eq_true,beq_iff_eq,s_] at hc;rcases hc with hc|hc
     ·rw[hu x (hs x qN) hc] at z;exact .base z
     ·exact .step (h _ hc) (hs x qN) rfl z
    ·exact h m z
   ·exact h m hm) n hn
theorem SH(f:mw h.af h.aj)(hb:b∈h.aj)(n:Str):n∈tW h.aj b.name↔RR h.aj b.outs n:=by
 unfold tW;constructor
 ·exact MN hb (λx hx e=>MK f x hx b hb e) (λ_ m=>m) (λ_ m=>by cases m) n
 ·intro r
  induction r with
  |base m=>exact Gu f b hb (.inl rfl) _ m
  |step r hx hn hm ih=>exact Gu f _ hx (.inr (by rw[hn];exact ih)) _ hm
theorem Oo(x:Str)(ks:List Str)(e1:nX x)(hx:x∉ks)(hl:ks.length < 1000):vZ [fS x,.aK (kd ks)]=some (.Y .aI,[none,some (.aK (kd (ks++[x])))]):=by
 have hc:ks.contains x=false:=by rw[<-Bool.not_eq_true,s_];exact hx
 have e2:=ED false x ks;rw[hc,if_neg kU] at e2;have e3:=Om ks x (by lia)
 have ea:gA ks x=ks++[x]:=by unfold gA;rw[hc,if_neg kU]
 rw[ea] at e3;generalize kd (ks++[x])=k2 at *;generalize kd ks=k1 at *;unfold vZ GB;simp only[eF,cu,cB,bw,bz,bI,Nat.reduceAdd,Nat.reduceSub,dN,d_,dJ,dr,tV,qy,iP,gw,bc,ba,aY,↓ah,bj,bD,bF,bC,du,bP,dt,e1,tO,iV,kM,dy,cR,bL,bx,nD,jX,e2,if_false,sy,dD,IF,bU,e3,cG,bS,nU,eL,eM,fJ,mC,eJ,if_true]
theorem V4(g:bR h):zM [fL h.af,.aK (kd [])]=some (.Y .aI,[none,some (.aK (kd h.af))]):=by
 have ct:=g.sm.ct;have hn:=g.cn;obtain⟨U',e,a,rfl⟩:=qo (g:=aX 2) (f:=iO (bN vZ (ao (aa 2) (ao (aa 1) gN)))) D.str (λpre U=>∃a,U=[some (fL h.af),some (.aK (kd pre)),a]) h.af [] [some (fL h.af),some (.aK (kd [])),none] ⟨_,rfl⟩ (by
  rintro q x post U eq ⟨a,rfl⟩;rw[iA] at *;have hx:x∉q:=λz=>by
   rw[eq] at hn;exact(hV.mp hn).2.2 x z x (.head _) rfl
  have hc:x∈h.af:=by rw[eq];simp
  have hq:q.length < 1000:=by have:=congrArg List.length eq;simp at this;lia
  have e1:=Oo x q (g.cm x hc) hx hq;refine⟨_,?_,some (fS x),rfl⟩;generalize kd (q++[x])=k2 at *;generalize kd q=k1 at *;generalize h.af=cs at *;simp only[fP,bw,bz,bI,Nat.reduceAdd,Nat.reduceLT,cG,bS,if_true,↓ah,jK,iC,bc,ba,bx,aY,bj,jg,nO,iB,e1,jh,nQ,iE])
 rw[iA] at e;have ht:(h.af.map D.str).isEmpty=false:=by
  have:=g.c0;cases sQ:h.af with
  |nil=>rw[sQ] at this;simp at this
  |cons _ _=>rfl
 unfold zM Gf;generalize kd h.af=k2 at *;generalize kd []=k1 at *;simp only[eF,cu,cB,bw,bz,bI,Nat.reduceAdd,Nat.reduceSub,gk,dN,gr,gI,dJ,pK,cI,ba,aY,↓ah,bP,e,dr,qy,iP,bF,Nk,ht,vP,kM,dy,sy,dD,if_false,nU,eL,eM,fJ,mC,eJ,if_true]
theorem V5(g:bR h):Dm [.Y (.lst (h.aj.map ay)),.aK (kd h.af)]=some (.Y .aI,[none,some (.aK (kd (h.af++h.aj.map az.name)))]):=by
 have ct:=g.sm.ct;have bl:=g.sm.bl;have fw:=g.fwd;have lg:=g.lg;obtain⟨U',e,a2,a3,a4,a5,a6,rfl⟩:=qo (g:=cT [(aX 2),(aX 3),(aX 4),(aX 5)]) (f:=(aW (iO (bN vZ (ao (aa 2) (ao (aa 1) gN))))
 (aW (aF 6 (gF (t9 (dc (aa 4)) (gC (.int 2)) (gC (.int 1)))))
 (bQ (gT (gB oLt (aa 3) (aa 6)))
  nS
  aQ)))) ay (λpre U=>∃a2 a3 a4 a5 a6,U=[some (.Y (.lst (h.aj.map ay))),some (.aK (kd (h.af++pre.map az.name))),a2,a3,a4,a5,a6]) h.aj [] [some (.Y (.lst (h.aj.map ay))),some (.aK (kd h.af)),none,none,none,none,none] ⟨none,none,none,none,none,by rw[sd,d_]⟩ (by
  rintro q x post U eq ⟨a2,a3,a4,a5,a6,rfl⟩;rw[iA] at *;have hb:x∈h.aj:=by rw[eq];simp
  have hx:x.name∉h.af++q.map az.name:=λz=>by
   rcases jw.mp z with z|z
   ·exact Hj fw _ z (pe hb)
   ·obtain⟨y,hy,ey⟩:=gL.mp z;have:∀{bs q:List az} {x:az} {post:List az},mw h.af bs->bs=q++x::post->∀y∈q,y.name≠x.name:=by
     intro bs q
     induction q generalizing bs with
     |nil=>intro x post _ _ y hy;cases hy
     |cons w q ih=>
      intro x post fw eq y hy;rw[eq] at fw;rcases dZ.mp hy with rfl|hy
      ·intro z;exact fw.2.1 (by rw[z];simp)
      ·exact ih fw.2.2.2 rfl y hy
    exact this fw eq y hy ey
  have hq:(h.af++q.map az.name).length < 1000:=by have:=congrArg List.length eq;simp at this ⊢;lia
  have e1:=Oo x.name _ (g.nm x hb) hx hq;have hk:h.af++(q++[x]).map az.name=h.af++q.map az.name++[x.name]:=by simp
  have hg:=lg x hb;rw[hk];refine⟨[some (.Y (.lst (h.aj.map ay))),some (.aK (kd (h.af++q.map az.name++[x.name]))),some (fS x.name),some (.Y (.int x.long)),some (.Y (.bl x.ring)),some (fL x.outs),some (.Y (.int (if x.ring=true then 2 else 1)))],?_,_,_,_,_,_,rfl⟩
  generalize kd (h.af++q.map az.name++[x.name])=k2 at *;generalize kd (h.af++q.map az.name)=k1 at *;generalize h.aj.map ay=bs at *;unfold ay;cases hr:x.ring with
  |true=>
   have c2:decide (x.long < 2)=false:=by have:=hg.2 hr;simp;lia
   simp only[pH,pG,fP,bw,bz,bI,Nat.reduceAdd,Nat.reduceLT,cG,bS,if_true,↓ah,pF,dJ,jK,iC,bc,ba,bx,aY,bj,jg,nO,iB,e1,jh,nQ,iE,ef,cI,sJ,iP,bF,iV,bU,bP,dr,cR,bL,bD,bC,iW,c2,dy,sy,dD,if_false]
  |false=>
   have c2:decide (x.long < 1)=false:=by have:=hg.1;simp;lia
   simp only[pH,pG,fP,bw,bz,bI,Nat.reduceAdd,Nat.reduceLT,cG,bS,if_true,↓ah,pF,dJ,jK,iC,bc,ba,bx,aY,bj,jg,nO,iB,e1,jh,nQ,iE,ef,cI,sJ,iP,bF,iV,dy,bU,if_false,bP,dr,cR,bL,bD,bC,iW,c2,sy,dD])
 rw[iA] at e;unfold Dm Gg;generalize kd (h.af++h.aj.map az.name)=k2 at *;generalize kd h.af=k1 at *;generalize h.aj.map ay=bs at *;simp only[eF,cu,cB,bw,bz,bI,Nat.reduceAdd,Nat.reduceSub,gk,dN,gr,gI,pK,cI,ba,aY,↓ah,bP,e,nU,eL,eM,fJ,mC,eJ,if_true]
theorem Lc{x z:Str}:∀{ys:List Str} {j:Nat},ys[j]?=some z->x∈ys->x≠z->x∈ys.eraseIdx j
 |y::ys,0,e,hx,lH=>by
  rw[List.getElem?_cons_zero] at e;cases e;rcases dZ.mp hx with rfl|hx
  ·exact absurd rfl lH
  ·exact hx
 |y::ys,j+1,e,hx,lH=>by
  rw[List.getElem?_cons_succ] at e;show x∈y::ys.eraseIdx j;rcases dZ.mp hx with rfl|hx
  ·exact .head _
  ·exact .tail _ (Lc e hx lH)
 |[],_,_,hx,_=>by cases hx
theorem SI{z:Str}{ys:List Str}(h:z∈ys):∃j,findS ys z=some j:=by
 cases q:findS ys z with
 |some j=>exact⟨j,rfl⟩
 |none=>
  unfold findS at q;rw[List.findIdx?_eq_none_iff] at q;have:=q z h;simp at this
theorem V6(outs L:List Str)(nd:outs.Nodup)(hs:∀o∈outs,o∈L)(s0 s1 s2 s3 s4 s5 a7:Option O):∃b6 b7,iD (aX 7) uu (outs.map D.str) [s0,s1,s2,s3,s4,s5,some (.lst (L.map fS)),a7]=some (.nx,[s0,s1,s2,s3,s4,s5,b6,b7]):=by
 obtain⟨U',e,L',b7,rfl,_⟩:=qo (g:=aX 7) (f:=uu) D.str (λpre U=>∃L' b7,U=[s0,s1,s2,s3,s4,s5,some (.lst (L'.map fS)),b7]/\∀o∈outs,o∉pre->o∈L') outs [] [s0,s1,s2,s3,s4,s5,some (.lst (L.map fS)),a7] ⟨L,a7,rfl,λo ho _=>hs o ho⟩ (by
  rintro q x post U eq ⟨L',b7,rfl,hL⟩;rw[iA] at *;have Zx:x∉q:=λz=>by
   rw[eq] at nd;exact(hV.mp nd).2.2 x z x (.head _) rfl
  have hx:x∈L':=hL x (by rw[eq];simp) Zx
  obtain⟨j,hj⟩:=SI hx;have e1:=uV true x L';rw[s_.mpr hx,if_pos rfl] at e1;have e2:AB (.lst (L'.map fS)) [.Y (.str x)]=some (.lst ((L'.eraseIdx j).map fS),.Y .aI):=(R7 L' x).trans (by rw[hj];rfl)
  refine⟨[s0,s1,s2,s3,s4,s5,some (.lst ((L'.eraseIdx j).map fS)),some (fS x)],?_,L'.eraseIdx j,some (fS x),rfl,λo ho hq=>?_⟩
  ·generalize(L'.eraseIdx j).map fS=l2 at *;generalize L'.map fS=l1 at *;unfold uu;simp only[fP,bw,bz,bI,Nat.reduceAdd,Nat.reduceLT,cG,bS,if_true,↓ah,dJ,dr,cR,bL,bc,ba,bx,aY,bj,bD,bF,nD,jX,bC,e1,kM,dy,sy,dD,if_false,jK,oI,fW,eS,e2]
  ·simp only[jw,qO,not_or] at hq;exact Lc (GK hj).1 (hL o ho hq.1) hq.2)
 exact⟨_,b7,e⟩
theorem Up(q:List az)(x:az)(post:List az)(i:Int)(hi:i=(q.length:Nat)):vB (.Y (.lst ((q++x::post).map ay))) (some (i+1)) none=some (.lst ((post.map ay).map .Y)):=by
 show some (O.lst ((cutD ((q++x::post).map ay) (some (i+1)) none).map .Y))=_;have:cutD ((q++x::post).map ay) (some (i+1)) none=post.map ay:=by
  unfold cutD;have e4:HT.c8 ((q++x::post).map ay).length 0 (some (i+1))=q.length+1:=by
   unfold HT.c8;simp only[bB,gK,bw];rw[if_neg (by lia)]
   lia
  have e5:HT.c8 ((q++x::post).map ay).length ((q++x::post).map ay).length none=((q++x::post).map ay).length:=rfl;have e6:((q++x::post).map ay).drop (q.length+1)=post.map ay:=by
   rw[<-List.map_drop,show q++x::post=(q++[x])++post by simp,List.drop_left' (by simp)]
  rw[e4,e5,e6];exact List.take_of_length_le (by rw[bB,bB,gK,jV];lia)
 rw[this]
theorem SJ(g:bR h)(ho:∀b∈h.aj,b.outs≠[]):Dq [.Y (.lst (h.aj.map ay)),fL h.af]=some (.Y .aI,[none,none]):=by
 have bl:=g.sm.bl;have ct:=g.sm.ct;have fw:=g.fwd;have nd:=g.nd;obtain⟨U',e,a2,a3,a4,a5,a6,a7,rfl⟩:=SD (g:=cT [(aX 2),(aX 3)]) (f:=Ik) ay (λpre U=>∃a2 a3 a4 a5 a6 a7,U=[some (.Y (.lst (h.aj.map ay))),some (fL h.af),a2,a3,a4,a5,a6,a7]) h.aj [some (.Y (.lst (h.aj.map ay))),some (fL h.af),none,none,none,none,none,none] ⟨_,_,_,_,_,_,rfl⟩ (by
  rintro q x post U i eq hi ⟨a2,a3,a4,a5,a6,a7,rfl⟩;have hb:x∈h.aj:=by rw[eq];simp
  have hp:post.length < 1000000:=by have:=congrArg List.length eq;simp at this;lia
  have fx:mw h.af (x::post):=GQ (by rw[<-eq];exact fw)
  have sl:=Up q x post i hi;rw[<-eq] at sl;have e1:=yx post hp;have fz:fY ((post.map az.name).map fS)=some ((post.map az.name).map D.str):=by
   rw[show(post.map az.name).map fS=((post.map az.name).map D.str).map O.Y by simp[Function.comp_def],uM]
  have c1:(((post.map az.name).map D.str).length+(h.af.map D.str).length<=1000000)=True:=eq_true (by rw[bB,bB,bB];have:=congrArg List.length eq;simp at this;lia)
  have en:((post.map az.name).map D.str++h.af.map D.str).map O.Y=(post.map az.name++h.af).map fS:=by rw[<-dh,jx];rfl
  obtain⟨b6,b7,el⟩:=V6 x.outs (post.map az.name++h.af) (nd x hb) (λo m=>by
   rcases fx.1 o m with z|z
   ·exact lx _ z
   ·exact ja _ z) (some (.Y (.lst (h.aj.map ay)))) (some (fL h.af)) (some (.Y (.int i))) (some (fB x)) (some (fS x.name)) (some (fL x.outs)) a7
  have ht:(x.outs.map D.str).isEmpty=false:=by
   have:=ho x hb;cases sQ:x.outs with
   |nil=>exact absurd sQ this
   |cons _ _=>rfl
  have il:=X7 (x.outs.map D.str);have i0:=zi x;have i3:=PH x;refine⟨[some (.Y (.lst (h.aj.map ay))),some (fL h.af),some (.Y (.int i)),some (fB x),some (fS x.name),some (fL x.outs),b6,b7],?_,_,_,_,_,_,_,rfl⟩;generalize(post.map az.name++h.af).map fS=l2 at *;generalize(post.map az.name).map fS=l1 at *;generalize(post.map az.name).map D.str=l3 at *;generalize h.aj.map ay=bs at *;generalize post.map ay=ps at *;unfold Ik;simp only[pH,pG,fP,bw,bz,bI,Nat.reduceAdd,Nat.reduceLT,cG,bS,if_true,↓ah,pF,dJ,ef,bL,bc,ba,bx,aY,bU,bj,bD,bF,bC,dA,i0,cI,sJ,iP,i3,il,iV,fV,Nat.reduceLeDiff,eS,bP,iC,Mp,Nh,jB,Nj,↓evMap,Ng,sl,jT,mQ,jg,iB,e1,jh,iE,Mr,Et,fz,c1,en,pK,el,dr,qy,Nk,ht,vP,kM,dy,sy,dD,if_false])
 unfold Dq;unfold Gq;generalize h.aj.map ay=bs at *;simp only[eF,cu,cB,bw,bz,bI,Nat.reduceAdd,Nat.reduceSub,gk,dN,gr,gI,Vv,cI,ba,aY,↓ah,bP,e,nU,eL,eM,fJ,eJ,if_true]
theorem Uq{bs:List az}{w:az}(hw:w∈bs)(r:RR bs outs w.name){n:Str}(r2:RR bs w.outs n):RR bs outs n:=by
 induction r2 with
 |base m=>exact .step r hw rfl m
 |step _ hb hn hm ih=>exact .step ih hb hn hm
theorem Ip{h:aU}(g:bR h):∀{bs pre:List az},h.aj=pre++bs->∀b∈bs,RR h.aj b.outs (h.af.getD 0 "")
 |x::bs,pre,eq,b,hb=>by
  have Jg:h.aj=(pre++[x])++bs:=by rw[eq];simp
  rcases dZ.mp hb with rfl|hb
  ·have Y5:b∈h.aj:=by rw[eq];simp
   have fx:mw h.af (b::bs):=GQ (by rw[<-eq];exact g.fwd)
   rcases g.hd b Y5 with z|⟨o,z1,z2⟩
   ·exact .base z
   ·rcases fx.1 o z1 with y|y
    ·obtain⟨w,hw,ew⟩:=gL.mp y;exact Uq (w:=w) (by rw[Jg];simp[hw]) (by rw[ew];exact .base z1) (Ip g Jg w hw)
    ·exact absurd z2 (Hj g.fwd o y)
  ·exact Ip g Jg b hb
theorem Xg(g:bR h):Ds [.Y (c_ h)]=some (.Y .aI,[none]):=by
 have bl:=g.sm.bl;have hc:h.af.getD 0 ""∈h.af:=by
  have:=g.c0;cases sQ:h.af with
  |nil=>rw[sQ] at this;simp at this
  |cons c cs=>simp
 have i0:cF (.Y (.lst (h.af.map .str))) (.int 0)=some (fS (h.af.getD 0 "")):=by
  have:=g.c0;cases sQ:h.af with
  |nil=>rw[sQ] at this;simp at this
  |cons c cs=>exact V3 c cs
 have e1:=yx h.aj (by lia)
 obtain⟨U',e,a,rfl⟩:=DO (g:=aX 2) (f:=(bQ (gT (gB (a_ true) (aa 1) (bN zW (ao (aa 0) (ao (aa 2) gN)))))
  nS
  aQ)) (λb:az=>D.str b.name) (λU=>∃a,U=[some (.Y (c_ h)),some (fS (h.af.getD 0 "")),a]) h.aj [some (.Y (c_ h)),some (fS (h.af.getD 0 "")),none] ⟨_,rfl⟩ (by
  rintro b hb U ⟨a,rfl⟩;have e1:=SE h b.name g.sm;have hm:h.af.getD 0 ""∈(h.aj.map az.name++h.af).filter λx=>(tW h.aj b.name).contains x:=by
   rw[zm];exact⟨ja _ hc,s_.mpr ((SH g.fwd hb _).mpr (Ip g (pre:=[]) rfl b hb))⟩
  have e2:=uV true (h.af.getD 0 "") ((h.aj.map az.name++h.af).filter λx=>(tW h.aj b.name).contains x)
  rw[s_.mpr hm,if_pos rfl] at e2;refine⟨[some (.Y (c_ h)),some (fS (h.af.getD 0 "")),some (fS b.name)],?_,_,rfl⟩;generalize((h.aj.map az.name++h.af).filter λx=>(tW h.aj b.name).contains x).map fS=l at *
  generalize h.af.getD 0 ""=hand at *;simp only[fP,bw,bz,bI,Nat.reduceAdd,Nat.reduceLT,cG,bS,if_true,↓ah,dr,cR,bL,bc,ba,bx,aY,iC,bj,jg,iB,e1,jh,iE,bD,bF,bC,e2,kM,dy,sy,dD,if_false])
 have e0:=vJ h;have BB:=xT h;have dn:=OJ (h.aj.map az.name);have mn:(h.aj.map az.name).map D.str=h.aj.map λb=>D.str b.name:=by rw[jx];rfl
 rw[mn] at dn;unfold Ds Gs;generalize h.aj.map (λb=>D.str b.name)=l1 at *
 generalize(h.aj.map az.name).map fS=l2 at *;generalize h.af.getD 0 ""=hand at *;simp only[eF,cu,cB,bw,bz,bI,Nat.reduceSub,gk,dN,gr,gI,dJ,ef,bL,bc,ba,aY,↓ah,bU,bj,bD,bF,bC,dA,BB,i0,Nat.reduceAdd,Nat.reduceLT,cG,bS,if_true,pK,cI,iC,e0,jg,iB,e1,jh,iE,jT,dn,e,nU,eL,eM,fJ,eJ]
theorem V7(g:bR h):Dn [.Y (c_ h)]=some (.Y (.bl true),[none]):=by
 have ho:∀b∈h.aj,b.outs≠[]:=λb hb z=>by
  rcases g.hd b hb with y|⟨o,y,_⟩
  ·rw[z] at y;cases y
  ·rw[z] at y;cases y
 have e1:zM [fL h.af,.aK []]=some (.Y .aI,[none,some (.aK (kd h.af))]):=V4 g;have e2:=V5 g;have e3:=SJ g ho;have e4:=Xg g;have e0:=vJ h;have BB:=xT h;unfold Dn Gh;generalize kd (h.af++h.aj.map az.name)=k2 at *;generalize kd h.af=k1 at *;simp only[eF,cu,cB,bw,bz,bI,Nat.reduceSub,gk,dN,gr,gI,dJ,ef,bL,bc,ba,aY,↓ah,bU,bj,bD,bF,bC,dA,e0,Nat.reduceAdd,Nat.reduceLT,cG,bS,if_true,BB,DN,jK,iC,bx,jg,nO,iB,e1,jh,nQ,iE,e2,e3,e4,gx,iu,eL,eM,fJ,eJ]
theorem Xh(ns:List Int)(k:Nat)(names af:List Str)(bs:List O)(rg:Bool)(l:Int)(hl:1<=l/\l<=25):∃l':Int,(1<=l'/\l'<=25)/\yZ [some (.Y (.aS ns)),some (fL names),some (fL af),some (.lst bs),some (.Y (.int k)),some (.Y (.bl rg)),some (.Y (.int l))]=some (.nx,[some (.Y (.aS ns)),some (fL names),some (fL af),some (.lst bs),some (.Y (.int k)),some (.Y (.bl rg)),some (.Y (.int l'))]):=by
 have ht:oA [.Y (.aS ns),.Y (.int 0),.Y (.int 3)]=_:=AD ns 0 3 (by decide) (by decide)
 obtain⟨d1,d2,d3⟩:=kW ns 0 3 14 (by decide) (by decide) (by decide)
 have d1:j_ [.Y (.aS ns),.Y (.int 0),.Y (.int 3),.Y (.int 14)]=_:=d1;have el:((names.map D.str).length:Int)=(names.length:Int):=by rw[bB]
 generalize(k:Int)=ki;generalize(names.length:Int)=nl at el;generalize bM ns 0 2 3=tv at ht;generalize bM ns 0 3 14=dv at d1 d2 d3;cases e1:(ki == 0) with
 |false=>
  refine⟨l,hl,?_⟩;unfold yZ;simp only[dr,lC,cR,bL,bc,ba,bx,aY,↓ah,bU,bj,bD,bF,bC,iQ,bP,kO,and_self,kR,e1,if_true,dy,kc,lV,↓evMap,iW,decide_eq_true_eq,gw,du,dt,cu,cB,if_false,ef,cI,dD]
 |true=>
  by_cases e2:nl < 3
  ·cases e3:(tv == 1) with
   |false=>
    refine⟨l,hl,?_⟩;have wN:=eq_true e2;unfold yZ;simp only[dr,lC,cR,bL,bc,ba,bx,aY,↓ah,bU,bj,bD,bF,bC,iQ,bP,kO,and_self,kR,e1,if_true,kc,lV,el,↓evMap,iW,wN,decide_true,gw,du,dt,cu,cB,ht,ka,e3,dy,ef,cI,dD,if_false]
   |true=>
    refine⟨10+dv,by lia,?_⟩
    have wN:=eq_true e2;unfold yZ;simp only[dr,lC,cR,bL,bc,ba,bx,aY,↓ah,bU,bj,bD,bF,bC,iQ,bP,kO,and_self,kR,e1,if_true,kc,lV,el,↓evMap,iW,wN,decide_true,gw,du,dt,cu,cB,ht,ka,e3,ef,cI,d1,jB,bw,bz,bI,Nat.reduceAdd,Nat.reduceLT,cG,bS,dD]
  ·refine⟨l,hl,?_⟩;have wN:=eq_false e2;unfold yZ;simp only[dr,lC,cR,bL,bc,ba,bx,aY,↓ah,bU,bj,bD,bF,bC,iQ,bP,kO,and_self,kR,e1,if_true,kc,lV,el,↓evMap,iW,wN,decide_false,dy,gw,du,dt,cu,cB,if_false,ef,cI,dD]
theorem Xi(ns:List Int)(k:Int)(names af:List Str)(bs:List O)(rg:Bool)(l:Int):Jw [some (.Y (.aS ns)),some (fL names),some (fL af),some (.lst bs),some (.Y (.int k)),some (.Y (.bl rg)),some (.Y (.int l))]=some (.nx,[some (.Y (.aS ns)),some (fL names),some (fL af),some (.lst bs),some (.Y (.int k)),some (.Y (.bl rg)),some (.Y (.int (if rg=true then l+1 else l)))]):=by
 unfold Jw;cases rg with
 |true=>simp only[dr,iP,ba,bx,aY,↓ah,bF,iV,ef,cI,bL,bc,bU,bj,bD,bC,jB,bP,bw,bz,bI,Nat.reduceAdd,Nat.reduceLT,cG,bS,if_true,dD]
 |false=>simp only[dr,iP,ba,bx,aY,↓ah,bF,iV,dy,ef,cI,bL,bc,bU,bj,bD,bC,jB,bP,bw,bz,bI,Nat.reduceAdd,Nat.reduceLT,cG,bS,if_true,dD,if_false]
theorem X8(ns:List Int)(k:Int)(names af:List Str)(bs:List az)(rg:Bool)(l:Int)(nm:Str)(outs:List Str)(hb:(bs.map fB).length < 1000000)(ha:dw (names.map D.str) k=some (.str nm))(ho:yi [.Y (.aS ns),.Y (.int k),fL names,fL af]=some (.lst (outs.map fS),[none,none,none,none])):
  hA [some (.Y (.aS ns)),some (fL names),some (fL af),some (.lst (bs.map fB)),some (.Y (.int k)),some (.Y (.bl rg)),some (.Y (.int l))]=some (.nx,[some (.Y (.aS ns)),some (fL names),some (fL af),some (.lst ((bs++[az.mk nm l rg outs]).map fB)),some (.Y (.int k)),some (.Y (.bl rg)),some (.Y (.int l))]):=by
 rw[dh,cv,sd];rw[show fB (az.mk nm l rg outs)=.Y (.tup [.str nm,.int l,.bl rg,.lst (outs.map .str)]) from rfl];unfold hA;generalize bs.map fB=bl at *;have hm:∀x:O,qx (.lst bl) [x]=some (.lst (bl++[x]),.Y .aI):=λx=>if_pos hb
 simp only[jK,oI,ba,bx,aY,↓ah,bc,cI,fV,bL,bj,bD,bF,bC,dA,sI,ha,↓evMap,iC,jg,iB,ho,jh,iE,jT,wI,bw,bz,bI,Nat.reduceAdd,Nat.reduceLeDiff,fW,eS,if_true,kX,du,bP,dt,hm,cG,bS]
theorem V8(ns:List Int)(k:Nat)(names af:List Str)(hand:Str)(bs:List az)(a5 a6:Option O)(hk:k < names.length)(hl:names.length<=5)(hh:af.head?=some hand)(hc:af.length<=4)(hb:bs.length<=100):
  ∃b:az,b.name=names.getD k ""/\(1<=b.long/\b.long<=26)/\(b.ring=true->2<=b.long)/\lS (names.drop (k+1)) af hand b.outs/\∃FW FX,hB [some (.Y (.aS ns)),some (fL names),some (fL af),some (.lst (bs.map fB)),some (.Y (.int k)),a5,a6]=some (.nx,[some (.Y (.aS ns)),some (fL names),some (fL af),some (.lst ((bs++[b]).map fB)),some (.Y (.int k)),FW,FX]):=by
 have hp:=yG ns (1+k) 3 (by lia) (by decide)
 have ho:=yv ns (1+k) 5 (by lia) (by decide)
 obtain⟨o1,o2,o3⟩:=kW ns (1+k) 1 5 (by lia) (by decide) (by decide)
 rw[show((1+k:Nat):Int)=1+(k:Int) by lia] at hp ho
 obtain⟨outs,ok,eo⟩:=Xf ns k names af hand (by lia) hl hh hc
 obtain⟨l',l1,e1⟩:=Xh ns k names af (bs.map fB) (bM ns (1+k) 0 3 == 0) (1+bM ns (1+k) 1 5) (by lia)
 have e2:=Xi ns k names af (bs.map fB) (bM ns (1+k) 0 3 == 0) l';have ha:=NG (xs:=names) (k:=(k:Int)) (by lia) (by lia)
 rw[Int.toNat_natCast] at ha;have e3:=X8 ns k names af bs (bM ns (1+k) 0 3 == 0) (if(bM ns (1+k) 0 3 == 0)=true then l'+1 else l') _ outs (by rw[bB];lia) ha eo
 refine⟨az.mk (names.getD k "") (if(bM ns (1+k) 0 3 == 0)=true then l'+1 else l') (bM ns (1+k) 0 3 == 0) outs,rfl,?_,λhr=>?_,ok,some (.Y (.bl (bM ns (1+k) 0 3 == 0))),some (.Y (.int (if(bM ns (1+k) 0 3 == 0)=true then l'+1 else l'))),?_⟩
 ·show 1<=(if(bM ns (1+k) 0 3 == 0)=true then l'+1 else l')/\(if(bM ns (1+k) 0 3 == 0)=true then l'+1 else l')<=26
  split <;> lia
 ·have hr:(bM ns (1+k) 0 3 == 0)=true:=hr;show 2<=if(bM ns (1+k) 0 3 == 0)=true then l'+1 else l'
  rw[if_pos hr];lia
 ·generalize(bs++[az.mk (names.getD k "") (if(bM ns (1+k) 0 3 == 0)=true then l'+1 else l') (bM ns (1+k) 0 3 == 0) outs]).map fB=b2 at *
  generalize bs.map fB=b1 at *;generalize(if(bM ns (1+k) 0 3 == 0)=true then l'+1 else l')=l2 at *
  generalize(k:Int)=ki at *;generalize bM ns (1+k) 0 3=pv at *;unfold hB;simp only[dJ,ef,bL,bc,gw,ba,aY,↓ah,bU,bx,bj,bD,bF,bC,jB,du,bP,dt,cu,cB,hp,ka,iQ,kO,and_self,kR,if_true,bw,bz,bI,Nat.reduceAdd,Nat.reduceLT,cG,bS,cI,ho,e1,e2,e3]
theorem Rk(ns:List Int)(n:Nat)(hn:n<=14):∃a,compLoop (aX 0) cX (dX mJ (ao (aa 1) (ao (gC (.int 11)) (ao (aa 0) gN)))) (ig 0 n) [none,some (.Y (.aS ns))] []=some ((((List.range n).map (jN ns 11)).map D.str).map .Y,[a,some (.Y (.aS ns))]):=by
 obtain⟨U,⟨a,rfl⟩,e⟩:=tN (g:=aX 0) (ct:=cX) (ce:=dX mJ (ao (aa 1) (ao (gC (.int 11)) (ao (aa 0) gN)))) (λU=>∃a,U=[a,some (.Y (.aS ns))]) (λ(k:Nat)=>D.int (0+(k:Int))) (λk=>D.str (jN ns 11 k)) (List.range n) [none,some (.Y (.aS ns))] ⟨_,rfl⟩ (by rw[uF];lia) λi m U hU=>by
  obtain⟨a,rfl⟩:=hU;have h:=IM ns 11 (by decide) i (by have:=mF.mp m;lia)
  rw[show((11:Nat):Int)=11 from rfl] at h;refine⟨[some (.Y (.int (i:Int))),some (.Y (.aS ns))],?_,⟨_,rfl⟩⟩;rw[C8];generalize(i:Int)=ii at *;simp only[mB,fP,bw,bz,bI,Nat.reduceAdd,Nat.reduceLT,bS,if_true,↓ah,rm,gw,bc,ba,bx,aY,bU,bj,bD,bF,bC,du,bP,dt,cu,cB,h,Ib]
 rw[yg];exact⟨a,by rw[e];simp only[jx,Function.comp_def]⟩
theorem Rl(ns:List Int)(n:Nat)(hn:n<=4):∃a,compLoop (aX 0) cX (dX mJ (ao (aa 1) (ao (gC (.int 11)) (ao (gB bq (gC (.int 10)) (aa 0)) gN)))) (ig 0 n) [none,some (.Y (.aS ns))] []=some ((((List.range n).map λi=>jN ns 11 (10+i)).map D.str).map .Y,[a,some (.Y (.aS ns))]):=by
 obtain⟨U,⟨a,rfl⟩,e⟩:=tN (g:=aX 0) (ct:=cX) (ce:=dX mJ (ao (aa 1) (ao (gC (.int 11)) (ao (gB bq (gC (.int 10)) (aa 0)) gN)))) (λU=>∃a,U=[a,some (.Y (.aS ns))]) (λ(k:Nat)=>D.int (0+(k:Int))) (λk=>D.str (jN ns 11 (10+k))) (List.range n) [none,some (.Y (.aS ns))] ⟨_,rfl⟩ (by rw[uF];lia) λi m U hU=>by
  obtain⟨a,rfl⟩:=hU;have h:=IM ns 11 (by decide) (10+i) (by have:=mF.mp m;lia)
  rw[show((11:Nat):Int)=11 from rfl] at h;rw[show((10+i:Nat):Int)=10+(i:Int) by lia] at h
  refine⟨[some (.Y (.int (i:Int))),some (.Y (.aS ns))],?_,⟨_,rfl⟩⟩;rw[C8];generalize(i:Int)=ii at *;simp only[mB,fP,bw,bz,bI,Nat.reduceAdd,Nat.reduceLT,bS,if_true,↓ah,rm,gw,bc,ba,bx,aY,bU,bL,bj,bD,bF,bC,jB,du,bP,dt,cu,cB,h,Ib]
 rw[yg];exact⟨a,by rw[e];simp only[jx,Function.comp_def]⟩
theorem L_(names af:List Str)(nd:names.Nodup)(dj:∀x∈names,x∉af):∀(bs:List az) (j:Nat),j+bs.length=names.length->(∀i b,bs[i]?=some b->b.name=names.getD (j+i) ""/\∀o∈b.outs,o∈names.drop (j+i+1)++af)->mw af bs/\bs.map az.name=names.drop j
 |[],j,hl,_=>⟨True.intro,by rw[List.drop_eq_nil_of_le (by simp at hl;lia)];rfl⟩
 |b::bs,j,hl,h=>by
  rw[jV] at hl;obtain⟨f,e⟩:=L_ names af nd dj bs (j+1) (by lia) λi b hb=>by
   have:=h (i+1) b (by simpa using hb)
   rw[show j+(i+1)=j+1+i by lia] at this
   exact this
  obtain⟨h1,h2⟩:=h 0 b rfl;rw[Nat.add_zero] at h1 h2;have hj:j < names.length:=by lia
  have ed:names.drop j=names[j]::names.drop (j+1):=Ft hj;have en:b.name=names[j]:=by rw[h1,vO,jW hj];rfl
  have qM:(names.drop j).Nodup:=nd.sublist (List.drop_sublist _ _);rw[ed] at qM;refine⟨⟨λo ho=>?_,?_,?_,f⟩,by rw[cv,e,en,ed]⟩
  ·rcases jw.mp (h2 o ho) with z|z
   ·exact .inl (by rw[e];exact z)
   ·exact .inr z
  ·rw[e,en];exact(j7.mp qM).1
  ·rw[en];exact dj _ (se hj)
theorem NH:∀{bs:List az},(∀b∈bs,b.outs.length<=4)->(bs.map λx=>x.outs.length).sum<=4 * bs.length
 |[],_=>cP _
 |b::bs,h=>by
  rw[cv,List.sum_cons,jV];have:=NH λb m=>h b (lu _ m)
  have:=h b (qN ..);lia
theorem MO(ns:List Int)(l:List Nat)(nd:l.Nodup)(hl:∀i∈l,i < 14):(l.map (jN ns 11)).Nodup:=by
 rw[List.Nodup,zB];exact nd.imp_of_mem λha hb ne z=>ne (IP ns 11 (by decide) _ _ (by have:=hl _ ha;lia) (by have:=hl _ hb;lia) z)
theorem SK(ns:List Int)(n c:Int)(names af:List Str)(a1 a2 a4 a5 a6:Option O)(bs:List O)(hp:oC [.Y (.aS ns),.Y (.int 0),.Y (.int 5)]=some (.Y (.int n),[none,none,none]))(ho:nN [.Y (.aS ns),.Y (.int 0),.Y (.int 4)]=some (.Y (.int c),[none,none,none]))
  (i1:gY [.own (.Y (.int (1+n)))]=some (1+n)) (i2:gY [.own (.Y (.int (1+c)))]=some (1+c)) (nl:Int) (el:((names.map D.str).length:Int)=nl) (i3:gY [.own (.Y (.int nl))]=some nl)
  (e1:compLoop (aX 0) cX (dX mJ (ao (aa 1) (ao (gC (.int 11)) (ao (aa 0) gN)))) (ig 0 (1+n).toNat) [none,some (.Y (.aS ns))] []=some ((names.map D.str).map .Y,[a1,some (.Y (.aS ns))]))
  (e2:compLoop (aX 0) cX (dX mJ (ao (aa 1) (ao (gC (.int 11)) (ao (gB bq (gC (.int 10)) (aa 0)) gN)))) (ig 0 (1+c).toNat) [none,some (.Y (.aS ns))] []=some ((af.map D.str).map .Y,[a2,some (.Y (.aS ns))]))
  (e3:iD (aX 4) hB (ig 0 nl.toNat) [some (.Y (.aS ns)),some (fL names),some (fL af),some (.lst []),none,none,none]=some (.nx,[some (.Y (.aS ns)),some (fL names),some (fL af),some (.lst bs),a4,a5,a6])) :
  yc [.Y (.aS ns)]=some (.tup [.lst bs,fL af],[none]):=by
 unfold yc;unfold Hi;unfold cN cC;simp only[eF,cu,cB,bw,bz,bI,Nat.reduceSub,gk,dN,gr,gI,dJ,ef,cI,mK,Mq,bc,bL,bU,↓ah,gw,ba,aY,bj,bD,bF,bC,du,bP,dt,hp,ka,jB,i1,↓evMap,ql,jX,bS,nv,e1,Nat.reduceAdd,oq,nq,qm,ny,if_true,jT,mQ,Nat.reduceLT,cG,ho,i2,e2,fV,Nat.reduceLeDiff,eS,AW,bx,kc,lV,el,i3,e3,gx,yq,fW,iu,eL,eM,fJ,eJ]
theorem V9(ns:List Int):∃h:aU,bR h/\(∀b∈h.aj,b.long<=26)/\0 < h.aj.length/\h.aj.length<=5/\h.af.length<=4/\yc [.Y (.aS ns)]=some (.tup [.lst (h.aj.map fB),fL h.af],[none]):=by
 obtain⟨p1,p2,p3⟩:=kW ns 0 0 5 (by decide) (by decide) (by decide)
 obtain⟨q1,q2,q3⟩:=kW ns 0 1 4 (by decide) (by decide) (by decide)
 have hp:=yG ns 0 5 (by decide) (by decide)
 have ho:=yv ns 0 4 (by decide) (by decide)
 obtain⟨a1,e1⟩:=Rk ns (1+bM ns 0 0 5).toNat (by lia)
 obtain⟨a2,e2⟩:=Rl ns (1+bM ns 0 1 4).toNat (by lia)
 have nl:((List.range (1+bM ns 0 0 5).toNat).map (jN ns 11)).length=(1+bM ns 0 0 5).toNat:=by simp
 have cl:((List.range (1+bM ns 0 1 4).toNat).map λi=>jN ns 11 (10+i)).length=(1+bM ns 0 1 4).toNat:=by simp
 have ZS:((List.range (1+bM ns 0 0 5).toNat).map (jN ns 11)).Nodup:=MO ns _ KL λi m=>by have:=mF.mp m;lia
 have RW:((List.range (1+bM ns 0 1 4).toNat).map λi=>jN ns 11 (10+i)).Nodup:=by
  rw[show(λi=>jN ns 11 (10+i))=jN ns 11∘(10+·) from rfl,<-jx]
  refine MO ns _ ?_ λi m=>?_
  ·rw[List.Nodup,zB];exact KL.imp λne z=>ne (by lia)
  ·obtain⟨j,hj,rfl⟩:=gL.mp m;have:=mF.mp hj;lia
 have dj:∀x∈(List.range (1+bM ns 0 0 5).toNat).map (jN ns 11),x∉(List.range (1+bM ns 0 1 4).toNat).map λi=>jN ns 11 (10+i):=λx hx hc=>by
  obtain⟨i,hi,rfl⟩:=gL.mp hx;obtain⟨j,hj,e⟩:=gL.mp hc;have h1:=mF.mp hi;have h2:=mF.mp hj;have:=IP ns 11 (by decide) _ _ (by lia) (by lia) e
  lia
 have ZR:∀x∈(List.range (1+bM ns 0 0 5).toNat).map (jN ns 11),nX x:=λx hx=>by
  obtain⟨i,hi,rfl⟩:=gL.mp hx;exact DG _ (uU ns 11 (by decide) i).1 (uU ns 11 (by decide) i).2 (DW ns 11 (by decide) i)
 have ZQ:∀x∈(List.range (1+bM ns 0 1 4).toNat).map (λi=>jN ns 11 (10+i)),nX x:=λx hx=>by
  obtain⟨i,hi,rfl⟩:=gL.mp hx;exact DG _ (uU ns 11 (by decide) (10+i)).1 (uU ns 11 (by decide) (10+i)).2 (DW ns 11 (by decide) (10+i))
 generalize(List.range (1+bM ns 0 0 5).toNat).map (jN ns 11)=names at *;generalize((List.range (1+bM ns 0 1 4).toNat).map λi=>jN ns 11 (10+i))=af at *
 obtain⟨hand,hh⟩:∃x,af.head?=some x:=by
  cases af with
  |nil=>simp at cl;lia
  |cons a b=>exact⟨a,rfl⟩
 obtain⟨U1,e3,bs,a4,a5,a6,bl,bp,rfl⟩:=qo (g:=aX 4) (f:=hB) (λ(i:Nat)=>D.int (0+(i:Int))) (λpre U=>∃(bs:List az) (a4 a5 a6:Option O),bs.length=pre.length/\(∀i b,bs[i]?=some b->b.name=names.getD i ""/\(1<=b.long/\b.long<=26)/\(b.ring=true->2<=b.long)/\lS (names.drop (i+1)) af hand b.outs)/\U=[some (.Y (.aS ns)),some (fL names),some (fL af),some (.lst (bs.map fB)),a4,a5,a6]) (List.range (names.length:Int).toNat) []
  [some (.Y (.aS ns)),some (fL names),some (fL af),some (.lst []),none,none,none] ⟨[],none,none,none,rfl,λi b e=>(by simp at e),rfl⟩ (by
   rintro q i post U eq ⟨bs,a4,a5,a6,bl,bp,rfl⟩;rw[iA] at *;have hi:i < names.length:=by
    have:i∈List.range (names.length:Int).toNat:=by rw[eq];simp
    have:=mF.mp this;lia
   have hq:q.length=i:=by
    have h1:=congrArg (λl=>l[q.length]?) eq
    simp only[xU (cP _),Nat.sub_self,aY] at h1;have h2:q.length < (names.length:Int).toNat:=by have:=congrArg List.length eq;simp at this;lia
    rw[Fu h2] at h1;exact Option.some.inj h1
   obtain⟨b,b1,b2,b3,b4,FW,FX,e⟩:=V8 ns i names af hand bs a5 a6 hi (by lia) hh (by lia) (by lia)
   refine⟨_,?_,bs++[b],some (.Y (.int i)),FW,FX,by rw[gK,gK,bl];rfl,λj b' lq=>?_,rfl⟩
   ·rw[C8];generalize(i:Int)=ii at *;generalize(bs++[b]).map fB=l2 at *;generalize bs.map fB=l1 at *;simp only[fP,bw,bz,bI,Nat.reduceAdd,Nat.reduceLT,cG,bS,if_true,↓ah,e]
   ·by_cases hj:j < bs.length
    ·rw[FE hj] at lq;exact bp j b' lq
    ·rw[xU (by lia)] at lq
     have:j - bs.length=0:=by
      have:=(iq.mp lq).1;simp at this;lia
     rw[this] at lq;cases lq;have ej:j=i:=by lia
     rw[ej];exact⟨b1,b2,b3,b4⟩)
 rw[iA,uF] at bl;rw[<-yg] at e3;obtain⟨fw,en⟩:=L_ names af ZS dj bs 0 (by lia) λi b hb=>by
  rw[Nat.zero_add];exact⟨(bp i b hb).1,(bp i b hb).2.2.2.sub⟩
 rw[nq] at en;have gi:∀b∈bs,∃i,bs[i]?=some b:=λb hb=>CZ.mp hb
 have hg:af.getD 0 ""=hand:=by
  cases af with
  |nil=>cases hh
  |cons a b=>cases hh;rfl
 refine⟨⟨bs,af⟩,⟨fw,⟨by show bs.length<=100;lia,by show af.length<=100;lia,?_⟩,λb hb=>?_,ZQ,λb hb=>?_,λb hb=>?_,RW,by show 0 < af.length;lia,λb hb=>?_⟩,λb hb=>by obtain⟨i,hi⟩:=gi b hb;exact(bp i b hi).2.1.2,by show 0 < bs.length;lia,by show bs.length<=5;lia,by show af.length<=4;lia,SK ns _ _ names af a1 a2 a4 a5 a6 _ hp ho (fN (by lia)) (fN (by lia)) (names.length:Int) (by rw[bB]) (fN (by lia)) e1 e2 e3⟩
 ·have:=NH (bs:=bs) λb hb=>by
   obtain⟨i,hi⟩:=gi b hb;exact(bp i b hi).2.2.2.len
  show(bs.map λx=>x.outs.length).sum<=900
  lia
 ·exact ZR _ (by rw[<-en];exact pe hb)
 ·obtain⟨i,hi⟩:=gi b hb;exact⟨(bp i b hi).2.1.1,(bp i b hi).2.2.1⟩
 ·obtain⟨i,hi⟩:=gi b hb;show af.getD 0 ""∈b.outs\/∃o∈b.outs,o∈bs.map az.name;rw[hg,en];rcases(bp i b hi).2.2.2.hand with z|⟨o,z1,z2⟩
  ·exact .inl z
  ·exact .inr ⟨o,z1,List.mem_of_mem_drop z2⟩
 ·obtain⟨i,hi⟩:=gi b hb;exact(bp i b hi).2.2.2.nd
theorem GR{af:List Str}:∀{bs:List az},mw af bs->∀b∈bs,findB bs b.name=some b
 |x::bs,f,b,hb=>by
  rcases dZ.mp hb with rfl|hb
  ·unfold findB;rw[qP,beq_self_eq_true]
  ·have:(x.name == b.name)=false:=by
    rw[beq_eq_false_iff_ne];exact λe=>f.2.1 (by rw[e];exact pe (f:=az.name) hb)
   unfold findB;rw[qP,this];exact GR f.2.2.2 b hb
noncomputable def vI(b:az):List O:=[.Y (.str b.name),.Y (.int b.long),.Y (.bl b.ring),.Y (.lst (b.outs.map .str))]
noncomputable abbrev jO(b:az):O:=.tup (vI b)
theorem Ma(xs:List Str):iS [.Y (.lst (xs.map .str))]=some (.lst (xs.map fS)):=by
 rw[EC];rfl
theorem NI(n:Str)(hd:D):∀(bs:List az) (a:Option O),∃U',iD (aX 2) (bQ (gT (gB oEq (gB bu (aa 2) (gC (.int 0))) (aa 1)))
  (aR (gS .tup (ao (gB bu (aa 2) (gC (.int 0))) (ao (gB bu (aa 2) (gC (.int 1))) (ao (gB bu (aa 2) (gC (.int 2))) (ao (gF (gO iS (ao (gB bu (aa 2) (gC (.int 3))) gN))) gN))))))
  aQ) (bs.map ay) [some (.Y hd),some (fS n),a]=some (match findB bs n with|some b=>.rt (jO b)|none=>.nx,[some (.Y hd),some (fS n),U'])
 |[],a=>⟨a,rfl⟩
 |b::bs,a=>by
  cases hc:b.name == n with
  |true=>
   have e:findB (b::bs) n=some b:=by unfold findB;rw[qP,hc]
   refine⟨some (fB b),?_⟩;rw[e];simp only[cu,ay,v_,fP,bw,bz,bI,Nat.reduceAdd,Nat.reduceLT,cG,bS,if_true,↓ah,dr,cR,bL,bc,ba,bx,aY,bU,bj,bD,bF,bC,dA,mP,qj,↓evMap,iQ,bP,oF,and_self,qC,hc,gx,fV,yf,Ag,cI,Ht,Ma,jT,wI,Nat.reduceLeDiff,fW,eS,dD];rfl
  |false=>
   have e:findB (b::bs) n=findB bs n:=by unfold findB;rw[qP,hc]
   obtain⟨g',e'⟩:=NI n hd bs (some (fB b));refine⟨g',?_⟩;rw[e,<-e'];unfold ay at *;simp only[cu,v_,fP,bw,bz,bI,Nat.reduceAdd,Nat.reduceLT,cG,bS,if_true,↓ah,dr,cR,bL,bc,ba,bx,aY,bU,bj,bD,bF,bC,dA,mP,qj,↓evMap,iQ,bP,oF,and_self,qC,hc,dy,gx,fV,yf,Ag,cI,Ht,dD,if_false];rfl
theorem Ky(h:aU)(n:Str):uL [.Y (c_ h),fS n]=some (match findB h.aj n with|some b=>jO b|none=>.Y .aI,[none,none]):=by
 obtain⟨g',e⟩:=NI n (c_ h) h.aj none;unfold uL G9;unfold c_ at *;cases q:findB h.aj n with
 |none=>
  rw[q] at e;simp only[eF,cu,cB,bw,bz,bI,Nat.reduceAdd,Nat.reduceSub,gk,dN,gr,gI,dJ,pK,cI,bL,bc,ba,aY,↓ah,bU,bj,bD,bF,bC,dA,mP,qj,↓evMap,bP,e,gx,iu,eL,eM,fJ,eJ,if_true]
 |some b=>
  rw[q] at e;simp only[eF,cu,cB,bw,bz,bI,Nat.reduceAdd,Nat.reduceSub,gk,dN,gr,gI,dJ,pK,cI,bL,bc,ba,aY,↓ah,bU,bj,bD,bF,bC,dA,mP,qj,↓evMap,bP,e,iu,eL,eM,fJ,eJ,if_true]
theorem Oq(b:az):(jO b).d=ay b:=by unfold jO vI ay;simp only[du,dt,bP,jT,kX,wI]
theorem OF(h:aU)(b:az)(f:mw h.af h.aj)(hb:b∈h.aj):uL [.Y (c_ h),fS b.name]=some (jO b,[none,none]):=by
 have e:=Ky h b.name;rw[GR f b hb] at e;exact e
theorem Ur(g:bR h):DT [.Y (c_ h)]=some (.tup [.Y (.lst (h.aj.map ay)),fL h.af],[none]):=by
 have bl:=g.sm.bl;have e1:=yx h.aj (by lia)
 obtain⟨U,⟨a,rfl⟩,e⟩:=tN (g:=aX 0) (ct:=cX) (ce:=gF (bN uL (ao (aa 1) (ao (aa 0) gN)))) (λU=>∃a,U=[a,some (.Y (c_ h))]) (λb:az=>D.str b.name) ay h.aj [none,some (.Y (c_ h))] ⟨_,rfl⟩ (by lia) λb m U hU=>by
  obtain⟨a,rfl⟩:=hU;have h1:=OF h b g.fwd m;have h2:=Oq b;refine⟨[some (.Y (.str b.name)),some (.Y (c_ h))],?_,⟨_,rfl⟩⟩;generalize jO b=tb at *;simp only[mB,fP,bw,bz,bI,Nat.reduceAdd,Nat.reduceLT,bS,if_true,↓ah,rm,cI,iC,bc,ba,bx,aY,bj,jg,iB,h1,jh,iE,h2]
 have dn:=OJ (h.aj.map az.name);have mn:(h.aj.map az.name).map D.str=h.aj.map λb=>D.str b.name:=by rw[jx];rfl
 rw[mn] at dn;have e0:=vJ h;have BB:=xT h;have dl:=uR (h.aj.map ay);have ol:=Ma h.af;unfold DT HD;generalize h.aj.map (λb=>D.str b.name)=l1 at *
 generalize(h.aj.map az.name).map fS=l2 at *;simp only[eF,cu,cB,bw,bz,bI,Nat.reduceSub,gk,dN,gr,gI,dJ,ef,cI,mK,qZ,iC,bc,bL,ba,aY,↓ah,bU,bj,bD,bF,bC,dA,e0,jg,iB,e1,jh,iE,jT,dn,ql,jX,bS,nv,e,Nat.reduceAdd,oq,nq,qm,ny,if_true,dl,Nat.reduceLT,cG,gx,fV,bx,BB,ol,wI,Nat.reduceLeDiff,fW,eS,iu,eL,eM,fJ,eJ]
abbrev ju:=Str×Int
variable{p q:ju}{tk:List ju}
noncomputable abbrev bW(p:ju):D:=.tup [.str p.1,.int p.2]
inductive Goal where
 |c (x:Str)
 |p (q:ju)
variable{g:Goal}{mv pre:List (Str×Goal)}{m:Str×Goal}
noncomputable def gD:Goal->D
 |.c x=>.str x
 |.p q=>bW q
structure Row where
 aO:Str
 pl:ju
 cnt:Int
variable{rows R1 R':List Row}{r:Row}
noncomputable def br(r:Row):D:=.tup [.str r.aO,.aI,bW r.pl,.int r.cnt]
structure Out where
 aO:Str
 tY:Str
 at_:Int
variable{G:List Out}
noncomputable def outD(o:Out):D:=.tup [.str o.aO,.str o.tY,.int o.at_]
noncomputable abbrev bK(x:Str):TK:=.inr x
noncomputable def dP(R:List Row):List (TK×O):=R.map λr=>(bK r.aO,.Y (bW r.pl))
noncomputable def dR(R:List Row):List (TK×O):=R.map λr=>(bK r.aO,.Y .aI)
noncomputable def dC(R:List Row):List (TK×O):=R.map λr=>(bK r.aO,.Y (.int r.cnt))
noncomputable def dG(G:List Out):List (TK×O):=G.map λo=>(bK o.aO,.Y (.str o.tY))
noncomputable def oQ(h:aU)(R:List Row)(G:List Out)(now:Int):List O:=[.Y (c_ h),.Y (.int 2),.Y (.int now),.aK [],.aK [],.aK (dP R),.aK (dR R),.aK (dC R),.lst (G.map λo=>.Y (outD o)),.aK (dG G)]
noncomputable abbrev bG(h:aU)(R:List Row)(G:List Out)(now:Int):O:=.ins aq bO (oQ h R G now)
theorem Xj(g:bR h):Ao [.ins aq bO [],.Y (c_ h),.Y (.int 2)]=some (.Y .aI,[some (bG h [] [] 0),none,none]):=by
 have e1:=V7 g;have e2:=Ur g;have e3:(O.tup [.Y (.lst (h.aj.map ay)),fL h.af]).d=c_ h:=by unfold c_;simp only[kX,du,dt,bP]
 unfold bG oQ;unfold Ao HJ;generalize c_ h=hd at *;simp only[eF,cu,cB,bw,bz,bI,Nat.reduceAdd,Nat.reduceSub,dN,d_,dJ,jK,gw,bc,ba,bx,aY,↓ah,bj,bD,bF,bC,du,bP,dt,e1,tO,R8,cI,iC,jg,iB,e2,jh,iE,e3,and_self,gI,bS,if_true,gr,bU,DN,fV,Nat.reduceLeDiff,eS,nU,eL,eM,mC,fJ,eJ];rfl
theorem Ot:∀{bs:List az} {b:az},b∈bs->b.outs.length<=(bs.map λx=>x.outs.length).sum
 |x::bs,b,h=>by
  rw[cv,List.sum_cons];rcases dZ.mp h with rfl|h
  ·lia
  ·have:=Ot h;lia
noncomputable def me(h:aU)(o:Str):Goal:=if h.af.contains o=true then .c o else .p (o,0)
noncomputable def kS(h:aU)(b:az)(k:Int):List Goal:=if k+1 < b.long then[.p (b.name,k+1)] else b.outs.map (me h)++if b.ring=true then[.p (b.name,0)] else[]
theorem KA(b:az):cF (.Y (ay b)) (.int 1)=some (.Y (.int b.long)):=by unfold ay;simp only[mP,yf,o_]
theorem PF(b:az):cF (.Y (ay b)) (.int 2)=some (.Y (.bl b.ring)):=by unfold ay;simp only[mP,Ag,o_]
theorem zj(p:ju):cF (.Y (bW p)) (.int 0)=some (.Y (.str p.1)):=by simp only[mP,qj,o_]
theorem Fs(p:ju):cF (.Y (bW p)) (.int 1)=some (.Y (.int p.2)):=by simp only[mP,yf,o_]
theorem SM(h:aU)(p:ju)(hl:h.aj.length < 1000):∃a,compLoop (aX 0) (gT (gB oEq (gB bu (aa 0) (gC (.int 0))) (gB bu (aa 1) (gC (.int 0))))) (aa 0) (h.aj.map ay) [none,some (.Y (bW p))] []=some (((h.aj.filter λb=>b.name == p.1).map ay).map .Y,[a,some (.Y (bW p))]):=by
 obtain⟨U',⟨a,rfl⟩,e⟩:=wa (g:=aX 0) (ct:=gT (gB oEq (gB bu (aa 0) (gC (.int 0))) (gB bu (aa 1) (gC (.int 0))))) (ce:=aa 0) (λU=>∃a:Option O,U=[a,some (.Y (bW p))]) ay (λb=>b.name == p.1) ay h.aj [] [none,some (.Y (bW p))] ⟨_,rfl⟩ (by rw[vM];lia) (by
  rintro x hx _ ⟨a,rfl⟩;have e0:=zi x;have e1:=zj p;refine⟨[some (.Y (ay x)),some (.Y (bW p))],?_,_,rfl⟩;generalize ay x=d at *;generalize bW p=pd at *;cases hb:(x.name == p.1)
  ·simp only[mB,fP,bw,bz,bI,Nat.reduceAdd,Nat.reduceLT,bS,if_true,↓ah,cR,bL,bc,ba,aY,bU,bj,bD,bF,bC,dA,e0,bx,e1,iQ,bP,oF,and_self,qC,hb,dy,if_false]
  ·simp only[mB,fP,bw,bz,bI,Nat.reduceAdd,Nat.reduceLT,bS,if_true,↓ah,cR,bL,bc,ba,aY,bU,bj,bD,bF,bC,dA,e0,bx,e1,iQ,bP,oF,and_self,qC,hb])
 exact⟨a,e⟩
theorem SO(h:aU)(outs:List Str)(hl:outs.length < 1000):∃a,compLoop (aX 0) cX (gF (t9 (gT (gB (a_ false) (aa 0) (gB bu (aa 1) (gC (.int 1))))) (aa 0) (gS .tup (ao (aa 0) (ao (gC (.int 0)) gN))))) (outs.map D.str) [none,some (.Y (c_ h))] []=some (((outs.map (me h)).map gD).map .Y,[a,some (.Y (c_ h))]):=by
 obtain⟨U',⟨a,rfl⟩,e⟩:=tN (g:=aX 0) (ct:=cX) (ce:=gF (t9 (gT (gB (a_ false) (aa 0) (gB bu (aa 1) (gC (.int 1))))) (aa 0) (gS .tup (ao (aa 0) (ao (gC (.int 0)) gN))))) (λU=>∃a:Option O,U=[a,some (.Y (c_ h))]) D.str (λo=>gD (me h o)) outs [none,some (.Y (c_ h))] ⟨_,rfl⟩ (by lia) (by
  rintro x hx _ ⟨a,rfl⟩;have e0:=xT h;have e1:=IQ false x h.af;rw[if_neg kU] at e1;refine⟨[some (.Y (.str x)),some (.Y (c_ h))],?_,_,rfl⟩;unfold me;generalize c_ h=hd at *;cases hb:(h.af.contains x) <;> rw[hb] at e1
  ·rw[if_neg kU];unfold gD;simp only[mB,fP,bw,bz,bI,Nat.reduceAdd,Nat.reduceLT,bS,if_true,↓ah,rm,cI,sJ,cR,bL,bc,ba,aY,bx,bU,bj,bD,bF,bC,dA,e0,e1,dy,fV,Nat.reduceLeDiff,fW,eS,if_false,kX,du,bP,dt]
  ·rw[if_pos rfl];unfold gD;simp only[mB,fP,bw,bz,bI,Nat.reduceAdd,Nat.reduceLT,bS,if_true,↓ah,rm,cI,sJ,cR,bL,bc,ba,aY,bx,bU,bj,bD,bF,bC,dA,e0,e1,fV,Nat.reduceLeDiff,fW,eS,bP])
 exact⟨a,by rw[e];simp only[jx];rfl⟩
theorem V_(g:bR h)(hb:b∈h.aj)(k:Int):zV [.Y (c_ h),.Y (bW (b.name,k))]=some (.lst (((kS h b k).map gD).map .Y),[none,none]):=by
 have bl:=g.sm.bl;obtain⟨a1,e1⟩:=SM h (b.name,k) (by lia)
 have ol:b.outs.length < 901:=by
  have:=g.sm.ou;have hs:=Ot hb;lia
 obtain⟨a2,e2⟩:=SO h b.outs (by lia)
 have fi:∃r,(h.aj.filter λx=>x.name == b.name)=b::r:=by
  have:=GR g.fwd b hb;unfold findB at this;rw[<-List.head?_filter] at this;exact List.head?_eq_some_iff.mp this
 obtain⟨r,fi⟩:=fi;have Gw:dw (((h.aj.filter λx=>x.name == (b.name,k).1).map ay).map O.Y) 0=some (.Y (ay b)):=by
  rw[show(λx:az=>x.name == (b.name,k).1)=λx=>x.name == b.name from rfl,fi,cv,cv,qj]
 have x0:=zi b;have x1:=KA b;have x2:=PF b;have x3:=PH b;have y0:=zj (b.name,k);have y1:=Fs (b.name,k);have h0:=vJ h;unfold kS;unfold zV Ha;generalize bW (b.name,k)=pd at *;generalize ay b=bd at *;generalize c_ h=hd at *;generalize h.aj.map ay=bs at *;generalize((h.aj.filter λx=>x.name == (b.name,k).1).map ay).map O.Y=fl at *
 by_cases c:k+1 < b.long
 ·have c1:decide (k+1 < b.long)=true:=decide_eq_true c;rw[if_pos c];simp only[eF,cu,cB,bw,bz,bI,Nat.reduceAdd,Nat.reduceSub,gk,dN,gr,gI,dJ,ef,bL,bc,mK,qZ,cI,ba,aY,↓ah,bU,bj,bD,bF,bC,dA,h0,bP,ql,bx,jX,cG,bS,nv,e1,oq,nq,qm,ny,if_true,wy,Gw,Af,Nat.reduceLT,dr,cR,y1,jB,x1,iW,c1,gx,fV,x0,Nat.reduceLeDiff,fW,eS,kX,du,dt,dD,iu,eL,eM,fJ,eJ];rfl
 ·have c1:decide (k+1 < b.long)=false:=decide_eq_false c;rw[if_neg c];have z:((b.outs.map (me h)).map gD).length < 901:=by rw[bB,bB];exact ol
  generalize(b.outs.map (me h))=os at *;cases hr:b.ring
  ·rw[if_neg kU,d_];rw[hr] at x2;generalize(os.map gD).map O.Y=od at *;simp only[eF,cu,cB,bw,bz,bI,Nat.reduceAdd,Nat.reduceSub,gk,dN,gr,gI,dJ,ef,bL,bc,mK,qZ,cI,ba,aY,↓ah,bU,bj,bD,bF,bC,dA,h0,bP,ql,bx,jX,cG,bS,nv,e1,oq,nq,qm,ny,if_true,wy,Gw,Af,Nat.reduceLT,dr,cR,y1,jB,x1,iW,c1,dy,gx,fV,x0,Nat.reduceLeDiff,fW,eS,kX,du,dt,dD,if_false,x3,e2,iP,x2,iV,jK,oI,yq,iu,eL,eM,fJ,eJ]
  ·rw[if_pos rfl];rw[hr] at x2;have ap:qx (.lst ((os.map gD).map .Y)) [.Y (.tup [.str b.name,.int 0])]=some (.lst (((os++[Goal.p (b.name,0)]).map gD).map .Y),.Y .aI):=by
    refine(if_pos (by rw[bB];lia)).trans ?_
    rw[dh,dh];rfl
   generalize(os.map gD).map O.Y=od at *;simp only[eF,cu,cB,bw,bz,bI,Nat.reduceAdd,Nat.reduceSub,gk,dN,gr,gI,dJ,ef,bL,bc,mK,qZ,cI,ba,aY,↓ah,bU,bj,bD,bF,bC,dA,h0,bP,ql,bx,jX,cG,bS,nv,e1,oq,nq,qm,ny,if_true,wy,Gw,Af,Nat.reduceLT,dr,cR,y1,jB,x1,iW,c1,dy,gx,fV,x0,Nat.reduceLeDiff,fW,eS,kX,du,dt,dD,if_false,x3,e2,iP,x2,iV,jK,oI,ap,yq,iu,eL,eM,fJ,eJ]
theorem OG(p q:ju):bb (bW p) (bW q)=decide (p=q):=by
 obtain⟨a,b⟩:=p;obtain⟨c,d⟩:=q;simp only[bb,gE,Bool.and_true,Prod.mk.injEq];rw[Bool.decide_and,show(a == c)=decide (a=c) from rfl,show(b == d)=decide (b=d) from rfl]
theorem EK(n:Nat)(p:ju):eK (n+2) (bW p)=true:=by simp[eK]
noncomputable def qG(tk:List ju):Goal->Bool
 |.c _=>false
 |.p q=>tk.any λz=>decide (z=q)
theorem Ka(n:Nat)(g:Goal):eK (n+2) (gD g)=true:=by cases g <;> simp[gD,eK]
theorem EM(neg:Bool)(g:Goal)(tk:List ju):a_ neg [.Y (gD g),.lst ((tk.map bW).map .Y)]=some (.Y (.bl (if neg then !qG tk g else qG tk g))):=by
 unfold a_;have e:nZ (O.lst ((tk.map bW).map .Y)).d=some (tk.map bW):=by show some (O.dl _)=_;rw[uR]
 have k:(tk.map bW).all (eK 40)=true:=by
  rw[og];intro d hd;obtain⟨y,_,rfl⟩:=gL.mp hd;exact EK _ y
 have k2:=Ka 38 g;have a:((tk.map bW).any λz=>bb z (gD g))=qG tk g:=by
  rw[List.any_map];cases g with
  |c x=>
   show _=false;rw[C9];intro h;obtain⟨d,hd,h⟩:=zy.mp h;simp[gD,bb] at h
  |p q=>exact congrArg (λf=>tk.any f) (funext λz=>OG z q)
 cases g <;> (simp only[h_,gD] at *;simp only[e,jJ,bP,k,k2,and_self,if_true,a])
theorem IZ(neg:Bool)(g:Goal)(h:aU)(hg:∀x,g=.c x->x∈h.af):a_ neg [.Y (gD g),.Y (.lst (h.af.map D.str))]=some (.Y (.bl (if neg then !(match g with|.c _=>true|.p _=>false) else(match g with|.c _=>true|.p _=>false)))):=by
 cases g with
 |c x=>
  have:=IQ neg x h.af;rw[s_.mpr (hg x rfl)] at this;exact this
 |p q=>
  unfold a_;have e:nZ (.lst (h.af.map D.str))=some (h.af.map D.str):=rfl;have a:((h.af.map D.str).any λz=>bb z (bW q))=false:=by
   rw[C9];intro h;obtain⟨d,hd,h⟩:=zy.mp h;obtain⟨y,_,rfl⟩:=gL.mp hd;simp[bb] at h
  have k2:=EK 38 q;simp only[h_,gD,e,jJ,bP,Io,k2,and_self,if_true,a]
noncomputable abbrev xo:Goal->Bool
 |.c _=>true
 |.p _=>false
noncomputable def gH(m:Str×Goal):D:=.tup [.str m.1,gD m.2]
theorem Xk{gn:Int}{rd pd gd:D}{gs:List D}{b:Option O}(ix:cF (.Y rd) (.int j)=some (.Y rj))(i2:cF (.Y rj) (.int 2)=some (.Y pd))(eg:zV [.Y hd,.Y pd]=some (.lst (gs.map .Y),[none,none]))
  (et:oA [.Y (.aS ns),.Y (.int (k+1)),.Y (.int 64)]=some (.Y (.int t),[none,none,none])) (c1:(0 < j+1)=True) (c2:(j+1 < 1073741824)=True) (el:(gs.length:Int)=gn) (c3:(0 < gn)=True) (ga:dw gs (t / (j+1) % gn)=some gd) :
  (aX 7 (.int j) [some (.Y (.aS ns)),some (.Y (.int k)),some (.Y hd),some (.Y rd),a4,a5,a6,b,a8,a9]).bind za=xt [some (.Y (.aS ns)),some (.Y (.int k)),some (.Y hd),some (.Y rd),a4,a5,a6,some (.Y (.int j)),some (.Y (.lst gs)),some (.Y gd)]:=by
 unfold za;generalize xt=I;simp only[fP,bw,bz,bI,Nat.reduceAdd,Nat.reduceLT,cG,bS,if_true,↓ah,dJ,ef,cI,iC,bc,ba,bx,aY,bL,bj,bD,bF,bC,dA,ix,bU,i2,jg,iB,eg,jh,iE,jT,mQ,gw,jB,du,bP,dt,cu,cB,et,ka,iW,c1,c2,and_self,decide_true,kc,lV,el,↓evMap,c3,sI,ga]
theorem Xl{s k hd rd:O}{p:Int}(c1:(0<=j)=True)(c2:(j<=1000)=True)(ep:(1 * 2 ^ j.toNat:Int)=p)(c3:(0 < p)=True)(c4:(p < 1073741824)=True)(no:(mk / p % 2 == 1)=true->qG tk g=true):
  xt [some s,some k,some hd,some rd,a4,some (.lst ((tk.map bW).map .Y)),some (.Y (.int mk)),some (.Y (.int j)),a8,some (.Y (gD g))]=some (.nx,[some s,some k,some hd,some rd,a4,some (.lst ((tk.map bW).map .Y)),some (.Y (.int mk)),some (.Y (.int j)),a8,some (.Y (gD g))]):=by
 have it:=EM true g tk;rw[if_pos rfl] at it;unfold xt;generalize gD g=gd at *;generalize(tk.map bW).map O.Y=td at *;have c5:(Int.natAbs 1 < 2 ^ 64)=True:=by decide
 cases q:(mk / p % 2 == 1) with
 |false=>simp only[dr,lC,cR,bL,bc,ba,bx,aY,↓ah,bU,bj,bD,bF,bC,iW,c1,c2,c5,and_self,decide_true,ep,if_true,c3,c4,Int.reduceLT,iQ,bP,kO,kR,q,dy,nD,jX,it,if_false,dJ,jK,oI,dD]
 |true=>
  rw[no q,kM] at it;simp only[dr,lC,cR,bL,bc,ba,bx,aY,↓ah,bU,bj,bD,bF,bC,iW,c1,c2,c5,and_self,decide_true,ep,if_true,c3,c4,Int.reduceLT,iQ,bP,kO,kR,q,nD,jX,it,dy,dJ,jK,oI,dD,if_false]
noncomputable def gP:Goal->Option ju
 |.c _=>none
 |.p q=>some q
theorem V'{s k:O}{rd:D}{p:Int}(hg:∀x,g=.c x->x∈h.af)(c1:(0<=j)=True)(c2:(j<=1000)=True)(ep:(1 * 2 ^ j.toNat:Int)=p)(c3:(0 < p)=True)(c4:(p < 1073741824)=True)(q:(mk / p % 2 == 1)=true)(yes:qG tk g=false)
  (ix:cF (.Y rd) (.int j)=some (.Y rj)) (i0:cF (.Y rj) (.int 0)=some (.Y (.str x))) (l1:mv.length < 999999) (l2:tk.length < 999999) :
  xt [some s,some k,some (.Y (c_ h)),some (.Y rd),some (.lst ((mv.map gH).map .Y)),some (.lst ((tk.map bW).map .Y)),some (.Y (.int mk)),some (.Y (.int j)),a8,some (.Y (gD g))]=some (.nx,[some s,some k,some (.Y (c_ h)),some (.Y rd),some (.lst (((mv++[(x,g)]).map gH).map .Y)),some (.lst (((tk++(gP g).toList).map bW).map .Y)),some (.Y (.int mk)),some (.Y (.int j)),a8,some (.Y (gD g))]):=by
 have it:=EM true g tk;have ic:=IZ true g h hg;rw[if_pos rfl] at it ic;rw[yes,vP] at it;have h1:=xT h;have a1:qx (.lst ((mv.map gH).map .Y)) [.Y (.tup [.str x,gD g])]=some (.lst (((mv++[(x,g)]).map gH).map .Y),.Y .aI):=by
  refine(if_pos (by rw[bB,bB];lia)).trans ?_
  rw[dh,dh];rfl
 have a2:qx (.lst ((tk.map bW).map .Y)) [.Y (gD g)]=some (.lst ((tk.map bW).map .Y++[.Y (gD g)]),.Y .aI):=if_pos (by rw[bB,bB];lia)
 have a3:((tk++(gP g).toList).map bW).map O.Y=(tk.map bW).map .Y++if xo g=true then[] else[.Y (gD g)]:=by
  rw[dh,dh];cases g <;> rfl
 rw[a3];unfold xt;have c5:(Int.natAbs 1 < 2 ^ 64)=True:=by decide
 generalize((mv++[(x,g)]).map gH).map O.Y=m2 at *;generalize(mv.map gH).map O.Y=m1 at *;generalize(tk.map bW).map O.Y=td at *;generalize c_ h=hd at *;cases g with
 |c y=>
  simp only[xo,if_true,d_,kM] at *;generalize gD (.c y)=gd at *;simp only[dr,lC,cR,bL,bc,ba,bx,aY,↓ah,bU,bj,bD,bF,bC,iW,c1,c2,c5,and_self,decide_true,ep,if_true,c3,c4,Int.reduceLT,iQ,bP,kO,kR,q,nD,jX,it,dJ,jK,oI,cI,fV,dA,ix,i0,bw,bz,bI,Nat.reduceAdd,Nat.reduceLeDiff,fW,eS,kX,du,dt,a1,cG,bS,h1,ic,dy,dD,if_false]
 |p y=>
  simp only[xo,dy,if_false,vP] at *;generalize gD (.p y)=gd at *;simp only[dr,lC,cR,bL,bc,ba,bx,aY,↓ah,bU,bj,bD,bF,bC,iW,c1,c2,c5,and_self,decide_true,ep,if_true,c3,c4,Int.reduceLT,iQ,bP,kO,kR,q,nD,jX,it,dJ,jK,oI,cI,fV,dA,ix,i0,bw,bz,bI,Nat.reduceAdd,Nat.reduceLeDiff,fW,eS,kX,du,dt,a1,cG,bS,h1,ic,a2,dD]
abbrev FR(h:aU)(b:az)(p:ju):Prop:=b∈h.aj/\p.1=b.name/\0<=p.2/\p.2 < b.long
abbrev VP(h:aU)(p:ju):Prop:=∃b,FR h b p
abbrev AR(h:aU)(p:ju)(g:Goal):Prop:=∃b,FR h b p/\g∈kS h b p.2
structure tE (h:aU) (rows:List Row) (mv:List (Str×Goal)):Prop where
 sub:(mv.map (·.1)).Sublist (rows.map Row.aO)
 gl:∀m∈mv,∃r∈rows,r.aO=m.1/\AR h r.pl m.2
theorem Us(g:bR h)(hb:b∈h.aj)(k:Int):0 < (kS h b k).length:=by
 have:∃o,o∈b.outs:=by
  rcases g.hd b hb with z|⟨o,z,_⟩
  ·exact⟨_,z⟩
  ·exact⟨_,z⟩
 obtain⟨o,ho⟩:=this;have:=List.length_pos_of_mem ho;unfold kS;split
 ·exact Nat.one_pos
 ·rw[gK,bB];lia
theorem NJ(hg:g∈kS h b k)(x:Str)(e:g=.c x):x∈h.af:=by
 subst e;unfold kS at hg;split at hg
 ·simp at hg
 ·rcases jw.mp hg with z|z
  ·obtain⟨o,_,e⟩:=gL.mp z;unfold me at e;split at e
   ·rename_i c
    cases e;exact s_.mp c
   ·cases e
  ·split at z <;> simp at z
theorem PJ(r:Row):cF (.Y (br r)) (.int 0)=some (.Y (.str r.aO)):=by unfold br;simp only[mP,qj,o_]
theorem KC(r:Row):cF (.Y (br r)) (.int 2)=some (.Y (bW r.pl)):=by unfold br;simp only[mP,Ag,o_]
theorem X9(j:Nat)(h:j < 30):∃p:Int,(1 * 2 ^ (j:Int).toNat:Int)=p/\0 < p/\p < 1073741824:=by
 refine⟨_,rfl,?_,?_⟩
 ·rw[Int.one_mul];exact Int.pow_pos (by decide)
 ·rw[Int.one_mul,Int.toNat_natCast];have:(2:Nat) ^ j < 2 ^ 30:=Nat.pow_lt_pow_right (by decide) h
  have z:((2 ^ j:Nat):Int) < ((1073741824:Nat):Int):=Int.ofNat_lt.mpr this;rw[Int.natCast_pow] at z;exact z
theorem NK(rows:List Row)(hl:rows.length < 1000):∃a,compLoop (aX 0) cX (gB bu (aa 0) (gC (.int 2))) (rows.map br) [none] []=some (((rows.map Row.pl).map bW).map .Y,[a]):=by
 obtain⟨U',⟨a,rfl⟩,e⟩:=tN (g:=aX 0) (ct:=cX) (ce:=gB bu (aa 0) (gC (.int 2))) (λU=>∃a:Option O,U=[a]) br (λr=>bW r.pl) rows [none] ⟨_,rfl⟩ (by lia) (by
  rintro x hx _ ⟨a,rfl⟩;have e0:=KC x;refine⟨[some (.Y (br x))],?_,_,rfl⟩;generalize br x=d at *;generalize bW x.pl=pd at *;simp only[mB,fP,bw,bz,bI,Nat.reduceLT,bS,if_true,↓ah,rm,bL,bc,ba,aY,bU,bj,bD,bF,bC,dA,e0])
 exact⟨a,by rw[e];simp only[jx];rfl⟩
noncomputable abbrev Cf(ns:List Int)(k:Int)(h:aU)(rows:List Row)(mk:Int)(mv:List (Str×Goal))(a b c:Option O):Gm:=[some (.Y (.aS ns)),some (.Y (.int k)),some (.Y (c_ h)),some (.Y (.lst (rows.map br))),some (.lst ((mv.map gH).map .Y)),some (.lst (((rows.map Row.pl++mv.filterMap (λm=>gP m.2)).map bW).map .Y)),some (.Y (.int mk)),a,b,c]
def Dd(h:aU)(rows:List Row)(n:Nat)(mv:List (Str×Goal)):Prop:=tE h (rows.take n) mv/\(rows.map Row.pl++mv.filterMap (λm=>gP m.2)).Nodup
theorem Wa(gh:bR h)(rl:rows.length < 20)(vr:∀r∈rows,VP h r.pl)(et:oA [.Y (.aS ns),.Y (.int (k+1)),.Y (.int 64)]=some (.Y (.int t),[none,none,none]))(j:Nat)(jl:j < rows.length)(I:Dd h rows j mv)(a b c:Option O):
  ∃E7 a2 b2 c2,Dd h rows (j+1) E7/\(aX 7 (.int j) (Cf ns k h rows mk mv a b c)).bind za=some (.nx,Cf ns k h rows mk E7 a2 b2 c2):=by
 obtain⟨bt,hb,hp,Zo,JT⟩:=vr rows[j] (se jl);have eg:=V_ gh hb rows[j].pl.2;rw[<-hp] at eg;have gne:=Us gh hb rows[j].pl.2;obtain⟨gi,O1,rF⟩:∃gi:Nat,gi < (kS h bt rows[j].pl.2).length/\t / ((j:Int)+1) % ((kS h bt rows[j].pl.2).length:Int)=(gi:Int):=by
  have h1:=Int.emod_nonneg (t / ((j:Int)+1)) (b:=((kS h bt rows[j].pl.2).length:Int)) (by lia)
  have h2:=Int.emod_lt_of_pos (t / ((j:Int)+1)) (b:=((kS h bt rows[j].pl.2).length:Int)) (by lia)
  exact⟨(t / ((j:Int)+1) % ((kS h bt rows[j].pl.2).length:Int)).toNat,by lia,by lia⟩
 have BV:=se O1;generalize hG:(kS h bt rows[j].pl.2)[gi]=G at *;have ix:cF (.Y (.lst (rows.map br))) (.int (j:Int))=some (.Y (br rows[j])):=by
  rw[sI,qt (j:=j) (by rw[iz,jW jl];rfl)]
  rfl
 have ga:dw ((kS h bt rows[j].pl.2).map gD) (t / ((j:Int)+1) % ((kS h bt rows[j].pl.2).length:Int))=some (gD G):=by
  rw[rF,qt (j:=gi) (by rw[iz,jW O1,hG];rfl)]
 have e1:=Xk (b:=a) (a4:=some (.lst ((mv.map gH).map .Y))) (a5:=some (.lst (((rows.map Row.pl++mv.filterMap (λm=>gP m.2)).map bW).map .Y))) (a6:=some (.Y (.int mk))) (a8:=b) (a9:=c) ix (KC rows[j]) eg et (eq_true (by lia)) (eq_true (by lia)) (by rw[bB]) (eq_true (by lia)) ga
 obtain⟨p,ep,p0,p1⟩:=X9 j (by lia)
 have tk:rows.take (j+1)=rows.take j++[rows[j]]:=List.take_succ_eq_append_getElem jl;by_cases c:(mk / p % 2 == 1)=true/\qG (rows.map Row.pl++mv.filterMap (λm=>gP m.2)) G=false
 ·refine⟨mv++[(rows[j].aO,G)],some (.Y (.int j)),some (.Y (.lst ((kS h bt rows[j].pl.2).map gD))),some (.Y (gD G)),⟨⟨?_,?_⟩,?_⟩,?_⟩
  ·rw[tk,dh,dh];exact I.1.sub.append (List.Sublist.refl _)
  ·intro m hm;rw[tk];rcases jw.mp hm with z|z
   ·obtain⟨r,hr,q⟩:=I.1.gl m z;exact⟨r,lx _ hr,q⟩
   ·obtain rfl:=qO.mp z;exact⟨rows[j],ja _ (.head _),rfl,bt,⟨hb,hp,Zo,JT⟩,BV⟩
  ·rw[xX,<-fG];have:=c.2;cases G with
   |c x=>simpa[gP] using I.2
   |p q=>
    refine hV.mpr ⟨I.2,by simp[gP],?_⟩
    intro a ha b hb e;simp only[gP,r_,List.filterMap_nil,qO] at hb;rw[C9] at this;exact this (zy.mpr ⟨a,ha,decide_eq_true (e.trans hb)⟩)
  ·have l1:=I.1.sub.length_le;rw[bB,bB,nJ] at l1;have l2:=uG (λm:Str×Goal=>gP m.2) mv
   have l3:(rows.map Row.pl++mv.filterMap (λm=>gP m.2)).length < 999999:=by
    rw[gK,bB];lia
   have e2:=V' (s:=.Y (.aS ns)) (k:=.Y (.int k)) (x:=rows[j].aO) (mv:=mv) (a8:=some (.Y (.lst ((kS h bt rows[j].pl.2).map gD)))) (mk:=mk) (NJ BV) (eq_true (by lia)) (eq_true (by lia)) ep (eq_true p0) (eq_true p1) c.1 c.2 ix (PJ rows[j]) (by lia) l3
   rw[fG,show List.filterMap (λm:Str×Goal=>gP m.2) mv++(gP G).toList=List.filterMap (λm=>gP m.2) (mv++[(rows[j].aO,G)]) by rw[xX];cases G <;> rfl] at e2
   exact e1.trans e2
 ·refine⟨mv,some (.Y (.int j)),some (.Y (.lst ((kS h bt rows[j].pl.2).map gD))),some (.Y (gD G)),⟨⟨?_,?_⟩,I.2⟩,?_⟩
  ·rw[tk,dh];exact I.1.sub.trans (CY _ _)
  ·intro m hm;obtain⟨r,hr,q⟩:=I.1.gl m hm;exact⟨r,by rw[tk];exact lx _ hr,q⟩
  ·refine e1.trans (Xl (s:=.Y (.aS ns)) (k:=.Y (.int k)) (hd:=.Y (c_ h)) (rd:=.Y (.lst (rows.map br))) (a4:=some (.lst ((mv.map gH).map .Y))) (g:=G) (tk:=rows.map Row.pl++mv.filterMap (λm=>gP m.2)) (a8:=some (.Y (.lst ((kS h bt rows[j].pl.2).map gD)))) (mk:=mk) (eq_true (by lia)) (eq_true (by lia)) ep (eq_true p0) (eq_true p1) ?_)
   intro q;cases z:qG (rows.map Row.pl++mv.filterMap (λm=>gP m.2)) G
   ·exact absurd ⟨q,z⟩ c
   ·rfl
theorem Wb(gh:bR h){k:Nat}(kl:k+1 < 1000)(rl:rows.length < 20)(vr:∀r∈rows,VP h r.pl)(nd:(rows.map Row.pl).Nodup):
  ∃mv,tE h rows mv/\(rows.map Row.pl++mv.filterMap (λm=>gP m.2)).Nodup/\zY [.Y (.aS ns),.Y (.int k),.Y (c_ h),.Y (.lst (rows.map br))]=some (.lst ((mv.map gH).map .Y),[none,none,none,none]):=by
 have e1:=yG ns (k+1) 64 kl (by decide)
 have e2:=yv ns (k+1) 64 kl (by decide)
 have e3:=AD ns (k+1) 64 kl (by decide)
 rw[show((k+1:Nat):Int)=(k:Int)+1 from rfl] at e1 e2 e3;generalize(k:Int)=ki at *;generalize bM ns (k+1) 0 64=t0 at *;generalize bM ns (k+1) 1 64=t1 at *;generalize bM ns (k+1) 2 64=t2 at *;obtain⟨a0,e0⟩:=NK rows (by lia)
 obtain⟨U',e4,mv,a,b,c,I,rfl⟩:=qo (g:=aX 7) (f:=za) (λj:Nat=>D.int (0+(j:Int))) (λpre U=>∃mv a b c,Dd h rows pre.length mv/\U=Cf ns ki h rows (t0+64 * t1) mv a b c) (List.range rows.length) [] (Cf ns ki h rows (t0+64 * t1) [] none none none) ⟨[],none,none,none,⟨⟨List.Sublist.slnil,nofun⟩,by rw[List.filterMap_nil,d_];exact nd⟩,rfl⟩ (by
  rintro q x post U e ⟨mv,a,b,c,I,rfl⟩;have hx:x=q.length/\x < rows.length:=by
   have h1:=congrArg (λl=>l[q.length]?) e
   have h2:=congrArg List.length e;simp at h1 h2;rw[Fu (by lia)] at h1
   simp at h1;lia
  rw[iA] at *;rw[<-hx.1] at I;obtain⟨E7,a2,b2,c2,I2,e2⟩:=Wa gh (mk:=t0+64 * t1) rl vr e3 x hx.2 I a b c;rw[gK,<-hx.1];refine⟨_,?_,E7,a2,b2,c2,I2,rfl⟩;rw[C8];exact e2)
 rw[iA,uF] at I;unfold Dd at I;rw[List.take_length] at I;refine⟨mv,I.1,I.2,?_⟩;have e6:((rows.map br).length:Int)=(rows.length:Int):=by rw[bB]
 have e5:(rows.length:Int).toNat=rows.length:=rfl;have e7:gY [.own (.Y (.int (rows.length:Int)))]=some (rows.length:Int):=fN (by lia)
 rw[<-yg] at e4;have m0:(([]:List (Str×Goal)).map gH).map O.Y=[]:=rfl;have m1:(rows.map Row.pl++([]:List (Str×Goal)).filterMap (λm=>gP m.2))=rows.map Row.pl:=d_ _
 unfold Cf at e4;rw[m0,m1] at e4;have cm:∀t:Int,(-2 ^ 64 < (64:Int)/\(64:Int) < 2 ^ 64 \/ -2 ^ 64 < t/\t < 2 ^ 64)=True:=λt=>eq_true (Or.inl (by decide))
 unfold zY;unfold Hh;generalize((rows.map Row.pl++mv.filterMap (λm=>gP m.2)).map bW).map O.Y=t2 at *
 generalize((rows.map Row.pl).map bW).map O.Y=t1 at *;generalize(mv.map gH).map O.Y=m2 at *;generalize rows.map br=rd at *;generalize c_ h=hd at *;generalize za=B at *;generalize(rows.length:Int)=rn at *;simp only[eF,cu,cB,bw,bz,bI,Nat.reduceAdd,Nat.reduceSub,gk,dN,gr,gI,dJ,ef,fV,bj,↓ah,Nat.reduceLeDiff,eS,if_true,Nat.reduceLT,cG,bS,mK,qZ,cI,ba,bx,aY,bP,nv,d_,e0,oq,nq,ny,bL,bc,gw,bU,bD,bF,bC,jB,du,dt,e1,ka,e2,Ee,cm,AW,kc,lV,e6,↓evMap,e7,e5,e4,gx,yq,iu,eL,eM,fJ,eJ]
theorem Ei{α:Type}{k:TK}{v:α}:∀{kvs:List (TK×α)},(∀e∈kvs,e.1≠k)->fy kvs k v=kvs++[(k,v)]
 |[],_=>rfl
 |e::es,h=>by
  unfold fy;rw[if_neg (h e (.head _)),Ei λx hx=>h x (.tail _ hx)]
  rfl
theorem X_(x y:Str):decide (bK x=bK y)=decide (x=y):=decide_eq_decide.mpr ⟨λe=>by injection e,λe=>by rw[e]⟩
noncomputable abbrev kP(p:ju):TK:=.tp [.inr p.1,.inl p.2]
theorem I_(p q:ju):decide (kP p=kP q)=decide (p=q):=decide_eq_decide.mpr ⟨λe=>by
 injection e with e;injection e with e1 e;injection e with e2 e;injection e1 with e1;injection e2 with e2;exact Prod.ext e1 e2,λe=>by rw[e]⟩
theorem IS(p:ju):eV (bW p)=some (kP p):=by simp[eV,n9,p_,TK.ok]
noncomputable def nE(mv:List (Str×Goal))(r:Row):Goal:=match mv.find? (λm=>decide (m.1=r.aO)) with
 |some m=>m.2
 |none=>.p r.pl
noncomputable def again(p q:ju):Bool:=p.1 == q.1 && (q.2 == 0 && decide (0 < p.2))
noncomputable def xx(r:Row):Goal->Option Row
 |.c _=>none
 |.p q=>some ⟨r.aO,q,r.cnt+if again r.pl q=true then 1 else 0⟩
noncomputable def nr(mv:List (Str×Goal))(r:Row):Option Row:=xx r (nE mv r)
noncomputable def pP(mv:List (Str×Goal)):List (TK×D):=mv.map λm=>(bK m.1,gD m.2)
noncomputable def sP(mv:List (Str×Goal)):List (TK×O):=mv.map λm=>(bK m.1,.Y (gD m.2))
theorem MP:∀mv:List (Str×Goal),wB (mv.map gH)=some (pP mv)
 |[]=>rfl
 |m::mv=>by
  have:=MP mv;rw[cv];unfold gH at *;simp only[wB,eV,jJ,this,o_];rfl
theorem NL:∀(mv pre:List (Str×Goal)),((pre++mv).map (·.1)).Nodup->(pP mv).foldl (λkvs p=>fy kvs p.1 (.Y p.2)) (sP pre)=sP (pre++mv)
 |[],pre,_=>by rw[d_];rfl
 |m::mv,pre,h=>by
  have e:fy (sP pre) (bK m.1) (.Y (gD m.2))=sP (pre++[m]):=by
   rw[Ei]
   ·unfold sP;rw[dh];rfl
   ·intro x hx z;obtain⟨y,hy,rfl⟩:=gL.mp hx;have z:y.1=m.1:=by injection z
    rw[dh] at h;exact(hV.mp h).2.2 y.1 (pe hy) m.1 (.head _) z
  have:=NL mv (pre++[m]) (by rw[fG];exact h)
  rw[fG] at this;rw[<-e] at this;exact this
theorem AS{α:Type}(f:α->TK)(g:α->D):∀l:List α,O.dk (l.map λa=>(f a,O.Y (g a)))=l.map λa=>(f a,g a)
 |[]=>rfl
 |a::l=>by
  show(_,_)::O.dk (l.map λa=>(f a,O.Y (g a)))=_
  rw[AS f g l];rfl
theorem Ej{α:Type}(f:α->TK)(g:α->D)(k:TK)(l:List α):i7 (l.map λa=>(f a,g a)) k=(l.find? λa=>decide (f a=k)).map g:=by
 unfold i7;rw[List.find?_map,Option.map_map];rfl
theorem Xm(mv:List (Str×Goal))(r:Row):m8 [.Y (.aK (pP mv)),.Y (.str r.aO),.Y (bW r.pl)]=some (.Y (gD (nE mv r))):=by
 rw[VM];show some (O.Y ((i7 (pP mv) (bK r.aO)).getD _))=_;unfold pP nE;rw[Ej];simp only[X_];cases mv.find? λm=>decide (m.1=r.aO) <;> rfl
theorem Xn(mv:List (Str×Goal))(nd:(mv.map (·.1)).Nodup)(l:mv.length < 1000):AQ [.Y (.lst (mv.map gH))]=some (.aK (sP mv))/\(O.aK (sP mv)).d=.aK (pP mv):=by
 constructor
 ·rw[T5,MP,jJ,if_pos (by unfold pP;rw[bB];exact l)]
  have:=NL mv [] nd;rw[iA] at this;exact congrArg (λz=>some (O.aK z)) this
 ·show D.aK (O.dk (sP mv))=_;unfold sP;rw[AS];rfl
theorem Xo(p q:ju)(a0 a1 a2 a3 a4 a5 a6 a8 a10 a11 a12:Option O):Dw [a0,a1,a2,a3,a4,a5,a6,some (.Y (bW p)),a8,some (.Y (bW q)),a10,a11,a12]=some (.own (.Y (.bl (again p q))),[a0,a1,a2,a3,a4,a5,a6,some (.Y (bW p)),a8,some (.Y (bW q)),a10,a11,a12]):=by
 have e0:=zj p;have e1:=Fs p;have f0:=zj q;have f1:=Fs q;unfold Dw again;generalize bW p=pd at *;generalize bW q=qd at *;cases c0:(p.1 == q.1)
 ·simp only[Ay,cR,bL,bc,ba,bx,aY,↓ah,bU,bj,bD,bF,bC,dA,e0,f0,iQ,bP,oF,and_self,qC,c0,if_true,dy,if_false];rfl
 ·cases c1:(q.2 == 0)
  ·simp only[Ay,cR,bL,bc,ba,bx,aY,↓ah,bU,bj,bD,bF,bC,dA,e0,f0,iQ,bP,oF,and_self,qC,c0,if_true,f1,kO,kR,c1,dy,e1,iW,if_false];rfl
  ·simp only[Ay,cR,bL,bc,ba,bx,aY,↓ah,bU,bj,bD,bF,bC,dA,e0,f0,iQ,bP,oF,and_self,qC,c0,if_true,f1,kO,kR,c1,e1,iW];rfl
noncomputable def lD(R:List Row):List (TK×O):=R.map λr=>(kP r.pl,.Y (br r))
theorem X'{R:List Row}(h:r.pl∉R.map Row.pl)(l:R.length < 1000000):eW (.aK (lD R)) [.Y (br r),.Y (bW r.pl)]=some (.aK (lD (R++[r])),.Y .aI):=by
 unfold eW rZ;dsimp only;rw[IS,jJ,if_pos (by unfold lD;rw[bB];exact l),Ei]
 ·unfold lD;rw[dh];rfl
 ·intro x hx z;obtain⟨y,hy,rfl⟩:=gL.mp hx;have:=I_ y.pl r.pl;rw[decide_eq_true z] at this;exact h (gL.mpr ⟨y,hy,of_decide_eq_true this.symm⟩)
noncomputable abbrev qL(h:aU)(rows:List Row)(mv:List (Str×Goal))(R:List Row)(a b c d e f g i:Option O):Gm:=[some (.Y (c_ h)),some (.Y (.lst (rows.map br))),some (.Y (.lst (mv.map gH))),some (.Y (.aK (pP mv))),some (.aK (lD R)),a,b,c,d,e,f,g,i]
theorem Wc{R:List Row}(hg:∀x,nE mv r=.c x->x∈h.af)(nd:∀q∈nr mv r,q.pl∉R.map Row.pl)(l:R.length < 1000000)(a b c d e f:Option O):
  ∃a2 b2 c2 d2 e2 f2,(E6 (br r) (qL h rows mv R a b c d e f none none)).bind Cb=some (.nx,qL h rows mv (R++(nr mv r).toList) a2 b2 c2 d2 e2 f2 none none):=by
 have eg:=Xm mv r;have ic:=IZ true (nE mv r) h hg;rw[if_pos rfl] at ic;have h1:=xT h;unfold nr at *;generalize nE mv r=G at *;unfold Cb;cases G with
 |c x=>
  rw[kM] at ic;refine⟨some (.Y (.str r.aO)),some (.Y .aI),some (.Y (bW r.pl)),some (.Y (.int r.cnt)),some (.Y (gD (.c x))),f,?_⟩;rw[show(xx r (.c x)).toList=[] from rfl];rw[d_];unfold qL;unfold br;generalize pP mv=gd at *;generalize mv.map gH=md at *;generalize bW r.pl=pd at *;generalize gD (.c x)=G at *;generalize rows.map (λr=>D.tup [.str r.aO,.aI,bW r.pl,.int r.cnt])=rd at *
  generalize c_ h=hd at *;generalize lD R=ld at *;simp only[pH,pG,fP,bw,bz,bI,Nat.reduceAdd,Nat.reduceLT,cG,bS,if_true,↓ah,pF,dJ,ef,My,ba,bx,aY,bc,bj,bD,bF,bC,eg,dr,cR,bL,bU,dA,h1,ic,dy,dD,if_false]
 |p q=>
  rw[vP] at ic;have ep:=X' (r:=⟨r.aO,q,r.cnt+if again r.pl q=true then 1 else 0⟩) (nd _ rfl) l
  refine⟨some (.Y (.str r.aO)),some (.Y .aI),some (.Y (bW r.pl)),some (.Y (.int r.cnt)),some (.Y (bW q)),some (.Y (.int (if again r.pl q=true then 1 else 0))),?_⟩
  rw[show(xx r (.p q)).toList=[⟨r.aO,q,r.cnt+if again r.pl q=true then 1 else 0⟩] from rfl]
  have ea:=Xo r.pl q (some (.Y (c_ h))) (some (.Y (.lst (rows.map br)))) (some (.Y (.lst (mv.map gH)))) (some (.Y (.aK (pP mv)))) (some (.aK (lD R))) (some (.Y (.str r.aO))) (some (.Y .aI)) (some (.Y (.int r.cnt))) f none none;unfold qL;generalize lD (R++[⟨r.aO,q,r.cnt+if again r.pl q=true then 1 else 0⟩])=l2 at *
  unfold br at *;dsimp only at *;rw[show gD (.p q)=bW q from rfl] at eg ic;generalize pP mv=gd at *;generalize mv.map gH=md at *;generalize bW r.pl=pd at *;generalize bW q=qd at *;generalize Dw=ae at *;generalize rows.map (λr=>D.tup [.str r.aO,.aI,bW r.pl,.int r.cnt])=rd at *
  generalize c_ h=hd at *;generalize lD R=ld at *;generalize again r.pl q=ag at *;simp only[pH,pG,fP,bw,bz,bI,Nat.reduceAdd,Nat.reduceLT,cG,bS,if_true,↓ah,pF,dJ,ef,My,ba,bx,aY,bc,bj,bD,bF,bC,eg,dr,cR,bL,bU,dA,h1,ic,ea,W4,IF,cI,fV,jB,bP,Nat.reduceLeDiff,fW,eS,kX,du,dt,ep,dD]
noncomputable def fR(R:List Row)(p:ju):Option Row:=R.find? λr=>decide (r.pl=p)
theorem Xp(R:List Row)(p:ju):jI (lD R) (kP p)=(fR R p).map λr=>.Y (br r):=by
 unfold jI lD fR;rw[List.find?_map,Option.map_map];simp only[Function.comp_def,I_]
theorem JX(R:List Row)(p:ju):a_ false [.Y (bW p),.aK (lD R)]=some (.Y (.bl (fR R p).isSome)):=by
 unfold a_;simp only[h_,IS,jJ,dy,if_false];unfold lD fR;rw[AS,Ej];simp only[I_,Option.isSome_map]
theorem JZ{R:List Row}(h:fR R p=some r):cF (.aK (lD R)) (bW p)=some (.Y (br r)):=by
 show(eV (bW p)).bind (λk=>(jI (lD R) k).bind gW)=_
 rw[IS,jJ,Xp,h];rfl
theorem HM{α β γ:Type}(f:α->Option β)(g:β->γ)(d:β):∀xs:List α,(xs.filter λc=>(f c).isSome).map (λc=>g ((f c).getD d))=(xs.filterMap f).map g
 |[]=>rfl
 |x::xs=>by
  rw[qe,r_];cases e:f x with
  |none=>exact HM f g d xs
  |some y=>
   simp only[Option.isSome_some,if_true,cu,e,Option.getD_some];rw[HM f g d xs]
noncomputable def dQ(R:List Row)(b:az):List Row:=(List.range b.long.toNat).filterMap λc:Nat=>fR R (b.name,(c:Int))
noncomputable def gQ(h:aU)(R:List Row):List Row:=h.aj.flatMap (dQ R)
theorem SQ(R:List Row)(b:az)(bl:b.long<=26):∃a,compLoop (aX 0) (gT (gB (a_ false) kE (aa 1))) (gB bu (aa 1) kE) (ig 0 b.long.toNat) [none,some (.aK (lD R)),some (.Y (ay b))] []=some (((dQ R b).map br).map .Y,[a,some (.aK (lD R)),some (.Y (ay b))]):=by
 obtain⟨U',⟨a,rfl⟩,e⟩:=wa (g:=aX 0) (ct:=gT (gB (a_ false) kE (aa 1))) (ce:=gB bu (aa 1) kE) (λU=>∃a:Option O,U=[a,some (.aK (lD R)),some (.Y (ay b))]) (λc:Nat=>D.int (0+(c:Int))) (λc=>(fR R (b.name,(c:Int))).isSome) (λc=>br ((fR R (b.name,(c:Int))).getD ⟨"",("",0),0⟩)) (List.range b.long.toNat) [] [none,some (.aK (lD R)),some (.Y (ay b))] ⟨_,rfl⟩ (by rw[vM,uF];lia) (by
  rintro x hx _ ⟨a,rfl⟩;rw[C8];generalize(x:Int)=xi;have e0:=zi b;have e1:=JX R (b.name,xi);refine⟨[some (.Y (.int xi)),some (.aK (lD R)),some (.Y (ay b))],?_,_,rfl⟩;cases q:fR R (b.name,xi) with
  |none=>
   rw[q] at e1;unfold bW at e1;dsimp only[Option.isSome_none] at *;generalize lD R=ld at *;generalize ay b=bd at *;simp only[mB,fP,bw,bz,bI,Nat.reduceAdd,Nat.reduceLT,bS,if_true,↓ah,cR,bL,bc,cI,fV,ba,bx,aY,bU,bj,bD,bF,bC,dA,e0,Nat.reduceLeDiff,fW,eS,kX,du,bP,dt,nD,jX,e1,dy,if_false]
  |some r=>
   have e2:=JZ q;rw[q] at e1;unfold bW at e1 e2;dsimp only[Option.isSome_some,Option.getD_some] at *;generalize br r=rr at *;generalize lD R=ld at *;generalize ay b=bd at *;simp only[mB,fP,bw,bz,bI,Nat.reduceAdd,Nat.reduceLT,bS,if_true,↓ah,cR,bL,bc,cI,fV,ba,bx,aY,bU,bj,bD,bF,bC,dA,e0,Nat.reduceLeDiff,fW,eS,kX,du,bP,dt,nD,jX,e1,e2])
 refine⟨a,?_⟩;rw[iA,HM (λc:Nat=>fR R (b.name,(c:Int))) br] at e
 rw[yg];exact e
theorem Wd{R pre:List Row}(b0:0<=b.long)(bl:b.long<=26)(pl:pre.length < 10000)(a1 b1 c d e f i:Option O):
  (aX 12 (ay b) (qL h rows mv R a1 b1 c d e f (some (.lst ((pre.map br).map .Y))) i)).bind rK=some (.nx,qL h rows mv R a1 b1 c d e f (some (.lst (((pre++dQ R b).map br).map .Y))) (some (.Y (ay b)))):=by
 obtain⟨a,e1⟩:=SQ R b bl;have e2:=KA b;have e3:gY [.own (.Y (.int b.long))]=some b.long:=fN (by lia)
 have l:(dQ R b).length<=26:=by
  have:=uG (λc:Nat=>fR R (b.name,(c:Int))) (List.range b.long.toNat)
  rw[uF] at this;unfold dQ;lia
 have e4:Eb (.lst ((pre.map br).map .Y)) [.Y (.lst ((dQ R b).map br))]=some (.lst (((pre++dQ R b).map br).map .Y),.Y .aI):=by
  refine(if_pos (by rw[bB,bB,bB];lia)).trans ?_
  rw[dh,dh]
 unfold rK qL;generalize((pre++dQ R b).map br).map O.Y=t2 at *;generalize(pre.map br).map O.Y=t1 at *;generalize(dQ R b).map br=cr at *;generalize lD R=ld at *;generalize ay b=bd at *;generalize kE=ke at *;generalize pP mv=gd at *;generalize mv.map gH=md at *;generalize rows.map br=rd at *;generalize c_ h=hd at *;simp only[fP,bw,bz,bI,Nat.reduceAdd,Nat.reduceLT,cG,bS,if_true,↓ah,jK,oI,ba,bx,aY,bc,cI,mK,Mq,bL,bU,bj,bD,bF,bC,dA,e2,e3,↓evMap,gk,dN,ql,jX,nv,gr,gI,e1,oq,nq,qm,ny,jT,mQ,fW,eS,e4]
theorem Mb(R:List Row):∀{bs:List az},(∀b∈bs,b.long<=26)->(bs.flatMap (dQ R)).length<=26 * bs.length
 |[],_=>cP _
 |b::bs,h=>by
  have ih:=Mb R (bs:=bs) λx hx=>h x (.tail _ hx)
  have hb:=h b (.head _);have:=uG (λc:Nat=>fR R (b.name,(c:Int))) (List.range b.long.toNat)
  rw[uF] at this;rw[List.flatMap_cons,gK,jV];unfold dQ at *;lia
structure lR (h:aU):Prop where
 g:bR h
 qJ:∀b∈h.aj,b.long<=26
 b5:h.aj.length<=5
theorem NM(hh:lR h)(nd:(mv.map (·.1)).Nodup)(ml:mv.length < 1000)(rl:rows.length < 1000)(hg:∀r∈rows,∀x,nE mv r=.c x->x∈h.af)(np:((rows.filterMap (nr mv)).map Row.pl).Nodup):
  v7 [.Y (c_ h),.Y (.lst (rows.map br)),.Y (.lst (mv.map gH))]=some (.lst (((gQ h (rows.filterMap (nr mv))).map br).map .Y),[none,none,none]):=by
 obtain⟨d1,d2⟩:=Xn mv nd ml;obtain⟨U1,e1,a,b,c,d,e,f,rfl⟩:=qo (g:=E6) (f:=Cb) br (λpre U=>∃a b c d e f,U=qL h rows mv (pre.filterMap (nr mv)) a b c d e f none none) rows [] (qL h rows mv [] none none none none none none none none) ⟨_,_,_,_,_,_,rfl⟩ (by
  rintro q x post U e ⟨a,b,c,d,e2,f,rfl⟩;rw[iA] at *;have l:=congrArg List.length e;rw[gK] at l;have l2:=uG (nr mv) q;obtain⟨a2,b2,c2,d2,e3,f2,z⟩:=Wc (h:=h) (rows:=rows) (R:=q.filterMap (nr mv)) (mv:=mv) (r:=x) (hg x (by rw[e];simp)) (by
   intro y hy hc;rw[e,xX,r_,Option.mem_def.mp hy] at np;rw[dh,cv] at np;exact(hV.mp np).2.2 _ hc _ (.head _) rfl) (by lia) a b c d e2 f
  refine⟨_,z,a2,b2,c2,d2,e3,f2,?_⟩;rw[xX]
  congr 1)
 rw[iA] at e1;generalize rows.filterMap (nr mv)=R at *;obtain⟨U2,e2,i,rfl⟩:=qo (g:=aX 12) (f:=rK) ay (λpre U=>∃i,U=qL h rows mv R a b c d e f (some (.lst (((pre.flatMap (dQ R)).map br).map .Y))) i) h.aj [] (qL h rows mv R a b c d e f (some (.lst [])) none) ⟨_,rfl⟩ (by
  rintro q x post U eb ⟨i,rfl⟩;rw[iA] at *;have hx:x∈h.aj:=by rw[eb];simp
  have l:=congrArg List.length eb;rw[gK] at l;have l5:=hh.b5;have l2:=Mb R (bs:=q) λy hy=>hh.qJ y (by rw[eb];simp[hy])
  have l1:=(hh.g.lg x hx).1;have z:=Wd (h:=h) (rows:=rows) (R:=R) (pre:=q.flatMap (dQ R)) (mv:=mv) (b:=x) (by lia) (hh.qJ x hx) (by lia) a b c d e f i
  refine⟨_,z,some (.Y (ay x)),?_⟩;rw[List.flatMap_append];simp)
 rw[iA] at e2;have h0:=vJ h;unfold gQ;unfold v7;unfold Hb;unfold qL at *;rw[show lD []=[] from rfl] at e1;generalize((h.aj.flatMap (dQ R)).map br).map O.Y=t2 at *;generalize lD R=ld at *;generalize pP mv=gd at *;generalize sP mv=go at *;generalize mv.map gH=md at *;generalize rows.map br=rd at *;generalize h.aj.map ay=bd at *;generalize c_ h=hd at *;generalize E6=m1 at *;generalize Cb=m2 at *;generalize rK=m3 at *;simp only[eF,cu,cB,bw,bz,bI,Nat.reduceAdd,Nat.reduceSub,gk,dN,gr,gI,dJ,ef,cI,bL,bc,ba,bx,aY,↓ah,bj,bD,bF,bC,d1,d2,Nat.reduceLT,cG,bS,if_true,DN,pK,bP,e1,fV,Nat.reduceLeDiff,eS,bU,dA,h0,e2,gx,yq,iu,eL,eM,fJ,eJ]
noncomputable def tD{α:Type}(k:α->Str)(f:α->D)(l:List α):List (TK×O):=l.map λa=>(bK (k a),.Y (f a))
theorem Ja{α:Type}{k:α->Str}{f:α->D}(l:List α):(tD k f l).all (λp=>kx p.1)=true:=by
 rw[og];intro x hx;obtain⟨a,_,rfl⟩:=gL.mp hx;rfl
theorem Jb{α:Type}{k:α->Str}{f:α->D}{l:List α}(h:x∉l.map k):a_ neg [.Y (.str x),.aK (tD k f l)]=some (.Y (.bl neg)):=by
 unfold a_;simp only[h_,eV,jJ];unfold tD;rw[AS,Ej,zx.mpr]
 ·cases neg <;> rfl
 ·intro a ha e;refine h (gL.mpr ⟨a,ha,?_⟩);have:=of_decide_eq_true e;injection this
theorem Ou{α:Type}{k:α->Str}{l1 l2:List α}{a:α}(h:k a∉l1.map k):(l1++a::l2).find? (λb=>decide (bK (k b)=bK (k a)))=some a:=by
 rw[List.find?_append,zx.mpr,Option.none_or,qP,decide_eq_true rfl];intro b hb e;refine h (gL.mpr ⟨b,hb,?_⟩);have:=of_decide_eq_true e;injection this
theorem Xq{α:Type}{k:α->Str}{f:α->D}{l1 l2:List α}{a:α}(h:k a∉l1.map k):a_ neg [.Y (.str (k a)),.aK (tD k f (l1++a::l2))]=some (.Y (.bl (!neg))):=by
 unfold a_;simp only[h_,eV,jJ];unfold tD;rw[AS,Ej,Ou h];cases neg <;> rfl
theorem Ov{α:Type}{k:α->Str}{f:α->D}{l1 l2:List α}{a:α}(h:k a∉l1.map k):jI (tD k f (l1++a::l2)) (bK (k a))=some (.Y (f a)):=by
 unfold jI tD;rw[List.find?_map,Option.map_map];exact congrArg (Option.map _) (Ou h)
theorem yL{α:Type}{k:α->Str}{f:α->D}{l1 l2:List α}{a:α}(h:k a∉l1.map k):cF (.aK (tD k f (l1++a::l2))) (.str (k a))=some (.Y (f a)):=by
 show(jI _ (bK (k a))).bind gW=_;rw[Ov h];rfl
theorem EN{α:Type}{k:α->Str}{f:α->D}{d:D}{l:List α}(h:x∉l.map k)(hl:l.length < 1000):eW (.aK (tD k f l)) [.Y d,.Y (.str x)]=some (.aK (tD k f l++[(bK x,.Y d)]),.Y .aI):=by
 unfold eW rZ;dsimp only;rw[show eV (.str x)=some (bK x) from rfl,jJ,if_pos (by unfold tD;rw[bB];lia),Ei]
 intro e he z;obtain⟨a,ha,rfl⟩:=gL.mp he;refine h (gL.mpr ⟨a,ha,?_⟩);injection z
theorem Ow{k1:TK}{u v:O}:∀{l1 l2:List (TK×O)},(∀e∈l1,e.1≠k1)->fy (l1++(k1,u)::l2) k1 v=l1++(k1,v)::l2
 |[],l2,_=>by rw[iA];unfold fy;rw[if_pos rfl];rfl
 |e::l1,l2,h=>by
  rw[zt];unfold fy;rw[if_neg (h e (.head _)),Ow λx hx=>h x (.tail _ hx)]
  rfl
theorem OH{α:Type}{k:α->Str}{f:α->D}{d:D}{l1 l2:List α}{a:α}(h:k a∉l1.map k)(hl:(l1++a::l2).length < 1000):eW (.aK (tD k f (l1++a::l2))) [.Y d,.Y (.str (k a))]=some (.aK (tD k f l1++(bK (k a),.Y d)::tD k f l2),.Y .aI):=by
 unfold eW rZ;dsimp only;rw[show eV (.str (k a))=some (bK (k a)) from rfl,jJ,if_pos (by unfold tD;rw[bB];lia)]
 unfold tD;rw[dh,cv,Ow];intro e he z;obtain⟨b,hb,rfl⟩:=gL.mp he;refine h (gL.mpr ⟨b,hb,?_⟩);injection z
theorem Jc{α:Type}{k:α->Str}{f:α->D}{l1 l2:List α}{a:α}(h1:k a∉l1.map k)(h2:k a∉l2.map k):iR (.aK (tD k f (l1++a::l2))) [.Y (.str (k a))]=some (.aK (tD k f (l1++l2)),.Y (f a)):=by
 unfold iR;dsimp only;rw[if_pos (Ja _),show jI (tD k f (l1++a::l2)) (.inr (k a))=_ from Ov h1,jJ];dsimp only;have z:∀{l:List α},k a∉l.map k->(tD k f l).filter (λp=>dE (k a) p.1)=tD k f l:=λ{l} h=>List.filter_eq_self.mpr λe he=>by
  obtain⟨b,hb,rfl⟩:=gL.mp he;refine decide_eq_true λe=>h (gL.mpr ⟨b,hb,?_⟩)
  injection e
 have e:tD k f (l1++a::l2)=tD k f l1++(bK (k a),.Y (f a))::tD k f l2:=by unfold tD;rw[dh];rfl
 rw[e,List.filter_append,qe,z h1,z h2,if_neg (by unfold dE;simp)]
 unfold tD;rw[dh]
noncomputable abbrev HL(h:aU)(now:Int)(pl rd ro:List (TK×O))(gl:List O)(gd:List (TK×O)):O:=.ins aq bO [.Y (c_ h),.Y (.int 2),.Y (.int now),.aK [],.aK [],.aK pl,.aK rd,.aK ro,.lst gl,.aK gd]
noncomputable abbrev tP:=tD Row.aO λr=>bW r.pl
noncomputable abbrev tR:=tD Row.aO λ_=>D.aI
noncomputable abbrev Fi:=tD Row.aO λr=>D.int r.cnt
noncomputable abbrev Py:=tD Out.aO λo=>D.str o.tY
theorem q_(h:aU)(R:List Row)(G:List Out)(now:Int):bG h R G now=HL h now (tP R) (tR R) (Fi R) (G.map λo=>.Y (outD o)) (Py G):=rfl
section
variable {h:aU} {now:Int} {pl rd ro gd:List (TK×O)} {gl:List O} {x:Str}
theorem Ya(g:bR h)(hx:x∈h.aj.map az.name):Dk [HL h now pl rd ro gl gd,fS x]=some (.Y .aI,[some (HL h now pl rd ro gl gd),none]):=by
 have bl:=g.sm.bl;have e1:=yx h.aj (by lia)
 have e0:=vJ h;have e2:=uV true x (h.aj.map az.name);rw[s_.mpr hx,if_pos rfl] at e2;unfold Dk Ga;generalize(h.aj.map az.name).map fS=l2 at *;generalize h.aj.map ay=l1 at *;simp only[eF,cu,cB,bw,bz,bI,Nat.reduceAdd,Nat.reduceSub,dN,d_,dr,cR,bL,bc,ba,bx,aY,↓ah,iC,oJ,and_self,if_true,bU,bj,bD,bF,bC,dA,e0,jg,iB,e1,jh,iE,e2,kM,dy,sy,dD,if_false,nU,eL,eM,mC,fJ,eJ]
theorem Yb(hn:nX x)(hx:a_ true [.Y (.str x),.aK pl]=some (.Y (.bl false))):Di [HL h now pl rd ro gl gd,fS x]=some (.Y .aI,[some (HL h now pl rd ro gl gd),none]):=by
 unfold nX at hn;unfold Di FZ;simp only[eF,cu,cB,bw,bz,bI,Nat.reduceAdd,Nat.reduceSub,dN,d_,dr,tV,qy,iP,gw,bc,ba,bx,aY,↓ah,bj,bD,bF,bC,du,bP,dt,hn,tO,iV,kM,dy,cR,bL,oJ,and_self,if_true,tQ,hx,if_false,sy,dD,nU,eL,eM,mC,fJ,eJ]
theorem Yc{d:D}(hn:nX x)(hx:a_ true [.Y (.str x),.aK pl]=some (.Y (.bl false)))(hg:a_ false [.Y (.str x),.aK gd]=some (.Y (.bl false)))(ix:cF (.aK pl) (.str x)=some (.Y d)):yb [HL h now pl rd ro gl gd,fS x]=some (.Y d,[some (HL h now pl rd ro gl gd),none]):=by
 have e1:=Yb (h:=h) (now:=now) (rd:=rd) (ro:=ro) (gl:=gl) (gd:=gd) hn hx;unfold nX at hn;unfold yb Hg;simp only[eF,cu,cB,bw,bz,bI,Nat.reduceAdd,Nat.reduceSub,dN,d_,dJ,dr,lC,iP,gw,bc,ba,bx,aY,↓ah,bj,bD,bF,bC,du,bP,dt,hn,tO,iV,cR,bL,oJ,and_self,if_true,tQ,hg,dy,gx,dA,dD,if_false,jK,q9,iC,nO,bS,jg,iB,e1,nQ,jh,iE,ix,iu,eL,eM,mC,fJ,eJ]
theorem MQ:tK [HL h now pl rd ro gl gd]=some (.Y (.int now),[some (HL h now pl rd ro gl gd)]):=by
 unfold tK GP;simp only[eF,cu,cB,bw,bz,bI,Nat.reduceSub,dN,d_,gx,oJ,aY,and_self,bx,if_true,↓ah,iu,eL,eM,mC,eJ]
theorem Yd(hl:gl.length < 1000)(e0:gl=ds.map .Y):yt [HL h now pl rd ro gl gd]=some (.lst gl,[some (HL h now pl rd ro gl gd)]):=by
 have e:iS [.lst gl]=some (.lst gl):=by
  rw[e0];exact(congrArg (λz=>z.map λds=>O.lst (ds.map .Y)) (show uy (.lst (ds.map .Y))=some ds by unfold uy;rw[show df (.lst (ds.map .Y))=some ds from uM ds]))
 unfold yt Ij;simp only[eF,cu,cB,bw,bz,bI,Nat.reduceSub,dN,d_,gx,bL,bc,oJ,aY,and_self,bx,if_true,↓ah,bj,bD,tQ,bC,e,iu,eL,eM,mC,eJ]
theorem Xr:l_ true [.Y .aI,.Y .aI]=some (.Y (.bl false)):=rfl
theorem Ye{b:Str}{vs:List O}{rV CA vA:List (TK×O)}{gl:List O}(g:bR h)(hb:b∈h.aj.map az.name)(hn:nX x)(h1:a_ false [.Y (.str x),.aK pl]=some (.Y (.bl false)))(h2:a_ false [.Y (.str x),.aK gd]=some (.Y (.bl false)))
  (ev:kF [.aK pl]=some (.lst vs)) (hv:a_ false [.Y (.tup [.str b,.int 0]),.lst vs]=some (.Y (.bl false))) (s1:eW (.aK pl) [.Y (.tup [.str b,.int 0]),.Y (.str x)]=some (.aK rV,.Y .aI)) (s2:eW (.aK rd) [.Y .aI,.Y (.str x)]=some (.aK CA,.Y .aI)) (s3:eW (.aK ro) [.Y (.int 0),.Y (.str x)]=some (.aK vA,.Y .aI)) :
  yu [HL h now pl rd ro gl gd,fS x,.Y .aI,fS b]=some (.Y .aI,[some (HL h now rV CA vA gl gd),none,none,none]):=by
 have e1:=Ya (now:=now) (pl:=pl) (rd:=rd) (ro:=ro) (gl:=gl) (gd:=gd) g hb;unfold nX at hn;unfold yu Il;simp only[eF,cu,cB,bw,bz,bI,Nat.reduceAdd,Nat.reduceSub,gk,dN,gr,gI,dJ,dr,tV,qy,iP,gw,bc,ba,bx,aY,↓ah,bj,bD,bF,bC,du,bP,dt,hn,tO,iV,kM,dy,cR,bL,oJ,and_self,if_true,tQ,h1,h2,if_false,sy,dD,bU,Xr,jK,q9,iC,nO,bS,jg,iB,e1,nQ,jh,iE,ef,cI,fV,Nat.reduceLeDiff,fW,eS,kX,Nat.reduceLT,cG,ev,hv,b2i,s1,s2,s3,nU,eL,eM,mC,fJ,eJ]
end
theorem Yf(g:bR h){R:List Row}(hb:b∈h.aj)(hn:nX x)(h1:x∉R.map Row.aO)(h2:x∉G.map Out.aO)(h3:(b.name,0)∉R.map Row.pl)(rl:R.length < 1000):
  yu [bG h R G now,fS x,.Y .aI,fS b.name]=some (.Y .aI,[some (bG h (R++[⟨x,(b.name,0),0⟩]) G now),none,none,none]):=by
 rw[q_,q_];have ev:kF [.aK (tP R)]=some (.lst (((R.map Row.pl).map bW).map .Y)):=by
  unfold kF;dsimp only;rw[if_pos (Ja _),show(tP R).map (·.2)=((R.map Row.pl).map bW).map .Y by unfold tP tD;simp only[jx];rfl,uM]
  rfl
 have hv:=EM false (.p (b.name,0)) (R.map Row.pl);rw[show qG (R.map Row.pl) (.p (b.name,0))=false by
  rw[C9];intro e;obtain⟨y,hy,e⟩:=zy.mp e;exact h3 (of_decide_eq_true e ▸ hy)] at hv
 have:=Ye (now:=now) (gl:=G.map λo=>.Y (outD o)) g (pe (f:=az.name) hb) hn (Jb (k:=Row.aO) (f:=λr=>bW r.pl) h1) (Jb (k:=Out.aO) (f:=λo=>D.str o.tY) h2) ev hv (EN h1 rl) (EN (f:=λ_=>D.aI) h1 rl) (EN (f:=λr=>D.int r.cnt) h1 rl)
 have z:∀f:Row->D,tD Row.aO f R++[(bK x,.Y (f ⟨x,(b.name,0),0⟩))]=tD Row.aO f (R++[⟨x,(b.name,0),0⟩]):=λf=>by
  unfold tD;rw[dh];rfl
 have z1:=z λr=>bW r.pl
 have z2:=z λr=>.aI
 have z3:=z λr=>.int r.cnt
 dsimp only at z1 z2 z3;rw[z1,z2,z3] at this;exact this
section
variable {h:aU} {now:Int} {pl rd ro gd rV CA vA OR:List (TK×O)} {gl OS:List O} {x c:Str} {b:az} {pd qd d5 d6 d7:D} {c1 c2:Bool}
theorem Yg(i5:cF (.aK pl) (.str x)=some (.Y pd))(bo:uL [.Y (c_ h),fS b.name]=some (jO b,[none,none]))(p0:cF (.Y pd) (.int 0)=some (.Y (.str b.name)))
  (q1:oEq [.Y pd,.tup [.Y (.str b.name),.Y (.int (b.long - 1))]]=some (.Y (.bl c1))) (q2:oEq [.Y qd,.tup [.Y (.str b.name),.Y (.int 0)]]=some (.Y (.bl c2)))
  (yes:(b.ring && (c1 && c2))=true->pW 1 (.aK ro) [.Y (.str x)]=some (.aK vA,.Y .aI)) (no:(b.ring && (c1 && c2))=false->vA=ro) (pt:eW (.aK pl) [.Y qd,.Y (.str x)]=some (.aK rV,.Y .aI)) :
  v5 [HL h now pl rd ro gl gd,fS x,.Y qd]=some (.Y .aI,[some (HL h now rV rd vA gl gd),none,none]):=by
 have t:=Oq b;have x0:=zi b;have x1:=KA b;have x2:=PF b;unfold v5 GD;unfold HL;generalize jO b=tb at *;generalize ay b=bd at *;generalize c_ h=hd at *;cases hr:b.ring with
 |false=>
  rw[hr] at no x2;obtain rfl:=no rfl;simp only[eF,cu,cB,bw,bz,bI,Nat.reduceAdd,Nat.reduceSub,gk,dN,gr,gI,dJ,ef,bL,bc,oJ,aY,and_self,bx,if_true,↓ah,ba,bj,bD,tQ,bF,bC,dA,i5,Nat.reduceLT,cG,bS,cI,iC,bU,p0,jg,iB,bo,jh,iE,t,dr,lC,iP,x2,iV,dy,cR,fV,x0,x1,iW,Nat.reduceLeDiff,fW,eS,q1,q2,if_false,dD,b2i,pt,nU,eL,eM,mC,fJ,eJ]
 |true=>
  rw[hr] at yes no x2;cases c1 with
  |false=>
   obtain rfl:=no rfl;simp only[eF,cu,cB,bw,bz,bI,Nat.reduceAdd,Nat.reduceSub,gk,dN,gr,gI,dJ,ef,bL,bc,oJ,aY,and_self,bx,if_true,↓ah,ba,bj,bD,tQ,bF,bC,dA,i5,Nat.reduceLT,cG,bS,cI,iC,bU,p0,jg,iB,bo,jh,iE,t,dr,lC,iP,x2,iV,cR,fV,x0,x1,iW,Nat.reduceLeDiff,fW,eS,q1,dy,q2,if_false,dD,b2i,pt,nU,eL,eM,mC,fJ,eJ]
  |true=>
   cases c2 with
   |false=>
    obtain rfl:=no rfl;simp only[eF,cu,cB,bw,bz,bI,Nat.reduceAdd,Nat.reduceSub,gk,dN,gr,gI,dJ,ef,bL,bc,oJ,aY,and_self,bx,if_true,↓ah,ba,bj,bD,tQ,bF,bC,dA,i5,Nat.reduceLT,cG,bS,cI,iC,bU,p0,jg,iB,bo,jh,iE,t,dr,lC,iP,x2,iV,cR,fV,x0,x1,iW,Nat.reduceLeDiff,fW,eS,q1,q2,dy,dD,if_false,b2i,pt,nU,eL,eM,mC,fJ,eJ]
   |true=>
    have yes:=yes rfl;simp only[eF,cu,cB,bw,bz,bI,Nat.reduceAdd,Nat.reduceSub,gk,dN,gr,gI,dJ,ef,bL,bc,oJ,aY,and_self,bx,if_true,↓ah,ba,bj,bD,tQ,bF,bC,dA,i5,Nat.reduceLT,cG,bS,cI,iC,bU,p0,jg,iB,bo,jh,iE,t,dr,lC,iP,x2,iV,cR,fV,x0,x1,iW,Nat.reduceLeDiff,fW,eS,q1,q2,IJ,yes,dD,b2i,pt,nU,eL,eM,mC,fJ,eJ]
theorem Xs(o1:iR (.aK pl) [.Y (.str x)]=some (.aK rV,.Y d5))(o2:iR (.aK rd) [.Y (.str x)]=some (.aK CA,.Y d6))(o3:iR (.aK ro) [.Y (.str x)]=some (.aK vA,.Y d7))(o4:eW (.aK gd) [.Y (.str c),.Y (.str x)]=some (.aK OR,.Y .aI))(o5:qx (.lst gl) [.Y (.tup [.str x,.str c,.int now])]=some (.lst OS,.Y .aI)):
  vY [HL h now pl rd ro gl gd,fS x,fS c]=some (.Y .aI,[some (HL h now rV CA vA OS OR),none,none]):=by
 unfold vY Gp;simp only[eF,cu,cB,bw,bz,bI,Nat.reduceAdd,Nat.reduceSub,dN,d_,dJ,jK,km,aY,and_self,bx,bc,ba,↓ah,bj,fW,eS,o1,cG,bS,if_true,o2,o3,b2i,oJ,o4,lF,cI,fV,Nat.reduceLeDiff,kX,du,bP,dt,o5,nU,eL,eM,mC,fJ,eJ]
end
theorem NN{af:List Str}:∀{bs:List az},mw af bs->∀b∈bs,∀o∈b.outs,o≠b.name
 |x::bs,f,b,hb,o,ho,e=>by
  rcases dZ.mp hb with rfl|hb
  ·rcases f.1 o ho with z|z
   ·exact f.2.1 (e ▸ z)
   ·exact f.2.2.1 (e ▸ z)
  ·exact NN f.2.2.2 b hb o ho e
theorem Rm(g:bR h)(hb:FR h b p)(hg:Goal.p q∈kS h b p.2)(ne:q≠p):(b.ring && (decide (p=(b.name,b.long - 1)) && decide (q=(b.name,0))))=again p q:=by
 obtain⟨hm,hp,p0,p1⟩:=hb;obtain⟨pn,pk⟩:=p;obtain⟨qn,qk⟩:=q;dsimp only at *;subst hp;unfold again;dsimp only;unfold kS at hg;rw[zr];simp only[qb,decide_eq_true_eq,beq_iff_eq,Prod.mk.injEq];split at hg
 ·obtain⟨rfl,rfl⟩:qn=b.name/\qk=pk+1:=by simpa using hg
  constructor
  ·rintro⟨_,⟨_,e⟩,_⟩;lia
  ·rintro⟨_,e,_⟩;lia
 ·rcases jw.mp hg with z|z
  ·obtain⟨o,ho,e⟩:=gL.mp z;have on:=NN g.fwd b hm o ho;unfold me at e;split at e
   ·cases e
   ·have e:o=qn:=by injection e with e;injection e
    subst e;constructor
    ·rintro⟨_,_,e,_⟩;exact absurd e on
    ·rintro⟨e,_⟩;exact absurd e.symm on
  ·split at z
   ·rename_i hr
    obtain⟨rfl,rfl⟩:qn=b.name/\qk=0:=by simpa using z
    have:=(g.lg b hm).2 hr;constructor <;> intro _ <;> simp[hr] <;> lia
   ·simp at z
theorem Ox(p:ju)(n:Str)(m:Int):oEq [.Y (bW p),.tup [.Y (.str n),.Y (.int m)]]=some (.Y (.bl (decide (p=(n,m))))):=by
 have a:=EK 38 p;have b:=EK 38 (n,m);rw[iQ,show(O.tup [.Y (.str n),.Y (.int m)]).d=bW (n,m) by simp only[kX,du,dt,bP],bP,if_pos ⟨a,b⟩,OG]
theorem wC{α:Type}(k:α->Str)(f:α->D)(l1 l2:List α)(a:α):tD k f (l1++a::l2)=tD k f l1++(bK (k a),.Y (f a))::tD k f l2:=by
 unfold tD;rw[dh];rfl
theorem Kz(g:bR h){R2:List Row}(hg:AR h r.pl (.p q))(ne:q≠r.pl)(h1:r.aO∉R1.map Row.aO)(hl:(R1++r::R2).length < 1000):
  v5 [bG h (R1++r::R2) G now,fS r.aO,.Y (bW q)]=some (.Y .aI,[some (bG h (R1++⟨r.aO,q,r.cnt+if again r.pl q=true then 1 else 0⟩::R2) G now),none,none]):=by
 obtain⟨b,hb,hg⟩:=hg;have ar:=Rm g hb hg ne;rw[q_,q_];have p0:=zj r.pl;rw[hb.2.1] at p0;have eR:tR (R1++r::R2)=tR (R1++⟨r.aO,q,r.cnt+if again r.pl q=true then 1 else 0⟩::R2):=by
  unfold tR;rw[wC,wC]
 rw[<-eR];refine Yg (b:=b) (pd:=bW r.pl) (yL (k:=Row.aO) (f:=λr=>bW r.pl) h1) (OF h b g.fwd hb.1) p0 (Ox _ _ _) (Ox _ _ _) (λe=>?_) (λe=>?_) ?_
 ·rw[ar] at e;unfold pW;dsimp only;rw[yL (k:=Row.aO) (f:=λr=>D.int r.cnt) h1]
  dsimp only;rw[OH h1 hl];unfold Fi;rw[wC,e,if_pos rfl]
 ·rw[ar] at e;unfold Fi;rw[wC,wC,e,if_neg kU,Int.add_zero]
 ·rw[OH h1 hl];unfold tP;rw[wC]
theorem Xt{R2:List Row}{c:Str}(h1:r.aO∉R1.map Row.aO)(h2:r.aO∉R2.map Row.aO)(h3:r.aO∉G.map Out.aO)(gl:G.length < 1000):
  vY [bG h (R1++r::R2) G now,fS r.aO,fS c]=some (.Y .aI,[some (bG h (R1++R2) (G++[⟨r.aO,c,now⟩]) now),none,none]):=by
 rw[q_,q_];refine Xs (Jc (k:=Row.aO) h1 h2) (Jc (k:=Row.aO) h1 h2) (Jc (k:=Row.aO) h1 h2) ?_ ?_
 ·rw[EN h3 gl];unfold Py;rw[wC];rfl
 ·refine(if_pos (by rw[bB];lia)).trans ?_
  rw[dh];rfl
theorem Oy(h:r.aO∉mv.map (·.1)):nE mv r=.p r.pl:=by
 unfold nE;rw[zx.mpr];intro m hm e;exact h (gL.mpr ⟨m,hm,of_decide_eq_true e⟩)
theorem Rn(p:ju):again p p=false:=by
 unfold again;rw[C9];simp only[ne_eq,qb,decide_eq_true_eq,beq_iff_eq,not_and];intro _ e;lia
theorem Jd(h:r.aO∉mv.map (·.1)):nr mv r=some r:=by
 unfold nr;rw[Oy h];unfold xx;dsimp only;rw[Rn,if_neg kU,Int.add_zero]
theorem NO:nE (pre++[m]) r=if r.aO∈pre.map (·.1) then nE pre r else if m.1=r.aO then m.2 else .p r.pl:=by
 unfold nE;rw[List.find?_append];cases e:pre.find? λm=>decide (m.1=r.aO) with
 |some x=>
  rw[if_pos (gL.mpr ⟨x,List.mem_of_find?_eq_some e,of_decide_eq_true (List.find?_some (p:=λm:Str×Goal=>decide (m.1=r.aO)) e)⟩)]
  rfl
 |none=>
  rw[if_neg,Option.none_or,qP]
  ·by_cases c:m.1=r.aO
   ·rw[decide_eq_true c,if_pos c]
   ·rw[decide_eq_false c,if_neg c];rfl
  ·intro hm;obtain⟨x,hx,e1⟩:=gL.mp hm;exact zx.mp e x hx (decide_eq_true e1)
theorem Yh(h:m.1≠r.aO):nr (pre++[m]) r=nr pre r:=by
 unfold nr;rw[NO];by_cases c:r.aO∈pre.map (·.1)
 ·rw[if_pos c]
 ·rw[if_neg c,if_neg h,Oy c]
theorem Xu(e:m.1=r.aO)(h:r.aO∉pre.map (·.1)):nr (pre++[m]) r=xx r m.2:=by
 unfold nr;rw[NO,if_neg h,if_pos e]
theorem Xv{q:Row}(e:nr mv r=some q):q.aO=r.aO:=by
 unfold nr xx at e;split at e
 ·cases e
 ·cases e;rfl
theorem Iq(mv:List (Str×Goal))(R:List Row):((R.filterMap (nr mv)).map Row.aO).Sublist (R.map Row.aO):=by
 induction R with
 |nil=>exact .slnil
 |cons r R ih=>
  rw[r_,cv];cases e:nr mv r with
  |none=>exact ih.cons _
  |some q=>
   dsimp only;rw[cv,Xv e];exact ih.cons₂ _
noncomputable def bH(now:Int)(mv:List (Str×Goal)):List Out:=mv.filterMap λm=>match m.2 with
 |.c c=>some ⟨m.1,c,now⟩
 |.p _=>none
theorem SR(now:Int)(mv:List (Str×Goal))(h:x∈(bH now mv).map Out.aO):x∈mv.map (·.1):=by
 obtain⟨o,ho,rfl⟩:=gL.mp h;obtain⟨m,hm,e⟩:=qc.mp ho;split at e
 ·cases e;exact pe (f:=λm:Str×Goal=>m.1) hm
 ·cases e
abbrev zb:GS:=(bQ (dc (gO cM (ao (aa 3) (ao (gC (.ty "tuple")) gN))))
  (iO (c7 v5 aq bO 0 (ao (aa 2) (ao (aa 3) gN))))
  (iO (c7 vY aq bO 0 (ao (aa 2) (ao (aa 3) gN)))))
theorem Yi(ds:List D):cM [.Y (.tup ds),.Y (.ty "tuple")]=some (.Y (.bl true)):=rfl
theorem Yj(x:Str):cM [.Y (.str x),.Y (.ty "tuple")]=some (.Y (.bl false)):=rfl
theorem Xw{h:List O}{b:Option O}(e:v5 [.ins aq bO h,fS x,.Y (bW q)]=some (.Y .aI,[some (.ins aq bO h2),none,none])):(cT [aX 2,aX 3] (gH (x,.p q)) [some (.ins aq bO h),some (.Y md),a,b]).bind zb=some (.nx,[some (.ins aq bO h2),some (.Y md),some (fS x),some (.Y (bW q))]):=by
 unfold gH gD;have i:=Yi [.str q.1,.int q.2];unfold bW at *;dsimp only;simp only[pH,pG,fP,bw,bz,bI,Nat.reduceAdd,Nat.reduceLT,cG,bS,if_true,↓ah,pF,dr,iP,bL,bc,ba,bx,aY,bU,bj,bD,bF,bC,i,iV,jK,q9,and_self,iC,nO,jg,iB,e,nQ,jh,iE]
theorem We{h:List O}{c:Str}{b:Option O}(e:vY [.ins aq bO h,fS x,fS c]=some (.Y .aI,[some (.ins aq bO h2),none,none])):(cT [aX 2,aX 3] (gH (x,.c c)) [some (.ins aq bO h),some (.Y md),a,b]).bind zb=some (.nx,[some (.ins aq bO h2),some (.Y md),some (fS x),some (fS c)]):=by
 unfold gH gD;have i:=Yj c;dsimp only;simp only[pH,pG,fP,bw,bz,bI,Nat.reduceAdd,Nat.reduceLT,cG,bS,if_true,↓ah,pF,dr,iP,bL,bc,ba,bx,aY,bU,bj,bD,bF,bC,i,iV,dy,jK,q9,and_self,iC,nO,jg,iB,e,nQ,jh,iE,if_false]
theorem MR{α β:Type}{f g:α->Option β}:∀{l:List α},(∀x∈l,f x=g x)->l.filterMap f=l.filterMap g
 |[],_=>rfl
 |x::l,h=>by rw[r_,r_,h x (.head _),MR λy hy=>h y (.tail _ hy)]
structure FQ (h:aU) (R:List Row) (G:List Out) (mv:List (Str×Goal)):Prop where
 nd:(mv.map (·.1)).Nodup
 gl:∀m∈mv,∃r∈R,r.aO=m.1/\AR h r.pl m.2/\m.2≠.p r.pl
 bg:(R.map Row.aO++G.map Out.aO).Nodup
 rl:R.length < 100
 ol:G.length < 100
 ml:mv.length < 100
theorem Xx(g:bR h){R:List Row}{post:List (Str×Goal)}(ok:FQ h R G mv)(es:mv=pre++m::post)(a b:Option O):
  ((R.filterMap (nr (pre++[m]))).map Row.aO++(G++bH n (pre++[m])).map Out.aO).Perm ((R.filterMap (nr pre)).map Row.aO++(G++bH n pre).map Out.aO)/\∃a2 b2,(cT [aX 2,aX 3] (gH m) [some (bG h (R.filterMap (nr pre)) (G++bH n pre) n),some (.Y md),a,b]).bind zb=some (.nx,[some (bG h (R.filterMap (nr (pre++[m]))) (G++bH n (pre++[m])) n),some (.Y md),a2,b2]):=by
 obtain⟨r,hr,eb,hg,lH⟩:=ok.gl m (by rw[es];simp)
 obtain⟨A,B,rfl⟩:=KO hr;have nd:=ok.bg;have uk:=(hV.mp nd).1;rw[dh,cv] at uk;have nA:r.aO∉A.map Row.aO:=λz=>(hV.mp uk).2.2 _ z _ (.head _) rfl
 have nB:r.aO∉B.map Row.aO:=(j7.mp (hV.mp uk).2.1).1;have nG:r.aO∉G.map Out.aO:=λz=>(hV.mp nd).2.2 r.aO (by simp) _ z rfl
 have np:r.aO∉pre.map (·.1):=λz=>by
  have:=ok.nd;rw[es,dh,cv] at this;exact(hV.mp this).2.2 _ z _ (.head _) eb
 have fA:∀{L:List Row},r.aO∉L.map Row.aO->L.filterMap (nr (pre++[m]))=L.filterMap (nr pre):=λ{L} hL=>by
  refine MR λx hx=>Yh λe=>hL ?_
  exact gL.mpr ⟨x,hx,by rw[eb,e]⟩
 have sA:r.aO∉(A.filterMap (nr pre)).map Row.aO:=λz=>nA ((Iq pre A).subset z)
 have sB:r.aO∉(B.filterMap (nr pre)).map Row.aO:=λz=>nB ((Iq pre B).subset z)
 have l1:=uG (nr pre) A;have l2:=uG (nr pre) B;have rl:=ok.rl;have ol:=ok.ol;have ml:=ok.ml;rw[es] at ml;have l3:(bH n pre).length<=pre.length:=uG _ pre;rw[gK,jV] at rl ml;rw[xX,xX,r_,r_,fA nA,fA nB,Jd np,Xu eb.symm np];have eO:bH n (pre++[m])=bH n pre++bH n [m]:=xX;rw[eO,<-fG];obtain⟨mx,mg⟩:=m;dsimp only at *;subst eb;cases mg with
 |p q=>
  have e:=Kz (now:=n) (G:=G++bH n pre) (R1:=A.filterMap (nr pre)) (R2:=B.filterMap (nr pre)) g hg (λz=>lH (by rw[z])) sA (by rw[gK,jV];lia)
  rw[show bH n [(r.aO,Goal.p q)]=[] from rfl,d_];exact⟨by
   show(List.map Row.aO (A.filterMap (nr pre)++⟨r.aO,q,_⟩::B.filterMap (nr pre))++_).Perm _;simp only[dh,cu];exact .refl _,_,_,Xw e⟩
 |c c=>
  have e:=Xt (h:=h) (now:=n) (c:=c) (G:=G++bH n pre) (R1:=A.filterMap (nr pre)) (R2:=B.filterMap (nr pre)) sA sB (by
   rw[dh];intro z;rcases jw.mp z with z|z
   ·exact nG z
   ·exact np (SR n pre z)) (by rw[gK];lia)
  exact⟨by
   show(List.map Row.aO (A.filterMap (nr pre)++B.filterMap (nr pre))++List.map Out.aO (G++bH n pre++[⟨r.aO,c,n⟩])).Perm _;simp only[dh,cu,cB,fG,gr];refine List.Perm.append_left _ ?_;have:=List.perm_append_singleton r.aO (List.map Row.aO (B.filterMap (nr pre))++(List.map Out.aO G++List.map Out.aO (bH n pre)));simp only[fG] at this;exact this,_,_,We e⟩
theorem Xy(g:bR h){R:List Row}(ok:FQ h R G mv):
  ((R.filterMap (nr mv)).map Row.aO++(G++bH (now+1) mv).map Out.aO).Perm (R.map Row.aO++G.map Out.aO)/\An [bG h R G now,.Y (.lst (mv.map gH))]=some (.Y .aI,[some (bG h (R.filterMap (nr mv)) (G++bH (now+1) mv) (now+1)),none]):=by
 have r0:R.filterMap (nr [])=R:=by
  have:nr []=some:=funext λr=>Jd (by simp)
  rw[this,List.filterMap_some]
 obtain⟨U',e,pm,a,b,rfl⟩:=qo (g:=cT [aX 2,aX 3]) (f:=zb) gH (λpre U=>((R.filterMap (nr pre)).map Row.aO++(G++bH (now+1) pre).map Out.aO).Perm (R.map Row.aO++G.map Out.aO)/\∃a b,U=[some (bG h (R.filterMap (nr pre)) (G++bH (now+1) pre) (now+1)),some (.Y (.lst (mv.map gH))),a,b]) mv [] [some (bG h R G (now+1)),some (.Y (.lst (mv.map gH))),none,none] ⟨by rw[r0,show bH (now+1) []=[] from rfl,d_],none,none,by rw[r0,show bH (now+1) []=[] from rfl,d_]⟩ (by
  rintro q x post U e ⟨pm,a,b,rfl⟩;rw[iA] at *;obtain⟨p2,a2,b2,z⟩:=Xx g ok e (n:=now+1) (md:=.lst (mv.map gH)) a b;exact⟨_,z,p2.trans pm,a2,b2,rfl⟩)
 rw[iA] at e pm;refine⟨pm,?_⟩;clear pm;unfold An;rw[show HG=aW (Ak aq bO 0 2 1) (eA (aa 1) (cT [aX 2,aX 3]) zb) from rfl];rw[q_] at *;unfold HL at *;generalize zb=X at *;generalize mv.map gH=md at *;simp only[eF,cu,cB,bw,bz,bI,Nat.reduceAdd,Nat.reduceSub,gk,dN,gr,gI,dJ,Ak,aY,and_self,bx,cG,bS,if_true,↓ah,pK,cI,ba,bP,e,nU,eL,eM,mC,fJ,eJ]
structure VR (h:aU) (R:List Row):Prop where
 vp:∀r∈R,VP h r.pl
 np:(R.map Row.pl).Nodup
 nb:(R.map Row.aO).Nodup
 rl:R.length < 64
noncomputable abbrev sM(h:aU):List Str:=h.aj.map az.name
noncomputable def rank(h:aU)(n:Str):Nat:=(findS (sM h) n).getD 0
theorem HN{af:List Str}:∀{bs:List az},mw af bs->(bs.map az.name).Nodup
 |[],_=>zv
 |b::bs,f=>j7.mpr ⟨f.2.1,HN f.2.2.2⟩
theorem NP{l:List Str}(nd:l.Nodup)(i:Nat)(hi:i < l.length):findS l l[i]=some i:=by
 unfold findS;rw[List.findIdx?_eq_some_iff_getElem];refine⟨hi,beq_self_eq_true _,λj hj e=>?_⟩
 exact List.pairwise_iff_getElem.mp nd j i (by lia) hi hj (eq_of_beq e)
noncomputable def pV(h:aU)(r:Row):Int×Int:=(((rank h r.pl.1:Nat):Int),r.pl.2)
abbrev qS(h:aU)(a b:Row):Prop:=qK (pV h a) (pV h b)=true
theorem AE{R:List Row}(e:fR R p=some r):r∈R/\r.pl=p:=⟨List.mem_of_find?_eq_some e,of_decide_eq_true (List.find?_some (p:=λr:Row=>decide (r.pl=p)) e)⟩
theorem Xz{R:List Row}(nd:(R.map Row.pl).Nodup)(hr:r∈R):fR R r.pl=some r:=by
 obtain⟨A,B,rfl⟩:=KO hr;rw[dh,cv] at nd;unfold fR;rw[List.find?_append,zx.mpr,Option.none_or,qP,decide_eq_true rfl];intro x hx e;exact(hV.mp nd).2.2 _ (pe hx) _ (.head _) (of_decide_eq_true e)
theorem DH{R:List Row}(v:VR h R)(r:Row):r∈gQ h R↔r∈R:=by
 unfold gQ dQ;rw[List.mem_flatMap];constructor
 ·rintro⟨b,hb,hr⟩;obtain⟨c,_,e⟩:=qc.mp hr;exact(AE e).1
 ·intro hr;obtain⟨b,hb,h1,h2,h3⟩:=v.vp r hr;refine⟨b,hb,qc.mpr ⟨r.pl.2.toNat,mF.mpr (by lia),?_⟩⟩
  rw[show(b.name,((r.pl.2.toNat:Nat):Int))=r.pl from Prod.ext h1.symm (by show((r.pl.2.toNat:Nat):Int)=r.pl.2;lia)]
  exact Xz v.np hr
theorem Oz(x:Int×Int):qK x x≠true:=by
 unfold qK;rw[ne_eq,decide_eq_true_eq];lia
theorem Dv(g:bR h)(R:List Row):(gQ h R).Pairwise (qS h):=by
 unfold gQ;rw[List.pairwise_flatMap];constructor
 ·intro b hb;unfold dQ;rw[List.pairwise_filterMap];refine List.pairwise_lt_range.imp λ{i j} nF x hx y hy=>?_
  have e1:=(AE hx).2;have e2:=(AE hy).2;unfold qS pV qK;rw[e1,e2];exact decide_eq_true (.inr ⟨rfl,by show(i:Int) < (j:Int);lia⟩)
 ·rw[List.pairwise_iff_getElem];intro i j hi hj nF x hx y hy;obtain⟨c,_,e1⟩:=qc.mp hx;obtain⟨d,_,e2⟩:=qc.mp hy;have e1:=(AE e1).2;have e2:=(AE e2).2;have nd:=HN g.fwd;have z:∀k (hk:k < h.aj.length),rank h h.aj[k].name=k:=λk hk=>by
   have:=NP nd k (by rw[bB];exact hk)
   rw[List.getElem_map] at this;unfold rank;rw[this];rfl
  unfold qS pV qK;rw[e1,e2];dsimp only;rw[z i hi,z j hj];exact decide_eq_true (.inl (by lia))
theorem qi(g:bR h){R:List Row}(v:VR h R):(gQ h R).Perm R:=by
 refine(List.perm_ext_iff_of_nodup ?_ ?_).mpr (DH v)
 ·refine(Dv g R).imp λ{a b} h (e:a=b)=>?_
  subst e;exact Oz _ h
 ·exact List.Pairwise.of_map Row.aO (λa b h e=>h (e ▸ rfl)) v.nb
noncomputable def nh(h:aU)(r:Row):D:=.tup [.int (pV h r).1,.int (pV h r).2,.str r.aO]
theorem NQ(h:aU):∀R:List Row,ky (R.map (nh h))=some (R.map (pV h))
 |[]=>rfl
 |r::R=>by
  have ih:=NQ h R;rw[cv];unfold nh at *;simp only[ky,ih,o_];rfl
theorem XA(g:bR h){R:List Row}(v:VR h R):yF [.Y (.lst (R.map (nh h)))]=some (.lst (((gQ h R).map (nh h)).map .Y)):=by
 rw[Ua,show df (.Y (.lst (R.map (nh h))))=some (R.map (nh h)) from rfl,jJ];have pm:=qi g v;have sm:=Dv g R;have as:∀a b:Row,qS h a b->qS h b a->a=b:=λa b h1 h2=>by
  unfold qS qK at h1 h2;rw[decide_eq_true_eq] at h1 h2;lia
 split
 ·rename_i c
  rw[bB] at c;have:R.Pairwise (qS h):=by
   match R,c with
   |[],_=>exact .nil
   |[x],_=>exact List.pairwise_singleton _ _
  rw[List.Perm.eq_of_pairwise (λa b _ _=>as a b) sm this pm]
 ·rename_i c
  rw[bB] at c;have nk:(R.map (pV h)).Nodup:=by
   refine(pm.map (pV h)).nodup_iff.mp ?_;refine zB.mpr (sm.imp λ{a b} z (e:pV h a=pV h b)=>?_)
   unfold qS at z;rw[e] at z;exact Oz _ z
  have rl:=v.rl;rw[NQ,jJ,if_pos ⟨nk,by rw[bB];exact rl⟩]
  obtain⟨p1,p2⟩:=Hw nk (by rw[bB];lia)
  generalize eZ (R.map (pV h))=S at *;rw[bB] at p1;have hS:∀i∈S,i < R.length:=λi hi=>mF.mp (p1.mem_iff.mp hi)
  have e1:S.map (λi=>(R.map (nh h)).getD i .aI)=(S.map λi=>R.getD i ⟨"",("",0),0⟩).map (nh h):=by
   rw[jx];refine List.map_congr_left λi hi=>?_
   have:=hS i hi;simp[this]
  have e2:(S.map λi=>R.getD i ⟨"",("",0),0⟩).Perm R:=by
   have:=p1.map λi=>R.getD i ⟨"",("",0),0⟩
   rw[show(List.range R.length).map (λi=>R.getD i ⟨"",("",0),0⟩)=R from List.ext_getElem (by simp) λi h1 h2=>by simp[h2]] at this
   exact this
  have e3:(S.map λi=>R.getD i ⟨"",("",0),0⟩).Pairwise (qS h):=by
   rw[zB];refine p2.imp_of_mem λ{i j} hi hj e=>?_
   have hi:=hS i hi;have hj:=hS j hj;unfold ltAt at e;simp[hi,hj] at e;simp[hi,hj];exact e
  rw[e1,List.Perm.eq_of_pairwise (λa b _ _=>as a b) e3 sm (e2.trans pm.symm)]
theorem Wf(g:bR h)(hb:b∈h.aj):yE [.Y (.lst ((sM h).map D.str)),.Y (.str b.name)]=some (.Y (.int ((rank h b.name:Nat):Int))):=by
 obtain⟨i,hi,e⟩:=List.mem_iff_getElem.mp (pe (f:=az.name) hb);have:=NP (HN g.fwd) i hi;unfold yE;dsimp only;unfold rank sM;rw[LU,jJ,<-e,this];rfl
noncomputable abbrev B7(r:Row):D:=.tup [.str r.aO,bW r.pl]
theorem XB{R:List Row}{b:Option O}:lN (cw aq bO 0 5) [1] [some (bG h R G now),a,b]=some (R.map B7,[some (bG h R G now),a,b]):=by
 have e1:(tP R).all (λp=>kx p.1)=true:=Ja R
 have e2:fY ((tP R).map (·.2))=some (R.map λr=>bW r.pl):=by
  rw[show(tP R).map (·.2)=(R.map λr=>bW r.pl).map .Y by unfold tP tD;simp only[jx];rfl,uM]
 have e3:List.zipWith (λk d=>D.tup [k,d]) ((tP R).map (·.1.d)) (R.map λr=>bW r.pl)=R.map B7:=by
  unfold tP tD;rw[jx,List.zipWith_map];rw[List.zipWith_self];refine List.map_congr_left λr _=>?_
  simp[TK.d]
 rw[q_];generalize tP R=p at *;simp only[T1,oJ,aY,and_self,bx,if_true,↓ah,dZ,Nat.reduceEqDiff,vN,or_false,e1,e2,↓evMap,e3,if_false]
theorem Wg(g:bR h){R:List Row}(v:VR h R):Dr [bG h R G now]=some (.lst (((gQ h R).map λr=>D.str r.aO).map .Y),[some (bG h R G now)]):=by
 have bl:=g.sm.bl;have rl:=v.rl;have e0:=vJ h;have e1:=yx h.aj (by lia)
 have e2:(O.lst ((h.aj.map az.name).map fS)).d=.lst ((sM h).map D.str):=by
  show D.lst (O.dl _)=_;rw[wI]
 have e3:=XB (h:=h) (R:=R) (G:=G) (now:=now) (a:=some (.Y (.lst ((sM h).map D.str)))) (b:=none);obtain⟨U',⟨a,b,rfl⟩,e4⟩:=tN (g:=cT [(aX 0),(aX 1)]) (ct:=cX) (ce:=(gF (gS .tup (ao (yC yE (aa 2) (ao (gB bu (aa 1) (gC (.int 0))) gN)) (ao (gB bu (aa 1) (gC (.int 1))) (ao (aa 0) gN)))))) (λU=>∃a b:Option O,U=[a,b,some (.Y (.lst ((sM h).map D.str)))]) B7 (nh h) R [none,none,some (.Y (.lst ((sM h).map D.str)))] ⟨_,_,rfl⟩ (by lia) (by
  rintro x hx _ ⟨a,b,rfl⟩;obtain⟨bt,hb,hp,_⟩:=v.vp x hx;have f0:=zj x.pl;have f1:=Fs x.pl;have f2:=Wf g hb;rw[<-hp] at f2;refine⟨[some (.Y (.str x.aO)),some (.Y (bW x.pl)),some (.Y (.lst ((sM h).map D.str)))],?_,_,_,rfl⟩;unfold nh pV;unfold B7;generalize bW x.pl=pd at *;generalize(sM h).map D.str=nd at *;generalize((rank h x.pl.1:Nat):Int)=rk at *;simp only[mB,pH,pG,fP,bw,bz,bI,Nat.reduceAdd,Nat.reduceLT,bS,if_true,↓ah,cG,pF,rm,cI,fV,bc,TH,ba,bx,aY,bL,bU,bj,bD,bF,bC,dA,f0,f2,f1,Nat.reduceLeDiff,fW,eS,kX,du,bP,dt])
 have e5:=XA g v;have ml:(gQ h R).length < 64:=by rw[(qi g v).length_eq];exact rl
 obtain⟨U',⟨c,rfl⟩,e6⟩:=tN (g:=aX 0) (ct:=cX) (ce:=gB bu (aa 0) (gC (.int 2))) (λU=>∃a:Option O,U=[a]) (nh h) (λr=>D.str r.aO) (gQ h R) [none] ⟨_,rfl⟩ (by lia) (by
  rintro x hx _ ⟨a,rfl⟩;have f0:cF (.Y (nh h x)) (.int 2)=some (.Y (.str x.aO)):=by unfold nh;simp only[mP,Ag,o_]
  refine⟨[some (.Y (nh h x))],?_,_,rfl⟩;generalize nh h x=d at *;simp only[mB,fP,bw,bz,bI,Nat.reduceLT,bS,if_true,↓ah,rm,bL,bc,ba,aY,bU,bj,bD,bF,bC,dA,f0])
 unfold Dr Gr;generalize((gQ h R).map λr=>D.str r.aO).map O.Y=l5 at *
 generalize(gQ h R).map (nh h)=l4 at *;generalize R.map (nh h)=l3 at *;generalize R.map B7=l6 at *;generalize(h.aj.map az.name).map fS=l2 at *;generalize(sM h).map D.str=l7 at *;generalize h.aj.map ay=l1 at *;unfold bG oQ at *;generalize dP R=q1 at *;generalize dR R=q2 at *;generalize dC R=q3 at *;generalize dG G=q4 at *;generalize G.map (λo=>O.Y (outD o))=q5 at *
 generalize c_ h=hd at *;generalize lN (cw aq bO 0 5) [1]=si at *;simp only[eF,cu,cB,bw,bz,bI,Nat.reduceSub,gk,dN,gr,gI,dJ,ef,cI,iC,bc,bL,oJ,aY,and_self,if_true,↓ah,bU,bj,bD,bF,bC,dA,e0,jg,iB,e1,jh,iE,e2,Nat.reduceAdd,Nat.reduceLT,cG,bS,mK,e3,ql,bx,jX,nv,e4,oq,nq,qm,ny,jT,mQ,gx,qZ,ba,e5,d_,e6,iu,eL,eM,mC,eJ]
theorem IT{R:List Row}(nb:(R.map Row.aO).Nodup)(hr:r∈R):∃A B,R=A++r::B/\r.aO∉A.map Row.aO:=by
 obtain⟨A,B,rfl⟩:=KO hr;rw[dh,cv] at nb;exact⟨A,B,rfl,λz=>(hV.mp nb).2.2 _ z _ (.head _) rfl⟩
theorem XC(g:bR h){R:List Row}(v:VR h R):Am [bG h R G now]=some (.lst (((gQ h R).map br).map .Y),[some (bG h R G now)]):=by
 have e1:=Wg (G:=G) (now:=now) g v;have ml:(gQ h R).length < 64:=by rw[(qi g v).length_eq];exact v.rl
 obtain⟨U',⟨c,rfl⟩,e2⟩:=tN (g:=aX 0) (ct:=cX) (ce:=(gF (gS .tup (ao (aa 0) (ao (gB bu (cw aq bO 1 6) (aa 0)) (ao (gB bu (cw aq bO 1 5) (aa 0)) (ao (gB bu (cw aq bO 1 7) (aa 0)) gN))))))) (λU=>∃a:Option O,U=[a,some (bG h R G now)]) (λr=>D.str r.aO) br (gQ h R) [none,some (bG h R G now)] ⟨_,rfl⟩ (by lia) (by
  rintro x hx _ ⟨a,rfl⟩;obtain⟨A,B,e,ha⟩:=IT v.nb ((DH v x).mp hx);have f1:=yL (k:=Row.aO) (f:=λr=>bW r.pl) (l2:=B) ha
  have f2:=yL (k:=Row.aO) (f:=λ_=>D.aI) (l2:=B) ha
  have f3:=yL (k:=Row.aO) (f:=λr=>D.int r.cnt) (l2:=B) ha
  rw[<-e] at f1 f2 f3;refine⟨[some (.Y (.str x.aO)),some (bG h R G now)],?_,_,rfl⟩;rw[q_];unfold br HL tP tR Fi;generalize tD Row.aO (λr=>bW r.pl) R=q1 at *
  generalize tD Row.aO (λr=>D.aI) R=q2 at *
  generalize tD Row.aO (λr=>D.int r.cnt) R=q3 at *
  generalize bW x.pl=pd at *;simp only[mB,fP,bw,bz,bI,Nat.reduceAdd,Nat.reduceLT,bS,if_true,↓ah,rm,cI,fV,bc,ba,aY,bL,oJ,bx,and_self,bj,bD,tQ,bF,bC,dA,f2,f1,f3,Nat.reduceLeDiff,fW,eS,kX,du,bP,dt])
 unfold Am HF;generalize((gQ h R).map br).map O.Y=l5 at *;generalize(gQ h R).map (λr=>D.str r.aO)=l4 at *
 unfold bG at *;generalize oQ h R G now=hl at *;simp only[eF,cu,cB,bw,bz,bI,Nat.reduceSub,dN,d_,gx,mK,qZ,cI,q9,aY,and_self,iC,bc,ba,↓ah,bj,nO,bS,iB,e1,nQ,iE,if_true,jT,mQ,gk,ql,jX,nv,gr,gI,e2,Nat.reduceAdd,oq,nq,qm,ny,iu,eL,eM,mC,eJ]
theorem Wh{R:List Row}(nb:(R.map Row.aO).Nodup)(hr:r∈R)(hg:r.aO∉G.map Out.aO)(hn:nX r.aO):yb [bG h R G now,fS r.aO]=some (.Y (bW r.pl),[some (bG h R G now),none]):=by
 obtain⟨A,B,e,ha⟩:=IT nb hr;rw[q_,e];exact Yc hn (Xq (k:=Row.aO) ha) (Jb hg) (yL (k:=Row.aO) (f:=λr=>bW r.pl) ha)
def sB(S:GM):GS:=(bQ (ez (dc (dX S (ao (gB bu (aa 0) (aa 3)) (ao (gB bu (aa 1) (aa 3)) gN)))))
  (aR (gC (.bl false)))
  aQ)
noncomputable abbrev fU:Option (O×Gm):=some (.Y (.bl true),[none,none])
noncomputable abbrev TL:O:=.tup [.Y (.ty "tuple"),.Y (.ty "list")]
theorem Yk{o p d:D}{ki:Int}(hx:cF (.Y o) (.int ki)=some (.Y d))(hy:cF (.Y p) (.int ki)=some (.Y d))(hS:S [.Y d,.Y d]=fU)(kd a3:Option O):(aX 3 (.int ki) [some (.Y o),some (.Y p),kd,a3]).bind (sB S)=some (.nx,[some (.Y o),some (.Y p),kd,some (.Y (.int ki))]):=by
 unfold sB fU at *;simp only[fP,bw,bz,bI,Nat.reduceAdd,Nat.reduceLT,cG,bS,if_true,↓ah,dr,qy,iP,gw,bc,bL,ba,aY,bx,bj,bD,bF,bC,dA,hx,hy,du,bP,dt,cu,cB,hS,tO,iV,kM,dy,gx,bU,dD,if_false]
theorem MS{o:D}{L:Int}(it:Bool)(h2:kD [.Y o,TL]=some (.Y (.bl true)))(ht:cM [.Y o,.Y (.ty "tuple")]=some (.Y (.bl it)))(hl:cM [.Y o,.Y (.ty "list")]=some (.Y (.bl (!it))))(ln:m6 o=some L)(hL:L=(ds.length:Nat))(hz:ds.length<=1000)(ix:∀k:Int,cF (.Y o) (.int k)=(dw ds k).map .Y)
  (hS:∀d∈ds,S [.Y d,.Y d]=fU):runM 4 [false,false] (sC S) [.Y o,.Y o]=fU:=by
 have lp:∃a,iD (aX 3) (sB S) (ig 0 L.toNat) [some (.Y o),some (.Y o),some (.Y (.bl true)),none]=some (.nx,[some (.Y o),some (.Y o),some (.Y (.bl true)),a]):=by
  obtain⟨U',e,a,rfl⟩:=DO (g:=aX 3) (f:=sB S) (λk:Nat=>D.int (0+(k:Int))) (λU=>∃a,U=[some (.Y o),some (.Y o),some (.Y (.bl true)),a]) (List.range L.toNat) [some (.Y o),some (.Y o),some (.Y (.bl true)),none] ⟨_,rfl⟩ (by
   rintro k hk U ⟨a,rfl⟩;have hk:k < ds.length:=by have:=mF.mp hk;lia
   have hx:cF (.Y o) (.int (0+(k:Int)))=some (.Y ds[k]):=by
    rw[ix,show(0+(k:Int))=((k:Nat):Int) by lia,qt (jW hk)]
    rfl
   exact⟨_,Yk hx hx (hS _ (se hk)) _ _,_,rfl⟩)
  exact⟨a,e⟩
 obtain⟨a,lp⟩:=lp;have bs:(L == L)=true:=beq_self_eq_true L;have i1:gY [R.own (.Y (.int L))]=some L:=fN (by lia)
 unfold sB at lp;unfold sC;cases it with
 |true=>
  simp only[eF,cu,cB,bw,bz,bI,Nat.reduceAdd,Nat.reduceSub,gk,dN,gr,gI,dJ,dr,iP,bL,bc,ba,bx,aY,↓ah,fV,bU,bj,Nat.reduceLeDiff,fW,eS,if_true,bD,bF,bC,h2,iV,ef,cI,sJ,ht,hl,kM,bP,Nat.reduceLT,cG,bS,tV,qy,dy,cR,kc,ln,↓evMap,N6,bs,if_false,gx,dD,AW,i1,lp,iu,eL,eM,fJ,eJ]
 |false=>
  have hl:cM [.Y o,.Y (.ty "list")]=some (.Y (.bl true)):=hl;simp only[eF,cu,cB,bw,bz,bI,Nat.reduceAdd,Nat.reduceSub,gk,dN,gr,gI,dJ,dr,iP,bL,bc,ba,bx,aY,↓ah,fV,bU,bj,Nat.reduceLeDiff,fW,eS,if_true,bD,bF,bC,h2,iV,ef,cI,sJ,ht,dy,hl,if_false,bP,Nat.reduceLT,cG,bS,tV,qy,kM,cR,kc,ln,↓evMap,N6,bs,gx,dD,AW,i1,lp,iu,eL,eM,fJ,eJ]
section
variable {n:Nat}
theorem MT(hz:ds.length<=1000)(hS:∀d∈ds,iN n [.Y d,.Y d]=fU):iN (n+1) [.Y (.lst ds),.Y (.lst ds)]=fU:=
 MS false rfl (by unfold cM;simp[f_,iH,O.d]) (by unfold cM;simp[f_,iH,O.d]) (lV _) rfl hz (λ_=>rfl) hS
theorem HP(hz:ds.length<=1000)(hS:∀d∈ds,iN n [.Y d,.Y d]=fU):iN (n+1) [.Y (.tup ds),.Y (.tup ds)]=fU:=
 MS true rfl (by unfold cM;simp[f_,iH,O.d]) (by unfold cM;simp[f_,iH,O.d]) (Vs _) rfl hz (λ_=>rfl) hS
theorem DX(x:Str):iN (n+1) [.Y (.str x),.Y (.str x)]=fU:=by
 have h2:kD [.Y (.str x),TL]=some (.Y (.bl false)):=rfl;have h3:l_ false [.Y (.str x),.Y .aI]=some (.Y (.bl false)):=rfl;have h4:cM [.Y (.str x),.Y (.ty "bool")]=some (.Y (.bl false)):=by unfold cM;simp[f_,iH,O.d]
 have h5:cM [.Y (.str x),.Y (.ty "str")]=some (.Y (.bl true)):=by unfold cM;simp[f_,iH,O.d]
 have h6:(x == x)=true:=beq_self_eq_true x;show runM 4 [false,false] (sC (iN n)) _=_;unfold sC;generalize iN n=S;simp only[eF,cu,cB,bw,bz,bI,Nat.reduceAdd,Nat.reduceSub,gk,dN,gr,gI,dJ,dr,iP,bL,bc,ba,bx,aY,↓ah,fV,bU,bj,Nat.reduceLeDiff,fW,eS,if_true,bD,bF,bC,h2,iV,dy,ef,cI,sJ,dD,if_false,cR,h3,gx,h5,Ay,iQ,bP,oF,and_self,qC,h6,iu,eL,eM,fJ,eJ]
theorem DY(x:Int):iN (n+1) [.Y (.int x),.Y (.int x)]=fU:=by
 have h2:kD [.Y (.int x),TL]=some (.Y (.bl false)):=rfl;have h3:l_ false [.Y (.int x),.Y .aI]=some (.Y (.bl false)):=rfl;have h4:cM [.Y (.int x),.Y (.ty "bool")]=some (.Y (.bl false)):=by unfold cM;simp[f_,iH,O.d]
 have h5:cM [.Y (.int x),.Y (.ty "str")]=some (.Y (.bl false)):=by unfold cM;simp[f_,iH,O.d]
 have h7:cM [.Y (.int x),.Y (.ty "int")]=some (.Y (.bl true)):=by unfold cM;simp[f_,iH,O.d]
 have h6:(x == x)=true:=beq_self_eq_true x;show runM 4 [false,false] (sC (iN n)) _=_;unfold sC;generalize iN n=S;simp only[eF,cu,cB,bw,bz,bI,Nat.reduceAdd,Nat.reduceSub,gk,dN,gr,gI,dJ,dr,iP,bL,bc,ba,bx,aY,↓ah,fV,bU,bj,Nat.reduceLeDiff,fW,eS,if_true,bD,bF,bC,h2,iV,dy,ef,cI,sJ,dD,if_false,cR,h3,gx,h5,Ay,iQ,bP,kO,and_self,kR,h6,h7,Vm,h4,vP,iu,eL,eM,fJ,eJ]
theorem Ut:iN (n+1) [.Y .aI,.Y .aI]=fU:=by
 have h2:kD [.Y .aI,TL]=some (.Y (.bl false)):=rfl;have h3:l_ false [.Y .aI,.Y .aI]=some (.Y (.bl true)):=rfl;show runM 4 [false,false] (sC (iN n)) _=_;unfold sC;generalize iN n=S;simp only[eF,cu,cB,bw,bz,bI,Nat.reduceAdd,Nat.reduceSub,gk,dN,gr,gI,dJ,dr,iP,bL,bc,ba,bx,aY,↓ah,fV,bU,bj,Nat.reduceLeDiff,fW,eS,if_true,bD,bF,bC,h2,iV,dy,ef,cI,sJ,dD,if_false,cR,h3,gx,iu,eL,eM,fJ,eJ]
theorem NR(p:ju):iN (n+2) [.Y (bW p),.Y (bW p)]=fU:=HP (n:=n+1) (by simp) λd m=>by
 simp only[dZ,vN,or_false] at m;rcases m with rfl|rfl
 ·exact DX _
 ·exact DY _
theorem Uu(r:Row):iN (n+3) [.Y (br r),.Y (br r)]=fU:=HP (n:=n+2) (by simp) λd m=>by
 simp only[dZ,vN,or_false] at m;rcases m with rfl|rfl|rfl|rfl
 ·exact DX _
 ·exact Ut
 ·exact NR r.pl
 ·exact DY _
theorem Uv(o:Out):iN (n+2) [.Y (outD o),.Y (outD o)]=fU:=HP (n:=n+1) (by simp) λd m=>by
 simp only[dZ,vN,or_false] at m;rcases m with rfl|rfl|rfl
 ·exact DX _
 ·exact DX _
 ·exact DY _
end
theorem SS{R:List Row}(h:R.length < 1000):iN 8 [.Y (.lst (R.map br)),.Y (.lst (R.map br))]=fU:=MT (n:=7) (by rw[bB];lia) λd m=>by
 obtain⟨r,_,rfl⟩:=gL.mp m;exact Uu (n:=4) r
theorem SU(h:G.length < 1000):iN 8 [.Y (.lst (G.map outD)),.Y (.lst (G.map outD))]=fU:=MT (n:=7) (by rw[bB];lia) λd m=>by
 obtain⟨r,_,rfl⟩:=gL.mp m;exact Uv (n:=5) r
structure Inv (h:aU) (ns:List Int) (R:List Row) (G:List Out):Prop where
 v:VR h R
 bg:(R.map Row.aO++G.map Out.aO).Nodup
 nm:∀x∈R.map Row.aO++G.map Out.aO,∃i,i < R.length+G.length/\x=jN ns 12 i
 rl:R.length<=8
 xQ:R.length+G.length<=20
noncomputable abbrev lg(ns:List Int)(h:aU)(R:List Row)(G:List Out)(now:Int)(A:Gm):Gm:=some (.Y (.aS ns))::some (.Y (c_ h))::some (bG h R G now)::some (.Y (.lst ((gQ h R).map br)))::some (.Y (.lst (G.map outD)))::A
theorem Yl{bd b0:D}{bs:List D}{a3:Option O}(h0:cF (.Y hd) (.int 0)=some (.Y (.lst bs)))(el:(bs.length:Int)=n)(ep:oC [.Y s,.Y (.int k),.Y (.int n)]=some (.Y (.int t),[none,none,none]))(ea:dw bs t=some b0)(eb:cF (.Y b0) (.int 0)=some (.Y (.str x))):
  p1 [some (.Y s),some (.Y hd),a2,a3,a4,some (.Y (.int k)),a6,a7,a8,a9,a10,a11,a12]=some (.nx,[some (.Y s),some (.Y hd),a2,a3,a4,some (.Y (.int k)),some (fS x),a7,a8,a9,a10,a11,a12]):=by
 unfold p1;simp only[ef,bL,bc,ba,bx,aY,↓ah,bU,bj,bD,bF,bC,dA,h0,gw,kc,bP,lV,el,↓evMap,du,dt,cu,cB,ep,ka,sI,ea,eb,bw,bz,bI,Nat.reduceAdd,Nat.reduceLT,cG,bS,if_true]
theorem Ym{r g:List D}{m:Int}(el:(r.length:Int)=n)(em:(g.length:Int)=m):
  p2 [a0,a1,a2,some (.Y (.lst r)),some (.Y (.lst g)),a5,a6,a7,a8,a9,a10,a11,a12]=some (.nx,[a0,a1,a2,some (.Y (.lst r)),some (.Y (.lst g)),a5,a6,some (.Y (.int (n+m))),a8,a9,a10,a11,a12]):=by
 unfold p2;simp only[ef,cI,bL,bc,ba,bx,aY,↓ah,bj,bD,bF,bC,kc,bP,lV,el,↓evMap,em,jB,bw,bz,bI,Nat.reduceAdd,Nat.reduceLT,cG,bS,if_true]
theorem Yn{r:List D}{l:List O}(ec:compLoop (aX 0) cX (gB bu (aa 0) (gC (.int 2))) r [none] []=some (l,[a]))(ei:a_ true [.Y (.tup [.str x,.int 0]),.lst l]=some (.Y (.bl c))):
  p3 [a0,a1,a2,some (.Y (.lst r)),a4,a5,some (fS x),a7,a8,a9,a10,a11,a12]=some (.nx,[a0,a1,a2,some (.Y (.lst r)),a4,a5,some (fS x),a7,some (.Y (.bl c)),a9,a10,a11,a12]):=by
 unfold p3;simp only[ef,bL,bc,cI,fV,ba,bx,aY,↓ah,bU,bj,bw,bz,bI,Nat.reduceAdd,Nat.reduceLeDiff,fW,eS,if_true,kX,du,bP,dt,mK,qZ,gk,dN,nv,d_,ec,oq,nq,ny,bD,bF,bC,ei,Nat.reduceLT,cG,bS]
theorem XD{r:List D}{m:Int}(et:oA [.Y s,.Y (.int k),.Y (.int 3)]=some (.Y (.int t),[none,none,none]))(el:(r.length:Int)=n):
  Fb [some (.Y s),a1,a2,some (.Y (.lst r)),a4,some (.Y (.int k)),a6,some (.Y (.int m)),some (.Y (.bl c)),a9,a10,a11,a12]=some ((t == 0) && (c && (decide (n < 8) && decide (m < 20))),[some (.Y s),a1,a2,some (.Y (.lst r)),a4,some (.Y (.int k)),a6,some (.Y (.int m)),some (.Y (.bl c)),a9,a10,a11,a12]):=by
 unfold Fb;cases c0:(t == 0)
 ·simp only[lC,cR,bL,bc,gw,ba,aY,↓ah,bx,bU,bj,bD,bF,bC,du,bP,dt,cu,cB,et,ka,iQ,kO,and_self,kR,c0,if_true,dy,iP,iV,kc,lV,↓evMap,iW,decide_eq_true_eq,if_false];rfl
 ·cases c
  ·simp only[lC,cR,bL,bc,gw,ba,aY,↓ah,bx,bU,bj,bD,bF,bC,du,bP,dt,cu,cB,et,ka,iQ,kO,and_self,kR,c0,if_true,iP,iV,dy,kc,lV,↓evMap,iW,decide_eq_true_eq,if_false];rfl
  ·by_cases c2:n < 8
   ·have c2:(n < 8)=True:=eq_true c2;simp only[lC,cR,bL,bc,gw,ba,aY,↓ah,bx,bU,bj,bD,bF,bC,du,bP,dt,cu,cB,et,ka,iQ,kO,and_self,kR,c0,if_true,iP,iV,kc,lV,el,↓evMap,iW,c2,decide_true];rfl
   ·have c2:(n < 8)=False:=eq_false c2;simp only[lC,cR,bL,bc,gw,ba,aY,↓ah,bx,bU,bj,bD,bF,bC,du,bP,dt,cu,cB,et,ka,iQ,kO,and_self,kR,c0,if_true,iP,iV,kc,lV,el,↓evMap,iW,c2,decide_false,dy,if_false];rfl
theorem XE{r l2:List D}{m:Int}{ve:List O}(en:mJ [.Y s,.Y (.int 12),.Y (.int m)]=some (.Y (.str y),[none,none,none]))(ep:yu [.ins aq bO ho,fS y,.Y .aI,fS x]=some (.Y .aI,[some (.ins aq bO ve),none,none,none]))
  (rl:(r.length<=999999)=True) (em:v7 [.Y hd,.Y (.lst (r++[.tup [.str y,.aI,.tup [.str x,.int 0],.int 0]])),.Y (.lst [])]=some (.lst (l2.map .Y),[none,none,none])) :
  Fc [some (.Y s),some (.Y hd),some (.ins aq bO ho),some (.Y (.lst r)),a4,a5,some (fS x),some (.Y (.int m)),a8,a9,a10,a11,a12]=some (.nx,[some (.Y s),some (.Y hd),some (.ins aq bO ve),some (.Y (.lst l2)),a4,a5,some (fS x),some (.Y (.int m)),a8,some (fS y),a10,a11,a12]):=by
 unfold Fc;simp only[dJ,ef,gw,bc,ba,aY,↓ah,bU,bx,bj,bD,bF,bC,du,bP,dt,cu,cB,en,Ib,bw,bz,bI,Nat.reduceAdd,Nat.reduceLT,cG,bS,if_true,jK,q9,and_self,iC,nO,jg,iB,ep,nQ,jh,iE,cI,bL,fV,Nat.reduceLeDiff,fW,eS,kX,Ms,Et,W2,W0,rl,jT,mQ,em]
section
variable {s hd:D} {k now:Int} {r md l2 gl ol:List D} {ho ve:List O} {a0 a1 a2 a3 a4 a5 a6 a7 a8 a9 a10 a11 a12:Option O}
theorem Yo(e:zY [.Y s,.Y (.int k),.Y hd,.Y (.lst r)]=some (.lst (md.map .Y),[none,none,none,none])):
  p5 [some (.Y s),some (.Y hd),a2,some (.Y (.lst r)),a4,some (.Y (.int k)),a6,a7,a8,a9,a10,a11,a12]=some (.nx,[some (.Y s),some (.Y hd),a2,some (.Y (.lst r)),a4,some (.Y (.int k)),a6,a7,a8,a9,some (.Y (.lst md)),a11,a12]):=by
 unfold p5;simp only[ef,cI,iC,bc,ba,aY,↓ah,bx,bj,jg,iB,e,jh,iE,jT,mQ,bw,bz,bI,Nat.reduceAdd,Nat.reduceLT,cG,bS,if_true]
theorem Yp(e:tK [.ins aq bO ho]=some (.Y (.int now),[some (.ins aq bO ho)])):
  p6 [a0,a1,some (.ins aq bO ho),a3,a4,a5,a6,a7,a8,a9,a10,a11,a12]=some (.nx,[a0,a1,some (.ins aq bO ho),a3,a4,a5,a6,a7,a8,a9,a10,some (.Y (.int now)),a12]):=by
 unfold p6;simp only[ef,cI,q9,bx,aY,and_self,iC,bc,ba,↓ah,bj,nO,cG,bS,iB,e,nQ,iE,if_true,bP,bw,bz,bI,Nat.reduceAdd,Nat.reduceLT]
theorem Yq(e:An [.ins aq bO ho,.Y (.lst md)]=some (.Y .aI,[some (.ins aq bO ve),none])):
  p7 [a0,a1,some (.ins aq bO ho),a3,a4,a5,a6,a7,a8,a9,some (.Y (.lst md)),a11,a12]=some (.nx,[a0,a1,some (.ins aq bO ve),a3,a4,a5,a6,a7,a8,a9,some (.Y (.lst md)),a11,a12]):=by
 have i:iS [.Y (.lst md)]=some (.lst (md.map .Y)):=rfl;unfold p7;simp only[jK,q9,bx,aY,and_self,iC,bc,ba,↓ah,cI,bL,bj,bD,bF,bC,i,jT,mQ,nO,cG,bS,jg,iB,e,nQ,jh,iE,if_true]
theorem Yr(e:v7 [.Y hd,.Y (.lst r),.Y (.lst md)]=some (.lst (l2.map .Y),[none,none,none])):
  p8 [a0,some (.Y hd),a2,some (.Y (.lst r)),a4,a5,a6,a7,a8,a9,some (.Y (.lst md)),a11,a12]=some (.nx,[a0,some (.Y hd),a2,some (.Y (.lst l2)),a4,a5,a6,a7,a8,a9,some (.Y (.lst md)),a11,a12]):=by
 unfold p8;simp only[ef,cI,iC,bc,ba,bx,aY,↓ah,bj,jg,iB,e,jh,iE,jT,mQ,bw,bz,bI,Nat.reduceAdd,Nat.reduceLT,cG,bS,if_true]
theorem Ys{u w:Option O}(e:compLoop (cT [(aX 0),(aX 1)]) AX AV md [none,none,some (.Y (.int now)),some (.Y hd)] []=some (ol.map .Y,[u,w,some (.Y (.int now)),some (.Y hd)]))(l:(gl.length+ol.length<=1000000)=True):
  p9 [a0,some (.Y hd),a2,a3,some (.Y (.lst gl)),a5,a6,a7,a8,a9,some (.Y (.lst md)),some (.Y (.int now)),a12]=some (.nx,[a0,some (.Y hd),a2,a3,some (.Y (.lst (gl++ol))),a5,a6,a7,a8,a9,some (.Y (.lst md)),some (.Y (.int now)),a12]):=by
 unfold p9;generalize AX=t at *;generalize AV=c at *;simp only[ef,cI,bL,bc,ba,bx,aY,↓ah,mK,qZ,bP,gk,dN,ql,jX,cG,bS,nv,gr,gI,e,bw,bz,bI,Nat.reduceAdd,oq,nq,qm,ny,if_true,bj,bD,bF,bC,Ms,Et,uM,l,jT,mQ,Nat.reduceLT]
theorem XF(e1:tK [.ins aq bO ho]=some (.Y (.int (now+1)),[some (.ins aq bO ho)]))(e2:Am [.ins aq bO ho]=some (.lst (r.map .Y),[some (.ins aq bO ho)]))(s2:iN 8 [.Y (.lst r),.Y (.lst r)]=fU):
  Kb [a0,a1,some (.ins aq bO ho),some (.Y (.lst r)),a4,a5,a6,a7,a8,a9,a10,some (.Y (.int now)),a12]=some (.nx,[a0,a1,some (.ins aq bO ho),some (.Y (.lst r)),a4,a5,a6,a7,a8,a9,a10,some (.Y (.int now)),a12]):=by
 have s1:=DY (n:=7) (now+1);unfold fU at *;unfold Kb;generalize iN 8=S at *;simp only[dr,tV,qy,iP,gw,bc,q9,bx,aY,and_self,iC,ba,↓ah,bj,nO,cG,bS,iB,e1,nQ,iE,if_true,bL,bU,bD,bF,bC,jB,du,bP,dt,cu,cB,s1,tO,iV,kM,dy,e2,jT,mQ,s2,if_false,gx,dD]
theorem XG(e2:yt [.ins aq bO ho]=some (.lst (gl.map .Y),[some (.ins aq bO ho)]))(s2:iN 8 [.Y (.lst gl),.Y (.lst gl)]=fU):
  Kc [a0,a1,some (.ins aq bO ho),a3,some (.Y (.lst gl)),a5,a6,a7,a8,a9,a10,a11,a12]=some (.nx,[a0,a1,some (.ins aq bO ho),a3,some (.Y (.lst gl)),a5,a6,a7,a8,a9,a10,a11,a12]):=by
 unfold fU at *;unfold Kc;generalize iN 8=S at *;simp only[dr,qy,iP,gw,bc,q9,bx,aY,and_self,iC,ba,↓ah,bj,nO,cG,bS,iB,e2,nQ,iE,if_true,bD,bF,bC,du,jT,mQ,bP,dt,cu,cB,s2,tO,iV,kM,dy,gx,bU,dD,if_false]
theorem XH{x:Row}(e:yb [.ins aq bO ho,fS x.aO]=some (.Y (bW x.pl),[some (.ins aq bO ho),none])):
  (aX 12 (br x) [a0,a1,some (.ins aq bO ho),a3,a4,a5,a6,a7,a8,a9,a10,a11,a12]).bind uv=some (.nx,[a0,a1,some (.ins aq bO ho),a3,a4,a5,a6,a7,a8,a9,a10,a11,some (.Y (br x))]):=by
 have s1:=NR (n:=6) x.pl;have f0:=PJ x;have f2:=KC x;unfold fU at *;unfold uv;generalize br x=xd at *;generalize bW x.pl=pd at *;generalize iN 8=S at *;simp only[fP,bw,bz,bI,Nat.reduceAdd,Nat.reduceLT,cG,bS,if_true,↓ah,dr,qy,iP,gw,bc,q9,bx,aY,and_self,iC,ba,bL,bU,bj,bD,bF,bC,dA,f0,nO,jg,iB,e,nQ,jh,iE,f2,du,bP,dt,cu,cB,s1,tO,iV,kM,dy,gx,dD,if_false]
end
theorem Lx(g:bR h){R:List Row}(v:VR h R)(v':VR h R')(p:R.Perm R'):gQ h R=gQ h R':=by
 refine List.Perm.eq_of_pairwise (le:=qS h) (λa b _ _ h1 h2=>?_) (Dv g R) (Dv g R') (((qi g v).trans p).trans (qi g v').symm)
 unfold qS qK at h1 h2;rw[decide_eq_true_eq] at h1 h2;lia
theorem VR.perm{R:List Row}(v:VR h R)(p:R'.Perm R):VR h R':=
 ⟨λr hr=>v.vp r (p.mem_iff.mp hr),(p.map _).nodup_iff.mpr v.np,(p.map _).nodup_iff.mpr v.nb,by rw[p.length_eq];exact v.rl⟩
theorem XI{α β:Type}{f:α->Option β}{l:List α}(nd:(l.filterMap f).Nodup){x y:α}{b:β}(hx:x∈l)(hy:y∈l)(ex:f x=some b)(ey:f y=some b):x=y:=by
 obtain⟨A,B,rfl⟩:=KO hx;rw[xX,r_,ex] at nd;have nd:=hV.mp nd;rcases jw.mp hy with z|z
 ·exact absurd rfl (nd.2.2 b (qc.mpr ⟨y,z,ey⟩) b (.head _))
 ·rcases dZ.mp z with z|z
  ·exact z.symm
  ·exact absurd (qc.mpr ⟨y,z,ey⟩) (j7.mp nd.2.1).1
theorem zZ(mv:List (Str×Goal))(r:Row):(nE mv r=.p r.pl/\r.aO∉mv.map (·.1))\/∃m∈mv,m.1=r.aO/\nE mv r=m.2:=by
 unfold nE;cases e:mv.find? λm=>decide (m.1=r.aO) with
 |some m=>exact .inr ⟨m,List.mem_of_find?_eq_some e,of_decide_eq_true (List.find?_some (p:=λm:Str×Goal=>decide (m.1=r.aO)) e),rfl⟩
 |none=>
  refine .inl ⟨rfl,λz=>?_⟩
  obtain⟨m,hm,e1⟩:=gL.mp z;exact zx.mp e m hm (decide_eq_true e1)
theorem Je{q:Row}(e:nr mv r=some q):nE mv r=.p q.pl:=by
 unfold nr xx at e;split at e
 ·cases e
 ·rename_i z
  cases e;exact z
theorem Wi(g:bR h)(hg:AR h p (.p q)):VP h q:=by
 obtain⟨b,⟨hb,hp,p0,p1⟩,hm⟩:=hg;have lg:=λb hb=>(g.lg b hb).1
 have l1:=lg b hb;unfold kS at hm;split at hm
 ·obtain rfl:q=(b.name,p.2+1):=by simpa using hm
  exact⟨b,hb,rfl,by show 0<=p.2+1;lia,by show p.2+1 < b.long;lia⟩
 ·rcases jw.mp hm with z|z
  ·obtain⟨o,ho,e⟩:=gL.mp z;unfold me at e;split at e
   ·cases e
   ·rename_i nc
    have e:(o,0)=q:=by injection e
    subst e;have:o∈h.aj.map az.name:=by
     have f:∀{bs:List az},mw h.af bs->∀b∈bs,∀o∈b.outs,o∈bs.map az.name\/o∈h.af:=λ{bs}=>by
      induction bs with
      |nil=>intro _ b hb;cases hb
      |cons x bs ih=>
       intro f b hb o ho;rcases dZ.mp hb with rfl|hb
       ·exact(f.1 o ho).imp (lu _) id
       ·exact(ih f.2.2.2 b hb o ho).imp (lu _) id
     rcases f g.fwd b hb o ho with z|z
     ·exact z
     ·exact absurd (s_.mpr z) nc
    obtain⟨b',lq,rfl⟩:=gL.mp this;have:=lg b' lq;exact⟨b',lq,rfl,Int.le_refl _,by show 0 < b'.long;lia⟩
  ·split at z
   ·obtain rfl:q=(b.name,0):=by simpa using z
    exact⟨b,hb,rfl,Int.le_refl _,by show 0 < b.long;lia⟩
   ·simp at z
section
variable {h:aU} {rows:List Row} {mv:List (Str×Goal)}
theorem Wj(ok:tE h rows mv)(nb:(rows.map Row.aO).Nodup)(hm:m∈mv)(hr:r∈rows)(e:m.1=r.aO):AR h r.pl m.2:=by
 obtain⟨r2,h2,e2,hg⟩:=ok.gl m hm;obtain⟨A,B,rfl,hA⟩:=IT nb hr;have:r2=r:=by
  rw[dh,cv] at nb;have nd:=hV.mp nb;rcases jw.mp h2 with z|z
  ·exact absurd (gL.mpr ⟨r2,z,e2.trans e⟩) hA
  ·rcases dZ.mp z with z|z
   ·exact z
   ·exact absurd (gL.mpr ⟨r2,z,e2.trans e⟩) (j7.mp nd.2.1).1
 rw[<-this];exact hg
theorem MU(v:VR h rows)(nd:(rows.map Row.pl++mv.filterMap (λm=>gP m.2)).Nodup):((rows.filterMap (nr mv)).map Row.pl).Nodup:=by
 have xu:=hV.mp nd;refine zB.mpr (List.pairwise_filterMap.mpr ?_);refine List.Pairwise.imp_of_mem (R:=λa b=>a.aO≠b.aO/\a.pl≠b.pl) (λ{a b} ha hb ⟨n1,n2⟩ a' ea b' eb e=>?_) ((zB.mp v.nb).and (zB.mp v.np))
 have ga:=Je ea;have gb:=Je eb;have O9:∀{m:Str×Goal} {p:ju},m∈mv->m.2=.p p->p∈mv.filterMap (λm=>gP m.2):=λhm e=>qc.mpr ⟨_,hm,by rw[e];rfl⟩
 rcases zZ mv a with⟨xa,_⟩|⟨ma,O5,na,xa⟩
 ·rcases zZ mv b with⟨xb,_⟩|⟨mb,JN,nb,xb⟩
  ·rw[ga] at xa;rw[gb] at xb;injection xa with xa;injection xb with xb;exact n2 (by rw[<-xa,<-xb,e])
  ·rw[ga] at xa;injection xa with xa;refine xu.2.2 _ (pe (f:=Row.pl) ha) b'.pl (O9 JN (xb.symm.trans gb)) ?_;rw[<-xa,e]
 ·rcases zZ mv b with⟨xb,_⟩|⟨mb,JN,nb,xb⟩
  ·rw[gb] at xb;injection xb with xb;refine xu.2.2 _ (pe (f:=Row.pl) hb) a'.pl (O9 O5 (xa.symm.trans ga)) ?_;rw[<-xb,e]
  ·have:=XI xu.2.1 (b:=b'.pl) O5 JN (by rw[xa.symm.trans ga,e];rfl) (by rw[xb.symm.trans gb];rfl)
   exact n1 (by rw[<-na,<-nb,this])
theorem Uw(g:bR h)(v:VR h rows)(ok:tE h rows mv)(nd:(rows.map Row.pl++mv.filterMap (λm=>gP m.2)).Nodup):VR h (rows.filterMap (nr mv)):=by
 refine⟨λq hq=>?_,MU v nd,(Iq mv rows).nodup v.nb,KG (uG _ _) v.rl⟩
 obtain⟨r,hr,e⟩:=qc.mp hq;have gq:=Je e;rcases zZ mv r with⟨x,_⟩|⟨m,hm,n,x⟩
 ·rw[gq] at x;injection x with x;rw[x];exact v.vp r hr
 ·have:=Wj ok v.nb hm hr n;rw[x.symm.trans gq] at this;exact Wi g this
end
theorem qz{K:GS}{U:Gm}(e:f U=some (.nx,U')):aW f K U=K U':=by
 rw[dJ,e];rfl
theorem Ir(now:Int):∀mv:List (Str×Goal),(mv.filter λm=>xo m.2).map (λm=>D.tup [.str m.1,gD m.2,.int now])=(bH now mv).map outD
 |[]=>rfl
 |(x,.c y)::mv=>by
  have ih:=Ir now mv;rw[qe,if_pos rfl,cv,ih];rfl
 |(x,.p y)::mv=>by
  have ih:=Ir now mv;rw[qe,if_neg kU,ih];rfl
theorem SV(now:Int)(ml:mv.length < 1000)(hg:∀m∈mv,∀x,m.2=.c x->x∈h.af):∃u w,compLoop (cT [(aX 0),(aX 1)]) AX AV (mv.map gH) [none,none,some (.Y (.int now)),some (.Y (c_ h))] []=some (((bH (now+1) mv).map outD).map .Y,[u,w,some (.Y (.int now)),some (.Y (c_ h))]):=by
 obtain⟨U',⟨u,w,rfl⟩,e⟩:=wa (g:=cT [(aX 0),(aX 1)]) (ct:=AX) (ce:=AV) (λU=>∃u w:Option O,U=[u,w,some (.Y (.int now)),some (.Y (c_ h))]) gH (λm=>xo m.2) (λm=>D.tup [.str m.1,gD m.2,.int (now+1)]) mv [] [none,none,some (.Y (.int now)),some (.Y (c_ h))] ⟨_,_,rfl⟩ (by rw[vM];lia) (by
  rintro m hm _ ⟨u,w,rfl⟩;have e0:=xT h;have e1:=IZ false m.2 h (hg m hm);rw[if_neg kU] at e1;refine⟨[some (.Y (.str m.1)),some (.Y (gD m.2)),some (.Y (.int now)),some (.Y (c_ h))],?_,_,_,rfl⟩;unfold gH;generalize c_ h=hd at *;obtain⟨x,G⟩:=m;dsimp only at *;cases G with
  |c y=>
   dsimp only[xo] at *;generalize gD (.c y)=gd at *;simp only[mB,pH,pG,fP,bw,bz,bI,Nat.reduceAdd,Nat.reduceLT,bS,if_true,↓ah,cG,pF,cR,bL,bc,ba,bx,aY,bU,bj,bD,bF,bC,dA,e0,e1,cI,fV,jB,bP,Nat.reduceLeDiff,fW,eS,kX,du,dt]
  |p y=>
   dsimp only[xo] at *;generalize gD (.p y)=gd at *;simp only[mB,pH,pG,fP,bw,bz,bI,Nat.reduceAdd,Nat.reduceLT,bS,if_true,↓ah,cG,pF,cR,bL,bc,ba,bx,aY,bU,bj,bD,bF,bC,dA,e0,e1,dy,cI,fV,jB,bP,Nat.reduceLeDiff,fW,eS,kX,du,dt,if_false])
 refine⟨u,w,?_⟩;rw[iA,Ir] at e;exact e
theorem SW(g:bR h){R:List Row}(v:VR h R):(((gQ h R).map br).length:Int)=(R.length:Int):=by rw[bB,(qi g v).length_eq]
theorem Ux(hh:lR h)(b0:0 < h.aj.length){k:Nat}(kl:k < 1000){R:List Row}(I:Inv h ns R G)(K:GS)(a6 a7 a8 a9 a10 a11 a12:Option O):
  ∃R' b6 b7 b8 b9,Inv h ns R' G/\aW p1 (aW p2 (aW p3 (aW p4 K))) (lg ns h R G now [some (.Y (.int (k:Int))),a6,a7,a8,a9,a10,a11,a12])=K (lg ns h R' G now [some (.Y (.int (k:Int))),b6,b7,b8,b9,a10,a11,a12]):=by
 have g:=hh.g;obtain⟨_,t0,t1⟩:=kW ns k 0 (h.aj.length:Int) kl (by decide) (by lia)
 have ep:=yG ns k (h.aj.length:Int) kl (by lia)
 have et:=AD ns k 3 kl (by decide)
 generalize bM ns k 0 (h.aj.length:Int)=t at *;generalize bM ns k 2 3=t3 at *;have hb:t.toNat < h.aj.length:=by lia
 have ea:dw (h.aj.map ay) t=some (ay h.aj[t.toNat]):=by
  have z:=qt (xs:=h.aj.map ay) (j:=t.toNat) (v:=ay h.aj[t.toNat]) (by rw[iz,jW hb];rfl)
  rw[show((t.toNat:Nat):Int)=t by lia] at z
  exact z
 have bm:=se hb;generalize h.aj[t.toNat]=b at *;obtain⟨a0,ec⟩:=NK (gQ h R) (by rw[(qi g I.v).length_eq];have:=I.rl;lia)
 have ei:=EM true (.p (b.name,0)) ((gQ h R).map Row.pl);rw[if_pos rfl] at ei;have el:=SW g I.v;have em:((G.map outD).length:Int)=(G.length:Int):=by rw[bB]
 rw[qz (Yl (bd:=.aI) (vJ h) (by rw[bB]) ep ea (zi b)),qz (Ym el em),qz (Yn ec ei)]
 have pc:=XD (m:=(R.length:Int)+(G.length:Int)) (c := !qG ((gQ h R).map Row.pl) (.p (b.name,0))) (a1:=some (.Y (c_ h))) (a2:=some (bG h R G now)) (a4:=some (.Y (.lst (G.map outD)))) (a6:=some (fS b.name)) (a9:=a9) (a10:=a10) (a11:=a11) (a12:=a12) et el;have Pk:∀U,p4 U=(Fb U).bind λp=>if p.1=true then Fc p.2 else aQ p.2:=λU=>rfl
 by_cases c:((t3 == 0) && ((!qG ((gQ h R).map Row.pl) (.p (b.name,0))) && (decide ((R.length:Int) < 8) && decide ((R.length:Int)+(G.length:Int) < 20))))=true
 ·have c':=c;simp only[qb,decide_eq_true_eq,Bool.not_eq_true'] at c';obtain⟨_,c1,c2,c3⟩:=c';have nf:(b.name,0)∉R.map Row.pl:=λz=>by
   rw[C9] at c1;refine c1 (zy.mpr ⟨_,?_,decide_eq_true rfl⟩);exact((qi g I.v).map Row.pl).mem_iff.mpr z
  have en:mJ [.Y (.aS ns),.Y (.int 12),.Y (.int ((R.length:Int)+(G.length:Int)))]=_:=IM ns 12 (by decide) (R.length+G.length) (by lia)
  have hn:nX (jN ns 12 (R.length+G.length)):=DG _ (uU ns 12 (by decide) _).1 (uU ns 12 (by decide) _).2 (DW ns 12 (by decide) _)
  have fr:jN ns 12 (R.length+G.length)∉R.map Row.aO++G.map Out.aO:=λz=>by
   obtain⟨i,hi,e⟩:=I.nm _ z;have:=IP ns 12 (by decide) _ _ (by lia) (by lia) e
   lia
  generalize hy:jN ns 12 (R.length+G.length)=y at *;have ER:y∉R.map Row.aO:=λz=>fr (lx _ z)
  have Jo:y∉G.map Out.aO:=λz=>fr (ja _ z)
  have rl:=I.rl;have v2:VR h (R++[⟨y,(b.name,0),0⟩]):=by
   refine⟨λr hr=>?_,?_,?_,by rw[gK,s9];lia⟩
   ·rcases jw.mp hr with z|z
    ·exact I.v.vp r z
    ·obtain rfl:=qO.mp z;have:=(g.lg b bm).1;exact⟨b,bm,rfl,Int.le_refl _,by show 0 < b.long;lia⟩
   ·rw[dh];exact hV.mpr ⟨I.v.np,by simp,λa ha b' lq e=>nf (by rw[List.map_singleton,qO] at lq;rw[lq] at e;rw[e] at ha;exact ha)⟩
   ·rw[dh];exact hV.mpr ⟨I.v.nb,by simp,λa ha b' lq e=>ER (by rw[List.map_singleton,qO] at lq;rw[lq] at e;rw[e] at ha;exact ha)⟩
  have pm:(gQ h R++[(⟨y,(b.name,0),0⟩:Row)]).Perm (R++[⟨y,(b.name,0),0⟩]):=(qi g I.v).append_right _;have v3:=v2.perm pm;have r0:(gQ h R++[(⟨y,(b.name,0),0⟩:Row)]).filterMap (nr [])=gQ h R++[⟨y,(b.name,0),0⟩]:=by
   rw[show nr []=some from funext λr=>Jd (by simp),List.filterMap_some]
  have OL:=NM hh (rows:=gQ h R++[⟨y,(b.name,0),0⟩]) (mv:=[]) zv (by decide) (by have:=v3.rl;lia) (λr _ x e=>by cases e) (by rw[r0];exact v3.np)
  rw[r0,Lx g v3 v2 pm,dh] at OL;have Yx:=Yf (now:=now) g bm hn ER Jo nf (by lia)
  refine⟨R++[⟨y,(b.name,0),0⟩],some (fS b.name),some (.Y (.int ((R.length:Int)+(G.length:Int)))),some (.Y (.bl (!qG ((gQ h R).map Row.pl) (.p (b.name,0))))),some (fS y),⟨v2,?_,?_,?_,?_⟩,?_⟩
  ·rw[dh,fG];refine(C5 (l₁:=R.map Row.aO) (l₂:=G.map Out.aO) (a:=y)).nodup_iff.mpr ?_;exact j7.mpr ⟨fr,I.bg⟩
  ·intro x hx;rw[gK,s9];rw[dh,fG] at hx;rcases dZ.mp ((C5 (l₁:=R.map Row.aO) (l₂:=G.map Out.aO) (a:=y)).mem_iff.mp hx) with z|z
   ·exact⟨R.length+G.length,by lia,z.trans hy.symm⟩
   ·obtain⟨i,hi,e⟩:=I.nm x z;exact⟨i,by lia,e⟩
  ·rw[gK,s9];lia
  ·rw[gK,s9];lia
  ·refine qz ?_;rw[Pk,pc,jJ,if_pos c];exact XE en Yx (eq_true (by rw[bB,(qi g I.v).length_eq];lia)) OL
 ·refine⟨R,some (fS b.name),some (.Y (.int ((R.length:Int)+(G.length:Int)))),some (.Y (.bl (!qG ((gQ h R).map Row.pl) (.p (b.name,0))))),a9,I,qz ?_⟩;rw[Pk,pc,jJ,if_neg c];rfl
theorem Jl{B:GS}{r:List D}:eA (aa 3) (aX 12) B [a0,a1,a2,some (.Y (.lst r)),a4,a5,a6,a7,a8,a9,a10,a11,a12]=iD (aX 12) B r [a0,a1,a2,some (.Y (.lst r)),a4,a5,a6,a7,a8,a9,a10,a11,a12]:=by
 simp only[pK,cI,ba,bx,aY,↓ah,bP]
theorem Wl(hh:lR h){k:Nat}(kl:k+1 < 1000){R:List Row}(I:Inv h ns R G)(a6 a7 a8 a9 a10 a11 a12:Option O):
  ∃R' G' KZ K0 DA,Inv h ns R' G'/\E8 (lg ns h R G now [some (.Y (.int (k:Int))),a6,a7,a8,a9,a10,a11,a12])=some (.nx,lg ns h R' G' (now+1) [some (.Y (.int (k:Int))),a6,a7,a8,a9,KZ,K0,DA]):=by
 have g:=hh.g;have pm:=qi g I.v;have vr:=I.v.perm pm;have rl:=I.rl;have xQ:=I.xQ;have ll:(gQ h R).length < 20:=by rw[pm.length_eq];lia
 obtain⟨mv,ok,nd,e5⟩:=Wb g (ns:=ns) kl ll vr.vp vr.np;have mn:(mv.map (·.1)).Nodup:=ok.sub.nodup vr.nb
 have ml:mv.length<=R.length:=by
  have:=ok.sub.length_le;rw[bB,bB,pm.length_eq] at this;exact this
 have OZ:∀m∈mv,∀x,m.2=.c x->x∈h.af:=λm hm x e=>by
  obtain⟨r,_,_,b,_,hg⟩:=ok.gl m hm;exact NJ hg x e
 have mg:FQ h R G mv:=by
  refine⟨mn,λm hm=>?_,I.bg,by lia,by lia,by lia⟩
  obtain⟨r,hr,e,hg⟩:=ok.gl m hm;refine⟨r,(DH I.v r).mp hr,e,hg,λz=>?_⟩
  exact(hV.mp nd).2.2 _ (pe (f:=Row.pl) hr) r.pl (qc.mpr ⟨m,hm,by rw[z];rfl⟩) rfl
 obtain⟨pb,e7⟩:=Xy (now:=now) g mg;have fp:((gQ h R).filterMap (nr mv)).Perm (R.filterMap (nr mv)):=pm.filterMap _;have v1:=Uw g vr ok nd;have v2:=v1.perm fp.symm;have e8:=NM hh mn (by lia) (by lia) (λr hr x e=>by
  rcases zZ mv r with⟨z,_⟩|⟨m,hm,_,z⟩
  ·rw[e] at z;cases z
  ·exact OZ m hm x (z.symm.trans e)) (MU vr nd)
 rw[Lx g v1 v2 fp] at e8;obtain⟨u,w,e9⟩:=SV now (by lia) OZ
 have lo:(bH (now+1) mv).length<=mv.length:=uG _ mv;have pl:=pb.length_eq;rw[gK,gK,bB,bB,bB,bB] at pl;have I2:Inv h ns (R.filterMap (nr mv)) (G++bH (now+1) mv):=by
  refine⟨v2,pb.nodup_iff.mpr I.bg,λx hx=>?_,lQ (uG _ _) rl,by rw[pl];exact xQ⟩
  rw[pl];exact I.nm x (pb.mem_iff.mp hx)
 generalize R.filterMap (nr mv)=R2 at *;rw[gK] at pl;have VT:=XC (G:=G++bH (now+1) mv) (now:=now+1) g v2;have l2:(gQ h R2).length < 1000:=by rw[(qi g v2).length_eq];have:=v2.rl;lia
 have lG:(G++bH (now+1) mv).length < 1000:=by rw[gK];lia
 have VU:yt [bG h R2 (G++bH (now+1) mv) (now+1)]=some (.lst (((G++bH (now+1) mv).map outD).map .Y),[some (bG h R2 (G++bH (now+1) mv) (now+1))]):=by
  have q:((G++bH (now+1) mv).map λo=>O.Y (outD o))=((G++bH (now+1) mv).map outD).map .Y:=by rw[jx];rfl
  rw[q_,q];exact Yd (by rw[bB,bB];exact lG) rfl
 obtain⟨U',VV,DA,rfl⟩:=DO (g:=aX 12) (f:=uv) br (λU=>∃z,U=lg ns h R2 (G++bH (now+1) mv) (now+1) [some (.Y (.int (k:Int))),a6,a7,a8,a9,some (.Y (.lst (mv.map gH))),some (.Y (.int now)),z]) (gQ h R2) (lg ns h R2 (G++bH (now+1) mv) (now+1) [some (.Y (.int (k:Int))),a6,a7,a8,a9,some (.Y (.lst (mv.map gH))),some (.Y (.int now)),a12]) ⟨_,rfl⟩ (by
  rintro x hx _ ⟨z,rfl⟩;have hr:=(DH v2 x).mp hx;have bm:x.aO∈R2.map Row.aO:=pe hr;have hn:nX x.aO:=by
   obtain⟨i,_,e⟩:=I2.nm x.aO (lx _ bm);rw[e];exact DG _ (uU ns 12 (by decide) _).1 (uU ns 12 (by decide) _).2 (DW ns 12 (by decide) _)
  exact⟨_,XH (Wh (now:=now+1) v2.nb hr (λz=>(hV.mp I2.bg).2.2 _ bm _ z rfl) hn),_,rfl⟩)
 refine⟨R2,G++bH (now+1) mv,some (.Y (.lst (mv.map gH))),some (.Y (.int now)),DA,I2,?_⟩;unfold E8;have m1:tK [bG h R G now]=some (.Y (.int now),[some (bG h R G now)]):=MQ;have m2:tK [bG h R2 (G++bH (now+1) mv) (now+1)]=some (.Y (.int (now+1)),[some (bG h R2 (G++bH (now+1) mv) (now+1))]):=MQ;rw[qz (Yo e5),qz (Yp m1),qz (Yq e7),qz (Yr e8),qz (Ys e9 (eq_true (by rw[bB,bB];lia))),<-dh,qz (XF m2 VT (SS l2)),qz (XG VU (SU lG)),Jl]
 exact VV
theorem XJ{oh:O}(eh:yc [.Y (.aS ns)]=some (oh,[none]))(ed:oh.d=hd)(ei:Ao [.ins aq bO [],.Y hd,.Y (.int 2)]=some (.Y .aI,[some (.ins aq bO ho),none,none]))(et:nN [.Y (.aS ns),.Y (.int 14),.Y (.int 20)]=some (.Y (.int t),[none,none,none]))
  (i3:ku [.own (.Y (.int 15)),.own (.Y (.int (23+2 * t))),.own (.Y (.int 2))]=some (15,23+2 * t))
  (lp:iD (aX 5) Fo (rY 15 2 (gc 15 (23+2 * t))) [some (.Y (.aS ns)),some (.Y hd),some (.ins aq bO ho),some (.Y (.lst [])),some (.Y (.lst [])),none,none,none,none,none,none,none,none]=some (.nx,U')) (hl:U'.length=13):∃fin,EJ [.Y (.aS ns)]=some (.Y (.bl true),fin):=by
 refine⟨fZ [false] (U'.take 1),?_⟩;have cm:(-2 ^ 64 < (2:Int)/\(2:Int) < 2 ^ 64 \/ -2 ^ 64 < t/\t < 2 ^ 64)=True:=eq_true (Or.inl (by decide))
 unfold EJ;unfold IX;generalize Fo=B at *;simp only[eF,cu,cB,bw,bz,bI,Nat.reduceSub,gk,dN,gr,gI,dJ,ef,cI,iC,bc,ba,aY,↓ah,bj,jg,iB,eh,jh,iE,ed,Nat.reduceAdd,Nat.reduceLT,cG,bS,if_true,VF,bx,bU,ei,VG,fV,Nat.reduceLeDiff,eS,jT,dt,VS,bL,gw,bD,bF,bC,du,bP,et,ka,Ee,cm,jB,i3,lp,gx,iu,hl]
theorem Yt(ns:List Int)(hn:ns.length<=63):∃fin,EJ [.Y (.aS ns)]=some (.Y (.bl true),fin):=by
 obtain⟨h,g,qJ,l0,l5,c4,eh⟩:=V9 ns;have hh:lR h:=⟨g,qJ,l5⟩;have ed:(O.tup [.lst (h.aj.map fB),fL h.af]).d=c_ h:=by
  show D.tup [.lst (O.dl (h.aj.map fB)),_]=_;rw[X2];rfl
 have ei:=Xj g;obtain⟨_,t0,t1⟩:=kW ns 14 1 20 (by decide) (by decide) (by decide)
 have et:nN [.Y (.aS ns),.Y (.int 14),.Y (.int 20)]=_:=yv ns 14 20 (by decide) (by decide)
 generalize bM ns 14 1 20=t at *;have i3:ku [.own (.Y (.int 15)),.own (.Y (.int (23+2 * t))),.own (.Y (.int 2))]=some (15,23+2 * t):=by
  unfold ku;dsimp only;rw[if_pos ⟨rfl,rfl,Nat.ble_eq.mpr (by lia)⟩]
 have mn:gQ h []=[]:=by
  unfold gQ;rw[List.flatMap_eq_nil_iff];intro b _;unfold dQ;rw[List.filterMap_eq_nil_iff];intro c _;rfl
 obtain⟨U',lp,R,G,now,a5,a6,a7,a8,a9,a10,a11,a12,I,rfl⟩:=DO (g:=aX 5) (f:=Fo) (λj:Nat=>D.int (15+(j:Int) * 2)) (λU=>∃R G now a5 a6 a7 a8 a9 a10 a11 a12,Inv h ns R G/\U=lg ns h R G now [a5,a6,a7,a8,a9,a10,a11,a12]) (List.range (gc 15 (23+2 * t))) (lg ns h [] [] 0 [none,none,none,none,none,none,none,none]) ⟨[],[],0,none,none,none,none,none,none,none,none,⟨⟨nofun,zv,zv,by decide⟩,zv,nofun,by decide,by decide⟩,rfl⟩ (by
  rintro j hj _ ⟨R,G,now,a5,a6,a7,a8,a9,a10,a11,a12,I,rfl⟩;have hj:=mF.mp hj;unfold gc at hj;rw[show 15+(j:Int) * 2=((15+j * 2:Nat):Int) by lia]
  have kl:15+j * 2+1 < 1000:=by lia
  generalize 15+j * 2=k at *;rw[show aX 5 (.int (k:Int)) (lg ns h R G now [a5,a6,a7,a8,a9,a10,a11,a12])=some (lg ns h R G now [some (.Y (.int (k:Int))),a6,a7,a8,a9,a10,a11,a12]) from rfl,jJ];obtain⟨R',b6,b7,b8,b9,I',e1⟩:=Ux hh l0 (k:=k) (by lia) (now:=now) I E8 a6 a7 a8 a9 a10 a11 a12
  obtain⟨R2,G2,KZ,K0,DA,I2,e2⟩:=Wl hh (k:=k) kl (now:=now) I' b6 b7 b8 b9 a10 a11 a12;exact⟨_,e1.trans e2,R2,G2,now+1,_,_,_,_,_,_,_,_,I2,rfl⟩)
 unfold lg at lp;rw[mn] at lp;exact XJ eh ed ei et i3 lp rfl
def oZ(K:L2.FG):L2.Sp:=λvs H Q _=>∃(a:Addr) (ns:List Int),vs=[.ref a]/\dq K H a (ns.map V.int)/\ns.length<=63/\∀H',Q (.bl true) H'
theorem XM{P:Program}{base:Heap}{t:FI}(T:Txt K mg t):aT P w K mg base dz 10 t.yY t.yJ ["_law_script"] (oZ K):=by
 have z0:=Q5 (P:=P) (w:=w) (base:=base) T;have z7:=Qd (P:=P) (w:=w) (base:=base) T;have z9:=Q6 (P:=P) (w:=w) (base:=base) T;have z11:=Sj (P:=P) (w:=w) (base:=base) T;have z20:=Q7 (P:=P) (w:=w) (base:=base) T;have z22:=Q8 (P:=P) (w:=w) (base:=base) T;have z28:=Qz (P:=P) (w:=w) (base:=base) T;have z30:=Ug (P:=P) (w:=w) (base:=base) T;have z35:=Qf (P:=P) (w:=w) (base:=base) T;have z4:=Qs (P:=P) (w:=w) (base:=base) T z0;have z5:=Qg (P:=P) (w:=w) (base:=base) T z7;have z8:=Q9 (P:=P) (w:=w) (base:=base) T z7;have z10:=Sk (P:=P) (w:=w) (base:=base) T z7 z9;have zC:=Q_ (P:=P) (w:=w) (base:=base) T z11;have z26:=P6 (P:=P) (w:=w) (base:=base) T z7;have z27:=PY (P:=P) (w:=w) (base:=base) T z0;have z32:=Qh (P:=P) (w:=w) (base:=base) T z7;have z34:=Qt (P:=P) (w:=w) (base:=base) T z9;have z2:=P8 (P:=P) (w:=w) (base:=base) T z4;have z3:=P9 (P:=P) (w:=w) (base:=base) T z4;have z6:=Qi (P:=P) (w:=w) (base:=base) T z7 z8;have C_:=Sm (P:=P) (w:=w) (base:=base) T zC;have FH:=Rb (P:=P) (w:=w) (base:=base) T zC;have Dc:=Rf (P:=P) (w:=w) (base:=base) T zC;have z25:=Uh (P:=P) (w:=w) (base:=base) T z26 z0;have z29:=So (P:=P) (w:=w) (base:=base) T z32;have z31:=Rh (P:=P) (w:=w) (base:=base) T z27 z0;have z33:=Sq (P:=P) (w:=w) (base:=base) T z34 z35;have z1:=P_ (P:=P) (w:=w) (base:=base) T z3 z2 z6 z5;have PK:=Sr (P:=P) (w:=w) (base:=base) T zC FH C_ Dc;have z17:=Ss (P:=P) (w:=w) (base:=base) T zC C_ Dc;have z21:=Ri (P:=P) (w:=w) (base:=base) T z20 FH C_ Dc;have z18:=Rj (P:=P) (w:=w) (base:=base) T zC PK FH z17 C_ Dc;have z24:=Sv (P:=P) (w:=w) (base:=base) T z10 z1;have z19:=Sw (P:=P) (w:=w) (base:=base) T;exact Vl (Xa T z24 z29 z28 z33 z30 z25 z31 z18 z22 z21 PK FH C_ z19 Dc) Yt
theorem rB(h:us.length=1):∃a0,us=[a0]:=by
 obtain _|⟨a0,us⟩:=us
 ·cases h
 obtain _|⟨z,us⟩:=us
 ·exact⟨a0,rfl⟩
 ·simp at h
theorem pL(h:us.length=2):∃a0 a1,us=[a0,a1]:=by
 obtain _|⟨a0,us⟩:=us
 ·cases h
 obtain _|⟨a1,us⟩:=us
 ·cases h
 obtain _|⟨z,us⟩:=us
 ·exact⟨a0,a1,rfl⟩
 ·simp at h
theorem uY(h:us.length=3):∃a0 a1 a2,us=[a0,a1,a2]:=by
 obtain _|⟨a0,us⟩:=us
 ·cases h
 obtain _|⟨a1,us⟩:=us
 ·cases h
 obtain _|⟨a2,us⟩:=us
 ·cases h
 obtain _|⟨z,us⟩:=us
 ·exact⟨a0,a1,a2,rfl⟩
 ·simp at h
theorem EO(h:us.length=4):∃a0 a1 a2 a3,us=[a0,a1,a2,a3]:=by
 obtain _|⟨a0,us⟩:=us
 ·cases h
 obtain _|⟨a1,us⟩:=us
 ·cases h
 obtain _|⟨a2,us⟩:=us
 ·cases h
 obtain _|⟨a3,us⟩:=us
 ·cases h
 obtain _|⟨z,us⟩:=us
 ·exact⟨a0,a1,a2,a3,rfl⟩
 ·simp at h
theorem all_mk{h:Heap}{fa f0 f1 f2 f3 f4 f5 f6 f7 f8 f9 yM yN yO yP yQ yR yS yT yU u0 yV yW yX yY u7 wO wQ wR wU wV wW wX wY wZ w5 w6:Addr}{d0 d1 d2 d3 d4 d5 d6 d7 d8 d9 Ba Bb Bc Bd Be Bf Bg Bh Bi wK Bk Bl Bm yJ yK Bo Bp Bq Br Bs Bt Bu Bw Bx Bz BA:FuncData}(X:K.In h)(G:h.Ns mainGlobals mg)(Y':mg "law"=some (.ref fa))
  (a0:PySem.W.nsIn K mainGlobals "is_name"=some (some (.ref f0)))
  (a1:PySem.W.nsIn K mainGlobals "right_house"=some (some (.ref f1)))
  (a2:PySem.W.nsIn K mainGlobals "check_carts"=some (some (.ref f2)))
  (a3:PySem.W.nsIn K mainGlobals "check_belts"=some (some (.ref f3)))
  (a4:PySem.W.nsIn K mainGlobals "take_name"=some (some (.ref f4)))
  (a5:PySem.W.nsIn K mainGlobals "check_outs"=some (some (.ref f5)))
  (a6:PySem.W.nsIn K mainGlobals "check_hand"=some (some (.ref f6)))
  (a7:PySem.W.nsIn K mainGlobals "belt_names"=some (some (.ref f7)))
  (a8:PySem.W.nsIn K mainGlobals "reached"=some (some (.ref f8)))
  (a9:PySem.W.nsIn K mainGlobals "belt_of"=some (some (.ref f9)))
  (a10:PySem.W.nsIn K mainGlobals "copied"=some (some (.ref yM)))
  (a11:PySem.W.nsIn K mainGlobals "_law_cell"=some (some (.ref yN)))
  (a12:PySem.W.nsIn K mainGlobals "_law_digit"=some (some (.ref yO)))
  (a13:PySem.W.nsIn K mainGlobals "_law_pick"=some (some (.ref yP)))
  (a14:PySem.W.nsIn K mainGlobals "_law_other"=some (some (.ref yQ)))
  (a15:PySem.W.nsIn K mainGlobals "_law_third"=some (some (.ref yR)))
  (a16:PySem.W.nsIn K mainGlobals "_law_name"=some (some (.ref yS)))
  (a17:PySem.W.nsIn K mainGlobals "_law_outs"=some (some (.ref yT)))
  (a18:PySem.W.nsIn K mainGlobals "_law_house"=some (some (.ref yU)))
  (a19:PySem.W.nsIn K mainGlobals "_law_same"=some (some (.ref u0)))
  (a20:PySem.W.nsIn K mainGlobals "_law_goals"=some (some (.ref yV)))
  (a21:PySem.W.nsIn K mainGlobals "_law_moves"=some (some (.ref yW)))
  (a22:PySem.W.nsIn K mainGlobals "_law_moved"=some (some (.ref yX)))
  (a23:PySem.W.nsIn K mainGlobals "law"=some (some (.ref yY)))
  (a24:PySem.W.findIn K (.ref 394) "__init__"=some (some (.ref u7))) (n24:PySem.W.isFn K (.ref u7)=true)
  (a25:PySem.W.findIn K (.ref 394) "put"=some (some (.ref wO))) (n25:PySem.W.isFn K (.ref wO)=true)
  (a26:PySem.W.findIn K (.ref 394) "check_belt"=some (some (.ref wQ))) (n26:PySem.W.isFn K (.ref wQ)=true)
  (a27:PySem.W.findIn K (.ref 394) "check_inside"=some (some (.ref wR))) (n27:PySem.W.isFn K (.ref wR)=true)
  (a28:PySem.W.findIn K (.ref 394) "moment"=some (some (.ref wU))) (n28:PySem.W.isFn K (.ref wU)=true)
  (a29:PySem.W.findIn K (.ref 394) "bags"=some (some (.ref wV))) (n29:PySem.W.isFn K (.ref wV)=true)
  (a30:PySem.W.findIn K (.ref 394) "out"=some (some (.ref wW))) (n30:PySem.W.isFn K (.ref wW)=true)
  (a31:PySem.W.findIn K (.ref 394) "where"=some (some (.ref wX))) (n31:PySem.W.isFn K (.ref wX)=true)
  (a32:PySem.W.findIn K (.ref 394) "in_order"=some (some (.ref wY))) (n32:PySem.W.isFn K (.ref wY)=true)
  (a33:PySem.W.findIn K (.ref 394) "move"=some (some (.ref wZ))) (n33:PySem.W.isFn K (.ref wZ)=true)
  (a34:PySem.W.findIn K (.ref 394) "move_on"=some (some (.ref w5))) (n34:PySem.W.isFn K (.ref w5)=true)
  (a35:PySem.W.findIn K (.ref 394) "move_out"=some (some (.ref w6))) (n35:PySem.W.isFn K (.ref w6)=true)
  (F0:e_ K "is_name" "is_name" DB f0 d0)
  (F1:e_ K "right_house" "right_house" Gb f1 d1)
  (F2:e_ K "check_carts" "check_carts" Gd f2 d2)
  (F3:e_ K "check_belts" "check_belts" Ge f3 d3)
  (F4:e_ K "take_name" "take_name" Gy f4 d4)
  (F5:e_ K "check_outs" "check_outs" Gi f5 d5)
  (F6:e_ K "check_hand" "check_hand" Gj f6 d6)
  (F7:e_ K "belt_names" "belt_names" Dp f7 d7)
  (F8:e_ K "reached" "reached" DC f8 d8)
  (F9:e_ K "belt_of" "belt_of" G3 f9 d9)
  (F10:e_ K "copied" "copied" DP yM Ba)
  (F11:e_ K "_law_cell" "_law_cell" Hx yN Bb)
  (F12:e_ K "_law_digit" "_law_digit" G4 yO Bc)
  (F13:e_ K "_law_pick" "_law_pick" Hy yP Bd)
  (F14:e_ K "_law_other" "_law_other" G5 yQ Be)
  (F15:e_ K "_law_third" "_law_third" G6 yR Bf)
  (F16:e_ K "_law_name" "_law_name" Hz yS Bg)
  (F17:e_ K "_law_outs" "_law_outs" DQ yT Bh)
  (F18:e_ K "_law_house" "_law_house" zS yU Bi)
  (F19:e_ K "_law_same" "_law_same" HA u0 wK)
  (F20:e_ K "_law_goals" "_law_goals" zT yV Bk)
  (F21:e_ K "_law_moves" "_law_moves" DD yW Bl)
  (F22:e_ K "_law_moved" "_law_moved" DE yX Bm)
  (F23:e_ K "law" "law" Bj yY yJ)
  (F24:e_ K "__init__" "Hall.__init__" HB u7 yK)
  (F25:e_ K "put" "Hall.put" Ih wO Bo)
  (F26:e_ K "check_belt" "Hall.check_belt" F_ wQ Bp)
  (F27:e_ K "check_inside" "Hall.check_inside" FY wR Bq)
  (F28:e_ K "moment" "Hall.moment" GN wU Br)
  (F29:e_ K "bags" "Hall.bags" DR wV Bs)
  (F30:e_ K "out" "Hall.out" Ii wW Bt)
  (F31:e_ K "where" "Hall.where" G7 wX Bu)
  (F32:e_ K "in_order" "Hall.in_order" zN wY Bw)
  (F33:e_ K "move" "Hall.move" HC wZ Bx)
  (F34:e_ K "move_on" "Hall.move_on" Gz w5 Bz)
  (F35:e_ K "move_out" "Hall.move_out" Gk w6 BA)
  (h_c:mr K 394) (h_mk:PySem.W.makesIn K 394=true) (h_kp:PySem.W.keepIn K (.ref 394)=true) (h_mg:PySem.W.nsIn K mainGlobals "Hall"=some (some (.ref 394)))
  (t_built:PySem.W.findIn K (.ref 394) "built"=some none)
  (t_told_rounds:PySem.W.findIn K (.ref 394) "told_rounds"=some none)
  (t_now:PySem.W.findIn K (.ref 394) "now"=some none)
  (t_book:PySem.W.findIn K (.ref 394) "book"=some none)
  (t_halts:PySem.W.findIn K (.ref 394) "halts"=some none)
  (t_places:PySem.W.findIn K (.ref 394) "places"=some none)
  (t_readings:PySem.W.findIn K (.ref 394) "readings"=some none)
  (t_rounded:PySem.W.findIn K (.ref 394) "rounded"=some none)
  (t_gone:PySem.W.findIn K (.ref 394) "gone"=some none)
  (t_carted:PySem.W.findIn K (.ref 394) "carted"=some none)
  (z_len:PySem.W.nsIn K mainGlobals "len"=some none)
  (z_isinstance:PySem.W.nsIn K mainGlobals "isinstance"=some none)
  (z_int:PySem.W.nsIn K mainGlobals "int"=some none)
  (z_bool:PySem.W.nsIn K mainGlobals "bool"=some none)
  (z_str:PySem.W.nsIn K mainGlobals "str"=some none)
  (z_list:PySem.W.nsIn K mainGlobals "list"=some none)
  (z_tuple:PySem.W.nsIn K mainGlobals "tuple"=some none)
  (z_range:PySem.W.nsIn K mainGlobals "range"=some none)
  (z_enumerate:PySem.W.nsIn K mainGlobals "enumerate"=some none)
  (z_all:PySem.W.nsIn K mainGlobals "all"=some none)
  (z_sorted:PySem.W.nsIn K mainGlobals "sorted"=some none)
  (z_dict:PySem.W.nsIn K mainGlobals "dict"=some none)
  {pZ:Tok} (y_LETTERS:PySem.W.nsIn K mainGlobals "LETTERS"=some (some (.str "abcdefghijklmnopqrstuvwxyz" pZ)))
  {kK:Tok} (y_MOST_LETTERS:PySem.W.nsIn K mainGlobals "MOST_LETTERS"=some (some (.int 8 kK)))
  : ∃fd:FuncData,(∀(s:Shared) (v:Value),BindsTo s fd ⟨[v],[]⟩ [("_law_script",v)])/\∀base:Heap,K.In base->base.Ns mainGlobals mg->aT l.prog w K mg base dz 10 fa fd ["_law_script"] (oZ K):=by
 have e:=Y'.symm.trans (PySem.W.mg_of X G a23);cases e;have T:Txt K mg ⟨f0,d0,f1,d1,f2,d2,f3,d3,f4,d4,f5,d5,f6,d6,f7,d7,f8,d8,f9,d9,yM,Ba,yN,Bb,yO,Bc,yP,Bd,yQ,Be,yR,Bf,yS,Bg,yT,Bh,yU,Bi,u0,wK,yV,Bk,yW,Bl,yX,Bm,fa,yJ,u7,yK,wO,Bo,wQ,Bp,wR,Bq,wU,Br,wV,Bs,wW,Bt,wX,Bu,wY,Bw,wZ,Bx,w5,Bz,w6,BA⟩:=⟨⟨F0,PySem.W.mg_of X G a0,F0.binds λ_ _ _ _ _ _ us hl=>by obtain⟨_,rfl⟩:=rB hl;rfl⟩,⟨F1,PySem.W.mg_of X G a1,F1.binds λ_ _ _ _ _ _ us hl=>by obtain⟨_,rfl⟩:=rB hl;rfl⟩,⟨F2,PySem.W.mg_of X G a2,F2.binds λ_ _ _ _ _ _ us hl=>by obtain⟨_,_,rfl⟩:=pL hl;rfl⟩,⟨F3,PySem.W.mg_of X G a3,F3.binds λ_ _ _ _ _ _ us hl=>by obtain⟨_,_,rfl⟩:=pL hl;rfl⟩,⟨F4,PySem.W.mg_of X G a4,F4.binds λ_ _ _ _ _ _ us hl=>by obtain⟨_,_,rfl⟩:=pL hl;rfl⟩,⟨F5,PySem.W.mg_of X G a5,F5.binds λ_ _ _ _ _ _ us hl=>by obtain⟨_,_,rfl⟩:=pL hl;rfl⟩,⟨F6,PySem.W.mg_of X G a6,F6.binds λ_ _ _ _ _ _ us hl=>by obtain⟨_,rfl⟩:=rB hl;rfl⟩,⟨F7,PySem.W.mg_of X G a7,F7.binds λ_ _ _ _ _ _ us hl=>by obtain⟨_,rfl⟩:=rB hl;rfl⟩,⟨F8,PySem.W.mg_of X G a8,F8.binds λ_ _ _ _ _ _ us hl=>by obtain⟨_,_,rfl⟩:=pL hl;rfl⟩,⟨F9,PySem.W.mg_of X G a9,F9.binds λ_ _ _ _ _ _ us hl=>by obtain⟨_,_,rfl⟩:=pL hl;rfl⟩,⟨F10,PySem.W.mg_of X G a10,F10.binds λ_ _ _ _ _ _ us hl=>by obtain⟨_,rfl⟩:=rB hl;rfl⟩,⟨F11,PySem.W.mg_of X G a11,F11.binds λ_ _ _ _ _ _ us hl=>by obtain⟨_,_,rfl⟩:=pL hl;rfl⟩,⟨F12,PySem.W.mg_of X G a12,F12.binds λ_ _ _ _ _ _ us hl=>by obtain⟨_,_,_,_,rfl⟩:=EO hl;rfl⟩,⟨F13,PySem.W.mg_of X G a13,F13.binds λ_ _ _ _ _ _ us hl=>by obtain⟨_,_,_,rfl⟩:=uY hl;rfl⟩,⟨F14,PySem.W.mg_of X G a14,F14.binds λ_ _ _ _ _ _ us hl=>by obtain⟨_,_,_,rfl⟩:=uY hl;rfl⟩,⟨F15,PySem.W.mg_of X G a15,F15.binds λ_ _ _ _ _ _ us hl=>by obtain⟨_,_,_,rfl⟩:=uY hl;rfl⟩,⟨F16,PySem.W.mg_of X G a16,F16.binds λ_ _ _ _ _ _ us hl=>by obtain⟨_,_,_,rfl⟩:=uY hl;rfl⟩,⟨F17,PySem.W.mg_of X G a17,F17.binds λ_ _ _ _ _ _ us hl=>by obtain⟨_,_,_,_,rfl⟩:=EO hl;rfl⟩,⟨F18,PySem.W.mg_of X G a18,F18.binds λ_ _ _ _ _ _ us hl=>by obtain⟨_,rfl⟩:=rB hl;rfl⟩,⟨F19,PySem.W.mg_of X G a19,F19.binds λ_ _ _ _ _ _ us hl=>by obtain⟨_,_,rfl⟩:=pL hl;rfl⟩,⟨F20,PySem.W.mg_of X G a20,F20.binds λ_ _ _ _ _ _ us hl=>by obtain⟨_,_,rfl⟩:=pL hl;rfl⟩,⟨F21,PySem.W.mg_of X G a21,F21.binds λ_ _ _ _ _ _ us hl=>by obtain⟨_,_,_,_,rfl⟩:=EO hl;rfl⟩,⟨F22,PySem.W.mg_of X G a22,F22.binds λ_ _ _ _ _ _ us hl=>by obtain⟨_,_,_,rfl⟩:=uY hl;rfl⟩,⟨F23,PySem.W.mg_of X G a23,F23.binds λ_ _ _ _ _ _ us hl=>by obtain⟨_,rfl⟩:=rB hl;rfl⟩,F24,F24.binds λ_ _ _ _ _ _ us hl=>by obtain⟨_,_,_,rfl⟩:=uY hl;rfl,⟨F25,⟨a25,n25,F25.kp⟩,F25.binds λ_ _ _ _ _ _ us hl=>by obtain⟨_,_,_,_,rfl⟩:=EO hl;rfl⟩,⟨F26,⟨a26,n26,F26.kp⟩,F26.binds λ_ _ _ _ _ _ us hl=>by obtain⟨_,_,rfl⟩:=pL hl;rfl⟩,⟨F27,⟨a27,n27,F27.kp⟩,F27.binds λ_ _ _ _ _ _ us hl=>by obtain⟨_,_,rfl⟩:=pL hl;rfl⟩,⟨F28,⟨a28,n28,F28.kp⟩,F28.binds λ_ _ _ _ _ _ us hl=>by obtain⟨_,rfl⟩:=rB hl;rfl⟩,⟨F29,⟨a29,n29,F29.kp⟩,F29.binds λ_ _ _ _ _ _ us hl=>by obtain⟨_,rfl⟩:=rB hl;rfl⟩,⟨F30,⟨a30,n30,F30.kp⟩,F30.binds λ_ _ _ _ _ _ us hl=>by obtain⟨_,rfl⟩:=rB hl;rfl⟩,⟨F31,⟨a31,n31,F31.kp⟩,F31.binds λ_ _ _ _ _ _ us hl=>by obtain⟨_,_,rfl⟩:=pL hl;rfl⟩,⟨F32,⟨a32,n32,F32.kp⟩,F32.binds λ_ _ _ _ _ _ us hl=>by obtain⟨_,rfl⟩:=rB hl;rfl⟩,⟨F33,⟨a33,n33,F33.kp⟩,F33.binds λ_ _ _ _ _ _ us hl=>by obtain⟨_,_,rfl⟩:=pL hl;rfl⟩,⟨F34,⟨a34,n34,F34.kp⟩,F34.binds λ_ _ _ _ _ _ us hl=>by obtain⟨_,_,_,rfl⟩:=uY hl;rfl⟩,⟨F35,⟨a35,n35,F35.kp⟩,F35.binds λ_ _ _ _ _ _ us hl=>by obtain⟨_,_,_,rfl⟩:=uY hl;rfl⟩,h_c,⟨h_mk,a24,n24,h_kp⟩,PySem.W.mg_of X G h_mg,t_built,t_told_rounds,t_now,t_book,t_halts,t_places,t_readings,t_rounded,t_gone,t_carted,PySem.W.mg_none_of X G z_len,PySem.W.mg_none_of X G z_isinstance,PySem.W.mg_none_of X G z_int,PySem.W.mg_none_of X G z_bool,PySem.W.mg_none_of X G z_str,PySem.W.mg_none_of X G z_list,PySem.W.mg_none_of X G z_tuple,PySem.W.mg_none_of X G z_range,PySem.W.mg_none_of X G z_enumerate,PySem.W.mg_none_of X G z_all,PySem.W.mg_none_of X G z_sorted,PySem.W.mg_none_of X G z_dict,⟨_,PySem.W.mg_of X G y_LETTERS⟩,⟨_,PySem.W.mg_of X G y_MOST_LETTERS⟩⟩
 obtain⟨oc,od,kV,doc,pm,an,cL,ct,sY,rfl,_,_⟩:=F23.ex;exact⟨_,λs v=>.of_eq rfl,λbase _ _=>XM T⟩
theorem walk{q:Program}{loose:List Str}{XP:(Str->Option Value)->Heap->Prop}{YP:World->Heap->Prop}{d:DefRec}{K:Params->L2.FG}(hn:l.most=some 63)(BQ:d.params.defaults=[])
  (hY:∀(w:World) (h:Heap),YP w h->(K w.params).In h)
  (F:∀(w:World) (mg:Str->Option Value) (fa:Addr) (h:Heap),(K w.params).In h->h.Ns mainGlobals mg->mg d.name=some (.ref fa)->
   ∃fd:FuncData,(∀(s:Shared) (u:Value),BindsTo s fd ⟨[u],[]⟩ [("_law_script",u)])/\∀base:Heap,(K w.params).In base->base.Ns mainGlobals mg->aT l.prog w (K w.params) mg base dz 10 fa fd ["_law_script"] (oZ (K w.params))) :
  PySem.W.WalkO q loose XP YP l.row.toRowW d [] (λf vs=>PySem.call f vs):=
 L2.uC (n:=63) (k:=10) (x:="_law_script") (CX:=λ_=>dz) (sp:=λw=>oZ (K w.params)) hn (by decide) BQ ⟨rfl,by decide,by decide⟩ hY F (λ_ _ a ns hl _ hS=>⟨a,ns,rfl,hS,hl,λ_=>rfl⟩) λ_ _ _ _ _ z=>z
end Carry
end
open PySem PySem.W PyProof.Rows
set_option maxRecDepth 100000 in
set_option maxHeartbeats 0 in
theorem PySem.Challenge.cw_carry_k64_bags_moved_holds : PySem.Challenge.rw_carry_k64_bags_moved.Holds := by
 simp -failIfUnchanged only[Carry.Hd.hd0];w_on;o_law;(try simp only[Carry.Hd.hd]);k_head;(case hw=>w_witness2)
 k_fill
 refine Carry.walk (l:=PySem.Challenge.rw_carry_k64_bags_moved) rfl rfl (λw h Y=>PySem.W.kIn_of Y) ?F
 case F=>
  intro w mg fa h KX G hmg;refine' Carry.all_mk KX G hmg ?a0 ?a1 ?a2 ?a3 ?a4 ?a5 ?a6 ?a7 ?a8 ?a9 ?a10 ?a11 ?a12 ?a13 ?a14 ?a15 ?a16 ?a17 ?a18 ?a19 ?a20 ?a21 ?a22 ?a23 ?a24 ?n24 ?a25 ?n25 ?a26 ?n26 ?a27 ?n27 ?a28 ?n28 ?a29 ?n29 ?a30 ?n30 ?a31 ?n31 ?a32 ?n32 ?a33 ?n33 ?a34 ?n34 ?a35 ?n35 ?F0 ?F1 ?F2 ?F3 ?F4 ?F5 ?F6 ?F7 ?F8 ?F9 ?F10 ?F11 ?F12 ?F13 ?F14 ?F15 ?F16 ?F17 ?F18 ?F19 ?F20 ?F21 ?F22 ?F23 ?F24 ?F25 ?F26 ?F27 ?F28 ?F29 ?F30 ?F31 ?F32 ?F33 ?F34 ?F35 ?h_c ?h_mk ?h_kp ?h_mg ?t_built ?t_told_rounds ?t_now ?t_book ?t_halts ?t_places ?t_readings ?t_rounded ?t_gone ?t_carted   ?z_len ?z_isinstance ?z_int ?z_bool ?z_str ?z_list ?z_tuple ?z_range ?z_enumerate ?z_all ?z_sorted ?z_dict ?y_LETTERS ?y_MOST_LETTERS
  case h_c=>exact⟨by k_is,by k_is,by k_is,by k_is⟩
  all_goals first|(refine' L2.fun_mk ?zl ?zc ?zk;(case zl=>k_is);(case zc=>k_is);(case zk=>k_is))|k_is|skip