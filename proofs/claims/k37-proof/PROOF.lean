import PyProof.Rows.All
import Wide.All
import OpenK.AllK
import Wide.FinOn
import Lean
import PyProof.EqAt
import PyProof.EqKinds
import PyProof.TupleCall
import PyProof.StationsW
import PyProof.NeKinds
import KE.KRevIter
import PyProof.SeqI3
import PyProof.ZipIter
import PyProof.EnumIter
import PyProof.EnumStmt
import PyProof.EnumMake
import PyProof.WalksEnum
import PyProof.ExcClass3
import PyProof.ExcInit
import PyProof.ExcBaseAll.ValueError
import PyProof.ExcArgsOwn
import KE.KIsAll
import PyProof.ExcAttrAll.ValueError
import PyProof.InstStoreFacts
import KE.KTryMore
import PyProof.RulesAs
import PyProof.NsDelKeeps
import KE.KDictList
import KE.KItemsList
import PyProof.Rows.SortShell
import KE.IntTextLaws
import KE.KIntText
import PyProof.MeetsSeq
import PyProof.SeqRoads2
import PyProof.DictWalks
import PySem.Challenge.RW_carry_k37_soonest_refused
set_option linter.all false
set_option bootstrap.genMatcherCode false
set_option compiler.extract_closed false
set_option genSizeOf false
set_option genSizeOfSpec false
def bY:=@List.length_map.{0,0}
def c7:=@Nat.le_refl
def c_:=@List.map_cons.{0,0}
def dC:=@Option.bind_eq_some_iff.{0,0}
def dR:=@List.mem_cons.{0}
def eR:=@List.mem_append.{0}
def eV:=@PySem.Heap.lt_size
def fu:=@List.length_append.{0}
def fP:=@List.size_toArray.{0}
def gQ:=@List.mem_map.{0,0}
def ie:=@List.append_assoc.{0}
def ig:=@List.nil_append.{0}
theorem ij:type_of% @Option.join_some.{0}:=rfl
def iz:=@List.mem_singleton.{0}
def iA:=@Nat.lt_of_lt_of_le
def iB:=@List.mem_append_right.{0}
def iP:=@PySem.Heap.get?_push_of_some
def jb:=@List.mem_append_left.{0}
def jr:=@List.nodup_cons.{0}
def jI:=@List.map_append.{0,0}
theorem jL:type_of% @List.length_cons.{0}:=rfl
def jX:=@List.getElem?_eq_some_iff.{0}
def j9:=@List.append_nil.{0}
def j_:=@Option.map_eq_some_iff.{0,0}
def km:=@List.getElem?_eq_getElem.{0}
def kG:=@List.mem_filter.{0}
def kH:=@Nat.le_trans
def kI:=@List.all_eq_true.{0}
def lC:=@List.getElem?_map.{0,0}
def lD:=@List.nodup_append.{0}
def lY:=@Nat.ne_of_lt
def mI:=@Nat.lt_irrefl
def mJ:=@List.length_singleton.{0}
def mK:=@Bool.not_true
def m9:=@Bool.and_eq_true
def oI:=@PySem.Heap.get?_push_size
def oF:=@List.drop_zero.{0}
def oG:=@List.sublist_append_right.{0}
def oH:=@List.map_map.{0,0,0}
def oZ:=@List.mem_cons_of_mem.{0}
def o5:=@Bool.false_ne_true
def pV:=@Nat.zero_le
def pW:=@PySem.Heap.get?_update_other
def pX:=@List.map_nil.{0,0}
def pY:=@List.length_range
def pZ:=@Bool.not_false
def p5:=@List.drop_succ_cons.{0}
def qz:=@List.mem_cons_self.{0}
def qA:=@List.perm_append_comm.{0}
def qB:=@List.find?_cons.{0}
def rf:=@List.mem_range
def rg:=@List.length_take.{0}
theorem rh:type_of% @List.lookup_cons.{0,0}:=rfl
def rL:=@PySem.Heap.get?_update_self
theorem tY:type_of% @List.all_cons.{0}:=rfl
def uC:=@Bool.false_eq_true
def uD:=@Bool.eq_iff_iff
theorem uE:type_of% @List.length_nil.{0}:=rfl
def uF:=@List.map_singleton.{0,0}
def vH:=@List.length_drop.{0}
def vI:=@List.take_append_drop.{0}
def vJ:=@Array.getElem?_eq_getElem.{0}
def vK:=@Int.le_refl
def xi:=@List.getElem_mem.{0}
theorem y8:type_of% @List.cons_append.{0}:=rfl
def Bj:=@Bool.false_and
def Bk:=@List.mem_of_getElem?.{0}
def Bl:=@List.filter_cons.{0}
def Bm:=@Nat.le_succ
def Bo:=@Array.getElem?_eq_some_iff.{0}
def Bp:=@Array.getElem?_toList.{0}
def Bq:=@List.mem_map_of_mem.{0,0}
def Br:=@Bool.true_and
def Ew:=@Nat.ne_of_gt
def Ey:=@List.mem_filterMap.{0,0}
def Ez:=@Nat.lt_succ_self
def EA:=@List.mem_iff_getElem.{0}
def EB:=@List.any_eq_true.{0}
def EC:=@List.not_mem_nil.{0}
def ED:=@List.nodup_nil.{0}
def EE:=@Bool.and_true
theorem EF:type_of% @Option.map_some.{0,0}:=λ_ _=>rfl
def EG:=@List.getD_eq_getElem?_getD.{0}
theorem EH:type_of% @List.all_nil.{0}:=rfl
def EI:=@Nat.not_lt_zero
def HD:=@List.filterMap_cons.{0,0}
def HE:=@List.getElem?_set_ne.{0}
def HF:=@List.getElem?_append_right.{0}
def HG:=@List.getElem?_append_left.{0}
def HH:=@List.length_set.{0}
def HI:=@List.drop_eq_getElem_cons.{0}
def HJ:=@Bool.and_false
def HK:=@List.all_map.{0,0}
theorem HL:type_of% @Option.isSome_none.{0}:=rfl
def HM:=@Bool.not_eq_true
def HN:=@List.map_congr_left.{0,0}
def HP:=@Option.isSome_map.{0,0}
def HQ:=@List.contains_iff_mem.{0}
def MM:=@Nat.le_of_lt
def MN:=@List.getElem?_set_self.{0}
def MO:=@Option.isSome_iff_exists.{0}
def MP:=@Nat.lt_of_le_of_lt
def MQ:=@List.drop_of_length_le.{0}
def MR:=@List.set_set.{0}
def MS:=@List.getElem?_range
def MT:=@Bool.and_self
def MU:=@List.map_drop.{0,0}
theorem MV:type_of% @List.isEmpty_nil.{0}:=rfl
def MW:=@List.mem_flatMap.{0,0}
theorem MX:type_of% @Option.isSome_some.{0}:=rfl
def aK:=@PySem.wpAny_bind
def bW:=@PySem.wpAny_pure
def a_:=@if_true.{1}
def aT:=@if_pos.{1}
def aW:=@if_neg.{1}
def cX:=@if_false.{1}
def jt:=@decide_eq_true
def jc:=@decide_eq_false
def rj:=@beq_self_eq_true.{0}
def nk:=@PySem.wpAny_holding
def MY:=@decide_eq_true_iff
def y9:=@of_decide_eq_true
def p7:=@beq_eq_false_iff_ne.{0}
def p8:=@Classical.byContradiction
def b_:=@absurd.{0}
def i9:=@True.intro
def lE:=@eq_true
namespace Carry.Hd
open Lean Meta PySem PySem.W
abbrev kC:=@mkConst
abbrev aM:=@mkAppM
abbrev nL:=mkRawNatLit
abbrev Ex:=Lean.Expr
def fit(ds:Array (Ex×Ex×Ex)):MetaM (Array (Ex×Ex×Ex)):=do
 let cs:Std.HashSet Ex:=ds.foldl (λz d=>if d.1.isConst then z.insert d.1 else z) {}
 ds.filterM λd=>do
  let ty:=Fast.bareType (<-inferType d.1)
  return (ty.find? λy=>cs.contains y || y.isConstOf ``PySem.W.Frag).isNone
def spots(ds:Array (Ex×Ex×Ex)):Std.HashMap Ex Nat:=ds.zipIdx.foldl (λz d=>z.insert d.1.1 d.2) {}
def parts(tw:Name->MetaM Unit)(v:Ex):MetaM (Array (Ex×Ex×Ex)):=do
 for x in Fast.constsOf v do
  if let .const c _:=x then
   if((<-getEnv).getModuleIdxFor? c).isNone || (`PySem.Challenge).isPrefixOf c then tw c
 fit (<-Fast.twinsIn v)
def twin:Nat->Name->MetaM Unit
 |0,_=>return
 |k+1,c=>do
  let (n,e) <-Fast.stemIn c true
  if(<-getEnv).contains e then return
  if let some none:=(<-Fast.primed.get).get? c then return
  let some (.defnInfo d):=(<-getEnv).find? c|return
  let ds <-parts (twin k) d.value
  if ds.isEmpty then
   Fast.primed.modify λz=>z.insert c none
   return
  let tys <-ds.mapM λx=>inferType x.1
  let ty <-inferType d.value
  let ix:=spots ds
  let G <-Fast.withLocals tys.toList #[] λxs=>mkLambdaFVars xs (Fast.putIn ix (λi=>xs[i]!) d.value)
  let mut B:=#[ty]
  for q in tys.reverse do B:=B.push (<-mkArrow q B.back!)
  let m:=ds.size
  let mut f:=G
  let mut g:=G
  let mut pf:=mkApp2 (kC ``Eq.refl [<-getLevel B[m]!]) B[m]! G
  for i in [0:m] do
   let (x,y,h):=ds[i]!
   pf:=mkAppN (kC ``congr [<-getLevel tys[i]!,<-getLevel B[m - 1 - i]!]) #[tys[i]!,B[m - 1 - i]!,f,g,x,y,pf,h]
   f:=mkApp f x
   g:=mkApp g y
  withOptions (Elab.async.set · false) do
   addDecl (.defnDecl { name:=n,levelParams:=[],type:=d.type,value:=Fast.putIn ix (λi=>ds[i]!.2.1) d.value,hints:=d.hints,safety:=.safe})
   addDecl (.thmDecl { name:=e,levelParams:=[],type:=<-mkEq (kC c) (kC n),value:=pf})
  Fast.primed.modify λz=>z.insert c (some (n,e))
def prep(v:Ex):MetaM (Array (Ex×Ex×Ex)):=parts (twin 9) v
def put(stem:Name)(ty v:Ex):MetaM Ex:=do
 let ds <-prep v
 let c <-defAt stem ty (Fast.putIn (spots ds) (λi=>ds[i]!.2.1) v)
 Fast.primed.modify λz=>z.insert c.constName! none
 return c
abbrev Objs:=Array (Obj×Obj×Ex)
def lay(old:Objs)(s t:Shared):MetaM Objs:=do
 let P:=kC ``Params
 unless s.heap.objs.size == t.heap.objs.size && s.toks == t.toks && toExpr s.drawn == toExpr t.drawn && toExpr s.heap.life == toExpr t.heap.life do throwError "the worlds part"
 let mut out:=#[]
 for i in [0:s.heap.objs.size] do
  let (a,b):=(s.heap.objs[i]!,t.heap.objs[i]!)
  if let some (a',b',e):=old[i]? then
   if sameObjNow a' a && sameObjNow b' b then
    out:=out.push (a',b',e)
    continue
  let v <-withLocalDeclD `P P λp=>do
   let e:=objE p a
   unless e == objE p b do throwError "an object is the world's"
   mkLambdaFVars #[p] e
  out:=out.push (a,b,<-put `o (<-mkArrow P (kC ``Obj)) v)
 return out
def state(l:Bool)(old:Objs)(s t:Shared):MetaM (Objs×W.State):=do
 let P:=kC ``Params
 let os <-lay old s t
 let life:=toExpr s.heap.life
 let S:W.State:={ heap:=default,gens:=<-gensE s t,drawn:=toExpr s.drawn,toks:=nL s.toks}
 if l then
  let v <-withLocalDeclD `P P λp=>mkLambdaFVars #[p] (mkApp2 (kC ``Heap.mk) (mkApp2 (kC ``Array.mk [0]) (kC ``Obj) (listE (kC ``Obj) (os.toList.map λx=>mkApp x.2.2 p))) life)
  return (os,{ S with heap:=<-put `h (<-mkArrow P (kC ``Heap)) v})
 let v <-withLocalDeclD `P P λp=>mkLambdaFVars #[p] (treeE p (os.map (·.2.2)) 1 0)
 return (os,{ S with tree:=some (<-put `t (<-mkArrow P (kC ``BT)) v,nL s.heap.objs.size,life)})
def aux(ty pf:Ex):MetaM Ex:=do return kC (<-withOptions (Elab.async.set · false) (mkAuxLemma [] ty pf (cache:=false)))
def look:Nat->Ex->Ex->MetaM Ex
 |k,l,r=>do
  let W:=kC ``World
  let O:=kC ``OsState
  let q <-withLocalDeclD `w W λw=>withLocalDeclD `os O λos=>do
   let un (e:Ex):MetaM Ex:=do
    let e:=(mkApp2 e w os).headBeta
    if e.isAppOf ``openSeen || e.isAppOf ``openGood then return (<-unfoldDefinition? e).getD e
    return e
   let (a,b):=(<-un l,<-un r)
   unless a.isAppOfArity ``Prod.mk 4 && b.isAppOfArity ``Prod.mk 4 do return none
   let sh (e:Ex) (i:Nat):MetaM Ex:=mkLambdaFVars #[w,os] (e.getArg! i)
   return some (<-sh a 2,<-sh b 2,<-sh a 3,<-sh b 3)
  match k,q with
  |n+1,some (a1,b1,a2,b2)=>
   let (x,y):=(<-look n a1 b1,<-look n a2 b2)
   let (ty,pf) <-withLocalDeclD `w W λw=>withLocalDeclD `os O λos=>do
    return (<-mkForallFVars #[w,os] (<-mkEq (mkApp2 l w os).headBeta (mkApp2 r w os).headBeta),<-mkLambdaFVars #[w,os] (<-aM ``looks_pair #[mkApp2 x w os,mkApp2 y w os]))
   aux ty pf
  |_,_=>
   let P <-withLocalDeclD `w W λw=>do mkLambdaFVars #[w] (<-mkEq (mkApp l w).headBeta (mkApp r w).headBeta)
   discard <| prep P
   let e <-byKernelQuick P []
   withLocalDeclD `w W λw=>withLocalDeclD `os O λos=>do mkLambdaFVars #[w,os] (<-aM ``congrFun #[mkApp e w,os])
def most:Nat:=3000
def left(g:MVarId)(pE:Ex)(p:Program)(_:List String):MetaM Unit:=g.withContext do
 let a:=(<-instantiateMVars (<-g.getType)).consumeMData.getAppArgs
 let some N <-(Meta.evalNat a[7]!).run|throwError "no number"
 let (.ok t,.ok t'):=(<-traceTop p N 1,<-traceTop p N 2)|throwError "no trace"
 let tb:=kC ``treeTable
 let (W,O):=(kC ``World,kC ``OsState)
 let m0:=nL t.s0.heap.objs.size
 let ann:=toExpr t.ann
 let main <-aM ``Program.main #[pE]
 let op <-aM ``opening #[pE]
 let e1 <-aux (<-mkEq op (mkApp (kC ``plainProg) (<-aM ``Scope.names #[<-aM ``Module.scope #[main]]))) (<-mkEqRefl op)
 let e2 <-withLocalDeclD `s (kC ``Shared) λs=>do
  let r <-aM ``some #[s]
  aux (<-mkForallFVars #[s] (<-mkEq (mkApp2 (kC ``fenceModules?) pE s) r)) (<-mkLambdaFVars #[s] (<-mkEqRefl r))
 let e3 <-mkDecideProof (<-mkEq (mkApp2 (kC ``Nat.ble) (nL 600) a[7]!) (kC ``Bool.true))
 let boot:=mkAppN (kC ``boot_open) #[pE,a[7]!,e1,e3,e2]
 let bE <-aM ``behindTheImports #[pE]
 let some cells <-cellsD? bE|throwError "no body"
 let env0 <-Elab.Term.TermElabM.run' do
  let s1 <-Elab.Term.exprToSyntax (<-aM ``Module.scope #[main])
  let s2 <-Elab.Term.exprToSyntax (toExpr t.code)
  let e <-Elab.Term.withSynthesize (Elab.Term.elabTermEnsuringType (<-`(({ scope:=$s1,locals:=mainNs,globals:=mainNs,cells:=[],code:=$s2,frame:=some $(quote t.frame)}:Env))) (kC ``Env))
  instantiateMVars e
 let env <-defAt `env (kC ``Env) env0
 let fp:=toExpr t.framePos
 let cE:=mkApp2 (kC ``Code.body) bE env
 let B:=listE (kC ``Frame) [mkApp (kC ``topFrame) fp]
 let go (f:Name) (more:Array Ex) (n:Nat) (w s th:Ex):Ex:=mkAppN (kC f) (#[tb,pE,w,m0,ann]++more++#[nL n,s,th])
 let one:=#[nL 1]
 let piece (rows:List String) (l r:Ex->Ex->MetaM Ex):MetaM Ex:=do
  for x in [pE,env] do discard <| prep x
  byPiece rows l r
 let ends (S:Ex) (pos:Pos):MetaM Ex:=do aM ``some #[<-aM ``Prod.mk #[kC ``Flow.next,<-aM ``Prod.mk #[S,<-aM ``Prod.mk #[cE,toExpr pos]]]]
 let rowsOf (x y:Snap):=(x.rows++y.rows).eraseDups
 let mut o:Objs:=#[]
 for i in [0:t.s0.heap.objs.size] do o:=o.push (t.s0.heap.objs[i]!,t'.s0.heap.objs[i]!,kC ((`PySem.W).str s!"boot_o_{i}"))
 let S0:PySem.W.State:={ heap:=kC ``boot_heap,gens:=mkApp2 (kC ``Array.mk [0]) (kC ``GenState) (mkApp (kC ``List.nil [0]) (kC ``GenState)),drawn:=kC ``boot_drawn,toks:=kC ``boot_toks}
 let (o1,Sa) <-state true o t.pre.s t'.pre.s
 let thA:=mkApp4 (kC ``Thread.mk) (mkApp2 (kC ``denote) tb cE) cE (toExpr t.pre.pos) B
 let stub:=mkApp (kC ``topStub) pE
 let pre <-piece (rowsOf t.pre t'.pre) (λw os=>pure (go ``topGo #[] t.pre.steps w (S0.at w os) stub)) λw os=>do aM ``some #[<-aM ``Prod.mk #[Sa.at w os,thA]]
 let (o2,Sb) <-state false o1 t.block.s t'.block.s
 let block <-piece (rowsOf t.block t'.block) (λw os=>pure (go ``segRun one t.block.steps.succ w (Sa.at w os) (mkAppN (kC ``blockOf) #[bE,env,cE,toExpr t.pre.pos,B]))) λw os=>ends (Sb.at w os) t.block.pos
 let mut gs:Array (List Ex×Nat×Snap×Snap×List String):=#[]
 for (st,x,x') in cells.zip (t.pieces.zip t'.pieces) do
  let k:=max x.steps x'.steps
  let rs:=rowsOf x x'
  match gs.back? with
  |some (l,n,_,_,r)=>
   if n+k<=most && (r++rs).eraseDups.length<=3 then gs:=gs.pop.push (l++[st],n+k,x,x',(r++rs).eraseDups) else gs:=gs.push ([st],k,x,x',rs)
  |none=>gs:=gs.push ([st],k,x,x',rs)
 let mut cur:=(o2,Sb,t.block.pos)
 let mut lems:=#[]
 for (sts,n,x,x',rs) in gs do
  let stE <-defAt `st (mkApp (kC ``List [0]) (kC ``Stmt)) (listE (kC ``Stmt) sts)
  discard <| prep stE
  let (o0,S1,p1):=cur
  let (o',S') <-state false o0 x.s x'.s
  let th:=mkAppN (kC ``piecesOf) #[stE,env,cE,toExpr p1,B]
  let h <-piece rs (λw os=>pure (go ``segRunT one n.succ w (S1.atT w os) th)) λw os=>ends (S'.atT w os) x.pos
  lems:=lems.push (stE,n.succ,S1,p1,S',x.pos,<-liftT h ``segRun_of)
  cur:=(o',S',x.pos)
  logInfo m!"PIECE {sts.length} {n} {x.s.heap.objs.size}"
 let (oN,SN,pN):=cur
 let (_,Sf) <-state true oN t.fin.s t'.fin.s
 let fin <-piece (rowsOf t.fin t'.fin) (λw os=>pure (go ``topRun #[] t.fin.steps.succ w (SN.at w os) (mkApp4 (kC ``Thread.mk) (mkApp (kC ``doneF) (kC ``Flow.next)) cE (toExpr pN) B))) λw os=>aM ``some #[Sf.at w os]
 let run <-withLocalDeclD `w W λw=>withLocalDeclD `os O λos=>do
  let w1 (l:Ex):MetaM Ex:=do aM ``congrFun #[mkApp l w,os]
  let r:=Sf.at w os
  let com:=#[tb,pE,w,m0,ann,env,fp]
  let mut k <-w1 fin
  let mut M:=nL t.fin.steps.succ
  let mut rest:=listE (kC ``Stmt) []
  for (stE,n,S1,p1,S',p2,h) in lems.toList.reverse do
   k:=mkAppN (kC ``piece_app) (com++#[nL n,M,S1.at w os,S'.at w os,r,stE,rest,cE,toExpr p1,toExpr p2,<-w1 h,k])
   M:=mkApp2 (kC ``Nat.add) (nL n) M
   rest <-aM ``HAppend.hAppend #[stE,rest]
  k:=mkAppN (kC ``piece_block) (com++#[nL t.block.steps.succ,M,Sa.at w os,Sb.at w os,r,bE,cE,toExpr t.pre.pos,toExpr t.block.pos,<-w1 block,k])
  M:=mkApp2 (kC ``Nat.add) (nL t.block.steps.succ) M
  k:=mkAppN (kC ``go_top) #[tb,pE,w,m0,ann,nL t.pre.steps,M,S0.at w os,Sa.at w os,r,stub,thA,<-w1 pre,k]
  M:=mkApp2 (kC ``Nat.add) (nL t.pre.steps) M
  let ty <-mkEq (mkAppN (kC ``topRun) #[tb,pE,w,m0,ann,M,S0.at w os,stub]) (<-aM ``some #[r])
  return (M,<-aux (<-mkForallFVars #[w,os] ty) (<-mkLambdaFVars #[w,os] k))
 let lem:=kC ``LeftO.of_pieces
 let (ms,_,_) <-forallMetaTelescope (<-inferType lem)
 let vs:=#[pE,a[1]!,a[2]!,a[3]!,a[4]!,a[5]!,a[6]!,a[7]!,a[8]!,S0.heap,Sf.heap,S0.gens,Sf.gens,S0.drawn,Sf.drawn,S0.toks,Sf.toks,m0,ann,run.1]
 for (m,v) in ms.zip vs do m.mvarId!.assign v
 let want (i:Nat):MetaM Ex:=do instantiateMVars (<-inferType ms[i]!)
 let .forallE n1 d1 b1 i1 <-want 21|throwError "size"
 let size <-byKernelQuick (.lam n1 d1 b1 i1) []
 let .forallE _ _ bl _ <-want 24|throwError "looks"
 let (l,r) <-withLocalDeclD `w W λw=>do
  let some (_,l,r):=(bl.instantiate1 w).eq?|throwError "looks"
  return (<-mkLambdaFVars #[w] l,<-mkLambdaFVars #[w] r)
 let h <-look 12 l r
 let looks <-withLocalDeclD `w W λw=>do
  let f <-withLocalDeclD `os O λos=>mkLambdaFVars #[os] (mkApp2 h w os)
  mkLambdaFVars #[w] (<-aM ``funext #[f])
 g.assign (mkAppN lem (vs++#[boot,size,run.2,<-mkDecideProof (<-want 23),looks]))
simproc_decl hd0 (PySem.W.OpenLaw.Holds _):=λe=>do
 if let .const (.str p s) _:=e.appArg! then twin 9 (p.str ("p"++(s.drop 1).toString))
 return .continue
simproc_decl hd (PySem.W.OpenRow.Holds _):=λ_=>do
 PySem.W.leftPieces.set (some left)
 return .continue
end Carry.Hd
noncomputable section
set_option Elab.async false
set_option maxRecDepth 100000
abbrev ao:=@PySem.Value
abbrev az:=@PySem.Shared
abbrev ah:=@PySem.Addr
abbrev ai:=@Option.{0}
abbrev jM:=@PySem.FuncData
abbrev dD:=@PySem.Around
abbrev eW:=@PySem.Program
abbrev p6:=@PySem.NameKind
abbrev cL:=@PySem.Heap
abbrev df:=@PySem.World
abbrev L2.FG:=PySem.W.Frag
open Nat(reduceAdd reduceLT reduceSub reduceLeDiff)
namespace L2
open PySem PySem.Spec PyProof.Rows
abbrev Key:=Sum Int Str
noncomputable def wK:Key->ao->Bool
 |.inl k,v=>Value.isInt k v
 |.inr x,v=>Value.isStrOf x v
def LR(w:df):Key->Int
 |.inl k=>hashInt k
 |.inr x=>hashStr w x
theorem uL:∀{k:Key} {v:ao},wK k v=true->(∃i t,k=Sum.inl i/\v=Value.int i t)\/(∃x t,k=Sum.inr x/\v=Value.str x t)
 |.inl i,v,h=>by
  obtain⟨t,e⟩:=Value.isInt_shape (k:=i) (v:=v) h;exact .inl ⟨i,t,rfl,e⟩
 |.inr x,v,h=>by
  obtain⟨t,e⟩:=Value.isStrOf_shape (x:=x) (v:=v) h;exact .inr ⟨x,t,rfl,e⟩
def YW(a b:Int):decide ((Sum.inl a:Key)=Sum.inl b)=(a == b):=by
 by_cases e:a=b
 .subst e;simp
 .have h:¬(Sum.inl a:Key)=Sum.inl b:=λq=>e (Sum.inl.inj q)
  rw[jc h];exact(p7.mpr e).symm
def YX(a b:Str):decide ((Sum.inr a:Key)=Sum.inr b)=decide (a=b):=by
 by_cases e:a=b
 .subst e;simp
 .have h:¬(Sum.inr a:Key)=Sum.inr b:=λq=>e (Sum.inr.inj q)
  rw[jc h,jc e]
def YY(a:Int)(b:Str):decide ((Sum.inl a:Key)=Sum.inr b)=false:=jc (λq=>nomatch q)
def YZ(a:Str)(b:Int):decide ((Sum.inr a:Key)=Sum.inl b)=false:=jc (λq=>nomatch q)
def Js(prog:eW)(w:df):PySem.KeyKind prog w Key where
 is:=wK
 hash:=LR w
 inj:=λv a b ha hb=>by
  rcases uL ha with⟨i,t,rfl,rfl⟩|⟨x,t,rfl,rfl⟩
  .rcases uL hb with⟨j,u,rfl,e⟩|⟨y,u,rfl,e⟩
   .injection e with e1 _;rw[e1]
   .exact nomatch e
  .rcases uL hb with⟨j,u,rfl,e⟩|⟨y,u,rfl,e⟩
   .exact nomatch e
   .injection e with e1 _;rw[e1]
 byValue:=λk v h=>by
  rcases uL h with⟨i,t,rfl,rfl⟩|⟨x,t,rfl,rfl⟩ <;> rfl
 pyHash:=λhv h=>by
  rcases uL hv with⟨i,t,rfl,rfl⟩|⟨x,t,rfl,rfl⟩
  .exact wpAny_pyHash_int h
  .exact wpAny_pyHash_str h
 eqBool:=λhu hv h=>by
  rcases uL hu with⟨i,t,rfl,rfl⟩|⟨x,t,rfl,rfl⟩
  .rcases uL hv with⟨j,u,rfl,rfl⟩|⟨y,u,rfl,rfl⟩
   .rw[YW] at h;exact wpAny_eqBool_int h
   .rw[YY] at h;exact SeqAt.EqAt.int_str i t y u _ _ _ _ h
  .rcases uL hv with⟨j,u,rfl,rfl⟩|⟨y,u,rfl,rfl⟩
   .rw[YZ] at h;exact SeqAt.EqAt.str_int x t j u _ _ _ _ h
   .rw[YX] at h;exact wpAny_eqBool_str h
 «strs»:=λk x t v h=>by
  rcases uL h with⟨i,u,rfl,e⟩|⟨y,u,rfl,e⟩
  .exact nomatch e
  .injection e with e1 _;subst e1;cases v <;> rfl
inductive V where
 |bh|bl (b:Bool)|int (i:Int)|str (x:Str)|z_ (b:Array UInt8)|AN (b:UInt64)|ref (a:ah)|ty (n:String)
 deriving DecidableEq
def RelV:V->ao->Prop
 |.bh,u=>u=Value.none
 |.bl b,u=>u=Value.bool b
 |.int i,u=>∃t,u=Value.int i t
 |.str x,u=>∃t,u=Value.str x t
 |.z_ b,u=>∃t,u=Value.bytes b t
 |.AN b,u=>∃t,u=Value.float b t
 |.ref a,u=>u=Value.ref a
 |.ty n,u=>u=Value.type n
abbrev Vals:List V->List ao->Prop:=Paired RelV
theorem Vals.length{xs:List V}{us:List ao}(r:Vals xs us):xs.length=us.length:=Paired.length r
theorem Vals.get:∀{xs:List V} {us:List ao} {i:Nat} {x:V},Vals xs us->xs[i]?=some x->∃u,us[i]?=some u/\RelV x u
 |_,_,_,_,.nil,e=>by simp at e
 |_,_,0,_,.cons r _,e=>by simp at e;subst e;exact⟨_,rfl,r⟩
 |_,_,i+1,x,.cons _ t,e=>by
  obtain⟨u,h1,h2⟩:=Vals.get (i:=i) (x:=x) t (by simpa using e)
  exact⟨u,by simpa using h1,h2⟩
theorem Vals.set{x:V}{u:ao}(r:RelV x u):∀{xs:List V} {us:List ao} (i:Nat),Vals xs us->Vals (xs.set i x) (us.set i u)
 |_,_,_,.nil=>.nil
 |_,_,0,.cons _ t=>.cons r t
 |_,_,i+1,.cons q t=>.cons q (Vals.set r i t)
def Vals.append{xs ys:List V}{us ws:List ao}(h:Vals xs us)(s:Vals ys ws):Vals (xs++ys) (us++ws):=by
 induction h with
 |nil=>exact s
 |cons r t ih=>exact .cons r ih
theorem Vals.take:∀{xs:List V} {us:List ao} (n:Nat),Vals xs us->Vals (xs.take n) (us.take n)
 |_,_,0,_=>.nil
 |_,_,_+1,.nil=>.nil
 |_,_,n+1,.cons r t=>.cons r (Vals.take n t)
theorem Vals.drop:∀{xs:List V} {us:List ao} (n:Nat),Vals xs us->Vals (xs.drop n) (us.drop n)
 |_,_,0,r=>r
 |_,_,_+1,.nil=>.nil
 |_,_,n+1,.cons _ t=>Vals.drop n t
def nD:ai V->ai ao->Prop
 |some v,some u=>RelV v u
 |none,none=>True
 |_,_=>False
def KV{κ:Type}:List (κ×V)->List (κ×ao)->Prop:=Paired λ(p:κ×V) (q:κ×ao)=>p.1=q.1/\RelV p.2 q.2
def kV:Key->V
 |.inl i=>.int i
 |.inr x=>.str x
inductive TK where
 |inl (i:Int)|inr (x:Str)|tp (l:List TK)
mutual
noncomputable def TK.beq:TK->TK->Bool
 |.inl a,.inl b=>decide (a=b)
 |.inr a,.inr b=>decide (a=b)
 |.tp l,.tp m=>TK.pA l m
 |_,_=>false
noncomputable def TK.pA:List TK->List TK->Bool
 |[],[]=>true
 |a::l,b::m=>TK.beq a b&&TK.pA l m
 |_,_=>false
end
mutual
theorem TK.beq_iff:∀a b:TK,TK.beq a b=true↔a=b
 |.inl a,.inl b=>by unfold TK.beq;rw[decide_eq_true_eq];exact⟨λe=>by rw[e],λe=>by cases e;rfl⟩
 |.inr a,.inr b=>by unfold TK.beq;rw[decide_eq_true_eq];exact⟨λe=>by rw[e],λe=>by cases e;rfl⟩
 |.tp l,.tp m=>by unfold TK.beq;rw[TK.nN l m];exact⟨λe=>by rw[e],λe=>by cases e;rfl⟩
 |.inl _,.inr _=>by unfold TK.beq;exact⟨λe=>(nomatch e),λe=>(nomatch e)⟩
 |.inl _,.tp _=>by unfold TK.beq;exact⟨λe=>(nomatch e),λe=>(nomatch e)⟩
 |.inr _,.inl _=>by unfold TK.beq;exact⟨λe=>(nomatch e),λe=>(nomatch e)⟩
 |.inr _,.tp _=>by unfold TK.beq;exact⟨λe=>(nomatch e),λe=>(nomatch e)⟩
 |.tp _,.inl _=>by unfold TK.beq;exact⟨λe=>(nomatch e),λe=>(nomatch e)⟩
 |.tp _,.inr _=>by unfold TK.beq;exact⟨λe=>(nomatch e),λe=>(nomatch e)⟩
theorem TK.nN:∀l m:List TK,TK.pA l m=true↔l=m
 |[],[]=>by unfold TK.pA;exact⟨λ_=>rfl,λ_=>rfl⟩
 |a::l,b::m=>by unfold TK.pA;rw[m9,TK.beq_iff a b,TK.nN l m];exact⟨λe=>by rw[e.1,e.2],λe=>by cases e;exact⟨rfl,rfl⟩⟩
 |[],_::_=>by unfold TK.pA;exact⟨λe=>(nomatch e),λe=>(nomatch e)⟩
 |_::_,[]=>by unfold TK.pA;exact⟨λe=>(nomatch e),λe=>(nomatch e)⟩
end
instance:DecidableEq TK:=λa b=>decidable_of_iff _ (TK.beq_iff a b)
mutual
noncomputable def TK.hash(w:df):TK->Int
 |.inl i=>hashInt i
 |.inr x=>hashStr w x
 |.tp l=>reduceHash (Builtin.Tuple.tupleHashOf (TK.fZ w l))
noncomputable def TK.fZ(w:df):List TK->List Int
 |[]=>[]
 |a::l=>TK.hash w a::TK.fZ w l
end
noncomputable def TK.ok:Nat->TK->Bool
 |n+1,.tp l=>l.all (TK.ok n)
 |0,.tp _=>false
 |_,_=>true
def kJ(w:df)(e:TK×V×V)(x:DictEntry):Prop:=x.hash=e.1.hash w/\RelV e.2.1 x.key/\RelV e.2.2 x.val/\e.1.ok 8=true
inductive HO where
  |lst (xs:List V)
  |tup (xs:List V)
  |dK (kvs:List (Key×V))|dT (kvs:List (List Key×V))
  |dG (es:List (TK×V×V)) (ep:Nat)
  |set (S:Int->Bool) (n:Nat)
  |ins (C dx:ah) (fs:List (Str×V))
  |own (x:ah)
  |xd (fs:List (Str×V))
  |met (f x:ah)
  |Mi (lo hi:Int)
  |Y (o:Obj) (u:HO)
  |y0 (ps:Array ao)
  |ext (φ:cL->Prop)
abbrev Hp:=ah->ai HO
noncomputable def upd(H:Hp)(a:ah)(o:HO):Hp:=λb=>if b=a then some o else H b
def iQ{H:Hp}{a:ah}{o:HO}:upd H a o a=some o:=by unfold upd;rw[aT rfl]
def cK{H:Hp}{a b:ah}{o:HO}(h:b≠a):upd H a o b=H b:=by unfold upd;rw[aW h]
def mO{H:Hp}{a b:ah}{o:HO}(h:H a=some o)(h':H b=none):a≠b:=by
 intro e;subst e;rw[h] at h';cases h'
section
variable(P:eW)(w:df)
def cC(H:Hp)(h:cL)(a:ah):HO->Prop
 |.lst xs=>xs.length<=sizeLine/\∃(aH:List ao) (n:Nat),Vals xs aH/\h.get? a=some { cls:=.type "list",data:=.seq aH.toArray n}
 |.tup xs=>xs.length<=sizeLine/\∃aH:List ao,Vals xs aH/\IsTup h a aH.toArray
 |.dK kvs=>kvs.length<=sizeLine/\(a == sysModules)=false/\∃vs,KV kvs vs/\h.DictOf (Js P w) a vs
 |.dT kvs=>kvs.length<=sizeLine/\(a == sysModules)=false/\∃xs:List (List Key×ah×ao),
   Paired (λ(p:List Key×V) (q:List Key×ah×ao)=>p.1=q.1/\H q.2.1=some (.tup (p.1.map kV))/\RelV p.2 q.2.2) kvs xs/\
   ∃o es ep,h.get? a=some o/\o.ExactDict/\o.data=.dict es ep/\es.toList=xs.map (entryOfKey (tupleKind (Js P w)))/\(xs.map (·.1)).Nodup
 |.dG es ep=>es.length<=sizeLine/\(a == sysModules)=false/\∃o xs,h.get? a=some o/\o.ExactDict/\o.data=.dict xs ep/\Paired (kJ w) es xs.toList/\(es.map (·.1)).Nodup
 |.set S n=>h.SetOf (intKind P w) a S n
 |.ins C dx fs=>H dx=some (.own a)/\fs.length<=1000/\dx≠a/\h.get? a=some (PySem.W.instObj C dx)/\
   ∃mA,h.Ns1 dx mA/\(∀f,nD (fs.lookup f) (mA f))/\PySem.Within mA (fs.map (·.1))
 |.own _=>∃o,h.get? a=some o
 |.xd fs=>∃mA,h.Ns1 a mA/\∀f,nD (fs.lookup f) (mA f)
 |.Mi lo hi=>∃t u v,h.get? a=some { cls:=.type "range",data:=.fields #[.int lo t,.int hi u,.int 1 v]}
 |.Y o u=>h.get? a=some o/\cC H h a u
 |.y0 ps=>h.get? a=some { cls:=.none,data:=.fields ps}
 |.met f x=>h.get? a=some (PySem.W.methodObj (.ref f) (.ref x))
 |.ext φ=>φ h/\(∃o,h.get? a=some o)/\∀h1 h2:cL,φ h1->(∀o,h1.get? a=some o->h2.get? a=some o)->φ h2
def jZ(H:Hp)(h:cL):Prop:=∀a o,H a=some o->cC P w H h a o
end
section
variable{P:eW}{w:df}{H H':Hp}{h h':cL}{a:ah}{o:HO}
theorem cC.lt(x:cC P w H h a o):a<h.objs.size:=by
 cases o with
 |lst xs=>obtain⟨_,_,_,_,e⟩:=x;exact eV e
 |tup xs=>obtain⟨_,_,_,p⟩:=x;exact p.lt
 |dK kvs=>obtain⟨_,_,_,_,o,_,_,e,_⟩:=x;exact eV e
 |dT kvs=>obtain⟨_,_,_,_,o,_,_,e,_⟩:=x;exact eV e
 |dG es ep=>obtain⟨_,_,o,_,e,_⟩:=x;exact eV e
 |set S n=>obtain⟨o,_,_,_,e,_⟩:=x;exact eV e
 |ins C dx fs=>obtain⟨_,_,_,e,_⟩:=x;exact eV e
 |own y=>obtain⟨_,e⟩:=x;exact eV e
 |xd fs=>obtain⟨_,⟨_,_,_,e,_⟩,_⟩:=x;exact eV e
 |Mi lo hi=>obtain⟨_,_,_,e⟩:=x;exact eV e
 |Y ob u=>obtain⟨e,_⟩:=x;exact eV e
 |y0 ps=>exact eV (show h.get? a=some _ from x)
 |met f y=>exact eV (show h.get? a=some _ from x)
 |ext φ=>obtain⟨_,⟨_,e⟩,_⟩:=x;exact eV e
def Paired.L7{α β:Type}{F G:α->β->Prop}{l₁:List α}{l₂:List β}(h:Paired F l₁ l₂)(f:∀a b,F a b->G a b):Paired G l₁ l₂:=by
 induction h with
 |nil=>exact .nil
 |cons r t ih=>exact .cons (f _ _ r) ih
def cC.lh(x:cC P w H h a o)(k:∀b u,(b=a\/H b=some (.own a))->h.get? b=some u->h'.get? b=some u)
  (ho:∀b,H b=some (.own a)->H' b=some (.own a)) (ht:∀b xs,H b=some (.tup xs)->H' b=some (.tup xs)):cC P w H' h' a o:=by
 induction o with
 |lst xs=>obtain⟨z,aH,n,r,e⟩:=x;exact⟨z,aH,n,r,k _ _ (.inl rfl) e⟩
 |tup xs=>obtain⟨z,aH,r,ob,e,c⟩:=x;exact⟨z,aH,r,ob,k _ _ (.inl rfl) e,c⟩
 |dK kvs=>obtain⟨z,y,vs,r,ob,es,ep,e,c⟩:=x;exact⟨z,y,vs,r,ob,es,ep,k _ _ (.inl rfl) e,c⟩
 |dT kvs=>
  obtain⟨z,y,xs,r,ob,es,ep,e,c⟩:=x;exact⟨z,y,xs,Paired.L7 r λp q z=>⟨z.1,ht _ _ z.2.1,z.2.2⟩,ob,es,ep,k _ _ (.inl rfl) e,c⟩
 |dG es ep=>obtain⟨z,y,ob,xs,e,c⟩:=x;exact⟨z,y,ob,xs,k _ _ (.inl rfl) e,c⟩
 |set S n=>obtain⟨ob,es,ep,t,e,c⟩:=x;exact⟨ob,es,ep,t,k _ _ (.inl rfl) e,c⟩
 |ins C dx fs=>
  obtain⟨d,z,ne,e,mA,⟨od,es,ep,e2,c⟩,r⟩:=x;exact⟨ho _ d,z,ne,k _ _ (.inl rfl) e,mA,⟨od,es,ep,k _ _ (.inr d) e2,c⟩,r⟩
 |own y=>obtain⟨ob,e⟩:=x;exact⟨ob,k _ _ (.inl rfl) e⟩
 |xd fs=>obtain⟨mA,⟨od,es,ep,e,c⟩,r⟩:=x;exact⟨mA,⟨od,es,ep,k _ _ (.inl rfl) e,c⟩,r⟩
 |Mi lo hi=>obtain⟨t,u,v,e⟩:=x;exact⟨t,u,v,k _ _ (.inl rfl) e⟩
 |Y ob u ih=>obtain⟨e,q⟩:=x;exact⟨k _ _ (.inl rfl) e,ih q⟩
 |y0 ps=>
  have e:h.get? a=some { cls:=.none,data:=.fields ps}:=x;show h'.get? a=some { cls:=.none,data:=.fields ps};exact k a _ (.inl rfl) e
 |met f y=>
  have e:h.get? a=some (PySem.W.methodObj (.ref f) (.ref y)):=x;show h'.get? a=some (PySem.W.methodObj (.ref f) (.ref y));exact k a _ (.inl rfl) e
 |ext φ=>obtain⟨p,⟨o,e⟩,st⟩:=x;exact⟨st _ _ p λo q=>k _ _ (.inl rfl) q,⟨o,k _ _ (.inl rfl) e⟩,st⟩
theorem jZ.lt(x:jZ P w H h)(e:H a=some o):a<h.objs.size:=(x a o e).lt
def jZ.fresh(x:jZ P w H h)(e:h.objs.size<=a):H a=none:=by
 cases q:H a with
 |none=>rfl
 |some u=>exact b_ (iA (x.lt q) e) (mI _)
def jZ.kept(x:jZ P w H h)(k:∀b u,h.get? b=some u->h'.get? b=some u):jZ P w H h':=λa o e=>
 (x a o e).lh (λb u _ q=>k b u q) (λ_ q=>q) λ_ _ q=>q
def jZ.laid(x:jZ P w H h)(k:∀b u,h.get? b=some u->h'.get? b=some u)(hp:h.objs.size<=a)(new:cC P w (upd H a o) h' a o):jZ P w (upd H a o) h':=λb u e=>by
 have hn:=x.fresh hp;by_cases hb:b=a
 .subst hb;rw[iQ] at e;cases e;exact new
 .rw[cK hb] at e;exact(x b u e).lh (λc v _ q=>k c v q) (λc q=>by rw[cK (mO q hn)];exact q) λc xs q=>by rw[cK (mO q hn)];exact q
end
def Rd(H:Hp)(a:ah)(u:HO):Prop:=H a=some u\/∃o,H a=some (.Y o u)
def Rd.ok{P:eW}{w:df}{H:Hp}{h:cL}{a:ah}{u:HO}(r:Rd H a u)(x:jZ P w H h):cC P w H h a u:=by
 rcases r with r|⟨o,r⟩
 .exact x a u r
 .obtain⟨_,q⟩:=x a _ r;exact q
def Bz:ai HO->Prop
 |some (.lst _)=>True
 |some (.dK _)=>True
 |some (.dT _)=>True
 |some (.dG _ _)=>True
 |some (.set _ _)=>True
 |some (.ins _ _ _)=>True
 |some (.ext _)=>True
 |_=>False
section
variable{P:eW}{w:df}{H:Hp}{h h':cL}{x e:ah}{o':HO}
def jZ.write(ok:jZ P w H h)(mu:Bz (H x))(he:e=x\/H e=some (.own x))(k:∀b u,b≠e->h.get? b=some u->h'.get? b=some u)(AV:∃u,h'.get? e=some u)
  (new:cC P w (upd H x o') h' x o'):jZ P w (upd H x o') h':=λb u q=>by
 have DO:∀c y,H c=some (.own y)->c≠x:=λc y r z=>by subst z;rw[r] at mu;exact mu
 have Mb:∀c xs,H c=some (.tup xs)->c≠x:=λc xs r z=>by subst z;rw[r] at mu;exact mu
 by_cases hb:b=x
 .subst hb;rw[iQ] at q;cases q;exact new
 .rw[cK hb] at q;by_cases yp:b=e
  .have q':H b=some (.own x):=by
    rcases he with z|z
    .exact b_ (yp.trans z) hb
    .rw[yp];exact z
   rw[q] at q';cases q';obtain⟨v,hv⟩:=AV;exact⟨v,by rw[yp];exact hv⟩
  .refine(ok b u q).lh (λc v hc r=>k c v ?_ r) (λc r=>by rw[cK (DO c b r)];exact r) λc xs r=>by rw[cK (Mb c xs r)];exact r
   rcases hc with rfl|hc
   .exact yp
   .rintro rfl;rcases he with z|z
    .exact DO c b hc z
    .rw[hc] at z;cases z;exact hb rfl
end
structure Un (fs ex:List ah) (H H':Hp) (h h':cL):Prop where
 keep:∀b o,h.get? b=some o->H b=none->b∉fs->b∉ex->h'.get? b=some o
 slot:∀b o,h.get? b=some o->H b=none->b∈fs->b∉ex->∃sl,h'.get? b=some { o with slots:=sl}
 free:∀b o,h.get? b=some o->H b=none->b∉ex->H' b=none
 there:∀b o,h.get? b=some o->b∉ex->∃o',h'.get? b=some o'
 lA:∀b xs,H b=some (.tup xs)->H' b=some (.tup xs)
 ke:∀b o u,H b=some (.Y o u)->H' b=some (.Y o u)
 ly:∀b ps,H b=some (.y0 ps)->∃more,H' b=some (.y0 (ps++more))
section
variable{fs AO ex R':List ah}{H H1 H2:Hp}{h h1 h2 h':cL}{a x e:ah}{o:HO}
def Un.any(u:Un fs ex H H1 h h1){b:ah}{ob:Obj}(q:h.get? b=some ob)(n:H b=none)(hx:b∉ex):∃sl,h1.get? b=some { ob with slots:=sl}:=by
 by_cases hb:b∈fs
 .exact u.slot b ob q n hb hx
 .exact⟨ob.slots,u.keep b ob q n hb hx⟩
def Un.kept(k:∀b u,h.get? b=some u->h'.get? b=some u):Un fs ex H H h h':=
 ⟨λb ob q _ _ _=>k b ob q,λb ob q _ _ _=>⟨ob.slots,k b ob q⟩,λ_ _ _ n _=>n,λb ob q _=>⟨ob,k b ob q⟩,λ_ _ q=>q,λ_ _ _ q=>q,λ_ ps q=>⟨#[],by rw[q];simp⟩⟩
def Un.refl:Un fs ex H H h h:=Un.kept λ_ _ q=>q
def Un.laid(k:∀b u,h.get? b=some u->h'.get? b=some u)(hp:h.objs.size<=a)(hn:H a=none):Un fs ex H (upd H a o) h h' where
 keep:=λb u q _ _ _=>k b u q
 slot:=λb u q _ _ _=>⟨u.slots,k b u q⟩
 free:=λb u q n _=>by rw[cK (lY (iA (eV q) hp))];exact n
 there:=λb u q _=>⟨u,k b u q⟩
 lA:=λb xs q=>by rw[cK (mO q hn)];exact q
 ke:=λb u xs q=>by rw[cK (mO q hn)];exact q
 ly:=λb ps q=>⟨#[],by rw[cK (mO q hn),q];simp⟩
def Un.write(mu:Bz (H x))(he:e=x\/H e=some (.own x))(k:∀b u,b≠e->h.get? b=some u->h'.get? b=some u)(AV:∃u,h'.get? e=some u):Un fs ex H (upd H x o) h h':=by
 have hx:∀b,H b=none->b≠x:=λb n z=>by subst z;rw[n] at mu;exact mu
 have hb:∀b,H b=none->b≠e:=λb n z=>by
  subst z;rcases he with r|r
  .exact hx b n r
  .rw[n] at r;cases r
 have hm:∀b u,H b=some u->¬Bz (some u)->b≠x:=λb u q nm z=>by subst z;rw[q] at mu;exact nm mu
 refine⟨λb u q n _ _=>k b u (hb b n) q,λb u q n _ _=>⟨u.slots,k b u (hb b n) q⟩,λb u q n _=>by rw[cK (hx b n)];exact n,λb u q _=>?_,
  λb xs q=>by rw[cK (hm b _ q λz=>z)];exact q,λb u xs q=>by rw[cK (hm b _ q λz=>z)];exact q,λb ps q=>⟨#[],by rw[cK (hm b _ q λz=>z),q];simp⟩⟩
 by_cases yp:b=e
 .subst yp;exact AV
 .exact⟨u,k b u yp q⟩
end
noncomputable def Hz(h:cL)(H:Hp):List ah:=(List.range h.objs.size).filter λa=>(H a).isSome
def mQ(h:cL)(H:Hp):cL:=PySem.W.hideAll h (Hz h H)
def Ux(h:cL)(H:Hp):(mQ h H).objs.size=h.objs.size:=PySem.W.hideAll_size _ _
def VA{h:cL}{H:Hp}{b:ah}{o:Obj}(e:h.get? b=some o)(n:H b=none):(mQ h H).get? b=some o:=
 PySem.W.hideAll_get _ e λhm=>by
  have q:(H b).isSome=true:=(kG.mp hm).2;rw[n] at q;simp at q
def W_{h:cL}{H:Hp}{b:ah}{o:Obj}(e:(mQ h H).get? b=some o):h.get? b=some o/\H b=none:=by
 have e':h.get? b=some o:=PySem.W.of_hideAll (Hz h H) e;refine⟨e',?_⟩;cases q:H b with
 |none=>rfl
 |some x=>
  have hm:b∈Hz h H:=kG.mpr ⟨rf.mpr (eV e'),by simp[q]⟩
  have z:(mQ h H).get? b=none:=PySem.W.hideAll_none (Hz h H) hm;rw[z] at e;cases e
noncomputable def Xa(g h:cL)(L:ah):List (ah×Obj):=(List.range h.objs.size).filterMap λa=>if a=L\/(g.get? a).isSome=true then none else(h.get? a).map λo=>(a,o)
def rest(g h:cL)(L d:ah):List (ah×Obj):=(Xa g h L).filter λp=>decide (p.1≠d)
structure Mod (K:FG) (mg:Str->ai ao) (base:cL):Prop where
 Hk:K.In base
 glob:base.Ns mainGlobals mg
 blt:∃mb,base.Ns builtinsNs mb/\∀x:Str,x≠"__name__"->mb x=bootBuiltins x
 nolimit:base.NoLimit
set_option genInjectivity false in
structure Cx where
 prog:eW
 w:df
 K:FG
 mg:Str->ai ao
 base:cL
 A:dD
 N:List Str
 s₀:az
 H₀:Hp
 env:Env
 outer:List Env
 stack:List Env
 ex:List ah
 fn:Str->Bool
 calm:Bool
 pn:List (ah×Obj)
 xe:ao->az->Prop
noncomputable def kT(l:List Env):List ah:=l.filterMap (·.frame)
abbrev Cx.fs(X:Cx):List ah:=kT X.outer
def zh(sc:Scope)(x:Str):Prop:=sc.names.lookup x=some .local \/ sc.names.lookup x=some .cell\/sc.names.lookup x=some .free
def Loc(sc:Scope)(x:Str):Prop:=sc.names.lookup x=some .local \/ sc.names.lookup x=some .cell
def Look(env:Env)(h:cL)(m:Str->ai ao)(x:Str)(u:ao):Prop:=
 (env.kindOf x=some .local /\ m x=some u)\/((env.kindOf x=some .cell\/env.kindOf x=some .free)/\∃c,env.cells.lookup x=some c/\h.IsCell c (some u))
structure Cx.Ok (X:Cx):Prop where
 mod:Mod X.K X.mg X.base
 kind:X.env.scope.kind=.function
 glob:X.env.globals=mainGlobals
 blt:X.env.builtins=builtinsNs
 above:X.s₀.heap.objs.size<=X.env.locals
 inj:∀x y c,X.env.cells.lookup x=some c->X.env.cells.lookup y=some c->x=y
 has:∀x,(X.env.kindOf x=some .cell\/X.env.kindOf x=some .free)->∃c,X.env.cells.lookup x=some c
 uX:∀x c,X.fn x=true->X.env.cells.lookup x=some c->X.s₀.heap.objs.size<=c
 hd:X.calm=true->X.A.handled=none
 frames:X.A.frames=some X.stack
 w9:X.stack=X.outer\/(X.stack=X.env::X.outer/\X.env.frame=some X.env.locals)
 Am:∀b∈X.ex,b≠X.env.locals/\∀x c,X.env.cells.lookup x=some c->c≠b
 bs:∀b o,X.base.get? b=some o->X.s₀.heap.get? b=some o/\X.H₀ b=none
 rE:X.base.objs.size<=X.s₀.heap.objs.size
 mU:∀b o,X.base.get? b=some o->b∉X.ex
 nY:∀b∈X.ex,b∉X.fs
 jn:X.s₀.heap.FunFrames X.base X.outer
 uy:∀b∈X.fs,X.H₀ b=none
structure Inv (X:Cx) (aa:List (ah×Obj)) (Z:List (ai V)) (H:Hp) (s:az):Prop where
 ok:X.Ok
 os:s.os=X.s₀.os
 bare:AllBare s.gens
 base:Un X.fs X.ex X.H₀ H X.s₀.heap s.heap
 loc:∃m,s.heap.Ns X.env.locals m/\∀(i:Nat) (x:Str) (v:V),X.N[i]?=some x->Z[i]?=some (some v)->zh X.env.scope x->∃u,RelV v u/\Look X.env s.heap m x u
 cell:∀x c,X.env.cells.lookup x=some c->∃v,s.heap.IsCell c v
 free:H X.env.locals=none
 eY:∀x c,X.env.cells.lookup x=some c->H c=none
 pin:∀p∈X.pn++aa,s.heap.get? p.1=some p.2/\H p.1=none/\p.1≠X.env.locals/\p.1∉X.fs/\∀v,p.2.data≠.cell v
 cg:jZ X.prog X.w H s.heap
 len:Z.length=X.N.length
section
variable{X:Cx}{aa:List (ah×Obj)}{Z:List (ai V)}{H H':Hp}{s:az}{h':cL}
def Cx.Ok.Ma(ok:X.Ok){b:ah}{o:Obj}(e:X.base.get? b=some o):b∉X.fs:=λhb=>by
 have:=(ok.jn.mem hb).1;rw[e] at this;cases this
theorem Inv.bs(I:Inv X aa Z H s):∀b o,X.base.get? b=some o->s.heap.get? b=some o/\H b=none:=λb o e=>
 ⟨I.base.keep b o (I.ok.bs b o e).1 (I.ok.bs b o e).2 (I.ok.Ma e) (I.ok.mU b o e),I.base.free b o (I.ok.bs b o e).1 (I.ok.bs b o e).2 (I.ok.mU b o e)⟩
def Inv.bk(I:Inv X aa Z H s):∀b o,X.base.get? b=some o->s.heap.get? b=some o:=λb o e=>(I.bs b o e).1
theorem Inv.mod(I:Inv X aa Z H s):Mod X.K X.mg X.base:=I.ok.mod
def Inv.rH(I:Inv X aa Z H s):X.K.In s.heap:=I.ok.mod.Hk.keeps I.bk
theorem Inv.lt(I:Inv X aa Z H s):X.env.locals<s.heap.objs.size:=let ⟨_,hn,_⟩:=I.loc;hn.lt
def Inv.sz(I:Inv X aa Z H s):X.s₀.heap.objs.size<=s.heap.objs.size:=kH I.ok.above (MM I.lt)
def Inv.yI(I:Inv X aa Z H s){a:ah}(h:s.heap.objs.size<=a):a∉X.fs:=λhb=>by
 obtain⟨_,o,ho,_⟩:=I.ok.jn.mem hb;exact b_ (iA (eV ho) (kH I.sz h)) (mI _)
def Inv.u0(I:Inv X aa Z H s):∀x c,X.env.cells.lookup x=some c->c≠X.env.locals:=λx c e z=>by
 obtain⟨v,o,ho,hd⟩:=I.cell x c e;obtain⟨m,⟨o',es,ep,yw,Dp,_⟩,_⟩:=I.loc;rw[z,yw] at ho;cases ho;rw[Dp] at hd;cases hd
theorem Inv.jn(I:Inv X aa Z H s):s.heap.FunFrames X.base X.outer:=by
 have all:∀(l:List Env),(∀b∈kT l,b∈X.fs)->X.s₀.heap.FunFrames X.base l->s.heap.FunFrames X.base l:=by
  intro l
  induction l with
  |nil=>intro _ _;trivial
  |cons env r ih=>
   intro hs hl;obtain⟨hk,⟨L,o,hf,hn,ho,hd⟩,hr⟩:=hl;have hL:L∈X.fs:=hs L (by unfold kT;rw[HD,hf];exact qz)
   obtain⟨sl,e⟩:=I.base.slot L o ho (I.ok.uy L hL) hL λz=>I.ok.nY L z hL
   exact⟨hk,⟨L,_,hf,hn,e,hd⟩,ih (λb hb=>hs b (by unfold kT;rw[HD,hf];exact oZ _ hb)) hr⟩
 exact all X.outer (λ_ hb=>hb) I.ok.jn
def Inv.stack(I:Inv X aa Z H s):s.heap.FunFrames X.base X.stack:=by
 rcases I.ok.w9 with e|⟨e,hf⟩
 .rw[e];exact I.jn
 .rw[e];obtain⟨m,hn,_⟩:=I.loc;refine .cons (by rw[I.ok.kind];decide) hf hn ?_ I.jn
  exact Heap.get?_none_of_le (kH I.ok.rE I.ok.above)
def Inv.lj(I:Inv X aa Z H s):∀b∈kT X.stack,b∈X.env.locals::X.fs:=λb hb=>by
 rcases I.ok.w9 with e|⟨e,hf⟩
 .rw[e] at hb;exact oZ _ hb
 .rw[e] at hb;unfold kT at hb;rw[HD,hf] at hb;exact hb
def Inv.kF(I:Inv X aa Z H s):∀b∈kT X.stack,H b=none:=λb hb=>by
 rcases dR.mp (I.lj b hb) with e|hb
 .rw[e];exact I.free
 .obtain⟨_,o,ho,_⟩:=I.ok.jn.mem hb;exact I.base.free b o ho (I.ok.uy b hb) λz=>I.ok.nY b z hb
def Inv.step{g':Array GenState}{t':Nat}{d':Drawn}{ch:List ah}(I:Inv X aa Z H s)
  (lO:∀b∈ch,(b∈X.ex\/X.s₀.heap.objs.size<=b)/\b≠X.env.locals/\(∀x c,X.env.cells.lookup x=some c->c≠b)/\∀p∈X.pn++aa,p.1≠b)
  (keep:∀b o,b≠X.env.locals->b∉X.fs->b∉ch->s.heap.get? b=some o->H b=none->h'.get? b=some o)
  (slot:∀b o,b≠X.env.locals->b∈X.fs->b∉ch->s.heap.get? b=some o->H b=none->∃sl,h'.get? b=some { o with slots:=sl}) (free:∀b o,b∉ch->s.heap.get? b=some o->H b=none->H' b=none)
  (there:∀b o,b∉ch->s.heap.get? b=some o->∃o',h'.get? b=some o')
  (lA:∀b xs,H b=some (.tup xs)->H' b=some (.tup xs)) (ke:∀b o u,H b=some (.Y o u)->H' b=some (.Y o u)) (ly:∀b ps,H b=some (.y0 ps)->∃more,H' b=some (.y0 (ps++more)))
  (ns:∀m,s.heap.Ns X.env.locals m->h'.Ns X.env.locals m) (cg:jZ X.prog X.w H' h') (hg:AllBare g') :
  Inv X aa Z H' { s with heap:=h',gens:=g',drawn:=d',toks:=t'}:=by
 have SV:∀b o,X.s₀.heap.get? b=some o->b≠X.env.locals:=λb o e=>lY (iA (eV e) I.ok.above)
 have Hm:∀b o,X.s₀.heap.get? b=some o->b∉X.ex->b∉ch:=λb o e hx hb=>by
  rcases(lO b hb).1 with z|z
  .exact hx z
  .exact b_ (iA (eV e) z) (mI _)
 have cellK:∀x c,X.env.cells.lookup x=some c->∀v,s.heap.IsCell c v->h'.IsCell c v:=λx c e v ⟨o,ho,hd⟩=>by
  have vi:c∉ch:=λz=>(lO c z).2.2.1 x c e rfl
  by_cases hc:c∈X.fs
  .obtain⟨sl,q⟩:=slot c o (I.u0 x c e) hc vi ho (I.eY x c e);exact⟨_,q,hd⟩
  .exact⟨o,keep c o (I.u0 x c e) hc vi ho (I.eY x c e),hd⟩
 refine⟨I.ok,I.os,hg,⟨λb o e n hb hx=>?_,λb o e n hb hx=>?_,λb o e n hx=>?_,λb o e hx=>?_,λb xs e=>lA b xs (I.base.lA b xs e),λb o xs e=>ke b o xs (I.base.ke b o xs e),λb ps e=>?_⟩,?_,λx c e=>?_,?_,λx c e=>?_,λp hp=>?_,cg,I.len⟩
 .exact keep b o (SV b o e) hb (Hm b o e hx) (I.base.keep b o e n hb hx) (I.base.free b o e n hx)
 .obtain⟨sl,e1⟩:=I.base.slot b o e n hb hx;obtain⟨Ed,e2⟩:=slot b _ (SV b o e) hb (Hm b o e hx) e1 (I.base.free b o e n hx);exact⟨Ed,e2⟩
 .obtain⟨o',e1⟩:=I.base.there b o e hx;exact free b o' (Hm b o e hx) e1 (I.base.free b o e n hx)
 .obtain⟨o',e1⟩:=I.base.there b o e hx;exact there b o' (Hm b o e hx) e1
 .obtain⟨m1,e1⟩:=I.base.ly b ps e;obtain⟨m2,e2⟩:=ly b _ e1;exact⟨m1++m2,by rw[e2,Array.append_assoc]⟩
 .obtain⟨m,hn,hl⟩:=I.loc;refine⟨m,ns m hn,λi x v e1 e2 e3=>?_⟩
  obtain⟨u,r,l⟩:=hl i x v e1 e2 e3;refine⟨u,r,?_⟩;rcases l with l|⟨k,c,e,z⟩
  .exact .inl l
  .exact .inr ⟨k,c,e,cellK x c e _ z⟩
 .obtain⟨v,z⟩:=I.cell x c e;exact⟨v,cellK x c e v z⟩
 .obtain⟨m,⟨o,_,_,ho,_⟩,_⟩:=I.loc;exact free _ o (λz=>(lO _ z).2.1 rfl) ho I.free
 .obtain⟨v,o,ho,hd⟩:=I.cell x c e;exact free c o (λz=>(lO c z).2.2.1 x c e rfl) ho (I.eY x c e)
 .obtain⟨e,n,ne,nf,d⟩:=I.pin p hp;have vi:p.1∉ch:=λz=>(lO p.1 z).2.2.2 p hp rfl
  exact⟨keep p.1 p.2 ne nf vi e n,free p.1 p.2 vi e n,ne,nf,d⟩
def Inv.un{t':Nat}(I:Inv X aa Z H s)(u:Un X.fs [] H H' s.heap h')(cg:jZ X.prog X.w H' h'):Inv X aa Z H' { s with heap:=h',toks:=t'}:=by
 obtain⟨m,⟨o,es,ep,ho,r⟩,_⟩:=id I.loc;obtain⟨sl,hL⟩:=u.any ho I.free (by simp)
 exact I.step (g':=s.gens) (d':=s.drawn) (ch:=[]) (λ_ z=>nomatch z) (λb o _ hb _ e n=>u.keep b o e n hb (by simp)) (λb o _ hb _ e n=>u.slot b o e n hb (by simp)) (λb o _ e n=>u.free b o e n (by simp)) (λb o _ e=>u.there b o e (by simp)) u.lA u.ke u.ly (λm' hm=>by
  obtain⟨o',u5,GX,yw,r'⟩:=hm;rw[ho] at yw;cases yw;exact⟨_,u5,GX,hL,r'⟩) cg I.bare
def Inv.call{g':Array GenState}{t':Nat}{d':Drawn}{ch:List ah}(I:Inv X aa Z H s)(u:Un (kT X.stack) ch H H' s.heap h')(cg:jZ X.prog X.w H' h')(hg:AllBare g')
  (lO:∀b∈ch,(b∈X.ex\/X.s₀.heap.objs.size<=b)/\b≠X.env.locals/\(∀x c,X.env.cells.lookup x=some c->c≠b)/\∀p∈X.pn++aa,p.1≠b) :
  Inv X aa Z H' { s with heap:=h',gens:=g',drawn:=d',toks:=t'}:=by
 obtain⟨m,⟨o,es,ep,ho,r⟩,_⟩:=id I.loc;obtain⟨sl,hL⟩:=u.any ho I.free λz=>(lO _ z).2.1 rfl
 exact I.step (ch:=ch) lO (λb o hL hb hc e n=>u.keep b o e n (λz=>(dR.mp (I.lj b z)).elim hL hb) hc) (λb o _ _ hc e n=>u.any e n hc) (λb o hc e n=>u.free b o e n hc) (λb o hc e=>u.there b o e hc) u.lA u.ke u.ly (λm' hm=>by
  obtain⟨o',u5,GX,yw,r'⟩:=hm;rw[ho] at yw;cases yw;exact⟨_,u5,GX,hL,r'⟩) cg hg
def Inv.turned{t':Nat}{it:ah}(I:Inv X aa Z H s)(k:∀b o,b≠it->s.heap.get? b=some o->h'.get? b=some o)(hn:H it=none)(hL:it≠X.env.locals)
  (h1:it∈X.ex\/X.s₀.heap.objs.size<=it) (h2:∀x c,X.env.cells.lookup x=some c->c≠it) (h3:∀p∈X.pn++aa,p.1≠it):Inv X aa Z H { s with heap:=h',toks:=t'}:=by
 have SY:∀b u,H b=some u->b≠it:=λb u e z=>by rw[z,hn] at e;cases e
 refine I.step (g':=s.gens) (d':=s.drawn) (ch:=[it]) (λb hb=>?_) (λb o _ _ hc e _=>k b o (λz=>hc (by simp[z])) e) (λb o _ _ hc e _=>⟨o.slots,k b o (λz=>hc (by simp[z])) e⟩) (λ_ _ _ _ n=>n)
  (λb o hc e=>⟨o,k b o (λz=>hc (by simp[z])) e⟩) (λ_ _ e=>e) (λ_ _ _ e=>e) (λb ps e=>⟨#[],by rw[e];simp⟩) (λm hm=>?_) (λb u e=>?_) I.bare
 .have e:b=it:=by simpa using hb
  subst e;exact⟨h1,hL,h2,h3⟩
 .obtain⟨o,es,ep,ho,r⟩:=hm;exact⟨o,es,ep,k _ o (Ne.symm hL) ho,r⟩
 .refine(I.cg b u e).lh (λc v hc q=>k c v ?_ q) (λ_ q=>q) λ_ _ q=>q
  rcases hc with z|z
  .rw[z];exact SY b u e
  .exact SY c _ z
def Inv.tok(I:Inv X aa Z H s)(t:Nat):Inv X aa Z H { s with toks:=t}:=I.un (h':=s.heap) (t':=t) Un.refl I.cg
theorem Inv.kept{t':Nat}(I:Inv X aa Z H s)(k:∀b u,s.heap.get? b=some u->h'.get? b=some u):Inv X aa Z H { s with heap:=h',toks:=t'}:=I.un (Un.kept k) (I.cg.kept k)
theorem Inv.laid{a:ah}{o:HO}{t':Nat}(I:Inv X aa Z H s)(k:∀b u,s.heap.get? b=some u->h'.get? b=some u)(hp:s.heap.objs.size<=a)(new:cC X.prog X.w (upd H a o) h' a o):
  Inv X aa Z (upd H a o) { s with heap:=h',toks:=t'}:=I.un (Un.laid k hp (I.cg.fresh hp)) (I.cg.laid k hp new)
theorem Inv.write{x e:ah}{o:HO}{t':Nat}(I:Inv X aa Z H s)(mu:Bz (H x))(he:e=x\/H e=some (.own x))(k:∀b u,b≠e->s.heap.get? b=some u->h'.get? b=some u)(AV:∃u,h'.get? e=some u)
  (new:cC X.prog X.w (upd H x o) h' x o):Inv X aa Z (upd H x o) { s with heap:=h',toks:=t'}:=I.un (Un.write mu he k AV) (I.cg.write mu he k AV new)
def Inv.kD{ou:List (ah×Obj)}(I:Inv X aa Z H s)(h:∀p∈ou,s.heap.get? p.1=some p.2/\H p.1=none/\p.1≠X.env.locals/\p.1∉X.fs/\∀v,p.2.data≠.cell v):Inv X ou Z H s:=
 ⟨I.ok,I.os,I.bare,I.base,I.loc,I.cell,I.free,I.eY,λp hp=>(eR.mp hp).elim (λz=>I.pin p (jb _ z)) (h p),I.cg,I.len⟩
def IM{N:List Str}(hN:N.Nodup){i j:Nat}{x:Str}(a:N[i]?=some x)(b:N[j]?=some x):i=j:=by
 obtain⟨h1,e1⟩:=jX.mp a;obtain⟨h2,e2⟩:=jX.mp b;exact(List.getElem_inj hN).mp (e1.trans e2.symm)
def NL{M:Model}{A:dD}{E:ao->az->Prop}{i:Nat}{x:Str}{v:V}{u:ao}{Q:Unit->az->Prop}(I:Inv X aa Z H s)(hN:X.N.Nodup)(hi:X.N[i]?=some x)(hx:Loc X.env.scope x)(r:RelV v u)
  (h:∀s',Inv X aa (Z.set i (some v)) H s'->(∃a,Heap.SameBut a s.heap s'.heap/\(a=X.env.locals\/X.env.cells.lookup x=some a))->Q () s') (hf:X.fn x=true\/X.env.scope.names.lookup x=some .local := by first|exact .inl rfl|exact .inr rfl|assumption):wpAny M A (storeName X.env x u) Q E s:=by
 obtain⟨m,hn,hl⟩:=id I.loc;have qW:(X.env.scope.kind == .class || (X.env.scope.kind == .module&&X.env.locals != X.env.globals))=false:=by rw[I.ok.kind];rfl
 have Sq:i<Z.length:=by rw[I.len];exact(jX.mp hi).1
 have u0:=I.u0;have tracked:∀{a:ah} {h':cL},(∃o,s.heap.get? a=some o/\H a=none)->Heap.SameBut a s.heap h'->jZ X.prog X.w H h':=λ{a h'} ha hs b ob e=>by
  obtain⟨_,_,wF⟩:=ha;refine(I.cg b ob e).lh (λc w' hc q=>(hs.2 c ?_).trans q) (λ_ q=>q) λ_ _ q=>q
  rintro rfl;rcases hc with rfl|hc
  .rw[wF] at e;cases e
  .rw[wF] at hc;cases hc
 rcases hx with hk|hk
 .refine wpAny_storeName_local hk hn (λh' sI hs=>?_) qW
  obtain⟨oL,_,_,hoL,_⟩:=id hn;refine h _ ⟨I.ok,I.os,I.bare,⟨λb o e n hb hx=>?_,λb o e n hb hx=>?_,I.base.free,λb o e hx=>?_,I.base.lA,I.base.ke,I.base.ly⟩,⟨_,sI,λj y v' e1 e2 e3=>?_⟩,λy c e=>?_,I.free,I.eY,λp hp=>?_,tracked ⟨oL,hoL,I.free⟩ hs,by simpa using I.len⟩ ⟨_,hs,.inl rfl⟩
  .exact(hs.2 b (lY (iA (eV e) I.ok.above))).trans (I.base.keep b o e n hb hx)
  .obtain⟨sl,e1⟩:=I.base.slot b o e n hb hx;exact⟨sl,(hs.2 b (lY (iA (eV e) I.ok.above))).trans e1⟩
  .obtain⟨o',e1⟩:=I.base.there b o e hx;exact⟨o',(hs.2 b (lY (iA (eV e) I.ok.above))).trans e1⟩
  .by_cases hj:j=i
   .subst hj;rw[hi] at e1;cases e1;rw[MN Sq] at e2;cases e2;exact⟨u,r,.inl ⟨hk,by simp⟩⟩
   .rw[HE (Ne.symm hj)] at e2;obtain⟨u',r',q⟩:=hl j y v' e1 e2 e3;refine⟨u',r',?_⟩;rcases q with⟨k,e⟩|⟨k,c,e,z⟩
    .refine .inl ⟨k,?_⟩;have:y≠x:=λe=>hj (IM hN e1 (e ▸ hi))
     simp[this,e]
    .exact .inr ⟨k,c,e,z.sameBut hs (u0 y c e)⟩
  .obtain⟨w',z⟩:=I.cell y c e;exact⟨w',z.sameBut hs (u0 y c e)⟩
  .obtain⟨e,n,ne,nf,d⟩:=I.pin p hp;exact⟨(hs.2 p.1 ne).trans e,n,ne,nf,d⟩
 .have Lo:X.fn x=true:=by
   rcases hf with z|z
   .exact z
   .rw[z] at hk;cases hk
  obtain⟨c,hc⟩:=I.ok.has x (.inl hk);obtain⟨w',z⟩:=I.cell x c hc;refine wpAny_storeName_cell I.ok.kind hk hc z (λh' lS hs=>?_)
  obtain⟨oc,Sx,LC⟩:=id z;refine h { s with heap:=h'} ⟨I.ok,I.os,I.bare,⟨λb o e n hb hx=>?_,λb o e n hb hx=>?_,I.base.free,λb o e hx=>?_,I.base.lA,I.base.ke,I.base.ly⟩,⟨m,hn.sameBut hs (Ne.symm (u0 x c hc)),λj y v' e1 e2 e3=>?_⟩,λy c' e=>?_,I.free,I.eY,λp hp=>?_,tracked ⟨oc,Sx,I.eY x c hc⟩ hs,by simpa using I.len⟩ ⟨c,hs,.inr hc⟩
  .exact(hs.2 b (lY (iA (eV e) (I.ok.uX x c Lo hc)))).trans (I.base.keep b o e n hb hx)
  .obtain⟨sl,e1⟩:=I.base.slot b o e n hb hx;exact⟨sl,(hs.2 b (lY (iA (eV e) (I.ok.uX x c Lo hc)))).trans e1⟩
  .obtain⟨o',e1⟩:=I.base.there b o e hx;exact⟨o',(hs.2 b (lY (iA (eV e) (I.ok.uX x c Lo hc)))).trans e1⟩
  .by_cases hj:j=i
   .subst hj;rw[hi] at e1;cases e1;rw[MN Sq] at e2;cases e2;exact⟨u,r,.inr ⟨.inl hk,c,hc,lS⟩⟩
   .rw[HE (Ne.symm hj)] at e2;obtain⟨u',r',q⟩:=hl j y v' e1 e2 e3;refine⟨u',r',?_⟩;rcases q with q|⟨k,c',e,z'⟩
    .exact .inl q
    .refine .inr ⟨k,c',e,z'.sameBut hs ?_⟩;rintro rfl;exact hj (IM hN e1 (I.ok.inj _ _ _ e hc ▸ hi))
  .by_cases Sm:c'=c
   .subst Sm;exact⟨_,lS⟩
   .obtain⟨w2,z2⟩:=I.cell y c' e;exact⟨w2,z2.sameBut hs Sm⟩
  .obtain⟨e,n,ne,nf,d⟩:=I.pin p hp;refine⟨(hs.2 p.1 ?_).trans e,n,ne,nf,d⟩;intro q;rw[q,Sx] at e;have q':oc=p.2:=Option.some.inj e;exact d w' (by rw[<-q'];exact LC)
def Ff{M:Model}{A:dD}{E:ao->az->Prop}{i:Nat}{x:Str}{v:V}{u:ao}{Q:Unit->az->Prop}(I:Inv X aa Z H s)(hN:X.N.Nodup)(hi:X.N[i]?=some x)(hx:Loc X.env.scope x)(r:RelV v u)
  (h:∀s',Inv X aa (Z.set i (some v)) H s'->Q () s') (hf:X.fn x=true\/X.env.scope.names.lookup x=some .local := by first|exact .inl rfl|exact .inr rfl|assumption):wpAny M A (storeName X.env x u) Q E s:=
 NL I hN hi hx r (λs' I' _=>h s' I') hf
def Inv.wd{s':az}{ch:List ah}(I:Inv X aa Z H s)(ho:s'.os=s.os)(u:Un (kT X.stack) ch H H' s.heap s'.heap)(cg:jZ X.prog X.w H' s'.heap)(hg:AllBare s'.gens)
  (lO:∀b∈ch,(b∈X.ex\/X.s₀.heap.objs.size<=b)/\b≠X.env.locals/\(∀x c,X.env.cells.lookup x=some c->c≠b)/\∀p∈X.pn++aa,p.1≠b):Inv X aa Z H' s':=by
 obtain⟨h',g',d',t',o'⟩:=s';have e:o'=s.os:=ho;subst e;exact I.call (g':=g') (t':=t') (d':=d') u cg hg lO
end
abbrev XK:=ao->ai ah->Hp->Prop
abbrev St:=List (ai V)
abbrev VK:=V->Hp->Prop
abbrev TE:=St->Hp->VK->Prop
abbrev TT:=St->Hp->(Bool->Hp->Prop)->Prop
abbrev TA:=St->Hp->(List V->Hp->Prop)->Prop
set_option genInjectivity false in
structure Ends where
 nx:St->Hp->Prop
 rt:VK
 bk:St->Hp->Prop:=λ_ _=>False
 ct:St->Hp->Prop:=λ_ _=>False
abbrev TS:=Ends->St->Hp->Prop
def EP(X:Cx)(aa:List (ah×Obj))(Z:St)(Q:VK)(u:ao)(s':az):Prop:=∃v H',Inv X aa Z H' s'/\RelV v u/\Q v H'
def TP(X:Cx)(aa:List (ah×Obj))(Z:St)(Q:Bool->Hp->Prop)(b:Bool)(s':az):Prop:=∃H',Inv X aa Z H' s'/\Q b H'
def AP(X:Cx)(aa:List (ah×Obj))(Z:St)(Q:List V->Hp->Prop)(us:List ao)(s':az):Prop:=∃vs H',Inv X aa Z H' s'/\Vals vs us/\Q vs H'
def SP(X:Cx)(aa:List (ah×Obj))(D:Ends)(f:Flow)(s':az):Prop:=
 match f with
 |.next=>∃Z' H',Inv X aa Z' H' s'/\D.nx Z' H'
 |.brk=>∃Z' H',Inv X aa Z' H' s'/\D.bk Z' H'
 |.cont=>∃Z' H',Inv X aa Z' H' s'/\D.ct Z' H'
 |.ret u=>∃v Z' H',Inv X aa Z' H' s'/\RelV v u/\D.rt v H'
def PE(X:Cx)(e:Expr)(t:TE):Prop:=
 ∀(aa:List (ah×Obj)) (s:az) (Z:St) (H:Hp) (Q:VK),Inv X aa Z H s->t Z H Q->wpAny (model X.prog X.w) X.A (eval e X.env) (EP X aa Z Q) X.xe s
def PT(X:Cx)(e:Expr)(t:TT):Prop:=
 ∀(aa:List (ah×Obj)) (s:az) (Z:St) (H:Hp) (Q:Bool->Hp->Prop),Inv X aa Z H s->t Z H Q->wpAny (model X.prog X.w) X.A (isTrue e X.env (eval e X.env)) (TP X aa Z Q) X.xe s
def PW(X:Cx)(e:Expr)(t:TT):Prop:=
 ∀(whole:Sem ao) (aa:List (ah×Obj)) (s:az) (Z:St) (H:Hp) (Q:Bool->Hp->Prop),Inv X aa Z H s->t Z H Q->wpAny (model X.prog X.w) X.A (isTrue e X.env whole) (TP X aa Z Q) X.xe s
def PW.pt{X:Cx}{e:Expr}{t:TT}(h:PW X e t):PT X e t:=h _
def PA(X:Cx)(es:List Expr)(t:TA):Prop:=
 ∀(pos:Pos) (aa:List (ah×Obj)) (s:az) (Z:St) (H:Hp) (Q:List V->Hp->Prop),Inv X aa Z H s->t Z H Q->wpAny (model X.prog X.w) X.A (spliced (backTo pos (starEach es X.env))) (AP X aa Z Q) X.xe s
def PS(X:Cx)(st:Stmt)(t:TS):Prop:=
 ∀(aa:List (ah×Obj)) (s:az) (Z:St) (H:Hp) (D:Ends),Inv X aa Z H s->t D Z H->wpAny (model X.prog X.w) X.A (exec st X.env) (SP X aa D) X.xe s
def gR(X:Cx)(st:List Stmt)(t:TS):Prop:=
 ∀(aa:List (ah×Obj)) (s:az) (Z:St) (H:Hp) (D:Ends),Inv X aa Z H s->t D Z H->wpAny (model X.prog X.w) X.A (execs st X.env) (SP X aa D) X.xe s
def cR{α:Type}{t:Sem α}{Q Q':α->az->Prop}{M:Model}{A:dD}{E:ao->az->Prop}{s:az}(h:wpAny M A t Q E s)(hQ:∀a s,Q a s->Q' a s):wpAny M A t Q' E s:=wpAny_mono h hQ λ_ _ x=>x
section
variable{X:Cx}
def ra(i:Nat):TE:=λZ H Q=>∃v,Z[i]?=some (some v)/\Q v H
def tC(v:V):TE:=λ_ H Q=>Q v H
def Y0{i:Nat}{x:Str}{pos:Pos}(hN:X.N[i]?=some x)(hv:zh X.env.scope x)(hd:(x == ("__debug__":Str))=false:=by decide)(pD:(x == ("__classdict__":Str))=false:=by decide):PE X (.Name x pos) (ra i):=by
 intro aa s Z H Q I h;obtain⟨v,e,h⟩:=h;obtain⟨m,hn,hl⟩:=I.loc;obtain⟨u,r,l⟩:=hl i x v hN e hv;have fin:EP X aa Z Q u s:=⟨v,H,I,r,h⟩;rcases l with⟨hk,hm⟩|⟨hk,c,hc,mr⟩
 .exact wpAny_Name (wpAny_loadName_local I.ok.kind hk hn hm fin) hd
 .rcases hk with hk|hk
  .exact wpAny_Name (wpAny_loadName_cell I.ok.kind hk hc mr fin) hd
  .exact wpAny_Name (wpAny_loadName_free I.ok.kind hk hc mr fin pD) hd
def Ge{i j pos}:PE X (.Constant (.int i) j pos) (tC (.int i)):=λ_ _ _ H _ I h=>wpAny_Constant_int ⟨.int i,H,I.tok _,⟨_,rfl⟩,h⟩
def rD{b j pos}:PE X (.Constant (.bool b) j pos) (tC (.bl b)):=λ_ _ _ H _ I h=>Constant_bool ⟨.bl b,H,I,rfl,h⟩
def xS{j pos}:PE X (.Constant .none j pos) (tC .bh):=λ_ _ _ H _ I h=>Constant_none ⟨.bh,H,I,rfl,h⟩
def rT{x j pos}:PE X (.Constant (.str x) j pos) (tC (.str x)):=λ_ _ _ H _ I h=>Calls.Constant_str ⟨.str x,H,I.tok _,⟨_,rfl⟩,h⟩
def Gl(X:Cx)(x:Str):Prop:=X.env.kindOf x=some .globalImplicit
def FE{E:ao->az->Prop}{aa:List (ah×Obj)}{s:az}{Z:St}{H:Hp}{x:Str}{u:ao}{pos:Pos}{Q:ao->az->Prop}(I:Inv X aa Z H s)(hg:Gl X x)(hm:X.mg x=some u)(h:Q u s)
  (hd:(x == ("__debug__":Str))=false:=by decide):wpAny (model X.prog X.w) X.A (eval (.Name x pos) X.env) Q E s:=
 Calls.Name_function_global I.ok.kind hg (Calls.loadGlobal_global (by rw[I.ok.glob];exact I.mod.glob.keeps I.bk) hm h) hd
def xT{E:ao->az->Prop}{aa:List (ah×Obj)}{s:az}{Z:St}{H:Hp}{x:Str}{u:ao}{pos:Pos}{Q:ao->az->Prop}(I:Inv X aa Z H s)(hg:Gl X x)(hm:X.mg x=none)(hv:bootBuiltins x=some u)(h:Q u s)
  (hn:x≠"__name__":=by decide) (hd:(x == ("__debug__":Str))=false:=by decide):wpAny (model X.prog X.w) X.A (eval (.Name x pos) X.env) Q E s:=by
 obtain⟨mb,h1,h2⟩:=I.mod.blt;exact Calls.Name_function_global I.ok.kind hg (Calls.loadGlobal_builtin (by rw[I.ok.glob];exact I.mod.glob.keeps I.bk) hm (by rw[I.ok.blt];exact h1.keeps I.bk) ((h2 x hn).trans hv) h) hd
def Jt{x:Str}{v:V}{u:ao}{pos:Pos}(hg:Gl X x)(hm:X.mg x=some u)(r:RelV v u)(hd:(x == ("__debug__":Str))=false:=by decide):PE X (.Name x pos) (tC v):=
 λ_ _ _ H _ I h=>FE I hg hm ⟨v,H,I,r,h⟩ hd
def Pa{x:Str}{v:V}{u:ao}{pos:Pos}(hg:Gl X x)(hm:X.mg x=none)(hv:bootBuiltins x=some u)(r:RelV v u)(hn:x≠"__name__":=by decide)(hd:(x == ("__debug__":Str))=false:=by decide):PE X (.Name x pos) (tC v):=
 λ_ _ _ H _ I h=>xT I hg hm hv ⟨v,H,I,r,h⟩ hn hd
variable{a b:Expr}{ta tb:TE}{pos:Pos}
def tB(t:TE):TT:=λZ H Q=>t Z H λx H1=>∃c,x=.bl c/\Q c H1
variable{tA Hu:TT}{rest:List Expr}
def Mr(t u:TT):TT:=λZ H Q=>t Z H λc H1=>if c=true then u Z H1 Q else Q false H1
def tOr(t u:TT):TT:=λZ H Q=>t Z H λc H1=>if c=true then Q true H1 else u Z H1 Q
def Mz(t:TT):TT:=λZ H Q=>t Z H λc H1=>Q (!c) H1
def Xb(ha:PT X a tA):PW X (.BoolOp .And [a] pos) tA:=by
 intro wh aa s Z H Q I h;refine isTrue_and (cR (ha aa s Z H Q I h) λc s1 e=>?_)
 cases c with
 |true=>exact isTrue_and_nil e
 |false=>exact e
def Y1(ha:PT X a tA):PW X (.BoolOp .Or [a] pos) tA:=by
 intro wh aa s Z H Q I h;refine isTrue_or (cR (ha aa s Z H Q I h) λc s1 e=>?_)
 cases c with
 |false=>exact isTrue_or_nil e
 |true=>exact e
def Y2(ha:PT X a tA)(hb:PW X (.BoolOp .And (b::rest) pos) Hu):PW X (.BoolOp .And (a::b::rest) pos) (Mr tA Hu):=by
 intro wh aa s Z H Q I h;refine isTrue_and (cR (ha aa s Z H _ I h) λc s1 hh=>?_)
 obtain⟨H1,I1,q1⟩:=hh;cases c with
 |true=>exact hb wh aa s1 Z H1 Q I1 q1
 |false=>exact⟨H1,I1,q1⟩
def σ(ha:PT X a tA)(hb:PW X (.BoolOp .Or (b::rest) pos) Hu):PW X (.BoolOp .Or (a::b::rest) pos) (tOr tA Hu):=by
 intro wh aa s Z H Q I h;refine isTrue_or (cR (ha aa s Z H _ I h) λc s1 hh=>?_)
 obtain⟨H1,I1,q1⟩:=hh;cases c with
 |true=>exact⟨H1,I1,q1⟩
 |false=>exact hb wh aa s1 Z H1 Q I1 q1
def Y3(ha:PT X a tA):PT X (.UnaryOp .Not a pos) (Mz tA):=by
 intro aa s Z H Q I h;exact isTrue_not (ha aa s Z H (λc H1=>Q (!c) H1) I h)
def tIf(t:TT)(ta tb:TE):TE:=λZ H Q=>t Z H λc H1=>if c=true then ta Z H1 Q else tb Z H1 Q
def VB{c:Expr}(hc:PT X c tA)(ha:PE X a ta)(hb:PE X b tb):PE X (.IfExp c a b pos) (tIf tA ta tb):=by
 intro aa s Z H Q I h;refine wpAny_IfExp (cR (hc aa s Z H _ I h) λd s1 hh=>?_)
 obtain⟨H1,I1,q1⟩:=hh;cases d with
 |true=>exact ha aa s1 Z H1 Q I1 q1
 |false=>exact hb aa s1 Z H1 Q I1 q1
end
def dH(K:FG)(H:Hp)(a:ah)(xs:List V):Prop:=
 Rd H a (.lst xs)\/
  ∃(o:Obj) (aH:Array ao) (n:Nat),K.lookup a=some o/\o.cls=.type "list"/\o.dict=none/\o.data=.seq aH n/\aH.size<=sizeLine/\Vals xs aH.toList
def gY(K:FG)(H:Hp)(a:ah)(xs:List V):Prop:=
 Rd H a (.tup xs)\/
  ∃(o:Obj) (aH:Array ao) (n:Nat),K.lookup a=some o/\o.cls=.type "tuple"/\o.data=.seq aH n/\aH.size<=sizeLine/\Vals xs aH.toList
noncomputable def Ij:ao->ai V
 |.none=>some .bh
 |.bool b=>some (.bl b)
 |.int i _=>some (.int i)
 |.str x _=>some (.str x)
 |.bytes b _=>some (.z_ b)
 |.float b _=>some (.AN b)
 |.ref a=>some (.ref a)
 |.type n=>some (.ty n)
 |_=>none
def RelV.abs{x:V}{u:ao}(r:RelV x u):Ij u=some x:=by
 cases x with
 |bh=>cases r;rfl
 |bl _=>cases r;rfl
 |int _=>obtain⟨t,rfl⟩:=r;rfl
 |str _=>obtain⟨t,rfl⟩:=r;rfl
 |z_ _=>obtain⟨t,rfl⟩:=r;rfl
 |AN _=>obtain⟨t,rfl⟩:=r;rfl
 |ref _=>cases r;rfl
 |ty _=>cases r;rfl
theorem RelV.inj{x y:V}{u:ao}(r:RelV x u)(q:RelV y u):x=y:=Option.some.inj (r.abs.symm.trans q.abs)
theorem Vals.inj{xs ys:List V}{us:List ao}(h:Vals xs us)(h':Vals ys us):xs=ys:=by
 induction h generalizing ys with
 |nil=>cases h';rfl
 |cons r t ih=>
  cases h' with
  |cons r' t'=>rw[r.inj r',ih t']
section
variable{X:Cx}{aa:List (ah×Obj)}{Z:St}{H:Hp}{s:az}{a:ah}{xs ys:List V}
def dH.of{K:FG}(h:H a=some (.lst xs)):dH K H a xs:=.inl (.inl h)
def gY.of{K:FG}(h:H a=some (.tup xs)):gY K H a xs:=.inl (.inl h)
def Inv.list(I:Inv X aa Z H s)(h:dH X.K H a xs):∃aH:List ao,Vals xs aH/\PlainL s.heap a aH.toArray/\xs.length<=sizeLine:=by
 rcases h with h|⟨o,aH,n,hk,hc,hd,hs,hz,r⟩
 .obtain⟨z,aH,n,r,e⟩:=h.ok I.cg;exact⟨aH,r,⟨_,n,e,rfl,rfl,rfl⟩,z⟩
 .refine⟨aH.toList,r,⟨o,n,I.rH a o hk,hc,hd,by simpa using hs⟩,?_⟩
  have e:=r.length;simp only[Array.length_toList] at e;lia
def Inv.tuple(I:Inv X aa Z H s)(h:gY X.K H a xs):∃aH:List ao,Vals xs aH/\IsTup s.heap a aH.toArray/\xs.length<=sizeLine:=by
 rcases h with h|⟨o,aH,n,hk,hc,hs,hz,r⟩
 .obtain⟨z,aH,r,p⟩:=h.ok I.cg;exact⟨aH,r,p,z⟩
 .refine⟨aH.toList,r,⟨o,I.rH a o hk,hc,n,by simpa using hs⟩,?_⟩
  have e:=r.length;simp only[Array.length_toList] at e;lia
def Inv.kW(I:Inv X aa Z H s)(h:dH X.K H a xs)(h':dH X.K H a ys):xs=ys:=by
 obtain⟨aH,r,⟨o,n,e,_,_,d⟩,_⟩:=I.list h;obtain⟨its',r',⟨o',n',e',_,_,d'⟩,_⟩:=I.list h';rw[e] at e';cases e';rw[d] at d';injection d' with d1 _;have:aH=its':=by simpa using congrArg Array.toList d1
 subst this;exact r.inj r'
def Inv.mH(I:Inv X aa Z H s)(h:gY X.K H a xs)(h':gY X.K H a ys):xs=ys:=by
 obtain⟨aH,r,⟨o,e,_,n,d⟩,_⟩:=I.tuple h;obtain⟨its',r',⟨o',e',_,n',d'⟩,_⟩:=I.tuple h';rw[e] at e';cases e';rw[d] at d';injection d' with d1 _;have:aH=its':=by simpa using congrArg Array.toList d1
 subst this;exact r.inj r'
end
noncomputable abbrev Cx.lX(X:Cx)(E:ao->az->Prop):Cx:={ X with xe:=E}
abbrev Cx.Bc(X:Cx):Cx:=X.lX λ_ _=>False
def Cx.Ok.lX{X:Cx}(ok:X.Ok)(E:ao->az->Prop):(X.lX E).Ok:=
 ⟨ok.mod,ok.kind,ok.glob,ok.blt,ok.above,ok.inj,ok.has,ok.uX,ok.hd,ok.frames,ok.w9,ok.Am,ok.bs,ok.rE,ok.mU,ok.nY,ok.jn,ok.uy⟩
def Cx.Ok.iN{X:Cx}{E:ao->az->Prop}(ok:(X.lX E).Ok):X.Ok:=
 ⟨ok.mod,ok.kind,ok.glob,ok.blt,ok.above,ok.inj,ok.has,ok.uX,ok.hd,ok.frames,ok.w9,ok.Am,ok.bs,ok.rE,ok.mU,ok.nY,ok.jn,ok.uy⟩
section
variable{X:Cx}{aa:List (ah×Obj)}{Z:St}{H:Hp}{s:az}{E:ao->az->Prop}
theorem Inv.lX(I:Inv X aa Z H s)(E:ao->az->Prop):Inv (X.lX E) aa Z H s:=⟨I.ok.lX E,I.os,I.bare,I.base,I.loc,I.cell,I.free,I.eY,I.pin,I.cg,I.len⟩
theorem Inv.iN(I:Inv (X.lX E) aa Z H s):Inv X aa Z H s:=⟨I.ok.iN,I.os,I.bare,I.base,I.loc,I.cell,I.free,I.eY,I.pin,I.cg,I.len⟩
theorem SP.iN{D:Ends}{f:Flow}{s':az}(h:SP (X.lX E) aa D f s'):SP X aa D f s':=by
 cases f with
 |next=>obtain⟨Z',H',I,q⟩:=h;exact⟨Z',H',I.iN,q⟩
 |brk=>obtain⟨Z',H',I,q⟩:=h;exact⟨Z',H',I.iN,q⟩
 |cont=>obtain⟨Z',H',I,q⟩:=h;exact⟨Z',H',I.iN,q⟩
 |ret u=>obtain⟨v,Z',H',I,r,q⟩:=h;exact⟨v,Z',H',I.iN,r,q⟩
def gR.Bc{st:List Stmt}{t:TS}(h:gR X.Bc st t):gR X st t:=λaa s Z H D I hw=>
 wpAny_mono (h aa s Z H D (I.lX _) hw) (λ_ _ q=>q.iN) λ_ _ z=>False.elim z
end
section
variable{X:Cx}{st:Stmt}{rest:List Stmt}{t u:TS}{e:Expr}{te:TE}{pos:Pos}
def Ek:TS:=λD Z H=>D.nx Z H
def MB(t u:TS):TS:=λD Z H=>t { D with nx:=u D} Z H
def qu:gR X [] Ek:=λ_ _ Z H _ I h=>wpAny_execs_nil ⟨Z,H,I,h⟩
def VD(h1:PS X st t)(h2:gR X rest u):gR X (st::rest) (MB t u):=by
 intro aa s Z H D I h;refine wpAny_execs_cons (cR (h1 aa s Z H { D with nx:=u D} I h) λf s1 q=>?_)
 cases f with
 |next=>
  obtain⟨Z',H',I',q⟩:=q;exact h2 aa s1 Z' H' D I' q
 |ret v=>exact q
 |brk=>exact q
 |cont=>exact q
def Xc(h1:PS X st t):gR X [st] t:=by
 intro aa s Z H D I h;refine wpAny_execs_cons (cR (h1 aa s Z H D I h) λf s1 q=>?_)
 cases f with
 |next=>exact wpAny_execs_nil q
 |ret v=>exact q
 |brk=>exact q
 |cont=>exact q
def Inv.quiet{aa:List (ah×Obj)}{Z:St}{H:Hp}{s:az}(I:Inv X aa Z H s):interactive X.env=false:=by simp[interactive,I.ok.kind]
def Ei(te:TE):TS:=λD Z H=>te Z H λ_ H1=>D.nx Z H1
def Pb(he:PE X e te)(hs:swapsWith e none pos.line X.env=pure false:=by rfl):PS X (.Expr e pos) (Ei te):=by
 intro aa s Z H D I h;exact wpAny_Expr_any (cR (he aa s Z H _ I h) λv s1 ⟨x,H1,I1,r1,q1⟩=>⟨Z,H1,I1,q1⟩) I.quiet hs
def MA(te:TE):TS:=λD Z H=>te Z H D.rt
def QI(he:PE X e te):PS X (.Return (some e) pos) (MA te):=by
 intro aa s Z H D I h;exact wpAny_Return_some (cR (he aa s Z H _ I h) λv s1 ⟨x,H1,I1,r1,q1⟩=>⟨x,Z,H1,I1,r1,q1⟩)
def Mw(c:TT)(t u:TS):TS:=λD Z H=>c Z H λb H1=>if b=true then t D Z H1 else u D Z H1
def υ{c:Expr}{a b:List Stmt}{tc:TT}(hc:PT X c tc)(ha:gR X a t)(hb:gR X b u):PS X (.If c a b pos) (Mw tc t u):=by
 intro aa s Z H D I h;refine wpAny_If (cR (hc aa s Z H _ I h) λd s1 hh=>?_)
 obtain⟨H1,I1,q1⟩:=hh;cases d with
 |true=>exact ha aa s1 Z H1 D I1 q1
 |false=>exact hb aa s1 Z H1 D I1 q1
end
abbrev TG:=V->St->Hp->(St->Hp->Prop)->Prop
abbrev t6:=List V->St->Hp->(St->Hp->Prop)->Prop
def PG(X:Cx)(target:Expr)(t:TG):Prop:=
 ∀(aa:List (ah×Obj)) (s:az) (Z:St) (H:Hp) (v:V) (u:ao) (Q:St->Hp->Prop),Inv X aa Z H s->RelV v u->t v Z H Q->
  wpAny (model X.prog X.w) X.A (assign target X.env u) (λ_ s'=>∃Z' H',Inv X aa Z' H' s'/\Q Z' H') X.xe s
def EM(X:Cx)(ts:List Expr)(t:t6):Prop:=
 ∀(aa:List (ah×Obj)) (s:az) (Z:St) (H:Hp) (vs:List V) (us:List ao) (Q:St->Hp->Prop),Inv X aa Z H s->Vals vs us->t vs Z H Q->
  wpAny (model X.prog X.w) X.A (assignInOrder ((assignEach ts X.env).map (·.2)) us) (λ_ s'=>∃Z' H',Inv X aa Z' H' s'/\Q Z' H') X.xe s
abbrev qH:=V->V->V->Hp->(Hp->Prop)->Prop
def uI(X:Cx)(t:qH):Prop:=
 ∀(aa:List (ah×Obj)) (s:az) (Z:St) (H:Hp) (o i v:V) (ov iv u:ao) (Q:Hp->Prop),Inv X aa Z H s->RelV o ov->RelV i iv->RelV v u->t o i v H Q->
  wpAny (model X.prog X.w) X.A (setItem ov iv u) (λ_ s'=>∃H',Inv X aa Z H' s'/\Q H') X.xe s
abbrev zg:=V->V->Hp->VK->Prop
def zf(X:Cx)(op:Operator)(t:zg):Prop:=
 ∀(aa:List (ah×Obj)) (s:az) (Z:St) (H:Hp) (x y:V) (v u:ao) (Q:VK),Inv X aa Z H s->RelV x v->RelV y u->t x y H Q->
  wpAny (model X.prog X.w) X.A (inplaceOp op v u) (EP X aa Z Q) X.xe s
section
variable{X:Cx}{pos:Pos}
def sg(i:Nat):TG:=λv Z H Q=>Q (Z.set i (some v)) H
def fw{i:Nat}{x:Str}(hN:X.N.Nodup)(hi:X.N[i]?=some x)(hx:Loc X.env.scope x)(hf:X.fn x=true\/X.env.scope.names.lookup x=some .local := by first|exact .inl rfl|exact .inr rfl|assumption):PG X (.Name x pos) (sg i):=by
 intro aa s Z H v u Q I r h;exact wpAny_assign_Name (Ff I hN hi hx r (λs' I'=>⟨_,H,I',h⟩) hf)
def Dd:t6:=λvs Z H Q=>vs=[]/\Q Z H
def wC(t:TG)(u:t6):t6:=λvs Z H Q=>∃v r,vs=v::r/\t v Z H λZ' H'=>u r Z' H' Q
def zE:EM X [] Dd:=by
 intro aa s Z H vs us Q I r h;obtain⟨e,h⟩:=h;subst e;cases r;exact assignInOrder_nil ⟨Z,H,I,h⟩
def l6{e:Expr}{es:List Expr}{t:TG}{u:t6}(h1:PG X e t)(h2:EM X es u)
  (hs:(assignEach (e::es) X.env).map (·.2)=assign e X.env::(assignEach es X.env).map (·.2):=by rfl):EM X (e::es) (wC t u):=by
 intro aa s Z H vs us Q I r h;obtain⟨v,vr,e1,h⟩:=h;subst e1;cases r with
 |cons r rr=>
  rw[hs];refine assignInOrder_cons (cR (h1 aa s Z H _ _ _ I r h) λ_ s1 hh=>?_)
  obtain⟨Z1,H1,I1,q1⟩:=hh;exact h2 aa s1 Z1 H1 _ _ Q I1 rr q1
def Df(K:FG)(n:Nat)(t:t6):TG:=λv Z H Q=>∃a xs,v=.ref a/\gY K H a xs/\xs.length=n/\t xs Z H Q
def zO{es:List Expr}{k:Nat}{t:t6}{n:Nat}(hc:X.calm=true)(h:EM X es t)
  (hn:(assignEach es X.env).length=n:=by rfl) (kg:(assignEach es X.env).findIdx? (·.1)=none:=by rfl):PG X (.Tuple es k pos) (Df X.K n t):=by
 intro aa s Z H v u Q I r hw;obtain⟨a,xs,e1,hq,hl,hw⟩:=hw;subst e1;cases r;obtain⟨aH,rv,ht,hz⟩:=I.tuple hq;refine assign_Tuple_tuple (I.ok.hd hc) ht (by simp[hn,<-hl,rv.length]) kg λh' hx=>?_
 have I1:Inv X aa Z H { s with heap:=h'}:=I.kept (t':=s.toks) λb o e=>hx b o (lY (eV e)) e
 exact h aa _ Z H xs _ Q I1 (by simpa using rv) hw
def Le(to ti:TE)(t:qH):TG:=λv Z H Q=>to Z H λo H1=>ti Z H1 λi H2=>t o i v H2 λH3=>Q Z H3
def QJ{o i:Expr}{to ti:TE}{t:qH}(ho:PE X o to)(hi:PE X i ti)(hs:uI X t)
  (ha:∀v,assign (.Subscript o i pos) X.env v=(do
   let ov <-holding [v] (eval o X.env)
   let iv <-holding [v,ov] (eval i X.env)
   standAt pos
   holding [v,ov,iv] (setItem ov iv v)
   release [v,ov,iv] []):=by intro _;rfl):PG X (.Subscript o i pos) (Le to ti t):=by
 intro aa s Z H v u Q I r h;rw[ha];refine aK (nk (cR (ho aa s Z H _ I h) λov s1 hh=>?_))
 obtain⟨x,H1,I1,r1,q1⟩:=hh;refine aK (nk (cR (hi aa s1 Z H1 _ I1 q1) λiv s2 hh=>?_))
 obtain⟨y,H2,I2,r2,q2⟩:=hh;refine aK (wpAny_standAt (aK (nk (cR (hs aa s2 Z H2 x y v ov iv u _ I2 r1 r2 r q2) λ_ s3 hh=>?_))))
 obtain⟨H3,I3,q3⟩:=hh;exact wpAny_release ⟨Z,H3,I3,q3⟩
def Eg(te:TE)(g:TG):TS:=λD Z H=>te Z H λx H1=>g x Z H1 D.nx
def J0{tg e:Expr}{te:TE}{g:TG}(he:PE X e te)(hg:PG X tg g)(hs:swapsWithSole [tg] e pos.line X.env=pure false:=by rfl)(hw:swappedStores [tg] e X.env=pure none:=by rfl)
  (h1:(assignEach [tg] X.env).map (·.2)=[assign tg X.env]:=by rfl):PS X (.Assign [tg] e pos) (Eg te g):=by
 intro aa s Z H D I h;refine wpAny_Assign_stores (cR (he aa s Z H _ I h) λv s1 hh=>?_) hs hw
 obtain⟨x,H1,I1,r1,q1⟩:=hh;rw[h1];exact cR (hg aa s1 Z H1 x v _ I1 r1 q1) λ_ s2 q=>q
def QK{i:Nat}{x:Str}{e:Expr}{te:TE}{pos':Pos}(hN:X.N.Nodup)(hi:X.N[i]?=some x)(hx:Loc X.env.scope x)(he:PE X e te)(hs:swapsWith e (some (.Name x pos')) pos.line X.env=pure false:=by rfl)(hf:X.fn x=true\/X.env.scope.names.lookup x=some .local := by first|exact .inl rfl|exact .inr rfl|assumption):
  PS X (.Assign [.Name x pos'] e pos) (Eg te (sg i)):=by
 intro aa s Z H D I h;refine wpAny_Assign_Name (cR (he aa s Z H _ I h) λv s1 hh=>?_) hs
 obtain⟨y,H1,I1,r1,q1⟩:=hh;exact Ff I1 hN hi hx r1 (λs2 I2=>⟨_,H1,I2,q1⟩) hf
def Ms(i:Nat)(te:TE)(ti:zg):TS:=λD Z H=>∃x,Z[i]?=some (some x)/\te Z H λy H1=>ti x y H1 λz H2=>D.nx (Z.set i (some z)) H2
def Y4{i:Nat}{x:Str}{e:Expr}{te:TE}{op:Operator}{ti:zg}{pos':Pos}(hN:X.N.Nodup)(hi:X.N[i]?=some x)(hx:Loc X.env.scope x)(he:PE X e te)(ho:zf X op ti)(hf:X.fn x=true\/X.env.scope.names.lookup x=some .local := by first|exact .inl rfl|exact .inr rfl|assumption):
  PS X (.AugAssign (.Name x pos') op e pos) (Ms i te ti):=by
 intro aa s Z H D I h;obtain⟨v,e1,h⟩:=h;obtain⟨m,hn,hl⟩:=I.loc;have vis:zh X.env.scope x:=by rcases hx with k|k;exact .inl k;exact .inr (.inl k)
 obtain⟨u,r,l⟩:=hl i x v hi e1 vis;refine wpAny_AugAssign_Name ?_;have go:wpAny (model X.prog X.w) X.A (eval e X.env) (λw s₂=>wpAny (model X.prog X.w) X.A (inplaceOp op u w) (λr s₃=>wpAny (model X.prog X.w) X.A (storeName X.env x r) (λ_=>SP X aa D .next) X.xe s₃) X.xe s₂) X.xe s:=by
  refine cR (he aa s Z H _ I h) λw s1 hh=>?_
  obtain⟨y,H1,I1,r1,q1⟩:=hh;refine cR (ho aa s1 Z H1 v y u w _ I1 r r1 q1) λz s2 hh=>?_
  obtain⟨zv,H2,I2,r2,q2⟩:=hh;exact Ff I2 hN hi hx r2 (λs3 I3=>⟨_,H2,I3,q2⟩) hf
 rcases l with⟨hk,hm⟩|⟨hk,c,hc,mr⟩
 .exact wpAny_loadName_local I.ok.kind hk hn hm go
 .rcases hk with hk|hk
  .exact wpAny_loadName_cell I.ok.kind hk hc mr go
  .rcases hx with k|k
   .have:X.env.scope.names.lookup x=some .free:=hk;rw[k] at this;cases this
   .have:X.env.scope.names.lookup x=some .free:=hk;rw[k] at this;cases this
def Eh(to ti te:TE)(vD:V->V->Hp->VK->Prop)(Hx:zg)(vE:qH):TS:=λD Z H=>to Z H λo H1=>ti Z H1 λi H2=>vD o i H2 λx H3=>te Z H3 λy H4=>Hx x y H4 λz H5=>vE o i z H5 λH6=>D.nx Z H6
def BA(X:Cx)(t:V->V->Hp->VK->Prop):Prop:=
 ∀(aa:List (ah×Obj)) (s:az) (Z:St) (H:Hp) (o i:V) (ov iv:ao) (Q:VK),Inv X aa Z H s->RelV o ov->RelV i iv->t o i H Q->
  wpAny (model X.prog X.w) X.A (getItem ov iv) (EP X aa Z Q) X.xe s
def Xd{o i e:Expr}{to ti te:TE}{vD:V->V->Hp->VK->Prop}{Hx:zg}{vE:qH}{op:Operator}{m7:Pos}(ho:PE X o to)(hi:PE X i ti)(hg:BA X vD)(he:PE X e te)(hp:zf X op Hx)(hs:uI X vE)
  (ha:∀ov iv new,augStore i ov iv new=(do holding [new,ov,iv] (setItem ov iv new);release [new,ov,iv] [];pure .next):=by intros;rfl):PS X (.AugAssign (.Subscript o i m7) op e pos) (Eh to ti te vD Hx vE):=by
 intro aa s Z H D I h;refine wpAny_AugAssign_SubscriptAny (cR (ho aa s Z H _ I h) λov s1 hh=>?_) ha
 obtain⟨x1,H1,I1,r1,q1⟩:=hh;refine cR (hi aa s1 Z H1 _ I1 q1) λiv s2 hh=>?_
 obtain⟨x2,H2,I2,r2,q2⟩:=hh;refine cR (hg aa s2 Z H2 x1 x2 ov iv _ I2 r1 r2 q2) λold s3 hh=>?_
 obtain⟨x3,H3,I3,r3,q3⟩:=hh;refine cR (he aa s3 Z H3 _ I3 q3) λv s4 hh=>?_
 obtain⟨x4,H4,I4,r4,q4⟩:=hh;refine cR (hp aa s4 Z H4 x3 x4 old v _ I4 r3 r4 q4) λnew s5 hh=>?_
 obtain⟨x5,H5,I5,r5,q5⟩:=hh;exact cR (hs aa s5 Z H5 x1 x2 x5 ov iv new _ I5 r1 r2 r5 q5) λ_ s6 ⟨H6,I6,q6⟩=>⟨Z,H6,I6,q6⟩
def Hi(f:Int->Int->Int):zg:=λx y H Q=>∃i j,x=.int i/\y=.int j/\Q (.int (f i j)) H
def QL:zf X .Add (Hi λi j=>i+j):=by
 intro aa s Z H x y v u Q I r1 r2 h;obtain⟨i,j,e1,e2,q⟩:=h;subst e1;subst e2;obtain⟨t,rfl⟩:=r1;obtain⟨t',rfl⟩:=r2;exact iadd_int ⟨.int _,H,I.tok _,⟨_,rfl⟩,q⟩
def Y5:zf X .Sub (Hi λi j=>i - j):=by
 intro aa s Z H x y v u Q I r1 r2 h;obtain⟨i,j,e1,e2,q⟩:=h;subst e1;subst e2;obtain⟨t,rfl⟩:=r1;obtain⟨t',rfl⟩:=r2;exact isub_int ⟨.int _,H,I.tok _,⟨_,rfl⟩,q⟩
end
section
variable{X:Cx}{pos:Pos}
def Y6(c:TT)(tb:TS):TS:=λD Z H=>∃W:Nat->St->Hp->Prop,(∃m,W m Z H)/\∀m Z H,W m Z H->
 c Z H λb H1=>if b=true then ∃N:St->Hp->Prop,(∀Z' H',N Z' H'->∃m',m'<m/\W m' Z' H')/\tb { D with nx:=N,ct:=N,bk:=D.nx} Z H1 else D.nx Z H1
def VE{c:Expr}{body:List Stmt}{tc:TT}{tb:TS}(hp:PassesOwn (model X.prog X.w) X.A X.env X.xe)(hc:PT X c tc)(hb:gR X body tb):PS X (.While c body [] pos) (Y6 tc tb):=by
 intro aa s Z H D I h;obtain⟨W,⟨m0,w0⟩,turn⟩:=h;refine wpAny_While (codeAny_whileLoop (λn s'=>∃Z' H',Inv X aa Z' H' s'/\W n Z' H') ?_ m0 ⟨Z,H,I,w0⟩)
 rintro n s1 ⟨Z1,H1,I1,w1⟩;refine wpAny_passesOwn hp (cR (hc aa s1 Z1 H1 _ I1 (turn n Z1 H1 w1)) λb s2 hh=>?_)
 obtain⟨H2,I2,q2⟩:=hh;cases b with
 |true=>
  obtain⟨N,hN,q2⟩:=q2;rw[aT rfl];refine wpAny_passesOwn hp (cR (hb aa s2 Z1 H2 _ I2 q2) λf s3 q3=>?_)
  cases f with
  |next=>
   obtain⟨Z3,H3,I3,n3⟩:=q3;obtain⟨m',hm,w3⟩:=hN Z3 H3 n3;exact⟨m',hm,Z3,H3,I3,w3⟩
  |cont=>
   obtain⟨Z3,H3,I3,n3⟩:=q3;obtain⟨m',hm,w3⟩:=hN Z3 H3 n3;exact⟨m',hm,Z3,H3,I3,w3⟩
  |brk=>exact q3
  |ret v=>exact q3
 |false=>
  rw[aW o5];exact wpAny_execs_nil ⟨Z1,H2,I2,q2⟩
end
set_option genInjectivity false in
structure It where
 go:Nat->Hp->Prop
 vL:Nat->Hp->V->Hp->Prop
 stop:Nat->Hp->Prop
def ka(X:Cx)(aa:List (ah×Obj))(H:Hp)(b:ah):Prop:=
 H b=none/\b≠X.env.locals/\b∉X.fs/\(b∈X.ex\/X.s₀.heap.objs.size<=b)/\(∀x c,X.env.cells.lookup x=some c->c≠b)/\∀p∈X.pn++aa,p.1≠b
def Inv.qV{X:Cx}{aa:List (ah×Obj)}{Z:St}{H H':Hp}{s:az}{b:ah}(I:Inv X aa Z H s)(hb:s.heap.objs.size<=b)(hn:H' b=none):ka X aa H' b:=by
 refine⟨hn,Ew (iA I.lt hb),I.yI hb,.inr (kH I.sz hb),λx c e z=>?_,λp hp z=>?_⟩
 .obtain⟨v,q⟩:=I.cell x c e;exact b_ (iA q.lt (by rw[z];exact hb)) (mI _)
 .exact b_ (iA (eV (I.pin p hp).1) (by rw[z];exact hb)) (mI _)
structure Turn (P:eW) (w:df) (K:FG) (tg:Expr) (J:It) (fp:List ah) (it:ah) (tn:Nat->cL->Prop):Prop where
 mem:it∈fp
 obj:∀i h,tn i h->∀b∈fp,∃o,h.get? b=some o/\∀v,o.data≠.cell v
 keep:∀i h h',tn i h->(∀b∈fp,∀o,h.get? b=some o->h'.get? b=some o)->tn i h'
 item:∀(X:Cx),X.prog=P->X.w=w->X.K=K->X.calm=true->∀(i:Nat) (aa:List (ah×Obj)) (s:az) (Z:St) (H:Hp) (E:ao->az->Prop),Inv X aa Z H s->(∀b∈fp,ka X aa H b)->tn i s.heap->J.go i H->
  wpAny (model P w) X.A (pyNext (.ref it)) (λr s1=>∃u,r=some u/\ wpAny (model P w) X.A (letOwnedTupleGo tg (.ref it) u) (λ_ s2=>∃x H',Inv X aa Z H' s2/\RelV x u/\J.vL i H x H'/\tn (i+1) s2.heap/\∀b∈fp,H' b=none) E s1) E s
 done:∀(X:Cx),X.prog=P->X.w=w->X.K=K->X.calm=true->∀(i:Nat) (aa:List (ah×Obj)) (s:az) (Z:St) (H:Hp) (E:ao->az->Prop),Inv X aa Z H s->(∀b∈fp,ka X aa H b)->tn i s.heap->J.stop i H->
  wpAny (model P w) X.A (pyNext (.ref it)) (λr s1=>r=none/\Inv X aa Z H s1) E s
 self:∀(A:dD) (i:Nat) (s:az) (Q:ao->az->Prop) (E:ao->az->Prop),tn i s.heap->Q (.ref it) s->wpAny (model P w) A (pyIter (.ref it)) Q E s
abbrev TI:=St->Hp->(It->Hp->Prop)->Prop
def M5(X:Cx)(aa:List (ah×Obj))(Z:St)(tg:Expr)(R:It->Hp->Prop)(Hj:ao)(s2:az):Prop:=
 ∃(it:ah) (fp:List ah) (tn:Nat->cL->Prop) (J:It) (H':Hp),Hj=.ref it/\Inv X aa Z H' s2/\Turn X.prog X.w X.K tg J fp it tn/\tn 0 s2.heap/\(∀b∈fp,ka X aa H' b)/\R J H'
def PI(X:Cx)(tg iter:Expr)(wi:TI):Prop:=
 ∀(aa:List (ah×Obj)) (s:az) (Z:St) (H:Hp) (R:It->Hp->Prop),Inv X aa Z H s->wi Z H R->
  wpAny (model X.prog X.w) X.A (eval iter X.env) (λv s1=>wpAny (model X.prog X.w) X.A (pyIter v) (M5 X aa Z tg R) X.xe s1) X.xe s
def Cy{M:Model}{A:dD}{E:ao->az->Prop}{s:az}{tg:Expr}{it:ah}{u:ao}{o:Obj}{n:String}{vs:Array ao}{Q:Unit->az->Prop}(ho:s.heap.get? it=some o)(hc:o.cls=.type n)(hd:o.data=.fields vs)
  (hn:["enumerate","zip","dict_itemiterator","dict_reverseitemiterator","odict_iterator","itertools.zip_longest","itertools.pairwise"].contains n=false) (hQ:Q () s):wpAny M A (letOwnedTupleGo tg (.ref it) u) Q E s:=by
 unfold letOwnedTupleGo;cases tg <;> first
  |exact bW hQ
  |(cases u <;> first
    |exact bW hQ
    |(refine aK (wpAny_load ho ?_)
      rw[hc,hd];show wpAny M A (if(["enumerate","zip","dict_itemiterator","dict_reverseitemiterator","odict_iterator","itertools.zip_longest","itertools.pairwise"].contains n&&vs[0]? == some (rawInt _))=true then _ else _) Q E s
      rw[aW (by intro h;rw[hn,Bj] at h;cases h)]
      exact bW hQ))
def xm(K:FG)(a:ah):It:=
 ⟨λi H=>∃xs x,dH K H a xs/\xs[i]?=some x,λi H x H'=>H'=H/\∀xs,dH K H a xs->xs[i]?=some x,λi H=>∃xs,dH K H a xs/\xs.length<=i⟩
def Bw(K:FG)(a:ah):It:=
 ⟨λi H=>∃xs x,gY K H a xs/\xs[i]?=some x,λi H x H'=>H'=H/\∀xs,gY K H a xs->xs[i]?=some x,λi H=>∃xs,gY K H a xs/\xs.length<=i⟩
def t5(lo:Int)(n:Nat):It:=⟨λi _=>i<n,λi H x H'=>H'=H/\x=.int (lo+i),λi _=>n<=i⟩
def Uy{P:eW}{w:df}{K:FG}{tg:Expr}(a it:ah):Turn P w K tg (xm K a) [it] it (λi h=>h.IsListIter it a i) where
 mem:=by simp
 obj:=λi h st b hb=>by
  have e:b=it:=by simpa using hb
  subst e;obtain⟨o,e,c,d⟩:=st;exact⟨o,e,λv z=>by rw[d] at z;cases z⟩
 keep:=λi h h' st k=>st.at λo e=>k it (by simp) o e
 item:=by
  intro X hP hw hK hc i aa s Z H E I hf st hg;subst hP hw hK;obtain⟨xs,x,hq,hx⟩:=hg;obtain⟨aH,rv,p,hz⟩:=I.list hq;obtain⟨u,hu,ru⟩:=rv.get hx;obtain⟨f0,f1,f2,f3,f4,f5⟩:=hf it (by simp)
  refine wpAny_pyNext_list_item st p.isList (x:=u) (by simpa using hu) λh' qx sb=>?_
  have I1:Inv X aa Z H { s with heap:=h'}:=I.turned (t':=s.toks) (λb o hb e=>(sb.2 b hb).trans e) f0 f1 f3 f4 f5
  obtain⟨o,e,c,d⟩:=id qx;exact⟨u,rfl,Cy (s:={ s with heap:=h'}) e c d (by decide) ⟨x,H,I1,ru,⟨rfl,λys hy=>by rw[I.kW hy hq];exact hx⟩,qx,λb hb=>(hf b hb).1⟩⟩
 done:=by
  intro X hP hw hK hc i aa s Z H E I hf st hg;subst hP hw hK;obtain⟨xs,hq,hx⟩:=hg;obtain⟨aH,rv,p,hz⟩:=I.list hq;obtain⟨f0,f1,f2,f3,f4,f5⟩:=hf it (by simp)
  have hl:=rv.length;exact wpAny_pyNext_list_end (I.ok.hd hc) st p.isList (by simp;lia) λh' eb=>⟨rfl,I.turned (t':=s.toks) (λb o hb e=>eb b o hb e) f0 f1 f3 f4 f5⟩
 self:=λ_ _ _ _ _ st h=>wpAny_pyIter_listiter st h
def T1{P:eW}{w:df}{K:FG}{tg:Expr}(a it:ah):Turn P w K tg (Bw K a) [it] it (λi h=>h.IsTupleIter it a i) where
 mem:=by simp
 obj:=λi h st b hb=>by
  have e:b=it:=by simpa using hb
  subst e;obtain⟨o,e,c,d⟩:=st;exact⟨o,e,λv z=>by rw[d] at z;cases z⟩
 keep:=λi h h' st k=>st.at λo e=>k it (by simp) o e
 item:=by
  intro X hP hw hK hc i aa s Z H E I hf st hg;subst hP hw hK;obtain⟨xs,x,hq,hx⟩:=hg;obtain⟨aH,rv,p,hz⟩:=I.tuple hq;obtain⟨u,hu,ru⟩:=rv.get hx;obtain⟨f0,f1,f2,f3,f4,f5⟩:=hf it (by simp)
  refine wpAny_pyNext_tuple_item st (show s.heap.IsTuple a aH.toArray from p) (x:=u) (by simpa using hu) λh' qx sb=>?_
  have I1:Inv X aa Z H { s with heap:=h'}:=I.turned (t':=s.toks) (λb o hb e=>(sb.2 b hb).trans e) f0 f1 f3 f4 f5
  obtain⟨o,e,c,d⟩:=id qx;exact⟨u,rfl,Cy (s:={ s with heap:=h'}) e c d (by decide) ⟨x,H,I1,ru,⟨rfl,λys hy=>by rw[I.mH hy hq];exact hx⟩,qx,λb hb=>(hf b hb).1⟩⟩
 done:=by
  intro X hP hw hK hc i aa s Z H E I hf st hg;subst hP hw hK;obtain⟨xs,hq,hx⟩:=hg;obtain⟨aH,rv,p,hz⟩:=I.tuple hq;obtain⟨f0,f1,f2,f3,f4,f5⟩:=hf it (by simp)
  have hl:=rv.length;exact wpAny_pyNext_tuple_end (I.ok.hd hc) st (show s.heap.IsTuple a aH.toArray from p) (by simp;lia) λh' eb=>⟨rfl,I.turned (t':=s.toks) (λb o hb e=>eb b o hb e) f0 f1 f3 f4 f5⟩
 self:=λ_ _ _ _ _ st h=>wpAny_pyIter_tupleiter st h
def T2{P:eW}{w:df}{K:FG}{tg:Expr}(it:ah)(lo:Int)(n:Nat):Turn P w K tg (t5 lo n) [it] it (λi h=>IsRangeIter h it (lo+(i:Nat)*1) ((n:Int) - (i:Nat)) 1) where
 mem:=by simp
 obj:=λi h st b hb=>by
  have e:b=it:=by simpa using hb
  subst e;exact⟨_,st,λv z=>by
   have z':Data.fields _=Data.cell v:=z;cases z'⟩
 keep:=λi h h' st k=>k it (by simp) _ st
 item:=by
  intro X hP hw hK hc i aa s Z H E I hf st hg;subst hP hw hK;obtain⟨f0,f1,f2,f3,f4,f5⟩:=hf it (by simp)
  have W:=Walks.range (prog:=X.prog) (w:=X.w) (I.ok.hd hc) it lo 1 n;refine W.item i s _ _ hg st λv h' tk hv qx kk=>?_
  obtain⟨t,rfl⟩:=hv;have I1:Inv X aa Z H { s with heap:=h',toks:=tk}:=I.turned (λb o hb e=>kk b o (by simpa using hb) e) f0 f1 f3 f4 f5
  refine⟨_,rfl,Cy (s:={ s with heap:=h',toks:=tk}) (n:="range_iterator") qx rfl rfl (by decide) ⟨.int (lo+i),H,I1,⟨t,?_⟩,⟨rfl,rfl⟩,qx,λb hb=>(hf b hb).1⟩⟩
  rw[Int.mul_one]
 done:=by
  intro X hP hw hK hc i aa s Z H E I hf st hg;subst hP hw hK;obtain⟨f0,f1,f2,f3,f4,f5⟩:=hf it (by simp)
  exact wpAny_pyNext_range_end (I.ok.hd hc) st (by have:n<=i:=hg;lia) λh' eb=>⟨rfl,I.turned (t':=s.toks) (λb o hb e=>eb b o hb e) f0 f1 f3 f4 f5⟩
 self:=λ_ _ _ _ _ st h=>wpAny_pyIter_rangeiter st h
section
variable{X:Cx}{tg:Expr}
def og(K:FG)(tl:TE):TI:=λZ H R=>tl Z H λx H1=>∃a,x=.ref a/\(∃xs,dH K H1 a xs)/\R (xm K a) H1
def LL(K:FG)(tl:TE):TI:=λZ H R=>tl Z H λx H1=>∃a,x=.ref a/\(∃xs,gY K H1 a xs)/\R (Bw K a) H1
def Pc{l:Expr}{tl:TE}(hl:PE X l tl):PI X tg l (og X.K tl):=by
 intro aa s Z H R I h;refine cR (hl aa s Z H _ I h) λv s1 hh=>?_
 obtain⟨x,H1,I1,r1,q1⟩:=hh;obtain⟨a,e,⟨xs,hq⟩,q⟩:=q1;subst e;cases r1;obtain⟨aH,rv,p,hz⟩:=I1.list hq;refine wpAny_pyIter_list p.isList ?_;refine⟨s1.heap.objs.size,[s1.heap.objs.size],_,_,H1,rfl,I1.kept (t':=s1.toks) λb o e=>iP _ e,Uy a _,⟨_,oI _ rfl,rfl,rfl⟩,λb hb=>?_,q⟩
 have e:b=s1.heap.objs.size:=by simpa using hb
 subst e;exact I1.qV (c7 _) (I1.cg.fresh (c7 _))
def Y7{l:Expr}{tl:TE}(hl:PE X l tl):PI X tg l (LL X.K tl):=by
 intro aa s Z H R I h;refine cR (hl aa s Z H _ I h) λv s1 hh=>?_
 obtain⟨x,H1,I1,r1,q1⟩:=hh;obtain⟨a,e,⟨xs,hq⟩,q⟩:=q1;subst e;cases r1;obtain⟨aH,rv,p,hz⟩:=I1.tuple hq;refine wpAny_pyIter_tuple (show s1.heap.IsTuple a aH.toArray from p) ?_;refine⟨s1.heap.objs.size,[s1.heap.objs.size],_,_,H1,rfl,I1.kept (t':=s1.toks) λb o e=>iP _ e,T1 a _,⟨_,oI _ rfl,rfl,rfl⟩,λb hb=>?_,q⟩
 have e:b=s1.heap.objs.size:=by simpa using hb
 subst e;exact I1.qV (c7 _) (I1.cg.fresh (c7 _))
def Oy{aa:List (ah×Obj)}{Z:St}{H:Hp}{s:az}{R:It->Hp->Prop}{E:ao->az->Prop}{lo hi:Int}{t u v:Tok}{tk:Nat}(I:Inv X aa Z H s)(h1:-(2^62)<=lo)(h2:lo<2^62)(h3:-(2^62)<=hi)(h4:hi<2^62)
  (q:R (t5 lo (hi - lo).toNat) H):wpAny (model X.prog X.w) X.A (pyIter (.ref s.heap.objs.size)) (M5 X aa Z tg R) E { s with heap:=s.heap.push { cls:=.type "range",data:=.fields #[.int lo t,.int hi u,.int 1 v]},toks:=tk}:=by
 refine wpAny_pyIter_range (IsRange.new ..) (small_one h1 h2 h3 h4) ?_;have I1:Inv X aa Z H { s with heap:=s.heap.push { cls:=.type "range",data:=.fields #[.int lo t,.int hi u,.int 1 v]},toks:=tk}:=I.kept λb o e=>iP _ e
 refine⟨(s.heap.push { cls:=.type "range",data:=.fields #[.int lo t,.int hi u,.int 1 v]}).objs.size,[(s.heap.push { cls:=.type "range",data:=.fields #[.int lo t,.int hi u,.int 1 v]}).objs.size],_,_,H,rfl,I1.kept (t':=tk) λb o e=>iP _ e,T2 _ lo (hi - lo).toNat,?_,λb hb=>?_,q⟩
 .have e1:lo+((0:Nat):Int)*1=lo:=by simp
  have e2:(((hi - lo).toNat:Nat):Int) - ((0:Nat):Int)=Builtin.Range.rangeSize lo hi 1:=by rw[rangeSize_one];split <;> lia
  show IsRangeIter _ _ (lo+((0:Nat):Int)*1) ((((hi - lo).toNat:Nat):Int) - ((0:Nat):Int)) 1;rw[e1,e2];exact oI _ rfl
 .have e:b=(s.heap.push { cls:=.type "range",data:=.fields #[.int lo t,.int hi u,.int 1 v]}).objs.size:=by simpa using hb
  subst e;exact I1.qV (c7 _) (I1.cg.fresh (c7 _))
def wI(ta:TA):TI:=λZ H R=>ta Z H λvs H1=>∃j:Int,vs=[.int j] /\ -(2^62)<=j/\j<2^62/\R (t5 0 j.toNat) H1
def wJ(ta:TA):TI:=λZ H R=>ta Z H λvs H1=>∃i j:Int,vs=[.int i,.int j]/\(-(2^62)<=i/\i<2^62 /\ -(2^62)<=j/\j<2^62)/\R (t5 i (j - i).toNat) H1
def Im{a:Expr}{ta:TA}{p pos:Pos}(hg:Gl X "range")(hm:X.mg "range"=none)(ha:PA X [a] ta)(hs:starEach [a] X.env=[(false,eval a X.env)]:=by rfl):PI X tg (.Call (.Name "range" p) [a] [] pos) (wI ta):=by
 intro aa s Z H R I h;refine Call_ (xT I hg hm boot_range (PyProof.Rows.callWith_type1 (cR (ha pos aa s Z H _ I h) λus s1 hh=>?_) hs rfl))
 obtain⟨vs,H1,I1,r1,q1⟩:=hh;obtain⟨j,e,q1,q2,q⟩:=q1;subst e;cases r1 with
 |cons r rr=>
  cases rr;obtain⟨t,rfl⟩:=r;exact call_range_1 (Oy I1 (by lia) (by lia) q1 q2 (by simpa using q))
def NM{a b:Expr}{ta:TA}{p pos:Pos}(hg:Gl X "range")(hm:X.mg "range"=none)(ha:PA X [a,b] ta)(hs:starEach [a,b] X.env=[(false,eval a X.env),(false,eval b X.env)]:=by rfl)(Hc:starEach [b] X.env=[(false,eval b X.env)]:=by rfl):
  PI X tg (.Call (.Name "range" p) [a,b] [] pos) (wJ ta):=by
 intro aa s Z H R I h;refine Call_ (xT I hg hm boot_range (PyProof.Rows.callWith_type1 (cR (ha pos aa s Z H _ I h) λus s1 ⟨vs,H1,I1,r1,q1⟩=>?_) (by rw[hs,Hc]) (by rw[Hc];rfl)))
 obtain⟨i,j,e,⟨q1,q2,q3,q4⟩,q⟩:=q1;subst e;cases r1 with
 |cons r rr=>
  cases rr with
  |cons r' rr=>
   cases rr;obtain⟨t,rfl⟩:=r;obtain⟨t',rfl⟩:=r';exact call_range_2 (Oy I1 q1 q2 q3 q4 q)
def Mv(wi:TI)(g:TG)(tb:TS):TS:=λD Z H=>wi Z H λJ H1=>∃W:Nat->Nat->St->Hp->Prop,(∃m,W 0 m Z H1)/\∀i m Z H,W i m Z H->
 (J.stop i H/\D.nx Z H)\/(J.go i H/\∃N:St->Hp->Prop,(∀Z' H',N Z' H'->∃m',m'<m/\W (i+1) m' Z' H')/\∀x H',J.vL i H x H'->g x Z H' λZ2 H2=>tb { D with nx:=N,ct:=N,bk:=D.nx} Z2 H2)
def B7(fp:List ah)(h:cL):List (ah×Obj):=fp.filterMap λb=>(h.get? b).map λo=>(b,o)
def ES{fp:List ah}{h:cL}{b:ah}{o:Obj}(hb:b∈fp)(e:h.get? b=some o):(b,o)∈B7 fp h:=Ey.mpr ⟨b,hb,by rw[e];rfl⟩
def Uz{fp:List ah}{h:cL}{p:ah×Obj}(hp:p∈B7 fp h):p.1∈fp/\h.get? p.1=some p.2:=by
 obtain⟨b,hb,e⟩:=Ey.mp hp;cases q:h.get? b with
 |none=>rw[q] at e;cases e
 |some o=>
  rw[q] at e;have e':(b,o)=p:=Option.some.inj e;subst e';exact⟨hb,q⟩
def Inv.pinned{aa:List (ah×Obj)}{Z:St}{H:Hp}{s:az}{fp:List ah}(I:Inv X aa Z H s)(hf:∀b∈fp,ka X aa H b)(ho:∀b∈fp,∃o,s.heap.get? b=some o/\∀v,o.data≠.cell v):Inv X (aa++B7 fp s.heap) Z H s:=
 I.kD λp hp=>(eR.mp hp).elim (λz=>I.pin p (iB _ z)) λz=>by
  obtain⟨hb,e⟩:=Uz z;obtain⟨f0,f1,f2,_⟩:=hf p.1 hb;obtain⟨o,e',d⟩:=ho p.1 hb;rw[e] at e';cases e';exact⟨e,f0,f1,f2,d⟩
def Inv.iM{aa pl:List (ah×Obj)}{Z:St}{H:Hp}{s:az}(I:Inv X (aa++pl) Z H s):Inv X aa Z H s:=I.kD λp hp=>I.pin p (iB _ (jb _ hp))
def xU{iter:Expr}{body:List Stmt}{wi:TI}{g:TG}{tb:TS}{pos:Pos}(hp:PassesOwn (model X.prog X.w) X.A X.env X.xe)(hc:X.calm=true)(hi:PI X tg iter wi)(hg:PG X tg g)(hb:gR X body tb)
  (hs:∀x,foldedSetIterable iter X.env x=pure x:=by intro _;rfl):PS X (.For tg iter body [] pos) (Mv wi g tb):=by
 intro aa s Z H D I h;refine wpAny_For (cR (hi aa s Z H _ I h) λv s1 h1=>cR h1 λHj s2 h2=>?_) hs
 obtain⟨it,fp,tn,J,H2,e,I2,T,rK,f2,W,⟨m0,w0⟩,turn⟩:=h2;subst e;have pQ:∀{H':Hp},(∀b∈fp,H' b=none)->∀b∈fp,ka X aa H' b:=λhn b hb=>⟨hn b hb,(f2 b hb).2⟩
 refine codeAny_forLoop_any (λn s'=>∃i Z' H',Inv X aa Z' H' s'/\tn i s'.heap/\(∀b∈fp,H' b=none)/\W i n Z' H') ?_ m0 ⟨0,Z,H2,I2,rK,λb hb=>(f2 b hb).1,w0⟩
 rintro n s3 ⟨i,Z3,H3,I3,Tb,Se,w3⟩;rcases turn i n Z3 H3 w3 with⟨stop,qn⟩|⟨go,N,hN,step⟩
 .refine wpAny_passesOwn hp (cR (T.done X rfl rfl rfl hc i aa s3 Z3 H3 X.xe I3 (pQ Se) Tb stop) λr s4 ⟨hr,I4⟩=>?_)
  subst hr;exact wpAny_execs_nil ⟨Z3,H3,I4,qn⟩
 .refine wpAny_passesOwn hp (cR (T.item X rfl rfl rfl hc i aa s3 Z3 H3 X.xe I3 (pQ Se) Tb go) λr s4 ⟨u,hr,h4⟩=>?_)
  subst hr;refine wpAny_passesOwn hp (cR h4 λ_ s5 hh=>?_)
  obtain⟨x,H5,I5,r5,y5,yZ,K9⟩:=hh;have HS:=I5.pinned (pQ K9) (T.obj _ _ yZ);refine wpAny_passesOwn hp (cR (hg _ s5 Z3 H5 x u _ HS r5 (step x H5 y5)) λ_ s6 hh=>?_)
  obtain⟨Z6,H6,I6,q6⟩:=hh;refine wpAny_passesOwn hp (cR (hb _ s6 Z6 H6 _ I6 q6) λf s7 q7=>?_)
  have again:∀{Z7:St} {H7:Hp},Inv X (aa++B7 fp s5.heap) Z7 H7 s7->N Z7 H7->∃m,m<n/\∃i Z' H',Inv X aa Z' H' s7/\tn i s7.heap/\(∀b∈fp,H' b=none)/\W i m Z' H':=λ{Z7 H7} I7 n7=>by
   obtain⟨m',hm,w7⟩:=hN Z7 H7 n7;refine⟨m',hm,i+1,Z7,H7,I7.iM,T.keep _ _ _ yZ λb hb o e=>(I7.pin (b,o) (iB _ (iB _ (ES hb e)))).1,λb hb=>?_,w7⟩
   obtain⟨o,e,d⟩:=T.obj _ _ yZ b hb;exact(I7.pin (b,o) (iB _ (iB _ (ES hb e)))).2.1
  cases f with
  |next=>obtain⟨Z7,H7,I7,n7⟩:=q7;exact again I7 n7
  |cont=>obtain⟨Z7,H7,I7,n7⟩:=q7;exact again I7 n7
  |brk=>obtain⟨Z7,H7,I7,q7⟩:=q7;exact⟨Z7,H7,I7.iM,q7⟩
  |ret v=>obtain⟨x7,Z7,H7,I7,r7,q7⟩:=q7;exact⟨x7,Z7,H7,I7.iM,r7,q7⟩
end
def VF{K:FG}{a:ah}{xs:List V}{g:TG}{tb:TS}{D:Ends}{Z:St}{H:Hp}(Pv:Nat->St->Hp->Prop)(h0:Pv 0 Z H)(hl:∀i Z H,i<=xs.length->Pv i Z H->dH K H a xs)
  (hs:∀i x Z H,xs[i]?=some x->Pv i Z H->g x Z H λZ2 H2=>tb { D with nx:=Pv (i+1),ct:=Pv (i+1),bk:=D.nx} Z2 H2) (hd:∀Z H,Pv xs.length Z H->D.nx Z H) :
  ∃W:Nat->Nat->St->Hp->Prop,(∃m,W 0 m Z H)/\∀i m Z H,W i m Z H->
   ((xm K a).stop i H/\D.nx Z H)\/((xm K a).go i H/\∃N:St->Hp->Prop,(∀Z' H',N Z' H'->∃m',m'<m/\W (i+1) m' Z' H')/\∀x H',(xm K a).vL i H x H'->g x Z H' λZ2 H2=>tb { D with nx:=N,ct:=N,bk:=D.nx} Z2 H2):=by
 refine⟨λi m Z H=>m=xs.length - i/\i<=xs.length/\Pv i Z H,⟨xs.length,by simp,pV _,h0⟩,?_⟩
 rintro i m Z H ⟨rfl,hi,p⟩;have q:=hl i Z H hi p;by_cases f_:i<xs.length
 .refine .inr ⟨⟨xs,xs[i],q,by simp[f_]⟩,Pv (i+1),λZ' H' p'=>⟨xs.length - (i+1),by lia,rfl,f_,p'⟩,λx H' y=>?_⟩
  obtain⟨e,y⟩:=y;subst e;exact hs i x Z _ (y xs q) p
 .have e:i=xs.length:=by lia
  subst e;exact .inl ⟨⟨xs,q,c7 _⟩,hd Z H p⟩
def Xe{K:FG}{a:ah}{xs:List V}{g:TG}{tb:TS}{D:Ends}{Z:St}{H:Hp}(Pv:Nat->St->Hp->Prop)(h0:Pv 0 Z H)(hl:∀i Z H,i<=xs.length->Pv i Z H->gY K H a xs)
  (hs:∀i x Z H,xs[i]?=some x->Pv i Z H->g x Z H λZ2 H2=>tb { D with nx:=Pv (i+1),ct:=Pv (i+1),bk:=D.nx} Z2 H2) (hd:∀Z H,Pv xs.length Z H->D.nx Z H) :
  ∃W:Nat->Nat->St->Hp->Prop,(∃m,W 0 m Z H)/\∀i m Z H,W i m Z H->
   ((Bw K a).stop i H/\D.nx Z H)\/((Bw K a).go i H/\∃N:St->Hp->Prop,(∀Z' H',N Z' H'->∃m',m'<m/\W (i+1) m' Z' H')/\∀x H',(Bw K a).vL i H x H'->g x Z H' λZ2 H2=>tb { D with nx:=N,ct:=N,bk:=D.nx} Z2 H2):=by
 refine⟨λi m Z H=>m=xs.length - i/\i<=xs.length/\Pv i Z H,⟨xs.length,by simp,pV _,h0⟩,?_⟩
 rintro i m Z H ⟨rfl,hi,p⟩;have q:=hl i Z H hi p;by_cases f_:i<xs.length
 .refine .inr ⟨⟨xs,xs[i],q,by simp[f_]⟩,Pv (i+1),λZ' H' p'=>⟨xs.length - (i+1),by lia,rfl,f_,p'⟩,λx H' y=>?_⟩
  obtain⟨e,y⟩:=y;subst e;exact hs i x Z _ (y xs q) p
 .have e:i=xs.length:=by lia
  subst e;exact .inl ⟨⟨xs,q,c7 _⟩,hd Z H p⟩
def NN{lo:Int}{n:Nat}{g:TG}{tb:TS}{D:Ends}{Z:St}{H:Hp}(Pv:Nat->St->Hp->Prop)(h0:Pv 0 Z H)
  (hs:∀i Z H,i<n->Pv i Z H->g (.int (lo+i)) Z H λZ2 H2=>tb { D with nx:=Pv (i+1),ct:=Pv (i+1),bk:=D.nx} Z2 H2) (hd:∀Z H,Pv n Z H->D.nx Z H) :
  ∃W:Nat->Nat->St->Hp->Prop,(∃m,W 0 m Z H)/\∀i m Z H,W i m Z H->
   ((t5 lo n).stop i H/\D.nx Z H)\/((t5 lo n).go i H/\∃N:St->Hp->Prop,(∀Z' H',N Z' H'->∃m',m'<m/\W (i+1) m' Z' H')/\∀x H',(t5 lo n).vL i H x H'->g x Z H' λZ2 H2=>tb { D with nx:=N,ct:=N,bk:=D.nx} Z2 H2):=by
 refine⟨λi m Z H=>m=n - i/\i<=n/\Pv i Z H,⟨n,by simp,pV _,h0⟩,?_⟩
 rintro i m Z H ⟨rfl,hi,p⟩;by_cases f_:i<n
 .refine .inr ⟨f_,Pv (i+1),λZ' H' p'=>⟨n - (i+1),by lia,rfl,f_,p'⟩,λx H' y=>?_⟩
  obtain⟨e,y⟩:=y;subst e y;exact hs i Z _ f_ p
 .have e:i=n:=by lia
  subst e;exact .inl ⟨c7 _,hd Z H p⟩
abbrev R2:=V->V->Hp->VK->Prop
def gM(X:Cx)(f:ao->ao->Sem ao)(r:R2):Prop:=
 ∀(aa:List (ah×Obj)) (s:az) (Z:St) (H:Hp) (x y:V) (v u:ao) (Q:VK),Inv X aa Z H s->RelV x v->RelV y u->r x y H Q->
  wpAny (model X.prog X.w) X.A (f v u) (EP X aa Z Q) X.xe s
def cA(X:Cx)(f:ao)(r:List V->Hp->VK->Prop):Prop:=
 ∀(aa:List (ah×Obj)) (s:az) (Z:St) (H:Hp) (xs:List V) (us:List ao) (Q:VK),Inv X aa Z H s->Vals xs us->r xs H Q->
  wpAny (model X.prog X.w) X.A (call f us) (EP X aa Z Q) X.xe s
def HV(X:Cx)(r:V->Hp->(Bool->Hp->Prop)->Prop):Prop:=
 ∀(aa:List (ah×Obj)) (s:az) (Z:St) (H:Hp) (x:V) (v:ao) (Q:Bool->Hp->Prop),Inv X aa Z H s->RelV x v->r x H Q->
  wpAny (model X.prog X.w) X.A (truthy v) (TP X aa Z Q) X.xe s
def El(r:R2)(ta tb:TE):TE:=λZ H Q=>ta Z H λx H1=>tb Z H1 λy H2=>r x y H2 Q
def rI(C:Int->Int->Prop)(g:Int->Int->V):R2:=λx y H Q=>∃i j,x=.int i/\y=.int j/\C i j/\Q (g i j) H
def uB(g:Int->Int->V):R2:=λx y H Q=>∃i j,x=.int i/\y=.int j/\Q (g i j) H
section
variable{X:Cx}{a b c:Expr}{ta tb tc:TE}{pos:Pos}
def ye(ha:PE X a ta)(hb:PE X b tb){aa:List (ah×Obj)}{s:az}{Z:St}{H:Hp}{R:V->V->Hp->Prop}(I:Inv X aa Z H s)
  (h:ta Z H λx H1=>tb Z H1 λy H2=>R x y H2) {Q:ao->az->Prop} {f:ao->ao->Sem ao}
  (hf:∀v u s2 x y H2,Inv X aa Z H2 s2->RelV x v->RelV y u->R x y H2->wpAny (model X.prog X.w) X.A (f v u) Q X.xe s2) :
  wpAny (model X.prog X.w) X.A (eval a X.env) (λv s₁=>wpAny (model X.prog X.w) X.A (eval b X.env) (λu s₂=>wpAny (model X.prog X.w) X.A (f v u) Q X.xe s₂) X.xe s₁) X.xe s:=by
 refine cR (ha aa s Z H _ I h) λv s1 hh=>?_
 obtain⟨x,H1,I1,r1,q1⟩:=hh;refine cR (hb aa s1 Z H1 _ I1 q1) λu s2 hh=>?_
 obtain⟨y,H2,I2,r2,q2⟩:=hh;exact hf v u s2 x y H2 I2 r1 r2 q2
def χ{op:Operator}{r:R2}(ho:gM X (binaryOp op) r)(ha:PE X a ta)(hb:PE X b tb):PE X (.BinOp a op b pos) (El r ta tb):=by
 intro aa s Z H Q I h;exact wpAny_BinOp (ye ha hb I h λv u s2 x y H2 I2 rx ry q=>ho aa s2 Z H2 x y v u Q I2 rx ry q)
def Mc{f:ao->ao->Sem ao}{C:Int->Int->Prop}{g:Int->Int->Int}
  (rule:∀(i j:Int) (t u:Tok) (s:az) (Q:ao->az->Prop) (E:ao->az->Prop),C i j->Q (.int (g i j) s.toks) { s with toks:=s.toks+1}->wpAny (model X.prog X.w) X.A (f (.int i t) (.int j u)) Q E s) :
  gM X f (rI C λi j=>.int (g i j)):=by
 intro aa s Z H x y v u Q I rx ry h;obtain⟨i,j,rfl,rfl,hc,q⟩:=h;obtain⟨t,rfl⟩:=rx;obtain⟨t',rfl⟩:=ry;exact rule i j t t' s _ _ hc ⟨.int (g i j),H,I.tok _,⟨_,rfl⟩,q⟩
def DR{f:ao->ao->Sem ao}{g:Int->Int->Int}
  (rule:∀(i j:Int) (t u:Tok) (s:az) (Q:ao->az->Prop) (E:ao->az->Prop),Q (.int (g i j) s.toks) { s with toks:=s.toks+1}->wpAny (model X.prog X.w) X.A (f (.int i t) (.int j u)) Q E s) :
  gM X f (uB λi j=>.int (g i j)):=by
 intro aa s Z H x y v u Q I rx ry h;obtain⟨i,j,rfl,rfl,q⟩:=h;obtain⟨t,rfl⟩:=rx;obtain⟨t',rfl⟩:=ry;exact rule i j t t' s _ _ ⟨.int (g i j),H,I.tok _,⟨_,rfl⟩,q⟩
def DQ{f:ao->ao->Sem ao}{g:Int->Int->Bool}
  (rule:∀(i j:Int) (t u:Tok) (s:az) (Q:ao->az->Prop) (E:ao->az->Prop),Q (.bool (g i j)) s->wpAny (model X.prog X.w) X.A (f (.int i t) (.int j u)) Q E s) :
  gM X f (uB λi j=>.bl (g i j)):=by
 intro aa s Z H x y v u Q I rx ry h;obtain⟨i,j,rfl,rfl,q⟩:=h;obtain⟨t,rfl⟩:=rx;obtain⟨t',rfl⟩:=ry;exact rule i j t t' s _ _ ⟨.bl (g i j),H,I,rfl,q⟩
def xj(i j:Int):Prop:=0<j/\j<1073741824
def uG(i j:Int):Prop:=(-(2^64)<i/\i<2^64)\/(-(2^64)<j/\j<2^64)
def uG.ok{i j:Int}(h:uG i j):IntMulOk i j:=by
 rcases h with⟨h1,h2⟩|⟨h1,h2⟩
 .exact .of_left (intBits_le_64 h1 h2)
 .exact .of_right (intBits_le_64 h1 h2)
def yL:gM X (binaryOp .Add) (uB λi j=>.int (i+j)):=DR λ_ _ _ _ _ _ _ q=>add_int q
def Gf:gM X (binaryOp .Sub) (uB λi j=>.int (i - j)):=DR λ_ _ _ _ _ _ _ q=>sub_int q
def yN:gM X (binaryOp .Mult) (rI uG λi j=>.int (i*j)):=Mc λ_ _ _ _ _ _ _ hc q=>mul_int q hc.ok
def BQ:gM X (binaryOp .FloorDiv) (rI xj λi j=>.int (i / j)):=Mc λi j _ _ _ _ _ hc q=>by
 have h1:(0:Int)<j:=hc.1;have h2:j<1073741824:=hc.2;exact floordiv_int (by lia) (by rw[Int.fdiv_eq_ediv_of_nonneg i (by lia)];exact q) (.inl (PyProof.noPylong_small (by lia)))
def ud:gM X (binaryOp .Mod) (rI (λ_ j=>0<j) λi j=>.int (i%j)):=Mc λi j _ _ _ _ _ hc q=>by
 have h1:(0:Int)<j:=hc;exact mod_int' (by lia) (by rw[Int.fmod_eq_emod_of_nonneg i (by lia)];exact q)
end
section
variable{X:Cx}{a b c:Expr}{ta tb tc:TE}{pos:Pos}
def v5{aa:List (ah×Obj)}{Z:St}{H:Hp}{s:az}{Q:VK}{k k':Bool}(I:Inv X aa Z H s)(q:Q (.bl k) H)(e:k=k'):EP X aa Z Q (.bool k') s:=by
 subst e;exact⟨.bl k,H,I,rfl,q⟩
def Aa:gM X (compareOp .Lt) (uB λi j=>.bl (decide (i<j))):=DQ λ_ _ _ _ _ _ _ q=>lt_int q
def Cz:gM X (compareOp .Gt) (uB λi j=>.bl (decide (j<i))):=DQ λ_ _ _ _ _ _ _ q=>gt_int q
def UA:gM X (compareOp .In) (λx y H Q=>∃i j,x=.str i/\y=.str j/\Q (.bl (!(Builtin.Str.occurrences j i 0 j.length 1).isEmpty)) H):=by
 intro aa s Z H x y v u Q I rx ry h;obtain⟨i,j,rfl,rfl,q⟩:=h;obtain⟨t,rfl⟩:=rx;obtain⟨t',rfl⟩:=ry;exact in_str (v5 I q rfl)
def yM:gM X (compareOp .Is) (λx y H Q=>y=.bh/\Q (.bl (decide (x=.bh))) H):=by
 intro aa s Z H x y v u Q I rx ry h;obtain⟨rfl,q⟩:=h;cases ry;refine is_none_gen (v5 I q ?_);cases x <;> first
  |(cases rx;rfl)
  |(obtain⟨t,rfl⟩:=rx;rfl)
def vm:gM X (compareOp .IsNot) (λx y H Q=>y=.bh/\Q (.bl (!decide (x=.bh))) H):=by
 intro aa s Z H x y v u Q I rx ry h;obtain⟨rfl,q⟩:=h;cases ry;refine isnot_none_gen (v5 I q ?_);cases x <;> first
  |(cases rx;rfl)
  |(obtain⟨t,rfl⟩:=rx;rfl)
def TF:gM X (compareOp .NotIn) (λx y H Q=>∃i j,x=.str i/\y=.str j/\Q (.bl (!(!(Builtin.Str.occurrences j i 0 j.length 1).isEmpty))) H):=by
 intro aa s Z H x y v u Q I rx ry h;obtain⟨i,j,rfl,rfl,q⟩:=h;obtain⟨t,rfl⟩:=rx;obtain⟨t',rfl⟩:=ry;exact notIn_str (v5 I q rfl)
def gM.or{f:ao->ao->Sem ao}{r r':R2}(h:gM X f r)(h':gM X f r'):gM X f (λx y H Q=>r x y H Q\/r' x y H Q):=by
 intro aa s Z H x y v u Q I rx ry q;rcases q with q|q
 .exact h aa s Z H x y v u Q I rx ry q
 .exact h' aa s Z H x y v u Q I rx ry q
def QM(b:Expr){op:CmpOp}(h:op≠.In:=by decide)(h2:op≠.NotIn:=by decide):behindInMarks op b=false:=by
 have e1:(op == CmpOp.In)=false:=by cases op <;> first|rfl|exact b_ rfl h
 have e2:(op == CmpOp.NotIn)=false:=by cases op <;> first|rfl|exact b_ rfl h2
 cases b <;> simp[behindInMarks,e1,e2]
def Xf{op:CmpOp}{r:R2}(ho:gM X (compareOp op) r)(ha:PE X a ta)(hb:PE X b tb)(hm:behindInMarks op b=false):PE X (.Compare a [op] [b] pos) (El r ta tb):=by
 intro aa s Z H Q I h;exact wpAny_Compare1 (ye ha hb I h λv u s2 x y H2 I2 rx ry q=>ho aa s2 Z H2 x y v u Q I2 rx ry q) hm
def En(t:TE):TT:=λZ H Q=>t Z H λx H'=>∃k,x=.bl k/\Q k H'
def Xg{op:CmpOp}{r:R2}(ho:gM X (compareOp op) r)(ha:PE X a ta)(hb:PE X b tb)(hm:behindInMarks op b=false):PT X (.Compare a [op] [b] pos) (En (El r ta tb)):=by
 intro aa s Z H Q I h;refine wpAny_isTrue_Compare1 (cR (ha aa s Z H _ I h) λv s1 ⟨x,H1,I1,r1,q1⟩=>cR (hb aa s1 Z H1 _ I1 q1) λu s2 ⟨y,H2,I2,r2,q2⟩=> cR (ho aa s2 Z H2 x y v u _ I2 r1 r2 q2) λc s3 ⟨z,H3,I3,r3,k,e,q3⟩=>?_) hm
 subst e;cases r3;exact wpAny_truthy_bool ⟨H3,I3,q3⟩
def uJ(K:FG)(x:V)(H:Hp)(k:Bool):Prop:=
 match x with
 |.bh=>k=false
 |.bl b=>k=b
 |.int i=>k=(i != 0)
 |.str y=>y.length<=sizeLine/\k=((y.length:Int) != 0)
 |.z_ y=>y.size<=sizeLine/\k=((y.size:Int) != 0)
 |.ref p=>(∃xs,dH K H p xs/\k = !xs.isEmpty)\/(∃xs,gY K H p xs/\k = !xs.isEmpty)\/∃kvs,H p=some (.dK kvs)/\k = !kvs.isEmpty
 |_=>False
def T3{κ:Type}{kvs:List (κ×V)}{vs:List (κ×ao)}(r:KV kvs vs):(!vs.isEmpty) = !kvs.isEmpty:=by
 cases r <;> rfl
def Nk{xs:List V}{aH:List ao}(r:Vals xs aH):(!aH.toArray.isEmpty) = !xs.isEmpty:=by
 cases r <;> simp
def xV:(sizeLine:Nat)<2^63:=by rw[sizeLine_eq];decide
def Y8:HV X (λx H Q=>∃k,uJ X.K x H k/\Q k H):=by
 intro aa s Z H x v Q I rx h;obtain⟨k,e,q⟩:=h;have hl:=xV;have hs:sizeLine=16777216:=sizeLine_eq;cases x with
 |bh=>
  cases rx;have e':k=false:=e;subst e';exact truthy_none ⟨H,I,q⟩
 |bl b=>
  cases rx;have e':k=b:=e;subst e';exact wpAny_truthy_bool ⟨H,I,q⟩
 |int i=>
  obtain⟨t,rfl⟩:=rx;have e':k=(i != 0):=e;subst e';exact PySem.P.truthy_int ⟨H,I,q⟩
 |str y=>
  obtain⟨t,rfl⟩:=rx;obtain⟨hy,e'⟩:y.length<=sizeLine/\k=((y.length:Int) != 0):=e;subst e';exact PySem.P.truthy_str (by lia) ⟨H,I.tok _,q⟩
 |z_ y=>
  obtain⟨t,rfl⟩:=rx;obtain⟨hy,e'⟩:y.size<=sizeLine/\k=((y.size:Int) != 0):=e;subst e';exact PySem.W.truthy_bytes (by lia) ⟨H,I.tok _,q⟩
 |ref p=>
  cases rx;have e':(∃xs,dH X.K H p xs/\k = !xs.isEmpty)\/(∃xs,gY X.K H p xs/\k = !xs.isEmpty)\/∃kvs,H p=some (.dK kvs)/\k = !kvs.isEmpty:=e;rcases e' with⟨xs,hx,e'⟩|⟨xs,hx,e'⟩|⟨kvs,hx,e'⟩
  .subst e';obtain⟨aH,r,pl,hz⟩:=I.list hx;have hlen:=r.length;exact wpAny_truthy_list pl.isList (by simp only[fP];lia) ⟨H,I.tok _,by rw[Nk r];exact q⟩
  .subst e';obtain⟨aH,r,pl,hz⟩:=I.tuple hx;have hlen:=r.length;exact truthy_tuple pl (by simp only[fP];lia) ⟨H,I.tok _,by rw[Nk r];exact q⟩
  .subst e';obtain⟨hz,hS,vs,r,m⟩:kvs.length<=sizeLine/\(p == sysModules)=false/\∃vs,KV kvs vs/\s.heap.DictOf (Js X.prog X.w) p vs:=I.cg p _ hx;have hlen:kvs.length=vs.length:=Paired.length r;exact wpAny_truthy_dict hS m (by lia) ⟨H,I.tok _,by rw[T3 r];exact q⟩
 |_=>exact(show False from e).elim
def VG(ha:PE X a ta)(he:∀whole,isTrue a X.env whole=(do let v <-whole;standAt a.pos;holding [v] (truthy v))):
  PT X a (λZ H Q=>ta Z H λx H'=>∃k,uJ X.K x H' k/\Q k H'):=by
 intro aa s Z H Q I h;exact isTrue_plain (cR (ha aa s Z H _ I h) λv s1 ⟨x,H1,I1,r1,q1⟩=>Y8 aa s1 Z H1 x v Q I1 r1 q1) (he _)
def pM:gM X (binaryOp .Add) (λx y H Q=>∃i j,x=.str i/\y=.str j/\i.length+j.length<=sizeLine/\Q (.str (i++j)) H):=by
 intro aa s Z H x y v u Q I rx ry h;obtain⟨i,j,rfl,rfl,hz,q⟩:=h;obtain⟨t,rfl⟩:=rx;obtain⟨t',rfl⟩:=ry;exact add_str (λt' tk=>⟨.str (i++j),H,I.tok _,⟨_,rfl⟩,q⟩) hz
def vals1{x:V}{us:List ao}(r:Vals [x] us):∃u,us=[u]/\RelV x u:=by
 cases r with
 |cons r1 r2=>cases r2;exact⟨_,rfl,r1⟩
def vals2{x y:V}{us:List ao}(r:Vals [x,y] us):∃u w',us=[u,w']/\RelV x u/\RelV y w':=by
 cases r with
 |cons r1 r2=>
  cases r2 with
  |cons r3 r4=>cases r4;exact⟨_,_,rfl,r1,r3⟩
def NO:cA X (.type "int") (λxs H Q=>(∃i,xs=[.int i]/\Q (.int i) H)\/∃k,xs=[.bl k]/\Q (.int (if k then 1 else 0)) H):=by
 intro aa s Z H xs us Q I r h;rcases h with⟨i,rfl,q⟩|⟨k,rfl,q⟩
 .obtain⟨u,rfl,t,rfl⟩:=vals1 r;exact call_int_int ⟨.int i,H,I,⟨_,rfl⟩,q⟩
 .obtain⟨u,rfl,r1⟩:=vals1 r;cases r1;exact call_int_bool ⟨.int (if k then 1 else 0),H,I.tok _,⟨_,rfl⟩,q⟩
end
structure ObjM (h:cL) (x dx C:ah) (mA:Str->ai ao):Prop where
 obj:h.get? x=some (PySem.W.instObj C dx)
 ns:h.Ns1 dx mA
 ne:dx≠x
def UB{h:cL}{dx:ah}{mA:Str->ai ao}(n:h.Ns1 dx mA):∃od,h.get? dx=some od/\∀name,PySem.W.lookIn name od=some (mA name):=by
 obtain⟨o,es,ep,ho,hd,hk,_,hm⟩:=n;refine⟨o,ho,λname=>?_⟩
 have e:=hm name;unfold nsFind findBy at e;rw[<-Array.find?_toList] at e;unfold PySem.W.lookIn;rw[hd];dsimp only;split
 .rename_i y q
  rw[q] at e;exact congrArg some e
 .rename_i q
  rw[q] at e;have a:es.toList.any (·.refKey)=false:=by
   rw[List.any_eq_false];intro y hy;obtain⟨z,t,Lw⟩:=hk y (Array.mem_toList_iff.mp hy);simp[DictEntry.refKey,Lw]
  have a':¬es.toList.any (·.refKey)=true:=by rw[a];exact o5
  rw[aW a'];exact congrArg some e
section
variable{prog:eW}{w:df}{A:dD}{E:ao->az->Prop}{s:az}{K:FG}{x dx C f:ah}{mA:Str->ai ao}{name:Str}{v:ao}
end
def nD.some_of{v:V}{o:ai ao}(r:nD (some v) o):∃u,o=some u/\RelV v u:=by
 cases o with
 |none=>exact(show False from r).elim
 |some u=>exact⟨u,rfl,r⟩
section
variable{P:eW}{w:df}{H H':Hp}{h h':cL}{a C dx:ah}{fs AO:List (Str×V)}
end
structure Tj (K:FG) (C:ah):Prop where
 pg:PySem.W.plainGet K C Str.empty=true
 hd:PySem.W.hasDictIn K C=true
 po:PySem.W.plainOver K C=true
 sa:PySem.W.findIn K (.ref C) "__setattr__"=some (some (.builtin "object.__setattr__"))
structure Con (K:FG) (C:ah) (f:Str) (v:V) (u:ao):Prop where
 at_:PySem.W.findIn K (.ref C) f=some (some u)
 rel:RelV v u
 get:PySem.W.specialIn K u "__get__"=some none
 cp:PySem.W.copiedNames.contains f=false
structure Meth (K:FG) (C:ah) (m:Str) (f:ah):Prop where
 at_:PySem.W.findIn K (.ref C) m=some (some (.ref f))
 fn:PySem.W.isFn K (.ref f)=true
 kp:PySem.W.keepIn K (.ref f)=true
section
variable{X:Cx}{aa:List (ah×Obj)}{Z:St}{H:Hp}{s:az}{a C dx:ah}{fs:List (Str×V)}{f:Str}{v:V}{A:dD}{E:ao->az->Prop}
end
section
variable{X:Cx}{o e value:Expr}{f:Str}{pos pos' m7:Pos}{ta tv:TE}
end
section
variable{X:Cx}{aa:List (ah×Obj)}{Z:St}{H:Hp}{s:az}{A:dD}{E:ao->az->Prop}{Q:ao->az->Prop}{c:ao}{b:Bool}
inductive kM (K:FG) (H:Hp):V->ao->Prop where
 |bh:kM K H .bh (.type "NoneType")
 |bl (x:Bool):kM K H (.bl x) (.type "bool")
 |int (i:Int):kM K H (.int i) (.type "int")
 |str (x:Str):kM K H (.str x) (.type "str")
 |AN (x:UInt64):kM K H (.AN x) (.type "float")
 |lst {a:ah} {xs:List V} (e:H a=some (.lst xs)):kM K H (.ref a) (.type "list")
 |Y {a:ah} {o:Obj} {xs:List V} (e:H a=some (.Y o (.lst xs))):kM K H (.ref a) (.type "list")
 |tup {a:ah} {xs:List V} (e:H a=some (.tup xs)):kM K H (.ref a) (.type "tuple")
 |dK {a:ah} {kvs:List (Key×V)} (e:H a=some (.dK kvs)):kM K H (.ref a) (.type "dict")
 |dT {a:ah} {kvs:List (List Key×V)} (e:H a=some (.dT kvs)):kM K H (.ref a) (.type "dict")
 |ins {a C dx:ah} {fs:List (Str×V)} (e:H a=some (.ins C dx fs)) (cl:Tj K C) (ha:PySem.W.findIn K (.ref C) "__class__"=some (some (.builtin "object.__class__")))
   (hn:PySem.W.specialIn K (.builtin "object.__class__") "__get__"=some (some (.builtin "getset_descriptor.__get__"))) (htk:PySem.W.takesIn K (.builtin "object.__class__")=some true)
   (hm:PySem.W.mroIn K C (.type "object")=some true):kM K H (.ref a) (.ref C)
end
structure dj (k:Nat) (A:dD):Prop where
 hd:A.handled=none
 dp:A.depth+3*k+5<recursionLimit
 un:A.units+16*k+200<cLine
def dj.mono{j k:Nat}{A:dD}(r:dj k A)(h:j<=k):dj j A:=⟨r.hd,by have:=r.dp;lia,by have:=r.un;lia⟩
def dj.deeper{k:Nat}{A:dD}(r:dj (k+1) A)(env:Env):dj k (A.deeper env):=
 ⟨r.hd,by have:=r.dp;show A.depth+1+3*k+5<_;lia,by have:=r.un;show A.units+3+16*k+200<_;lia⟩
def dj.depth{k:Nat}{A:dD}(r:dj k A):A.depth<recursionLimit:=by have:=r.dp;lia
def dj.units{k:Nat}{A:dD}(r:dj k A):A.units+64<cLine:=by have:=r.un;lia
def My:TA:=λ_ H Q=>Q [] H
def xc(ta:TE)(tr:TA):TA:=λZ H Q=>ta Z H λx H1=>tr Z H1 λxs H2=>Q (x::xs) H2
section
variable{X:Cx}{e:Expr}{es:List Expr}{te:TE}{t:TA}{pos:Pos}
def mV:PA X [] My:=λ_ _ _ _ H Q I h=>Calls.spliced_nil ⟨[],H,I,.nil,h⟩
def zF(ha:PE X e te)(hr:PA X es t)(hs:starEach (e::es) X.env=(false,eval e X.env)::starEach es X.env:=by rfl):PA X (e::es) (xc te t):=by
 intro pos aa s Z H Q I h;rw[hs];show wpAny _ _ (spliced ((false,eval e X.env)::backTo pos (starEach es X.env))) _ _ s;refine Calls.spliced_cons (cR (ha aa s Z H _ I h) λu s1 hh=>?_)
 obtain⟨x,H1,I1,r1,q1⟩:=hh;exact cR (hr pos aa s1 Z H1 _ I1 q1) λus s2 ⟨xs,H2,I2,r2,q2⟩=>⟨x::xs,H2,I2,.cons r1 r2,q2⟩
def MC(t:TA):TE:=λZ H Q=>t Z H λxs H1=>xs.length<=sizeLine/\∀p,H1 p=none->Q (.ref p) (upd H1 p (.tup xs))
def Mx(t:TA):TE:=λZ H Q=>t Z H λxs H1=>xs.length<=sizeLine/\∀p,H1 p=none->Q (.ref p) (upd H1 p (.lst xs))
def QN{x1}(h:PA X es t):PE X (.Tuple es x1 pos) (MC t):=by
 intro aa s Z H Q I hq;refine wpAny_Tuple_spliced (cR (h pos aa s Z H _ I hq) λus s1 ⟨xs,H1,I1,r,z,q⟩=>⟨by rw[<-r.length];exact z,?_⟩)
 have hf:H1 s1.heap.objs.size=none:=I1.cg.fresh (c7 _);refine⟨.ref s1.heap.objs.size,upd H1 s1.heap.objs.size (.tup xs),I1.laid (t':=s1.toks) (λb u e=>iP _ e) (c7 _) ?_,rfl,q _ hf⟩
 exact⟨z,us,r,⟨_,oI _ rfl,rfl,_,rfl⟩⟩
def Y9(h:PA X es t):PE X (.List es pos) (Mx t):=by
 intro aa s Z H Q I hq;refine wpAny_List_spliced (cR (h pos aa s Z H _ I hq) λus s1 ⟨xs,H1,I1,r,z,q⟩=>⟨by rw[<-r.length];exact z,?_⟩)
 have hf:H1 s1.heap.objs.size=none:=I1.cg.fresh (c7 _);refine⟨.ref s1.heap.objs.size,upd H1 s1.heap.objs.size (.lst xs),I1.laid (t':=s1.toks) (λb u e=>iP _ e) (c7 _) ?_,rfl,q _ hf⟩
 exact⟨z,us,0,r,oI _ rfl⟩
end
abbrev Sp:=List V->Hp->VK->XK->Prop
abbrev p9:=List Env->Hp->az->XK->ao->az->Prop
structure uH (P:eW) (w:df) (K:FG) (mg:Str->ai ao) (base:cL) (A:dD) (outer:List Env) (s:az) (H:Hp):Prop where
 frames:A.frames=some outer
 mod:Mod K mg base
 bs:∀b o,base.get? b=some o->s.heap.get? b=some o/\H b=none
 rE:base.objs.size<=s.heap.objs.size
 jn:s.heap.FunFrames base outer
 uy:∀b∈kT outer,H b=none
 cg:jZ P w H s.heap
 bare:AllBare s.gens
def CE(outer:List Env)(P:eW)(w:df)(H:Hp)(s:az)(Q:VK)(u:ao)(s':az):Prop:=
 ∃v H',s'.os=s.os/\AllBare s'.gens/\Un (kT outer) [] H H' s.heap s'.heap/\jZ P w H' s'.heap/\RelV v u/\Q v H'
def CR(CX:p9)(outer:List Env)(P:eW)(w:df)(H:Hp)(s:az)(Q:VK)(E:XK)(r:Result)(s':az):Prop:=
 match r with
 |.ok (.ret u)=>CE outer P w H s Q u s'
 |.ok _=>False
 |.error e=>CX outer H s E e s'
structure bN (P:eW) (w:df) (K:FG) (mg:Str->ai ao) (base:cL) (CX:p9) (k:Nat) (f:ah) (fd:jM) (ps:List Str) (sp:Sp):Prop where
 len:∀vs H Q E,sp vs H Q E->vs.length=ps.length
 run:∀(A:dD) (outer:List Env) (s:az) (H:Hp) (args:Args) (us:List ao) (vs:List V) (Q:VK) (E:XK),dj k A->uH P w K mg base A outer s H->BindsTo s fd args (ps.zip us)->Vals vs us->sp vs H Q E->
  codeAny (model P w) A (.call (.ref f) args) (CR CX outer P w H s Q E) s
def bN.imp{P:eW}{w:df}{K:FG}{mg:Str->ai ao}{base:cL}{CX:p9}{k:Nat}{f:ah}{fd:jM}{ps:List Str}{sp S9:Sp}(F:bN P w K mg base CX k f fd ps sp)
  (h:∀vs H Q E,S9 vs H Q E->sp vs H Q E):bN P w K mg base CX k f fd ps S9:=
 ⟨λvs H Q E q=>F.len vs H Q E (h _ _ _ _ q),λA outer s H args us vs Q E hr he hb hv hs=>F.run A outer s H args us vs Q E hr he hb hv (h _ _ _ _ hs)⟩
section
variable{X:Cx}{aa:List (ah×Obj)}{Z:St}{H:Hp}{s s':az}
def Inv.K3(I:Inv X aa Z H s):uH X.prog X.w X.K X.mg X.base X.A X.stack s H:=
 ⟨I.ok.frames,I.ok.mod,I.bs,kH I.ok.rE I.sz,I.stack,I.kF,I.cg,I.bare⟩
def Inv.after{Q:VK}{u:ao}(I:Inv X aa Z H s)(h:CE X.stack X.prog X.w H s Q u s'):EP X aa Z Q u s':=by
 obtain⟨v,H',os,bare,un,cg,r,q⟩:=h;obtain⟨hh,g,d,t,yO⟩:=s';obtain rfl:yO=s.os:=os;exact⟨v,H',I.call (h':=hh) (g':=g) (d':=d) (t':=t) (ch:=[]) un cg bare (λb z=>b_ z (by simp)),r,q⟩
end
def oE(sp:Sp)(wq:List V)(E:St->XK)(t:TA):TE:=λZ H Q=>t Z H λvs H1=>sp (vs++wq) H1 Q (E Z)
def Binds(K:FG)(fd:jM)(ps:List Str)(ds:List ao):Prop:=
 ∀(s:az) (us:List ao),K.In s.heap->(us++ds).length=ps.length->BindsTo s fd ⟨us,[]⟩ (ps.zip (us++ds))
def Binds.all{K:FG}{fd:jM}{ps:List Str}(h:∀us:List ao,us.length=ps.length->bindArgs fd ⟨us,[]⟩=pure (ps.zip us)):Binds K fd ps []:=λs us _ hl=>by
 rw[j9] at hl ⊢;exact .of_eq (h us hl)
def Gg(CX:p9)(X:Cx)(E:St->XK):Prop:=∀(aa:List (ah×Obj)) (Z:St) (H:Hp) (s:az) (e:ao) (s':az),Inv X aa Z H s->CX X.stack H s (E Z) e s'->X.xe e s'
section
variable{X:Cx}{CX:p9}{k:Nat}{f C:ah}{fd:jM}{ps:List Str}{sp:Sp}{wq:List V}{ds:List ao}{E:St->XK}{x m:Str}{p pos apos:Pos}{e o:Expr}{es:List Expr}{ta:TE}{t:TA}
def Y_{aa:List (ah×Obj)}{Z:St}{H:Hp}{s:az}{Q:VK}{us:List ao}{vs:List V}(F:bN X.prog X.w X.K X.mg X.base CX k f fd ps sp)(hr:dj k X.A)(hb:Binds X.K fd ps ds)(hd:Vals wq ds)(hx:Gg CX X E)
  (I:Inv X aa Z H s) (r:Vals vs us) (h:sp (vs++wq) H Q (E Z)):wpAny (model X.prog X.w) X.A (call (.ref f) us) (EP X aa Z Q) X.xe s:=by
 have r2:Vals (vs++wq) (us++ds):=r.append hd;have hl:(us++ds).length=ps.length:=by rw[<-r2.length];exact F.len _ _ _ _ h
 refine wpAny_call (codeAny_mono (F.run X.A X.stack s H ⟨us,[]⟩ (us++ds) (vs++wq) Q (E Z) hr I.K3 (hb s us I.rH hl) r2 h) λr s' hq=>?_)
 cases r with
 |error e=>exact hx aa Z H s e s' I hq
 |ok fl=>
  cases fl with
  |ret u=>exact I.after hq
  |next=>exact False.elim hq
  |brk=>exact False.elim hq
  |cont=>exact False.elim hq
def Pd(F:bN X.prog X.w X.K X.mg X.base CX k f fd ps sp)(hr:dj k X.A)(hg:Gl X x)(hm:X.mg x=some (.ref f))(hk:PySem.W.keepIn X.K (.ref f)=true)(hb:Binds X.K fd ps ds)(hd:Vals wq ds)(hx:Gg CX X E)
  (ha:PA X (e::es) t) (lT:(x == ("__debug__":Str))=false:=by decide) (he:starEach (e::es) X.env=(false,eval e X.env)::starEach es X.env:=by rfl) (iW:(backTo pos (starEach es X.env)).any (·.1)=false:=by rfl) :
  PE X (.Call (.Name x p) (e::es) [] pos) (oE sp wq E t):=by
 intro aa s Z H Q I h;refine wpAny_Call_Name_kw (FE I hg hm ?_ lT);refine PySem.W.callWith_K (h₀:=X.base) I.ok.mod.Hk hk (cR (ha pos aa s Z H _ I h) λus s1 ⟨vs,H1,I1,r,q⟩=>⟨I1.rH,?_⟩) he iW
 exact Y_ F hr hb hd hx I1 r q
structure Mk (K:FG) (C f:ah):Prop where
 makes:PySem.W.makesIn K C=true
 init:PySem.W.findIn K (.ref C) "__init__"=some (some (.ref f))
 fn:PySem.W.isFn K (.ref f)=true
 kp:PySem.W.keepIn K (.ref C)=true
end
section
variable{X:Cx}{CX:p9}{k:Nat}{f C:ah}{fd:jM}{ps ks:List Str}{sp:Sp}{E:St->XK}{x m:Str}{p pos apos kpos:Pos}{e o:Expr}{es:List Expr}{kws:List Keyword}{te ta:TE}{t tk:TA}{nm:ai Str}
structure KBinds (K:FG) (fd:jM) (ps ks:List Str) (g:List ao->List ao->List ao) (gV:List V->List V->List V):Prop where
 to:∀(s:az) (us ws:List ao),K.In s.heap->(g us ws).length=ps.length->BindsTo s fd ⟨us,ks.zip ws⟩ (ps.zip (g us ws))
 rel:∀{vs:List V} {us:List ao} {zs:List V} {ws:List ao},Vals vs us->Vals zs ws->Vals (gV vs zs) (g us ws)
variable{g:List ao->List ao->List ao}{gV:List V->List V->List V}
end
structure aL (N P:List Str) (sc:Scope):Prop where
 kind:sc.kind=.function
 co:sc.isCoroutine=false
 gen:sc.isGenerator=false
 nd:N.Nodup
 pre:N.take P.length=P
 par:∀x∈P,sc.names.lookup x=some .local \/ sc.names.lookup x=some .cell
 yH:∀y∈sc.names,y.2≠.free
theorem NP{kindOf:Str->ai p6}{x:Str}:∀{binds:List (Str×ao)} {m:Str->ai ao},(∀v,(x,v)∉binds)->bindL kindOf binds m x=m x
 |[],_,_=>rfl
 |(n,v)::r,m,h=>by
  unfold bindL;rw[NP λw hw=>h w (oZ _ hw)]
  split
  .have:x≠n:=by rintro rfl;exact h v qz
   simp[this]
  .rfl
theorem NQ{kindOf:Str->ai p6}{x:Str}:∀{binds:List (Str×ao)} {m:Str->ai ao},(∀v,(x,v)∉binds)->bindC kindOf binds m x=m x
 |[],_,_=>rfl
 |(n,v)::r,m,h=>by
  unfold bindC;rw[NQ λw hw=>h w (oZ _ hw)]
  split
  .rfl
  .have:x≠n:=by rintro rfl;exact h v qz
   simp[this]
theorem NR{kindOf:Str->ai p6}{x:Str}{v:ao}:∀{P:List Str} {vs:List ao} {i:Nat} {m:Str->ai ao},P.Nodup->P[i]?=some x->vs[i]?=some v->kindOf x=some .local ->
  bindL kindOf (P.zip vs) m x=some v
 |[],_,_,_,_,h,_,_=>by simp at h
 |_::_,[],_,_,_,_,h,_=>by simp at h
 |p::P,w::vs,0,m,nd,h1,h2,hk=>by
  simp at h1 h2;subst h1;subst h2;show bindL kindOf ((p,w)::P.zip vs) m p=_;unfold bindL;rw[NP λv hv=>(jr.mp nd).1 (List.of_mem_zip hv).1,aT hk]
  simp
 |p::P,w::vs,i+1,m,nd,h1,h2,hk=>by
  show bindL kindOf ((p,w)::P.zip vs) m x=_;unfold bindL;exact NR (i:=i) (jr.mp nd).2 (by simpa using h1) (by simpa using h2) hk
theorem NS{kindOf:Str->ai p6}{x:Str}{v:ao}:∀{P:List Str} {vs:List ao} {i:Nat} {m:Str->ai ao},P.Nodup->P[i]?=some x->vs[i]?=some v->kindOf x≠some .local ->
  bindC kindOf (P.zip vs) m x=some v
 |[],_,_,_,_,h,_,_=>by simp at h
 |_::_,[],_,_,_,_,h,_=>by simp at h
 |p::P,w::vs,0,m,nd,h1,h2,hk=>by
  simp at h1 h2;subst h1;subst h2;show bindC kindOf ((p,w)::P.zip vs) m p=_;unfold bindC;rw[NQ λv hv=>(jr.mp nd).1 (List.of_mem_zip hv).1,aW hk]
  simp
 |p::P,w::vs,i+1,m,nd,h1,h2,hk=>by
  show bindC kindOf ((p,w)::P.zip vs) m x=_;unfold bindC;exact NS (i:=i) (jr.mp nd).2 (by simpa using h1) (by simpa using h2) hk
noncomputable def start(N:List Str)(vs:List V):St:=vs.map some++List.replicate (N.length - vs.length) none
noncomputable def kc(CX:p9)(P:eW)(w:df)(K:FG)(mg:Str->ai ao)(base:cL)(N:List Str)(qual:Str)(scope:Scope)(f:ah)(cd:ao)(A:dD)(outer:List Env)(s:az)(H:Hp)(E:XK):Cx where
 prog:=P
 w:=w
 K:=K
 mg:=mg
 base:=base
 A:=A.deeper (envOfC qual scope s.heap.objs.size f cd)
 N:=N
 s₀:=s
 H₀:=H
 env:=envOfC qual scope s.heap.objs.size f cd
 outer:=outer
 stack:=envOfC qual scope s.heap.objs.size f cd::outer
 ex:=[]
 calm:=true
 fn:=λ_=>true
 pn:=[]
 xe:=λe s'=>wpAny (model P w) (A.deeper (envOfC qual scope s.heap.objs.size f cd)) (leaving (envOfC qual scope s.heap.objs.size f cd) e) (λ_ tO=>CX outer H s E e tO) (λe' tO=>CX outer H s E e' tO) s'
def Oz{sc:Scope}{n:Nat}{x:Str}(h:sc.names.lookup x=some .cell):∃c,(cellsFrom n sc.names []).lookup x=some c:=by
 have q:=PySem.W.cellsFrom_some sc.names n [] (.inl h);exact MO.mp q
def UC{CX:p9}{P:eW}{w:df}{K:FG}{mg:Str->ai ao}{base:cL}{N ps:List Str}{qual:Str}{scope:Scope}{f:ah}{cd:ao}{A:dD}{outer:List Env}{s s1:az}{H:Hp}{E:XK}{us:List ao}{vs:List V}
  (S:aL N ps scope) (hd:A.handled=none) (e0:uH P w K mg base A outer s H) (hl:vs.length=ps.length) (r:Vals vs us)
  (x:InCallC s s.heap.objs.size (bindL (envOfC qual scope s.heap.objs.size f cd).kindOf (ps.zip us) λ_=>none) (cellsFrom (s.heap.objs.size+1) scope.names []) (bindC (envOfC qual scope s.heap.objs.size f cd).kindOf (ps.zip us) λ_=>none) s1) :
  Inv (kc CX P w K mg base N qual scope f cd A outer s H E) [] (start N vs) H s1:=by
 have iW:ps.length<=N.length:=by have:=congrArg List.length S.pre;rw[rg] at this;lia
 obtain⟨h1,tk,rfl,hk⟩:=x.done;have DM:∀b:ah,b∉(kc CX P w K mg base N qual scope f cd A outer s H E).ex:=λb z=>b_ (show b∈([]:List ah) from z) (by simp)
 refine⟨⟨e0.mod,S.kind,rfl,rfl,c7 _,λy z c h1 h2=>?_,λy hy=>?_,λy c _ h=>?_,λ_=>hd,Around.frames_deeper e0.frames,.inr ⟨rfl,rfl⟩,λb z=>b_ z (DM b),e0.bs,e0.rE,λb _ _=>DM b,λb z=>b_ z (DM b),e0.jn,e0.uy⟩,rfl,e0.bare,Un.kept hk,⟨_,x.toInCall.ns,λi y v h1 h2 h3=>?_⟩,λy c h=>⟨_,x.cell y c h⟩,e0.cg.fresh (c7 _),λy c h=>?_,λp hp=>b_ (show p∈([]:List (ah×Obj)) from hp) (by simp),e0.cg.kept hk,?_⟩
 .exact name_of_addr x.apart (PySem.mem_of_lookup h1) (PySem.mem_of_lookup h2)
 .have hy:scope.names.lookup y=some .cell\/scope.names.lookup y=some .free:=hy;rcases hy with hy|hy
  .exact Oz hy
  .exact b_ rfl (S.yH _ (PySem.mem_of_lookup hy))
 .exact MM (x.above y c (PySem.mem_of_lookup h))
 .have hi:i<vs.length:=by
   unfold start at h2;by_cases hi:i<vs.length
   .exact hi
   .rw[HF (by simpa using hi)] at h2
    rw[List.getElem?_replicate] at h2;split at h2 <;> cases h2
  have ha:vs[i]?=some v:=by
   unfold start at h2;rw[HG (by simpa using hi),lC] at h2
   cases e:vs[i]? with
   |none=>rw[e] at h2;cases h2
   |some a=>rw[e] at h2;cases h2;rfl
  obtain⟨u,hu,rv⟩:=r.get ha;have hp:ps[i]?=some y:=by
   rw[<-S.pre,List.getElem?_take_of_lt (by lia)];exact h1
  have SS:ps.Nodup:=by rw[<-S.pre];exact S.nd.sublist (List.take_sublist _ _)
  refine⟨u,rv,?_⟩;rcases S.par y (Bk hp) with k|k
  .exact .inl ⟨k,NR SS hp hu k⟩
  .obtain⟨c,e⟩:=Oz (n:=s.heap.objs.size+1) k;refine .inr ⟨.inl k,c,e,?_⟩;have q:=x.cell y c e;rw[NS SS hp hu (by show scope.names.lookup y≠_;rw[k];decide)] at q
   exact q
 .exact e0.cg.fresh (MM (x.above y c (PySem.mem_of_lookup h)))
 .unfold start;show _=N.length;rw[fu,bY,List.length_replicate];lia
def RK{CX:p9}{P:eW}{w:df}{K:FG}{mg:Str->ai ao}{base:cL}{k:Nat}{f:ah}{name qual:Str}{params:Arguments}{body:List Stmt}{scope:Scope}{dV kV doc pm cQ ct oc:ao}{an od:ai ah}
  {s_:Array (ai ao)} {N ps:List Str} {sp:Sp} (lk:K.lookup f=some ⟨oc,od,.func (PySem.W.fnOf name qual params body scope dV kV doc pm an cQ ct),s_⟩) (pD:PySem.W.codeIn K cQ qual=true) (S:aL N ps scope)
  (len:∀vs H Q E,sp vs H Q E->vs.length=ps.length)
  (iI:∀(A:dD) (outer:List Env) (s:az) (H:Hp) (vs:List V) (Q:VK) (E:XK),dj k (A.deeper (envOfC qual scope s.heap.objs.size f cQ))->sp vs H Q E-> ∃t,gR (kc CX P w K mg base N qual scope f cQ A outer s H E) body t/\t { nx:=λ_ H'=>Q .bh H',rt:=Q} (start N vs) H) :
  bN P w K mg base CX (k+1) f (PySem.W.fnOf name qual params body scope dV kV doc pm an cQ ct) ps sp:=by
 refine⟨len,λA outer s H args us vs Q E hr e0 hb r wH=>?_⟩
 have hl:=len _ _ _ _ wH;have KX:K.In s.heap:=e0.mod.Hk.keeps λb o e=>(e0.bs b o e).1
 have lim:s.heap.NoLimit:=e0.mod.nolimit.keeps λb o e=>(e0.bs b o e).1
 have Dt:∀y∈ps.zip us,scope.names.lookup y.1=some .local \/ (scope.names.lookup y.1=some .cell/\((cellsFrom (s.heap.objs.size+1) scope.names []).lookup y.1).isSome=true):=λ⟨n,v⟩ hy=>by
  rcases S.par n (List.of_mem_zip hy).1 with q|q
  .exact .inl q
  .exact .inr ⟨q,PySem.W.cellsFrom_some _ _ _ (.inl q)⟩
 refine codeAny_call_function hr.depth (KX _ _ lk) rfl S.co S.gen rfl (PySem.W.codeRec_of KX pD) (hb _ _ _ _ ?_);refine wpAny_newFunctionEnv_cells S.kind Dt λenv he s1 x=>?_
 subst he;refine⟨lim.keeps x.toInCall.keep,codeAny_func ?_⟩;obtain⟨t,ht,hq⟩:=iI A outer s H vs Q E (hr.deeper _) wH;have I:Inv (kc CX P w K mg base N qual scope f cQ A outer s H E) [] (start N vs) H s1:=UC S hr.hd e0 hl r x;refine wpAny_mono (ht [] s1 (start N vs) H _ I hq) (λfl s' hs=>?_) λe s' hs=>hs
 have fin:∀{Z':St} {H':Hp} {v:V} {u:ao},Inv (kc CX P w K mg base N qual scope f cQ A outer s H E) [] Z' H' s'->RelV v u->Q v H'->CE outer P w H s Q u s':=
  λ{Z' H' v u} J rv q=>⟨v,H',J.os,J.bare,J.base,J.cg,rv,q⟩
 cases fl with
 |ret u=>
  obtain⟨v,Z',H',J,rv,q⟩:=hs;exact fin J rv q
 |next=>
  obtain⟨Z',H',J,q⟩:=hs;exact fin (v:=V.bh) (u:=Value.none) J rfl q
 |brk=>
  obtain⟨_,_,_,q⟩:=hs;exact False.elim q
 |cont=>
  obtain⟨_,_,_,q⟩:=hs;exact False.elim q
section
variable{X:Cx}{x:Str}{p pos:Pos}{e:Expr}{es:List Expr}{t:TA}{id T:String}{r:List V->Hp->VK->Prop}
def Tc(r:List V->Hp->VK->Prop)(t:TA):TE:=λZ H Q=>t Z H λvs H1=>r vs H1 Q
def IP(hc:cA X (.builtin id) r)(hg:Gl X x)(hm:X.mg x=none)(hv:bootBuiltins x=some (.builtin id))(ha:PA X (e::es) t)(hn:x≠"__name__":=by decide)(lT:(x == ("__debug__":Str))=false:=by decide)
  (he:starEach (e::es) X.env=(false,eval e X.env)::starEach es X.env:=by rfl) (iW:(backTo pos (starEach es X.env)).any (·.1)=false:=by rfl):PE X (.Call (.Name x p) (e::es) [] pos) (Tc r t):=by
 intro aa s Z H Q I h;refine wpAny_Call_Name_kw (xT I hg hm hv ?_ hn lT);exact PyProof.Rows.callWith_builtin1 (cR (ha pos aa s Z H _ I h) λus s1 ⟨vs,H1,I1,r1,q1⟩=>hc aa s1 Z H1 vs us Q I1 r1 q1) he iW
def UD(hc:cA X (.type T) r)(hg:Gl X x)(hm:X.mg x=none)(hv:bootBuiltins x=some (.type T))(ha:PA X (e::es) t)(hn:x≠"__name__":=by decide)(lT:(x == ("__debug__":Str))=false:=by decide)
  (he:starEach (e::es) X.env=(false,eval e X.env)::starEach es X.env:=by rfl) (iW:(backTo pos (starEach es X.env)).any (·.1)=false:=by rfl):PE X (.Call (.Name x p) (e::es) [] pos) (Tc r t):=by
 intro aa s Z H Q I h;refine wpAny_Call_Name_kw (xT I hg hm hv ?_ hn lT);exact PyProof.Rows.callWith_type1 (cR (ha pos aa s Z H _ I h) λus s1 ⟨vs,H1,I1,r1,q1⟩=>hc aa s1 Z H1 vs us Q I1 r1 q1) he iW
end
end L2
namespace HT
open PySem PyProof.Rows
section
open PySem.SeqAt
open PySem.AutoSeq1 (wpAny_loadPart')
open PySem.MeetsSeq PySem.MeetsSeq2 PySem.MeetsSeq3
end
variable{t sl:ah}{Q:ao->az->Prop}{vl vu:ao}{lo hi:ai Int}
section
variable{prog:eW}{w:df}{A:dD}{E:ao->az->Prop}{s:az}
def uY{b:ah}{vs ws:List ao}(ht:IsTup s.heap t vs.toArray)(hb:IsTup s.heap b ws.toArray)(hv:vs≠[])
  (h1:ws=[]->Q (.ref t) s) (h2:ws≠[]->Q (.ref s.heap.objs.size) { s with heap:=s.heap.push { cls:=.type "tuple",data:=.seq (vs++ws).toArray}})
  (hsz:vs.length+ws.length<=sizeLine):wpAny (model prog w) A (binaryOp .Add (.ref t) (.ref b)) Q E s:=by
 obtain⟨⟨cls,dd,data,sl⟩,ho,hc,n,hd⟩:=id ht;obtain⟨⟨Ko,wk,data2,Ht⟩,yx,Dm,n2,hd2⟩:=id hb;simp only at hc hd Dm hd2;subst hc hd Dm hd2;have e:vs.toArray++ws.toArray=(vs++ws).toArray:=by simp
 by_cases hw:ws=[]
 .exact concat_meets ⟨_,ho,rfl⟩ ⟨_,yx,rfl⟩ noFill_tuple_add seq_tuple_add PySem.F.slot_tuple_add PySem.F.entry_tuple_add (PySem.F.args_tuple_add_2 _ _)
   (tuple_addW1 t b vs.toArray ws.toArray n n2 dd wk sl Ht (by simpa using hv) (by simp[hw])) ⟨ho,yx,h1 hw⟩
 .refine concat_meets ⟨_,ho,rfl⟩ ⟨_,yx,rfl⟩ noFill_tuple_add seq_tuple_add PySem.F.slot_tuple_add PySem.F.entry_tuple_add (PySem.F.args_tuple_add_2 _ _)
   (tuple_addW2 t b vs.toArray ws.toArray n n2 dd wk sl Ht (by simpa using hv) (by simpa using hw) (by rw[fP,fP];exact hsz)) ⟨ho,yx,?_⟩
  rw[e];exact h2 hw
noncomputable def dA(n d:Nat):ai Int->Nat
 |none=>d
 |some v=>if v<0 then(v+(n:Int)).toNat else min v.toNat n
def Y'(n d:Nat)(hd:d<=n)(o:ai Int):dA n d o<=n:=by
 cases o with
 |none=>exact hd
 |some v=>
  show(if v<0 then(v+(n:Int)).toNat else min v.toNat n)<=n
  by_cases hv:v<0
  .rw[aT hv];lia
  .rw[aW hv];exact Nat.min_le_right _ _
def Pe(v:Int)(n d:Nat):(if v<0 then max (v+(n:Int)) 0 else min v (n:Int))=((dA n d (some v):Nat):Int):=by
 show(if v<0 then max (v+(n:Int)) 0 else min v (n:Int))=(((if v<0 then(v+(n:Int)).toNat else min v.toNat n):Nat):Int)
 by_cases hv:v<0
 .simp only[aT hv];lia
 .simp only[aW hv];lia
def T4(lo hi:ai Int)(n:Nat):Builtin.Slice.sliceAdjust lo hi 1 (n:Int)=(((dA n 0 lo:Nat):Int),((dA n n hi:Nat):Int)):=by
 have h1:¬((1:Int)<0):=by lia
 unfold Builtin.Slice.sliceAdjust;simp only[h1,cX];refine Prod.ext ?_ ?_
 .cases lo with
  |none=>rfl
  |some v=>exact Pe v n 0
 .cases hi with
  |none=>rfl
  |some v=>exact Pe v n n
def T5(i j:Nat):Builtin.Slice.slicePlaces (i:Int) (j:Int) 1=j - i:=by
 unfold Builtin.Slice.slicePlaces;have h1:(1:Int) > 0:=by lia
 simp only[h1,a_,Int.ediv_one];split <;> lia
def Nl{v:ao}{o:ai Int}{Q:ai Int->az->Prop}(p:IsPart v o)(h:Q o s):wpAny (model prog w) A (Builtin.Slice.slicePartIndex v) Q E s:=by
 cases p with
 |none=>exact slicePart_none h
 |int i t=>exact slicePart_int h
def Tv{n:Nat}{Q:Int×Int×Nat->az->Prop}(hs:s.heap.IsSliceOf sl vl vu .none)(pl:IsPart vl lo)(pu:IsPart vu hi)
  (h:Q (((dA n 0 lo:Nat):Int),1,dA n n hi - dA n 0 lo) s):wpAny (model prog w) A (Builtin.Slice.sliceApplied (.ref sl) (pure (n:Int))) Q E s:=by
 obtain⟨os,Dv,So,G7⟩:=id hs;unfold Builtin.Slice.sliceApplied Builtin.Slice.sliceFields;refine aK (aK (wpAny_field Dv G7 (x:=vl) rfl (aK (wpAny_field Dv G7 (x:=vu) rfl (aK (wpAny_field Dv G7 (x:=.none) rfl (bW ?_)))))));refine aK (slicePart_none ?_);show wpAny _ _ (if((1:Int) == 0)=true then _ else _) _ _ s
 rw[aW (by decide)]
 refine aK (Nl pl (aK (Nl pu (aK (bW ?_)))));show wpAny _ _ (match Builtin.Slice.sliceAdjust lo hi 1 (n:Int) with|(lo,hi)=>pure (lo,(1:Int),Builtin.Slice.slicePlaces lo hi 1)) _ _ s
 rw[T4 lo hi n];show wpAny _ _ (pure (((dA n 0 lo:Nat):Int),(1:Int),Builtin.Slice.slicePlaces ((dA n 0 lo:Nat):Int) ((dA n n hi:Nat):Int) 1)) _ _ s;rw[T5];exact bW h
def VH(xs:Array ao)(i k:Nat):((List.range k).filterMap λ(m:Nat)=>xs[((i:Int)+(m:Int)*1).toNat]?).toArray=((xs.toList.drop i).take k).toArray:=by
 have e:(λ(m:Nat)=>xs[((i:Int)+(m:Int)*1).toNat]?)=λm=>xs[i+m]?:=by
  funext m;have:((i:Int)+(m:Int)*1).toNat=i+m:=by lia
  rw[this]
 rw[e];have:=pick_run xs i k;rw[List.filterMap_map] at this;have e2:((λx=>xs[x]?)∘λx=>i+x)=λm=>xs[i+m]?:=rfl
 rw[e2] at this;rw[this]
def jz{items:Array ao}(ht:IsTup s.heap t items)(hs:s.heap.IsSliceOf sl vl vu .none)(pl:IsPart vl lo)(pu:IsPart vu hi)
  (hw:¬(dA items.size 0 lo=0/\dA items.size items.size hi=items.size))
  (h:Q (.ref s.heap.objs.size) { s with heap:=s.heap.push { cls:=.type "tuple",data:=.seq ((items.toList.drop (dA items.size 0 lo)).take (dA items.size items.size hi - dA items.size 0 lo)).toArray}})
  (hsz:items.size<=sizeLine):wpAny (model prog w) A (getItem (.ref t) (.ref sl)) Q E s:=by
 have qo:sizeOk (.seq ((items.toList.drop (dA items.size 0 lo)).take (dA items.size items.size hi - dA items.size 0 lo)).toArray):=by
  show((items.toList.drop (dA items.size 0 lo)).take (dA items.size items.size hi - dA items.size 0 lo)).toArray.size<=sizeLine;rw[fP,rg,vH,Array.length_toList];lia
 have hj:dA items.size items.size hi<=items.size:=Y' _ _ (c7 _) hi;obtain⟨os,Dv,So,G7⟩:=id hs;have hTs:s.TypeIs (.ref sl) "slice":=⟨os,Dv,So⟩;unfold getItem;try with_reducible refine nk ?_
 first|refine aK (bW ?_)|skip
 refine aK (wpAny_sequenceKey ht.typeIs (by decide) ?_)
 refine aK (wpAny_callSpecial?_slot (name:=Str.ofString "__getitem__") ht.typeIs PyProof.Rows.slot_tuple_getitem (wpAny_call_entry PyProof.Rows.slot_tuple_getitem ht.typeIs entry_tuple_getitem ?_ (args_tuple_getitem _ _)))
 show wpAny _ _ (Builtin.Tuple.tupleItemsOf (.ref t) >>= _) _ _ s;refine aK (tupleItemsOf_ ht ?_);refine aK (wpAny_typeOf hTs ?_);rw[aT (by decide)]
 refine aK (Tv hs pl pu ?_);have uz:¬((((dA items.size 0 lo:Nat):Int) == 0&&(1:Int) == 1&&(dA items.size items.size hi - dA items.size 0 lo) == items.size)=true):=by
  intro q;rw[m9,m9] at q;have q1:((dA items.size 0 lo:Nat):Int)=0:=eq_of_beq q.1.1;have q2:dA items.size items.size hi - dA items.size 0 lo=items.size:=eq_of_beq q.2;exact hw ⟨by lia,by lia⟩
 show wpAny _ _ (if(((dA items.size 0 lo:Nat):Int) == 0&&(1:Int) == 1&&(dA items.size items.size hi - dA items.size 0 lo) == items.size)=true then _ else _) _ _ s
 rw[aW uz,VH];first
  |exact aK (m:=Builtin.Tuple.tupleExact _) (wpAny_newObj_type (bW ⟨_,rfl,bW h⟩) qo)
  |exact aK (m:=Builtin.Tuple.tupleExact _) (wpAny_newObj_type (aK (bW (bW ⟨_,rfl,bW h⟩))) qo)
  |exact aK (aK (m:=Builtin.Tuple.tupleExact _) (wpAny_newObj_type (bW (bW ⟨_,rfl,bW h⟩)) qo))
  |exact aK (aK (m:=Builtin.Tuple.tupleExact _) (wpAny_newObj_type (bW ⟨_,rfl,bW h⟩) qo))
end
end HT
namespace L2
open PySem PySem.Spec PyProof.Rows
variable{r:V->ai Int->ai Int->Hp->VK->Prop}{xs:List V}{us aH its':List ao}{n j t':Nat}{i:Int}{aa:List (ah×Obj)}{Z:St}{H:Hp}{s:az}{x:V}
abbrev TO:=St->Hp->(ai Int->Hp->Prop)->Prop
def PO(X:Cx)(e:ai Expr)(t:TO):Prop:=
 ∀(aa:List (ah×Obj)) (s:az) (Z:St) (H:Hp) (Q:ai Int->Hp->Prop),Inv X aa Z H s->t Z H Q->
  wpAny (model X.prog X.w) X.A (evalPart e X.env) (λu s'=>∃o H',Inv X aa Z H' s'/\IsPart u o/\Q o H') X.xe s
def Xh:TO:=λ_ H Q=>Q none H
def Em(t:TE):TO:=λZ H Q=>t Z H λx H1=>∃i,x=.int i/\Q (some i) H1
section
variable{X:Cx}{e:Expr}{te:TE}{lo hi:ai Expr}{tl th:TO}{pos p2:Pos}
def Xi:PO X none Xh:=by
 intro aa s Z H Q I h;rw[evalPart_none];exact bW ⟨none,H,I,.none,h⟩
def Xj(h:PE X e te):PO X (some e) (Em te):=by
 intro aa s Z H Q I hw;rw[evalPart_some];refine cR (h aa s Z H _ I hw) λu s1 hh=>?_
 obtain⟨x,H1,I1,r1,q1⟩:=hh;obtain⟨i,rfl,q⟩:=q1;obtain⟨t,rfl⟩:=r1;exact⟨some i,H1,I1,.int i t,q⟩
def rN(X:Cx)(r:V->ai Int->ai Int->Hp->VK->Prop):Prop:=
 ∀(aa:List (ah×Obj)) (s:az) (Z:St) (H:Hp) (x:V) (v vl vu:ao) (lo hi:ai Int) (sl:ah) (Q:VK),Inv X aa Z H s->RelV x v->s.heap.IsSliceOf sl vl vu .none->IsPart vl lo->IsPart vu hi->r x lo hi H Q->
  ∃T id,typeLookup (.type T) "__getitem__"=pure (some (.builtin id))/\s.TypeIs v T/\wpAny (model X.prog X.w) X.A (getItem v (.ref sl)) (EP X aa Z Q) X.xe s
def rN.or{r':V->ai Int->ai Int->Hp->VK->Prop}(h:rN X r)(h':rN X r'):rN X (λx lo hi H Q=>r x lo hi H Q\/r' x lo hi H Q):=by
 intro aa s Z H x v vl vu lo hi sl Q I rx hs pl pu q;rcases q with q|q
 .exact h aa s Z H x v vl vu lo hi sl Q I rx hs pl pu q
 .exact h' aa s Z H x v vl vu lo hi sl Q I rx hs pl pu q
def tSl(r:V->ai Int->ai Int->Hp->VK->Prop)(te:TE)(tl th:TO):TE:=λZ H Q=>te Z H λx H1=>tl Z H1 λl H2=>th Z H2 λu H3=>r x l u H3 Q
def VI(hr:rN X r)(he:PE X e te)(hl:PO X lo tl)(hu:PO X hi th):PE X (.Subscript e (.Slice lo hi none p2) pos) (tSl r te tl th):=by
 intro aa s Z H Q I h;refine Subscript_ (cR (he aa s Z H _ I h) λv s1 hh=>?_)
 obtain⟨x,H1,I1,r1,q1⟩:=hh;refine wpAny_Slice (cR (hl aa s1 Z H1 _ I1 q1) λvl s2 ⟨l,H2,I2,pl,q2⟩=>cR (hu aa s2 Z H2 _ I2 q2) λvu s3 ⟨u,H3,I3,pu,q3⟩=>?_)
 rw[evalPart_none];refine bW ?_;have I4:Inv X aa Z H3 { s3 with heap:=s3.heap.push { cls:=.type "slice",data:=.fields #[vl,vu,.none]}}:=I3.kept (t':=s3.toks) λb ob q=>iP _ q
 obtain⟨T,id,hT,ht,hg⟩:=hr aa { s3 with heap:=s3.heap.push { cls:=.type "slice",data:=.fields #[vl,vu,.none]}} Z H3 x v vl vu l u s3.heap.objs.size Q I4 r1 (Heap.IsSliceOf.new ..) pl pu q3;show wpAny (model X.prog X.w) X.A (subscriptTail e (.Slice lo hi none p2) v (.ref s3.heap.objs.size)) (EP X aa Z Q) X.xe { s3 with heap:=s3.heap.push { cls:=.type "slice",data:=.fields #[vl,vu,.none]}};exact tail_any (ops:=[.ref s3.heap.objs.size,v]) ht hT hg (by with_unfolding_all rfl)
def nU(xs:List V)(lo hi:ai Int):List V:=(xs.drop (HT.dA xs.length 0 lo)).take (HT.dA xs.length xs.length hi - HT.dA xs.length 0 lo)
def Nb(xs:List V)(lo hi:ai Int):(nU xs lo hi).length<=xs.length:=by
 unfold nU;rw[rg,vH];lia
def yW(K:FG):V->ai Int->ai Int->Hp->VK->Prop:=λx lo hi H Q=>∃a xs,x=.ref a/\gY K H a xs/\
 ¬(HT.dA xs.length 0 lo=0/\HT.dA xs.length xs.length hi=xs.length)/\∀p,H p=none->Q (.ref p) (upd H p (.tup (nU xs lo hi)))
def Za:rN X (yW X.K):=by
 intro aa s Z H x v vl vu lo hi sl Q I rx hs pl pu h;obtain⟨a,xs,rfl,hx,hw,q⟩:=h;cases rx;obtain⟨aH,r,ht,hz⟩:=I.tuple hx;have hlen:aH.toArray.size=xs.length:=by rw[fP];exact r.length.symm
 refine⟨"tuple",_,PyProof.Rows.slot_tuple_getitem.lookup,ht.typeIs,?_⟩;refine HT.jz ht hs pl pu (by rw[hlen];exact hw) ?_ (by rw[hlen];exact hz)
 rw[hlen];refine⟨.ref s.heap.objs.size,_,I.laid (t':=s.toks) (o:=.tup (nU xs lo hi)) (λb ob q=>iP _ q) (c7 _) ?_,rfl,q _ (I.cg.fresh (c7 _))⟩
 exact⟨kH (Nb xs lo hi) hz,_,(r.drop (HT.dA xs.length 0 lo)).take (HT.dA xs.length xs.length hi - HT.dA xs.length 0 lo),IsTup.new _ _⟩
def tJ(K:FG):R2:=λx y H Q=>∃a b xs ys,x=.ref a/\y=.ref b/\gY K H a xs/\gY K H b ys/\xs≠[]/\xs.length+ys.length<=sizeLine/\
 (ys=[]->Q (.ref a) H)/\(ys≠[]->∀p,H p=none->Q (.ref p) (upd H p (.tup (xs++ys))))
def Vals.mT(r:Vals xs us):us=[]↔xs=[]:=by
 cases r with
 |nil=>simp
 |cons _ _=>simp
def Xk:gM X (binaryOp .Add) (tJ X.K):=by
 intro aa s Z H x y v u Q I rx ry h;obtain⟨a,b,xs,ys,rfl,rfl,ha,hb,hx,hz,q1,q2⟩:=h;cases rx;cases ry;obtain⟨aH,r1,p1,_⟩:=I.tuple ha;obtain⟨kj,r2,p2,_⟩:=I.tuple hb;refine HT.uY p1 p2 (λz=>hx (r1.mT.mp z)) (λz=>⟨.ref a,H,I,rfl,q1 (r2.mT.mp z)⟩) (λz=>?_) (by rw[<-r1.length,<-r2.length];exact hz)
 refine⟨.ref s.heap.objs.size,_,I.laid (t':=s.toks) (o:=.tup (xs++ys)) (λb ob q=>iP _ q) (c7 _) ?_,rfl,q2 (λw=>z (r2.mT.mpr w)) _ (I.cg.fresh (c7 _))⟩
 exact⟨by rw[fu];exact hz,_,r1.append r2,IsTup.new _ _⟩
end
noncomputable def qp(n:Nat)(i:Int):ai Nat:=if 0<=i then(if i<n then some i.toNat else none) else if -(n:Int)<=i then some (i+n).toNat else none
def fj{α:Type}(xs:List α)(i:Int):ai α:=(qp xs.length i).bind λj=>xs[j]?
def Ju(h:qp n i=some j):seqIndex? i n=some j/\j<n /\ -(n:Int)<=i/\i<n:=by
 unfold qp at h;by_cases h0:0<=i
 .rw[aT h0] at h;by_cases h1:i<n
  .rw[aT h1] at h;have e:i.toNat=j:=Option.some.inj h;exact⟨by rw[seqIndex_of h0 h1,e],by lia,by lia,h1⟩
  .rw[aW h1] at h;cases h
 .rw[aW h0] at h;by_cases h1:-(n:Int)<=i
  .rw[aT h1] at h;have e:(i+n).toNat=j:=Option.some.inj h;exact⟨by rw[seqIndex_neg (by lia) h1,e],by lia,h1,by lia⟩
  .rw[aW h1] at h;cases h
def Jv{α:Type}{xs:List α}{v:α}(h:fj xs i=some v):∃j,seqIndex? i xs.length=some j/\xs[j]?=some v/\j<xs.length /\ -(xs.length:Int)<=i/\i<xs.length:=by
 unfold fj at h;cases e:qp xs.length i with
 |none=>rw[e] at h;cases h
 |some j=>
  rw[e] at h;obtain⟨h1,h2,h3,h4⟩:=Ju e;exact⟨j,h1,h,h2,h3,h4⟩
def qL{α:Type}{xs:List α}{v:α}(h:xs[j]?=some v):fj xs (j:Int)=some v:=by
 have hj:j<xs.length:=(jX.mp h).1;have e:qp xs.length (j:Int)=some j:=by
  unfold qp;rw[aT (by lia),aT (by lia)];simp
 unfold fj;rw[e];exact h
def BR(b:Expr):Prop:=∀o i,subscripted b false o i=operate [o,i] (getItem o i)
def qF(X:Cx)(r:R2):Prop:=
 ∀(value slice:Expr) (aa:List (ah×Obj)) (s:az) (Z:St) (H:Hp) (x y:V) (v u:ao) (Q:VK),Inv X aa Z H s->RelV x v->RelV y u->r x y H Q->
  subscripted slice false v u=operate [v,u] (getItem v u)->wpAny (model X.prog X.w) X.A (subscriptTail value slice v u) (EP X aa Z Q) X.xe s
def Tr(X:Cx)(id:String)(r:V->List V->Hp->VK->Prop):Prop:=
 ∀(aa:List (ah×Obj)) (s:az) (Z:St) (H:Hp) (x:V) (xs:List V) (v:ao) (us:List ao) (Q:VK),Inv X aa Z H s->RelV x v->Vals xs us->r x xs H Q->
  wpAny (model X.prog X.w) X.A (call (.builtin id) (v::us)) (EP X aa Z Q) X.xe s
section
variable{X:Cx}{a b:Expr}{ta tb:TE}{pos:Pos}
def qF.or{r r':R2}(h:qF X r)(h':qF X r'):qF X (λx y H Q=>r x y H Q\/r' x y H Q):=by
 intro value slice aa s Z H x y v u Q I rx ry q hs;rcases q with q|q
 .exact h value slice aa s Z H x y v u Q I rx ry q hs
 .exact h' value slice aa s Z H x y v u Q I rx ry q hs
def Kr{r:R2}(hr:qF X r)(ha:PE X a ta)(hb:PE X b tb)(hs:BR b):PE X (.Subscript a b pos) (El r ta tb):=by
 intro aa s Z H Q I h;exact Subscript_ (ye ha hb I h λv u s2 x y H2 I2 rx ry q=>hr a b aa s2 Z H2 x y v u Q I2 rx ry q (hs _ _))
def yT(K:FG):R2:=λx y H Q=>∃p xs i v,x=.ref p/\y=.int i/\dH K H p xs/\fj xs i=some v/\Q v H
def yU(K:FG):R2:=λx y H Q=>∃p xs i v,x=.ref p/\y=.int i/\gY K H p xs/\fj xs i=some v/\Q v H
def DZ:R2:=λx y H Q=>∃z i c,x=.str z/\y=.int i/\z.length<=sizeLine/\fj z.cps.toList i=some c/\Q (.str ⟨#[c]⟩) H
def Xl:qF X (yT X.K):=by
 intro value slice aa s Z H x y v u Q I rx ry h hs;obtain⟨p,xs,i,z,rfl,rfl,hq,he,q⟩:=h;cases rx;obtain⟨t,rfl⟩:=ry;obtain⟨aH,r,pl,hz⟩:=I.list hq;obtain⟨j,h1,h2,h3,h4,h5⟩:=Jv he;obtain⟨w,ew,vx⟩:=r.get h2;have hl:=r.length;have hn:=xV;have fin:EP X aa Z Q w s:=⟨z,H,I,vx,q⟩;by_cases h0:0<=i
 .have hj:i.toNat=j:=by
   rw[seqIndex_of h0 h5] at h1;exact Option.some.inj h1
  exact item_listR pl.isList h0 (by lia) (by rw[hj];simpa using ew) fin hs
 .have hj:(i+(aH.toArray.size:Int)).toNat=j:=by
   rw[seqIndex_neg (by lia) h4] at h1
   rw[fP,<-hl];exact Option.some.inj h1
  exact subscriptTail_builtinR (x:=w) pl.isList.typeIs slot_list_getitem.lookup
   (wpAny_getItem_list_neg (Q:=λr s'=>r=w/\EP X aa Z Q r s') pl.isList (by lia) (by rw[fP] <;> lia) (by lia) (by rw[hj];simpa using ew) ⟨rfl,fin⟩) hs
def Zb:qF X (yU X.K):=by
 intro value slice aa s Z H x y v u Q I rx ry h hs;obtain⟨p,xs,i,z,rfl,rfl,hq,he,q⟩:=h;cases rx;obtain⟨t,rfl⟩:=ry;obtain⟨aH,r,pl,hz⟩:=I.tuple hq;obtain⟨j,h1,h2,h3,h4,h5⟩:=Jv he;obtain⟨w,ew,vx⟩:=r.get h2;have hl:=r.length;have hn:=xV;have fin:EP X aa Z Q w s:=⟨z,H,I,vx,q⟩;exact subscriptTail_builtinR (x:=w) pl.typeIs slot_tuple_getitem.lookup
  (getItem_tuple (j:=j) (Q:=λr s'=>r=w/\EP X aa Z Q r s') pl (by lia) (by lia) (by rw[fP,<-hl];exact h1) (by simpa using ew) ⟨rfl,fin⟩) hs
def yD:qF X DZ:=by
 intro value slice aa s Z H x y v u Q I rx ry h hs;obtain⟨z,i,c,rfl,rfl,hz,he,q⟩:=h;obtain⟨t,rfl⟩:=rx;obtain⟨t',rfl⟩:=ry;obtain⟨j,h1,h2,h3,h4,h5⟩:=Jv he;have hl:z.cps.toList.length=z.length:=by simp[Str.length]
 rw[hl] at h1 h4 h5;have hn:=xV;exact tail_any (typeIs_str s z t) slot_str_getitem.lookup (getItem_str (c:=c) (by
  have e1:decide (i < -(2^63:Int))=false:=jc (by lia)
  have e2:decide (i>=2^63)=false:=jc (by lia)
  rw[e1,e2,Bool.or_false]) (by rw[h1];simpa using h2) ⟨.str ⟨#[c]⟩,H,I.tok _,⟨_,rfl⟩,q⟩) hs
def T6(aH:List ao)(n j:Nat)(u:ao):Obj.mapSeq (·.setIfInBounds j u) { cls:=.type "list",data:=.seq aH.toArray n}={ cls:=.type "list",data:=.seq (aH.set j u).toArray n}:=by
 simp[Obj.mapSeq]
def Inv.lst{aa:List (ah×Obj)}{Z:St}{H:Hp}{s:az}{p:ah}{xs:List V}(I:Inv X aa Z H s)(h:H p=some (.lst xs)):
  ∃(aH:List ao) (n:Nat),Vals xs aH/\s.heap.get? p=some { cls:=.type "list",data:=.seq aH.toArray n}/\xs.length<=sizeLine:=by
 obtain⟨z,aH,n,r,e⟩:=I.cg p _ h;exact⟨aH,n,r,e,z⟩
def Inv.yF{p:ah}{ys:List V}{n':Nat}{f:Obj->Obj}(I:Inv X aa Z H s)(h:H p=some (.lst xs))
  (ho:s.heap.get? p=some { cls:=.type "list",data:=.seq aH.toArray n}) (hf:f { cls:=.type "list",data:=.seq aH.toArray n}={ cls:=.type "list",data:=.seq its'.toArray n'}) (r:Vals ys its') (hz:ys.length<=sizeLine) (t:Nat) :
  Inv X aa Z (upd H p (.lst ys)) { s with heap:=s.heap.update p f,toks:=t}:=by
 have e:(s.heap.update p f).get? p=some { cls:=.type "list",data:=.seq its'.toArray n'}:=by
  rw[rL f ho (by rw[hf] <;> rfl),hf]
 refine I.write (x:=p) (e:=p) (by rw[h];trivial) (.inl rfl) (λb u hb q=>(pW _ _ (Ne.symm hb)).trans q) ⟨_,e⟩ ?_
 exact⟨hz,its',n',r,e⟩
def wZ:V->V->V->Hp->(Hp->Prop)->Prop:=λo i v H Q=>∃p xs k j,o=.ref p/\i=.int k/\H p=some (.lst xs)/\qp xs.length k=some j/\Q (upd H p (.lst (xs.set j v)))
def VJ:uI X wZ:=by
 intro aa s Z H o i v ov iv u Q I ro ri rv h;obtain⟨p,xs,k,j,rfl,rfl,hp,hj,q⟩:=h;cases ro;obtain⟨t,rfl⟩:=ri;obtain⟨aH,n,r,ho,hz⟩:=I.lst hp;obtain⟨h1,h2,h3,h4⟩:=Ju hj;have hl:=r.length;have hn:=xV;have I':Inv X aa Z (upd H p (.lst (xs.set j v))) { s with heap:=s.heap.update p (Obj.mapSeq (·.setIfInBounds j u))}:=
  I.yF hp ho (T6 aH n j u) (r.set rv j) (by rw[HH];exact hz) s.toks
 by_cases h0:0<=k
 .have hk:k.toNat=j:=by
   rw[seqIndex_of h0 h4] at h1;exact Option.some.inj h1
  exact PySem.W.ki_setAt ho h0 (by lia) (by rw[fP,<-hl];exact h4) (by rw[hk];exact⟨_,I',q⟩)
 .have hk:(k+(aH.toArray.size:Int)).toNat=j:=by
   rw[seqIndex_neg (by lia) h3] at h1
   rw[fP,<-hl];exact Option.some.inj h1
  exact PySem.W.ki_setBack ho (by lia) (by rw[fP,<-hl];exact h3) (by lia) (by rw[hk];exact⟨_,I',q⟩)
def TH(lo hi:ai Int)(n:Nat):(sliceBounds lo hi none n).1=((HT.dA n 0 lo:Nat):Int)/\(sliceBounds lo hi none n).2.1=((HT.dA n n hi:Nat):Int)/\(sliceBounds lo hi none n).2.2=1:=by
 refine⟨?_,?_,rfl⟩
 .cases lo with
  |none=>simp[sliceBounds,HT.dA]
  |some i=>
   simp only[sliceBounds,HT.dA,Option.getD_none,show(1:Int) > 0 by decide,a_]
   by_cases h:i<0
   .simp only[h,a_] <;> lia
   .simp only[h,cX] <;> lia
 .cases hi with
  |none=>simp[sliceBounds,HT.dA]
  |some i=>
   simp only[sliceBounds,HT.dA,Option.getD_none,show(1:Int) > 0 by decide,a_]
   by_cases h:i<0
   .simp only[h,a_] <;> lia
   .simp only[h,cX] <;> lia
def Tz(aH:List ao)(lo hi:ai Int):slicePick aH.toArray lo hi none=((aH.drop (HT.dA aH.length 0 lo)).take (HT.dA aH.length aH.length hi - HT.dA aH.length 0 lo)).toArray:=by
 obtain⟨h1,h2,h3⟩:=TH lo hi aH.toArray.size;unfold slicePick;rw[h1,h2,h3];simp only[sliceRange_one,pick_run,fP] <;> rfl
def yV(K:FG):V->ai Int->ai Int->Hp->VK->Prop:=λx lo hi H Q=>∃a xs,x=.ref a/\dH K H a xs/\∀p,H p=none->Q (.ref p) (upd H p (.lst (nU xs lo hi)))
def Xm:rN X (yV X.K):=by
 intro aa s Z H x v vl vu lo hi sl Q I rx hs pl pu h;obtain⟨a,xs,rfl,hx,q⟩:=h;cases rx;obtain⟨aH,r,ht,hz⟩:=I.list hx;have hlen:=r.length;refine⟨"list",_,slot_list_getitem.lookup,ht.isList.typeIs,?_⟩;refine wpAny_getItem_list_slice ht.isList hs pl pu .none (by simp) ?_ (by rw[fP] <;> lia)
 rw[Tz,<-hlen];refine⟨.ref s.heap.objs.size,_,I.laid (t':=s.toks) (o:=.lst (nU xs lo hi)) (λb ob q=>iP _ q) (c7 _) ?_,rfl,q _ (I.cg.fresh (c7 _))⟩
 exact⟨kH (Nb xs lo hi) hz,_,0,(r.drop (HT.dA xs.length 0 lo)).take (HT.dA xs.length xs.length hi - HT.dA xs.length 0 lo),oI _ rfl⟩
def wu:V->Bool
 |.bh=>true
 |.bl _=>true
 |.int _=>true
 |.str _=>true
 |_=>false
noncomputable def eqV:V->V->Bool
 |.bh,.bh=>true
 |.bl a,.bl b=>a == b
 |.bl a,.int b=>(if a then 1 else 0) == b
 |.int a,.bl b=>a == (if b then 1 else 0)
 |.int a,.int b=>a == b
 |.str a,.str b=>a == b
 |_,_=>false
def TJ:cA X (.builtin "len") (λxs H Q=>∃p ys,xs=[.ref p]/\(dH X.K H p ys\/gY X.K H p ys)/\Q (.int ys.length) H):=by
 intro aa s Z H xs us Q I r h;obtain⟨p,ys,rfl,hq,q⟩:=h;obtain⟨u,rfl,rx⟩:=vals1 r;cases rx;have hn:=xV;rcases hq with hq|hq
 .obtain⟨aH,r',pl,hz⟩:=I.list hq;have hlen:=r'.length;exact Calls.call_len_list pl.isList (by simp only[fP] <;> lia) ⟨.int ys.length,H,I.tok _,⟨s.toks+1,by rw[fP,hlen]⟩,q⟩
 .obtain⟨aH,r',pl,hz⟩:=I.tuple hq;have hlen:=r'.length;exact len_tuple pl (by simp only[fP] <;> lia) ⟨.int ys.length,H,I.tok _,⟨s.toks+1,by rw[fP,hlen]⟩,q⟩
def TL:cA X (.builtin "len") (λxs H Q=>∃z,xs=[.str z]/\z.length<=sizeLine/\Q (.int z.length) H):=by
 intro aa s Z H xs us Q I r h;obtain⟨z,rfl,hz,q⟩:=h;obtain⟨u,rfl,t,rfl⟩:=vals1 r;have hn:=xV;exact len_str (by lia) ⟨.int z.length,H,I.tok _,⟨_,rfl⟩,q⟩
def cA.or{f:ao}{r r':List V->Hp->VK->Prop}(h:cA X f r)(h':cA X f r'):cA X f (λxs H Q=>r xs H Q\/r' xs H Q):=by
 intro aa s Z H xs us Q I rs q;rcases q with q|q
 .exact h aa s Z H xs us Q I rs q
 .exact h' aa s Z H xs us Q I rs q
def TM:cA X (.type "list") (λxs H Q=>∃p ys,xs=[.ref p]/\(dH X.K H p ys\/gY X.K H p ys)/\∀l,H l=none->Q (.ref l) (upd H l (.lst ys))):=by
 intro aa s Z H xs us Q I r h;obtain⟨p,ys,rfl,hq,q⟩:=h;obtain⟨u,rfl,rx⟩:=vals1 r;cases rx;have fin:∀(aH:List ao),Vals ys aH->ys.length<=sizeLine->∀(h':cL) (c':Nat),(∀b o',s.heap.get? b=some o'->h'.get? b=some o')->
   h'.get? s.heap.objs.size=some { cls:=.type "list",dict:=none,data:=.seq aH.toArray c',slots:=#[]}->EP X aa Z Q (.ref s.heap.objs.size) { s with heap:=h'}:=λaH r' hz h' c' kp e=>
  ⟨.ref s.heap.objs.size,_,I.laid (t':=s.toks) kp (c7 _) (show cC X.prog X.w _ h' _ (.lst ys) from⟨hz,aH,c',r',e⟩),rfl,q _ (I.cg.fresh (c7 _))⟩
 rcases hq with hq|hq
 .obtain⟨aH,r',pl,hz⟩:=I.list hq;have hlen:=r'.length;obtain⟨o,ho,hc,n,hd⟩:=pl.isList;exact call_list_seq p (.inl rfl) ho hc hd (λh' c' kp e=>fin aH r' hz h' c' kp e) (by simp only[fP] <;> lia)
 .obtain⟨aH,r',pl,hz⟩:=I.tuple hq;have hlen:=r'.length;obtain⟨o,ho,hc,n,hd⟩:=pl;exact call_list_seq p (.inr rfl) ho hc hd (λh' c' kp e=>fin aH r' hz h' c' kp e) (by simp only[fP] <;> lia)
def ME(K:FG)(T:String)(x:V)(H:Hp):Prop:=match x with
 |.str _=>T="str"
 |.int _=>T="int"
 |.ref p=>(T="list"/\∃xs,dH K H p xs)\/(T="tuple"/\∃o,K.lookup p=some o/\o.cls=.type "tuple"/\o.dict=none)\/
   (T="dict"/\((∃kvs,H p=some (.dK kvs))\/(∃kvs,H p=some (.dT kvs))\/∃es ep,H p=some (.dG es ep)))\/(T="set"/\∃S n,H p=some (.set S n))
 |_=>False
def Zc{T:String}{v:ao}(I:Inv X aa Z H s)(r:RelV x v)(ty:ME X.K T x H):
  s.TypeIs v T/\∀a,v=.ref a->∃ob,s.heap.get? a=some ob/\ob.dict=none:=by
 cases x with
 |str z=>
  obtain⟨t,rfl⟩:=r;cases(show T="str" from ty);exact⟨typeIs_str s z t,λ_ e=>nomatch e⟩
 |int i=>
  obtain⟨t,rfl⟩:=r;cases(show T="int" from ty);exact⟨typeIs_int s i t,λ_ e=>nomatch e⟩
 |ref p=>
  cases r;rcases ty with⟨rfl,xs,hq⟩|⟨rfl,o,hk,hc,hd⟩|⟨rfl,hk⟩|⟨rfl,S,n,hk⟩
  .obtain⟨aH,_,pl,_⟩:=I.list hq;refine⟨pl.isList.typeIs,λa e=>?_⟩
   cases e;obtain⟨o,n,e,c,hd,_⟩:=pl;exact⟨o,e,hd⟩
  .refine⟨⟨o,I.rH p o hk,hc⟩,λa e=>?_⟩
   cases e;exact⟨o,I.rH _ o hk,hd⟩
  .have z:∃o,s.heap.get? p=some o/\o.ExactDict:=by
    rcases hk with⟨kvs,hk⟩|⟨kvs,hk⟩|⟨es,ep,hk⟩
    .obtain⟨_,_,_,_,o,_,_,e,ex,_⟩:=I.cg p _ hk;exact⟨o,e,ex⟩
    .obtain⟨_,_,_,_,o,_,_,e,ex,_⟩:=I.cg p _ hk;exact⟨o,e,ex⟩
    .obtain⟨_,_,o,_,e,ex,_⟩:=I.cg p _ hk;exact⟨o,e,ex⟩
   obtain⟨o,e,ex⟩:=z;refine⟨⟨o,e,ex.1⟩,λa e2=>?_⟩
   cases e2;exact⟨o,e,ex.2.1⟩
  .obtain⟨o,_,_,_,e,ex,_⟩:=I.cg p _ hk;refine⟨⟨o,e,ex.1⟩,λa e2=>?_⟩
   cases e2;exact⟨o,e,ex.2.1⟩
 |_=>exact False.elim ty
def Mu(K:FG)(T:String)(r:V->List V->Hp->VK->Prop)(to:TE)(t:TA):TE:=λZ H Q=>to Z H λx H1=>ME K T x H1/\t Z H1 λxs H2=>r x xs H2 Q
variable{o e:Expr}{es:List Expr}{to:TE}{t:TA}{name:Str}{apos cU:Pos}{T id:String}{r:V->List V->Hp->VK->Prop}
def RL(pa:PlainAttrs T)(slot:Slot T name id)(yA:typeOf (.builtin id)=pure (.type "method_descriptor"))(hm:Tr X id r)(ho:PE X o to)(ha:PA X (e::es) t)
  (n_:attributeBase o name X.env (eval o X.env)=eval o X.env:=by rfl)
  (sA:((backTo cU (starEach (e::es) X.env)).all (λx => !x.1)&&(backToKw cU (keywordEach [] X.env)).all (λx=>x.1.isSome) && decide ((e::es).length+([]:List Keyword).length+(if([]:List Keyword).isEmpty then 0 else 1)<30))=true:=by rfl)
  (oa:(apos.endLine == cU.line)=true:=by rfl) (hs:starEach (e::es) X.env=(false,eval e X.env)::starEach es X.env:=by rfl) (kU:(backTo cU (starEach es X.env)).any (·.1)=false:=by rfl) :
  PE X (.Call (.Attribute o name apos) (e::es) [] cU) (Mu X.K T r to t):=by
 intro aa s Z H Q I h;refine wpAny_Call_method_late n_ sA oa rfl (cR (ho aa s Z H _ I h) λv s1 hh=>?_)
 obtain⟨x,H1,I1,r1,ty,q1⟩:=hh;obtain⟨h1,h2⟩:=Zc I1 r1 ty;refine⟨T,id,pa,slot,yA,h1,h2,?_⟩;have hA:=ha cU aa s1 Z H1 _ I1 q1;rw[hs] at hA ⊢;refine Calls.callWith_builtin (by show(false || (backTo cU (starEach es X.env)).any (·.1))=false;rw[kU] <;> rfl) (Calls.evalArgs_plain ?_)
 exact cR hA λus s2 ⟨vs,H2,I2,r2,q2⟩=>hm aa s2 Z H2 x vs v us Q I2 r1 r2 q2
end
def By(X:Cx)(id:String)(r:V->List V->Hp->VK->Prop):Prop:=
 ∀(aa:List (ah×Obj)) (s:az) (Z:St) (H:Hp) (x:V) (xs:List V) (v:ao) (us:List ao) (Q:VK),Inv X aa Z H s->RelV x v->Vals xs us->r x xs H Q->
  wpAny (model X.prog X.w) X.A (call (.builtin id) (v::us)) (EP X aa Z Q) X.xe s
def Vals.one(h:Vals [x] us):∃u,us=[u]/\RelV x u:=by
 cases h with
 |cons r t=>
  cases t;exact⟨_,rfl,r⟩
def Vals.two{y:V}(h:Vals [x,y] us):∃u v,us=[u,v]/\RelV x u/\RelV y v:=by
 cases h with
 |cons r t=>
  obtain⟨v,rfl,q⟩:=Vals.one t;exact⟨_,_,rfl,r,q⟩
section
variable{X:Cx}{aa:List (ah×Obj)}{Z:St}{H:Hp}{s:az}{l b:ah}{xs ys zs:List V}
def Inv.DG{f:Array ao->Array ao}(I:Inv X aa Z H s)(hH:H l=some (.lst xs))
  (e:s.heap.get? l=some { cls:=.type "list",data:=.seq aH.toArray n}) (hf:f aH.toArray=its'.toArray) (hv:Vals ys its') (hz:ys.length<=sizeLine) :
  Inv X aa Z (upd H l (.lst ys)) { s with heap:=s.heap.update l (Obj.mapSeq f),toks:=t'}:=by
 have q:=PySem.IsL.update e f;rw[hf] at q;refine I.write (x:=l) (e:=l) (by rw[hH];exact trivial) (.inl rfl) (λb' u hb hu=>(pW s.heap (Obj.mapSeq f) (Ne.symm hb)).trans hu) ⟨_,q⟩ ?_
 exact⟨hz,its',_,hv,q⟩
def Inv.L5(I:Inv X aa Z H s)(hv:Vals ys aH)(hz:ys.length<=sizeLine):
  Inv X aa Z (upd H s.heap.objs.size (.lst ys)) { s with heap:=s.heap.push { cls:=.type "list",data:=.seq aH.toArray},toks:=t'}:=
 I.laid (λ_ _ q=>iP _ q) (c7 _) ⟨hz,aH,0,hv,oI _ rfl⟩
theorem Inv.fresh(I:Inv X aa Z H s):H s.heap.objs.size=none:=I.cg.fresh (c7 _)
def Inv.DH(I:Inv X aa Z H s)(hH:H l=some (.lst xs)):xs.length<=sizeLine/\∃(aH:List ao) (n:Nat),Vals xs aH/\xs.length=aH.length/\s.heap.get? l=some { cls:=.type "list",data:=.seq aH.toArray n}:=by
 obtain⟨z,aH,n,r,e⟩:=I.cg l _ hH;exact⟨z,aH,n,r,r.length,e⟩
end
section
variable{X:Cx}
def Pf:V->List V->Hp->VK->Prop:=λx vs H Q=>∃l xs y,x=.ref l/\vs=[y]/\H l=some (.lst xs)/\xs.length<sizeLine/\Q .bh (upd H l (.lst (xs++[y])))
theorem uM:By X "list.append" Pf:=by
 intro aa s Z H x vs v us Q I rx rv h;obtain⟨l,xs,y,rfl,rfl,hH,hz,q⟩:=h;cases rx;obtain⟨u,rfl,ru⟩:=rv.one;obtain⟨z,aH,n,r,hl,e⟩:=I.DH hH;refine call_meets F.slot_list_append ⟨_,e,rfl⟩ F.entry_list_append (F.args_list_append_2 _ _) (PySem.list_append l aH.toArray n u (by rw[fP];lia)) ⟨e,?_⟩
 refine⟨.bh,_,I.DG (its':=aH++[u]) hH e (by simp) (r.append (.cons ru .nil)) ?_,rfl,q⟩
 rw[fu,mJ];lia
end
section
variable{prog:eW}{w:df}{A:dD}{E:ao->az->Prop}{s:az}
end
section
variable{X:Cx}
end
section
variable{κ:Type}[DecidableEq κ]
def nD.qY{o:ai V}{u:ai ao}(r:nD o u):o.isSome=u.isSome:=by
 cases o with
 |none=>cases u with
  |none=>rfl
  |some _=>exact(show False from r).elim
 |some _=>cases u with
  |none=>exact(show False from r).elim
  |some _=>rfl
end
section
variable{P:eW}{w:df}{H:Hp}{h:cL}{a:ah}
end
section
variable{X:Cx}{aa:List (ah×Obj)}{Z:St}{H:Hp}{s:az}{a:ah}{y v:V}{u r:ao}{o:ai V}{A:dD}{E:ao->az->Prop}
def Inv.big(I:Inv X aa Z H s):sysModules<s.heap.objs.size:=by
 have h:mainGlobals<s.heap.objs.size:=(I.mod.glob.keeps I.bk).lt;exact Nat.lt_trans (by decide) h
def Pg{h':cL}{ob:HO}(I:Inv X aa Z H s)(mu:Bz (H a))(hs:Heap.SameBut a s.heap h')(he:∃q,h'.get? a=some q)(new:cC X.prog X.w (upd H a ob) h' a ob):
  Inv X aa Z (upd H a ob) { s with heap:=h',toks:=t'}:=
 I.write (x:=a) (e:=a) mu (.inl rfl) (λb q hb z=>(hs.2 b hb).trans z) he new
end
section
variable{X:Cx}{aa:List (ah×Obj)}{Z:St}{H:Hp}{s:az}{a:ah}{kvs:List (Key×V)}{k:Key}{u:ao}{A:dD}{E:ao->az->Prop}
end
section
variable{X:Cx}{o i e value:Expr}{pos pos' m7:Pos}{td ty tv:TE}
end
section
variable{X:Cx}{pos:Pos}
end
abbrev VV:List (V×V)->List (ao×ao)->Prop:=Paired λp q=>RelV p.1 q.1/\RelV p.2 q.2
structure M1 (X:Cx) (o:Expr) (m:Str) (apos:Pos) (e:Expr) (cU:Pos):Prop where
 base:attributeBase o m X.env (eval o X.env)=eval o X.env
 few:((backTo cU (starEach [e] X.env)).all (λx => !x.1)&&(backToKw cU (keywordEach [] X.env)).all (λx=>x.1.isSome) && decide (([e]:List Expr).length+([]:List Keyword).length+(if([]:List Keyword).isEmpty then 0 else 1)<30))=true
 line:(apos.endLine == cU.line)=true
 trees:backTo cU (starEach [e] X.env)=[(false,eval e X.env)]
structure M2 (X:Cx) (o:Expr) (m:Str) (apos:Pos) (e f:Expr) (cU:Pos):Prop where
 base:attributeBase o m X.env (eval o X.env)=eval o X.env
 few:((backTo cU (starEach [e,f] X.env)).all (λx => !x.1)&&(backToKw cU (keywordEach [] X.env)).all (λx=>x.1.isSome) && decide (([e,f]:List Expr).length+([]:List Keyword).length+(if([]:List Keyword).isEmpty then 0 else 1)<30))=true
 line:(apos.endLine == cU.line)=true
 trees:backTo cU (starEach [e,f] X.env)=[(false,eval e X.env),(false,eval f X.env)]
section
variable{X:Cx}{aa:List (ah×Obj)}{Z:St}{H:Hp}{s:az}{a:ah}{y d:V}{u r:ao}{o:ai V}{A:dD}{E:ao->az->Prop}
end
section
variable{X:Cx}{o e f:Expr}{apos cU:Pos}{td ty tx:TE}
end
section
variable{X:Cx}{aa:List (ah×Obj)}{Z:St}{H:Hp}{s:az}{a:ah}{kvs:List (Key×V)}{A:dD}{E:ao->az->Prop}
end
section
variable{X:Cx}{aa:List (ah×Obj)}{Z:St}{H:Hp}{s:az}{a:ah}{y:V}{u:ao}{A:dD}{E:ao->az->Prop}
end
end L2
namespace lZ
open PySem PySem.W PySem.Calls PyProof.Rows
variable{P:Params}{h:cL}{l:OpenLaw}{n:Nat}
def Tw:∀(ns:List Int) (vs:List ao),WellAll P h vs (ns.map WData.int)->IntsAre vs ns:=by
 intro ns
 induction ns with
 |nil=>
  intro vs w;rw[pX] at w;cases w;exact .nil
 |cons n ns ih=>
  intro vs w;rw[c_] at w;cases w with
  |cons a b=>
   cases a;exact .cons _ _ (ih _ b)
def UE(hn:l.most=some n){args:List WData}{vals:List ao}
  (vd:l.row.toRowW.claim.pre args=true) (He:WellAll P h vals args) :
  ∃a vs ns,vals=[Value.ref a]/\args=[WData.list (ns.map WData.int)]/\h.get? a=some { cls:=.type "list",data:=.seq vs.toArray}/\IntsAre vs ns/\ns.length<=n:=by
 have hsh:WShape.hasAll [] args [.list .int]=true:=(pre_splitW vd).1;have hc:l.pre.holds [] { args:=args}=true:=(pre_splitW vd).2;obtain⟨d,r,rfl,h1,h2⟩:=hasAllW_cons hsh;obtain rfl:=hasAllW_nil h2;obtain⟨xs,rfl,h3⟩:=hasW_list h1;obtain⟨ns,rfl⟩:=items_int h3;have hlen:ns.length<=n:=by
  unfold OpenLaw.pre at hc;have h4:(WTm.not (.lt (.lit (.int (n:Int))) (.len (.arg 0)))).holds [] { args:=[.list (ns.map .int)]}=true:=by
   have h4:=(holds_andW hc).1;rw[hn] at h4;exact h4
  have h5:=condW_of h4 (w_not (w_lt w_lit (w_len_list (w_arg rfl))));rw[bY] at h5;refine Nat.le_of_not_lt λq=>?_
  have q':(n:Int)<((ns.length:Nat):Int):=by lia
  first
   |(rw[jt q'] at h5;exact b_ h5 (by decide))
   |(simp at h5;lia)
 cases He with
 |cons w1 w2=>
  cases w2;cases w1 with
  |list ho sr=>exact⟨_,_,ns,rfl,rfl,ho,Tw ns _ sr,hlen⟩
def UG(l:OpenLaw)(args:List WData):l.row.toRowW.claim.post args (.bool true) args=true:=
 postW_of (r:=l.row.toRowW) (X:=(true == true))
  (show WShape.has [] (.bool true) .bool=true by first|rfl|decide|simp[WShape.has,WShape.arms,WShape.armsAll])
  (show(WTm.eq .res (.lit (.bool true))).value [] { args:=args,res:=some (.bool true),after:=args}=some (.bool (true == true)) from w_eq_bool (w_res rfl) w_lit) rfl
def nK{q:eW}{loose:List Str}{XP:(Str->ai ao)->cL->Prop}{YP:df->cL->Prop}{d:DefRec}
  (hn:l.most=some n) (Dq:d.params.defaults=[])
  (call:∀(w:df) (s₀ s₁:az) (mg mb:Str->ai ao) (fa:ah) (o:Obj) (pm cd doc:ao) (a:ah) (vs:List ao) (ns:List Int),Ground q loose [] XP w s₀ mg mb s₁.heap->YP w s₁.heap-> s₁.heap.get? fa=some o->o.data=.func (docDef d.name d.params d.body d.scope pm cd doc)->s₁.heap.CodeRec cd d.name->mg d.name=some (.ref fa)-> s₁.heap.get? a=some { cls:=.type "list",data:=.seq vs.toArray}->IntsAre vs ns->ns.length<=n->s₁.gens=#[]-> codeAny (model l.prog w) callerA (.call (.ref fa) ⟨[.ref a],[]⟩) (λr s'=>r=.ok (.ret (.bool true))/\OldK s₁.heap s'.heap/\s'.os=s₁.os/\AllBare s'.gens) s₁) :
  WalkO q loose XP YP l.row.toRowW d [] (λf vs=>PySem.call f vs):=by
 intro w s₀ s₁ mg mb G Y fa o pm cd doc dV kV ho hd pD hD hmg hg args vals as vd hlay hrd He yv;obtain rfl:dV=.none:=Dflts.none hD Dq;obtain rfl:kV=.none:=Dflts.noKw hD;obtain⟨a,vs,ns,rfl,rfl,yy,hints,hlen⟩:=UE hn vd He;refine enter_call (codeAny_mono (call w s₀ s₁ mg mb fa o pm cd doc a vs ns G Y ho (fd_plain hd) pD hmg yy hints hlen hg) λr s' hq=>?_)
 obtain⟨rfl,h2,h3,h4⟩:=hq;exact⟨.inl ⟨.bool true,.bool true,[],rfl,λ_=>rfl,.bool true,UG l _,λ_=>⟨List.Pairwise.nil,λ_ hm=>(nomatch hm)⟩⟩,h2,h3,h4⟩
section
variable{prog:eW}{w:df}{A:dD}{E:ao->az->Prop}{s:az}{K:Frag}
end
end lZ
namespace L2
open PySem PySem.Spec PyProof.Rows
variable{K:FG}{k:Nat}{a f:ah}{fd:jM}{x qual:Str}{sp:Sp}{ps:List Str}{H H':Hp}
theorem NT:∀{vs:List ao} {ns:List Int},IntsAre vs ns->Vals (ns.map V.int) vs
 |_,_,.nil=>.nil
 |_,_,.cons n t h=>.cons ⟨t,rfl⟩ (NT h)
def xo(H:Hp):Prop:=∀b,H b=none\/∃o xs,H b=some (.Y o (.lst xs))
def VL{P:eW}{w:df}{mg mb:Str->ai ao}{CX:p9}{fa:ah}{s₁:az}{vs:List ao}{ns:List Int}
  (KX:K.In s₁.heap) (Sw:s₁.heap.Ns mainGlobals mg) (hb:s₁.heap.Ns builtinsNs mb) (hbb:∀x:Str,x≠"__name__"->mb x=bootBuiltins x) (Lz:s₁.heap.NoLimit) (hg:s₁.gens=#[])
  (ha:s₁.heap.get? a=some { cls:=.type "list",data:=.seq vs.toArray}) (hi:IntsAre vs ns) (hl:ns.length<=sizeLine) (hr:dj k callerA)
  (F:∀base:cL,K.In base->base.Ns mainGlobals mg->bN P w K mg base CX k fa fd [x] sp) (Dl:∀(s:az) (u:ao),BindsTo s fd ⟨[u],[]⟩ [(x,u)])
  (wH:∀H:Hp,xo H->dH K H a (ns.map V.int)->sp [.ref a] H (λv _=>v=.bl true) λ_ _ _=>False)
  (Lg:∀H e s',CX [] H s₁ (λ_ _ _=>False) e s'->False) :
  codeAny (model P w) callerA (.call (.ref fa) ⟨[.ref a],[]⟩) (λr s'=>r=.ok (.ret (.bool true))/\OldK s₁.heap s'.heap/\s'.os=s₁.os/\AllBare s'.gens) s₁:=by
 have rv:=NT hi;have L4:=hi.length;have core:∀H:Hp,xo H->dH K H a (ns.map V.int)->jZ P w H s₁.heap->(∀b,H b≠none->b=a)->(H a≠none->K.lookup a=none)->
   codeAny (model P w) callerA (.call (.ref fa) ⟨[.ref a],[]⟩) (λr s'=>r=.ok (.ret (.bool true))/\OldK s₁.heap s'.heap/\s'.os=s₁.os/\AllBare s'.gens) s₁:=by
  intro H hO hS cg hA hK;have qg:∀{b:ah} {o:Obj},s₁.heap.get? b=some o->H b=none->(mQ s₁.heap H).get? b=some o:=λe n=>VA e n
  have DM:∀{b:ah} {o:Obj} {es:Array DictEntry} {ep:Nat},s₁.heap.get? b=some o->o.data=.dict es ep->H b=none:=λ{b o es ep} e d=>by
   cases q:H b with
   |none=>rfl
   |some u=>
    have e':b=a:=hA b (by rw[q];simp)
    subst e';rw[ha] at e;cases e;have d':Data.seq vs.toArray _=Data.dict es ep:=d;cases d'
  have Ho:∀{b:ah} {m:Str->ai ao},s₁.heap.Ns b m->(mQ s₁.heap H).Ns b m:=λ{b m} ⟨o,es,ep,e,d,r⟩=>⟨o,es,ep,qg e (DM e d),d,r⟩
  have Sh:K.In (mQ s₁.heap H):=λb o e=>qg (KX b o e) (by
   cases q:H b with
   |none=>rfl
   |some u=>
    have e':b=a:=hA b (by rw[q];simp)
    subst e';rw[hK (by rw[q];simp)] at e;cases e)
  have hM:Mod K mg (mQ s₁.heap H):=⟨Sh,Ho Sw,⟨mb,Ho hb,hbb⟩,let ⟨mc,h1,h2⟩:=Lz;⟨mc,Ho h1,h2⟩⟩
  have e0:uH P w K mg (mQ s₁.heap H) callerA [] s₁ H:=⟨rfl,hM,λb o e=>W_ e,Nat.le_of_eq (Ux _ _),trivial,λb hb=>b_ (show b∈([]:List ah) from hb) (by simp),cg,.of_eq hg⟩
  refine codeAny_mono ((F _ Sh (Ho Sw)).run callerA [] s₁ H ⟨[.ref a],[]⟩ [.ref a] [.ref a] _ _ hr e0 (Dl s₁ (.ref a)) (.cons rfl .nil) (wH H hO hS)) λr s' h=>?_
  cases r with
  |error e=>exact(Lg H e s' h).elim
  |ok fl=>
   cases fl with
   |next=>exact False.elim h
   |brk=>exact False.elim h
   |cont=>exact False.elim h
   |ret u=>
    obtain⟨v,H',os,bare,un,LD,r',q⟩:=h;have q':v=.bl true:=q;subst q';obtain rfl:u=Value.bool true:=r';refine⟨rfl,OldK.of_keep λb o e=>?_,os,bare⟩
    cases q:H b with
    |none=>exact un.keep b o e q (by intro z;exact b_ (show b∈([]:List ah) from z) (by simp)) (by simp)
    |some u=>
     rcases hO b with z|⟨ob,xs,z⟩
     .rw[q] at z;cases z
     .have z2:=un.ke b ob _ z;obtain⟨e1,_⟩:=cg b _ z;obtain⟨e2,_⟩:=LD b _ z2;rw[e] at e1;cases e1;exact e2
 cases hk:K.lookup a with
 |some o=>
  have e:=KX a o hk;rw[ha] at e;cases e;refine core (λ_=>none) (λ_=>.inl rfl) (.inr ⟨_,vs.toArray,_,hk,rfl,rfl,rfl,by rw[fP,L4];exact hl,by simpa using rv⟩) (λb u z=>by have z':(none:ai HO)=some u:=z;cases z') (λb z=>b_ rfl z) λz=>b_ rfl z
 |none=>
  refine core (λb=>if b=a then some (.Y { cls:=.type "list",data:=.seq vs.toArray} (.lst (ns.map V.int))) else none) (λb=>?_) (.inl (.inr ⟨{ cls:=.type "list",data:=.seq vs.toArray},aT rfl⟩)) (λb u z=>?_) (λb z=>?_) λ_=>hk
  .by_cases hb:b=a
   .exact .inr ⟨_,_,aT hb⟩
   .exact .inl (aW hb)
  .by_cases hb:b=a
   .have z':=(aT hb).symm.trans z;cases z';subst hb;exact⟨ha,by rw[bY];exact hl,vs,_,rv,ha⟩
   .have z':=(aW hb).symm.trans z;cases z'
  .by_cases hb:b=a
   .exact hb
   .exact b_ (aW hb) z
def vG{l:PySem.W.OpenLaw}{n:Nat}{q:eW}{loose:List Str}{XP:(Str->ai ao)->cL->Prop}{YP:df->cL->Prop}{d:DefRec}{K:Params->FG}{CX:df->p9}{sp:df->Sp}
  (hn:l.most=some n) (G_:n<=sizeLine) (Dq:d.params.defaults=[]) (hr:dj k callerA)
  (hY:∀(w:df) (h:cL),YP w h->(K w.params).In h)
  (F:∀(w:df) (mg:Str->ai ao) (fa:ah) (h:cL),(K w.params).In h->h.Ns mainGlobals mg->mg d.name=some (.ref fa)-> ∃fd:jM,(∀(s:az) (u:ao),BindsTo s fd ⟨[u],[]⟩ [(x,u)])/\ ∀base:cL,(K w.params).In base->base.Ns mainGlobals mg->bN l.prog w (K w.params) mg base (CX w) k fa fd [x] (sp w))
  (wH:∀(w:df) (H:Hp) (a:ah) (ns:List Int),ns.length<=n->xo H->dH (K w.params) H a (ns.map V.int)->sp w [.ref a] H (λv _=>v=.bl true) λ_ _ _=>False)
  (Lg:∀(w:df) (H:Hp) (s:az) (e:ao) (s':az),CX w [] H s (λ_ _ _=>False) e s'->False) :
  PySem.W.WalkO q loose XP YP l.row.toRowW d [] (λf vs=>PySem.call f vs):=by
 refine lZ.nK hn Dq λw s₀ s₁ mg mb fa o pm cd doc a vs ns G Y ho hd pD hmg yy hints hlen hg=>?_
 have KX:=hY w _ Y;obtain⟨fd,hb,hF⟩:=F w mg fa _ KX G.T.g hmg;exact VL KX G.T.g G.T.b G.T.builtins G.T.nolimit hg yy hints (kH hlen G_) hr hF hb (λH hO hS=>wH w H a ns hlen hO hS) λH e s'=>Lg w H s₁ e s'
def FF(s:Stmt):Arguments:=match s with
 |.FunctionDef _ a _ _ _ _ _ _ _ _=>a
 |_=>{ posonlyargs:=[],args:=[],vararg:=none,kwonlyargs:=[],kw_defaults:=[],kwarg:=none,defaults:=[]}
noncomputable def uS(s:Stmt):List Stmt:=match s with
 |.FunctionDef _ _ b _ _ _ _ _ _ _=>b
 |_=>[]
noncomputable def dM(s:Stmt):Scope:=match s with
 |.FunctionDef _ _ _ _ _ _ sc _ _ _=>sc
 |_=>{ kind:=.function,names:=[],isGenerator:=false,isCoroutine:=false}
abbrev gd:p9:=λ_ _ _ _ _ _=>False
abbrev E0:XK:=λ_ _ _=>False
abbrev E1:St->XK:=λ_=>E0
def DT{X:Cx}:Gg gd X E1:=λ_ _ _ _ _ _ _ h=>h.elim
structure gL (K:FG) (x qual:Str) (st:Stmt) (f:ah) (fd:jM):Prop where
 ex:∃(oc:ao) (od:ai ah) (kV doc pm:ao) (an:ai ah) (cQ ct:ao) (s_:Array (ai ao)),
  fd=PySem.W.fnOf x qual (FF st) (uS st) (dM st) .none kV doc pm an cQ ct/\K.lookup f=some ⟨oc,od,.func fd,s_⟩/\PySem.W.codeIn K cQ qual=true
 kp:PySem.W.keepIn K (.ref f)=true
section
variable{P:eW}{w:df}{K:FG}{mg:Str->ai ao}{base:cL}
def gL.ok{st:Stmt}{N:List Str}(F:gL K x qual st f fd)(S:aL N ps (dM st))(len:∀vs H Q E,sp vs H Q E->vs.length=ps.length)
  (iI:∀(cQ:ao) (A:dD) (outer:List Env) (s:az) (H:Hp) (vs:List V) (Q:VK) (E:XK),dj k (A.deeper (envOfC qual (dM st) s.heap.objs.size f cQ))->sp vs H Q E-> ∃t,gR (kc gd P w K mg base N qual (dM st) f cQ A outer s H E).Bc (uS st) t/\t { nx:=λ_ H'=>Q .bh H',rt:=Q} (start N vs) H):bN P w K mg base gd (k+1) f fd ps sp:=by
 obtain⟨oc,od,kV,doc,pm,an,cQ,ct,s_,rfl,lk,pD⟩:=F.ex;refine RK lk pD S len λA outer s H vs Q E hr wH=>?_
 obtain⟨t,h,q⟩:=iI cQ A outer s H vs Q E hr wH;exact⟨t,h.Bc,q⟩
def gL.binds{st:Stmt}(F:gL K x qual st f fd)
  (h:∀(kV doc pm:ao) (an:ai ah) (cQ ct:ao) (us:List ao),us.length=ps.length->bindArgs (PySem.W.fnOf x qual (FF st) (uS st) (dM st) .none kV doc pm an cQ ct) ⟨us,[]⟩=pure (ps.zip us)):Binds K fd ps []:=by
 obtain⟨oc,od,kV,doc,pm,an,cQ,ct,s_,rfl,lk,pD⟩:=F.ex;exact .all (h kV doc pm an cQ ct)
def fun_mk{st:Stmt}{oc:ao}{od an:ai ah}{s_:Array (ai ao)}{kV doc pm cQ ct:ao}(l:K.lookup f=some ⟨oc,od,.func (PySem.W.fnOf x qual (FF st) (uS st) (dM st) .none kV doc pm an cQ ct),s_⟩)
  (c:PySem.W.codeIn K cQ qual=true) (k:PySem.W.keepIn K (.ref f)=true):gL K x qual st f (PySem.W.fnOf x qual (FF st) (uS st) (dM st) .none kV doc pm an cQ ct):=⟨⟨oc,od,kV,doc,pm,an,cQ,ct,s_,rfl,l,c⟩,k⟩
end
def hu_of{A:dD}(hr:dj k A):A.units+1<cLine:=MP (Nat.add_le_add_left (by decide:1<=64) _) hr.units
section
variable{X:Cx}
def pv(i:Nat){pos:Pos}(hN:X.N[i]?=some x:=by rfl)(hv:zh X.env.scope x:=by first|exact Or.inl rfl|exact Or.inr (Or.inl rfl)|exact Or.inr (Or.inr rfl))(hd:(x == ("__debug__":Str))=false:=by decide)
  (pD:(x == ("__classdict__":Str))=false:=by decide):PE X (.Name x pos) (ra i):=Y0 hN hv hd pD
end
def qZ{A B:Prop}(h:B):if false=true then A else B:=by
 rw[aW o5];exact h
def q8{A B:Prop}(h:A):if true=true then A else B:=by
 rw[aT rfl];exact h
def aI(H H':Hp):Prop:=∀b o,H b=some o->H' b=some o
def aI.refl(H:Hp):aI H H:=λ_ _ h=>h
def aI.trans{H1 H2:Hp}(a:aI H H1)(b:aI H1 H2):aI H H2:=λc o h=>b c o (a c o h)
def aI.free(e:aI H H'){l:ah}(h:H' l=Option.none):H l=Option.none:=by
 cases q:H l with
 |none=>rfl
 |some o=>
  rw[e l o q] at h;cases h
def aI.seq{xs:List V}(e:aI H H')(h:dH K H a xs):dH K H' a xs:=by
 rcases h with(h|⟨o,h⟩)|h
 .exact .inl (.inl (e _ _ h))
 .exact .inl (.inr ⟨o,e _ _ h⟩)
 .exact .inr h
section
variable{κ:Type}[DecidableEq κ]
end
end L2
set_option maxHeartbeats 4000000
namespace L2
open PySem PySem.Spec PyProof.Rows
variable{env:Env}{names:List (Str×p6)}{x:Str}{c a:ah}{scope:Scope}{X:Cx}{prog:eW}{w:df}{A:dD}{s:az}{H:Hp}{fp:List ah}{Fin:List V->Hp->Prop}{wi:TI}{g:TG}{tt:TT}{te:TE}{τ:St}{n k:Nat}
noncomputable def kR(env:Env)(names:List (Str×p6)):List (Str×ah):=((names.filter λy=>y.2 == .free).reverse).map λy=>(y.1,(env.cells.lookup y.1).getD 0)
theorem Nc{g:Str->ah}{x:Str}:∀{l:List (Str×p6)},(∃k,(x,k)∈l)->(l.map λy=>(y.1,g y.1)).lookup x=some (g x)
 |[],h=>by obtain⟨k,h⟩:=h;cases h
 |(n,k)::r,h=>by
  show List.lookup x ((n,g n)::_)=_;cases hx:x == n with
  |true=>
   have e:x=n:=by simpa using hx
   subst e;simp[rh]
  |false=>
   simp only[rh,hx];refine Nc (l:=r) ?_;obtain⟨k',h⟩:=h;rcases dR.mp h with e|e
   .cases e;simp at hx
   .exact⟨k',e⟩
theorem M7{g:Str->ah}{x:Str}{c:ah}:∀{l:List (Str×p6)},(l.map λy=>(y.1,g y.1)).lookup x=some c->c=g x/\∃k,(x,k)∈l
 |[],h=>by cases h
 |(n,k)::r,h=>by
  have h:List.lookup x ((n,g n)::(r.map λy=>(y.1,g y.1)))=some c:=h
  cases hx:x == n with
  |true=>
   have e:x=n:=by simpa using hx
   subst e;simp only[rh,hx] at h;exact⟨(Option.some.inj h).symm,k,qz⟩
  |false=>
   simp only[rh,hx] at h;obtain⟨e,k',hk⟩:=M7 h;exact⟨e,k',oZ _ hk⟩
def OA(h:(x,NameKind.free)∈names)(hc:env.cells.lookup x=some c):(kR env names).lookup x=some c:=by
 have:=Nc (g:=λn=>(env.cells.lookup n).getD 0) (x:=x) (l:=(names.filter λy=>y.2 == .free).reverse) ⟨.free,by simp[h]⟩
 unfold kR;rw[this,hc];rfl
def Jw(hf:∀y∈names,y.2=.free->∃c,env.cells.lookup y.1=some c)(h:(kR env names).lookup x=some c):env.cells.lookup x=some c:=by
 obtain⟨e,k,hk⟩:=M7 (g:=λn=>(env.cells.lookup n).getD 0) h
 have AX:=kG.mp (List.mem_reverse.mp hk);obtain⟨c',lS⟩:=hf _ AX.1 (by simpa using AX.2)
 have Ll:env.cells.lookup x=some c':=lS;rw[e,Ll];rfl
theorem H0{env:Env}:∀(names:List (Str×p6)) (cs:List (Str×ah)),(∀y∈names,y.2=.free->∃c,env.cells.lookup y.1=some c)->
  (forIn names cs (λ(x:Str×p6) (r:List (Str×ah))=>if(x.2 == NameKind.free)=true then(do let a <-cellOf env x.1;pure (ForInStep.yield ((x.1,a)::r))) else(pure (ForInStep.yield r):Sem (ForInStep (List (Str×ah)))))) =
   pure (kR env names++cs)
 |[],cs,_=>by rw[List.forIn_nil];rfl
 |(n,k)::r,cs,h=>by
  rw[List.forIn_cons];cases hk:k == NameKind.free with
  |true=>
   obtain⟨c,hc⟩:=h (n,k) qz (by simpa using hk)
   have lS:env.cells.lookup n=some c:=hc;have e:cellOf env n=pure c:=by unfold cellOf;rw[lS]
   simp only[hk,a_,e,pure_bind];rw[H0 r _ λy hy=>h y (oZ _ hy)]
   congr 1
   unfold kR;rw[Bl];simp[hk,lS]
  |false=>
   simp only[hk,uC,cX,pure_bind];rw[H0 r _ λy hy=>h y (oZ _ hy)]
   congr 1
   unfold kR;rw[Bl];simp[hk]
def M6(h:∀y∈scope.names,y.2=.free->∃c,env.cells.lookup y.1=some c):closureFor scope env=pure (kR env scope.names):=by
 have:=H0 (env:=env) scope.names [] h;rw[j9] at this;unfold closureFor;show(forIn scope.names [] _ >>= λr=>pure r)=_
 rw[bind_pure];exact this
theorem M_{env:Env}:∀{names:List (Str×p6)} {x:Str},names.lookup x=some .free->
  (names.map λ(n,k)=>if(k == NameKind.free&&env.scope.kind == .function&&env.kindOf n == some .cell) then(n,NameKind.cell) else(n,k)).lookup x=some .cell\/
  (names.map λ(n,k)=>if(k == NameKind.free&&env.scope.kind == .function&&env.kindOf n == some .cell) then(n,NameKind.cell) else(n,k)).lookup x=some .free
 |[],_,h=>by simp at h
 |(n,k)::r,x,h=>by
  have ih:=@M_ env r x;show List.lookup x ((if(k == NameKind.free&&env.scope.kind == .function&&env.kindOf n == some .cell)=true then(n,NameKind.cell) else(n,k))::_)=_\/List.lookup x ((if(k == NameKind.free&&env.scope.kind == .function&&env.kindOf n == some .cell)=true then(n,NameKind.cell) else(n,k))::_)=_
  cases hx:x == n with
  |true=>
   simp only[rh,hx] at h;cases h;by_cases hc:(NameKind.free == NameKind.free&&env.scope.kind == .function&&env.kindOf n == some .cell)=true
   .rw[aT hc];simp[rh,hx]
   .rw[aW hc];simp[rh,hx]
  |false=>
   simp only[rh,hx] at h;by_cases hc:(k == NameKind.free&&env.scope.kind == .function&&env.kindOf n == some .cell)=true
   .rw[aT hc];simp only[rh,hx];exact ih h
   .rw[aW hc];simp only[rh,hx];exact ih h
theorem H9{env:Env}:∀{names:List (Str×p6)} {x:Str} {q:p6},(q=.cell\/q=.free)->(∀y∈names,y.2≠.cell)->
  (names.map λ(n,k)=>if(k == NameKind.free&&env.scope.kind == .function&&env.kindOf n == some .cell) then(n,NameKind.cell) else(n,k)).lookup x=some q->(x,NameKind.free)∈names
 |[],_,_,_,_,h=>by simp at h
 |(n,k)::r,x,q,hq,hn,h=>by
  have ih:=@H9 env r x q hq λy hy=>hn y (oZ _ hy)
  have hk:k≠.cell:=hn (n,k) qz;have h:List.lookup x ((if(k == NameKind.free&&env.scope.kind == .function&&env.kindOf n == some .cell)=true then(n,NameKind.cell) else(n,k))::_)=some q:=h
  cases hx:x == n with
  |true=>
   have e:x=n:=by simpa using hx
   subst e;by_cases hc:(k == NameKind.free&&env.scope.kind == .function&&env.kindOf x == some .cell)=true
   .have hf:k=.free:=by
     simp only[m9,beq_iff_eq] at hc;exact hc.1.1
    subst hf;exact qz
   .rw[aW hc] at h;simp only[rh,hx] at h;have e:k=q:=Option.some.inj h;rcases hq with rfl|rfl
    .exact b_ e hk
    .rw[e];exact qz
  |false=>
   by_cases hc:(k == NameKind.free&&env.scope.kind == .function&&env.kindOf n == some .cell)=true
   .rw[aT hc] at h;simp only[rh,hx] at h;exact oZ _ (ih h)
   .rw[aW hc] at h;simp only[rh,hx] at h;exact oZ _ (ih h)
def iS(X:Cx)(scope:Scope)(M:List Str)(C:ah)(s:az)(H:Hp)(fp:List ah):Cx:=
 {X with N:=M,s₀:=s,H₀:=H,env:=compEnvC scope (kR X.env scope.names) C X.env,outer:=X.stack,ex:=fp,fn:=λ_=>false,pn:=[],xe:=λ_ _=>False}
noncomputable def i5(k:Nat)(aX:List Nat)(Z:St):St:=List.replicate k none++aX.map λi=>(Z[i]?).join
def qG(X:Cx)(ifs:List Expr)(t:TT):Prop:=
 ∀(aa:List (ah×Obj)) (s:az) (Z:St) (H:Hp) (Q:Bool->Hp->Prop),Inv X aa Z H s->t Z H Q->
  wpAny (model X.prog X.w) X.A (forIn ifs true λc r=>if r=true then do let ok <-isTrue c X.env (eval c X.env);pure (ForInStep.yield ok) else pure (ForInStep.yield r)) (TP X aa Z Q) X.xe s
def MD:TT:=λ_ H Q=>Q true H
def vw:qG X [] MD:=λ_ _ Z H _ I h=>wpAny_tests_nil ⟨H,I,h⟩
def Xn{c:Expr}{t:TT}(hc:PT X c t):qG X [c] t:=λaa s Z H Q I h=>wpAny_tests_one (hc aa s Z H Q I h)
def Ts{R:Result->az->Prop}{elt target iter:Expr}{ifs:List Expr}{pos:Pos}{it aM:ao}(I:Nat->az->Prop)
  (turn:∀n s,I n s->wpAny (model prog w) A (pyNext it) (λr s₁=>match r with
   |none=>R (.ok .next) s₁
   |some v=>wpAny (model prog w) A (letOwnedTupleGo target it v) (λ_ s₀=>wpAny (model prog w) A (assign target env v) (λ_ s₂=>
     wpAny (model prog w) A (forIn ifs true λc r=>if r=true then do let ok <-isTrue c env (eval c env);pure (ForInStep.yield ok) else pure (ForInStep.yield r)) (λok s₃=>
      if ok=true then wpAny (model prog w) A (eval elt env) (λx s₄=>
       wpAny (model prog w) A (call (.builtin "list.append") [aM,x]) (λ_ s₅=>∃m,m<n/\I m s₅) (λ_ _=>False) s₄) (λ_ _=>False) s₃
      else ∃m,m<n/\I m s₃) (λ_ _=>False) s₂) (λ_ _=>False) s₀) (λ_ _=>False) s₁) (λ_ _=>False) s)
  (n:Nat) (h:I n s) :
  codeAny (model prog w) A (.compLoop (.ListComp elt [⟨target,iter,ifs,0⟩] scope pos) 0 it aM env) R s:=by
 refine codeAny_loop rfl I (λn s hI=>?_) n h
 show wpAny _ A ((compTurn (.ListComp elt [⟨target,iter,ifs,0⟩] scope pos) 0 it aM env).onRaise (λx=>do noteFrame x env;theTreesLotGoes x)) _ _ s
 refine wpAny_noted ?_;rw[compTurn_list];refine aK (wpAny_standAt (aK (wpAny_mono (turn n s hI) (λr s₁ h₁=>?_) λ_ _ h'=>h'.elim)))
 cases r with
 |none=>exact bW h₁
 |some v=>
  refine aK (wpAny_mono h₁ (λ_ s₀ h₀=>?_) λ_ _ h'=>h'.elim)
  refine aK (wpAny_mono h₀ (λ_ s₂ h₂=>aK (wpAny_mono h₂ (λok s₃ h₃=>?_) λ_ _ h'=>h'.elim)) λ_ _ h'=>h'.elim)
  cases ok with
  |false=>exact bW ⟨rfl,h₃⟩
  |true=>
   exact aK (aK (wpAny_mono h₃ (λx s₄ h₄=>aK (wpAny_mono h₄ (λ_ s₅ h₅=>bW (bW ⟨rfl,h₅⟩)) λ_ _ h'=>h'.elim)) λ_ _ h'=>h'.elim))
def Inv.Er{aa:List (ah×Obj)}{Z:St}{o:HO}(I:Inv X aa Z H s)(hn:H a=none)(hy:X.s₀.heap.objs.size<=a)(hL:a≠X.env.locals)(hC:∀x c,X.env.cells.lookup x=some c->c≠a)
  (hP:∀p∈X.pn++aa,p.1≠a) (new:cC X.prog X.w (upd H a o) s.heap a o):Inv X aa Z (upd H a o) s:=by
 refine⟨I.ok,I.os,I.bare,⟨I.base.keep,I.base.slot,λb ob e n hx=>?_,I.base.there,λb xs e=>?_,λb ob u e=>?_,λb ps e=>?_⟩,I.loc,I.cell,?_,λx c e=>?_,λp hp=>?_,λb u e=>?_,I.len⟩
 .rw[cK (lY (iA (eV e) hy))];exact I.base.free b ob e n hx
 .have z:=I.base.lA b xs e;rw[cK (mO z hn)];exact z
 .have z:=I.base.ke b ob u e;rw[cK (mO z hn)];exact z
 .obtain⟨m,z⟩:=I.base.ly b ps e;exact⟨m,by rw[cK (mO z hn)];exact z⟩
 .rw[cK (Ne.symm hL)];exact I.free
 .rw[cK (hC x c e)];exact I.eY x c e
 .obtain⟨e,n,r⟩:=I.pin p hp;exact⟨e,by rw[cK (hP p hp)];exact n,r⟩
 .by_cases hb:b=a
  .subst hb;rw[iQ] at e;cases e;exact new
  .rw[cK hb] at e;exact(I.cg b u e).lh (λc v _ q=>q) (λc q=>by rw[cK (mO q hn)];exact q) λc xs q=>by rw[cK (mO q hn)];exact q
def l4(J:It)(g:TG)(tt:TT)(te:TE)(τ₀:St)(H1:Hp)(Fin:List V->Hp->Prop):Prop:=
 ∃(n:Nat) (W:Nat->St->List V->Hp->Prop),W 0 τ₀ [] H1/\∀i τ aM H,i<=n->W i τ aM H->
  (J.stop i H/\Fin aM H)\/(i<n/\J.go i H/\∀x H',J.vL i H x H'->g x τ H' λτ2 H2=>tt τ2 H2 λb H3=>if b=true then te τ2 H3 λv H4=>aM.length<sizeLine/\W (i+1) τ2 (aM++[v]) H4 else W (i+1) τ2 aM H3)
structure cf (X:Cx) (scope:Scope) (M:List Str) (k:Nat) (aX:List Nat):Prop where
 kind:scope.kind=.function
 cell:∀y∈scope.names,y.2≠.cell
 free:∀y∈scope.names,y.2=.free->X.env.kindOf y.1=some .cell\/X.env.kindOf y.1=some .free
 names:∀y∈scope.names,y.2=.local -> scope.names.lookup y.1=some .local
 len:M.length=k+aX.length
 Kn:∀(j i:Nat) (x:Str),aX[j]?=some i->M[k+j]?=some x->X.N[i]?=some x/\scope.names.lookup x=some .free
section
variable{X:Cx}{aa:List (ah×Obj)}{Z:St}{tg elt iter:Expr}{ifs:List Expr}{scope:Scope}{pos:Pos}{M:List Str}{k:Nat}{aX:List Nat}{g:TG}{tt:TT}{te:TE}
def Inv.jA(I:Inv X aa Z H s)(ok:cf X scope M k aX):∀y∈scope.names,y.2=.free->∃c,X.env.cells.lookup y.1=some c:=λy hy e=>I.ok.has y.1 (ok.free y hy e)
def Inv.block{s4:az}{C D:ah}{oD:Obj}{m:Str->ai ao}(I:Inv X aa Z H s)(ok:cf X scope M k aX)(f2:∀b∈fp,ka X aa H b)(G8:∀b∈fp,∃o,s.heap.get? b=some o/\∀v,o.data≠.cell v)
  (hC:s.heap.objs.size<=C) (Di:D≠C) (hD:s.heap.objs.size<=D) (old:∀b o,s.heap.get? b=some o->s4.heap.get? b=some o) (os:s4.os=s.os) (gens:s4.gens=s.gens)
  (ns:s4.heap.Ns C m) (hoD:s4.heap.get? D=some oD) (hdD:∀v,oD.data≠.cell v):Inv (iS X scope M C s H fp) [(D,oD)] (i5 k aX Z) H s4:=by
 have hf:=I.jA ok;have fr:∀a,s.heap.objs.size<=a->H a=none:=λa ha=>I.cg.fresh ha
 have nfs:∀b∈kT X.stack,b<s.heap.objs.size:=λb hb=>by
  rcases dR.mp (I.lj b hb) with e|e
  .rw[e];exact I.lt
  .exact Nat.lt_of_not_le λz=>I.yI z e
 have cl:∀x c,(kR X.env scope.names).lookup x=some c->X.env.cells.lookup x=some c:=λx c e=>Jw hf e
 refine⟨⟨I.ok.mod,ok.kind,I.ok.glob,I.ok.blt,hC,λx y c e1 e2=>I.ok.inj x y c (cl x c e1) (cl y c e2),λx hx=>?_,λx c e _=>?_,I.ok.hd,I.ok.frames,.inl rfl,λb hb=>?_,I.bs,kH I.ok.rE I.sz,λb o e hb=>?_,λb hb z=>?_,I.stack,I.kF⟩,os,by rw[gens];exact I.bare,Un.kept old,⟨m,ns,λi x v h1 h2 h3=>?_⟩,λx c e=>?_,fr C hC,λx c e=>I.eY x c (cl x c e),λp hp=>?_,I.cg.kept old,?_⟩
 .have hx:(relabel scope X.env).names.lookup x=some .cell\/(relabel scope X.env).names.lookup x=some .free:=hx;have hm:(x,NameKind.free)∈scope.names:=by
   rcases hx with h|h
   .exact H9 (env:=X.env) (.inl rfl) ok.cell h
   .exact H9 (env:=X.env) (.inr rfl) ok.cell h
  obtain⟨c,hc⟩:=hf _ hm rfl;exact⟨c,OA hm hc⟩
 .cases e
 .obtain⟨f0,f1,f2,f3,f4,f5⟩:=f2 b hb;obtain⟨ob,eb,_⟩:=G8 b hb;exact⟨lY (iA (eV eb) hC),λx c e=>f4 x c (cl x c e)⟩
 .obtain⟨f0,f1,f2,f3,f4,f5⟩:=f2 b hb;rcases f3 with q|q
  .exact I.ok.mU b o e q
  .exact b_ (iA (eV e) (kH I.ok.rE q)) (mI _)
 .obtain⟨f0,f1,f2,f3,f4,f5⟩:=f2 b hb;rcases dR.mp (I.lj b z) with q|q
  .exact f1 q
  .exact f2 q
 .unfold i5 at h2;have hk:¬i<k:=λq=>by
   rw[HG (by simpa using q),List.getElem?_replicate] at h2
   split at h2 <;> cases h2
  rw[HF (by simpa using hk),List.length_replicate,lC] at h2
  cases e:aX[i - k]? with
  |none=>rw[e] at h2;cases h2
  |some j=>
   rw[e] at h2;have yn:(Z[j]?).join=some v:=Option.some.inj h2;have hj:Z[j]?=some (some v):=by
    cases q:Z[j]? with
    |none=>rw[q] at yn;cases yn
    |some z=>rw[q] at yn;simp at yn;rw[yn]
   have yu:k+(i - k)=i:=by lia
   obtain⟨hN,sE⟩:=ok.Kn (i - k) j x e (by rw[yu];exact h1)
   have hm:(x,NameKind.free)∈scope.names:=PySem.mem_of_lookup sE;have Su:=ok.free _ hm rfl;obtain⟨mX,hnX,hlX⟩:=I.loc;obtain⟨u,ru,lk⟩:=hlX j x v hN hj (by rcases Su with q|q;exact .inr (.inl q);exact .inr (.inr q))
   refine⟨u,ru,.inr ⟨M_ (env:=X.env) sE,?_⟩⟩;rcases lk with⟨q,_⟩|⟨_,c,hc,mr⟩
   .rcases Su with z|z
    .rw[show X.env.kindOf x=some .cell from z] at q;cases q
    .rw[show X.env.kindOf x=some .free from z] at q;cases q
   .exact⟨c,OA hm hc,mr.keeps old⟩
 .obtain⟨v,z⟩:=I.cell x c (cl x c e);exact⟨v,z.keeps old⟩
 .have e:p=(D,oD):=by simpa[iS] using hp
  subst e;exact⟨hoD,fr D hD,Di,λz=>b_ (iA (nfs D z) hD) (mI _),hdD⟩
 .unfold i5;rw[fu,List.length_replicate,bY];exact ok.len.symm
def NU{H2:Hp}{s2:az}{J:It}{it:ah}{tn:Nat->cL->Prop}{RR:ao->ah->Result->az->Prop}{E:ao->az->Prop}(I2:Inv X aa Z H2 s2)(hc:X.calm=true)(ok:cf X scope M k aX)
  (T:Turn X.prog X.w X.K tg J fp it tn) (rK:tn 0 s2.heap) (f2:∀b∈fp,ka X aa H2 b)
  (hg:∀C s H fp,PG (iS X scope M C s H fp) tg g) (ht:∀C s H fp,qG (iS X scope M C s H fp) ifs tt) (he:∀C s H fp,PE (iS X scope M C s H fp) elt te)
  (hW:l4 J g tt te (i5 k aX Z) H2 Fin)
  (hRR:∀D C s' H' aM,Inv X aa Z (upd H' D (.lst aM)) s'->ka X aa (upd H' D (.lst aM)) C->(∃m,s'.heap.Ns C m)->H' D=none->Fin aM H'->RR (.ref D) C (.ok .next) s') :
  wpAny (model X.prog X.w) X.A (newList []) (λaM s₃=>wpAny (model X.prog X.w) X.A (newFunctionEnv scope X.env.globals (kR X.env scope.names) [] X.env.qual none .none (some X.env)) (λCF s₄=> codeAny (model X.prog X.w) X.A (.compStart (.ListComp elt [⟨tg,iter,ifs,0⟩] scope pos) 0 (.ref it) aM { CF with scope:=relabel scope X.env}) (RR aM CF.locals) s₄) E s₃) E s2:=by
 refine wpAny_newObj_type (wpAny_newFunctionEnv ok.cell (by intro y hy;simp at hy) (λh₁ hns₁ hsb₁=>?_) ok.kind)
 dsimp only at hns₁ hsb₁ ⊢;generalize Li:s2.heap.push { cls:=.type "list",dict:=none,data:=.seq ([]:List ao).toArray}=H3 at hns₁ hsb₁ ⊢;have Lh:H3.objs.size=s2.heap.objs.size+1:=by rw[<-Li,Heap.size_push]
 have Di:s2.heap.objs.size≠H3.objs.size:=by rw[Lh];exact lY (Ez _)
 have below:∀b,b<s2.heap.objs.size->b≠H3.objs.size/\b≠s2.heap.objs.size:=λb hb=>⟨by rw[Lh];exact lY (Nat.lt_succ_of_lt hb),lY hb⟩
 have old:∀b o,s2.heap.get? b=some o->h₁.get? b=some o:=λb o e=>hsb₁.extBut b o (below b (eV e)).1 (iP _ (Li ▸ iP _ e))
 have vb:h₁.get? s2.heap.objs.size=some { cls:=.type "list",data:=.seq ([]:List ao).toArray 0}:=hsb₁.extBut _ _ Di (iP _ (Li ▸ oI _ rfl));have G8:=T.obj 0 _ rK;have va:s2.heap.objs.size<=H3.objs.size:=by rw[Lh];exact Bm _
 obtain⟨N,W,w0,turn⟩:=hW;have Ta:tn 0 h₁:=T.keep _ _ _ rK λb _ o e=>old b o e
 have loop:∀s₃:az,s₃={ s2 with heap:=h₁,toks:=s2.toks+([]:List (Str×ao)).length}->
   codeAny (model X.prog X.w) X.A (.compLoop (.ListComp elt [⟨tg,iter,ifs,0⟩] scope pos) 0 (.ref it) (.ref s2.heap.objs.size) (compEnvC scope (kR X.env scope.names) H3.objs.size X.env))
    (RR (.ref s2.heap.objs.size) H3.objs.size) s₃:=by
  rintro s₃ rfl;have I3:Inv (iS X scope M H3.objs.size s2 H2 fp) [(s2.heap.objs.size,{ cls:=.type "list",data:=.seq ([]:List ao).toArray 0})] (i5 k aX Z) H2 { s2 with heap:=h₁,toks:=s2.toks+([]:List (Str×ao)).length}:=
   I2.block ok f2 G8 va Di (c7 _) old rfl rfl hns₁ vb (λv z=>by cases z)
  have K7:∀b∈fp,b≠H3.objs.size/\b≠s2.heap.objs.size:=λb hb=>let ⟨o,e,_⟩:=G8 b hb;below b (eV e)
  have pQ:∀{H':Hp} {oD:Obj},(∀b∈fp,H' b=none)->∀b∈fp,ka (iS X scope M H3.objs.size s2 H2 fp) [(s2.heap.objs.size,oD)] H' b:=λ{H' oD} hn b hb=>by
   obtain⟨f0,f1,f2,f3,f4,f5⟩:=f2 b hb;refine⟨hn b hb,(K7 b hb).1,λz=>?_,.inl hb,λx c e=>f4 x c (Jw (I2.jA ok) e),λp hp z=>?_⟩
   .rcases dR.mp (I2.lj b z) with q|q
    .exact f1 q
    .exact f2 q
   .have e:p=(s2.heap.objs.size,oD):=by simpa[iS] using hp
    subst e;exact(K7 b hb).2 z.symm
  refine Ts (λn s'=>∃(i:Nat) (τ:St) (aM:List V) (us:List ao) (c:Nat) (H':Hp),Vals aM us/\aM.length<=sizeLine/\ Inv (iS X scope M H3.objs.size s2 H2 fp) [(s2.heap.objs.size,{ cls:=.type "list",data:=.seq us.toArray c})] τ H' s'/\tn i s'.heap/\(∀b∈fp,H' b=none)/\n=N - i/\i<=N/\W i τ aM H') ?_ N
   ⟨0,i5 k aX Z,[],[],0,H2,.nil,pV _,I3,Ta,λb hb=>(f2 b hb).1,rfl,pV _,w0⟩
  rintro n s3 ⟨i,τ,aM,us,c,H',rv,hlen,I,st,fr,rfl,hiN,w⟩;have pinD:=(I.pin (s2.heap.objs.size,{ cls:=.type "list",data:=.seq us.toArray c}) (by simp[iS]))
  rcases turn i τ aM H' hiN w with⟨stop,qn⟩|⟨f_,go,step⟩
  .refine cR (T.done (iS X scope M H3.objs.size s2 H2 fp) rfl rfl rfl hc i _ s3 τ H' (λ_ _=>False) I (pQ fr) st stop) λr s4 ⟨hr,I4⟩=>?_
   subst hr;have tD:=(I4.pin (s2.heap.objs.size,{ cls:=.type "list",data:=.seq us.toArray c}) (by simp[iS]))
   have lO:∀b∈fp,(b∈X.ex\/X.s₀.heap.objs.size<=b)/\b≠X.env.locals/\(∀x c,X.env.cells.lookup x=some c->c≠b)/\∀p∈X.pn++aa,p.1≠b:=λb hb=>by
    obtain⟨f0,f1,f2,f3,f4,f5⟩:=f2 b hb;exact⟨f3,f1,f4,f5⟩
   have J1:Inv X aa Z H' s4:=I2.wd (ch:=fp) I4.os I4.base I4.cg I4.bare lO;have young:X.s₀.heap.objs.size<=s2.heap.objs.size:=I2.sz;have apart:∀a,s2.heap.objs.size<=a->a≠X.env.locals/\(∀x c,X.env.cells.lookup x=some c->c≠a)/\∀p∈X.pn++aa,p.1≠a:=λa ha=>
    ⟨Ew (iA I2.lt ha),λx c e z=>by
     obtain⟨v,q⟩:=I2.cell x c e;exact b_ (iA q.lt (by rw[z];exact ha)) (mI _),λp hp z=>b_ (iA (eV (I2.pin p hp).1) (by rw[z];exact ha)) (mI _)⟩
   have aD:=apart _ (c7 _);have aC:=apart _ va;have J2:Inv X aa Z (upd H' s2.heap.objs.size (.lst aM)) s4:=J1.Er tD.2.1 young aD.1 aD.2.1 aD.2.2 ⟨hlen,us,c,rv,tD.1⟩;obtain⟨m,hn,_⟩:=I4.loc;have hCn:H' H3.objs.size=none:=I4.free;refine hRR _ _ s4 H' aM J2 ⟨?_,aC.1,I2.yI va,.inr (kH young va),aC.2.1,aC.2.2⟩ ⟨m,hn⟩ tD.2.1 qn;rw[cK (Ne.symm Di)];exact hCn
  .refine cR (T.item (iS X scope M H3.objs.size s2 H2 fp) rfl rfl rfl hc i _ s3 τ H' (λ_ _=>False) I (pQ fr) st go) λr s4 ⟨u,hr,h4⟩=>?_
   subst hr;refine cR h4 λ_ s5 hh=>?_
   obtain⟨x,H5,I5,r5,y5,yZ,K9⟩:=hh;have HS:=I5.pinned (pQ K9) (T.obj _ _ yZ);refine cR (hg _ _ _ _ _ s5 τ H5 x u _ HS r5 (step x H5 y5)) λ_ s6 hh=>?_
   obtain⟨τ6,H6,I6,q6⟩:=hh;refine cR (ht _ _ _ _ _ s6 τ6 H6 _ I6 q6) λb s7 hh=>?_
   obtain⟨H7,I7,q7⟩:=hh;have sS:∀{s':az} {τ':St} {Hn:Hp},Inv (iS X scope M H3.objs.size s2 H2 fp) ([(s2.heap.objs.size,{ cls:=.type "list",data:=.seq us.toArray c})]++B7 fp s5.heap) τ' Hn s'->tn (i+1) s'.heap/\∀b∈fp,Hn b=none:=λ{s' τ' Hn} I'=>by
    refine⟨T.keep _ _ _ yZ λb hb o e=>(I'.pin (b,o) (iB _ (iB _ (ES hb e)))).1,λb hb=>?_⟩
    obtain⟨o,e,d⟩:=T.obj _ _ yZ b hb;exact(I'.pin (b,o) (iB _ (iB _ (ES hb e)))).2.1
   cases b with
   |false=>
    rw[aW o5] at q7;show ∃m,m<N - i/\_;obtain⟨st7,K_⟩:=sS I7;exact⟨N - (i+1),by lia,i+1,τ6,aM,us,c,H7,rv,hlen,I7.iM,st7,K_,rfl,f_,q7⟩
   |true=>
    rw[aT rfl] at q7;show wpAny _ _ (eval elt _) _ _ s7;refine cR (he _ _ _ _ _ s7 τ6 H7 _ I7 q7) λv s8 hh=>?_
    obtain⟨y,H8,I8,r8,hl8,w8⟩:=hh;obtain⟨st8,fr8⟩:=sS I8;have mD:=(I8.pin (s2.heap.objs.size,{ cls:=.type "list",data:=.seq us.toArray c}) (by simp[iS]))
    have hul:=rv.length;refine append_at (hsz:=by show us.toArray.size<=sizeLine;rw[fP,<-hul];exact hlen) mD.1 λh9 S8 e9=>?_
    have e9':h9.get? s2.heap.objs.size=some { cls:=.type "list",data:=.seq (us++[v]).toArray (c+1)}:=by rw[e9,List.push_toArray]
    have Tq:=I8.iM;have Dj:s2.heap.objs.size≠(iS X scope M H3.objs.size s2 H2 fp).env.locals:=mD.2.2.1;have nx:∀(b:ah),H8 b≠none->b≠s2.heap.objs.size:=λb hb z=>hb (by rw[z];exact mD.2.1)
    refine⟨N - (i+1),by lia,i+1,τ6,aM++[y],us++[v],c+1,H8,rv.append (.cons r8 .nil),by rw[fu,mJ];exact hl8,?_,?_,fr8,rfl,f_,w8⟩
    .have I9:Inv (iS X scope M H3.objs.size s2 H2 fp) [] τ6 H8 s8:=Tq.kD (λp hp=>b_ hp (by simp))
     have Tp:Inv (iS X scope M H3.objs.size s2 H2 fp) [] τ6 H8 { s8 with heap:=h9}:=I9.turned (t':=s8.toks) (λb o hb e=>(S8.2 b hb).trans e) mD.2.1 Dj (.inr (c7 _))
      (λx cc e z=>by
       obtain⟨v',q⟩:=I2.cell x cc (Jw (I2.jA ok) e);exact b_ (iA q.lt (by rw[z];exact c7 _)) (mI _)) (λp hp=>b_ hp (by simp[iS]))
     refine Tp.kD λp hp=>?_
     have e:p=(s2.heap.objs.size,{ cls:=.type "list",data:=.seq (us++[v]).toArray (c+1)}):=by simpa using hp
     subst e;exact⟨e9',mD.2.1,Dj,mD.2.2.2.1,λv' z=>by cases z⟩
    .exact T.keep _ _ _ st8 λb hb o e=>S8.extBut b o (K7 b hb).2 e
 exact codeAny_compStart_list (loop _ rfl) (T.self _ 0 _ _ _ Ta (loop _ rfl))
def tV(wi:TI)(g:TG)(tt:TT)(te:TE)(k:Nat)(aX:List Nat):TE:=λZ H Q=>wi Z H λJ H1=>l4 J g tt te (i5 k aX Z) H1 λaM H'=>∀l,H' l=none->Q (.ref l) (upd H' l (.lst aM))
def Xo(hc:X.calm=true)(ok:cf X scope M k aX)(hi:PI X tg iter wi)
  (hg:∀C s H fp,PG (iS X scope M C s H fp) tg g) (ht:∀C s H fp,qG (iS X scope M C s H fp) ifs tt) (he:∀C s H fp,PE (iS X scope M C s H fp) elt te)
  (hs:∀x,foldedSetIterable iter X.env x=pure x:=by intro _;rfl):PE X (.ListComp elt [⟨tg,iter,ifs,0⟩] scope pos) (tV wi g tt te k aX):=by
 intro aa s Z H Q I h;rw[eval_ListComp];refine wpAny_comprehension_free (use:=none) rfl hs (M6 (I.jA ok)) ok.kind ok.names (cR (hi aa s Z H _ I h) λv s1 h1=>cR h1 λHj s2 h2=>?_)
 obtain⟨it,fp,tn,J,H2,e,I2,T,rK,f2,hW⟩:=h2;subst e;refine NU (RR:=λaM C=>compPost (model X.prog X.w) X.A X.xe none (EP X aa Z Q) aM C) I2 hc ok T rK f2 hg ht he hW ?_
 intro D C s' H' aM I' fC ⟨m,hn⟩ hD hq;refine⟨m,hn,λh' sb=>?_⟩
 obtain⟨f0,f1,f2,f3,f4,f5⟩:=fC;exact⟨.ref D,_,I'.turned (t':=s'.toks) (λb o hb e=>(sb.2 b hb).trans e) f0 f1 f3 f4 f5,rfl,hq D hD⟩
def Ea(wi:TI)(g:TG)(tt:TT)(te:TE)(k:Nat)(aX:List Nat)(i:Nat):TS:=λD Z H=>tV wi g tt te k aX Z H λv H'=>D.nx (Z.set i (some v)) H'
def Ph{i:Nat}{px oC:Pos}(hc:X.calm=true)(ok:cf X scope M k aX)(hN:X.N.Nodup)(yu:X.N[i]?=some x)(hx:Loc X.env.scope x)(hi:PI X tg iter wi)
  (hg:∀C s H fp,PG (iS X scope M C s H fp) tg g) (ht:∀C s H fp,qG (iS X scope M C s H fp) ifs tt) (he:∀C s H fp,PE (iS X scope M C s H fp) elt te)
  (Dw:swapsWith (.ListComp elt [⟨tg,iter,ifs,0⟩] scope pos) (some (.Name x px)) oC.line X.env=pure true)
  (hs:∀x,foldedSetIterable iter X.env x=pure x:=by intro _;rfl) (hf:X.fn x=true\/X.env.scope.names.lookup x=some .local := by first|exact .inl rfl|exact .inr rfl|assumption) :
  PS X (.Assign [.Name x px] (.ListComp elt [⟨tg,iter,ifs,0⟩] scope pos) oC) (Ea wi g tt te k aX i):=by
 intro aa s Z H D I h;rw[exec_Assign_Name_used _ _ _ _ Dw];refine aK (wpAny_standAt (aK ?_));show wpAny _ X.A (do let _ <-comprehension (.ListComp elt [⟨tg,iter,ifs,0⟩] scope pos) scope X.env _ (newList []) false (eval iter X.env) (some (assign (.Name x px) X.env))) _ _ s
 refine aK (wpAny_mono (wpAny_comprehension_free (use:=some (assign (.Name x px) X.env)) (Q:=λ_ s'=>SP X aa D .next s') rfl hs (M6 (I.jA ok)) ok.kind ok.names (cR (hi aa s Z H _ I h) λv s1 h1=>cR h1 λHj s2 h2=>?_)) (λ_ s' hq=>bW (bW hq)) λ_ _ e=>e)
 obtain⟨it,fp,tn,J,H2,e,I2,T,rK,f2,hW⟩:=h2;subst e;refine NU (RR:=λaM C=>compPost (model X.prog X.w) X.A X.xe (some (assign (.Name x px) X.env)) (λ_ s'=>SP X aa D .next s') aM C) I2 hc ok T rK f2 hg ht he hW ?_
 intro D' C s' H' aM I' fC ⟨m,hn⟩ hD hq;obtain⟨f0,f1,f2,f3,f4,f5⟩:=fC;show wpAny _ X.A (assign (.Name x px) X.env (.ref D')) _ _ _;refine wpAny_assign_Name (NL I' hN yu hx (v:=.ref D') rfl (λtO Tn hh=>?_) hf)
 obtain⟨a,sb,ha⟩:=hh;have hCa:C≠a:=by
  rcases ha with e|e
  .rw[e];exact f1
  .exact λz=>f4 _ _ e z.symm
 refine⟨m,hn.sameBut sb hCa,λh' sb'=>⟨_,_,Tn.turned (t':=tO.toks) (λb o hb e=>(sb'.2 b hb).trans e) f0 f1 f3 f4 f5,hq D' hD⟩⟩
end
noncomputable def yh(c:Nat):Str:=⟨#[c]⟩
def UH{K:FG}{xs:List V}(Pv:Nat->St->List V->Hp->Prop)(h0:Pv 0 τ [] H)(hl:∀i τ aM H,i<=xs.length->Pv i τ aM H->dH K H a xs)
  (hs:∀i x τ aM H,xs[i]?=some x->Pv i τ aM H->g x τ H λτ2 H2=>tt τ2 H2 λb H3=>if b=true then te τ2 H3 λv H4=>aM.length<sizeLine/\Pv (i+1) τ2 (aM++[v]) H4 else Pv (i+1) τ2 aM H3)
  (hd:∀τ aM H,Pv xs.length τ aM H->Fin aM H):l4 (xm K a) g tt te τ H Fin:=by
 refine⟨xs.length,Pv,h0,λi τ aM H hi p=>?_⟩
 have q:=hl i τ aM H hi p;by_cases f_:i<xs.length
 .refine .inr ⟨f_,⟨xs,xs[i],q,by simp[f_]⟩,λx H' y=>?_⟩
  obtain⟨e,y⟩:=y;subst e;exact hs i x τ aM _ (y xs q) p
 .have e:i=xs.length:=by lia
  subst e;exact .inl ⟨⟨xs,q,c7 _⟩,hd τ aM H p⟩
def Nm{lo:Int}(Pv:Nat->St->List V->Hp->Prop)(h0:Pv 0 τ [] H)
  (hs:∀i τ aM H,i<n->Pv i τ aM H->g (.int (lo+i)) τ H λτ2 H2=>tt τ2 H2 λb H3=>if b=true then te τ2 H3 λv H4=>aM.length<sizeLine/\Pv (i+1) τ2 (aM++[v]) H4 else Pv (i+1) τ2 aM H3)
  (hd:∀τ aM H,Pv n τ aM H->Fin aM H):l4 (t5 lo n) g tt te τ H Fin:=by
 refine⟨n,Pv,h0,λi τ aM H hi p=>?_⟩
 by_cases f_:i<n
 .refine .inr ⟨f_,f_,λx H' y=>?_⟩
  obtain⟨e,y⟩:=y;subst e y;exact hs i τ aM _ f_ p
 .have e:i=n:=by lia
  subst e;exact .inl ⟨c7 _,hd τ aM H p⟩
noncomputable def Pj(names outer:List (Str×p6))(N M:List Str)(k:Nat)(aX:List Nat):Bool:=
 names.all (λy=>y.2 != .cell)&&(names.all (λy=>y.2 != .free || (outer.lookup y.1 == some .cell || outer.lookup y.1 == some .free))&&(names.all (λy=>y.2 != .local || names.lookup y.1 == some .local) && (M.length == k+aX.length&&(List.range aX.length).all (λj=>match aX[j]?,M[k+j]? with|some i,some x=>N[i]? == some x&&names.lookup x == some .free|_,_=>true))))
def cf.of{M:List Str}{aX:List Nat}(outer:List (Str×p6))(N:List Str)(h:Pj scope.names outer N M k aX=true)(ho:X.env.scope.names=outer:=by rfl)(hN:X.N=N:=by rfl)(hk:scope.kind=.function:=by rfl):cf X scope M k aX:=by
 unfold Pj at h;simp only[m9,kI,Bool.or_eq_true,bne_iff_ne,ne_eq,beq_iff_eq] at h;obtain⟨h1,h2,h3,h4,h5⟩:=h;refine⟨hk,h1,λy hy e=>?_,λy hy e=>?_,h4,λj i x e1 e2=>?_⟩
 .rcases h2 y hy with z|z
  .exact b_ e z
  .show X.env.scope.names.lookup y.1=_\/X.env.scope.names.lookup y.1=_;rw[ho];exact z
 .rcases h3 y hy with z|z
  .exact b_ e z
  .exact z
 .have hj:j<aX.length:=(jX.mp e1).1;have:=h5 j (rf.mpr hj);rw[e1,e2] at this;simp only[m9,beq_iff_eq] at this;rw[hN];exact this
section
variable{X:Cx}
def Zd:gM X (compareOp .Is) (λx y H Q=>∃a b,x=.bl a/\y=.bl b/\Q (.bl (a == b)) H):=by
 intro aa s Z H x y v u Q I rx ry h;obtain⟨a,b,rfl,rfl,q⟩:=h;cases rx;cases ry;exact is_bool (v5 I q rfl)
def Xp:gM X (compareOp .IsNot) (λx y H Q=>∃a b,x=.bl a/\y=.bl b/\Q (.bl (a != b)) H):=by
 intro aa s Z H x y v u Q I rx ry h;obtain⟨a,b,rfl,rfl,q⟩:=h;cases rx;cases ry;exact isnot_bool (v5 I q rfl)
def Gh(K:FG)(H:Hp):V->String->Prop
 |.bh,n=>n="NoneType"
 |.bl _,n=>n="bool"
 |.int _,n=>n="int"
 |.str _,n=>n="str"
 |.ref a,n=>(n="list"/\∃xs,dH K H a xs)\/(n="tuple"/\∃xs,gY K H a xs)
 |_,_=>False
noncomputable def lW(k T:String):Bool:=k == T || (k == "bool" && T == "int")
def VM:cA X (.builtin "isinstance") (λxs H Q=>∃x k T,xs=[x,.ty T]/\Gh X.K H x k/\(T="int"\/T="str"\/T="bool"\/T="list"\/T="tuple")/\Q (.bl (lW k T)) H):=by
 intro aa s Z H xs us Q I r h;obtain⟨x,k,T,rfl,hk,hT,q⟩:=h;obtain⟨u,w',rfl,rx,ry⟩:=vals2 r;cases ry;have fin:∀b,b=lW k T->EP X aa Z Q (.bool b) s:=λb e=>v5 I q e.symm
 have dc:∀b,b=lW k T->EP X aa Z Q (.bool b) { s with toks:=s.toks+1}:=λb e=>v5 (I.tok _) q e.symm
 cases x with
 |bh=>
  cases rx;have hk:k="NoneType":=hk;subst hk;rcases hT with rfl|rfl|rfl|rfl|rfl
  .exact IsiPair.NoneType_int (dc _ (by decide))
  .exact IsiPair.NoneType_str (dc _ (by decide))
  .exact IsiPair.NoneType_bool (dc _ (by decide))
  .exact IsiPair.NoneType_list (dc _ (by decide))
  .exact IsiPair.NoneType_tuple (dc _ (by decide))
 |bl b=>
  cases rx;have hk:k="bool":=hk;subst hk;rcases hT with rfl|rfl|rfl|rfl|rfl
  .exact IsiPair.bool_int (fin _ (by decide))
  .exact IsiPair.bool_str (dc _ (by decide))
  .exact IsiPair.bool_bool (fin _ (by decide))
  .exact IsiPair.bool_list (dc _ (by decide))
  .exact IsiPair.bool_tuple (dc _ (by decide))
 |int i=>
  obtain⟨t,rfl⟩:=rx;have hk:k="int":=hk;subst hk;rcases hT with rfl|rfl|rfl|rfl|rfl
  .exact IsiPair.int_int (fin _ (by decide))
  .exact IsiPair.int_str (dc _ (by decide))
  .exact IsiPair.int_bool (dc _ (by decide))
  .exact IsiPair.int_list (dc _ (by decide))
  .exact IsiPair.int_tuple (dc _ (by decide))
 |str z=>
  obtain⟨t,rfl⟩:=rx;have hk:k="str":=hk;subst hk;rcases hT with rfl|rfl|rfl|rfl|rfl
  .exact IsiPair.str_int (dc _ (by decide))
  .exact IsiPair.str_str (fin _ (by decide))
  .exact IsiPair.str_bool (dc _ (by decide))
  .exact IsiPair.str_list (dc _ (by decide))
  .exact IsiPair.str_tuple (dc _ (by decide))
 |ref a=>
  cases rx;rcases hk with⟨hk,ys,hs⟩|⟨hk,ys,hs⟩
  .subst hk;obtain⟨aH,_,⟨o,n,e,hc,_⟩,_⟩:=I.list hs;rcases hT with rfl|rfl|rfl|rfl|rfl
   .exact IsiPair.list_int e hc (dc _ (by decide))
   .exact IsiPair.list_str e hc (dc _ (by decide))
   .exact IsiPair.list_bool e hc (dc _ (by decide))
   .exact IsiPair.list_list e hc (fin _ (by decide))
   .exact IsiPair.list_tuple e hc (dc _ (by decide))
  .subst hk;obtain⟨aH,_,⟨o,e,hc,_⟩,_⟩:=I.tuple hs;rcases hT with rfl|rfl|rfl|rfl|rfl
   .exact IsiPair.tuple_int e hc (dc _ (by decide))
   .exact IsiPair.tuple_str e hc (dc _ (by decide))
   .exact IsiPair.tuple_bool e hc (dc _ (by decide))
   .exact IsiPair.tuple_list e hc (dc _ (by decide))
   .exact IsiPair.tuple_tuple e hc (fin _ (by decide))
 |z_ _=>exact False.elim hk
 |AN _=>exact False.elim hk
 |ty _=>exact False.elim hk
def Ks{n:String}{pos:Pos}(hg:Gl X x)(hm:X.mg x=none)(hv:bootBuiltins x=some (.type n))(hn:x≠"__name__":=by decide)(hd:(x == ("__debug__":Str))=false:=by decide):PE X (.Name x pos) (tC (.ty n)):=
 Pa hg hm hv rfl hn hd
def Nf(aH:List ao)(bs:List Bool)(hv:Vals (bs.map V.bl) aH):TruthOf prog w A (λi v=>aH.toArray[i]?=some v) (λi=>bs.getD i false):=by
 intro i v s Q E hP hQ;have Si:aH[i]?=some v:=by simpa using hP
 have hl:=hv.length;rw[bY] at hl;have hi:i<aH.length:=(jX.mp Si).1;have hb:(bs.map V.bl)[i]?=some (.bl bs[i]):=by simp[show i<bs.length by lia]
 obtain⟨u,hu,ru⟩:=hv.get hb;rw[Si] at hu;cases hu;cases ru;have e:bs.getD i false=bs[i]:=by simp[show i<bs.length by lia]
 have Sj:Q (bs.getD i false) s:=hQ;rw[e] at Sj;exact wpAny_truthy_bool Sj
def UI(bs:List Bool):(List.range bs.length).all (λi=>bs.getD i false)=bs.all id:=by
 rw[uD,kI,kI];constructor
 .intro h b hb;obtain⟨i,hi,e⟩:=EA.mp hb;have:=h i (rf.mpr hi);simp[hi] at this;rw[<-e];exact this
 .intro h i hi;have hi:=rf.mp hi;have:=h bs[i] (xi hi);simp[hi];exact this
def UJ(bs:List Bool):(List.range bs.length).any (λi=>bs.getD i false)=bs.any id:=by
 rw[uD,EB,EB];constructor
 .rintro⟨i,hi,h⟩;have hi:=rf.mp hi;simp[hi] at h;exact⟨bs[i],xi hi,h⟩
 .rintro⟨b,hb,h⟩;obtain⟨i,hi,e⟩:=EA.mp hb;refine⟨i,rf.mpr hi,?_⟩;simp[hi];rw[e];exact h
def UK(hc:X.calm=true):cA X (.builtin "all") (λxs H Q=>∃(a:ah) (bs:List Bool),xs=[.ref a]/\dH X.K H a (bs.map V.bl)/\Q (.bl (bs.all id)) H):=by
 intro aa s Z H xs us Q I r h;obtain⟨a,bs,rfl,hs,q⟩:=h;obtain⟨u,rfl,ru⟩:=vals1 r;cases ru;obtain⟨aH,rv,p,hz⟩:=I.list hs;have hl:=rv.length;rw[bY] at hl;refine call_all_walk (wpAny_pyIter_list p.isList ?_);have ia:a≠s.heap.objs.size:=by obtain⟨o,n,e,_⟩:=p;exact lY (eV e)
 refine⟨s.heap.objs.size,_,_,aH.toArray.size,_,_,λi=>bs.getD i false,rfl,Walks.list (A:=X.A.in1) (show X.A.in1.handled=none from I.ok.hd hc) _ a ia aH.toArray,⟨⟨_,oI _ rfl,rfl,rfl⟩,?_⟩,Nf aH bs rv,λh' tk hk=>?_⟩
 .exact p.isList.at λo e=>iP _ e
 .have e1:aH.toArray.size=bs.length:=by rw[fP,<-hl]
  refine⟨.bl (bs.all id),H,I.kept (h':=h') (t':=tk) (λb o e=>hk b o (λz=>b_ (iA (eV e) (Nat.le_of_eq (iz.mp z).symm)) (mI _)) (iP _ e)),?_,q⟩
  show Value.bool _=Value.bool _;rw[e1,UI]
def UL(hc:X.calm=true):cA X (.builtin "any") (λxs H Q=>∃(a:ah) (bs:List Bool),xs=[.ref a]/\dH X.K H a (bs.map V.bl)/\Q (.bl (bs.any id)) H):=by
 intro aa s Z H xs us Q I r h;obtain⟨a,bs,rfl,hs,q⟩:=h;obtain⟨u,rfl,ru⟩:=vals1 r;cases ru;obtain⟨aH,rv,p,hz⟩:=I.list hs;have hl:=rv.length;rw[bY] at hl;refine call_any_walk (wpAny_pyIter_list p.isList ?_);have ia:a≠s.heap.objs.size:=by obtain⟨o,n,e,_⟩:=p;exact lY (eV e)
 refine⟨s.heap.objs.size,_,_,aH.toArray.size,_,_,λi=>bs.getD i false,rfl,Walks.list (A:=X.A.in1) (show X.A.in1.handled=none from I.ok.hd hc) _ a ia aH.toArray,⟨⟨_,oI _ rfl,rfl,rfl⟩,?_⟩,Nf aH bs rv,λh' tk hk=>?_⟩
 .exact p.isList.at λo e=>iP _ e
 .have e1:aH.toArray.size=bs.length:=by rw[fP,<-hl]
  refine⟨.bl (bs.any id),H,I.kept (h':=h') (t':=tk) (λb o e=>hk b o (λz=>b_ (iA (eV e) (Nat.le_of_eq (iz.mp z).symm)) (mI _)) (iP _ e)),?_,q⟩
  show Value.bool _=Value.bool _;rw[e1,UJ]
end
structure bU (K:FG) (mg:Str->ai ao) (x:Str) (st:Stmt) (f:ah) (fd:jM) (ps:List Str):Prop where
 fn:gL K x x st f fd
 mg:mg x=some (.ref f)
 bd:Binds K fd ps []
section
variable{X:Cx}{k:Nat}{f:ah}{fd:jM}{ps:List Str}{sp:Sp}{x:Str}{p pos:Pos}{e:Expr}{es:List Expr}{t:TA}{st:Stmt}
def wU(D:bU X.K X.mg x st f fd ps)(F:bN X.prog X.w X.K X.mg X.base gd k f fd ps sp)(hr:dj k X.A)(ha:PA X (e::es) t)(hg:Gl X x:=by rfl)(lT:(x == ("__debug__":Str))=false:=by decide)
  (he:starEach (e::es) X.env=(false,eval e X.env)::starEach es X.env:=by rfl) (iW:(backTo pos (starEach es X.env)).any (·.1)=false:=by rfl) :
  PE X (.Call (.Name x p) (e::es) [] pos) (oE sp [] E1 t):=Pd F hr hg D.mg D.fn.kp D.bd .nil DT ha lT he iW
end
section
variable{X:Cx}{a b:Expr}{rest:List Expr}{pos:Pos}{ta tb:TE}{tA tB:TT}
end
def aI.put{H':Hp}{o:HO}(s:aI H H')(h:H' a=none):aI H (upd H' a o):=λb u e=>by
 have z:=s b u e;rw[cK (mO z h)];exact z
def l7{o:HO}(h:H a=none):aI H (upd H a o):=(aI.refl H).put h
def OB{α:Type}{xs:List α}{k:Int}(d:α)(h0:0<=k)(hk:k<xs.length):fj xs k=some (xs.getD k.toNat d):=by
 have AX:k.toNat<xs.length:=by lia
 have e:xs[k.toNat]?=some (xs.getD k.toNat d):=by simp[AX]
 have z:=qL e
 rwa[show((k.toNat:Nat):Int)=k by lia] at z
def QO:bootBuiltins "int"=some (.type "int"):=by decide +kernel
def Ze:bootBuiltins "str"=some (.type "str"):=by decide +kernel
def BS:bootBuiltins "list"=some (.type "list"):=by decide +kernel
def OC:bootBuiltins "tuple"=some (.type "tuple"):=by decide +kernel
def J3:bootBuiltins "isinstance"=some (.builtin "isinstance"):=by decide +kernel
def Zf:bootBuiltins "all"=some (.builtin "all"):=by decide +kernel
def Zg:bootBuiltins "any"=some (.builtin "any"):=by decide +kernel
def qO:bootBuiltins "len"=some (.builtin "len"):=by decide +kernel
def QP(h:n<=1000):n<=sizeLine:=kH h (by decide)
section
variable{X:Cx}
def qX(xs:List V)(k:Nat)(y:V):List V:=xs.take k++y::xs.drop k
def TQ(xs:List V)(k:Nat)(y:V):(qX xs k y).length=xs.length+1:=by
 unfold qX;rw[fu,jL,rg,vH];lia
def Pk:V->List V->Hp->VK->Prop:=λx vs H Q=>∃l xs i y,x=.ref l/\vs=[.int i,y]/\H l=some (.lst xs)/\0<=i/\i<2^62/\xs.length<sizeLine/\Q .bh (upd H l (.lst (qX xs i.toNat y)))
theorem EY:By X "list.insert" Pk:=by
 intro aa s Z H x vs v us Q I rx rv h;obtain⟨l,xs,i,y,rfl,rfl,hH,h0,hi,hz,q⟩:=h;cases rx;obtain⟨u,u',rfl,⟨t,rfl⟩,ru⟩:=rv.two;obtain⟨z,aH,n,r,hl,e⟩:=I.DH hH;have Ln:¬(!Builtin.List.listFitsIndex i)=true:=by
  unfold Builtin.List.listFitsIndex;simp;lia
 refine call_meets F.slot_list_insert ⟨_,e,rfl⟩ F.entry_list_insert (F.args_list_insert_3 _ _ _) (PySem.AutoSeq1.list_insert_list_int_val_1 l aH.toArray n i t u' Ln (by rw[fP];lia)) ⟨e,?_⟩
 refine⟨.bh,_,I.DG (its':=aH.take i.toNat++u'::aH.drop i.toNat) hH e ?_ ((r.take i.toNat).append (.cons ru (r.drop i.toNat))) ?_,rfl,q⟩
 .have h1:¬i<0:=by lia
  simp only[h1,cX];apply Array.ext';simp only[Array.toList_append,Array.toList_push,Array.toList_extract,fP];rw[List.extract_eq_drop_take,List.extract_eq_drop_take];have e1:min i.toNat aH.length - 0=min i.toNat aH.length:=by lia
  rw[e1];simp only[oF];have e2:aH.take (min i.toNat aH.length)=aH.take i.toNat:=by rw[List.take_eq_take_iff];lia
  rw[e2];by_cases hc:i.toNat<=aH.length
  .rw[Nat.min_eq_left hc,List.take_of_length_le (l:=List.drop i.toNat aH) (by rw[vH];lia)]
   simp
  .have hc:aH.length<=i.toNat:=by lia
   rw[Nat.min_eq_right hc,MQ (c7 _),MQ hc];simp
 .show(qX xs i.toNat y).length<=sizeLine;rw[TQ];lia
def D_:V->ai Int->ai Int->Hp->VK->Prop:=λx lo hi H Q=>∃z,x=.str z/\z.length<=sizeLine/\Q (.str (Txt.slice z lo hi)) H
theorem yX:rN X D_:=by
 intro aa s Z H x v vl vu lo hi sl Q I rx hs pl pu h;obtain⟨z,rfl,hz,q⟩:=h;obtain⟨t,rfl⟩:=rx;refine⟨"str",_,F.slot_str_getitem.lookup,typeIs_str _ _ _,?_⟩;have fin:∀t' k,EP X aa Z Q (.str (Txt.slice z lo hi) t') { s with toks:=k}:=λt' k=>⟨.str _,H,I.tok _,⟨_,rfl⟩,q⟩
 cases pl with
 |none=>
  cases pu with
  |none=>exact wpAny_getItem_str_slice (l:=none) (u:=none) (st:=none) hs rfl (post_val_or_str ⟨kH (Txt.slice_le z _ _) hz,fin⟩)
  |int j tj=>exact wpAny_getItem_str_slice (l:=none) (u:=some (j,tj)) (st:=none) hs rfl (post_val_or_str ⟨kH (Txt.slice_le z _ _) hz,fin⟩)
 |int i ti=>
  cases pu with
  |none=>exact wpAny_getItem_str_slice (l:=some (i,ti)) (u:=none) (st:=none) hs rfl (post_val_or_str ⟨kH (Txt.slice_le z _ _) hz,fin⟩)
  |int j tj=>exact wpAny_getItem_str_slice (l:=some (i,ti)) (u:=some (j,tj)) (st:=none) hs rfl (post_val_or_str ⟨kH (Txt.slice_le z _ _) hz,fin⟩)
def T7:gM X (binaryOp .Mult) (λx y H Q=>∃z n,x=.str z/\y=.int n/\MulOk z n/\Q (.str (Txt.mul z n)) H):=by
 intro aa s Z H x y v u Q I rx ry h;obtain⟨z,n,rfl,rfl,hm,q⟩:=h;obtain⟨t,rfl⟩:=rx;obtain⟨t',rfl⟩:=ry;exact SB.mul hm λt' k=>⟨.str _,H,I.tok _,⟨_,rfl⟩,q⟩
end
inductive xk (K:FG) (H:Hp):Nat->V->V->Bool->Prop
 |flat {d:Nat} {x y:V}:wu x=true->wu y=true->xk K H d x y (eqV x y)
 |same {d:Nat} {a:ah}:xk K H d (.ref a) (.ref a) true
 |lst {d:Nat} {a b:ah} {xs ys:List V} {e:Nat->Bool}:a≠b->dH K H a xs->dH K H b ys->xs.length=ys.length->(∀(i:Nat) x y,xs[i]?=some x->ys[i]?=some y->xk K H d x y (e i))->xk K H (d+1) (.ref a) (.ref b) ((List.range xs.length).all e)
 |lstN {d:Nat} {a b:ah} {xs ys:List V}:a≠b->dH K H a xs->dH K H b ys->xs.length≠ys.length->xk K H (d+1) (.ref a) (.ref b) false
 |tup {d:Nat} {a b:ah} {xs ys:List V} {e:Nat->Bool}:a≠b->gY K H a xs->gY K H b ys->(∀(i:Nat) x y,xs[i]?=some x->ys[i]?=some y->xk K H d x y (e i))->xk K H (d+1) (.ref a) (.ref b) ((List.range (min xs.length ys.length)).all e&&xs.length == ys.length)
section
variable{X:Cx}{aa:List (ah×Obj)}{Z:St}{H:Hp}{s:az}
theorem Vals.at{xs:List V}{us:List ao}(r:Vals xs us){j:Nat}(h:j<us.toArray.size):∃x,xs[j]?=some x/\RelV x us.toArray[j]:=by
 have hl:=r.length;have h':j<us.length:=by simpa using h
 have hx:xs[j]?=some xs[j]:=by simp[show j<xs.length by lia]
 obtain⟨u,hu,ru⟩:=r.get hx;have:us[j]?=some us[j]:=by simp[h']
 rw[this] at hu;cases hu;exact⟨xs[j],hx,by simpa using ru⟩
end
section
variable{X:Cx}
def VN(K:FG)(hK:X.K=K:=by rfl):qF X (yT K):=hK ▸ Xl
def Xq(K:FG)(hK:X.K=K:=by rfl):qF X (yU K):=hK ▸ Zb
def TB(K:FG)(hK:X.K=K:=by rfl):cA X (.builtin "len") (λxs H Q=>∃p ys,xs=[.ref p]/\(dH K H p ys\/gY K H p ys)/\Q (.int ys.length) H):=hK ▸ TJ
def VO(K:FG)(hK:X.K=K:=by rfl):rN X (yV K):=hK ▸ Xm
def Xr(K:FG)(hK:X.K=K:=by rfl):rN X (yW K):=hK ▸ Za
def Io(K:FG)(hK:X.K=K:=by rfl):cA X (.builtin "isinstance") (λxs H Q=>∃x k T,xs=[x,.ty T]/\Gh K H x k/\(T="int"\/T="str"\/T="bool"\/T="list"\/T="tuple")/\Q (.bl (lW k T)) H):=hK ▸ VM
def EN(K:FG)(hK:X.K=K:=by rfl):cA X (.type "list") (λxs H Q=>∃p ys,xs=[.ref p]/\(dH K H p ys\/gY K H p ys)/\∀l,H l=none->Q (.ref l) (upd H l (.lst ys))):=hK ▸ TM
def UM(K:FG){a:Expr}{ta:TE}(ha:PE X a ta)(he:∀whole,isTrue a X.env whole=(do let v <-whole;standAt a.pos;holding [v] (truthy v)))(hK:X.K=K:=by rfl):
  PT X a (λZ H Q=>ta Z H λx H'=>∃k,uJ K x H' k/\Q k H'):=hK ▸ VG ha he
def uO(K:FG){tg l:Expr}{tl:TE}(hl:PE X l tl)(hK:X.K=K:=by rfl):PI X tg l (og K tl):=hK ▸ Pc hl
end
def vX(hr:dj k A):A.units+40<cLine:=MP (Nat.add_le_add_left (by decide:40<=64) _) hr.units
end L2
namespace Carry
open PySem L2
variable{m:Int}
def SB(f:ah)(H H':Hp):Prop:=∀b o,H b=some o->b≠f->H' b=some o
structure cy where
 ns:List Int
 pl:Int
 xa:Int
 mode:Int
 num:Int
noncomputable def C9(sl:ah)(F:cy):HO:=.lst [.ref sl,.int F.pl,.int F.xa,.int F.mode,.int F.num]
structure FeedAt (H:Hp) (f sl:ah) (F:cy):Prop where
 fo:H f=some (C9 sl F)
 so:H sl=some (.lst (F.ns.map V.int))
 pos:0<=F.pl
 len:F.ns.length<=63
noncomputable def cellOf(F:cy):Int:=if 0<F.ns.length then F.ns.getD (F.pl%F.ns.length).toNat 0+F.pl / F.ns.length*31 else F.pl
def aZ(F:cy)(m:Int):Int:=if F.mode=1 then F.num%m else(cellOf F*48271+31*F.pl)%1000003*69621%999983%m
noncomputable def aQ(F:cy)(m:Int):cy:=if F.mode=1 then{ F with num:=F.num / m} else{ F with pl:=F.pl+1}
theorem vO(F:cy)(h:0<m):0<=aZ F m:=by
 unfold aZ;split
 .exact Int.emod_nonneg _ (by lia)
 .exact Int.emod_nonneg _ (by lia)
theorem vS(F:cy)(h:0<m):aZ F m<m:=by
 unfold aZ;split
 .exact Int.emod_lt_of_pos _ h
 .exact Int.emod_lt_of_pos _ h
theorem VQ(F:cy)(m:Int):(aQ F m).ns=F.ns:=by unfold aQ;split <;> rfl
theorem VR(F:cy)(m:Int)(h:0<=F.pl):0<=(aQ F m).pl:=by
 unfold aQ;split
 .exact h
 .show 0<=F.pl+1;lia
theorem J4{x:Int}{n:Nat}(h0:0<=x)(h1:x<n):∃k:Nat,x=k/\k<n:=⟨x.toNat,by lia,by lia⟩
structure aR where
 name:Str
 long:Int
 ring:Bool
 outs:List Str
structure aA where
 aB:List aR
 aG:List Str
noncomputable def w_(xs:List Str):List V:=xs.map V.str
def Zh(H:Hp)(v:V)(b:aR):Prop:=∃p o,v=.ref p/\H p=some (.tup [.str b.name,.int b.long,.bl b.ring,.ref o])/\H o=some (.lst (w_ b.outs))
structure HouseAt (H:Hp) (p pb pc:ah) (refs:List V) (h:aA):Prop where
 top:H p=some (.tup [.ref pb,.ref pc])
 bl:H pb=some (.lst refs)
 ct:H pc=some (.lst (w_ h.aG))
 each:Paired (Zh H) refs h.aB
def pJ(xs:List Str)(k:Nat)(y:Str):List Str:=xs.take k++y::xs.drop k
theorem VS(xs:List Str)(k:Nat)(y:Str):(pJ xs k y).length=xs.length+1:=by
 unfold pJ;rw[fu,jL,rg,vH];lia
theorem VT{xs:List Str}{k:Nat}{y z:Str}:z∈pJ xs k y↔z=y\/z∈xs:=by
 unfold pJ;rw[eR,dR];constructor
 .rintro(h|h|h)
  .exact .inr (List.mem_of_mem_take h)
  .exact .inl h
  .exact .inr (List.mem_of_mem_drop h)
 .rintro(h|h)
  .exact .inr (.inl h)
  .rw[<-vI k xs,eR] at h;rcases h with h|h
   .exact .inl h
   .exact .inr (.inr h)
end Carry
namespace L2
open PySem PySem.Spec PyProof.Rows
variable{base:cL}{env:Env}{outer:List Env}{L e C:ah}{dx:ai ah}{n:Nat}{H:Hp}{Q:Unit->az->Prop}
structure iD (fs ch:List ah) (h h':cL):Prop where
 keep:∀b o,b∉fs->b∉ch->h.get? b=some o->h'.get? b=some o
 slot:∀b o,b∈fs->b∉ch->h.get? b=some o->∃sl,h'.get? b=some { o with slots:=sl}
def je(n:Nat)(h:cL)(H:Hp)(e C:ah)(dx:ai ah):Prop:=n<=e/\H e=none/\∃oe vs,h.get? e=some oe/\oe.cls=.ref C/\oe.dict=dx/\oe.data=.fields vs/\1<vs.size/\
 (vs[1]?=some .none\/∃T oT ts,vs[1]?=some (.ref T)/\n<=T/\H T=none/\T≠e/\h.get? T=some oT/\oT.data=.fields ts/\ts[3]?=some .none)
def UN(f:Array ao->Array ao)(o:Obj):(Obj.mapFields f o).dict=o.dict:=by obtain⟨c,d,dt,sl⟩:=o;cases dt <;> rfl
section
variable{M:Model}{A:dD}{E:ao->az->Prop}{s:az}
def Pm{oe:Obj}{vs:Array ao}{head:ao}{had:Bool}
  (sE:A.frames=some (env::outer)) (hl:s.heap.FunFrames base (env::outer)) (hf:env.frame=some L) (he:s.heap.get? e=some oe) (hc:oe.cls=.ref C) (hx:oe.dict=dx) (hd:oe.data=.fields vs) (hsz:1<vs.size) (hn:n<=s.heap.objs.size) (ia:n<=e) (qm:H e=none) (hH:∀a,s.heap.objs.size<=a->H a=none)
  (h:∀h',iD (kT (env::outer)) [e] s.heap h'->je n h' H e C dx->Q () { s with heap:=h'}) :
  wpAny M A (do let a <-frameOf env;let pl <-entryPlaceOf L had;let b <-EntryCells.newEntry head a .none (rawInt L) .none pl;setField (.ref e) 1 b) (λ_ s'=>wpAny M A (setFlight (.ref e) none) Q E s') E s:=by
 have ene:e∉kT (env::outer):=λm=>by
  obtain⟨_,o,ho,Du⟩:=hl.mem m;rw[he] at ho;cases ho;exact Du vs hd
 refine aK (wpAny_frameOf_fun sE hl hf λh1 so=>aK (wpAny_entryPlaceOf λpl iW=>?_))
 unfold EntryCells.newEntry newFields;refine aK (wpAny_newObj_type ?_ (iW.sizeOk5 _ _ _ _ _));generalize eN:({ cls:=.type "traceback",dict:=none,data:=.fields ([head,.ref L,.none,rawInt L,.none]++(if pl.isEmpty then List.replicate 6 Value.none else pl)).toArray}:Obj)=oN
 have e1:h1.get? e=some oe:=(so.2.1 e ene).trans he;have e2:(h1.push oN).get? e=some oe:=iP _ e1;have nT:h1.objs.size≠e:=Ew (eV e1);have fN:oN.data=.fields ([head,.ref L,.none,rawInt L,.none]++(if pl.isEmpty then List.replicate 6 Value.none else pl)).toArray:=by rw[<-eN]
 have lN:3<([head,.ref L,.none,rawInt L,.none]++(if pl.isEmpty then List.replicate 6 Value.none else pl)).toArray.size:=by simp only[fP,fu,jL,uE];lia
 have dE:=Obj.data_mapFields hd (·.setIfInBounds 1 (Value.ref h1.objs.size))
 have e3:=rL (Obj.mapFields (·.setIfInBounds 1 (Value.ref h1.objs.size))) e2 (Obj.isFreed_of_fields dE)
 have t3:((h1.push oN).update e (Obj.mapFields (·.setIfInBounds 1 (Value.ref h1.objs.size)))).get? h1.objs.size=some oN:=(pW _ _ (Ne.symm nT)).trans (oI h1 (Obj.isFreed_of_fields fN))
 have dT:=Obj.data_mapFields fN (·.setIfInBounds 3 ((none:ai ah).elim Value.none λf=>rawInt f))
 refine wpAny_setField e2 hd hsz ?_;unfold setFlight;refine aK (wpAny_field e3 dE (x:=.ref h1.objs.size) (by simp[hsz]) ?_)
 rw[aT (show(Value.ref h1.objs.size != Value.none)=true by simp)]
 refine wpAny_setField t3 fN lN (h _ ⟨λb o hb lS g=>?_,λb o hb lS g=>?_⟩ ⟨ia,qm,_,_,(pW _ _ nT).trans e3,(Obj.cls_mapFields _ _).trans hc,(UN _ _).trans hx,dE,by simpa using hsz,.inr ⟨h1.objs.size,_,_,by simp[hsz],by rw[so.1];exact hn,hH _ (by rw[so.1];exact c7 _),nT,rL _ t3 (Obj.isFreed_of_fields dT),dT,by simp[Array.getElem?_setIfInBounds,lN]⟩⟩)
 .have be:b≠e:=λz=>lS (by simp[z])
  have b1:h1.get? b=some o:=(so.2.1 b hb).trans g;rw[pW _ _ (Ew (eV b1)),pW _ _ (Ne.symm be)];exact iP _ b1
 .have be:b≠e:=λz=>lS (by simp[z])
  obtain⟨sl,b1⟩:=so.2.2 b o g;refine⟨sl,?_⟩;rw[pW _ _ (Ew (eV b1)),pW _ _ (Ne.symm be)];exact iP _ b1
def QQ
  (sE:A.frames=some (env::outer)) (hl:s.heap.FunFrames base (env::outer)) (hf:env.frame=some L) (hn:n<=s.heap.objs.size) (hH:∀a,s.heap.objs.size<=a->H a=none) (fl:je n s.heap H e C dx)
  (h:∀h' ch,(∀b∈ch,n<=b/\H b=none)->iD (kT (env::outer)) ch s.heap h'->je n h' H e C dx->Q () { s with heap:=h'}):wpAny M A (noteFrame (.ref e) env) (λ_ s'=>wpAny M A (setFlight (.ref e) none) Q E s') E s:=by
 obtain⟨ia,qm,oe,vs,he,hc,hx,hd,hsz,h1⟩:=fl;unfold noteFrame;simp only[hf];rcases h1 with h1|⟨T,oT,ts,h1,Hb,G5,G6,hT,AU,h3⟩
 .refine aK (wpAny_field he hd h1 ?_);rw[aW (by decide)]
  exact Pm sE hl hf he hc hx hd hsz hn ia qm hH λh' l f=>h h' [e] (λb m=>by cases iz.1 m;exact⟨ia,qm⟩) l f
 .refine aK (wpAny_field he hd h1 ?_);rw[aT (show(Value.ref T != Value.none)=true by simp)]
  refine aK (wpAny_field hT AU h3 ?_);rw[aW (show ¬(Value.none == rawInt L)=true by simp[rawInt])]
  refine aK (wpAny_setField hT AU (Bo.mp h3).1 ?_);have ot:∀b,b≠T->(s.heap.update T (Obj.mapFields (·.setIfInBounds 3 Value.none))).get? b=s.heap.get? b:=λb z=>pW _ _ (Ne.symm z)
  have nr:∀b o,s.heap.get? b=some o->(∀vs,o.data≠.fields vs)->b≠T:=λb o hb Du z=>by
   rw[z,hT] at hb;cases hb;exact Du ts AU
  refine Pm (s:={ s with heap:=s.heap.update T (Obj.mapFields (·.setIfInBounds 3 Value.none))}) sE (hl.of_keeps λb o hb Du=>⟨o,(ot b (nr b o hb Du)).trans hb,rfl⟩) hf ((ot e (Ne.symm G6)).trans he) hc hx hd hsz (by simpa[Heap.size_after_update] using hn) ia qm (λa z=>hH a (by simpa[Heap.size_after_update] using z)) λh' l f=>h h' [e,T] (λb m=>?_) ⟨λb o hb lS g=>?_,λb o hb lS g=>?_⟩ f
  .simp only[dR,EC,or_false] at m;rcases m with rfl|rfl
   .exact⟨ia,qm⟩
   .exact⟨Hb,G5⟩
  .simp only[dR,EC,or_false,not_or] at lS;exact l.keep b o hb (by simp[lS.1]) ((ot b lS.2).trans g)
  .simp only[dR,EC,or_false,not_or] at lS;exact l.slot b o hb (by simp[lS.1]) ((ot b lS.2).trans g)
def Xs
  (sE:A.frames=some (env::outer)) (hl:s.heap.FunFrames base (env::outer)) (hf:env.frame=some L) (hn:n<=s.heap.objs.size) (hH:∀a,s.heap.objs.size<=a->H a=none) (fl:je n s.heap H e C dx)
  (h:∀h' ch,(∀b∈ch,n<=b/\H b=none)->iD (kT (env::outer)) ch s.heap h'->je n h' H e C dx->Q () { s with heap:=h'}):wpAny M A (leaving env (.ref e)) Q E s:=by
 unfold leaving;exact aK (QQ sE hl hf hn hH fl h)
end
inductive D where
 |bh|bl (b:Bool)|int (i:Int)|str (x:Str)|ty (n:String)
 |lst (xs:List D)|tup (xs:List D)|aF (kvs:List (TK×D))|fG (ns:List Int)|exc (C:ah) (l:ai Int)|obj
mutual
noncomputable def TK.d:TK->D
 |.inl i=>.int i
 |.inr x=>.str x
 |.tp l=>.tup (TK.dl l)
noncomputable def TK.dl:List TK->List D
 |[]=>[]
 |k::l=>TK.d k::TK.dl l
end
noncomputable def nI:D->ai V
 |.bh=>some .bh
 |.bl b=>some (.bl b)
 |.int i=>some (.int i)
 |.str x=>some (.str x)
 |.ty n=>some (.ty n)
 |_=>none
noncomputable def qU(C t:ah)(d:ai ah):Obj:={ cls:=.ref C,dict:=d,data:=.fields #[.ref t,.none,.none,.none,.bool false,.none]}
def M4(o:Obj)(C:ah)(d:ai ah):Prop:=o.cls=.ref C/\o.dict=d/\∃vs,o.data=.fields vs
def j'(F:Hp)(a C:ah):ai Int->Prop
 |none=>∃o,F a=some (.Y o (.own 0))/\M4 o C none
 |some n=>∃o dx,F a=some (.Y o (.own 0))/\M4 o C (some dx)/\F dx=some (.xd [("line",.int n)])
inductive aw (K:FG) (F:Hp):List V->List D->Prop
 |nil:aw K F [] []
 |flat {v:V} {d:D} {vs:List V} {ds:List D}:nI d=some v->aw K F vs ds->aw K F (v::vs) (d::ds)
 |lst {a:ah} {ws vs:List V} {es ds:List D}:Rd F a (.lst ws)->aw K F ws es->aw K F vs ds->aw K F (.ref a::vs) (.lst es::ds)
 |tup {a:ah} {ws vs:List V} {es ds:List D}:gY K F a ws->aw K F ws es->aw K F vs ds->aw K F (.ref a::vs) (.tup es::ds)
 |aF {a:ah} {kvs:List (TK×V×V)} {es:List (TK×D)} {ep:Nat} {vs:List V} {ds:List D}:F a=some (.dG kvs ep)->kvs.map (·.1)=es.map (·.1)->aw K F (kvs.map (·.2.1)) (es.map (·.1.d))->aw K F (kvs.map (·.2.2)) (es.map (·.2))->aw K F vs ds->aw K F (.ref a::vs) (.aF es::ds)
 |fG {a:ah} {ns:List Int} {vs:List V} {ds:List D}:dH K F a (ns.map V.int)->aw K F vs ds->aw K F (.ref a::vs) (.fG ns::ds)
 |exc {a C:ah} {l:ai Int} {vs:List V} {ds:List D}:j' F a C l->aw K F vs ds->aw K F (.ref a::vs) (.exc C l::ds)
 |obj {a:ah} {vs:List V} {ds:List D}:aw K F vs ds->aw K F (.ref a::vs) (.obj::ds)
def aI.rd{H H':Hp}{a:ah}{u:HO}(e:aI H H')(h:Rd H a u):Rd H' a u:=by
 rcases h with h|⟨o,h⟩
 .exact .inl (e _ _ h)
 .exact .inr ⟨o,e _ _ h⟩
def aI.pP{K:FG}{H H':Hp}{a:ah}{xs:List V}(e:aI H H')(h:gY K H a xs):gY K H' a xs:=by
 rcases h with(h|⟨o,h⟩)|h
 .exact .inl (.inl (e _ _ h))
 .exact .inl (.inr ⟨o,e _ _ h⟩)
 .exact .inr h
section
variable{K:FG}{F F':Hp}
def j'.mono{F F':Hp}{a C:ah}{l:ai Int}(s:aI F F')(h:j' F a C l):j' F' a C l:=by
 cases l with
 |none=>obtain⟨o,e,z⟩:=h;exact⟨o,s _ _ e,z⟩
 |some n=>obtain⟨o,dx,e,z,q⟩:=h;exact⟨o,dx,s _ _ e,z,s _ _ q⟩
theorem aw.mono(s:aI F F'){vs:List V}{ds:List D}(h:aw K F vs ds):aw K F' vs ds:=by
 induction h with
 |nil=>exact .nil
 |flat e _ ih=>exact .flat e ih
 |lst e _ _ i1 i2=>exact .lst (s.rd e) i1 i2
 |tup e _ _ i1 i2=>exact .tup (s.pP e) i1 i2
 |aF e k _ _ _ i0 i1 i2=>exact .aF (s _ _ e) k i0 i1 i2
 |fG e _ i=>exact .fG (s.seq e) i
 |exc e _ i=>exact .exc (e.mono s) i
 |obj _ i=>exact .obj i
def aw.length{vs:List V}{ds:List D}(h:aw K F vs ds):vs.length=ds.length:=by
 induction h with
 |nil=>rfl
 |flat _ _ ih=>simp[ih]
 |lst _ _ _ _ ih=>simp[ih]
 |tup _ _ _ _ ih=>simp[ih]
 |aF _ _ _ _ _ _ _ ih=>simp[ih]
 |fG _ _ ih=>simp[ih]
 |exc _ _ ih=>simp[ih]
 |obj _ ih=>simp[ih]
def aw.inv{v:V}{vs:List V}{d:D}{ds:List D}(h:aw K F (v::vs) (d::ds)):aw K F [v] [d]/\aw K F vs ds:=by
 cases h with
 |flat e t=>exact⟨.flat e .nil,t⟩
 |lst e i t=>exact⟨.lst e i .nil,t⟩
 |tup e i t=>exact⟨.tup e i .nil,t⟩
 |aF e k j i t=>exact⟨.aF e k j i .nil,t⟩
 |fG e t=>exact⟨.fG e .nil,t⟩
 |exc e t=>exact⟨.exc e .nil,t⟩
 |obj t=>exact⟨.obj .nil,t⟩
def aw.cons{v:V}{vs:List V}{d:D}{ds:List D}(h:aw K F [v] [d])(t:aw K F vs ds):aw K F (v::vs) (d::ds):=by
 cases h with
 |flat e _=>exact .flat e t
 |lst e i _=>exact .lst e i t
 |tup e i _=>exact .tup e i t
 |aF e k j i _=>exact .aF e k j i t
 |fG e _=>exact .fG e t
 |exc e _=>exact .exc e t
 |obj _=>exact .obj t
theorem aw.get:∀{vs:List V} {ds:List D} {i:Nat} {d:D},aw K F vs ds->ds[i]?=some d->∃v,vs[i]?=some v/\aw K F [v] [d]
 |[],[],i,d,_,e=>by simp at e
 |v::vs,d'::ds,0,d,h,e=>by simp at e;subst e;exact⟨v,rfl,h.inv.1⟩
 |v::vs,d'::ds,i+1,d,h,e=>by
  obtain⟨u,h1,h2⟩:=aw.get (i:=i) h.inv.2 (by simpa using e)
  exact⟨u,by simpa using h1,h2⟩
 |[],_::_,_,_,h,_=>by have:=h.length;simp at this
 |_::_,[],_,_,h,_=>by have:=h.length;simp at this
theorem aw.append:∀{vs:List V} {ds:List D} {ws:List V} {es:List D},aw K F vs ds->aw K F ws es->aw K F (vs++ws) (ds++es)
 |[],[],_,_,_,h=>h
 |v::vs,d::ds,_,_,h,t=>.cons h.inv.1 (aw.append h.inv.2 t)
 |[],_::_,_,_,h,_=>by have:=h.length;simp at this
 |_::_,[],_,_,h,_=>by have:=h.length;simp at this
theorem aw.take:∀{vs:List V} {ds:List D} (n:Nat),aw K F vs ds->aw K F (vs.take n) (ds.take n)
 |[],[],_,_=>by simp;exact .nil
 |v::vs,d::ds,0,_=>.nil
 |v::vs,d::ds,n+1,h=>.cons h.inv.1 (aw.take n h.inv.2)
 |[],_::_,_,h=>by have:=h.length;simp at this
 |_::_,[],_,h=>by have:=h.length;simp at this
theorem aw.drop:∀{vs:List V} {ds:List D} (n:Nat),aw K F vs ds->aw K F (vs.drop n) (ds.drop n)
 |[],[],_,_=>by simp;exact .nil
 |v::vs,d::ds,0,h=>h
 |v::vs,d::ds,n+1,h=>by simpa using aw.drop n h.inv.2
 |[],_::_,_,h=>by have:=h.length;simp at this
 |_::_,[],_,h=>by have:=h.length;simp at this
end
inductive O where
 |Y (d:D)|lst (xs:List O)|tup (xs:List O)|aF (kvs:List (TK×O))|ins (C:ah) (ns:List Str) (ps:List O)
abbrev Gm:=List (ai O)
inductive aj (K:FG) (F H:Hp):St->Gm->List ah->Prop
 |nil:aj K F H [] [] []
 |skip {x:ai V} {Z:St} {Q0:Gm} {B:List ah}:aj K F H Z Q0 B->aj K F H (x::Z) (none::Q0) B
 |Y {v:V} {d:D} {Z:St} {Q0:Gm} {B:List ah}:aw K F [v] [d]->aj K F H Z Q0 B->aj K F H (some v::Z) (some (.Y d)::Q0) B
 |lst {a:ah} {ws:List V} {ps:List O} {A B:List ah} {Z:St} {Q0:Gm}:H a=some (.lst ws)->aj K F H (ws.map some) (ps.map some) A->aj K F H Z Q0 B->aj K F H (some (.ref a)::Z) (some (.lst ps)::Q0) (a::A++B)
 |tup {a:ah} {ws:List V} {ps:List O} {A B:List ah} {Z:St} {Q0:Gm}:H a=some (.tup ws)->aj K F H (ws.map some) (ps.map some) A->aj K F H Z Q0 B->aj K F H (some (.ref a)::Z) (some (.tup ps)::Q0) (a::A++B)
 |aF {a:ah} {kvs:List (TK×V×V)} {ps:List (TK×O)} {ep:Nat} {A B:List ah} {Z:St} {Q0:Gm}:H a=some (.dG kvs ep)->kvs.map (·.1)=ps.map (·.1)->aw K F (kvs.map (·.2.1)) (ps.map (·.1.d))->aj K F H (kvs.map λp=>some p.2.2) (ps.map λp=>some p.2) A->aj K F H Z Q0 B->
   aj K F H (some (.ref a)::Z) (some (.aF ps)::Q0) (a::A++B)
  |ins {a dx C:ah} {fs:List (Str×V)} {ns:List Str} {ps:List O} {A B:List ah} {Z:St} {Q0:Gm}:H a=some (.ins C dx fs)->H dx=some (.own a)->fs.map (·.1)=ns.take ps.length->aj K F H (fs.map λp=>some p.2) (ps.map some) A->aj K F H Z Q0 B->
   aj K F H (some (.ref a)::Z) (some (.ins C ns ps)::Q0) (a::dx::A++B)
section
variable{K:FG}{F F' H H':Hp}{Z τ:St}{Q0 Θ:Gm}{A B:List ah}
def aj.keep(h:aj K F H Z Q0 A)(s:aI F F')(k:∀a∈A,∀o,H a=some o->H' a=some o):aj K F' H' Z Q0 A:=by
 induction h with
 |nil=>exact .nil
 |skip _ ih=>exact .skip (ih k)
 |Y r _ ih=>exact .Y (r.mono s) (ih k)
 |lst e _ _ i1 i2=>exact .lst (k _ (by simp) _ e) (i1 λa ha=>k a (by simp[ha])) (i2 λa ha=>k a (by simp[ha]))
 |tup e _ _ i1 i2=>exact .tup (k _ (by simp) _ e) (i1 λa ha=>k a (by simp[ha])) (i2 λa ha=>k a (by simp[ha]))
 |aF e q r _ _ i1 i2=>exact .aF (k _ (by simp) _ e) q (r.mono s) (i1 λa ha=>k a (by simp[ha])) (i2 λa ha=>k a (by simp[ha]))
 |ins e d q _ _ i1 i2=>exact .ins (k _ (by simp) _ e) (k _ (by simp) _ d) q (i1 λa ha=>k a (by simp[ha])) (i2 λa ha=>k a (by simp[ha]))
def aj.there(h:aj K F H Z Q0 A):∀a∈A,H a≠none:=by
 induction h with
 |nil=>intro a ha;cases ha
 |skip _ ih=>exact ih
 |Y _ _ ih=>exact ih
 |lst e _ _ i1 i2=>
  intro a ha;rcases dR.mp ha with rfl|ha
  .rw[e];exact λz=>by cases z
  .rcases eR.mp ha with ha|ha
   .exact i1 a ha
   .exact i2 a ha
 |tup e _ _ i1 i2=>
  intro a ha;rcases dR.mp ha with rfl|ha
  .rw[e];exact λz=>by cases z
  .rcases eR.mp ha with ha|ha
   .exact i1 a ha
   .exact i2 a ha
 |aF e _ _ _ _ i1 i2=>
  intro a ha;rcases dR.mp ha with rfl|ha
  .rw[e];exact λz=>by cases z
  .rcases eR.mp ha with ha|ha
   .exact i1 a ha
   .exact i2 a ha
 |ins e d _ _ _ i1 i2=>
  intro a ha;simp only[y8,dR,eR] at ha;rcases ha with rfl|rfl|ha|ha
  .rw[e];exact λz=>by cases z
  .rw[d];exact λz=>by cases z
  .exact i1 a ha
  .exact i2 a ha
def aj.length(h:aj K F H Z Q0 A):Z.length=Q0.length:=by
 induction h <;> simp_all
def aj.app(h:aj K F H τ Θ B)(t:aj K F H Z Q0 A):aj K F H (τ++Z) (Θ++Q0) (B++A):=by
 induction h with
 |nil=>exact t
 |skip _ ih=>exact .skip ih
 |Y r _ ih=>exact .Y r ih
 |lst e i _ _ ih=>simp only[y8,ie];exact .lst e i ih
 |tup e i _ _ ih=>simp only[y8,ie];exact .tup e i ih
 |aF e q r i _ _ ih=>simp only[y8,ie];exact .aF e q r i ih
 |ins e d q i _ _ ih=>simp only[y8,ie];exact .ins e d q i ih
theorem aj.split:∀{τ:St} {Θ:Gm} {A:List ah},τ.length=Θ.length->aj K F H (τ++Z) (Θ++Q0) A->∃B C,aj K F H τ Θ B/\aj K F H Z Q0 C/\A=B++C
 |[],[],A,_,h=>⟨[],A,.nil,h,rfl⟩
 |[],_::_,_,e,_=>by simp at e
 |_::_,[],_,e,_=>by simp at e
 |x::τ,y::Θ,A,e,h=>by
  have e':τ.length=Θ.length:=by simpa using e
  cases h with
  |skip t=>obtain⟨B,C,h1,h2,h3⟩:=aj.split e' t;exact⟨B,C,.skip h1,h2,h3⟩
  |Y r t=>obtain⟨B,C,h1,h2,h3⟩:=aj.split e' t;exact⟨B,C,.Y r h1,h2,h3⟩
  |lst q i t=>obtain⟨B,C,h1,h2,h3⟩:=aj.split e' t;subst h3;exact⟨_,C,.lst q i h1,h2,by simp⟩
  |tup q i t=>obtain⟨B,C,h1,h2,h3⟩:=aj.split e' t;subst h3;exact⟨_,C,.tup q i h1,h2,by simp⟩
  |aF q z r i t=>obtain⟨B,C,h1,h2,h3⟩:=aj.split e' t;subst h3;exact⟨_,C,.aF q z r i h1,h2,by simp⟩
  |ins q d z i t=>obtain⟨B,C,h1,h2,h3⟩:=aj.split e' t;subst h3;exact⟨_,C,.ins q d z i h1,h2,by simp⟩
def aj.one{x:ai V}{y:ai O}(h:aj K F H (x::Z) (y::Q0) A):∃B C,aj K F H [x] [y] B/\aj K F H Z Q0 C/\A=B++C:=aj.split (τ:=[x]) (Θ:=[y]) rfl h
theorem aj.take:∀{Z:St} {Q0:Gm} {A:List ah} {i:Nat} {o:O},aj K F H Z Q0 A->Q0[i]?=some (some o)->∃v Ai B,Z[i]?=some (some v)/\aj K F H [some v] [some o] Ai/\aj K F H Z (Q0.set i none) B/\A.Perm (Ai++B)
 |_,[],_,_,_,_,e=>by simp at e
 |[],_::_,_,_,_,h,_=>by have:=h.length;simp at this
 |x::Z,y::Q0,A,0,o,h,e=>by
  have e:y=some o:=by simpa using e
  subst e;obtain⟨B,C,h1,h2,h3⟩:=h.one;cases x with
  |none=>cases h1
  |some v=>exact⟨v,B,C,rfl,h1,.skip h2,by rw[h3]⟩
 |x::Z,y::Q0,A,i+1,o,h,e=>by
  obtain⟨B,C,h1,h2,h3⟩:=h.one;obtain⟨v,Ai,B',g1,g2,g3,g4⟩:=aj.take (i:=i) h2 (by simpa using e)
  refine⟨v,Ai,B++B',by simpa using g1,g2,h1.app g3,?_⟩
  subst h3;exact(List.Perm.append_left B g4).trans (by rw[<-ie,<-ie];exact(qA).append_right _)
theorem aj.forget:∀{Z:St} {Q0:Gm} {A:List ah} (i:Nat),aj K F H Z Q0 A->∃B,aj K F H Z (Q0.set i none) B/\B.Sublist A
 |Z,[],A,i,h=>⟨A,by simpa using h,List.Sublist.refl _⟩
 |[],_::_,_,_,h=>by have:=h.length;simp at this
 |x::Z,y::Q0,A,0,h=>by
  obtain⟨B,C,h1,h2,h3⟩:=h.one;subst h3;exact⟨C,.skip h2,oG _ _⟩
 |x::Z,y::Q0,A,i+1,h=>by
  obtain⟨B,C,h1,h2,h3⟩:=h.one;obtain⟨B',g1,g2⟩:=aj.forget i h2;subst h3;exact⟨B++B',h1.app g1,g2.append_left _⟩
theorem aj.put{v:V}{o:O}{Ai:List ah}(q:aj K F H [some v] [some o] Ai):∀{Z:St} {Q0:Gm} {A:List ah} (i:Nat),aj K F H Z Q0 A->i<Q0.length->∃B,aj K F H (Z.set i (some v)) (Q0.set i (some o)) B/\∃C,B.Perm (Ai++C)/\C.Sublist A
 |_,[],_,_,_,hi=>by simp at hi
 |[],_::_,_,_,h,_=>by have:=h.length;simp at this
 |x::Z,y::Q0,A,0,h,hi=>by
  obtain⟨B,C,h1,h2,h3⟩:=h.one;subst h3;exact⟨Ai++C,q.app h2,C,.refl _,oG _ _⟩
 |x::Z,y::Q0,A,i+1,h,hi=>by
  obtain⟨B,C,h1,h2,h3⟩:=h.one;obtain⟨B',g1,C',g2,g3⟩:=aj.put q i h2 (by simpa using hi)
  subst h3;refine⟨B++B',h1.app g1,B++C',?_,g3.append_left _⟩;exact(List.Perm.append_left B g2).trans (by rw[<-ie,<-ie];exact(qA).append_right _)
theorem aj.loose{v:ai V}:∀{Z:St} {Q0:Gm} {A:List ah} {i:Nat},aj K F H Z Q0 A->Q0[i]?=some none->aj K F H (Z.set i v) Q0 A
 |_,[],_,_,_,e=>by simp at e
 |[],_::_,_,_,h,_=>by have:=h.length;simp at this
 |x::Z,y::Q0,A,0,h,e=>by
  have e:y=none:=by simpa using e
  subst e;cases h with
  |skip t=>exact .skip t
 |x::Z,y::Q0,A,i+1,h,e=>by
  obtain⟨B,C,h1,h2,h3⟩:=h.one;subst h3;exact h1.app (aj.loose (i:=i) h2 (by simpa using e))
end
structure OK (K:FG) (F H:Hp) (Z:St) (Q0:Gm) (A:List ah):Prop where
 le:aI F H
 os:aj K F H Z Q0 A
 nd:A.Nodup
 fr:∀a∈A,F a=none
def lZ(H H':Hp):Prop:=∀a C dx fs,H a=some (.ins C dx fs)->∃AO,H' a=some (.ins C dx AO)/\∀(j:Nat) f p,fs[j]?=some (f,V.ref p)->AO[j]?=some (f,V.ref p)
def lZ.same{H H':Hp}(s:aI H H'):lZ H H':=λa _ _ _ e=>⟨_,s a _ e,λ_ _ _ z=>z⟩
def lZ.trans{H H1 H2:Hp}(x:lZ H H1)(y:lZ H1 H2):lZ H H2:=λa C dx fs e=>by
 obtain⟨fs1,e1,z1⟩:=x a C dx fs e;obtain⟨fs2,e2,z2⟩:=y a C dx fs1 e1;exact⟨fs2,e2,λj f p q=>z2 j f p (z1 j f p q)⟩
def lZ.upd{H:Hp}{l:ah}{o:HO}(h:∀C dx fs,H l≠some (.ins C dx fs)):lZ H (upd H l o):=λa C dx fs e=>by
 by_cases z:a=l
 .subst z;exact b_ e (h C dx fs)
 .exact⟨fs,by rw[cK z];exact e,λ_ _ _ q=>q⟩
structure Ext (F H:Hp) (A:List ah) (F' H':Hp) (A':List ah):Prop where
 ff:aI F F'
 keep:∀a o,H a=some o->a∉A->H' a=some o
 rZ:∀a,H a≠none->H' a≠none
 new:∀a,F' a≠none->F a≠none\/a∈A\/H a=none
 own:∀a∈A',a∈A\/H a=none
 kP:lZ H H'
section
variable{K:FG}{F F' F1 F2 H H' H1 H2:Hp}{Z Z' τ:St}{Q0 au Θ:Gm}{A A' A1 A2 B C:List ah}
theorem Ext.refl:Ext F H A F H A:=⟨aI.refl _,λ_ _ e _=>e,λ_ h=>h,λ_ h=>.inl h,λ_ h=>.inl h,.same (aI.refl _)⟩
theorem Ext.trans(x:Ext F H A F1 H1 A1)(y:Ext F1 H1 A1 F2 H2 A2):Ext F H A F2 H2 A2 where
 ff:=x.ff.trans y.ff
 keep:=λa o e n=>y.keep a o (x.keep a o e n) λm=>by
  rcases x.own a m with z|z
  .exact n z
  .rw[e] at z;cases z
 rZ:=λa h=>y.rZ a (x.rZ a h)
 new:=λa h=>by
  rcases y.new a h with z|z|z
  .exact x.new a z
  .exact .inr (x.own a z)
  .exact .inr (.inr (p8 λq=>x.rZ a q z))
 own:=λa h=>by
  rcases y.own a h with z|z
  .exact x.own a z
  .exact .inr (p8 λq=>x.rZ a q z)
 kP:=x.kP.trans y.kP
def Ext.jT(x:Ext F H A F' H' A')(h:∀a∈B,a∈A'):Ext F H A F' H' B:=⟨x.ff,x.keep,x.rZ,x.new,λa m=>x.own a (h a m),x.kP⟩
def OK.perm(k:aj K F H Z Q0 A)(le:aI F H)(nd:B.Nodup)(fr:∀a∈B,F a=none)(p:A.Perm B):OK K F H Z Q0 A:=⟨le,k,p.nodup_iff.mpr nd,λa m=>fr a (p.mem_iff.mp m)⟩
def OK.ql(k:OK K F H (τ++Z) (Θ++Q0) (B++C))(h1:aj K F H τ Θ B)(h2:aj K F H Z Q0 C):OK K F H Z Q0 C/\∀F' H' Z' au A',Ext F H C F' H' A'->OK K F' H' Z' au A'->∃qC,Ext F H (B++C) F' H' qC/\OK K F' H' (τ++Z') (Θ++au) qC:=by
 obtain⟨n1,n2,n3⟩:=lD.mp k.nd;have nB:∀a∈B,a∉C:=λa h1 h2=>n3 a h1 a h2 rfl
 refine⟨⟨k.le,h2,n2,λa m=>k.fr a (iB _ m)⟩,λF' H' Z' au A' x k'=>?_⟩
 have hB:∀a∈B,F' a=none:=λa m=>by
  cases e:F' a with
  |none=>rfl
  |some o=>
   rcases x.new a (by rw[e];exact λz=>by cases z) with z|z|z
   .exact b_ (k.fr a (jb _ m)) z
   .exact b_ z (nB a m)
   .exact b_ z (h1.there a m)
 refine⟨B++A',⟨x.ff,λa o e n=>x.keep a o e λm=>n (iB _ m),x.rZ,λa h=>?_,λa m=>?_,x.kP⟩,k'.le,(h1.keep x.ff λa m o e=>x.keep a o e (nB a m)).app k'.os,?_,?_⟩
 .rcases x.new a h with z|z|z
  .exact .inl z
  .exact .inr (.inl (iB _ z))
  .exact .inr (.inr z)
 .rcases eR.mp m with m|m
  .exact .inl (jb _ m)
  .rcases x.own a m with z|z
   .exact .inl (iB _ z)
   .exact .inr z
 .refine lD.mpr ⟨n1,k'.nd,λa m b m' e=>?_⟩
  subst e;rcases x.own a m' with z|z
  .exact nB a m z
  .exact h1.there a m z
 .intro a m;rcases eR.mp m with m|m
  .exact hB a m
  .exact k'.fr a m
def OK.frame(k:OK K F H (τ++Z) (Θ++Q0) A)(hl:τ.length=Θ.length):∃C,OK K F H Z Q0 C/\∀F' H' Z' au A',Ext F H C F' H' A'->OK K F' H' Z' au A'->∃qC,Ext F H A F' H' qC/\OK K F' H' (τ++Z') (Θ++au) qC:=by
 obtain⟨B,C,h1,h2,h3⟩:=aj.split hl k.os;subst h3;exact⟨C,k.ql h1 h2⟩
def OK.swap(k:OK K F H (τ++Z) (Θ++Q0) A)(hl:τ.length=Θ.length):∃B,B.Perm A/\OK K F H (Z++τ) (Q0++Θ) B:=by
 obtain⟨B,C,h1,h2,h3⟩:=aj.split hl k.os;subst h3;exact⟨C++B,qA,.perm (h2.app h1) k.le k.nd k.fr qA⟩
def OK.part(k:OK K F H (τ++Z) (Θ++Q0) A)(hl:τ.length=Θ.length):∃B,OK K F H Z Q0 B/\∀a∈B,a∈A:=by
 obtain⟨B,C,h1,h2,h3⟩:=aj.split hl k.os;subst h3;exact⟨C,⟨k.le,h2,(lD.mp k.nd).2.1,λa m=>k.fr a (iB _ m)⟩,λa m=>iB _ m⟩
def OK.push{v:V}{o:O}{Av:List ah}(k:OK K F H Z Q0 A)(s:aI H H')(q:aj K F H' [some v] [some o] Av)(nd:Av.Nodup)(fresh:∀a∈Av,H a=none):
  OK K F H' (some v::Z) (some o::Q0) (Av++A)/\Ext F H A F H' (Av++A):=by
 have ne:∀a∈Av,a∉A:=λa m z=>k.os.there a z (fresh a m)
 refine⟨⟨k.le.trans s,q.app (k.os.keep (aI.refl _) λa _ o e=>s a o e),lD.mpr ⟨nd,k.nd,λa m b m' e=>?_⟩,λa m=>?_⟩,aI.refl _,λa o e _=>s a o e,λa h z=>?_,λa h=>.inl h,λa m=>?_,.same s⟩
 .subst e;exact ne a m m'
 .rcases eR.mp m with m|m
  .exact k.le.free (fresh a m)
  .exact k.fr a m
 .exact h (s.free z)
 .rcases eR.mp m with m|m
  .exact .inr (fresh a m)
  .exact .inl m
end
inductive R where
 |own (o:O)|var (i:Nat)|fld (i j:Nat)
noncomputable def R.o:R->ai O
 |.own o=>some o
 |_=>none
abbrev GE:=Gm->ai (R×Gm)
abbrev GA:=Gm->ai (List R×Gm)
abbrev GT:=Gm->ai (Bool×Gm)
def rM(Z:St)(H:Hp)(i j:Nat)(v:V):Prop:=∃a C dx fs f p,Z[i]?=some (some (.ref a))/\H a=some (.ins C dx fs)/\fs[j]?=some (f,v)/\v=.ref p
def e8(Z:St)(H:Hp):List R->List V->Prop
 |[],[]=>True
 |.own _::rs,_::vs=>e8 Z H rs vs
 |.var i::rs,v::vs=>Z[i]?=some (some v)/\e8 Z H rs vs
 |.fld i j::rs,v::vs=>rM Z H i j v/\e8 Z H rs vs
 |_,_=>False
def gX(K:FG)(F H:Hp)(A:List ah)(Z:St)(au:Gm)(rs:List R)(vs:List V)(H':Hp):Prop:=
 ∃F' A',Ext F H A F' H' A'/\OK K F' H' (vs.map some++Z) (rs.map R.o++au) A'/\e8 Z H' rs vs
def tG(K:FG)(f:GE):TE:=λZ H Q=>∃F A Q0 r au,OK K F H Z Q0 A/\f Q0=some (r,au)/\∀v H',gX K F H A Z au [r] [v] H'->Q v H'
def jW(K:FG)(f:GA):TA:=λZ H Q=>∃F A Q0 rs au,OK K F H Z Q0 A/\f Q0=some (rs,au)/\∀vs H',gX K F H A Z au rs vs H'->Q vs H'
def iy(K:FG)(f:GT):TT:=λZ H Q=>∃F A Q0 b au,OK K F H Z Q0 A/\f Q0=some (b,au)/\∀H',gX K F H A Z au [] [] H'->Q b H'
theorem e8.length:∀{Z:St} {H:Hp} {rs:List R} {vs:List V},e8 Z H rs vs->rs.length=vs.length
 |_,_,[],[],_=>rfl
 |_,_,.own _::rs,_::vs,h=>by simp[e8.length (Z:=_) (H:=_) (rs:=rs) (vs:=vs) h]
 |_,_,.var _::rs,_::vs,h=>by simp[e8.length (Z:=_) (H:=_) (rs:=rs) (vs:=vs) h.2]
 |_,_,.fld _ _::rs,_::vs,h=>by simp[e8.length (Z:=_) (H:=_) (rs:=rs) (vs:=vs) h.2]
 |_,_,[],_::_,h=>h.elim
 |_,_,.own _::_,[],h=>h.elim
 |_,_,.var _::_,[],h=>h.elim
 |_,_,.fld _ _::_,[],h=>h.elim
def rM.kP{Z:St}{H H':Hp}{i j:Nat}{v:V}(h:rM Z H i j v)(x:lZ H H'):rM Z H' i j v:=by
 obtain⟨a,C,dx,fs,f,p,h1,h2,h3,rfl⟩:=h;obtain⟨AO,e,z⟩:=x a C dx fs h2;exact⟨a,C,dx,AO,f,p,h1,e,z j f p h3,rfl⟩
theorem e8.kP:∀{Z:St} {H H':Hp} {rs:List R} {vs:List V},e8 Z H rs vs->lZ H H'->e8 Z H' rs vs
 |_,_,_,[],[],_,_=>i9
 |_,_,_,.own _::rs,_::vs,h,x=>e8.kP (rs:=rs) (vs:=vs) h x
 |_,_,_,.var _::rs,_::vs,h,x=>⟨h.1,e8.kP (rs:=rs) (vs:=vs) h.2 x⟩
 |_,_,_,.fld _ _::rs,_::vs,h,x=>⟨h.1.kP x,e8.kP (rs:=rs) (vs:=vs) h.2 x⟩
 |_,_,_,[],_::_,h,_=>h.elim
 |_,_,_,.own _::_,[],h,_=>h.elim
 |_,_,_,.var _::_,[],h,_=>h.elim
 |_,_,_,.fld _ _::_,[],h,_=>h.elim
def e8.one{Z:St}{H:Hp}{r:R}{vs:List V}{rs:List R}{v:V}(h:e8 Z H [r] [v])(t:e8 Z H rs vs):e8 Z H (r::rs) (v::vs):=by
 cases r with
 |own o=>exact t
 |var i=>exact⟨h.1,t⟩
 |fld i j=>exact⟨h.1,t⟩
def PE.mono{X:Cx}{e:Expr}{t t':TE}(h:PE X e t)(m:∀Z H Q,t' Z H Q->t Z H Q):PE X e t':=λaa s Z H Q I q=>h aa s Z H Q I (m _ _ _ q)
def PT.mono{X:Cx}{e:Expr}{t t':TT}(h:PT X e t)(m:∀Z H Q,t' Z H Q->t Z H Q):PT X e t':=λaa s Z H Q I q=>h aa s Z H Q I (m _ _ _ q)
def PW.mono{X:Cx}{e:Expr}{t t':TT}(h:PW X e t)(m:∀Z H Q,t' Z H Q->t Z H Q):PW X e t':=λwh aa s Z H Q I q=>h wh aa s Z H Q I (m _ _ _ q)
def PA.mono{X:Cx}{e:List Expr}{t t':TA}(h:PA X e t)(m:∀Z H Q,t' Z H Q->t Z H Q):PA X e t':=λpos aa s Z H Q I q=>h pos aa s Z H Q I (m _ _ _ q)
def PS.mono{X:Cx}{e:Stmt}{t t':TS}(h:PS X e t)(m:∀D Z H,t' D Z H->t D Z H):PS X e t':=λaa s Z H D I q=>h aa s Z H D I (m _ _ _ q)
def gR.mono{X:Cx}{e:List Stmt}{t t':TS}(h:gR X e t)(m:∀D Z H,t' D Z H->t D Z H):gR X e t':=λaa s Z H D I q=>h aa s Z H D I (m _ _ _ q)
section
variable{K:FG}{F H:Hp}{A:List ah}{Z:St}{Q0 au:Gm}
noncomputable def jV(Q0:Gm):R->ai O
 |.own o=>some o
 |.var i=>(Q0[i]?).join
 |.fld i j=>match Q0[i]? with
  |some (some (.ins _ _ ps))=>ps[j]?
  |_=>none
noncomputable def gK(Q0:Gm):List R->ai (List O)
 |[]=>some []
 |r::rs=>(jV Q0 r).bind λo=>(gK Q0 rs).bind λos=>some (o::os)
def mM(K:FG)(F H:Hp):List V->List O->Prop:=Paired λv o=>∃B,aj K F H [some v] [some o] B
theorem BU:∀{rs:List R} {vs:List V} {os:List O} {B:List ah},aj K F H Z Q0 A->aj K F H (vs.map some) (rs.map R.o) B->e8 Z H rs vs->gK Q0 rs=some os->mM K F H vs os
 |[],[],os,_,_,_,_,e=>by cases e;exact .nil
 |r::rs,v::vs,os,B,k,h,hh,e=>by
  obtain⟨B1,C1,h1,h2,_⟩:=aj.one h;unfold gK at e;cases e1:jV Q0 r with
  |none=>rw[e1] at e;cases e
  |some o=>
   rw[e1] at e;cases e2:gK Q0 rs with
   |none=>rw[e2] at e;cases e
   |some yO=>
    rw[e2] at e;cases e;cases r with
    |own o'=>cases e1;exact .cons ⟨_,h1⟩ (BU k h2 hh e2)
    |var i=>
     have e3:Q0[i]?=some (some o):=by
      have:(Q0[i]?).join=some o:=e1;cases q:Q0[i]? with
      |none=>rw[q] at this;cases this
      |some z=>rw[q] at this;exact congrArg some this
     obtain⟨v',Ai,B',g1,g2,_⟩:=k.take e3;have:=hh.1;rw[g1] at this;cases this;exact .cons ⟨_,g2⟩ (BU k h2 hh.2 e2)
    |fld i j=>
     obtain⟨⟨a,C,dx,fs,f,p,h3,h4,h5,h6⟩,Lp⟩:=hh;unfold jV at e1;dsimp only at e1;split at e1
     .rename_i C' ns ps e3
      obtain⟨v',Ai,B',g1,g2,_⟩:=k.take e3;rw[h3] at g1;cases g1;cases g2 with
      |ins q1 q2 q3 q4 _=>
       rw[h4] at q1;cases q1;obtain⟨v2,A2,B2,j1,j2,_⟩:=q4.take (i:=j) (o:=o) (by rw[lC,e1];rfl)
       rw[lC,h5] at j1;cases j1;exact .cons ⟨_,j2⟩ (BU k h2 Lp e2)
     .cases e1
 |[],_::_,_,_,_,_,h,_=>h.elim
 |.own _::_,[],_,_,_,_,h,_=>h.elim
 |.var _::_,[],_,_,_,_,h,_=>h.elim
 |.fld _ _::_,[],_,_,_,_,h,_=>h.elim
def Res(K:FG)(F H:Hp)(o:O)(Q:VK):Prop:=∀v H' Av,aI H H'->aj K F H' [some v] [some o] Av->Av.Nodup->(∀a∈Av,H a=none)->Q v H'
def gX.res{rs:List R}{vs:List V}{H1:Hp}{os:List O}{o:O}{Q:VK}(h:gX K F H A Z au rs vs H1)(e:gK au rs=some os)(q:∀v H',gX K F H A Z au [.own o] [v] H'->Q v H'):
  ∃F1,aI F1 H1/\mM K F1 H1 vs os/\Res K F1 H1 o Q:=by
 obtain⟨F1,A1,x,k,hh⟩:=h;have hl:(vs.map some).length=(rs.map R.o).length:=by rw[bY,bY,hh.length]
 obtain⟨B,C,h1,h2,h3⟩:=aj.split hl k.os;refine⟨F1,k.le,BU h2 h1 hh e,λv H' Av s w nd fresh=>q v H' ?_⟩
 obtain⟨B',kB,sub⟩:=k.part hl;obtain⟨k2,x2⟩:=kB.push s w nd fresh;exact⟨F1,Av++B',x.trans ((Ext.jT Ext.refl sub).trans x2),k2,i9⟩
theorem Res.flat{d:D}{v:V}{Q:VK}(h:Res K F H (.Y d) Q)(e:nI d=some v):Q v H:=h v H [] (aI.refl _) (.Y (.flat e .nil) .nil) .nil (λ_ m=>by cases m)
theorem Res.Y{d:D}{v:V}{Q:VK}(h:Res K F H (.Y d) Q)(e:aw K F [v] [d]):Q v H:=h v H [] (aI.refl _) (.Y e .nil) .nil (λ_ m=>by cases m)
end
noncomputable def gC(d:D):GE:=λQ0=>some (.own (.Y d),Q0)
noncomputable def af(i:Nat):GE:=λQ0=>match Q0[i]? with
 |some (some (.Y d))=>some (.own (.Y d),Q0)
 |some (some _)=>some (.var i,Q0)
 |_=>none
section
variable{X:Cx}{K:FG}{e a b:Expr}{es:List Expr}{fa fb:GE}{fs:GA}{pos:Pos}
def gy{v:V}{d:D}(h:PE X e (tC v))(q:nI d=some v:=by rfl):PE X e (tG K (gC d)):=h.mono λZ H Q t=>by
 obtain⟨F,A,Q0,r,au,k,e,w⟩:=t;cases e;obtain⟨k2,x⟩:=k.push (v:=v) (o:=.Y d) (Av:=[]) (aI.refl _) (.Y (.flat q .nil) .nil) .nil (λ_ m=>by cases m)
 exact w v H ⟨F,_,x,k2,i9⟩
def Zi{i:Nat}(h:PE X e (ra i)):PE X e (tG K (af i)):=h.mono λZ H Q t=>by
 obtain⟨F,A,Q0,r,au,k,e,w⟩:=t;unfold af at e;cases q:Q0[i]? with
 |none=>rw[q] at e;cases e
 |some z=>
  cases z with
  |none=>rw[q] at e;cases e
  |some o=>
   rw[q] at e;obtain⟨v,Ai,B,g1,g2,g3,g4⟩:=k.os.take q;refine⟨v,g1,w v H ?_⟩;cases o with
   |Y d=>
    cases e;cases g2 with
    |Y rp _=>
     obtain⟨k2,x⟩:=k.push (v:=v) (o:=.Y d) (Av:=[]) (aI.refl _) (.Y rp .nil) .nil (λ_ m=>by cases m)
     exact⟨F,_,x,k2,i9⟩
   |_=>
    cases e;exact⟨F,A,Ext.refl,⟨k.le,.skip k.os,k.nd,k.fr⟩,g1,i9⟩
noncomputable def gN:GA:=λQ0=>some ([],Q0)
noncomputable def aq(f:GE)(g:GA):GA:=λQ0=>(f Q0).bind λp=>(g p.2).bind λq=>some (p.1::q.1,q.2)
def Nn{f:GE}{g:GA}{Q0 au:Gm}{rs:List R}(e:aq f g Q0=some (rs,au)):∃r aE Mj,f Q0=some (r,aE)/\g aE=some (Mj,au)/\rs=r::Mj:=by
 unfold aq at e;cases e1:f Q0 with
 |none=>rw[e1] at e;cases e
 |some p=>
  rw[e1] at e;dsimp only[Option.bind] at e;cases e2:g p.2 with
  |none=>rw[e2] at e;cases e
  |some q=>rw[e2] at e;cases e;exact⟨p.1,p.2,q.1,rfl,e2,rfl⟩
def aV:PA X [] (jW K gN):=mV.mono λZ H Q t=>by
 obtain⟨F,A,Q0,r,au,k,e,w⟩:=t;cases e;exact w [] H ⟨F,A,Ext.refl,k,i9⟩
def xy{Z:St}{H:Hp}{Q:List V->Hp->Prop}(t:jW K (aq fa fs) Z H Q):xc (tG K fa) (jW K fs) Z H Q:=by
 obtain⟨F,A,Q0,r,au,k,e,w⟩:=t;obtain⟨r1,aE,rs,e1,e2,rfl⟩:=Nn e;refine⟨F,A,Q0,r1,aE,k,e1,λv H1 p=>?_⟩
 obtain⟨F1,A1,x,k1,hh⟩:=id p;obtain⟨C,kC,fr⟩:=OK.frame (τ:=[some v]) (Θ:=[r1.o]) k1 rfl;refine⟨F1,C,aE,rs,au,kC,e2,λvs H2 p2=>w (v::vs) H2 ?_⟩
 obtain⟨F2,A2,x2,k2,h2⟩:=p2;obtain⟨A3,x3,k3⟩:=fr _ _ _ _ _ x2 k2;exact⟨F2,A3,x.trans x3,k3,e8.one (hh.kP x2.kP) h2⟩
def ay(ha:PE X e (tG K fa))(hs:PA X es (jW K fs))(hp:starEach (e::es) X.env=(false,eval e X.env)::starEach es X.env:=by rfl):PA X (e::es) (jW K (aq fa fs)):=
 (zF ha hs hp).mono λZ H Q t=>xy t
def gO(g:List O->ai O)(fs:GA):GE:=λQ0=>(fs Q0).bind λp=>(gK p.2 p.1).bind λos=>(g os).bind λo=>some (.own o,p.2)
abbrev gB(g:List O->ai O)(fa fb:GE):GE:=gO g (aq fa (aq fb gN))
abbrev yl(g:List O->ai O)(fa:GE):GE:=gO g (aq fa gN)
def Xt{g:List O->ai O}{Q0 au:Gm}{r:R}(e:gO g fs Q0=some (r,au)):∃rs os o,fs Q0=some (rs,au)/\gK au rs=some os/\g os=some o/\r=.own o:=by
 unfold gO at e;cases e1:fs Q0 with
 |none=>rw[e1] at e;cases e
 |some p=>
  rw[e1] at e;dsimp only[Option.bind] at e;cases e2:gK p.2 p.1 with
  |none=>rw[e2] at e;cases e
  |some os=>
   rw[e2] at e;dsimp only at e;cases e3:g os with
   |none=>rw[e3] at e;cases e
   |some o=>rw[e3] at e;cases e;exact⟨p.1,os,o,rfl,e2,e3,rfl⟩
def cS(K:FG)(r:List V->Hp->VK->Prop)(g:List O->ai O):Prop:=
 ∀(F H:Hp) (vs:List V) (os:List O) (o:O) (Q:VK),aI F H->mM K F H vs os->g os=some o->Res K F H o Q->r vs H Q
def GP{r:List V->Hp->VK->Prop}{g:List O->ai O}(ok:cS K r g){Z:St}{H:Hp}{Q:VK}(t:tG K (gO g fs) Z H Q):jW K fs Z H λvs H1=>r vs H1 Q:=by
 obtain⟨F,A,Q0,rr,au,k,e,w⟩:=t;obtain⟨rs,os,o,e1,e2,e3,rfl⟩:=Xt e;refine⟨F,A,Q0,rs,au,k,e1,λvs H1 p=>?_⟩
 obtain⟨F1,le,eU,res⟩:=p.res e2 w;exact ok F1 H1 vs os o Q le eU e3 res
def mY(r:R2):List V->Hp->VK->Prop:=λvs H Q=>∃x y,vs=[x,y]/\r x y H Q
def Mg(r:V->Hp->VK->Prop):List V->Hp->VK->Prop:=λvs H Q=>∃x,vs=[x]/\r x H Q
def tG.mono{f:GE}{Q1 Q2:VK}{Z:St}{H:Hp}(t:tG K f Z H Q1)(q:∀v H',Q1 v H'->Q2 v H'):tG K f Z H Q2:=by
 obtain⟨F,A,Q0,rr,au,k,e,w⟩:=t;exact⟨F,A,Q0,rr,au,k,e,λv H' p=>q _ _ (w v H' p)⟩
def Gi{r:R2}{g:List O->ai O}(ok:cS K (mY r) g){Z:St}{H:Hp}{Q:VK}(t:tG K (gB g fa fb) Z H Q):El r (tG K fa) (tG K fb) Z H Q:=by
 show tG K fa Z H λx H1=>tG K fb Z H1 λy H2=>r x y H2 Q
 refine tG.mono (xy (GP ok t)) λx H1 h=>tG.mono (xy h) λy H2 h2=>?_
 obtain⟨F,A,Q0,rs,au,k,e,w⟩:=h2;cases e;obtain⟨x',y',e1,h3⟩:=w [] H2 ⟨F,A,Ext.refl,k,i9⟩;cases e1;exact h3
def RM{r:V->Hp->VK->Prop}{g:List O->ai O}(ok:cS K (Mg r) g){Z:St}{H:Hp}{Q:VK}(t:tG K (yl g fa) Z H Q):tG K fa Z H λx H1=>r x H1 Q:=by
 refine tG.mono (xy (GP ok t)) λx H1 h=>?_
 obtain⟨F,A,Q0,rs,au,k,e,w⟩:=h;cases e;obtain⟨x',e1,h3⟩:=w [] H1 ⟨F,A,Ext.refl,k,i9⟩;cases e1;exact h3
def dq{op:Operator}{r:R2}{g:List O->ai O}(ho:gM X (binaryOp op) r)(ok:cS K (mY r) g)(ha:PE X a (tG K fa))(hb:PE X b (tG K fb)):PE X (.BinOp a op b pos) (tG K (gB g fa fb)):=
 (χ ho ha hb).mono λ_ _ _ t=>Gi ok t
def QR{op:CmpOp}{r:R2}{g:List O->ai O}(ho:gM X (compareOp op) r)(ok:cS K (mY r) g)(ha:PE X a (tG K fa))(hb:PE X b (tG K fb))(hm:behindInMarks op b=false:=by first|rfl|exact QM _):PE X (.Compare a [op] [b] pos) (tG K (gB g fa fb)):=
 (Xf ho ha hb hm).mono λ_ _ _ t=>Gi ok t
def ψ{r:R2}{g:List O->ai O}(hr:qF X r)(ok:cS K (mY r) g)(ha:PE X a (tG K fa))(hb:PE X b (tG K fb))(hs:BR b:=by exact λ_ _=>rfl):PE X (.Subscript a b pos) (tG K (gB g fa fb)):=
 (Kr hr ha hb hs).mono λ_ _ _ t=>Gi ok t
variable{x:Str}{p:Pos}{id T:String}{r:List V->Hp->VK->Prop}{g:List O->ai O}
def l8(hc:cA X (.builtin id) r)(ok:cS K r g)(hm:X.mg x=none)(hv:bootBuiltins x=some (.builtin id))(ha:PA X (e::es) (jW K fs))(hg:Gl X x:=by rfl)(hn:x≠"__name__":=by decide)(lT:(x == ("__debug__":Str))=false:=by decide)
  (he:starEach (e::es) X.env=(false,eval e X.env)::starEach es X.env:=by rfl) (iW:(backTo pos (starEach es X.env)).any (·.1)=false:=by rfl):PE X (.Call (.Name x p) (e::es) [] pos) (tG K (gO g fs)):=
 (IP hc hg hm hv ha hn lT he iW).mono λ_ _ _ t=>GP ok t
def xu(hc:cA X (.type T) r)(ok:cS K r g)(hm:X.mg x=none)(hv:bootBuiltins x=some (.type T))(ha:PA X (e::es) (jW K fs))(hg:Gl X x:=by rfl)(hn:x≠"__name__":=by decide)(lT:(x == ("__debug__":Str))=false:=by decide)
  (he:starEach (e::es) X.env=(false,eval e X.env)::starEach es X.env:=by rfl) (iW:(backTo pos (starEach es X.env)).any (·.1)=false:=by rfl):PE X (.Call (.Name x p) (e::es) [] pos) (tG K (gO g fs)):=
 (UD hc hg hm hv ha hn lT he iW).mono λ_ _ _ t=>GP ok t
mutual
noncomputable def O.d:O->D
 |.Y d=>d
 |.lst xs=>.lst (O.dl xs)
 |.tup xs=>.tup (O.dl xs)
 |.aF kvs=>.aF (O.dk kvs)
 |.ins _ _ _=>.obj
noncomputable def O.dl:List O->List D
 |[]=>[]
 |x::xs=>x.d::O.dl xs
noncomputable def O.dk:List (TK×O)->List (TK×D)
 |[]=>[]
 |(k,x)::xs=>(k,x.d)::O.dk xs
end
end
def aj.rep{K:FG}{F F' H:Hp}{Z:St}{Q0:Gm}{A:List ah}(h:aj K F H Z Q0 A)(s:aI F F')(k:∀a∈A,∀o,H a=some o->F' a=some o):
  ∀(vs:List V) (os:List O),Z=vs.map some->Q0=os.map some->aw K F' vs (O.dl os):=by
 induction h with
 |nil=>
  intro vs os e1 e2;cases vs with
  |nil=>cases os with
   |nil=>exact .nil
   |cons _ _=>cases e2
  |cons _ _=>cases e1
 |skip _ _=>
  intro vs os e1 e2;cases os with
  |nil=>cases e2
  |cons _ _=>injection e2 with e3 _;cases e3
 |Y r _ ih=>
  intro vs os e1 e2;cases vs with
  |nil=>cases e1
  |cons v vs=>cases os with
   |nil=>cases e2
   |cons o os=>
    injection e1 with e3 e4;injection e2 with e5 e6;cases e3;cases e5;exact .cons (r.mono s) (ih k vs os e4 e6)
 |lst e _ _ i1 i2=>
  intro vs os e1 e2;cases vs with
  |nil=>cases e1
  |cons v vs=>cases os with
   |nil=>cases e2
   |cons o os=>
    injection e1 with e3 e4;injection e2 with e5 e6;cases e3;cases e5;exact .lst (.inl (k _ (by simp) _ e)) (i1 (λa m=>k a (by simp[m])) _ _ rfl rfl) (i2 (λa m=>k a (by simp[m])) vs os e4 e6)
 |tup e _ _ i1 i2=>
  intro vs os e1 e2;cases vs with
  |nil=>cases e1
  |cons v vs=>cases os with
   |nil=>cases e2
   |cons o os=>
    injection e1 with e3 e4;injection e2 with e5 e6;cases e3;cases e5;exact .tup (gY.of (k _ (by simp) _ e)) (i1 (λa m=>k a (by simp[m])) _ _ rfl rfl) (i2 (λa m=>k a (by simp[m])) vs os e4 e6)
 |@aF a kvs ps ep A B Z Q0 e q r _ _ i1 i2=>
  intro vs os e1 e2;cases vs with
  |nil=>cases e1
  |cons v vs=>cases os with
   |nil=>cases e2
   |cons o os=>
    injection e1 with e3 e4;injection e2 with e5 e6;cases e3;cases e5;have hk:∀ps:List (TK×O),(O.dk ps).map (·.1)=ps.map (·.1)/\(O.dk ps).map (·.2)=O.dl (ps.map (·.2))/\(O.dk ps).map (·.1.d)=ps.map (·.1.d):=by
     intro ps
     induction ps with
     |nil=>exact⟨rfl,rfl,rfl⟩
     |cons p ps ih=>obtain⟨a,b⟩:=p;exact⟨by simp[O.dk,ih.1],by simp[O.dk,O.dl,ih.2.1],by simp[O.dk,ih.2.2]⟩
    refine .aF (k _ (by simp) _ e) (q.trans (hk ps).1.symm) (by rw[(hk ps).2.2];exact r.mono s) ?_ (i2 (λa m=>k a (by simp[m])) vs os e4 e6)
    rw[(hk ps).2.1];exact i1 (λa m=>k a (by simp[m])) _ _ (by simp) (by simp)
 |ins _ _ _ _ _ _ i2=>
  intro vs os e1 e2;cases vs with
  |nil=>cases e1
  |cons v vs=>cases os with
   |nil=>cases e2
   |cons o os=>
    injection e1 with e3 e4;injection e2 with e5 e6;cases e3;cases e5;exact .obj (i2 (λa m=>k a (by simp[m])) vs os e4 e6)
section
variable{K:FG}{F H:Hp}{A:List ah}{Z:St}{Q0:Gm}
def OK.freeze{v:V}{o:O}(k:OK K F H (some v::Z) (some o::Q0) A):∃F' A',OK K F' H (some v::Z) (some (.Y o.d)::Q0) A'/\Ext F H A F' H A':=by
 obtain⟨B,C,h1,h2,h3⟩:=k.os.one;subst h3;obtain⟨n1,n2,n3⟩:=lD.mp k.nd
 let F':Hp:=λa=>if a∈B then H a else F a
 have SA:∀a,a∈B->F' a=H a:=λa m=>aT m
 have vn:∀a,a∉B->F' a=F a:=λa m=>aW m
 have s:aI F F':=λa u e=>by
  rw[vn a λm=>by rw[k.fr a (jb _ m)] at e;cases e]
  exact e
 have le:aI F' H:=λa u e=>by
  by_cases m:a∈B
  .rw[SA a m] at e;exact e
  .rw[vn a m] at e;exact k.le a u e
 have rp:aw K F' [v] [o.d]:=h1.rep s (λa m u e=>by rw[SA a m];exact e) [v] [o] rfl rfl
 refine⟨F',C,⟨le,.Y rp (h2.keep s λa _ u e=>e),n2,λa m=>?_⟩,s,λa u e _=>e,λa h=>h,λa h=>?_,λa m=>.inl (iB _ m),.same (aI.refl _)⟩
 .rw[vn a λz=>n3 a z a m rfl]
  exact k.fr a (iB _ m)
 .by_cases m:a∈B
  .exact .inr (.inl (jb _ m))
  .rw[vn a m] at h;exact .inl h
def OK.Dh{v:V}{o:O}{i:Nat}{A:List ah}(k:OK K F H (some v::Z) (none::Q0) A)(hv:Z[i]?=some (some v))(ho:Q0[i]?=some (some o)):∃A',OK K F H (some v::Z) (some o::Q0.set i none) A'/\Ext F H A F H A':=by
 obtain⟨B,C,h1,h2,h3⟩:=k.os.one;subst h3;have eB:B=[]:=by cases h1 with|skip t=>cases t;rfl
 subst eB;obtain⟨v',Ai,B',g1,g2,g3,g4⟩:=h2.take ho;rw[hv] at g1;cases g1;have nd:=k.nd;have fr:=k.fr;rw[ig] at nd fr;exact⟨Ai++B',.perm (g2.app g3) k.le nd fr g4.symm,Ext.jT Ext.refl λa m=>g4.mem_iff.mpr m⟩
end
def ax(f:GE):GE:=λQ0=>(f Q0).bind λp=>match p.1 with
 |.own o=>some (.own (.Y o.d),p.2)
 |.var i=>match p.2[i]? with
  |some (some o)=>some (.own (.Y o.d),p.2.set i (some (.Y o.d)))
  |_=>none
 |_=>none
noncomputable def fA(f:GE):GE:=λQ0=>(f Q0).bind λp=>match p.1 with
 |.own o=>some (.own o,p.2)
 |.var i=>match p.2[i]? with
  |some (some o)=>some (.own o,p.2.set i none)
  |_=>none
 |_=>none
section
variable{X:Cx}{K:FG}{e a b:Expr}{es:List Expr}{fa fb:GE}{fs:GA}{pos:Pos}
theorem xA{α:Type}:∀{l:List α} {i:Nat} {x:α},l[i]?=some x->l.set i x=l
 |[],_,_,e=>by simp at e
 |y::l,0,x,e=>by simp at e;subst e;rfl
 |y::l,i+1,x,e=>by rw[List.set_cons_succ,xA (by simpa using e)]
theorem gX.Y{F H:Hp}{A:List ah}{Z:St}{Q0 aE au:Gm}{r r':R}{v:V}{H':Hp}{f:GE}(e:f Q0=some (r,aE))(e':ax f Q0=some (r',au))(h:gX K F H A Z aE [r] [v] H'):gX K F H A Z au [r'] [v] H':=by
 obtain⟨F1,A1,x,k,hh⟩:=h;unfold ax at e';rw[e] at e';cases r with
 |own o=>
  cases e';obtain⟨F2,A2,k2,x2⟩:=OK.freeze (Z:=Z) (Q0:=aE) k;exact⟨F2,A2,x.trans x2,k2,i9⟩
 |var i=>
  dsimp only[Option.bind] at e';cases q:aE[i]? with
  |none=>rw[q] at e';cases e'
  |some z=>
   cases z with
   |none=>rw[q] at e';cases e'
   |some o=>
    rw[q] at e';cases e';have hv:Z[i]?=some (some v):=hh.1;obtain⟨A2,k2,x2⟩:=OK.Dh (Z:=Z) (Q0:=aE) k hv q;obtain⟨F3,A3,k3,x3⟩:=OK.freeze k2;obtain⟨B,C,h1,h2,h3⟩:=k3.os.one;have hi:i<(aE.set i none).length:=by
     rw[HH];exact(jX.mp q).1
    have rp:aw K F3 [v] [o.d]:=by cases h1 with|Y r _=>exact r
    have eB:B=[]:=by cases h1 with|Y _ t=>cases t;rfl
    subst eB;obtain⟨B2,g1,C2,g2,g3⟩:=aj.put (.Y rp .nil) i h2 hi;rw[xA hv,MR] at g1;rw[ig] at g2 h3;subst h3;have yG:B2.Nodup:=g2.nodup_iff.mpr (k3.nd.sublist g3);have sub:∀a∈B2,a∈A3:=λa m=>g3.subset (g2.mem_iff.mp m)
    exact⟨F3,B2,(x.trans (x2.trans x3)).jT sub,⟨k3.le,.Y rp g1,yG,λa m=>k3.fr a (sub a m)⟩,i9⟩
 |fld i j=>cases e'
def VU{f:GE}{Q0 au:Gm}{r:R}(e:ax f Q0=some (r,au)):∃r1 aE,f Q0=some (r1,aE):=by
 unfold ax at e;cases q:f Q0 with
 |none=>rw[q] at e;cases e
 |some p=>exact⟨p.1,p.2,rfl⟩
def QS{Z:St}{H:Hp}{Q:VK}(t:tG K (ax fa) Z H Q):tG K fa Z H Q:=by
 obtain⟨F,A,Q0,rr,au,k,e,w⟩:=t;obtain⟨r1,aE,e1⟩:=VU e;exact⟨F,A,Q0,r1,aE,k,e1,λv H' p=>w v H' (p.Y e1 e)⟩
def bQ(h:PE X e (tG K fa)):PE X e (tG K (ax fa)):=h.mono λ_ _ _ t=>QS t
def Xu{Z:St}{H:Hp}{Q:VK}(t:tG K (fA fa) Z H Q):tG K fa Z H Q:=by
 obtain⟨F,A,Q0,rr,au,k,e,w⟩:=t;unfold fA at e;cases q:fa Q0 with
 |none=>rw[q] at e;cases e
 |some p=>
  rw[q] at e;refine⟨F,A,Q0,p.1,p.2,k,q,λv H' pp=>w v H' ?_⟩
  obtain⟨r,aE⟩:=p;cases r with
  |own o=>cases e;exact pp
  |var i=>
   dsimp only[Option.bind] at e;cases q:aE[i]? with
   |none=>rw[q] at e;cases e
   |some z=>
    cases z with
    |none=>rw[q] at e;cases e
    |some o=>
     rw[q] at e;cases e;obtain⟨F1,A1,x,k,hh⟩:=pp;obtain⟨A2,k2,x2⟩:=OK.Dh (Z:=Z) (Q0:=aE) k hh.1 q;exact⟨F1,A2,x.trans x2,k2,i9⟩
  |fld i j=>cases e
def t9(h:PE X e (tG K fa)):PE X e (tG K (fA fa)):=h.mono λ_ _ _ t=>Xu t
noncomputable def gH:List R->ai (List O)
 |[]=>some []
 |.own o::rs=>(gH rs).bind λos=>some (o::os)
 |_::_=>none
theorem uP:∀{rs:List R} {os:List O},gH rs=some os->rs.map R.o=os.map some
 |[],os,e=>by cases e;rfl
 |.own o::rs,os,e=>by
  unfold gH at e;cases q:gH rs with
  |none=>rw[q] at e;cases e
  |some yO=>rw[q] at e;cases e;simp[uP q,R.o]
 |.var _::_,_,e=>by cases e
 |.fld _ _::_,_,e=>by cases e
def aY(c:List O->O)(fs:GA):GE:=λQ0=>(fs Q0).bind λp=>if p.1.length<=1000 then(gH p.1).bind λos=>some (.own (c os),p.2) else none
def OD{c:List O->O}{Q0 au:Gm}{r:R}(e:aY c fs Q0=some (r,au)):∃rs os,fs Q0=some (rs,au)/\rs.length<=1000/\gH rs=some os/\r=.own (c os):=by
 unfold aY at e;cases e1:fs Q0 with
 |none=>rw[e1] at e;cases e
 |some p=>
  rw[e1] at e;dsimp only[Option.bind] at e;split at e
  .cases e2:gH p.1 with
   |none=>rw[e2] at e;cases e
   |some os=>rw[e2] at e;cases e;exact⟨p.1,os,rfl,by assumption,e2,rfl⟩
  .cases e
def lI(h:PA X es (jW K fs)):PE X (.List es pos) (tG K (aY .lst fs)):=(Y9 h).mono λZ H Q t=>by
 obtain⟨F,A,Q0,rr,au,k,e,w⟩:=t;obtain⟨rs,os,e1,e2,e3,rfl⟩:=OD e;refine⟨F,A,Q0,rs,au,k,e1,λvs H1 p=>?_⟩
 obtain⟨F1,A1,x,k1,hh⟩:=p;rw[uP e3] at k1;have hl:=hh.length;have ho:os.length=rs.length:=by have:=congrArg List.length (uP e3);simpa using this.symm
 refine⟨QP (by lia),λl hn=>w (.ref l) _ ?_⟩
 obtain⟨B,C,h1,h2,h3⟩:=aj.split (by simp only[bY];lia) k1.os
 have nl:∀a∈A1,a≠l:=λa m z=>k1.os.there a m (by rw[z];exact hn)
 have kp:∀a∈A1,∀o,H1 a=some o->upd H1 l (.lst vs) a=some o:=λa m o e=>by rw[cK (nl a m)];exact e
 subst h3;refine⟨F1,l::B++C,x.trans ⟨aI.refl _,λa o e _=>?_,λa h=>?_,λa h=>.inl h,λa m=>?_,.same (l7 hn)⟩,⟨λa o e=>?_,?_,?_,?_⟩,i9⟩
 .rw[cK (mO e hn)];exact e
 .by_cases z:a=l
  .rw[z,iQ];exact λz=>by cases z
  .rw[cK z];exact h
 .rcases dR.mp m with rfl|m
  .exact .inr hn
  .exact .inl m
 .have:=k1.le a o e;rw[cK (mO this hn)];exact this
 .exact .lst iQ (h1.keep (aI.refl _) λa m=>kp a (jb _ m)) (h2.keep (aI.refl _) λa m=>kp a (iB _ m))
 .exact jr.mpr ⟨λm=>nl l m rfl,k1.nd⟩
 .intro a m;rcases dR.mp m with rfl|m
  .exact k1.le.free hn
  .exact k1.fr a m
def iT{x1}(h:PA X es (jW K fs)):PE X (.Tuple es x1 pos) (tG K (aY .tup fs)):=(QN h).mono λZ H Q t=>by
 obtain⟨F,A,Q0,rr,au,k,e,w⟩:=t;obtain⟨rs,os,e1,e2,e3,rfl⟩:=OD e;refine⟨F,A,Q0,rs,au,k,e1,λvs H1 p=>?_⟩
 obtain⟨F1,A1,x,k1,hh⟩:=p;rw[uP e3] at k1;have hl:=hh.length;have ho:os.length=rs.length:=by have:=congrArg List.length (uP e3);simpa using this.symm
 refine⟨QP (by lia),λl hn=>w (.ref l) _ ?_⟩
 obtain⟨B,C,h1,h2,h3⟩:=aj.split (by simp only[bY];lia) k1.os
 have nl:∀a∈A1,a≠l:=λa m z=>k1.os.there a m (by rw[z];exact hn)
 have kp:∀a∈A1,∀o,H1 a=some o->upd H1 l (.tup vs) a=some o:=λa m o e=>by rw[cK (nl a m)];exact e
 subst h3;refine⟨F1,l::B++C,x.trans ⟨aI.refl _,λa o e _=>?_,λa h=>?_,λa h=>.inl h,λa m=>?_,.same (l7 hn)⟩,⟨λa o e=>?_,?_,?_,?_⟩,i9⟩
 .rw[cK (mO e hn)];exact e
 .by_cases z:a=l
  .rw[z,iQ];exact λz=>by cases z
  .rw[cK z];exact h
 .rcases dR.mp m with rfl|m
  .exact .inr hn
  .exact .inl m
 .have:=k1.le a o e;rw[cK (mO this hn)];exact this
 .exact .tup iQ (h1.keep (aI.refl _) λa m=>kp a (jb _ m)) (h2.keep (aI.refl _) λa m=>kp a (iB _ m))
 .exact jr.mpr ⟨λm=>nl l m rfl,k1.nd⟩
 .intro a m;rcases dR.mp m with rfl|m
  .exact k1.le.free hn
  .exact k1.fr a m
def zP:GE:=λQ0=>some (.own (.aF []),Q0)
def OE{P:eW}{w:df}{H:Hp}(h:cL)(hb:sysModules<h.objs.size):cC P w H (h.push { cls:=.type "dict",data:=.dict #[]}) h.objs.size (.dG [] 0):=
 ⟨pV _,p7.mpr (Ne.symm (lY hb)),_,#[],oI _ rfl,⟨rfl,rfl,rfl⟩,rfl,.nil,ED⟩
def Zj:TE:=λ_ H Q=>∀p,H p=none->Q (.ref p) (upd H p (.dG [] 0))
def tu:PE X (.Dict [] [] pos) Zj:=λaa s Z H Q I h=>
 wpAny_Dict_empty ⟨.ref s.heap.objs.size,_,I.laid (a:=s.heap.objs.size) (o:=.dG [] 0) (t':=s.toks) (λ_ _ q=>iP _ q) (c7 _) (OE s.heap I.big),rfl,h _ (I.cg.fresh (c7 _))⟩
def IQ:PE X (.Dict [] [] pos) (tG K zP):=tu.mono λZ H Q t=>by
 obtain⟨F,A,Q0,rr,au,k,e,w⟩:=t;cases e;intro l hn;refine w (.ref l) _ ?_;have s:aI H (upd H l (.dG [] 0)):=l7 hn;obtain⟨k2,x⟩:=k.push (v:=.ref l) (o:=.aF []) (Av:=[l]++[]++[]) s (.aF (kvs:=[]) iQ rfl .nil .nil .nil) (by simp) (λa m=>by simp at m;rw[m];exact hn)
 exact⟨F,_,x,k2,i9⟩
noncomputable def gT(f:GE):GT:=λQ0=>(f Q0).bind λp=>match p.1 with
 |.own (.Y (.bl b))=>some (b,p.2)
 |_=>none
def gX.drop{F H:Hp}{A:List ah}{Z:St}{au:Gm}{rs:List R}{vs:List V}{H':Hp}(h:gX K F H A Z au rs vs H'):gX K F H A Z au [] [] H':=by
 obtain⟨F1,A1,x,k,hh⟩:=h;obtain⟨B,kB,sub⟩:=k.part (by rw[bY,bY,hh.length])
 exact⟨F1,B,x.jT sub,kB,i9⟩
theorem gX.flat{F H:Hp}{A:List ah}{Z:St}{au:Gm}{d:D}{v w:V}{H':Hp}(h:gX K F H A Z au [.own (.Y d)] [v] H')(e:nI d=some w):v=w:=by
 obtain⟨F1,A1,x,k,hh⟩:=h;obtain⟨B,C,h1,_⟩:=aj.one (Z:=Z) (Q0:=au) k.os;cases h1 with
 |Y r _=>
  cases r with
  |flat e' _=>rw[e] at e';exact(Option.some.inj e').symm
  |lst _ _ _=>cases e
  |tup _ _ _=>cases e
  |aF _ _ _ _ _=>cases e
  |fG _ _=>cases e
  |exc _ _=>cases e
  |obj _=>cases e
def Xv{f:GE}{Z:St}{H:Hp}{Q:Bool->Hp->Prop}(t:iy K (gT f) Z H Q):tG K f Z H λx H'=>∃k,x=.bl k/\Q k H':=by
 obtain⟨F,A,Q0,b,au,k,e,w⟩:=t;unfold gT at e;cases q:f Q0 with
 |none=>rw[q] at e;cases e
 |some p=>
  obtain⟨r,aE⟩:=p;rw[q] at e;dsimp only[Option.bind] at e;cases r with
  |var i=>cases e
  |fld i j=>cases e
  |own o=>
   cases o with
   |Y d=>
    cases d with
    |bl b'=>
     cases e;exact⟨F,A,Q0,_,_,k,q,λv H' pp=>⟨_,pp.flat rfl,w H' pp.drop⟩⟩
    |_=>cases e
   |_=>cases e
def gv{op:CmpOp}{r:R2}{g:List O->ai O}(ho:gM X (compareOp op) r)(ok:cS K (mY r) g)(ha:PE X a (tG K fa))(hb:PE X b (tG K fb))(hm:behindInMarks op b=false:=by first|rfl|exact QM _):PT X (.Compare a [op] [b] pos) (iy K (gT (gB g fa fb))):=
 (Xg ho ha hb hm).mono λ_ _ _ t=>Gi ok (Xv t)
noncomputable def pT:O->ai Bool
 |.Y .bh=>some false
 |.Y (.bl b)=>some b
 |.Y (.int i)=>some (i != 0)
 |.Y (.str x)=>if x.length<=1000000 then some ((x.length:Int) != 0) else none
 |.Y (.lst xs)=>some (!xs.isEmpty)
 |.Y (.tup xs)=>some (!xs.isEmpty)
 |.lst xs=>some (!xs.isEmpty)
 |.tup xs=>some (!xs.isEmpty)
 |_=>none
def g_(f:GE):GT:=λQ0=>(f Q0).bind λp=>(jV p.2 p.1).bind λo=>(pT o).bind λb=>some (b,p.2)
def EO{α β:Type}{xs:List α}{ys:List β}(h:xs.length=ys.length):(!xs.isEmpty) = !ys.isEmpty:=by
 cases xs <;> cases ys <;> simp_all
def Xw{F H:Hp}{v:V}{o:O}{b:Bool}{B:List ah}(le:aI F H)(h:aj K F H [some v] [some o] B)(e:pT o=some b):uJ K v H b:=by
 cases h with
 |lst q i _=>cases e;exact .inl ⟨_,dH.of q,EO (by have:=i.length;simpa using this.symm)⟩
 |tup q i _=>cases e;exact .inr (.inl ⟨_,gY.of q,EO (by have:=i.length;simpa using this.symm)⟩)
 |aF q z r i _=>cases e
 |ins _ _ _ _ _=>cases e
 |@Y v d Z Q0 B r _=>
  cases r with
  |lst q i _=>cases e;exact .inl ⟨_,.inl (le.rd q),EO i.length.symm⟩
  |tup q i _=>cases e;exact .inr (.inl ⟨_,le.pP q,EO i.length.symm⟩)
  |aF q z r i _=>cases e
  |fG _ _=>cases e
  |exc _ _=>cases e
  |obj _=>cases e
  |flat q _=>
   cases d with
   |bh=>cases q;cases e;rfl
   |bl b'=>cases q;cases e;rfl
   |int i=>cases q;cases e;rfl
   |str x=>
    cases q;unfold pT at e;dsimp only at e;split at e
    .cases e;exact⟨kH (by assumption) (by decide),rfl⟩
    .cases e
   |ty n=>cases e
   |lst _=>cases q
   |tup _=>cases q
   |aF _=>cases q
   |fG _=>cases q
   |exc _ _=>cases q
   |obj=>cases q
def ue{X:Cx}{a:Expr}{fa:GE}(ha:PE X a (tG K fa))(he:∀whole,isTrue a X.env whole=(do let v <-whole;standAt a.pos;holding [v] (truthy v)):=by exact λ_=>rfl)(hK:X.K=K:=by rfl):PT X a (iy K (g_ fa)):=
 (UM K ha he hK).mono λZ H Q t=>by
  obtain⟨F,A,Q0,b,au,k,e,w⟩:=t;unfold g_ at e;cases q:fa Q0 with
  |none=>rw[q] at e;cases e
  |some p=>
   obtain⟨r,aE⟩:=p;rw[q] at e;dsimp only[Option.bind] at e;cases q2:jV aE r with
   |none=>rw[q2] at e;cases e
   |some o=>
    rw[q2] at e;dsimp only at e;cases q3:pT o with
    |none=>rw[q3] at e;cases e
    |some b'=>
     rw[q3] at e;cases e;refine⟨F,A,Q0,r,_,k,q,λv H' pp=>⟨_,?_,w H' pp.drop⟩⟩
     obtain⟨F1,le,eU,_⟩:=gX.res (Q:=λ_ _=>True) (o:=.Y .bh) pp (os:=[o]) (by unfold gK;rw[q2];rfl) (λ_ _ _=>i9)
     cases eU with
     |cons hs _=>obtain⟨B,hB⟩:=hs;exact Xw le hB q3
noncomputable def mh(f:GT):GT:=λQ0=>(f Q0).bind λp=>some (!p.1,p.2)
noncomputable def jy(f g:GT):GT:=λQ0=>(f Q0).bind λp=>if p.1=true then g p.2 else some (false,p.2)
noncomputable def u7(f g:GT):GT:=λQ0=>(f Q0).bind λp=>if p.1=true then some (true,p.2) else g p.2
def IS{f:GT}{h:GT}{φ:Bool->GT}(eh:∀Q0,h Q0=(f Q0).bind λp=>φ p.1 p.2){Z:St}{H:Hp}{Q:Bool->Hp->Prop}(t:iy K h Z H Q):iy K f Z H λc H1=>iy K (φ c) Z H1 Q:=by
 obtain⟨F,A,Q0,b,au,k,e,w⟩:=t;rw[eh] at e;cases q:f Q0 with
 |none=>rw[q] at e;cases e
 |some p=>
  obtain⟨c,aE⟩:=p;rw[q] at e;refine⟨F,A,Q0,c,aE,k,q,λH1 pp=>?_⟩
  obtain⟨F1,A1,x,k1,_⟩:=pp;exact⟨F1,A1,aE,b,au,k1,e,λH2 p2=>w H2 (by obtain⟨F2,A2,x2,k2,h2⟩:=p2;exact⟨F2,A2,x.trans x2,k2,h2⟩)⟩
def Fg{b:Bool}{Z:St}{H:Hp}{Q:Bool->Hp->Prop}(t:iy K (λQ0=>some (b,Q0)) Z H Q):Q b H:=by
 obtain⟨F,A,Q0,b',au,k,e,w⟩:=t;cases e;exact w H ⟨F,A,Ext.refl,k,i9⟩
def iy.mono{f:GT}{Q1 Q2:Bool->Hp->Prop}{Z:St}{H:Hp}(t:iy K f Z H Q1)(q:∀v H',Q1 v H'->Q2 v H'):iy K f Z H Q2:=by
 obtain⟨F,A,Q0,rr,au,k,e,w⟩:=t;exact⟨F,A,Q0,rr,au,k,e,λH' p=>q _ _ (w H' p)⟩
variable{ft gt:GT}{rest:List Expr}
def Gj(h:PT X a (iy K ft)):PT X (.UnaryOp .Not a pos) (iy K (mh ft)):=(Y3 h).mono λZ H Q t=>
 (IS (φ:=λc Q0=>some (!c,Q0)) (λ_=>rfl) t).mono λc H1 h=>Fg h
def BV(h:PT X a (iy K ft)):PW X (.BoolOp .And [a] pos) (iy K ft):=Xb h
def QT(h:PT X a (iy K ft)):PW X (.BoolOp .Or [a] pos) (iy K ft):=Y1 h
def zQ(ha:PT X a (iy K ft))(hb:PW X (.BoolOp .And (b::rest) pos) (iy K gt)):PW X (.BoolOp .And (a::b::rest) pos) (iy K (jy ft gt)):=(Y2 ha hb).mono λZ H Q t=>
 (IS (φ:=λc Q0=>if c=true then gt Q0 else some (false,Q0)) (λ_=>rfl) t).mono λc H1 h=>by
  cases c with
  |true=>exact q8 (by simpa using h)
  |false=>exact qZ (Fg (by simpa using h))
def RN(ha:PT X a (iy K ft))(hb:PW X (.BoolOp .Or (b::rest) pos) (iy K gt)):PW X (.BoolOp .Or (a::b::rest) pos) (iy K (u7 ft gt)):=(σ ha hb).mono λZ H Q t=>
 (IS (φ:=λc Q0=>if c=true then some (true,Q0) else gt Q0) (λ_=>rfl) t).mono λc H1 h=>by
  cases c with
  |true=>exact q8 (Fg (by simpa using h))
  |false=>exact qZ (by simpa using h)
def AQ(c:GT)(f g:GE):GE:=λQ0=>(c Q0).bind λp=>if p.1=true then f p.2 else g p.2
def Zk{f:GT}{h:GE}{φ:Bool->GE}(eh:∀Q0,h Q0=(f Q0).bind λp=>φ p.1 p.2){Z:St}{H:Hp}{Q:VK}(t:tG K h Z H Q):iy K f Z H λc H1=>tG K (φ c) Z H1 Q:=by
 obtain⟨F,A,Q0,b,au,k,e,w⟩:=t;rw[eh] at e;cases q:f Q0 with
 |none=>rw[q] at e;cases e
 |some p=>
  obtain⟨c,aE⟩:=p;rw[q] at e;refine⟨F,A,Q0,c,aE,k,q,λH1 pp=>?_⟩
  obtain⟨F1,A1,x,k1,_⟩:=pp;exact⟨F1,A1,aE,b,au,k1,e,λv H2 p2=>w v H2 (by obtain⟨F2,A2,x2,k2,h2⟩:=p2;exact⟨F2,A2,x.trans x2,k2,h2⟩)⟩
def Kt{c:Expr}{fc:GT}(hc:PT X c (iy K fc))(ha:PE X a (tG K fa))(hb:PE X b (tG K fb)):PE X (.IfExp c a b pos) (tG K (AQ fc fa fb)):=(VB hc ha hb).mono λZ H Q t=>
 (Zk (φ:=λc Q0=>if c=true then fa Q0 else fb Q0) (λ_=>rfl) t).mono λc H1 h=>by
  cases c with
  |true=>exact q8 (by simpa using h)
  |false=>exact qZ (by simpa using h)
end
def aS(A B:List ah):Prop:=∃L,A.Perm L/\L.Sublist B
theorem aS.refl(A:List ah):aS A A:=⟨A,.refl _,List.Sublist.refl _⟩
def aS.bX{A B:List ah}(p:A.Perm B):aS A B:=⟨B,p,List.Sublist.refl _⟩
def aS.bK{A B:List ah}(p:A.Sublist B):aS A B:=⟨A,.refl _,p⟩
theorem aS.trans{A B C:List ah}(x:aS A B)(y:aS B C):aS A C:=by
 obtain⟨L,p,s⟩:=x;obtain⟨M,q,t⟩:=y;obtain⟨N,n1,n2⟩:=List.exists_perm_sublist s q;exact⟨N,p.trans n1.symm,n2.trans t⟩
def aS.mem{A B:List ah}(x:aS A B):∀a∈A,a∈B:=λa m=>let ⟨_,p,s⟩:=x;s.subset (p.mem_iff.mp m)
def aS.nodup{A B:List ah}(x:aS A B)(n:B.Nodup):A.Nodup:=let ⟨_,p,s⟩:=x;p.nodup_iff.mpr (n.sublist s)
def aS.app{A B C D:List ah}(x:aS A B)(y:aS C D):aS (A++C) (B++D):=let ⟨_,p,s⟩:=x;let ⟨_,q,t⟩:=y;⟨_,p.append q,s.append t⟩
def OK.sub{K:FG}{F H:Hp}{Z Z':St}{Q0 au:Gm}{A B:List ah}(k:OK K F H Z Q0 A)(h:aj K F H Z' au B)(s:aS B A):OK K F H Z' au B/\Ext F H A F H B:=
 ⟨⟨k.le,h,s.nodup k.nd,λa m=>k.fr a (s.mem a m)⟩,Ext.jT Ext.refl s.mem⟩
inductive Fl where
 |nx|bk|ct|rt (o:O)
abbrev GS:=Gm->ai (Fl×Gm)
def Kept(m:List Bool)(Z Z':St):Prop:=∀j:Nat,m[j]?=some true->Z'[j]?=Z[j]?
def Kept.refl{m:List Bool}{Z:St}:Kept m Z Z:=λ_ _=>rfl
theorem Kept.trans{m:List Bool}{Z Z1 Z2:St}(a:Kept m Z Z1)(b:Kept m Z1 Z2):Kept m Z Z2:=λj h=>(b j h).trans (a j h)
def Kept.set{m:List Bool}{Z:St}{i:Nat}{v:ai V}(h:(m[i]? == some true)=false):Kept m Z (Z.set i v):=λj hj=>by
 by_cases e:i=j
 .subst e;rw[hj] at h;simp at h
 .rw[HE e]
def nv(K:FG)(F H:Hp)(A:List ah)(m:List Bool)(Z:St)(au:Gm)(Z':St)(H':Hp):Prop:=∃F' A',Ext F H A F' H' A'/\OK K F' H' Z' au A'/\Kept m Z Z'
def ny(K:FG)(F H:Hp)(A:List ah)(m:List Bool)(Z:St)(au:Gm)(o:O)(v:V)(Z':St)(H':Hp):Prop:=∃F' A',Ext F H A F' H' A'/\OK K F' H' (some v::Z') (some o::au) A'/\Kept m Z Z'
abbrev XW:=ah->ai ah->St->Hp->Prop
def kh:O->ai (ah×ai Int)
 |.Y (.exc C l)=>some (C,l)
 |_=>none
def qD(F:Hp)(dx:ai ah):ai Int->Prop
 |none=>dx=none
 |some n=>∃d,dx=some d/\F d=some (.xd [("line",.int n)])
def vN(K:FG)(F H:Hp)(A:List ah)(m:List Bool)(Z:St)(au:Gm)(l:ai Int)(dx:ai ah)(Z':St)(H':Hp):Prop:=∃F' A',Ext F H A F' H' A'/\OK K F' H' Z' au A'/\Kept m Z Z'/\qD F' dx l
def eE(K:FG)(m:List Bool)(D:Ends)(F H:Hp)(A:List ah)(Z:St)(o:O)(au:Gm):ai XW->Prop
 |none=>∀v Z' H',ny K F H A m Z au o v Z' H'->D.rt v H'
 |some W=>match kh o with
  |some p=>∀dx Z' H',vN K F H A m Z au p.2 dx Z' H'->W p.1 dx Z' H'
  |none=>∀v Z' H',ny K F H A m Z au o v Z' H'->D.rt v H'
def Done(K:FG)(m:List Bool)(W:ai XW)(D:Ends)(F H:Hp)(A:List ah)(Z:St):Fl->Gm->Prop
 |.nx,au=>∀Z' H',nv K F H A m Z au Z' H'->D.nx Z' H'
 |.bk,au=>∀Z' H',nv K F H A m Z au Z' H'->D.bk Z' H'
 |.ct,au=>∀Z' H',nv K F H A m Z au Z' H'->D.ct Z' H'
 |.rt o,au=>eE K m D F H A Z o au W
def tS(K:FG)(m:List Bool)(W:ai XW)(f:GS):TS:=λD Z H=>∃F A Q0 fl au,OK K F H Z Q0 A/\f Q0=some (fl,au)/\Done K m W D F H A Z fl au
def eE.imp{K:FG}{m:List Bool}{W:ai XW}{D D1:Ends}{F H F1 H1:Hp}{A A1:List ah}{Z Z1:St}{o:O}{au:Gm}(d:eE K m D F H A Z o au W)(x:Ext F H A F1 H1 A1)(kp:Kept m Z Z1)(h:∀v H,D.rt v H->D1.rt v H):eE K m D1 F1 H1 A1 Z1 o au W:=by
 have pv:(∀v Z' H',ny K F H A m Z au o v Z' H'->D.rt v H')->∀v Z' H',ny K F1 H1 A1 m Z1 au o v Z' H'->D1.rt v H':=λd v Z' H' ⟨F',A',x',k,q⟩=>h v H' (d v Z' H' ⟨F',A',x.trans x',k,kp.trans q⟩)
 cases W with
 |none=>exact pv d
 |some W=>
  unfold eE at d ⊢;cases q:kh o with
  |none=>rw[q] at d;exact pv d
  |some p=>
   rw[q] at d;exact λdx Z' H' ⟨F',A',x',k,q,r⟩=>d dx Z' H' ⟨F',A',x.trans x',k,kp.trans q,r⟩
def eE.val{K:FG}{m:List Bool}{W:ai XW}{D:Ends}{F H:Hp}{A:List ah}{Z:St}{o:O}{au:Gm}(d:eE K m D F H A Z o au W)(h:kh o=none):∀v Z' H',ny K F H A m Z au o v Z' H'->D.rt v H':=by
 cases W with
 |none=>exact d
 |some W=>unfold eE at d;rw[h] at d;exact d
def Done.step{K:FG}{m:List Bool}{W:ai XW}{D:Ends}{F H F1 H1:Hp}{A A1:List ah}{Z Z1:St}{fl:Fl}{au:Gm}(d:Done K m W D F H A Z fl au)(x:Ext F H A F1 H1 A1)(kp:Kept m Z Z1):Done K m W D F1 H1 A1 Z1 fl au:=by
 cases fl with
 |nx=>exact λZ' H' ⟨F',A',x',k,q⟩=>d Z' H' ⟨F',A',x.trans x',k,kp.trans q⟩
 |bk=>exact λZ' H' ⟨F',A',x',k,q⟩=>d Z' H' ⟨F',A',x.trans x',k,kp.trans q⟩
 |ct=>exact λZ' H' ⟨F',A',x',k,q⟩=>d Z' H' ⟨F',A',x.trans x',k,kp.trans q⟩
 |rt o=>exact eE.imp d x kp λ_ _ z=>z
section
variable{X:Cx}{K:FG}{m:List Bool}{W:ai XW}{st:Stmt}{rest sa sb:List Stmt}{e:Expr}{f g:GS}{fa:GE}{ft:GT}{pos:Pos}
def bL:GS:=λQ0=>some (.nx,Q0)
noncomputable def aU(f g:GS):GS:=λQ0=>(f Q0).bind λp=>match p.1 with
 |.nx=>g p.2
 |.bk=>some (.bk,p.2)
 |.ct=>some (.ct,p.2)
 |.rt o=>some (.rt o,p.2)
def jx:gR X [] (tS K m W bL):=qu.mono λD Z H t=>by
 obtain⟨F,A,Q0,fl,au,k,e,w⟩:=t;cases e;exact w Z H ⟨F,A,Ext.refl,k,Kept.refl⟩
def bA(h1:PS X st (tS K m W f))(h2:gR X rest (tS K m W g)):gR X (st::rest) (tS K m W (aU f g)):=(VD h1 h2).mono λD Z H t=>by
 obtain⟨F,A,Q0,fl,au,k,e,w⟩:=t;unfold aU at e;cases q:f Q0 with
 |none=>rw[q] at e;cases e
 |some p=>
  obtain⟨rF,aE⟩:=p;rw[q] at e;dsimp only[Option.bind] at e;refine⟨F,A,Q0,rF,aE,k,q,?_⟩;cases rF with
  |nx=>
   intro Z' H' ⟨F1,A1,x,k1,kp⟩;exact⟨F1,A1,aE,fl,au,k1,e,w.step x kp⟩
  |bk=>cases e;exact w
  |ct=>cases e;exact w
  |rt o=>cases e;exact w
def cu(h1:PS X st (tS K m W f)):gR X [st] (tS K m W f):=Xc h1
noncomputable def ba(f:GE):GS:=λQ0=>(f Q0).bind λp=>match p.1 with
 |.own o=>some (.rt o,p.2)
 |_=>none
def ik(h:PE X e (tG K fa)):PS X (.Return (some e) pos) (tS K m none (ba fa)):=(QI h).mono λD Z H t=>by
 obtain⟨F,A,Q0,fl,au,k,e,w⟩:=t;unfold ba at e;cases q:fa Q0 with
 |none=>rw[q] at e;cases e
 |some p=>
  obtain⟨r,aE⟩:=p;rw[q] at e;cases r with
  |var i=>cases e
  |fld i j=>cases e
  |own o=>
   cases e;exact⟨F,A,Q0,_,_,k,q,λv H' ⟨F1,A1,x,k1,_⟩=>w v Z H' ⟨F1,A1,x,k1,Kept.refl⟩⟩
def B8(f:GE):GS:=λQ0=>(f Q0).bind λp=>match p.1 with
 |.own o=>match kh o with
  |none=>some (.rt o,p.2)
  |some _=>none
 |_=>none
def Pn(h:PE X e (tG K fa)):PS X (.Return (some e) pos) (tS K m W (B8 fa)):=(QI h).mono λD Z H t=>by
 obtain⟨F,A,Q0,fl,au,k,e,w⟩:=t;obtain⟨⟨r,aE⟩,q,e⟩:=dC.mp e;cases r with
 |var i=>cases e
 |fld i j=>cases e
 |own o=>
  dsimp only at e;cases hx:kh o with
  |some p=>rw[hx] at e;cases e
  |none=>
   rw[hx] at e;cases e;exact⟨F,A,Q0,_,_,k,q,λv H' ⟨F1,A1,x,k1,_⟩=>eE.val w hx v Z H' ⟨F1,A1,x,k1,Kept.refl⟩⟩
noncomputable def cH(c:GT)(f g:GS):GS:=λQ0=>(c Q0).bind λp=>if p.1=true then f p.2 else g p.2
def ju{c:Expr}(hc:PT X c (iy K ft))(ha:gR X sa (tS K m W f))(hb:gR X sb (tS K m W g)):PS X (.If c sa sb pos) (tS K m W (cH ft f g)):=(υ hc ha hb).mono λD Z H t=>by
 obtain⟨F,A,Q0,fl,au,k,e,w⟩:=t;unfold cH at e;cases q:ft Q0 with
 |none=>rw[q] at e;cases e
 |some p=>
  obtain⟨b,aE⟩:=p;rw[q] at e;refine⟨F,A,Q0,b,aE,k,q,λH1 hh=>?_⟩
  obtain⟨F1,A1,x,k1,_⟩:=hh;cases b with
  |true=>exact q8 ⟨F1,A1,aE,fl,au,k1,e,w.step x Kept.refl⟩
  |false=>exact qZ ⟨F1,A1,aE,fl,au,k1,e,w.step x Kept.refl⟩
noncomputable def kb(f:GE):GS:=λQ0=>(f Q0).bind λp=>some (.nx,p.2)
def nh(he:PE X e (tG K fa))(hs:swapsWith e none pos.line X.env=pure false:=by rfl):PS X (.Expr e pos) (tS K m W (kb fa)):=(Pb he hs).mono λD Z H t=>by
 obtain⟨F,A,Q0,fl,au,k,e,w⟩:=t;unfold kb at e;cases q:fa Q0 with
 |none=>rw[q] at e;cases e
 |some p=>
  rw[q] at e;cases e;exact⟨F,A,Q0,p.1,p.2,k,q,λv H' pp=>by obtain⟨F1,A1,x,k1,_⟩:=pp.drop;exact w Z H' ⟨F1,A1,x,k1,Kept.refl⟩⟩
noncomputable def av(i:Nat)(f:GE):GS:=λQ0=>(f Q0).bind λp=>match p.1 with
 |.own o=>if i<p.2.length then some (.nx,p.2.set i (some o)) else none
 |_=>none
def OK.store{F H:Hp}{A:List ah}{Z:St}{Q0:Gm}{v:V}{o:O}{i:Nat}(k:OK K F H (some v::Z) (some o::Q0) A)(hi:i<Q0.length):∃B,OK K F H (Z.set i (some v)) (Q0.set i (some o)) B/\Ext F H A F H B:=by
 obtain⟨B,C,h1,h2,h3⟩:=k.os.one;obtain⟨B2,g1,C2,g2,g3⟩:=aj.put h1 i h2 hi;subst h3;exact⟨B2,k.sub g1 ((aS.bX g2).trans ((aS.refl B).app (.bK g3)))⟩
def cZ{i:Nat}{x:Str}{pos':Pos}(hN:X.N.Nodup)(hi:X.N[i]?=some x)(hx:Loc X.env.scope x)(he:PE X e (tG K fa))(hm:(m[i]? == some true)=false:=by rfl)(hs:swapsWith e (some (.Name x pos')) pos.line X.env=pure false:=by rfl)(hf:X.fn x=true\/X.env.scope.names.lookup x=some .local := by first|exact .inl rfl|exact .inr rfl):
  PS X (.Assign [.Name x pos'] e pos) (tS K m W (av i fa)):=(QK hN hi hx he hs hf).mono λD Z H t=>by
 obtain⟨F,A,Q0,fl,au,k,e,w⟩:=t;unfold av at e;cases q:fa Q0 with
 |none=>rw[q] at e;cases e
 |some p=>
  obtain⟨r,aE⟩:=p;rw[q] at e;cases r with
  |var i=>cases e
  |fld i j=>cases e
  |own o=>
   dsimp only[Option.bind] at e;split at e
   .cases e;refine⟨F,A,Q0,_,aE,k,q,λv H' hh=>?_⟩
    obtain⟨F1,A1,x,k1,_⟩:=hh;obtain⟨B,k2,x2⟩:=OK.store (Z:=Z) (Q0:=aE) k1 (by assumption)
    exact w _ H' ⟨F1,B,x.trans x2,k2,Kept.set hm⟩
   .cases e
noncomputable def gf(c:GT)(f:GS):Nat->GS
 |0=>λ_=>none
 |n+1=>λQ0=>(c Q0).bind λp=>if p.1=true then(f p.2).bind λq=>match q.1 with
   |.nx=>gf c f n q.2
   |.ct=>gf c f n q.2
   |.bk=>some (.nx,q.2)
   |.rt o=>some (.rt o,q.2)
  else some (.nx,p.2)
def zw(n:Nat){c:Expr}(hp:PassesOwn (model X.prog X.w) X.A X.env X.xe)(hc:PT X c (iy K ft))(hb:gR X sa (tS K m W f)):PS X (.While c sa [] pos) (tS K m W (gf ft f n)):=(VE hp hc hb).mono λD Z H t=>by
 obtain⟨F,A,Q0,fl,au,k,e,w⟩:=t;refine⟨λn Z H=>∃F A Q0,OK K F H Z Q0 A/\gf ft f n Q0=some (fl,au)/\Done K m W D F H A Z fl au,⟨n,F,A,Q0,k,e,w⟩,?_⟩
 rintro n Z H ⟨F,A,Q0,k,e,w⟩;cases n with
 |zero=>cases e
 |succ n=>
  unfold gf at e;cases q:ft Q0 with
  |none=>rw[q] at e;cases e
  |some p=>
   obtain⟨b,aE⟩:=p;rw[q] at e;refine⟨F,A,Q0,b,aE,k,q,λH1 hh=>?_⟩
   obtain⟨F1,A1,x,k1,_⟩:=hh;have k1:OK K F1 H1 Z aE A1:=k1;have w1:=w.step x (Kept.refl (m:=m) (Z:=Z));cases b with
   |false=>
    cases e;exact qZ (w1 Z H1 ⟨F1,A1,Ext.refl,k1,Kept.refl⟩)
   |true=>
    refine q8 ⟨λZ' H'=>∃F A Q0,OK K F H' Z' Q0 A/\gf ft f n Q0=some (fl,au)/\Done K m W D F H' A Z' fl au,λZ' H' h=>⟨n,Ez _,h⟩,?_⟩
    have e:((f aE).bind λq=>match q.1 with
      |.nx=>gf ft f n q.2
      |.ct=>gf ft f n q.2
      |.bk=>some (.nx,q.2)
      |.rt o=>some (.rt o,q.2))=some (fl,au):=e
    cases q2:f aE with
    |none=>rw[q2] at e;cases e
    |some p2=>
     obtain⟨G2,cq⟩:=p2;rw[q2] at e;dsimp only[Option.bind] at e;refine⟨F1,A1,aE,G2,cq,k1,q2,?_⟩;cases G2 with
     |nx=>exact λZ' H' ⟨F2,A2,x2,k2,kp⟩=>⟨F2,A2,cq,k2,e,w1.step x2 kp⟩
     |ct=>exact λZ' H' ⟨F2,A2,x2,k2,kp⟩=>⟨F2,A2,cq,k2,e,w1.step x2 kp⟩
     |bk=>cases e;exact w1
     |rt o=>cases e;exact w1
abbrev GG:=D->Gm->ai Gm
def fQ(K:FG)(m:List Bool)(t:TG)(g:GG):Prop:=
 ∀(F H:Hp) (Z:St) (Q0 aE:Gm) (A:List ah) (x:V) (d:D) (Q:St->Hp->Prop),OK K F H Z Q0 A->aw K F [x] [d]->g d Q0=some aE->(∀Z' A',OK K F H Z' aE A'->Ext F H A F H A'->Kept m Z Z'->Q Z' H)->t x Z H Q
noncomputable def bp(i:Nat):GG:=λd Q0=>if i<Q0.length then some (Q0.set i (some (.Y d))) else none
def fy{i:Nat}(hm:(m[i]? == some true)=false:=by rfl):fQ K m (sg i) (bp i):=by
 intro F H Z Q0 aE A x d Q k r e w;unfold bp at e;split at e
 .cases e;obtain⟨k1,x1⟩:=k.push (v:=x) (o:=.Y d) (Av:=[]) (aI.refl _) (.Y r .nil) .nil (λ_ m=>by cases m)
  obtain⟨B,k2,x2⟩:=OK.store k1 (by assumption)
  exact w _ _ k2 (x1.trans x2) (Kept.set hm)
 .cases e
noncomputable def iH:List GG->List D->Gm->ai Gm
 |[],[],Q0=>some Q0
 |g::gs,d::ds,Q0=>(g d Q0).bind λaE=>iH gs ds aE
 |_,_,_=>none
def p_(K:FG)(m:List Bool)(t:t6)(g:List GG):Prop:=
 ∀(F H:Hp) (Z:St) (Q0 aE:Gm) (A:List ah) (xs:List V) (ds:List D) (Q:St->Hp->Prop),OK K F H Z Q0 A->aw K F xs ds->iH g ds Q0=some aE->(∀Z' A',OK K F H Z' aE A'->Ext F H A F H A'->Kept m Z Z'->Q Z' H)->t xs Z H Q
def zG:p_ K m Dd []:=by
 intro F H Z Q0 aE A xs ds Q k r e w;cases ds with
 |nil=>
  cases e;cases xs with
  |nil=>exact⟨rfl,w Z A k Ext.refl Kept.refl⟩
  |cons _ _=>have:=r.length;simp at this
 |cons _ _=>cases e
def l9{t:TG}{ts:t6}{g:GG}{gs:List GG}(h1:fQ K m t g)(h2:p_ K m ts gs):p_ K m (L2.wC t ts) (g::gs):=by
 intro F H Z Q0 aE A xs ds Q k r e w;cases ds with
 |nil=>cases e
 |cons d ds=>
  cases xs with
  |nil=>have:=r.length;simp at this
  |cons x xs=>
   unfold iH at e;cases q:g d Q0 with
   |none=>rw[q] at e;cases e
   |some cq=>
    rw[q] at e;refine⟨x,xs,rfl,h1 F H Z Q0 cq A x d _ k r.inv.1 q λZ1 A1 k1 x1 kp1=>?_⟩
    exact h2 F H Z1 cq aE A1 xs ds _ k1 r.inv.2 e λZ2 A2 k2 x2 wL=>w Z2 A2 k2 (x1.trans x2) (kp1.trans wL)
def eG(gs:List GG):GG:=λd Q0=>match d with
 |.tup ds=>iH gs ds Q0
 |_=>none
theorem NV:∀{gs:List GG} {ds:List D} {Q0 aE:Gm},iH gs ds Q0=some aE->ds.length=gs.length
 |[],[],_,_,_=>rfl
 |g::gs,d::ds,Q0,aE,e=>by
  unfold iH at e;cases q:g d Q0 with
  |none=>rw[q] at e;cases e
  |some cq=>rw[q] at e;simp[NV (gs:=gs) (ds:=ds) e]
 |[],_::_,_,_,e=>by cases e
 |_::_,[],_,_,e=>by cases e
def zR{ts:t6}{gs:List GG}{n:Nat}(h:p_ K m ts gs)(hn:n=gs.length:=by rfl):fQ K m (Df K n ts) (eG gs):=by
 intro F H Z Q0 aE A x d Q k r e w;cases d with
 |tup ds=>
  have e:iH gs ds Q0=some aE:=e;cases r with
  |flat z _=>cases z
  |tup q i _=>exact⟨_,_,rfl,k.le.pP q,by rw[hn,i.length,NV e],h F H Z Q0 aE A _ ds Q k i e w⟩
 |_=>cases e
noncomputable def fM(g:GG)(f:GS):List D->GS
 |[]=>λQ0=>some (.nx,Q0)
 |d::ds=>λQ0=>(g d Q0).bind λaE=>(f aE).bind λq=>match q.1 with
   |.nx=>fM g f ds q.2
   |.ct=>fM g f ds q.2
   |.bk=>some (.nx,q.2)
   |.rt o=>some (.rt o,q.2)
def NW{t:TG}{g:GG}(tg:fQ K m t g){F H:Hp}{Z:St}{Q0 au:Gm}{A:List ah}{x:V}{d:D}{ds:List D}{fl:Fl}{E:Ends}{Pv:St->Hp->Prop}(k:OK K F H Z Q0 A)(r:aw K F [x] [d])
  (e:fM g f (d::ds) Q0=some (fl,au)) (w:Done K m W E F H A Z fl au)
  (S3:∀F1 H1 Z1 aE A1,Ext F H A F1 H1 A1->OK K F1 H1 Z1 aE A1->fM g f ds aE=some (fl,au)->Done K m W E F1 H1 A1 Z1 fl au->Pv Z1 H1):t x Z H λZ2 H2=>tS K m W f { E with nx:=Pv,ct:=Pv,bk:=E.nx} Z2 H2:=by
 unfold fM at e;cases q:g d Q0 with
 |none=>rw[q] at e;cases e
 |some aE=>
  rw[q] at e;dsimp only[Option.bind] at e;cases q2:f aE with
  |none=>rw[q2] at e;cases e
  |some p=>
   obtain⟨rF,cq⟩:=p;rw[q2] at e;dsimp only at e;refine tg F H Z Q0 aE A x d _ k r q λZ1 A1 k1 x1 kp=>⟨F,A1,aE,rF,cq,k1,q2,?_⟩
   have w1:=w.step x1 kp;cases rF with
   |nx=>exact λZ' H' ⟨F2,A2,x2,k2,wL⟩=>S3 F2 H' Z' cq A2 (x1.trans x2) k2 e (w1.step x2 wL)
   |ct=>exact λZ' H' ⟨F2,A2,x2,k2,wL⟩=>S3 F2 H' Z' cq A2 (x1.trans x2) k2 e (w1.step x2 wL)
   |bk=>cases e;exact w1
   |rt o=>cases e;exact w1
def VW{g:GG}{F H:Hp}{Z:St}{Q0 au:Gm}{A:List ah}{fl:Fl}{E:Ends}(k:OK K F H Z Q0 A)(e:fM g f [] Q0=some (fl,au))(w:Done K m W E F H A Z fl au):E.nx Z H:=by
 cases e;exact w Z H ⟨F,A,Ext.refl,k,Kept.refl⟩
def eI(it:GE)(g:GG)(f:GS):GS:=λQ0=>(ax it Q0).bind λp=>match p.1 with
 |.own (.Y (.lst ds))=>fM g f ds p.2
 |_=>none
def B9(it:GE)(g:GG)(f:GS):GS:=λQ0=>(ax it Q0).bind λp=>match p.1 with
 |.own (.Y (.tup ds))=>fM g f ds p.2
 |_=>none
variable{tg iter:Expr}{t:TG}{gg:GG}{body:List Stmt}
def LI(K:FG)(m:List Bool)(W:ai XW)(gg:GG)(f:GS)(E:Ends)(F1:Hp)(fl:Fl)(au:Gm)(ds:List D)(i:Nat)(Z:St)(H:Hp):Prop:=∃F A Q0,OK K F H Z Q0 A/\fM gg f (ds.drop i) Q0=some (fl,au)/\Done K m W E F H A Z fl au/\aI F1 F
section
variable{F1 H1:Hp}{Z:St}{ds:List D}{i:Nat}{E:Ends}{fl:Fl}{au:Gm}
def LI.same(p:LI K m W gg f E F1 fl au ds i Z H1):aI F1 H1:=by
 obtain⟨F',A',m_,k',e',w',s'⟩:=p;exact s'.trans k'.le
def LI.turn(p:LI K m W gg f E F1 fl au ds i Z H1)(ht:fQ K m t gg){x:V}{d:D}(hd:ds[i]?=some d)(r:aw K F1 [x] [d]):t x Z H1 λZ2 H2=>tS K m W f { E with nx:=LI K m W gg f E F1 fl au ds (i+1),ct:=LI K m W gg f E F1 fl au ds (i+1),bk:=E.nx} Z2 H2:=by
 obtain⟨F',A',m_,k',e',w',s'⟩:=p;obtain⟨hi,he⟩:=jX.mp hd;rw[HI hi,he] at e';exact NW ht k' (r.mono s') e' w' λF2 H2 Z2 cq A2 x2 k2 e2 w2=>⟨F2,A2,cq,k2,e2,w2,s'.trans x2.ff⟩
def LI.step(p:LI K m W gg f E F1 fl au ds i Z H1)(ht:fQ K m t gg){ws:List V}(ri:aw K F1 ws ds){x:V}(hx:ws[i]?=some x):t x Z H1 λZ2 H2=>tS K m W f { E with nx:=LI K m W gg f E F1 fl au ds (i+1),ct:=LI K m W gg f E F1 fl au ds (i+1),bk:=E.nx} Z2 H2:=by
 have hi:i<ds.length:=by rw[<-ri.length];exact(jX.mp hx).1
 obtain⟨x2,sP,rx⟩:=ri.get (km hi);rw[hx] at sP;cases sP;exact p.turn ht (km hi) rx
def LI.fin(p:LI K m W gg f E F1 fl au ds i Z H1)(h:ds.length<=i):E.nx Z H1:=by
 obtain⟨F',A',m_,k',e',w',s'⟩:=p;rw[MQ h] at e';exact VW k' e' w'
def LI.start{F H:Hp}{A A1:List ah}{v:V}{d:D}{aE:Gm}(k1:OK K F1 H1 (some v::Z) (some (.Y d)::aE) A1)(x:Ext F H A F1 H1 A1)(w:Done K m W E F H A Z fl au)(e:fM gg f ds aE=some (fl,au)):aw K F1 [v] [d]/\LI K m W gg f E F1 fl au ds 0 Z H1:=by
 obtain⟨B,C,h1,h2,h3⟩:=aj.one (Z:=Z) (Q0:=aE) k1.os;subst h3;cases h1 with
 |Y rp tl=>exact⟨rp,F1,_,aE,(k1.sub h2 (.bK (oG _ _))).1,e,w.step (x.jT λa m=>iB _ m) Kept.refl,aI.refl _⟩
def Po{α:Type}{φ:List D->Gm->ai α}{z:α}{Q0:Gm}(e:((ax fa Q0).bind λp=>match p.1 with|.own (.Y (.lst ds))=>φ ds p.2|_=>none)=some z):∃ds aE,ax fa Q0=some (.own (.Y (.lst ds)),aE)/\φ ds aE=some z:=by
 obtain⟨⟨r,aE⟩,q,e⟩:=dC.mp e;dsimp only at e;split at e
 .exact⟨_,aE,q,e⟩
 .cases e
def Jx{v:V}(h:aw K F1 [v] [.lst ds]):∃a ws,v=.ref a/\Rd F1 a (.lst ws)/\aw K F1 ws ds:=by
 cases h with
 |flat z _=>cases z
 |@lst a ws vs es KH sq ri _=>exact⟨a,ws,rfl,sq,ri⟩
end
def rU(hp:PassesOwn (model X.prog X.w) X.A X.env X.xe)(hi:PE X iter (tG K fa))(hg:PG X tg t)(ht:fQ K m t gg)(hb:gR X body (tS K m W f))(hc:X.calm=true:=by rfl)(hK:X.K=K:=by rfl)(hs:∀x,foldedSetIterable iter X.env x=pure x:=by intro _;rfl):PS X (.For tg iter body [] pos) (tS K m W (eI fa gg f)):=by
 subst hK;refine(xU hp hc (Pc (bQ hi)) hg hb hs).mono λD Z H tt=>?_
 obtain⟨F,A,Q0,fl,au,k,e,w⟩:=tt;obtain⟨ds,aE,q,e⟩:=Po (φ:=λds Q0=>fM gg f ds Q0) e
 refine⟨F,A,Q0,_,aE,k,q,λv H1 pp=>?_⟩
 obtain⟨F1,A1,x,k1,_⟩:=pp;obtain⟨rp,st⟩:=LI.start k1 x w e;obtain⟨a,ws,rfl,sq,ri⟩:=Jx rp;exact⟨a,rfl,⟨ws,.inl (k1.le.rd sq)⟩,VF (xs:=ws) (LI X.K m W gg f D F1 fl au ds) st (λi Z' H' _ p=>.inl (p.same.rd sq)) (λi x' Z' H' hx p=>p.step ht ri hx) λZ' H' p=>p.fin (by rw[ri.length];exact c7 _)⟩
def Xx(hp:PassesOwn (model X.prog X.w) X.A X.env X.xe)(hi:PE X iter (tG K fa))(hg:PG X tg t)(ht:fQ K m t gg)(hb:gR X body (tS K m W f))(hc:X.calm=true:=by rfl)(hK:X.K=K:=by rfl)(hs:∀x,foldedSetIterable iter X.env x=pure x:=by intro _;rfl):PS X (.For tg iter body [] pos) (tS K m W (B9 fa gg f)):=by
 subst hK;refine(xU hp hc (Y7 (bQ hi)) hg hb hs).mono λD Z H tt=>?_
 obtain⟨F,A,Q0,fl,au,k,e,w⟩:=tt;unfold B9 at e;obtain⟨⟨r,aE⟩,q,e⟩:=dC.mp e;dsimp only at e;split at e
 .rename_i ds
  refine⟨F,A,Q0,_,aE,k,q,λv H1 pp=>?_⟩
  obtain⟨F1,A1,x,k1,_⟩:=pp;obtain⟨rp,st⟩:=LI.start k1 x w e;cases rp with
  |flat z _=>cases z
  |@tup a ws vs es KH sq ri _=>exact⟨a,rfl,⟨ws,k1.le.pP sq⟩,Xe (xs:=ws) (LI X.K m W gg f D F1 fl au ds) st (λi Z' H' _ p=>p.same.pP sq) (λi x' Z' H' hx p=>p.step ht ri hx) λZ' H' p=>p.fin (by rw[ri.length];exact c7 _)⟩
 .cases e
end
noncomputable def hX(lo:Int)(n:Nat):List D:=(List.range n).map λ(k:Nat)=>D.int (lo+(k:Int))
def M8{α:Type}(h:Nat->α){i n:Nat}(hi:i<n):((List.range n).map h).drop i=h i::((List.range n).map h).drop (i+1):=by
 have e:i<((List.range n).map h).length:=by simpa using hi
 rw[HI e];simp
noncomputable def jR:List R->ai Int
 |[.own (.Y (.int j))]=>if Nat.ble j.natAbs 1000000000000=true then some j else none
 |_=>none
noncomputable def lV:List R->ai (Int×Int)
 |[.own (.Y (.int i)),.own (.Y (.int j))]=>if Nat.ble i.natAbs 1000000000000=true/\Nat.ble j.natAbs 1000000000000=true then some (i,j) else none
 |_=>none
def OF{rs:List R}{j:Int}(e:jR rs=some j):rs=[.own (.Y (.int j))] /\ -(2^62)<=j/\j<2^62:=by
 unfold jR at e;split at e
 .split at e
  .rename_i h
   have h:=Nat.le_of_ble_eq_true h;cases e;exact⟨rfl,by lia,by lia⟩
  .cases e
 .cases e
def OG{rs:List R}{p:Int×Int}(e:lV rs=some p):rs=[.own (.Y (.int p.1)),.own (.Y (.int p.2))] /\ -(2^62)<=p.1/\p.1<2^62 /\ -(2^62)<=p.2/\p.2<2^62:=by
 unfold lV at e;split at e
 .split at e
  .rename_i h
   have h1:=Nat.le_of_ble_eq_true h.1;have h2:=Nat.le_of_ble_eq_true h.2;cases e;exact⟨rfl,by lia,by lia,by lia,by lia⟩
  .cases e
 .cases e
def BW{j:Int}(h:j.natAbs<=1000000):jR [.own (.Y (.int j))]=some j:=by
 unfold jR;dsimp only;rw[aT (Nat.ble_eq_true_of_le (by lia))]
def BK(fs:GA)(g:GG)(f:GS):GS:=λQ0=>(fs Q0).bind λp=>(jR p.1).bind λj=>fM g f (hX 0 j.toNat) p.2
def IT(fs:GA)(g:GG)(f:GS):GS:=λQ0=>(fs Q0).bind λp=>(lV p.1).bind λj=>fM g f (hX j.1 (j.2 - j.1).toNat) p.2
section
variable{X:Cx}{K:FG}{m:List Bool}{W:ai XW}{f:GS}{fa:GE}{fs:GA}{pos p:Pos}{tg a b c:Expr}{t:TG}{gg:GG}{body:List Stmt}
def t_{F H:Hp}{Z:St}{Q0:Gm}{A:List ah}{v:V}{i:Int}(h:aj K F H (some v::Z) (some (.Y (.int i))::Q0) A):v=.int i/\aj K F H Z Q0 A:=by
 cases h with
 |Y r t=>
  cases r with
  |flat e _=>cases e;exact⟨rfl,t⟩
theorem GQ{α:Type}:∀{l:List α},1=l.length->∃a,l=[a]
 |[a],_=>⟨a,rfl⟩
theorem Ku{α:Type}:∀{l:List α},2=l.length->∃a b,l=[a,b]
 |[a,b],_=>⟨a,b,rfl⟩
theorem ω{α:Type}:∀{l:List α},3=l.length->∃a b c,l=[a,b,c]
 |[a,b,c],_=>⟨a,b,c,rfl⟩
def LI.ints{F1 H1:Hp}{Z:St}{E:Ends}{fl:Fl}{au aE:Gm}{F H:Hp}{A A1:List ah}{τ:St}{Θ:Gm}{ds:List D}(k1:OK K F1 H1 τ Θ A1)(h:aj K F1 H1 Z aE A1)(x:Ext F H A F1 H1 A1)(w:Done K m W E F H A Z fl au)(e:fM gg f ds aE=some (fl,au)):LI K m W gg f E F1 fl au ds 0 Z H1:=
 ⟨F1,A1,aE,(k1.sub h (aS.refl _)).1,e,w.step x Kept.refl,aI.refl _⟩
def QU{g:Nat->D}{n i:Nat}(h:i<n):((List.range n).map g)[i]?=some (g i):=by rw[lC,MS h];rfl
def Ip(hp:PassesOwn (model X.prog X.w) X.A X.env X.xe)(hm:X.mg "range"=none)(ha:PA X [a] (jW K fs))(hg:PG X tg t)(ht:fQ K m t gg)(hb:gR X body (tS K m W f))(hc:X.calm=true:=by rfl)(yt:Gl X "range":=by rfl)
  (hs:starEach [a] X.env=[(false,eval a X.env)]:=by rfl) (hf:∀x,foldedSetIterable (.Call (.Name "range" p) [a] [] pos) X.env x=pure x:=by intro _;rfl) {fp:Pos}:PS X (.For tg (.Call (.Name "range" p) [a] [] pos) body [] fp) (tS K m W (BK fs gg f)):=by
 refine(xU hp hc (Im yt hm ha hs) hg hb hf).mono λD Z H tt=>?_
 obtain⟨F,A,Q0,fl,au,k,e,w⟩:=tt;obtain⟨⟨rs,aE⟩,q,e⟩:=dC.mp e;obtain⟨j,q2,e⟩:=dC.mp e;obtain⟨hj,hb⟩:=OF q2;subst hj;refine⟨F,A,Q0,_,aE,k,q,λvs H1 pp=>?_⟩
 obtain⟨F1,A1,x,k1,hh⟩:=pp;obtain⟨v,rfl⟩:=GQ hh.length;obtain⟨rfl,h2⟩:=t_ (Z:=Z) (Q0:=aE) k1.os;exact⟨j,rfl,hb.1,hb.2,NN (LI K m W gg f D F1 fl au (hX 0 j.toNat)) (.ints k1 h2 x w e) (λi Z' H' hi p=>p.turn ht (QU hi) (.flat rfl .nil)) λZ' H' p=>p.fin (by simp[hX])⟩
def UO(hp:PassesOwn (model X.prog X.w) X.A X.env X.xe)(hm:X.mg "range"=none)(ha:PA X [a,b] (jW K fs))(hg:PG X tg t)(ht:fQ K m t gg)(hb:gR X body (tS K m W f))(hc:X.calm=true:=by rfl)(yt:Gl X "range":=by rfl)
  (hs:starEach [a,b] X.env=[(false,eval a X.env),(false,eval b X.env)]:=by rfl) (Hc:starEach [b] X.env=[(false,eval b X.env)]:=by rfl) (hf:∀x,foldedSetIterable (.Call (.Name "range" p) [a,b] [] pos) X.env x=pure x:=by intro _;rfl) {fp:Pos} :
  PS X (.For tg (.Call (.Name "range" p) [a,b] [] pos) body [] fp) (tS K m W (IT fs gg f)):=by
 refine(xU hp hc (NM yt hm ha hs Hc) hg hb hf).mono λD Z H tt=>?_
 obtain⟨F,A,Q0,fl,au,k,e,w⟩:=tt;obtain⟨⟨rs,aE⟩,q,e⟩:=dC.mp e;obtain⟨⟨i0,j⟩,q2,e⟩:=dC.mp e;obtain⟨hj,hb⟩:=OG q2;subst hj;refine⟨F,A,Q0,_,aE,k,q,λvs H1 pp=>?_⟩
 obtain⟨F1,A1,x,k1,hh⟩:=pp;obtain⟨v,v',rfl⟩:=Ku hh.length;obtain⟨rfl,h1⟩:=t_ (Z:=some v'::Z) (Q0:=some (.Y (.int j))::aE) k1.os;obtain⟨rfl,h2⟩:=t_ (Z:=Z) (Q0:=aE) h1;exact⟨i0,j,rfl,hb,NN (LI K m W gg f D F1 fl au (hX i0 (j - i0).toNat)) (.ints k1 h2 x w e) (λi Z' H' hi p=>p.turn ht (QU hi) (.flat rfl .nil)) λZ' H' p=>p.fin (by simp[hX])⟩
end
abbrev GM:=List O->ai (O×Gm)
def vM(K:FG)(F H:Hp)(A:List ah)(vs:List V)(fin:Gm)(o:O)(v:V)(H':Hp):Prop:=∃F' A',Ext F H A F' H' A'/\OK K F' H' (some v::vs.map some) (some o::fin) A'
def gP(K:FG)(n:Nat)(M:GM):Sp:=λvs H Q _=>vs.length=n/\∃F A os o fin,OK K F H (vs.map some) (os.map some) A/\M os=some (o,fin)/\∀v H',vM K F H A vs fin o v H'->Q v H'
noncomputable def gE:List Bool->Gm->Gm
 |true::m,x::Q0=>x::gE m Q0
 |false::m,_::Q0=>none::gE m Q0
 |[],_::Q0=>none::gE [] Q0
 |_,[]=>[]
def Fl.val:Fl->ai O
 |.rt o=>some o
 |.nx=>some (.Y .bh)
 |_=>none
def runM(n:Nat)(m:List Bool)(f:GS):GM:=λos=>(f (os.map some++List.replicate (n - os.length) none)).bind λp=>p.1.val.bind λo=>if p.2.length=n then some (o,gE m (p.2.take os.length)) else none
section
variable{K:FG}{F H:Hp}{Z:St}{Q0:Gm}{A:List ah}
theorem EZ:∀n:Nat,aj K F H (List.replicate n none) (List.replicate n none) []
 |0=>.nil
 |n+1=>.skip (EZ n)
theorem IU:∀{m:List Bool} {vs:List V} {Z':St} {Q0:Gm} {B:List ah},aj K F H Z' Q0 B->Z'.length=vs.length->(∀j:Nat,m[j]?=some true->Z'[j]?=(vs.map some)[j]?)->∃C,aj K F H (vs.map some) (gE m Q0) C/\C.Sublist B
 |m,[],[],[],B,h,_,_=>by
  cases m with
  |nil=>exact⟨B,h,List.Sublist.refl _⟩
  |cons b m=>cases b <;> exact⟨B,h,List.Sublist.refl _⟩
 |m,v::vs,x::Z',y::Q0,B,h,hl,hk=>by
  obtain⟨B1,B2,h1,h2,h3⟩:=h.one;subst h3;have AY:Z'.length=vs.length:=by simpa using hl
  cases m with
  |nil=>
   obtain⟨C,g1,g2⟩:=IU (m:=[]) h2 AY (λj hj=>by simp at hj)
   exact⟨C,.skip g1,g2.trans (oG _ _)⟩
  |cons b m=>
   obtain⟨C,g1,g2⟩:=IU (m:=m) h2 AY (λj hj=>by simpa using hk (j+1) (by simpa using hj))
   cases b with
   |false=>exact⟨C,.skip g1,g2.trans (oG _ _)⟩
   |true=>
    have hx:x=some v:=by simpa using hk 0 rfl
    subst hx;exact⟨B1++C,h1.app g1,g2.append_left _⟩
 |_,[],_::_,_,_,_,hl,_=>by simp at hl
 |_,_::_,[],_,_,_,hl,_=>by simp at hl
 |_,[],[],_::_,_,h,_,_=>by have:=h.length;simp at this
 |_,_::_,_::_,[],_,h,_,_=>by have:=h.length;simp at this
def OK.params{m:List Bool}{vs:List V}{Z':St}{au:Gm}{v:V}{o:O}{rest:St}(k:OK K F H (some v::Z') (some o::au) A)(hl:vs.length<=Z'.length)(kp:Kept m (vs.map some++rest) Z')(hm:m.length<=vs.length):
  ∃B,OK K F H (some v::vs.map some) (some o::gE m (au.take vs.length)) B/\Ext F H A F H B:=by
 obtain⟨B,C,h1,h2,h3⟩:=k.os.one;subst h3;have yo:=h2.length;have e1:Z'=Z'.take vs.length++Z'.drop vs.length:=(vI _ _).symm;have e2:au=au.take vs.length++au.drop vs.length:=(vI _ _).symm;have yn:aj K F H (Z'.take vs.length++Z'.drop vs.length) (au.take vs.length++au.drop vs.length) C:=by rw[<-e1,<-e2];exact h2
 obtain⟨C1,C2,g1,g2,g3⟩:=aj.split (by rw[rg,rg];lia) yn
 subst g3;obtain⟨C3,j1,j2⟩:=IU (m:=m) (vs:=vs) g1 (by rw[rg];lia) (λj hj=>by
  have f_:j<vs.length:=by
   have:=(jX.mp hj).1;lia
  rw[List.getElem?_take_of_lt f_,kp j hj,HG (by simpa using f_)])
 exact⟨B++C3,k.sub (h1.app j1) ((aS.refl B).app (.bK (j2.trans (List.sublist_append_left _ _))))⟩
end
section
variable{P:eW}{w:df}{K:FG}{mg:Str->ai ao}{base:cL}
def UP{x qual:Str}{st:Stmt}{fa:ah}{fd:jM}{N ps:List Str}{k:Nat}(m:List Bool)(f:GS)(Fn:gL K x qual st fa fd)(S:aL N ps (dM st))(hm:m.length<=ps.length)
  (iI:∀(cQ:ao) (A:dD) (outer:List Env) (s:az) (H:Hp) (E:XK),dj k (A.deeper (envOfC qual (dM st) s.heap.objs.size fa cQ))-> gR (kc gd P w K mg base N qual (dM st) fa cQ A outer s H E).Bc (uS st) (tS K m none f)):bN P w K mg base gd (k+1) fa fd ps (gP K ps.length (runM N.length m f)):=by
 refine Fn.ok S (λvs H Q E h=>h.1) λcQ A outer s H vs Q E hr h=>⟨_,iI cQ A outer s H E hr,?_⟩
 obtain⟨hl,F,A0,os,o,fin,k0,e,q⟩:=h;have yv:vs.length=os.length:=by have:=k0.os.length;simpa using this
 have hN:ps.length<=N.length:=by have:=congrArg List.length S.pre;rw[rg] at this;lia
 unfold runM at e;cases q1:f (os.map some++List.replicate (N.length - os.length) none) with
 |none=>rw[q1] at e;cases e
 |some p=>
  obtain⟨fl,au⟩:=p;rw[q1] at e;dsimp only[Option.bind] at e;have k1:OK K F H (start N vs) (os.map some++List.replicate (N.length - os.length) none) A0:=by
   unfold start;rw[yv];have z:=k0.os.app (EZ (K:=K) (F:=F) (H:=H) (N.length - os.length));rw[j9] at z;exact⟨k0.le,z,k0.nd,k0.fr⟩
  cases q2:fl.val with
  |none=>rw[q2] at e;cases e
  |some o'=>
   rw[q2] at e;dsimp only at e;split at e
   .rename_i hlen
    cases e;refine⟨F,A0,_,fl,au,k1,q1,?_⟩;have dc:∀{F' H':Hp} {A':List ah} {v:V} {Z':St},Ext F H A0 F' H' A'->OK K F' H' (some v::Z') (some o::au) A'->Kept m (start N vs) Z'->Q v H':=by
     intro F' H' A' v Z' x k' kp;unfold start at kp;have hs:Z'.length=au.length:=by have:=k'.os.length;simpa using this
     obtain⟨B,k2,x2⟩:=OK.params (m:=m) (vs:=vs) k' (by lia) kp (by lia)
     rw[yv] at k2;exact q v H' ⟨F',B,x.trans x2,k2⟩
    cases fl with
    |nx=>
     cases q2;intro Z' H' ⟨F',A',x,k',kp⟩;obtain⟨k2,x2⟩:=k'.push (v:=.bh) (o:=.Y .bh) (Av:=[]) (aI.refl _) (.Y (.flat rfl .nil) .nil) .nil (λ_ m=>by cases m)
     exact dc (x.trans x2) k2 kp
    |rt o1=>
     cases q2;intro v Z' H' ⟨F',A',x,k',kp⟩;exact dc x k' kp
    |bk=>cases q2
    |ct=>cases q2
   .cases e
def jO{x qual:Str}{st:Stmt}{fa:ah}{fd:jM}{N ps:List Str}{k:Nat}(m:List Bool)(f:GS)(Fn:gL K x qual st fa fd)(S:aL N ps (dM st)){n pn:Nat}(hn:N.length=n)(hp:ps.length=pn)(hm:m.length<=ps.length)
  (iI:∀(cQ:ao) (A:dD) (outer:List Env) (s:az) (H:Hp) (E:XK),dj k (A.deeper (envOfC qual (dM st) s.heap.objs.size fa cQ))-> ∃f',gR (kc gd P w K mg base N qual (dM st) fa cQ A outer s H E).Bc (uS st) (tS K m none f')/\f'=f):bN P w K mg base gd (k+1) fa fd ps (gP K pn (runM n m f)):=by
 subst hn hp;exact UP m f Fn S hm λcQ A outer s H E hr=>by
  obtain⟨f',h,e⟩:=iI cQ A outer s H E hr;rw[<-e];exact h
end
noncomputable def oK:List R->Gm->ai (List O×Gm)
 |[],Q0=>some ([],Q0)
 |.own o::rs,Q0=>(oK rs Q0).bind λp=>some (o::p.1,p.2)
 |.var i::rs,Q0=>match Q0[i]? with
  |some (some o)=>(oK rs (Q0.set i none)).bind λp=>some (o::p.1,p.2)
  |_=>none
 |_::_,_=>none
noncomputable def qM:List R->Gm->Gm->Gm
 |.own _::rs,_::fin,Q0=>qM rs fin Q0
 |.var i::rs,f::fin,Q0=>(qM rs fin Q0).set i f
 |_,_,Q0=>Q0
def aJ(M:GM)(fs:GA):GE:=λQ0=>(fs Q0).bind λp=>(oK p.1 p.2).bind λq=>(M q.1).bind λr=>some (.own r.1,qM p.1 r.2 q.2)
section
variable{K:FG}{F H:Hp}{Z:St}
theorem E2:∀{rs:List R} {vs:List V} {Q0 cq:Gm} {os:List O} {B C:List ah},aj K F H (vs.map some) (rs.map R.o) B->aj K F H Z Q0 C->e8 Z H rs vs->oK rs Q0=some (os,cq)->
  ∃B' C',aj K F H (vs.map some) (os.map some) B'/\aj K F H Z cq C'/\(B'++C').Perm (B++C)
 |[],[],Q0,cq,os,B,C,h1,h2,_,e=>by cases e;exact⟨B,C,h1,h2,.refl _⟩
 |.own o::rs,v::vs,Q0,cq,os,B,C,h1,h2,hh,e=>by
  obtain⟨B1,B2,g1,g2,rfl⟩:=aj.one h1;unfold oK at e;cases q:oK rs Q0 with
  |none=>rw[q] at e;cases e
  |some p=>
   rw[q] at e;cases e;obtain⟨B',C',j1,j2,j3⟩:=E2 g2 h2 hh q;exact⟨B1++B',C',g1.app j1,j2,by rw[ie,ie];exact .append_left _ j3⟩
 |.var i::rs,v::vs,Q0,cq,os,B,C,h1,h2,hh,e=>by
  obtain⟨B1,B2,g1,g2,rfl⟩:=aj.one h1;have eB:B1=[]:=by cases g1 with|skip t=>cases t;rfl
  subst eB;unfold oK at e;cases q0:Q0[i]? with
  |none=>rw[q0] at e;cases e
  |some z=>
   cases z with
   |none=>rw[q0] at e;cases e
   |some o=>
    rw[q0] at e;dsimp only at e;cases q:oK rs (Q0.set i none) with
    |none=>rw[q] at e;cases e
    |some p=>
     rw[q] at e;cases e;obtain⟨v',Ai,C1,k1,k2,k3,k4⟩:=h2.take q0;rw[hh.1] at k1;cases k1;obtain⟨B',C',j1,j2,j3⟩:=E2 g2 k3 hh.2 q;refine⟨Ai++B',C',k2.app j1,j2,?_⟩;rw[ie,ig];refine(List.Perm.append_left Ai j3).trans ?_;rw[<-ie];refine(List.Perm.append_right C1 qA).trans ?_;rw[ie];exact .append_left _ k4.symm
 |[],_::_,_,_,_,_,_,_,_,h,_=>h.elim
 |.own _::_,[],_,_,_,_,_,_,_,h,_=>h.elim
 |.var _::_,[],_,_,_,_,_,_,_,h,_=>h.elim
theorem Fh:∀{rs:List R} {vs:List V} {fin Q0:Gm} {B C:List ah},aj K F H (vs.map some) fin B->aj K F H Z Q0 C->e8 Z H rs vs->∃D,aj K F H Z (qM rs fin Q0) D/\aS D (B++C)
 |[],[],fin,Q0,B,C,h1,h2,_=>by
  cases h1;exact⟨C,h2,.bK (oG _ _)⟩
 |.own o::rs,v::vs,[],Q0,B,C,h1,h2,hh=>by have:=h1.length;simp at this
 |.var i::rs,v::vs,[],Q0,B,C,h1,h2,hh=>by have:=h1.length;simp at this
 |.own o::rs,v::vs,f::fin,Q0,B,C,h1,h2,hh=>by
  obtain⟨B1,B2,g1,g2,rfl⟩:=aj.one h1;obtain⟨D,j1,j2⟩:=Fh g2 h2 hh;exact⟨D,j1,j2.trans (by rw[ie];exact .bK (oG _ _))⟩
 |.var i::rs,v::vs,f::fin,Q0,B,C,h1,h2,hh=>by
  obtain⟨B1,B2,g1,g2,rfl⟩:=aj.one h1;obtain⟨D,j1,j2⟩:=Fh g2 h2 hh.2;cases f with
  |none=>
   obtain⟨D',k1,k2⟩:=aj.forget i j1;exact⟨D',k1,(aS.bK k2).trans (j2.trans (by rw[ie];exact .bK (oG _ _)))⟩
  |some o=>
   have hi:i<(qM rs fin Q0).length:=by
    rw[<-j1.length];exact(jX.mp hh.1).1
   obtain⟨D',k1,C',k2,k3⟩:=aj.put g1 i j1 hi;rw[xA hh.1] at k1;refine⟨D',k1,(aS.bX k2).trans ?_⟩;rw[ie];exact(aS.refl B1).app ((aS.bK k3).trans j2)
 |.fld _ _::_,_,[],_,_,C,_,h2,_=>⟨C,h2,.bK (oG _ _)⟩
 |.fld _ _::_,_,_::_,_,_,C,_,h2,_=>⟨C,h2,.bK (oG _ _)⟩
 |[],_::_,_,_,_,_,_,_,h=>h.elim
 |.own _::_,[],_,_,_,_,_,_,h=>h.elim
 |.var _::_,[],_,_,_,_,_,_,h=>h.elim
end
section
variable{X:Cx}{K:FG}{k n:Nat}{f:ah}{fd:jM}{ps:List Str}{x:Str}{p pos:Pos}{e:Expr}{es:List Expr}{fs:GA}{st:Stmt}{M:GM}
def Xy{Z:St}{H:Hp}{Q:VK}(t:tG K (aJ M fs) Z H Q)(hn:∀rs Q0 au,fs Q0=some (rs,au)->rs.length=n):oE (gP K n M) [] E1 (jW K fs) Z H Q:=by
 obtain⟨F,A,Q0,rr,au,k,e,w⟩:=t;unfold aJ at e;cases q:fs Q0 with
 |none=>rw[q] at e;cases e
 |some pr=>
  obtain⟨rs,aE⟩:=pr;rw[q] at e;dsimp only[Option.bind] at e;cases q2:oK rs aE with
  |none=>rw[q2] at e;cases e
  |some pr2=>
   obtain⟨os,cq⟩:=pr2;rw[q2] at e;dsimp only at e;cases q3:M os with
   |none=>rw[q3] at e;cases e
   |some pr3=>
    obtain⟨o,fin⟩:=pr3;rw[q3] at e;cases e;refine⟨F,A,Q0,rs,aE,k,q,λvs H1 pp=>?_⟩
    show gP K n M (vs++[]) H1 Q E0;rw[j9];obtain⟨F1,A1,x,k1,hh⟩:=pp;have hl:(vs.map some).length=(rs.map R.o).length:=by rw[bY,bY,hh.length]
    obtain⟨B,C,h1,h2,h3⟩:=aj.split hl k1.os;subst h3;obtain⟨B',C',j1,j2,j3⟩:=E2 h1 h2 hh q2;have k2:OK K F1 H1 (vs.map some++Z) (os.map some++cq) (B'++C'):=.perm (j1.app j2) k1.le k1.nd k1.fr j3;obtain⟨A3,p3,k3⟩:=k2.swap j1.length;obtain⟨A4,k4,fr⟩:=k3.frame j2.length;refine⟨by rw[<-hh.length];exact hn rs Q0 aE q,F1,A4,os,o,fin,k4,q3,λv H' pc=>w v H' ?_⟩
    obtain⟨F5,A5,x5,k5⟩:=pc;obtain⟨A6,x6,k6⟩:=fr _ _ _ _ _ x5 k5;obtain⟨D1,D2,g1,g2,g3⟩:=aj.split j2.length k6.os;subst g3;obtain⟨D3,D4,g4,g5,g6⟩:=g2.one;subst g6;obtain⟨D5,g7,g8⟩:=Fh g5 g1 (hh.kP x6.kP);have s1:aS (D3++D5) (D1++(D3++D4)):=by
     refine((aS.refl D3).app g8).trans (.bX ?_);rw[<-ie];exact qA
    obtain⟨k7,x7⟩:=k6.sub (Z':=some v::Z) (au:=some o::qM rs fin cq) (g4.app g7) s1;have x3:Ext F1 H1 (B++C) F1 H1 A3:=Ext.jT Ext.refl λa m=>j3.mem_iff.mp (p3.mem_iff.mp m)
    exact⟨F5,D3++D5,((x.trans x3).trans x6).trans x7,k7,i9⟩
def eP:∀rs Q0 au,gN Q0=some (rs,au)->rs.length=0:=λrs Q0 au e=>by cases e;rfl
def bq{f:GE}{g:GA}{n:Nat}(h:∀rs Q0 au,g Q0=some (rs,au)->rs.length=n):∀rs Q0 au,aq f g Q0=some (rs,au)->rs.length=n+1:=λrs Q0 au e=>by
 obtain⟨r,aE,Mj,_,e2,rfl⟩:=Nn e;simp[h _ _ _ e2]
def fR(D:bU X.K X.mg x st f fd ps)(Fn:bN X.prog X.w X.K X.mg X.base gd k f fd ps (gP K n M))(hr:dj k X.A)(ha:PA X (e::es) (jW K fs))(hn:∀rs Q0 au,fs Q0=some (rs,au)->rs.length=n)(hg:Gl X x:=by rfl)(lT:(x == ("__debug__":Str))=false:=by decide)
  (he:starEach (e::es) X.env=(false,eval e X.env)::starEach es X.env:=by rfl) (iW:(backTo pos (starEach es X.env)).any (·.1)=false:=by rfl) :
  PE X (.Call (.Name x p) (e::es) [] pos) (tG K (aJ M fs)):=(wU D Fn hr ha hg lT he iW).mono λ_ _ _ t=>Xy t hn
end
noncomputable def kd:List O->ai (List D)
 |[]=>some []
 |.Y d::os=>(kd os).bind λds=>some (d::ds)
 |_::_=>none
def dz:O->ai (List D)
 |.Y (.lst ds)=>some ds
 |.Y (.fG ns)=>some (ns.map .int)
 |.lst os=>kd os
 |_=>none
def tW:O->ai (List D)
 |.Y (.tup ds)=>some ds
 |.tup os=>kd os
 |_=>none
theorem zA:∀ds:List D,kd (ds.map .Y)=some ds
 |[]=>rfl
 |d::ds=>by rw[c_,kd,zA ds];rfl
theorem pe:∀ds:List D,O.dl (ds.map .Y)=ds
 |[]=>rfl
 |d::ds=>by rw[c_,O.dl,pe ds];rfl
section
variable{K:FG}{F H:Hp}{x y v:V}{o:O}{B:List ah}{ds:List D}{d:D}{ws:List V}
theorem IV:∀{ws:List V} {os:List O} {ds:List D} {B:List ah},aj K F H (ws.map some) (os.map some) B->kd os=some ds->aw K F ws ds
 |[],[],_,_,_,e=>by cases e;exact .nil
 |w::ws,o::os,ds,B,h,e=>by
  obtain⟨B1,B2,h1,h2,_⟩:=aj.one h;cases o with
  |Y d=>
   unfold kd at e;cases q:kd os with
   |none=>rw[q] at e;cases e
   |some KH=>
    rw[q] at e;cases e;cases h1 with
    |Y r _=>exact .cons r (IV h2 q)
  |_=>cases e
 |[],_::_,_,_,h,_=>by have:=h.length;simp at this
 |_::_,[],_,_,h,_=>by have:=h.length;simp at this
theorem Fi:∀{ws:List V} {ds:List D},aw K F ws ds->aj K F H (ws.map some) ((ds.map .Y).map some) []
 |[],[],_=>.nil
 |w::ws,d::ds,h=>.Y h.inv.1 (Fi h.inv.2)
 |[],_::_,h=>by have:=h.length;simp at this
 |_::_,[],h=>by have:=h.length;simp at this
theorem IW:∀ns:List Int,aw K F (ns.map V.int) (ns.map D.int)
 |[]=>.nil
 |n::ns=>.flat rfl (IW ns)
def vT(le:aI F H)(h:aj K F H [some x] [some o] B)(e:dz o=some ds):∃a ws,x=.ref a/\dH K H a ws/\aw K F ws ds:=by
 cases h with
 |@Y _ d _ _ _ r _=>
  cases r with
  |lst q i _=>cases e;exact⟨_,_,rfl,.inl (le.rd q),i⟩
  |exc _ _=>cases e
  |obj _=>cases e
  |fG q _=>cases e;exact⟨_,_,rfl,le.seq q,IW _⟩
  |flat q _=>cases d <;> first|(cases q;done)|cases e
  |tup _ _ _=>cases e
  |aF _ _ _ _ _=>cases e
 |lst q i _=>exact⟨_,_,rfl,dH.of q,IV i e⟩
 |tup _ _ _=>cases e
 |aF _ _ _ _ _=>cases e
 |ins _ _ _ _ _=>cases e
def FH(le:aI F H)(h:aj K F H [some x] [some o] B)(e:tW o=some ds):∃a ws,x=.ref a/\gY K H a ws/\aw K F ws ds:=by
 cases h with
 |@Y _ d _ _ _ r _=>
  cases r with
  |tup q i _=>cases e;exact⟨_,_,rfl,le.pP q,i⟩
  |fG q _=>cases e
  |exc _ _=>cases e
  |obj _=>cases e
  |flat q _=>cases d <;> first|(cases q;done)|cases e
  |lst _ _ _=>cases e
  |aF _ _ _ _ _=>cases e
 |tup q i _=>exact⟨_,_,rfl,gY.of q,IV i e⟩
 |lst _ _ _=>cases e
 |aF _ _ _ _ _=>cases e
 |ins _ _ _ _ _=>cases e
def jw(h:aj K F H [some x] [some (.Y d)] B)(e:nI d=some v):x=v:=by
 cases h with
 |Y r _=>
  cases r with
  |flat q _=>rw[e] at q;exact(Option.some.inj q).symm
  |lst _ _ _=>cases e
  |tup _ _ _=>cases e
  |aF _ _ _ _ _=>cases e
  |fG _ _=>cases e
  |exc _ _=>cases e
  |obj _=>cases e
def o9(le:aI F H)(h:aj K F H [some x] [some o] B):aw K H [x] [o.d]:=h.rep le (λ_ _ _ e=>e) [x] [o] rfl rfl
theorem Res.lst{Q:VK}(h:Res K F H (.lst (ds.map .Y)) Q)(r:aw K F ws ds){l:ah}(hn:H l=none):Q (.ref l) (upd H l (.lst ws)):=
 h (.ref l) _ ([l]++[]++[]) (l7 hn) (.lst iQ (Fi r) .nil) (by simp) (λa m=>by simp at m;rw[m];exact hn)
theorem Res.tup{Q:VK}(h:Res K F H (.tup (ds.map .Y)) Q)(r:aw K F ws ds){l:ah}(hn:H l=none):Q (.ref l) (upd H l (.tup ws)):=
 h (.ref l) _ ([l]++[]++[]) (l7 hn) (.tup iQ (Fi r) .nil) (by simp) (λa m=>by simp at m;rw[m];exact hn)
def mM.one{o:O}{vs:List V}(h:mM K F H vs [o]):∃x B,vs=[x]/\aj K F H [some x] [some o] B:=by
 cases h with
 |cons a t=>cases t;obtain⟨B,a⟩:=a;exact⟨_,B,rfl,a⟩
def mM.two{o o':O}{vs:List V}(h:mM K F H vs [o,o']):∃x y B C,vs=[x,y]/\aj K F H [some x] [some o] B/\aj K F H [some y] [some o'] C:=by
 cases h with
 |cons a t=>cases t with
  |cons b t=>cases t;obtain⟨B,a⟩:=a;obtain⟨C,b⟩:=b;exact⟨_,_,B,C,rfl,a,b⟩
end
section
variable{X:Cx}
def tI(K:FG):R2:=λx y H Q=>∃l b xs zs,x=.ref l/\y=.ref b/\dH K H l xs/\dH K H b zs/\xs.length+zs.length<=sizeLine/\∀p,H p=none->Q (.ref p) (upd H p (.lst (xs++zs)))
def Xz:gM X (binaryOp .Add) (tI X.K):=by
 intro aa s Z H x y v u Q I rx ry h;obtain⟨l,b,xs,zs,rfl,rfl,hH,hB,hz,q⟩:=h;cases rx;cases ry;obtain⟨aH,r,pl,_⟩:=I.list hH;obtain⟨kj,r2,Mf,_⟩:=I.list hB;have hl:=r.length;have Lx:=r2.length;obtain⟨⟨cls,dd,data,sl⟩,ho,hc,n,hd⟩:=id pl.isList;obtain⟨⟨Ko,wk,data2,Ht⟩,yx,Dm,n2,hd2⟩:=id Mf.isList;simp only at hc hd Dm hd2;subst hc hd Dm hd2;have ea:aH.toArray++kj.toArray=(aH++kj).toArray:=by simp
 refine concat_meets ⟨_,ho,rfl⟩ ⟨_,yx,rfl⟩ noFill_list_add seq_list_add PySem.F.slot_list_add PySem.F.entry_list_add (PySem.F.args_list_add_2 _ _) (list_addW l b aH.toArray kj.toArray n n2 dd wk sl Ht (by simp only[fP];lia)) ⟨ho,yx,?_⟩
 rw[ea];exact⟨.ref _,_,I.L5 (t':=s.toks) (r.append r2) (by rw[fu];lia),rfl,q _ I.fresh⟩
def VX(K:FG)(hK:X.K=K:=by rfl):gM X (binaryOp .Add) (tI K):=hK ▸ Xz
noncomputable def BP:O->O->ai (ai O)
 |.Y (.int i),.Y (.int j)=>some (some (.Y (.int (i+j))))
 |.Y (.str x),.Y (.str y)=>some (if x.length+y.length<=1000000 then some (.Y (.str (x++y))) else none)
 |_,_=>none
def cn:List O->ai O
 |[a,b]=>match BP a b with
  |some r=>r
  |none=>(dz a).bind λxs=>(dz b).bind λys=>if xs.length+ys.length<=1000000 then some (.lst ((xs++ys).map .Y)) else none
 |_=>none
def wW(K:FG):R2:=λx y H Q=>uB (λi j=>.int (i+j)) x y H Q\/(∃i j,x=.str i/\y=.str j/\i.length+j.length<=sizeLine/\Q (.str (i++j)) H)\/tI K x y H Q
def iE(K:FG)(hK:X.K=K:=by rfl):gM X (binaryOp .Add) (wW K):=yL.or (pM.or (VX K hK))
def ml{n:Nat}(h:n<=1000000):n<=sizeLine:=kH h (by decide)
def iF{K:FG}:cS K (mY (wW K)) cn:=by
 intro F H vs os o Q le eU e res;unfold cn at e;split at e
 .rename_i a b
  obtain⟨x,y,B,C,rfl,h1,h2⟩:=eU.two;split at e
  .rename_i r q
   unfold BP at q;split at q
   .cases q;cases e;cases jw h1 rfl;cases jw h2 rfl;exact⟨_,_,rfl,.inl ⟨_,_,rfl,rfl,res.flat rfl⟩⟩
   .cases q;split at e
    .cases e;cases jw h1 rfl;cases jw h2 rfl;exact⟨_,_,rfl,.inr (.inl ⟨_,_,rfl,rfl,ml (by assumption),res.flat rfl⟩)⟩
    .cases e
   .cases q
  .cases q1:dz a with
   |none=>rw[q1] at e;cases e
   |some xs=>
    rw[q1] at e;cases q2:dz b with
    |none=>rw[q2] at e;cases e
    |some ys=>
     rw[q2] at e;dsimp only[Option.bind] at e;split at e
     .cases e;obtain⟨a1,Bi,rfl,s1,r1⟩:=vT le h1 q1;obtain⟨a2,xh,rfl,s2,r2⟩:=vT le h2 q2;refine⟨_,_,rfl,.inr (.inr ⟨a1,a2,Bi,xh,rfl,rfl,s1,s2,ml (by rw[r1.length,r2.length];assumption),λp hp=>res.lst (r1.append r2) hp⟩)⟩
     .cases e
 .cases e
noncomputable def oj(C:Int->Int->Bool)(f:Int->Int->D):List O->ai O
 |[.Y (.int i),.Y (.int j)]=>if C i j=true then some (.Y (f i j)) else none
 |_=>none
def B_{K:FG}{r:R2}{C:Int->Int->Bool}{f:Int->Int->D}{g:Int->Int->V}(hf:∀i j,nI (f i j)=some (g i j))(hr:∀i j H Q,C i j=true->Q (g i j) H->r (.int i) (.int j) H Q):cS K (mY r) (oj C f):=by
 intro F H vs os o Q le eU e res;unfold oj at e;split at e
 .split at e
  .cases e;obtain⟨x,y,B,C,rfl,h1,h2⟩:=eU.two;cases jw h1 rfl;cases jw h2 rfl;exact⟨_,_,rfl,hr _ _ _ _ (by assumption) (res.flat (hf _ _))⟩
  .cases e
 .cases e
abbrev sY:=oj (λ_ _=>true) λi j=>.int (i - j)
abbrev mB:=oj (λ_ j=>decide (0<j/\j<1073741824)) λi j=>.int (i / j)
abbrev oMod:=oj (λ_ j=>decide (0<j)) λi j=>.int (i%j)
abbrev oLt:=oj (λ_ _=>true) λi j=>.bl (decide (i<j))
abbrev wR:=oj (λ_ _=>true) λi j=>.bl (decide (j<i))
def Gk{K:FG}:cS K (mY (uB λi j=>.int (i - j))) sY:=B_ (λ_ _=>rfl) λ_ _ _ _ _ q=>⟨_,_,rfl,rfl,q⟩
def BX{K:FG}:cS K (mY (rI xj λi j=>.int (i / j))) mB:=B_ (λ_ _=>rfl) λi j _ _ c q=>⟨_,_,rfl,rfl,show xj i j from y9 (p:=0<j/\j<1073741824) c,q⟩
def uh{K:FG}:cS K (mY (rI (λ_ j=>0<j) λi j=>.int (i%j))) oMod:=B_ (λ_ _=>rfl) λ_ _ _ _ c q=>⟨_,_,rfl,rfl,y9 c,q⟩
def Ab{K:FG}:cS K (mY (uB λi j=>.bl (decide (i<j)))) oLt:=B_ (λ_ _=>rfl) λ_ _ _ _ _ q=>⟨_,_,rfl,rfl,q⟩
def CA{K:FG}:cS K (mY (uB λi j=>.bl (decide (j<i)))) wR:=B_ (λ_ _=>rfl) λ_ _ _ _ _ q=>⟨_,_,rfl,rfl,q⟩
end
instance (z:Str) (n:Int):Decidable (MulOk z n):=by unfold MulOk;infer_instance
section
variable{X:Cx}
noncomputable def DJ(j:Int):O->ai O
 |.Y (.int i)=>if(-(2^64)<i/\i<2^64)\/(-(2^64)<j/\j<2^64) then some (.Y (.int (i*j))) else none
 |.Y (.str z)=>if MulOk z j then some (.Y (.str (Txt.mul z j))) else none
 |_=>none
def ic:List O->ai O
 |[a,.Y (.int j)]=>DJ j a
 |_=>none
def wY:R2:=λx y H Q=>rI uG (λi j=>.int (i*j)) x y H Q\/∃z n,x=.str z/\y=.int n/\MulOk z n/\Q (.str (Txt.mul z n)) H
def vY:gM X (binaryOp .Mult) wY:=yN.or T7
def v7{K:FG}:cS K (mY wY) ic:=by
 intro F H vs os o Q le eU e res;unfold ic at e;split at e
 .obtain⟨x,y,B,C,rfl,h1,h2⟩:=eU.two;unfold DJ at e;split at e
  .split at e
   .cases e;cases jw h1 rfl;cases jw h2 rfl;exact⟨_,_,rfl,.inl ⟨_,_,rfl,rfl,by assumption,res.flat rfl⟩⟩
   .cases e
  .split at e
   .cases e;cases jw h1 rfl;cases jw h2 rfl;exact⟨_,_,rfl,.inr ⟨_,_,rfl,rfl,by assumption,res.flat rfl⟩⟩
   .cases e
  .cases e
 .cases e
mutual
noncomputable def bx:D->D->Bool
 |.lst xs,.lst ys=>gn xs ys
 |.tup xs,.tup ys=>gn xs ys
 |.bh,.bh=>true
 |.bl a,.bl b=>a == b
 |.bl a,.int b=>(if a then 1 else 0) == b
 |.int a,.bl b=>a == (if b then 1 else 0)
 |.int a,.int b=>a == b
 |.str a,.str b=>a == b
 |_,_=>false
noncomputable def gn:List D->List D->Bool
 |[],[]=>true
 |x::xs,y::ys=>bx x y&&gn xs ys
 |_,_=>false
end
noncomputable def cO:Nat->D->Bool
 |n+1,.lst xs=>xs.all (cO n)
 |n+1,.tup xs=>xs.all (cO n)
 |_,.bh=>true
 |_,.bl _=>true
 |_,.int _=>true
 |_,.str _=>true
 |_,_=>false
theorem BL:∀{xs ys:List D},xs.length≠ys.length->gn xs ys=false
 |[],[],h=>b_ rfl h
 |[],_::_,_=>by unfold gn;rfl
 |_::_,[],_=>by unfold gn;rfl
 |x::xs,y::ys,h=>by unfold gn;rw[BL (by simpa using h),HJ]
theorem BM:∀{xs ys:List D} (n:Nat),xs.length=n->ys.length=n->gn xs ys=(List.range n).all λj=>bx (xs.getD j .bh) (ys.getD j .bh)
 |[],[],0,_,_=>by unfold gn;rfl
 |x::xs,y::ys,n+1,h1,h2=>by
  unfold gn;rw[BM n (by simpa using h1) (by simpa using h2),List.range_succ_eq_map,tY,HK]
  rfl
 |[],_,_+1,h,_=>by simp at h
 |_::_,[],_+1,_,h=>by simp at h
 |_::_,_,0,h,_=>by simp at h
 |[],_::_,0,_,h=>by simp at h
variable{aa:List (ah×Obj)}{Z:St}{H:Hp}{s:az}
def v8{K:FG}{F:Hp}{ws:List V}{es:List D}(r:aw K F ws es){aH:List ao}(rv:Vals ws aH){j:Nat}(h:j<aH.toArray.size):∃x,RelV x aH.toArray[j]/\aw K F [x] [es.getD j .bh]/\j<es.length:=by
 obtain⟨x,hx,rx⟩:=rv.at h;have hl:=r.length;have hj:j<es.length:=by
  have:=(jX.mp hx).1;lia
 obtain⟨y,hy,ry⟩:=r.get (i:=j) (d:=es[j]) (by simp[hj])
 rw[hx] at hy;cases hy;refine⟨x,rx,?_,hj⟩;rw[show es.getD j .bh=es[j] by simp[hj]]
 exact ry
def vU{p:D->Bool}{es:List D}(h:es.all p=true){j:Nat}(hj:j<es.length):p (es.getD j .bh)=true:=by
 rw[show es.getD j .bh=es[j] by simp[hj]]
 exact kI.mp h _ (xi hj)
inductive xp (K:FG) (H:Hp) (s:az):ao->D->Prop
 |none:xp K H s .none .bh
 |bool (b:Bool):xp K H s (.bool b) (.bl b)
 |int (i:Int) (t:Tok):xp K H s (.int i t) (.int i)
 |str (x:Str) (t:Tok):xp K H s (.str x t) (.str x)
 |list {a:ah} {aH:List ao} {ws:List V} {es:List D}:s.heap.IsList a aH.toArray->Vals ws aH->aw K H ws es->xp K H s (.ref a) (.lst es)
 |tuple {a:ah} {aH:List ao} {ws:List V} {es:List D}:s.heap.IsTuple a aH.toArray->Vals ws aH->aw K H ws es->xp K H s (.ref a) (.tup es)
def Gn(I:Inv X aa Z H s){n:Nat}{x:V}{u:ao}{d:D}(r:aw X.K H [x] [d])(ru:RelV x u)(ok:cO n d=true):xp X.K H s u d:=by
 cases r with
 |lst q i _=>
  cases ru;obtain⟨aH,rv,pl,_⟩:=I.list (.inl q);exact .list pl.isList rv i
 |tup q i _=>
  cases ru;obtain⟨aH,rv,pl,_⟩:=I.tuple q;exact .tuple pl rv i
 |aF _ _ _ _ _=>cases n <;> cases ok
 |fG _ _=>cases n <;> cases ok
 |exc _ _=>cases n <;> cases ok
 |obj _=>cases n <;> cases ok
 |flat q _=>
  cases d with
  |bh=>cases q;cases ru;exact .none
  |bl b=>cases q;cases ru;exact .bool b
  |int i=>cases q;obtain⟨t,rfl⟩:=ru;exact .int i t
  |str z=>cases q;obtain⟨t,rfl⟩:=ru;exact .str z t
  |ty _=>cases n <;> cases ok
  |lst _=>cases q
  |tup _=>cases q
  |aF _=>cases q
  |fG _=>cases q
  |exc _ _=>cases q
  |obj=>cases q
def zH{n:Nat}{es:List D}(h:cO n (.lst es)=true):∃m,n=m+1/\es.all (cO m)=true:=by
 cases n with
 |zero=>cases h
 |succ n=>exact⟨n,rfl,h⟩
def zI{n:Nat}{es:List D}(h:cO n (.tup es)=true):∃m,n=m+1/\es.all (cO m)=true:=by
 cases n with
 |zero=>cases h
 |succ n=>exact⟨n,rfl,h⟩
def NX{es:List D}(h:∀d∈es,bx d d=true):gn es es=true:=by
 induction es with
 |nil=>unfold gn;rfl
 |cons d es ih=>unfold gn;rw[h d (by simp),ih λd m=>h d (by simp[m])];rfl
def xB:∀(n:Nat) {d:D},cO n d=true->bx d d=true:=by
 intro n
 induction n with
 |zero=>intro d h;cases d <;> first|(cases h;done)|simp[bx]
 |succ n ih=>
  intro d h;cases d with
  |lst es=>simp only[bx];exact NX λd m=>ih (kI.mp h d m)
  |tup es=>simp only[bx];exact NX λd m=>ih (kI.mp h d m)
  |aF _=>cases h
  |fG _=>cases h
  |exc _ _=>cases h
  |obj=>cases h
  |ty _=>cases h
  |_=>simp[bx]
def TN{xs ys:List D}(hl:xs.length=ys.length)(h:∀j,j<xs.length->xs.getD j .bh=ys.getD j .bh):xs=ys:=by
 apply List.ext_getElem hl;intro j h1 h2;have:=h j h1;simpa[h1,h2] using this
noncomputable def MF:V->D
 |.bl b=>.bl b
 |.int i=>.int i
 |.str x=>.str x
 |.ty n=>.ty n
 |_=>.bh
def NY{d:D}{v:V}(h:nI d=some v):d=MF v:=by cases d <;> cases h <;> rfl
def vV{d:D}{a:ah}(h:nI d=some (.ref a)):False:=by cases d <;> cases h
def FI(I:Inv X aa Z H s):∀(n m:Nat) {x:V} {d e:D},aw X.K H [x] [d]->aw X.K H [x] [e]->cO n d=true->cO m e=true->d=e:=by
 intro n
 induction n using Nat.strongRecOn with
 |ind n ih=>
 intro m x d e rd re od oe;have go:∀{ws:List V} {es md:List D} {n' m':Nat},n'<n->aw X.K H ws es->aw X.K H ws md->es.all (cO n')=true->md.all (cO m')=true->es=md:=by
  intro ws es md n' m' hn r1 r2 o1 o2;have l1:=r1.length;have l2:=r2.length;refine TN (by lia) λj hj=>?_
  have Lu:j<md.length:=by lia
  obtain⟨v,g1,g2⟩:=r1.get (i:=j) (d:=es[j]) (by simp[hj])
  obtain⟨v',p1,p2⟩:=r2.get (i:=j) (d:=md[j]) (by simp[Lu])
  rw[g1] at p1;cases p1;rw[show es.getD j .bh=es[j] by simp[hj],show md.getD j .bh=md[j] by simp[Lu]]
  exact ih n' hn m' g2 p2 (kI.mp o1 _ (xi hj)) (kI.mp o2 _ (xi Lu))
 cases rd with
 |flat q _=>
  cases re with
  |flat q' _=>
   rw[NY q,NY q']
  |lst _ _ _=>exact(vV q).elim
  |tup _ _ _=>exact(vV q).elim
  |aF _ _ _ _ _=>exact(vV q).elim
  |fG _ _=>exact(vV q).elim
  |exc _ _=>exact(vV q).elim
  |obj _=>exact(vV q).elim
 |lst q i _=>
  obtain⟨n',rfl,sZ⟩:=zH od;cases re with
  |flat q' _=>exact(vV q').elim
  |lst q' i' _=>
   obtain⟨m',rfl,s9⟩:=zH oe;cases I.kW (.inl q) (.inl q');rw[go (Ez _) i i' sZ s9]
  |tup q' i' _=>
   obtain⟨_,_,p1,_⟩:=I.list (.inl q);obtain⟨_,_,p2,_⟩:=I.tuple q';exact b_ rfl (SeqAt.ne_of_list_tuple p1.isList p2)
  |aF _ _ _ _ _=>cases m <;> cases oe
  |fG _ _=>cases m <;> cases oe
  |exc _ _=>cases m <;> cases oe
  |obj _=>cases m <;> cases oe
 |tup q i _=>
  obtain⟨n',rfl,sZ⟩:=zI od;cases re with
  |flat q' _=>exact(vV q').elim
  |tup q' i' _=>
   obtain⟨m',rfl,s9⟩:=zI oe;cases I.mH q q';rw[go (Ez _) i i' sZ s9]
  |lst q' i' _=>
   obtain⟨_,_,p1,_⟩:=I.list (.inl q');obtain⟨_,_,p2,_⟩:=I.tuple q;exact b_ rfl (SeqAt.ne_of_list_tuple p1.isList p2)
  |aF _ _ _ _ _=>cases m <;> cases oe
  |fG _ _=>cases m <;> cases oe
  |exc _ _=>cases m <;> cases oe
  |obj _=>cases m <;> cases oe
 |aF _ _ _ _ _=>cases n <;> cases od
 |fG _ _=>cases n <;> cases od
 |exc _ _=>cases n <;> cases od
 |obj _=>cases n <;> cases od
def Ca(I:Inv X aa Z H s):∀(n m:Nat) {A:dD} {x y:V} {u v:ao} {d e:D},aw X.K H [x] [d]->aw X.K H [y] [e]->cO n d=true->cO m e=true->RelV x u->RelV y v->A.units+n<cLine->
  SeqAt.EqAt A s u v (bx d e)/\SeqAt.RcAt A s u v (bx d e):=by
 intro n
 induction n using Nat.strongRecOn with
 |ind n ih=>
 intro m A x y u v d e rd re od oe ru rv hu;have dF:A.units<cLine:=by lia
 have s1:=Gn I rd ru od;have s2:=Gn I re rv oe;cases s1 with
 |none=>
  cases s2 with
  |none=>
   exact⟨SeqAt.EqAt.same _,SeqAt.RcAt.none_none⟩
  |bool a2=>
   simp only[bx];exact⟨SeqAt.EqAt.none_bool a2,SeqAt.RcAt.none_bool a2⟩
  |int a2 t2=>
   simp only[bx];exact⟨SeqAt.EqAt.none_int a2 t2,SeqAt.RcAt.none_int a2 t2⟩
  |str a2 t2=>
   simp only[bx];exact⟨SeqAt.EqAt.none_str a2 t2,SeqAt.RcAt.none_str a2 t2⟩
  |list l2 v2 r2=>
   simp only[bx];exact⟨SeqAt.EqAt.none_list l2 dF,SeqAt.RcAt.none_list l2 dF⟩
  |tuple l2 v2 r2=>
   simp only[bx];exact⟨SeqAt.EqAt.none_tuple l2 dF,SeqAt.RcAt.none_tuple l2 dF⟩
 |bool a1=>
  cases s2 with
  |none=>
   simp only[bx];exact⟨SeqAt.EqAt.bool_none a1,SeqAt.RcAt.bool_none a1⟩
  |bool a2=>
   simp only[bx];exact⟨SeqAt.EqAt.bool_bool a1 a2,SeqAt.RcAt.bool_bool a1 a2⟩
  |int a2 t2=>
   simp only[bx];exact⟨SeqAt.EqAt.bool_int a1 a2 t2,SeqAt.RcAt.bool_int a1 a2 t2⟩
  |str a2 t2=>
   simp only[bx];exact⟨SeqAt.EqAt.bool_str a1 a2 t2,SeqAt.RcAt.bool_str a1 a2 t2⟩
  |list l2 v2 r2=>
   simp only[bx];exact⟨SeqAt.EqAt.bool_list a1 l2 dF,SeqAt.RcAt.bool_list a1 l2 dF⟩
  |tuple l2 v2 r2=>
   simp only[bx];exact⟨SeqAt.EqAt.bool_tuple a1 l2 dF,SeqAt.RcAt.bool_tuple a1 l2 dF⟩
 |int a1 t1=>
  cases s2 with
  |none=>
   simp only[bx];exact⟨SeqAt.EqAt.int_none a1 t1,SeqAt.RcAt.int_none a1 t1⟩
  |bool a2=>
   simp only[bx];exact⟨SeqAt.EqAt.int_bool a1 t1 a2,SeqAt.RcAt.int_bool a1 t1 a2⟩
  |int a2 t2=>
   simp only[bx];exact⟨SeqAt.EqAt.int_int a1 t1 a2 t2,SeqAt.RcAt.int_int a1 t1 a2 t2⟩
  |str a2 t2=>
   simp only[bx];exact⟨SeqAt.EqAt.int_str a1 t1 a2 t2,SeqAt.RcAt.int_str a1 t1 a2 t2⟩
  |list l2 v2 r2=>
   simp only[bx];exact⟨SeqAt.EqAt.int_list a1 t1 l2 dF,SeqAt.RcAt.int_list a1 t1 l2 dF⟩
  |tuple l2 v2 r2=>
   simp only[bx];exact⟨SeqAt.EqAt.int_tuple a1 t1 l2 dF,SeqAt.RcAt.int_tuple a1 t1 l2 dF⟩
 |str a1 t1=>
  cases s2 with
  |none=>
   simp only[bx];exact⟨SeqAt.EqAt.str_none a1 t1,SeqAt.RcAt.str_none a1 t1⟩
  |bool a2=>
   simp only[bx];exact⟨SeqAt.EqAt.str_bool a1 t1 a2,SeqAt.RcAt.str_bool a1 t1 a2⟩
  |int a2 t2=>
   simp only[bx];exact⟨SeqAt.EqAt.str_int a1 t1 a2 t2,SeqAt.RcAt.str_int a1 t1 a2 t2⟩
  |str a2 t2=>
   simp only[bx];exact⟨SeqAt.EqAt.str_str a1 t1 a2 t2,SeqAt.RcAt.str_str a1 t1 a2 t2⟩
  |list l2 v2 r2=>
   simp only[bx];exact⟨SeqAt.EqAt.str_list a1 t1 l2 dF,SeqAt.RcAt.str_list a1 t1 l2 dF⟩
  |tuple l2 v2 r2=>
   simp only[bx];exact⟨SeqAt.EqAt.str_tuple a1 t1 l2 dF,SeqAt.RcAt.str_tuple a1 t1 l2 dF⟩
 |list l1 v1 r1=>
  cases s2 with
  |none=>
   simp only[bx];exact⟨SeqAt.EqAt.list_none l1 dF,SeqAt.RcAt.list_none l1 dF⟩
  |bool a2=>
   simp only[bx];exact⟨SeqAt.EqAt.list_bool a2 l1 dF,SeqAt.RcAt.list_bool a2 l1 dF⟩
  |int a2 t2=>
   simp only[bx];exact⟨SeqAt.EqAt.list_int a2 t2 l1 dF,SeqAt.RcAt.list_int a2 t2 l1 dF⟩
  |str a2 t2=>
   simp only[bx];exact⟨SeqAt.EqAt.list_str a2 t2 l1 dF,SeqAt.RcAt.list_str a2 t2 l1 dF⟩
  |list l2 v2 r2=>
   rename_i a aH ws es b kj xh md
   obtain⟨n',rfl,sZ⟩:=zH od;obtain⟨m',rfl,s9⟩:=zH oe;have la:=v1.length;have lb:=v2.length;have LY:=r1.length;have LZ:=r2.length;have rc:SeqAt.RcAt A s (.ref a) (.ref b) (bx (.lst es) (.lst md)):=by
    simp only[bx];by_cases hl:es.length=md.length
    .rw[BM aH.toArray.size (by simp only[fP];lia) (by simp only[fP];lia)]
     refine SeqAt.RcAt.lists (A:=A) l1 l2 (by simp only[fP];lia) dF λj h1 h2=>?_
     obtain⟨x1,q1,q2,q3⟩:=v8 r1 v1 h1;obtain⟨y1,p1,p2,p3⟩:=v8 r2 v2 h2;exact(ih n' (Ez _) m' q2 p2 (vU sZ q3) (vU s9 p3) q1 p1 (by show A.units+1+n'<cLine;lia)).1
    .rw[BL hl];exact SeqAt.RcAt.lists_lengths (A:=A) l1 l2 (by simp only[fP,bne_iff_ne,ne_eq];lia) dF
   refine⟨?_,rc⟩;by_cases kf:a=b
   .subst kf;have K6:x=y:=RelV.inj ru rv;subst K6;have e2:=FI I _ _ rd re od oe;cases e2;rw[xB _ od];exact SeqAt.EqAt.same _
   .exact SeqAt.EqAt.of_refs kf rc
  |tuple l2 v2 r2=>
   simp only[bx];exact⟨SeqAt.EqAt.list_tuple l1 l2 dF,SeqAt.RcAt.list_tuple l1 l2 dF⟩
 |tuple l1 v1 r1=>
  cases s2 with
  |none=>
   simp only[bx];exact⟨SeqAt.EqAt.tuple_none l1 dF,SeqAt.RcAt.tuple_none l1 dF⟩
  |bool a2=>
   simp only[bx];exact⟨SeqAt.EqAt.tuple_bool a2 l1 dF,SeqAt.RcAt.tuple_bool a2 l1 dF⟩
  |int a2 t2=>
   simp only[bx];exact⟨SeqAt.EqAt.tuple_int a2 t2 l1 dF,SeqAt.RcAt.tuple_int a2 t2 l1 dF⟩
  |str a2 t2=>
   simp only[bx];exact⟨SeqAt.EqAt.tuple_str a2 t2 l1 dF,SeqAt.RcAt.tuple_str a2 t2 l1 dF⟩
  |list l2 v2 r2=>
   simp only[bx];exact⟨SeqAt.EqAt.tuple_list l1 l2 dF,SeqAt.RcAt.tuple_list l1 l2 dF⟩
  |tuple l2 v2 r2=>
   rename_i a aH ws es b kj xh md
   obtain⟨n',rfl,sZ⟩:=zI od;obtain⟨m',rfl,s9⟩:=zI oe;have la:=v1.length;have lb:=v2.length;have LY:=r1.length;have LZ:=r2.length;have rc:SeqAt.RcAt A s (.ref a) (.ref b) (bx (.tup es) (.tup md)):=by
    have z:=SeqAt.RcAt.tuples (A:=A) (e:=λj=>bx (es.getD j .bh) (md.getD j .bh)) l1 l2 dF λj h1 h2=>by
     obtain⟨x1,q1,q2,q3⟩:=v8 r1 v1 h1;obtain⟨y1,p1,p2,p3⟩:=v8 r2 v2 h2;exact(ih n' (Ez _) m' q2 p2 (vU sZ q3) (vU s9 p3) q1 p1 (by show A.units+1+n'<cLine;lia)).1
    simp only[bx];by_cases hl:es.length=md.length
    .rw[BM aH.toArray.size (by simp only[fP];lia) (by simp only[fP];lia)]
     have e1:kj.toArray.size=aH.toArray.size:=by simp only[fP];lia
     rw[e1,Nat.min_self,rj,EE] at z;exact z
    .rw[BL hl];have e1:(aH.toArray.size == kj.toArray.size)=false:=by rw[p7];simp only[fP];lia
     rw[e1,HJ] at z;exact z
   refine⟨?_,rc⟩;by_cases kf:a=b
   .subst kf;have K6:x=y:=RelV.inj ru rv;subst K6;have e2:=FI I _ _ rd re od oe;cases e2;rw[xB _ od];exact SeqAt.EqAt.same _
   .exact SeqAt.EqAt.of_refs kf rc
end
mutual
theorem Jy:∀k j:TK,bx k.d j.d=decide (k=j)
 |.inl a,.inl b=>by simp only[TK.d,bx];rw[uD];simp
 |.inr a,.inr b=>by simp only[TK.d,bx];rw[uD];simp
 |.tp l,.tp m=>by simp only[TK.d,bx];rw[nX l m,uD];simp
 |.inl _,.inr _=>by simp[TK.d,bx]
 |.inl _,.tp _=>by simp[TK.d,bx]
 |.inr _,.inl _=>by simp[TK.d,bx]
 |.inr _,.tp _=>by simp[TK.d,bx]
 |.tp _,.inl _=>by simp[TK.d,bx]
 |.tp _,.inr _=>by simp[TK.d,bx]
theorem nX:∀l m:List TK,gn (TK.dl l) (TK.dl m)=decide (l=m)
 |[],[]=>by simp[TK.dl,gn]
 |a::l,b::m=>by simp only[TK.dl,gn];rw[Jy a b,nX l m,uD];simp
 |[],_::_=>by simp[TK.dl,gn]
 |_::_,[]=>by simp[TK.dl,gn]
end
theorem QV:∀l:List TK,TK.dl l=l.map TK.d
 |[]=>by simp[TK.dl]
 |a::l=>by simp[TK.dl,QV l]
theorem zJ:∀(n:Nat) {k:TK},k.ok n=true->cO n k.d=true
 |n,.inl i,_=>by cases n <;> simp[TK.d,cO]
 |n,.inr i,_=>by cases n <;> simp[TK.d,cO]
 |0,.tp l,h=>by simp[TK.ok] at h
 |n+1,.tp l,h=>by
  simp only[TK.d,cO,QV,HK];refine kI.mpr λa m=>?_
  exact zJ n (kI.mp (by simpa only[TK.ok] using h) a m)
def UQ{α:Type}{M:Model}{A:dD}{E:ao->az->Prop}{s:az}{c:Prop}[Decidable c]{a b:Sem α}{Q:α->az->Prop}(h1:wpAny M A a Q E s)(h2:wpAny M A b Q E s):wpAny M A (if c then a else b) Q E s:=by
 split
 .exact h1
 .exact h2
theorem M'(w:df):∀l m:List TK,TK.fZ w (l++m)=TK.fZ w l++TK.fZ w m
 |[],m=>by simp[TK.fZ]
 |a::l,m=>by simp[TK.fZ,M' w l m]
theorem Iq{α β:Type}{R:α->β->Prop}:∀{l:List α} {m:List β} (i:Nat) {b:β},Paired R l m->m[i]?=some b->∃a,l[i]?=some a/\R a b
 |_,_,_,_,.nil,e=>by simp at e
 |_,_,0,_,.cons r _,e=>by simp at e;subst e;exact⟨_,rfl,r⟩
 |_,_,i+1,_,.cons _ t,e=>by
  obtain⟨a,h1,h2⟩:=Iq i t (by simpa using e)
  exact⟨a,by simpa using h1,h2⟩
theorem BG{α β:Type}{R:α->β->Prop}:∀{l:List α} {m:List β} (i:Nat) {a:α},Paired R l m->l[i]?=some a->∃b,m[i]?=some b/\R a b
 |_,_,_,_,.nil,e=>by simp at e
 |_,_,0,_,.cons r _,e=>by simp at e;subst e;exact⟨_,rfl,r⟩
 |_,_,i+1,_,.cons _ t,e=>by
  obtain⟨a,h1,h2⟩:=BG i t (by simpa using e)
  exact⟨a,by simpa using h1,h2⟩
section
variable{X:Cx}{aa:List (ah×Obj)}{Z:St}{H:Hp}
def Pp{A:dD}{E:ao->az->Prop}{s:az}{y:V}{u:ao}{i:Int}{Q:Int->az->Prop}(r:aw X.K H [y] [TK.d (.inl i)])(ru:RelV y u)(h:∀t,Q (TK.hash X.w (.inl i)) { s with toks:=t}):wpAny (model X.prog X.w) A (pyHash u) Q E s:=by
 simp only[TK.d] at r;cases r with
 |flat q _=>cases q;obtain⟨t,rfl⟩:=ru;exact wpAny_pyHash_int (by simpa only[TK.hash] using h _)
def Pq{A:dD}{E:ao->az->Prop}{s:az}{y:V}{u:ao}{i:Str}{Q:Int->az->Prop}(r:aw X.K H [y] [TK.d (.inr i)])(ru:RelV y u)(h:∀t,Q (TK.hash X.w (.inr i)) { s with toks:=t}):wpAny (model X.prog X.w) A (pyHash u) Q E s:=by
 simp only[TK.d] at r;cases r with
 |flat q _=>cases q;obtain⟨t,rfl⟩:=ru;exact wpAny_pyHash_str (by simpa only[TK.hash] using h _)
theorem OH:∀(n:Nat) {A:dD} {E:ao->az->Prop} {s:az} {y:V} {u:ao} {k:TK} {Q:Int->az->Prop},Inv X aa Z H s->aw X.K H [y] [k.d]->k.ok n=true->RelV y u->A.units+n<cLine->
  (∀t,Q (k.hash X.w) { s with toks:=t})->wpAny (model X.prog X.w) A (pyHash u) Q E s:=by
 intro n
 induction n with
 |zero=>
  intro A E s y u k Q I r ok ru hu h;cases k with
  |tp l=>simp[TK.ok] at ok
  |inl i=>exact Pp r ru h
  |inr x=>exact Pq r ru h
 |succ n ih=>
  intro A E s y u k Q I r ok ru hu h;cases k with
  |inl i=>exact Pp r ru h
  |inr x=>exact Pq r ru h
  |tp l=>
   simp only[TK.d] at r;cases r with
   |flat q _=>cases q
   |@tup a ws _ _ _ q i _=>
    cases ru;obtain⟨aH,rv,pl,_⟩:=I.tuple q;have hT:s.TypeIs (.ref a) "tuple":=pl.typeIs;obtain⟨o,g1,g2,nn,g3⟩:=pl;have ok:l.all (TK.ok n)=true:=by simpa only[TK.ok] using ok
    show wpAny _ _ (pyHashByItsType (.ref a)) Q E s;unfold pyHashByItsType;refine aK (wpAny_cRoomFor_or (.inr (by lia)) (aK (wpAny_specialOf hT F.slot_tuple_hash.lookup ?_)))
    dsimp only;rw[aW (by rw[beq_builtin_none];exact o5)]
    refine aK (wpAny_specialOf hT F.slot_tuple_hash.lookup (aK ?_));refine wpAny_callSpecialIfBoundUnlessNone?_slot hT F.slot_tuple_hash (wpAny_call_entry F.slot_tuple_hash hT F.entry_tuple_hash ?_ (F.args_tuple_hash_1 _));show wpAny _ _ (Builtin.Tuple.tupleItemsOf (.ref a) >>= λz=>_) _ _ s
    refine aK (wpAny_tupleItemsOf g1 g3 (aK ?_));rw[<-Array.forIn_toList];refine wpAny_forIn_list _ (λrest (b:Array Int) s'=>∃done left wl t,l=done++left/\aw X.K H wl (TK.dl left)/\Vals wl rest/\b.toList=TK.fZ X.w done/\s'={ s with toks:=t}) _ ?_ ?_ _ _ ⟨[],l,ws,s.toks,rfl,i,rv,by simp[TK.fZ],rfl⟩
    .rintro x rest b s' ⟨done,left,wl,t,e,r',v',hb,rfl⟩;cases v' with
     |@cons w1 _ wl _ Mm v'=>
      cases left with
      |nil=>have:=r'.length;simp[TK.dl] at this
      |cons k1 left=>
       simp only[TK.dl] at r';have yK:k1.ok n=true:=kI.mp ok k1 (by rw[e];simp)
       have fin:∀t',∃wo wM Te t'',l=wo++wM/\aw X.K H Te (TK.dl wM)/\Vals Te rest/\(b.push (k1.hash X.w)).toList=TK.fZ X.w wo/\({ s with toks:=t'}:az)={ s with toks:=t''}:=
        λt'=>⟨done++[k1],left,wl,t',by simp[e],r'.inv.2,v',by rw[M',<-hb];simp[TK.fZ],rfl⟩
       exact aK (ih (I.tok t) r'.inv.1 yK Mm (by show A.units+1+n<cLine;lia) λt'=>by
        first
         |exact bW (fin t')
         |exact aK (bW (bW (fin t'))))
    .rintro b s' ⟨done,left,wl,t,e,r',v',hb,rfl⟩;cases v';have hl:left=[]:=by
      cases left with
      |nil=>rfl
      |cons _ _=>have:=r'.length;simp[TK.dl] at this
     subst hl;rw[j9] at e;subst e;show wpAny _ _ (retInt (Builtin.Tuple.tupleHashOf b.toList)) _ _ _;rw[hb];refine wpAny_ret_mkInt ?_;have h':∀t,Q (reduceHash (Builtin.Tuple.tupleHashOf (TK.fZ X.w l))) { s with toks:=t}:=λt=>by simpa only[TK.hash] using h t
     unfold reduceHash at h';show wpAny _ _ (if(decide (-(2:Int)^63<=Builtin.Tuple.tupleHashOf (TK.fZ X.w l))&&decide (Builtin.Tuple.tupleHashOf (TK.fZ X.w l)<2^63))=true then _ else _) Q E _
     split
     .rename_i hc
      rw[aT hc] at h';exact bW (h' _)
     .rename_i hc
      rw[aW hc] at h';exact aK (wpAny_rule (bW (h' _)))
theorem NZ:∀(n:Nat) {A:dD} {E:ao->az->Prop} {s:az} {y:V} {u:ao} {k:TK} {Q:Bool->az->Prop},Inv X aa Z H s->aw X.K H [y] [k.d]->k.ok n=true->RelV y u->Q true s->
  wpAny (model X.prog X.w) A (eqIsQuiet n u) Q E s:=by
 intro n
 induction n with
 |zero=>
  intro A E s y u k Q I r ok ru h;cases k with
  |tp l=>simp[TK.ok] at ok
  |inl i=>simp only[TK.d] at r;cases r with|flat q _=>cases q;obtain⟨t,rfl⟩:=ru;rw[eqIsQuiet_byValue 0 rfl];exact bW h
  |inr i=>simp only[TK.d] at r;cases r with|flat q _=>cases q;obtain⟨t,rfl⟩:=ru;rw[eqIsQuiet_byValue 0 rfl];exact bW h
 |succ n ih=>
  intro A E s y u k Q I r ok ru h;cases k with
  |inl i=>simp only[TK.d] at r;cases r with|flat q _=>cases q;obtain⟨t,rfl⟩:=ru;rw[eqIsQuiet_byValue (n+1) rfl];exact bW h
  |inr i=>simp only[TK.d] at r;cases r with|flat q _=>cases q;obtain⟨t,rfl⟩:=ru;rw[eqIsQuiet_byValue (n+1) rfl];exact bW h
  |tp l=>
   simp only[TK.d] at r;cases r with
   |flat q _=>cases q
   |@tup a ws _ _ _ q i _=>
    cases ru;obtain⟨aH,rv,pl,_⟩:=I.tuple q;have hT:s.TypeIs (.ref a) "tuple":=pl.typeIs;obtain⟨o,g1,g2,nn,g3⟩:=pl;have ok:l.all (TK.ok n)=true:=by simpa only[TK.ok] using ok
    unfold eqIsQuiet;refine aK (wpAny_specialOf hT F.slot_tuple_eq.lookup (aK (wpAny_isInstance hT isSubtype_tuple_tuple ?_)));simp only[mK,uC,cX];refine aK (wpAny_seqItems g1 g3 (aK ?_));show wpAny _ _ (forIn aH.toArray _ _) _ _ s;rw[<-Array.forIn_toList];refine wpAny_forIn_list _ (λrest r s'=>r.1=none/\s'=s/\∃left wl,aw X.K H wl (TK.dl left)/\Vals wl rest/\∀x∈left,x.ok n=true) _ ?_ ?_ _ _ ⟨rfl,rfl,l,ws,i,rv,λx m=>kI.mp ok x m⟩
    .rintro v rest r s' ⟨hr,rfl,left,wl,r',v',hk⟩;cases v' with
     |@cons w1 _ wl _ Mm v'=>
      cases left with
      |nil=>have:=r'.length;simp[TK.dl] at this
      |cons k1 left=>
       simp only[TK.dl] at r';refine aK (ih I r'.inv.1 (hk k1 (by simp)) Mm ?_)
       simp only[mK,uC,cX];exact bW ⟨rfl,rfl,left,wl,r'.inv.2,v',λx m=>hk x (by simp[m])⟩
    .rintro⟨r1,r2⟩ s' ⟨hr,rfl,_⟩;cases(show r1=none from hr);exact bW h
structure Bs (X:Cx) (A:dD) (E:ao->az->Prop) (s:az) (xs:Array DictEntry) (es:List (TK×V×V)) (k:TK) (u:ao):Prop where
 ent:∀(j:Nat) (x:DictEntry),xs[j]?=some x->∃e,es[j]?=some e/\kJ X.w e x/\(∀(R:Bool->az->Prop),R (decide (e.1=k)) s->wpAny (model X.prog X.w) A (eqBool x.key u) R E s)/\
  ∀(R:Bool->az->Prop),R true s->wpAny (model X.prog X.w) A (eqIsQuiet 8 x.key) R E s
 ents:∀(j:Nat) (e:TK×V×V),es[j]?=some e->∃x:DictEntry,xs[j]?=some x/\kJ X.w e x
 uniq:∀(i j:Nat) (e f:TK×V×V),es[i]?=some e->es[j]?=some f->e.1=k->f.1=k->i=j
def Zl{A:dD}{E:ao->az->Prop}{s:az}{xs:Array DictEntry}{es:List (TK×V×V)}{k:TK}{y:V}{u:ao}(I:Inv X aa Z H s)(g3:Paired (kJ X.w) es xs.toList)(g4:(es.map (·.1)).Nodup)
  (rk:aw X.K H (es.map (·.2.1)) (es.map (·.1.d))) (ry:aw X.K H [y] [k.d]) (ok:k.ok 8=true) (ru:RelV y u) (hu:A.units+8<cLine):Bs X A E s xs es k u where
 ent:=λj x hx=>by
  obtain⟨e,e1,e2⟩:=Iq j g3 (by rw[Bp];exact hx)
  obtain⟨v,v1,v2⟩:=rk.get (i:=j) (d:=e.1.d) (by rw[lC,e1];rfl)
  rw[lC,e1] at v1;cases v1;refine⟨e,e1,e2,λR hR=>?_,λR hR=>NZ 8 I v2 e2.2.2.2 e2.2.1 hR⟩
  refine(Ca I 8 8 v2 ry (zJ 8 e2.2.2.2) (zJ 8 ok) e2.2.1 ru hu).1 X.prog X.w E R ?_;rw[Jy];exact hR
 ents:=λj e he=>by
  obtain⟨x,x1,x2⟩:=BG j g3 he;exact⟨x,by rw[<-Bp];exact x1,x2⟩
 uniq:=λi j e f he hf ek fk=>by
  have hi:(es.map (·.1))[i]?=some k:=by rw[lC,he,<-ek];rfl
  have hj:(es.map (·.1))[j]?=some k:=by rw[lC,hf,<-fk];rfl
  exact(List.getElem?_inj (jX.mp hi).1 g4).mp (hi.trans hj.symm)
section
variable{A:dD}{E:ao->az->Prop}{s:az}{d:ah}{o:Obj}{xs:Array DictEntry}{ep:Nat}{es:List (TK×V×V)}{k:TK}{u:ao}{Q:ai Nat->az->Prop}
noncomputable abbrev oz(xs:Array DictEntry)(h:Int):List Nat:=placesWithHash xs.size (λi=>xs[i]?.map (·.hash)) h
def mW{h:Int}{i:Nat}:i∈oz xs h↔∃x,xs[i]?=some x/\x.hash=h:=by
 unfold oz placesWithHash;rw[kG,rf];constructor
 .rintro⟨h1,h2⟩;refine⟨xs[i],vJ h1,?_⟩;dsimp only at h2;rw[vJ h1] at h2;simpa using h2
 .rintro⟨x,h1,h2⟩;refine⟨(Bo.mp h1).1,?_⟩;dsimp only;rw[h1,EF,h2];simp
def UR{h:Int}:(oz xs h).Nodup:=List.Nodup.sublist List.filter_sublist List.nodup_range
def Bs.oz(D:Bs X A E s xs es k u){j:Nat}{e:TK×V×V}(he:es[j]?=some e)(ek:e.1=k):j∈oz xs (k.hash X.w):=by
 obtain⟨x,x1,x2⟩:=D.ents j e he;exact mW.mpr ⟨x,x1,by rw[x2.1,ek]⟩
def US(D:Bs X A E s xs es k u)(g1:s.heap.get? d=some o)(g2:o.data=.dict xs ep)
  (q0:(∀(j:Nat) (e:TK×V×V),es[j]?=some e->e.1≠k)->Q none s) (q1:∀(j:Nat) (e:TK×V×V),es[j]?=some e->e.1=k->Q (some j) s) :
  wpAny (model X.prog X.w) A (dictWalkPlain d u (k.hash X.w) xs (oz xs (k.hash X.w))) Q E s:=by
 unfold dictWalkPlain;refine aK (wpAny_forIn_list _ (λrest b s'=>s'=s/\b=(none,())/\∃done,oz xs (k.hash X.w)=done++rest/\∀j e,j∈done->es[j]?=some e->e.1≠k) _ ?_ ?_ _ _ ⟨rfl,rfl,[],rfl,λ_ _ m=>by cases m⟩)
 .rintro i rest b s' ⟨rfl,rfl,done,hd,uz⟩;obtain⟨x,x1,x2⟩:=mW.mp (show i∈oz xs (k.hash X.w) by rw[hd];simp)
  obtain⟨e,e1,e2,eq,_⟩:=D.ent i x x1;simp only[x1];rw[aT (by rw[x2];simp)]
  refine aK (wpAny_dictEpoch g1 g2 (aK (eq _ (aK (wpAny_dictEpoch g1 g2 ?_)))));rw[aW (by simp)]
  by_cases ek:e.1=k
  .rw[jt ek];exact aK (wpAny_rule (bW (bW (q1 i e e1 ek))))
  .rw[jc ek];refine aK (wpAny_rule (bW ⟨rfl,rfl,done++[i],by simp[hd],λj f m hf=>?_⟩))
   rcases eR.mp m with m|m
   .exact uz j f m hf
   .simp at m;subst m;rw[e1] at hf;cases hf;exact ek
 .rintro b s' ⟨rfl,rfl,done,hd,uz⟩;refine bW (q0 λj e he ek=>uz j e ?_ he ek)
  have:=D.oz he ek;rw[hd] at this;simpa using this
def idv(u:ao):ao:=u
def VY(D:Bs X A E s xs es k u)(g1:s.heap.get? d=some o)(g2:o.data=.dict xs ep)(hq:∀(R:Bool->az->Prop),R true s->wpAny (model X.prog X.w) A (eqIsQuiet 8 u) R E s)
  (hs:∀z t,u=.str z t->k=.inr z) (kg:∀(j:Nat) (x:DictEntry) (e:TK×V×V) z t,xs[j]?=some x->es[j]?=some e->x.key=.str z t->e.1=.inr z) (hh:∀a (j:Nat) (x:DictEntry) (e:TK×V×V),u=.ref a->xs[j]?=some x->es[j]?=some e->x.key=u->e.1=k)
  (q0:(∀(j:Nat) (e:TK×V×V),es[j]?=some e->e.1≠k)->Q none s) (q1:∀(j:Nat) (e:TK×V×V),es[j]?=some e->e.1=k->Q (some j) s) :
  wpAny (model X.prog X.w) A (dictFind d u (k.hash X.w)) Q E s:=by
 have walk:=US D g1 g2 q0 q1;have stored:∀v∈(oz xs (k.hash X.w)).filterMap (λi=>xs[i]?.map (·.key)),∀(R:Bool->az->Prop),R true s->wpAny (model X.prog X.w) A (eqIsQuiet 8 v) R E s:=by
  intro v hv R hR;obtain⟨i,_,hi⟩:=Ey.mp hv;cases hx:xs[i]? with
  |none=>rw[hx] at hi;cases hi
  |some x=>
   rw[hx] at hi;obtain rfl:x.key=v:=by simpa using hi
   obtain⟨e,_,_,_,h⟩:=D.ent i x hx;exact h R hR
 have tell:∀(R:Bool->az->Prop),R false s->wpAny (model X.prog X.w) A (tableMayTell u ((oz xs (k.hash X.w)).filterMap λi=>xs[i]?.map (·.key))) R E s:=by
  intro R hR;unfold tableMayTell;split
  .exact bW hR
  .refine aK (hq _ ?_);simp only[mK,uC,cX];refine aK (wpAny_forIn_list _ (λrest r s'=>s'=s/\r=(none,())/\∀v∈rest,∀(R:Bool->az->Prop),R true s->wpAny (model X.prog X.w) A (eqIsQuiet 8 v) R E s) _ ?_ ?_ _ _ ⟨rfl,rfl,stored⟩)
   .rintro x rest r s' ⟨rfl,rfl,hr⟩;refine aK (hr x (by simp) _ ?_)
    simp only[mK,uC,cX];exact bW ⟨rfl,rfl,λv hv=>hr v (by simp[hv])⟩
   .rintro r s' ⟨rfl,rfl,_⟩;exact bW hR
 have tell2:∀(R:Bool->az->Prop),R false s->wpAny (model X.prog X.w) A (if((oz xs (k.hash X.w)).filterMap (λi=>xs[i]?.map (·.key)) == [u])=true then pure false else tableMayTell u ((oz xs (k.hash X.w)).filterMap λi=>xs[i]?.map (·.key))) R E s:=by
  intro R hR;split
  .exact bW hR
  .exact tell R hR
 have fin:∀(i:Nat) (x:DictEntry) (e:TK×V×V),xs[i]?=some x->es[i]?=some e->kJ X.w e x->(x.hash == k.hash X.w)=false->e.1≠k:=λi x e _ _ he hf ek=>by
  rw[he.1,ek] at hf;simp at hf
 unfold dictFind
 (try with_reducible refine nk ?_);refine aK (wpAny_dictEntries g1 g2 ?_)
 dsimp only;by_cases sr:((u::(oz xs (k.hash X.w)).filterMap λi=>xs[i]?.map (·.key)).all carriedByValue)=true
 .rw[aT sr];split;next z t=>
   split;next LH=>
    unfold foundByValue;cases hf:xs.findIdx? (λe=>e.key.isStr z) with
    |none=>
     refine bW (q0 λj e he ek=>?_)
     obtain⟨x,x1,x2⟩:=D.ents j e he;have n1:=Array.findIdx?_eq_none_iff.mp hf x (Array.mem_of_getElem? x1);have e2:=x2.2.1;have n2:isExactStrKey x.key=true:=by
      have h:=Array.all_eq_true.mp LH j (Bo.mp x1).1;rw[(Bo.mp x1).2] at h;exact h
     cases hk:x.key with
     |str z2 t2=>
      have e3:=kg j x e z2 t2 x1 he hk;rw[ek,hs z t rfl] at e3;cases e3;rw[hk] at n1;simp[Value.isStr] at n1
     |_=>rw[hk] at n2;cases n2
    |some i=>
     obtain⟨f_,hi,_⟩:=Array.findIdx?_eq_some_iff_getElem.mp hf;obtain⟨e,e1,e2,eq,_⟩:=D.ent i xs[i] (vJ f_);have ek:e.1=k:=by
      cases hk:xs[i].key with
      |str z2 t2=>
       rw[hk] at hi;have:z2=z:=by simpa[Value.isStr] using hi
       subst this;rw[kg i _ e z2 t2 (vJ f_) e1 hk,hs z2 t rfl]
      |_=>rw[hk] at hi;simp[Value.isStr] at hi
     simp only[vJ f_];refine aK (wpAny_dictEpoch g1 g2 (aK (eq _ (aK (wpAny_dictEpoch g1 g2 ?_)))));rw[aW (by simp),jt ek]
     exact aK (wpAny_rule (bW (q1 i e e1 ek)))
   next=>exact walk
  next=>exact walk
 .rw[aW sr];have DN:∀z t,u=.str z t->¬(xs.all λe=>isExactStrKey e.key)=true:=by
   intro z t hu hx;refine sr (kI.mpr λv hv=>?_)
   rcases dR.mp hv with rfl|hv
   .rw[hu];rfl
   .obtain⟨i,_,hi⟩:=Ey.mp hv;cases rG:xs[i]? with
    |none=>rw[rG] at hi;cases hi
    |some x=>
     rw[rG] at hi;obtain rfl:x.key=v:=by simpa using hi
     have h:=Array.all_eq_true.mp hx i (Bo.mp rG).1;rw[(Bo.mp rG).2] at h;cases hk:x.key with
     |str _ _=>rfl
     |_=>rw[hk] at h;cases h
  have wQ:∀a,u=.ref a->¬(xs.any λe=>e.key == u&&e.hash != k.hash X.w)=true:=by
   intro a hu hx;rw[Array.any_eq_true] at hx;obtain⟨i,hi,hc⟩:=hx;rw[m9,beq_iff_eq,bne_iff_ne] at hc;obtain⟨e,e1,e2,_⟩:=D.ent i xs[i] (vJ hi);have:=hh a i _ e hu (vJ hi) e1 hc.1;exact hc.2 (by rw[e2.1,this])
  have Lr:u=idv u:=rfl;refine(λ(key:?P)=>?main) ?k
  case main=>
   rw(occs:=.pos [1]) [Lr];split
   .rename_i z t hz
    rw[aW (DN z t hz)];rw(occs:=.pos [1]) [Lr];split
    .rename_i a ha
     rw[aW (wQ a ha)];exact key
    .exact key
   .rw(occs:=.pos [1]) [Lr];split
    .rename_i a ha
     rw[aW (wQ a ha)];exact key
    .exact key
  refine(λ(DB:?P2)=>?DI) ?k2
  case DI=>
   refine UQ ?_ ?_
   .refine aK (bW ?_);exact DB
   .refine aK (tell _ ?_);exact DB
  all_goals (
   show wpAny _ _ (if(false&&_)=true then _ else _) _ _ _
   rw[aW (by rw[Bj];exact o5)]
   refine aK (wpAny_forIn_list _ (λrest b s'=>s'=s/\∃hit done,b=(none,hit)/\oz xs (k.hash X.w)=done++rest/\((hit=none/\∀(j:Nat) (e:TK×V×V),j∈done->es[j]?=some e->e.1≠k)\/∃(j:Nat) (e:TK×V×V),hit=some j/\j∈done/\es[j]?=some e/\e.1=k)) _ ?_ ?_ _ _
    ⟨rfl,none,[],rfl,rfl,.inl ⟨rfl,λ_ _ m=>by cases m⟩⟩)
   .rintro i rest b s' ⟨rfl,hit,done,rfl,hd,hH⟩;obtain⟨x,x1,x2⟩:=mW.mp (show i∈oz xs (k.hash X.w) by rw[hd];simp)
    obtain⟨e,e1,e2,eq,_⟩:=D.ent i x x1;have hni:i∉done:=λm=>by
     have:=UR (xs:=xs) (h:=k.hash X.w);rw[hd] at this;exact(lD.mp this).2.2 i m i (by simp) rfl
    simp only[x1];rw[aT (by rw[x2];simp)]
    refine aK (wpAny_dictEpoch g1 g2 (aK (eq _ (aK (wpAny_dictEpoch g1 g2 ?_)))));rw[aW (by simp)]
    by_cases ek:e.1=k
    .rw[jt ek];rcases hH with⟨rfl,uz⟩|⟨j,f,rfl,jd,jf,fk⟩
     .first|rw[aT rfl]|skip
      simp only[HL,uC,cX];first|refine aK (bW ?_)|skip
      refine aK (wpAny_rule ?_);split
      .exact bW (bW (q1 i e e1 ek))
      .exact bW ⟨rfl,some i,done++[i],rfl,by simp[hd],.inr ⟨i,e,rfl,by simp,e1,ek⟩⟩
     .exact b_ (D.uniq i j e f e1 jf ek fk) λz=>hni (by rw[z];exact jd)
    .rw[jc ek];have nx:(hit=none/\∀(j:Nat) (e:TK×V×V),j∈done++[i]->es[j]?=some e->e.1≠k)\/∃(j:Nat) (e:TK×V×V),hit=some j/\j∈done++[i]/\es[j]?=some e/\e.1=k:=by
      rcases hH with⟨h0,uz⟩|⟨j,f,h0,jd,jf,fk⟩
      .refine .inl ⟨h0,λj f m hf=>?_⟩
       rcases eR.mp m with m|m
       .exact uz j f m hf
       .simp at m;subst m;rw[e1] at hf;cases hf;exact ek
      .exact .inr ⟨j,f,h0,by simp[jd],jf,fk⟩
     simp only[uC,cX];refine aK (wpAny_rule ?_);first|rw[aW (by simp)]|skip
     first
      |exact bW ⟨rfl,hit,done++[i],rfl,by simp[hd],nx⟩
      |exact aK (bW (bW ⟨rfl,hit,done++[i],rfl,by simp[hd],nx⟩))
   .rintro b s' ⟨rfl,hit,done,rfl,hd,hH⟩;rcases hH with⟨rfl,uz⟩|⟨j,f,rfl,jd,jf,fk⟩
    .refine bW (q0 λj e he ek=>uz j e ?_ he ek)
     have:=D.oz he ek;rw[hd] at this;simpa using this
    .exact bW (q1 j f jf fk))
end
end
def jH(es:List (TK×V×V))(k:TK):ai V:=(es.find? λe=>decide (e.1=k)).map (·.2.2)
noncomputable def hU:List (TK×V×V)->TK->V->V->List (TK×V×V)
 |[],k,y,v=>[(k,y,v)]
 |e::es,k,y,v=>if e.1=k then(e.1,e.2.1,v)::es else e::hU es k y v
def tH(es:List (TK×V×V))(k:TK)(ep:Nat):Nat:=if(es.any λe=>decide (e.1=k))=true then ep else ep+1
def jv(K:FG)(H:Hp)(a:ah)(y:V)(r:ai V):Prop:=∃es ep k,H a=some (.dG es ep)/\aw K H (es.map (·.2.1)) (es.map (·.1.d))/\aw K H [y] [k.d]/\k.ok 8=true/\r=jH es k
def uK(K:FG)(H:Hp)(a:ah)(y v:V)(H':Hp):Prop:=∃es ep k,H a=some (.dG es ep)/\aw K H (es.map (·.2.1)) (es.map (·.1.d))/\aw K H [y] [k.d]/\k.ok 8=true/\es.length<sizeLine/\H'=upd H a (.dG (hU es k y v) (tH es k ep))
def XA{k j:TK}(e:k.d=j.d)(h:k.ok 8=true):k=j:=by
 have h1:=Jy k j;rw[<-e,xB 8 (zJ 8 h)] at h1;exact y9 h1.symm
section
variable{X:Cx}{aa:List (ah×Obj)}{Z:St}{H:Hp}
def Pr{y:V}{z:Str}{t:Tok}{k:TK}(r:aw X.K H [y] [k.d])(ru:RelV y (.str z t)):k=.inr z:=by
 cases k with
 |inl i=>simp only[TK.d] at r;cases r with|flat q _=>cases q;obtain⟨t,e⟩:=ru;cases e
 |inr i=>simp only[TK.d] at r;cases r with|flat q _=>cases q;obtain⟨t,e⟩:=ru;cases e;rfl
 |tp l=>simp only[TK.d] at r;cases r with|flat q _=>cases q|tup q _ _=>cases ru
def Pu{y:V}{a:ah}(ru:RelV y (.ref a)):y=.ref a:=by
 cases y with
 |ref b=>cases ru;rfl
 |bh=>cases ru
 |bl _=>cases ru
 |ty _=>cases ru
 |_=>obtain⟨t,e⟩:=ru;cases e
section
variable{A:dD}{E:ao->az->Prop}{s:az}{d:ah}{es:List (TK×V×V)}{k:TK}{y v:V}{u r:ao}
def QW{o:Obj}{xs:Array DictEntry}{ep:Nat}{Q:ai Nat->az->Prop}(I:Inv X aa Z H s)(g1:s.heap.get? d=some o)(g2:o.data=.dict xs ep)(g3:Paired (kJ X.w) es xs.toList)(g4:(es.map (·.1)).Nodup)
  (rk:aw X.K H (es.map (·.2.1)) (es.map (·.1.d))) (ry:aw X.K H [y] [k.d]) (ok:k.ok 8=true) (ru:RelV y u) (hu:A.units+8<cLine)
  (q0:(∀(j:Nat) (e:TK×V×V),es[j]?=some e->e.1≠k)->Q none s) (q1:∀(j:Nat) (e:TK×V×V),es[j]?=some e->e.1=k->Q (some j) s):wpAny (model X.prog X.w) A (dictFind d u (k.hash X.w)) Q E s:=by
 have at':∀(j:Nat) (x:DictEntry) (e:TK×V×V),xs[j]?=some x->es[j]?=some e->kJ X.w e x/\aw X.K H [e.2.1] [e.1.d]:=by
  intro j x e hx he;obtain⟨e',e1,e2⟩:=Iq j g3 (by rw[Bp];exact hx)
  rw[he] at e1;cases e1;obtain⟨v,v1,v2⟩:=rk.get (i:=j) (d:=e.1.d) (by rw[lC,he];rfl)
  rw[lC,he] at v1;cases v1;exact⟨e2,v2⟩
 refine VY (Zl I g3 g4 rk ry ok ru hu) g1 g2 (λR hR=>NZ 8 I ry ok ru hR) (λz t e=>Pr ry (by rw[<-e];exact ru)) (λj x e z t hx he hk=>?_) (λa j x e sO hx he hk=>?_) q0 q1
 .obtain⟨g,r'⟩:=at' j x e hx he;exact Pr r' (by rw[<-hk];exact g.2.1)
 .obtain⟨g,r'⟩:=at' j x e hx he;have h1:=g.2.1;rw[hk,sO] at h1;rw[sO] at ru;rw[Pu h1] at r';rw[Pu ru] at ry;exact XA (FI I 8 8 r' ry (zJ 8 g.2.2.2) (zJ 8 ok)) g.2.2.2
def UT(h:∀(j:Nat) (e:TK×V×V),es[j]?=some e->e.1≠k):jH es k=none:=by
 unfold jH;rw[List.find?_eq_none.mpr λe m z=>?_,Option.map_none]
 obtain⟨j,hj⟩:=List.mem_iff_getElem?.mp m;exact h j e hj (y9 z)
def UU(hn:(es.map (·.1)).Nodup){j:Nat}{e:TK×V×V}(he:es[j]?=some e)(ek:e.1=k):jH es k=some e.2.2:=by
 induction es generalizing j with
 |nil=>simp at he
 |cons x es ih=>
  rw[c_,jr] at hn;unfold jH;rw[qB];cases j with
  |zero=>
   simp only[List.getElem?_cons_zero,Option.some.injEq] at he;subst he;rw[jt ek];rfl
  |succ j=>
   simp only[List.getElem?_cons_succ] at he;have ne:¬x.1=k:=λz=>hn.1 (by rw[z,<-ek];exact gQ.mpr ⟨e,Bk he,rfl⟩)
   rw[jc ne];exact ih hn.2 he
def N0{o:ai V}{Q:ai ao->az->Prop}(hu:A.units+8<cLine)(I:Inv X aa Z H s)(g:jv X.K H d y o)(ru:RelV y u)(h:∀w t,nD o w->Q w { s with toks:=t}):
  wpAny (model X.prog X.w) A (dictGet d u) Q E s:=by
 obtain⟨es,ep,k,hd,rk,ry,ok,rfl⟩:=g;obtain⟨_,_,ob,xs,g1,_,g2,g3,g4⟩:=(show cC X.prog X.w H s.heap d (.dG es ep) from I.cg d _ hd);unfold dictGet
 (try with_reducible refine nk ?_);refine aK (OH 8 I ry ok ru hu λt=>aK (QW (I.tok t) g1 g2 g3 g4 rk ry ok ru hu (λq0=>?_) (λj e he ek=>?_)))
 .exact bW (h none t (by rw[UT q0];exact i9))
 .obtain⟨x,x1,x2⟩:=BG j g3 he;refine aK (wpAny_dictEntries (s:={ s with toks:=t}) g1 g2 (bW ?_));rw[<-Bp,x1];exact h (some x.val) t (by rw[UU g4 he ek];exact x2.2.2.1)
def jv.ty{o:ai V}(I:Inv X aa Z H s)(g:jv X.K H d y o):s.TypeIs (.ref d) "dict"/\(d == sysModules)=false:=by
 obtain⟨es,ep,k,hd,_⟩:=g;obtain⟨_,z,ob,xs,g1,g5,_⟩:=(show cC X.prog X.w H s.heap d (.dG es ep) from I.cg d _ hd);exact⟨⟨ob,g1,g5.1⟩,z⟩
def N4{Q:ao->az->Prop}(hu:A.units+9<cLine)(I:Inv X aa Z H s)(g:jv X.K H d y (some v))(ru:RelV y u)(h:∀w' s',Inv X aa Z H s'->RelV v w'->Q w' s'):wpAny (model X.prog X.w) A (getItem (.ref d) u) Q E s:=by
 have hT:=(g.ty I).1;unfold getItem
 (try with_reducible refine nk ?_);refine aK (wpAny_sequenceKey hT (by decide) (aK (wpAny_callSpecial?_slot (name:=Str.ofString "__getitem__") hT slot_dict_getitem (wpAny_call_entry slot_dict_getitem hT entry_dict_getitem ?_ (args_dict_getitem _ _)))))
 show wpAny _ _ (dictGet d u >>= _) _ _ s;refine aK (N0 (by show A.units+1+8<cLine;lia) I g ru λw t vx=>?_)
 obtain⟨w',rfl,r'⟩:=nD.some_of vx;exact bW ⟨w',rfl,bW (h w' _ (I.tok t) r')⟩
def Np{o:ai V}{Q:Bool->az->Prop}(hu:A.units+9<cLine)(I:Inv X aa Z H s)(g:jv X.K H d y o)(ru:RelV y u)(h:∀s',Inv X aa Z H s'->Q o.isSome s'):wpAny (model X.prog X.w) A (contains (.ref d) u) Q E s:=by
 obtain⟨hT,hd⟩:=g.ty I;unfold contains
 (try with_reducible refine nk ?_);refine aK (wpAny_specialOf hT slot_dict_contains.lookup ?_)
 dsimp only;rw[aW (by rw[beq_builtin_none];exact o5)]
 refine aK (wpAny_callSpecialUnlessNone?_slot (name:=Str.ofString "__contains__") hT slot_dict_contains (wpAny_call_entry slot_dict_contains hT entry_dict_contains ?_ (args_dict_contains _ _)));show wpAny _ _ (dictGet d u >>= _) _ _ s;refine aK (N0 (by show A.units+1+8<cLine;lia) I g ru λw t vx=>?_)
 have e:=vx.qY;cases w with
 |some w=>
  show wpAny _ _ (ret (.bool true)) _ _ _;refine bW ⟨_,rfl,wpAny_truthy_bool ?_⟩;have:=h _ (I.tok t);rw[e] at this;exact this
 |none=>
  show wpAny _ _ (Builtin.Dict.pendingKey? d u >>= _) _ _ _;refine aK (wpAny_pendingKey_other hd (bW ⟨_,rfl,wpAny_truthy_bool ?_⟩));have:=h _ (I.tok t);rw[e] at this;exact this
def MI{o:ai V}{Q:ao->az->Prop}(hu:A.units+9<cLine)(I:Inv X aa Z H s)(g:jv X.K H d y o)(ru:RelV y u)(h:∀s',Inv X aa Z H s'->Q (.bool o.isSome) s'):wpAny (model X.prog X.w) A (compareOp .In u (.ref d)) Q E s:=
 aK (Np hu I g ru λs' I'=>bW (h s' I'))
def XB{o:ai V}{Q:ao->az->Prop}(hu:A.units+9<cLine)(I:Inv X aa Z H s)(g:jv X.K H d y o)(ru:RelV y u)(h:∀s',Inv X aa Z H s'->Q (.bool (!o.isSome)) s'):wpAny (model X.prog X.w) A (compareOp .NotIn u (.ref d)) Q E s:=
 aK (Np hu I g ru λs' I'=>bW (h s' I'))
theorem Ng(k:TK)(y v:V):∀es:List (TK×V×V),(hU es k y v).length<=es.length+1
 |[]=>by simp[hU]
 |e::es=>by
  unfold hU;have:=Ng k y v es;split <;> simp <;> lia
theorem OI:∀{es:List (TK×V×V)},(∀(j:Nat) (e:TK×V×V),es[j]?=some e->e.1≠k)->hU es k y v=es++[(k,y,v)]
 |[],_=>rfl
 |e::es,h=>by
  unfold hU;rw[aW (h 0 e rfl),OI λj x hx=>h (j+1) x (by simpa using hx)]
  rfl
def XC{w:df}{xs:List DictEntry}(g3:Paired (kJ w) es xs)(ry:RelV y u)(rv:RelV v r)(ok:k.ok 8=true):Paired (kJ w) (es++[(k,y,v)]) (xs++[⟨k.hash w,u,r⟩]):=by
 induction g3 with
 |nil=>exact .cons ⟨rfl,ry,rv,ok⟩ .nil
 |cons a _ ih=>exact .cons a ih
theorem Pw{w:df}:∀{es:List (TK×V×V)} {xs:List DictEntry} {j:Nat} {e:TK×V×V},Paired (kJ w) es xs->(es.map (·.1)).Nodup->es[j]?=some e->e.1=k->RelV v r->
  Paired (kJ w) (hU es k y v) (xs.modify j λx=>{ x with val:=r})/\(hU es k y v).map (·.1)=es.map (·.1)
 |_,_,_,_,.nil,_,he,_,_=>by simp at he
 |_::es,_::xs,0,e,.cons a t,hn,he,ek,rv=>by
  simp only[List.getElem?_cons_zero,Option.some.injEq] at he;subst he;unfold hU;rw[aT ek];exact⟨.cons ⟨a.1,a.2.1,rv,a.2.2.2⟩ t,rfl⟩
 |x::es,_::xs,j+1,e,.cons a t,hn,he,ek,rv=>by
  simp only[List.getElem?_cons_succ] at he;rw[c_,jr] at hn;have ne:¬x.1=k:=λz=>hn.1 (by rw[z,<-ek];exact gQ.mpr ⟨e,Bk he,rfl⟩)
  unfold hU;rw[aW ne];have ih:=Pw t hn.2 he ek rv;exact⟨.cons a ih.1,by rw[c_,c_,ih.2]⟩
def N5{H':Hp}{Q:Unit->az->Prop}(hu:A.units+8<cLine)(I:Inv X aa Z H s)(g:uK X.K H d y v H')(ru:RelV y u)(rv:RelV v r)(h:∀s',Inv X aa Z H' s'->Q () s'):
  wpAny (model X.prog X.w) A (dictSet d u r) Q E s:=by
 obtain⟨es,ep,k,hd,rk,ry,ok,hl,rfl⟩:=g;obtain⟨_,z,ob,xs,g1,g5,g2,g3,g4⟩:=(show cC X.prog X.w H s.heap d (.dG es ep) from I.cg d _ hd);have hz:xs.size<=sizeLine:=by have:=Paired.length g3;simp at this;lia
 have Lx:(hU es k y v).length<=sizeLine:=by have:=Ng k y v es;lia
 unfold dictSet
 (try with_reducible refine nk ?_);refine aK (OH 8 I ry ok ru hu λt=>?_)
 unfold dictSetHashed
 (try with_reducible refine nk ?_);refine aK (QW (I.tok t) g1 g2 g3 g4 rk ry ok ru hu (λq0=>?_) (λj e he ek=>?_))
 .have R_:hU es k y v=es++[(k,y,v)]:=OI q0;have K4:tH es k ep=ep+1:=aW (by
   rw[EB];rintro⟨e,m,q⟩;obtain⟨j,hj⟩:=List.mem_iff_getElem?.mp m;exact q0 j e hj (y9 q))
  rw[K4] at h;refine aK (wpAny_rule (wpAny_updateDictKeys (hz:=hz) (s:={ s with toks:=t}) g1 g2 (h _ ?_)));refine Pg (I.tok t) (by rw[hd];exact i9) (Heap.SameBut.update ..) ⟨_,rL _ g1 (Obj.isFreed_of_dict (Obj.data_mapDictKeys g2 _))⟩ ⟨Lx,z,_,_,rL _ g1 (Obj.isFreed_of_dict (Obj.data_mapDictKeys g2 _)),g5.mapDictKeys _,Obj.data_mapDictKeys g2 _,?_,?_⟩
  .rw[R_,Array.toList_push];exact XC g3 ru rv ok
  .rw[R_,jI,lD];refine⟨g4,by simp,λa m b m' e=>?_⟩
   simp at m';subst m';obtain⟨x,mx,rfl⟩:=gQ.mp m;obtain⟨j,hj⟩:=List.mem_iff_getElem?.mp mx;exact q0 j x hj e
 .have em:=Pw (y:=y) g3 g4 he ek rv;have K4:tH es k ep=ep:=aT (EB.mpr ⟨e,Bk he,jt ek⟩);rw[K4] at h;refine aK (wpAny_rule (aK (wpAny_updateDict (s:={ s with toks:=t}) g1 g2 (wpAny_point (h _ ?_)))));refine Pg (I.tok t) (by rw[hd];exact i9) (Heap.SameBut.update ..) ⟨_,rL _ g1 (Obj.isFreed_of_dict (Obj.data_mapDict g2 _))⟩ ⟨Lx,z,_,_,rL _ g1 (Obj.isFreed_of_dict (Obj.data_mapDict g2 _)),g5.mapDict _,Obj.data_mapDict g2 _,?_,?_⟩
  .obtain⟨l⟩:=xs;simpa using em.1
  .rw[em.2];exact g4
def UW{H':Hp}{Q:Unit->az->Prop}(hu:A.units+9<cLine)(I:Inv X aa Z H s)(g:uK X.K H d y v H')(ru:RelV y u)(rv:RelV v r)(h:∀s',Inv X aa Z H' s'->Q () s'):
  wpAny (model X.prog X.w) A (setItem (.ref d) u r) Q E s:=by
 have hT:s.TypeIs (.ref d) "dict":=by
  obtain⟨es,ep,k,hd,rk,ry,ok,_⟩:=g;exact(jv.ty I ⟨es,ep,k,hd,rk,ry,ok,rfl⟩).1
 unfold setItem
 (try with_reducible refine nk ?_);refine aK (wpAny_sequenceKey hT (by decide) (aK (wpAny_callSpecial?_slot (name:=Str.ofString "__setitem__") hT slot_dict_setitem (wpAny_call_entry slot_dict_setitem hT entry_dict_setitem ?_ (args_dict_setitem _ _ _)))))
 show wpAny _ _ (Builtin.Dict.notOrdered "__setitem__" ⟨[.ref d,u,r],[]⟩ >>= _) _ _ s;refine aK (wpAny_notOrdered_dict hT ?_);show wpAny _ _ (dictSet d u r >>= λz=>_) _ _ s
 exact aK (N5 (by show A.units+1+8<cLine;lia) I g ru rv λs' I'=>bW ⟨.none,rfl,bW (h s' I')⟩)
end
end
section
variable{X:Cx}{K:FG}
def DW(K:FG):R2:=λx y H Q=>∃d e,aw K H [x] [d]/\aw K H [y] [e]/\cO 40 d=true/\cO 40 e=true/\Q (.bl (bx d e)) H
def uT(K:FG)(hu:X.A.units+40<cLine)(hK:X.K=K:=by rfl):gM X (compareOp .Eq) (DW K):=by
 subst hK;intro aa s Z H x y v u Q I rx ry h;obtain⟨d,e,r1,r2,o1,o2,q⟩:=h;exact(Ca I 40 40 r1 r2 o1 o2 rx ry hu).2 X.prog X.w _ _ ⟨.bl _,H,I,rfl,q⟩
open Classical in
noncomputable def oY (K:FG) (H:Hp) (dx:D) (u:ao):Bool:=decide (∃x d,RelV x u/\aw K H [x] [d]/\cO 40 d=true/\bx d dx=true)
open Classical in
def QX{aa:List (ah×Obj)}{s:az}{Z:St}{H:Hp}(I:Inv X aa Z H s){dx d:D}{x:V}{u:ao}(rx:RelV x u)(r:aw X.K H [x] [d])(ok:cO 40 d=true):oY X.K H dx u=bx d dx:=by
 unfold oY;rw[uD,MY];constructor
 .rintro⟨x',d',rx',r',ok',e⟩;have:=RelV.inj rx rx';subst this;rw[FI I 40 40 r r' ok ok'];exact e
 .exact λe=>⟨x,d,rx,r,ok,e⟩
def Gp{aa:List (ah×Obj)}{s:az}{Z:St}{H:Hp}(I:Inv X aa Z H s){dx:D}{ws:List V}{aH:List ao}{ds:List D}(t:Vals ws aH)(rp:aw X.K H ws ds)(ok:ds.all (cO 40)=true):aH.any (oY X.K H dx)=ds.any λd=>bx d dx:=by
 induction t generalizing ds with
 |nil=>
  cases ds with
  |nil=>rfl
  |cons _ _=>have:=rp.length;simp at this
 |cons r t ih=>
  cases ds with
  |nil=>have:=rp.length;simp at this
  |cons d ds=>
   rw[tY,m9] at ok;rw[List.any_cons,List.any_cons,QX I r rp.inv.1 ok.1,ih rp.inv.2 ok.2]
def Gq{aa:List (ah×Obj)}{s:az}{Z:St}{H:Hp}(I:Inv X aa Z H s){dx:D}{y:V}{v:ao}{A:dD}(rv:RelV y v)(ry:aw X.K H [y] [dx])(oy:cO 40 dx=true)(hu:A.units+40<cLine):
  ∀{ws:List V} {aH:List ao} {ds:List D},Vals ws aH->aw X.K H ws ds->ds.all (cO 40)=true->∀u∈aH,SeqAt.EqAt A s u v (oY X.K H dx u):=by
 intro ws aH ds t
 induction t generalizing ds with
 |nil=>intro _ _ u m;cases m
 |cons r t ih=>
  intro rp ok u' m;cases ds with
  |nil=>have:=rp.length;simp at this
  |cons d ds=>
   rw[tY,m9] at ok;rcases dR.mp m with rfl|m
   .rw[QX I r rp.inv.1 ok.1];exact(Ca I 40 40 rp.inv.1 ry ok.1 oy r rv hu).1
   .exact ih rp.inv.2 ok.2 u' m
def pO:D->ai (List D)
 |.lst ds=>some ds
 |.tup ds=>some ds
 |_=>none
def yR(K:FG)(neg:Bool):R2:=λx y H Q=>
 (∃d e ds,aw K H [x] [d]/\aw K H [y] [e]/\pO e=some ds/\cO 40 d=true/\ds.all (cO 40)=true/\Q (.bl (if neg then !ds.any λz=>bx z d else ds.any λz=>bx z d)) H)\/
 (∃i j,x=.str i/\y=.str j/\Q (.bl (if neg then !(!(Builtin.Str.occurrences j i 0 j.length 1).isEmpty) else !(Builtin.Str.occurrences j i 0 j.length 1).isEmpty)) H)\/
 ∃a o,y=.ref a/\jv K H a x o/\Q (.bl (if neg then !o.isSome else o.isSome)) H
def xW(K:FG)(hu:X.A.units+41<cLine)(hK:X.K=K:=by rfl):gM X (compareOp .In) (yR K false):=by
 subst hK;intro aa s Z H x y v u Q I rx ry h;rcases h with⟨d,e,ds,r1,r2,es,o1,o2,q⟩|⟨i,j,rfl,rfl,q⟩|⟨a,o,rfl,g,q⟩
 .have sO:X.A.in1.units+40<cLine:=by show X.A.units+1+40<cLine;lia
  cases r2 with
  |flat z _=>cases e <;> first|(cases z;done)|cases es
  |lst sq i _=>
   cases es;cases ry;obtain⟨aH,r,pl,hz⟩:=I.list (.inl sq);refine SeqAt.in_listAt (oY X.K H d) pl.isList (λw hw=>Gq I rx r1 o1 sO r i o2 w (by simpa using hw)) ⟨.bl _,H,I,rfl,?_⟩
   rw[show aH.toArray.any (oY X.K H d)=aH.any (oY X.K H d) by simp,Gp I r i o2]
   exact q
  |tup sq i _=>
   cases es;cases ry;obtain⟨aH,r,pl,hz⟩:=I.tuple sq;refine SeqAt.in_tupleAt (oY X.K H d) pl (λw hw=>Gq I rx r1 o1 sO r i o2 w (by simpa using hw)) ⟨.bl _,H,I,rfl,?_⟩
   rw[show aH.toArray.any (oY X.K H d)=aH.any (oY X.K H d) by simp,Gp I r i o2]
   exact q
  |aF _ _ _ _ _=>cases es
  |fG _ _=>cases es
  |exc _ _=>cases es
  |obj _=>cases es
 .exact UA aa s Z H _ _ v u Q I rx ry ⟨i,j,rfl,rfl,q⟩
 .cases ry;exact MI (by lia) I g rx λs3 I3=>⟨.bl o.isSome,H,I3,rfl,q⟩
def vP(K:FG)(hu:X.A.units+41<cLine)(hK:X.K=K:=by rfl):gM X (compareOp .NotIn) (yR K true):=by
 subst hK;intro aa s Z H x y v u Q I rx ry h;rcases h with⟨d,e,ds,r1,r2,es,o1,o2,q⟩|⟨i,j,rfl,rfl,q⟩|⟨a,o,rfl,g,q⟩
 .have sO:X.A.in1.units+40<cLine:=by show X.A.units+1+40<cLine;lia
  cases r2 with
  |flat z _=>cases e <;> first|(cases z;done)|cases es
  |lst sq i _=>
   cases es;cases ry;obtain⟨aH,r,pl,hz⟩:=I.list (.inl sq);refine SeqAt.notIn_listAt (oY X.K H d) pl.isList (λw hw=>Gq I rx r1 o1 sO r i o2 w (by simpa using hw)) ⟨.bl _,H,I,rfl,?_⟩
   rw[show aH.toArray.any (oY X.K H d)=aH.any (oY X.K H d) by simp,Gp I r i o2]
   exact q
  |tup sq i _=>
   cases es;cases ry;obtain⟨aH,r,pl,hz⟩:=I.tuple sq;refine SeqAt.notIn_tupleAt (oY X.K H d) pl (λw hw=>Gq I rx r1 o1 sO r i o2 w (by simpa using hw)) ⟨.bl _,H,I,rfl,?_⟩
   rw[show aH.toArray.any (oY X.K H d)=aH.any (oY X.K H d) by simp,Gp I r i o2]
   exact q
  |aF _ _ _ _ _=>cases es
  |fG _ _=>cases es
  |exc _ _=>cases es
  |obj _=>cases es
 .exact TF aa s Z H _ _ v u Q I rx ry ⟨i,j,rfl,rfl,q⟩
 .cases ry;exact XB (by lia) I g rx λs3 I3=>⟨.bl (!o.isSome),H,I3,rfl,q⟩
def oEq:List O->ai O
 |[a,b]=>if cO 40 a.d=true/\cO 40 b.d=true then some (.Y (.bl (bx a.d b.d))) else none
 |_=>none
def uW:cS K (mY (DW K)) oEq:=by
 intro F H vs os o Q le eU e res;unfold oEq at e;split at e
 .split at e
  .cases e;obtain⟨x,y,B,C,rfl,h1,h2⟩:=eU.two
   rename_i hh
   exact⟨_,_,rfl,_,_,o9 le h1,o9 le h2,hh.1,hh.2,res.flat rfl⟩
  .cases e
 .cases e
mutual
noncomputable def pR:D->ai TK
 |.int i=>some (.inl i)
 |.str x=>some (.inr x)
 |.tup l=>(m6 l).map .tp
 |_=>none
noncomputable def m6:List D->ai (List TK)
 |[]=>some []
 |d::l=>(pR d).bind λk=>(m6 l).map λks=>k::ks
end
def cI:D->ai TK
 |.int i=>some (.inl i)
 |.str x=>some (.inr x)
 |.tup l=>(m6 l).bind λks=>if TK.ok 8 (.tp ks)=true then some (.tp ks) else none
 |_=>none
mutual
theorem e6q:∀{d:D} {k:TK},pR d=some k->k.d=d
 |.int i,k,e=>by simp only[pR] at e;cases e;simp[TK.d]
 |.str i,k,e=>by simp only[pR] at e;cases e;simp[TK.d]
 |.tup l,k,e=>by
  simp only[pR] at e;obtain⟨ks,h1,rfl⟩:=j_.mp e;simp only[TK.d];rw[pS h1]
 |.bh,k,e=>by simp[pR] at e
 |.bl _,k,e=>by simp[pR] at e
 |.ty _,k,e=>by simp[pR] at e
 |.lst _,k,e=>by simp[pR] at e
 |.aF _,k,e=>by simp[pR] at e
 |.fG _,k,e=>by simp[pR] at e
 |.exc _ _,k,e=>by simp[pR] at e
theorem pS:∀{l:List D} {ks:List TK},m6 l=some ks->TK.dl ks=l
 |[],ks,e=>by simp only[m6] at e;cases e;simp[TK.dl]
 |d::l,ks,e=>by
  simp only[m6] at e;obtain⟨k,h1,e⟩:=dC.mp e;obtain⟨ks',h2,rfl⟩:=j_.mp e;simp only[TK.dl];rw[e6q h1,pS h2]
end
def nF{d:D}{k:TK}(e:cI d=some k):k.d=d/\k.ok 8=true:=by
 cases d with
 |int i=>cases e;exact⟨by simp[TK.d],rfl⟩
 |str i=>cases e;exact⟨by simp[TK.d],rfl⟩
 |tup l=>
  simp only[cI] at e;obtain⟨ks,h1,e⟩:=dC.mp e;split at e
  .rename_i h
   cases e;exact⟨by simp only[TK.d];rw[pS h1],h⟩
  .cases e
 |_=>cases e
def iG:O->ai (List (TK×D))
 |.Y (.aF kvs)=>some kvs
 |.aF kvs=>some (O.dk kvs)
 |_=>none
def xX{α β:Type}:∀{ws:List (TK×α)} {kvs:List (TK×β)},ws.map (·.1)=kvs.map (·.1)->ws.map (·.1.d)=kvs.map (·.1.d):=λ{ws kvs} h=>by
 have:=congrArg (List.map TK.d) h;rw[oH,oH] at this;exact this
def VZ{F H:Hp}{x:V}{o:O}{B:List ah}{kvs:List (TK×D)}(le:aI F H)(h:aj K F H [some x] [some o] B)(e:iG o=some kvs):∃a ws ep,x=.ref a/\H a=some (.dG ws ep)/\ws.map (·.1)=kvs.map (·.1)/\aw K H (ws.map (·.2.1)) (ws.map (·.1.d))/\aw K H (ws.map (·.2.2)) (kvs.map (·.2)):=by
 have r:=o9 le h;have ed:o.d=.aF kvs:=by
  cases o with
  |Y d=>cases d <;> cases e;rfl
  |aF _=>cases e;rfl
  |_=>cases e
 rw[ed] at r;cases r with
 |flat z _=>cases z
 |aF q k r i _=>exact⟨_,_,_,rfl,q,k,by rw[xX k];exact r,i⟩
def i8(kvs:List (TK×D))(k:TK):ai D:=(kvs.find? λkv=>decide (kv.1=k)).map (·.2)
theorem Jz{F:Hp}{k:TK}:∀{ws:List (TK×V×V)} {kvs:List (TK×D)},ws.map (·.1)=kvs.map (·.1)->aw K F (ws.map (·.2.2)) (kvs.map (·.2))->(jH ws k=none/\i8 kvs k=none)\/∃v d,jH ws k=some v/\i8 kvs k=some d/\aw K F [v] [d]
 |[],[],_,_=>.inl ⟨rfl,rfl⟩
 |w::ws,p::kvs,h,r=>by
  rw[c_,c_] at h;injection h with h1 h2;unfold jH i8;rw[qB,qB,h1];by_cases e:p.1=k
  .rw[jt e];exact .inr ⟨w.2.2,p.2,rfl,rfl,r.inv.1⟩
  .rw[jc e];exact Jz h2 r.inv.2
 |[],_::_,h,_=>by simp at h
 |_::_,[],h,_=>by simp at h
def T8{F:Hp}{k:TK}{ws:List (TK×V×V)}{kvs:List (TK×D)}(h:ws.map (·.1)=kvs.map (·.1))(r:aw K F (ws.map (·.2.2)) (kvs.map (·.2))):(jH ws k).isSome=(i8 kvs k).isSome:=by
 rcases Jz (k:=k) h r with⟨e1,e2⟩|⟨v,d,e1,e2,_⟩ <;> rw[e1,e2] <;> rfl
def cw(neg:Bool):List O->ai O
 |[a,b]=>match iG b with
  |some kvs=>(match a with
   |.Y d=>(cI d).bind λk=>some (.Y (.bl (if neg then !(i8 kvs k).isSome else(i8 kvs k).isSome)))
   |_=>none)
  |none=>(match a,b with
   |.Y (.str i),.Y (.str j)=>some (.Y (.bl (if neg then !(!(Builtin.Str.occurrences j i 0 j.length 1).isEmpty) else !(Builtin.Str.occurrences j i 0 j.length 1).isEmpty)))
   |a,b=>(pO b.d).bind λds=>if cO 40 a.d=true/\ds.all (cO 40)=true then some (.Y (.bl (if neg then !ds.any λz=>bx z a.d else ds.any λz=>bx z a.d))) else none)
 |_=>none
def pq(neg:Bool):cS K (mY (yR K neg)) (cw neg):=by
 intro F H vs os o Q le eU e res;unfold cw at e;split at e
 .rename_i a b
  obtain⟨x,y,B,C,rfl,h1,h2⟩:=eU.two;cases q:iG b with
  |some kvs=>
   rw[q] at e;dsimp only at e;cases a with
   |Y d=>
    dsimp only at e;cases q2:cI d with
    |none=>rw[q2] at e;cases e
    |some k=>
     rw[q2] at e;cases e;obtain⟨p,ws,ep,rfl,hp,hk,rk,hr⟩:=VZ le h2 q;refine⟨_,_,rfl,.inr (.inr ⟨p,jH ws k,rfl,⟨ws,ep,k,hp,rk,by rw[(nF q2).1];exact o9 le h1,(nF q2).2,rfl⟩,?_⟩)⟩
     rw[T8 hk hr];exact res.flat rfl
   |_=>cases e
  |none=>
   rw[q] at e;dsimp only at e;split at e
   .cases e;cases jw h1 rfl;cases jw h2 rfl;exact⟨_,_,rfl,.inr (.inl ⟨_,_,rfl,rfl,res.flat rfl⟩)⟩
   .cases q3:pO b.d with
    |none=>rw[q3] at e;cases e
    |some ds=>
     rw[q3] at e;dsimp only[Option.bind] at e;split at e
     .rename_i hh
      cases e;exact⟨_,_,rfl,.inl ⟨_,_,ds,o9 le h1,o9 le h2,q3,hh.1,hh.2,res.flat rfl⟩⟩
     .cases e
 .cases e
def yS(neg:Bool):R2:=λx y H Q=>(y=.bh/\Q (.bl (if neg then !decide (x=.bh) else decide (x=.bh))) H)\/∃a b,x=.bl a/\y=.bl b/\Q (.bl (if neg then a != b else a == b)) H
def Zm:gM X (compareOp .Is) (yS false):=yM.or Zd
def Px:gM X (compareOp .IsNot) (yS true):=vm.or Xp
def sW:O->Bool
 |.Y .bh=>true
 |_=>false
noncomputable def SE(neg b:Bool):O->ai O
 |.Y (.bl a)=>some (.Y (.bl (if neg then a != b else a == b)))
 |_=>none
def SF(neg:Bool)(a:O):O->ai O
 |.Y .bh=>some (.Y (.bl (if neg then !sW a else sW a)))
 |.Y (.bl b)=>SE neg b a
 |_=>none
def kY(neg:Bool):List O->ai O
 |[a,b]=>SF neg a b
 |_=>none
def V0{F H:Hp}{x:V}{o:O}{B:List ah}(h:aj K F H [some x] [some o] B):decide (x=.bh)=sW o:=by
 cases h with
 |@Y _ d _ _ _ r _=>
  cases r with
  |flat q _=>cases d <;> cases q <;> rfl
  |lst _ _ _=>rfl
  |tup _ _ _=>rfl
  |aF _ _ _ _ _=>rfl
  |fG _ _=>rfl
  |exc _ _=>rfl
  |obj _=>rfl
 |lst _ _ _=>rfl
 |tup _ _ _=>rfl
 |aF _ _ _ _ _=>rfl
 |ins _ _ _ _ _=>rfl
def Kv(neg:Bool):cS K (mY (yS neg)) (kY neg):=by
 intro F H vs os o Q le eU e res;unfold kY at e;split at e
 .obtain⟨x,y,B,C,rfl,h1,h2⟩:=eU.two;unfold SF at e;split at e
  .cases e;cases jw h2 rfl;refine⟨_,_,rfl,.inl ⟨rfl,?_⟩⟩;rw[V0 h1];exact res.flat rfl
  .unfold SE at e;split at e
   .cases e;cases jw h1 rfl;cases jw h2 rfl;exact⟨_,_,rfl,.inr ⟨_,_,rfl,rfl,res.flat rfl⟩⟩
   .cases e
  .cases e
 .cases e
def DY(K:FG):R2:=λx y H Q=>yT K x y H Q\/yU K x y H Q\/DZ x y H Q\/∃a v,x=.ref a/\jv K H a y (some v)/\Q v H
def XD(hu:X.A.units+9<cLine):qF X (λx y H Q=>∃a v,x=.ref a/\jv X.K H a y (some v)/\Q v H):=by
 intro value slice aa s Z H x y v u Q I rx ry h hs;obtain⟨a,w,rfl,g,q⟩:=h;cases rx;exact tail_any (g.ty I).1 PySem.F.slot_dict_getitem.lookup (N4 hu I g ry λw' s3 I3 vx=>⟨w,H,I3,vx,q⟩) hs
def K0(K:FG)(hu:X.A.units+41<cLine)(hK:X.K=K:=by rfl):qF X (DY K):=by
 subst hK;exact(VN X.K rfl).or ((Xq X.K rfl).or (yD.or (XD (by lia))))
def iL:O->ai O
 |.Y d=>some (.Y d)
 |_=>none
def iO(kvs:List (TK×O))(k:TK):ai O:=(kvs.find? λkv=>decide (kv.1=k)).map (·.2)
def intD:D->ai Int
 |.int k=>some k
 |_=>none
def xJ{i:D}{k:Int}(h:intD i=some k):i=.int k:=by
 cases i with
 |int _=>cases h;rfl
 |_=>cases h
def ixD(d i:D):ai O:=match d with
 |.lst ds=>(intD i).bind λk=>(fj ds k).map .Y
 |.tup ds=>(intD i).bind λk=>(fj ds k).map .Y
 |.fG ns=>(intD i).bind λk=>(fj (ns.map D.int) k).map .Y
 |.str z=>(intD i).bind λk=>if z.length<=1000000 then(fj z.cps.toList k).map λc=>.Y (.str ⟨#[c]⟩) else none
 |.aF kvs=>(cI i).bind λk=>(i8 kvs k).map .Y
 |_=>none
def dQ(a:O)(i:D):ai O:=match a with
 |.Y d=>ixD d i
 |.lst os=>(intD i).bind λk=>(fj os k).bind iL
 |.tup os=>(intD i).bind λk=>(fj os k).bind iL
 |.aF kvs=>(cI i).bind λk=>(iO kvs k).bind iL
 |_=>none
def bM:List O->ai O
 |[a,.Y i]=>dQ a i
 |_=>none
def JA{F:Hp}{ws:List V}{ds:List D}{i:Int}{d:D}(r:aw K F ws ds)(e:fj ds i=some d):∃v,fj ws i=some v/\aw K F [v] [d]:=by
 unfold fj at e ⊢;rw[r.length];cases q:qp ds.length i with
 |none=>rw[q] at e;cases e
 |some j=>
  rw[q] at e;exact r.get e
theorem Py{F H:Hp}:∀{ws:List V} {os:List O} {B:List ah} {j:Nat} {d:D},aj K F H (ws.map some) (os.map some) B->os[j]?=some (.Y d)->∃v,ws[j]?=some v/\aw K F [v] [d]
 |w::ws,o::os,B,0,d,h,e=>by
  obtain⟨B1,B2,h1,h2,_⟩:=aj.one h;simp at e;subst e;cases h1 with
  |Y r _=>exact⟨w,rfl,r⟩
 |w::ws,o::os,B,j+1,d,h,e=>by
  obtain⟨B1,B2,h1,h2,_⟩:=aj.one h;obtain⟨v,g1,g2⟩:=Py (j:=j) h2 (by simpa using e)
  exact⟨v,by simpa using g1,g2⟩
 |[],[],_,_,_,_,e=>by simp at e
 |[],_::_,_,_,_,h,_=>by have:=h.length;simp at this
 |_::_,[],_,_,_,h,_=>by have:=h.length;simp at this
def Pz{F H:Hp}{ws:List V}{os:List O}{B:List ah}{i:Int}{o:O}(r:aj K F H (ws.map some) (os.map some) B)(e:(fj os i).bind iL=some o):∃v d,fj ws i=some v/\aw K F [v] [d]/\o=.Y d:=by
 have hl:ws.length=os.length:=by have:=r.length;simpa using this
 unfold fj at e ⊢;rw[hl];cases q:qp os.length i with
 |none=>rw[q] at e;cases e
 |some j=>
  rw[q] at e;dsimp only[Option.bind] at e;cases q2:os[j]? with
  |none=>rw[q2] at e;cases e
  |some o'=>
   rw[q2] at e;dsimp only at e;cases o' with
   |Y d=>cases e;obtain⟨v,g1,g2⟩:=Py r q2;exact⟨v,d,g1,g2,rfl⟩
   |_=>cases e
def rO{F H:Hp}{v:V}{d:D}{B:List ah}(h:aj K F H [some v] [some (.Y d)] B):aw K F [v] [d]:=by
 cases h with
 |Y r _=>exact r
theorem PB{F H:Hp}{k:TK}{d:D}:∀{ws:List (TK×V×V)} {kvs:List (TK×O)} {B:List ah},ws.map (·.1)=kvs.map (·.1)->aj K F H (ws.map λp=>some p.2.2) (kvs.map λp=>some p.2) B->iO kvs k=some (.Y d)->∃v,jH ws k=some v/\aw K F [v] [d]
 |[],[],_,_,_,e=>by cases e
 |w::ws,p::kvs,B,h,r,e=>by
  rw[c_,c_] at h;injection h with h1 h2;obtain⟨B1,B2,g1,g2,_⟩:=aj.one r;unfold iO at e;unfold jH;rw[qB] at e ⊢;rw[h1];by_cases q:p.1=k
  .rw[jt q] at e ⊢;have e:some p.2=some (.Y d):=e;injection e with e;have g1:aj K F H [some w.2.2] [some p.2] B1:=g1;rw[e] at g1;exact⟨w.2.2,rfl,rO g1⟩
  .rw[jc q] at e ⊢;exact PB h2 g2 e
 |[],_::_,_,h,_,_=>by simp at h
 |_::_,[],_,h,_,_=>by simp at h
def e6s:cS K (mY (DY K)) bM:=by
 intro F H vs os o Q le eU e res;unfold bM at e;split at e
 .rename_i a i
  obtain⟨x,y,B,C,rfl,h1,h2⟩:=eU.two;refine⟨_,_,rfl,?_⟩;cases h1 with
  |ins _ _ _ _ _=>cases e
  |@Y _ da _ _ _ r _=>
   cases r with
   |lst sq ri _=>
    obtain⟨k,hk,ee⟩:=dC.mp (show(intD i).bind (λk=>(fj _ k).map O.Y)=some o from e)
    cases xJ hk;cases jw h2 rfl;obtain⟨d,q1,q2⟩:=j_.mp ee;subst q2;obtain⟨v,g1,g2⟩:=JA ri q1;exact .inl ⟨_,_,_,v,rfl,rfl,.inl (le.rd sq),g1,res.Y g2⟩
   |exc _ _=>cases e
   |obj _=>cases e
   |@fG _ ns _ _ sq _=>
    obtain⟨k,hk,ee⟩:=dC.mp (show(intD i).bind (λk=>(fj (ns.map D.int) k).map O.Y)=some o from e)
    cases xJ hk;cases jw h2 rfl;obtain⟨d,q1,q2⟩:=j_.mp ee;subst q2;obtain⟨v,g1,g2⟩:=JA (IW (K:=K) (F:=F) ns) q1;exact .inl ⟨_,_,_,v,rfl,rfl,le.seq sq,g1,res.Y g2⟩
   |tup sq ri _=>
    obtain⟨k,hk,ee⟩:=dC.mp (show(intD i).bind (λk=>(fj _ k).map O.Y)=some o from e)
    cases xJ hk;cases jw h2 rfl;obtain⟨d,q1,q2⟩:=j_.mp ee;subst q2;obtain⟨v,g1,g2⟩:=JA ri q1;exact .inr (.inl ⟨_,_,_,v,rfl,rfl,le.pP sq,g1,res.Y g2⟩)
   |@aF _ ws es ep _ _ hd hk rk ri _=>
    obtain⟨k,q,e⟩:=dC.mp (show(cI i).bind (λk=>(i8 es k).map O.Y)=some o from e)
    obtain⟨d,q1,q2⟩:=j_.mp e;subst q2;rcases Jz (k:=k) hk ri with⟨_,z⟩|⟨v,d',g1,g2,g3⟩
    .rw[q1] at z;cases z
    .rw[q1] at g2;cases g2;exact .inr (.inr (.inr ⟨_,v,rfl,⟨ws,ep,k,le _ _ hd,by rw[xX hk];exact rk.mono le,by rw[(nF q).1];exact o9 le h2,(nF q).2,g1.symm⟩,res.Y g3⟩))
   |flat z _=>
    cases da with
    |str zz=>
     obtain⟨k,hk,ee⟩:=dC.mp (show(intD i).bind (λk=>if zz.length<=1000000 then(fj zz.cps.toList k).map λc=>O.Y (.str ⟨#[c]⟩) else none)=some o from e)
     cases xJ hk;split at ee
     .obtain⟨c,q1,q2⟩:=j_.mp ee;subst q2;cases z;cases jw h2 rfl;exact .inr (.inr (.inl ⟨_,_,c,rfl,rfl,ml (by assumption),q1,res.flat rfl⟩))
     .cases ee
    |bh=>cases e
    |bl _=>cases e
    |int _=>cases e
    |ty _=>cases e
    |_=>cases z
  |lst sq ri _=>
   obtain⟨k,hk,ee⟩:=dC.mp (show(intD i).bind (λk=>(fj _ k).bind iL)=some o from e)
   cases xJ hk;cases jw h2 rfl;obtain⟨v,d,g1,g2,rfl⟩:=Pz ri ee;exact .inl ⟨_,_,_,v,rfl,rfl,dH.of sq,g1,res.Y g2⟩
  |tup sq ri _=>
   obtain⟨k,hk,ee⟩:=dC.mp (show(intD i).bind (λk=>(fj _ k).bind iL)=some o from e)
   cases xJ hk;cases jw h2 rfl;obtain⟨v,d,g1,g2,rfl⟩:=Pz ri ee;exact .inr (.inl ⟨_,_,_,v,rfl,rfl,gY.of sq,g1,res.Y g2⟩)
  |@aF _ ws es ep _ _ _ _ hd hk rk ri _=>
   obtain⟨k,q,e⟩:=dC.mp (show(cI i).bind (λk=>(iO es k).bind iL)=some o from e)
   obtain⟨o',q2,e⟩:=dC.mp e;cases o' with
   |Y d=>
    cases e;obtain⟨v,g1,g2⟩:=PB hk ri q2;exact .inr (.inr (.inr ⟨_,v,rfl,⟨ws,ep,k,hd,by rw[xX hk];exact rk.mono le,by rw[(nF q).1];exact o9 le h2,(nF q).2,g1.symm⟩,res.Y g2⟩))
   |_=>cases e
 .cases e
def wX(K:FG):List V->Hp->VK->Prop:=λxs H Q=>(∃p ys,xs=[.ref p]/\(dH K H p ys\/gY K H p ys)/\Q (.int ys.length) H)\/(∃z,xs=[.str z]/\z.length<=sizeLine/\Q (.int z.length) H)
def qI(K:FG)(hK:X.K=K:=by rfl):cA X (.builtin "len") (wX K):=(TB K hK).or TL
noncomputable def vh:D->ai Int
 |.lst ds=>some ds.length
 |.tup ds=>some ds.length
 |.str z=>if z.length<=1000000 then some z.length else none
 |.fG ns=>some ns.length
 |_=>none
def iJ:List O->ai O
 |[a]=>(vh a.d).map λn=>.Y (.int n)
 |_=>none
def qP:cS K (wX K) iJ:=by
 intro F H vs os o Q le eU e res;unfold iJ at e;split at e
 .rename_i a
  obtain⟨x,B,rfl,h1⟩:=eU.one;obtain⟨n,q1,q2⟩:=j_.mp e;subst q2;have r:=o9 le h1;cases hd:a.d with
  |lst ds=>
   rw[hd] at q1 r;cases q1;cases r with
   |flat z _=>cases z
   |lst sq ri _=>exact .inl ⟨_,_,rfl,.inl (.inl sq),by rw[ri.length];exact res.flat rfl⟩
  |tup ds=>
   rw[hd] at q1 r;cases q1;cases r with
   |flat z _=>cases z
   |tup sq ri _=>exact .inl ⟨_,_,rfl,.inr sq,by rw[ri.length];exact res.flat rfl⟩
  |str z=>
   rw[hd] at q1 r;unfold vh at q1;dsimp only at q1;split at q1
   .cases q1;cases r with
    |flat z _=>cases z;exact .inr ⟨_,rfl,ml (by assumption),res.flat rfl⟩
   .cases q1
  |fG ns=>
   rw[hd] at q1 r;cases q1;cases r with
   |flat z _=>cases z
   |fG sq _=>exact .inl ⟨_,_,rfl,.inl sq,by rw[bY];exact res.flat rfl⟩
  |_=>rw[hd] at q1;cases q1
 .cases e
noncomputable def mw:D->ai String
 |.bh=>some "NoneType"
 |.bl _=>some "bool"
 |.int _=>some "int"
 |.str _=>some "str"
 |.lst _=>some "list"
 |.tup _=>some "tuple"
 |_=>none
def iu:List O->ai O
 |[a,.Y (.ty T)]=>if T="int"\/T="str"\/T="bool"\/T="list"\/T="tuple" then(mw a.d).map λk=>.Y (.bl (lW k T)) else none
 |_=>none
def V1{H:Hp}{x:V}{d:D}{k:String}(r:aw K H [x] [d])(e:mw d=some k):Gh K H x k:=by
 cases r with
 |flat q _=>cases d <;> cases e <;> cases q <;> rfl
 |lst sq _ _=>cases e;exact .inl ⟨rfl,_,.inl sq⟩
 |tup sq _ _=>cases e;exact .inr ⟨rfl,_,sq⟩
 |aF _ _ _ _ _=>cases e
 |fG _ _=>cases e
 |exc _ _=>cases e
 |obj _=>cases e
def J5:cS K (λxs H Q=>∃x k T,xs=[x,.ty T]/\Gh K H x k/\(T="int"\/T="str"\/T="bool"\/T="list"\/T="tuple")/\Q (.bl (lW k T)) H) iu:=by
 intro F H vs os o Q le eU e res;unfold iu at e;split at e
 .split at e
  .obtain⟨x,y,B,C,rfl,h1,h2⟩:=eU.two;obtain⟨k,q1,q2⟩:=j_.mp e;subst q2;cases jw h2 rfl;exact⟨x,k,_,rfl,V1 (o9 le h1) q1,by assumption,res.flat rfl⟩
  .cases e
 .cases e
noncomputable def om:List O->ai O
 |[.Y (.int i)]=>some (.Y (.int i))
 |[.Y (.bl b)]=>some (.Y (.int (if b then 1 else 0)))
 |_=>none
def PC:cS K (λxs H Q=>(∃i,xs=[.int i]/\Q (.int i) H)\/∃k,xs=[.bl k]/\Q (.int (if k then 1 else 0)) H) om:=by
 intro F H vs os o Q le eU e res;unfold om at e;split at e
 .cases e;obtain⟨x,B,rfl,h1⟩:=eU.one;cases jw h1 rfl;exact .inl ⟨_,rfl,res.flat rfl⟩
 .cases e;obtain⟨x,B,rfl,h1⟩:=eU.one;cases jw h1 rfl;exact .inr ⟨_,rfl,res.flat rfl⟩
 .cases e
def Eb(o:O):ai (List D):=match dz o with
 |some ds=>some ds
 |none=>tW o
def i_:List O->ai O
 |[a]=>(Eb a).map λds=>.lst (ds.map .Y)
 |_=>none
def FJ:cS K (λxs H Q=>∃p ys,xs=[.ref p]/\(dH K H p ys\/gY K H p ys)/\∀l,H l=none->Q (.ref l) (upd H l (.lst ys))) i_:=by
 intro F H vs os o Q le eU e res;unfold i_ at e;split at e
 .rename_i a
  obtain⟨x,B,rfl,h1⟩:=eU.one;obtain⟨ds,q1,q2⟩:=j_.mp e;subst q2;unfold Eb at q1;cases q:dz a with
  |some KH=>
   rw[q] at q1;cases q1;obtain⟨p,ws,rfl,sq,r⟩:=vT le h1 q;exact⟨p,ws,rfl,.inl sq,λl hl=>res.lst r hl⟩
  |none=>
   rw[q] at q1;obtain⟨p,ws,rfl,sq,r⟩:=FH le h1 q1;exact⟨p,ws,rfl,.inr sq,λl hl=>res.lst r hl⟩
 .cases e
end
def l5(K:FG)(r:V->List V->Hp->VK->Prop)(g:O->List O->ai (O×O)):Prop:=
 ∀(F H:Hp) (x:V) (vs:List V) (o:O) (os:List O) (o' res:O) (Ai Aτ:List ah) (Q:VK),aI F H->aj K F H [some x] [some o] Ai->aj K F H (vs.map some) (os.map some) Aτ->(Ai++Aτ).Nodup->(∀a∈Ai++Aτ,F a=none)->
  g o os=some (o',res)->
  (∀v H' A' Ar,(∀a u,a∉Ai->H a=some u->H' a=some u)->(∀a,H a≠none->H' a≠none)->lZ H H'->aj K F H' [some x] [some o'] A'->aj K F H' [some v] [some res] Ar->aS (Ar++A') (Ai++Aτ)->Q v H')->r x vs H Q
def ir(g:O->List O->ai (O×O))(fo:GE)(fs:GA):GE:=λQ0=>(fo Q0).bind λp=>match p.1 with
 |.var i=>match p.2[i]? with
  |some (some (.lst _))=>(fs p.2).bind λq=>(gH q.1).bind λos=>match q.2[i]? with
   |some (some o)=>(g o os).bind λz=>some (.own z.2,q.2.set i (some z.1))
   |_=>none
  |_=>none
 |_=>none
section
variable{K:FG}{F H:Hp}{A:List ah}{Z:St}{Q0:Gm}
def V2{g:O->List O->ai (O×O)}{fo:GE}{fs:GA}{Q0 au:Gm}{r:R}(e:ir g fo fs Q0=some (r,au)):
  ∃i aE ps rs cq os o z,fo Q0=some (.var i,aE)/\aE[i]?=some (some (.lst ps))/\fs aE=some (rs,cq)/\gH rs=some os/\cq[i]?=some (some o)/\g o os=some z/\r=.own z.2/\au=cq.set i (some z.1):=by
 unfold ir at e;cases q:fo Q0 with
 |none=>rw[q] at e;cases e
 |some p=>
  obtain⟨r1,aE⟩:=p;rw[q] at e;dsimp only[Option.bind] at e;cases r1 with
  |own _=>cases e
  |fld _ _=>cases e
  |var i=>
   dsimp only at e;split at e
   .rename_i ps h1
    cases q2:fs aE with
    |none=>rw[q2] at e;cases e
    |some p2=>
     obtain⟨rs,cq⟩:=p2;rw[q2] at e;dsimp only at e;cases q3:gH rs with
     |none=>rw[q3] at e;cases e
     |some os=>
      rw[q3] at e;dsimp only at e;split at e
      .rename_i o h2
       cases q4:g o os with
       |none=>rw[q4] at e;cases e
       |some z=>rw[q4] at e;cases e;exact⟨i,aE,ps,rs,cq,os,o,z,rfl,h1,q2,q3,h2,q4,rfl,rfl⟩
      .cases e
   .cases e
def OK.sU{vs:List V}{os:List O}{i:Nat}{x:V}{o o' res:O}{g:O->List O->ai (O×O)}{r:V->List V->Hp->VK->Prop}{Q:VK}(ok:l5 K r g)(k:OK K F H (vs.map some++Z) (os.map some++Q0) A)(hx:Z[i]?=some (some x))(ho:Q0[i]?=some (some o))
  (hl:vs.length=os.length) (e:g o os=some (o',res)) (q:∀v H' A',Ext F H A F H' A'->OK K F H' (some v::Z) (some res::Q0.set i (some o')) A'->Q v H'):r x vs H Q:=by
 obtain⟨B,C,h1,h2,h3⟩:=aj.split (by simpa using hl) k.os
 subst h3;obtain⟨x',Ai,C',g1,g2,g3,g4⟩:=h2.take ho;rw[hx] at g1;cases g1;have p1:(B++C).Perm ((Ai++B)++C'):=by
  refine(List.Perm.append_left B g4).trans ?_;rw[<-ie];exact qA.append_right _
 have nd:((Ai++B)++C').Nodup:=p1.nodup_iff.mp k.nd;have fr:∀a∈(Ai++B)++C',F a=none:=λa m=>k.fr a (p1.mem_iff.mpr m)
 obtain⟨n1,n2,n3⟩:=lD.mp nd;have nC:∀a∈C',a∉Ai:=λa m z=>n3 a (jb _ z) a m rfl
 refine ok F H x vs o os o' res Ai B Q k.le g2 h1 n1 (λa m=>fr a (jb _ m)) e λv H' A' Ar kp dm at' w1 w2 sp=>?_
 have s2:aS ((Ar++A')++C') ((Ai++B)++C'):=sp.app (aS.refl C');have hi:i<Q0.length:=(jX.mp ho).1;have Dc:aj K F H' Z (Q0.set i none) C':=g3.keep (aI.refl _) λa m u e=>kp a u (nC a m) e
 obtain⟨D,j1,C2,j2,j3⟩:=aj.put w1 i Dc (by rw[HH];exact hi)
 rw[xA hx,MR] at j1;have s3:aS (Ar++D) (B++C):=by
  have a1:aS (Ar++D) (Ar++(A'++C')):=(aS.refl Ar).app ((aS.bX j2).trans ((aS.refl A').app (.bK j3)));rw[<-ie] at a1;exact a1.trans (s2.trans (.bX p1.symm))
 refine q v H' (Ar++D) ⟨aI.refl _,λa u e n=>kp a u (λm=>n (p1.mem_iff.mpr (by simp[m]))) e,dm,λa h=>.inl h,λa m=>.inl (s3.mem a m),at'⟩ ⟨λa u e=>?_,w2.app j1,s3.nodup k.nd,λa m=>k.fr a (s3.mem a m)⟩
 refine kp a u (λm=>?_) (k.le a u e)
 rw[fr a (by simp[m])] at e
 cases e
end
section
variable{X:Cx}{K:FG}{o e:Expr}{es:List Expr}{fo:GE}{fs:GA}{name:Str}{apos cU:Pos}{id:String}{r:V->List V->Hp->VK->Prop}{g:O->List O->ai (O×O)}
def Zn(ok:l5 K r g){Z:St}{H:Hp}{Q:VK}(t:tG K (ir g fo fs) Z H Q):Mu K "list" r (tG K fo) (jW K fs) Z H Q:=by
 obtain⟨F,A,Q0,rr,au,k,e,w⟩:=t;obtain⟨i,aE,ps,rs,cq,os,o,z,e1,e2,e3,e4,e5,e6,rfl,rfl⟩:=V2 e;refine⟨F,A,Q0,_,aE,k,e1,λx H1 p=>?_⟩
 obtain⟨F1,A1,x1,k1,hh⟩:=p;have hx:Z[i]?=some (some x):=hh.1;obtain⟨k2,x2⟩:=k1.sub (Z':=Z) (au:=aE) (by cases k1.os with|skip t=>exact t) (aS.refl _)
 refine⟨?_,F1,A1,aE,rs,cq,k2,e3,λvs H2 p2=>?_⟩
 .obtain⟨v,Ai,B,g1,g2,_⟩:=k2.os.take e2;rw[hx] at g1;cases g1;cases g2 with
  |lst hq _ _=>exact .inl ⟨rfl,_,dH.of hq⟩
 .obtain⟨F3,A3,x3,k3,h3⟩:=p2;rw[uP e4] at k3;have hl:vs.length=os.length:=by
   have:=h3.length;have h4:=congrArg List.length (uP e4);simp at h4;lia
  exact OK.sU ok k3 hx e5 hl e6 λv H' A' x4 k4=>w v H' ⟨F3,A',(x1.trans (x2.trans (x3.trans x4))),k4,i9⟩
def qQ(slot:Slot "list" name id)(yA:typeOf (.builtin id)=pure (.type "method_descriptor"))(hm:By X id r)(ok:l5 K r g)(ho:PE X o (tG K fo))(ha:PA X (e::es) (jW K fs))
  (n_:attributeBase o name X.env (eval o X.env)=eval o X.env:=by rfl)
  (sA:((backTo cU (starEach (e::es) X.env)).all (λx => !x.1)&&(backToKw cU (keywordEach [] X.env)).all (λx=>x.1.isSome) && decide ((e::es).length+([]:List Keyword).length+(if([]:List Keyword).isEmpty then 0 else 1)<30))=true:=by rfl)
  (oa:(apos.endLine == cU.line)=true:=by rfl) (hs:starEach (e::es) X.env=(false,eval e X.env)::starEach es X.env:=by rfl) (kU:(backTo cU (starEach es X.env)).any (·.1)=false:=by rfl) (hK:X.K=K:=by rfl) :
  PE X (.Call (.Attribute o name apos) (e::es) [] cU) (tG K (ir g fo fs)):=by
 subst hK;exact(RL PySem.F.plainAttrs_list slot yA hm ho ha n_ sA oa hs kU).mono λ_ _ _ t=>Zn ok t
end
section
variable{K:FG}{F H:Hp}{l:ah}{ws Bh:List V}{ps Be:List O}{Ap A':List ah}
def T9(hn:l∉A')(h:aj K F H (Bh.map some) (Be.map some) A'):aj K F (upd H l (.lst Bh)) [some (.ref l)] [some (.lst Be)] (l::A'++[]):=
 .lst iQ (h.keep (aI.refl _) λa m u e=>by rw[cK (λz=>hn (by rw[<-z];exact m):a≠l)];exact e) .nil
def OJ{o:HO}{Ai:List ah}(hm:l∈Ai):∀a u,a∉Ai->H a=some u->upd H l o a=some u:=λa u n e=>by
 rw[cK (λz=>n (by rw[z];exact hm):a≠l)];exact e
def BY{o:HO}:∀a,H a≠none->upd H l o a≠none:=λa h=>by
 by_cases z:a=l
 .rw[z,iQ];exact λz=>by cases z
 .rw[cK z];exact h
def IX{x:V}{Ai Aτ:List ah}{Q:VK}{o:O}(h:aj K F H [some x] [some o] Ai)(hps:o=.lst ps)(nd:(Ai++Aτ).Nodup){o' res:O}
  (q:∀v H' A' Ar,(∀a u,a∉Ai->H a=some u->H' a=some u)->(∀a,H a≠none->H' a≠none)->lZ H H'->aj K F H' [some x] [some o'] A'->aj K F H' [some v] [some res] Ar->aS (Ar++A') (Ai++Aτ)->Q v H') :
  ∃l ws Ap,x=.ref l/\H l=some (.lst ws)/\aj K F H (ws.map some) (ps.map some) Ap/\(Ap++Aτ).Nodup/\∀Bh Be A' v Ar,o'=.lst Be->aj K F H (Bh.map some) (Be.map some) A'->aj K F H [some v] [some res] Ar->aS (Ar++A') (Ap++Aτ)->Q v (upd H l (.lst Bh)):=by
 subst hps;cases h with
 |@lst l ws _ Ap B _ _ hl i t=>
  have eB:B=[]:=by cases t;rfl
  subst eB;rw[j9] at nd q;obtain⟨nl,Hl⟩:=jr.mp (by simpa using nd:(l::(Ap++Aτ)).Nodup)
  refine⟨l,ws,Ap,rfl,hl,i,Hl,λBh Be A' v Ar eo w1 w2 sp=>?_⟩
  subst eo;have nA:l∉A':=λm=>nl (sp.mem l (iB _ m))
  have nR:l∉Ar:=λm=>nl (sp.mem l (jb _ m))
  refine q v _ _ Ar (OJ (by simp)) BY (.upd λC dx fs z=>by rw[hl] at z;cases z) (T9 nA w1) (w2.keep (aI.refl _) λa m u e=>by rw[cK (λz=>nR (by rw[<-z];exact m):a≠l)];exact e) ?_
  rw[j9];have s1:aS (Ar++l::A') (l::(Ar++A')):=.bX (by simpa using List.perm_middle)
  refine s1.trans ?_;obtain⟨L,p1,p2⟩:=sp;exact⟨l::L,p1.cons l,by rw[y8];exact p2.cons_cons l⟩
def FK:aj K F H [some .bh] [some (.Y .bh)] []:=.Y (.flat rfl .nil) .nil
noncomputable def oS:O->List O->ai (O×O)
 |.lst ps,[y]=>if ps.length<1000000 then some (.lst (ps++[y]),.Y .bh) else none
 |_,_=>none
def uN:l5 K Pf oS:=by
 intro F H x vs o os o' res Ai Aτ Q le h1 h2 nd fr e q;unfold oS at e;split at e
 .rename_i ps y
  split at e
  .rename_i hz
   cases e;obtain⟨l,ws,Ap,rfl,hl,i,Hl,go⟩:=IX h1 rfl nd q
   match vs,h2 with
   |[v],h2=>
    have hlen:ws.length=ps.length:=by have:=i.length;simpa using this
    refine⟨l,ws,v,rfl,rfl,hl,iA (by lia:ws.length<1000000) (by decide),?_⟩
    refine go (ws++[v]) (ps++[y]) (Ap++Aτ) .bh [] rfl ?_ FK (aS.refl _);rw[jI,jI];exact i.app h2
   |[],h2=>have:=h2.length;simp at this
   |_::_::_,h2=>have:=h2.length;simp at this
  .cases e
 .cases e
noncomputable def xK:O->List O->ai (O×O)
 |.lst ps,[.Y (.int i),y]=>if 0<=i/\i<1000000/\ps.length<1000000 then some (.lst (ps.take i.toNat++y::ps.drop i.toNat),.Y .bh) else none
 |_,_=>none
def E3:l5 K Pk xK:=by
 intro F H x vs o os o' res Ai Aτ Q le h1 h2 nd fr e q;unfold xK at e;split at e
 .rename_i ps k y
  split at e
  .rename_i hz
   cases e;obtain⟨l,ws,Ap,rfl,hl,i,Hl,go⟩:=IX h1 rfl nd q
   match vs,h2 with
   |[v,v'],h2=>
    have hlen:ws.length=ps.length:=by have:=i.length;simpa using this
    obtain⟨rfl,h3⟩:=t_ h2;refine⟨l,ws,k,v',rfl,rfl,hl,hz.1,by lia,iA (by lia:ws.length<1000000) (by decide),?_⟩
    have es:aj K F H ((ws.take k.toNat).map some++(ws.drop k.toNat).map some) ((ps.take k.toNat).map some++(ps.drop k.toNat).map some) Ap:=by
     rw[<-jI,<-jI,vI,vI];exact i
    obtain⟨B,C,g1,g2,g3⟩:=aj.split (by simp[hlen]) es
    subst g3;refine go (qX ws k.toNat v') (ps.take k.toNat++y::ps.drop k.toNat) (B++(Aτ++C)) .bh [] rfl ?_ FK ?_
    .unfold qX;rw[jI,jI,c_,c_];exact g1.app (h3.app g2)
    .rw[ig,ie];exact(aS.refl B).app (.bX qA)
   |[],h2=>have:=h2.length;simp at this
   |[_],h2=>have:=h2.length;simp at this
   |_::_::_::_,h2=>have:=h2.length;simp at this
  .cases e
 .cases e
end
def tM(K:FG):qH:=λo i v H Q=>wZ o i v H Q\/∃a H4,o=.ref a/\uK K H a i v H4/\Q H4
def Kw{X:Cx}(hu:X.A.units+41<cLine):uI X (tM X.K):=by
 intro aa s Z H o i v ov iv u Q I ro ri rv h;rcases h with h|⟨a,H4,rfl,g,q⟩
 .exact VJ aa s Z H o i v ov iv u Q I ro ri rv h
 .cases ro;exact UW (by lia) I g ri rv λs4 I4=>⟨H4,I4,q⟩
noncomputable def cP{α:Type}:List (TK×α)->TK->α->List (TK×α)
 |[],k,v=>[(k,v)]
 |e::es,k,v=>if e.1=k then(e.1,v)::es else e::cP es k v
def Ec(v:O)(i:D):O->ai (O×O)
 |.lst ps=>(intD i).bind λk=>(qp ps.length k).map λj=>(.lst (ps.set j v),.Y .bh)
 |.aF kvs=>(cI i).bind λk=>if kvs.length<1000000 then some (.aF (cP kvs k v),.Y .bh) else none
 |_=>none
def jS(o:O):List O->ai (O×O)
 |[v,.Y i]=>Ec v i o
 |_=>none
def w6(K:FG):V->List V->Hp->VK->Prop:=λx vs H Q=>∃v i,vs=[v,i]/\tM K x i v H λH'=>Q .bh H'
section
variable{K:FG}{F H:Hp}
theorem IY{k:TK}{y v:V}{o:O}{Bv:List ah}(q:aj K F H [some v] [some o] Bv)(ry:aw K F [y] [k.d]):∀{ws:List (TK×V×V)} {kvs:List (TK×O)} {B:List ah},ws.map (·.1)=kvs.map (·.1)->aw K F (ws.map (·.2.1)) (kvs.map (·.1.d))->
  aj K F H (ws.map λp=>some p.2.2) (kvs.map λp=>some p.2) B->∃C,aj K F H ((hU ws k y v).map λp=>some p.2.2) ((cP kvs k o).map λp=>some p.2) C/\aS C (Bv++B)/\(hU ws k y v).map (·.1)=(cP kvs k o).map (·.1)/\
   aw K F ((hU ws k y v).map (·.2.1)) ((cP kvs k o).map (·.1.d))
 |[],[],B,_,_,h=>⟨Bv,q,.bK (List.sublist_append_left _ _),rfl,ry⟩
 |w::ws,p::kvs,B,hk,rk,h=>by
  rw[c_,c_] at hk;injection hk with h1 h2;obtain⟨B1,B2,g1,g2,rfl⟩:=aj.one h;unfold hU cP;rw[h1];by_cases e:p.1=k
  .rw[aT e,aT e];refine⟨Bv++B2,aj.app (τ:=[some v]) (Θ:=[some o]) q g2,.bK ((List.Sublist.refl _).append (oG _ _)),?_,?_⟩
   .simp only[c_,h2]
   .simp only[c_];exact rk
  .rw[aW e,aW e];obtain⟨C,j1,j2,j3,j4⟩:=IY q ry h2 rk.inv.2 g2;refine⟨B1++C,aj.app (τ:=[some w.2.2]) (Θ:=[some p.2]) g1 j1,?_,?_,?_⟩
   .refine((aS.refl B1).app j2).trans (.bX ?_);rw[<-ie,<-ie];exact qA.append_right _
   .simp only[c_,h1,j3]
   .exact .cons rk.inv.1 j4
 |[],_::_,_,h,_,_=>by simp at h
 |_::_,[],_,h,_,_=>by simp at h
def JB{F H:Hp}{v:V}{kvs:List (TK×O)}{A:List ah}(h:aj K F H [some v] [some (.aF kvs)] A):∃a ws ep Ap,v=.ref a/\A=a::Ap/\H a=some (.dG ws ep)/\ws.map (·.1)=kvs.map (·.1)/\aw K F (ws.map (·.2.1)) (kvs.map (·.1.d))/\aj K F H (ws.map λp=>some p.2.2) (kvs.map λp=>some p.2) Ap:=by
 cases h with
 |@aF a ws _ ep Ap B _ _ hl hk rk ch t=>
  cases t;exact⟨a,ws,ep,Ap,rfl,j9 _,hl,hk,rk,ch⟩
def Zo:l5 K (w6 K) jS:=by
 intro F H x vs o os o' res Ai Aτ Q le h1 h2 nd fr e q;unfold jS at e;split at e
 case h_2=>cases e
 rename_i ov i
 unfold Ec at e;split at e
 .rename_i ps
  obtain⟨k,hk,e⟩:=dC.mp e;cases xJ hk;obtain⟨j,e1,e2⟩:=j_.mp e;cases e2;obtain⟨l,ws,Ap,rfl,hl,i,Hl,go⟩:=IX h1 rfl nd q;obtain⟨v,v',rfl⟩:=Ku (l:=vs) (by have:=h2.length;simp at this;lia)
  have hlen:ws.length=ps.length:=by have:=i.length;simpa using this
  obtain⟨B1,B2,g1,g2,rfl⟩:=aj.one h2;obtain⟨rfl,g3⟩:=t_ g2;cases g3;have hj:j<ps.length:=(Ju e1).2.1;refine⟨v,.int k,rfl,.inl ⟨l,ws,k,j,rfl,rfl,hl,by rw[hlen];exact e1,?_⟩⟩
  obtain⟨D,j1,C2,j2,j3⟩:=aj.put g1 j i (by simpa using hj)
  refine go (ws.set j v) (ps.set j ov) D .bh [] rfl (by rw[List.map_set,List.map_set];exact j1) FK ?_
  rw[ig,j9];exact((aS.bX j2).trans ((aS.refl B1).app (.bK j3))).trans (.bX qA)
 .rename_i kvs
  cases q1:cI i with
  |none=>rw[q1] at e;cases e
  |some k=>
   rw[q1] at e;dsimp only[Option.bind] at e;split at e
   .rename_i hz
    cases e;obtain⟨v,v',rfl⟩:=Ku (l:=vs) (by have:=h2.length;simp at this;lia)
    obtain⟨B1,B2,g1,g2,rfl⟩:=aj.one h2;have ry:aw K F [v'] [k.d]:=by rw[(nF q1).1];exact rO g2
    obtain⟨l,ws,ep,Ap,rfl,rfl,hl,hk,rk,ch⟩:=JB h1;obtain⟨C,j1,j2,j3,j4⟩:=IY (k:=k) g1 ry hk rk ch;have hlen:ws.length=kvs.length:=by have:=congrArg List.length hk;simpa using this
    have nd1:(l::(Ap++(B1++B2))).Nodup:=by simpa using nd
    have nC:l∉C:=λm=>(jr.mp nd1).1 (by
     rcases eR.mp (j2.mem l m) with z|z
     .simp[z]
     .simp[z])
    refine⟨v,v',rfl,.inr ⟨l,_,rfl,⟨ws,ep,k,hl,by rw[xX hk];exact rk.mono le,ry.mono le,(nF q1).2,iA (by lia:ws.length<1000000) (by decide),rfl⟩,?_⟩⟩
    refine q .bh _ (l::C++[]) [] (OJ (by simp)) BY (.upd λC dx fs z=>by rw[hl] at z;cases z) (.aF iQ j3 j4 (j1.keep (aI.refl _) λa m u e=>by rw[cK (λz=>nC (by rw[<-z];exact m):a≠l)];exact e) .nil) FK ?_
    rw[ig,j9];refine((aS.refl [l]).app j2).trans ⟨l::(Ap++B1),?_,?_⟩
    .show(l::(B1++Ap)).Perm _;exact qA.cons l
    .exact((List.Sublist.refl Ap).append (List.sublist_append_left B1 B2)).cons_cons l
   .cases e
 .cases e
end
def gD(fv fo fi:GE):GS:=λQ0=>(fv Q0).bind λp=>(fo p.2).bind λq=>(fi q.2).bind λr=>match p.1,q.1,r.1 with
 |.own v,.var i,.own y=>match r.2[i]? with
  |some (some o)=>(jS o [v,y]).bind λz=>some (.nx,r.2.set i (some z.1))
  |_=>none
 |_,_,_=>none
section
variable{X:Cx}{K:FG}{m:List Bool}{W:ai XW}{e o i:Expr}{fv fo fi:GE}{pos pos':Pos}
def UX{Q0 au:Gm}{fl:Fl}(e:gD fv fo fi Q0=some (fl,au)):∃v aE j cq y oJ o z,fv Q0=some (.own v,aE)/\fo aE=some (.var j,cq)/\fi cq=some (.own y,oJ)/\oJ[j]?=some (some o)/\jS o [v,y]=some z/\fl=.nx/\au=oJ.set j (some z.1):=by
 unfold gD at e;cases q1:fv Q0 with
 |none=>rw[q1] at e;cases e
 |some p=>
  obtain⟨r1,aE⟩:=p;rw[q1] at e;dsimp only[Option.bind] at e;cases q2:fo aE with
  |none=>rw[q2] at e;cases e
  |some p=>
   obtain⟨r2,cq⟩:=p;rw[q2] at e;dsimp only at e;cases q3:fi cq with
   |none=>rw[q3] at e;cases e
   |some p=>
    obtain⟨r3,oJ⟩:=p;rw[q3] at e;dsimp only at e;cases r1 with
    |var _=>cases e
    |fld _ _=>cases e
    |own v=>
     cases r2 with
     |own _=>cases e
     |fld _ _=>cases e
     |var j=>
      cases r3 with
      |var _=>cases e
      |fld _ _=>cases e
      |own y=>
       dsimp only at e;split at e
       .rename_i oo h
        cases q4:jS oo [v,y] with
        |none=>rw[q4] at e;cases e
        |some z=>rw[q4] at e;cases e;exact⟨v,aE,j,cq,y,oJ,oo,z,rfl,q2,q3,h,q4,rfl,rfl⟩
       .cases e
def zS(he:PE X e (tG K fv))(ho:PE X o (tG K fo))(hi:PE X i (tG K fi))(hu:X.A.units+41<cLine)
  (ha:∀v,assign (.Subscript o i pos') X.env v=(do
   let ov <-holding [v] (eval o X.env)
   let iv <-holding [v,ov] (eval i X.env)
   standAt pos'
   holding [v,ov,iv] (setItem ov iv v)
   release [v,ov,iv] []):=by intro _;rfl)
  (hs:swapsWithSole [.Subscript o i pos'] e pos.line X.env=pure false:=by rfl) (hw:swappedStores [.Subscript o i pos'] e X.env=pure none:=by rfl)
  (h1:(assignEach [.Subscript o i pos'] X.env).map (·.2)=[assign (.Subscript o i pos') X.env]:=by rfl) (hK:X.K=K:=by rfl):PS X (.Assign [.Subscript o i pos'] e pos) (tS K m W (gD fv fo fi)):=by
 subst hK;refine(J0 he (QJ ho hi (Kw hu) ha) hs hw h1).mono λD Z H t=>?_
 obtain⟨F,A,Q0,fl,au,k,e,w⟩:=t;obtain⟨v,aE,j,cq,y,oJ,oo,z,e1,e2,e3,e4,e5,rfl,rfl⟩:=UX e;have t:jW X.K (aq fv (aq fo (aq fi gN))) Z H λvs H'=>∃a b c,vs=[a,b,c]/\tM X.K b c a H' λH4=>D.nx Z H4:=by
  refine⟨F,A,Q0,[.own v,.var j,.own y],oJ,k,?_,λvs H1 p=>?_⟩
  .unfold aq;simp only[e1,e2,e3,Option.bind,gN]
  .obtain⟨F1,A1,x,k1,hh⟩:=p;obtain⟨a,b,c,rfl⟩:=ω hh.length;refine⟨a,b,c,rfl,?_⟩;have hx:Z[j]?=some (some b):=hh.1;have k2:OK X.K F1 H1 ([a,c].map some++Z) ([v,y].map some++oJ) A1:=by
    obtain⟨B1,C1,g1,g2,g3⟩:=aj.one (Z:=some b::some c::Z) (Q0:=none::some y::oJ) k1.os;cases g2 with
    |skip g2=>subst g3;exact⟨k1.le,g1.app g2,k1.nd,k1.fr⟩
   have z':=OK.sU (r:=w6 X.K) (g:=jS) (Q:=λ_ H4=>D.nx Z H4) (o':=z.1) (res:=z.2) Zo k2 hx e4 rfl e5 λv' H' A' x4 k4=>by
    obtain⟨B2,k5,sub⟩:=OK.part (τ:=[some v']) (Θ:=[some z.2]) k4 rfl;exact w Z H' ⟨F1,B2,(x.trans x4).jT sub,k5,Kept.refl⟩
   obtain⟨v',i',ee,q⟩:=z';cases ee;exact q
 have t1:=xy t;refine tG.mono t1 λa H1 h=>tG.mono (xy h) λb H2 h2=>tG.mono (xy h2) λc H3 h3=>?_
 obtain⟨F,A,Q0,rs,au,k,e,w⟩:=h3;cases e;obtain⟨a',b',c',ee,q⟩:=w [] H3 ⟨F,A,Ext.refl,k,i9⟩;cases ee;exact q
end
abbrev GO:=Gm->ai (ai Int×Gm)
def Hw(K:FG)(f:GO):TO:=λZ H Q=>∃F A Q0 b au,OK K F H Z Q0 A/\f Q0=some (b,au)/\∀H',gX K F H A Z au [] [] H'->Q b H'
def zT:GO:=λQ0=>some (none,Q0)
noncomputable def vf:R->ai Int
 |.own (.Y (.int i))=>some i
 |_=>none
def xY(f:GE):GO:=λQ0=>(f Q0).bind λp=>(vf p.1).map λi=>(some i,p.2)
section
variable{X:Cx}{K:FG}{e:Expr}{fa:GE}{lo hi:ai Expr}{fl fh:GO}{pos p2:Pos}
def FL:PO X none (Hw K zT):=by
 intro aa s Z H Q I t;refine Xi aa s Z H Q I ?_;obtain⟨F,A,Q0,b,au,k,e,w⟩:=t;cases e;exact w H ⟨F,A,Ext.refl,k,i9⟩
def FN(h:PE X e (tG K fa)):PO X (some e) (Hw K (xY fa)):=by
 intro aa s Z H Q I t;refine Xj h aa s Z H Q I ?_;obtain⟨F,A,Q0,b,au,k,e,w⟩:=t;unfold xY at e;cases q:fa Q0 with
 |none=>rw[q] at e;cases e
 |some p=>
  obtain⟨r,aE⟩:=p;rw[q] at e;obtain⟨i,e1,e2⟩:=j_.mp e;cases e2;have er:r=.own (.Y (.int i)):=by
   unfold vf at e1;split at e1
   .rename_i hh;cases e1;exact hh
   .cases e1
  subst er;exact⟨F,A,Q0,_,_,k,q,λv H' pp=>⟨i,pp.flat rfl,w H' pp.drop⟩⟩
def cutD(ds:List D)(lo hi:ai Int):List D:=(ds.drop (HT.dA ds.length 0 lo)).take (HT.dA ds.length ds.length hi - HT.dA ds.length 0 lo)
def vA(o:O)(lo hi:ai Int):ai O:=match o,dz o,tW o with
 |.Y (.str z),_,_=>if z.length<=1000000 then some (.Y (.str (Txt.slice z lo hi))) else none
 |_,some ds,_=>some (.lst ((cutD ds lo hi).map .Y))
 |_,none,some ds=>if HT.dA ds.length 0 lo=0/\HT.dA ds.length ds.length hi=ds.length then none else some (.tup ((cutD ds lo hi).map .Y))
 |_,_,_=>none
def D9(K:FG):V->ai Int->ai Int->Hp->VK->Prop:=λx lo hi H Q=>D_ x lo hi H Q\/yV K x lo hi H Q\/yW K x lo hi H Q
def Mo(K:FG)(hK:X.K=K:=by rfl):rN X (D9 K):=yX.or ((VO K hK).or (Xr K hK))
def e6t{F H:Hp}{x:V}{o o':O}{B:List ah}{Q:VK}{lo hi:ai Int}(le:aI F H)(h:aj K F H [some x] [some o] B)(e:vA o lo hi=some o')(res:Res K F H o' Q):D9 K x lo hi H Q:=by
 unfold vA at e;split at e
 .split at e
  .cases e;cases jw h rfl;exact .inl ⟨_,rfl,ml (by assumption),res.flat rfl⟩
  .cases e
 .rename_i ds _ _ q1 _
  cases e;obtain⟨a,ws,rfl,sq,r⟩:=vT le h (by assumption)
  refine .inr (.inl ⟨a,ws,rfl,sq,λp hp=>res.lst ?_ hp⟩)
  unfold nU cutD;rw[r.length];exact(r.drop _).take _
 .split at e
  .cases e
  .rename_i ia
   cases e;obtain⟨a,ws,rfl,sq,r⟩:=FH le h (by assumption)
   refine .inr (.inr ⟨a,ws,rfl,sq,by rw[r.length];exact ia,λp hp=>res.tup ?_ hp⟩)
   unfold nU cutD;rw[r.length];exact(r.drop _).take _
 .cases e
def v9(f:GE)(lo hi:GO):GE:=λQ0=>(f Q0).bind λp=>(lo p.2).bind λq=>(hi q.2).bind λr=>(jV r.2 p.1).bind λo=>(vA o q.1 r.1).bind λo'=>some (.own o',r.2)
def T_{Q0 au:Gm}{r:R}(e:v9 fa fl fh Q0=some (r,au)):∃r1 aE l cq u o o',fa Q0=some (r1,aE)/\fl aE=some (l,cq)/\fh cq=some (u,au)/\jV au r1=some o/\vA o l u=some o'/\r=.own o':=by
 unfold v9 at e;cases q1:fa Q0 with
 |none=>rw[q1] at e;cases e
 |some p=>
  rw[q1] at e;dsimp only[Option.bind] at e;cases q2:fl p.2 with
  |none=>rw[q2] at e;cases e
  |some q=>
   rw[q2] at e;dsimp only at e;cases q3:fh q.2 with
   |none=>rw[q3] at e;cases e
   |some w=>
    rw[q3] at e;dsimp only at e;cases q4:jV w.2 p.1 with
    |none=>rw[q4] at e;cases e
    |some o=>
     rw[q4] at e;dsimp only at e;cases q5:vA o q.1 w.1 with
     |none=>rw[q5] at e;cases e
     |some o'=>rw[q5] at e;cases e;exact⟨p.1,p.2,q.1,q.2,w.1,o,o',rfl,q2,q3,q4,q5,rfl⟩
def Fj(he:PE X e (tG K fa))(hl:PO X lo (Hw K fl))(hu:PO X hi (Hw K fh))(hK:X.K=K:=by rfl):PE X (.Subscript e (.Slice lo hi none p2) pos) (tG K (v9 fa fl fh)):=by
 refine(VI (Mo K hK) he hl hu).mono λZ H Q t=>?_
 obtain⟨F,A,Q0,rr,au,k,e,w⟩:=t;obtain⟨r1,aE,l,cq,u,o,o',e1,e2,e3,e4,e5,rfl⟩:=T_ e;refine⟨F,A,Q0,r1,aE,k,e1,λv H1 p=>?_⟩
 obtain⟨F1,A1,x1,k1,hh⟩:=p;obtain⟨C,kC,fr⟩:=OK.frame (τ:=[some v]) (Θ:=[r1.o]) k1 rfl;refine⟨F1,C,aE,l,cq,kC,e2,λH2 p2=>?_⟩
 obtain⟨F2,A2,x2,k2,_⟩:=p2;obtain⟨A3,x3,k3⟩:=fr _ _ _ _ _ x2 k2;obtain⟨C2,kC2,fr2⟩:=OK.frame (τ:=[some v]) (Θ:=[r1.o]) k3 rfl;refine⟨F2,C2,cq,u,au,kC2,e3,λH3 p3=>?_⟩
 obtain⟨F4,A4,x4,k4,_⟩:=p3;obtain⟨A5,x5,k5⟩:=fr2 _ _ _ _ _ x4 k4;have pp:gX K F H A Z au [r1] [v] H3:=⟨F4,A5,x1.trans (x3.trans x5),k5,hh.kP (x3.trans x5).kP⟩;obtain⟨F6,le,eU,res⟩:=pp.res (os:=[o]) (o:=o') (by unfold gK;rw[e4];rfl) w
 obtain⟨x,B,ev,h1⟩:=eU.one;cases ev;exact e6t le h1 e5 res
end
noncomputable def cF:List Nat->Gm->Gm×Gm
 |[],Q0=>([],Q0)
 |i::aX,Q0=>let p:=cF aX (Q0.set i none);((Q0[i]?).join::p.1,p.2)
noncomputable def ui:List Nat->Gm->Gm->Gm
 |i::aX,x::lF,Q0=>(ui aX lF Q0).set i x
 |_,_,Q0=>Q0
noncomputable def compLoop(g:GG)(ct:GT)(ce:GE):List D->Gm->List O->ai (List O×Gm)
 |[],Q0,aM=>some (aM,Q0)
 |d::ds,Q0,aM=>(g d Q0).bind λaE=>(ct aE).bind λp=>if p.1=true then
   (ce p.2).bind λq=>(gH [q.1]).bind λos=>if aM.length<1000000 then compLoop g ct ce ds q.2 (aM++os) else none
  else compLoop g ct ce ds p.2 aM
section
variable{K:FG}{F H:Hp}{Z:St}
theorem Gr:∀{aX:List Nat} {Q0:Gm} {C:List ah},aj K F H Z Q0 C->∃B C',aj K F H (aX.map λi=>(Z[i]?).join) (cF aX Q0).1 B/\aj K F H Z (cF aX Q0).2 C'/\aS (B++C') C
 |[],Q0,C,h=>⟨[],C,.nil,h,aS.refl _⟩
 |i::aX,Q0,C,h=>by
  cases q:Q0[i]? with
  |none=>
   obtain⟨C1,g1,g2⟩:=aj.forget i h;obtain⟨B,C',j1,j2,j3⟩:=Gr (aX:=aX) g1;refine⟨B,C',?_,j2,j3.trans (.bK g2)⟩;unfold cF;simp only[q,c_];exact .skip j1
  |some z=>
   cases z with
   |none=>
    obtain⟨C1,g1,g2⟩:=aj.forget i h;obtain⟨B,C',j1,j2,j3⟩:=Gr (aX:=aX) g1;refine⟨B,C',?_,j2,j3.trans (.bK g2)⟩;unfold cF;simp only[q,c_];exact .skip j1
   |some o=>
    obtain⟨v,Ai,C1,g1,g2,g3,g4⟩:=h.take q;obtain⟨B,C',j1,j2,j3⟩:=Gr (aX:=aX) g3;refine⟨Ai++B,C',?_,j2,?_⟩
    .unfold cF;simp only[q,c_,g1];exact g2.app j1
    .rw[ie];exact((aS.refl Ai).app j3).trans (.bX g4.symm)
theorem PD:∀{aX:List Nat} {τ:St} {lF Q0:Gm} {B C:List ah},aj K F H τ lF B->aj K F H Z Q0 C->τ=(aX.map λi=>(Z[i]?).join)->∃D,aj K F H Z (ui aX lF Q0) D/\aS D (B++C)
 |[],_,lF,Q0,B,C,h1,h2,e=>by
  subst e;cases h1;exact⟨C,h2,.bK (oG _ _)⟩
 |i::aX,τ,[],Q0,B,C,h1,h2,e=>by subst e;have:=h1.length;simp at this
 |i::aX,τ,x::lF,Q0,B,C,h1,h2,e=>by
  subst e;obtain⟨B1,B2,g1,g2,rfl⟩:=aj.one h1;obtain⟨D,j1,j2⟩:=PD (aX:=aX) g2 h2 rfl;have s1:aS D ((B1++B2)++C):=j2.trans (by rw[ie];exact .bK (oG _ _))
  cases x with
  |none=>
   obtain⟨D',k1,k2⟩:=aj.forget i j1;exact⟨D',k1,(aS.bK k2).trans s1⟩
  |some o=>
   have g1:aj K F H [(Z[i]?).join] [some o] B1:=g1;cases q:Z[i]? with
   |none=>rw[q] at g1;cases g1
   |some z=>
    cases z with
    |none=>rw[q] at g1;cases g1
    |some v=>
     rw[q] at g1;have hi:i<(ui aX lF Q0).length:=by rw[<-j1.length];exact(jX.mp q).1
     obtain⟨D',k1,C',k2,k3⟩:=aj.put (show aj K F H [some v] [some o] B1 from g1) i j1 hi;rw[xA q] at k1;refine⟨D',k1,(aS.bX k2).trans ?_⟩;rw[ie];exact(aS.refl B1).app ((aS.bK k3).trans j2)
end
noncomputable def nO(k:Nat)(aX:List Nat):List Bool:=List.replicate k false++List.replicate aX.length true
def kq(src:Gm->ai (List D×Gm))(g:GG)(ct:GT)(ce:GE)(k:Nat)(aX:List Nat):GE:=λQ0=>(src Q0).bind λp=>
 (compLoop g ct ce p.1 (List.replicate k none++(cF aX p.2).1) []).bind λq=>if q.2.length=k+aX.length then some (.own (.lst q.1),ui aX (q.2.drop k) (cF aX p.2).2) else none
section
variable{K:FG}
structure tZ (K:FG) (m:List Bool) (g:GG) (ct:GT) (ce:GE) (ds:List D) (fin:List O×Gm) (F1 H1:Hp) (C:List ah) (τ₀:St) (i:Nat) (τ:St) (aM:List V) (H:Hp):Prop where
 ex:∃F A m_ fg,OK K F H (aM.map some++τ) (fg.map some++m_) A/\Ext F1 H1 C F H A/\compLoop g ct ce (ds.drop i) m_ fg=some fin/\aM.length=fg.length/\Kept m τ₀ τ
def Nq{m:List Bool}{t:TG}{g:GG}{ct:GT}{ce:GE}(tg:fQ K m t g){ds:List D}{fin:List O×Gm}{F1 H1:Hp}{C:List ah}{τ₀:St}{i:Nat}{τ:St}{aM:List V}{H:Hp}{x:V}{d:D}{F:Hp}{A:List ah}{m_:Gm}{fg:List O}
  (k:OK K F H (aM.map some++τ) (fg.map some++m_) A) (x0:Ext F1 H1 C F H A) (e:compLoop g ct ce (ds.drop i) m_ fg=some fin) (hl:aM.length=fg.length) (kp:Kept m τ₀ τ) (ed:ds.drop i=d::ds.drop (i+1)) (rx:aw K F [x] [d]) :
  t x τ H λτ2 H2=>iy K ct τ2 H2 λb H3=>if b=true then tG K ce τ2 H3 λv H4=>aM.length<sizeLine/\tZ K m g ct ce ds fin F1 H1 C τ₀ (i+1) τ2 (aM++[v]) H4 else tZ K m g ct ce ds fin F1 H1 C τ₀ (i+1) τ2 aM H3:=by
 rw[ed] at e;unfold compLoop at e;cases q1:g d m_ with
 |none=>rw[q1] at e;cases e
 |some aE=>
  rw[q1] at e;dsimp only[Option.bind] at e;cases q2:ct aE with
  |none=>rw[q2] at e;cases e
  |some pb=>
   obtain⟨b,cq⟩:=pb;rw[q2] at e;dsimp only at e;have hle:(aM.map some).length=(fg.map some).length:=by simp[hl]
   obtain⟨C1,k1,fr1⟩:=k.frame hle;refine tg F H τ m_ aE C1 x d _ k1 rx q1 λτ2 A2 k2 x2 wL=>?_
   obtain⟨A3,x3,k3⟩:=fr1 _ _ _ _ _ x2 k2;obtain⟨C4,k4,fr4⟩:=k3.frame hle;refine⟨F,C4,aE,b,cq,k4,q2,λH3 pp=>?_⟩
   obtain⟨F5,A5,x5,k5,_⟩:=pp;obtain⟨A6,x6,k6⟩:=fr4 _ _ _ _ _ x5 k5;cases b with
   |false=>exact qZ ⟨F5,A6,cq,fg,k6,x0.trans (x3.trans x6),e,hl,kp.trans wL⟩
   |true=>
    have e:((ce cq).bind λq=>(gH [q.1]).bind λos=>if fg.length<1000000 then compLoop g ct ce (ds.drop (i+1)) q.2 (fg++os) else none)=some fin:=e
    cases q3:ce cq with
    |none=>rw[q3] at e;cases e
    |some pr=>
     obtain⟨r,oJ⟩:=pr;rw[q3] at e;dsimp only[Option.bind] at e;cases q4:gH [r] with
     |none=>rw[q4] at e;cases e
     |some os=>
      rw[q4] at e;dsimp only at e;split at e
      .rename_i hz
       obtain⟨C7,k7,K_⟩:=k6.frame hle;refine q8 ⟨F5,C7,cq,r,oJ,k7,q3,λv H4 pp=>⟨iA (by lia:aM.length<1000000) (by decide),?_⟩⟩
       obtain⟨F8,A8,x8,k8,_⟩:=pp;rw[uP q4] at k8;obtain⟨A9,x9,k9⟩:=K_ _ _ _ _ _ x8 k8;refine⟨F8,A9,oJ,fg++os,?_,x0.trans (x3.trans (x6.trans x9)),e,?_,kp.trans wL⟩
       .rw[jI,jI,ie,ie];exact k9
       .have:=congrArg List.length (uP q4);simp at this;simp[hl,this]
      .cases e
def PF{F H:Hp}{Z:St}{Q0:Gm}{A:List ah}{p:ah}{u:HO}(k:OK K F H Z Q0 A)(hn:H p=none):OK K (upd F p u) (upd H p u) Z Q0 A/\Ext F H A (upd F p u) (upd H p u) A:=by
 have hF:F p=none:=k.le.free hn;have np:∀a∈A,a≠p:=λa m z=>k.os.there a m (by rw[z];exact hn)
 refine⟨⟨λa o e=>?_,k.os.keep (l7 hF) λa m o e=>by rw[cK (np a m)];exact e,k.nd,λa m=>by rw[cK (np a m)];exact k.fr a m⟩,⟨l7 hF,λa o e _=>l7 hn a o e,λa h z=>h ((l7 hn).free z),λa h=>?_,λa m=>.inl m,.same (l7 hn)⟩⟩
 .by_cases z:a=p
  .subst z;rw[iQ] at e ⊢;exact e
  .rw[cK z] at e ⊢;exact k.le a o e
 .by_cases z:a=p
  .subst z;exact .inr (.inr hn)
  .rw[cK z] at h;exact .inl h
def UY{m:List Bool}{t:TG}{g:GG}{ct:GT}{ce:GE}(tg:fQ K m t g){ds:List D}{fin:List O×Gm}{F1 H1:Hp}{C:List ah}{τ₀:St}{i:Nat}{τ:St}{aM:List V}{H:Hp}{x:V}{d:D}(p:tZ K m g ct ce ds fin F1 H1 C τ₀ i τ aM H)
  (ed:ds.drop i=d::ds.drop (i+1)) (rx:∀F,aI F1 F->aw K F [x] [d]) :
  t x τ H λτ2 H2=>iy K ct τ2 H2 λb H3=>if b=true then tG K ce τ2 H3 λv H4=>aM.length<sizeLine/\tZ K m g ct ce ds fin F1 H1 C τ₀ (i+1) τ2 (aM++[v]) H4 else tZ K m g ct ce ds fin F1 H1 C τ₀ (i+1) τ2 aM H3:=by
 obtain⟨F,A,m_,fg,k,x0,e,hl,kp⟩:=p.ex;exact Nq tg k x0 e hl kp ed (rx F x0.ff)
def T'{m:List Bool}{t:TG}{g:GG}{ct:GT}{ce:GE}(tg:fQ K m t g){ds:List D}{fin:List O×Gm}{F1 H1:Hp}{C:List ah}{τ₀:St}{i:Nat}{τ:St}{aM:List V}{H:Hp}{q:ah}{ws:List V}{es:List D}(p:tZ K m g ct ce ds fin F1 H1 C τ₀ i τ aM H)
  (ed:ds.drop i=.tup es::ds.drop (i+1)) (hq:H q=none) (rx:∀F,aI F1 F->aw K F ws es) :
  t (.ref q) τ (upd H q (.tup ws)) λτ2 H2=>iy K ct τ2 H2 λb H3=>if b=true then tG K ce τ2 H3 λv H4=>aM.length<sizeLine/\tZ K m g ct ce ds fin F1 H1 C τ₀ (i+1) τ2 (aM++[v]) H4 else tZ K m g ct ce ds fin F1 H1 C τ₀ (i+1) τ2 aM H3:=by
 obtain⟨F,A,m_,fg,k,x0,e,hl,kp⟩:=p.ex;obtain⟨k2,x2⟩:=PF (u:=.tup ws) k hq;exact Nq tg k2 (x0.trans x2) e hl kp ed (.tup (gY.of iQ) ((rx F x0.ff).mono x2.ff) .nil)
def V3{m:List Bool}{g:GG}{ct:GT}{ce:GE}{ds:List D}{fin:List O×Gm}{F1 H1:Hp}{C:List ah}{τ₀:St}{τ:St}{aM:List V}{H:Hp}(p:tZ K m g ct ce ds fin F1 H1 C τ₀ ds.length τ aM H):
  ∃F A,OK K F H (aM.map some++τ) (fin.1.map some++fin.2) A/\Ext F1 H1 C F H A/\aM.length=fin.1.length/\Kept m τ₀ τ:=by
 obtain⟨F,A,m_,fg,k,x0,e,hl,kp⟩:=p.ex;rw[MQ (c7 _)] at e;cases e;exact⟨F,A,k,x0,hl,kp⟩
theorem Ir:∀{aX:List Nat} {Q0:Gm} {j:Nat},j∉aX->(cF aX Q0).2[j]?=Q0[j]?
 |[],Q0,j,_=>rfl
 |i::aX,Q0,j,h=>by
  unfold cF;dsimp only;rw[Ir (λz=>h (oZ _ z)),HE (λz=>h (by rw[z];exact qz))]
def V4{F H:Hp}{Z:St}{Q0:Gm}{A:List ah}{j:Nat}{ps:List O}{a:ah}(h:aj K F H Z Q0 A)(yo:Q0[j]?=some (some (.lst ps)))(hZ:Z[j]?=some (some (.ref a))):a∈A:=by
 obtain⟨v,Ai,B,g1,g2,_,g4⟩:=h.take yo;rw[hZ] at g1;cases g1;cases g2 with
 |lst _ _ _=>exact g4.mem_iff.mpr (by simp)
def jN(Z:St)(Q0:Gm)(H:Hp)(j:Nat)(a:ah):Prop:=(∃ps,Q0[j]?=some (some (.lst ps))/\Z[j]?=some (some (.ref a)))\/∃C ns qs i kvs,Q0[j]?=some (some (.ins C ns qs))/\qs[i]?=some (.aF kvs)/\rM Z H j i (.ref a)
def XE{F H:Hp}{Z:St}{Q0:Gm}{A:List ah}{j:Nat}{a:ah}(h:aj K F H Z Q0 A)(i:jN Z Q0 H j a):a∈A:=by
 rcases i with⟨ps,e1,e2⟩|⟨C,ns,qs,i,kvs,e1,e2,hf⟩
 .exact V4 h e1 e2
 .obtain⟨x,Ai,C',g1,g2,g3,g4⟩:=h.take e1;obtain⟨b,C2,dx,fs,f,p,y1,y2,y3,y4⟩:=hf;cases y4;rw[g1] at y1;cases y1;cases g2 with
  |ins q1 q2 q3 q4 t=>
   rw[y2] at q1;cases q1;have YQ:(qs.map some)[i]?=some (some (.aF kvs)):=by rw[lC,e2];rfl
   obtain⟨v,Ac,C3,z1,z2,z3,z4⟩:=q4.take YQ;rw[lC,y3] at z1;cases z1;refine g4.mem_iff.mpr (jb _ (jb _ ?_));refine oZ _ (oZ _ (z4.mem_iff.mpr (jb _ ?_)));cases z2 with
   |aF _ _ _ _ _=>simp
def jN.aX{Z:St}{Q0:Gm}{H:Hp}{aX:List Nat}{j:Nat}{a:ah}(hj:j∉aX)(i:jN Z Q0 H j a):jN Z (cF aX Q0).2 H j a:=by
 rcases i with⟨ps,e1,e2⟩|⟨C,ns,qs,i,kvs,e1,r⟩
 .exact .inl ⟨ps,by rw[Ir hj];exact e1,e2⟩
 .exact .inr ⟨C,ns,qs,i,kvs,by rw[Ir hj];exact e1,r⟩
def Ua{k:Nat}{aX:List Nat}{F H:Hp}{Z:St}{Q0:Gm}{A:List ah}(ok:OK K F H Z Q0 A):∃C,OK K F H (i5 k aX Z) (List.replicate k none++(cF aX Q0).1) C/\
  (∀j a,j∉aX->jN Z Q0 H j a->a∉C)/\
  ∀F' H' τ' fg aM lF A',Ext F H C F' H' A'->OK K F' H' (aM.map some++τ') (fg.map some++lF) A'->aM.length=fg.length->Kept (nO k aX) (i5 k aX Z) τ'->lF.length=k+aX.length->∀l,H' l=none->
   ∃qC,Ext F H A F' (upd H' l (.lst aM)) qC/\OK K F' (upd H' l (.lst aM)) (some (.ref l)::Z) (some (.lst fg)::ui aX (lF.drop k) (cF aX Q0).2) qC:=by
 obtain⟨B,C',h1,h2,h3⟩:=Gr (aX:=aX) ok.os;have k0:aj K F H (i5 k aX Z++Z) ((List.replicate k none++(cF aX Q0).1)++(cF aX Q0).2) (B++C'):=by
  have:=(EZ (K:=K) (F:=F) (H:=H) k).app h1;exact this.app h2
 obtain⟨k1,x1⟩:=ok.sub k0 h3;have hl0:(i5 k aX Z).length=(List.replicate k (none:ai O)++(cF aX Q0).1).length:=by
  have:=h1.length;unfold i5;simp at this ⊢;lia
 obtain⟨A1,p1,k2⟩:=k1.swap hl0;have k2':=k2;obtain⟨D0,C,hd0,hd1,hd2⟩:=aj.split h2.length k2.os;have nn:∀a∈D0,a∉C:=λa m z=>(lD.mp (hd2 ▸ k2.nd)).2.2 a m a z rfl
 obtain⟨k3,fr⟩:OK K F H (i5 k aX Z) (List.replicate k none++(cF aX Q0).1) C/\∀F' H' Z' au A',Ext F H C F' H' A'->OK K F' H' Z' au A'->∃qC,Ext F H A1 F' H' qC/\OK K F' H' (Z++Z') ((cF aX Q0).2++au) qC:=by
  subst hd2;exact k2.ql hd0 hd1
 refine⟨C,k3,λj a hj i=>nn a (XE hd0 (i.aX hj)),λF' H' τ' fg aM lF A' x k' hl kp yo l hn=>?_⟩
 have hQ0l:=k'.os.length;have k5:∃A5,OK K F' (upd H' l (.lst aM)) (some (.ref l)::τ') (some (.lst fg)::lF) A5/\Ext F' H' A' F' (upd H' l (.lst aM)) A5:=by
  obtain⟨B1,C1,g1,g2,g3⟩:=aj.split (by simp[hl]) k'.os
  have nl:∀a∈A',a≠l:=λa m z=>k'.os.there a m (by rw[z];exact hn)
  have SH:∀a∈A',∀o,H' a=some o->upd H' l (.lst aM) a=some o:=λa m o e=>by rw[cK (nl a m)];exact e
  subst g3;refine⟨l::B1++C1,⟨λa o e=>?_,.lst iQ (g1.keep (aI.refl _) λa m=>SH a (jb _ m)) (g2.keep (aI.refl _) λa m=>SH a (iB _ m)),jr.mpr ⟨λm=>nl l m rfl,k'.nd⟩,λa m=>?_⟩,aI.refl _,λa o e _=>?_,BY,λa h=>.inl h,λa m=>?_,.same (l7 hn)⟩
  .have:=k'.le a o e;rw[cK (mO this hn)];exact this
  .rcases dR.mp m with rfl|m
   .exact k'.le.free hn
   .exact k'.fr a m
  .rw[cK (mO e hn)];exact e
  .rcases dR.mp m with rfl|m
   .exact .inr hn
   .exact .inl m
 obtain⟨A5,k5,x5⟩:=k5;obtain⟨A6,x6,k6⟩:=fr _ _ _ _ _ (x.trans x5) k5;obtain⟨D1,D2,g1,g2,g3⟩:=aj.split h2.length k6.os;subst g3;obtain⟨D3,D4,g4,g5,g6⟩:=g2.one;subst g6;have hτ:τ'.length=k+aX.length:=by
  have:=g5.length;lia
 have e1:τ'=τ'.take k++τ'.drop k:=(vI _ _).symm;have e2:lF=lF.take k++lF.drop k:=(vI _ _).symm;have g5':aj K F' (upd H' l (.lst aM)) (τ'.take k++τ'.drop k) (lF.take k++lF.drop k) D4:=by rw[<-e1,<-e2];exact g5
 obtain⟨D5,D6,g7,g8,g9⟩:=aj.split (by rw[rg,rg];lia) g5'
 subst g9;have eτ:τ'.drop k=aX.map λi=>(Z[i]?).join:=by
  apply List.ext_getElem?;intro j;by_cases hj:j<aX.length
  .have hm:(nO k aX)[k+j]?=some true:=by
    unfold nO;rw[HF (by simp)]
    simp[hj]
   have:=kp (k+j) hm;rw[List.getElem?_drop,this];unfold i5;rw[HF (by simp)]
   simp
  .rw[List.getElem?_eq_none (by rw[vH];lia),List.getElem?_eq_none (by rw[bY];lia)]
 obtain⟨D7,wz,La⟩:=PD g8 g1 eτ;have s1:aS (D3++D7) (D1++(D3++(D5++D6))):=by
  refine((aS.refl D3).app La).trans ?_;refine aS.trans (B:=D3++(D5++D6)++D1) ?_ (.bX qA);rw[ie];refine(aS.refl D3).app ?_;rw[ie];exact .bK (oG _ _)
 obtain⟨k7,x7⟩:=k6.sub (Z':=some (.ref l)::Z) (au:=some (.lst fg)::ui aX (lF.drop k) (cF aX Q0).2) (g4.app wz) s1;exact⟨D3++D7,(x1.trans (Ext.jT Ext.refl λa m=>p1.mem_iff.mp m)).trans (x6.trans x7),k7⟩
end
def jG(it:GE):Gm->ai (List D×Gm):=λQ0=>(ax it Q0).bind λp=>match p.1 with
 |.own (.Y (.lst ds))=>some (ds,p.2)
 |_=>none
def mG(fs:GA):Gm->ai (List D×Gm):=λQ0=>(fs Q0).bind λp=>(jR p.1).map λj=>(hX 0 j.toNat,p.2)
def qw(fs:GA):Gm->ai (List D×Gm):=λQ0=>(fs Q0).bind λp=>(lV p.1).map λj=>(hX j.1 (j.2 - j.1).toNat,p.2)
def Nw(K:FG)(F1 H:Hp)(x:V)(d:D)(H':Hp):Prop:=(H'=H/\∀F,aI F1 F->aw K F [x] [d])\/∃p ws es,x=.ref p/\d=.tup es/\H p=none/\H'=upd H p (.tup ws)/\∀F,aI F1 F->aw K F ws es
def j5(K:FG)(aX:List Nat)(wi:TI)(src:Gm->ai (List D×Gm)):Prop:=
 ∀(Z:St) (F H:Hp) (A:List ah) (Q0 aE:Gm) (ds:List D) (R:It->Hp->Prop),OK K F H Z Q0 A->src Q0=some (ds,aE)->
  (∀J H1 F1 A1,Ext F H A F1 H1 A1->OK K F1 H1 Z aE A1-> (∀(g:TG) (tt:TT) (te:TE) (τ:St) (Fin:List V->Hp->Prop) (Pv:Nat->St->List V->Hp->Prop),Pv 0 τ [] H1->(∀i τ aM H,Pv i τ aM H->(∃F,aI F1 F/\aI F H)/\∀(j:Nat) a o,j∉aX->jN Z aE H1 j a->H1 a=some o->H a=some o)-> (∀i d x τ aM H H',ds.drop i=d::ds.drop (i+1)->Nw K F1 H x d H'->Pv i τ aM H->g x τ H' λτ2 H2=>tt τ2 H2 λb H3=>if b=true then te τ2 H3 λv H4=>aM.length<sizeLine/\Pv (i+1) τ2 (aM++[v]) H4 else Pv (i+1) τ2 aM H3)-> (∀τ aM H,Pv ds.length τ aM H->Fin aM H)->l4 J g tt te τ H1 Fin)->R J H1)->wi Z H R
section
variable{X:Cx}{K:FG}{fa:GE}{fs:GA}
def PH{α:Type}{l:List α}{i:Nat}{x:α}(h:l[i]?=some x):l.drop i=x::l.drop (i+1):=by
 obtain⟨hi,e⟩:=jX.mp h;rw[HI hi,e]
def uQ{aX:List Nat}:j5 K aX (og K (tG K (ax fa))) (jG fa):=by
 intro Z F H A Q0 aE ds R k e w;unfold jG at e;cases q:ax fa Q0 with
 |none=>rw[q] at e;cases e
 |some p=>
  obtain⟨r,cq⟩:=p;rw[q] at e;dsimp only[Option.bind] at e;cases r with
  |var i=>cases e
  |fld _ _=>cases e
  |own o=>
   cases o with
   |Y d=>
    cases d with
    |lst es=>
     cases e;refine⟨F,A,Q0,_,_,k,q,λv H1 pp=>?_⟩
     obtain⟨F1,A1,x,k1,_⟩:=pp;obtain⟨B,C,h1,h2,h3⟩:=aj.one (Z:=Z) k1.os;have rp:=rO h1;subst h3;obtain⟨k2,x2⟩:=k1.sub h2 (.bK (oG _ _));cases rp with
     |flat z _=>cases z
     |@lst a ws _ _ _ sq ri _=>
      refine⟨a,rfl,⟨ws,.inl (k1.le.rd sq)⟩,w (xm K a) H1 F1 C (x.trans x2) k2 λg tt te τ Fin Pv h0 hF hs hd=>?_⟩
      have hl:=ri.length;refine UH (xs:=ws) Pv h0 (λi τ aM H hi p=>?_) (λi x τ aM H hx p=>?_) (λτ aM H p=>hd τ aM H (by rw[<-hl];exact p))
      .obtain⟨⟨F',s1,s2⟩,_⟩:=hF i τ aM H p;exact .inl ((s1.trans s2).rd sq)
      .have hi:i<ds.length:=by
        have:=(jX.mp hx).1;lia
       obtain⟨x2,sP,rx⟩:=ri.get (i:=i) (d:=ds[i]) (by simp[hi])
       rw[hx] at sP;cases sP;exact hs i ds[i] x τ aM H H (PH (by simp[hi])) (.inl ⟨rfl,λF' s=>rx.mono s⟩) p
    |_=>cases e
   |_=>cases e
def QY{aX:List Nat}:j5 K aX (wI (jW K fs)) (mG fs):=by
 intro Z F H A Q0 aE ds R k e w;unfold mG at e;cases q:fs Q0 with
 |none=>rw[q] at e;cases e
 |some p=>
  obtain⟨rs,cq⟩:=p;rw[q] at e;obtain⟨j,e1,e2⟩:=j_.mp e;cases e2;obtain⟨hj,hb⟩:=OF e1;have hj:rs=_:=hj;subst hj;refine⟨F,A,Q0,_,_,k,q,λvs H1 pp=>?_⟩
  obtain⟨F1,A1,x,k1,hh⟩:=pp
  match vs,hh with
  |[v],_=>
   obtain⟨rfl,h2⟩:=t_ (Z:=Z) k1.os;obtain⟨k2,x2⟩:=k1.sub h2 (aS.refl _);refine⟨j,rfl,hb.1,hb.2,w (t5 0 j.toNat) H1 F1 A1 x k2 λg tt te τ Fin Pv h0 hF hs hd=>?_⟩
   refine Nm Pv h0 (λi τ aM H hi p=>?_) (λτ aM H p=>hd τ aM H (by simpa[hX] using p))
   exact hs i (.int (0+(i:Int))) _ τ aM H H (by unfold hX;exact M8 _ hi) (.inl ⟨rfl,λF' s=>.flat rfl .nil⟩) p
def Zp{aX:List Nat}:j5 K aX (wJ (jW K fs)) (qw fs):=by
 intro Z F H A Q0 aE ds R k e w;unfold qw at e;cases q:fs Q0 with
 |none=>rw[q] at e;cases e
 |some p=>
  obtain⟨rs,cq⟩:=p;rw[q] at e;obtain⟨jj,e1,e2⟩:=j_.mp e;cases e2;obtain⟨hj,hb⟩:=OG e1;have hj:rs=_:=hj;subst hj;obtain⟨i0,j⟩:=jj;refine⟨F,A,Q0,_,_,k,q,λvs H1 pp=>?_⟩
  obtain⟨F1,A1,x,k1,hh⟩:=pp
  match vs,hh with
  |[v,v'],_=>
   obtain⟨rfl,h1⟩:=t_ (Z:=some v'::Z) k1.os;obtain⟨rfl,h2⟩:=t_ (Z:=Z) h1;obtain⟨k2,x2⟩:=k1.sub h2 (aS.refl _);refine⟨i0,j,rfl,hb,w (t5 i0 (j - i0).toNat) H1 F1 A1 x k2 λg tt te τ Fin Pv h0 hF hs hd=>?_⟩
   refine Nm Pv h0 (λi τ aM H hi p=>?_) (λτ aM H p=>hd τ aM H (by simpa[hX] using p))
   exact hs i (.int (i0+(i:Int))) _ τ aM H H (by unfold hX;exact M8 _ hi) (.inl ⟨rfl,λF' s=>.flat rfl .nil⟩) p
def qG.mono{ifs:List Expr}{t t':TT}(h:qG X ifs t)(m:∀Z H Q,t' Z H Q->t Z H Q):qG X ifs t':=λaa s Z H Q I q=>h aa s Z H Q I (m _ _ _ q)
def fm:GT:=λQ0=>some (true,Q0)
def vZ:qG X [] (iy K fm):=vw.mono λZ H Q t=>Fg t
def FO{c:Expr}{ft:GT}(h:PT X c (iy K ft)):qG X [c] (iy K ft):=Xn h
variable{tg elt iter:Expr}{ifs:List Expr}{scope:Scope}{pos:Pos}{M:List Str}{k:Nat}{aX:List Nat}{t:TG}{gg:GG}{ct:GT}{ce:GE}{wi:TI}{src:Gm->ai (List D×Gm)}
def JC(so:j5 K aX wi src)(xf:fQ K (nO k aX) t gg){Z:St}{H:Hp}{Q:VK}(tt:tG K (kq src gg ct ce k aX) Z H Q):tV wi t (iy K ct) (tG K ce) k aX Z H Q:=by
 obtain⟨F,A,Q0,rr,au,ok,e,w⟩:=tt;unfold kq at e;cases q1:src Q0 with
 |none=>rw[q1] at e;cases e
 |some p=>
  obtain⟨ds,aE⟩:=p;rw[q1] at e;dsimp only[Option.bind] at e;cases q2:compLoop gg ct ce ds (List.replicate k none++(cF aX aE).1) [] with
  |none=>rw[q2] at e;cases e
  |some fin=>
   rw[q2] at e;dsimp only at e;split at e
   .rename_i hlen
    cases e;refine so Z F H A Q0 aE ds _ ok q1 λJ H1 F1 A1 x1 k1 mk=>?_
    obtain⟨C,kC,nC,back⟩:=Ua (k:=k) (aX:=aX) k1;refine mk t (iy K ct) (tG K ce) (i5 k aX Z) _ (tZ K (nO k aX) gg ct ce ds fin F1 H1 C (i5 k aX Z)) ?_ ?_ ?_ ?_
    .exact⟨F1,C,_,[],kC,Ext.refl,q2,rfl,Kept.refl⟩
    .rintro i τ aM H ⟨F',A',m_,fg,k',x',_⟩;exact⟨⟨F',x'.ff,k'.le⟩,λj a o hj h1 h3=>x'.keep a o h3 (nC j a hj h1)⟩
    .intro i d x τ aM H H' ed nw p;rcases nw with⟨rfl,rx⟩|⟨q,ws,es,rfl,rfl,hq,rfl,rx⟩
     .obtain⟨F',A',m_,fg,k',x',_⟩:=p.ex;exact UY xf p ed λF e=>rx F e
     .exact T' xf p ed hq rx
    .intro τ aM H p l hn;obtain⟨F',A',k',x',hl,kp⟩:=V3 p;obtain⟨qC,x'',k''⟩:=back F' H τ fin.1 aM fin.2 A' x' k' hl kp hlen l hn;exact w _ _ ⟨F',qC,x1.trans x'',k'',i9⟩
   .cases e
def BZ(so:j5 K aX wi src)(xf:fQ K (nO k aX) t gg)(ok:cf X scope M k aX)(hi:PI X tg iter wi)
  (hg:∀C s H fp,PG (iS X scope M C s H fp) tg t) (ht:∀C s H fp,qG (iS X scope M C s H fp) ifs (iy K ct)) (he:∀C s H fp,PE (iS X scope M C s H fp) elt (tG K ce)) (hc:X.calm=true:=by rfl)
  (hs:∀x,foldedSetIterable iter X.env x=pure x:=by intro _;rfl):PE X (.ListComp elt [⟨tg,iter,ifs,0⟩] scope pos) (tG K (kq src gg ct ce k aX)):=
 (Xo hc ok hi hg ht he hs).mono λ_ _ _ t=>JC so xf t
variable{m:List Bool}{W:ai XW}
def XF{i:Nat}{x:Str}{px oC:Pos}(so:j5 K aX wi src)(xf:fQ K (nO k aX) t gg)(ok:cf X scope M k aX)(hN:X.N.Nodup)(yu:X.N[i]?=some x)(hx:Loc X.env.scope x)(hi:PI X tg iter wi)
  (hg:∀C s H fp,PG (iS X scope M C s H fp) tg t) (ht:∀C s H fp,qG (iS X scope M C s H fp) ifs (iy K ct)) (he:∀C s H fp,PE (iS X scope M C s H fp) elt (tG K ce)) (hc:X.calm=true:=by rfl) (hm:(m[i]? == some true)=false:=by rfl)
  (Dw:swapsWith (.ListComp elt [⟨tg,iter,ifs,0⟩] scope pos) (some (.Name x px)) oC.line X.env=pure true:=by rfl)
  (hs:∀x,foldedSetIterable iter X.env x=pure x:=by intro _;rfl) (hf:X.fn x=true\/X.env.scope.names.lookup x=some .local := by first|exact .inl rfl|exact .inr rfl) :
  PS X (.Assign [.Name x px] (.ListComp elt [⟨tg,iter,ifs,0⟩] scope pos) oC) (tS K m W (av i (kq src gg ct ce k aX))):=(Ph hc ok hN yu hx hi hg ht he Dw hs hf).mono λD Z H tt=>by
 obtain⟨F,A,Q0,fl,au,k,e,w⟩:=tt;unfold av at e;cases q:kq src gg ct ce _ aX Q0 with
 |none=>rw[q] at e;cases e
 |some p=>
  obtain⟨r,aE⟩:=p;rw[q] at e;cases r with
  |var i=>cases e
  |fld _ _=>cases e
  |own o=>
   dsimp only[Option.bind] at e;split at e
   .cases e;refine JC so xf ⟨F,A,Q0,_,aE,k,q,λv H' hh=>?_⟩
    obtain⟨F1,A1,x,k1,_⟩:=hh;obtain⟨B,k2,x2⟩:=OK.store (Z:=Z) (Q0:=aE) k1 (by assumption)
    exact w _ H' ⟨F1,B,x.trans x2,k2,Kept.set hm⟩
   .cases e
def zB{i:Nat}{x:Str}{px oC:Pos}(so:j5 K aX wi src)(xf:fQ K (nO k aX) t gg)(ok:cf X scope M k aX)(hN:X.N.Nodup)(yu:X.N[i]?=some x)(hx:Loc X.env.scope x)(hi:PI X tg iter wi)
  (hg:∀C s H fp,PG (iS X scope M C s H fp) tg t) (ht:∀C s H fp,qG (iS X scope M C s H fp) ifs (iy K ct)) (he:∀C s H fp,PE (iS X scope M C s H fp) elt (tG K ce)) (hc:X.calm=true:=by rfl) (hm:(m[i]? == some true)=false:=by rfl)
  (Dw:swapsWith (.ListComp elt [⟨tg,iter,ifs,0⟩] scope pos) (some (.Name x px)) oC.line X.env=pure true:=by rfl)
  (hs:∀x,foldedSetIterable iter X.env x=pure x:=by intro _;rfl) (hf:X.fn x=true\/X.env.scope.names.lookup x=some .local := by first|exact .inl rfl|exact .inr rfl) :
  PS X (.Assign [.Name x px] (.ListComp elt [⟨tg,iter,ifs,0⟩] scope pos) oC) (tS K m W (av i (ax (kq src gg ct ce k aX)))):=(Ph hc ok hN yu hx hi hg ht he Dw hs hf).mono λD Z H tt=>by
 obtain⟨F,A,Q0,fl,au,k,e,w⟩:=tt;unfold av at e;cases q:ax (kq src gg ct ce _ aX) Q0 with
 |none=>rw[q] at e;cases e
 |some p=>
  obtain⟨r,aE⟩:=p;rw[q] at e;cases r with
  |var i=>cases e
  |fld _ _=>cases e
  |own o=>
   dsimp only[Option.bind] at e;split at e
   .cases e;refine JC so xf (QS ⟨F,A,Q0,_,aE,k,q,λv H' hh=>?_⟩)
    obtain⟨F1,A1,x,k1,_⟩:=hh;obtain⟨B,k2,x2⟩:=OK.store (Z:=Z) (Q0:=aE) k1 (by assumption)
    exact w _ H' ⟨F1,B,x.trans x2,k2,Kept.set hm⟩
   .cases e
end
inductive Wk (K:FG) (H:Hp):V->List Nat->V->Prop
 |nil {x:V}:Wk K H x [] x
 |cons {p:ah} {ws:List V} {j:Nat} {y v:V} {π:List Nat}:(dH K H p ws\/gY K H p ws)->ws[j]?=some y->Wk K H y π v->Wk K H (.ref p) (j::π) v
section
variable{X:Cx}{K:FG}{e:Expr}{i j:Nat}{π:List Nat}{pos p1 p2:Pos}{n:Nat}
end
section
variable{K:FG}{F H:Hp}
end
section
variable{X:Cx}{K:FG}{o e:Expr}{es:List Expr}{i:Nat}{π:List Nat}{t:TA}{name:Str}{apos cU:Pos}{id:String}{r:V->List V->Hp->VK->Prop}{g:O->List O->ai (O×O)}{ds:List D}{vs:List V}
end
def ph(M:GM)(fs:GA):GE:=λQ0=>(fs Q0).bind λp=>(gK p.2 p.1).bind λos=>(M ((O.dl os).map .Y)).bind λr=>match r.1 with
 |.Y d=>(nI d).bind λ_=>some (.own (.Y d),p.2)
 |_=>none
section
variable{K:FG}
def V5{F H:Hp}(le:aI F H){vs:List V}{os:List O}(h:mM K F H vs os):aw K H vs (O.dl os):=by
 unfold mM at h
 induction h with
 |nil=>exact .nil
 |cons p t ih=>obtain⟨B,h⟩:=p;exact .cons (o9 le h) ih
def Ub{M:GM}{fs:GA}{Q0 au:Gm}{r:R}(e:ph M fs Q0=some (r,au)):∃rs os d fin v,fs Q0=some (rs,au)/\gK au rs=some os/\M ((O.dl os).map .Y)=some (.Y d,fin)/\nI d=some v/\r=.own (.Y d):=by
 unfold ph at e;cases q1:fs Q0 with
 |none=>rw[q1] at e;cases e
 |some p=>
  rw[q1] at e;dsimp only[Option.bind] at e;cases q2:gK p.2 p.1 with
  |none=>rw[q2] at e;cases e
  |some os=>
   rw[q2] at e;dsimp only at e;cases q3:M ((O.dl os).map .Y) with
   |none=>rw[q3] at e;cases e
   |some z=>
    obtain⟨o,fin⟩:=z;rw[q3] at e;dsimp only at e;cases o with
    |Y d=>
     dsimp only at e;cases q4:nI d with
     |none=>rw[q4] at e;cases e
     |some v=>rw[q4] at e;cases e;exact⟨p.1,os,d,fin,v,rfl,q2,q3,q4,rfl⟩
    |_=>cases e
variable{X:Cx}{k n:Nat}{f:ah}{fd:jM}{ps:List Str}{x:Str}{p pos:Pos}{e:Expr}{es:List Expr}{fs:GA}{st:Stmt}{M:GM}
def V6{Z:St}{H:Hp}{Q:VK}(t:tG K (ph M fs) Z H Q)(hn:∀rs Q0 au,fs Q0=some (rs,au)->rs.length=n):oE (gP K n M) [] E1 (jW K fs) Z H Q:=by
 obtain⟨F,A,Q0,rr,au,k,e,w⟩:=t;obtain⟨rs,os,d,fin,v0,e1,e2,e3,e4,rfl⟩:=Ub e;refine⟨F,A,Q0,rs,au,k,e1,λvs H1 pp=>?_⟩
 show gP K n M (vs++[]) H1 Q E0;rw[j9];obtain⟨F1,le,eU,res⟩:=pp.res e2 w;obtain⟨_,_,_,_,hh⟩:=pp;refine⟨by rw[<-hh.length];exact hn rs Q0 au e1,H1,[],(O.dl os).map .Y,.Y d,fin,⟨aI.refl _,Fi (V5 le eU),.nil,λ_ m=>by cases m⟩,e3,λv H' pc=>?_⟩
 obtain⟨F5,A5,x5,k5⟩:=pc;have s:aI H1 H':=λa o e=>x5.keep a o e (by simp)
 have ev:v=v0:=by
  obtain⟨B,C,h1,_⟩:=k5.os.one;exact jw h1 e4
 subst ev;exact res v H' [] s (.Y (.flat e4 .nil) .nil) .nil (λ_ m=>by cases m)
def Fm(D:bU X.K X.mg x st f fd ps)(Fn:bN X.prog X.w X.K X.mg X.base gd k f fd ps (gP K n M))(hr:dj k X.A)(ha:PA X (e::es) (jW K fs))(hn:∀rs Q0 au,fs Q0=some (rs,au)->rs.length=n)(hg:Gl X x:=by rfl)(lT:(x == ("__debug__":Str))=false:=by decide)
  (he:starEach (e::es) X.env=(false,eval e X.env)::starEach es X.env:=by rfl) (iW:(backTo pos (starEach es X.env)).any (·.1)=false:=by rfl) :
  PE X (.Call (.Name x p) (e::es) [] pos) (tG K (ph M fs)):=(wU D Fn hr ha hg lT he iW).mono λ_ _ _ t=>V6 t hn
def XG{P:eW}{w:df}{mg:Str->ai ao}{base:cL}{k:Nat}{f:ah}{fd:jM}{ps:List Str}{M:GM}(F:bN P w K mg base gd k f fd ps (gP K 1 M))(h:∀ns:List Int,ns.length<=63->∃fin,M [.Y (.fG ns)]=some (.Y (.bl true),fin)):
  bN P w K mg base gd k f fd ps (λvs H Q _=>∃(a:ah) (ns:List Int),vs=[.ref a]/\dH K H a (ns.map V.int)/\ns.length<=63/\∀H',Q (.bl true) H'):=F.imp λvs H Q E q=>by
 obtain⟨a,ns,rfl,hS,hl,q⟩:=q;obtain⟨fin,e⟩:=h ns hl;refine⟨rfl,H,[],[.Y (.fG ns)],_,fin,⟨aI.refl _,.Y (.fG hS .nil) .nil,.nil,λ_ m=>by cases m⟩,e,λv H' pc=>?_⟩
 obtain⟨F5,A5,x5,k5⟩:=pc;obtain⟨B,C,h1,_⟩:=k5.os.one;cases jw h1 rfl;exact q H'
end
end L2
namespace L2
open PySem
open Lean Meta in
simproc_decl ag (Option.bind _ _):=λe=>do
 let a:=e.getAppArgs
 unless a.size == 4 do return .continue
 let r0 <-Simp.simp a[2]!
 let r:={ r0 with expr:=(<-instantiateMVars r0.expr).cleanupAnnotations.headBeta}
 let pr <-match r.proof? with
  |none=>pure none
  |some p=>pure (some (<-mkCongrArg (.lam `z (<-inferType a[2]!) (mkApp4 e.getAppFn a[0]! a[1]! (.bvar 0) a[3]!) .default) p))
 if r.expr.isAppOfArity ``Option.some 2 then
  return .visit { expr:=(mkApp a[3]! r.expr.appArg!).headBeta,proof?:=pr}
 if r.expr.isAppOfArity ``Option.none 1 then
  return .done { expr:=mkApp (.const ``Option.none (e.getAppFn.constLevels!.drop 1)) a[1]!,proof?:=pr}
 return .done { expr:=mkApp4 e.getAppFn a[0]! a[1]! r.expr a[3]!,proof?:=pr}
open Lean Meta in
simproc_decl evMap (Option.map _ _):=λe=>do
 let a:=e.getAppArgs
 unless a.size == 4 do return .continue
 let r0 <-Simp.simp a[3]!
 let r:={ r0 with expr:=(<-instantiateMVars r0.expr).cleanupAnnotations.headBeta}
 let pr <-match r.proof? with
  |none=>pure none
  |some p=>pure (some (<-mkCongrArg (.lam `z (<-inferType a[3]!) (mkApp4 e.getAppFn a[0]! a[1]! a[2]! (.bvar 0)) .default) p))
 if r.expr.isAppOfArity ``Option.some 2 then
  return .visit { expr:=mkApp2 (.const ``Option.some (e.getAppFn.constLevels!.drop 1)) a[1]! (mkApp a[2]! r.expr.appArg!).headBeta,proof?:=pr}
 if r.expr.isAppOfArity ``Option.none 1 then
  return .done { expr:=mkApp (.const ``Option.none (e.getAppFn.constLevels!.drop 1)) a[1]!,proof?:=pr}
 return .done { expr:=mkApp4 e.getAppFn a[0]! a[1]! a[2]! r.expr,proof?:=pr}
section
variable(f g h:GS)(fa fb fc:GE)(fs:GA)(ft gt:GT)(lo hi:GO)(Q0:Gm)(i n:Nat)(o:O)(d:D)(ds:List D)(os:List O)(gg:GG)(M:GM)(op:List O->ai O)(mu:O->List O->ai (O×O))(c:List O->O)
theorem cY:aU f g Q0=(f Q0).bind λp=>match p.1 with
 |.nx=>g p.2
 |.bk=>some (.bk,p.2)
 |.ct=>some (.ct,p.2)
 |.rt o=>some (.rt o,p.2):=rfl
def dX:bL Q0=some (.nx,Q0):=rfl
theorem dY:av i fa Q0=(fa Q0).bind λp=>match p.1 with
 |.own o=>if i<p.2.length then some (.nx,p.2.set i (some o)) else none
 |_=>none:=rfl
theorem fO:ba fa Q0=(fa Q0).bind λp=>match p.1 with
 |.own o=>some (.rt o,p.2)
 |_=>none:=rfl
def kO:kb fa Q0=(fa Q0).bind λp=>some (.nx,p.2):=rfl
def dP:cH ft f g Q0=(ft Q0).bind λp=>if p.1=true then f p.2 else g p.2:=rfl
theorem rV:gD fa fb fc Q0=(fa Q0).bind λp=>(fb p.2).bind λq=>(fc q.2).bind λr=>match p.1,q.1,r.1 with
 |.own v,.var i,.own y=>match r.2[i]? with
  |some (some o)=>(jS o [v,y]).bind λz=>some (.nx,r.2.set i (some z.1))
  |_=>none
 |_,_,_=>none:=rfl
theorem pj:eI fa gg f Q0=(ax fa Q0).bind λp=>match p.1 with
 |.own (.Y (.lst ds))=>fM gg f ds p.2
 |_=>none:=rfl
def Kx:BK fs gg f Q0=(fs Q0).bind λp=>(jR p.1).bind λj=>fM gg f (hX 0 j.toNat) p.2:=rfl
def e6u:IT fs gg f Q0=(fs Q0).bind λp=>(lV p.1).bind λj=>fM gg f (hX j.1 (j.2 - j.1).toNat) p.2:=rfl
def bS:gC d Q0=some (.own (.Y d),Q0):=rfl
theorem bc:af i Q0=match Q0[i]? with
 |some (some (.Y d))=>some (.own (.Y d),Q0)
 |some (some _)=>some (.var i,Q0)
 |_=>none:=rfl
theorem cD:ax fa Q0=(fa Q0).bind λp=>match p.1 with
 |.own o=>some (.own (.Y o.d),p.2)
 |.var i=>match p.2[i]? with
  |some (some o)=>some (.own (.Y o.d),p.2.set i (some (.Y o.d)))
  |_=>none
 |_=>none:=rfl
theorem qN:fA fa Q0=(fa Q0).bind λp=>match p.1 with
 |.own o=>some (.own o,p.2)
 |.var i=>match p.2[i]? with
  |some (some o)=>some (.own o,p.2.set i none)
  |_=>none
 |_=>none:=rfl
def br:gN Q0=some ([],Q0):=rfl
def bj:aq fa fs Q0=(fa Q0).bind λp=>(fs p.2).bind λq=>some (p.1::q.1,q.2):=rfl
def bJ:gO op fs Q0=(fs Q0).bind λp=>(gK p.2 p.1).bind λos=>(op os).bind λo=>some (.own o,p.2):=rfl
def eX:aY c fs Q0=(fs Q0).bind λp=>if p.1.length<=1000 then(gH p.1).bind λos=>some (.own (c os),p.2) else none:=rfl
def Fo:zP Q0=some (.own (.aF []),Q0):=rfl
theorem de:gT fa Q0=(fa Q0).bind λp=>match p.1 with
 |.own (.Y (.bl b))=>some (b,p.2)
 |_=>none:=rfl
def lJ:g_ fa Q0=(fa Q0).bind λp=>(jV p.2 p.1).bind λo=>(pT o).bind λb=>some (b,p.2):=rfl
def ua:mh ft Q0=(ft Q0).bind λp=>some (!p.1,p.2):=rfl
def oU:jy ft gt Q0=(ft Q0).bind λp=>if p.1=true then gt p.2 else some (false,p.2):=rfl
def QZ:u7 ft gt Q0=(ft Q0).bind λp=>if p.1=true then some (true,p.2) else gt p.2:=rfl
def yd:AQ ft fa fb Q0=(ft Q0).bind λp=>if p.1=true then fa p.2 else fb p.2:=rfl
def fK:aJ M fs Q0=(fs Q0).bind λp=>(oK p.1 p.2).bind λq=>(M q.1).bind λr=>some (.own r.1,qM p.1 r.2 q.2):=rfl
theorem nJ:ir mu fa fs Q0=(fa Q0).bind λp=>match p.1 with
 |.var i=>match p.2[i]? with
  |some (some (.lst _))=>(fs p.2).bind λq=>(gH q.1).bind λos=>match q.2[i]? with
   |some (some o)=>(mu o os).bind λz=>some (.own z.2,q.2.set i (some z.1))
   |_=>none
  |_=>none
 |_=>none:=rfl
def JD:zT Q0=some (none,Q0):=rfl
def JE:xY fa Q0=(fa Q0).bind λp=>(vf p.1).map λi=>(some i,p.2):=rfl
def IZ:v9 fa lo hi Q0=(fa Q0).bind λp=>(lo p.2).bind λq=>(hi q.2).bind λr=>(jV r.2 p.1).bind λo=>(vA o q.1 r.1).bind λo'=>some (.own o',r.2):=rfl
def nH(src:Gm->ai (List D×Gm))(k:Nat)(aX:List Nat):kq src gg ft fa k aX Q0=(src Q0).bind λp=>
 (compLoop gg ft fa p.1 (List.replicate k none++(cF aX p.2).1) []).bind λq=>if q.2.length=k+aX.length then some (.own (.lst q.1),ui aX (q.2.drop k) (cF aX p.2).2) else none:=rfl
theorem rS:jG fa Q0=(ax fa Q0).bind λp=>match p.1 with
 |.own (.Y (.lst ds))=>some (ds,p.2)
 |_=>none:=rfl
def OL:mG fs Q0=(fs Q0).bind λp=>(jR p.1).map λj=>(hX 0 j.toNat,p.2):=rfl
def I_:qw fs Q0=(fs Q0).bind λp=>(lV p.1).map λj=>(hX j.1 (j.2 - j.1).toNat,p.2):=rfl
def uU:fm Q0=some (true,Q0):=rfl
def fU:bp i d Q0=if i<Q0.length then some (Q0.set i (some (.Y d))) else none:=rfl
def xM(gs:List GG):eG gs (.tup ds) Q0=iH gs ds Q0:=rfl
def xC:iH [] [] Q0=some Q0:=rfl
def xD(gs:List GG):iH (gg::gs) (d::ds) Q0=(gg d Q0).bind λaE=>iH gs ds aE:=rfl
def fV(m:List Bool):runM n m f os=(f (os.map some++List.replicate (n - os.length) none)).bind λp=>p.1.val.bind λo=>if p.2.length=n then some (o,gE m (p.2.take os.length)) else none:=rfl
def V7:fM gg f [] Q0=some (.nx,Q0):=rfl
theorem xF:fM gg f (d::ds) Q0=(gg d Q0).bind λaE=>(f aE).bind λq=>match q.1 with
 |.nx=>fM gg f ds q.2
 |.ct=>fM gg f ds q.2
 |.bk=>some (.nx,q.2)
 |.rt o=>some (.rt o,q.2):=rfl
def Q3:compLoop gg ft fa [] Q0 os=some (os,Q0):=rfl
def Q4:compLoop gg ft fa (d::ds) Q0 os=(gg d Q0).bind λaE=>(ft aE).bind λp=>if p.1=true then
   (fa p.2).bind λq=>(gH [q.1]).bind λyO=>if os.length<1000000 then compLoop gg ft fa ds q.2 (os++yO) else none
  else compLoop gg ft fa ds p.2 os:=rfl
def UZ:vA (.Y (.lst ds)) l u=some (.lst ((cutD ds l u).map .Y)):=rfl
def U0(z:Str):vA (.Y (.str z)) l u=if z.length<=1000000 then some (.Y (.str (Txt.slice z l u))) else none:=rfl
def Q5:dz (.Y (.lst ds))=some ds:=rfl
def Q6:dz (.lst (ds.map .Y))=some ds:=zA ds
def Gs:dz (.lst os)=kd os:=rfl
def J6:kd []=some []:=rfl
def J7:kd (.Y d::os)=(kd os).bind λds=>some (d::ds):=rfl
def iR(a b:Int):cn [.Y (.int a),.Y (.int b)]=some (.Y (.int (a+b))):=rfl
def XH(a b:Str):cn [.Y (.str a),.Y (.str b)]=if a.length+b.length<=1000000 then some (.Y (.str (a++b))) else none:=rfl
def JF(a b:List O):cn [.lst a,.lst b]=(dz (.lst a)).bind λxs=>(dz (.lst b)).bind λys=>if xs.length+ys.length<=1000000 then some (.lst ((xs++ys).map .Y)) else none:=rfl
def V8(a:List D)(b:List O):cn [.Y (.lst a),.lst b]=(dz (.lst b)).bind λys=>if a.length+ys.length<=1000000 then some (.lst ((a++ys).map .Y)) else none:=rfl
def i3(C:Int->Int->Bool)(q:Int->Int->D)(a b:Int):oj C q [.Y (.int a),.Y (.int b)]=if C a b=true then some (.Y (q a b)) else none:=rfl
def zK(a b:Int):ic [.Y (.int a),.Y (.int b)]=if(-(2^64)<a/\a<2^64)\/(-(2^64)<b/\b<2^64) then some (.Y (.int (a*b))) else none:=rfl
def FQ(a:Str)(b:Int):ic [.Y (.str a),.Y (.int b)]=if MulOk a b then some (.Y (.str (Txt.mul a b))) else none:=rfl
def dh(a:O):bM [a,.Y d]=dQ a d:=rfl
def pk(k:Int):dQ (.Y (.lst ds)) (.int k)=(fj ds k).map .Y:=rfl
def lK(k:Int):dQ (.Y (.tup ds)) (.int k)=(fj ds k).map .Y:=rfl
def J8(k:Int):dQ (.lst os) (.int k)=(fj os k).bind iL:=rfl
def Gu(z:Str)(k:Int):dQ (.Y (.str z)) (.int k)=if z.length<=1000000 then(fj z.cps.toList k).map λc=>.Y (.str ⟨#[c]⟩) else none:=rfl
def Ja:iL (.Y d)=some (.Y d):=rfl
def xZ(a:O):iJ [a]=(vh a.d).map λn=>.Y (.int n):=rfl
def zL:vh (.lst ds)=some (ds.length:Int):=rfl
def oW(a b:O):oEq [a,b]=if cO 40 a.d=true/\cO 40 b.d=true then some (.Y (.bl (bx a.d b.d))) else none:=rfl
def Zq(a:Bool):om [.Y (.bl a)]=some (.Y (.int (if a then 1 else 0))):=rfl
def JG(ps:List O)(v:O)(k:Int):jS (.lst ps) [v,.Y (.int k)]=(qp ps.length k).map λj=>(.lst (ps.set j v),.Y .bh):=rfl
def fH:oK [] Q0=some ([],Q0):=rfl
def fJ(rs:List R):oK (.own o::rs) Q0=(oK rs Q0).bind λp=>some (o::p.1,p.2):=rfl
theorem ko(rs:List R):oK (.var i::rs) Q0=match Q0[i]? with
  |some (some o)=>(oK rs (Q0.set i none)).bind λp=>some (o::p.1,p.2)
  |_=>none:=rfl
def fW(fin:Gm):qM [] fin Q0=Q0:=by cases fin <;> rfl
def fX(rs:List R)(x:ai O)(fin:Gm):qM (.own o::rs) (x::fin) Q0=qM rs fin Q0:=rfl
def lL(rs:List R)(x:ai O)(fin:Gm):qM (.var i::rs) (x::fin) Q0=(qM rs fin Q0).set i x:=rfl
def bD:gK Q0 []=some []:=rfl
def bF(r:R)(rs:List R):gK Q0 (r::rs)=(jV Q0 r).bind λo=>(gK Q0 rs).bind λos=>some (o::os):=rfl
def bz:jV Q0 (.own o)=some o:=rfl
def jJ:jV Q0 (.var i)=(Q0[i]?).join:=rfl
def dW:gH []=some []:=rfl
def e_(rs:List R):gH (.own o::rs)=(gH rs).bind λos=>some (o::os):=rfl
def JH(k:Int):vf (.own (.Y (.int k)))=some k:=rfl
def rW(m:List Bool)(x:ai O):gE (true::m) (x::Q0)=x::gE m Q0:=rfl
def gj(m:List Bool)(x:ai O):gE (false::m) (x::Q0)=none::gE m Q0:=rfl
def fY(m:List Bool):gE m []=[]:=by
 cases m with
 |nil=>rfl
 |cons b m=>cases b <;> rfl
def gw:(Fl.rt o).val=some o:=rfl
def Ky:Fl.nx.val=some (.Y .bh):=rfl
def qa(b:Bool):pT (.Y (.bl b))=some b:=rfl
def xN:pT (.Y (.lst ds))=some (!ds.isEmpty):=rfl
def bZ:(O.Y d).d=d:=rfl
def i4:(O.lst os).d=.lst (O.dl os):=rfl
def jh:(O.tup os).d=.tup (O.dl os):=rfl
def gh:O.dl []=[]:=rfl
def ip:O.dl (o::os)=o.d::O.dl os:=rfl
def uj:O.dl (ds.map .Y)=ds:=pe ds
end
def ng{α:Type}(a:α)(l:List α):fj (a::l) 0=some a:=qL (j:=0) rfl
def o8{α:Type}(a b:α)(l:List α):fj (a::b::l) 1=some b:=qL (j:=1) rfl
def Jb{α:Type}(a b c:α)(l:List α):fj (a::b::c::l) 2=some c:=qL (j:=2) rfl
def zC{α:Type}(a b c d:α)(l:List α):fj (a::b::c::d::l) 3=some d:=qL (j:=3) rfl
def Jc{α:Type}(a b c d e:α)(l:List α):fj (a::b::c::d::e::l) 4=some e:=qL (j:=4) rfl
def U1(ns:List Int)(l u:ai Int):vA (.Y (.fG ns)) l u=some (.lst ((cutD (ns.map D.int) l u).map .Y)):=rfl
def oM(Q0:Gm):cF [] Q0=([],Q0):=rfl
def qJ(i:Nat)(aX:List Nat)(Q0:Gm):cF (i::aX) Q0=((Q0[i]?).join::(cF aX (Q0.set i none)).1,(cF aX (Q0.set i none)).2):=rfl
def oO(x Q0:Gm):ui [] x Q0=Q0:=by cases x <;> rfl
def qK(i:Nat)(aX:List Nat)(x:ai O)(lF Q0:Gm):ui (i::aX) (x::lF) Q0=(ui aX lF Q0).set i x:=rfl
theorem BN(M:GM)(fs:GA)(Q0:Gm):ph M fs Q0=(fs Q0).bind λp=>(gK p.2 p.1).bind λos=>(M ((O.dl os).map .Y)).bind λr=>match r.1 with
 |.Y d=>(nI d).bind λ_=>some (.own (.Y d),p.2)
 |_=>none:=rfl
def PJ(a:Int):nI (.int a)=some (.int a):=rfl
def XI(a:Str):nI (.str a)=some (.str a):=rfl
def XJ(a:Bool):nI (.bl a)=some (.bl a):=rfl
def XM:nI .bh=some .bh:=rfl
def oV(n:Nat)(a:Int):cO n (.int a)=true:=by cases n <;> rfl
def qb(n:Nat)(a:Str):cO n (.str a)=true:=by cases n <;> rfl
def XN(n:Nat)(a:Bool):cO n (.bl a)=true:=by cases n <;> rfl
def qc(a b:Int):bx (.int a) (.int b)=(a == b):=by unfold bx;rfl
def Cb(a b:Str):bx (.str a) (.str b)=(a == b):=by unfold bx;rfl
end L2
namespace L2
open PySem PySem.Spec PyProof.Rows
section
variable{X:Cx}{aa:List (ah×Obj)}{s:az}{Z:St}{H:Hp}
def Zr(I:Inv X aa Z H s){n m:Nat}{A:dD}{x y:V}{u v:ao}{d e:D}(rd:aw X.K H [x] [d])(re:aw X.K H [y] [e])(od:cO n d=true)(oe:cO m e=true)(ru:RelV x u)(rv:RelV y v)(hu:A.units+n<cLine):SeqAt.RcNeAt A s u v (!bx d e):=by
 have dF:A.units<cLine:=by lia
 have s1:=Gn I rd ru od;have s2:=Gn I re rv oe;cases s1 with
 |none=>
  cases s2 with
  |none=>
   simp only[bx];exact SeqAt.RcNeAt.none_none
  |bool a2=>
   simp only[bx];exact SeqAt.RcNeAt.none_bool a2
  |int a2 t2=>
   simp only[bx];exact SeqAt.RcNeAt.none_int a2 t2
  |str a2 t2=>
   simp only[bx];exact SeqAt.RcNeAt.none_str a2 t2
  |list l2 v2 r2=>
   simp only[bx];exact SeqAt.RcNeAt.none_list l2 dF
  |tuple l2 v2 r2=>
   simp only[bx];exact SeqAt.RcNeAt.none_tuple l2 dF
 |bool a1=>
  cases s2 with
  |none=>
   simp only[bx];exact SeqAt.RcNeAt.bool_none a1
  |bool a2=>
   simp only[bx];exact SeqAt.RcNeAt.bool_bool a1 a2
  |int a2 t2=>
   simp only[bx];exact SeqAt.RcNeAt.bool_int a1 a2 t2
  |str a2 t2=>
   simp only[bx];exact SeqAt.RcNeAt.bool_str a1 a2 t2
  |list l2 v2 r2=>
   simp only[bx];exact SeqAt.RcNeAt.bool_list a1 l2 dF
  |tuple l2 v2 r2=>
   simp only[bx];exact SeqAt.RcNeAt.bool_tuple a1 l2 dF
 |int a1 t1=>
  cases s2 with
  |none=>
   simp only[bx];exact SeqAt.RcNeAt.int_none a1 t1
  |bool a2=>
   simp only[bx];exact SeqAt.RcNeAt.int_bool a1 t1 a2
  |int a2 t2=>
   simp only[bx];exact SeqAt.RcNeAt.int_int a1 t1 a2 t2
  |str a2 t2=>
   simp only[bx];exact SeqAt.RcNeAt.int_str a1 t1 a2 t2
  |list l2 v2 r2=>
   simp only[bx];exact SeqAt.RcNeAt.int_list a1 t1 l2 dF
  |tuple l2 v2 r2=>
   simp only[bx];exact SeqAt.RcNeAt.int_tuple a1 t1 l2 dF
 |str a1 t1=>
  cases s2 with
  |none=>
   simp only[bx];exact SeqAt.RcNeAt.str_none a1 t1
  |bool a2=>
   simp only[bx];exact SeqAt.RcNeAt.str_bool a1 t1 a2
  |int a2 t2=>
   simp only[bx];exact SeqAt.RcNeAt.str_int a1 t1 a2 t2
  |str a2 t2=>
   simp only[bx];exact SeqAt.RcNeAt.str_str a1 t1 a2 t2
  |list l2 v2 r2=>
   simp only[bx];exact SeqAt.RcNeAt.str_list a1 t1 l2 dF
  |tuple l2 v2 r2=>
   simp only[bx];exact SeqAt.RcNeAt.str_tuple a1 t1 l2 dF
 |list l1 v1 r1=>
  cases s2 with
  |none=>
   simp only[bx];exact SeqAt.RcNeAt.list_none l1 dF
  |bool a2=>
   simp only[bx];exact SeqAt.RcNeAt.list_bool a2 l1 dF
  |int a2 t2=>
   simp only[bx];exact SeqAt.RcNeAt.list_int a2 t2 l1 dF
  |str a2 t2=>
   simp only[bx];exact SeqAt.RcNeAt.list_str a2 t2 l1 dF
  |list l2 v2 r2=>
   rename_i a aH ws es b kj xh md
   obtain⟨n',rfl,sZ⟩:=zH od;obtain⟨m',rfl,s9⟩:=zH oe;have la:=v1.length;have lb:=v2.length;have LY:=r1.length;have LZ:=r2.length;simp only[bx];by_cases hl:es.length=md.length
   .rw[BM aH.toArray.size (by simp only[fP];lia) (by simp only[fP];lia)]
    refine SeqAt.RcNeAt.lists (A:=A) l1 l2 (by simp only[fP];lia) dF λj h1 h2=>?_
    obtain⟨x1,q1,q2,q3⟩:=v8 r1 v1 h1;obtain⟨y1,p1,p2,p3⟩:=v8 r2 v2 h2;exact(Ca I n' m' q2 p2 (vU sZ q3) (vU s9 p3) q1 p1 (by show A.units+1+n'<cLine;lia)).1
   .rw[BL hl];exact SeqAt.RcNeAt.lists_lengths (A:=A) l1 l2 (by simp only[fP,bne_iff_ne,ne_eq];lia) dF
  |tuple l2 v2 r2=>
   simp only[bx];exact SeqAt.RcNeAt.list_tuple l1 l2 dF
 |tuple l1 v1 r1=>
  cases s2 with
  |none=>
   simp only[bx];exact SeqAt.RcNeAt.tuple_none l1 dF
  |bool a2=>
   simp only[bx];exact SeqAt.RcNeAt.tuple_bool a2 l1 dF
  |int a2 t2=>
   simp only[bx];exact SeqAt.RcNeAt.tuple_int a2 t2 l1 dF
  |str a2 t2=>
   simp only[bx];exact SeqAt.RcNeAt.tuple_str a2 t2 l1 dF
  |list l2 v2 r2=>
   simp only[bx];exact SeqAt.RcNeAt.tuple_list l1 l2 dF
  |tuple l2 v2 r2=>
   rename_i a aH ws es b kj xh md
   obtain⟨n',rfl,sZ⟩:=zI od;obtain⟨m',rfl,s9⟩:=zI oe;have la:=v1.length;have lb:=v2.length;have LY:=r1.length;have LZ:=r2.length;have z:=SeqAt.RcNeAt.tuples (A:=A) (e:=λj=>bx (es.getD j .bh) (md.getD j .bh)) l1 l2 dF λj h1 h2=>by
    obtain⟨x1,q1,q2,q3⟩:=v8 r1 v1 h1;obtain⟨y1,p1,p2,p3⟩:=v8 r2 v2 h2;exact(Ca I n' m' q2 p2 (vU sZ q3) (vU s9 p3) q1 p1 (by show A.units+1+n'<cLine;lia)).1
   simp only[bx];by_cases hl:es.length=md.length
   .rw[BM aH.toArray.size (by simp only[fP];lia) (by simp only[fP];lia)]
    have e1:kj.toArray.size=aH.toArray.size:=by simp only[fP];lia
    rw[e1,Nat.min_self,rj,EE] at z;exact z
   .rw[BL hl];have e1:(aH.toArray.size == kj.toArray.size)=false:=by rw[p7];simp only[fP];lia
    rw[e1,HJ] at z;exact z
end
section
variable{X:Cx}{K:FG}
def D8(K:FG):R2:=λx y H Q=>∃d e,aw K H [x] [d]/\aw K H [y] [e]/\cO 40 d=true/\cO 40 e=true/\Q (.bl (!bx d e)) H
def Cd(K:FG)(hu:X.A.units+40<cLine)(hK:X.K=K:=by rfl):gM X (compareOp .NotEq) (D8 K):=by
 subst hK;intro aa s Z H x y v u Q I rx ry h;obtain⟨d,e,r1,r2,o1,o2,q⟩:=h;exact(Zr I r1 r2 o1 o2 rx ry hu) X.prog X.w _ _ ⟨.bl _,H,I,rfl,q⟩
def iw:List O->ai O
 |[a,b]=>if cO 40 a.d=true/\cO 40 b.d=true then some (.Y (.bl (!bx a.d b.d))) else none
 |_=>none
def Ce:cS K (mY (D8 K)) iw:=by
 intro F H vs os o Q le eU e res;unfold iw at e;split at e
 .split at e
  .cases e;obtain⟨x,y,B,C,rfl,h1,h2⟩:=eU.two
   rename_i hh
   exact⟨_,_,rfl,_,_,o9 le h1,o9 le h2,hh.1,hh.2,res.flat rfl⟩
  .cases e
 .cases e
end
end L2
namespace L2
open PySem
variable{g:GG}{ct:GT}{ce:GE}
noncomputable def rP(g:GG)(ct:GT)(ce:GE)(d:D)(Q0:Gm):ai (ai R×Gm):=(g d Q0).bind λaE=>(ct aE).bind λp=>if p.1=true then(ce p.2).bind λq=>some (some q.1,q.2) else some (none,p.2)
theorem N6{d:D}{ds:List D}{Q0 au:Gm}{os:List O}{r:ai R}(h:rP g ct ce d Q0=some (r,au)):
  compLoop g ct ce (d::ds) Q0 os=match r with
   |some r=>(gH [r]).bind λyO=>if os.length<1000000 then compLoop g ct ce ds au (os++yO) else none
   |none=>compLoop g ct ce ds au os:=by
 rw[Q4];unfold rP at h;cases e1:g d Q0 with
 |none=>rw[e1] at h;cases h
 |some aE=>
  rw[e1] at h;rw[Option.bind_some] at h ⊢;cases e2:ct aE with
  |none=>rw[e2] at h;cases h
  |some p=>
   rw[e2] at h;rw[Option.bind_some] at h ⊢;by_cases hp:p.1=true
   .rw[aT hp] at h ⊢;cases e3:ce p.2 with
    |none=>rw[e3] at h;cases h
    |some q=>rw[e3] at h;cases h;rfl
   .rw[aW hp] at h ⊢;cases h;rfl
theorem xG{α:Type}{g:GG}{ct:GT}{ce:GE}(St:Gm->Prop)(enc:α->D)(p:α->Bool)(val:α->D):∀(xs:List α) (aM:List D) (Q0:Gm),St Q0->aM.length+xs.length<1000000->
  (∀x∈xs,∀Q0,St Q0->∃au,rP g ct ce (enc x) Q0=some (if p x=true then some (.own (.Y (val x))) else none,au)/\St au)->
  ∃au,St au/\compLoop g ct ce (xs.map enc) Q0 (aM.map .Y)=some ((aM++(xs.filter p).map val).map .Y,au)
 |[],aM,Q0,hS,_,_=>⟨Q0,hS,by rw[pX,Q3,List.filter_nil,pX,j9]⟩
 |x::xs,aM,Q0,hS,hl,h=>by
  rw[jL] at hl;obtain⟨aE,e1,s1⟩:=h x (.head _) Q0 hS;by_cases hp:p x=true
  .rw[aT hp] at e1;rw[c_,N6 e1];obtain⟨cq,s2,e2⟩:=xG St enc p val xs (aM++[val x]) aE s1 (by rw[fu,mJ];lia) λy hy=>h y (.tail _ hy)
   refine⟨cq,s2,?_⟩;show(if(aM.map O.Y).length<1000000 then compLoop g ct ce (xs.map enc) aE (aM.map O.Y++[O.Y (val x)]) else none)=_
   rw[aT (by rw[bY];lia),List.filter_cons_of_pos hp,c_,show aM++val x::(xs.filter p).map val=aM++[val x]++(xs.filter p).map val by simp,<-e2,jI]
   rfl
  .rw[aW hp] at e1;rw[c_,N6 e1];obtain⟨cq,s2,e2⟩:=xG St enc p val xs aM aE s1 (by lia) λy hy=>h y (.tail _ hy)
   refine⟨cq,s2,?_⟩;rw[List.filter_cons_of_neg hp];exact e2
def xH{α:Type}(St:Gm->Prop)(enc:α->D)(val:α->D)(xs:List α)(Q0:Gm)(hS:St Q0)(hl:xs.length<1000000)
  (h:∀x∈xs,∀Q0,St Q0->∃au,rP g ct ce (enc x) Q0=some (some (.own (.Y (val x))),au)/\St au):∃au,St au/\compLoop g ct ce (xs.map enc) Q0 []=some ((xs.map val).map .Y,au):=by
 obtain⟨au,s,e⟩:=xG St enc (λ_=>true) val xs [] Q0 hS (by rw[uE];lia) λx hx Q0 yo=>h x hx Q0 yo
 refine⟨au,s,?_⟩;rw[ig,List.filter_eq_self.mpr (λ_ _=>rfl)] at e
 exact e
def t7(g:GG)(ct:GT)(ce:GE)(d:D)(Q0:Gm):rP g ct ce d Q0=(g d Q0).bind λaE=>(ct aE).bind λp=>if p.1=true then(ce p.2).bind λq=>some (some q.1,q.2) else some (none,p.2):=rfl
def Cf(a b:O):iw [a,b]=if cO 40 a.d=true/\cO 40 b.d=true then some (.Y (.bl (!bx a.d b.d))) else none:=rfl
def Zs(a b:Str):iw [.Y (.str a),.Y (.str b)]=some (.Y (.bl (!(a == b)))):=by
 unfold iw;simp[O.d,cO,bx]
def qe(ds:List D)(d:D):oS (.lst (ds.map .Y)) [.Y d]=if ds.length<1000000 then some (.lst ((ds++[d]).map .Y),.Y .bh) else none:=by
 show(if(ds.map O.Y).length<1000000 then _ else _)=_
 rw[bY,jI];rfl
theorem oP{α:Type}{g:GG}{f:GS}(enc:α->D)(P:List α->Gm->Prop):∀(xs pre:List α) (Q0:Gm),P pre Q0->
  (∀q x post Q0,xs=q++x::post->P (pre++q) Q0->∃cq,(g (enc x) Q0).bind f=some (.nx,cq)/\P (pre++q++[x]) cq)->∃au,fM g f (xs.map enc) Q0=some (.nx,au)/\P (pre++xs) au
 |[],pre,Q0,h,_=>⟨Q0,rfl,by rw[j9];exact h⟩
 |x::xs,pre,Q0,h,st=>by
  obtain⟨cq,h2,h3⟩:=st [] x xs Q0 rfl (by rw[j9];exact h)
  rw[j9] at h3;obtain⟨au,h4,h5⟩:=oP enc P xs (pre++[x]) cq h3 λq y post Q0 e p=>by
   obtain⟨cq,b,c⟩:=st (x::q) y post Q0 (by rw[e];rfl) (by rw[show pre++x::q=pre++[x]++q by simp];exact p)
   exact⟨cq,b,by rw[show pre++[x]++q++[y]=pre++x::q++[y] by simp];exact c⟩
  refine⟨au,?_,by rw[show pre++x::xs=pre++[x]++xs by simp];exact h5⟩
  rw[c_,xF];cases q:g (enc x) Q0 with
  |none=>rw[q] at h2;cases h2
  |some aE=>
   rw[q] at h2;have h2:f aE=some (.nx,cq):=h2;show(f aE).bind _=_;rw[h2];exact h4
def V9{α:Type}{f:GS}(enc:α->D)(P:Gm->Prop)(xs:List α)(Q0:Gm)(h:P Q0)(st:∀x∈xs,∀Q0,P Q0->∃cq,(g (enc x) Q0).bind f=some (.nx,cq)/\P cq):∃au,fM g f (xs.map enc) Q0=some (.nx,au)/\P au:=
 oP enc (λ_ Q0=>P Q0) xs [] Q0 h λq x post Q0 e p=>st x (by rw[e];simp) Q0 p
def xI(lo:Int)(n:Nat):hX lo n=(List.range n).map λ(k:Nat)=>D.int (lo+(k:Int)):=rfl
end L2
namespace L2
open PySem PySem.Spec PyProof.Rows
variable{P:eW}{w:df}{K:FG}{tg ek ev:Expr}{X:Cx}{l a it e C fa:ah}{ta:TA}{p:Pos}{g:TG}{tb:TS}{Z:St}{H F:Hp}{L A ch:List ah}{t' x1 n i k:Nat}{elts:List Expr}{Src:Hp->Prop}{h h':cL}{Q:VK}{dx:ai ah}{vs:List V}{x qual:Str}{fd:jM}{N ps:List Str}{W:XW}{mN:Str->ai ao}
def nq(K:FG)(a:ah)(n:Nat):It:=
 ⟨λi H=>i<n/\∃xs,dH K H a xs/\xs.length=n,λi H x H'=>H'=H/\∀xs,dH K H a xs->xs[n - 1 - i]?=some x,λi H=>n<=i⟩
def V_(a it:ah)(n:Nat):Turn P w K tg (nq K a n) [it] it (λi h=>i<=n/\h.IsRevIter it a ((n:Int) - 1 - i)) where
 mem:=by simp
 obj:=λi h st b hb=>by
  have e:b=it:=by simpa using hb
  subst e;obtain⟨_,o,e,c,d⟩:=st;exact⟨o,e,λv z=>by rw[d] at z;cases z⟩
 keep:=λi h h' st k=>⟨st.1,st.2.at λo e=>k it (by simp) o e⟩
 item:=by
  intro X hP hw hK hc i aa s Z H E I hf st hg;subst hP hw hK;obtain⟨hi,xs,hq,hx⟩:=hg;obtain⟨aH,rv,p,hz⟩:=I.list hq;have Dx:xs[n - 1 - i]?=some xs[n - 1 - i]:=km (by lia)
  obtain⟨u,hu,ru⟩:=rv.get Dx;obtain⟨f0,f1,f2,f3,f4,f5⟩:=hf it (by simp)
  have rK:s.heap.IsRevIter it a (((n - 1 - i:Nat):Int)):=by
   have:=st.2
   rwa[show((n:Int) - 1 - i)=((n - 1 - i:Nat):Int) by lia] at this
  refine wpAny_pyNext_rev_item rK p.isList (x:=u) (by simpa using hu) λh' qx sb=>?_
  have I1:Inv X aa Z H { s with heap:=h'}:=I.turned (t':=s.toks) (λb o hb e=>(sb.2 b hb).trans e) f0 f1 f3 f4 f5
  obtain⟨o,e,c,d⟩:=id qx;refine⟨u,rfl,Cy (s:={ s with heap:=h'}) e c d (by decide) ⟨_,H,I1,ru,⟨rfl,λys hy=>by rw[I.kW hy hq];exact Dx⟩,⟨by lia,?_⟩,λb hb=>(hf b hb).1⟩⟩
  rw[show((n:Int) - 1 - ((i+1:Nat):Int))=((n - 1 - i:Nat):Int) - 1 by lia]
  exact qx
 done:=by
  intro X hP hw hK hc i aa s Z H E I hf st hg;subst hP hw hK;obtain⟨f0,f1,f2,f3,f4,f5⟩:=hf it (by simp)
  have hg:n<=i:=hg;have rK:s.heap.IsRevIter it a (-1):=by
   have:=st.2
   rwa[show((n:Int) - 1 - i) = -1 by have:=st.1;lia] at this
  exact wpAny_pyNext_rev_end (I.ok.hd hc) rK λh' eb=>⟨rfl,I.turned (t':=s.toks) (λb o hb e=>eb b o hb e) f0 f1 f3 f4 f5⟩
 self:=λ_ _ _ _ _ st h=>wpAny_pyIter_revIter st.2 h
def LK(K:FG)(ta:TA):TI:=λZ H R=>ta Z H λvs H1=>∃a xs,vs=[.ref a]/\dH K H1 a xs/\R (nq K a xs.length) H1
def Zt{l:Expr}{pos:Pos}(hg:Gl X "reversed")(hm:X.mg "reversed"=none)(ha:PA X [l] ta)(hs:starEach [l] X.env=[(false,eval l X.env)]:=by rfl):PI X tg (.Call (.Name "reversed" p) [l] [] pos) (LK X.K ta):=by
 intro aa s Z H R I h;refine Call_ (xT I hg hm boot_reversed (PyProof.Rows.callWith_type1 (cR (ha pos aa s Z H _ I h) λus s1 hh=>?_) hs rfl))
 obtain⟨vs,H1,I1,r1,q1⟩:=hh;obtain⟨a,xs,e,hq,q⟩:=q1;subst e;cases r1 with
 |cons r rr=>
  cases rr;cases r;obtain⟨aH,rv,pl,hz⟩:=I1.list hq;have hl:=rv.length;refine call_reversed_list pl.isList ?_;have st:(s1.heap.push (revObj a ((aH.toArray.size:Int) - 1))).IsRevIter s1.heap.objs.size a ((aH.toArray.size:Int) - 1):=⟨_,oI _ rfl,rfl,rfl⟩;refine wpAny_pyIter_revIter st ?_;refine⟨s1.heap.objs.size,[s1.heap.objs.size],_,_,H1,rfl,I1.kept (t':=s1.toks) λb o e=>iP _ e,V_ a _ xs.length,⟨pV _,?_⟩,λb hb=>?_,q⟩
  .rw[show((xs.length:Int) - 1 - ((0:Nat):Int))=(aH.toArray.size:Int) - 1 by rw[fP,hl];simp]
   exact st
  .have e:b=s1.heap.objs.size:=by simpa using hb
   subst e;exact I1.qV (c7 _) (I1.cg.fresh (c7 _))
def XO{xs:List V}{D:Ends}(Pv:Nat->St->Hp->Prop)(h0:Pv 0 Z H)(hl:∀i Z H,i<=xs.length->Pv i Z H->dH K H a xs)
  (hs:∀i x Z H,i<xs.length->xs[xs.length - 1 - i]?=some x->Pv i Z H->g x Z H λZ2 H2=>tb { D with nx:=Pv (i+1),ct:=Pv (i+1),bk:=D.nx} Z2 H2) (hd:∀Z H,Pv xs.length Z H->D.nx Z H) :
  ∃W:Nat->Nat->St->Hp->Prop,(∃m,W 0 m Z H)/\∀i m Z H,W i m Z H->
   ((nq K a xs.length).stop i H/\D.nx Z H)\/((nq K a xs.length).go i H/\∃N:St->Hp->Prop,(∀Z' H',N Z' H'->∃m',m'<m/\W (i+1) m' Z' H')/\∀x H',(nq K a xs.length).vL i H x H'->g x Z H' λZ2 H2=>tb { D with nx:=N,ct:=N,bk:=D.nx} Z2 H2):=by
 refine⟨λi m Z H=>m=xs.length - i/\i<=xs.length/\Pv i Z H,⟨xs.length,by simp,pV _,h0⟩,?_⟩
 rintro i m Z H ⟨rfl,hi,p⟩;have q:=hl i Z H hi p;by_cases f_:i<xs.length
 .refine .inr ⟨⟨f_,xs,q,rfl⟩,Pv (i+1),λZ' H' p'=>⟨xs.length - (i+1),by lia,rfl,f_,p'⟩,λx H' y=>?_⟩
  obtain⟨e,y⟩:=y;subst e;exact hs i x Z _ f_ (y xs q) p
 .exact .inl ⟨by show xs.length<=i;lia,hd Z H (by rw[show xs.length=i by lia];exact p)⟩
section
variable{X:Cx}{K:FG}{fa fk fv:GE}{f:GS}{m:List Bool}{W:ai XW}{tg l:Expr}{t:TG}{gg:GG}{body:List Stmt}{p0 p1 pos:Pos}
def J9(fa:GE)(gg:GG)(f:GS):GS:=λQ0=>(ax fa Q0).bind λp=>match p.1 with
 |.own (.Y (.lst ds))=>fM gg f ds.reverse p.2
 |_=>none
def XQ(hp:PassesOwn (model X.prog X.w) X.A X.env X.xe)(hm:X.mg "reversed"=none)(hi:PE X l (tG K fa))(hg:PG X tg t)(ht:fQ K m t gg)(hb:gR X body (tS K m W f))(hc:X.calm=true:=by rfl)(yt:Gl X "reversed":=by rfl)(kg:starEach [l] X.env=(false,eval l X.env)::starEach [] X.env:=by rfl)(pG:starEach [l] X.env=[(false,eval l X.env)]:=by rfl)(hK:X.K=K:=by rfl)(hs:∀x,foldedSetIterable (.Call (.Name "reversed" p0) [l] [] p1) X.env x=pure x:=by intro _;rfl):PS X (.For tg (.Call (.Name "reversed" p0) [l] [] p1) body [] pos) (tS K m W (J9 fa gg f)):=by
 subst hK;refine(xU hp hc (Zt yt hm (ay (bQ hi) aV kg) pG) hg hb hs).mono λD Z H tt=>?_
 obtain⟨F,A,Q0,fl,au,k,e,w⟩:=tt;obtain⟨ds,aE,q,e⟩:=Po (φ:=λds Q0=>fM gg f ds.reverse Q0) e
 refine⟨F,A,Q0,[.own (.Y (.lst ds))],aE,k,by rw[bj,q];rfl,λvs H1 pp=>?_⟩
 obtain⟨F1,A1,x,k1,hh⟩:=pp;obtain⟨v,rfl⟩:=GQ hh.length;obtain⟨rp,st⟩:=LI.start k1 x w e;obtain⟨a,ws,rfl,sq,ri⟩:=Jx rp;refine⟨a,ws,rfl,.inl (k1.le.rd sq),XO (xs:=ws) (LI X.K m W gg f D F1 fl au ds.reverse) st (λi Z' H' _ p=>.inl (p.same.rd sq)) (λi x' Z' H' f_ hx p=>?_) λZ' H' p=>p.fin (by rw[List.length_reverse,ri.length];exact c7 _)⟩
 have hl:=ri.length;have hi:ds.length - 1 - i<ds.length:=by lia
 obtain⟨x2,sP,rx⟩:=ri.get (i:=ws.length - 1 - i) (d:=ds[ds.length - 1 - i]) (by rw[hl];exact km hi)
 rw[hx] at sP;cases sP;exact p.turn ht (by rw[List.getElem?_reverse (by lia)];exact km hi) rx
theorem XR(fa:GE)(gg:GG)(f:GS)(Q0:Gm):J9 fa gg f Q0=(ax fa Q0).bind λp=>match p.1 with
 |.own (.Y (.lst ds))=>fM gg f ds.reverse p.2
 |_=>none:=rfl
def jo:List Int->Int
 |[]=>0
 |x::xs=>xs.foldl (λa b=>if b<a then b else a) x
def U2(xs:List Int):∀x:Int,(xs.foldl (λa b=>if b<a then b else a) x<=x/\∀y∈xs,xs.foldl (λa b=>if b<a then b else a) x<=y)/\(xs.foldl (λa b=>if b<a then b else a) x=x\/xs.foldl (λa b=>if b<a then b else a) x∈xs):=by
 induction xs with
 |nil=>intro x;exact⟨⟨vK _,λy m=>by cases m⟩,.inl rfl⟩
 |cons z xs ih=>
  intro x;obtain⟨⟨h1,h2⟩,h3⟩:=ih (if z<x then z else x)
  rw[List.foldl_cons];have hle:(if z<x then z else x)<=x/\(if z<x then z else x)<=z:=by split <;> lia
  refine⟨⟨by lia,λy m=>?_⟩,?_⟩
  .rcases dR.mp m with rfl|m
   .lia
   .exact h2 y m
  .rcases h3 with h3|h3
   .rw[h3];by_cases hz:z<x
    .rw[aT hz];exact .inr (.head _)
    .rw[aW hz];exact .inl rfl
   .exact .inr (.tail _ h3)
def zo{xs:List Int}(h:xs≠[]):jo xs∈xs/\∀y∈xs,jo xs<=y:=by
 cases xs with
 |nil=>exact b_ rfl h
 |cons x xs=>
  obtain⟨⟨h1,h2⟩,h3⟩:=U2 xs x;refine⟨?_,λy m=>?_⟩
  .rcases h3 with h3|h3
   .show List.foldl _ x xs∈_;rw[h3];exact .head _
   .exact .tail _ h3
  .rcases dR.mp m with rfl|m
   .exact h1
   .exact h2 y m
theorem H_:∀{is:List Int} {aH:List ao},Vals (is.map V.int) aH->∃ps:List (Int×Tok),aH=ps.map (λp=>Value.int p.1 p.2)/\ps.map (·.1)=is
 |[],aH,h=>by
  rw[pX] at h;cases h;exact⟨[],rfl,rfl⟩
 |i::is,aH,h=>by
  rw[c_] at h;cases h with
  |cons r t=>
   obtain⟨ps,e1,e2⟩:=H_ t;obtain⟨tk,rfl⟩:=r;exact⟨(i,tk)::ps,by rw[e1];rfl,by rw[c_,e2]⟩
def V'(K:FG)(hc:X.calm=true:=by rfl)(hK:X.K=K:=by rfl):cA X (.builtin "min") (λxs H Q=>∃(a:ah) (is:List Int),xs=[.ref a]/\dH K H a (is.map V.int)/\is≠[]/\Q (.int (jo is)) H):=by
 subst hK;intro aa s Z H xs us Q I r h;obtain⟨a,is,rfl,hs,ia,q⟩:=h;obtain⟨u,rfl,ru⟩:=vals1 r;cases ru;obtain⟨aH,rv,p,hz⟩:=I.list hs;obtain⟨ps,e1,e2⟩:=H_ rv;subst e1;have hl:0<ps.length:=by
  cases ps with
  |nil=>exact b_ e2.symm ia
  |cons _ _=>simp
 have el:(ps.map λp=>Value.int p.1 p.2).toArray=intItems ps.toArray:=by unfold intItems;simp
 have pl:=p.isList;rw[el] at pl;refine min_intList (I.ok.hd hc) pl (by simpa using hl) λv h' tk hv hk=>?_
 obtain⟨b1,b2⟩:=argBest_lt (numAt ps.toArray) (ps.toArray.size - 1);generalize argBest (λi j=>decide (numAt ps.toArray i<numAt ps.toArray j)) (ps.toArray.size - 1)=n at *
 have hn:n<ps.length:=by simp at b1;lia
 have sJ:∀j (hj:j<ps.length),numAt ps.toArray j=(ps[j]).1:=λj hj=>by unfold numAt;simp[hj]
 have LJ:v=Value.int (ps[n]).1 (ps[n]).2:=by
  unfold intItems at hv;simp[hn] at hv;exact hv.symm
 have hm:jo is=(ps[n]).1:=by
  obtain⟨m1,m2⟩:=zo ia;have i1:(ps[n]).1∈is:=by rw[<-e2];exact Bq (f:=(·.1)) (xi hn)
  have c1:=m2 _ i1;rw[<-e2] at m1;obtain⟨pp,LG,sM⟩:=gQ.mp m1;obtain⟨j,hj,ej⟩:=EA.mp LG;have c2:=b2 j (by simp;lia)
  rw[sJ n hn,sJ j hj,ej] at c2;rw[e2] at sM;lia
 rw[LJ];exact⟨.int (jo is),H,I.kept (h':=h') (t':=tk) λb o e=>hk b o e,⟨(ps[n]).2,by rw[hm]⟩,q⟩
def jB:List D->ai (List Int)
 |[]=>some []
 |.int i::ds=>(jB ds).map λis=>i::is
 |_=>none
theorem Iu:∀is:List Int,jB (is.map .int)=some is
 |[]=>rfl
 |i::is=>by rw[c_];show(jB (is.map .int)).map _=_;rw[Iu is];rfl
theorem b2i:∀{ds:List D} {is:List Int},jB ds=some is->ds=is.map .int
 |[],is,e=>by cases e;rfl
 |d::ds,is,e=>by
  cases d with
  |int i=>
   obtain⟨js,e1,e2⟩:=j_.mp (show(jB ds).map _=some is from e);rw[<-e2,b2i e1];rfl
  |_=>cases e
theorem HZ{F:Hp}:∀{ws:List V} {is:List Int},aw K F ws (is.map .int)->ws=is.map .int
 |[],[],_=>rfl
 |[],_::_,h=>by have:=h.length;simp at this
 |_::_,[],h=>by have:=h.length;simp at this
 |w::ws,i::is,h=>by
  rw[c_] at h;have h1:=h.inv.1;have h2:=HZ h.inv.2;rw[h2,c_];cases h1 with
  |flat e _=>cases e;rfl
def sX:List O->ai O
 |[o]=>(dz o).bind λds=>(jB ds).bind λis=>if is=[] then none else some (.Y (.int (jo is)))
 |_=>none
def Zu:cS K (λxs H Q=>∃(a:ah) (is:List Int),xs=[.ref a]/\dH K H a (is.map V.int)/\is≠[]/\Q (.int (jo is)) H) sX:=by
 intro F H vs os o Q le eU e res;unfold sX at e;split at e
 .rename_i o'
  obtain⟨ds,e1,e2⟩:=dC.mp e;obtain⟨is,e3,e4⟩:=dC.mp e2;split at e4
  .cases e4
  .rename_i ia
   cases e4;obtain⟨x,B,rfl,h1⟩:=eU.one;obtain⟨a,ws,rfl,sq,ri⟩:=vT le h1 e1;rw[b2i e3] at ri;have:=HZ ri;subst this;exact⟨a,is,rfl,sq,ia,res.flat rfl⟩
 .cases e
def Zv(is:List Int)(h:is≠[]):sX [.Y (.lst (is.map .int))]=some (.Y (.int (jo is))):=by
 show((dz (.Y (.lst (is.map .int)))).bind λds=>(jB ds).bind λis=>if is=[] then none else some (O.Y (.int (jo is))))=_
 rw[Q5,Option.bind_some,Iu,Option.bind_some,aW h]
def zU(fk fv:GE):GE:=λQ0=>(fk Q0).bind λp=>(fv p.2).bind λq=>match p.1,q.1 with
 |.own (.Y dk),.own (.Y dv)=>(cI dk).map λk=>(.own (.aF [(k,.Y dv)]),q.2)
 |_,_=>none
theorem OM(fk fv:GE)(Q0:Gm):zU fk fv Q0=(fk Q0).bind λp=>(fv p.2).bind λq=>match p.1,q.1 with
 |.own (.Y dk),.own (.Y dv)=>(cI dk).map λk=>(.own (.aF [(k,.Y dv)]),q.2)
 |_,_=>none:=rfl
def Zw(K:FG)(tk tv:TE):TE:=λZ H Q=>∀p,H p=none->tk Z (upd H p (.dG [] 0)) λx H1=>tv Z H1 λy H2=>∃k:TK,H2 p=some (.dG [] 0)/\aw K H2 [x] [k.d]/\k.ok 8=true/\Q (.ref p) (upd H2 p (.dG [(k,x,y)] 1))
def ON{tk tv:TE}(hu:X.A.units+41<cLine)(hk:PE X ek tk)(hv:PE X ev tv):PE X (.Dict [some ek] [ev] pos) (Zw X.K tk tv):=by
 intro aa s Z H Q I q;have hn:=I.cg.fresh (c7 s.heap.objs.size);have I1:=I.laid (a:=s.heap.objs.size) (o:=.dG [] 0) (h':=s.heap.push { cls:=.type "dict",data:=.dict #[]}) (t':=s.toks) (λ_ _ q=>iP _ q) (c7 _) (OE s.heap I.big)
 rw[arm_eval_Dict,zip_pairTrees [some ek] [ev] X.env pos rfl rfl,dictDisplay_pairs _ (by simp[pairTrees]) (by show 1<17;decide)]
 refine aK (wpAny_standAt (aK ?_));unfold subDict;refine aK (wpAny_alloc (aK (nk ?_)));rw[aT (by show 1<=15;decide)]
 refine aK (pairTrees_cons_walk (cR (hk aa _ Z _ _ I1 (q _ hn)) λu s1 hh=>?_))
 obtain⟨x,H1,To,rx,q1⟩:=hh;refine cR (hv aa s1 Z H1 _ To q1) λw2 s2 hh=>pairTrees_nil_walk ?_
 obtain⟨y,H2,I2,ry,k,e,rk,ok,q2⟩:=hh;refine nk (aK ?_);rw[List.forIn_cons];refine aK (aK (N5 (by lia) I2 ⟨[],0,k,e,.nil,rk,ok,by rw[sizeLine_eq];decide,rfl⟩ rx ry λs' I'=>bW ?_))
 dsimp only;rw[List.forIn_nil];exact bW (bW (bW (bW ⟨.ref _,_,I',rfl,q2⟩)))
def OO(hu:X.A.units+41<cLine)(hk:PE X ek (tG K fk))(hv:PE X ev (tG K fv))(hK:X.K=K:=by rfl):PE X (.Dict [some ek] [ev] pos) (tG K (zU fk fv)):=(ON hu hk hv).mono λZ H Q t=>by
 subst hK;obtain⟨F,A,Q0,rr,au,k,e,w⟩:=t;unfold zU at e;obtain⟨⟨r1,aE⟩,e1,e'⟩:=dC.mp e;clear e;obtain⟨⟨r2,cq⟩,e2,e⟩:=dC.mp e';clear e';dsimp only at e2 e;split at e
 .rename_i dk dv
  obtain⟨key,ek,e⟩:=j_.mp e;cases e;intro p hn;have nA:p∉A:=λm=>k.os.there p m hn
  have s:aI H (upd H p (.dG [] 0)):=l7 hn;have k0:OK X.K F (upd H p (.dG [] 0)) Z Q0 A:=⟨k.le.trans s,k.os.keep (aI.refl _) λa _ o e=>s a o e,k.nd,k.fr⟩
  refine⟨F,A,Q0,_,aE,k0,e1,λx H1 pp=>?_⟩
  obtain⟨F1,A1,x1,k1,hh1⟩:=pp;have k1:OK X.K F1 H1 ([some x]++Z) ([some (.Y dk)]++aE) A1:=k1;obtain⟨C,kC,fr⟩:=k1.frame rfl;refine⟨F1,C,aE,_,au,kC,e2,λy H2 pp=>?_⟩
  obtain⟨F2,A2,x2,k2,Lp⟩:=pp;obtain⟨A3,x3,k3⟩:=fr _ _ _ _ _ x2 k2;have k3:OK X.K F2 H2 (some x::some y::Z) (some (.Y dk)::some (.Y dv)::au) A3:=k3;have m8:=x1.trans x3;have sM:H2 p=some (.dG [] 0):=m8.keep p _ iQ nA;obtain⟨B1,C1,o1,o2,q1⟩:=aj.one k3.os;obtain⟨B2,C2,o3,o4,q2⟩:=aj.one o2;have rx:aw X.K F2 [x] [key.d]:=by rw[(nF ek).1];exact rO o1
  have rv:=rO o3;refine⟨key,sM,rx.mono k3.le,(nF ek).2,w (.ref p) _ ?_⟩;have np:∀a∈A3,a≠p:=λa m z=>by
   subst z;rcases m8.own a m with z|z
   .exact nA z
   .rw[iQ] at z;cases z
  have kp:∀a∈A3,∀o,H2 a=some o->upd H2 p (.dG [(key,x,y)] 1) a=some o:=λa m o e=>by rw[cK (np a m)];exact e
  subst q2 q1;have lU:∀a∈C2,a∈B1++(B2++C2):=λa m=>iB _ (iB _ m)
  have Bt:F2 p=none:=by
   cases eF:F2 p with
   |none=>rfl
   |some o=>
    rcases m8.new p (by rw[eF];exact λz=>by cases z) with z|z|z
    .exact b_ (k.le.free hn) z
    .exact b_ z nA
    .rw[iQ] at z;cases z
  have DK:=k3.nd;rw[lD] at DK;have SR:=DK.2.1;rw[lD] at SR;refine⟨F2,p::[]++C2,⟨m8.ff,λa o e n=>?_,λa h=>?_,λa h=>?_,λa m=>?_,(lZ.same s).trans (m8.kP.trans (.upd λC dx fs z=>by rw[sM] at z;cases z))⟩,⟨λa o e=>?_,?_,?_,?_⟩,i9⟩
  .have:=m8.keep a o (s a o e) n;rw[cK (mO e hn)];exact this
  .by_cases z:a=p
   .rw[z,iQ];exact λz=>by cases z
   .rw[cK z];exact m8.rZ a (λz'=>h (s.free z'))
  .rcases m8.new a h with z|z|z
   .exact .inl z
   .exact .inr (.inl z)
   .exact .inr (.inr (s.free z))
  .rcases dR.mp m with rfl|m
   .exact .inr hn
   .rcases m8.own a (lU a m) with z|z
    .exact .inl z
    .exact .inr (s.free z)
  .have h1:=k3.le a o e;rw[cK (λz=>by rw[z,Bt] at e;cases e)];exact h1
  .exact .aF (A:=[]) (B:=C2) iQ rfl rx (.Y rv .nil) (o4.keep (aI.refl _) λa m=>kp a (lU a m))
  .exact jr.mpr ⟨λm=>np p (lU p m) rfl,SR.2.1⟩
  .intro a m;rcases dR.mp m with rfl|m
   .exact Bt
   .exact k3.fr a (lU a m)
 .cases e
end
section
variable{X:Cx}{K:FG}{fo f:GE}{fs:GA}{g:List O->ai O}{r:V->List V->Hp->VK->Prop}{o e:Expr}{es:List Expr}{name:Str}{id:String}{apos cU pos:Pos}
def tL(r:V->List V->Hp->VK->Prop):List V->Hp->VK->Prop:=λvs H Q=>∃x xs,vs=x::xs/\r x xs H Q
noncomputable def lu:List D->ai (List Str)
 |[]=>some []
 |.str x::ds=>(lu ds).map λxs=>x::xs
 |_=>none
theorem N7:∀xs:List Str,lu (xs.map .str)=some xs
 |[]=>rfl
 |i::is=>by rw[c_];show(lu (is.map .str)).map _=_;rw[N7 is];rfl
theorem N8:∀{ds:List D} {xs:List Str},lu ds=some xs->ds=xs.map .str
 |[],xs,e=>by cases e;rfl
 |d::ds,xs,e=>by
  cases d with
  |str i=>
   obtain⟨js,e1,e2⟩:=j_.mp (show(lu ds).map _=some xs from e);rw[<-e2,N8 e1];rfl
  |_=>cases e
theorem Nh{F:Hp}:∀{ws:List V} {xs:List Str},aw K F ws (xs.map .str)->ws=xs.map .str
 |[],[],_=>rfl
 |[],_::_,h=>by have:=h.length;simp at this
 |_::_,[],h=>by have:=h.length;simp at this
 |w::ws,i::is,h=>by
  rw[c_] at h;have h1:=h.inv.1;have h2:=Nh h.inv.2;rw[h2,c_];cases h1 with
  |flat e _=>cases e;rfl
theorem Nr:∀{xs:List Str} {aH:List ao},Vals (xs.map V.str) aH->∃ps:List (Str×Tok),aH=ps.map (λp=>Value.str p.1 p.2)/\ps.map (·.1)=xs
 |[],aH,h=>by
  rw[pX] at h;cases h;exact⟨[],rfl,rfl⟩
 |i::is,aH,h=>by
  rw[c_] at h;cases h with
  |cons r t=>
   obtain⟨ps,e1,e2⟩:=Nr t;obtain⟨tk,rfl⟩:=r;exact⟨(i,tk)::ps,by rw[e1];rfl,by rw[c_,e2]⟩
end
section
variable{X:Cx}{aa:List (ah×Obj)}{Z:List (ai V)}{H:Hp}{s:az}{h':cL}
def Inv.vF{T:ah}{o:HO}(I:Inv X aa Z H s)(k:∀b ob,b∉L->s.heap.get? b=some ob->h'.get? b=some ob)(hL:∀b∈L,ka X aa H b)(hT:s.heap.objs.size<=T)
  (new:cC X.prog X.w (upd H T o) h' T o):Inv X aa Z (upd H T o) { s with heap:=h',toks:=t'}:=by
 have hn:H T=none:=I.cg.fresh hT;have nL:∀b u,H b=some u->b∉L:=λb u e z=>by rw[(hL b z).1] at e;cases e
 have nT:∀b u,H b=some u->b≠T:=λb u e z=>by rw[z,hn] at e;cases e
 refine I.step (g':=s.gens) (d':=s.drawn) (ch:=L) (λb hb=>?_) (λb ob _ _ hc e _=>k b ob hc e) (λb ob _ _ hc e _=>⟨ob.slots,k b ob hc e⟩) (λb ob _ e n=>?_)
  (λb ob hc e=>⟨ob,k b ob hc e⟩) (λb xs e=>?_) (λb ob u e=>?_) (λb ps e=>⟨#[],?_⟩) (λm hm=>?_) (λb u e=>?_) I.bare
 .obtain⟨f0,f1,f2,f3,f4,f5⟩:=hL b hb;exact⟨f3,f1,f4,f5⟩
 .rw[cK (λz=>by subst z;exact b_ (iA (eV e) hT) (mI _))];exact n
 .rw[cK (nT b _ e)];exact e
 .rw[cK (nT b _ e)];exact e
 .rw[cK (nT b _ e),e];simp
 .obtain⟨ob,es,ep,ho,r⟩:=hm;exact⟨ob,es,ep,k _ ob (λz=>(hL _ z).2.1 rfl) ho,r⟩
 .by_cases hb:b=T
  .subst hb;rw[iQ] at e;cases e;exact new
  .rw[cK hb] at e;refine(I.cg b u e).lh (λc v hc q=>k c v ?_ q) (λc q=>by rw[cK (nT c _ q)];exact q) λc xs q=>by rw[cK (nT c _ q)];exact q
   rcases hc with z|z
   .rw[z];exact nL b u e
   .exact nL c _ z
def Inv.Es(I:Inv X aa Z H s)(k:∀b ob,b∉L->s.heap.get? b=some ob->h'.get? b=some ob)(hL:∀b∈L,ka X aa H b):Inv X aa Z H { s with heap:=h',toks:=t'}:=by
 have nL:∀b u,H b=some u->b∉L:=λb u e z=>by rw[(hL b z).1] at e;cases e
 refine I.step (g':=s.gens) (d':=s.drawn) (ch:=L) (λb hb=>?_) (λb ob _ _ hc e _=>k b ob hc e) (λb ob _ _ hc e _=>⟨ob.slots,k b ob hc e⟩) (λb ob _ e n=>n)
  (λb ob hc e=>⟨ob,k b ob hc e⟩) (λb xs e=>e) (λb ob u e=>e) (λb ps e=>⟨#[],by rw[e];simp⟩) (λm hm=>?_) (λb u e=>?_) I.bare
 .obtain⟨f0,f1,f2,f3,f4,f5⟩:=hL b hb;exact⟨f3,f1,f4,f5⟩
 .obtain⟨ob,es,ep,ho,r⟩:=hm;exact⟨ob,es,ep,k _ ob (λz=>(hL _ z).2.1 rfl) ho,r⟩
 .refine(I.cg b u e).lh (λc v hc q=>k c v ?_ q) (λc q=>q) λc xs q=>q
  rcases hc with z|z
  .rw[z];exact nL b u e
  .exact nL c _ z
end
def ze(Src:Hp->Prop)(n:Nat)(val:Nat->List V->Prop):It:=
 ⟨λi H=>i<n/\Src H,λi H x H'=>∃p ws,x=.ref p/\H p=none/\val i ws/\H'=upd H p (.tup ws),λi H=>n<=i/\Src H⟩
def U3{pos:Pos}{FP wr:List ah}{val:Nat->List V->Prop}{tn:Nat->cL->Prop}(mem:it∈FP)(sub:∀b∈wr,b∈FP)
  (obj:∀i h,tn i h->∀b∈FP,∃o,h.get? b=some o/\∀v,o.data≠.cell v) (keep:∀i h h',tn i h->(∀b∈FP,∀o,h.get? b=some o->h'.get? b=some o)->tn i h')
  (hW:∀(X:Cx),X.prog=P->X.w=w->X.K=K->X.calm=true->∀(aa:List (ah×Obj)) (s:az) (Z:St) (H:Hp),Inv X aa Z H s->Src H->∃(K8:List ah) (Pt:Nat->Array ao->Prop) (St:Nat->cL->Prop) (HU:Nat->ah->cL->Prop),WalksT P w X.A it K8 wr n Pt St HU/\(∀i,tn i s.heap->St i s.heap)/\(∀i h,St i h->tn i h)/\∀i vals,Pt i vals->∃ws,val i ws/\Vals ws vals.toList/\ws.length<=10)
  (self:∀(A:dD) (i:Nat) (s:az) (Q:ao->az->Prop) (E:ao->az->Prop),tn i s.heap->Q (.ref it) s->wpAny (model P w) A (pyIter (.ref it)) Q E s) :
  Turn P w K (.Tuple elts x1 pos) (ze Src n val) FP it (λi h=>i<=n/\tn i h) where
 mem:=mem
 obj:=λi h st=>obj i h st.2
 keep:=λi h h' st k=>⟨st.1,keep i h h' st.2 k⟩
 item:=by
  intro X hP hw hK hc i aa s Z H E I hf st hg;obtain⟨K8,Pt,St,HU,W,toSt,DP,pv⟩:=hW X hP hw hK hc aa s Z H I hg.2;subst hP hw hK;refine W.item i s _ E hg.1 (toSt i st.2) λT vals h1 tk hPt hsz Lk Dk Sr=>?_
  refine⟨.ref T,rfl,W.go elts x1 pos i T _ _ E Dk λh2 hSt G9=>?_⟩
  obtain⟨ws,hv,rv,He⟩:=pv i vals hPt;have Lj:IsTup h2 T vals:=by
   obtain⟨o,e,c⟩:=Lk;exact⟨o,G9 T o (W.apart i T h1 Dk) e,c⟩
  have hn:H T=none:=I.cg.fresh hsz;have I2:Inv X aa Z (upd H T (.tup ws)) { s with heap:=h2,toks:=tk}:=I.vF (L:=wr) (λb ob hb e=>G9 b ob hb (Sr b ob hb e)) (λb hb=>hf b (sub b hb)) hsz ⟨by rw[sizeLine_eq];lia,vals.toList,rv,by simpa using Lj⟩
  refine⟨.ref T,_,I2,rfl,⟨T,ws,rfl,hn,hv,rfl⟩,⟨by have:=hg.1;lia,DP _ _ hSt⟩,λb hb=>?_⟩
  have hb0:=(hf b hb).1;rw[cK]
  .exact hb0
  .intro z;subst z;obtain⟨o,e,_⟩:=obj i s.heap st.2 b hb;exact b_ (iA (eV e) hsz) (mI _)
 done:=by
  intro X hP hw hK hc i aa s Z H E I hf st hg;obtain⟨K8,Pt,St,HU,W,toSt,DP,pv⟩:=hW X hP hw hK hc aa s Z H I hg.2;subst hP hw hK;have ei:i=n:=by have:=hg.1;have:=st.1;lia
  subst ei;exact W.done s _ E (toSt i st.2) λh2 tk hk=>⟨rfl,I.Es (L:=wr) (λb ob hb e=>hk b ob hb e) λb hb=>hf b (sub b hb)⟩
 self:=λA i s Q E st h=>self A i s Q E st.2 h
def Wa{val:Nat->List V->Prop}{D:Ends}(Pv:Nat->St->Hp->Prop)(h0:Pv 0 Z H)(hl:∀i Z H,i<=n->Pv i Z H->Src H)
  (hs:∀i p ws Z H,i<n->H p=none->val i ws->Pv i Z H->g (.ref p) Z (upd H p (.tup ws)) λZ2 H2=>tb { D with nx:=Pv (i+1),ct:=Pv (i+1),bk:=D.nx} Z2 H2) (hd:∀Z H,Pv n Z H->D.nx Z H) :
  ∃W:Nat->Nat->St->Hp->Prop,(∃m,W 0 m Z H)/\∀i m Z H,W i m Z H->
   ((ze Src n val).stop i H/\D.nx Z H)\/((ze Src n val).go i H/\∃N:St->Hp->Prop,(∀Z' H',N Z' H'->∃m',m'<m/\W (i+1) m' Z' H')/\∀x H',(ze Src n val).vL i H x H'->g x Z H' λZ2 H2=>tb { D with nx:=N,ct:=N,bk:=D.nx} Z2 H2):=by
 refine⟨λi m Z H=>m=n - i/\i<=n/\Pv i Z H,⟨n,by simp,pV _,h0⟩,?_⟩
 rintro i m Z H ⟨rfl,hi,p⟩;have q:=hl i Z H hi p;by_cases f_:i<n
 .refine .inr ⟨⟨f_,q⟩,Pv (i+1),λZ' H' p'=>⟨n - (i+1),by lia,rfl,f_,p'⟩,λx H' y=>?_⟩
  obtain⟨pp,ws,rfl,hn,hv,rfl⟩:=y;exact hs i pp ws Z H f_ hn hv p
 .have e:i=n:=by lia
  subst e;exact .inl ⟨⟨c7 _,q⟩,hd Z H p⟩
def Wb(p:h.IsListIter a l i):∃o,h.get? a=some o/\∀v,o.data≠.cell v:=by
 obtain⟨o,e,_,d⟩:=p;exact⟨o,e,λv z=>by rw[d] at z;cases z⟩
def Et(xs:List V)(i:Nat)(ws:List V):Prop:=∃x,xs[i]?=some x/\ws=[.int i,x]
def U4{pos:Pos}(n1:e≠it)(n2:l≠e)(n3:l≠it)(xs:List V):
  Turn P w K (.Tuple elts x1 pos) (ze (λH=>dH K H l xs) xs.length (Et xs)) [e,it] e (λi h=>i<=xs.length/\((∃old,IsEnum h e it (i:Int) old)/\h.IsListIter it l i)):=by
 refine U3 (FP:=[e,it]) (wr:=[e,it]) (by simp) (λb hb=>hb) (λi h st b hb=>?_) (λi h h' st k=>?_) (λX hP hw hK hc aa s Z H I hS=>?_) (λA i s Q E st h=>?_)
 .obtain⟨⟨old,s1⟩,s2⟩:=st;simp only[dR,EC,or_false] at hb;rcases hb with rfl|rfl
  .exact⟨_,s1,λv z=>by cases z⟩
  .exact Wb s2
 .obtain⟨⟨old,s1⟩,s2⟩:=st;exact⟨⟨old,k e (by simp) _ s1⟩,s2.at λo q=>k it (by simp) o q⟩
 .subst hP hw hK;obtain⟨vg,Ml,p1,_⟩:=I.list hS;have e1:=Ml.length;have W:=WalksT.enumerate (prog:=X.prog) (w:=X.w) (A:=X.A) (I.ok.hd hc) e it l n1 n2 n3 vg.toArray;rw[show vg.toArray.size=xs.length by rw[fP,<-e1]] at W
  refine⟨_,_,_,_,W,λi st=>?_,λi h st=>?_,λi vals hp=>?_⟩
  .exact⟨st.1,st.2,p1.isList⟩
  .exact⟨st.1,st.2.1⟩
  .obtain⟨t,u,hu,rfl⟩:=hp;have hu:vg[i]?=some u:=by simpa using hu
   have AW:i<xs.length:=by have:=(jX.mp hu).1;lia
   obtain⟨u',sO,ru⟩:=Ml.get (km AW);rw[hu] at sO;cases sO;exact⟨[.int i,xs[i]],⟨_,km AW,rfl⟩,.cons ⟨t,rfl⟩ (.cons ru .nil),by show 2<=10;decide⟩
 .obtain⟨old,s1⟩:=st.1;exact wpAny_pyIter_enum s1 h
def Dy(K:FG)(ta:TA):TI:=λZ H R=>ta Z H λvs H1=>∃a xs,vs=[.ref a]/\dH K H1 a xs/\R (ze (λH=>dH K H a xs) xs.length (Et xs)) H1
def XS{m7:Pos}{a:Expr}{pos:Pos}(hg:Gl X "enumerate")(hm:X.mg "enumerate"=none)(ha:PA X [a] ta)(hs:starEach [a] X.env=[(false,eval a X.env)]:=by rfl):
  PI X (.Tuple elts x1 m7) (.Call (.Name "enumerate" p) [a] [] pos) (Dy X.K ta):=by
 intro aa s Z H R I h;refine Call_ (xT I hg hm PyProof.Rows.Boot.enumerate (PyProof.Rows.callWith_type1 (cR (ha pos aa s Z H _ I h) λus s1 hh=>?_) hs rfl))
 obtain⟨vs,H1,I1,r1,q1⟩:=hh;obtain⟨l1,xs,e,hq1,q⟩:=q1;subst e;cases r1 with
 |cons r rr=>
  cases rr;cases r;obtain⟨vg,Ml,p1,_⟩:=I1.list hq1;refine call_enumerate_list p1.isList λh' z1 z2 z3 z4=>?_
  have L1:l1<s1.heap.objs.size:=by obtain⟨o,n,e,_⟩:=p1;exact eV e
  refine wpAny_pyIter_enum z1 ?_;refine⟨s1.heap.objs.size+1,[s1.heap.objs.size+1,s1.heap.objs.size],_,_,H1,rfl,I1.kept (t':=s1.toks) z4,U4 (e:=s1.heap.objs.size+1) (it:=s1.heap.objs.size) (l:=l1) (Ew (by lia)) (lY (iA L1 (Nat.le_add_right _ _))) (lY L1) xs,⟨pV _,⟨_,z1⟩,z2⟩,λb hb=>?_,q⟩
  simp only[dR,EC,or_false] at hb;have Sk:s1.heap.objs.size<=b:=by rcases hb with rfl|rfl <;> lia
  exact I1.qV Sk (I1.cg.fresh Sk)
section
variable{X:Cx}{K:FG}{fa fb:GE}{f:GS}{m:List Bool}{W:ai XW}{l l':Expr}{elts:List Expr}{x1:Nat}{m7:Pos}{t:TG}{gg:GG}{body:List Stmt}{p0 p1 pos:Pos}
def XT{Q0:Gm}{p:ah}{ws:List V}(k:OK K F H Z Q0 A)(hn:H p=none):OK K (upd F p (.tup ws)) (upd H p (.tup ws)) Z Q0 A/\Ext F H A (upd F p (.tup ws)) (upd H p (.tup ws)) A:=by
 have hF:F p=none:=k.le.free hn;have np:∀a∈A,a≠p:=λa m z=>k.os.there a m (by rw[z];exact hn)
 refine⟨⟨λa o e=>?_,k.os.keep (l7 hF) λa m o e=>by rw[cK (np a m)];exact e,k.nd,λa m=>by rw[cK (np a m)];exact k.fr a m⟩,⟨l7 hF,λa o e _=>l7 hn a o e,λa h z=>h ((l7 hn).free z),λa h=>?_,λa m=>.inl m,.same (l7 hn)⟩⟩
 .by_cases z:a=p
  .subst z;rw[iQ] at e ⊢;exact e
  .rw[cK z] at e ⊢;exact k.le a o e
 .by_cases z:a=p
  .subst z;exact .inr (.inr hn)
  .rw[cK z] at h;exact .inl h
theorem LI.tup{m:List Bool}{W:ai XW}{gg:GG}{f:GS}{t:TG}{F1 H1:Hp}{Z:St}{ds es:List D}{i:Nat}{E:Ends}{fl:Fl}{au:Gm}{p:ah}{us:List V}(q:LI K m W gg f E F1 fl au ds i Z H1)(ht:fQ K m t gg)(hn:H1 p=none)(hd:ds[i]?=some (.tup es))(r:aw K F1 us es):
  t (.ref p) Z (upd H1 p (.tup us)) λZ2 H2=>tS K m W f { E with nx:=LI K m W gg f E F1 fl au ds (i+1),ct:=LI K m W gg f E F1 fl au ds (i+1),bk:=E.nx} Z2 H2:=by
 obtain⟨F',A',m_,k',e',w',s'⟩:=q;obtain⟨k2,x2⟩:=XT (ws:=us) k' hn;have s2:aI F1 (upd F' p (.tup us)):=s'.trans x2.ff;obtain⟨hi,he⟩:=jX.mp hd;rw[HI hi,he] at e';exact NW ht k2 (.tup (.inl (.inl iQ)) (r.mono s2) .nil) e' (w'.step x2 Kept.refl) λF2 H2 Z2 oJ A2 x3 k3 e3 w3=>⟨F2,A2,oJ,k3,e3,w3,s2.trans x3.ff⟩
noncomputable def j7(ds:List D):List D:=(List.range ds.length).zipWith (λ(i:Nat) d=>D.tup [.int i,d]) ds
def Gv(fa:GE)(gg:GG)(f:GS):GS:=λQ0=>(ax fa Q0).bind λp=>match p.1 with
 |.own (.Y (.lst ds))=>fM gg f (j7 ds) p.2
 |_=>none
theorem XU(fa:GE)(gg:GG)(f:GS)(Q0:Gm):Gv fa gg f Q0=(ax fa Q0).bind λp=>match p.1 with
 |.own (.Y (.lst ds))=>fM gg f (j7 ds) p.2
 |_=>none:=rfl
def XX(hp:PassesOwn (model X.prog X.w) X.A X.env X.xe)(hm:X.mg "enumerate"=none)(hi:PE X l (tG K fa))(hg:PG X (.Tuple elts x1 m7) t)(ht:fQ K m t gg)(hb:gR X body (tS K m W f))(hc:X.calm=true:=by rfl)(yt:Gl X "enumerate":=by rfl)(kg:starEach [l] X.env=(false,eval l X.env)::starEach [] X.env:=by rfl)(pG:starEach [l] X.env=[(false,eval l X.env)]:=by rfl)(hK:X.K=K:=by rfl)(hs:∀x,foldedSetIterable (.Call (.Name "enumerate" p0) [l] [] p1) X.env x=pure x:=by intro _;rfl):PS X (.For (.Tuple elts x1 m7) (.Call (.Name "enumerate" p0) [l] [] p1) body [] pos) (tS K m W (Gv fa gg f)):=by
 subst hK;refine(xU hp hc (XS yt hm (ay (bQ hi) aV kg) pG) hg hb hs).mono λDe Z H tt=>?_
 obtain⟨F,A,Q0,fl,au,k,e,w⟩:=tt;unfold Gv at e;obtain⟨⟨r1,aE⟩,q1,e'⟩:=dC.mp e;clear e;dsimp only at e';split at e'
 .rename_i ds
  refine⟨F,A,Q0,[.own (.Y (.lst ds))],aE,k,by rw[bj,q1];rfl,λvs H1 pp=>?_⟩
  obtain⟨F1,A1,x,k1,hh⟩:=pp;have hlv:=hh.length;obtain⟨v1,rfl⟩:=GQ hlv;obtain⟨rp1,st⟩:=LI.start k1 x w e';obtain⟨a,Bi,rfl,S_,S5⟩:=Jx rp1;have hl1:=S5.length;refine⟨a,Bi,rfl,.inl (k1.le.rd S_),Wa (LI X.K m W gg f De F1 fl au (j7 ds)) st (λi Z' H' _ p=>.inl (p.same.rd S_)) ?_ λZ' H' p=>p.fin (by unfold j7;rw[List.length_zipWith,pY,hl1,Nat.min_self];exact c7 _)⟩
  rintro i p ws Z' H' f_ hn ⟨u1,hu1,rfl⟩ q;have AW:i<ds.length:=by lia
  obtain⟨y1,uA,ry1⟩:=S5.get (i:=i) (d:=ds[i]) (km AW);rw[hu1] at uA;cases uA;exact q.tup ht hn (by unfold j7;rw[List.getElem?_zipWith,MS AW,km AW]) (.flat rfl (.cons ry1 .nil))
 .cases e'
end
section
variable{X:Cx}{K:FG}{fa fo:GE}{fs:GA}{f:GS}{m:List Bool}{W:ai XW}{e o:Expr}{es:List Expr}{tg:Expr}{t:TG}{gg:GG}{pos apos cU:Pos}{name:Str}{Hf:String}{g:List O->ai O}{r:V->List V->Hp->VK->Prop}
def n8(gg:GG)(fa:GE):GS:=λQ0=>(ax fa Q0).bind λp=>match p.1 with
 |.own (.Y d)=>(gg d p.2).map λau=>(.nx,au)
 |_=>none
theorem Q7(gg:GG)(fa:GE)(Q0:Gm):n8 gg fa Q0=(ax fa Q0).bind λp=>match p.1 with
 |.own (.Y d)=>(gg d p.2).map λau=>(.nx,au)
 |_=>none:=rfl
def Q8(he:PE X e (tG K fa))(hg:PG X tg t)(ht:fQ K m t gg)(hs:swapsWithSole [tg] e pos.line X.env=pure false:=by rfl)(hw:swappedStores [tg] e X.env=pure none:=by rfl)
  (h1:(assignEach [tg] X.env).map (·.2)=[assign tg X.env]:=by rfl):PS X (.Assign [tg] e pos) (tS K m W (n8 gg fa)):=(J0 (bQ he) hg hs hw h1).mono λDe Z H tt=>by
 obtain⟨F,A,Q0,fl,au,k,e,w⟩:=tt;unfold n8 at e;obtain⟨⟨r1,aE⟩,q1,e'⟩:=dC.mp e;clear e;dsimp only at e';split at e'
 .rename_i d
  obtain⟨cq,q2,e2⟩:=j_.mp e';cases e2;refine⟨F,A,Q0,_,aE,k,q1,λv H1 pp=>?_⟩
  obtain⟨F1,A1,x,k1,hh⟩:=pp;obtain⟨B,C,h1,h2,h3⟩:=aj.one (Z:=Z) (Q0:=aE) k1.os;have rp:=rO h1;subst h3;obtain⟨k2,x2⟩:=k1.sub h2 (.bK (oG _ _));exact ht F1 H1 Z aE au C v d De.nx k2 rp q2 λZ' A' k3 x3 kp=>w Z' H1 ⟨F1,A',(x.trans x2).trans x3,k3,kp⟩
 .cases e'
noncomputable def x_:List D->ai (List Bool)
 |[]=>some []
 |.bl b::ds=>(x_ ds).map λbs=>b::bs
 |_=>none
theorem Nv:∀bs:List Bool,x_ (bs.map .bl)=some bs
 |[]=>rfl
 |i::is=>by rw[c_];show(x_ (is.map .bl)).map _=_;rw[Nv is];rfl
theorem Nx:∀{ds:List D} {bs:List Bool},x_ ds=some bs->ds=bs.map .bl
 |[],bs,e=>by cases e;rfl
 |d::ds,bs,e=>by
  cases d with
  |bl i=>
   obtain⟨js,e1,e2⟩:=j_.mp (show(x_ ds).map _=some bs from e);rw[<-e2,Nx e1];rfl
  |_=>cases e
theorem Ny{F:Hp}:∀{ws:List V} {bs:List Bool},aw K F ws (bs.map .bl)->ws=bs.map .bl
 |[],[],_=>rfl
 |[],_::_,h=>by have:=h.length;simp at this
 |_::_,[],h=>by have:=h.length;simp at this
 |w::ws,i::is,h=>by
  rw[c_] at h;have h1:=h.inv.1;have h2:=Ny h.inv.2;rw[h2,c_];cases h1 with
  |flat e _=>cases e;rfl
def Cg(q:List Bool->Bool):List O->ai O
 |[o]=>(dz o).bind λds=>(x_ ds).bind λbs=>some (.Y (.bl (q bs)))
 |_=>none
def OP(q:List Bool->Bool):cS K (λxs H Q=>∃(a:ah) (bs:List Bool),xs=[.ref a]/\dH K H a (bs.map V.bl)/\Q (.bl (q bs)) H) (Cg q):=by
 intro F H vs os o Q le eU e res;unfold Cg at e;split at e
 .obtain⟨ds,e1,e2⟩:=dC.mp e;obtain⟨bs,e3,e4⟩:=dC.mp e2;cases e4;obtain⟨x,B,rfl,h1⟩:=eU.one;obtain⟨a,ws,rfl,sq,ri⟩:=vT le h1 e1;rw[Nx e3] at ri;have:=Ny ri;subst this;exact⟨a,bs,rfl,sq,res.flat rfl⟩
 .cases e
def U5(K:FG)(hc:X.calm=true:=by rfl)(hK:X.K=K:=by rfl):cA X (.builtin "any") (λxs H Q=>∃(a:ah) (bs:List Bool),xs=[.ref a]/\dH K H a (bs.map V.bl)/\Q (.bl (bs.any id)) H):=hK ▸ UL hc
def U6(K:FG)(hc:X.calm=true:=by rfl)(hK:X.K=K:=by rfl):cA X (.builtin "all") (λxs H Q=>∃(a:ah) (bs:List Bool),xs=[.ref a]/\dH K H a (bs.map V.bl)/\Q (.bl (bs.all id)) H):=hK ▸ UK hc
def Iv(q:List Bool->Bool)(bs:List Bool):Cg q [.lst ((bs.map D.bl).map .Y)]=some (.Y (.bl (q bs))):=by
 show((dz (.lst ((bs.map D.bl).map .Y))).bind λds=>(x_ ds).bind λbs=>some (O.Y (.bl (q bs))))=_
 rw[Q6,Option.bind_some,Nv,Option.bind_some]
def Ci(g:List O->ai O)(fo:GE)(fs:GA):GE:=λQ0=>(fo Q0).bind λp=>match p.1 with
 |.own (.Y (.lst ds))=>(fs p.2).bind λq=>(gK q.2 q.1).bind λos=>(g (.Y (.lst ds)::os)).bind λo=>some (.own o,q.2)
 |_=>none
theorem Wc(g:List O->ai O)(fo:GE)(fs:GA)(Q0:Gm):Ci g fo fs Q0=(fo Q0).bind λp=>match p.1 with
 |.own (.Y (.lst ds))=>(fs p.2).bind λq=>(gK q.2 q.1).bind λos=>(g (.Y (.lst ds)::os)).bind λo=>some (.own o,q.2)
 |_=>none:=rfl
def Wd(ok:cS K (tL r) g)(t:tG K (Ci g fo fs) Z H Q):Mu K "list" r (tG K fo) (jW K fs) Z H Q:=by
 obtain⟨F,A,Q0,rr,au,k,e,w⟩:=t;unfold Ci at e;obtain⟨⟨r1,aE⟩,e1,e'⟩:=dC.mp e;clear e;dsimp only at e';split at e'
 .rename_i ds
  obtain⟨⟨rs,cq⟩,e2,e3⟩:=dC.mp e';obtain⟨os,e4,e5⟩:=dC.mp e3;obtain⟨ob,e6,e7⟩:=dC.mp e5;cases e7;refine⟨F,A,Q0,_,aE,k,e1,λv H1 pp=>?_⟩
  obtain⟨F1,A1,x1,k1,hh⟩:=pp;obtain⟨B,C,h1,h2,h3⟩:=aj.one (Z:=Z) (Q0:=aE) k1.os;have rp:=rO h1;subst h3;obtain⟨k2,x2⟩:=k1.sub h2 (.bK (oG _ _));have yA:ME K "list" v H1:=by
   cases rp with
   |flat z _=>cases z
   |lst sq ri _=>exact .inl ⟨rfl,_,.inl (k1.le.rd sq)⟩
  refine⟨yA,F1,C,aE,rs,_,k2,e2,λvs H2 p2=>?_⟩
  obtain⟨F2,A2,x3,k3,Lq⟩:=p2;have p3:gX K F1 H1 C Z cq rs vs H2:=⟨F2,A2,x3,k3,Lq⟩;have hl:(vs.map some).length=(rs.map R.o).length:=by rw[bY,bY,Lq.length]
  obtain⟨B3,C3,o1,o2,o3⟩:=aj.split hl k3.os;have eU:=BU o2 o1 Lq e4;have res:Res K F2 H2 ob Q:=λv' H' Av s' w' nd fresh=>by
   obtain⟨B',kB,sub⟩:=k3.part hl;obtain⟨k4,x4⟩:=kB.push s' w' nd fresh;exact w v' H' ⟨F2,Av++B',(x1.trans x2).trans (x3.trans ((Ext.jT Ext.refl sub).trans x4)),k4,i9⟩
  obtain⟨y,ys,exs,rr'⟩:=ok F2 H2 (v::vs) (.Y (.lst ds)::os) ob Q k3.le (.cons ⟨[],.Y (rp.mono x3.ff) .nil⟩ eU) e6 res;cases exs;exact rr'
 .cases e'
def We(slot:Slot "list" name Hf)(yA:typeOf (.builtin Hf)=pure (.type "method_descriptor"))(hm:By X Hf r)(ok:cS K (tL r) g)(ho:PE X o (tG K fo))(ha:PA X (e::es) (jW K fs))
  (n_:attributeBase o name X.env (eval o X.env)=eval o X.env:=by rfl)
  (sA:((backTo cU (starEach (e::es) X.env)).all (λx => !x.1)&&(backToKw cU (keywordEach [] X.env)).all (λx=>x.1.isSome) && decide ((e::es).length+([]:List Keyword).length+(if([]:List Keyword).isEmpty then 0 else 1)<30))=true:=by rfl)
  (oa:(apos.endLine == cU.line)=true:=by rfl) (hs:starEach (e::es) X.env=(false,eval e X.env)::starEach es X.env:=by rfl) (kU:(backTo cU (starEach es X.env)).any (·.1)=false:=by rfl) (hK:X.K=K:=by rfl) :
  PE X (.Call (.Attribute o name apos) (e::es) [] cU) (tG K (Ci g fo fs)):=by
 subst hK;exact(RL PySem.F.plainAttrs_list slot yA hm ho ha n_ sA oa hs kU).mono λ_ _ _ t=>Wd ok t
def J_(z:Str):ao->Bool
 |.str y _=>y == z
 |_=>false
def Q9(K:FG):V->List V->Hp->VK->Prop:=λx xs H Q=>∃(a:ah) (ys:List Str) (z:Str) (j:Nat),x=.ref a/\xs=[.str z]/\dH K H a (ys.map V.str)/\ys[j]?=some z/\(∀i y,i<j->ys[i]?=some y->y≠z)/\Q (.int (j:Nat)) H
theorem Wf(K:FG)(hK:X.K=K:=by rfl):By X "list.index" (Q9 K):=by
 subst hK;intro aa s Z H x xs v us Q I rx rs h;obtain⟨a,ys,z,j,rfl,rfl,hq,hj,ia,q⟩:=h;cases rx;obtain⟨u,rfl,ru⟩:=vals1 rs;obtain⟨t,rfl⟩:=ru;obtain⟨aH,rv,p,hz⟩:=I.list hq;obtain⟨ps,e1,e2⟩:=Nr rv;subst e1;obtain⟨ob,n,eo,hcl,hdi,hda⟩:=p;have hlen:ps.length=ys.length:=by rw[<-e2,bY]
 have Lv:j<ys.length:=(jX.mp hj).1;have hit:∀i (hi:i<ps.length),(ps.map λp=>Value.str p.1 p.2)[i]?=some (Value.str ps[i].1 ps[i].2):=λi hi=>by simp[hi]
 have Sy:∀i (hi:i<ps.length),ys[i]?=some ps[i].1:=λi hi=>by rw[<-e2];simp[hi]
 have hsz:(ps.map λp=>Value.str p.1 p.2).toArray.size=ps.length:=by simp
 have hjz:ps[j].1=z:=by
  have:=Sy j (by lia)
  rw[hj] at this;exact(Option.some.inj this).symm
 obtain⟨cl,di,da,sl⟩:=ob;cases hcl;cases hda;have hz':ys.length<=16777216:=by rw[bY,sizeLine_eq] at hz;exact hz
 refine call_meets F.slot_list_index ⟨_,eo,rfl⟩ F.entry_list_index (F.args_list_index_2 _ _) (SeqAt.list_indexAt a _ n di sl (.str z t) (J_ z) j (by rw[hsz];lia) (by lia) ?_ ?_) ⟨eo,?_,?_⟩
 .simp[J_,hjz]
 .intro i hi Ls;rw[hsz] at hi;have:=ia i _ Ls (Sy i hi);simp[J_];exact this
 .intro y hy;simp at hy;obtain⟨b,t',_,rfl⟩:=hy;exact SeqAt.EqAt.str_str b t' z t
 .exact⟨.int (j:Nat),H,I.tok _,⟨_,rfl⟩,q⟩
def findS(ys:List Str)(z:Str):ai Nat:=ys.findIdx? (· == z)
def Cj:List O->ai O
 |[.Y (.lst ds),.Y (.str z)]=>(lu ds).bind λys=>(findS ys z).map λj=>.Y (.int (j:Nat))
 |_=>none
def Nz{ys:List Str}{z:Str}{j:Nat}(e:findS ys z=some j):ys[j]?=some z/\∀i y,i<j->ys[i]?=some y->y≠z:=by
 unfold findS at e;rw[List.findIdx?_eq_some_iff_getElem] at e;obtain⟨h,h1,h2⟩:=e;refine⟨by rw[km h];congr 1;exact eq_of_beq h1,λi y hi ey=>?_⟩
 have:=h2 i hi;obtain⟨hl,e3⟩:=jX.mp ey;rw[e3] at this;intro z';subst z';simp at this
def Wg:cS K (tL (Q9 K)) Cj:=by
 intro F H vs os o Q le eU e res;unfold Cj at e;split at e
 .rename_i ds z
  obtain⟨ys,e1,e2⟩:=dC.mp e;obtain⟨j,e3,e4⟩:=j_.mp e2;cases e4;obtain⟨x,y,B,C,rfl,h1,h2⟩:=eU.two;obtain⟨a,ws,rfl,sq,ri⟩:=vT le h1 (Q5 _);rw[N8 e1] at ri;have:=Nh ri;subst this;cases jw h2 rfl;obtain⟨s1,s2⟩:=Nz e3;exact⟨_,_,rfl,a,ys,z,j,rfl,rfl,sq,s1,s2,res.flat rfl⟩
 .cases e
def Wh(ys:List Str)(z:Str):Cj [.Y (.lst (ys.map .str)),.Y (.str z)]=(findS ys z).map λj=>.Y (.int (j:Nat)):=by
 show((lu (ys.map .str)).bind λys=>(findS ys z).map λj=>O.Y (.int (j:Nat)))=_
 rw[N7,Option.bind_some]
end
structure EK (P:eW) (w:df) (outer:List Env) (H:Hp) (s:az) (H':Hp) (s':az) (e C:ah) (dx:ai ah):Prop where
 os:s'.os=s.os
 bare:AllBare s'.gens
 un:Un (kT outer) [] H H' s.heap s'.heap
 cg:jZ P w H' s'.heap
 G3:je s.heap.objs.size s'.heap H' e C dx
def t4(P:eW)(w:df):p9:=λouter H s E e s'=>∃a C dx H',e=.ref a/\EK P w outer H s H' s' a C dx/\E (.ref C) dx H'
def kN(X:Cx)(W:XW):Prop:=∀(aa:List (ah×Obj)) (Z:St) (H:Hp) (s:az) (H':Hp) (s':az) (e C:ah) (dx:ai ah),Inv X aa Z H s->EK X.prog X.w X.stack H s H' s' e C dx->W C dx Z H'->X.xe (.ref e) s'
def je.mono{n':Nat}(f:je n h H e C dx)(l:n'<=n):je n' h H e C dx:=by
 obtain⟨a,b,oe,vs,c1,c2,c3,c4,c5,c6⟩:=f;refine⟨kH l a,b,oe,vs,c1,c2,c3,c4,c5,?_⟩;rcases c6 with c6|⟨T,oT,ts,d1,d2,d3⟩
 .exact .inl c6
 .exact .inr ⟨T,oT,ts,d1,kH l d2,d3⟩
def je.lt(f:je n h H e C dx):n<=h.objs.size:=by
 obtain⟨a,b,oe,vs,c1,_⟩:=f;exact MM (MP a (eV c1))
def EK.inv{aa:List (ah×Obj)}{H':Hp}{s s':az}(c:EK X.prog X.w X.stack H s H' s' e C dx)(I:Inv X aa Z H s):Inv X aa Z H' s':=
 I.wd (ch:=[]) c.os c.un c.cg c.bare λ_ z=>nomatch z
def iD.cg{fs:List ah}(l:iD fs ch h h')(k:jZ P w H h)(hf:∀b∈fs,H b=none)(hc:∀b∈ch,H b=none):jZ P w H h':=λb o q=>
 (k b o q).lh (λc u z g=>l.keep c u (λm=>by
  have:=hf c m;rcases z with z|z
  .rw[z,q] at this;cases this
  .rw[z] at this;cases this) (λm=>by
  have:=hc c m;rcases z with z|z
  .rw[z,q] at this;cases this
  .rw[z] at this;cases this) g) (λ_ z=>z) λ_ _ z=>z
def iD.any{fs:List ah}(l:iD fs ch h h'){b:ah}{o:Obj}(g:h.get? b=some o)(hc:b∉ch):∃sl,h'.get? b=some { o with slots:=sl}:=by
 by_cases m:b∈fs
 .exact l.slot b o m hc g
 .exact⟨o.slots,l.keep b o m hc g⟩
def WF(E:XK):XW:=λC dx _ H'=>E (.ref C) dx H'
section
variable{P:eW}{w:df}{K:FG}{mg:Str->ai ao}{base:cL}{N:List Str}{qual:Str}{scope:Scope}{f:ah}{cd:ao}{A:dD}{outer:List Env}{s₀:az}{H₀:Hp}{E:XK}
def PK:kN (kc (t4 P w) P w K mg base N qual scope f cd A outer s₀ H₀ E) (WF E):=by
 intro aa Z H s H' s' e C dx I c q;have I':=c.inv I;have sE:(A.deeper (envOfC qual scope s₀.heap.objs.size f cd)).frames=some (envOfC qual scope s₀.heap.objs.size f cd::outer):=I.ok.frames;have sz:s₀.heap.objs.size<=s.heap.objs.size:=I.sz;refine Xs (base:=base) (L:=s₀.heap.objs.size) sE I'.stack rfl c.G3.lt (λa z=>I'.cg.fresh z) c.G3 λh' ch lO lx fl=>⟨e,C,dx,H',rfl,⟨I'.os,I'.bare,?_,lx.cg I'.cg I'.kF λb m=>(lO b m).2,fl.mono sz⟩,q⟩
 have vi:∀b o,s₀.heap.get? b=some o->b∉ch:=λb o g m=>b_ (iA (eV g) (kH sz (lO b m).1)) (mI _)
 have nL:∀b o,s₀.heap.get? b=some o->b∉kT outer->b∉kT (envOfC qual scope s₀.heap.objs.size f cd::outer):=λb o g z m=>by
  rcases dR.mp (show b∈s₀.heap.objs.size::kT outer from m) with m|m
  .exact b_ (m ▸ eV g) (mI _)
  .exact z m
 have B:Un (kT outer) [] H₀ H' s₀.heap s'.heap:=I'.base;refine⟨λb o g n hb hx=>lx.keep b o (nL b o g hb) (vi b o g) (B.keep b o g n hb hx),λb o g n hb hx=>?_,B.free,λb o g hx=>?_,B.lA,B.ke,B.ly⟩
 .obtain⟨sl,g1⟩:=B.slot b o g n hb hx;obtain⟨Ed,g2⟩:=lx.any g1 (vi b o g);exact⟨Ed,g2⟩
 .obtain⟨o',g1⟩:=B.there b o g hx;obtain⟨sl,g2⟩:=lx.any g1 (vi b o g);exact⟨_,g2⟩
def RO:PassesOwn (model P w) (A.deeper (envOfC qual scope s₀.heap.objs.size f cd)) (envOfC qual scope s₀.heap.objs.size f cd) (kc (t4 P w) P w K mg base N qual scope f cd A outer s₀ H₀ E).xe:=PassesOwn.leaving
end
def BC(K:FG)(F H:Hp)(A:List ah)(vs:List V)(fin:Gm)(l:ai Int)(dx:ai ah)(H':Hp):Prop:=∃F' A',Ext F H A F' H' A'/\OK K F' H' (vs.map some) fin A'/\qD F' dx l
def xq(K:FG)(n:Nat)(M:GM):Sp:=λvs H Q E=>vs.length=n/\∃F A os o fin,OK K F H (vs.map some) (os.map some) A/\M os=some (o,fin)/\match kh o with
 |none=>∀v H',vM K F H A vs fin o v H'->Q v H'
 |some p=>∀dx H',BC K F H A vs fin p.2 dx H'->E (.ref p.1) dx H'
section
variable{P:eW}{w:df}{K:FG}{mg:Str->ai ao}{base:cL}
def OK.vt{m:List Bool}{Z':St}{au:Gm}{rest:St}(k:OK K F H Z' au A)(hl:vs.length<=Z'.length)(kp:Kept m (vs.map some++rest) Z')(hm:m.length<=vs.length):
  ∃B,OK K F H (vs.map some) (gE m (au.take vs.length)) B/\Ext F H A F H B:=by
 obtain⟨k2,x2⟩:=k.push (v:=.bh) (o:=.Y .bh) (Av:=[]) (aI.refl _) (.Y (.flat rfl .nil) .nil) .nil (λ_ m=>by cases m)
 obtain⟨B,k3,x3⟩:=OK.params k2 hl kp hm;obtain⟨C,k4,sub⟩:=OK.part (τ:=[some V.bh]) (Θ:=[some (O.Y .bh)]) k3 rfl;exact⟨C,k4,(x2.trans x3).jT sub⟩
def Uc{st:Stmt}(m:List Bool)(f:GS)(Fn:gL K x qual st fa fd)(S:aL N ps (dM st))(hm:m.length<=ps.length)
  (iI:∀(cQ:ao) (A:dD) (outer:List Env) (s:az) (H:Hp) (E:XK),dj k (A.deeper (envOfC qual (dM st) s.heap.objs.size fa cQ))-> gR (kc (t4 P w) P w K mg base N qual (dM st) fa cQ A outer s H E) (uS st) (tS K m (some (WF E)) f)):bN P w K mg base (t4 P w) (k+1) fa fd ps (xq K ps.length (runM N.length m f)):=by
 obtain⟨oc,od,kV,doc,pm,an,cQ,ct,s_,rfl,lk,pD⟩:=Fn.ex;refine RK lk pD S (λvs H Q E h=>h.1) λA outer s H vs Q E hr h=>⟨_,iI cQ A outer s H E hr,?_⟩
 obtain⟨hl,F,A0,os,o,fin,k0,e,q⟩:=h;have yv:vs.length=os.length:=by have:=k0.os.length;simpa using this
 have hN:ps.length<=N.length:=by have:=congrArg List.length S.pre;rw[rg] at this;lia
 obtain⟨⟨fl,au⟩,q1,e⟩:=dC.mp e;obtain⟨o',q2,e⟩:=dC.mp e;dsimp only at e q2;split at e
 .rename_i hlen
  cases e;have k1:OK K F H (start N vs) (os.map some++List.replicate (N.length - os.length) none) A0:=by
   unfold start;rw[yv];have z:=k0.os.app (EZ (K:=K) (F:=F) (H:=H) (N.length - os.length));rw[j9] at z;exact⟨k0.le,z,k0.nd,k0.fr⟩
  refine⟨F,A0,_,fl,au,k1,q1,?_⟩;have dc:kh o=none->∀{F' H':Hp} {A':List ah} {v:V} {Z':St},Ext F H A0 F' H' A'->OK K F' H' (some v::Z') (some o::au) A'->Kept m (start N vs) Z'->Q v H':=by
   intro hx F' H' A' v Z' x k' kp;rw[hx] at q;unfold start at kp;have hs:Z'.length=au.length:=by have:=k'.os.length;simpa using this
   obtain⟨B,k2,x2⟩:=OK.params (m:=m) (vs:=vs) k' (by lia) kp (by lia)
   rw[yv] at k2;exact q v H' ⟨F',B,x.trans x2,k2⟩
  cases fl with
  |nx=>
   cases q2;intro Z' H' ⟨F',A',x,k',kp⟩;obtain⟨k2,x2⟩:=k'.push (v:=.bh) (o:=.Y .bh) (Av:=[]) (aI.refl _) (.Y (.flat rfl .nil) .nil) .nil (λ_ m=>by cases m)
   exact dc rfl (x.trans x2) k2 kp
  |rt o1=>
   cases q2;show eE K m _ F H A0 _ o au (some (WF E));unfold eE;cases hx:kh o with
   |none=>
    intro v Z' H' ⟨F',A',x,k',kp⟩;exact dc hx x k' kp
   |some p=>
    rw[hx] at q;intro dx Z' H' ⟨F',A',x,k',kp,el⟩;unfold start at kp;have hs:Z'.length=au.length:=k'.os.length;obtain⟨B,k2,x2⟩:=OK.vt (m:=m) (vs:=vs) k' (by lia) kp (by lia)
    rw[yv] at k2;exact q dx H' ⟨F',B,x.trans x2,k2,el⟩
  |bk=>cases q2
  |ct=>cases q2
 .cases e
def PM{st:Stmt}(m:List Bool)(f:GS)(Fn:gL K x qual st fa fd)(S:aL N ps (dM st)){pn:Nat}(hn:N.length=n)(hp:ps.length=pn)(hm:m.length<=ps.length)
  (iI:∀(cQ:ao) (A:dD) (outer:List Env) (s:az) (H:Hp) (E:XK),dj k (A.deeper (envOfC qual (dM st) s.heap.objs.size fa cQ))-> ∃f',gR (kc (t4 P w) P w K mg base N qual (dM st) fa cQ A outer s H E) (uS st) (tS K m (some (WF E)) f')/\f'=f):bN P w K mg base (t4 P w) (k+1) fa fd ps (xq K pn (runM n m f)):=by
 subst hn hp;exact Uc m f Fn S hm λcQ A outer s H E hr=>by
  obtain⟨f',h,e⟩:=iI cQ A outer s H E hr;rw[<-e];exact h
end
def EW(W:XW):St->XK:=λZ c dx H'=>∃C,c=.ref C/\W C dx Z H'
def DU(h:kN X W):Gg (t4 X.prog X.w) X (EW W):=λaa Z H s e s' I ⟨a,C,dx,H',he,c,C',hc,q⟩=>by
 cases hc;subst he;exact h aa Z H s H' s' a C dx I c q
section
variable{K:FG}{F H:Hp}{Z:St}
def U7{F1 H1:Hp}{rs:List R}{os:List O}{aE cq:Gm}{A1:List ah}(k1:OK K F1 H1 (vs.map some++Z) (rs.map R.o++aE) A1)(hh:e8 Z H1 rs vs)(q2:oK rs aE=some (os,cq)):
  ∃A4,OK K F1 H1 (vs.map some) (os.map some) A4/\∀F5 H' A5 (τ:St) (Θ:Gm) fin,τ.length=Θ.length->Ext F1 H1 A4 F5 H' A5->OK K F5 H' (τ++vs.map some) (Θ++fin) A5->∃A7,Ext F1 H1 A1 F5 H' A7/\OK K F5 H' (τ++Z) (Θ++qM rs fin cq) A7:=by
 have hl:(vs.map some).length=(rs.map R.o).length:=by rw[bY,bY,hh.length]
 obtain⟨B,C,h1,h2,h3⟩:=aj.split hl k1.os;subst h3;obtain⟨B',C',j1,j2,j3⟩:=E2 h1 h2 hh q2;have k2:OK K F1 H1 (vs.map some++Z) (os.map some++cq) (B'++C'):=.perm (j1.app j2) k1.le k1.nd k1.fr j3;obtain⟨A3,p3,k3⟩:=k2.swap j1.length;obtain⟨A4,k4,fr⟩:=k3.frame j2.length;refine⟨A4,k4,λF5 H' A5 τ Θ fin hτ x5 k5=>?_⟩
 obtain⟨A6,x6,k6⟩:=fr _ _ _ _ _ x5 k5;obtain⟨D1,D2,g1,g2,g3⟩:=aj.split j2.length k6.os;subst g3;obtain⟨D3,D4,g4,g5,g6⟩:=aj.split hτ g2;subst g6;obtain⟨D5,g7,g8⟩:=Fh g5 g1 (hh.kP x6.kP);have s1:aS (D3++D5) (D1++(D3++D4)):=by
  refine((aS.refl D3).app g8).trans (.bX ?_);rw[<-ie];exact qA
 obtain⟨k7,x7⟩:=k6.sub (g4.app g7) s1;have x3:Ext F1 H1 (B++C) F1 H1 A3:=Ext.jT Ext.refl λa m=>j3.mem_iff.mp (p3.mem_iff.mp m)
 exact⟨D3++D5,(x3.trans x6).trans x7,k7⟩
def JI(f:GE):GS:=λQ0=>(f Q0).bind λp=>match p.1 with
 |.own o=>match kh o with
  |some _=>some (.rt o,p.2)
  |none=>some (.nx,p.2)
 |_=>none
def Gw(i:Nat)(f:GE):GS:=λQ0=>(f Q0).bind λp=>match p.1 with
 |.own o=>match kh o with
  |some _=>some (.rt o,p.2)
  |none=>if i<p.2.length then some (.nx,p.2.set i (some o)) else none
 |_=>none
def nu(K:FG)(F H:Hp)(A:List ah)(Z:St)(au:Gm)(W:XW)(Q:VK)(o:O):Prop:=match kh o with
 |none=>∀v H',(∃F' A',Ext F H A F' H' A'/\OK K F' H' (some v::Z) (some o::au) A')->Q v H'
 |some p=>∀dx H',(∃F' A',Ext F H A F' H' A'/\OK K F' H' Z au A'/\qD F' dx p.2)->W p.1 dx Z H'
def Ej(K:FG)(W:XW)(f:GE):TE:=λZ H Q=>∃F A Q0 o au,OK K F H Z Q0 A/\f Q0=some (.own o,au)/\nu K F H A Z au W Q o
def Wi{M:GM}{fs:GA}(t:Ej K W (aJ M fs) Z H Q)(hn:∀rs Q0 au,fs Q0=some (rs,au)->rs.length=n):oE (xq K n M) [] (EW W) (jW K fs) Z H Q:=by
 obtain⟨F,A,Q0,o,au,k,e,w⟩:=t;obtain⟨⟨rs,aE⟩,q,e⟩:=dC.mp e;obtain⟨⟨os,cq⟩,q2,e⟩:=dC.mp e;obtain⟨⟨o',fin⟩,q3,e⟩:=dC.mp e;cases e;refine⟨F,A,Q0,rs,aE,k,q,λvs H1 pp=>?_⟩
 show xq K n M (vs++[]) H1 Q (EW W Z);rw[j9];obtain⟨F1,A1,x,k1,hh⟩:=pp;obtain⟨A4,k4,back⟩:=U7 k1 hh q2;refine⟨by rw[<-hh.length];exact hn rs Q0 aE q,F1,A4,os,o',fin,k4,q3,?_⟩
 unfold nu at w;cases hx:kh o' with
 |none=>
  rw[hx] at w;intro v H' ⟨F5,A5,x5,k5⟩;obtain⟨A7,x7,k7⟩:=back F5 H' A5 [some v] [some o'] fin rfl x5 k5;exact w v H' ⟨F5,A7,x.trans x7,k7⟩
 |some p=>
  rw[hx] at w;intro dx H' ⟨F5,A5,x5,k5,el⟩;obtain⟨A7,x7,k7⟩:=back F5 H' A5 [] [] fin rfl x5 k5;exact⟨p.1,rfl,w dx H' ⟨F5,A7,x.trans x7,k7,el⟩⟩
variable{X:Cx}{m:List Bool}{W:XW}{e:Expr}{fa:GE}{pos:Pos}
def Wj(he:PE X e (Ej K W fa))(hs:swapsWith e none pos.line X.env=pure false:=by rfl):PS X (.Expr e pos) (tS K m (some W) (JI fa)):=(Pb he hs).mono λD Z H t=>by
 obtain⟨F,A,Q0,fl,au,k,e,w⟩:=t;obtain⟨⟨r,aE⟩,q,e⟩:=dC.mp e;cases r with
 |var _=>cases e
 |fld _ _=>cases e
 |own o=>
  dsimp only at e;refine⟨F,A,Q0,o,aE,k,q,?_⟩;unfold nu;cases hx:kh o with
  |some p=>
   rw[hx] at e;cases e;have w:eE K m D F H A Z o _ (some W):=w;unfold eE at w;rw[hx] at w;exact λdx H' ⟨F',A',x,k',el⟩=>w dx Z H' ⟨F',A',x,k',Kept.refl,el⟩
  |none=>
   rw[hx] at e;cases e;intro v H' ⟨F',A',x,k'⟩;obtain⟨B,kB,sub⟩:=OK.part (τ:=[some v]) (Θ:=[some o]) k' rfl;exact w Z H' ⟨F',B,x.jT sub,kB,Kept.refl⟩
def XY{pos':Pos}(hN:X.N.Nodup)(hi:X.N[i]?=some x)(hx:Loc X.env.scope x)(he:PE X e (Ej K W fa))(hm:(m[i]? == some true)=false:=by rfl)(hs:swapsWith e (some (.Name x pos')) pos.line X.env=pure false:=by rfl)(hf:X.fn x=true\/X.env.scope.names.lookup x=some .local := by first|exact .inl rfl|exact .inr rfl):
  PS X (.Assign [.Name x pos'] e pos) (tS K m (some W) (Gw i fa)):=(QK hN hi hx he hs hf).mono λD Z H t=>by
 obtain⟨F,A,Q0,fl,au,k,e,w⟩:=t;obtain⟨⟨r,aE⟩,q,e⟩:=dC.mp e;cases r with
 |var _=>cases e
 |fld _ _=>cases e
 |own o=>
  dsimp only at e;refine⟨F,A,Q0,o,aE,k,q,?_⟩;unfold nu;cases hx:kh o with
  |some p=>
   rw[hx] at e;cases e;have w:eE K m D F H A Z o _ (some W):=w;unfold eE at w;rw[hx] at w;exact λdx H' ⟨F',A',x,k',el⟩=>w dx Z H' ⟨F',A',x,k',Kept.refl,el⟩
  |none=>
   rw[hx] at e;dsimp only at e;split at e
   .cases e;intro v H' ⟨F',A',x,k'⟩;obtain⟨B,k2,x2⟩:=OK.store (Z:=Z) (Q0:=aE) k' (by assumption)
    exact w _ H' ⟨F',B,x.trans x2,k2,Kept.set hm⟩
   .cases e
variable{k n:Nat}{f:ah}{fd:jM}{ps:List Str}{x:Str}{p:Pos}{es:List Expr}{fs:GA}{st:Stmt}{M:GM}
def Jd(D:bU X.K X.mg x st f fd ps)(Fn:bN X.prog X.w X.K X.mg X.base (t4 X.prog X.w) k f fd ps (xq K n M))(hr:dj k X.A)(hp:kN X W)(ha:PA X (e::es) (jW K fs))(hn:∀rs Q0 au,fs Q0=some (rs,au)->rs.length=n)(hg:Gl X x:=by rfl)(lT:(x == ("__debug__":Str))=false:=by decide)
  (he:starEach (e::es) X.env=(false,eval e X.env)::starEach es X.env:=by rfl) (iW:(backTo pos (starEach es X.env)).any (·.1)=false:=by rfl) :
  PE X (.Call (.Name x p) (e::es) [] pos) (Ej K W (aJ M fs)):=(Pd Fn hr hg D.mg D.fn.kp D.bd .nil (DU hp) ha lT he iW).mono λ_ _ _ t=>Wi t hn
end
section
variable{prog:eW}{w:df}{A:dD}{E:ao->az->Prop}{h:cL}{g:Array GenState}{d:Drawn}{t:Nat}{os:OsState}
variable{nm q:Str}{C N:ah}{bs bm yf:List ao}{hdct:Bool}{sn:List Str}{sub:List ao}{ab:Bool}{col:ai Bool}{dd:ai ah}{k0 k1 k2 k3 k5:ai ao}{B Bn newId SX mR SD:String}{Ox:List ao}
def Ep(Fn:ExcBaseFacts Bn newId SD Ox)(G4:yf.contains (.type Bn)=true)(F:ExcBaseFacts B SX mR yf)(T:OwnTail h yf bm){rest:List ao}{Q:Fin->az->Prop}
  (hC:h.get? C=some (excClassObj nm q C N bs bm hdct sn sub ab col dd k0 k1 k2 k3 k5 newId)) (hn:h.Ns N mN) (sN:rest.length<=sizeLine)
  (hq:∀i,i=(mN "__init__").getD (.builtin mR)->wpAny (model prog w) A (bindSpecial i (.ref (h.objs.size+1))) (λp s'=>wpAny (model prog w) A (call p.1 (p.2++rest)) (λr tO=>r=.none/\Q (.done (.ret (.ref (h.objs.size+1)))) tO) E s') E ⟨((h.push { cls:=.type "tuple",data:=.seq rest.toArray}).push { cls:=.ref C,data:=.fields #[.ref h.objs.size,.none,.none,.none,.bool false,.none]}),g,d,t,os⟩) :
  wpAny (model prog w) A (Builtin.«type.__call__» ⟨.ref C::rest,[]⟩) Q E ⟨h,g,d,t,os⟩:=by
 repeat (first|with_reducible refine wpAny_loadPart_at hC ?_|with_reducible refine wpAny_madeBy_exc hC ?_|wp_step)
 refine codeAny_call_builtin_code (Code.quiet_builtin _ Fn.quiet) (wpAny_check_new_subU Fn G4 T hC (codeAny_exc_new_subU Fn G4 F T hC ?_ sN));show wpAny _ _ _ _ _ _;have st:∀b o,h.get? b=some o->((h.push { cls:=.type "tuple",data:=.seq rest.toArray}).push { cls:=.ref C,data:=.fields #[.ref h.objs.size,.none,.none,.none,.bool false,.none]}).get? b=some o:=λb o e=>iP _ (iP _ e)
 have hC₁:=st _ _ hC;have yr:((h.push { cls:=.type "tuple",data:=.seq rest.toArray}).push { cls:=.ref C,data:=.fields #[.ref h.objs.size,.none,.none,.none,.bool false,.none]}).get? (h.objs.size+1)=some { cls:=.ref C,data:=.fields #[.ref h.objs.size,.none,.none,.none,.bool false,.none]}:=by heap_get
 have Lm:(Value.ref C::bm).contains (.ref C)=true:=by simp
 unfold isInstance
 repeat (first|with_reducible refine wpAny_loadPart_at yr ?_|(with_reducible refine wpAny_isSubtype_exc hC₁ ?_;rw[Lm])|wp_step)
 show wpAny _ _ (typeLookup (.ref C) _) _ _ _;refine wpAny_typeLookup_tail hC₁ (hn.keeps st) (T.keeps st) F.mroIs F.init.lookup ?_;cases hv:mN "__init__" with
 |none=>
  refine nk (aK (wpAny_mono (hq _ (by rw[hv];rfl)) (λp s' z=>aK (wpAny_mono z (λr tO y=>?_) λ_ _ y=>y)) λ_ _ y=>y))
  obtain⟨rfl,y⟩:=y
  wp_walk
  exact y
 |some v=>
  refine nk (aK (wpAny_mono (hq _ (by rw[hv];rfl)) (λp s' z=>aK (wpAny_mono z (λr tO y=>?_) λ_ _ y=>y)) λ_ _ y=>y))
  obtain⟨rfl,y⟩:=y
  wp_walk
  exact y
def Wl(Fn:ExcBaseFacts Bn newId SD Ox)(G4:yf.contains (.type Bn)=true)(F:ExcBaseFacts B SX mR yf)(T:OwnTail h yf bm){rest:List ao}{Q:ao->az->Prop}
  (hC:h.get? C=some (excClassObj nm q C N bs bm hdct sn sub ab col dd k0 k1 k2 k3 k5 newId)) (hn:h.Ns N mN) (sN:rest.length<=sizeLine)
  (hq:∀i,i=(mN "__init__").getD (.builtin mR)->wpAny (model prog w) (A.under (.builtin "type.__call__" ⟨.ref C::rest,[]⟩)) (bindSpecial i (.ref (h.objs.size+1))) (λp s'=>wpAny (model prog w) (A.under (.builtin "type.__call__" ⟨.ref C::rest,[]⟩)) (call p.1 (p.2++rest)) (λr tO=>r=.none/\Q (.ref (h.objs.size+1)) tO) E s') E ⟨((h.push { cls:=.type "tuple",data:=.seq rest.toArray}).push { cls:=.ref C,data:=.fields #[.ref h.objs.size,.none,.none,.none,.bool false,.none]}),g,d,t,os⟩) :
  wpAny (model prog w) A (call (.ref C) rest) Q E ⟨h,g,d,t,os⟩:=by
 have f1:=tc_lookup;have f2:=tc_bind (.ref C);have hT:(⟨h,g,d,t,os⟩:az).TypeIs (.ref C) "type":=⟨_,hC,rfl⟩;refine wpAny_call (codeAny_of_tree (show wpAny _ _ (callAny (.ref C) _) _ _ _ from ?_))
 repeat (any_goals (first|assumption|with_reducible refine wpAny_loadPart_at hC ?_|wp_step))
 exact⟨rfl,codeAny_call_builtin_at (Code.quiet_builtin _ (by decide +kernel)) entry_typeCall (wpAny_check_type_call_sub hC (Ep Fn G4 F T hC hn sN λi e=>hq i e))⟩
end
end L2
namespace L2
open PySem PySem.Spec PySem.W PySem.Calls PyProof.Rows
section
variable{prog:eW}{w:df}{A:dD}{E:ao->az->Prop}{s:az}{K:Frag}{x C:ah}{ox:Obj}{od:ai Obj}{name:Str}{tk:Tok}
theorem U8{wO:ao}{Q:Unit->az->Prop}(X:K.In s.heap)(I:InstAt s.heap x ox C od)(hb:subIn K (.ref C) (.type "BaseException")=some true)(hq:Q () s):
  wpAny (model prog w) A (checkBuiltinCall "BaseException.__getattribute__" ⟨[.ref x,wO],[]⟩) Q E s:=by
 have hk:builtinKind "BaseException.__getattribute__"=some .slot:=by decide +kernel
 have yz:splitId "BaseException.__getattribute__"=some ("BaseException","__getattribute__"):=by decide +kernel
 have LI:Looks (model prog w) s.heap (isInstance (.ref x) (.type "BaseException")) true:=I.type.andThen (looks_subIn X hb);have ha:=F.args_bexc_ga (.ref x) wO;simp only[checkBuiltinCall,hk,yz];refine aK (LI.at ?_)
 repeat (any_goals (first|assumption|wp_step))
def Wm{g a v:ao}{Q:Fin->az->Prop}(X:K.In s.heap)(I:InstAt s.heap x ox C od)(hf:findObj K C od name=some (.bind g a))(hc:∀R:Result->az->Prop,R (.ok (.ret v)) s->codeAny (model prog w) A (.call g ⟨[a,.ref x,.ref C],[]⟩) R s)(hq:Q (.done (.ret v)) s):
  wpAny (model prog w) A (Builtin.«object.__getattribute__» ⟨[.ref x,.str name tk],[]⟩) Q E s:=by
 have L0:=I.type (M:=model prog w);have L1:=looks_find (M:=model prog w) X I hf;unfold Builtin.«object.__getattribute__»
 repeat (any_goals (first|assumption|with_reducible refine aK (L0.at ?_)|with_reducible refine aK (L1.at ?_)|wp_step))
 refine hc _ ?_
 repeat (any_goals (first|assumption|wp_step))
theorem Zx{fill expr:Bool}{v:ao}{Q:ao->az->Prop}(X:K.In s.heap)(I:InstAt s.heap x ox C od)(hb:subIn K (.ref C) (.type "BaseException")=some true)
  (hg:findIn K (.ref C) "__getattribute__"=some (some (.builtin "BaseException.__getattribute__"))) (hn:findIn K (.ref C) "__getattr__"=some none)
  (hr:∀(A:dD) (E:ao->az->Prop) (Q:Fin->az->Prop),Q (.done (.ret v)) s->wpAny (model prog w) A (Builtin.«object.__getattribute__» ⟨[.ref x,.str name tk],[]⟩) Q E s) (hh:handedIn v=true) (hq:Q v s) :
  wpAny (model prog w) A (getAttrBy (.ref x) (.str name tk) fill expr) Q E s:=by
 have L0:=I.type (M:=model prog w);have L1:=looks_findIn (M:=model prog w) X hg;have L2:=looks_findIn (M:=model prog w) X hn;have f3:=F.attrBase_ValueError.ga.bind (.ref x);have hx0:(expr&&onTheHeap (Value.builtin "BaseException.__getattribute__"))=false:=by cases expr <;> rfl
 have rG:(onTheHeap (Value.ref C)&&Value.builtin "BaseException.__getattribute__" == Value.builtin "object.__getattribute__")=false:=by rw[show(Value.builtin "BaseException.__getattribute__" == Value.builtin "object.__getattribute__")=false by decide +kernel];rfl
 unfold getAttrBy;refine nk (aK (L0.at (aK (L1.at ?_))));dsimp only;rw[aW (by rw[rG];exact o5)]
 unfold getAttrByItsOwn hookBefore;refine aK (L2.at (aK (wpAny_attempt (nk ?_))));unfold callGetattribute;rw[aW (by rw[hx0];exact o5)]
 unfold boundAndCalled;refine aK (wpAny_of_eq f3 (wpAny_call (codeAny_call_builtin F.attrBase_ValueError.ga.plain F.entry_bexc_ga (U8 X I hb (hr _ _ _ ?_)))));exact handed_on hh hq
def U9{Q:ai ao->az->Prop}(X:K.In s.heap)(I:InstAt s.heap x ox C od)(hb:subIn K (.ref C) (.type "BaseException")=some true)
  (hg:findIn K (.ref C) "__getattribute__"=some (some (.builtin "BaseException.__getattribute__"))) (hn:findIn K (.ref C) "__getattr__"=some none) (hf:findObj K C od "__class__"=some (.bind (.builtin "getset_descriptor.__get__") (.builtin "object.__class__"))) (hm:mroIn K C (.type "object")=some true)
  (hq:Q (some (.ref C)) { s with toks:=s.toks+1}):wpAny (model prog w) A (getAttr? (.ref x) "__class__") Q E s:=by
 unfold getAttr? getAttrBy?;exact aK (wpAny_mkText (aK (wpAny_attempt (Zx (s:={ s with toks:=s.toks+1}) X I hb hg hn (λA E Q q=>Wm (s:={ s with toks:=s.toks+1}) X I hf (λR r=>class_get (s:={ s with toks:=s.toks+1}) X I hm r) q) rfl (bW hq)))))
def OQ{ox:Obj}(hb:subIn K (.ref C) (.type "BaseException")=some true)
  (hg:findIn K (.ref C) "__getattribute__"=some (some (.builtin "BaseException.__getattribute__"))) (hn:findIn K (.ref C) "__getattr__"=some none) (hf:findObj K C od "__class__"=some (.bind (.builtin "getset_descriptor.__get__") (.builtin "object.__class__"))) (hm:mroIn K C (.type "object")=some true) (hd:hasDictIn K C=true) :
  KitX K (.ref x) (.ref C) (λh=>InstAt h x ox C od) where
 ty:=λ_ _ _ I=>I.type
 it:=λ_ _ X _=>by
  obtain⟨Vo,yq,_⟩:=any_some hd;unfold clsIn at yq;split at yq
  .rename_i c' d' Vn Ed ho
   intro A' Q' E' s' k q;unfold isType loadHead;exact aK (wpAny_loadPart (k _ _ (X _ _ ho)) (bW q))
  .cases yq
 ne:=λh tp dd aH n sl X htp=>by
  obtain⟨Vo,yq,_⟩:=any_some hd;refine Bool.eq_false_iff.mpr λq=>?_
  cases Value.ref.inj (beq_iff_eq.mp q);unfold clsIn at yq;split at yq
  .rename_i c' d' Vn Ed ho
   cases(X _ _ ho).symm.trans htp
  .cases yq
 ca:=λX I k=>U9 X I hb hg hn hf hm k
end
end L2
namespace L2
open PySem PySem.Spec PySem.W PySem.Calls PyProof.Rows Builtin Builtin.ObjectAttr
section
variable{prog:eW}{w:df}{A:dD}{E:ao->az->Prop}{s:az}{K:Frag}{x C B0 t:ah}{name:Str}{tk:Tok}{v:ao}{cd:ClassData}
end
section
variable{prog:eW}{w:df}{A:dD}{E:ao->az->Prop}{h:cL}{g:Array GenState}{d:Drawn}{tt:Nat}{os:OsState}{x t:ah}
variable{nm q:Str}{C N:ah}{bs bm yf:List ao}{hdct:Bool}{sn:List Str}{sub:List ao}{ab:Bool}{col:ai Bool}{dd:ai ah}{k0 k1 k2 k3 k5:ai ao}{newId:String}
def Eu{u:ao}{Q:ao->az->Prop}(T:OwnTail h [.type "ValueError",.type "Exception",.type "BaseException",.type "object"] bm)(hC:h.get? C=some (excClassObj nm q C N bs bm hdct sn sub ab col dd k0 k1 k2 k3 k5 newId))(hx:h.get? x=some (qU C t none))
  (hq:∀h',h'.get? x=some (qU C h.objs.size none)->(∀b o,b≠x->h.get? b=some o->h'.get? b=some o)->Q .none ⟨h',g,d,tt,os⟩) :
  wpAny (model prog w) A (call (.builtin "ValueError.__init__") [.ref x,u]) Q E ⟨h,g,d,tt,os⟩:=by
 have FB:=F.excBase_ValueError;have Dx:h.get? x=some { cls:=.ref C,data:=.fields #[.ref t,.none,.none,.none,.bool false,.none]}:=hx;refine wpAny_call (codeAny_call_builtin FB.init.plain FB.initEntry (wpAny_check_init_subU FB T hC Dx rfl ?_))
 wp_walk
 refine hq _ ?_ λb o n e=>?_
 .rw[rL _ (iP _ Dx) rfl];rfl
 .rw[pW _ _ (Ne.symm n)];exact iP _ e
end
end L2
namespace L2
open PySem PySem.Spec PySem.W PySem.Calls PyProof.Rows
variable{X:Cx}{aa:List (ah×Obj)}{Z:St}{H:Hp}{s:az}{x:Str}{u c:ao}{w:ah->ai Bool}{e C:ah}{K:Frag}{i t':Nat}{hp:Pos}{g:GS}{hs:List ExceptHandler}
abbrev jl:List ao:=[.type "ValueError",.type "Exception",.type "BaseException",.type "object"]
def cN(K:Frag)(C:ah)(bm:List ao)(ve:ai ao):Prop:=∃nm q N bs sn sub ab col dd k0 k1 k2 k3 k5 on Bd es ep Bg,
 K.lookup C=some (excClassObj nm q C N bs bm true sn sub ab col dd k0 k1 k2 k3 k5 "ValueError.__new__")/\K.lookup N=some ⟨on,Bd,.dict es ep,Bg⟩/\StrKeys es/\nsFind es "__init__"=ve
section
variable{X:Cx}{aa:List (ah×Obj)}{Z:St}{H:Hp}{s:az}{Q:VK}{C B0:ah}{x:Str}{p pos:Pos}{e:Expr}{t:TA}
end
structure dS (K:Frag) (C:ah):Prop where
 g:findIn K (.ref C) "__getattribute__"=some (some (.builtin "BaseException.__getattribute__"))
 n:findIn K (.ref C) "__getattr__"=some none
 c:findIn K (.ref C) "__class__"=some (some (.builtin "object.__class__"))
 s:specialIn K (.builtin "object.__class__") "__get__"=some (some (.builtin "getset_descriptor.__get__"))
 t:takesIn K (.builtin "object.__class__")=some true
section
variable{K:Frag}{C C' B0 a:ah}{bm Gd:List ao}{i i':ai ao}{l:ai Int}
theorem cN.cls(G:cN K C bm i):∃cd,clsIn K C=some cd/\cd.mro=.ref C::bm/\cd.hasDict=true/\typeIn K (.ref C)=some (.type "type"):=by
 obtain⟨nm,q,N,bs,sn,sub,ab,col,dd,k0,k1,k2,k3,k5,on,Bd,es,ep,Bg,g1,g2,g3,g4⟩:=G;exact⟨_,by unfold clsIn;rw[g1],rfl,rfl,by show(K.lookup C).map (·.cls)=_;rw[g1];rfl⟩
def cN.sub(G:cN K C bm i)(b:ao):subIn K (.ref C) b=some ((Value.ref C::bm).contains b):=by
 obtain⟨cd,c1,c2,c3,c4⟩:=G.cls;show mroIn K C b=_;unfold mroIn;rw[c1,Option.bind_some,c2];rfl
def cN.DC(G:cN K C bm i)(G':cN K C' Gd i'):kitOne K (.ref C) (.ref C')=some ((Value.ref C::bm).contains (.ref C')):=by
 obtain⟨cd,c1,c2,c3,c4⟩:=G'.cls;unfold kitOne;split
 .rename_i e
  cases beq_iff_eq.1 e;simp
 .unfold kitCls;dsimp only;rw[aT (by rw[c1,c4];rfl)]
  exact G.sub _
def cN.LS(G:cN K C (.ref B0::jl) i):kitOne K (.ref C) (.type "ValueError")=some true:=by
 unfold kitOne;rw[aW (λe=>by cases beq_iff_eq.1 e)]
 unfold kitCls;dsimp only;rw[aT (by decide +kernel),G.sub]
 rfl
def OR(I:Inv X aa Z H s)(h:j' H a C l):∃ox od,InstAt s.heap a ox C od/\∀n,l=some n->∃t,∃o,od=some o/\lookIn "line" o=some (some (.int n t)):=by
 cases l with
 |none=>
  obtain⟨o,e,z1,z2,vs,z3⟩:=h;obtain⟨z,_⟩:=I.cg _ _ e;exact⟨o,none,⟨z,z1,by unfold W.notCls;rw[z3],by rw[z2];trivial⟩,λn e=>by cases e⟩
 |some n=>
  obtain⟨o,dx,e,⟨z1,z2,vs,z3⟩,q⟩:=h;obtain⟨z,_⟩:=I.cg _ _ e;obtain⟨mA,ns,r⟩:=I.cg _ _ q;obtain⟨od,o1,o2⟩:=UB ns;refine⟨o,some od,⟨z,z1,by unfold W.notCls;rw[z3],by rw[z2];exact o1⟩,λm e=>?_⟩
  cases e;have r':=r "line";rw[show List.lookup (Str.ofString "line") [(Str.ofString "line",V.int n)]=some (V.int n) by rw[rh,rj]] at r'
  cases hm:mA "line" with
  |none=>rw[hm] at r';cases r'
  |some u=>
   rw[hm] at r';obtain⟨t',rfl⟩:∃t',u=Value.int n t':=r';exact⟨t',od,rfl,by rw[o2,hm]⟩
def dS.Qk(E:dS K C)(G:cN K C bm i)(od:ai Obj):findObj K C od "__class__"=some (.bind (.builtin "getset_descriptor.__get__") (.builtin "object.__class__")):=by
 obtain⟨cd,c1,_⟩:=G.cls;unfold findObj;rw[c1,Option.bind_some,E.c,Option.bind_some];simp[E.s,E.t]
def tK(K:Frag)(c:ao)(x:V)(H:Hp)(Q:VK):Prop:=∃a C l i b,x=.ref a/\j' H a C l/\cN K C (.ref B0::jl) i/\dS K C/\kitOne K (.ref C) c=some b/\Q (.bl b) H
def XZ{x:V}{Q:VK}(I:Inv X aa Z H s)(rx:RelV x u)(h:tK (B0:=B0) X.K c x H Q):
  wpAny (model X.prog X.w) X.A (call (.builtin "isinstance") [u,c]) (EP X aa Z Q) X.xe s:=by
 obtain⟨a,C,l,i,b,rfl,hx,G,E,e,q⟩:=h;obtain rfl:u=Value.ref a:=rx;obtain⟨ox,od,J,_⟩:=OR I hx;obtain⟨cd,c1,c2,c3,c4⟩:=G.cls;refine kia_one (OQ (K:=X.K) (od:=od) (ox:=ox) (by rw[G.sub];rfl) E.g E.n (E.Qk G od) (by have:=G.sub (.type "object");rw[show(Value.ref C::.ref B0::jl).contains (.type "object")=true from rfl] at this;exact this) (by unfold hasDictIn;rw[c1];exact c3)) I.rH J e (λz=>nomatch z) λtk=>?_
 exact⟨.bl b,H,I.tok _,rfl,q⟩
def eZ(w:ah->ai Bool):List O->ai O
 |[.Y (.exc C _)]=>(w C).map λb=>.Y (.bl b)
 |_=>none
def X0(hw:∀C b,w C=some b->(∃i,cN K C (.ref B0::jl) i)/\dS K C/\kitOne K (.ref C) c=some b):cS K (Mg (tK (B0:=B0) K c)) (eZ w):=by
 intro F H vs os o Q le eU e res;unfold eZ at e;split at e
 .rename_i C l
  obtain⟨x,B,rfl,h1⟩:=eU.one;obtain⟨b,q1,q2⟩:=j_.mp e;subst q2;obtain⟨⟨i,G⟩,E,kk⟩:=hw C b q1;have r:=o9 le h1;cases r with
  |flat z _=>cases z
  |@exc a _ _ _ _ hx _=>exact⟨_,rfl,a,C,l,i,b,rfl,hx,G,E,kk,res.flat rfl⟩
 .cases e
def PN{e f:Expr}{p pos:Pos}{fe:GE}{v:V}(hw:∀C b,w C=some b->(∃i,cN K C (.ref B0::jl) i)/\dS K C/\kitOne K (.ref C) c=some b)(hm:X.mg "isinstance"=none)(he:PE X e (tG K fe))(hf:PE X f (tC v))(rc:∀u,RelV v u->u=c)(hg:Gl X "isinstance":=by rfl)
  (kg:starEach [e,f] X.env=(false,eval e X.env)::starEach [f] X.env:=by rfl) (pG:starEach [f] X.env=(false,eval f X.env)::starEach [] X.env:=by rfl) (iW:(backTo pos (starEach [f] X.env)).any (·.1)=false:=by rfl) (hK:X.K=K:=by rfl) :
  PE X (.Call (.Name "isinstance" p) [e,f] [] pos) (tG K (yl (eZ w) fe)):=by
 subst hK;have hc:cA X (.builtin "isinstance") (λxs H Q=>∃x,xs=[x,v]/\tK (B0:=B0) X.K c x H Q):=by
  intro aa s Z H xs us Q I r h;obtain⟨x,rfl,q⟩:=h;obtain⟨u,w',rfl,rx,ry⟩:=vals2 r;cases rc _ ry;exact XZ I rx q
 refine(IP hc hg hm (by kernel_rfl) (zF he (zF hf mV pG) kg) (by decide) (by decide) kg iW).mono λZ H Q h=>?_
 exact(RM (X0 hw) h).mono λx H1 q=>⟨x,rfl,q⟩
end
section
variable{K:Frag}{F H:Hp}{Z:St}{Q0:Gm}{A:List ah}{p:ah}
end
section
variable{K:Frag}{X:Cx}{C B0:ah}{x:Str}{p pos:Pos}{e:Expr}{fe:GE}
end
structure Bu (K:Frag) (B0:ah):Prop where
 g:specialIn K (.ref B0) "__getattribute__"=some (some (.builtin "type.__getattribute__"))
 r:readsIn K B0 (.type "type")=true
 c:findCls K (.ref B0) (.type "type") "__init__"=some (.val (.builtin "ValueError.__init__"))
def exD(C t dx:ah):HO:=.Y (qU C t (some dx)) (.own 0)
section
variable{X:Cx}{aa:List (ah×Obj)}{Z:St}{H:Hp}{s:az}{C B0 e t:ah}{i:ai ao}
variable{x0:Str}{p0 ap cp pos p1:Pos}{e1 e2 o value:Expr}{k j:Nat}{v:V}
end
structure Lined (H H':Hp) (C e t dx:ah) (n:Int):Prop where
 ne:dx≠e
 d0:H dx=none
 e1:H' e=some (exD C t dx)
 d1:H' dx=some (.xd [("line",.int n)])
 old:∀b,b≠e->b≠dx->H' b=H b
section
variable{X:Cx}{aa:List (ah×Obj)}{Z:St}{H:Hp}{s:az}{Q:VK}{C B0 fI:ah}{x:Str}{p pos:Pos}{e:Expr}{t:TA}{fd:jM}{k:Nat}
end
section
variable{X:Cx}{C B0 fI:ah}{x:Str}{p pos:Pos}{e:Expr}{t:TA}{fd:jM}{k:Nat}{K:Frag}{fe:GE}
end
structure iC (K:Frag) (mg:Str->ai ao) (tab:List (Str×ah)) (L B0 fI:ah):Prop where
 all:∀p∈tab,mg p.1=some (.ref p.2)/\cN K p.2 (.ref B0::jl) none/\dS K p.2/\keepIn K (.ref p.2)=true
 mgL:mg "NoLine"=some (.ref L)
 GL:cN K L (.ref B0::jl) (some (.ref fI))
 EL:dS K L
 kL:keepIn K (.ref L)=true
 sL:findIn K (.ref L) "__setattr__"=some (some (.builtin "object.__setattr__"))
 nL:findIn K (.ref L) "line"=some none
 fL:isFn K (.ref fI)=true
 mg0:mg "CarryError"=some (.ref B0)
 G0:cN K B0 jl none
 I0:Bu K B0
def wE(cs:List ah)(c:ah)(C:ah):ai Bool:=if cs.contains C then some (C == c) else none
def wT(cs:List ah)(C:ah):ai Bool:=if cs.contains C then some true else none
section
variable{K:Frag}{mg:Str->ai ao}{tab:List (Str×ah)}{L B0 fI:ah}
def iC.one(E:iC K mg tab L B0 fI)(h:C∈L::tab.map (·.2)):(∃i,cN K C (.ref B0::jl) i)/\dS K C:=by
 rcases dR.1 h with rfl|h
 .exact⟨⟨_,E.GL⟩,E.EL⟩
 .obtain⟨p,m,rfl⟩:=gQ.1 h;exact⟨⟨_,(E.all p m).2.1⟩,(E.all p m).2.2.1⟩
theorem iC.wE(E:iC K mg tab L B0 fI){c:ah}(hc:(L::tab.map (·.2)).contains c=true)(h0:(c == B0)=false)(C:ah)(b:Bool)(h:wE (L::tab.map (·.2)) c C=some b):(∃i,cN K C (.ref B0::jl) i)/\dS K C/\kitOne K (.ref C) (.ref c)=some b:=by
 unfold L2.wE at h;split at h
 .rename_i hC
  cases h;obtain⟨⟨i,G⟩,I⟩:=E.one (C:=C) (by simpa using hC)
  obtain⟨⟨i',G'⟩,_⟩:=E.one (C:=c) (by simpa using hc)
  refine⟨⟨i,G⟩,I,(G.DC G').trans (congrArg some ?_)⟩;have n0:c≠B0:=λz=>by rw[z] at h0;simp at h0
  by_cases z:C=c
  .subst z;simp
  .rw[show(C == c)=false from beq_false_of_ne z];simp[jl,Ne.symm z,n0]
 .cases h
def iC.wB(E:iC K mg tab L B0 fI)(C:ah)(b:Bool)(h:wT (L::tab.map (·.2)) C=some b):(∃i,cN K C (.ref B0::jl) i)/\dS K C/\kitOne K (.ref C) (.ref B0)=some b:=by
 unfold wT at h;split at h
 .rename_i hC
  cases h;obtain⟨⟨i,G⟩,I⟩:=E.one (C:=C) (by simpa using hC)
  exact⟨⟨i,G⟩,I,(G.DC E.G0).trans (by simp)⟩
 .cases h
def iC.wV(E:iC K mg tab L B0 fI)(C:ah)(b:Bool)(h:wT (L::tab.map (·.2)) C=some b):(∃i,cN K C (.ref B0::jl) i)/\dS K C/\kitOne K (.ref C) (.type "ValueError")=some b:=by
 unfold wT at h;split at h
 .rename_i hC
  cases h;obtain⟨⟨i,G⟩,I⟩:=E.one (C:=C) (by simpa using hC)
  exact⟨⟨i,G⟩,I,G.LS⟩
 .cases h
end
def e6v:bootBuiltins "ValueError"=some (.type "ValueError"):=by kernel_rfl
def iC.ix{mg:Str->ai ao}{tab:List (Str×ah)}{L B0 fI:ah}(E:iC K mg tab L B0 fI){n:Str}(h:tab[i]?=some (n,C)):mg n=some (.ref C)/\cN K C (.ref B0::jl) none/\dS K C/\keepIn K (.ref C)=true:=E.all _ (Bk h)
def Q_(e:DictEntry):Bool:=match e.key with|.str _ _=>true|_=>false
def errC_mk{bm:List ao}{ve:ai ao}{nm q:Str}{N:ah}{bs:List ao}{sn:List Str}{sub:List ao}{ab:Bool}{col:ai Bool}{dd:ai ah}{k0 k1 k2 k3 k5:ai ao}{on:ao}{Bd:ai ah}{es:Array DictEntry}{ep:Nat}{Bg:Array (ai ao)}
  (l:K.lookup C=some (excClassObj nm q C N bs bm true sn sub ab col dd k0 k1 k2 k3 k5 "ValueError.__new__")) (d:K.lookup N=some ⟨on,Bd,.dict es ep,Bg⟩) (s:es.toList.all Q_=true) (i:nsFind es "__init__"=ve):cN K C bm ve:=by
 refine⟨_,_,_,_,_,_,_,_,_,_,_,_,_,_,_,_,_,_,_,l,d,λe he=>?_,i⟩
 have:=kI.1 s e (Array.mem_toList_iff.2 he);unfold Q_ at this;split at this
 .exact⟨_,_,by assumption⟩
 .cases this
section
variable{X:Cx}{aa:List (ah×Obj)}{Z:St}{H:Hp}{s:az}{C B0:ah}{R:ao->az->Prop}
def Wn(G:cN X.K C (.ref B0::jl) none)(G0:cN X.K B0 jl none)(I:Inv X aa Z H s)(h:∀h' t,(∀b o,s.heap.get? b=some o->h'.get? b=some o)->h'.get? (s.heap.objs.size+1)=some (qU C t none)->R (.ref (s.heap.objs.size+1)) { s with heap:=h'}):
  wpAny (model X.prog X.w) X.A (call (.ref C) [u]) R X.xe s:=by
 obtain⟨hh,g,d,tt,os⟩:=s;have KX:X.K.In hh:=I.rH;obtain⟨nm,q,N,bs,sn,sub,ab,col,dd,k0,k1,k2,k3,k5,on,Bd,es,ep,Bg,g1,g2,g3,g4⟩:=G;obtain⟨nm',q',N',bs',sn',sub',ab',col',dd',k0',k1',k2',k3',k5',on',odn',u5,GX,sln',g1',g2',Dc,g4'⟩:=G0;have FB:=F.excBase_ValueError;have T:OwnTail hh jl (.ref B0::jl):=.own (KX _ _ g1') (mA:=λn=>nsFind u5 n) ⟨_,_,_,KX _ _ g2',rfl,Dc,λ_=>rfl⟩ g4' .base
 refine Wl FB rfl FB T (KX _ _ g1) (mN:=λn=>nsFind es n) ⟨_,_,_,KX _ _ g2,rfl,g3,λ_=>rfl⟩ (by rw[sizeLine_eq];exact(by decide:1<=16777216)) λi ei=>?_
 rw[g4] at ei;subst ei;have st:∀b o,hh.get? b=some o->((hh.push { cls:=.type "tuple",data:=.seq [u].toArray}).push { cls:=.ref C,data:=.fields #[.ref hh.objs.size,.none,.none,.none,.bool false,.none]}).get? b=some o:=λb o e=>iP _ (iP _ e)
 have yr:((hh.push { cls:=.type "tuple",data:=.seq [u].toArray}).push { cls:=.ref C,data:=.fields #[.ref hh.objs.size,.none,.none,.none,.bool false,.none]}).get? (hh.objs.size+1)=some (qU C hh.objs.size none):=by unfold qU;heap_get
 refine wpAny_of_eq (FB.init.bind _) (Eu (T.keeps st) (st _ _ (KX _ _ g1)) yr λh' e1 e2=>?_)
 exact⟨rfl,h h' _ (λb o z=>e2 b o (lY (Nat.lt_succ_of_lt (eV z))) (st b o z)) e1⟩
end
def JJ(C:ah)(fe:GE):GS:=λQ0=>(fe Q0).bind λp=>some (.rt (.Y (.exc C none)),p.2)
section
variable{X:Cx}{K:Frag}{m:List Bool}{W:XW}{C B0:ah}{x:Str}{p cp pos:Pos}{e:Expr}{fe:GE}
def Wo(G:cN K C (.ref B0::jl) none)(G0:cN K B0 jl none)(hk:keepIn K (.ref C)=true)(hm:X.mg x=some (.ref C))(hp:kN X W)(he:PE X e (tG K fe))(hc:X.calm=true:=by rfl)(hg:Gl X x:=by rfl)(lT:(x == ("__debug__":Str))=false:=by decide)
  (kg:starEach [e] X.env=(false,eval e X.env)::starEach [] X.env:=by rfl) (iW:(backTo cp (starEach [] X.env)).any (·.1)=false:=by rfl) (hK:X.K=K:=by rfl):PS X (.Raise (some (.Call (.Name x p) [e] [] cp)) none pos) (tS K m (some W) (JJ C fe)):=by
 subst hK;intro aa s Z H D I t;obtain⟨F,A,Q0,fl,au,k,ee,w⟩:=t;obtain⟨⟨r1,aE⟩,q,ee⟩:=dC.mp ee;cases ee;have w:∀dx Z' H',vN X.K F H A m Z aE none dx Z' H'->W C dx Z' H':=w;obtain⟨nm,qq,N,bs,sn,sub,ab,col,dd,k0,k1,k2,k3,k5,on,Bd,es,ep,Bg,g1,g2,g3,g4⟩:=id G;rw[arm_exec_Raise];show wpAny _ _ (do standAt pos;raiseStmt X.env (some (do let v <-eval (.Call (.Name x p) [e] [] cp) X.env;standAt pos;pure v)) none) _ _ _
 refine aK (wpAny_standAt (wpAny_raiseStmt_made_sub (C:=C) (nm:=nm) (q:=qq) (N:=N) (bs:=bs) (bm:=.ref B0::jl) (hdct:=true) (sn:=sn) (sub:=sub) (ab:=ab) (col:=col) (dd:=dd) (k0:=k0) (k1:=k1) (k2:=k2) (k3:=k3) (k5:=k5) (newId:="ValueError.__new__") rfl (I.ok.hd hc) (aK (cR ?_ λv s3 h3=>aK (wpAny_standAt (bW h3))))))
 refine wpAny_Call_Name_kw (FE I hg hm ?_ lT);have ha:PA X [e] (jW X.K (aq fe gN)):=ay he aV kg;refine PySem.W.callWith_K (h₀:=X.base) I.ok.mod.Hk hk (cR (ha cp aa s Z H (λvs H1=>vs.length=1/\gX X.K F H A Z aE [r1] vs H1) I ⟨F,A,Q0,[r1],aE,k,by rw[bj,q];rfl,λvs H1 pp=>⟨by obtain⟨_,_,_,_,hh⟩:=pp;exact hh.length.symm,pp⟩⟩) λus s1 hh=>?_) kg iW
 obtain⟨vs,H1,I1,r,hl,pp⟩:=hh;refine⟨I1.rH,?_⟩;obtain⟨u,rfl⟩:=GQ (show 1=us.length by rw[<-hl,r.length])
 refine Wn G G0 I1 λh' t kp g=>⟨_,t,rfl,kp _ _ (I1.rH _ _ g1),g,?_⟩
 obtain⟨F1,A1,x1,kk,_⟩:=pp.drop;refine hp aa Z H1 s1 H1 _ _ C none I1 ⟨rfl,I1.bare,Un.kept kp,I1.cg.kept kp,Bm _,I1.cg.fresh (Bm _),_,_,g,rfl,rfl,rfl,by show 1<6;decide,.inl rfl⟩ (w none Z H1 ⟨F1,A1,x1,kk,Kept.refl,rfl⟩)
def OS(Q0:Gm):JJ C fe Q0=(fe Q0).bind λp=>some (.rt (.Y (.exc C none)),p.2):=rfl
end
abbrev Cx.ib(X:Cx)(pn:List (ah×Obj))(E:ao->az->Prop):Cx:={ X with pn:=pn,xe:=E}
abbrev Cx.iX(X:Cx)(e:ao):Cx:={ X with A:=X.A.mark (some e),calm:=false,xe:=λ_ _=>False}
structure xr (X:Cx) (aa:List (ah×Obj)) (n:Nat):Prop where
 s:X.s₀.heap.objs.size<=n
 l:X.env.locals<n
 c:∀x c,X.env.cells.lookup x=some c->c<n
 p:∀q∈X.pn++aa,q.1<n
section
variable{X:Cx}{aa ou:List (ah×Obj)}{pn:List (ah×Obj)}{Z:St}{H:Hp}{s:az}{E:ao->az->Prop}{n:Nat}{ch:List ah}{h':cL}
def Cx.Ok.ib(ok:X.Ok):(X.ib pn E).Ok:=⟨ok.mod,ok.kind,ok.glob,ok.blt,ok.above,ok.inj,ok.has,ok.uX,ok.hd,ok.frames,ok.w9,ok.Am,ok.bs,ok.rE,ok.mU,ok.nY,ok.jn,ok.uy⟩
def Cx.Ok.gp(ok:(X.ib pn E).Ok):X.Ok:=⟨ok.mod,ok.kind,ok.glob,ok.blt,ok.above,ok.inj,ok.has,ok.uX,ok.hd,ok.frames,ok.w9,ok.Am,ok.bs,ok.rE,ok.mU,ok.nY,ok.jn,ok.uy⟩
theorem Inv.ib(I:Inv X aa Z H s):Inv (X.ib (X.pn++aa) E) [] Z H s:=⟨I.ok.ib,I.os,I.bare,I.base,I.loc,I.cell,I.free,I.eY,λp hp=>I.pin p (by rw[j9] at hp;exact hp),I.cg,I.len⟩
theorem Inv.gp(I:Inv (X.ib (X.pn++aa) E) ou Z H s):Inv X aa Z H s:=⟨I.ok.gp,I.os,I.bare,I.base,I.loc,I.cell,I.free,I.eY,λp hp=>I.pin p (jb _ hp),I.cg,I.len⟩
def Inv.iX{e:ao}(I:Inv X aa Z H s):Inv (X.iX e) aa Z H s:=
 ⟨⟨I.ok.mod,I.ok.kind,I.ok.glob,I.ok.blt,I.ok.above,I.ok.inj,I.ok.has,I.ok.uX,λz=>(nomatch z),I.ok.frames,I.ok.w9,I.ok.Am,I.ok.bs,I.ok.rE,I.ok.mU,I.ok.nY,I.ok.jn,I.ok.uy⟩,I.os,I.bare,I.base,I.loc,I.cell,I.free,I.eY,I.pin,I.cg,I.len⟩
def Inv.jF{e:ao}(I:Inv (X.iX e) aa Z H s)(hd:X.calm=true->X.A.handled=none):Inv X aa Z H s:=
 ⟨⟨I.ok.mod,I.ok.kind,I.ok.glob,I.ok.blt,I.ok.above,I.ok.inj,I.ok.has,I.ok.uX,hd,I.ok.frames,I.ok.w9,I.ok.Am,I.ok.bs,I.ok.rE,I.ok.mU,I.ok.nY,I.ok.jn,I.ok.uy⟩,I.os,I.bare,I.base,I.loc,I.cell,I.free,I.eY,I.pin,I.cg,I.len⟩
def Inv.Th(I:Inv X aa Z H s):xr X aa s.heap.objs.size:=⟨I.sz,I.lt,λx c e=>by obtain⟨v,o,ho,_⟩:=I.cell x c e;exact eV ho,λq hq=>eV (I.pin q hq).1⟩
def xr.Sd(y:xr X aa n){b:ah}(h:n<=b):(b∈X.ex\/X.s₀.heap.objs.size<=b)/\b≠X.env.locals/\(∀x c,X.env.cells.lookup x=some c->c≠b)/\∀p∈X.pn++aa,p.1≠b:=
 ⟨.inr (kH y.s h),λz=>b_ (iA y.l h) (z ▸ mI _),λx c e z=>b_ (iA (y.c x c e) h) (z ▸ mI _),λp hp z=>b_ (iA (y.p p hp) h) (z ▸ mI _)⟩
def iD.un{fs:List ah}{h:cL}(l:iD fs ch h h'):Un fs ch H H h h':=
 ⟨λb o g _ hb hx=>l.keep b o hb hx g,λb o g _ hb hx=>l.slot b o hb hx g,λ_ _ _ n _=>n,λb o g hx=>let ⟨_,g2⟩:=l.any g hx;⟨_,g2⟩,λ_ _ q=>q,λ_ _ _ q=>q,λ_ ps q=>⟨#[],by rw[q];simp⟩⟩
def Inv.left(I:Inv X aa Z H s)(y:xr X aa n)(l:iD (kT X.stack) ch s.heap h')(lO:∀b∈ch,n<=b/\H b=none):Inv X aa Z H { s with heap:=h',toks:=t'}:=
 I.call (g':=s.gens) (d':=s.drawn) (ch:=ch) l.un (l.cg I.cg I.kF λb m=>(lO b m).2) I.bare λb m=>y.Sd (lO b m).1
def Inv.y7{o:Obj}(I:Inv X aa Z H s)(y:xr X aa n)(hn:n<=e)(he:H e=none)(g:s.heap.get? e=some o):Inv X aa Z (upd H e (.Y o (.own 0))) s:=by
 have ne:∀b u,H b=some u->b≠e:=λb u q z=>by rw[z,he] at q;cases q
 refine I.step (h':=s.heap) (g':=s.gens) (t':=s.toks) (d':=s.drawn) (ch:=[e]) (λb m=>by cases iz.1 m;exact y.Sd hn) (λb o _ _ _ g _=>g) (λb o _ _ _ g _=>⟨o.slots,g⟩) (λb o hc g n=>by rw[cK (by simpa using hc)];exact n) (λb o _ g=>⟨o,g⟩)
  (λb xs q=>by rw[cK (ne b _ q)];exact q) (λb o u q=>by rw[cK (ne b _ q)];exact q) (λb ps q=>⟨#[],by rw[cK (ne b _ q),q];simp⟩) (λm hm=>hm) (λb u q=>?_) I.bare
 by_cases z:b=e
 .subst z;rw[iQ] at q;cases q;exact⟨g,_,g⟩
 .rw[cK z] at q;exact(I.cg b u q).lh (λ_ _ _ g=>g) (λc q=>by rw[cK (ne c _ q)];exact q) λc xs q=>by rw[cK (ne c _ q)];exact q
def Inv.u9{v:ai ao}{mm:Str->ai ao}(I:Inv X aa Z H s)(hN:X.N.Nodup)(hi:X.N[i]?=some x)(hk:X.env.kindOf x=some .local)(hm:s.heap.Ns X.env.locals mm)(hl:∀(j:Nat) (y:Str) (w:V),X.N[j]?=some y->Z[j]?=some (some w)->zh X.env.scope y->∃u,RelV w u/\Look X.env s.heap mm y u)
  (hn:h'.Ns X.env.locals (λy=>if y=x then v else mm y)) (hs:Heap.SameBut X.env.locals s.heap h') :Inv X aa (Z.set i none) H { s with heap:=h',toks:=t'}:=by
 have nl:∀b o,X.s₀.heap.get? b=some o->b≠X.env.locals:=λb o g=>lY (iA (eV g) I.ok.above)
 refine⟨I.ok,I.os,I.bare,⟨λb o g n hb hx=>(hs.2 b (nl b o g)).trans (I.base.keep b o g n hb hx),λb o g n hb hx=>?_,I.base.free,λb o g hx=>?_,I.base.lA,I.base.ke,I.base.ly⟩,⟨_,hn,λj y w e1 e2 e3=>?_⟩,λy c e=>?_,I.free,I.eY,λp hp=>?_,λb u q=>?_,by simpa using I.len⟩
 .obtain⟨sl,g1⟩:=I.base.slot b o g n hb hx;exact⟨sl,(hs.2 b (nl b o g)).trans g1⟩
 .obtain⟨o',g1⟩:=I.base.there b o g hx;exact⟨o',(hs.2 b (nl b o g)).trans g1⟩
 .have hj:j≠i:=λz=>by
   subst z;by_cases f_:j<Z.length
   .rw[MN f_] at e2;cases e2
   .rw[List.getElem?_eq_none (by simpa using f_)] at e2;cases e2
  rw[HE (Ne.symm hj)] at e2;obtain⟨u,r,q⟩:=hl j y w e1 e2 e3;refine⟨u,r,?_⟩;rcases q with⟨k,e⟩|⟨k,c,e,z⟩
  .refine .inl ⟨k,?_⟩;have:y≠x:=λz=>hj (IM hN e1 (z ▸ hi))
   simp[this,e]
  .exact .inr ⟨k,c,e,z.sameBut hs (I.u0 y c e)⟩
 .obtain⟨w,z⟩:=I.cell y c e;exact⟨w,z.sameBut hs (I.u0 y c e)⟩
 .obtain⟨e,n,ne,nf,d⟩:=I.pin p hp;exact⟨(hs.2 p.1 ne).trans e,n,ne,nf,d⟩
 .refine(I.cg b u q).lh (λc w hc g=>(hs.2 c ?_).trans g) (λ_ z=>z) λ_ _ z=>z
  rintro rfl;rcases hc with z|z
  .rw[<-z,I.free] at q;cases q
  .rw[I.free] at z;cases z
def Wq{M:Model}{A:dD}{dx:ai ah}{Q:Unit->az->Prop}(fl:je n s.heap H e C dx)(h:∀h' ch,(∀b∈ch,n<=b/\H b=none)->iD (kT X.stack) ch s.heap h'->je n h' H e C dx->Q () { s with heap:=h'}):wpAny M A (setFlight (.ref e) none) Q E s:=by
 obtain⟨ia,qm,oe,vs,he,hc,hx,hd,hsz,h1⟩:=fl;unfold setFlight;rcases h1 with h1|⟨T,oT,ts,h1,Hb,G5,G6,hT,AU,h3⟩
 .refine aK (wpAny_field he hd h1 ?_);rw[aW (by decide)]
  exact bW (h s.heap [] (λ_ z=>nomatch z) ⟨λ_ _ _ _ g=>g,λ_ o _ _ g=>⟨o.slots,g⟩⟩ ⟨ia,qm,oe,vs,he,hc,hx,hd,hsz,.inl h1⟩)
 .refine aK (wpAny_field he hd h1 ?_);rw[aT (show(Value.ref T != Value.none)=true by simp)]
  have l3:3<ts.size:=(Bo.mp h3).1;have dT:=Obj.data_mapFields AU (·.setIfInBounds 3 ((none:ai ah).elim Value.none λf=>rawInt f))
  refine wpAny_setField hT AU l3 (h _ [T] (λb m=>by cases iz.1 m;exact⟨Hb,G5⟩) ⟨λb o _ hb g=>(pW _ _ (by simpa using Ne.symm (by simpa using hb:b≠T))).trans g,λb o _ hb g=>⟨o.slots,(pW _ _ (by simpa using Ne.symm (by simpa using hb:b≠T))).trans g⟩⟩ ⟨ia,qm,oe,vs,(pW _ _ G6).trans he,hc,hx,hd,hsz,.inr ⟨T,_,_,h1,Hb,G5,G6,rL _ hT (Obj.isFreed_of_fields dT),dT,by simp[Array.getElem?_setIfInBounds,l3]⟩⟩)
end
abbrev GH:=ai Nat×(ah->ai Bool)×GS
variable{gs:List GH}
def Ck(i:ai Nat)(g:GS)(C:ah)(l:ai Int):GS:=λQ0=>match i with
 |none=>g Q0
 |some i=>if i<Q0.length then(g (Q0.set i (some (.Y (.exc C l))))).bind λq=>some (q.1,q.2.set i none) else none
def pU:List GH->ah->ai Int->GS
 |[],_,_=>λ_=>none
 |h::hs,C,l=>λQ0=>(h.2.1 C).bind λb=>if b=true then Ck h.1 h.2.2 C l Q0 else pU hs C l Q0
def sk(f:GS)(hs:List GH):GS:=λQ0=>(f Q0).bind λp=>match p.1 with
 |.rt o=>match kh o with
  |some c=>pU hs c.1 c.2 p.2
  |none=>some (.rt o,p.2)
 |fl=>some (fl,p.2)
section
variable{X:Cx}{K:Frag}{m:List Bool}
def BE(X:Cx)(K:Frag)(m:List Bool)(nm:ai Str)(b:List Stmt)(hp:Pos)(i:ai Nat)(g:GS):Prop:=∀(aa:List (ah×Obj)) (Z:St) (H:Hp) (s:az) (D:Ends) (e C:ah) (dx:ai ah) (l:ai Int) (F:Hp) (A:List ah) (Q0:Gm) (fl:Fl) (au:Gm) (n:Nat),Inv X aa Z H s->xr X aa n->je n s.heap H e C dx->OK K F H Z Q0 A->qD F dx l->Ck i g C l Q0=some (fl,au)->Done K m none D F H A Z fl au->
 codeAny (model X.prog X.w) (X.A.mark (some (.ref e))) (.handlers (.ref e) [.ExceptHandler none nm b hp] X.env) (λr s₂=>match r with
     |.ok f=>(match nm with
      |none=>SP X aa D f s₂
      |some n=>wpAny (model X.prog X.w) X.A (do bindName X.env n .none;unbindBehindTheSuite X.env n hp) (λ_ s₃=>SP X aa D f s₃) X.xe s₂)
     |.error x=>cameBackBy (model X.prog X.w) X.A X.env X.xe x s₂) s
def OK.tX{F:Hp}{A:List ah}{Q0:Gm}{τ:St}{Θ:Gm}(k:OK K F H (τ++Z) (Θ++Q0) A)(hτ:τ.length=Θ.length):∃B,OK K F H (τ++Z.set i none) (Θ++Q0.set i none) B/\Ext F H A F H B:=by
 obtain⟨B,C,h1,h2,h3⟩:=aj.split hτ k.os;subst h3;obtain⟨C',g1,g2⟩:=aj.forget i h2;have g3:aj K F H (Z.set i none) (Q0.set i none) C':=by
  by_cases hi:i<Q0.length
  .exact aj.loose g1 (by rw[MN hi])
  .have hl:=h2.length;rw[List.set_eq_of_length_le (by lia)]
   exact g1
 exact⟨B++C',k.sub (h1.app g3) ((aS.refl B).app (.bK g2))⟩
def e6w{b0:Stmt}{xb:List Stmt}(hN:X.N.Nodup)(hi:X.N[i]?=some x)(hk:X.env.kindOf x=some .local)(hS:∀e,gR (X.iX e) (b0::xb) (tS K m none g))(hm:(m[i]? == some true)=false:=by rfl):BE X K m (some x) (b0::xb) hp (some i) g:=by
 intro aa Z H s D e C dx l F A Q0 fl au n I y f k el ee w;unfold Ck at ee;dsimp only at ee;split at ee
 .rename_i f_
  obtain⟨⟨rF,aE⟩,q1,ee⟩:=dC.mp ee;cases ee;refine codeAny_handlers_suite_as (Wq (X:=X) f λh' ch lO lx f2=>?_)
  have I2:Inv X aa Z H { s with heap:=h',toks:=s.toks}:=I.left y lx lO;obtain⟨ia,qm,oe,vs,he,hc,hx,hd,_⟩:=f2;have I3:=I2.y7 y ia qm he;obtain⟨k2,x2⟩:=PF (u:=.Y oe (.own 0)) k qm;have hF:F e=none:=k.le.free qm;have rp:aw K (upd F e (.Y oe (.own 0))) [.ref e] [.exc C l]:=by
   refine .exc ?_ .nil;cases l with
   |none=>
    have el:dx=none:=el;exact⟨oe,iQ,hc,hx.trans el,vs,hd⟩
   |some nn=>
    obtain⟨d,rfl,ed⟩:=(show ∃d,dx=some d/\F d=some (.xd [("line",.int nn)]) from el);exact⟨oe,d,iQ,⟨hc,hx,vs,hd⟩,by rw[cK (λz=>by rw[z,hF] at ed;cases ed)];exact ed⟩
  obtain⟨k3,x3⟩:=k2.push (v:=.ref e) (o:=.Y (.exc C l)) (Av:=[]) (aI.refl _) (.Y rp .nil) .nil (λ_ m=>by cases m)
  obtain⟨B,k4,x4⟩:=OK.store (i:=i) k3 f_;have x5:=x2.trans (x3.trans x4);have SG:Kept m Z (Z.set i (some (.ref e))):=Kept.set hm;refine Ff I3 hN hi (.inl hk) (v:=.ref e) (u:=.ref e) rfl (λs3 I4=>?_) (.inr hk)
  have dn:Done K m none { D with nx:=λZ' H'=>D.nx (Z'.set i none) H',bk:=λZ' H'=>D.bk (Z'.set i none) H',ct:=λZ' H'=>D.ct (Z'.set i none) H'} (upd F e (.Y oe (.own 0))) (upd H e (.Y oe (.own 0))) B (Z.set i (some (.ref e))) rF aE:=by
   have go:∀{Z' H'},nv K (upd F e (.Y oe (.own 0))) (upd H e (.Y oe (.own 0))) B m (Z.set i (some (.ref e))) aE Z' H'->nv K F H A m Z (aE.set i none) (Z'.set i none) H':=λ{Z' H'} ⟨F',A',x',k',kp⟩=>by
    obtain⟨B2,k6,x6⟩:=OK.tX (τ:=[]) (Θ:=[]) (i:=i) k' rfl;exact⟨F',B2,x5.trans (x'.trans x6),k6,SG.trans (kp.trans (Kept.set hm))⟩
   cases rF with
   |nx=>exact λZ' H' q=>w _ H' (go q)
   |bk=>exact λZ' H' q=>w _ H' (go q)
   |ct=>exact λZ' H' q=>w _ H' (go q)
   |rt o=>
    intro v Z' H' ⟨F',A',x',k',kp⟩;obtain⟨B2,k6,x6⟩:=OK.tX (τ:=[some v]) (Θ:=[some o]) (i:=i) k' rfl;exact w v _ H' ⟨F',B2,x5.trans (x'.trans x6),k6,SG.trans (kp.trans (Kept.set hm))⟩
  refine wpAny_mono (hS (.ref e) aa s3 _ _ _ I4.iX ⟨_,_,_,rF,aE,k4,q1,dn⟩) (λff s4 q=>?_) λ_ _ z=>z.elim
  have qW:(X.env.scope.kind == .class || (X.env.scope.kind == .module&&X.env.locals != X.env.globals))=false:=by rw[I.ok.kind];rfl
  cases ff with
  |next=>
   obtain⟨Z',H',J,r⟩:=q;have J:=J.jF I.ok.hd;obtain⟨mm,hn,hl⟩:=id J.loc;exact wpAny_nameGoes_keeps hk hn qW λh5 v sI hs=>⟨_,_,J.u9 hN hi hk hn hl sI hs,r⟩
  |brk=>
   obtain⟨Z',H',J,r⟩:=q;have J:=J.jF I.ok.hd;obtain⟨mm,hn,hl⟩:=id J.loc;exact wpAny_nameGoes_keeps hk hn qW λh5 v sI hs=>⟨_,_,J.u9 hN hi hk hn hl sI hs,r⟩
  |cont=>
   obtain⟨Z',H',J,r⟩:=q;have J:=J.jF I.ok.hd;obtain⟨mm,hn,hl⟩:=id J.loc;exact wpAny_nameGoes_keeps hk hn qW λh5 v sI hs=>⟨_,_,J.u9 hN hi hk hn hl sI hs,r⟩
  |ret u=>
   obtain⟨v0,Z',H',J,rv,r⟩:=q;have J:=J.jF I.ok.hd;obtain⟨mm,hn,hl⟩:=id J.loc;exact wpAny_nameGoes_keeps hk hn qW λh5 v sI hs=>⟨v0,_,_,J.u9 hN hi hk hn hl sI hs,rv,r⟩
 .cases ee
def HB(X:Cx)(K:Frag)(m:List Bool)(hs:List ExceptHandler)(gs:List GH):Prop:=∀(aa:List (ah×Obj)) (Z:St) (H:Hp) (s:az) (D:Ends) (e C:ah) (dx:ai ah) (l:ai Int) (F:Hp) (A:List ah) (Q0:Gm) (fl:Fl) (au:Gm) (n:Nat),Inv X aa Z H s->xr X aa n->je n s.heap H e C dx->OK K F H Z Q0 A->qD F dx l->pU gs C l Q0=some (fl,au)->Done K m none D F H A Z fl au->
 wpAny (model X.prog X.w) X.A (handleBy (.ref e) X.env hs) (SP X aa D) X.xe s
def Zy:HB X K m [] []:=λ_ _ _ _ _ _ _ _ _ _ _ _ _ _ _ _ _ _ _ _ e _=>by cases e
def X1{np:Pos}{nm:ai Str}{b:List Stmt}{i:ai Nat}{wh:ah->ai Bool}{Cc:ah}(hm:X.mg x=some (.ref Cc))(hw:∀C b,wh C=some b->exmOne K (.ref C) (.ref Cc)=some b)(su:BE X K m nm b hp i g)(rest:HB X K m hs gs)(hg:Gl X x:=by rfl)(lT:(x == ("__debug__":Str))=false:=by decide)(hK:X.K=K:=by rfl):
  HB X K m (.ExceptHandler (some (.Name x np)) nm b hp::hs) ((i,wh,g)::gs):=by
 subst hK;intro aa Z H s D e C dx l F A Q0 fl au n I y f k el ee w;obtain⟨bb,q1,ee⟩:=dC.mp ee;dsimp only at q1 ee;refine wpAny_handleBy_cons (codeAny_handlers_test (FE (I.iX (e:=.ref e)) hg hm ?_ lT)) (by intro q;cases q)
 obtain⟨ia,qm,oe,vs,he,hc,hr⟩:=id f;have LT:Looks (model X.prog X.w) s.heap (typeOf (.ref e)) (.ref C):=by
  rw[<-hc];exact(Looks.ld he).andThen .now
 refine(exm_one I.rH LT (hw C bb q1)).here ?_;cases bb with
 |true=>exact su aa Z H s D e C dx l F A Q0 fl au n I y f k el (by simpa using ee) w
 |false=>exact rest aa Z H s D e C dx l F A Q0 fl au n I y f k el (by simpa using ee) w
theorem SP.gp{aa:List (ah×Obj)}{E:ao->az->Prop}{D:Ends}{f:Flow}{s':az}(h:SP (X.ib (X.pn++aa) E) [] D f s'):SP X aa D f s':=by
 cases f with
 |next=>obtain⟨Z',H',I,q⟩:=h;exact⟨Z',H',I.gp,q⟩
 |brk=>obtain⟨Z',H',I,q⟩:=h;exact⟨Z',H',I.gp,q⟩
 |cont=>obtain⟨Z',H',I,q⟩:=h;exact⟨Z',H',I.gp,q⟩
 |ret u=>obtain⟨v,Z',H',I,r,q⟩:=h;exact⟨v,Z',H',I.gp,r,q⟩
def Zz{body:List Stmt}{h0:ExceptHandler}{f:GS}{pos:Pos}(hb:∀(pn:List (ah×Obj)) (E:ao->az->Prop) (W:XW),kN (X.ib pn E) W->gR (X.ib pn E) body (tS K m (some W) f))(hh:HB X K m (h0::hs) gs)(kg:X.stack=X.env::X.outer:=by rfl)(hf:X.env.frame=some X.env.locals:=by rfl):
  PS X (.Try body (h0::hs) [] [] pos) (tS K m none (sk f gs)):=by
 intro aa s Z H D I t;obtain⟨F,A,Q0,fl,au,k,e,w⟩:=t;obtain⟨⟨rF,aE⟩,q,e⟩:=dC.mp e;refine wpAny_Try_except ?_;have hp:kN (X.ib (X.pn++aa) λe s₁=>wpAny (model X.prog X.w) X.A (noteFrame e X.env) (λ_ s₂=>wpAny (model X.prog X.w) X.A (setFlight e none) (λ_ s₃=>wpAny (model X.prog X.w) X.A (handleBy e X.env (h0::hs)) (SP X aa D) X.xe s₃) X.xe s₂) X.xe s₁)
   (λC dx Z' H'=>∃F' A' aE l fl au,OK K F' H' Z' aE A'/\qD F' dx l/\pU gs C l aE=some (fl,au)/\Done K m none D F' H' A' Z' fl au):=by
  intro ou Z' H1 s1 H' s' e C dx I1 c q;obtain⟨F',A',cq,l,G2,oJ,k2,el,e2,w2⟩:=q;have I':Inv X aa Z' H' s':=(c.inv I1).gp;have J:Inv X aa Z' H1 s1:=I1.gp;refine QQ (base:=X.base) (n:=s1.heap.objs.size) (by rw[<-kg];exact I.ok.frames) (by rw[<-kg];exact I'.stack) hf c.G3.lt (λa z=>I'.cg.fresh z) c.G3 λh' ch lO lx fl=>?_
  rw[<-kg] at lx;have I3:Inv X aa Z' H' { s' with heap:=h',toks:=s'.toks}:=I'.left J.Th lx lO;exact hh aa Z' H' _ D e C dx l F' A' cq G2 oJ _ I3 J.Th fl k2 el e2 w2
 refine wpAny_mono (hb _ _ _ hp [] s Z H D I.ib ⟨F,A,Q0,rF,aE,k,q,?_⟩) (λff s1 z=>?_) λe s1 z=>z
 .dsimp only at e;cases rF with
  |nx=>cases e;exact w
  |bk=>cases e;exact w
  |ct=>cases e;exact w
  |rt o=>
   dsimp only at e;unfold Done;dsimp only;unfold eE;cases hx:kh o with
   |none=>rw[hx] at e;cases e;exact w
   |some c=>
    rw[hx] at e;exact λdx Z' H' ⟨F',A',x,k',kp,el⟩=>⟨F',A',aE,c.2,fl,au,k',el,e,w.step x kp⟩
 .have z:=z.gp;cases ff with
  |next=>
   obtain⟨Z',H',J,r⟩:=z;exact qu aa s1 Z' H' D J r
  |brk=>exact z
  |cont=>exact z
  |ret u=>exact z
end
end L2
namespace L2
open PySem PySem.Spec PyProof.Rows
section
variable{K:FG}{F H:Hp}{Z:St}{Q0:Gm}{A:List ah}{C:ah}{ns:List Str}{ps:List O}{x:V}{i j:Nat}{c:O}
end
section
variable{X:Cx}{K:FG}{m:List Bool}{W:ai XW}{Ch:ah}{ns:List Str}{i j:Nat}{e o value:Expr}{f:Str}{pos pos' apos cU:Pos}{fe:GE}
end
section
variable{X:Cx}{K:FG}{m:List Bool}{W:ai XW}{Ch:ah}{ns:List Str}{i j:Nat}{e o value ei:Expr}{es:List Expr}{f name:Str}{pos pos' apos cU m7:Pos}{fe fv fi:GE}{fs:GA}{id:String}{r:V->List V->Hp->VK->Prop}{g:O->List O->ai (O×O)}
end
def Ld(f:GE):GE:=λQ0=>(f Q0).bind λp=>match p.1 with
 |.own o=>match kh o with
  |none=>some p
  |some _=>none
 |_=>none
section
variable{X:Cx}{K:FG}{W:XW}{Ch:ah}{ns:List Str}{i k n:Nat}{e o:Expr}{es:List Expr}{f:ah}{fd:jM}{ps:List Str}{m:Str}{pos apos p:Pos}{fs:GA}{M:GM}{fa:GE}
structure MethAt (K:FG) (C:ah) (m qual:Str) (st:Stmt) (f:ah) (fd:jM) (ps:List Str):Prop where
 fn:gL K m qual st f fd
 mt:Meth K C m f
 bd:Binds K fd ps []
def e6x(h:∀W,kN X W->PE X e (Ej K W fa)):PE X e (tG K (Ld fa)):=(h (λ_ _ _ _=>False) λ_ _ _ _ _ _ _ _ _ _ _ z=>z.elim).mono λZ H Q t=>by
 obtain⟨F,A,Q0,r,au,k,e,w⟩:=t;obtain⟨⟨r1,aE⟩,q,e⟩:=dC.mp e;cases r1 with
 |var _=>cases e
 |fld _ _=>cases e
 |own o=>
  dsimp only at e;cases hx:kh o with
  |some p=>rw[hx] at e;cases e
  |none=>
   rw[hx] at e;cases e;refine⟨F,A,Q0,o,_,k,q,?_⟩;unfold nu;rw[hx];exact λv H' ⟨F',A',x,k'⟩=>w v H' ⟨F',A',x,k',i9⟩
end
end L2
namespace L2
open PySem PySem.Spec PySem.W PySem.Calls PyProof.Rows
section
variable{X:Cx}{aa:List (ah×Obj)}{Z:St}{H:Hp}{s:az}{d:ah}{es:List (TK×V×V)}{ep:Nat}
end
variable{C:ah}{p:Pos}{es:List Expr}{w:ah->ai Bool}{cs:List ah}
section
variable{prog:eW}{w:df}{A:dD}{E:ao->az->Prop}{s:az}
end
section
variable{X:Cx}{K:Frag}
end
section
variable{prog:eW}{w:df}{A:dD}{E:ao->az->Prop}{s:az}{it d:ah}{kvs:List (Str×ao)}{ep:Nat}
end
section
variable{X:Cx}{K:Frag}
end
section
variable{K:Frag}{mg:Str->ai ao}{tab:List (Str×ah)}{L B0 fI:ah}
def cN.exm{C':ah}{bm Gd:List ao}{i i':ai ao}(G:cN K C bm i)(G':cN K C' Gd i')(h:(Value.ref C'::Gd).contains (.type "BaseException")=true):exmOne K (.ref C) (.ref C')=some ((Value.ref C::bm).contains (.ref C')):=by
 obtain⟨cd,c1,c2,c3,c4⟩:=G'.cls;unfold exmOne;rw[G'.sub,h,aT (by decide)]
 unfold kitCls;dsimp only;rw[aT (by rw[c1,c4];rfl)]
 exact G.sub _
def iC.xE(E:iC K mg tab L B0 fI){c:ah}(hc:(L::tab.map (·.2)).contains c=true)(h0:(c == B0)=false)(C:ah)(b:Bool)(h:L2.wE (L::tab.map (·.2)) c C=some b):exmOne K (.ref C) (.ref c)=some b:=by
 unfold L2.wE at h;split at h
 .rename_i hC
  cases h;obtain⟨⟨i,G⟩,I⟩:=E.one (C:=C) (by simpa using hC)
  obtain⟨⟨i',G'⟩,_⟩:=E.one (C:=c) (by simpa using hc)
  refine(G.exm G' rfl).trans (congrArg some ?_);have n0:c≠B0:=λz=>by rw[z] at h0;simp at h0
  by_cases z:C=c
  .subst z;simp
  .rw[show(C == c)=false from beq_false_of_ne z];simp[jl,Ne.symm z,n0]
 .cases h
def wA(es cs:List ah)(C:ah):ai Bool:=if es.contains C then some (cs.contains C) else none
def X2(hC:∀c,c∈(cs:List ah)->kitOne K (.ref C) (.ref c)=some (C == c)):kitAny K (.ref C) (cs.map .ref)=some (cs.contains C):=by
 induction cs with
 |nil=>rfl
 |cons c cs ih=>
  rw[c_];unfold kitAny;rw[hC c qz];cases e:(C == c) with
  |true=>rw[List.contains_cons,e];rfl
  |false=>
   simp only[List.contains_cons,e,Bool.false_or];exact ih λc m=>hC c (oZ _ m)
theorem iC.wA(E:iC K mg tab L B0 fI){cs:List ah}(hc:(cs.all λc=>(L::tab.map (·.2)).contains c && !(c == B0))=true)(C:ah)(b:Bool)(h:L2.wA (L::tab.map (·.2)) cs C=some b):(∃i,cN K C (.ref B0::jl) i)/\dS K C/\kitAny K (.ref C) (cs.map .ref)=some b:=by
 unfold L2.wA at h;split at h
 .rename_i hC
  cases h;obtain⟨⟨i,G⟩,I⟩:=E.one (C:=C) (by simpa using hC)
  refine⟨⟨i,G⟩,I,X2 λc m=>?_⟩
  have:=kI.mp hc c m;rw[m9] at this;exact(E.wE (c:=c) this.1 (by simpa using this.2) C (C == c) (by unfold L2.wE;rw[aT hC])).2.2
 .cases h
end
def Hv(vs:List V):TA:=λ_ H Q=>Q vs H
section
variable{X:Cx}{K:Frag}{B0:ah}
def Ra:PA X [] (Hv []):=mV
def rX{x:Str}{vs:List V}(hm:X.mg x=some (.ref C))(hr:PA X es (Hv vs))(hg:Gl X x:=by rfl)(hd:(x == ("__debug__":Str))=false:=by decide)(hs:starEach (.Name x p::es) X.env=(false,eval (.Name x p) X.env)::starEach es X.env:=by rfl):PA X (.Name x p::es) (Hv (.ref C::vs)):=
 (zF (Jt (v:=.ref C) hg hm rfl hd) hr hs)
def DX(K:Frag)(cs:List ah)(x:V)(H:Hp)(Q:VK):Prop:=∃a C l i b,x=.ref a/\j' H a C l/\cN K C (.ref B0::jl) i/\dS K C/\kitAny K (.ref C) (cs.map .ref)=some b/\∀q,H q=none->Q (.bl b) (upd H q (.tup (cs.map .ref)))
def X3(hw:∀C b,w C=some b->(∃i,cN K C (.ref B0::jl) i)/\dS K C/\kitAny K (.ref C) (cs.map .ref)=some b):cS K (Mg (DX (B0:=B0) K cs)) (eZ w):=by
 intro F H vs os o Q le eU e res;unfold eZ at e;split at e
 .rename_i C l
  obtain⟨x,B,rfl,h1⟩:=eU.one;obtain⟨b,q1,q2⟩:=j_.mp e;subst q2;obtain⟨⟨i,G⟩,E,kk⟩:=hw C b q1;have r:=o9 le h1;cases r with
  |flat z _=>cases z
  |@exc a _ _ _ _ hx _=>exact⟨_,rfl,a,C,l,i,b,rfl,hx,G,E,kk,λq hq=>res (.bl b) _ [] (l7 hq) (.Y (.flat rfl .nil) .nil) .nil (λ_ m=>by cases m)⟩
 .cases e
def j'.upd{H:Hp}{a C q:ah}{l:ai Int}{u:HO}(h:j' H a C l)(hq:H q=none):j' (upd H q u) a C l:=j'.mono (l7 hq) h
theorem N9:∀{cs:List ah} {us:List ao},Vals (cs.map .ref) us->us=cs.map .ref
 |[],_,.nil=>rfl
 |c::cs,_,.cons r t=>by cases r;rw[c_,N9 t]
def PQ{e:Expr}{pos tp:Pos}{x1:Nat}{fe:GE}(hw:∀C b,w C=some b->(∃i,cN K C (.ref B0::jl) i)/\dS K C/\kitAny K (.ref C) (cs.map .ref)=some b)(hm:X.mg "isinstance"=none)(he:PE X e (tG K fe))(hf:PA X es (Hv (cs.map .ref)))(hz:cs.length<=1000)(hg:Gl X "isinstance":=by rfl)
  (kg:starEach [e,.Tuple es x1 tp] X.env=(false,eval e X.env)::starEach [.Tuple es x1 tp] X.env:=by rfl) (pG:starEach [.Tuple es x1 tp] X.env=(false,eval (.Tuple es x1 tp) X.env)::starEach [] X.env:=by rfl) (iW:(backTo pos (starEach [.Tuple es x1 tp] X.env)).any (·.1)=false:=by rfl) (hK:X.K=K:=by rfl) :
  PE X (.Call (.Name "isinstance" p) [e,.Tuple es x1 tp] [] pos) (tG K (yl (eZ w) fe)):=by
 subst hK;have hc:cA X (.builtin "isinstance") (λxs H Q=>∃x q a C l i b,xs=[x,.ref q]/\x=.ref a/\H q=some (.tup (cs.map .ref))/\j' H a C l/\cN X.K C (.ref B0::jl) i/\dS X.K C/\kitAny X.K (.ref C) (cs.map .ref)=some b/\Q (.bl b) H):=by
  intro aa s Z H xs us Q I r h;obtain⟨x,q,a,C,l,i,b,rfl,rfl,hq,hx,G,E,e,qq⟩:=h;obtain⟨u,w',rfl,rx,ry⟩:=vals2 r;cases rx;cases ry;obtain⟨ox,od,J,_⟩:=OR I hx;obtain⟨cd,c1,c2,c3,c4⟩:=G.cls;obtain⟨aH,rv,⟨ot,h1,h2,n,h3⟩,_⟩:=I.tuple (gY.of hq);cases N9 rv;obtain⟨oc,odd,odt,s_⟩:=ot;dsimp only at h2 h3;subst h2;subst h3;refine kia_tup (OQ (K:=X.K) (od:=od) (ox:=ox) (by rw[G.sub];rfl) E.g E.n (E.Qk G od) (by have:=G.sub (.type "object");rw[show(Value.ref C::.ref B0::jl).contains (.type "object")=true from rfl] at this;exact this) (by unfold hasDictIn;rw[c1];exact c3)) I.rH J h1 e (λz=>nomatch z) λtk=>?_
  exact⟨.bl b,H,I.tok _,rfl,qq⟩
 refine(IP hc hg hm (by kernel_rfl) (zF he (zF (QN hf) mV pG) kg) (by decide) (by decide) kg iW).mono λZ H Q h=>?_
 refine(RM (X3 hw) h).mono λx H1 q=>?_
 obtain⟨a,C,l,i,b,rfl,hx,G,E,kk,qq⟩:=q;exact⟨by rw[bY,sizeLine_eq];lia,λpp hp=>⟨_,pp,a,C,l,i,b,rfl,rfl,iQ,hx.upd hp,G,E,kk,qq pp hp⟩⟩
end
end L2
namespace L2
open PySem PySem.Spec PyProof.Rows
section
variable{X:Cx}{K:FG}{fa fb fc:GE}{m:List Bool}{W:ai XW}{a b c:Expr}{pos:Pos}
end
variable{P:eW}{A:List ah}{Q:ai ao->az->Prop}{w:df}{n ep i:Nat}{ob:Obj}{xs:Array DictEntry}{K:FG}{tg l:Expr}{X:Cx}{tl:TE}{a:ah}{es:List (TK×V×V)}{g:TG}{H:Hp}{Z:St}{Q0:Gm}
section
variable{X:Cx}{K:FG}{pos:Pos}
def xv{x z:Str}(hg:Gl X x)(hm:∃t,X.mg x=some (.str z t))(hd:(x == ("__debug__":Str))=false:=by decide):PE X (.Name x pos) (tC (.str z)):=by
 obtain⟨t,h⟩:=hm;exact Jt hg h ⟨t,rfl⟩ hd
end
section
variable{X:Cx}{K:FG}
end
def dO{N P:List Str}{sc:Scope}(h1:sc.kind=.function:=by rfl)(h2:sc.isCoroutine=false:=by rfl)(h3:sc.isGenerator=false:=by rfl)(h4:N.Nodup:=by decide +kernel)(h5:N.take P.length=P:=by rfl)(h6:∀x∈P,sc.names.lookup x=some .local \/ sc.names.lookup x=some .cell:=by decide +kernel)(h7:∀y∈sc.names,y.2≠.free:=by decide +kernel):aL N P sc:=⟨h1,h2,h3,h4,h5,h6,h7⟩
def dj.le{k k':Nat}{A:PySem.Around}(h:dj k A)(e:k'<=k:=by decide):dj k' A:=h.mono e
section
variable{C Ch:ah}{ns:List Str}{Q0:Gm}
theorem e6y(f:GE):Ld f Q0=(f Q0).bind λp=>match p.1 with
 |.own o=>match kh o with
  |none=>some p
  |some _=>none
 |_=>none:=rfl
theorem Fp(f:GE):JI f Q0=(f Q0).bind λp=>match p.1 with
 |.own o=>match kh o with
  |some _=>some (.rt o,p.2)
  |none=>some (.nx,p.2)
 |_=>none:=rfl
theorem FR(fa:GE):B8 fa Q0=(fa Q0).bind λp=>match p.1 with
 |.own o=>match kh o with
  |none=>some (.rt o,p.2)
  |some _=>none
 |_=>none:=by first|rfl|(unfold B8;rfl)
theorem Rb(f:GS)(hs:List GH):sk f hs Q0=(f Q0).bind λp=>match p.1 with
 |.rt o=>match kh o with
  |some c=>pU hs c.1 c.2 p.2
  |none=>some (.rt o,p.2)
 |fl=>some (fl,p.2):=rfl
def X4(h:GH)(hs:List GH)(C:ah)(l:ai Int):pU (h::hs) C l Q0=(h.2.1 C).bind λb=>if b=true then Ck h.1 h.2.2 C l Q0 else pU hs C l Q0:=rfl
def U_(i:Nat)(g:GS)(C:ah)(l:ai Int):Ck (some i) g C l Q0=if i<Q0.length then(g (Q0.set i (some (.Y (.exc C l))))).bind λq=>some (q.1,q.2.set i none) else none:=rfl
def PR(C:ah)(l:ai Int):kh (.Y (.exc C l))=some (C,l):=rfl
def JK:kh (.Y .bh)=none:=rfl
end
section
variable{X:Cx}{K:FG}{fo f:GE}{fs:GA}{g:List O->ai O}{r:V->List V->Hp->VK->Prop}{o e:Expr}{es:List Expr}{name:Str}{Hf:String}{apos cU pos:Pos}
end
section
variable{P:eW}{w:df}{A:dD}{E:ao->az->Prop}{s:az}
end
section
variable{X:Cx}{K:FG}
end
section
variable{X:Cx}{aa:List (ah×Obj)}{Z:St}{H:Hp}{A:dD}{E:ao->az->Prop}{s:az}{d it:ah}{es:List (TK×V×V)}{ep i:Nat}
theorem OT{Q:ao->az->Prop}(I:Inv X aa Z H s)(hd:H d=some (.dG es ep))
  (hQ:Q (.ref s.heap.objs.size) { s with heap:=s.heap.push { cls:=.type "dict_keyiterator",data:=.fields #[.ref d,.int 0 0,.int es.length 0,.int ep 0]}}):wpAny (model X.prog X.w) A (pyIter (.ref d)) Q E s:=by
 obtain⟨_,z,ob,xs,g1,g5,g2,g3,g4⟩:=(show cC X.prog X.w H s.heap d (.dG es ep) from I.cg d _ hd);have hT:s.TypeIs (.ref d) "dict":=⟨ob,g1,g5.1⟩;have hl:xs.size=es.length:=by have:=Paired.length g3;simpa using this.symm
 refine wpAny_pyIter_slot hT F.slot_dict_iter (wpAny_call_entry F.slot_dict_iter hT F.entry_dict_iter ?_ (F.args_dict_iter_1 _));unfold Builtin.«dict.__iter__»;refine aK ?_;unfold Builtin.Dict.dictSlotNone;refine aK (wpAny_notOrdered_dict hT (show wpAny _ _ (pure (Value.ref d)) _ _ s from bW (show wpAny _ _ (Builtin.Dict.showsAll d >>= _) _ _ s from ?_)));unfold Builtin.Dict.showsAll;rw[aW (by rw[z];exact o5)]
 refine aK (bW (aK (wpAny_dictEntries g1 g2 (aK (wpAny_dictEpoch g1 g2 ?_)))));refine aK (wpAny_newObj_type (bW ⟨_,rfl,"dict_keyiterator",_,⟨_,oI _ rfl,rfl⟩,F.slot_dict_keyiterator_next.lookup,?_⟩));simpa[rawInt,hl] using hQ
theorem NA(g1:s.heap.get? d=some ob)(g2:ob.data=.dict xs ep)(hl:xs.size=n)(hit:s.heap.IsKeyIter it d i n ep)(lt':i<xs.size)
  (hQ:∀h',h'.IsKeyIter it d (i+1) n ep->Heap.SameBut it s.heap h'->Q (some xs[i].key) { s with heap:=h'}):wpAny (model P w) A (pyNext (.ref it)) Q E s:=by
 obtain⟨o,k1,k2,k3⟩:=id hit;unfold pyNext;refine aK (wpAny_attempt (wpAny_callSpecial?_slot (name:=Str.ofString "__next__") hit.typeIs F.slot_dict_keyiterator_next (wpAny_call_entry F.slot_dict_keyiterator_next hit.typeIs F.entry_dict_keyiterator_next (aK (bW (aK (aK ?_)))) (F.args_dict_keyiterator_next_1 _))))
 (first|refine aK (wpAny_typeNameOfWhole_keyiter hit.typeIs (bW ?_))|refine aK (wpAny_typeNameOf_keyiter hit.typeIs (bW ?_)));refine aK (wpAny_fieldsOf k1 k3 ?_)
 have yP:Builtin.Dict_items.ownsTuple "dict_keyiterator"=false:=by decide
 simp only[yP,uC,cX]
 (show wpAny _ _ (if(Value.ref d == Value.none)=true then _ else _) _ _ s);rw[aW (show ¬((Value.ref d == Value.none)=true) from o5)]
 refine aK (bW (aK (wpAny_dictEntries g1 g2 ?_)));rw[aW (by rw[hl];simp)]
 refine aK (bW (aK (wpAny_dictEpoch g1 g2 ?_)));rw[aW (by simp)]
 refine bW ?_;simp only[show ¬((i:Int)<0) from by lia,cX,Int.toNat_natCast,vJ lt']
 refine aK ?_
 (first|refine aK (wpAny_typeNameOfWhole_keyiter hit.typeIs (bW ?_))|refine aK (wpAny_typeNameOf_keyiter hit.typeIs (bW ?_)));refine aK (wpAny_isOneOf_keyiter hit.typeIs ?_)
 (show wpAny _ _ (setField (.ref it) 1 (rawInt ((i:Int)+1)) >>= _) _ _ s);refine aK (wpAny_setField k1 k3 (by simp) ?_)
 have Dr:(s.heap.update it (Obj.mapFields (·.setIfInBounds 1 (rawInt ((i:Int)+1))))).IsKeyIter it d (i+1) n ep:=
  ⟨_,rL _ k1 (Obj.isFreed_of_fields (Obj.data_mapFields k3 _)),(Obj.cls_mapFields ..).trans k2,by rw[Obj.data_mapFields k3];simp[rawInt]⟩
 refine aK (nk (aK (wpAny_isOneOf_keyiter (s:={ s with heap:=s.heap.update it (Obj.mapFields (·.setIfInBounds 1 (rawInt ((i:Int)+1))))}) Dr.typeIs ?_)))
 show wpAny _ _ (pure xs[i].key) _ _ _;exact bW (bW ⟨_,rfl,bW (hQ _ Dr (Heap.SameBut.update ..))⟩)
def Ud(I:Inv X aa Z H s)(hd:H d=some (.dG es ep))(hit:s.heap.IsKeyIter it d i es.length ep){e:TK×V×V}(hx:es[i]?=some e)
  (hQ:∀key h',RelV e.2.1 key->h'.IsKeyIter it d (i+1) es.length ep->Heap.SameBut it s.heap h'->Q (some key) { s with heap:=h'}):wpAny (model X.prog X.w) A (pyNext (.ref it)) Q E s:=by
 obtain⟨_,z,ob,xs,g1,g5,g2,g3,g4⟩:=(show cC X.prog X.w H s.heap d (.dG es ep) from I.cg d _ hd);have hl:xs.size=es.length:=by have:=Paired.length g3;simpa using this.symm
 obtain⟨x,x1,x2⟩:=BG i g3 hx;have lt':i<xs.size:=by
  have:=(jX.mp hx).1;lia
 have ex:xs[i]=x:=by
  have:xs[i]?=some x:=by rw[<-Bp];exact x1
  rw[vJ lt'] at this;exact Option.some.inj this
 exact NA g1 g2 hl hit lt' λh' LN sb=>hQ _ h' (by rw[ex];exact x2.2.1) LN sb
theorem N_(hh:A.handled=none)(g1:s.heap.get? d=some ob)(g2:ob.data=.dict xs ep)(hl:xs.size=n)(hit:s.heap.IsKeyIter it d i n ep)(hx:n<=i)
  (hQ:∀h',Heap.ExtBut it s.heap h'->Q none { s with heap:=h'}):wpAny (model P w) A (pyNext (.ref it)) Q E s:=by
 obtain⟨o,k1,k2,k3⟩:=id hit;unfold pyNext;refine aK (wpAny_attempt (wpAny_callSpecial?_slot (name:=Str.ofString "__next__") hit.typeIs F.slot_dict_keyiterator_next (wpAny_call_entry F.slot_dict_keyiterator_next hit.typeIs F.entry_dict_keyiterator_next (aK (bW (aK (aK ?_)))) (F.args_dict_keyiterator_next_1 _))))
 (first|refine aK (wpAny_typeNameOfWhole_keyiter hit.typeIs (bW ?_))|refine aK (wpAny_typeNameOf_keyiter hit.typeIs (bW ?_)));refine aK (wpAny_fieldsOf k1 k3 ?_)
 have yP:Builtin.Dict_items.ownsTuple "dict_keyiterator"=false:=by decide
 simp only[yP,uC,cX]
 (show wpAny _ _ (if(Value.ref d == Value.none)=true then _ else _) _ _ s);rw[aW (show ¬((Value.ref d == Value.none)=true) from o5)]
 refine aK (bW (aK (wpAny_dictEntries g1 g2 ?_)));rw[aW (by rw[hl];simp)]
 refine aK (bW (aK (wpAny_dictEpoch g1 g2 ?_)));rw[aW (by simp)]
 refine bW ?_;have hge:xs.size<=i:=by lia
 simp only[show ¬((i:Int)<0) from by lia,cX,Int.toNat_natCast,Array.getElem?_eq_none hge]
 refine aK ?_
 (first|refine aK (wpAny_typeNameOfWhole_keyiter hit.typeIs (bW ?_))|refine aK (wpAny_typeNameOf_keyiter hit.typeIs (bW ?_)));(show wpAny _ _ (setField (.ref it) 0 .none >>= _) _ _ s);refine aK (wpAny_setField k1 k3 (by simp) ?_)
 (show wpAny _ _ (newExc (.type "StopIteration") [] >>= _) _ _ _);refine aK ?_
 simp only[newExc,newTuple];refine aK (wpAny_newObj_type (aK (m:=firstArgMember _ _) (wpAny_of_eq (a:=Value.none) (by first|rfl|(simp only[firstArgMember];rfl)) (wpAny_newObj_type ?_ (by size_fits)))) (by size_fits))
 simp only[raiseNew];refine aK (wpAny_handled ?_);rw[show A.in1.handled=none from hh]
 (refine aK (bW (wpAny_throw ?_)));refine aK (wpAny_isInstance (T:="StopIteration") (b:=true) ⟨_,oI _ rfl,rfl⟩ isSubtype_stop ?_)
 exact bW (hQ _ (((Heap.SameBut.update ..).extBut.push _).push _))
def U'(hh:A.handled=none)(I:Inv X aa Z H s)(hd:H d=some (.dG es ep))(hit:s.heap.IsKeyIter it d i es.length ep)(hx:es.length<=i)
  (hQ:∀h',Heap.ExtBut it s.heap h'->Q none { s with heap:=h'}):wpAny (model X.prog X.w) A (pyNext (.ref it)) Q E s:=by
 obtain⟨_,z,ob,xs,g1,g5,g2,g3,g4⟩:=(show cC X.prog X.w H s.heap d (.dG es ep) from I.cg d _ hd);exact N_ hh g1 g2 (by have:=Paired.length g3;simpa using this.symm) hit hx hQ
end
def xl(a:ah)(n ep:Nat):It:=
 ⟨λi H=>∃es,H a=some (.dG es ep)/\es.length=n/\i<n,λi H x H'=>H'=H/\∀es,H a=some (.dG es ep)->∃e,es[i]?=some e/\e.2.1=x,λi H=>∃es,H a=some (.dG es ep)/\es.length=n/\n<=i⟩
def Va(a it:ah)(n ep:Nat):Turn P w K tg (xl a n ep) [it] it (λi h=>h.IsKeyIter it a i n ep) where
 mem:=by simp
 obj:=λi h st b hb=>by
  have e:b=it:=by simpa using hb
  subst e;obtain⟨o,e,c,d⟩:=st;exact⟨o,e,λv z=>by rw[d] at z;cases z⟩
 keep:=λi h h' st k=>st.at λo e=>k it (by simp) o e
 item:=by
  intro X hP hw hK hc i aa s Z H E I hf st hg;subst hP hw hK;obtain⟨es,hd,hl,hi⟩:=hg;subst hl;obtain⟨f0,f1,f2,f3,f4,f5⟩:=hf it (by simp)
  refine Ud I hd st (e:=es[i]) (km hi) λkey h' rk qx sb=>?_
  have I1:Inv X aa Z H { s with heap:=h'}:=I.turned (t':=s.toks) (λb o hb e=>(sb.2 b hb).trans e) f0 f1 f3 f4 f5
  obtain⟨o,e,c,d⟩:=id qx;refine⟨key,rfl,Cy (s:={ s with heap:=h'}) e c d (by decide) ⟨es[i].2.1,H,I1,rk,⟨rfl,λys hy=>?_⟩,qx,λb hb=>(hf b hb).1⟩⟩
  rw[hd] at hy;cases hy;exact⟨_,km hi,rfl⟩
 done:=by
  intro X hP hw hK hc i aa s Z H E I hf st hg;subst hP hw hK;obtain⟨es,hd,hl,hi⟩:=hg;subst hl;obtain⟨f0,f1,f2,f3,f4,f5⟩:=hf it (by simp)
  exact U' (I.ok.hd hc) I hd st hi λh' eb=>⟨rfl,I.turned (t':=s.toks) (λb o hb e=>eb b o hb e) f0 f1 f3 f4 f5⟩
 self:=λ_ _ _ _ _ st h=>wpAny_pyIter_keyiter st h
def sQ(tl:TE):TI:=λZ H R=>tl Z H λx H1=>∃a es ep,x=.ref a/\H1 a=some (.dG es ep)/\R (xl a es.length ep) H1
def PU(hl:PE X l tl):PI X tg l (sQ tl):=by
 intro aa s Z H R I h;refine cR (hl aa s Z H _ I h) λv s1 hh=>?_
 obtain⟨x,H1,I1,r1,q1⟩:=hh;obtain⟨a,es,ep,e,hd,q⟩:=q1;subst e;cases r1;refine OT I1 hd ?_;refine⟨s1.heap.objs.size,[s1.heap.objs.size],_,_,H1,rfl,I1.kept (t':=s1.toks) λb o e=>iP _ e,Va a _ _ _,⟨_,oI _ rfl,rfl,rfl⟩,λb hb=>?_,q⟩
 have e:b=s1.heap.objs.size:=by simpa using hb
 subst e;exact I1.qV (c7 _) (I1.cg.fresh (c7 _))
def e6z{w1 w2:TI}(h1:PI X tg l w1)(h2:PI X tg l w2):PI X tg l (λZ H R=>w1 Z H R\/w2 Z H R):=by
 intro aa s Z H R I h;rcases h with h|h
 .exact h1 aa s Z H R I h
 .exact h2 aa s Z H R I h
def Vb{tt:TT}{te:TE}{τ:St}{Fin:List V->Hp->Prop}(Pv:Nat->St->List V->Hp->Prop)(h0:Pv 0 τ [] H)(hl:∀i τ aM H,i<=es.length->Pv i τ aM H->H a=some (.dG es ep))
  (hs:∀i e τ aM H,es[i]?=some e->Pv i τ aM H->g e.2.1 τ H λτ2 H2=>tt τ2 H2 λb H3=>if b=true then te τ2 H3 λv H4=>aM.length<sizeLine/\Pv (i+1) τ2 (aM++[v]) H4 else Pv (i+1) τ2 aM H3)
  (hd:∀τ aM H,Pv es.length τ aM H->Fin aM H):l4 (xl a es.length ep) g tt te τ H Fin:=by
 refine⟨es.length,Pv,h0,λi τ aM H hi p=>?_⟩
 have q:=hl i τ aM H hi p;by_cases f_:i<es.length
 .refine .inr ⟨f_,⟨es,q,rfl,f_⟩,λx H' y=>?_⟩
  obtain⟨e,y⟩:=y;subst e;obtain⟨e,e1,e2⟩:=y es q;subst e2;exact hs i e τ aM _ e1 p
 .have e:i=es.length:=by lia
  subst e;exact .inl ⟨⟨es,q,rfl,c7 _⟩,hd τ aM H p⟩
def tT(it:GE):Gm->ai (List D×Gm):=λQ0=>(ax it Q0).bind λp=>match p.1 with
 |.own (.Y (.lst ds))=>some (ds,p.2)
 |.own (.Y (.aF kvs))=>some (kvs.map (·.1.d),p.2)
 |_=>none
def Wr{fa:GE}{aX:List Nat}:j5 K aX (λZ H R=>og K (tG K (ax fa)) Z H R\/sQ (tG K (ax fa)) Z H R) (tT fa):=by
 intro Z F H A Q0 aE ds R k e w;unfold tT at e;obtain⟨⟨r,cq⟩,q,e'⟩:=dC.mp e;dsimp only at e';split at e'
 .cases e';exact .inl (uQ Z F H A Q0 aE ds R k (by unfold jG;rw[q];rfl) w)
 .rename_i kvs
  cases e';refine .inr ⟨F,A,Q0,_,_,k,q,λv H1 pp=>?_⟩
  obtain⟨F1,A1,x,k1,_⟩:=pp;obtain⟨B,C,h1,h2,h3⟩:=aj.one (Z:=Z) k1.os;have rp:=rO h1;subst h3;obtain⟨k2,x2⟩:=k1.sub h2 (.bK (oG _ _));cases rp with
  |flat z _=>cases z
  |@aF a ws _ ep _ _ hd hk rk ri _=>
   refine⟨a,ws,ep,rfl,k1.le _ _ hd,w (xl a ws.length ep) H1 F1 C (x.trans x2) k2 λg tt te τ Fin Pv h0 hF hs hdn=>?_⟩
   have hl:ws.length=(kvs.map (·.1.d)).length:=by have:=rk.length;simpa using this
   refine Vb (es:=ws) Pv h0 (λi τ aM H hi p=>?_) (λi e τ aM H hx p=>?_) (λτ aM H p=>hdn τ aM H (by rw[<-hl];exact p))
   .obtain⟨⟨F',s1,s2⟩,_⟩:=hF i τ aM H p;exact(s1.trans s2) _ _ hd
   .have hi:i<(kvs.map (·.1.d)).length:=by
     have:=(jX.mp hx).1;lia
    obtain⟨x2,sP,rx⟩:=rk.get (i:=i) (d:=(kvs.map (·.1.d))[i]) (km hi)
    rw[lC,hx] at sP;cases sP;exact hs i _ e.2.1 τ aM H H (PH (km hi)) (.inl ⟨rfl,λF' s=>rx.mono s⟩) p
 .cases e'
def X5(K:FG)(hl:PE X l tl)(hK:X.K=K:=by rfl):PI X tg l (λZ H R=>og K tl Z H R\/sQ tl Z H R):=e6z (uO K hl hK) (PU hl)
theorem X6(it:GE)(Q0:Gm):tT it Q0=(ax it Q0).bind λp=>match p.1 with
 |.own (.Y (.lst ds))=>some (ds,p.2)
 |.own (.Y (.aF kvs))=>some (kvs.map (·.1.d),p.2)
 |_=>none:=rfl
section
variable{X:Cx}{K:FG}
def Ws(K:FG)(hK:X.K=K:=by rfl):gM X (binaryOp .Add) (tJ K):=hK ▸ Xk
def oi:List O->ai O
 |[a,b]=>(tW a).bind λxs=>(tW b).bind λys=>if xs≠[]/\ys≠[]/\xs.length+ys.length<=1000000 then some (.tup ((xs++ys).map .Y)) else none
 |_=>none
def X7:cS K (mY (tJ K)) oi:=by
 intro F H vs os o Q le eU e res;unfold oi at e;split at e
 .rename_i a b
  obtain⟨x,y,B,C,rfl,h1,h2⟩:=eU.two;obtain⟨xs,q1,e⟩:=dC.mp e;obtain⟨ys,q2,e⟩:=dC.mp e;split at e
  .rename_i hh
   cases e;obtain⟨a1,Bi,rfl,s1,r1⟩:=FH le h1 q1;obtain⟨a2,xh,rfl,s2,r2⟩:=FH le h2 q2;have n1:Bi≠[]:=λz=>hh.1 (by subst z;cases xs with|nil=>rfl|cons _ _=>have:=r1.length;simp at this)
   have n2:xh≠[]:=λz=>hh.2.1 (by subst z;cases ys with|nil=>rfl|cons _ _=>have:=r2.length;simp at this)
   exact⟨_,_,rfl,a1,a2,Bi,xh,rfl,rfl,s1,s2,n1,ml (by rw[r1.length,r2.length];exact hh.2.2),λz=>b_ z n2,λ_ p hp=>res.tup (r1.append r2) hp⟩
  .cases e
 .cases e
def X8(xs:List D)(ys:List D):oi [.Y (.tup xs),.Y (.tup ys)]=if xs≠[]/\ys≠[]/\xs.length+ys.length<=1000000 then some (.tup ((xs++ys).map .Y)) else none:=rfl
end
section
variable{K:FG}{F H:Hp}
theorem Ia{k:TK}{c:O}:∀{ws:List (TK×V×V)} {kvs:List (TK×O)} {A:List ah},ws.map (·.1)=kvs.map (·.1)->aj K F H (ws.map λp=>some p.2.2) (kvs.map λp=>some p.2) A->iO kvs k=some c->
  ∃v Ac B,jH ws k=some v/\aj K F H [some v] [some c] Ac/\A.Perm (Ac++B)/\
   ∀F' H' c' A',aI F F'->(∀a∈B,∀u,H a=some u->H' a=some u)->aj K F' H' [some v] [some c'] A'->∃D,aj K F' H' (ws.map λp=>some p.2.2) ((cP kvs k c').map λp=>some p.2) D/\aS D (A'++B)/\(cP kvs k c').map (·.1)=kvs.map (·.1)
 |[],[],A,_,_,e=>by cases e
 |w::ws,p::kvs,A,hk,h,e=>by
  rw[c_,c_] at hk;injection hk with h1 h2;obtain⟨B1,B2,g1,g2,rfl⟩:=aj.one h;unfold iO at e;rw[qB] at e;unfold jH;rw[qB,h1];by_cases q:p.1=k
  .rw[jt q] at e ⊢;dsimp only at e ⊢;cases e;refine⟨w.2.2,B1,B2,rfl,g1,.refl _,λF' H' c' A' sf kp w'=>⟨A'++B2,?_,aS.refl _,?_⟩⟩
   .unfold cP;rw[aT q];exact aj.app (τ:=[some w.2.2]) (Θ:=[some c']) w' (g2.keep sf kp)
   .unfold cP;rw[aT q];rfl
  .rw[jc q] at e ⊢;dsimp only at e ⊢;obtain⟨v,Ac,B,j1,j2,j3,j4⟩:=Ia (k:=k) (c:=c) h2 g2 e;refine⟨v,Ac,B1++B,j1,j2,?_,λF' H' c' A' sf kp w'=>?_⟩
   .refine(j3.append_left B1).trans ?_;rw[<-ie,<-ie];exact qA.append_right _
   .obtain⟨D,z1,z2,z3⟩:=j4 F' H' c' A' sf (λa m=>kp a (iB _ m)) w'
    refine⟨B1++D,?_,?_,?_⟩
    .unfold cP;rw[aW q];exact aj.app (τ:=[some w.2.2]) (Θ:=[some p.2]) (g1.keep sf λa m=>kp a (jb _ m)) z1
    .refine((aS.refl B1).app z2).trans (.bX ?_);rw[<-ie,<-ie];exact qA.append_right _
    .unfold cP;rw[aW q,c_,z3];rfl
 |[],_::_,_,h,_,_=>by simp at h
 |_::_,[],_,h,_,_=>by simp at h
def nest{kvs inner:List (TK×O)}{d1:D}{k1:TK}{y1:V}(k:OK K F H Z Q0 A)(ho:Q0[i]?=some (some (.aF kvs)))(e1:cI d1=some k1)(r1:aw K F [y1] [d1])(ev:iO kvs k1=some (.aF inner)):
  ∃a b,Z[i]?=some (some (.ref a))/\jv K H a y1 (some (.ref b))/\
   (∀(d2:D) (k2:TK) (y2:V) (n:Int),cI d2=some k2->aw K F [y2] [d2]->iO inner k2=some (.Y (.int n))->jv K H b y2 (some (.int n)))/\
   ∀(d2:D) (k2:TK) (y2 v:V) (d:D),cI d2=some k2->aw K F [y2] [d2]->aw K F [v] [d]->inner.length<1000000->∃H4 A',uK K H b y2 v H4/\OK K F H4 Z (Q0.set i (some (.aF (cP kvs k1 (.aF (cP inner k2 (.Y d))))))) A'/\Ext F H A F H4 A':=by
 obtain⟨x,Ai,C,g1,g2,g3,g4⟩:=k.os.take ho;have nd:(Ai++C).Nodup:=g4.nodup_iff.mp k.nd;have fr:∀a∈Ai++C,F a=none:=λa m=>k.fr a (g4.mem_iff.mpr m)
 obtain⟨n1,n2,n3⟩:=lD.mp nd;obtain⟨a,ws,ep,Ap,rfl,rfl,hl,hk,rk,ch⟩:=JB g2
 .obtain⟨na,nAp⟩:=jr.mp n1;obtain⟨v1,Ac,B1,j1,j2,j3,j4⟩:=Ia hk ch ev;have yG:(Ac++B1).Nodup:=j3.nodup_iff.mp nAp;obtain⟨m1,m2,m3⟩:=lD.mp yG;obtain⟨b,wi,GY,Aq,rfl,rfl,Ly,Ds,Mh,Qj⟩:=JB j2
  .obtain⟨nb,nAq⟩:=jr.mp m1;have Hg:∀z,z∈b::Aq->z∈Ap:=λz m=>j3.mem_iff.mpr (jb _ m)
   have RJ:=nF e1;refine⟨a,b,g1,⟨ws,ep,k1,hl,by rw[xX hk];exact rk.mono k.le,by rw[RJ.1];exact r1.mono k.le,RJ.2,j1.symm⟩,λd2 k2 y2 n e2 r2 ev2=>?_,λd2 k2 y2 v d e2 r2 rv hz=>?_⟩
   .have Al:=nF e2;obtain⟨v2,Ad,B3,z1,z2,_⟩:=Ia Ds Qj ev2;obtain⟨rfl,_⟩:=t_ z2;exact⟨wi,GY,k2,Ly,by rw[xX Ds];exact Mh.mono k.le,by rw[Al.1];exact r2.mono k.le,Al.2,z1.symm⟩
   .have Al:=nF e2;have hlen:wi.length=inner.length:=by have:=congrArg List.length Ds;simpa using this
    obtain⟨E,p1,p2,p3,p4⟩:=IY (k:=k2) (y:=y2) (aj.Y rv .nil) (by rw[Al.1];exact r2) Ds Mh Qj
    rw[ig] at p2;have nbE:b∉E:=λm=>nb (p2.mem b m)
    obtain⟨H4,wD⟩:∃H4,upd H b (.dG (hU wi k2 y2 v) (tH wi k2 GY))=H4:=⟨_,rfl⟩;have hb4:H4 b=some (.dG (hU wi k2 y2 v) (tH wi k2 GY)):=by rw[<-wD];exact iQ
    have Ha:∀z,z≠b->H4 z=H z:=λz q=>by rw[<-wD,cK q]
    have hd4:∀z,H z≠none->H4 z≠none:=λz h=>by rw[<-wD];exact BY z h
    have yB:aj K F H4 [some (.ref b)] [some (.aF (cP inner k2 (.Y d)))] (b::E++[]):=
     .aF hb4 p3 p4 (p1.keep (aI.refl _) λz m u e=>by rw[Ha z λq=>nbE (by rw[<-q];exact m)];exact e) .nil
    obtain⟨D,q1,q2,q3⟩:=j4 F H4 (.aF (cP inner k2 (.Y d))) (b::E++[]) (aI.refl _) (λz m u e=>by
     rw[Ha z λq=>m3 b (qz ..) z m q.symm];exact e) yB
    rw[j9] at q2;have ab:a≠b:=λq=>na (by rw[q];exact Hg b (qz ..))
    have sD:aS D Ap:=(q2.trans ((((aS.refl [b]).app p2:aS ([b]++E) ([b]++Aq))).app (aS.refl B1))).trans (.bX j3.symm);have ha4:H4 a=some (.dG ws ep):=by rw[Ha a ab];exact hl
    have outer:aj K F H4 [some (.ref a)] [some (.aF (cP kvs k1 (.aF (cP inner k2 (.Y d)))))] (a::D++[]):=by
     refine .aF ha4 (by rw[q3];exact hk) ?_ q1 .nil
     have em:(cP kvs k1 (.aF (cP inner k2 (.Y d)))).map (·.1.d)=kvs.map (·.1.d):=by
      rw[show(λx:TK×O=>x.1.d)=TK.d∘(λx:TK×O=>x.1) from rfl,<-oH,q3,oH]
     rw[em];exact rk
    rw[j9] at outer;have nbC:b∉C:=λm=>n3 b (oZ _ (Hg b (qz ..))) b m rfl
    have Dc:aj K F H4 Z (Q0.set i none) C:=g3.keep (aI.refl _) λz m u e=>by rw[Ha z λq=>nbC (by rw[<-q];exact m)];exact e
    have hi:i<Q0.length:=(jX.mp ho).1;obtain⟨G,w1,C2,w2,w3⟩:=aj.put outer i Dc (by rw[HH];exact hi)
    rw[xA g1,MR] at w1;have sG:aS G A:=((aS.bX w2).trans (((aS.refl [a]).app sD:aS ([a]++D) ([a]++Ap)).app (.bK w3))).trans (.bX g4.symm);refine⟨H4,G,⟨wi,GY,k2,Ly,by rw[xX Ds];exact Mh.mono k.le,by rw[Al.1];exact r2.mono k.le,Al.2,iA (by lia:wi.length<1000000) (by decide),wD.symm⟩,⟨λz u e=>?_,w1,sG.nodup k.nd,λz m=>k.fr z (sG.mem z m)⟩,aI.refl _,λz u e nz=>?_,λz h=>?_,λz h=>.inl h,λz m=>.inl (sG.mem z m),by rw[<-wD];exact lZ.upd λC dx fs q=>by rw[Ly] at q;cases q⟩
    .rw[<-wD,cK]
     .exact k.le z u e
     .intro q;rw[q,fr b (jb _ (oZ _ (Hg b (qz ..))))] at e;cases e
    .rw[<-wD,cK]
     .exact e
     .intro q;exact nz (by rw[q];exact g4.mem_iff.mpr (jb _ (oZ _ (Hg b (qz ..)))))
    .rw[<-wD];exact BY z h
end
noncomputable def sV(i:Nat):Gm->ai D:=λQ0=>match Q0[i]? with|some (some (.Y d))=>some d|_=>none
def sC(d:D):Gm->ai D:=λ_=>some d
def nE(K:FG)(te:TE)(f:Gm->ai D):Prop:=∀(F H:Hp) (Z:St) (Q0:Gm) (A:List ah) (d:D) (Q:VK),OK K F H Z Q0 A->f Q0=some d->(∀v,aw K F [v] [d]->Q v H)->te Z H Q
def uV:nE K (ra i) (sV i):=by
 intro F H Z Q0 A d Q k e q;unfold sV at e;split at e
 .rename_i d' h
  cases e;obtain⟨v,Ai,B,g1,g2,_⟩:=k.os.take h;exact⟨v,g1,q v (rO g2)⟩
 .cases e
def K1{d:D}{v:V}(h:nI d=some v):nE K (tC v) (sC d):=by
 intro F H Z Q0 A d' Q k e q;cases e;exact q v (.flat h .nil)
def uk(i:Nat)(f1 f2 fv:Gm->ai D):GS:=λQ0=>(fv Q0).bind λv=>(f1 Q0).bind λd1=>(cI d1).bind λk1=>(f2 Q0).bind λd2=>(cI d2).bind λk2=>match Q0[i]? with
 |some (some (.aF kvs))=>match iO kvs k1 with
  |some (.aF inner)=>if inner.length<1000000 then some (.nx,Q0.set i (some (.aF (cP kvs k1 (.aF (cP inner k2 (.Y v))))))) else none
  |_=>none
 |_=>none
def um(op:Int->Int->Int)(i:Nat)(f1 f2 fv:Gm->ai D):GS:=λQ0=>(f1 Q0).bind λd1=>(cI d1).bind λk1=>(f2 Q0).bind λd2=>(cI d2).bind λk2=>match Q0[i]?,fv Q0 with
 |some (some (.aF kvs)),some (.int j)=>match iO kvs k1 with
  |some (.aF inner)=>match iO inner k2 with
   |some (.Y (.int n))=>if inner.length<1000000 then some (.nx,Q0.set i (some (.aF (cP kvs k1 (.aF (cP inner k2 (.Y (.int (op n j))))))))) else none
   |_=>none
  |_=>none
 |_,_=>none
section
variable{X:Cx}{K:FG}{m:List Bool}{W:ai XW}{e o e1 e2:Expr}{t1 t2 tv:TE}{f1 f2 fv:Gm->ai D}{i:Nat}{pos pos' p1:Pos}
def PV(hv:PE X e tv)(sv:nE K tv fv)(ho:PE X o (ra i))(h1:PE X e1 t1)(s1:nE K t1 f1)(h2:PE X e2 t2)(s2:nE K t2 f2)(hu:X.A.units+41<cLine)(hp:BR e1:=by exact λ_ _=>rfl)
  (ha:∀v,assign (.Subscript (.Subscript o e1 p1) e2 pos') X.env v=(do
   let ov <-holding [v] (eval (.Subscript o e1 p1) X.env)
   let iv <-holding [v,ov] (eval e2 X.env)
   standAt pos'
   holding [v,ov,iv] (setItem ov iv v)
   release [v,ov,iv] []):=by intro _;rfl)
  (hs:swapsWithSole [.Subscript (.Subscript o e1 p1) e2 pos'] e pos.line X.env=pure false:=by rfl) (hw:swappedStores [.Subscript (.Subscript o e1 p1) e2 pos'] e X.env=pure none:=by rfl)
  (hn:(assignEach [.Subscript (.Subscript o e1 p1) e2 pos'] X.env).map (·.2)=[assign (.Subscript (.Subscript o e1 p1) e2 pos') X.env]:=by rfl) (hK:X.K=K:=by rfl):PS X (.Assign [.Subscript (.Subscript o e1 p1) e2 pos'] e pos) (tS K m W (uk i f1 f2 fv)):=by
 subst hK;refine(J0 hv (QJ (Kr (K0 X.K hu) ho h1 hp) h2 (Kw hu) ha) hs hw hn).mono λD Z H t=>?_
 obtain⟨F,A,Q0,fl,au,k,e,w⟩:=t;unfold uk at e;obtain⟨v,q1,e⟩:=dC.mp e;obtain⟨d1,q2,e⟩:=dC.mp e;obtain⟨k1,q3,e⟩:=dC.mp e;obtain⟨d2,q4,e⟩:=dC.mp e;obtain⟨k2,q5,e⟩:=dC.mp e;split at e
 .rename_i kvs hi
  split at e
  .rename_i inner wG
   split at e
   .rename_i hz
    cases e;refine sv F H Z Q0 A v _ k q1 λvv rv=>?_
    obtain⟨x,Ax,Bx,gx,_⟩:=k.os.take hi;refine⟨x,gx,s1 F H Z Q0 A d1 _ k q2 λy1 r1=>?_⟩
    obtain⟨a,b,n1,n2,n3,n4⟩:=nest k hi q3 r1 wG;rw[gx] at n1;cases n1;refine .inr (.inr (.inr ⟨a,_,rfl,n2,?_⟩));refine s2 F H Z Q0 A d2 _ k q4 λy2 r2=>?_
    obtain⟨H4,A',x1,x2,x3⟩:=n4 d2 k2 y2 vv v q5 r2 rv hz;exact .inr ⟨b,H4,rfl,x1,w Z H4 ⟨F,A',x3,x2,Kept.refl⟩⟩
   .cases e
  .cases e
 .cases e
def Wt(hu:X.A.units+41<cLine):BA X (λo i H Q=>∃a v,o=.ref a/\jv X.K H a i (some v)/\Q v H):=by
 intro aa s Z H o i ov iv Q I ro ri h;obtain⟨a,v,rfl,g,q⟩:=h;cases ro;exact N4 (by lia) I g ri λw' s' I' r'=>⟨v,H,I',r',q⟩
def PX{op:Operator}{g:Int->Int->Int}(LF:zf X op (Hi g))(ho:PE X o (ra i))(h1:PE X e1 t1)(s1:nE K t1 f1)(h2:PE X e2 t2)(s2:nE K t2 f2)(hv:PE X e tv)(sv:nE K tv fv)(hu:X.A.units+41<cLine)(hp:BR e1:=by exact λ_ _=>rfl)
  (ha:∀ov iv new,augStore e2 ov iv new=(do holding [new,ov,iv] (setItem ov iv new);release [new,ov,iv] [];pure .next):=by intros;rfl) (hK:X.K=K:=by rfl):PS X (.AugAssign (.Subscript (.Subscript o e1 p1) e2 pos') op e pos) (tS K m W (um g i f1 f2 fv)):=by
 subst hK;refine(Xd (Kr (K0 X.K hu) ho h1 hp) h2 (Wt hu) hv LF (Kw hu) ha).mono λD Z H t=>?_
 obtain⟨F,A,Q0,fl,au,k,e,w⟩:=t;unfold um at e;obtain⟨d1,q2,e⟩:=dC.mp e;obtain⟨k1,q3,e⟩:=dC.mp e;obtain⟨d2,q4,e⟩:=dC.mp e;obtain⟨k2,q5,e⟩:=dC.mp e;split at e
 .rename_i kvs j hi q1
  split at e
  .rename_i inner wG
   split at e
   .rename_i n hn
    split at e
    .rename_i hz
     cases e;obtain⟨x,Ax,Bx,gx,_⟩:=k.os.take hi;refine⟨x,gx,s1 F H Z Q0 A d1 _ k q2 λy1 r1=>?_⟩
     obtain⟨a,b,n1,n2,n3,n4⟩:=nest k hi q3 r1 wG;rw[gx] at n1;cases n1;refine .inr (.inr (.inr ⟨a,_,rfl,n2,?_⟩));refine s2 F H Z Q0 A d2 _ k q4 λy2 r2=>?_
     refine⟨b,_,rfl,n3 d2 k2 y2 n q5 r2 hn,sv F H Z Q0 A _ _ k q1 λvv rv=>?_⟩
     have evv:vv=.int j:=by
      cases rv with
      |flat z _=>cases z;rfl
     subst evv;refine⟨n,j,rfl,rfl,?_⟩;obtain⟨H4,A',x1,x2,x3⟩:=n4 d2 k2 y2 (.int (g n j)) (.int (g n j)) q5 r2 (.flat rfl .nil) hz;exact .inr ⟨b,H4,rfl,x1,w Z H4 ⟨F,A',x3,x2,Kept.refl⟩⟩
    .cases e
   .cases e
  .cases e
 .cases e
end
def u_(i:Nat)(f:GS):GS:=λQ0=>match Q0[i]? with
 |some (some o)=>f (Q0.set i (some (.Y o.d)))
 |_=>none
section
variable{X:Cx}{K:FG}{m:List Bool}{W:ai XW}{body:List Stmt}{f:GS}{i:Nat}
def OK.se{F:Hp}{o:O}(k:OK K F H Z Q0 A)(ho:Q0[i]?=some (some o)):∃F' A',OK K F' H Z (Q0.set i (some (.Y o.d))) A'/\Ext F H A F' H A':=by
 obtain⟨v,Ai,B,g1,g2,g3,g4⟩:=k.os.take ho;have nd:(Ai++B).Nodup:=g4.nodup_iff.mp k.nd;have k1:OK K F H (some v::Z) (some o::Q0.set i none) (Ai++B):=⟨k.le,g2.app g3,nd,λa m=>k.fr a (g4.mem_iff.mpr m)⟩
 obtain⟨F',A',k2,x⟩:=k1.freeze;obtain⟨B1,C1,h1,h2,h3⟩:=aj.one k2.os;have eB:B1=[]:=by cases h1 with|Y _ t=>cases t;rfl
 subst eB;rw[ig] at h3;subst h3;have hi:i<Q0.length:=(jX.mp ho).1;obtain⟨G,w1,C2,w2,w3⟩:=aj.put h1 i h2 (by rw[HH];exact hi)
 rw[xA g1,MR] at w1;have sG:aS G A':=(aS.bX w2).trans (by rw[ig];exact .bK w3)
 refine⟨F',G,⟨k2.le,w1,sG.nodup k2.nd,λa m=>k2.fr a (sG.mem a m)⟩,⟨x.ff,λa u e n=>x.keep a u e (λm=>n (g4.mem_iff.mpr m)),x.rZ,λa h=>?_,λa m=>?_,x.kP⟩⟩
 .rcases x.new a h with z|z|z
  .exact .inl z
  .exact .inr (.inl (g4.mem_iff.mpr z))
  .exact .inr (.inr z)
 .rcases x.own a (sG.mem a m) with z|z
  .exact .inl (g4.mem_iff.mpr z)
  .exact .inr z
def e7b(h:gR X body (tS K m W f)):gR X body (tS K m W (u_ i f)):=by
 intro aa s Z H D I t;refine h aa s Z H D I ?_;obtain⟨F,A,Q0,fl,au,k,e,w⟩:=t;unfold u_ at e;split at e
 .rename_i o ho
  obtain⟨F',A',k',x⟩:=k.se ho;exact⟨F',A',_,fl,au,k',e,w.step x Kept.refl⟩
 .cases e
end
def Wu{tb:TS}{D:Ends}(Pv:Nat->St->Hp->Prop)(h0:Pv 0 Z H)(hl:∀i Z H,i<=es.length->Pv i Z H->H a=some (.dG es ep))
  (hs:∀i e Z H,es[i]?=some e->Pv i Z H->g e.2.1 Z H λZ2 H2=>tb { D with nx:=Pv (i+1),ct:=Pv (i+1),bk:=D.nx} Z2 H2) (hd:∀Z H,Pv es.length Z H->D.nx Z H) :
  ∃W:Nat->Nat->St->Hp->Prop,(∃m,W 0 m Z H)/\∀i m Z H,W i m Z H->
   ((xl a es.length ep).stop i H/\D.nx Z H)\/((xl a es.length ep).go i H/\∃N:St->Hp->Prop,(∀Z' H',N Z' H'->∃m',m'<m/\W (i+1) m' Z' H')/\∀x H',(xl a es.length ep).vL i H x H'->g x Z H' λZ2 H2=>tb { D with nx:=N,ct:=N,bk:=D.nx} Z2 H2):=by
 refine⟨λi m Z H=>m=es.length - i/\i<=es.length/\Pv i Z H,⟨es.length,by simp,pV _,h0⟩,?_⟩
 rintro i m Z H ⟨rfl,hi,p⟩;have q:=hl i Z H hi p;by_cases lt:i<es.length
 .refine .inr ⟨⟨es,q,rfl,lt⟩,Pv (i+1),λZ' H' p'=>⟨es.length - (i+1),by lia,rfl,lt,p'⟩,λx H' y=>?_⟩
  obtain⟨e,y⟩:=y;subst e;obtain⟨e,e1,e2⟩:=y es q;subst e2;exact hs i e Z _ e1 p
 .have e:i=es.length:=by lia
  subst e;exact .inl ⟨⟨es,q,rfl,c7 _⟩,hd Z H p⟩
def Cn(it:GE)(g:GG)(f:GS):GS:=λQ0=>(ax it Q0).bind λp=>match p.1 with
 |.own (.Y (.aF kvs))=>fM g f (kvs.map (·.1.d)) p.2
 |_=>none
section
variable{X:Cx}{K:FG}{m:List Bool}{W:ai XW}{f:GS}{fa:GE}{tg iter:Expr}{t:TG}{gg:GG}{body:List Stmt}{pos:Pos}
def X9(hp:PassesOwn (model X.prog X.w) X.A X.env X.xe)(hi:PE X iter (tG K fa))(hg:PG X tg t)(ht:fQ K m t gg)(hb:gR X body (tS K m W f))(hc:X.calm=true:=by rfl)(hK:X.K=K:=by rfl)(hs:∀x,foldedSetIterable iter X.env x=pure x:=by intro _;rfl):PS X (.For tg iter body [] pos) (tS K m W (Cn fa gg f)):=by
 subst hK;refine(xU hp hc (PU (bQ hi)) hg hb hs).mono λD Z H tt=>?_
 obtain⟨F,A,Q0,fl,au,k,e,w⟩:=tt;unfold Cn at e;obtain⟨⟨r,aE⟩,q,e⟩:=dC.mp e;dsimp only at e;split at e
 .rename_i kvs
  refine⟨F,A,Q0,_,aE,k,q,λv H1 pp=>?_⟩
  obtain⟨F1,A1,x,k1,_⟩:=pp;obtain⟨rp,st⟩:=LI.start k1 x w e;cases rp with
  |flat z _=>cases z
  |@aF a ws _ ep _ _ hd hk rk ri _=>
   have hlen:=rk.length;refine⟨a,ws,ep,rfl,k1.le _ _ hd,Wu (es:=ws) (LI X.K m W gg f D F1 fl au (kvs.map (·.1.d))) st (λi Z' H' _ p=>p.same _ _ hd) (λi x' Z' H' hx p=>p.step ht rk (by rw[lC,hx];rfl)) λZ' H' p=>p.fin (by rw[<-hlen,bY];exact c7 _)⟩
 .cases e
end
mutual
noncomputable def qR:D->Bool
 |.aF _=>false
 |.exc _ _=>false
 |.lst xs=>iq xs
 |.tup xs=>iq xs
 |_=>true
noncomputable def iq:List D->Bool
 |[]=>true
 |d::ds=>qR d&&iq ds
end
mutual
noncomputable def qi:O->Bool
 |.Y d=>qR d
 |.lst os=>qS os
 |.tup os=>qS os
 |.aF kvs=>nQ kvs
 |.ins _ _ _=>false
noncomputable def qS:List O->Bool
 |[]=>true
 |o::os=>qi o&&qS os
noncomputable def nQ:List (TK×O)->Bool
 |[]=>true
 |p::kvs=>qi p.2&&nQ kvs
end
noncomputable def nP:Gm->Bool
 |[]=>true
 |none::Q0=>nP Q0
 |some o::Q0=>qi o&&nP Q0
mutual
theorem J':∀k:TK,qR k.d=true
 |.inl _=>by simp only[TK.d,qR]
 |.inr _=>by simp only[TK.d,qR]
 |.tp l=>by simp only[TK.d,qR];exact qj l
theorem qj:∀l:List TK,iq (TK.dl l)=true
 |[]=>by simp only[TK.dl,iq]
 |k::l=>by simp only[TK.dl,iq,J' k,qj l,MT]
end
theorem RP:∀l:List (TK×O),iq (l.map (·.1.d))=true
 |[]=>by simp only[pX,iq]
 |p::l=>by simp only[c_,iq,J',RP l,MT]
theorem Ka:∀os:List O,nP (os.map some)=qS os
 |[]=>by simp only[pX,nP,qS]
 |o::os=>by simp only[c_,nP,qS,Ka os]
theorem Rc:∀l:List (TK×O),nP (l.map λp=>some p.2)=nQ l
 |[]=>by simp only[pX,nP,nQ]
 |p::l=>by simp only[c_,nP,nQ,Rc l]
def jg(F F':Hp):Prop:=∀a u,F a=some u->(∀es ep,u≠.dG es ep)->F' a=some u
section
variable{K:FG}{F F' H:Hp}
def jg.rd{a:ah}{u:HO}(d:jg F F')(h:Rd F a u)(hn:∀es ep,u≠.dG es ep):Rd F' a u:=by
 rcases h with h|⟨o,h⟩
 .exact .inl (d _ _ h hn)
 .exact .inr ⟨o,d _ _ h λes ep z=>by cases z⟩
def jg.sqT{a:ah}{xs:List V}(d:jg F F')(h:gY K F a xs):gY K F' a xs:=by
 rcases h with h|h
 .exact .inl (d.rd h λes ep z=>by cases z)
 .exact .inr h
def NB(d:jg F F'){vs:List V}{ds:List D}(h:aw K F vs ds):iq ds=true->aw K F' vs ds:=by
 induction h with
 |nil=>exact λ_=>.nil
 |flat e _ ih=>intro c;simp only[iq,m9] at c;exact .flat e (ih c.2)
 |lst e _ _ i1 i2=>intro c;simp only[iq,qR,m9] at c;exact .lst (d.rd e λes ep z=>by cases z) (i1 c.1) (i2 c.2)
 |tup e _ _ i1 i2=>intro c;simp only[iq,qR,m9] at c;exact .tup (d.sqT e) (i1 c.1) (i2 c.2)
 |aF e k _ _ _ i0 i1 i2=>intro c;simp only[iq,qR,Bj] at c;cases c
 |fG e _ i=>
  intro c;simp only[iq,qR,Br] at c;refine .fG ?_ (i c);rcases e with e|e
  .exact .inl (d.rd e λes ep z=>by cases z)
  .exact .inr e
 |exc e _ i=>intro c;simp only[iq,qR,Bj] at c;cases c
 |obj _ i=>intro c;simp only[iq,qR,Br] at c;exact .obj (i c)
def NC(d:jg F F'){Z:St}{Q0:Gm}{A:List ah}(h:aj K F H Z Q0 A):nP Q0=true->aj K F' H Z Q0 A:=by
 induction h with
 |nil=>exact λ_=>.nil
 |skip _ ih=>intro c;simp only[nP] at c;exact .skip (ih c)
 |Y r _ ih=>intro c;simp only[nP,qi,m9] at c;exact .Y (NB d r (by simp only[iq,c.1,MT])) (ih c.2)
 |lst e _ _ i1 i2=>intro c;simp only[nP,qi,m9] at c;exact .lst e (i1 (by rw[Ka];exact c.1)) (i2 c.2)
 |tup e _ _ i1 i2=>intro c;simp only[nP,qi,m9] at c;exact .tup e (i1 (by rw[Ka];exact c.1)) (i2 c.2)
 |aF e q r _ _ i1 i2=>intro c;simp only[nP,qi,m9] at c;exact .aF e q (NB d r (RP _)) (i1 (by rw[Rc];exact c.1)) (i2 c.2)
 |ins _ _ _ _ _ _ _=>intro c;simp only[nP,qi,Bj] at c;cases c
noncomputable def C_:O->Bool
 |.Y _=>true
 |_=>false
def RI:O->Bool
 |.aF kvs=>kvs.all λp=>C_ p.2
 |.Y _=>true
 |_=>false
def wk:O->Bool
 |.aF kvs=>kvs.all λp=>RI p.2
 |_=>false
theorem OU:∀{ws:List (ai V)} {kvs:List (TK×O)} {A:List ah},aj K F H ws (kvs.map λp=>some p.2) A->(kvs.all λp=>C_ p.2)=true->A=[]
 |_,[],_,h,_=>by cases h;rfl
 |_,(k,o)::kvs,_,h,c=>by
  rw[tY,m9] at c;rw[c_] at h;cases h with
  |Y _ t=>exact OU t c.2
  |lst _ _ _=>cases c.1
  |tup _ _ _=>cases c.1
  |aF _ _ _ _ _=>cases c.1
  |ins _ _ _ _ _=>cases c.1
theorem Kb:∀{ws:List (ai V)} {kvs:List (TK×O)} {A:List ah},aj K F H ws (kvs.map λp=>some p.2) A->(kvs.all λp=>RI p.2)=true->∀a∈A,∃es ep,H a=some (.dG es ep)
 |_,[],_,h,_=>by cases h;intro a m;cases m
 |_,(k,o)::kvs,_,h,c=>by
  rw[tY,m9] at c;rw[c_] at h;cases h with
  |Y _ t=>exact Kb t c.2
  |lst _ _ _=>cases c.1
  |tup _ _ _=>cases c.1
  |ins _ _ _ _ _=>cases c.1
  |@aF b kv ps ep A1 B1 _ _ e q r i t=>
   have h0:A1=[]:=OU i c.1;subst h0;intro a m;rcases dR.mp m with m|m
   .rw[m];exact⟨_,_,e⟩
   .exact Kb t c.2 a (by simpa using m)
def ZA{v:V}{o:O}{A:List ah}(h:aj K F H [some v] [some o] A)(c:wk o=true):∀a∈A,∃es ep,H a=some (.dG es ep):=by
 cases o with
 |aF kvs=>
  cases h with
  |@aF b kv ps ep A1 B1 _ _ e q r i t=>
   have h0:B1=[]:=by cases t;rfl
   subst h0;intro a m;rcases dR.mp m with m|m
   .rw[m];exact⟨_,_,e⟩
   .exact Kb i c a (by simpa using m)
 |_=>cases c
def bor(M:GM):GM:=λos=>match os with
 |o::os=>if wk o=true then(M (.Y o.d::os)).bind λr=>match r.2 with
   |none::fin=>if qi r.1=true/\nP fin=true then some (r.1,some o::fin) else none
   |_=>none
  else none
 |_=>none
def ZC{n:Nat}{M:GM}{vs:List V}{Q:VK}{E:XK}(s:gP K n (bor M) vs H Q E):gP K n M vs H Q E:=by
 obtain⟨hn,F,A,os,o,fin,k,e,w⟩:=s;refine⟨hn,?_⟩;unfold bor at e;split at e
 .rename_i ow os
  split at e
  .rename_i hd
   obtain⟨⟨r,fn⟩,e1,e2⟩:=dC.mp e;dsimp only at e2;split at e2
   .rename_i dc
    split at e2
    .rename_i hc
     cases e2;have hl:=k.os.length
     match vs,hl with
     |[],hl=>simp at hl
     |x::vs,_=>
      obtain⟨Aj,C,h1,h2,h3⟩:=aj.one (x:=some x) (y:=some ow) k.os;subst h3;obtain⟨n1,n2,n3⟩:=lD.mp k.nd;have wm:=ZA h1 hd
      let F1:Hp:=λa=>if a∈Aj then H a else F a
      have in1:∀a,a∈Aj->F1 a=H a:=λa m=>aT m
      have vo:∀a,a∉Aj->F1 a=F a:=λa m=>aW m
      have s1:aI F F1:=λa u e=>by
       rw[vo a λm=>by rw[k.fr a (jb _ m)] at e;cases e]
       exact e
      have le1:aI F1 H:=λa u e=>by
       by_cases m:a∈Aj
       .rw[in1 a m] at e;exact e
       .rw[vo a m] at e;exact k.le a u e
      have r1:aw K F1 [x] [ow.d]:=h1.rep s1 (λa m u e=>by rw[in1 a m];exact e) [x] [ow] rfl rfl
      refine⟨F1,C,.Y ow.d::os,_,_,⟨le1,.Y r1 (h2.keep s1 λa m u e=>e),n2,λa m=>by
       rw[vo a λz=>n3 a z a m rfl];exact k.fr a (iB _ m)⟩,e1,λv H' pc=>?_⟩
      obtain⟨F',A',x',k'⟩:=pc;refine w v H' ?_;obtain⟨B1,C1,j1,j2,j3⟩:=aj.one k'.os;subst j3;have j2:aj K F' H' (some x::vs.map some) (none::dc) C1:=j2;have j4:aj K F' H' (vs.map some) dc C1:=by cases j2 with|skip t=>exact t
      let F2:Hp:=λa=>if a∈Aj then none else F' a
      have LM:∀a,a∈Aj->F2 a=none:=λa m=>aT m
      have tf:∀a,a∉Aj->F2 a=F' a:=λa m=>aW m
      have Ik:∀a,a∈Aj->∀u,H a=some u->F' a=some u:=λa m u e=>x'.ff a u (by rw[in1 a m];exact e)
      have Td:jg F' F2:=λa u e nd=>by
       rw[tf a λm=>by
        obtain⟨es,ep,z⟩:=wm a m;rw[Ik a m _ z] at e;cases e;exact nd es ep rfl]
       exact e
      have sF:aI F F2:=λa u e=>by
       rw[tf a λm=>by rw[k.fr a (jb _ m)] at e;cases e]
       exact x'.ff a u (s1 a u e)
      have h1':aj K F2 H' [some x] [some ow] Aj:=h1.keep sF λa m u e=>k'.le a u (Ik a m u e)
      have j1':aj K F2 H' [some v] [some o] B1:=NC Td j1 (by simp only[nP,hc.1,MT])
      have j4':aj K F2 H' (vs.map some) dc C1:=NC Td j4 hc.2;have SU:∀a,a∈Aj->a∉B1++C1:=λa m z=>by
       obtain⟨es,ep,q⟩:=wm a m;have:=Ik a m _ q;rw[k'.fr a z] at this;cases this
      obtain⟨p1,p2,p3⟩:=lD.mp k'.nd;refine⟨F2,B1++(Aj++C1),⟨sF,λa u e nz=>x'.keep a u e λm=>nz (iB _ m),x'.rZ,λa h=>?_,λa m=>?_,x'.kP⟩,⟨λa u e=>?_,j1'.app (h1'.app j4'),?_,λa m=>?_⟩⟩
      .by_cases z:a∈Aj
       .rw[LM a z] at h;exact b_ rfl h
       .rw[tf a z] at h;rcases x'.new a h with q|q|q
        .rw[vo a z] at q;exact .inl q
        .exact .inr (.inl (iB _ q))
        .exact .inr (.inr q)
      .by_cases z:a∈Aj
       .exact .inl (jb _ z)
       .have:a∈B1++C1:=by
         rcases eR.mp m with m|m
         .exact jb _ m
         .exact iB _ ((eR.mp m).elim (λq=>b_ q z) id)
        exact(x'.own a this).imp (λq=>iB _ q) id
      .by_cases z:a∈Aj
       .rw[LM a z] at e;cases e
       .rw[tf a z] at e;exact k'.le a u e
      .refine lD.mpr ⟨p1,lD.mpr ⟨n1,p2,λa m b m' q=>?_⟩,λa m b m' q=>?_⟩
       .subst q;exact SU a m (iB _ m')
       .subst q;rcases eR.mp m' with m'|m'
        .exact SU a m' (jb _ m)
        .exact p3 a m a m' rfl
      .by_cases z:a∈Aj
       .exact LM a z
       .rw[tf a z];refine k'.fr a ?_;rcases eR.mp m with m|m
        .exact jb _ m
        .exact iB _ ((eR.mp m).elim (λq=>b_ q z) id)
    .cases e2
   .cases e2
  .cases e
 .cases e
def Rf{P:eW}{w:df}{mg:Str->ai ao}{base:cL}{CX:p9}{k:Nat}{f:ah}{fd:jM}{ps:List Str}{n:Nat}{M:GM}(Fn:bN P w K mg base CX k f fd ps (gP K n M)):bN P w K mg base CX k f fd ps (gP K n (bor M)):=
 Fn.imp λ_ _ _ _ q=>ZC q
end
section
variable{X:Cx}{K:FG}{pos:Pos}
def FT(fk fv:GE):GE:=λQ0=>(fk Q0).bind λp=>(fv p.2).bind λq=>match p.1,q.1 with
 |.own (.Y dk),.own o=>(cI dk).map λk=>(.own (.aF [(k,o)]),q.2)
 |_,_=>none
theorem Vc(fk fv:GE)(Q0:Gm):FT fk fv Q0=(fk Q0).bind λp=>(fv p.2).bind λq=>match p.1,q.1 with
 |.own (.Y dk),.own o=>(cI dk).map λk=>(.own (.aF [(k,o)]),q.2)
 |_,_=>none:=rfl
def Vd{ek ev:Expr}{fk fv:GE}(hu:X.A.units+41<cLine)(hk:PE X ek (tG K fk))(hv:PE X ev (tG K fv))(hK:X.K=K:=by rfl):PE X (.Dict [some ek] [ev] pos) (tG K (FT fk fv)):=(ON hu hk hv).mono λZ H Q t=>by
 subst hK;obtain⟨F,A,Q0,rr,au,k,e,w⟩:=t;unfold FT at e;obtain⟨⟨r1,aE⟩,e1,e'⟩:=dC.mp e;clear e;obtain⟨⟨r2,cq⟩,e2,e⟩:=dC.mp e';clear e';dsimp only at e2 e;split at e
 .rename_i dk ov
  obtain⟨key,ek,e⟩:=j_.mp e;cases e;intro p hn;have nA:p∉A:=λm=>k.os.there p m hn
  have s:aI H (upd H p (.dG [] 0)):=l7 hn;have k0:OK X.K F (upd H p (.dG [] 0)) Z Q0 A:=⟨k.le.trans s,k.os.keep (aI.refl _) λa _ o e=>s a o e,k.nd,k.fr⟩
  refine⟨F,A,Q0,_,aE,k0,e1,λx H1 pp=>?_⟩
  obtain⟨F1,A1,x1,k1,hh1⟩:=pp;have k1:OK X.K F1 H1 ([some x]++Z) ([some (.Y dk)]++aE) A1:=k1;obtain⟨C,kC,fr⟩:=k1.frame rfl;refine⟨F1,C,aE,_,au,kC,e2,λy H2 pp=>?_⟩
  obtain⟨F2,A2,x2,k2,Lp⟩:=pp;obtain⟨A3,x3,k3⟩:=fr _ _ _ _ _ x2 k2;have k3:OK X.K F2 H2 (some x::some y::Z) (some (.Y dk)::some ov::au) A3:=k3;have m8:=x1.trans x3;have sM:H2 p=some (.dG [] 0):=m8.keep p _ iQ nA;obtain⟨B1,C1,o1,o2,q1⟩:=aj.one k3.os;obtain⟨B2,C2,o3,o4,q2⟩:=aj.one o2;have rx:aw X.K F2 [x] [key.d]:=by rw[(nF ek).1];exact rO o1
  refine⟨key,sM,rx.mono k3.le,(nF ek).2,w (.ref p) _ ?_⟩;have np:∀a∈A3,a≠p:=λa m z=>by
   subst z;rcases m8.own a m with z|z
   .exact nA z
   .rw[iQ] at z;cases z
  have kp:∀a∈A3,∀o,H2 a=some o->upd H2 p (.dG [(key,x,y)] 1) a=some o:=λa m o e=>by rw[cK (np a m)];exact e
  subst q2 q1;have lU:∀a∈B2++C2,a∈B1++(B2++C2):=λa m=>iB _ m
  have Bt:F2 p=none:=by
   cases eF:F2 p with
   |none=>rfl
   |some o=>
    rcases m8.new p (by rw[eF];exact λz=>by cases z) with z|z|z
    .exact b_ (k.le.free hn) z
    .exact b_ z nA
    .rw[iQ] at z;cases z
  have DK:=k3.nd;rw[lD] at DK;refine⟨F2,p::B2++C2,⟨m8.ff,λa o e n=>?_,λa h=>?_,λa h=>?_,λa m=>?_,(lZ.same s).trans (m8.kP.trans (lZ.upd λC dx fs z=>by rw[sM] at z;cases z))⟩,⟨λa o e=>?_,?_,?_,?_⟩,i9⟩
  .have:=m8.keep a o (s a o e) n;rw[cK (mO e hn)];exact this
  .by_cases z:a=p
   .rw[z,iQ];exact λz=>by cases z
   .rw[cK z];exact m8.rZ a (λz'=>h (s.free z'))
  .rcases m8.new a h with z|z|z
   .exact .inl z
   .exact .inr (.inl z)
   .exact .inr (.inr (s.free z))
  .rcases dR.mp m with rfl|m
   .exact .inr hn
   .rcases m8.own a (lU a m) with z|z
    .exact .inl z
    .exact .inr (s.free z)
  .have h1:=k3.le a o e;rw[cK (λz=>by rw[z,Bt] at e;cases e)];exact h1
  .exact .aF (A:=B2) (B:=C2) iQ rfl rx (o3.keep (aI.refl _) λa m=>kp a (lU a (jb _ m))) (o4.keep (aI.refl _) λa m=>kp a (lU a (iB _ m)))
  .exact jr.mpr ⟨λm=>np p (lU p m) rfl,DK.2.1⟩
  .intro a m;rcases dR.mp m with rfl|m
   .exact Bt
   .exact k3.fr a (lU a m)
 .cases e
end
theorem TR{Q:Bool->az->Prop}{P:eW}{w:df}{A:dD}{E:ao->az->Prop}{s:az}{d:ah}(hT:s.TypeIs (.ref d) "dict")(h:Q false s):wpAny (model P w) A (Builtin.List.listLengthHint (.ref d)) Q E s:=by
 unfold Builtin.List.listLengthHint;refine aK (wpAny_specialOf hT F.slot_dict_len.lookup ?_);dsimp only;rw[show splitId "dict.__len__"=some ("dict","__len__") from by decide +kernel]
 dsimp only;refine aK (wpAny_isInstance (b:=true) hT (by rw[isSubtype_type];kernel_rfl) ?_)
 rw[aW (by decide)]
 refine wpAny_ite_true (by decide +kernel) (aK (wpAny_typeOf hT ?_))
 exact bW h
section
variable{P:eW}{w:df}{A:dD}{E:ao->az->Prop}{s:az}
def Ve{n ep:Nat}{ob:Obj}{xs:Array DictEntry}(hh:A.handled=none)(J d:ah)(ia:d≠J)(g2:ob.data=.dict xs ep)(hl:xs.size=n):
  Walks P w A J [J,d] [J] n (λi v=>xs[i]?.map (·.key)=some v) (λi h=>h.IsKeyIter J d i n ep/\h.get? d=some ob) where
 sub:=λb hb=>by simp at hb;simp[hb]
 frame:=λ_ _ _ st hk=>⟨st.1.at λo e=>hk J (by simp) o e,hk d (by simp) _ st.2⟩
 item:=λi s Q E hi st hQ=>by
  have lt:i<xs.size:=by lia
  refine NA st.2 g2 hl st.1 lt λh' LN sb=>?_
  exact hQ _ h' s.toks (by rw[vJ lt];rfl) ⟨LN,(sb.2 d ia).trans st.2⟩ λb o hb e=>sb.extBut b o (λh=>hb (by simp[h])) e
 done:=λs Q E st hQ=>N_ hh st.2 g2 hl st.1 (c7 _) λh' he'=>hQ h' s.toks λb o hb e=>he' b o (λh=>hb (by simp[h])) e
 self:=λ_ _ _ _ st hQ=>wpAny_pyIter_keyiter st.1 hQ
end
theorem PY:∀{ys:List V} {us:List ao},ys.length=us.length->(∀(j:Nat) (y:V) (u:ao),ys[j]?=some y->us[j]?=some u->RelV y u)->Vals ys us
 |[],[],_,_=>.nil
 |y::ys,u::us,hl,h=>.cons (h 0 y u rfl rfl) (PY (by simpa using hl) λj y' u' e1 e2=>h (j+1) y' u' (by simpa using e1) (by simpa using e2))
 |[],_::_,h,_=>by simp at h
 |_::_,[],h,_=>by simp at h
section
variable{X:Cx}{aa:List (ah×Obj)}{Z:St}{H:Hp}
theorem Tx{E:ao->az->Prop}{A:dD}{s:az}{d:ah}{es:List (TK×V×V)}{ep:Nat}{Q:ao->az->Prop}(hh:A.handled=none)(I:Inv X aa Z H s)(hd:H d=some (.dG es ep))
  (hQ:∀s',(∀b u,s.heap.get? b=some u->s'.heap.get? b=some u)->s'={ s with heap:=s'.heap,toks:=s'.toks}->(∃aH c,Vals (es.map (·.2.1)) aH/\s'.heap.get? s.heap.objs.size=some { cls:=.type "list",data:=.seq aH.toArray c})->Q (.ref s.heap.objs.size) s') :
  wpAny (model X.prog X.w) A (call (.type "list") [.ref d]) Q E s:=by
 obtain⟨hz,z,ob,xs,g1,g5,g2,g3,g4⟩:=(show cC X.prog X.w H s.heap d (.dG es ep) from I.cg d _ hd);have hl:xs.size=es.length:=by have:=Paired.length g3;simpa using this.symm
 have ld:d<s.heap.objs.size:=eV g1;refine callType_codes (Q₁:=λobj s₁=>obj=.ref s.heap.objs.size/\s₁={ s with heap:=s.heap.push { cls:=.type "list",data:=.seq #[]}}) F.called_list (F.typeCall_list_1 _) F.entry_list_init (code_list_new _ ⟨rfl,rfl⟩) λobj s₁ q₁=>?_
 obtain⟨rfl,rfl⟩:=q₁;have gS:(s.heap.push { cls:=.type "list",data:=.seq #[]}).get? s.heap.objs.size=some { cls:=.type "list",data:=.seq #[]}:=oI _ rfl;refine⟨⟨_,gS,rfl⟩,F.args_list_init_2 _ _,?_⟩;show wpAny _ _ (do let old <-Builtin.List.listItems (.ref s.heap.objs.size);Builtin.List.listUpdate (.ref s.heap.objs.size) (λ_=>#[]);letGo old.toList.reverse;Builtin.List.listExtendWith (.ref s.heap.objs.size) (.ref d) .none) _ _ _
 refine aK ?_;unfold Builtin.List.listItems;refine aK (wpAny_seqItems gS rfl (bW ?_));show wpAny _ _ (updateSeq s.heap.objs.size (λ_=>#[]) >>= λ_=>letGo (#[]:Array ao).toList.reverse >>= λ_=>Builtin.List.listExtendWith (.ref s.heap.objs.size) (.ref d) .none) _ _ _
 refine aK (wpAny_updateSeq gS rfl ?_);have gT:=rL (Obj.mapSeq (λ_=>(#[]:Array ao))) gS rfl
 refine aK (wpAny_letGo ?_);have nS:∀b u,s.heap.get? b=some u->b≠s.heap.objs.size:=λb u e z=>by rw[z] at e;exact mI _ (eV e)
 have k1:∀b u,s.heap.get? b=some u->((s.heap.push { cls:=.type "list",data:=.seq #[]}).update s.heap.objs.size (Obj.mapSeq (λ_=>(#[]:Array ao)))).get? b=some u:=
  λb u e=>(pW _ _ (Ne.symm (nS b u e))).trans (iP _ e)
 have Mq:((s.heap.push { cls:=.type "list",data:=.seq #[]}).update s.heap.objs.size (Obj.mapSeq (λ_=>(#[]:Array ao)))).objs.size=s.heap.objs.size+1:=by simp[Heap.update,Heap.push]
 generalize(s.heap.push { cls:=.type "list",data:=.seq #[]}).update s.heap.objs.size (Obj.mapSeq (λ_=>(#[]:Array ao)))=h1 at *
 have I1:Inv X aa Z H { s with heap:=h1,toks:=s.toks}:=I.kept k1;have hT1:Shared.TypeIs { s with heap:=h1} (.ref d) "dict":=⟨ob,k1 _ _ g1,g5.1⟩;unfold Builtin.List.listExtendWith;refine aK (wpAny_typeOf hT1 ?_);have ne:s.heap.objs.size≠d:=λe=>mI _ (e ▸ ld)
 have c1:Builtin.List.listSameRef (.ref s.heap.objs.size) (.ref d)=false:=by simp[Builtin.List.listSameRef,ne]
 have c2:(Value.type "dict" == Value.type "list")=false:=by decide
 have c3:(Value.type "dict" == Value.type "tuple")=false:=by decide
 simp only[c1,c2,c3,Bool.or_false,uC,cX];refine aK (OT I1 hd ?_);have Lj:Shared.TypeIs { s with heap:=h1.push { cls:=.type "dict_keyiterator",data:=.fields #[.ref d,.int 0 0,.int es.length 0,.int ep 0]}} (.ref d) "dict":=⟨ob,iP _ (k1 _ _ g1),g5.1⟩;refine aK (nk (TR Lj ?_));refine wpAny_ite_true (by decide +kernel) (aK (wpAny_rule (aK ?_)))
 show wpAny _ _ (updateSeq s.heap.objs.size (·.push .none) >>= λ_=>updateSeq s.heap.objs.size (·.pop)) _ _ _
 have gU:=iP { cls:=.type "dict_keyiterator",data:=.fields #[.ref d,.int 0 0,.int es.length 0,.int ep 0]} gT;refine aK (wpAny_updateSeq gU rfl ?_);have gV:=rL (Obj.mapSeq (·.push Value.none)) gU rfl
 refine wpAny_updateSeq (hz:=by seq_fits) gV rfl ?_
 have gW:=rL (Obj.mapSeq (·.pop)) gV rfl
 have gJ:(h1.push { cls:=.type "dict_keyiterator",data:=.fields #[.ref d,.int 0 0,.int es.length 0,.int ep 0]}).get? h1.objs.size=some { cls:=.type "dict_keyiterator",data:=.fields #[.ref d,.int 0 0,.int es.length 0,.int ep 0]}:=oI _ rfl;have Me:∀b o,b≠s.heap.objs.size->(h1.push { cls:=.type "dict_keyiterator",data:=.fields #[.ref d,.int 0 0,.int es.length 0,.int ep 0]}).get? b=some o->
   (((h1.push { cls:=.type "dict_keyiterator",data:=.fields #[.ref d,.int 0 0,.int es.length 0,.int ep 0]}).update s.heap.objs.size (Obj.mapSeq (·.push Value.none))).update s.heap.objs.size (Obj.mapSeq (·.pop))).get? b=some o:=
  λb o hb e=>(pW _ _ (Ne.symm hb)).trans ((pW _ _ (Ne.symm hb)).trans e)
 have hJ:h1.objs.size≠s.heap.objs.size:=by rw[Mq];exact Nat.succ_ne_self _
 have dJ:d≠h1.objs.size:=lY (by rw[Mq];exact Nat.lt_succ_of_lt ld)
 have W:=(Ve (P:=X.prog) (w:=X.w) (A:=A.in1.in1) (n:=es.length) (ep:=ep) hh h1.objs.size d dJ g2 hl).toS;have hSf:s.heap.objs.size∉[h1.objs.size,d]:=λm=>by
  simp at m;rcases m with m|m
  .exact hJ m.symm
  .exact ne m
 refine bW ⟨plainId_quiet F.plain_extend_loop _,codeAny_extend_loopS W hz _ hSf _ es.length 0 _ _ _ rfl (pV _) ⟨⟨_,Me _ _ hJ gJ,rfl,rfl⟩,Me _ _ (Ne.symm ne) (iP _ (k1 _ _ g1))⟩ gW (ItemsOf.nil _) λs' BO c' hm hS' vb=>?_⟩
 obtain⟨m1,m2,m3,m4,m5⟩:=hm;have u5:s'={ s with heap:=s'.heap,toks:=s'.toks}:=by
  cases s';cases m2;cases m3;cases m4;rfl
 refine⟨rfl,hQ s' (λb u e=>m1 b u (λq=>?_) (Me b u (nS b u e) (iP _ (k1 b u e)))) u5 ⟨BO.toList,c',?_,by simpa using hS'⟩⟩
 .rcases dR.mp q with q|q
  .exact nS b u e q
  .rw[iz] at q;have:=eV e;rw[q,Mq] at this;exact b_ this (Nat.not_lt.mpr (Bm _))
 .have h2:BO.size=es.length:=vb.1;refine PY (by simp[h2]) λj y u e1 e2=>?_
  rw[lC] at e1;obtain⟨e,e3,rfl⟩:=j_.mp e1;obtain⟨x,x1,x2⟩:=BG j g3 e3;have h3:=vb.2 j u (by rw[<-Bp];exact e2)
  have x1:xs[j]?=some x:=by rw[<-Bp];exact x1
  have h3:Option.map (λx=>x.key) xs[j]?=some u:=h3
  rw[x1] at h3;cases h3;exact x2.2.1
def S4(K:FG):List V->Hp->VK->Prop:=λxs H Q=>∃d es ep,xs=[.ref d]/\H d=some (.dG es ep)/\∀l,H l=none->Q (.ref l) (upd H l (.lst (es.map (·.2.1))))
def Ue(hc:X.calm=true):cA X (.type "list") (S4 X.K):=by
 intro aa s Z H xs us Q I r h;obtain⟨d,es,ep,rfl,hd,q⟩:=h;obtain⟨u,rfl,ru⟩:=vals1 r;cases ru;refine Tx (I.ok.hd hc) I hd λs' kp u5 hh=>?_
 obtain⟨aH,c,rv,g⟩:=hh;have hz:=(show cC X.prog X.w H s.heap d (.dG es ep) from I.cg d _ hd).1;rw[u5];exact⟨.ref s.heap.objs.size,_,I.laid kp (c7 _) (show cC X.prog X.w _ s'.heap _ (.lst (es.map (·.2.1))) from⟨by rw[bY];exact hz,aH,c,rv,g⟩),rfl,q _ (I.cg.fresh (c7 _))⟩
def Co:List O->ai O
 |[.aF kvs]=>some (.lst ((kvs.map (·.1.d)).map .Y))
 |[.Y (.aF kvs)]=>some (.lst ((kvs.map (·.1.d)).map .Y))
 |_=>none
def Wv{K:FG}:cS K (S4 K) Co:=by
 intro F H vs os o Q le eU e res;unfold Co at e;split at e
 .rename_i kvs
  obtain⟨x,B,rfl,h1⟩:=eU.one;cases e;cases h1 with
  |@aF a ws _ ep A1 B1 _ _ hd hk rk ch t=>exact⟨a,ws,ep,rfl,hd,λl hl=>res.lst rk hl⟩
 .rename_i kvs
  obtain⟨x,B,rfl,h1⟩:=eU.one;cases e;have rp:=rO h1;cases rp with
  |flat z _=>cases z
  |@aF a ws _ ep _ _ hd hk rk ri _=>exact⟨a,ws,ep,rfl,le _ _ hd,λl hl=>res.lst rk hl⟩
 .cases e
def Ww{K:FG}{e:Expr}{fs:GA}{p pos:Pos}(hm:X.mg "list"=none)(ha:PA X [e] (jW K fs))(hc:X.calm=true:=by rfl)(hg:Gl X "list":=by rfl)(he:starEach [e] X.env=(false,eval e X.env)::starEach [] X.env:=by rfl)(iW:(backTo pos (starEach [] X.env)).any (·.1)=false:=by rfl)(hK:X.K=K:=by rfl):PE X (.Call (.Name "list" p) [e] [] pos) (tG K (gO Co fs)):=by
 subst hK;exact xu (Ue hc) Wv hm BS ha hg (by decide) (by decide) he iW
end
section
variable{X:Cx}{K:FG}{a b c d:Expr}{ta tb tc td:TE}{fa fb fc fd:GE}{pos:Pos}
end
def kX(is:List Int):Int := -jo (is.map λi => -i)
def Oa{is:List Int}(h:is≠[]):kX is∈is/\∀y∈is,y<=kX is:=by
 obtain⟨h1,h2⟩:=zo (xs:=is.map λi => -i) (by simpa using h)
 unfold kX;constructor
 .obtain⟨i,m,e⟩:=gQ.mp h1;rw[<-e,Int.neg_neg];exact m
 .intro y m;have:=h2 (-y) (gQ.mpr ⟨y,m,rfl⟩);lia
section
variable{X:Cx}{K:FG}
def Wx(K:FG)(hc:X.calm=true:=by rfl)(hK:X.K=K:=by rfl):cA X (.builtin "max") (λxs H Q=>∃(a:ah) (is:List Int),xs=[.ref a]/\dH K H a (is.map V.int)/\is≠[]/\Q (.int (kX is)) H):=by
 subst hK;intro aa s Z H xs us Q I r h;obtain⟨a,is,rfl,hs,ia,q⟩:=h;obtain⟨u,rfl,ru⟩:=vals1 r;cases ru;obtain⟨aH,rv,p,hz⟩:=I.list hs;obtain⟨ps,e1,e2⟩:=H_ rv;subst e1;have hl:0<ps.length:=by
  cases ps with
  |nil=>exact b_ e2.symm ia
  |cons _ _=>simp
 have el:(ps.map λp=>Value.int p.1 p.2).toArray=intItems ps.toArray:=by unfold intItems;simp
 have pl:=p.isList;rw[el] at pl;refine max_intList (I.ok.hd hc) pl (by simpa using hl) λv h' tk hv hk=>?_
 obtain⟨b1,b2⟩:=argBest_lt (λi => -numAt ps.toArray i) (ps.toArray.size - 1)
 have ef:(λi j=>decide (-numAt ps.toArray i < -numAt ps.toArray j))=λi j=>decide (numAt ps.toArray i > numAt ps.toArray j):=by
  funext i j;exact decide_eq_decide.mpr (by lia)
 rw[ef] at b1 b2;generalize argBest (λi j=>decide (numAt ps.toArray i > numAt ps.toArray j)) (ps.toArray.size - 1)=n at *
 have hn:n<ps.length:=by simp at b1;lia
 have sJ:∀j (hj:j<ps.length),numAt ps.toArray j=(ps[j]).1:=λj hj=>by unfold numAt;simp[hj]
 have LJ:v=Value.int (ps[n]).1 (ps[n]).2:=by
  unfold intItems at hv;simp[hn] at hv;exact hv.symm
 have hm:kX is=(ps[n]).1:=by
  obtain⟨m1,m2⟩:=Oa ia;have i1:(ps[n]).1∈is:=by rw[<-e2];exact Bq (f:=(·.1)) (xi hn)
  have c1:=m2 _ i1;rw[<-e2] at m1;obtain⟨pp,LG,sM⟩:=gQ.mp m1;obtain⟨j,hj,ej⟩:=EA.mp LG;have c2:=b2 j (by simp;lia)
  rw[sJ n hn,sJ j hj,ej] at c2;rw[e2] at sM;lia
 rw[LJ];exact⟨.int (kX is),H,I.kept (h':=h') (t':=tk) λb o e=>hk b o e,⟨(ps[n]).2,by rw[hm]⟩,q⟩
def vk:List O->ai O
 |[o]=>(dz o).bind λds=>(jB ds).bind λis=>if is=[] then none else some (.Y (.int (kX is)))
 |_=>none
def ZD:cS K (λxs H Q=>∃(a:ah) (is:List Int),xs=[.ref a]/\dH K H a (is.map V.int)/\is≠[]/\Q (.int (kX is)) H) vk:=by
 intro F H vs os o Q le eU e res;unfold vk at e;split at e
 .rename_i o'
  obtain⟨ds,e1,e2⟩:=dC.mp e;obtain⟨is,e3,e4⟩:=dC.mp e2;split at e4
  .cases e4
  .rename_i ia
   cases e4;obtain⟨x,B,rfl,h1⟩:=eU.one;obtain⟨a,ws,rfl,sq,ri⟩:=vT le h1 e1;rw[b2i e3] at ri;have:=HZ ri;subst this;exact⟨a,is,rfl,sq,ia,res.flat rfl⟩
 .cases e
def ZE{is:List Int}(h:is≠[]):vk [.lst ((is.map D.int).map .Y)]=some (.Y (.int (kX is))):=by
 show((dz (.lst ((is.map D.int).map .Y))).bind λds=>(jB ds).bind λis=>if is=[] then none else some (O.Y (.int (kX is))))=_
 rw[Q6,Option.bind_some,Iu,Option.bind_some,aW h]
def sj(g:Int->Int->Int)(i:Nat)(fa:GE):GS:=λQ0=>(fa Q0).bind λp=>match p.1,p.2[i]? with
 |.own (.Y (.int j)),some (some (.Y (.int n)))=>some (.nx,p.2.set i (some (.Y (.int (g n j)))))
 |_,_=>none
variable{m:List Bool}{W:ai XW}{fa:GE}{e:Expr}{pos:Pos}
def ZF{i:Nat}{x:Str}{op:Operator}{g:Int->Int->Int}{pos':Pos}(LF:zf X op (Hi g))(hN:X.N.Nodup)(hi:X.N[i]?=some x)(hx:Loc X.env.scope x)(he:PE X e (tG K fa))(hc:∀Q0 r au,fa Q0=some (r,au)->au=Q0)(hm:(m[i]? == some true)=false:=by rfl)(hf:X.fn x=true\/X.env.scope.names.lookup x=some .local := by first|exact .inl rfl|exact .inr rfl):
  PS X (.AugAssign (.Name x pos') op e pos) (tS K m W (sj g i fa)):=(Y4 hN hi hx he LF hf).mono λD Z H t=>by
 obtain⟨F,A,Q0,fl,au,k,e,w⟩:=t;obtain⟨⟨r,aE⟩,q,e⟩:=dC.mp e;dsimp only at e;split at e
 .rename_i j n hn
  cases e;have:=hc _ _ _ q;subst this;obtain⟨v,Ai,B,g1,g2,_⟩:=k.os.take hn;have ev:v=.int n:=jw g2 rfl;subst ev;refine⟨_,g1,F,A,aE,_,aE,k,q,λy H1 pp=>?_⟩
  obtain⟨F1,A1,x1,k1,_⟩:=pp;obtain⟨rfl,h2⟩:=t_ (Z:=Z) (Q0:=aE) k1.os;obtain⟨k2,_⟩:=k1.sub h2 (aS.refl _);have k3:OK K F1 H1 (some (.int (g n j))::Z) (some (.Y (.int (g n j)))::aE) A1:=⟨k2.le,.Y (.flat rfl .nil) k2.os,k2.nd,k2.fr⟩;obtain⟨B2,k4,x4⟩:=OK.store (Z:=Z) (Q0:=aE) k3 (jX.mp hn).1;exact⟨n,j,rfl,rfl,w _ H1 ⟨F1,B2,x1.trans x4,k4,Kept.set hm⟩⟩
 .cases e
theorem X_(g:Int->Int->Int)(i:Nat)(fa:GE)(Q0:Gm):sj g i fa Q0=(fa Q0).bind λp=>match p.1,p.2[i]? with
 |.own (.Y (.int j)),some (some (.Y (.int n)))=>some (.nx,p.2.set i (some (.Y (.int (g n j)))))
 |_,_=>none:=rfl
end
end L2
namespace L2
def j6{A:PySem.Around}{k:Nat}(hr:dj k A):A.units+41<PySem.cLine:=MP (Nat.add_le_add_left (by decide:41<=64) _) hr.units
end L2
namespace Carry
open PySem L2
variable{X:Cx}{K:FG}
seal PE PA PT PS gR
theorem dI{i:Int}{j pos}:PE X (.Constant (.int i) j pos) (tG K (gC (.int i))):=gy Ge
theorem ak(i:Nat){x:Str}{pos:Pos}(hN:X.N[i]?=some x:=by rfl)(hv:zh X.env.scope x:=by first|exact Or.inl rfl|exact Or.inr (Or.inl rfl)|exact Or.inr (Or.inr rfl))(hd:(x == ("__debug__":Str))=false:=by decide)(pD:(x == ("__classdict__":Str))=false:=by decide):PE X (.Name x pos) (tG K (af i)):=Zi (pv i hN hv hd pD)
theorem cM{a b:Expr}{pos:Pos}{fa fb:GE}(hu:X.A.units+41<cLine)(ha:PE X a (tG K fa))(hb:PE X b (tG K fb))(hs:BR b:=by exact λ_ _=>rfl)(hK:X.K=K:=by rfl):PE X (.Subscript a b pos) (tG K (gB bM fa fb)):=ψ (K0 K hu hK) e6s ha hb hs
noncomputable def top(i:Nat):Stmt:=PySem.Challenge.pw_carry_k37_soonest_refused.main.body.getD i (.Pass ⟨0,0,0,0⟩)
abbrev Kz:Stmt:=top 15
abbrev Kc:Stmt:=top 16
abbrev Je:Stmt:=top 17
abbrev Kd:Stmt:=top 18
abbrev Iw:Stmt:=top 20
abbrev FU:Stmt:=top 22
abbrev JL:Stmt:=top 23
abbrev KA:Stmt:=top 24
abbrev Fq:Stmt:=top 25
abbrev E4:Stmt:=top 29
abbrev Ke:Stmt:=top 30
abbrev Iy:Stmt:=top 31
abbrev ET:Stmt:=top 32
abbrev Ib:Stmt:=top 33
abbrev FV:Stmt:=top 34
abbrev E5:Stmt:=top 36
abbrev HX:Stmt:=top 37
abbrev Jf:Stmt:=top 39
abbrev Jg:Stmt:=top 40
abbrev Jh:Stmt:=top 41
abbrev Fs:Stmt:=top 42
abbrev E6:Stmt:=top 43
abbrev E7:Stmt:=top 44
abbrev E8:Stmt:=top 45
abbrev EU:Stmt:=top 46
abbrev Ic:Stmt:=top 47
abbrev Iz:Stmt:=top 48
abbrev IA:Stmt:=top 49
abbrev GR:Stmt:=top 50
abbrev kS:List (Str×ah):=[("NoName",37),("NoSize",49),("NoOut",61),("NoHand",73),("NoWay",85),("NoMoment",97),("NoFlight",109),("NoBelt",121),("NoRoom",133),("NoBag",145),("NoDeed",157)]
abbrev gA:List ah:=176::kS.map (·.2)
set_option genInjectivity false in
set_option genSizeOfSpec false in
structure HR where
 (f0 f1 f2 f3 f4 f5 f6 f7 f8 f9 An Ao As Au Aw Ay Az AA AB AD AE AF AG AH AI AJ AK AL AM:ah)
 (d0 d1 d2 d3 d4 d5 d6 d7 d8 d9 Ag Ah CI CJ CK CL CM CN CO CP CS CT CU CV CW CY CZ C0 Ak:jM)
structure Txt (K:FG) (mg:Str->ai ao) (t:HR):Prop where
 F0:bU K mg "lay" Kz t.f0 t.d0 ["net","here","there","room"]
 F1:bU K mg "fill" Kc t.f1 t.d1 ["net","start","end"]
 F2:bU K mg "search" Je t.f2 t.d2 ["net","start"]
 F3:bU K mg "push" Kd t.f3 t.d3 ["net","came","end"]
 F4:bU K mg "belt_of" Iw t.f4 t.d4 ["house","name"]
 F5:bU K mg "steps" FU t.f5 t.d5 ["house","place"]
 F6:bU K mg "moves" JL t.f6 t.d6 ["house","place"]
 F7:bU K mg "far" KA t.f7 t.d7 ["house","place","cart"]
 F8:bU K mg "begins" Fq t.f8 t.d8 ["house","cart"]
 F9:bU K mg "in_time" E4 t.f9 t.d9 ["house","places","cart","turns"]
 F10:bU K mg "into" Ke t.An t.Ag ["place","moment"]
 F11:bU K mg "lay_net" Iy t.Ao t.Ah ["net","house","places","cart","turns"]
 F12:bU K mg "lay_spot" ET t.As t.CI ["net","house","place","moment","cart","plenty"]
 F13:bU K mg "followed" Ib t.Au t.CJ ["net","first","cart"]
 F14:bU K mg "taken" FV t.Aw t.CK ["net","behind"]
 F15:bU K mg "soonest" E5 t.Ay t.CL ["house","places","cart"]
 F16:bU K mg "check_ways" HX t.Az t.CM ["house","places","cart"]
 F17:bU K mg "_law_feed" Jf t.AA t.CN ["_law_script"]
 F18:bU K mg "_law_draw" Jg t.AB t.CO ["_law_feed_here","_law_many"]
 F19:bU K mg "_law_name" Jh t.AD t.CP ["_law_style","_law_k"]
 F20:bU K mg "_law_outs" Fs t.AE t.CS ["_law_feed_here","_law_names","_law_k","_law_many"]
 F21:bU K mg "_law_house" E6 t.AF t.CT ["_law_feed_here"]
 F22:bU K mg "_law_cells" E7 t.AG t.CU ["_law_house_here"]
 F23:bU K mg "_law_steps" E8 t.AH t.CV ["_law_house_here","_law_place"]
 F24:bU K mg "_law_copied" EU t.AI t.CW ["_law_house_here"]
 F25:bU K mg "_law_places" Ic t.AJ t.CY ["_law_feed_here","_law_house_here","_law_most"]
 F26:bU K mg "_law_comes" Iz t.AK t.CZ ["_law_house_here","_law_place","_law_cart"]
 F27:bU K mg "_law_asked" IA t.AL t.C0 ["_law_house_here","_law_places_here","_law_cart"]
 F28:bU K mg "law" GR t.AM t.Ak ["_law_script"]
 er:iC K mg kS 176 24 173
 gz:mg "len"=none
 cG:mg "isinstance"=none
 wb:mg "int"=none
 b_bool:mg "bool"=none
 Cw:mg "str"=none
 kQ:mg "list"=none
 qf:mg "tuple"=none
 gZ:mg "range"=none
 Cs:mg "any"=none
 Cr:mg "all"=none
 nM:mg "enumerate"=none
 pw:mg "reversed"=none
 Cv:mg "min"=none
 Cu:mg "max"=none
 mP:mg "ValueError"=none
 ku:∃t,mg "START"=some (.str "the start" t)
 rY:∃t,mg "END"=some (.str "the end" t)
section
variable{P:eW}{w:df}{K:FG}{mg:Str->ai ao}{base:cL}{t:HR}
theorem tQ:aL ["net","here","there","room","node"] ["net","here","there","room"] (dM Kz):=dO
def KC:GS:=(aU (B9 (aY .tup (aq (af 1) (aq (af 2) gN))) (bp 4) (cH (gT (gB (cw true) (af 4) (af 0))) (gD zP (af 0) (af 4)) bL)) (aU (uk 0 (sV 1) (sV 2) (sV 3)) (uk 0 (sV 2) (sV 1) (sC (.int 0)))))
def uq:GM:=runM 5 [true,false,false,false] KC
variable(P w K mg base t)in
abbrev KD:Prop:=bN P w K mg base gd 1 t.f0 t.d0 ["net","here","there","room"] (gP K 4 uq)
theorem ZG(T:Txt K mg t):KD P w K mg base t:=
 jO (k:=0) [true,false,false,false] KC T.F0.fn tQ rfl rfl (by decide) λcQ A outer s H E hr=>(by
  have eS:=j6 hr;exact⟨_,(bA (Xx PassesOwn.never (iT (ay (ak 1) (ay (ak 2) aV))) (fw (i:=4) tQ.nd rfl (Or.inl rfl)) fy
   (cu (ju (gv (vP K ‹_›) (pq true) (ak 4) (ak 0))
   (cu (zS IQ (ak 0) (ak 4) ‹_›))
   jx)))
   (bA (PV (pv 3) uV (pv 0) (pv 1) uV (pv 2) uV ‹_›)
   (cu (PV Ge (K1 (d:=.int 0) rfl) (pv 0) (pv 2) uV (pv 1) uV ‹_›)))),rfl⟩)
theorem eC:aL ["net","start","came","rim","further","here","there"] ["net","start"] (dM Je):=dO
def Ji:GS:=(aU (av 2 (zU (af 1) (gC .bh))) (aU (av 3 (ax (aY .lst (aq (af 1) gN)))) (aU (gf (g_ (af 3)) (aU (av 4 (aY .lst gN)) (aU (eI (af 3) (bp 5) (Cn (gB bM (af 0) (af 5)) (bp 6) (cH (jy (gT (gB wR (gB bM (gB bM (af 0) (af 5)) (af 6)) (gC (.int 0)))) (gT (gB (cw true) (af 6) (af 2)))) (aU (gD (af 5) (af 2) (af 6)) (kb (ir oS (af 4) (aq (af 6) gN)))) bL))) (av 3 (ax (af 4))))) 1000000) (ba (fA (af 2))))))
def rQ:GM:=runM 7 [false,false] Ji
variable(P w K mg base t)in
abbrev OV:Prop:=bN P w K mg base gd 1 t.f2 t.d2 ["net","start"] (gP K 2 rQ)
theorem Vf(T:Txt K mg t):OV P w K mg base t:=
 jO (k:=0) [false,false] Ji T.F2.fn eC rfl rfl (by decide) λcQ A outer s H E hr=>(by
  have eS:=j6 hr;exact⟨_,(bA (cZ (i:=2) eC.nd rfl (Or.inl rfl) (OO ‹_› (ak 1) (gy (d:=.bh) xS)))
   (bA (cZ (i:=3) eC.nd rfl (Or.inl rfl) (bQ (lI (ay (ak 1) aV))))
   (bA (zw 1000000 PassesOwn.never (ue (ak 3))
   (bA (cZ (i:=4) eC.nd rfl (Or.inl rfl) (lI aV))
   (bA (rU PassesOwn.never (ak 3) (fw (i:=5) eC.nd rfl (Or.inl rfl)) fy
   (cu (X9 PassesOwn.never (cM ‹_› (ak 0) (ak 5)) (fw (i:=6) eC.nd rfl (Or.inl rfl)) fy
   (cu (ju (PW.pt (zQ (gv Cz CA (cM ‹_› (cM ‹_› (ak 0) (ak 5)) (ak 6)) dI) (BV (gv (vP K ‹_›) (pq true) (ak 6) (ak 2)))))
   (bA (zS (ak 5) (ak 2) (ak 6) ‹_›)
   (cu (nh (qQ PySem.F.slot_list_append PySem.F.type_list_append uM uN (ak 4) (ay (ak 6) aV)))))
   jx)))))
   (cu (cZ (i:=3) eC.nd rfl (Or.inl rfl) (bQ (ak 4)))))))
   (cu (ik (t9 (ak 2))))))),rfl⟩)
theorem kE:aL ["net","came","end","there","here"] ["net","came","end"] (dM Kd):=dO
def Kf:GS:=(aU (av 3 (af 2)) (gf (gT (gB (kY true) (gB bM (af 1) (af 3)) (gC .bh))) (aU (av 4 (gB bM (af 1) (af 3))) (aU (um (λi j=>i - j) 0 (sV 4) (sV 3) (sC (.int 1))) (aU (um (λi j=>i+j) 0 (sV 3) (sV 4) (sC (.int 1))) (av 3 (af 4))))) 1000000))
def zV:GM:=runM 5 [true,false,false] Kf
variable(P w K mg base t)in
abbrev Rg:Prop:=bN P w K mg base gd 1 t.f3 t.d3 ["net","came","end"] (gP K 3 zV)
theorem X'(T:Txt K mg t):Rg P w K mg base t:=
 jO (k:=0) [true,false,false] Kf T.F3.fn kE rfl rfl (by decide) λcQ A outer s H E hr=>(by
  have eS:=j6 hr;exact⟨_,(bA (cZ (i:=3) kE.nd rfl (Or.inl rfl) (ak 2))
   (cu (zw 1000000 PassesOwn.never (gv Px (Kv true) (cM ‹_› (ak 1) (ak 3)) (gy (d:=.bh) xS))
   (bA (cZ (i:=4) kE.nd rfl (Or.inl rfl) (cM ‹_› (ak 1) (ak 3)))
   (bA (PX Y5 (pv 0) (pv 4) uV (pv 3) uV Ge (K1 (d:=.int 1) rfl) ‹_›)
   (bA (PX QL (pv 0) (pv 3) uV (pv 4) uV Ge (K1 (d:=.int 1) rfl) ‹_›)
   (cu (cZ (i:=3) kE.nd rfl (Or.inl rfl) (ak 4))))))))),rfl⟩)
theorem kZ:aL ["house","name","belt"] ["house","name"] (dM Iw):=dO
def IB:GS:=(aU (eI (gB bM (af 0) (gC (.int 0))) (bp 2) (cH (gT (gB oEq (gB bM (af 2) (gC (.int 0))) (af 1))) (ba (aY .tup (aq (gB bM (af 2) (gC (.int 0))) (aq (gB bM (af 2) (gC (.int 1))) (aq (gB bM (af 2) (gC (.int 2))) (aq (ax (gO i_ (aq (gB bM (af 2) (gC (.int 3))) gN))) gN)))))) bL)) (ba (gC .bh)))
def BH:GM:=runM 3 [false,false] IB
variable(P w K mg base t)in
abbrev Ob:Prop:=bN P w K mg base gd 1 t.f4 t.d4 ["house","name"] (gP K 2 BH)
theorem Ug(T:Txt K mg t):Ob P w K mg base t:=
 jO (k:=0) [false,false] IB T.F4.fn kZ rfl rfl (by decide) λcQ A outer s H E hr=>(by
  have pH:=vX hr;have eS:=j6 hr;exact⟨_,(bA (rU PassesOwn.never (cM ‹_› (ak 0) dI) (fw (i:=2) kZ.nd rfl (Or.inl rfl)) fy
   (cu (ju (gv (uT K ‹_›) uW (cM ‹_› (ak 2) dI) (ak 1))
   (cu (ik (iT (ay (cM ‹_› (ak 2) dI) (ay (cM ‹_› (ak 2) dI) (ay (cM ‹_› (ak 2) dI) (ay (bQ (xu (EN K) FJ T.kQ BS (ay (cM ‹_› (ak 2) dI) aV))) aV)))))))
   jx)))
   (cu (ik (gy (d:=.bh) xS)))),rfl⟩)
theorem eA:aL ["house","cart","known","name","long","ring","outs","behind"] ["house","cart"] (dM Fq):=dO
def Jj:GS:=(aU (av 2 (zU (af 1) (gC (.int 0)))) (aU (J9 (gB bM (af 0) (gC (.int 0))) (eG [(bp 3),(bp 4),(bp 5),(bp 6)]) (aU (av 7 (ax (kq (jG (af 6)) (bp 0) (gT (gB (cw false) (af 0) (af 1))) (gB bM (af 1) (af 0)) 1 [2]))) (cH (g_ (af 7)) (gD (ax (gB cn (af 4) (gO sX (aq (af 7) gN)))) (af 2) (af 3)) bL))) (ba (fA (af 2)))))
def Ft:GM:=runM 8 [false,false] Jj
variable(P w K mg base t)in
abbrev OW:Prop:=bN P w K mg base gd 1 t.f8 t.d8 ["house","cart"] (gP K 2 Ft)
theorem Vg(T:Txt K mg t):OW P w K mg base t:=
 jO (k:=0) [false,false] Jj T.F8.fn eA rfl rfl (by decide) λcQ A outer s H E hr=>(by
  have eS:=j6 hr;exact⟨_,(bA (cZ (i:=2) eA.nd rfl (Or.inr rfl) (OO ‹_› (ak 1) dI))
   (bA (XQ PassesOwn.never T.pw (cM ‹_› (ak 0) dI) (zO rfl (l6 (fw (i:=3) eA.nd rfl (Or.inl rfl)) (l6 (fw (i:=4) eA.nd rfl (Or.inl rfl)) (l6 (fw (i:=5) eA.nd rfl (Or.inl rfl)) (l6 (fw (i:=6) eA.nd rfl (Or.inl rfl)) zE))))) (zR (l9 fy (l9 fy (l9 fy (l9 fy zG)))))
   (bA (zB (i:=7) uQ (k:=1) (aX:=[2]) fy (M:=["out","known"]) (cf.of (dM Fq).names ["house","cart","known","name","long","ring","outs","behind"] (by decide +kernel)) eA.nd rfl (Or.inl rfl) (uO K (bQ (ak 6)))
    (λ_ _ _ _=>(fw (i:=0) (show List.Nodup (["out","known"]:List Str) by decide +kernel) rfl (Or.inl rfl))) (λ_ _ _ _=>(FO (gv (xW K ‹_›) (pq false) (ak 0) (ak 1)))) (λ_ _ _ _=>(cM ‹_› (ak 1) (ak 0))))
   (cu (ju (ue (ak 7))
   (cu (zS (bQ (dq (iE K) iF (ak 4) (l8 (V' K) Zu T.Cv PyProof.Rows.Boot.min (ay (ak 7) aV)))) (ak 2) (ak 3) ‹_›))
   jx))))
   (cu (ik (t9 (ak 2)))))),rfl⟩)
theorem Ya:aL ["place","moment"] ["place","moment"] (dM Ke):=dO
def Kg:GS:=(ba (aY .tup (aq (ax (aY .tup (aq (gB bM (af 0) (gC (.int 0))) (aq (gB bM (af 0) (gC (.int 1))) (aq (af 1) gN))))) (aq (gC (.str "into")) gN))))
def uo:GM:=runM 2 [false,false] Kg
variable(P w K mg base t)in
abbrev Gx:Prop:=bN P w K mg base gd 1 t.An t.Ag ["place","moment"] (gP K 2 uo)
theorem Yb(T:Txt K mg t):Gx P w K mg base t:=
 jO (k:=0) [false,false] Kg T.F10.fn Ya rfl rfl (by decide) λcQ A outer s H E hr=>(by
  have eS:=j6 hr;exact⟨_,(cu (ik (iT (ay (bQ (iT (ay (cM ‹_› (ak 0) dI) (ay (cM ‹_› (ak 0) dI) (ay (ak 1) aV))))) (ay (gy (d:=.str "into") rT) aV))))),rfl⟩)
theorem oB:aL ["net","behind","went"] ["net","behind"] (dM FV):=dO
def JM:GS:=(aU (av 2 (ax (kq (tT (gB bM (af 0) (af 1))) (bp 0) (gT (gB wR (gB bM (gB bM (af 2) (af 0)) (af 1)) (gC (.int 0)))) (af 0) 1 [1,0]))) (ba (gB bM (af 2) (gC (.int 0)))))
def xO:GM:=runM 3 [false,false] JM
variable(P w K mg base t)in
abbrev PZ:Prop:=bN P w K mg base gd 1 t.Aw t.CK ["net","behind"] (gP K 2 xO)
theorem Wy(T:Txt K mg t):PZ P w K mg base t:=
 jO (k:=0) [false,false] JM T.F14.fn oB rfl rfl (by decide) λcQ A outer s H E hr=>(by
  have eS:=j6 hr;exact⟨_,(bA (zB (i:=2) Wr (k:=1) (aX:=[1,0]) fy (M:=["there","behind","net"]) (cf.of (dM FV).names ["net","behind","went"] (by decide +kernel)) oB.nd rfl (Or.inl rfl) (X5 K (bQ (cM ‹_› (ak 0) (ak 1))))
    (λ_ _ _ _=>(fw (i:=0) (show List.Nodup (["there","behind","net"]:List Str) by decide +kernel) rfl (Or.inl rfl))) (λ_ _ _ _=>(FO (gv Cz CA (cM ‹_› (cM ‹_› (ak 2) (ak 0)) (ak 1)) dI))) (λ_ _ _ _=>(ak 0)))
   (cu (ik (cM ‹_› (ak 2) dI)))),rfl⟩)
theorem mE:aL ["_law_script","_law_cells_here"] ["_law_script"] (dM Jf):=dO
def Jk:GS:=(aU (av 1 (ax (gB cn (v9 (af 0) zT (xY (gC (.int 2)))) (aY .lst (aq (gC (.int 0)) (aq (gC (.int 0)) gN)))))) (ba (aY .lst (aq (ax (v9 (af 0) zT (xY (gC (.int 63))))) (aq (gC (.int 0)) (aq (gC (.int 0)) (aq (gB oMod (gB bM (af 1) (gC (.int 0))) (gC (.int 2))) (aq (gB bM (af 1) (gC (.int 1))) gN))))))))
def zD:GM:=runM 2 [false] Jk
variable(P w K mg base t)in
abbrev OX:Prop:=bN P w K mg base gd 1 t.AA t.CN ["_law_script"] (gP K 1 zD)
theorem Vh(T:Txt K mg t):OX P w K mg base t:=
 jO (k:=0) [false] Jk T.F17.fn mE rfl rfl (by decide) λcQ A outer s H E hr=>(by
  have eS:=j6 hr;exact⟨_,(bA (cZ (i:=1) mE.nd rfl (Or.inl rfl) (bQ (dq (iE K) iF (Fj (ak 0) FL (FN dI)) (lI (ay dI (ay dI aV))))))
   (cu (ik (lI (ay (bQ (Fj (ak 0) FL (FN dI))) (ay dI (ay dI (ay (dq ud uh (cM ‹_› (ak 1) dI) dI) (ay (cM ‹_› (ak 1) dI) aV))))))))),rfl⟩)
theorem gI:aL ["_law_feed_here","_law_many","_law_found","_law_at","_law_cell"] ["_law_feed_here","_law_many"] (dM Jg):=dO
def Jl:GS:=(aU (cH (gT (gB oEq (gB bM (af 0) (gC (.int 3))) (gC (.int 1)))) (aU (av 2 (gB oMod (gB bM (af 0) (gC (.int 4))) (af 1))) (aU (gD (gB mB (gB bM (af 0) (gC (.int 4))) (af 1)) (af 0) (gC (.int 4))) (ba (af 2)))) bL) (aU (av 3 (gB bM (af 0) (gC (.int 1)))) (aU (gD (ax (gB cn (af 3) (gC (.int 1)))) (af 0) (gC (.int 1))) (aU (av 4 (af 3)) (aU (cH (gT (gB wR (gO iJ (aq (gB bM (af 0) (gC (.int 0))) gN)) (gC (.int 0)))) (av 4 (ax (gB cn (gB bM (gB bM (af 0) (gC (.int 0))) (gB oMod (af 3) (gO iJ (aq (gB bM (af 0) (gC (.int 0))) gN)))) (gB ic (gB mB (af 3) (gO iJ (aq (gB bM (af 0) (gC (.int 0))) gN))) (gC (.int 31)))))) bL) (ba (gB oMod (gB oMod (gB ic (gB oMod (gB cn (gB ic (af 4) (gC (.int 48271))) (gB ic (gC (.int 31)) (af 3))) (gC (.int 1000003))) (gC (.int 69621))) (gC (.int 999983))) (af 1))))))))
def oQ:GM:=runM 5 [true,false] Jl
variable(P w K mg base t)in
abbrev Fu:Prop:=bN P w K mg base gd 1 t.AB t.CO ["_law_feed_here","_law_many"] (gP K 2 oQ)
theorem Vi(T:Txt K mg t):Fu P w K mg base t:=
 jO (k:=0) [true,false] Jl T.F18.fn gI rfl rfl (by decide) λcQ A outer s H E hr=>(by
  have pH:=vX hr;have eS:=j6 hr;exact⟨_,(bA (ju (gv (uT K ‹_›) uW (cM ‹_› (ak 0) dI) dI)
   (bA (cZ (i:=2) gI.nd rfl (Or.inl rfl) (dq ud uh (cM ‹_› (ak 0) dI) (ak 1)))
   (bA (zS (dq BQ BX (cM ‹_› (ak 0) dI) (ak 1)) (ak 0) dI ‹_›)
   (cu (ik (ak 2)))))
   jx)
   (bA (cZ (i:=3) gI.nd rfl (Or.inl rfl) (cM ‹_› (ak 0) dI))
   (bA (zS (bQ (dq (iE K) iF (ak 3) dI)) (ak 0) dI ‹_›)
   (bA (cZ (i:=4) gI.nd rfl (Or.inl rfl) (ak 3))
   (bA (ju (gv Cz CA (l8 (qI K) qP T.gz qO (ay (cM ‹_› (ak 0) dI) aV)) dI)
   (cu (cZ (i:=4) gI.nd rfl (Or.inl rfl) (bQ (dq (iE K) iF (cM ‹_› (cM ‹_› (ak 0) dI) (dq ud uh (ak 3) (l8 (qI K) qP T.gz qO (ay (cM ‹_› (ak 0) dI) aV)))) (dq vY v7 (dq BQ BX (ak 3) (l8 (qI K) qP T.gz qO (ay (cM ‹_› (ak 0) dI) aV))) dI)))))
   jx)
   (cu (ik (dq ud uh (dq ud uh (dq vY v7 (dq ud uh (dq (iE K) iF (dq vY v7 (ak 4) dI) (dq vY v7 dI (ak 3))) dI) dI) dI) (ak 1))))))))),rfl⟩)
theorem mF:aL ["_law_style","_law_k","_law_letter"] ["_law_style","_law_k"] (dM Jh):=dO
def Jm:GS:=(aU (av 2 (gB bM (gC (.str "abcdefghijk")) (gB oMod (gB cn (gB ic (af 1) (gC (.int 4))) (af 0)) (gC (.int 11))))) (aU (cH (gT (gB oEq (gB oMod (af 0) (gC (.int 3))) (gC (.int 0)))) (ba (gB cn (gB cn (gB ic (gC (.str "q")) (gB oMod (gB mB (af 0) (gC (.int 3))) (gC (.int 3)))) (af 2)) (v9 (gC (.str "zq")) zT (xY (gB mB (af 0) (gC (.int 9))))))) bL) (aU (cH (gT (gB oEq (gB oMod (af 0) (gC (.int 3))) (gC (.int 1)))) (ba (AQ (gT (gB oLt (af 1) (gC (.int 8)))) (gB ic (gC (.str "b")) (gB cn (af 1) (gC (.int 1)))) (gB ic (gC (.str "c")) (gB sY (af 1) (gC (.int 7)))))) bL) (ba (af 2)))))
def vW:GM:=runM 3 [false,false] Jm
variable(P w K mg base t)in
abbrev OY:Prop:=bN P w K mg base gd 1 t.AD t.CP ["_law_style","_law_k"] (gP K 2 vW)
theorem Vj(T:Txt K mg t):OY P w K mg base t:=
 jO (k:=0) [false,false] Jm T.F19.fn mF rfl rfl (by decide) λcQ A outer s H E hr=>(by
  have pH:=vX hr;have eS:=j6 hr;exact⟨_,(bA (cZ (i:=2) mF.nd rfl (Or.inl rfl) (cM ‹_› (gy (d:=.str "abcdefghijk") rT) (dq ud uh (dq (iE K) iF (dq vY v7 (ak 1) dI) (ak 0)) dI)))
   (bA (ju (gv (uT K ‹_›) uW (dq ud uh (ak 0) dI) dI)
   (cu (ik (dq (iE K) iF (dq (iE K) iF (dq vY v7 (gy (d:=.str "q") rT) (dq ud uh (dq BQ BX (ak 0) dI) dI)) (ak 2)) (Fj (gy (d:=.str "zq") rT) FL (FN (dq BQ BX (ak 0) dI))))))
   jx)
   (bA (ju (gv (uT K ‹_›) uW (dq ud uh (ak 0) dI) dI)
   (cu (ik (Kt (gv Aa Ab (ak 1) dI) (dq vY v7 (gy (d:=.str "b") rT) (dq (iE K) iF (ak 1) dI)) (dq vY v7 (gy (d:=.str "c") rT) (dq Gf Gk (ak 1) dI)))))
   jx)
   (cu (ik (ak 2)))))),rfl⟩)
theorem dr:aL ["_law_house_here","_law_found","_law_name_here","_law_long","_law_ring","_law_outs_here"] ["_law_house_here"] (dM E7):=dO
def IC:GS:=(aU (av 1 (ax (aY .lst gN))) (aU (eI (gB bM (af 0) (gC (.int 0))) (eG [(bp 2),(bp 3),(bp 4),(bp 5)]) (av 1 (ax (gB cn (af 1) (kq (mG (aq (af 3) gN)) (bp 0) fm (ax (aY .tup (aq (af 1) (aq (af 0) gN)))) 1 [2]))))) (ba (af 1))))
def E9:GM:=runM 6 [false] IC
variable(P w K mg base t)in
abbrev Oc:Prop:=bN P w K mg base gd 1 t.AG t.CU ["_law_house_here"] (gP K 1 E9)
theorem Uh(T:Txt K mg t):Oc P w K mg base t:=
 jO (k:=0) [false] IC T.F22.fn dr rfl rfl (by decide) λcQ A outer s H E hr=>(by
  have eS:=j6 hr;exact⟨_,(bA (cZ (i:=1) dr.nd rfl (Or.inl rfl) (bQ (lI aV)))
   (bA (rU PassesOwn.never (cM ‹_› (ak 0) dI) (zO rfl (l6 (fw (i:=2) dr.nd rfl (Or.inr rfl)) (l6 (fw (i:=3) dr.nd rfl (Or.inl rfl)) (l6 (fw (i:=4) dr.nd rfl (Or.inl rfl)) (l6 (fw (i:=5) dr.nd rfl (Or.inl rfl)) zE))))) (zR (l9 fy (l9 fy (l9 fy (l9 fy zG)))))
   (cu (cZ (i:=1) dr.nd rfl (Or.inl rfl) (bQ (dq (iE K) iF (ak 1) (BZ QY (k:=1) (aX:=[2]) fy (M:=["_law_cell","_law_name_here"]) (cf.of (dM E7).names ["_law_house_here","_law_found","_law_name_here","_law_long","_law_ring","_law_outs_here"] (by decide +kernel)) (Im (by rfl) T.gZ (ay (ak 3) aV))
    (λ_ _ _ _=>(fw (i:=0) (show List.Nodup (["_law_cell","_law_name_here"]:List Str) by decide +kernel) rfl (Or.inl rfl))) (λ_ _ _ _=>vZ) (λ_ _ _ _=>(bQ (iT (ay (ak 1) (ay (ak 0) aV)))))))))))
   (cu (ik (ak 1))))),rfl⟩)
theorem cW:aL ["_law_house_here","_law_place","_law_names","_law_name_here","_law_long","_law_ring","_law_outs_here","_law_found","_law_out"] ["_law_house_here","_law_place"] (dM E8):=dO
def qy:GS:=(kb (ir oS (af 7) (aq (ax (AQ (gT (gB (cw false) (af 8) (af 2))) (aY .tup (aq (af 8) (aq (gC (.int 0)) gN))) (af 8))) gN)))
def stepT:GS:=(aU (cH (gT (gB oLt (gB cn (gB bM (af 1) (gC (.int 1))) (gC (.int 1))) (af 4))) (ba (aY .lst (aq (ax (aY .tup (aq (af 3) (aq (ax (gB cn (gB bM (af 1) (gC (.int 1))) (gC (.int 1)))) gN)))) gN))) bL) (aU (av 7 (aY .lst gN)) (aU (eI (af 6) (bp 8) qy) (aU (cH (g_ (af 5)) (kb (ir oS (af 7) (aq (ax (aY .tup (aq (af 3) (aq (gC (.int 0)) gN)))) gN))) bL) (ba (fA (af 7)))))))
def ID:GS:=aU (av 2 (ax (kq (jG (gB bM (af 0) (gC (.int 0)))) (bp 0) fm (gB bM (af 0) (gC (.int 0))) 1 []))) (aU (n8 (eG [(bp 3),(bp 4),(bp 5),(bp 6)]) (gB bM (gB bM (af 0) (gC (.int 0))) (Ci Cj (af 2) (aq (gB bM (af 1) (gC (.int 0))) gN)))) stepT)
def BI:GM:=runM 9 [false,false] ID
variable(P w K mg base t)in
abbrev Od:Prop:=bN P w K mg base gd 1 t.AH t.CV ["_law_house_here","_law_place"] (gP K 2 BI)
theorem Ui(T:Txt K mg t):Od P w K mg base t:=
 jO (k:=0) [false,false] ID T.F23.fn cW rfl rfl (by decide) λcQ A outer s H E hr=>(by
  have eS:=j6 hr;exact⟨_,(bA (zB (i:=2) uQ (k:=1) (aX:=[]) fy (M:=["_law_belt"]) (cf.of (dM E8).names ["_law_house_here","_law_place","_law_names","_law_name_here","_law_long","_law_ring","_law_outs_here","_law_found","_law_out"] (by decide +kernel)) cW.nd rfl (Or.inl rfl) (uO K (bQ (cM ‹_› (ak 0) dI)))
    (λ_ _ _ _=>(fw (i:=0) (show List.Nodup (["_law_belt"]:List Str) by decide +kernel) rfl (Or.inl rfl))) (λ_ _ _ _=>vZ) (λ_ _ _ _=>(cM ‹_› (ak 0) dI)))
   (bA (Q8 (cM ‹_› (cM ‹_› (ak 0) dI) (We PySem.F.slot_list_index PySem.F.type_list_index (Wf K) Wg (ak 2) (ay (cM ‹_› (ak 1) dI) aV))) (zO rfl (l6 (fw (i:=3) cW.nd rfl (Or.inl rfl)) (l6 (fw (i:=4) cW.nd rfl (Or.inl rfl)) (l6 (fw (i:=5) cW.nd rfl (Or.inl rfl)) (l6 (fw (i:=6) cW.nd rfl (Or.inl rfl)) zE))))) (zR (l9 fy (l9 fy (l9 fy (l9 fy zG))))))
   (bA (ju (gv Aa Ab (dq (iE K) iF (cM ‹_› (ak 1) dI) dI) (ak 4))
   (cu (ik (lI (ay (bQ (iT (ay (ak 3) (ay (bQ (dq (iE K) iF (cM ‹_› (ak 1) dI) dI)) aV)))) aV))))
   jx)
   (bA (cZ (i:=7) cW.nd rfl (Or.inl rfl) (lI aV))
   (bA (rU PassesOwn.never (ak 6) (fw (i:=8) cW.nd rfl (Or.inl rfl)) fy
   (cu (nh (qQ PySem.F.slot_list_append PySem.F.type_list_append uM uN (ak 7) (ay (bQ (Kt (gv (xW K ‹_›) (pq false) (ak 8) (ak 2)) (iT (ay (ak 8) (ay dI aV))) (ak 8))) aV)))))
   (bA (ju (ue (ak 5))
   (cu (nh (qQ PySem.F.slot_list_append PySem.F.type_list_append uM uN (ak 7) (ay (bQ (iT (ay (ak 3) (ay dI aV)))) aV))))
   jx)
   (cu (ik (t9 (ak 7)))))))))),rfl⟩)
theorem TU:aL ["_law_house_here"] ["_law_house_here"] (dM EU):=dO
def Ie:GS:=(ba (aY .tup (aq (ax (kq (jG (gB bM (af 0) (gC (.int 0)))) (eG [(bp 0),(bp 1),(bp 2),(bp 3)]) fm (ax (aY .tup (aq (af 0) (aq (af 1) (aq (af 2) (aq (ax (gO i_ (aq (af 3) gN))) gN)))))) 4 [])) (aq (ax (gO i_ (aq (gB bM (af 0) (gC (.int 1))) gN))) gN))))
def EV:GM:=runM 1 [false] Ie
variable(P w K mg base t)in
abbrev ND:Prop:=bN P w K mg base gd 1 t.AI t.CW ["_law_house_here"] (gP K 1 EV)
theorem TV(T:Txt K mg t):ND P w K mg base t:=
 jO (k:=0) [false] Ie T.F24.fn TU rfl rfl (by decide) λcQ A outer s H E hr=>(by
  have eS:=j6 hr;exact⟨_,(cu (ik (iT (ay (bQ (BZ uQ (k:=4) (aX:=[]) (zR (l9 fy (l9 fy (l9 fy (l9 fy zG))))) (M:=["_law_name_here","_law_long","_law_ring","_law_outs_here"]) (cf.of (dM EU).names ["_law_house_here"] (by decide +kernel)) (uO K (bQ (cM ‹_› (ak 0) dI)))
    (λ_ _ _ _=>(zO rfl (l6 (fw (i:=0) (show List.Nodup (["_law_name_here","_law_long","_law_ring","_law_outs_here"]:List Str) by decide +kernel) rfl (Or.inl rfl)) (l6 (fw (i:=1) (show List.Nodup (["_law_name_here","_law_long","_law_ring","_law_outs_here"]:List Str) by decide +kernel) rfl (Or.inl rfl)) (l6 (fw (i:=2) (show List.Nodup (["_law_name_here","_law_long","_law_ring","_law_outs_here"]:List Str) by decide +kernel) rfl (Or.inl rfl)) (l6 (fw (i:=3) (show List.Nodup (["_law_name_here","_law_long","_law_ring","_law_outs_here"]:List Str) by decide +kernel) rfl (Or.inl rfl)) zE)))))) (λ_ _ _ _=>vZ) (λ_ _ _ _=>(bQ (iT (ay (ak 0) (ay (ak 1) (ay (ak 2) (ay (bQ (xu (EN K) FJ T.kQ BS (ay (ak 3) aV))) aV))))))))) (ay (bQ (xu (EN K) FJ T.kQ BS (ay (cM ‹_› (ak 0) dI) aV))) aV))))),rfl⟩)
theorem mZ:aL ["net","start","end","came"] ["net","start","end"] (dM Kc):=dO
def Kh:GS:=(aU (av 3 (ax (aJ (bor rQ) (aq (af 0) (aq (af 1) gN))))) (aU (gf (gT (gB (cw false) (af 2) (af 3))) (aU (kb (aJ zV (aq (af 0) (aq (af 3) (aq (af 2) gN))))) (av 3 (ax (aJ (bor rQ) (aq (af 0) (aq (af 1) gN)))))) 1000000) (ba (af 3))))
def Gy:GM:=runM 4 [true,false,false] Kh
variable(P w K mg base t)in
abbrev Rh:Prop:=bN P w K mg base gd 2 t.f1 t.d1 ["net","start","end"] (gP K 3 Gy)
theorem Yc(T:Txt K mg t)(g3:Rg P w K mg base t)(g2:OV P w K mg base t):Rh P w K mg base t:=
 jO (k:=1) [true,false,false] Kh T.F1.fn mZ rfl rfl (by decide) λcQ A outer s H E hr=>(by
  have eS:=j6 hr;exact⟨_,(bA (cZ (i:=3) mZ.nd rfl (Or.inl rfl) (bQ (fR T.F2 (Rf g2) hr.le (ay (ak 0) (ay (ak 1) aV)) (bq (bq eP)))))
   (bA (zw 1000000 PassesOwn.never (gv (xW K ‹_›) (pq false) (ak 2) (ak 3))
   (bA (nh (fR T.F3 g3 hr.le (ay (ak 0) (ay (ak 3) (ay (ak 2) aV))) (bq (bq (bq eP)))))
   (cu (cZ (i:=3) mZ.nd rfl (Or.inl rfl) (bQ (fR T.F2 (Rf g2) hr.le (ay (ak 0) (ay (ak 1) aV)) (bq (bq eP))))))))
   (cu (ik (ak 3))))),rfl⟩)
theorem k_:aL ["house","place","belt","told"] ["house","place"] (dM FU):=dO
def JN:GS:=(aU (av 2 (ax (aJ BH (aq (af 0) (aq (gB bM (af 1) (gC (.int 0))) gN))))) (aU (cH (gT (gB oLt (gB cn (gB bM (af 1) (gC (.int 1))) (gC (.int 1))) (gB bM (af 2) (gC (.int 1))))) (ba (aY .lst (aq (ax (aY .tup (aq (gB bM (af 1) (gC (.int 0))) (aq (ax (gB cn (gB bM (af 1) (gC (.int 1))) (gC (.int 1)))) gN)))) gN))) bL) (aU (av 3 (kq (jG (gB bM (af 2) (gC (.int 3)))) (bp 0) fm (ax (AQ (gT (gB (cw false) (af 0) (gB bM (af 1) (gC (.int 1))))) (af 0) (aY .tup (aq (af 0) (aq (gC (.int 0)) gN))))) 1 [0])) (aU (cH (g_ (gB bM (af 2) (gC (.int 2)))) (kb (ir oS (af 3) (aq (ax (aY .tup (aq (gB bM (af 1) (gC (.int 0))) (aq (gC (.int 0)) gN)))) gN))) bL) (ba (fA (af 3)))))))
def FW:GM:=runM 4 [false,false] JN
variable(P w K mg base t)in
abbrev P1:Prop:=bN P w K mg base gd 2 t.f5 t.d5 ["house","place"] (gP K 2 FW)
theorem Wz(T:Txt K mg t)(g4:Ob P w K mg base t):P1 P w K mg base t:=
 jO (k:=1) [false,false] JN T.F5.fn k_ rfl rfl (by decide) λcQ A outer s H E hr=>(by
  have eS:=j6 hr;exact⟨_,(bA (cZ (i:=2) k_.nd rfl (Or.inl rfl) (bQ (fR T.F4 g4 hr.le (ay (ak 0) (ay (cM ‹_› (ak 1) dI) aV)) (bq (bq eP)))))
   (bA (ju (gv Aa Ab (dq (iE K) iF (cM ‹_› (ak 1) dI) dI) (cM ‹_› (ak 2) dI))
   (cu (ik (lI (ay (bQ (iT (ay (cM ‹_› (ak 1) dI) (ay (bQ (dq (iE K) iF (cM ‹_› (ak 1) dI) dI)) aV)))) aV))))
   jx)
   (bA (XF (i:=3) uQ (k:=1) (aX:=[0]) fy (M:=["out","house"]) (cf.of (dM FU).names ["house","place","belt","told"] (by decide +kernel)) k_.nd rfl (Or.inl rfl) (uO K (bQ (cM ‹_› (ak 2) dI)))
    (λ_ _ _ _=>(fw (i:=0) (show List.Nodup (["out","house"]:List Str) by decide +kernel) rfl (Or.inl rfl))) (λ_ _ _ _=>vZ) (λ_ _ _ _=>(bQ (Kt (gv (xW K ‹_›) (pq false) (ak 0) (cM ‹_› (ak 1) dI)) (ak 0) (iT (ay (ak 0) (ay dI aV)))))))
   (bA (ju (ue (cM ‹_› (ak 2) dI))
   (cu (nh (qQ PySem.F.slot_list_append PySem.F.type_list_append uM uN (ak 3) (ay (bQ (iT (ay (cM ‹_› (ak 1) dI) (ay dI aV)))) aV))))
   jx)
   (cu (ik (t9 (ak 3)))))))),rfl⟩)
theorem tP:aL ["house","place","cart","known"] ["house","place","cart"] (dM KA):=dO
def KI:GS:=(aU (av 3 (ax (aJ Ft (aq (af 0) (aq (af 2) gN))))) (aU (cH (gT (gB (cw true) (gB bM (af 1) (gC (.int 0))) (af 3))) (ba (gC .bh)) bL) (ba (gB sY (gB bM (af 3) (gB bM (af 1) (gC (.int 0)))) (gB bM (af 1) (gC (.int 1)))))))
def uu:GM:=runM 4 [false,false,false] KI
variable(P w K mg base t)in
abbrev KJ:Prop:=bN P w K mg base gd 2 t.f7 t.d7 ["house","place","cart"] (gP K 3 uu)
theorem ZH(T:Txt K mg t)(g8:OW P w K mg base t):KJ P w K mg base t:=
 jO (k:=1) [false,false,false] KI T.F7.fn tP rfl rfl (by decide) λcQ A outer s H E hr=>(by
  have eS:=j6 hr;exact⟨_,(bA (cZ (i:=3) tP.nd rfl (Or.inl rfl) (bQ (fR T.F8 g8 hr.le (ay (ak 0) (ay (ak 2) aV)) (bq (bq eP)))))
   (bA (ju (gv (vP K ‹_›) (pq true) (cM ‹_› (ak 1) dI) (ak 3))
   (cu (ik (gy (d:=.bh) xS)))
   jx)
   (cu (ik (dq Gf Gk (cM ‹_› (ak 3) (cM ‹_› (ak 1) dI)) (cM ‹_› (ak 1) dI)))))),rfl⟩)
theorem eM:aL ["net","first","cart","told","gate","spot"] ["net","first","cart"] (dM Ib):=dO
def Ig:GS:=(aU (av 3 (aY .lst gN)) (aU (av 4 (af 1)) (aU (gf (gT (gB iw (af 4) (gC (.str "the end")))) (aU (av 5 (gB bM (af 4) (gC (.int 0)))) (aU (kb (ir oS (af 3) (aq (ax (aY .tup (aq (gB bM (af 5) (gC (.int 0))) (aq (gB bM (af 5) (gC (.int 1))) gN)))) gN))) (av 4 (ax (aJ xO (aq (af 0) (aq (ax (aY .tup (aq (af 5) (aq (gC (.str "out of")) gN)))) gN))))))) 1000000) (ba (gB cn (af 3) (aY .lst (aq (af 2) gN)))))))
def BF:GM:=runM 6 [false,false,false] Ig
variable(P w K mg base t)in
abbrev NF:Prop:=bN P w K mg base gd 2 t.Au t.CJ ["net","first","cart"] (gP K 3 BF)
theorem TX(T:Txt K mg t)(g14:PZ P w K mg base t):NF P w K mg base t:=
 jO (k:=1) [false,false,false] Ig T.F13.fn eM rfl rfl (by decide) λcQ A outer s H E hr=>(by
  have pH:=vX hr;have eS:=j6 hr;exact⟨_,(bA (cZ (i:=3) eM.nd rfl (Or.inl rfl) (lI aV))
   (bA (cZ (i:=4) eM.nd rfl (Or.inl rfl) (ak 1))
   (bA (zw 1000000 PassesOwn.never (gv (Cd K ‹_›) Ce (ak 4) (gy (d:=(.str "the end")) (xv (by rfl) T.rY)))
   (bA (cZ (i:=5) eM.nd rfl (Or.inl rfl) (cM ‹_› (ak 4) dI))
   (bA (nh (qQ PySem.F.slot_list_append PySem.F.type_list_append uM uN (ak 3) (ay (bQ (iT (ay (cM ‹_› (ak 5) dI) (ay (cM ‹_› (ak 5) dI) aV)))) aV)))
   (cu (cZ (i:=4) eM.nd rfl (Or.inl rfl) (bQ (fR T.F14 g14 hr.le (ay (ak 0) (ay (bQ (iT (ay (ak 5) (ay (gy (d:=.str "out of") rT) aV)))) aV)) (bq (bq eP)))))))))
   (cu (ik (dq (iE K) iF (ak 3) (lI (ay (ak 2) aV)))))))),rfl⟩)
theorem jU:aL ["_law_feed_here","_law_names","_law_k","_law_many","_law_outs_here","_law_j"] ["_law_feed_here","_law_names","_law_k","_law_many"] (dM Fs):=dO
def sR(ge:GE):GS:=(kb (ir xK (af 4) (aq (ax (aJ oQ (aq (af 0) (aq (ax (gB cn (gO iJ (aq (af 4) gN)) (gC (.int 1)))) gN)))) (aq ge gN))))
def qt:GS:=(cH (gT (gB oEq (aJ oQ (aq (af 0) (aq (gC (.int 3)) gN))) (gC (.int 0)))) (sR (gB bM (af 1) (af 5))) bL)
def mC:GS:=cH (jy (gT (gB oLt (gB cn (af 2) (gC (.int 1))) (af 3))) (jy (gT (gB wR (aJ oQ (aq (af 0) (aq (gC (.int 4)) gN))) (gC (.int 0)))) (gT (gB (cw true) (gB bM (af 1) (gB cn (af 2) (gC (.int 1)))) (af 4)))))
  (sR (gB bM (af 1) (gB cn (af 2) (gC (.int 1)))))
  bL
def oq:GS:=cH (jy (gT (gB (cw true) (gB bM (af 1) (af 3)) (af 4))) (mh (g_ (gO (Cg λbs=>bs.any id) (aq (kq (qw (aq (gB cn (af 2) (gC (.int 1))) (aq (af 3) gN))) (bp 0) fm (gB (cw false) (gB bM (af 2) (af 0)) (af 1)) 1 [4,1]) gN)))))
  (sR (gB bM (af 1) (af 3)))
  bL
def Jn:GS:=aU (av 4 (aY .lst gN)) (aU (IT (aq (gB cn (af 2) (gC (.int 1))) (aq (gO iJ (aq (af 1) gN)) gN)) (bp 5) qt) (aU mC (aU oq (ba (fA (af 4))))))
def Fv:GM:=runM 6 [true,false,false,false] Jn
variable(P w K mg base t)in
abbrev OZ:Prop:=bN P w K mg base gd 2 t.AE t.CS ["_law_feed_here","_law_names","_law_k","_law_many"] (gP K 4 Fv)
theorem Vk(T:Txt K mg t)(oX:Fu P w K mg base t):OZ P w K mg base t:=
 jO (k:=1) [true,false,false,false] Jn T.F20.fn jU rfl rfl (by decide) λcQ A outer s H E hr=>(by
  have pH:=vX hr;have eS:=j6 hr;exact⟨_,(bA (cZ (i:=4) jU.nd rfl (Or.inr rfl) (lI aV))
   (bA (UO PassesOwn.never T.gZ (ay (dq (iE K) iF (ak 2) dI) (ay (l8 (qI K) qP T.gz qO (ay (ak 1) aV)) aV)) (fw (i:=5) jU.nd rfl (Or.inl rfl)) fy
   (cu (ju (gv (uT K ‹_›) uW (fR T.F18 oX hr.le (ay (ak 0) (ay dI aV)) (bq (bq eP))) dI)
   (cu (nh (qQ PySem.F.slot_list_insert PySem.F.type_list_insert EY E3 (ak 4) (ay (bQ (fR T.F18 oX hr.le (ay (ak 0) (ay (bQ (dq (iE K) iF (l8 (qI K) qP T.gz qO (ay (ak 4) aV)) dI)) aV)) (bq (bq eP)))) (ay (cM ‹_› (ak 1) (ak 5)) aV)))))
   jx)))
   (bA (ju (PW.pt (zQ (gv Aa Ab (dq (iE K) iF (ak 2) dI) (ak 3)) (zQ (gv Cz CA (fR T.F18 oX hr.le (ay (ak 0) (ay dI aV)) (bq (bq eP))) dI) (BV (gv (vP K ‹_›) (pq true) (cM ‹_› (ak 1) (dq (iE K) iF (ak 2) dI)) (ak 4))))))
   (cu (nh (qQ PySem.F.slot_list_insert PySem.F.type_list_insert EY E3 (ak 4) (ay (bQ (fR T.F18 oX hr.le (ay (ak 0) (ay (bQ (dq (iE K) iF (l8 (qI K) qP T.gz qO (ay (ak 4) aV)) dI)) aV)) (bq (bq eP)))) (ay (cM ‹_› (ak 1) (dq (iE K) iF (ak 2) dI)) aV)))))
   jx)
   (bA (ju (PW.pt (zQ (gv (vP K ‹_›) (pq true) (cM ‹_› (ak 1) (ak 3)) (ak 4)) (BV (Gj (ue (l8 (U5 K) (OP _) T.Cs Zg (ay (BZ Zp (k:=1) (aX:=[4,1]) fy (M:=["_law_j","_law_outs_here","_law_names"]) (cf.of (dM Fs).names ["_law_feed_here","_law_names","_law_k","_law_many","_law_outs_here","_law_j"] (by decide +kernel)) (NM (by rfl) T.gZ (ay (dq (iE K) iF (ak 2) dI) (ay (ak 3) aV)))
    (λ_ _ _ _=>(fw (i:=0) (show List.Nodup (["_law_j","_law_outs_here","_law_names"]:List Str) by decide +kernel) rfl (Or.inl rfl))) (λ_ _ _ _=>vZ) (λ_ _ _ _=>(QR (xW K ‹_›) (pq false) (cM ‹_› (ak 2) (ak 0)) (ak 1)))) aV)))))))
   (cu (nh (qQ PySem.F.slot_list_insert PySem.F.type_list_insert EY E3 (ak 4) (ay (bQ (fR T.F18 oX hr.le (ay (ak 0) (ay (bQ (dq (iE K) iF (l8 (qI K) qP T.gz qO (ay (ak 4) aV)) dI)) aV)) (bq (bq eP)))) (ay (cM ‹_› (ak 1) (ak 3)) aV)))))
   jx)
   (cu (ik (t9 (ak 4)))))))),rfl⟩)
theorem eO:aL ["_law_feed_here","_law_house_here","_law_most","_law_cells_here","_law_places_here","_law_k","_law_place"] ["_law_feed_here","_law_house_here","_law_most"] (dM Ic):=dO
def tF:GS:=(kb (ir xK (af 4) (aq (ax (aJ oQ (aq (af 0) (aq (ax (gB cn (gO iJ (aq (af 4) gN)) (gC (.int 1)))) gN)))) (aq (af 6) gN))))
def q_:GS:=(aU (av 6 (gB bM (af 3) (aJ oQ (aq (af 0) (aq (gO iJ (aq (af 3) gN)) gN))))) (cH (gT (gB (cw true) (af 6) (af 4))) tF bL))
def Ih:GS:=(aU (av 3 (ax (aJ E9 (aq (af 1) gN)))) (aU (av 4 (aY .lst gN)) (aU (BK (aq (aJ oQ (aq (af 0) (aq (ax (gB cn (af 2) (gC (.int 1)))) gN))) gN) (bp 5) q_) (ba (fA (af 4))))))
def zj:GM:=runM 7 [true,false,false] Ih
variable(P w K mg base t)in
abbrev NG:Prop:=bN P w K mg base gd 2 t.AJ t.CY ["_law_feed_here","_law_house_here","_law_most"] (gP K 3 zj)
theorem TY(T:Txt K mg t)(g22:Oc P w K mg base t)(oX:Fu P w K mg base t):NG P w K mg base t:=
 jO (k:=1) [true,false,false] Ih T.F25.fn eO rfl rfl (by decide) λcQ A outer s H E hr=>(by
  have eS:=j6 hr;exact⟨_,(bA (cZ (i:=3) eO.nd rfl (Or.inl rfl) (bQ (fR T.F22 g22 hr.le (ay (ak 1) aV) (bq eP))))
   (bA (cZ (i:=4) eO.nd rfl (Or.inl rfl) (lI aV))
   (bA (Ip PassesOwn.never T.gZ (ay (fR T.F18 oX hr.le (ay (ak 0) (ay (bQ (dq (iE K) iF (ak 2) dI)) aV)) (bq (bq eP))) aV) (fw (i:=5) eO.nd rfl (Or.inl rfl)) fy
   (bA (cZ (i:=6) eO.nd rfl (Or.inl rfl) (cM ‹_› (ak 3) (fR T.F18 oX hr.le (ay (ak 0) (ay (l8 (qI K) qP T.gz qO (ay (ak 3) aV)) aV)) (bq (bq eP)))))
   (cu (ju (gv (vP K ‹_›) (pq true) (ak 6) (ak 4))
   (cu (nh (qQ PySem.F.slot_list_insert PySem.F.type_list_insert EY E3 (ak 4) (ay (bQ (fR T.F18 oX hr.le (ay (ak 0) (ay (bQ (dq (iE K) iF (l8 (qI K) qP T.gz qO (ay (ak 4) aV)) dI)) aV)) (bq (bq eP)))) (ay (ak 6) aV)))))
   jx))))
   (cu (ik (t9 (ak 4))))))),rfl⟩)
theorem fF:aL ["_law_house_here","_law_place","_law_cart","_law_met","_law_at","_law_step"] ["_law_house_here","_law_place","_law_cart"] (dM Iz):=dO
def qk:GS:=(aU (cH (gT (gB oEq (af 5) (af 2))) (ba (gC (.bl true))) bL) (cH (jy (mh (g_ (gO iu (aq (af 5) (aq (gC (.ty "str")) gN))))) (gT (gB (cw true) (af 5) (af 3)))) (kb (ir oS (af 3) (aq (af 5) gN))) bL))
def yi:GT:=(gT (gB oLt (af 4) (gO iJ (aq (af 3) gN))))
def uZ:GS:=(aU (eI (aJ BI (aq (af 0) (aq (gB bM (af 3) (af 4)) gN))) (bp 5) qk) (av 4 (ax (gB cn (af 4) (gC (.int 1))))))
def IE:GS:=(aU (av 3 (aY .lst (aq (af 1) gN))) (aU (av 4 (gC (.int 0))) (aU (gf yi uZ 1000000) (ba (gC (.bl false))))))
def BJ:GM:=runM 6 [false,false,false] IE
variable(P w K mg base t)in
abbrev Oe:Prop:=bN P w K mg base gd 2 t.AK t.CZ ["_law_house_here","_law_place","_law_cart"] (gP K 3 BJ)
theorem Uj(T:Txt K mg t)(g23:Od P w K mg base t):Oe P w K mg base t:=
 jO (k:=1) [false,false,false] IE T.F26.fn fF rfl rfl (by decide) λcQ A outer s H E hr=>(by
  have pH:=vX hr;have eS:=j6 hr;exact⟨_,(bA (cZ (i:=3) fF.nd rfl (Or.inl rfl) (lI (ay (ak 1) aV)))
   (bA (cZ (i:=4) fF.nd rfl (Or.inl rfl) dI)
   (bA (zw 1000000 PassesOwn.never (gv Aa Ab (ak 4) (l8 (qI K) qP T.gz qO (ay (ak 3) aV)))
   (bA (rU PassesOwn.never (fR T.F23 g23 hr.le (ay (ak 0) (ay (cM ‹_› (ak 3) (ak 4)) aV)) (bq (bq eP))) (fw (i:=5) fF.nd rfl (Or.inl rfl)) fy
   (bA (ju (gv (uT K ‹_›) uW (ak 5) (ak 2))
   (cu (ik (gy (d:=.bl true) rD)))
   jx)
   (cu (ju (PW.pt (zQ (Gj (ue (l8 (Io K) J5 T.cG J3 (ay (ak 5) (ay (gy (d:=.ty "str") (Ks (by rfl) T.Cw Ze)) aV))))) (BV (gv (vP K ‹_›) (pq true) (ak 5) (ak 3)))))
   (cu (nh (qQ PySem.F.slot_list_append PySem.F.type_list_append uM uN (ak 3) (ay (ak 5) aV))))
   jx))))
   (cu (cZ (i:=4) fF.nd rfl (Or.inl rfl) (bQ (dq (iE K) iF (ak 4) dI))))))
   (cu (ik (gy (d:=.bl false) rD)))))),rfl⟩)
theorem WA:aL ["house","place"] ["house","place"] (dM JL):=dO
def JO:GS:=(ba (gB cn (aJ FW (aq (af 0) (aq (af 1) gN))) (aY .lst (aq (af 1) gN))))
def zM:GM:=runM 2 [false,false] JO
variable(P w K mg base t)in
abbrev P4:Prop:=bN P w K mg base gd 3 t.f6 t.d6 ["house","place"] (gP K 2 zM)
theorem WB(T:Txt K mg t)(g5:P1 P w K mg base t):P4 P w K mg base t:=
 jO (k:=2) [false,false] JO T.F6.fn WA rfl rfl (by decide) λcQ A outer s H E hr=>(by
  exact⟨_,(cu (ik (dq (iE K) iF (fR T.F5 g5 hr.le (ay (ak 0) (ay (ak 1) aV)) (bq (bq eP))) (lI (ay (ak 1) aV))))),rfl⟩)
theorem ja:aL ["house","places","cart","place"] ["house","places","cart"] (dM HX):=dO
def wj:GS:=(cH (gT (gB (kY false) (ph uu (aq (af 0) (aq (af 3) (aq (af 2) gN)))) (gC .bh))) (JJ 85 (gC (.str "from one of the places the cart can never be come to"))) bL)
def HY:GS:=eI (af 1) (bp 3) wj
def xt:GM:=runM 4 [false,false,false] HY
variable(P w K mg base t)in
abbrev Na:Prop:=bN P w K mg base (t4 P w) 3 t.Az t.CM ["house","places","cart"] (xq K 3 xt)
theorem TC(T:Txt K mg t)(g7:KJ P w K mg base t):Na P w K mg base t:=
 PM (k:=2) [false,false,false] HY T.F16.fn ja rfl rfl (by decide) λcQ A outer s H E hr=>(by
  exact⟨_,(cu (rU RO (ak 1) (fw (i:=3) ja.nd rfl (Or.inl rfl)) fy
   (cu (ju (gv Zm (Kv false) (Fm T.F7 g7 hr.le (ay (ak 0) (ay (ak 3) (ay (ak 2) aV))) (bq (bq (bq eP)))) (gy (d:=.bh) xS))
   (cu (Wo (T.er.ix (i:=4) rfl).2.1 T.er.G0 (T.er.ix (i:=4) rfl).2.2.2 (T.er.ix (i:=4) rfl).1 PK (gy (d:=.str "from one of the places the cart can never be come to") rT)))
   jx)))),rfl⟩)
theorem bC:aL ["_law_feed_here","_law_many","_law_long","_law_great","_law_style","_law_names","_law_belts","_law_k","_law_ring","_law_cells_here"] ["_law_feed_here"] (dM E6):=dO
def AZ:GS:=(cH (gT (gB oEq (af 3) (gC (.int 5)))) (aU (av 1 (gC (.int 6))) (av 2 (gC (.int 5)))) bL)
def A_:GS:=(cH (gT (gB oEq (af 3) (gC (.int 6)))) (aU (av 1 (ax (gB cn (gC (.int 1)) (gB mB (af 1) (gC (.int 3)))))) (av 2 (gC (.int 14)))) bL)
def wN:GE:=(kq (mG (aq (gB cn (gB cn (af 1) (gC (.int 1))) (aJ oQ (aq (af 0) (aq (gC (.int 3)) gN)))) gN)) (bp 0) fm (ph vW (aq (af 1) (aq (af 0) gN))) 1 [4])
def qh:GS:=(aU (av 8 (gB oEq (aJ oQ (aq (af 0) (aq (gC (.int 3)) gN))) (gC (.int 0)))) (aU (av 9 (ax (gB cn (gB cn (gC (.int 1)) (gO om (aq (af 8) gN))) (aJ oQ (aq (af 0) (aq (gB sY (af 2) (gO om (aq (af 8) gN))) gN)))))) (kb (ir oS (af 6) (aq (ax (aY .tup (aq (gB bM (af 5) (af 7)) (aq (af 9) (aq (af 8) (aq (ax (aJ Fv (aq (af 0) (aq (af 5) (aq (af 7) (aq (af 1) gN)))))) gN)))))) gN)))))
def oA:GS:=(aU (av 4 (ax (aJ oQ (aq (af 0) (aq (gC (.int 27)) gN))))) (aU (av 5 (ax wN)) (aU (av 6 (aY .lst gN)) (aU (BK (aq (af 1) gN) (bp 7) qh) (ba (aY .tup (aq (fA (af 6)) (aq (ax (v9 (af 5) (xY (af 1)) zT)) gN))))))))
def IF:GS:=aU (av 1 (ax (gB cn (gC (.int 1)) (aJ oQ (aq (af 0) (aq (gC (.int 4)) gN)))))) (aU (av 2 (gC (.int 4))) (aU (av 3 (ax (aJ oQ (aq (af 0) (aq (gC (.int 8)) gN))))) (aU AZ (aU A_ oA))))
def zt:GM:=runM 10 [true] IF
variable(P w K mg base t)in
abbrev Of:Prop:=bN P w K mg base gd 3 t.AF t.CT ["_law_feed_here"] (gP K 1 zt)
theorem Uk(T:Txt K mg t)(oX:Fu P w K mg base t)(g19:OY P w K mg base t)(g20:OZ P w K mg base t):Of P w K mg base t:=
 jO (k:=2) [true] IF T.F21.fn bC rfl rfl (by decide) λcQ A outer s H E hr=>(by
  have pH:=vX hr;have eS:=j6 hr;exact⟨_,(bA (cZ (i:=1) bC.nd rfl (Or.inl rfl) (bQ (dq (iE K) iF dI (fR T.F18 oX hr.le (ay (ak 0) (ay dI aV)) (bq (bq eP))))))
   (bA (cZ (i:=2) bC.nd rfl (Or.inl rfl) dI)
   (bA (cZ (i:=3) bC.nd rfl (Or.inl rfl) (bQ (fR T.F18 oX hr.le (ay (ak 0) (ay dI aV)) (bq (bq eP)))))
   (bA (ju (gv (uT K ‹_›) uW (ak 3) dI)
   (bA (cZ (i:=1) bC.nd rfl (Or.inl rfl) dI)
   (cu (cZ (i:=2) bC.nd rfl (Or.inl rfl) dI)))
   jx)
   (bA (ju (gv (uT K ‹_›) uW (ak 3) dI)
   (bA (cZ (i:=1) bC.nd rfl (Or.inl rfl) (bQ (dq (iE K) iF dI (dq BQ BX (ak 1) dI))))
   (cu (cZ (i:=2) bC.nd rfl (Or.inl rfl) dI)))
   jx)
   (bA (cZ (i:=4) bC.nd rfl (Or.inr rfl) (bQ (fR T.F18 oX hr.le (ay (ak 0) (ay dI aV)) (bq (bq eP)))))
   (bA (zB (i:=5) QY (k:=1) (aX:=[4]) fy (M:=["_law_k","_law_style"]) (cf.of (dM E6).names ["_law_feed_here","_law_many","_law_long","_law_great","_law_style","_law_names","_law_belts","_law_k","_law_ring","_law_cells_here"] (by decide +kernel)) bC.nd rfl (Or.inl rfl) (Im (by rfl) T.gZ (ay (dq (iE K) iF (dq (iE K) iF (ak 1) dI) (fR T.F18 oX hr.le (ay (ak 0) (ay dI aV)) (bq (bq eP)))) aV))
    (λ_ _ _ _=>(fw (i:=0) (show List.Nodup (["_law_k","_law_style"]:List Str) by decide +kernel) rfl (Or.inl rfl))) (λ_ _ _ _=>vZ) (λ_ _ _ _=>(Fm T.F19 g19 hr.le (ay (ak 1) (ay (ak 0) aV)) (bq (bq eP)))))
   (bA (cZ (i:=6) bC.nd rfl (Or.inl rfl) (lI aV))
   (bA (Ip PassesOwn.never T.gZ (ay (ak 1) aV) (fw (i:=7) bC.nd rfl (Or.inl rfl)) fy
   (bA (cZ (i:=8) bC.nd rfl (Or.inl rfl) (QR (uT K ‹_›) uW (fR T.F18 oX hr.le (ay (ak 0) (ay dI aV)) (bq (bq eP))) dI))
   (bA (cZ (i:=9) bC.nd rfl (Or.inl rfl) (bQ (dq (iE K) iF (dq (iE K) iF dI (xu NO PC T.wb QO (ay (ak 8) aV))) (fR T.F18 oX hr.le (ay (ak 0) (ay (dq Gf Gk (ak 2) (xu NO PC T.wb QO (ay (ak 8) aV))) aV)) (bq (bq eP))))))
   (cu (nh (qQ PySem.F.slot_list_append PySem.F.type_list_append uM uN (ak 6) (ay (bQ (iT (ay (cM ‹_› (ak 5) (ak 7)) (ay (ak 9) (ay (ak 8) (ay (bQ (fR T.F20 g20 hr.le (ay (ak 0) (ay (ak 5) (ay (ak 7) (ay (ak 1) aV)))) (bq (bq (bq (bq eP)))))) aV)))))) aV)))))))
   (cu (ik (iT (ay (t9 (ak 6)) (ay (bQ (Fj (ak 5) (FN (ak 1)) FL)) aV)))))))))))))),rfl⟩)
theorem dB:aL ["net","house","place","moment","cart","plenty","gate","behind","goals","places","goal"] ["net","house","place","moment","cart","plenty"] (dM ET):=dO
def Ii:GS:=(aU (av 6 (ax (aJ uo (aq (af 2) (aq (af 3) gN))))) (aU (av 7 (ax (aY .tup (aq (gB bM (af 6) (gC (.int 0))) (aq (gC (.str "out of")) gN))))) (aU (kb (aJ uq (aq (af 0) (aq (af 6) (aq (af 7) (aq (gC (.int 1)) gN)))))) (aU (av 8 (ax (aJ zM (aq (af 1) (aq (af 2) gN))))) (aU (cH (gT (gB (cw false) (af 4) (af 8))) (kb (aJ uq (aq (af 0) (aq (af 7) (aq (ax (gC (.str "the end"))) (aq (af 5) gN)))))) bL) (aU (av 9 (ax (kq (jG (af 8)) (bp 0) (g_ (gO iu (aq (af 0) (aq (gC (.ty "tuple")) gN)))) (af 0) 1 []))) (aU (eI (af 9) (bp 10) (kb (aJ uq (aq (af 0) (aq (af 7) (aq (ax (aJ uo (aq (af 10) (aq (ax (gB cn (af 3) (gC (.int 1)))) gN)))) (aq (af 5) gN))))))) (ba (af 9)))))))))
def EX:GM:=runM 11 [true,false,false,false,false,false] Ii
variable(P w K mg base t)in
abbrev NH:Prop:=bN P w K mg base gd 4 t.As t.CI ["net","house","place","moment","cart","plenty"] (gP K 6 EX)
theorem TZ(T:Txt K mg t)(wz:Gx P w K mg base t)(g0:KD P w K mg base t)(g6:P4 P w K mg base t):NH P w K mg base t:=
 jO (k:=3) [true,false,false,false,false,false] Ii T.F12.fn dB rfl rfl (by decide) λcQ A outer s H E hr=>(by
  have eS:=j6 hr;exact⟨_,(bA (cZ (i:=6) dB.nd rfl (Or.inl rfl) (bQ (fR T.F10 wz hr.le (ay (ak 2) (ay (ak 3) aV)) (bq (bq eP)))))
   (bA (cZ (i:=7) dB.nd rfl (Or.inl rfl) (bQ (iT (ay (cM ‹_› (ak 6) dI) (ay (gy (d:=.str "out of") rT) aV)))))
   (bA (nh (fR T.F0 g0 hr.le (ay (ak 0) (ay (ak 6) (ay (ak 7) (ay dI aV)))) (bq (bq (bq (bq eP))))))
   (bA (cZ (i:=8) dB.nd rfl (Or.inl rfl) (bQ (fR T.F6 g6 hr.le (ay (ak 1) (ay (ak 2) aV)) (bq (bq eP)))))
   (bA (ju (gv (xW K ‹_›) (pq false) (ak 4) (ak 8))
   (cu (nh (fR T.F0 g0 hr.le (ay (ak 0) (ay (ak 7) (ay (bQ (gy (d:=(.str "the end")) (xv (by rfl) T.rY))) (ay (ak 5) aV)))) (bq (bq (bq (bq eP)))))))
   jx)
   (bA (zB (i:=9) uQ (k:=1) (aX:=[]) fy (M:=["goal"]) (cf.of (dM ET).names ["net","house","place","moment","cart","plenty","gate","behind","goals","places","goal"] (by decide +kernel)) dB.nd rfl (Or.inl rfl) (uO K (bQ (ak 8)))
    (λ_ _ _ _=>(fw (i:=0) (show List.Nodup (["goal"]:List Str) by decide +kernel) rfl (Or.inl rfl))) (λ_ _ _ _=>(FO (ue (l8 (Io K) J5 T.cG J3 (ay (ak 0) (ay (gy (d:=.ty "tuple") (Ks (by rfl) T.qf OC)) aV)))))) (λ_ _ _ _=>(ak 0)))
   (bA (rU PassesOwn.never (ak 9) (fw (i:=10) dB.nd rfl (Or.inl rfl)) fy
   (cu (nh (fR T.F0 g0 hr.le (ay (ak 0) (ay (ak 7) (ay (bQ (fR T.F10 wz hr.le (ay (ak 10) (ay (bQ (dq (iE K) iF (ak 3) dI)) aV)) (bq (bq eP)))) (ay (ak 5) aV)))) (bq (bq (bq (bq eP))))))))
   (cu (ik (ak 9)))))))))),rfl⟩)
theorem cx:aL ["net","house","places","cart","turns","plenty","spots","now","place","moment","reach","goal"] ["net","house","places","cart","turns"] (dM Iy):=dO
def Cp:GS:=kb (aJ uq (aq (af 0) (aq (ax (gC (.str "the start"))) (aq (ax (aJ uo (aq (af 8) (aq (gC (.int 0)) gN)))) (aq (af 5) gN)))))
def tN:GS:=gD (gC (.bl true)) (af 10) (af 11)
def DV:GS:=aU (kb (ir oS (af 6) (aq (ax (aY .tup (aq (gB bM (af 8) (gC (.int 0))) (aq (gB bM (af 8) (gC (.int 1))) (aq (af 9) gN))))) gN)))
 (eI (aJ EX (aq (af 0) (aq (af 1) (aq (af 8) (aq (af 9) (aq (af 3) (aq (af 5) gN))))))) (bp 11) tN)
def sT:GS:=aU (av 10 zP) (aU (eI (af 7) (bp 8) DV) (av 7 (ax (gO Co (aq (af 10) gN)))))
def IG:GS:=aU (av 5 (ax (gB cn (gO iJ (aq (af 2) gN)) (gC (.int 1)))))
 (aU (av 6 (aY .lst gN)) (aU (av 7 (af 2)) (aU (eI (af 2) (bp 8) Cp) (aU (BK (aq (af 4) gN) (bp 9) sT) (ba (fA (af 6)))))))
def E_:GM:=runM 12 [true,false,false,false,false] IG
variable(P w K mg base t)in
abbrev Og:Prop:=bN P w K mg base gd 5 t.Ao t.Ah ["net","house","places","cart","turns"] (gP K 5 E_)
theorem Ul(T:Txt K mg t)(wz:Gx P w K mg base t)(g0:KD P w K mg base t)(g12:NH P w K mg base t):Og P w K mg base t:=
 jO (k:=4) [true,false,false,false,false] IG T.F11.fn cx rfl rfl (by decide) λcQ A outer s H E hr=>(by
  have eS:=j6 hr;exact⟨_,(bA (cZ (i:=5) cx.nd rfl (Or.inl rfl) (bQ (dq (iE K) iF (l8 (qI K) qP T.gz qO (ay (ak 2) aV)) dI)))
   (bA (cZ (i:=6) cx.nd rfl (Or.inl rfl) (lI aV))
   (bA (cZ (i:=7) cx.nd rfl (Or.inl rfl) (ak 2))
   (bA (rU PassesOwn.never (ak 2) (fw (i:=8) cx.nd rfl (Or.inl rfl)) fy
   (cu (nh (fR T.F0 g0 hr.le (ay (ak 0) (ay (bQ (gy (d:=(.str "the start")) (xv (by rfl) T.ku))) (ay (bQ (fR T.F10 wz hr.le (ay (ak 8) (ay dI aV)) (bq (bq eP)))) (ay (ak 5) aV)))) (bq (bq (bq (bq eP))))))))
   (bA (Ip PassesOwn.never T.gZ (ay (ak 4) aV) (fw (i:=9) cx.nd rfl (Or.inl rfl)) fy
   (bA (cZ (i:=10) cx.nd rfl (Or.inl rfl) IQ)
   (bA (rU PassesOwn.never (ak 7) (fw (i:=8) cx.nd rfl (Or.inl rfl)) fy
   (bA (nh (qQ PySem.F.slot_list_append PySem.F.type_list_append uM uN (ak 6) (ay (bQ (iT (ay (cM ‹_› (ak 8) dI) (ay (cM ‹_› (ak 8) dI) (ay (ak 9) aV))))) aV)))
   (cu (rU PassesOwn.never (fR T.F12 g12 hr.le (ay (ak 0) (ay (ak 1) (ay (ak 8) (ay (ak 9) (ay (ak 3) (ay (ak 5) aV)))))) (bq (bq (bq (bq (bq (bq eP))))))) (fw (i:=11) cx.nd rfl (Or.inl rfl)) fy
   (cu (zS (gy (d:=.bl true) rD) (ak 10) (ak 11) ‹_›))))))
   (cu (cZ (i:=7) cx.nd rfl (Or.inl rfl) (bQ (Ww T.kQ (ay (ak 10) aV))))))))
   (cu (ik (t9 (ak 6))))))))),rfl⟩)
theorem cJ:aL ["house","places","cart","turns","net","spots","near","ways","k","place","first","cut"] ["house","places","cart","turns"] (dM E4):=dO
def Bb:GS:=cH (gT (gB wR (gB bM (gB bM (af 4) (af 10)) (gC (.str "the start"))) (gC (.int 0))))
  (kb (ir oS (af 7) (aq (ax (aY .tup (aq (af 8) (aq (ax (aJ BF (aq (ax (af 4)) (aq (af 10) (aq (af 2) gN))))) gN)))) gN)))
  bL
def yC:GS:=aU (av 10 (ax (aJ uo (aq (af 9) (aq (gC (.int 0)) gN))))) Bb
def LP:GT:=jy (gT (gB (cw false) (ax (aY .tup (aq (af 0) (aq (gC (.str "into")) gN)))) (af 1))) (gT (gB (cw true) (ax (aY .tup (aq (af 0) (aq (gC (.str "out of")) gN)))) (af 1)))
def LO:GE:=kq (jG (af 5)) (bp 0) LP (af 0) 1 [6]
def IH:GS:=aU (av 4 (FT (gC (.str "the start")) zP))
 (aU (av 5 (ax (aJ E_ (aq (af 4) (aq (af 0) (aq (af 1) (aq (af 2) (aq (af 3) gN)))))))) (aU (av 6 (ax (aJ Gy (aq (af 4) (aq (ax (gC (.str "the start"))) (aq (ax (gC (.str "the end"))) gN)))))) (u_ 4 (aU (av 7 (aY .lst gN)) (aU (Gv (af 1) (eG [(bp 8),(bp 9)]) yC) (aU (av 11 (ax LO)) (ba (aY .tup (aq (fA (af 7)) (aq (af 11) gN))))))))))
def xw:GM:=runM 12 [false,false,false,false] IH
variable(P w K mg base t)in
abbrev Oh:Prop:=bN P w K mg base gd 6 t.f9 t.d9 ["house","places","cart","turns"] (gP K 4 xw)
theorem Um(T:Txt K mg t)(g1:Rh P w K mg base t)(g13:NF P w K mg base t)(wz:Gx P w K mg base t)(La:Og P w K mg base t):Oh P w K mg base t:=
 jO (k:=5) [false,false,false,false] IH T.F9.fn cJ rfl rfl (by decide) λcQ A outer s H E hr=>(by
  have eS:=j6 hr;exact⟨_,(bA (cZ (i:=4) cJ.nd rfl (Or.inl rfl) (Vd ‹_› (gy (d:=(.str "the start")) (xv (by rfl) T.ku)) IQ))
   (bA (cZ (i:=5) cJ.nd rfl (Or.inl rfl) (bQ (fR T.F11 La hr.le (ay (ak 4) (ay (ak 0) (ay (ak 1) (ay (ak 2) (ay (ak 3) aV))))) (bq (bq (bq (bq (bq eP))))))))
   (bA (cZ (i:=6) cJ.nd rfl (Or.inr rfl) (bQ (fR T.F1 g1 hr.le (ay (ak 4) (ay (bQ (gy (d:=(.str "the start")) (xv (by rfl) T.ku))) (ay (bQ (gy (d:=(.str "the end")) (xv (by rfl) T.rY))) aV))) (bq (bq (bq eP))))))
   (e7b (i:=4) (bA (cZ (i:=7) cJ.nd rfl (Or.inl rfl) (lI aV))
   (bA (XX PassesOwn.never T.nM (ak 1) (zO rfl (l6 (fw (i:=8) cJ.nd rfl (Or.inl rfl)) (l6 (fw (i:=9) cJ.nd rfl (Or.inl rfl)) zE))) (zR (l9 fy (l9 fy zG)))
   (bA (cZ (i:=10) cJ.nd rfl (Or.inl rfl) (bQ (fR T.F10 wz hr.le (ay (ak 9) (ay dI aV)) (bq (bq eP)))))
   (cu (ju (gv Cz CA (cM ‹_› (cM ‹_› (ak 4) (ak 10)) (gy (d:=(.str "the start")) (xv (by rfl) T.ku))) dI)
   (cu (nh (qQ PySem.F.slot_list_append PySem.F.type_list_append uM uN (ak 7) (ay (bQ (iT (ay (ak 8) (ay (bQ (fR T.F13 g13 hr.le (ay (bQ (ak 4)) (ay (ak 10) (ay (ak 2) aV))) (bq (bq (bq eP))))) aV)))) aV))))
   jx))))
   (bA (zB (i:=11) uQ (k:=1) (aX:=[6]) fy (M:=["spot","near"]) (cf.of (dM E4).names ["house","places","cart","turns","net","spots","near","ways","k","place","first","cut"] (by decide +kernel)) cJ.nd rfl (Or.inl rfl) (uO K (bQ (ak 5)))
    (λ_ _ _ _=>(fw (i:=0) (show List.Nodup (["spot","near"]:List Str) by decide +kernel) rfl (Or.inl rfl))) (λ_ _ _ _=>(FO (PW.pt (zQ (gv (xW K ‹_›) (pq false) (bQ (iT (ay (ak 0) (ay (gy (d:=.str "into") rT) aV)))) (ak 1)) (BV (gv (vP K ‹_›) (pq true) (bQ (iT (ay (ak 0) (ay (gy (d:=.str "out of") rT) aV)))) (ak 1))))))) (λ_ _ _ _=>(ak 0)))
   (cu (ik (iT (ay (t9 (ak 7)) (ay (ak 11) aV)))))))))))),rfl⟩)
theorem du:aL ["house","places","cart","turns","fewer","told"] ["house","places","cart"] (dM E5):=dO
def Ef:GT:=(gT (gB oLt (gO iJ (aq (gB bM (af 5) (gC (.int 0))) gN)) (gO iJ (aq (af 1) gN))))
def Ee:GS:=(aU (av 4 (af 5)) (aU (sj (λi j=>i+j) 3 (gC (.int 1))) (av 5 (ax (aJ xw (aq (af 0) (aq (af 1) (aq (af 2) (aq (af 3) gN)))))))))
def Mp:GE:=(kq (jG (af 1)) (bp 0) fm (ph uu (aq (af 1) (aq (af 0) (aq (af 2) gN)))) 1 [0,2])
def yY:GS:=(aU (av 4 (ax (aJ xw (aq (af 0) (aq (af 1) (aq (af 2) (aq (gB sY (af 3) (gC (.int 1))) gN))))))) (aU (av 5 (ax (aJ xw (aq (af 0) (aq (af 1) (aq (af 2) (aq (af 3) gN))))))) (aU (gf Ef Ee 1000000) (B8 (aY .tup (aq (af 3) (aq (gB bM (af 5) (gC (.int 0))) (aq (gB bM (af 4) (gC (.int 1))) gN))))))))
def zu:GS:=(aU (JI (aJ xt (aq (af 0) (aq (af 1) (aq (af 2) gN))))) (aU (cH (mh (g_ (af 1))) (B8 (aY .tup (aq (gC (.int 0)) (aq (ax (aY .lst gN)) (aq (ax (aY .lst gN)) gN))))) bL) (aU (av 3 (gO vk (aq Mp gN))) yY)))
def rA:GM:=runM 6 [false,false,false] zu
variable(P w K mg base t)in
abbrev II:Prop:=bN P w K mg base (t4 P w) 7 t.Ay t.CL ["house","places","cart"] (xq K 3 rA)
theorem Uo(T:Txt K mg t)(g16:Na P w K mg base t)(g7:KJ P w K mg base t)(g9:Oh P w K mg base t):II P w K mg base t:=
 PM (k:=6) [false,false,false] zu T.F15.fn du rfl rfl (by decide) λcQ A outer s H E hr=>(by
  have eS:=j6 hr;exact⟨_,(bA (Wj (Jd T.F16 g16 hr.le PK (ay (ak 0) (ay (ak 1) (ay (ak 2) aV))) (bq (bq (bq eP)))))
   (bA (ju (Gj (ue (ak 1)))
   (cu (Pn (iT (ay dI (ay (bQ (lI aV)) (ay (bQ (lI aV)) aV))))))
   jx)
   (bA (cZ (i:=3) du.nd rfl (Or.inl rfl) (l8 (Wx K) ZD T.Cu PyProof.Rows.Boot.max (ay (BZ uQ (k:=1) (aX:=[0,2]) fy (M:=["place","house","cart"]) (cf.of (dM E5).names ["house","places","cart","turns","fewer","told"] (by decide +kernel)) (uO K (bQ (ak 1)))
    (λ_ _ _ _=>(fw (i:=0) (show List.Nodup (["place","house","cart"]:List Str) by decide +kernel) rfl (Or.inl rfl))) (λ_ _ _ _=>vZ) (λ_ _ _ _=>(Fm T.F7 g7 hr.le (ay (ak 1) (ay (ak 0) (ay (ak 2) aV))) (bq (bq (bq eP)))))) aV)))
   (bA (cZ (i:=4) du.nd rfl (Or.inl rfl) (bQ (fR T.F9 g9 hr.le (ay (ak 0) (ay (ak 1) (ay (ak 2) (ay (dq Gf Gk (ak 3) dI) aV)))) (bq (bq (bq (bq eP)))))))
   (bA (cZ (i:=5) du.nd rfl (Or.inl rfl) (bQ (fR T.F9 g9 hr.le (ay (ak 0) (ay (ak 1) (ay (ak 2) (ay (ak 3) aV)))) (bq (bq (bq (bq eP)))))))
   (bA (zw 1000000 RO (gv Aa Ab (l8 (qI K) qP T.gz qO (ay (cM ‹_› (ak 5) dI) aV)) (l8 (qI K) qP T.gz qO (ay (ak 1) aV)))
   (bA (cZ (i:=4) du.nd rfl (Or.inl rfl) (ak 5))
   (bA (ZF (i:=3) QL du.nd rfl (Or.inl rfl) dI (λ_ _ _ h=>by cases h;rfl))
   (cu (cZ (i:=5) du.nd rfl (Or.inl rfl) (bQ (fR T.F9 g9 hr.le (ay (ak 0) (ay (ak 1) (ay (ak 2) (ay (ak 3) aV)))) (bq (bq (bq (bq eP)))))))))))
   (cu (Pn (iT (ay (ak 3) (ay (cM ‹_› (ak 5) dI) (ay (cM ‹_› (ak 4) dI) aV)))))))))))),rfl⟩)
theorem cV:aL ["_law_house_here","_law_places_here","_law_cart","_law_told","_law_kinds","e","_law_others"] ["_law_house_here","_law_places_here","_law_cart"] (dM IA):=dO
def Fb:GS:=(aU (av 3 (gC .bh)) (aU (av 4 (ax (aY .tup gN))) (aU (sk (Gw 3 (aJ rA (aq (af 0) (aq (af 1) (aq (af 2) gN))))) [(some 5,wE gA 85,(aU (av 6 (yl (eZ (wA gA [145,121,157,109,73,176,97])) (af 5))) (aU (av 4 (ax (aY .tup (aq (yl (eZ (wT gA)) (af 5)) (aq (yl (eZ (wT gA)) (af 5)) (aq (af 6) gN)))))) (av 4 (ax (gB oi (af 4) (ax (aY .tup (aq (yl (eZ (wA gA [37,61,133,49])) (af 5)) gN)))))))))]) (ba (aY .tup (aq (fA (af 3)) (aq (af 4) gN)))))))
def xx:GM:=runM 7 [false,false,false] Fb
variable(P w K mg base t)in
abbrev Oi:Prop:=bN P w K mg base gd 8 t.AL t.C0 ["_law_house_here","_law_places_here","_law_cart"] (gP K 3 xx)
theorem Up(T:Txt K mg t)(Lb:II P w K mg base t):Oi P w K mg base t:=
 jO (k:=7) [false,false,false] Fb T.F27.fn cV rfl rfl (by decide) λcQ A outer s H E hr=>(by
  exact⟨_,(bA (cZ (i:=3) cV.nd rfl (Or.inl rfl) (gy (d:=.bh) xS))
   (bA (cZ (i:=4) cV.nd rfl (Or.inl rfl) (bQ (iT aV)))
   (bA (Zz (λ_ _ _ hp=>(cu (XY (i:=3) cV.nd rfl (Or.inl rfl) (Jd T.F15 Lb hr.le hp (ay (ak 0) (ay (ak 1) (ay (ak 2) aV))) (bq (bq (bq eP))))))) (X1 (T.er.ix (i:=4) rfl).1 (T.er.xE (c:=85) rfl rfl) (e6w (i:=5) cV.nd rfl rfl λ_=>(bA (cZ (i:=6) cV.nd rfl (Or.inl rfl) (PQ (cs:=[145,121,157,109,73,176,97]) (T.er.wA rfl) T.cG (ak 5) (rX (T.er.ix (i:=9) rfl).1 (rX (T.er.ix (i:=7) rfl).1 (rX (T.er.ix (i:=10) rfl).1 (rX (T.er.ix (i:=6) rfl).1 (rX (T.er.ix (i:=3) rfl).1 (rX T.er.mgL (rX (T.er.ix (i:=5) rfl).1 Ra))))))) (by decide)))
   (bA (cZ (i:=4) cV.nd rfl (Or.inl rfl) (bQ (iT (ay (PN T.er.wB T.cG (ak 5) (Jt (v:=.ref 24) (by rfl) T.er.mg0 rfl) (λ_ r=>r)) (ay (PN T.er.wV T.cG (ak 5) (Pa (v:=.ty "ValueError") (by rfl) T.mP e6v rfl) (λ_ r=>r)) (ay (ak 6) aV))))))
   (cu (cZ (i:=4) cV.nd rfl (Or.inl rfl) (bQ (dq (Ws K) X7 (ak 4) (bQ (iT (ay (PQ (cs:=[37,61,133,49]) (T.er.wA rfl) T.cG (ak 5) (rX (T.er.ix (i:=0) rfl).1 (rX (T.er.ix (i:=2) rfl).1 (rX (T.er.ix (i:=8) rfl).1 (rX (T.er.ix (i:=1) rfl).1 Ra)))) (by decide)) aV)))))))))) Zy))
   (cu (ik (iT (ay (t9 (ak 3)) (ay (ak 4) aV)))))))),rfl⟩)
theorem iK:aL ["_law_script","_law_feed_here","_law_house_here","_law_places_here","_law_cart","_law_handed","_law_told","_law_kinds"] ["_law_script"] (dM GR):=dO
def la:GS:=(av 5 (ax (aY .tup (aq (ax (aJ EV (aq (af 2) gN))) (aq (ax (gO i_ (aq (af 3) gN))) gN)))))
def lb:GS:=(n8 (eG [(bp 6),(bp 7)]) (aJ xx (aq (gB bM (af 5) (gC (.int 0))) (aq (gB bM (af 5) (gC (.int 1))) (aq (af 4) gN)))))
def lc:GS:=(cH (gT (gB iw (af 5) (aY .tup (aq (af 2) (aq (af 3) gN))))) (ba (gC (.bl false))) bL)
def lq:GE:=(gO (Cg λbs=>bs.all id) (aq (kq (jG (af 3)) (bp 0) fm (ph BJ (aq (af 1) (aq (af 0) (aq (af 2) gN)))) 1 [2,4]) gN))
def DE:GS:=(cH (u7 (gT (gB iw (af 7) (aY .tup gN))) (mh (g_ (gO iu (aq (af 6) (aq (gC (.ty "tuple")) gN)))))) (ba (gC (.bl false))) bL)
def DF:GS:=(cH (u7 (gT (gB (kY true) (af 6) (gC .bh))) (gT (gB iw (af 7) (aY .tup (aq (gC (.bl true)) (aq (gC (.bl true)) (aq (gC (.bl false)) (aq (gC (.bl false)) gN)))))))) (ba (gC (.bl false))) bL)
def ld:GS:=(cH (g_ lq) DE DF)
def le:GS:=(cH (gT (gB iw (Ld (aJ rA (aq (af 2) (aq (ax (aY .lst gN)) (aq (af 4) gN))))) (aY .tup (aq (gC (.int 0)) (aq (ax (aY .lst gN)) (aq (ax (aY .lst gN)) gN)))))) (ba (gC (.bl false))) bL)
def lB:GS:=aU la (aU lb (aU lc (aU ld le)))
def KL:GS:=(aU (av 1 (aJ zD (aq (af 0) gN))) (aU (av 2 (ax (aJ zt (aq (af 1) gN)))) (aU (av 3 (ax (aJ zj (aq (af 1) (aq (af 2) (aq (gC (.int 6)) gN)))))) (aU (eI (gB bM (af 2) (gC (.int 1))) (bp 4) lB) (ba (gC (.bl true)))))))
def KN:GM:=runM 8 [false] KL
theorem ZI(T:Txt K mg t)(g27:Oi P w K mg base t)(g26:Oe P w K mg base t)(g24:ND P w K mg base t)(g17:OX P w K mg base t)(g21:Of P w K mg base t)(g25:NG P w K mg base t)(Lb:II P w K mg base t):bN P w K mg base gd 9 t.AM t.Ak ["_law_script"] (gP K 1 KN):=
 jO (k:=8) [false] KL T.F28.fn iK rfl rfl (by decide) λcQ A outer s H E hr=>(by
  have pH:=vX hr;have eS:=j6 hr;exact⟨_,(bA (cZ (i:=1) iK.nd rfl (Or.inl rfl) (fR T.F17 g17 hr.le (ay (ak 0) aV) (bq eP)))
   (bA (cZ (i:=2) iK.nd rfl (Or.inr rfl) (bQ (fR T.F21 g21 hr.le (ay (ak 1) aV) (bq eP))))
   (bA (cZ (i:=3) iK.nd rfl (Or.inl rfl) (bQ (fR T.F25 g25 hr.le (ay (ak 1) (ay (ak 2) (ay dI aV))) (bq (bq (bq eP))))))
   (bA (rU PassesOwn.never (cM ‹_› (ak 2) dI) (fw (i:=4) iK.nd rfl (Or.inr rfl)) fy
   (bA (cZ (i:=5) iK.nd rfl (Or.inl rfl) (bQ (iT (ay (bQ (fR T.F24 g24 hr.le (ay (ak 2) aV) (bq eP))) (ay (bQ (xu (EN K) FJ T.kQ BS (ay (ak 3) aV))) aV)))))
   (bA (Q8 (fR T.F27 g27 hr.le (ay (cM ‹_› (ak 5) dI) (ay (cM ‹_› (ak 5) dI) (ay (ak 4) aV))) (bq (bq (bq eP)))) (zO rfl (l6 (fw (i:=6) iK.nd rfl (Or.inl rfl)) (l6 (fw (i:=7) iK.nd rfl (Or.inl rfl)) zE))) (zR (l9 fy (l9 fy zG))))
   (bA (ju (gv (Cd K ‹_›) Ce (ak 5) (iT (ay (ak 2) (ay (ak 3) aV))))
   (cu (ik (gy (d:=.bl false) rD)))
   jx)
   (bA (ju (ue (l8 (U6 K) (OP _) T.Cr Zf (ay (BZ uQ (k:=1) (aX:=[2,4]) fy (M:=["_law_place","_law_house_here","_law_cart"]) (cf.of (dM GR).names ["_law_script","_law_feed_here","_law_house_here","_law_places_here","_law_cart","_law_handed","_law_told","_law_kinds"] (by decide +kernel)) (uO K (bQ (ak 3)))
    (λ_ _ _ _=>(fw (i:=0) (show List.Nodup (["_law_place","_law_house_here","_law_cart"]:List Str) by decide +kernel) rfl (Or.inl rfl))) (λ_ _ _ _=>vZ) (λ_ _ _ _=>(Fm T.F26 g26 hr.le (ay (ak 1) (ay (ak 0) (ay (ak 2) aV))) (bq (bq (bq eP)))))) aV)))
   (cu (ju (PW.pt (RN (gv (Cd K ‹_›) Ce (ak 7) (iT aV)) (QT (Gj (ue (l8 (Io K) J5 T.cG J3 (ay (ak 6) (ay (gy (d:=.ty "tuple") (Ks (by rfl) T.qf OC)) aV))))))))
   (cu (ik (gy (d:=.bl false) rD)))
   jx))
   (cu (ju (PW.pt (RN (gv Px (Kv true) (ak 6) (gy (d:=.bh) xS)) (QT (gv (Cd K ‹_›) Ce (ak 7) (iT (ay (gy (d:=.bl true) rD) (ay (gy (d:=.bl true) rD) (ay (gy (d:=.bl false) rD) (ay (gy (d:=.bl false) rD) aV)))))))))
   (cu (ik (gy (d:=.bl false) rD)))
   jx)))
   (cu (ju (gv (Cd K ‹_›) Ce (e6x λ_ hp=>(Jd T.F15 Lb hr.le hp (ay (ak 2) (ay (bQ (lI aV)) (ay (ak 4) aV))) (bq (bq (bq eP))))) (iT (ay dI (ay (bQ (lI aV)) (ay (bQ (lI aV)) aV)))))
   (cu (ik (gy (d:=.bl false) rD)))
   jx)))))))
   (cu (ik (gy (d:=.bl true) rD))))))),rfl⟩)
end
end Carry
namespace Carry
open PySem L2
variable{i n r k:Nat}{F:cy}{s ri:Int}
noncomputable def wt(F:cy):List O:=[.Y (.lst (F.ns.map .int)),.Y (.int F.pl),.Y (.int F.xa),.Y (.int F.mode),.Y (.int F.num)]
abbrev bt(F:cy):O:=.lst (wt F)
noncomputable def r_(ns:List Int):cy:=⟨ns,0,0,ns.getD 0 0%2,ns.getD 1 0⟩
theorem Ri(ds:List D)(n:Nat):cutD ds none (some (n:Int))=ds.take n:=by
 unfold cutD;have e1:HT.dA ds.length 0 none=0:=rfl;have e2:HT.dA ds.length ds.length (some (n:Int))=min n ds.length:=by
  unfold HT.dA;simp;try lia
 rw[e1,e2];simp only[oF,Nat.sub_zero];rw[List.take_eq_take_iff];lia
theorem Kp(ds:List D):cutD ds none (some 2)=ds.take 2:=Ri ds 2
theorem CG(ds:List D):cutD ds none (some 63)=ds.take 63:=Ri ds 63
theorem LQ:qp 5 4=some 4:=by decide
theorem DA:qp 5 1=some 1:=by decide
theorem Tt(ns:List Int):fj ((ns.map D.int).take 2++[D.int 0,D.int 0]) 0=some (.int (ns.getD 0 0)):=by
 refine qL (j:=0) ?_
 match ns with
 |[]=>rfl
 |[x]=>rfl
 |x::y::r=>rfl
theorem Tu(ns:List Int):fj ((ns.map D.int).take 2++[D.int 0,D.int 0]) 1=some (.int (ns.getD 1 0)):=by
 refine qL (j:=1) ?_
 match ns with
 |[]=>rfl
 |[x]=>rfl
 |x::y::r=>rfl
theorem bf{α:Type _}{a:α}{l:List α}:(a::l)[0]?=some a:=rfl
theorem bu{α:Type _}{a:α}{l:List α}:(a::l)[i+1]?=l[i]?:=rfl
theorem bG{α:Type _}{a:α}{l:List α}:(a::l).length=l.length+1:=rfl
theorem bB{α:Type _}:([]:List α).length=0:=rfl
theorem bI{α:Type _}{x a:α}{l:List α}:(x::l).set 0 a=a::l:=rfl
theorem cj{α:Type _}{x a:α}{l:List α}:(x::l).set (n+1) a=x::l.set n a:=rfl
theorem eJ{α β:Type _}{f:α->β}{a:α}{l:List α}:(a::l).map f=f a::l.map f:=rfl
theorem eK{α β:Type _}{f:α->β}:([]:List α).map f=[]:=rfl
theorem eD{α:Type _}{a:α}:List.replicate 0 a=[]:=rfl
theorem eQ{α:Type _}{a:α}:List.replicate (n+1) a=a::List.replicate n a:=rfl
theorem gb{α:Type _}{a:α}{l:List α}:(a::l).take (i+1)=a::l.take i:=rfl
theorem d_{α:Type _}{a:α}{l r:List α}:(a::l)++r=a::(l++r):=rfl
theorem eu{α:Type _}(l:List α):[]++l=l:=rfl
theorem gc{α:Type _}{l:List α}:l.take 0=[]:=rfl
theorem dU:(false=true)=False:=uC
theorem bH(n:Nat):0+n=n:=Nat.zero_add n
theorem ZJ(ns:List Int)(h:ns.length<=63):zD [.Y (.fG ns)]=some (bt (r_ ns),[none]):=by
 have c1:(min 2 ns.length<=999998)=True:=lE (by lia)
 have c2:(ns.map D.int).take 63=ns.map D.int:=List.take_of_length_le (by rw[bY];lia)
 unfold zD Jk;simp only[fV,eJ,eK,bG,bB,bH,reduceSub,eQ,eD,d_,eu,cY,dY,cD,bJ,bj,IZ,bc,bf,↓ag,JD,JE,bS,JH,↓evMap,bz,U1,Kp,eX,br,reduceAdd,reduceLeDiff,e_,dW,a_,bF,bD,JF,Gs,zA,J7,J6,rg,bY,c1,i4,uj,reduceLT,cj,bI,fO,CG,c2,bu,dh,pk,Tt,i3,Int.reduceLT,decide_true,Tu,gw,gb,gc,gj,fY];rfl
theorem ZK(F:cy)(m:Int)(h0:0<m)(h1:m<1073741824)(hp:0<=F.pl)(hl:F.ns.length<=63):oQ [bt F,.Y (.int m)]=some (.Y (.int (aZ F m)),[some (bt (aQ F m)),none]):=by
 unfold oQ Jl bt wt;by_cases hm:F.mode=1
 .have e1:aZ F m=F.num%m:=by unfold aZ;rw[aT hm]
  have e2:aQ F m={ F with num:=F.num / m}:=by unfold aQ;rw[aT hm]
  rw[e1,e2];simp only[hm,fV,eJ,eK,bG,bB,bH,reduceAdd,reduceSub,eQ,eD,d_,eu,cY,dP,de,bJ,bj,bc,bf,↓ag,bS,br,bF,jJ,ij,bz,bD,dh,J8,zC,Ja,oW,bZ,oV,and_self,qc,rj,a_,dY,Jc,bu,i3,h0,decide_true,reduceLT,cj,bI,rV,h1,JG,LQ,↓evMap,fO,dX,gw,gb,gc,rW,gj,fY]
 .have Sv:(F.mode == 1)=false:=by simpa using hm
  have e1:aZ F m=(cellOf F*48271+31*F.pl)%1000003*69621%999983%m:=by unfold aZ;rw[aW hm]
  have e2:aQ F m={ F with pl:=F.pl+1}:=by unfold aQ;rw[aW hm]
  rw[e1,e2];have m1:∀x:Int,((-(2^64)<x/\x<2^64\/(-(2^64):Int)<31/\(31:Int)<2^64)=True):=λx=>lE (.inr ⟨by decide,by decide⟩)
  have m2:∀x:Int,((-(2^64)<x/\x<2^64\/(-(2^64):Int)<48271/\(48271:Int)<2^64)=True):=λx=>lE (.inr ⟨by decide,by decide⟩)
  have m3:∀x:Int,((-(2^64)<x/\x<2^64\/(-(2^64):Int)<69621/\(69621:Int)<2^64)=True):=λx=>lE (.inr ⟨by decide,by decide⟩)
  have m4:∀x:Int,(((-(2^64):Int)<31/\(31:Int)<2^64 \/ -(2^64)<x/\x<2^64)=True):=λx=>lE (.inl ⟨by decide,by decide⟩)
  by_cases hc:(0:Int)<F.ns.length
  .have hs:(F.ns.length:Int)<1073741824:=by lia
   have hmod:0<=F.pl%(F.ns.length:Int)/\F.pl%(F.ns.length:Int)<F.ns.length:=⟨Int.emod_nonneg _ (by lia),Int.emod_lt_of_pos _ hc⟩
   have hat:fj (F.ns.map D.int) (F.pl%(F.ns.length:Int))=some (.int (F.ns.getD (F.pl%F.ns.length).toNat 0)):=by
    have AX:(F.pl%(F.ns.length:Int)).toNat<F.ns.length:=by lia
    have e:(F.ns.map D.int)[(F.pl%(F.ns.length:Int)).toNat]?=some (.int (F.ns.getD (F.pl%F.ns.length).toNat 0)):=by simp[AX]
    have z:=qL e
    rwa[show(((F.pl%(F.ns.length:Int)).toNat:Nat):Int)=F.pl%(F.ns.length:Int) by lia] at z
   have ec:cellOf F=F.ns.getD (F.pl%F.ns.length).toNat 0+F.pl / F.ns.length*31:=by unfold cellOf;rw[aT (by lia)]
   rw[ec];simp only[fV,eJ,eK,bG,bB,bH,reduceAdd,reduceSub,eQ,eD,d_,eu,cY,dP,de,bJ,bj,bc,bf,↓ag,bS,br,bF,jJ,ij,bz,bD,dh,J8,zC,Ja,oW,bZ,oV,and_self,qc,Sv,a_,dU,dY,Jc,bu,i3,h0,decide_true,reduceLT,cj,bI,rV,h1,JG,↓evMap,dX,cX,o8,cD,iR,DA,ng,xZ,zL,bY,hc,pk,hat,hs,zK,m1,fO,m2,m4,Int.reduceLT,m3,gw,gb,gc,rW,gj,fY]
  .have ec:cellOf F=F.pl:=by unfold cellOf;rw[aW (by lia)]
   rw[ec];simp only[fV,eJ,eK,bG,bB,bH,reduceAdd,reduceSub,eQ,eD,d_,eu,cY,dP,de,bJ,bj,bc,bf,↓ag,bS,br,bF,jJ,ij,bz,bD,dh,J8,zC,Ja,oW,bZ,oV,and_self,qc,Sv,a_,dU,dY,Jc,bu,i3,h0,decide_true,reduceLT,cj,bI,rV,h1,JG,↓evMap,dX,cX,o8,cD,iR,DA,ng,xZ,zL,bY,hc,decide_false,fO,zK,m2,m4,Int.reduceLT,m3,gw,gb,gc,rW,gj,fY]
abbrev fS(x:Str):O:=.Y (.str x)
theorem Ki(xs:List Str):xs.map fS=(xs.map D.str).map .Y:=by rw[oH];rfl
theorem yg(xs:List Str):O.dl (xs.map fS)=xs.map D.str:=by rw[Ki,pe]
theorem JP(x:Str):∀xs:List Str,((xs.map D.str).any λz=>bx z (.str x))=xs.contains x
 |[]=>rfl
 |y::r=>by
  rw[c_,List.any_cons,JP x r,List.contains_cons,Cb]
  congr 1
  exact BEq.comm
theorem FX(n:Nat)(xs:List Str):(xs.map D.str).all (cO n)=true:=by
 rw[kI];intro d hd;obtain⟨y,_,rfl⟩:=gQ.mp hd;exact qb n y
theorem zW(neg:Bool)(x:Str)(xs:List Str):cw neg [.Y (.str x),.lst (xs.map fS)]=some (.Y (.bl (if neg then !xs.contains x else xs.contains x))):=by
 unfold cw;have e:pO (O.lst (xs.map fS)).d=some (xs.map D.str):=by rw[Ki];show some (O.dl _)=_;rw[pe]
 simp only[iG,e,Option.bind_some,bZ,qb,FX,and_self,a_,JP]
theorem Gz(neg:Bool)(x:Str)(xs:List Str):cw neg [.Y (.str x),.Y (.lst (xs.map D.str))]=some (.Y (.bl (if neg then !xs.contains x else xs.contains x))):=by
 unfold cw;have e:pO (.lst (xs.map D.str))=some (xs.map D.str):=rfl;simp only[iG,e,Option.bind_some,bZ,qb,FX,and_self,a_,JP]
theorem Yd(xs:List Str)(i:Int)(y:Str)(h0:0<=i)(h1:i<1000000)(hl:xs.length<1000000):xK (.lst (xs.map fS)) [.Y (.int i),.Y (.str y)]=some (.lst ((pJ xs i.toNat y).map fS),.Y .bh):=by
 unfold xK;dsimp only;rw[aT ⟨h0,h1,by rw[bY];exact hl⟩]
 unfold pJ;rw[jI,c_,List.map_take,MU]
structure cB (F:cy):Prop where
 pos:0<=F.pl
 len:F.ns.length<=63
theorem cB.draw(h:cB F)(m:Int):cB (aQ F m):=⟨VR F m h.pos,by rw[VQ];exact h.len⟩
theorem xd(h:cB F){m:Int}(h0:0<m)(h1:m<1073741824):oQ [bt F,.Y (.int m)]=some (.Y (.int (aZ F m)),[some (bt (aQ F m)),none]):=ZK F m h0 h1 h.pos h.len
noncomputable def bw(b:aR):D:=.tup [.str b.name,.int b.long,.bl b.ring,.lst (b.outs.map .str)]
def bR(h:aA):D:=.tup [.lst (h.aB.map bw),.lst (h.aG.map .str)]
abbrev fB(b:aR):O:=.Y (bw b)
theorem e7c(xs:List aR):O.dl (xs.map fB)=xs.map bw:=by rw[show xs.map fB=(xs.map bw).map .Y by rw[oH];rfl,pe]
theorem NI:∀(xs:List aR) (aM:List Str) (a:ai O),aM.length+xs.length<1000000->∃a',compLoop (bp 0) fm (gB bM (af 0) (gC (.int 0))) (xs.map bw) [a] (aM.map fS)=some ((aM++xs.map aR.name).map fS,[a'])
 |[],aM,a,_=>⟨a,by rw[pX,Q3,pX,j9]⟩
 |x::xs,aM,a,h=>by
  rw[jL] at h;have hl:(aM.map fS).length<1000000:=by rw[bY];lia
  obtain⟨a',e⟩:=NI xs (aM++[x.name]) (some (fB x)) (by rw[fu,mJ];lia)
  refine⟨a',?_⟩;rw[c_ (f:=aR.name),show aM++x.name::xs.map aR.name=aM++[x.name]++xs.map aR.name by simp]
  rw[<-e,jI];simp only[eJ,bw,Q4,fU,bG,bB,bH,reduceLT,bI,a_,↓ag,uU,bJ,bj,bc,bf,bS,br,bF,bz,bD,dh,lK,ng,↓evMap,e_,dW,hl,eK];rfl
def q9(st k:Nat):Str:=yh (("abcdefghijk":Str).cps.toList.getD (((k:Int)*4+(st:Int))%11).toNat 0)
def nm(st k:Nat):Str:=
 if st%3=0 then Txt.mul "q" ((st / 3%3:Nat):Int)++q9 st k++Txt.slice "zq" none (some ((st / 9:Nat):Int))
 else if st%3=1 then(if k<8 then Txt.mul "b" ((k:Int)+1) else Txt.mul "c" ((k:Int) - 7)) else q9 st k
theorem ZL:∀st:Nat,st<27->∀i:Nat,i<9->∀j:Nat,j<9->nm st i=nm st j->i=j:=by decide +kernel
theorem mulQ:∀n:Nat,n<3->MulOk "q" (n:Int):=by unfold MulOk;decide +kernel
theorem L8:∀n:Nat,n<9->MulOk "b" ((n:Int)+1):=by unfold MulOk;decide +kernel
theorem mulC:∀n:Nat,n<9->MulOk "c" ((n:Int) - 7):=by unfold MulOk;decide +kernel
theorem L3:∀n:Nat,n<3->(Txt.mul "q" (n:Int)).length<=3:=by decide +kernel
theorem lenZ:∀n:Nat,n<3->(Txt.slice "zq" none (some (n:Int))).length<=3:=by decide +kernel
theorem Ye(c:Nat):(yh c).length=1:=rfl
theorem LV:("abcdefghijk":Str).cps.toList.length=11:=by decide +kernel
theorem ZM(st k:Nat):fj ("abcdefghijk":Str).cps.toList (((k:Int)*4+st)%11)=some (("abcdefghijk":Str).cps.toList.getD (((k:Int)*4+st)%11).toNat 0):=OB 0 (by lia) (by rw[LV];lia)
theorem RQ{st:Nat}(es:s=st)(er:ri=r)(h:st%3=r):(s%3 == ri)=true:=by rw[beq_iff_eq];lia
theorem R5{st:Nat}(es:s=st)(er:ri=r)(h:¬st%3=r):(s%3 == ri)=false:=by rw[p7];lia
theorem e7d{st:Nat}(es:s=st):((st / 3%3:Nat):Int)=s / 3%3:=by lia
theorem e7e{st:Nat}(es:s=st):((st / 9:Nat):Int)=s / 9:=by lia
theorem KO{st:Nat}(hs:st<27):st / 3%3<3/\st / 9<3:=by lia
theorem R6{a b:Nat}(ha:a<=3)(hb:b<=4):a+b<=1000000:=by lia
theorem k8{i:Int}(ek:i=k):(i<8)=(k<8):=by rw[eq_iff_iff];lia
theorem Yf(s i:Int)(st k:Nat)(es:s=st)(ek:i=k)(hs:st<27)(hk:k<9):vW [.Y (.int s),.Y (.int i)]=some (.Y (.str (nm st k)),[none,none]):=by
 have m1:((-(2^64)<i/\i<2^64)\/((-(2^64):Int)<4/\(4:Int)<2^64))=True:=lE (.inr ⟨by decide,by decide⟩)
 have ea:=ZM st k;rw[<-es,<-ek] at ea;have el:(⟨#[("abcdefghijk":Str).cps.toList.getD ((i*4+s)%11).toNat 0]⟩:Str)=q9 st k:=by unfold q9 yh;rw[es,ek]
 have c0:(("abcdefghijk":Str).length<=1000000)=True:=lE (by decide +kernel)
 have ll:(q9 st k).length=1:=Ye _;unfold vW Jm nm;generalize q9 st k=lt at *;generalize("abcdefghijk":Str).cps.toList.getD ((i*4+s)%11).toNat 0=ch at *;generalize("abcdefghijk":Str)=S at *;by_cases h0:st%3=0
 .rw[aT h0];have q0:(s%3 == 0)=true:=RQ es rfl h0;have e3:((st / 3%3:Nat):Int)=s / 3%3:=e7d es;have e9:((st / 9:Nat):Int)=s / 9:=e7e es;have mq:=lE (mulQ (st / 3%3) (KO hs).1);have lq:=L3 (st / 3%3) (KO hs).1;have lz:=lenZ (st / 9) (KO hs).2;rw[e3] at mq lq ⊢;rw[e9] at lz ⊢;have c1:((Txt.mul "q" (s / 3%3)).length+lt.length<=1000000)=True:=lE (R6 lq (by rw[ll];decide))
  have c2:((Txt.mul "q" (s / 3%3)++lt).length+(Txt.slice "zq" none (some (s / 9))).length<=1000000)=True:=lE (by rw[Str.length_append,Nat.add_comm];exact R6 lz (by rw[ll];exact Nat.succ_le_succ lq))
  have cz:(("zq":Str).length<=1000000)=True:=lE (by decide +kernel)
  generalize("zq":Str)=Z at *;generalize("q":Str)=Q at *;have d3:decide (0<(3:Int)/\(3:Int)<1073741824)=true:=by decide
  have d9:decide (0<(9:Int)/\(9:Int)<1073741824)=true:=by decide
  simp only[fV,eJ,eK,bG,bB,bH,reduceAdd,reduceSub,eQ,eD,d_,eu,cY,dY,bJ,bj,bS,↓ag,bc,bu,bf,br,bF,bz,bD,zK,m1,a_,iR,i3,Int.reduceLT,decide_true,dh,Gu,c0,ea,↓evMap,el,reduceLT,cj,bI,dP,de,oW,bZ,oV,and_self,qc,q0,fO,FQ,mq,XH,c1,IZ,JD,JE,JH,U0,cz,c2,dX,gw,gb,gc,gj,fY]
 .have q0:(s%3 == 0)=false:=R5 es rfl h0;rw[aW h0];by_cases h1:st%3=1
  .rw[aT h1];have q1:(s%3 == 1)=true:=RQ es rfl h1;by_cases h8:k<8
   .rw[aT h8];have Lf:i<8:=by rw[k8 ek];exact h8
    have mb:=lE (L8 k hk);rw[<-ek] at mb ⊢;generalize("b":Str)=Q at *;simp only[fV,eJ,eK,bG,bB,bH,reduceAdd,reduceSub,eQ,eD,d_,eu,cY,dY,bJ,bj,bS,↓ag,bc,bu,bf,br,bF,bz,bD,zK,m1,a_,iR,i3,Int.reduceLT,decide_true,dh,Gu,c0,ea,↓evMap,el,reduceLT,cj,bI,dP,de,oW,bZ,oV,and_self,qc,q0,dU,fO,FQ,dX,cX,q1,yd,Lf,mb,gw,gb,gc,gj,fY]
   .rw[aW h8];have Lf:¬i<8:=by rw[k8 ek];exact h8
    have mb:=lE (mulC k hk);rw[<-ek] at mb ⊢;generalize("c":Str)=Q at *;simp only[fV,eJ,eK,bG,bB,bH,reduceAdd,reduceSub,eQ,eD,d_,eu,cY,dY,bJ,bj,bS,↓ag,bc,bu,bf,br,bF,bz,bD,zK,m1,a_,iR,i3,Int.reduceLT,decide_true,dh,Gu,c0,ea,↓evMap,el,reduceLT,cj,bI,dP,de,oW,bZ,oV,and_self,qc,q0,dU,fO,FQ,dX,cX,q1,yd,Lf,decide_false,mb,gw,gb,gc,gj,fY]
  .rw[aW h1];have q1:(s%3 == 1)=false:=R5 es rfl h1;simp only[fV,eJ,eK,bG,bB,bH,reduceAdd,reduceSub,eQ,eD,d_,eu,cY,dY,bJ,bj,bS,↓ag,bc,bu,bf,br,bF,bz,bD,zK,m1,a_,iR,i3,Int.reduceLT,decide_true,dh,Gu,c0,ea,↓evMap,el,reduceLT,cj,bI,dP,de,oW,bZ,oV,and_self,qc,q0,dU,fO,FQ,dX,cX,q1,yd,decide_eq_true_eq,gw,gb,gc,gj,fY]
theorem P5{i j:Int}(h:i.natAbs<=1000000)(h2:j.natAbs<=1000000):lV [.own (.Y (.int i)),.own (.Y (.int j))]=some (i,j):=by
 unfold lV;dsimp only;rw[aT ⟨Nat.ble_eq_true_of_le (by lia),Nat.ble_eq_true_of_le (by lia)⟩]
theorem KP(ge:GE)(F:cy)(g:cB F)(s1 s2 s3:O)(a5:ai O)(outs:List Str)(hl:outs.length<=30)(y:Str)(hE:∀F':cy,ge [some (bt F'),some s1,some s2,some s3,some (.lst (outs.map fS)),a5]=some (.own (fS y),[some (bt F'),some s1,some s2,some s3,some (.lst (outs.map fS)),a5])):
  ∃(F':cy) (tm:List Str),cB F'/\(∀o,o∈tm↔o=y\/o∈outs)/\tm.length=outs.length+1/\sR ge [some (bt F),some s1,some s2,some s3,some (.lst (outs.map fS)),a5]=some (.nx,[some (bt F'),some s1,some s2,some s3,some (.lst (tm.map fS)),a5]):=by
 have hm:(0:Int)<(outs.length:Int)+1:=by lia
 have e1:=xd g (m:=(outs.length:Int)+1) hm (by lia)
 have d0:=vO F hm;have d1:=vS F hm;have ei:=Yd outs (aZ F ((outs.length:Int)+1)) y d0 (by lia) (by lia)
 have hF:=hE (aQ F ((outs.length:Int)+1));refine⟨aQ F ((outs.length:Int)+1),pJ outs (aZ F ((outs.length:Int)+1)).toNat y,g.draw _,λo=>VT,VS _ _ _,?_⟩
 have el:((outs.map D.str).length:Int)=(outs.length:Int):=by rw[bY]
 generalize(outs.length:Int)=ol at *;unfold sR;simp only[kO,nJ,bc,bu,bf,↓ag,bj,cD,fK,bJ,br,bF,jJ,ij,bD,xZ,i4,yg,zL,el,↓evMap,bS,bz,iR,bZ,ko,bI,fJ,fH,e1,lL,fX,fW,hF,e_,dW,ei,cj]
structure o7 (names:List Str) (k:Nat) (outs:List Str):Prop where
 sub:∀o∈outs,o∈names.drop (k+1)
 len:outs.length<=20
theorem Jo{names:List Str}{j:Nat}{y:Str}(h:names[j]?=some y)(hk:k<=j):y∈names.drop k:=by
 obtain⟨hj,e⟩:=jX.mp h;have:(names.drop k)[j - k]?=some y:=by rw[List.getElem?_drop,show k+(j - k)=j by lia];exact h
 exact Bk this
theorem WC(names outs:List Str)(lo:Int)(l0:0<=lo):∀(n:Nat),lo+n<=names.length->n<1000->∃(a:ai O) (bs:List Bool),compLoop (bp 0) fm (gB (cw false) (gB bM (af 2) (af 0)) (af 1)) (hX lo n) [none,some (.lst (outs.map fS)),some (.Y (.lst (names.map .str)))] []=some ((bs.map D.bl).map .Y,[a,some (.lst (outs.map fS)),some (.Y (.lst (names.map .str)))])/\bs=(List.range n).map λ(i:Nat)=>outs.contains (names.getD (lo+(i:Int)).toNat ""):=by
 intro n hn G_;obtain⟨au,⟨a,rfl⟩,e⟩:=xH (g:=bp 0) (ct:=fm) (ce:=gB (cw false) (gB bM (af 2) (af 0)) (af 1)) (λQ0=>∃a,Q0=[a,some (.lst (outs.map fS)),some (.Y (.lst (names.map .str)))]) (λ(i:Nat)=>D.int (lo+(i:Int))) (λ(i:Nat)=>D.bl (outs.contains (names.getD (lo+(i:Int)).toNat ""))) (List.range n) [none,some (.lst (outs.map fS)),some (.Y (.lst (names.map .str)))] ⟨_,rfl⟩ (by rw[pY];lia) (by
  rintro i hi Q0 ⟨a,rfl⟩;rw[rf] at hi;have ea:fj (names.map D.str) (lo+(i:Int))=some (.str (names.getD (lo+(i:Int)).toNat "")):=by
   have:=OB (xs:=names.map D.str) (k:=lo+(i:Int)) (D.str "") (by lia) (by rw[bY];lia)
   rw[this,EG,EG,lC];cases names[(lo+(i:Int)).toNat]? <;> rfl
  refine⟨[some (.Y (.int (lo+(i:Int)))),some (.lst (outs.map fS)),some (.Y (.lst (names.map .str)))],?_,_,rfl⟩;generalize lo+(i:Int)=ix at *;simp only[t7,fU,bG,bB,bH,reduceAdd,reduceLT,bI,a_,↓ag,uU,bJ,bj,bc,bu,bf,br,bF,bz,bD,dh,pk,ea,↓evMap,jJ,ij,zW,dU,cX])
 exact⟨a,_,by rw[xI,e,oH (g:=D.bl)];rfl,rfl⟩
theorem ZN(F:cy)(g:cB F)(names:List Str)(k aO:Nat)(Ss:k<aO)(hm:aO<names.length)(hl:names.length<=12):
  ∃(F':cy) (outs:List Str),cB F'/\o7 names k outs/\outs≠[]/\Fv [bt F,.Y (.lst (names.map .str)),.Y (.int (k:Int)),.Y (.int (aO:Int))]=some (.lst (outs.map fS),[some (bt F'),none,none,none]):=by
 have ga:∀j:Nat,j<names.length->fj (names.map D.str) (j:Int)=some (.str (names.getD j "")):=λj hj=>by
  apply qL;rw[lC,km hj,EG,km hj];rfl
 have gm:∀j:Nat,j<names.length->names[j]?=some (names.getD j ""):=λj hj=>by
  rw[km hj,EG,km hj];rfl
 obtain⟨aE,e1,F1,o1,a5,g1,yK,rfl⟩:=oP (g:=bp 5) (f:=qt) (λ(i:Nat)=>D.int (((k:Int)+1)+(i:Int))) (λpre Q0=>∃(F':cy) (outs:List Str) (a5:ai O),cB F'/\((∀o∈outs,o∈names.drop (k+1))/\outs.length<=pre.length)/\Q0=[some (bt F'),some (.Y (.lst (names.map .str))),some (.Y (.int (k:Int))),some (.Y (.int (aO:Int))),some (.lst (outs.map fS)),a5]) (List.range ((names.length:Int) - ((k:Int)+1)).toNat) []
  [some (bt F),some (.Y (.lst (names.map .str))),some (.Y (.int (k:Int))),some (.Y (.int (aO:Int))),some (.lst []),none] ⟨F,[],none,g,⟨λo m=>(by cases m),c7 _⟩,rfl⟩ (by
   rintro q i post Q0 eq ⟨F',outs,a5,gF,⟨sb,ln⟩,rfl⟩;have hi:i<((names.length:Int) - ((k:Int)+1)).toNat:=by
    have:i∈List.range ((names.length:Int) - ((k:Int)+1)).toNat:=by rw[eq];simp
    exact rf.mp this
   have hq:q.length<12:=by
    have:=congrArg List.length eq;simp at this;lia
   have ed:=xd gF (m:=3) (by decide) (by decide)
   rw[ig] at *;have ej:((k:Int)+1)+(i:Int)=((k+1+i:Nat):Int):=by lia
   have ea:=ga (k+1+i) (by lia)
   rw[<-ej] at ea;by_cases hd:aZ F' 3=0
   .obtain⟨F2,tq,g2,m2,l2,e2⟩:=KP (gB bM (af 1) (af 5)) (aQ F' 3) (gF.draw 3) (.Y (.lst (names.map .str))) (.Y (.int (k:Int))) (.Y (.int (aO:Int))) (some (.Y (.int (((k:Int)+1)+(i:Int))))) outs (by lia) (names.getD (k+1+i) "") (λM3=>by
     generalize((k:Int)+1)+(i:Int)=ix at *;simp only[bJ,bj,bc,bu,bf,↓ag,br,bF,bz,bD,dh,pk,ea,↓evMap])
    refine⟨_,?_,F2,tq,some (.Y (.int (((k:Int)+1)+(i:Int)))),g2,⟨λo ho=>?_,by rw[l2,fu,mJ];lia⟩,rfl⟩
    .have Dp:(aZ F' 3 == 0)=true:=by rw[hd];rfl
     unfold qt;generalize((k:Int)+1)+(i:Int)=ix at *;simp only[fU,bG,bB,bH,reduceAdd,reduceLT,cj,bI,a_,↓ag,dP,de,bJ,bj,fK,bc,bf,bS,br,ko,fJ,fH,ed,lL,fX,fW,bF,bz,bD,oW,bZ,oV,and_self,qc,Dp,e2,dX]
    .rcases(m2 o).mp ho with z|z
     .rw[z];exact Jo (gm (k+1+i) (by lia)) (by lia)
     .exact sb o z
   .have Dp:(aZ F' 3 == 0)=false:=by rw[p7];exact hd
    refine⟨_,?_,aQ F' 3,outs,some (.Y (.int (((k:Int)+1)+(i:Int)))),gF.draw 3,⟨sb,by rw[fu,mJ];lia⟩,rfl⟩
    unfold qt;generalize((k:Int)+1)+(i:Int)=ix at *;simp only[fU,bG,bB,bH,reduceAdd,reduceLT,cj,bI,a_,↓ag,dP,de,bJ,bj,fK,bc,bf,bS,br,ko,fJ,fH,ed,lL,fX,fW,bF,bz,bD,oW,bZ,oV,and_self,qc,Dp,dU,dX,cX])
 rw[ig] at yK;obtain⟨Hs,ln1⟩:=yK;rw[pY] at ln1;rw[<-xI] at e1;obtain⟨F2,o2,g2,Mn,ln2,e2⟩:∃(F2:cy) (o2:List Str),cB F2/\(∀o∈o2,o∈names.drop (k+1))/\o2.length<=15/\mC [some (bt F1),some (.Y (.lst (names.map .str))),some (.Y (.int (k:Int))),some (.Y (.int (aO:Int))),some (.lst (o1.map fS)),a5]=some (.nx,[some (bt F2),some (.Y (.lst (names.map .str))),some (.Y (.int (k:Int))),some (.Y (.int (aO:Int))),some (.lst (o2.map fS)),a5]):=by
  have ed:=xd g1 (m:=4) (by decide) (by decide)
  by_cases Sr:k+1<aO
  .have sH:((k:Int)+1<(aO:Int)):=by lia
   have ea:=ga (k+1) (by lia)
   rw[show((k+1:Nat):Int)=(k:Int)+1 by lia] at ea
   by_cases hd:0<aZ F1 4
   .by_cases hc:o1.contains (names.getD (k+1) "")=true
    .refine⟨aQ F1 4,o1,g1.draw 4,Hs,by lia,?_⟩
     unfold mC;generalize(k:Int)=ki at *;generalize(aO:Int)=mi at *;simp only[dP,oU,de,bJ,bj,bc,bu,bf,↓ag,bS,br,bF,bz,bD,iR,i3,sH,decide_true,a_,fK,ko,bI,fJ,fH,ed,lL,fX,fW,hd,dh,pk,ea,↓evMap,jJ,ij,zW,hc,mK,dU,dX,cX]
    .rw[HM] at hc;obtain⟨F2,tq,g2,m2,l2,e2⟩:=KP (gB bM (af 1) (gB cn (af 2) (gC (.int 1)))) (aQ F1 4) (g1.draw 4) (.Y (.lst (names.map .str))) (.Y (.int (k:Int))) (.Y (.int (aO:Int))) a5 o1 (by lia) (names.getD (k+1) "") (λM3=>by
      generalize(k:Int)=ki at *;simp only[bJ,bj,bc,bu,bf,↓ag,bS,br,bF,bz,bD,iR,dh,pk,ea,↓evMap])
     refine⟨F2,tq,g2,λo ho=>?_,by lia,?_⟩
     .rcases(m2 o).mp ho with z|z
      .rw[z];exact Jo (gm (k+1) (by lia)) (by lia)
      .exact Hs o z
     .unfold mC;generalize(k:Int)=ki at *;generalize(aO:Int)=mi at *;simp only[dP,oU,de,bJ,bj,bc,bu,bf,↓ag,bS,br,bF,bz,bD,iR,i3,sH,decide_true,a_,fK,ko,bI,fJ,fH,ed,lL,fX,fW,hd,dh,pk,ea,↓evMap,jJ,ij,zW,hc,pZ,e2,dX]
   .refine⟨aQ F1 4,o1,g1.draw 4,Hs,by lia,?_⟩
    unfold mC;generalize(k:Int)=ki at *;generalize(aO:Int)=mi at *;simp only[dP,oU,de,bJ,bj,bc,bu,bf,↓ag,bS,br,bF,bz,bD,iR,i3,sH,decide_true,a_,fK,ko,bI,fJ,fH,ed,lL,fX,fW,hd,decide_false,dU,dh,pk,↓evMap,cX,dX]
  .have sH:¬((k:Int)+1<(aO:Int)):=by lia
   refine⟨F1,o1,g1,Hs,by lia,?_⟩
   unfold mC;generalize(k:Int)=ki at *;generalize(aO:Int)=mi at *;simp only[dP,oU,de,bJ,bj,bc,bu,bf,↓ag,bS,br,bF,bz,bD,iR,i3,sH,decide_false,a_,dU,fK,ko,bI,fJ,fH,cX,dX]
 obtain⟨F3,o3,g3,Hq,ne3,e3⟩:∃(F3:cy) (o3:List Str),cB F3/\o7 names k o3/\o3≠[]/\oq [some (bt F2),some (.Y (.lst (names.map .str))),some (.Y (.int (k:Int))),some (.Y (.int (aO:Int))),some (.lst (o2.map fS)),a5]=some (.nx,[some (bt F3),some (.Y (.lst (names.map .str))),some (.Y (.int (k:Int))),some (.Y (.int (aO:Int))),some (.lst (o3.map fS)),a5]):=by
  have ea:=ga aO (by lia)
  by_cases hc:o2.contains (names.getD aO "")=true
  .refine⟨F2,o2,g2,⟨Mn,by lia⟩,λz=>?_,?_⟩
   .rw[z] at hc;cases hc
   .unfold oq;generalize(k:Int)=ki at *;generalize(aO:Int)=mi at *;simp only[dP,oU,de,bJ,bj,bc,bu,bf,↓ag,br,bF,bz,bD,dh,pk,ea,↓evMap,jJ,ij,zW,hc,mK,a_,dU,ua,lJ,nH,I_,bS,iR,cX,dX]
  .rw[HM] at hc;obtain⟨a,bs,ec,AS⟩:=WC names o2 ((k:Int)+1) (by lia) ((aO:Int) - ((k:Int)+1)).toNat (by lia) (by lia)
   have i2:lV [.own (.Y (.int ((k:Int)+1))),.own (.Y (.int (aO:Int)))]=some ((k:Int)+1,(aO:Int)):=P5 (by lia) (by lia)
   cases vc:bs.any id with
   |true=>
    refine⟨F2,o2,g2,⟨Mn,by lia⟩,λz=>?_,?_⟩
    .rw[EB] at vc;obtain⟨b,hb,Sl⟩:=vc;rw[AS] at hb;obtain⟨i,_,e⟩:=gQ.mp hb;rw[<-e,z] at Sl;cases Sl
    .unfold oq;generalize(k:Int)=ki at *;generalize(aO:Int)=mi at *;simp only[dP,oU,de,bJ,bj,bc,bu,bf,↓ag,br,bF,bz,bD,dh,pk,ea,↓evMap,jJ,ij,zW,hc,pZ,a_,ua,lJ,nH,I_,bS,iR,i2,eQ,eD,qJ,cj,bI,oM,d_,eu,ec,bG,bB,bH,reduceAdd,p5,oF,qK,oO,Iv,vc,qa,mK,dU,dX,cX]
   |false=>
    obtain⟨F3,DS,g3,m3,l3,e3⟩:=KP (gB bM (af 1) (af 3)) F2 g2 (.Y (.lst (names.map .str))) (.Y (.int (k:Int))) (.Y (.int (aO:Int))) a5 o2 (by lia) (names.getD aO "") (λM3=>by
      generalize(aO:Int)=mi at *;simp only[bJ,bj,bc,bu,bf,↓ag,br,bF,bz,bD,dh,pk,ea,↓evMap])
    refine⟨F3,DS,g3,⟨λo ho=>?_,by lia⟩,λz=>?_,?_⟩
    .rcases(m3 o).mp ho with z|z
     .rw[z];exact Jo (gm aO (by lia)) (by lia)
     .exact Mn o z
    .have:=(m3 (names.getD aO "")).mpr (.inl rfl);rw[z] at this;cases this
    .unfold oq;generalize(k:Int)=ki at *;generalize(aO:Int)=mi at *;simp only[dP,oU,de,bJ,bj,bc,bu,bf,↓ag,br,bF,bz,bD,dh,pk,ea,↓evMap,jJ,ij,zW,hc,pZ,a_,ua,lJ,nH,I_,bS,iR,i2,eQ,eD,qJ,cj,bI,oM,d_,eu,ec,bG,bB,bH,reduceAdd,p5,oF,qK,oO,Iv,vc,qa,e3,dX]
 refine⟨F3,o3,g3,Hq,ne3,?_⟩;have i2:lV [.own (.Y (.int ((k:Int)+1))),.own (.Y (.int (names.length:Int)))]=some ((k:Int)+1,(names.length:Int)):=P5 (by lia) (by lia)
 unfold Fv;unfold Jn;have LA:((names.map D.str).length:Int)=(names.length:Int):=by rw[bY]
 generalize(k:Int)=ki at *;generalize(aO:Int)=mi at *;generalize(names.length:Int)=nl at *;simp only[fV,eJ,eK,bG,bB,bH,reduceAdd,reduceSub,eQ,eD,d_,eu,cY,dY,eX,br,↓ag,reduceLeDiff,dW,a_,reduceLT,cj,bI,e6u,bj,bJ,bc,bu,bf,bS,bF,bz,bD,iR,xZ,bZ,zL,LA,↓evMap,i2,e1,e2,e3,fO,qN,gw,gb,gc,rW,gj,fY]
def mL(aG:List Str):List aR->Prop
 |[]=>True
 |b::bs=>(∀o∈b.outs,o∈bs.map aR.name\/o∈aG)/\b.name∉bs.map aR.name/\b.name∉aG/\mL aG bs
structure EJ (b:aR):Prop where
 lg:1<=b.long/\b.long<=20
 ol:b.outs.length<=20
 on:b.outs≠[]
structure h_ (h:aA):Prop where
 bl:0<h.aB.length/\h.aB.length<=6
 ct:0<h.aG.length/\h.aG.length<=3
 bk:∀b∈h.aB,EJ b
 fwd:mL h.aG h.aB
 tl:∃L:Nat,(∀b∈h.aB,b.long<=L)/\h.aB.length*L<=30
theorem WD(ds:List D)(n:Nat):cutD ds (some (n:Int)) none=ds.drop n:=by
 unfold cutD;have e:HT.dA ds.length 0 (some (n:Int))=min n ds.length:=by
  unfold HT.dA;simp;lia
 have e2:HT.dA ds.length ds.length none=ds.length:=rfl;rw[e,e2];by_cases h:n<=ds.length
 .rw[Nat.min_eq_left h];exact List.take_of_length_le (by rw[vH];exact c7 _)
 .rw[Nat.min_eq_right (by lia),List.drop_eq_nil_of_le (c7 _),List.drop_eq_nil_of_le (by lia),List.take_nil]
theorem ZO(F:cy)(g:cB F)(names:List Str)(aO long k:Nat)(Ss:k<aO)(hm:aO<names.length)(hl:names.length<=12)(l0:4<=long)(l1:long<=14)(bs:List aR)(hb:bs.length<=100)(a3 a4 a8 a9:ai O):
  ∃(F':cy) (b:aR) (b8 b9:ai O),cB F'/\(b.long<=(long:Int))/\EJ b/\b.name=names.getD k ""/\o7 names k b.outs/\
   qh [some (bt F),some (.Y (.int (aO:Int))),some (.Y (.int (long:Int))),a3,a4,some (.Y (.lst (names.map .str))),some (.lst ((bs.map bw).map .Y)),some (.Y (.int (k:Int))),a8,a9] =
   some (.nx,[some (bt F'),some (.Y (.int (aO:Int))),some (.Y (.int (long:Int))),a3,a4,some (.Y (.lst (names.map .str))),some (.lst (((bs++[b]).map bw).map .Y)),some (.Y (.int (k:Int))),b8,b9]):=by
 have e1:=xd g (m:=3) (by decide) (by decide)
 have ga:fj (names.map D.str) (k:Int)=some (.str (names.getD k "")):=by
  apply qL;rw[lC,km (by lia),EG,km (by lia)]
  rfl
 generalize hr:(aZ F 3 == 0)=ring at *;have sx:(if ring=true then(1:Int) else 0)=0\/(if ring=true then(1:Int) else 0)=1:=by cases ring <;> simp
 have LB:0<(long:Int) - (if ring=true then 1 else 0):=by rcases sx with z|z <;> rw[z] <;> lia
 have hm2:(long:Int) - (if ring=true then 1 else 0)<1073741824:=by rcases sx with z|z <;> rw[z] <;> lia
 have e2:=xd (g.draw 3) LB hm2;have d0:=vO (aQ F 3) LB;have d1:=vS (aQ F 3) LB;obtain⟨F3,outs,g3,Hq,ne3,e3⟩:=ZN (aQ (aQ F 3) ((long:Int) - (if ring=true then 1 else 0))) ((g.draw 3).draw _) names k aO Ss hm hl
 refine⟨F3,⟨names.getD k "",1+(if ring=true then 1 else 0)+aZ (aQ F 3) ((long:Int) - (if ring=true then 1 else 0)),ring,outs⟩,some (.Y (.bl ring)),some (.Y (.int (1+(if ring=true then 1 else 0)+aZ (aQ F 3) ((long:Int) - (if ring=true then 1 else 0))))),g3,?_,⟨⟨?_,?_⟩,Hq.len,ne3⟩,rfl,Hq,?_⟩
 .dsimp only;rcases sx with z|z <;> rw[z] at d0 d1 ⊢ <;> lia
 .dsimp only;rcases sx with z|z <;> rw[z] at d0 d1 ⊢ <;> lia
 .dsimp only;rcases sx with z|z <;> rw[z] at d0 d1 ⊢ <;> lia
 .have hla:((bs.map bw).length<1000000)=True:=lE (by rw[bY];lia)
  rw[jI (f:=bw),show[(⟨names.getD k "",1+(if ring=true then 1 else 0)+aZ (aQ F 3) ((long:Int) - (if ring=true then 1 else 0)),ring,outs⟩:aR)].map bw=[.tup [.str (names.getD k ""),.int (1+(if ring=true then 1 else 0)+aZ (aQ F 3) ((long:Int) - (if ring=true then 1 else 0))),.bl ring,.lst (outs.map .str)]] from rfl]
  unfold qh;generalize hrb:(if ring=true then(1:Int) else 0)=rb at *
  generalize(aO:Int)=mi at *;generalize(long:Int)=li at *;generalize(k:Int)=ki at *;simp only[cY,dY,bJ,bj,fK,bc,bf,↓ag,bS,br,ko,bI,fJ,fH,e1,lL,fX,fW,bF,bz,bD,oW,bZ,oV,and_self,qc,hr,a_,bG,bB,bH,reduceAdd,reduceLT,cj,cD,bu,Zq,hrb,iR,i3,e2,kO,nJ,eX,dh,pk,ga,↓evMap,e3,i4,yg,reduceLeDiff,e_,dW,jh,ip,gh,qe,hla]
theorem Oj(names:List Str)(nd:names.Nodup)(aO:Nat)(hm:aO<=names.length):∀(bs:List aR) (j:Nat),j+bs.length=aO->(∀i b,bs[i]?=some b->b.name=names.getD (j+i) ""/\∀o∈b.outs,o∈names.drop (j+i+1))->bs.map aR.name=(names.drop j).take bs.length/\mL (names.drop aO) bs
 |[],j,hj,_=>⟨rfl,i9⟩
 |b::bs,j,hj,h=>by
  rw[jL] at hj;have h0:=h 0 b rfl;rw[Nat.add_zero] at h0;obtain⟨i1,i2⟩:=Oj names nd aO hm bs (j+1) (by lia) λi c e=>by
   have:=h (i+1) c (by rw[List.getElem?_cons_succ];exact e)
   rw[show j+(i+1)=j+1+i by lia] at this
   exact this
  have Lv:j<names.length:=by lia
  have ed:names.drop j=names.getD j ""::names.drop (j+1):=by
   rw[HI Lv,EG,km Lv];rfl
  have r9:names.drop (j+1)=bs.map aR.name++names.drop aO:=by
   rw[i1];have:=vI bs.length (names.drop (j+1));rw[List.drop_drop,show j+1+bs.length=aO by lia] at this
   exact this.symm
  have yG:(names.getD j ""::names.drop (j+1)).Nodup:=by rw[<-ed];exact nd.sublist (List.drop_sublist _ _)
  have nn:=(jr.mp yG).1;rw[r9] at nn;refine⟨by rw[c_,h0.1,i1,ed];rfl,⟨λo ho=>?_,λz=>nn (jb _ (by rw[<-h0.1];exact z)),λz=>nn (iB _ (by rw[<-h0.1];exact z)),i2⟩⟩
  have:=h0.2 o ho;rw[r9] at this;exact eR.mp this
theorem Vl(sv ix:Int)(z:Str)(a:ai O)(xn:vW [.Y (.int sv),.Y (.int ix)]=some (.Y (.str z),[none,none])):rP (bp 0) fm (ph vW (aq (af 1) (aq (af 0) gN))) (.int ix) [a,some (.Y (.int sv))]=some (some (.own (.Y (.str z))),[some (.Y (.int ix)),some (.Y (.int sv))]):=by
 simp only[t7,fU,bG,bB,bH,reduceAdd,reduceLT,bI,a_,↓ag,uU,BN,bj,bc,bu,bf,br,bF,bz,bD,ip,bZ,gh,eJ,eK,xn,XI]
theorem Yg(sv:Int)(st n:Nat)(kg:sv=st)(hs:st<27)(hn:n<=9):∃a,compLoop (bp 0) fm (ph vW (aq (af 1) (aq (af 0) gN))) ((List.range n).map λ(i:Nat)=>D.int (0+(i:Int))) [none,some (.Y (.int sv))] []=some (((List.range n).map λi=>D.str (nm st i)).map .Y,[a,some (.Y (.int sv))]):=by
 obtain⟨Q0n,⟨an,rfl⟩,en⟩:=xH (g:=bp 0) (ct:=fm) (ce:=ph vW (aq (af 1) (aq (af 0) gN))) (λQ0=>∃a,Q0=[a,some (.Y (.int sv))]) (λ(i:Nat)=>D.int (0+(i:Int))) (λi=>.str (nm st i)) (List.range n) [none,some (.Y (.int sv))] ⟨_,rfl⟩ (by rw[pY];lia) (by
  rintro i hi Q0 ⟨a,rfl⟩;rw[rf] at hi;exact⟨_,Vl sv (0+(i:Int)) (nm st i) a (Yf sv (0+(i:Int)) st i kg (by lia) hs (by lia)),_,rfl⟩)
 exact⟨an,en⟩
theorem ZP(F:cy)(g:cB F)(aO long:Nat)(m0:1<=aO)(m1:aO<=6)(l0:4<=long)(l1:long<=14)(ml:aO*long<=30)(a3:ai O):
  ∃(F':cy) (h:aA) (b1 b2 b3 b4 b5 b6 b7 b8 b9:ai O),cB F'/\h_ h/\oA [some (bt F),some (.Y (.int (aO:Int))),some (.Y (.int (long:Int))),a3,none,none,none,none,none,none] =
   some (.rt (.tup [.lst (h.aB.map fB),.Y (.lst (h.aG.map .str))]),[some (bt F'),b1,b2,b3,b4,b5,b6,b7,b8,b9]):=by
 have e1:=xd g (m:=27) (by decide) (by decide)
 have s0:=vO F (m:=27) (by decide)
 have s1:=vS F (m:=27) (by decide)
 have e2:=xd (g.draw 27) (m:=3) (by decide) (by decide)
 have n0:=vO (aQ F 27) (m:=3) (by decide)
 have n1:=vS (aQ F 27) (m:=3) (by decide)
 obtain⟨st,kg,hs⟩:=J4 (n:=27) s0 s1;obtain⟨nx,hnx,hx⟩:=J4 (n:=3) n0 n1;have i1:jR [.own (.Y (.int ((aO:Int)+1+aZ (aQ F 27) 3)))]=some ((aO:Int)+1+aZ (aQ F 27) 3):=BW (by lia)
 have hN:((aO:Int)+1+aZ (aQ F 27) 3).toNat=aO+1+nx:=by lia
 obtain⟨an,en⟩:=Yg (aZ F 27) st (aO+1+nx) kg hs (by lia)
 rw[<-xI,<-hN] at en;obtain⟨names,pF⟩:∃names:List Str,names=(List.range (aO+1+nx)).map (nm st):=⟨_,rfl⟩;have enm:((List.range ((aO:Int)+1+aZ (aQ F 27) 3).toNat).map λi=>D.str (nm st i))=names.map D.str:=by rw[pF,hN,oH];rfl
 rw[enm] at en;have hnl:names.length=aO+1+nx:=by rw[pF,bY,pY]
 have nd:names.Nodup:=by
  rw[pF];unfold List.Nodup;rw[List.pairwise_map];refine List.Pairwise.imp_of_mem ?_ (List.nodup_range (n:=aO+1+nx));intro i j hi hj Ls e;rw[rf] at hi hj;exact Ls (ZL st hs i (by lia) j (by lia) e)
 obtain⟨au,eL,F',bs,a7,a8,a9,Lc,hlen,AS,rfl⟩:=oP (g:=bp 7) (f:=qh) (λ(i:Nat)=>D.int (0+(i:Int))) (λpre Q0=>∃(F':cy) (bs:List aR) (a7 a8 a9:ai O),cB F'/\bs.length=pre.length/\(∀i b,bs[i]?=some b->(b.long<=(long:Int)/\EJ b)/\b.name=names.getD (0+i) ""/\∀o∈b.outs,o∈names.drop (0+i+1))/\ Q0=[some (bt F'),some (.Y (.int (aO:Int))),some (.Y (.int (long:Int))),a3,some (.Y (.int (aZ F 27))),some (.Y (.lst (names.map .str))),some (.lst ((bs.map bw).map .Y)),a7,a8,a9]) (List.range aO) []
  [some (bt (aQ (aQ F 27) 3)),some (.Y (.int (aO:Int))),some (.Y (.int (long:Int))),a3,some (.Y (.int (aZ F 27))),some (.Y (.lst (names.map .str))),some (.lst []),none,none,none] ⟨_,[],none,none,none,(g.draw 27).draw 3,rfl,λi b e=>(by simp at e),rfl⟩ (by
   rintro q k post Q0 eq ⟨F',bs,a7,a8,a9,gF,LA,AS,rfl⟩;rw[ig] at *;have hq:q.length=k/\k<aO:=by
    have e0:=congrArg (λl=>l[q.length]?) eq
    have hlen:=congrArg List.length eq;simp at hlen;simp at e0;rw[MS (by lia)] at e0
    exact⟨Option.some.inj e0,by have:=Option.some.inj e0;lia⟩
   obtain⟨F2,b,b8,b9,g2,bg,bo,bn,oo,e⟩:=ZO F' gF names aO long k hq.2 (by lia) (by lia) l0 l1 bs (by lia) a3 (some (.Y (.int (aZ F 27)))) a8 a9
   rw[show(k:Int)=0+(k:Int) by lia] at e
   refine⟨_,e,F2,bs++[b],_,b8,b9,g2,by rw[fu,fu,LA,mJ,mJ],λi c ec=>?_,rfl⟩
   by_cases hi:i<bs.length
   .rw[HG hi] at ec;exact AS i c ec
   .rw[HF (by lia)] at ec
    have hi0:i - bs.length=0:=by
     have:=(jX.mp ec).1;simp at this;lia
    rw[hi0] at ec;cases ec;have:0+i=k:=by lia
    rw[this];exact⟨⟨bg,bo⟩,bn,oo.sub⟩)
 rw[ig,pY] at hlen;rw[<-xI] at eL;have wG:∀b,b∈bs->b.long<=(long:Int)/\EJ b:=λb hb=>by
  obtain⟨i,hi,e⟩:=EA.mp hb;exact(AS i b (by rw[<-e];exact km hi)).1
 obtain⟨f1,f2⟩:=Oj names nd aO (by lia) bs 0 (by lia) λi b e=>(AS i b e).2
 refine⟨F',⟨bs,names.drop aO⟩,some (.Y (.int (aO:Int))),some (.Y (.int (long:Int))),a3,some (.Y (.int (aZ F 27))),some (.Y (.lst (names.map .str))),none,a7,a8,a9,Lc,⟨⟨by show 0<bs.length;lia,by show bs.length<=6;lia⟩,⟨?_,?_⟩,λb hb=>(wG b hb).2,f2,long,λb hb=>(wG b hb).1,?_⟩,?_⟩
 .show 0<(names.drop aO).length;rw[vH];lia
 .show(names.drop aO).length<=3;rw[vH];lia
 .show bs.length*long<=30;rw[hlen];exact ml
 .have im:jR [.own (.Y (.int (aO:Int)))]=some (aO:Int):=BW (by lia)
  have mt:(aO:Int).toNat=aO:=by lia
  have ct:=WD (names.map D.str) aO;have ec:(names.drop aO).map D.str=(names.map D.str).drop aO:=MU ..;have eb:(bs.map bw).map O.Y=bs.map fB:=by rw[oH];rfl
  unfold oA wN;dsimp only;rw[ec];rw[eb] at eL;generalize(aO:Int)=mi at *;generalize(long:Int)=li at *;simp only[cY,dY,cD,fK,bj,bc,bf,↓ag,bS,br,ko,bI,fJ,fH,e1,lL,fX,fW,bZ,bG,bB,bH,reduceAdd,reduceLT,cj,a_,nH,OL,bJ,bu,bF,bz,bD,iR,e2,i1,↓evMap,eQ,eD,qJ,ij,oM,d_,eu,en,p5,oF,qK,oO,i4,uj,eX,reduceLeDiff,dW,Kx,im,mt,eL,fO,qN,IZ,JE,JH,JD,UZ,ct,e_]
theorem Yh(F:cy)(g:cB F):∃(F':cy) (h:aA),cB F'/\h_ h/\zt [bt F]=some (.tup [.lst (h.aB.map fB),.Y (.lst (h.aG.map .str))],[some (bt F')]):=by
 have e1:=xd g (m:=4) (by decide) (by decide)
 have d0:=vO F (m:=4) (by decide)
 have d1:=vS F (m:=4) (by decide)
 have e2:=xd (g.draw 4) (m:=8) (by decide) (by decide)
 obtain⟨mn,hmn,hml⟩:=J4 (n:=4) d0 d1;have e4:(4:Int)=((4:Nat):Int):=rfl;have main:∃(aO long:Nat) ,1<=aO/\aO<=6/\4<=long/\long<=14/\aO*long<=30/\∀r,aU AZ (aU A_ r) [some (bt (aQ (aQ F 4) 8)),some (.Y (.int (1+aZ F 4))),some (.Y (.int 4)),some (.Y (.int (aZ (aQ F 4) 8))),none,none,none,none,none,none]=r [some (bt (aQ (aQ F 4) 8)),some (.Y (.int (aO:Int))),some (.Y (.int (long:Int))),some (.Y (.int (aZ (aQ F 4) 8))),none,none,none,none,none,none]:=by
  by_cases h5:aZ (aQ F 4) 8=5
  .refine⟨6,5,by lia,by lia,by lia,by lia,by lia,λr=>?_⟩
   have q5:(aZ (aQ F 4) 8 == 5)=true:=by rw[h5];rfl
   have q6:(aZ (aQ F 4) 8 == 6)=false:=by rw[h5];rfl
   have z6:((6:Nat):Int)=6:=rfl;have z5:((5:Nat):Int)=5:=rfl;rw[z6,z5];unfold AZ A_;simp only[cY,dP,de,bJ,bj,bc,bu,bf,↓ag,bS,br,bF,bz,bD,oW,bZ,oV,and_self,qc,q5,a_,dY,bG,bB,bH,reduceAdd,reduceLT,cj,bI,dX,q6,dU,cD,i3,Int.reduceLT,decide_true,iR,cX]
  .have q5:(aZ (aQ F 4) 8 == 5)=false:=by rw[p7];exact h5
   by_cases h6:aZ (aQ F 4) 8=6
   .refine⟨1+(1+mn) / 3,14,by lia,by lia,by lia,by lia,by lia,λr=>?_⟩
    have q6:(aZ (aQ F 4) 8 == 6)=true:=by rw[h6];rfl
    have z6:((1+(1+mn) / 3:Nat):Int)=1+(1+aZ F 4) / 3:=by lia
    have z5:((14:Nat):Int)=14:=rfl;have d3:decide (0<(3:Int)/\(3:Int)<1073741824)=true:=by decide
    rw[z6,z5];unfold AZ A_;simp only[cY,dP,de,bJ,bj,bc,bu,bf,↓ag,bS,br,bF,bz,bD,oW,bZ,oV,and_self,qc,q5,a_,dU,dY,bG,bB,bH,reduceAdd,reduceLT,cj,bI,dX,cX,q6,cD,i3,Int.reduceLT,decide_true,iR]
   .have q6:(aZ (aQ F 4) 8 == 6)=false:=by rw[p7];exact h6
    refine⟨1+mn,4,by lia,by lia,by lia,by lia,by lia,λr=>?_⟩
    have z6:((1+mn:Nat):Int)=1+aZ F 4:=by lia
    rw[z6,<-e4];unfold AZ A_;simp only[cY,dP,de,bJ,bj,bc,bu,bf,↓ag,bS,br,bF,bz,bD,oW,bZ,oV,and_self,qc,q5,a_,dU,dY,bG,bB,bH,reduceAdd,reduceLT,cj,bI,dX,cX,q6,cD,i3,Int.reduceLT,decide_true,iR]
 obtain⟨aO,long,m0,m1,l0,l1,ml,em⟩:=main;obtain⟨F',h,b1,b2,b3,b4,b5,b6,b7,b8,b9,Lc,ok,er⟩:=ZP (aQ (aQ F 4) 8) ((g.draw 4).draw 8) aO long m0 m1 l0 l1 ml (some (.Y (.int (aZ (aQ F 4) 8))));have R9:=em oA;rw[er] at R9;refine⟨F',h,Lc,ok,?_⟩;unfold zt;unfold IF;generalize aU AZ (aU A_ oA)=rest at *;simp only[fV,eJ,eK,bG,bB,bH,reduceSub,eQ,eD,d_,eu,cY,dY,cD,bJ,bj,bS,↓ag,fK,bc,bf,br,ko,bI,fJ,fH,e1,lL,fX,fW,bF,bz,bD,iR,bZ,reduceAdd,reduceLT,cj,a_,e2,R9,gw,gb,gc,rW,fY]
noncomputable def findB(bs:List aR)(n:Str):ai aR:=bs.find? λb=>b.name == n
theorem O0{aG:List Str}:∀{bs:List aR},mL aG bs->∀x∈bs,∀y∈bs,x.name=y.name->x=y
 |z::bs,f,x,hx,y,hy,e=>by
  rcases dR.mp hx with rG|rG
  .rcases dR.mp hy with uA|uA
   .rw[rG,uA]
   .exact b_ (Bq (f:=aR.name) uA) (by rw[<-e,rG];exact f.2.1)
  .rcases dR.mp hy with uA|uA
   .exact b_ (Bq (f:=aR.name) rG) (by rw[e,uA];exact f.2.1)
   .exact O0 f.2.2.2 x rG y uA e
theorem Fc{aG:List Str}:∀{bs:List aR},mL aG bs->∀c∈aG,c∉bs.map aR.name
 |[],_,c,_,h=>by cases h
 |b::bs,f,c,hc,h=>by
  rcases dR.mp h with z|z
  .exact f.2.2.1 (by rw[<-z];exact hc)
  .exact Fc f.2.2.2 c hc z
theorem Il{aG:List Str}:∀{bs:List aR},mL aG bs->∀b∈bs,findB bs b.name=some b
 |x::bs,f,b,hb=>by
  rcases dR.mp hb with rfl|hb
  .unfold findB;rw[qB,rj]
  .have:(x.name == b.name)=false:=by
    rw[p7];exact λe=>f.2.1 (by rw[e];exact Bq (f:=aR.name) hb)
   unfold findB;rw[qB,this];exact Il f.2.2.2 b hb
theorem e7f(x:Str):iu [.Y (.str x),.Y (.ty "str")]=some (.Y (.bl true)):=by unfold iu;simp[mw,lW,O.d]
theorem RS(ds:List D):iu [.Y (.tup ds),.Y (.ty "tuple")]=some (.Y (.bl true)):=by unfold iu;simp[mw,lW,O.d]
theorem ZQ(ds:List D):iu [.Y (.tup ds),.Y (.ty "str")]=some (.Y (.bl false)):=by unfold iu;simp[mw,lW,O.d]
theorem HA(h:aA):dQ (.Y (bR h)) (.int 0)=some (.Y (.lst (h.aB.map bw))):=by unfold bR;simp only[lK,ng,EF]
theorem HC(h:aA):dQ (.Y (bR h)) (.int 1)=some (.Y (.lst (h.aG.map .str))):=by unfold bR;simp only[lK,o8,EF]
theorem ML(b:aR):dQ (.Y (bw b)) (.int 1)=some (.Y (.int b.long)):=by unfold bw;simp only[lK,o8,EF]
theorem Tf(b:aR):dQ (.Y (bw b)) (.int 2)=some (.Y (.bl b.ring)):=by unfold bw;simp only[lK,Jb,EF]
theorem Tg(b:aR):dQ (.Y (bw b)) (.int 3)=some (.Y (.lst (b.outs.map .str))):=by unfold bw;simp only[lK,zC,EF]
theorem WE(b:aR):cO 3 (bw b)=true:=by
 unfold bw;show([D.str b.name,.int b.long,.bl b.ring,.lst (b.outs.map .str)]:List D).all (cO 2)=true;simp only[tY,EH,qb,oV,XN,Br,EE];exact FX 1 b.outs
theorem Jp:∀(n:Nat) (d:D),cO n d=true->cO (n+1) d=true
 |0,d,h=>by cases d <;> first|(cases h;done)|rfl
 |n+1,d,h=>by
  cases d with
  |lst xs=>exact kI.mpr λx m=>Jp n x (kI.mp h x m)
  |tup xs=>exact kI.mpr λx m=>Jp n x (kI.mp h x m)
  |aF _=>cases h
  |fG _=>cases h
  |ty _=>cases h
  |exc _ _=>cases h
  |obj=>cases h
  |_=>rfl
theorem Rj{n:Nat}{d:D}(h:cO n d=true):∀k,cO (n+k) d=true
 |0=>h
 |k+1=>Jp _ _ (Rj h k)
noncomputable def xg(b:aR):List O:=[.Y (.str b.name),.Y (.int b.long),.Y (.bl b.ring),.Y (.lst (b.outs.map .str))]
abbrev j8(b:aR):O:=.tup (xg b)
theorem IJ(xs:List Str):i_ [.Y (.lst (xs.map .str))]=some (.lst (xs.map fS)):=by
 rw[Ki];rfl
theorem P6(n:Str)(hd:D):∀(bs:List aR) (a:ai O),∃au,fM (bp 2) (cH (gT (gB oEq (gB bM (af 2) (gC (.int 0))) (af 1))) (ba (aY .tup (aq (gB bM (af 2) (gC (.int 0))) (aq (gB bM (af 2) (gC (.int 1))) (aq (gB bM (af 2) (gC (.int 2))) (aq (ax (gO i_ (aq (gB bM (af 2) (gC (.int 3))) gN))) gN)))))) bL) (bs.map bw) [some (.Y hd),some (fS n),a]=some (match findB bs n with|some b=>.rt (j8 b)|none=>.nx,[some (.Y hd),some (fS n),au])
 |[],a=>⟨a,rfl⟩
 |b::bs,a=>by
  cases hc:b.name == n with
  |true=>
   have e:findB (b::bs) n=some b:=by unfold findB;rw[qB,hc]
   refine⟨some (fB b),?_⟩;rw[e];simp only[eJ,bw,xF,fU,bG,bB,bH,reduceAdd,reduceLT,cj,bI,a_,↓ag,dP,de,bJ,bj,bc,bu,bf,bS,br,bF,bz,bD,dh,lK,ng,↓evMap,oW,bZ,qb,and_self,Cb,hc,fO,eX,o8,Jb,cD,zC,IJ,i4,yg,reduceLeDiff,e_,dW,dX];rfl
  |false=>
   have e:findB (b::bs) n=findB bs n:=by unfold findB;rw[qB,hc]
   obtain⟨g',e'⟩:=P6 n hd bs (some (fB b));refine⟨g',?_⟩;rw[e,<-e'];unfold bw at *;simp only[eJ,xF,fU,bG,bB,bH,reduceAdd,reduceLT,cj,bI,a_,↓ag,dP,de,bJ,bj,bc,bu,bf,bS,br,bF,bz,bD,dh,lK,ng,↓evMap,oW,bZ,qb,and_self,Cb,hc,dU,fO,eX,o8,Jb,cD,zC,dX,cX];rfl
theorem MK(h:aA)(n:Str):BH [.Y (bR h),fS n]=some (match findB h.aB n with|some b=>j8 b|none=>.Y .bh,[none,none]):=by
 obtain⟨g',e⟩:=P6 n (bR h) h.aB none;unfold BH IB;unfold bR at *;cases q:findB h.aB n with
 |none=>
  rw[q] at e;simp only[fV,eJ,eK,bG,bB,bH,reduceAdd,reduceSub,eQ,eD,d_,eu,cY,pj,cD,bJ,bj,bc,bf,↓ag,bS,br,bF,bz,bD,dh,lK,ng,↓evMap,bZ,e,fO,gw,gb,gc,gj,fY,a_]
 |some b=>
  rw[q] at e;simp only[fV,eJ,eK,bG,bB,bH,reduceAdd,reduceSub,eQ,eD,d_,eu,cY,pj,cD,bJ,bj,bc,bf,↓ag,bS,br,bF,bz,bD,dh,lK,ng,↓evMap,bZ,e,gw,gb,gc,gj,fY,a_]
theorem ZR(b:aR):(j8 b).d=bw b:=by unfold j8 xg bw;simp only[ip,gh,bZ,i4,jh,yg]
theorem e7g(h:aA)(b:aR)(f:mL h.aG h.aB)(hb:b∈h.aB):BH [.Y (bR h),fS b.name]=some (j8 b,[none,none]):=by
 have e:=MK h b.name;rw[Il f b hb] at e;exact e
noncomputable def nZ(h:aA)(o:Str):D:=if h.aG.contains o=true then .str o else .tup [.str o,.int 0]
def qr(h:aA)(b:aR):List D:=b.outs.map (nZ h)++if b.ring=true then[.tup [.str b.name,.int 0]] else[]
def zX(h:aA)(b:aR)(c:Int):List D:=if c+1<b.long then[.tup [.str b.name,.int (c+1)]] else qr h b
theorem Yi(h:aA)(b:aR)(c:Int)(f:mL h.aG h.aB)(hb:b∈h.aB)(ol:b.outs.length<=24):FW [.Y (bR h),.Y (.tup [.str b.name,.int c])]=some (.lst ((zX h b c).map .Y),[none,none]):=by
 have e1:=e7g h b f hb;have td:=ZR b;unfold FW JN zX;by_cases hc:c+1<b.long
 .rw[aT hc];generalize j8 b=tb at *;simp only[fV,eJ,eK,bG,bB,bH,reduceAdd,reduceSub,eQ,eD,d_,eu,cY,dY,cD,fK,bj,bc,bf,↓ag,bJ,bu,bS,br,bF,bz,bD,dh,lK,ng,↓evMap,fJ,fH,e1,fX,fW,td,reduceLT,cj,bI,a_,dP,de,o8,iR,ML,i3,hc,decide_true,fO,eX,bZ,reduceLeDiff,e_,dW,jh,ip,gh,dX,gw,gb,gc,gj,fY]
 .rw[aW hc];obtain⟨au,⟨a,rfl⟩,e2⟩:=xH (g:=bp 0) (ct:=fm) (ce:=ax (AQ (gT (gB (cw false) (af 0) (gB bM (af 1) (gC (.int 1))))) (af 0) (aY .tup (aq (af 0) (aq (gC (.int 0)) gN))))) (λQ0=>∃a,Q0=[a,some (.Y (bR h))]) D.str (nZ h) b.outs [none,some (.Y (bR h))] ⟨_,rfl⟩ (by lia) (by
   rintro x hx Q0 ⟨a,rfl⟩;refine⟨[some (fS x),some (.Y (bR h))],?_,_,rfl⟩;unfold nZ;by_cases hx:h.aG.contains x=true
   .rw[aT hx];simp only[t7,fU,bG,bB,bH,reduceAdd,reduceLT,bI,a_,↓ag,uU,cD,yd,de,bJ,bj,bc,bf,bu,bS,br,bF,bz,bD,dh,HC,Gz,dU,hx,cX,eX,reduceLeDiff,e_,dW,bZ]
   .rw[aW hx];rw[HM] at hx;simp only[t7,fU,bG,bB,bH,reduceAdd,reduceLT,bI,a_,↓ag,uU,cD,yd,de,bJ,bj,bc,bf,bu,bS,br,bF,bz,bD,dh,HC,Gz,dU,hx,cX,eX,reduceLeDiff,e_,dW,jh,ip,bZ,gh])
  unfold qr;by_cases hr:b.ring=true
  .rw[aT hr];have l1:((b.outs.map (nZ h)).length<1000000)=True:=lE (by rw[bY];lia)
   generalize j8 b=tb at *;simp only[fV,eJ,eK,bG,bB,bH,reduceAdd,reduceSub,eQ,eD,d_,eu,cY,dY,cD,fK,bj,bc,bf,↓ag,bJ,bu,bS,br,bF,bz,bD,dh,lK,ng,↓evMap,fJ,fH,e1,fX,fW,td,reduceLT,cj,bI,a_,dP,de,o8,iR,ML,i3,hc,decide_false,dU,fO,eX,bZ,reduceLeDiff,e_,dW,jh,ip,gh,dX,cX,nH,rS,Tg,qJ,ij,oM,e2,p5,oF,qK,oO,lJ,Tf,hr,qa,kO,nJ,qe,l1,qN,gw,gb,gc,gj,fY]
  .rw[aW hr,j9];rw[HM] at hr;generalize j8 b=tb at *;simp only[fV,eJ,eK,bG,bB,bH,reduceAdd,reduceSub,eQ,eD,d_,eu,cY,dY,cD,fK,bj,bc,bf,↓ag,bJ,bu,bS,br,bF,bz,bD,dh,lK,ng,↓evMap,fJ,fH,e1,fX,fW,td,reduceLT,cj,bI,a_,dP,de,o8,iR,ML,i3,hc,decide_false,dU,fO,eX,bZ,reduceLeDiff,e_,dW,jh,ip,gh,dX,cX,nH,rS,Tg,qJ,ij,oM,e2,p5,oF,qK,oO,lJ,Tf,hr,qa,kO,nJ,qe,qN,gw,gb,gc,gj,fY]
theorem Fw{aG:List Str}:∀{bs:List aR},mL aG bs->∀b∈bs,∀o∈b.outs,o∈bs.map aR.name\/o∈aG
 |x::bs,f,b,hb,o,ho=>by
  rcases dR.mp hb with rfl|hb
  .rcases f.1 o ho with z|z
   .exact .inl (.tail _ z)
   .exact .inr z
  .rcases Fw f.2.2.2 b hb o ho with z|z
   .exact .inl (.tail _ z)
   .exact .inr z
noncomputable def bT:Str ⊕ (Str×Int)->D
 |.inl x=>.str x
 |.inr (x,i)=>.tup [.str x,.int i]
noncomputable def i7(h:aA)(b:aR)(c:Int):List (Str ⊕ (Str×Int)):=if c+1<b.long then[.inr (b.name,c+1)] else(b.outs.map λo=>if h.aG.contains o=true then .inl o else .inr (o,0))++if b.ring=true then[.inr (b.name,0)] else[]
theorem O1(h:aA)(b:aR)(c:Int):(i7 h b c).map bT=zX h b c:=by
 unfold i7 zX qr;split
 .rfl
 .rw[jI,oH]
  congr 1
  .apply HN;intro o _;show bT (if _ then _ else _)=nZ h o
   unfold nZ;split <;> rfl
  .split <;> rfl
abbrev Sp:=Str ⊕ (Str×Int)
theorem e7h(x y:Str)(i j:Int):bx (.tup [.str x,.int i]) (.tup [.str y,.int j])=(x == y&&i == j):=by
 unfold bx gn;rw[Cb];unfold gn;rw[qc];unfold gn;rw[EE]
theorem RT(a b:Sp):bx (bT a) (bT b)=decide (a=b):=by
 cases a with
 |inl x=>
  cases b with
  |inl y=>
   show bx (.str x) (.str y)=_;rw[Cb];by_cases h:x=y
   .rw[h,rj,jt rfl]
   .rw[show(x == y)=false by rw[p7];exact h,jc (λz=>h (Sum.inl.inj z))]
  |inr q=>show bx (.str x) (.tup _)=_;unfold bx;rw[jc (λz=>by cases z)]
 |inr p=>
  cases b with
  |inl y=>show bx (.tup _) (.str y)=_;unfold bx;rw[jc (λz=>by cases z)]
  |inr q=>
   obtain⟨x,i⟩:=p;obtain⟨y,j⟩:=q;show bx (.tup [.str x,.int i]) (.tup [.str y,.int j])=_;rw[e7h];by_cases h1:x=y
   .by_cases h2:i=j
    .rw[h1,h2,rj,rj,jt rfl];rfl
    .rw[show(i == j)=false by rw[p7];exact h2,HJ,jc (λz=>h2 (by cases z;rfl))]
   .rw[show(x == y)=false by rw[p7];exact h1,Bj,jc (λz=>h1 (by cases z;rfl))]
theorem e7i(n:Nat)(x:Str)(i:Int):cO (n+1) (.tup [.str x,.int i])=true:=by
 show([D.str x,.int i]:List D).all (cO n)=true;simp only[tY,EH,qb,oV,Br]
theorem CB(n:Nat)(a:Sp):cO (n+1) (bT a)=true:=by
 cases a with
 |inl x=>exact qb _ x
 |inr p=>obtain⟨x,i⟩:=p;exact e7i n x i
theorem Kj(n:Nat)(as:List Sp):(as.map bT).all (cO (n+1))=true:=by
 rw[kI];intro d hd;obtain⟨a,_,rfl⟩:=gQ.mp hd;exact CB n a
noncomputable def eT(x:Sp)(as:List Sp):Bool:=as.any λa=>decide (a=x)
theorem gG{x:Sp}{as:List Sp}:eT x as=true↔x∈as:=by
 unfold eT;rw[EB];constructor
 .rintro⟨a,ha,e⟩;rw[MY] at e;rw[<-e];exact ha
 .exact λh=>⟨x,h,jt rfl⟩
theorem Rk(x:Sp)(as:List Sp):((as.map bT).any λz=>bx z (bT x))=eT x as:=by
 unfold eT;rw[List.any_map]
 congr 1
 funext a;exact RT a x
theorem Rl(neg:Bool)(x:Sp)(as:List Sp):cw neg [.Y (bT x),.lst ((as.map bT).map .Y)]=some (.Y (.bl (if neg then !eT x as else eT x as))):=by
 have hd:iG (.lst ((as.map bT).map .Y))=none:=rfl;have key:((pO (O.lst ((as.map bT).map O.Y)).d).bind λds=>if cO 40 (O.Y (bT x)).d=true/\ds.all (cO 40)=true then some (O.Y (.bl (if neg then !ds.any λz=>bx z (O.Y (bT x)).d else ds.any λz=>bx z (O.Y (bT x)).d))) else none)=some (.Y (.bl (if neg then !eT x as else eT x as))):=by
  rw[i4,pe,bZ];show(Option.bind (some (as.map bT)) _)=_;rw[Option.bind_some,aT ⟨CB 39 x,Kj 39 as⟩,Rk]
 cases x with
 |inl y=>exact key
 |inr p=>exact key
theorem Yj(a:Sp):iu [.Y (bT a),.Y (.ty "str")]=some (.Y (.bl a.isLeft)):=by
 cases a with
 |inl x=>exact e7f x
 |inr p=>exact ZQ _
theorem Yk(a:Sp):iu [.Y (bT a),.Y (.ty "tuple")]=some (.Y (.bl (!a.isLeft))):=by
 cases a with
 |inl x=>
  unfold iu;simp[mw,lW,O.d,bT]
 |inr p=>exact RS _
def lr(h:aA):Sp->List Sp
 |.inl _=>[]
 |.inr (n,c)=>match findB h.aB n with
  |some b=>i7 h b c
  |none=>[]
theorem P7{h:aA}(f:mL h.aG h.aB){b:aR}(hb:b∈h.aB)(c:Int):lr h (.inr (b.name,c))=i7 h b c:=by
 show(match findB h.aB b.name with|some b=>i7 h b c|none=>[])=_
 rw[Il f b hb]
theorem Ol(h:aA)(b:aR)(c:Int)(ol:b.outs.length<=20):(i7 h b c).length<=30:=by
 unfold i7;split
 .rw[mJ];lia
 .rw[fu,bY];split
  .rw[mJ];lia
  .rw[uE];lia
def we:GE:=(kq (mG (aq (af 3) gN)) (bp 0) fm (ax (aY .tup (aq (af 1) (aq (af 0) gN)))) 1 [2])
def GC:GS:=(av 1 (ax (gB cn (af 1) we)))
theorem Vm(n:Str)(ix:Int)(a:ai O):rP (bp 0) fm (ax (aY .tup (aq (af 1) (aq (af 0) gN)))) (.int ix) [a,some (fS n)]=some (some (.own (.Y (.tup [.str n,.int ix]))),[some (.Y (.int ix)),some (fS n)]):=by
 simp only[t7,fU,bG,bB,bH,reduceAdd,reduceLT,bI,a_,↓ag,uU,cD,eX,bj,bc,bu,bf,br,reduceLeDiff,e_,dW,jh,ip,bZ,gh]
theorem Uq(s0 a4 a5:ai O)(cs:List Sp)(n:Str)(long:Int)(l0:1<=long)(l1:long<=20)(hc:cs.length<=200):
  ∃new:List Sp,(∀s∈new,∃i:Int,s=.inr (n,i)/\0<=i/\i<long)/\0<new.length/\new.length<=20/\GC [s0,some (.Y (.lst (cs.map bT))),some (fS n),some (.Y (.int long)),a4,a5]=some (.nx,[s0,some (.Y (.lst ((cs++new).map bT))),some (fS n),some (.Y (.int long)),a4,a5]):=by
 obtain⟨au,⟨a,rfl⟩,e⟩:=xH (g:=bp 0) (ct:=fm) (ce:=ax (aY .tup (aq (af 1) (aq (af 0) gN)))) (λQ0=>∃a,Q0=[a,some (fS n)]) (λ(i:Nat)=>D.int (0+(i:Int))) (λ(i:Nat)=>.tup [.str n,.int (0+(i:Int))]) (List.range long.toNat) [none,some (fS n)] ⟨_,rfl⟩ (by rw[pY];lia) (by
  rintro i hi Q0 ⟨a,rfl⟩;exact⟨_,Vm n (0+(i:Int)) a,_,rfl⟩)
 refine⟨(List.range long.toNat).map λ(i:Nat)=>.inr (n,0+(i:Int)),λs hs=>?_,by rw[bY,pY];lia,by rw[bY,pY];lia,?_⟩
 .obtain⟨i,hi,rfl⟩:=gQ.mp hs;rw[rf] at hi;exact⟨_,rfl,by lia,by lia⟩
 .have en:(List.range long.toNat).map (λ(i:Nat)=>D.tup [.str n,.int (0+(i:Int))])=((List.range long.toNat).map λ(i:Nat)=>(Sum.inr (n,0+(i:Int)):Sp)).map bT:=by rw[oH];rfl
  rw[en] at e;have hl:((List.range long.toNat).map λ(i:Nat)=>(Sum.inr (n,0+(i:Int)):Sp)).length<=20:=by rw[bY,pY];lia
  generalize((List.range long.toNat).map λ(i:Nat)=>(Sum.inr (n,0+(i:Int)):Sp))=new at *
  rw[<-xI] at e;have i1:jR [.own (.Y (.int long))]=some long:=BW (by lia)
  have c1:((cs.map bT).length+(new.map bT).length<=1000000)=True:=lE (by rw[bY,bY];lia)
  rw[jI (f:=bT)];unfold GC we;simp only[dY,cD,bJ,bj,bc,bu,bf,↓ag,nH,OL,br,i1,↓evMap,eQ,eD,qJ,ij,cj,bI,oM,d_,eu,e,bG,bB,bH,reduceAdd,p5,oF,qK,oO,a_,bF,bz,bD,V8,Gs,zA,c1,i4,uj,reduceLT]
def VC(h:aA)(s:Sp):Prop:=∃b∈h.aB,∃c:Int,s=.inr (b.name,c)/\0<=c/\c<b.long
theorem Yl(h:aA)(ok:h_ h):∃cs:List Sp,(∀s∈cs,VC h s)/\0<cs.length/\cs.length<=120/\E9 [.Y (bR h)]=some (.Y (.lst (cs.map bT)),[none]):=by
 obtain⟨au,e,cs,a2,a3,a4,a5,v,l0,l1,rfl⟩:=oP (g:=eG [(bp 2),(bp 3),(bp 4),(bp 5)]) (f:=GC) bw (λpre Q0=>∃(cs:List Sp) (a2 a3 a4 a5:ai O),(∀s∈cs,VC h s)/\pre.length<=cs.length/\cs.length<=pre.length*20/\Q0=[some (.Y (bR h)),some (.Y (.lst (cs.map bT))),a2,a3,a4,a5]) h.aB []
  [some (.Y (bR h)),some (.Y (.lst [])),none,none,none,none] ⟨[],none,none,none,none,λs m=>(by cases m),c7 _,c7 _,rfl⟩ (by
   rintro q b post Q0 eq ⟨cs,a2,a3,a4,a5,v,l0,l1,rfl⟩;rw[ig] at *;have hb:b∈h.aB:=by rw[eq];simp
   have bl:=ok.bl;have hql:h.aB.length=q.length+(post.length+1):=by rw[eq,fu,jL]
   have lg:=(ok.bk b hb).lg;obtain⟨new,n1,n2,n3,e⟩:=Uq (some (.Y (bR h))) (some (.Y (.bl b.ring))) (some (.Y (.lst (b.outs.map .str)))) cs b.name b.long lg.1 lg.2 (by lia)
   refine⟨[some (.Y (bR h)),some (.Y (.lst ((cs++new).map bT))),some (fS b.name),some (.Y (.int b.long)),some (.Y (.bl b.ring)),some (.Y (.lst (b.outs.map .str)))],?_,cs++new,_,_,_,_,λs hs=>?_,by rw[fu,fu,mJ];lia,by rw[fu,fu,mJ];lia,rfl⟩
   .unfold bw;simp only[xM,xD,fU,bG,bB,bH,reduceAdd,reduceLT,cj,bI,a_,↓ag,xC,e]
   .rcases eR.mp hs with z|z
    .exact v s z
    .obtain⟨i,rfl,i0,i1⟩:=n1 s z;exact⟨b,hb,i,rfl,i0,i1⟩)
 rw[ig] at *;have bl:=ok.bl;refine⟨cs,v,by lia,by lia,?_⟩
 have me:IC=aU (av 1 (ax (aY .lst gN))) (aU (eI (gB bM (af 0) (gC (.int 0))) (eG [(bp 2),(bp 3),(bp 4),(bp 5)]) GC) (ba (af 1))):=rfl;unfold E9;rw[me];simp only[fV,eJ,eK,bG,bB,bH,reduceSub,eQ,eD,d_,eu,cY,dY,cD,eX,br,↓ag,reduceLeDiff,dW,a_,i4,gh,reduceAdd,reduceLT,cj,bI,pj,bJ,bj,bc,bf,bS,bF,bz,bD,dh,HA,bZ,e,fO,bu,gw,gb,gc,gj,fY]
theorem Ym(h:aA)(ok:h_ h)(b:aR)(hb:b∈h.aB)(c:Int):zM [.Y (bR h),.Y (.tup [.str b.name,.int c])]=some (.lst (((i7 h b c++[(Sum.inr (b.name,c):Sp)]).map bT).map .Y),[none,none]):=by
 have e1:=Yi h b c ok.fwd hb (by have:=(ok.bk b hb).ol;lia)
 rw[<-O1] at e1;have hl:=Ol h b c (ok.bk b hb).ol;have c1:(((i7 h b c).map bT).length+1<=1000000)=True:=lE (by rw[bY];lia)
 rw[jI (f:=bT),show[(Sum.inr (b.name,c):Sp)].map bT=[.tup [.str b.name,.int c]] from rfl];unfold zM JO;simp only[fV,eJ,eK,bG,bB,bH,reduceAdd,reduceSub,eD,d_,eu,fO,bJ,bj,fK,bc,bf,↓ag,bu,br,fJ,fH,e1,fX,fW,eX,reduceLeDiff,e_,dW,a_,bF,bz,bD,JF,Gs,zA,J7,J6,c1,gw,gb,gc,gj,fY]
end Carry
namespace Carry
section
variable{ν:Type}[DecidableEq ν]
noncomputable def sm(f:ν->Int):List ν->Int
 |[]=>0
 |v::l=>f v+sm f l
theorem rR{f g:ν->Int}:∀{l:List ν},(∀v,v∈l->f v=g v)->sm f l=sm g l
 |[],_=>rfl
 |v::l,h=>by
  show f v+sm f l=g v+sm g l;rw[h v (.head _),rR λv m=>h v (.tail _ m)]
theorem ya(f g:ν->Int):∀l:List ν,sm (λv=>f v+g v) l=sm f l+sm g l
 |[]=>rfl
 |v::l=>by
  show f v+g v+sm _ l=f v+sm f l+(g v+sm g l);rw[ya f g l];lia
theorem Kk(f:ν->Int):∀l:List ν,sm (λv => - f v) l = - sm f l
 |[]=>rfl
 |v::l=>by
  show - f v+sm _ l = - (f v+sm f l);rw[Kk f l];lia
theorem zN{f:ν->Int}:∀{l:List ν},(∀v,v∈l->f v=0)->sm f l=0
 |[],_=>rfl
 |v::l,h=>by
  show f v+sm f l=0;rw[h v (.head _),zN λv m=>h v (.tail _ m)];rfl
theorem Fd{f:ν->Int}:∀{l:List ν},(∀v,v∈l->0<=f v)->0<=sm f l
 |[],_=>vK 0
 |v::l,h=>by
  have h1:=h v (.head _);have h2:=Fd λv m=>h v (.tail _ m)
  show 0<=f v+sm f l;lia
theorem GD{f:ν->Int}:∀{l:List ν},(∀v,v∈l->0<=f v)->∀x,x∈l->f x<=sm f l
 |v::l,h,x,m=>by
  have h1:=h v (.head _);have h2:=Fd λv m=>h v (.tail _ m)
  show f x<=f v+sm f l;rcases dR.mp m with m|m
  .subst m;lia
  .have:=GD (λv m=>h v (.tail _ m)) x m
   lia
theorem P8(g:ν->ν->Int):∀A B:List ν,sm (λv=>sm (g v) B) A=sm (λb=>sm (λv=>g v b) A) B
 |[],B=>(zN λ_ _=>rfl).symm
 |a::A,B=>by
  show sm (g a) B+sm (λv=>sm (g v) B) A=sm (λb=>g a b+sm (λv=>g v b) A) B
  rw[P8 g A B,ya]
theorem P9{g:ν->ν->Int}(h:∀v b,g v b = - g b v)(S:List ν):sm (λv=>sm (g v) S) S=0:=by
 have e1:=P8 g S S;have e2:sm (λb=>sm (λv=>g v b) S) S = - sm (λv=>sm (g v) S) S:=by
  rw[<-Kk];exact rR λb _=>by rw[<-Kk];exact rR λv _=>h v b
 lia
theorem Fx(f:ν->Int)(p:ν->Bool):∀l:List ν,sm f l=sm f (l.filter p)+sm f (l.filter λv => !p v)
 |[]=>rfl
 |v::l=>by
  show f v+sm f l=_;rw[Fx f p l,Bl,Bl];cases p v with
  |true=>show _=(f v+sm f (l.filter p))+sm f (l.filter λv => !p v);lia
  |false=>show _=sm f (l.filter p)+(f v+sm f (l.filter λv => !p v));lia
theorem t8{x:ν}(d:Int):∀{l:List ν},l.Nodup->sm (λv=>if v=x then d else 0) l=if x∈l then d else 0
 |[],_=>rfl
 |v::l,nd=>by
  rw[jr] at nd;show(if v=x then d else 0)+sm _ l=_
  rw[t8 d nd.2];by_cases e:v=x
  .subst e;rw[aT rfl,aW nd.1,aT (.head _)];lia
  .rw[aW e];by_cases m:x∈l
   .rw[aT m,aT (.tail _ m)];lia
   .rw[aW m,aW λz=>by
     rcases dR.mp z with z|z
     .exact e z.symm
     .exact m z]
    rfl
structure jY (V:List ν) (s t:ν) (r0 r:ν->ν->Int):Prop where
 nn:∀v b,0<=r v b
 an:∀v b,r0 v b - r v b = - (r0 b v - r b v)
 cs:∀v,v∈V->v≠s->v≠t->sm (λb=>r0 v b - r v b) V=0
 sp:∀v b,(v∉V\/b∉V)->r0 v b=0/\r v b=0
 ns:s≠t
 ms:s∈V
 mt:t∈V
 nd:V.Nodup
noncomputable def aug(r:ν->ν->Int)(a b:ν):ν->ν->Int:=λv w=>if v=a/\w=b then r v w - 1 else if v=b/\w=a then r v w+1 else r v w
def ex(V:List ν)(r0 r:ν->ν->Int)(v:ν):Int:=sm (λb=>r0 v b - r v b) V
theorem ZS{V:List ν}{r0 r:ν->ν->Int}{a b:ν}(nd:V.Nodup)(kf:a≠b)(ha:a∈V)(hb:b∈V)(v:ν):ex V r0 (aug r a b) v=ex V r0 r v+(if v=a then 1 else 0) - (if v=b then 1 else 0):=by
 have key:∀w,r0 v w - aug r a b v w=(r0 v w - r v w)+((if w=b then(if v=a then 1 else 0) else 0)+(if w=a then - (if v=b then 1 else 0) else 0)):=by
  intro w;unfold aug;by_cases h1:v=a
  .have h2:v≠b:=λz=>kf (h1.symm.trans z)
   by_cases h3:w=b
   .have h4:w≠a:=λz=>kf (z.symm.trans h3)
    simp only[h1,h3,and_self,a_];have:a≠b:=kf;simp[this,this.symm];lia
   .simp[h1,h3,kf]
  .by_cases h2:v=b
   .by_cases h3:w=a
    .simp[h2,h3,kf,kf.symm];lia
    .simp[h2,h3,kf.symm]
   .simp[h1,h2]
 unfold ex;rw[rR λw _=>key w,ya,ya]
 have e1:=t8 (x:=b) (if v=a then(1:Int) else 0) nd
 have e2:=t8 (x:=a) (- (if v=b then(1:Int) else 0)) nd
 rw[aT hb] at e1;rw[aT ha] at e2;rw[e1,e2];lia
noncomputable def jQ(r:ν->ν->Int):List ν->(ν->ν->Int)
 |b::a::p=>jQ (aug r a b) (a::p)
 |_=>r
theorem P_{r:ν->ν->Int}{a b v w:ν}(h:¬(v=a/\w=b))(h':¬(v=b/\w=a)):aug r a b v w=r v w:=by unfold aug;rw[aW h,aW h']
theorem Qa{V:List ν}{r0:ν->ν->Int}(nd:V.Nodup):∀(p:List ν) (r:ν->ν->Int) (b e:ν),(b::p).Nodup->(∀v,v∈b::p->v∈V)->(b::p).getLast?=some e->b≠e->∀v,ex V r0 (jQ r (b::p)) v=ex V r0 r v+(if v=e then 1 else 0) - (if v=b then 1 else 0)
 |[],r,b,e,_,_,hl,ia,v=>by simp at hl;exact b_ hl ia
 |a::p,r,b,e,hn,hv,hl,ia,v=>by
  have kf:a≠b:=λz=>(jr.mp hn).1 (by rw[<-z];exact .head _)
  show ex V r0 (jQ (aug r a b) (a::p)) v=_;have e1:=ZS (r0:=r0) (r:=r) nd kf (hv a (.tail _ (.head _))) (hv b (.head _)) v;by_cases c:p=[]
  .subst c;have he:a=e:=by simpa using hl
   subst he;show ex V r0 (aug r a b) v=_;rw[e1]
  .have AY:(a::p).getLast?=some e:=by
    rw[List.getLast?_cons_cons] at hl;exact hl
   have hae:a≠e:=λz=>by
    subst z;have G_:=jr.mp (jr.mp hn).2;have hm:a∈p:=by
     cases p with
     |nil=>exact b_ rfl c
     |cons y q=>
      rw[List.getLast?_cons_cons] at AY;exact List.mem_of_getLast? AY
    exact G_.1 hm
   rw[Qa nd p (aug r a b) a e (jr.mp hn).2 (λv m=>hv v (.tail _ m)) AY hae v,e1]
   lia
def kK(r:ν->ν->Int):List ν->Prop
 |b::a::p=>0<r a b/\kK r (a::p)
 |_=>True
theorem Om{r:ν->ν->Int}{a b:ν}:∀(p:List ν),b∉p->kK r p->kK (aug r a b) p
 |[],_,_=>i9
 |[_],_,_=>i9
 |y::x::p,hb,h=>⟨by
   rw[P_ (λz=>hb (by rw[<-z.2];exact .head _)) (λz=>hb (by rw[<-z.1];exact .tail _ (.head _)))]
   exact h.1,Om (x::p) (λm=>hb (.tail _ m)) h.2⟩
theorem Qb{V:List ν}{s t:ν}{r0:ν->ν->Int}:∀(p:List ν) (r:ν->ν->Int),p.Nodup->kK r p->(∀v b,0<=r v b)->∀v b,0<=jQ r p v b
 |[],r,_,_,h=>h
 |[_],r,_,_,h=>h
 |b::a::p,r,hn,hr,h=>Qb (V:=V) (s:=s) (t:=t) (r0:=r0) (a::p) (aug r a b) (jr.mp hn).2 (Om (a::p) (jr.mp hn).1 hr.2) λv w=>by
   have h1:=h v w;unfold aug;split
   .rename_i z
    have:=hr.1;rw[<-z.1,<-z.2] at this;lia
   .split
    .lia
    .exact h1
theorem ZT{r0 r:ν->ν->Int}{a b:ν}(kf:a≠b)(h:∀v b,r0 v b - r v b = - (r0 b v - r b v))(v w:ν):r0 v w - aug r a b v w = - (r0 w v - aug r a b w v):=by
 have h1:=h v w;unfold aug;by_cases c1:v=a/\w=b
 .have c2:¬(w=a/\v=b):=λz=>kf (c1.1.symm.trans z.2)
  rw[aT c1,aW c2,aT ⟨c1.2,c1.1⟩];lia
 .rw[aW c1];by_cases c3:v=b/\w=a
  .rw[aT c3,aT ⟨c3.2,c3.1⟩];lia
  .rw[aW c3,aW (λz=>c3 ⟨z.2,z.1⟩),aW (λz=>c1 ⟨z.2,z.1⟩)];exact h1
theorem Qc{r0:ν->ν->Int}:∀(p:List ν) (r:ν->ν->Int),p.Nodup->(∀v b,r0 v b - r v b = - (r0 b v - r b v))->∀v b,r0 v b - jQ r p v b = - (r0 b v - jQ r p b v)
 |[],r,_,h=>h
 |[_],r,_,h=>h
 |b::a::p,r,hn,h=>Qc (a::p) (aug r a b) (jr.mp hn).2 (ZT (λz=>(jr.mp hn).1 (by rw[<-z];exact .head _)) h)
theorem Qd{V:List ν}:∀(p:List ν) (r:ν->ν->Int),(∀v,v∈p->v∈V)->(∀v b,(v∉V\/b∉V)->r v b=0)->∀v b,(v∉V\/b∉V)->jQ r p v b=0
 |[],r,_,h=>h
 |[_],r,_,h=>h
 |b::a::p,r,hv,h=>Qd (a::p) (aug r a b) (λv m=>hv v (.tail _ m)) λv w z=>by
   have ha:=hv a (.tail _ (.head _));have hb:=hv b (.head _);rw[P_ (λq=>by
    rcases z with z|z
    .exact z (by rw[q.1];exact ha)
    .exact z (by rw[q.2];exact hb)) (λq=>by
    rcases z with z|z
    .exact z (by rw[q.1];exact hb)
    .exact z (by rw[q.2];exact ha))]
   exact h v w z
theorem jY.push{V:List ν}{s t:ν}{r0 r:ν->ν->Int}(F:jY V s t r0 r){p:List ν}(hn:(t::p).Nodup)(hv:∀v,v∈t::p->v∈V)(hl:(t::p).getLast?=some s)(hr:kK r (t::p)):
  jY V s t r0 (jQ r (t::p))/\ex V r0 (jQ r (t::p)) s=ex V r0 r s+1:=by
 have e:=Qa (r0:=r0) F.nd p r t s hn hv hl (Ne.symm F.ns);refine⟨⟨Qb (V:=V) (s:=s) (t:=t) (r0:=r0) _ r hn hr F.nn,Qc _ r hn F.an,λv m h1 h2=>?_,λv b z=>⟨(F.sp v b z).1,Qd _ r hv (λv b z=>(F.sp v b z).2) v b z⟩,F.ns,F.ms,F.mt,F.nd⟩,?_⟩
 .have:=e v;rw[aW h1,aW h2] at this;have h3:ex V r0 r v=0:=F.cs v m h1 h2;show ex V r0 (jQ r (t::p)) v=0;lia
 .rw[e s,aT rfl,aW F.ns];lia
theorem jY.cut{V:List ν}{s t:ν}{r0 r:ν->ν->Int}(F:jY V s t r0 r)(S:ν->Bool)(hs:S s=true)(ht:S t=false)(hc:∀v b,v∈V->b∈V->S v=true->S b=false->r v b=0):
  ex V r0 r s=sm (λv=>sm (λb=>r0 v b) (V.filter λb => !S b)) (V.filter S):=by
 have e1:sm (ex V r0 r) (V.filter S)=ex V r0 r s:=by
  have h1:∀v,v∈V.filter S->ex V r0 r v=if v=s then ex V r0 r s else 0:=λv m=>by
   obtain⟨m1,m2⟩:=kG.mp m;by_cases c:v=s
   .rw[aT c,c]
   .rw[aW c];exact F.cs v m1 c λz=>by rw[z,ht] at m2;cases m2
  rw[rR h1,t8 _ (F.nd.filter _),aT (kG.mpr ⟨F.ms,hs⟩)]
 have e2:sm (ex V r0 r) (V.filter S)=sm (λv=>sm (λb=>r0 v b - r v b) (V.filter S)) (V.filter S)+sm (λv=>sm (λb=>r0 v b - r v b) (V.filter λb => !S b)) (V.filter S):=by
  rw[<-ya];exact rR λv _=>Fx _ S V
 have e3:=P9 (g:=λv b=>r0 v b - r v b) F.an (V.filter S)
 have e4:sm (λv=>sm (λb=>r0 v b - r v b) (V.filter λb => !S b)) (V.filter S)=sm (λv=>sm (λb=>r0 v b) (V.filter λb => !S b)) (V.filter S):=rR λv mv=>rR λb mb=>by
  obtain⟨m1,m2⟩:=kG.mp mv;obtain⟨m3,m4⟩:=kG.mp mb;have m4:S b=false:=by simpa using m4
  rw[hc v b m1 m3 m2 m4];lia
 lia
end
end Carry
namespace Carry
open L2 PySem
section
variable{α β γ:Type}[DecidableEq α]
noncomputable def lk:List (α×β)->α->ai β
 |[],_=>none
 |e::l,k=>if e.1=k then some e.2 else lk l k
noncomputable def pt:List (α×β)->α->β->List (α×β)
 |[],k,v=>[(k,v)]
 |e::l,k,v=>if e.1=k then(e.1,v)::l else e::pt l k v
theorem lH(e:α×β)(l:List (α×β))(k:α):lk (e::l) k=if e.1=k then some e.2 else lk l k:=rfl
theorem v_(k j:α)(v:β):∀l:List (α×β),lk (pt l k v) j=if k=j then some v else lk l j
 |[]=>rfl
 |e::l=>by
  show lk (if e.1=k then(e.1,v)::l else e::pt l k v) j=_
  by_cases h:e.1=k
  .rw[aT h,lH,lH];dsimp only;rw[h];split
   .rfl
   .rfl
  .rw[aW h,lH,lH,v_ k j v l];by_cases h2:e.1=j
   .rw[aT h2,aW (λz=>h (h2.trans z.symm)),aT h2]
   .rw[aW h2,aW h2]
theorem fD:∀{l:List (α×β)} {k:α},(∃v,lk l k=some v)↔k∈l.map (·.1)
 |[],k=>⟨λ⟨v,h⟩=>(by cases h),λh=>(by cases h)⟩
 |e::l,k=>by
  rw[lH,c_,dR];by_cases h:e.1=k
  .rw[aT h];exact⟨λ_=>.inl h.symm,λ_=>⟨_,rfl⟩⟩
  .rw[aW h,fD];exact⟨.inr,λz=>z.resolve_left λq=>h q.symm⟩
theorem kA{l:List (α×β)}{k:α}:lk l k=none↔k∉l.map (·.1):=by
 rw[<-fD];constructor
 .rintro h ⟨v,e⟩;rw[h] at e;cases e
 .intro h;cases q:lk l k with
  |none=>rfl
  |some v=>exact b_ ⟨v,q⟩ h
theorem B4(k:α)(v:β):∀l:List (α×β),(pt l k v).map (·.1)=if k∈l.map (·.1) then l.map (·.1) else l.map (·.1)++[k]
 |[]=>rfl
 |e::l=>by
  show(if e.1=k then(e.1,v)::l else e::pt l k v).map (·.1)=_
  rw[c_];by_cases h:e.1=k
  .rw[aT h,aT (by rw[h];exact .head _),c_]
  .rw[aW h,c_,B4 k v l];by_cases h2:k∈l.map (·.1)
   .rw[aT h2,aT (.tail _ h2)]
   .rw[aW h2,aW (λz=>by
     rcases dR.mp z with z|z
     .exact h z.symm
     .exact h2 z)]
    rfl
theorem e7j{k:α}{v:β}{l:List (α×β)}(h:(l.map (·.1)).Nodup):((pt l k v).map (·.1)).Nodup:=by
 rw[B4];split
 .exact h
 .rename_i z
  exact lD.mpr ⟨h,by simp,λa ha b hb e=>by
   rw[iz] at hb;exact z (by rw[<-hb,<-e];exact ha)⟩
theorem Kl{k:α}{v:β}:∀{l:List (α×β)},lk l k=none->pt l k v=l++[(k,v)]
 |[],h=>rfl
 |e::l,h=>by
  rw[lH] at h;show(if e.1=k then(e.1,v)::l else e::pt l k v)=_
  by_cases q:e.1=k
  .rw[aT q] at h;cases h
  .rw[aW q] at h ⊢;rw[Kl h];rfl
end
variable{n r m pl T:Int}{Q0 cq:Gm}{f1 f2:Gm->ai D}{k:Nat}{h:aA}{a2 a4:ai O}{ae:Str}{b':Bool}{W:List D}{kn:List (Str×Int)}{outs:List Str}{H PL:D}{f:GT}{K:FG}{mg:Str->ai ao}{us:List ao}
section
variable{α β:Type}[DecidableEq α](kk:α->TK)(inj:∀a b,kk a=kk b->a=b)
noncomputable def kx(f:β->O)(l:List (α×β)):List (TK×O):=l.map λe=>(kk e.1,f e.2)
noncomputable def u3(f:β->D)(l:List (α×β)):List (TK×D):=l.map λe=>(kk e.1,f e.2)
include inj in
theorem FY(f:β->O)(k:α):∀l:List (α×β),iO (kx kk f l) (kk k)=(lk l k).map f
 |[]=>rfl
 |e::l=>by
  have ih:=FY f k l;unfold iO kx at *;rw[c_,qB,lH];dsimp only;by_cases h:e.1=k
  .rw[jt (by rw[h]:kk e.1=kk k),aT h];rfl
  .rw[jc (λz=>h (inj _ _ z)),aW h]
   exact ih
include inj in
theorem xP(f:β->D)(k:α):∀l:List (α×β),i8 (u3 kk f l) (kk k)=(lk l k).map f
 |[]=>rfl
 |e::l=>by
  have ih:=xP f k l;unfold i8 u3 at *;rw[c_,qB,lH];dsimp only;by_cases h:e.1=k
  .rw[jt (by rw[h]:kk e.1=kk k),aT h];rfl
  .rw[jc (λz=>h (inj _ _ z)),aW h]
   exact ih
include inj in
theorem xQ(f:β->O)(k:α)(v:β):∀l:List (α×β),cP (kx kk f l) (kk k) (f v)=kx kk f (pt l k v)
 |[]=>rfl
 |e::l=>by
  show cP ((kk e.1,f e.2)::kx kk f l) (kk k) (f v)=kx kk f (if e.1=k then(e.1,v)::l else e::pt l k v)
  show(if kk e.1=kk k then(kk e.1,f v)::kx kk f l else(kk e.1,f e.2)::cP (kx kk f l) (kk k) (f v))=_
  by_cases h:e.1=k
  .rw[aT h,aT (by rw[h])];rfl
  .rw[aW h,aW (λz=>h (inj _ _ z)),xQ f k v l];rfl
theorem CC(f:β->O)(g:β->D)(h:∀b,(f b).d=g b):∀l:List (α×β),O.dk (kx kk f l)=u3 kk g l
 |[]=>rfl
 |e::l=>by
  show(kk e.1,(f e.2).d)::O.dk (kx kk f l)=(kk e.1,g e.2)::u3 kk g l;rw[CC f g h l,h]
theorem O2(g:β->D)(l:List (α×β)):(u3 kk g l).map (·.1.d)=l.map λe=>(kk e.1).d:=by
 unfold u3;rw[oH];rfl
end
abbrev Ct:=Str×Int×Int
variable{c:Ct}{C:List Ct}
noncomputable def gr(c:Ct):D:=.tup [.str c.1,.int c.2.1,.int c.2.2]
noncomputable def yj(c:Ct):TK:=.tp [.inr c.1,.inl c.2.1,.inl c.2.2]
inductive Nd where
 |st|en|gi (c:Ct)|go (c:Ct)
 deriving DecidableEq
variable{a b x v w y:Nd}
def aP:Nd->D
 |.st=>.str "the start"
 |.en=>.str "the end"
 |.gi c=>.tup [gr c,.str "into"]
 |.go c=>.tup [gr c,.str "out of"]
def dZ:Nd->TK
 |.st=>.inr "the start"
 |.en=>.inr "the end"
 |.gi c=>.tp [yj c,.inr "into"]
 |.go c=>.tp [yj c,.inr "out of"]
theorem rB(v:Nd):cI (aP v)=some (dZ v):=by
 cases v with
 |st=>rfl
 |en=>rfl
 |gi c=>simp[aP,dZ,gr,yj,cI,m6,pR,TK.ok]
 |go c=>simp[aP,dZ,gr,yj,cI,m6,pR,TK.ok]
theorem Qe{a b:Ct}(h:yj a=yj b):a=b:=by
 obtain⟨x,i,m⟩:=a;obtain⟨y,j,n⟩:=b;unfold yj at h;injection h with h;injection h with h1 h;injection h with h2 h;injection h with h3 h;injection h1 with h1;injection h2 with h2;injection h3 with h3;dsimp only at h1 h2 h3;rw[h1,h2,h3]
theorem Rm:("the start":Str)≠"the end":=by decide
theorem Rn:("into":Str)≠"out of":=by decide
theorem o_:∀a b:Nd,dZ a=dZ b->a=b:=by
 intro a b h;cases a with
 |st=>
  cases b with
  |st=>rfl
  |en=>unfold dZ at h;injection h with h;exact b_ h Rm
  |_=>unfold dZ at h;cases h
 |en=>
  cases b with
  |en=>rfl
  |st=>unfold dZ at h;injection h with h;exact b_ h.symm Rm
  |_=>unfold dZ at h;cases h
 |gi c=>
  cases b with
  |gi d=>unfold dZ at h;injection h with h;injection h with h1 h;rw[Qe h1]
  |go d=>unfold dZ at h;injection h with h;injection h with h1 h;injection h with h2 h;injection h2 with h2;exact b_ h2 Rn
  |_=>unfold dZ at h;cases h
 |go c=>
  cases b with
  |go d=>unfold dZ at h;injection h with h;injection h with h1 h;rw[Qe h1]
  |gi d=>unfold dZ at h;injection h with h;injection h with h1 h;injection h with h2 h;injection h2 with h2;exact b_ h2.symm Rn
  |_=>unfold dZ at h;cases h
theorem KQ(v:Nd):(dZ v).d=aP v:=(nF (rB v)).1
abbrev qE:=List (Nd×Int)
variable{i:qE}
abbrev Net:=List (Nd×qE)
variable{N N':Net}
def Hh(i:qE):List (TK×O):=kx dZ (λn=>.Y (.int n)) i
def pI(i:qE):List (TK×D):=u3 dZ (λn=>.int n) i
abbrev Ba(i:qE):O:=.aF (Hh i)
abbrev inD(i:qE):D:=.aF (pI i)
def pL(N:Net):List (TK×O):=kx dZ Ba N
def oh(N:Net):List (TK×D):=u3 dZ inD N
abbrev bV(N:Net):O:=.aF (pL N)
abbrev dg(N:Net):D:=.aF (oh N)
theorem RU(i:qE):(Ba i).d=inD i:=by
 show D.aF (O.dk (kx dZ _ i))=_;rw[CC dZ _ (λn=>.int n) λ_=>rfl];rfl
theorem Ro(N:Net):(bV N).d=dg N:=by
 show D.aF (O.dk (kx dZ Ba N))=_;rw[CC dZ _ inD RU];rfl
def rr(N:Net)(v w:Nd):Int:=((lk N v).bind λi=>lk i w).getD 0
def kr(N:Net)(v w:Nd):Prop:=∃i,lk N v=some i/\∃n,lk i w=some n
structure nt (N:Net):Prop where
 sy:∀v w,kr N v w->kr N w v
 st:.st∈N.map (·.1)
 nd:(N.map (·.1)).Nodup
 ni:∀v i,lk N v=some i->(i.map (·.1)).Nodup
 nl:N.length<900000
 il:∀v i,lk N v=some i->i.length<900000
def jK(N:Net)(a b:Nd)(n:Int):Net:=match lk N a with
 |some i=>pt N a (pt i b n)
 |none=>N
theorem Rp(h:lk N a=some i)(v w:Nd):kr (jK N a b n) v w↔kr N v w\/(v=a/\w=b):=by
 unfold jK;rw[h];dsimp only;unfold kr;rw[v_];by_cases c:a=v
 .subst c;rw[aT rfl,h];constructor
  .rintro⟨j,e,m,e2⟩;cases e;rw[v_] at e2;by_cases c2:b=w
   .exact .inr ⟨rfl,c2.symm⟩
   .rw[aW c2] at e2;exact .inl ⟨i,rfl,m,e2⟩
  .rintro(⟨j,e,m,e2⟩|⟨_,rfl⟩)
   .cases e;refine⟨_,rfl,?_⟩;rw[v_];by_cases c2:b=w
    .exact⟨_,aT c2⟩
    .exact⟨m,by rw[aW c2];exact e2⟩
   .exact⟨_,rfl,n,by rw[v_,aT rfl]⟩
 .rw[aW c];exact⟨.inl,λz=>z.resolve_right λq=>c q.1.symm⟩
theorem GU(h:lk N a=some i)(v w:Nd):rr (jK N a b n) v w=if v=a/\w=b then n else rr N v w:=by
 unfold jK;rw[h];dsimp only;unfold rr;rw[v_];by_cases c:a=v
 .subst c;rw[aT rfl,h,Option.bind_some,Option.bind_some,v_];by_cases c2:b=w
  .rw[aT c2,aT ⟨rfl,c2.symm⟩];rfl
  .rw[aW c2,aW λz=>c2 z.2.symm]
 .rw[aW c,aW λz=>c z.1.symm]
theorem B5(h:lk N a=some i):(jK N a b n).map (·.1)=N.map (·.1):=by
 unfold jK;rw[h];dsimp only;rw[B4,aT (fD.mp ⟨i,h⟩)]
theorem CD(h:lk N a=some i)(v:Nd):lk (jK N a b n) v=if a=v then some (pt i b n) else lk N v:=by
 unfold jK;rw[h];exact v_ ..
theorem Qf{fv:Gm->ai D}{x:Nat}(h:lk N a=some i)(hl:i.length<1000000)(h0:Q0[x]?=some (some (bV N)))(h1:f1 Q0=some (aP a))(h2:f2 Q0=some (aP b))(h3:fv Q0=some (.int n)):uk x f1 f2 fv Q0=some (.nx,Q0.set x (some (bV (jK N a b n)))):=by
 unfold uk;rw[h1,h2,h3,h0];simp only[Option.bind_some,rB];unfold pL;rw[FY dZ o_,h];show(if(kx dZ (λn=>O.Y (.int n)) i).length<1000000 then _ else _)=_
 rw[aT (by unfold kx;rw[bY];exact hl),show cP (Hh i) (dZ b) (O.Y (.int n))=_ from xQ dZ o_ (λn=>O.Y (.int n)) b n i,show O.aF (kx dZ (λn=>O.Y (.int n)) (pt i b n))=Ba (pt i b n) from rfl,xQ dZ o_]
 unfold jK;rw[h];rfl
theorem Qg{op:Int->Int->Int}{j:Int}{fv:Gm->ai D}{x:Nat}(h:lk N a=some i)(h':lk i b=some n)(hl:i.length<1000000)(h0:Q0[x]?=some (some (bV N)))(h1:f1 Q0=some (aP a))(h2:f2 Q0=some (aP b))(h3:fv Q0=some (.int j)):um op x f1 f2 fv Q0=some (.nx,Q0.set x (some (bV (jK N a b (op n j))))):=by
 unfold um;rw[h1,h2,h3,h0];simp only[Option.bind_some,rB];unfold pL;rw[FY dZ o_,h];show(match iO (kx dZ (λn=>O.Y (.int n)) i) (dZ b) with|some (.Y (.int n))=>_|_=>_)=_
 rw[FY dZ o_,h'];show(if(kx dZ (λn=>O.Y (.int n)) i).length<1000000 then _ else _)=_
 rw[aT (by unfold kx;rw[bY];exact hl),show cP (Hh i) (dZ b) (O.Y (.int (op n j)))=_ from xQ dZ o_ (λn=>O.Y (.int n)) b (op n j) i,show O.aF (kx dZ (λn=>O.Y (.int n)) (pt i b (op n j)))=Ba (pt i b (op n j)) from rfl,xQ dZ o_]
 unfold jK;rw[h];rfl
theorem ZU{α β:Type}[DecidableEq α]{l:List (α×β)}{k:α}{v:β}:(pt l k v).length<=l.length+1/\(k∈l.map (·.1)->(pt l k v).length=l.length):=by
 have e:=congrArg List.length (B4 k v l);rw[bY] at e;constructor
 .rw[e];split <;> simp
 .intro h;rw[aT h,bY] at e;exact e
theorem Yn(fa:GE)(gg:GG)(f:GS)(Q0:Gm):B9 fa gg f Q0=(ax fa Q0).bind λp=>match p.1 with
 |.own (.Y (.tup ds))=>fM gg f ds p.2
 |_=>none:=rfl
noncomputable def iV(N:Net)(v:Nd):Net:=if v∈N.map (·.1) then N else N++[(v,[])]
theorem zY{α β:Type}[DecidableEq α](k:α):∀l m:List (α×β),lk (l++m) k=match lk l k with|some v=>some v|none=>lk m k
 |[],m=>rfl
 |e::l,m=>by
  rw[y8,lH,lH,zY k l m];split <;> rfl
theorem Yo(N:Net):O.dk (pL N)=oh N:=CC dZ _ inD RU N
theorem Rq(N:Net)(v:Nd)(b:Bool)(hb:b=true↔v∈N.map (·.1)):cw true [.Y (aP v),bV N]=some (.Y (.bl (!b))):=by
 have e:(lk N v).isSome=b:=by
  rw[uD,hb,<-fD,MO]
 unfold cw;simp only[iG,Yo,rB,Option.bind_some];unfold oh;rw[xP dZ o_,HP,e];rfl
theorem JQ(kvs:List (TK×O))(v:O)(d:D):jS (.aF kvs) [v,.Y d]=(cI d).bind λk=>if kvs.length<1000000 then some (O.aF (cP kvs k v),O.Y D.bh) else none:=by
 cases d <;> rfl
theorem Yp(N:Net)(v:Nd)(hv:v∉N.map (·.1))(hl:N.length<1000000):jS (bV N) [.aF [],.Y (aP v)]=some (bV (iV N v),.Y .bh):=by
 rw[JQ,rB,Option.bind_some,aT (by unfold pL kx;rw[bY];exact hl),show(O.aF [])=Ba [] from rfl]
 unfold bV pL;rw[xQ dZ o_,Kl (kA.mpr hv)];unfold iV;rw[aW hv]
def layB:GS:=cH (gT (gB (cw true) (af 4) (af 0)))
  (gD zP (af 0) (af 4))
  bL
theorem O3(N:Net)(v:Nd)(a1 a2 a3:ai O)(hl:N.length<1000000):layB [some (bV N),a1,a2,a3,some (.Y (aP v))]=some (.nx,[some (bV (iV N v)),a1,a2,a3,some (.Y (aP v))]):=by
 unfold layB;by_cases h:v∈N.map (·.1)
 .have e:=Rq N v true ⟨λ_=>h,λ_=>rfl⟩
  have e2:iV N v=N:=aT h;rw[e2];simp only[dP,de,bJ,bj,bc,bu,bf,↓ag,br,bF,bz,jJ,ij,bD,e,mK,dU,rV,Fo,dX,cX]
 .have e:=Rq N v false ⟨λz=>(by cases z),λz=>b_ z h⟩
  have e2:=Yp N v h hl;simp only[dP,de,bJ,bj,bc,bu,bf,↓ag,br,bF,bz,jJ,ij,bD,e,pZ,rV,Fo,e2,bI,dX,a_]
theorem zZ(N:Net)(v w:Nd):lk (iV N v) w=match lk N w with|some i=>some i|none=>if v=w then some [] else none:=by
 unfold iV;by_cases h:v∈N.map (·.1)
 .rw[aT h];cases e:lk N w with
  |some i=>rfl
  |none=>
   have:v≠w:=λz=>kA.mp e (by rw[<-z];exact h)
   dsimp only;rw[aW this]
 .rw[aW h,zY];cases lk N w <;> rfl
theorem Qh(N:Net)(v:Nd):∃i,lk (iV N v) v=some i:=by
 rw[zZ];cases lk N v with
 |some i=>exact⟨i,rfl⟩
 |none=>exact⟨[],aT rfl⟩
theorem Yq(N:Net)(v:Nd):(iV N v).length<=N.length+1:=by
 unfold iV;split
 .lia
 .rw[fu];exact c7 _
def fT(N:Net)(a b:Nd)(r:Int):Net:=jK (jK (iV (iV N a) b) a b r) b a 0
structure Sz (N:Net) (k:Nat):Prop where
 l:N.length<=k+1
 i:∀v i,lk N v=some i->i.length<=k
theorem GF(v:Nd)(s:Sz N k):Sz (iV N v) (k+1):=⟨by have:=Yq N v;have:=s.l;lia,λw i e=>by
 rw[zZ] at e;cases q:lk N w with
 |some j=>rw[q] at e;cases e;have:=s.i w _ q;lia
 |none=>
  rw[q] at e;dsimp only at e;split at e
  .cases e;exact pV _
  .cases e⟩
theorem KR(h:lk N a=some i)(s:Sz N k):Sz (jK N a b n) (k+1):=⟨by
  have:=congrArg List.length (B5 (b:=b) (n:=n) h);rw[bY,bY] at this;have:=s.l;lia,λv j e=>by
  rw[CD h] at e;split at e
  .cases e;have:=(ZU (l:=i) (k:=b) (v:=n)).1;have:=s.i a i h;lia
  .have:=s.i v j e;lia⟩
theorem JR(r:Int):∃i j,lk (iV (iV N a) b) a=some i/\lk (jK (iV (iV N a) b) a b r) b=some j:=by
 obtain⟨i0,e0⟩:=Qh N a;obtain⟨j0,f0⟩:=Qh (iV N a) b;have e1:lk (iV (iV N a) b) a=some i0:=by rw[zZ,e0]
 refine⟨i0,?_⟩;by_cases c:a=b
 .exact⟨_,e1,by rw[CD e1,aT c]⟩
 .exact⟨j0,e1,by rw[CD e1,aW c];exact f0⟩
theorem Rr(a b:Nd)(r:Int)(s:Sz N k):Sz (fT N a b r) (k+4):=by
 obtain⟨i,j,e1,e2⟩:=JR (N:=N) (a:=a) (b:=b) r;exact KR e2 (KR e1 (GF b (GF a s)))
theorem GV(N:Net)(k:Nat)(a b:Nd)(r:Int)(s:Sz N k)(hk:k<900000):uq [bV N,.Y (aP a),.Y (aP b),.Y (.int r)]=some (.Y .bh,[some (bV (fT N a b r)),none,none,none]):=by
 have me:KC=aU (B9 (aY .tup (aq (af 1) (aq (af 2) gN))) (bp 4) layB) (aU (uk 0 (sV 1) (sV 2) (sV 3)) (uk 0 (sV 2) (sV 1) (sC (.int 0)))):=rfl;have hN:=s.l;have s1:=GF a s;have s2:=GF b s1;obtain⟨i,j,e1,e2⟩:=JR (N:=N) (a:=a) (b:=b) r;have s3:=KR (b:=b) (n:=r) e1 s2;have l1:=O3 N a (some (.Y (aP a))) (some (.Y (aP b))) (some (.Y (.int r))) (by lia)
 have l2:=O3 (iV N a) b (some (.Y (aP a))) (some (.Y (aP b))) (some (.Y (.int r))) (by have:=s1.l;lia)
 have p1:uk 0 (sV 1) (sV 2) (sV 3) [some (bV (iV (iV N a) b)),some (.Y (aP a)),some (.Y (aP b)),some (.Y (.int r)),some (.Y (aP b))]=some (.nx,[some (bV (jK (iV (iV N a) b) a b r)),some (.Y (aP a)),some (.Y (aP b)),some (.Y (.int r)),some (.Y (aP b))]):=Qf e1 (by have:=s2.i _ _ e1;lia) rfl rfl rfl rfl
 have p2:uk 0 (sV 2) (sV 1) (sC (.int 0)) [some (bV (jK (iV (iV N a) b) a b r)),some (.Y (aP a)),some (.Y (aP b)),some (.Y (.int r)),some (.Y (aP b))]=some (.nx,[some (bV (fT N a b r)),some (.Y (aP a)),some (.Y (aP b)),some (.Y (.int r)),some (.Y (aP b))]):=Qf e2 (by have:=s3.i _ _ e2;lia) rfl rfl rfl rfl
 unfold uq;rw[me];simp only[fV,eJ,eK,bG,bB,bH,reduceAdd,reduceSub,eQ,eD,d_,eu,cY,Yn,cD,eX,bj,bc,bu,bf,↓ag,br,reduceLeDiff,e_,dW,a_,jh,ip,bZ,gh,xF,fU,reduceLT,cj,bI,l1,l2,V7,p1,p2,Ky,gb,gc,rW,gj,fY]
theorem ZV(b:Str)(i m:Int):uo [.Y (.tup [.str b,.int i]),.Y (.int m)]=some (.tup [.Y (gr (b,i,m)),.Y (.str "into")],[none,none]):=by
 unfold uo Kg gr;simp only[fV,eJ,eK,bG,bB,bH,reduceAdd,reduceSub,eD,d_,eu,fO,eX,bj,cD,bJ,bc,bf,↓ag,bS,br,bF,bz,bD,dh,lK,ng,↓evMap,o8,bu,reduceLeDiff,e_,dW,a_,jh,ip,bZ,gh,gw,gb,gc,gj,fY]
structure Laid (N:Net) (L:List (Nd×Nd×Int)):Prop where
 ar:∀v w,kr N v w↔(∃r,(v,w,r)∈L)\/∃r,(w,v,r)∈L
 rm:∀v w r,(v,w,r)∈L->rr N v w=r
 rz:∀v w,(∀r,(v,w,r)∉L)->rr N v w=0
 ky:∀v,v∈N.map (·.1)↔v=.st\/∃w r,(v,w,r)∈L\/(w,v,r)∈L
 nd:(N.map (·.1)).Nodup
 ni:∀v i,lk N v=some i->(i.map (·.1)).Nodup
theorem Qi(N:Net)(u v w:Nd):kr (iV N u) v w↔kr N v w:=by
 unfold kr;rw[zZ];cases e:lk N v with
 |some i=>exact Iff.rfl
 |none=>
  dsimp only;constructor
  .rintro⟨i,h,n,h2⟩;split at h
   .cases h;cases h2
   .cases h
  .rintro⟨i,h,_⟩;cases h
theorem Rt(N:Net)(u v w:Nd):rr (iV N u) v w=rr N v w:=by
 unfold rr;rw[zZ];cases e:lk N v with
 |some i=>rfl
 |none=>
  dsimp only;split <;> rfl
theorem oR(N:Net)(u v:Nd):v∈(iV N u).map (·.1)↔v∈N.map (·.1)\/v=u:=by
 unfold iV;split
 .rename_i h
  exact⟨.inl,λz=>z.elim id λq=>by rw[q];exact h⟩
 .rw[jI,eR,uF,iz]
theorem Km(u:Nd)(h:(N.map (·.1)).Nodup):((iV N u).map (·.1)).Nodup:=by
 unfold iV;split
 .exact h
 .rename_i z
  rw[jI];exact lD.mpr ⟨h,by simp,λa ha b hb e=>by
   rw[uF,iz] at hb;exact z (by rw[show u=b from hb.symm,<-e];exact ha)⟩
theorem Ru(u:Nd)(h:∀v i,lk N v=some i->(i.map (·.1)).Nodup):∀v i,lk (iV N u) v=some i->(i.map (·.1)).Nodup:=by
 intro v i e;rw[zZ] at e;cases q:lk N v with
 |some j=>rw[q] at e;cases e;exact h v _ q
 |none=>
  rw[q] at e;dsimp only at e;split at e
  .cases e;exact ED
  .cases e
theorem RV(h:lk N a=some i)(hn:∀v i,lk N v=some i->(i.map (·.1)).Nodup):∀v j,lk (jK N a b n) v=some j->(j.map (·.1)).Nodup:=by
 intro v j e;rw[CD h] at e;split at e
 .cases e;exact e7j (hn a i h)
 .exact hn v j e
theorem Laid.lay{L:List (Nd×Nd×Int)}(l:Laid N L)(kf:a≠b)(hf:∀r',(a,b,r')∈L->r'=r)(ha:∀r',(b,a,r')∉L):Laid (fT N a b r) (L++[(a,b,r)]):=by
 obtain⟨i,j,e1,e2⟩:=JR (N:=N) (a:=a) (b:=b) r;have mm:∀v w q,(v,w,q)∈L++[(a,b,r)]↔(v,w,q)∈L\/(v=a/\w=b/\q=r):=λv w q=>by
  rw[eR,iz,Prod.mk.injEq,Prod.mk.injEq]
 have rl:∀v w,rr (fT N a b r) v w=if v=b/\w=a then 0 else if v=a/\w=b then r else rr N v w:=λv w=>by
  unfold fT;rw[GU e2,GU e1,Rt,Rt]
 refine⟨λv w=>?_,λv w q hm=>?_,λv w hm=>?_,λv=>?_,?_,RV e2 (RV e1 (Ru b (Ru a l.ni)))⟩
 .unfold fT;rw[Rp e2,Rp e1,Qi,Qi,l.ar];constructor
  .rintro((h|h)|h)
   .rcases h with⟨q,h⟩|⟨q,h⟩
    .exact .inl ⟨q,(mm ..).mpr (.inl h)⟩
    .exact .inr ⟨q,(mm ..).mpr (.inl h)⟩
   .exact .inl ⟨r,(mm ..).mpr (.inr ⟨h.1,h.2,rfl⟩)⟩
   .exact .inr ⟨r,(mm ..).mpr (.inr ⟨h.2,h.1,rfl⟩)⟩
  .rintro(⟨q,h⟩|⟨q,h⟩)
   .rcases(mm ..).mp h with h|h
    .exact .inl (.inl (.inl ⟨q,h⟩))
    .exact .inl (.inr ⟨h.1,h.2.1⟩)
   .rcases(mm ..).mp h with h|h
    .exact .inl (.inl (.inr ⟨q,h⟩))
    .exact .inr ⟨h.2.1,h.1⟩
 .rw[rl];rcases(mm ..).mp hm with h|h
  .have n1:¬(v=b/\w=a):=λz=>ha q (by rw[<-z.1,<-z.2];exact h)
   rw[aW n1];by_cases c:v=a/\w=b
   .rw[aT c];exact(hf q (by rw[<-c.1,<-c.2];exact h)).symm
   .rw[aW c];exact l.rm v w q h
  .rw[aW (λz=>kf (h.1.symm.trans z.1)),aT ⟨h.1,h.2.1⟩]
   exact h.2.2.symm
 .rw[rl];by_cases c:v=b/\w=a
  .rw[aT c]
  .rw[aW c];by_cases c2:v=a/\w=b
   .exact b_ ((mm ..).mpr (.inr ⟨c2.1,c2.2,rfl⟩)) (hm r)
   .rw[aW c2];exact l.rz v w λq h=>hm q ((mm ..).mpr (.inl h))
 .unfold fT;rw[B5 e2,B5 e1,oR,oR,l.ky];constructor
  .rintro((h|h)|h)
   .rcases h with h|⟨w,q,h|h⟩
    .exact .inl h
    .exact .inr ⟨w,q,.inl ((mm ..).mpr (.inl h))⟩
    .exact .inr ⟨w,q,.inr ((mm ..).mpr (.inl h))⟩
   .exact .inr ⟨b,r,.inl ((mm ..).mpr (.inr ⟨h,rfl,rfl⟩))⟩
   .exact .inr ⟨a,r,.inr ((mm ..).mpr (.inr ⟨rfl,h,rfl⟩))⟩
  .rintro(h|⟨w,q,h|h⟩)
   .exact .inl (.inl (.inl h))
   .rcases(mm ..).mp h with h|h
    .exact .inl (.inl (.inr ⟨w,q,.inl h⟩))
    .exact .inl (.inr h.1)
   .rcases(mm ..).mp h with h|h
    .exact .inl (.inl (.inr ⟨w,q,.inr h⟩))
    .exact .inr h.2.1
 .unfold fT;rw[B5 e2,B5 e1];exact Km b (Km a l.nd)
theorem DD:Laid [(.st,[])] [] where
 ar v w:=by
  constructor
  .rintro⟨i,h,n,h2⟩;rw[lH] at h;split at h
   .cases h;cases h2
   .cases h
  .rintro(⟨r,h⟩|⟨r,h⟩) <;> cases h
 rm v w r h:=by cases h
 rz v w _:=by
  unfold rr;rw[lH];split <;> rfl
 ky v:=by
  rw[c_,pX,iz];constructor
  .exact .inl
  .rintro(h|⟨w,r,h|h⟩)
   .exact h
   .cases h
   .cases h
 nd:=by simp
 ni v i h:=by
  rw[lH] at h;split at h
  .cases h;exact ED
  .cases h
theorem Yr(fa:GE)(gg:GG)(f:GS)(Q0:Gm):Cn fa gg f Q0=(ax fa Q0).bind λp=>match p.1 with
 |.own (.Y (.aF kvs))=>fM gg f (kvs.map (·.1.d)) p.2
 |_=>none:=rfl
abbrev cT:=List (Nd×ai Nd)
variable{l:cT}
def GN:ai Nd->O
 |none=>.Y .bh
 |some v=>.Y (aP v)
def Af:ai Nd->D
 |none=>.bh
 |some v=>aP v
def iU(l:cT):List (TK×O):=kx dZ GN l
def dN(l:cT):List (TK×D):=u3 dZ Af l
theorem Rv(l:cT):O.dk (iU l)=dN l:=CC dZ _ Af (λb=>by cases b <;> rfl) l
inductive Cm (N:Net):cT->Prop
 |base:Cm N [(.st,none)]
 |ext {l:cT} {x y:Nd}:Cm N l->y∈l.map (·.1)->x∉l.map (·.1)->0<rr N y x->kr N y x->Cm N (l++[(x,some y)])
theorem vQ(l:cT)(x:Nd)(y:ai Nd)(z:Nd):z∈(l++[(x,y)]).map (·.1)↔z∈l.map (·.1)\/z=x:=by
 rw[jI,eR,uF,iz]
theorem Cm.nd(c:Cm N l):(l.map (·.1)).Nodup:=by
 induction c with
 |base=>simp
 |@ext l x y h1 h2 h3 h4 h5 ih=>
  rw[jI];exact lD.mpr ⟨ih,by simp,λa ha b hb e=>by
   rw[uF,iz] at hb;exact h3 (by rw[show x=b from hb.symm,<-e];exact ha)⟩
theorem Cm.st{N:Net}{l:cT}(c:Cm N l):.st∈l.map (·.1):=by
 induction c with
 |base=>exact .head _
 |@ext l x y h1 h2 h3 h4 h5 ih=>exact(vQ ..).mpr (.inl ih)
theorem Ys(h:kr N v w):v∈N.map (·.1):=by
 obtain⟨i,e,_⟩:=h;exact fD.mp ⟨i,e⟩
theorem Cm.sub(ok:nt N)(c:Cm N l):∀x,x∈l.map (·.1)->x∈N.map (·.1):=by
 induction c with
 |base=>intro x h;rw[uF,iz] at h;rw[h];exact ok.st
 |@ext l x y h1 h2 h3 h4 h5 ih=>
  intro z h;rcases(vQ ..).mp h with h|h
  .exact ih z h
  .rw[h];exact Ys (ok.sy y x h5)
theorem vR{α:Type}[DecidableEq α]:∀{l m:List α},l.Nodup->(∀x,x∈l->x∈m)->l.length<=m.length
 |[],m,_,_=>pV _
 |x::l,m,h,s=>by
  rw[jr] at h;have hx:=s x (.head _);have ih:=vR (m:=m.erase x) h.2 λy hy=>(List.mem_erase_of_ne (λe=>h.1 (by rw[<-e];exact hy))).mpr (s y (.tail _ hy))
  have e:=List.length_erase_of_mem hx;have p:0<m.length:=List.length_pos_of_mem hx;rw[jL];lia
theorem Cm.len(ok:nt N)(c:Cm N l):l.length<=N.length:=by
 have:=vR c.nd (c.sub ok);rw[bY,bY] at this;exact this
theorem yb{h:Nd}(e:lk N h=some i):dQ (.Y (dg N)) (aP h)=some (.Y (inD i)):=by
 have q:dQ (.Y (dg N)) (aP h)=(cI (aP h)).bind λk=>(i8 (oh N) k).map .Y:=by
  cases h <;> rfl
 rw[q,rB,Option.bind_some];unfold oh;rw[xP dZ o_,e];rfl
theorem CH(e:lk i w=some n):dQ (.Y (inD i)) (aP w)=some (.Y (.int n)):=by
 have q:dQ (.Y (inD i)) (aP w)=(cI (aP w)).bind λk=>(i8 (pI i) k).map .Y:=by
  cases w <;> rfl
 rw[q,rB,Option.bind_some];unfold pI;rw[xP dZ o_,e];rfl
theorem Ql(neg:Bool)(l:cT)(v:Nd)(b:Bool)(hb:b=true↔v∈l.map (·.1)):cw neg [.Y (aP v),.aF (iU l)]=some (.Y (.bl (if neg then !b else b))):=by
 have e:(lk l v).isSome=b:=by
  rw[uD,hb,<-fD,MO]
 unfold cw;simp only[iG,Rv,rB,Option.bind_some];unfold dN;rw[xP dZ o_,HP,e]
theorem Jq(neg:Bool)(l:cT)(v:Nd)(b:Bool)(hb:b=true↔v∈l.map (·.1)):cw neg [.Y (aP v),.Y (.aF (dN l))]=some (.Y (.bl (if neg then !b else b))):=by
 have e:(lk l v).isSome=b:=by
  rw[uD,hb,<-fD,MO]
 unfold cw;simp only[iG,rB,Option.bind_some];unfold dN;rw[xP dZ o_,HP,e]
theorem WG(l:cT)(h w:Nd)(hw:w∉l.map (·.1))(hl:l.length<1000000):jS (.aF (iU l)) [.Y (aP h),.Y (aP w)]=some (.aF (iU (l++[(w,some h)])),.Y .bh):=by
 rw[JQ,rB,Option.bind_some,aT (by unfold iU kx;rw[bY];exact hl),show O.Y (aP h)=GN (some h) from rfl]
 unfold iU;rw[xQ dZ o_,Kl (kA.mpr hw)]
def Bf:GS:=cH (jy (gT (gB wR (gB bM (gB bM (af 0) (af 5)) (af 6)) (gC (.int 0)))) (gT (gB (cw true) (af 6) (af 2))))
  (aU (gD (af 5) (af 2) (af 6)) (kb (ir oS (af 4) (aq (af 6) gN))))
  bL
theorem Yt(N:Net)(l:cT)(F:List Nd)(h w:Nd)(i:qE)(n:Int)(a1 a3:ai O)(e1:lk N h=some i)(e2:lk i w=some n)(hn:0<n)(hw:w∉l.map (·.1))(hl:l.length<1000000)(hF:F.length<1000000):
  Bf [some (.Y (dg N)),a1,some (.aF (iU l)),a3,some (.lst ((F.map aP).map .Y)),some (.Y (aP h)),some (.Y (aP w))]=some (.nx,[some (.Y (dg N)),a1,some (.aF (iU (l++[(w,some h)]))),a3,some (.lst (((F++[w]).map aP).map .Y)),some (.Y (aP h)),some (.Y (aP w))]):=by
 unfold Bf;have f1:=yb e1;have f2:=CH e2;have f3:=Ql true l w false ⟨λz=>(by cases z),λz=>b_ z hw⟩
 have f4:=WG l h w hw hl;have f5:((F.map aP).length<1000000)=True:=lE (by rw[bY];exact hF)
 have f6:decide ((0:Int)<n)=true:=jt hn;rw[jI (f:=aP),show[w].map aP=[aP w] from rfl];simp only[dP,oU,de,bJ,bj,bc,bf,↓ag,bu,br,bF,bz,bD,dh,f1,f2,bS,i3,f6,a_,jJ,ij,f3,pZ,cY,rV,f4,cj,bI,kO,nJ,e_,dW,qe,f5,dX]
theorem Yu(N:Net)(l:cT)(F:List Nd)(h w:Nd)(i:qE)(n:Int)(a1 a3:ai O)(e1:lk N h=some i)(e2:lk i w=some n)(hn:0<n->w∈l.map (·.1)):
  Bf [some (.Y (dg N)),a1,some (.aF (iU l)),a3,some (.lst ((F.map aP).map .Y)),some (.Y (aP h)),some (.Y (aP w))]=some (.nx,[some (.Y (dg N)),a1,some (.aF (iU l)),a3,some (.lst ((F.map aP).map .Y)),some (.Y (aP h)),some (.Y (aP w))]):=by
 unfold Bf;have f1:=yb e1;have f2:=CH e2;by_cases c:0<n
 .have f3:=Ql true l w true ⟨λ_=>hn c,λ_=>rfl⟩
  have f6:decide ((0:Int)<n)=true:=jt c;simp only[dP,oU,de,bJ,bj,bc,bf,↓ag,bu,br,bF,bz,bD,dh,f1,f2,bS,i3,f6,a_,jJ,ij,f3,mK,dU,cY,rV,dX,cX]
 .have f6:decide ((0:Int)<n)=false:=jc c;simp only[dP,oU,de,bJ,bj,bc,bf,↓ag,bu,br,bF,bz,bD,dh,f1,f2,bS,i3,f6,a_,dU,jJ,ij,cX,cY,rV,dX]
structure SI (N:Net) (l0 l:cT) (F:List Nd):Prop where
 cm:Cm N l
 sub:∀x,x∈l.map (·.1)↔x∈l0.map (·.1)\/x∈F
 len:l.length=l0.length+F.length
theorem SI.add{l0:cT}{F:List Nd}{h:Nd}(s:SI N l0 l F)(hh:h∈l0.map (·.1))(hw:w∉l.map (·.1))(hr:0<rr N h w)(ha:kr N h w):SI N l0 (l++[(w,some h)]) (F++[w]):=
 ⟨.ext s.cm ((s.sub h).mpr (.inl hh)) hw hr ha,λx=>by
  rw[vQ,s.sub,eR,iz,or_assoc],by
  rw[fu,fu,s.len];rfl⟩
theorem KS{β:Type}{i:List (Nd×β)}{n:β}(h:(i.map (·.1)).Nodup)(m:(w,n)∈i):lk i w=some n:=by
 induction i with
 |nil=>cases m
 |cons e i ih=>
  rw[c_,jr] at h;rw[lH];rcases dR.mp m with m|m
  .rw[<-m,aT rfl]
  .rw[aW (λz=>h.1 (by rw[z];exact gQ.mpr ⟨_,m,rfl⟩))]
   exact ih h.2 m
theorem KU{α β:Type}[DecidableEq α]:∀{i:List (α×β)} {w:α} {n:β},lk i w=some n->(w,n)∈i
 |e::i,w,n,h=>by
  rw[lH] at h;split at h
  .rename_i z;cases h;rw[<-z];exact .head _
  .exact .tail _ (KU h)
def vy:GS:=Cn (gB bM (af 0) (af 5)) (bp 6) Bf
theorem Ae{h:Nd}(e:lk N h=some i):rr N h w=(lk i w).getD 0:=by
 unfold rr;rw[e];rfl
theorem Yv(N:Net)(ok:nt N)(l0 l:cT)(F:List Nd)(h:Nd)(a1 a3 a6:ai O)(s:SI N l0 l F)(hh:h∈l0.map (·.1))(hk:h∈N.map (·.1)):
  ∃l' F' b6,SI N l0 l' F'/\(∀x,x∈l.map (·.1)->x∈l'.map (·.1))/\(∀x,0<rr N h x->x∈l'.map (·.1))/\
   vy [some (.Y (dg N)),a1,some (.aF (iU l)),a3,some (.lst ((F.map aP).map .Y)),some (.Y (aP h)),a6]=some (.nx,[some (.Y (dg N)),a1,some (.aF (iU l')),a3,some (.lst ((F'.map aP).map .Y)),some (.Y (aP h)),b6]):=by
 obtain⟨i,ei⟩:=fD.mpr hk;obtain⟨au,e,l',F',b6,rfl,s',sb,dn⟩:=oP (g:=bp 6) (f:=Bf) (λe:Nd×Int=>aP e.1) (λpre Q0=>∃(l':cT) (F':List Nd) (b6:ai O),Q0=[some (.Y (dg N)),a1,some (.aF (iU l')),a3,some (.lst ((F'.map aP).map .Y)),some (.Y (aP h)),b6]/\SI N l0 l' F'/\(∀x,x∈l.map (·.1)->x∈l'.map (·.1))/\∀e∈pre,0<e.2->e.1∈l'.map (·.1)) i []
  [some (.Y (dg N)),a1,some (.aF (iU l)),a3,some (.lst ((F.map aP).map .Y)),some (.Y (aP h)),a6] ⟨l,F,a6,rfl,s,λ_ z=>z,λ_ z=>(by cases z)⟩ (by
   rintro q ⟨w,n⟩ post Q0 eq ⟨l',F',b6,rfl,s',sb,dn⟩;have en:lk i w=some n:=KS (ok.ni h i ei) (by rw[eq];simp)
   have ll:=s'.cm.len ok;have nl:=ok.nl;have sl:=s'.len;by_cases c:0<n/\w∉l'.map (·.1)
   .have st:=Yt N l' F' h w i n a1 a3 ei en c.1 c.2 (by lia) (by lia)
    refine⟨[some (.Y (dg N)),a1,some (.aF (iU (l'++[(w,some h)]))),a3,some (.lst (((F'++[w]).map aP).map .Y)),some (.Y (aP h)),some (.Y (aP w))],?_,l'++[(w,some h)],F'++[w],_,rfl,s'.add hh c.2 (by rw[Ae ei,en];exact c.1) ⟨i,ei,n,en⟩,λx z=>(vQ ..).mpr (.inl (sb x z)),λe z hz=>?_⟩
    .simp only[fU,bG,bB,bH,reduceAdd,reduceLT,cj,bI,a_,↓ag,st]
    .rw[vQ];rcases eR.mp z with z|z
     .exact .inl (dn e (by simpa using z) hz)
     .rw[iz] at z;rw[z];exact .inr rfl
   .have hn:0<n->w∈l'.map (·.1):=λz=>p8 λy=>c ⟨z,y⟩
    have st:=Yu N l' F' h w i n a1 a3 ei en hn;refine⟨[some (.Y (dg N)),a1,some (.aF (iU l')),a3,some (.lst ((F'.map aP).map .Y)),some (.Y (aP h)),some (.Y (aP w))],?_,l',F',_,rfl,s',sb,λe z hz=>?_⟩
    .simp only[fU,bG,bB,bH,reduceAdd,reduceLT,cj,bI,a_,↓ag,st]
    .rcases eR.mp z with z|z
     .exact dn e (by simpa using z) hz
     .rw[iz] at z;rw[z] at hz ⊢;exact hn hz)
 rw[ig] at dn;refine⟨l',F',b6,s',sb,λx hx=>?_,?_⟩
 .rw[Ae ei] at hx;cases q:lk i x with
  |none=>rw[q] at hx;exact b_ hx (Int.lt_irrefl 0)
  |some n=>rw[q] at hx;exact dn (x,n) (KU q) hx
 .have f1:=yb ei;have f2:(pI i).map (·.1.d)=i.map λe=>aP e.1:=by
   unfold pI;rw[O2];exact HN λe _=>KQ e.1
  unfold vy;simp only[Yr,cD,bJ,bj,bc,bf,↓ag,bu,br,bF,bz,bD,dh,f1,bZ,f2,e]
def Hr:GS:=aU (av 4 (aY .lst gN)) (aU (eI (af 3) (bp 5) vy) (av 3 (ax (af 4))))
theorem ZW(N:Net)(ok:nt N)(l:cT)(R:List Nd)(a1 a4 a5 a6:ai O)(c:Cm N l)(hR:∀x,x∈R->x∈l.map (·.1))(cl:∀y,y∈l.map (·.1)->y∉R->∀x,0<rr N y x->x∈l.map (·.1)):
  ∃l' F b4 b5 b6,SI N l l' F/\(∀y,y∈l'.map (·.1)->y∉F->∀x,0<rr N y x->x∈l'.map (·.1))/\
   Hr [some (.Y (dg N)),a1,some (.aF (iU l)),some (.Y (.lst (R.map aP))),a4,a5,a6]=some (.nx,[some (.Y (dg N)),a1,some (.aF (iU l')),some (.Y (.lst (F.map aP))),b4,b5,b6]):=by
 obtain⟨au,e,l',F,b5,b6,rfl,s,dn⟩:=oP (g:=bp 5) (f:=vy) aP (λpre Q0=>∃(l':cT) (F:List Nd) (b5 b6:ai O),Q0=[some (.Y (dg N)),a1,some (.aF (iU l')),some (.Y (.lst (R.map aP))),some (.lst ((F.map aP).map .Y)),b5,b6]/\SI N l l' F/\∀h∈pre,∀x,0<rr N h x->x∈l'.map (·.1)) R []
  [some (.Y (dg N)),a1,some (.aF (iU l)),some (.Y (.lst (R.map aP))),some (.lst []),a5,a6] ⟨l,[],a5,a6,rfl,⟨c,λx=>(by simp),rfl⟩,λ_ z=>(by cases z)⟩ (by
   rintro q h post Q0 eq ⟨l',F,b5,b6,rfl,s,dn⟩;have hm:h∈R:=by rw[eq];simp
   obtain⟨l2,F2,c6,s2,sb,d2,st⟩:=Yv N ok l l' F h a1 (some (.Y (.lst (R.map aP)))) b6 s (hR h hm) (c.sub ok h (hR h hm));refine⟨[some (.Y (dg N)),a1,some (.aF (iU l2)),some (.Y (.lst (R.map aP))),some (.lst ((F2.map aP).map .Y)),some (.Y (aP h)),c6],?_,l2,F2,_,c6,rfl,s2,λy z x hx=>?_⟩
   .simp only[fU,bG,bB,bH,reduceAdd,reduceLT,cj,bI,a_,↓ag,st]
   .rcases eR.mp z with z|z
    .exact sb x (dn y (by simpa using z) x hx)
    .rw[iz] at z;rw[z] at hx;exact d2 x hx)
 rw[ig] at dn;refine⟨l',F,some (.Y (.lst (F.map aP))),b5,b6,s,λy hy hF x hx=>?_,?_⟩
 .have hy:y∈l.map (·.1):=((s.sub y).mp hy).resolve_right hF
  by_cases m:y∈R
  .exact dn y m x hx
  .exact(s.sub x).mpr (.inl (cl y hy m x hx))
 .unfold Hr;simp only[cY,dY,eX,br,↓ag,bB,reduceLeDiff,dW,a_,bG,bH,reduceAdd,reduceLT,cj,bI,pj,cD,bc,bu,bf,bZ,e,i4,uj]
theorem O4(N:Net)(ok:nt N)(a1:ai O):∀(n:Nat) (l:cT) (R:List Nd) (a4 a5 a6:ai O),Cm N l->(∀x,x∈R->x∈l.map (·.1))->(∀y,y∈l.map (·.1)->y∉R->∀x,0<rr N y x->x∈l.map (·.1))->N.length+2<=n+l.length+(if R=[] then 1 else 0)->
  ∃l' b3 b4 b5 b6,Cm N l'/\(∀y,y∈l'.map (·.1)->∀x,0<rr N y x->x∈l'.map (·.1))/\gf (g_ (af 3)) Hr n [some (.Y (dg N)),a1,some (.aF (iU l)),some (.Y (.lst (R.map aP))),a4,a5,a6]=some (.nx,[some (.Y (dg N)),a1,some (.aF (iU l')),b3,b4,b5,b6])
 |0,l,R,a4,a5,a6,c,_,_,hn=>by
  have:=c.len ok;split at hn <;> lia
 |n+1,l,R,a4,a5,a6,c,hR,cl,hn=>by
  by_cases q:R=[]
  .subst q;refine⟨l,some (.Y (.lst [])),a4,a5,a6,c,λy hy=>cl y hy (by simp),?_⟩
   unfold gf;simp only[eK,lJ,bc,bu,bf,↓ag,bz,xN,MV,mK,dU,cX]
  .obtain⟨l2,F,b4,b5,b6,s,Vq,st⟩:=ZW N ok l R a1 a4 a5 a6 c hR cl;rw[aW q] at hn;obtain⟨l',c3,c4,c5,c6,r1,r2,r3⟩:=O4 N ok a1 n l2 F b4 b5 b6 s.cm (λx hx=>(s.sub x).mpr (.inr hx)) Vq (by
    have:=s.len;cases F with
    |nil=>rw[aT rfl];rw[uE] at this;lia
    |cons x F=>rw[jL] at this;split <;> lia)
   refine⟨l',c3,c4,c5,c6,r1,r2,?_⟩;rw[<-r3];have ne:(R.map aP).isEmpty=false:=by
    cases R with
    |nil=>exact b_ rfl q
    |cons x R=>rfl
   rw[gf];simp only[lJ,bc,bu,bf,↓ag,bz,xN,ne,pZ,st,a_]
theorem WH(N:Net)(ok:nt N):∃l,Cm N l/\(∀y,y∈l.map (·.1)->∀x,0<rr N y x->x∈l.map (·.1))/\rQ [.Y (dg N),.Y (aP .st)]=some (.aF (iU l),[none,none]):=by
 have hn:=ok.nl;obtain⟨l,b3,b4,b5,b6,c,cl,e⟩:=O4 N ok (some (.Y (aP .st))) 1000000 [(.st,none)] [.st] none none none .base (λx hx=>hx) (λy hy hR=>b_ hy hR) (by
  rw[mJ];split <;> lia)
 refine⟨l,c,cl,?_⟩;have me:Ji=aU (av 2 (zU (af 1) (gC .bh))) (aU (av 3 (ax (aY .lst (aq (af 1) gN)))) (aU (gf (g_ (af 3)) Hr 1000000) (ba (fA (af 2))))):=rfl;have e0:iU [(.st,none)]=[(dZ .st,.Y .bh)]:=rfl;have e1:[Nd.st].map aP=[aP .st]:=rfl;rw[e0,e1] at e;unfold rQ;rw[me];simp only[fV,eJ,eK,bG,bB,bH,reduceAdd,reduceSub,eQ,eD,d_,eu,cY,dY,OM,bc,bu,bf,↓ag,bS,rB,↓evMap,reduceLT,cj,bI,a_,cD,eX,bj,br,reduceLeDiff,e_,dW,i4,ip,bZ,gh,e,fO,qN,gw,gb,gc,gj,fY]
theorem Ur(N:Net)(l:cT)(h:rQ [.Y (dg N),.Y (aP .st)]=some (.aF (iU l),[none,none])):bor rQ [bV N,.Y (aP .st)]=some (.aF (iU l),[some (bV N),none]):=by
 have d2:wk (bV N)=true:=by
  show(pL N).all _=true;rw[kI];intro p hp;obtain⟨e,_,rfl⟩:=gQ.mp hp;show(Hh e.2).all _=true;rw[kI];intro p hp;obtain⟨e,_,rfl⟩:=gQ.mp hp;rfl
 have c1:qi (.aF (iU l))=true:=by
  have:∀l:cT,nQ (iU l)=true:=by
   intro l
   induction l with
   |nil=>rfl
   |cons e l ih=>
    show nQ ((dZ e.1,GN e.2)::iU l)=true;simp only[nQ,ih,EE];cases e.2 with
    |none=>simp[GN,qi,qR]
    |some v=>
     show qi (.Y (aP v))=true;simp only[qi];rw[<-KQ];exact J' _
  simp only[qi];exact this l
 unfold bor;dsimp only;rw[aT d2,Ro,h];dsimp only[Option.bind_some];rw[aT ⟨c1,rfl⟩]
noncomputable def iY(N:Net):List (Nd×List Nd):=N.map λe=>(e.1,e.2.map (·.1))
theorem GI(v:Nd):∀N:Net,lk (iY N) v=(lk N v).map (·.map (·.1))
 |[]=>rfl
 |e::N=>by
  show lk ((e.1,e.2.map (·.1))::iY N) v=_
  rw[lH,lH,GI v N];split <;> rfl
theorem ub:kr N v w↔∃ks,lk (iY N) v=some ks/\w∈ks:=by
 rw[GI];unfold kr;constructor
 .rintro⟨i,e,n,e2⟩;exact⟨_,by rw[e];rfl,fD.mp ⟨n,e2⟩⟩
 .rintro⟨ks,e,m⟩;cases q:lk N v with
  |none=>rw[q] at e;cases e
  |some i=>
   rw[q] at e;cases e;exact⟨i,rfl,fD.mpr m⟩
theorem Fy(N:Net):N.map (·.1)=(iY N).map (·.1):=by
 unfold iY;rw[oH];rfl
theorem nt.same(ok:nt N)(h:iY N'=iY N):nt N':=by
 have hk:N'.map (·.1)=N.map (·.1):=by rw[Fy,Fy,h]
 have hl:∀v i,lk N' v=some i->∃j,lk N v=some j/\i.map (·.1)=j.map (·.1):=λv i e=>by
  have a:=GI v N;have b:=GI v N';rw[h,a,e] at b;cases q:lk N v with
  |none=>rw[q] at b;cases b
  |some j=>rw[q] at b;injection b with b;exact⟨j,rfl,b.symm⟩
 refine⟨λv w=>?_,by rw[hk];exact ok.st,by rw[hk];exact ok.nd,λv i e=>?_,?_,λv i e=>?_⟩
 .rw[ub,ub,h,<-ub,<-ub];exact ok.sy v w
 .obtain⟨j,e1,e2⟩:=hl v i e;rw[e2];exact ok.ni v j e1
 .have:=congrArg List.length hk;rw[bY,bY] at this;rw[this];exact ok.nl
 .obtain⟨j,e1,e2⟩:=hl v i e;have:=congrArg List.length e2;rw[bY,bY] at this;rw[this];exact ok.il v j e1
theorem Rw{a:Nd}{i i':qE}(hi:i'.map (·.1)=i.map (·.1)):∀{N:Net},lk N a=some i->iY (pt N a i')=iY N
 |[],h=>by cases h
 |e::N,h=>by
  rw[lH] at h;show iY (if e.1=a then(e.1,i')::N else e::pt N a i')=_
  by_cases q:e.1=a
  .rw[aT q] at h ⊢;injection h with h;show(e.1,i'.map (·.1))::iY N=(e.1,e.2.map (·.1))::iY N
   rw[hi,h]
  .rw[aW q] at h ⊢;show(e.1,e.2.map (·.1))::iY (pt N a i')=(e.1,e.2.map (·.1))::iY N
   rw[Rw hi h]
theorem Rx(h:lk N a=some i)(h2:lk i b=some m):iY (jK N a b n)=iY N:=by
 unfold jK;rw[h];exact Rw (by rw[B4,aT (fD.mp ⟨m,h2⟩)]) h
def BD(l:cT):List Nd->Prop
 |[]=>False
 |[x]=>lk l x=some none
 |x::y::p=>lk l x=some (some y)/\BD l (y::p)
theorem Cm.step(c:Cm N l):∀x y,lk l x=some (some y)->0<rr N y x/\kr N y x/\x≠y:=by
 induction c with
 |base=>
  intro x y h;rw[lH] at h;split at h
  .cases h
  .cases h
 |@ext l a b h1 h2 h3 h4 h5 ih=>
  intro x y h;rw[zY] at h;cases q:lk l x with
  |some z=>rw[q] at h;exact ih x y (by rw[q];exact h)
  |none=>
   rw[q] at h;have h:lk [(a,some b)] x=some (some y):=h;rw[lH] at h;split at h
   .rename_i e
    cases h;dsimp only at e;rw[<-e];exact⟨h4,h5,λz=>h3 (by rw[z];exact h2)⟩
   .cases h
theorem Jr{l m:cT}:∀{p:List Nd},(∀v,v∈p->v∈l.map (·.1))->BD l p->BD (l++m) p
 |[],_,h=>h
 |[x],hv,h=>by
  show lk (l++m) x=some none;have h:lk l x=some none:=h;rw[zY,h]
 |x::y::p,hv,h=>by
  refine⟨?_,Jr (λv z=>hv v (.tail _ z)) h.2⟩
  rw[zY,h.1]
theorem Cm.path(c:Cm N l):∀x,x∈l.map (·.1)->∃p,BD l (x::p)/\(x::p).Nodup/\(∀v,v∈x::p->v∈l.map (·.1))/\(x::p).getLast?=some .st/\kK (rr N) (x::p):=by
 induction c with
 |base=>
  intro x h;rw[uF,iz] at h;subst h;exact⟨[],rfl,by simp,λv z=>z,rfl,i9⟩
 |@ext l a b h1 h2 h3 h4 h5 ih=>
  intro x h;rcases(vQ ..).mp h with h|h
  .obtain⟨p,q1,q2,q3,q4,q5⟩:=ih x h;exact⟨p,Jr q3 q1,q2,λv z=>(vQ ..).mpr (.inl (q3 v z)),q4,q5⟩
  .subst h;obtain⟨p,q1,q2,q3,q4,q5⟩:=ih b h2;refine⟨b::p,⟨?_,Jr q3 q1⟩,jr.mpr ⟨λz=>h3 (q3 _ z),q2⟩,λv z=>?_,by rw[List.getLast?_cons_cons];exact q4,h4,q5⟩
   .rw[zY,kA.mpr h3];show lk [(x,some b)] x=_;rw[lH,aT rfl]
   .rw[vQ];rcases dR.mp z with z|z
    .exact .inr z
    .exact .inl (q3 v z)
theorem JS{y:ai Nd}(e:lk l x=some y):dQ (.Y (.aF (dN l))) (aP x)=some (.Y (Af y)):=by
 have q:dQ (.Y (.aF (dN l))) (aP x)=(cI (aP x)).bind λk=>(i8 (dN l) k).map .Y:=by
  cases x <;> rfl
 rw[q,rB,Option.bind_some];unfold dN;rw[xP dZ o_,e];rfl
def pC:GT:=gT (gB (kY true) (gB bM (af 1) (af 3)) (gC .bh))
def pB:GS:=aU (av 4 (gB bM (af 1) (af 3)))
 (aU (um (λi j=>i - j) 0 (sV 4) (sV 3) (sC (.int 1))) (aU (um (λi j=>i+j) 0 (sV 3) (sV 4) (sC (.int 1))) (av 3 (af 4))))
theorem Yw(v:Nd):kY true [.Y (aP v),.Y .bh]=some (.Y (.bl true)):=by
 cases v <;> rfl
theorem Yx:kY true [.Y .bh,.Y .bh]=some (.Y (.bl false)):=rfl
theorem ZX(e:lk l x=some (some y)):pC [some (bV N),some (.Y (.aF (dN l))),a2,some (.Y (aP x)),a4]=some (true,[some (bV N),some (.Y (.aF (dN l))),a2,some (.Y (aP x)),a4]):=by
 have f:=JS e;have f2:=Yw y;rw[show Af (some y)=aP y from rfl] at f;unfold pC;simp only[de,bJ,bj,bc,bu,bf,↓ag,br,bF,bz,bD,dh,f,bS,f2]
theorem e7k(e:lk l x=some none):pC [some (bV N),some (.Y (.aF (dN l))),a2,some (.Y (aP x)),a4]=some (false,[some (bV N),some (.Y (.aF (dN l))),a2,some (.Y (aP x)),a4]):=by
 have f:=JS e;rw[show Af none=.bh from rfl] at f;unfold pC;simp only[de,bJ,bj,bc,bu,bf,↓ag,br,bF,bz,bD,dh,f,bS,Yx]
theorem Vs(ok:nt N)(e:lk l x=some (some y))(ha:kr N y x)(ia:x≠y):
  ∃N',iY N'=iY N/\(∀v w,rr N' v w=aug (rr N) y x v w)/\pB [some (bV N),some (.Y (.aF (dN l))),a2,some (.Y (aP x)),a4]=some (.nx,[some (bV N'),some (.Y (.aF (dN l))),a2,some (.Y (aP y)),some (.Y (aP y))]):=by
 have ha':=ok.sy y x ha;obtain⟨i,e1,n,e2⟩:=ha;obtain⟨j,e3,m,e4⟩:=ha';have e5:lk (jK N y x (n - 1)) x=some j:=by rw[CD e1,aW (Ne.symm ia)];exact e3
 refine⟨jK (jK N y x (n - 1)) x y (m+1),by rw[Rx e5 e4,Rx e1 e2],λv w=>?_,?_⟩
 .rw[GU e5,GU e1];unfold aug;by_cases c1:v=y/\w=x
  .rw[aW (λz=>ia (z.1.symm.trans c1.1)),aT c1,aT c1,c1.1,c1.2,Ae e1,e2];rfl
  .rw[aW c1];by_cases c2:v=x/\w=y
   .rw[aT c2,aW c1,aT c2,c2.1,c2.2,Ae e3,e4];rfl
   .rw[aW c2,aW c1,aW c2]
 .have f:=JS e;rw[show Af (some y)=aP y from rfl] at f;have p1:um (λi j=>i - j) 0 (sV 4) (sV 3) (sC (.int 1)) [some (bV N),some (.Y (.aF (dN l))),a2,some (.Y (aP x)),some (.Y (aP y))]=some (.nx,[some (bV (jK N y x (n - 1))),some (.Y (.aF (dN l))),a2,some (.Y (aP x)),some (.Y (aP y))]):=Qg e1 e2 (by have:=ok.il _ _ e1;lia) rfl rfl rfl rfl
  have p2:um (λi j=>i+j) 0 (sV 3) (sV 4) (sC (.int 1)) [some (bV (jK N y x (n - 1))),some (.Y (.aF (dN l))),a2,some (.Y (aP x)),some (.Y (aP y))]=some (.nx,[some (bV (jK (jK N y x (n - 1)) x y (m+1))),some (.Y (.aF (dN l))),a2,some (.Y (aP x)),some (.Y (aP y))]):=Qg e5 e4 (by have:=ok.il _ _ e3;lia) rfl rfl rfl rfl
  unfold pB;simp only[cY,dY,bJ,bj,bc,bu,bf,↓ag,br,bF,bz,bD,dh,f,bG,bB,bH,reduceAdd,reduceLT,cj,bI,a_,p1,p2]
theorem Oo(l:cT)(a2:ai O):∀(p:List Nd) (x:Nd) (N:Net) (n:Nat) (a4:ai O),nt N->BD l (x::p)->(∀x y,lk l x=some (some y)->kr N y x/\x≠y)->p.length<n->
  ∃N' b3 b4,iY N'=iY N/\(∀v w,rr N' v w=jQ (rr N) (x::p) v w)/\gf pC pB n [some (bV N),some (.Y (.aF (dN l))),a2,some (.Y (aP x)),a4]=some (.nx,[some (bV N'),some (.Y (.aF (dN l))),a2,b3,b4])
 |p,x,N,0,a4,ok,hp,ha,hn=>b_ hn (EI _)
 |[],x,N,n+1,a4,ok,hp,ha,hn=>by
  have hp:lk l x=some none:=hp;refine⟨N,some (.Y (aP x)),a4,rfl,λ_ _=>rfl,?_⟩
  have f:=e7k (N:=N) (a2:=a2) (a4:=a4) hp;rw[gf];simp only[f,↓ag,dU,cX]
 |y::p,x,N,n+1,a4,ok,hp,ha,hn=>by
  obtain⟨N1,s1,r1,st⟩:=Vs ok (a2:=a2) (a4:=a4) hp.1 (ha x y hp.1).1 (ha x y hp.1).2;have f:=ZX (N:=N) (a2:=a2) (a4:=a4) hp.1;obtain⟨N',b3,b4,s2,r2,e⟩:=Oo l a2 p y N1 n (some (.Y (aP y))) (ok.same s1) hp.2 (λx y h=>⟨by rw[ub,s1,<-ub];exact(ha x y h).1,(ha x y h).2⟩) (Nat.lt_of_succ_lt_succ hn)
  refine⟨N',b3,b4,s2.trans s1,λv w=>?_,?_⟩
  .rw[r2];have:(rr N1)=aug (rr N) y x:=by funext v w;exact r1 v w
   rw[this];rfl
  .rw[<-e,gf];simp only[f,↓ag,st,a_]
theorem ZY(N:Net)(ok:nt N)(l:cT)(c:Cm N l)(he:.en∈l.map (·.1)):∃N' p,iY N'=iY N/\(∀v w,rr N' v w=jQ (rr N) (.en::p) v w)/\(Nd.en::p).Nodup/\(∀v,v∈Nd.en::p->v∈N.map (·.1))/\(Nd.en::p).getLast?=some .st/\kK (rr N) (.en::p)/\zV [bV N,.Y (.aF (dN l)),.Y (aP .en)]=some (.Y .bh,[some (bV N'),none,none]):=by
 obtain⟨p,q1,q2,q3,q4,q5⟩:=c.path .en he;have hl:=vR q2 q3;rw[bY,jL] at hl;have h2:=c.len ok;have h3:=ok.nl;obtain⟨N',b3,b4,s,r,e⟩:=Oo l (some (.Y (aP .en))) p .en N 1000000 none ok q1 (λx y h=>(c.step x y h).2) (by lia)
 refine⟨N',p,s,r,q2,λv z=>c.sub ok v (q3 v z),q4,q5,?_⟩
 have me:Kf=aU (av 3 (af 2)) (gf pC pB 1000000):=rfl;unfold zV;rw[me];simp only[fV,eJ,eK,bG,bB,bH,reduceAdd,reduceSub,eQ,eD,d_,eu,cY,dY,bc,bu,bf,↓ag,reduceLT,cj,bI,a_,e,Ky,gb,gc,rW,gj,fY]
theorem R7(l:cT):(O.aF (iU l)).d=.aF (dN l):=by show D.aF (O.dk (iU l))=_;rw[Rv]
theorem Qm(N:Net)(ok:nt N):∃l,Cm N l/\(∀y,y∈l.map (·.1)->∀x,0<rr N y x->x∈l.map (·.1))/\bor rQ [bV N,.Y (aP .st)]=some (.aF (iU l),[some (bV N),none]):=by
 obtain⟨l,c,cl,e⟩:=WH N ok;exact⟨l,c,cl,Ur N l e⟩
def G1:GT:=gT (gB (cw false) (af 2) (af 3))
def GZ:GS:=aU (kb (aJ zV (aq (af 0) (aq (af 3) (aq (af 2) gN))))) (av 3 (ax (aJ (bor rQ) (aq (af 0) (aq (af 1) gN)))))
def u6(N:Net)(l:cT):Gm:=[some (bV N),some (.Y (aP .st)),some (.Y (aP .en)),some (.Y (.aF (dN l)))]
theorem RW(N:Net)(l:cT)(b:Bool)(hb:b=true↔.en∈l.map (·.1)):G1 (u6 N l)=some (b,u6 N l):=by
 have f:=Jq false l .en b hb;unfold G1 u6;simp only[de,bJ,bj,bc,bu,bf,↓ag,br,bF,bz,bD,f,dU,cX]
theorem e7l(N N1:Net)(l l1:cT)(h1:zV [bV N,.Y (.aF (dN l)),.Y (aP .en)]=some (.Y .bh,[some (bV N1),none,none]))(h2:bor rQ [bV N1,.Y (aP .st)]=some (.aF (iU l1),[some (bV N1),none])):GZ (u6 N l)=some (.nx,u6 N1 l1):=by
 unfold GZ u6;simp only[cY,kO,fK,bj,bc,bf,↓ag,bu,br,ko,bI,fJ,fH,h1,lL,fX,fW,dY,cD,h2,R7,bG,bB,bH,reduceAdd,reduceLT,cj,a_]
theorem Oq{V:List Nd}{r0:Nd->Nd->Int}{B:Int}(hB:∀r,jY V .st .en r0 r->ex V r0 r .st<=B):∀(n:Nat) (N:Net) (l:cT),nt N->(∀v,v∈N.map (·.1)->v∈V)->jY V .st .en r0 (rr N)->Cm N l->(∀y,y∈l.map (·.1)->∀x,0<rr N y x->x∈l.map (·.1))->B<ex V r0 (rr N) .st+n->
  ∃N' l',iY N'=iY N/\jY V .st .en r0 (rr N')/\Cm N' l'/\(∀y,y∈l'.map (·.1)->∀x,0<rr N' y x->x∈l'.map (·.1))/\.en∉l'.map (·.1)/\gf G1 GZ n (u6 N l)=some (.nx,u6 N' l')
 |0,N,l,ok,hV,F,c,cl,hn=>by
  have:=hB _ F;simp only[Int.natCast_zero,Int.add_zero] at hn;lia
 |n+1,N,l,ok,hV,F,c,cl,hn=>by
  by_cases he:Nd.en∈l.map (·.1)
  .obtain⟨N1,p,s1,r1,n1,v1,g1,m1,e1⟩:=ZY N ok l c he;have er:rr N1=jQ (rr N) (.en::p):=by funext v w;exact r1 v w
   obtain⟨F1,x1⟩:=F.push n1 (λv z=>hV v (v1 v z)) g1 m1
   rw[<-er] at F1 x1;have yK:=ok.same s1;obtain⟨l1,c1,Vp,e2⟩:=Qm N1 yK;have hk:N1.map (·.1)=N.map (·.1):=by rw[Fy,Fy,s1]
   obtain⟨N',l',q1,q2,q3,q4,q5,q6⟩:=Oq hB n N1 l1 yK (by rw[hk];exact hV) F1 c1 Vp (by
    rw[x1];have:((n+1:Nat):Int)=(n:Int)+1:=rfl;lia)
   refine⟨N',l',q1.trans s1,q2,q3,q4,q5,?_⟩;have f1:=RW N l true ⟨λ_=>he,λ_=>rfl⟩
   have f2:=e7l N N1 l l1 e1 e2;rw[<-q6,gf];simp only[f1,↓ag,f2,a_]
  .refine⟨N,l,rfl,F,c,cl,he,?_⟩;have f1:=RW N l false ⟨λz=>(by cases z),λz=>b_ z he⟩
   rw[gf];simp only[f1,↓ag,dU,cX]
theorem ZZ{V:List Nd}{B:Int}(N:Net)(ok:nt N)(hV:∀v,v∈N.map (·.1)->v∈V)(F:jY V .st .en (rr N) (rr N))(hB:∀r,jY V .st .en (rr N) r->ex V (rr N) r .st<=B)(hb:B<1000):
  ∃N' l',iY N'=iY N/\jY V .st .en (rr N) (rr N')/\Cm N' l'/\(∀y,y∈l'.map (·.1)->∀x,0<rr N' y x->x∈l'.map (·.1))/\.en∉l'.map (·.1)/\Gy [bV N,.Y (aP .st),.Y (aP .en)]=some (.Y (.aF (dN l')),[some (bV N'),none,none]):=by
 obtain⟨l,c,cl,e⟩:=Qm N ok;have e0:ex V (rr N) (rr N) .st=0:=zN λv _=>by lia
 obtain⟨N',l',q1,q2,q3,q4,q5,q6⟩:=Oq hB 1000000 N l ok hV F c cl (by rw[e0];lia)
 refine⟨N',l',q1,q2,q3,q4,q5,?_⟩;unfold u6 at q6;have me:Kh=aU (av 3 (ax (aJ (bor rQ) (aq (af 0) (aq (af 1) gN))))) (aU (gf G1 GZ 1000000) (ba (af 3))):=rfl;unfold Gy;rw[me];simp only[fV,eJ,eK,bG,bB,bH,reduceAdd,reduceSub,eQ,eD,d_,eu,cY,dY,cD,fK,bj,bc,bf,↓ag,bu,br,ko,bI,fJ,fH,e,lL,fX,fW,R7,reduceLT,cj,a_,q6,fO,gw,gb,gc,rW,gj,fY]
section
variable{α:Type}[DecidableEq α](kk:α->TK)(inj:∀a b,kk a=kk b->a=b)
noncomputable def kz(ks:List α):List (TK×O):=ks.map λk=>(kk k,.Y (.bl true))
noncomputable def jk(ks:List α)(c:α):List α:=if c∈ks then ks else ks++[c]
def dy(ks cs:List α):List α:=cs.foldl jk ks
include inj in
theorem Qn(c:α):∀ks:List α,cP (kz kk ks) (kk c) (.Y (.bl true))=kz kk (jk ks c)
 |[]=>rfl
 |k::ks=>by
  have ih:=Qn c ks;show(if kk k=kk c then(kk k,O.Y (.bl true))::kz kk ks else(kk k,O.Y (.bl true))::cP (kz kk ks) (kk c) (.Y (.bl true)))=_
  unfold jk at *;by_cases e:k=c
  .rw[aT (by rw[e]),aT (by rw[e];exact .head _)];rfl
  .rw[aW (λz=>e (inj _ _ z)),ih]
   by_cases m:c∈ks
   .rw[aT m,aT (.tail _ m)];rfl
   .rw[aW m,aW (λz=>by
     rcases dR.mp z with z|z
     .exact e z.symm
     .exact m z)]
    rfl
include inj in
theorem Z0(d:D)(c:α)(hd:cI d=some (kk c))(ks:List α)(hl:ks.length<1000000):jS (.aF (kz kk ks)) [.Y (.bl true),.Y d]=some (.aF (kz kk (jk ks c)),.Y .bh):=by
 rw[JQ,hd,Option.bind_some,aT (by unfold kz;rw[bY];exact hl),Qn kk inj]
end
section
variable{α:Type}[DecidableEq α]
theorem WI{ks:List α}{c x:α}:x∈jk ks c↔x∈ks\/x=c:=by
 unfold jk;split
 .rename_i m
  exact⟨.inl,λz=>z.elim id λe=>by rw[e];exact m⟩
 .rw[eR,iz]
theorem jP:∀{cs ks:List α} {x:α},x∈dy ks cs↔x∈ks\/x∈cs
 |[],ks,x=>by show x∈ks↔_;simp
 |c::cs,ks,x=>by
  show x∈dy (jk ks c) cs↔_;rw[jP,WI,dR,or_assoc]
theorem Us{ks:List α}{c:α}(h:ks.Nodup):(jk ks c).Nodup:=by
 unfold jk;split
 .exact h
 .rename_i m
  rw[lD];exact⟨h,by simp,λa ha b hb e=>by simp at hb;subst hb e;exact m ha⟩
theorem Nj:∀{cs ks:List α},ks.Nodup->(dy ks cs).Nodup
 |[],ks,h=>h
 |c::cs,ks,h=>Nj (cs:=cs) (Us h)
theorem Ot(ks cs ds:List α):dy ks (cs++ds)=dy (dy ks cs) ds:=by unfold dy;rw[List.foldl_append]
theorem IK:∀{cs ks:List α},(dy ks cs).length<=ks.length+cs.length
 |[],ks=>c7 _
 |c::cs,ks=>by
  have h1:=IK (cs:=cs) (ks:=jk ks c);have h2:(jk ks c).length<=ks.length+1:=by
   unfold jk;split
   .exact Bm _
   .simp
  show(dy (jk ks c) cs).length<=_;rw[jL];lia
end
abbrev Pl:=Str×Int
variable{p q:Pl}{P:List Pl}
noncomputable def aN(p:Pl):D:=.tup [.str p.1,.int p.2]
def lQ(p:Pl):TK:=.tp [.inr p.1,.inl p.2]
theorem Ry(p:Pl):cI (aN p)=some (lQ p):=by
 simp[aN,lQ,cI,m6,pR,TK.ok]
theorem Yy(a b:Pl)(e:lQ a=lQ b):a=b:=by
 obtain⟨x,i⟩:=a;obtain⟨y,j⟩:=b;unfold lQ at e;injection e with e;injection e with e1 e;injection e with e2 e;injection e1 with e1;injection e2 with e2;dsimp only at e1 e2;rw[e1,e2]
def jE(h:aA)(p:Pl):List Sp:=lr h (.inr p)++[.inr p]
def yQ:Sp->ai Pl
 |.inl _=>none
 |.inr p=>some p
def i6(h:aA)(p:Pl):List Pl:=(jE h p).filterMap yQ
theorem hG:q∈i6 h p↔Sum.inr q∈jE h p:=by
 unfold i6;rw[Ey];constructor
 .rintro⟨s,hs,e⟩;cases s with
  |inl x=>cases e
  |inr r=>cases e;exact hs
 .exact λz=>⟨_,z,rfl⟩
theorem JT:∀ss:List Sp,(ss.filter λs => !s.isLeft).map bT=(ss.filterMap yQ).map aN
 |[]=>rfl
 |.inl x::ss=>JT ss
 |.inr p::ss=>by
  show bT (.inr p)::(ss.filter λs => !s.isLeft).map bT=aN p::(ss.filterMap yQ).map aN
  rw[JT ss];rfl
def VP(h:aA)(p:Pl):Prop:=∃b∈h.aB,b.name=p.1/\0<=p.2/\p.2<b.long
theorem yc(ok:h_ h){b:aR}(hb:b∈h.aB)(c:Int):jE h (b.name,c)=i7 h b c++[.inr (b.name,c)]:=by
 unfold jE;rw[P7 ok.fwd hb]
theorem JU(ok:h_ h)(v:VP h p):(jE h p).length<=31:=by
 obtain⟨n,c⟩:=p;obtain⟨b,hb,e,_⟩:=v;dsimp only at e;subst e;rw[yc ok hb,fu,mJ];have:=Ol h b c (ok.bk b hb).ol;lia
theorem FZ(ok:h_ h)(v:VP h p):(i6 h p).length<=31:=
 kH (List.length_filterMap_le _ _) (JU ok v)
theorem Fe(ok:h_ h)(v:VP h p)(hq:q∈i6 h p):VP h q:=by
 rw[hG] at hq;obtain⟨n,c⟩:=p;obtain⟨b,hb,e,c0,c1⟩:=v;dsimp only at e c0 c1;subst e;rw[yc ok hb] at hq;rcases eR.mp hq with hq|hq
 .unfold i7 at hq;split at hq
  .rename_i hc
   rw[iz] at hq;cases hq;exact⟨b,hb,rfl,by show 0<=c+1;lia,hc⟩
  .rcases eR.mp hq with z|z
   .obtain⟨o,ho,e⟩:=gQ.mp z;split at e
    .cases e
    .rename_i hc
     cases e;rcases Fw ok.fwd b hb o ho with y|y
     .obtain⟨x,hx,ex⟩:=gQ.mp y;exact⟨x,hx,ex,vK 0,by have:=(ok.bk x hx).lg.1;show 0<x.long;lia⟩
     .exact b_ (HQ.mpr y) hc
   .split at z
    .rw[iz] at z;cases z;exact⟨b,hb,rfl,vK 0,by show 0<b.long;lia⟩
    .cases z
 .rw[iz] at hq;cases hq;exact⟨b,hb,rfl,c0,c1⟩
theorem MJ(ok:h_ h)(v:VP h p):zM [.Y (bR h),.Y (aN p)]=some (.lst (((jE h p).map bT).map .Y),[none,none]):=by
 obtain⟨n,c⟩:=p;obtain⟨b,hb,e,_⟩:=v;dsimp only at e;subst e;rw[yc ok hb];exact Ym h ok b hb c
noncomputable def at'(p:Pl)(m:Int):Ct:=(p.1,p.2,m)
def rJ(h:aA)(ae:Str)(pl:Int)(p:Pl)(m:Int):List (Nd×Nd×Int):=
 (Nd.gi (at' p m),Nd.go (at' p m),1)::((if eT (.inl ae) (jE h p)=true then[(Nd.go (at' p m),Nd.en,pl)] else[])++(i6 h p).map λq=>(Nd.go (at' p m),Nd.gi (at' q (m+1)),pl))
def ck(N:Net)(L:List (Nd×Nd×Int)):Net:=L.foldl (λN e=>fT N e.1 e.2.1 e.2.2) N
theorem Fz(N:Net)(L M:List (Nd×Nd×Int)):ck N (L++M)=ck (ck N L) M:=by unfold ck;rw[List.foldl_append]
theorem xR:∀(L:List (Nd×Nd×Int)) {N:Net} {k:Nat},Sz N k->Sz (ck N L) (k+4*L.length)
 |[],N,k,s=>s
 |e::L,N,k,s=>by
  have:=xR L (Rr e.1 e.2.1 e.2.2 s);rw[jL,show k+4*(L.length+1)=k+4+4*L.length by lia]
  exact this
theorem Sz.mono{j:Nat}(s:Sz N k)(h:k<=j):Sz N j:=⟨by have:=s.l;lia,λv i e=>by have:=s.i v i e;lia⟩
theorem Yz(ok:h_ h)(v:VP h p):(rJ h ae pl p m).length<=33:=by
 unfold rJ;rw[jL,fu,bY];have:=FZ ok v;have:(if eT (.inl ae) (jE h p)=true then[(Nd.go (at' p m),Nd.en,pl)] else[]).length<=1:=by split <;> simp
 lia
theorem YA(neg:Bool)(x:Sp)(as:List Sp):cw neg [.Y (bT x),.Y (.lst (as.map bT))]=some (.Y (.bl (if neg then !eT x as else eT x as))):=by
 have key:((pO (O.Y (.lst (as.map bT))).d).bind λds=>if cO 40 (O.Y (bT x)).d=true/\ds.all (cO 40)=true then some (O.Y (.bl (if neg then !ds.any λz=>bx z (O.Y (bT x)).d else ds.any λz=>bx z (O.Y (bT x)).d))) else none)=some (.Y (.bl (if neg then !eT x as else eT x as))):=by
  rw[bZ,bZ];show(Option.bind (some (as.map bT)) _)=_;rw[Option.bind_some,aT ⟨CB 39 x,Kj 39 as⟩,Rk]
 cases x with
 |inl y=>exact key
 |inr p=>exact key
theorem F_(p:Pl)(m:Int):uo [.Y (aN p),.Y (.int m)]=some (.tup [.Y (gr (at' p m)),.Y (.str "into")],[none,none]):=ZV p.1 p.2 m
theorem ym(c:Ct):D.tup [gr c,.str "into"]=aP (.gi c):=rfl
theorem Dg(c:Ct):D.tup [gr c,.str "out of"]=aP (.go c):=rfl
theorem RX(c:Ct):dQ (.Y (aP (.gi c))) (.int 0)=some (.Y (gr c)):=rfl
def n6:GS:=kb (aJ uq (aq (af 0) (aq (af 7) (aq (ax (aJ uo (aq (af 10) (aq (ax (gB cn (af 3) (gC (.int 1)))) gN)))) (aq (af 5) gN)))))
def si:GE:=kq (jG (af 8)) (bp 0) (g_ (gO iu (aq (af 0) (aq (gC (.ty "tuple")) gN)))) (af 0) 1 []
def u4:GS:=cH (gT (gB (cw false) (af 4) (af 8)))
  (kb (aJ uq (aq (af 0) (aq (af 7) (aq (ax (gC (.str "the end"))) (aq (af 5) gN))))))
  bL
def mz(h:aA)(ae:Str)(pl:Int)(p:Pl)(m:Int)(N:Net)(a8 a9 a10:ai O):Gm:=
 [some (bV N),some (.Y (bR h)),some (.Y (aN p)),some (.Y (.int m)),some (fS ae),some (.Y (.int pl)),some (.Y (aP (.gi (at' p m)))),some (.Y (aP (.go (at' p m)))),a8,a9,a10]
theorem Vt(h:aA)(ae:Str)(pl:Int)(p q:Pl)(m:Int)(N:Net)(k:Nat)(s:Sz N k)(hk:k<900000)(a8 a9:ai O):
  n6 (mz h ae pl p m N a8 a9 (some (.Y (aN q))))=some (.nx,mz h ae pl p m (fT N (.go (at' p m)) (.gi (at' q (m+1))) pl) a8 a9 (some (.Y (aN q)))):=by
 have e1:=F_ q (m+1);have e2:=GV N k (.go (at' p m)) (.gi (at' q (m+1))) pl s hk;unfold n6 mz;simp only[kO,fK,bj,bc,bf,↓ag,bu,cD,bJ,bS,br,bF,bz,bD,iR,bZ,fJ,fH,e1,fX,fW,jh,ip,gh,ym,ko,bI,e2,lL]
theorem WJ(h:aA)(ae:Str)(pl:Int)(p:Pl)(m:Int)(N:Net)(k:Nat)(s:Sz N k)(hk:k<900000)(a9 a10:ai O):
  u4 (mz h ae pl p m N (some (.Y (.lst ((jE h p).map bT)))) a9 a10)=some (.nx,mz h ae pl p m (ck N (if eT (.inl ae) (jE h p)=true then[(Nd.go (at' p m),Nd.en,pl)] else[])) (some (.Y (.lst ((jE h p).map bT)))) a9 a10):=by
 have e1:=YA false (.inl ae) (jE h p);rw[show bT (.inl ae)=.str ae from rfl] at e1;have e2:=GV N k (.go (at' p m)) .en pl s hk;rw[show aP .en=.str "the end" from rfl] at e2;unfold u4 mz;cases c:eT (.inl ae) (jE h p) with
 |true=>
  rw[c] at e1;simp only[dP,de,bJ,bj,bc,bu,bf,↓ag,br,bF,bz,bD,e1,dU,cX,kO,fK,cD,bS,bZ,ko,bI,fJ,fH,e2,lL,fX,fW,dX,a_];rfl
 |false=>
  rw[c] at e1;simp only[dP,de,bJ,bj,bc,bu,bf,↓ag,br,bF,bz,bD,e1,dU,cX,kO,fK,cD,bS,bZ,ko,bI,fJ,fH,dX];rfl
theorem Vu(h:aA)(ok:h_ h)(ae:Str)(pl:Int)(p:Pl)(v:VP h p)(m:Int)(N:Net)(a9 a10:ai O):
  si (mz h ae pl p m N (some (.Y (.lst ((jE h p).map bT)))) a9 a10)=some (.own (.lst (((i6 h p).map aN).map .Y)),mz h ae pl p m N (some (.Y (.lst ((jE h p).map bT)))) a9 a10):=by
 have hl:=JU ok v;obtain⟨au,⟨a,rfl⟩,e⟩:=xG (g:=bp 0) (ct:=g_ (gO iu (aq (af 0) (aq (gC (.ty "tuple")) gN)))) (ce:=af 0) (λQ0=>∃a,Q0=[a]) bT (λs => !s.isLeft) bT (jE h p) [] [none] ⟨_,rfl⟩ (by rw[uE];lia) (by
  rintro s hs Q0 ⟨a,rfl⟩;refine⟨[some (.Y (bT s))],?_,_,rfl⟩;have f:=Yk s;unfold rP;cases q:s.isLeft with
  |true=>
   rw[q] at f;simp only[fU,bG,bB,bH,reduceLT,bI,a_,↓ag,lJ,bJ,bj,bc,bf,bS,br,bF,bz,bD,f,mK,qa,dU,cX]
  |false=>
   rw[q] at f;simp only[fU,bG,bB,bH,reduceLT,bI,a_,↓ag,lJ,bJ,bj,bc,bf,bS,br,bF,bz,bD,f,pZ,qa])
 rw[ig,JT] at e;rw[show([]:List D).map O.Y=[] from rfl] at e;unfold si mz i6;simp only[nH,rS,cD,bc,bu,bf,↓ag,bZ,eQ,eD,oM,d_,eu,e,bG,bB,bH,reduceAdd,p5,oF,oO,a_]
theorem YB(h:aA)(ae:Str)(pl:Int)(p x:Pl)(m:Int)(N:Net)(a8 a9 l_:ai O):bp 10 (aN x) (mz h ae pl p m N a8 a9 l_)=some (mz h ae pl p m N a8 a9 (some (.Y (aN x)))):=by
 unfold mz;simp only[fU,bG,bB,bH,reduceAdd,reduceLT,cj,bI,a_]
def AR(p:Pl)(m pl:Int)(q:Pl):Nd×Nd×Int:=(.go (at' p m),.gi (at' q (m+1)),pl)
theorem Ou(N:Net)(L:List (Nd×Nd×Int))(e:Nd×Nd×Int):ck N (L++[e])=fT (ck N L) e.1 e.2.1 e.2.2:=Fz N L [e]
theorem Vv(h:aA)(ae:Str)(pl:Int)(p:Pl)(m:Int)(N:Net)(k:Nat)(s:Sz N k)(hk:k<850000)(gs:List Pl)(hg:gs.length<=31)(a8 a9:ai O):
  ∃l_,fM (bp 10) n6 (gs.map aN) (mz h ae pl p m N a8 a9 none)=some (.nx,mz h ae pl p m (ck N (gs.map (AR p m pl))) a8 a9 l_):=by
 obtain⟨au,e6,l_,rfl⟩:=oP (g:=bp 10) (f:=n6) aN (λpre Q0=>∃l_:ai O,Q0=mz h ae pl p m (ck N (pre.map (AR p m pl))) a8 a9 l_) gs []
  (mz h ae pl p m N a8 a9 none) ⟨none,rfl⟩ (by
   rintro q x post Q0 eq ⟨l_,rfl⟩;rw[ig];have hq:gs.length=q.length+(post.length+1):=by rw[eq,fu,jL]
   have sq:=xR (q.map (AR p m pl)) s;rw[bY] at sq;have st:=Vt h ae pl p x m _ _ sq (by lia) a8 a9
   refine⟨mz h ae pl p m (fT (ck N (q.map (AR p m pl))) (.go (at' p m)) (.gi (at' x (m+1))) pl) a8 a9 (some (.Y (aN x))),?_,some (.Y (aN x)),?_⟩
   .rw[YB,Option.bind_some,st]
   .rw[jI,uF,Ou];rfl)
 exact⟨l_,e6⟩
def qT(h:aA)(ae:Str)(p:Pl)(m pl:Int):List (Nd×Nd×Int):=if eT (.inl ae) (jE h p)=true then[(Nd.go (at' p m),Nd.en,pl)] else[]
theorem WK(h:aA)(ae:Str)(p:Pl)(m pl:Int):(qT h ae p m pl).length<=1:=by unfold qT;split <;> simp
theorem Ut(h:aA)(ok:h_ h)(ae:Str)(pl:Int)(p:Pl)(v:VP h p)(m:Int)(N:Net)(k:Nat)(s:Sz N k)(hk:k<800000):
  EX [bV N,.Y (bR h),.Y (aN p),.Y (.int m),.Y (.str ae),.Y (.int pl)]=some (.Y (.lst ((i6 h p).map aN)),[some (bV (ck N (rJ h ae pl p m))),none,none,none,none,none]):=by
 have e1:=F_ p m;have e2:=GV N k (.gi (at' p m)) (.go (at' p m)) 1 s (by lia)
 have s1:=Rr (.gi (at' p m)) (.go (at' p m)) 1 s;have e3:=MJ ok v;have e4:∀a9 a10,u4 (mz h ae pl p m (fT N (.gi (at' p m)) (.go (at' p m)) 1) (some (.Y (.lst ((jE h p).map bT)))) a9 a10)=some (.nx,mz h ae pl p m (ck (fT N (.gi (at' p m)) (.go (at' p m)) 1) (qT h ae p m pl)) (some (.Y (.lst ((jE h p).map bT)))) a9 a10):=λa9 a10=>WJ h ae pl p m (fT N (.gi (at' p m)) (.go (at' p m)) 1) _ s1 (by lia) a9 a10
 have s2:=(xR (qT h ae p m pl) s1).mono (j:=k+8) (by have:=WK h ae p m pl;lia)
 have eN:ck N (rJ h ae pl p m)=ck (ck (fT N (.gi (at' p m)) (.go (at' p m)) 1) (qT h ae p m pl)) ((i6 h p).map (AR p m pl)):=by
  rw[<-Fz];rfl
 rw[eN];generalize ck (fT N (.gi (at' p m)) (.go (at' p m)) 1) (qT h ae p m pl)=N2 at e4 s2 ⊢;have e5:=λa9 a10=>Vu h ok ae pl p v m N2 a9 a10
 obtain⟨l_,e6⟩:=Vv h ae pl p m N2 _ s2 (by lia) (i6 h p) (FZ ok v) (some (.Y (.lst ((jE h p).map bT)))) (some (.Y (.lst ((i6 h p).map aN))))
 generalize ck N2 ((i6 h p).map (AR p m pl))=N3 at e6 ⊢;generalize fT N (.gi (at' p m)) (.go (at' p m)) 1=N1 at e2 e4 ⊢;have me:Ii=aU (av 6 (ax (aJ uo (aq (af 2) (aq (af 3) gN)))))
  (aU (av 7 (ax (aY .tup (aq (gB bM (af 6) (gC (.int 0))) (aq (gC (.str "out of")) gN))))) (aU (kb (aJ uq (aq (af 0) (aq (af 6) (aq (af 7) (aq (gC (.int 1)) gN)))))) (aU (av 8 (ax (aJ zM (aq (af 1) (aq (af 2) gN))))) (aU u4 (aU (av 9 (ax si)) (aU (eI (af 9) (bp 10) n6) (ba (af 9)))))))):=rfl
 unfold mz at e4 e5 e6;unfold EX;rw[me];simp only[fV,eJ,eK,bG,bB,bH,reduceAdd,reduceSub,eQ,eD,d_,eu,cY,dY,cD,fK,bj,bc,bu,bf,↓ag,br,fJ,fH,e1,fX,fW,jh,ip,bZ,gh,ym,reduceLT,cj,bI,a_,eX,bJ,bS,bF,bz,bD,dh,RX,reduceLeDiff,e_,dW,Dg,kO,ko,e2,lL,e3,i4,uj,e4,e5,pj,e6,fO,gw,gb,gc,rW,gj,fY]
def nG(h:aA)(P:List Pl)(ae:Str)(T pl:Int)(N:Net)(S:List Ct)(Q:List Pl)(a8 a9 a10 a11:ai O):Gm:=
 [some (bV N),some (.Y (bR h)),some (.Y (.lst (P.map aN))),some (fS ae),some (.Y (.int T)),some (.Y (.int pl)),some (.lst ((S.map gr).map .Y)),some (.Y (.lst (Q.map aN))),a8,a9,a10,a11]
section
variable(h:aA)(P:List Pl)(ae:Str)(T pl:Int)
theorem Uu(N:Net)(k:Nat)(s:Sz N k)(hk:k<900000)(S:List Ct)(Q:List Pl)(p:Pl)(a9 a10 a11:ai O):
  Cp (nG h P ae T pl N S Q (some (.Y (aN p))) a9 a10 a11)=some (.nx,nG h P ae T pl (fT N .st (.gi (at' p 0)) pl) S Q (some (.Y (aN p))) a9 a10 a11):=by
 have e1:=F_ p 0;have e2:=GV N k .st (.gi (at' p 0)) pl s hk;rw[show aP .st=.str "the start" from rfl] at e2;unfold Cp nG;simp only[kO,fK,bj,bc,bf,↓ag,cD,bS,bZ,bu,br,fJ,fH,e1,fX,fW,jh,ip,gh,ym,ko,bI,e2,lL]
theorem S2(N:Net)(S:List Ct)(Q:List Pl)(d:D)(a8 a9 a10 a11:ai O):bp 8 d (nG h P ae T pl N S Q a8 a9 a10 a11)=some (nG h P ae T pl N S Q (some (.Y d)) a9 a10 a11):=by
 unfold nG;simp only[fU,bG,bB,bH,reduceAdd,reduceLT,cj,bI,a_]
theorem nm9(N:Net)(S:List Ct)(Q:List Pl)(d:D)(a8 a9 a10 a11:ai O):bp 9 d (nG h P ae T pl N S Q a8 a9 a10 a11)=some (nG h P ae T pl N S Q a8 (some (.Y d)) a10 a11):=by
 unfold nG;simp only[fU,bG,bB,bH,reduceAdd,reduceLT,cj,bI,a_]
theorem L_(N:Net)(S:List Ct)(Q:List Pl)(d:D)(a8 a9 a10 a11:ai O):bp 11 d (nG h P ae T pl N S Q a8 a9 a10 a11)=some (nG h P ae T pl N S Q a8 a9 a10 (some (.Y d))):=by
 unfold nG;simp only[fU,bG,bB,bH,reduceAdd,reduceLT,cj,bI,a_]
def tU(pl:Int)(p:Pl):Nd×Nd×Int:=(.st,.gi (at' p 0),pl)
theorem Uv(N:Net)(k:Nat)(s:Sz N k)(hk:k<800000)(S:List Ct)(Q:List Pl)(ps:List Pl)(hp:ps.length<=100)(a9 a10 a11:ai O):
  ∃b8,fM (bp 8) Cp (ps.map aN) (nG h P ae T pl N S Q none a9 a10 a11)=some (.nx,nG h P ae T pl (ck N (ps.map (tU pl))) S Q b8 a9 a10 a11):=by
 obtain⟨au,e6,b8,rfl⟩:=oP (g:=bp 8) (f:=Cp) aN (λpre Q0=>∃b8:ai O,Q0=nG h P ae T pl (ck N (pre.map (tU pl))) S Q b8 a9 a10 a11) ps []
  (nG h P ae T pl N S Q none a9 a10 a11) ⟨none,rfl⟩ (by
   rintro q x post Q0 eq ⟨b8,rfl⟩;rw[ig];have hq:ps.length=q.length+(post.length+1):=by rw[eq,fu,jL]
   have sq:=xR (q.map (tU pl)) s;rw[bY] at sq;have st:=Uu h P ae T pl _ _ sq (by lia) S Q x a9 a10 a11
   refine⟨nG h P ae T pl (fT (ck N (q.map (tU pl))) .st (.gi (at' x 0)) pl) S Q (some (.Y (aN x))) a9 a10 a11,?_,some (.Y (aN x)),?_⟩
   .rw[S2,Option.bind_some,st]
   .rw[jI,uF,Ou];rfl)
 exact⟨b8,e6⟩
theorem WL(N:Net)(S:List Ct)(Q:List Pl)(ks:List Pl)(hl:ks.length<1000000)(q:Pl)(a8 a9:ai O):
  tN (nG h P ae T pl N S Q a8 a9 (some (.aF (kz lQ ks))) (some (.Y (aN q))))=some (.nx,nG h P ae T pl N S Q a8 a9 (some (.aF (kz lQ (jk ks q)))) (some (.Y (aN q)))):=by
 have e:=Z0 lQ Yy (aN q) q (Ry q) ks hl;unfold tN nG;simp only[rV,bS,↓ag,bc,bu,bf,e,cj,bI]
theorem WM(N:Net)(S:List Ct)(Q:List Pl)(ks gs:List Pl)(hl:ks.length+gs.length<1000000)(a8 a9 a11:ai O):
  ∃lM,fM (bp 11) tN (gs.map aN) (nG h P ae T pl N S Q a8 a9 (some (.aF (kz lQ ks))) a11)=some (.nx,nG h P ae T pl N S Q a8 a9 (some (.aF (kz lQ (dy ks gs)))) lM):=by
 obtain⟨au,e6,lM,rfl⟩:=oP (g:=bp 11) (f:=tN) aN (λpre Q0=>∃lM:ai O,Q0=nG h P ae T pl N S Q a8 a9 (some (.aF (kz lQ (dy ks pre)))) lM) gs []
  (nG h P ae T pl N S Q a8 a9 (some (.aF (kz lQ ks))) a11) ⟨a11,rfl⟩ (by
   rintro q x post Q0 eq ⟨lM,rfl⟩;rw[ig];have hq:gs.length=q.length+(post.length+1):=by rw[eq,fu,jL]
   have hk:=IK (cs:=q) (ks:=ks);have st:=WL h P ae T pl N S Q (dy ks q) (by lia) x a8 a9
   refine⟨nG h P ae T pl N S Q a8 a9 (some (.aF (kz lQ (jk (dy ks q) x)))) (some (.Y (aN x))),?_,some (.Y (aN x)),?_⟩
   .rw[L_,Option.bind_some,st]
   .rw[Ot];rfl)
 exact⟨lM,e6⟩
theorem Z4(p:Pl):dQ (.Y (aN p)) (.int 0)=some (.Y (.str p.1)):=rfl
theorem Z5(p:Pl):dQ (.Y (aN p)) (.int 1)=some (.Y (.int p.2)):=rfl
theorem Vr(p:Pl)(m:Int):D.tup [.str p.1,.int p.2,.int m]=gr (at' p m):=rfl
theorem YC(ok:h_ h)(N:Net)(k:Nat)(s:Sz N k)(hk:k<800000)(S:List Ct)(hS:S.length<1000000)(Q:List Pl)(ks:List Pl)(hl:ks.length<900000)(p:Pl)(v:VP h p)(m:Int)(a11:ai O):
  ∃lM,DV (nG h P ae T pl N S Q (some (.Y (aN p))) (some (.Y (.int m))) (some (.aF (kz lQ ks))) a11)=some (.nx,nG h P ae T pl (ck N (rJ h ae pl p m)) (S++[at' p m]) Q (some (.Y (aN p))) (some (.Y (.int m))) (some (.aF (kz lQ (dy ks (i6 h p))))) lM):=by
 have e1:=Ut h ok ae pl p v m N k s hk;have gl:=FZ ok v;obtain⟨lM,e2⟩:=WM h P ae T pl (ck N (rJ h ae pl p m)) (S++[at' p m]) Q ks (i6 h p) (by lia) (some (.Y (aN p))) (some (.Y (.int m))) a11
 refine⟨lM,?_⟩;generalize ck N (rJ h ae pl p m)=N1 at e1 e2 ⊢;have c1:((S.map gr).length<1000000)=True:=lE (by rw[bY];exact hS)
 unfold nG at e2 ⊢;rw[jI (f:=gr),uF] at e2 ⊢;unfold DV;simp only[cY,kO,nJ,bc,bu,bf,↓ag,bj,cD,eX,bJ,bS,br,bF,bz,bD,dh,Z4,Z5,bG,bB,bH,reduceAdd,reduceLeDiff,e_,dW,a_,jh,ip,bZ,gh,Vr,qe,c1,cj,bI,pj,fK,ko,fJ,fH,e1,lL,fX,fW,e2]
def jq(Q:List Pl)(m:Int):List (Nd×Nd×Int):=Q.flatMap λp=>rJ h ae pl p m
theorem YD(ok:h_ h)(N:Net)(k:Nat)(s:Sz N k)(S:List Ct)(hS:S.length<100000)(Q qs:List Pl)(hv:∀p,p∈qs->VP h p)(hq:qs.length<=150)(hk:k<780000)(m:Int)(a8 a11:ai O):
  ∃b8 lM,fM (bp 8) DV (qs.map aN) (nG h P ae T pl N S Q a8 (some (.Y (.int m))) (some (.aF (kz lQ []))) a11)=some (.nx,nG h P ae T pl (ck N (jq h ae pl qs m)) (S++qs.map (at' · m)) Q b8 (some (.Y (.int m))) (some (.aF (kz lQ (dy [] (qs.flatMap (i6 h)))))) lM)/\(jq h ae pl qs m).length<=33*qs.length/\(qs.flatMap (i6 h)).length<=31*qs.length:=by
 obtain⟨au,e6,b8,lM,rfl,l1,l2⟩:=oP (g:=bp 8) (f:=DV) aN (λpre Q0=>∃b8 lM:ai O,Q0=nG h P ae T pl (ck N (jq h ae pl pre m)) (S++pre.map (at' · m)) Q b8 (some (.Y (.int m))) (some (.aF (kz lQ (dy [] (pre.flatMap (i6 h)))))) lM/\(jq h ae pl pre m).length<=33*pre.length/\(pre.flatMap (i6 h)).length<=31*pre.length) qs []
  (nG h P ae T pl N S Q a8 (some (.Y (.int m))) (some (.aF (kz lQ []))) a11) ⟨a8,a11,by rw[pX,j9];rfl,c7 _,c7 _⟩ (by
   rintro q x post Q0 eq ⟨b8,lM,rfl,l1,l2⟩;rw[ig] at l1 l2 ⊢;have hx:=hv x (by rw[eq];simp)
   have hq2:qs.length=q.length+(post.length+1):=by rw[eq,fu,jL]
   have sq:=xR (jq h ae pl q m) s;have G9:=IK (cs:=q.flatMap (i6 h)) (ks:=[]);rw[uE] at G9;obtain⟨uv,st⟩:=YC h P ae T pl ok _ _ sq (by lia) (S++q.map (at' · m)) (by rw[fu,bY];lia) Q (dy [] (q.flatMap (i6 h))) (by lia) x hx m lM
   have g1:=FZ ok hx;have g2:=Yz ok (ae:=ae) (pl:=pl) (m:=m) hx;have f1:jq h ae pl (q++[x]) m=jq h ae pl q m++rJ h ae pl x m:=by
    unfold jq;rw[List.flatMap_append,List.flatMap_singleton]
   have f2:(q++[x]).flatMap (i6 h)=q.flatMap (i6 h)++i6 h x:=by
    rw[List.flatMap_append,List.flatMap_singleton]
   refine⟨_,by rw[S2,Option.bind_some,st],some (.Y (aN x)),uv,?_,?_,?_⟩
   .rw[f1,f2,Fz,Ot,jI,uF,ie]
   .rw[f1,fu,fu,mJ];lia
   .rw[f2,fu,fu,mJ];lia)
 exact⟨b8,lM,e6,l1,l2⟩
def yJ(Q:List Pl):List Pl:=dy [] (Q.flatMap (i6 h))
theorem LU(ks:List Pl):(kz lQ ks).map (·.1.d)=ks.map aN:=by
 unfold kz;rw[oH];exact HN λp _=>(nF (Ry p)).1
theorem WN(kvs:List (TK×O)):Co [.aF kvs]=some (.lst ((kvs.map (·.1.d)).map .Y)):=rfl
theorem Z8(ok:h_ h)(N:Net)(k:Nat)(s:Sz N k)(S:List Ct)(hS:S.length<100000)(Q:List Pl)(hv:∀p,p∈Q->VP h p)(hq:Q.length<=150)(hk:k<780000)(m:Int)(a8 a10 a11:ai O):
  ∃b8 l_ lM,sT (nG h P ae T pl N S Q a8 (some (.Y (.int m))) a10 a11)=some (.nx,nG h P ae T pl (ck N (jq h ae pl Q m)) (S++Q.map (at' · m)) (yJ h Q) b8 (some (.Y (.int m))) l_ lM)/\(jq h ae pl Q m).length<=33*Q.length:=by
 obtain⟨b8,lM,e,l1,l2⟩:=YD h P ae T pl ok N k s S hS Q Q hv hq hk m a8 a11;refine⟨b8,some (.aF (kz lQ (yJ h Q))),lM,?_,l1⟩;have e2:=LU (yJ h Q);rw[show dy [] (Q.flatMap (i6 h))=yJ h Q from rfl] at e;generalize yJ h Q=Q' at e e2 ⊢;generalize ck N (jq h ae pl Q m)=N1 at e ⊢;rw[show kz lQ []=[] from rfl] at e;unfold nG at e ⊢;unfold sT;simp only[cY,dY,Fo,↓ag,bG,bB,bH,reduceAdd,reduceLT,cj,bI,a_,pj,cD,bc,bu,bf,bZ,e,bJ,bj,br,bF,jJ,ij,bD,WN,e2,i4,uj]
def nw:Nat->List Pl
 |0=>P
 |m+1=>yJ h (nw m)
noncomputable def lR:Nat->List (Nd×Nd×Int)
 |0=>P.map (tU pl)
 |m+1=>lR m++jq h ae pl (nw h P m) (m:Int)
noncomputable def gq:Nat->List Ct
 |0=>[]
 |m+1=>gq m++(nw h P m).map (at' · (m:Int))
end
noncomputable def wg(h:aA):List Pl:=h.aB.flatMap λb=>(List.range b.long.toNat).map λ(i:Nat)=>(b.name,(i:Int))
theorem WO(v:VP h p):p∈wg h:=by
 obtain⟨b,hb,e,c0,c1⟩:=v;unfold wg;rw[MW];refine⟨b,hb,?_⟩;rw[gQ];refine⟨p.2.toNat,rf.mpr (by lia),?_⟩
 obtain⟨n,c⟩:=p;dsimp only at e c0 ⊢;rw[e,Int.toNat_of_nonneg c0]
theorem O5(L:Nat):∀bs:List aR,(∀b∈bs,b.long<=L)->(bs.flatMap λb=>(List.range b.long.toNat).map λ(i:Nat)=>(b.name,(i:Int))).length<=L*bs.length
 |[],_=>pV _
 |b::bs,hb=>by
  have ih:=O5 L bs λb m=>hb b (.tail _ m)
  have h1:=hb b (.head _);rw[List.flatMap_cons,fu,bY,pY,jL,Nat.mul_add];lia
theorem GJ(ok:h_ h){Q:List Pl}(nd:Q.Nodup)(v:∀p,p∈Q->VP h p):Q.length<=30:=by
 obtain⟨L,hL,Sg⟩:=ok.tl;have h1:=vR nd λp m=>WO (v p m)
 have h2:=O5 L h.aB hL;rw[Nat.mul_comm] at h2;exact kH h1 (kH h2 Sg)
theorem GW{h:aA}(ok:h_ h){P:List Pl}(nd:P.Nodup)(v:∀p,p∈P->VP h p):∀m,(nw h P m).Nodup/\∀p,p∈nw h P m->VP h p
 |0=>⟨nd,v⟩
 |m+1=>by
  obtain⟨i1,i2⟩:=GW ok nd v m;refine⟨Nj (by simp),λp hp=>?_⟩
  rcases jP.mp hp with z|z
  .cases z
  .obtain⟨q,hq,z⟩:=MW.mp z;exact Fe ok (i2 q hq) z
theorem WQ{n x:Nat}{q post:List Nat}(e:List.range n=q++x::post):x=q.length:=by
 have h1:(List.range n)[q.length]?=some x:=by rw[e];simp
 rw[MS] at h1
 .injection h1 with h1;exact h1.symm
 .have:=congrArg List.length e;rw[pY,fu,jL] at this;lia
theorem WR(ok:h_ h)(nd:P.Nodup)(v:∀p,p∈P->VP h p)(ae:Str)(T pl:Int)(n:Nat)(hn:n<=185)(hP:P.length<=20)(b8:ai O)(s0:Sz (ck [(.st,[])] (P.map (tU pl))) 1000):
  ∃c8 c9 wc uv,fM (bp 9) sT (hX 0 n) (nG h P ae T pl (ck [(.st,[])] (lR h P ae pl 0)) [] P b8 none none none)=some (.nx,nG h P ae T pl (ck [(.st,[])] (lR h P ae pl n)) (gq h P n) (nw h P n) c8 c9 wc uv)/\Sz (ck [(.st,[])] (lR h P ae pl n)) (1000+4000*n):=by
 rw[xI];obtain⟨au,e6,c8,c9,wc,uv,rfl,sz,sl⟩:=oP (g:=bp 9) (f:=sT) (λ(k:Nat)=>D.int (0+(k:Int))) (λpre Q0=>∃c8 c9 wc uv:ai O,Q0=nG h P ae T pl (ck [(.st,[])] (lR h P ae pl pre.length)) (gq h P pre.length) (nw h P pre.length) c8 c9 wc uv/\Sz (ck [(.st,[])] (lR h P ae pl pre.length)) (1000+4000*pre.length)/\(gq h P pre.length).length<=200*pre.length) (List.range n) []
  (nG h P ae T pl (ck [(.st,[])] (lR h P ae pl 0)) [] P b8 none none none) ⟨b8,none,none,none,rfl,s0,c7 _⟩ (by
   rintro q x post Q0 eq ⟨c8,c9,wc,uv,rfl,sz,sl⟩;rw[ig] at sz sl ⊢;have hx:=WQ eq;subst hx;have hq2:n=q.length+(post.length+1):=by
    have:=congrArg List.length eq;rw[pY,fu,jL] at this;exact this
   rw[fu,mJ];obtain⟨o1,o2⟩:=GW ok nd v q.length;have hl:=GJ ok o1 o2;rw[Int.zero_add];have ee:lR h P ae pl (q.length+1)=lR h P ae pl q.length++jq h ae pl (nw h P q.length) (q.length:Int):=rfl;have es:gq h P (q.length+1)=gq h P q.length++(nw h P q.length).map (at' · (q.length:Int)):=rfl
   have en:nw h P (q.length+1)=yJ h (nw h P q.length):=rfl;rw[ee,es,en,Fz];generalize(q.length:Int)=mi at *;obtain⟨d8,Ag,Ah,st,lm⟩:=Z8 h P ae T pl ok _ _ sz (gq h P q.length) (by lia) (nw h P q.length) o2 (by lia) (by lia) mi c8 wc uv
   refine⟨_,by rw[nm9,Option.bind_some,st],_,_,_,_,rfl,(xR _ sz).mono (by lia),?_⟩
   rw[fu,bY];lia)
 rw[ig,pY] at *;exact⟨c8,c9,wc,uv,e6,sz⟩
theorem Vw(ok:h_ h)(nd:P.Nodup)(v:∀p,p∈P->VP h p)(ae:Str)(T pl:Int)(n:Nat)(hT:T=n)(hn:n<=185)(hP:P.length<=20)(iW:(P.length:Int)+1=pl):
  E_ [bV [(.st,[])],.Y (bR h),.Y (.lst (P.map aN)),.Y (.str ae),.Y (.int T)]=some (.lst (((gq h P n).map gr).map .Y),[some (bV (ck [(.st,[])] (lR h P ae pl n))),none,none,none,none])/\Sz (ck [(.st,[])] (lR h P ae pl n)) 780000:=by
 have S7:Sz [(Nd.st,([]:qE))] 0:=⟨c7 _,λv i e=>by
  rw[lH] at e;split at e
  .cases e;exact c7 _
  .cases e⟩
 obtain⟨b8,e1⟩:=Uv h P ae T pl [(.st,[])] 0 S7 (by lia) [] P P (by lia) none none none
 have s0:=(xR (P.map (tU pl)) S7).mono (j:=1000) (by rw[bY];lia)
 obtain⟨c8,c9,wc,uv,e2,sz⟩:=WR ok nd v ae T pl n hn hP b8 s0;refine⟨?_,sz.mono (by lia)⟩
 have sM:((P.map aN).length:Int)+1=pl:=by rw[bY];exact iW
 have hi:jR [.own (.Y (.int T))]=some T:=BW (by lia)
 have ht:T.toNat=n:=by rw[hT];rfl
 rw[show lR h P ae pl 0=P.map (tU pl) from rfl] at e2;generalize ck [(.st,[])] (P.map (tU pl))=N1 at e1 e2;generalize ck [(.st,[])] (lR h P ae pl n)=N2 at e2 ⊢;generalize gq h P n=S at e2 ⊢;generalize nw h P n=Q2 at e2;unfold nG at e1 e2;rw[show([]:List Ct).map gr=[] from rfl,show([]:List D).map O.Y=[] from rfl] at e1 e2;unfold E_;unfold IG;simp only[fV,eJ,eK,bG,bB,bH,reduceAdd,reduceSub,eQ,eD,d_,eu,cY,dY,cD,bJ,bj,bc,bu,bf,↓ag,br,bF,bz,bD,xZ,bZ,zL,↓evMap,bS,iR,sM,reduceLT,cj,bI,a_,eX,reduceLeDiff,dW,pj,e1,Kx,hi,ht,e2,fO,qN,gw,gb,gc,rW,gj,fY]
inductive iZ (h:aA) (P:List Pl) (ae:Str) (n:Nat):Nd->Nd->Bool->Prop
 |s {p:Pl}:p∈P->iZ h P ae n .st (.gi (at' p 0)) false
 |g {m:Nat} {p:Pl}:m<n->p∈nw h P m->iZ h P ae n (.gi (at' p m)) (.go (at' p m)) true
 |e {m:Nat} {p:Pl}:m<n->p∈nw h P m->eT (.inl ae) (jE h p)=true->iZ h P ae n (.go (at' p m)) .en false
 |w {m:Nat} {p q:Pl}:m<n->p∈nw h P m->q∈i6 h p->iZ h P ae n (.go (at' p m)) (.gi (at' q (m+1))) false
def cp(pl:Int)(b:Bool):Int:=if b=true then 1 else pl
theorem Qo{h:aA}{P:List Pl}{ae:Str}{pl:Int}{e:Nd×Nd×Int}:∀{n:Nat},e∈lR h P ae pl n↔e∈P.map (tU pl)\/∃m,m<n/\∃p∈nw h P m,e∈rJ h ae pl p m
 |0=>⟨.inl,λz=>z.elim id λ⟨m,hm,_⟩=>b_ hm (EI _)⟩
 |n+1=>by
  show e∈lR h P ae pl n++jq h ae pl (nw h P n) (n:Int)↔_;rw[eR,Qo,or_assoc];unfold jq;rw[MW];constructor
  .rintro(z|⟨m,hm,z⟩|⟨p,hp,z⟩)
   .exact .inl z
   .exact .inr ⟨m,by lia,z⟩
   .exact .inr ⟨n,by lia,p,hp,z⟩
  .rintro(z|⟨m,hm,p,hp,z⟩)
   .exact .inl z
   .by_cases c:m=n
    .subst c;exact .inr (.inr ⟨p,hp,z⟩)
    .exact .inr (.inl ⟨m,by lia,p,hp,z⟩)
theorem fz{n:Nat}:(v,w,r)∈lR h P ae pl n↔∃b,iZ h P ae n v w b/\r=cp pl b:=by
 rw[Qo];constructor
 .rintro(z|⟨m,hm,p,hp,z⟩)
  .obtain⟨p,hp,e⟩:=gQ.mp z;unfold tU at e;cases e;exact⟨false,.s hp,rfl⟩
  .unfold rJ at z;rcases dR.mp z with z|z
   .cases z;exact⟨true,.g hm hp,rfl⟩
   .rcases eR.mp z with z|z
    .split at z
     .rename_i c
      rw[iz] at z;cases z;exact⟨false,.e hm hp c,rfl⟩
     .cases z
    .obtain⟨q,hq,e⟩:=gQ.mp z;cases e;exact⟨false,.w hm hp hq,rfl⟩
 .rintro⟨b,e,rfl⟩;cases e with
  |@s p hp=>exact .inl (gQ.mpr ⟨p,hp,rfl⟩)
  |@g m p hm hp=>exact .inr ⟨m,hm,p,hp,.head _⟩
  |@e m p hm hp c=>exact .inr ⟨m,hm,p,hp,by
    unfold rJ;refine .tail _ (eR.mpr (.inl ?_));rw[aT c];exact .head _⟩
  |@w m p q hm hp hq=>exact .inr ⟨m,hm,p,hp,.tail _ (eR.mpr (.inr (gQ.mpr ⟨q,hq,rfl⟩)))⟩
theorem rC{k:Int}(e:at' p m=at' q k):p=q/\m=k:=by
 obtain⟨a,b⟩:=p;obtain⟨c,d⟩:=q;unfold at' at e;injection e with e1 e;injection e with e2 e3;dsimp only at e1 e2;rw[e1,e2];exact⟨rfl,e3⟩
section
variable{h:aA}{P:List Pl}{ae:Str}{n:Nat}
theorem Rz{b:Bool}(e:iZ h P ae n v w b):v≠w:=by cases e <;> exact λz=>by cases z
def Dz:Nd->Bool
 |.gi _=>true
 |_=>false
theorem KW{b:Bool}(e:iZ h P ae n v w b):b=Dz v:=by cases e <;> rfl
theorem YE{b:Bool}(e:iZ h P ae n v w b)(e':iZ h P ae n v w b'):b=b':=(KW e).trans (KW e').symm
theorem FA{b:Bool}(e:iZ h P ae n v w b)(e':iZ h P ae n w v b'):False:=by
 generalize hx:v=x at e';generalize hy:w=y at e';cases e with
 |s _=>cases e' <;> cases hx <;> cases hy
 |@g m p _ _=>
  cases e' with
  |@w m2 p2 q2 _ _ _=>
   injection hx with hx;injection hy with hy;have h1:=(rC hx).2;have h2:=(rC hy).2;lia
  |_=>first|cases hx|cases hy
 |e _ _ _=>cases e' <;> first|cases hx|cases hy
 |@w m p q _ _ _=>
  cases e' with
  |@g m2 p2 _ _=>
   injection hx with hx;injection hy with hy;have h1:=(rC hx).2;have h2:=(rC hy).2;lia
  |_=>first|cases hx|cases hy
end
theorem Ov{h:aA}{P:List Pl}{ae:Str}{n:Nat}{pl:Int}:∀(L' L:List (Nd×Nd×Int)) (N:Net),Laid N L->(∀v w r,(v,w,r)∈L++L'->∃b,iZ h P ae n v w b/\r=cp pl b)->Laid (ck N L') (L++L')
 |[],L,N,l,_=>by rw[j9];exact l
 |(a,b,r)::L',L,N,l,hs=>by
  have e:L++(a,b,r)::L'=(L++[(a,b,r)])++L':=by rw[ie];rfl
  rw[e] at hs ⊢;obtain⟨t,et,rt⟩:=hs a b r (eR.mpr (.inl (eR.mpr (.inr (.head _)))));refine Ov L' (L++[(a,b,r)]) (fT N a b r) (l.lay (Rz et) (λr' m=>?_) λr' m=>?_) hs
  .obtain⟨t',K5,S6⟩:=hs a b r' (eR.mpr (.inl (eR.mpr (.inl m))));rw[rt,S6,YE et K5]
  .obtain⟨t',K5,S6⟩:=hs b a r' (eR.mpr (.inl (eR.mpr (.inl m))));exact FA et K5
structure Nt (h:aA) (P:List Pl) (ae:Str) (n:Nat) (pl:Int) (N:Net):Prop where
 ok:nt N
 ar:∀v w,kr N v w↔(∃b,iZ h P ae n v w b)\/∃b,iZ h P ae n w v b
 rm:∀v w b,iZ h P ae n v w b->rr N v w=cp pl b
 rz:∀v w,(∀b,¬iZ h P ae n v w b)->rr N v w=0
 ky:∀v,v∈N.map (·.1)↔v=.st\/∃w b,iZ h P ae n v w b\/iZ h P ae n w v b
theorem e7m{n:Nat}(s:Sz (ck [(.st,[])] (lR h P ae pl n)) 780000):Nt h P ae n pl (ck [(.st,[])] (lR h P ae pl n)):=by
 have l:=Ov (h:=h) (P:=P) (ae:=ae) (n:=n) (pl:=pl) (lR h P ae pl n) [] [(.st,[])] DD λv w r m=>fz.mp (by simpa using m)
 rw[ig] at l;generalize ck [(.st,[])] (lR h P ae pl n)=N at *;have ar:∀v w,kr N v w↔(∃b,iZ h P ae n v w b)\/∃b,iZ h P ae n w v b:=λv w=>by
  rw[l.ar];constructor
  .rintro(⟨r,z⟩|⟨r,z⟩)
   .obtain⟨b,e,_⟩:=fz.mp z;exact .inl ⟨b,e⟩
   .obtain⟨b,e,_⟩:=fz.mp z;exact .inr ⟨b,e⟩
  .rintro(⟨b,e⟩|⟨b,e⟩)
   .exact .inl ⟨_,fz.mpr ⟨b,e,rfl⟩⟩
   .exact .inr ⟨_,fz.mpr ⟨b,e,rfl⟩⟩
 have ky:∀v,v∈N.map (·.1)↔v=.st\/∃w b,iZ h P ae n v w b\/iZ h P ae n w v b:=λv=>by
  rw[l.ky];constructor
  .rintro(z|⟨w,r,z|z⟩)
   .exact .inl z
   .obtain⟨b,e,_⟩:=fz.mp z;exact .inr ⟨w,b,.inl e⟩
   .obtain⟨b,e,_⟩:=fz.mp z;exact .inr ⟨w,b,.inr e⟩
  .rintro(z|⟨w,b,z|z⟩)
   .exact .inl z
   .exact .inr ⟨w,_,.inl (fz.mpr ⟨b,z,rfl⟩)⟩
   .exact .inr ⟨w,_,.inr (fz.mpr ⟨b,z,rfl⟩)⟩
 refine⟨⟨λv w z=>?_,(ky _).mpr (.inl rfl),l.nd,l.ni,by have:=s.l;lia,λv i e=>by have:=s.i v i e;lia⟩,ar,λv w b e=>l.rm v w _ (fz.mpr ⟨b,e,rfl⟩),λv w z=>l.rz v w λr m=>?_,ky⟩
 .rw[ar] at z ⊢;exact z.symm
 .obtain⟨b,e,_⟩:=fz.mp m;exact z b e
def VV(N:Net):List Nd:=(iV N .en).map (·.1)
section
variable{h:aA}{P:List Pl}{ae:Str}{n:Nat}{pl:Int}{N:Net}
theorem Nt.off(t:Nt h P ae n pl N)(z:v∉VV N\/w∉VV N):∀b,¬iZ h P ae n v w b:=by
 intro b e;rcases z with z|z
 .exact z ((oR ..).mpr (.inl ((t.ky v).mpr (.inr ⟨w,b,.inl e⟩))))
 .exact z ((oR ..).mpr (.inl ((t.ky w).mpr (.inr ⟨v,b,.inr e⟩))))
theorem Nt.nn(t:Nt h P ae n pl N)(hp:0<=pl)(v w:Nd):0<=rr N v w:=by
 by_cases c:∃b,iZ h P ae n v w b
 .obtain⟨b,e⟩:=c;rw[t.rm v w b e];unfold cp;split <;> lia
 .rw[t.rz v w λb e=>c ⟨b,e⟩];exact vK 0
theorem Nt.flo(t:Nt h P ae n pl N)(hp:0<=pl):jY (VV N) .st .en (rr N) (rr N) where
 nn:=t.nn hp
 an v b:=by lia
 cs v m h1 h2:=zN λb _=>by lia
 sp v b z:=⟨t.rz v b (t.off z),t.rz v b (t.off z)⟩
 ns:=λz=>by cases z
 ms:=(oR ..).mpr (.inl t.ok.st)
 mt:=(oR ..).mpr (.inr rfl)
 nd:=Km _ t.ok.nd
theorem wa{f g:Nd->Int}:∀{l:List Nd},(∀v,v∈l->f v<=g v)->sm f l<=sm g l
 |[],_=>vK 0
 |v::l,h=>by
  have h1:=h v (.head _);have h2:=wa λv m=>h v (.tail _ m)
  show f v+sm f l<=g v+sm g l;lia
variable{r:Nd->Nd->Int}
theorem Nt.pos(t:Nt h P ae n pl N)(F:jY (VV N) .st .en (rr N) r)(z:0<rr N v w - r v w):∃b,iZ h P ae n v w b:=by
 refine p8 λc=>?_
 have e:=t.rz v w λb e=>c ⟨b,e⟩
 have:=F.nn v w;lia
theorem GK{b:Bool}(e:iZ h P ae n (.gi c) w b):w=.go c/\b=true/\∃m p,m<n/\p∈nw h P m/\c=at' p m:=by
 generalize hx:Nd.gi c=x at e;cases e with
 |@g m p hm hp=>injection hx with hx;subst hx;exact⟨rfl,rfl,m,p,hm,hp,rfl⟩
 |_=>cases hx
theorem Nt.y6(t:Nt h P ae n pl N)(F:jY (VV N) .st .en (rr N) r){u:Nd}(z:0<rr N u (.gi c) - r u (.gi c)):rr N u (.gi c) - r u (.gi c)<=rr N (.gi c) (.go c) - r (.gi c) (.go c)/\rr N (.gi c) (.go c) - r (.gi c) (.go c)=1/\r (.gi c) (.go c)=0/\∃m p,m<n/\p∈nw h P m/\c=at' p m:=by
 obtain⟨b,e⟩:=t.pos F z;have hu:u∈VV N:=(oR ..).mpr (.inl ((t.ky u).mpr (.inr ⟨_,b,.inl e⟩)));have hc:Nd.gi c∈VV N:=(oR ..).mpr (.inl ((t.ky _).mpr (.inr ⟨_,b,.inr e⟩)));have cs:=F.cs (.gi c) hc (λz=>by cases z) (λz=>by cases z)
 have ug:u≠.go c:=λq=>by
  rw[q] at e;have hx:=Rz e;generalize hx:Nd.go c=x at e;generalize hy:Nd.gi c=y at e;cases e with
  |@w m p q _ _ _=>
   injection hx with hx;injection hy with hy;have:=(rC (hx.symm.trans hy)).2;lia
  |_=>first|(cases hy;done)|(cases hx;done)
 have an:=F.an u (.gi c);have key:sm (λb=>rr N (.gi c) b - r (.gi c) b) (VV N)<=sm (λb=>(if b=.go c then rr N (.gi c) (.go c) - r (.gi c) (.go c) else 0)+(if b=u then rr N (.gi c) u - r (.gi c) u else 0)) (VV N):=wa λb _=>by
  by_cases c1:b=.go c
  .rw[aT c1,aW (λq=>ug (q.symm.trans c1)),c1];lia
  .rw[aW c1];by_cases c2:b=u
   .rw[aT c2,c2];lia
   .rw[aW c2];refine Int.not_lt.mp λq=>?_
    obtain⟨b',e'⟩:=t.pos F (v:=.gi c) (w:=b) (by lia)
    exact c1 (GK e').1
 rw[cs,ya,t8 _ F.nd,t8 _ F.nd,aT hu] at key;by_cases m:Nd.go c∈VV N
 .rw[aT m] at key;obtain⟨b',e'⟩:=t.pos F (v:=.gi c) (w:=.go c) (by lia)
  obtain⟨_,rfl,mp⟩:=GK e';have h1:=t.rm _ _ _ e';have h2:=F.nn (.gi c) (.go c);have h3:cp pl true=1:=rfl;exact⟨by lia,by lia,by lia,mp⟩
 .rw[aW m] at key;lia
theorem Nt.on(t:Nt h P ae n pl N)(F:jY (VV N) .st .en (rr N) r)(z:0<rr N (.gi c) (.go c) - r (.gi c) (.go c)):∃w,0<rr N (.go c) w - r (.go c) w:=by
 obtain⟨b,e⟩:=t.pos F z;have hc:Nd.go c∈VV N:=(oR ..).mpr (.inl ((t.ky _).mpr (.inr ⟨_,b,.inr e⟩)));have hg:Nd.gi c∈VV N:=(oR ..).mpr (.inl ((t.ky _).mpr (.inr ⟨_,b,.inl e⟩)));have cs:=F.cs (.go c) hc (λz=>by cases z) (λz=>by cases z)
 refine p8 λq=>?_
 have an:=F.an (.gi c) (.go c);have key:sm (λb=>rr N (.go c) b - r (.go c) b) (VV N)<=sm (λb=>if b=.gi c then rr N (.go c) (.gi c) - r (.go c) (.gi c) else 0) (VV N):=wa λb _=>by
  by_cases c1:b=.gi c
  .rw[aT c1,c1];exact vK _
  .rw[aW c1];exact Int.not_lt.mp λy=>q ⟨b,y⟩
 rw[cs,t8 _ F.nd,aT hg] at key;lia
theorem Nt.from(t:Nt h P ae n pl N)(F:jY (VV N) .st .en (rr N) r)(w:Nd):0<=rr N .st w - r .st w:=by
 refine Int.not_lt.mp λq=>?_
 have an:=F.an .st w;obtain⟨b,e⟩:=t.pos F (v:=w) (w:=.st) (by lia)
 generalize hx:Nd.st=x at e;cases e <;> cases hx
theorem Z9{b:Bool}(e:iZ h P ae n .st w b):∃p∈P,w=.gi (at' p 0):=by
 generalize hx:Nd.st=x at e;cases e with
 |@s p hp=>exact⟨p,hp,rfl⟩
 |_=>cases hx
theorem RA{g:Nd->Int}:∀{W V:List Nd},W.Nodup->V.Nodup->(∀v,v∈W->v∈V)->(∀v,v∈V->v∉W->g v=0)->sm g V=sm g W
 |[],V,_,_,_,hz=>zN λv m=>hz v m (by simp)
 |x::W,V,nW,nV,hs,hz=>by
  rw[jr] at nW;have e:=Fx g (λv=>decide (v=x)) V
  have e1:sm g (V.filter λv=>decide (v=x))=g x:=by
   have a:sm g (V.filter λv=>decide (v=x))=sm (λv=>if v=x then g x else 0) (V.filter λv=>decide (v=x)):=rR λv m=>by
    have:=(kG.mp m).2;rw[decide_eq_true_eq] at this;rw[aT this,this]
   rw[a,t8 _ (nV.filter _),aT (kG.mpr ⟨hs x (.head _),jt rfl⟩)]
  have e2:=RA (g:=g) (W:=W) (V:=V.filter λv => !decide (v=x)) nW.2 (nV.filter _) (λv m=>kG.mpr ⟨hs v (.tail _ m),by
   have:v≠x:=λq=>nW.1 (by rw[<-q];exact m)
   simp[this]⟩) (λv m hv=>by
   obtain⟨m1,m2⟩:=kG.mp m;have:v≠x:=by simpa using m2
   exact hz v m1 λq=>by
    rcases dR.mp q with q|q
    .exact this q
    .exact hv q)
  show sm g V=g x+sm g W;lia
def used(N:Net)(r:Nd->Nd->Int)(p:Pl):Bool:=decide (0<rr N .st (.gi (at' p 0)) - r .st (.gi (at' p 0)))
theorem Kq{α:Type}(f:α->Nd)(g:Nd->Int)(q:α->Bool):∀l:List α,(∀a,a∈l->g (f a)=if q a=true then 1 else 0)->sm g (l.map f)=((l.filter q).length:Int)
 |[],_=>rfl
 |a::l,hg=>by
  have ih:=Kq f g q l λa m=>hg a (.tail _ m)
  have h1:=hg a (.head _);show g (f a)+sm g (l.map f)=_;rw[ih,h1,Bl];cases q a with
  |true=>
   show(1:Int)+_=((a::l.filter q).length:Int);rw[jL];lia
  |false=>
   show(0:Int)+_=_;rw[Int.zero_add];rfl
theorem Nt.value(t:Nt h P ae n pl N)(nd:P.Nodup)(F:jY (VV N) .st .en (rr N) r):ex (VV N) (rr N) r .st=((P.filter (used N r)).length:Int):=by
 unfold ex;have wG:∀v,v∈P.map (λp=>Nd.gi (at' p 0))->v∈VV N:=λv m=>by
  obtain⟨p,hp,rfl⟩:=gQ.mp m;exact(oR ..).mpr (.inl ((t.ky _).mpr (.inr ⟨_,_,.inr (.s hp)⟩)))
 have hnd:(P.map λp=>Nd.gi (at' p 0)).Nodup:=List.Pairwise.map _ (λa b kf e=>kf (by injection e with e;exact(rC e).1)) nd
 rw[RA hnd F.nd wG λv _ hv=>?_]
 .refine Kq _ _ _ P λp hp=>?_
  have h0:=t.from F (.gi (at' p 0));unfold used;by_cases c:0<rr N .st (.gi (at' p 0)) - r .st (.gi (at' p 0))
  .rw[jt c,aT rfl];obtain⟨k1,k2,_⟩:=t.y6 F c;lia
  .rw[jc c,aW (by simp)]
   lia
 .have h0:=t.from F v;refine p8 λq=>?_
  obtain⟨b,e⟩:=t.pos F (v:=.st) (w:=v) (by lia)
  obtain⟨p,hp,rfl⟩:=Z9 e;exact hv (gQ.mpr ⟨p,hp,rfl⟩)
theorem Nt.most(t:Nt h P ae n pl N)(nd:P.Nodup)(F:jY (VV N) .st .en (rr N) r):ex (VV N) (rr N) r .st<=(P.length:Int):=by
 rw[t.value nd F];have:=List.length_filter_le (used N r) P;lia
end
def Hy:GT:=gT (gB wR (gB bM (gB bM (af 2) (af 0)) (af 1)) (gC (.int 0)))
theorem YF{j:qE}{x:Int}{a:ai O}(e1:lk N w=some j)(e2:lk j b=some x):
  rP (bp 0) Hy (af 0) (aP w) [a,some (.Y (aP b)),some (.Y (dg N))]=some (if decide (0<rr N w b)=true then some (.own (.Y (aP w))) else none,[some (.Y (aP w)),some (.Y (aP b)),some (.Y (dg N))]):=by
 have f1:=yb e1;have f2:=CH e2;rw[Ae e1,e2];show _=some (if decide (0<x)=true then _ else _,_)
 unfold rP Hy;cases c:decide (0<x) with
 |true=>simp only[fU,bG,bB,bH,reduceAdd,reduceLT,bI,a_,↓ag,de,bJ,bj,bc,bu,bf,br,bF,bz,bD,dh,f1,f2,bS,i3,c]
 |false=>simp only[fU,bG,bB,bH,reduceAdd,reduceLT,bI,a_,↓ag,de,bJ,bj,bc,bu,bf,br,bF,bz,bD,dh,f1,f2,bS,i3,c,dU,cX]
theorem YG(ok:nt N)(hw:∃w,kr N b w/\0<rr N w b):∃w,kr N b w/\0<rr N w b/\xO [.Y (dg N),.Y (aP b)]=some (.Y (aP w),[none,none]):=by
 obtain⟨w0,⟨i,ei,n0,en0⟩,hp0⟩:=hw;have il:=ok.il b i ei;obtain⟨au,⟨a,rfl⟩,e⟩:=xG (g:=bp 0) (ct:=Hy) (ce:=af 0) (λQ0=>∃a,Q0=[a,some (.Y (aP b)),some (.Y (dg N))]) (λe:Nd×Int=>aP e.1) (λe=>decide (0<rr N e.1 b)) (λe=>aP e.1) i [] [none,some (.Y (aP b)),some (.Y (dg N))] ⟨_,rfl⟩ (by rw[uE];lia) (by
  rintro⟨w,x⟩ hx Q0 ⟨a,rfl⟩;obtain⟨j,ej,y,ey⟩:=ok.sy b w ⟨i,ei,x,KS (ok.ni b i ei) hx⟩;exact⟨_,YF ej ey,_,rfl⟩)
 rw[ig,show([]:List D).map O.Y=[] from rfl] at e;have f1:=yb ei;have f2:(pI i).map (·.1.d)=i.map λe=>aP e.1:=by
  unfold pI;rw[O2];exact HN λe _=>KQ e.1
 have me:JM=aU (av 2 (ax (kq (tT (gB bM (af 0) (af 1))) (bp 0) Hy (af 0) 1 [1,0]))) (ba (gB bM (af 2) (gC (.int 0)))):=rfl;cases q:i.filter λe=>decide (0<rr N e.1 b) with
 |nil=>
  have:(w0,n0)∈i.filter λe=>decide (0<rr N e.1 b):=kG.mpr ⟨KU en0,jt hp0⟩
  rw[q] at this;cases this
 |cons x xs=>
  obtain⟨w,y⟩:=x;have hm:(w,y)∈i.filter λe=>decide (0<rr N e.1 b):=by rw[q];exact .head _
  obtain⟨m1,m2⟩:=kG.mp hm;refine⟨w,⟨i,ei,y,KS (ok.ni b i ei) m1⟩,by simpa using m2,?_⟩
  rw[q,c_] at e;unfold xO;rw[me];simp only[fV,eJ,eK,bG,bB,bH,reduceAdd,reduceSub,eQ,eD,d_,eu,cY,dY,cD,nH,X6,bJ,bj,bc,bf,↓ag,bu,br,bF,bz,bD,dh,f1,bZ,f2,qJ,ij,cj,bI,oM,e,p5,oF,qK,oO,a_,i4,ip,uj,reduceLT,fO,bS,pk,ng,↓evMap,gw,gb,gc,gj,fY]
inductive y_ (N:Net) (r:Nd->Nd->Int):Ct->List Pl->Prop
 |last {c:Ct}:0<rr N (.go c) .en - r (.go c) .en->y_ N r c [(c.1,c.2.1)]
 |step {c d:Ct} {t:List Pl}:0<rr N (.go c) (.gi d) - r (.go c) (.gi d)->y_ N r d t->y_ N r c ((c.1,c.2.1)::t)
theorem Z_{n:Nat}{b:Bool}(e:iZ h P ae n (.go c) w b):∃m p,m<n/\p∈nw h P m/\c=at' p m/\(w=.en/\eT (.inl ae) (jE h p)=true\/∃q∈i6 h p,w=.gi (at' q (m+1))):=by
 generalize hx:Nd.go c=x at e;cases e with
 |@e m p hm hp z=>injection hx with hx;exact⟨m,p,hm,hp,hx,.inl ⟨rfl,z⟩⟩
 |@w m p q hm hp hq=>injection hx with hx;exact⟨m,p,hm,hp,hx,.inr ⟨q,hq,rfl⟩⟩
 |_=>cases hx
theorem WS{n:Nat}(t:Nt h P ae n pl N)(F:jY (VV N) .st .en (rr N) (rr N'))(hs:iY N'=iY N)(z:0<rr N (.gi c) (.go c) - rr N' (.gi c) (.go c)):
  ∃w,0<rr N (.go c) w - rr N' (.go c) w/\xO [.Y (dg N'),.Y (aP (.go c))]=some (.Y (aP w),[none,none]):=by
 have ha:∀v w,kr N' v w↔kr N v w:=λv w=>by rw[ub,ub,hs]
 obtain⟨w0,h0⟩:=t.on F z;obtain⟨b0,e0⟩:=t.pos F h0;have an0:=F.an (.go c) w0;have z0:=t.rz w0 (.go c) λb e=>FA e0 e
 obtain⟨w,a1,a2,a3⟩:=YG (t.ok.same hs) (b:=.go c) ⟨w0,(ha ..).mpr ((t.ar ..).mpr (.inl ⟨b0,e0⟩)),by lia⟩
 refine⟨w,?_,a3⟩;rcases(t.ar ..).mp ((ha ..).mp a1) with⟨b,e⟩|⟨b,e⟩
 .have z1:=t.rz w (.go c) λb e'=>FA e e'
  have an:=F.an (.go c) w;lia
 .
  have hw:w=.gi c:=by
   generalize hx:Nd.go c=x at e;cases e with
   |g _ _=>injection hx with hx;rw[hx]
   |_=>cases hx
  subst hw;have h1:=t.rm _ _ _ e;have hb:=KW e;subst hb;have h2:cp pl (Dz (.gi c))=1:=rfl;lia
def wy:GT:=gT (gB iw (af 4) (gC (.str "the end")))
def wx:GS:=aU (av 5 (gB bM (af 4) (gC (.int 0))))
 (aU (kb (ir oS (af 3) (aq (ax (aY .tup (aq (gB bM (af 5) (gC (.int 0))) (aq (gB bM (af 5) (gC (.int 1))) gN)))) gN))) (av 4 (ax (aJ xO (aq (af 0) (aq (ax (aY .tup (aq (af 5) (aq (gC (.str "out of")) gN)))) gN))))))
def mf(N:Net)(a1:ai O)(ae:Str)(t:List Pl)(g:Nd)(a5:ai O):Gm:=[some (.Y (dg N)),a1,some (fS ae),some (.lst ((t.map aN).map .Y)),some (.Y (aP g)),a5]
theorem RY(n:Nat)(c:Ct):cO (n+1) (gr c)=true:=by
 show([D.str c.1,.int c.2.1,.int c.2.2]:List D).all (cO n)=true;simp only[tY,EH,qb,oV,Br]
theorem e7n(n:Nat)(v:Nd):cO (n+2) (aP v)=true:=by
 cases v with
 |st=>exact qb ..
 |en=>exact qb ..
 |gi c=>
  show([gr c,D.str "into"]:List D).all (cO (n+1))=true;simp only[tY,EH,qb,RY,Br]
 |go c=>
  show([gr c,D.str "out of"]:List D).all (cO (n+1))=true;simp only[tY,EH,qb,RY,Br]
theorem e7o(c:Ct):iw [.Y (aP (.gi c)),.Y (.str "the end")]=some (.Y (.bl true)):=by
 rw[Cf,bZ,bZ,aT ⟨e7n 38 _,qb ..⟩];show some (O.Y (.bl (!bx (.tup _) (.str _))))=_;unfold bx;rfl
theorem e7p:iw [.Y (aP .en),.Y (.str "the end")]=some (.Y (.bl false)):=by
 show iw [.Y (.str "the end"),.Y (.str "the end")]=_;rw[Zs,rj];rfl
theorem e7q(N:Net)(a1:ai O)(ae:Str)(t:List Pl)(c:Ct)(a5:ai O):wy (mf N a1 ae t (.gi c) a5)=some (true,mf N a1 ae t (.gi c) a5):=by
 have f:=e7o c;unfold wy mf;simp only[de,bJ,bj,bc,bu,bf,↓ag,bS,br,bF,bz,bD,f]
theorem e7r(N:Net)(a1:ai O)(ae:Str)(t:List Pl)(a5:ai O):wy (mf N a1 ae t .en a5)=some (false,mf N a1 ae t .en a5):=by
 have f:=e7p;unfold wy mf;simp only[de,bJ,bj,bc,bu,bf,↓ag,bS,br,bF,bz,bD,f]
theorem Γ(c:Ct):dQ (.Y (gr c)) (.int 0)=some (.Y (.str c.1)):=rfl
theorem Δ(c:Ct):dQ (.Y (gr c)) (.int 1)=some (.Y (.int c.2.1)):=rfl
theorem plF(c:Ct):D.tup [.str c.1,.int c.2.1]=aN (c.1,c.2.1):=rfl
theorem YH(N:Net)(a1:ai O)(ae:Str)(t:List Pl)(ht:t.length<1000)(c:Ct)(w:Nd)(a5:ai O)(e:xO [.Y (dg N),.Y (aP (.go c))]=some (.Y (aP w),[none,none])):
  wx (mf N a1 ae t (.gi c) a5)=some (.nx,mf N a1 ae (t++[(c.1,c.2.1)]) w (some (.Y (gr c)))):=by
 have c1:((t.map aN).length<1000000)=True:=lE (by rw[bY];lia)
 unfold wx mf;rw[jI (f:=aN),uF];simp only[cY,dY,bJ,bj,bc,bu,bf,↓ag,bS,br,bF,bz,bD,dh,RX,bG,bB,bH,reduceAdd,reduceLT,cj,bI,a_,kO,nJ,cD,eX,Γ,Δ,reduceLeDiff,e_,dW,jh,ip,bZ,gh,plF,qe,c1,fK,Dg,fJ,fH,e,fX,fW]
theorem Qp{h:aA}{P:List Pl}{ae:Str}{n:Nat}{pl:Int}{N N':Net}(t:Nt h P ae n pl N)(F:jY (VV N) .st .en (rr N) (rr N'))(hs:iY N'=iY N)(a1:ai O):∀(j m:Nat) (p:Pl) (K:Nat) (aM:List Pl) (a5:ai O),n=m+j->j<K->aM.length+j<1000->0<rr N (.gi (at' p m)) (.go (at' p m)) - rr N' (.gi (at' p m)) (.go (at' p m))->
  ∃w b5,y_ N (rr N') (at' p m) w/\w.length<=j/\gf wy wx K (mf N' a1 ae aM (.gi (at' p m)) a5)=some (.nx,mf N' a1 ae (aM++w) .en b5)
 |0,m,p,K,aM,a5,en,hK,hl,z=>by
  obtain⟨b,e⟩:=t.pos F z;obtain⟨_,_,m',p',hm,_,ec⟩:=GK e;have:=(rC ec).2;lia
 |j+1,m,p,0,aM,a5,en,hK,hl,z=>b_ hK (EI _)
 |j+1,m,p,K+1,aM,a5,en,hK,hl,z=>by
  obtain⟨w,hw,ew⟩:=WS t F hs z;have f1:=e7q N' a1 ae aM (at' p m) a5;have f2:=YH N' a1 ae aM (by lia) (at' p m) w a5 ew
  obtain⟨b,e⟩:=t.pos F hw;obtain⟨m',p',hm,hp,ec,hor⟩:=Z_ e;obtain⟨rfl,em⟩:=rC ec;have em:m=m':=by lia
  subst em;rcases hor with⟨rfl,_⟩|⟨q,hq,rfl⟩
  .refine⟨[(p.1,p.2)],some (.Y (gr (at' p m))),.last hw,by rw[mJ];lia,?_⟩
   have f3:=e7r N' a1 ae (aM++[(p.1,p.2)]) (some (.Y (gr (at' p m))));have f2:wx (mf N' a1 ae aM (.gi (at' p m)) a5)=some (.nx,mf N' a1 ae (aM++[(p.1,p.2)]) .en (some (.Y (gr (at' p m))))):=f2;obtain⟨K',rfl⟩:∃K',K=K'+1:=⟨K - 1,by lia⟩
   rw[gf];simp only[f1,↓ag,f2,a_];rw[gf];simp only[f3,↓ag,dU,cX]
  .have ez:((m:Int)+1)=((m+1:Nat):Int):=rfl;rw[ez] at hw f2;obtain⟨_,k2,_⟩:=t.y6 F hw;obtain⟨w2,b5,q1,q2,q3⟩:=Qp t F hs a1 j (m+1) q K (aM++[(p.1,p.2)]) (some (.Y (gr (at' p m)))) (by lia) (by lia) (by rw[fu,mJ];lia) (by lia)
   refine⟨(p.1,p.2)::w2,b5,.step hw q1,by rw[jL];lia,?_⟩
   have f2:wx (mf N' a1 ae aM (.gi (at' p m)) a5)=some (.nx,mf N' a1 ae (aM++[(p.1,p.2)]) (.gi (at' q ((m+1:Nat):Int))) (some (.Y (gr (at' p m))))):=f2;rw[ie] at q3;have q3:gf wy wx K (mf N' a1 ae (aM++[(p.1,p.2)]) (.gi (at' q ((m+1:Nat):Int))) (some (.Y (gr (at' p m)))))=some (.nx,mf N' a1 ae (aM++(p.1,p.2)::w2) .en b5):=q3;rw[<-q3,gf];simp only[f1,↓ag,f2,a_]
theorem Uw{n:Nat}(t:Nt h P ae n pl N)(F:jY (VV N) .st .en (rr N) (rr N'))(hs:iY N'=iY N)(hn:n<=185)(p:Pl)(z:0<rr N (.gi (at' p 0)) (.go (at' p 0)) - rr N' (.gi (at' p 0)) (.go (at' p 0))):
  ∃w,y_ N (rr N') (at' p 0) w/\w.length<=185/\BF [.Y (dg N'),.Y (aP (.gi (at' p 0))),.Y (.str ae)]=some (.lst ((w.map aN++[D.str ae]).map .Y),[none,none,none]):=by
 obtain⟨w,b5,q1,q2,q3⟩:=Qp t F hs (some (.Y (aP (.gi (at' p 0))))) n 0 p 1000000 [] none (by lia) (by lia) (by rw[uE];lia) z
 refine⟨w,q1,by lia,?_⟩
 have q3:gf wy wx 1000000 (mf N' (some (.Y (aP (.gi (at' p 0))))) ae [] (.gi (at' p 0)) none)=some (.nx,mf N' (some (.Y (aP (.gi (at' p 0))))) ae w .en b5):=q3;have me:Ig=aU (av 3 (aY .lst gN)) (aU (av 4 (af 1)) (aU (gf wy wx 1000000) (ba (gB cn (af 3) (aY .lst (aq (af 2) gN)))))):=rfl;unfold mf at q3;rw[show([]:List Pl).map aN=[] from rfl,show([]:List D).map O.Y=[] from rfl] at q3;have c1:((w.map aN).length+1<=1000000)=True:=lE (by rw[bY];lia)
 unfold BF;rw[me];simp only[fV,eJ,eK,bG,bB,bH,reduceAdd,reduceSub,eQ,eD,d_,eu,cY,dY,eX,br,↓ag,reduceLeDiff,dW,a_,reduceLT,cj,bI,bc,bu,bf,q3,fO,bJ,bj,e_,bF,jJ,ij,bz,bD,JF,Gs,zA,J7,J6,c1,gw,gb,gc,gj,fY]
theorem e7s(i:Nat)(f:GS)(Q0:Gm):u_ i f Q0=match Q0[i]? with
 |some (some o)=>f (Q0.set i (some (.Y o.d)))
 |_=>none:=rfl
def lP(h:aA)(P:List Pl)(ae:Str)(T:Int)(N:Net)(S:List Ct)(l:cT)(W:List D)(a8 a9 a10 a11:ai O):Gm:=
 [some (.Y (bR h)),some (.Y (.lst (P.map aN))),some (fS ae),some (.Y (.int T)),some (.Y (dg N)),some (.Y (.lst (S.map gr))),some (.Y (.aF (dN l))),some (.lst (W.map .Y)),a8,a9,a10,a11]
section
variable(h:aA)(P:List Pl)(ae:Str)(T:Int)(N:Net)(S:List Ct)(l:cT)
theorem e7t{x:Int}(e1:lk N v=some i)(e2:lk i .st=some x)(hx:¬0<x)(W:List D)(a8 a9 a11:ai O):Bb (lP h P ae T N S l W a8 a9 (some (.Y (aP v))) a11)=some (.nx,lP h P ae T N S l W a8 a9 (some (.Y (aP v))) a11):=by
 have f1:=yb e1;have f2:=CH e2;rw[show aP .st=.str "the start" from rfl] at f2;have f3:decide ((0:Int)<x)=false:=jc hx;unfold Bb lP;simp only[dP,de,bJ,bj,bc,bu,bf,↓ag,br,bF,bz,bD,dh,f1,bS,f2,i3,f3,a_,dU,kO,nJ,cD,eX,dX,cX]
theorem Ξ{x:Int}(e1:lk N v=some i)(e2:lk i .st=some x)(hx:0<x)(ki:Int)(ds:List D)(e3:BF [.Y (dg N),.Y (aP v),.Y (.str ae)]=some (.lst (ds.map .Y),[none,none,none]))(W:List D)(hW:W.length<1000)(a9 a11:ai O):Bb (lP h P ae T N S l W (some (.Y (.int ki))) a9 (some (.Y (aP v))) a11)=some (.nx,lP h P ae T N S l (W++[.tup [.int ki,.lst ds]]) (some (.Y (.int ki))) a9 (some (.Y (aP v))) a11):=by
 have f1:=yb e1;have f2:=CH e2;rw[show aP .st=.str "the start" from rfl] at f2;have f3:decide ((0:Int)<x)=true:=jt hx;have c1:(W.length<1000000)=True:=lE (by lia)
 unfold Bb lP;simp only[dP,de,bJ,bj,bc,bu,bf,↓ag,br,bF,bz,bD,dh,f1,bS,f2,i3,f3,a_,kO,nJ,cD,eX,fK,bZ,fJ,fH,e3,fX,fW,i4,uj,bG,bB,bH,reduceAdd,reduceLeDiff,e_,dW,jh,ip,gh,qe,c1,cj,bI,dX]
theorem Qq(W:List D)(p:Pl)(a8 a10 a11:ai O):yC (lP h P ae T N S l W a8 (some (.Y (aN p))) a10 a11)=Bb (lP h P ae T N S l W a8 (some (.Y (aN p))) (some (.Y (aP (.gi (at' p 0))))) a11):=by
 have e1:=F_ p 0;unfold yC lP;simp only[cY,dY,cD,fK,bj,bc,bu,bf,↓ag,bS,br,fJ,fH,e1,fX,fW,jh,ip,bZ,gh,ym,bG,bB,bH,reduceAdd,reduceLT,cj,bI,a_]
theorem DL(W:List D)(ki:Int)(d:D)(a8 a9 a10 a11:ai O):eG [(bp 8),(bp 9)] (.tup [.int ki,d]) (lP h P ae T N S l W a8 a9 a10 a11)=some (lP h P ae T N S l W (some (.Y (.int ki))) (some (.Y d)) a10 a11):=by
 unfold lP;simp only[xM,xD,fU,bG,bB,bH,reduceAdd,reduceLT,cj,bI,a_,↓ag,xC]
theorem Φ(hS:S.length<100000)(W:List D)(a8 a9 a10 a11:ai O):LO (lP h P ae T N S l W a8 a9 a10 a11)=some (.own (.lst (((S.filter λc=>decide (Nd.gi c∈l.map (·.1)) && !decide (Nd.go c∈l.map (·.1))).map gr).map .Y)),lP h P ae T N S l W a8 a9 a10 a11):=by
 obtain⟨au,⟨a,rfl⟩,e⟩:=xG (g:=bp 0) (ct:=LP) (ce:=af 0) (λQ0=>∃a,Q0=[a,some (.Y (.aF (dN l)))]) gr (λc=>decide (Nd.gi c∈l.map (·.1)) && !decide (Nd.go c∈l.map (·.1))) gr S [] [none,some (.Y (.aF (dN l)))] ⟨_,rfl⟩ (by rw[uE];lia) (by
  rintro c hc Q0 ⟨a,rfl⟩;refine⟨[some (.Y (gr c)),some (.Y (.aF (dN l)))],?_,_,rfl⟩;have f1:=Jq false l (.gi c) _ (MY (p:=Nd.gi c∈l.map (·.1)))
  have f2:=Jq true l (.go c) _ (MY (p:=Nd.go c∈l.map (·.1)))
  generalize decide (Nd.gi c∈l.map (·.1))=b1 at f1 ⊢
  generalize decide (Nd.go c∈l.map (·.1))=b2 at f2 ⊢
  unfold rP LP;cases b1 with
  |true=>
   cases b2 with
   |true=>simp only[fU,bG,bB,bH,reduceAdd,reduceLT,bI,a_,↓ag,oU,de,bJ,bj,cD,eX,bc,bf,bS,br,reduceLeDiff,e_,dW,jh,ip,bZ,gh,ym,bu,bF,bz,bD,f1,dU,mK,cX,Dg,f2,HJ]
   |false=>simp only[fU,bG,bB,bH,reduceAdd,reduceLT,bI,a_,↓ag,oU,de,bJ,bj,cD,eX,bc,bf,bS,br,reduceLeDiff,e_,dW,jh,ip,bZ,gh,ym,bu,bF,bz,bD,f1,dU,cX,Dg,f2,pZ,EE]
  |false=>simp only[fU,bG,bB,bH,reduceAdd,reduceLT,bI,a_,↓ag,oU,de,bJ,bj,cD,eX,bc,bf,bS,br,reduceLeDiff,e_,dW,jh,ip,bZ,gh,ym,bu,bF,bz,bD,f1,dU,cX,Dg,Bj])
 rw[ig,show([]:List D).map O.Y=[] from rfl] at e;generalize(S.filter λc=>decide (Nd.gi c∈l.map (·.1)) && !decide (Nd.go c∈l.map (·.1)))=C at e ⊢
 unfold LO lP;simp only[nH,rS,cD,bc,bu,bf,↓ag,bZ,eQ,eD,qJ,ij,cj,bI,oM,d_,eu,e,bG,bB,bH,reduceAdd,p5,oF,qK,oO,a_]
end
noncomputable def r6:Nat->List Pl->List (Nat×Pl)
 |_,[]=>[]
 |k,p::ps=>(k,p)::r6 (k+1) ps
def C8(x:Nat×Pl):D:=.tup [.int (x.1:Int),aN x.2]
theorem Qr:∀(ps:List Pl) (k:Nat),(List.range' k ps.length).zipWith (λ(i:Nat) d=>D.tup [.int i,d]) (ps.map aN)=(r6 k ps).map C8
 |[],k=>rfl
 |p::ps,k=>by
  have ih:=Qr ps (k+1);show(List.range' k (ps.length+1)).zipWith _ (aN p::ps.map aN)=C8 (k,p)::(r6 (k+1) ps).map C8;rw[List.range'_succ,List.zipWith_cons_cons,ih];rfl
theorem YI(ps:List Pl):j7 (ps.map aN)=(r6 0 ps).map C8:=by
 unfold j7;rw[bY,List.range_eq_range',Qr]
theorem Ga:∀(ps:List Pl) (k:Nat),(r6 k ps).map (·.2)=ps
 |[],_=>rfl
 |p::ps,k=>by
  show p::(r6 (k+1) ps).map (·.2)=_
  rw[Ga ps (k+1)]
structure Way (N:Net) (r:Nd->Nd->Int) (ae:Str) (x:Nat×Pl) (d:D):Prop where
 w:∃w,y_ N r (at' x.2 0) w/\d=.tup [.int (x.1:Int),.lst (w.map aN++[D.str ae])]
theorem WT{α β:Type}{R:α->β->Prop}{a a':List α}{b b':List β}(p:Paired R a b)(q:Paired R a' b'):Paired R (a++a') (b++b'):=by
 induction p with
 |nil=>exact q
 |cons h _ ih=>exact .cons h ih
theorem YJ{n:Nat}(t:Nt h P ae n pl N)(F:jY (VV N) .st .en (rr N) (rr N'))(hs:iY N'=iY N)(hn:n<=185)(hP:P.length<=20)(T:Int)(S:List Ct)(l:cT):
  ∃W b8 b9 l_,fM (eG [(bp 8),(bp 9)]) yC (j7 (P.map aN)) (lP h P ae T N' S l [] none none none none)=some (.nx,lP h P ae T N' S l W b8 b9 l_ none)/\Paired (Way N (rr N') ae) ((r6 0 P).filter λx=>used N (rr N') x.2) W:=by
 rw[YI];obtain⟨au,e,W,b8,b9,l_,rfl,pr⟩:=oP (g:=eG [(bp 8),(bp 9)]) (f:=yC) C8 (λpre Q0=>∃(W:List D) (b8 b9 l_:ai O),Q0=lP h P ae T N' S l W b8 b9 l_ none/\Paired (Way N (rr N') ae) (pre.filter λx=>used N (rr N') x.2) W) (r6 0 P) []
  (lP h P ae T N' S l [] none none none none) ⟨[],none,none,none,rfl,.nil⟩ (by
   rintro q ⟨k,p⟩ post Q0 eq ⟨W,b8,b9,l_,rfl,pr⟩;rw[ig] at pr ⊢;have hp:p∈P:=by
    rw[<-Ga P 0,eq];simp
   have hW:W.length<=20:=by
    have h1:=Paired.length pr;have h2:=List.length_filter_le (λx:Nat×Pl=>used N (rr N') x.2) q
    have h3:=congrArg List.length eq;have h4:=congrArg List.length (Ga P 0);rw[bY] at h4;rw[fu,jL] at h3;lia
   have e0:iZ h P ae n .st (.gi (at' p 0)) false:=.s hp;have ha:kr N' (.gi (at' p 0)) .st:=by
    rw[ub,hs,<-ub,t.ar];exact .inr ⟨_,e0⟩
   obtain⟨i,ei,x,ex⟩:=ha;have hx:x=rr N .st (.gi (at' p 0)) - rr N' .st (.gi (at' p 0)):=by
    have h1:rr N' (.gi (at' p 0)) .st=x:=by rw[Ae ei,ex];rfl
    have h2:=F.an .st (.gi (at' p 0));have h3:=t.rz (.gi (at' p 0)) .st λb e=>FA e0 e
    lia
   by_cases c:0<x
   .have hu:used N (rr N') p=true:=jt (by rw[<-hx];exact c)
    obtain⟨_,k2,_⟩:=t.y6 F (u:=.st) (c:=at' p 0) (by rw[<-hx];exact c)
    obtain⟨w,q1,q2,q3⟩:=Uw t F hs hn p (by lia)
    have st:=Ξ h P ae T N' S l ei ex c (k:Int) (w.map aN++[D.str ae]) q3 W (by lia) (some (.Y (aN p))) none
    refine⟨lP h P ae T N' S l (W++[.tup [.int (k:Int),.lst (w.map aN++[D.str ae])]]) (some (.Y (.int (k:Int)))) (some (.Y (aN p))) (some (.Y (aP (.gi (at' p 0))))) none,?_,_,_,_,_,rfl,?_⟩
    .show(eG _ (.tup [.int (k:Int),aN p]) _).bind yC=_;rw[DL,Option.bind_some,Qq,st]
    .rw[List.filter_append,Bl,hu];exact WT pr (.cons ⟨w,q1,rfl⟩ .nil)
   .have hu:used N (rr N') p=false:=jc (by rw[<-hx];exact c)
    have st:=e7t h P ae T N' S l ei ex c W (some (.Y (.int (k:Int)))) (some (.Y (aN p))) none;refine⟨lP h P ae T N' S l W (some (.Y (.int (k:Int)))) (some (.Y (aN p))) (some (.Y (aP (.gi (at' p 0))))) none,?_,W,_,_,_,rfl,?_⟩
    .show(eG _ (.tup [.int (k:Int),aN p]) _).bind yC=_;rw[DL,Option.bind_some,Qq,st]
    .rw[List.filter_append,Bl,hu];simpa using pr)
 rw[ig] at pr;exact⟨W,b8,b9,l_,e,pr⟩
structure Told (h:aA) (P:List Pl) (ae:Str) (n:Nat) (W:List D) (C:List Ct):Prop where
 ex:∃(pl:Int) (N N':Net) (l:cT),pl=(P.length:Int)+1/\Nt h P ae n pl N/\jY (VV N) .st .en (rr N) (rr N')/\.st∈l.map (·.1)/\.en∉l.map (·.1)/\(∀y,y∈l.map (·.1)->∀x,0<rr N' y x->x∈l.map (·.1))/\
  Paired (Way N (rr N') ae) ((r6 0 P).filter λx=>used N (rr N') x.2) W/\C=(gq h P n).filter λc=>decide (Nd.gi c∈l.map (·.1)) && !decide (Nd.go c∈l.map (·.1))
theorem Qs{h:aA}(ok:h_ h){P:List Pl}(nd:P.Nodup)(v:∀p,p∈P->VP h p):∀n,(gq h P n).length<=200*n
 |0=>c7 _
 |n+1=>by
  have ih:=Qs ok nd v n;obtain⟨o1,o2⟩:=GW ok nd v n;have hl:=GJ ok o1 o2;show(gq h P n++(nw h P n).map (at' · (n:Int))).length<=_
  rw[fu,bY];lia
theorem IL(ok:h_ h)(nd:P.Nodup)(v:∀p,p∈P->VP h p)(ae:Str)(T:Int)(n:Nat)(hT:T=n)(hn:n<=185)(hP:P.length<=20):
  ∃W C,Told h P ae n W C/\xw [.Y (bR h),.Y (.lst (P.map aN)),.Y (.str ae),.Y (.int T)]=some (.tup [.lst (W.map .Y),.Y (.lst (C.map gr))],[none,none,none,none]):=by
 obtain⟨pl,iW⟩:∃pl:Int,(P.length:Int)+1=pl:=⟨_,rfl⟩;obtain⟨e1,sz⟩:=Vw ok nd v ae T pl n hT hn hP iW;have t:=e7m sz;generalize ck [(.st,[])] (lR h P ae pl n)=N at *;have F0:=t.flo (by lia)
 obtain⟨N',l,s1,F,c,cl,he,e2⟩:=ZZ (V:=VV N) (B:=(P.length:Int)) N t.ok (λv m=>(oR ..).mpr (.inl m)) F0 (λr F=>t.most nd F) (by lia)
 obtain⟨W,b8,b9,l_,e3,pr⟩:=YJ t F s1 hn hP T (gq h P n) l;have sl:=Qs ok nd v n;have e4:=Φ h P ae T N' (gq h P n) l (by lia) W b8 b9 l_ none
 refine⟨W,_,⟨pl,N,N',l,iW.symm,t,F,c.st,he,cl,pr,rfl⟩,?_⟩;have e5:=Ro N';have e0:bV [(Nd.st,([]:qE))]=.aF [(dZ .st,.aF [])]:=rfl;have k0:cI (.str "the start")=some (dZ .st):=rfl;rw[e0] at e1;rw[show aP .st=.str "the start" from rfl,show aP .en=.str "the end" from rfl] at e2;generalize(gq h P n).filter (λc=>decide (Nd.gi c∈l.map (·.1)) && !decide (Nd.go c∈l.map (·.1)))=C at e4 ⊢
 generalize gq h P n=S at e1 e3 e4;unfold lP at e3 e4;rw[show([]:List D).map O.Y=[] from rfl] at e3;unfold xw;unfold IH;simp only[fV,eJ,eK,bG,bB,bH,reduceAdd,reduceSub,eQ,eD,d_,eu,cY,dY,Vc,bS,↓ag,Fo,k0,↓evMap,reduceLT,cj,bI,a_,cD,fK,bj,bc,bu,bf,br,ko,fJ,fH,e1,lL,fX,fW,i4,uj,bZ,e2,e7s,e5,eX,reduceLeDiff,dW,XU,e3,e4,fO,qN,e_,gw,gb,gc,gj,fY]
def rq(h:aA)(P:List Pl)(C:List Ct):Nat->Pl->Prop
 |0,p=>p∈P
 |m+1,q=>∃p,rq h P C m p/\at' p (m:Int)∉C/\q∈i6 h p
def Sep(h:aA)(P:List Pl)(ae:Str)(n:Nat)(C:List Ct):Prop:=∀m,m<n->∀p,rq h P C m p->at' p (m:Int)∉C->¬eT (.inl ae) (jE h p)=true
theorem vj{m:Nat}:q∈nw h P (m+1)↔∃p∈nw h P m,q∈i6 h p:=by
 show q∈dy [] ((nw h P m).flatMap (i6 h))↔_;rw[jP,MW];exact⟨λz=>z.resolve_left (by simp),.inr⟩
theorem Cq{h:aA}{P:List Pl}{C:List Ct}:∀{m:Nat} {p:Pl},rq h P C m p->p∈nw h P m
 |0,p,z=>z
 |m+1,q,⟨p,z,_,hq⟩=>vj.mpr ⟨p,Cq z,hq⟩
theorem jD{h:aA}{P:List Pl}{c:Ct}:∀{n:Nat},c∈gq h P n↔∃m,m<n/\∃p∈nw h P m,c=at' p (m:Int)
 |0=>⟨λz=>(by cases z),λ⟨m,hm,_⟩=>b_ hm (EI _)⟩
 |n+1=>by
  show c∈gq h P n++(nw h P n).map (at' · (n:Int))↔_
  rw[eR,jD,gQ];constructor
  .rintro(⟨m,hm,z⟩|⟨p,hp,e⟩)
   .exact⟨m,by lia,z⟩
   .exact⟨n,by lia,p,hp,e.symm⟩
  .rintro⟨m,hm,p,hp,e⟩;by_cases q:m=n
   .subst q;exact .inr ⟨p,hp,e.symm⟩
   .exact .inl ⟨m,by lia,p,hp,e⟩
theorem RB{h:aA}(ok:h_ h){P:List Pl}(nd:P.Nodup)(v:∀p,p∈P->VP h p):∀n,(gq h P n).Nodup
 |0=>ED
 |n+1=>by
  show(gq h P n++(nw h P n).map (at' · (n:Int))).Nodup
  refine lD.mpr ⟨RB ok nd v n,List.Pairwise.map _ (λa b kf e=>kf (rC e).1) (GW ok nd v n).1,λa ha b hb e=>?_⟩
  obtain⟨m,hm,p,hp,e1⟩:=jD.mp ha;obtain⟨q,hq,e2⟩:=gQ.mp hb;have:=(rC (e1.symm.trans (e.trans e2.symm))).2;lia
theorem jY.yk{V:List Nd}{s t:Nd}{r0 r:Nd->Nd->Int}(F:jY V s t r0 r)(S:Nd->Bool)(hs:S s=true)(ht:S t=false):
  ex V r0 r s<=sm (λv=>sm (λb=>r0 v b) (V.filter λb => !S b)) (V.filter S):=by
 have e1:sm (ex V r0 r) (V.filter S)=ex V r0 r s:=by
  have h1:∀v,v∈V.filter S->ex V r0 r v=if v=s then ex V r0 r s else 0:=λv m=>by
   obtain⟨m1,m2⟩:=kG.mp m;by_cases c:v=s
   .rw[aT c,c]
   .rw[aW c];exact F.cs v m1 c λz=>by rw[z,ht] at m2;cases m2
  rw[rR h1,t8 _ (F.nd.filter _),aT (kG.mpr ⟨F.ms,hs⟩)]
 have e2:sm (ex V r0 r) (V.filter S)=sm (λv=>sm (λb=>r0 v b - r v b) (V.filter S)) (V.filter S)+sm (λv=>sm (λb=>r0 v b - r v b) (V.filter λb => !S b)) (V.filter S):=by
  rw[<-ya];exact rR λv _=>Fx _ S V
 have e3:=P9 (g:=λv b=>r0 v b - r v b) F.an (V.filter S)
 have e4:sm (λv=>sm (λb=>r0 v b - r v b) (V.filter λb => !S b)) (V.filter S)<=sm (λv=>sm (λb=>r0 v b) (V.filter λb => !S b)) (V.filter S):=wa λv mv=>wa λb mb=>by
  have:=F.nn v b;lia
 lia
theorem RC(W:List Nd):∀V:List Nd,sm (λv=>if v∈W then 1 else 0) V=((V.filter λv=>decide (v∈W)).length:Int)
 |V=>by
  have:=Kq (λv:Nd=>v) (λv=>if v∈W then 1 else 0) (λv=>decide (v∈W)) V λv _=>by
   by_cases c:v∈W
   .rw[aT c,jt c,aT rfl]
   .rw[aW c,jc c,aW (by simp)]
  rw[List.map_id'] at this;exact this
section
variable{h:aA}{P:List Pl}{ae:Str}{n:Nat}{pl:Int}{N:Net}{r:Nd->Nd->Int}
theorem Nt.weak(t:Nt h P ae n pl N)(F:jY (VV N) .st .en (rr N) r)(s:Sep h P ae n C):ex (VV N) (rr N) r .st<=(C.length:Int):=by
 let Q:Ct->Prop:=λc=>∃(m:Nat) (p:Pl),c=at' p (m:Int)/\rq h P C m p
 let SP:Nd->Prop:=λv=>match v with
  |.st=>True
  |.en=>False
  |.gi c=>Q c
  |.go c=>Q c/\c∉C
 have dec:∀v,Decidable (SP v):=λv=>Classical.propDecidable _
 have hcr:∀v b t',SP v->¬SP b->iZ h P ae n v b t'->∃c∈C,v=.gi c/\b=.go c:=by
  intro v b t' hv hb e;cases e with
  |@s p hp=>exact b_ (show Q _ from⟨0,p,rfl,hp⟩) hb
  |@g m p hm hp=>
   refine⟨at' p m,?_,rfl,rfl⟩;exact p8 λz=>hb ⟨hv,z⟩
  |@e m p hm hp z=>
   obtain⟨⟨m',p',e1,e2⟩,e3⟩:=hv;obtain⟨rfl,em⟩:=rC e1;have em:m=m':=by lia
   subst em;exact b_ z (s m hm p e2 e3)
  |@w m p q hm hp hq=>
   obtain⟨⟨m',p',e1,e2⟩,e3⟩:=hv;obtain⟨rfl,em⟩:=rC e1;have em:m=m':=by lia
   subst em;exact b_ (show Q _ from⟨m+1,q,rfl,p,e2,e3,hq⟩) hb
 have c1:=F.yk (λv=>@decide (SP v) (dec v)) (@decide_eq_true (SP .st) (dec .st) i9) (@decide_eq_false (SP .en) (dec .en) (λz=>z))
 have c2:sm (λv=>sm (λb=>rr N v b) ((VV N).filter λb => !(@decide (SP b) (dec b)))) ((VV N).filter λv=>@decide (SP v) (dec v))<=sm (λv=>if v∈C.map Nd.gi then 1 else 0) ((VV N).filter λv=>@decide (SP v) (dec v)):=wa λv mv=>by
  have hv:SP v:=y9 (kG.mp mv).2;have hb:∀b,b∈((VV N).filter λb => !(@decide (SP b) (dec b)))->¬SP b:=λb mb z=>by
   have:=(kG.mp mb).2;rw[@decide_eq_true _ (dec b) z] at this;cases this
  by_cases c:v∈C.map Nd.gi
  .rw[aT c];obtain⟨c0,_,rfl⟩:=gQ.mp c;have:sm (λb=>rr N (.gi c0) b) ((VV N).filter λb => !(@decide (SP b) (dec b)))<=sm (λb=>if b=.go c0 then 1 else 0) ((VV N).filter λb => !(@decide (SP b) (dec b))):=wa λb _=>by
    by_cases q:∃t',iZ h P ae n (.gi c0) b t'
    .obtain⟨t',e⟩:=q;obtain⟨rfl,rfl,_⟩:=GK e;rw[t.rm _ _ _ e,aT rfl];exact vK 1
    .rw[t.rz _ _ λt' e=>q ⟨t',e⟩]
     split <;> lia
   rw[t8 _ (F.nd.filter _)] at this;split at this <;> lia
  .rw[aW c];have:sm (λb=>rr N v b) ((VV N).filter λb => !(@decide (SP b) (dec b)))=0:=zN λb mb=>t.rz _ _ λt' e=>by
    obtain⟨c0,hc,rfl,_⟩:=hcr v b t' hv (hb b mb) e;exact c (gQ.mpr ⟨c0,hc,rfl⟩)
   lia
 rw[RC] at c2;have c3:=vR (l:=((VV N).filter λv=>@decide (SP v) (dec v)).filter λv=>decide (v∈C.map Nd.gi)) (m:=C.map Nd.gi) ((F.nd.filter _).filter _) λx m=>by
  have:=(kG.mp m).2;exact y9 this
 rw[bY] at c3;lia
end
theorem WU(ok:h_ h)(nd:P.Nodup)(v:∀p,p∈P->VP h p){n:Nat}(td:Told h P ae n W C):
  Sep h P ae n C/\C.length<=W.length/\∀C',Sep h P ae n C'->W.length<=C'.length:=by
 obtain⟨pl,N,N',l,iW,t,F,ms,me,cl,pr,hC⟩:=td.ex;have val:=t.value nd F;have hW:W.length=(P.filter (used N (rr N'))).length:=by
  have h1:=Paired.length pr;have h2:((r6 0 P).filter λx=>used N (rr N') x.2).map (·.2)=P.filter (used N (rr N')):=by
   have:=List.filter_map (f:=λx:Nat×Pl=>x.2) (p:=used N (rr N')) (l:=r6 0 P)
   rw[Ga] at this;exact this.symm
  rw[<-h2,bY];exact h1.symm
 have Dn:=F.cut (λv=>decide (v∈l.map (·.1))) (jt ms) (jc me) λa b _ _ ha hb=>by
  have h1:=F.nn a b;have h2:¬0<rr N' a b:=λz=>by
   have:=cl a (y9 ha) b z;rw[jt this] at hb;cases hb
  lia
 have nn:=t.nn (by lia)
 have hx:∀a b,a∈VV N->b∈VV N->a∈l.map (·.1)->b∉l.map (·.1)->rr N a b<=ex (VV N) (rr N) (rr N') .st:=λa b ma mb ha hb=>by
  rw[Dn];have h1:rr N a b<=sm (λb=>rr N a b) ((VV N).filter λb => !decide (b∈l.map (·.1))):=GD (f:=λb=>rr N a b) (λw _=>nn a w) b (kG.mpr ⟨mb,by rw[jc hb];rfl⟩)
  have h2:=GD (f:=λv=>sm (λb=>rr N v b) ((VV N).filter λb => !decide (b∈l.map (·.1)))) (l:=(VV N).filter λv=>decide (v∈l.map (·.1))) (λw _=>Fd λb _=>nn w b) a (kG.mpr ⟨ma,jt ha⟩)
  lia
 have most:=t.most nd F;have go:∀a b,iZ h P ae n a b false->a∈l.map (·.1)->b∈l.map (·.1):=λa b e ha=>p8 λhb=>by
  have h1:=hx a b ((oR ..).mpr (.inl ((t.ky a).mpr (.inr ⟨b,_,.inl e⟩)))) ((oR ..).mpr (.inl ((t.ky b).mpr (.inr ⟨a,_,.inr e⟩)))) ha hb;rw[t.rm a b _ e] at h1;have h2:cp pl false=pl:=rfl;lia
 have memC:∀c,c∈C↔c∈gq h P n/\Nd.gi c∈l.map (·.1)/\Nd.go c∉l.map (·.1):=λc=>by
  rw[hC,kG,m9,decide_eq_true_eq,Bool.not_eq_true',decide_eq_false_iff_not]
 have gate:∀m p,m<n->p∈nw h P m->Nd.gi (at' p (m:Int))∈l.map (·.1)->at' p (m:Int)∉C->Nd.go (at' p (m:Int))∈l.map (·.1):=λm p hm hp hg hc=>p8 λz=>hc ((memC _).mpr ⟨jD.mpr ⟨m,hm,p,hp,rfl⟩,hg,z⟩)
 have rin:∀m p,m<=n->rq h P C m p->Nd.gi (at' p (m:Int))∈l.map (·.1):=by
  intro m
  induction m with
  |zero=>intro p _ z;exact go _ _ (.s z) ms
  |succ m ih=>
   rintro q hm ⟨p,z,hc,hq⟩;exact go _ _ (.w (by lia) (Cq z) hq) (gate m p (by lia) (Cq z) (ih p (by lia) z) hc)
 refine⟨λm hm p z hc q=>?_,?_,λC' s=>?_⟩
 .exact me (go _ _ (.e hm (Cq z) q) (gate m p hm (Cq z) (rin m p (by lia) z) hc))
 .have h1:sm (λv=>if v∈C.map Nd.gi then 1 else 0) ((VV N).filter λv=>decide (v∈l.map (·.1)))<=ex (VV N) (rr N) (rr N') .st:=by
   rw[Dn];refine wa λa ma=>?_
   by_cases c:a∈C.map Nd.gi
   .rw[aT c];obtain⟨c0,hc,rfl⟩:=gQ.mp c;obtain⟨k1,k2,k3⟩:=(memC c0).mp hc;obtain⟨m,hm,p,hp,rfl⟩:=jD.mp k1;have e:iZ h P ae n (.gi (at' p m)) (.go (at' p m)) true:=.g hm hp;have h1:rr N (.gi (at' p m)) (.go (at' p m))<=sm (λb=>rr N (.gi (at' p m)) b) ((VV N).filter λb => !decide (b∈l.map (·.1))):=GD (f:=λb=>rr N (.gi (at' p m)) b) (λw _=>nn _ w) _ (kG.mpr ⟨(oR ..).mpr (.inl ((t.ky _).mpr (.inr ⟨_,_,.inr e⟩))),by rw[jc k3];rfl⟩)
    rw[t.rm _ _ _ e] at h1;exact h1
   .rw[aW c];exact Fd λb _=>nn a b
  rw[RC] at h1;have L9:C.Nodup:=by rw[hC];exact(RB ok nd v n).filter _
  have ndC:(C.map Nd.gi).Nodup:=List.Pairwise.map _ (λa b kf e=>kf (by injection e)) L9
  have h2:=vR ndC (m:=((VV N).filter λv=>decide (v∈l.map (·.1))).filter λv=>decide (v∈C.map Nd.gi)) λx m=>by
   refine kG.mpr ⟨kG.mpr ?_,jt m⟩;obtain⟨c0,hc,rfl⟩:=gQ.mp m;obtain⟨k1,k2,k3⟩:=(memC c0).mp hc;obtain⟨m,hm,p,hp,rfl⟩:=jD.mp k1;exact⟨(oR ..).mpr (.inl ((t.ky _).mpr (.inr ⟨_,_,.inl (.g hm hp)⟩))),jt k2⟩
  rw[bY] at h2;lia
 .have:=t.weak F s;lia
def Nu(h:aA)(P:List Pl)(ae:Str)(n k:Nat):Prop:=(∃C,Sep h P ae n C/\C.length<=k)/\∀C,Sep h P ae n C->k<=C.length
section
variable{h:aA}{P P':List Pl}{ae:Str}{n k k':Nat}
theorem O6:∀{m:Nat} {q:Pl},¬rq h P (P.map (at' · 0)) (m+1) q
 |0,q,⟨p,z,hc,_⟩=>hc (gQ.mpr ⟨p,z,rfl⟩)
 |m+1,q,⟨p,z,_,_⟩=>O6 z
theorem Ψ(a:Nu h P ae n k):k<=P.length:=by
 have:=a.2 (P.map (at' · 0)) λm hm p z hc=>by
  cases m with
  |zero=>exact b_ (gQ.mpr ⟨p,z,rfl⟩) hc
  |succ m=>exact b_ z O6
 rw[bY] at this;exact this
end
abbrev vB(as:List Sp):O:=.lst ((as.map bT).map .Y)
section
variable{α:Type}
noncomputable def mS(xs:List α)(k:Nat)(y:α):List α:=xs.take k++y::xs.drop k
theorem WV{xs:List α}{y x:α}:x∈mS xs k y↔x=y\/x∈xs:=by
 unfold mS;rw[eR,dR]
 conv=>rhs;rw[<-vI k xs,eR]
 constructor
 .rintro(z|z|z)
  .exact .inr (.inl z)
  .exact .inl z
  .exact .inr (.inr z)
 .rintro(z|z|z)
  .exact .inr (.inl z)
  .exact .inl z
  .exact .inr (.inr z)
theorem WW(xs:List α)(k:Nat)(y:α):(mS xs k y).length=xs.length+1:=by
 unfold mS;rw[fu,jL,rg,vH];lia
theorem YK{xs:List α}{y:α}(h:xs.Nodup)(hy:y∉xs):(mS xs k y).Nodup:=by
 unfold mS;rw[List.perm_middle.nodup_iff,vI];exact jr.mpr ⟨hy,h⟩
theorem YL(enc:α->D)(xs:List α)(i:Int)(y:α)(h0:0<=i)(h1:i<1000000)(hl:xs.length<1000000):xK (.lst ((xs.map enc).map .Y)) [.Y (.int i),.Y (enc y)]=some (.lst (((mS xs i.toNat y).map enc).map .Y),.Y .bh):=by
 show(if 0<=i/\i<1000000/\((xs.map enc).map O.Y).length<1000000 then _ else _)=_
 rw[aT ⟨h0,h1,by rw[bY,bY];exact hl⟩]
 unfold mS;rw[jI,c_,jI,c_,List.map_take,MU,List.map_take,MU]
theorem YM(enc:α->D)(xs:List α)(y:α)(hl:xs.length<1000000):oS (.lst ((xs.map enc).map .Y)) [.Y (enc y)]=some (.lst (((xs++[y]).map enc).map .Y),.Y .bh):=by
 rw[qe,aT (by rw[bY];exact hl),show(xs++[y]).map enc=xs.map enc++[enc y] by simp]
theorem Ω(enc:α->D)(xs:List α)(i:Int)(h0:0<=i)(h1:i<xs.length):∃x,x∈xs/\fj (xs.map enc) i=some (enc x):=by
 have hi:i.toNat<xs.length:=by lia
 refine⟨xs[i.toNat],xi hi,?_⟩;unfold fj qp;rw[bY,aT h0,aT h1];show(xs.map enc)[i.toNat]?=_;rw[lC,km hi];rfl
end
theorem JV(xs:List D):iJ [.Y (.lst xs)]=some (.Y (.int (xs.length:Nat))):=rfl
theorem WX(F:cy)(g:cB F)(s1 s2 s3 a5:ai O)(pl:List Sp)(hl:pl.length<=100)(nd:pl.Nodup)(s:Sp)(hs:s∉pl):∃(F':cy) (tE:List Sp),cB F'/\(∀x,x∈tE↔x=s\/x∈pl)/\tE.length=pl.length+1/\tE.Nodup/\
  tF [some (bt F),s1,s2,s3,some (vB pl),a5,some (.Y (bT s))]=some (.nx,[some (bt F'),s1,s2,s3,some (vB tE),a5,some (.Y (bT s))]):=by
 have hm:(0:Int)<(pl.length:Int)+1:=by lia
 have e1:=xd g (m:=(pl.length:Int)+1) hm (by lia)
 have d0:=vO F hm;have d1:=vS F hm;have ei:=YL bT pl (aZ F ((pl.length:Int)+1)) s d0 (by lia) (by lia)
 refine⟨aQ F ((pl.length:Int)+1),mS pl (aZ F ((pl.length:Int)+1)).toNat s,g.draw _,λx=>WV,WW _ _ _,YK nd hs,?_⟩
 have dl:O.dl ((pl.map bT).map .Y)=pl.map bT:=pe _;have el:((pl.map bT).length:Int)=(pl.length:Int):=by rw[bY]
 generalize(pl.length:Int)=ol at *;unfold tF;generalize bT s=sd at *;simp only[kO,nJ,bc,bu,bf,↓ag,bj,cD,fK,bJ,br,bF,jJ,ij,bD,xZ,i4,dl,zL,el,↓evMap,bS,bz,iR,bZ,ko,bI,fJ,fH,e1,lL,fX,fW,e_,dW,ei,cj]
theorem WY(F:cy)(g:cB F)(s1 s2:ai O)(cs:List Sp)(c0:0<cs.length)(c1:cs.length<=200)(a5 a6:ai O)(pl:List Sp)(hl:pl.length<=100)(nd:pl.Nodup):∃(F':cy) (tE:List Sp) (HW:ai O),cB F'/\(∀x,x∈tE->x∈pl\/x∈cs)/\tE.length<=pl.length+1/\tE.Nodup/\
  q_ [some (bt F),s1,s2,some (.Y (.lst (cs.map bT))),some (vB pl),a5,a6]=some (.nx,[some (bt F'),s1,s2,some (.Y (.lst (cs.map bT))),some (vB tE),a5,HW]):=by
 have hm:(0:Int)<(cs.length:Int):=by lia
 have e1:=xd g (m:=(cs.length:Int)) hm (by lia)
 have d0:=vO F hm;have d1:=vS F hm;obtain⟨s,ms,es⟩:=Ω bT cs (aZ F (cs.length:Int)) d0 d1;have e2:=Rl true s pl;have el:iJ [.Y (.lst (cs.map bT))]=some (.Y (.int (cs.length:Nat))):=by rw[JV,bY]
 have ex:dQ (.Y (.lst (cs.map bT))) (.int (aZ F (cs.length:Int)))=some (.Y (bT s)):=by
  show(fj (cs.map bT) _).map O.Y=_;rw[es];rfl
 cases hb:eT s pl with
 |true=>
  rw[hb] at e2;refine⟨aQ F (cs.length:Int),pl,some (.Y (bT s)),g.draw _,λx m=>.inl m,Bm _,nd,?_⟩
  generalize(cs.length:Int)=ol at *;unfold q_;generalize tF=pi at *;generalize bT s=sd at *;simp only[cY,dY,bJ,bj,bc,bu,bf,↓ag,fK,br,bF,bz,bD,el,ko,bI,fJ,fH,e1,lL,fX,fW,dh,ex,bG,bB,bH,reduceAdd,reduceLT,cj,a_,dP,de,jJ,ij,e2,mK,dU,dX,cX]
 |false=>
  rw[hb] at e2;have hs:s∉pl:=λz=>by rw[gG.mpr z] at hb;cases hb
  obtain⟨F',tE,g',m',l',n',e3⟩:=WX (aQ F (cs.length:Int)) (g.draw _) s1 s2 (some (.Y (.lst (cs.map bT)))) a5 pl hl nd s hs;refine⟨F',tE,some (.Y (bT s)),g',λx m=>((m' x).mp m).elim (λe=>.inr (by rw[e];exact ms)) .inl,by lia,n',?_⟩
  generalize(cs.length:Int)=ol at *;unfold q_;generalize tF=pi at *;generalize bT s=sd at *;simp only[cY,dY,bJ,bj,bc,bu,bf,↓ag,fK,br,bF,bz,bD,el,ko,bI,fJ,fH,e1,lL,fX,fW,dh,ex,bG,bB,bH,reduceAdd,reduceLT,cj,a_,dP,de,jJ,ij,e2,pZ,e3,dX]
theorem WZ(ok:h_ h)(F:cy)(g:cB F)(a:Int)(a0:0<=a)(a1:a<=8):∃(F':cy) (pl:List Sp),cB F'/\(∀s∈pl,VC h s)/\(pl.length:Int)<=a/\pl.Nodup/\zj [bt F,.Y (bR h),.Y (.int a)]=some (vB pl,[some (bt F'),none,none]):=by
 obtain⟨cs,cv,c0,c1,ec⟩:=Yl h ok;have e1:=xd g (m:=a+1) (by lia) (by lia)
 have d0:=vO F (m:=a+1) (by lia)
 have d1:=vS F (m:=a+1) (by lia)
 obtain⟨au,el,F',pl,a5,a6,g',m',l',n',rfl⟩:=oP (g:=bp 5) (f:=q_) (λk:Nat=>D.int (0+(k:Int))) (λpre Q0=>∃(F':cy) (pl:List Sp) (a5 a6:ai O),cB F'/\(∀x∈pl,x∈cs)/\pl.length<=pre.length/\pl.Nodup/\Q0=[some (bt F'),some (.Y (bR h)),some (.Y (.int a)),some (.Y (.lst (cs.map bT))),some (vB pl),a5,a6]) (List.range (aZ F (a+1)).toNat) []
  [some (bt (aQ F (a+1))),some (.Y (bR h)),some (.Y (.int a)),some (.Y (.lst (cs.map bT))),some (vB []),none,none] ⟨aQ F (a+1),[],none,none,g.draw _,(λx m=>by cases m),c7 _,ED,rfl⟩ (by
   rintro q x post Q0 ex ⟨F',pl,a5,a6,g',m',l',n',rfl⟩;rw[ig] at *;have lq:q.length<=9:=by have:=congrArg List.length ex;simp at this;lia
   obtain⟨F2,Mf,HW,g2,m2,l2,n2,e⟩:=WY F' g' (some (.Y (bR h))) (some (.Y (.int a))) cs c0 (by lia) (some (.Y (.int (0+(x:Int))))) a6 pl (by lia) n'
   refine⟨_,e,F2,Mf,_,HW,g2,λy my=>(m2 y my).elim (m' y) id,?_,n2,rfl⟩
   rw[fu,mJ];lia)
 rw[ig] at *;rw[pY] at l';refine⟨F',pl,g',λs ms=>cv s (m' s ms),by lia,n',?_⟩
 rw[<-xI] at el;have i1:jR [.own (.Y (.int (aZ F (a+1))))]=some (aZ F (a+1)):=BW (by lia)
 have e0:(vB []:O)=.lst []:=rfl;rw[e0] at el;unfold zj;unfold Ih;generalize q_=pb at *;simp only[fV,eJ,eK,bG,bB,bH,reduceAdd,reduceSub,eQ,eD,d_,eu,cY,dY,cD,fK,bj,bc,bu,bf,↓ag,br,fJ,fH,ec,fX,fW,bZ,reduceLT,cj,bI,a_,eX,reduceLeDiff,dW,Kx,bJ,bS,bF,bz,bD,iR,ko,e1,lL,i1,el,fO,qN,gw,gb,gc,rW,gj,fY]
theorem Ow{h:aA}:∀{pl:List Sp},(∀s∈pl,VC h s)->pl.Nodup->∃P:List Pl,pl=P.map Sum.inr/\P.Nodup/\∀p,p∈P->VP h p
 |[],_,_=>⟨[],rfl,ED,λp m=>(by cases m)⟩
 |s::pl,hv,nd=>by
  rw[jr] at nd;obtain⟨P,e,n,v⟩:=Ow (pl:=pl) (λs m=>hv s (.tail _ m)) nd.2
  obtain⟨b,hb,c,es,c0,c1⟩:=hv s (.head _);refine⟨(b.name,c)::P,by rw[es,e];rfl,jr.mpr ⟨λm=>nd.1 ?_,n⟩,λp m=>?_⟩
  .rw[es,e];exact gQ.mpr ⟨_,m,rfl⟩
  .rcases dR.mp m with m|m
   .rw[m];exact⟨b,hb,rfl,c0,c1⟩
   .exact v p m
theorem JW(P:List Pl):(P.map Sum.inr).map bT=P.map aN:=by
 rw[oH];exact HN λp _=>rfl
theorem δ(ds:List D):i_ [.Y (.lst ds)]=some (.lst (ds.map .Y)):=rfl
theorem YN(f:mL h.aG h.aB){b:aR}(hb:b∈h.aB):∃j:Nat,findS (h.aB.map aR.name) b.name=some j/\h.aB[j]?=some b:=by
 cases q:findS (h.aB.map aR.name) b.name with
 |none=>
  unfold findS at q;rw[List.findIdx?_eq_none_iff] at q;have:=q b.name (Bq (f:=aR.name) hb);rw[rj] at this;cases this
 |some j=>
  obtain⟨e,_⟩:=Nz q;rw[lC] at e;cases r:h.aB[j]? with
  |none=>rw[r] at e;cases e
  |some x=>
   rw[r] at e;have e:x.name=b.name:=Option.some.inj e;rw[O0 f x (Bk r) b hb e] at r;exact⟨j,rfl,r⟩
theorem Vx(h:aA)(f:mL h.aG h.aB)(b:aR)(hb:b∈h.aB)(ol:b.outs.length<=20)(s0 s1 s3 s4 s5 s6:ai O):
  ∃a8,fM (bp 8) qy (b.outs.map D.str) [s0,s1,some (.Y (.lst ((h.aB.map aR.name).map .str))),s3,s4,s5,s6,some (.lst []),none] =
   some (.nx,[s0,s1,some (.Y (.lst ((h.aB.map aR.name).map .str))),s3,s4,s5,s6,some (.lst ((b.outs.map (nZ h)).map .Y)),a8]):=by
 obtain⟨au,e,a8,rfl⟩:=oP (g:=bp 8) (f:=qy) D.str (λpre Q0=>∃a8,Q0=[s0,s1,some (.Y (.lst ((h.aB.map aR.name).map .str))),s3,s4,s5,s6,some (.lst ((pre.map (nZ h)).map .Y)),a8]) b.outs []
  [s0,s1,some (.Y (.lst ((h.aB.map aR.name).map .str))),s3,s4,s5,s6,some (.lst []),none] ⟨_,rfl⟩ (by
   rintro q x post Q0 eq ⟨a8,rfl⟩;rw[ig];have hx:x∈b.outs:=by rw[eq];simp
   have hl:((q.map (nZ h)).length<1000000)=True:=lE (by
    have:b.outs.length=q.length+(post.length+1):=by rw[eq,fu,jL]
    rw[bY];lia)
   rw[jI (l₁:=q) (l₂:=[x]),c_ (f:=nZ h),pX (f:=nZ h)];refine⟨_,?_,some (fS x),rfl⟩;unfold qy;generalize q.map (nZ h)=Q at *;rcases Fw f b hb x hx with z|z
   .have c1:(h.aB.map aR.name).contains x=true:=HQ.mpr z;have c2:¬h.aG.contains x=true:=λy=>Fc f x (HQ.mp y) z
    have eg:nZ h x=.tup [.str x,.int 0]:=by unfold nZ;rw[aW c2]
    rw[eg];simp only[fU,bG,bB,bH,reduceAdd,reduceLT,cj,bI,a_,↓ag,kO,nJ,bc,bu,bf,bj,cD,yd,de,bJ,br,bF,bz,bD,Gz,dU,c1,cX,eX,bS,reduceLeDiff,e_,dW,jh,ip,bZ,gh,qe,hl]
   .have c2:h.aG.contains x=true:=HQ.mpr z;have c1:(h.aB.map aR.name).contains x=false:=by
     rw[<-HM,HQ];exact Fc f x z
    have eg:nZ h x=.str x:=by unfold nZ;rw[aT c2]
    rw[eg];simp only[fU,bG,bB,bH,reduceAdd,reduceLT,cj,bI,a_,↓ag,kO,nJ,bc,bu,bf,bj,cD,yd,de,bJ,br,bF,bz,bD,Gz,dU,c1,cX,eX,bS,reduceLeDiff,e_,dW,bZ,qe,hl])
 rw[ig] at e;exact⟨a8,e⟩
theorem W0(h:aA)(ok:h_ h)(b:aR)(hb:b∈h.aB)(c:Int):BI [.Y (bR h),.Y (.tup [.str b.name,.int c])]=some (.lst (((i7 h b c).map bT).map .Y),[none,none]):=by
 rw[O1];have ol:=(ok.bk b hb).ol;have bl:=ok.bl;obtain⟨a',e1⟩:=NI h.aB [] none (by rw[uE];lia)
 rw[pX,ig] at e1;obtain⟨j,j1,j2⟩:=YN ok.fwd hb;have ea:fj (h.aB.map bw) (j:Int)=some (bw b):=qL (by rw[lC,j2];rfl)
 obtain⟨a8,e2⟩:=Vx h ok.fwd b hb ol (some (.Y (bR h))) (some (.Y (.tup [.str b.name,.int c]))) (some (.Y (.str b.name))) (some (.Y (.int b.long))) (some (.Y (.bl b.ring))) (some (.Y (.lst (b.outs.map .str))));have et:∃au,stepT [some (.Y (bR h)),some (.Y (.tup [.str b.name,.int c])),some (.Y (.lst ((h.aB.map aR.name).map .str))),some (.Y (.str b.name)),some (.Y (.int b.long)),some (.Y (.bl b.ring)),some (.Y (.lst (b.outs.map .str))),none,none]=some (.rt (.lst ((zX h b c).map .Y)),some (.Y (bR h))::some (.Y (.tup [.str b.name,.int c]))::au)/\au.length=7:=by
  unfold stepT zX;by_cases hc:c+1<b.long
  .rw[aT hc];refine⟨[some (.Y (.lst ((h.aB.map aR.name).map .str))),some (.Y (.str b.name)),some (.Y (.int b.long)),some (.Y (.bl b.ring)),some (.Y (.lst (b.outs.map .str))),none,none],?_,rfl⟩;simp only[cY,dP,de,bJ,bj,bc,bu,bf,↓ag,bS,br,bF,bz,bD,dh,lK,o8,↓evMap,iR,i3,hc,decide_true,a_,fO,eX,cD,bZ,bG,bB,bH,reduceAdd,reduceLeDiff,e_,dW,jh,ip,gh,dX,eJ,eK]
  .rw[aW hc];unfold qr;have l1:((b.outs.map (nZ h)).length<1000000)=True:=lE (by rw[bY];lia)
   refine⟨[some (.Y (.lst ((h.aB.map aR.name).map .str))),some (.Y (.str b.name)),some (.Y (.int b.long)),some (.Y (.bl b.ring)),some (.Y (.lst (b.outs.map .str))),none,a8],?_,rfl⟩;cases hr:b.ring with
   |true=>
    rw[aT rfl];rw[hr] at e2;simp only[cY,dP,de,bJ,bj,bc,bu,bf,↓ag,bS,br,bF,bz,bD,dh,lK,o8,↓evMap,iR,i3,hc,decide_false,a_,dU,fO,eX,cD,bZ,bG,bB,bH,reduceAdd,reduceLeDiff,e_,dW,jh,ip,gh,dX,cX,dY,reduceLT,cj,bI,pj,e2,lJ,qa,kO,nJ,qe,l1,qN]
   |false=>
    rw[aW o5,j9];rw[hr] at e2;simp only[cY,dP,de,bJ,bj,bc,bu,bf,↓ag,bS,br,bF,bz,bD,dh,lK,o8,↓evMap,iR,i3,hc,decide_false,a_,dU,fO,eX,cD,bZ,bG,bB,bH,reduceAdd,reduceLeDiff,e_,dW,jh,ip,gh,dX,cX,dY,reduceLT,cj,bI,pj,e2,lJ,qa,kO,nJ,qe,qN]
 obtain⟨au,et,yo⟩:=et;unfold BI;unfold ID;have ix:Cj [.Y (.lst ((h.aB.map aR.name).map .str)),.Y (.str b.name)]=some (.Y (.int (j:Int))):=by rw[Wh,j1];rfl
 have ea:fj (h.aB.map bw) (j:Int)=some (.tup [.str b.name,.int b.long,.bl b.ring,.lst (b.outs.map .str)]):=ea;generalize(j:Int)=ji at *;simp only[fV,eJ,eK,bG,bB,bH,reduceAdd,reduceSub,eQ,eD,d_,eu,cY,dY,cD,nH,rS,bJ,bj,bc,bf,↓ag,bS,br,bF,bz,bD,dh,HA,bZ,oM,e1,p5,oF,oO,a_,i4,yg,reduceLT,cj,bI,Q7,Wc,bu,lK,ng,↓evMap,ix,pk,ea,xM,xD,fU,xC,et,gw,yo,gb,gc,gj,fY]
theorem NJ{aG:List Str}{bs:List aR}:∀{pre:List aR},mL aG (pre++bs)->mL aG bs
 |[],f=>f
 |_::pre,f=>NJ (pre:=pre) f.2.2.2
def kl(kn:List (Str×Int)):List (TK×O):=kn.map λp=>(.inr p.1,.Y (.int p.2))
def yE(kn:List (Str×Int)):List (TK×D):=kn.map λp=>(.inr p.1,.int p.2)
def atS(kn:List (Str×Int))(n:Str):ai Int:=(kn.find? λp=>p.1 == n).map (·.2)
theorem KY:∀kn:List (Str×Int),O.dk (kl kn)=yE kn
 |[]=>rfl
 |k::ks=>by
  show(_,_)::O.dk (kl ks)=_;rw[KY ks];rfl
theorem Qt(a b:Str):decide ((TK.inr a:TK)=TK.inr b)=(a == b):=by
 by_cases e:a=b
 .rw[jt (by rw[e]),e,rj]
 .rw[jc (λz=>e (TK.inr.inj z)),show(a == b)=false by rw[p7];exact e]
theorem Qu(x:Str):atS [] x=none:=rfl
theorem uR(k:Str)(v:Int)(kn:List (Str×Int))(x:Str):atS ((k,v)::kn) x=if k=x then some v else atS kn x:=by
 unfold atS;rw[qB];by_cases e:k=x
 .rw[aT e,show(k == x)=true by rw[e,rj]];rfl
 .rw[aW e,show(k == x)=false by rw[p7];exact e]
theorem FC(k:Str)(v:Int)(x:Str):∀kn:List (Str×Int),atS (kn++[(k,v)]) x=(atS kn x).or (if k=x then some v else none)
 |[]=>by rw[ig,uR,Qu,Option.none_or]
 |(k',v')::kn=>by
  rw[y8,uR,uR,FC k v x kn];split
  .rfl
  .rfl
theorem Gb(x:Str):∀kn:List (Str×Int),i8 (yE kn) (.inr x)=(atS kn x).map .int
 |[]=>rfl
 |(k,v)::kn=>by
  have ih:=Gb x kn;rw[uR];unfold i8 yE at *;rw[c_,qB];dsimp only;rw[Qt];by_cases e:k=x
  .rw[aT e,show(k == x)=true by rw[e,rj]];rfl
  .rw[aW e,show(k == x)=false by rw[p7];exact e];exact ih
theorem Qv(x:Str):∀kn:List (Str×Int),iO (kl kn) (.inr x)=(atS kn x).map λv=>.Y (.int v)
 |[]=>rfl
 |(k,v)::kn=>by
  have ih:=Qv x kn;rw[uR];unfold iO kl at *;rw[c_,qB];dsimp only;rw[Qt];by_cases e:k=x
  .rw[aT e,show(k == x)=true by rw[e,rj]];rfl
  .rw[aW e,show(k == x)=false by rw[p7];exact e];exact ih
theorem RZ(neg:Bool)(x:Str)(kn:List (Str×Int)):cw neg [.Y (.str x),.aF (kl kn)]=some (.Y (.bl (if neg then !(atS kn x).isSome else(atS kn x).isSome))):=by
 unfold cw;simp only[iG,KY,cI,Option.bind_some,Gb,HP]
theorem RD(neg:Bool)(x:Str)(kn:List (Str×Int)):cw neg [.Y (.str x),.Y (.aF (yE kn))]=some (.Y (.bl (if neg then !(atS kn x).isSome else(atS kn x).isSome))):=by
 unfold cw;simp only[iG,cI,Option.bind_some,Gb,HP]
theorem e7u(kn:List (Str×Int))(x:Str){v:Int}(h:atS kn x=some v):dQ (.aF (kl kn)) (.str x)=some (.Y (.int v)):=by
 show((cI (.str x)).bind λk=>(iO (kl kn) k).bind iL)=_
 rw[show cI (.str x)=some (.inr x) from rfl,Option.bind_some,Qv,h];rfl
theorem ε(kn:List (Str×Int))(x:Str){v:Int}(h:atS kn x=some v):dQ (.Y (.aF (yE kn))) (.str x)=some (.Y (.int v)):=by
 show((cI (.str x)).bind λk=>(i8 (yE kn) k).map O.Y)=_
 rw[show cI (.str x)=some (.inr x) from rfl,Option.bind_some,Gb,h];rfl
theorem Vy{α:Type}(e:TK×α)(es:List (TK×α))(k:TK)(v:α):cP (e::es) k v=if e.1=k then(e.1,v)::es else e::cP es k v:=rfl
theorem Qw:∀(kn:List (Str×Int)) (k:Str) (v:Int),atS kn k=none->cP (kl kn) (.inr k) (.Y (.int v))=kl (kn++[(k,v)])
 |[],_,_,_=>rfl
 |(k',v')::kn,k,v,h=>by
  rw[uR] at h;have e:¬k'=k:=λz=>by rw[aT z] at h;cases h
  rw[aW e] at h;show cP ((TK.inr k',O.Y (.int v'))::kl kn) (.inr k) (.Y (.int v))=(TK.inr k',O.Y (.int v'))::kl (kn++[(k,v)]);rw[<-Qw kn k v h,Vy,aW (λz=>e (TK.inr.inj z))]
theorem ζ(kn:List (Str×Int))(k:Str)(v:Int)(h:atS kn k=none)(hl:kn.length<1000000):jS (.aF (kl kn)) [.Y (.int v),.Y (.str k)]=some (.aF (kl (kn++[(k,v)])),.Y .bh):=by
 show(if(kl kn).length<1000000 then some (O.aF (cP (kl kn) (.inr k) (.Y (.int v))),O.Y .bh) else none)=_
 rw[aT (by unfold kl;rw[bY];exact hl),Qw kn k v h]
theorem R8(kn:List (Str×Int)):(O.aF (kl kn)).d=.aF (yE kn):=by show D.aF (O.dk (kl kn))=_;rw[KY]
def gk(kn:List (Str×Int))(outs:List Str):List Int:=outs.filterMap (atS kn)
def bO(ae:Str):List aR->List (Str×Int)
 |[]=>[(ae,0)]
 |b::bs=>if gk (bO ae bs) b.outs=[] then bO ae bs else bO ae bs++[(b.name,b.long+jo (gk (bO ae bs) b.outs))]
theorem O7(ae:Str):∀bs:List aR,(bO ae bs).length<=bs.length+1
 |[]=>c7 _
 |b::bs=>by
  have:=O7 ae bs;unfold bO;split
  .rw[jL];lia
  .rw[fu,mJ,jL];lia
theorem FD{ae:Str}:∀{bs:List aR} {n:Str},n≠ae->n∉bs.map aR.name->atS (bO ae bs) n=none
 |[],n,h1,_=>by
  show atS [(ae,0)] n=none;rw[uR,aW (λz=>h1 z.symm),Qu]
 |b::bs,n,h1,h2=>by
  rw[c_] at h2;have h3:n≠b.name:=λz=>h2 (by rw[z];exact .head _)
  have ih:=FD (ae:=ae) (bs:=bs) h1 λz=>h2 (.tail _ z)
  unfold bO;split
  .exact ih
  .rw[FC,ih,aW (λz=>h3 z.symm)];rfl
theorem M9(kn:List (Str×Int)):∀outs:List Str,(outs.filter λo=>(atS kn o).isSome).map (λo=>(atS kn o).getD 0)=gk kn outs
 |[]=>rfl
 |o::outs=>by
  have ih:=M9 kn outs;unfold gk at *;cases e:atS kn o with
  |none=>rw[List.filter_cons_of_neg (by rw[e];exact o5),List.filterMap_cons_none e,ih]
  |some v=>rw[List.filter_cons_of_pos (by rw[e];rfl),c_,ih,List.filterMap_cons_some e,e];rfl
theorem W3(h:aA)(ae:Str)(f:mL h.aG h.aB)(hc:ae∈h.aG)(bl:h.aB.length<=100)(ol:∀b∈h.aB,b.outs.length<=100):Ft [.Y (bR h),fS ae]=some (.aF (kl (bO ae h.aB)),[none,none]):=by
 obtain⟨au,e,a3,a4,a5,a6,a7,rfl⟩:=oP (g:=eG [(bp 3),(bp 4),(bp 5),(bp 6)]) (f:=aU (av 7 (ax (kq (jG (af 6)) (bp 0) (gT (gB (cw false) (af 0) (af 1))) (gB bM (af 1) (af 0)) 1 [2]))) (cH (g_ (af 7)) (gD (ax (gB cn (af 4) (gO sX (aq (af 7) gN)))) (af 2) (af 3)) bL)) bw (λpre Q0=>∃a3 a4 a5 a6 a7,Q0=[some (.Y (bR h)),some (fS ae),some (.aF (kl (bO ae pre.reverse))),a3,a4,a5,a6,a7]) h.aB.reverse [] [some (.Y (bR h)),some (fS ae),some (.aF (kl (bO ae []))),none,none,none,none,none] ⟨_,_,_,_,_,rfl⟩ (by
   rintro q x post Q0 eq ⟨a3,a4,a5,a6,a7,rfl⟩;rw[ig];have eb:h.aB=post.reverse++x::q.reverse:=by
    have:=congrArg List.reverse eq;rw[List.reverse_reverse,List.reverse_append,List.reverse_cons,ie] at this;exact this
   have hx:x∈h.aB:=by rw[eb];simp
   have hq:q.reverse.length<=100:=by have:=congrArg List.length eb;simp at this;simp;lia
   have fx:mL h.aG (x::q.reverse):=NJ (by rw[<-eb];exact f)
   have hl:=O7 ae q.reverse;have hox:=ol x hx;obtain⟨cq,⟨a,rfl⟩,ec⟩:=xG (g:=bp 0) (ct:=gT (gB (cw false) (af 0) (af 1))) (ce:=gB bM (af 1) (af 0)) (λQ0=>∃a,Q0=[a,some (.aF (kl (bO ae q.reverse)))]) D.str (λo=>(atS (bO ae q.reverse) o).isSome) (λo=>.int ((atS (bO ae q.reverse) o).getD 0)) x.outs [] [none,some (.aF (kl (bO ae q.reverse)))] ⟨_,rfl⟩ (by rw[uE];lia) (by
    rintro o ho Q0 ⟨a,rfl⟩;refine⟨[some (fS o),some (.aF (kl (bO ae q.reverse)))],?_,_,rfl⟩;cases e:atS (bO ae q.reverse) o with
    |none=>
     rw[HL,aW o5];simp only[t7,fU,bG,bB,bH,reduceAdd,reduceLT,bI,a_,↓ag,de,bJ,bj,bc,bf,bu,br,bF,bz,jJ,ij,bD,RZ,dU,e,HL,cX,dh]
    |some v=>
     have ei:=e7u _ _ e;rw[MX,aT rfl];simp only[t7,fU,bG,bB,bH,reduceAdd,reduceLT,bI,a_,↓ag,de,bJ,bj,bc,bf,bu,br,bF,bz,jJ,ij,bD,RZ,dU,e,MX,cX,dh,ei,Option.getD_some])
   rw[pX,ig,show(x.outs.filter λo=>(atS (bO ae q.reverse) o).isSome).map (λo=>D.int ((atS (bO ae q.reverse) o).getD 0))=(gk (bO ae q.reverse) x.outs).map .int by rw[<-M9,oH];rfl] at ec
   rw[List.reverse_append,List.reverse_singleton,List.singleton_append];have ebg:bO ae (x::q.reverse)=if gk (bO ae q.reverse) x.outs=[] then bO ae q.reverse else bO ae q.reverse++[(x.name,x.long+jo (gk (bO ae q.reverse) x.outs))]:=by
    conv=>lhs;unfold bO
   have hn:atS (bO ae q.reverse) x.name=none:=FD (λz=>fx.2.2.1 (by rw[z];exact hc)) fx.2.1
   generalize bO ae q.reverse=kn at *;rw[ebg];unfold bw;by_cases hb:gk kn x.outs=[]
   .rw[aT hb];rw[hb] at ec;refine⟨_,?_,some (.Y (.str x.name)),some (.Y (.int x.long)),some (.Y (.bl x.ring)),some (.Y (.lst (x.outs.map .str))),some (.Y (.lst [])),rfl⟩;simp only[xM,xD,fU,bG,bB,bH,reduceAdd,reduceLT,cj,bI,a_,↓ag,xC,cY,dY,cD,nH,rS,bc,bu,bf,bZ,eQ,eD,qJ,ij,oM,d_,eu,ec,eK,p5,oF,qK,oO,i4,gh,dP,lJ,bz,xN,MV,mK,dU,rV,bJ,bj,br,bF,bD,dX,cX]
   .rw[aW hb];have em:=Zv _ hb;have ep:=ζ kn x.name (x.long+jo (gk kn x.outs)) hn (by lia)
    have ee:(gk kn x.outs).isEmpty=false:=by
     cases e:gk kn x.outs with
     |nil=>exact b_ e hb
     |cons _ _=>rfl
    refine⟨_,?_,some (.Y (.str x.name)),some (.Y (.int x.long)),some (.Y (.bl x.ring)),some (.Y (.lst (x.outs.map .str))),some (.Y (.lst ((gk kn x.outs).map .int))),rfl⟩;simp only[xM,xD,fU,bG,bB,bH,reduceAdd,reduceLT,cj,bI,a_,↓ag,xC,cY,dY,cD,nH,rS,bc,bu,bf,bZ,eQ,eD,qJ,ij,oM,d_,eu,ec,p5,oF,qK,oO,i4,uj,dP,lJ,bz,xN,List.isEmpty_map,ee,pZ,rV,bJ,bj,br,bF,bD,em,iR,ep,dX])
 rw[ig,List.reverse_reverse,List.map_reverse] at e;unfold Ft Jj;have k1:cI (.str ae)=some (.inr ae):=rfl;have k2:O.aF [(TK.inr ae,O.Y (D.int 0))]=.aF (kl (bO ae [])):=rfl;simp only[fV,eJ,eK,bG,bB,bH,reduceAdd,reduceSub,eQ,eD,d_,eu,cY,dY,OM,bc,bu,bf,↓ag,bS,k1,↓evMap,k2,reduceLT,cj,bI,a_,XR,cD,bJ,bj,br,bF,bz,bD,dh,HA,bZ,e,fO,qN,gw,gb,gc,gj,fY]
theorem ER{x:aR}{bs:List aR}{n:Str}(h:n≠x.name):atS (bO ae (x::bs)) n=atS (bO ae bs) n:=by
 conv=>lhs;unfold bO
 split
 .rfl
 .rw[FC,aW (λz=>h z.symm),Option.or_none]
theorem NK{kn':List (Str×Int)}(h:∀o∈outs,atS kn o=atS kn' o):gk kn outs=gk kn' outs:=by
 unfold gk
 induction outs with
 |nil=>rfl
 |cons o outs ih=>
  have:=ih λz hz=>h z (.tail _ hz)
  rw[HD,HD,h o (.head _),this]
theorem Qx{aG:List Str}{ae:Str}(hc:ae∈aG):∀{bs:List aR},mL aG bs->∀b∈bs,atS (bO ae bs) b.name=if gk (bO ae bs) b.outs=[] then none else some (b.long+jo (gk (bO ae bs) b.outs))
 |x::bs,f,b,hb=>by
  rcases dR.mp hb with rfl|hb
  .have ho:∀o∈b.outs,o≠b.name:=λo ho z=>by
    rcases f.1 o ho with y|y
    .exact f.2.1 (by rw[<-z];exact y)
    .exact f.2.2.1 (by rw[<-z];exact y)
   have e:=NK (kn:=bO ae (b::bs)) (kn':=bO ae bs) (outs:=b.outs) λo m=>ER (ho o m)
   rw[e]
   conv=>lhs;unfold bO
   have hn:atS (bO ae bs) b.name=none:=FD (λz=>f.2.2.1 (by rw[z];exact hc)) f.2.1
   split
   .exact hn
   .rw[FC,hn,aT rfl];rfl
  .have hn:b.name≠x.name:=λz=>f.2.1 (by rw[<-z];exact Bq (f:=aR.name) hb)
   have ho:∀o∈b.outs,o≠x.name:=λo ho z=>by
    rcases Fw f.2.2.2 b hb o ho with y|y
    .exact f.2.1 (by rw[<-z];exact y)
    .exact f.2.2.1 (by rw[<-z];exact y)
   have e:=NK (kn:=bO ae (x::bs)) (kn':=bO ae bs) (outs:=b.outs) λo m=>ER (ho o m)
   rw[e,ER hn];exact Qx hc f.2.2.2 b hb
theorem Qy{aG:List Str}{ae:Str}(hc:ae∈aG):∀{bs:List aR},mL aG bs->atS (bO ae bs) ae=some 0
 |[],_=>by show atS [(ae,0)] ae=some 0;rw[uR,aT rfl]
 |x::bs,f=>by rw[ER (λz=>f.2.2.1 (by rw[<-z];exact hc))];exact Qy hc f.2.2.2
theorem W5{aG:List Str}{c:Str}{bs:List aR}(f:mL aG bs)(hc:c∈aG)(h:c≠ae):atS (bO ae bs) c=none:=FD h (Fc f c hc)
theorem jC{v:Int}:v∈gk kn outs↔∃o∈outs,atS kn o=some v:=Ey
theorem JX{n:Str}{v:Int}(e:atS kn n=some v):(n,v)∈kn:=by
 induction kn with
 |nil=>cases e
 |cons a kn ih=>
  obtain⟨k,w⟩:=a;rw[uR] at e;split at e
  .rename_i q
   cases e;rw[q];exact .head _
  .exact .tail _ (ih e)
theorem RE{ae:Str}{L:Nat}:∀{bs:List aR},(∀b∈bs,0<=b.long/\b.long<=L)->∀p,p∈bO ae bs->0<=p.2/\p.2<=((bs.length*L:Nat):Int)
 |[],_,p,m=>by
  rw[show p=(ae,0) from iz.mp m];exact⟨vK 0,by lia⟩
 |b::bs,hb,p,m=>by
  have ih:=RE (ae:=ae) λx mx=>hb x (.tail _ mx)
  obtain⟨b0,b1⟩:=hb b (.head _);have el:(((b::bs).length*L:Nat):Int)=((bs.length*L:Nat):Int)+L:=by rw[jL,Nat.add_mul,Nat.one_mul];lia
  rw[el];unfold bO at m;split at m
  .have:=ih p m;lia
  .rename_i ne
   rcases eR.mp m with m|m
   .have:=ih p m;lia
   .rw[iz] at m;obtain⟨z1,_⟩:=zo ne;obtain⟨o,_,eo⟩:=jC.mp z1;have:=ih _ (JX eo);rw[m];dsimp only at *;lia
def bP(h:aA)(ae:Str)(p:Pl):ai Int:=(atS (bO ae h.aB) p.1).map λv=>v - p.2
def Md:ai Int->D
 |none=>.bh
 |some v=>.int v
section
variable{h:aA}(ok:h_ h){ae:Str}(hc:ae∈h.aG)
include ok hc
theorem R0(p:Pl):uu [.Y (bR h),.Y (aN p),.Y (.str ae)]=some (.Y (Md (bP h ae p)),[none,none,none]):=by
 have e1:=W3 h ae ok.fwd hc (by have:=ok.bl;lia) λb hb=>by have:=(ok.bk b hb).ol;lia
 unfold uu KI bP aN;cases e:atS (bO ae h.aB) p.1 with
 |none=>simp only[fV,eJ,eK,bG,bB,bH,reduceAdd,reduceSub,eQ,eD,d_,eu,cY,dY,cD,fK,bj,bc,bf,↓ag,bu,br,fJ,fH,e1,fX,fW,R8,reduceLT,cj,bI,a_,dP,de,bJ,bS,bF,bz,bD,dh,lK,ng,↓evMap,RD,e,HL,pZ,fO,dX,gw,gb,gc,gj,fY];rfl
 |some v=>
  have ei:=ε _ _ e;simp only[fV,eJ,eK,bG,bB,bH,reduceAdd,reduceSub,eQ,eD,d_,eu,cY,dY,cD,fK,bj,bc,bf,↓ag,bu,br,fJ,fH,e1,fX,fW,R8,reduceLT,cj,bI,a_,dP,de,bJ,bS,bF,bz,bD,dh,lK,ng,↓evMap,RD,e,MX,mK,dU,fO,dX,cX,ei,o8,i3,gw,gb,gc,gj,fY];rfl
theorem R1:∀p,p∈bO ae h.aB->0<=p.2/\p.2<=30:=λp m=>by
 obtain⟨L,hL,Sg⟩:=ok.tl;have:=RE (L:=L) (λb hb=>⟨by have:=(ok.bk b hb).lg.1;lia,hL b hb⟩) p m
 lia
theorem JY{b:aR}(hb:b∈h.aB){v:Int}:atS (bO ae h.aB) b.name=some v↔gk (bO ae h.aB) b.outs≠[]/\v=b.long+jo (gk (bO ae h.aB) b.outs):=by
 rw[Qx hc ok.fwd b hb];split
 .rename_i z
  exact⟨λy=>(by cases y),λy=>b_ z y.1⟩
 .rename_i z
  exact⟨λy=>(by cases y;exact⟨z,rfl⟩),λy=>(by rw[y.2])⟩
theorem B6(v:VP h p){d:Int}(e:bP h ae p=some d):1<=d/\d<=30:=by
 obtain⟨n,c⟩:=p;obtain⟨b,hb,rfl,c0,c1⟩:=v;obtain⟨w,ew,rfl⟩:=j_.mp e;have h1:=R1 ok hc _ (JX ew);obtain⟨ne,rfl⟩:=(JY ok hc hb).mp ew;obtain⟨o,_,eo⟩:=jC.mp (zo ne).1;have h2:=R1 ok hc _ (JX eo);dsimp only at *;lia
theorem Qz{b:aR}(hb:b∈h.aB){c:Int}(c0:¬c+1<b.long){o:Str}(ho:o∈b.outs){w:Int}(e:atS (bO ae h.aB) o=some w):∃d,bP h ae (b.name,c)=some d/\d<=w+1:=by
 have m:=jC.mpr ⟨o,ho,e⟩;have ne:gk (bO ae h.aB) b.outs≠[]:=List.ne_nil_of_mem m;refine⟨_,by unfold bP;rw[(JY ok hc hb).mpr ⟨ne,rfl⟩];rfl,?_⟩
 have:=(zo ne).2 w m;dsimp only;lia
theorem O8(v:VP h p)(hq:q∈i6 h p){e:Int}(eq:bP h ae q=some e):∃d,bP h ae p=some d/\d<=e+1:=by
 rw[hG] at hq;obtain⟨n,c⟩:=p;obtain⟨b,hb,rfl,c0,c1⟩:=v;rw[yc ok hb] at hq;obtain⟨w,ew,rfl⟩:=j_.mp eq;rcases eR.mp hq with hq|hq
 .unfold i7 at hq;split at hq
  .rw[iz] at hq;cases hq;exact⟨w - c,by unfold bP;rw[ew];rfl,by dsimp only;lia⟩
  .rename_i hl
   rcases eR.mp hq with hq|hq
   .obtain⟨o,ho,e⟩:=gQ.mp hq;split at e
    .cases e
    .cases e;obtain⟨d,h1,h2⟩:=Qz ok hc hb hl ho ew;exact⟨d,h1,by dsimp only;lia⟩
   .split at hq
    .rw[iz] at hq;cases hq;exact⟨w - c,by unfold bP;rw[ew];rfl,by dsimp only at *;lia⟩
    .cases hq
 .rw[iz] at hq;cases hq;exact⟨w - c,by unfold bP;rw[ew];rfl,by dsimp only;lia⟩
theorem O9(v:VP h p)(hq:eT (.inl ae) (jE h p)=true):∃d,bP h ae p=some d/\d<=1:=by
 rw[gG] at hq;obtain⟨n,c⟩:=p;obtain⟨b,hb,rfl,c0,c1⟩:=v;rw[yc ok hb] at hq;rcases eR.mp hq with hq|hq
 .unfold i7 at hq;split at hq
  .rw[iz] at hq;cases hq
  .rename_i hl
   rcases eR.mp hq with hq|hq
   .obtain⟨o,ho,e⟩:=gQ.mp hq;split at e
    .cases e;exact Qz ok hc hb hl ho (Qy hc ok.fwd)
    .cases e
   .split at hq
    .rw[iz] at hq;cases hq
    .cases hq
 .rw[iz] at hq;cases hq
theorem RF(v:VP h p){d:Int}(e:bP h ae p=some d):eT (.inl ae) (jE h p)=true\/∃q,q∈i6 h p/\bP h ae q=some (d - 1):=by
 obtain⟨n,c⟩:=p;obtain⟨b,hb,rfl,c0,c1⟩:=v;obtain⟨w,ew,rfl⟩:=j_.mp e;dsimp only at *;by_cases hl:c+1<b.long
 .refine .inr ⟨(b.name,c+1),hG.mpr ?_,?_⟩
  .rw[yc ok hb];unfold i7;rw[aT hl];simp
  .unfold bP;rw[ew];show some _=some _
   congr 1
   dsimp only;lia
 .obtain⟨ne,rfl⟩:=(JY ok hc hb).mp ew;obtain⟨o,ho,eo⟩:=jC.mp (zo ne).1;have key:∀s,(if h.aG.contains o=true then(.inl o:Sp) else .inr (o,0))=s->s∈jE h (b.name,c):=λs es=>by
   rw[yc ok hb];unfold i7;rw[aW hl];exact jb _ (jb _ (gQ.mpr ⟨o,ho,es⟩))
  by_cases oc:o∈h.aG
  .by_cases z:o=ae
   .refine .inl (gG.mpr (key _ ?_));rw[aT (by simpa using oc),z]
   .rw[W5 ok.fwd oc z] at eo;cases eo
  .refine .inr ⟨(o,0),hG.mpr (key _ (aW (by simpa using oc))),?_⟩
   unfold bP;rw[eo];show some _=some _
   congr 1
   dsimp only;lia
end
theorem QA{h:aA}(ok:h_ h){ae:Str}(hc:ae∈h.aG){p:Pl}(v:VP h p):∀{m:Nat} {q:Pl},rq h [p] [] m q->VP h q/\∀e,bP h ae q=some e->∃d,bP h ae p=some d/\d<=(m:Int)+e
 |0,q,z=>by
  rw[show q=p from iz.mp z];exact⟨v,λe he=>⟨e,he,by lia⟩⟩
 |m+1,q,⟨p',z,_,g⟩=>by
  obtain⟨v',ih⟩:=QA ok hc v z;refine⟨Fe ok v' g,λe he=>?_⟩
  obtain⟨d',h1,h2⟩:=O8 ok hc v' g he;obtain⟨d,h3,h4⟩:=ih d' h1;exact⟨d,h3,by lia⟩
def rn(h:aA)(P:List Pl)(ae:Str)(n:Nat):Prop:=∀C,Sep h P ae n C->P.length<=C.length
section
variable{h:aA}{P P':List Pl}{ae:Str}{n n':Nat}
theorem W7(ok:h_ h)(nd:P.Nodup)(vq:∀p,p∈P->VP h p)(td:Told h P ae n W C):W.length<=P.length/\(W.length=P.length↔rn h P ae n):=by
 obtain⟨k1,k2,k3⟩:=WU ok nd vq td;have l:=Ψ (h:=h) (P:=P) (ae:=ae) (n:=n) (k:=W.length) ⟨⟨C,k1,k2⟩,k3⟩;refine⟨l,λe C' s=>?_,λf=>?_⟩
 .have:=k3 C' s;lia
 .have:=f C k1;lia
theorem QB{p:Pl}:∀{m:Nat} {q:Pl},rq h P ((P.erase p).map (at' · 0)) m q->at' q (m:Int)∉(P.erase p).map (at' · 0)->rq h [p] [] m q
 |0,q,z,hc=>by
  by_cases e:q=p
  .rw[e];exact .head _
  .exact b_ (gQ.mpr ⟨q,(List.mem_erase_of_ne e).mpr z,rfl⟩) hc
 |m+1,q,⟨p',z,lS,g⟩,_=>⟨p',QB z lS,by simp,g⟩
variable(ok:h_ h)(hc:ae∈h.aG)(vq:∀p,p∈P->VP h p)
include ok hc vq
theorem YO(f:rn h P ae n)(mp:p∈P){d:Int}(e:bP h ae p=some d):d<=(n:Int):=by
 refine p8 λhd=>?_
 have:=f ((P.erase p).map (at' · 0)) λm hm q z hcq hq=>by
  obtain⟨vq,key⟩:=QA ok hc (vq p mp) (QB z hcq);obtain⟨e1,h1,h2⟩:=O9 ok hc vq hq;obtain⟨d',h3,h4⟩:=key e1 h1;rw[e] at h3;cases h3;lia
 rw[bY,List.length_erase_of_mem mp] at this;have:=List.length_pos_of_mem mp;lia
omit vq
theorem O_{C:List Ct}:∀(d t:Nat) (p:Pl),VP h p->bP h ae p=some (d:Int)->rq h P C t p->(∀(c:Pl) (k:Nat),t<=k->k<t+d->at' c (k:Int)∉C)->∃m,m<t+d/\∃q,rq h P C m q/\at' q (m:Int)∉C/\eT (.inl ae) (jE h q)=true
 |0,t,p,vp,e,_,_=>by
  have:=B6 ok hc vp e;lia
 |d+1,t,p,vp,e,z,nc=>by
  have n0:=nc p t (c7 _) (by lia)
  rcases RF ok hc vp e with hm|⟨q,g,eq⟩
  .exact⟨t,by lia,p,z,n0,hm⟩
  .rw[show((d+1:Nat):Int) - 1=(d:Int) by lia] at eq
   obtain⟨m,h1,h2⟩:=O_ d (t+1) q (Fe ok vp g) eq ⟨p,z,n0,g⟩ λc k k1 k2=>nc c k (by lia) (by lia)
   exact⟨m,by lia,h2⟩
omit ok hc
theorem QC{C:List Ct}{p:Pl}(mp:p∈P)(nc:∀k:Nat,at' p (k:Int)∉C):∀t,rq h P C t p
 |0=>mp
 |t+1=>⟨p,QC mp nc t,nc t,hG.mpr (iB _ (.head _))⟩
include ok hc vq
theorem YR(nd:P.Nodup)(hf:∀p,p∈P->∃d,bP h ae p=some d)(hn:P.length*30<=n):rn h P ae n:=λC s=>p8 λhl=>by
 obtain⟨p,mp,np⟩:∃p,p∈P/\∀k:Nat,at' p (k:Int)∉C:=p8 λz=>hl (by
  have:=vR nd (m:=C.map λc=>(c.1,c.2.1)) λp mp=>by
   refine p8 λy=>z ⟨p,mp,λk hk=>y (gQ.mpr ⟨_,hk,rfl⟩)⟩
  rw[bY] at this;exact this)
 obtain⟨j,hj,nj⟩:∃j,j<P.length/\∀c,c∈C->c.2.2.toNat / 30≠j:=p8 λz=>hl (by
  have:=vR (List.nodup_range (n:=P.length)) (m:=C.map λc=>c.2.2.toNat / 30) λj mj=>by
   rw[rf] at mj;refine p8 λy=>z ⟨j,mj,λc Lm e=>y (gQ.mpr ⟨c,Lm,e⟩)⟩
  rw[bY,pY] at this;exact this)
 obtain⟨d,e⟩:=hf p mp;have dp:=B6 ok hc (vq p mp) e;obtain⟨k,hk⟩:∃k:Nat,d=(k:Int):=⟨d.toNat,by lia⟩
 subst hk;obtain⟨m,h1,q,h2,h3,h4⟩:=O_ ok hc k (j*30) p (vq p mp) e (QC mp np _) λc k' k1 k2 hm=>nj _ hm (by
  show((k':Int)).toNat / 30=j;rw[Int.toNat_natCast];lia)
 exact s m (by lia) q h2 h3 h4
end
theorem CQ(os:List O):kh (.tup os)=none:=rfl
def fv(h:aA)(ae:Str)(p:Pl):Int:=(bP h ae p).getD 0
def tR(H PL:D)(c:Str)(T:Int)(a4 a5:ai O):Gm:=[some (.Y H),some (.Y PL),some (.Y (.str c)),some (.Y (.int T)),a4,a5]
theorem QD{c:Str}{C BB:List D}(hP:PL=.lst BB)(a4:ai O)(b:Bool)(hb:b=decide (W.length<BB.length)):Ef (tR H PL c T a4 (some (.Y (.tup [.lst W,.lst C]))))=some (b,tR H PL c T a4 (some (.Y (.tup [.lst W,.lst C])))):=by
 subst hP;have e1:=JV W;have e2:=JV BB;have e3:decide ((W.length:Int)<(BB.length:Int))=b:=by rw[hb];exact decide_eq_decide.mpr (by lia)
 generalize(W.length:Int)=n1 at *;generalize(BB.length:Int)=n2 at *;unfold Ef tR;simp only[de,bJ,bj,bc,bu,bf,↓ag,bS,br,bF,bz,bD,dh,lK,ng,↓evMap,e1,e2,i3,e3,a_]
theorem YS{c:Str}{C:List D}(d5:D)(e:xw [.Y H,.Y PL,.Y (.str c),.Y (.int (T+1))]=some (.tup [.lst (W.map .Y),.Y (.lst C)],[none,none,none,none]))(a4:ai O):Ee (tR H PL c T a4 (some (.Y d5)))=some (.nx,tR H PL c (T+1) (some (.Y d5)) (some (.Y (.tup [.lst W,.lst C])))):=by
 have dw:O.dl (W.map .Y)=W:=pe _;unfold Ee tR;simp only[cY,dY,bc,bu,bf,↓ag,bG,bB,bH,reduceAdd,reduceLT,cj,bI,a_,X_,bS,cD,fK,bj,br,fJ,fH,e,fX,fW,jh,ip,i4,dw,bZ,gh]
theorem RG{b:GS}{K:Nat}(e:f Q0=some (false,Q0)):gf f b (K+1) Q0=some (.nx,Q0):=by
 rw[gf];simp only[e,↓ag,dU,cX]
theorem R3{b:GS}{K:Nat}(e:f Q0=some (true,Q0))(e2:b Q0=some (.nx,cq)):gf f b (K+1) Q0=gf f b K cq:=by
 rw[gf];simp only[e,↓ag,e2,a_]
theorem e7v{b:GS}{K:Nat}{o:O}(e:f Q0=some (true,Q0))(e2:b Q0=some (.rt o,cq)):gf f b (K+1) Q0=some (.rt o,cq):=by
 rw[gf];simp only[e,↓ag,e2,a_]
structure Sn (h:aA) (P:List Pl) (ae:Str) (N:Nat):Prop where
 le:N<=180
 z:P=[]->N=0
 f:P≠[]->1<=N/\rn h P ae N/\¬rn h P ae (N - 1)
section
variable{h:aA}(ok:h_ h){P:List Pl}(nd:P.Nodup)(vq:∀p,p∈P->VP h p){ae:Str}(hc:ae∈h.aG)(hP:P.length<=6)(hf:∀p,p∈P->∃d,bP h ae p=some d)
include ok nd vq hc hP hf
theorem QE:∀(j n K:Nat) (d4:List D×List D) (W:List D) (C:List Ct),n+j=180->j<K->1<=n->¬rn h P ae (n - 1)->Told h P ae n W C->
  ∃(N:Nat) (W' C' W4 C4:List D),n<=N/\N<=180/\rn h P ae N/\¬rn h P ae (N - 1)/\gf Ef Ee K (tR (bR h) (.lst (P.map aN)) ae (n:Int) (some (.Y (.tup [.lst d4.1,.lst d4.2]))) (some (.Y (.tup [.lst W,.lst (C.map gr)]))))=some (.nx,tR (bR h) (.lst (P.map aN)) ae (N:Int) (some (.Y (.tup [.lst W4,.lst C4]))) (some (.Y (.tup [.lst W',.lst C']))))
 |j,n,0,_,_,_,_,hK,_,_,_=>b_ hK (EI _)
 |j,n,K+1,d4,W,C,hj,hK,n1,nf,td=>by
  obtain⟨t1,t2⟩:=W7 ok nd vq td;by_cases c:W.length<P.length
  .have e1:=QD (H:=bR h) (PL:=.lst (P.map aN)) (c:=ae) (T:=(n:Int)) (W:=W) (C:=C.map gr) rfl (some (.Y (.tup [.lst d4.1,.lst d4.2]))) true (by rw[bY];exact(jt c).symm)
   have SW:¬rn h P ae n:=λz=>by have:=t2.mpr z;lia
   cases j with
   |zero=>exact b_ (YR ok hc vq nd hf (by lia)) SW
   |succ j=>
    obtain⟨W2,C2,td2,e6⟩:=IL ok nd vq ae ((n:Int)+1) (n+1) rfl (by lia) (by lia)
    have e2:=YS (.tup [.lst W,.lst (C.map gr)]) e6 (some (.Y (.tup [.lst d4.1,.lst d4.2])));obtain⟨N,W',C',W4,C4,h1,h2,h3,h4,h5⟩:=QE j (n+1) K (W,C.map gr) W2 C2 (by lia) (by lia) (by lia) SW td2
    exact⟨N,W',C',W4,C4,by lia,h2,h3,h4,(R3 e1 e2).trans h5⟩
  .have e1:=QD (H:=bR h) (PL:=.lst (P.map aN)) (c:=ae) (T:=(n:Int)) (W:=W) (C:=C.map gr) rfl (some (.Y (.tup [.lst d4.1,.lst d4.2]))) false (by rw[bY];exact(jc c).symm)
   exact⟨n,W,_,d4.1,d4.2,c7 _,by lia,t2.mp (by lia),nf,RG e1⟩
end
theorem η(ok:h_ h)(hc:ae∈h.aG)(p:Pl)(PL:D)(b3:ai O):(bp 3 (aN p) [some (.Y (bR h)),some (.Y PL),some (.Y (.str ae)),b3]).bind wj=some (match bP h ae p with|some _=>.nx|none=>.rt (.Y (.exc 85 none)),[some (.Y (bR h)),some (.Y PL),some (.Y (.str ae)),some (.Y (aN p))]):=by
 have e1:=R0 ok hc p;cases hd:bP h ae p with
 |some d=>
  rw[hd] at e1;have e1:uu [.Y (bR h),.Y (aN p),.Y (.str ae)]=some (.Y (.int d),[none,none,none]):=e1;have e2:kY false [.Y (.int d),.Y .bh]=some (.Y (.bl false)):=rfl;generalize aN p=pd at *;unfold wj;simp only[fU,bG,bB,bH,reduceAdd,reduceLT,cj,bI,a_,↓ag,dP,de,bJ,bj,BN,bc,bf,bu,br,bF,bz,bD,ip,bZ,gh,eJ,eK,e1,PJ,bS,e2,dU,OS,dX,cX]
 |none=>
  rw[hd] at e1;have e1:uu [.Y (bR h),.Y (aN p),.Y (.str ae)]=some (.Y .bh,[none,none,none]):=e1;have e2:kY false [.Y .bh,.Y .bh]=some (.Y (.bl true)):=rfl;generalize aN p=pd at *;unfold wj;simp only[fU,bG,bB,bH,reduceAdd,reduceLT,cj,bI,a_,↓ag,dP,de,bJ,bj,BN,bc,bf,bu,br,bF,bz,bD,ip,bZ,gh,eJ,eK,e1,XM,bS,e2,OS,dX]
theorem QF{h:aA}(ok:h_ h){ae:Str}(hc:ae∈h.aG)(PL:D):∀(Q:List Pl) (b3:ai O),
  ((∀p,p∈Q->∃d,bP h ae p=some d)/\∃c3,fM (bp 3) wj (Q.map aN) [some (.Y (bR h)),some (.Y PL),some (.Y (.str ae)),b3]=some (.nx,[some (.Y (bR h)),some (.Y PL),some (.Y (.str ae)),c3]))\/
  ((∃p,p∈Q/\bP h ae p=none)/\∃c3,fM (bp 3) wj (Q.map aN) [some (.Y (bR h)),some (.Y PL),some (.Y (.str ae)),b3]=some (.rt (.Y (.exc 85 none)),[some (.Y (bR h)),some (.Y PL),some (.Y (.str ae)),c3]))
 |[],b3=>.inl ⟨λp m=>(by cases m),b3,rfl⟩
 |p::Q,b3=>by
  have e:=η ok hc p PL b3;rw[c_,xF];cases q:bp 3 (aN p) [some (.Y (bR h)),some (.Y PL),some (.Y (.str ae)),b3] with
  |none=>rw[q] at e;cases e
  |some aE=>
   rw[q,Option.bind_some] at e;rw[Option.bind_some,e,Option.bind_some];cases hd:bP h ae p with
   |some d=>
    rcases QF ok hc PL Q (some (.Y (aN p))) with⟨f,c3,e2⟩|⟨f,c3,e2⟩
    .refine .inl ⟨λx m=>?_,c3,e2⟩
     rcases dR.mp m with m|m
     .rw[m];exact⟨d,hd⟩
     .exact f x m
    .obtain⟨x,mx,ex⟩:=f;exact .inr ⟨⟨x,.tail _ mx,ex⟩,c3,e2⟩
   |none=>exact .inr ⟨⟨p,.head _,hd⟩,_,rfl⟩
theorem JZ(ok:h_ h)(hc:ae∈h.aG)(P:List Pl):
  ((∀p,p∈P->∃d,bP h ae p=some d)/\xt [.Y (bR h),.Y (.lst (P.map aN)),.Y (.str ae)]=some (.Y .bh,[none,none,none]))\/
  ((∃p,p∈P/\bP h ae p=none)/\xt [.Y (bR h),.Y (.lst (P.map aN)),.Y (.str ae)]=some (.Y (.exc 85 none),[none,none,none])):=by
 unfold xt;unfold HY;rcases QF ok hc (.lst (P.map aN)) P none with⟨f,c3,e⟩|⟨f,c3,e⟩
 .refine .inl ⟨f,?_⟩;generalize wj=cb at *;simp only[fV,eJ,eK,bG,bB,bH,reduceAdd,reduceSub,eQ,eD,d_,eu,pj,cD,bc,bu,bf,↓ag,bZ,e,Ky,gb,gc,gj,fY,a_]
 .refine .inr ⟨f,?_⟩;generalize wj=cb at *;simp only[fV,eJ,eK,bG,bB,bH,reduceAdd,reduceSub,eQ,eD,d_,eu,pj,cD,bc,bu,bf,↓ag,bZ,e,gw,gb,gc,gj,fY,a_]
section
variable{h:aA}(ok:h_ h){P:List Pl}(nd:P.Nodup)(vq:∀p,p∈P->VP h p){ae:Str}(hc:ae∈h.aG)(hP:P.length<=6)(hf:∀p,p∈P->∃d,bP h ae p=some d)
include ok vq hc hf
theorem θ(hl:P.length<=6):∃a,compLoop (bp 0) fm (ph uu (aq (af 1) (aq (af 0) (aq (af 2) gN)))) (P.map aN) [none,some (.Y (bR h)),some (.Y (.str ae))] []=some (((P.map (fv h ae)).map D.int).map .Y,[a,some (.Y (bR h)),some (.Y (.str ae))]):=by
 obtain⟨m_,⟨x0,rfl⟩,e3⟩:=xH (g:=bp 0) (ct:=fm) (ce:=ph uu (aq (af 1) (aq (af 0) (aq (af 2) gN)))) (λQ0=>∃x0,Q0=[x0,some (.Y (bR h)),some (.Y (.str ae))]) aN (λp=>D.int (fv h ae p)) P [none,some (.Y (bR h)),some (.Y (.str ae))] ⟨none,rfl⟩ (by lia) (by
  rintro p mp Q0 ⟨x0,rfl⟩;refine⟨[some (.Y (aN p)),some (.Y (bR h)),some (.Y (.str ae))],?_,_,rfl⟩;obtain⟨d,hd⟩:=hf p mp;have e1:=R0 ok hc p;have ed:fv h ae p=d:=by unfold fv;rw[hd];rfl
  rw[hd] at e1;have e1:uu [.Y (bR h),.Y (aN p),.Y (.str ae)]=some (.Y (.int d),[none,none,none]):=e1;rw[ed];generalize aN p=pd at *;simp only[t7,fU,bG,bB,bH,reduceAdd,reduceLT,bI,a_,↓ag,uU,BN,bj,bc,bu,bf,br,bF,bz,bD,ip,bZ,gh,eJ,eK,e1,PJ])
 refine⟨x0,?_⟩;rw[show(P.map (fv h ae)).map D.int=P.map λp=>D.int (fv h ae p) by rw[oH];rfl]
 exact e3
include nd hP
theorem YT(n:Nat)(h1:1<=n)(h2:n<=30)(nf:¬rn h P ae (n - 1)):∃(N:Nat) (A B:D) (au:Gm),au.length=3/\N<=180/\n<=N/\rn h P ae N/\¬rn h P ae (N - 1)/\yY (tR (bR h) (.lst (P.map aN)) ae (n:Int) none none)=some (.rt (.tup [.Y (.int (N:Int)),.Y A,.Y B]),[some (.Y (bR h)),some (.Y (.lst (P.map aN))),some (.Y (.str ae))]++au):=by
 obtain⟨W4,C4,_,e4⟩:=IL ok nd vq ae ((n:Int) - 1) (n - 1) (by lia) (by lia) (by lia)
 obtain⟨W,C,td,e5⟩:=IL ok nd vq ae (n:Int) n rfl (by lia) (by lia)
 obtain⟨N,W',C',W6,C6,k1,k2,k3,k4,e6⟩:=QE ok nd vq hc hP hf (180 - n) n 1000000 (W4,C4.map gr) W C (by lia) (by lia) h1 nf td
 have d4:O.dl (W4.map .Y)=W4:=pe _;have d5:O.dl (W.map .Y)=W:=pe _;refine⟨N,.lst W',.lst C6,[some (.Y (.int (N:Int))),some (.Y (.tup [.lst W6,.lst C6])),some (.Y (.tup [.lst W',.lst C']))],rfl,k2,k1,k3,k4,?_⟩;generalize(N:Int)=Ni at *;generalize(n:Int)=ni at *;generalize C4.map gr=D4 at *;generalize C.map gr=D5 at *;unfold yY;unfold tR at *;dsimp only at e6;generalize Ef=sc at *;generalize Ee=sb at *;simp only[cY,dY,cD,fK,bj,bc,bf,↓ag,bu,bJ,bS,br,bF,bz,bD,i3,a_,fJ,fH,e4,fX,fW,jh,ip,i4,d4,bZ,gh,bG,bB,bH,reduceAdd,reduceLT,cj,bI,e5,d5,e6,FR,eX,dh,lK,ng,↓evMap,o8,reduceLeDiff,e_,dW,CQ,d_,eu]
theorem Vz:∃(N:Nat) (A B:D),Sn h P ae N/\rA [.Y (bR h),.Y (.lst (P.map aN)),.Y (.str ae)]=some (.tup [.Y (.int (N:Int)),.Y A,.Y B],[none,none,none]):=by
 have e1:=(JZ ok hc P).resolve_right (λz=>by obtain⟨⟨p,mp,ep⟩,_⟩:=z;obtain⟨d,hd⟩:=hf p mp;rw[ep] at hd;cases hd)
 have e1:=e1.2;cases hQ:P with
 |nil=>
  subst hQ;refine⟨0,.lst [],.lst [],⟨by lia,λ_=>rfl,λz=>b_ rfl z⟩,?_⟩
  unfold rA;unfold zu;have e1:xt [.Y (bR h),.Y (.lst []),.Y (.str ae)]=_:=e1;generalize yY=st at *;have z:((0:Nat):Int)=0:=rfl;rw[z,pX];simp only[fV,eJ,eK,bG,bB,bH,reduceAdd,reduceSub,eQ,eD,d_,eu,cY,Fp,fK,bj,bc,bf,↓ag,bu,br,fJ,fH,e1,fX,fW,JK,dP,ua,lJ,bz,xN,MV,mK,pZ,FR,eX,bS,cD,reduceLeDiff,dW,a_,i4,gh,e_,CQ,dX,gw,gb,gc,gj,fY]
 |cons p0 P0=>
  rw[<-hQ];have ne:P≠[]:=by rw[hQ];exact List.cons_ne_nil _ _
  have ne':P.map (fv h ae)≠[]:=by simpa using ne
  obtain⟨a,e2⟩:=θ ok vq hc hf hP;have e3:=ZE ne';obtain⟨m1,m2⟩:=Oa ne';obtain⟨p,mp,ep⟩:=gQ.mp m1;obtain⟨d,hd⟩:=hf p mp;have dp:=B6 ok hc (vq p mp) hd;have ed:fv h ae p=d:=by unfold fv;rw[hd];rfl
  obtain⟨n,hn⟩:∃n:Nat,kX (P.map (fv h ae))=(n:Int):=⟨d.toNat,by lia⟩
  obtain⟨N,A,B,au,gl,k1,k2,k3,k4,e4⟩:=YT ok nd vq hc hP hf n (by lia) (by lia) λf=>by
   have:=YO ok hc vq f mp hd;lia
  refine⟨N,A,B,⟨k1,λz=>b_ z ne,λ_=>⟨by lia,k3,k4⟩⟩,?_⟩
  have ee:(P.map aN).isEmpty=false:=by rw[hQ];rfl
  obtain⟨g3,g4,g5,rfl⟩:∃g3 g4 g5,au=[g3,g4,g5]:=by
   match au,gl with
   |[g3,g4,g5],_=>exact⟨_,_,_,rfl⟩
  rw[hn] at e3;unfold tR at e4;generalize(n:Int)=ni at *;generalize(N:Int)=Ni at *;generalize(P.map (fv h ae)).map D.int=L at *;generalize P.map aN=PL at *;unfold rA;unfold zu;unfold Mp;generalize yY=st at *;simp only[fV,eJ,eK,bG,bB,bH,reduceAdd,reduceSub,eQ,eD,d_,eu,cY,Fp,fK,bj,bc,bf,↓ag,bu,br,fJ,fH,e1,fX,fW,JK,dP,ua,lJ,bz,xN,ee,pZ,mK,dU,FR,eX,bS,cD,reduceLeDiff,dW,a_,i4,gh,e_,dX,cX,dY,bJ,nH,rS,bZ,qJ,ij,bI,cj,oM,e2,p5,oF,qK,oO,bF,bD,e3,reduceLT,e4,gw,gb,gc,gj,fY]
omit nd vq hP hf
theorem W8(z:∃p,p∈P/\bP h ae p=none):rA [.Y (bR h),.Y (.lst (P.map aN)),.Y (.str ae)]=some (.Y (.exc 85 none),[none,none,none]):=by
 have e1:=(JZ ok hc P).resolve_left (λy=>by obtain⟨p,mp,ep⟩:=z;obtain⟨d,hd⟩:=y.1 p mp;rw[ep] at hd;cases hd)
 have e1:=e1.2;generalize P.map aN=PL at *;unfold rA;unfold zu;generalize yY=st at *;generalize Mp=sf at *;simp only[fV,eJ,eK,bG,bB,bH,reduceAdd,reduceSub,eQ,eD,d_,eu,cY,Fp,fK,bj,bc,bf,↓ag,bu,br,fJ,fH,e1,fX,fW,PR,gw,gb,gc,gj,fY,a_]
end
theorem RH(a b:Sp):oEq [.Y (bT a),.Y (bT b)]=some (.Y (.bl (decide (a=b)))):=by
 rw[oW,bZ,bZ,aT ⟨CB 39 a,CB 39 b⟩,RT]
theorem ι(q:Pl)(bs:List Pl):cw true [.Y (aN q),.lst ((bs.map aN).map .Y)]=some (.Y (.bl (!decide (q∈bs)))):=by
 have e:=Rl true (.inr q) (bs.map .inr);rw[JW] at e;have m:eT (.inr q) (bs.map .inr)=decide (q∈bs):=by
  rw[uD,gG,decide_eq_true_eq,gQ];exact⟨λ⟨x,h1,h2⟩=>by cases h2;exact h1,λh=>⟨q,h,rfl⟩⟩
 rw[m] at e;exact e
def jm(H pd:D)(c:Str)(a3:ai O)(t:Int)(a5:ai O):Gm:=[some (.Y H),some (.Y pd),some (.Y (.str c)),a3,some (.Y (.int t)),a5]
section
variable(H pd:D)(ae:Str)(t:Int)
theorem μ(a3 a5:ai O):(bp 5 (bT (.inl ae)) (jm H pd ae a3 t a5)).bind qk=some (.rt (.Y (.bl true)),jm H pd ae a3 t (some (.Y (bT (.inl ae))))):=by
 have e1:oEq [.Y (bT (.inl ae)),.Y (.str ae)]=some (.Y (.bl true)):=by
  have:=RH (.inl ae) (.inl ae);rw[jt rfl] at this;exact this
 generalize bT (.inl ae)=sd at *;unfold qk jm;simp only[fU,bG,bB,bH,reduceAdd,reduceLT,cj,bI,a_,↓ag,cY,dP,de,bJ,bj,bc,bu,bf,br,bF,bz,bD,e1,fO,bS,dX]
theorem e7w(x:Sp)(hx:x≠.inl ae)(met:List Pl)(nd:met.Nodup)(hl:met.length<1000)(a5:ai O):∃fE,((fE=met/\∀q,x=.inr q->q∈met)\/∃q,x=.inr q/\q∉met/\fE=met++[q])/\(bp 5 (bT x) (jm H pd ae (some (.lst ((met.map aN).map .Y))) t a5)).bind qk=some (.nx,jm H pd ae (some (.lst ((fE.map aN).map .Y))) t (some (.Y (bT x)))):=by
 have e1:oEq [.Y (bT x),.Y (.str ae)]=some (.Y (.bl false)):=by
  have:=RH x (.inl ae);rw[jc hx] at this;exact this
 have e2:=Yj x;cases x with
 |inl y=>
  refine⟨met,.inl ⟨rfl,λq z=>by cases z⟩,?_⟩
  have e2:iu [.Y (bT (.inl y)),.Y (.ty "str")]=some (.Y (.bl true)):=e2;generalize bT (.inl y)=sd at *;unfold qk jm;simp only[fU,bG,bB,bH,reduceAdd,reduceLT,cj,bI,a_,↓ag,cY,dP,de,bJ,bj,bc,bu,bf,br,bF,bz,bD,e1,dU,fO,bS,dX,cX,oU,ua,lJ,e2,qa,mK,jJ,ij,kO,nJ,e_,dW,qe]
 |inr q=>
  have e2:iu [.Y (aN q),.Y (.ty "str")]=some (.Y (.bl false)):=e2;have e1:oEq [.Y (aN q),.Y (.str ae)]=some (.Y (.bl false)):=e1;have e3:=ι q met;show ∃fE,_/\(bp 5 (aN q) _).bind qk=some (.nx,jm H pd ae _ t (some (.Y (aN q))));by_cases h1:q∈met
  .refine⟨met,.inl ⟨rfl,λq' z=>by cases z;exact h1⟩,?_⟩
   rw[jt h1] at e3;generalize aN q=sd at *;unfold qk jm;simp only[fU,bG,bB,bH,reduceAdd,reduceLT,cj,bI,a_,↓ag,cY,dP,de,bJ,bj,bc,bu,bf,br,bF,bz,bD,e1,dU,fO,bS,dX,cX,oU,ua,lJ,e2,qa,pZ,jJ,ij,e3,mK,kO,nJ,e_,dW,qe]
  .refine⟨met++[q],.inr ⟨q,rfl,h1,rfl⟩,?_⟩;have e4:oS (.lst ((met.map aN).map .Y)) [.Y (aN q)]=some (.lst (((met++[q]).map aN).map .Y),.Y .bh):=YM aN met q (by lia)
   rw[jc h1] at e3;generalize aN q=sd at *;unfold qk jm;simp only[fU,bG,bB,bH,reduceAdd,reduceLT,cj,bI,a_,↓ag,cY,dP,de,bJ,bj,bc,bu,bf,br,bF,bz,bD,e1,dU,fO,bS,dX,cX,oU,ua,lJ,e2,qa,pZ,jJ,ij,e3,kO,nJ,e_,dW,e4]
theorem R4:∀(xs:List Sp) (met:List Pl) (a5:ai O),met.Nodup->met.length+xs.length<900->
  (.inl ae∈xs/\∃a3 b5,fM (bp 5) qk (xs.map bT) (jm H pd ae (some (.lst ((met.map aN).map .Y))) t a5)=some (.rt (.Y (.bl true)),jm H pd ae a3 t b5))\/
  ∃(fE:List Pl) (b5:ai O),fE.Nodup/\(∃ex,fE=met++ex)/\(.inl ae∉xs/\∀q,.inr q∈xs->q∈fE)/\(∀q,q∈fE->q∈met\/.inr q∈xs)/\fM (bp 5) qk (xs.map bT) (jm H pd ae (some (.lst ((met.map aN).map .Y))) t a5)=some (.nx,jm H pd ae (some (.lst ((fE.map aN).map .Y))) t b5)
 |[],met,a5,nd,_=>.inr ⟨met,a5,nd,⟨[],(j9 _).symm⟩,⟨λz=>(by cases z),λq z=>(by cases z)⟩,λq m=>.inl m,rfl⟩
 |x::xs,met,a5,nd,hl=>by
  rw[jL] at hl;by_cases hx:x=.inl ae
  .subst hx;refine .inl ⟨.head _,some (.lst ((met.map aN).map .Y)),some (.Y (bT (.inl ae))),?_⟩;rw[c_,xF];have e:=μ H pd ae t (some (.lst ((met.map aN).map .Y))) a5;cases q:bp 5 (bT (.inl ae)) (jm H pd ae (some (.lst ((met.map aN).map .Y))) t a5) with
   |none=>rw[q] at e;cases e
   |some aE=>
    rw[q,Option.bind_some] at e;rw[Option.bind_some,e];rfl
  .obtain⟨pK,hm,e⟩:=e7w H pd ae t x hx met nd (by lia) a5
   have yG:pK.Nodup/\(∃ex,pK=met++ex)/\pK.length<=met.length+1/\(∀q,x=.inr q->q∈pK)/\∀q,q∈pK->q∈met\/.inr q=x:=by
    rcases hm with⟨rfl,hq⟩|⟨q,rfl,hq,rfl⟩
    .exact⟨nd,⟨[],(j9 _).symm⟩,Bm _,hq,λq m=>.inl m⟩
    .refine⟨lD.mpr ⟨nd,by simp,λa ma b mb z=>?_⟩,⟨_,rfl⟩,by simp,λy z=>by cases z;simp,λy my=>?_⟩
     .rw[iz] at mb;subst mb z;exact hq ma
     .rcases eR.mp my with my|my
      .exact .inl my
      .rw[iz] at my;rw[my];exact .inr rfl
   obtain⟨n1,⟨ex,n2⟩,n3,n5,n4⟩:=yG;have key:fM (bp 5) qk ((x::xs).map bT) (jm H pd ae (some (.lst ((met.map aN).map .Y))) t a5)=fM (bp 5) qk (xs.map bT) (jm H pd ae (some (.lst ((pK.map aN).map .Y))) t (some (.Y (bT x)))):=by
    rw[c_,xF];cases q:bp 5 (bT x) (jm H pd ae (some (.lst ((met.map aN).map .Y))) t a5) with
    |none=>rw[q] at e;cases e
    |some aE=>
     rw[q,Option.bind_some] at e;rw[Option.bind_some,e];rfl
   rw[key];rcases R4 xs pK _ n1 (by lia) with⟨h1,h2⟩|⟨fE,b5,h1,⟨R',h2⟩,⟨h5,h6⟩,h3,h4⟩
   .exact .inl ⟨.tail _ h1,h2⟩
   .refine .inr ⟨fE,b5,h1,⟨ex++R',by rw[h2,n2,ie]⟩,⟨λz=>?_,λq z=>?_⟩,λq m=>?_,h4⟩
    .rcases dR.mp z with z|z
     .exact hx z.symm
     .exact h5 z
    .rcases dR.mp z with z|z
     .rw[h2];exact jb _ (n5 q z.symm)
     .exact h6 q z
    rcases h3 q m with z|z
    .exact(n4 q z).imp id λy=>by rw[y];exact .head _
    .exact .inr (.tail _ z)
end
section
variable{h:aA}(ok:h_ h){ae:Str}(hc:ae∈h.aG)(pd:D){pz:Pl}
def Cl(h:aA)(ae:Str)(met:List Pl)(q:Pl):Prop:=.inl ae∉lr h (.inr q)/\∀x,.inr x∈lr h (.inr q)->x∈met
def Mt(h:aA)(ae:Str)(pz:Pl)(met:List Pl):Prop:=met.Nodup/\∀q,q∈met->VP h q/\((∃e,bP h ae q=some e)->∃d,bP h ae pz=some d)
include ok hc
theorem YU{met:List Pl}(mt:Mt h ae pz met)(hk:k<met.length)(a5:ai O):
  ((∃d,bP h ae pz=some d)/\∃a3 b5,uZ (jm (bR h) pd ae (some (.lst ((met.map aN).map .Y))) (k:Int) a5)=some (.rt (.Y (.bl true)),jm (bR h) pd ae a3 (k:Int) b5))\/
  ∃(fE:List Pl) (b5:ai O),Mt h ae pz fE/\(∃ex,fE=met++ex)/\Cl h ae fE met[k]/\uZ (jm (bR h) pd ae (some (.lst ((met.map aN).map .Y))) (k:Int) a5)=some (.nx,jm (bR h) pd ae (some (.lst ((fE.map aN).map .Y))) ((k:Int)+1) b5):=by
 have mq:met[k]∈met:=xi hk;obtain⟨vq,fq⟩:=mt.2 _ mq;have ml:=GJ ok mt.1 λq m=>(mt.2 q m).1
 have sl:=JU ok vq;have ee:BI [.Y (bR h),.Y (aN met[k])]=some (.lst (((lr h (.inr met[k])).map bT).map .Y),[none,none]):=by
  obtain⟨b,hb,e,_⟩:=vq;generalize met[k]=q at *;obtain⟨n,c⟩:=q;dsimp only at e;subst e;rw[P7 ok.fwd hb];exact W0 h ok b hb c
 have ix:dQ (.lst ((met.map aN).map .Y)) (.int (k:Int))=some (.Y (aN met[k])):=by
  have:fj ((met.map aN).map O.Y) (k:Int)=some (.Y (aN met[k])):=qL (by rw[lC,lC,km hk];rfl)
  show(fj ((met.map aN).map O.Y) (k:Int)).bind iL=_;rw[this];rfl
 have dl:O.dl (((lr h (.inr met[k])).map bT).map .Y)=(lr h (.inr met[k])).map bT:=pe _;have sub:∀s,s∈lr h (.inr met[k])->s∈jE h met[k]:=λs m=>jb _ m
 rcases R4 (bR h) pd ae (k:Int) (lr h (.inr met[k])) met a5 mt.1 (by unfold jE at sl;rw[fu] at sl;lia) with⟨h1,a3,b5,h2⟩|⟨fE,b5,h1,h2,h5,h3,h4⟩
 .refine .inl ⟨fq ?_,a3,b5,?_⟩
  .obtain⟨d,e,_⟩:=O9 ok hc vq (gG.mpr (sub _ h1));exact⟨d,e⟩
  .generalize(lr h (.inr met[k])).map bT=L at *;generalize(k:Int)=ki at *;generalize aN met[k]=qd at *;generalize(met.map aN).map O.Y=mo at *;unfold jm at *;unfold uZ;generalize qk=cs at *;simp only[cY,pj,cD,fK,bj,bc,bf,↓ag,bJ,bu,br,bF,jJ,ij,bz,bD,dh,ix,fJ,fH,ee,fX,fW,i4,dl,h2]
 .refine .inr ⟨fE,b5,⟨h1,λq m=>?_⟩,h2,h5,?_⟩
  .rcases h3 q m with z|z
   .exact mt.2 q z
   .have g:q∈i6 h met[k]:=hG.mpr (sub _ z);refine⟨Fe ok vq g,λ⟨e,he⟩=>fq ?_⟩
    obtain⟨d,hd,_⟩:=O8 ok hc vq g he;exact⟨d,hd⟩
  .generalize(lr h (.inr met[k])).map bT=L at *;generalize(k:Int)=ki at *;generalize aN met[k]=qd at *;generalize(met.map aN).map O.Y=mo at *;generalize(fE.map aN).map O.Y=mo' at *;unfold jm at *;unfold uZ;generalize qk=cs at *;simp only[cY,pj,cD,fK,bj,bc,bf,↓ag,bJ,bu,br,bF,jJ,ij,bz,bD,dh,ix,fJ,fH,ee,fX,fW,i4,dl,h4,dY,bS,iR,bZ,bG,bB,bH,reduceAdd,reduceLT,cj,bI,a_]
theorem QG(met:List Pl)(k:Nat)(a5:ai O)(b:Bool)(hb:b=decide (k<met.length)):yi (jm (bR h) pd ae (some (.lst ((met.map aN).map .Y))) (k:Int) a5)=some (b,jm (bR h) pd ae (some (.lst ((met.map aN).map .Y))) (k:Int) a5):=by
 have e2:iJ [.lst ((met.map aN).map .Y)]=some (.Y (.int (met.length:Nat))):=by
  rw[xZ,i4,pe];show some (O.Y (.int ((met.map aN).length:Nat)))=_;rw[bY]
 have e3:decide ((k:Int)<(met.length:Int))=b:=by rw[hb];exact decide_eq_decide.mpr (by lia)
 generalize(met.length:Int)=n2 at *;generalize(k:Int)=ki at *;generalize(met.map aN).map O.Y=mo at *;unfold yi jm;simp only[de,bJ,bj,bc,bu,bf,↓ag,br,bF,jJ,ij,bD,e2,bz,i3,e3,a_]
theorem QH{met:List Pl}(vq:∀q,q∈met->VP h q)(cl:∀q,q∈met->Cl h ae met q):∀(d:Nat) (q:Pl),q∈met->bP h ae q≠some (d:Int)
 |0,q,m,e=>by
  have:=B6 ok hc (vq q m) e;lia
 |d+1,q,m,e=>by
  obtain⟨c1,c2⟩:=cl q m;rcases RF ok hc (vq q m) e with z|⟨x,g,ex⟩
  .rw[gG] at z;rcases eR.mp z with z|z
   .exact c1 z
   .rw[iz] at z;cases z
  .rw[show((d+1:Nat):Int) - 1=(d:Int) by lia] at ex
   rcases eR.mp (hG.mp g) with z|z
   .exact QH vq cl d x (c2 x z) ex
   .rw[iz] at z;cases z;rw[e] at ex;cases ex
theorem O':∀(K k:Nat) (met:List Pl) (a5:ai O),Mt h ae pz met->pz∈met->(∀i,i<k->∀q,met[i]?=some q->Cl h ae met q)->k<=met.length->31<=K+k->
  ((∃d,bP h ae pz=some d)/\∃a3 a4 b5,gf yi uZ K (jm (bR h) pd ae (some (.lst ((met.map aN).map .Y))) (k:Int) a5)=some (.rt (.Y (.bl true)),jm (bR h) pd ae a3 a4 b5))\/
  (bP h ae pz=none/\∃a3 a4 b5,gf yi uZ K (jm (bR h) pd ae (some (.lst ((met.map aN).map .Y))) (k:Int) a5)=some (.nx,jm (bR h) pd ae a3 a4 b5))
 |0,k,met,a5,mt,mp,cl,h1,h2=>by
  have ml:=GJ ok mt.1 λq m=>(mt.2 q m).1
  lia
 |K+1,k,met,a5,mt,mp,cl,h1,h2=>by
  by_cases c:k<met.length
  .have e1:=QG ok hc pd met k a5 true (jt c).symm;rcases YU ok hc pd mt c a5 with⟨f,a3,b5,e2⟩|⟨fE,b5,mt',⟨ex,l'⟩,cb,e2⟩
   .exact .inl ⟨f,a3,(k:Int),b5,e7v e1 e2⟩
   .have e3:=R3 (K:=K) e1 e2;rw[show(k:Int)+1=((k+1:Nat):Int) from rfl] at e3;rw[e3];have sub:∀q,q∈met->q∈fE:=λq m=>by rw[l'];exact jb _ m
    refine O' K (k+1) fE b5 mt' (sub _ mp) (λi hi q eq=>?_) (by rw[l',fu];lia) (by lia)
    rw[l',HG (by lia)] at eq
    by_cases hk:i=k
    .subst hk;rw[km c] at eq;cases eq;exact cb
    .obtain⟨c1,c2⟩:=cl i (by lia) q eq
     exact⟨c1,λx m=>sub x (c2 x m)⟩
  .have e1:=QG ok hc pd met k a5 false (jc c).symm;refine .inr ⟨?_,_,_,_,RG e1⟩;cases hd:bP h ae pz with
   |none=>rfl
   |some d=>
    have dp:=B6 ok hc (mt.2 _ mp).1 hd;refine b_ hd ?_;rw[show d=((d.toNat:Nat):Int) by lia]
    refine QH ok hc (λq m=>(mt.2 q m).1) (λq m=>?_) d.toNat pz mp
    obtain⟨i,hi,e⟩:=EA.mp m;exact cl i (by lia) q (by rw[km hi,e])
theorem YV(vz:VP h pz):BJ [.Y (bR h),.Y (aN pz),.Y (.str ae)]=some (.Y (.bl (bP h ae pz).isSome),[none,none,none]):=by
 have e:=O' ok hc (aN pz) (pz:=pz) 1000000 0 [pz] none ⟨by simp,λq m=>by rw[iz] at m;rw[m];exact⟨vz,id⟩⟩ (.head _) (λi hi=>b_ hi (EI _)) (pV _) (by lia)
 have z:(some (O.lst (([pz].map aN).map .Y)))=some (.lst [.Y (aN pz)]):=rfl;rw[z,show((0:Nat):Int)=0 from rfl] at e;unfold jm at e;unfold BJ;unfold IE;rcases e with⟨⟨d,f⟩,a3,a4,b5,e⟩|⟨f,a3,a4,b5,e⟩
 .rw[f,MX];generalize aN pz=pd at *;generalize yi=cc at *;generalize uZ=cb at *;simp only[fV,eJ,eK,bG,bB,bH,reduceAdd,reduceSub,eQ,eD,d_,eu,cY,dY,eX,bj,bc,bu,bf,↓ag,br,reduceLeDiff,e_,dW,a_,reduceLT,cj,bI,bS,e,gw,gb,gc,gj,fY]
 .rw[f,HL];generalize aN pz=pd at *;generalize yi=cc at *;generalize uZ=cb at *;simp only[fV,eJ,eK,bG,bB,bH,reduceAdd,reduceSub,eQ,eD,d_,eu,cY,dY,eX,bj,bc,bu,bf,↓ag,br,reduceLeDiff,e_,dW,a_,reduceLT,cj,bI,bS,e,fO,gw,gb,gc,gj,fY]
end
theorem ξ(ok:h_ h)(hc:ae∈h.aG):rA [.Y (bR h),.Y (.lst []),.Y (.str ae)]=some (.tup [.Y (.int 0),.Y (.lst []),.Y (.lst [])],[none,none,none]):=by
 have e1:=((JZ ok hc []).resolve_right (λz=>by obtain⟨⟨p,mp,_⟩,_⟩:=z;cases mp)).2
 have e1:xt [.Y (bR h),.Y (.lst []),.Y (.str ae)]=_:=e1;unfold rA;unfold zu;generalize yY=st at *;simp only[fV,eJ,eK,bG,bB,bH,reduceAdd,reduceSub,eQ,eD,d_,eu,cY,Fp,fK,bj,bc,bf,↓ag,bu,br,fJ,fH,e1,fX,fW,JK,dP,ua,lJ,bz,xN,MV,mK,pZ,FR,eX,bS,cD,reduceLeDiff,dW,a_,i4,gh,e_,CQ,dX,gw,gb,gc,gj,fY]
def ux:D:=.tup [.bl true,.bl true,.bl false,.bl false]
section
variable{h:aA}{P:List Pl}{ae:Str}
theorem e7x{N:Int}{A B:D}(e:rA [.Y (bR h),.Y (.lst (P.map aN)),.Y (.str ae)]=some (.tup [.Y (.int N),.Y A,.Y B],[none,none,none])):xx [.Y (bR h),.Y (.lst (P.map aN)),.Y (.str ae)]=some (.tup [.tup [.Y (.int N),.Y A,.Y B],.Y (.tup [])],[none,none,none]):=by
 generalize P.map aN=PL at *;unfold xx Fb;simp only[fV,eJ,eK,bG,bB,bH,reduceAdd,reduceSub,eQ,eD,d_,eu,cY,dY,bS,↓ag,reduceLT,cj,bI,a_,cD,eX,br,reduceLeDiff,dW,jh,gh,Rb,Gw,fK,bj,bc,bf,bu,fJ,fH,e,fX,fW,CQ,fO,qN,e_,gw,gb,gc,gj,fY]
theorem e7y(e:rA [.Y (bR h),.Y (.lst (P.map aN)),.Y (.str ae)]=some (.Y (.exc 85 none),[none,none,none])):xx [.Y (bR h),.Y (.lst (P.map aN)),.Y (.str ae)]=some (.tup [.Y .bh,.Y ux],[none,none,none]):=by
 have w1:wE gA 85 85=some true:=rfl;have w2:eZ (wA gA [145,121,157,109,73,176,97]) [.Y (.exc 85 none)]=some (.Y (.bl false)):=rfl;have w3:eZ (wT gA) [.Y (.exc 85 none)]=some (.Y (.bl true)):=rfl;have w4:eZ (wA gA [37,61,133,49]) [.Y (.exc 85 none)]=some (.Y (.bl false)):=rfl;have w5:oi [.Y (.tup [.bl true,.bl true,.bl false]),.Y (.tup [.bl false])]=some (.tup [.Y (.bl true),.Y (.bl true),.Y (.bl false),.Y (.bl false)]):=by
  rw[X8,aT ⟨by simp,by simp,by simp⟩]
  rfl
 unfold ux;generalize P.map aN=PL at *;unfold xx Fb;generalize wE gA 85=wf at *;generalize eZ (wA gA [145,121,157,109,73,176,97])=o1 at *;generalize eZ (wT gA)=o2 at *;generalize eZ (wA gA [37,61,133,49])=o3 at *;simp only[fV,eJ,eK,bG,bB,bH,reduceAdd,reduceSub,eQ,eD,d_,eu,cY,dY,bS,↓ag,reduceLT,cj,bI,a_,cD,eX,br,reduceLeDiff,dW,jh,gh,Rb,Gw,fK,bj,bc,bf,bu,fJ,fH,e,fX,fW,PR,X4,w1,U_,bJ,bF,bz,bD,w2,w3,e_,ip,bZ,w4,w5,fO,qN,gw,gb,gc,gj,fY]
end
theorem W9(h:aA)(ok:h_ h):EV [.Y (bR h)]=some (.tup [.Y (.lst (h.aB.map bw)),.Y (.lst (h.aG.map .str))],[none]):=by
 have bl:=ok.bl;obtain⟨au,⟨a,b,c,d,rfl⟩,e⟩:=xH (g:=eG [(bp 0),(bp 1),(bp 2),(bp 3)]) (ct:=fm) (ce:=ax (aY .tup (aq (af 0) (aq (af 1) (aq (af 2) (aq (ax (gO i_ (aq (af 3) gN))) gN)))))) (λQ0=>∃a b c d,Q0=[a,b,c,d]) bw bw h.aB [none,none,none,none] ⟨_,_,_,_,rfl⟩ (by lia) (by
  rintro b hb Q0 ⟨a1,a2,a3,a4,rfl⟩;refine⟨[some (fS b.name),some (.Y (.int b.long)),some (.Y (.bl b.ring)),some (.Y (.lst (b.outs.map .str)))],?_,_,_,_,_,rfl⟩;unfold bw;simp only[t7,xM,xD,fU,bG,bB,bH,reduceAdd,reduceLT,bI,a_,↓ag,cj,xC,uU,cD,eX,bj,bc,bf,bu,bJ,br,bF,bz,bD,IJ,i4,yg,reduceLeDiff,e_,dW,jh,ip,bZ,gh])
 have d1:O.dl ((h.aB.map bw).map .Y)=h.aB.map bw:=pe _;unfold EV Ie;simp only[fV,eJ,eK,bG,bB,bH,reduceSub,eD,d_,eu,fO,eX,bj,cD,nH,rS,bJ,bc,bf,↓ag,bS,br,bF,bz,bD,dh,HA,bZ,eQ,oM,e,reduceAdd,p5,oF,oO,a_,i4,d1,HC,IJ,yg,reduceLeDiff,e_,dW,gw,gb,gc,gj,fY]
def n9(h:aA)(P:List Pl):D:=.tup [bR h,.lst (P.map aN)]
theorem KZ(h:aA)(P:List Pl):cO 40 (n9 h P)=true:=by
 have h1:cO 39 (bR h)=true:=by
  have e1:(h.aB.map bw).all (cO 37)=true:=by
   rw[HK,kI];intro b _;exact Rj (WE b) 34
  show((h.aB.map bw).all (cO 37)&&((h.aG.map D.str).all (cO 37)&&true))=true;rw[e1,FX 37 h.aG];rfl
 show([bR h,D.lst (P.map aN)].all (cO 39))=true;rw[tY,tY,EH,h1];show(true&&((P.map aN).all (cO 38)&&true))=true;rw[<-JW,Kj 37];rfl
theorem e7z(h:aA)(P:List Pl):iw [.Y (n9 h P),.tup [.Y (bR h),.Y (.lst (P.map aN))]]=some (.Y (.bl false)):=by
 have e:(O.tup [.Y (bR h),.Y (.lst (P.map aN))]).d=n9 h P:=by simp[O.d,O.dl,n9]
 rw[Cf,e,bZ,aT ⟨KZ h P,KZ h P⟩,xB 40 (KZ h P)];rfl
theorem xa0(h:aA)(P:List Pl):dQ (.Y (n9 h P)) (.int 0)=some (.Y (bR h)):=rfl
theorem xa1(h:aA)(P:List Pl):dQ (.Y (n9 h P)) (.int 1)=some (.Y (.lst (P.map aN))):=rfl
theorem v3{a b:GS}{r:ai (Fl×Gm)}(e:a Q0=some (.nx,cq))(e2:b cq=r):aU a b Q0=r:=by
 simp only[cY,e,↓ag,e2]
def lG(ns:List Int)(F:cy)(h:aA)(P:List Pl)(a4 a5 a6 a7:ai O):Gm:=
 [some (.Y (.fG ns)),some (bt F),some (.Y (bR h)),some (.Y (.lst (P.map aN))),a4,a5,a6,a7]
theorem e8a:iw [.tup [.Y (.int 0),.Y (.lst []),.Y (.lst [])],.tup [.Y (.int 0),.Y (.lst []),.Y (.lst [])]]=some (.Y (.bl false)):=by
 have e:(O.tup [.Y (.int 0),.Y (.lst []),.Y (.lst [])]).d=.tup [.int 0,.lst [],.lst []]:=by simp[O.d,O.dl]
 have o:cO 40 (.tup [.int 0,.lst [],.lst []])=true:=rfl;rw[Cf,e,aT ⟨o,o⟩,xB 40 o];rfl
theorem e8b:iw [.Y ux,.tup [.Y (.bl true),.Y (.bl true),.Y (.bl false),.Y (.bl false)]]=some (.Y (.bl false)):=by
 have e:(O.tup [.Y (.bl true),.Y (.bl true),.Y (.bl false),.Y (.bl false)]).d=ux:=by simp[O.d,O.dl,ux]
 have o:cO 40 ux=true:=rfl;rw[Cf,e,bZ,aT ⟨o,o⟩,xB 40 o];rfl
theorem e8c:iw [.Y (.tup []),.tup []]=some (.Y (.bl false)):=by
 have e:(O.tup []).d=.tup []:=by simp[O.d,O.dl]
 have o:cO 40 (.tup [])=true:=rfl;rw[Cf,e,bZ,aT ⟨o,o⟩,xB 40 o];rfl
section
variable{h:aA}(ok:h_ h){P:List Pl}(ns:List Int)(F:cy){ae:Str}(hc:ae∈h.aG)
include ok in
theorem SJ(a5 a6 a7:ai O):la (lG ns F h P (some (.Y (.str ae))) a5 a6 a7)=some (.nx,lG ns F h P (some (.Y (.str ae))) (some (.Y (n9 h P))) a6 a7):=by
 have f1:=δ (P.map aN);have KG:O.dl ((P.map aN).map .Y)=P.map aN:=pe _;have ec:=W9 h ok;have eh:D.tup [.lst (h.aB.map bw),.lst (h.aG.map .str)]=bR h:=rfl;have eH:D.tup [bR h,.lst (P.map aN)]=n9 h P:=rfl;unfold la lG;generalize n9 h P=hd at *;generalize P.map aN=PL at *;generalize bR h=hD at *;simp only[dY,cD,eX,bj,fK,bc,bu,bf,↓ag,br,fJ,fH,ec,fX,fW,jh,ip,bZ,gh,eh,bJ,bF,bz,bD,f1,i4,KG,bG,bB,bH,reduceAdd,reduceLeDiff,e_,dW,a_,eH,reduceLT,cj,bI]
theorem SK{o6:O}{d7:D}(e:xx [.Y (bR h),.Y (.lst (P.map aN)),.Y (.str ae)]=some (.tup [o6,.Y d7],[none,none,none]))(d6:D)(h6:o6.d=d6)(a6 a7:ai O):lb (lG ns F h P (some (.Y (.str ae))) (some (.Y (n9 h P))) a6 a7)=some (.nx,lG ns F h P (some (.Y (.str ae))) (some (.Y (n9 h P))) (some (.Y d6)) (some (.Y d7))):=by
 have i0:=xa0 h P;have i1:=xa1 h P;unfold lb lG;generalize n9 h P=hd at *;generalize P.map aN=PL at *;simp only[Q7,cD,fK,bj,bJ,bc,bu,bf,↓ag,bS,br,bF,bz,bD,dh,i0,i1,fJ,fH,e,fX,fW,jh,ip,h6,bZ,gh,xM,xD,fU,bG,bB,bH,reduceAdd,reduceLT,cj,bI,a_,xC,↓evMap]
theorem SM(a6 a7:ai O):lc (lG ns F h P (some (.Y (.str ae))) (some (.Y (n9 h P))) a6 a7)=some (.nx,lG ns F h P (some (.Y (.str ae))) (some (.Y (n9 h P))) a6 a7):=by
 have e:=e7z h P;unfold lc lG;generalize n9 h P=hd at *;generalize P.map aN=PL at *;simp only[dP,de,bJ,bj,bc,bu,bf,↓ag,eX,br,bG,bB,bH,reduceAdd,reduceLeDiff,e_,dW,a_,bF,bz,bD,e,dU,fO,bS,dX,cX]
theorem LW(a4 a5:ai O)(ds:List D):DE (lG ns F h P a4 a5 (some (.Y (.tup ds))) (some (.Y (.tup []))))=some (.nx,lG ns F h P a4 a5 (some (.Y (.tup ds))) (some (.Y (.tup [])))):=by
 have e1:=e8c;have e2:=RS ds;unfold DE lG;simp only[dP,QZ,de,bJ,bj,bc,bu,bf,↓ag,eX,br,bB,reduceLeDiff,dW,a_,bF,bz,bD,e1,dU,ua,lJ,bS,e2,qa,mK,cX,fO,dX]
theorem LX(a4 a5:ai O):DF (lG ns F h P a4 a5 (some (.Y .bh)) (some (.Y ux)))=some (.nx,lG ns F h P a4 a5 (some (.Y .bh)) (some (.Y ux))):=by
 have e1:=e8b;have e2:kY true [.Y .bh,.Y .bh]=some (.Y (.bl false)):=rfl;unfold DF lG;generalize ux=ew at *;simp only[dP,QZ,de,bJ,bj,bc,bu,bf,↓ag,bS,br,bF,bz,bD,e2,dU,eX,bG,bB,bH,reduceAdd,reduceLeDiff,e_,dW,a_,e1,cX,fO,dX]
include ok hc
theorem SO(a5 a6 a7:ai O):le (lG ns F h P (some (.Y (.str ae))) a5 a6 a7)=some (.nx,lG ns F h P (some (.Y (.str ae))) a5 a6 a7):=by
 have e1:=ξ ok hc;have e2:=e8a;unfold le lG;simp only[dP,de,bJ,bj,e6y,fK,bc,bu,bf,↓ag,cD,eX,br,bB,reduceLeDiff,dW,a_,i4,gh,fJ,fH,e1,fX,fW,CQ,bS,bG,bH,reduceAdd,e_,bF,bz,bD,e2,dU,fO,dX,cX]
theorem SQ(vq:∀p,p∈P->VP h p)(hl:P.length<=8)(x1 x2:GS)(a5 a6 a7:ai O)(b:Bool)(hb:(P.map λp=>(bP h ae p).isSome).all id=b):cH (g_ lq) x1 x2 (lG ns F h P (some (.Y (.str ae))) a5 a6 a7)=(if b=true then x1 else x2) (lG ns F h P (some (.Y (.str ae))) a5 a6 a7):=by
 obtain⟨m_,⟨x0,rfl⟩,e3⟩:=xH (g:=bp 0) (ct:=fm) (ce:=ph BJ (aq (af 1) (aq (af 0) (aq (af 2) gN)))) (λQ0=>∃x0,Q0=[x0,some (.Y (bR h)),some (.Y (.str ae))]) aN (λp=>D.bl (bP h ae p).isSome) P [none,some (.Y (bR h)),some (.Y (.str ae))] ⟨none,rfl⟩ (by lia) (by
  rintro p mp Q0 ⟨x0,rfl⟩;refine⟨[some (.Y (aN p)),some (.Y (bR h)),some (.Y (.str ae))],?_,_,rfl⟩;have e1:=YV ok hc (vq p mp);generalize aN p=pd at *;generalize(bP h ae p).isSome=fb at *;simp only[t7,fU,bG,bB,bH,reduceAdd,reduceLT,bI,a_,↓ag,uU,BN,bj,bc,bu,bf,br,bF,bz,bD,ip,bZ,gh,eJ,eK,e1,XJ])
 have ev:=Iv (λbs=>bs.all id) (P.map λp=>(bP h ae p).isSome)
 rw[hb] at ev;rw[show(P.map λp=>D.bl (bP h ae p).isSome)=(P.map λp=>(bP h ae p).isSome).map D.bl by rw[oH];rfl] at e3
 unfold lq lG;generalize(P.map λp=>(bP h ae p).isSome).map D.bl=L at *
 generalize P.map aN=PL at *;cases b with
 |true=>simp only[dP,lJ,bJ,bj,nH,rS,cD,bc,bu,bf,↓ag,bZ,eQ,eD,qJ,ij,cj,bI,oM,d_,eu,e3,bG,bB,bH,reduceAdd,p5,oF,qK,oO,a_,br,bF,bz,bD,ev,qa]
 |false=>simp only[dP,lJ,bJ,bj,nH,rS,cD,bc,bu,bf,↓ag,bZ,eQ,eD,qJ,ij,cj,bI,oM,d_,eu,e3,bG,bB,bH,reduceAdd,p5,oF,qK,oO,a_,br,bF,bz,bD,ev,qa,dU,cX]
theorem ο(nd:P.Nodup)(vq:∀p,p∈P->VP h p)(hl:P.length<=6)(a5 a6 a7:ai O):∃b5 b6 b7,lB (lG ns F h P (some (.Y (.str ae))) a5 a6 a7)=some (.nx,lG ns F h P (some (.Y (.str ae))) b5 b6 b7):=by
 by_cases hf:∀p,p∈P->∃d,bP h ae p=some d
 .obtain⟨N,A,B,_,e⟩:=Vz ok nd vq hc hl hf;have hb:(P.map λp=>(bP h ae p).isSome).all id=true:=by
   rw[HK,kI];intro p mp;obtain⟨d,hd⟩:=hf p mp;show(bP h ae p).isSome=true;rw[hd];rfl
  have e1:=e7x e;have e2:=SK ns F e1 (.tup [.int (N:Int),A,B]) (by simp[O.d,O.dl]) a6 a7
  have q:=SQ ok ns F hc vq (by lia) DE DF (some (.Y (n9 h P))) (some (.Y (.tup [.int (N:Int),A,B]))) (some (.Y (.tup []))) true hb
  rw[aT rfl,LW] at q;exact⟨_,_,_,v3 (SJ ok ns F a5 a6 a7) (v3 e2 (v3 (SM ns F _ _) (v3 q (SO ok ns F hc _ _ _))))⟩
 .obtain⟨p,mp,np⟩:∃p,p∈P/\bP h ae p=none:=p8 λz=>hf λp mp=>by
   cases hd:bP h ae p with
   |some d=>exact⟨d,rfl⟩
   |none=>exact b_ ⟨p,mp,hd⟩ z
  have hb:(P.map λp=>(bP h ae p).isSome).all id=false:=by
   rw[HK,List.all_eq_false];refine⟨p,mp,?_⟩;show ¬(bP h ae p).isSome=true;rw[np];exact o5
  have e1:=e7y (W8 ok hc ⟨p,mp,np⟩);have e2:=SK ns F e1 .bh rfl a6 a7;have q:=SQ ok ns F hc vq (by lia) DE DF (some (.Y (n9 h P))) (some (.Y .bh)) (some (.Y ux)) false hb
  rw[aW o5,LX] at q;exact⟨_,_,_,v3 (SJ ok ns F a5 a6 a7) (v3 e2 (v3 (SM ns F _ _) (v3 q (SO ok ns F hc _ _ _))))⟩
end
theorem L6{lx:GS}{ns:List Int}{F0 F1 F2:cy}{PL:List D}{a5 a6 a7:ai O}(e1:zD [.Y (.fG ns)]=some (bt F0,[none]))(e2:zt [bt F0]=some (.tup [.lst (h.aB.map fB),.Y (.lst (h.aG.map .str))],[some (bt F1)]))
  (hd:D.tup [.lst (O.dl (h.aB.map fB)),.lst (h.aG.map .str)]=bR h) (e3:zj [bt F1,.Y (bR h),.Y (.int 6)]=some (.lst (PL.map .Y),[some (bt F2),none,none]))
  (e4:fM (bp 4) lx (h.aG.map .str) [some (.Y (.fG ns)),some (bt F2),some (.Y (bR h)),some (.Y (.lst PL)),none,none,none,none]=some (.nx,[some (.Y (.fG ns)),some (bt F2),some (.Y (bR h)),some (.Y (.lst PL)),a4,a5,a6,a7])) :
  runM 8 [false] (aU (av 1 (aJ zD (aq (af 0) gN))) (aU (av 2 (ax (aJ zt (aq (af 1) gN)))) (aU (av 3 (ax (aJ zj (aq (af 1) (aq (af 2) (aq (gC (.int 6)) gN)))))) (aU (eI (gB bM (af 2) (gC (.int 1))) (bp 4) lx) (ba (gC (.bl true))))))) [.Y (.fG ns)]=some (.Y (.bl true),[none]):=by
 have KG:O.dl (PL.map .Y)=PL:=pe _;simp only[fV,eJ,eK,bG,bB,bH,reduceSub,eQ,eD,d_,eu,cY,dY,fK,bj,bc,bf,↓ag,br,fJ,fH,e1,fX,fW,reduceAdd,reduceLT,cj,bI,a_,cD,bu,ko,e2,lL,jh,ip,i4,bZ,gh,hd,bS,e3,KG,pj,bJ,bF,bz,bD,dh,HC,e4,fO,gw,gb,gc,gj,fY]
theorem e8d(ns:List Int)(hn:ns.length<=63):∃fin,KN [.Y (.fG ns)]=some (.Y (.bl true),fin):=by
 have e1:=ZJ ns hn;have g0:cB (r_ ns):=⟨vK 0,hn⟩;obtain⟨F1,h,g1,ok,e2⟩:=Yh (r_ ns) g0;have hd:D.tup [.lst (O.dl (h.aB.map fB)),.lst (h.aG.map .str)]=bR h:=by rw[e7c];rfl
 obtain⟨F2,pl,g2,vp,lp,np,e3⟩:=WZ ok F1 g1 6 (by decide) (by decide)
 obtain⟨P,rfl,nd,v⟩:=Ow vp np;rw[bY] at lp;unfold vB at e3;rw[JW] at e3;obtain⟨au,e,a4,a5,a6,a7,rfl⟩:=V9 (g:=bp 4) (f:=lB) D.str (λQ0=>∃a4 a5 a6 a7:ai O,Q0=lG ns F2 h P a4 a5 a6 a7) h.aG (lG ns F2 h P none none none none) ⟨none,none,none,none,rfl⟩ (by
  rintro ae mc Q0 ⟨a4,a5,a6,a7,rfl⟩;have sI:bp 4 (.str ae) (lG ns F2 h P a4 a5 a6 a7)=some (lG ns F2 h P (some (.Y (.str ae))) a5 a6 a7):=rfl;rw[sI,Option.bind_some];obtain⟨b5,b6,b7,eb⟩:=ο ok ns F2 mc nd v (by lia) a5 a6 a7
  exact⟨_,eb,_,b5,b6,b7,rfl⟩)
 refine⟨[none],?_⟩;unfold KN;unfold KL;exact L6 e1 e2 hd e3 e
def qv(K:FG):L2.Sp:=λvs H Q _=>∃(a:ah) (ns:List Int),vs=[.ref a]/\dH K H a (ns.map V.int)/\ns.length<=63/\∀H',Q (.bl true) H'
theorem ρ{P:eW}{w:df}{base:cL}{t:HR}(T:Txt K mg t):bN P w K mg base gd 9 t.AM t.Ak ["_law_script"] (qv K):=by
 have z0:=@ZG P w _ _ base _ T;have z2:=@Vf P w _ _ base _ T;have z3:=@X' P w _ _ base _ T;have z4:=@Ug P w _ _ base _ T;have z8:=@Vg P w _ _ base _ T;have MZ:=@Yb P w _ _ base _ T;have z14:=@Wy P w _ _ base _ T;have z17:=@Vh P w _ _ base _ T;have M0:=@Vi P w _ _ base _ T;have z19:=@Vj P w _ _ base _ T;have z22:=@Uh P w _ _ base _ T;have z23:=@Ui P w _ _ base _ T;have z24:=@TV P w _ _ base _ T;have z1:=@Yc P w _ _ base _ T z3 z2;have z5:=@Wz P w _ _ base _ T z4;have z7:=@ZH P w _ _ base _ T z8;have z13:=@TX P w _ _ base _ T z14;have z20:=@Vk P w _ _ base _ T M0;have z25:=@TY P w _ _ base _ T z22 M0;have z26:=@Uj P w _ _ base _ T z23;have z6:=@WB P w _ _ base _ T z5;have z16:=@TC P w _ _ base _ T z7;have z21:=@Uk P w _ _ base _ T M0 z19 z20;have z12:=@TZ P w _ _ base _ T MZ z0 z6;have z11:=@Ul P w _ _ base _ T MZ z0 z12;have z9:=@Um P w _ _ base _ T z1 z13 MZ z11;have Ti:=@Uo P w _ _ base _ T z16 z7 z9;have z27:=@Up P w _ _ base _ T Ti;exact XG (ZI T z27 z26 z24 z17 z21 z25 Ti) e8d
theorem C5(h:us.length=1):∃a0,us=[a0]:=by
 obtain _|⟨a0,us⟩:=us
 .cases h
 obtain _|⟨z,us⟩:=us
 .exact⟨a0,rfl⟩
 .simp at h
theorem uw(h:us.length=2):∃a0 a1,us=[a0,a1]:=by
 obtain _|⟨a0,us⟩:=us
 .cases h
 obtain _|⟨a1,us⟩:=us
 .cases h
 obtain _|⟨z,us⟩:=us
 .exact⟨a0,a1,rfl⟩
 .simp at h
theorem u2(h:us.length=3):∃a0 a1 a2,us=[a0,a1,a2]:=by
 obtain _|⟨a0,us⟩:=us
 .cases h
 obtain _|⟨a1,us⟩:=us
 .cases h
 obtain _|⟨a2,us⟩:=us
 .cases h
 obtain _|⟨z,us⟩:=us
 .exact⟨a0,a1,a2,rfl⟩
 .simp at h
theorem K2(h:us.length=4):∃a0 a1 a2 a3,us=[a0,a1,a2,a3]:=by
 obtain _|⟨a0,us⟩:=us
 .cases h
 obtain _|⟨a1,us⟩:=us
 .cases h
 obtain _|⟨a2,us⟩:=us
 .cases h
 obtain _|⟨a3,us⟩:=us
 .cases h
 obtain _|⟨z,us⟩:=us
 .exact⟨a0,a1,a2,a3,rfl⟩
 .simp at h
theorem MG(h:us.length=5):∃a0 a1 a2 a3 a4,us=[a0,a1,a2,a3,a4]:=by
 obtain _|⟨a0,us⟩:=us
 .cases h
 obtain _|⟨a1,us⟩:=us
 .cases h
 obtain _|⟨a2,us⟩:=us
 .cases h
 obtain _|⟨a3,us⟩:=us
 .cases h
 obtain _|⟨a4,us⟩:=us
 .cases h
 obtain _|⟨z,us⟩:=us
 .exact⟨a0,a1,a2,a3,a4,rfl⟩
 .simp at h
theorem MH(h:us.length=6):∃a0 a1 a2 a3 a4 a5,us=[a0,a1,a2,a3,a4,a5]:=by
 obtain _|⟨a0,us⟩:=us
 .cases h
 obtain _|⟨a1,us⟩:=us
 .cases h
 obtain _|⟨a2,us⟩:=us
 .cases h
 obtain _|⟨a3,us⟩:=us
 .cases h
 obtain _|⟨a4,us⟩:=us
 .cases h
 obtain _|⟨a5,us⟩:=us
 .cases h
 obtain _|⟨z,us⟩:=us
 .exact⟨a0,a1,a2,a3,a4,a5,rfl⟩
 .simp at h
abbrev gu(K:FG)(n:Str)(C:ah)(ve:ai ao):Prop:=PySem.W.nsIn K mainGlobals n=some (some (.ref C))/\cN K C (.ref 24::jl) ve/\dS K C/\PySem.W.keepIn K (.ref C)=true
theorem ea_mk{n:Str}{C:ah}{ve:ai ao}(a:PySem.W.nsIn K mainGlobals n=some (some (.ref C)))(b:cN K C (.ref 24::jl) ve)(p:PySem.W.findIn K (.ref C) "__getattribute__"=some (some (.builtin "BaseException.__getattribute__")))(q:PySem.W.findIn K (.ref C) "__getattr__"=some none)(r:PySem.W.findIn K (.ref C) "__class__"=some (some (.builtin "object.__class__")))(x:PySem.W.specialIn K (.builtin "object.__class__") "__get__"=some (some (.builtin "getset_descriptor.__get__")))(y:PySem.W.takesIn K (.builtin "object.__class__")=some true)(d:PySem.W.keepIn K (.ref C)=true):gu K n C ve:=⟨a,b,⟨p,q,r,x,y⟩,d⟩
theorem errs_mk{h:cL}(X:K.In h)(G:h.Ns mainGlobals mg)(h0:gu K "NoName" 37 none)(h1:gu K "NoSize" 49 none)(h2:gu K "NoOut" 61 none)(h3:gu K "NoHand" 73 none)(h4:gu K "NoWay" 85 none)(h5:gu K "NoMoment" 97 none)(h6:gu K "NoFlight" 109 none)(h7:gu K "NoBelt" 121 none)(h8:gu K "NoRoom" 133 none)(h9:gu K "NoBag" 145 none)(h10:gu K "NoDeed" 157 none)(hL:gu K "NoLine" 176 (some (.ref 173)))(hB:PySem.W.nsIn K mainGlobals "CarryError"=some (some (.ref 24)))(GB:cN K 24 jl none)(us:PySem.W.findIn K (.ref 176) "__setattr__"=some (some (.builtin "object.__setattr__")))(ul:PySem.W.findIn K (.ref 176) "line"=some none)(uf:PySem.W.isFn K (.ref 173)=true)(ug:PySem.W.specialIn K (.ref 24) "__getattribute__"=some (some (.builtin "type.__getattribute__")))(ur:PySem.W.readsIn K 24 (.type "type")=true)(uc:PySem.W.findCls K (.ref 24) (.type "type") "__init__"=some (.val (.builtin "ValueError.__init__"))):iC K mg kS 176 24 173:=by
 refine⟨λp hp=>?_,PySem.W.mg_of X G hL.1,hL.2.1,hL.2.2.1,hL.2.2.2,us,ul,uf,PySem.W.mg_of X G hB,GB,⟨ug,ur,uc⟩⟩
 simp only[kS,dR,EC,or_false] at hp;rcases hp with rfl|rfl|rfl|rfl|rfl|rfl|rfl|rfl|rfl|rfl|rfl
 .exact⟨PySem.W.mg_of X G h0.1,h0.2⟩
 .exact⟨PySem.W.mg_of X G h1.1,h1.2⟩
 .exact⟨PySem.W.mg_of X G h2.1,h2.2⟩
 .exact⟨PySem.W.mg_of X G h3.1,h3.2⟩
 .exact⟨PySem.W.mg_of X G h4.1,h4.2⟩
 .exact⟨PySem.W.mg_of X G h5.1,h5.2⟩
 .exact⟨PySem.W.mg_of X G h6.1,h6.2⟩
 .exact⟨PySem.W.mg_of X G h7.1,h7.2⟩
 .exact⟨PySem.W.mg_of X G h8.1,h8.2⟩
 .exact⟨PySem.W.mg_of X G h9.1,h9.2⟩
 .exact⟨PySem.W.mg_of X G h10.1,h10.2⟩
theorem all_mk{l:PySem.W.OpenLaw}{w:df}{h:cL}{fa f0 f1 f2 f3 f4 f5 f6 f7 f8 f9 An Ao As Au Aw Ay Az AA AB AD AE AF AG AH AI AJ AK AL AM:ah}{d0 d1 d2 d3 d4 d5 d6 d7 d8 d9 Ag Ah CI CJ CK CL CM CN CO CP CS CT CU CV CW CY CZ C0 Ak:jM}(X:K.In h)(G:h.Ns mainGlobals mg)(hfa:mg "law"=some (.ref fa))
  (a0:PySem.W.nsIn K mainGlobals "lay"=some (some (.ref f0)))
  (a1:PySem.W.nsIn K mainGlobals "fill"=some (some (.ref f1)))
  (a2:PySem.W.nsIn K mainGlobals "search"=some (some (.ref f2)))
  (a3:PySem.W.nsIn K mainGlobals "push"=some (some (.ref f3)))
  (a4:PySem.W.nsIn K mainGlobals "belt_of"=some (some (.ref f4)))
  (a5:PySem.W.nsIn K mainGlobals "steps"=some (some (.ref f5)))
  (a6:PySem.W.nsIn K mainGlobals "moves"=some (some (.ref f6)))
  (a7:PySem.W.nsIn K mainGlobals "far"=some (some (.ref f7)))
  (a8:PySem.W.nsIn K mainGlobals "begins"=some (some (.ref f8)))
  (a9:PySem.W.nsIn K mainGlobals "in_time"=some (some (.ref f9)))
  (a10:PySem.W.nsIn K mainGlobals "into"=some (some (.ref An)))
  (a11:PySem.W.nsIn K mainGlobals "lay_net"=some (some (.ref Ao)))
  (a12:PySem.W.nsIn K mainGlobals "lay_spot"=some (some (.ref As)))
  (a13:PySem.W.nsIn K mainGlobals "followed"=some (some (.ref Au)))
  (a14:PySem.W.nsIn K mainGlobals "taken"=some (some (.ref Aw)))
  (a15:PySem.W.nsIn K mainGlobals "soonest"=some (some (.ref Ay)))
  (a16:PySem.W.nsIn K mainGlobals "check_ways"=some (some (.ref Az)))
  (a17:PySem.W.nsIn K mainGlobals "_law_feed"=some (some (.ref AA)))
  (a18:PySem.W.nsIn K mainGlobals "_law_draw"=some (some (.ref AB)))
  (a19:PySem.W.nsIn K mainGlobals "_law_name"=some (some (.ref AD)))
  (a20:PySem.W.nsIn K mainGlobals "_law_outs"=some (some (.ref AE)))
  (a21:PySem.W.nsIn K mainGlobals "_law_house"=some (some (.ref AF)))
  (a22:PySem.W.nsIn K mainGlobals "_law_cells"=some (some (.ref AG)))
  (a23:PySem.W.nsIn K mainGlobals "_law_steps"=some (some (.ref AH)))
  (a24:PySem.W.nsIn K mainGlobals "_law_copied"=some (some (.ref AI)))
  (a25:PySem.W.nsIn K mainGlobals "_law_places"=some (some (.ref AJ)))
  (a26:PySem.W.nsIn K mainGlobals "_law_comes"=some (some (.ref AK)))
  (a27:PySem.W.nsIn K mainGlobals "_law_asked"=some (some (.ref AL)))
  (a28:PySem.W.nsIn K mainGlobals "law"=some (some (.ref AM)))
  (F0:gL K "lay" "lay" Kz f0 d0)
  (F1:gL K "fill" "fill" Kc f1 d1)
  (F2:gL K "search" "search" Je f2 d2)
  (F3:gL K "push" "push" Kd f3 d3)
  (F4:gL K "belt_of" "belt_of" Iw f4 d4)
  (F5:gL K "steps" "steps" FU f5 d5)
  (F6:gL K "moves" "moves" JL f6 d6)
  (F7:gL K "far" "far" KA f7 d7)
  (F8:gL K "begins" "begins" Fq f8 d8)
  (F9:gL K "in_time" "in_time" E4 f9 d9)
  (F10:gL K "into" "into" Ke An Ag)
  (F11:gL K "lay_net" "lay_net" Iy Ao Ah)
  (F12:gL K "lay_spot" "lay_spot" ET As CI)
  (F13:gL K "followed" "followed" Ib Au CJ)
  (F14:gL K "taken" "taken" FV Aw CK)
  (F15:gL K "soonest" "soonest" E5 Ay CL)
  (F16:gL K "check_ways" "check_ways" HX Az CM)
  (F17:gL K "_law_feed" "_law_feed" Jf AA CN)
  (F18:gL K "_law_draw" "_law_draw" Jg AB CO)
  (F19:gL K "_law_name" "_law_name" Jh AD CP)
  (F20:gL K "_law_outs" "_law_outs" Fs AE CS)
  (F21:gL K "_law_house" "_law_house" E6 AF CT)
  (F22:gL K "_law_cells" "_law_cells" E7 AG CU)
  (F23:gL K "_law_steps" "_law_steps" E8 AH CV)
  (F24:gL K "_law_copied" "_law_copied" EU AI CW)
  (F25:gL K "_law_places" "_law_places" Ic AJ CY)
  (F26:gL K "_law_comes" "_law_comes" Iz AK CZ)
  (F27:gL K "_law_asked" "_law_asked" IA AL C0)
  (F28:gL K "law" "law" GR AM Ak)
  (er:iC K mg kS 176 24 173)
  (z_len:PySem.W.nsIn K mainGlobals "len"=some none)
  (z_isinstance:PySem.W.nsIn K mainGlobals "isinstance"=some none)
  (z_int:PySem.W.nsIn K mainGlobals "int"=some none)
  (z_bool:PySem.W.nsIn K mainGlobals "bool"=some none)
  (z_str:PySem.W.nsIn K mainGlobals "str"=some none)
  (z_list:PySem.W.nsIn K mainGlobals "list"=some none)
  (z_tuple:PySem.W.nsIn K mainGlobals "tuple"=some none)
  (z_range:PySem.W.nsIn K mainGlobals "range"=some none)
  (z_any:PySem.W.nsIn K mainGlobals "any"=some none)
  (z_all:PySem.W.nsIn K mainGlobals "all"=some none)
  (z_enumerate:PySem.W.nsIn K mainGlobals "enumerate"=some none)
  (z_reversed:PySem.W.nsIn K mainGlobals "reversed"=some none)
  (z_min:PySem.W.nsIn K mainGlobals "min"=some none)
  (z_max:PySem.W.nsIn K mainGlobals "max"=some none)
  (z_ValueError:PySem.W.nsIn K mainGlobals "ValueError"=some none)
  {vC:Tok} (y_START:PySem.W.nsIn K mainGlobals "START"=some (some (.str "the start" vC)))
  {Eo:Tok} (y_END:PySem.W.nsIn K mainGlobals "END"=some (some (.str "the end" Eo)))
  : ∃fd:jM,(∀(s:az) (v:ao),BindsTo s fd ⟨[v],[]⟩ [("_law_script",v)])/\∀base:cL,K.In base->base.Ns mainGlobals mg->bN l.prog w K mg base gd 9 fa fd ["_law_script"] (qv K):=by
 have e:=hfa.symm.trans (PySem.W.mg_of X G a28);cases e;have T:Txt K mg ⟨f0,f1,f2,f3,f4,f5,f6,f7,f8,f9,An,Ao,As,Au,Aw,Ay,Az,AA,AB,AD,AE,AF,AG,AH,AI,AJ,AK,AL,fa,d0,d1,d2,d3,d4,d5,d6,d7,d8,d9,Ag,Ah,CI,CJ,CK,CL,CM,CN,CO,CP,CS,CT,CU,CV,CW,CY,CZ,C0,Ak⟩:=⟨⟨F0,PySem.W.mg_of X G a0,F0.binds λ_ _ _ _ _ _ us hl=>by obtain⟨_,_,_,_,rfl⟩:=K2 hl;rfl⟩,⟨F1,PySem.W.mg_of X G a1,F1.binds λ_ _ _ _ _ _ us hl=>by obtain⟨_,_,_,rfl⟩:=u2 hl;rfl⟩,⟨F2,PySem.W.mg_of X G a2,F2.binds λ_ _ _ _ _ _ us hl=>by obtain⟨_,_,rfl⟩:=uw hl;rfl⟩,⟨F3,PySem.W.mg_of X G a3,F3.binds λ_ _ _ _ _ _ us hl=>by obtain⟨_,_,_,rfl⟩:=u2 hl;rfl⟩,⟨F4,PySem.W.mg_of X G a4,F4.binds λ_ _ _ _ _ _ us hl=>by obtain⟨_,_,rfl⟩:=uw hl;rfl⟩,⟨F5,PySem.W.mg_of X G a5,F5.binds λ_ _ _ _ _ _ us hl=>by obtain⟨_,_,rfl⟩:=uw hl;rfl⟩,⟨F6,PySem.W.mg_of X G a6,F6.binds λ_ _ _ _ _ _ us hl=>by obtain⟨_,_,rfl⟩:=uw hl;rfl⟩,⟨F7,PySem.W.mg_of X G a7,F7.binds λ_ _ _ _ _ _ us hl=>by obtain⟨_,_,_,rfl⟩:=u2 hl;rfl⟩,⟨F8,PySem.W.mg_of X G a8,F8.binds λ_ _ _ _ _ _ us hl=>by obtain⟨_,_,rfl⟩:=uw hl;rfl⟩,⟨F9,PySem.W.mg_of X G a9,F9.binds λ_ _ _ _ _ _ us hl=>by obtain⟨_,_,_,_,rfl⟩:=K2 hl;rfl⟩,⟨F10,PySem.W.mg_of X G a10,F10.binds λ_ _ _ _ _ _ us hl=>by obtain⟨_,_,rfl⟩:=uw hl;rfl⟩,⟨F11,PySem.W.mg_of X G a11,F11.binds λ_ _ _ _ _ _ us hl=>by obtain⟨_,_,_,_,_,rfl⟩:=MG hl;rfl⟩,⟨F12,PySem.W.mg_of X G a12,F12.binds λ_ _ _ _ _ _ us hl=>by obtain⟨_,_,_,_,_,_,rfl⟩:=MH hl;rfl⟩,⟨F13,PySem.W.mg_of X G a13,F13.binds λ_ _ _ _ _ _ us hl=>by obtain⟨_,_,_,rfl⟩:=u2 hl;rfl⟩,⟨F14,PySem.W.mg_of X G a14,F14.binds λ_ _ _ _ _ _ us hl=>by obtain⟨_,_,rfl⟩:=uw hl;rfl⟩,⟨F15,PySem.W.mg_of X G a15,F15.binds λ_ _ _ _ _ _ us hl=>by obtain⟨_,_,_,rfl⟩:=u2 hl;rfl⟩,⟨F16,PySem.W.mg_of X G a16,F16.binds λ_ _ _ _ _ _ us hl=>by obtain⟨_,_,_,rfl⟩:=u2 hl;rfl⟩,⟨F17,PySem.W.mg_of X G a17,F17.binds λ_ _ _ _ _ _ us hl=>by obtain⟨_,rfl⟩:=C5 hl;rfl⟩,⟨F18,PySem.W.mg_of X G a18,F18.binds λ_ _ _ _ _ _ us hl=>by obtain⟨_,_,rfl⟩:=uw hl;rfl⟩,⟨F19,PySem.W.mg_of X G a19,F19.binds λ_ _ _ _ _ _ us hl=>by obtain⟨_,_,rfl⟩:=uw hl;rfl⟩,⟨F20,PySem.W.mg_of X G a20,F20.binds λ_ _ _ _ _ _ us hl=>by obtain⟨_,_,_,_,rfl⟩:=K2 hl;rfl⟩,⟨F21,PySem.W.mg_of X G a21,F21.binds λ_ _ _ _ _ _ us hl=>by obtain⟨_,rfl⟩:=C5 hl;rfl⟩,⟨F22,PySem.W.mg_of X G a22,F22.binds λ_ _ _ _ _ _ us hl=>by obtain⟨_,rfl⟩:=C5 hl;rfl⟩,⟨F23,PySem.W.mg_of X G a23,F23.binds λ_ _ _ _ _ _ us hl=>by obtain⟨_,_,rfl⟩:=uw hl;rfl⟩,⟨F24,PySem.W.mg_of X G a24,F24.binds λ_ _ _ _ _ _ us hl=>by obtain⟨_,rfl⟩:=C5 hl;rfl⟩,⟨F25,PySem.W.mg_of X G a25,F25.binds λ_ _ _ _ _ _ us hl=>by obtain⟨_,_,_,rfl⟩:=u2 hl;rfl⟩,⟨F26,PySem.W.mg_of X G a26,F26.binds λ_ _ _ _ _ _ us hl=>by obtain⟨_,_,_,rfl⟩:=u2 hl;rfl⟩,⟨F27,PySem.W.mg_of X G a27,F27.binds λ_ _ _ _ _ _ us hl=>by obtain⟨_,_,_,rfl⟩:=u2 hl;rfl⟩,⟨F28,PySem.W.mg_of X G a28,F28.binds λ_ _ _ _ _ _ us hl=>by obtain⟨_,rfl⟩:=C5 hl;rfl⟩,er,PySem.W.mg_none_of X G z_len,PySem.W.mg_none_of X G z_isinstance,PySem.W.mg_none_of X G z_int,PySem.W.mg_none_of X G z_bool,PySem.W.mg_none_of X G z_str,PySem.W.mg_none_of X G z_list,PySem.W.mg_none_of X G z_tuple,PySem.W.mg_none_of X G z_range,PySem.W.mg_none_of X G z_any,PySem.W.mg_none_of X G z_all,PySem.W.mg_none_of X G z_enumerate,PySem.W.mg_none_of X G z_reversed,PySem.W.mg_none_of X G z_min,PySem.W.mg_none_of X G z_max,PySem.W.mg_none_of X G z_ValueError,⟨_,PySem.W.mg_of X G y_START⟩,⟨_,PySem.W.mg_of X G y_END⟩⟩
 obtain⟨oc,od,kV,doc,pm,an,cQ,ct,s_,rfl,_,_⟩:=F28.ex;exact⟨_,λs v=>.of_eq rfl,λbase _ _=>ρ T⟩
theorem walk{l:PySem.W.OpenLaw}{q:eW}{loose:List Str}{XP:(Str->ai ao)->cL->Prop}{YP:df->cL->Prop}{d:DefRec}{K:Params->FG}(hn:l.most=some 63)(Dq:d.params.defaults=[])
  (hY:∀(w:df) (h:cL),YP w h->(K w.params).In h)
  (F:∀(w:df) (mg:Str->ai ao) (fa:ah) (h:cL),(K w.params).In h->h.Ns mainGlobals mg->mg d.name=some (.ref fa)-> ∃fd:jM,(∀(s:az) (u:ao),BindsTo s fd ⟨[u],[]⟩ [("_law_script",u)])/\∀base:cL,(K w.params).In base->base.Ns mainGlobals mg->bN l.prog w (K w.params) mg base gd 9 fa fd ["_law_script"] (qv (K w.params))) :
  PySem.W.WalkO q loose XP YP l.row.toRowW d [] (λf vs=>PySem.call f vs):=
 L2.vG (n:=63) (k:=9) (x:="_law_script") (CX:=λ_=>gd) (sp:=λw=>qv (K w.params)) hn (by decide) Dq ⟨rfl,by decide,by decide⟩ hY F (λ_ _ a ns hl _ hS=>⟨a,ns,rfl,hS,hl,λ_=>rfl⟩) λ_ _ _ _ _ z=>z
end Carry
end
open PySem PySem.W PyProof.Rows
set_option maxRecDepth 100000 in
set_option maxHeartbeats 0 in
theorem PySem.Challenge.cw_carry_k37_soonest_refused_holds : PySem.Challenge.rw_carry_k37_soonest_refused.Holds := by
 simp -failIfUnchanged only[Carry.Hd.hd0];w_on;o_law;(try simp only[Carry.Hd.hd]);k_head;(case hw=>w_witness2)
 k_fill
 refine Carry.walk (l:=PySem.Challenge.rw_carry_k37_soonest_refused) rfl rfl (λw h Y=>PySem.W.kIn_of Y) ?F
 case F=>
  intro w mg fa h KX G hmg;refine' Carry.all_mk KX G hmg ?a0 ?a1 ?a2 ?a3 ?a4 ?a5 ?a6 ?a7 ?a8 ?a9 ?a10 ?a11 ?a12 ?a13 ?a14 ?a15 ?a16 ?a17 ?a18 ?a19 ?a20 ?a21 ?a22 ?a23 ?a24 ?a25 ?a26 ?a27 ?a28 ?F0 ?F1 ?F2 ?F3 ?F4 ?F5 ?F6 ?F7 ?F8 ?F9 ?F10 ?F11 ?F12 ?F13 ?F14 ?F15 ?F16 ?F17 ?F18 ?F19 ?F20 ?F21 ?F22 ?F23 ?F24 ?F25 ?F26 ?F27 ?F28   ?er  ?z_len ?z_isinstance ?z_int ?z_bool ?z_str ?z_list ?z_tuple ?z_range ?z_any ?z_all ?z_enumerate ?z_reversed ?z_min ?z_max ?z_ValueError ?y_START ?y_END
  case er=>
   refine' Carry.errs_mk KX G ?h0 ?h1 ?h2 ?h3 ?h4 ?h5 ?h6 ?h7 ?h8 ?h9 ?h10 ?hL ?hB ?GB ?us ?ul ?uf ?ug ?ur ?uc
   all_goals first|(refine' Carry.ea_mk ?za ?zb ?zp ?zq ?zr ?zx ?zy ?zd;(case zb=>refine' L2.errC_mk ?zl ?zm ?zs ?zi;(case zl=>k_is);(case zm=>k_is);(case zs=>kernel_rfl);(case zi=>kernel_rfl));(case za=>k_is);(case zp=>k_is);(case zq=>k_is);(case zr=>k_is);(case zx=>k_is);(case zy=>k_is);(case zd=>k_is))|(refine' L2.errC_mk ?zl ?zm ?zs ?zi;(case zl=>k_is);(case zm=>k_is);(case zs=>kernel_rfl);(case zi=>kernel_rfl))|k_is
  all_goals first|(refine' L2.fun_mk ?zl ?zc ?zk;(case zl=>k_is);(case zc=>k_is);(case zk=>k_is))|k_is|skip