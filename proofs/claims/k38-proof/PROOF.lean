import PyProof.Rows.All
import Wide.All
import OpenK.AllK
import Wide.FinOn
import Lean
import PyProof.EqAt
import PyProof.EqKinds
import PyProof.NeKinds
import PyProof.TupleCall
import KE.KRevIter
import PyProof.SeqI3
import PyProof.ZipIter
import PyProof.EnumIter
import PyProof.EnumStmt
import PyProof.EnumMake
import PyProof.WalksEnum
import PyProof.MeetsSeq
import PyProof.SeqRoads2
import PyProof.DictWalks
import PyProof.Rows.SetFrom
import PySem.Challenge.RW_carry_k38_whole_soonest_is_the_first
set_option linter.all false
set_option bootstrap.genMatcherCode false
set_option compiler.extract_closed false
set_option genSizeOf false
set_option genSizeOfSpec false
def bO:=@List.length_map.{0,0}
def cX:=@Nat.le_refl
def cY:=@List.map_cons.{0,0}
def eT:=@List.mem_append.{0}
def eX:=@List.mem_cons.{0}
def fe:=@List.length_append.{0}
def fm:=@Option.bind_eq_some_iff.{0,0}
theorem fN:type_of% @Option.join_some.{0}:=rfl
def gb:=@PySem.Heap.lt_size
def gc:=@List.nil_append.{0}
def gu:=@List.size_toArray.{0}
def gz:=@List.mem_map.{0,0}
def ir:=@List.mem_append_right.{0}
def iA:=@List.getElem?_eq_some_iff.{0}
def iN:=@List.append_assoc.{0}
def i3:=@List.mem_singleton.{0}
def i7:=@List.nodup_cons.{0}
def i8:=@List.getElem?_eq_getElem.{0}
def jl:=@List.length_cons.{0}
def jm:=@List.map_append.{0,0}
def jq:=@Nat.lt_of_lt_of_le
def jr:=@List.mem_filter.{0}
def jt:=@Option.map_eq_some_iff.{0,0}
def jJ:=@PySem.Heap.get?_push_of_some
def jQ:=@List.mem_append_left.{0}
def jR:=@Bool.not_true
def kc:=@List.getElem?_map.{0,0}
def k_:=@Nat.le_trans
def lh:=@List.nodup_append.{0}
def lC:=@List.length_singleton.{0}
def lQ:=@Bool.and_eq_true
def lR:=@List.append_nil.{0}
def mE:=@List.map_map.{0,0,0}
def mS:=@Nat.ne_of_lt
def mT:=@List.map_nil.{0,0}
def mU:=@Bool.not_false
def nq:=@Nat.zero_le
def nr:=@List.all_eq_true.{0}
def nt:=@List.drop_zero.{0}
def oF:=@Nat.lt_irrefl
def oG:=@PySem.Heap.get?_push_size
def oH:=@List.length_range
def oT:=@Bool.false_ne_true
def oU:=@List.drop_succ_cons.{0}
theorem pJ:type_of% @List.lookup_cons.{0,0}:=rfl
def pK:=@List.sublist_append_right.{0}
def qi:=@List.find?_cons.{0}
def qJ:=@List.mem_cons_self.{0}
def qK:=@List.mem_cons_of_mem.{0}
def qL:=@List.length_take.{0}
def qM:=@List.mem_of_getElem?.{0}
def qN:=@List.perm_append_comm.{0}
def rn:=@List.mem_range
def rq:=@List.length_nil.{0}
def tK:=@Bool.false_eq_true
def ui:=@List.length_drop.{0}
def uj:=@Bool.eq_iff_iff
def uk:=@List.take_append_drop.{0}
def um:=@Array.getElem?_eq_getElem.{0}
def uo:=@List.map_singleton.{0,0}
def vt:=@PySem.Heap.get?_update_self
def vw:=@List.getElem_mem.{0}
theorem vx:type_of% @List.all_cons.{0}:=rfl
def vy:=@Int.le_refl
def wQ:=@List.mem_filterMap.{0,0}
def yG:=@List.filterMap_cons.{0,0}
def yH:=@Nat.le_succ
def yI:=@Array.getElem?_toList.{0}
def yJ:=@List.nodup_nil.{0}
def zU:=@List.filter_cons.{0}
def zV:=@List.any_eq_true.{0}
def zW:=@List.mem_map_of_mem.{0,0}
def Ds:=@List.getElem?_set_ne.{0}
def Dt:=@Bool.false_and
def Du:=@PySem.Heap.get?_update_other
def Dv:=@List.length_set.{0}
def Dw:=@Nat.lt_succ_self
def Dx:=@List.mem_iff_getElem.{0}
def Dy:=@Bool.not_eq_true
def Dz:=@List.contains_iff_mem.{0}
theorem DA:type_of% @List.cons_append.{0}:=rfl
def DB:=@List.drop_eq_getElem_cons.{0}
theorem DC:type_of% @Option.map_some.{0,0}:=λ_ _=>rfl
def DD:=@List.getD_eq_getElem?_getD.{0}
def G3:=@List.getElem?_append_right.{0}
def G4:=@List.getElem?_replicate.{0}
def G5:=@Bool.or_false
def G6:=@List.mem_reverse.{0}
def G7:=@Bool.and_false
def G8:=@Bool.and_true
def G9:=@Array.getElem?_eq_some_iff.{0}
def G_:=@List.reverse_cons.{0}
def G':=@Bool.true_and
def Ha:=@List.map_drop.{0,0}
def Hb:=@List.map_congr_left.{0,0}
def Hc:=@Option.isSome_map.{0,0}
def He:=@Nat.not_lt_zero
def Hf:=@List.length_filter_le.{0}
def Mu:=@Option.isSome_iff_exists.{0}
def Mv:=@List.getElem?_append_left.{0}
def Mw:=@List.length_replicate.{0}
def Mx:=@List.drop_of_length_le.{0}
def My:=@List.set_set.{0}
def Mz:=@List.getElem?_range
def MA:=@Nat.min_self
theorem MB:type_of% @Option.isSome_none.{0}:=rfl
theorem MC:type_of% @List.getElem?_cons_succ.{0}:=rfl
def MD:=@List.map_set.{0,0}
def ME:=@List.length_reverse.{0}
def MF:=@Bool.and_self
def MG:=@List.map_take.{0,0}
theorem MH:type_of% @List.all_nil.{0}:=rfl
def MI:=@List.mem_flatMap.{0,0}
def aU:=@PySem.wpAny_bind
def bW:=@PySem.wpAny_pure
def aZ:=@if_true.{1}
def aY:=@if_pos.{1}
def bb:=@if_neg.{1}
def cB:=@if_false.{1}
def ig:=@decide_eq_true
def ij:=@decide_eq_false
def lU:=@beq_self_eq_true.{0}
def pM:=@PySem.wpAny_holding
def DE:=@decide_eq_true_iff
def yK:=@of_decide_eq_true
def oI:=@beq_eq_false_iff_ne.{0}
def oV:=@Classical.byContradiction
def cu:=@absurd.{0}
def jn:=@True.intro
def ke:=@eq_true
namespace Carry.Hd
open Lean Meta PySem PySem.W
abbrev kC:=@mkConst
abbrev aM:=@mkAppM
abbrev nL:=mkRawNatLit
abbrev Ex:=Lean.Expr
def fit(ds:Array (Ex×Ex×Ex)):MetaM (Array (Ex×Ex×Ex)):=do
 let cs:Std.HashSet Ex:=ds.foldl (λz d=>if d.1.isConst then z.insert d.1 else z) {}
 ds.filterM λd=>do
  let ty:=Fast.bareType (<-inferType d.1)
  return (ty.find? λy=>cs.contains y || y.isConstOf ``PySem.W.Frag).isNone
def spots(ds:Array (Ex×Ex×Ex)):Std.HashMap Ex Nat:=ds.zipIdx.foldl (λz d=>z.insert d.1.1 d.2) {}
def parts(tw:Name->MetaM Unit)(v:Ex):MetaM (Array (Ex×Ex×Ex)):=do
 for x in Fast.constsOf v do
  if let .const c _:=x then
   if((<-getEnv).getModuleIdxFor? c).isNone || (`PySem.Challenge).isPrefixOf c then tw c
 fit (<-Fast.twinsIn v)
def twin:Nat->Name->MetaM Unit
 |0,_=>return
 |k+1,c=>do
  let (n,e) <-Fast.stemIn c true
  if(<-getEnv).contains e then return
  if let some none:=(<-Fast.primed.get).get? c then return
  let some (.defnInfo d):=(<-getEnv).find? c|return
  let ds <-parts (twin k) d.value
  if ds.isEmpty then
   Fast.primed.modify λz=>z.insert c none
   return
  let tys <-ds.mapM λx=>inferType x.1
  let ty <-inferType d.value
  let ix:=spots ds
  let G <-Fast.withLocals tys.toList #[] λxs=>mkLambdaFVars xs (Fast.putIn ix (λi=>xs[i]!) d.value)
  let mut B:=#[ty]
  for q in tys.reverse do B:=B.push (<-mkArrow q B.back!)
  let m:=ds.size
  let mut f:=G
  let mut g:=G
  let mut pf:=mkApp2 (kC ``Eq.refl [<-getLevel B[m]!]) B[m]! G
  for i in [0:m] do
   let (x,y,h):=ds[i]!
   pf:=mkAppN (kC ``congr [<-getLevel tys[i]!,<-getLevel B[m - 1 - i]!]) #[tys[i]!,B[m - 1 - i]!,f,g,x,y,pf,h]
   f:=mkApp f x
   g:=mkApp g y
  withOptions (Elab.async.set · false) do
   addDecl (.defnDecl { name:=n,levelParams:=[],type:=d.type,value:=Fast.putIn ix (λi=>ds[i]!.2.1) d.value,hints:=d.hints,safety:=.safe})
   addDecl (.thmDecl { name:=e,levelParams:=[],type:=<-mkEq (kC c) (kC n),value:=pf})
  Fast.primed.modify λz=>z.insert c (some (n,e))
def prep(v:Ex):MetaM (Array (Ex×Ex×Ex)):=parts (twin 9) v
def put(stem:Name)(ty v:Ex):MetaM Ex:=do
 let ds <-prep v
 let c <-defAt stem ty (Fast.putIn (spots ds) (λi=>ds[i]!.2.1) v)
 Fast.primed.modify λz=>z.insert c.constName! none
 return c
abbrev Objs:=Array (Obj×Obj×Ex)
def lay(old:Objs)(s t:Shared):MetaM Objs:=do
 let P:=kC ``Params
 unless s.heap.objs.size == t.heap.objs.size && s.toks == t.toks && toExpr s.drawn == toExpr t.drawn && toExpr s.heap.life == toExpr t.heap.life do throwError "the worlds part"
 let mut out:=#[]
 for i in [0:s.heap.objs.size] do
  let (a,b):=(s.heap.objs[i]!,t.heap.objs[i]!)
  if let some (a',b',e):=old[i]? then
   if sameObjNow a' a && sameObjNow b' b then
    out:=out.push (a',b',e)
    continue
  let v <-withLocalDeclD `P P λp=>do
   let e:=objE p a
   unless e == objE p b do throwError "an object is the world's"
   mkLambdaFVars #[p] e
  out:=out.push (a,b,<-put `o (<-mkArrow P (kC ``Obj)) v)
 return out
def state(l:Bool)(old:Objs)(s t:Shared):MetaM (Objs×W.State):=do
 let P:=kC ``Params
 let os <-lay old s t
 let life:=toExpr s.heap.life
 let S:W.State:={ heap:=default,gens:=<-gensE s t,drawn:=toExpr s.drawn,toks:=nL s.toks}
 if l then
  let v <-withLocalDeclD `P P λp=>mkLambdaFVars #[p] (mkApp2 (kC ``Heap.mk) (mkApp2 (kC ``Array.mk [0]) (kC ``Obj) (listE (kC ``Obj) (os.toList.map λx=>mkApp x.2.2 p))) life)
  return (os,{ S with heap:=<-put `h (<-mkArrow P (kC ``Heap)) v})
 let v <-withLocalDeclD `P P λp=>mkLambdaFVars #[p] (treeE p (os.map (·.2.2)) 1 0)
 return (os,{ S with tree:=some (<-put `t (<-mkArrow P (kC ``BT)) v,nL s.heap.objs.size,life)})
def aux(ty pf:Ex):MetaM Ex:=do return kC (<-withOptions (Elab.async.set · false) (mkAuxLemma [] ty pf (cache:=false)))
def look:Nat->Ex->Ex->MetaM Ex
 |k,l,r=>do
  let W:=kC ``World
  let O:=kC ``OsState
  let q <-withLocalDeclD `w W λw=>withLocalDeclD `os O λos=>do
   let un (e:Ex):MetaM Ex:=do
    let e:=(mkApp2 e w os).headBeta
    if e.isAppOf ``openSeen || e.isAppOf ``openGood then return (<-unfoldDefinition? e).getD e
    return e
   let (a,b):=(<-un l,<-un r)
   unless a.isAppOfArity ``Prod.mk 4 && b.isAppOfArity ``Prod.mk 4 do return none
   let sh (e:Ex) (i:Nat):MetaM Ex:=mkLambdaFVars #[w,os] (e.getArg! i)
   return some (<-sh a 2,<-sh b 2,<-sh a 3,<-sh b 3)
  match k,q with
  |n+1,some (a1,b1,a2,b2)=>
   let (x,y):=(<-look n a1 b1,<-look n a2 b2)
   let (ty,pf) <-withLocalDeclD `w W λw=>withLocalDeclD `os O λos=>do
    return (<-mkForallFVars #[w,os] (<-mkEq (mkApp2 l w os).headBeta (mkApp2 r w os).headBeta),<-mkLambdaFVars #[w,os] (<-aM ``looks_pair #[mkApp2 x w os,mkApp2 y w os]))
   aux ty pf
  |_,_=>
   let P <-withLocalDeclD `w W λw=>do mkLambdaFVars #[w] (<-mkEq (mkApp l w).headBeta (mkApp r w).headBeta)
   discard <| prep P
   let e <-byKernelQuick P []
   withLocalDeclD `w W λw=>withLocalDeclD `os O λos=>do mkLambdaFVars #[w,os] (<-aM ``congrFun #[mkApp e w,os])
def most:Nat:=3000
def left(g:MVarId)(pE:Ex)(p:Program)(_:List String):MetaM Unit:=g.withContext do
 let a:=(<-instantiateMVars (<-g.getType)).consumeMData.getAppArgs
 let some N <-(Meta.evalNat a[7]!).run|throwError "no number"
 let (.ok t,.ok t'):=(<-traceTop p N 1,<-traceTop p N 2)|throwError "no trace"
 let tb:=kC ``treeTable
 let (W,O):=(kC ``World,kC ``OsState)
 let m0:=nL t.s0.heap.objs.size
 let ann:=toExpr t.ann
 let main <-aM ``Program.main #[pE]
 let op <-aM ``opening #[pE]
 let e1 <-aux (<-mkEq op (mkApp (kC ``plainProg) (<-aM ``Scope.names #[<-aM ``Module.scope #[main]]))) (<-mkEqRefl op)
 let e2 <-withLocalDeclD `s (kC ``Shared) λs=>do
  let r <-aM ``some #[s]
  aux (<-mkForallFVars #[s] (<-mkEq (mkApp2 (kC ``fenceModules?) pE s) r)) (<-mkLambdaFVars #[s] (<-mkEqRefl r))
 let e3 <-mkDecideProof (<-mkEq (mkApp2 (kC ``Nat.ble) (nL 600) a[7]!) (kC ``Bool.true))
 let boot:=mkAppN (kC ``boot_open) #[pE,a[7]!,e1,e3,e2]
 let bE <-aM ``behindTheImports #[pE]
 let some cells <-cellsD? bE|throwError "no body"
 let env0 <-Elab.Term.TermElabM.run' do
  let s1 <-Elab.Term.exprToSyntax (<-aM ``Module.scope #[main])
  let s2 <-Elab.Term.exprToSyntax (toExpr t.code)
  let e <-Elab.Term.withSynthesize (Elab.Term.elabTermEnsuringType (<-`(({ scope:=$s1,locals:=mainNs,globals:=mainNs,cells:=[],code:=$s2,frame:=some $(quote t.frame)}:Env))) (kC ``Env))
  instantiateMVars e
 let env <-defAt `env (kC ``Env) env0
 let fp:=toExpr t.framePos
 let cE:=mkApp2 (kC ``Code.body) bE env
 let B:=listE (kC ``Frame) [mkApp (kC ``topFrame) fp]
 let go (f:Name) (more:Array Ex) (n:Nat) (w s th:Ex):Ex:=mkAppN (kC f) (#[tb,pE,w,m0,ann]++more++#[nL n,s,th])
 let one:=#[nL 1]
 let piece (rows:List String) (l r:Ex->Ex->MetaM Ex):MetaM Ex:=do
  for x in [pE,env] do discard <| prep x
  byPiece rows l r
 let ends (S:Ex) (pos:Pos):MetaM Ex:=do aM ``some #[<-aM ``Prod.mk #[kC ``Flow.next,<-aM ``Prod.mk #[S,<-aM ``Prod.mk #[cE,toExpr pos]]]]
 let rowsOf (x y:Snap):=(x.rows++y.rows).eraseDups
 let mut o:Objs:=#[]
 for i in [0:t.s0.heap.objs.size] do o:=o.push (t.s0.heap.objs[i]!,t'.s0.heap.objs[i]!,kC ((`PySem.W).str s!"boot_o_{i}"))
 let S0:PySem.W.State:={ heap:=kC ``boot_heap,gens:=mkApp2 (kC ``Array.mk [0]) (kC ``GenState) (mkApp (kC ``List.nil [0]) (kC ``GenState)),drawn:=kC ``boot_drawn,toks:=kC ``boot_toks}
 let (o1,Sa) <-state true o t.pre.s t'.pre.s
 let thA:=mkApp4 (kC ``Thread.mk) (mkApp2 (kC ``denote) tb cE) cE (toExpr t.pre.pos) B
 let stub:=mkApp (kC ``topStub) pE
 let pre <-piece (rowsOf t.pre t'.pre) (λw os=>pure (go ``topGo #[] t.pre.steps w (S0.at w os) stub)) λw os=>do aM ``some #[<-aM ``Prod.mk #[Sa.at w os,thA]]
 let (o2,Sb) <-state false o1 t.block.s t'.block.s
 let block <-piece (rowsOf t.block t'.block) (λw os=>pure (go ``segRun one t.block.steps.succ w (Sa.at w os) (mkAppN (kC ``blockOf) #[bE,env,cE,toExpr t.pre.pos,B]))) λw os=>ends (Sb.at w os) t.block.pos
 let mut gs:Array (List Ex×Nat×Snap×Snap×List String):=#[]
 for (st,x,x') in cells.zip (t.pieces.zip t'.pieces) do
  let k:=max x.steps x'.steps
  let rs:=rowsOf x x'
  match gs.back? with
  |some (l,n,_,_,r)=>
   if n+k<=most && (r++rs).eraseDups.length<=3 then gs:=gs.pop.push (l++[st],n+k,x,x',(r++rs).eraseDups) else gs:=gs.push ([st],k,x,x',rs)
  |none=>gs:=gs.push ([st],k,x,x',rs)
 let mut cur:=(o2,Sb,t.block.pos)
 let mut lems:=#[]
 for (sts,n,x,x',rs) in gs do
  let stE <-defAt `st (mkApp (kC ``List [0]) (kC ``Stmt)) (listE (kC ``Stmt) sts)
  discard <| prep stE
  let (o0,S1,p1):=cur
  let (o',S') <-state false o0 x.s x'.s
  let th:=mkAppN (kC ``piecesOf) #[stE,env,cE,toExpr p1,B]
  let h <-piece rs (λw os=>pure (go ``segRunT one n.succ w (S1.atT w os) th)) λw os=>ends (S'.atT w os) x.pos
  lems:=lems.push (stE,n.succ,S1,p1,S',x.pos,<-liftT h ``segRun_of)
  cur:=(o',S',x.pos)
  logInfo m!"PIECE {sts.length} {n} {x.s.heap.objs.size}"
 let (oN,SN,pN):=cur
 let (_,Sf) <-state true oN t.fin.s t'.fin.s
 let fin <-piece (rowsOf t.fin t'.fin) (λw os=>pure (go ``topRun #[] t.fin.steps.succ w (SN.at w os) (mkApp4 (kC ``Thread.mk) (mkApp (kC ``doneF) (kC ``Flow.next)) cE (toExpr pN) B))) λw os=>aM ``some #[Sf.at w os]
 let run <-withLocalDeclD `w W λw=>withLocalDeclD `os O λos=>do
  let w1 (l:Ex):MetaM Ex:=do aM ``congrFun #[mkApp l w,os]
  let r:=Sf.at w os
  let com:=#[tb,pE,w,m0,ann,env,fp]
  let mut k <-w1 fin
  let mut M:=nL t.fin.steps.succ
  let mut rest:=listE (kC ``Stmt) []
  for (stE,n,S1,p1,S',p2,h) in lems.toList.reverse do
   k:=mkAppN (kC ``piece_app) (com++#[nL n,M,S1.at w os,S'.at w os,r,stE,rest,cE,toExpr p1,toExpr p2,<-w1 h,k])
   M:=mkApp2 (kC ``Nat.add) (nL n) M
   rest <-aM ``HAppend.hAppend #[stE,rest]
  k:=mkAppN (kC ``piece_block) (com++#[nL t.block.steps.succ,M,Sa.at w os,Sb.at w os,r,bE,cE,toExpr t.pre.pos,toExpr t.block.pos,<-w1 block,k])
  M:=mkApp2 (kC ``Nat.add) (nL t.block.steps.succ) M
  k:=mkAppN (kC ``go_top) #[tb,pE,w,m0,ann,nL t.pre.steps,M,S0.at w os,Sa.at w os,r,stub,thA,<-w1 pre,k]
  M:=mkApp2 (kC ``Nat.add) (nL t.pre.steps) M
  let ty <-mkEq (mkAppN (kC ``topRun) #[tb,pE,w,m0,ann,M,S0.at w os,stub]) (<-aM ``some #[r])
  return (M,<-aux (<-mkForallFVars #[w,os] ty) (<-mkLambdaFVars #[w,os] k))
 let lem:=kC ``LeftO.of_pieces
 let (ms,_,_) <-forallMetaTelescope (<-inferType lem)
 let vs:=#[pE,a[1]!,a[2]!,a[3]!,a[4]!,a[5]!,a[6]!,a[7]!,a[8]!,S0.heap,Sf.heap,S0.gens,Sf.gens,S0.drawn,Sf.drawn,S0.toks,Sf.toks,m0,ann,run.1]
 for (m,v) in ms.zip vs do m.mvarId!.assign v
 let want (i:Nat):MetaM Ex:=do instantiateMVars (<-inferType ms[i]!)
 let .forallE n1 d1 b1 i1 <-want 21|throwError "size"
 let size <-byKernelQuick (.lam n1 d1 b1 i1) []
 let .forallE _ _ bl _ <-want 24|throwError "looks"
 let (l,r) <-withLocalDeclD `w W λw=>do
  let some (_,l,r):=(bl.instantiate1 w).eq?|throwError "looks"
  return (<-mkLambdaFVars #[w] l,<-mkLambdaFVars #[w] r)
 let h <-look 12 l r
 let looks <-withLocalDeclD `w W λw=>do
  let f <-withLocalDeclD `os O λos=>mkLambdaFVars #[os] (mkApp2 h w os)
  mkLambdaFVars #[w] (<-aM ``funext #[f])
 g.assign (mkAppN lem (vs++#[boot,size,run.2,<-mkDecideProof (<-want 23),looks]))
simproc_decl hd0 (PySem.W.OpenLaw.Holds _):=λe=>do
 if let .const (.str p s) _:=e.appArg! then twin 9 (p.str ("p"++(s.drop 1).toString))
 return .continue
simproc_decl hd (PySem.W.OpenRow.Holds _):=λ_=>do
 PySem.W.leftPieces.set (some left)
 return .continue
end Carry.Hd
noncomputable section
set_option Elab.async false
set_option maxRecDepth 100000
abbrev au:=@PySem.Value
abbrev aE:=@PySem.Shared
abbrev ao:=@PySem.Addr
abbrev ak:=@Option.{0}
abbrev lS:=@PySem.FuncData
abbrev eY:=@PySem.Around
abbrev gv:=@PySem.Program
abbrev pL:=@PySem.NameKind
abbrev df:=@PySem.Heap
abbrev eZ:=@PySem.World
abbrev L2.FG:=PySem.W.Frag
open Nat(reduceAdd reduceLT reduceSub reduceLeDiff)
namespace L2
open PySem PySem.Spec PyProof.Rows
abbrev Key:=Sum Int Str
noncomputable def wx:Key->au->Bool
 |.inl k,v=>Value.isInt k v
 |.inr x,v=>Value.isStrOf x v
def Lq(w:eZ):Key->Int
 |.inl k=>hashInt k
 |.inr x=>hashStr w x
theorem uy:∀{k:Key} {v:au},wx k v=true->(∃i t,k=Sum.inl i/\v=Value.int i t)\/(∃x t,k=Sum.inr x/\v=Value.str x t)
 |.inl i,v,h=>by
  obtain⟨t,e⟩:=Value.isInt_shape (k:=i) (v:=v) h;exact .inl ⟨i,t,rfl,e⟩
 |.inr x,v,h=>by
  obtain⟨t,e⟩:=Value.isStrOf_shape (x:=x) (v:=v) h;exact .inr ⟨x,t,rfl,e⟩
def YG(a b:Int):decide ((Sum.inl a:Key)=Sum.inl b)=(a == b):=by
 by_cases e:a=b
 .subst e;simp
 .have h:¬(Sum.inl a:Key)=Sum.inl b:=λq=>e (Sum.inl.inj q)
  rw[ij h];exact(oI.mpr e).symm
def YH(a b:Str):decide ((Sum.inr a:Key)=Sum.inr b)=decide (a=b):=by
 by_cases e:a=b
 .subst e;simp
 .have h:¬(Sum.inr a:Key)=Sum.inr b:=λq=>e (Sum.inr.inj q)
  rw[ij h,ij e]
def YI(a:Int)(b:Str):decide ((Sum.inl a:Key)=Sum.inr b)=false:=ij (λq=>nomatch q)
def YJ(a:Str)(b:Int):decide ((Sum.inr a:Key)=Sum.inl b)=false:=ij (λq=>nomatch q)
def IJ(prog:gv)(w:eZ):PySem.KeyKind prog w Key where
 is:=wx
 hash:=Lq w
 inj:=λv a b ha hb=>by
  rcases uy ha with⟨i,t,rfl,rfl⟩|⟨x,t,rfl,rfl⟩
  .rcases uy hb with⟨j,u,rfl,e⟩|⟨y,u,rfl,e⟩
   .injection e with e1 _;rw[e1]
   .exact nomatch e
  .rcases uy hb with⟨j,u,rfl,e⟩|⟨y,u,rfl,e⟩
   .exact nomatch e
   .injection e with e1 _;rw[e1]
 byValue:=λk v h=>by
  rcases uy h with⟨i,t,rfl,rfl⟩|⟨x,t,rfl,rfl⟩ <;> rfl
 pyHash:=λhv h=>by
  rcases uy hv with⟨i,t,rfl,rfl⟩|⟨x,t,rfl,rfl⟩
  .exact wpAny_pyHash_int h
  .exact wpAny_pyHash_str h
 eqBool:=λhu hv h=>by
  rcases uy hu with⟨i,t,rfl,rfl⟩|⟨x,t,rfl,rfl⟩
  .rcases uy hv with⟨j,u,rfl,rfl⟩|⟨y,u,rfl,rfl⟩
   .rw[YG] at h;exact wpAny_eqBool_int h
   .rw[YI] at h;exact SeqAt.EqAt.int_str i t y u _ _ _ _ h
  .rcases uy hv with⟨j,u,rfl,rfl⟩|⟨y,u,rfl,rfl⟩
   .rw[YJ] at h;exact SeqAt.EqAt.str_int x t j u _ _ _ _ h
   .rw[YH] at h;exact wpAny_eqBool_str h
 «strs»:=λk x t v h=>by
  rcases uy h with⟨i,u,rfl,e⟩|⟨y,u,rfl,e⟩
  .exact nomatch e
  .injection e with e1 _;subst e1;cases v <;> rfl
inductive V where
 |bF|bl (b:Bool)|int (i:Int)|str (x:Str)|zx (b:Array UInt8)|zD (b:UInt64)|ref (a:ao)|ty (n:String)
 deriving DecidableEq
def RelV:V->au->Prop
 |.bF,u=>u=Value.none
 |.bl b,u=>u=Value.bool b
 |.int i,u=>∃t,u=Value.int i t
 |.str x,u=>∃t,u=Value.str x t
 |.zx b,u=>∃t,u=Value.bytes b t
 |.zD b,u=>∃t,u=Value.float b t
 |.ref a,u=>u=Value.ref a
 |.ty n,u=>u=Value.type n
abbrev Vals:List V->List au->Prop:=Paired RelV
theorem Vals.length{xs:List V}{us:List au}(r:Vals xs us):xs.length=us.length:=Paired.length r
theorem Vals.get:∀{xs:List V} {us:List au} {i:Nat} {x:V},Vals xs us->xs[i]?=some x->∃u,us[i]?=some u/\RelV x u
 |_,_,_,_,.nil,e=>by simp at e
 |_,_,0,_,.cons r _,e=>by simp at e;subst e;exact⟨_,rfl,r⟩
 |_,_,i+1,x,.cons _ t,e=>by
  obtain⟨u,h1,h2⟩:=Vals.get (i:=i) (x:=x) t (by simpa using e)
  exact⟨u,by simpa using h1,h2⟩
theorem Vals.set{x:V}{u:au}(r:RelV x u):∀{xs:List V} {us:List au} (i:Nat),Vals xs us->Vals (xs.set i x) (us.set i u)
 |_,_,_,.nil=>.nil
 |_,_,0,.cons _ t=>.cons r t
 |_,_,i+1,.cons q t=>.cons q (Vals.set r i t)
def Vals.append{xs ys:List V}{us ws:List au}(h:Vals xs us)(s:Vals ys ws):Vals (xs++ys) (us++ws):=by
 induction h with
 |nil=>exact s
 |cons r t ih=>exact .cons r ih
theorem Vals.take:∀{xs:List V} {us:List au} (n:Nat),Vals xs us->Vals (xs.take n) (us.take n)
 |_,_,0,_=>.nil
 |_,_,_+1,.nil=>.nil
 |_,_,n+1,.cons r t=>.cons r (Vals.take n t)
theorem Vals.drop:∀{xs:List V} {us:List au} (n:Nat),Vals xs us->Vals (xs.drop n) (us.drop n)
 |_,_,0,r=>r
 |_,_,_+1,.nil=>.nil
 |_,_,n+1,.cons _ t=>Vals.drop n t
def nD:ak V->ak au->Prop
 |some v,some u=>RelV v u
 |none,none=>True
 |_,_=>False
def KV{κ:Type}:List (κ×V)->List (κ×au)->Prop:=Paired λ(p:κ×V) (q:κ×au)=>p.1=q.1/\RelV p.2 q.2
def kV:Key->V
 |.inl i=>.int i
 |.inr x=>.str x
inductive TK where
 |inl (i:Int)|inr (x:Str)|tp (l:List TK)
mutual
noncomputable def TK.beq:TK->TK->Bool
 |.inl a,.inl b=>decide (a=b)
 |.inr a,.inr b=>decide (a=b)
 |.tp l,.tp m=>TK.o9 l m
 |_,_=>false
noncomputable def TK.o9:List TK->List TK->Bool
 |[],[]=>true
 |a::l,b::m=>TK.beq a b&&TK.o9 l m
 |_,_=>false
end
mutual
theorem TK.beq_iff:∀a b:TK,TK.beq a b=true↔a=b
 |.inl a,.inl b=>by unfold TK.beq;rw[decide_eq_true_eq];exact⟨λe=>by rw[e],λe=>by cases e;rfl⟩
 |.inr a,.inr b=>by unfold TK.beq;rw[decide_eq_true_eq];exact⟨λe=>by rw[e],λe=>by cases e;rfl⟩
 |.tp l,.tp m=>by unfold TK.beq;rw[TK.nN l m];exact⟨λe=>by rw[e],λe=>by cases e;rfl⟩
 |.inl _,.inr _=>by unfold TK.beq;exact⟨λe=>(nomatch e),λe=>(nomatch e)⟩
 |.inl _,.tp _=>by unfold TK.beq;exact⟨λe=>(nomatch e),λe=>(nomatch e)⟩
 |.inr _,.inl _=>by unfold TK.beq;exact⟨λe=>(nomatch e),λe=>(nomatch e)⟩
 |.inr _,.tp _=>by unfold TK.beq;exact⟨λe=>(nomatch e),λe=>(nomatch e)⟩
 |.tp _,.inl _=>by unfold TK.beq;exact⟨λe=>(nomatch e),λe=>(nomatch e)⟩
 |.tp _,.inr _=>by unfold TK.beq;exact⟨λe=>(nomatch e),λe=>(nomatch e)⟩
theorem TK.nN:∀l m:List TK,TK.o9 l m=true↔l=m
 |[],[]=>by unfold TK.o9;exact⟨λ_=>rfl,λ_=>rfl⟩
 |a::l,b::m=>by unfold TK.o9;rw[lQ,TK.beq_iff a b,TK.nN l m];exact⟨λe=>by rw[e.1,e.2],λe=>by cases e;exact⟨rfl,rfl⟩⟩
 |[],_::_=>by unfold TK.o9;exact⟨λe=>(nomatch e),λe=>(nomatch e)⟩
 |_::_,[]=>by unfold TK.o9;exact⟨λe=>(nomatch e),λe=>(nomatch e)⟩
end
instance:DecidableEq TK:=λa b=>decidable_of_iff _ (TK.beq_iff a b)
mutual
noncomputable def TK.hash(w:eZ):TK->Int
 |.inl i=>hashInt i
 |.inr x=>hashStr w x
 |.tp l=>reduceHash (Builtin.Tuple.tupleHashOf (TK.f_ w l))
noncomputable def TK.f_(w:eZ):List TK->List Int
 |[]=>[]
 |a::l=>TK.hash w a::TK.f_ w l
end
noncomputable def TK.ok:Nat->TK->Bool
 |n+1,.tp l=>l.all (TK.ok n)
 |0,.tp _=>false
 |_,_=>true
def ku(w:eZ)(e:TK×V×V)(x:DictEntry):Prop:=x.hash=e.1.hash w/\RelV e.2.1 x.key/\RelV e.2.2 x.val/\e.1.ok 8=true
inductive HO where
  |lst (xs:List V)
  |tup (xs:List V)
  |dK (kvs:List (Key×V))|dT (kvs:List (List Key×V))
  |dG (es:List (TK×V×V)) (ep:Nat)
  |set (S:Int->Bool) (n:Nat)
  |ins (C dx:ao) (fs:List (Str×V))
  |own (x:ao)
  |xd (fs:List (Str×V))
  |met (f x:ao)
  |LY (lo hi:Int)
  |Y (o:Obj) (u:HO)
  |yD (ps:Array au)
  |ext (φ:df->Prop)
abbrev Hp:=ao->ak HO
noncomputable def upd(H:Hp)(a:ao)(o:HO):Hp:=λb=>if b=a then some o else H b
def jG{H:Hp}{a:ao}{o:HO}:upd H a o a=some o:=by unfold upd;rw[aY rfl]
def dr{H:Hp}{a b:ao}{o:HO}(h:b≠a):upd H a o b=H b:=by unfold upd;rw[bb h]
def mH{H:Hp}{a b:ao}{o:HO}(h:H a=some o)(h':H b=none):a≠b:=by
 intro e;subst e;rw[h] at h';cases h'
section
variable(P:gv)(w:eZ)
def cC(H:Hp)(h:df)(a:ao):HO->Prop
 |.lst xs=>xs.length<=sizeLine/\∃(aA:List au) (n:Nat),Vals xs aA/\h.get? a=some { cls:=.type "list",data:=.seq aA.toArray n}
 |.tup xs=>xs.length<=sizeLine/\∃aA:List au,Vals xs aA/\IsTup h a aA.toArray
 |.dK kvs=>kvs.length<=sizeLine/\(a == sysModules)=false/\∃vs,KV kvs vs/\h.DictOf (IJ P w) a vs
 |.dT kvs=>kvs.length<=sizeLine/\(a == sysModules)=false/\∃xs:List (List Key×ao×au),
   Paired (λ(p:List Key×V) (q:List Key×ao×au)=>p.1=q.1/\H q.2.1=some (.tup (p.1.map kV))/\RelV p.2 q.2.2) kvs xs/\
   ∃o es ep,h.get? a=some o/\o.ExactDict/\o.data=.dict es ep/\es.toList=xs.map (entryOfKey (tupleKind (IJ P w)))/\(xs.map (·.1)).Nodup
 |.dG es ep=>es.length<=sizeLine/\(a == sysModules)=false/\∃o xs,h.get? a=some o/\o.ExactDict/\o.data=.dict xs ep/\Paired (ku w) es xs.toList/\(es.map (·.1)).Nodup
 |.set S n=>h.SetOf (intKind P w) a S n
 |.ins C dx fs=>H dx=some (.own a)/\fs.length<=1000/\dx≠a/\h.get? a=some (PySem.W.instObj C dx)/\
   ∃mA,h.Ns1 dx mA/\(∀f,nD (fs.lookup f) (mA f))/\PySem.Within mA (fs.map (·.1))
 |.own _=>∃o,h.get? a=some o
 |.xd fs=>∃mA,h.Ns1 a mA/\∀f,nD (fs.lookup f) (mA f)
 |.LY lo hi=>∃t u v,h.get? a=some { cls:=.type "range",data:=.fields #[.int lo t,.int hi u,.int 1 v]}
 |.Y o u=>h.get? a=some o/\cC H h a u
 |.yD ps=>h.get? a=some { cls:=.none,data:=.fields ps}
 |.met f x=>h.get? a=some (PySem.W.methodObj (.ref f) (.ref x))
 |.ext φ=>φ h/\(∃o,h.get? a=some o)/\∀h1 h2:df,φ h1->(∀o,h1.get? a=some o->h2.get? a=some o)->φ h2
def kz(H:Hp)(h:df):Prop:=∀a o,H a=some o->cC P w H h a o
end
section
variable{P:gv}{w:eZ}{H H':Hp}{h h':df}{a:ao}{o:HO}
theorem cC.lt(x:cC P w H h a o):a<h.objs.size:=by
 cases o with
 |lst xs=>obtain⟨_,_,_,_,e⟩:=x;exact gb e
 |tup xs=>obtain⟨_,_,_,p⟩:=x;exact p.lt
 |dK kvs=>obtain⟨_,_,_,_,o,_,_,e,_⟩:=x;exact gb e
 |dT kvs=>obtain⟨_,_,_,_,o,_,_,e,_⟩:=x;exact gb e
 |dG es ep=>obtain⟨_,_,o,_,e,_⟩:=x;exact gb e
 |set S n=>obtain⟨o,_,_,_,e,_⟩:=x;exact gb e
 |ins C dx fs=>obtain⟨_,_,_,e,_⟩:=x;exact gb e
 |own y=>obtain⟨_,e⟩:=x;exact gb e
 |xd fs=>obtain⟨_,⟨_,_,_,e,_⟩,_⟩:=x;exact gb e
 |LY lo hi=>obtain⟨_,_,_,e⟩:=x;exact gb e
 |Y ob u=>obtain⟨e,_⟩:=x;exact gb e
 |yD ps=>exact gb (show h.get? a=some _ from x)
 |met f y=>exact gb (show h.get? a=some _ from x)
 |ext φ=>obtain⟨_,⟨_,e⟩,_⟩:=x;exact gb e
def Paired.LM{α β:Type}{F G:α->β->Prop}{l₁:List α}{l₂:List β}(h:Paired F l₁ l₂)(f:∀a b,F a b->G a b):Paired G l₁ l₂:=by
 induction h with
 |nil=>exact .nil
 |cons r t ih=>exact .cons (f _ _ r) ih
def cC.oB(x:cC P w H h a o)(k:∀b u,(b=a\/H b=some (.own a))->h.get? b=some u->h'.get? b=some u)
  (ho:∀b,H b=some (.own a)->H' b=some (.own a)) (ht:∀b xs,H b=some (.tup xs)->H' b=some (.tup xs)):cC P w H' h' a o:=by
 induction o with
 |lst xs=>obtain⟨z,aA,n,r,e⟩:=x;exact⟨z,aA,n,r,k _ _ (.inl rfl) e⟩
 |tup xs=>obtain⟨z,aA,r,ob,e,c⟩:=x;exact⟨z,aA,r,ob,k _ _ (.inl rfl) e,c⟩
 |dK kvs=>obtain⟨z,y,vs,r,ob,es,ep,e,c⟩:=x;exact⟨z,y,vs,r,ob,es,ep,k _ _ (.inl rfl) e,c⟩
 |dT kvs=>
  obtain⟨z,y,xs,r,ob,es,ep,e,c⟩:=x;exact⟨z,y,xs,Paired.LM r λp q z=>⟨z.1,ht _ _ z.2.1,z.2.2⟩,ob,es,ep,k _ _ (.inl rfl) e,c⟩
 |dG es ep=>obtain⟨z,y,ob,xs,e,c⟩:=x;exact⟨z,y,ob,xs,k _ _ (.inl rfl) e,c⟩
 |set S n=>obtain⟨ob,es,ep,t,e,c⟩:=x;exact⟨ob,es,ep,t,k _ _ (.inl rfl) e,c⟩
 |ins C dx fs=>
  obtain⟨d,z,ne,e,mA,⟨od,es,ep,e2,c⟩,r⟩:=x;exact⟨ho _ d,z,ne,k _ _ (.inl rfl) e,mA,⟨od,es,ep,k _ _ (.inr d) e2,c⟩,r⟩
 |own y=>obtain⟨ob,e⟩:=x;exact⟨ob,k _ _ (.inl rfl) e⟩
 |xd fs=>obtain⟨mA,⟨od,es,ep,e,c⟩,r⟩:=x;exact⟨mA,⟨od,es,ep,k _ _ (.inl rfl) e,c⟩,r⟩
 |LY lo hi=>obtain⟨t,u,v,e⟩:=x;exact⟨t,u,v,k _ _ (.inl rfl) e⟩
 |Y ob u ih=>obtain⟨e,q⟩:=x;exact⟨k _ _ (.inl rfl) e,ih q⟩
 |yD ps=>
  have e:h.get? a=some { cls:=.none,data:=.fields ps}:=x;show h'.get? a=some { cls:=.none,data:=.fields ps};exact k a _ (.inl rfl) e
 |met f y=>
  have e:h.get? a=some (PySem.W.methodObj (.ref f) (.ref y)):=x;show h'.get? a=some (PySem.W.methodObj (.ref f) (.ref y));exact k a _ (.inl rfl) e
 |ext φ=>obtain⟨p,⟨o,e⟩,st⟩:=x;exact⟨st _ _ p λo q=>k _ _ (.inl rfl) q,⟨o,k _ _ (.inl rfl) e⟩,st⟩
theorem kz.lt(x:kz P w H h)(e:H a=some o):a<h.objs.size:=(x a o e).lt
def kz.fresh(x:kz P w H h)(e:h.objs.size<=a):H a=none:=by
 cases q:H a with
 |none=>rfl
 |some u=>exact cu (jq (x.lt q) e) (oF _)
def kz.kept(x:kz P w H h)(k:∀b u,h.get? b=some u->h'.get? b=some u):kz P w H h':=λa o e=>
 (x a o e).oB (λb u _ q=>k b u q) (λ_ q=>q) λ_ _ q=>q
def kz.laid(x:kz P w H h)(k:∀b u,h.get? b=some u->h'.get? b=some u)(hp:h.objs.size<=a)(new:cC P w (upd H a o) h' a o):kz P w (upd H a o) h':=λb u e=>by
 have hn:=x.fresh hp;by_cases hb:b=a
 .subst hb;rw[jG] at e;cases e;exact new
 .rw[dr hb] at e;exact(x b u e).oB (λc v _ q=>k c v q) (λc q=>by rw[dr (mH q hn)];exact q) λc xs q=>by rw[dr (mH q hn)];exact q
end
def Rd(H:Hp)(a:ao)(u:HO):Prop:=H a=some u\/∃o,H a=some (.Y o u)
def Rd.ok{P:gv}{w:eZ}{H:Hp}{h:df}{a:ao}{u:HO}(r:Rd H a u)(x:kz P w H h):cC P w H h a u:=by
 rcases r with r|⟨o,r⟩
 .exact x a u r
 .obtain⟨_,q⟩:=x a _ r;exact q
def Az:ak HO->Prop
 |some (.lst _)=>True
 |some (.dK _)=>True
 |some (.dT _)=>True
 |some (.dG _ _)=>True
 |some (.set _ _)=>True
 |some (.ins _ _ _)=>True
 |some (.ext _)=>True
 |_=>False
section
variable{P:gv}{w:eZ}{H:Hp}{h h':df}{x e:ao}{o':HO}
def kz.write(ok:kz P w H h)(mu:Az (H x))(he:e=x\/H e=some (.own x))(k:∀b u,b≠e->h.get? b=some u->h'.get? b=some u)(zI:∃u,h'.get? e=some u)
  (new:cC P w (upd H x o') h' x o'):kz P w (upd H x o') h':=λb u q=>by
 have CJ:∀c y,H c=some (.own y)->c≠x:=λc y r z=>by subst z;rw[r] at mu;exact mu
 have LR:∀c xs,H c=some (.tup xs)->c≠x:=λc xs r z=>by subst z;rw[r] at mu;exact mu
 by_cases hb:b=x
 .subst hb;rw[jG] at q;cases q;exact new
 .rw[dr hb] at q;by_cases xT:b=e
  .have q':H b=some (.own x):=by
    rcases he with z|z
    .exact cu (xT.trans z) hb
    .rw[xT];exact z
   rw[q] at q';cases q';obtain⟨v,hv⟩:=zI;exact⟨v,by rw[xT];exact hv⟩
  .refine(ok b u q).oB (λc v hc r=>k c v ?_ r) (λc r=>by rw[dr (CJ c b r)];exact r) λc xs r=>by rw[dr (LR c xs r)];exact r
   rcases hc with rfl|hc
   .exact xT
   .rintro rfl;rcases he with z|z
    .exact CJ c b hc z
    .rw[hc] at z;cases z;exact hb rfl
end
structure Un (fs ex:List ao) (H H':Hp) (h h':df):Prop where
 keep:∀b o,h.get? b=some o->H b=none->b∉fs->b∉ex->h'.get? b=some o
 slot:∀b o,h.get? b=some o->H b=none->b∈fs->b∉ex->∃sl,h'.get? b=some { o with slots:=sl}
 free:∀b o,h.get? b=some o->H b=none->b∉ex->H' b=none
 there:∀b o,h.get? b=some o->b∉ex->∃o',h'.get? b=some o'
 mR:∀b xs,H b=some (.tup xs)->H' b=some (.tup xs)
 lJ:∀b o u,H b=some (.Y o u)->H' b=some (.Y o u)
 mP:∀b ps,H b=some (.yD ps)->∃more,H' b=some (.yD (ps++more))
section
variable{fs fs' ex ex':List ao}{H H1 H2:Hp}{h h1 h2 h':df}{a x e:ao}{o:HO}
def Un.any(u:Un fs ex H H1 h h1){b:ao}{ob:Obj}(q:h.get? b=some ob)(n:H b=none)(hx:b∉ex):∃sl,h1.get? b=some { ob with slots:=sl}:=by
 by_cases hb:b∈fs
 .exact u.slot b ob q n hb hx
 .exact⟨ob.slots,u.keep b ob q n hb hx⟩
def Un.kept(k:∀b u,h.get? b=some u->h'.get? b=some u):Un fs ex H H h h':=
 ⟨λb ob q _ _ _=>k b ob q,λb ob q _ _ _=>⟨ob.slots,k b ob q⟩,λ_ _ _ n _=>n,λb ob q _=>⟨ob,k b ob q⟩,λ_ _ q=>q,λ_ _ _ q=>q,λ_ ps q=>⟨#[],by rw[q];simp⟩⟩
def Un.refl:Un fs ex H H h h:=Un.kept λ_ _ q=>q
def Un.laid(k:∀b u,h.get? b=some u->h'.get? b=some u)(hp:h.objs.size<=a)(hn:H a=none):Un fs ex H (upd H a o) h h' where
 keep:=λb u q _ _ _=>k b u q
 slot:=λb u q _ _ _=>⟨u.slots,k b u q⟩
 free:=λb u q n _=>by rw[dr (mS (jq (gb q) hp))];exact n
 there:=λb u q _=>⟨u,k b u q⟩
 mR:=λb xs q=>by rw[dr (mH q hn)];exact q
 lJ:=λb u xs q=>by rw[dr (mH q hn)];exact q
 mP:=λb ps q=>⟨#[],by rw[dr (mH q hn),q];simp⟩
def Un.write(mu:Az (H x))(he:e=x\/H e=some (.own x))(k:∀b u,b≠e->h.get? b=some u->h'.get? b=some u)(zI:∃u,h'.get? e=some u):Un fs ex H (upd H x o) h h':=by
 have hx:∀b,H b=none->b≠x:=λb n z=>by subst z;rw[n] at mu;exact mu
 have hb:∀b,H b=none->b≠e:=λb n z=>by
  subst z;rcases he with r|r
  .exact hx b n r
  .rw[n] at r;cases r
 have hm:∀b u,H b=some u->¬Az (some u)->b≠x:=λb u q nm z=>by subst z;rw[q] at mu;exact nm mu
 refine⟨λb u q n _ _=>k b u (hb b n) q,λb u q n _ _=>⟨u.slots,k b u (hb b n) q⟩,λb u q n _=>by rw[dr (hx b n)];exact n,λb u q _=>?_,
  λb xs q=>by rw[dr (hm b _ q λz=>z)];exact q,λb u xs q=>by rw[dr (hm b _ q λz=>z)];exact q,λb ps q=>⟨#[],by rw[dr (hm b _ q λz=>z),q];simp⟩⟩
 by_cases xT:b=e
 .subst xT;exact zI
 .exact⟨u,k b u xT q⟩
end
noncomputable def G1(h:df)(H:Hp):List ao:=(List.range h.objs.size).filter λa=>(H a).isSome
def mM(h:df)(H:Hp):df:=PySem.W.hideAll h (G1 h H)
def Uq(h:df)(H:Hp):(mM h H).objs.size=h.objs.size:=PySem.W.hideAll_size _ _
def Vl{h:df}{H:Hp}{b:ao}{o:Obj}(e:h.get? b=some o)(n:H b=none):(mM h H).get? b=some o:=
 PySem.W.hideAll_get _ e λhm=>by
  have q:(H b).isSome=true:=(jr.mp hm).2;rw[n] at q;simp at q
def WQ{h:df}{H:Hp}{b:ao}{o:Obj}(e:(mM h H).get? b=some o):h.get? b=some o/\H b=none:=by
 have e':h.get? b=some o:=PySem.W.of_hideAll (G1 h H) e;refine⟨e',?_⟩;cases q:H b with
 |none=>rfl
 |some x=>
  have hm:b∈G1 h H:=jr.mpr ⟨rn.mpr (gb e'),by simp[q]⟩
  have z:(mM h H).get? b=none:=PySem.W.hideAll_none (G1 h H) hm;rw[z] at e;cases e
noncomputable def WR(g h:df)(L:ao):List (ao×Obj):=(List.range h.objs.size).filterMap λa=>if a=L\/(g.get? a).isSome=true then none else(h.get? a).map λo=>(a,o)
def rest(g h:df)(L d:ao):List (ao×Obj):=(WR g h L).filter λp=>decide (p.1≠d)
structure Mod (K:FG) (mg:Str->ak au) (base:df):Prop where
 Lr:K.In base
 glob:base.Ns mainGlobals mg
 blt:∃mb,base.Ns builtinsNs mb/\∀x:Str,x≠"__name__"->mb x=bootBuiltins x
 nolimit:base.NoLimit
set_option genInjectivity false in
structure Cx where
 prog:gv
 w:eZ
 K:FG
 mg:Str->ak au
 base:df
 A:eY
 N:List Str
 s₀:aE
 H₀:Hp
 env:Env
 outer:List Env
 stack:List Env
 ex:List ao
 fn:Str->Bool
 calm:Bool
 pn:List (ao×Obj)
 xe:au->aE->Prop
noncomputable def q8(l:List Env):List ao:=l.filterMap (·.frame)
abbrev Cx.fs(X:Cx):List ao:=q8 X.outer
def AG(sc:Scope)(x:Str):Prop:=sc.names.lookup x=some .local \/ sc.names.lookup x=some .cell\/sc.names.lookup x=some .free
def Loc(sc:Scope)(x:Str):Prop:=sc.names.lookup x=some .local \/ sc.names.lookup x=some .cell
def Look(env:Env)(h:df)(m:Str->ak au)(x:Str)(u:au):Prop:=
 (env.kindOf x=some .local /\ m x=some u)\/((env.kindOf x=some .cell\/env.kindOf x=some .free)/\∃c,env.cells.lookup x=some c/\h.IsCell c (some u))
structure Cx.Ok (X:Cx):Prop where
 mod:Mod X.K X.mg X.base
 kind:X.env.scope.kind=.function
 glob:X.env.globals=mainGlobals
 blt:X.env.builtins=builtinsNs
 above:X.s₀.heap.objs.size<=X.env.locals
 inj:∀x y c,X.env.cells.lookup x=some c->X.env.cells.lookup y=some c->x=y
 has:∀x,(X.env.kindOf x=some .cell\/X.env.kindOf x=some .free)->∃c,X.env.cells.lookup x=some c
 BI:∀x c,X.fn x=true->X.env.cells.lookup x=some c->X.s₀.heap.objs.size<=c
 hd:X.calm=true->X.A.handled=none
 frames:X.A.frames=some X.stack
 GW:X.stack=X.outer\/(X.stack=X.env::X.outer/\X.env.frame=some X.env.locals)
 RZ:∀b∈X.ex,b≠X.env.locals/\∀x c,X.env.cells.lookup x=some c->c≠b
 bs:∀b o,X.base.get? b=some o->X.s₀.heap.get? b=some o/\X.H₀ b=none
 vX:X.base.objs.size<=X.s₀.heap.objs.size
 sL:∀b o,X.base.get? b=some o->b∉X.ex
 uY:∀b∈X.ex,b∉X.fs
 kL:X.s₀.heap.FunFrames X.base X.outer
 zE:∀b∈X.fs,X.H₀ b=none
structure Inv (X:Cx) (af:List (ao×Obj)) (Z:List (ak V)) (H:Hp) (s:aE):Prop where
 ok:X.Ok
 os:s.os=X.s₀.os
 bare:AllBare s.gens
 base:Un X.fs X.ex X.H₀ H X.s₀.heap s.heap
 loc:∃m,s.heap.Ns X.env.locals m/\∀(i:Nat) (x:Str) (v:V),X.N[i]?=some x->Z[i]?=some (some v)->AG X.env.scope x->∃u,RelV v u/\Look X.env s.heap m x u
 cell:∀x c,X.env.cells.lookup x=some c->∃v,s.heap.IsCell c v
 free:H X.env.locals=none
 iF:∀x c,X.env.cells.lookup x=some c->H c=none
 pin:∀p∈X.pn++af,s.heap.get? p.1=some p.2/\H p.1=none/\p.1≠X.env.locals/\p.1∉X.fs/\∀v,p.2.data≠.cell v
 cV:kz X.prog X.w H s.heap
 len:Z.length=X.N.length
section
variable{X:Cx}{af:List (ao×Obj)}{Z:List (ak V)}{H H':Hp}{s:aE}{h':df}
def Cx.Ok.LQ(ok:X.Ok){b:ao}{o:Obj}(e:X.base.get? b=some o):b∉X.fs:=λhb=>by
 have:=(ok.kL.mem hb).1;rw[e] at this;cases this
theorem Inv.bs(I:Inv X af Z H s):∀b o,X.base.get? b=some o->s.heap.get? b=some o/\H b=none:=λb o e=>
 ⟨I.base.keep b o (I.ok.bs b o e).1 (I.ok.bs b o e).2 (I.ok.LQ e) (I.ok.sL b o e),I.base.free b o (I.ok.bs b o e).1 (I.ok.bs b o e).2 (I.ok.sL b o e)⟩
def Inv.bk(I:Inv X af Z H s):∀b o,X.base.get? b=some o->s.heap.get? b=some o:=λb o e=>(I.bs b o e).1
theorem Inv.mod(I:Inv X af Z H s):Mod X.K X.mg X.base:=I.ok.mod
def Inv.zQ(I:Inv X af Z H s):X.K.In s.heap:=I.ok.mod.Lr.keeps I.bk
theorem Inv.lt(I:Inv X af Z H s):X.env.locals<s.heap.objs.size:=let ⟨_,hn,_⟩:=I.loc;hn.lt
def Inv.sz(I:Inv X af Z H s):X.s₀.heap.objs.size<=s.heap.objs.size:=k_ I.ok.above (Nat.le_of_lt I.lt)
def Inv.yj(I:Inv X af Z H s){a:ao}(h:s.heap.objs.size<=a):a∉X.fs:=λhb=>by
 obtain⟨_,o,ho,_⟩:=I.ok.kL.mem hb;exact cu (jq (gb ho) (k_ I.sz h)) (oF _)
def Inv.xK(I:Inv X af Z H s):∀x c,X.env.cells.lookup x=some c->c≠X.env.locals:=λx c e z=>by
 obtain⟨v,o,ho,hd⟩:=I.cell x c e;obtain⟨m,⟨o',es,ep,xV,Ce,_⟩,_⟩:=I.loc;rw[z,xV] at ho;cases ho;rw[Ce] at hd;cases hd
theorem Inv.kL(I:Inv X af Z H s):s.heap.FunFrames X.base X.outer:=by
 have all:∀(l:List Env),(∀b∈q8 l,b∈X.fs)->X.s₀.heap.FunFrames X.base l->s.heap.FunFrames X.base l:=by
  intro l
  induction l with
  |nil=>intro _ _;trivial
  |cons env r ih=>
   intro hs hl;obtain⟨hk,⟨L,o,hf,hn,ho,hd⟩,hr⟩:=hl;have hL:L∈X.fs:=hs L (by unfold q8;rw[yG,hf];exact qJ)
   obtain⟨sl,e⟩:=I.base.slot L o ho (I.ok.zE L hL) hL λz=>I.ok.uY L z hL
   exact⟨hk,⟨L,_,hf,hn,e,hd⟩,ih (λb hb=>hs b (by unfold q8;rw[yG,hf];exact qK _ hb)) hr⟩
 exact all X.outer (λ_ hb=>hb) I.ok.kL
def Inv.stack(I:Inv X af Z H s):s.heap.FunFrames X.base X.stack:=by
 rcases I.ok.GW with e|⟨e,hf⟩
 .rw[e];exact I.kL
 .rw[e];obtain⟨m,hn,_⟩:=I.loc;refine .cons (by rw[I.ok.kind];decide) hf hn ?_ I.kL
  exact Heap.get?_none_of_le (k_ I.ok.vX I.ok.above)
def Inv.kY(I:Inv X af Z H s):∀b∈q8 X.stack,b∈X.env.locals::X.fs:=λb hb=>by
 rcases I.ok.GW with e|⟨e,hf⟩
 .rw[e] at hb;exact qK _ hb
 .rw[e] at hb;unfold q8 at hb;rw[yG,hf] at hb;exact hb
def Inv.qg(I:Inv X af Z H s):∀b∈q8 X.stack,H b=none:=λb hb=>by
 rcases eX.mp (I.kY b hb) with e|hb
 .rw[e];exact I.free
 .obtain⟨_,o,ho,_⟩:=I.ok.kL.mem hb;exact I.base.free b o ho (I.ok.zE b hb) λz=>I.ok.uY b z hb
def Inv.step{g':Array GenState}{t':Nat}{d':Drawn}{ch:List ao}(I:Inv X af Z H s)
  (q_:∀b∈ch,(b∈X.ex\/X.s₀.heap.objs.size<=b)/\b≠X.env.locals/\(∀x c,X.env.cells.lookup x=some c->c≠b)/\∀p∈X.pn++af,p.1≠b)
  (keep:∀b o,b≠X.env.locals->b∉X.fs->b∉ch->s.heap.get? b=some o->H b=none->h'.get? b=some o)
  (slot:∀b o,b≠X.env.locals->b∈X.fs->b∉ch->s.heap.get? b=some o->H b=none->∃sl,h'.get? b=some { o with slots:=sl}) (free:∀b o,b∉ch->s.heap.get? b=some o->H b=none->H' b=none)
  (there:∀b o,b∉ch->s.heap.get? b=some o->∃o',h'.get? b=some o')
  (mR:∀b xs,H b=some (.tup xs)->H' b=some (.tup xs)) (lJ:∀b o u,H b=some (.Y o u)->H' b=some (.Y o u)) (mP:∀b ps,H b=some (.yD ps)->∃more,H' b=some (.yD (ps++more)))
  (ns:∀m,s.heap.Ns X.env.locals m->h'.Ns X.env.locals m) (cV:kz X.prog X.w H' h') (hg:AllBare g') :
  Inv X af Z H' { s with heap:=h',gens:=g',drawn:=d',toks:=t'}:=by
 have SE:∀b o,X.s₀.heap.get? b=some o->b≠X.env.locals:=λb o e=>mS (jq (gb e) I.ok.above)
 have GL:∀b o,X.s₀.heap.get? b=some o->b∉X.ex->b∉ch:=λb o e hx hb=>by
  rcases(q_ b hb).1 with z|z
  .exact hx z
  .exact cu (jq (gb e) z) (oF _)
 have cellK:∀x c,X.env.cells.lookup x=some c->∀v,s.heap.IsCell c v->h'.IsCell c v:=λx c e v ⟨o,ho,hd⟩=>by
  have CC:c∉ch:=λz=>(q_ c z).2.2.1 x c e rfl
  by_cases hc:c∈X.fs
  .obtain⟨sl,q⟩:=slot c o (I.xK x c e) hc CC ho (I.iF x c e);exact⟨_,q,hd⟩
  .exact⟨o,keep c o (I.xK x c e) hc CC ho (I.iF x c e),hd⟩
 refine⟨I.ok,I.os,hg,⟨λb o e n hb hx=>?_,λb o e n hb hx=>?_,λb o e n hx=>?_,λb o e hx=>?_,λb xs e=>mR b xs (I.base.mR b xs e),λb o xs e=>lJ b o xs (I.base.lJ b o xs e),λb ps e=>?_⟩,?_,λx c e=>?_,?_,λx c e=>?_,λp hp=>?_,cV,I.len⟩
 .exact keep b o (SE b o e) hb (GL b o e hx) (I.base.keep b o e n hb hx) (I.base.free b o e n hx)
 .obtain⟨sl,e1⟩:=I.base.slot b o e n hb hx;obtain⟨sl',e2⟩:=slot b _ (SE b o e) hb (GL b o e hx) e1 (I.base.free b o e n hx);exact⟨sl',e2⟩
 .obtain⟨o',e1⟩:=I.base.there b o e hx;exact free b o' (GL b o e hx) e1 (I.base.free b o e n hx)
 .obtain⟨o',e1⟩:=I.base.there b o e hx;exact there b o' (GL b o e hx) e1
 .obtain⟨m1,e1⟩:=I.base.mP b ps e;obtain⟨m2,e2⟩:=mP b _ e1;exact⟨m1++m2,by rw[e2,Array.append_assoc]⟩
 .obtain⟨m,hn,hl⟩:=I.loc;refine⟨m,ns m hn,λi x v e1 e2 e3=>?_⟩
  obtain⟨u,r,l⟩:=hl i x v e1 e2 e3;refine⟨u,r,?_⟩;rcases l with l|⟨k,c,e,z⟩
  .exact .inl l
  .exact .inr ⟨k,c,e,cellK x c e _ z⟩
 .obtain⟨v,z⟩:=I.cell x c e;exact⟨v,cellK x c e v z⟩
 .obtain⟨m,⟨o,_,_,ho,_⟩,_⟩:=I.loc;exact free _ o (λz=>(q_ _ z).2.1 rfl) ho I.free
 .obtain⟨v,o,ho,hd⟩:=I.cell x c e;exact free c o (λz=>(q_ c z).2.2.1 x c e rfl) ho (I.iF x c e)
 .obtain⟨e,n,ne,nf,d⟩:=I.pin p hp;have CC:p.1∉ch:=λz=>(q_ p.1 z).2.2.2 p hp rfl
  exact⟨keep p.1 p.2 ne nf CC e n,free p.1 p.2 CC e n,ne,nf,d⟩
def Inv.un{t':Nat}(I:Inv X af Z H s)(u:Un X.fs [] H H' s.heap h')(cV:kz X.prog X.w H' h'):Inv X af Z H' { s with heap:=h',toks:=t'}:=by
 obtain⟨m,⟨o,es,ep,ho,r⟩,_⟩:=id I.loc;obtain⟨sl,hL⟩:=u.any ho I.free (by simp)
 exact I.step (g':=s.gens) (d':=s.drawn) (ch:=[]) (λ_ z=>nomatch z) (λb o _ hb _ e n=>u.keep b o e n hb (by simp)) (λb o _ hb _ e n=>u.slot b o e n hb (by simp)) (λb o _ e n=>u.free b o e n (by simp)) (λb o _ e=>u.there b o e (by simp)) u.mR u.lJ u.mP (λm' hm=>by
  obtain⟨o',xO,Kp,xV,r'⟩:=hm;rw[ho] at xV;cases xV;exact⟨_,xO,Kp,hL,r'⟩) cV I.bare
def Inv.call{g':Array GenState}{t':Nat}{d':Drawn}{ch:List ao}(I:Inv X af Z H s)(u:Un (q8 X.stack) ch H H' s.heap h')(cV:kz X.prog X.w H' h')(hg:AllBare g')
  (q_:∀b∈ch,(b∈X.ex\/X.s₀.heap.objs.size<=b)/\b≠X.env.locals/\(∀x c,X.env.cells.lookup x=some c->c≠b)/\∀p∈X.pn++af,p.1≠b) :
  Inv X af Z H' { s with heap:=h',gens:=g',drawn:=d',toks:=t'}:=by
 obtain⟨m,⟨o,es,ep,ho,r⟩,_⟩:=id I.loc;obtain⟨sl,hL⟩:=u.any ho I.free λz=>(q_ _ z).2.1 rfl
 exact I.step (ch:=ch) q_ (λb o hL hb hc e n=>u.keep b o e n (λz=>(eX.mp (I.kY b z)).elim hL hb) hc) (λb o _ _ hc e n=>u.any e n hc) (λb o hc e n=>u.free b o e n hc) (λb o hc e=>u.there b o e hc) u.mR u.lJ u.mP (λm' hm=>by
  obtain⟨o',xO,Kp,xV,r'⟩:=hm;rw[ho] at xV;cases xV;exact⟨_,xO,Kp,hL,r'⟩) cV hg
def Inv.turned{t':Nat}{it:ao}(I:Inv X af Z H s)(k:∀b o,b≠it->s.heap.get? b=some o->h'.get? b=some o)(hn:H it=none)(hL:it≠X.env.locals)
  (h1:it∈X.ex\/X.s₀.heap.objs.size<=it) (h2:∀x c,X.env.cells.lookup x=some c->c≠it) (h3:∀p∈X.pn++af,p.1≠it):Inv X af Z H { s with heap:=h',toks:=t'}:=by
 have SF:∀b u,H b=some u->b≠it:=λb u e z=>by rw[z,hn] at e;cases e
 refine I.step (g':=s.gens) (d':=s.drawn) (ch:=[it]) (λb hb=>?_) (λb o _ _ hc e _=>k b o (λz=>hc (by simp[z])) e) (λb o _ _ hc e _=>⟨o.slots,k b o (λz=>hc (by simp[z])) e⟩) (λ_ _ _ _ n=>n)
  (λb o hc e=>⟨o,k b o (λz=>hc (by simp[z])) e⟩) (λ_ _ e=>e) (λ_ _ _ e=>e) (λb ps e=>⟨#[],by rw[e];simp⟩) (λm hm=>?_) (λb u e=>?_) I.bare
 .have e:b=it:=by simpa using hb
  subst e;exact⟨h1,hL,h2,h3⟩
 .obtain⟨o,es,ep,ho,r⟩:=hm;exact⟨o,es,ep,k _ o (Ne.symm hL) ho,r⟩
 .refine(I.cV b u e).oB (λc v hc q=>k c v ?_ q) (λ_ q=>q) λ_ _ q=>q
  rcases hc with z|z
  .rw[z];exact SF b u e
  .exact SF c _ z
def Inv.tok(I:Inv X af Z H s)(t:Nat):Inv X af Z H { s with toks:=t}:=I.un (h':=s.heap) (t':=t) Un.refl I.cV
theorem Inv.kept{t':Nat}(I:Inv X af Z H s)(k:∀b u,s.heap.get? b=some u->h'.get? b=some u):Inv X af Z H { s with heap:=h',toks:=t'}:=I.un (Un.kept k) (I.cV.kept k)
theorem Inv.laid{a:ao}{o:HO}{t':Nat}(I:Inv X af Z H s)(k:∀b u,s.heap.get? b=some u->h'.get? b=some u)(hp:s.heap.objs.size<=a)(new:cC X.prog X.w (upd H a o) h' a o):
  Inv X af Z (upd H a o) { s with heap:=h',toks:=t'}:=I.un (Un.laid k hp (I.cV.fresh hp)) (I.cV.laid k hp new)
theorem Inv.write{x e:ao}{o:HO}{t':Nat}(I:Inv X af Z H s)(mu:Az (H x))(he:e=x\/H e=some (.own x))(k:∀b u,b≠e->s.heap.get? b=some u->h'.get? b=some u)(zI:∃u,h'.get? e=some u)
  (new:cC X.prog X.w (upd H x o) h' x o):Inv X af Z (upd H x o) { s with heap:=h',toks:=t'}:=I.un (Un.write mu he k zI) (I.cV.write mu he k zI new)
def Inv.kq{wF:List (ao×Obj)}(I:Inv X af Z H s)(h:∀p∈wF,s.heap.get? p.1=some p.2/\H p.1=none/\p.1≠X.env.locals/\p.1∉X.fs/\∀v,p.2.data≠.cell v):Inv X wF Z H s:=
 ⟨I.ok,I.os,I.bare,I.base,I.loc,I.cell,I.free,I.iF,λp hp=>(eT.mp hp).elim (λz=>I.pin p (jQ _ z)) (h p),I.cV,I.len⟩
def Om{N:List Str}(hN:N.Nodup){i j:Nat}{x:Str}(a:N[i]?=some x)(b:N[j]?=some x):i=j:=by
 obtain⟨h1,e1⟩:=iA.mp a;obtain⟨h2,e2⟩:=iA.mp b;exact(List.getElem_inj hN).mp (e1.trans e2.symm)
def Ny{M:Model}{A:eY}{E:au->aE->Prop}{i:Nat}{x:Str}{v:V}{u:au}{Q:Unit->aE->Prop}(I:Inv X af Z H s)(hN:X.N.Nodup)(hi:X.N[i]?=some x)(hx:Loc X.env.scope x)(r:RelV v u)
  (h:∀s',Inv X af (Z.set i (some v)) H s'->(∃a,Heap.SameBut a s.heap s'.heap/\(a=X.env.locals\/X.env.cells.lookup x=some a))->Q () s') (hf:X.fn x=true\/X.env.scope.names.lookup x=some .local := by first|exact .inl rfl|exact .inr rfl|assumption):wpAny M A (storeName X.env x u) Q E s:=by
 obtain⟨m,hn,hl⟩:=id I.loc;have KY:(X.env.scope.kind == .class || (X.env.scope.kind == .module&&X.env.locals != X.env.globals))=false:=by rw[I.ok.kind];rfl
 have Sg:i<Z.length:=by rw[I.len];exact(iA.mp hi).1
 have xK:=I.xK;have tracked:∀{a:ao} {h':df},(∃o,s.heap.get? a=some o/\H a=none)->Heap.SameBut a s.heap h'->kz X.prog X.w H h':=λ{a h'} ha hs b ob e=>by
  obtain⟨_,_,wj⟩:=ha;refine(I.cV b ob e).oB (λc w' hc q=>(hs.2 c ?_).trans q) (λ_ q=>q) λ_ _ q=>q
  rintro rfl;rcases hc with rfl|hc
  .rw[wj] at e;cases e
  .rw[wj] at hc;cases hc
 rcases hx with hk|hk
 .refine wpAny_storeName_local hk hn (λh' Lc hs=>?_) KY
  obtain⟨oL,_,_,hoL,_⟩:=id hn;refine h _ ⟨I.ok,I.os,I.bare,⟨λb o e n hb hx=>?_,λb o e n hb hx=>?_,I.base.free,λb o e hx=>?_,I.base.mR,I.base.lJ,I.base.mP⟩,⟨_,Lc,λj y v' e1 e2 e3=>?_⟩,λy c e=>?_,I.free,I.iF,λp hp=>?_,tracked ⟨oL,hoL,I.free⟩ hs,by simpa using I.len⟩ ⟨_,hs,.inl rfl⟩
  .exact(hs.2 b (mS (jq (gb e) I.ok.above))).trans (I.base.keep b o e n hb hx)
  .obtain⟨sl,e1⟩:=I.base.slot b o e n hb hx;exact⟨sl,(hs.2 b (mS (jq (gb e) I.ok.above))).trans e1⟩
  .obtain⟨o',e1⟩:=I.base.there b o e hx;exact⟨o',(hs.2 b (mS (jq (gb e) I.ok.above))).trans e1⟩
  .by_cases hj:j=i
   .subst hj;rw[hi] at e1;cases e1;rw[List.getElem?_set_self Sg] at e2;cases e2;exact⟨u,r,.inl ⟨hk,by simp⟩⟩
   .rw[Ds (Ne.symm hj)] at e2;obtain⟨u',r',q⟩:=hl j y v' e1 e2 e3;refine⟨u',r',?_⟩;rcases q with⟨k,e⟩|⟨k,c,e,z⟩
    .refine .inl ⟨k,?_⟩;have:y≠x:=λe=>hj (Om hN e1 (e ▸ hi))
     simp[this,e]
    .exact .inr ⟨k,c,e,z.sameBut hs (xK y c e)⟩
  .obtain⟨w',z⟩:=I.cell y c e;exact⟨w',z.sameBut hs (xK y c e)⟩
  .obtain⟨e,n,ne,nf,d⟩:=I.pin p hp;exact⟨(hs.2 p.1 ne).trans e,n,ne,nf,d⟩
 .have K2:X.fn x=true:=by
   rcases hf with z|z
   .exact z
   .rw[z] at hk;cases hk
  obtain⟨c,hc⟩:=I.ok.has x (.inl hk);obtain⟨w',z⟩:=I.cell x c hc;refine wpAny_storeName_cell I.ok.kind hk hc z (λh' u3 hs=>?_)
  obtain⟨oc,Gx,Ld⟩:=id z;refine h { s with heap:=h'} ⟨I.ok,I.os,I.bare,⟨λb o e n hb hx=>?_,λb o e n hb hx=>?_,I.base.free,λb o e hx=>?_,I.base.mR,I.base.lJ,I.base.mP⟩,⟨m,hn.sameBut hs (Ne.symm (xK x c hc)),λj y v' e1 e2 e3=>?_⟩,λy c' e=>?_,I.free,I.iF,λp hp=>?_,tracked ⟨oc,Gx,I.iF x c hc⟩ hs,by simpa using I.len⟩ ⟨c,hs,.inr hc⟩
  .exact(hs.2 b (mS (jq (gb e) (I.ok.BI x c K2 hc)))).trans (I.base.keep b o e n hb hx)
  .obtain⟨sl,e1⟩:=I.base.slot b o e n hb hx;exact⟨sl,(hs.2 b (mS (jq (gb e) (I.ok.BI x c K2 hc)))).trans e1⟩
  .obtain⟨o',e1⟩:=I.base.there b o e hx;exact⟨o',(hs.2 b (mS (jq (gb e) (I.ok.BI x c K2 hc)))).trans e1⟩
  .by_cases hj:j=i
   .subst hj;rw[hi] at e1;cases e1;rw[List.getElem?_set_self Sg] at e2;cases e2;exact⟨u,r,.inr ⟨.inl hk,c,hc,u3⟩⟩
   .rw[Ds (Ne.symm hj)] at e2;obtain⟨u',r',q⟩:=hl j y v' e1 e2 e3;refine⟨u',r',?_⟩;rcases q with q|⟨k,c',e,z'⟩
    .exact .inl q
    .refine .inr ⟨k,c',e,z'.sameBut hs ?_⟩;rintro rfl;exact hj (Om hN e1 (I.ok.inj _ _ _ e hc ▸ hi))
  .by_cases R':c'=c
   .subst R';exact⟨_,u3⟩
   .obtain⟨w2,z2⟩:=I.cell y c' e;exact⟨w2,z2.sameBut hs R'⟩
  .obtain⟨e,n,ne,nf,d⟩:=I.pin p hp;refine⟨(hs.2 p.1 ?_).trans e,n,ne,nf,d⟩;intro q;rw[q,Gx] at e;have q':oc=p.2:=Option.some.inj e;exact d w' (by rw[<-q'];exact Ld)
def H_{M:Model}{A:eY}{E:au->aE->Prop}{i:Nat}{x:Str}{v:V}{u:au}{Q:Unit->aE->Prop}(I:Inv X af Z H s)(hN:X.N.Nodup)(hi:X.N[i]?=some x)(hx:Loc X.env.scope x)(r:RelV v u)
  (h:∀s',Inv X af (Z.set i (some v)) H s'->Q () s') (hf:X.fn x=true\/X.env.scope.names.lookup x=some .local := by first|exact .inl rfl|exact .inr rfl|assumption):wpAny M A (storeName X.env x u) Q E s:=
 Ny I hN hi hx r (λs' I' _=>h s' I') hf
def Inv.BJ{s':aE}{ch:List ao}(I:Inv X af Z H s)(ho:s'.os=s.os)(u:Un (q8 X.stack) ch H H' s.heap s'.heap)(cV:kz X.prog X.w H' s'.heap)(hg:AllBare s'.gens)
  (q_:∀b∈ch,(b∈X.ex\/X.s₀.heap.objs.size<=b)/\b≠X.env.locals/\(∀x c,X.env.cells.lookup x=some c->c≠b)/\∀p∈X.pn++af,p.1≠b):Inv X af Z H' s':=by
 obtain⟨h',g',d',t',o'⟩:=s';have e:o'=s.os:=ho;subst e;exact I.call (g':=g') (t':=t') (d':=d') u cV hg q_
end
abbrev XK:=au->ak ao->Hp->Prop
abbrev St:=List (ak V)
abbrev VK:=V->Hp->Prop
abbrev TE:=St->Hp->VK->Prop
abbrev TT:=St->Hp->(Bool->Hp->Prop)->Prop
abbrev TA:=St->Hp->(List V->Hp->Prop)->Prop
set_option genInjectivity false in
structure Ends where
 nx:St->Hp->Prop
 rt:VK
 bk:St->Hp->Prop:=λ_ _=>False
 ct:St->Hp->Prop:=λ_ _=>False
abbrev TS:=Ends->St->Hp->Prop
def EP(X:Cx)(af:List (ao×Obj))(Z:St)(Q:VK)(u:au)(s':aE):Prop:=∃v H',Inv X af Z H' s'/\RelV v u/\Q v H'
def TP(X:Cx)(af:List (ao×Obj))(Z:St)(Q:Bool->Hp->Prop)(b:Bool)(s':aE):Prop:=∃H',Inv X af Z H' s'/\Q b H'
def AP(X:Cx)(af:List (ao×Obj))(Z:St)(Q:List V->Hp->Prop)(us:List au)(s':aE):Prop:=∃vs H',Inv X af Z H' s'/\Vals vs us/\Q vs H'
def SP(X:Cx)(af:List (ao×Obj))(D:Ends)(f:Flow)(s':aE):Prop:=
 match f with
 |.next=>∃Z' H',Inv X af Z' H' s'/\D.nx Z' H'
 |.brk=>∃Z' H',Inv X af Z' H' s'/\D.bk Z' H'
 |.cont=>∃Z' H',Inv X af Z' H' s'/\D.ct Z' H'
 |.ret u=>∃v Z' H',Inv X af Z' H' s'/\RelV v u/\D.rt v H'
def PE(X:Cx)(e:Expr)(t:TE):Prop:=
 ∀(af:List (ao×Obj)) (s:aE) (Z:St) (H:Hp) (Q:VK),Inv X af Z H s->t Z H Q->wpAny (model X.prog X.w) X.A (eval e X.env) (EP X af Z Q) X.xe s
def PT(X:Cx)(e:Expr)(t:TT):Prop:=
 ∀(af:List (ao×Obj)) (s:aE) (Z:St) (H:Hp) (Q:Bool->Hp->Prop),Inv X af Z H s->t Z H Q->wpAny (model X.prog X.w) X.A (isTrue e X.env (eval e X.env)) (TP X af Z Q) X.xe s
def PW(X:Cx)(e:Expr)(t:TT):Prop:=
 ∀(whole:Sem au) (af:List (ao×Obj)) (s:aE) (Z:St) (H:Hp) (Q:Bool->Hp->Prop),Inv X af Z H s->t Z H Q->wpAny (model X.prog X.w) X.A (isTrue e X.env whole) (TP X af Z Q) X.xe s
def PW.pt{X:Cx}{e:Expr}{t:TT}(h:PW X e t):PT X e t:=h _
def PA(X:Cx)(es:List Expr)(t:TA):Prop:=
 ∀(pos:Pos) (af:List (ao×Obj)) (s:aE) (Z:St) (H:Hp) (Q:List V->Hp->Prop),Inv X af Z H s->t Z H Q->wpAny (model X.prog X.w) X.A (spliced (backTo pos (starEach es X.env))) (AP X af Z Q) X.xe s
def PS(X:Cx)(st:Stmt)(t:TS):Prop:=
 ∀(af:List (ao×Obj)) (s:aE) (Z:St) (H:Hp) (D:Ends),Inv X af Z H s->t D Z H->wpAny (model X.prog X.w) X.A (exec st X.env) (SP X af D) X.xe s
def iu(X:Cx)(st:List Stmt)(t:TS):Prop:=
 ∀(af:List (ao×Obj)) (s:aE) (Z:St) (H:Hp) (D:Ends),Inv X af Z H s->t D Z H->wpAny (model X.prog X.w) X.A (execs st X.env) (SP X af D) X.xe s
def cQ{α:Type}{t:Sem α}{Q Q':α->aE->Prop}{M:Model}{A:eY}{E:au->aE->Prop}{s:aE}(h:wpAny M A t Q E s)(hQ:∀a s,Q a s->Q' a s):wpAny M A t Q' E s:=wpAny_mono h hQ λ_ _ x=>x
section
variable{X:Cx}
def qI(i:Nat):TE:=λZ H Q=>∃v,Z[i]?=some (some v)/\Q v H
def tC(v:V):TE:=λ_ H Q=>Q v H
def YK{i:Nat}{x:Str}{pos:Pos}(hN:X.N[i]?=some x)(hv:AG X.env.scope x)(hd:(x == ("__debug__":Str))=false:=by decide)(qz:(x == ("__classdict__":Str))=false:=by decide):PE X (.Name x pos) (qI i):=by
 intro af s Z H Q I h;obtain⟨v,e,h⟩:=h;obtain⟨m,hn,hl⟩:=I.loc;obtain⟨u,r,l⟩:=hl i x v hN e hv;have fin:EP X af Z Q u s:=⟨v,H,I,r,h⟩;rcases l with⟨hk,hm⟩|⟨hk,c,hc,lZ⟩
 .exact wpAny_Name (wpAny_loadName_local I.ok.kind hk hn hm fin) hd
 .rcases hk with hk|hk
  .exact wpAny_Name (wpAny_loadName_cell I.ok.kind hk hc lZ fin) hd
  .exact wpAny_Name (wpAny_loadName_free I.ok.kind hk hc lZ fin qz) hd
def EN{i j pos}:PE X (.Constant (.int i) j pos) (tC (.int i)):=λ_ _ _ H _ I h=>wpAny_Constant_int ⟨.int i,H,I.tok _,⟨_,rfl⟩,h⟩
def vV{b j pos}:PE X (.Constant (.bool b) j pos) (tC (.bl b)):=λ_ _ _ H _ I h=>Constant_bool ⟨.bl b,H,I,rfl,h⟩
def Bi{j pos}:PE X (.Constant .none j pos) (tC .bF):=λ_ _ _ H _ I h=>Constant_none ⟨.bF,H,I,rfl,h⟩
def tZ{x j pos}:PE X (.Constant (.str x) j pos) (tC (.str x)):=λ_ _ _ H _ I h=>Calls.Constant_str ⟨.str x,H,I.tok _,⟨_,rfl⟩,h⟩
def Gl(X:Cx)(x:Str):Prop:=X.env.kindOf x=some .globalImplicit
def Pd{E:au->aE->Prop}{af:List (ao×Obj)}{s:aE}{Z:St}{H:Hp}{x:Str}{u:au}{pos:Pos}{Q:au->aE->Prop}(I:Inv X af Z H s)(hg:Gl X x)(hm:X.mg x=some u)(h:Q u s)
  (hd:(x == ("__debug__":Str))=false:=by decide):wpAny (model X.prog X.w) X.A (eval (.Name x pos) X.env) Q E s:=
 Calls.Name_function_global I.ok.kind hg (Calls.loadGlobal_global (by rw[I.ok.glob];exact I.mod.glob.keeps I.bk) hm h) hd
def uJ{E:au->aE->Prop}{af:List (ao×Obj)}{s:aE}{Z:St}{H:Hp}{x:Str}{u:au}{pos:Pos}{Q:au->aE->Prop}(I:Inv X af Z H s)(hg:Gl X x)(hm:X.mg x=none)(hv:bootBuiltins x=some u)(h:Q u s)
  (hn:x≠"__name__":=by decide) (hd:(x == ("__debug__":Str))=false:=by decide):wpAny (model X.prog X.w) X.A (eval (.Name x pos) X.env) Q E s:=by
 obtain⟨mb,h1,h2⟩:=I.mod.blt;exact Calls.Name_function_global I.ok.kind hg (Calls.loadGlobal_builtin (by rw[I.ok.glob];exact I.mod.glob.keeps I.bk) hm (by rw[I.ok.blt];exact h1.keeps I.bk) ((h2 x hn).trans hv) h) hd
def WS{x:Str}{v:V}{u:au}{pos:Pos}(hg:Gl X x)(hm:X.mg x=some u)(r:RelV v u)(hd:(x == ("__debug__":Str))=false:=by decide):PE X (.Name x pos) (tC v):=
 λ_ _ _ H _ I h=>Pd I hg hm ⟨v,H,I,r,h⟩ hd
def WT{x:Str}{v:V}{u:au}{pos:Pos}(hg:Gl X x)(hm:X.mg x=none)(hv:bootBuiltins x=some u)(r:RelV v u)(hn:x≠"__name__":=by decide)(hd:(x == ("__debug__":Str))=false:=by decide):PE X (.Name x pos) (tC v):=
 λ_ _ _ H _ I h=>uJ I hg hm hv ⟨v,H,I,r,h⟩ hn hd
variable{a b:Expr}{ta tb:TE}{pos:Pos}
def tB(t:TE):TT:=λZ H Q=>t Z H λx H1=>∃c,x=.bl c/\Q c H1
variable{tA GX:TT}{rest:List Expr}
def L7(t u:TT):TT:=λZ H Q=>t Z H λc H1=>if c=true then u Z H1 Q else Q false H1
def tOr(t u:TT):TT:=λZ H Q=>t Z H λc H1=>if c=true then Q true H1 else u Z H1 Q
def Md(t:TT):TT:=λZ H Q=>t Z H λc H1=>Q (!c) H1
def WU(ha:PT X a tA):PW X (.BoolOp .And [a] pos) tA:=by
 intro wh af s Z H Q I h;refine isTrue_and (cQ (ha af s Z H Q I h) λc s1 e=>?_)
 cases c with
 |true=>exact isTrue_and_nil e
 |false=>exact e
def YL(ha:PT X a tA):PW X (.BoolOp .Or [a] pos) tA:=by
 intro wh af s Z H Q I h;refine isTrue_or (cQ (ha af s Z H Q I h) λc s1 e=>?_)
 cases c with
 |false=>exact isTrue_or_nil e
 |true=>exact e
def YM(ha:PT X a tA)(hb:PW X (.BoolOp .And (b::rest) pos) GX):PW X (.BoolOp .And (a::b::rest) pos) (L7 tA GX):=by
 intro wh af s Z H Q I h;refine isTrue_and (cQ (ha af s Z H _ I h) λc s1 hh=>?_)
 obtain⟨H1,I1,q1⟩:=hh;cases c with
 |true=>exact hb wh af s1 Z H1 Q I1 q1
 |false=>exact⟨H1,I1,q1⟩
def μ(ha:PT X a tA)(hb:PW X (.BoolOp .Or (b::rest) pos) GX):PW X (.BoolOp .Or (a::b::rest) pos) (tOr tA GX):=by
 intro wh af s Z H Q I h;refine isTrue_or (cQ (ha af s Z H _ I h) λc s1 hh=>?_)
 obtain⟨H1,I1,q1⟩:=hh;cases c with
 |true=>exact⟨H1,I1,q1⟩
 |false=>exact hb wh af s1 Z H1 Q I1 q1
def YN(ha:PT X a tA):PT X (.UnaryOp .Not a pos) (Md tA):=by
 intro af s Z H Q I h;exact isTrue_not (ha af s Z H (λc H1=>Q (!c) H1) I h)
def tIf(t:TT)(ta tb:TE):TE:=λZ H Q=>t Z H λc H1=>if c=true then ta Z H1 Q else tb Z H1 Q
def Vm{c:Expr}(hc:PT X c tA)(ha:PE X a ta)(hb:PE X b tb):PE X (.IfExp c a b pos) (tIf tA ta tb):=by
 intro af s Z H Q I h;refine wpAny_IfExp (cQ (hc af s Z H _ I h) λd s1 hh=>?_)
 obtain⟨H1,I1,q1⟩:=hh;cases d with
 |true=>exact ha af s1 Z H1 Q I1 q1
 |false=>exact hb af s1 Z H1 Q I1 q1
end
def dH(K:FG)(H:Hp)(a:ao)(xs:List V):Prop:=
 Rd H a (.lst xs)\/
  ∃(o:Obj) (aA:Array au) (n:Nat),K.lookup a=some o/\o.cls=.type "list"/\o.dict=none/\o.data=.seq aA n/\aA.size<=sizeLine/\Vals xs aA.toList
def iB(K:FG)(H:Hp)(a:ao)(xs:List V):Prop:=
 Rd H a (.tup xs)\/
  ∃(o:Obj) (aA:Array au) (n:Nat),K.lookup a=some o/\o.cls=.type "tuple"/\o.data=.seq aA n/\aA.size<=sizeLine/\Vals xs aA.toList
noncomputable def Ht:au->ak V
 |.none=>some .bF
 |.bool b=>some (.bl b)
 |.int i _=>some (.int i)
 |.str x _=>some (.str x)
 |.bytes b _=>some (.zx b)
 |.float b _=>some (.zD b)
 |.ref a=>some (.ref a)
 |.type n=>some (.ty n)
 |_=>none
def RelV.abs{x:V}{u:au}(r:RelV x u):Ht u=some x:=by
 cases x with
 |bF=>cases r;rfl
 |bl _=>cases r;rfl
 |int _=>obtain⟨t,rfl⟩:=r;rfl
 |str _=>obtain⟨t,rfl⟩:=r;rfl
 |zx _=>obtain⟨t,rfl⟩:=r;rfl
 |zD _=>obtain⟨t,rfl⟩:=r;rfl
 |ref _=>cases r;rfl
 |ty _=>cases r;rfl
theorem RelV.inj{x y:V}{u:au}(r:RelV x u)(q:RelV y u):x=y:=Option.some.inj (r.abs.symm.trans q.abs)
theorem Vals.inj{xs ys:List V}{us:List au}(h:Vals xs us)(h':Vals ys us):xs=ys:=by
 induction h generalizing ys with
 |nil=>cases h';rfl
 |cons r t ih=>
  cases h' with
  |cons r' t'=>rw[r.inj r',ih t']
section
variable{X:Cx}{af:List (ao×Obj)}{Z:St}{H:Hp}{s:aE}{a:ao}{xs ys:List V}
def dH.of{K:FG}(h:H a=some (.lst xs)):dH K H a xs:=.inl (.inl h)
def iB.of{K:FG}(h:H a=some (.tup xs)):iB K H a xs:=.inl (.inl h)
def Inv.list(I:Inv X af Z H s)(h:dH X.K H a xs):∃aA:List au,Vals xs aA/\PlainL s.heap a aA.toArray/\xs.length<=sizeLine:=by
 rcases h with h|⟨o,aA,n,hk,hc,hd,hs,hz,r⟩
 .obtain⟨z,aA,n,r,e⟩:=h.ok I.cV;exact⟨aA,r,⟨_,n,e,rfl,rfl,rfl⟩,z⟩
 .refine⟨aA.toList,r,⟨o,n,I.zQ a o hk,hc,hd,by simpa using hs⟩,?_⟩
  have e:=r.length;simp only[Array.length_toList] at e;lia
def Inv.tuple(I:Inv X af Z H s)(h:iB X.K H a xs):∃aA:List au,Vals xs aA/\IsTup s.heap a aA.toArray/\xs.length<=sizeLine:=by
 rcases h with h|⟨o,aA,n,hk,hc,hs,hz,r⟩
 .obtain⟨z,aA,r,p⟩:=h.ok I.cV;exact⟨aA,r,p,z⟩
 .refine⟨aA.toList,r,⟨o,I.zQ a o hk,hc,n,by simpa using hs⟩,?_⟩
  have e:=r.length;simp only[Array.length_toList] at e;lia
def Inv.kR(I:Inv X af Z H s)(h:dH X.K H a xs)(h':dH X.K H a ys):xs=ys:=by
 obtain⟨aA,r,⟨o,n,e,_,_,d⟩,_⟩:=I.list h;obtain⟨its',r',⟨o',n',e',_,_,d'⟩,_⟩:=I.list h';rw[e] at e';cases e';rw[d] at d';injection d' with d1 _;have:aA=its':=by simpa using congrArg Array.toList d1
 subst this;exact r.inj r'
def Inv.mD(I:Inv X af Z H s)(h:iB X.K H a xs)(h':iB X.K H a ys):xs=ys:=by
 obtain⟨aA,r,⟨o,e,_,n,d⟩,_⟩:=I.tuple h;obtain⟨its',r',⟨o',e',_,n',d'⟩,_⟩:=I.tuple h';rw[e] at e';cases e';rw[d] at d';injection d' with d1 _;have:aA=its':=by simpa using congrArg Array.toList d1
 subst this;exact r.inj r'
end
noncomputable abbrev Cx.lP(X:Cx)(E:au->aE->Prop):Cx:={ X with xe:=E}
abbrev Cx.yk(X:Cx):Cx:=X.lP λ_ _=>False
def Cx.Ok.lP{X:Cx}(ok:X.Ok)(E:au->aE->Prop):(X.lP E).Ok:=
 ⟨ok.mod,ok.kind,ok.glob,ok.blt,ok.above,ok.inj,ok.has,ok.BI,ok.hd,ok.frames,ok.GW,ok.RZ,ok.bs,ok.vX,ok.sL,ok.uY,ok.kL,ok.zE⟩
def Cx.Ok.iL{X:Cx}{E:au->aE->Prop}(ok:(X.lP E).Ok):X.Ok:=
 ⟨ok.mod,ok.kind,ok.glob,ok.blt,ok.above,ok.inj,ok.has,ok.BI,ok.hd,ok.frames,ok.GW,ok.RZ,ok.bs,ok.vX,ok.sL,ok.uY,ok.kL,ok.zE⟩
section
variable{X:Cx}{af:List (ao×Obj)}{Z:St}{H:Hp}{s:aE}{E:au->aE->Prop}
theorem Inv.lP(I:Inv X af Z H s)(E:au->aE->Prop):Inv (X.lP E) af Z H s:=⟨I.ok.lP E,I.os,I.bare,I.base,I.loc,I.cell,I.free,I.iF,I.pin,I.cV,I.len⟩
theorem Inv.iL(I:Inv (X.lP E) af Z H s):Inv X af Z H s:=⟨I.ok.iL,I.os,I.bare,I.base,I.loc,I.cell,I.free,I.iF,I.pin,I.cV,I.len⟩
theorem SP.iL{D:Ends}{f:Flow}{s':aE}(h:SP (X.lP E) af D f s'):SP X af D f s':=by
 cases f with
 |next=>obtain⟨Z',H',I,q⟩:=h;exact⟨Z',H',I.iL,q⟩
 |brk=>obtain⟨Z',H',I,q⟩:=h;exact⟨Z',H',I.iL,q⟩
 |cont=>obtain⟨Z',H',I,q⟩:=h;exact⟨Z',H',I.iL,q⟩
 |ret u=>obtain⟨v,Z',H',I,r,q⟩:=h;exact⟨v,Z',H',I.iL,r,q⟩
def iu.yk{st:List Stmt}{t:TS}(h:iu X.yk st t):iu X st t:=λaf s Z H D I hw=>
 wpAny_mono (h af s Z H D (I.lP _) hw) (λ_ _ q=>q.iL) λ_ _ z=>False.elim z
end
section
variable{X:Cx}{st:Stmt}{rest:List Stmt}{t u:TS}{e:Expr}{te:TE}{pos:Pos}
def Di:TS:=λD Z H=>D.nx Z H
def Mf(t u:TS):TS:=λD Z H=>t { D with nx:=u D} Z H
def ve:iu X [] Di:=λ_ _ Z H _ I h=>wpAny_execs_nil ⟨Z,H,I,h⟩
def Vn(h1:PS X st t)(h2:iu X rest u):iu X (st::rest) (Mf t u):=by
 intro af s Z H D I h;refine wpAny_execs_cons (cQ (h1 af s Z H { D with nx:=u D} I h) λf s1 q=>?_)
 cases f with
 |next=>
  obtain⟨Z',H',I',q⟩:=q;exact h2 af s1 Z' H' D I' q
 |ret v=>exact q
 |brk=>exact q
 |cont=>exact q
def WV(h1:PS X st t):iu X [st] t:=by
 intro af s Z H D I h;refine wpAny_execs_cons (cQ (h1 af s Z H D I h) λf s1 q=>?_)
 cases f with
 |next=>exact wpAny_execs_nil q
 |ret v=>exact q
 |brk=>exact q
 |cont=>exact q
def Inv.quiet{af:List (ao×Obj)}{Z:St}{H:Hp}{s:aE}(I:Inv X af Z H s):interactive X.env=false:=by simp[interactive,I.ok.kind]
def Dh(te:TE):TS:=λD Z H=>te Z H λ_ H1=>D.nx Z H1
def WW(he:PE X e te)(hs:swapsWith e none pos.line X.env=pure false:=by rfl):PS X (.Expr e pos) (Dh te):=by
 intro af s Z H D I h;exact wpAny_Expr_any (cQ (he af s Z H _ I h) λv s1 ⟨x,H1,I1,r1,q1⟩=>⟨Z,H1,I1,q1⟩) I.quiet hs
def Me(te:TE):TS:=λD Z H=>te Z H D.rt
def YO(he:PE X e te):PS X (.Return (some e) pos) (Me te):=by
 intro af s Z H D I h;exact wpAny_Return_some (cQ (he af s Z H _ I h) λv s1 ⟨x,H1,I1,r1,q1⟩=>⟨x,Z,H1,I1,r1,q1⟩)
def Ma(c:TT)(t u:TS):TS:=λD Z H=>c Z H λb H1=>if b=true then t D Z H1 else u D Z H1
def ξ{c:Expr}{a b:List Stmt}{tc:TT}(hc:PT X c tc)(ha:iu X a t)(hb:iu X b u):PS X (.If c a b pos) (Ma tc t u):=by
 intro af s Z H D I h;refine wpAny_If (cQ (hc af s Z H _ I h) λd s1 hh=>?_)
 obtain⟨H1,I1,q1⟩:=hh;cases d with
 |true=>exact ha af s1 Z H1 D I1 q1
 |false=>exact hb af s1 Z H1 D I1 q1
end
abbrev TG:=V->St->Hp->(St->Hp->Prop)->Prop
abbrev tN:=List V->St->Hp->(St->Hp->Prop)->Prop
def PG(X:Cx)(target:Expr)(t:TG):Prop:=
 ∀(af:List (ao×Obj)) (s:aE) (Z:St) (H:Hp) (v:V) (u:au) (Q:St->Hp->Prop),Inv X af Z H s->RelV v u->t v Z H Q->
  wpAny (model X.prog X.w) X.A (assign target X.env u) (λ_ s'=>∃Z' H',Inv X af Z' H' s'/\Q Z' H') X.xe s
def DH(X:Cx)(ts:List Expr)(t:tN):Prop:=
 ∀(af:List (ao×Obj)) (s:aE) (Z:St) (H:Hp) (vs:List V) (us:List au) (Q:St->Hp->Prop),Inv X af Z H s->Vals vs us->t vs Z H Q->
  wpAny (model X.prog X.w) X.A (assignInOrder ((assignEach ts X.env).map (·.2)) us) (λ_ s'=>∃Z' H',Inv X af Z' H' s'/\Q Z' H') X.xe s
abbrev qp:=V->V->V->Hp->(Hp->Prop)->Prop
def uv(X:Cx)(t:qp):Prop:=
 ∀(af:List (ao×Obj)) (s:aE) (Z:St) (H:Hp) (o i v:V) (ov iv u:au) (Q:Hp->Prop),Inv X af Z H s->RelV o ov->RelV i iv->RelV v u->t o i v H Q->
  wpAny (model X.prog X.w) X.A (setItem ov iv u) (λ_ s'=>∃H',Inv X af Z H' s'/\Q H') X.xe s
abbrev yQ:=V->V->Hp->VK->Prop
def yP(X:Cx)(op:Operator)(t:yQ):Prop:=
 ∀(af:List (ao×Obj)) (s:aE) (Z:St) (H:Hp) (x y:V) (v u:au) (Q:VK),Inv X af Z H s->RelV x v->RelV y u->t x y H Q->
  wpAny (model X.prog X.w) X.A (inplaceOp op v u) (EP X af Z Q) X.xe s
section
variable{X:Cx}{pos:Pos}
def rX(i:Nat):TG:=λv Z H Q=>Q (Z.set i (some v)) H
def fI{i:Nat}{x:Str}(hN:X.N.Nodup)(hi:X.N[i]?=some x)(hx:Loc X.env.scope x)(hf:X.fn x=true\/X.env.scope.names.lookup x=some .local := by first|exact .inl rfl|exact .inr rfl|assumption):PG X (.Name x pos) (rX i):=by
 intro af s Z H v u Q I r h;exact wpAny_assign_Name (H_ I hN hi hx r (λs' I'=>⟨_,H,I',h⟩) hf)
def B5:tN:=λvs Z H Q=>vs=[]/\Q Z H
def we(t:TG)(u:tN):tN:=λvs Z H Q=>∃v r,vs=v::r/\t v Z H λZ' H'=>u r Z' H' Q
def Ep:DH X [] B5:=by
 intro af s Z H vs us Q I r h;obtain⟨e,h⟩:=h;subst e;cases r;exact assignInOrder_nil ⟨Z,H,I,h⟩
def pQ{e:Expr}{es:List Expr}{t:TG}{u:tN}(h1:PG X e t)(h2:DH X es u)
  (hs:(assignEach (e::es) X.env).map (·.2)=assign e X.env::(assignEach es X.env).map (·.2):=by rfl):DH X (e::es) (we t u):=by
 intro af s Z H vs us Q I r h;obtain⟨v,vr,e1,h⟩:=h;subst e1;cases r with
 |cons r rr=>
  rw[hs];refine assignInOrder_cons (cQ (h1 af s Z H _ _ _ I r h) λ_ s1 hh=>?_)
  obtain⟨Z1,H1,I1,q1⟩:=hh;exact h2 af s1 Z1 H1 _ _ Q I1 rr q1
def B6(K:FG)(n:Nat)(t:tN):TG:=λv Z H Q=>∃a xs,v=.ref a/\iB K H a xs/\xs.length=n/\t xs Z H Q
def EO{es:List Expr}{k:Nat}{t:tN}{n:Nat}(hc:X.calm=true)(h:DH X es t)
  (hn:(assignEach es X.env).length=n:=by rfl) (ra:(assignEach es X.env).findIdx? (·.1)=none:=by rfl):PG X (.Tuple es k pos) (B6 X.K n t):=by
 intro af s Z H v u Q I r hw;obtain⟨a,xs,e1,hq,hl,hw⟩:=hw;subst e1;cases r;obtain⟨aA,rv,ht,hz⟩:=I.tuple hq;refine assign_Tuple_tuple (I.ok.hd hc) ht (by simp[hn,<-hl,rv.length]) ra λh' hx=>?_
 have I1:Inv X af Z H { s with heap:=h'}:=I.kept (t':=s.toks) λb o e=>hx b o (mS (gb e)) e
 exact h af _ Z H xs _ Q I1 (by simpa using rv) hw
def KH(to ti:TE)(t:qp):TG:=λv Z H Q=>to Z H λo H1=>ti Z H1 λi H2=>t o i v H2 λH3=>Q Z H3
def QD{o i:Expr}{to ti:TE}{t:qp}(ho:PE X o to)(hi:PE X i ti)(hs:uv X t)
  (ha:∀v,assign (.Subscript o i pos) X.env v=(do
   let ov <-holding [v] (eval o X.env)
   let iv <-holding [v,ov] (eval i X.env)
   standAt pos
   holding [v,ov,iv] (setItem ov iv v)
   release [v,ov,iv] []):=by intro _;rfl):PG X (.Subscript o i pos) (KH to ti t):=by
 intro af s Z H v u Q I r h;rw[ha];refine aU (pM (cQ (ho af s Z H _ I h) λov s1 hh=>?_))
 obtain⟨x,H1,I1,r1,q1⟩:=hh;refine aU (pM (cQ (hi af s1 Z H1 _ I1 q1) λiv s2 hh=>?_))
 obtain⟨y,H2,I2,r2,q2⟩:=hh;refine aU (wpAny_standAt (aU (pM (cQ (hs af s2 Z H2 x y v ov iv u _ I2 r1 r2 r q2) λ_ s3 hh=>?_))))
 obtain⟨H3,I3,q3⟩:=hh;exact wpAny_release ⟨Z,H3,I3,q3⟩
def Df(te:TE)(g:TG):TS:=λD Z H=>te Z H λx H1=>g x Z H1 D.nx
def Jm{tg e:Expr}{te:TE}{g:TG}(he:PE X e te)(hg:PG X tg g)(hs:swapsWithSole [tg] e pos.line X.env=pure false:=by rfl)(hw:swappedStores [tg] e X.env=pure none:=by rfl)
  (h1:(assignEach [tg] X.env).map (·.2)=[assign tg X.env]:=by rfl):PS X (.Assign [tg] e pos) (Df te g):=by
 intro af s Z H D I h;refine wpAny_Assign_stores (cQ (he af s Z H _ I h) λv s1 hh=>?_) hs hw
 obtain⟨x,H1,I1,r1,q1⟩:=hh;rw[h1];exact cQ (hg af s1 Z H1 x v _ I1 r1 q1) λ_ s2 q=>q
def YQ{i:Nat}{x:Str}{e:Expr}{te:TE}{pos':Pos}(hN:X.N.Nodup)(hi:X.N[i]?=some x)(hx:Loc X.env.scope x)(he:PE X e te)(hs:swapsWith e (some (.Name x pos')) pos.line X.env=pure false:=by rfl)(hf:X.fn x=true\/X.env.scope.names.lookup x=some .local := by first|exact .inl rfl|exact .inr rfl|assumption):
  PS X (.Assign [.Name x pos'] e pos) (Df te (rX i)):=by
 intro af s Z H D I h;refine wpAny_Assign_Name (cQ (he af s Z H _ I h) λv s1 hh=>?_) hs
 obtain⟨y,H1,I1,r1,q1⟩:=hh;exact H_ I1 hN hi hx r1 (λs2 I2=>⟨_,H1,I2,q1⟩) hf
def L8(i:Nat)(te:TE)(ti:yQ):TS:=λD Z H=>∃x,Z[i]?=some (some x)/\te Z H λy H1=>ti x y H1 λz H2=>D.nx (Z.set i (some z)) H2
def YR{i:Nat}{x:Str}{e:Expr}{te:TE}{op:Operator}{ti:yQ}{pos':Pos}(hN:X.N.Nodup)(hi:X.N[i]?=some x)(hx:Loc X.env.scope x)(he:PE X e te)(ho:yP X op ti)(hf:X.fn x=true\/X.env.scope.names.lookup x=some .local := by first|exact .inl rfl|exact .inr rfl|assumption):
  PS X (.AugAssign (.Name x pos') op e pos) (L8 i te ti):=by
 intro af s Z H D I h;obtain⟨v,e1,h⟩:=h;obtain⟨m,hn,hl⟩:=I.loc;have vis:AG X.env.scope x:=by rcases hx with k|k;exact .inl k;exact .inr (.inl k)
 obtain⟨u,r,l⟩:=hl i x v hi e1 vis;refine wpAny_AugAssign_Name ?_;have go:wpAny (model X.prog X.w) X.A (eval e X.env) (λw s₂=>wpAny (model X.prog X.w) X.A (inplaceOp op u w) (λr s₃=>wpAny (model X.prog X.w) X.A (storeName X.env x r) (λ_=>SP X af D .next) X.xe s₃) X.xe s₂) X.xe s:=by
  refine cQ (he af s Z H _ I h) λw s1 hh=>?_
  obtain⟨y,H1,I1,r1,q1⟩:=hh;refine cQ (ho af s1 Z H1 v y u w _ I1 r r1 q1) λz s2 hh=>?_
  obtain⟨zv,H2,I2,r2,q2⟩:=hh;exact H_ I2 hN hi hx r2 (λs3 I3=>⟨_,H2,I3,q2⟩) hf
 rcases l with⟨hk,hm⟩|⟨hk,c,hc,lZ⟩
 .exact wpAny_loadName_local I.ok.kind hk hn hm go
 .rcases hk with hk|hk
  .exact wpAny_loadName_cell I.ok.kind hk hc lZ go
  .rcases hx with k|k
   .have:X.env.scope.names.lookup x=some .free:=hk;rw[k] at this;cases this
   .have:X.env.scope.names.lookup x=some .free:=hk;rw[k] at this;cases this
def Dg(to ti te:TE)(vj:V->V->Hp->VK->Prop)(GZ:yQ)(vm:qp):TS:=λD Z H=>to Z H λo H1=>ti Z H1 λi H2=>vj o i H2 λx H3=>te Z H3 λy H4=>GZ x y H4 λz H5=>vm o i z H5 λH6=>D.nx Z H6
def AA(X:Cx)(t:V->V->Hp->VK->Prop):Prop:=
 ∀(af:List (ao×Obj)) (s:aE) (Z:St) (H:Hp) (o i:V) (ov iv:au) (Q:VK),Inv X af Z H s->RelV o ov->RelV i iv->t o i H Q->
  wpAny (model X.prog X.w) X.A (getItem ov iv) (EP X af Z Q) X.xe s
def WX{o i e:Expr}{to ti te:TE}{vj:V->V->Hp->VK->Prop}{GZ:yQ}{vm:qp}{op:Operator}{oC:Pos}(ho:PE X o to)(hi:PE X i ti)(hg:AA X vj)(he:PE X e te)(hp:yP X op GZ)(hs:uv X vm)
  (ha:∀ov iv new,augStore i ov iv new=(do holding [new,ov,iv] (setItem ov iv new);release [new,ov,iv] [];pure .next):=by intros;rfl):PS X (.AugAssign (.Subscript o i oC) op e pos) (Dg to ti te vj GZ vm):=by
 intro af s Z H D I h;refine wpAny_AugAssign_SubscriptAny (cQ (ho af s Z H _ I h) λov s1 hh=>?_) ha
 obtain⟨x1,H1,I1,r1,q1⟩:=hh;refine cQ (hi af s1 Z H1 _ I1 q1) λiv s2 hh=>?_
 obtain⟨x2,H2,I2,r2,q2⟩:=hh;refine cQ (hg af s2 Z H2 x1 x2 ov iv _ I2 r1 r2 q2) λold s3 hh=>?_
 obtain⟨x3,H3,I3,r3,q3⟩:=hh;refine cQ (he af s3 Z H3 _ I3 q3) λv s4 hh=>?_
 obtain⟨x4,H4,I4,r4,q4⟩:=hh;refine cQ (hp af s4 Z H4 x3 x4 old v _ I4 r3 r4 q4) λnew s5 hh=>?_
 obtain⟨x5,H5,I5,r5,q5⟩:=hh;exact cQ (hs af s5 Z H5 x1 x2 x5 ov iv new _ I5 r1 r2 r5 q5) λ_ s6 ⟨H6,I6,q6⟩=>⟨Z,H6,I6,q6⟩
def GD(f:Int->Int->Int):yQ:=λx y H Q=>∃i j,x=.int i/\y=.int j/\Q (.int (f i j)) H
def QE:yP X .Add (GD λi j=>i+j):=by
 intro af s Z H x y v u Q I r1 r2 h;obtain⟨i,j,e1,e2,q⟩:=h;subst e1;subst e2;obtain⟨t,rfl⟩:=r1;obtain⟨t',rfl⟩:=r2;exact iadd_int ⟨.int _,H,I.tok _,⟨_,rfl⟩,q⟩
def YS:yP X .Sub (GD λi j=>i - j):=by
 intro af s Z H x y v u Q I r1 r2 h;obtain⟨i,j,e1,e2,q⟩:=h;subst e1;subst e2;obtain⟨t,rfl⟩:=r1;obtain⟨t',rfl⟩:=r2;exact isub_int ⟨.int _,H,I.tok _,⟨_,rfl⟩,q⟩
end
section
variable{X:Cx}{pos:Pos}
def YT(c:TT)(tb:TS):TS:=λD Z H=>∃W:Nat->St->Hp->Prop,(∃m,W m Z H)/\∀m Z H,W m Z H->
 c Z H λb H1=>if b=true then ∃N:St->Hp->Prop,(∀Z' H',N Z' H'->∃m',m'<m/\W m' Z' H')/\tb { D with nx:=N,ct:=N,bk:=D.nx} Z H1 else D.nx Z H1
def Vo{c:Expr}{body:List Stmt}{tc:TT}{tb:TS}(hp:PassesOwn (model X.prog X.w) X.A X.env X.xe)(hc:PT X c tc)(hb:iu X body tb):PS X (.While c body [] pos) (YT tc tb):=by
 intro af s Z H D I h;obtain⟨W,⟨m0,w0⟩,turn⟩:=h;refine wpAny_While (codeAny_whileLoop (λn s'=>∃Z' H',Inv X af Z' H' s'/\W n Z' H') ?_ m0 ⟨Z,H,I,w0⟩)
 rintro n s1 ⟨Z1,H1,I1,w1⟩;refine wpAny_passesOwn hp (cQ (hc af s1 Z1 H1 _ I1 (turn n Z1 H1 w1)) λb s2 hh=>?_)
 obtain⟨H2,I2,q2⟩:=hh;cases b with
 |true=>
  obtain⟨N,hN,q2⟩:=q2;rw[aY rfl];refine wpAny_passesOwn hp (cQ (hb af s2 Z1 H2 _ I2 q2) λf s3 q3=>?_)
  cases f with
  |next=>
   obtain⟨Z3,H3,I3,n3⟩:=q3;obtain⟨m',hm,w3⟩:=hN Z3 H3 n3;exact⟨m',hm,Z3,H3,I3,w3⟩
  |cont=>
   obtain⟨Z3,H3,I3,n3⟩:=q3;obtain⟨m',hm,w3⟩:=hN Z3 H3 n3;exact⟨m',hm,Z3,H3,I3,w3⟩
  |brk=>exact q3
  |ret v=>exact q3
 |false=>
  rw[bb oT];exact wpAny_execs_nil ⟨Z1,H2,I2,q2⟩
end
set_option genInjectivity false in
structure It where
 go:Nat->Hp->Prop
 vA:Nat->Hp->V->Hp->Prop
 stop:Nat->Hp->Prop
def j7(X:Cx)(af:List (ao×Obj))(H:Hp)(b:ao):Prop:=
 H b=none/\b≠X.env.locals/\b∉X.fs/\(b∈X.ex\/X.s₀.heap.objs.size<=b)/\(∀x c,X.env.cells.lookup x=some c->c≠b)/\∀p∈X.pn++af,p.1≠b
def Inv.qy{X:Cx}{af:List (ao×Obj)}{Z:St}{H H':Hp}{s:aE}{b:ao}(I:Inv X af Z H s)(hb:s.heap.objs.size<=b)(hn:H' b=none):j7 X af H' b:=by
 refine⟨hn,Nat.ne_of_gt (jq I.lt hb),I.yj hb,.inr (k_ I.sz hb),λx c e z=>?_,λp hp z=>?_⟩
 .obtain⟨v,q⟩:=I.cell x c e;exact cu (jq q.lt (by rw[z];exact hb)) (oF _)
 .exact cu (jq (gb (I.pin p hp).1) (by rw[z];exact hb)) (oF _)
structure Turn (P:gv) (w:eZ) (K:FG) (tg:Expr) (J:It) (fp:List ao) (it:ao) (tn:Nat->df->Prop):Prop where
 mem:it∈fp
 obj:∀i h,tn i h->∀b∈fp,∃o,h.get? b=some o/\∀v,o.data≠.cell v
 keep:∀i h h',tn i h->(∀b∈fp,∀o,h.get? b=some o->h'.get? b=some o)->tn i h'
 item:∀(X:Cx),X.prog=P->X.w=w->X.K=K->X.calm=true->∀(i:Nat) (af:List (ao×Obj)) (s:aE) (Z:St) (H:Hp) (E:au->aE->Prop),Inv X af Z H s->(∀b∈fp,j7 X af H b)->tn i s.heap->J.go i H->
  wpAny (model P w) X.A (pyNext (.ref it)) (λr s1=>∃u,r=some u/\ wpAny (model P w) X.A (letOwnedTupleGo tg (.ref it) u) (λ_ s2=>∃x H',Inv X af Z H' s2/\RelV x u/\J.vA i H x H'/\tn (i+1) s2.heap/\∀b∈fp,H' b=none) E s1) E s
 done:∀(X:Cx),X.prog=P->X.w=w->X.K=K->X.calm=true->∀(i:Nat) (af:List (ao×Obj)) (s:aE) (Z:St) (H:Hp) (E:au->aE->Prop),Inv X af Z H s->(∀b∈fp,j7 X af H b)->tn i s.heap->J.stop i H->
  wpAny (model P w) X.A (pyNext (.ref it)) (λr s1=>r=none/\Inv X af Z H s1) E s
 self:∀(A:eY) (i:Nat) (s:aE) (Q:au->aE->Prop) (E:au->aE->Prop),tn i s.heap->Q (.ref it) s->wpAny (model P w) A (pyIter (.ref it)) Q E s
abbrev TI:=St->Hp->(It->Hp->Prop)->Prop
def MN(X:Cx)(af:List (ao×Obj))(Z:St)(tg:Expr)(R:It->Hp->Prop)(GF:au)(s2:aE):Prop:=
 ∃(it:ao) (fp:List ao) (tn:Nat->df->Prop) (J:It) (H':Hp),GF=.ref it/\Inv X af Z H' s2/\Turn X.prog X.w X.K tg J fp it tn/\tn 0 s2.heap/\(∀b∈fp,j7 X af H' b)/\R J H'
def PI(X:Cx)(tg iter:Expr)(wi:TI):Prop:=
 ∀(af:List (ao×Obj)) (s:aE) (Z:St) (H:Hp) (R:It->Hp->Prop),Inv X af Z H s->wi Z H R->
  wpAny (model X.prog X.w) X.A (eval iter X.env) (λv s1=>wpAny (model X.prog X.w) X.A (pyIter v) (MN X af Z tg R) X.xe s1) X.xe s
def BE{M:Model}{A:eY}{E:au->aE->Prop}{s:aE}{tg:Expr}{it:ao}{u:au}{o:Obj}{n:String}{vs:Array au}{Q:Unit->aE->Prop}(ho:s.heap.get? it=some o)(hc:o.cls=.type n)(hd:o.data=.fields vs)
  (hn:["enumerate","zip","dict_itemiterator","dict_reverseitemiterator","odict_iterator","itertools.zip_longest","itertools.pairwise"].contains n=false) (hQ:Q () s):wpAny M A (letOwnedTupleGo tg (.ref it) u) Q E s:=by
 unfold letOwnedTupleGo;cases tg <;> first
  |exact bW hQ
  |(cases u <;> first
    |exact bW hQ
    |(refine aU (wpAny_load ho ?_)
      rw[hc,hd];show wpAny M A (if(["enumerate","zip","dict_itemiterator","dict_reverseitemiterator","odict_iterator","itertools.zip_longest","itertools.pairwise"].contains n&&vs[0]? == some (rawInt _))=true then _ else _) Q E s
      rw[bb (by intro h;rw[hn,Dt] at h;cases h)]
      exact bW hQ))
def wY(K:FG)(a:ao):It:=
 ⟨λi H=>∃xs x,dH K H a xs/\xs[i]?=some x,λi H x H'=>H'=H/\∀xs,dH K H a xs->xs[i]?=some x,λi H=>∃xs,dH K H a xs/\xs.length<=i⟩
def Aw(K:FG)(a:ao):It:=
 ⟨λi H=>∃xs x,iB K H a xs/\xs[i]?=some x,λi H x H'=>H'=H/\∀xs,iB K H a xs->xs[i]?=some x,λi H=>∃xs,iB K H a xs/\xs.length<=i⟩
def tM(lo:Int)(n:Nat):It:=⟨λi _=>i<n,λi H x H'=>H'=H/\x=.int (lo+i),λi _=>n<=i⟩
def Ur{P:gv}{w:eZ}{K:FG}{tg:Expr}(a it:ao):Turn P w K tg (wY K a) [it] it (λi h=>h.IsListIter it a i) where
 mem:=by simp
 obj:=λi h st b hb=>by
  have e:b=it:=by simpa using hb
  subst e;obtain⟨o,e,c,d⟩:=st;exact⟨o,e,λv z=>by rw[d] at z;cases z⟩
 keep:=λi h h' st k=>st.at λo e=>k it (by simp) o e
 item:=by
  intro X hP hw hK hc i af s Z H E I hf st hg;subst hP hw hK;obtain⟨xs,x,hq,hx⟩:=hg;obtain⟨aA,rv,p,hz⟩:=I.list hq;obtain⟨u,hu,ru⟩:=rv.get hx;obtain⟨f0,f1,f2,f3,f4,f5⟩:=hf it (by simp)
  refine wpAny_pyNext_list_item st p.isList (x:=u) (by simpa using hu) λh' qe sb=>?_
  have I1:Inv X af Z H { s with heap:=h'}:=I.turned (t':=s.toks) (λb o hb e=>(sb.2 b hb).trans e) f0 f1 f3 f4 f5
  obtain⟨o,e,c,d⟩:=id qe;exact⟨u,rfl,BE (s:={ s with heap:=h'}) e c d (by decide) ⟨x,H,I1,ru,⟨rfl,λys hy=>by rw[I.kR hy hq];exact hx⟩,qe,λb hb=>(hf b hb).1⟩⟩
 done:=by
  intro X hP hw hK hc i af s Z H E I hf st hg;subst hP hw hK;obtain⟨xs,hq,hx⟩:=hg;obtain⟨aA,rv,p,hz⟩:=I.list hq;obtain⟨f0,f1,f2,f3,f4,f5⟩:=hf it (by simp)
  have hl:=rv.length;exact wpAny_pyNext_list_end (I.ok.hd hc) st p.isList (by simp;lia) λh' eb=>⟨rfl,I.turned (t':=s.toks) (λb o hb e=>eb b o hb e) f0 f1 f3 f4 f5⟩
 self:=λ_ _ _ _ _ st h=>wpAny_pyIter_listiter st h
def TL{P:gv}{w:eZ}{K:FG}{tg:Expr}(a it:ao):Turn P w K tg (Aw K a) [it] it (λi h=>h.IsTupleIter it a i) where
 mem:=by simp
 obj:=λi h st b hb=>by
  have e:b=it:=by simpa using hb
  subst e;obtain⟨o,e,c,d⟩:=st;exact⟨o,e,λv z=>by rw[d] at z;cases z⟩
 keep:=λi h h' st k=>st.at λo e=>k it (by simp) o e
 item:=by
  intro X hP hw hK hc i af s Z H E I hf st hg;subst hP hw hK;obtain⟨xs,x,hq,hx⟩:=hg;obtain⟨aA,rv,p,hz⟩:=I.tuple hq;obtain⟨u,hu,ru⟩:=rv.get hx;obtain⟨f0,f1,f2,f3,f4,f5⟩:=hf it (by simp)
  refine wpAny_pyNext_tuple_item st (show s.heap.IsTuple a aA.toArray from p) (x:=u) (by simpa using hu) λh' qe sb=>?_
  have I1:Inv X af Z H { s with heap:=h'}:=I.turned (t':=s.toks) (λb o hb e=>(sb.2 b hb).trans e) f0 f1 f3 f4 f5
  obtain⟨o,e,c,d⟩:=id qe;exact⟨u,rfl,BE (s:={ s with heap:=h'}) e c d (by decide) ⟨x,H,I1,ru,⟨rfl,λys hy=>by rw[I.mD hy hq];exact hx⟩,qe,λb hb=>(hf b hb).1⟩⟩
 done:=by
  intro X hP hw hK hc i af s Z H E I hf st hg;subst hP hw hK;obtain⟨xs,hq,hx⟩:=hg;obtain⟨aA,rv,p,hz⟩:=I.tuple hq;obtain⟨f0,f1,f2,f3,f4,f5⟩:=hf it (by simp)
  have hl:=rv.length;exact wpAny_pyNext_tuple_end (I.ok.hd hc) st (show s.heap.IsTuple a aA.toArray from p) (by simp;lia) λh' eb=>⟨rfl,I.turned (t':=s.toks) (λb o hb e=>eb b o hb e) f0 f1 f3 f4 f5⟩
 self:=λ_ _ _ _ _ st h=>wpAny_pyIter_tupleiter st h
def TM{P:gv}{w:eZ}{K:FG}{tg:Expr}(it:ao)(lo:Int)(n:Nat):Turn P w K tg (tM lo n) [it] it (λi h=>IsRangeIter h it (lo+(i:Nat)*1) ((n:Int) - (i:Nat)) 1) where
 mem:=by simp
 obj:=λi h st b hb=>by
  have e:b=it:=by simpa using hb
  subst e;exact⟨_,st,λv z=>by
   have z':Data.fields _=Data.cell v:=z;cases z'⟩
 keep:=λi h h' st k=>k it (by simp) _ st
 item:=by
  intro X hP hw hK hc i af s Z H E I hf st hg;subst hP hw hK;obtain⟨f0,f1,f2,f3,f4,f5⟩:=hf it (by simp)
  have W:=Walks.range (prog:=X.prog) (w:=X.w) (I.ok.hd hc) it lo 1 n;refine W.item i s _ _ hg st λv h' tk hv qe kk=>?_
  obtain⟨t,rfl⟩:=hv;have I1:Inv X af Z H { s with heap:=h',toks:=tk}:=I.turned (λb o hb e=>kk b o (by simpa using hb) e) f0 f1 f3 f4 f5
  refine⟨_,rfl,BE (s:={ s with heap:=h',toks:=tk}) (n:="range_iterator") qe rfl rfl (by decide) ⟨.int (lo+i),H,I1,⟨t,?_⟩,⟨rfl,rfl⟩,qe,λb hb=>(hf b hb).1⟩⟩
  rw[Int.mul_one]
 done:=by
  intro X hP hw hK hc i af s Z H E I hf st hg;subst hP hw hK;obtain⟨f0,f1,f2,f3,f4,f5⟩:=hf it (by simp)
  exact wpAny_pyNext_range_end (I.ok.hd hc) st (by have:n<=i:=hg;lia) λh' eb=>⟨rfl,I.turned (t':=s.toks) (λb o hb e=>eb b o hb e) f0 f1 f3 f4 f5⟩
 self:=λ_ _ _ _ _ st h=>wpAny_pyIter_rangeiter st h
section
variable{X:Cx}{tg:Expr}
def n8(K:FG)(tl:TE):TI:=λZ H R=>tl Z H λx H1=>∃a,x=.ref a/\(∃xs,dH K H1 a xs)/\R (wY K a) H1
def Lk(K:FG)(tl:TE):TI:=λZ H R=>tl Z H λx H1=>∃a,x=.ref a/\(∃xs,iB K H1 a xs)/\R (Aw K a) H1
def Pe{l:Expr}{tl:TE}(hl:PE X l tl):PI X tg l (n8 X.K tl):=by
 intro af s Z H R I h;refine cQ (hl af s Z H _ I h) λv s1 hh=>?_
 obtain⟨x,H1,I1,r1,q1⟩:=hh;obtain⟨a,e,⟨xs,hq⟩,q⟩:=q1;subst e;cases r1;obtain⟨aA,rv,p,hz⟩:=I1.list hq;refine wpAny_pyIter_list p.isList ?_;refine⟨s1.heap.objs.size,[s1.heap.objs.size],_,_,H1,rfl,I1.kept (t':=s1.toks) λb o e=>jJ _ e,Ur a _,⟨_,oG _ rfl,rfl,rfl⟩,λb hb=>?_,q⟩
 have e:b=s1.heap.objs.size:=by simpa using hb
 subst e;exact I1.qy (cX _) (I1.cV.fresh (cX _))
def YU{l:Expr}{tl:TE}(hl:PE X l tl):PI X tg l (Lk X.K tl):=by
 intro af s Z H R I h;refine cQ (hl af s Z H _ I h) λv s1 hh=>?_
 obtain⟨x,H1,I1,r1,q1⟩:=hh;obtain⟨a,e,⟨xs,hq⟩,q⟩:=q1;subst e;cases r1;obtain⟨aA,rv,p,hz⟩:=I1.tuple hq;refine wpAny_pyIter_tuple (show s1.heap.IsTuple a aA.toArray from p) ?_;refine⟨s1.heap.objs.size,[s1.heap.objs.size],_,_,H1,rfl,I1.kept (t':=s1.toks) λb o e=>jJ _ e,TL a _,⟨_,oG _ rfl,rfl,rfl⟩,λb hb=>?_,q⟩
 have e:b=s1.heap.objs.size:=by simpa using hb
 subst e;exact I1.qy (cX _) (I1.cV.fresh (cX _))
def Oo{af:List (ao×Obj)}{Z:St}{H:Hp}{s:aE}{R:It->Hp->Prop}{E:au->aE->Prop}{lo hi:Int}{t u v:Tok}{tk:Nat}(I:Inv X af Z H s)(h1:-(2^62)<=lo)(h2:lo<2^62)(h3:-(2^62)<=hi)(h4:hi<2^62)
  (q:R (tM lo (hi - lo).toNat) H):wpAny (model X.prog X.w) X.A (pyIter (.ref s.heap.objs.size)) (MN X af Z tg R) E { s with heap:=s.heap.push { cls:=.type "range",data:=.fields #[.int lo t,.int hi u,.int 1 v]},toks:=tk}:=by
 refine wpAny_pyIter_range (IsRange.new ..) (small_one h1 h2 h3 h4) ?_;have I1:Inv X af Z H { s with heap:=s.heap.push { cls:=.type "range",data:=.fields #[.int lo t,.int hi u,.int 1 v]},toks:=tk}:=I.kept λb o e=>jJ _ e
 refine⟨(s.heap.push { cls:=.type "range",data:=.fields #[.int lo t,.int hi u,.int 1 v]}).objs.size,[(s.heap.push { cls:=.type "range",data:=.fields #[.int lo t,.int hi u,.int 1 v]}).objs.size],_,_,H,rfl,I1.kept (t':=tk) λb o e=>jJ _ e,TM _ lo (hi - lo).toNat,?_,λb hb=>?_,q⟩
 .have e1:lo+((0:Nat):Int)*1=lo:=by simp
  have e2:(((hi - lo).toNat:Nat):Int) - ((0:Nat):Int)=Builtin.Range.rangeSize lo hi 1:=by rw[rangeSize_one];split <;> lia
  show IsRangeIter _ _ (lo+((0:Nat):Int)*1) ((((hi - lo).toNat:Nat):Int) - ((0:Nat):Int)) 1;rw[e1,e2];exact oG _ rfl
 .have e:b=(s.heap.push { cls:=.type "range",data:=.fields #[.int lo t,.int hi u,.int 1 v]}).objs.size:=by simpa using hb
  subst e;exact I1.qy (cX _) (I1.cV.fresh (cX _))
def wq(ta:TA):TI:=λZ H R=>ta Z H λvs H1=>∃j:Int,vs=[.int j] /\ -(2^62)<=j/\j<2^62/\R (tM 0 j.toNat) H1
def wt(ta:TA):TI:=λZ H R=>ta Z H λvs H1=>∃i j:Int,vs=[.int i,.int j]/\(-(2^62)<=i/\i<2^62 /\ -(2^62)<=j/\j<2^62)/\R (tM i (j - i).toNat) H1
def HC{a:Expr}{ta:TA}{p pos:Pos}(hg:Gl X "range")(hm:X.mg "range"=none)(ha:PA X [a] ta)(hs:starEach [a] X.env=[(false,eval a X.env)]:=by rfl):PI X tg (.Call (.Name "range" p) [a] [] pos) (wq ta):=by
 intro af s Z H R I h;refine Call_ (uJ I hg hm boot_range (PyProof.Rows.callWith_type1 (cQ (ha pos af s Z H _ I h) λus s1 hh=>?_) hs rfl))
 obtain⟨vs,H1,I1,r1,q1⟩:=hh;obtain⟨j,e,q1,q2,q⟩:=q1;subst e;cases r1 with
 |cons r rr=>
  cases rr;obtain⟨t,rfl⟩:=r;exact call_range_1 (Oo I1 (by lia) (by lia) q1 q2 (by simpa using q))
def Nz{a b:Expr}{ta:TA}{p pos:Pos}(hg:Gl X "range")(hm:X.mg "range"=none)(ha:PA X [a,b] ta)(hs:starEach [a,b] X.env=[(false,eval a X.env),(false,eval b X.env)]:=by rfl)(oS:starEach [b] X.env=[(false,eval b X.env)]:=by rfl):
  PI X tg (.Call (.Name "range" p) [a,b] [] pos) (wt ta):=by
 intro af s Z H R I h;refine Call_ (uJ I hg hm boot_range (PyProof.Rows.callWith_type1 (cQ (ha pos af s Z H _ I h) λus s1 ⟨vs,H1,I1,r1,q1⟩=>?_) (by rw[hs,oS]) (by rw[oS];rfl)))
 obtain⟨i,j,e,⟨q1,q2,q3,q4⟩,q⟩:=q1;subst e;cases r1 with
 |cons r rr=>
  cases rr with
  |cons r' rr=>
   cases rr;obtain⟨t,rfl⟩:=r;obtain⟨t',rfl⟩:=r';exact call_range_2 (Oo I1 q1 q2 q3 q4 q)
def L_(wi:TI)(g:TG)(tb:TS):TS:=λD Z H=>wi Z H λJ H1=>∃W:Nat->Nat->St->Hp->Prop,(∃m,W 0 m Z H1)/\∀i m Z H,W i m Z H->
 (J.stop i H/\D.nx Z H)\/(J.go i H/\∃N:St->Hp->Prop,(∀Z' H',N Z' H'->∃m',m'<m/\W (i+1) m' Z' H')/\∀x H',J.vA i H x H'->g x Z H' λZ2 H2=>tb { D with nx:=N,ct:=N,bk:=D.nx} Z2 H2)
def Bj(fp:List ao)(h:df):List (ao×Obj):=fp.filterMap λb=>(h.get? b).map λo=>(b,o)
def DL{fp:List ao}{h:df}{b:ao}{o:Obj}(hb:b∈fp)(e:h.get? b=some o):(b,o)∈Bj fp h:=wQ.mpr ⟨b,hb,by rw[e];rfl⟩
def Us{fp:List ao}{h:df}{p:ao×Obj}(hp:p∈Bj fp h):p.1∈fp/\h.get? p.1=some p.2:=by
 obtain⟨b,hb,e⟩:=wQ.mp hp;cases q:h.get? b with
 |none=>rw[q] at e;cases e
 |some o=>
  rw[q] at e;have e':(b,o)=p:=Option.some.inj e;subst e';exact⟨hb,q⟩
def Inv.pinned{af:List (ao×Obj)}{Z:St}{H:Hp}{s:aE}{fp:List ao}(I:Inv X af Z H s)(hf:∀b∈fp,j7 X af H b)(ho:∀b∈fp,∃o,s.heap.get? b=some o/\∀v,o.data≠.cell v):Inv X (af++Bj fp s.heap) Z H s:=
 I.kq λp hp=>(eT.mp hp).elim (λz=>I.pin p (ir _ z)) λz=>by
  obtain⟨hb,e⟩:=Us z;obtain⟨f0,f1,f2,_⟩:=hf p.1 hb;obtain⟨o,e',d⟩:=ho p.1 hb;rw[e] at e';cases e';exact⟨e,f0,f1,f2,d⟩
def Inv.iK{af pl:List (ao×Obj)}{Z:St}{H:Hp}{s:aE}(I:Inv X (af++pl) Z H s):Inv X af Z H s:=I.kq λp hp=>I.pin p (ir _ (jQ _ hp))
def xr{iter:Expr}{body:List Stmt}{wi:TI}{g:TG}{tb:TS}{pos:Pos}(hp:PassesOwn (model X.prog X.w) X.A X.env X.xe)(hc:X.calm=true)(hi:PI X tg iter wi)(hg:PG X tg g)(hb:iu X body tb)
  (hs:∀x,foldedSetIterable iter X.env x=pure x:=by intro _;rfl):PS X (.For tg iter body [] pos) (L_ wi g tb):=by
 intro af s Z H D I h;refine wpAny_For (cQ (hi af s Z H _ I h) λv s1 h1=>cQ h1 λGF s2 h2=>?_) hs
 obtain⟨it,fp,tn,J,H2,e,I2,T,rj,f2,W,⟨m0,w0⟩,turn⟩:=h2;subst e;have pF:∀{H':Hp},(∀b∈fp,H' b=none)->∀b∈fp,j7 X af H' b:=λhn b hb=>⟨hn b hb,(f2 b hb).2⟩
 refine codeAny_forLoop_any (λn s'=>∃i Z' H',Inv X af Z' H' s'/\tn i s'.heap/\(∀b∈fp,H' b=none)/\W i n Z' H') ?_ m0 ⟨0,Z,H2,I2,rj,λb hb=>(f2 b hb).1,w0⟩
 rintro n s3 ⟨i,Z3,H3,I3,SW,R1,w3⟩;rcases turn i n Z3 H3 w3 with⟨stop,qn⟩|⟨go,N,hN,step⟩
 .refine wpAny_passesOwn hp (cQ (T.done X rfl rfl rfl hc i af s3 Z3 H3 X.xe I3 (pF R1) SW stop) λr s4 ⟨hr,I4⟩=>?_)
  subst hr;exact wpAny_execs_nil ⟨Z3,H3,I4,qn⟩
 .refine wpAny_passesOwn hp (cQ (T.item X rfl rfl rfl hc i af s3 Z3 H3 X.xe I3 (pF R1) SW go) λr s4 ⟨u,hr,h4⟩=>?_)
  subst hr;refine wpAny_passesOwn hp (cQ h4 λ_ s5 hh=>?_)
  obtain⟨x,H5,I5,r5,y5,yC,Kv⟩:=hh;have Hh:=I5.pinned (pF Kv) (T.obj _ _ yC);refine wpAny_passesOwn hp (cQ (hg _ s5 Z3 H5 x u _ Hh r5 (step x H5 y5)) λ_ s6 hh=>?_)
  obtain⟨Z6,H6,I6,q6⟩:=hh;refine wpAny_passesOwn hp (cQ (hb _ s6 Z6 H6 _ I6 q6) λf s7 q7=>?_)
  have again:∀{Z7:St} {H7:Hp},Inv X (af++Bj fp s5.heap) Z7 H7 s7->N Z7 H7->∃m,m<n/\∃i Z' H',Inv X af Z' H' s7/\tn i s7.heap/\(∀b∈fp,H' b=none)/\W i m Z' H':=λ{Z7 H7} I7 n7=>by
   obtain⟨m',hm,w7⟩:=hN Z7 H7 n7;refine⟨m',hm,i+1,Z7,H7,I7.iK,T.keep _ _ _ yC λb hb o e=>(I7.pin (b,o) (ir _ (ir _ (DL hb e)))).1,λb hb=>?_,w7⟩
   obtain⟨o,e,d⟩:=T.obj _ _ yC b hb;exact(I7.pin (b,o) (ir _ (ir _ (DL hb e)))).2.1
  cases f with
  |next=>obtain⟨Z7,H7,I7,n7⟩:=q7;exact again I7 n7
  |cont=>obtain⟨Z7,H7,I7,n7⟩:=q7;exact again I7 n7
  |brk=>obtain⟨Z7,H7,I7,q7⟩:=q7;exact⟨Z7,H7,I7.iK,q7⟩
  |ret v=>obtain⟨x7,Z7,H7,I7,r7,q7⟩:=q7;exact⟨x7,Z7,H7,I7.iK,r7,q7⟩
end
def Vp{K:FG}{a:ao}{xs:List V}{g:TG}{tb:TS}{D:Ends}{Z:St}{H:Hp}(Pv:Nat->St->Hp->Prop)(h0:Pv 0 Z H)(hl:∀i Z H,i<=xs.length->Pv i Z H->dH K H a xs)
  (hs:∀i x Z H,xs[i]?=some x->Pv i Z H->g x Z H λZ2 H2=>tb { D with nx:=Pv (i+1),ct:=Pv (i+1),bk:=D.nx} Z2 H2) (hd:∀Z H,Pv xs.length Z H->D.nx Z H) :
  ∃W:Nat->Nat->St->Hp->Prop,(∃m,W 0 m Z H)/\∀i m Z H,W i m Z H->
   ((wY K a).stop i H/\D.nx Z H)\/((wY K a).go i H/\∃N:St->Hp->Prop,(∀Z' H',N Z' H'->∃m',m'<m/\W (i+1) m' Z' H')/\∀x H',(wY K a).vA i H x H'->g x Z H' λZ2 H2=>tb { D with nx:=N,ct:=N,bk:=D.nx} Z2 H2):=by
 refine⟨λi m Z H=>m=xs.length - i/\i<=xs.length/\Pv i Z H,⟨xs.length,by simp,nq _,h0⟩,?_⟩
 rintro i m Z H ⟨rfl,hi,p⟩;have q:=hl i Z H hi p;by_cases g_:i<xs.length
 .refine .inr ⟨⟨xs,xs[i],q,by simp[g_]⟩,Pv (i+1),λZ' H' p'=>⟨xs.length - (i+1),by lia,rfl,g_,p'⟩,λx H' y=>?_⟩
  obtain⟨e,y⟩:=y;subst e;exact hs i x Z _ (y xs q) p
 .have e:i=xs.length:=by lia
  subst e;exact .inl ⟨⟨xs,q,cX _⟩,hd Z H p⟩
def WY{K:FG}{a:ao}{xs:List V}{g:TG}{tb:TS}{D:Ends}{Z:St}{H:Hp}(Pv:Nat->St->Hp->Prop)(h0:Pv 0 Z H)(hl:∀i Z H,i<=xs.length->Pv i Z H->iB K H a xs)
  (hs:∀i x Z H,xs[i]?=some x->Pv i Z H->g x Z H λZ2 H2=>tb { D with nx:=Pv (i+1),ct:=Pv (i+1),bk:=D.nx} Z2 H2) (hd:∀Z H,Pv xs.length Z H->D.nx Z H) :
  ∃W:Nat->Nat->St->Hp->Prop,(∃m,W 0 m Z H)/\∀i m Z H,W i m Z H->
   ((Aw K a).stop i H/\D.nx Z H)\/((Aw K a).go i H/\∃N:St->Hp->Prop,(∀Z' H',N Z' H'->∃m',m'<m/\W (i+1) m' Z' H')/\∀x H',(Aw K a).vA i H x H'->g x Z H' λZ2 H2=>tb { D with nx:=N,ct:=N,bk:=D.nx} Z2 H2):=by
 refine⟨λi m Z H=>m=xs.length - i/\i<=xs.length/\Pv i Z H,⟨xs.length,by simp,nq _,h0⟩,?_⟩
 rintro i m Z H ⟨rfl,hi,p⟩;have q:=hl i Z H hi p;by_cases g_:i<xs.length
 .refine .inr ⟨⟨xs,xs[i],q,by simp[g_]⟩,Pv (i+1),λZ' H' p'=>⟨xs.length - (i+1),by lia,rfl,g_,p'⟩,λx H' y=>?_⟩
  obtain⟨e,y⟩:=y;subst e;exact hs i x Z _ (y xs q) p
 .have e:i=xs.length:=by lia
  subst e;exact .inl ⟨⟨xs,q,cX _⟩,hd Z H p⟩
def NA{lo:Int}{n:Nat}{g:TG}{tb:TS}{D:Ends}{Z:St}{H:Hp}(Pv:Nat->St->Hp->Prop)(h0:Pv 0 Z H)
  (hs:∀i Z H,i<n->Pv i Z H->g (.int (lo+i)) Z H λZ2 H2=>tb { D with nx:=Pv (i+1),ct:=Pv (i+1),bk:=D.nx} Z2 H2) (hd:∀Z H,Pv n Z H->D.nx Z H) :
  ∃W:Nat->Nat->St->Hp->Prop,(∃m,W 0 m Z H)/\∀i m Z H,W i m Z H->
   ((tM lo n).stop i H/\D.nx Z H)\/((tM lo n).go i H/\∃N:St->Hp->Prop,(∀Z' H',N Z' H'->∃m',m'<m/\W (i+1) m' Z' H')/\∀x H',(tM lo n).vA i H x H'->g x Z H' λZ2 H2=>tb { D with nx:=N,ct:=N,bk:=D.nx} Z2 H2):=by
 refine⟨λi m Z H=>m=n - i/\i<=n/\Pv i Z H,⟨n,by simp,nq _,h0⟩,?_⟩
 rintro i m Z H ⟨rfl,hi,p⟩;by_cases g_:i<n
 .refine .inr ⟨g_,Pv (i+1),λZ' H' p'=>⟨n - (i+1),by lia,rfl,g_,p'⟩,λx H' y=>?_⟩
  obtain⟨e,y⟩:=y;subst e y;exact hs i Z _ g_ p
 .have e:i=n:=by lia
  subst e;exact .inl ⟨cX _,hd Z H p⟩
abbrev R2:=V->V->Hp->VK->Prop
def hX(X:Cx)(f:au->au->Sem au)(r:R2):Prop:=
 ∀(af:List (ao×Obj)) (s:aE) (Z:St) (H:Hp) (x y:V) (v u:au) (Q:VK),Inv X af Z H s->RelV x v->RelV y u->r x y H Q->
  wpAny (model X.prog X.w) X.A (f v u) (EP X af Z Q) X.xe s
def DI(X:Cx)(f:au->Sem au)(r:V->Hp->VK->Prop):Prop:=
 ∀(af:List (ao×Obj)) (s:aE) (Z:St) (H:Hp) (x:V) (v:au) (Q:VK),Inv X af Z H s->RelV x v->r x H Q->
  wpAny (model X.prog X.w) X.A (f v) (EP X af Z Q) X.xe s
def c7(X:Cx)(f:au)(r:List V->Hp->VK->Prop):Prop:=
 ∀(af:List (ao×Obj)) (s:aE) (Z:St) (H:Hp) (xs:List V) (us:List au) (Q:VK),Inv X af Z H s->Vals xs us->r xs H Q->
  wpAny (model X.prog X.w) X.A (call f us) (EP X af Z Q) X.xe s
def Hj(X:Cx)(r:V->Hp->(Bool->Hp->Prop)->Prop):Prop:=
 ∀(af:List (ao×Obj)) (s:aE) (Z:St) (H:Hp) (x:V) (v:au) (Q:Bool->Hp->Prop),Inv X af Z H s->RelV x v->r x H Q->
  wpAny (model X.prog X.w) X.A (truthy v) (TP X af Z Q) X.xe s
def Dj(r:R2)(ta tb:TE):TE:=λZ H Q=>ta Z H λx H1=>tb Z H1 λy H2=>r x y H2 Q
def tUn(r:V->Hp->VK->Prop)(ta:TE):TE:=λZ H Q=>ta Z H λx H1=>r x H1 Q
def rI(C:Int->Int->Prop)(g:Int->Int->V):R2:=λx y H Q=>∃i j,x=.int i/\y=.int j/\C i j/\Q (g i j) H
def uh(g:Int->Int->V):R2:=λx y H Q=>∃i j,x=.int i/\y=.int j/\Q (g i j) H
def rU(g:Int->V):V->Hp->VK->Prop:=λx H Q=>∃i,x=.int i/\Q (g i) H
section
variable{X:Cx}{a b c:Expr}{ta tb tc:TE}{pos:Pos}
def xE(ha:PE X a ta)(hb:PE X b tb){af:List (ao×Obj)}{s:aE}{Z:St}{H:Hp}{R:V->V->Hp->Prop}(I:Inv X af Z H s)
  (h:ta Z H λx H1=>tb Z H1 λy H2=>R x y H2) {Q:au->aE->Prop} {f:au->au->Sem au}
  (hf:∀v u s2 x y H2,Inv X af Z H2 s2->RelV x v->RelV y u->R x y H2->wpAny (model X.prog X.w) X.A (f v u) Q X.xe s2) :
  wpAny (model X.prog X.w) X.A (eval a X.env) (λv s₁=>wpAny (model X.prog X.w) X.A (eval b X.env) (λu s₂=>wpAny (model X.prog X.w) X.A (f v u) Q X.xe s₂) X.xe s₁) X.xe s:=by
 refine cQ (ha af s Z H _ I h) λv s1 hh=>?_
 obtain⟨x,H1,I1,r1,q1⟩:=hh;refine cQ (hb af s1 Z H1 _ I1 q1) λu s2 hh=>?_
 obtain⟨y,H2,I2,r2,q2⟩:=hh;exact hf v u s2 x y H2 I2 r1 r2 q2
def ο{op:Operator}{r:R2}(ho:hX X (binaryOp op) r)(ha:PE X a ta)(hb:PE X b tb):PE X (.BinOp a op b pos) (Dj r ta tb):=by
 intro af s Z H Q I h;exact wpAny_BinOp (xE ha hb I h λv u s2 x y H2 I2 rx ry q=>ho af s2 Z H2 x y v u Q I2 rx ry q)
def ρ{op:UnaryOp}{r:V->Hp->VK->Prop}(ho:DI X (unaryOp op) r)(ha:PE X a ta):PE X (.UnaryOp op a pos) (tUn r ta):=by
 intro af s Z H Q I h;exact UnaryOp_ (cQ (ha af s Z H _ I h) λv s1 ⟨x,H1,I1,r1,q1⟩=>ho af s1 Z H1 x v Q I1 r1 q1)
def LS{f:au->au->Sem au}{C:Int->Int->Prop}{g:Int->Int->Int}
  (rule:∀(i j:Int) (t u:Tok) (s:aE) (Q:au->aE->Prop) (E:au->aE->Prop),C i j->Q (.int (g i j) s.toks) { s with toks:=s.toks+1}->wpAny (model X.prog X.w) X.A (f (.int i t) (.int j u)) Q E s) :
  hX X f (rI C λi j=>.int (g i j)):=by
 intro af s Z H x y v u Q I rx ry h;obtain⟨i,j,rfl,rfl,hc,q⟩:=h;obtain⟨t,rfl⟩:=rx;obtain⟨t',rfl⟩:=ry;exact rule i j t t' s _ _ hc ⟨.int (g i j),H,I.tok _,⟨_,rfl⟩,q⟩
def CM{f:au->au->Sem au}{g:Int->Int->Int}
  (rule:∀(i j:Int) (t u:Tok) (s:aE) (Q:au->aE->Prop) (E:au->aE->Prop),Q (.int (g i j) s.toks) { s with toks:=s.toks+1}->wpAny (model X.prog X.w) X.A (f (.int i t) (.int j u)) Q E s) :
  hX X f (uh λi j=>.int (g i j)):=by
 intro af s Z H x y v u Q I rx ry h;obtain⟨i,j,rfl,rfl,q⟩:=h;obtain⟨t,rfl⟩:=rx;obtain⟨t',rfl⟩:=ry;exact rule i j t t' s _ _ ⟨.int (g i j),H,I.tok _,⟨_,rfl⟩,q⟩
def CL{f:au->au->Sem au}{g:Int->Int->Bool}
  (rule:∀(i j:Int) (t u:Tok) (s:aE) (Q:au->aE->Prop) (E:au->aE->Prop),Q (.bool (g i j)) s->wpAny (model X.prog X.w) X.A (f (.int i t) (.int j u)) Q E s) :
  hX X f (uh λi j=>.bl (g i j)):=by
 intro af s Z H x y v u Q I rx ry h;obtain⟨i,j,rfl,rfl,q⟩:=h;obtain⟨t,rfl⟩:=rx;obtain⟨t',rfl⟩:=ry;exact rule i j t t' s _ _ ⟨.bl (g i j),H,I,rfl,q⟩
def wR(i j:Int):Prop:=0<j/\j<1073741824
def uq(i j:Int):Prop:=(-(2^64)<i/\i<2^64)\/(-(2^64)<j/\j<2^64)
def uq.ok{i j:Int}(h:uq i j):IntMulOk i j:=by
 rcases h with⟨h1,h2⟩|⟨h1,h2⟩
 .exact .of_left (intBits_le_64 h1 h2)
 .exact .of_right (intBits_le_64 h1 h2)
def yn:hX X (binaryOp .Add) (uh λi j=>.int (i+j)):=CM λ_ _ _ _ _ _ _ q=>add_int q
def zi:hX X (binaryOp .Sub) (uh λi j=>.int (i - j)):=CM λ_ _ _ _ _ _ _ q=>sub_int q
def yp:hX X (binaryOp .Mult) (rI uq λi j=>.int (i*j)):=LS λ_ _ _ _ _ _ _ hc q=>mul_int q hc.ok
def AZ:hX X (binaryOp .FloorDiv) (rI wR λi j=>.int (i / j)):=LS λi j _ _ _ _ _ hc q=>by
 have h1:(0:Int)<j:=hc.1;have h2:j<1073741824:=hc.2;exact floordiv_int (by lia) (by rw[Int.fdiv_eq_ediv_of_nonneg i (by lia)];exact q) (.inl (PyProof.noPylong_small (by lia)))
def t4:hX X (binaryOp .Mod) (rI (λ_ j=>0<j) λi j=>.int (i%j)):=LS λi j _ _ _ _ _ hc q=>by
 have h1:(0:Int)<j:=hc;exact mod_int' (by lia) (by rw[Int.fmod_eq_emod_of_nonneg i (by lia)];exact q)
def unI{f:au->Sem au}{g:Int->Int}
  (rule:∀(i:Int) (t:Tok) (s:aE) (Q:au->aE->Prop) (E:au->aE->Prop),Q (.int (g i) s.toks) { s with toks:=s.toks+1}->wpAny (model X.prog X.w) X.A (f (.int i t)) Q E s) :
  DI X f (rU λi=>.int (g i)):=by
 intro af s Z H x v Q I rx h;obtain⟨i,rfl,q⟩:=h;obtain⟨t,rfl⟩:=rx;exact rule i t s _ _ ⟨.int (g i),H,I.tok _,⟨_,rfl⟩,q⟩
def QF:DI X (unaryOp .USub) (rU λi=>.int (-i)):=unI λ_ _ _ _ _ q=>neg_int q
end
section
variable{X:Cx}{a b c:Expr}{ta tb tc:TE}{pos:Pos}
def vP{af:List (ao×Obj)}{Z:St}{H:Hp}{s:aE}{Q:VK}{k k':Bool}(I:Inv X af Z H s)(q:Q (.bl k) H)(e:k=k'):EP X af Z Q (.bool k') s:=by
 subst e;exact⟨.bl k,H,I,rfl,q⟩
def uP:hX X (compareOp .Lt) (uh λi j=>.bl (decide (i<j))):=CL λ_ _ _ _ _ _ _ q=>lt_int q
def uQ:hX X (compareOp .Gt) (uh λi j=>.bl (decide (j<i))):=CL λ_ _ _ _ _ _ _ q=>gt_int q
def Ut:hX X (compareOp .In) (λx y H Q=>∃i j,x=.str i/\y=.str j/\Q (.bl (!(Builtin.Str.occurrences j i 0 j.length 1).isEmpty)) H):=by
 intro af s Z H x y v u Q I rx ry h;obtain⟨i,j,rfl,rfl,q⟩:=h;obtain⟨t,rfl⟩:=rx;obtain⟨t',rfl⟩:=ry;exact in_str (vP I q rfl)
def yo:hX X (compareOp .Is) (λx y H Q=>y=.bF/\Q (.bl (decide (x=.bF))) H):=by
 intro af s Z H x y v u Q I rx ry h;obtain⟨rfl,q⟩:=h;cases ry;refine is_none_gen (vP I q ?_);cases x <;> first
  |(cases rx;rfl)
  |(obtain⟨t,rfl⟩:=rx;rfl)
def vb:hX X (compareOp .IsNot) (λx y H Q=>y=.bF/\Q (.bl (!decide (x=.bF))) H):=by
 intro af s Z H x y v u Q I rx ry h;obtain⟨rfl,q⟩:=h;cases ry;refine isnot_none_gen (vP I q ?_);cases x <;> first
  |(cases rx;rfl)
  |(obtain⟨t,rfl⟩:=rx;rfl)
def Tr:hX X (compareOp .NotIn) (λx y H Q=>∃i j,x=.str i/\y=.str j/\Q (.bl (!(!(Builtin.Str.occurrences j i 0 j.length 1).isEmpty))) H):=by
 intro af s Z H x y v u Q I rx ry h;obtain⟨i,j,rfl,rfl,q⟩:=h;obtain⟨t,rfl⟩:=rx;obtain⟨t',rfl⟩:=ry;exact notIn_str (vP I q rfl)
def hX.or{f:au->au->Sem au}{r r':R2}(h:hX X f r)(h':hX X f r'):hX X f (λx y H Q=>r x y H Q\/r' x y H Q):=by
 intro af s Z H x y v u Q I rx ry q;rcases q with q|q
 .exact h af s Z H x y v u Q I rx ry q
 .exact h' af s Z H x y v u Q I rx ry q
def QG(b:Expr){op:CmpOp}(h:op≠.In:=by decide)(h2:op≠.NotIn:=by decide):behindInMarks op b=false:=by
 have e1:(op == CmpOp.In)=false:=by cases op <;> first|rfl|exact cu rfl h
 have e2:(op == CmpOp.NotIn)=false:=by cases op <;> first|rfl|exact cu rfl h2
 cases b <;> simp[behindInMarks,e1,e2]
def WZ{op:CmpOp}{r:R2}(ho:hX X (compareOp op) r)(ha:PE X a ta)(hb:PE X b tb)(hm:behindInMarks op b=false):PE X (.Compare a [op] [b] pos) (Dj r ta tb):=by
 intro af s Z H Q I h;exact wpAny_Compare1 (xE ha hb I h λv u s2 x y H2 I2 rx ry q=>ho af s2 Z H2 x y v u Q I2 rx ry q) hm
def Dl(t:TE):TT:=λZ H Q=>t Z H λx H'=>∃k,x=.bl k/\Q k H'
def W0{op:CmpOp}{r:R2}(ho:hX X (compareOp op) r)(ha:PE X a ta)(hb:PE X b tb)(hm:behindInMarks op b=false):PT X (.Compare a [op] [b] pos) (Dl (Dj r ta tb)):=by
 intro af s Z H Q I h;refine wpAny_isTrue_Compare1 (cQ (ha af s Z H _ I h) λv s1 ⟨x,H1,I1,r1,q1⟩=>cQ (hb af s1 Z H1 _ I1 q1) λu s2 ⟨y,H2,I2,r2,q2⟩=> cQ (ho af s2 Z H2 x y v u _ I2 r1 r2 q2) λc s3 ⟨z,H3,I3,r3,k,e,q3⟩=>?_) hm
 subst e;cases r3;exact wpAny_truthy_bool ⟨H3,I3,q3⟩
def uw(K:FG)(x:V)(H:Hp)(k:Bool):Prop:=
 match x with
 |.bF=>k=false
 |.bl b=>k=b
 |.int i=>k=(i != 0)
 |.str y=>y.length<=sizeLine/\k=((y.length:Int) != 0)
 |.zx y=>y.size<=sizeLine/\k=((y.size:Int) != 0)
 |.ref p=>(∃xs,dH K H p xs/\k = !xs.isEmpty)\/(∃xs,iB K H p xs/\k = !xs.isEmpty)\/∃kvs,H p=some (.dK kvs)/\k = !kvs.isEmpty
 |_=>False
def TN{κ:Type}{kvs:List (κ×V)}{vs:List (κ×au)}(r:KV kvs vs):(!vs.isEmpty) = !kvs.isEmpty:=by
 cases r <;> rfl
def M5{xs:List V}{aA:List au}(r:Vals xs aA):(!aA.toArray.isEmpty) = !xs.isEmpty:=by
 cases r <;> simp
def xt:(sizeLine:Nat)<2^63:=by rw[sizeLine_eq];decide
def YV:Hj X (λx H Q=>∃k,uw X.K x H k/\Q k H):=by
 intro af s Z H x v Q I rx h;obtain⟨k,e,q⟩:=h;have hl:=xt;have hs:sizeLine=16777216:=sizeLine_eq;cases x with
 |bF=>
  cases rx;have e':k=false:=e;subst e';exact truthy_none ⟨H,I,q⟩
 |bl b=>
  cases rx;have e':k=b:=e;subst e';exact wpAny_truthy_bool ⟨H,I,q⟩
 |int i=>
  obtain⟨t,rfl⟩:=rx;have e':k=(i != 0):=e;subst e';exact PySem.P.truthy_int ⟨H,I,q⟩
 |str y=>
  obtain⟨t,rfl⟩:=rx;obtain⟨hy,e'⟩:y.length<=sizeLine/\k=((y.length:Int) != 0):=e;subst e';exact PySem.P.truthy_str (by lia) ⟨H,I.tok _,q⟩
 |zx y=>
  obtain⟨t,rfl⟩:=rx;obtain⟨hy,e'⟩:y.size<=sizeLine/\k=((y.size:Int) != 0):=e;subst e';exact PySem.W.truthy_bytes (by lia) ⟨H,I.tok _,q⟩
 |ref p=>
  cases rx;have e':(∃xs,dH X.K H p xs/\k = !xs.isEmpty)\/(∃xs,iB X.K H p xs/\k = !xs.isEmpty)\/∃kvs,H p=some (.dK kvs)/\k = !kvs.isEmpty:=e;rcases e' with⟨xs,hx,e'⟩|⟨xs,hx,e'⟩|⟨kvs,hx,e'⟩
  .subst e';obtain⟨aA,r,pl,hz⟩:=I.list hx;have hlen:=r.length;exact wpAny_truthy_list pl.isList (by simp only[gu];lia) ⟨H,I.tok _,by rw[M5 r];exact q⟩
  .subst e';obtain⟨aA,r,pl,hz⟩:=I.tuple hx;have hlen:=r.length;exact truthy_tuple pl (by simp only[gu];lia) ⟨H,I.tok _,by rw[M5 r];exact q⟩
  .subst e';obtain⟨hz,hS,vs,r,m⟩:kvs.length<=sizeLine/\(p == sysModules)=false/\∃vs,KV kvs vs/\s.heap.DictOf (IJ X.prog X.w) p vs:=I.cV p _ hx;have hlen:kvs.length=vs.length:=Paired.length r;exact wpAny_truthy_dict hS m (by lia) ⟨H,I.tok _,by rw[TN r];exact q⟩
 |_=>exact(show False from e).elim
def Vq(ha:PE X a ta)(he:∀whole,isTrue a X.env whole=(do let v <-whole;standAt a.pos;holding [v] (truthy v))):
  PT X a (λZ H Q=>ta Z H λx H'=>∃k,uw X.K x H' k/\Q k H'):=by
 intro af s Z H Q I h;exact isTrue_plain (cQ (ha af s Z H _ I h) λv s1 ⟨x,H1,I1,r1,q1⟩=>YV af s1 Z H1 x v Q I1 r1 q1) (he _)
def pA:hX X (binaryOp .Add) (λx y H Q=>∃i j,x=.str i/\y=.str j/\i.length+j.length<=sizeLine/\Q (.str (i++j)) H):=by
 intro af s Z H x y v u Q I rx ry h;obtain⟨i,j,rfl,rfl,hz,q⟩:=h;obtain⟨t,rfl⟩:=rx;obtain⟨t',rfl⟩:=ry;exact add_str (λt' tk=>⟨.str (i++j),H,I.tok _,⟨_,rfl⟩,q⟩) hz
def vals1{x:V}{us:List au}(r:Vals [x] us):∃u,us=[u]/\RelV x u:=by
 cases r with
 |cons r1 r2=>cases r2;exact⟨_,rfl,r1⟩
def vals2{x y:V}{us:List au}(r:Vals [x,y] us):∃u w',us=[u,w']/\RelV x u/\RelV y w':=by
 cases r with
 |cons r1 r2=>
  cases r2 with
  |cons r3 r4=>cases r4;exact⟨_,_,rfl,r1,r3⟩
def HD:c7 X (.type "int") (λxs H Q=>(∃i,xs=[.int i]/\Q (.int i) H)\/∃k,xs=[.bl k]/\Q (.int (if k then 1 else 0)) H):=by
 intro af s Z H xs us Q I r h;rcases h with⟨i,rfl,q⟩|⟨k,rfl,q⟩
 .obtain⟨u,rfl,t,rfl⟩:=vals1 r;exact call_int_int ⟨.int i,H,I,⟨_,rfl⟩,q⟩
 .obtain⟨u,rfl,r1⟩:=vals1 r;cases r1;exact call_int_bool ⟨.int (if k then 1 else 0),H,I.tok _,⟨_,rfl⟩,q⟩
end
structure ObjM (h:df) (x dx C:ao) (mA:Str->ak au):Prop where
 obj:h.get? x=some (PySem.W.instObj C dx)
 ns:h.Ns1 dx mA
 ne:dx≠x
section
variable{prog:gv}{w:eZ}{A:eY}{E:au->aE->Prop}{s:aE}{K:FG}{x dx C f:ao}{mA:Str->ak au}{name:Str}{v:au}
end
def nD.some_of{v:V}{o:ak au}(r:nD (some v) o):∃u,o=some u/\RelV v u:=by
 cases o with
 |none=>exact(show False from r).elim
 |some u=>exact⟨u,rfl,r⟩
section
variable{P:gv}{w:eZ}{H H':Hp}{h h':df}{a C dx:ao}{fs fs':List (Str×V)}
end
structure S7 (K:FG) (C:ao):Prop where
 pg:PySem.W.plainGet K C Str.empty=true
 hd:PySem.W.hasDictIn K C=true
 po:PySem.W.plainOver K C=true
 sa:PySem.W.findIn K (.ref C) "__setattr__"=some (some (.builtin "object.__setattr__"))
structure Con (K:FG) (C:ao) (f:Str) (v:V) (u:au):Prop where
 at_:PySem.W.findIn K (.ref C) f=some (some u)
 rel:RelV v u
 get:PySem.W.specialIn K u "__get__"=some none
 cp:PySem.W.copiedNames.contains f=false
structure Meth (K:FG) (C:ao) (m:Str) (f:ao):Prop where
 at_:PySem.W.findIn K (.ref C) m=some (some (.ref f))
 fn:PySem.W.isFn K (.ref f)=true
 kp:PySem.W.keepIn K (.ref f)=true
section
variable{X:Cx}{af:List (ao×Obj)}{Z:St}{H:Hp}{s:aE}{a C dx:ao}{fs:List (Str×V)}{f:Str}{v:V}{A:eY}{E:au->aE->Prop}
end
section
variable{X:Cx}{o e value:Expr}{f:Str}{pos pos' oC:Pos}{ta tv:TE}
end
section
variable{X:Cx}{af:List (ao×Obj)}{Z:St}{H:Hp}{s:aE}{A:eY}{E:au->aE->Prop}{Q:au->aE->Prop}{c:au}{b:Bool}
inductive kE (K:FG) (H:Hp):V->au->Prop where
 |bF:kE K H .bF (.type "NoneType")
 |bl (x:Bool):kE K H (.bl x) (.type "bool")
 |int (i:Int):kE K H (.int i) (.type "int")
 |str (x:Str):kE K H (.str x) (.type "str")
 |zD (x:UInt64):kE K H (.zD x) (.type "float")
 |lst {a:ao} {xs:List V} (e:H a=some (.lst xs)):kE K H (.ref a) (.type "list")
 |Y {a:ao} {o:Obj} {xs:List V} (e:H a=some (.Y o (.lst xs))):kE K H (.ref a) (.type "list")
 |tup {a:ao} {xs:List V} (e:H a=some (.tup xs)):kE K H (.ref a) (.type "tuple")
 |dK {a:ao} {kvs:List (Key×V)} (e:H a=some (.dK kvs)):kE K H (.ref a) (.type "dict")
 |dT {a:ao} {kvs:List (List Key×V)} (e:H a=some (.dT kvs)):kE K H (.ref a) (.type "dict")
 |ins {a C dx:ao} {fs:List (Str×V)} (e:H a=some (.ins C dx fs)) (cl:S7 K C) (ha:PySem.W.findIn K (.ref C) "__class__"=some (some (.builtin "object.__class__")))
   (hn:PySem.W.specialIn K (.builtin "object.__class__") "__get__"=some (some (.builtin "getset_descriptor.__get__"))) (htk:PySem.W.takesIn K (.builtin "object.__class__")=some true)
   (hm:PySem.W.mroIn K C (.type "object")=some true):kE K H (.ref a) (.ref C)
end
structure eH (k:Nat) (A:eY):Prop where
 hd:A.handled=none
 dp:A.depth+3*k+5<recursionLimit
 un:A.units+16*k+200<cLine
def eH.mono{j k:Nat}{A:eY}(r:eH k A)(h:j<=k):eH j A:=⟨r.hd,by have:=r.dp;lia,by have:=r.un;lia⟩
def eH.deeper{k:Nat}{A:eY}(r:eH (k+1) A)(env:Env):eH k (A.deeper env):=
 ⟨r.hd,by have:=r.dp;show A.depth+1+3*k+5<_;lia,by have:=r.un;show A.units+3+16*k+200<_;lia⟩
def eH.depth{k:Nat}{A:eY}(r:eH k A):A.depth<recursionLimit:=by have:=r.dp;lia
def eH.units{k:Nat}{A:eY}(r:eH k A):A.units+64<cLine:=by have:=r.un;lia
def Mc:TA:=λ_ H Q=>Q [] H
def wN(ta:TE)(tr:TA):TA:=λZ H Q=>ta Z H λx H1=>tr Z H1 λxs H2=>Q (x::xs) H2
section
variable{X:Cx}{e:Expr}{es:List Expr}{te:TE}{t:TA}{pos:Pos}
def yt:PA X [] Mc:=λ_ _ _ _ H Q I h=>Calls.spliced_nil ⟨[],H,I,.nil,h⟩
def W3(ha:PE X e te)(hr:PA X es t)(hs:starEach (e::es) X.env=(false,eval e X.env)::starEach es X.env:=by rfl):PA X (e::es) (wN te t):=by
 intro pos af s Z H Q I h;rw[hs];show wpAny _ _ (spliced ((false,eval e X.env)::backTo pos (starEach es X.env))) _ _ s;refine Calls.spliced_cons (cQ (ha af s Z H _ I h) λu s1 hh=>?_)
 obtain⟨x,H1,I1,r1,q1⟩:=hh;exact cQ (hr pos af s1 Z H1 _ I1 q1) λus s2 ⟨xs,H2,I2,r2,q2⟩=>⟨x::xs,H2,I2,.cons r1 r2,q2⟩
def Mg(t:TA):TE:=λZ H Q=>t Z H λxs H1=>xs.length<=sizeLine/\∀p,H1 p=none->Q (.ref p) (upd H1 p (.tup xs))
def Mb(t:TA):TE:=λZ H Q=>t Z H λxs H1=>xs.length<=sizeLine/\∀p,H1 p=none->Q (.ref p) (upd H1 p (.lst xs))
def YW{x1}(h:PA X es t):PE X (.Tuple es x1 pos) (Mg t):=by
 intro af s Z H Q I hq;refine wpAny_Tuple_spliced (cQ (h pos af s Z H _ I hq) λus s1 ⟨xs,H1,I1,r,z,q⟩=>⟨by rw[<-r.length];exact z,?_⟩)
 have hf:H1 s1.heap.objs.size=none:=I1.cV.fresh (cX _);refine⟨.ref s1.heap.objs.size,upd H1 s1.heap.objs.size (.tup xs),I1.laid (t':=s1.toks) (λb u e=>jJ _ e) (cX _) ?_,rfl,q _ hf⟩
 exact⟨z,us,r,⟨_,oG _ rfl,rfl,_,rfl⟩⟩
def YX(h:PA X es t):PE X (.List es pos) (Mb t):=by
 intro af s Z H Q I hq;refine wpAny_List_spliced (cQ (h pos af s Z H _ I hq) λus s1 ⟨xs,H1,I1,r,z,q⟩=>⟨by rw[<-r.length];exact z,?_⟩)
 have hf:H1 s1.heap.objs.size=none:=I1.cV.fresh (cX _);refine⟨.ref s1.heap.objs.size,upd H1 s1.heap.objs.size (.lst xs),I1.laid (t':=s1.toks) (λb u e=>jJ _ e) (cX _) ?_,rfl,q _ hf⟩
 exact⟨z,us,0,r,oG _ rfl⟩
end
abbrev Sp:=List V->Hp->VK->XK->Prop
abbrev qk:=List Env->Hp->aE->XK->au->aE->Prop
structure ur (P:gv) (w:eZ) (K:FG) (mg:Str->ak au) (base:df) (A:eY) (outer:List Env) (s:aE) (H:Hp):Prop where
 frames:A.frames=some outer
 mod:Mod K mg base
 bs:∀b o,base.get? b=some o->s.heap.get? b=some o/\H b=none
 vX:base.objs.size<=s.heap.objs.size
 kL:s.heap.FunFrames base outer
 zE:∀b∈q8 outer,H b=none
 cV:kz P w H s.heap
 bare:AllBare s.gens
def CE(outer:List Env)(P:gv)(w:eZ)(H:Hp)(s:aE)(Q:VK)(u:au)(s':aE):Prop:=
 ∃v H',s'.os=s.os/\AllBare s'.gens/\Un (q8 outer) [] H H' s.heap s'.heap/\kz P w H' s'.heap/\RelV v u/\Q v H'
def CR(CX:qk)(outer:List Env)(P:gv)(w:eZ)(H:Hp)(s:aE)(Q:VK)(E:XK)(r:Result)(s':aE):Prop:=
 match r with
 |.ok (.ret u)=>CE outer P w H s Q u s'
 |.ok _=>False
 |.error e=>CX outer H s E e s'
structure bQ (P:gv) (w:eZ) (K:FG) (mg:Str->ak au) (base:df) (CX:qk) (k:Nat) (f:ao) (fd:lS) (ps:List Str) (sp:Sp):Prop where
 len:∀vs H Q E,sp vs H Q E->vs.length=ps.length
 run:∀(A:eY) (outer:List Env) (s:aE) (H:Hp) (args:Args) (us:List au) (vs:List V) (Q:VK) (E:XK),eH k A->ur P w K mg base A outer s H->BindsTo s fd args (ps.zip us)->Vals vs us->sp vs H Q E->
  codeAny (model P w) A (.call (.ref f) args) (CR CX outer P w H s Q E) s
def bQ.imp{P:gv}{w:eZ}{K:FG}{mg:Str->ak au}{base:df}{CX:qk}{k:Nat}{f:ao}{fd:lS}{ps:List Str}{sp SS:Sp}(F:bQ P w K mg base CX k f fd ps sp)
  (h:∀vs H Q E,SS vs H Q E->sp vs H Q E):bQ P w K mg base CX k f fd ps SS:=
 ⟨λvs H Q E q=>F.len vs H Q E (h _ _ _ _ q),λA outer s H args us vs Q E hr he hb hv hs=>F.run A outer s H args us vs Q E hr he hb hv (h _ _ _ _ hs)⟩
section
variable{X:Cx}{af:List (ao×Obj)}{Z:St}{H:Hp}{s s':aE}
def Inv.Ko(I:Inv X af Z H s):ur X.prog X.w X.K X.mg X.base X.A X.stack s H:=
 ⟨I.ok.frames,I.ok.mod,I.bs,k_ I.ok.vX I.sz,I.stack,I.qg,I.cV,I.bare⟩
def Inv.after{Q:VK}{u:au}(I:Inv X af Z H s)(h:CE X.stack X.prog X.w H s Q u s'):EP X af Z Q u s':=by
 obtain⟨v,H',os,bare,un,cV,r,q⟩:=h;obtain⟨hh,g,d,t,wC⟩:=s';obtain rfl:wC=s.os:=os;exact⟨v,H',I.call (h':=hh) (g':=g) (d':=d) (t':=t) (ch:=[]) un cV bare (λb z=>cu z (by simp)),r,q⟩
end
def qh(sp:Sp)(v9:List V)(E:XK)(t:TA):TE:=λZ H Q=>t Z H λvs H1=>sp (vs++v9) H1 Q E
def Binds(K:FG)(fd:lS)(ps:List Str)(ds:List au):Prop:=
 ∀(s:aE) (us:List au),K.In s.heap->(us++ds).length=ps.length->BindsTo s fd ⟨us,[]⟩ (ps.zip (us++ds))
def Binds.all{K:FG}{fd:lS}{ps:List Str}(h:∀us:List au,us.length=ps.length->bindArgs fd ⟨us,[]⟩=pure (ps.zip us)):Binds K fd ps []:=λs us _ hl=>by
 rw[lR] at hl ⊢;exact .of_eq (h us hl)
def Jn(CX:qk)(X:Cx)(E:XK):Prop:=∀(af:List (ao×Obj)) (Z:St) (H:Hp) (s:aE) (e:au) (s':aE),Inv X af Z H s->CX X.stack H s E e s'->X.xe e s'
section
variable{X:Cx}{CX:qk}{k:Nat}{f C:ao}{fd:lS}{ps:List Str}{sp:Sp}{v9:List V}{ds:List au}{E:XK}{x m:Str}{p pos apos:Pos}{e o:Expr}{es:List Expr}{ta:TE}{t:TA}
def YY{af:List (ao×Obj)}{Z:St}{H:Hp}{s:aE}{Q:VK}{us:List au}{vs:List V}(F:bQ X.prog X.w X.K X.mg X.base CX k f fd ps sp)(hr:eH k X.A)(hb:Binds X.K fd ps ds)(hd:Vals v9 ds)(hx:Jn CX X E)
  (I:Inv X af Z H s) (r:Vals vs us) (h:sp (vs++v9) H Q E):wpAny (model X.prog X.w) X.A (call (.ref f) us) (EP X af Z Q) X.xe s:=by
 have r2:Vals (vs++v9) (us++ds):=r.append hd;have hl:(us++ds).length=ps.length:=by rw[<-r2.length];exact F.len _ _ _ _ h
 refine wpAny_call (codeAny_mono (F.run X.A X.stack s H ⟨us,[]⟩ (us++ds) (vs++v9) Q E hr I.Ko (hb s us I.zQ hl) r2 h) λr s' hq=>?_)
 cases r with
 |error e=>exact hx af Z H s e s' I hq
 |ok fl=>
  cases fl with
  |ret u=>exact I.after hq
  |next=>exact False.elim hq
  |brk=>exact False.elim hq
  |cont=>exact False.elim hq
def W5(F:bQ X.prog X.w X.K X.mg X.base CX k f fd ps sp)(hr:eH k X.A)(hg:Gl X x)(hm:X.mg x=some (.ref f))(hk:PySem.W.keepIn X.K (.ref f)=true)(hb:Binds X.K fd ps ds)(hd:Vals v9 ds)(hx:Jn CX X E)
  (ha:PA X (e::es) t) (o_:(x == ("__debug__":Str))=false:=by decide) (he:starEach (e::es) X.env=(false,eval e X.env)::starEach es X.env:=by rfl) (kl:(backTo pos (starEach es X.env)).any (·.1)=false:=by rfl) :
  PE X (.Call (.Name x p) (e::es) [] pos) (qh sp v9 E t):=by
 intro af s Z H Q I h;refine wpAny_Call_Name_kw (Pd I hg hm ?_ o_);refine PySem.W.callWith_K (h₀:=X.base) I.ok.mod.Lr hk (cQ (ha pos af s Z H _ I h) λus s1 ⟨vs,H1,I1,r,q⟩=>⟨I1.zQ,?_⟩) he kl
 exact YY F hr hb hd hx I1 r q
structure Mk (K:FG) (C f:ao):Prop where
 makes:PySem.W.makesIn K C=true
 init:PySem.W.findIn K (.ref C) "__init__"=some (some (.ref f))
 fn:PySem.W.isFn K (.ref f)=true
 kp:PySem.W.keepIn K (.ref C)=true
end
section
variable{X:Cx}{CX:qk}{k:Nat}{f C:ao}{fd:lS}{ps ks:List Str}{sp:Sp}{E:XK}{x m:Str}{p pos apos kpos:Pos}{e o:Expr}{es:List Expr}{kws:List Keyword}{te ta:TE}{t tk:TA}{nm:ak Str}
structure KBinds (K:FG) (fd:lS) (ps ks:List Str) (g:List au->List au->List au) (gV:List V->List V->List V):Prop where
 to:∀(s:aE) (us ws:List au),K.In s.heap->(g us ws).length=ps.length->BindsTo s fd ⟨us,ks.zip ws⟩ (ps.zip (g us ws))
 rel:∀{vs:List V} {us:List au} {zs:List V} {ws:List au},Vals vs us->Vals zs ws->Vals (gV vs zs) (g us ws)
variable{g:List au->List au->List au}{gV:List V->List V->List V}
end
structure aM (N P:List Str) (sc:Scope):Prop where
 kind:sc.kind=.function
 co:sc.isCoroutine=false
 gen:sc.isGenerator=false
 nd:N.Nodup
 pre:N.take P.length=P
 par:∀x∈P,sc.names.lookup x=some .local \/ sc.names.lookup x=some .cell
 yi:∀y∈sc.names,y.2≠.free
theorem NB{kindOf:Str->ak pL}{x:Str}:∀{binds:List (Str×au)} {m:Str->ak au},(∀v,(x,v)∉binds)->bindL kindOf binds m x=m x
 |[],_,_=>rfl
 |(n,v)::r,m,h=>by
  unfold bindL;rw[NB λw hw=>h w (qK _ hw)]
  split
  .have:x≠n:=by rintro rfl;exact h v qJ
   simp[this]
  .rfl
theorem NC{kindOf:Str->ak pL}{x:Str}:∀{binds:List (Str×au)} {m:Str->ak au},(∀v,(x,v)∉binds)->bindC kindOf binds m x=m x
 |[],_,_=>rfl
 |(n,v)::r,m,h=>by
  unfold bindC;rw[NC λw hw=>h w (qK _ hw)]
  split
  .rfl
  .have:x≠n:=by rintro rfl;exact h v qJ
   simp[this]
theorem ND{kindOf:Str->ak pL}{x:Str}{v:au}:∀{P:List Str} {vs:List au} {i:Nat} {m:Str->ak au},P.Nodup->P[i]?=some x->vs[i]?=some v->kindOf x=some .local ->
  bindL kindOf (P.zip vs) m x=some v
 |[],_,_,_,_,h,_,_=>by simp at h
 |_::_,[],_,_,_,_,h,_=>by simp at h
 |p::P,w::vs,0,m,nd,h1,h2,hk=>by
  simp at h1 h2;subst h1;subst h2;show bindL kindOf ((p,w)::P.zip vs) m p=_;unfold bindL;rw[NB λv hv=>(i7.mp nd).1 (List.of_mem_zip hv).1,aY hk]
  simp
 |p::P,w::vs,i+1,m,nd,h1,h2,hk=>by
  show bindL kindOf ((p,w)::P.zip vs) m x=_;unfold bindL;exact ND (i:=i) (i7.mp nd).2 (by simpa using h1) (by simpa using h2) hk
theorem NF{kindOf:Str->ak pL}{x:Str}{v:au}:∀{P:List Str} {vs:List au} {i:Nat} {m:Str->ak au},P.Nodup->P[i]?=some x->vs[i]?=some v->kindOf x≠some .local ->
  bindC kindOf (P.zip vs) m x=some v
 |[],_,_,_,_,h,_,_=>by simp at h
 |_::_,[],_,_,_,_,h,_=>by simp at h
 |p::P,w::vs,0,m,nd,h1,h2,hk=>by
  simp at h1 h2;subst h1;subst h2;show bindC kindOf ((p,w)::P.zip vs) m p=_;unfold bindC;rw[NC λv hv=>(i7.mp nd).1 (List.of_mem_zip hv).1,bb hk]
  simp
 |p::P,w::vs,i+1,m,nd,h1,h2,hk=>by
  show bindC kindOf ((p,w)::P.zip vs) m x=_;unfold bindC;exact NF (i:=i) (i7.mp nd).2 (by simpa using h1) (by simpa using h2) hk
noncomputable def start(N:List Str)(vs:List V):St:=vs.map some++List.replicate (N.length - vs.length) none
noncomputable def mL(CX:qk)(P:gv)(w:eZ)(K:FG)(mg:Str->ak au)(base:df)(N:List Str)(qual:Str)(scope:Scope)(f:ao)(cd:au)(A:eY)(outer:List Env)(s:aE)(H:Hp)(E:XK):Cx where
 prog:=P
 w:=w
 K:=K
 mg:=mg
 base:=base
 A:=A.deeper (envOfC qual scope s.heap.objs.size f cd)
 N:=N
 s₀:=s
 H₀:=H
 env:=envOfC qual scope s.heap.objs.size f cd
 outer:=outer
 stack:=envOfC qual scope s.heap.objs.size f cd::outer
 ex:=[]
 calm:=true
 fn:=λ_=>true
 pn:=[]
 xe:=λe s'=>wpAny (model P w) (A.deeper (envOfC qual scope s.heap.objs.size f cd)) (leaving (envOfC qual scope s.heap.objs.size f cd) e) (λ_ CZ=>CX outer H s E e CZ) (λe' CZ=>CX outer H s E e' CZ) s'
def Oq{sc:Scope}{n:Nat}{x:Str}(h:sc.names.lookup x=some .cell):∃c,(cellsFrom n sc.names []).lookup x=some c:=by
 have q:=PySem.W.cellsFrom_some sc.names n [] (.inl h);exact Mu.mp q
def Uu{CX:qk}{P:gv}{w:eZ}{K:FG}{mg:Str->ak au}{base:df}{N ps:List Str}{qual:Str}{scope:Scope}{f:ao}{cd:au}{A:eY}{outer:List Env}{s s1:aE}{H:Hp}{E:XK}{us:List au}{vs:List V}
  (S:aM N ps scope) (hd:A.handled=none) (e0:ur P w K mg base A outer s H) (hl:vs.length=ps.length) (r:Vals vs us)
  (x:InCallC s s.heap.objs.size (bindL (envOfC qual scope s.heap.objs.size f cd).kindOf (ps.zip us) λ_=>none) (cellsFrom (s.heap.objs.size+1) scope.names []) (bindC (envOfC qual scope s.heap.objs.size f cd).kindOf (ps.zip us) λ_=>none) s1) :
  Inv (mL CX P w K mg base N qual scope f cd A outer s H E) [] (start N vs) H s1:=by
 have kl:ps.length<=N.length:=by have:=congrArg List.length S.pre;rw[qL] at this;lia
 obtain⟨h1,tk,rfl,hk⟩:=x.done;have CH:∀b:ao,b∉(mL CX P w K mg base N qual scope f cd A outer s H E).ex:=λb z=>cu (show b∈([]:List ao) from z) (by simp)
 refine⟨⟨e0.mod,S.kind,rfl,rfl,cX _,λy z c h1 h2=>?_,λy hy=>?_,λy c _ h=>?_,λ_=>hd,Around.frames_deeper e0.frames,.inr ⟨rfl,rfl⟩,λb z=>cu z (CH b),e0.bs,e0.vX,λb _ _=>CH b,λb z=>cu z (CH b),e0.kL,e0.zE⟩,rfl,e0.bare,Un.kept hk,⟨_,x.toInCall.ns,λi y v h1 h2 h3=>?_⟩,λy c h=>⟨_,x.cell y c h⟩,e0.cV.fresh (cX _),λy c h=>?_,λp hp=>cu (show p∈([]:List (ao×Obj)) from hp) (by simp),e0.cV.kept hk,?_⟩
 .exact name_of_addr x.apart (PySem.mem_of_lookup h1) (PySem.mem_of_lookup h2)
 .have hy:scope.names.lookup y=some .cell\/scope.names.lookup y=some .free:=hy;rcases hy with hy|hy
  .exact Oq hy
  .exact cu rfl (S.yi _ (PySem.mem_of_lookup hy))
 .exact Nat.le_of_lt (x.above y c (PySem.mem_of_lookup h))
 .have hi:i<vs.length:=by
   unfold start at h2;by_cases hi:i<vs.length
   .exact hi
   .rw[G3 (by simpa using hi)] at h2
    rw[G4] at h2;split at h2 <;> cases h2
  have ha:vs[i]?=some v:=by
   unfold start at h2;rw[Mv (by simpa using hi),kc] at h2
   cases e:vs[i]? with
   |none=>rw[e] at h2;cases h2
   |some a=>rw[e] at h2;cases h2;rfl
  obtain⟨u,hu,rv⟩:=r.get ha;have hp:ps[i]?=some y:=by
   rw[<-S.pre,List.getElem?_take_of_lt (by lia)];exact h1
  have Sy:ps.Nodup:=by rw[<-S.pre];exact S.nd.sublist (List.take_sublist _ _)
  refine⟨u,rv,?_⟩;rcases S.par y (qM hp) with k|k
  .exact .inl ⟨k,ND Sy hp hu k⟩
  .obtain⟨c,e⟩:=Oq (n:=s.heap.objs.size+1) k;refine .inr ⟨.inl k,c,e,?_⟩;have q:=x.cell y c e;rw[NF Sy hp hu (by show scope.names.lookup y≠_;rw[k];decide)] at q
   exact q
 .exact e0.cV.fresh (Nat.le_of_lt (x.above y c (PySem.mem_of_lookup h)))
 .unfold start;show _=N.length;rw[fe,bO,Mw];lia
def σ{CX:qk}{P:gv}{w:eZ}{K:FG}{mg:Str->ak au}{base:df}{k:Nat}{f:ao}{name qual:Str}{params:Arguments}{body:List Stmt}{scope:Scope}{dV kV doc pm gX ct oc:au}{an od:ak ao}
  {osl:Array (ak au)} {N ps:List Str} {sp:Sp} (lk:K.lookup f=some ⟨oc,od,.func (PySem.W.fnOf name qual params body scope dV kV doc pm an gX ct),osl⟩) (qz:PySem.W.codeIn K gX qual=true) (S:aM N ps scope)
  (len:∀vs H Q E,sp vs H Q E->vs.length=ps.length)
  (kN:∀(A:eY) (outer:List Env) (s:aE) (H:Hp) (vs:List V) (Q:VK) (E:XK),eH k (A.deeper (envOfC qual scope s.heap.objs.size f gX))->sp vs H Q E-> ∃t,iu (mL CX P w K mg base N qual scope f gX A outer s H E) body t/\t { nx:=λ_ H'=>Q .bF H',rt:=Q} (start N vs) H) :
  bQ P w K mg base CX (k+1) f (PySem.W.fnOf name qual params body scope dV kV doc pm an gX ct) ps sp:=by
 refine⟨len,λA outer s H args us vs Q E hr e0 hb r wo=>?_⟩
 have hl:=len _ _ _ _ wo;have KX:K.In s.heap:=e0.mod.Lr.keeps λb o e=>(e0.bs b o e).1
 have lim:s.heap.NoLimit:=e0.mod.nolimit.keeps λb o e=>(e0.bs b o e).1
 have Ck:∀y∈ps.zip us,scope.names.lookup y.1=some .local \/ (scope.names.lookup y.1=some .cell/\((cellsFrom (s.heap.objs.size+1) scope.names []).lookup y.1).isSome=true):=λ⟨n,v⟩ hy=>by
  rcases S.par n (List.of_mem_zip hy).1 with q|q
  .exact .inl q
  .exact .inr ⟨q,PySem.W.cellsFrom_some _ _ _ (.inl q)⟩
 refine codeAny_call_function hr.depth (KX _ _ lk) rfl S.co S.gen rfl (PySem.W.codeRec_of KX qz) (hb _ _ _ _ ?_);refine wpAny_newFunctionEnv_cells S.kind Ck λenv he s1 x=>?_
 subst he;refine⟨lim.keeps x.toInCall.keep,codeAny_func ?_⟩;obtain⟨t,ht,hq⟩:=kN A outer s H vs Q E (hr.deeper _) wo;have I:Inv (mL CX P w K mg base N qual scope f gX A outer s H E) [] (start N vs) H s1:=Uu S hr.hd e0 hl r x;refine wpAny_mono (ht [] s1 (start N vs) H _ I hq) (λfl s' hs=>?_) λe s' hs=>hs
 have fin:∀{Z':St} {H':Hp} {v:V} {u:au},Inv (mL CX P w K mg base N qual scope f gX A outer s H E) [] Z' H' s'->RelV v u->Q v H'->CE outer P w H s Q u s':=
  λ{Z' H' v u} J rv q=>⟨v,H',J.os,J.bare,J.base,J.cV,rv,q⟩
 cases fl with
 |ret u=>
  obtain⟨v,Z',H',J,rv,q⟩:=hs;exact fin J rv q
 |next=>
  obtain⟨Z',H',J,q⟩:=hs;exact fin (v:=V.bF) (u:=Value.none) J rfl q
 |brk=>
  obtain⟨_,_,_,q⟩:=hs;exact False.elim q
 |cont=>
  obtain⟨_,_,_,q⟩:=hs;exact False.elim q
section
variable{X:Cx}{x:Str}{p pos:Pos}{e:Expr}{es:List Expr}{t:TA}{id T:String}{r:List V->Hp->VK->Prop}
def SX(r:List V->Hp->VK->Prop)(t:TA):TE:=λZ H Q=>t Z H λvs H1=>r vs H1 Q
def Vr(hc:c7 X (.builtin id) r)(hg:Gl X x)(hm:X.mg x=none)(hv:bootBuiltins x=some (.builtin id))(ha:PA X (e::es) t)(hn:x≠"__name__":=by decide)(o_:(x == ("__debug__":Str))=false:=by decide)
  (he:starEach (e::es) X.env=(false,eval e X.env)::starEach es X.env:=by rfl) (kl:(backTo pos (starEach es X.env)).any (·.1)=false:=by rfl):PE X (.Call (.Name x p) (e::es) [] pos) (SX r t):=by
 intro af s Z H Q I h;refine wpAny_Call_Name_kw (uJ I hg hm hv ?_ hn o_);exact PyProof.Rows.callWith_builtin1 (cQ (ha pos af s Z H _ I h) λus s1 ⟨vs,H1,I1,r1,q1⟩=>hc af s1 Z H1 vs us Q I1 r1 q1) he kl
def Uv(hc:c7 X (.type T) r)(hg:Gl X x)(hm:X.mg x=none)(hv:bootBuiltins x=some (.type T))(ha:PA X (e::es) t)(hn:x≠"__name__":=by decide)(o_:(x == ("__debug__":Str))=false:=by decide)
  (he:starEach (e::es) X.env=(false,eval e X.env)::starEach es X.env:=by rfl) (kl:(backTo pos (starEach es X.env)).any (·.1)=false:=by rfl):PE X (.Call (.Name x p) (e::es) [] pos) (SX r t):=by
 intro af s Z H Q I h;refine wpAny_Call_Name_kw (uJ I hg hm hv ?_ hn o_);exact PyProof.Rows.callWith_type1 (cQ (ha pos af s Z H _ I h) λus s1 ⟨vs,H1,I1,r1,q1⟩=>hc af s1 Z H1 vs us Q I1 r1 q1) he kl
end
end L2
namespace HT
open PySem PyProof.Rows
section
open PySem.SeqAt
open PySem.AutoSeq1 (wpAny_loadPart')
open PySem.MeetsSeq PySem.MeetsSeq2 PySem.MeetsSeq3
end
variable{sl:ao}{vl vu:au}{lo hi:ak Int}
section
variable{prog:gv}{w:eZ}{A:eY}{E:au->aE->Prop}{s:aE}
noncomputable def dE(n d:Nat):ak Int->Nat
 |none=>d
 |some v=>if v<0 then(v+(n:Int)).toNat else min v.toNat n
def YZ(n d:Nat)(hd:d<=n)(o:ak Int):dE n d o<=n:=by
 cases o with
 |none=>exact hd
 |some v=>
  show(if v<0 then(v+(n:Int)).toNat else min v.toNat n)<=n
  by_cases hv:v<0
  .rw[aY hv];lia
  .rw[bb hv];exact Nat.min_le_right _ _
def Pf(v:Int)(n d:Nat):(if v<0 then max (v+(n:Int)) 0 else min v (n:Int))=((dE n d (some v):Nat):Int):=by
 show(if v<0 then max (v+(n:Int)) 0 else min v (n:Int))=(((if v<0 then(v+(n:Int)).toNat else min v.toNat n):Nat):Int)
 by_cases hv:v<0
 .simp only[aY hv];lia
 .simp only[bb hv];lia
def TQ(lo hi:ak Int)(n:Nat):Builtin.Slice.sliceAdjust lo hi 1 (n:Int)=(((dE n 0 lo:Nat):Int),((dE n n hi:Nat):Int)):=by
 have h1:¬((1:Int)<0):=by lia
 unfold Builtin.Slice.sliceAdjust;simp only[h1,cB];refine Prod.ext ?_ ?_
 .cases lo with
  |none=>rfl
  |some v=>exact Pf v n 0
 .cases hi with
  |none=>rfl
  |some v=>exact Pf v n n
def TR(i j:Nat):Builtin.Slice.slicePlaces (i:Int) (j:Int) 1=j - i:=by
 unfold Builtin.Slice.slicePlaces;have h1:(1:Int) > 0:=by lia
 simp only[h1,aZ,Int.ediv_one];split <;> lia
def M6{v:au}{o:ak Int}{Q:ak Int->aE->Prop}(p:IsPart v o)(h:Q o s):wpAny (model prog w) A (Builtin.Slice.slicePartIndex v) Q E s:=by
 cases p with
 |none=>exact slicePart_none h
 |int i t=>exact slicePart_int h
def Tg{n:Nat}{Q:Int×Int×Nat->aE->Prop}(hs:s.heap.IsSliceOf sl vl vu .none)(pl:IsPart vl lo)(pu:IsPart vu hi)
  (h:Q (((dE n 0 lo:Nat):Int),1,dE n n hi - dE n 0 lo) s):wpAny (model prog w) A (Builtin.Slice.sliceApplied (.ref sl) (pure (n:Int))) Q E s:=by
 obtain⟨os,Cn,Sd,Gp⟩:=id hs;unfold Builtin.Slice.sliceApplied Builtin.Slice.sliceFields;refine aU (aU (wpAny_field Cn Gp (x:=vl) rfl (aU (wpAny_field Cn Gp (x:=vu) rfl (aU (wpAny_field Cn Gp (x:=.none) rfl (bW ?_)))))));refine aU (slicePart_none ?_);show wpAny _ _ (if((1:Int) == 0)=true then _ else _) _ _ s
 rw[bb (by decide)]
 refine aU (M6 pl (aU (M6 pu (aU (bW ?_)))));show wpAny _ _ (match Builtin.Slice.sliceAdjust lo hi 1 (n:Int) with|(lo,hi)=>pure (lo,(1:Int),Builtin.Slice.slicePlaces lo hi 1)) _ _ s
 rw[TQ lo hi n];show wpAny _ _ (pure (((dE n 0 lo:Nat):Int),(1:Int),Builtin.Slice.slicePlaces ((dE n 0 lo:Nat):Int) ((dE n n hi:Nat):Int) 1)) _ _ s;rw[TR];exact bW h
def Vs(xs:Array au)(i k:Nat):((List.range k).filterMap λ(m:Nat)=>xs[((i:Int)+(m:Int)*1).toNat]?).toArray=((xs.toList.drop i).take k).toArray:=by
 have e:(λ(m:Nat)=>xs[((i:Int)+(m:Int)*1).toNat]?)=λm=>xs[i+m]?:=by
  funext m;have:((i:Int)+(m:Int)*1).toNat=i+m:=by lia
  rw[this]
 rw[e];have:=pick_run xs i k;rw[List.filterMap_map] at this;have e2:((λx=>xs[x]?)∘λx=>i+x)=λm=>xs[i+m]?:=rfl
 rw[e2] at this;rw[this]
def jz{t:ao}{items:Array au}{Q:au->aE->Prop}(ht:IsTup s.heap t items)(hs:s.heap.IsSliceOf sl vl vu .none)(pl:IsPart vl lo)(pu:IsPart vu hi)
  (hw:¬(dE items.size 0 lo=0/\dE items.size items.size hi=items.size))
  (h:Q (.ref s.heap.objs.size) { s with heap:=s.heap.push { cls:=.type "tuple",data:=.seq ((items.toList.drop (dE items.size 0 lo)).take (dE items.size items.size hi - dE items.size 0 lo)).toArray}})
  (hsz:items.size<=sizeLine):wpAny (model prog w) A (getItem (.ref t) (.ref sl)) Q E s:=by
 have p9:sizeOk (.seq ((items.toList.drop (dE items.size 0 lo)).take (dE items.size items.size hi - dE items.size 0 lo)).toArray):=by
  show((items.toList.drop (dE items.size 0 lo)).take (dE items.size items.size hi - dE items.size 0 lo)).toArray.size<=sizeLine;rw[gu,qL,ui,Array.length_toList];lia
 have hj:dE items.size items.size hi<=items.size:=YZ _ _ (cX _) hi;obtain⟨os,Cn,Sd,Gp⟩:=id hs;have hTs:s.TypeIs (.ref sl) "slice":=⟨os,Cn,Sd⟩;unfold getItem;try with_reducible refine pM ?_
 first|refine aU (bW ?_)|skip
 refine aU (wpAny_sequenceKey ht.typeIs (by decide) ?_)
 refine aU (wpAny_callSpecial?_slot (name:=Str.ofString "__getitem__") ht.typeIs PyProof.Rows.slot_tuple_getitem (wpAny_call_entry PyProof.Rows.slot_tuple_getitem ht.typeIs entry_tuple_getitem ?_ (args_tuple_getitem _ _)))
 show wpAny _ _ (Builtin.Tuple.tupleItemsOf (.ref t) >>= _) _ _ s;refine aU (tupleItemsOf_ ht ?_);refine aU (wpAny_typeOf hTs ?_);rw[aY (by decide)]
 refine aU (Tg hs pl pu ?_);have ud:¬((((dE items.size 0 lo:Nat):Int) == 0&&(1:Int) == 1&&(dE items.size items.size hi - dE items.size 0 lo) == items.size)=true):=by
  intro q;rw[lQ,lQ] at q;have q1:((dE items.size 0 lo:Nat):Int)=0:=eq_of_beq q.1.1;have q2:dE items.size items.size hi - dE items.size 0 lo=items.size:=eq_of_beq q.2;exact hw ⟨by lia,by lia⟩
 show wpAny _ _ (if(((dE items.size 0 lo:Nat):Int) == 0&&(1:Int) == 1&&(dE items.size items.size hi - dE items.size 0 lo) == items.size)=true then _ else _) _ _ s
 rw[bb ud,Vs];first
  |exact aU (m:=Builtin.Tuple.tupleExact _) (wpAny_newObj_type (bW ⟨_,rfl,bW h⟩) p9)
  |exact aU (m:=Builtin.Tuple.tupleExact _) (wpAny_newObj_type (aU (bW (bW ⟨_,rfl,bW h⟩))) p9)
  |exact aU (aU (m:=Builtin.Tuple.tupleExact _) (wpAny_newObj_type (bW (bW ⟨_,rfl,bW h⟩)) p9))
  |exact aU (aU (m:=Builtin.Tuple.tupleExact _) (wpAny_newObj_type (bW ⟨_,rfl,bW h⟩) p9))
end
end HT
namespace L2
open PySem PySem.Spec PyProof.Rows
variable{r:V->ak Int->ak Int->Hp->VK->Prop}{n j t':Nat}{i:Int}{af:List (ao×Obj)}{Z:St}{H:Hp}{s:aE}{aA its' us:List au}{x:V}
abbrev TO:=St->Hp->(ak Int->Hp->Prop)->Prop
def PO(X:Cx)(e:ak Expr)(t:TO):Prop:=
 ∀(af:List (ao×Obj)) (s:aE) (Z:St) (H:Hp) (Q:ak Int->Hp->Prop),Inv X af Z H s->t Z H Q->
  wpAny (model X.prog X.w) X.A (evalPart e X.env) (λu s'=>∃o H',Inv X af Z H' s'/\IsPart u o/\Q o H') X.xe s
def W7:TO:=λ_ H Q=>Q none H
def Dk(t:TE):TO:=λZ H Q=>t Z H λx H1=>∃i,x=.int i/\Q (some i) H1
section
variable{X:Cx}{e:Expr}{te:TE}{lo hi:ak Expr}{tl th:TO}{pos p2:Pos}
def W8:PO X none W7:=by
 intro af s Z H Q I h;rw[evalPart_none];exact bW ⟨none,H,I,.none,h⟩
def W9(h:PE X e te):PO X (some e) (Dk te):=by
 intro af s Z H Q I hw;rw[evalPart_some];refine cQ (h af s Z H _ I hw) λu s1 hh=>?_
 obtain⟨x,H1,I1,r1,q1⟩:=hh;obtain⟨i,rfl,q⟩:=q1;obtain⟨t,rfl⟩:=r1;exact⟨some i,H1,I1,.int i t,q⟩
def rC(X:Cx)(r:V->ak Int->ak Int->Hp->VK->Prop):Prop:=
 ∀(af:List (ao×Obj)) (s:aE) (Z:St) (H:Hp) (x:V) (v vl vu:au) (lo hi:ak Int) (sl:ao) (Q:VK),Inv X af Z H s->RelV x v->s.heap.IsSliceOf sl vl vu .none->IsPart vl lo->IsPart vu hi->r x lo hi H Q->
  ∃T id,typeLookup (.type T) "__getitem__"=pure (some (.builtin id))/\s.TypeIs v T/\wpAny (model X.prog X.w) X.A (getItem v (.ref sl)) (EP X af Z Q) X.xe s
def rC.or{r':V->ak Int->ak Int->Hp->VK->Prop}(h:rC X r)(h':rC X r'):rC X (λx lo hi H Q=>r x lo hi H Q\/r' x lo hi H Q):=by
 intro af s Z H x v vl vu lo hi sl Q I rx hs pl pu q;rcases q with q|q
 .exact h af s Z H x v vl vu lo hi sl Q I rx hs pl pu q
 .exact h' af s Z H x v vl vu lo hi sl Q I rx hs pl pu q
def tSl(r:V->ak Int->ak Int->Hp->VK->Prop)(te:TE)(tl th:TO):TE:=λZ H Q=>te Z H λx H1=>tl Z H1 λl H2=>th Z H2 λu H3=>r x l u H3 Q
def Vt(hr:rC X r)(he:PE X e te)(hl:PO X lo tl)(hu:PO X hi th):PE X (.Subscript e (.Slice lo hi none p2) pos) (tSl r te tl th):=by
 intro af s Z H Q I h;refine Subscript_ (cQ (he af s Z H _ I h) λv s1 hh=>?_)
 obtain⟨x,H1,I1,r1,q1⟩:=hh;refine wpAny_Slice (cQ (hl af s1 Z H1 _ I1 q1) λvl s2 ⟨l,H2,I2,pl,q2⟩=>cQ (hu af s2 Z H2 _ I2 q2) λvu s3 ⟨u,H3,I3,pu,q3⟩=>?_)
 rw[evalPart_none];refine bW ?_;have I4:Inv X af Z H3 { s3 with heap:=s3.heap.push { cls:=.type "slice",data:=.fields #[vl,vu,.none]}}:=I3.kept (t':=s3.toks) λb ob q=>jJ _ q
 obtain⟨T,id,hT,ht,hg⟩:=hr af { s3 with heap:=s3.heap.push { cls:=.type "slice",data:=.fields #[vl,vu,.none]}} Z H3 x v vl vu l u s3.heap.objs.size Q I4 r1 (Heap.IsSliceOf.new ..) pl pu q3;show wpAny (model X.prog X.w) X.A (subscriptTail e (.Slice lo hi none p2) v (.ref s3.heap.objs.size)) (EP X af Z Q) X.xe { s3 with heap:=s3.heap.push { cls:=.type "slice",data:=.fields #[vl,vu,.none]}};exact tail_any (ops:=[.ref s3.heap.objs.size,v]) ht hT hg (by with_unfolding_all rfl)
def nQ(xs:List V)(lo hi:ak Int):List V:=(xs.drop (HT.dE xs.length 0 lo)).take (HT.dE xs.length xs.length hi - HT.dE xs.length 0 lo)
def MX(xs:List V)(lo hi:ak Int):(nQ xs lo hi).length<=xs.length:=by
 unfold nQ;rw[qL,ui];lia
def yA(K:FG):V->ak Int->ak Int->Hp->VK->Prop:=λx lo hi H Q=>∃a xs,x=.ref a/\iB K H a xs/\
 ¬(HT.dE xs.length 0 lo=0/\HT.dE xs.length xs.length hi=xs.length)/\∀p,H p=none->Q (.ref p) (upd H p (.tup (nQ xs lo hi)))
def Y0:rC X (yA X.K):=by
 intro af s Z H x v vl vu lo hi sl Q I rx hs pl pu h;obtain⟨a,xs,rfl,hx,hw,q⟩:=h;cases rx;obtain⟨aA,r,ht,hz⟩:=I.tuple hx;have hlen:aA.toArray.size=xs.length:=by rw[gu];exact r.length.symm
 refine⟨"tuple",_,PyProof.Rows.slot_tuple_getitem.lookup,ht.typeIs,?_⟩;refine HT.jz ht hs pl pu (by rw[hlen];exact hw) ?_ (by rw[hlen];exact hz)
 rw[hlen];refine⟨.ref s.heap.objs.size,_,I.laid (t':=s.toks) (o:=.tup (nQ xs lo hi)) (λb ob q=>jJ _ q) (cX _) ?_,rfl,q _ (I.cV.fresh (cX _))⟩
 exact⟨k_ (MX xs lo hi) hz,_,(r.drop (HT.dE xs.length 0 lo)).take (HT.dE xs.length xs.length hi - HT.dE xs.length 0 lo),IsTup.new _ _⟩
end
noncomputable def n_(n:Nat)(i:Int):ak Nat:=if 0<=i then(if i<n then some i.toNat else none) else if -(n:Int)<=i then some (i+n).toNat else none
def dO{α:Type}(xs:List α)(i:Int):ak α:=(n_ xs.length i).bind λj=>xs[j]?
def IK(h:n_ n i=some j):seqIndex? i n=some j/\j<n /\ -(n:Int)<=i/\i<n:=by
 unfold n_ at h;by_cases h0:0<=i
 .rw[aY h0] at h;by_cases h1:i<n
  .rw[aY h1] at h;have e:i.toNat=j:=Option.some.inj h;exact⟨by rw[seqIndex_of h0 h1,e],by lia,by lia,h1⟩
  .rw[bb h1] at h;cases h
 .rw[bb h0] at h;by_cases h1:-(n:Int)<=i
  .rw[aY h1] at h;have e:(i+n).toNat=j:=Option.some.inj h;exact⟨by rw[seqIndex_neg (by lia) h1,e],by lia,h1,by lia⟩
  .rw[bb h1] at h;cases h
def IL{α:Type}{xs:List α}{v:α}(h:dO xs i=some v):∃j,seqIndex? i xs.length=some j/\xs[j]?=some v/\j<xs.length /\ -(xs.length:Int)<=i/\i<xs.length:=by
 unfold dO at h;cases e:n_ xs.length i with
 |none=>rw[e] at h;cases h
 |some j=>
  rw[e] at h;obtain⟨h1,h2,h3,h4⟩:=IK e;exact⟨j,h1,h,h2,h3,h4⟩
def o5{α:Type}{xs:List α}{v:α}(h:xs[j]?=some v):dO xs (j:Int)=some v:=by
 have hj:j<xs.length:=(iA.mp h).1;have e:n_ xs.length (j:Int)=some j:=by
  unfold n_;rw[aY (by lia),aY (by lia)];simp
 unfold dO;rw[e];exact h
def A7(b:Expr):Prop:=∀o i,subscripted b false o i=operate [o,i] (getItem o i)
def qm(X:Cx)(r:R2):Prop:=
 ∀(value slice:Expr) (af:List (ao×Obj)) (s:aE) (Z:St) (H:Hp) (x y:V) (v u:au) (Q:VK),Inv X af Z H s->RelV x v->RelV y u->r x y H Q->
  subscripted slice false v u=operate [v,u] (getItem v u)->wpAny (model X.prog X.w) X.A (subscriptTail value slice v u) (EP X af Z Q) X.xe s
def Tb(X:Cx)(id:String)(r:V->List V->Hp->VK->Prop):Prop:=
 ∀(af:List (ao×Obj)) (s:aE) (Z:St) (H:Hp) (x:V) (xs:List V) (v:au) (us:List au) (Q:VK),Inv X af Z H s->RelV x v->Vals xs us->r x xs H Q->
  wpAny (model X.prog X.w) X.A (call (.builtin id) (v::us)) (EP X af Z Q) X.xe s
section
variable{X:Cx}{a b:Expr}{ta tb:TE}{pos:Pos}
def qm.or{r r':R2}(h:qm X r)(h':qm X r'):qm X (λx y H Q=>r x y H Q\/r' x y H Q):=by
 intro value slice af s Z H x y v u Q I rx ry q hs;rcases q with q|q
 .exact h value slice af s Z H x y v u Q I rx ry q hs
 .exact h' value slice af s Z H x y v u Q I rx ry q hs
def JX{r:R2}(hr:qm X r)(ha:PE X a ta)(hb:PE X b tb)(hs:A7 b):PE X (.Subscript a b pos) (Dj r ta tb):=by
 intro af s Z H Q I h;exact Subscript_ (xE ha hb I h λv u s2 x y H2 I2 rx ry q=>hr a b af s2 Z H2 x y v u Q I2 rx ry q (hs _ _))
def yx(K:FG):R2:=λx y H Q=>∃p xs i v,x=.ref p/\y=.int i/\dH K H p xs/\dO xs i=some v/\Q v H
def yy(K:FG):R2:=λx y H Q=>∃p xs i v,x=.ref p/\y=.int i/\iB K H p xs/\dO xs i=some v/\Q v H
def CU:R2:=λx y H Q=>∃z i c,x=.str z/\y=.int i/\z.length<=sizeLine/\dO z.cps.toList i=some c/\Q (.str ⟨#[c]⟩) H
def W_:qm X (yx X.K):=by
 intro value slice af s Z H x y v u Q I rx ry h hs;obtain⟨p,xs,i,z,rfl,rfl,hq,he,q⟩:=h;cases rx;obtain⟨t,rfl⟩:=ry;obtain⟨aA,r,pl,hz⟩:=I.list hq;obtain⟨j,h1,h2,h3,h4,h5⟩:=IL he;obtain⟨w,ew,rg⟩:=r.get h2;have hl:=r.length;have hn:=xt;have fin:EP X af Z Q w s:=⟨z,H,I,rg,q⟩;by_cases h0:0<=i
 .have hj:i.toNat=j:=by
   rw[seqIndex_of h0 h5] at h1;exact Option.some.inj h1
  exact item_listR pl.isList h0 (by lia) (by rw[hj];simpa using ew) fin hs
 .have hj:(i+(aA.toArray.size:Int)).toNat=j:=by
   rw[seqIndex_neg (by lia) h4] at h1
   rw[gu,<-hl];exact Option.some.inj h1
  exact subscriptTail_builtinR (x:=w) pl.isList.typeIs slot_list_getitem.lookup
   (wpAny_getItem_list_neg (Q:=λr s'=>r=w/\EP X af Z Q r s') pl.isList (by lia) (by rw[gu] <;> lia) (by lia) (by rw[hj];simpa using ew) ⟨rfl,fin⟩) hs
def Y1:qm X (yy X.K):=by
 intro value slice af s Z H x y v u Q I rx ry h hs;obtain⟨p,xs,i,z,rfl,rfl,hq,he,q⟩:=h;cases rx;obtain⟨t,rfl⟩:=ry;obtain⟨aA,r,pl,hz⟩:=I.tuple hq;obtain⟨j,h1,h2,h3,h4,h5⟩:=IL he;obtain⟨w,ew,rg⟩:=r.get h2;have hl:=r.length;have hn:=xt;have fin:EP X af Z Q w s:=⟨z,H,I,rg,q⟩;exact subscriptTail_builtinR (x:=w) pl.typeIs slot_tuple_getitem.lookup
  (getItem_tuple (j:=j) (Q:=λr s'=>r=w/\EP X af Z Q r s') pl (by lia) (by lia) (by rw[gu,<-hl];exact h1) (by simpa using ew) ⟨rfl,fin⟩) hs
def yb:qm X CU:=by
 intro value slice af s Z H x y v u Q I rx ry h hs;obtain⟨z,i,c,rfl,rfl,hz,he,q⟩:=h;obtain⟨t,rfl⟩:=rx;obtain⟨t',rfl⟩:=ry;obtain⟨j,h1,h2,h3,h4,h5⟩:=IL he;have hl:z.cps.toList.length=z.length:=by simp[Str.length]
 rw[hl] at h1 h4 h5;have hn:=xt;exact tail_any (typeIs_str s z t) slot_str_getitem.lookup (getItem_str (c:=c) (by
  have e1:decide (i < -(2^63:Int))=false:=ij (by lia)
  have e2:decide (i>=2^63)=false:=ij (by lia)
  rw[e1,e2,G5]) (by rw[h1];simpa using h2) ⟨.str ⟨#[c]⟩,H,I.tok _,⟨_,rfl⟩,q⟩) hs
def TU(aA:List au)(n j:Nat)(u:au):Obj.mapSeq (·.setIfInBounds j u) { cls:=.type "list",data:=.seq aA.toArray n}={ cls:=.type "list",data:=.seq (aA.set j u).toArray n}:=by
 simp[Obj.mapSeq]
def Inv.lst{af:List (ao×Obj)}{Z:St}{H:Hp}{s:aE}{p:ao}{xs:List V}(I:Inv X af Z H s)(h:H p=some (.lst xs)):
  ∃(aA:List au) (n:Nat),Vals xs aA/\s.heap.get? p=some { cls:=.type "list",data:=.seq aA.toArray n}/\xs.length<=sizeLine:=by
 obtain⟨z,aA,n,r,e⟩:=I.cV p _ h;exact⟨aA,n,r,e,z⟩
def Inv.yf{p:ao}{xs ys:List V}{n':Nat}{f:Obj->Obj}(I:Inv X af Z H s)(h:H p=some (.lst xs))
  (ho:s.heap.get? p=some { cls:=.type "list",data:=.seq aA.toArray n}) (hf:f { cls:=.type "list",data:=.seq aA.toArray n}={ cls:=.type "list",data:=.seq its'.toArray n'}) (r:Vals ys its') (hz:ys.length<=sizeLine) (t:Nat) :
  Inv X af Z (upd H p (.lst ys)) { s with heap:=s.heap.update p f,toks:=t}:=by
 have e:(s.heap.update p f).get? p=some { cls:=.type "list",data:=.seq its'.toArray n'}:=by
  rw[vt f ho (by rw[hf] <;> rfl),hf]
 refine I.write (x:=p) (e:=p) (by rw[h];trivial) (.inl rfl) (λb u hb q=>(Du _ _ (Ne.symm hb)).trans q) ⟨_,e⟩ ?_
 exact⟨hz,its',n',r,e⟩
def wJ:V->V->V->Hp->(Hp->Prop)->Prop:=λo i v H Q=>∃p xs k j,o=.ref p/\i=.int k/\H p=some (.lst xs)/\n_ xs.length k=some j/\Q (upd H p (.lst (xs.set j v)))
def Vu:uv X wJ:=by
 intro af s Z H o i v ov iv u Q I ro ri rv h;obtain⟨p,xs,k,j,rfl,rfl,hp,hj,q⟩:=h;cases ro;obtain⟨t,rfl⟩:=ri;obtain⟨aA,n,r,ho,hz⟩:=I.lst hp;obtain⟨h1,h2,h3,h4⟩:=IK hj;have hl:=r.length;have hn:=xt;have I':Inv X af Z (upd H p (.lst (xs.set j v))) { s with heap:=s.heap.update p (Obj.mapSeq (·.setIfInBounds j u))}:=
  I.yf hp ho (TU aA n j u) (r.set rv j) (by rw[Dv];exact hz) s.toks
 by_cases h0:0<=k
 .have hk:k.toNat=j:=by
   rw[seqIndex_of h0 h4] at h1;exact Option.some.inj h1
  exact PySem.W.ki_setAt ho h0 (by lia) (by rw[gu,<-hl];exact h4) (by rw[hk];exact⟨_,I',q⟩)
 .have hk:(k+(aA.toArray.size:Int)).toNat=j:=by
   rw[seqIndex_neg (by lia) h3] at h1
   rw[gu,<-hl];exact Option.some.inj h1
  exact PySem.W.ki_setBack ho (by lia) (by rw[gu,<-hl];exact h3) (by lia) (by rw[hk];exact⟨_,I',q⟩)
def Ts(lo hi:ak Int)(n:Nat):(sliceBounds lo hi none n).1=((HT.dE n 0 lo:Nat):Int)/\(sliceBounds lo hi none n).2.1=((HT.dE n n hi:Nat):Int)/\(sliceBounds lo hi none n).2.2=1:=by
 refine⟨?_,?_,rfl⟩
 .cases lo with
  |none=>simp[sliceBounds,HT.dE]
  |some i=>
   simp only[sliceBounds,HT.dE,Option.getD_none,show(1:Int) > 0 by decide,aZ]
   by_cases h:i<0
   .simp only[h,aZ] <;> lia
   .simp only[h,cB] <;> lia
 .cases hi with
  |none=>simp[sliceBounds,HT.dE]
  |some i=>
   simp only[sliceBounds,HT.dE,Option.getD_none,show(1:Int) > 0 by decide,aZ]
   by_cases h:i<0
   .simp only[h,aZ] <;> lia
   .simp only[h,cB] <;> lia
def Tn(aA:List au)(lo hi:ak Int):slicePick aA.toArray lo hi none=((aA.drop (HT.dE aA.length 0 lo)).take (HT.dE aA.length aA.length hi - HT.dE aA.length 0 lo)).toArray:=by
 obtain⟨h1,h2,h3⟩:=Ts lo hi aA.toArray.size;unfold slicePick;rw[h1,h2,h3];simp only[sliceRange_one,pick_run,gu] <;> rfl
def yz(K:FG):V->ak Int->ak Int->Hp->VK->Prop:=λx lo hi H Q=>∃a xs,x=.ref a/\dH K H a xs/\∀p,H p=none->Q (.ref p) (upd H p (.lst (nQ xs lo hi)))
def Xa:rC X (yz X.K):=by
 intro af s Z H x v vl vu lo hi sl Q I rx hs pl pu h;obtain⟨a,xs,rfl,hx,q⟩:=h;cases rx;obtain⟨aA,r,ht,hz⟩:=I.list hx;have hlen:=r.length;refine⟨"list",_,slot_list_getitem.lookup,ht.isList.typeIs,?_⟩;refine wpAny_getItem_list_slice ht.isList hs pl pu .none (by simp) ?_ (by rw[gu] <;> lia)
 rw[Tn,<-hlen];refine⟨.ref s.heap.objs.size,_,I.laid (t':=s.toks) (o:=.lst (nQ xs lo hi)) (λb ob q=>jJ _ q) (cX _) ?_,rfl,q _ (I.cV.fresh (cX _))⟩
 exact⟨k_ (MX xs lo hi) hz,_,0,(r.drop (HT.dE xs.length 0 lo)).take (HT.dE xs.length xs.length hi - HT.dE xs.length 0 lo),oG _ rfl⟩
def wa:V->Bool
 |.bF=>true
 |.bl _=>true
 |.int _=>true
 |.str _=>true
 |_=>false
noncomputable def eqV:V->V->Bool
 |.bF,.bF=>true
 |.bl a,.bl b=>a == b
 |.bl a,.int b=>(if a then 1 else 0) == b
 |.int a,.bl b=>a == (if b then 1 else 0)
 |.int a,.int b=>a == b
 |.str a,.str b=>a == b
 |_,_=>false
def Tt:c7 X (.builtin "len") (λxs H Q=>∃p ys,xs=[.ref p]/\(dH X.K H p ys\/iB X.K H p ys)/\Q (.int ys.length) H):=by
 intro af s Z H xs us Q I r h;obtain⟨p,ys,rfl,hq,q⟩:=h;obtain⟨u,rfl,rx⟩:=vals1 r;cases rx;have hn:=xt;rcases hq with hq|hq
 .obtain⟨aA,r',pl,hz⟩:=I.list hq;have hlen:=r'.length;exact Calls.call_len_list pl.isList (by simp only[gu] <;> lia) ⟨.int ys.length,H,I.tok _,⟨s.toks+1,by rw[gu,hlen]⟩,q⟩
 .obtain⟨aA,r',pl,hz⟩:=I.tuple hq;have hlen:=r'.length;exact len_tuple pl (by simp only[gu] <;> lia) ⟨.int ys.length,H,I.tok _,⟨s.toks+1,by rw[gu,hlen]⟩,q⟩
def Tu:c7 X (.builtin "len") (λxs H Q=>∃z,xs=[.str z]/\z.length<=sizeLine/\Q (.int z.length) H):=by
 intro af s Z H xs us Q I r h;obtain⟨z,rfl,hz,q⟩:=h;obtain⟨u,rfl,t,rfl⟩:=vals1 r;have hn:=xt;exact len_str (by lia) ⟨.int z.length,H,I.tok _,⟨_,rfl⟩,q⟩
def c7.or{f:au}{r r':List V->Hp->VK->Prop}(h:c7 X f r)(h':c7 X f r'):c7 X f (λxs H Q=>r xs H Q\/r' xs H Q):=by
 intro af s Z H xs us Q I rs q;rcases q with q|q
 .exact h af s Z H xs us Q I rs q
 .exact h' af s Z H xs us Q I rs q
def Tv:c7 X (.type "list") (λxs H Q=>∃p ys,xs=[.ref p]/\(dH X.K H p ys\/iB X.K H p ys)/\∀l,H l=none->Q (.ref l) (upd H l (.lst ys))):=by
 intro af s Z H xs us Q I r h;obtain⟨p,ys,rfl,hq,q⟩:=h;obtain⟨u,rfl,rx⟩:=vals1 r;cases rx;have fin:∀(aA:List au),Vals ys aA->ys.length<=sizeLine->∀(h':df) (c':Nat),(∀b o',s.heap.get? b=some o'->h'.get? b=some o')->
   h'.get? s.heap.objs.size=some { cls:=.type "list",dict:=none,data:=.seq aA.toArray c',slots:=#[]}->EP X af Z Q (.ref s.heap.objs.size) { s with heap:=h'}:=λaA r' hz h' c' kp e=>
  ⟨.ref s.heap.objs.size,_,I.laid (t':=s.toks) kp (cX _) (show cC X.prog X.w _ h' _ (.lst ys) from⟨hz,aA,c',r',e⟩),rfl,q _ (I.cV.fresh (cX _))⟩
 rcases hq with hq|hq
 .obtain⟨aA,r',pl,hz⟩:=I.list hq;have hlen:=r'.length;obtain⟨o,ho,hc,n,hd⟩:=pl.isList;exact call_list_seq p (.inl rfl) ho hc hd (λh' c' kp e=>fin aA r' hz h' c' kp e) (by simp only[gu] <;> lia)
 .obtain⟨aA,r',pl,hz⟩:=I.tuple hq;have hlen:=r'.length;obtain⟨o,ho,hc,n,hd⟩:=pl;exact call_list_seq p (.inr rfl) ho hc hd (λh' c' kp e=>fin aA r' hz h' c' kp e) (by simp only[gu] <;> lia)
def Mi(K:FG)(T:String)(x:V)(H:Hp):Prop:=match x with
 |.str _=>T="str"
 |.int _=>T="int"
 |.ref p=>(T="list"/\∃xs,dH K H p xs)\/(T="tuple"/\∃o,K.lookup p=some o/\o.cls=.type "tuple"/\o.dict=none)\/
   (T="dict"/\((∃kvs,H p=some (.dK kvs))\/(∃kvs,H p=some (.dT kvs))\/∃es ep,H p=some (.dG es ep)))\/(T="set"/\∃S n,H p=some (.set S n))
 |_=>False
def Y2{T:String}{v:au}(I:Inv X af Z H s)(r:RelV x v)(ty:Mi X.K T x H):
  s.TypeIs v T/\∀a,v=.ref a->∃ob,s.heap.get? a=some ob/\ob.dict=none:=by
 cases x with
 |str z=>
  obtain⟨t,rfl⟩:=r;cases(show T="str" from ty);exact⟨typeIs_str s z t,λ_ e=>nomatch e⟩
 |int i=>
  obtain⟨t,rfl⟩:=r;cases(show T="int" from ty);exact⟨typeIs_int s i t,λ_ e=>nomatch e⟩
 |ref p=>
  cases r;rcases ty with⟨rfl,xs,hq⟩|⟨rfl,o,hk,hc,hd⟩|⟨rfl,hk⟩|⟨rfl,S,n,hk⟩
  .obtain⟨aA,_,pl,_⟩:=I.list hq;refine⟨pl.isList.typeIs,λa e=>?_⟩
   cases e;obtain⟨o,n,e,c,hd,_⟩:=pl;exact⟨o,e,hd⟩
  .refine⟨⟨o,I.zQ p o hk,hc⟩,λa e=>?_⟩
   cases e;exact⟨o,I.zQ _ o hk,hd⟩
  .have z:∃o,s.heap.get? p=some o/\o.ExactDict:=by
    rcases hk with⟨kvs,hk⟩|⟨kvs,hk⟩|⟨es,ep,hk⟩
    .obtain⟨_,_,_,_,o,_,_,e,ex,_⟩:=I.cV p _ hk;exact⟨o,e,ex⟩
    .obtain⟨_,_,_,_,o,_,_,e,ex,_⟩:=I.cV p _ hk;exact⟨o,e,ex⟩
    .obtain⟨_,_,o,_,e,ex,_⟩:=I.cV p _ hk;exact⟨o,e,ex⟩
   obtain⟨o,e,ex⟩:=z;refine⟨⟨o,e,ex.1⟩,λa e2=>?_⟩
   cases e2;exact⟨o,e,ex.2.1⟩
  .obtain⟨o,_,_,_,e,ex,_⟩:=I.cV p _ hk;refine⟨⟨o,e,ex.1⟩,λa e2=>?_⟩
   cases e2;exact⟨o,e,ex.2.1⟩
 |_=>exact False.elim ty
def L9(K:FG)(T:String)(r:V->List V->Hp->VK->Prop)(to:TE)(t:TA):TE:=λZ H Q=>to Z H λx H1=>Mi K T x H1/\t Z H1 λxs H2=>r x xs H2 Q
variable{o e:Expr}{es:List Expr}{to:TE}{t:TA}{name:Str}{apos dh:Pos}{T id:String}{r:V->List V->Hp->VK->Prop}
def Rz(pa:PlainAttrs T)(slot:Slot T name id)(xY:typeOf (.builtin id)=pure (.type "method_descriptor"))(hm:Tb X id r)(ho:PE X o to)(ha:PA X (e::es) t)
  (n5:attributeBase o name X.env (eval o X.env)=eval o X.env:=by rfl)
  (se:((backTo dh (starEach (e::es) X.env)).all (λx => !x.1)&&(backToKw dh (keywordEach [] X.env)).all (λx=>x.1.isSome) && decide ((e::es).length+([]:List Keyword).length+(if([]:List Keyword).isEmpty then 0 else 1)<30))=true:=by rfl)
  (n6:(apos.endLine == dh.line)=true:=by rfl) (hs:starEach (e::es) X.env=(false,eval e X.env)::starEach es X.env:=by rfl) (kO:(backTo dh (starEach es X.env)).any (·.1)=false:=by rfl) :
  PE X (.Call (.Attribute o name apos) (e::es) [] dh) (L9 X.K T r to t):=by
 intro af s Z H Q I h;refine wpAny_Call_method_late n5 se n6 rfl (cQ (ho af s Z H _ I h) λv s1 hh=>?_)
 obtain⟨x,H1,I1,r1,ty,q1⟩:=hh;obtain⟨h1,h2⟩:=Y2 I1 r1 ty;refine⟨T,id,pa,slot,xY,h1,h2,?_⟩;have hA:=ha dh af s1 Z H1 _ I1 q1;rw[hs] at hA ⊢;refine Calls.callWith_builtin (by show(false || (backTo dh (starEach es X.env)).any (·.1))=false;rw[kO] <;> rfl) (Calls.evalArgs_plain ?_)
 exact cQ hA λus s2 ⟨vs,H2,I2,r2,q2⟩=>hm af s2 Z H2 x vs v us Q I2 r1 r2 q2
end
def wZ(X:Cx)(id:String)(r:V->List V->Hp->VK->Prop):Prop:=
 ∀(af:List (ao×Obj)) (s:aE) (Z:St) (H:Hp) (x:V) (xs:List V) (v:au) (us:List au) (Q:VK),Inv X af Z H s->RelV x v->Vals xs us->r x xs H Q->
  wpAny (model X.prog X.w) X.A (call (.builtin id) (v::us)) (EP X af Z Q) X.xe s
def Vals.one(h:Vals [x] us):∃u,us=[u]/\RelV x u:=by
 cases h with
 |cons r t=>
  cases t;exact⟨_,rfl,r⟩
def Vals.two{y:V}(h:Vals [x,y] us):∃u v,us=[u,v]/\RelV x u/\RelV y v:=by
 cases h with
 |cons r t=>
  obtain⟨v,rfl,q⟩:=Vals.one t;exact⟨_,_,rfl,r,q⟩
section
variable{X:Cx}{af:List (ao×Obj)}{Z:St}{H:Hp}{s:aE}{l b:ao}{xs ys zs:List V}
def Inv.yd{f:Array au->Array au}(I:Inv X af Z H s)(hH:H l=some (.lst xs))
  (e:s.heap.get? l=some { cls:=.type "list",data:=.seq aA.toArray n}) (hf:f aA.toArray=its'.toArray) (hv:Vals ys its') (hz:ys.length<=sizeLine) :
  Inv X af Z (upd H l (.lst ys)) { s with heap:=s.heap.update l (Obj.mapSeq f),toks:=t'}:=by
 have q:=PySem.IsL.update e f;rw[hf] at q;refine I.write (x:=l) (e:=l) (by rw[hH];exact trivial) (.inl rfl) (λb' u hb hu=>(Du s.heap (Obj.mapSeq f) (Ne.symm hb)).trans hu) ⟨_,q⟩ ?_
 exact⟨hz,its',_,hv,q⟩
def Inv.LK(I:Inv X af Z H s)(hv:Vals ys aA)(hz:ys.length<=sizeLine):
  Inv X af Z (upd H s.heap.objs.size (.lst ys)) { s with heap:=s.heap.push { cls:=.type "list",data:=.seq aA.toArray},toks:=t'}:=
 I.laid (λ_ _ q=>jJ _ q) (cX _) ⟨hz,aA,0,hv,oG _ rfl⟩
theorem Inv.fresh(I:Inv X af Z H s):H s.heap.objs.size=none:=I.cV.fresh (cX _)
def Inv.ye(I:Inv X af Z H s)(hH:H l=some (.lst xs)):xs.length<=sizeLine/\∃(aA:List au) (n:Nat),Vals xs aA/\xs.length=aA.length/\s.heap.get? l=some { cls:=.type "list",data:=.seq aA.toArray n}:=by
 obtain⟨z,aA,n,r,e⟩:=I.cV l _ hH;exact⟨z,aA,n,r,r.length,e⟩
end
section
variable{X:Cx}
def Pg:V->List V->Hp->VK->Prop:=λx vs H Q=>∃l xs y,x=.ref l/\vs=[y]/\H l=some (.lst xs)/\xs.length<sizeLine/\Q .bF (upd H l (.lst (xs++[y])))
theorem uz:wZ X "list.append" Pg:=by
 intro af s Z H x vs v us Q I rx rv h;obtain⟨l,xs,y,rfl,rfl,hH,hz,q⟩:=h;cases rx;obtain⟨u,rfl,ru⟩:=rv.one;obtain⟨z,aA,n,r,hl,e⟩:=I.ye hH;refine call_meets F.slot_list_append ⟨_,e,rfl⟩ F.entry_list_append (F.args_list_append_2 _ _) (PySem.list_append l aA.toArray n u (by rw[gu];lia)) ⟨e,?_⟩
 refine⟨.bF,_,I.yd (its':=aA++[u]) hH e (by simp) (r.append (.cons ru .nil)) ?_,rfl,q⟩
 rw[fe,lC];lia
end
section
variable{prog:gv}{w:eZ}{A:eY}{E:au->aE->Prop}{s:aE}
end
section
variable{X:Cx}
end
section
variable{κ:Type}[DecidableEq κ]
def nD.qB{o:ak V}{u:ak au}(r:nD o u):o.isSome=u.isSome:=by
 cases o with
 |none=>cases u with
  |none=>rfl
  |some _=>exact(show False from r).elim
 |some _=>cases u with
  |none=>exact(show False from r).elim
  |some _=>rfl
end
section
variable{P:gv}{w:eZ}{H:Hp}{h:df}{a:ao}
end
section
variable{X:Cx}{af:List (ao×Obj)}{Z:St}{H:Hp}{s:aE}{a:ao}{y v:V}{u r:au}{o:ak V}{A:eY}{E:au->aE->Prop}
def Inv.big(I:Inv X af Z H s):sysModules<s.heap.objs.size:=by
 have h:mainGlobals<s.heap.objs.size:=(I.mod.glob.keeps I.bk).lt;exact Nat.lt_trans (by decide) h
def Ph{h':df}{ob:HO}(I:Inv X af Z H s)(mu:Az (H a))(hs:Heap.SameBut a s.heap h')(he:∃q,h'.get? a=some q)(new:cC X.prog X.w (upd H a ob) h' a ob):
  Inv X af Z (upd H a ob) { s with heap:=h',toks:=t'}:=
 I.write (x:=a) (e:=a) mu (.inl rfl) (λb q hb z=>(hs.2 b hb).trans z) he new
end
section
variable{X:Cx}{af:List (ao×Obj)}{Z:St}{H:Hp}{s:aE}{a:ao}{kvs:List (Key×V)}{k:Key}{u:au}{A:eY}{E:au->aE->Prop}
end
section
variable{X:Cx}{o i e value:Expr}{pos pos' oC:Pos}{td ty tv:TE}
end
section
variable{X:Cx}{pos:Pos}
end
abbrev VV:List (V×V)->List (au×au)->Prop:=Paired λp q=>RelV p.1 q.1/\RelV p.2 q.2
structure M1 (X:Cx) (o:Expr) (m:Str) (apos:Pos) (e:Expr) (dh:Pos):Prop where
 base:attributeBase o m X.env (eval o X.env)=eval o X.env
 few:((backTo dh (starEach [e] X.env)).all (λx => !x.1)&&(backToKw dh (keywordEach [] X.env)).all (λx=>x.1.isSome) && decide (([e]:List Expr).length+([]:List Keyword).length+(if([]:List Keyword).isEmpty then 0 else 1)<30))=true
 line:(apos.endLine == dh.line)=true
 trees:backTo dh (starEach [e] X.env)=[(false,eval e X.env)]
structure M2 (X:Cx) (o:Expr) (m:Str) (apos:Pos) (e f:Expr) (dh:Pos):Prop where
 base:attributeBase o m X.env (eval o X.env)=eval o X.env
 few:((backTo dh (starEach [e,f] X.env)).all (λx => !x.1)&&(backToKw dh (keywordEach [] X.env)).all (λx=>x.1.isSome) && decide (([e,f]:List Expr).length+([]:List Keyword).length+(if([]:List Keyword).isEmpty then 0 else 1)<30))=true
 line:(apos.endLine == dh.line)=true
 trees:backTo dh (starEach [e,f] X.env)=[(false,eval e X.env),(false,eval f X.env)]
section
variable{X:Cx}{af:List (ao×Obj)}{Z:St}{H:Hp}{s:aE}{a:ao}{y d:V}{u r:au}{o:ak V}{A:eY}{E:au->aE->Prop}
end
section
variable{X:Cx}{o e f:Expr}{apos dh:Pos}{td ty tx:TE}
end
section
variable{X:Cx}{af:List (ao×Obj)}{Z:St}{H:Hp}{s:aE}{a:ao}{kvs:List (Key×V)}{A:eY}{E:au->aE->Prop}
end
section
variable{X:Cx}{af:List (ao×Obj)}{Z:St}{H:Hp}{s:aE}{a:ao}{y:V}{u:au}{A:eY}{E:au->aE->Prop}
end
end L2
namespace MK
open PySem PySem.W PySem.Calls PyProof.Rows
variable{P:Params}{h:df}{l:OpenLaw}{n:Nat}
def Ti:∀(ns:List Int) (vs:List au),WellAll P h vs (ns.map WData.int)->IntsAre vs ns:=by
 intro ns
 induction ns with
 |nil=>
  intro vs w;rw[mT] at w;cases w;exact .nil
 |cons n ns ih=>
  intro vs w;rw[cY] at w;cases w with
  |cons a b=>
   cases a;exact .cons _ _ (ih _ b)
def Uw(hn:l.most=some n){args:List WData}{vals:List au}
  (u5:l.row.toRowW.claim.pre args=true) (Gy:WellAll P h vals args) :
  ∃a vs ns,vals=[Value.ref a]/\args=[WData.list (ns.map WData.int)]/\h.get? a=some { cls:=.type "list",data:=.seq vs.toArray}/\IntsAre vs ns/\ns.length<=n:=by
 have hsh:WShape.hasAll [] args [.list .int]=true:=(pre_splitW u5).1;have hc:l.pre.holds [] { args:=args}=true:=(pre_splitW u5).2;obtain⟨d,r,rfl,h1,h2⟩:=hasAllW_cons hsh;obtain rfl:=hasAllW_nil h2;obtain⟨xs,rfl,h3⟩:=hasW_list h1;obtain⟨ns,rfl⟩:=items_int h3;have hlen:ns.length<=n:=by
  unfold OpenLaw.pre at hc;have h4:(WTm.not (.lt (.lit (.int (n:Int))) (.len (.arg 0)))).holds [] { args:=[.list (ns.map .int)]}=true:=by
   have h4:=(holds_andW hc).1;rw[hn] at h4;exact h4
  have h5:=condW_of h4 (w_not (w_lt w_lit (w_len_list (w_arg rfl))));rw[bO] at h5;refine Nat.le_of_not_lt λq=>?_
  have q':(n:Int)<((ns.length:Nat):Int):=by lia
  first
   |(rw[ig q'] at h5;exact cu h5 (by decide))
   |(simp at h5;lia)
 cases Gy with
 |cons w1 w2=>
  cases w2;cases w1 with
  |list ho r9=>exact⟨_,_,ns,rfl,rfl,ho,Ti ns _ r9,hlen⟩
def Ux(l:OpenLaw)(args:List WData):l.row.toRowW.claim.post args (.bool true) args=true:=
 postW_of (r:=l.row.toRowW) (X:=(true == true))
  (show WShape.has [] (.bool true) .bool=true by first|rfl|decide|simp[WShape.has,WShape.arms,WShape.armsAll])
  (show(WTm.eq .res (.lit (.bool true))).value [] { args:=args,res:=some (.bool true),after:=args}=some (.bool (true == true)) from w_eq_bool (w_res rfl) w_lit) rfl
def nK{q:gv}{loose:List Str}{XP:(Str->ak au)->df->Prop}{YP:eZ->df->Prop}{d:DefRec}
  (hn:l.most=some n) (Cf:d.params.defaults=[])
  (call:∀(w:eZ) (s₀ s₁:aE) (mg mb:Str->ak au) (fa:ao) (o:Obj) (pm cd doc:au) (a:ao) (vs:List au) (ns:List Int),Ground q loose [] XP w s₀ mg mb s₁.heap->YP w s₁.heap-> s₁.heap.get? fa=some o->o.data=.func (docDef d.name d.params d.body d.scope pm cd doc)->s₁.heap.CodeRec cd d.name->mg d.name=some (.ref fa)-> s₁.heap.get? a=some { cls:=.type "list",data:=.seq vs.toArray}->IntsAre vs ns->ns.length<=n->s₁.gens=#[]-> codeAny (model l.prog w) callerA (.call (.ref fa) ⟨[.ref a],[]⟩) (λr s'=>r=.ok (.ret (.bool true))/\OldK s₁.heap s'.heap/\s'.os=s₁.os/\AllBare s'.gens) s₁) :
  WalkO q loose XP YP l.row.toRowW d [] (λf vs=>PySem.call f vs):=by
 intro w s₀ s₁ mg mb G Y fa o pm cd doc dV kV ho hd qz hD La hg args vals as u5 hlay hrd Gy K_;obtain rfl:dV=.none:=Dflts.none hD Cf;obtain rfl:kV=.none:=Dflts.noKw hD;obtain⟨a,vs,ns,rfl,rfl,xW,hints,hlen⟩:=Uw hn u5 Gy;refine enter_call (codeAny_mono (call w s₀ s₁ mg mb fa o pm cd doc a vs ns G Y ho (fd_plain hd) qz La xW hints hlen hg) λr s' hq=>?_)
 obtain⟨rfl,h2,h3,h4⟩:=hq;exact⟨.inl ⟨.bool true,.bool true,[],rfl,λ_=>rfl,.bool true,Ux l _,λ_=>⟨List.Pairwise.nil,λ_ hm=>(nomatch hm)⟩⟩,h2,h3,h4⟩
section
variable{prog:gv}{w:eZ}{A:eY}{E:au->aE->Prop}{s:aE}{K:Frag}
end
end MK
namespace L2
open PySem PySem.Spec PyProof.Rows
variable{K:FG}{k:Nat}{a f:ao}{fd:lS}{x qual:Str}{sp:Sp}{ps:List Str}{H H':Hp}
theorem NG:∀{vs:List au} {ns:List Int},IntsAre vs ns->Vals (ns.map V.int) vs
 |_,_,.nil=>.nil
 |_,_,.cons n t h=>.cons ⟨t,rfl⟩ (NG h)
def w5(H:Hp):Prop:=∀b,H b=none\/∃o xs,H b=some (.Y o (.lst xs))
def Vv{P:gv}{w:eZ}{mg mb:Str->ak au}{CX:qk}{fa:ao}{s₁:aE}{vs:List au}{ns:List Int}
  (KX:K.In s₁.heap) (So:s₁.heap.Ns mainGlobals mg) (hb:s₁.heap.Ns builtinsNs mb) (hbb:∀x:Str,x≠"__name__"->mb x=bootBuiltins x) (K8:s₁.heap.NoLimit) (hg:s₁.gens=#[])
  (ha:s₁.heap.get? a=some { cls:=.type "list",data:=.seq vs.toArray}) (hi:IntsAre vs ns) (hl:ns.length<=sizeLine) (hr:eH k callerA)
  (F:∀base:df,K.In base->base.Ns mainGlobals mg->bQ P w K mg base CX k fa fd [x] sp) (Cb:∀(s:aE) (u:au),BindsTo s fd ⟨[u],[]⟩ [(x,u)])
  (wo:∀H:Hp,w5 H->dH K H a (ns.map V.int)->sp [.ref a] H (λv _=>v=.bl true) λ_ _ _=>False)
  (KJ:∀H e s',CX [] H s₁ (λ_ _ _=>False) e s'->False) :
  codeAny (model P w) callerA (.call (.ref fa) ⟨[.ref a],[]⟩) (λr s'=>r=.ok (.ret (.bool true))/\OldK s₁.heap s'.heap/\s'.os=s₁.os/\AllBare s'.gens) s₁:=by
 have rv:=NG hi;have LJ:=hi.length;have core:∀H:Hp,w5 H->dH K H a (ns.map V.int)->kz P w H s₁.heap->(∀b,H b≠none->b=a)->(H a≠none->K.lookup a=none)->
   codeAny (model P w) callerA (.call (.ref fa) ⟨[.ref a],[]⟩) (λr s'=>r=.ok (.ret (.bool true))/\OldK s₁.heap s'.heap/\s'.os=s₁.os/\AllBare s'.gens) s₁:=by
  intro H hO hS cV hA hK;have pX:∀{b:ao} {o:Obj},s₁.heap.get? b=some o->H b=none->(mM s₁.heap H).get? b=some o:=λe n=>Vl e n
  have CH:∀{b:ao} {o:Obj} {es:Array DictEntry} {ep:Nat},s₁.heap.get? b=some o->o.data=.dict es ep->H b=none:=λ{b o es ep} e d=>by
   cases q:H b with
   |none=>rfl
   |some u=>
    have e':b=a:=hA b (by rw[q];simp)
    subst e';rw[ha] at e;cases e;have d':Data.seq vs.toArray _=Data.dict es ep:=d;cases d'
  have GP:∀{b:ao} {m:Str->ak au},s₁.heap.Ns b m->(mM s₁.heap H).Ns b m:=λ{b m} ⟨o,es,ep,e,d,r⟩=>⟨o,es,ep,pX e (CH e d),d,r⟩
  have R4:K.In (mM s₁.heap H):=λb o e=>pX (KX b o e) (by
   cases q:H b with
   |none=>rfl
   |some u=>
    have e':b=a:=hA b (by rw[q];simp)
    subst e';rw[hK (by rw[q];simp)] at e;cases e)
  have hM:Mod K mg (mM s₁.heap H):=⟨R4,GP So,⟨mb,GP hb,hbb⟩,let ⟨mc,h1,h2⟩:=K8;⟨mc,GP h1,h2⟩⟩
  have e0:ur P w K mg (mM s₁.heap H) callerA [] s₁ H:=⟨rfl,hM,λb o e=>WQ e,Nat.le_of_eq (Uq _ _),trivial,λb hb=>cu (show b∈([]:List ao) from hb) (by simp),cV,.of_eq hg⟩
  refine codeAny_mono ((F _ R4 (GP So)).run callerA [] s₁ H ⟨[.ref a],[]⟩ [.ref a] [.ref a] _ _ hr e0 (Cb s₁ (.ref a)) (.cons rfl .nil) (wo H hO hS)) λr s' h=>?_
  cases r with
  |error e=>exact(KJ H e s' h).elim
  |ok fl=>
   cases fl with
   |next=>exact False.elim h
   |brk=>exact False.elim h
   |cont=>exact False.elim h
   |ret u=>
    obtain⟨v,H',os,bare,un,Le,r',q⟩:=h;have q':v=.bl true:=q;subst q';obtain rfl:u=Value.bool true:=r';refine⟨rfl,OldK.of_keep λb o e=>?_,os,bare⟩
    cases q:H b with
    |none=>exact un.keep b o e q (by intro z;exact cu (show b∈([]:List ao) from z) (by simp)) (by simp)
    |some u=>
     rcases hO b with z|⟨ob,xs,z⟩
     .rw[q] at z;cases z
     .have z2:=un.lJ b ob _ z;obtain⟨e1,_⟩:=cV b _ z;obtain⟨e2,_⟩:=Le b _ z2;rw[e] at e1;cases e1;exact e2
 cases hk:K.lookup a with
 |some o=>
  have e:=KX a o hk;rw[ha] at e;cases e;refine core (λ_=>none) (λ_=>.inl rfl) (.inr ⟨_,vs.toArray,_,hk,rfl,rfl,rfl,by rw[gu,LJ];exact hl,by simpa using rv⟩) (λb u z=>by have z':(none:ak HO)=some u:=z;cases z') (λb z=>cu rfl z) λz=>cu rfl z
 |none=>
  refine core (λb=>if b=a then some (.Y { cls:=.type "list",data:=.seq vs.toArray} (.lst (ns.map V.int))) else none) (λb=>?_) (.inl (.inr ⟨{ cls:=.type "list",data:=.seq vs.toArray},aY rfl⟩)) (λb u z=>?_) (λb z=>?_) λ_=>hk
  .by_cases hb:b=a
   .exact .inr ⟨_,_,aY hb⟩
   .exact .inl (bb hb)
  .by_cases hb:b=a
   .have z':=(aY hb).symm.trans z;cases z';subst hb;exact⟨ha,by rw[bO];exact hl,vs,_,rv,ha⟩
   .have z':=(bb hb).symm.trans z;cases z'
  .by_cases hb:b=a
   .exact hb
   .exact cu (bb hb) z
def y6(s:Stmt):Arguments:=match s with
 |.FunctionDef _ a _ _ _ _ _ _ _ _=>a
 |_=>{ posonlyargs:=[],args:=[],vararg:=none,kwonlyargs:=[],kw_defaults:=[],kwarg:=none,defaults:=[]}
noncomputable def tW(s:Stmt):List Stmt:=match s with
 |.FunctionDef _ _ b _ _ _ _ _ _ _=>b
 |_=>[]
noncomputable def du(s:Stmt):Scope:=match s with
 |.FunctionDef _ _ _ _ _ _ sc _ _ _=>sc
 |_=>{ kind:=.function,names:=[],isGenerator:=false,isCoroutine:=false}
abbrev fw:qk:=λ_ _ _ _ _ _=>False
abbrev E0:XK:=λ_ _ _=>False
def CO{X:Cx}:Jn fw X E0:=λ_ _ _ _ _ _ _ h=>h.elim
structure rA (K:FG) (x qual:Str) (st:Stmt) (f:ao) (fd:lS):Prop where
 ex:∃(oc:au) (od:ak ao) (kV doc pm:au) (an:ak ao) (gX ct:au) (osl:Array (ak au)),
  fd=PySem.W.fnOf x qual (y6 st) (tW st) (du st) .none kV doc pm an gX ct/\K.lookup f=some ⟨oc,od,.func fd,osl⟩/\PySem.W.codeIn K gX qual=true
 kp:PySem.W.keepIn K (.ref f)=true
section
variable{P:gv}{w:eZ}{K:FG}{mg:Str->ak au}{base:df}
def rA.ok{st:Stmt}{N:List Str}(F:rA K x qual st f fd)(S:aM N ps (du st))(len:∀vs H Q E,sp vs H Q E->vs.length=ps.length)
  (kN:∀(gX:au) (A:eY) (outer:List Env) (s:aE) (H:Hp) (vs:List V) (Q:VK) (E:XK),eH k (A.deeper (envOfC qual (du st) s.heap.objs.size f gX))->sp vs H Q E-> ∃t,iu (mL fw P w K mg base N qual (du st) f gX A outer s H E).yk (tW st) t/\t { nx:=λ_ H'=>Q .bF H',rt:=Q} (start N vs) H):bQ P w K mg base fw (k+1) f fd ps sp:=by
 obtain⟨oc,od,kV,doc,pm,an,gX,ct,osl,rfl,lk,qz⟩:=F.ex;refine σ lk qz S len λA outer s H vs Q E hr wo=>?_
 obtain⟨t,h,q⟩:=kN gX A outer s H vs Q E hr wo;exact⟨t,h.yk,q⟩
def rA.binds{st:Stmt}(F:rA K x qual st f fd)
  (h:∀(kV doc pm:au) (an:ak ao) (gX ct:au) (us:List au),us.length=ps.length->bindArgs (PySem.W.fnOf x qual (y6 st) (tW st) (du st) .none kV doc pm an gX ct) ⟨us,[]⟩=pure (ps.zip us)):Binds K fd ps []:=by
 obtain⟨oc,od,kV,doc,pm,an,gX,ct,osl,rfl,lk,qz⟩:=F.ex;exact .all (h kV doc pm an gX ct)
def Y3{st:Stmt}{oc:au}{od an:ak ao}{osl:Array (ak au)}{kV doc pm gX ct:au}(l:K.lookup f=some ⟨oc,od,.func (PySem.W.fnOf x qual (y6 st) (tW st) (du st) .none kV doc pm an gX ct),osl⟩)
  (c:PySem.W.codeIn K gX qual=true) (k:PySem.W.keepIn K (.ref f)=true):rA K x qual st f (PySem.W.fnOf x qual (y6 st) (tW st) (du st) .none kV doc pm an gX ct):=⟨⟨oc,od,kV,doc,pm,an,gX,ct,osl,rfl,l,c⟩,k⟩
end
def hu_of{A:eY}(hr:eH k A):A.units+1<cLine:=Nat.lt_of_le_of_lt (Nat.add_le_add_left (by decide:1<=64) _) hr.units
section
variable{X:Cx}
def pv(i:Nat){pos:Pos}(hN:X.N[i]?=some x:=by rfl)(hv:AG X.env.scope x:=by first|exact Or.inl rfl|exact Or.inr (Or.inl rfl)|exact Or.inr (Or.inr rfl))(hd:(x == ("__debug__":Str))=false:=by decide)
  (qz:(x == ("__classdict__":Str))=false:=by decide):PE X (.Name x pos) (qI i):=YK hN hv hd qz
end
def qC{A B:Prop}(h:B):if false=true then A else B:=by
 rw[bb oT];exact h
def qD{A B:Prop}(h:A):if true=true then A else B:=by
 rw[aY rfl];exact h
def aO(H H':Hp):Prop:=∀b o,H b=some o->H' b=some o
def aO.refl(H:Hp):aO H H:=λ_ _ h=>h
def aO.trans{H1 H2:Hp}(a:aO H H1)(b:aO H1 H2):aO H H2:=λc o h=>b c o (a c o h)
def aO.free(e:aO H H'){l:ao}(h:H' l=Option.none):H l=Option.none:=by
 cases q:H l with
 |none=>rfl
 |some o=>
  rw[e l o q] at h;cases h
def aO.seq{xs:List V}(e:aO H H')(h:dH K H a xs):dH K H' a xs:=by
 rcases h with(h|⟨o,h⟩)|h
 .exact .inl (.inl (e _ _ h))
 .exact .inl (.inr ⟨o,e _ _ h⟩)
 .exact .inr h
section
variable{κ:Type}[DecidableEq κ]
end
end L2
set_option maxHeartbeats 4000000
namespace L2
open PySem PySem.Spec PyProof.Rows
variable{env:Env}{names:List (Str×pL)}{x n:Str}{c a:ao}{scope:Scope}{X:Cx}{prog q:gv}{w:eZ}{A:eY}{s:aE}{H:Hp}{fp:List ao}{Fin:List V->Hp->Prop}{wi:TI}{g:TG}{tt:TT}{te:TE}{τ:St}{k j:Nat}{h:df}
noncomputable def kK(env:Env)(names:List (Str×pL)):List (Str×ao):=((names.filter λy=>y.2 == .free).reverse).map λy=>(y.1,(env.cells.lookup y.1).getD 0)
theorem MY{g:Str->ao}{x:Str}:∀{l:List (Str×pL)},(∃k,(x,k)∈l)->(l.map λy=>(y.1,g y.1)).lookup x=some (g x)
 |[],h=>by obtain⟨k,h⟩:=h;cases h
 |(n,k)::r,h=>by
  show List.lookup x ((n,g n)::_)=_;cases hx:x == n with
  |true=>
   have e:x=n:=by simpa using hx
   subst e;simp[pJ]
  |false=>
   simp only[pJ,hx];refine MY (l:=r) ?_;obtain⟨k',h⟩:=h;rcases eX.mp h with e|e
   .cases e;simp at hx
   .exact⟨k',e⟩
theorem MP{g:Str->ao}{x:Str}{c:ao}:∀{l:List (Str×pL)},(l.map λy=>(y.1,g y.1)).lookup x=some c->c=g x/\∃k,(x,k)∈l
 |[],h=>by cases h
 |(n,k)::r,h=>by
  have h:List.lookup x ((n,g n)::(r.map λy=>(y.1,g y.1)))=some c:=h
  cases hx:x == n with
  |true=>
   have e:x=n:=by simpa using hx
   subst e;simp only[pJ,hx] at h;exact⟨(Option.some.inj h).symm,k,qJ⟩
  |false=>
   simp only[pJ,hx] at h;obtain⟨e,k',hk⟩:=MP h;exact⟨e,k',qK _ hk⟩
def Ot(h:(x,NameKind.free)∈names)(hc:env.cells.lookup x=some c):(kK env names).lookup x=some c:=by
 have:=MY (g:=λn=>(env.cells.lookup n).getD 0) (x:=x) (l:=(names.filter λy=>y.2 == .free).reverse) ⟨.free,by simp[h]⟩
 unfold kK;rw[this,hc];rfl
def IM(hf:∀y∈names,y.2=.free->∃c,env.cells.lookup y.1=some c)(h:(kK env names).lookup x=some c):env.cells.lookup x=some c:=by
 obtain⟨e,k,hk⟩:=MP (g:=λn=>(env.cells.lookup n).getD 0) h
 have zK:=jr.mp (G6.mp hk);obtain⟨c',u3⟩:=hf _ zK.1 (by simpa using zK.2)
 have KU:env.cells.lookup x=some c':=u3;rw[e,KU];rfl
theorem Hr{env:Env}:∀(names:List (Str×pL)) (cs:List (Str×ao)),(∀y∈names,y.2=.free->∃c,env.cells.lookup y.1=some c)->
  (forIn names cs (λ(x:Str×pL) (r:List (Str×ao))=>if(x.2 == NameKind.free)=true then(do let a <-cellOf env x.1;pure (ForInStep.yield ((x.1,a)::r))) else(pure (ForInStep.yield r):Sem (ForInStep (List (Str×ao)))))) =
   pure (kK env names++cs)
 |[],cs,_=>by rw[List.forIn_nil];rfl
 |(n,k)::r,cs,h=>by
  rw[List.forIn_cons];cases hk:k == NameKind.free with
  |true=>
   obtain⟨c,hc⟩:=h (n,k) qJ (by simpa using hk)
   have u3:env.cells.lookup n=some c:=hc;have e:cellOf env n=pure c:=by unfold cellOf;rw[u3]
   simp only[hk,aZ,e,pure_bind];rw[Hr r _ λy hy=>h y (qK _ hy)]
   congr 1
   unfold kK;rw[zU];simp[hk,u3]
  |false=>
   simp only[hk,tK,cB,pure_bind];rw[Hr r _ λy hy=>h y (qK _ hy)]
   congr 1
   unfold kK;rw[zU];simp[hk]
def MO(h:∀y∈scope.names,y.2=.free->∃c,env.cells.lookup y.1=some c):closureFor scope env=pure (kK env scope.names):=by
 have:=Hr (env:=env) scope.names [] h;rw[lR] at this;unfold closureFor;show(forIn scope.names [] _ >>= λr=>pure r)=_
 rw[bind_pure];exact this
theorem MT{env:Env}:∀{names:List (Str×pL)} {x:Str},names.lookup x=some .free->
  (names.map λ(n,k)=>if(k == NameKind.free&&env.scope.kind == .function&&env.kindOf n == some .cell) then(n,NameKind.cell) else(n,k)).lookup x=some .cell\/
  (names.map λ(n,k)=>if(k == NameKind.free&&env.scope.kind == .function&&env.kindOf n == some .cell) then(n,NameKind.cell) else(n,k)).lookup x=some .free
 |[],_,h=>by simp at h
 |(n,k)::r,x,h=>by
  have ih:=@MT env r x;show List.lookup x ((if(k == NameKind.free&&env.scope.kind == .function&&env.kindOf n == some .cell)=true then(n,NameKind.cell) else(n,k))::_)=_\/List.lookup x ((if(k == NameKind.free&&env.scope.kind == .function&&env.kindOf n == some .cell)=true then(n,NameKind.cell) else(n,k))::_)=_
  cases hx:x == n with
  |true=>
   simp only[pJ,hx] at h;cases h;by_cases hc:(NameKind.free == NameKind.free&&env.scope.kind == .function&&env.kindOf n == some .cell)=true
   .rw[aY hc];simp[pJ,hx]
   .rw[bb hc];simp[pJ,hx]
  |false=>
   simp only[pJ,hx] at h;by_cases hc:(k == NameKind.free&&env.scope.kind == .function&&env.kindOf n == some .cell)=true
   .rw[aY hc];simp only[pJ,hx];exact ih h
   .rw[bb hc];simp only[pJ,hx];exact ih h
theorem Hs{env:Env}:∀{names:List (Str×pL)} {x:Str} {q:pL},(q=.cell\/q=.free)->(∀y∈names,y.2≠.cell)->
  (names.map λ(n,k)=>if(k == NameKind.free&&env.scope.kind == .function&&env.kindOf n == some .cell) then(n,NameKind.cell) else(n,k)).lookup x=some q->(x,NameKind.free)∈names
 |[],_,_,_,_,h=>by simp at h
 |(n,k)::r,x,q,hq,hn,h=>by
  have ih:=@Hs env r x q hq λy hy=>hn y (qK _ hy)
  have hk:k≠.cell:=hn (n,k) qJ;have h:List.lookup x ((if(k == NameKind.free&&env.scope.kind == .function&&env.kindOf n == some .cell)=true then(n,NameKind.cell) else(n,k))::_)=some q:=h
  cases hx:x == n with
  |true=>
   have e:x=n:=by simpa using hx
   subst e;by_cases hc:(k == NameKind.free&&env.scope.kind == .function&&env.kindOf x == some .cell)=true
   .have hf:k=.free:=by
     simp only[lQ,beq_iff_eq] at hc;exact hc.1.1
    subst hf;exact qJ
   .rw[bb hc] at h;simp only[pJ,hx] at h;have e:k=q:=Option.some.inj h;rcases hq with rfl|rfl
    .exact cu e hk
    .rw[e];exact qJ
  |false=>
   by_cases hc:(k == NameKind.free&&env.scope.kind == .function&&env.kindOf n == some .cell)=true
   .rw[aY hc] at h;simp only[pJ,hx] at h;exact qK _ (ih h)
   .rw[bb hc] at h;simp only[pJ,hx] at h;exact qK _ (ih h)
def iP(X:Cx)(scope:Scope)(M:List Str)(C:ao)(s:aE)(H:Hp)(fp:List ao):Cx:=
 {X with N:=M,s₀:=s,H₀:=H,env:=compEnvC scope (kK X.env scope.names) C X.env,outer:=X.stack,ex:=fp,fn:=λ_=>false,pn:=[],xe:=λ_ _=>False}
noncomputable def iU(k:Nat)(cap:List Nat)(Z:St):St:=List.replicate k none++cap.map λi=>(Z[i]?).join
def qo(X:Cx)(ifs:List Expr)(t:TT):Prop:=
 ∀(af:List (ao×Obj)) (s:aE) (Z:St) (H:Hp) (Q:Bool->Hp->Prop),Inv X af Z H s->t Z H Q->
  wpAny (model X.prog X.w) X.A (forIn ifs true λc r=>if r=true then do let ok <-isTrue c X.env (eval c X.env);pure (ForInStep.yield ok) else pure (ForInStep.yield r)) (TP X af Z Q) X.xe s
def Mh:TT:=λ_ H Q=>Q true H
def vg:qo X [] Mh:=λ_ _ Z H _ I h=>wpAny_tests_nil ⟨H,I,h⟩
def Xb{c:Expr}{t:TT}(hc:PT X c t):qo X [c] t:=λaf s Z H Q I h=>wpAny_tests_one (hc af s Z H Q I h)
def Td{R:Result->aE->Prop}{elt target iter:Expr}{ifs:List Expr}{pos:Pos}{it aP:au}(I:Nat->aE->Prop)
  (turn:∀n s,I n s->wpAny (model prog w) A (pyNext it) (λr s₁=>match r with
   |none=>R (.ok .next) s₁
   |some v=>wpAny (model prog w) A (letOwnedTupleGo target it v) (λ_ s₀=>wpAny (model prog w) A (assign target env v) (λ_ s₂=>
     wpAny (model prog w) A (forIn ifs true λc r=>if r=true then do let ok <-isTrue c env (eval c env);pure (ForInStep.yield ok) else pure (ForInStep.yield r)) (λok s₃=>
      if ok=true then wpAny (model prog w) A (eval elt env) (λx s₄=>
       wpAny (model prog w) A (call (.builtin "list.append") [aP,x]) (λ_ s₅=>∃m,m<n/\I m s₅) (λ_ _=>False) s₄) (λ_ _=>False) s₃
      else ∃m,m<n/\I m s₃) (λ_ _=>False) s₂) (λ_ _=>False) s₀) (λ_ _=>False) s₁) (λ_ _=>False) s)
  (n:Nat) (h:I n s) :
  codeAny (model prog w) A (.compLoop (.ListComp elt [⟨target,iter,ifs,0⟩] scope pos) 0 it aP env) R s:=by
 refine codeAny_loop rfl I (λn s hI=>?_) n h
 show wpAny _ A ((compTurn (.ListComp elt [⟨target,iter,ifs,0⟩] scope pos) 0 it aP env).onRaise (λx=>do noteFrame x env;theTreesLotGoes x)) _ _ s
 refine wpAny_noted ?_;rw[compTurn_list];refine aU (wpAny_standAt (aU (wpAny_mono (turn n s hI) (λr s₁ h₁=>?_) λ_ _ h'=>h'.elim)))
 cases r with
 |none=>exact bW h₁
 |some v=>
  refine aU (wpAny_mono h₁ (λ_ s₀ h₀=>?_) λ_ _ h'=>h'.elim)
  refine aU (wpAny_mono h₀ (λ_ s₂ h₂=>aU (wpAny_mono h₂ (λok s₃ h₃=>?_) λ_ _ h'=>h'.elim)) λ_ _ h'=>h'.elim)
  cases ok with
  |false=>exact bW ⟨rfl,h₃⟩
  |true=>
   exact aU (aU (wpAny_mono h₃ (λx s₄ h₄=>aU (wpAny_mono h₄ (λ_ s₅ h₅=>bW (bW ⟨rfl,h₅⟩)) λ_ _ h'=>h'.elim)) λ_ _ h'=>h'.elim))
def Inv.Dn{af:List (ao×Obj)}{Z:St}{o:HO}(I:Inv X af Z H s)(hn:H a=none)(hy:X.s₀.heap.objs.size<=a)(hL:a≠X.env.locals)(hC:∀x c,X.env.cells.lookup x=some c->c≠a)
  (hP:∀p∈X.pn++af,p.1≠a) (new:cC X.prog X.w (upd H a o) s.heap a o):Inv X af Z (upd H a o) s:=by
 refine⟨I.ok,I.os,I.bare,⟨I.base.keep,I.base.slot,λb ob e n hx=>?_,I.base.there,λb xs e=>?_,λb ob u e=>?_,λb ps e=>?_⟩,I.loc,I.cell,?_,λx c e=>?_,λp hp=>?_,λb u e=>?_,I.len⟩
 .rw[dr (mS (jq (gb e) hy))];exact I.base.free b ob e n hx
 .have z:=I.base.mR b xs e;rw[dr (mH z hn)];exact z
 .have z:=I.base.lJ b ob u e;rw[dr (mH z hn)];exact z
 .obtain⟨m,z⟩:=I.base.mP b ps e;exact⟨m,by rw[dr (mH z hn)];exact z⟩
 .rw[dr (Ne.symm hL)];exact I.free
 .rw[dr (hC x c e)];exact I.iF x c e
 .obtain⟨e,n,r⟩:=I.pin p hp;exact⟨e,by rw[dr (hP p hp)];exact n,r⟩
 .by_cases hb:b=a
  .subst hb;rw[jG] at e;cases e;exact new
  .rw[dr hb] at e;exact(I.cV b u e).oB (λc v _ q=>q) (λc q=>by rw[dr (mH q hn)];exact q) λc xs q=>by rw[dr (mH q hn)];exact q
def lV(J:It)(g:TG)(tt:TT)(te:TE)(τ₀:St)(H1:Hp)(Fin:List V->Hp->Prop):Prop:=
 ∃(n:Nat) (W:Nat->St->List V->Hp->Prop),W 0 τ₀ [] H1/\∀i τ aP H,i<=n->W i τ aP H->
  (J.stop i H/\Fin aP H)\/(i<n/\J.go i H/\∀x H',J.vA i H x H'->g x τ H' λτ2 H2=>tt τ2 H2 λb H3=>if b=true then te τ2 H3 λv H4=>aP.length<sizeLine/\W (i+1) τ2 (aP++[v]) H4 else W (i+1) τ2 aP H3)
structure cg (X:Cx) (scope:Scope) (M:List Str) (k:Nat) (cap:List Nat):Prop where
 kind:scope.kind=.function
 cell:∀y∈scope.names,y.2≠.cell
 free:∀y∈scope.names,y.2=.free->X.env.kindOf y.1=some .cell\/X.env.kindOf y.1=some .free
 names:∀y∈scope.names,y.2=.local -> scope.names.lookup y.1=some .local
 len:M.length=k+cap.length
 JL:∀(j i:Nat) (x:Str),cap[j]?=some i->M[k+j]?=some x->X.N[i]?=some x/\scope.names.lookup x=some .free
section
variable{X:Cx}{af:List (ao×Obj)}{Z:St}{tg elt iter:Expr}{ifs:List Expr}{scope:Scope}{pos:Pos}{M:List Str}{k:Nat}{cap:List Nat}{g:TG}{tt:TT}{te:TE}
def Inv.jA(I:Inv X af Z H s)(ok:cg X scope M k cap):∀y∈scope.names,y.2=.free->∃c,X.env.cells.lookup y.1=some c:=λy hy e=>I.ok.has y.1 (ok.free y hy e)
def Inv.block{s4:aE}{C D:ao}{oD:Obj}{m:Str->ak au}(I:Inv X af Z H s)(ok:cg X scope M k cap)(f2:∀b∈fp,j7 X af H b)(Gq:∀b∈fp,∃o,s.heap.get? b=some o/\∀v,o.data≠.cell v)
  (hC:s.heap.objs.size<=C) (B9:D≠C) (hD:s.heap.objs.size<=D) (old:∀b o,s.heap.get? b=some o->s4.heap.get? b=some o) (os:s4.os=s.os) (gens:s4.gens=s.gens)
  (ns:s4.heap.Ns C m) (hoD:s4.heap.get? D=some oD) (hdD:∀v,oD.data≠.cell v):Inv (iP X scope M C s H fp) [(D,oD)] (iU k cap Z) H s4:=by
 have hf:=I.jA ok;have fr:∀a,s.heap.objs.size<=a->H a=none:=λa ha=>I.cV.fresh ha
 have nfs:∀b∈q8 X.stack,b<s.heap.objs.size:=λb hb=>by
  rcases eX.mp (I.kY b hb) with e|e
  .rw[e];exact I.lt
  .exact Nat.lt_of_not_le λz=>I.yj z e
 have cl:∀x c,(kK X.env scope.names).lookup x=some c->X.env.cells.lookup x=some c:=λx c e=>IM hf e
 refine⟨⟨I.ok.mod,ok.kind,I.ok.glob,I.ok.blt,hC,λx y c e1 e2=>I.ok.inj x y c (cl x c e1) (cl y c e2),λx hx=>?_,λx c e _=>?_,I.ok.hd,I.ok.frames,.inl rfl,λb hb=>?_,I.bs,k_ I.ok.vX I.sz,λb o e hb=>?_,λb hb z=>?_,I.stack,I.qg⟩,os,by rw[gens];exact I.bare,Un.kept old,⟨m,ns,λi x v h1 h2 h3=>?_⟩,λx c e=>?_,fr C hC,λx c e=>I.iF x c (cl x c e),λp hp=>?_,I.cV.kept old,?_⟩
 .have hx:(relabel scope X.env).names.lookup x=some .cell\/(relabel scope X.env).names.lookup x=some .free:=hx;have hm:(x,NameKind.free)∈scope.names:=by
   rcases hx with h|h
   .exact Hs (env:=X.env) (.inl rfl) ok.cell h
   .exact Hs (env:=X.env) (.inr rfl) ok.cell h
  obtain⟨c,hc⟩:=hf _ hm rfl;exact⟨c,Ot hm hc⟩
 .cases e
 .obtain⟨f0,f1,f2,f3,f4,f5⟩:=f2 b hb;obtain⟨ob,eb,_⟩:=Gq b hb;exact⟨mS (jq (gb eb) hC),λx c e=>f4 x c (cl x c e)⟩
 .obtain⟨f0,f1,f2,f3,f4,f5⟩:=f2 b hb;rcases f3 with q|q
  .exact I.ok.sL b o e q
  .exact cu (jq (gb e) (k_ I.ok.vX q)) (oF _)
 .obtain⟨f0,f1,f2,f3,f4,f5⟩:=f2 b hb;rcases eX.mp (I.kY b z) with q|q
  .exact f1 q
  .exact f2 q
 .unfold iU at h2;have hk:¬i<k:=λq=>by
   rw[Mv (by simpa using q),G4] at h2
   split at h2 <;> cases h2
  rw[G3 (by simpa using hk),Mw,kc] at h2
  cases e:cap[i - k]? with
  |none=>rw[e] at h2;cases h2
  |some j=>
   rw[e] at h2;have xQ:(Z[j]?).join=some v:=Option.some.inj h2;have hj:Z[j]?=some (some v):=by
    cases q:Z[j]? with
    |none=>rw[q] at xQ;cases xQ
    |some z=>rw[q] at xQ;simp at xQ;rw[xQ]
   have xU:k+(i - k)=i:=by lia
   obtain⟨hN,Se⟩:=ok.JL (i - k) j x e (by rw[xU];exact h1)
   have hm:(x,NameKind.free)∈scope.names:=PySem.mem_of_lookup Se;have Sk:=ok.free _ hm rfl;obtain⟨mX,hnX,hlX⟩:=I.loc;obtain⟨u,ru,lk⟩:=hlX j x v hN hj (by rcases Sk with q|q;exact .inr (.inl q);exact .inr (.inr q))
   refine⟨u,ru,.inr ⟨MT (env:=X.env) Se,?_⟩⟩;rcases lk with⟨q,_⟩|⟨_,c,hc,lZ⟩
   .rcases Sk with z|z
    .rw[show X.env.kindOf x=some .cell from z] at q;cases q
    .rw[show X.env.kindOf x=some .free from z] at q;cases q
   .exact⟨c,Ot hm hc,lZ.keeps old⟩
 .obtain⟨v,z⟩:=I.cell x c (cl x c e);exact⟨v,z.keeps old⟩
 .have e:p=(D,oD):=by simpa[iP] using hp
  subst e;exact⟨hoD,fr D hD,B9,λz=>cu (jq (nfs D z) hD) (oF _),hdD⟩
 .unfold iU;rw[fe,Mw,bO];exact ok.len.symm
def NH{H2:Hp}{s2:aE}{J:It}{it:ao}{tn:Nat->df->Prop}{RR:au->ao->Result->aE->Prop}{E:au->aE->Prop}(I2:Inv X af Z H2 s2)(hc:X.calm=true)(ok:cg X scope M k cap)
  (T:Turn X.prog X.w X.K tg J fp it tn) (rj:tn 0 s2.heap) (f2:∀b∈fp,j7 X af H2 b)
  (hg:∀C s H fp,PG (iP X scope M C s H fp) tg g) (ht:∀C s H fp,qo (iP X scope M C s H fp) ifs tt) (he:∀C s H fp,PE (iP X scope M C s H fp) elt te)
  (hW:lV J g tt te (iU k cap Z) H2 Fin)
  (hRR:∀D C s' H' aP,Inv X af Z (upd H' D (.lst aP)) s'->j7 X af (upd H' D (.lst aP)) C->(∃m,s'.heap.Ns C m)->H' D=none->Fin aP H'->RR (.ref D) C (.ok .next) s') :
  wpAny (model X.prog X.w) X.A (newList []) (λaP s₃=>wpAny (model X.prog X.w) X.A (newFunctionEnv scope X.env.globals (kK X.env scope.names) [] X.env.qual none .none (some X.env)) (λBK s₄=> codeAny (model X.prog X.w) X.A (.compStart (.ListComp elt [⟨tg,iter,ifs,0⟩] scope pos) 0 (.ref it) aP { BK with scope:=relabel scope X.env}) (RR aP BK.locals) s₄) E s₃) E s2:=by
 refine wpAny_newObj_type (wpAny_newFunctionEnv ok.cell (by intro y hy;simp at hy) (λh₁ hns₁ hsb₁=>?_) ok.kind)
 dsimp only at hns₁ hsb₁ ⊢;generalize KN:s2.heap.push { cls:=.type "list",dict:=none,data:=.seq ([]:List au).toArray}=H3 at hns₁ hsb₁ ⊢;have KL:H3.objs.size=s2.heap.objs.size+1:=by rw[<-KN,Heap.size_push]
 have B9:s2.heap.objs.size≠H3.objs.size:=by rw[KL];exact mS (Dw _)
 have below:∀b,b<s2.heap.objs.size->b≠H3.objs.size/\b≠s2.heap.objs.size:=λb hb=>⟨by rw[KL];exact mS (Nat.lt_succ_of_lt hb),mS hb⟩
 have old:∀b o,s2.heap.get? b=some o->h₁.get? b=some o:=λb o e=>hsb₁.extBut b o (below b (gb e)).1 (jJ _ (KN ▸ jJ _ e))
 have lK:h₁.get? s2.heap.objs.size=some { cls:=.type "list",data:=.seq ([]:List au).toArray 0}:=hsb₁.extBut _ _ B9 (jJ _ (KN ▸ oG _ rfl));have Gq:=T.obj 0 _ rj;have u0:s2.heap.objs.size<=H3.objs.size:=by rw[KL];exact yH _
 obtain⟨N,W,w0,turn⟩:=hW;have SV:tn 0 h₁:=T.keep _ _ _ rj λb _ o e=>old b o e
 have loop:∀s₃:aE,s₃={ s2 with heap:=h₁,toks:=s2.toks+([]:List (Str×au)).length}->
   codeAny (model X.prog X.w) X.A (.compLoop (.ListComp elt [⟨tg,iter,ifs,0⟩] scope pos) 0 (.ref it) (.ref s2.heap.objs.size) (compEnvC scope (kK X.env scope.names) H3.objs.size X.env))
    (RR (.ref s2.heap.objs.size) H3.objs.size) s₃:=by
  rintro s₃ rfl;have I3:Inv (iP X scope M H3.objs.size s2 H2 fp) [(s2.heap.objs.size,{ cls:=.type "list",data:=.seq ([]:List au).toArray 0})] (iU k cap Z) H2 { s2 with heap:=h₁,toks:=s2.toks+([]:List (Str×au)).length}:=
   I2.block ok f2 Gq u0 B9 (cX _) old rfl rfl hns₁ lK (λv z=>by cases z)
  have Kt:∀b∈fp,b≠H3.objs.size/\b≠s2.heap.objs.size:=λb hb=>let ⟨o,e,_⟩:=Gq b hb;below b (gb e)
  have pF:∀{H':Hp} {oD:Obj},(∀b∈fp,H' b=none)->∀b∈fp,j7 (iP X scope M H3.objs.size s2 H2 fp) [(s2.heap.objs.size,oD)] H' b:=λ{H' oD} hn b hb=>by
   obtain⟨f0,f1,f2,f3,f4,f5⟩:=f2 b hb;refine⟨hn b hb,(Kt b hb).1,λz=>?_,.inl hb,λx c e=>f4 x c (IM (I2.jA ok) e),λp hp z=>?_⟩
   .rcases eX.mp (I2.kY b z) with q|q
    .exact f1 q
    .exact f2 q
   .have e:p=(s2.heap.objs.size,oD):=by simpa[iP] using hp
    subst e;exact(Kt b hb).2 z.symm
  refine Td (λn s'=>∃(i:Nat) (τ:St) (aP:List V) (us:List au) (c:Nat) (H':Hp),Vals aP us/\aP.length<=sizeLine/\ Inv (iP X scope M H3.objs.size s2 H2 fp) [(s2.heap.objs.size,{ cls:=.type "list",data:=.seq us.toArray c})] τ H' s'/\tn i s'.heap/\(∀b∈fp,H' b=none)/\n=N - i/\i<=N/\W i τ aP H') ?_ N
   ⟨0,iU k cap Z,[],[],0,H2,.nil,nq _,I3,SV,λb hb=>(f2 b hb).1,rfl,nq _,w0⟩
  rintro n s3 ⟨i,τ,aP,us,c,H',rv,hlen,I,st,fr,rfl,hiN,w⟩;have pinD:=(I.pin (s2.heap.objs.size,{ cls:=.type "list",data:=.seq us.toArray c}) (by simp[iP]))
  rcases turn i τ aP H' hiN w with⟨stop,qn⟩|⟨g_,go,step⟩
  .refine cQ (T.done (iP X scope M H3.objs.size s2 H2 fp) rfl rfl rfl hc i _ s3 τ H' (λ_ _=>False) I (pF fr) st stop) λr s4 ⟨hr,I4⟩=>?_
   subst hr;have sX:=(I4.pin (s2.heap.objs.size,{ cls:=.type "list",data:=.seq us.toArray c}) (by simp[iP]))
   have q_:∀b∈fp,(b∈X.ex\/X.s₀.heap.objs.size<=b)/\b≠X.env.locals/\(∀x c,X.env.cells.lookup x=some c->c≠b)/\∀p∈X.pn++af,p.1≠b:=λb hb=>by
    obtain⟨f0,f1,f2,f3,f4,f5⟩:=f2 b hb;exact⟨f3,f1,f4,f5⟩
   have J1:Inv X af Z H' s4:=I2.BJ (ch:=fp) I4.os I4.base I4.cV I4.bare q_;have young:X.s₀.heap.objs.size<=s2.heap.objs.size:=I2.sz;have apart:∀a,s2.heap.objs.size<=a->a≠X.env.locals/\(∀x c,X.env.cells.lookup x=some c->c≠a)/\∀p∈X.pn++af,p.1≠a:=λa ha=>
    ⟨Nat.ne_of_gt (jq I2.lt ha),λx c e z=>by
     obtain⟨v,q⟩:=I2.cell x c e;exact cu (jq q.lt (by rw[z];exact ha)) (oF _),λp hp z=>cu (jq (gb (I2.pin p hp).1) (by rw[z];exact ha)) (oF _)⟩
   have aD:=apart _ (cX _);have aC:=apart _ u0;have J2:Inv X af Z (upd H' s2.heap.objs.size (.lst aP)) s4:=J1.Dn sX.2.1 young aD.1 aD.2.1 aD.2.2 ⟨hlen,us,c,rv,sX.1⟩;obtain⟨m,hn,_⟩:=I4.loc;have hCn:H' H3.objs.size=none:=I4.free;refine hRR _ _ s4 H' aP J2 ⟨?_,aC.1,I2.yj u0,.inr (k_ young u0),aC.2.1,aC.2.2⟩ ⟨m,hn⟩ sX.2.1 qn;rw[dr (Ne.symm B9)];exact hCn
  .refine cQ (T.item (iP X scope M H3.objs.size s2 H2 fp) rfl rfl rfl hc i _ s3 τ H' (λ_ _=>False) I (pF fr) st go) λr s4 ⟨u,hr,h4⟩=>?_
   subst hr;refine cQ h4 λ_ s5 hh=>?_
   obtain⟨x,H5,I5,r5,y5,yC,Kv⟩:=hh;have Hh:=I5.pinned (pF Kv) (T.obj _ _ yC);refine cQ (hg _ _ _ _ _ s5 τ H5 x u _ Hh r5 (step x H5 y5)) λ_ s6 hh=>?_
   obtain⟨τ6,H6,I6,q6⟩:=hh;refine cQ (ht _ _ _ _ _ s6 τ6 H6 _ I6 q6) λb s7 hh=>?_
   obtain⟨H7,I7,q7⟩:=hh;have sH:∀{s':aE} {τ':St} {Hn:Hp},Inv (iP X scope M H3.objs.size s2 H2 fp) ([(s2.heap.objs.size,{ cls:=.type "list",data:=.seq us.toArray c})]++Bj fp s5.heap) τ' Hn s'->tn (i+1) s'.heap/\∀b∈fp,Hn b=none:=λ{s' τ' Hn} I'=>by
    refine⟨T.keep _ _ _ yC λb hb o e=>(I'.pin (b,o) (ir _ (ir _ (DL hb e)))).1,λb hb=>?_⟩
    obtain⟨o,e,d⟩:=T.obj _ _ yC b hb;exact(I'.pin (b,o) (ir _ (ir _ (DL hb e)))).2.1
   cases b with
   |false=>
    rw[bb oT] at q7;show ∃m,m<N - i/\_;obtain⟨st7,Kw⟩:=sH I7;exact⟨N - (i+1),by lia,i+1,τ6,aP,us,c,H7,rv,hlen,I7.iK,st7,Kw,rfl,g_,q7⟩
   |true=>
    rw[aY rfl] at q7;show wpAny _ _ (eval elt _) _ _ s7;refine cQ (he _ _ _ _ _ s7 τ6 H7 _ I7 q7) λv s8 hh=>?_
    obtain⟨y,H8,I8,r8,hl8,w8⟩:=hh;obtain⟨st8,fr8⟩:=sH I8;have mr:=(I8.pin (s2.heap.objs.size,{ cls:=.type "list",data:=.seq us.toArray c}) (by simp[iP]))
    have hul:=rv.length;refine append_at (hsz:=by show us.toArray.size<=sizeLine;rw[gu,<-hul];exact hlen) mr.1 λh9 SQ e9=>?_
    have e9':h9.get? s2.heap.objs.size=some { cls:=.type "list",data:=.seq (us++[v]).toArray (c+1)}:=by rw[e9,List.push_toArray]
    have Ta:=I8.iK;have B_:s2.heap.objs.size≠(iP X scope M H3.objs.size s2 H2 fp).env.locals:=mr.2.2.1;have nx:∀(b:ao),H8 b≠none->b≠s2.heap.objs.size:=λb hb z=>hb (by rw[z];exact mr.2.1)
    refine⟨N - (i+1),by lia,i+1,τ6,aP++[y],us++[v],c+1,H8,rv.append (.cons r8 .nil),by rw[fe,lC];exact hl8,?_,?_,fr8,rfl,g_,w8⟩
    .have I9:Inv (iP X scope M H3.objs.size s2 H2 fp) [] τ6 H8 s8:=Ta.kq (λp hp=>cu hp (by simp))
     have S_:Inv (iP X scope M H3.objs.size s2 H2 fp) [] τ6 H8 { s8 with heap:=h9}:=I9.turned (t':=s8.toks) (λb o hb e=>(SQ.2 b hb).trans e) mr.2.1 B_ (.inr (cX _))
      (λx cc e z=>by
       obtain⟨v',q⟩:=I2.cell x cc (IM (I2.jA ok) e);exact cu (jq q.lt (by rw[z];exact cX _)) (oF _)) (λp hp=>cu hp (by simp[iP]))
     refine S_.kq λp hp=>?_
     have e:p=(s2.heap.objs.size,{ cls:=.type "list",data:=.seq (us++[v]).toArray (c+1)}):=by simpa using hp
     subst e;exact⟨e9',mr.2.1,B_,mr.2.2.2.1,λv' z=>by cases z⟩
    .exact T.keep _ _ _ st8 λb hb o e=>SQ.extBut b o (Kt b hb).2 e
 exact codeAny_compStart_list (loop _ rfl) (T.self _ 0 _ _ _ SV (loop _ rfl))
def tI(wi:TI)(g:TG)(tt:TT)(te:TE)(k:Nat)(cap:List Nat):TE:=λZ H Q=>wi Z H λJ H1=>lV J g tt te (iU k cap Z) H1 λaP H'=>∀l,H' l=none->Q (.ref l) (upd H' l (.lst aP))
def Xc(hc:X.calm=true)(ok:cg X scope M k cap)(hi:PI X tg iter wi)
  (hg:∀C s H fp,PG (iP X scope M C s H fp) tg g) (ht:∀C s H fp,qo (iP X scope M C s H fp) ifs tt) (he:∀C s H fp,PE (iP X scope M C s H fp) elt te)
  (hs:∀x,foldedSetIterable iter X.env x=pure x:=by intro _;rfl):PE X (.ListComp elt [⟨tg,iter,ifs,0⟩] scope pos) (tI wi g tt te k cap):=by
 intro af s Z H Q I h;rw[eval_ListComp];refine wpAny_comprehension_free (use:=none) rfl hs (MO (I.jA ok)) ok.kind ok.names (cQ (hi af s Z H _ I h) λv s1 h1=>cQ h1 λGF s2 h2=>?_)
 obtain⟨it,fp,tn,J,H2,e,I2,T,rj,f2,hW⟩:=h2;subst e;refine NH (RR:=λaP C=>compPost (model X.prog X.w) X.A X.xe none (EP X af Z Q) aP C) I2 hc ok T rj f2 hg ht he hW ?_
 intro D C s' H' aP I' fC ⟨m,hn⟩ hD hq;refine⟨m,hn,λh' sb=>?_⟩
 obtain⟨f0,f1,f2,f3,f4,f5⟩:=fC;exact⟨.ref D,_,I'.turned (t':=s'.toks) (λb o hb e=>(sb.2 b hb).trans e) f0 f1 f3 f4 f5,rfl,hq D hD⟩
def C0(wi:TI)(g:TG)(tt:TT)(te:TE)(k:Nat)(cap:List Nat)(i:Nat):TS:=λD Z H=>tI wi g tt te k cap Z H λv H'=>D.nx (Z.set i (some v)) H'
def Pj{i:Nat}{px oA:Pos}(hc:X.calm=true)(ok:cg X scope M k cap)(hN:X.N.Nodup)(xU:X.N[i]?=some x)(hx:Loc X.env.scope x)(hi:PI X tg iter wi)
  (hg:∀C s H fp,PG (iP X scope M C s H fp) tg g) (ht:∀C s H fp,qo (iP X scope M C s H fp) ifs tt) (he:∀C s H fp,PE (iP X scope M C s H fp) elt te)
  (Co:swapsWith (.ListComp elt [⟨tg,iter,ifs,0⟩] scope pos) (some (.Name x px)) oA.line X.env=pure true)
  (hs:∀x,foldedSetIterable iter X.env x=pure x:=by intro _;rfl) (hf:X.fn x=true\/X.env.scope.names.lookup x=some .local := by first|exact .inl rfl|exact .inr rfl|assumption) :
  PS X (.Assign [.Name x px] (.ListComp elt [⟨tg,iter,ifs,0⟩] scope pos) oA) (C0 wi g tt te k cap i):=by
 intro af s Z H D I h;rw[exec_Assign_Name_used _ _ _ _ Co];refine aU (wpAny_standAt (aU ?_));show wpAny _ X.A (do let _ <-comprehension (.ListComp elt [⟨tg,iter,ifs,0⟩] scope pos) scope X.env _ (newList []) false (eval iter X.env) (some (assign (.Name x px) X.env))) _ _ s
 refine aU (wpAny_mono (wpAny_comprehension_free (use:=some (assign (.Name x px) X.env)) (Q:=λ_ s'=>SP X af D .next s') rfl hs (MO (I.jA ok)) ok.kind ok.names (cQ (hi af s Z H _ I h) λv s1 h1=>cQ h1 λGF s2 h2=>?_)) (λ_ s' hq=>bW (bW hq)) λ_ _ e=>e)
 obtain⟨it,fp,tn,J,H2,e,I2,T,rj,f2,hW⟩:=h2;subst e;refine NH (RR:=λaP C=>compPost (model X.prog X.w) X.A X.xe (some (assign (.Name x px) X.env)) (λ_ s'=>SP X af D .next s') aP C) I2 hc ok T rj f2 hg ht he hW ?_
 intro D' C s' H' aP I' fC ⟨m,hn⟩ hD hq;obtain⟨f0,f1,f2,f3,f4,f5⟩:=fC;show wpAny _ X.A (assign (.Name x px) X.env (.ref D')) _ _ _;refine wpAny_assign_Name (Ny I' hN xU hx (v:=.ref D') rfl (λCZ S8 hh=>?_) hf)
 obtain⟨a,sb,ha⟩:=hh;have hCa:C≠a:=by
  rcases ha with e|e
  .rw[e];exact f1
  .exact λz=>f4 _ _ e z.symm
 refine⟨m,hn.sameBut sb hCa,λh' sb'=>⟨_,_,S8.turned (t':=CZ.toks) (λb o hb e=>(sb'.2 b hb).trans e) f0 f1 f3 f4 f5,hq D' hD⟩⟩
end
noncomputable def xI(c:Nat):Str:=⟨#[c]⟩
def Uy{K:FG}{xs:List V}(Pv:Nat->St->List V->Hp->Prop)(h0:Pv 0 τ [] H)(hl:∀i τ aP H,i<=xs.length->Pv i τ aP H->dH K H a xs)
  (hs:∀i x τ aP H,xs[i]?=some x->Pv i τ aP H->g x τ H λτ2 H2=>tt τ2 H2 λb H3=>if b=true then te τ2 H3 λv H4=>aP.length<sizeLine/\Pv (i+1) τ2 (aP++[v]) H4 else Pv (i+1) τ2 aP H3)
  (hd:∀τ aP H,Pv xs.length τ aP H->Fin aP H):lV (wY K a) g tt te τ H Fin:=by
 refine⟨xs.length,Pv,h0,λi τ aP H hi p=>?_⟩
 have q:=hl i τ aP H hi p;by_cases g_:i<xs.length
 .refine .inr ⟨g_,⟨xs,xs[i],q,by simp[g_]⟩,λx H' y=>?_⟩
  obtain⟨e,y⟩:=y;subst e;exact hs i x τ aP _ (y xs q) p
 .have e:i=xs.length:=by lia
  subst e;exact .inl ⟨⟨xs,q,cX _⟩,hd τ aP H p⟩
def M7{lo:Int}{n:Nat}(Pv:Nat->St->List V->Hp->Prop)(h0:Pv 0 τ [] H)
  (hs:∀i τ aP H,i<n->Pv i τ aP H->g (.int (lo+i)) τ H λτ2 H2=>tt τ2 H2 λb H3=>if b=true then te τ2 H3 λv H4=>aP.length<sizeLine/\Pv (i+1) τ2 (aP++[v]) H4 else Pv (i+1) τ2 aP H3)
  (hd:∀τ aP H,Pv n τ aP H->Fin aP H):lV (tM lo n) g tt te τ H Fin:=by
 refine⟨n,Pv,h0,λi τ aP H hi p=>?_⟩
 by_cases g_:i<n
 .refine .inr ⟨g_,g_,λx H' y=>?_⟩
  obtain⟨e,y⟩:=y;subst e y;exact hs i τ aP _ g_ p
 .have e:i=n:=by lia
  subst e;exact .inl ⟨cX _,hd τ aP H p⟩
noncomputable def Pk(names outer:List (Str×pL))(N M:List Str)(k:Nat)(cap:List Nat):Bool:=
 names.all (λy=>y.2 != .cell)&&(names.all (λy=>y.2 != .free || (outer.lookup y.1 == some .cell || outer.lookup y.1 == some .free))&&(names.all (λy=>y.2 != .local || names.lookup y.1 == some .local) && (M.length == k+cap.length&&(List.range cap.length).all (λj=>match cap[j]?,M[k+j]? with|some i,some x=>N[i]? == some x&&names.lookup x == some .free|_,_=>true))))
def cg.of{M:List Str}{cap:List Nat}(outer:List (Str×pL))(N:List Str)(h:Pk scope.names outer N M k cap=true)(ho:X.env.scope.names=outer:=by rfl)(hN:X.N=N:=by rfl)(hk:scope.kind=.function:=by rfl):cg X scope M k cap:=by
 unfold Pk at h;simp only[lQ,nr,Bool.or_eq_true,bne_iff_ne,ne_eq,beq_iff_eq] at h;obtain⟨h1,h2,h3,h4,h5⟩:=h;refine⟨hk,h1,λy hy e=>?_,λy hy e=>?_,h4,λj i x e1 e2=>?_⟩
 .rcases h2 y hy with z|z
  .exact cu e z
  .show X.env.scope.names.lookup y.1=_\/X.env.scope.names.lookup y.1=_;rw[ho];exact z
 .rcases h3 y hy with z|z
  .exact cu e z
  .exact z
 .have hj:j<cap.length:=(iA.mp e1).1;have:=h5 j (rn.mpr hj);rw[e1,e2] at this;simp only[lQ,beq_iff_eq] at this;rw[hN];exact this
section
variable{X:Cx}
def Y4:hX X (compareOp .Is) (λx y H Q=>∃a b,x=.bl a/\y=.bl b/\Q (.bl (a == b)) H):=by
 intro af s Z H x y v u Q I rx ry h;obtain⟨a,b,rfl,rfl,q⟩:=h;cases rx;cases ry;exact is_bool (vP I q rfl)
def Xd:hX X (compareOp .IsNot) (λx y H Q=>∃a b,x=.bl a/\y=.bl b/\Q (.bl (a != b)) H):=by
 intro af s Z H x y v u Q I rx ry h;obtain⟨a,b,rfl,rfl,q⟩:=h;cases rx;cases ry;exact isnot_bool (vP I q rfl)
def ER(K:FG)(H:Hp):V->String->Prop
 |.bF,n=>n="NoneType"
 |.bl _,n=>n="bool"
 |.int _,n=>n="int"
 |.str _,n=>n="str"
 |.ref a,n=>(n="list"/\∃xs,dH K H a xs)\/(n="tuple"/\∃xs,iB K H a xs)
 |_,_=>False
noncomputable def lN(k T:String):Bool:=k == T || (k == "bool" && T == "int")
def Vw:c7 X (.builtin "isinstance") (λxs H Q=>∃x k T,xs=[x,.ty T]/\ER X.K H x k/\(T="int"\/T="str"\/T="bool"\/T="list"\/T="tuple")/\Q (.bl (lN k T)) H):=by
 intro af s Z H xs us Q I r h;obtain⟨x,k,T,rfl,hk,hT,q⟩:=h;obtain⟨u,w',rfl,rx,ry⟩:=vals2 r;cases ry;have fin:∀b,b=lN k T->EP X af Z Q (.bool b) s:=λb e=>vP I q e.symm
 have dz:∀b,b=lN k T->EP X af Z Q (.bool b) { s with toks:=s.toks+1}:=λb e=>vP (I.tok _) q e.symm
 cases x with
 |bF=>
  cases rx;have hk:k="NoneType":=hk;subst hk;rcases hT with rfl|rfl|rfl|rfl|rfl
  .exact IsiPair.NoneType_int (dz _ (by decide))
  .exact IsiPair.NoneType_str (dz _ (by decide))
  .exact IsiPair.NoneType_bool (dz _ (by decide))
  .exact IsiPair.NoneType_list (dz _ (by decide))
  .exact IsiPair.NoneType_tuple (dz _ (by decide))
 |bl b=>
  cases rx;have hk:k="bool":=hk;subst hk;rcases hT with rfl|rfl|rfl|rfl|rfl
  .exact IsiPair.bool_int (fin _ (by decide))
  .exact IsiPair.bool_str (dz _ (by decide))
  .exact IsiPair.bool_bool (fin _ (by decide))
  .exact IsiPair.bool_list (dz _ (by decide))
  .exact IsiPair.bool_tuple (dz _ (by decide))
 |int i=>
  obtain⟨t,rfl⟩:=rx;have hk:k="int":=hk;subst hk;rcases hT with rfl|rfl|rfl|rfl|rfl
  .exact IsiPair.int_int (fin _ (by decide))
  .exact IsiPair.int_str (dz _ (by decide))
  .exact IsiPair.int_bool (dz _ (by decide))
  .exact IsiPair.int_list (dz _ (by decide))
  .exact IsiPair.int_tuple (dz _ (by decide))
 |str z=>
  obtain⟨t,rfl⟩:=rx;have hk:k="str":=hk;subst hk;rcases hT with rfl|rfl|rfl|rfl|rfl
  .exact IsiPair.str_int (dz _ (by decide))
  .exact IsiPair.str_str (fin _ (by decide))
  .exact IsiPair.str_bool (dz _ (by decide))
  .exact IsiPair.str_list (dz _ (by decide))
  .exact IsiPair.str_tuple (dz _ (by decide))
 |ref a=>
  cases rx;rcases hk with⟨hk,ys,hs⟩|⟨hk,ys,hs⟩
  .subst hk;obtain⟨aA,_,⟨o,n,e,hc,_⟩,_⟩:=I.list hs;rcases hT with rfl|rfl|rfl|rfl|rfl
   .exact IsiPair.list_int e hc (dz _ (by decide))
   .exact IsiPair.list_str e hc (dz _ (by decide))
   .exact IsiPair.list_bool e hc (dz _ (by decide))
   .exact IsiPair.list_list e hc (fin _ (by decide))
   .exact IsiPair.list_tuple e hc (dz _ (by decide))
  .subst hk;obtain⟨aA,_,⟨o,e,hc,_⟩,_⟩:=I.tuple hs;rcases hT with rfl|rfl|rfl|rfl|rfl
   .exact IsiPair.tuple_int e hc (dz _ (by decide))
   .exact IsiPair.tuple_str e hc (dz _ (by decide))
   .exact IsiPair.tuple_bool e hc (dz _ (by decide))
   .exact IsiPair.tuple_list e hc (dz _ (by decide))
   .exact IsiPair.tuple_tuple e hc (fin _ (by decide))
 |zx _=>exact False.elim hk
 |zD _=>exact False.elim hk
 |ty _=>exact False.elim hk
def BF{n:String}{pos:Pos}(hg:Gl X x)(hm:X.mg x=none)(hv:bootBuiltins x=some (.type n))(hn:x≠"__name__":=by decide)(hd:(x == ("__debug__":Str))=false:=by decide):PE X (.Name x pos) (tC (.ty n)):=
 WT hg hm hv rfl hn hd
def Tx(aA:List au)(bs:List Bool)(hv:Vals (bs.map V.bl) aA):TruthOf prog w A (λi v=>aA.toArray[i]?=some v) (λi=>bs.getD i false):=by
 intro i v s Q E hP hQ;have R5:aA[i]?=some v:=by simpa using hP
 have hl:=hv.length;rw[bO] at hl;have hi:i<aA.length:=(iA.mp R5).1;have hb:(bs.map V.bl)[i]?=some (.bl bs[i]):=by simp[show i<bs.length by lia]
 obtain⟨u,hu,ru⟩:=hv.get hb;rw[R5] at hu;cases hu;cases ru;have e:bs.getD i false=bs[i]:=by simp[show i<bs.length by lia]
 have R6:Q (bs.getD i false) s:=hQ;rw[e] at R6;exact wpAny_truthy_bool R6
def Uz(bs:List Bool):(List.range bs.length).any (λi=>bs.getD i false)=bs.any id:=by
 rw[uj,zV,zV];constructor
 .rintro⟨i,hi,h⟩;have hi:=rn.mp hi;simp[hi] at h;exact⟨bs[i],vw hi,h⟩
 .rintro⟨b,hb,h⟩;obtain⟨i,hi,e⟩:=Dx.mp hb;refine⟨i,rn.mpr hi,?_⟩;simp[hi];rw[e];exact h
def UA(hc:X.calm=true):c7 X (.builtin "any") (λxs H Q=>∃(a:ao) (bs:List Bool),xs=[.ref a]/\dH X.K H a (bs.map V.bl)/\Q (.bl (bs.any id)) H):=by
 intro af s Z H xs us Q I r h;obtain⟨a,bs,rfl,hs,q⟩:=h;obtain⟨u,rfl,ru⟩:=vals1 r;cases ru;obtain⟨aA,rv,p,hz⟩:=I.list hs;have hl:=rv.length;rw[bO] at hl;refine call_any_walk (wpAny_pyIter_list p.isList ?_);have ib:a≠s.heap.objs.size:=by obtain⟨o,n,e,_⟩:=p;exact mS (gb e)
 refine⟨s.heap.objs.size,_,_,aA.toArray.size,_,_,λi=>bs.getD i false,rfl,Walks.list (A:=X.A.in1) (show X.A.in1.handled=none from I.ok.hd hc) _ a ib aA.toArray,⟨⟨_,oG _ rfl,rfl,rfl⟩,?_⟩,Tx aA bs rv,λh' tk hk=>?_⟩
 .exact p.isList.at λo e=>jJ _ e
 .have e1:aA.toArray.size=bs.length:=by rw[gu,<-hl]
  refine⟨.bl (bs.any id),H,I.kept (h':=h') (t':=tk) (λb o e=>hk b o (λz=>cu (jq (gb e) (Nat.le_of_eq (i3.mp z).symm)) (oF _)) (jJ _ e)),?_,q⟩
  show Value.bool _=Value.bool _;rw[e1,Uz]
end
structure bU (K:FG) (mg:Str->ak au) (x:Str) (st:Stmt) (f:ao) (fd:lS) (ps:List Str):Prop where
 fn:rA K x x st f fd
 mg:mg x=some (.ref f)
 bd:Binds K fd ps []
section
variable{X:Cx}{k:Nat}{f:ao}{fd:lS}{ps:List Str}{sp:Sp}{x:Str}{p pos:Pos}{e:Expr}{es:List Expr}{t:TA}{st:Stmt}
def wD(D:bU X.K X.mg x st f fd ps)(F:bQ X.prog X.w X.K X.mg X.base fw k f fd ps sp)(hr:eH k X.A)(ha:PA X (e::es) t)(hg:Gl X x:=by rfl)(o_:(x == ("__debug__":Str))=false:=by decide)
  (he:starEach (e::es) X.env=(false,eval e X.env)::starEach es X.env:=by rfl) (kl:(backTo pos (starEach es X.env)).any (·.1)=false:=by rfl) :
  PE X (.Call (.Name x p) (e::es) [] pos) (qh sp [] E0 t):=W5 F hr hg D.mg D.fn.kp D.bd .nil CO ha o_ he kl
end
section
variable{X:Cx}{a b:Expr}{rest:List Expr}{pos:Pos}{ta tb:TE}{tA tB:TT}
end
def aO.put{H':Hp}{o:HO}(s:aO H H')(h:H' a=none):aO H (upd H' a o):=λb u e=>by
 have z:=s b u e;rw[dr (mH z h)];exact z
def uE{o:HO}(h:H a=none):aO H (upd H a o):=(aO.refl H).put h
def Ou{α:Type}{xs:List α}{k:Int}(d:α)(h0:0<=k)(hk:k<xs.length):dO xs k=some (xs.getD k.toNat d):=by
 have zK:k.toNat<xs.length:=by lia
 have e:xs[k.toNat]?=some (xs.getD k.toNat d):=by simp[zK]
 have z:=o5 e
 rwa[show((k.toNat:Nat):Int)=k by lia] at z
def Jo:bootBuiltins "int"=some (.type "int"):=by decide +kernel
def QH:bootBuiltins "str"=some (.type "str"):=by decide +kernel
def xi:bootBuiltins "list"=some (.type "list"):=by decide +kernel
def Ia:bootBuiltins "tuple"=some (.type "tuple"):=by decide +kernel
def Bk:bootBuiltins "isinstance"=some (.builtin "isinstance"):=by decide +kernel
def Y5:bootBuiltins "any"=some (.builtin "any"):=by decide +kernel
def jV:bootBuiltins "len"=some (.builtin "len"):=by decide +kernel
def QI{n:Nat}(h:n<=1000):n<=sizeLine:=k_ h (by decide)
noncomputable def oz(h:df)(as:List ao):FG:=as.filterMap λa=>(h.get? a).map λo=>(a,o)
def M8:∀{as:List ao},a∈as->(oz h as).lookup a=h.get? a:=by
 intro as
 induction as with
 |nil=>intro m;cases m
 |cons b r ih=>
  intro m;unfold oz;rw[yG];cases e:h.get? b with
  |none=>
   dsimp only[Option.map];by_cases q:a=b
   .subst q;by_cases m':a∈r
    .exact ih m'
    .rw[e];clear ih m
     induction r with
     |nil=>rfl
     |cons c r ih=>
      rw[yG];have q2:a≠c:=λz=>m' (z ▸ .head _)
      cases e2:h.get? c with
      |none=>exact ih λz=>m' (.tail _ z)
      |some o=>dsimp only[Option.map];rw[pJ,beq_false_of_ne q2];exact ih λz=>m' (.tail _ z)
   .exact ih ((eX.1 m).resolve_left q)
  |some o=>
   dsimp only[Option.map];rw[pJ];by_cases q:a=b
   .subst q;rw[lU];exact e.symm
   .rw[beq_false_of_ne q];exact ih ((eX.1 m).resolve_left q)
def snap(h:df):FG:=oz h (List.range h.objs.size)
def HE{o:Obj}(e:h.get? a=some o):(snap h).lookup a=some o:=(M8 (rn.2 (gb e))).trans e
def Xe:(snap h).In h:=λa o e=>by
 have m:a∈List.range h.objs.size:=by
  apply oV;intro m;have:∀as:List ao,a∉as->(oz h as).lookup a=none:=by
   intro as
   induction as with
   |nil=>intro _;rfl
   |cons b r ih=>
    intro m;unfold oz;rw[yG];have q2:a≠b:=λz=>m (z ▸ .head _)
    cases e2:h.get? b with
    |none=>exact ih λz=>m (.tail _ z)
    |some o=>dsimp only[Option.map];rw[pJ,beq_false_of_ne q2];exact ih λz=>m (.tail _ z)
  rw[snap,this _ m] at e;cases e
 exact(M8 m).symm.trans e
noncomputable def sA(n:Str):Stmt->Bool
 |.FunctionDef m _ _ _ _ _ _ _ _ _=>m == n
 |_=>false
noncomputable def Bl(n:Str):List Stmt->Nat->Bool
 |[],_=>true
 |s::r,0=>sA n s&&r.all λs => !sA n s
 |s::r,j+1 => !sA n s&&Bl n r j
def Tz{x:Stmt}:∀{l:List Stmt} {j:Nat},Bl n l j=true->l[j]?=some x->l.filter (sA n)=[x]:=by
 intro l
 induction l with
 |nil=>intro j _ h;cases h
 |cons s r ih=>
  intro j c h;cases j with
  |zero=>
   obtain⟨c1,c2⟩:=Bool.and_eq_true_iff.1 c;cases h;rw[List.filter_cons_of_pos c1,List.filter_eq_nil_iff.2 λy hy z=>by have:=nr.1 c2 y hy;rw[z] at this;cases this]
  |succ j=>
   obtain⟨c1,c2⟩:=Bool.and_eq_true_iff.1 c;rw[List.filter_cons_of_neg (by intro z;rw[z] at c1;cases c1)]
   exact ih c2 h
def Y6{m:Str}{a:Arguments}{b:List Stmt}{sc:Scope}{r:ak Expr}{y z t}{pos:Pos}(c:Bl n q.main.body j=true)(h:q.main.body[j]?=some (.FunctionDef m a b [] r [] sc y z pos))
  (hd:a.defaults=[]) (hk:a.kwonlyargs=[]) (zL:a.kw_defaults=[]) (ht:t=(a,b,sc)):∃p,(⟨n,t.1,t.2.1,t.2.2,p⟩:DefRec)∈recsOf q:=by
 subst ht;have f:=Tz c h;have e:(m == n)=true:=by
  have:Stmt.FunctionDef m a b [] r [] sc y z pos∈q.main.body.filter (sA n):=by rw[f];exact .head _
  exact(jr.1 this).2
 cases(beq_iff_eq.1 e:m=n);refine⟨pos,wQ.2 ⟨_,qM h,?_⟩⟩;have g:q.theDef n=some (a,b,sc):=by
  unfold Program.theDef;split
  .rename_i hq;cases hq.symm.trans f;rfl
  .rename_i hq;exact(hq _ _ _ _ _ _ _ _ f).elim
 dsimp only;rw[g];dsimp only;rw[hd,hk,zL];rfl
def Xf{L:List Str}{me}{mg mb:Str->ak au}(T:Top q L me mg mb h){st:Stmt}(hr:∃p,(⟨n,y6 st,tW st,du st,p⟩:DefRec)∈recsOf q):
  ∃f fd,mg n=some (.ref f)/\rA (snap h) n n st f fd:=by
 obtain⟨p,hr⟩:=hr;obtain⟨a,o,pm,code,doc,hm,ho,hd,hc⟩:=T.fn _ hr;obtain⟨c,oc,vs,t,rfl,Gx,hdc,hv⟩:=hc;obtain⟨k1,k2,k3,k4⟩:=o;cases(show k3=_ from hd);refine⟨a,_,hm,Y3 (oc:=k1) (od:=k2) (osl:=k4) (an:=none) (ct:=.none) (kV:=.none) (HE ho) ?_ ?_⟩
 .unfold PySem.W.codeIn;dsimp only;rw[HE Gx];obtain⟨l1,l2,l3,l4⟩:=oc;cases(show l3=_ from hdc);rw[<-yI] at hv;dsimp only
  match hq:vs.toList,hv with
  |_::_::_,hv=>cases hv;exact lU n
 .unfold PySem.W.keepIn;dsimp only;rw[HE ho]
def tJ{l:PySem.W.OpenLaw}{n:Nat}{loose:List Str}{XP:(Str->ak au)->df->Prop}{YP:eZ->df->Prop}{d:DefRec}{CX:qk}{sp:FG->Sp}
  (hn:l.most=some n) (Gu:n<=sizeLine) (Cf:d.params.defaults=[]) (hr:eH k callerA)
  (F:∀(w:eZ) (me) (mg mb:Str->ak au) (fa:ao) (h:df),Top q (PySem.W.looseW q loose) me mg mb h->mg d.name=some (.ref fa)-> ∃fd:lS,(∀(s:aE) (u:au),BindsTo s fd ⟨[u],[]⟩ [(x,u)])/\ ∀base:df,bQ l.prog w (snap h) mg base CX k fa fd [x] (sp (snap h)))
  (wo:∀(K:FG) (H:Hp) (a:ao) (ns:List Int),ns.length<=n->w5 H->dH K H a (ns.map V.int)->sp K [.ref a] H (λv _=>v=.bl true) λ_ _ _=>False)
  (KJ:∀(H:Hp) (s:aE) (e:au) (s':aE),CX [] H s (λ_ _ _=>False) e s'->False) :
  PySem.W.WalkO q loose XP YP l.row.toRowW d [] (λf vs=>PySem.call f vs):=by
 refine MK.nK hn Cf λw s₀ s₁ mg mb fa o pm cd doc a vs ns G Y ho hd qz La xW hints hlen hg=>?_
 obtain⟨fd,hb,hF⟩:=F w _ mg mb fa _ G.T La;exact Vv Xe G.T.g G.T.b G.T.builtins G.T.nolimit hg xW hints (k_ hlen Gu) hr (λbase _ _=>hF base) hb (λH hO hS=>wo _ H a ns hlen hO hS) λH e s'=>KJ H s₁ e s'
noncomputable def x_:Stmt->Bool
 |.FunctionDef _ a _ [] _ [] _ _ _ _=>a.defaults.isEmpty&&a.kwonlyargs.isEmpty&&a.kw_defaults.isEmpty
 |_=>false
def xH(B:List Stmt)(D:List (Str×Nat)):Bool:=D.all λp=>Bl p.1 B p.2&&(B[p.2]?).any x_
def Y7{st:Stmt}(c:Bl n q.main.body j=true)(h:q.main.body[j]?=some st)(hp:x_ st=true):∃p,(⟨n,y6 st,tW st,du st,p⟩:DefRec)∈recsOf q:=by
 unfold x_ at hp;split at hp
 .simp only[lQ,List.isEmpty_iff] at hp;exact Y6 c h hp.1.1 hp.1.2 hp.2 rfl
 .cases hp
section
variable{q:gv}{L:List Str}{me:ExcName->ak au}{mg mb:Str->ak au}{h:df}
def jo(T:Top q L me mg mb h){B:List Stmt}{D:List (Str×Nat)}(hq:q.main.body=B)(c:xH B D=true)(i:Nat){st:Stmt}(hi:D[i]?=some (n,j))(hj:B[j]?=some st):
  ∃f fd,mg n=some (.ref f)/\rA (snap h) n n st f fd:=by
 obtain⟨c1,c2⟩:=Bool.and_eq_true_iff.1 (nr.1 c _ (qM hi));dsimp only at c1 c2;rw[hj] at c2;exact Xf T (Y7 (by rw[hq];exact c1) (by rw[hq];exact hj) c2)
noncomputable def xG(q:gv)(L bs:List Str):Bool:=bs.all λx => !startupNames.contains x && !L.contains x && !((recsOf q).map (·.name)).contains x && !((litsOf q).map (·.1)).contains x && !((clssOf q L).map (·.name)).contains x
def qr(T:Top q L me mg mb h){bs:List Str}(c:xG q L bs=true)(i:Nat)(hi:bs[i]?=some x):mg x=none:=by
 have z:=nr.1 c _ (qM hi);simp only[lQ,Bool.not_eq_true',<-Dy,Dz] at z;exact T.free x z.1.1.1.1 z.1.1.1.2 z.1.1.2 z.1.2 z.2
def NI(T:Top q L me mg mb h){y:Str}(hv:valOf q x=some (.str y)):∃t,mg x=some (.str y t):=by
 obtain⟨v,hm,hr⟩:=T.const x _ hv;cases hr h;exact⟨_,hm⟩
end
section
variable{X:Cx}
def qA(xs:List V)(k:Nat)(y:V):List V:=xs.take k++y::xs.drop k
def TB(xs:List V)(k:Nat)(y:V):(qA xs k y).length=xs.length+1:=by
 unfold qA;rw[fe,jl,qL,ui];lia
def Pm:V->List V->Hp->VK->Prop:=λx vs H Q=>∃l xs i y,x=.ref l/\vs=[.int i,y]/\H l=some (.lst xs)/\0<=i/\i<2^62/\xs.length<sizeLine/\Q .bF (upd H l (.lst (qA xs i.toNat y)))
theorem AK:wZ X "list.insert" Pm:=by
 intro af s Z H x vs v us Q I rx rv h;obtain⟨l,xs,i,y,rfl,rfl,hH,h0,hi,hz,q⟩:=h;cases rx;obtain⟨u,u',rfl,⟨t,rfl⟩,ru⟩:=rv.two;obtain⟨z,aA,n,r,hl,e⟩:=I.ye hH;have K1:¬(!Builtin.List.listFitsIndex i)=true:=by
  unfold Builtin.List.listFitsIndex;simp;lia
 refine call_meets F.slot_list_insert ⟨_,e,rfl⟩ F.entry_list_insert (F.args_list_insert_3 _ _ _) (PySem.AutoSeq1.list_insert_list_int_val_1 l aA.toArray n i t u' K1 (by rw[gu];lia)) ⟨e,?_⟩
 refine⟨.bF,_,I.yd (its':=aA.take i.toNat++u'::aA.drop i.toNat) hH e ?_ ((r.take i.toNat).append (.cons ru (r.drop i.toNat))) ?_,rfl,q⟩
 .have h1:¬i<0:=by lia
  simp only[h1,cB];apply Array.ext';simp only[Array.toList_append,Array.toList_push,Array.toList_extract,gu];rw[List.extract_eq_drop_take,List.extract_eq_drop_take];have e1:min i.toNat aA.length - 0=min i.toNat aA.length:=by lia
  rw[e1];simp only[nt];have e2:aA.take (min i.toNat aA.length)=aA.take i.toNat:=by rw[List.take_eq_take_iff];lia
  rw[e2];by_cases hc:i.toNat<=aA.length
  .rw[Nat.min_eq_left hc,List.take_of_length_le (l:=List.drop i.toNat aA) (by rw[ui];lia)]
   simp
  .have hc:aA.length<=i.toNat:=by lia
   rw[Nat.min_eq_right hc,Mx (cX _),Mx hc];simp
 .show(qA xs i.toNat y).length<=sizeLine;rw[TB];lia
def CY:V->ak Int->ak Int->Hp->VK->Prop:=λx lo hi H Q=>∃z,x=.str z/\z.length<=sizeLine/\Q (.str (Txt.slice z lo hi)) H
theorem yB:rC X CY:=by
 intro af s Z H x v vl vu lo hi sl Q I rx hs pl pu h;obtain⟨z,rfl,hz,q⟩:=h;obtain⟨t,rfl⟩:=rx;refine⟨"str",_,F.slot_str_getitem.lookup,typeIs_str _ _ _,?_⟩;have fin:∀t' k,EP X af Z Q (.str (Txt.slice z lo hi) t') { s with toks:=k}:=λt' k=>⟨.str _,H,I.tok _,⟨_,rfl⟩,q⟩
 cases pl with
 |none=>
  cases pu with
  |none=>exact wpAny_getItem_str_slice (l:=none) (u:=none) (st:=none) hs rfl (post_val_or_str ⟨k_ (Txt.slice_le z _ _) hz,fin⟩)
  |int j tj=>exact wpAny_getItem_str_slice (l:=none) (u:=some (j,tj)) (st:=none) hs rfl (post_val_or_str ⟨k_ (Txt.slice_le z _ _) hz,fin⟩)
 |int i ti=>
  cases pu with
  |none=>exact wpAny_getItem_str_slice (l:=some (i,ti)) (u:=none) (st:=none) hs rfl (post_val_or_str ⟨k_ (Txt.slice_le z _ _) hz,fin⟩)
  |int j tj=>exact wpAny_getItem_str_slice (l:=some (i,ti)) (u:=some (j,tj)) (st:=none) hs rfl (post_val_or_str ⟨k_ (Txt.slice_le z _ _) hz,fin⟩)
def TV:hX X (binaryOp .Mult) (λx y H Q=>∃z n,x=.str z/\y=.int n/\MulOk z n/\Q (.str (Txt.mul z n)) H):=by
 intro af s Z H x y v u Q I rx ry h;obtain⟨z,n,rfl,rfl,hm,q⟩:=h;obtain⟨t,rfl⟩:=rx;obtain⟨t',rfl⟩:=ry;exact SB.mul hm λt' k=>⟨.str _,H,I.tok _,⟨_,rfl⟩,q⟩
end
inductive wU (K:FG) (H:Hp):Nat->V->V->Bool->Prop
 |flat {d:Nat} {x y:V}:wa x=true->wa y=true->wU K H d x y (eqV x y)
 |same {d:Nat} {a:ao}:wU K H d (.ref a) (.ref a) true
 |lst {d:Nat} {a b:ao} {xs ys:List V} {e:Nat->Bool}:a≠b->dH K H a xs->dH K H b ys->xs.length=ys.length->(∀(i:Nat) x y,xs[i]?=some x->ys[i]?=some y->wU K H d x y (e i))->wU K H (d+1) (.ref a) (.ref b) ((List.range xs.length).all e)
 |lstN {d:Nat} {a b:ao} {xs ys:List V}:a≠b->dH K H a xs->dH K H b ys->xs.length≠ys.length->wU K H (d+1) (.ref a) (.ref b) false
 |tup {d:Nat} {a b:ao} {xs ys:List V} {e:Nat->Bool}:a≠b->iB K H a xs->iB K H b ys->(∀(i:Nat) x y,xs[i]?=some x->ys[i]?=some y->wU K H d x y (e i))->wU K H (d+1) (.ref a) (.ref b) ((List.range (min xs.length ys.length)).all e&&xs.length == ys.length)
section
variable{X:Cx}{af:List (ao×Obj)}{Z:St}{H:Hp}{s:aE}
theorem Vals.at{xs:List V}{us:List au}(r:Vals xs us){j:Nat}(h:j<us.toArray.size):∃x,xs[j]?=some x/\RelV x us.toArray[j]:=by
 have hl:=r.length;have h':j<us.length:=by simpa using h
 have hx:xs[j]?=some xs[j]:=by simp[show j<xs.length by lia]
 obtain⟨u,hu,ru⟩:=r.get hx;have:us[j]?=some us[j]:=by simp[h']
 rw[this] at hu;cases hu;exact⟨xs[j],hx,by simpa using ru⟩
end
section
variable{X:Cx}
def Vx(K:FG)(hK:X.K=K:=by rfl):qm X (yx K):=hK ▸ W_
def Xg(K:FG)(hK:X.K=K:=by rfl):qm X (yy K):=hK ▸ Y1
def To(K:FG)(hK:X.K=K:=by rfl):c7 X (.builtin "len") (λxs H Q=>∃p ys,xs=[.ref p]/\(dH K H p ys\/iB K H p ys)/\Q (.int ys.length) H):=hK ▸ Tt
def Vy(K:FG)(hK:X.K=K:=by rfl):rC X (yz K):=hK ▸ Xa
def Xh(K:FG)(hK:X.K=K:=by rfl):rC X (yA K):=hK ▸ Y0
def AL(K:FG)(hK:X.K=K:=by rfl):c7 X (.builtin "isinstance") (λxs H Q=>∃x k T,xs=[x,.ty T]/\ER K H x k/\(T="int"\/T="str"\/T="bool"\/T="list"\/T="tuple")/\Q (.bl (lN k T)) H):=hK ▸ Vw
def AH(K:FG)(hK:X.K=K:=by rfl):c7 X (.type "list") (λxs H Q=>∃p ys,xs=[.ref p]/\(dH K H p ys\/iB K H p ys)/\∀l,H l=none->Q (.ref l) (upd H l (.lst ys))):=hK ▸ Tv
def UB(K:FG){a:Expr}{ta:TE}(ha:PE X a ta)(he:∀whole,isTrue a X.env whole=(do let v <-whole;standAt a.pos;holding [v] (truthy v)))(hK:X.K=K:=by rfl):
  PT X a (λZ H Q=>ta Z H λx H'=>∃k,uw K x H' k/\Q k H'):=hK ▸ Vq ha he
def tO(K:FG){tg l:Expr}{tl:TE}(hl:PE X l tl)(hK:X.K=K:=by rfl):PI X tg l (n8 K tl):=hK ▸ Pe hl
end
def Xi(hr:eH k A):A.units+40<cLine:=Nat.lt_of_le_of_lt (Nat.add_le_add_left (by decide:40<=64) _) hr.units
end L2
namespace Carry
open PySem L2
variable{m:Int}
def SB(f:ao)(H H':Hp):Prop:=∀b o,H b=some o->b≠f->H' b=some o
structure ba where
 ns:List Int
 pl:Int
 wM:Int
 mode:Int
 num:Int
noncomputable def BY(sl:ao)(F:ba):HO:=.lst [.ref sl,.int F.pl,.int F.wM,.int F.mode,.int F.num]
structure FeedAt (H:Hp) (f sl:ao) (F:ba):Prop where
 fo:H f=some (BY sl F)
 so:H sl=some (.lst (F.ns.map V.int))
 pos:0<=F.pl
 len:F.ns.length<=63
noncomputable def cellOf(F:ba):Int:=if 0<F.ns.length then F.ns.getD (F.pl%F.ns.length).toNat 0+F.pl / F.ns.length*31 else F.pl
def aQ(F:ba)(m:Int):Int:=if F.mode=1 then F.num%m else(cellOf F*48271+31*F.pl)%1000003*69621%999983%m
noncomputable def aK(F:ba)(m:Int):ba:=if F.mode=1 then{ F with num:=F.num / m} else{ F with pl:=F.pl+1}
theorem qP(F:ba)(h:0<m):0<=aQ F m:=by
 unfold aQ;split
 .exact Int.emod_nonneg _ (by lia)
 .exact Int.emod_nonneg _ (by lia)
theorem qQ(F:ba)(h:0<m):aQ F m<m:=by
 unfold aQ;split
 .exact Int.emod_lt_of_pos _ h
 .exact Int.emod_lt_of_pos _ h
theorem Vz(F:ba)(m:Int):(aK F m).ns=F.ns:=by unfold aK;split <;> rfl
theorem VA(F:ba)(m:Int)(h:0<=F.pl):0<=(aK F m).pl:=by
 unfold aK;split
 .exact h
 .show 0<=F.pl+1;lia
theorem Jp{x:Int}{n:Nat}(h0:0<=x)(h1:x<n):∃k:Nat,x=k/\k<n:=⟨x.toNat,by lia,by lia⟩
structure aX where
 name:Str
 long:Int
 ring:Bool
 outs:List Str
structure az where
 aF:List aX
 aG:List Str
noncomputable def wL(xs:List Str):List V:=xs.map V.str
def Y8(H:Hp)(v:V)(b:aX):Prop:=∃p o,v=.ref p/\H p=some (.tup [.str b.name,.int b.long,.bl b.ring,.ref o])/\H o=some (.lst (wL b.outs))
structure HouseAt (H:Hp) (p pb pc:ao) (refs:List V) (h:az):Prop where
 top:H p=some (.tup [.ref pb,.ref pc])
 bl:H pb=some (.lst refs)
 ct:H pc=some (.lst (wL h.aG))
 each:Paired (Y8 H) refs h.aF
def pj(xs:List Str)(k:Nat)(y:Str):List Str:=xs.take k++y::xs.drop k
theorem VB(xs:List Str)(k:Nat)(y:Str):(pj xs k y).length=xs.length+1:=by
 unfold pj;rw[fe,jl,qL,ui];lia
theorem VD{xs:List Str}{k:Nat}{y z:Str}:z∈pj xs k y↔z=y\/z∈xs:=by
 unfold pj;rw[eT,eX];constructor
 .rintro(h|h|h)
  .exact .inr (List.mem_of_mem_take h)
  .exact .inl h
  .exact .inr (List.mem_of_mem_drop h)
 .rintro(h|h)
  .exact .inr (.inl h)
  .rw[<-uk k xs,eT] at h;rcases h with h|h
   .exact .inl h
   .exact .inr (.inr h)
end Carry
namespace L2
open PySem PySem.Spec PyProof.Rows
inductive D where
 |bF|bl (b:Bool)|int (i:Int)|str (x:Str)|ty (n:String)
 |lst (xs:List D)|tup (xs:List D)|aI (kvs:List (TK×D))|fH (ns:List Int)|exc (C:ao) (l:ak Int)
mutual
noncomputable def TK.d:TK->D
 |.inl i=>.int i
 |.inr x=>.str x
 |.tp l=>.tup (TK.dl l)
noncomputable def TK.dl:List TK->List D
 |[]=>[]
 |k::l=>TK.d k::TK.dl l
end
noncomputable def nJ:D->ak V
 |.bF=>some .bF
 |.bl b=>some (.bl b)
 |.int i=>some (.int i)
 |.str x=>some (.str x)
 |.ty n=>some (.ty n)
 |_=>none
noncomputable def BW(C t:ao)(d:ak ao):Obj:={ cls:=.ref C,dict:=d,data:=.fields #[.ref t,.none,.none,.none,.bool false,.none]}
def uu(F:Hp)(a C:ao):ak Int->Prop
 |none=>∃t,F a=some (.Y (BW C t none) (.own 0))
 |some n=>∃t dx,F a=some (.Y (BW C t (some dx)) (.own 0))/\F dx=some (.xd [("line",.int n)])
inductive ax (K:FG) (F:Hp):List V->List D->Prop
 |nil:ax K F [] []
 |flat {v:V} {d:D} {vs:List V} {ds:List D}:nJ d=some v->ax K F vs ds->ax K F (v::vs) (d::ds)
 |lst {a:ao} {ws vs:List V} {es ds:List D}:Rd F a (.lst ws)->ax K F ws es->ax K F vs ds->ax K F (.ref a::vs) (.lst es::ds)
 |tup {a:ao} {ws vs:List V} {es ds:List D}:iB K F a ws->ax K F ws es->ax K F vs ds->ax K F (.ref a::vs) (.tup es::ds)
 |aI {a:ao} {kvs:List (TK×V×V)} {es:List (TK×D)} {ep:Nat} {vs:List V} {ds:List D}:F a=some (.dG kvs ep)->kvs.map (·.1)=es.map (·.1)->ax K F (kvs.map (·.2.1)) (es.map (·.1.d))->ax K F (kvs.map (·.2.2)) (es.map (·.2))->ax K F vs ds->ax K F (.ref a::vs) (.aI es::ds)
 |fH {a:ao} {ns:List Int} {vs:List V} {ds:List D}:dH K F a (ns.map V.int)->ax K F vs ds->ax K F (.ref a::vs) (.fH ns::ds)
 |exc {a C:ao} {l:ak Int} {vs:List V} {ds:List D}:uu F a C l->ax K F vs ds->ax K F (.ref a::vs) (.exc C l::ds)
def aO.rd{H H':Hp}{a:ao}{u:HO}(e:aO H H')(h:Rd H a u):Rd H' a u:=by
 rcases h with h|⟨o,h⟩
 .exact .inl (e _ _ h)
 .exact .inr ⟨o,e _ _ h⟩
def aO.pD{K:FG}{H H':Hp}{a:ao}{xs:List V}(e:aO H H')(h:iB K H a xs):iB K H' a xs:=by
 rcases h with(h|⟨o,h⟩)|h
 .exact .inl (.inl (e _ _ h))
 .exact .inl (.inr ⟨o,e _ _ h⟩)
 .exact .inr h
section
variable{K:FG}{F F':Hp}
def uu.mono{F F':Hp}{a C:ao}{l:ak Int}(s:aO F F')(h:uu F a C l):uu F' a C l:=by
 cases l with
 |none=>obtain⟨t,e⟩:=h;exact⟨t,s _ _ e⟩
 |some n=>obtain⟨t,dx,e,q⟩:=h;exact⟨t,dx,s _ _ e,s _ _ q⟩
theorem ax.mono(s:aO F F'){vs:List V}{ds:List D}(h:ax K F vs ds):ax K F' vs ds:=by
 induction h with
 |nil=>exact .nil
 |flat e _ ih=>exact .flat e ih
 |lst e _ _ i1 i2=>exact .lst (s.rd e) i1 i2
 |tup e _ _ i1 i2=>exact .tup (s.pD e) i1 i2
 |aI e k _ _ _ i0 i1 i2=>exact .aI (s _ _ e) k i0 i1 i2
 |fH e _ i=>exact .fH (s.seq e) i
 |exc e _ i=>exact .exc (e.mono s) i
def ax.length{vs:List V}{ds:List D}(h:ax K F vs ds):vs.length=ds.length:=by
 induction h with
 |nil=>rfl
 |flat _ _ ih=>simp[ih]
 |lst _ _ _ _ ih=>simp[ih]
 |tup _ _ _ _ ih=>simp[ih]
 |aI _ _ _ _ _ _ _ ih=>simp[ih]
 |fH _ _ ih=>simp[ih]
 |exc _ _ ih=>simp[ih]
def ax.inv{v:V}{vs:List V}{d:D}{ds:List D}(h:ax K F (v::vs) (d::ds)):ax K F [v] [d]/\ax K F vs ds:=by
 cases h with
 |flat e t=>exact⟨.flat e .nil,t⟩
 |lst e i t=>exact⟨.lst e i .nil,t⟩
 |tup e i t=>exact⟨.tup e i .nil,t⟩
 |aI e k j i t=>exact⟨.aI e k j i .nil,t⟩
 |fH e t=>exact⟨.fH e .nil,t⟩
 |exc e t=>exact⟨.exc e .nil,t⟩
def ax.cons{v:V}{vs:List V}{d:D}{ds:List D}(h:ax K F [v] [d])(t:ax K F vs ds):ax K F (v::vs) (d::ds):=by
 cases h with
 |flat e _=>exact .flat e t
 |lst e i _=>exact .lst e i t
 |tup e i _=>exact .tup e i t
 |aI e k j i _=>exact .aI e k j i t
 |fH e _=>exact .fH e t
 |exc e _=>exact .exc e t
theorem ax.get:∀{vs:List V} {ds:List D} {i:Nat} {d:D},ax K F vs ds->ds[i]?=some d->∃v,vs[i]?=some v/\ax K F [v] [d]
 |[],[],i,d,_,e=>by simp at e
 |v::vs,d'::ds,0,d,h,e=>by simp at e;subst e;exact⟨v,rfl,h.inv.1⟩
 |v::vs,d'::ds,i+1,d,h,e=>by
  obtain⟨u,h1,h2⟩:=ax.get (i:=i) h.inv.2 (by simpa using e)
  exact⟨u,by simpa using h1,h2⟩
 |[],_::_,_,_,h,_=>by have:=h.length;simp at this
 |_::_,[],_,_,h,_=>by have:=h.length;simp at this
theorem ax.append:∀{vs:List V} {ds:List D} {ws:List V} {es:List D},ax K F vs ds->ax K F ws es->ax K F (vs++ws) (ds++es)
 |[],[],_,_,_,h=>h
 |v::vs,d::ds,_,_,h,t=>.cons h.inv.1 (ax.append h.inv.2 t)
 |[],_::_,_,_,h,_=>by have:=h.length;simp at this
 |_::_,[],_,_,h,_=>by have:=h.length;simp at this
theorem ax.take:∀{vs:List V} {ds:List D} (n:Nat),ax K F vs ds->ax K F (vs.take n) (ds.take n)
 |[],[],_,_=>by simp;exact .nil
 |v::vs,d::ds,0,_=>.nil
 |v::vs,d::ds,n+1,h=>.cons h.inv.1 (ax.take n h.inv.2)
 |[],_::_,_,h=>by have:=h.length;simp at this
 |_::_,[],_,h=>by have:=h.length;simp at this
theorem ax.drop:∀{vs:List V} {ds:List D} (n:Nat),ax K F vs ds->ax K F (vs.drop n) (ds.drop n)
 |[],[],_,_=>by simp;exact .nil
 |v::vs,d::ds,0,h=>h
 |v::vs,d::ds,n+1,h=>by simpa using ax.drop n h.inv.2
 |[],_::_,_,h=>by have:=h.length;simp at this
 |_::_,[],_,h=>by have:=h.length;simp at this
end
inductive O where
 |Y (d:D)|lst (xs:List O)|tup (xs:List O)|aI (kvs:List (TK×O))
abbrev Gm:=List (ak O)
inductive ai (K:FG) (F H:Hp):St->Gm->List ao->Prop
 |nil:ai K F H [] [] []
 |skip {x:ak V} {Z:St} {Q0:Gm} {B:List ao}:ai K F H Z Q0 B->ai K F H (x::Z) (none::Q0) B
 |Y {v:V} {d:D} {Z:St} {Q0:Gm} {B:List ao}:ax K F [v] [d]->ai K F H Z Q0 B->ai K F H (some v::Z) (some (.Y d)::Q0) B
 |lst {a:ao} {ws:List V} {ps:List O} {A B:List ao} {Z:St} {Q0:Gm}:H a=some (.lst ws)->ai K F H (ws.map some) (ps.map some) A->ai K F H Z Q0 B->ai K F H (some (.ref a)::Z) (some (.lst ps)::Q0) (a::A++B)
 |tup {a:ao} {ws:List V} {ps:List O} {A B:List ao} {Z:St} {Q0:Gm}:H a=some (.tup ws)->ai K F H (ws.map some) (ps.map some) A->ai K F H Z Q0 B->ai K F H (some (.ref a)::Z) (some (.tup ps)::Q0) (a::A++B)
 |aI {a:ao} {kvs:List (TK×V×V)} {ps:List (TK×O)} {ep:Nat} {A B:List ao} {Z:St} {Q0:Gm}:H a=some (.dG kvs ep)->kvs.map (·.1)=ps.map (·.1)->ax K F (kvs.map (·.2.1)) (ps.map (·.1.d))->ai K F H (kvs.map λp=>some p.2.2) (ps.map λp=>some p.2) A->ai K F H Z Q0 B->
   ai K F H (some (.ref a)::Z) (some (.aI ps)::Q0) (a::A++B)
section
variable{K:FG}{F F' H H':Hp}{Z τ:St}{Q0 Θ:Gm}{A B:List ao}
def ai.keep(h:ai K F H Z Q0 A)(s:aO F F')(k:∀a∈A,∀o,H a=some o->H' a=some o):ai K F' H' Z Q0 A:=by
 induction h with
 |nil=>exact .nil
 |skip _ ih=>exact .skip (ih k)
 |Y r _ ih=>exact .Y (r.mono s) (ih k)
 |lst e _ _ i1 i2=>exact .lst (k _ (by simp) _ e) (i1 λa ha=>k a (by simp[ha])) (i2 λa ha=>k a (by simp[ha]))
 |tup e _ _ i1 i2=>exact .tup (k _ (by simp) _ e) (i1 λa ha=>k a (by simp[ha])) (i2 λa ha=>k a (by simp[ha]))
 |aI e q r _ _ i1 i2=>exact .aI (k _ (by simp) _ e) q (r.mono s) (i1 λa ha=>k a (by simp[ha])) (i2 λa ha=>k a (by simp[ha]))
def ai.there(h:ai K F H Z Q0 A):∀a∈A,H a≠none:=by
 induction h with
 |nil=>intro a ha;cases ha
 |skip _ ih=>exact ih
 |Y _ _ ih=>exact ih
 |lst e _ _ i1 i2=>
  intro a ha;rcases eX.mp ha with rfl|ha
  .rw[e];exact λz=>by cases z
  .rcases eT.mp ha with ha|ha
   .exact i1 a ha
   .exact i2 a ha
 |tup e _ _ i1 i2=>
  intro a ha;rcases eX.mp ha with rfl|ha
  .rw[e];exact λz=>by cases z
  .rcases eT.mp ha with ha|ha
   .exact i1 a ha
   .exact i2 a ha
 |aI e _ _ _ _ i1 i2=>
  intro a ha;rcases eX.mp ha with rfl|ha
  .rw[e];exact λz=>by cases z
  .rcases eT.mp ha with ha|ha
   .exact i1 a ha
   .exact i2 a ha
def ai.length(h:ai K F H Z Q0 A):Z.length=Q0.length:=by
 induction h <;> simp_all
def ai.app(h:ai K F H τ Θ B)(t:ai K F H Z Q0 A):ai K F H (τ++Z) (Θ++Q0) (B++A):=by
 induction h with
 |nil=>exact t
 |skip _ ih=>exact .skip ih
 |Y r _ ih=>exact .Y r ih
 |lst e i _ _ ih=>simp only[DA,iN];exact .lst e i ih
 |tup e i _ _ ih=>simp only[DA,iN];exact .tup e i ih
 |aI e q r i _ _ ih=>simp only[DA,iN];exact .aI e q r i ih
theorem ai.split:∀{τ:St} {Θ:Gm} {A:List ao},τ.length=Θ.length->ai K F H (τ++Z) (Θ++Q0) A->∃B C,ai K F H τ Θ B/\ai K F H Z Q0 C/\A=B++C
 |[],[],A,_,h=>⟨[],A,.nil,h,rfl⟩
 |[],_::_,_,e,_=>by simp at e
 |_::_,[],_,e,_=>by simp at e
 |x::τ,y::Θ,A,e,h=>by
  have e':τ.length=Θ.length:=by simpa using e
  cases h with
  |skip t=>obtain⟨B,C,h1,h2,h3⟩:=ai.split e' t;exact⟨B,C,.skip h1,h2,h3⟩
  |Y r t=>obtain⟨B,C,h1,h2,h3⟩:=ai.split e' t;exact⟨B,C,.Y r h1,h2,h3⟩
  |lst q i t=>obtain⟨B,C,h1,h2,h3⟩:=ai.split e' t;subst h3;exact⟨_,C,.lst q i h1,h2,by simp⟩
  |tup q i t=>obtain⟨B,C,h1,h2,h3⟩:=ai.split e' t;subst h3;exact⟨_,C,.tup q i h1,h2,by simp⟩
  |aI q z r i t=>obtain⟨B,C,h1,h2,h3⟩:=ai.split e' t;subst h3;exact⟨_,C,.aI q z r i h1,h2,by simp⟩
def ai.one{x:ak V}{y:ak O}(h:ai K F H (x::Z) (y::Q0) A):∃B C,ai K F H [x] [y] B/\ai K F H Z Q0 C/\A=B++C:=ai.split (τ:=[x]) (Θ:=[y]) rfl h
theorem ai.take:∀{Z:St} {Q0:Gm} {A:List ao} {i:Nat} {o:O},ai K F H Z Q0 A->Q0[i]?=some (some o)->∃v Ai B,Z[i]?=some (some v)/\ai K F H [some v] [some o] Ai/\ai K F H Z (Q0.set i none) B/\A.Perm (Ai++B)
 |_,[],_,_,_,_,e=>by simp at e
 |[],_::_,_,_,_,h,_=>by have:=h.length;simp at this
 |x::Z,y::Q0,A,0,o,h,e=>by
  have e:y=some o:=by simpa using e
  subst e;obtain⟨B,C,h1,h2,h3⟩:=h.one;cases x with
  |none=>cases h1
  |some v=>exact⟨v,B,C,rfl,h1,.skip h2,by rw[h3]⟩
 |x::Z,y::Q0,A,i+1,o,h,e=>by
  obtain⟨B,C,h1,h2,h3⟩:=h.one;obtain⟨v,Ai,B',g1,g2,g3,g4⟩:=ai.take (i:=i) h2 (by simpa using e)
  refine⟨v,Ai,B++B',by simpa using g1,g2,h1.app g3,?_⟩
  subst h3;exact(List.Perm.append_left B g4).trans (by rw[<-iN,<-iN];exact(qN).append_right _)
theorem ai.forget:∀{Z:St} {Q0:Gm} {A:List ao} (i:Nat),ai K F H Z Q0 A->∃B,ai K F H Z (Q0.set i none) B/\B.Sublist A
 |Z,[],A,i,h=>⟨A,by simpa using h,List.Sublist.refl _⟩
 |[],_::_,_,_,h=>by have:=h.length;simp at this
 |x::Z,y::Q0,A,0,h=>by
  obtain⟨B,C,h1,h2,h3⟩:=h.one;subst h3;exact⟨C,.skip h2,pK _ _⟩
 |x::Z,y::Q0,A,i+1,h=>by
  obtain⟨B,C,h1,h2,h3⟩:=h.one;obtain⟨B',g1,g2⟩:=ai.forget i h2;subst h3;exact⟨B++B',h1.app g1,g2.append_left _⟩
theorem ai.put{v:V}{o:O}{Ai:List ao}(q:ai K F H [some v] [some o] Ai):∀{Z:St} {Q0:Gm} {A:List ao} (i:Nat),ai K F H Z Q0 A->i<Q0.length->∃B,ai K F H (Z.set i (some v)) (Q0.set i (some o)) B/\∃C,B.Perm (Ai++C)/\C.Sublist A
 |_,[],_,_,_,hi=>by simp at hi
 |[],_::_,_,_,h,_=>by have:=h.length;simp at this
 |x::Z,y::Q0,A,0,h,hi=>by
  obtain⟨B,C,h1,h2,h3⟩:=h.one;subst h3;exact⟨Ai++C,q.app h2,C,.refl _,pK _ _⟩
 |x::Z,y::Q0,A,i+1,h,hi=>by
  obtain⟨B,C,h1,h2,h3⟩:=h.one;obtain⟨B',g1,C',g2,g3⟩:=ai.put q i h2 (by simpa using hi)
  subst h3;refine⟨B++B',h1.app g1,B++C',?_,g3.append_left _⟩;exact(List.Perm.append_left B g2).trans (by rw[<-iN,<-iN];exact(qN).append_right _)
end
structure OK (K:FG) (F H:Hp) (Z:St) (Q0:Gm) (A:List ao):Prop where
 le:aO F H
 os:ai K F H Z Q0 A
 nd:A.Nodup
 fr:∀a∈A,F a=none
structure Ext (F H:Hp) (A:List ao) (F' H':Hp) (A':List ao):Prop where
 ff:aO F F'
 keep:∀a o,H a=some o->a∉A->H' a=some o
 rR:∀a,H a≠none->H' a≠none
 new:∀a,F' a≠none->F a≠none\/a∈A\/H a=none
 own:∀a∈A',a∈A\/H a=none
section
variable{K:FG}{F F' F1 F2 H H' H1 H2:Hp}{Z Z' τ:St}{Q0 aw Θ:Gm}{A A' A1 A2 B C:List ao}
theorem Ext.refl:Ext F H A F H A:=⟨aO.refl _,λ_ _ e _=>e,λ_ h=>h,λ_ h=>.inl h,λ_ h=>.inl h⟩
theorem Ext.trans(x:Ext F H A F1 H1 A1)(y:Ext F1 H1 A1 F2 H2 A2):Ext F H A F2 H2 A2 where
 ff:=x.ff.trans y.ff
 keep:=λa o e n=>y.keep a o (x.keep a o e n) λm=>by
  rcases x.own a m with z|z
  .exact n z
  .rw[e] at z;cases z
 rR:=λa h=>y.rR a (x.rR a h)
 new:=λa h=>by
  rcases y.new a h with z|z|z
  .exact x.new a z
  .exact .inr (x.own a z)
  .exact .inr (.inr (oV λq=>x.rR a q z))
 own:=λa h=>by
  rcases y.own a h with z|z
  .exact x.own a z
  .exact .inr (oV λq=>x.rR a q z)
def Ext.lO(x:Ext F H A F' H' A')(h:∀a∈B,a∈A'):Ext F H A F' H' B:=⟨x.ff,x.keep,x.rR,x.new,λa m=>x.own a (h a m)⟩
def OK.perm(k:ai K F H Z Q0 A)(le:aO F H)(nd:B.Nodup)(fr:∀a∈B,F a=none)(p:A.Perm B):OK K F H Z Q0 A:=⟨le,k,p.nodup_iff.mpr nd,λa m=>fr a (p.mem_iff.mp m)⟩
def OK.p7(k:OK K F H (τ++Z) (Θ++Q0) (B++C))(h1:ai K F H τ Θ B)(h2:ai K F H Z Q0 C):OK K F H Z Q0 C/\∀F' H' Z' aw A',Ext F H C F' H' A'->OK K F' H' Z' aw A'->∃qj,Ext F H (B++C) F' H' qj/\OK K F' H' (τ++Z') (Θ++aw) qj:=by
 obtain⟨n1,n2,n3⟩:=lh.mp k.nd;have nB:∀a∈B,a∉C:=λa h1 h2=>n3 a h1 a h2 rfl
 refine⟨⟨k.le,h2,n2,λa m=>k.fr a (ir _ m)⟩,λF' H' Z' aw A' x k'=>?_⟩
 have hB:∀a∈B,F' a=none:=λa m=>by
  cases e:F' a with
  |none=>rfl
  |some o=>
   rcases x.new a (by rw[e];exact λz=>by cases z) with z|z|z
   .exact cu (k.fr a (jQ _ m)) z
   .exact cu z (nB a m)
   .exact cu z (h1.there a m)
 refine⟨B++A',⟨x.ff,λa o e n=>x.keep a o e λm=>n (ir _ m),x.rR,λa h=>?_,λa m=>?_⟩,k'.le,(h1.keep x.ff λa m o e=>x.keep a o e (nB a m)).app k'.os,?_,?_⟩
 .rcases x.new a h with z|z|z
  .exact .inl z
  .exact .inr (.inl (ir _ z))
  .exact .inr (.inr z)
 .rcases eT.mp m with m|m
  .exact .inl (jQ _ m)
  .rcases x.own a m with z|z
   .exact .inl (ir _ z)
   .exact .inr z
 .refine lh.mpr ⟨n1,k'.nd,λa m b m' e=>?_⟩
  subst e;rcases x.own a m' with z|z
  .exact nB a m z
  .exact h1.there a m z
 .intro a m;rcases eT.mp m with m|m
  .exact hB a m
  .exact k'.fr a m
def OK.frame(k:OK K F H (τ++Z) (Θ++Q0) A)(hl:τ.length=Θ.length):∃C,OK K F H Z Q0 C/\∀F' H' Z' aw A',Ext F H C F' H' A'->OK K F' H' Z' aw A'->∃qj,Ext F H A F' H' qj/\OK K F' H' (τ++Z') (Θ++aw) qj:=by
 obtain⟨B,C,h1,h2,h3⟩:=ai.split hl k.os;subst h3;exact⟨C,k.p7 h1 h2⟩
def OK.swap(k:OK K F H (τ++Z) (Θ++Q0) A)(hl:τ.length=Θ.length):∃B,B.Perm A/\OK K F H (Z++τ) (Q0++Θ) B:=by
 obtain⟨B,C,h1,h2,h3⟩:=ai.split hl k.os;subst h3;exact⟨C++B,qN,.perm (h2.app h1) k.le k.nd k.fr qN⟩
def OK.part(k:OK K F H (τ++Z) (Θ++Q0) A)(hl:τ.length=Θ.length):∃B,OK K F H Z Q0 B/\∀a∈B,a∈A:=by
 obtain⟨B,C,h1,h2,h3⟩:=ai.split hl k.os;subst h3;exact⟨C,⟨k.le,h2,(lh.mp k.nd).2.1,λa m=>k.fr a (ir _ m)⟩,λa m=>ir _ m⟩
def OK.push{v:V}{o:O}{Av:List ao}(k:OK K F H Z Q0 A)(s:aO H H')(q:ai K F H' [some v] [some o] Av)(nd:Av.Nodup)(fresh:∀a∈Av,H a=none):
  OK K F H' (some v::Z) (some o::Q0) (Av++A)/\Ext F H A F H' (Av++A):=by
 have ne:∀a∈Av,a∉A:=λa m z=>k.os.there a z (fresh a m)
 refine⟨⟨k.le.trans s,q.app (k.os.keep (aO.refl _) λa _ o e=>s a o e),lh.mpr ⟨nd,k.nd,λa m b m' e=>?_⟩,λa m=>?_⟩,aO.refl _,λa o e _=>s a o e,λa h z=>?_,λa h=>.inl h,λa m=>?_⟩
 .subst e;exact ne a m m'
 .rcases eT.mp m with m|m
  .exact k.le.free (fresh a m)
  .exact k.fr a m
 .exact h (s.free z)
 .rcases eT.mp m with m|m
  .exact .inr (fresh a m)
  .exact .inl m
end
inductive R where
 |own (o:O)|var (i:Nat)
noncomputable def R.o:R->ak O
 |.own o=>some o
 |.var _=>none
abbrev GE:=Gm->ak (R×Gm)
abbrev GA:=Gm->ak (List R×Gm)
abbrev GT:=Gm->ak (Bool×Gm)
def i9(Z:St):List R->List V->Prop
 |[],[]=>True
 |.own _::rs,_::vs=>i9 Z rs vs
 |.var i::rs,v::vs=>Z[i]?=some (some v)/\i9 Z rs vs
 |_,_=>False
def ik(K:FG)(F H:Hp)(A:List ao)(Z:St)(aw:Gm)(rs:List R)(vs:List V)(H':Hp):Prop:=
 ∃F' A',Ext F H A F' H' A'/\OK K F' H' (vs.map some++Z) (rs.map R.o++aw) A'/\i9 Z rs vs
def tG(K:FG)(f:GE):TE:=λZ H Q=>∃F A Q0 r aw,OK K F H Z Q0 A/\f Q0=some (r,aw)/\∀v H',ik K F H A Z aw [r] [v] H'->Q v H'
def kb(K:FG)(f:GA):TA:=λZ H Q=>∃F A Q0 rs aw,OK K F H Z Q0 A/\f Q0=some (rs,aw)/\∀vs H',ik K F H A Z aw rs vs H'->Q vs H'
def iI(K:FG)(f:GT):TT:=λZ H Q=>∃F A Q0 b aw,OK K F H Z Q0 A/\f Q0=some (b,aw)/\∀H',ik K F H A Z aw [] [] H'->Q b H'
theorem i9.length:∀{Z:St} {rs:List R} {vs:List V},i9 Z rs vs->rs.length=vs.length
 |_,[],[],_=>rfl
 |_,.own _::rs,_::vs,h=>by simp[i9.length (Z:=_) (rs:=rs) (vs:=vs) h]
 |_,.var _::rs,_::vs,h=>by simp[i9.length (Z:=_) (rs:=rs) (vs:=vs) h.2]
 |_,[],_::_,h=>h.elim
 |_,.own _::_,[],h=>h.elim
 |_,.var _::_,[],h=>h.elim
def i9.one{Z:St}{r:R}{vs:List V}{rs:List R}{v:V}(h:i9 Z [r] [v])(t:i9 Z rs vs):i9 Z (r::rs) (v::vs):=by
 cases r with
 |own o=>exact t
 |var i=>exact⟨h.1,t⟩
def PE.mono{X:Cx}{e:Expr}{t t':TE}(h:PE X e t)(m:∀Z H Q,t' Z H Q->t Z H Q):PE X e t':=λaf s Z H Q I q=>h af s Z H Q I (m _ _ _ q)
def PT.mono{X:Cx}{e:Expr}{t t':TT}(h:PT X e t)(m:∀Z H Q,t' Z H Q->t Z H Q):PT X e t':=λaf s Z H Q I q=>h af s Z H Q I (m _ _ _ q)
def PW.mono{X:Cx}{e:Expr}{t t':TT}(h:PW X e t)(m:∀Z H Q,t' Z H Q->t Z H Q):PW X e t':=λwh af s Z H Q I q=>h wh af s Z H Q I (m _ _ _ q)
def PA.mono{X:Cx}{e:List Expr}{t t':TA}(h:PA X e t)(m:∀Z H Q,t' Z H Q->t Z H Q):PA X e t':=λpos af s Z H Q I q=>h pos af s Z H Q I (m _ _ _ q)
def PS.mono{X:Cx}{e:Stmt}{t t':TS}(h:PS X e t)(m:∀D Z H,t' D Z H->t D Z H):PS X e t':=λaf s Z H D I q=>h af s Z H D I (m _ _ _ q)
def iu.mono{X:Cx}{e:List Stmt}{t t':TS}(h:iu X e t)(m:∀D Z H,t' D Z H->t D Z H):iu X e t':=λaf s Z H D I q=>h af s Z H D I (m _ _ _ q)
section
variable{K:FG}{F H:Hp}{A:List ao}{Z:St}{Q0 aw:Gm}
noncomputable def ka(Q0:Gm):R->ak O
 |.own o=>some o
 |.var i=>(Q0[i]?).join
noncomputable def gQ(Q0:Gm):List R->ak (List O)
 |[]=>some []
 |r::rs=>(ka Q0 r).bind λo=>(gQ Q0 rs).bind λos=>some (o::os)
def mG(K:FG)(F H:Hp):List V->List O->Prop:=Paired λv o=>∃B,ai K F H [some v] [some o] B
theorem Er:∀{rs:List R} {vs:List V} {os:List O} {B:List ao},ai K F H Z Q0 A->ai K F H (vs.map some) (rs.map R.o) B->i9 Z rs vs->gQ Q0 rs=some os->mG K F H vs os
 |[],[],os,_,_,_,_,e=>by cases e;exact .nil
 |r::rs,v::vs,os,B,k,h,hh,e=>by
  obtain⟨B1,C1,h1,h2,_⟩:=ai.one h;unfold gQ at e;cases e1:ka Q0 r with
  |none=>rw[e1] at e;cases e
  |some o=>
   rw[e1] at e;cases e2:gQ Q0 rs with
   |none=>rw[e2] at e;cases e
   |some wC=>
    rw[e2] at e;cases e;cases r with
    |own o'=>cases e1;exact .cons ⟨_,h1⟩ (Er k h2 hh e2)
    |var i=>
     have e3:Q0[i]?=some (some o):=by
      have:(Q0[i]?).join=some o:=e1;cases q:Q0[i]? with
      |none=>rw[q] at this;cases this
      |some z=>rw[q] at this;exact congrArg some this
     obtain⟨v',Ai,B',g1,g2,_⟩:=k.take e3;have:=hh.1;rw[g1] at this;cases this;exact .cons ⟨_,g2⟩ (Er k h2 hh.2 e2)
 |[],_::_,_,_,_,_,h,_=>h.elim
 |.own _::_,[],_,_,_,_,h,_=>h.elim
 |.var _::_,[],_,_,_,_,h,_=>h.elim
def Res(K:FG)(F H:Hp)(o:O)(Q:VK):Prop:=∀v H' Av,aO H H'->ai K F H' [some v] [some o] Av->Av.Nodup->(∀a∈Av,H a=none)->Q v H'
def ik.res{rs:List R}{vs:List V}{H1:Hp}{os:List O}{o:O}{Q:VK}(h:ik K F H A Z aw rs vs H1)(e:gQ aw rs=some os)(q:∀v H',ik K F H A Z aw [.own o] [v] H'->Q v H'):
  ∃F1,aO F1 H1/\mG K F1 H1 vs os/\Res K F1 H1 o Q:=by
 obtain⟨F1,A1,x,k,hh⟩:=h;have hl:(vs.map some).length=(rs.map R.o).length:=by rw[bO,bO,hh.length]
 obtain⟨B,C,h1,h2,h3⟩:=ai.split hl k.os;refine⟨F1,k.le,Er h2 h1 hh e,λv H' Av s w nd fresh=>q v H' ?_⟩
 obtain⟨B',kB,sub⟩:=k.part hl;obtain⟨k2,x2⟩:=kB.push s w nd fresh;exact⟨F1,Av++B',x.trans ((Ext.lO Ext.refl sub).trans x2),k2,jn⟩
theorem Res.flat{d:D}{v:V}{Q:VK}(h:Res K F H (.Y d) Q)(e:nJ d=some v):Q v H:=h v H [] (aO.refl _) (.Y (.flat e .nil) .nil) .nil (λ_ m=>by cases m)
theorem Res.Y{d:D}{v:V}{Q:VK}(h:Res K F H (.Y d) Q)(e:ax K F [v] [d]):Q v H:=h v H [] (aO.refl _) (.Y e .nil) .nil (λ_ m=>by cases m)
end
noncomputable def gC(d:D):GE:=λQ0=>some (.own (.Y d),Q0)
noncomputable def ae(i:Nat):GE:=λQ0=>match Q0[i]? with
 |some (some (.Y d))=>some (.own (.Y d),Q0)
 |some (some _)=>some (.var i,Q0)
 |_=>none
section
variable{X:Cx}{K:FG}{e a b:Expr}{es:List Expr}{fa fb:GE}{fs:GA}{pos:Pos}
def iy{v:V}{d:D}(h:PE X e (tC v))(q:nJ d=some v:=by rfl):PE X e (tG K (gC d)):=h.mono λZ H Q t=>by
 obtain⟨F,A,Q0,r,aw,k,e,w⟩:=t;cases e;obtain⟨k2,x⟩:=k.push (v:=v) (o:=.Y d) (Av:=[]) (aO.refl _) (.Y (.flat q .nil) .nil) .nil (λ_ m=>by cases m)
 exact w v H ⟨F,_,x,k2,jn⟩
def Y9{i:Nat}(h:PE X e (qI i)):PE X e (tG K (ae i)):=h.mono λZ H Q t=>by
 obtain⟨F,A,Q0,r,aw,k,e,w⟩:=t;unfold ae at e;cases q:Q0[i]? with
 |none=>rw[q] at e;cases e
 |some z=>
  cases z with
  |none=>rw[q] at e;cases e
  |some o=>
   rw[q] at e;obtain⟨v,Ai,B,g1,g2,g3,g4⟩:=k.os.take q;refine⟨v,g1,w v H ?_⟩;cases o with
   |Y d=>
    cases e;cases g2 with
    |Y rp _=>
     obtain⟨k2,x⟩:=k.push (v:=v) (o:=.Y d) (Av:=[]) (aO.refl _) (.Y rp .nil) .nil (λ_ m=>by cases m)
     exact⟨F,_,x,k2,jn⟩
   |_=>
    cases e;exact⟨F,A,Ext.refl,⟨k.le,.skip k.os,k.nd,k.fr⟩,g1,jn⟩
noncomputable def gN:GA:=λQ0=>some ([],Q0)
noncomputable def aj(f:GE)(g:GA):GA:=λQ0=>(f Q0).bind λp=>(g p.2).bind λq=>some (p.1::q.1,q.2)
def M9{f:GE}{g:GA}{Q0 aw:Gm}{rs:List R}(e:aj f g Q0=some (rs,aw)):∃r aJ LZ,f Q0=some (r,aJ)/\g aJ=some (LZ,aw)/\rs=r::LZ:=by
 unfold aj at e;cases e1:f Q0 with
 |none=>rw[e1] at e;cases e
 |some p=>
  rw[e1] at e;dsimp only[Option.bind] at e;cases e2:g p.2 with
  |none=>rw[e2] at e;cases e
  |some q=>rw[e2] at e;cases e;exact⟨p.1,p.2,q.1,rfl,e2,rfl⟩
def aN:PA X [] (kb K gN):=yt.mono λZ H Q t=>by
 obtain⟨F,A,Q0,r,aw,k,e,w⟩:=t;cases e;exact w [] H ⟨F,A,Ext.refl,k,jn⟩
def xb{Z:St}{H:Hp}{Q:List V->Hp->Prop}(t:kb K (aj fa fs) Z H Q):wN (tG K fa) (kb K fs) Z H Q:=by
 obtain⟨F,A,Q0,r,aw,k,e,w⟩:=t;obtain⟨r1,aJ,rs,e1,e2,rfl⟩:=M9 e;refine⟨F,A,Q0,r1,aJ,k,e1,λv H1 p=>?_⟩
 obtain⟨F1,A1,x,k1,hh⟩:=id p;obtain⟨C,kC,fr⟩:=OK.frame (τ:=[some v]) (Θ:=[r1.o]) k1 rfl;refine⟨F1,C,aJ,rs,aw,kC,e2,λvs H2 p2=>w (v::vs) H2 ?_⟩
 obtain⟨F2,A2,x2,k2,h2⟩:=p2;obtain⟨A3,x3,k3⟩:=fr _ _ _ _ _ x2 k2;exact⟨F2,A3,x.trans x3,k3,i9.one hh h2⟩
def av(ha:PE X e (tG K fa))(hs:PA X es (kb K fs))(hp:starEach (e::es) X.env=(false,eval e X.env)::starEach es X.env:=by rfl):PA X (e::es) (kb K (aj fa fs)):=
 (W3 ha hs hp).mono λZ H Q t=>xb t
def gO(g:List O->ak O)(fs:GA):GE:=λQ0=>(fs Q0).bind λp=>(gQ p.2 p.1).bind λos=>(g os).bind λo=>some (.own o,p.2)
abbrev gB(g:List O->ak O)(fa fb:GE):GE:=gO g (aj fa (aj fb gN))
abbrev Gn(g:List O->ak O)(fa:GE):GE:=gO g (aj fa gN)
def Xj{g:List O->ak O}{Q0 aw:Gm}{r:R}(e:gO g fs Q0=some (r,aw)):∃rs os o,fs Q0=some (rs,aw)/\gQ aw rs=some os/\g os=some o/\r=.own o:=by
 unfold gO at e;cases e1:fs Q0 with
 |none=>rw[e1] at e;cases e
 |some p=>
  rw[e1] at e;dsimp only[Option.bind] at e;cases e2:gQ p.2 p.1 with
  |none=>rw[e2] at e;cases e
  |some os=>
   rw[e2] at e;dsimp only at e;cases e3:g os with
   |none=>rw[e3] at e;cases e
   |some o=>rw[e3] at e;cases e;exact⟨p.1,os,o,rfl,e2,e3,rfl⟩
def cO(K:FG)(r:List V->Hp->VK->Prop)(g:List O->ak O):Prop:=
 ∀(F H:Hp) (vs:List V) (os:List O) (o:O) (Q:VK),aO F H->mG K F H vs os->g os=some o->Res K F H o Q->r vs H Q
def BG{r:List V->Hp->VK->Prop}{g:List O->ak O}(ok:cO K r g){Z:St}{H:Hp}{Q:VK}(t:tG K (gO g fs) Z H Q):kb K fs Z H λvs H1=>r vs H1 Q:=by
 obtain⟨F,A,Q0,rr,aw,k,e,w⟩:=t;obtain⟨rs,os,o,e1,e2,e3,rfl⟩:=Xj e;refine⟨F,A,Q0,rs,aw,k,e1,λvs H1 p=>?_⟩
 obtain⟨F1,le,eW,res⟩:=p.res e2 w;exact ok F1 H1 vs os o Q le eW e3 res
def nk(r:R2):List V->Hp->VK->Prop:=λvs H Q=>∃x y,vs=[x,y]/\r x y H Q
def LW(r:V->Hp->VK->Prop):List V->Hp->VK->Prop:=λvs H Q=>∃x,vs=[x]/\r x H Q
def tG.mono{f:GE}{Q1 Q2:VK}{Z:St}{H:Hp}(t:tG K f Z H Q1)(q:∀v H',Q1 v H'->Q2 v H'):tG K f Z H Q2:=by
 obtain⟨F,A,Q0,rr,aw,k,e,w⟩:=t;exact⟨F,A,Q0,rr,aw,k,e,λv H' p=>q _ _ (w v H' p)⟩
def ES{r:R2}{g:List O->ak O}(ok:cO K (nk r) g){Z:St}{H:Hp}{Q:VK}(t:tG K (gB g fa fb) Z H Q):Dj r (tG K fa) (tG K fb) Z H Q:=by
 show tG K fa Z H λx H1=>tG K fb Z H1 λy H2=>r x y H2 Q
 refine tG.mono (xb (BG ok t)) λx H1 h=>tG.mono (xb h) λy H2 h2=>?_
 obtain⟨F,A,Q0,rs,aw,k,e,w⟩:=h2;cases e;obtain⟨x',y',e1,h3⟩:=w [] H2 ⟨F,A,Ext.refl,k,jn⟩;cases e1;exact h3
def υ{r:V->Hp->VK->Prop}{g:List O->ak O}(ok:cO K (LW r) g){Z:St}{H:Hp}{Q:VK}(t:tG K (Gn g fa) Z H Q):tG K fa Z H λx H1=>r x H1 Q:=by
 refine tG.mono (xb (BG ok t)) λx H1 h=>?_
 obtain⟨F,A,Q0,rs,aw,k,e,w⟩:=h;cases e;obtain⟨x',e1,h3⟩:=w [] H1 ⟨F,A,Ext.refl,k,jn⟩;cases e1;exact h3
def c_{op:Operator}{r:R2}{g:List O->ak O}(ho:hX X (binaryOp op) r)(ok:cO K (nk r) g)(ha:PE X a (tG K fa))(hb:PE X b (tG K fb)):PE X (.BinOp a op b pos) (tG K (gB g fa fb)):=
 (ο ho ha hb).mono λ_ _ _ t=>ES ok t
def zj{op:CmpOp}{r:R2}{g:List O->ak O}(ho:hX X (compareOp op) r)(ok:cO K (nk r) g)(ha:PE X a (tG K fa))(hb:PE X b (tG K fb))(hm:behindInMarks op b=false:=by first|rfl|exact QG _):PE X (.Compare a [op] [b] pos) (tG K (gB g fa fb)):=
 (WZ ho ha hb hm).mono λ_ _ _ t=>ES ok t
def χ{r:R2}{g:List O->ak O}(hr:qm X r)(ok:cO K (nk r) g)(ha:PE X a (tG K fa))(hb:PE X b (tG K fb))(hs:A7 b:=by exact λ_ _=>rfl):PE X (.Subscript a b pos) (tG K (gB g fa fb)):=
 (JX hr ha hb hs).mono λ_ _ _ t=>ES ok t
def RA{op:UnaryOp}{r:V->Hp->VK->Prop}{g:List O->ak O}(ho:DI X (unaryOp op) r)(ok:cO K (LW r) g)(ha:PE X a (tG K fa)):PE X (.UnaryOp op a pos) (tG K (Gn g fa)):=
 (ρ ho ha).mono λ_ _ _ t=>υ ok t
variable{x:Str}{p:Pos}{id T:String}{r:List V->Hp->VK->Prop}{g:List O->ak O}
def iO(hc:c7 X (.builtin id) r)(ok:cO K r g)(hm:X.mg x=none)(hv:bootBuiltins x=some (.builtin id))(ha:PA X (e::es) (kb K fs))(hg:Gl X x:=by rfl)(hn:x≠"__name__":=by decide)(o_:(x == ("__debug__":Str))=false:=by decide)
  (he:starEach (e::es) X.env=(false,eval e X.env)::starEach es X.env:=by rfl) (kl:(backTo pos (starEach es X.env)).any (·.1)=false:=by rfl):PE X (.Call (.Name x p) (e::es) [] pos) (tG K (gO g fs)):=
 (Vr hc hg hm hv ha hn o_ he kl).mono λ_ _ _ t=>BG ok t
def uA(hc:c7 X (.type T) r)(ok:cO K r g)(hm:X.mg x=none)(hv:bootBuiltins x=some (.type T))(ha:PA X (e::es) (kb K fs))(hg:Gl X x:=by rfl)(hn:x≠"__name__":=by decide)(o_:(x == ("__debug__":Str))=false:=by decide)
  (he:starEach (e::es) X.env=(false,eval e X.env)::starEach es X.env:=by rfl) (kl:(backTo pos (starEach es X.env)).any (·.1)=false:=by rfl):PE X (.Call (.Name x p) (e::es) [] pos) (tG K (gO g fs)):=
 (Uv hc hg hm hv ha hn o_ he kl).mono λ_ _ _ t=>BG ok t
mutual
noncomputable def O.d:O->D
 |.Y d=>d
 |.lst xs=>.lst (O.dl xs)
 |.tup xs=>.tup (O.dl xs)
 |.aI kvs=>.aI (O.dk kvs)
noncomputable def O.dl:List O->List D
 |[]=>[]
 |x::xs=>x.d::O.dl xs
noncomputable def O.dk:List (TK×O)->List (TK×D)
 |[]=>[]
 |(k,x)::xs=>(k,x.d)::O.dk xs
end
end
def ai.rep{K:FG}{F F' H:Hp}{Z:St}{Q0:Gm}{A:List ao}(h:ai K F H Z Q0 A)(s:aO F F')(k:∀a∈A,∀o,H a=some o->F' a=some o):
  ∀(vs:List V) (os:List O),Z=vs.map some->Q0=os.map some->ax K F' vs (O.dl os):=by
 induction h with
 |nil=>
  intro vs os e1 e2;cases vs with
  |nil=>cases os with
   |nil=>exact .nil
   |cons _ _=>cases e2
  |cons _ _=>cases e1
 |skip _ _=>
  intro vs os e1 e2;cases os with
  |nil=>cases e2
  |cons _ _=>injection e2 with e3 _;cases e3
 |Y r _ ih=>
  intro vs os e1 e2;cases vs with
  |nil=>cases e1
  |cons v vs=>cases os with
   |nil=>cases e2
   |cons o os=>
    injection e1 with e3 e4;injection e2 with e5 e6;cases e3;cases e5;exact .cons (r.mono s) (ih k vs os e4 e6)
 |lst e _ _ i1 i2=>
  intro vs os e1 e2;cases vs with
  |nil=>cases e1
  |cons v vs=>cases os with
   |nil=>cases e2
   |cons o os=>
    injection e1 with e3 e4;injection e2 with e5 e6;cases e3;cases e5;exact .lst (.inl (k _ (by simp) _ e)) (i1 (λa m=>k a (by simp[m])) _ _ rfl rfl) (i2 (λa m=>k a (by simp[m])) vs os e4 e6)
 |tup e _ _ i1 i2=>
  intro vs os e1 e2;cases vs with
  |nil=>cases e1
  |cons v vs=>cases os with
   |nil=>cases e2
   |cons o os=>
    injection e1 with e3 e4;injection e2 with e5 e6;cases e3;cases e5;exact .tup (iB.of (k _ (by simp) _ e)) (i1 (λa m=>k a (by simp[m])) _ _ rfl rfl) (i2 (λa m=>k a (by simp[m])) vs os e4 e6)
 |@aI a kvs ps ep A B Z Q0 e q r _ _ i1 i2=>
  intro vs os e1 e2;cases vs with
  |nil=>cases e1
  |cons v vs=>cases os with
   |nil=>cases e2
   |cons o os=>
    injection e1 with e3 e4;injection e2 with e5 e6;cases e3;cases e5;have hk:∀ps:List (TK×O),(O.dk ps).map (·.1)=ps.map (·.1)/\(O.dk ps).map (·.2)=O.dl (ps.map (·.2))/\(O.dk ps).map (·.1.d)=ps.map (·.1.d):=by
     intro ps
     induction ps with
     |nil=>exact⟨rfl,rfl,rfl⟩
     |cons p ps ih=>obtain⟨a,b⟩:=p;exact⟨by simp[O.dk,ih.1],by simp[O.dk,O.dl,ih.2.1],by simp[O.dk,ih.2.2]⟩
    refine .aI (k _ (by simp) _ e) (q.trans (hk ps).1.symm) (by rw[(hk ps).2.2];exact r.mono s) ?_ (i2 (λa m=>k a (by simp[m])) vs os e4 e6)
    rw[(hk ps).2.1];exact i1 (λa m=>k a (by simp[m])) _ _ (by simp) (by simp)
section
variable{K:FG}{F H:Hp}{A:List ao}{Z:St}{Q0:Gm}
def OK.freeze{v:V}{o:O}(k:OK K F H (some v::Z) (some o::Q0) A):∃F' A',OK K F' H (some v::Z) (some (.Y o.d)::Q0) A'/\Ext F H A F' H A':=by
 obtain⟨B,C,h1,h2,h3⟩:=k.os.one;subst h3;obtain⟨n1,n2,n3⟩:=lh.mp k.nd
 let F':Hp:=λa=>if a∈B then H a else F a
 have Sr:∀a,a∈B->F' a=H a:=λa m=>aY m
 have vc:∀a,a∉B->F' a=F a:=λa m=>bb m
 have s:aO F F':=λa u e=>by
  rw[vc a λm=>by rw[k.fr a (jQ _ m)] at e;cases e]
  exact e
 have le:aO F' H:=λa u e=>by
  by_cases m:a∈B
  .rw[Sr a m] at e;exact e
  .rw[vc a m] at e;exact k.le a u e
 have rp:ax K F' [v] [o.d]:=h1.rep s (λa m u e=>by rw[Sr a m];exact e) [v] [o] rfl rfl
 refine⟨F',C,⟨le,.Y rp (h2.keep s λa _ u e=>e),n2,λa m=>?_⟩,s,λa u e _=>e,λa h=>h,λa h=>?_,λa m=>.inl (ir _ m)⟩
 .rw[vc a λz=>n3 a z a m rfl]
  exact k.fr a (ir _ m)
 .by_cases m:a∈B
  .exact .inr (.inl (jQ _ m))
  .rw[vc a m] at h;exact .inl h
def OK.B8{v:V}{o:O}{i:Nat}{A:List ao}(k:OK K F H (some v::Z) (none::Q0) A)(hv:Z[i]?=some (some v))(ho:Q0[i]?=some (some o)):∃A',OK K F H (some v::Z) (some o::Q0.set i none) A'/\Ext F H A F H A':=by
 obtain⟨B,C,h1,h2,h3⟩:=k.os.one;subst h3;have eB:B=[]:=by cases h1 with|skip t=>cases t;rfl
 subst eB;obtain⟨v',Ai,B',g1,g2,g3,g4⟩:=h2.take ho;rw[hv] at g1;cases g1;have nd:=k.nd;have fr:=k.fr;rw[gc] at nd fr;exact⟨Ai++B',.perm (g2.app g3) k.le nd fr g4.symm,Ext.lO Ext.refl λa m=>g4.mem_iff.mpr m⟩
end
def ay(f:GE):GE:=λQ0=>(f Q0).bind λp=>match p.1 with
 |.own o=>some (.own (.Y o.d),p.2)
 |.var i=>match p.2[i]? with
  |some (some o)=>some (.own (.Y o.d),p.2.set i (some (.Y o.d)))
  |_=>none
noncomputable def fY(f:GE):GE:=λQ0=>(f Q0).bind λp=>match p.1 with
 |.own o=>some (.own o,p.2)
 |.var i=>match p.2[i]? with
  |some (some o)=>some (.own o,p.2.set i none)
  |_=>none
section
variable{X:Cx}{K:FG}{e a b:Expr}{es:List Expr}{fa fb:GE}{fs:GA}{pos:Pos}
theorem xc{α:Type}:∀{l:List α} {i:Nat} {x:α},l[i]?=some x->l.set i x=l
 |[],_,_,e=>by simp at e
 |y::l,0,x,e=>by simp at e;subst e;rfl
 |y::l,i+1,x,e=>by rw[List.set_cons_succ,xc (by simpa using e)]
theorem ik.Y{F H:Hp}{A:List ao}{Z:St}{Q0 aJ aw:Gm}{r r':R}{v:V}{H':Hp}{f:GE}(e:f Q0=some (r,aJ))(e':ay f Q0=some (r',aw))(h:ik K F H A Z aJ [r] [v] H'):ik K F H A Z aw [r'] [v] H':=by
 obtain⟨F1,A1,x,k,hh⟩:=h;unfold ay at e';rw[e] at e';cases r with
 |own o=>
  cases e';obtain⟨F2,A2,k2,x2⟩:=OK.freeze (Z:=Z) (Q0:=aJ) k;exact⟨F2,A2,x.trans x2,k2,jn⟩
 |var i=>
  dsimp only[Option.bind] at e';cases q:aJ[i]? with
  |none=>rw[q] at e';cases e'
  |some z=>
   cases z with
   |none=>rw[q] at e';cases e'
   |some o=>
    rw[q] at e';cases e';have hv:Z[i]?=some (some v):=hh.1;obtain⟨A2,k2,x2⟩:=OK.B8 (Z:=Z) (Q0:=aJ) k hv q;obtain⟨F3,A3,k3,x3⟩:=OK.freeze k2;obtain⟨B,C,h1,h2,h3⟩:=k3.os.one;have hi:i<(aJ.set i none).length:=by
     rw[Dv];exact(iA.mp q).1
    have rp:ax K F3 [v] [o.d]:=by cases h1 with|Y r _=>exact r
    have eB:B=[]:=by cases h1 with|Y _ t=>cases t;rfl
    subst eB;obtain⟨B2,g1,C2,g2,g3⟩:=ai.put (.Y rp .nil) i h2 hi;rw[xc hv,My] at g1;rw[gc] at g2 h3;subst h3;have yh:B2.Nodup:=g2.nodup_iff.mpr (k3.nd.sublist g3);have sub:∀a∈B2,a∈A3:=λa m=>g3.subset (g2.mem_iff.mp m)
    exact⟨F3,B2,(x.trans (x2.trans x3)).lO sub,⟨k3.le,.Y rp g1,yh,λa m=>k3.fr a (sub a m)⟩,jn⟩
def VE{f:GE}{Q0 aw:Gm}{r:R}(e:ay f Q0=some (r,aw)):∃r1 aJ,f Q0=some (r1,aJ):=by
 unfold ay at e;cases q:f Q0 with
 |none=>rw[q] at e;cases e
 |some p=>exact⟨p.1,p.2,rfl⟩
def QJ{Z:St}{H:Hp}{Q:VK}(t:tG K (ay fa) Z H Q):tG K fa Z H Q:=by
 obtain⟨F,A,Q0,rr,aw,k,e,w⟩:=t;obtain⟨r1,aJ,e1⟩:=VE e;exact⟨F,A,Q0,r1,aJ,k,e1,λv H' p=>w v H' (p.Y e1 e)⟩
def cf(h:PE X e (tG K fa)):PE X e (tG K (ay fa)):=h.mono λ_ _ _ t=>QJ t
def Xk{Z:St}{H:Hp}{Q:VK}(t:tG K (fY fa) Z H Q):tG K fa Z H Q:=by
 obtain⟨F,A,Q0,rr,aw,k,e,w⟩:=t;unfold fY at e;cases q:fa Q0 with
 |none=>rw[q] at e;cases e
 |some p=>
  rw[q] at e;refine⟨F,A,Q0,p.1,p.2,k,q,λv H' pp=>w v H' ?_⟩
  obtain⟨r,aJ⟩:=p;cases r with
  |own o=>cases e;exact pp
  |var i=>
   dsimp only[Option.bind] at e;cases q:aJ[i]? with
   |none=>rw[q] at e;cases e
   |some z=>
    cases z with
    |none=>rw[q] at e;cases e
    |some o=>
     rw[q] at e;cases e;obtain⟨F1,A1,x,k,hh⟩:=pp;obtain⟨A2,k2,x2⟩:=OK.B8 (Z:=Z) (Q0:=aJ) k hh.1 q;exact⟨F1,A2,x.trans x2,k2,jn⟩
def uI(h:PE X e (tG K fa)):PE X e (tG K (fY fa)):=h.mono λ_ _ _ t=>Xk t
noncomputable def gK:List R->ak (List O)
 |[]=>some []
 |.own o::rs=>(gK rs).bind λos=>some (o::os)
 |.var _::_=>none
theorem uF:∀{rs:List R} {os:List O},gK rs=some os->rs.map R.o=os.map some
 |[],os,e=>by cases e;rfl
 |.own o::rs,os,e=>by
  unfold gK at e;cases q:gK rs with
  |none=>rw[q] at e;cases e
  |some wC=>rw[q] at e;cases e;simp[uF q,R.o]
 |.var _::_,_,e=>by cases e
def bC(c:List O->O)(fs:GA):GE:=λQ0=>(fs Q0).bind λp=>if p.1.length<=1000 then(gK p.1).bind λos=>some (.own (c os),p.2) else none
def Ov{c:List O->O}{Q0 aw:Gm}{r:R}(e:bC c fs Q0=some (r,aw)):∃rs os,fs Q0=some (rs,aw)/\rs.length<=1000/\gK rs=some os/\r=.own (c os):=by
 unfold bC at e;cases e1:fs Q0 with
 |none=>rw[e1] at e;cases e
 |some p=>
  rw[e1] at e;dsimp only[Option.bind] at e;split at e
  .cases e2:gK p.1 with
   |none=>rw[e2] at e;cases e
   |some os=>rw[e2] at e;cases e;exact⟨p.1,os,rfl,by assumption,e2,rfl⟩
  .cases e
def kG(h:PA X es (kb K fs)):PE X (.List es pos) (tG K (bC .lst fs)):=(YX h).mono λZ H Q t=>by
 obtain⟨F,A,Q0,rr,aw,k,e,w⟩:=t;obtain⟨rs,os,e1,e2,e3,rfl⟩:=Ov e;refine⟨F,A,Q0,rs,aw,k,e1,λvs H1 p=>?_⟩
 obtain⟨F1,A1,x,k1,hh⟩:=p;rw[uF e3] at k1;have hl:=hh.length;have ho:os.length=rs.length:=by have:=congrArg List.length (uF e3);simpa using this.symm
 refine⟨QI (by lia),λl hn=>w (.ref l) _ ?_⟩
 obtain⟨B,C,h1,h2,h3⟩:=ai.split (by simp only[bO];lia) k1.os
 have nl:∀a∈A1,a≠l:=λa m z=>k1.os.there a m (by rw[z];exact hn)
 have kp:∀a∈A1,∀o,H1 a=some o->upd H1 l (.lst vs) a=some o:=λa m o e=>by rw[dr (nl a m)];exact e
 subst h3;refine⟨F1,l::B++C,x.trans ⟨aO.refl _,λa o e _=>?_,λa h=>?_,λa h=>.inl h,λa m=>?_⟩,⟨λa o e=>?_,?_,?_,?_⟩,jn⟩
 .rw[dr (mH e hn)];exact e
 .by_cases z:a=l
  .rw[z,jG];exact λz=>by cases z
  .rw[dr z];exact h
 .rcases eX.mp m with rfl|m
  .exact .inr hn
  .exact .inl m
 .have:=k1.le a o e;rw[dr (mH this hn)];exact this
 .exact .lst jG (h1.keep (aO.refl _) λa m=>kp a (jQ _ m)) (h2.keep (aO.refl _) λa m=>kp a (ir _ m))
 .exact i7.mpr ⟨λm=>nl l m rfl,k1.nd⟩
 .intro a m;rcases eX.mp m with rfl|m
  .exact k1.le.free hn
  .exact k1.fr a m
def kH{x1}(h:PA X es (kb K fs)):PE X (.Tuple es x1 pos) (tG K (bC .tup fs)):=(YW h).mono λZ H Q t=>by
 obtain⟨F,A,Q0,rr,aw,k,e,w⟩:=t;obtain⟨rs,os,e1,e2,e3,rfl⟩:=Ov e;refine⟨F,A,Q0,rs,aw,k,e1,λvs H1 p=>?_⟩
 obtain⟨F1,A1,x,k1,hh⟩:=p;rw[uF e3] at k1;have hl:=hh.length;have ho:os.length=rs.length:=by have:=congrArg List.length (uF e3);simpa using this.symm
 refine⟨QI (by lia),λl hn=>w (.ref l) _ ?_⟩
 obtain⟨B,C,h1,h2,h3⟩:=ai.split (by simp only[bO];lia) k1.os
 have nl:∀a∈A1,a≠l:=λa m z=>k1.os.there a m (by rw[z];exact hn)
 have kp:∀a∈A1,∀o,H1 a=some o->upd H1 l (.tup vs) a=some o:=λa m o e=>by rw[dr (nl a m)];exact e
 subst h3;refine⟨F1,l::B++C,x.trans ⟨aO.refl _,λa o e _=>?_,λa h=>?_,λa h=>.inl h,λa m=>?_⟩,⟨λa o e=>?_,?_,?_,?_⟩,jn⟩
 .rw[dr (mH e hn)];exact e
 .by_cases z:a=l
  .rw[z,jG];exact λz=>by cases z
  .rw[dr z];exact h
 .rcases eX.mp m with rfl|m
  .exact .inr hn
  .exact .inl m
 .have:=k1.le a o e;rw[dr (mH this hn)];exact this
 .exact .tup jG (h1.keep (aO.refl _) λa m=>kp a (jQ _ m)) (h2.keep (aO.refl _) λa m=>kp a (ir _ m))
 .exact i7.mpr ⟨λm=>nl l m rfl,k1.nd⟩
 .intro a m;rcases eX.mp m with rfl|m
  .exact k1.le.free hn
  .exact k1.fr a m
def zk:GE:=λQ0=>some (.own (.aI []),Q0)
def Ow{P:gv}{w:eZ}{H:Hp}(h:df)(hb:sysModules<h.objs.size):cC P w H (h.push { cls:=.type "dict",data:=.dict #[]}) h.objs.size (.dG [] 0):=
 ⟨nq _,oI.mpr (Ne.symm (mS hb)),_,#[],oG _ rfl,⟨rfl,rfl,rfl⟩,rfl,.nil,yJ⟩
def Y_:TE:=λ_ H Q=>∀p,H p=none->Q (.ref p) (upd H p (.dG [] 0))
def sW:PE X (.Dict [] [] pos) Y_:=λaf s Z H Q I h=>
 wpAny_Dict_empty ⟨.ref s.heap.objs.size,_,I.laid (a:=s.heap.objs.size) (o:=.dG [] 0) (t':=s.toks) (λ_ _ q=>jJ _ q) (cX _) (Ow s.heap I.big),rfl,h _ (I.cV.fresh (cX _))⟩
def Ib:PE X (.Dict [] [] pos) (tG K zk):=sW.mono λZ H Q t=>by
 obtain⟨F,A,Q0,rr,aw,k,e,w⟩:=t;cases e;intro l hn;refine w (.ref l) _ ?_;have s:aO H (upd H l (.dG [] 0)):=uE hn;obtain⟨k2,x⟩:=k.push (v:=.ref l) (o:=.aI []) (Av:=[l]++[]++[]) s (.aI (kvs:=[]) jG rfl .nil .nil .nil) (by simp) (λa m=>by simp at m;rw[m];exact hn)
 exact⟨F,_,x,k2,jn⟩
noncomputable def gT(f:GE):GT:=λQ0=>(f Q0).bind λp=>match p.1 with
 |.own (.Y (.bl b))=>some (b,p.2)
 |_=>none
def ik.drop{F H:Hp}{A:List ao}{Z:St}{aw:Gm}{rs:List R}{vs:List V}{H':Hp}(h:ik K F H A Z aw rs vs H'):ik K F H A Z aw [] [] H':=by
 obtain⟨F1,A1,x,k,hh⟩:=h;obtain⟨B,kB,sub⟩:=k.part (by rw[bO,bO,hh.length])
 exact⟨F1,B,x.lO sub,kB,jn⟩
theorem ik.flat{F H:Hp}{A:List ao}{Z:St}{aw:Gm}{d:D}{v w:V}{H':Hp}(h:ik K F H A Z aw [.own (.Y d)] [v] H')(e:nJ d=some w):v=w:=by
 obtain⟨F1,A1,x,k,hh⟩:=h;obtain⟨B,C,h1,_⟩:=ai.one (Z:=Z) (Q0:=aw) k.os;cases h1 with
 |Y r _=>
  cases r with
  |flat e' _=>rw[e] at e';exact(Option.some.inj e').symm
  |lst _ _ _=>cases e
  |tup _ _ _=>cases e
  |aI _ _ _ _ _=>cases e
  |fH _ _=>cases e
  |exc _ _=>cases e
def Xl{f:GE}{Z:St}{H:Hp}{Q:Bool->Hp->Prop}(t:iI K (gT f) Z H Q):tG K f Z H λx H'=>∃k,x=.bl k/\Q k H':=by
 obtain⟨F,A,Q0,b,aw,k,e,w⟩:=t;unfold gT at e;cases q:f Q0 with
 |none=>rw[q] at e;cases e
 |some p=>
  obtain⟨r,aJ⟩:=p;rw[q] at e;dsimp only[Option.bind] at e;cases r with
  |var i=>cases e
  |own o=>
   cases o with
   |Y d=>
    cases d with
    |bl b'=>
     cases e;exact⟨F,A,Q0,_,_,k,q,λv H' pp=>⟨_,pp.flat rfl,w H' pp.drop⟩⟩
    |_=>cases e
   |_=>cases e
def eJ{op:CmpOp}{r:R2}{g:List O->ak O}(ho:hX X (compareOp op) r)(ok:cO K (nk r) g)(ha:PE X a (tG K fa))(hb:PE X b (tG K fb))(hm:behindInMarks op b=false:=by first|rfl|exact QG _):PT X (.Compare a [op] [b] pos) (iI K (gT (gB g fa fb))):=
 (W0 ho ha hb hm).mono λ_ _ _ t=>ES ok (Xl t)
noncomputable def pI:O->ak Bool
 |.Y .bF=>some false
 |.Y (.bl b)=>some b
 |.Y (.int i)=>some (i != 0)
 |.Y (.str x)=>if x.length<=1000000 then some ((x.length:Int) != 0) else none
 |.Y (.lst xs)=>some (!xs.isEmpty)
 |.Y (.tup xs)=>some (!xs.isEmpty)
 |.lst xs=>some (!xs.isEmpty)
 |.tup xs=>some (!xs.isEmpty)
 |_=>none
def gk(f:GE):GT:=λQ0=>(f Q0).bind λp=>(ka p.2 p.1).bind λo=>(pI o).bind λb=>some (b,p.2)
def DJ{α β:Type}{xs:List α}{ys:List β}(h:xs.length=ys.length):(!xs.isEmpty) = !ys.isEmpty:=by
 cases xs <;> cases ys <;> simp_all
def Xm{F H:Hp}{v:V}{o:O}{b:Bool}{B:List ao}(le:aO F H)(h:ai K F H [some v] [some o] B)(e:pI o=some b):uw K v H b:=by
 cases h with
 |lst q i _=>cases e;exact .inl ⟨_,dH.of q,DJ (by have:=i.length;simpa using this.symm)⟩
 |tup q i _=>cases e;exact .inr (.inl ⟨_,iB.of q,DJ (by have:=i.length;simpa using this.symm)⟩)
 |aI q z r i _=>cases e
 |@Y v d Z Q0 B r _=>
  cases r with
  |lst q i _=>cases e;exact .inl ⟨_,.inl (le.rd q),DJ i.length.symm⟩
  |tup q i _=>cases e;exact .inr (.inl ⟨_,le.pD q,DJ i.length.symm⟩)
  |aI q z r i _=>cases e
  |fH _ _=>cases e
  |exc _ _=>cases e
  |flat q _=>
   cases d with
   |bF=>cases q;cases e;rfl
   |bl b'=>cases q;cases e;rfl
   |int i=>cases q;cases e;rfl
   |str x=>
    cases q;unfold pI at e;dsimp only at e;split at e
    .cases e;exact⟨k_ (by assumption) (by decide),rfl⟩
    .cases e
   |ty n=>cases e
   |lst _=>cases q
   |tup _=>cases q
   |aI _=>cases q
   |fH _=>cases q
   |exc _ _=>cases q
def qU{X:Cx}{a:Expr}{fa:GE}(ha:PE X a (tG K fa))(he:∀whole,isTrue a X.env whole=(do let v <-whole;standAt a.pos;holding [v] (truthy v)):=by exact λ_=>rfl)(hK:X.K=K:=by rfl):PT X a (iI K (gk fa)):=
 (UB K ha he hK).mono λZ H Q t=>by
  obtain⟨F,A,Q0,b,aw,k,e,w⟩:=t;unfold gk at e;cases q:fa Q0 with
  |none=>rw[q] at e;cases e
  |some p=>
   obtain⟨r,aJ⟩:=p;rw[q] at e;dsimp only[Option.bind] at e;cases q2:ka aJ r with
   |none=>rw[q2] at e;cases e
   |some o=>
    rw[q2] at e;dsimp only at e;cases q3:pI o with
    |none=>rw[q3] at e;cases e
    |some b'=>
     rw[q3] at e;cases e;refine⟨F,A,Q0,r,_,k,q,λv H' pp=>⟨_,?_,w H' pp.drop⟩⟩
     obtain⟨F1,le,eW,_⟩:=ik.res (Q:=λ_ _=>True) (o:=.Y .bF) pp (os:=[o]) (by unfold gQ;rw[q2];rfl) (λ_ _ _=>jn)
     cases eW with
     |cons hs _=>obtain⟨B,hB⟩:=hs;exact Xm le hB q3
noncomputable def jy(f:GT):GT:=λQ0=>(f Q0).bind λp=>some (!p.1,p.2)
noncomputable def i5(f g:GT):GT:=λQ0=>(f Q0).bind λp=>if p.1=true then g p.2 else some (false,p.2)
noncomputable def nX(f g:GT):GT:=λQ0=>(f Q0).bind λp=>if p.1=true then some (true,p.2) else g p.2
def Ic{f:GT}{h:GT}{φ:Bool->GT}(eh:∀Q0,h Q0=(f Q0).bind λp=>φ p.1 p.2){Z:St}{H:Hp}{Q:Bool->Hp->Prop}(t:iI K h Z H Q):iI K f Z H λc H1=>iI K (φ c) Z H1 Q:=by
 obtain⟨F,A,Q0,b,aw,k,e,w⟩:=t;rw[eh] at e;cases q:f Q0 with
 |none=>rw[q] at e;cases e
 |some p=>
  obtain⟨c,aJ⟩:=p;rw[q] at e;refine⟨F,A,Q0,c,aJ,k,q,λH1 pp=>?_⟩
  obtain⟨F1,A1,x,k1,_⟩:=pp;exact⟨F1,A1,aJ,b,aw,k1,e,λH2 p2=>w H2 (by obtain⟨F2,A2,x2,k2,h2⟩:=p2;exact⟨F2,A2,x.trans x2,k2,h2⟩)⟩
def D8{b:Bool}{Z:St}{H:Hp}{Q:Bool->Hp->Prop}(t:iI K (λQ0=>some (b,Q0)) Z H Q):Q b H:=by
 obtain⟨F,A,Q0,b',aw,k,e,w⟩:=t;cases e;exact w H ⟨F,A,Ext.refl,k,jn⟩
def iI.mono{f:GT}{Q1 Q2:Bool->Hp->Prop}{Z:St}{H:Hp}(t:iI K f Z H Q1)(q:∀v H',Q1 v H'->Q2 v H'):iI K f Z H Q2:=by
 obtain⟨F,A,Q0,rr,aw,k,e,w⟩:=t;exact⟨F,A,Q0,rr,aw,k,e,λH' p=>q _ _ (w H' p)⟩
variable{ft gt:GT}{rest:List Expr}
def zl(h:PT X a (iI K ft)):PT X (.UnaryOp .Not a pos) (iI K (jy ft)):=(YN h).mono λZ H Q t=>
 (Ic (φ:=λc Q0=>some (!c,Q0)) (λ_=>rfl) t).mono λc H1 h=>D8 h
def y7(h:PT X a (iI K ft)):PW X (.BoolOp .And [a] pos) (iI K ft):=WU h
def ET(h:PT X a (iI K ft)):PW X (.BoolOp .Or [a] pos) (iI K ft):=YL h
def xu(ha:PT X a (iI K ft))(hb:PW X (.BoolOp .And (b::rest) pos) (iI K gt)):PW X (.BoolOp .And (a::b::rest) pos) (iI K (i5 ft gt)):=(YM ha hb).mono λZ H Q t=>
 (Ic (φ:=λc Q0=>if c=true then gt Q0 else some (false,Q0)) (λ_=>rfl) t).mono λc H1 h=>by
  cases c with
  |true=>exact qD (by simpa using h)
  |false=>exact qC (D8 (by simpa using h))
def FD(ha:PT X a (iI K ft))(hb:PW X (.BoolOp .Or (b::rest) pos) (iI K gt)):PW X (.BoolOp .Or (a::b::rest) pos) (iI K (nX ft gt)):=(μ ha hb).mono λZ H Q t=>
 (Ic (φ:=λc Q0=>if c=true then some (true,Q0) else gt Q0) (λ_=>rfl) t).mono λc H1 h=>by
  cases c with
  |true=>exact qD (D8 (by simpa using h))
  |false=>exact qC (by simpa using h)
def zF(c:GT)(f g:GE):GE:=λQ0=>(c Q0).bind λp=>if p.1=true then f p.2 else g p.2
def Y'{f:GT}{h:GE}{φ:Bool->GE}(eh:∀Q0,h Q0=(f Q0).bind λp=>φ p.1 p.2){Z:St}{H:Hp}{Q:VK}(t:tG K h Z H Q):iI K f Z H λc H1=>tG K (φ c) Z H1 Q:=by
 obtain⟨F,A,Q0,b,aw,k,e,w⟩:=t;rw[eh] at e;cases q:f Q0 with
 |none=>rw[q] at e;cases e
 |some p=>
  obtain⟨c,aJ⟩:=p;rw[q] at e;refine⟨F,A,Q0,c,aJ,k,q,λH1 pp=>?_⟩
  obtain⟨F1,A1,x,k1,_⟩:=pp;exact⟨F1,A1,aJ,b,aw,k1,e,λv H2 p2=>w v H2 (by obtain⟨F2,A2,x2,k2,h2⟩:=p2;exact⟨F2,A2,x.trans x2,k2,h2⟩)⟩
def JY{c:Expr}{fc:GT}(hc:PT X c (iI K fc))(ha:PE X a (tG K fa))(hb:PE X b (tG K fb)):PE X (.IfExp c a b pos) (tG K (zF fc fa fb)):=(Vm hc ha hb).mono λZ H Q t=>
 (Y' (φ:=λc Q0=>if c=true then fa Q0 else fb Q0) (λ_=>rfl) t).mono λc H1 h=>by
  cases c with
  |true=>exact qD (by simpa using h)
  |false=>exact qC (by simpa using h)
end
def a_(A B:List ao):Prop:=∃L,A.Perm L/\L.Sublist B
theorem a_.refl(A:List ao):a_ A A:=⟨A,.refl _,List.Sublist.refl _⟩
def a_.cq{A B:List ao}(p:A.Perm B):a_ A B:=⟨B,p,List.Sublist.refl _⟩
def a_.bS{A B:List ao}(p:A.Sublist B):a_ A B:=⟨A,.refl _,p⟩
theorem a_.trans{A B C:List ao}(x:a_ A B)(y:a_ B C):a_ A C:=by
 obtain⟨L,p,s⟩:=x;obtain⟨M,q,t⟩:=y;obtain⟨N,n1,n2⟩:=List.exists_perm_sublist s q;exact⟨N,p.trans n1.symm,n2.trans t⟩
def a_.mem{A B:List ao}(x:a_ A B):∀a∈A,a∈B:=λa m=>let ⟨_,p,s⟩:=x;s.subset (p.mem_iff.mp m)
def a_.nodup{A B:List ao}(x:a_ A B)(n:B.Nodup):A.Nodup:=let ⟨_,p,s⟩:=x;p.nodup_iff.mpr (n.sublist s)
def a_.app{A B C D:List ao}(x:a_ A B)(y:a_ C D):a_ (A++C) (B++D):=let ⟨_,p,s⟩:=x;let ⟨_,q,t⟩:=y;⟨_,p.append q,s.append t⟩
def OK.sub{K:FG}{F H:Hp}{Z Z':St}{Q0 aw:Gm}{A B:List ao}(k:OK K F H Z Q0 A)(h:ai K F H Z' aw B)(s:a_ B A):OK K F H Z' aw B/\Ext F H A F H B:=
 ⟨⟨k.le,h,s.nodup k.nd,λa m=>k.fr a (s.mem a m)⟩,Ext.lO Ext.refl s.mem⟩
inductive Fl where
 |nx|bk|ct|rt (o:O)
abbrev GS:=Gm->ak (Fl×Gm)
def Kept(m:List Bool)(Z Z':St):Prop:=∀j:Nat,m[j]?=some true->Z'[j]?=Z[j]?
def Kept.refl{m:List Bool}{Z:St}:Kept m Z Z:=λ_ _=>rfl
theorem Kept.trans{m:List Bool}{Z Z1 Z2:St}(a:Kept m Z Z1)(b:Kept m Z1 Z2):Kept m Z Z2:=λj h=>(b j h).trans (a j h)
def Kept.set{m:List Bool}{Z:St}{i:Nat}{v:ak V}(h:(m[i]? == some true)=false):Kept m Z (Z.set i v):=λj hj=>by
 by_cases e:i=j
 .subst e;rw[hj] at h;simp at h
 .rw[Ds e]
def rB(K:FG)(F H:Hp)(A:List ao)(m:List Bool)(Z:St)(aw:Gm)(Z':St)(H':Hp):Prop:=∃F' A',Ext F H A F' H' A'/\OK K F' H' Z' aw A'/\Kept m Z Z'
def AE(K:FG)(F H:Hp)(A:List ao)(m:List Bool)(Z:St)(aw:Gm)(o:O)(v:V)(Z':St)(H':Hp):Prop:=∃F' A',Ext F H A F' H' A'/\OK K F' H' (some v::Z') (some o::aw) A'/\Kept m Z Z'
def Done(K:FG)(m:List Bool)(D:Ends)(F H:Hp)(A:List ao)(Z:St):Fl->Gm->Prop
 |.nx,aw=>∀Z' H',rB K F H A m Z aw Z' H'->D.nx Z' H'
 |.bk,aw=>∀Z' H',rB K F H A m Z aw Z' H'->D.bk Z' H'
 |.ct,aw=>∀Z' H',rB K F H A m Z aw Z' H'->D.ct Z' H'
 |.rt o,aw=>∀v Z' H',AE K F H A m Z aw o v Z' H'->D.rt v H'
def tS(K:FG)(m:List Bool)(f:GS):TS:=λD Z H=>∃F A Q0 fl aw,OK K F H Z Q0 A/\f Q0=some (fl,aw)/\Done K m D F H A Z fl aw
def Done.step{K:FG}{m:List Bool}{D:Ends}{F H F1 H1:Hp}{A A1:List ao}{Z Z1:St}{fl:Fl}{aw:Gm}(d:Done K m D F H A Z fl aw)(x:Ext F H A F1 H1 A1)(kp:Kept m Z Z1):Done K m D F1 H1 A1 Z1 fl aw:=by
 cases fl with
 |nx=>exact λZ' H' ⟨F',A',x',k,q⟩=>d Z' H' ⟨F',A',x.trans x',k,kp.trans q⟩
 |bk=>exact λZ' H' ⟨F',A',x',k,q⟩=>d Z' H' ⟨F',A',x.trans x',k,kp.trans q⟩
 |ct=>exact λZ' H' ⟨F',A',x',k,q⟩=>d Z' H' ⟨F',A',x.trans x',k,kp.trans q⟩
 |rt o=>exact λv Z' H' ⟨F',A',x',k,q⟩=>d v Z' H' ⟨F',A',x.trans x',k,kp.trans q⟩
section
variable{X:Cx}{K:FG}{m:List Bool}{st:Stmt}{rest sa sb:List Stmt}{e:Expr}{f g:GS}{fa:GE}{ft:GT}{pos:Pos}
def bw:GS:=λQ0=>some (.nx,Q0)
noncomputable def aR(f g:GS):GS:=λQ0=>(f Q0).bind λp=>match p.1 with
 |.nx=>g p.2
 |.bk=>some (.bk,p.2)
 |.ct=>some (.ct,p.2)
 |.rt o=>some (.rt o,p.2)
def ip:iu X [] (tS K m bw):=ve.mono λD Z H t=>by
 obtain⟨F,A,Q0,fl,aw,k,e,w⟩:=t;cases e;exact w Z H ⟨F,A,Ext.refl,k,Kept.refl⟩
def bx(h1:PS X st (tS K m f))(h2:iu X rest (tS K m g)):iu X (st::rest) (tS K m (aR f g)):=(Vn h1 h2).mono λD Z H t=>by
 obtain⟨F,A,Q0,fl,aw,k,e,w⟩:=t;unfold aR at e;cases q:f Q0 with
 |none=>rw[q] at e;cases e
 |some p=>
  obtain⟨BZ,aJ⟩:=p;rw[q] at e;dsimp only[Option.bind] at e;refine⟨F,A,Q0,BZ,aJ,k,q,?_⟩;cases BZ with
  |nx=>
   intro Z' H' ⟨F1,A1,x,k1,kp⟩;exact⟨F1,A1,aJ,fl,aw,k1,e,w.step x kp⟩
  |bk=>cases e;exact w
  |ct=>cases e;exact w
  |rt o=>cases e;exact w
def b_(h1:PS X st (tS K m f)):iu X [st] (tS K m f):=WV h1
noncomputable def aW(f:GE):GS:=λQ0=>(f Q0).bind λp=>match p.1 with
 |.own o=>some (.rt o,p.2)
 |.var _=>none
def fP(h:PE X e (tG K fa)):PS X (.Return (some e) pos) (tS K m (aW fa)):=(YO h).mono λD Z H t=>by
 obtain⟨F,A,Q0,fl,aw,k,e,w⟩:=t;unfold aW at e;cases q:fa Q0 with
 |none=>rw[q] at e;cases e
 |some p=>
  obtain⟨r,aJ⟩:=p;rw[q] at e;cases r with
  |var i=>cases e
  |own o=>
   cases e;exact⟨F,A,Q0,_,_,k,q,λv H' ⟨F1,A1,x,k1,_⟩=>w v Z H' ⟨F1,A1,x,k1,Kept.refl⟩⟩
noncomputable def cw(c:GT)(f g:GS):GS:=λQ0=>(c Q0).bind λp=>if p.1=true then f p.2 else g p.2
def hY{c:Expr}(hc:PT X c (iI K ft))(ha:iu X sa (tS K m f))(hb:iu X sb (tS K m g)):PS X (.If c sa sb pos) (tS K m (cw ft f g)):=(ξ hc ha hb).mono λD Z H t=>by
 obtain⟨F,A,Q0,fl,aw,k,e,w⟩:=t;unfold cw at e;cases q:ft Q0 with
 |none=>rw[q] at e;cases e
 |some p=>
  obtain⟨b,aJ⟩:=p;rw[q] at e;refine⟨F,A,Q0,b,aJ,k,q,λH1 hh=>?_⟩
  obtain⟨F1,A1,x,k1,_⟩:=hh;cases b with
  |true=>exact qD ⟨F1,A1,aJ,fl,aw,k1,e,w.step x Kept.refl⟩
  |false=>exact qC ⟨F1,A1,aJ,fl,aw,k1,e,w.step x Kept.refl⟩
noncomputable def jw(f:GE):GS:=λQ0=>(f Q0).bind λp=>some (.nx,p.2)
def lu(he:PE X e (tG K fa))(hs:swapsWith e none pos.line X.env=pure false:=by rfl):PS X (.Expr e pos) (tS K m (jw fa)):=(WW he hs).mono λD Z H t=>by
 obtain⟨F,A,Q0,fl,aw,k,e,w⟩:=t;unfold jw at e;cases q:fa Q0 with
 |none=>rw[q] at e;cases e
 |some p=>
  rw[q] at e;cases e;exact⟨F,A,Q0,p.1,p.2,k,q,λv H' pp=>by obtain⟨F1,A1,x,k1,_⟩:=pp.drop;exact w Z H' ⟨F1,A1,x,k1,Kept.refl⟩⟩
noncomputable def aq(i:Nat)(f:GE):GS:=λQ0=>(f Q0).bind λp=>match p.1 with
 |.own o=>if i<p.2.length then some (.nx,p.2.set i (some o)) else none
 |.var _=>none
def OK.store{F H:Hp}{A:List ao}{Z:St}{Q0:Gm}{v:V}{o:O}{i:Nat}(k:OK K F H (some v::Z) (some o::Q0) A)(hi:i<Q0.length):∃B,OK K F H (Z.set i (some v)) (Q0.set i (some o)) B/\Ext F H A F H B:=by
 obtain⟨B,C,h1,h2,h3⟩:=k.os.one;obtain⟨B2,g1,C2,g2,g3⟩:=ai.put h1 i h2 hi;subst h3;exact⟨B2,k.sub g1 ((a_.cq g2).trans ((a_.refl B).app (.bS g3)))⟩
def cR{i:Nat}{x:Str}{pos':Pos}(hN:X.N.Nodup)(hi:X.N[i]?=some x)(hx:Loc X.env.scope x)(he:PE X e (tG K fa))(hm:(m[i]? == some true)=false:=by rfl)(hs:swapsWith e (some (.Name x pos')) pos.line X.env=pure false:=by rfl)(hf:X.fn x=true\/X.env.scope.names.lookup x=some .local := by first|exact .inl rfl|exact .inr rfl):
  PS X (.Assign [.Name x pos'] e pos) (tS K m (aq i fa)):=(YQ hN hi hx he hs hf).mono λD Z H t=>by
 obtain⟨F,A,Q0,fl,aw,k,e,w⟩:=t;unfold aq at e;cases q:fa Q0 with
 |none=>rw[q] at e;cases e
 |some p=>
  obtain⟨r,aJ⟩:=p;rw[q] at e;cases r with
  |var i=>cases e
  |own o=>
   dsimp only[Option.bind] at e;split at e
   .cases e;refine⟨F,A,Q0,_,aJ,k,q,λv H' hh=>?_⟩
    obtain⟨F1,A1,x,k1,_⟩:=hh;obtain⟨B,k2,x2⟩:=OK.store (Z:=Z) (Q0:=aJ) k1 (by assumption)
    exact w _ H' ⟨F1,B,x.trans x2,k2,Kept.set hm⟩
   .cases e
noncomputable def gf(c:GT)(f:GS):Nat->GS
 |0=>λ_=>none
 |n+1=>λQ0=>(c Q0).bind λp=>if p.1=true then(f p.2).bind λq=>match q.1 with
   |.nx=>gf c f n q.2
   |.ct=>gf c f n q.2
   |.bk=>some (.nx,q.2)
   |.rt o=>some (.rt o,q.2)
  else some (.nx,p.2)
def yX(n:Nat){c:Expr}(hp:PassesOwn (model X.prog X.w) X.A X.env X.xe)(hc:PT X c (iI K ft))(hb:iu X sa (tS K m f)):PS X (.While c sa [] pos) (tS K m (gf ft f n)):=(Vo hp hc hb).mono λD Z H t=>by
 obtain⟨F,A,Q0,fl,aw,k,e,w⟩:=t;refine⟨λn Z H=>∃F A Q0,OK K F H Z Q0 A/\gf ft f n Q0=some (fl,aw)/\Done K m D F H A Z fl aw,⟨n,F,A,Q0,k,e,w⟩,?_⟩
 rintro n Z H ⟨F,A,Q0,k,e,w⟩;cases n with
 |zero=>cases e
 |succ n=>
  unfold gf at e;cases q:ft Q0 with
  |none=>rw[q] at e;cases e
  |some p=>
   obtain⟨b,aJ⟩:=p;rw[q] at e;refine⟨F,A,Q0,b,aJ,k,q,λH1 hh=>?_⟩
   obtain⟨F1,A1,x,k1,_⟩:=hh;have k1:OK K F1 H1 Z aJ A1:=k1;have w1:=w.step x (Kept.refl (m:=m) (Z:=Z));cases b with
   |false=>
    cases e;exact qC (w1 Z H1 ⟨F1,A1,Ext.refl,k1,Kept.refl⟩)
   |true=>
    refine qD ⟨λZ' H'=>∃F A Q0,OK K F H' Z' Q0 A/\gf ft f n Q0=some (fl,aw)/\Done K m D F H' A Z' fl aw,λZ' H' h=>⟨n,Dw _,h⟩,?_⟩
    have e:((f aJ).bind λq=>match q.1 with
      |.nx=>gf ft f n q.2
      |.ct=>gf ft f n q.2
      |.bk=>some (.nx,q.2)
      |.rt o=>some (.rt o,q.2))=some (fl,aw):=e
    cases q2:f aJ with
    |none=>rw[q2] at e;cases e
    |some p2=>
     obtain⟨R0,cD⟩:=p2;rw[q2] at e;dsimp only[Option.bind] at e;refine⟨F1,A1,aJ,R0,cD,k1,q2,?_⟩;cases R0 with
     |nx=>exact λZ' H' ⟨F2,A2,x2,k2,kp⟩=>⟨F2,A2,cD,k2,e,w1.step x2 kp⟩
     |ct=>exact λZ' H' ⟨F2,A2,x2,k2,kp⟩=>⟨F2,A2,cD,k2,e,w1.step x2 kp⟩
     |bk=>cases e;exact w1
     |rt o=>cases e;exact w1
abbrev GG:=D->Gm->ak Gm
def gA(K:FG)(m:List Bool)(t:TG)(g:GG):Prop:=
 ∀(F H:Hp) (Z:St) (Q0 aJ:Gm) (A:List ao) (x:V) (d:D) (Q:St->Hp->Prop),OK K F H Z Q0 A->ax K F [x] [d]->g d Q0=some aJ->(∀Z' A',OK K F H Z' aJ A'->Ext F H A F H A'->Kept m Z Z'->Q Z' H)->t x Z H Q
noncomputable def bu(i:Nat):GG:=λd Q0=>if i<Q0.length then some (Q0.set i (some (.Y d))) else none
def fJ{i:Nat}(hm:(m[i]? == some true)=false:=by rfl):gA K m (rX i) (bu i):=by
 intro F H Z Q0 aJ A x d Q k r e w;unfold bu at e;split at e
 .cases e;obtain⟨k1,x1⟩:=k.push (v:=x) (o:=.Y d) (Av:=[]) (aO.refl _) (.Y r .nil) .nil (λ_ m=>by cases m)
  obtain⟨B,k2,x2⟩:=OK.store k1 (by assumption)
  exact w _ _ k2 (x1.trans x2) (Kept.set hm)
 .cases e
noncomputable def iG:List GG->List D->Gm->ak Gm
 |[],[],Q0=>some Q0
 |g::gs,d::ds,Q0=>(g d Q0).bind λaJ=>iG gs ds aJ
 |_,_,_=>none
def pP(K:FG)(m:List Bool)(t:tN)(g:List GG):Prop:=
 ∀(F H:Hp) (Z:St) (Q0 aJ:Gm) (A:List ao) (xs:List V) (ds:List D) (Q:St->Hp->Prop),OK K F H Z Q0 A->ax K F xs ds->iG g ds Q0=some aJ->(∀Z' A',OK K F H Z' aJ A'->Ext F H A F H A'->Kept m Z Z'->Q Z' H)->t xs Z H Q
def Es:pP K m B5 []:=by
 intro F H Z Q0 aJ A xs ds Q k r e w;cases ds with
 |nil=>
  cases e;cases xs with
  |nil=>exact⟨rfl,w Z A k Ext.refl Kept.refl⟩
  |cons _ _=>have:=r.length;simp at this
 |cons _ _=>cases e
def pR{t:TG}{ts:tN}{g:GG}{gs:List GG}(h1:gA K m t g)(h2:pP K m ts gs):pP K m (L2.we t ts) (g::gs):=by
 intro F H Z Q0 aJ A xs ds Q k r e w;cases ds with
 |nil=>cases e
 |cons d ds=>
  cases xs with
  |nil=>have:=r.length;simp at this
  |cons x xs=>
   unfold iG at e;cases q:g d Q0 with
   |none=>rw[q] at e;cases e
   |some cD=>
    rw[q] at e;refine⟨x,xs,rfl,h1 F H Z Q0 cD A x d _ k r.inv.1 q λZ1 A1 k1 x1 kp1=>?_⟩
    exact h2 F H Z1 cD aJ A1 xs ds _ k1 r.inv.2 e λZ2 A2 k2 x2 wy=>w Z2 A2 k2 (x1.trans x2) (kp1.trans wy)
def fZ(gs:List GG):GG:=λd Q0=>match d with
 |.tup ds=>iG gs ds Q0
 |_=>none
theorem NJ:∀{gs:List GG} {ds:List D} {Q0 aJ:Gm},iG gs ds Q0=some aJ->ds.length=gs.length
 |[],[],_,_,_=>rfl
 |g::gs,d::ds,Q0,aJ,e=>by
  unfold iG at e;cases q:g d Q0 with
  |none=>rw[q] at e;cases e
  |some cD=>rw[q] at e;simp[NJ (gs:=gs) (ds:=ds) e]
 |[],_::_,_,_,e=>by cases e
 |_::_,[],_,_,e=>by cases e
def EU{ts:tN}{gs:List GG}{n:Nat}(h:pP K m ts gs)(hn:n=gs.length:=by rfl):gA K m (B6 K n ts) (fZ gs):=by
 intro F H Z Q0 aJ A x d Q k r e w;cases d with
 |tup ds=>
  have e:iG gs ds Q0=some aJ:=e;cases r with
  |flat z _=>cases z
  |tup q i _=>exact⟨_,_,rfl,k.le.pD q,by rw[hn,i.length,NJ e],h F H Z Q0 aJ A _ ds Q k i e w⟩
 |_=>cases e
noncomputable def fK(g:GG)(f:GS):List D->GS
 |[]=>λQ0=>some (.nx,Q0)
 |d::ds=>λQ0=>(g d Q0).bind λaJ=>(f aJ).bind λq=>match q.1 with
   |.nx=>fK g f ds q.2
   |.ct=>fK g f ds q.2
   |.bk=>some (.nx,q.2)
   |.rt o=>some (.rt o,q.2)
def NK{t:TG}{g:GG}(tg:gA K m t g){F H:Hp}{Z:St}{Q0 aw:Gm}{A:List ao}{x:V}{d:D}{ds:List D}{fl:Fl}{E:Ends}{Pv:St->Hp->Prop}(k:OK K F H Z Q0 A)(r:ax K F [x] [d])
  (e:fK g f (d::ds) Q0=some (fl,aw)) (w:Done K m E F H A Z fl aw)
  (SH:∀F1 H1 Z1 aJ A1,Ext F H A F1 H1 A1->OK K F1 H1 Z1 aJ A1->fK g f ds aJ=some (fl,aw)->Done K m E F1 H1 A1 Z1 fl aw->Pv Z1 H1):t x Z H λZ2 H2=>tS K m f { E with nx:=Pv,ct:=Pv,bk:=E.nx} Z2 H2:=by
 unfold fK at e;cases q:g d Q0 with
 |none=>rw[q] at e;cases e
 |some aJ=>
  rw[q] at e;dsimp only[Option.bind] at e;cases q2:f aJ with
  |none=>rw[q2] at e;cases e
  |some p=>
   obtain⟨BZ,cD⟩:=p;rw[q2] at e;dsimp only at e;refine tg F H Z Q0 aJ A x d _ k r q λZ1 A1 k1 x1 kp=>⟨F,A1,aJ,BZ,cD,k1,q2,?_⟩
   have w1:=w.step x1 kp;cases BZ with
   |nx=>exact λZ' H' ⟨F2,A2,x2,k2,wy⟩=>SH F2 H' Z' cD A2 (x1.trans x2) k2 e (w1.step x2 wy)
   |ct=>exact λZ' H' ⟨F2,A2,x2,k2,wy⟩=>SH F2 H' Z' cD A2 (x1.trans x2) k2 e (w1.step x2 wy)
   |bk=>cases e;exact w1
   |rt o=>cases e;exact w1
def VF{g:GG}{F H:Hp}{Z:St}{Q0 aw:Gm}{A:List ao}{fl:Fl}{E:Ends}(k:OK K F H Z Q0 A)(e:fK g f [] Q0=some (fl,aw))(w:Done K m E F H A Z fl aw):E.nx Z H:=by
 cases e;exact w Z H ⟨F,A,Ext.refl,k,Kept.refl⟩
def e8(it:GE)(g:GG)(f:GS):GS:=λQ0=>(ay it Q0).bind λp=>match p.1 with
 |.own (.Y (.lst ds))=>fK g f ds p.2
 |_=>none
def Bm(it:GE)(g:GG)(f:GS):GS:=λQ0=>(ay it Q0).bind λp=>match p.1 with
 |.own (.Y (.tup ds))=>fK g f ds p.2
 |_=>none
variable{tg iter:Expr}{t:TG}{gg:GG}{body:List Stmt}
def LI(K:FG)(m:List Bool)(gg:GG)(f:GS)(E:Ends)(F1:Hp)(fl:Fl)(aw:Gm)(ds:List D)(i:Nat)(Z:St)(H:Hp):Prop:=∃F A Q0,OK K F H Z Q0 A/\fK gg f (ds.drop i) Q0=some (fl,aw)/\Done K m E F H A Z fl aw/\aO F1 F
section
variable{F1 H1:Hp}{Z:St}{ds:List D}{i:Nat}{E:Ends}{fl:Fl}{aw:Gm}
def LI.same(p:LI K m gg f E F1 fl aw ds i Z H1):aO F1 H1:=by
 obtain⟨F',A',qO,k',e',w',s'⟩:=p;exact s'.trans k'.le
def LI.turn(p:LI K m gg f E F1 fl aw ds i Z H1)(ht:gA K m t gg){x:V}{d:D}(hd:ds[i]?=some d)(r:ax K F1 [x] [d]):t x Z H1 λZ2 H2=>tS K m f { E with nx:=LI K m gg f E F1 fl aw ds (i+1),ct:=LI K m gg f E F1 fl aw ds (i+1),bk:=E.nx} Z2 H2:=by
 obtain⟨F',A',qO,k',e',w',s'⟩:=p;obtain⟨hi,he⟩:=iA.mp hd;rw[DB hi,he] at e';exact NK ht k' (r.mono s') e' w' λF2 H2 Z2 cD A2 x2 k2 e2 w2=>⟨F2,A2,cD,k2,e2,w2,s'.trans x2.ff⟩
def LI.step(p:LI K m gg f E F1 fl aw ds i Z H1)(ht:gA K m t gg){ws:List V}(ri:ax K F1 ws ds){x:V}(hx:ws[i]?=some x):t x Z H1 λZ2 H2=>tS K m f { E with nx:=LI K m gg f E F1 fl aw ds (i+1),ct:=LI K m gg f E F1 fl aw ds (i+1),bk:=E.nx} Z2 H2:=by
 have hi:i<ds.length:=by rw[<-ri.length];exact(iA.mp hx).1
 obtain⟨x2,sr,rx⟩:=ri.get (i8 hi);rw[hx] at sr;cases sr;exact p.turn ht (i8 hi) rx
def LI.fin(p:LI K m gg f E F1 fl aw ds i Z H1)(h:ds.length<=i):E.nx Z H1:=by
 obtain⟨F',A',qO,k',e',w',s'⟩:=p;rw[Mx h] at e';exact VF k' e' w'
def LI.start{F H:Hp}{A A1:List ao}{v:V}{d:D}{aJ:Gm}(k1:OK K F1 H1 (some v::Z) (some (.Y d)::aJ) A1)(x:Ext F H A F1 H1 A1)(w:Done K m E F H A Z fl aw)(e:fK gg f ds aJ=some (fl,aw)):ax K F1 [v] [d]/\LI K m gg f E F1 fl aw ds 0 Z H1:=by
 obtain⟨B,C,h1,h2,h3⟩:=ai.one (Z:=Z) (Q0:=aJ) k1.os;subst h3;cases h1 with
 |Y rp tl=>exact⟨rp,F1,_,aJ,(k1.sub h2 (.bS (pK _ _))).1,e,w.step (x.lO λa m=>ir _ m) Kept.refl,aO.refl _⟩
def Pn{α:Type}{φ:List D->Gm->ak α}{z:α}{Q0:Gm}(e:((ay fa Q0).bind λp=>match p.1 with|.own (.Y (.lst ds))=>φ ds p.2|_=>none)=some z):∃ds aJ,ay fa Q0=some (.own (.Y (.lst ds)),aJ)/\φ ds aJ=some z:=by
 obtain⟨⟨r,aJ⟩,q,e⟩:=fm.mp e;dsimp only at e;split at e
 .exact⟨_,aJ,q,e⟩
 .cases e
def IP{v:V}(h:ax K F1 [v] [.lst ds]):∃a ws,v=.ref a/\Rd F1 a (.lst ws)/\ax K F1 ws ds:=by
 cases h with
 |flat z _=>cases z
 |@lst a ws vs es J5 sq ri _=>exact⟨a,ws,rfl,sq,ri⟩
end
def rM(hp:PassesOwn (model X.prog X.w) X.A X.env X.xe)(hi:PE X iter (tG K fa))(hg:PG X tg t)(ht:gA K m t gg)(hb:iu X body (tS K m f))(hc:X.calm=true:=by rfl)(hK:X.K=K:=by rfl)(hs:∀x,foldedSetIterable iter X.env x=pure x:=by intro _;rfl):PS X (.For tg iter body [] pos) (tS K m (e8 fa gg f)):=by
 subst hK;refine(xr hp hc (Pe (cf hi)) hg hb hs).mono λD Z H tt=>?_
 obtain⟨F,A,Q0,fl,aw,k,e,w⟩:=tt;obtain⟨ds,aJ,q,e⟩:=Pn (φ:=λds Q0=>fK gg f ds Q0) e
 refine⟨F,A,Q0,_,aJ,k,q,λv H1 pp=>?_⟩
 obtain⟨F1,A1,x,k1,_⟩:=pp;obtain⟨rp,st⟩:=LI.start k1 x w e;obtain⟨a,ws,rfl,sq,ri⟩:=IP rp;exact⟨a,rfl,⟨ws,.inl (k1.le.rd sq)⟩,Vp (xs:=ws) (LI X.K m gg f D F1 fl aw ds) st (λi Z' H' _ p=>.inl (p.same.rd sq)) (λi x' Z' H' hx p=>p.step ht ri hx) λZ' H' p=>p.fin (by rw[ri.length];exact cX _)⟩
def Xn(hp:PassesOwn (model X.prog X.w) X.A X.env X.xe)(hi:PE X iter (tG K fa))(hg:PG X tg t)(ht:gA K m t gg)(hb:iu X body (tS K m f))(hc:X.calm=true:=by rfl)(hK:X.K=K:=by rfl)(hs:∀x,foldedSetIterable iter X.env x=pure x:=by intro _;rfl):PS X (.For tg iter body [] pos) (tS K m (Bm fa gg f)):=by
 subst hK;refine(xr hp hc (YU (cf hi)) hg hb hs).mono λD Z H tt=>?_
 obtain⟨F,A,Q0,fl,aw,k,e,w⟩:=tt;unfold Bm at e;obtain⟨⟨r,aJ⟩,q,e⟩:=fm.mp e;dsimp only at e;split at e
 .rename_i ds
  refine⟨F,A,Q0,_,aJ,k,q,λv H1 pp=>?_⟩
  obtain⟨F1,A1,x,k1,_⟩:=pp;obtain⟨rp,st⟩:=LI.start k1 x w e;cases rp with
  |flat z _=>cases z
  |@tup a ws vs es J5 sq ri _=>exact⟨a,rfl,⟨ws,k1.le.pD sq⟩,WY (xs:=ws) (LI X.K m gg f D F1 fl aw ds) st (λi Z' H' _ p=>p.same.pD sq) (λi x' Z' H' hx p=>p.step ht ri hx) λZ' H' p=>p.fin (by rw[ri.length];exact cX _)⟩
 .cases e
end
noncomputable def gq(lo:Int)(n:Nat):List D:=(List.range n).map λ(k:Nat)=>D.int (lo+(k:Int))
def MQ{α:Type}(h:Nat->α){i n:Nat}(hi:i<n):((List.range n).map h).drop i=h i::((List.range n).map h).drop (i+1):=by
 have e:i<((List.range n).map h).length:=by simpa using hi
 rw[DB e];simp
noncomputable def iW:List R->ak Int
 |[.own (.Y (.int j))]=>if Nat.ble j.natAbs 1000000000000=true then some j else none
 |_=>none
noncomputable def lM:List R->ak (Int×Int)
 |[.own (.Y (.int i)),.own (.Y (.int j))]=>if Nat.ble i.natAbs 1000000000000=true/\Nat.ble j.natAbs 1000000000000=true then some (i,j) else none
 |_=>none
def Ox{rs:List R}{j:Int}(e:iW rs=some j):rs=[.own (.Y (.int j))] /\ -(2^62)<=j/\j<2^62:=by
 unfold iW at e;split at e
 .split at e
  .rename_i h
   have h:=Nat.le_of_ble_eq_true h;cases e;exact⟨rfl,by lia,by lia⟩
  .cases e
 .cases e
def Oy{rs:List R}{p:Int×Int}(e:lM rs=some p):rs=[.own (.Y (.int p.1)),.own (.Y (.int p.2))] /\ -(2^62)<=p.1/\p.1<2^62 /\ -(2^62)<=p.2/\p.2<2^62:=by
 unfold lM at e;split at e
 .split at e
  .rename_i h
   have h1:=Nat.le_of_ble_eq_true h.1;have h2:=Nat.le_of_ble_eq_true h.2;cases e;exact⟨rfl,by lia,by lia,by lia,by lia⟩
  .cases e
 .cases e
def vJ{j:Int}(h:j.natAbs<=1000000):iW [.own (.Y (.int j))]=some j:=by
 unfold iW;dsimp only;rw[aY (Nat.ble_eq_true_of_le (by lia))]
def vF(fs:GA)(g:GG)(f:GS):GS:=λQ0=>(fs Q0).bind λp=>(iW p.1).bind λj=>fK g f (gq 0 j.toNat) p.2
def Ie(fs:GA)(g:GG)(f:GS):GS:=λQ0=>(fs Q0).bind λp=>(lM p.1).bind λj=>fK g f (gq j.1 (j.2 - j.1).toNat) p.2
section
variable{X:Cx}{K:FG}{m:List Bool}{f:GS}{fa:GE}{fs:GA}{pos p:Pos}{tg a b c:Expr}{t:TG}{gg:GG}{body:List Stmt}
def tX{F H:Hp}{Z:St}{Q0:Gm}{A:List ao}{v:V}{i:Int}(h:ai K F H (some v::Z) (some (.Y (.int i))::Q0) A):v=.int i/\ai K F H Z Q0 A:=by
 cases h with
 |Y r t=>
  cases r with
  |flat e _=>cases e;exact⟨rfl,t⟩
theorem JZ{α:Type}:∀{l:List α},1=l.length->∃a,l=[a]
 |[a],_=>⟨a,rfl⟩
theorem J0{α:Type}:∀{l:List α},2=l.length->∃a b,l=[a,b]
 |[a,b],_=>⟨a,b,rfl⟩
theorem ψ{α:Type}:∀{l:List α},3=l.length->∃a b c,l=[a,b,c]
 |[a,b,c],_=>⟨a,b,c,rfl⟩
def LI.ints{F1 H1:Hp}{Z:St}{E:Ends}{fl:Fl}{aw aJ:Gm}{F H:Hp}{A A1:List ao}{τ:St}{Θ:Gm}{ds:List D}(k1:OK K F1 H1 τ Θ A1)(h:ai K F1 H1 Z aJ A1)(x:Ext F H A F1 H1 A1)(w:Done K m E F H A Z fl aw)(e:fK gg f ds aJ=some (fl,aw)):LI K m gg f E F1 fl aw ds 0 Z H1:=
 ⟨F1,A1,aJ,(k1.sub h (a_.refl _)).1,e,w.step x Kept.refl,aO.refl _⟩
def QK{g:Nat->D}{n i:Nat}(h:i<n):((List.range n).map g)[i]?=some (g i):=by rw[kc,Mz h];rfl
def yT(hp:PassesOwn (model X.prog X.w) X.A X.env X.xe)(hm:X.mg "range"=none)(ha:PA X [a] (kb K fs))(hg:PG X tg t)(ht:gA K m t gg)(hb:iu X body (tS K m f))(hc:X.calm=true:=by rfl)(sg:Gl X "range":=by rfl)
  (hs:starEach [a] X.env=[(false,eval a X.env)]:=by rfl) (hf:∀x,foldedSetIterable (.Call (.Name "range" p) [a] [] pos) X.env x=pure x:=by intro _;rfl) {fp:Pos}:PS X (.For tg (.Call (.Name "range" p) [a] [] pos) body [] fp) (tS K m (vF fs gg f)):=by
 refine(xr hp hc (HC sg hm ha hs) hg hb hf).mono λD Z H tt=>?_
 obtain⟨F,A,Q0,fl,aw,k,e,w⟩:=tt;obtain⟨⟨rs,aJ⟩,q,e⟩:=fm.mp e;obtain⟨j,q2,e⟩:=fm.mp e;obtain⟨hj,hb⟩:=Ox q2;subst hj;refine⟨F,A,Q0,_,aJ,k,q,λvs H1 pp=>?_⟩
 obtain⟨F1,A1,x,k1,hh⟩:=pp;obtain⟨v,rfl⟩:=JZ hh.length;obtain⟨rfl,h2⟩:=tX (Z:=Z) (Q0:=aJ) k1.os;exact⟨j,rfl,hb.1,hb.2,NA (LI K m gg f D F1 fl aw (gq 0 j.toNat)) (.ints k1 h2 x w e) (λi Z' H' hi p=>p.turn ht (QK hi) (.flat rfl .nil)) λZ' H' p=>p.fin (by simp[gq])⟩
def UC(hp:PassesOwn (model X.prog X.w) X.A X.env X.xe)(hm:X.mg "range"=none)(ha:PA X [a,b] (kb K fs))(hg:PG X tg t)(ht:gA K m t gg)(hb:iu X body (tS K m f))(hc:X.calm=true:=by rfl)(sg:Gl X "range":=by rfl)
  (hs:starEach [a,b] X.env=[(false,eval a X.env),(false,eval b X.env)]:=by rfl) (oS:starEach [b] X.env=[(false,eval b X.env)]:=by rfl) (hf:∀x,foldedSetIterable (.Call (.Name "range" p) [a,b] [] pos) X.env x=pure x:=by intro _;rfl) {fp:Pos} :
  PS X (.For tg (.Call (.Name "range" p) [a,b] [] pos) body [] fp) (tS K m (Ie fs gg f)):=by
 refine(xr hp hc (Nz sg hm ha hs oS) hg hb hf).mono λD Z H tt=>?_
 obtain⟨F,A,Q0,fl,aw,k,e,w⟩:=tt;obtain⟨⟨rs,aJ⟩,q,e⟩:=fm.mp e;obtain⟨⟨i0,j⟩,q2,e⟩:=fm.mp e;obtain⟨hj,hb⟩:=Oy q2;subst hj;refine⟨F,A,Q0,_,aJ,k,q,λvs H1 pp=>?_⟩
 obtain⟨F1,A1,x,k1,hh⟩:=pp;obtain⟨v,v',rfl⟩:=J0 hh.length;obtain⟨rfl,h1⟩:=tX (Z:=some v'::Z) (Q0:=some (.Y (.int j))::aJ) k1.os;obtain⟨rfl,h2⟩:=tX (Z:=Z) (Q0:=aJ) h1;exact⟨i0,j,rfl,hb,NA (LI K m gg f D F1 fl aw (gq i0 (j - i0).toNat)) (.ints k1 h2 x w e) (λi Z' H' hi p=>p.turn ht (QK hi) (.flat rfl .nil)) λZ' H' p=>p.fin (by simp[gq])⟩
end
abbrev GM:=List O->ak (O×Gm)
def AD(K:FG)(F H:Hp)(A:List ao)(vs:List V)(fin:Gm)(o:O)(v:V)(H':Hp):Prop:=∃F' A',Ext F H A F' H' A'/\OK K F' H' (some v::vs.map some) (some o::fin) A'
def fT(K:FG)(n:Nat)(M:GM):Sp:=λvs H Q _=>vs.length=n/\∃F A os o fin,OK K F H (vs.map some) (os.map some) A/\M os=some (o,fin)/\∀v H',AD K F H A vs fin o v H'->Q v H'
noncomputable def ic:List Bool->Gm->Gm
 |true::m,x::Q0=>x::ic m Q0
 |false::m,_::Q0=>none::ic m Q0
 |[],_::Q0=>none::ic [] Q0
 |_,[]=>[]
def Fl.val:Fl->ak O
 |.rt o=>some o
 |.nx=>some (.Y .bF)
 |_=>none
def runM(n:Nat)(m:List Bool)(f:GS):GM:=λos=>(f (os.map some++List.replicate (n - os.length) none)).bind λp=>p.1.val.bind λo=>if p.2.length=n then some (o,ic m (p.2.take os.length)) else none
section
variable{K:FG}{F H:Hp}{Z:St}{Q0:Gm}{A:List ao}
theorem HF:∀n:Nat,ai K F H (List.replicate n none) (List.replicate n none) []
 |0=>.nil
 |n+1=>.skip (HF n)
theorem Ig:∀{m:List Bool} {vs:List V} {Z':St} {Q0:Gm} {B:List ao},ai K F H Z' Q0 B->Z'.length=vs.length->(∀j:Nat,m[j]?=some true->Z'[j]?=(vs.map some)[j]?)->∃C,ai K F H (vs.map some) (ic m Q0) C/\C.Sublist B
 |m,[],[],[],B,h,_,_=>by
  cases m with
  |nil=>exact⟨B,h,List.Sublist.refl _⟩
  |cons b m=>cases b <;> exact⟨B,h,List.Sublist.refl _⟩
 |m,v::vs,x::Z',y::Q0,B,h,hl,hk=>by
  obtain⟨B1,B2,h1,h2,h3⟩:=h.one;subst h3;have wm:Z'.length=vs.length:=by simpa using hl
  cases m with
  |nil=>
   obtain⟨C,g1,g2⟩:=Ig (m:=[]) h2 wm (λj hj=>by simp at hj)
   exact⟨C,.skip g1,g2.trans (pK _ _)⟩
  |cons b m=>
   obtain⟨C,g1,g2⟩:=Ig (m:=m) h2 wm (λj hj=>by simpa using hk (j+1) (by simpa using hj))
   cases b with
   |false=>exact⟨C,.skip g1,g2.trans (pK _ _)⟩
   |true=>
    have hx:x=some v:=by simpa using hk 0 rfl
    subst hx;exact⟨B1++C,h1.app g1,g2.append_left _⟩
 |_,[],_::_,_,_,_,hl,_=>by simp at hl
 |_,_::_,[],_,_,_,hl,_=>by simp at hl
 |_,[],[],_::_,_,h,_,_=>by have:=h.length;simp at this
 |_,_::_,_::_,[],_,h,_,_=>by have:=h.length;simp at this
def OK.params{m:List Bool}{vs:List V}{Z':St}{aw:Gm}{v:V}{o:O}{rest:St}(k:OK K F H (some v::Z') (some o::aw) A)(hl:vs.length<=Z'.length)(kp:Kept m (vs.map some++rest) Z')(hm:m.length<=vs.length):
  ∃B,OK K F H (some v::vs.map some) (some o::ic m (aw.take vs.length)) B/\Ext F H A F H B:=by
 obtain⟨B,C,h1,h2,h3⟩:=k.os.one;subst h3;have xS:=h2.length;have e1:Z'=Z'.take vs.length++Z'.drop vs.length:=(uk _ _).symm;have e2:aw=aw.take vs.length++aw.drop vs.length:=(uk _ _).symm;have xQ:ai K F H (Z'.take vs.length++Z'.drop vs.length) (aw.take vs.length++aw.drop vs.length) C:=by rw[<-e1,<-e2];exact h2
 obtain⟨C1,C2,g1,g2,g3⟩:=ai.split (by rw[qL,qL];lia) xQ
 subst g3;obtain⟨C3,j1,j2⟩:=Ig (m:=m) (vs:=vs) g1 (by rw[qL];lia) (λj hj=>by
  have g_:j<vs.length:=by
   have:=(iA.mp hj).1;lia
  rw[List.getElem?_take_of_lt g_,kp j hj,Mv (by simpa using g_)])
 exact⟨B++C3,k.sub (h1.app j1) ((a_.refl B).app (.bS (j2.trans (List.sublist_append_left _ _))))⟩
end
section
variable{P:gv}{w:eZ}{K:FG}{mg:Str->ak au}{base:df}
def UD{x qual:Str}{st:Stmt}{fa:ao}{fd:lS}{N ps:List Str}{k:Nat}(m:List Bool)(f:GS)(Fn:rA K x qual st fa fd)(S:aM N ps (du st))(hm:m.length<=ps.length)
  (kN:∀(gX:au) (A:eY) (outer:List Env) (s:aE) (H:Hp) (E:XK),eH k (A.deeper (envOfC qual (du st) s.heap.objs.size fa gX))-> iu (mL fw P w K mg base N qual (du st) fa gX A outer s H E).yk (tW st) (tS K m f)):bQ P w K mg base fw (k+1) fa fd ps (fT K ps.length (runM N.length m f)):=by
 refine Fn.ok S (λvs H Q E h=>h.1) λgX A outer s H vs Q E hr h=>⟨_,kN gX A outer s H E hr,?_⟩
 obtain⟨hl,F,A0,os,o,fin,k0,e,q⟩:=h;have K_:vs.length=os.length:=by have:=k0.os.length;simpa using this
 have hN:ps.length<=N.length:=by have:=congrArg List.length S.pre;rw[qL] at this;lia
 unfold runM at e;cases q1:f (os.map some++List.replicate (N.length - os.length) none) with
 |none=>rw[q1] at e;cases e
 |some p=>
  obtain⟨fl,aw⟩:=p;rw[q1] at e;dsimp only[Option.bind] at e;have k1:OK K F H (start N vs) (os.map some++List.replicate (N.length - os.length) none) A0:=by
   unfold start;rw[K_];have z:=k0.os.app (HF (K:=K) (F:=F) (H:=H) (N.length - os.length));rw[lR] at z;exact⟨k0.le,z,k0.nd,k0.fr⟩
  cases q2:fl.val with
  |none=>rw[q2] at e;cases e
  |some o'=>
   rw[q2] at e;dsimp only at e;split at e
   .rename_i hlen
    cases e;refine⟨F,A0,_,fl,aw,k1,q1,?_⟩;have dz:∀{F' H':Hp} {A':List ao} {v:V} {Z':St},Ext F H A0 F' H' A'->OK K F' H' (some v::Z') (some o::aw) A'->Kept m (start N vs) Z'->Q v H':=by
     intro F' H' A' v Z' x k' kp;unfold start at kp;have hs:Z'.length=aw.length:=by have:=k'.os.length;simpa using this
     obtain⟨B,k2,x2⟩:=OK.params (m:=m) (vs:=vs) k' (by lia) kp (by lia)
     rw[K_] at k2;exact q v H' ⟨F',B,x.trans x2,k2⟩
    cases fl with
    |nx=>
     cases q2;intro Z' H' ⟨F',A',x,k',kp⟩;obtain⟨k2,x2⟩:=k'.push (v:=.bF) (o:=.Y .bF) (Av:=[]) (aO.refl _) (.Y (.flat rfl .nil) .nil) .nil (λ_ m=>by cases m)
     exact dz (x.trans x2) k2 kp
    |rt o1=>
     cases q2;intro v Z' H' ⟨F',A',x,k',kp⟩;exact dz x k' kp
    |bk=>cases q2
    |ct=>cases q2
   .cases e
def Za{x qual:Str}{st:Stmt}{fa:ao}{fd:lS}{N ps:List Str}{k:Nat}(m:List Bool)(f:GS)(Fn:rA K x qual st fa fd)(S:aM N ps (du st)){n pn:Nat}(hn:N.length=n)(hp:ps.length=pn)(hm:m.length<=ps.length)
  (kN:∀(gX:au) (A:eY) (outer:List Env) (s:aE) (H:Hp) (E:XK),eH k (A.deeper (envOfC qual (du st) s.heap.objs.size fa gX))-> ∃f',iu (mL fw P w K mg base N qual (du st) fa gX A outer s H E).yk (tW st) (tS K m f')/\f'=f):bQ P w K mg base fw (k+1) fa fd ps (fT K pn (runM n m f)):=by
 subst hn hp;exact UD m f Fn S hm λgX A outer s H E hr=>by
  obtain⟨f',h,e⟩:=kN gX A outer s H E hr;rw[<-e];exact h
end
noncomputable def oX:List R->Gm->ak (List O×Gm)
 |[],Q0=>some ([],Q0)
 |.own o::rs,Q0=>(oX rs Q0).bind λp=>some (o::p.1,p.2)
 |.var i::rs,Q0=>match Q0[i]? with
  |some (some o)=>(oX rs (Q0.set i none)).bind λp=>some (o::p.1,p.2)
  |_=>none
noncomputable def qS:List R->Gm->Gm->Gm
 |.own _::rs,_::fin,Q0=>qS rs fin Q0
 |.var i::rs,f::fin,Q0=>(qS rs fin Q0).set i f
 |_,_,Q0=>Q0
def aH(M:GM)(fs:GA):GE:=λQ0=>(fs Q0).bind λp=>(oX p.1 p.2).bind λq=>(M q.1).bind λr=>some (.own r.1,qS p.1 r.2 q.2)
section
variable{K:FG}{F H:Hp}{Z:St}
theorem HG:∀{rs:List R} {vs:List V} {Q0 cD:Gm} {os:List O} {B C:List ao},ai K F H (vs.map some) (rs.map R.o) B->ai K F H Z Q0 C->i9 Z rs vs->oX rs Q0=some (os,cD)->
  ∃B' C',ai K F H (vs.map some) (os.map some) B'/\ai K F H Z cD C'/\(B'++C').Perm (B++C)
 |[],[],Q0,cD,os,B,C,h1,h2,_,e=>by cases e;exact⟨B,C,h1,h2,.refl _⟩
 |.own o::rs,v::vs,Q0,cD,os,B,C,h1,h2,hh,e=>by
  obtain⟨B1,B2,g1,g2,rfl⟩:=ai.one h1;unfold oX at e;cases q:oX rs Q0 with
  |none=>rw[q] at e;cases e
  |some p=>
   rw[q] at e;cases e;obtain⟨B',C',j1,j2,j3⟩:=HG g2 h2 hh q;exact⟨B1++B',C',g1.app j1,j2,by rw[iN,iN];exact .append_left _ j3⟩
 |.var i::rs,v::vs,Q0,cD,os,B,C,h1,h2,hh,e=>by
  obtain⟨B1,B2,g1,g2,rfl⟩:=ai.one h1;have eB:B1=[]:=by cases g1 with|skip t=>cases t;rfl
  subst eB;unfold oX at e;cases q0:Q0[i]? with
  |none=>rw[q0] at e;cases e
  |some z=>
   cases z with
   |none=>rw[q0] at e;cases e
   |some o=>
    rw[q0] at e;dsimp only at e;cases q:oX rs (Q0.set i none) with
    |none=>rw[q] at e;cases e
    |some p=>
     rw[q] at e;cases e;obtain⟨v',Ai,C1,k1,k2,k3,k4⟩:=h2.take q0;rw[hh.1] at k1;cases k1;obtain⟨B',C',j1,j2,j3⟩:=HG g2 k3 hh.2 q;refine⟨Ai++B',C',k2.app j1,j2,?_⟩;rw[iN,gc];refine(List.Perm.append_left Ai j3).trans ?_;rw[<-iN];refine(List.Perm.append_right C1 qN).trans ?_;rw[iN];exact .append_left _ k4.symm
 |[],_::_,_,_,_,_,_,_,_,h,_=>h.elim
 |.own _::_,[],_,_,_,_,_,_,_,h,_=>h.elim
 |.var _::_,[],_,_,_,_,_,_,_,h,_=>h.elim
theorem Ih:∀{rs:List R} {vs:List V} {fin Q0:Gm} {B C:List ao},ai K F H (vs.map some) fin B->ai K F H Z Q0 C->i9 Z rs vs->∃D,ai K F H Z (qS rs fin Q0) D/\a_ D (B++C)
 |[],[],fin,Q0,B,C,h1,h2,_=>by
  cases h1;exact⟨C,h2,.bS (pK _ _)⟩
 |.own o::rs,v::vs,[],Q0,B,C,h1,h2,hh=>by have:=h1.length;simp at this
 |.var i::rs,v::vs,[],Q0,B,C,h1,h2,hh=>by have:=h1.length;simp at this
 |.own o::rs,v::vs,f::fin,Q0,B,C,h1,h2,hh=>by
  obtain⟨B1,B2,g1,g2,rfl⟩:=ai.one h1;obtain⟨D,j1,j2⟩:=Ih g2 h2 hh;exact⟨D,j1,j2.trans (by rw[iN];exact .bS (pK _ _))⟩
 |.var i::rs,v::vs,f::fin,Q0,B,C,h1,h2,hh=>by
  obtain⟨B1,B2,g1,g2,rfl⟩:=ai.one h1;obtain⟨D,j1,j2⟩:=Ih g2 h2 hh.2;cases f with
  |none=>
   obtain⟨D',k1,k2⟩:=ai.forget i j1;exact⟨D',k1,(a_.bS k2).trans (j2.trans (by rw[iN];exact .bS (pK _ _)))⟩
  |some o=>
   have hi:i<(qS rs fin Q0).length:=by
    rw[<-j1.length];exact(iA.mp hh.1).1
   obtain⟨D',k1,C',k2,k3⟩:=ai.put g1 i j1 hi;rw[xc hh.1] at k1;refine⟨D',k1,(a_.cq k2).trans ?_⟩;rw[iN];exact(a_.refl B1).app ((a_.bS k3).trans j2)
 |[],_::_,_,_,_,_,_,_,h=>h.elim
 |.own _::_,[],_,_,_,_,_,_,h=>h.elim
 |.var _::_,[],_,_,_,_,_,_,h=>h.elim
end
section
variable{X:Cx}{K:FG}{k n:Nat}{f:ao}{fd:lS}{ps:List Str}{x:Str}{p pos:Pos}{e:Expr}{es:List Expr}{fs:GA}{st:Stmt}{M:GM}
def Xo{Z:St}{H:Hp}{Q:VK}(t:tG K (aH M fs) Z H Q)(hn:∀rs Q0 aw,fs Q0=some (rs,aw)->rs.length=n):qh (fT K n M) [] E0 (kb K fs) Z H Q:=by
 obtain⟨F,A,Q0,rr,aw,k,e,w⟩:=t;unfold aH at e;cases q:fs Q0 with
 |none=>rw[q] at e;cases e
 |some pr=>
  obtain⟨rs,aJ⟩:=pr;rw[q] at e;dsimp only[Option.bind] at e;cases q2:oX rs aJ with
  |none=>rw[q2] at e;cases e
  |some pr2=>
   obtain⟨os,cD⟩:=pr2;rw[q2] at e;dsimp only at e;cases q3:M os with
   |none=>rw[q3] at e;cases e
   |some pr3=>
    obtain⟨o,fin⟩:=pr3;rw[q3] at e;cases e;refine⟨F,A,Q0,rs,aJ,k,q,λvs H1 pp=>?_⟩
    show fT K n M (vs++[]) H1 Q E0;rw[lR];obtain⟨F1,A1,x,k1,hh⟩:=pp;have hl:(vs.map some).length=(rs.map R.o).length:=by rw[bO,bO,hh.length]
    obtain⟨B,C,h1,h2,h3⟩:=ai.split hl k1.os;subst h3;obtain⟨B',C',j1,j2,j3⟩:=HG h1 h2 hh q2;have k2:OK K F1 H1 (vs.map some++Z) (os.map some++cD) (B'++C'):=.perm (j1.app j2) k1.le k1.nd k1.fr j3;obtain⟨A3,p3,k3⟩:=k2.swap j1.length;obtain⟨A4,k4,fr⟩:=k3.frame j2.length;refine⟨by rw[<-hh.length];exact hn rs Q0 aJ q,F1,A4,os,o,fin,k4,q3,λv H' pc=>w v H' ?_⟩
    obtain⟨F5,A5,x5,k5⟩:=pc;obtain⟨A6,x6,k6⟩:=fr _ _ _ _ _ x5 k5;obtain⟨D1,D2,g1,g2,g3⟩:=ai.split j2.length k6.os;subst g3;obtain⟨D3,D4,g4,g5,g6⟩:=g2.one;subst g6;obtain⟨D5,g7,g8⟩:=Ih g5 g1 hh;have s1:a_ (D3++D5) (D1++(D3++D4)):=by
     refine((a_.refl D3).app g8).trans (.cq ?_);rw[<-iN];exact qN
    obtain⟨k7,x7⟩:=k6.sub (Z':=some v::Z) (aw:=some o::qS rs fin cD) (g4.app g7) s1;have x3:Ext F1 H1 (B++C) F1 H1 A3:=Ext.lO Ext.refl λa m=>j3.mem_iff.mp (p3.mem_iff.mp m)
    exact⟨F5,D3++D5,((x.trans x3).trans x6).trans x7,k7,jn⟩
def dt:∀rs Q0 aw,gN Q0=some (rs,aw)->rs.length=0:=λrs Q0 aw e=>by cases e;rfl
def aV{f:GE}{g:GA}{n:Nat}(h:∀rs Q0 aw,g Q0=some (rs,aw)->rs.length=n):∀rs Q0 aw,aj f g Q0=some (rs,aw)->rs.length=n+1:=λrs Q0 aw e=>by
 obtain⟨r,aJ,LZ,_,e2,rfl⟩:=M9 e;simp[h _ _ _ e2]
def eI(D:bU X.K X.mg x st f fd ps)(Fn:bQ X.prog X.w X.K X.mg X.base fw k f fd ps (fT K n M))(hr:eH k X.A)(ha:PA X (e::es) (kb K fs))(hn:∀rs Q0 aw,fs Q0=some (rs,aw)->rs.length=n)(hg:Gl X x:=by rfl)(o_:(x == ("__debug__":Str))=false:=by decide)
  (he:starEach (e::es) X.env=(false,eval e X.env)::starEach es X.env:=by rfl) (kl:(backTo pos (starEach es X.env)).any (·.1)=false:=by rfl) :
  PE X (.Call (.Name x p) (e::es) [] pos) (tG K (aH M fs)):=(wD D Fn hr ha hg o_ he kl).mono λ_ _ _ t=>Xo t hn
end
noncomputable def j9:List O->ak (List D)
 |[]=>some []
 |.Y d::os=>(j9 os).bind λds=>some (d::ds)
 |_::_=>none
def de:O->ak (List D)
 |.Y (.lst ds)=>some ds
 |.Y (.fH ns)=>some (ns.map .int)
 |.lst os=>j9 os
 |_=>none
def vn:O->ak (List D)
 |.Y (.tup ds)=>some ds
 |.tup os=>j9 os
 |_=>none
theorem xf:∀ds:List D,j9 (ds.map .Y)=some ds
 |[]=>rfl
 |d::ds=>by rw[cY,j9,xf ds];rfl
theorem jW:∀ds:List D,O.dl (ds.map .Y)=ds
 |[]=>rfl
 |d::ds=>by rw[cY,O.dl,jW ds];rfl
section
variable{K:FG}{F H:Hp}{x y v:V}{o:O}{B:List ao}{ds:List D}{d:D}{ws:List V}
theorem Ii:∀{ws:List V} {os:List O} {ds:List D} {B:List ao},ai K F H (ws.map some) (os.map some) B->j9 os=some ds->ax K F ws ds
 |[],[],_,_,_,e=>by cases e;exact .nil
 |w::ws,o::os,ds,B,h,e=>by
  obtain⟨B1,B2,h1,h2,_⟩:=ai.one h;cases o with
  |Y d=>
   unfold j9 at e;cases q:j9 os with
   |none=>rw[q] at e;cases e
   |some J5=>
    rw[q] at e;cases e;cases h1 with
    |Y r _=>exact .cons r (Ii h2 q)
  |_=>cases e
 |[],_::_,_,_,h,_=>by have:=h.length;simp at this
 |_::_,[],_,_,h,_=>by have:=h.length;simp at this
theorem D9:∀{ws:List V} {ds:List D},ax K F ws ds->ai K F H (ws.map some) ((ds.map .Y).map some) []
 |[],[],_=>.nil
 |w::ws,d::ds,h=>.Y h.inv.1 (D9 h.inv.2)
 |[],_::_,h=>by have:=h.length;simp at this
 |_::_,[],h=>by have:=h.length;simp at this
theorem Ij:∀ns:List Int,ax K F (ns.map V.int) (ns.map D.int)
 |[]=>.nil
 |n::ns=>.flat rfl (Ij ns)
def tP(le:aO F H)(h:ai K F H [some x] [some o] B)(e:de o=some ds):∃a ws,x=.ref a/\dH K H a ws/\ax K F ws ds:=by
 cases h with
 |@Y _ d _ _ _ r _=>
  cases r with
  |lst q i _=>cases e;exact⟨_,_,rfl,.inl (le.rd q),i⟩
  |exc _ _=>cases e
  |fH q _=>cases e;exact⟨_,_,rfl,le.seq q,Ij _⟩
  |flat q _=>cases d <;> first|(cases q;done)|cases e
  |tup _ _ _=>cases e
  |aI _ _ _ _ _=>cases e
 |lst q i _=>exact⟨_,_,rfl,dH.of q,Ii i e⟩
 |tup _ _ _=>cases e
 |aI _ _ _ _ _=>cases e
def Po(le:aO F H)(h:ai K F H [some x] [some o] B)(e:vn o=some ds):∃a ws,x=.ref a/\iB K H a ws/\ax K F ws ds:=by
 cases h with
 |@Y _ d _ _ _ r _=>
  cases r with
  |tup q i _=>cases e;exact⟨_,_,rfl,le.pD q,i⟩
  |fH q _=>cases e
  |exc _ _=>cases e
  |flat q _=>cases d <;> first|(cases q;done)|cases e
  |lst _ _ _=>cases e
  |aI _ _ _ _ _=>cases e
 |tup q i _=>exact⟨_,_,rfl,iB.of q,Ii i e⟩
 |lst _ _ _=>cases e
 |aI _ _ _ _ _=>cases e
def i4(h:ai K F H [some x] [some (.Y d)] B)(e:nJ d=some v):x=v:=by
 cases h with
 |Y r _=>
  cases r with
  |flat q _=>rw[e] at q;exact(Option.some.inj q).symm
  |lst _ _ _=>cases e
  |tup _ _ _=>cases e
  |aI _ _ _ _ _=>cases e
  |fH _ _=>cases e
  |exc _ _=>cases e
def pS(le:aO F H)(h:ai K F H [some x] [some o] B):ax K H [x] [o.d]:=h.rep le (λ_ _ _ e=>e) [x] [o] rfl rfl
theorem Res.lst{Q:VK}(h:Res K F H (.lst (ds.map .Y)) Q)(r:ax K F ws ds){l:ao}(hn:H l=none):Q (.ref l) (upd H l (.lst ws)):=
 h (.ref l) _ ([l]++[]++[]) (uE hn) (.lst jG (D9 r) .nil) (by simp) (λa m=>by simp at m;rw[m];exact hn)
theorem Res.tup{Q:VK}(h:Res K F H (.tup (ds.map .Y)) Q)(r:ax K F ws ds){l:ao}(hn:H l=none):Q (.ref l) (upd H l (.tup ws)):=
 h (.ref l) _ ([l]++[]++[]) (uE hn) (.tup jG (D9 r) .nil) (by simp) (λa m=>by simp at m;rw[m];exact hn)
def mG.one{o:O}{vs:List V}(h:mG K F H vs [o]):∃x B,vs=[x]/\ai K F H [some x] [some o] B:=by
 cases h with
 |cons a t=>cases t;obtain⟨B,a⟩:=a;exact⟨_,B,rfl,a⟩
def mG.two{o o':O}{vs:List V}(h:mG K F H vs [o,o']):∃x y B C,vs=[x,y]/\ai K F H [some x] [some o] B/\ai K F H [some y] [some o'] C:=by
 cases h with
 |cons a t=>cases t with
  |cons b t=>cases t;obtain⟨B,a⟩:=a;obtain⟨C,b⟩:=b;exact⟨_,_,B,C,rfl,a,b⟩
end
section
variable{X:Cx}
def s_(K:FG):R2:=λx y H Q=>∃l b xs zs,x=.ref l/\y=.ref b/\dH K H l xs/\dH K H b zs/\xs.length+zs.length<=sizeLine/\∀p,H p=none->Q (.ref p) (upd H p (.lst (xs++zs)))
def Xp:hX X (binaryOp .Add) (s_ X.K):=by
 intro af s Z H x y v u Q I rx ry h;obtain⟨l,b,xs,zs,rfl,rfl,hH,hB,hz,q⟩:=h;cases rx;cases ry;obtain⟨aA,r,pl,_⟩:=I.list hH;obtain⟨kQ,r2,LV,_⟩:=I.list hB;have hl:=r.length;have K7:=r2.length;obtain⟨⟨cls,dd,data,sl⟩,ho,hc,n,hd⟩:=id pl.isList;obtain⟨⟨cls2,BU,data2,sl2⟩,Gw,R_,n2,hd2⟩:=id LV.isList;simp only at hc hd R_ hd2;subst hc hd R_ hd2;have ea:aA.toArray++kQ.toArray=(aA++kQ).toArray:=by simp
 refine concat_meets ⟨_,ho,rfl⟩ ⟨_,Gw,rfl⟩ noFill_list_add seq_list_add PySem.F.slot_list_add PySem.F.entry_list_add (PySem.F.args_list_add_2 _ _) (list_addW l b aA.toArray kQ.toArray n n2 dd BU sl sl2 (by simp only[gu];lia)) ⟨ho,Gw,?_⟩
 rw[ea];exact⟨.ref _,_,I.LK (t':=s.toks) (r.append r2) (by rw[fe];lia),rfl,q _ I.fresh⟩
def VG(K:FG)(hK:X.K=K:=by rfl):hX X (binaryOp .Add) (s_ K):=hK ▸ Xp
noncomputable def uO:O->O->ak (ak O)
 |.Y (.int i),.Y (.int j)=>some (some (.Y (.int (i+j))))
 |.Y (.str x),.Y (.str y)=>some (if x.length+y.length<=1000000 then some (.Y (.str (x++y))) else none)
 |_,_=>none
def bY:List O->ak O
 |[a,b]=>match uO a b with
  |some r=>r
  |none=>(de a).bind λxs=>(de b).bind λys=>if xs.length+ys.length<=1000000 then some (.lst ((xs++ys).map .Y)) else none
 |_=>none
def wG(K:FG):R2:=λx y H Q=>uh (λi j=>.int (i+j)) x y H Q\/(∃i j,x=.str i/\y=.str j/\i.length+j.length<=sizeLine/\Q (.str (i++j)) H)\/s_ K x y H Q
def gY(K:FG)(hK:X.K=K:=by rfl):hX X (binaryOp .Add) (wG K):=yn.or (pA.or (VG K hK))
def ml{n:Nat}(h:n<=1000000):n<=sizeLine:=k_ h (by decide)
def gZ{K:FG}:cO K (nk (wG K)) bY:=by
 intro F H vs os o Q le eW e res;unfold bY at e;split at e
 .rename_i a b
  obtain⟨x,y,B,C,rfl,h1,h2⟩:=eW.two;split at e
  .rename_i r q
   unfold uO at q;split at q
   .cases q;cases e;cases i4 h1 rfl;cases i4 h2 rfl;exact⟨_,_,rfl,.inl ⟨_,_,rfl,rfl,res.flat rfl⟩⟩
   .cases q;split at e
    .cases e;cases i4 h1 rfl;cases i4 h2 rfl;exact⟨_,_,rfl,.inr (.inl ⟨_,_,rfl,rfl,ml (by assumption),res.flat rfl⟩)⟩
    .cases e
   .cases q
  .cases q1:de a with
   |none=>rw[q1] at e;cases e
   |some xs=>
    rw[q1] at e;cases q2:de b with
    |none=>rw[q2] at e;cases e
    |some ys=>
     rw[q2] at e;dsimp only[Option.bind] at e;split at e
     .cases e;obtain⟨a1,Mm,rfl,s1,r1⟩:=tP le h1 q1;obtain⟨a2,Dr,rfl,s2,r2⟩:=tP le h2 q2;refine⟨_,_,rfl,.inr (.inr ⟨a1,a2,Mm,Dr,rfl,rfl,s1,s2,ml (by rw[r1.length,r2.length];assumption),λp hp=>res.lst (r1.append r2) hp⟩)⟩
     .cases e
 .cases e
noncomputable def og(C:Int->Int->Bool)(f:Int->Int->D):List O->ak O
 |[.Y (.int i),.Y (.int j)]=>if C i j=true then some (.Y (f i j)) else none
 |_=>none
def Bn{K:FG}{r:R2}{C:Int->Int->Bool}{f:Int->Int->D}{g:Int->Int->V}(hf:∀i j,nJ (f i j)=some (g i j))(hr:∀i j H Q,C i j=true->Q (g i j) H->r (.int i) (.int j) H Q):cO K (nk r) (og C f):=by
 intro F H vs os o Q le eW e res;unfold og at e;split at e
 .split at e
  .cases e;obtain⟨x,y,B,C,rfl,h1,h2⟩:=eW.two;cases i4 h1 rfl;cases i4 h2 rfl;exact⟨_,_,rfl,hr _ _ _ _ (by assumption) (res.flat (hf _ _))⟩
  .cases e
 .cases e
abbrev pq:=og (λ_ _=>true) λi j=>.int (i - j)
abbrev mf:=og (λ_ j=>decide (0<j/\j<1073741824)) λi j=>.int (i / j)
abbrev oMod:=og (λ_ j=>decide (0<j)) λi j=>.int (i%j)
abbrev oLt:=og (λ_ _=>true) λi j=>.bl (decide (i<j))
abbrev qG:=og (λ_ _=>true) λi j=>.bl (decide (j<i))
def zm{K:FG}:cO K (nk (uh λi j=>.int (i - j))) pq:=Bn (λ_ _=>rfl) λ_ _ _ _ _ q=>⟨_,_,rfl,rfl,q⟩
def b2i{K:FG}:cO K (nk (rI wR λi j=>.int (i / j))) mf:=Bn (λ_ _=>rfl) λi j _ _ c q=>⟨_,_,rfl,rfl,show wR i j from yK (p:=0<j/\j<1073741824) c,q⟩
def t5{K:FG}:cO K (nk (rI (λ_ j=>0<j) λi j=>.int (i%j))) oMod:=Bn (λ_ _=>rfl) λ_ _ _ _ c q=>⟨_,_,rfl,rfl,yK c,q⟩
def uR{K:FG}:cO K (nk (uh λi j=>.bl (decide (i<j)))) oLt:=Bn (λ_ _=>rfl) λ_ _ _ _ _ q=>⟨_,_,rfl,rfl,q⟩
def uS{K:FG}:cO K (nk (uh λi j=>.bl (decide (j<i)))) qG:=Bn (λ_ _=>rfl) λ_ _ _ _ _ q=>⟨_,_,rfl,rfl,q⟩
end
instance (z:Str) (n:Int):Decidable (MulOk z n):=by unfold MulOk;infer_instance
section
variable{X:Cx}
noncomputable def CA(j:Int):O->ak O
 |.Y (.int i)=>if(-(2^64)<i/\i<2^64)\/(-(2^64)<j/\j<2^64) then some (.Y (.int (i*j))) else none
 |.Y (.str z)=>if MulOk z j then some (.Y (.str (Txt.mul z j))) else none
 |_=>none
def ie:List O->ak O
 |[a,.Y (.int j)]=>CA j a
 |_=>none
def wI:R2:=λx y H Q=>rI uq (λi j=>.int (i*j)) x y H Q\/∃z n,x=.str z/\y=.int n/\MulOk z n/\Q (.str (Txt.mul z n)) H
def vK:hX X (binaryOp .Mult) wI:=yp.or TV
def vQ{K:FG}:cO K (nk wI) ie:=by
 intro F H vs os o Q le eW e res;unfold ie at e;split at e
 .obtain⟨x,y,B,C,rfl,h1,h2⟩:=eW.two;unfold CA at e;split at e
  .split at e
   .cases e;cases i4 h1 rfl;cases i4 h2 rfl;exact⟨_,_,rfl,.inl ⟨_,_,rfl,rfl,by assumption,res.flat rfl⟩⟩
   .cases e
  .split at e
   .cases e;cases i4 h1 rfl;cases i4 h2 rfl;exact⟨_,_,rfl,.inr ⟨_,_,rfl,rfl,by assumption,res.flat rfl⟩⟩
   .cases e
  .cases e
 .cases e
noncomputable def sP:List O->ak O
 |[.Y (.int i)]=>some (.Y (.int (-i)))
 |_=>none
def QL{K:FG}:cO K (LW (rU λi=>.int (-i))) sP:=by
 intro F H vs os o Q le eW e res;unfold sP at e;split at e
 .cases e;obtain⟨x,B,rfl,h1⟩:=eW.one;cases i4 h1 rfl;exact⟨_,rfl,_,rfl,res.flat rfl⟩
 .cases e
mutual
noncomputable def bj:D->D->Bool
 |.lst xs,.lst ys=>eU xs ys
 |.tup xs,.tup ys=>eU xs ys
 |.bF,.bF=>true
 |.bl a,.bl b=>a == b
 |.bl a,.int b=>(if a then 1 else 0) == b
 |.int a,.bl b=>a == (if b then 1 else 0)
 |.int a,.int b=>a == b
 |.str a,.str b=>a == b
 |_,_=>false
noncomputable def eU:List D->List D->Bool
 |[],[]=>true
 |x::xs,y::ys=>bj x y&&eU xs ys
 |_,_=>false
end
noncomputable def cS:Nat->D->Bool
 |n+1,.lst xs=>xs.all (cS n)
 |n+1,.tup xs=>xs.all (cS n)
 |_,.bF=>true
 |_,.bl _=>true
 |_,.int _=>true
 |_,.str _=>true
 |_,_=>false
theorem AS:∀{xs ys:List D},xs.length≠ys.length->eU xs ys=false
 |[],[],h=>cu rfl h
 |[],_::_,_=>by unfold eU;rfl
 |_::_,[],_=>by unfold eU;rfl
 |x::xs,y::ys,h=>by unfold eU;rw[AS (by simpa using h),G7]
theorem AU:∀{xs ys:List D} (n:Nat),xs.length=n->ys.length=n->eU xs ys=(List.range n).all λj=>bj (xs.getD j .bF) (ys.getD j .bF)
 |[],[],0,_,_=>by unfold eU;rfl
 |x::xs,y::ys,n+1,h1,h2=>by
  unfold eU;rw[AU n (by simpa using h1) (by simpa using h2),List.range_succ_eq_map,vx,List.all_map]
  rfl
 |[],_,_+1,h,_=>by simp at h
 |_::_,[],_+1,_,h=>by simp at h
 |_::_,_,0,h,_=>by simp at h
 |[],_::_,0,_,h=>by simp at h
variable{af:List (ao×Obj)}{Z:St}{H:Hp}{s:aE}
def vR{K:FG}{F:Hp}{ws:List V}{es:List D}(r:ax K F ws es){aA:List au}(rv:Vals ws aA){j:Nat}(h:j<aA.toArray.size):∃x,RelV x aA.toArray[j]/\ax K F [x] [es.getD j .bF]/\j<es.length:=by
 obtain⟨x,hx,rx⟩:=rv.at h;have hl:=r.length;have hj:j<es.length:=by
  have:=(iA.mp hx).1;lia
 obtain⟨y,hy,ry⟩:=r.get (i:=j) (d:=es[j]) (by simp[hj])
 rw[hx] at hy;cases hy;refine⟨x,rx,?_,hj⟩;rw[show es.getD j .bF=es[j] by simp[hj]]
 exact ry
def vG{p:D->Bool}{es:List D}(h:es.all p=true){j:Nat}(hj:j<es.length):p (es.getD j .bF)=true:=by
 rw[show es.getD j .bF=es[j] by simp[hj]]
 exact nr.mp h _ (vw hj)
inductive w6 (K:FG) (H:Hp) (s:aE):au->D->Prop
 |none:w6 K H s .none .bF
 |bool (b:Bool):w6 K H s (.bool b) (.bl b)
 |int (i:Int) (t:Tok):w6 K H s (.int i t) (.int i)
 |str (x:Str) (t:Tok):w6 K H s (.str x t) (.str x)
 |list {a:ao} {aA:List au} {ws:List V} {es:List D}:s.heap.IsList a aA.toArray->Vals ws aA->ax K H ws es->w6 K H s (.ref a) (.lst es)
 |tuple {a:ao} {aA:List au} {ws:List V} {es:List D}:s.heap.IsTuple a aA.toArray->Vals ws aA->ax K H ws es->w6 K H s (.ref a) (.tup es)
def EV(I:Inv X af Z H s){n:Nat}{x:V}{u:au}{d:D}(r:ax X.K H [x] [d])(ru:RelV x u)(ok:cS n d=true):w6 X.K H s u d:=by
 cases r with
 |lst q i _=>
  cases ru;obtain⟨aA,rv,pl,_⟩:=I.list (.inl q);exact .list pl.isList rv i
 |tup q i _=>
  cases ru;obtain⟨aA,rv,pl,_⟩:=I.tuple q;exact .tuple pl rv i
 |aI _ _ _ _ _=>cases n <;> cases ok
 |fH _ _=>cases n <;> cases ok
 |exc _ _=>cases n <;> cases ok
 |flat q _=>
  cases d with
  |bF=>cases q;cases ru;exact .none
  |bl b=>cases q;cases ru;exact .bool b
  |int i=>cases q;obtain⟨t,rfl⟩:=ru;exact .int i t
  |str z=>cases q;obtain⟨t,rfl⟩:=ru;exact .str z t
  |ty _=>cases n <;> cases ok
  |lst _=>cases q
  |tup _=>cases q
  |aI _=>cases q
  |fH _=>cases q
  |exc _ _=>cases q
def y8{n:Nat}{es:List D}(h:cS n (.lst es)=true):∃m,n=m+1/\es.all (cS m)=true:=by
 cases n with
 |zero=>cases h
 |succ n=>exact⟨n,rfl,h⟩
def y9{n:Nat}{es:List D}(h:cS n (.tup es)=true):∃m,n=m+1/\es.all (cS m)=true:=by
 cases n with
 |zero=>cases h
 |succ n=>exact⟨n,rfl,h⟩
def NL{es:List D}(h:∀d∈es,bj d d=true):eU es es=true:=by
 induction es with
 |nil=>unfold eU;rfl
 |cons d es ih=>unfold eU;rw[h d (by simp),ih λd m=>h d (by simp[m])];rfl
def Ik:∀(n:Nat) {d:D},cS n d=true->bj d d=true:=by
 intro n
 induction n with
 |zero=>intro d h;cases d <;> first|(cases h;done)|simp[bj]
 |succ n ih=>
  intro d h;cases d with
  |lst es=>simp only[bj];exact NL λd m=>ih (nr.mp h d m)
  |tup es=>simp only[bj];exact NL λd m=>ih (nr.mp h d m)
  |aI _=>cases h
  |fH _=>cases h
  |exc _ _=>cases h
  |ty _=>cases h
  |_=>simp[bj]
def Tw{xs ys:List D}(hl:xs.length=ys.length)(h:∀j,j<xs.length->xs.getD j .bF=ys.getD j .bF):xs=ys:=by
 apply List.ext_getElem hl;intro j h1 h2;have:=h j h1;simpa[h1,h2] using this
noncomputable def Mj:V->D
 |.bl b=>.bl b
 |.int i=>.int i
 |.str x=>.str x
 |.ty n=>.ty n
 |_=>.bF
def NM{d:D}{v:V}(h:nJ d=some v):d=Mj v:=by cases d <;> cases h <;> rfl
def xg{d:D}{a:ao}(h:nJ d=some (.ref a)):False:=by cases d <;> cases h
def Et(I:Inv X af Z H s):∀(n m:Nat) {x:V} {d e:D},ax X.K H [x] [d]->ax X.K H [x] [e]->cS n d=true->cS m e=true->d=e:=by
 intro n
 induction n using Nat.strongRecOn with
 |ind n ih=>
 intro m x d e rd re od oe;have go:∀{ws:List V} {es lW:List D} {n' m':Nat},n'<n->ax X.K H ws es->ax X.K H ws lW->es.all (cS n')=true->lW.all (cS m')=true->es=lW:=by
  intro ws es lW n' m' hn r1 r2 o1 o2;have l1:=r1.length;have l2:=r2.length;refine Tw (by lia) λj hj=>?_
  have K5:j<lW.length:=by lia
  obtain⟨v,g1,g2⟩:=r1.get (i:=j) (d:=es[j]) (by simp[hj])
  obtain⟨v',p1,p2⟩:=r2.get (i:=j) (d:=lW[j]) (by simp[K5])
  rw[g1] at p1;cases p1;rw[show es.getD j .bF=es[j] by simp[hj],show lW.getD j .bF=lW[j] by simp[K5]]
  exact ih n' hn m' g2 p2 (nr.mp o1 _ (vw hj)) (nr.mp o2 _ (vw K5))
 cases rd with
 |flat q _=>
  cases re with
  |flat q' _=>
   rw[NM q,NM q']
  |lst _ _ _=>exact(xg q).elim
  |tup _ _ _=>exact(xg q).elim
  |aI _ _ _ _ _=>exact(xg q).elim
  |fH _ _=>exact(xg q).elim
  |exc _ _=>exact(xg q).elim
 |lst q i _=>
  obtain⟨n',rfl,sQ⟩:=y8 od;cases re with
  |flat q' _=>exact(xg q').elim
  |lst q' i' _=>
   obtain⟨m',rfl,sR⟩:=y8 oe;cases I.kR (.inl q) (.inl q');rw[go (Dw _) i i' sQ sR]
  |tup q' i' _=>
   obtain⟨_,_,p1,_⟩:=I.list (.inl q);obtain⟨_,_,p2,_⟩:=I.tuple q';exact cu rfl (SeqAt.ne_of_list_tuple p1.isList p2)
  |aI _ _ _ _ _=>cases m <;> cases oe
  |fH _ _=>cases m <;> cases oe
  |exc _ _=>cases m <;> cases oe
 |tup q i _=>
  obtain⟨n',rfl,sQ⟩:=y9 od;cases re with
  |flat q' _=>exact(xg q').elim
  |tup q' i' _=>
   obtain⟨m',rfl,sR⟩:=y9 oe;cases I.mD q q';rw[go (Dw _) i i' sQ sR]
  |lst q' i' _=>
   obtain⟨_,_,p1,_⟩:=I.list (.inl q');obtain⟨_,_,p2,_⟩:=I.tuple q;exact cu rfl (SeqAt.ne_of_list_tuple p1.isList p2)
  |aI _ _ _ _ _=>cases m <;> cases oe
  |fH _ _=>cases m <;> cases oe
  |exc _ _=>cases m <;> cases oe
 |aI _ _ _ _ _=>cases n <;> cases od
 |fH _ _=>cases n <;> cases od
 |exc _ _=>cases n <;> cases od
def Bo(I:Inv X af Z H s):∀(n m:Nat) {A:eY} {x y:V} {u v:au} {d e:D},ax X.K H [x] [d]->ax X.K H [y] [e]->cS n d=true->cS m e=true->RelV x u->RelV y v->A.units+n<cLine->
  SeqAt.EqAt A s u v (bj d e)/\SeqAt.RcAt A s u v (bj d e):=by
 intro n
 induction n using Nat.strongRecOn with
 |ind n ih=>
 intro m A x y u v d e rd re od oe ru rv hu;have dM:A.units<cLine:=by lia
 have s1:=EV I rd ru od;have s2:=EV I re rv oe;cases s1 with
 |none=>
  cases s2 with
  |none=>
   exact⟨SeqAt.EqAt.same _,SeqAt.RcAt.none_none⟩
  |bool a2=>
   simp only[bj];exact⟨SeqAt.EqAt.none_bool a2,SeqAt.RcAt.none_bool a2⟩
  |int a2 t2=>
   simp only[bj];exact⟨SeqAt.EqAt.none_int a2 t2,SeqAt.RcAt.none_int a2 t2⟩
  |str a2 t2=>
   simp only[bj];exact⟨SeqAt.EqAt.none_str a2 t2,SeqAt.RcAt.none_str a2 t2⟩
  |list l2 v2 r2=>
   simp only[bj];exact⟨SeqAt.EqAt.none_list l2 dM,SeqAt.RcAt.none_list l2 dM⟩
  |tuple l2 v2 r2=>
   simp only[bj];exact⟨SeqAt.EqAt.none_tuple l2 dM,SeqAt.RcAt.none_tuple l2 dM⟩
 |bool a1=>
  cases s2 with
  |none=>
   simp only[bj];exact⟨SeqAt.EqAt.bool_none a1,SeqAt.RcAt.bool_none a1⟩
  |bool a2=>
   simp only[bj];exact⟨SeqAt.EqAt.bool_bool a1 a2,SeqAt.RcAt.bool_bool a1 a2⟩
  |int a2 t2=>
   simp only[bj];exact⟨SeqAt.EqAt.bool_int a1 a2 t2,SeqAt.RcAt.bool_int a1 a2 t2⟩
  |str a2 t2=>
   simp only[bj];exact⟨SeqAt.EqAt.bool_str a1 a2 t2,SeqAt.RcAt.bool_str a1 a2 t2⟩
  |list l2 v2 r2=>
   simp only[bj];exact⟨SeqAt.EqAt.bool_list a1 l2 dM,SeqAt.RcAt.bool_list a1 l2 dM⟩
  |tuple l2 v2 r2=>
   simp only[bj];exact⟨SeqAt.EqAt.bool_tuple a1 l2 dM,SeqAt.RcAt.bool_tuple a1 l2 dM⟩
 |int a1 t1=>
  cases s2 with
  |none=>
   simp only[bj];exact⟨SeqAt.EqAt.int_none a1 t1,SeqAt.RcAt.int_none a1 t1⟩
  |bool a2=>
   simp only[bj];exact⟨SeqAt.EqAt.int_bool a1 t1 a2,SeqAt.RcAt.int_bool a1 t1 a2⟩
  |int a2 t2=>
   simp only[bj];exact⟨SeqAt.EqAt.int_int a1 t1 a2 t2,SeqAt.RcAt.int_int a1 t1 a2 t2⟩
  |str a2 t2=>
   simp only[bj];exact⟨SeqAt.EqAt.int_str a1 t1 a2 t2,SeqAt.RcAt.int_str a1 t1 a2 t2⟩
  |list l2 v2 r2=>
   simp only[bj];exact⟨SeqAt.EqAt.int_list a1 t1 l2 dM,SeqAt.RcAt.int_list a1 t1 l2 dM⟩
  |tuple l2 v2 r2=>
   simp only[bj];exact⟨SeqAt.EqAt.int_tuple a1 t1 l2 dM,SeqAt.RcAt.int_tuple a1 t1 l2 dM⟩
 |str a1 t1=>
  cases s2 with
  |none=>
   simp only[bj];exact⟨SeqAt.EqAt.str_none a1 t1,SeqAt.RcAt.str_none a1 t1⟩
  |bool a2=>
   simp only[bj];exact⟨SeqAt.EqAt.str_bool a1 t1 a2,SeqAt.RcAt.str_bool a1 t1 a2⟩
  |int a2 t2=>
   simp only[bj];exact⟨SeqAt.EqAt.str_int a1 t1 a2 t2,SeqAt.RcAt.str_int a1 t1 a2 t2⟩
  |str a2 t2=>
   simp only[bj];exact⟨SeqAt.EqAt.str_str a1 t1 a2 t2,SeqAt.RcAt.str_str a1 t1 a2 t2⟩
  |list l2 v2 r2=>
   simp only[bj];exact⟨SeqAt.EqAt.str_list a1 t1 l2 dM,SeqAt.RcAt.str_list a1 t1 l2 dM⟩
  |tuple l2 v2 r2=>
   simp only[bj];exact⟨SeqAt.EqAt.str_tuple a1 t1 l2 dM,SeqAt.RcAt.str_tuple a1 t1 l2 dM⟩
 |list l1 v1 r1=>
  cases s2 with
  |none=>
   simp only[bj];exact⟨SeqAt.EqAt.list_none l1 dM,SeqAt.RcAt.list_none l1 dM⟩
  |bool a2=>
   simp only[bj];exact⟨SeqAt.EqAt.list_bool a2 l1 dM,SeqAt.RcAt.list_bool a2 l1 dM⟩
  |int a2 t2=>
   simp only[bj];exact⟨SeqAt.EqAt.list_int a2 t2 l1 dM,SeqAt.RcAt.list_int a2 t2 l1 dM⟩
  |str a2 t2=>
   simp only[bj];exact⟨SeqAt.EqAt.list_str a2 t2 l1 dM,SeqAt.RcAt.list_str a2 t2 l1 dM⟩
  |list l2 v2 r2=>
   rename_i a aA ws es b kQ Dr lW
   obtain⟨n',rfl,sQ⟩:=y8 od;obtain⟨m',rfl,sR⟩:=y8 oe;have la:=v1.length;have lb:=v2.length;have LD:=r1.length;have LG:=r2.length;have rc:SeqAt.RcAt A s (.ref a) (.ref b) (bj (.lst es) (.lst lW)):=by
    simp only[bj];by_cases hl:es.length=lW.length
    .rw[AU aA.toArray.size (by simp only[gu];lia) (by simp only[gu];lia)]
     refine SeqAt.RcAt.lists (A:=A) l1 l2 (by simp only[gu];lia) dM λj h1 h2=>?_
     obtain⟨x1,q1,q2,q3⟩:=vR r1 v1 h1;obtain⟨y1,p1,p2,p3⟩:=vR r2 v2 h2;exact(ih n' (Dw _) m' q2 p2 (vG sQ q3) (vG sR p3) q1 p1 (by show A.units+1+n'<cLine;lia)).1
    .rw[AS hl];exact SeqAt.RcAt.lists_lengths (A:=A) l1 l2 (by simp only[gu,bne_iff_ne,ne_eq];lia) dM
   refine⟨?_,rc⟩;by_cases j_:a=b
   .subst j_;have Ks:x=y:=RelV.inj ru rv;subst Ks;have e2:=Et I _ _ rd re od oe;cases e2;rw[Ik _ od];exact SeqAt.EqAt.same _
   .exact SeqAt.EqAt.of_refs j_ rc
  |tuple l2 v2 r2=>
   simp only[bj];exact⟨SeqAt.EqAt.list_tuple l1 l2 dM,SeqAt.RcAt.list_tuple l1 l2 dM⟩
 |tuple l1 v1 r1=>
  cases s2 with
  |none=>
   simp only[bj];exact⟨SeqAt.EqAt.tuple_none l1 dM,SeqAt.RcAt.tuple_none l1 dM⟩
  |bool a2=>
   simp only[bj];exact⟨SeqAt.EqAt.tuple_bool a2 l1 dM,SeqAt.RcAt.tuple_bool a2 l1 dM⟩
  |int a2 t2=>
   simp only[bj];exact⟨SeqAt.EqAt.tuple_int a2 t2 l1 dM,SeqAt.RcAt.tuple_int a2 t2 l1 dM⟩
  |str a2 t2=>
   simp only[bj];exact⟨SeqAt.EqAt.tuple_str a2 t2 l1 dM,SeqAt.RcAt.tuple_str a2 t2 l1 dM⟩
  |list l2 v2 r2=>
   simp only[bj];exact⟨SeqAt.EqAt.tuple_list l1 l2 dM,SeqAt.RcAt.tuple_list l1 l2 dM⟩
  |tuple l2 v2 r2=>
   rename_i a aA ws es b kQ Dr lW
   obtain⟨n',rfl,sQ⟩:=y9 od;obtain⟨m',rfl,sR⟩:=y9 oe;have la:=v1.length;have lb:=v2.length;have LD:=r1.length;have LG:=r2.length;have rc:SeqAt.RcAt A s (.ref a) (.ref b) (bj (.tup es) (.tup lW)):=by
    have z:=SeqAt.RcAt.tuples (A:=A) (e:=λj=>bj (es.getD j .bF) (lW.getD j .bF)) l1 l2 dM λj h1 h2=>by
     obtain⟨x1,q1,q2,q3⟩:=vR r1 v1 h1;obtain⟨y1,p1,p2,p3⟩:=vR r2 v2 h2;exact(ih n' (Dw _) m' q2 p2 (vG sQ q3) (vG sR p3) q1 p1 (by show A.units+1+n'<cLine;lia)).1
    simp only[bj];by_cases hl:es.length=lW.length
    .rw[AU aA.toArray.size (by simp only[gu];lia) (by simp only[gu];lia)]
     have e1:kQ.toArray.size=aA.toArray.size:=by simp only[gu];lia
     rw[e1,MA,lU,G8] at z;exact z
    .rw[AS hl];have e1:(aA.toArray.size == kQ.toArray.size)=false:=by rw[oI];simp only[gu];lia
     rw[e1,G7] at z;exact z
   refine⟨?_,rc⟩;by_cases j_:a=b
   .subst j_;have Ks:x=y:=RelV.inj ru rv;subst Ks;have e2:=Et I _ _ rd re od oe;cases e2;rw[Ik _ od];exact SeqAt.EqAt.same _
   .exact SeqAt.EqAt.of_refs j_ rc
end
mutual
theorem IQ:∀k j:TK,bj k.d j.d=decide (k=j)
 |.inl a,.inl b=>by simp only[TK.d,bj];rw[uj];simp
 |.inr a,.inr b=>by simp only[TK.d,bj];rw[uj];simp
 |.tp l,.tp m=>by simp only[TK.d,bj];rw[nU l m,uj];simp
 |.inl _,.inr _=>by simp[TK.d,bj]
 |.inl _,.tp _=>by simp[TK.d,bj]
 |.inr _,.inl _=>by simp[TK.d,bj]
 |.inr _,.tp _=>by simp[TK.d,bj]
 |.tp _,.inl _=>by simp[TK.d,bj]
 |.tp _,.inr _=>by simp[TK.d,bj]
theorem nU:∀l m:List TK,eU (TK.dl l) (TK.dl m)=decide (l=m)
 |[],[]=>by simp[TK.dl,eU]
 |a::l,b::m=>by simp only[TK.dl,eU];rw[IQ a b,nU l m,uj];simp
 |[],_::_=>by simp[TK.dl,eU]
 |_::_,[]=>by simp[TK.dl,eU]
end
theorem QM:∀l:List TK,TK.dl l=l.map TK.d
 |[]=>by simp[TK.dl]
 |a::l=>by simp[TK.dl,QM l]
theorem y_:∀(n:Nat) {k:TK},k.ok n=true->cS n k.d=true
 |n,.inl i,_=>by cases n <;> simp[TK.d,cS]
 |n,.inr i,_=>by cases n <;> simp[TK.d,cS]
 |0,.tp l,h=>by simp[TK.ok] at h
 |n+1,.tp l,h=>by
  simp only[TK.d,cS,QM,List.all_map];refine nr.mpr λa m=>?_
  exact y_ n (nr.mp (by simpa only[TK.ok] using h) a m)
def UE{α:Type}{M:Model}{A:eY}{E:au->aE->Prop}{s:aE}{c:Prop}[Decidable c]{a b:Sem α}{Q:α->aE->Prop}(h1:wpAny M A a Q E s)(h2:wpAny M A b Q E s):wpAny M A (if c then a else b) Q E s:=by
 split
 .exact h1
 .exact h2
theorem MU(w:eZ):∀l m:List TK,TK.f_ w (l++m)=TK.f_ w l++TK.f_ w m
 |[],m=>by simp[TK.f_]
 |a::l,m=>by simp[TK.f_,MU w l m]
theorem HH{α β:Type}{R:α->β->Prop}:∀{l:List α} {m:List β} (i:Nat) {b:β},Paired R l m->m[i]?=some b->∃a,l[i]?=some a/\R a b
 |_,_,_,_,.nil,e=>by simp at e
 |_,_,0,_,.cons r _,e=>by simp at e;subst e;exact⟨_,rfl,r⟩
 |_,_,i+1,_,.cons _ t,e=>by
  obtain⟨a,h1,h2⟩:=HH i t (by simpa using e)
  exact⟨a,by simpa using h1,h2⟩
theorem AM{α β:Type}{R:α->β->Prop}:∀{l:List α} {m:List β} (i:Nat) {a:α},Paired R l m->l[i]?=some a->∃b,m[i]?=some b/\R a b
 |_,_,_,_,.nil,e=>by simp at e
 |_,_,0,_,.cons r _,e=>by simp at e;subst e;exact⟨_,rfl,r⟩
 |_,_,i+1,_,.cons _ t,e=>by
  obtain⟨a,h1,h2⟩:=AM i t (by simpa using e)
  exact⟨a,by simpa using h1,h2⟩
section
variable{X:Cx}{af:List (ao×Obj)}{Z:St}{H:Hp}
def Pp{A:eY}{E:au->aE->Prop}{s:aE}{y:V}{u:au}{i:Int}{Q:Int->aE->Prop}(r:ax X.K H [y] [TK.d (.inl i)])(ru:RelV y u)(h:∀t,Q (TK.hash X.w (.inl i)) { s with toks:=t}):wpAny (model X.prog X.w) A (pyHash u) Q E s:=by
 simp only[TK.d] at r;cases r with
 |flat q _=>cases q;obtain⟨t,rfl⟩:=ru;exact wpAny_pyHash_int (by simpa only[TK.hash] using h _)
def Pq{A:eY}{E:au->aE->Prop}{s:aE}{y:V}{u:au}{i:Str}{Q:Int->aE->Prop}(r:ax X.K H [y] [TK.d (.inr i)])(ru:RelV y u)(h:∀t,Q (TK.hash X.w (.inr i)) { s with toks:=t}):wpAny (model X.prog X.w) A (pyHash u) Q E s:=by
 simp only[TK.d] at r;cases r with
 |flat q _=>cases q;obtain⟨t,rfl⟩:=ru;exact wpAny_pyHash_str (by simpa only[TK.hash] using h _)
theorem Oz:∀(n:Nat) {A:eY} {E:au->aE->Prop} {s:aE} {y:V} {u:au} {k:TK} {Q:Int->aE->Prop},Inv X af Z H s->ax X.K H [y] [k.d]->k.ok n=true->RelV y u->A.units+n<cLine->
  (∀t,Q (k.hash X.w) { s with toks:=t})->wpAny (model X.prog X.w) A (pyHash u) Q E s:=by
 intro n
 induction n with
 |zero=>
  intro A E s y u k Q I r ok ru hu h;cases k with
  |tp l=>simp[TK.ok] at ok
  |inl i=>exact Pp r ru h
  |inr x=>exact Pq r ru h
 |succ n ih=>
  intro A E s y u k Q I r ok ru hu h;cases k with
  |inl i=>exact Pp r ru h
  |inr x=>exact Pq r ru h
  |tp l=>
   simp only[TK.d] at r;cases r with
   |flat q _=>cases q
   |@tup a ws _ _ _ q i _=>
    cases ru;obtain⟨aA,rv,pl,_⟩:=I.tuple q;have hT:s.TypeIs (.ref a) "tuple":=pl.typeIs;obtain⟨o,g1,g2,nn,g3⟩:=pl;have ok:l.all (TK.ok n)=true:=by simpa only[TK.ok] using ok
    show wpAny _ _ (pyHashByItsType (.ref a)) Q E s;unfold pyHashByItsType;refine aU (wpAny_cRoomFor_or (.inr (by lia)) (aU (wpAny_specialOf hT F.slot_tuple_hash.lookup ?_)))
    dsimp only;rw[bb (by rw[beq_builtin_none];exact oT)]
    refine aU (wpAny_specialOf hT F.slot_tuple_hash.lookup (aU ?_));refine wpAny_callSpecialIfBoundUnlessNone?_slot hT F.slot_tuple_hash (wpAny_call_entry F.slot_tuple_hash hT F.entry_tuple_hash ?_ (F.args_tuple_hash_1 _));show wpAny _ _ (Builtin.Tuple.tupleItemsOf (.ref a) >>= λz=>_) _ _ s
    refine aU (wpAny_tupleItemsOf g1 g3 (aU ?_));rw[<-Array.forIn_toList];refine wpAny_forIn_list _ (λrest (b:Array Int) s'=>∃done left wl t,l=done++left/\ax X.K H wl (TK.dl left)/\Vals wl rest/\b.toList=TK.f_ X.w done/\s'={ s with toks:=t}) _ ?_ ?_ _ _ ⟨[],l,ws,s.toks,rfl,i,rv,by simp[TK.f_],rfl⟩
    .rintro x rest b s' ⟨done,left,wl,t,e,r',v',hb,rfl⟩;cases v' with
     |@cons w1 _ wl _ L3 v'=>
      cases left with
      |nil=>have:=r'.length;simp[TK.dl] at this
      |cons k1 left=>
       simp only[TK.dl] at r';have ym:k1.ok n=true:=nr.mp ok k1 (by rw[e];simp)
       have fin:∀t',∃v8 dX S2 t'',l=v8++dX/\ax X.K H S2 (TK.dl dX)/\Vals S2 rest/\(b.push (k1.hash X.w)).toList=TK.f_ X.w v8/\({ s with toks:=t'}:aE)={ s with toks:=t''}:=
        λt'=>⟨done++[k1],left,wl,t',by simp[e],r'.inv.2,v',by rw[MU,<-hb];simp[TK.f_],rfl⟩
       exact aU (ih (I.tok t) r'.inv.1 ym L3 (by show A.units+1+n<cLine;lia) λt'=>by
        first
         |exact bW (fin t')
         |exact aU (bW (bW (fin t'))))
    .rintro b s' ⟨done,left,wl,t,e,r',v',hb,rfl⟩;cases v';have hl:left=[]:=by
      cases left with
      |nil=>rfl
      |cons _ _=>have:=r'.length;simp[TK.dl] at this
     subst hl;rw[lR] at e;subst e;show wpAny _ _ (retInt (Builtin.Tuple.tupleHashOf b.toList)) _ _ _;rw[hb];refine wpAny_ret_mkInt ?_;have h':∀t,Q (reduceHash (Builtin.Tuple.tupleHashOf (TK.f_ X.w l))) { s with toks:=t}:=λt=>by simpa only[TK.hash] using h t
     unfold reduceHash at h';show wpAny _ _ (if(decide (-(2:Int)^63<=Builtin.Tuple.tupleHashOf (TK.f_ X.w l))&&decide (Builtin.Tuple.tupleHashOf (TK.f_ X.w l)<2^63))=true then _ else _) Q E _
     split
     .rename_i hc
      rw[aY hc] at h';exact bW (h' _)
     .rename_i hc
      rw[bb hc] at h';exact aU (wpAny_rule (bW (h' _)))
theorem NN:∀(n:Nat) {A:eY} {E:au->aE->Prop} {s:aE} {y:V} {u:au} {k:TK} {Q:Bool->aE->Prop},Inv X af Z H s->ax X.K H [y] [k.d]->k.ok n=true->RelV y u->Q true s->
  wpAny (model X.prog X.w) A (eqIsQuiet n u) Q E s:=by
 intro n
 induction n with
 |zero=>
  intro A E s y u k Q I r ok ru h;cases k with
  |tp l=>simp[TK.ok] at ok
  |inl i=>simp only[TK.d] at r;cases r with|flat q _=>cases q;obtain⟨t,rfl⟩:=ru;rw[eqIsQuiet_byValue 0 rfl];exact bW h
  |inr i=>simp only[TK.d] at r;cases r with|flat q _=>cases q;obtain⟨t,rfl⟩:=ru;rw[eqIsQuiet_byValue 0 rfl];exact bW h
 |succ n ih=>
  intro A E s y u k Q I r ok ru h;cases k with
  |inl i=>simp only[TK.d] at r;cases r with|flat q _=>cases q;obtain⟨t,rfl⟩:=ru;rw[eqIsQuiet_byValue (n+1) rfl];exact bW h
  |inr i=>simp only[TK.d] at r;cases r with|flat q _=>cases q;obtain⟨t,rfl⟩:=ru;rw[eqIsQuiet_byValue (n+1) rfl];exact bW h
  |tp l=>
   simp only[TK.d] at r;cases r with
   |flat q _=>cases q
   |@tup a ws _ _ _ q i _=>
    cases ru;obtain⟨aA,rv,pl,_⟩:=I.tuple q;have hT:s.TypeIs (.ref a) "tuple":=pl.typeIs;obtain⟨o,g1,g2,nn,g3⟩:=pl;have ok:l.all (TK.ok n)=true:=by simpa only[TK.ok] using ok
    unfold eqIsQuiet;refine aU (wpAny_specialOf hT F.slot_tuple_eq.lookup (aU (wpAny_isInstance hT isSubtype_tuple_tuple ?_)));simp only[jR,tK,cB];refine aU (wpAny_seqItems g1 g3 (aU ?_));show wpAny _ _ (forIn aA.toArray _ _) _ _ s;rw[<-Array.forIn_toList];refine wpAny_forIn_list _ (λrest r s'=>r.1=none/\s'=s/\∃left wl,ax X.K H wl (TK.dl left)/\Vals wl rest/\∀x∈left,x.ok n=true) _ ?_ ?_ _ _ ⟨rfl,rfl,l,ws,i,rv,λx m=>nr.mp ok x m⟩
    .rintro v rest r s' ⟨hr,rfl,left,wl,r',v',hk⟩;cases v' with
     |@cons w1 _ wl _ L3 v'=>
      cases left with
      |nil=>have:=r'.length;simp[TK.dl] at this
      |cons k1 left=>
       simp only[TK.dl] at r';refine aU (ih I r'.inv.1 (hk k1 (by simp)) L3 ?_)
       simp only[jR,tK,cB];exact bW ⟨rfl,rfl,left,wl,r'.inv.2,v',λx m=>hk x (by simp[m])⟩
    .rintro⟨r1,r2⟩ s' ⟨hr,rfl,_⟩;cases(show r1=none from hr);exact bW h
structure zY (X:Cx) (A:eY) (E:au->aE->Prop) (s:aE) (xs:Array DictEntry) (es:List (TK×V×V)) (k:TK) (u:au):Prop where
 ent:∀(j:Nat) (x:DictEntry),xs[j]?=some x->∃e,es[j]?=some e/\ku X.w e x/\(∀(R:Bool->aE->Prop),R (decide (e.1=k)) s->wpAny (model X.prog X.w) A (eqBool x.key u) R E s)/\
  ∀(R:Bool->aE->Prop),R true s->wpAny (model X.prog X.w) A (eqIsQuiet 8 x.key) R E s
 ents:∀(j:Nat) (e:TK×V×V),es[j]?=some e->∃x:DictEntry,xs[j]?=some x/\ku X.w e x
 uniq:∀(i j:Nat) (e f:TK×V×V),es[i]?=some e->es[j]?=some f->e.1=k->f.1=k->i=j
def Zb{A:eY}{E:au->aE->Prop}{s:aE}{xs:Array DictEntry}{es:List (TK×V×V)}{k:TK}{y:V}{u:au}(I:Inv X af Z H s)(g3:Paired (ku X.w) es xs.toList)(g4:(es.map (·.1)).Nodup)
  (rk:ax X.K H (es.map (·.2.1)) (es.map (·.1.d))) (ry:ax X.K H [y] [k.d]) (ok:k.ok 8=true) (ru:RelV y u) (hu:A.units+8<cLine):zY X A E s xs es k u where
 ent:=λj x hx=>by
  obtain⟨e,e1,e2⟩:=HH j g3 (by rw[yI];exact hx)
  obtain⟨v,v1,v2⟩:=rk.get (i:=j) (d:=e.1.d) (by rw[kc,e1];rfl)
  rw[kc,e1] at v1;cases v1;refine⟨e,e1,e2,λR hR=>?_,λR hR=>NN 8 I v2 e2.2.2.2 e2.2.1 hR⟩
  refine(Bo I 8 8 v2 ry (y_ 8 e2.2.2.2) (y_ 8 ok) e2.2.1 ru hu).1 X.prog X.w E R ?_;rw[IQ];exact hR
 ents:=λj e he=>by
  obtain⟨x,x1,x2⟩:=AM j g3 he;exact⟨x,by rw[<-yI];exact x1,x2⟩
 uniq:=λi j e f he hf ek fk=>by
  have hi:(es.map (·.1))[i]?=some k:=by rw[kc,he,<-ek];rfl
  have hj:(es.map (·.1))[j]?=some k:=by rw[kc,hf,<-fk];rfl
  exact(List.getElem?_inj (iA.mp hi).1 g4).mp (hi.trans hj.symm)
section
variable{A:eY}{E:au->aE->Prop}{s:aE}{d:ao}{o:Obj}{xs:Array DictEntry}{ep:Nat}{es:List (TK×V×V)}{k:TK}{u:au}{Q:ak Nat->aE->Prop}
noncomputable abbrev om(xs:Array DictEntry)(h:Int):List Nat:=placesWithHash xs.size (λi=>xs[i]?.map (·.hash)) h
def mN{h:Int}{i:Nat}:i∈om xs h↔∃x,xs[i]?=some x/\x.hash=h:=by
 unfold om placesWithHash;rw[jr,rn];constructor
 .rintro⟨h1,h2⟩;refine⟨xs[i],um h1,?_⟩;dsimp only at h2;rw[um h1] at h2;simpa using h2
 .rintro⟨x,h1,h2⟩;refine⟨(G9.mp h1).1,?_⟩;dsimp only;rw[h1,DC,h2];simp
def UG{h:Int}:(om xs h).Nodup:=List.Nodup.sublist List.filter_sublist List.nodup_range
def zY.om(D:zY X A E s xs es k u){j:Nat}{e:TK×V×V}(he:es[j]?=some e)(ek:e.1=k):j∈om xs (k.hash X.w):=by
 obtain⟨x,x1,x2⟩:=D.ents j e he;exact mN.mpr ⟨x,x1,by rw[x2.1,ek]⟩
def UH(D:zY X A E s xs es k u)(g1:s.heap.get? d=some o)(g2:o.data=.dict xs ep)
  (q0:(∀(j:Nat) (e:TK×V×V),es[j]?=some e->e.1≠k)->Q none s) (q1:∀(j:Nat) (e:TK×V×V),es[j]?=some e->e.1=k->Q (some j) s) :
  wpAny (model X.prog X.w) A (dictWalkPlain d u (k.hash X.w) xs (om xs (k.hash X.w))) Q E s:=by
 unfold dictWalkPlain;refine aU (wpAny_forIn_list _ (λrest b s'=>s'=s/\b=(none,())/\∃done,om xs (k.hash X.w)=done++rest/\∀j e,j∈done->es[j]?=some e->e.1≠k) _ ?_ ?_ _ _ ⟨rfl,rfl,[],rfl,λ_ _ m=>by cases m⟩)
 .rintro i rest b s' ⟨rfl,rfl,done,hd,ud⟩;obtain⟨x,x1,x2⟩:=mN.mp (show i∈om xs (k.hash X.w) by rw[hd];simp)
  obtain⟨e,e1,e2,eq,_⟩:=D.ent i x x1;simp only[x1];rw[aY (by rw[x2];simp)]
  refine aU (wpAny_dictEpoch g1 g2 (aU (eq _ (aU (wpAny_dictEpoch g1 g2 ?_)))));rw[bb (by simp)]
  by_cases ek:e.1=k
  .rw[ig ek];exact aU (wpAny_rule (bW (bW (q1 i e e1 ek))))
  .rw[ij ek];refine aU (wpAny_rule (bW ⟨rfl,rfl,done++[i],by simp[hd],λj f m hf=>?_⟩))
   rcases eT.mp m with m|m
   .exact ud j f m hf
   .simp at m;subst m;rw[e1] at hf;cases hf;exact ek
 .rintro b s' ⟨rfl,rfl,done,hd,ud⟩;refine bW (q0 λj e he ek=>ud j e ?_ he ek)
  have:=D.om he ek;rw[hd] at this;simpa using this
def idv(u:au):au:=u
def VH(D:zY X A E s xs es k u)(g1:s.heap.get? d=some o)(g2:o.data=.dict xs ep)(hq:∀(R:Bool->aE->Prop),R true s->wpAny (model X.prog X.w) A (eqIsQuiet 8 u) R E s)
  (hs:∀z t,u=.str z t->k=.inr z) (ra:∀(j:Nat) (x:DictEntry) (e:TK×V×V) z t,xs[j]?=some x->es[j]?=some e->x.key=.str z t->e.1=.inr z) (hh:∀a (j:Nat) (x:DictEntry) (e:TK×V×V),u=.ref a->xs[j]?=some x->es[j]?=some e->x.key=u->e.1=k)
  (q0:(∀(j:Nat) (e:TK×V×V),es[j]?=some e->e.1≠k)->Q none s) (q1:∀(j:Nat) (e:TK×V×V),es[j]?=some e->e.1=k->Q (some j) s) :
  wpAny (model X.prog X.w) A (dictFind d u (k.hash X.w)) Q E s:=by
 have walk:=UH D g1 g2 q0 q1;have stored:∀v∈(om xs (k.hash X.w)).filterMap (λi=>xs[i]?.map (·.key)),∀(R:Bool->aE->Prop),R true s->wpAny (model X.prog X.w) A (eqIsQuiet 8 v) R E s:=by
  intro v hv R hR;obtain⟨i,_,hi⟩:=wQ.mp hv;cases hx:xs[i]? with
  |none=>rw[hx] at hi;cases hi
  |some x=>
   rw[hx] at hi;obtain rfl:x.key=v:=by simpa using hi
   obtain⟨e,_,_,_,h⟩:=D.ent i x hx;exact h R hR
 have tell:∀(R:Bool->aE->Prop),R false s->wpAny (model X.prog X.w) A (tableMayTell u ((om xs (k.hash X.w)).filterMap λi=>xs[i]?.map (·.key))) R E s:=by
  intro R hR;unfold tableMayTell;split
  .exact bW hR
  .refine aU (hq _ ?_);simp only[jR,tK,cB];refine aU (wpAny_forIn_list _ (λrest r s'=>s'=s/\r=(none,())/\∀v∈rest,∀(R:Bool->aE->Prop),R true s->wpAny (model X.prog X.w) A (eqIsQuiet 8 v) R E s) _ ?_ ?_ _ _ ⟨rfl,rfl,stored⟩)
   .rintro x rest r s' ⟨rfl,rfl,hr⟩;refine aU (hr x (by simp) _ ?_)
    simp only[jR,tK,cB];exact bW ⟨rfl,rfl,λv hv=>hr v (by simp[hv])⟩
   .rintro r s' ⟨rfl,rfl,_⟩;exact bW hR
 have tell2:∀(R:Bool->aE->Prop),R false s->wpAny (model X.prog X.w) A (if((om xs (k.hash X.w)).filterMap (λi=>xs[i]?.map (·.key)) == [u])=true then pure false else tableMayTell u ((om xs (k.hash X.w)).filterMap λi=>xs[i]?.map (·.key))) R E s:=by
  intro R hR;split
  .exact bW hR
  .exact tell R hR
 have fin:∀(i:Nat) (x:DictEntry) (e:TK×V×V),xs[i]?=some x->es[i]?=some e->ku X.w e x->(x.hash == k.hash X.w)=false->e.1≠k:=λi x e _ _ he hf ek=>by
  rw[he.1,ek] at hf;simp at hf
 unfold dictFind
 (try with_reducible refine pM ?_);refine aU (wpAny_dictEntries g1 g2 ?_)
 dsimp only;by_cases r9:((u::(om xs (k.hash X.w)).filterMap λi=>xs[i]?.map (·.key)).all carriedByValue)=true
 .rw[aY r9];split;next z t=>
   split;next Lh=>
    unfold foundByValue;cases hf:xs.findIdx? (λe=>e.key.isStr z) with
    |none=>
     refine bW (q0 λj e he ek=>?_)
     obtain⟨x,x1,x2⟩:=D.ents j e he;have n1:=Array.findIdx?_eq_none_iff.mp hf x (Array.mem_of_getElem? x1);have e2:=x2.2.1;have n2:isExactStrKey x.key=true:=by
      have h:=Array.all_eq_true.mp Lh j (G9.mp x1).1;rw[(G9.mp x1).2] at h;exact h
     cases hk:x.key with
     |str z2 t2=>
      have e3:=ra j x e z2 t2 x1 he hk;rw[ek,hs z t rfl] at e3;cases e3;rw[hk] at n1;simp[Value.isStr] at n1
     |_=>rw[hk] at n2;cases n2
    |some i=>
     obtain⟨g_,hi,_⟩:=Array.findIdx?_eq_some_iff_getElem.mp hf;obtain⟨e,e1,e2,eq,_⟩:=D.ent i xs[i] (um g_);have ek:e.1=k:=by
      cases hk:xs[i].key with
      |str z2 t2=>
       rw[hk] at hi;have:z2=z:=by simpa[Value.isStr] using hi
       subst this;rw[ra i _ e z2 t2 (um g_) e1 hk,hs z2 t rfl]
      |_=>rw[hk] at hi;simp[Value.isStr] at hi
     simp only[um g_];refine aU (wpAny_dictEpoch g1 g2 (aU (eq _ (aU (wpAny_dictEpoch g1 g2 ?_)))));rw[bb (by simp),ig ek]
     exact aU (wpAny_rule (bW (q1 i e e1 ek)))
   next=>exact walk
  next=>exact walk
 .rw[bb r9];have CI:∀z t,u=.str z t->¬(xs.all λe=>isExactStrKey e.key)=true:=by
   intro z t hu hx;refine r9 (nr.mpr λv hv=>?_)
   rcases eX.mp hv with rfl|hv
   .rw[hu];rfl
   .obtain⟨i,_,hi⟩:=wQ.mp hv;cases ue:xs[i]? with
    |none=>rw[ue] at hi;cases hi
    |some x=>
     rw[ue] at hi;obtain rfl:x.key=v:=by simpa using hi
     have h:=Array.all_eq_true.mp hx i (G9.mp ue).1;rw[(G9.mp ue).2] at h;cases hk:x.key with
     |str _ _=>rfl
     |_=>rw[hk] at h;cases h
  have wB:∀a,u=.ref a->¬(xs.any λe=>e.key == u&&e.hash != k.hash X.w)=true:=by
   intro a hu hx;rw[Array.any_eq_true] at hx;obtain⟨i,hi,hc⟩:=hx;rw[lQ,beq_iff_eq,bne_iff_ne] at hc;obtain⟨e,e1,e2,_⟩:=D.ent i xs[i] (um hi);have:=hh a i _ e hu (um hi) e1 hc.1;exact hc.2 (by rw[e2.1,this])
  have K4:u=idv u:=rfl;refine(λ(key:?P)=>?main) ?k
  case main=>
   rw(occs:=.pos [1]) [K4];split
   .rename_i z t hz
    rw[bb (CI z t hz)];rw(occs:=.pos [1]) [K4];split
    .rename_i a ha
     rw[bb (wB a ha)];exact key
    .exact key
   .rw(occs:=.pos [1]) [K4];split
    .rename_i a ha
     rw[bb (wB a ha)];exact key
    .exact key
  refine(λ(Cu:?P2)=>?Cz) ?k2
  case Cz=>
   refine UE ?_ ?_
   .refine aU (bW ?_);exact Cu
   .refine aU (tell _ ?_);exact Cu
  all_goals (
   show wpAny _ _ (if(false&&_)=true then _ else _) _ _ _
   rw[bb (by rw[Dt];exact oT)]
   refine aU (wpAny_forIn_list _ (λrest b s'=>s'=s/\∃hit done,b=(none,hit)/\om xs (k.hash X.w)=done++rest/\((hit=none/\∀(j:Nat) (e:TK×V×V),j∈done->es[j]?=some e->e.1≠k)\/∃(j:Nat) (e:TK×V×V),hit=some j/\j∈done/\es[j]?=some e/\e.1=k)) _ ?_ ?_ _ _
    ⟨rfl,none,[],rfl,rfl,.inl ⟨rfl,λ_ _ m=>by cases m⟩⟩)
   .rintro i rest b s' ⟨rfl,hit,done,rfl,hd,hH⟩;obtain⟨x,x1,x2⟩:=mN.mp (show i∈om xs (k.hash X.w) by rw[hd];simp)
    obtain⟨e,e1,e2,eq,_⟩:=D.ent i x x1;have hni:i∉done:=λm=>by
     have:=UG (xs:=xs) (h:=k.hash X.w);rw[hd] at this;exact(lh.mp this).2.2 i m i (by simp) rfl
    simp only[x1];rw[aY (by rw[x2];simp)]
    refine aU (wpAny_dictEpoch g1 g2 (aU (eq _ (aU (wpAny_dictEpoch g1 g2 ?_)))));rw[bb (by simp)]
    by_cases ek:e.1=k
    .rw[ig ek];rcases hH with⟨rfl,ud⟩|⟨j,f,rfl,jd,jf,fk⟩
     .first|rw[aY rfl]|skip
      simp only[MB,tK,cB];first|refine aU (bW ?_)|skip
      refine aU (wpAny_rule ?_);split
      .exact bW (bW (q1 i e e1 ek))
      .exact bW ⟨rfl,some i,done++[i],rfl,by simp[hd],.inr ⟨i,e,rfl,by simp,e1,ek⟩⟩
     .exact cu (D.uniq i j e f e1 jf ek fk) λz=>hni (by rw[z];exact jd)
    .rw[ij ek];have nx:(hit=none/\∀(j:Nat) (e:TK×V×V),j∈done++[i]->es[j]?=some e->e.1≠k)\/∃(j:Nat) (e:TK×V×V),hit=some j/\j∈done++[i]/\es[j]?=some e/\e.1=k:=by
      rcases hH with⟨h0,ud⟩|⟨j,f,h0,jd,jf,fk⟩
      .refine .inl ⟨h0,λj f m hf=>?_⟩
       rcases eT.mp m with m|m
       .exact ud j f m hf
       .simp at m;subst m;rw[e1] at hf;cases hf;exact ek
      .exact .inr ⟨j,f,h0,by simp[jd],jf,fk⟩
     simp only[tK,cB];refine aU (wpAny_rule ?_);first|rw[bb (by simp)]|skip
     first
      |exact bW ⟨rfl,hit,done++[i],rfl,by simp[hd],nx⟩
      |exact aU (bW (bW ⟨rfl,hit,done++[i],rfl,by simp[hd],nx⟩))
   .rintro b s' ⟨rfl,hit,done,rfl,hd,hH⟩;rcases hH with⟨rfl,ud⟩|⟨j,f,rfl,jd,jf,fk⟩
    .refine bW (q0 λj e he ek=>ud j e ?_ he ek)
     have:=D.om he ek;rw[hd] at this;simpa using this
    .exact bW (q1 j f jf fk))
end
end
def jF(es:List (TK×V×V))(k:TK):ak V:=(es.find? λe=>decide (e.1=k)).map (·.2.2)
noncomputable def hG:List (TK×V×V)->TK->V->V->List (TK×V×V)
 |[],k,y,v=>[(k,y,v)]
 |e::es,k,y,v=>if e.1=k then(e.1,e.2.1,v)::es else e::hG es k y v
def s9(es:List (TK×V×V))(k:TK)(ep:Nat):Nat:=if(es.any λe=>decide (e.1=k))=true then ep else ep+1
def ju(K:FG)(H:Hp)(a:ao)(y:V)(r:ak V):Prop:=∃es ep k,H a=some (.dG es ep)/\ax K H (es.map (·.2.1)) (es.map (·.1.d))/\ax K H [y] [k.d]/\k.ok 8=true/\r=jF es k
def ux(K:FG)(H:Hp)(a:ao)(y v:V)(H':Hp):Prop:=∃es ep k,H a=some (.dG es ep)/\ax K H (es.map (·.2.1)) (es.map (·.1.d))/\ax K H [y] [k.d]/\k.ok 8=true/\es.length<sizeLine/\H'=upd H a (.dG (hG es k y v) (s9 es k ep))
def Xq{k j:TK}(e:k.d=j.d)(h:k.ok 8=true):k=j:=by
 have h1:=IQ k j;rw[<-e,Ik 8 (y_ 8 h)] at h1;exact yK h1.symm
section
variable{X:Cx}{af:List (ao×Obj)}{Z:St}{H:Hp}
def Pr{y:V}{z:Str}{t:Tok}{k:TK}(r:ax X.K H [y] [k.d])(ru:RelV y (.str z t)):k=.inr z:=by
 cases k with
 |inl i=>simp only[TK.d] at r;cases r with|flat q _=>cases q;obtain⟨t,e⟩:=ru;cases e
 |inr i=>simp only[TK.d] at r;cases r with|flat q _=>cases q;obtain⟨t,e⟩:=ru;cases e;rfl
 |tp l=>simp only[TK.d] at r;cases r with|flat q _=>cases q|tup q _ _=>cases ru
def Pu{y:V}{a:ao}(ru:RelV y (.ref a)):y=.ref a:=by
 cases y with
 |ref b=>cases ru;rfl
 |bF=>cases ru
 |bl _=>cases ru
 |ty _=>cases ru
 |_=>obtain⟨t,e⟩:=ru;cases e
section
variable{A:eY}{E:au->aE->Prop}{s:aE}{d:ao}{es:List (TK×V×V)}{k:TK}{y v:V}{u r:au}
def QN{o:Obj}{xs:Array DictEntry}{ep:Nat}{Q:ak Nat->aE->Prop}(I:Inv X af Z H s)(g1:s.heap.get? d=some o)(g2:o.data=.dict xs ep)(g3:Paired (ku X.w) es xs.toList)(g4:(es.map (·.1)).Nodup)
  (rk:ax X.K H (es.map (·.2.1)) (es.map (·.1.d))) (ry:ax X.K H [y] [k.d]) (ok:k.ok 8=true) (ru:RelV y u) (hu:A.units+8<cLine)
  (q0:(∀(j:Nat) (e:TK×V×V),es[j]?=some e->e.1≠k)->Q none s) (q1:∀(j:Nat) (e:TK×V×V),es[j]?=some e->e.1=k->Q (some j) s):wpAny (model X.prog X.w) A (dictFind d u (k.hash X.w)) Q E s:=by
 have at':∀(j:Nat) (x:DictEntry) (e:TK×V×V),xs[j]?=some x->es[j]?=some e->ku X.w e x/\ax X.K H [e.2.1] [e.1.d]:=by
  intro j x e hx he;obtain⟨e',e1,e2⟩:=HH j g3 (by rw[yI];exact hx)
  rw[he] at e1;cases e1;obtain⟨v,v1,v2⟩:=rk.get (i:=j) (d:=e.1.d) (by rw[kc,he];rfl)
  rw[kc,he] at v1;cases v1;exact⟨e2,v2⟩
 refine VH (Zb I g3 g4 rk ry ok ru hu) g1 g2 (λR hR=>NN 8 I ry ok ru hR) (λz t e=>Pr ry (by rw[<-e];exact ru)) (λj x e z t hx he hk=>?_) (λa j x e sk hx he hk=>?_) q0 q1
 .obtain⟨g,r'⟩:=at' j x e hx he;exact Pr r' (by rw[<-hk];exact g.2.1)
 .obtain⟨g,r'⟩:=at' j x e hx he;have h1:=g.2.1;rw[hk,sk] at h1;rw[sk] at ru;rw[Pu h1] at r';rw[Pu ru] at ry;exact Xq (Et I 8 8 r' ry (y_ 8 g.2.2.2) (y_ 8 ok)) g.2.2.2
def UI(h:∀(j:Nat) (e:TK×V×V),es[j]?=some e->e.1≠k):jF es k=none:=by
 unfold jF;rw[List.find?_eq_none.mpr λe m z=>?_,Option.map_none]
 obtain⟨j,hj⟩:=List.mem_iff_getElem?.mp m;exact h j e hj (yK z)
def UJ(hn:(es.map (·.1)).Nodup){j:Nat}{e:TK×V×V}(he:es[j]?=some e)(ek:e.1=k):jF es k=some e.2.2:=by
 induction es generalizing j with
 |nil=>simp at he
 |cons x es ih=>
  rw[cY,i7] at hn;unfold jF;rw[qi];cases j with
  |zero=>
   simp only[List.getElem?_cons_zero,Option.some.injEq] at he;subst he;rw[ig ek];rfl
  |succ j=>
   simp only[MC] at he;have ne:¬x.1=k:=λz=>hn.1 (by rw[z,<-ek];exact gz.mpr ⟨e,qM he,rfl⟩)
   rw[ij ne];exact ih hn.2 he
def NO{o:ak V}{Q:ak au->aE->Prop}(hu:A.units+8<cLine)(I:Inv X af Z H s)(g:ju X.K H d y o)(ru:RelV y u)(h:∀w t,nD o w->Q w { s with toks:=t}):
  wpAny (model X.prog X.w) A (dictGet d u) Q E s:=by
 obtain⟨es,ep,k,hd,rk,ry,ok,rfl⟩:=g;obtain⟨_,_,ob,xs,g1,_,g2,g3,g4⟩:=(show cC X.prog X.w H s.heap d (.dG es ep) from I.cV d _ hd);unfold dictGet
 (try with_reducible refine pM ?_);refine aU (Oz 8 I ry ok ru hu λt=>aU (QN (I.tok t) g1 g2 g3 g4 rk ry ok ru hu (λq0=>?_) (λj e he ek=>?_)))
 .exact bW (h none t (by rw[UI q0];exact jn))
 .obtain⟨x,x1,x2⟩:=AM j g3 he;refine aU (wpAny_dictEntries (s:={ s with toks:=t}) g1 g2 (bW ?_));rw[<-yI,x1];exact h (some x.val) t (by rw[UJ g4 he ek];exact x2.2.2.1)
def ju.ty{o:ak V}(I:Inv X af Z H s)(g:ju X.K H d y o):s.TypeIs (.ref d) "dict"/\(d == sysModules)=false:=by
 obtain⟨es,ep,k,hd,_⟩:=g;obtain⟨_,z,ob,xs,g1,g5,_⟩:=(show cC X.prog X.w H s.heap d (.dG es ep) from I.cV d _ hd);exact⟨⟨ob,g1,g5.1⟩,z⟩
def NP{Q:au->aE->Prop}(hu:A.units+9<cLine)(I:Inv X af Z H s)(g:ju X.K H d y (some v))(ru:RelV y u)(h:∀w' s',Inv X af Z H s'->RelV v w'->Q w' s'):wpAny (model X.prog X.w) A (getItem (.ref d) u) Q E s:=by
 have hT:=(g.ty I).1;unfold getItem
 (try with_reducible refine pM ?_);refine aU (wpAny_sequenceKey hT (by decide) (aU (wpAny_callSpecial?_slot (name:=Str.ofString "__getitem__") hT slot_dict_getitem (wpAny_call_entry slot_dict_getitem hT entry_dict_getitem ?_ (args_dict_getitem _ _)))))
 show wpAny _ _ (dictGet d u >>= _) _ _ s;refine aU (NO (by show A.units+1+8<cLine;lia) I g ru λw t rg=>?_)
 obtain⟨w',rfl,r'⟩:=nD.some_of rg;exact bW ⟨w',rfl,bW (h w' _ (I.tok t) r')⟩
def M_{o:ak V}{Q:Bool->aE->Prop}(hu:A.units+9<cLine)(I:Inv X af Z H s)(g:ju X.K H d y o)(ru:RelV y u)(h:∀s',Inv X af Z H s'->Q o.isSome s'):wpAny (model X.prog X.w) A (contains (.ref d) u) Q E s:=by
 obtain⟨hT,hd⟩:=g.ty I;unfold contains
 (try with_reducible refine pM ?_);refine aU (wpAny_specialOf hT slot_dict_contains.lookup ?_)
 dsimp only;rw[bb (by rw[beq_builtin_none];exact oT)]
 refine aU (wpAny_callSpecialUnlessNone?_slot (name:=Str.ofString "__contains__") hT slot_dict_contains (wpAny_call_entry slot_dict_contains hT entry_dict_contains ?_ (args_dict_contains _ _)));show wpAny _ _ (dictGet d u >>= _) _ _ s;refine aU (NO (by show A.units+1+8<cLine;lia) I g ru λw t rg=>?_)
 have e:=rg.qB;cases w with
 |some w=>
  show wpAny _ _ (ret (.bool true)) _ _ _;refine bW ⟨_,rfl,wpAny_truthy_bool ?_⟩;have:=h _ (I.tok t);rw[e] at this;exact this
 |none=>
  show wpAny _ _ (Builtin.Dict.pendingKey? d u >>= _) _ _ _;refine aU (wpAny_pendingKey_other hd (bW ⟨_,rfl,wpAny_truthy_bool ?_⟩));have:=h _ (I.tok t);rw[e] at this;exact this
def Mn{o:ak V}{Q:au->aE->Prop}(hu:A.units+9<cLine)(I:Inv X af Z H s)(g:ju X.K H d y o)(ru:RelV y u)(h:∀s',Inv X af Z H s'->Q (.bool o.isSome) s'):wpAny (model X.prog X.w) A (compareOp .In u (.ref d)) Q E s:=
 aU (M_ hu I g ru λs' I'=>bW (h s' I'))
def Xr{o:ak V}{Q:au->aE->Prop}(hu:A.units+9<cLine)(I:Inv X af Z H s)(g:ju X.K H d y o)(ru:RelV y u)(h:∀s',Inv X af Z H s'->Q (.bool (!o.isSome)) s'):wpAny (model X.prog X.w) A (compareOp .NotIn u (.ref d)) Q E s:=
 aU (M_ hu I g ru λs' I'=>bW (h s' I'))
theorem MZ(k:TK)(y v:V):∀es:List (TK×V×V),(hG es k y v).length<=es.length+1
 |[]=>by simp[hG]
 |e::es=>by
  unfold hG;have:=MZ k y v es;split <;> simp <;> lia
theorem OA:∀{es:List (TK×V×V)},(∀(j:Nat) (e:TK×V×V),es[j]?=some e->e.1≠k)->hG es k y v=es++[(k,y,v)]
 |[],_=>rfl
 |e::es,h=>by
  unfold hG;rw[bb (h 0 e rfl),OA λj x hx=>h (j+1) x (by simpa using hx)]
  rfl
def Xs{w:eZ}{xs:List DictEntry}(g3:Paired (ku w) es xs)(ry:RelV y u)(rv:RelV v r)(ok:k.ok 8=true):Paired (ku w) (es++[(k,y,v)]) (xs++[⟨k.hash w,u,r⟩]):=by
 induction g3 with
 |nil=>exact .cons ⟨rfl,ry,rv,ok⟩ .nil
 |cons a _ ih=>exact .cons a ih
theorem Pw{w:eZ}:∀{es:List (TK×V×V)} {xs:List DictEntry} {j:Nat} {e:TK×V×V},Paired (ku w) es xs->(es.map (·.1)).Nodup->es[j]?=some e->e.1=k->RelV v r->
  Paired (ku w) (hG es k y v) (xs.modify j λx=>{ x with val:=r})/\(hG es k y v).map (·.1)=es.map (·.1)
 |_,_,_,_,.nil,_,he,_,_=>by simp at he
 |_::es,_::xs,0,e,.cons a t,hn,he,ek,rv=>by
  simp only[List.getElem?_cons_zero,Option.some.injEq] at he;subst he;unfold hG;rw[aY ek];exact⟨.cons ⟨a.1,a.2.1,rv,a.2.2.2⟩ t,rfl⟩
 |x::es,_::xs,j+1,e,.cons a t,hn,he,ek,rv=>by
  simp only[MC] at he;rw[cY,i7] at hn;have ne:¬x.1=k:=λz=>hn.1 (by rw[z,<-ek];exact gz.mpr ⟨e,qM he,rfl⟩)
  unfold hG;rw[bb ne];have ih:=Pw t hn.2 he ek rv;exact⟨.cons a ih.1,by rw[cY,cY,ih.2]⟩
def NQ{H':Hp}{Q:Unit->aE->Prop}(hu:A.units+8<cLine)(I:Inv X af Z H s)(g:ux X.K H d y v H')(ru:RelV y u)(rv:RelV v r)(h:∀s',Inv X af Z H' s'->Q () s'):
  wpAny (model X.prog X.w) A (dictSet d u r) Q E s:=by
 obtain⟨es,ep,k,hd,rk,ry,ok,hl,rfl⟩:=g;obtain⟨_,z,ob,xs,g1,g5,g2,g3,g4⟩:=(show cC X.prog X.w H s.heap d (.dG es ep) from I.cV d _ hd);have hz:xs.size<=sizeLine:=by have:=Paired.length g3;simp at this;lia
 have K7:(hG es k y v).length<=sizeLine:=by have:=MZ k y v es;lia
 unfold dictSet
 (try with_reducible refine pM ?_);refine aU (Oz 8 I ry ok ru hu λt=>?_)
 unfold dictSetHashed
 (try with_reducible refine pM ?_);refine aU (QN (I.tok t) g1 g2 g3 g4 rk ry ok ru hu (λq0=>?_) (λj e he ek=>?_))
 .have RY:hG es k y v=es++[(k,y,v)]:=OA q0;have Kq:s9 es k ep=ep+1:=bb (by
   rw[zV];rintro⟨e,m,q⟩;obtain⟨j,hj⟩:=List.mem_iff_getElem?.mp m;exact q0 j e hj (yK q))
  rw[Kq] at h;refine aU (wpAny_rule (wpAny_updateDictKeys (hz:=hz) (s:={ s with toks:=t}) g1 g2 (h _ ?_)));refine Ph (I.tok t) (by rw[hd];exact jn) (Heap.SameBut.update ..) ⟨_,vt _ g1 (Obj.isFreed_of_dict (Obj.data_mapDictKeys g2 _))⟩ ⟨K7,z,_,_,vt _ g1 (Obj.isFreed_of_dict (Obj.data_mapDictKeys g2 _)),g5.mapDictKeys _,Obj.data_mapDictKeys g2 _,?_,?_⟩
  .rw[RY,Array.toList_push];exact Xs g3 ru rv ok
  .rw[RY,jm,lh];refine⟨g4,by simp,λa m b m' e=>?_⟩
   simp at m';subst m';obtain⟨x,mx,rfl⟩:=gz.mp m;obtain⟨j,hj⟩:=List.mem_iff_getElem?.mp mx;exact q0 j x hj e
 .have em:=Pw (y:=y) g3 g4 he ek rv;have Kq:s9 es k ep=ep:=aY (zV.mpr ⟨e,qM he,ig ek⟩);rw[Kq] at h;refine aU (wpAny_rule (aU (wpAny_updateDict (s:={ s with toks:=t}) g1 g2 (wpAny_point (h _ ?_)))));refine Ph (I.tok t) (by rw[hd];exact jn) (Heap.SameBut.update ..) ⟨_,vt _ g1 (Obj.isFreed_of_dict (Obj.data_mapDict g2 _))⟩ ⟨K7,z,_,_,vt _ g1 (Obj.isFreed_of_dict (Obj.data_mapDict g2 _)),g5.mapDict _,Obj.data_mapDict g2 _,?_,?_⟩
  .obtain⟨l⟩:=xs;simpa using em.1
  .rw[em.2];exact g4
def UK{H':Hp}{Q:Unit->aE->Prop}(hu:A.units+9<cLine)(I:Inv X af Z H s)(g:ux X.K H d y v H')(ru:RelV y u)(rv:RelV v r)(h:∀s',Inv X af Z H' s'->Q () s'):
  wpAny (model X.prog X.w) A (setItem (.ref d) u r) Q E s:=by
 have hT:s.TypeIs (.ref d) "dict":=by
  obtain⟨es,ep,k,hd,rk,ry,ok,_⟩:=g;exact(ju.ty I ⟨es,ep,k,hd,rk,ry,ok,rfl⟩).1
 unfold setItem
 (try with_reducible refine pM ?_);refine aU (wpAny_sequenceKey hT (by decide) (aU (wpAny_callSpecial?_slot (name:=Str.ofString "__setitem__") hT slot_dict_setitem (wpAny_call_entry slot_dict_setitem hT entry_dict_setitem ?_ (args_dict_setitem _ _ _)))))
 show wpAny _ _ (Builtin.Dict.notOrdered "__setitem__" ⟨[.ref d,u,r],[]⟩ >>= _) _ _ s;refine aU (wpAny_notOrdered_dict hT ?_);show wpAny _ _ (dictSet d u r >>= λz=>_) _ _ s
 exact aU (NQ (by show A.units+1+8<cLine;lia) I g ru rv λs' I'=>bW ⟨.none,rfl,bW (h s' I')⟩)
end
end
section
variable{X:Cx}{K:FG}
def CQ(K:FG):R2:=λx y H Q=>∃d e,ax K H [x] [d]/\ax K H [y] [e]/\cS 40 d=true/\cS 40 e=true/\Q (.bl (bj d e)) H
def pT(K:FG)(hu:X.A.units+40<cLine)(hK:X.K=K:=by rfl):hX X (compareOp .Eq) (CQ K):=by
 subst hK;intro af s Z H x y v u Q I rx ry h;obtain⟨d,e,r1,r2,o1,o2,q⟩:=h;exact(Bo I 40 40 r1 r2 o1 o2 rx ry hu).2 X.prog X.w _ _ ⟨.bl _,H,I,rfl,q⟩
open Classical in
noncomputable def ng (K:FG) (H:Hp) (dx:D) (u:au):Bool:=decide (∃x d,RelV x u/\ax K H [x] [d]/\cS 40 d=true/\bj d dx=true)
open Classical in
def Jq{af:List (ao×Obj)}{s:aE}{Z:St}{H:Hp}(I:Inv X af Z H s){dx d:D}{x:V}{u:au}(rx:RelV x u)(r:ax X.K H [x] [d])(ok:cS 40 d=true):ng X.K H dx u=bj d dx:=by
 unfold ng;rw[uj,DE];constructor
 .rintro⟨x',d',rx',r',ok',e⟩;have:=RelV.inj rx rx';subst this;rw[Et I 40 40 r r' ok ok'];exact e
 .exact λe=>⟨x,d,rx,r,ok,e⟩
def EW{af:List (ao×Obj)}{s:aE}{Z:St}{H:Hp}(I:Inv X af Z H s){dx:D}{ws:List V}{aA:List au}{ds:List D}(t:Vals ws aA)(rp:ax X.K H ws ds)(ok:ds.all (cS 40)=true):aA.any (ng X.K H dx)=ds.any λd=>bj d dx:=by
 induction t generalizing ds with
 |nil=>
  cases ds with
  |nil=>rfl
  |cons _ _=>have:=rp.length;simp at this
 |cons r t ih=>
  cases ds with
  |nil=>have:=rp.length;simp at this
  |cons d ds=>
   rw[vx,lQ] at ok;rw[List.any_cons,List.any_cons,Jq I r rp.inv.1 ok.1,ih rp.inv.2 ok.2]
def Bp{af:List (ao×Obj)}{s:aE}{Z:St}{H:Hp}(I:Inv X af Z H s){dx:D}{y:V}{v:au}{A:eY}(rv:RelV y v)(ry:ax X.K H [y] [dx])(oy:cS 40 dx=true)(hu:A.units+40<cLine):
  ∀{ws:List V} {aA:List au} {ds:List D},Vals ws aA->ax X.K H ws ds->ds.all (cS 40)=true->∀u∈aA,SeqAt.EqAt A s u v (ng X.K H dx u):=by
 intro ws aA ds t
 induction t generalizing ds with
 |nil=>intro _ _ u m;cases m
 |cons r t ih=>
  intro rp ok u' m;cases ds with
  |nil=>have:=rp.length;simp at this
  |cons d ds=>
   rw[vx,lQ] at ok;rcases eX.mp m with rfl|m
   .rw[Jq I r rp.inv.1 ok.1];exact(Bo I 40 40 rp.inv.1 ry ok.1 oy r rv hu).1
   .exact ih rp.inv.2 ok.2 u' m
def ox:D->ak (List D)
 |.lst ds=>some ds
 |.tup ds=>some ds
 |_=>none
def yv(K:FG)(neg:Bool):R2:=λx y H Q=>
 (∃d e ds,ax K H [x] [d]/\ax K H [y] [e]/\ox e=some ds/\cS 40 d=true/\ds.all (cS 40)=true/\Q (.bl (if neg then !ds.any λz=>bj z d else ds.any λz=>bj z d)) H)\/
 (∃i j,x=.str i/\y=.str j/\Q (.bl (if neg then !(!(Builtin.Str.occurrences j i 0 j.length 1).isEmpty) else !(Builtin.Str.occurrences j i 0 j.length 1).isEmpty)) H)\/
 ∃a o,y=.ref a/\ju K H a x o/\Q (.bl (if neg then !o.isSome else o.isSome)) H
def uK(K:FG)(hu:X.A.units+41<cLine)(hK:X.K=K:=by rfl):hX X (compareOp .In) (yv K false):=by
 subst hK;intro af s Z H x y v u Q I rx ry h;rcases h with⟨d,e,ds,r1,r2,es,o1,o2,q⟩|⟨i,j,rfl,rfl,q⟩|⟨a,o,rfl,g,q⟩
 .have sk:X.A.in1.units+40<cLine:=by show X.A.units+1+40<cLine;lia
  cases r2 with
  |flat z _=>cases e <;> first|(cases z;done)|cases es
  |lst sq i _=>
   cases es;cases ry;obtain⟨aA,r,pl,hz⟩:=I.list (.inl sq);refine SeqAt.in_listAt (ng X.K H d) pl.isList (λw hw=>Bp I rx r1 o1 sk r i o2 w (by simpa using hw)) ⟨.bl _,H,I,rfl,?_⟩
   rw[show aA.toArray.any (ng X.K H d)=aA.any (ng X.K H d) by simp,EW I r i o2]
   exact q
  |tup sq i _=>
   cases es;cases ry;obtain⟨aA,r,pl,hz⟩:=I.tuple sq;refine SeqAt.in_tupleAt (ng X.K H d) pl (λw hw=>Bp I rx r1 o1 sk r i o2 w (by simpa using hw)) ⟨.bl _,H,I,rfl,?_⟩
   rw[show aA.toArray.any (ng X.K H d)=aA.any (ng X.K H d) by simp,EW I r i o2]
   exact q
  |aI _ _ _ _ _=>cases es
  |fH _ _=>cases es
  |exc _ _=>cases es
 .exact Ut af s Z H _ _ v u Q I rx ry ⟨i,j,rfl,rfl,q⟩
 .cases ry;exact Mn (by lia) I g rx λs3 I3=>⟨.bl o.isSome,H,I3,rfl,q⟩
def uB(K:FG)(hu:X.A.units+41<cLine)(hK:X.K=K:=by rfl):hX X (compareOp .NotIn) (yv K true):=by
 subst hK;intro af s Z H x y v u Q I rx ry h;rcases h with⟨d,e,ds,r1,r2,es,o1,o2,q⟩|⟨i,j,rfl,rfl,q⟩|⟨a,o,rfl,g,q⟩
 .have sk:X.A.in1.units+40<cLine:=by show X.A.units+1+40<cLine;lia
  cases r2 with
  |flat z _=>cases e <;> first|(cases z;done)|cases es
  |lst sq i _=>
   cases es;cases ry;obtain⟨aA,r,pl,hz⟩:=I.list (.inl sq);refine SeqAt.notIn_listAt (ng X.K H d) pl.isList (λw hw=>Bp I rx r1 o1 sk r i o2 w (by simpa using hw)) ⟨.bl _,H,I,rfl,?_⟩
   rw[show aA.toArray.any (ng X.K H d)=aA.any (ng X.K H d) by simp,EW I r i o2]
   exact q
  |tup sq i _=>
   cases es;cases ry;obtain⟨aA,r,pl,hz⟩:=I.tuple sq;refine SeqAt.notIn_tupleAt (ng X.K H d) pl (λw hw=>Bp I rx r1 o1 sk r i o2 w (by simpa using hw)) ⟨.bl _,H,I,rfl,?_⟩
   rw[show aA.toArray.any (ng X.K H d)=aA.any (ng X.K H d) by simp,EW I r i o2]
   exact q
  |aI _ _ _ _ _=>cases es
  |fH _ _=>cases es
  |exc _ _=>cases es
 .exact Tr af s Z H _ _ v u Q I rx ry ⟨i,j,rfl,rfl,q⟩
 .cases ry;exact Xr (by lia) I g rx λs3 I3=>⟨.bl (!o.isSome),H,I3,rfl,q⟩
def oEq:List O->ak O
 |[a,b]=>if cS 40 a.d=true/\cS 40 b.d=true then some (.Y (.bl (bj a.d b.d))) else none
 |_=>none
def pW:cO K (nk (CQ K)) oEq:=by
 intro F H vs os o Q le eW e res;unfold oEq at e;split at e
 .split at e
  .cases e;obtain⟨x,y,B,C,rfl,h1,h2⟩:=eW.two
   rename_i hh
   exact⟨_,_,rfl,_,_,pS le h1,pS le h2,hh.1,hh.2,res.flat rfl⟩
  .cases e
 .cases e
mutual
noncomputable def pG:D->ak TK
 |.int i=>some (.inl i)
 |.str x=>some (.inr x)
 |.tup l=>(mQ l).map .tp
 |_=>none
noncomputable def mQ:List D->ak (List TK)
 |[]=>some []
 |d::l=>(pG d).bind λk=>(mQ l).map λks=>k::ks
end
def cJ:D->ak TK
 |.int i=>some (.inl i)
 |.str x=>some (.inr x)
 |.tup l=>(mQ l).bind λks=>if TK.ok 8 (.tp ks)=true then some (.tp ks) else none
 |_=>none
mutual
theorem ω:∀{d:D} {k:TK},pG d=some k->k.d=d
 |.int i,k,e=>by simp only[pG] at e;cases e;simp[TK.d]
 |.str i,k,e=>by simp only[pG] at e;cases e;simp[TK.d]
 |.tup l,k,e=>by
  simp only[pG] at e;obtain⟨ks,h1,rfl⟩:=jt.mp e;simp only[TK.d];rw[pH h1]
 |.bF,k,e=>by simp[pG] at e
 |.bl _,k,e=>by simp[pG] at e
 |.ty _,k,e=>by simp[pG] at e
 |.lst _,k,e=>by simp[pG] at e
 |.aI _,k,e=>by simp[pG] at e
 |.fH _,k,e=>by simp[pG] at e
 |.exc _ _,k,e=>by simp[pG] at e
theorem pH:∀{l:List D} {ks:List TK},mQ l=some ks->TK.dl ks=l
 |[],ks,e=>by simp only[mQ] at e;cases e;simp[TK.dl]
 |d::l,ks,e=>by
  simp only[mQ] at e;obtain⟨k,h1,e⟩:=fm.mp e;obtain⟨ks',h2,rfl⟩:=jt.mp e;simp only[TK.dl];rw[ω h1,pH h2]
end
def nI{d:D}{k:TK}(e:cJ d=some k):k.d=d/\k.ok 8=true:=by
 cases d with
 |int i=>cases e;exact⟨by simp[TK.d],rfl⟩
 |str i=>cases e;exact⟨by simp[TK.d],rfl⟩
 |tup l=>
  simp only[cJ] at e;obtain⟨ks,h1,e⟩:=fm.mp e;split at e
  .rename_i h
   cases e;exact⟨by simp only[TK.d];rw[pH h1],h⟩
  .cases e
 |_=>cases e
def iE:O->ak (List (TK×D))
 |.Y (.aI kvs)=>some kvs
 |.aI kvs=>some (O.dk kvs)
 |_=>none
def xv{α β:Type}:∀{ws:List (TK×α)} {kvs:List (TK×β)},ws.map (·.1)=kvs.map (·.1)->ws.map (·.1.d)=kvs.map (·.1.d):=λ{ws kvs} h=>by
 have:=congrArg (List.map TK.d) h;rw[mE,mE] at this;exact this
def VI{F H:Hp}{x:V}{o:O}{B:List ao}{kvs:List (TK×D)}(le:aO F H)(h:ai K F H [some x] [some o] B)(e:iE o=some kvs):∃a ws ep,x=.ref a/\H a=some (.dG ws ep)/\ws.map (·.1)=kvs.map (·.1)/\ax K H (ws.map (·.2.1)) (ws.map (·.1.d))/\ax K H (ws.map (·.2.2)) (kvs.map (·.2)):=by
 have r:=pS le h;have ed:o.d=.aI kvs:=by
  cases o with
  |Y d=>cases d <;> cases e;rfl
  |aI _=>cases e;rfl
  |_=>cases e
 rw[ed] at r;cases r with
 |flat z _=>cases z
 |aI q k r i _=>exact⟨_,_,_,rfl,q,k,by rw[xv k];exact r,i⟩
def iZ(kvs:List (TK×D))(k:TK):ak D:=(kvs.find? λkv=>decide (kv.1=k)).map (·.2)
theorem IS{F:Hp}{k:TK}:∀{ws:List (TK×V×V)} {kvs:List (TK×D)},ws.map (·.1)=kvs.map (·.1)->ax K F (ws.map (·.2.2)) (kvs.map (·.2))->(jF ws k=none/\iZ kvs k=none)\/∃v d,jF ws k=some v/\iZ kvs k=some d/\ax K F [v] [d]
 |[],[],_,_=>.inl ⟨rfl,rfl⟩
 |w::ws,p::kvs,h,r=>by
  rw[cY,cY] at h;injection h with h1 h2;unfold jF iZ;rw[qi,qi,h1];by_cases e:p.1=k
  .rw[ig e];exact .inr ⟨w.2.2,p.2,rfl,rfl,r.inv.1⟩
  .rw[ij e];exact IS h2 r.inv.2
 |[],_::_,h,_=>by simp at h
 |_::_,[],h,_=>by simp at h
def TX{F:Hp}{k:TK}{ws:List (TK×V×V)}{kvs:List (TK×D)}(h:ws.map (·.1)=kvs.map (·.1))(r:ax K F (ws.map (·.2.2)) (kvs.map (·.2))):(jF ws k).isSome=(iZ kvs k).isSome:=by
 rcases IS (k:=k) h r with⟨e1,e2⟩|⟨v,d,e1,e2,_⟩ <;> rw[e1,e2] <;> rfl
def bR(neg:Bool):List O->ak O
 |[a,b]=>match iE b with
  |some kvs=>(match a with
   |.Y d=>(cJ d).bind λk=>some (.Y (.bl (if neg then !(iZ kvs k).isSome else(iZ kvs k).isSome)))
   |_=>none)
  |none=>(match a,b with
   |.Y (.str i),.Y (.str j)=>some (.Y (.bl (if neg then !(!(Builtin.Str.occurrences j i 0 j.length 1).isEmpty) else !(Builtin.Str.occurrences j i 0 j.length 1).isEmpty)))
   |a,b=>(ox b.d).bind λds=>if cS 40 a.d=true/\ds.all (cS 40)=true then some (.Y (.bl (if neg then !ds.any λz=>bj z a.d else ds.any λz=>bj z a.d))) else none)
 |_=>none
def m_(neg:Bool):cO K (nk (yv K neg)) (bR neg):=by
 intro F H vs os o Q le eW e res;unfold bR at e;split at e
 .rename_i a b
  obtain⟨x,y,B,C,rfl,h1,h2⟩:=eW.two;cases q:iE b with
  |some kvs=>
   rw[q] at e;dsimp only at e;cases a with
   |Y d=>
    dsimp only at e;cases q2:cJ d with
    |none=>rw[q2] at e;cases e
    |some k=>
     rw[q2] at e;cases e;obtain⟨p,ws,ep,rfl,hp,hk,rk,hr⟩:=VI le h2 q;refine⟨_,_,rfl,.inr (.inr ⟨p,jF ws k,rfl,⟨ws,ep,k,hp,rk,by rw[(nI q2).1];exact pS le h1,(nI q2).2,rfl⟩,?_⟩)⟩
     rw[TX hk hr];exact res.flat rfl
   |_=>cases e
  |none=>
   rw[q] at e;dsimp only at e;split at e
   .cases e;cases i4 h1 rfl;cases i4 h2 rfl;exact⟨_,_,rfl,.inr (.inl ⟨_,_,rfl,rfl,res.flat rfl⟩)⟩
   .cases q3:ox b.d with
    |none=>rw[q3] at e;cases e
    |some ds=>
     rw[q3] at e;dsimp only[Option.bind] at e;split at e
     .rename_i hh
      cases e;exact⟨_,_,rfl,.inl ⟨_,_,ds,pS le h1,pS le h2,q3,hh.1,hh.2,res.flat rfl⟩⟩
     .cases e
 .cases e
def yw(neg:Bool):R2:=λx y H Q=>(y=.bF/\Q (.bl (if neg then !decide (x=.bF) else decide (x=.bF))) H)\/∃a b,x=.bl a/\y=.bl b/\Q (.bl (if neg then a != b else a == b)) H
def Zc:hX X (compareOp .Is) (yw false):=yo.or Y4
def Xt:hX X (compareOp .IsNot) (yw true):=vb.or Xd
def sN:O->Bool
 |.Y .bF=>true
 |_=>false
noncomputable def Ss(neg b:Bool):O->ak O
 |.Y (.bl a)=>some (.Y (.bl (if neg then a != b else a == b)))
 |_=>none
def Su(neg:Bool)(a:O):O->ak O
 |.Y .bF=>some (.Y (.bl (if neg then !sN a else sN a)))
 |.Y (.bl b)=>Ss neg b a
 |_=>none
def oh(neg:Bool):List O->ak O
 |[a,b]=>Su neg a b
 |_=>none
def VJ{F H:Hp}{x:V}{o:O}{B:List ao}(h:ai K F H [some x] [some o] B):decide (x=.bF)=sN o:=by
 cases h with
 |@Y _ d _ _ _ r _=>
  cases r with
  |flat q _=>cases d <;> cases q <;> rfl
  |lst _ _ _=>rfl
  |tup _ _ _=>rfl
  |aI _ _ _ _ _=>rfl
  |fH _ _=>rfl
  |exc _ _=>rfl
 |lst _ _ _=>rfl
 |tup _ _ _=>rfl
 |aI _ _ _ _ _=>rfl
def RB(neg:Bool):cO K (nk (yw neg)) (oh neg):=by
 intro F H vs os o Q le eW e res;unfold oh at e;split at e
 .obtain⟨x,y,B,C,rfl,h1,h2⟩:=eW.two;unfold Su at e;split at e
  .cases e;cases i4 h2 rfl;refine⟨_,_,rfl,.inl ⟨rfl,?_⟩⟩;rw[VJ h1];exact res.flat rfl
  .unfold Ss at e;split at e
   .cases e;cases i4 h1 rfl;cases i4 h2 rfl;exact⟨_,_,rfl,.inr ⟨_,_,rfl,rfl,res.flat rfl⟩⟩
   .cases e
  .cases e
 .cases e
def CT(K:FG):R2:=λx y H Q=>yx K x y H Q\/yy K x y H Q\/CU x y H Q\/∃a v,x=.ref a/\ju K H a y (some v)/\Q v H
def Xu(hu:X.A.units+9<cLine):qm X (λx y H Q=>∃a v,x=.ref a/\ju X.K H a y (some v)/\Q v H):=by
 intro value slice af s Z H x y v u Q I rx ry h hs;obtain⟨a,w,rfl,g,q⟩:=h;cases rx;exact tail_any (g.ty I).1 PySem.F.slot_dict_getitem.lookup (NP hu I g ry λw' s3 I3 rg=>⟨w,H,I3,rg,q⟩) hs
def Km(K:FG)(hu:X.A.units+41<cLine)(hK:X.K=K:=by rfl):qm X (CT K):=by
 subst hK;exact(Vx X.K rfl).or ((Xg X.K rfl).or (yb.or (Xu (by lia))))
def iJ:O->ak O
 |.Y d=>some (.Y d)
 |_=>none
def iM(kvs:List (TK×O))(k:TK):ak O:=(kvs.find? λkv=>decide (kv.1=k)).map (·.2)
def intD:D->ak Int
 |.int k=>some k
 |_=>none
def xj{i:D}{k:Int}(h:intD i=some k):i=.int k:=by
 cases i with
 |int _=>cases h;rfl
 |_=>cases h
def ixD(d i:D):ak O:=match d with
 |.lst ds=>(intD i).bind λk=>(dO ds k).map .Y
 |.tup ds=>(intD i).bind λk=>(dO ds k).map .Y
 |.fH ns=>(intD i).bind λk=>(dO (ns.map D.int) k).map .Y
 |.str z=>(intD i).bind λk=>if z.length<=1000000 then(dO z.cps.toList k).map λc=>.Y (.str ⟨#[c]⟩) else none
 |.aI kvs=>(cJ i).bind λk=>(iZ kvs k).map .Y
 |_=>none
def dU(a:O)(i:D):ak O:=match a with
 |.Y d=>ixD d i
 |.lst os=>(intD i).bind λk=>(dO os k).bind iJ
 |.tup os=>(intD i).bind λk=>(dO os k).bind iJ
 |.aI kvs=>(cJ i).bind λk=>(iM kvs k).bind iJ
def bJ:List O->ak O
 |[a,.Y i]=>dU a i
 |_=>none
def IT{F:Hp}{ws:List V}{ds:List D}{i:Int}{d:D}(r:ax K F ws ds)(e:dO ds i=some d):∃v,dO ws i=some v/\ax K F [v] [d]:=by
 unfold dO at e ⊢;rw[r.length];cases q:n_ ds.length i with
 |none=>rw[q] at e;cases e
 |some j=>
  rw[q] at e;exact r.get e
theorem Px{F H:Hp}:∀{ws:List V} {os:List O} {B:List ao} {j:Nat} {d:D},ai K F H (ws.map some) (os.map some) B->os[j]?=some (.Y d)->∃v,ws[j]?=some v/\ax K F [v] [d]
 |w::ws,o::os,B,0,d,h,e=>by
  obtain⟨B1,B2,h1,h2,_⟩:=ai.one h;simp at e;subst e;cases h1 with
  |Y r _=>exact⟨w,rfl,r⟩
 |w::ws,o::os,B,j+1,d,h,e=>by
  obtain⟨B1,B2,h1,h2,_⟩:=ai.one h;obtain⟨v,g1,g2⟩:=Px (j:=j) h2 (by simpa using e)
  exact⟨v,by simpa using g1,g2⟩
 |[],[],_,_,_,_,e=>by simp at e
 |[],_::_,_,_,_,h,_=>by have:=h.length;simp at this
 |_::_,[],_,_,_,h,_=>by have:=h.length;simp at this
def Py{F H:Hp}{ws:List V}{os:List O}{B:List ao}{i:Int}{o:O}(r:ai K F H (ws.map some) (os.map some) B)(e:(dO os i).bind iJ=some o):∃v d,dO ws i=some v/\ax K F [v] [d]/\o=.Y d:=by
 have hl:ws.length=os.length:=by have:=r.length;simpa using this
 unfold dO at e ⊢;rw[hl];cases q:n_ os.length i with
 |none=>rw[q] at e;cases e
 |some j=>
  rw[q] at e;dsimp only[Option.bind] at e;cases q2:os[j]? with
  |none=>rw[q2] at e;cases e
  |some o'=>
   rw[q2] at e;dsimp only at e;cases o' with
   |Y d=>cases e;obtain⟨v,g1,g2⟩:=Px r q2;exact⟨v,d,g1,g2,rfl⟩
   |_=>cases e
def rD{F H:Hp}{v:V}{d:D}{B:List ao}(h:ai K F H [some v] [some (.Y d)] B):ax K F [v] [d]:=by
 cases h with
 |Y r _=>exact r
theorem Pz{F H:Hp}{k:TK}{d:D}:∀{ws:List (TK×V×V)} {kvs:List (TK×O)} {B:List ao},ws.map (·.1)=kvs.map (·.1)->ai K F H (ws.map λp=>some p.2.2) (kvs.map λp=>some p.2) B->iM kvs k=some (.Y d)->∃v,jF ws k=some v/\ax K F [v] [d]
 |[],[],_,_,_,e=>by cases e
 |w::ws,p::kvs,B,h,r,e=>by
  rw[cY,cY] at h;injection h with h1 h2;obtain⟨B1,B2,g1,g2,_⟩:=ai.one r;unfold iM at e;unfold jF;rw[qi] at e ⊢;rw[h1];by_cases q:p.1=k
  .rw[ig q] at e ⊢;have e:some p.2=some (.Y d):=e;injection e with e;have g1:ai K F H [some w.2.2] [some p.2] B1:=g1;rw[e] at g1;exact⟨w.2.2,rfl,rD g1⟩
  .rw[ij q] at e ⊢;exact Pz h2 g2 e
 |[],_::_,_,h,_,_=>by simp at h
 |_::_,[],_,h,_,_=>by simp at h
def e8c:cO K (nk (CT K)) bJ:=by
 intro F H vs os o Q le eW e res;unfold bJ at e;split at e
 .rename_i a i
  obtain⟨x,y,B,C,rfl,h1,h2⟩:=eW.two;refine⟨_,_,rfl,?_⟩;cases h1 with
  |@Y _ da _ _ _ r _=>
   cases r with
   |lst sq ri _=>
    obtain⟨k,hk,ee⟩:=fm.mp (show(intD i).bind (λk=>(dO _ k).map O.Y)=some o from e)
    cases xj hk;cases i4 h2 rfl;obtain⟨d,q1,q2⟩:=jt.mp ee;subst q2;obtain⟨v,g1,g2⟩:=IT ri q1;exact .inl ⟨_,_,_,v,rfl,rfl,.inl (le.rd sq),g1,res.Y g2⟩
   |exc _ _=>cases e
   |@fH _ ns _ _ sq _=>
    obtain⟨k,hk,ee⟩:=fm.mp (show(intD i).bind (λk=>(dO (ns.map D.int) k).map O.Y)=some o from e)
    cases xj hk;cases i4 h2 rfl;obtain⟨d,q1,q2⟩:=jt.mp ee;subst q2;obtain⟨v,g1,g2⟩:=IT (Ij (K:=K) (F:=F) ns) q1;exact .inl ⟨_,_,_,v,rfl,rfl,le.seq sq,g1,res.Y g2⟩
   |tup sq ri _=>
    obtain⟨k,hk,ee⟩:=fm.mp (show(intD i).bind (λk=>(dO _ k).map O.Y)=some o from e)
    cases xj hk;cases i4 h2 rfl;obtain⟨d,q1,q2⟩:=jt.mp ee;subst q2;obtain⟨v,g1,g2⟩:=IT ri q1;exact .inr (.inl ⟨_,_,_,v,rfl,rfl,le.pD sq,g1,res.Y g2⟩)
   |@aI _ ws es ep _ _ hd hk rk ri _=>
    obtain⟨k,q,e⟩:=fm.mp (show(cJ i).bind (λk=>(iZ es k).map O.Y)=some o from e)
    obtain⟨d,q1,q2⟩:=jt.mp e;subst q2;rcases IS (k:=k) hk ri with⟨_,z⟩|⟨v,d',g1,g2,g3⟩
    .rw[q1] at z;cases z
    .rw[q1] at g2;cases g2;exact .inr (.inr (.inr ⟨_,v,rfl,⟨ws,ep,k,le _ _ hd,by rw[xv hk];exact rk.mono le,by rw[(nI q).1];exact pS le h2,(nI q).2,g1.symm⟩,res.Y g3⟩))
   |flat z _=>
    cases da with
    |str zz=>
     obtain⟨k,hk,ee⟩:=fm.mp (show(intD i).bind (λk=>if zz.length<=1000000 then(dO zz.cps.toList k).map λc=>O.Y (.str ⟨#[c]⟩) else none)=some o from e)
     cases xj hk;split at ee
     .obtain⟨c,q1,q2⟩:=jt.mp ee;subst q2;cases z;cases i4 h2 rfl;exact .inr (.inr (.inl ⟨_,_,c,rfl,rfl,ml (by assumption),q1,res.flat rfl⟩))
     .cases ee
    |bF=>cases e
    |bl _=>cases e
    |int _=>cases e
    |ty _=>cases e
    |_=>cases z
  |lst sq ri _=>
   obtain⟨k,hk,ee⟩:=fm.mp (show(intD i).bind (λk=>(dO _ k).bind iJ)=some o from e)
   cases xj hk;cases i4 h2 rfl;obtain⟨v,d,g1,g2,rfl⟩:=Py ri ee;exact .inl ⟨_,_,_,v,rfl,rfl,dH.of sq,g1,res.Y g2⟩
  |tup sq ri _=>
   obtain⟨k,hk,ee⟩:=fm.mp (show(intD i).bind (λk=>(dO _ k).bind iJ)=some o from e)
   cases xj hk;cases i4 h2 rfl;obtain⟨v,d,g1,g2,rfl⟩:=Py ri ee;exact .inr (.inl ⟨_,_,_,v,rfl,rfl,iB.of sq,g1,res.Y g2⟩)
  |@aI _ ws es ep _ _ _ _ hd hk rk ri _=>
   obtain⟨k,q,e⟩:=fm.mp (show(cJ i).bind (λk=>(iM es k).bind iJ)=some o from e)
   obtain⟨o',q2,e⟩:=fm.mp e;cases o' with
   |Y d=>
    cases e;obtain⟨v,g1,g2⟩:=Pz hk ri q2;exact .inr (.inr (.inr ⟨_,v,rfl,⟨ws,ep,k,hd,by rw[xv hk];exact rk.mono le,by rw[(nI q).1];exact pS le h2,(nI q).2,g1.symm⟩,res.Y g2⟩))
   |_=>cases e
 .cases e
def wH(K:FG):List V->Hp->VK->Prop:=λxs H Q=>(∃p ys,xs=[.ref p]/\(dH K H p ys\/iB K H p ys)/\Q (.int ys.length) H)\/(∃z,xs=[.str z]/\z.length<=sizeLine/\Q (.int z.length) H)
def jU(K:FG)(hK:X.K=K:=by rfl):c7 X (.builtin "len") (wH K):=(To K hK).or Tu
noncomputable def u9:D->ak Int
 |.lst ds=>some ds.length
 |.tup ds=>some ds.length
 |.str z=>if z.length<=1000000 then some z.length else none
 |.fH ns=>some ns.length
 |_=>none
def cK:List O->ak O
 |[a]=>(u9 a.d).map λn=>.Y (.int n)
 |_=>none
def jX:cO K (wH K) cK:=by
 intro F H vs os o Q le eW e res;unfold cK at e;split at e
 .rename_i a
  obtain⟨x,B,rfl,h1⟩:=eW.one;obtain⟨n,q1,q2⟩:=jt.mp e;subst q2;have r:=pS le h1;cases hd:a.d with
  |lst ds=>
   rw[hd] at q1 r;cases q1;cases r with
   |flat z _=>cases z
   |lst sq ri _=>exact .inl ⟨_,_,rfl,.inl (.inl sq),by rw[ri.length];exact res.flat rfl⟩
  |tup ds=>
   rw[hd] at q1 r;cases q1;cases r with
   |flat z _=>cases z
   |tup sq ri _=>exact .inl ⟨_,_,rfl,.inr sq,by rw[ri.length];exact res.flat rfl⟩
  |str z=>
   rw[hd] at q1 r;unfold u9 at q1;dsimp only at q1;split at q1
   .cases q1;cases r with
    |flat z _=>cases z;exact .inr ⟨_,rfl,ml (by assumption),res.flat rfl⟩
   .cases q1
  |fH ns=>
   rw[hd] at q1 r;cases q1;cases r with
   |flat z _=>cases z
   |fH sq _=>exact .inl ⟨_,_,rfl,.inl sq,by rw[bO];exact res.flat rfl⟩
  |_=>rw[hd] at q1;cases q1
 .cases e
noncomputable def l6:D->ak String
 |.bF=>some "NoneType"
 |.bl _=>some "bool"
 |.int _=>some "int"
 |.str _=>some "str"
 |.lst _=>some "list"
 |.tup _=>some "tuple"
 |_=>none
def gn:List O->ak O
 |[a,.Y (.ty T)]=>if T="int"\/T="str"\/T="bool"\/T="list"\/T="tuple" then(l6 a.d).map λk=>.Y (.bl (lN k T)) else none
 |_=>none
def VL{H:Hp}{x:V}{d:D}{k:String}(r:ax K H [x] [d])(e:l6 d=some k):ER K H x k:=by
 cases r with
 |flat q _=>cases d <;> cases e <;> cases q <;> rfl
 |lst sq _ _=>cases e;exact .inl ⟨rfl,_,.inl sq⟩
 |tup sq _ _=>cases e;exact .inr ⟨rfl,_,sq⟩
 |aI _ _ _ _ _=>cases e
 |fH _ _=>cases e
 |exc _ _=>cases e
def Bq:cO K (λxs H Q=>∃x k T,xs=[x,.ty T]/\ER K H x k/\(T="int"\/T="str"\/T="bool"\/T="list"\/T="tuple")/\Q (.bl (lN k T)) H) gn:=by
 intro F H vs os o Q le eW e res;unfold gn at e;split at e
 .split at e
  .obtain⟨x,y,B,C,rfl,h1,h2⟩:=eW.two;obtain⟨k,q1,q2⟩:=jt.mp e;subst q2;cases i4 h2 rfl;exact⟨x,k,_,rfl,VL (pS le h1) q1,by assumption,res.flat rfl⟩
  .cases e
 .cases e
noncomputable def kT:List O->ak O
 |[.Y (.int i)]=>some (.Y (.int i))
 |[.Y (.bl b)]=>some (.Y (.int (if b then 1 else 0)))
 |_=>none
def IU:cO K (λxs H Q=>(∃i,xs=[.int i]/\Q (.int i) H)\/∃k,xs=[.bl k]/\Q (.int (if k then 1 else 0)) H) kT:=by
 intro F H vs os o Q le eW e res;unfold kT at e;split at e
 .cases e;obtain⟨x,B,rfl,h1⟩:=eW.one;cases i4 h1 rfl;exact .inl ⟨_,rfl,res.flat rfl⟩
 .cases e;obtain⟨x,B,rfl,h1⟩:=eW.one;cases i4 h1 rfl;exact .inr ⟨_,rfl,res.flat rfl⟩
 .cases e
def C5(o:O):ak (List D):=match de o with
 |some ds=>some ds
 |none=>vn o
def iH:List O->ak O
 |[a]=>(C5 a).map λds=>.lst (ds.map .Y)
 |_=>none
def A_:cO K (λxs H Q=>∃p ys,xs=[.ref p]/\(dH K H p ys\/iB K H p ys)/\∀l,H l=none->Q (.ref l) (upd H l (.lst ys))) iH:=by
 intro F H vs os o Q le eW e res;unfold iH at e;split at e
 .rename_i a
  obtain⟨x,B,rfl,h1⟩:=eW.one;obtain⟨ds,q1,q2⟩:=jt.mp e;subst q2;unfold C5 at q1;cases q:de a with
  |some J5=>
   rw[q] at q1;cases q1;obtain⟨p,ws,rfl,sq,r⟩:=tP le h1 q;exact⟨p,ws,rfl,.inl sq,λl hl=>res.lst r hl⟩
  |none=>
   rw[q] at q1;obtain⟨p,ws,rfl,sq,r⟩:=Po le h1 q1;exact⟨p,ws,rfl,.inr sq,λl hl=>res.lst r hl⟩
 .cases e
end
def kA(K:FG)(r:V->List V->Hp->VK->Prop)(g:O->List O->ak (O×O)):Prop:=
 ∀(F H:Hp) (x:V) (vs:List V) (o:O) (os:List O) (o' res:O) (Ai Aτ:List ao) (Q:VK),aO F H->ai K F H [some x] [some o] Ai->ai K F H (vs.map some) (os.map some) Aτ->(Ai++Aτ).Nodup->(∀a∈Ai++Aτ,F a=none)->
  g o os=some (o',res)->
  (∀v H' A' Ar,(∀a u,a∉Ai->H a=some u->H' a=some u)->(∀a,H a≠none->H' a≠none)->ai K F H' [some x] [some o'] A'->ai K F H' [some v] [some res] Ar->a_ (Ar++A') (Ai++Aτ)->Q v H')->r x vs H Q
def gj(g:O->List O->ak (O×O))(fo:GE)(fs:GA):GE:=λQ0=>(fo Q0).bind λp=>match p.1 with
 |.var i=>match p.2[i]? with
  |some (some (.lst _))=>(fs p.2).bind λq=>(gK q.1).bind λos=>match q.2[i]? with
   |some (some o)=>(g o os).bind λz=>some (.own z.2,q.2.set i (some z.1))
   |_=>none
  |_=>none
 |_=>none
section
variable{K:FG}{F H:Hp}{A:List ao}{Z:St}{Q0:Gm}
def VM{g:O->List O->ak (O×O)}{fo:GE}{fs:GA}{Q0 aw:Gm}{r:R}(e:gj g fo fs Q0=some (r,aw)):
  ∃i aJ ps rs cD os o z,fo Q0=some (.var i,aJ)/\aJ[i]?=some (some (.lst ps))/\fs aJ=some (rs,cD)/\gK rs=some os/\cD[i]?=some (some o)/\g o os=some z/\r=.own z.2/\aw=cD.set i (some z.1):=by
 unfold gj at e;cases q:fo Q0 with
 |none=>rw[q] at e;cases e
 |some p=>
  obtain⟨r1,aJ⟩:=p;rw[q] at e;dsimp only[Option.bind] at e;cases r1 with
  |own _=>cases e
  |var i=>
   dsimp only at e;split at e
   .rename_i ps h1
    cases q2:fs aJ with
    |none=>rw[q2] at e;cases e
    |some p2=>
     obtain⟨rs,cD⟩:=p2;rw[q2] at e;dsimp only at e;cases q3:gK rs with
     |none=>rw[q3] at e;cases e
     |some os=>
      rw[q3] at e;dsimp only at e;split at e
      .rename_i o h2
       cases q4:g o os with
       |none=>rw[q4] at e;cases e
       |some z=>rw[q4] at e;cases e;exact⟨i,aJ,ps,rs,cD,os,o,z,rfl,h1,q2,q3,h2,q4,rfl,rfl⟩
      .cases e
   .cases e
def OK.sJ{vs:List V}{os:List O}{i:Nat}{x:V}{o o' res:O}{g:O->List O->ak (O×O)}{r:V->List V->Hp->VK->Prop}{Q:VK}(ok:kA K r g)(k:OK K F H (vs.map some++Z) (os.map some++Q0) A)(hx:Z[i]?=some (some x))(ho:Q0[i]?=some (some o))
  (hl:vs.length=os.length) (e:g o os=some (o',res)) (q:∀v H' A',Ext F H A F H' A'->OK K F H' (some v::Z) (some res::Q0.set i (some o')) A'->Q v H'):r x vs H Q:=by
 obtain⟨B,C,h1,h2,h3⟩:=ai.split (by simpa using hl) k.os
 subst h3;obtain⟨x',Ai,C',g1,g2,g3,g4⟩:=h2.take ho;rw[hx] at g1;cases g1;have p1:(B++C).Perm ((Ai++B)++C'):=by
  refine(List.Perm.append_left B g4).trans ?_;rw[<-iN];exact qN.append_right _
 have nd:((Ai++B)++C').Nodup:=p1.nodup_iff.mp k.nd;have fr:∀a∈(Ai++B)++C',F a=none:=λa m=>k.fr a (p1.mem_iff.mpr m)
 obtain⟨n1,n2,n3⟩:=lh.mp nd;have nC:∀a∈C',a∉Ai:=λa m z=>n3 a (jQ _ z) a m rfl
 refine ok F H x vs o os o' res Ai B Q k.le g2 h1 n1 (λa m=>fr a (jQ _ m)) e λv H' A' Ar kp dm w1 w2 sp=>?_
 have s2:a_ ((Ar++A')++C') ((Ai++B)++C'):=sp.app (a_.refl C');have hi:i<Q0.length:=(iA.mp ho).1;have KD:ai K F H' Z (Q0.set i none) C':=g3.keep (aO.refl _) λa m u e=>kp a u (nC a m) e
 obtain⟨D,j1,C2,j2,j3⟩:=ai.put w1 i KD (by rw[Dv];exact hi)
 rw[xc hx,My] at j1;have s3:a_ (Ar++D) (B++C):=by
  have a1:a_ (Ar++D) (Ar++(A'++C')):=(a_.refl Ar).app ((a_.cq j2).trans ((a_.refl A').app (.bS j3)));rw[<-iN] at a1;exact a1.trans (s2.trans (.cq p1.symm))
 refine q v H' (Ar++D) ⟨aO.refl _,λa u e n=>kp a u (λm=>n (p1.mem_iff.mpr (by simp[m]))) e,dm,λa h=>.inl h,λa m=>.inl (s3.mem a m)⟩ ⟨λa u e=>?_,w2.app j1,s3.nodup k.nd,λa m=>k.fr a (s3.mem a m)⟩
 refine kp a u (λm=>?_) (k.le a u e)
 rw[fr a (by simp[m])] at e
 cases e
end
section
variable{X:Cx}{K:FG}{o e:Expr}{es:List Expr}{fo:GE}{fs:GA}{name:Str}{apos dh:Pos}{id:String}{r:V->List V->Hp->VK->Prop}{g:O->List O->ak (O×O)}
def Zd(ok:kA K r g){Z:St}{H:Hp}{Q:VK}(t:tG K (gj g fo fs) Z H Q):L9 K "list" r (tG K fo) (kb K fs) Z H Q:=by
 obtain⟨F,A,Q0,rr,aw,k,e,w⟩:=t;obtain⟨i,aJ,ps,rs,cD,os,o,z,e1,e2,e3,e4,e5,e6,rfl,rfl⟩:=VM e;refine⟨F,A,Q0,_,aJ,k,e1,λx H1 p=>?_⟩
 obtain⟨F1,A1,x1,k1,hh⟩:=p;have hx:Z[i]?=some (some x):=hh.1;obtain⟨k2,x2⟩:=k1.sub (Z':=Z) (aw:=aJ) (by cases k1.os with|skip t=>exact t) (a_.refl _)
 refine⟨?_,F1,A1,aJ,rs,cD,k2,e3,λvs H2 p2=>?_⟩
 .obtain⟨v,Ai,B,g1,g2,_⟩:=k2.os.take e2;rw[hx] at g1;cases g1;cases g2 with
  |lst hq _ _=>exact .inl ⟨rfl,_,dH.of hq⟩
 .obtain⟨F3,A3,x3,k3,h3⟩:=p2;rw[uF e4] at k3;have hl:vs.length=os.length:=by
   have:=h3.length;have h4:=congrArg List.length (uF e4);simp at h4;lia
  exact OK.sJ ok k3 hx e5 hl e6 λv H' A' x4 k4=>w v H' ⟨F3,A',(x1.trans (x2.trans (x3.trans x4))),k4,jn⟩
def oP(slot:Slot "list" name id)(xY:typeOf (.builtin id)=pure (.type "method_descriptor"))(hm:wZ X id r)(ok:kA K r g)(ho:PE X o (tG K fo))(ha:PA X (e::es) (kb K fs))
  (n5:attributeBase o name X.env (eval o X.env)=eval o X.env:=by rfl)
  (se:((backTo dh (starEach (e::es) X.env)).all (λx => !x.1)&&(backToKw dh (keywordEach [] X.env)).all (λx=>x.1.isSome) && decide ((e::es).length+([]:List Keyword).length+(if([]:List Keyword).isEmpty then 0 else 1)<30))=true:=by rfl)
  (n6:(apos.endLine == dh.line)=true:=by rfl) (hs:starEach (e::es) X.env=(false,eval e X.env)::starEach es X.env:=by rfl) (kO:(backTo dh (starEach es X.env)).any (·.1)=false:=by rfl) (hK:X.K=K:=by rfl) :
  PE X (.Call (.Attribute o name apos) (e::es) [] dh) (tG K (gj g fo fs)):=by
 subst hK;exact(Rz PySem.F.plainAttrs_list slot xY hm ho ha n5 se n6 hs kO).mono λ_ _ _ t=>Zd ok t
end
section
variable{K:FG}{F H:Hp}{l:ao}{ws zT:List V}{ps zR:List O}{Ap A':List ao}
def TY(hn:l∉A')(h:ai K F H (zT.map some) (zR.map some) A'):ai K F (upd H l (.lst zT)) [some (.ref l)] [some (.lst zR)] (l::A'++[]):=
 .lst jG (h.keep (aO.refl _) λa m u e=>by rw[dr (λz=>hn (by rw[<-z];exact m):a≠l)];exact e) .nil
def OB{o:HO}{Ai:List ao}(hm:l∈Ai):∀a u,a∉Ai->H a=some u->upd H l o a=some u:=λa u n e=>by
 rw[dr (λz=>n (by rw[z];exact hm):a≠l)];exact e
def Ba{o:HO}:∀a,H a≠none->upd H l o a≠none:=λa h=>by
 by_cases z:a=l
 .rw[z,jG];exact λz=>by cases z
 .rw[dr z];exact h
def D_{x:V}{Ai Aτ:List ao}{Q:VK}{o:O}(h:ai K F H [some x] [some o] Ai)(hps:o=.lst ps)(nd:(Ai++Aτ).Nodup){o' res:O}
  (q:∀v H' A' Ar,(∀a u,a∉Ai->H a=some u->H' a=some u)->(∀a,H a≠none->H' a≠none)->ai K F H' [some x] [some o'] A'->ai K F H' [some v] [some res] Ar->a_ (Ar++A') (Ai++Aτ)->Q v H') :
  ∃l ws Ap,x=.ref l/\H l=some (.lst ws)/\ai K F H (ws.map some) (ps.map some) Ap/\(Ap++Aτ).Nodup/\∀zT zR A' v Ar,o'=.lst zR->ai K F H (zT.map some) (zR.map some) A'->ai K F H [some v] [some res] Ar->a_ (Ar++A') (Ap++Aτ)->Q v (upd H l (.lst zT)):=by
 subst hps;cases h with
 |@lst l ws _ Ap B _ _ hl i t=>
  have eB:B=[]:=by cases t;rfl
  subst eB;rw[lR] at nd q;obtain⟨nl,CD⟩:=i7.mp (by simpa using nd:(l::(Ap++Aτ)).Nodup)
  refine⟨l,ws,Ap,rfl,hl,i,CD,λzT zR A' v Ar eo w1 w2 sp=>?_⟩
  subst eo;have nA:l∉A':=λm=>nl (sp.mem l (ir _ m))
  have nR:l∉Ar:=λm=>nl (sp.mem l (jQ _ m))
  refine q v _ _ Ar (OB (by simp)) Ba (TY nA w1) (w2.keep (aO.refl _) λa m u e=>by rw[dr (λz=>nR (by rw[<-z];exact m):a≠l)];exact e) ?_
  rw[lR];have s1:a_ (Ar++l::A') (l::(Ar++A')):=.cq (by simpa using List.perm_middle)
  refine s1.trans ?_;obtain⟨L,p1,p2⟩:=sp;exact⟨l::L,p1.cons l,by rw[DA];exact p2.cons_cons l⟩
def Bb:ai K F H [some .bF] [some (.Y .bF)] []:=.Y (.flat rfl .nil) .nil
noncomputable def oM:O->List O->ak (O×O)
 |.lst ps,[y]=>if ps.length<1000000 then some (.lst (ps++[y]),.Y .bF) else none
 |_,_=>none
def uC:kA K Pg oM:=by
 intro F H x vs o os o' res Ai Aτ Q le h1 h2 nd fr e q;unfold oM at e;split at e
 .rename_i ps y
  split at e
  .rename_i hz
   cases e;obtain⟨l,ws,Ap,rfl,hl,i,CD,go⟩:=D_ h1 rfl nd q
   match vs,h2 with
   |[v],h2=>
    have hlen:ws.length=ps.length:=by have:=i.length;simpa using this
    refine⟨l,ws,v,rfl,rfl,hl,jq (by lia:ws.length<1000000) (by decide),?_⟩
    refine go (ws++[v]) (ps++[y]) (Ap++Aτ) .bF [] rfl ?_ Bb (a_.refl _);rw[jm,jm];exact i.app h2
   |[],h2=>have:=h2.length;simp at this
   |_::_::_,h2=>have:=h2.length;simp at this
  .cases e
 .cases e
noncomputable def vL:O->List O->ak (O×O)
 |.lst ps,[.Y (.int i),y]=>if 0<=i/\i<1000000/\ps.length<1000000 then some (.lst (ps.take i.toNat++y::ps.drop i.toNat),.Y .bF) else none
 |_,_=>none
def AN:kA K Pm vL:=by
 intro F H x vs o os o' res Ai Aτ Q le h1 h2 nd fr e q;unfold vL at e;split at e
 .rename_i ps k y
  split at e
  .rename_i hz
   cases e;obtain⟨l,ws,Ap,rfl,hl,i,CD,go⟩:=D_ h1 rfl nd q
   match vs,h2 with
   |[v,v'],h2=>
    have hlen:ws.length=ps.length:=by have:=i.length;simpa using this
    obtain⟨rfl,h3⟩:=tX h2;refine⟨l,ws,k,v',rfl,rfl,hl,hz.1,by lia,jq (by lia:ws.length<1000000) (by decide),?_⟩
    have es:ai K F H ((ws.take k.toNat).map some++(ws.drop k.toNat).map some) ((ps.take k.toNat).map some++(ps.drop k.toNat).map some) Ap:=by
     rw[<-jm,<-jm,uk,uk];exact i
    obtain⟨B,C,g1,g2,g3⟩:=ai.split (by simp[hlen]) es
    subst g3;refine go (qA ws k.toNat v') (ps.take k.toNat++y::ps.drop k.toNat) (B++(Aτ++C)) .bF [] rfl ?_ Bb ?_
    .unfold qA;rw[jm,jm,cY,cY];exact g1.app (h3.app g2)
    .rw[gc,iN];exact(a_.refl B).app (.cq qN)
   |[],h2=>have:=h2.length;simp at this
   |[_],h2=>have:=h2.length;simp at this
   |_::_::_::_,h2=>have:=h2.length;simp at this
  .cases e
 .cases e
end
def tf(K:FG):qp:=λo i v H Q=>wJ o i v H Q\/∃a H4,o=.ref a/\ux K H a i v H4/\Q H4
def J3{X:Cx}(hu:X.A.units+41<cLine):uv X (tf X.K):=by
 intro af s Z H o i v ov iv u Q I ro ri rv h;rcases h with h|⟨a,H4,rfl,g,q⟩
 .exact Vu af s Z H o i v ov iv u Q I ro ri rv h
 .cases ro;exact UK (by lia) I g ri rv λs4 I4=>⟨H4,I4,q⟩
noncomputable def cP{α:Type}:List (TK×α)->TK->α->List (TK×α)
 |[],k,v=>[(k,v)]
 |e::es,k,v=>if e.1=k then(e.1,v)::es else e::cP es k v
def C8(v:O)(i:D):O->ak (O×O)
 |.lst ps=>(intD i).bind λk=>(n_ ps.length k).map λj=>(.lst (ps.set j v),.Y .bF)
 |.aI kvs=>(cJ i).bind λk=>if kvs.length<1000000 then some (.aI (cP kvs k v),.Y .bF) else none
 |_=>none
def jC(o:O):List O->ak (O×O)
 |[v,.Y i]=>C8 v i o
 |_=>none
def wK(K:FG):V->List V->Hp->VK->Prop:=λx vs H Q=>∃v i,vs=[v,i]/\tf K x i v H λH'=>Q .bF H'
section
variable{K:FG}{F H:Hp}
theorem Il{k:TK}{y v:V}{o:O}{Bv:List ao}(q:ai K F H [some v] [some o] Bv)(ry:ax K F [y] [k.d]):∀{ws:List (TK×V×V)} {kvs:List (TK×O)} {B:List ao},ws.map (·.1)=kvs.map (·.1)->ax K F (ws.map (·.2.1)) (kvs.map (·.1.d))->
  ai K F H (ws.map λp=>some p.2.2) (kvs.map λp=>some p.2) B->∃C,ai K F H ((hG ws k y v).map λp=>some p.2.2) ((cP kvs k o).map λp=>some p.2) C/\a_ C (Bv++B)/\(hG ws k y v).map (·.1)=(cP kvs k o).map (·.1)/\
   ax K F ((hG ws k y v).map (·.2.1)) ((cP kvs k o).map (·.1.d))
 |[],[],B,_,_,h=>⟨Bv,q,.bS (List.sublist_append_left _ _),rfl,ry⟩
 |w::ws,p::kvs,B,hk,rk,h=>by
  rw[cY,cY] at hk;injection hk with h1 h2;obtain⟨B1,B2,g1,g2,rfl⟩:=ai.one h;unfold hG cP;rw[h1];by_cases e:p.1=k
  .rw[aY e,aY e];refine⟨Bv++B2,ai.app (τ:=[some v]) (Θ:=[some o]) q g2,.bS ((List.Sublist.refl _).append (pK _ _)),?_,?_⟩
   .simp only[cY,h2]
   .simp only[cY];exact rk
  .rw[bb e,bb e];obtain⟨C,j1,j2,j3,j4⟩:=Il q ry h2 rk.inv.2 g2;refine⟨B1++C,ai.app (τ:=[some w.2.2]) (Θ:=[some p.2]) g1 j1,?_,?_,?_⟩
   .refine((a_.refl B1).app j2).trans (.cq ?_);rw[<-iN,<-iN];exact qN.append_right _
   .simp only[cY,h1,j3]
   .exact .cons rk.inv.1 j4
 |[],_::_,_,h,_,_=>by simp at h
 |_::_,[],_,h,_,_=>by simp at h
def IV{F H:Hp}{v:V}{kvs:List (TK×O)}{A:List ao}(h:ai K F H [some v] [some (.aI kvs)] A):∃a ws ep Ap,v=.ref a/\A=a::Ap/\H a=some (.dG ws ep)/\ws.map (·.1)=kvs.map (·.1)/\ax K F (ws.map (·.2.1)) (kvs.map (·.1.d))/\ai K F H (ws.map λp=>some p.2.2) (kvs.map λp=>some p.2) Ap:=by
 cases h with
 |@aI a ws _ ep Ap B _ _ hl hk rk ch t=>
  cases t;exact⟨a,ws,ep,Ap,rfl,lR _,hl,hk,rk,ch⟩
def Ze:kA K (wK K) jC:=by
 intro F H x vs o os o' res Ai Aτ Q le h1 h2 nd fr e q;unfold jC at e;split at e
 case h_2=>cases e
 rename_i ov i
 unfold C8 at e;split at e
 .rename_i ps
  obtain⟨k,hk,e⟩:=fm.mp e;cases xj hk;obtain⟨j,e1,e2⟩:=jt.mp e;cases e2;obtain⟨l,ws,Ap,rfl,hl,i,CD,go⟩:=D_ h1 rfl nd q;obtain⟨v,v',rfl⟩:=J0 (l:=vs) (by have:=h2.length;simp at this;lia)
  have hlen:ws.length=ps.length:=by have:=i.length;simpa using this
  obtain⟨B1,B2,g1,g2,rfl⟩:=ai.one h2;obtain⟨rfl,g3⟩:=tX g2;cases g3;have hj:j<ps.length:=(IK e1).2.1;refine⟨v,.int k,rfl,.inl ⟨l,ws,k,j,rfl,rfl,hl,by rw[hlen];exact e1,?_⟩⟩
  obtain⟨D,j1,C2,j2,j3⟩:=ai.put g1 j i (by simpa using hj)
  refine go (ws.set j v) (ps.set j ov) D .bF [] rfl (by rw[MD,MD];exact j1) Bb ?_
  rw[gc,lR];exact((a_.cq j2).trans ((a_.refl B1).app (.bS j3))).trans (.cq qN)
 .rename_i kvs
  cases q1:cJ i with
  |none=>rw[q1] at e;cases e
  |some k=>
   rw[q1] at e;dsimp only[Option.bind] at e;split at e
   .rename_i hz
    cases e;obtain⟨v,v',rfl⟩:=J0 (l:=vs) (by have:=h2.length;simp at this;lia)
    obtain⟨B1,B2,g1,g2,rfl⟩:=ai.one h2;have ry:ax K F [v'] [k.d]:=by rw[(nI q1).1];exact rD g2
    obtain⟨l,ws,ep,Ap,rfl,rfl,hl,hk,rk,ch⟩:=IV h1;obtain⟨C,j1,j2,j3,j4⟩:=Il (k:=k) g1 ry hk rk ch;have hlen:ws.length=kvs.length:=by have:=congrArg List.length hk;simpa using this
    have nd1:(l::(Ap++(B1++B2))).Nodup:=by simpa using nd
    have nC:l∉C:=λm=>(i7.mp nd1).1 (by
     rcases eT.mp (j2.mem l m) with z|z
     .simp[z]
     .simp[z])
    refine⟨v,v',rfl,.inr ⟨l,_,rfl,⟨ws,ep,k,hl,by rw[xv hk];exact rk.mono le,ry.mono le,(nI q1).2,jq (by lia:ws.length<1000000) (by decide),rfl⟩,?_⟩⟩
    refine q .bF _ (l::C++[]) [] (OB (by simp)) Ba (.aI jG j3 j4 (j1.keep (aO.refl _) λa m u e=>by rw[dr (λz=>nC (by rw[<-z];exact m):a≠l)];exact e) .nil) Bb ?_
    rw[gc,lR];refine((a_.refl [l]).app j2).trans ⟨l::(Ap++B1),?_,?_⟩
    .show(l::(B1++Ap)).Perm _;exact qN.cons l
    .exact((List.Sublist.refl Ap).append (List.sublist_append_left B1 B2)).cons_cons l
   .cases e
 .cases e
end
def fE(fv fo fi:GE):GS:=λQ0=>(fv Q0).bind λp=>(fo p.2).bind λq=>(fi q.2).bind λr=>match p.1,q.1,r.1 with
 |.own v,.var i,.own y=>match r.2[i]? with
  |some (some o)=>(jC o [v,y]).bind λz=>some (.nx,r.2.set i (some z.1))
  |_=>none
 |_,_,_=>none
section
variable{X:Cx}{K:FG}{m:List Bool}{e o i:Expr}{fv fo fi:GE}{pos pos':Pos}
def UL{Q0 aw:Gm}{fl:Fl}(e:fE fv fo fi Q0=some (fl,aw)):∃v aJ j cD y pO o z,fv Q0=some (.own v,aJ)/\fo aJ=some (.var j,cD)/\fi cD=some (.own y,pO)/\pO[j]?=some (some o)/\jC o [v,y]=some z/\fl=.nx/\aw=pO.set j (some z.1):=by
 unfold fE at e;cases q1:fv Q0 with
 |none=>rw[q1] at e;cases e
 |some p=>
  obtain⟨r1,aJ⟩:=p;rw[q1] at e;dsimp only[Option.bind] at e;cases q2:fo aJ with
  |none=>rw[q2] at e;cases e
  |some p=>
   obtain⟨r2,cD⟩:=p;rw[q2] at e;dsimp only at e;cases q3:fi cD with
   |none=>rw[q3] at e;cases e
   |some p=>
    obtain⟨r3,pO⟩:=p;rw[q3] at e;dsimp only at e;cases r1 with
    |var _=>cases e
    |own v=>
     cases r2 with
     |own _=>cases e
     |var j=>
      cases r3 with
      |var _=>cases e
      |own y=>
       dsimp only at e;split at e
       .rename_i oo h
        cases q4:jC oo [v,y] with
        |none=>rw[q4] at e;cases e
        |some z=>rw[q4] at e;cases e;exact⟨v,aJ,j,cD,y,pO,oo,z,rfl,q2,q3,h,q4,rfl,rfl⟩
       .cases e
def vS(he:PE X e (tG K fv))(ho:PE X o (tG K fo))(hi:PE X i (tG K fi))(hu:X.A.units+41<cLine)
  (ha:∀v,assign (.Subscript o i pos') X.env v=(do
   let ov <-holding [v] (eval o X.env)
   let iv <-holding [v,ov] (eval i X.env)
   standAt pos'
   holding [v,ov,iv] (setItem ov iv v)
   release [v,ov,iv] []):=by intro _;rfl)
  (hs:swapsWithSole [.Subscript o i pos'] e pos.line X.env=pure false:=by rfl) (hw:swappedStores [.Subscript o i pos'] e X.env=pure none:=by rfl)
  (h1:(assignEach [.Subscript o i pos'] X.env).map (·.2)=[assign (.Subscript o i pos') X.env]:=by rfl) (hK:X.K=K:=by rfl):PS X (.Assign [.Subscript o i pos'] e pos) (tS K m (fE fv fo fi)):=by
 subst hK;refine(Jm he (QD ho hi (J3 hu) ha) hs hw h1).mono λD Z H t=>?_
 obtain⟨F,A,Q0,fl,aw,k,e,w⟩:=t;obtain⟨v,aJ,j,cD,y,pO,oo,z,e1,e2,e3,e4,e5,rfl,rfl⟩:=UL e;have t:kb X.K (aj fv (aj fo (aj fi gN))) Z H λvs H'=>∃a b c,vs=[a,b,c]/\tf X.K b c a H' λH4=>D.nx Z H4:=by
  refine⟨F,A,Q0,[.own v,.var j,.own y],pO,k,?_,λvs H1 p=>?_⟩
  .unfold aj;simp only[e1,e2,e3,Option.bind,gN]
  .obtain⟨F1,A1,x,k1,hh⟩:=p;obtain⟨a,b,c,rfl⟩:=ψ hh.length;refine⟨a,b,c,rfl,?_⟩;have hx:Z[j]?=some (some b):=hh.1;have k2:OK X.K F1 H1 ([a,c].map some++Z) ([v,y].map some++pO) A1:=by
    obtain⟨B1,C1,g1,g2,g3⟩:=ai.one (Z:=some b::some c::Z) (Q0:=none::some y::pO) k1.os;cases g2 with
    |skip g2=>subst g3;exact⟨k1.le,g1.app g2,k1.nd,k1.fr⟩
   have z':=OK.sJ (r:=wK X.K) (g:=jC) (Q:=λ_ H4=>D.nx Z H4) (o':=z.1) (res:=z.2) Ze k2 hx e4 rfl e5 λv' H' A' x4 k4=>by
    obtain⟨B2,k5,sub⟩:=OK.part (τ:=[some v']) (Θ:=[some z.2]) k4 rfl;exact w Z H' ⟨F1,B2,(x.trans x4).lO sub,k5,Kept.refl⟩
   obtain⟨v',i',ee,q⟩:=z';cases ee;exact q
 have t1:=xb t;refine tG.mono t1 λa H1 h=>tG.mono (xb h) λb H2 h2=>tG.mono (xb h2) λc H3 h3=>?_
 obtain⟨F,A,Q0,rs,aw,k,e,w⟩:=h3;cases e;obtain⟨a',b',c',ee,q⟩:=w [] H3 ⟨F,A,Ext.refl,k,jn⟩;cases ee;exact q
end
abbrev GO:=Gm->ak (ak Int×Gm)
def GY(K:FG)(f:GO):TO:=λZ H Q=>∃F A Q0 b aw,OK K F H Z Q0 A/\f Q0=some (b,aw)/\∀H',ik K F H A Z aw [] [] H'->Q b H'
def vT:GO:=λQ0=>some (none,Q0)
noncomputable def u6:R->ak Int
 |.own (.Y (.int i))=>some i
 |_=>none
def uL(f:GE):GO:=λQ0=>(f Q0).bind λp=>(u6 p.1).map λi=>(some i,p.2)
section
variable{X:Cx}{K:FG}{e:Expr}{fa:GE}{lo hi:ak Expr}{fl fh:GO}{pos p2:Pos}
def za:PO X none (GY K vT):=by
 intro af s Z H Q I t;refine W8 af s Z H Q I ?_;obtain⟨F,A,Q0,b,aw,k,e,w⟩:=t;cases e;exact w H ⟨F,A,Ext.refl,k,jn⟩
def zb(h:PE X e (tG K fa)):PO X (some e) (GY K (uL fa)):=by
 intro af s Z H Q I t;refine W9 h af s Z H Q I ?_;obtain⟨F,A,Q0,b,aw,k,e,w⟩:=t;unfold uL at e;cases q:fa Q0 with
 |none=>rw[q] at e;cases e
 |some p=>
  obtain⟨r,aJ⟩:=p;rw[q] at e;obtain⟨i,e1,e2⟩:=jt.mp e;cases e2;have er:r=.own (.Y (.int i)):=by
   unfold u6 at e1;split at e1
   .rename_i hh;cases e1;exact hh
   .cases e1
  subst er;exact⟨F,A,Q0,_,_,k,q,λv H' pp=>⟨i,pp.flat rfl,w H' pp.drop⟩⟩
def cutD(ds:List D)(lo hi:ak Int):List D:=(ds.drop (HT.dE ds.length 0 lo)).take (HT.dE ds.length ds.length hi - HT.dE ds.length 0 lo)
def vi(o:O)(lo hi:ak Int):ak O:=match o,de o,vn o with
 |.Y (.str z),_,_=>if z.length<=1000000 then some (.Y (.str (Txt.slice z lo hi))) else none
 |_,some ds,_=>some (.lst ((cutD ds lo hi).map .Y))
 |_,none,some ds=>if HT.dE ds.length 0 lo=0/\HT.dE ds.length ds.length hi=ds.length then none else some (.tup ((cutD ds lo hi).map .Y))
 |_,_,_=>none
def CW(K:FG):V->ak Int->ak Int->Hp->VK->Prop:=λx lo hi H Q=>CY x lo hi H Q\/yz K x lo hi H Q\/yA K x lo hi H Q
def L5(K:FG)(hK:X.K=K:=by rfl):rC X (CW K):=yB.or ((Vy K hK).or (Xh K hK))
def e8d{F H:Hp}{x:V}{o o':O}{B:List ao}{Q:VK}{lo hi:ak Int}(le:aO F H)(h:ai K F H [some x] [some o] B)(e:vi o lo hi=some o')(res:Res K F H o' Q):CW K x lo hi H Q:=by
 unfold vi at e;split at e
 .split at e
  .cases e;cases i4 h rfl;exact .inl ⟨_,rfl,ml (by assumption),res.flat rfl⟩
  .cases e
 .rename_i ds _ _ q1 _
  cases e;obtain⟨a,ws,rfl,sq,r⟩:=tP le h (by assumption)
  refine .inr (.inl ⟨a,ws,rfl,sq,λp hp=>res.lst ?_ hp⟩)
  unfold nQ cutD;rw[r.length];exact(r.drop _).take _
 .split at e
  .cases e
  .rename_i ib
   cases e;obtain⟨a,ws,rfl,sq,r⟩:=Po le h (by assumption)
   refine .inr (.inr ⟨a,ws,rfl,sq,by rw[r.length];exact ib,λp hp=>res.tup ?_ hp⟩)
   unfold nQ cutD;rw[r.length];exact(r.drop _).take _
 .cases e
def t6(f:GE)(lo hi:GO):GE:=λQ0=>(f Q0).bind λp=>(lo p.2).bind λq=>(hi q.2).bind λr=>(ka r.2 p.1).bind λo=>(vi o q.1 r.1).bind λo'=>some (.own o',r.2)
def TZ{Q0 aw:Gm}{r:R}(e:t6 fa fl fh Q0=some (r,aw)):∃r1 aJ l cD u o o',fa Q0=some (r1,aJ)/\fl aJ=some (l,cD)/\fh cD=some (u,aw)/\ka aw r1=some o/\vi o l u=some o'/\r=.own o':=by
 unfold t6 at e;cases q1:fa Q0 with
 |none=>rw[q1] at e;cases e
 |some p=>
  rw[q1] at e;dsimp only[Option.bind] at e;cases q2:fl p.2 with
  |none=>rw[q2] at e;cases e
  |some q=>
   rw[q2] at e;dsimp only at e;cases q3:fh q.2 with
   |none=>rw[q3] at e;cases e
   |some w=>
    rw[q3] at e;dsimp only at e;cases q4:ka w.2 p.1 with
    |none=>rw[q4] at e;cases e
    |some o=>
     rw[q4] at e;dsimp only at e;cases q5:vi o q.1 w.1 with
     |none=>rw[q5] at e;cases e
     |some o'=>rw[q5] at e;cases e;exact⟨p.1,p.2,q.1,q.2,w.1,o,o',rfl,q2,q3,q4,q5,rfl⟩
def yY(he:PE X e (tG K fa))(hl:PO X lo (GY K fl))(hu:PO X hi (GY K fh))(hK:X.K=K:=by rfl):PE X (.Subscript e (.Slice lo hi none p2) pos) (tG K (t6 fa fl fh)):=by
 refine(Vt (L5 K hK) he hl hu).mono λZ H Q t=>?_
 obtain⟨F,A,Q0,rr,aw,k,e,w⟩:=t;obtain⟨r1,aJ,l,cD,u,o,o',e1,e2,e3,e4,e5,rfl⟩:=TZ e;refine⟨F,A,Q0,r1,aJ,k,e1,λv H1 p=>?_⟩
 obtain⟨F1,A1,x1,k1,hh⟩:=p;obtain⟨C,kC,fr⟩:=OK.frame (τ:=[some v]) (Θ:=[r1.o]) k1 rfl;refine⟨F1,C,aJ,l,cD,kC,e2,λH2 p2=>?_⟩
 obtain⟨F2,A2,x2,k2,_⟩:=p2;obtain⟨A3,x3,k3⟩:=fr _ _ _ _ _ x2 k2;obtain⟨C2,kC2,fr2⟩:=OK.frame (τ:=[some v]) (Θ:=[r1.o]) k3 rfl;refine⟨F2,C2,cD,u,aw,kC2,e3,λH3 p3=>?_⟩
 obtain⟨F4,A4,x4,k4,_⟩:=p3;obtain⟨A5,x5,k5⟩:=fr2 _ _ _ _ _ x4 k4;have pp:ik K F H A Z aw [r1] [v] H3:=⟨F4,A5,x1.trans (x3.trans x5),k5,hh⟩;obtain⟨F6,le,eW,res⟩:=pp.res (os:=[o]) (o:=o') (by unfold gQ;rw[e4];rfl) w
 obtain⟨x,B,ev,h1⟩:=eW.one;cases ev;exact e8d le h1 e5 res
end
noncomputable def cN:List Nat->Gm->Gm×Gm
 |[],Q0=>([],Q0)
 |i::cap,Q0=>let p:=cN cap (Q0.set i none);((Q0[i]?).join::p.1,p.2)
noncomputable def t7:List Nat->Gm->Gm->Gm
 |i::cap,x::lj,Q0=>(t7 cap lj Q0).set i x
 |_,_,Q0=>Q0
noncomputable def compLoop(g:GG)(ct:GT)(ce:GE):List D->Gm->List O->ak (List O×Gm)
 |[],Q0,aP=>some (aP,Q0)
 |d::ds,Q0,aP=>(g d Q0).bind λaJ=>(ct aJ).bind λp=>if p.1=true then
   (ce p.2).bind λq=>(gK [q.1]).bind λos=>if aP.length<1000000 then compLoop g ct ce ds q.2 (aP++os) else none
  else compLoop g ct ce ds p.2 aP
section
variable{K:FG}{F H:Hp}{Z:St}
theorem EX:∀{cap:List Nat} {Q0:Gm} {C:List ao},ai K F H Z Q0 C->∃B C',ai K F H (cap.map λi=>(Z[i]?).join) (cN cap Q0).1 B/\ai K F H Z (cN cap Q0).2 C'/\a_ (B++C') C
 |[],Q0,C,h=>⟨[],C,.nil,h,a_.refl _⟩
 |i::cap,Q0,C,h=>by
  cases q:Q0[i]? with
  |none=>
   obtain⟨C1,g1,g2⟩:=ai.forget i h;obtain⟨B,C',j1,j2,j3⟩:=EX (cap:=cap) g1;refine⟨B,C',?_,j2,j3.trans (.bS g2)⟩;unfold cN;simp only[q,cY];exact .skip j1
  |some z=>
   cases z with
   |none=>
    obtain⟨C1,g1,g2⟩:=ai.forget i h;obtain⟨B,C',j1,j2,j3⟩:=EX (cap:=cap) g1;refine⟨B,C',?_,j2,j3.trans (.bS g2)⟩;unfold cN;simp only[q,cY];exact .skip j1
   |some o=>
    obtain⟨v,Ai,C1,g1,g2,g3,g4⟩:=h.take q;obtain⟨B,C',j1,j2,j3⟩:=EX (cap:=cap) g3;refine⟨Ai++B,C',?_,j2,?_⟩
    .unfold cN;simp only[q,cY,g1];exact g2.app j1
    .rw[iN];exact((a_.refl Ai).app j3).trans (.cq g4.symm)
theorem PB:∀{cap:List Nat} {τ:St} {lj Q0:Gm} {B C:List ao},ai K F H τ lj B->ai K F H Z Q0 C->τ=(cap.map λi=>(Z[i]?).join)->∃D,ai K F H Z (t7 cap lj Q0) D/\a_ D (B++C)
 |[],_,lj,Q0,B,C,h1,h2,e=>by
  subst e;cases h1;exact⟨C,h2,.bS (pK _ _)⟩
 |i::cap,τ,[],Q0,B,C,h1,h2,e=>by subst e;have:=h1.length;simp at this
 |i::cap,τ,x::lj,Q0,B,C,h1,h2,e=>by
  subst e;obtain⟨B1,B2,g1,g2,rfl⟩:=ai.one h1;obtain⟨D,j1,j2⟩:=PB (cap:=cap) g2 h2 rfl;have s1:a_ D ((B1++B2)++C):=j2.trans (by rw[iN];exact .bS (pK _ _))
  cases x with
  |none=>
   obtain⟨D',k1,k2⟩:=ai.forget i j1;exact⟨D',k1,(a_.bS k2).trans s1⟩
  |some o=>
   have g1:ai K F H [(Z[i]?).join] [some o] B1:=g1;cases q:Z[i]? with
   |none=>rw[q] at g1;cases g1
   |some z=>
    cases z with
    |none=>rw[q] at g1;cases g1
    |some v=>
     rw[q] at g1;have hi:i<(t7 cap lj Q0).length:=by rw[<-j1.length];exact(iA.mp q).1
     obtain⟨D',k1,C',k2,k3⟩:=ai.put (show ai K F H [some v] [some o] B1 from g1) i j1 hi;rw[xc q] at k1;refine⟨D',k1,(a_.cq k2).trans ?_⟩;rw[iN];exact(a_.refl B1).app ((a_.bS k3).trans j2)
end
noncomputable def nO(k:Nat)(cap:List Nat):List Bool:=List.replicate k false++List.replicate cap.length true
def jY(src:Gm->ak (List D×Gm))(g:GG)(ct:GT)(ce:GE)(k:Nat)(cap:List Nat):GE:=λQ0=>(src Q0).bind λp=>
 (compLoop g ct ce p.1 (List.replicate k none++(cN cap p.2).1) []).bind λq=>if q.2.length=k+cap.length then some (.own (.lst q.1),t7 cap (q.2.drop k) (cN cap p.2).2) else none
section
variable{K:FG}
structure zX (K:FG) (m:List Bool) (g:GG) (ct:GT) (ce:GE) (ds:List D) (fin:List O×Gm) (F1 H1:Hp) (C:List ao) (τ₀:St) (i:Nat) (τ:St) (aP:List V) (H:Hp):Prop where
 ex:∃F A qO iq,OK K F H (aP.map some++τ) (iq.map some++qO) A/\Ext F1 H1 C F H A/\compLoop g ct ce (ds.drop i) qO iq=some fin/\aP.length=iq.length/\Kept m τ₀ τ
def UM{m:List Bool}{t:TG}{g:GG}{ct:GT}{ce:GE}(tg:gA K m t g){ds:List D}{fin:List O×Gm}{F1 H1:Hp}{C:List ao}{τ₀:St}{i:Nat}{τ:St}{aP:List V}{H:Hp}{x:V}{d:D}(p:zX K m g ct ce ds fin F1 H1 C τ₀ i τ aP H)
  (ed:ds.drop i=d::ds.drop (i+1)) (rx:∀F,aO F1 F->ax K F [x] [d]) :
  t x τ H λτ2 H2=>iI K ct τ2 H2 λb H3=>if b=true then tG K ce τ2 H3 λv H4=>aP.length<sizeLine/\zX K m g ct ce ds fin F1 H1 C τ₀ (i+1) τ2 (aP++[v]) H4 else zX K m g ct ce ds fin F1 H1 C τ₀ (i+1) τ2 aP H3:=by
 obtain⟨F,A,qO,iq,k,x0,e,hl,kp⟩:=p.ex;rw[ed] at e;unfold compLoop at e;cases q1:g d qO with
 |none=>rw[q1] at e;cases e
 |some aJ=>
  rw[q1] at e;dsimp only[Option.bind] at e;cases q2:ct aJ with
  |none=>rw[q2] at e;cases e
  |some pb=>
   obtain⟨b,cD⟩:=pb;rw[q2] at e;dsimp only at e;have hle:(aP.map some).length=(iq.map some).length:=by simp[hl]
   obtain⟨C1,k1,fr1⟩:=k.frame hle;refine tg F H τ qO aJ C1 x d _ k1 (rx F x0.ff) q1 λτ2 A2 k2 x2 wy=>?_
   obtain⟨A3,x3,k3⟩:=fr1 _ _ _ _ _ x2 k2;obtain⟨C4,k4,fr4⟩:=k3.frame hle;refine⟨F,C4,aJ,b,cD,k4,q2,λH3 pp=>?_⟩
   obtain⟨F5,A5,x5,k5,_⟩:=pp;obtain⟨A6,x6,k6⟩:=fr4 _ _ _ _ _ x5 k5;cases b with
   |false=>exact qC ⟨F5,A6,cD,iq,k6,x0.trans (x3.trans x6),e,hl,kp.trans wy⟩
   |true=>
    have e:((ce cD).bind λq=>(gK [q.1]).bind λos=>if iq.length<1000000 then compLoop g ct ce (ds.drop (i+1)) q.2 (iq++os) else none)=some fin:=e
    cases q3:ce cD with
    |none=>rw[q3] at e;cases e
    |some pr=>
     obtain⟨r,pO⟩:=pr;rw[q3] at e;dsimp only[Option.bind] at e;cases q4:gK [r] with
     |none=>rw[q4] at e;cases e
     |some os=>
      rw[q4] at e;dsimp only at e;split at e
      .rename_i hz
       obtain⟨C7,k7,Kw⟩:=k6.frame hle;refine qD ⟨F5,C7,cD,r,pO,k7,q3,λv H4 pp=>⟨jq (by lia:aP.length<1000000) (by decide),?_⟩⟩
       obtain⟨F8,A8,x8,k8,_⟩:=pp;rw[uF q4] at k8;obtain⟨A9,x9,k9⟩:=Kw _ _ _ _ _ x8 k8;refine⟨F8,A9,pO,iq++os,?_,x0.trans (x3.trans (x6.trans x9)),e,?_,kp.trans wy⟩
       .rw[jm,jm,iN,iN];exact k9
       .have:=congrArg List.length (uF q4);simp at this;simp[hl,this]
      .cases e
def VN{m:List Bool}{g:GG}{ct:GT}{ce:GE}{ds:List D}{fin:List O×Gm}{F1 H1:Hp}{C:List ao}{τ₀:St}{τ:St}{aP:List V}{H:Hp}(p:zX K m g ct ce ds fin F1 H1 C τ₀ ds.length τ aP H):
  ∃F A,OK K F H (aP.map some++τ) (fin.1.map some++fin.2) A/\Ext F1 H1 C F H A/\aP.length=fin.1.length/\Kept m τ₀ τ:=by
 obtain⟨F,A,qO,iq,k,x0,e,hl,kp⟩:=p.ex;rw[Mx (cX _)] at e;cases e;exact⟨F,A,k,x0,hl,kp⟩
theorem NR:∀{cap:List Nat} {Q0:Gm} {j:Nat},j∉cap->(cN cap Q0).2[j]?=Q0[j]?
 |[],Q0,j,_=>rfl
 |i::cap,Q0,j,h=>by
  unfold cN;dsimp only;rw[NR (λz=>h (qK _ z)),Ds (λz=>h (by rw[z];exact qJ))]
def VO{F H:Hp}{Z:St}{Q0:Gm}{A:List ao}{j:Nat}{ps:List O}{a:ao}(h:ai K F H Z Q0 A)(xS:Q0[j]?=some (some (.lst ps)))(hZ:Z[j]?=some (some (.ref a))):a∈A:=by
 obtain⟨v,Ai,B,g1,g2,_,g4⟩:=h.take xS;rw[hZ] at g1;cases g1;cases g2 with
 |lst _ _ _=>exact g4.mem_iff.mpr (by simp)
def T1{k:Nat}{cap:List Nat}{F H:Hp}{Z:St}{Q0:Gm}{A:List ao}(ok:OK K F H Z Q0 A):∃C,OK K F H (iU k cap Z) (List.replicate k none++(cN cap Q0).1) C/\
  (∀j ps a,j∉cap->Q0[j]?=some (some (.lst ps))->Z[j]?=some (some (.ref a))->a∉C)/\
  ∀F' H' τ' iq aP lj A',Ext F H C F' H' A'->OK K F' H' (aP.map some++τ') (iq.map some++lj) A'->aP.length=iq.length->Kept (nO k cap) (iU k cap Z) τ'->lj.length=k+cap.length->∀l,H' l=none->
   ∃qj,Ext F H A F' (upd H' l (.lst aP)) qj/\OK K F' (upd H' l (.lst aP)) (some (.ref l)::Z) (some (.lst iq)::t7 cap (lj.drop k) (cN cap Q0).2) qj:=by
 obtain⟨B,C',h1,h2,h3⟩:=EX (cap:=cap) ok.os;have k0:ai K F H (iU k cap Z++Z) ((List.replicate k none++(cN cap Q0).1)++(cN cap Q0).2) (B++C'):=by
  have:=(HF (K:=K) (F:=F) (H:=H) k).app h1;exact this.app h2
 obtain⟨k1,x1⟩:=ok.sub k0 h3;have hl0:(iU k cap Z).length=(List.replicate k (none:ak O)++(cN cap Q0).1).length:=by
  have:=h1.length;unfold iU;simp at this ⊢;lia
 obtain⟨A1,p1,k2⟩:=k1.swap hl0;have k2':=k2;obtain⟨D0,C,hd0,hd1,hd2⟩:=ai.split h2.length k2.os;have nn:∀a∈D0,a∉C:=λa m z=>(lh.mp (hd2 ▸ k2.nd)).2.2 a m a z rfl
 obtain⟨k3,fr⟩:OK K F H (iU k cap Z) (List.replicate k none++(cN cap Q0).1) C/\∀F' H' Z' aw A',Ext F H C F' H' A'->OK K F' H' Z' aw A'->∃qj,Ext F H A1 F' H' qj/\OK K F' H' (Z++Z') ((cN cap Q0).2++aw) qj:=by
  subst hd2;exact k2.p7 hd0 hd1
 refine⟨C,k3,λj ps a hj KP hZj=>nn a (VO hd0 (by rw[NR hj];exact KP) hZj),λF' H' τ' iq aP lj A' x k' hl kp xS l hn=>?_⟩
 have hQ0l:=k'.os.length;have k5:∃A5,OK K F' (upd H' l (.lst aP)) (some (.ref l)::τ') (some (.lst iq)::lj) A5/\Ext F' H' A' F' (upd H' l (.lst aP)) A5:=by
  obtain⟨B1,C1,g1,g2,g3⟩:=ai.split (by simp[hl]) k'.os
  have nl:∀a∈A',a≠l:=λa m z=>k'.os.there a m (by rw[z];exact hn)
  have Sv:∀a∈A',∀o,H' a=some o->upd H' l (.lst aP) a=some o:=λa m o e=>by rw[dr (nl a m)];exact e
  subst g3;refine⟨l::B1++C1,⟨λa o e=>?_,.lst jG (g1.keep (aO.refl _) λa m=>Sv a (jQ _ m)) (g2.keep (aO.refl _) λa m=>Sv a (ir _ m)),i7.mpr ⟨λm=>nl l m rfl,k'.nd⟩,λa m=>?_⟩,aO.refl _,λa o e _=>?_,Ba,λa h=>.inl h,λa m=>?_⟩
  .have:=k'.le a o e;rw[dr (mH this hn)];exact this
  .rcases eX.mp m with rfl|m
   .exact k'.le.free hn
   .exact k'.fr a m
  .rw[dr (mH e hn)];exact e
  .rcases eX.mp m with rfl|m
   .exact .inr hn
   .exact .inl m
 obtain⟨A5,k5,x5⟩:=k5;obtain⟨A6,x6,k6⟩:=fr _ _ _ _ _ (x.trans x5) k5;obtain⟨D1,D2,g1,g2,g3⟩:=ai.split h2.length k6.os;subst g3;obtain⟨D3,D4,g4,g5,g6⟩:=g2.one;subst g6;have hτ:τ'.length=k+cap.length:=by
  have:=g5.length;lia
 have e1:τ'=τ'.take k++τ'.drop k:=(uk _ _).symm;have e2:lj=lj.take k++lj.drop k:=(uk _ _).symm;have g5':ai K F' (upd H' l (.lst aP)) (τ'.take k++τ'.drop k) (lj.take k++lj.drop k) D4:=by rw[<-e1,<-e2];exact g5
 obtain⟨D5,D6,g7,g8,g9⟩:=ai.split (by rw[qL,qL];lia) g5'
 subst g9;have eτ:τ'.drop k=cap.map λi=>(Z[i]?).join:=by
  apply List.ext_getElem?;intro j;by_cases hj:j<cap.length
  .have hm:(nO k cap)[k+j]?=some true:=by
    unfold nO;rw[G3 (by simp)]
    simp[hj]
   have:=kp (k+j) hm;rw[List.getElem?_drop,this];unfold iU;rw[G3 (by simp)]
   simp
  .rw[List.getElem?_eq_none (by rw[ui];lia),List.getElem?_eq_none (by rw[bO];lia)]
 obtain⟨D7,wd,Kx⟩:=PB g8 g1 eτ;have s1:a_ (D3++D7) (D1++(D3++(D5++D6))):=by
  refine((a_.refl D3).app Kx).trans ?_;refine a_.trans (B:=D3++(D5++D6)++D1) ?_ (.cq qN);rw[iN];refine(a_.refl D3).app ?_;rw[iN];exact .bS (pK _ _)
 obtain⟨k7,x7⟩:=k6.sub (Z':=some (.ref l)::Z) (aw:=some (.lst iq)::t7 cap (lj.drop k) (cN cap Q0).2) (g4.app wd) s1;exact⟨D3++D7,(x1.trans (Ext.lO Ext.refl λa m=>p1.mem_iff.mp m)).trans (x6.trans x7),k7⟩
end
def iX(it:GE):Gm->ak (List D×Gm):=λQ0=>(ay it Q0).bind λp=>match p.1 with
 |.own (.Y (.lst ds))=>some (ds,p.2)
 |_=>none
def mC(fs:GA):Gm->ak (List D×Gm):=λQ0=>(fs Q0).bind λp=>(iW p.1).map λj=>(gq 0 j.toNat,p.2)
def qc(fs:GA):Gm->ak (List D×Gm):=λQ0=>(fs Q0).bind λp=>(lM p.1).map λj=>(gq j.1 (j.2 - j.1).toNat,p.2)
def jT(K:FG)(cap:List Nat)(wi:TI)(src:Gm->ak (List D×Gm)):Prop:=
 ∀(Z:St) (F H:Hp) (A:List ao) (Q0 aJ:Gm) (ds:List D) (R:It->Hp->Prop),OK K F H Z Q0 A->src Q0=some (ds,aJ)->
  (∀J H1 F1 A1,Ext F H A F1 H1 A1->OK K F1 H1 Z aJ A1-> (∀(g:TG) (tt:TT) (te:TE) (τ:St) (Fin:List V->Hp->Prop) (Pv:Nat->St->List V->Hp->Prop),Pv 0 τ [] H1->(∀i τ aP H,Pv i τ aP H->(∃F,aO F1 F/\aO F H)/\∀(j:Nat) ps a o,j∉cap->aJ[j]?=some (some (.lst ps))->Z[j]?=some (some (.ref a))->H1 a=some o->H a=some o)-> (∀i d x τ aP H,ds.drop i=d::ds.drop (i+1)->(∀F,aO F1 F->ax K F [x] [d])->Pv i τ aP H->g x τ H λτ2 H2=>tt τ2 H2 λb H3=>if b=true then te τ2 H3 λv H4=>aP.length<sizeLine/\Pv (i+1) τ2 (aP++[v]) H4 else Pv (i+1) τ2 aP H3)-> (∀τ aP H,Pv ds.length τ aP H->Fin aP H)->lV J g tt te τ H1 Fin)->R J H1)->wi Z H R
section
variable{X:Cx}{K:FG}{fa:GE}{fs:GA}
def PC{α:Type}{l:List α}{i:Nat}{x:α}(h:l[i]?=some x):l.drop i=x::l.drop (i+1):=by
 obtain⟨hi,e⟩:=iA.mp h;rw[DB hi,e]
def tQ{cap:List Nat}:jT K cap (n8 K (tG K (ay fa))) (iX fa):=by
 intro Z F H A Q0 aJ ds R k e w;unfold iX at e;cases q:ay fa Q0 with
 |none=>rw[q] at e;cases e
 |some p=>
  obtain⟨r,cD⟩:=p;rw[q] at e;dsimp only[Option.bind] at e;cases r with
  |var i=>cases e
  |own o=>
   cases o with
   |Y d=>
    cases d with
    |lst es=>
     cases e;refine⟨F,A,Q0,_,_,k,q,λv H1 pp=>?_⟩
     obtain⟨F1,A1,x,k1,_⟩:=pp;obtain⟨B,C,h1,h2,h3⟩:=ai.one (Z:=Z) k1.os;have rp:=rD h1;subst h3;obtain⟨k2,x2⟩:=k1.sub h2 (.bS (pK _ _));cases rp with
     |flat z _=>cases z
     |@lst a ws _ _ _ sq ri _=>
      refine⟨a,rfl,⟨ws,.inl (k1.le.rd sq)⟩,w (wY K a) H1 F1 C (x.trans x2) k2 λg tt te τ Fin Pv h0 hF hs hd=>?_⟩
      have hl:=ri.length;refine Uy (xs:=ws) Pv h0 (λi τ aP H hi p=>?_) (λi x τ aP H hx p=>?_) (λτ aP H p=>hd τ aP H (by rw[<-hl];exact p))
      .obtain⟨⟨F',s1,s2⟩,_⟩:=hF i τ aP H p;exact .inl ((s1.trans s2).rd sq)
      .have hi:i<ds.length:=by
        have:=(iA.mp hx).1;lia
       obtain⟨x2,sr,rx⟩:=ri.get (i:=i) (d:=ds[i]) (by simp[hi])
       rw[hx] at sr;cases sr;exact hs i ds[i] x τ aP H (PC (by simp[hi])) (λF' s=>rx.mono s) p
    |_=>cases e
   |_=>cases e
def QO{cap:List Nat}:jT K cap (wq (kb K fs)) (mC fs):=by
 intro Z F H A Q0 aJ ds R k e w;unfold mC at e;cases q:fs Q0 with
 |none=>rw[q] at e;cases e
 |some p=>
  obtain⟨rs,cD⟩:=p;rw[q] at e;obtain⟨j,e1,e2⟩:=jt.mp e;cases e2;obtain⟨hj,hb⟩:=Ox e1;have hj:rs=_:=hj;subst hj;refine⟨F,A,Q0,_,_,k,q,λvs H1 pp=>?_⟩
  obtain⟨F1,A1,x,k1,hh⟩:=pp
  match vs,hh with
  |[v],_=>
   obtain⟨rfl,h2⟩:=tX (Z:=Z) k1.os;obtain⟨k2,x2⟩:=k1.sub h2 (a_.refl _);refine⟨j,rfl,hb.1,hb.2,w (tM 0 j.toNat) H1 F1 A1 x k2 λg tt te τ Fin Pv h0 hF hs hd=>?_⟩
   refine M7 Pv h0 (λi τ aP H hi p=>?_) (λτ aP H p=>hd τ aP H (by simpa[gq] using p))
   exact hs i (.int (0+(i:Int))) _ τ aP H (by unfold gq;exact MQ _ hi) (λF' s=>.flat rfl .nil) p
def Zf{cap:List Nat}:jT K cap (wt (kb K fs)) (qc fs):=by
 intro Z F H A Q0 aJ ds R k e w;unfold qc at e;cases q:fs Q0 with
 |none=>rw[q] at e;cases e
 |some p=>
  obtain⟨rs,cD⟩:=p;rw[q] at e;obtain⟨jj,e1,e2⟩:=jt.mp e;cases e2;obtain⟨hj,hb⟩:=Oy e1;have hj:rs=_:=hj;subst hj;obtain⟨i0,j⟩:=jj;refine⟨F,A,Q0,_,_,k,q,λvs H1 pp=>?_⟩
  obtain⟨F1,A1,x,k1,hh⟩:=pp
  match vs,hh with
  |[v,v'],_=>
   obtain⟨rfl,h1⟩:=tX (Z:=some v'::Z) k1.os;obtain⟨rfl,h2⟩:=tX (Z:=Z) h1;obtain⟨k2,x2⟩:=k1.sub h2 (a_.refl _);refine⟨i0,j,rfl,hb,w (tM i0 (j - i0).toNat) H1 F1 A1 x k2 λg tt te τ Fin Pv h0 hF hs hd=>?_⟩
   refine M7 Pv h0 (λi τ aP H hi p=>?_) (λτ aP H p=>hd τ aP H (by simpa[gq] using p))
   exact hs i (.int (i0+(i:Int))) _ τ aP H (by unfold gq;exact MQ _ hi) (λF' s=>.flat rfl .nil) p
def qo.mono{ifs:List Expr}{t t':TT}(h:qo X ifs t)(m:∀Z H Q,t' Z H Q->t Z H Q):qo X ifs t':=λaf s Z H Q I q=>h af s Z H Q I (m _ _ _ q)
def gH:GT:=λQ0=>some (true,Q0)
def zc:qo X [] (iI K gH):=vg.mono λZ H Q t=>D8 t
def xk{c:Expr}{ft:GT}(h:PT X c (iI K ft)):qo X [c] (iI K ft):=Xb h
variable{tg elt iter:Expr}{ifs:List Expr}{scope:Scope}{pos:Pos}{M:List Str}{k:Nat}{cap:List Nat}{t:TG}{gg:GG}{ct:GT}{ce:GE}{wi:TI}{src:Gm->ak (List D×Gm)}
def IW(so:jT K cap wi src)(yE:gA K (nO k cap) t gg){Z:St}{H:Hp}{Q:VK}(tt:tG K (jY src gg ct ce k cap) Z H Q):tI wi t (iI K ct) (tG K ce) k cap Z H Q:=by
 obtain⟨F,A,Q0,rr,aw,ok,e,w⟩:=tt;unfold jY at e;cases q1:src Q0 with
 |none=>rw[q1] at e;cases e
 |some p=>
  obtain⟨ds,aJ⟩:=p;rw[q1] at e;dsimp only[Option.bind] at e;cases q2:compLoop gg ct ce ds (List.replicate k none++(cN cap aJ).1) [] with
  |none=>rw[q2] at e;cases e
  |some fin=>
   rw[q2] at e;dsimp only at e;split at e
   .rename_i hlen
    cases e;refine so Z F H A Q0 aJ ds _ ok q1 λJ H1 F1 A1 x1 k1 mk=>?_
    obtain⟨C,kC,nC,back⟩:=T1 (k:=k) (cap:=cap) k1;refine mk t (iI K ct) (tG K ce) (iU k cap Z) _ (zX K (nO k cap) gg ct ce ds fin F1 H1 C (iU k cap Z)) ?_ ?_ ?_ ?_
    .exact⟨F1,C,_,[],kC,Ext.refl,q2,rfl,Kept.refl⟩
    .rintro i τ aP H ⟨F',A',qO,iq,k',x',_⟩;exact⟨⟨F',x'.ff,k'.le⟩,λj ps a o hj h1 h2 h3=>x'.keep a o h3 (nC j ps a hj h1 h2)⟩
    .intro i d x τ aP H ed rx p;exact UM yE p ed rx
    .intro τ aP H p l hn;obtain⟨F',A',k',x',hl,kp⟩:=VN p;obtain⟨qj,x'',k''⟩:=back F' H τ fin.1 aP fin.2 A' x' k' hl kp hlen l hn;exact w _ _ ⟨F',qj,x1.trans x'',k'',jn⟩
   .cases e
def IX(so:jT K cap wi src)(yE:gA K (nO k cap) t gg)(ok:cg X scope M k cap)(hi:PI X tg iter wi)
  (hg:∀C s H fp,PG (iP X scope M C s H fp) tg t) (ht:∀C s H fp,qo (iP X scope M C s H fp) ifs (iI K ct)) (he:∀C s H fp,PE (iP X scope M C s H fp) elt (tG K ce)) (hc:X.calm=true:=by rfl)
  (hs:∀x,foldedSetIterable iter X.env x=pure x:=by intro _;rfl):PE X (.ListComp elt [⟨tg,iter,ifs,0⟩] scope pos) (tG K (jY src gg ct ce k cap)):=
 (Xc hc ok hi hg ht he hs).mono λ_ _ _ t=>IW so yE t
variable{m:List Bool}
def Xv{i:Nat}{x:Str}{px oA:Pos}(so:jT K cap wi src)(yE:gA K (nO k cap) t gg)(ok:cg X scope M k cap)(hN:X.N.Nodup)(xU:X.N[i]?=some x)(hx:Loc X.env.scope x)(hi:PI X tg iter wi)
  (hg:∀C s H fp,PG (iP X scope M C s H fp) tg t) (ht:∀C s H fp,qo (iP X scope M C s H fp) ifs (iI K ct)) (he:∀C s H fp,PE (iP X scope M C s H fp) elt (tG K ce)) (hc:X.calm=true:=by rfl) (hm:(m[i]? == some true)=false:=by rfl)
  (Co:swapsWith (.ListComp elt [⟨tg,iter,ifs,0⟩] scope pos) (some (.Name x px)) oA.line X.env=pure true:=by rfl)
  (hs:∀x,foldedSetIterable iter X.env x=pure x:=by intro _;rfl) (hf:X.fn x=true\/X.env.scope.names.lookup x=some .local := by first|exact .inl rfl|exact .inr rfl) :
  PS X (.Assign [.Name x px] (.ListComp elt [⟨tg,iter,ifs,0⟩] scope pos) oA) (tS K m (aq i (jY src gg ct ce k cap))):=(Pj hc ok hN xU hx hi hg ht he Co hs hf).mono λD Z H tt=>by
 obtain⟨F,A,Q0,fl,aw,k,e,w⟩:=tt;unfold aq at e;cases q:jY src gg ct ce _ cap Q0 with
 |none=>rw[q] at e;cases e
 |some p=>
  obtain⟨r,aJ⟩:=p;rw[q] at e;cases r with
  |var i=>cases e
  |own o=>
   dsimp only[Option.bind] at e;split at e
   .cases e;refine IW so yE ⟨F,A,Q0,_,aJ,k,q,λv H' hh=>?_⟩
    obtain⟨F1,A1,x,k1,_⟩:=hh;obtain⟨B,k2,x2⟩:=OK.store (Z:=Z) (Q0:=aJ) k1 (by assumption)
    exact w _ H' ⟨F1,B,x.trans x2,k2,Kept.set hm⟩
   .cases e
def uG{i:Nat}{x:Str}{px oA:Pos}(so:jT K cap wi src)(yE:gA K (nO k cap) t gg)(ok:cg X scope M k cap)(hN:X.N.Nodup)(xU:X.N[i]?=some x)(hx:Loc X.env.scope x)(hi:PI X tg iter wi)
  (hg:∀C s H fp,PG (iP X scope M C s H fp) tg t) (ht:∀C s H fp,qo (iP X scope M C s H fp) ifs (iI K ct)) (he:∀C s H fp,PE (iP X scope M C s H fp) elt (tG K ce)) (hc:X.calm=true:=by rfl) (hm:(m[i]? == some true)=false:=by rfl)
  (Co:swapsWith (.ListComp elt [⟨tg,iter,ifs,0⟩] scope pos) (some (.Name x px)) oA.line X.env=pure true:=by rfl)
  (hs:∀x,foldedSetIterable iter X.env x=pure x:=by intro _;rfl) (hf:X.fn x=true\/X.env.scope.names.lookup x=some .local := by first|exact .inl rfl|exact .inr rfl) :
  PS X (.Assign [.Name x px] (.ListComp elt [⟨tg,iter,ifs,0⟩] scope pos) oA) (tS K m (aq i (ay (jY src gg ct ce k cap)))):=(Pj hc ok hN xU hx hi hg ht he Co hs hf).mono λD Z H tt=>by
 obtain⟨F,A,Q0,fl,aw,k,e,w⟩:=tt;unfold aq at e;cases q:ay (jY src gg ct ce _ cap) Q0 with
 |none=>rw[q] at e;cases e
 |some p=>
  obtain⟨r,aJ⟩:=p;rw[q] at e;cases r with
  |var i=>cases e
  |own o=>
   dsimp only[Option.bind] at e;split at e
   .cases e;refine IW so yE (QJ ⟨F,A,Q0,_,aJ,k,q,λv H' hh=>?_⟩)
    obtain⟨F1,A1,x,k1,_⟩:=hh;obtain⟨B,k2,x2⟩:=OK.store (Z:=Z) (Q0:=aJ) k1 (by assumption)
    exact w _ H' ⟨F1,B,x.trans x2,k2,Kept.set hm⟩
   .cases e
end
inductive Wk (K:FG) (H:Hp):V->List Nat->V->Prop
 |nil {x:V}:Wk K H x [] x
 |cons {p:ao} {ws:List V} {j:Nat} {y v:V} {π:List Nat}:(dH K H p ws\/iB K H p ws)->ws[j]?=some y->Wk K H y π v->Wk K H (.ref p) (j::π) v
section
variable{X:Cx}{K:FG}{e:Expr}{i j:Nat}{π:List Nat}{pos p1 p2:Pos}{n:Nat}
end
section
variable{K:FG}{F H:Hp}
inductive Hk (H:Hp) (zs:List ao):V->List Nat->V->Prop
 |nil {x:V}:Hk H zs x [] x
 |cons {p:ao} {ws:List V} {j:Nat} {y v:V} {π:List Nat}:(H p=some (.lst ws)\/H p=some (.tup ws))->p∉zs->ws[j]?=some y->Hk H zs y π v->Hk H zs (.ref p) (j::π) v
end
section
variable{X:Cx}{K:FG}{o e:Expr}{es:List Expr}{i:Nat}{π:List Nat}{t:TA}{name:Str}{apos dh:Pos}{id:String}{r:V->List V->Hp->VK->Prop}{g:O->List O->ak (O×O)}{ds:List D}{vs:List V}
end
def ly(M:GM)(fs:GA):GE:=λQ0=>(fs Q0).bind λp=>(gQ p.2 p.1).bind λos=>(M ((O.dl os).map .Y)).bind λr=>match r.1 with
 |.Y d=>(nJ d).bind λ_=>some (.own (.Y d),p.2)
 |_=>none
section
variable{K:FG}
def VQ{F H:Hp}(le:aO F H){vs:List V}{os:List O}(h:mG K F H vs os):ax K H vs (O.dl os):=by
 unfold mG at h
 induction h with
 |nil=>exact .nil
 |cons p t ih=>obtain⟨B,h⟩:=p;exact .cons (pS le h) ih
def T2{M:GM}{fs:GA}{Q0 aw:Gm}{r:R}(e:ly M fs Q0=some (r,aw)):∃rs os d fin v,fs Q0=some (rs,aw)/\gQ aw rs=some os/\M ((O.dl os).map .Y)=some (.Y d,fin)/\nJ d=some v/\r=.own (.Y d):=by
 unfold ly at e;cases q1:fs Q0 with
 |none=>rw[q1] at e;cases e
 |some p=>
  rw[q1] at e;dsimp only[Option.bind] at e;cases q2:gQ p.2 p.1 with
  |none=>rw[q2] at e;cases e
  |some os=>
   rw[q2] at e;dsimp only at e;cases q3:M ((O.dl os).map .Y) with
   |none=>rw[q3] at e;cases e
   |some z=>
    obtain⟨o,fin⟩:=z;rw[q3] at e;dsimp only at e;cases o with
    |Y d=>
     dsimp only at e;cases q4:nJ d with
     |none=>rw[q4] at e;cases e
     |some v=>rw[q4] at e;cases e;exact⟨p.1,os,d,fin,v,rfl,q2,q3,q4,rfl⟩
    |_=>cases e
variable{X:Cx}{k n:Nat}{f:ao}{fd:lS}{ps:List Str}{x:Str}{p pos:Pos}{e:Expr}{es:List Expr}{fs:GA}{st:Stmt}{M:GM}
def VR{Z:St}{H:Hp}{Q:VK}(t:tG K (ly M fs) Z H Q)(hn:∀rs Q0 aw,fs Q0=some (rs,aw)->rs.length=n):qh (fT K n M) [] E0 (kb K fs) Z H Q:=by
 obtain⟨F,A,Q0,rr,aw,k,e,w⟩:=t;obtain⟨rs,os,d,fin,v0,e1,e2,e3,e4,rfl⟩:=T2 e;refine⟨F,A,Q0,rs,aw,k,e1,λvs H1 pp=>?_⟩
 show fT K n M (vs++[]) H1 Q E0;rw[lR];obtain⟨F1,le,eW,res⟩:=pp.res e2 w;obtain⟨_,_,_,_,hh⟩:=pp;refine⟨by rw[<-hh.length];exact hn rs Q0 aw e1,H1,[],(O.dl os).map .Y,.Y d,fin,⟨aO.refl _,D9 (VQ le eW),.nil,λ_ m=>by cases m⟩,e3,λv H' pc=>?_⟩
 obtain⟨F5,A5,x5,k5⟩:=pc;have s:aO H1 H':=λa o e=>x5.keep a o e (by simp)
 have ev:v=v0:=by
  obtain⟨B,C,h1,_⟩:=k5.os.one;exact i4 h1 e4
 subst ev;exact res v H' [] s (.Y (.flat e4 .nil) .nil) .nil (λ_ m=>by cases m)
def rE(D:bU X.K X.mg x st f fd ps)(Fn:bQ X.prog X.w X.K X.mg X.base fw k f fd ps (fT K n M))(hr:eH k X.A)(ha:PA X (e::es) (kb K fs))(hn:∀rs Q0 aw,fs Q0=some (rs,aw)->rs.length=n)(hg:Gl X x:=by rfl)(o_:(x == ("__debug__":Str))=false:=by decide)
  (he:starEach (e::es) X.env=(false,eval e X.env)::starEach es X.env:=by rfl) (kl:(backTo pos (starEach es X.env)).any (·.1)=false:=by rfl) :
  PE X (.Call (.Name x p) (e::es) [] pos) (tG K (ly M fs)):=(wD D Fn hr ha hg o_ he kl).mono λ_ _ _ t=>VR t hn
def Xw{P:gv}{w:eZ}{mg:Str->ak au}{base:df}{k:Nat}{f:ao}{fd:lS}{ps:List Str}{M:GM}(F:bQ P w K mg base fw k f fd ps (fT K 1 M))(h:∀ns:List Int,ns.length<=63->∃fin,M [.Y (.fH ns)]=some (.Y (.bl true),fin)):
  bQ P w K mg base fw k f fd ps (λvs H Q _=>∃(a:ao) (ns:List Int),vs=[.ref a]/\dH K H a (ns.map V.int)/\ns.length<=63/\∀H',Q (.bl true) H'):=F.imp λvs H Q E q=>by
 obtain⟨a,ns,rfl,hS,hl,q⟩:=q;obtain⟨fin,e⟩:=h ns hl;refine⟨rfl,H,[],[.Y (.fH ns)],_,fin,⟨aO.refl _,.Y (.fH hS .nil) .nil,.nil,λ_ m=>by cases m⟩,e,λv H' pc=>?_⟩
 obtain⟨F5,A5,x5,k5⟩:=pc;obtain⟨B,C,h1,_⟩:=k5.os.one;cases i4 h1 rfl;exact q H'
end
end L2
namespace L2
open PySem
open Lean Meta in
simproc_decl ag (Option.bind _ _):=λe=>do
 let a:=e.getAppArgs
 unless a.size == 4 do return .continue
 let r0 <-Simp.simp a[2]!
 let r:={ r0 with expr:=(<-instantiateMVars r0.expr).cleanupAnnotations.headBeta}
 let pr <-match r.proof? with
  |none=>pure none
  |some p=>pure (some (<-mkCongrArg (.lam `z (<-inferType a[2]!) (mkApp4 e.getAppFn a[0]! a[1]! (.bvar 0) a[3]!) .default) p))
 if r.expr.isAppOfArity ``Option.some 2 then
  return .visit { expr:=(mkApp a[3]! r.expr.appArg!).headBeta,proof?:=pr}
 if r.expr.isAppOfArity ``Option.none 1 then
  return .done { expr:=mkApp (.const ``Option.none (e.getAppFn.constLevels!.drop 1)) a[1]!,proof?:=pr}
 return .done { expr:=mkApp4 e.getAppFn a[0]! a[1]! r.expr a[3]!,proof?:=pr}
open Lean Meta in
simproc_decl evMap (Option.map _ _):=λe=>do
 let a:=e.getAppArgs
 unless a.size == 4 do return .continue
 let r0 <-Simp.simp a[3]!
 let r:={ r0 with expr:=(<-instantiateMVars r0.expr).cleanupAnnotations.headBeta}
 let pr <-match r.proof? with
  |none=>pure none
  |some p=>pure (some (<-mkCongrArg (.lam `z (<-inferType a[3]!) (mkApp4 e.getAppFn a[0]! a[1]! a[2]! (.bvar 0)) .default) p))
 if r.expr.isAppOfArity ``Option.some 2 then
  return .visit { expr:=mkApp2 (.const ``Option.some (e.getAppFn.constLevels!.drop 1)) a[1]! (mkApp a[2]! r.expr.appArg!).headBeta,proof?:=pr}
 if r.expr.isAppOfArity ``Option.none 1 then
  return .done { expr:=mkApp (.const ``Option.none (e.getAppFn.constLevels!.drop 1)) a[1]!,proof?:=pr}
 return .done { expr:=mkApp4 e.getAppFn a[0]! a[1]! a[2]! r.expr,proof?:=pr}
section
variable(f g h:GS)(fa fb fc:GE)(fs:GA)(ft gt:GT)(lo hi:GO)(Q0:Gm)(i n:Nat)(o:O)(d:D)(ds:List D)(os:List O)(gg:GG)(M:GM)(op:List O->ak O)(mu:O->List O->ak (O×O))(c:List O->O)
theorem cM:aR f g Q0=(f Q0).bind λp=>match p.1 with
 |.nx=>g p.2
 |.bk=>some (.bk,p.2)
 |.ct=>some (.ct,p.2)
 |.rt o=>some (.rt o,p.2):=rfl
def dq:bw Q0=some (.nx,Q0):=rfl
theorem dN:aq i fa Q0=(fa Q0).bind λp=>match p.1 with
 |.own o=>if i<p.2.length then some (.nx,p.2.set i (some o)) else none
 |.var _=>none:=rfl
theorem eS:aW fa Q0=(fa Q0).bind λp=>match p.1 with
 |.own o=>some (.rt o,p.2)
 |.var _=>none:=rfl
def jv:jw fa Q0=(fa Q0).bind λp=>some (.nx,p.2):=rfl
def dg:cw ft f g Q0=(ft Q0).bind λp=>if p.1=true then f p.2 else g p.2:=rfl
theorem qu:fE fa fb fc Q0=(fa Q0).bind λp=>(fb p.2).bind λq=>(fc q.2).bind λr=>match p.1,q.1,r.1 with
 |.own v,.var i,.own y=>match r.2[i]? with
  |some (some o)=>(jC o [v,y]).bind λz=>some (.nx,r.2.set i (some z.1))
  |_=>none
 |_,_,_=>none:=rfl
theorem pU:e8 fa gg f Q0=(ay fa Q0).bind λp=>match p.1 with
 |.own (.Y (.lst ds))=>fK gg f ds p.2
 |_=>none:=rfl
def zy:vF fs gg f Q0=(fs Q0).bind λp=>(iW p.1).bind λj=>fK gg f (gq 0 j.toNat) p.2:=rfl
def e8e:Ie fs gg f Q0=(fs Q0).bind λp=>(lM p.1).bind λj=>fK gg f (gq j.1 (j.2 - j.1).toNat) p.2:=rfl
def bM:gC d Q0=some (.own (.Y d),Q0):=rfl
theorem bc:ae i Q0=match Q0[i]? with
 |some (some (.Y d))=>some (.own (.Y d),Q0)
 |some (some _)=>some (.var i,Q0)
 |_=>none:=rfl
theorem cI:ay fa Q0=(fa Q0).bind λp=>match p.1 with
 |.own o=>some (.own (.Y o.d),p.2)
 |.var i=>match p.2[i]? with
  |some (some o)=>some (.own (.Y o.d),p.2.set i (some (.Y o.d)))
  |_=>none:=rfl
theorem rK:fY fa Q0=(fa Q0).bind λp=>match p.1 with
 |.own o=>some (.own o,p.2)
 |.var i=>match p.2[i]? with
  |some (some o)=>some (.own o,p.2.set i none)
  |_=>none:=rfl
def bq:gN Q0=some ([],Q0):=rfl
def bp:aj fa fs Q0=(fa Q0).bind λp=>(fs p.2).bind λq=>some (p.1::q.1,q.2):=rfl
def bD:gO op fs Q0=(fs Q0).bind λp=>(gQ p.2 p.1).bind λos=>(op os).bind λo=>some (.own o,p.2):=rfl
def fg:bC c fs Q0=(fs Q0).bind λp=>if p.1.length<=1000 then(gK p.1).bind λos=>some (.own (c os),p.2) else none:=rfl
def Ea:zk Q0=some (.own (.aI []),Q0):=rfl
theorem cF:gT fa Q0=(fa Q0).bind λp=>match p.1 with
 |.own (.Y (.bl b))=>some (b,p.2)
 |_=>none:=rfl
def kI:gk fa Q0=(fa Q0).bind λp=>(ka p.2 p.1).bind λo=>(pI o).bind λb=>some (b,p.2):=rfl
def rL:jy ft Q0=(ft Q0).bind λp=>some (!p.1,p.2):=rfl
def mI:i5 ft gt Q0=(ft Q0).bind λp=>if p.1=true then gt p.2 else some (false,p.2):=rfl
def EY:nX ft gt Q0=(ft Q0).bind λp=>if p.1=true then some (true,p.2) else gt p.2:=rfl
def xF:zF ft fa fb Q0=(ft Q0).bind λp=>if p.1=true then fa p.2 else fb p.2:=rfl
def fA:aH M fs Q0=(fs Q0).bind λp=>(oX p.1 p.2).bind λq=>(M q.1).bind λr=>some (.own r.1,qS p.1 r.2 q.2):=rfl
theorem lF:gj mu fa fs Q0=(fa Q0).bind λp=>match p.1 with
 |.var i=>match p.2[i]? with
  |some (some (.lst _))=>(fs p.2).bind λq=>(gK q.1).bind λos=>match q.2[i]? with
   |some (some o)=>(mu o os).bind λz=>some (.own z.2,q.2.set i (some z.1))
   |_=>none
  |_=>none
 |_=>none:=rfl
def Eu:vT Q0=some (none,Q0):=rfl
def Ew:uL fa Q0=(fa Q0).bind λp=>(u6 p.1).map λi=>(some i,p.2):=rfl
def Eb:t6 fa lo hi Q0=(fa Q0).bind λp=>(lo p.2).bind λq=>(hi q.2).bind λr=>(ka r.2 p.1).bind λo=>(vi o q.1 r.1).bind λo'=>some (.own o',r.2):=rfl
def mY(src:Gm->ak (List D×Gm))(k:Nat)(cap:List Nat):jY src gg ft fa k cap Q0=(src Q0).bind λp=>
 (compLoop gg ft fa p.1 (List.replicate k none++(cN cap p.2).1) []).bind λq=>if q.2.length=k+cap.length then some (.own (.lst q.1),t7 cap (q.2.drop k) (cN cap p.2).2) else none:=rfl
theorem qT:iX fa Q0=(ay fa Q0).bind λp=>match p.1 with
 |.own (.Y (.lst ds))=>some (ds,p.2)
 |_=>none:=rfl
def OC:mC fs Q0=(fs Q0).bind λp=>(iW p.1).map λj=>(gq 0 j.toNat,p.2):=rfl
def Im:qc fs Q0=(fs Q0).bind λp=>(lM p.1).map λj=>(gq j.1 (j.2 - j.1).toNat,p.2):=rfl
def xw:gH Q0=some (true,Q0):=rfl
def fU:bu i d Q0=if i<Q0.length then some (Q0.set i (some (.Y d))) else none:=rfl
def Bc(gs:List GG):fZ gs (.tup ds) Q0=iG gs ds Q0:=rfl
def AV:iG [] [] Q0=some Q0:=rfl
def AW(gs:List GG):iG (gg::gs) (d::ds) Q0=(gg d Q0).bind λaJ=>iG gs ds aJ:=rfl
def gD(m:List Bool):runM n m f os=(f (os.map some++List.replicate (n - os.length) none)).bind λp=>p.1.val.bind λo=>if p.2.length=n then some (o,ic m (p.2.take os.length)) else none:=rfl
def VS:fK gg f [] Q0=some (.nx,Q0):=rfl
theorem yZ:fK gg f (d::ds) Q0=(gg d Q0).bind λaJ=>(f aJ).bind λq=>match q.1 with
 |.nx=>fK gg f ds q.2
 |.ct=>fK gg f ds q.2
 |.bk=>some (.nx,q.2)
 |.rt o=>some (.rt o,q.2):=rfl
def QP:compLoop gg ft fa [] Q0 os=some (os,Q0):=rfl
def QQ:compLoop gg ft fa (d::ds) Q0 os=(gg d Q0).bind λaJ=>(ft aJ).bind λp=>if p.1=true then
   (fa p.2).bind λq=>(gK [q.1]).bind λwC=>if os.length<1000000 then compLoop gg ft fa ds q.2 (os++wC) else none
  else compLoop gg ft fa ds p.2 os:=rfl
def NS:vi (.Y (.lst ds)) l u=some (.lst ((cutD ds l u).map .Y)):=rfl
def UN(z:Str):vi (.Y (.str z)) l u=if z.length<=1000000 then some (.Y (.str (Txt.slice z l u))) else none:=rfl
def Jr:de (.Y (.lst ds))=some ds:=rfl
def EZ:de (.lst (ds.map .Y))=some ds:=xf ds
def Br:de (.lst os)=j9 os:=rfl
def Js:j9 []=some []:=rfl
def Jt:j9 (.Y d::os)=(j9 os).bind λds=>some (d::ds):=rfl
def iw(a b:Int):bY [.Y (.int a),.Y (.int b)]=some (.Y (.int (a+b))):=rfl
def Xx(a b:Str):bY [.Y (.str a),.Y (.str b)]=if a.length+b.length<=1000000 then some (.Y (.str (a++b))) else none:=rfl
def Bd(a b:List O):bY [.lst a,.lst b]=(de (.lst a)).bind λxs=>(de (.lst b)).bind λys=>if xs.length+ys.length<=1000000 then some (.lst ((xs++ys).map .Y)) else none:=rfl
def VT(a:List D)(b:List O):bY [.Y (.lst a),.lst b]=(de (.lst b)).bind λys=>if a.length+ys.length<=1000000 then some (.lst ((a++ys).map .Y)) else none:=rfl
def gw(C:Int->Int->Bool)(q:Int->Int->D)(a b:Int):og C q [.Y (.int a),.Y (.int b)]=if C a b=true then some (.Y (q a b)) else none:=rfl
def zd(a b:Int):ie [.Y (.int a),.Y (.int b)]=if(-(2^64)<a/\a<2^64)\/(-(2^64)<b/\b<2^64) then some (.Y (.int (a*b))) else none:=rfl
def Ey(a:Str)(b:Int):ie [.Y (.str a),.Y (.int b)]=if MulOk a b then some (.Y (.str (Txt.mul a b))) else none:=rfl
def QR(a:Int):sP [.Y (.int a)]=some (.Y (.int (-a))):=rfl
def cZ(a:O):bJ [a,.Y d]=dU a d:=rfl
def o7(k:Int):dU (.Y (.lst ds)) (.int k)=(dO ds k).map .Y:=rfl
def kf(k:Int):dU (.Y (.tup ds)) (.int k)=(dO ds k).map .Y:=rfl
def vU(k:Int):dU (.lst os) (.int k)=(dO os k).bind iJ:=rfl
def E1(z:Str)(k:Int):dU (.Y (.str z)) (.int k)=if z.length<=1000000 then(dO z.cps.toList k).map λc=>.Y (.str ⟨#[c]⟩) else none:=rfl
def vH:iJ (.Y d)=some (.Y d):=rfl
def uM(a:O):cK [a]=(u9 a.d).map λn=>.Y (.int n):=rfl
def vM:u9 (.lst ds)=some (ds.length:Int):=rfl
def mJ(a b:O):oEq [a,b]=if cS 40 a.d=true/\cS 40 b.d=true then some (.Y (.bl (bj a.d b.d))) else none:=rfl
def QS(a b:Int):oEq [.Y (.int a),.Y (.int b)]=some (.Y (.bl (a == b))):=by
 unfold oEq;simp[O.d,cS,bj]
def Ju(a:Bool):kT [.Y (.bl a)]=some (.Y (.int (if a then 1 else 0))):=rfl
def Ez(ps:List O)(v:O)(k:Int):jC (.lst ps) [v,.Y (.int k)]=(n_ ps.length k).map λj=>(.lst (ps.set j v),.Y .bF):=rfl
def fy:oX [] Q0=some ([],Q0):=rfl
def fz(rs:List R):oX (.own o::rs) Q0=(oX rs Q0).bind λp=>some (o::p.1,p.2):=rfl
theorem ja(rs:List R):oX (.var i::rs) Q0=match Q0[i]? with
  |some (some o)=>(oX rs (Q0.set i none)).bind λp=>some (o::p.1,p.2)
  |_=>none:=rfl
def fV(fin:Gm):qS [] fin Q0=Q0:=by cases fin <;> rfl
def fW(rs:List R)(x:ak O)(fin:Gm):qS (.own o::rs) (x::fin) Q0=qS rs fin Q0:=rfl
def jH(rs:List R)(x:ak O)(fin:Gm):qS (.var i::rs) (x::fin) Q0=(qS rs fin Q0).set i x:=rfl
def bz:gQ Q0 []=some []:=rfl
def bA(r:R)(rs:List R):gQ Q0 (r::rs)=(ka Q0 r).bind λo=>(gQ Q0 rs).bind λos=>some (o::os):=rfl
def bB:ka Q0 (.own o)=some o:=rfl
def iC:ka Q0 (.var i)=(Q0[i]?).join:=rfl
def d_:gK []=some []:=rfl
def fO(rs:List R):gK (.own o::rs)=(gK rs).bind λos=>some (o::os):=rfl
def EA(k:Int):u6 (.own (.Y (.int k)))=some k:=rfl
def qW(m:List Bool)(x:ak O):ic (true::m) (x::Q0)=x::ic m Q0:=rfl
def gR(m:List Bool)(x:ak O):ic (false::m) (x::Q0)=none::ic m Q0:=rfl
def gE(m:List Bool):ic m []=[]:=by
 cases m with
 |nil=>rfl
 |cons b m=>cases b <;> rfl
def h_:(Fl.rt o).val=some o:=rfl
def J4:Fl.nx.val=some (.Y .bF):=rfl
def oO(b:Bool):pI (.Y (.bl b))=some b:=rfl
def ze:pI (.Y (.lst ds))=some (!ds.isEmpty):=rfl
def bT:(O.Y d).d=d:=rfl
def gG:(O.lst os).d=.lst (O.dl os):=rfl
def jx:(O.tup os).d=.tup (O.dl os):=rfl
def fX:O.dl []=[]:=rfl
def gy:O.dl (o::os)=o.d::O.dl os:=rfl
def rN:O.dl (ds.map .Y)=ds:=jW ds
end
def lE{α:Type}(a:α)(l:List α):dO (a::l) 0=some a:=o5 (j:=0) rfl
def oJ{α:Type}(a b:α)(l:List α):dO (a::b::l) 1=some b:=o5 (j:=1) rfl
def Io{α:Type}(a b c:α)(l:List α):dO (a::b::c::l) 2=some c:=o5 (j:=2) rfl
def y0{α:Type}(a b c d:α)(l:List α):dO (a::b::c::d::l) 3=some d:=o5 (j:=3) rfl
def Ip{α:Type}(a b c d e:α)(l:List α):dO (a::b::c::d::e::l) 4=some e:=o5 (j:=4) rfl
def UO(ns:List Int)(l u:ak Int):vi (.Y (.fH ns)) l u=some (.lst ((cutD (ns.map D.int) l u).map .Y)):=rfl
def nF(Q0:Gm):cN [] Q0=([],Q0):=rfl
def oY(i:Nat)(cap:List Nat)(Q0:Gm):cN (i::cap) Q0=((Q0[i]?).join::(cN cap (Q0.set i none)).1,(cN cap (Q0.set i none)).2):=rfl
def nH(x Q0:Gm):t7 [] x Q0=Q0:=by cases x <;> rfl
def oZ(i:Nat)(cap:List Nat)(x:ak O)(lj Q0:Gm):t7 (i::cap) (x::lj) Q0=(t7 cap lj Q0).set i x:=rfl
theorem qq(M:GM)(fs:GA)(Q0:Gm):ly M fs Q0=(fs Q0).bind λp=>(gQ p.2 p.1).bind λos=>(M ((O.dl os).map .Y)).bind λr=>match r.1 with
 |.Y d=>(nJ d).bind λ_=>some (.own (.Y d),p.2)
 |_=>none:=rfl
def vN(a:Int):nJ (.int a)=some (.int a):=rfl
def Xy(a:Str):nJ (.str a)=some (.str a):=rfl
def PD(a:Bool):nJ (.bl a)=some (.bl a):=rfl
def PF:nJ .bF=some .bF:=rfl
def mZ(n:Nat)(a:Int):cS n (.int a)=true:=by cases n <;> rfl
def qt(n:Nat)(a:Str):cS n (.str a)=true:=by cases n <;> rfl
def oQ(a b:Int):bj (.int a) (.int b)=(a == b):=by unfold bj;rfl
def Bs(a b:Str):bj (.str a) (.str b)=(a == b):=by unfold bj;rfl
end L2
namespace L2
open PySem PySem.Spec PyProof.Rows
section
variable{X:Cx}{af:List (ao×Obj)}{s:aE}{Z:St}{H:Hp}
def Zg(I:Inv X af Z H s){n m:Nat}{A:eY}{x y:V}{u v:au}{d e:D}(rd:ax X.K H [x] [d])(re:ax X.K H [y] [e])(od:cS n d=true)(oe:cS m e=true)(ru:RelV x u)(rv:RelV y v)(hu:A.units+n<cLine):SeqAt.RcNeAt A s u v (!bj d e):=by
 have dM:A.units<cLine:=by lia
 have s1:=EV I rd ru od;have s2:=EV I re rv oe;cases s1 with
 |none=>
  cases s2 with
  |none=>
   simp only[bj];exact SeqAt.RcNeAt.none_none
  |bool a2=>
   simp only[bj];exact SeqAt.RcNeAt.none_bool a2
  |int a2 t2=>
   simp only[bj];exact SeqAt.RcNeAt.none_int a2 t2
  |str a2 t2=>
   simp only[bj];exact SeqAt.RcNeAt.none_str a2 t2
  |list l2 v2 r2=>
   simp only[bj];exact SeqAt.RcNeAt.none_list l2 dM
  |tuple l2 v2 r2=>
   simp only[bj];exact SeqAt.RcNeAt.none_tuple l2 dM
 |bool a1=>
  cases s2 with
  |none=>
   simp only[bj];exact SeqAt.RcNeAt.bool_none a1
  |bool a2=>
   simp only[bj];exact SeqAt.RcNeAt.bool_bool a1 a2
  |int a2 t2=>
   simp only[bj];exact SeqAt.RcNeAt.bool_int a1 a2 t2
  |str a2 t2=>
   simp only[bj];exact SeqAt.RcNeAt.bool_str a1 a2 t2
  |list l2 v2 r2=>
   simp only[bj];exact SeqAt.RcNeAt.bool_list a1 l2 dM
  |tuple l2 v2 r2=>
   simp only[bj];exact SeqAt.RcNeAt.bool_tuple a1 l2 dM
 |int a1 t1=>
  cases s2 with
  |none=>
   simp only[bj];exact SeqAt.RcNeAt.int_none a1 t1
  |bool a2=>
   simp only[bj];exact SeqAt.RcNeAt.int_bool a1 t1 a2
  |int a2 t2=>
   simp only[bj];exact SeqAt.RcNeAt.int_int a1 t1 a2 t2
  |str a2 t2=>
   simp only[bj];exact SeqAt.RcNeAt.int_str a1 t1 a2 t2
  |list l2 v2 r2=>
   simp only[bj];exact SeqAt.RcNeAt.int_list a1 t1 l2 dM
  |tuple l2 v2 r2=>
   simp only[bj];exact SeqAt.RcNeAt.int_tuple a1 t1 l2 dM
 |str a1 t1=>
  cases s2 with
  |none=>
   simp only[bj];exact SeqAt.RcNeAt.str_none a1 t1
  |bool a2=>
   simp only[bj];exact SeqAt.RcNeAt.str_bool a1 t1 a2
  |int a2 t2=>
   simp only[bj];exact SeqAt.RcNeAt.str_int a1 t1 a2 t2
  |str a2 t2=>
   simp only[bj];exact SeqAt.RcNeAt.str_str a1 t1 a2 t2
  |list l2 v2 r2=>
   simp only[bj];exact SeqAt.RcNeAt.str_list a1 t1 l2 dM
  |tuple l2 v2 r2=>
   simp only[bj];exact SeqAt.RcNeAt.str_tuple a1 t1 l2 dM
 |list l1 v1 r1=>
  cases s2 with
  |none=>
   simp only[bj];exact SeqAt.RcNeAt.list_none l1 dM
  |bool a2=>
   simp only[bj];exact SeqAt.RcNeAt.list_bool a2 l1 dM
  |int a2 t2=>
   simp only[bj];exact SeqAt.RcNeAt.list_int a2 t2 l1 dM
  |str a2 t2=>
   simp only[bj];exact SeqAt.RcNeAt.list_str a2 t2 l1 dM
  |list l2 v2 r2=>
   rename_i a aA ws es b kQ Dr lW
   obtain⟨n',rfl,sQ⟩:=y8 od;obtain⟨m',rfl,sR⟩:=y8 oe;have la:=v1.length;have lb:=v2.length;have LD:=r1.length;have LG:=r2.length;simp only[bj];by_cases hl:es.length=lW.length
   .rw[AU aA.toArray.size (by simp only[gu];lia) (by simp only[gu];lia)]
    refine SeqAt.RcNeAt.lists (A:=A) l1 l2 (by simp only[gu];lia) dM λj h1 h2=>?_
    obtain⟨x1,q1,q2,q3⟩:=vR r1 v1 h1;obtain⟨y1,p1,p2,p3⟩:=vR r2 v2 h2;exact(Bo I n' m' q2 p2 (vG sQ q3) (vG sR p3) q1 p1 (by show A.units+1+n'<cLine;lia)).1
   .rw[AS hl];exact SeqAt.RcNeAt.lists_lengths (A:=A) l1 l2 (by simp only[gu,bne_iff_ne,ne_eq];lia) dM
  |tuple l2 v2 r2=>
   simp only[bj];exact SeqAt.RcNeAt.list_tuple l1 l2 dM
 |tuple l1 v1 r1=>
  cases s2 with
  |none=>
   simp only[bj];exact SeqAt.RcNeAt.tuple_none l1 dM
  |bool a2=>
   simp only[bj];exact SeqAt.RcNeAt.tuple_bool a2 l1 dM
  |int a2 t2=>
   simp only[bj];exact SeqAt.RcNeAt.tuple_int a2 t2 l1 dM
  |str a2 t2=>
   simp only[bj];exact SeqAt.RcNeAt.tuple_str a2 t2 l1 dM
  |list l2 v2 r2=>
   simp only[bj];exact SeqAt.RcNeAt.tuple_list l1 l2 dM
  |tuple l2 v2 r2=>
   rename_i a aA ws es b kQ Dr lW
   obtain⟨n',rfl,sQ⟩:=y9 od;obtain⟨m',rfl,sR⟩:=y9 oe;have la:=v1.length;have lb:=v2.length;have LD:=r1.length;have LG:=r2.length;have z:=SeqAt.RcNeAt.tuples (A:=A) (e:=λj=>bj (es.getD j .bF) (lW.getD j .bF)) l1 l2 dM λj h1 h2=>by
    obtain⟨x1,q1,q2,q3⟩:=vR r1 v1 h1;obtain⟨y1,p1,p2,p3⟩:=vR r2 v2 h2;exact(Bo I n' m' q2 p2 (vG sQ q3) (vG sR p3) q1 p1 (by show A.units+1+n'<cLine;lia)).1
   simp only[bj];by_cases hl:es.length=lW.length
   .rw[AU aA.toArray.size (by simp only[gu];lia) (by simp only[gu];lia)]
    have e1:kQ.toArray.size=aA.toArray.size:=by simp only[gu];lia
    rw[e1,MA,lU,G8] at z;exact z
   .rw[AS hl];have e1:(aA.toArray.size == kQ.toArray.size)=false:=by rw[oI];simp only[gu];lia
    rw[e1,G7] at z;exact z
end
section
variable{X:Cx}{K:FG}
def CV(K:FG):R2:=λx y H Q=>∃d e,ax K H [x] [d]/\ax K H [y] [e]/\cS 40 d=true/\cS 40 e=true/\Q (.bl (!bj d e)) H
def xx(K:FG)(hu:X.A.units+40<cLine)(hK:X.K=K:=by rfl):hX X (compareOp .NotEq) (CV K):=by
 subst hK;intro af s Z H x y v u Q I rx ry h;obtain⟨d,e,r1,r2,o1,o2,q⟩:=h;exact(Zg I r1 r2 o1 o2 rx ry hu) X.prog X.w _ _ ⟨.bl _,H,I,rfl,q⟩
def gp:List O->ak O
 |[a,b]=>if cS 40 a.d=true/\cS 40 b.d=true then some (.Y (.bl (!bj a.d b.d))) else none
 |_=>none
def xy:cO K (nk (CV K)) gp:=by
 intro F H vs os o Q le eW e res;unfold gp at e;split at e
 .split at e
  .cases e;obtain⟨x,y,B,C,rfl,h1,h2⟩:=eW.two
   rename_i hh
   exact⟨_,_,rfl,_,_,pS le h1,pS le h2,hh.1,hh.2,res.flat rfl⟩
  .cases e
 .cases e
end
end L2
namespace L2
open PySem
variable{g:GG}{ct:GT}{ce:GE}
noncomputable def rF(g:GG)(ct:GT)(ce:GE)(d:D)(Q0:Gm):ak (ak R×Gm):=(g d Q0).bind λaJ=>(ct aJ).bind λp=>if p.1=true then(ce p.2).bind λq=>some (some q.1,q.2) else some (none,p.2)
theorem NT{d:D}{ds:List D}{Q0 aw:Gm}{os:List O}{r:ak R}(h:rF g ct ce d Q0=some (r,aw)):
  compLoop g ct ce (d::ds) Q0 os=match r with
   |some r=>(gK [r]).bind λwC=>if os.length<1000000 then compLoop g ct ce ds aw (os++wC) else none
   |none=>compLoop g ct ce ds aw os:=by
 rw[QQ];unfold rF at h;cases e1:g d Q0 with
 |none=>rw[e1] at h;cases h
 |some aJ=>
  rw[e1] at h;rw[Option.bind_some] at h ⊢;cases e2:ct aJ with
  |none=>rw[e2] at h;cases h
  |some p=>
   rw[e2] at h;rw[Option.bind_some] at h ⊢;by_cases hp:p.1=true
   .rw[aY hp] at h ⊢;cases e3:ce p.2 with
    |none=>rw[e3] at h;cases h
    |some q=>rw[e3] at h;cases h;rfl
   .rw[bb hp] at h ⊢;cases h;rfl
theorem tR{α:Type}{g:GG}{ct:GT}{ce:GE}(St:Gm->Prop)(enc:α->D)(p:α->Bool)(val:α->D):∀(xs:List α) (aP:List D) (Q0:Gm),St Q0->aP.length+xs.length<1000000->
  (∀x∈xs,∀Q0,St Q0->∃aw,rF g ct ce (enc x) Q0=some (if p x=true then some (.own (.Y (val x))) else none,aw)/\St aw)->
  ∃aw,St aw/\compLoop g ct ce (xs.map enc) Q0 (aP.map .Y)=some ((aP++(xs.filter p).map val).map .Y,aw)
 |[],aP,Q0,hS,_,_=>⟨Q0,hS,by rw[mT,QP,List.filter_nil,mT,lR]⟩
 |x::xs,aP,Q0,hS,hl,h=>by
  rw[jl] at hl;obtain⟨aJ,e1,s1⟩:=h x (.head _) Q0 hS;by_cases hp:p x=true
  .rw[aY hp] at e1;rw[cY,NT e1];obtain⟨cD,s2,e2⟩:=tR St enc p val xs (aP++[val x]) aJ s1 (by rw[fe,lC];lia) λy hy=>h y (.tail _ hy)
   refine⟨cD,s2,?_⟩;show(if(aP.map O.Y).length<1000000 then compLoop g ct ce (xs.map enc) aJ (aP.map O.Y++[O.Y (val x)]) else none)=_
   rw[aY (by rw[bO];lia),List.filter_cons_of_pos hp,cY,show aP++val x::(xs.filter p).map val=aP++[val x]++(xs.filter p).map val by simp,<-e2,jm]
   rfl
  .rw[bb hp] at e1;rw[cY,NT e1];obtain⟨cD,s2,e2⟩:=tR St enc p val xs aP aJ s1 (by lia) λy hy=>h y (.tail _ hy)
   refine⟨cD,s2,?_⟩;rw[List.filter_cons_of_neg hp];exact e2
def AX{α:Type}(St:Gm->Prop)(enc:α->D)(val:α->D)(xs:List α)(Q0:Gm)(hS:St Q0)(hl:xs.length<1000000)
  (h:∀x∈xs,∀Q0,St Q0->∃aw,rF g ct ce (enc x) Q0=some (some (.own (.Y (val x))),aw)/\St aw):∃aw,St aw/\compLoop g ct ce (xs.map enc) Q0 []=some ((xs.map val).map .Y,aw):=by
 obtain⟨aw,s,e⟩:=tR St enc (λ_=>true) val xs [] Q0 hS (by rw[rq];lia) λx hx Q0 xS=>h x hx Q0 xS
 refine⟨aw,s,?_⟩;rw[gc,List.filter_eq_self.mpr (λ_ _=>rfl)] at e
 exact e
def qR(g:GG)(ct:GT)(ce:GE)(d:D)(Q0:Gm):rF g ct ce d Q0=(g d Q0).bind λaJ=>(ct aJ).bind λp=>if p.1=true then(ce p.2).bind λq=>some (some q.1,q.2) else some (none,p.2):=rfl
def Jv(a b:O):gp [a,b]=if cS 40 a.d=true/\cS 40 b.d=true then some (.Y (.bl (!bj a.d b.d))) else none:=rfl
def E2(a b:Int):gp [.Y (.int a),.Y (.int b)]=some (.Y (.bl (!(a == b)))):=by
 unfold gp;simp[O.d,cS,bj]
def Zh(a b:Str):gp [.Y (.str a),.Y (.str b)]=some (.Y (.bl (!(a == b)))):=by
 unfold gp;simp[O.d,cS,bj]
def pV(ds:List D)(d:D):oM (.lst (ds.map .Y)) [.Y d]=if ds.length<1000000 then some (.lst ((ds++[d]).map .Y),.Y .bF) else none:=by
 show(if(ds.map O.Y).length<1000000 then _ else _)=_
 rw[bO,jm];rfl
theorem mW{α:Type}{g:GG}{f:GS}(enc:α->D)(P:List α->Gm->Prop):∀(xs pre:List α) (Q0:Gm),P pre Q0->
  (∀q x post Q0,xs=q++x::post->P (pre++q) Q0->∃cD,(g (enc x) Q0).bind f=some (.nx,cD)/\P (pre++q++[x]) cD)->∃aw,fK g f (xs.map enc) Q0=some (.nx,aw)/\P (pre++xs) aw
 |[],pre,Q0,h,_=>⟨Q0,rfl,by rw[lR];exact h⟩
 |x::xs,pre,Q0,h,st=>by
  obtain⟨cD,h2,h3⟩:=st [] x xs Q0 rfl (by rw[lR];exact h)
  rw[lR] at h3;obtain⟨aw,h4,h5⟩:=mW enc P xs (pre++[x]) cD h3 λq y post Q0 e p=>by
   obtain⟨cD,b,c⟩:=st (x::q) y post Q0 (by rw[e];rfl) (by rw[show pre++x::q=pre++[x]++q by simp];exact p)
   exact⟨cD,b,by rw[show pre++[x]++q++[y]=pre++x::q++[y] by simp];exact c⟩
  refine⟨aw,?_,by rw[show pre++x::xs=pre++[x]++xs by simp];exact h5⟩
  rw[cY,yZ];cases q:g (enc x) Q0 with
  |none=>rw[q] at h2;cases h2
  |some aJ=>
   rw[q] at h2;have h2:f aJ=some (.nx,cD):=h2;show(f aJ).bind _=_;rw[h2];exact h4
def Iq{α:Type}{f:GS}(enc:α->D)(P:Gm->Prop)(xs:List α)(Q0:Gm)(h:P Q0)(st:∀x∈xs,∀Q0,P Q0->∃cD,(g (enc x) Q0).bind f=some (.nx,cD)/\P cD):∃aw,fK g f (xs.map enc) Q0=some (.nx,aw)/\P aw:=
 mW enc (λ_ Q0=>P Q0) xs [] Q0 h λq x post Q0 e p=>st x (by rw[e];simp) Q0 p
def tT(lo:Int)(n:Nat):gq lo n=(List.range n).map λ(k:Nat)=>D.int (lo+(k:Int)):=rfl
end L2
namespace L2
open PySem PySem.Spec PyProof.Rows
variable{P:gv}{w:eZ}{K:FG}{tg l ek ev:Expr}{X:Cx}{ta:TA}{p p1 oq:Pos}{a it I:ao}{xs:Array DictEntry}{g:TG}{tb:TS}{Z:St}{H F:Hp}{L A:List ao}{t' x1 n i ep:Nat}{elts:List Expr}{Src:Hp->Prop}{Q0:Gm}{Q:ak au->aE->Prop}{items:Array au}{ob:Obj}{tl:TE}{es:List (TK×V×V)}
def nu(K:FG)(a:ao)(n:Nat):It:=
 ⟨λi H=>i<n/\∃xs,dH K H a xs/\xs.length=n,λi H x H'=>H'=H/\∀xs,dH K H a xs->xs[n - 1 - i]?=some x,λi H=>n<=i⟩
def VU(a it:ao)(n:Nat):Turn P w K tg (nu K a n) [it] it (λi h=>i<=n/\h.IsRevIter it a ((n:Int) - 1 - i)) where
 mem:=by simp
 obj:=λi h st b hb=>by
  have e:b=it:=by simpa using hb
  subst e;obtain⟨_,o,e,c,d⟩:=st;exact⟨o,e,λv z=>by rw[d] at z;cases z⟩
 keep:=λi h h' st k=>⟨st.1,st.2.at λo e=>k it (by simp) o e⟩
 item:=by
  intro X hP hw hK hc i af s Z H E I hf st hg;subst hP hw hK;obtain⟨hi,xs,hq,hx⟩:=hg;obtain⟨aA,rv,p,hz⟩:=I.list hq;have Sq:xs[n - 1 - i]?=some xs[n - 1 - i]:=i8 (by lia)
  obtain⟨u,hu,ru⟩:=rv.get Sq;obtain⟨f0,f1,f2,f3,f4,f5⟩:=hf it (by simp)
  have rj:s.heap.IsRevIter it a (((n - 1 - i:Nat):Int)):=by
   have:=st.2
   rwa[show((n:Int) - 1 - i)=((n - 1 - i:Nat):Int) by lia] at this
  refine wpAny_pyNext_rev_item rj p.isList (x:=u) (by simpa using hu) λh' qe sb=>?_
  have I1:Inv X af Z H { s with heap:=h'}:=I.turned (t':=s.toks) (λb o hb e=>(sb.2 b hb).trans e) f0 f1 f3 f4 f5
  obtain⟨o,e,c,d⟩:=id qe;refine⟨u,rfl,BE (s:={ s with heap:=h'}) e c d (by decide) ⟨_,H,I1,ru,⟨rfl,λys hy=>by rw[I.kR hy hq];exact Sq⟩,⟨by lia,?_⟩,λb hb=>(hf b hb).1⟩⟩
  rw[show((n:Int) - 1 - ((i+1:Nat):Int))=((n - 1 - i:Nat):Int) - 1 by lia]
  exact qe
 done:=by
  intro X hP hw hK hc i af s Z H E I hf st hg;subst hP hw hK;obtain⟨f0,f1,f2,f3,f4,f5⟩:=hf it (by simp)
  have hg:n<=i:=hg;have rj:s.heap.IsRevIter it a (-1):=by
   have:=st.2
   rwa[show((n:Int) - 1 - i) = -1 by have:=st.1;lia] at this
  exact wpAny_pyNext_rev_end (I.ok.hd hc) rj λh' eb=>⟨rfl,I.turned (t':=s.toks) (λb o hb e=>eb b o hb e) f0 f1 f3 f4 f5⟩
 self:=λ_ _ _ _ _ st h=>wpAny_pyIter_revIter st.2 h
def Lj(K:FG)(ta:TA):TI:=λZ H R=>ta Z H λvs H1=>∃a xs,vs=[.ref a]/\dH K H1 a xs/\R (nu K a xs.length) H1
def Zi{pos:Pos}(hg:Gl X "reversed")(hm:X.mg "reversed"=none)(ha:PA X [l] ta)(hs:starEach [l] X.env=[(false,eval l X.env)]:=by rfl):PI X tg (.Call (.Name "reversed" p) [l] [] pos) (Lj X.K ta):=by
 intro af s Z H R I h;refine Call_ (uJ I hg hm boot_reversed (PyProof.Rows.callWith_type1 (cQ (ha pos af s Z H _ I h) λus s1 hh=>?_) hs rfl))
 obtain⟨vs,H1,I1,r1,q1⟩:=hh;obtain⟨a,xs,e,hq,q⟩:=q1;subst e;cases r1 with
 |cons r rr=>
  cases rr;cases r;obtain⟨aA,rv,pl,hz⟩:=I1.list hq;have hl:=rv.length;refine call_reversed_list pl.isList ?_;have st:(s1.heap.push (revObj a ((aA.toArray.size:Int) - 1))).IsRevIter s1.heap.objs.size a ((aA.toArray.size:Int) - 1):=⟨_,oG _ rfl,rfl,rfl⟩;refine wpAny_pyIter_revIter st ?_;refine⟨s1.heap.objs.size,[s1.heap.objs.size],_,_,H1,rfl,I1.kept (t':=s1.toks) λb o e=>jJ _ e,VU a _ xs.length,⟨nq _,?_⟩,λb hb=>?_,q⟩
  .rw[show((xs.length:Int) - 1 - ((0:Nat):Int))=(aA.toArray.size:Int) - 1 by rw[gu,hl];simp]
   exact st
  .have e:b=s1.heap.objs.size:=by simpa using hb
   subst e;exact I1.qy (cX _) (I1.cV.fresh (cX _))
def Xz{xs:List V}{D:Ends}(Pv:Nat->St->Hp->Prop)(h0:Pv 0 Z H)(hl:∀i Z H,i<=xs.length->Pv i Z H->dH K H a xs)
  (hs:∀i x Z H,i<xs.length->xs[xs.length - 1 - i]?=some x->Pv i Z H->g x Z H λZ2 H2=>tb { D with nx:=Pv (i+1),ct:=Pv (i+1),bk:=D.nx} Z2 H2) (hd:∀Z H,Pv xs.length Z H->D.nx Z H) :
  ∃W:Nat->Nat->St->Hp->Prop,(∃m,W 0 m Z H)/\∀i m Z H,W i m Z H->
   ((nu K a xs.length).stop i H/\D.nx Z H)\/((nu K a xs.length).go i H/\∃N:St->Hp->Prop,(∀Z' H',N Z' H'->∃m',m'<m/\W (i+1) m' Z' H')/\∀x H',(nu K a xs.length).vA i H x H'->g x Z H' λZ2 H2=>tb { D with nx:=N,ct:=N,bk:=D.nx} Z2 H2):=by
 refine⟨λi m Z H=>m=xs.length - i/\i<=xs.length/\Pv i Z H,⟨xs.length,by simp,nq _,h0⟩,?_⟩
 rintro i m Z H ⟨rfl,hi,p⟩;have q:=hl i Z H hi p;by_cases g_:i<xs.length
 .refine .inr ⟨⟨g_,xs,q,rfl⟩,Pv (i+1),λZ' H' p'=>⟨xs.length - (i+1),by lia,rfl,g_,p'⟩,λx H' y=>?_⟩
  obtain⟨e,y⟩:=y;subst e;exact hs i x Z _ g_ (y xs q) p
 .exact .inl ⟨by show xs.length<=i;lia,hd Z H (by rw[show xs.length=i by lia];exact p)⟩
section
variable{X:Cx}{K:FG}{fa fk fv:GE}{f:GS}{m:List Bool}{tg l:Expr}{t:TG}{gg:GG}{body:List Stmt}{p0 p1 pos:Pos}
def Jw(fa:GE)(gg:GG)(f:GS):GS:=λQ0=>(ay fa Q0).bind λp=>match p.1 with
 |.own (.Y (.lst ds))=>fK gg f ds.reverse p.2
 |_=>none
def XA(hp:PassesOwn (model X.prog X.w) X.A X.env X.xe)(hm:X.mg "reversed"=none)(hi:PE X l (tG K fa))(hg:PG X tg t)(ht:gA K m t gg)(hb:iu X body (tS K m f))(hc:X.calm=true:=by rfl)(sg:Gl X "reversed":=by rfl)(ra:starEach [l] X.env=(false,eval l X.env)::starEach [] X.env:=by rfl)(xX:starEach [l] X.env=[(false,eval l X.env)]:=by rfl)(hK:X.K=K:=by rfl)(hs:∀x,foldedSetIterable (.Call (.Name "reversed" p0) [l] [] p1) X.env x=pure x:=by intro _;rfl):PS X (.For tg (.Call (.Name "reversed" p0) [l] [] p1) body [] pos) (tS K m (Jw fa gg f)):=by
 subst hK;refine(xr hp hc (Zi sg hm (av (cf hi) aN ra) xX) hg hb hs).mono λD Z H tt=>?_
 obtain⟨F,A,Q0,fl,aw,k,e,w⟩:=tt;obtain⟨ds,aJ,q,e⟩:=Pn (φ:=λds Q0=>fK gg f ds.reverse Q0) e
 refine⟨F,A,Q0,[.own (.Y (.lst ds))],aJ,k,by rw[bp,q];rfl,λvs H1 pp=>?_⟩
 obtain⟨F1,A1,x,k1,hh⟩:=pp;obtain⟨v,rfl⟩:=JZ hh.length;obtain⟨rp,st⟩:=LI.start k1 x w e;obtain⟨a,ws,rfl,sq,ri⟩:=IP rp;refine⟨a,ws,rfl,.inl (k1.le.rd sq),Xz (xs:=ws) (LI X.K m gg f D F1 fl aw ds.reverse) st (λi Z' H' _ p=>.inl (p.same.rd sq)) (λi x' Z' H' g_ hx p=>?_) λZ' H' p=>p.fin (by rw[ME,ri.length];exact cX _)⟩
 have hl:=ri.length;have hi:ds.length - 1 - i<ds.length:=by lia
 obtain⟨x2,sr,rx⟩:=ri.get (i:=ws.length - 1 - i) (d:=ds[ds.length - 1 - i]) (by rw[hl];exact i8 hi)
 rw[hx] at sr;cases sr;exact p.turn ht (by rw[List.getElem?_reverse (by lia)];exact i8 hi) rx
theorem XB(fa:GE)(gg:GG)(f:GS)(Q0:Gm):Jw fa gg f Q0=(ay fa Q0).bind λp=>match p.1 with
 |.own (.Y (.lst ds))=>fK gg f ds.reverse p.2
 |_=>none:=rfl
def jg:List Int->Int
 |[]=>0
 |x::xs=>xs.foldl (λa b=>if b<a then b else a) x
def UP(xs:List Int):∀x:Int,(xs.foldl (λa b=>if b<a then b else a) x<=x/\∀y∈xs,xs.foldl (λa b=>if b<a then b else a) x<=y)/\(xs.foldl (λa b=>if b<a then b else a) x=x\/xs.foldl (λa b=>if b<a then b else a) x∈xs):=by
 induction xs with
 |nil=>intro x;exact⟨⟨vy _,λy m=>by cases m⟩,.inl rfl⟩
 |cons z xs ih=>
  intro x;obtain⟨⟨h1,h2⟩,h3⟩:=ih (if z<x then z else x)
  rw[List.foldl_cons];have hle:(if z<x then z else x)<=x/\(if z<x then z else x)<=z:=by split <;> lia
  refine⟨⟨by lia,λy m=>?_⟩,?_⟩
  .rcases eX.mp m with rfl|m
   .lia
   .exact h2 y m
  .rcases h3 with h3|h3
   .rw[h3];by_cases hz:z<x
    .rw[aY hz];exact .inr (.head _)
    .rw[bb hz];exact .inl rfl
   .exact .inr (.tail _ h3)
def yU{xs:List Int}(h:xs≠[]):jg xs∈xs/\∀y∈xs,jg xs<=y:=by
 cases xs with
 |nil=>exact cu rfl h
 |cons x xs=>
  obtain⟨⟨h1,h2⟩,h3⟩:=UP xs x;refine⟨?_,λy m=>?_⟩
  .rcases h3 with h3|h3
   .show List.foldl _ x xs∈_;rw[h3];exact .head _
   .exact .tail _ h3
  .rcases eX.mp m with rfl|m
   .exact h1
   .exact h2 y m
theorem DM:∀{is:List Int} {aA:List au},Vals (is.map V.int) aA->∃ps:List (Int×Tok),aA=ps.map (λp=>Value.int p.1 p.2)/\ps.map (·.1)=is
 |[],aA,h=>by
  rw[mT] at h;cases h;exact⟨[],rfl,rfl⟩
 |i::is,aA,h=>by
  rw[cY] at h;cases h with
  |cons r t=>
   obtain⟨ps,e1,e2⟩:=DM t;obtain⟨tk,rfl⟩:=r;exact⟨(i,tk)::ps,by rw[e1];rfl,by rw[cY,e2]⟩
def VW(K:FG)(hc:X.calm=true:=by rfl)(hK:X.K=K:=by rfl):c7 X (.builtin "min") (λxs H Q=>∃(a:ao) (is:List Int),xs=[.ref a]/\dH K H a (is.map V.int)/\is≠[]/\Q (.int (jg is)) H):=by
 subst hK;intro af s Z H xs us Q I r h;obtain⟨a,is,rfl,hs,ib,q⟩:=h;obtain⟨u,rfl,ru⟩:=vals1 r;cases ru;obtain⟨aA,rv,p,hz⟩:=I.list hs;obtain⟨ps,e1,e2⟩:=DM rv;subst e1;have hl:0<ps.length:=by
  cases ps with
  |nil=>exact cu e2.symm ib
  |cons _ _=>simp
 have el:(ps.map λp=>Value.int p.1 p.2).toArray=intItems ps.toArray:=by unfold intItems;simp
 have pl:=p.isList;rw[el] at pl;refine min_intList (I.ok.hd hc) pl (by simpa using hl) λv h' tk hv hk=>?_
 obtain⟨b1,b2⟩:=argBest_lt (numAt ps.toArray) (ps.toArray.size - 1);generalize argBest (λi j=>decide (numAt ps.toArray i<numAt ps.toArray j)) (ps.toArray.size - 1)=n at *
 have hn:n<ps.length:=by simp at b1;lia
 have sj:∀j (hj:j<ps.length),numAt ps.toArray j=(ps[j]).1:=λj hj=>by unfold numAt;simp[hj]
 have Li:v=Value.int (ps[n]).1 (ps[n]).2:=by
  unfold intItems at hv;simp[hn] at hv;exact hv.symm
 have hm:jg is=(ps[n]).1:=by
  obtain⟨m1,m2⟩:=yU ib;have i1:(ps[n]).1∈is:=by rw[<-e2];exact zW (f:=(·.1)) (vw hn)
  have c1:=m2 _ i1;rw[<-e2] at m1;obtain⟨pp,Lg,u4⟩:=gz.mp m1;obtain⟨j,hj,ej⟩:=Dx.mp Lg;have c2:=b2 j (by simp;lia)
  rw[sj n hn,sj j hj,ej] at c2;rw[e2] at u4;lia
 rw[Li];exact⟨.int (jg is),H,I.kept (h':=h') (t':=tk) λb o e=>hk b o e,⟨(ps[n]).2,by rw[hm]⟩,q⟩
def jB:List D->ak (List Int)
 |[]=>some []
 |.int i::ds=>(jB ds).map λis=>i::is
 |_=>none
theorem HI:∀is:List Int,jB (is.map .int)=some is
 |[]=>rfl
 |i::is=>by rw[cY];show(jB (is.map .int)).map _=_;rw[HI is];rfl
theorem HJ:∀{ds:List D} {is:List Int},jB ds=some is->ds=is.map .int
 |[],is,e=>by cases e;rfl
 |d::ds,is,e=>by
  cases d with
  |int i=>
   obtain⟨js,e1,e2⟩:=jt.mp (show(jB ds).map _=some is from e);rw[<-e2,HJ e1];rfl
  |_=>cases e
theorem Hq{F:Hp}:∀{ws:List V} {is:List Int},ax K F ws (is.map .int)->ws=is.map .int
 |[],[],_=>rfl
 |[],_::_,h=>by have:=h.length;simp at this
 |_::_,[],h=>by have:=h.length;simp at this
 |w::ws,i::is,h=>by
  rw[cY] at h;have h1:=h.inv.1;have h2:=Hq h.inv.2;rw[h2,cY];cases h1 with
  |flat e _=>cases e;rfl
def sO:List O->ak O
 |[o]=>(de o).bind λds=>(jB ds).bind λis=>if is=[] then none else some (.Y (.int (jg is)))
 |_=>none
def Zj:cO K (λxs H Q=>∃(a:ao) (is:List Int),xs=[.ref a]/\dH K H a (is.map V.int)/\is≠[]/\Q (.int (jg is)) H) sO:=by
 intro F H vs os o Q le eW e res;unfold sO at e;split at e
 .rename_i o'
  obtain⟨ds,e1,e2⟩:=fm.mp e;obtain⟨is,e3,e4⟩:=fm.mp e2;split at e4
  .cases e4
  .rename_i ib
   cases e4;obtain⟨x,B,rfl,h1⟩:=eW.one;obtain⟨a,ws,rfl,sq,ri⟩:=tP le h1 e1;rw[HJ e3] at ri;have:=Hq ri;subst this;exact⟨a,is,rfl,sq,ib,res.flat rfl⟩
 .cases e
def Zk(is:List Int)(h:is≠[]):sO [.Y (.lst (is.map .int))]=some (.Y (.int (jg is))):=by
 show((de (.Y (.lst (is.map .int)))).bind λds=>(jB ds).bind λis=>if is=[] then none else some (O.Y (.int (jg is))))=_
 rw[Jr,Option.bind_some,HI,Option.bind_some,bb h]
def zo(fk fv:GE):GE:=λQ0=>(fk Q0).bind λp=>(fv p.2).bind λq=>match p.1,q.1 with
 |.own (.Y dk),.own (.Y dv)=>(cJ dk).map λk=>(.own (.aI [(k,.Y dv)]),q.2)
 |_,_=>none
theorem OD(fk fv:GE)(Q0:Gm):zo fk fv Q0=(fk Q0).bind λp=>(fv p.2).bind λq=>match p.1,q.1 with
 |.own (.Y dk),.own (.Y dv)=>(cJ dk).map λk=>(.own (.aI [(k,.Y dv)]),q.2)
 |_,_=>none:=rfl
def Zl(K:FG)(tk tv:TE):TE:=λZ H Q=>∀p,H p=none->tk Z (upd H p (.dG [] 0)) λx H1=>tv Z H1 λy H2=>∃k:TK,H2 p=some (.dG [] 0)/\ax K H2 [x] [k.d]/\k.ok 8=true/\Q (.ref p) (upd H2 p (.dG [(k,x,y)] 1))
def OE{tk tv:TE}(hu:X.A.units+41<cLine)(hk:PE X ek tk)(hv:PE X ev tv):PE X (.Dict [some ek] [ev] pos) (Zl X.K tk tv):=by
 intro af s Z H Q I q;have hn:=I.cV.fresh (cX s.heap.objs.size);have I1:=I.laid (a:=s.heap.objs.size) (o:=.dG [] 0) (h':=s.heap.push { cls:=.type "dict",data:=.dict #[]}) (t':=s.toks) (λ_ _ q=>jJ _ q) (cX _) (Ow s.heap I.big)
 rw[arm_eval_Dict,zip_pairTrees [some ek] [ev] X.env pos rfl rfl,dictDisplay_pairs _ (by simp[pairTrees]) (by show 1<17;decide)]
 refine aU (wpAny_standAt (aU ?_));unfold subDict;refine aU (wpAny_alloc (aU (pM ?_)));rw[aY (by show 1<=15;decide)]
 refine aU (pairTrees_cons_walk (cQ (hk af _ Z _ _ I1 (q _ hn)) λu s1 hh=>?_))
 obtain⟨x,H1,S9,rx,q1⟩:=hh;refine cQ (hv af s1 Z H1 _ S9 q1) λw2 s2 hh=>pairTrees_nil_walk ?_
 obtain⟨y,H2,I2,ry,k,e,rk,ok,q2⟩:=hh;refine pM (aU ?_);rw[List.forIn_cons];refine aU (aU (NQ (by lia) I2 ⟨[],0,k,e,.nil,rk,ok,by rw[sizeLine_eq];decide,rfl⟩ rx ry λs' I'=>bW ?_))
 dsimp only;rw[List.forIn_nil];exact bW (bW (bW (bW ⟨.ref _,_,I',rfl,q2⟩)))
def OF(hu:X.A.units+41<cLine)(hk:PE X ek (tG K fk))(hv:PE X ev (tG K fv))(hK:X.K=K:=by rfl):PE X (.Dict [some ek] [ev] pos) (tG K (zo fk fv)):=(OE hu hk hv).mono λZ H Q t=>by
 subst hK;obtain⟨F,A,Q0,rr,aw,k,e,w⟩:=t;unfold zo at e;obtain⟨⟨r1,aJ⟩,e1,e'⟩:=fm.mp e;clear e;obtain⟨⟨r2,cD⟩,e2,e⟩:=fm.mp e';clear e';dsimp only at e2 e;split at e
 .rename_i dk dv
  obtain⟨key,ek,e⟩:=jt.mp e;cases e;intro p hn;have nA:p∉A:=λm=>k.os.there p m hn
  have s:aO H (upd H p (.dG [] 0)):=uE hn;have k0:OK X.K F (upd H p (.dG [] 0)) Z Q0 A:=⟨k.le.trans s,k.os.keep (aO.refl _) λa _ o e=>s a o e,k.nd,k.fr⟩
  refine⟨F,A,Q0,_,aJ,k0,e1,λx H1 pp=>?_⟩
  obtain⟨F1,A1,x1,k1,hh1⟩:=pp;have k1:OK X.K F1 H1 ([some x]++Z) ([some (.Y dk)]++aJ) A1:=k1;obtain⟨C,kC,fr⟩:=k1.frame rfl;refine⟨F1,C,aJ,_,aw,kC,e2,λy H2 pp=>?_⟩
  obtain⟨F2,A2,x2,k2,hh2⟩:=pp;obtain⟨A3,x3,k3⟩:=fr _ _ _ _ _ x2 k2;have k3:OK X.K F2 H2 (some x::some y::Z) (some (.Y dk)::some (.Y dv)::aw) A3:=k3;have oE:=x1.trans x3;have u4:H2 p=some (.dG [] 0):=oE.keep p _ jG nA;obtain⟨B1,C1,o1,o2,q1⟩:=ai.one k3.os;obtain⟨B2,C2,o3,o4,q2⟩:=ai.one o2;have rx:ax X.K F2 [x] [key.d]:=by rw[(nI ek).1];exact rD o1
  have rv:=rD o3;refine⟨key,u4,rx.mono k3.le,(nI ek).2,w (.ref p) _ ?_⟩;have np:∀a∈A3,a≠p:=λa m z=>by
   subst z;rcases oE.own a m with z|z
   .exact nA z
   .rw[jG] at z;cases z
  have kp:∀a∈A3,∀o,H2 a=some o->upd H2 p (.dG [(key,x,y)] 1) a=some o:=λa m o e=>by rw[dr (np a m)];exact e
  subst q2 q1;have jO:∀a∈C2,a∈B1++(B2++C2):=λa m=>ir _ (ir _ m)
  have Au:F2 p=none:=by
   cases eF:F2 p with
   |none=>rfl
   |some o=>
    rcases oE.new p (by rw[eF];exact λz=>by cases z) with z|z|z
    .exact cu (k.le.free hn) z
    .exact cu z nA
    .rw[jG] at z;cases z
  have CF:=k3.nd;rw[lh] at CF;have Sx:=CF.2.1;rw[lh] at Sx;refine⟨F2,p::[]++C2,⟨oE.ff,λa o e n=>?_,λa h=>?_,λa h=>?_,λa m=>?_⟩,⟨λa o e=>?_,?_,?_,?_⟩,jn⟩
  .have:=oE.keep a o (s a o e) n;rw[dr (mH e hn)];exact this
  .by_cases z:a=p
   .rw[z,jG];exact λz=>by cases z
   .rw[dr z];exact oE.rR a (λz'=>h (s.free z'))
  .rcases oE.new a h with z|z|z
   .exact .inl z
   .exact .inr (.inl z)
   .exact .inr (.inr (s.free z))
  .rcases eX.mp m with rfl|m
   .exact .inr hn
   .rcases oE.own a (jO a m) with z|z
    .exact .inl z
    .exact .inr (s.free z)
  .have h1:=k3.le a o e;rw[dr (λz=>by rw[z,Au] at e;cases e)];exact h1
  .exact .aI (A:=[]) (B:=C2) jG rfl rx (.Y rv .nil) (o4.keep (aO.refl _) λa m=>kp a (jO a m))
  .exact i7.mpr ⟨λm=>np p (jO p m) rfl,Sx.2.1⟩
  .intro a m;rcases eX.mp m with rfl|m
   .exact Au
   .exact k3.fr a (jO a m)
 .cases e
end
section
variable{X:Cx}{K:FG}{fo f:GE}{fs:GA}{g:List O->ak O}{r:V->List V->Hp->VK->Prop}{o e:Expr}{es:List Expr}{name:Str}{id:String}{apos dh pos:Pos}
def qb(r:V->List V->Hp->VK->Prop):List V->Hp->VK->Prop:=λvs H Q=>∃x xs,vs=x::xs/\r x xs H Q
noncomputable def kZ:List D->ak (List Str)
 |[]=>some []
 |.str x::ds=>(kZ ds).map λxs=>x::xs
 |_=>none
theorem NU:∀xs:List Str,kZ (xs.map .str)=some xs
 |[]=>rfl
 |i::is=>by rw[cY];show(kZ (is.map .str)).map _=_;rw[NU is];rfl
theorem NV:∀{ds:List D} {xs:List Str},kZ ds=some xs->ds=xs.map .str
 |[],xs,e=>by cases e;rfl
 |d::ds,xs,e=>by
  cases d with
  |str i=>
   obtain⟨js,e1,e2⟩:=jt.mp (show(kZ ds).map _=some xs from e);rw[<-e2,NV e1];rfl
  |_=>cases e
theorem M0{F:Hp}:∀{ws:List V} {xs:List Str},ax K F ws (xs.map .str)->ws=xs.map .str
 |[],[],_=>rfl
 |[],_::_,h=>by have:=h.length;simp at this
 |_::_,[],h=>by have:=h.length;simp at this
 |w::ws,i::is,h=>by
  rw[cY] at h;have h1:=h.inv.1;have h2:=M0 h.inv.2;rw[h2,cY];cases h1 with
  |flat e _=>cases e;rfl
theorem M':∀{xs:List Str} {aA:List au},Vals (xs.map V.str) aA->∃ps:List (Str×Tok),aA=ps.map (λp=>Value.str p.1 p.2)/\ps.map (·.1)=xs
 |[],aA,h=>by
  rw[mT] at h;cases h;exact⟨[],rfl,rfl⟩
 |i::is,aA,h=>by
  rw[cY] at h;cases h with
  |cons r t=>
   obtain⟨ps,e1,e2⟩:=M' t;obtain⟨tk,rfl⟩:=r;exact⟨(i,tk)::ps,by rw[e1];rfl,by rw[cY,e2]⟩
end
section
variable{X:Cx}{af:List (ao×Obj)}{Z:List (ak V)}{H:Hp}{s:aE}{h':df}
def Inv.vo{T:ao}{o:HO}(I:Inv X af Z H s)(k:∀b ob,b∉L->s.heap.get? b=some ob->h'.get? b=some ob)(hL:∀b∈L,j7 X af H b)(hT:s.heap.objs.size<=T)
  (new:cC X.prog X.w (upd H T o) h' T o):Inv X af Z (upd H T o) { s with heap:=h',toks:=t'}:=by
 have hn:H T=none:=I.cV.fresh hT;have nL:∀b u,H b=some u->b∉L:=λb u e z=>by rw[(hL b z).1] at e;cases e
 have nT:∀b u,H b=some u->b≠T:=λb u e z=>by rw[z,hn] at e;cases e
 refine I.step (g':=s.gens) (d':=s.drawn) (ch:=L) (λb hb=>?_) (λb ob _ _ hc e _=>k b ob hc e) (λb ob _ _ hc e _=>⟨ob.slots,k b ob hc e⟩) (λb ob _ e n=>?_)
  (λb ob hc e=>⟨ob,k b ob hc e⟩) (λb xs e=>?_) (λb ob u e=>?_) (λb ps e=>⟨#[],?_⟩) (λm hm=>?_) (λb u e=>?_) I.bare
 .obtain⟨f0,f1,f2,f3,f4,f5⟩:=hL b hb;exact⟨f3,f1,f4,f5⟩
 .rw[dr (λz=>by subst z;exact cu (jq (gb e) hT) (oF _))];exact n
 .rw[dr (nT b _ e)];exact e
 .rw[dr (nT b _ e)];exact e
 .rw[dr (nT b _ e),e];simp
 .obtain⟨ob,es,ep,ho,r⟩:=hm;exact⟨ob,es,ep,k _ ob (λz=>(hL _ z).2.1 rfl) ho,r⟩
 .by_cases hb:b=T
  .subst hb;rw[jG] at e;cases e;exact new
  .rw[dr hb] at e;refine(I.cV b u e).oB (λc v hc q=>k c v ?_ q) (λc q=>by rw[dr (nT c _ q)];exact q) λc xs q=>by rw[dr (nT c _ q)];exact q
   rcases hc with z|z
   .rw[z];exact nL b u e
   .exact nL c _ z
def Inv.Dp(I:Inv X af Z H s)(k:∀b ob,b∉L->s.heap.get? b=some ob->h'.get? b=some ob)(hL:∀b∈L,j7 X af H b):Inv X af Z H { s with heap:=h',toks:=t'}:=by
 have nL:∀b u,H b=some u->b∉L:=λb u e z=>by rw[(hL b z).1] at e;cases e
 refine I.step (g':=s.gens) (d':=s.drawn) (ch:=L) (λb hb=>?_) (λb ob _ _ hc e _=>k b ob hc e) (λb ob _ _ hc e _=>⟨ob.slots,k b ob hc e⟩) (λb ob _ e n=>n)
  (λb ob hc e=>⟨ob,k b ob hc e⟩) (λb xs e=>e) (λb ob u e=>e) (λb ps e=>⟨#[],by rw[e];simp⟩) (λm hm=>?_) (λb u e=>?_) I.bare
 .obtain⟨f0,f1,f2,f3,f4,f5⟩:=hL b hb;exact⟨f3,f1,f4,f5⟩
 .obtain⟨ob,es,ep,ho,r⟩:=hm;exact⟨ob,es,ep,k _ ob (λz=>(hL _ z).2.1 rfl) ho,r⟩
 .refine(I.cV b u e).oB (λc v hc q=>k c v ?_ q) (λc q=>q) λc xs q=>q
  rcases hc with z|z
  .rw[z];exact nL b u e
  .exact nL c _ z
end
def yO(Src:Hp->Prop)(n:Nat)(val:Nat->List V->Prop):It:=
 ⟨λi H=>i<n/\Src H,λi H x H'=>∃p ws,x=.ref p/\H p=none/\val i ws/\H'=upd H p (.tup ws),λi H=>n<=i/\Src H⟩
def UQ{pos:Pos}{FP wr:List ao}{val:Nat->List V->Prop}{tn:Nat->df->Prop}(mem:it∈FP)(sub:∀b∈wr,b∈FP)
  (obj:∀i h,tn i h->∀b∈FP,∃o,h.get? b=some o/\∀v,o.data≠.cell v) (keep:∀i h h',tn i h->(∀b∈FP,∀o,h.get? b=some o->h'.get? b=some o)->tn i h')
  (hW:∀(X:Cx),X.prog=P->X.w=w->X.K=K->X.calm=true->∀(af:List (ao×Obj)) (s:aE) (Z:St) (H:Hp),Inv X af Z H s->Src H->∃(Ku:List ao) (Pt:Nat->Array au->Prop) (St:Nat->df->Prop) (Hi:Nat->ao->df->Prop),WalksT P w X.A it Ku wr n Pt St Hi/\(∀i,tn i s.heap->St i s.heap)/\(∀i h,St i h->tn i h)/\∀i vals,Pt i vals->∃ws,val i ws/\Vals ws vals.toList/\ws.length<=10)
  (self:∀(A:eY) (i:Nat) (s:aE) (Q:au->aE->Prop) (E:au->aE->Prop),tn i s.heap->Q (.ref it) s->wpAny (model P w) A (pyIter (.ref it)) Q E s) :
  Turn P w K (.Tuple elts x1 pos) (yO Src n val) FP it (λi h=>i<=n/\tn i h) where
 mem:=mem
 obj:=λi h st=>obj i h st.2
 keep:=λi h h' st k=>⟨st.1,keep i h h' st.2 k⟩
 item:=by
  intro X hP hw hK hc i af s Z H E I hf st hg;obtain⟨Ku,Pt,St,Hi,W,toSt,CK,pv⟩:=hW X hP hw hK hc af s Z H I hg.2;subst hP hw hK;refine W.item i s _ E hg.1 (toSt i st.2) λT vals h1 tk hPt hsz KS Ca Si=>?_
  refine⟨.ref T,rfl,W.go elts x1 pos i T _ _ E Ca λh2 hSt zL=>?_⟩
  obtain⟨ws,hv,rv,Gy⟩:=pv i vals hPt;have KR:IsTup h2 T vals:=by
   obtain⟨o,e,c⟩:=KS;exact⟨o,zL T o (W.apart i T h1 Ca) e,c⟩
  have hn:H T=none:=I.cV.fresh hsz;have I2:Inv X af Z (upd H T (.tup ws)) { s with heap:=h2,toks:=tk}:=I.vo (L:=wr) (λb ob hb e=>zL b ob hb (Si b ob hb e)) (λb hb=>hf b (sub b hb)) hsz ⟨by rw[sizeLine_eq];lia,vals.toList,rv,by simpa using KR⟩
  refine⟨.ref T,_,I2,rfl,⟨T,ws,rfl,hn,hv,rfl⟩,⟨by have:=hg.1;lia,CK _ _ hSt⟩,λb hb=>?_⟩
  have hb0:=(hf b hb).1;rw[dr]
  .exact hb0
  .intro z;subst z;obtain⟨o,e,_⟩:=obj i s.heap st.2 b hb;exact cu (jq (gb e) hsz) (oF _)
 done:=by
  intro X hP hw hK hc i af s Z H E I hf st hg;obtain⟨Ku,Pt,St,Hi,W,toSt,CK,pv⟩:=hW X hP hw hK hc af s Z H I hg.2;subst hP hw hK;have ei:i=n:=by have:=hg.1;have:=st.1;lia
  subst ei;exact W.done s _ E (toSt i st.2) λh2 tk hk=>⟨rfl,I.Dp (L:=wr) (λb ob hb e=>hk b ob hb e) λb hb=>hf b (sub b hb)⟩
 self:=λA i s Q E st h=>self A i s Q E st.2 h
def VX{val:Nat->List V->Prop}{D:Ends}(Pv:Nat->St->Hp->Prop)(h0:Pv 0 Z H)(hl:∀i Z H,i<=n->Pv i Z H->Src H)
  (hs:∀i p ws Z H,i<n->H p=none->val i ws->Pv i Z H->g (.ref p) Z (upd H p (.tup ws)) λZ2 H2=>tb { D with nx:=Pv (i+1),ct:=Pv (i+1),bk:=D.nx} Z2 H2) (hd:∀Z H,Pv n Z H->D.nx Z H) :
  ∃W:Nat->Nat->St->Hp->Prop,(∃m,W 0 m Z H)/\∀i m Z H,W i m Z H->
   ((yO Src n val).stop i H/\D.nx Z H)\/((yO Src n val).go i H/\∃N:St->Hp->Prop,(∀Z' H',N Z' H'->∃m',m'<m/\W (i+1) m' Z' H')/\∀x H',(yO Src n val).vA i H x H'->g x Z H' λZ2 H2=>tb { D with nx:=N,ct:=N,bk:=D.nx} Z2 H2):=by
 refine⟨λi m Z H=>m=n - i/\i<=n/\Pv i Z H,⟨n,by simp,nq _,h0⟩,?_⟩
 rintro i m Z H ⟨rfl,hi,p⟩;have q:=hl i Z H hi p;by_cases g_:i<n
 .refine .inr ⟨⟨g_,q⟩,Pv (i+1),λZ' H' p'=>⟨n - (i+1),by lia,rfl,g_,p'⟩,λx H' y=>?_⟩
  obtain⟨pp,ws,rfl,hn,hv,rfl⟩:=y;exact hs i pp ws Z H g_ hn hv p
 .have e:i=n:=by lia
  subst e;exact .inl ⟨⟨cX _,q⟩,hd Z H p⟩
def VY{h:df}{l:ao}(p:h.IsListIter a l i):∃o,h.get? a=some o/\∀v,o.data≠.cell v:=by
 obtain⟨o,e,_,d⟩:=p;exact⟨o,e,λv z=>by rw[d] at z;cases z⟩
def Dq(xs:List V)(i:Nat)(ws:List V):Prop:=∃x,xs[i]?=some x/\ws=[.int i,x]
def UR{pos:Pos}{e l:ao}(n1:e≠it)(n2:l≠e)(n3:l≠it)(xs:List V):
  Turn P w K (.Tuple elts x1 pos) (yO (λH=>dH K H l xs) xs.length (Dq xs)) [e,it] e (λi h=>i<=xs.length/\((∃old,IsEnum h e it (i:Int) old)/\h.IsListIter it l i)):=by
 refine UQ (FP:=[e,it]) (wr:=[e,it]) (by simp) (λb hb=>hb) (λi h st b hb=>?_) (λi h h' st k=>?_) (λX hP hw hK hc af s Z H I hS=>?_) (λA i s Q E st h=>?_)
 .obtain⟨⟨old,s1⟩,s2⟩:=st;simp only[eX,List.not_mem_nil,or_false] at hb;rcases hb with rfl|rfl
  .exact⟨_,s1,λv z=>by cases z⟩
  .exact VY s2
 .obtain⟨⟨old,s1⟩,s2⟩:=st;exact⟨⟨old,k e (by simp) _ s1⟩,s2.at λo q=>k it (by simp) o q⟩
 .subst hP hw hK;obtain⟨u7,L0,p1,_⟩:=I.list hS;have e1:=L0.length;have W:=WalksT.enumerate (prog:=X.prog) (w:=X.w) (A:=X.A) (I.ok.hd hc) e it l n1 n2 n3 u7.toArray;rw[show u7.toArray.size=xs.length by rw[gu,<-e1]] at W
  refine⟨_,_,_,_,W,λi st=>?_,λi h st=>?_,λi vals hp=>?_⟩
  .exact⟨st.1,st.2,p1.isList⟩
  .exact⟨st.1,st.2.1⟩
  .obtain⟨t,u,hu,rfl⟩:=hp;have hu:u7[i]?=some u:=by simpa using hu
   have zJ:i<xs.length:=by have:=(iA.mp hu).1;lia
   obtain⟨u',sk,ru⟩:=L0.get (i8 zJ);rw[hu] at sk;cases sk;exact⟨[.int i,xs[i]],⟨_,i8 zJ,rfl⟩,.cons ⟨t,rfl⟩ (.cons ru .nil),by show 2<=10;decide⟩
 .obtain⟨old,s1⟩:=st.1;exact wpAny_pyIter_enum s1 h
def Cq(K:FG)(ta:TA):TI:=λZ H R=>ta Z H λvs H1=>∃a xs,vs=[.ref a]/\dH K H1 a xs/\R (yO (λH=>dH K H a xs) xs.length (Dq xs)) H1
def XC{oC:Pos}{a:Expr}{pos:Pos}(hg:Gl X "enumerate")(hm:X.mg "enumerate"=none)(ha:PA X [a] ta)(hs:starEach [a] X.env=[(false,eval a X.env)]:=by rfl):
  PI X (.Tuple elts x1 oC) (.Call (.Name "enumerate" p) [a] [] pos) (Cq X.K ta):=by
 intro af s Z H R I h;refine Call_ (uJ I hg hm PyProof.Rows.Boot.enumerate (PyProof.Rows.callWith_type1 (cQ (ha pos af s Z H _ I h) λus s1 hh=>?_) hs rfl))
 obtain⟨vs,H1,I1,r1,q1⟩:=hh;obtain⟨l1,xs,e,hq1,q⟩:=q1;subst e;cases r1 with
 |cons r rr=>
  cases rr;cases r;obtain⟨u7,L0,p1,_⟩:=I1.list hq1;refine call_enumerate_list p1.isList λh' z1 z2 z3 z4=>?_
  have L1:l1<s1.heap.objs.size:=by obtain⟨o,n,e,_⟩:=p1;exact gb e
  refine wpAny_pyIter_enum z1 ?_;refine⟨s1.heap.objs.size+1,[s1.heap.objs.size+1,s1.heap.objs.size],_,_,H1,rfl,I1.kept (t':=s1.toks) z4,UR (e:=s1.heap.objs.size+1) (it:=s1.heap.objs.size) (l:=l1) (Nat.ne_of_gt (by lia)) (mS (jq L1 (Nat.le_add_right _ _))) (mS L1) xs,⟨nq _,⟨_,z1⟩,z2⟩,λb hb=>?_,q⟩
  simp only[eX,List.not_mem_nil,or_false] at hb;have R8:s1.heap.objs.size<=b:=by rcases hb with rfl|rfl <;> lia
  exact I1.qy R8 (I1.cV.fresh R8)
section
variable{X:Cx}{K:FG}{fa fb:GE}{f:GS}{m:List Bool}{l l':Expr}{elts:List Expr}{x1:Nat}{oC:Pos}{t:TG}{gg:GG}{body:List Stmt}{p0 p1 pos:Pos}
def XD{p:ao}{ws:List V}(k:OK K F H Z Q0 A)(hn:H p=none):OK K (upd F p (.tup ws)) (upd H p (.tup ws)) Z Q0 A/\Ext F H A (upd F p (.tup ws)) (upd H p (.tup ws)) A:=by
 have hF:F p=none:=k.le.free hn;have np:∀a∈A,a≠p:=λa m z=>k.os.there a m (by rw[z];exact hn)
 refine⟨⟨λa o e=>?_,k.os.keep (uE hF) λa m o e=>by rw[dr (np a m)];exact e,k.nd,λa m=>by rw[dr (np a m)];exact k.fr a m⟩,⟨uE hF,λa o e _=>uE hn a o e,λa h z=>h ((uE hn).free z),λa h=>?_,λa m=>.inl m⟩⟩
 .by_cases z:a=p
  .subst z;rw[jG] at e ⊢;exact e
  .rw[dr z] at e ⊢;exact k.le a o e
 .by_cases z:a=p
  .subst z;exact .inr (.inr hn)
  .rw[dr z] at h;exact .inl h
theorem LI.tup{m:List Bool}{gg:GG}{f:GS}{t:TG}{F1 H1:Hp}{Z:St}{ds es:List D}{i:Nat}{E:Ends}{fl:Fl}{aw:Gm}{p:ao}{us:List V}(q:LI K m gg f E F1 fl aw ds i Z H1)(ht:gA K m t gg)(hn:H1 p=none)(hd:ds[i]?=some (.tup es))(r:ax K F1 us es):
  t (.ref p) Z (upd H1 p (.tup us)) λZ2 H2=>tS K m f { E with nx:=LI K m gg f E F1 fl aw ds (i+1),ct:=LI K m gg f E F1 fl aw ds (i+1),bk:=E.nx} Z2 H2:=by
 obtain⟨F',A',qO,k',e',w',s'⟩:=q;obtain⟨k2,x2⟩:=XD (ws:=us) k' hn;have s2:aO F1 (upd F' p (.tup us)):=s'.trans x2.ff;obtain⟨hi,he⟩:=iA.mp hd;rw[DB hi,he] at e';exact NK ht k2 (.tup (.inl (.inl jG)) (r.mono s2) .nil) e' (w'.step x2 Kept.refl) λF2 H2 Z2 pO A2 x3 k3 e3 w3=>⟨F2,A2,pO,k3,e3,w3,s2.trans x3.ff⟩
noncomputable def jZ(ds:List D):List D:=(List.range ds.length).zipWith (λ(i:Nat) d=>D.tup [.int i,d]) ds
def E3(fa:GE)(gg:GG)(f:GS):GS:=λQ0=>(ay fa Q0).bind λp=>match p.1 with
 |.own (.Y (.lst ds))=>fK gg f (jZ ds) p.2
 |_=>none
theorem XE(fa:GE)(gg:GG)(f:GS)(Q0:Gm):E3 fa gg f Q0=(ay fa Q0).bind λp=>match p.1 with
 |.own (.Y (.lst ds))=>fK gg f (jZ ds) p.2
 |_=>none:=rfl
def XF(hp:PassesOwn (model X.prog X.w) X.A X.env X.xe)(hm:X.mg "enumerate"=none)(hi:PE X l (tG K fa))(hg:PG X (.Tuple elts x1 oC) t)(ht:gA K m t gg)(hb:iu X body (tS K m f))(hc:X.calm=true:=by rfl)(sg:Gl X "enumerate":=by rfl)(ra:starEach [l] X.env=(false,eval l X.env)::starEach [] X.env:=by rfl)(xX:starEach [l] X.env=[(false,eval l X.env)]:=by rfl)(hK:X.K=K:=by rfl)(hs:∀x,foldedSetIterable (.Call (.Name "enumerate" p0) [l] [] p1) X.env x=pure x:=by intro _;rfl):PS X (.For (.Tuple elts x1 oC) (.Call (.Name "enumerate" p0) [l] [] p1) body [] pos) (tS K m (E3 fa gg f)):=by
 subst hK;refine(xr hp hc (XC sg hm (av (cf hi) aN ra) xX) hg hb hs).mono λDe Z H tt=>?_
 obtain⟨F,A,Q0,fl,aw,k,e,w⟩:=tt;unfold E3 at e;obtain⟨⟨r1,aJ⟩,q1,e'⟩:=fm.mp e;clear e;dsimp only at e';split at e'
 .rename_i ds
  refine⟨F,A,Q0,[.own (.Y (.lst ds))],aJ,k,by rw[bp,q1];rfl,λvs H1 pp=>?_⟩
  obtain⟨F1,A1,x,k1,hh⟩:=pp;have hlv:=hh.length;obtain⟨v1,rfl⟩:=JZ hlv;obtain⟨rp1,st⟩:=LI.start k1 x w e';obtain⟨a,Mm,rfl,SU,SK⟩:=IP rp1;have hl1:=SK.length;refine⟨a,Mm,rfl,.inl (k1.le.rd SU),VX (LI X.K m gg f De F1 fl aw (jZ ds)) st (λi Z' H' _ p=>.inl (p.same.rd SU)) ?_ λZ' H' p=>p.fin (by unfold jZ;rw[List.length_zipWith,oH,hl1,MA];exact cX _)⟩
  rintro i p ws Z' H' g_ hn ⟨u1,hu1,rfl⟩ q;have zJ:i<ds.length:=by lia
  obtain⟨y1,uf,ry1⟩:=SK.get (i:=i) (d:=ds[i]) (i8 zJ);rw[hu1] at uf;cases uf;exact q.tup ht hn (by unfold jZ;rw[List.getElem?_zipWith,Mz zJ,i8 zJ]) (.flat rfl (.cons ry1 .nil))
 .cases e'
end
section
variable{X:Cx}{K:FG}{fa fo:GE}{fs:GA}{f:GS}{m:List Bool}{e o:Expr}{es:List Expr}{tg:Expr}{t:TG}{gg:GG}{pos apos dh:Pos}{name:Str}{Gz:String}{g:List O->ak O}{r:V->List V->Hp->VK->Prop}
def p8(gg:GG)(fa:GE):GS:=λQ0=>(ay fa Q0).bind λp=>match p.1 with
 |.own (.Y d)=>(gg d p.2).map λaw=>(.nx,aw)
 |_=>none
theorem Zm(gg:GG)(fa:GE)(Q0:Gm):p8 gg fa Q0=(ay fa Q0).bind λp=>match p.1 with
 |.own (.Y d)=>(gg d p.2).map λaw=>(.nx,aw)
 |_=>none:=rfl
def Zn(he:PE X e (tG K fa))(hg:PG X tg t)(ht:gA K m t gg)(hs:swapsWithSole [tg] e pos.line X.env=pure false:=by rfl)(hw:swappedStores [tg] e X.env=pure none:=by rfl)
  (h1:(assignEach [tg] X.env).map (·.2)=[assign tg X.env]:=by rfl):PS X (.Assign [tg] e pos) (tS K m (p8 gg fa)):=(Jm (cf he) hg hs hw h1).mono λDe Z H tt=>by
 obtain⟨F,A,Q0,fl,aw,k,e,w⟩:=tt;unfold p8 at e;obtain⟨⟨r1,aJ⟩,q1,e'⟩:=fm.mp e;clear e;dsimp only at e';split at e'
 .rename_i d
  obtain⟨cD,q2,e2⟩:=jt.mp e';cases e2;refine⟨F,A,Q0,_,aJ,k,q1,λv H1 pp=>?_⟩
  obtain⟨F1,A1,x,k1,hh⟩:=pp;obtain⟨B,C,h1,h2,h3⟩:=ai.one (Z:=Z) (Q0:=aJ) k1.os;have rp:=rD h1;subst h3;obtain⟨k2,x2⟩:=k1.sub h2 (.bS (pK _ _));exact ht F1 H1 Z aJ aw C v d De.nx k2 rp q2 λZ' A' k3 x3 kp=>w Z' H1 ⟨F1,A',(x.trans x2).trans x3,k3,kp⟩
 .cases e'
noncomputable def xA:List D->ak (List Bool)
 |[]=>some []
 |.bl b::ds=>(xA ds).map λbs=>b::bs
 |_=>none
theorem Na:∀bs:List Bool,xA (bs.map .bl)=some bs
 |[]=>rfl
 |i::is=>by rw[cY];show(xA (is.map .bl)).map _=_;rw[Na is];rfl
theorem Nb:∀{ds:List D} {bs:List Bool},xA ds=some bs->ds=bs.map .bl
 |[],bs,e=>by cases e;rfl
 |d::ds,bs,e=>by
  cases d with
  |bl i=>
   obtain⟨js,e1,e2⟩:=jt.mp (show(xA ds).map _=some bs from e);rw[<-e2,Nb e1];rfl
  |_=>cases e
theorem Nc{F:Hp}:∀{ws:List V} {bs:List Bool},ax K F ws (bs.map .bl)->ws=bs.map .bl
 |[],[],_=>rfl
 |[],_::_,h=>by have:=h.length;simp at this
 |_::_,[],h=>by have:=h.length;simp at this
 |w::ws,i::is,h=>by
  rw[cY] at h;have h1:=h.inv.1;have h2:=Nc h.inv.2;rw[h2,cY];cases h1 with
  |flat e _=>cases e;rfl
def E4(q:List Bool->Bool):List O->ak O
 |[o]=>(de o).bind λds=>(xA ds).bind λbs=>some (.Y (.bl (q bs)))
 |_=>none
def VZ(q:List Bool->Bool):cO K (λxs H Q=>∃(a:ao) (bs:List Bool),xs=[.ref a]/\dH K H a (bs.map V.bl)/\Q (.bl (q bs)) H) (E4 q):=by
 intro F H vs os o Q le eW e res;unfold E4 at e;split at e
 .obtain⟨ds,e1,e2⟩:=fm.mp e;obtain⟨bs,e3,e4⟩:=fm.mp e2;cases e4;obtain⟨x,B,rfl,h1⟩:=eW.one;obtain⟨a,ws,rfl,sq,ri⟩:=tP le h1 e1;rw[Nb e3] at ri;have:=Nc ri;subst this;exact⟨a,bs,rfl,sq,res.flat rfl⟩
 .cases e
def US(K:FG)(hc:X.calm=true:=by rfl)(hK:X.K=K:=by rfl):c7 X (.builtin "any") (λxs H Q=>∃(a:ao) (bs:List Bool),xs=[.ref a]/\dH K H a (bs.map V.bl)/\Q (.bl (bs.any id)) H):=hK ▸ UA hc
def NW(q:List Bool->Bool)(bs:List Bool):E4 q [.lst ((bs.map D.bl).map .Y)]=some (.Y (.bl (q bs))):=by
 show((de (.lst ((bs.map D.bl).map .Y))).bind λds=>(xA ds).bind λbs=>some (O.Y (.bl (q bs))))=_
 rw[EZ,Option.bind_some,Na,Option.bind_some]
def zp(g:List O->ak O)(fo:GE)(fs:GA):GE:=λQ0=>(fo Q0).bind λp=>match p.1 with
 |.own (.Y (.lst ds))=>(fs p.2).bind λq=>(gQ q.2 q.1).bind λos=>(g (.Y (.lst ds)::os)).bind λo=>some (.own o,q.2)
 |_=>none
theorem OG(g:List O->ak O)(fo:GE)(fs:GA)(Q0:Gm):zp g fo fs Q0=(fo Q0).bind λp=>match p.1 with
 |.own (.Y (.lst ds))=>(fs p.2).bind λq=>(gQ q.2 q.1).bind λos=>(g (.Y (.lst ds)::os)).bind λo=>some (.own o,q.2)
 |_=>none:=rfl
def V0(ok:cO K (qb r) g){Q:VK}(t:tG K (zp g fo fs) Z H Q):L9 K "list" r (tG K fo) (kb K fs) Z H Q:=by
 obtain⟨F,A,Q0,rr,aw,k,e,w⟩:=t;unfold zp at e;obtain⟨⟨r1,aJ⟩,e1,e'⟩:=fm.mp e;clear e;dsimp only at e';split at e'
 .rename_i ds
  obtain⟨⟨rs,cD⟩,e2,e3⟩:=fm.mp e';obtain⟨os,e4,e5⟩:=fm.mp e3;obtain⟨ob,e6,e7⟩:=fm.mp e5;cases e7;refine⟨F,A,Q0,_,aJ,k,e1,λv H1 pp=>?_⟩
  obtain⟨F1,A1,x1,k1,hh⟩:=pp;obtain⟨B,C,h1,h2,h3⟩:=ai.one (Z:=Z) (Q0:=aJ) k1.os;have rp:=rD h1;subst h3;obtain⟨k2,x2⟩:=k1.sub h2 (.bS (pK _ _));have xY:Mi K "list" v H1:=by
   cases rp with
   |flat z _=>cases z
   |lst sq ri _=>exact .inl ⟨rfl,_,.inl (k1.le.rd sq)⟩
  refine⟨xY,F1,C,aJ,rs,_,k2,e2,λvs H2 p2=>?_⟩
  obtain⟨F2,A2,x3,k3,K3⟩:=p2;have p3:ik K F1 H1 C Z cD rs vs H2:=⟨F2,A2,x3,k3,K3⟩;have hl:(vs.map some).length=(rs.map R.o).length:=by rw[bO,bO,K3.length]
  obtain⟨B3,C3,o1,o2,o3⟩:=ai.split hl k3.os;have eW:=Er o2 o1 K3 e4;have res:Res K F2 H2 ob Q:=λv' H' Av s' w' nd fresh=>by
   obtain⟨B',kB,sub⟩:=k3.part hl;obtain⟨k4,x4⟩:=kB.push s' w' nd fresh;exact w v' H' ⟨F2,Av++B',(x1.trans x2).trans (x3.trans ((Ext.lO Ext.refl sub).trans x4)),k4,jn⟩
  obtain⟨y,ys,exs,rr'⟩:=ok F2 H2 (v::vs) (.Y (.lst ds)::os) ob Q k3.le (.cons ⟨[],.Y (rp.mono x3.ff) .nil⟩ eW) e6 res;cases exs;exact rr'
 .cases e'
def OH(slot:Slot "list" name Gz)(xY:typeOf (.builtin Gz)=pure (.type "method_descriptor"))(hm:wZ X Gz r)(ok:cO K (qb r) g)(ho:PE X o (tG K fo))(ha:PA X (e::es) (kb K fs))
  (n5:attributeBase o name X.env (eval o X.env)=eval o X.env:=by rfl)
  (se:((backTo dh (starEach (e::es) X.env)).all (λx => !x.1)&&(backToKw dh (keywordEach [] X.env)).all (λx=>x.1.isSome) && decide ((e::es).length+([]:List Keyword).length+(if([]:List Keyword).isEmpty then 0 else 1)<30))=true:=by rfl)
  (n6:(apos.endLine == dh.line)=true:=by rfl) (hs:starEach (e::es) X.env=(false,eval e X.env)::starEach es X.env:=by rfl) (kO:(backTo dh (starEach es X.env)).any (·.1)=false:=by rfl) (hK:X.K=K:=by rfl) :
  PE X (.Call (.Attribute o name apos) (e::es) [] dh) (tG K (zp g fo fs)):=by
 subst hK;exact(Rz PySem.F.plainAttrs_list slot xY hm ho ha n5 se n6 hs kO).mono λ_ _ _ t=>V0 ok t
def Jx(z:Str):au->Bool
 |.str y _=>y == z
 |_=>false
def QT(K:FG):V->List V->Hp->VK->Prop:=λx xs H Q=>∃(a:ao) (ys:List Str) (z:Str) (j:Nat),x=.ref a/\xs=[.str z]/\dH K H a (ys.map V.str)/\ys[j]?=some z/\(∀i y,i<j->ys[i]?=some y->y≠z)/\Q (.int (j:Nat)) H
theorem V1(K:FG)(hK:X.K=K:=by rfl):wZ X "list.index" (QT K):=by
 subst hK;intro af s Z H x xs v us Q I rx rs h;obtain⟨a,ys,z,j,rfl,rfl,hq,hj,ib,q⟩:=h;cases rx;obtain⟨u,rfl,ru⟩:=vals1 rs;obtain⟨t,rfl⟩:=ru;obtain⟨aA,rv,p,hz⟩:=I.list hq;obtain⟨ps,e1,e2⟩:=M' rv;subst e1;obtain⟨ob,n,eo,KW,hdi,KZ⟩:=p;have hlen:ps.length=ys.length:=by rw[<-e2,bO]
 have Gr:j<ys.length:=(iA.mp hj).1;have hit:∀i (hi:i<ps.length),(ps.map λp=>Value.str p.1 p.2)[i]?=some (Value.str ps[i].1 ps[i].2):=λi hi=>by simp[hi]
 have Cp:∀i (hi:i<ps.length),ys[i]?=some ps[i].1:=λi hi=>by rw[<-e2];simp[hi]
 have hsz:(ps.map λp=>Value.str p.1 p.2).toArray.size=ps.length:=by simp
 have K6:ps[j].1=z:=by
  have:=Cp j (by lia)
  rw[hj] at this;exact(Option.some.inj this).symm
 obtain⟨cl,di,da,sl⟩:=ob;cases KW;cases KZ;have hz':ys.length<=16777216:=by rw[bO,sizeLine_eq] at hz;exact hz
 refine call_meets F.slot_list_index ⟨_,eo,rfl⟩ F.entry_list_index (F.args_list_index_2 _ _) (SeqAt.list_indexAt a _ n di sl (.str z t) (Jx z) j (by rw[hsz];lia) (by lia) ?_ ?_) ⟨eo,?_,?_⟩
 .simp[Jx,K6]
 .intro i hi Cg;rw[hsz] at hi;have:=ib i _ Cg (Cp i hi);simp[Jx];exact this
 .intro y hy;simp at hy;obtain⟨b,t',_,rfl⟩:=hy;exact SeqAt.EqAt.str_str b t' z t
 .exact⟨.int (j:Nat),H,I.tok _,⟨_,rfl⟩,q⟩
def findS(ys:List Str)(z:Str):ak Nat:=ys.findIdx? (· == z)
def Bt:List O->ak O
 |[.Y (.lst ds),.Y (.str z)]=>(kZ ds).bind λys=>(findS ys z).map λj=>.Y (.int (j:Nat))
 |_=>none
def Nf{ys:List Str}{z:Str}{j:Nat}(e:findS ys z=some j):ys[j]?=some z/\∀i y,i<j->ys[i]?=some y->y≠z:=by
 unfold findS at e;rw[List.findIdx?_eq_some_iff_getElem] at e;obtain⟨h,h1,h2⟩:=e;refine⟨by rw[i8 h];congr 1;exact eq_of_beq h1,λi y hi ey=>?_⟩
 have:=h2 i hi;obtain⟨hl,e3⟩:=iA.mp ey;rw[e3] at this;intro z';subst z';simp at this
def V2:cO K (qb (QT K)) Bt:=by
 intro F H vs os o Q le eW e res;unfold Bt at e;split at e
 .rename_i ds z
  obtain⟨ys,e1,e2⟩:=fm.mp e;obtain⟨j,e3,e4⟩:=jt.mp e2;cases e4;obtain⟨x,y,B,C,rfl,h1,h2⟩:=eW.two;obtain⟨a,ws,rfl,sq,ri⟩:=tP le h1 (Jr _);rw[NV e1] at ri;have:=M0 ri;subst this;cases i4 h2 rfl;obtain⟨s1,s2⟩:=Nf e3;exact⟨_,_,rfl,a,ys,z,j,rfl,rfl,sq,s1,s2,res.flat rfl⟩
 .cases e
def V3(ys:List Str)(z:Str):Bt [.Y (.lst (ys.map .str)),.Y (.str z)]=(findS ys z).map λj=>.Y (.int (j:Nat)):=by
 show((kZ (ys.map .str)).bind λys=>(findS ys z).map λj=>O.Y (.int (j:Nat)))=_
 rw[NU,Option.bind_some]
end
section
variable{X:Cx}{K:FG}{fo f:GE}{fs:GA}{g:List O->ak O}{r:V->List V->Hp->VK->Prop}{o e:Expr}{es:List Expr}{name:Str}{Gz:String}{apos dh pos:Pos}
end
def T3:typeLookup (.type "list_reverseiterator") "__len__"=pure none:=by rw[typeLookup_type,builtinLookup_eq_fast];kernel_rfl
def V4:typeLookup (.type "list_reverseiterator") "__length_hint__"=pure (some (.builtin "list_reverseiterator.__length_hint__")):=by rw[typeLookup_type,builtinLookup_eq_fast];kernel_rfl
def UT:splitId "list_reverseiterator.__length_hint__"=some ("list_reverseiterator","__length_hint__"):=by decide +kernel
def XG:isSubtype (.type "list_reverseiterator") (.type "list_reverseiterator")=pure true:=by rw[isSubtype_type];kernel_rfl
section
variable{P:gv}{w:eZ}{A:eY}{E:au->aE->Prop}{s:aE}
def V5{l:ao}{i:Int}{Q:Bool->aE->Prop}(hit:s.heap.IsRevIter I l i)(h:Q false s):wpAny (model P w) A (Builtin.List.listLengthHint (.ref I)) Q E s:=by
 unfold Builtin.List.listLengthHint;refine aU (wpAny_specialOf hit.typeIs T3 ?_);dsimp only;refine aU (wpAny_specialOf hit.typeIs V4 ?_);dsimp only;rw[UT];dsimp only;refine aU (wpAny_isInstance hit.typeIs XG ?_);rw[bb (by decide)]
 split
 .rw[bb (by decide +kernel)]
  exact bW h
 .rename_i hn
  exact cu (by decide +kernel) hn
theorem Th{S l:ao}{R:Result->aE->Prop}(hh:A.handled=none)(hl:s.heap.IsList l items)(hit:s.heap.IsRevIter I l ((items.size:Int) - 1))(KO:l≠I)(R7:S≠I)(hSl:S≠l)(res:au)(c₀:Nat)
  (hS:s.heap.get? S=some { cls:=.type "list",data:=.seq #[] c₀}) (hn:items.size<=sizeLine)
  (hR:∀s' jK c',Moved (S::[I]) (λa b=>b=a) s s'->s'.heap.get? S=some { cls:=.type "list",dict:=none,data:=.seq jK c',slots:=#[]}->ItemsOf (λi v=>items[items.size - 1 - i]?=some v) jK items.size->R (.ok (.ret res)) s') :
  wpAny (model P w) A.in1 (Builtin.List.listExtendWith (.ref S) (.ref I) res)
   (λfin s'=>match fin with|.done f=>R (.ok f) s'|.again c'=>c'.quiet=true/\codeAny (model P w) A c' R s') (λe s'=>R (.error e) s') s:=by
 have W:=(Walks.listRev (prog:=P) (w:=w) (A:=A.in1) hh I l KO items).toS;have KQ:S∉[I,l]:=λm=>by
  simp at m;rcases m with m|m
  .exact R7 m
  .exact hSl m
 unfold Builtin.List.listExtendWith;refine aU (wpAny_typeOf hit.typeIs ?_);have k1:Builtin.List.listSameRef (.ref S) (.ref I)=false:=by simp[Builtin.List.listSameRef,R7]
 have k2:(Value.type "list_reverseiterator" == Value.type "list")=false:=by decide
 have k3:(Value.type "list_reverseiterator" == Value.type "tuple")=false:=by decide
 simp only[k1,k2,k3,G5,tK,cB];refine aU (wpAny_pyIter_revIter hit (aU (pM (V5 hit ?_))));rw[bb (by decide +kernel)]
 refine bW ⟨plainId_quiet F.plain_extend_loop _,codeAny_extend_loopS W hn _ KQ _ items.size 0 _ _ _ rfl (nq _) ⟨nq _,by simpa using hit,hl⟩ hS (ItemsOf.nil _) λs' jK c' hm wg lK=>hR s' jK c' hm wg lK⟩
theorem Tp{l:ao}{Q:au->aE->Prop}(hh:A.handled=none)(hl:s.heap.IsList l items)(hit:s.heap.IsRevIter I l ((items.size:Int) - 1))(KO:l≠I)(hn:items.size<=sizeLine)
  (hQ:∀s' jK c',Moved (s.heap.objs.size::[I]) (λa b=>b=a) { s with heap:=s.heap.push { cls:=.type "list",data:=.seq #[]}} s'-> s'.heap.get? s.heap.objs.size=some { cls:=.type "list",dict:=none,data:=.seq jK c',slots:=#[]}->ItemsOf (λi v=>items[items.size - 1 - i]?=some v) jK items.size->Q (.ref s.heap.objs.size) s') :
  wpAny (model P w) A (call (.type "list") [.ref I]) Q E s:=by
 have lI:I<s.heap.objs.size:=let ⟨_,h,_⟩:=hit;gb h
 have ll:l<s.heap.objs.size:=let ⟨_,h,_⟩:=hl;gb h
 have ne:s.heap.objs.size≠I:=λe=>oF _ (e ▸ lI)
 have ne2:s.heap.objs.size≠l:=λe=>oF _ (e ▸ ll)
 refine callType_codes (Q₁:=λobj s₁=>obj=.ref s.heap.objs.size/\s₁={ s with heap:=s.heap.push { cls:=.type "list",data:=.seq #[]}}) F.called_list (F.typeCall_list_1 _) F.entry_list_init (code_list_new _ ⟨rfl,rfl⟩) λobj s₁ q₁=>?_
 obtain⟨rfl,rfl⟩:=q₁;have gS:(s.heap.push { cls:=.type "list",data:=.seq #[]}).get? s.heap.objs.size=some { cls:=.type "list",data:=.seq #[]}:=oG _ rfl;refine⟨⟨_,gS,rfl⟩,F.args_list_init_2 _ _,?_⟩;show wpAny _ _ (do let old <-Builtin.List.listItems (.ref s.heap.objs.size);Builtin.List.listUpdate (.ref s.heap.objs.size) (λ_=>#[]);letGo old.toList.reverse;Builtin.List.listExtendWith (.ref s.heap.objs.size) (.ref I) .none) _ _ _
 refine aU ?_;unfold Builtin.List.listItems;refine aU (wpAny_seqItems gS rfl (bW ?_));show wpAny _ _ (updateSeq s.heap.objs.size (λ_=>#[]) >>= λ_=>letGo (#[]:Array au).toList.reverse >>= λ_=>Builtin.List.listExtendWith (.ref s.heap.objs.size) (.ref I) .none) _ _ _
 refine aU (wpAny_updateSeq gS rfl ?_);have gT:=vt (Obj.mapSeq (λ_=>(#[]:Array au))) gS rfl
 have yq:∀b o,b≠s.heap.objs.size->(s.heap.push { cls:=.type "list",data:=.seq #[]}).get? b=some o->((s.heap.push { cls:=.type "list",data:=.seq #[]}).update s.heap.objs.size (Obj.mapSeq (λ_=>(#[]:Array au)))).get? b=some o:=
  λb o hb e=>(Du _ _ (Ne.symm hb)).trans e
 refine aU (wpAny_letGo (Th (A:=A.in1) hh ?_ ?_ KO ne ne2 .none _ gT hn λs' jK c' hm wg lK=>?_))
 .obtain⟨o,e,r⟩:=hl;exact⟨o,yq _ _ (Ne.symm ne2) (jJ _ e),r⟩
 .obtain⟨o,e,r⟩:=hit;exact⟨o,yq _ _ (Ne.symm ne) (jJ _ e),r⟩
 .exact⟨rfl,hQ s' jK c' ⟨λb o hb e=>hm.heap b o hb (yq b o (λh=>hb (by rw[h];simp)) e),hm.gens,hm.drawn,hm.os,hm.toks⟩ wg lK⟩
end
theorem Vals.rev:∀{xs:List V} {us:List au},Vals xs us->Vals xs.reverse us.reverse
 |_,_,.nil=>.nil
 |_,_,.cons r t=>by
  rw[G_,G_];exact(Vals.rev t).append (.cons r .nil)
def UU{aA:List au}{aP:Array au}(h:ItemsOf (λi v=>aA.toArray[aA.toArray.size - 1 - i]?=some v) aP aA.toArray.size):aP=aA.reverse.toArray:=by
 have h1:aP.size=aA.length:=by simpa using h.1
 have h2:=h.2;apply Array.ext
 .rw[h1];simp
 .intro j g1 g2;have h3:aA.toArray[aA.toArray.size - 1 - j]?=some aP[j]:=h2 j aP[j] (um g1);rw[List.getElem?_toArray,gu] at h3;simp only[List.getElem_toArray];rw[List.getElem_reverse];have:=(iA.mp h3).2;exact this.symm
section
variable{X:Cx}{K:FG}
def V6(K:FG)(ta:TA):TE:=λZ H Q=>ta Z H λvs H1=>∃a xs,vs=[.ref a]/\dH K H1 a xs/\∀q,H1 q=none->Q (.ref q) (upd H1 q (.lst xs.reverse))
def T4{pos:Pos}(sg:Gl X "list")(Gs:X.mg "list"=none)(hg:Gl X "reversed")(hm:X.mg "reversed"=none)(ha:PA X [l] ta)(hc:X.calm=true)(hs:starEach [l] X.env=[(false,eval l X.env)]:=by rfl)
  (oS:starEach [.Call (.Name "reversed" p1) [l] [] oq] X.env=[(false,eval (.Call (.Name "reversed" p1) [l] [] oq) X.env)]:=by rfl):PE X (.Call (.Name "list" p) [.Call (.Name "reversed" p1) [l] [] oq] [] pos) (V6 X.K ta):=by
 intro af s Z H Q I h;refine Call_ (uJ I sg Gs xi (PyProof.Rows.callWith_type1 ?_ oS rfl));rw[oS];show wpAny _ _ (spliced ((false,eval (.Call (.Name "reversed" p1) [l] [] oq) X.env)::[])) _ _ s;refine Calls.spliced_cons (Call_ (uJ I hg hm boot_reversed (PyProof.Rows.callWith_type1 (cQ (ha oq af s Z H _ I h) λus s1 hh=>?_) hs rfl)))
 obtain⟨vs,H1,I1,r1,q1⟩:=hh;obtain⟨a,xs,e,hq,q⟩:=q1;subst e;cases r1 with
 |cons r rr=>
  cases rr;cases r;obtain⟨aA,rv,pl,hz⟩:=I1.list hq;have hlen:=rv.length;refine call_reversed_list pl.isList (Calls.spliced_nil ?_);have hit:(s1.heap.push (revObj a ((aA.toArray.size:Int) - 1))).IsRevIter s1.heap.objs.size a ((aA.toArray.size:Int) - 1):=⟨_,oG _ rfl,rfl,rfl⟩;have wm:(s1.heap.push (revObj a ((aA.toArray.size:Int) - 1))).IsList a aA.toArray:=let ⟨o,e,r⟩:=pl.isList;⟨o,jJ _ e,r⟩
  have la:a<s1.heap.objs.size:=let ⟨_,e,_⟩:=pl.isList;gb e
  refine Tp (I1.ok.hd hc) wm hit (mS la) (by simpa using(by lia:aA.length<=sizeLine)) λs' jK c' hm wg lK=>?_
  have ea:=UU lK;subst ea;obtain⟨m1,m2,m3,m4,m5⟩:=hm;have sz:(s1.heap.push (revObj a ((aA.toArray.size:Int) - 1))).objs.size=s1.heap.objs.size+1:=by simp[Heap.push]
  rw[show({ s1 with heap:=s1.heap.push (revObj a ((aA.toArray.size:Int) - 1))}:aE).heap.objs.size=s1.heap.objs.size+1 from sz] at wg m1 ⊢;have keep:∀b u,s1.heap.get? b=some u->s'.heap.get? b=some u:=λb u e=>by
   have lb:=gb e;exact m1 b u (λz=>by
    rcases eX.mp z with z|z
    .rw[z] at lb;exact cu lb (Nat.not_lt.mpr (yH _))
    .rw[i3] at z;rw[z] at lb;exact cu lb (oF _)) (jJ _ (jJ _ e))
  have es:s'={ s1 with heap:=s'.heap,toks:=s'.toks}:=by
   cases s';cases m2;cases m3;cases m4;rfl
  rw[es];exact⟨.ref (s1.heap.objs.size+1),_,I1.laid keep (yH _) (show cC X.prog X.w _ s'.heap _ (.lst xs.reverse) from⟨by simpa using hz,aA.reverse,c',rv.rev,wg⟩),rfl,q _ (I1.cV.fresh (yH _))⟩
def AY:List O->ak O
 |[a]=>(de a).map λds=>.lst (ds.reverse.map .Y)
 |_=>none
theorem M3{F:Hp}:∀{vs:List V} {ds:List D},ax K F vs ds->ax K F vs.reverse ds.reverse
 |[],[],_=>.nil
 |v::vs,d::ds,h=>by
  rw[G_,G_];exact(M3 h.inv.2).append h.inv.1
 |[],_::_,h=>by have:=h.length;simp at this
 |_::_,[],h=>by have:=h.length;simp at this
def T5:cO K (λxs H Q=>∃a ys,xs=[.ref a]/\dH K H a ys/\∀l,H l=none->Q (.ref l) (upd H l (.lst ys.reverse))) AY:=by
 intro F H vs os o Q le eW e res;unfold AY at e;split at e
 .rename_i a
  obtain⟨x,B,rfl,h1⟩:=eW.one;obtain⟨ds,q1,q2⟩:=jt.mp e;subst q2;obtain⟨p,ws,rfl,sq,r⟩:=tP le h1 q1;exact⟨p,ws,rfl,sq,λl hl=>res.lst (M3 r) hl⟩
 .cases e
def T6{fs:GA}{pos:Pos}(Gs:X.mg "list"=none)(hm:X.mg "reversed"=none)(ha:PA X [l] (kb K fs))(hc:X.calm=true:=by rfl)(sg:Gl X "list":=by rfl)(hg:Gl X "reversed":=by rfl)(hs:starEach [l] X.env=[(false,eval l X.env)]:=by rfl)
  (oS:starEach [.Call (.Name "reversed" p1) [l] [] oq] X.env=[(false,eval (.Call (.Name "reversed" p1) [l] [] oq) X.env)]:=by rfl) (hK:X.K=K:=by rfl):PE X (.Call (.Name "list" p) [.Call (.Name "reversed" p1) [l] [] oq] [] pos) (tG K (gO AY fs)):=by
 subst hK;exact(T4 sg Gs hg hm ha hc hs oS).mono λ_ _ _ t=>BG T5 t
end
section
variable{X:Cx}{af:List (ao×Obj)}{Z:St}{H:Hp}{A:eY}{E:au->aE->Prop}{s:aE}{d it:ao}{es:List (TK×V×V)}{ep i:Nat}
theorem OI{Q:au->aE->Prop}(I:Inv X af Z H s)(hd:H d=some (.dG es ep))
  (hQ:Q (.ref s.heap.objs.size) { s with heap:=s.heap.push { cls:=.type "dict_keyiterator",data:=.fields #[.ref d,.int 0 0,.int es.length 0,.int ep 0]}}):wpAny (model X.prog X.w) A (pyIter (.ref d)) Q E s:=by
 obtain⟨_,z,ob,xs,g1,g5,g2,g3,g4⟩:=(show cC X.prog X.w H s.heap d (.dG es ep) from I.cV d _ hd);have hT:s.TypeIs (.ref d) "dict":=⟨ob,g1,g5.1⟩;have hl:xs.size=es.length:=by have:=Paired.length g3;simpa using this.symm
 refine wpAny_pyIter_slot hT F.slot_dict_iter (wpAny_call_entry F.slot_dict_iter hT F.entry_dict_iter ?_ (F.args_dict_iter_1 _));unfold Builtin.«dict.__iter__»;refine aU ?_;unfold Builtin.Dict.dictSlotNone;refine aU (wpAny_notOrdered_dict hT (show wpAny _ _ (pure (Value.ref d)) _ _ s from bW (show wpAny _ _ (Builtin.Dict.showsAll d >>= _) _ _ s from ?_)));unfold Builtin.Dict.showsAll;rw[bb (by rw[z];exact oT)]
 refine aU (bW (aU (wpAny_dictEntries g1 g2 (aU (wpAny_dictEpoch g1 g2 ?_)))));refine aU (wpAny_newObj_type (bW ⟨_,rfl,"dict_keyiterator",_,⟨_,oG _ rfl,rfl⟩,F.slot_dict_keyiterator_next.lookup,?_⟩));simpa[rawInt,hl] using hQ
theorem Ng(g1:s.heap.get? d=some ob)(g2:ob.data=.dict xs ep)(hl:xs.size=n)(hit:s.heap.IsKeyIter it d i n ep)(lt':i<xs.size)
  (hQ:∀h',h'.IsKeyIter it d (i+1) n ep->Heap.SameBut it s.heap h'->Q (some xs[i].key) { s with heap:=h'}):wpAny (model P w) A (pyNext (.ref it)) Q E s:=by
 obtain⟨o,k1,k2,k3⟩:=id hit;unfold pyNext;refine aU (wpAny_attempt (wpAny_callSpecial?_slot (name:=Str.ofString "__next__") hit.typeIs F.slot_dict_keyiterator_next (wpAny_call_entry F.slot_dict_keyiterator_next hit.typeIs F.entry_dict_keyiterator_next (aU (bW (aU (aU ?_)))) (F.args_dict_keyiterator_next_1 _))))
 (first|refine aU (wpAny_typeNameOfWhole_keyiter hit.typeIs (bW ?_))|refine aU (wpAny_typeNameOf_keyiter hit.typeIs (bW ?_)));refine aU (wpAny_fieldsOf k1 k3 ?_)
 have yr:Builtin.Dict_items.ownsTuple "dict_keyiterator"=false:=by decide
 simp only[yr,tK,cB]
 (show wpAny _ _ (if(Value.ref d == Value.none)=true then _ else _) _ _ s);rw[bb (show ¬((Value.ref d == Value.none)=true) from oT)]
 refine aU (bW (aU (wpAny_dictEntries g1 g2 ?_)));rw[bb (by rw[hl];simp)]
 refine aU (bW (aU (wpAny_dictEpoch g1 g2 ?_)));rw[bb (by simp)]
 refine bW ?_;simp only[show ¬((i:Int)<0) from by lia,cB,Int.toNat_natCast,um lt']
 refine aU ?_
 (first|refine aU (wpAny_typeNameOfWhole_keyiter hit.typeIs (bW ?_))|refine aU (wpAny_typeNameOf_keyiter hit.typeIs (bW ?_)));refine aU (wpAny_isOneOf_keyiter hit.typeIs ?_)
 (show wpAny _ _ (setField (.ref it) 1 (rawInt ((i:Int)+1)) >>= _) _ _ s);refine aU (wpAny_setField k1 k3 (by simp) ?_)
 have Ci:(s.heap.update it (Obj.mapFields (·.setIfInBounds 1 (rawInt ((i:Int)+1))))).IsKeyIter it d (i+1) n ep:=
  ⟨_,vt _ k1 (Obj.isFreed_of_fields (Obj.data_mapFields k3 _)),(Obj.cls_mapFields ..).trans k2,by rw[Obj.data_mapFields k3];simp[rawInt]⟩
 refine aU (pM (aU (wpAny_isOneOf_keyiter (s:={ s with heap:=s.heap.update it (Obj.mapFields (·.setIfInBounds 1 (rawInt ((i:Int)+1))))}) Ci.typeIs ?_)))
 show wpAny _ _ (pure xs[i].key) _ _ _;exact bW (bW ⟨_,rfl,bW (hQ _ Ci (Heap.SameBut.update ..))⟩)
def T7(I:Inv X af Z H s)(hd:H d=some (.dG es ep))(hit:s.heap.IsKeyIter it d i es.length ep){e:TK×V×V}(hx:es[i]?=some e)
  (hQ:∀key h',RelV e.2.1 key->h'.IsKeyIter it d (i+1) es.length ep->Heap.SameBut it s.heap h'->Q (some key) { s with heap:=h'}):wpAny (model X.prog X.w) A (pyNext (.ref it)) Q E s:=by
 obtain⟨_,z,ob,xs,g1,g5,g2,g3,g4⟩:=(show cC X.prog X.w H s.heap d (.dG es ep) from I.cV d _ hd);have hl:xs.size=es.length:=by have:=Paired.length g3;simpa using this.symm
 obtain⟨x,x1,x2⟩:=AM i g3 hx;have lt':i<xs.size:=by
  have:=(iA.mp hx).1;lia
 have ex:xs[i]=x:=by
  have:xs[i]?=some x:=by rw[<-yI];exact x1
  rw[um lt'] at this;exact Option.some.inj this
 exact Ng g1 g2 hl hit lt' λh' Lm sb=>hQ _ h' (by rw[ex];exact x2.2.1) Lm sb
theorem NX(hh:A.handled=none)(g1:s.heap.get? d=some ob)(g2:ob.data=.dict xs ep)(hl:xs.size=n)(hit:s.heap.IsKeyIter it d i n ep)(hx:n<=i)
  (hQ:∀h',Heap.ExtBut it s.heap h'->Q none { s with heap:=h'}):wpAny (model P w) A (pyNext (.ref it)) Q E s:=by
 obtain⟨o,k1,k2,k3⟩:=id hit;unfold pyNext;refine aU (wpAny_attempt (wpAny_callSpecial?_slot (name:=Str.ofString "__next__") hit.typeIs F.slot_dict_keyiterator_next (wpAny_call_entry F.slot_dict_keyiterator_next hit.typeIs F.entry_dict_keyiterator_next (aU (bW (aU (aU ?_)))) (F.args_dict_keyiterator_next_1 _))))
 (first|refine aU (wpAny_typeNameOfWhole_keyiter hit.typeIs (bW ?_))|refine aU (wpAny_typeNameOf_keyiter hit.typeIs (bW ?_)));refine aU (wpAny_fieldsOf k1 k3 ?_)
 have yr:Builtin.Dict_items.ownsTuple "dict_keyiterator"=false:=by decide
 simp only[yr,tK,cB]
 (show wpAny _ _ (if(Value.ref d == Value.none)=true then _ else _) _ _ s);rw[bb (show ¬((Value.ref d == Value.none)=true) from oT)]
 refine aU (bW (aU (wpAny_dictEntries g1 g2 ?_)));rw[bb (by rw[hl];simp)]
 refine aU (bW (aU (wpAny_dictEpoch g1 g2 ?_)));rw[bb (by simp)]
 refine bW ?_;have hge:xs.size<=i:=by lia
 simp only[show ¬((i:Int)<0) from by lia,cB,Int.toNat_natCast,Array.getElem?_eq_none hge]
 refine aU ?_
 (first|refine aU (wpAny_typeNameOfWhole_keyiter hit.typeIs (bW ?_))|refine aU (wpAny_typeNameOf_keyiter hit.typeIs (bW ?_)));(show wpAny _ _ (setField (.ref it) 0 .none >>= _) _ _ s);refine aU (wpAny_setField k1 k3 (by simp) ?_)
 (show wpAny _ _ (newExc (.type "StopIteration") [] >>= _) _ _ _);refine aU ?_
 simp only[newExc,newTuple];refine aU (wpAny_newObj_type (aU (m:=firstArgMember _ _) (wpAny_of_eq (a:=Value.none) (by first|rfl|(simp only[firstArgMember];rfl)) (wpAny_newObj_type ?_ (by size_fits)))) (by size_fits))
 simp only[raiseNew];refine aU (wpAny_handled ?_);rw[show A.in1.handled=none from hh]
 (refine aU (bW (wpAny_throw ?_)));refine aU (wpAny_isInstance (T:="StopIteration") (b:=true) ⟨_,oG _ rfl,rfl⟩ isSubtype_stop ?_)
 exact bW (hQ _ (((Heap.SameBut.update ..).extBut.push _).push _))
def UW(hh:A.handled=none)(I:Inv X af Z H s)(hd:H d=some (.dG es ep))(hit:s.heap.IsKeyIter it d i es.length ep)(hx:es.length<=i)
  (hQ:∀h',Heap.ExtBut it s.heap h'->Q none { s with heap:=h'}):wpAny (model X.prog X.w) A (pyNext (.ref it)) Q E s:=by
 obtain⟨_,z,ob,xs,g1,g5,g2,g3,g4⟩:=(show cC X.prog X.w H s.heap d (.dG es ep) from I.cV d _ hd);exact NX hh g1 g2 (by have:=Paired.length g3;simpa using this.symm) hit hx hQ
end
def wX(a:ao)(n ep:Nat):It:=
 ⟨λi H=>∃es,H a=some (.dG es ep)/\es.length=n/\i<n,λi H x H'=>H'=H/\∀es,H a=some (.dG es ep)->∃e,es[i]?=some e/\e.2.1=x,λi H=>∃es,H a=some (.dG es ep)/\es.length=n/\n<=i⟩
def UX(a it:ao)(n ep:Nat):Turn P w K tg (wX a n ep) [it] it (λi h=>h.IsKeyIter it a i n ep) where
 mem:=by simp
 obj:=λi h st b hb=>by
  have e:b=it:=by simpa using hb
  subst e;obtain⟨o,e,c,d⟩:=st;exact⟨o,e,λv z=>by rw[d] at z;cases z⟩
 keep:=λi h h' st k=>st.at λo e=>k it (by simp) o e
 item:=by
  intro X hP hw hK hc i af s Z H E I hf st hg;subst hP hw hK;obtain⟨es,hd,hl,hi⟩:=hg;subst hl;obtain⟨f0,f1,f2,f3,f4,f5⟩:=hf it (by simp)
  refine T7 I hd st (e:=es[i]) (i8 hi) λkey h' rk qe sb=>?_
  have I1:Inv X af Z H { s with heap:=h'}:=I.turned (t':=s.toks) (λb o hb e=>(sb.2 b hb).trans e) f0 f1 f3 f4 f5
  obtain⟨o,e,c,d⟩:=id qe;refine⟨key,rfl,BE (s:={ s with heap:=h'}) e c d (by decide) ⟨es[i].2.1,H,I1,rk,⟨rfl,λys hy=>?_⟩,qe,λb hb=>(hf b hb).1⟩⟩
  rw[hd] at hy;cases hy;exact⟨_,i8 hi,rfl⟩
 done:=by
  intro X hP hw hK hc i af s Z H E I hf st hg;subst hP hw hK;obtain⟨es,hd,hl,hi⟩:=hg;subst hl;obtain⟨f0,f1,f2,f3,f4,f5⟩:=hf it (by simp)
  exact UW (I.ok.hd hc) I hd st hi λh' eb=>⟨rfl,I.turned (t':=s.toks) (λb o hb e=>eb b o hb e) f0 f1 f3 f4 f5⟩
 self:=λ_ _ _ _ _ st h=>wpAny_pyIter_keyiter st h
def su(tl:TE):TI:=λZ H R=>tl Z H λx H1=>∃a es ep,x=.ref a/\H1 a=some (.dG es ep)/\R (wX a es.length ep) H1
def PH(hl:PE X l tl):PI X tg l (su tl):=by
 intro af s Z H R I h;refine cQ (hl af s Z H _ I h) λv s1 hh=>?_
 obtain⟨x,H1,I1,r1,q1⟩:=hh;obtain⟨a,es,ep,e,hd,q⟩:=q1;subst e;cases r1;refine OI I1 hd ?_;refine⟨s1.heap.objs.size,[s1.heap.objs.size],_,_,H1,rfl,I1.kept (t':=s1.toks) λb o e=>jJ _ e,UX a _ _ _,⟨_,oG _ rfl,rfl,rfl⟩,λb hb=>?_,q⟩
 have e:b=s1.heap.objs.size:=by simpa using hb
 subst e;exact I1.qy (cX _) (I1.cV.fresh (cX _))
def e8f{w1 w2:TI}(h1:PI X tg l w1)(h2:PI X tg l w2):PI X tg l (λZ H R=>w1 Z H R\/w2 Z H R):=by
 intro af s Z H R I h;rcases h with h|h
 .exact h1 af s Z H R I h
 .exact h2 af s Z H R I h
def UY{tt:TT}{te:TE}{τ:St}{Fin:List V->Hp->Prop}(Pv:Nat->St->List V->Hp->Prop)(h0:Pv 0 τ [] H)(hl:∀i τ aP H,i<=es.length->Pv i τ aP H->H a=some (.dG es ep))
  (hs:∀i e τ aP H,es[i]?=some e->Pv i τ aP H->g e.2.1 τ H λτ2 H2=>tt τ2 H2 λb H3=>if b=true then te τ2 H3 λv H4=>aP.length<sizeLine/\Pv (i+1) τ2 (aP++[v]) H4 else Pv (i+1) τ2 aP H3)
  (hd:∀τ aP H,Pv es.length τ aP H->Fin aP H):lV (wX a es.length ep) g tt te τ H Fin:=by
 refine⟨es.length,Pv,h0,λi τ aP H hi p=>?_⟩
 have q:=hl i τ aP H hi p;by_cases g_:i<es.length
 .refine .inr ⟨g_,⟨es,q,rfl,g_⟩,λx H' y=>?_⟩
  obtain⟨e,y⟩:=y;subst e;obtain⟨e,e1,e2⟩:=y es q;subst e2;exact hs i e τ aP _ e1 p
 .have e:i=es.length:=by lia
  subst e;exact .inl ⟨⟨es,q,rfl,cX _⟩,hd τ aP H p⟩
def tF(it:GE):Gm->ak (List D×Gm):=λQ0=>(ay it Q0).bind λp=>match p.1 with
 |.own (.Y (.lst ds))=>some (ds,p.2)
 |.own (.Y (.aI kvs))=>some (kvs.map (·.1.d),p.2)
 |_=>none
def V7{fa:GE}{cap:List Nat}:jT K cap (λZ H R=>n8 K (tG K (ay fa)) Z H R\/su (tG K (ay fa)) Z H R) (tF fa):=by
 intro Z F H A Q0 aJ ds R k e w;unfold tF at e;obtain⟨⟨r,cD⟩,q,e'⟩:=fm.mp e;dsimp only at e';split at e'
 .cases e';exact .inl (tQ Z F H A Q0 aJ ds R k (by unfold iX;rw[q];rfl) w)
 .rename_i kvs
  cases e';refine .inr ⟨F,A,Q0,_,_,k,q,λv H1 pp=>?_⟩
  obtain⟨F1,A1,x,k1,_⟩:=pp;obtain⟨B,C,h1,h2,h3⟩:=ai.one (Z:=Z) k1.os;have rp:=rD h1;subst h3;obtain⟨k2,x2⟩:=k1.sub h2 (.bS (pK _ _));cases rp with
  |flat z _=>cases z
  |@aI a ws _ ep _ _ hd hk rk ri _=>
   refine⟨a,ws,ep,rfl,k1.le _ _ hd,w (wX a ws.length ep) H1 F1 C (x.trans x2) k2 λg tt te τ Fin Pv h0 hF hs K0=>?_⟩
   have hl:ws.length=(kvs.map (·.1.d)).length:=by have:=rk.length;simpa using this
   refine UY (es:=ws) Pv h0 (λi τ aP H hi p=>?_) (λi e τ aP H hx p=>?_) (λτ aP H p=>K0 τ aP H (by rw[<-hl];exact p))
   .obtain⟨⟨F',s1,s2⟩,_⟩:=hF i τ aP H p;exact(s1.trans s2) _ _ hd
   .have hi:i<(kvs.map (·.1.d)).length:=by
     have:=(iA.mp hx).1;lia
    obtain⟨x2,sr,rx⟩:=rk.get (i:=i) (d:=(kvs.map (·.1.d))[i]) (i8 hi)
    rw[kc,hx] at sr;cases sr;exact hs i _ e.2.1 τ aP H (PC (i8 hi)) (λF' s=>rx.mono s) p
 .cases e'
def XH(K:FG)(hl:PE X l tl)(hK:X.K=K:=by rfl):PI X tg l (λZ H R=>n8 K tl Z H R\/su tl Z H R):=e8f (tO K hl hK) (PH hl)
theorem XI(it:GE)(Q0:Gm):tF it Q0=(ay it Q0).bind λp=>match p.1 with
 |.own (.Y (.lst ds))=>some (ds,p.2)
 |.own (.Y (.aI kvs))=>some (kvs.map (·.1.d),p.2)
 |_=>none:=rfl
section
variable{X:Cx}{K:FG}
end
section
variable{K:FG}{F H:Hp}
theorem Hv{k:TK}{c:O}:∀{ws:List (TK×V×V)} {kvs:List (TK×O)} {A:List ao},ws.map (·.1)=kvs.map (·.1)->ai K F H (ws.map λp=>some p.2.2) (kvs.map λp=>some p.2) A->iM kvs k=some c->
  ∃v Ac B,jF ws k=some v/\ai K F H [some v] [some c] Ac/\A.Perm (Ac++B)/\
   ∀F' H' c' A',aO F F'->(∀a∈B,∀u,H a=some u->H' a=some u)->ai K F' H' [some v] [some c'] A'->∃D,ai K F' H' (ws.map λp=>some p.2.2) ((cP kvs k c').map λp=>some p.2) D/\a_ D (A'++B)/\(cP kvs k c').map (·.1)=kvs.map (·.1)
 |[],[],A,_,_,e=>by cases e
 |w::ws,p::kvs,A,hk,h,e=>by
  rw[cY,cY] at hk;injection hk with h1 h2;obtain⟨B1,B2,g1,g2,rfl⟩:=ai.one h;unfold iM at e;rw[qi] at e;unfold jF;rw[qi,h1];by_cases q:p.1=k
  .rw[ig q] at e ⊢;dsimp only at e ⊢;cases e;refine⟨w.2.2,B1,B2,rfl,g1,.refl _,λF' H' c' A' sf kp w'=>⟨A'++B2,?_,a_.refl _,?_⟩⟩
   .unfold cP;rw[aY q];exact ai.app (τ:=[some w.2.2]) (Θ:=[some c']) w' (g2.keep sf kp)
   .unfold cP;rw[aY q];rfl
  .rw[ij q] at e ⊢;dsimp only at e ⊢;obtain⟨v,Ac,B,j1,j2,j3,j4⟩:=Hv (k:=k) (c:=c) h2 g2 e;refine⟨v,Ac,B1++B,j1,j2,?_,λF' H' c' A' sf kp w'=>?_⟩
   .refine(j3.append_left B1).trans ?_;rw[<-iN,<-iN];exact qN.append_right _
   .obtain⟨D,z1,z2,z3⟩:=j4 F' H' c' A' sf (λa m=>kp a (ir _ m)) w'
    refine⟨B1++D,?_,?_,?_⟩
    .unfold cP;rw[bb q];exact ai.app (τ:=[some w.2.2]) (Θ:=[some p.2]) (g1.keep sf λa m=>kp a (jQ _ m)) z1
    .refine((a_.refl B1).app z2).trans (.cq ?_);rw[<-iN,<-iN];exact qN.append_right _
    .unfold cP;rw[bb q,cY,z3];rfl
 |[],_::_,_,h,_,_=>by simp at h
 |_::_,[],_,h,_,_=>by simp at h
def nest{kvs inner:List (TK×O)}{d1:D}{k1:TK}{y1:V}(k:OK K F H Z Q0 A)(ho:Q0[i]?=some (some (.aI kvs)))(e1:cJ d1=some k1)(r1:ax K F [y1] [d1])(ev:iM kvs k1=some (.aI inner)):
  ∃a b,Z[i]?=some (some (.ref a))/\ju K H a y1 (some (.ref b))/\
   (∀(d2:D) (k2:TK) (y2:V) (n:Int),cJ d2=some k2->ax K F [y2] [d2]->iM inner k2=some (.Y (.int n))->ju K H b y2 (some (.int n)))/\
   ∀(d2:D) (k2:TK) (y2 v:V) (d:D),cJ d2=some k2->ax K F [y2] [d2]->ax K F [v] [d]->inner.length<1000000->∃H4 A',ux K H b y2 v H4/\OK K F H4 Z (Q0.set i (some (.aI (cP kvs k1 (.aI (cP inner k2 (.Y d))))))) A'/\Ext F H A F H4 A':=by
 obtain⟨x,Ai,C,g1,g2,g3,g4⟩:=k.os.take ho;have nd:(Ai++C).Nodup:=g4.nodup_iff.mp k.nd;have fr:∀a∈Ai++C,F a=none:=λa m=>k.fr a (g4.mem_iff.mpr m)
 obtain⟨n1,n2,n3⟩:=lh.mp nd;obtain⟨a,ws,ep,Ap,rfl,rfl,hl,hk,rk,ch⟩:=IV g2
 .obtain⟨na,nAp⟩:=i7.mp n1;obtain⟨v1,Ac,B1,j1,j2,j3,j4⟩:=Hv hk ch ev;have yh:(Ac++B1).Nodup:=j3.nodup_iff.mp nAp;obtain⟨m1,m2,m3⟩:=lh.mp yh;obtain⟨b,wi,FN,Aq,rfl,rfl,Sl,Cj,LX,PV⟩:=IV j2
  .obtain⟨nb,nAq⟩:=i7.mp m1;have GB:∀z,z∈b::Aq->z∈Ap:=λz m=>j3.mem_iff.mpr (jQ _ m)
   have Rw:=nI e1;refine⟨a,b,g1,⟨ws,ep,k1,hl,by rw[xv hk];exact rk.mono k.le,by rw[Rw.1];exact r1.mono k.le,Rw.2,j1.symm⟩,λd2 k2 y2 n e2 r2 ev2=>?_,λd2 k2 y2 v d e2 r2 rv hz=>?_⟩
   .have zC:=nI e2;obtain⟨v2,Ad,B3,z1,z2,_⟩:=Hv Cj PV ev2;obtain⟨rfl,_⟩:=tX z2;exact⟨wi,FN,k2,Sl,by rw[xv Cj];exact LX.mono k.le,by rw[zC.1];exact r2.mono k.le,zC.2,z1.symm⟩
   .have zC:=nI e2;have hlen:wi.length=inner.length:=by have:=congrArg List.length Cj;simpa using this
    obtain⟨E,p1,p2,p3,p4⟩:=Il (k:=k2) (y:=y2) (ai.Y rv .nil) (by rw[zC.1];exact r2) Cj LX PV
    rw[gc] at p2;have nbE:b∉E:=λm=>nb (p2.mem b m)
    obtain⟨H4,xR⟩:∃H4,upd H b (.dG (hG wi k2 y2 v) (s9 wi k2 FN))=H4:=⟨_,rfl⟩;have hb4:H4 b=some (.dG (hG wi k2 y2 v) (s9 wi k2 FN)):=by rw[<-xR];exact jG
    have Gv:∀z,z≠b->H4 z=H z:=λz q=>by rw[<-xR,dr q]
    have hd4:∀z,H z≠none->H4 z≠none:=λz h=>by rw[<-xR];exact Ba z h
    have xZ:ai K F H4 [some (.ref b)] [some (.aI (cP inner k2 (.Y d)))] (b::E++[]):=
     .aI hb4 p3 p4 (p1.keep (aO.refl _) λz m u e=>by rw[Gv z λq=>nbE (by rw[<-q];exact m)];exact e) .nil
    obtain⟨D,q1,q2,q3⟩:=j4 F H4 (.aI (cP inner k2 (.Y d))) (b::E++[]) (aO.refl _) (λz m u e=>by
     rw[Gv z λq=>m3 b (qJ ..) z m q.symm];exact e) xZ
    rw[lR] at q2;have ab:a≠b:=λq=>na (by rw[q];exact GB b (qJ ..))
    have sD:a_ D Ap:=(q2.trans ((((a_.refl [b]).app p2:a_ ([b]++E) ([b]++Aq))).app (a_.refl B1))).trans (.cq j3.symm);have ha4:H4 a=some (.dG ws ep):=by rw[Gv a ab];exact hl
    have outer:ai K F H4 [some (.ref a)] [some (.aI (cP kvs k1 (.aI (cP inner k2 (.Y d)))))] (a::D++[]):=by
     refine .aI ha4 (by rw[q3];exact hk) ?_ q1 .nil
     have em:(cP kvs k1 (.aI (cP inner k2 (.Y d)))).map (·.1.d)=kvs.map (·.1.d):=by
      rw[show(λx:TK×O=>x.1.d)=TK.d∘(λx:TK×O=>x.1) from rfl,<-mE,q3,mE]
     rw[em];exact rk
    rw[lR] at outer;have nbC:b∉C:=λm=>n3 b (qK _ (GB b (qJ ..))) b m rfl
    have KD:ai K F H4 Z (Q0.set i none) C:=g3.keep (aO.refl _) λz m u e=>by rw[Gv z λq=>nbC (by rw[<-q];exact m)];exact e
    have hi:i<Q0.length:=(iA.mp ho).1;obtain⟨G,w1,C2,w2,w3⟩:=ai.put outer i KD (by rw[Dv];exact hi)
    rw[xc g1,My] at w1;have sG:a_ G A:=((a_.cq w2).trans (((a_.refl [a]).app sD:a_ ([a]++D) ([a]++Ap)).app (.bS w3))).trans (.cq g4.symm);refine⟨H4,G,⟨wi,FN,k2,Sl,by rw[xv Cj];exact LX.mono k.le,by rw[zC.1];exact r2.mono k.le,zC.2,jq (by lia:wi.length<1000000) (by decide),xR.symm⟩,⟨λz u e=>?_,w1,sG.nodup k.nd,λz m=>k.fr z (sG.mem z m)⟩,aO.refl _,λz u e nz=>?_,λz h=>?_,λz h=>.inl h,λz m=>.inl (sG.mem z m)⟩
    .rw[<-xR,dr]
     .exact k.le z u e
     .intro q;rw[q,fr b (jQ _ (qK _ (GB b (qJ ..))))] at e;cases e
    .rw[<-xR,dr]
     .exact e
     .intro q;exact nz (by rw[q];exact g4.mem_iff.mpr (jQ _ (qK _ (GB b (qJ ..)))))
    .rw[<-xR];exact Ba z h
end
noncomputable def sV(i:Nat):Gm->ak D:=λQ0=>match Q0[i]? with|some (some (.Y d))=>some d|_=>none
def sC(d:D):Gm->ak D:=λ_=>some d
def nE(K:FG)(te:TE)(f:Gm->ak D):Prop:=∀(F H:Hp) (Z:St) (Q0:Gm) (A:List ao) (d:D) (Q:VK),OK K F H Z Q0 A->f Q0=some d->(∀v,ax K F [v] [d]->Q v H)->te Z H Q
def uN:nE K (qI i) (sV i):=by
 intro F H Z Q0 A d Q k e q;unfold sV at e;split at e
 .rename_i d' h
  cases e;obtain⟨v,Ai,B,g1,g2,_⟩:=k.os.take h;exact⟨v,g1,q v (rD g2)⟩
 .cases e
def Kn{d:D}{v:V}(h:nJ d=some v):nE K (tC v) (sC d):=by
 intro F H Z Q0 A d' Q k e q;cases e;exact q v (.flat h .nil)
def t8(i:Nat)(f1 f2 fv:Gm->ak D):GS:=λQ0=>(fv Q0).bind λv=>(f1 Q0).bind λd1=>(cJ d1).bind λk1=>(f2 Q0).bind λd2=>(cJ d2).bind λk2=>match Q0[i]? with
 |some (some (.aI kvs))=>match iM kvs k1 with
  |some (.aI inner)=>if inner.length<1000000 then some (.nx,Q0.set i (some (.aI (cP kvs k1 (.aI (cP inner k2 (.Y v))))))) else none
  |_=>none
 |_=>none
def t9(op:Int->Int->Int)(i:Nat)(f1 f2 fv:Gm->ak D):GS:=λQ0=>(f1 Q0).bind λd1=>(cJ d1).bind λk1=>(f2 Q0).bind λd2=>(cJ d2).bind λk2=>match Q0[i]?,fv Q0 with
 |some (some (.aI kvs)),some (.int j)=>match iM kvs k1 with
  |some (.aI inner)=>match iM inner k2 with
   |some (.Y (.int n))=>if inner.length<1000000 then some (.nx,Q0.set i (some (.aI (cP kvs k1 (.aI (cP inner k2 (.Y (.int (op n j))))))))) else none
   |_=>none
  |_=>none
 |_,_=>none
section
variable{X:Cx}{K:FG}{m:List Bool}{e o e1 e2:Expr}{t1 t2 tv:TE}{f1 f2 fv:Gm->ak D}{i:Nat}{pos pos' p1:Pos}
def PJ(hv:PE X e tv)(sv:nE K tv fv)(ho:PE X o (qI i))(h1:PE X e1 t1)(s1:nE K t1 f1)(h2:PE X e2 t2)(s2:nE K t2 f2)(hu:X.A.units+41<cLine)(hp:A7 e1:=by exact λ_ _=>rfl)
  (ha:∀v,assign (.Subscript (.Subscript o e1 p1) e2 pos') X.env v=(do
   let ov <-holding [v] (eval (.Subscript o e1 p1) X.env)
   let iv <-holding [v,ov] (eval e2 X.env)
   standAt pos'
   holding [v,ov,iv] (setItem ov iv v)
   release [v,ov,iv] []):=by intro _;rfl)
  (hs:swapsWithSole [.Subscript (.Subscript o e1 p1) e2 pos'] e pos.line X.env=pure false:=by rfl) (hw:swappedStores [.Subscript (.Subscript o e1 p1) e2 pos'] e X.env=pure none:=by rfl)
  (hn:(assignEach [.Subscript (.Subscript o e1 p1) e2 pos'] X.env).map (·.2)=[assign (.Subscript (.Subscript o e1 p1) e2 pos') X.env]:=by rfl) (hK:X.K=K:=by rfl):PS X (.Assign [.Subscript (.Subscript o e1 p1) e2 pos'] e pos) (tS K m (t8 i f1 f2 fv)):=by
 subst hK;refine(Jm hv (QD (JX (Km X.K hu) ho h1 hp) h2 (J3 hu) ha) hs hw hn).mono λD Z H t=>?_
 obtain⟨F,A,Q0,fl,aw,k,e,w⟩:=t;unfold t8 at e;obtain⟨v,q1,e⟩:=fm.mp e;obtain⟨d1,q2,e⟩:=fm.mp e;obtain⟨k1,q3,e⟩:=fm.mp e;obtain⟨d2,q4,e⟩:=fm.mp e;obtain⟨k2,q5,e⟩:=fm.mp e;split at e
 .rename_i kvs hi
  split at e
  .rename_i inner wk
   split at e
   .rename_i hz
    cases e;refine sv F H Z Q0 A v _ k q1 λvv rv=>?_
    obtain⟨x,Ax,Bx,gx,_⟩:=k.os.take hi;refine⟨x,gx,s1 F H Z Q0 A d1 _ k q2 λy1 r1=>?_⟩
    obtain⟨a,b,n1,n2,n3,n4⟩:=nest k hi q3 r1 wk;rw[gx] at n1;cases n1;refine .inr (.inr (.inr ⟨a,_,rfl,n2,?_⟩));refine s2 F H Z Q0 A d2 _ k q4 λy2 r2=>?_
    obtain⟨H4,A',x1,x2,x3⟩:=n4 d2 k2 y2 vv v q5 r2 rv hz;exact .inr ⟨b,H4,rfl,x1,w Z H4 ⟨F,A',x3,x2,Kept.refl⟩⟩
   .cases e
  .cases e
 .cases e
def V8(hu:X.A.units+41<cLine):AA X (λo i H Q=>∃a v,o=.ref a/\ju X.K H a i (some v)/\Q v H):=by
 intro af s Z H o i ov iv Q I ro ri h;obtain⟨a,v,rfl,g,q⟩:=h;cases ro;exact NP (by lia) I g ri λw' s' I' r'=>⟨v,H,I',r',q⟩
def PK{op:Operator}{g:Int->Int->Int}(Lf:yP X op (GD g))(ho:PE X o (qI i))(h1:PE X e1 t1)(s1:nE K t1 f1)(h2:PE X e2 t2)(s2:nE K t2 f2)(hv:PE X e tv)(sv:nE K tv fv)(hu:X.A.units+41<cLine)(hp:A7 e1:=by exact λ_ _=>rfl)
  (ha:∀ov iv new,augStore e2 ov iv new=(do holding [new,ov,iv] (setItem ov iv new);release [new,ov,iv] [];pure .next):=by intros;rfl) (hK:X.K=K:=by rfl):PS X (.AugAssign (.Subscript (.Subscript o e1 p1) e2 pos') op e pos) (tS K m (t9 g i f1 f2 fv)):=by
 subst hK;refine(WX (JX (Km X.K hu) ho h1 hp) h2 (V8 hu) hv Lf (J3 hu) ha).mono λD Z H t=>?_
 obtain⟨F,A,Q0,fl,aw,k,e,w⟩:=t;unfold t9 at e;obtain⟨d1,q2,e⟩:=fm.mp e;obtain⟨k1,q3,e⟩:=fm.mp e;obtain⟨d2,q4,e⟩:=fm.mp e;obtain⟨k2,q5,e⟩:=fm.mp e;split at e
 .rename_i kvs j hi q1
  split at e
  .rename_i inner wk
   split at e
   .rename_i n hn
    split at e
    .rename_i hz
     cases e;obtain⟨x,Ax,Bx,gx,_⟩:=k.os.take hi;refine⟨x,gx,s1 F H Z Q0 A d1 _ k q2 λy1 r1=>?_⟩
     obtain⟨a,b,n1,n2,n3,n4⟩:=nest k hi q3 r1 wk;rw[gx] at n1;cases n1;refine .inr (.inr (.inr ⟨a,_,rfl,n2,?_⟩));refine s2 F H Z Q0 A d2 _ k q4 λy2 r2=>?_
     refine⟨b,_,rfl,n3 d2 k2 y2 n q5 r2 hn,sv F H Z Q0 A _ _ k q1 λvv rv=>?_⟩
     have evv:vv=.int j:=by
      cases rv with
      |flat z _=>cases z;rfl
     subst evv;refine⟨n,j,rfl,rfl,?_⟩;obtain⟨H4,A',x1,x2,x3⟩:=n4 d2 k2 y2 (.int (g n j)) (.int (g n j)) q5 r2 (.flat rfl .nil) hz;exact .inr ⟨b,H4,rfl,x1,w Z H4 ⟨F,A',x3,x2,Kept.refl⟩⟩
    .cases e
   .cases e
  .cases e
 .cases e
end
def rZ(i:Nat)(f:GS):GS:=λQ0=>match Q0[i]? with
 |some (some o)=>f (Q0.set i (some (.Y o.d)))
 |_=>none
section
variable{X:Cx}{K:FG}{m:List Bool}{body:List Stmt}{f:GS}{i:Nat}
def OK.rW{o:O}(k:OK K F H Z Q0 A)(ho:Q0[i]?=some (some o)):∃F' A',OK K F' H Z (Q0.set i (some (.Y o.d))) A'/\Ext F H A F' H A':=by
 obtain⟨v,Ai,B,g1,g2,g3,g4⟩:=k.os.take ho;have nd:(Ai++B).Nodup:=g4.nodup_iff.mp k.nd;have k1:OK K F H (some v::Z) (some o::Q0.set i none) (Ai++B):=⟨k.le,g2.app g3,nd,λa m=>k.fr a (g4.mem_iff.mpr m)⟩
 obtain⟨F',A',k2,x⟩:=k1.freeze;obtain⟨B1,C1,h1,h2,h3⟩:=ai.one k2.os;have eB:B1=[]:=by cases h1 with|Y _ t=>cases t;rfl
 subst eB;rw[gc] at h3;subst h3;have hi:i<Q0.length:=(iA.mp ho).1;obtain⟨G,w1,C2,w2,w3⟩:=ai.put h1 i h2 (by rw[Dv];exact hi)
 rw[xc g1,My] at w1;have sG:a_ G A':=(a_.cq w2).trans (by rw[gc];exact .bS w3)
 refine⟨F',G,⟨k2.le,w1,sG.nodup k2.nd,λa m=>k2.fr a (sG.mem a m)⟩,⟨x.ff,λa u e n=>x.keep a u e (λm=>n (g4.mem_iff.mpr m)),x.rR,λa h=>?_,λa m=>?_⟩⟩
 .rcases x.new a h with z|z|z
  .exact .inl z
  .exact .inr (.inl (g4.mem_iff.mpr z))
  .exact .inr (.inr z)
 .rcases x.own a (sG.mem a m) with z|z
  .exact .inl (g4.mem_iff.mpr z)
  .exact .inr z
def RC(h:iu X body (tS K m f)):iu X body (tS K m (rZ i f)):=by
 intro af s Z H D I t;refine h af s Z H D I ?_;obtain⟨F,A,Q0,fl,aw,k,e,w⟩:=t;unfold rZ at e;split at e
 .rename_i o ho
  obtain⟨F',A',k',x⟩:=k.rW ho;exact⟨F',A',_,fl,aw,k',e,w.step x Kept.refl⟩
 .cases e
end
def V9{D:Ends}(Pv:Nat->St->Hp->Prop)(h0:Pv 0 Z H)(hl:∀i Z H,i<=es.length->Pv i Z H->H a=some (.dG es ep))
  (hs:∀i e Z H,es[i]?=some e->Pv i Z H->g e.2.1 Z H λZ2 H2=>tb { D with nx:=Pv (i+1),ct:=Pv (i+1),bk:=D.nx} Z2 H2) (hd:∀Z H,Pv es.length Z H->D.nx Z H) :
  ∃W:Nat->Nat->St->Hp->Prop,(∃m,W 0 m Z H)/\∀i m Z H,W i m Z H->
   ((wX a es.length ep).stop i H/\D.nx Z H)\/((wX a es.length ep).go i H/\∃N:St->Hp->Prop,(∀Z' H',N Z' H'->∃m',m'<m/\W (i+1) m' Z' H')/\∀x H',(wX a es.length ep).vA i H x H'->g x Z H' λZ2 H2=>tb { D with nx:=N,ct:=N,bk:=D.nx} Z2 H2):=by
 refine⟨λi m Z H=>m=es.length - i/\i<=es.length/\Pv i Z H,⟨es.length,by simp,nq _,h0⟩,?_⟩
 rintro i m Z H ⟨rfl,hi,p⟩;have q:=hl i Z H hi p;by_cases lt:i<es.length
 .refine .inr ⟨⟨es,q,rfl,lt⟩,Pv (i+1),λZ' H' p'=>⟨es.length - (i+1),by lia,rfl,lt,p'⟩,λx H' y=>?_⟩
  obtain⟨e,y⟩:=y;subst e;obtain⟨e,e1,e2⟩:=y es q;subst e2;exact hs i e Z _ e1 p
 .have e:i=es.length:=by lia
  subst e;exact .inl ⟨⟨es,q,rfl,cX _⟩,hd Z H p⟩
def Bu(it:GE)(g:GG)(f:GS):GS:=λQ0=>(ay it Q0).bind λp=>match p.1 with
 |.own (.Y (.aI kvs))=>fK g f (kvs.map (·.1.d)) p.2
 |_=>none
section
variable{X:Cx}{K:FG}{m:List Bool}{f:GS}{fa:GE}{tg iter:Expr}{t:TG}{gg:GG}{body:List Stmt}{pos:Pos}
def XJ(hp:PassesOwn (model X.prog X.w) X.A X.env X.xe)(hi:PE X iter (tG K fa))(hg:PG X tg t)(ht:gA K m t gg)(hb:iu X body (tS K m f))(hc:X.calm=true:=by rfl)(hK:X.K=K:=by rfl)(hs:∀x,foldedSetIterable iter X.env x=pure x:=by intro _;rfl):PS X (.For tg iter body [] pos) (tS K m (Bu fa gg f)):=by
 subst hK;refine(xr hp hc (PH (cf hi)) hg hb hs).mono λD Z H tt=>?_
 obtain⟨F,A,Q0,fl,aw,k,e,w⟩:=tt;unfold Bu at e;obtain⟨⟨r,aJ⟩,q,e⟩:=fm.mp e;dsimp only at e;split at e
 .rename_i kvs
  refine⟨F,A,Q0,_,aJ,k,q,λv H1 pp=>?_⟩
  obtain⟨F1,A1,x,k1,_⟩:=pp;obtain⟨rp,st⟩:=LI.start k1 x w e;cases rp with
  |flat z _=>cases z
  |@aI a ws _ ep _ _ hd hk rk ri _=>
   have hlen:=rk.length;refine⟨a,ws,ep,rfl,k1.le _ _ hd,V9 (es:=ws) (LI X.K m gg f D F1 fl aw (kvs.map (·.1.d))) st (λi Z' H' _ p=>p.same _ _ hd) (λi x' Z' H' hx p=>p.step ht rk (by rw[kc,hx];rfl)) λZ' H' p=>p.fin (by rw[<-hlen,bO];exact cX _)⟩
 .cases e
end
mutual
noncomputable def qY:D->Bool
 |.aI _=>false
 |.exc _ _=>false
 |.lst xs=>iD xs
 |.tup xs=>iD xs
 |_=>true
noncomputable def iD:List D->Bool
 |[]=>true
 |d::ds=>qY d&&iD ds
end
mutual
noncomputable def qv:O->Bool
 |.Y d=>qY d
 |.lst os=>qw os
 |.tup os=>qw os
 |.aI kvs=>nP kvs
noncomputable def qw:List O->Bool
 |[]=>true
 |o::os=>qv o&&qw os
noncomputable def nP:List (TK×O)->Bool
 |[]=>true
 |p::kvs=>qv p.2&&nP kvs
end
noncomputable def oR:Gm->Bool
 |[]=>true
 |none::Q0=>oR Q0
 |some o::Q0=>qv o&&oR Q0
mutual
theorem Jy:∀k:TK,qY k.d=true
 |.inl _=>by simp only[TK.d,qY]
 |.inr _=>by simp only[TK.d,qY]
 |.tp l=>by simp only[TK.d,qY];exact p5 l
theorem p5:∀l:List TK,iD (TK.dl l)=true
 |[]=>by simp only[TK.dl,iD]
 |k::l=>by simp only[TK.dl,iD,Jy k,p5 l,MF]
end
theorem RD:∀l:List (TK×O),iD (l.map (·.1.d))=true
 |[]=>by simp only[mT,iD]
 |p::l=>by simp only[cY,iD,Jy,RD l,MF]
theorem Jz:∀os:List O,oR (os.map some)=qw os
 |[]=>by simp only[mT,oR,qw]
 |o::os=>by simp only[cY,oR,qw,Jz os]
theorem QU:∀l:List (TK×O),oR (l.map λp=>some p.2)=nP l
 |[]=>by simp only[mT,oR,nP]
 |p::l=>by simp only[cY,oR,nP,QU l]
def i_(F F':Hp):Prop:=∀a u,F a=some u->(∀es ep,u≠.dG es ep)->F' a=some u
section
variable{K:FG}{F F' H:Hp}
def i_.rd{a:ao}{u:HO}(d:i_ F F')(h:Rd F a u)(hn:∀es ep,u≠.dG es ep):Rd F' a u:=by
 rcases h with h|⟨o,h⟩
 .exact .inl (d _ _ h hn)
 .exact .inr ⟨o,d _ _ h λes ep z=>by cases z⟩
def i_.sqT{a:ao}{xs:List V}(d:i_ F F')(h:iB K F a xs):iB K F' a xs:=by
 rcases h with h|h
 .exact .inl (d.rd h λes ep z=>by cases z)
 .exact .inr h
def Nh(d:i_ F F'){vs:List V}{ds:List D}(h:ax K F vs ds):iD ds=true->ax K F' vs ds:=by
 induction h with
 |nil=>exact λ_=>.nil
 |flat e _ ih=>intro c;simp only[iD,lQ] at c;exact .flat e (ih c.2)
 |lst e _ _ i1 i2=>intro c;simp only[iD,qY,lQ] at c;exact .lst (d.rd e λes ep z=>by cases z) (i1 c.1) (i2 c.2)
 |tup e _ _ i1 i2=>intro c;simp only[iD,qY,lQ] at c;exact .tup (d.sqT e) (i1 c.1) (i2 c.2)
 |aI e k _ _ _ i0 i1 i2=>intro c;simp only[iD,qY,Dt] at c;cases c
 |exc e _ i=>intro c;simp only[iD,qY,Dt] at c;cases c
 |fH e _ i=>
  intro c;simp only[iD,qY,G'] at c;refine .fH ?_ (i c);rcases e with e|e
  .exact .inl (d.rd e λes ep z=>by cases z)
  .exact .inr e
def Nj(d:i_ F F'){Z:St}{Q0:Gm}{A:List ao}(h:ai K F H Z Q0 A):oR Q0=true->ai K F' H Z Q0 A:=by
 induction h with
 |nil=>exact λ_=>.nil
 |skip _ ih=>intro c;simp only[oR] at c;exact .skip (ih c)
 |Y r _ ih=>intro c;simp only[oR,qv,lQ] at c;exact .Y (Nh d r (by simp only[iD,c.1,MF])) (ih c.2)
 |lst e _ _ i1 i2=>intro c;simp only[oR,qv,lQ] at c;exact .lst e (i1 (by rw[Jz];exact c.1)) (i2 c.2)
 |tup e _ _ i1 i2=>intro c;simp only[oR,qv,lQ] at c;exact .tup e (i1 (by rw[Jz];exact c.1)) (i2 c.2)
 |aI e q r _ _ i1 i2=>intro c;simp only[oR,qv,lQ] at c;exact .aI e q (Nh d r (RD _)) (i1 (by rw[QU];exact c.1)) (i2 c.2)
noncomputable def B4:O->Bool
 |.Y _=>true
 |_=>false
def Rv:O->Bool
 |.aI kvs=>kvs.all λp=>B4 p.2
 |.Y _=>true
 |_=>false
def BU:O->Bool
 |.aI kvs=>kvs.all λp=>Rv p.2
 |_=>false
theorem OJ:∀{ws:List (ak V)} {kvs:List (TK×O)} {A:List ao},ai K F H ws (kvs.map λp=>some p.2) A->(kvs.all λp=>B4 p.2)=true->A=[]
 |_,[],_,h,_=>by cases h;rfl
 |_,(k,o)::kvs,_,h,c=>by
  rw[vx,lQ] at c;rw[cY] at h;cases h with
  |Y _ t=>exact OJ t c.2
  |lst _ _ _=>cases c.1
  |tup _ _ _=>cases c.1
  |aI _ _ _ _ _=>cases c.1
theorem JA:∀{ws:List (ak V)} {kvs:List (TK×O)} {A:List ao},ai K F H ws (kvs.map λp=>some p.2) A->(kvs.all λp=>Rv p.2)=true->∀a∈A,∃es ep,H a=some (.dG es ep)
 |_,[],_,h,_=>by cases h;intro a m;cases m
 |_,(k,o)::kvs,_,h,c=>by
  rw[vx,lQ] at c;rw[cY] at h;cases h with
  |Y _ t=>exact JA t c.2
  |lst _ _ _=>cases c.1
  |tup _ _ _=>cases c.1
  |@aI b kv ps ep A1 B1 _ _ e q r i t=>
   have h0:A1=[]:=OJ i c.1;subst h0;intro a m;rcases eX.mp m with m|m
   .rw[m];exact⟨_,_,e⟩
   .exact JA t c.2 a (by simpa using m)
def Zo{v:V}{o:O}{A:List ao}(h:ai K F H [some v] [some o] A)(c:BU o=true):∀a∈A,∃es ep,H a=some (.dG es ep):=by
 cases o with
 |aI kvs=>
  cases h with
  |@aI b kv ps ep A1 B1 _ _ e q r i t=>
   have h0:B1=[]:=by cases t;rfl
   subst h0;intro a m;rcases eX.mp m with m|m
   .rw[m];exact⟨_,_,e⟩
   .exact JA i c a (by simpa using m)
 |_=>cases c
def bor(M:GM):GM:=λos=>match os with
 |o::os=>if BU o=true then(M (.Y o.d::os)).bind λr=>match r.2 with
   |none::fin=>if qv r.1=true/\oR fin=true then some (r.1,some o::fin) else none
   |_=>none
  else none
 |_=>none
def Zp{n:Nat}{M:GM}{vs:List V}{Q:VK}{E:XK}(s:fT K n (bor M) vs H Q E):fT K n M vs H Q E:=by
 obtain⟨hn,F,A,os,o,fin,k,e,w⟩:=s;refine⟨hn,?_⟩;unfold bor at e;split at e
 .rename_i ow os
  split at e
  .rename_i hd
   obtain⟨⟨r,fn⟩,e1,e2⟩:=fm.mp e;dsimp only at e2;split at e2
   .rename_i dz
    split at e2
    .rename_i hc
     cases e2;have hl:=k.os.length
     match vs,hl with
     |[],hl=>simp at hl
     |x::vs,_=>
      obtain⟨Aj,C,h1,h2,h3⟩:=ai.one (x:=some x) (y:=some ow) k.os;subst h3;obtain⟨n1,n2,n3⟩:=lh.mp k.nd;have v7:=Zo h1 hd
      let F1:Hp:=λa=>if a∈Aj then H a else F a
      have in1:∀a,a∈Aj->F1 a=H a:=λa m=>aY m
      have vd:∀a,a∉Aj->F1 a=F a:=λa m=>bb m
      have s1:aO F F1:=λa u e=>by
       rw[vd a λm=>by rw[k.fr a (jQ _ m)] at e;cases e]
       exact e
      have le1:aO F1 H:=λa u e=>by
       by_cases m:a∈Aj
       .rw[in1 a m] at e;exact e
       .rw[vd a m] at e;exact k.le a u e
      have r1:ax K F1 [x] [ow.d]:=h1.rep s1 (λa m u e=>by rw[in1 a m];exact e) [x] [ow] rfl rfl
      refine⟨F1,C,.Y ow.d::os,_,_,⟨le1,.Y r1 (h2.keep s1 λa m u e=>e),n2,λa m=>by
       rw[vd a λz=>n3 a z a m rfl];exact k.fr a (ir _ m)⟩,e1,λv H' pc=>?_⟩
      obtain⟨F',A',x',k'⟩:=pc;refine w v H' ?_;obtain⟨B1,C1,j1,j2,j3⟩:=ai.one k'.os;subst j3;have j2:ai K F' H' (some x::vs.map some) (none::dz) C1:=j2;have j4:ai K F' H' (vs.map some) dz C1:=by cases j2 with|skip t=>exact t
      let F2:Hp:=λa=>if a∈Aj then none else F' a
      have Ll:∀a,a∈Aj->F2 a=none:=λa m=>aY m
      have sS:∀a,a∉Aj->F2 a=F' a:=λa m=>bb m
      have Hu:∀a,a∈Aj->∀u,H a=some u->F' a=some u:=λa m u e=>x'.ff a u (by rw[in1 a m];exact e)
      have SY:i_ F' F2:=λa u e nd=>by
       rw[sS a λm=>by
        obtain⟨es,ep,z⟩:=v7 a m;rw[Hu a m _ z] at e;cases e;exact nd es ep rfl]
       exact e
      have sF:aO F F2:=λa u e=>by
       rw[sS a λm=>by rw[k.fr a (jQ _ m)] at e;cases e]
       exact x'.ff a u (s1 a u e)
      have h1':ai K F2 H' [some x] [some ow] Aj:=h1.keep sF λa m u e=>k'.le a u (Hu a m u e)
      have j1':ai K F2 H' [some v] [some o] B1:=Nj SY j1 (by simp only[oR,hc.1,MF])
      have j4':ai K F2 H' (vs.map some) dz C1:=Nj SY j4 hc.2;have SD:∀a,a∈Aj->a∉B1++C1:=λa m z=>by
       obtain⟨es,ep,q⟩:=v7 a m;have:=Hu a m _ q;rw[k'.fr a z] at this;cases this
      obtain⟨p1,p2,p3⟩:=lh.mp k'.nd;refine⟨F2,B1++(Aj++C1),⟨sF,λa u e nz=>x'.keep a u e λm=>nz (ir _ m),x'.rR,λa h=>?_,λa m=>?_⟩,⟨λa u e=>?_,j1'.app (h1'.app j4'),?_,λa m=>?_⟩⟩
      .by_cases z:a∈Aj
       .rw[Ll a z] at h;exact cu rfl h
       .rw[sS a z] at h;rcases x'.new a h with q|q|q
        .rw[vd a z] at q;exact .inl q
        .exact .inr (.inl (ir _ q))
        .exact .inr (.inr q)
      .by_cases z:a∈Aj
       .exact .inl (jQ _ z)
       .have:a∈B1++C1:=by
         rcases eT.mp m with m|m
         .exact jQ _ m
         .exact ir _ ((eT.mp m).elim (λq=>cu q z) id)
        exact(x'.own a this).imp (λq=>ir _ q) id
      .by_cases z:a∈Aj
       .rw[Ll a z] at e;cases e
       .rw[sS a z] at e;exact k'.le a u e
      .refine lh.mpr ⟨p1,lh.mpr ⟨n1,p2,λa m b m' q=>?_⟩,λa m b m' q=>?_⟩
       .subst q;exact SD a m (ir _ m')
       .subst q;rcases eT.mp m' with m'|m'
        .exact SD a m' (jQ _ m)
        .exact p3 a m a m' rfl
      .by_cases z:a∈Aj
       .exact Ll a z
       .rw[sS a z];refine k'.fr a ?_;rcases eT.mp m with m|m
        .exact jQ _ m
        .exact ir _ ((eT.mp m).elim (λq=>cu q z) id)
    .cases e2
   .cases e2
  .cases e
 .cases e
def QV{P:gv}{w:eZ}{mg:Str->ak au}{base:df}{CX:qk}{k:Nat}{f:ao}{fd:lS}{ps:List Str}{n:Nat}{M:GM}(Fn:bQ P w K mg base CX k f fd ps (fT K n M)):bQ P w K mg base CX k f fd ps (fT K n (bor M)):=
 Fn.imp λ_ _ _ _ q=>Zp q
end
section
variable{X:Cx}{K:FG}{pos:Pos}
def w9{x z:Str}(hg:Gl X x)(hm:∃t,X.mg x=some (.str z t))(hd:(x == ("__debug__":Str))=false:=by decide):PE X (.Name x pos) (tC (.str z)):=by
 obtain⟨t,h⟩:=hm;exact WS hg h ⟨t,rfl⟩ hd
def EB(fk fv:GE):GE:=λQ0=>(fk Q0).bind λp=>(fv p.2).bind λq=>match p.1,q.1 with
 |.own (.Y dk),.own o=>(cJ dk).map λk=>(.own (.aI [(k,o)]),q.2)
 |_,_=>none
theorem UZ(fk fv:GE)(Q0:Gm):EB fk fv Q0=(fk Q0).bind λp=>(fv p.2).bind λq=>match p.1,q.1 with
 |.own (.Y dk),.own o=>(cJ dk).map λk=>(.own (.aI [(k,o)]),q.2)
 |_,_=>none:=rfl
def U0{ek ev:Expr}{fk fv:GE}(hu:X.A.units+41<cLine)(hk:PE X ek (tG K fk))(hv:PE X ev (tG K fv))(hK:X.K=K:=by rfl):PE X (.Dict [some ek] [ev] pos) (tG K (EB fk fv)):=(OE hu hk hv).mono λZ H Q t=>by
 subst hK;obtain⟨F,A,Q0,rr,aw,k,e,w⟩:=t;unfold EB at e;obtain⟨⟨r1,aJ⟩,e1,e'⟩:=fm.mp e;clear e;obtain⟨⟨r2,cD⟩,e2,e⟩:=fm.mp e';clear e';dsimp only at e2 e;split at e
 .rename_i dk ov
  obtain⟨key,ek,e⟩:=jt.mp e;cases e;intro p hn;have nA:p∉A:=λm=>k.os.there p m hn
  have s:aO H (upd H p (.dG [] 0)):=uE hn;have k0:OK X.K F (upd H p (.dG [] 0)) Z Q0 A:=⟨k.le.trans s,k.os.keep (aO.refl _) λa _ o e=>s a o e,k.nd,k.fr⟩
  refine⟨F,A,Q0,_,aJ,k0,e1,λx H1 pp=>?_⟩
  obtain⟨F1,A1,x1,k1,hh1⟩:=pp;have k1:OK X.K F1 H1 ([some x]++Z) ([some (.Y dk)]++aJ) A1:=k1;obtain⟨C,kC,fr⟩:=k1.frame rfl;refine⟨F1,C,aJ,_,aw,kC,e2,λy H2 pp=>?_⟩
  obtain⟨F2,A2,x2,k2,hh2⟩:=pp;obtain⟨A3,x3,k3⟩:=fr _ _ _ _ _ x2 k2;have k3:OK X.K F2 H2 (some x::some y::Z) (some (.Y dk)::some ov::aw) A3:=k3;have oE:=x1.trans x3;have u4:H2 p=some (.dG [] 0):=oE.keep p _ jG nA;obtain⟨B1,C1,o1,o2,q1⟩:=ai.one k3.os;obtain⟨B2,C2,o3,o4,q2⟩:=ai.one o2;have rx:ax X.K F2 [x] [key.d]:=by rw[(nI ek).1];exact rD o1
  refine⟨key,u4,rx.mono k3.le,(nI ek).2,w (.ref p) _ ?_⟩;have np:∀a∈A3,a≠p:=λa m z=>by
   subst z;rcases oE.own a m with z|z
   .exact nA z
   .rw[jG] at z;cases z
  have kp:∀a∈A3,∀o,H2 a=some o->upd H2 p (.dG [(key,x,y)] 1) a=some o:=λa m o e=>by rw[dr (np a m)];exact e
  subst q2 q1;have jO:∀a∈B2++C2,a∈B1++(B2++C2):=λa m=>ir _ m
  have Au:F2 p=none:=by
   cases eF:F2 p with
   |none=>rfl
   |some o=>
    rcases oE.new p (by rw[eF];exact λz=>by cases z) with z|z|z
    .exact cu (k.le.free hn) z
    .exact cu z nA
    .rw[jG] at z;cases z
  have CF:=k3.nd;rw[lh] at CF;refine⟨F2,p::B2++C2,⟨oE.ff,λa o e n=>?_,λa h=>?_,λa h=>?_,λa m=>?_⟩,⟨λa o e=>?_,?_,?_,?_⟩,jn⟩
  .have:=oE.keep a o (s a o e) n;rw[dr (mH e hn)];exact this
  .by_cases z:a=p
   .rw[z,jG];exact λz=>by cases z
   .rw[dr z];exact oE.rR a (λz'=>h (s.free z'))
  .rcases oE.new a h with z|z|z
   .exact .inl z
   .exact .inr (.inl z)
   .exact .inr (.inr (s.free z))
  .rcases eX.mp m with rfl|m
   .exact .inr hn
   .rcases oE.own a (jO a m) with z|z
    .exact .inl z
    .exact .inr (s.free z)
  .have h1:=k3.le a o e;rw[dr (λz=>by rw[z,Au] at e;cases e)];exact h1
  .exact .aI (A:=B2) (B:=C2) jG rfl rx (o3.keep (aO.refl _) λa m=>kp a (jO a (jQ _ m))) (o4.keep (aO.refl _) λa m=>kp a (jO a (ir _ m)))
  .exact i7.mpr ⟨λm=>np p (jO p m) rfl,CF.2.1⟩
  .intro a m;rcases eX.mp m with rfl|m
   .exact Au
   .exact k3.fr a (jO a m)
 .cases e
end
theorem TC{Q:Bool->aE->Prop}{P:gv}{w:eZ}{A:eY}{E:au->aE->Prop}{s:aE}{d:ao}(hT:s.TypeIs (.ref d) "dict")(h:Q false s):wpAny (model P w) A (Builtin.List.listLengthHint (.ref d)) Q E s:=by
 unfold Builtin.List.listLengthHint;refine aU (wpAny_specialOf hT F.slot_dict_len.lookup ?_);dsimp only;rw[show splitId "dict.__len__"=some ("dict","__len__") from by decide +kernel]
 dsimp only;refine aU (wpAny_isInstance (b:=true) hT (by rw[isSubtype_type];kernel_rfl) ?_)
 rw[bb (by decide)]
 refine wpAny_ite_true (by decide +kernel) (aU (wpAny_typeOf hT ?_))
 exact bW h
section
variable{P:gv}{w:eZ}{A:eY}{E:au->aE->Prop}{s:aE}
def U1{n ep:Nat}{ob:Obj}{xs:Array DictEntry}(hh:A.handled=none)(J d:ao)(ib:d≠J)(g2:ob.data=.dict xs ep)(hl:xs.size=n):
  Walks P w A J [J,d] [J] n (λi v=>xs[i]?.map (·.key)=some v) (λi h=>h.IsKeyIter J d i n ep/\h.get? d=some ob) where
 sub:=λb hb=>by simp at hb;simp[hb]
 frame:=λ_ _ _ st hk=>⟨st.1.at λo e=>hk J (by simp) o e,hk d (by simp) _ st.2⟩
 item:=λi s Q E hi st hQ=>by
  have lt:i<xs.size:=by lia
  refine Ng st.2 g2 hl st.1 lt λh' Lm sb=>?_
  exact hQ _ h' s.toks (by rw[um lt];rfl) ⟨Lm,(sb.2 d ib).trans st.2⟩ λb o hb e=>sb.extBut b o (λh=>hb (by simp[h])) e
 done:=λs Q E st hQ=>NX hh st.2 g2 hl st.1 (cX _) λh' he'=>hQ h' s.toks λb o hb e=>he' b o (λh=>hb (by simp[h])) e
 self:=λ_ _ _ _ st hQ=>wpAny_pyIter_keyiter st.1 hQ
end
theorem PM:∀{ys:List V} {us:List au},ys.length=us.length->(∀(j:Nat) (y:V) (u:au),ys[j]?=some y->us[j]?=some u->RelV y u)->Vals ys us
 |[],[],_,_=>.nil
 |y::ys,u::us,hl,h=>.cons (h 0 y u rfl rfl) (PM (by simpa using hl) λj y' u' e1 e2=>h (j+1) y' u' (by simpa using e1) (by simpa using e2))
 |[],_::_,h,_=>by simp at h
 |_::_,[],h,_=>by simp at h
section
variable{X:Cx}{af:List (ao×Obj)}{Z:St}{H:Hp}
theorem Tj{E:au->aE->Prop}{A:eY}{s:aE}{d:ao}{es:List (TK×V×V)}{ep:Nat}{Q:au->aE->Prop}(hh:A.handled=none)(I:Inv X af Z H s)(hd:H d=some (.dG es ep))
  (hQ:∀s',(∀b u,s.heap.get? b=some u->s'.heap.get? b=some u)->s'={ s with heap:=s'.heap,toks:=s'.toks}->(∃aA c,Vals (es.map (·.2.1)) aA/\s'.heap.get? s.heap.objs.size=some { cls:=.type "list",data:=.seq aA.toArray c})->Q (.ref s.heap.objs.size) s') :
  wpAny (model X.prog X.w) A (call (.type "list") [.ref d]) Q E s:=by
 obtain⟨hz,z,ob,xs,g1,g5,g2,g3,g4⟩:=(show cC X.prog X.w H s.heap d (.dG es ep) from I.cV d _ hd);have hl:xs.size=es.length:=by have:=Paired.length g3;simpa using this.symm
 have ld:d<s.heap.objs.size:=gb g1;refine callType_codes (Q₁:=λobj s₁=>obj=.ref s.heap.objs.size/\s₁={ s with heap:=s.heap.push { cls:=.type "list",data:=.seq #[]}}) F.called_list (F.typeCall_list_1 _) F.entry_list_init (code_list_new _ ⟨rfl,rfl⟩) λobj s₁ q₁=>?_
 obtain⟨rfl,rfl⟩:=q₁;have gS:(s.heap.push { cls:=.type "list",data:=.seq #[]}).get? s.heap.objs.size=some { cls:=.type "list",data:=.seq #[]}:=oG _ rfl;refine⟨⟨_,gS,rfl⟩,F.args_list_init_2 _ _,?_⟩;show wpAny _ _ (do let old <-Builtin.List.listItems (.ref s.heap.objs.size);Builtin.List.listUpdate (.ref s.heap.objs.size) (λ_=>#[]);letGo old.toList.reverse;Builtin.List.listExtendWith (.ref s.heap.objs.size) (.ref d) .none) _ _ _
 refine aU ?_;unfold Builtin.List.listItems;refine aU (wpAny_seqItems gS rfl (bW ?_));show wpAny _ _ (updateSeq s.heap.objs.size (λ_=>#[]) >>= λ_=>letGo (#[]:Array au).toList.reverse >>= λ_=>Builtin.List.listExtendWith (.ref s.heap.objs.size) (.ref d) .none) _ _ _
 refine aU (wpAny_updateSeq gS rfl ?_);have gT:=vt (Obj.mapSeq (λ_=>(#[]:Array au))) gS rfl
 refine aU (wpAny_letGo ?_);have nS:∀b u,s.heap.get? b=some u->b≠s.heap.objs.size:=λb u e z=>by rw[z] at e;exact oF _ (gb e)
 have k1:∀b u,s.heap.get? b=some u->((s.heap.push { cls:=.type "list",data:=.seq #[]}).update s.heap.objs.size (Obj.mapSeq (λ_=>(#[]:Array au)))).get? b=some u:=
  λb u e=>(Du _ _ (Ne.symm (nS b u e))).trans (jJ _ e)
 have L6:((s.heap.push { cls:=.type "list",data:=.seq #[]}).update s.heap.objs.size (Obj.mapSeq (λ_=>(#[]:Array au)))).objs.size=s.heap.objs.size+1:=by simp[Heap.update,Heap.push]
 generalize(s.heap.push { cls:=.type "list",data:=.seq #[]}).update s.heap.objs.size (Obj.mapSeq (λ_=>(#[]:Array au)))=h1 at *
 have I1:Inv X af Z H { s with heap:=h1,toks:=s.toks}:=I.kept k1;have hT1:Shared.TypeIs { s with heap:=h1} (.ref d) "dict":=⟨ob,k1 _ _ g1,g5.1⟩;unfold Builtin.List.listExtendWith;refine aU (wpAny_typeOf hT1 ?_);have ne:s.heap.objs.size≠d:=λe=>oF _ (e ▸ ld)
 have c1:Builtin.List.listSameRef (.ref s.heap.objs.size) (.ref d)=false:=by simp[Builtin.List.listSameRef,ne]
 have c2:(Value.type "dict" == Value.type "list")=false:=by decide
 have c3:(Value.type "dict" == Value.type "tuple")=false:=by decide
 simp only[c1,c2,c3,G5,tK,cB];refine aU (OI I1 hd ?_);have KR:Shared.TypeIs { s with heap:=h1.push { cls:=.type "dict_keyiterator",data:=.fields #[.ref d,.int 0 0,.int es.length 0,.int ep 0]}} (.ref d) "dict":=⟨ob,jJ _ (k1 _ _ g1),g5.1⟩;refine aU (pM (TC KR ?_));refine wpAny_ite_true (by decide +kernel) (aU (wpAny_rule (aU ?_)))
 show wpAny _ _ (updateSeq s.heap.objs.size (·.push .none) >>= λ_=>updateSeq s.heap.objs.size (·.pop)) _ _ _
 have gU:=jJ { cls:=.type "dict_keyiterator",data:=.fields #[.ref d,.int 0 0,.int es.length 0,.int ep 0]} gT;refine aU (wpAny_updateSeq gU rfl ?_);have gV:=vt (Obj.mapSeq (·.push Value.none)) gU rfl
 refine wpAny_updateSeq (hz:=by seq_fits) gV rfl ?_
 have gW:=vt (Obj.mapSeq (·.pop)) gV rfl
 have gJ:(h1.push { cls:=.type "dict_keyiterator",data:=.fields #[.ref d,.int 0 0,.int es.length 0,.int ep 0]}).get? h1.objs.size=some { cls:=.type "dict_keyiterator",data:=.fields #[.ref d,.int 0 0,.int es.length 0,.int ep 0]}:=oG _ rfl;have yq:∀b o,b≠s.heap.objs.size->(h1.push { cls:=.type "dict_keyiterator",data:=.fields #[.ref d,.int 0 0,.int es.length 0,.int ep 0]}).get? b=some o->
   (((h1.push { cls:=.type "dict_keyiterator",data:=.fields #[.ref d,.int 0 0,.int es.length 0,.int ep 0]}).update s.heap.objs.size (Obj.mapSeq (·.push Value.none))).update s.heap.objs.size (Obj.mapSeq (·.pop))).get? b=some o:=
  λb o hb e=>(Du _ _ (Ne.symm hb)).trans ((Du _ _ (Ne.symm hb)).trans e)
 have hJ:h1.objs.size≠s.heap.objs.size:=by rw[L6];exact Nat.succ_ne_self _
 have dJ:d≠h1.objs.size:=mS (by rw[L6];exact Nat.lt_succ_of_lt ld)
 have W:=(U1 (P:=X.prog) (w:=X.w) (A:=A.in1.in1) (n:=es.length) (ep:=ep) hh h1.objs.size d dJ g2 hl).toS;have KQ:s.heap.objs.size∉[h1.objs.size,d]:=λm=>by
  simp at m;rcases m with m|m
  .exact hJ m.symm
  .exact ne m
 refine bW ⟨plainId_quiet F.plain_extend_loop _,codeAny_extend_loopS W hz _ KQ _ es.length 0 _ _ _ rfl (nq _) ⟨⟨_,yq _ _ hJ gJ,rfl,rfl⟩,yq _ _ (Ne.symm ne) (jJ _ (k1 _ _ g1))⟩ gW (ItemsOf.nil _) λs' jK c' hm wg lK=>?_⟩
 obtain⟨m1,m2,m3,m4,m5⟩:=hm;have xO:s'={ s with heap:=s'.heap,toks:=s'.toks}:=by
  cases s';cases m2;cases m3;cases m4;rfl
 refine⟨rfl,hQ s' (λb u e=>m1 b u (λq=>?_) (yq b u (nS b u e) (jJ _ (k1 b u e)))) xO ⟨jK.toList,c',?_,by simpa using wg⟩⟩
 .rcases eX.mp q with q|q
  .exact nS b u e q
  .rw[i3] at q;have:=gb e;rw[q,L6] at this;exact cu this (Nat.not_lt.mpr (yH _))
 .have h2:jK.size=es.length:=lK.1;refine PM (by simp[h2]) λj y u e1 e2=>?_
  rw[kc] at e1;obtain⟨e,e3,rfl⟩:=jt.mp e1;obtain⟨x,x1,x2⟩:=AM j g3 e3;have h3:=lK.2 j u (by rw[<-yI];exact e2)
  have x1:xs[j]?=some x:=by rw[<-yI];exact x1
  have h3:Option.map (λx=>x.key) xs[j]?=some u:=h3
  rw[x1] at h3;cases h3;exact x2.2.1
def SJ(K:FG):List V->Hp->VK->Prop:=λxs H Q=>∃d es ep,xs=[.ref d]/\H d=some (.dG es ep)/\∀l,H l=none->Q (.ref l) (upd H l (.lst (es.map (·.2.1))))
def T8(hc:X.calm=true):c7 X (.type "list") (SJ X.K):=by
 intro af s Z H xs us Q I r h;obtain⟨d,es,ep,rfl,hd,q⟩:=h;obtain⟨u,rfl,ru⟩:=vals1 r;cases ru;refine Tj (I.ok.hd hc) I hd λs' kp xO hh=>?_
 obtain⟨aA,c,rv,g⟩:=hh;have hz:=(show cC X.prog X.w H s.heap d (.dG es ep) from I.cV d _ hd).1;rw[xO];exact⟨.ref s.heap.objs.size,_,I.laid kp (cX _) (show cC X.prog X.w _ s'.heap _ (.lst (es.map (·.2.1))) from⟨by rw[bO];exact hz,aA,c,rv,g⟩),rfl,q _ (I.cV.fresh (cX _))⟩
def Bw:List O->ak O
 |[.aI kvs]=>some (.lst ((kvs.map (·.1.d)).map .Y))
 |[.Y (.aI kvs)]=>some (.lst ((kvs.map (·.1.d)).map .Y))
 |_=>none
def V_{K:FG}:cO K (SJ K) Bw:=by
 intro F H vs os o Q le eW e res;unfold Bw at e;split at e
 .rename_i kvs
  obtain⟨x,B,rfl,h1⟩:=eW.one;cases e;cases h1 with
  |@aI a ws _ ep A1 B1 _ _ hd hk rk ch t=>exact⟨a,ws,ep,rfl,hd,λl hl=>res.lst rk hl⟩
 .rename_i kvs
  obtain⟨x,B,rfl,h1⟩:=eW.one;cases e;have rp:=rD h1;cases rp with
  |flat z _=>cases z
  |@aI a ws _ ep _ _ hd hk rk ri _=>exact⟨a,ws,ep,rfl,le _ _ hd,λl hl=>res.lst rk hl⟩
 .cases e
def V'{K:FG}{e:Expr}{fs:GA}{p pos:Pos}(hm:X.mg "list"=none)(ha:PA X [e] (kb K fs))(hc:X.calm=true:=by rfl)(hg:Gl X "list":=by rfl)(he:starEach [e] X.env=(false,eval e X.env)::starEach [] X.env:=by rfl)(kl:(backTo pos (starEach [] X.env)).any (·.1)=false:=by rfl)(hK:X.K=K:=by rfl):PE X (.Call (.Name "list" p) [e] [] pos) (tG K (gO Bw fs)):=by
 subst hK;exact uA (T8 hc) V_ hm xi ha hg (by decide) (by decide) he kl
end
section
variable{X:Cx}{K:FG}{fa fb fc:GE}{m:List Bool}{a b c:Expr}{pos:Pos}
def JB:GS:=λ_=>none
def Wa(Q0:Gm):JB Q0=none:=rfl
def XM{st:Stmt}:PS X st (tS K m JB):=λ_ _ _ _ _ _ ⟨_,_,_,_,_,_,e,_⟩=>by cases e
end
section
variable{X:Cx}{K:FG}{a b c d:Expr}{ta tb tc td:TE}{fa fb fc fd:GE}{pos:Pos}
end
section
variable{X:Cx}{K:FG}
def JC(z:Int):au->Bool
 |.int y _=>y == z
 |_=>false
def OL:V->List V->Hp->VK->Prop:=λx xs H Q=>∃(l:ao) (ys:List Int) (z:Int) (j:Nat),x=.ref l/\xs=[.int z]/\H l=some (.lst (ys.map V.int))/\ys[j]?=some z/\(∀i y,i<j->ys[i]?=some y->y≠z)/\Q .bF (upd H l (.lst ((ys.eraseIdx j).map V.int)))
theorem DP{α β:Type}(f:α->β):∀(xs:List α) (j:Nat),(xs.map f).eraseIdx j=(xs.eraseIdx j).map f
 |[],j=>by simp
 |_::_,0=>rfl
 |x::xs,j+1=>by show f x::(xs.map f).eraseIdx j=f x::(xs.eraseIdx j).map f;rw[DP f xs j]
theorem MS:∀{ps:List (Int×Tok)},Vals ((ps.map (·.1)).map V.int) (ps.map λp=>Value.int p.1 p.2)
 |[]=>.nil
 |p::ps=>.cons ⟨p.2,rfl⟩ MS
theorem Nk:wZ X "list.remove" OL:=by
 intro af s Z H x xs v us Q I rx rs h;obtain⟨l,ys,z,j,rfl,rfl,hH,hj,ib,q⟩:=h;cases rx;obtain⟨u,rfl,ru⟩:=vals1 rs;obtain⟨t,rfl⟩:=ru;obtain⟨hz,aA,n,rv,hl,eo⟩:=I.ye hH;obtain⟨ps,e1,e2⟩:=DM rv;subst e1;have hlen:ps.length=ys.length:=by rw[<-e2,bO]
 have Gr:j<ys.length:=(iA.mp hj).1;have Cp:∀i (hi:i<ps.length),ys[i]?=some ps[i].1:=λi hi=>by rw[<-e2];simp[hi]
 have hsz:(ps.map λp=>Value.int p.1 p.2).toArray.size=ps.length:=by simp
 have K6:ps[j].1=z:=by
  have:=Cp j (by lia)
  rw[hj] at this;exact(Option.some.inj this).symm
 refine call_meets F.slot_list_remove ⟨_,eo,rfl⟩ F.entry_list_remove (F.args_list_remove_2 _ _) (MeetsSeq.list_remove l _ n (.int z t) (JC z) ?_ j (by rw[hsz];lia) ?_ ?_ (by rw[hsz,hlen];simpa using hz)) ⟨eo,?_⟩
 .intro y hy;simp at hy;obtain⟨b,t',_,rfl⟩:=hy;exact MeetsSeq.EqGives.int b z t' t
 .simp[JC,K6]
 .intro i hi Cg;rw[hsz] at hi;have:=ib i _ Cg (Cp i hi);simp[JC];exact this
 .refine⟨.bF,_,I.yd (its':=(ps.eraseIdx j).map λp=>Value.int p.1 p.2) hH eo ?_ ?_ ?_,rfl,q⟩
  .apply Array.toList_inj.mp;simp[Array.toList_eraseIdxIfInBounds,DP]
  .rw[<-e2,DP];exact MS
  .rw[bO];have:=List.length_eraseIdx_le ys j;rw[bO] at hz;lia
def kP:List O->ak (List Int)
 |[]=>some []
 |.Y (.int x)::os=>(kP os).map λxs=>x::xs
 |_=>none
abbrev q9(y:Int):O:=.Y (.int y)
theorem NY:∀xs:List Int,kP (xs.map q9)=some xs
 |[]=>rfl
 |i::is=>by rw[cY];show(kP (is.map q9)).map _=_;rw[NY is];rfl
theorem NZ:∀{os:List O} {xs:List Int},kP os=some xs->os=xs.map q9
 |[],xs,e=>by cases e;rfl
 |o::os,xs,e=>by
  unfold kP at e;split at e
  .cases e
   rename_i h
   cases h
  .rename_i x wC h
   cases h;obtain⟨ys,e1,e2⟩:=jt.mp e;subst e2;rw[cY,<-NZ e1]
  .cases e
theorem MV{F H:Hp}:∀{ws:List V} {xs:List Int} {A:List ao},ai K F H (ws.map some) ((xs.map q9).map some) A->ws=xs.map .int
 |[],[],_,_=>rfl
 |[],_::_,_,h=>by have:=h.length;simp at this
 |_::_,[],_,h=>by have:=h.length;simp at this
 |w::ws,i::is,A,h=>by
  obtain⟨B1,B2,g1,g2,rfl⟩:=ai.one h;cases i4 g1 rfl;rw[MV g2];rfl
theorem N0{F H:Hp}:∀(xs:List Int),ai K F H ((xs.map V.int).map some) ((xs.map q9).map some) []
 |[]=>.nil
 |_::xs=>.Y (.flat rfl .nil) (N0 xs)
def lX(ys:List Int)(z:Int):ak Nat:=ys.findIdx? (· == z)
def Nl{ys:List Int}{z:Int}{j:Nat}(e:lX ys z=some j):ys[j]?=some z/\∀i y,i<j->ys[i]?=some y->y≠z:=by
 unfold lX at e;rw[List.findIdx?_eq_some_iff_getElem] at e;obtain⟨h,h1,h2⟩:=e;refine⟨by rw[i8 h];congr 1;exact eq_of_beq h1,λi y hi ey=>?_⟩
 have:=h2 i hi;obtain⟨hl,e3⟩:=iA.mp ey;rw[e3] at this;intro z';subst z';simp at this
def tU:O->List O->ak (O×O)
 |.lst ps,[.Y (.int z)]=>(kP ps).bind λys=>(lX ys z).map λj=>(.lst ((ys.eraseIdx j).map q9),.Y .bF)
 |_,_=>none
def Nm:kA K OL tU:=by
 intro F H x vs o os o' res Ai Aτ Q le h1 h2 nd fr e q;unfold tU at e;split at e
 .rename_i ps z
  obtain⟨ys,e1,e2⟩:=fm.mp e;obtain⟨j,e3,e4⟩:=jt.mp e2;cases e4;cases NZ e1;obtain⟨l,ws,Ap,rfl,hl,i,CD,go⟩:=D_ h1 rfl nd q
  match vs,h2 with
  |[v],h2=>
   cases i4 h2 rfl;cases MV i;obtain⟨s1,s2⟩:=Nl e3;exact⟨l,ys,z,j,rfl,rfl,hl,s1,s2,go _ _ [] .bF [] rfl (N0 _) Bb ⟨_,List.Perm.refl _,List.nil_sublist _⟩⟩
  |[],h2=>have:=h2.length;simp at this
  |_::_::_,h2=>have:=h2.length;simp at this
 .cases e
def T9(ys:List Int)(z:Int):tU (.lst (ys.map q9)) [.Y (.int z)]=(lX ys z).map λj=>(.lst ((ys.eraseIdx j).map q9),.Y .bF):=by
 show((kP (ys.map q9)).bind _)=_;rw[NY,Option.bind_some]
def QW(K:FG):V->List V->Hp->VK->Prop:=λx xs H Q=>∃(a:ao) (ws:List V) (ds:List D) (y:V) (d:D),x=.ref a/\xs=[y]/\dH K H a ws/\ax K H ws ds/\ax K H [y] [d]/\cS 40 d=true/\ds.all (cS 40)=true/\Q (.int ((ds.countP λz=>bj z d:Nat):Int)) H
def Wb{af:List (ao×Obj)}{s:aE}{Z:St}{H:Hp}(I:Inv X af Z H s){dx:D}:∀{ws:List V} {aA:List au} {ds:List D},Vals ws aA->ax X.K H ws ds->ds.all (cS 40)=true->aA.countP (ng X.K H dx)=ds.countP λz=>bj z dx:=by
 intro ws aA ds t
 induction t generalizing ds with
 |nil=>intro rp _;cases rp;rfl
 |cons r t ih=>
  intro rp ok;cases ds with
  |nil=>have:=rp.length;simp at this
  |cons d ds=>
   rw[vx,lQ] at ok;rw[List.countP_cons,List.countP_cons,Jq I r rp.inv.1 ok.1,ih rp.inv.2 ok.2]
theorem Wc(K:FG)(hu:X.A.units+41<cLine)(hK:X.K=K:=by rfl):wZ X "list.count" (QW K):=by
 subst hK;intro af s Z H x xs v us Q I rx rs h;obtain⟨a,ws,ds,y,d,rfl,rfl,hq,rg,ry,o1,o2,q⟩:=h;cases rx;obtain⟨u,rfl,ru⟩:=vals1 rs;obtain⟨aA,rv,p,hz⟩:=I.list hq;obtain⟨ob,n,eo,KW,hdi,KZ⟩:=p;obtain⟨cl,di,da,sl⟩:=ob;cases KW;cases KZ;refine call_meets F.slot_list_count ⟨_,eo,rfl⟩ F.entry_list_count (F.args_list_count_2 _ _) (SeqAt.list_countAt a _ n di sl u (ng X.K H d)) ⟨eo,?_,?_⟩
 .intro y' hy;exact Bp I ru ry o1 (by show X.A.units+1+40<cLine;lia) rv rg o2 y' (by simpa using hy)
 .refine⟨.int _,H,I.tok _,⟨_,rfl⟩,?_⟩;rw[Wb I rv rg o2];exact q
def E5:List O->ak O
 |[.Y (.lst ds),.Y d]=>if cS 40 d=true/\ds.all (cS 40)=true then some (.Y (.int ((ds.countP λz=>bj z d:Nat):Int))) else none
 |_=>none
def Wd:cO K (qb (QW K)) E5:=by
 intro F H vs os o Q le eW e res;unfold E5 at e;split at e
 .rename_i ds d
  split at e
  .rename_i hh
   obtain⟨k1,k2⟩:=hh;cases e;obtain⟨x,y,B,C,rfl,h1,h2⟩:=eW.two;obtain⟨a,ws,rfl,sq,ri⟩:=tP le h1 (Jr _);exact⟨_,_,rfl,a,ws,ds,y,d,rfl,rfl,sq,ri.mono le,pS le h2,k1,k2,res.flat rfl⟩
  .cases e
 .cases e
end
def kS(is:List Int):Int := -jg (is.map λi => -i)
def N4{is:List Int}(h:is≠[]):kS is∈is/\∀y∈is,y<=kS is:=by
 obtain⟨h1,h2⟩:=yU (xs:=is.map λi => -i) (by simpa using h)
 unfold kS;constructor
 .obtain⟨i,m,e⟩:=gz.mp h1;rw[<-e,Int.neg_neg];exact m
 .intro y m;have:=h2 (-y) (gz.mpr ⟨y,m,rfl⟩);lia
section
variable{X:Cx}{K:FG}
def We(K:FG)(hc:X.calm=true:=by rfl)(hK:X.K=K:=by rfl):c7 X (.builtin "max") (λxs H Q=>∃(a:ao) (is:List Int),xs=[.ref a]/\dH K H a (is.map V.int)/\is≠[]/\Q (.int (kS is)) H):=by
 subst hK;intro af s Z H xs us Q I r h;obtain⟨a,is,rfl,hs,ib,q⟩:=h;obtain⟨u,rfl,ru⟩:=vals1 r;cases ru;obtain⟨aA,rv,p,hz⟩:=I.list hs;obtain⟨ps,e1,e2⟩:=DM rv;subst e1;have hl:0<ps.length:=by
  cases ps with
  |nil=>exact cu e2.symm ib
  |cons _ _=>simp
 have el:(ps.map λp=>Value.int p.1 p.2).toArray=intItems ps.toArray:=by unfold intItems;simp
 have pl:=p.isList;rw[el] at pl;refine max_intList (I.ok.hd hc) pl (by simpa using hl) λv h' tk hv hk=>?_
 obtain⟨b1,b2⟩:=argBest_lt (λi => -numAt ps.toArray i) (ps.toArray.size - 1)
 have ef:(λi j=>decide (-numAt ps.toArray i < -numAt ps.toArray j))=λi j=>decide (numAt ps.toArray i > numAt ps.toArray j):=by
  funext i j;exact decide_eq_decide.mpr (by lia)
 rw[ef] at b1 b2;generalize argBest (λi j=>decide (numAt ps.toArray i > numAt ps.toArray j)) (ps.toArray.size - 1)=n at *
 have hn:n<ps.length:=by simp at b1;lia
 have sj:∀j (hj:j<ps.length),numAt ps.toArray j=(ps[j]).1:=λj hj=>by unfold numAt;simp[hj]
 have Li:v=Value.int (ps[n]).1 (ps[n]).2:=by
  unfold intItems at hv;simp[hn] at hv;exact hv.symm
 have hm:kS is=(ps[n]).1:=by
  obtain⟨m1,m2⟩:=N4 ib;have i1:(ps[n]).1∈is:=by rw[<-e2];exact zW (f:=(·.1)) (vw hn)
  have c1:=m2 _ i1;rw[<-e2] at m1;obtain⟨pp,Lg,u4⟩:=gz.mp m1;obtain⟨j,hj,ej⟩:=Dx.mp Lg;have c2:=b2 j (by simp;lia)
  rw[sj n hn,sj j hj,ej] at c2;rw[e2] at u4;lia
 rw[Li];exact⟨.int (kS is),H,I.kept (h':=h') (t':=tk) λb o e=>hk b o e,⟨(ps[n]).2,by rw[hm]⟩,q⟩
def va:List O->ak O
 |[o]=>(de o).bind λds=>(jB ds).bind λis=>if is=[] then none else some (.Y (.int (kS is)))
 |_=>none
def Zq:cO K (λxs H Q=>∃(a:ao) (is:List Int),xs=[.ref a]/\dH K H a (is.map V.int)/\is≠[]/\Q (.int (kS is)) H) va:=by
 intro F H vs os o Q le eW e res;unfold va at e;split at e
 .rename_i o'
  obtain⟨ds,e1,e2⟩:=fm.mp e;obtain⟨is,e3,e4⟩:=fm.mp e2;split at e4
  .cases e4
  .rename_i ib
   cases e4;obtain⟨x,B,rfl,h1⟩:=eW.one;obtain⟨a,ws,rfl,sq,ri⟩:=tP le h1 e1;rw[HJ e3] at ri;have:=Hq ri;subst this;exact⟨a,is,rfl,sq,ib,res.flat rfl⟩
 .cases e
def Zr{is:List Int}(h:is≠[]):va [.lst ((is.map D.int).map .Y)]=some (.Y (.int (kS is))):=by
 show((de (.lst ((is.map D.int).map .Y))).bind λds=>(jB ds).bind λis=>if is=[] then none else some (O.Y (.int (kS is))))=_
 rw[EZ,Option.bind_some,HI,Option.bind_some,bb h]
def r6(g:Int->Int->Int)(i:Nat)(fa:GE):GS:=λQ0=>(fa Q0).bind λp=>match p.1,p.2[i]? with
 |.own (.Y (.int j)),some (some (.Y (.int n)))=>some (.nx,p.2.set i (some (.Y (.int (g n j)))))
 |_,_=>none
variable{m:List Bool}{fa:GE}{e:Expr}{pos:Pos}
def Zs{i:Nat}{x:Str}{op:Operator}{g:Int->Int->Int}{pos':Pos}(Lf:yP X op (GD g))(hN:X.N.Nodup)(hi:X.N[i]?=some x)(hx:Loc X.env.scope x)(he:PE X e (tG K fa))(hc:∀Q0 r aw,fa Q0=some (r,aw)->aw=Q0)(hm:(m[i]? == some true)=false:=by rfl)(hf:X.fn x=true\/X.env.scope.names.lookup x=some .local := by first|exact .inl rfl|exact .inr rfl):
  PS X (.AugAssign (.Name x pos') op e pos) (tS K m (r6 g i fa)):=(YR hN hi hx he Lf hf).mono λD Z H t=>by
 obtain⟨F,A,Q0,fl,aw,k,e,w⟩:=t;obtain⟨⟨r,aJ⟩,q,e⟩:=fm.mp e;dsimp only at e;split at e
 .rename_i j n hn
  cases e;have:=hc _ _ _ q;subst this;obtain⟨v,Ai,B,g1,g2,_⟩:=k.os.take hn;have ev:v=.int n:=i4 g2 rfl;subst ev;refine⟨_,g1,F,A,aJ,_,aJ,k,q,λy H1 pp=>?_⟩
  obtain⟨F1,A1,x1,k1,_⟩:=pp;obtain⟨rfl,h2⟩:=tX (Z:=Z) (Q0:=aJ) k1.os;obtain⟨k2,_⟩:=k1.sub h2 (a_.refl _);have k3:OK K F1 H1 (some (.int (g n j))::Z) (some (.Y (.int (g n j)))::aJ) A1:=⟨k2.le,.Y (.flat rfl .nil) k2.os,k2.nd,k2.fr⟩;obtain⟨B2,k4,x4⟩:=OK.store (Z:=Z) (Q0:=aJ) k3 (iA.mp hn).1;exact⟨n,j,rfl,rfl,w _ H1 ⟨F1,B2,x1.trans x4,k4,Kept.set hm⟩⟩
 .cases e
theorem XN(g:Int->Int->Int)(i:Nat)(fa:GE)(Q0:Gm):r6 g i fa Q0=(fa Q0).bind λp=>match p.1,p.2[i]? with
 |.own (.Y (.int j)),some (some (.Y (.int n)))=>some (.nx,p.2.set i (some (.Y (.int (g n j)))))
 |_,_=>none:=rfl
end
end L2
namespace L2
variable{k:Nat}
def XO{A:PySem.Around}(hr:eH k A):A.units+41<PySem.cLine:=Nat.lt_of_le_of_lt (Nat.add_le_add_left (by decide:41<=64) _) hr.units
open PySem PySem.Spec PyProof.Rows in
def fM{P:gv}{w:eZ}{K:FG}{mg:Str->ak au}{base:df}{x qual:Str}{st:Stmt}{fa:ao}{fd:lS}{N ps:List Str}(m:List Bool)(f:GS)(Fn:rA K x qual st fa fd)(S:aM N ps (du st)){n pn:Nat}
  (hb:∀(gX:au) (A:eY) (outer:List Env) (s:aE) (H:Hp) (E:XK),eH k (A.deeper (envOfC qual (du st) s.heap.objs.size fa gX))->(A.deeper (envOfC qual (du st) s.heap.objs.size fa gX)).units+40<cLine->(A.deeper (envOfC qual (du st) s.heap.objs.size fa gX)).units+41<cLine-> ∃f',iu (mL fw P w K mg base N qual (du st) fa gX A outer s H E).yk (tW st) (tS K m f')/\f'=f) (hn:N.length=n:=by rfl) (hp:ps.length=pn:=by rfl) (hm:m.length<=ps.length:=by decide):bQ P w K mg base fw (k+1) fa fd ps (fT K pn (runM n m f)):=Za m f Fn S hn hp hm λ_ _ _ _ _ _ hr=>hb _ _ _ _ _ _ hr (Xi hr) (XO hr)
end L2
namespace Carry
open PySem L2
variable{X:Cx}{K:FG}
seal PE PA PT PS iu
theorem sM{N P:List Str}{sc:Scope}(h1:sc.kind=.function:=by rfl)(h2:sc.isCoroutine=false:=by rfl)(h3:sc.isGenerator=false:=by rfl)(h4:N.Nodup:=by decide +kernel)(h5:N.take P.length=P:=by rfl)(h6:∀x∈P,sc.names.lookup x=some .local \/ sc.names.lookup x=some .cell:=by decide +kernel)(h7:∀y∈sc.names,y.2≠.free:=by decide +kernel):aM N P sc:=⟨h1,h2,h3,h4,h5,h6,h7⟩
theorem dI{i:Int}{j pos}:PE X (.Constant (.int i) j pos) (tG K (gC (.int i))):=iy EN
theorem ah(i:Nat){x:Str}{pos:Pos}(hN:X.N[i]?=some x:=by rfl)(hv:AG X.env.scope x:=by first|exact Or.inl rfl|exact Or.inr (Or.inl rfl)|exact Or.inr (Or.inr rfl))(hd:(x == ("__debug__":Str))=false:=by decide)(qz:(x == ("__classdict__":Str))=false:=by decide):PE X (.Name x pos) (tG K (ae i)):=Y9 (pv i hN hv hd qz)
theorem cG{a b:Expr}{pos:Pos}{fa fb:GE}(hu:X.A.units+41<cLine)(ha:PE X a (tG K fa))(hb:PE X b (tG K fb))(hs:A7 b:=by exact λ_ _=>rfl)(hK:X.K=K:=by rfl):PE X (.Subscript a b pos) (tG K (gB bJ fa fb)):=χ (Km K hu hK) e8c ha hb hs
noncomputable def top(i:Nat):Stmt:=PySem.Challenge.pw_carry_k38_whole_soonest_is_the_first.main.body.getD i (.Pass ⟨0,0,0,0⟩)
abbrev J6:Stmt:=top 4
abbrev JD:Stmt:=top 5
abbrev Ir:Stmt:=top 6
abbrev JE:Stmt:=top 7
abbrev HK:Stmt:=top 9
abbrev EC:Stmt:=top 11
abbrev IY:Stmt:=top 12
abbrev J7:Stmt:=top 13
abbrev Ec:Stmt:=top 14
abbrev DQ:Stmt:=top 18
abbrev JF:Stmt:=top 19
abbrev HL:Stmt:=top 20
abbrev DN:Stmt:=top 21
abbrev Hw:Stmt:=top 22
abbrev ED:Stmt:=top 23
abbrev DR:Stmt:=top 25
abbrev Hm:Stmt:=top 26
abbrev Iu:Stmt:=top 28
abbrev Iv:Stmt:=top 29
abbrev Iw:Stmt:=top 30
abbrev Ed:Stmt:=top 31
abbrev DS:Stmt:=top 32
abbrev DT:Stmt:=top 33
abbrev DU:Stmt:=top 34
abbrev Hx:Stmt:=top 35
abbrev HM:Stmt:=top 36
abbrev Be:Stmt:=top 37
abbrev HN:Stmt:=top 38
abbrev Iy:Stmt:=top 39
abbrev FE:Stmt:=top 40
set_option genInjectivity false in
set_option genSizeOfSpec false in
structure Hg where
 (f0 f1 f2 f3 f4 f5 f6 f7 f8 f9 FO FQ FR FT FU FV FW FX FY FZ F_ Ga Gb Gd Ge Gf Gg Gh Gi BX:ao)
 (d0 d1 d2 d3 d4 d5 d6 d7 d8 d9 BP BQ Fh Fi Fj Fm Fo Fp Fq Fs Ft Fu Fv Fw Fx Fy Fz FA FC BS:lS)
structure Txt (K:FG) (mg:Str->ak au) (t:Hg):Prop where
 F0:bU K mg "lay" J6 t.f0 t.d0 ["net","here","there","room"]
 F1:bU K mg "fill" JD t.f1 t.d1 ["net","start","end"]
 F2:bU K mg "search" Ir t.f2 t.d2 ["net","start"]
 F3:bU K mg "push" JE t.f3 t.d3 ["net","came","end"]
 F4:bU K mg "belt_of" HK t.f4 t.d4 ["house","name"]
 F5:bU K mg "steps" EC t.f5 t.d5 ["house","place"]
 F6:bU K mg "moves" IY t.f6 t.d6 ["house","place"]
 F7:bU K mg "far" J7 t.f7 t.d7 ["house","place","cart"]
 F8:bU K mg "begins" Ec t.f8 t.d8 ["house","cart"]
 F9:bU K mg "in_time" DQ t.f9 t.d9 ["house","places","cart","turns"]
 vB:bU K mg "into" JF t.FO t.BP ["place","moment"]
 zZ:bU K mg "lay_net" HL t.FQ t.BQ ["net","house","places","cart","turns"]
 z_:bU K mg "lay_spot" DN t.FR t.Fh ["net","house","place","moment","cart","plenty"]
 Aa:bU K mg "followed" Hw t.FT t.Fi ["net","first","cart"]
 Ab:bU K mg "taken" ED t.FU t.Fj ["net","behind"]
 Ae:bU K mg "soonest" DR t.FV t.Fm ["house","places","cart"]
 Af:bU K mg "check_ways" Hm t.FW t.Fo ["house","places","cart"]
 Ag:bU K mg "_law_feed" Iu t.FX t.Fp ["_law_script"]
 kx:bU K mg "_law_draw" Iv t.FY t.Fq ["_law_feed_here","_law_many_here"]
 Ah:bU K mg "_law_name" Iw t.FZ t.Fs ["_law_style","_law_k"]
 Ak:bU K mg "_law_outs" Ed t.F_ t.Ft ["_law_feed_here","_law_names","_law_k","_law_many_here"]
 Al:bU K mg "_law_house" DS t.Ga t.Fu ["_law_feed_here"]
 yL:bU K mg "_law_cells" DT t.Gb t.Fv ["_law_house_here"]
 yM:bU K mg "_law_steps" DU t.Gd t.Fw ["_law_house_here","_law_place"]
 Am:bU K mg "_law_places" Hx t.Ge t.Fx ["_law_feed_here","_law_house_here","_law_most"]
 An:bU K mg "_law_comes" HM t.Gf t.Fy ["_law_house_here","_law_place","_law_cart"]
 Ao:bU K mg "_law_run" Be t.Gg t.Fz ["_law_feed_here","_law_house_here","_law_places_here","_law_cart","_law_turns_here"]
 wV:bU K mg "_law_turns" HN t.Gh t.FA ["_law_house_here","_law_places_here","_law_cart"]
 wW:bU K mg "_law_many" Iy t.Gi t.FC ["_law_house_here","_law_places_here","_law_cart","_law_turns_here"]
 As:bU K mg "law" FE t.BX t.BS ["_law_script"]
 cH:mg "len"=none
 dP:mg "isinstance"=none
 rP:mg "int"=none
 b_bool:mg "bool"=none
 vW:mg "str"=none
 jc:mg "list"=none
 mK:mg "tuple"=none
 eD:mg "range"=none
 BA:mg "any"=none
 nM:mg "enumerate"=none
 kJ:mg "reversed"=none
 BC:mg "min"=none
 BB:mg "max"=none
 kh:∃t,mg "START"=some (.str "the start" t)
 rQ:∃t,mg "END"=some (.str "the end" t)
section
variable{P:gv}{w:eZ}{K:FG}{mg:Str->ak au}{base:df}{t:Hg}
theorem tu:aM ["net","here","there","room","node"] ["net","here","there","room"] (du J6):=sM
def J8:GS:=(aR (Bm (bC .tup (aj (ae 1) (aj (ae 2) gN))) (bu 4) (cw (gT (gB (bR true) (ae 4) (ae 0))) (fE zk (ae 0) (ae 4)) bw)) (aR (t8 0 (sV 1) (sV 2) (sV 3)) (t8 0 (sV 2) (sV 1) (sC (.int 0)))))
def ua:GM:=runM 5 [true,false,false,false] J8
variable(P w K mg base t)in
abbrev J9:Prop:=bQ P w K mg base fw 1 t.f0 t.d0 ["net","here","there","room"] (fT K 4 ua)
theorem Zt(T:Txt K mg t):J9 P w K mg base t:=
 fM (k:=0) [true,false,false,false] J8 T.F0.fn tu λ_ _ _ _ _ _ hr dR dS=>(by
  exact⟨_,(bx (Xn PassesOwn.never (kH (av (ah 1) (av (ah 2) aN))) (fI (i:=4) tu.nd rfl (Or.inl rfl)) fJ
   (b_ (hY (eJ (uB K ‹_›) (m_ true) (ah 4) (ah 0))
   (b_ (vS Ib (ah 0) (ah 4) ‹_›))
   ip)))
   (bx (PJ (pv 3) uN (pv 0) (pv 1) uN (pv 2) uN ‹_›)
   (b_ (PJ EN (Kn (d:=.int 0) rfl) (pv 0) (pv 2) uN (pv 1) uN ‹_›)))),rfl⟩)
theorem eC:aM ["net","start","came","rim","further","here","there"] ["net","start"] (du Ir):=sM
def Iz:GS:=(aR (aq 2 (zo (ae 1) (gC .bF))) (aR (aq 3 (ay (bC .lst (aj (ae 1) gN)))) (aR (gf (gk (ae 3)) (aR (aq 4 (bC .lst gN)) (aR (e8 (ae 3) (bu 5) (Bu (gB bJ (ae 0) (ae 5)) (bu 6) (cw (i5 (gT (gB qG (gB bJ (gB bJ (ae 0) (ae 5)) (ae 6)) (gC (.int 0)))) (gT (gB (bR true) (ae 6) (ae 2)))) (aR (fE (ae 5) (ae 2) (ae 6)) (jw (gj oM (ae 4) (aj (ae 6) gN)))) bw))) (aq 3 (ay (ae 4))))) 1000000) (aW (fY (ae 2))))))
def rH:GM:=runM 7 [false,false] Iz
variable(P w K mg base t)in
abbrev OM:Prop:=bQ P w K mg base fw 1 t.f2 t.d2 ["net","start"] (fT K 2 rH)
theorem U2(T:Txt K mg t):OM P w K mg base t:=
 fM (k:=0) [false,false] Iz T.F2.fn eC λ_ _ _ _ _ _ hr dR dS=>(by
  exact⟨_,(bx (cR (i:=2) eC.nd rfl (Or.inl rfl) (OF ‹_› (ah 1) (iy (d:=.bF) Bi)))
   (bx (cR (i:=3) eC.nd rfl (Or.inl rfl) (cf (kG (av (ah 1) aN))))
   (bx (yX 1000000 PassesOwn.never (qU (ah 3))
   (bx (cR (i:=4) eC.nd rfl (Or.inl rfl) (kG aN))
   (bx (rM PassesOwn.never (ah 3) (fI (i:=5) eC.nd rfl (Or.inl rfl)) fJ
   (b_ (XJ PassesOwn.never (cG ‹_› (ah 0) (ah 5)) (fI (i:=6) eC.nd rfl (Or.inl rfl)) fJ
   (b_ (hY (PW.pt (xu (eJ uQ uS (cG ‹_› (cG ‹_› (ah 0) (ah 5)) (ah 6)) dI) (y7 (eJ (uB K ‹_›) (m_ true) (ah 6) (ah 2)))))
   (bx (vS (ah 5) (ah 2) (ah 6) ‹_›)
   (b_ (lu (oP PySem.F.slot_list_append PySem.F.type_list_append uz uC (ah 4) (av (ah 6) aN)))))
   ip)))))
   (b_ (cR (i:=3) eC.nd rfl (Or.inl rfl) (cf (ah 4)))))))
   (b_ (fP (uI (ah 2))))))),rfl⟩)
theorem kr:aM ["net","came","end","there","here"] ["net","came","end"] (du JE):=sM
def JG:GS:=(aR (aq 3 (ae 2)) (gf (gT (gB (oh true) (gB bJ (ae 1) (ae 3)) (gC .bF))) (aR (aq 4 (gB bJ (ae 1) (ae 3))) (aR (t9 (λi j=>i - j) 0 (sV 4) (sV 3) (sC (.int 1))) (aR (t9 (λi j=>i+j) 0 (sV 3) (sV 4) (sC (.int 1))) (aq 3 (ae 4))))) 1000000))
def zq:GM:=runM 5 [true,false,false] JG
variable(P w K mg base t)in
abbrev QX:Prop:=bQ P w K mg base fw 1 t.f3 t.d3 ["net","came","end"] (fT K 3 zq)
theorem XQ(T:Txt K mg t):QX P w K mg base t:=
 fM (k:=0) [true,false,false] JG T.F3.fn kr λ_ _ _ _ _ _ hr dR dS=>(by
  exact⟨_,(bx (cR (i:=3) kr.nd rfl (Or.inl rfl) (ah 2))
   (b_ (yX 1000000 PassesOwn.never (eJ Xt (RB true) (cG ‹_› (ah 1) (ah 3)) (iy (d:=.bF) Bi))
   (bx (cR (i:=4) kr.nd rfl (Or.inl rfl) (cG ‹_› (ah 1) (ah 3)))
   (bx (PK YS (pv 0) (pv 4) uN (pv 3) uN EN (Kn (d:=.int 1) rfl) ‹_›)
   (bx (PK QE (pv 0) (pv 3) uN (pv 4) uN EN (Kn (d:=.int 1) rfl) ‹_›)
   (b_ (cR (i:=3) kr.nd rfl (Or.inl rfl) (ah 4))))))))),rfl⟩)
theorem kU:aM ["house","name","belt"] ["house","name"] (du HK):=sM
def HP:GS:=(aR (e8 (gB bJ (ae 0) (gC (.int 0))) (bu 2) (cw (gT (gB oEq (gB bJ (ae 2) (gC (.int 0))) (ae 1))) (aW (bC .tup (aj (gB bJ (ae 2) (gC (.int 0))) (aj (gB bJ (ae 2) (gC (.int 1))) (aj (gB bJ (ae 2) (gC (.int 2))) (aj (ay (gO iH (aj (gB bJ (ae 2) (gC (.int 3))) gN))) gN)))))) bw)) (aW (gC .bF)))
def AO:GM:=runM 3 [false,false] HP
variable(P w K mg base t)in
abbrev N5:Prop:=bQ P w K mg base fw 1 t.f4 t.d4 ["house","name"] (fT K 2 AO)
theorem T_(T:Txt K mg t):N5 P w K mg base t:=
 fM (k:=0) [false,false] HP T.F4.fn kU λ_ _ _ _ _ _ hr dR dS=>(by
  exact⟨_,(bx (rM PassesOwn.never (cG ‹_› (ah 0) dI) (fI (i:=2) kU.nd rfl (Or.inl rfl)) fJ
   (b_ (hY (eJ (pT K ‹_›) pW (cG ‹_› (ah 2) dI) (ah 1))
   (b_ (fP (kH (av (cG ‹_› (ah 2) dI) (av (cG ‹_› (ah 2) dI) (av (cG ‹_› (ah 2) dI) (av (cf (uA (AH K) A_ T.jc xi (av (cG ‹_› (ah 2) dI) aN))) aN)))))))
   ip)))
   (b_ (fP (iy (d:=.bF) Bi)))),rfl⟩)
theorem eA:aM ["house","cart","known","name","long","ring","outs","behind"] ["house","cart"] (du Ec):=sM
def IA:GS:=(aR (aq 2 (zo (ae 1) (gC (.int 0)))) (aR (Jw (gB bJ (ae 0) (gC (.int 0))) (fZ [(bu 3),(bu 4),(bu 5),(bu 6)]) (aR (aq 7 (ay (jY (iX (ae 6)) (bu 0) (gT (gB (bR false) (ae 0) (ae 1))) (gB bJ (ae 1) (ae 0)) 1 [2]))) (cw (gk (ae 7)) (fE (ay (gB bY (ae 4) (gO sO (aj (ae 7) gN)))) (ae 2) (ae 3)) bw))) (aW (fY (ae 2)))))
def Ee:GM:=runM 8 [false,false] IA
variable(P w K mg base t)in
abbrev ON:Prop:=bQ P w K mg base fw 1 t.f8 t.d8 ["house","cart"] (fT K 2 Ee)
theorem U3(T:Txt K mg t):ON P w K mg base t:=
 fM (k:=0) [false,false] IA T.F8.fn eA λ_ _ _ _ _ _ hr dR dS=>(by
  exact⟨_,(bx (cR (i:=2) eA.nd rfl (Or.inr rfl) (OF ‹_› (ah 1) dI))
   (bx (XA PassesOwn.never T.kJ (cG ‹_› (ah 0) dI) (EO rfl (pQ (fI (i:=3) eA.nd rfl (Or.inl rfl)) (pQ (fI (i:=4) eA.nd rfl (Or.inl rfl)) (pQ (fI (i:=5) eA.nd rfl (Or.inl rfl)) (pQ (fI (i:=6) eA.nd rfl (Or.inl rfl)) Ep))))) (EU (pR fJ (pR fJ (pR fJ (pR fJ Es)))))
   (bx (uG (i:=7) tQ (k:=1) (cap:=[2]) fJ (M:=["out","known"]) (cg.of (du Ec).names ["house","cart","known","name","long","ring","outs","behind"] (by decide +kernel)) eA.nd rfl (Or.inl rfl) (tO K (cf (ah 6)))
    (λ_ _ _ _=>(fI (i:=0) (show List.Nodup (["out","known"]:List Str) by decide +kernel) rfl (Or.inl rfl))) (λ_ _ _ _=>(xk (eJ (uK K ‹_›) (m_ false) (ah 0) (ah 1)))) (λ_ _ _ _=>(cG ‹_› (ah 1) (ah 0))))
   (b_ (hY (qU (ah 7))
   (b_ (vS (cf (c_ (gY K) gZ (ah 4) (iO (VW K) Zj T.BC PyProof.Rows.Boot.min (av (ah 7) aN)))) (ah 2) (ah 3) ‹_›))
   ip))))
   (b_ (fP (uI (ah 2)))))),rfl⟩)
theorem XR:aM ["place","moment"] ["place","moment"] (du JF):=sM
def JH:GS:=(aW (bC .tup (aj (ay (bC .tup (aj (gB bJ (ae 0) (gC (.int 0))) (aj (gB bJ (ae 0) (gC (.int 1))) (aj (ae 1) gN))))) (aj (gC (.str "into")) gN))))
def t_:GM:=runM 2 [false,false] JH
variable(P w K mg base t)in
abbrev E6:Prop:=bQ P w K mg base fw 1 t.FO t.BP ["place","moment"] (fT K 2 t_)
theorem XS(T:Txt K mg t):E6 P w K mg base t:=
 fM (k:=0) [false,false] JH T.vB.fn XR λ_ _ _ _ _ _ hr dR dS=>(by
  exact⟨_,(b_ (fP (kH (av (cf (kH (av (cG ‹_› (ah 0) dI) (av (cG ‹_› (ah 0) dI) (av (ah 1) aN))))) (av (iy (d:=.str "into") tZ) aN))))),rfl⟩)
theorem ou:aM ["net","behind","went"] ["net","behind"] (du ED):=sM
def IZ:GS:=(aR (aq 2 (ay (jY (tF (gB bJ (ae 0) (ae 1))) (bu 0) (gT (gB qG (gB bJ (gB bJ (ae 2) (ae 0)) (ae 1)) (gC (.int 0)))) (ae 0) 1 [1,0]))) (aW (gB bJ (ae 2) (gC (.int 0)))))
def xl:GM:=runM 3 [false,false] IZ
variable(P w K mg base t)in
abbrev PN:Prop:=bQ P w K mg base fw 1 t.FU t.Fj ["net","behind"] (fT K 2 xl)
theorem Wf(T:Txt K mg t):PN P w K mg base t:=
 fM (k:=0) [false,false] IZ T.Ab.fn ou λ_ _ _ _ _ _ hr dR dS=>(by
  exact⟨_,(bx (uG (i:=2) V7 (k:=1) (cap:=[1,0]) fJ (M:=["there","behind","net"]) (cg.of (du ED).names ["net","behind","went"] (by decide +kernel)) ou.nd rfl (Or.inl rfl) (XH K (cf (cG ‹_› (ah 0) (ah 1))))
    (λ_ _ _ _=>(fI (i:=0) (show List.Nodup (["there","behind","net"]:List Str) by decide +kernel) rfl (Or.inl rfl))) (λ_ _ _ _=>(xk (eJ uQ uS (cG ‹_› (cG ‹_› (ah 2) (ah 0)) (ah 1)) dI))) (λ_ _ _ _=>(ah 0)))
   (b_ (fP (cG ‹_› (ah 2) dI)))),rfl⟩)
theorem mw:aM ["_law_script","_law_cells_here"] ["_law_script"] (du Iu):=sM
def IB:GS:=(aR (aq 1 (ay (gB bY (t6 (ae 0) vT (uL (gC (.int 2)))) (bC .lst (aj (gC (.int 0)) (aj (gC (.int 0)) gN)))))) (aW (bC .lst (aj (ay (t6 (ae 0) vT (uL (gC (.int 63))))) (aj (gC (.int 0)) (aj (gC (.int 0)) (aj (gB oMod (gB bJ (ae 1) (gC (.int 0))) (gC (.int 2))) (aj (gB bJ (ae 1) (gC (.int 1))) gN))))))))
def y3:GM:=runM 2 [false] IB
variable(P w K mg base t)in
abbrev OO:Prop:=bQ P w K mg base fw 1 t.FX t.Fp ["_law_script"] (fT K 1 y3)
theorem U4(T:Txt K mg t):OO P w K mg base t:=
 fM (k:=0) [false] IB T.Ag.fn mw λ_ _ _ _ _ _ hr dR dS=>(by
  exact⟨_,(bx (cR (i:=1) mw.nd rfl (Or.inl rfl) (cf (c_ (gY K) gZ (yY (ah 0) za (zb dI)) (kG (av dI (av dI aN))))))
   (b_ (fP (kG (av (cf (yY (ah 0) za (zb dI))) (av dI (av dI (av (c_ t4 t5 (cG ‹_› (ah 1) dI) dI) (av (cG ‹_› (ah 1) dI) aN))))))))),rfl⟩)
theorem gP:aM ["_law_feed_here","_law_many_here","_law_found","_law_at","_law_cell"] ["_law_feed_here","_law_many_here"] (du Iv):=sM
def IC:GS:=(aR (cw (gT (gB oEq (gB bJ (ae 0) (gC (.int 3))) (gC (.int 1)))) (aR (aq 2 (gB oMod (gB bJ (ae 0) (gC (.int 4))) (ae 1))) (aR (fE (gB mf (gB bJ (ae 0) (gC (.int 4))) (ae 1)) (ae 0) (gC (.int 4))) (aW (ae 2)))) bw) (aR (aq 3 (gB bJ (ae 0) (gC (.int 1)))) (aR (fE (ay (gB bY (ae 3) (gC (.int 1)))) (ae 0) (gC (.int 1))) (aR (aq 4 (ae 3)) (aR (cw (gT (gB qG (gO cK (aj (gB bJ (ae 0) (gC (.int 0))) gN)) (gC (.int 0)))) (aq 4 (ay (gB bY (gB bJ (gB bJ (ae 0) (gC (.int 0))) (gB oMod (ae 3) (gO cK (aj (gB bJ (ae 0) (gC (.int 0))) gN)))) (gB ie (gB mf (ae 3) (gO cK (aj (gB bJ (ae 0) (gC (.int 0))) gN))) (gC (.int 31)))))) bw) (aW (gB oMod (gB oMod (gB ie (gB oMod (gB bY (gB ie (ae 4) (gC (.int 48271))) (gB ie (gC (.int 31)) (ae 3))) (gC (.int 1000003))) (gC (.int 69621))) (gC (.int 999983))) (ae 1))))))))
def kF:GM:=runM 5 [true,false] IC
variable(P w K mg base t)in
abbrev y4:Prop:=bQ P w K mg base fw 1 t.FY t.Fq ["_law_feed_here","_law_many_here"] (fT K 2 kF)
theorem U5(T:Txt K mg t):y4 P w K mg base t:=
 fM (k:=0) [true,false] IC T.kx.fn gP λ_ _ _ _ _ _ hr dR dS=>(by
  exact⟨_,(bx (hY (eJ (pT K ‹_›) pW (cG ‹_› (ah 0) dI) dI)
   (bx (cR (i:=2) gP.nd rfl (Or.inl rfl) (c_ t4 t5 (cG ‹_› (ah 0) dI) (ah 1)))
   (bx (vS (c_ AZ b2i (cG ‹_› (ah 0) dI) (ah 1)) (ah 0) dI ‹_›)
   (b_ (fP (ah 2)))))
   ip)
   (bx (cR (i:=3) gP.nd rfl (Or.inl rfl) (cG ‹_› (ah 0) dI))
   (bx (vS (cf (c_ (gY K) gZ (ah 3) dI)) (ah 0) dI ‹_›)
   (bx (cR (i:=4) gP.nd rfl (Or.inl rfl) (ah 3))
   (bx (hY (eJ uQ uS (iO (jU K) jX T.cH jV (av (cG ‹_› (ah 0) dI) aN)) dI)
   (b_ (cR (i:=4) gP.nd rfl (Or.inl rfl) (cf (c_ (gY K) gZ (cG ‹_› (cG ‹_› (ah 0) dI) (c_ t4 t5 (ah 3) (iO (jU K) jX T.cH jV (av (cG ‹_› (ah 0) dI) aN)))) (c_ vK vQ (c_ AZ b2i (ah 3) (iO (jU K) jX T.cH jV (av (cG ‹_› (ah 0) dI) aN))) dI)))))
   ip)
   (b_ (fP (c_ t4 t5 (c_ t4 t5 (c_ vK vQ (c_ t4 t5 (c_ (gY K) gZ (c_ vK vQ (ah 4) dI) (c_ vK vQ dI (ah 3))) dI) dI) dI) (ah 1))))))))),rfl⟩)
theorem mB:aM ["_law_style","_law_k","_law_letter"] ["_law_style","_law_k"] (du Iw):=sM
def ID:GS:=(aR (aq 2 (gB bJ (gC (.str "abcdefghijk")) (gB oMod (gB bY (gB ie (ae 1) (gC (.int 4))) (ae 0)) (gC (.int 11))))) (aR (cw (gT (gB oEq (gB oMod (ae 0) (gC (.int 3))) (gC (.int 0)))) (aW (gB bY (gB bY (gB ie (gC (.str "q")) (gB oMod (gB mf (ae 0) (gC (.int 3))) (gC (.int 3)))) (ae 2)) (t6 (gC (.str "zq")) vT (uL (gB mf (ae 0) (gC (.int 9))))))) bw) (aR (cw (gT (gB oEq (gB oMod (ae 0) (gC (.int 3))) (gC (.int 1)))) (aW (zF (gT (gB oLt (ae 1) (gC (.int 8)))) (gB ie (gC (.str "b")) (gB bY (ae 1) (gC (.int 1)))) (gB ie (gC (.str "c")) (gB pq (ae 1) (gC (.int 7)))))) bw) (aW (ae 2)))))
def vI:GM:=runM 3 [false,false] ID
variable(P w K mg base t)in
abbrev OP:Prop:=bQ P w K mg base fw 1 t.FZ t.Fs ["_law_style","_law_k"] (fT K 2 vI)
theorem U6(T:Txt K mg t):OP P w K mg base t:=
 fM (k:=0) [false,false] ID T.Ah.fn mB λ_ _ _ _ _ _ hr dR dS=>(by
  exact⟨_,(bx (cR (i:=2) mB.nd rfl (Or.inl rfl) (cG ‹_› (iy (d:=.str "abcdefghijk") tZ) (c_ t4 t5 (c_ (gY K) gZ (c_ vK vQ (ah 1) dI) (ah 0)) dI)))
   (bx (hY (eJ (pT K ‹_›) pW (c_ t4 t5 (ah 0) dI) dI)
   (b_ (fP (c_ (gY K) gZ (c_ (gY K) gZ (c_ vK vQ (iy (d:=.str "q") tZ) (c_ t4 t5 (c_ AZ b2i (ah 0) dI) dI)) (ah 2)) (yY (iy (d:=.str "zq") tZ) za (zb (c_ AZ b2i (ah 0) dI))))))
   ip)
   (bx (hY (eJ (pT K ‹_›) pW (c_ t4 t5 (ah 0) dI) dI)
   (b_ (fP (JY (eJ uP uR (ah 1) dI) (c_ vK vQ (iy (d:=.str "b") tZ) (c_ (gY K) gZ (ah 1) dI)) (c_ vK vQ (iy (d:=.str "c") tZ) (c_ zi zm (ah 1) dI)))))
   ip)
   (b_ (fP (ah 2)))))),rfl⟩)
theorem dB:aM ["_law_house_here","_law_found","_law_name_here","_law_long","_law_ring","_law_outs_here"] ["_law_house_here"] (du DT):=sM
def HQ:GS:=(aR (aq 1 (ay (bC .lst gN))) (aR (e8 (gB bJ (ae 0) (gC (.int 0))) (fZ [(bu 2),(bu 3),(bu 4),(bu 5)]) (aq 1 (ay (gB bY (ae 1) (jY (mC (aj (ae 3) gN)) (bu 0) gH (ay (bC .tup (aj (ae 1) (aj (ae 0) gN)))) 1 [2]))))) (aW (ae 1))))
def w_:GM:=runM 6 [false] HQ
variable(P w K mg base t)in
abbrev HR:Prop:=bQ P w K mg base fw 1 t.Gb t.Fv ["_law_house_here"] (fT K 1 w_)
theorem T'(T:Txt K mg t):HR P w K mg base t:=
 fM (k:=0) [false] HQ T.yL.fn dB λ_ _ _ _ _ _ hr dR dS=>(by
  exact⟨_,(bx (cR (i:=1) dB.nd rfl (Or.inl rfl) (cf (kG aN)))
   (bx (rM PassesOwn.never (cG ‹_› (ah 0) dI) (EO rfl (pQ (fI (i:=2) dB.nd rfl (Or.inr rfl)) (pQ (fI (i:=3) dB.nd rfl (Or.inl rfl)) (pQ (fI (i:=4) dB.nd rfl (Or.inl rfl)) (pQ (fI (i:=5) dB.nd rfl (Or.inl rfl)) Ep))))) (EU (pR fJ (pR fJ (pR fJ (pR fJ Es)))))
   (b_ (cR (i:=1) dB.nd rfl (Or.inl rfl) (cf (c_ (gY K) gZ (ah 1) (IX QO (k:=1) (cap:=[2]) fJ (M:=["_law_cell","_law_name_here"]) (cg.of (du DT).names ["_law_house_here","_law_found","_law_name_here","_law_long","_law_ring","_law_outs_here"] (by decide +kernel)) (HC (by rfl) T.eD (av (ah 3) aN))
    (λ_ _ _ _=>(fI (i:=0) (show List.Nodup (["_law_cell","_law_name_here"]:List Str) by decide +kernel) rfl (Or.inl rfl))) (λ_ _ _ _=>zc) (λ_ _ _ _=>(cf (kH (av (ah 1) (av (ah 0) aN)))))))))))
   (b_ (fP (ah 1))))),rfl⟩)
theorem cU:aM ["_law_house_here","_law_place","_law_names","_law_name_here","_law_long","_law_ring","_law_outs_here","_law_found","_law_out"] ["_law_house_here","_law_place"] (du DU):=sM
def qf:GS:=(jw (gj oM (ae 7) (aj (ay (zF (gT (gB (bR false) (ae 8) (ae 2))) (bC .tup (aj (ae 8) (aj (gC (.int 0)) gN))) (ae 8))) gN)))
def stepT:GS:=(aR (cw (gT (gB oLt (gB bY (gB bJ (ae 1) (gC (.int 1))) (gC (.int 1))) (ae 4))) (aW (bC .lst (aj (ay (bC .tup (aj (ae 3) (aj (ay (gB bY (gB bJ (ae 1) (gC (.int 1))) (gC (.int 1)))) gN)))) gN))) bw) (aR (aq 7 (bC .lst gN)) (aR (e8 (ae 6) (bu 8) qf) (aR (cw (gk (ae 5)) (jw (gj oM (ae 7) (aj (ay (bC .tup (aj (ae 3) (aj (gC (.int 0)) gN)))) gN))) bw) (aW (fY (ae 7)))))))
def HS:GS:=aR (aq 2 (ay (jY (iX (gB bJ (ae 0) (gC (.int 0)))) (bu 0) gH (gB bJ (ae 0) (gC (.int 0))) 1 []))) (aR (p8 (fZ [(bu 3),(bu 4),(bu 5),(bu 6)]) (gB bJ (gB bJ (ae 0) (gC (.int 0))) (zp Bt (ae 2) (aj (gB bJ (ae 1) (gC (.int 0))) gN)))) stepT)
def xa:GM:=runM 9 [false,false] HS
variable(P w K mg base t)in
abbrev HU:Prop:=bQ P w K mg base fw 1 t.Gd t.Fw ["_law_house_here","_law_place"] (fT K 2 xa)
theorem Ua(T:Txt K mg t):HU P w K mg base t:=
 fM (k:=0) [false,false] HS T.yM.fn cU λ_ _ _ _ _ _ hr dR dS=>(by
  exact⟨_,(bx (uG (i:=2) tQ (k:=1) (cap:=[]) fJ (M:=["_law_belt"]) (cg.of (du DU).names ["_law_house_here","_law_place","_law_names","_law_name_here","_law_long","_law_ring","_law_outs_here","_law_found","_law_out"] (by decide +kernel)) cU.nd rfl (Or.inl rfl) (tO K (cf (cG ‹_› (ah 0) dI)))
    (λ_ _ _ _=>(fI (i:=0) (show List.Nodup (["_law_belt"]:List Str) by decide +kernel) rfl (Or.inl rfl))) (λ_ _ _ _=>zc) (λ_ _ _ _=>(cG ‹_› (ah 0) dI)))
   (bx (Zn (cG ‹_› (cG ‹_› (ah 0) dI) (OH PySem.F.slot_list_index PySem.F.type_list_index (V1 K) V2 (ah 2) (av (cG ‹_› (ah 1) dI) aN))) (EO rfl (pQ (fI (i:=3) cU.nd rfl (Or.inl rfl)) (pQ (fI (i:=4) cU.nd rfl (Or.inl rfl)) (pQ (fI (i:=5) cU.nd rfl (Or.inl rfl)) (pQ (fI (i:=6) cU.nd rfl (Or.inl rfl)) Ep))))) (EU (pR fJ (pR fJ (pR fJ (pR fJ Es))))))
   (bx (hY (eJ uP uR (c_ (gY K) gZ (cG ‹_› (ah 1) dI) dI) (ah 4))
   (b_ (fP (kG (av (cf (kH (av (ah 3) (av (cf (c_ (gY K) gZ (cG ‹_› (ah 1) dI) dI)) aN)))) aN))))
   ip)
   (bx (cR (i:=7) cU.nd rfl (Or.inl rfl) (kG aN))
   (bx (rM PassesOwn.never (ah 6) (fI (i:=8) cU.nd rfl (Or.inl rfl)) fJ
   (b_ (lu (oP PySem.F.slot_list_append PySem.F.type_list_append uz uC (ah 7) (av (cf (JY (eJ (uK K ‹_›) (m_ false) (ah 8) (ah 2)) (kH (av (ah 8) (av dI aN))) (ah 8))) aN)))))
   (bx (hY (qU (ah 5))
   (b_ (lu (oP PySem.F.slot_list_append PySem.F.type_list_append uz uC (ah 7) (av (cf (kH (av (ah 3) (av dI aN)))) aN))))
   ip)
   (b_ (fP (uI (ah 7)))))))))),rfl⟩)
theorem mO:aM ["net","start","end","came"] ["net","start","end"] (du JD):=sM
def JI:GS:=(aR (aq 3 (ay (aH (bor rH) (aj (ae 0) (aj (ae 1) gN))))) (aR (gf (gT (gB (bR false) (ae 2) (ae 3))) (aR (jw (aH zq (aj (ae 0) (aj (ae 3) (aj (ae 2) gN))))) (aq 3 (ay (aH (bor rH) (aj (ae 0) (aj (ae 1) gN)))))) 1000000) (aW (ae 3))))
def E7:GM:=runM 4 [true,false,false] JI
variable(P w K mg base t)in
abbrev QY:Prop:=bQ P w K mg base fw 2 t.f1 t.d1 ["net","start","end"] (fT K 3 E7)
theorem XT(T:Txt K mg t)(g3:QX P w K mg base t)(g2:OM P w K mg base t):QY P w K mg base t:=
 fM (k:=1) [true,false,false] JI T.F1.fn mO λ_ _ _ _ _ _ hr dR dS=>(by
  exact⟨_,(bx (cR (i:=3) mO.nd rfl (Or.inl rfl) (cf (eI T.F2 (QV g2) (by exact hr.mono (by decide)) (av (ah 0) (av (ah 1) aN)) (aV (aV dt)))))
   (bx (yX 1000000 PassesOwn.never (eJ (uK K ‹_›) (m_ false) (ah 2) (ah 3))
   (bx (lu (eI T.F3 g3 (by exact hr.mono (by decide)) (av (ah 0) (av (ah 3) (av (ah 2) aN))) (aV (aV (aV dt)))))
   (b_ (cR (i:=3) mO.nd rfl (Or.inl rfl) (cf (eI T.F2 (QV g2) (by exact hr.mono (by decide)) (av (ah 0) (av (ah 1) aN)) (aV (aV dt))))))))
   (b_ (fP (ah 3))))),rfl⟩)
theorem kX:aM ["house","place","belt","told"] ["house","place"] (du EC):=sM
def I0:GS:=(aR (aq 2 (ay (aH AO (aj (ae 0) (aj (gB bJ (ae 1) (gC (.int 0))) gN))))) (aR (cw (gT (gB oLt (gB bY (gB bJ (ae 1) (gC (.int 1))) (gC (.int 1))) (gB bJ (ae 2) (gC (.int 1))))) (aW (bC .lst (aj (ay (bC .tup (aj (gB bJ (ae 1) (gC (.int 0))) (aj (ay (gB bY (gB bJ (ae 1) (gC (.int 1))) (gC (.int 1)))) gN)))) gN))) bw) (aR (aq 3 (jY (iX (gB bJ (ae 2) (gC (.int 3)))) (bu 0) gH (ay (zF (gT (gB (bR false) (ae 0) (gB bJ (ae 1) (gC (.int 1))))) (ae 0) (bC .tup (aj (ae 0) (aj (gC (.int 0)) gN))))) 1 [0])) (aR (cw (gk (gB bJ (ae 2) (gC (.int 2)))) (jw (gj oM (ae 3) (aj (ay (bC .tup (aj (gB bJ (ae 1) (gC (.int 0))) (aj (gC (.int 0)) gN)))) gN))) bw) (aW (fY (ae 3)))))))
def EE:GM:=runM 4 [false,false] I0
variable(P w K mg base t)in
abbrev PQ:Prop:=bQ P w K mg base fw 2 t.f5 t.d5 ["house","place"] (fT K 2 EE)
theorem Wg(T:Txt K mg t)(g4:N5 P w K mg base t):PQ P w K mg base t:=
 fM (k:=1) [false,false] I0 T.F5.fn kX λ_ _ _ _ _ _ hr dR dS=>(by
  exact⟨_,(bx (cR (i:=2) kX.nd rfl (Or.inl rfl) (cf (eI T.F4 g4 (by exact hr.mono (by decide)) (av (ah 0) (av (cG ‹_› (ah 1) dI) aN)) (aV (aV dt)))))
   (bx (hY (eJ uP uR (c_ (gY K) gZ (cG ‹_› (ah 1) dI) dI) (cG ‹_› (ah 2) dI))
   (b_ (fP (kG (av (cf (kH (av (cG ‹_› (ah 1) dI) (av (cf (c_ (gY K) gZ (cG ‹_› (ah 1) dI) dI)) aN)))) aN))))
   ip)
   (bx (Xv (i:=3) tQ (k:=1) (cap:=[0]) fJ (M:=["out","house"]) (cg.of (du EC).names ["house","place","belt","told"] (by decide +kernel)) kX.nd rfl (Or.inl rfl) (tO K (cf (cG ‹_› (ah 2) dI)))
    (λ_ _ _ _=>(fI (i:=0) (show List.Nodup (["out","house"]:List Str) by decide +kernel) rfl (Or.inl rfl))) (λ_ _ _ _=>zc) (λ_ _ _ _=>(cf (JY (eJ (uK K ‹_›) (m_ false) (ah 0) (cG ‹_› (ah 1) dI)) (ah 0) (kH (av (ah 0) (av dI aN)))))))
   (bx (hY (qU (cG ‹_› (ah 2) dI))
   (b_ (lu (oP PySem.F.slot_list_append PySem.F.type_list_append uz uC (ah 3) (av (cf (kH (av (cG ‹_› (ah 1) dI) (av dI aN)))) aN))))
   ip)
   (b_ (fP (uI (ah 3)))))))),rfl⟩)
theorem tq:aM ["house","place","cart","known"] ["house","place","cart"] (du J7):=sM
def J_:GS:=(aR (aq 3 (ay (aH Ee (aj (ae 0) (aj (ae 2) gN))))) (aR (cw (gT (gB (bR true) (gB bJ (ae 1) (gC (.int 0))) (ae 3))) (aW (gC .bF)) bw) (aW (gB pq (gB bJ (ae 3) (gB bJ (ae 1) (gC (.int 0)))) (gB bJ (ae 1) (gC (.int 1)))))))
def uT:GM:=runM 4 [false,false,false] J_
variable(P w K mg base t)in
abbrev J':Prop:=bQ P w K mg base fw 2 t.f7 t.d7 ["house","place","cart"] (fT K 3 uT)
theorem Zu(T:Txt K mg t)(g8:ON P w K mg base t):J' P w K mg base t:=
 fM (k:=1) [false,false,false] J_ T.F7.fn tq λ_ _ _ _ _ _ hr dR dS=>(by
  exact⟨_,(bx (cR (i:=3) tq.nd rfl (Or.inl rfl) (cf (eI T.F8 g8 (by exact hr.mono (by decide)) (av (ah 0) (av (ah 2) aN)) (aV (aV dt)))))
   (bx (hY (eJ (uB K ‹_›) (m_ true) (cG ‹_› (ah 1) dI) (ah 3))
   (b_ (fP (iy (d:=.bF) Bi)))
   ip)
   (b_ (fP (c_ zi zm (cG ‹_› (ah 3) (cG ‹_› (ah 1) dI)) (cG ‹_› (ah 1) dI)))))),rfl⟩)
theorem eO:aM ["net","first","cart","told","gate","spot"] ["net","first","cart"] (du Hw):=sM
def Hy:GS:=(aR (aq 3 (bC .lst gN)) (aR (aq 4 (ae 1)) (aR (gf (gT (gB gp (ae 4) (gC (.str "the end")))) (aR (aq 5 (gB bJ (ae 4) (gC (.int 0)))) (aR (jw (gj oM (ae 3) (aj (ay (bC .tup (aj (gB bJ (ae 5) (gC (.int 0))) (aj (gB bJ (ae 5) (gC (.int 1))) gN)))) gN))) (aq 4 (ay (aH xl (aj (ae 0) (aj (ay (bC .tup (aj (ae 5) (aj (gC (.str "out of")) gN)))) gN))))))) 1000000) (aW (gB bY (ae 3) (bC .lst (aj (ae 2) gN)))))))
def AJ:GM:=runM 6 [false,false,false] Hy
variable(P w K mg base t)in
abbrev Np:Prop:=bQ P w K mg base fw 2 t.FT t.Fi ["net","first","cart"] (fT K 3 AJ)
theorem TF(T:Txt K mg t)(g14:PN P w K mg base t):Np P w K mg base t:=
 fM (k:=1) [false,false,false] Hy T.Aa.fn eO λ_ _ _ _ _ _ hr dR dS=>(by
  exact⟨_,(bx (cR (i:=3) eO.nd rfl (Or.inl rfl) (kG aN))
   (bx (cR (i:=4) eO.nd rfl (Or.inl rfl) (ah 1))
   (bx (yX 1000000 PassesOwn.never (eJ (xx K ‹_›) xy (ah 4) (iy (d:=(.str "the end")) (w9 (by rfl) T.rQ)))
   (bx (cR (i:=5) eO.nd rfl (Or.inl rfl) (cG ‹_› (ah 4) dI))
   (bx (lu (oP PySem.F.slot_list_append PySem.F.type_list_append uz uC (ah 3) (av (cf (kH (av (cG ‹_› (ah 5) dI) (av (cG ‹_› (ah 5) dI) aN)))) aN)))
   (b_ (cR (i:=4) eO.nd rfl (Or.inl rfl) (cf (eI T.Ab g14 (by exact hr.mono (by decide)) (av (ah 0) (av (cf (kH (av (ah 5) (av (iy (d:=.str "out of") tZ) aN)))) aN)) (aV (aV dt)))))))))
   (b_ (fP (c_ (gY K) gZ (ah 3) (kG (av (ah 2) aN)))))))),rfl⟩)
theorem jP:aM ["_law_feed_here","_law_names","_law_k","_law_many_here","_law_outs_here","_law_j"] ["_law_feed_here","_law_names","_law_k","_law_many_here"] (du Ed):=sM
def sx(ge:GE):GS:=(jw (gj vL (ae 4) (aj (ay (aH kF (aj (ae 0) (aj (ay (gB bY (gO cK (aj (ae 4) gN)) (gC (.int 1)))) gN)))) (aj ge gN))))
def qa:GS:=(cw (gT (gB oEq (aH kF (aj (ae 0) (aj (gC (.int 3)) gN))) (gC (.int 0)))) (sx (gB bJ (ae 1) (ae 5))) bw)
def mh:GS:=cw (i5 (gT (gB oLt (gB bY (ae 2) (gC (.int 1))) (ae 3))) (i5 (gT (gB qG (aH kF (aj (ae 0) (aj (gC (.int 4)) gN))) (gC (.int 0)))) (gT (gB (bR true) (gB bJ (ae 1) (gB bY (ae 2) (gC (.int 1)))) (ae 4)))))
  (sx (gB bJ (ae 1) (gB bY (ae 2) (gC (.int 1)))))
  bw
def oj:GS:=cw (i5 (gT (gB (bR true) (gB bJ (ae 1) (ae 3)) (ae 4))) (jy (gk (gO (E4 λbs=>bs.any id) (aj (jY (qc (aj (gB bY (ae 2) (gC (.int 1))) (aj (ae 3) gN))) (bu 0) gH (gB (bR false) (gB bJ (ae 2) (ae 0)) (ae 1)) 1 [4,1]) gN)))))
  (sx (gB bJ (ae 1) (ae 3)))
  bw
def IE:GS:=aR (aq 4 (bC .lst gN)) (aR (Ie (aj (gB bY (ae 2) (gC (.int 1))) (aj (gO cK (aj (ae 1) gN)) gN)) (bu 5) qa) (aR mh (aR oj (aW (fY (ae 4))))))
def Ef:GM:=runM 6 [true,false,false,false] IE
variable(P w K mg base t)in
abbrev OQ:Prop:=bQ P w K mg base fw 2 t.F_ t.Ft ["_law_feed_here","_law_names","_law_k","_law_many_here"] (fT K 4 Ef)
theorem U7(T:Txt K mg t)(kM:y4 P w K mg base t):OQ P w K mg base t:=
 fM (k:=1) [true,false,false,false] IE T.Ak.fn jP λ_ _ _ _ _ _ hr dR dS=>(by
  exact⟨_,(bx (cR (i:=4) jP.nd rfl (Or.inr rfl) (kG aN))
   (bx (UC PassesOwn.never T.eD (av (c_ (gY K) gZ (ah 2) dI) (av (iO (jU K) jX T.cH jV (av (ah 1) aN)) aN)) (fI (i:=5) jP.nd rfl (Or.inl rfl)) fJ
   (b_ (hY (eJ (pT K ‹_›) pW (eI T.kx kM (by exact hr.mono (by decide)) (av (ah 0) (av dI aN)) (aV (aV dt))) dI)
   (b_ (lu (oP PySem.F.slot_list_insert PySem.F.type_list_insert AK AN (ah 4) (av (cf (eI T.kx kM (by exact hr.mono (by decide)) (av (ah 0) (av (cf (c_ (gY K) gZ (iO (jU K) jX T.cH jV (av (ah 4) aN)) dI)) aN)) (aV (aV dt)))) (av (cG ‹_› (ah 1) (ah 5)) aN)))))
   ip)))
   (bx (hY (PW.pt (xu (eJ uP uR (c_ (gY K) gZ (ah 2) dI) (ah 3)) (xu (eJ uQ uS (eI T.kx kM (by exact hr.mono (by decide)) (av (ah 0) (av dI aN)) (aV (aV dt))) dI) (y7 (eJ (uB K ‹_›) (m_ true) (cG ‹_› (ah 1) (c_ (gY K) gZ (ah 2) dI)) (ah 4))))))
   (b_ (lu (oP PySem.F.slot_list_insert PySem.F.type_list_insert AK AN (ah 4) (av (cf (eI T.kx kM (by exact hr.mono (by decide)) (av (ah 0) (av (cf (c_ (gY K) gZ (iO (jU K) jX T.cH jV (av (ah 4) aN)) dI)) aN)) (aV (aV dt)))) (av (cG ‹_› (ah 1) (c_ (gY K) gZ (ah 2) dI)) aN)))))
   ip)
   (bx (hY (PW.pt (xu (eJ (uB K ‹_›) (m_ true) (cG ‹_› (ah 1) (ah 3)) (ah 4)) (y7 (zl (qU (iO (US K) (VZ _) T.BA Y5 (av (IX Zf (k:=1) (cap:=[4,1]) fJ (M:=["_law_j","_law_outs_here","_law_names"]) (cg.of (du Ed).names ["_law_feed_here","_law_names","_law_k","_law_many_here","_law_outs_here","_law_j"] (by decide +kernel)) (Nz (by rfl) T.eD (av (c_ (gY K) gZ (ah 2) dI) (av (ah 3) aN)))
    (λ_ _ _ _=>(fI (i:=0) (show List.Nodup (["_law_j","_law_outs_here","_law_names"]:List Str) by decide +kernel) rfl (Or.inl rfl))) (λ_ _ _ _=>zc) (λ_ _ _ _=>(zj (uK K ‹_›) (m_ false) (cG ‹_› (ah 2) (ah 0)) (ah 1)))) aN)))))))
   (b_ (lu (oP PySem.F.slot_list_insert PySem.F.type_list_insert AK AN (ah 4) (av (cf (eI T.kx kM (by exact hr.mono (by decide)) (av (ah 0) (av (cf (c_ (gY K) gZ (iO (jU K) jX T.cH jV (av (ah 4) aN)) dI)) aN)) (aV (aV dt)))) (av (cG ‹_› (ah 1) (ah 3)) aN)))))
   ip)
   (b_ (fP (uI (ah 4)))))))),rfl⟩)
theorem eQ:aM ["_law_feed_here","_law_house_here","_law_most","_law_cells_here","_law_places_here","_law_k","_law_place"] ["_law_feed_here","_law_house_here","_law_most"] (du Hx):=sM
def sZ:GS:=(jw (gj vL (ae 4) (aj (ay (aH kF (aj (ae 0) (aj (ay (gB bY (gO cK (aj (ae 4) gN)) (gC (.int 1)))) gN)))) (aj (ae 6) gN))))
def qH:GS:=(aR (aq 6 (gB bJ (ae 3) (aH kF (aj (ae 0) (aj (gO cK (aj (ae 3) gN)) gN))))) (cw (gT (gB (bR true) (ae 6) (ae 4))) sZ bw))
def Hz:GS:=(aR (aq 3 (ay (aH w_ (aj (ae 1) gN)))) (aR (aq 4 (bC .lst gN)) (aR (vF (aj (aH kF (aj (ae 0) (aj (ay (gB bY (ae 2) (gC (.int 1)))) gN))) gN) (bu 5) qH) (aW (fY (ae 4))))))
def yS:GM:=runM 7 [true,false,false] Hz
variable(P w K mg base t)in
abbrev Nq:Prop:=bQ P w K mg base fw 2 t.Ge t.Fx ["_law_feed_here","_law_house_here","_law_most"] (fT K 3 yS)
theorem TH(T:Txt K mg t)(Ky:HR P w K mg base t)(kM:y4 P w K mg base t):Nq P w K mg base t:=
 fM (k:=1) [true,false,false] Hz T.Am.fn eQ λ_ _ _ _ _ _ hr dR dS=>(by
  exact⟨_,(bx (cR (i:=3) eQ.nd rfl (Or.inl rfl) (cf (eI T.yL Ky (by exact hr.mono (by decide)) (av (ah 1) aN) (aV dt))))
   (bx (cR (i:=4) eQ.nd rfl (Or.inl rfl) (kG aN))
   (bx (yT PassesOwn.never T.eD (av (eI T.kx kM (by exact hr.mono (by decide)) (av (ah 0) (av (cf (c_ (gY K) gZ (ah 2) dI)) aN)) (aV (aV dt))) aN) (fI (i:=5) eQ.nd rfl (Or.inl rfl)) fJ
   (bx (cR (i:=6) eQ.nd rfl (Or.inl rfl) (cG ‹_› (ah 3) (eI T.kx kM (by exact hr.mono (by decide)) (av (ah 0) (av (iO (jU K) jX T.cH jV (av (ah 3) aN)) aN)) (aV (aV dt)))))
   (b_ (hY (eJ (uB K ‹_›) (m_ true) (ah 6) (ah 4))
   (b_ (lu (oP PySem.F.slot_list_insert PySem.F.type_list_insert AK AN (ah 4) (av (cf (eI T.kx kM (by exact hr.mono (by decide)) (av (ah 0) (av (cf (c_ (gY K) gZ (iO (jU K) jX T.cH jV (av (ah 4) aN)) dI)) aN)) (aV (aV dt)))) (av (ah 6) aN)))))
   ip))))
   (b_ (fP (uI (ah 4))))))),rfl⟩)
theorem fG:aM ["_law_house_here","_law_place","_law_cart","_law_met","_law_at","_law_step"] ["_law_house_here","_law_place","_law_cart"] (du HM):=sM
def p6:GS:=(aR (cw (gT (gB oEq (ae 5) (ae 2))) (aW (gC (.bl true))) bw) (cw (i5 (jy (gk (gO gn (aj (ae 5) (aj (gC (.ty "str")) gN))))) (gT (gB (bR true) (ae 5) (ae 3)))) (jw (gj oM (ae 3) (aj (ae 5) gN))) bw))
def xJ:GT:=(gT (gB oLt (ae 4) (gO cK (aj (ae 3) gN))))
def uU:GS:=(aR (e8 (aH xa (aj (ae 0) (aj (gB bJ (ae 3) (ae 4)) gN))) (bu 5) p6) (aq 4 (ay (gB bY (ae 4) (gC (.int 1))))))
def HV:GS:=(aR (aq 3 (bC .lst (aj (ae 1) gN))) (aR (aq 4 (gC (.int 0))) (aR (gf xJ uU 1000000) (aW (gC (.bl false))))))
def yV:GM:=runM 6 [false,false,false] HV
variable(P w K mg base t)in
abbrev N6:Prop:=bQ P w K mg base fw 2 t.Gf t.Fy ["_law_house_here","_law_place","_law_cart"] (fT K 3 yV)
theorem Ub(T:Txt K mg t)(Kz:HU P w K mg base t):N6 P w K mg base t:=
 fM (k:=1) [false,false,false] HV T.An.fn fG λ_ _ _ _ _ _ hr dR dS=>(by
  exact⟨_,(bx (cR (i:=3) fG.nd rfl (Or.inl rfl) (kG (av (ah 1) aN)))
   (bx (cR (i:=4) fG.nd rfl (Or.inl rfl) dI)
   (bx (yX 1000000 PassesOwn.never (eJ uP uR (ah 4) (iO (jU K) jX T.cH jV (av (ah 3) aN)))
   (bx (rM PassesOwn.never (eI T.yM Kz (by exact hr.mono (by decide)) (av (ah 0) (av (cG ‹_› (ah 3) (ah 4)) aN)) (aV (aV dt))) (fI (i:=5) fG.nd rfl (Or.inl rfl)) fJ
   (bx (hY (eJ (pT K ‹_›) pW (ah 5) (ah 2))
   (b_ (fP (iy (d:=.bl true) vV)))
   ip)
   (b_ (hY (PW.pt (xu (zl (qU (iO (AL K) Bq T.dP Bk (av (ah 5) (av (iy (d:=.ty "str") (BF (by rfl) T.vW QH)) aN))))) (y7 (eJ (uB K ‹_›) (m_ true) (ah 5) (ah 3)))))
   (b_ (lu (oP PySem.F.slot_list_append PySem.F.type_list_append uz uC (ah 3) (av (ah 5) aN))))
   ip))))
   (b_ (cR (i:=4) fG.nd rfl (Or.inl rfl) (cf (c_ (gY K) gZ (ah 4) dI))))))
   (b_ (fP (iy (d:=.bl false) vV)))))),rfl⟩)
theorem dW:aM ["_law_feed_here","_law_house_here","_law_places_here","_law_cart","_law_turns_here","_law_here","_law_moment","_law_order","_law_k","_law_left","_law_some","_law_free"] ["_law_feed_here","_law_house_here","_law_places_here","_law_cart","_law_turns_here"] (du Be):=sM
def oi:GS:=(cw (gT (gB gp (gB bJ (ae 5) (ae 8)) (ae 3))) (jw (gj vL (ae 7) (aj (ay (aH kF (aj (ae 0) (aj (ay (gB bY (gO cK (aj (ae 7) gN)) (gC (.int 1)))) gN)))) (aj (ae 8) gN)))) bw)
def C9:GE:=(jY (iX (aH xa (aj (ae 1) (aj (gB bJ (ae 5) (ae 8)) gN)))) (bu 0) (nX (gT (gB oEq (ae 0) (ae 1))) (jy (gk (gO gn (aj (ae 0) (aj (gC (.ty "str")) gN)))))) (ae 0) 1 [3])
def B0:GE:=(jY (iX (ae 10)) (bu 0) (nX (gT (gB oEq (ae 0) (ae 1))) (gT (gB (bR true) (ae 0) (ae 2)))) (ae 0) 1 [3,5])
def CB:GS:=(aR (fE (ae 3) (ae 5) (ae 8)) (jw (gj tU (ae 9) (aj (ae 8) gN))))
def GK:GT:=(i5 (gT (gB gp (ae 11) (bC .lst gN))) (gT (gB qG (aH kF (aj (ae 0) (aj (gC (.int 6)) gN))) (gC (.int 0)))))
def GJ:GS:=(aR (fE (gB bJ (ae 11) (aH kF (aj (ae 0) (aj (gO cK (aj (ae 11) gN)) gN)))) (ae 5) (ae 8)) (jw (gj tU (ae 9) (aj (ae 8) gN))))
def rf:GS:=(cw (gT (gB (bR false) (ae 3) (ae 11))) CB (cw GK GJ bw))
def wz:GS:=(cw (gT (gB (bR false) (ae 8) (ae 9))) (aR (aq 10 (ay C9)) (aR (aq 11 (ay B0)) rf)) bw)
def Dm:GS:=(aR (aq 7 (bC .lst gN)) (aR (vF (aj (gO cK (aj (ae 5) gN)) gN) (bu 8) oi) (aR (aq 9 (gO iH (aj (ae 7) gN))) (e8 (gB bY (ae 7) (ae 7)) (bu 8) wz))))
def I_:GS:=(aR (aq 5 (gO iH (aj (ae 2) gN))) (aR (vF (aj (ae 4) gN) (bu 6) Dm) (rZ 5 (aW (zp E5 (ae 5) (aj (ae 3) gN))))))
def EF:GM:=runM 12 [true,false,false,false,false] I_
variable(P w K mg base t)in
abbrev PR:Prop:=bQ P w K mg base fw 2 t.Gg t.Fz ["_law_feed_here","_law_house_here","_law_places_here","_law_cart","_law_turns_here"] (fT K 5 EF)
theorem Wh(T:Txt K mg t)(kM:y4 P w K mg base t)(Kz:HU P w K mg base t):PR P w K mg base t:=
 fM (k:=1) [true,false,false,false,false] I_ T.Ao.fn dW λ_ _ _ _ _ _ hr dR dS=>(by
  exact⟨_,(bx (cR (i:=5) dW.nd rfl (Or.inr rfl) (uA (AH K) A_ T.jc xi (av (ah 2) aN)))
   (bx (yT PassesOwn.never T.eD (av (ah 4) aN) (fI (i:=6) dW.nd rfl (Or.inl rfl)) fJ
   (bx (cR (i:=7) dW.nd rfl (Or.inl rfl) (kG aN))
   (bx (yT PassesOwn.never T.eD (av (iO (jU K) jX T.cH jV (av (ah 5) aN)) aN) (fI (i:=8) dW.nd rfl (Or.inl rfl)) fJ
   (b_ (hY (eJ (xx K ‹_›) xy (cG ‹_› (ah 5) (ah 8)) (ah 3))
   (b_ (lu (oP PySem.F.slot_list_insert PySem.F.type_list_insert AK AN (ah 7) (av (cf (eI T.kx kM (by exact hr.mono (by decide)) (av (ah 0) (av (cf (c_ (gY K) gZ (iO (jU K) jX T.cH jV (av (ah 7) aN)) dI)) aN)) (aV (aV dt)))) (av (ah 8) aN)))))
   ip)))
   (bx (cR (i:=9) dW.nd rfl (Or.inl rfl) (uA (AH K) A_ T.jc xi (av (ah 7) aN)))
   (b_ (rM PassesOwn.never (c_ (gY K) gZ (ah 7) (ah 7)) (fI (i:=8) dW.nd rfl (Or.inl rfl)) fJ
   (b_ (hY (eJ (uK K ‹_›) (m_ false) (ah 8) (ah 9))
   (bx (uG (i:=10) tQ (k:=1) (cap:=[3]) fJ (M:=["_law_step","_law_cart"]) (cg.of (du Be).names ["_law_feed_here","_law_house_here","_law_places_here","_law_cart","_law_turns_here","_law_here","_law_moment","_law_order","_law_k","_law_left","_law_some","_law_free"] (by decide +kernel)) dW.nd rfl (Or.inl rfl) (tO K (cf (eI T.yM Kz (by exact hr.mono (by decide)) (av (ah 1) (av (cG ‹_› (ah 5) (ah 8)) aN)) (aV (aV dt)))))
    (λ_ _ _ _=>(fI (i:=0) (show List.Nodup (["_law_step","_law_cart"]:List Str) by decide +kernel) rfl (Or.inl rfl))) (λ_ _ _ _=>(xk (PW.pt (FD (eJ (pT K ‹_›) pW (ah 0) (ah 1)) (ET (zl (qU (iO (AL K) Bq (by exact T.dP) Bk (av (ah 0) (av (iy (d:=.ty "str") (BF (by rfl) (by exact T.vW) QH)) aN)))))))))) (λ_ _ _ _=>(ah 0)))
   (bx (uG (i:=11) tQ (k:=1) (cap:=[3,5]) fJ (M:=["_law_step","_law_cart","_law_here"]) (cg.of (du Be).names ["_law_feed_here","_law_house_here","_law_places_here","_law_cart","_law_turns_here","_law_here","_law_moment","_law_order","_law_k","_law_left","_law_some","_law_free"] (by decide +kernel)) dW.nd rfl (Or.inl rfl) (tO K (cf (ah 10)))
    (λ_ _ _ _=>(fI (i:=0) (show List.Nodup (["_law_step","_law_cart","_law_here"]:List Str) by decide +kernel) rfl (Or.inl rfl))) (λ_ _ _ _=>(xk (PW.pt (FD (eJ (pT K ‹_›) pW (ah 0) (ah 1)) (ET (eJ (uB K ‹_›) (m_ true) (ah 0) (ah 2))))))) (λ_ _ _ _=>(ah 0)))
   (b_ (hY (eJ (uK K ‹_›) (m_ false) (ah 3) (ah 11))
   (bx (vS (ah 3) (ah 5) (ah 8) ‹_›)
   (b_ (lu (oP PySem.F.slot_list_remove PySem.F.type_list_remove Nk Nm (ah 9) (av (ah 8) aN)))))
   (b_ (hY (PW.pt (xu (eJ (xx K ‹_›) xy (ah 11) (kG aN)) (y7 (eJ uQ uS (eI T.kx kM (by exact hr.mono (by decide)) (av (ah 0) (av dI aN)) (aV (aV dt))) dI))))
   (bx (vS (cG ‹_› (ah 11) (eI T.kx kM (by exact hr.mono (by decide)) (av (ah 0) (av (iO (jU K) jX T.cH jV (av (ah 11) aN)) aN)) (aV (aV dt)))) (ah 5) (ah 8) ‹_›)
   (b_ (lu (oP PySem.F.slot_list_remove PySem.F.type_list_remove Nk Nm (ah 9) (av (ah 8) aN)))))
   ip))))))
   ip))))))))
   (RC (i:=5) (b_ (fP (OH PySem.F.slot_list_count PySem.F.type_list_count (Wc K ‹_›) Wd (ah 5) (av (ah 3) aN))))))),rfl⟩)
theorem Wi:aM ["house","place"] ["house","place"] (du IY):=sM
def Ja:GS:=(aW (gB bY (aH EE (aj (ae 0) (aj (ae 1) gN))) (bC .lst (aj (ae 1) gN))))
def zf:GM:=runM 2 [false,false] Ja
variable(P w K mg base t)in
abbrev PU:Prop:=bQ P w K mg base fw 3 t.f6 t.d6 ["house","place"] (fT K 2 zf)
theorem Wj(T:Txt K mg t)(g5:PQ P w K mg base t):PU P w K mg base t:=
 fM (k:=2) [false,false] Ja T.F6.fn Wi λ_ _ _ _ _ _ hr dR dS=>(by
  exact⟨_,(b_ (fP (c_ (gY K) gZ (eI T.F5 g5 (by exact hr.mono (by decide)) (av (ah 0) (av (ah 1) aN)) (aV (aV dt))) (kG (av (ah 1) aN))))),rfl⟩)
theorem i6:aM ["house","places","cart","place"] ["house","places","cart"] (du Hm):=sM
def Fg:GS:=(cw (gT (gB (oh false) (ly uT (aj (ae 0) (aj (ae 3) (aj (ae 2) gN)))) (gC .bF))) JB bw)
def Ho:GS:=e8 (ae 1) (bu 3) Fg
def AI:GM:=runM 4 [false,false,false] Ho
variable(P w K mg base t)in
abbrev MW:Prop:=bQ P w K mg base fw 3 t.FW t.Fo ["house","places","cart"] (fT K 3 AI)
theorem Tq(T:Txt K mg t)(g7:J' P w K mg base t):MW P w K mg base t:=
 fM (k:=2) [false,false,false] Ho T.Af.fn i6 λ_ _ _ _ _ _ hr dR dS=>(by
  exact⟨_,(b_ (rM PassesOwn.never (ah 1) (fI (i:=3) i6.nd rfl (Or.inl rfl)) fJ
   (b_ (hY (eJ Zc (RB false) (rE T.F7 g7 (by exact hr.mono (by decide)) (av (ah 0) (av (ah 3) (av (ah 2) aN))) (aV (aV (aV dt)))) (iy (d:=.bF) Bi))
   (b_ XM)
   ip)))),rfl⟩)
theorem bI:aM ["_law_feed_here","_law_many_here","_law_long","_law_great","_law_style","_law_names","_law_belts","_law_k","_law_ring","_law_cells_here"] ["_law_feed_here"] (du DS):=sM
def zM:GS:=(cw (gT (gB oEq (ae 3) (gC (.int 5)))) (aR (aq 1 (gC (.int 6))) (aq 2 (gC (.int 5)))) bw)
def zN:GS:=(cw (gT (gB oEq (ae 3) (gC (.int 6)))) (aR (aq 1 (ay (gB bY (gC (.int 1)) (gB mf (ae 1) (gC (.int 3)))))) (aq 2 (gC (.int 14)))) bw)
def wA:GE:=(jY (mC (aj (gB bY (gB bY (ae 1) (gC (.int 1))) (aH kF (aj (ae 0) (aj (gC (.int 3)) gN)))) gN)) (bu 0) gH (ly vI (aj (ae 1) (aj (ae 0) gN))) 1 [4])
def pY:GS:=(aR (aq 8 (gB oEq (aH kF (aj (ae 0) (aj (gC (.int 3)) gN))) (gC (.int 0)))) (aR (aq 9 (ay (gB bY (gB bY (gC (.int 1)) (gO kT (aj (ae 8) gN))) (aH kF (aj (ae 0) (aj (gB pq (ae 2) (gO kT (aj (ae 8) gN))) gN)))))) (jw (gj oM (ae 6) (aj (ay (bC .tup (aj (gB bJ (ae 5) (ae 7)) (aj (ae 9) (aj (ae 8) (aj (ay (aH Ef (aj (ae 0) (aj (ae 5) (aj (ae 7) (aj (ae 1) gN)))))) gN)))))) gN)))))
def ot:GS:=(aR (aq 4 (ay (aH kF (aj (ae 0) (aj (gC (.int 27)) gN))))) (aR (aq 5 (ay wA)) (aR (aq 6 (bC .lst gN)) (aR (vF (aj (ae 1) gN) (bu 7) pY) (aW (bC .tup (aj (fY (ae 6)) (aj (ay (t6 (ae 5) (uL (ae 1)) vT)) gN))))))))
def HW:GS:=aR (aq 1 (ay (gB bY (gC (.int 1)) (aH kF (aj (ae 0) (aj (gC (.int 4)) gN)))))) (aR (aq 2 (gC (.int 4))) (aR (aq 3 (ay (aH kF (aj (ae 0) (aj (gC (.int 8)) gN))))) (aR zM (aR zN ot))))
def yW:GM:=runM 10 [true] HW
variable(P w K mg base t)in
abbrev N7:Prop:=bQ P w K mg base fw 3 t.Ga t.Fu ["_law_feed_here"] (fT K 1 yW)
theorem Uc(T:Txt K mg t)(kM:y4 P w K mg base t)(g19:OP P w K mg base t)(g20:OQ P w K mg base t):N7 P w K mg base t:=
 fM (k:=2) [true] HW T.Al.fn bI λ_ _ _ _ _ _ hr dR dS=>(by
  exact⟨_,(bx (cR (i:=1) bI.nd rfl (Or.inl rfl) (cf (c_ (gY K) gZ dI (eI T.kx kM (by exact hr.mono (by decide)) (av (ah 0) (av dI aN)) (aV (aV dt))))))
   (bx (cR (i:=2) bI.nd rfl (Or.inl rfl) dI)
   (bx (cR (i:=3) bI.nd rfl (Or.inl rfl) (cf (eI T.kx kM (by exact hr.mono (by decide)) (av (ah 0) (av dI aN)) (aV (aV dt)))))
   (bx (hY (eJ (pT K ‹_›) pW (ah 3) dI)
   (bx (cR (i:=1) bI.nd rfl (Or.inl rfl) dI)
   (b_ (cR (i:=2) bI.nd rfl (Or.inl rfl) dI)))
   ip)
   (bx (hY (eJ (pT K ‹_›) pW (ah 3) dI)
   (bx (cR (i:=1) bI.nd rfl (Or.inl rfl) (cf (c_ (gY K) gZ dI (c_ AZ b2i (ah 1) dI))))
   (b_ (cR (i:=2) bI.nd rfl (Or.inl rfl) dI)))
   ip)
   (bx (cR (i:=4) bI.nd rfl (Or.inr rfl) (cf (eI T.kx kM (by exact hr.mono (by decide)) (av (ah 0) (av dI aN)) (aV (aV dt)))))
   (bx (uG (i:=5) QO (k:=1) (cap:=[4]) fJ (M:=["_law_k","_law_style"]) (cg.of (du DS).names ["_law_feed_here","_law_many_here","_law_long","_law_great","_law_style","_law_names","_law_belts","_law_k","_law_ring","_law_cells_here"] (by decide +kernel)) bI.nd rfl (Or.inl rfl) (HC (by rfl) T.eD (av (c_ (gY K) gZ (c_ (gY K) gZ (ah 1) dI) (eI T.kx kM (by exact hr.mono (by decide)) (av (ah 0) (av dI aN)) (aV (aV dt)))) aN))
    (λ_ _ _ _=>(fI (i:=0) (show List.Nodup (["_law_k","_law_style"]:List Str) by decide +kernel) rfl (Or.inl rfl))) (λ_ _ _ _=>zc) (λ_ _ _ _=>(rE T.Ah g19 (by exact hr.mono (by decide)) (av (ah 1) (av (ah 0) aN)) (aV (aV dt)))))
   (bx (cR (i:=6) bI.nd rfl (Or.inl rfl) (kG aN))
   (bx (yT PassesOwn.never T.eD (av (ah 1) aN) (fI (i:=7) bI.nd rfl (Or.inl rfl)) fJ
   (bx (cR (i:=8) bI.nd rfl (Or.inl rfl) (zj (pT K ‹_›) pW (eI T.kx kM (by exact hr.mono (by decide)) (av (ah 0) (av dI aN)) (aV (aV dt))) dI))
   (bx (cR (i:=9) bI.nd rfl (Or.inl rfl) (cf (c_ (gY K) gZ (c_ (gY K) gZ dI (uA HD IU T.rP Jo (av (ah 8) aN))) (eI T.kx kM (by exact hr.mono (by decide)) (av (ah 0) (av (c_ zi zm (ah 2) (uA HD IU T.rP Jo (av (ah 8) aN))) aN)) (aV (aV dt))))))
   (b_ (lu (oP PySem.F.slot_list_append PySem.F.type_list_append uz uC (ah 6) (av (cf (kH (av (cG ‹_› (ah 5) (ah 7)) (av (ah 9) (av (ah 8) (av (cf (eI T.Ak g20 (by exact hr.mono (by decide)) (av (ah 0) (av (ah 5) (av (ah 7) (av (ah 1) aN)))) (aV (aV (aV (aV dt)))))) aN)))))) aN)))))))
   (b_ (fP (kH (av (uI (ah 6)) (av (cf (yY (ah 5) (zb (ah 1)) za)) aN)))))))))))))),rfl⟩)
theorem dF:aM ["net","house","place","moment","cart","plenty","gate","behind","goals","places","goal"] ["net","house","place","moment","cart","plenty"] (du DN):=sM
def HA:GS:=(aR (aq 6 (ay (aH t_ (aj (ae 2) (aj (ae 3) gN))))) (aR (aq 7 (ay (bC .tup (aj (gB bJ (ae 6) (gC (.int 0))) (aj (gC (.str "out of")) gN))))) (aR (jw (aH ua (aj (ae 0) (aj (ae 6) (aj (ae 7) (aj (gC (.int 1)) gN)))))) (aR (aq 8 (ay (aH zf (aj (ae 1) (aj (ae 2) gN))))) (aR (cw (gT (gB (bR false) (ae 4) (ae 8))) (jw (aH ua (aj (ae 0) (aj (ae 7) (aj (ay (gC (.str "the end"))) (aj (ae 5) gN)))))) bw) (aR (aq 9 (ay (jY (iX (ae 8)) (bu 0) (gk (gO gn (aj (ae 0) (aj (gC (.ty "tuple")) gN)))) (ae 0) 1 []))) (aR (e8 (ae 9) (bu 10) (jw (aH ua (aj (ae 0) (aj (ae 7) (aj (ay (aH t_ (aj (ae 10) (aj (ay (gB bY (ae 3) (gC (.int 1)))) gN)))) (aj (ae 5) gN))))))) (aW (ae 9)))))))))
def DO:GM:=runM 11 [true,false,false,false,false,false] HA
variable(P w K mg base t)in
abbrev Nr:Prop:=bQ P w K mg base fw 4 t.FR t.Fh ["net","house","place","moment","cart","plenty"] (fT K 6 DO)
theorem TJ(T:Txt K mg t)(wd:E6 P w K mg base t)(g0:J9 P w K mg base t)(g6:PU P w K mg base t):Nr P w K mg base t:=
 fM (k:=3) [true,false,false,false,false,false] HA T.z_.fn dF λ_ _ _ _ _ _ hr dR dS=>(by
  exact⟨_,(bx (cR (i:=6) dF.nd rfl (Or.inl rfl) (cf (eI T.vB wd (by exact hr.mono (by decide)) (av (ah 2) (av (ah 3) aN)) (aV (aV dt)))))
   (bx (cR (i:=7) dF.nd rfl (Or.inl rfl) (cf (kH (av (cG ‹_› (ah 6) dI) (av (iy (d:=.str "out of") tZ) aN)))))
   (bx (lu (eI T.F0 g0 (by exact hr.mono (by decide)) (av (ah 0) (av (ah 6) (av (ah 7) (av dI aN)))) (aV (aV (aV (aV dt))))))
   (bx (cR (i:=8) dF.nd rfl (Or.inl rfl) (cf (eI T.F6 g6 (by exact hr.mono (by decide)) (av (ah 1) (av (ah 2) aN)) (aV (aV dt)))))
   (bx (hY (eJ (uK K ‹_›) (m_ false) (ah 4) (ah 8))
   (b_ (lu (eI T.F0 g0 (by exact hr.mono (by decide)) (av (ah 0) (av (ah 7) (av (cf (iy (d:=(.str "the end")) (w9 (by rfl) T.rQ))) (av (ah 5) aN)))) (aV (aV (aV (aV dt)))))))
   ip)
   (bx (uG (i:=9) tQ (k:=1) (cap:=[]) fJ (M:=["goal"]) (cg.of (du DN).names ["net","house","place","moment","cart","plenty","gate","behind","goals","places","goal"] (by decide +kernel)) dF.nd rfl (Or.inl rfl) (tO K (cf (ah 8)))
    (λ_ _ _ _=>(fI (i:=0) (show List.Nodup (["goal"]:List Str) by decide +kernel) rfl (Or.inl rfl))) (λ_ _ _ _=>(xk (qU (iO (AL K) Bq T.dP Bk (av (ah 0) (av (iy (d:=.ty "tuple") (BF (by rfl) T.mK Ia)) aN)))))) (λ_ _ _ _=>(ah 0)))
   (bx (rM PassesOwn.never (ah 9) (fI (i:=10) dF.nd rfl (Or.inl rfl)) fJ
   (b_ (lu (eI T.F0 g0 (by exact hr.mono (by decide)) (av (ah 0) (av (ah 7) (av (cf (eI T.vB wd (by exact hr.mono (by decide)) (av (ah 10) (av (cf (c_ (gY K) gZ (ah 3) dI)) aN)) (aV (aV dt)))) (av (ah 5) aN)))) (aV (aV (aV (aV dt))))))))
   (b_ (fP (ah 9)))))))))),rfl⟩)
theorem cA:aM ["net","house","places","cart","turns","plenty","spots","now","place","moment","reach","goal"] ["net","house","places","cart","turns"] (du HL):=sM
def By:GS:=jw (aH ua (aj (ae 0) (aj (ay (gC (.str "the start"))) (aj (ay (aH t_ (aj (ae 8) (aj (gC (.int 0)) gN)))) (aj (ae 5) gN)))))
def tm:GS:=fE (gC (.bl true)) (ae 10) (ae 11)
def CP:GS:=aR (jw (gj oM (ae 6) (aj (ay (bC .tup (aj (gB bJ (ae 8) (gC (.int 0))) (aj (gB bJ (ae 8) (gC (.int 1))) (aj (ae 9) gN))))) gN)))
 (e8 (aH DO (aj (ae 0) (aj (ae 1) (aj (ae 8) (aj (ae 9) (aj (ae 3) (aj (ae 5) gN))))))) (bu 11) tm)
def sI:GS:=aR (aq 10 zk) (aR (e8 (ae 7) (bu 8) CP) (aq 7 (ay (gO Bw (aj (ae 10) gN)))))
def HX:GS:=aR (aq 5 (ay (gB bY (gO cK (aj (ae 2) gN)) (gC (.int 1)))))
 (aR (aq 6 (bC .lst gN)) (aR (aq 7 (ae 2)) (aR (e8 (ae 2) (bu 8) By) (aR (vF (aj (ae 4) gN) (bu 9) sI) (aW (fY (ae 6)))))))
def DV:GM:=runM 12 [true,false,false,false,false] HX
variable(P w K mg base t)in
abbrev N8:Prop:=bQ P w K mg base fw 5 t.FQ t.BQ ["net","house","places","cart","turns"] (fT K 5 DV)
theorem Ud(T:Txt K mg t)(wd:E6 P w K mg base t)(g0:J9 P w K mg base t)(g12:Nr P w K mg base t):N8 P w K mg base t:=
 fM (k:=4) [true,false,false,false,false] HX T.zZ.fn cA λ_ _ _ _ _ _ hr dR dS=>(by
  exact⟨_,(bx (cR (i:=5) cA.nd rfl (Or.inl rfl) (cf (c_ (gY K) gZ (iO (jU K) jX T.cH jV (av (ah 2) aN)) dI)))
   (bx (cR (i:=6) cA.nd rfl (Or.inl rfl) (kG aN))
   (bx (cR (i:=7) cA.nd rfl (Or.inl rfl) (ah 2))
   (bx (rM PassesOwn.never (ah 2) (fI (i:=8) cA.nd rfl (Or.inl rfl)) fJ
   (b_ (lu (eI T.F0 g0 (by exact hr.mono (by decide)) (av (ah 0) (av (cf (iy (d:=(.str "the start")) (w9 (by rfl) T.kh))) (av (cf (eI T.vB wd (by exact hr.mono (by decide)) (av (ah 8) (av dI aN)) (aV (aV dt)))) (av (ah 5) aN)))) (aV (aV (aV (aV dt))))))))
   (bx (yT PassesOwn.never T.eD (av (ah 4) aN) (fI (i:=9) cA.nd rfl (Or.inl rfl)) fJ
   (bx (cR (i:=10) cA.nd rfl (Or.inl rfl) Ib)
   (bx (rM PassesOwn.never (ah 7) (fI (i:=8) cA.nd rfl (Or.inl rfl)) fJ
   (bx (lu (oP PySem.F.slot_list_append PySem.F.type_list_append uz uC (ah 6) (av (cf (kH (av (cG ‹_› (ah 8) dI) (av (cG ‹_› (ah 8) dI) (av (ah 9) aN))))) aN)))
   (b_ (rM PassesOwn.never (eI T.z_ g12 (by exact hr.mono (by decide)) (av (ah 0) (av (ah 1) (av (ah 8) (av (ah 9) (av (ah 3) (av (ah 5) aN)))))) (aV (aV (aV (aV (aV (aV dt))))))) (fI (i:=11) cA.nd rfl (Or.inl rfl)) fJ
   (b_ (vS (iy (d:=.bl true) vV) (ah 10) (ah 11) ‹_›))))))
   (b_ (cR (i:=7) cA.nd rfl (Or.inl rfl) (cf (V' T.jc (av (ah 10) aN))))))))
   (b_ (fP (uI (ah 6))))))))),rfl⟩)
theorem cL:aM ["house","places","cart","turns","net","spots","near","ways","k","place","first","cut"] ["house","places","cart","turns"] (du DQ):=sM
def zP:GS:=cw (gT (gB qG (gB bJ (gB bJ (ae 4) (ae 10)) (gC (.str "the start"))) (gC (.int 0))))
  (jw (gj oM (ae 7) (aj (ay (bC .tup (aj (ae 8) (aj (ay (aH AJ (aj (ay (ae 4)) (aj (ae 10) (aj (ae 2) gN))))) gN)))) gN)))
  bw
def ya:GS:=aR (aq 10 (ay (aH t_ (aj (ae 9) (aj (gC (.int 0)) gN))))) zP
def Lo:GT:=i5 (gT (gB (bR false) (ay (bC .tup (aj (ae 0) (aj (gC (.str "into")) gN)))) (ae 1))) (gT (gB (bR true) (ay (bC .tup (aj (ae 0) (aj (gC (.str "out of")) gN)))) (ae 1)))
def Ln:GE:=jY (iX (ae 5)) (bu 0) Lo (ae 0) 1 [6]
def HY:GS:=aR (aq 4 (EB (gC (.str "the start")) zk))
 (aR (aq 5 (ay (aH DV (aj (ae 4) (aj (ae 0) (aj (ae 1) (aj (ae 2) (aj (ae 3) gN)))))))) (aR (aq 6 (ay (aH E7 (aj (ae 4) (aj (ay (gC (.str "the start"))) (aj (ay (gC (.str "the end"))) gN)))))) (rZ 4 (aR (aq 7 (bC .lst gN)) (aR (E3 (ae 1) (fZ [(bu 8),(bu 9)]) ya) (aR (aq 11 (ay Ln)) (aW (bC .tup (aj (fY (ae 7)) (aj (ae 11) gN))))))))))
def vC:GM:=runM 12 [false,false,false,false] HY
variable(P w K mg base t)in
abbrev HZ:Prop:=bQ P w K mg base fw 6 t.f9 t.d9 ["house","places","cart","turns"] (fT K 4 vC)
theorem Ue(T:Txt K mg t)(g1:QY P w K mg base t)(g13:Np P w K mg base t)(wd:E6 P w K mg base t)(Kx:N8 P w K mg base t):HZ P w K mg base t:=
 fM (k:=5) [false,false,false,false] HY T.F9.fn cL λ_ _ _ _ _ _ hr dR dS=>(by
  exact⟨_,(bx (cR (i:=4) cL.nd rfl (Or.inl rfl) (U0 ‹_› (iy (d:=(.str "the start")) (w9 (by rfl) T.kh)) Ib))
   (bx (cR (i:=5) cL.nd rfl (Or.inl rfl) (cf (eI T.zZ Kx (by exact hr.mono (by decide)) (av (ah 4) (av (ah 0) (av (ah 1) (av (ah 2) (av (ah 3) aN))))) (aV (aV (aV (aV (aV dt))))))))
   (bx (cR (i:=6) cL.nd rfl (Or.inr rfl) (cf (eI T.F1 g1 (by exact hr.mono (by decide)) (av (ah 4) (av (cf (iy (d:=(.str "the start")) (w9 (by rfl) T.kh))) (av (cf (iy (d:=(.str "the end")) (w9 (by rfl) T.rQ))) aN))) (aV (aV (aV dt))))))
   (RC (i:=4) (bx (cR (i:=7) cL.nd rfl (Or.inl rfl) (kG aN))
   (bx (XF PassesOwn.never T.nM (ah 1) (EO rfl (pQ (fI (i:=8) cL.nd rfl (Or.inl rfl)) (pQ (fI (i:=9) cL.nd rfl (Or.inl rfl)) Ep))) (EU (pR fJ (pR fJ Es)))
   (bx (cR (i:=10) cL.nd rfl (Or.inl rfl) (cf (eI T.vB wd (by exact hr.mono (by decide)) (av (ah 9) (av dI aN)) (aV (aV dt)))))
   (b_ (hY (eJ uQ uS (cG ‹_› (cG ‹_› (ah 4) (ah 10)) (iy (d:=(.str "the start")) (w9 (by rfl) T.kh))) dI)
   (b_ (lu (oP PySem.F.slot_list_append PySem.F.type_list_append uz uC (ah 7) (av (cf (kH (av (ah 8) (av (cf (eI T.Aa g13 (by exact hr.mono (by decide)) (av (cf (ah 4)) (av (ah 10) (av (ah 2) aN))) (aV (aV (aV dt))))) aN)))) aN))))
   ip))))
   (bx (uG (i:=11) tQ (k:=1) (cap:=[6]) fJ (M:=["spot","near"]) (cg.of (du DQ).names ["house","places","cart","turns","net","spots","near","ways","k","place","first","cut"] (by decide +kernel)) cL.nd rfl (Or.inl rfl) (tO K (cf (ah 5)))
    (λ_ _ _ _=>(fI (i:=0) (show List.Nodup (["spot","near"]:List Str) by decide +kernel) rfl (Or.inl rfl))) (λ_ _ _ _=>(xk (PW.pt (xu (eJ (uK K ‹_›) (m_ false) (cf (kH (av (ah 0) (av (iy (d:=.str "into") tZ) aN)))) (ah 1)) (y7 (eJ (uB K ‹_›) (m_ true) (cf (kH (av (ah 0) (av (iy (d:=.str "out of") tZ) aN)))) (ah 1))))))) (λ_ _ _ _=>(ah 0)))
   (b_ (fP (kH (av (uI (ah 7)) (av (ah 11) aN)))))))))))),rfl⟩)
theorem dC:aM ["house","places","cart","turns","fewer","told"] ["house","places","cart"] (du DR):=sM
def Dc:GT:=(gT (gB oLt (gO cK (aj (gB bJ (ae 5) (gC (.int 0))) gN)) (gO cK (aj (ae 1) gN))))
def C_:GS:=(aR (aq 4 (ae 5)) (aR (r6 (λi j=>i+j) 3 (gC (.int 1))) (aq 5 (ay (aH vC (aj (ae 0) (aj (ae 1) (aj (ae 2) (aj (ae 3) gN)))))))))
def SR:GE:=(jY (iX (ae 1)) (bu 0) gH (ly uT (aj (ae 1) (aj (ae 0) (aj (ae 2) gN)))) 1 [0,2])
def Dd:GS:=(aR (aq 4 (ay (aH vC (aj (ae 0) (aj (ae 1) (aj (ae 2) (aj (gB pq (ae 3) (gC (.int 1))) gN))))))) (aR (aq 5 (ay (aH vC (aj (ae 0) (aj (ae 1) (aj (ae 2) (aj (ae 3) gN))))))) (aR (gf Dc C_ 1000000) (aW (bC .tup (aj (ae 3) (aj (gB bJ (ae 5) (gC (.int 0))) (aj (gB bJ (ae 4) (gC (.int 1))) gN))))))))
def DW:GS:=(aR (jw (ly AI (aj (ae 0) (aj (ae 1) (aj (ae 2) gN))))) (aR (cw (jy (gk (ae 1))) (aW (bC .tup (aj (gC (.int 0)) (aj (ay (bC .lst gN)) (aj (ay (bC .lst gN)) gN))))) bw) (aR (aq 3 (gO va (aj SR gN))) Dd)))
def AQ:GM:=runM 6 [false,false,false] DW
variable(P w K mg base t)in
abbrev N9:Prop:=bQ P w K mg base fw 7 t.FV t.Fm ["house","places","cart"] (fT K 3 AQ)
theorem Ug(T:Txt K mg t)(g16:MW P w K mg base t)(g7:J' P w K mg base t)(g9:HZ P w K mg base t):N9 P w K mg base t:=
 fM (k:=6) [false,false,false] DW T.Ae.fn dC λ_ _ _ _ _ _ hr dR dS=>(by
  exact⟨_,(bx (lu (rE T.Af g16 (by exact hr.mono (by decide)) (av (ah 0) (av (ah 1) (av (ah 2) aN))) (aV (aV (aV dt)))))
   (bx (hY (zl (qU (ah 1)))
   (b_ (fP (kH (av dI (av (cf (kG aN)) (av (cf (kG aN)) aN))))))
   ip)
   (bx (cR (i:=3) dC.nd rfl (Or.inl rfl) (iO (We K) Zq T.BB PyProof.Rows.Boot.max (av (IX tQ (k:=1) (cap:=[0,2]) fJ (M:=["place","house","cart"]) (cg.of (du DR).names ["house","places","cart","turns","fewer","told"] (by decide +kernel)) (tO K (cf (ah 1)))
    (λ_ _ _ _=>(fI (i:=0) (show List.Nodup (["place","house","cart"]:List Str) by decide +kernel) rfl (Or.inl rfl))) (λ_ _ _ _=>zc) (λ_ _ _ _=>(rE T.F7 g7 (by exact hr.mono (by decide)) (av (ah 1) (av (ah 0) (av (ah 2) aN))) (aV (aV (aV dt)))))) aN)))
   (bx (cR (i:=4) dC.nd rfl (Or.inl rfl) (cf (eI T.F9 g9 (by exact hr.mono (by decide)) (av (ah 0) (av (ah 1) (av (ah 2) (av (c_ zi zm (ah 3) dI) aN)))) (aV (aV (aV (aV dt)))))))
   (bx (cR (i:=5) dC.nd rfl (Or.inl rfl) (cf (eI T.F9 g9 (by exact hr.mono (by decide)) (av (ah 0) (av (ah 1) (av (ah 2) (av (ah 3) aN)))) (aV (aV (aV (aV dt)))))))
   (bx (yX 1000000 PassesOwn.never (eJ uP uR (iO (jU K) jX T.cH jV (av (cG ‹_› (ah 5) dI) aN)) (iO (jU K) jX T.cH jV (av (ah 1) aN)))
   (bx (cR (i:=4) dC.nd rfl (Or.inl rfl) (ah 5))
   (bx (Zs (i:=3) QE dC.nd rfl (Or.inl rfl) dI (λ_ _ _ h=>by cases h;rfl))
   (b_ (cR (i:=5) dC.nd rfl (Or.inl rfl) (cf (eI T.F9 g9 (by exact hr.mono (by decide)) (av (ah 0) (av (ah 1) (av (ah 2) (av (ah 3) aN)))) (aV (aV (aV (aV dt)))))))))))
   (b_ (fP (kH (av (ah 3) (av (cG ‹_› (ah 5) dI) (av (cG ‹_› (ah 4) dI) aN)))))))))))),rfl⟩)
theorem mz:aM ["_law_house_here","_law_places_here","_law_cart","_law_turns_here","_law_found"] ["_law_house_here","_law_places_here","_law_cart","_law_turns_here"] (du Iy):=sM
def IF:GS:=(aR (aq 4 (ay (aH vC (aj (ae 0) (aj (ay (gO iH (aj (ae 1) gN))) (aj (ae 2) (aj (ae 3) gN))))))) (aR (cw (nX (jy (gk (gO gn (aj (ae 4) (aj (gC (.ty "tuple")) gN))))) (gT (gB gp (gO cK (aj (ae 4) gN)) (gC (.int 2))))) (aW (Gn sP (gC (.int 1)))) bw) (aW (gO cK (aj (gB bJ (ae 4) (gC (.int 0))) gN)))))
def xh:GM:=runM 5 [false,false,false,false] IF
variable(P w K mg base t)in
abbrev OR:Prop:=bQ P w K mg base fw 7 t.Gi t.FC ["_law_house_here","_law_places_here","_law_cart","_law_turns_here"] (fT K 4 xh)
theorem U8(T:Txt K mg t)(g9:HZ P w K mg base t):OR P w K mg base t:=
 fM (k:=6) [false,false,false,false] IF T.wW.fn mz λ_ _ _ _ _ _ hr dR dS=>(by
  exact⟨_,(bx (cR (i:=4) mz.nd rfl (Or.inl rfl) (cf (eI T.F9 g9 (by exact hr.mono (by decide)) (av (ah 0) (av (cf (uA (AH K) A_ T.jc xi (av (ah 1) aN))) (av (ah 2) (av (ah 3) aN)))) (aV (aV (aV (aV dt)))))))
   (bx (hY (PW.pt (FD (zl (qU (iO (AL K) Bq T.dP Bk (av (ah 4) (av (iy (d:=.ty "tuple") (BF (by rfl) T.mK Ia)) aN))))) (ET (eJ (xx K ‹_›) xy (iO (jU K) jX T.cH jV (av (ah 4) aN)) dI))))
   (b_ (fP (RA QF QL dI)))
   ip)
   (b_ (fP (iO (jU K) jX T.cH jV (av (cG ‹_› (ah 4) dI) aN)))))),rfl⟩)
theorem kW:aM ["_law_house_here","_law_places_here","_law_cart","_law_found"] ["_law_house_here","_law_places_here","_law_cart"] (du HN):=sM
def H0:GS:=(aR (aq 3 (ay (aH AQ (aj (ae 0) (aj (ay (gO iH (aj (ae 1) gN))) (aj (ae 2) gN)))))) (aR (cw (nX (jy (gk (gO gn (aj (ae 3) (aj (gC (.ty "tuple")) gN))))) (gT (gB gp (gO cK (aj (ae 3) gN)) (gC (.int 3))))) (aW (Gn sP (gC (.int 1)))) bw) (aW (gB bJ (ae 3) (gC (.int 0))))))
def vD:GM:=runM 4 [false,false,false] H0
variable(P w K mg base t)in
abbrev N_:Prop:=bQ P w K mg base fw 8 t.Gh t.FA ["_law_house_here","_law_places_here","_law_cart"] (fT K 3 vD)
theorem Uh(T:Txt K mg t)(g15:N9 P w K mg base t):N_ P w K mg base t:=
 fM (k:=7) [false,false,false] H0 T.wV.fn kW λ_ _ _ _ _ _ hr dR dS=>(by
  exact⟨_,(bx (cR (i:=3) kW.nd rfl (Or.inl rfl) (cf (eI T.Ae g15 (by exact hr.mono (by decide)) (av (ah 0) (av (cf (uA (AH K) A_ T.jc xi (av (ah 1) aN))) (av (ah 2) aN))) (aV (aV (aV dt))))))
   (bx (hY (PW.pt (FD (zl (qU (iO (AL K) Bq T.dP Bk (av (ah 3) (av (iy (d:=.ty "tuple") (BF (by rfl) T.mK Ia)) aN))))) (ET (eJ (xx K ‹_›) xy (iO (jU K) jX T.cH jV (av (ah 3) aN)) dI))))
   (b_ (fP (RA QF QL dI)))
   ip)
   (b_ (fP (cG ‹_› (ah 3) dI))))),rfl⟩)
theorem hU:aM ["_law_script","_law_feed_here","_law_house_here","_law_cart","_law_most","_law_places_here","_law_turns_here","_law_k"] ["_law_script"] (du FE):=sM
def l7:GS:=(cw (gT (gB oEq (ae 5) (bC .lst gN))) (aW (gB oEq (ae 6) (gC (.int 0)))) bw)
def l8:GS:=(cw (gT (gB oLt (ae 6) (gC (.int 1)))) (aW (gC (.bl false))) bw)
def Cv:GS:=(cw (gT (gB oEq (aH EF (aj (ae 1) (aj (ae 2) (aj (ae 5) (aj (ae 3) (aj (gB pq (ae 6) (gC (.int 1))) gN)))))) (gO cK (aj (ae 5) gN)))) (aW (gC (.bl false))) bw)
def l9:GS:=(vF (aj (gC (.int 4)) gN) (bu 7) Cv)
def Lu:GS:=(aq 7 (ay (aH kF (aj (ae 1) (aj (gO cK (aj (ae 5) gN)) gN)))))
def Lv:GS:=(cw (gT (gB qG (ly vD (aj (ae 2) (aj (gB bY (t6 (ae 5) vT (uL (ae 7))) (t6 (ae 5) (uL (gB bY (ae 7) (gC (.int 1)))) vT)) (aj (ae 3) gN)))) (ae 6))) (aW (gC (.bl false))) bw)
def Lx:GS:=(cw (gT (gB gp (ly vD (aj (ae 2) (aj (gO AY (aj (ae 5) gN)) (aj (ae 3) gN)))) (ae 6))) (aW (gC (.bl false))) bw)
def GH:GS:=(cw (gT (gB qG (ae 6) (gC (.int 12)))) (aW (gB oLt (ly xh (aj (ae 2) (aj (ae 5) (aj (ae 3) (aj (gC (.int 12)) gN))))) (gO cK (aj (ae 5) gN)))) bw)
def Ly:GS:=(cw (gT (gB gp (ly xh (aj (ae 2) (aj (ae 5) (aj (ae 3) (aj (ae 6) gN))))) (gO cK (aj (ae 5) gN)))) (aW (gC (.bl false))) bw)
def Lz:GS:=(aW (gB oLt (ly xh (aj (ae 2) (aj (ae 5) (aj (ae 3) (aj (gB pq (ae 6) (gC (.int 1))) gN))))) (gO cK (aj (ae 5) gN))))
def lT:GS:=aR l7 (aR l8 (aR l9 (aR Lu (aR Lv (aR Lx (aR GH (aR Ly Lz)))))))
def GI:GT:=(gk (ly yV (aj (ae 1) (aj (ae 0) (aj (ae 2) gN)))))
def Ka:GS:=(aR (aq 1 (aH y3 (aj (ae 0) gN))) (aR (aq 2 (ay (aH yW (aj (ae 1) gN)))) (aR (aq 3 (gB bJ (gB bJ (ae 2) (gC (.int 1))) (aH kF (aj (ae 1) (aj (gO cK (aj (gB bJ (ae 2) (gC (.int 1))) gN)) gN))))) (aR (aq 4 (gB bJ (bC .lst (aj (gC (.int 5)) (aj (gC (.int 3)) gN))) (gO kT (aj (gB qG (gO cK (aj (aH w_ (aj (ae 2) gN)) gN)) (gC (.int 16))) gN)))) (aR (aq 5 (ay (jY (iX (aH yS (aj (ae 1) (aj (ae 2) (aj (ae 4) gN))))) (bu 0) GI (ae 0) 1 [2,3]))) (aR (aq 6 (ly vD (aj (ae 2) (aj (ae 5) (aj (ae 3) gN))))) lT))))))
def Kb:GM:=runM 8 [false] Ka
theorem Zv(T:Txt K mg t)(Ky:HR P w K mg base t)(g25:N6 P w K mg base t)(kM:y4 P w K mg base t)(g17:OO P w K mg base t)(g21:N7 P w K mg base t)(KC:OR P w K mg base t)(g24:Nq P w K mg base t)(g26:PR P w K mg base t)(KA:N_ P w K mg base t):bQ P w K mg base fw 9 t.BX t.BS ["_law_script"] (fT K 1 Kb):=
 fM (k:=8) [false] Ka T.As.fn hU λ_ _ _ _ _ _ hr dR dS=>(by
  exact⟨_,(bx (cR (i:=1) hU.nd rfl (Or.inl rfl) (eI T.Ag g17 (by exact hr.mono (by decide)) (av (ah 0) aN) (aV dt)))
   (bx (cR (i:=2) hU.nd rfl (Or.inr rfl) (cf (eI T.Al g21 (by exact hr.mono (by decide)) (av (ah 1) aN) (aV dt))))
   (bx (cR (i:=3) hU.nd rfl (Or.inr rfl) (cG ‹_› (cG ‹_› (ah 2) dI) (eI T.kx kM (by exact hr.mono (by decide)) (av (ah 1) (av (iO (jU K) jX T.cH jV (av (cG ‹_› (ah 2) dI) aN)) aN)) (aV (aV dt)))))
   (bx (cR (i:=4) hU.nd rfl (Or.inl rfl) (cG ‹_› (kG (av dI (av dI aN))) (uA HD IU T.rP Jo (av (zj uQ uS (iO (jU K) jX T.cH jV (av (eI T.yL Ky (by exact hr.mono (by decide)) (av (ah 2) aN) (aV dt)) aN)) dI) aN))))
   (bx (uG (i:=5) tQ (k:=1) (cap:=[2,3]) fJ (M:=["_law_place","_law_house_here","_law_cart"]) (cg.of (du FE).names ["_law_script","_law_feed_here","_law_house_here","_law_cart","_law_most","_law_places_here","_law_turns_here","_law_k"] (by decide +kernel)) hU.nd rfl (Or.inl rfl) (tO K (cf (eI T.Am g24 (by exact hr.mono (by decide)) (av (ah 1) (av (ah 2) (av (ah 4) aN))) (aV (aV (aV dt))))))
    (λ_ _ _ _=>(fI (i:=0) (show List.Nodup (["_law_place","_law_house_here","_law_cart"]:List Str) by decide +kernel) rfl (Or.inl rfl))) (λ_ _ _ _=>(xk (qU (rE T.An g25 (by exact hr.mono (by decide)) (av (ah 1) (av (ah 0) (av (ah 2) aN))) (aV (aV (aV dt))))))) (λ_ _ _ _=>(ah 0)))
   (bx (cR (i:=6) hU.nd rfl (Or.inl rfl) (rE T.wV KA (by exact hr.mono (by decide)) (av (ah 2) (av (ah 5) (av (ah 3) aN))) (aV (aV (aV dt)))))
   (bx (hY (eJ (pT K ‹_›) pW (ah 5) (kG aN))
   (b_ (fP (zj (pT K ‹_›) pW (ah 6) dI)))
   ip)
   (bx (hY (eJ uP uR (ah 6) dI)
   (b_ (fP (iy (d:=.bl false) vV)))
   ip)
   (bx (yT PassesOwn.never T.eD (av dI aN) (fI (i:=7) hU.nd rfl (Or.inl rfl)) fJ
   (b_ (hY (eJ (pT K ‹_›) pW (eI T.Ao g26 (by exact hr.mono (by decide)) (av (ah 1) (av (ah 2) (av (ah 5) (av (ah 3) (av (c_ zi zm (ah 6) dI) aN))))) (aV (aV (aV (aV (aV dt)))))) (iO (jU K) jX T.cH jV (av (ah 5) aN)))
   (b_ (fP (iy (d:=.bl false) vV)))
   ip)))
   (bx (cR (i:=7) hU.nd rfl (Or.inl rfl) (cf (eI T.kx kM (by exact hr.mono (by decide)) (av (ah 1) (av (iO (jU K) jX T.cH jV (av (ah 5) aN)) aN)) (aV (aV dt)))))
   (bx (hY (eJ uQ uS (rE T.wV KA (by exact hr.mono (by decide)) (av (ah 2) (av (c_ (gY K) gZ (yY (ah 5) za (zb (ah 7))) (yY (ah 5) (zb (c_ (gY K) gZ (ah 7) dI)) za)) (av (ah 3) aN))) (aV (aV (aV dt)))) (ah 6))
   (b_ (fP (iy (d:=.bl false) vV)))
   ip)
   (bx (hY (eJ (xx K ‹_›) xy (rE T.wV KA (by exact hr.mono (by decide)) (av (ah 2) (av (T6 T.jc T.kJ (av (ah 5) aN)) (av (ah 3) aN))) (aV (aV (aV dt)))) (ah 6))
   (b_ (fP (iy (d:=.bl false) vV)))
   ip)
   (bx (hY (eJ uQ uS (ah 6) dI)
   (b_ (fP (zj uP uR (rE T.wW KC (by exact hr.mono (by decide)) (av (ah 2) (av (ah 5) (av (ah 3) (av dI aN)))) (aV (aV (aV (aV dt))))) (iO (jU K) jX T.cH jV (av (ah 5) aN)))))
   ip)
   (bx (hY (eJ (xx K ‹_›) xy (rE T.wW KC (by exact hr.mono (by decide)) (av (ah 2) (av (ah 5) (av (ah 3) (av (ah 6) aN)))) (aV (aV (aV (aV dt))))) (iO (jU K) jX T.cH jV (av (ah 5) aN)))
   (b_ (fP (iy (d:=.bl false) vV)))
   ip)
   (b_ (fP (zj uP uR (rE T.wW KC (by exact hr.mono (by decide)) (av (ah 2) (av (ah 5) (av (ah 3) (av (c_ zi zm (ah 6) dI) aN)))) (aV (aV (aV (aV dt))))) (iO (jU K) jX T.cH jV (av (ah 5) aN))))))))))))))))))),rfl⟩)
end
end Carry
namespace Carry
open PySem L2
variable{i n r k:Nat}{F:ba}{s ri:Int}
noncomputable def v_(F:ba):List O:=[.Y (.lst (F.ns.map .int)),.Y (.int F.pl),.Y (.int F.wM),.Y (.int F.mode),.Y (.int F.num)]
abbrev br(F:ba):O:=.lst (v_ F)
noncomputable def rV(ns:List Int):ba:=⟨ns,0,0,ns.getD 0 0%2,ns.getD 1 0⟩
theorem JJ(ds:List D)(n:Nat):cutD ds none (some (n:Int))=ds.take n:=by
 unfold cutD;have e1:HT.dE ds.length 0 none=0:=rfl;have e2:HT.dE ds.length ds.length (some (n:Int))=min n ds.length:=by
  unfold HT.dE;simp;try lia
 rw[e1,e2];simp only[nt,Nat.sub_zero];rw[List.take_eq_take_iff];lia
theorem JM(ds:List D):cutD ds none (some 2)=ds.take 2:=JJ ds 2
theorem BL(ds:List D):cutD ds none (some 63)=ds.take 63:=JJ ds 63
theorem Lp:n_ 5 4=some 4:=by decide
theorem Cs:n_ 5 1=some 1:=by decide
theorem Te(ns:List Int):dO ((ns.map D.int).take 2++[D.int 0,D.int 0]) 0=some (.int (ns.getD 0 0)):=by
 refine o5 (j:=0) ?_
 match ns with
 |[]=>rfl
 |[x]=>rfl
 |x::y::r=>rfl
theorem Tf(ns:List Int):dO ((ns.map D.int).take 2++[D.int 0,D.int 0]) 1=some (.int (ns.getD 1 0)):=by
 refine o5 (j:=1) ?_
 match ns with
 |[]=>rfl
 |[x]=>rfl
 |x::y::r=>rfl
theorem bf{α:Type _}{a:α}{l:List α}:(a::l)[0]?=some a:=rfl
theorem bt{α:Type _}{a:α}{l:List α}:(a::l)[i+1]?=l[i]?:=rfl
theorem bK{α:Type _}{a:α}{l:List α}:(a::l).length=l.length+1:=rfl
theorem bH{α:Type _}:([]:List α).length=0:=rfl
theorem bG{α:Type _}{x a:α}{l:List α}:(x::l).set 0 a=a::l:=rfl
theorem ck{α:Type _}{x a:α}{l:List α}:(x::l).set (n+1) a=x::l.set n a:=rfl
theorem dY{α β:Type _}{f:α->β}{a:α}{l:List α}:(a::l).map f=f a::l.map f:=rfl
theorem dZ{α β:Type _}{f:α->β}:([]:List α).map f=[]:=rfl
theorem eM{α:Type _}{a:α}:List.replicate 0 a=[]:=rfl
theorem eV{α:Type _}{a:α}:List.replicate (n+1) a=a::List.replicate n a:=rfl
theorem gL{α:Type _}{a:α}{l:List α}:(a::l).take (i+1)=a::l.take i:=rfl
theorem eE{α:Type _}{a:α}{l r:List α}:(a::l)++r=a::(l++r):=rfl
theorem eG{α:Type _}(l:List α):[]++l=l:=rfl
theorem gM{α:Type _}{l:List α}:l.take 0=[]:=rfl
theorem cW:(false=true)=False:=tK
theorem bL(n:Nat):0+n=n:=Nat.zero_add n
theorem Zw(ns:List Int)(h:ns.length<=63):y3 [.Y (.fH ns)]=some (br (rV ns),[none]):=by
 have c1:(min 2 ns.length<=999998)=True:=ke (by lia)
 have c2:(ns.map D.int).take 63=ns.map D.int:=List.take_of_length_le (by rw[bO];lia)
 unfold y3 IB;simp only[gD,dY,dZ,bK,bH,bL,reduceSub,eV,eM,eE,eG,cM,dN,cI,bD,bp,Eb,bc,bf,↓ag,Eu,Ew,bM,EA,↓evMap,bB,UO,JM,fg,bq,reduceAdd,reduceLeDiff,fO,d_,aZ,bA,bz,Bd,Br,xf,Jt,Js,qL,bO,c1,gG,rN,reduceLT,ck,bG,eS,BL,c2,bt,cZ,o7,Te,gw,Int.reduceLT,decide_true,Tf,h_,gL,gM,gR,gE];rfl
theorem Zx(F:ba)(m:Int)(h0:0<m)(h1:m<1073741824)(hp:0<=F.pl)(hl:F.ns.length<=63):kF [br F,.Y (.int m)]=some (.Y (.int (aQ F m)),[some (br (aK F m)),none]):=by
 unfold kF IC br v_;by_cases hm:F.mode=1
 .have e1:aQ F m=F.num%m:=by unfold aQ;rw[aY hm]
  have e2:aK F m={ F with num:=F.num / m}:=by unfold aK;rw[aY hm]
  rw[e1,e2];simp only[hm,gD,dY,dZ,bK,bH,bL,reduceAdd,reduceSub,eV,eM,eE,eG,cM,dg,cF,bD,bp,bc,bf,↓ag,bM,bq,bA,iC,fN,bB,bz,cZ,vU,y0,vH,mJ,bT,mZ,and_self,oQ,lU,aZ,dN,Ip,bt,gw,h0,decide_true,reduceLT,ck,bG,qu,h1,Ez,Lp,↓evMap,eS,dq,h_,gL,gM,qW,gR,gE]
 .have Sm:(F.mode == 1)=false:=by simpa using hm
  have e1:aQ F m=(cellOf F*48271+31*F.pl)%1000003*69621%999983%m:=by unfold aQ;rw[bb hm]
  have e2:aK F m={ F with pl:=F.pl+1}:=by unfold aK;rw[bb hm]
  rw[e1,e2];have m1:∀x:Int,((-(2^64)<x/\x<2^64\/(-(2^64):Int)<31/\(31:Int)<2^64)=True):=λx=>ke (.inr ⟨by decide,by decide⟩)
  have m2:∀x:Int,((-(2^64)<x/\x<2^64\/(-(2^64):Int)<48271/\(48271:Int)<2^64)=True):=λx=>ke (.inr ⟨by decide,by decide⟩)
  have m3:∀x:Int,((-(2^64)<x/\x<2^64\/(-(2^64):Int)<69621/\(69621:Int)<2^64)=True):=λx=>ke (.inr ⟨by decide,by decide⟩)
  have m4:∀x:Int,(((-(2^64):Int)<31/\(31:Int)<2^64 \/ -(2^64)<x/\x<2^64)=True):=λx=>ke (.inl ⟨by decide,by decide⟩)
  by_cases hc:(0:Int)<F.ns.length
  .have hs:(F.ns.length:Int)<1073741824:=by lia
   have hmod:0<=F.pl%(F.ns.length:Int)/\F.pl%(F.ns.length:Int)<F.ns.length:=⟨Int.emod_nonneg _ (by lia),Int.emod_lt_of_pos _ hc⟩
   have hat:dO (F.ns.map D.int) (F.pl%(F.ns.length:Int))=some (.int (F.ns.getD (F.pl%F.ns.length).toNat 0)):=by
    have zK:(F.pl%(F.ns.length:Int)).toNat<F.ns.length:=by lia
    have e:(F.ns.map D.int)[(F.pl%(F.ns.length:Int)).toNat]?=some (.int (F.ns.getD (F.pl%F.ns.length).toNat 0)):=by simp[zK]
    have z:=o5 e
    rwa[show(((F.pl%(F.ns.length:Int)).toNat:Nat):Int)=F.pl%(F.ns.length:Int) by lia] at z
   have ec:cellOf F=F.ns.getD (F.pl%F.ns.length).toNat 0+F.pl / F.ns.length*31:=by unfold cellOf;rw[aY (by lia)]
   rw[ec];simp only[gD,dY,dZ,bK,bH,bL,reduceAdd,reduceSub,eV,eM,eE,eG,cM,dg,cF,bD,bp,bc,bf,↓ag,bM,bq,bA,iC,fN,bB,bz,cZ,vU,y0,vH,mJ,bT,mZ,and_self,oQ,Sm,aZ,cW,dN,Ip,bt,gw,h0,decide_true,reduceLT,ck,bG,qu,h1,Ez,↓evMap,dq,cB,oJ,cI,iw,Cs,lE,uM,vM,bO,hc,o7,hat,hs,zd,m1,eS,m2,m4,Int.reduceLT,m3,h_,gL,gM,qW,gR,gE]
  .have ec:cellOf F=F.pl:=by unfold cellOf;rw[bb (by lia)]
   rw[ec];simp only[gD,dY,dZ,bK,bH,bL,reduceAdd,reduceSub,eV,eM,eE,eG,cM,dg,cF,bD,bp,bc,bf,↓ag,bM,bq,bA,iC,fN,bB,bz,cZ,vU,y0,vH,mJ,bT,mZ,and_self,oQ,Sm,aZ,cW,dN,Ip,bt,gw,h0,decide_true,reduceLT,ck,bG,qu,h1,Ez,↓evMap,dq,cB,oJ,cI,iw,Cs,lE,uM,vM,bO,hc,decide_false,eS,zd,m2,m4,Int.reduceLT,m3,h_,gL,gM,qW,gR,gE]
abbrev fS(x:Str):O:=.Y (.str x)
theorem JK(xs:List Str):xs.map fS=(xs.map D.str).map .Y:=by rw[mE];rfl
theorem BH(xs:List Str):O.dl (xs.map fS)=xs.map D.str:=by rw[JK,jW]
theorem Jb(x:Str):∀xs:List Str,((xs.map D.str).any λz=>bj z (.str x))=xs.contains x
 |[]=>rfl
 |y::r=>by
  rw[cY,List.any_cons,Jb x r,List.contains_cons,Bs]
  congr 1
  exact BEq.comm
theorem PX(n:Nat)(xs:List Str):(xs.map D.str).all (cS n)=true:=by
 rw[nr];intro d hd;obtain⟨y,_,rfl⟩:=gz.mp hd;exact qt n y
theorem zr(neg:Bool)(x:Str)(xs:List Str):bR neg [.Y (.str x),.lst (xs.map fS)]=some (.Y (.bl (if neg then !xs.contains x else xs.contains x))):=by
 unfold bR;have e:ox (O.lst (xs.map fS)).d=some (xs.map D.str):=by rw[JK];show some (O.dl _)=_;rw[jW]
 simp only[iE,e,Option.bind_some,bT,qt,PX,and_self,aZ,Jb]
theorem E8(neg:Bool)(x:Str)(xs:List Str):bR neg [.Y (.str x),.Y (.lst (xs.map D.str))]=some (.Y (.bl (if neg then !xs.contains x else xs.contains x))):=by
 unfold bR;have e:ox (.lst (xs.map D.str))=some (xs.map D.str):=rfl;simp only[iE,e,Option.bind_some,bT,qt,PX,and_self,aZ,Jb]
theorem XU(xs:List Str)(i:Int)(y:Str)(h0:0<=i)(h1:i<1000000)(hl:xs.length<1000000):vL (.lst (xs.map fS)) [.Y (.int i),.Y (.str y)]=some (.lst ((pj xs i.toNat y).map fS),.Y .bF):=by
 unfold vL;dsimp only;rw[aY ⟨h0,h1,by rw[bO];exact hl⟩]
 unfold pj;rw[jm,cY,MG,Ha]
structure bh (F:ba):Prop where
 pos:0<=F.pl
 len:F.ns.length<=63
theorem bh.draw(h:bh F)(m:Int):bh (aK F m):=⟨VA F m h.pos,by rw[Vz];exact h.len⟩
theorem xd(h:bh F){m:Int}(h0:0<m)(h1:m<1073741824):kF [br F,.Y (.int m)]=some (.Y (.int (aQ F m)),[some (br (aK F m)),none]):=Zx F m h0 h1 h.pos h.len
noncomputable def bZ(b:aX):D:=.tup [.str b.name,.int b.long,.bl b.ring,.lst (b.outs.map .str)]
def cx(h:az):D:=.tup [.lst (h.aF.map bZ),.lst (h.aG.map .str)]
abbrev fB(b:aX):O:=.Y (bZ b)
theorem e8h(xs:List aX):O.dl (xs.map fB)=xs.map bZ:=by rw[show xs.map fB=(xs.map bZ).map .Y by rw[mE];rfl,jW]
theorem Nv:∀(xs:List aX) (aP:List Str) (a:ak O),aP.length+xs.length<1000000->∃a',compLoop (bu 0) gH (gB bJ (ae 0) (gC (.int 0))) (xs.map bZ) [a] (aP.map fS)=some ((aP++xs.map aX.name).map fS,[a'])
 |[],aP,a,_=>⟨a,by rw[mT,QP,mT,lR]⟩
 |x::xs,aP,a,h=>by
  rw[jl] at h;have hl:(aP.map fS).length<1000000:=by rw[bO];lia
  obtain⟨a',e⟩:=Nv xs (aP++[x.name]) (some (fB x)) (by rw[fe,lC];lia)
  refine⟨a',?_⟩;rw[cY (f:=aX.name),show aP++x.name::xs.map aX.name=aP++[x.name]++xs.map aX.name by simp]
  rw[<-e,jm];simp only[dY,bZ,QQ,fU,bK,bH,bL,reduceLT,bG,aZ,↓ag,xw,bD,bp,bc,bf,bM,bq,bA,bB,bz,cZ,kf,lE,↓evMap,fO,d_,hl,dZ];rfl
def qE(st k:Nat):Str:=xI (("abcdefghijk":Str).cps.toList.getD (((k:Int)*4+(st:Int))%11).toNat 0)
def nm(st k:Nat):Str:=
 if st%3=0 then Txt.mul "q" ((st / 3%3:Nat):Int)++qE st k++Txt.slice "zq" none (some ((st / 9:Nat):Int))
 else if st%3=1 then(if k<8 then Txt.mul "b" ((k:Int)+1) else Txt.mul "c" ((k:Int) - 7)) else qE st k
theorem Zy:∀st:Nat,st<27->∀i:Nat,i<9->∀j:Nat,j<9->nm st i=nm st j->i=j:=by decide +kernel
theorem mulQ:∀n:Nat,n<3->MulOk "q" (n:Int):=by unfold MulOk;decide +kernel
theorem LN:∀n:Nat,n<9->MulOk "b" ((n:Int)+1):=by unfold MulOk;decide +kernel
theorem mulC:∀n:Nat,n<9->MulOk "c" ((n:Int) - 7):=by unfold MulOk;decide +kernel
theorem LH:∀n:Nat,n<3->(Txt.mul "q" (n:Int)).length<=3:=by decide +kernel
theorem lenZ:∀n:Nat,n<3->(Txt.slice "zq" none (some (n:Int))).length<=3:=by decide +kernel
theorem XW(c:Nat):(xI c).length=1:=rfl
theorem Lw:("abcdefghijk":Str).cps.toList.length=11:=by decide +kernel
theorem Zz(st k:Nat):dO ("abcdefghijk":Str).cps.toList (((k:Int)*4+st)%11)=some (("abcdefghijk":Str).cps.toList.getD (((k:Int)*4+st)%11).toNat 0):=Ou 0 (by lia) (by rw[Lw];lia)
theorem RE{st:Nat}(es:s=st)(er:ri=r)(h:st%3=r):(s%3 == ri)=true:=by rw[beq_iff_eq];lia
theorem RS{st:Nat}(es:s=st)(er:ri=r)(h:¬st%3=r):(s%3 == ri)=false:=by rw[oI];lia
theorem e8i{st:Nat}(es:s=st):((st / 3%3:Nat):Int)=s / 3%3:=by lia
theorem e8j{st:Nat}(es:s=st):((st / 9:Nat):Int)=s / 9:=by lia
theorem Kc{st:Nat}(hs:st<27):st / 3%3<3/\st / 9<3:=by lia
theorem RT{a b:Nat}(ha:a<=3)(hb:b<=4):a+b<=1000000:=by lia
theorem k8{i:Int}(ek:i=k):(i<8)=(k<8):=by rw[eq_iff_iff];lia
theorem XX(s i:Int)(st k:Nat)(es:s=st)(ek:i=k)(hs:st<27)(hk:k<9):vI [.Y (.int s),.Y (.int i)]=some (.Y (.str (nm st k)),[none,none]):=by
 have m1:((-(2^64)<i/\i<2^64)\/((-(2^64):Int)<4/\(4:Int)<2^64))=True:=ke (.inr ⟨by decide,by decide⟩)
 have ea:=Zz st k;rw[<-es,<-ek] at ea;have el:(⟨#[("abcdefghijk":Str).cps.toList.getD ((i*4+s)%11).toNat 0]⟩:Str)=qE st k:=by unfold qE xI;rw[es,ek]
 have c0:(("abcdefghijk":Str).length<=1000000)=True:=ke (by decide +kernel)
 have ll:(qE st k).length=1:=XW _;unfold vI ID nm;generalize qE st k=lt at *;generalize("abcdefghijk":Str).cps.toList.getD ((i*4+s)%11).toNat 0=ch at *;generalize("abcdefghijk":Str)=S at *;by_cases h0:st%3=0
 .rw[aY h0];have q0:(s%3 == 0)=true:=RE es rfl h0;have e3:((st / 3%3:Nat):Int)=s / 3%3:=e8i es;have e9:((st / 9:Nat):Int)=s / 9:=e8j es;have mq:=ke (mulQ (st / 3%3) (Kc hs).1);have lq:=LH (st / 3%3) (Kc hs).1;have lz:=lenZ (st / 9) (Kc hs).2;rw[e3] at mq lq ⊢;rw[e9] at lz ⊢;have c1:((Txt.mul "q" (s / 3%3)).length+lt.length<=1000000)=True:=ke (RT lq (by rw[ll];decide))
  have c2:((Txt.mul "q" (s / 3%3)++lt).length+(Txt.slice "zq" none (some (s / 9))).length<=1000000)=True:=ke (by rw[Str.length_append,Nat.add_comm];exact RT lz (by rw[ll];exact Nat.succ_le_succ lq))
  have cz:(("zq":Str).length<=1000000)=True:=ke (by decide +kernel)
  generalize("zq":Str)=Z at *;generalize("q":Str)=Q at *;have d3:decide (0<(3:Int)/\(3:Int)<1073741824)=true:=by decide
  have d9:decide (0<(9:Int)/\(9:Int)<1073741824)=true:=by decide
  simp only[gD,dY,dZ,bK,bH,bL,reduceAdd,reduceSub,eV,eM,eE,eG,cM,dN,bD,bp,bM,↓ag,bc,bt,bf,bq,bA,bB,bz,zd,m1,aZ,iw,gw,Int.reduceLT,decide_true,cZ,E1,c0,ea,↓evMap,el,reduceLT,ck,bG,dg,cF,mJ,bT,mZ,and_self,oQ,q0,eS,Ey,mq,Xx,c1,Eb,Eu,Ew,EA,UN,cz,c2,dq,h_,gL,gM,gR,gE]
 .have q0:(s%3 == 0)=false:=RS es rfl h0;rw[bb h0];by_cases h1:st%3=1
  .rw[aY h1];have q1:(s%3 == 1)=true:=RE es rfl h1;by_cases h8:k<8
   .rw[aY h8];have KI:i<8:=by rw[k8 ek];exact h8
    have mb:=ke (LN k hk);rw[<-ek] at mb ⊢;generalize("b":Str)=Q at *;simp only[gD,dY,dZ,bK,bH,bL,reduceAdd,reduceSub,eV,eM,eE,eG,cM,dN,bD,bp,bM,↓ag,bc,bt,bf,bq,bA,bB,bz,zd,m1,aZ,iw,gw,Int.reduceLT,decide_true,cZ,E1,c0,ea,↓evMap,el,reduceLT,ck,bG,dg,cF,mJ,bT,mZ,and_self,oQ,q0,cW,eS,Ey,dq,cB,q1,xF,KI,mb,h_,gL,gM,gR,gE]
   .rw[bb h8];have KI:¬i<8:=by rw[k8 ek];exact h8
    have mb:=ke (mulC k hk);rw[<-ek] at mb ⊢;generalize("c":Str)=Q at *;simp only[gD,dY,dZ,bK,bH,bL,reduceAdd,reduceSub,eV,eM,eE,eG,cM,dN,bD,bp,bM,↓ag,bc,bt,bf,bq,bA,bB,bz,zd,m1,aZ,iw,gw,Int.reduceLT,decide_true,cZ,E1,c0,ea,↓evMap,el,reduceLT,ck,bG,dg,cF,mJ,bT,mZ,and_self,oQ,q0,cW,eS,Ey,dq,cB,q1,xF,KI,decide_false,mb,h_,gL,gM,gR,gE]
  .rw[bb h1];have q1:(s%3 == 1)=false:=RS es rfl h1;simp only[gD,dY,dZ,bK,bH,bL,reduceAdd,reduceSub,eV,eM,eE,eG,cM,dN,bD,bp,bM,↓ag,bc,bt,bf,bq,bA,bB,bz,zd,m1,aZ,iw,gw,Int.reduceLT,decide_true,cZ,E1,c0,ea,↓evMap,el,reduceLT,ck,bG,dg,cF,mJ,bT,mZ,and_self,oQ,q0,cW,eS,Ey,dq,cB,q1,xF,decide_eq_true_eq,h_,gL,gM,gR,gE]
theorem PY{i j:Int}(h:i.natAbs<=1000000)(h2:j.natAbs<=1000000):lM [.own (.Y (.int i)),.own (.Y (.int j))]=some (i,j):=by
 unfold lM;dsimp only;rw[aY ⟨Nat.ble_eq_true_of_le (by lia),Nat.ble_eq_true_of_le (by lia)⟩]
theorem Kd(ge:GE)(F:ba)(g:bh F)(s1 s2 s3:O)(a5:ak O)(outs:List Str)(hl:outs.length<=30)(y:Str)(hE:∀F':ba,ge [some (br F'),some s1,some s2,some s3,some (.lst (outs.map fS)),a5]=some (.own (fS y),[some (br F'),some s1,some s2,some s3,some (.lst (outs.map fS)),a5])):
  ∃(F':ba) (sT:List Str),bh F'/\(∀o,o∈sT↔o=y\/o∈outs)/\sT.length=outs.length+1/\sx ge [some (br F),some s1,some s2,some s3,some (.lst (outs.map fS)),a5]=some (.nx,[some (br F'),some s1,some s2,some s3,some (.lst (sT.map fS)),a5]):=by
 have hm:(0:Int)<(outs.length:Int)+1:=by lia
 have e1:=xd g (m:=(outs.length:Int)+1) hm (by lia)
 have d0:=qP F hm;have d1:=qQ F hm;have ei:=XU outs (aQ F ((outs.length:Int)+1)) y d0 (by lia) (by lia)
 have hF:=hE (aK F ((outs.length:Int)+1));refine⟨aK F ((outs.length:Int)+1),pj outs (aQ F ((outs.length:Int)+1)).toNat y,g.draw _,λo=>VD,VB _ _ _,?_⟩
 have el:((outs.map D.str).length:Int)=(outs.length:Int):=by rw[bO]
 generalize(outs.length:Int)=ol at *;unfold sx;simp only[jv,lF,bc,bt,bf,↓ag,bp,cI,fA,bD,bq,bA,iC,fN,bz,uM,gG,BH,vM,el,↓evMap,bM,bB,iw,bT,ja,bG,fz,fy,e1,jH,fW,fV,hF,fO,d_,ei,ck]
structure oW (names:List Str) (k:Nat) (outs:List Str):Prop where
 sub:∀o∈outs,o∈names.drop (k+1)
 len:outs.length<=20
theorem IG{names:List Str}{j:Nat}{y:Str}(h:names[j]?=some y)(hk:k<=j):y∈names.drop k:=by
 obtain⟨hj,e⟩:=iA.mp h;have:(names.drop k)[j - k]?=some y:=by rw[List.getElem?_drop,show k+(j - k)=j by lia];exact h
 exact qM this
theorem Wl(names outs:List Str)(lo:Int)(l0:0<=lo):∀(n:Nat),lo+n<=names.length->n<1000->∃(a:ak O) (bs:List Bool),compLoop (bu 0) gH (gB (bR false) (gB bJ (ae 2) (ae 0)) (ae 1)) (gq lo n) [none,some (.lst (outs.map fS)),some (.Y (.lst (names.map .str)))] []=some ((bs.map D.bl).map .Y,[a,some (.lst (outs.map fS)),some (.Y (.lst (names.map .str)))])/\bs=(List.range n).map λ(i:Nat)=>outs.contains (names.getD (lo+(i:Int)).toNat ""):=by
 intro n hn Gu;obtain⟨aw,⟨a,rfl⟩,e⟩:=AX (g:=bu 0) (ct:=gH) (ce:=gB (bR false) (gB bJ (ae 2) (ae 0)) (ae 1)) (λQ0=>∃a,Q0=[a,some (.lst (outs.map fS)),some (.Y (.lst (names.map .str)))]) (λ(i:Nat)=>D.int (lo+(i:Int))) (λ(i:Nat)=>D.bl (outs.contains (names.getD (lo+(i:Int)).toNat ""))) (List.range n) [none,some (.lst (outs.map fS)),some (.Y (.lst (names.map .str)))] ⟨_,rfl⟩ (by rw[oH];lia) (by
  rintro i hi Q0 ⟨a,rfl⟩;rw[rn] at hi;have ea:dO (names.map D.str) (lo+(i:Int))=some (.str (names.getD (lo+(i:Int)).toNat "")):=by
   have:=Ou (xs:=names.map D.str) (k:=lo+(i:Int)) (D.str "") (by lia) (by rw[bO];lia)
   rw[this,DD,DD,kc];cases names[(lo+(i:Int)).toNat]? <;> rfl
  refine⟨[some (.Y (.int (lo+(i:Int)))),some (.lst (outs.map fS)),some (.Y (.lst (names.map .str)))],?_,_,rfl⟩;generalize lo+(i:Int)=ix at *;simp only[qR,fU,bK,bH,bL,reduceAdd,reduceLT,bG,aZ,↓ag,xw,bD,bp,bc,bt,bf,bq,bA,bB,bz,cZ,o7,ea,↓evMap,iC,fN,zr,cW,cB])
 exact⟨a,_,by rw[tT,e,mE (g:=D.bl)];rfl,rfl⟩
theorem ZA(F:ba)(g:bh F)(names:List Str)(k aS:Nat)(Sj:k<aS)(hm:aS<names.length)(hl:names.length<=12):
  ∃(F':ba) (outs:List Str),bh F'/\oW names k outs/\outs≠[]/\Ef [br F,.Y (.lst (names.map .str)),.Y (.int (k:Int)),.Y (.int (aS:Int))]=some (.lst (outs.map fS),[some (br F'),none,none,none]):=by
 have ga:∀j:Nat,j<names.length->dO (names.map D.str) (j:Int)=some (.str (names.getD j "")):=λj hj=>by
  apply o5;rw[kc,i8 hj,DD,i8 hj];rfl
 have gm:∀j:Nat,j<names.length->names[j]?=some (names.getD j ""):=λj hj=>by
  rw[i8 hj,DD,i8 hj];rfl
 obtain⟨aJ,e1,F1,o1,a5,g1,ym,rfl⟩:=mW (g:=bu 5) (f:=qa) (λ(i:Nat)=>D.int (((k:Int)+1)+(i:Int))) (λpre Q0=>∃(F':ba) (outs:List Str) (a5:ak O),bh F'/\((∀o∈outs,o∈names.drop (k+1))/\outs.length<=pre.length)/\Q0=[some (br F'),some (.Y (.lst (names.map .str))),some (.Y (.int (k:Int))),some (.Y (.int (aS:Int))),some (.lst (outs.map fS)),a5]) (List.range ((names.length:Int) - ((k:Int)+1)).toNat) []
  [some (br F),some (.Y (.lst (names.map .str))),some (.Y (.int (k:Int))),some (.Y (.int (aS:Int))),some (.lst []),none] ⟨F,[],none,g,⟨λo m=>(by cases m),cX _⟩,rfl⟩ (by
   rintro q i post Q0 eq ⟨F',outs,a5,gF,⟨sb,ln⟩,rfl⟩;have hi:i<((names.length:Int) - ((k:Int)+1)).toNat:=by
    have:i∈List.range ((names.length:Int) - ((k:Int)+1)).toNat:=by rw[eq];simp
    exact rn.mp this
   have hq:q.length<12:=by
    have:=congrArg List.length eq;simp at this;lia
   have ed:=xd gF (m:=3) (by decide) (by decide)
   rw[gc] at *;have ej:((k:Int)+1)+(i:Int)=((k+1+i:Nat):Int):=by lia
   have ea:=ga (k+1+i) (by lia)
   rw[<-ej] at ea;by_cases hd:aQ F' 3=0
   .obtain⟨F2,sU,g2,m2,l2,e2⟩:=Kd (gB bJ (ae 1) (ae 5)) (aK F' 3) (gF.draw 3) (.Y (.lst (names.map .str))) (.Y (.int (k:Int))) (.Y (.int (aS:Int))) (some (.Y (.int (((k:Int)+1)+(i:Int))))) outs (by lia) (names.getD (k+1+i) "") (λML=>by
     generalize((k:Int)+1)+(i:Int)=ix at *;simp only[bD,bp,bc,bt,bf,↓ag,bq,bA,bB,bz,cZ,o7,ea,↓evMap])
    refine⟨_,?_,F2,sU,some (.Y (.int (((k:Int)+1)+(i:Int)))),g2,⟨λo ho=>?_,by rw[l2,fe,lC];lia⟩,rfl⟩
    .have Ce:(aQ F' 3 == 0)=true:=by rw[hd];rfl
     unfold qa;generalize((k:Int)+1)+(i:Int)=ix at *;simp only[fU,bK,bH,bL,reduceAdd,reduceLT,ck,bG,aZ,↓ag,dg,cF,bD,bp,fA,bc,bf,bM,bq,ja,fz,fy,ed,jH,fW,fV,bA,bB,bz,mJ,bT,mZ,and_self,oQ,Ce,e2,dq]
    .rcases(m2 o).mp ho with z|z
     .rw[z];exact IG (gm (k+1+i) (by lia)) (by lia)
     .exact sb o z
   .have Ce:(aQ F' 3 == 0)=false:=by rw[oI];exact hd
    refine⟨_,?_,aK F' 3,outs,some (.Y (.int (((k:Int)+1)+(i:Int)))),gF.draw 3,⟨sb,by rw[fe,lC];lia⟩,rfl⟩
    unfold qa;generalize((k:Int)+1)+(i:Int)=ix at *;simp only[fU,bK,bH,bL,reduceAdd,reduceLT,ck,bG,aZ,↓ag,dg,cF,bD,bp,fA,bc,bf,bM,bq,ja,fz,fy,ed,jH,fW,fV,bA,bB,bz,mJ,bT,mZ,and_self,oQ,Ce,cW,dq,cB])
 rw[gc] at ym;obtain⟨GU,ln1⟩:=ym;rw[oH] at ln1;rw[<-tT] at e1;obtain⟨F2,o2,g2,L4,ln2,e2⟩:∃(F2:ba) (o2:List Str),bh F2/\(∀o∈o2,o∈names.drop (k+1))/\o2.length<=15/\mh [some (br F1),some (.Y (.lst (names.map .str))),some (.Y (.int (k:Int))),some (.Y (.int (aS:Int))),some (.lst (o1.map fS)),a5]=some (.nx,[some (br F2),some (.Y (.lst (names.map .str))),some (.Y (.int (k:Int))),some (.Y (.int (aS:Int))),some (.lst (o2.map fS)),a5]):=by
  have ed:=xd g1 (m:=4) (by decide) (by decide)
  by_cases Si:k+1<aS
  .have si:((k:Int)+1<(aS:Int)):=by lia
   have ea:=ga (k+1) (by lia)
   rw[show((k+1:Nat):Int)=(k:Int)+1 by lia] at ea
   by_cases hd:0<aQ F1 4
   .by_cases hc:o1.contains (names.getD (k+1) "")=true
    .refine⟨aK F1 4,o1,g1.draw 4,GU,by lia,?_⟩
     unfold mh;generalize(k:Int)=ki at *;generalize(aS:Int)=mi at *;simp only[dg,mI,cF,bD,bp,bc,bt,bf,↓ag,bM,bq,bA,bB,bz,iw,gw,si,decide_true,aZ,fA,ja,bG,fz,fy,ed,jH,fW,fV,hd,cZ,o7,ea,↓evMap,iC,fN,zr,hc,jR,cW,dq,cB]
    .rw[Dy] at hc;obtain⟨F2,sU,g2,m2,l2,e2⟩:=Kd (gB bJ (ae 1) (gB bY (ae 2) (gC (.int 1)))) (aK F1 4) (g1.draw 4) (.Y (.lst (names.map .str))) (.Y (.int (k:Int))) (.Y (.int (aS:Int))) a5 o1 (by lia) (names.getD (k+1) "") (λML=>by
      generalize(k:Int)=ki at *;simp only[bD,bp,bc,bt,bf,↓ag,bM,bq,bA,bB,bz,iw,cZ,o7,ea,↓evMap])
     refine⟨F2,sU,g2,λo ho=>?_,by lia,?_⟩
     .rcases(m2 o).mp ho with z|z
      .rw[z];exact IG (gm (k+1) (by lia)) (by lia)
      .exact GU o z
     .unfold mh;generalize(k:Int)=ki at *;generalize(aS:Int)=mi at *;simp only[dg,mI,cF,bD,bp,bc,bt,bf,↓ag,bM,bq,bA,bB,bz,iw,gw,si,decide_true,aZ,fA,ja,bG,fz,fy,ed,jH,fW,fV,hd,cZ,o7,ea,↓evMap,iC,fN,zr,hc,mU,e2,dq]
   .refine⟨aK F1 4,o1,g1.draw 4,GU,by lia,?_⟩
    unfold mh;generalize(k:Int)=ki at *;generalize(aS:Int)=mi at *;simp only[dg,mI,cF,bD,bp,bc,bt,bf,↓ag,bM,bq,bA,bB,bz,iw,gw,si,decide_true,aZ,fA,ja,bG,fz,fy,ed,jH,fW,fV,hd,decide_false,cW,cZ,o7,↓evMap,cB,dq]
  .have si:¬((k:Int)+1<(aS:Int)):=by lia
   refine⟨F1,o1,g1,GU,by lia,?_⟩
   unfold mh;generalize(k:Int)=ki at *;generalize(aS:Int)=mi at *;simp only[dg,mI,cF,bD,bp,bc,bt,bf,↓ag,bM,bq,bA,bB,bz,iw,gw,si,decide_false,aZ,cW,fA,ja,bG,fz,fy,cB,dq]
 obtain⟨F3,o3,g3,GQ,ne3,e3⟩:∃(F3:ba) (o3:List Str),bh F3/\oW names k o3/\o3≠[]/\oj [some (br F2),some (.Y (.lst (names.map .str))),some (.Y (.int (k:Int))),some (.Y (.int (aS:Int))),some (.lst (o2.map fS)),a5]=some (.nx,[some (br F3),some (.Y (.lst (names.map .str))),some (.Y (.int (k:Int))),some (.Y (.int (aS:Int))),some (.lst (o3.map fS)),a5]):=by
  have ea:=ga aS (by lia)
  by_cases hc:o2.contains (names.getD aS "")=true
  .refine⟨F2,o2,g2,⟨L4,by lia⟩,λz=>?_,?_⟩
   .rw[z] at hc;cases hc
   .unfold oj;generalize(k:Int)=ki at *;generalize(aS:Int)=mi at *;simp only[dg,mI,cF,bD,bp,bc,bt,bf,↓ag,bq,bA,bB,bz,cZ,o7,ea,↓evMap,iC,fN,zr,hc,jR,aZ,cW,rL,kI,mY,Im,bM,iw,cB,dq]
  .rw[Dy] at hc;obtain⟨a,bs,ec,zH⟩:=Wl names o2 ((k:Int)+1) (by lia) ((aS:Int) - ((k:Int)+1)).toNat (by lia) (by lia)
   have i2:lM [.own (.Y (.int ((k:Int)+1))),.own (.Y (.int (aS:Int)))]=some ((k:Int)+1,(aS:Int)):=PY (by lia) (by lia)
   cases u2:bs.any id with
   |true=>
    refine⟨F2,o2,g2,⟨L4,by lia⟩,λz=>?_,?_⟩
    .rw[zV] at u2;obtain⟨b,hb,R9⟩:=u2;rw[zH] at hb;obtain⟨i,_,e⟩:=gz.mp hb;rw[<-e,z] at R9;cases R9
    .unfold oj;generalize(k:Int)=ki at *;generalize(aS:Int)=mi at *;simp only[dg,mI,cF,bD,bp,bc,bt,bf,↓ag,bq,bA,bB,bz,cZ,o7,ea,↓evMap,iC,fN,zr,hc,mU,aZ,rL,kI,mY,Im,bM,iw,i2,eV,eM,oY,ck,bG,nF,eE,eG,ec,bK,bH,bL,reduceAdd,oU,nt,oZ,nH,NW,u2,oO,jR,cW,dq,cB]
   |false=>
    obtain⟨F3,CN,g3,m3,l3,e3⟩:=Kd (gB bJ (ae 1) (ae 3)) F2 g2 (.Y (.lst (names.map .str))) (.Y (.int (k:Int))) (.Y (.int (aS:Int))) a5 o2 (by lia) (names.getD aS "") (λML=>by
      generalize(aS:Int)=mi at *;simp only[bD,bp,bc,bt,bf,↓ag,bq,bA,bB,bz,cZ,o7,ea,↓evMap])
    refine⟨F3,CN,g3,⟨λo ho=>?_,by lia⟩,λz=>?_,?_⟩
    .rcases(m3 o).mp ho with z|z
     .rw[z];exact IG (gm aS (by lia)) (by lia)
     .exact L4 o z
    .have:=(m3 (names.getD aS "")).mpr (.inl rfl);rw[z] at this;cases this
    .unfold oj;generalize(k:Int)=ki at *;generalize(aS:Int)=mi at *;simp only[dg,mI,cF,bD,bp,bc,bt,bf,↓ag,bq,bA,bB,bz,cZ,o7,ea,↓evMap,iC,fN,zr,hc,mU,aZ,rL,kI,mY,Im,bM,iw,i2,eV,eM,oY,ck,bG,nF,eE,eG,ec,bK,bH,bL,reduceAdd,oU,nt,oZ,nH,NW,u2,oO,e3,dq]
 refine⟨F3,o3,g3,GQ,ne3,?_⟩;have i2:lM [.own (.Y (.int ((k:Int)+1))),.own (.Y (.int (names.length:Int)))]=some ((k:Int)+1,(names.length:Int)):=PY (by lia) (by lia)
 unfold Ef;unfold IE;have K9:((names.map D.str).length:Int)=(names.length:Int):=by rw[bO]
 generalize(k:Int)=ki at *;generalize(aS:Int)=mi at *;generalize(names.length:Int)=nl at *;simp only[gD,dY,dZ,bK,bH,bL,reduceAdd,reduceSub,eV,eM,eE,eG,cM,dN,fg,bq,↓ag,reduceLeDiff,d_,aZ,reduceLT,ck,bG,e8e,bp,bD,bc,bt,bf,bM,bA,bB,bz,iw,uM,bT,vM,K9,↓evMap,i2,e1,e2,e3,eS,rK,h_,gL,gM,qW,gR,gE]
def mF(aG:List Str):List aX->Prop
 |[]=>True
 |b::bs=>(∀o∈b.outs,o∈bs.map aX.name\/o∈aG)/\b.name∉bs.map aX.name/\b.name∉aG/\mF aG bs
structure DG (b:aX):Prop where
 lg:1<=b.long/\b.long<=20
 ol:b.outs.length<=20
 on:b.outs≠[]
structure gd (h:az):Prop where
 bl:0<h.aF.length/\h.aF.length<=6
 ct:0<h.aG.length/\h.aG.length<=3
 bk:∀b∈h.aF,DG b
 fwd:mF h.aG h.aF
 tl:∃L:Nat,(∀b∈h.aF,b.long<=L)/\h.aF.length*L<=30
theorem OS(ds:List D)(n:Nat):cutD ds (some (n:Int)) none=ds.drop n:=by
 unfold cutD;have e:HT.dE ds.length 0 (some (n:Int))=min n ds.length:=by
  unfold HT.dE;simp;lia
 have e2:HT.dE ds.length ds.length none=ds.length:=rfl;rw[e,e2];by_cases h:n<=ds.length
 .rw[Nat.min_eq_left h];exact List.take_of_length_le (by rw[ui];exact cX _)
 .rw[Nat.min_eq_right (by lia),List.drop_eq_nil_of_le (cX _),List.drop_eq_nil_of_le (by lia),List.take_nil]
theorem ZC(F:ba)(g:bh F)(names:List Str)(aS long k:Nat)(Sj:k<aS)(hm:aS<names.length)(hl:names.length<=12)(l0:4<=long)(l1:long<=14)(bs:List aX)(hb:bs.length<=100)(a3 a4 a8 a9:ak O):
  ∃(F':ba) (b:aX) (b8 b9:ak O),bh F'/\(b.long<=(long:Int))/\DG b/\b.name=names.getD k ""/\oW names k b.outs/\
   pY [some (br F),some (.Y (.int (aS:Int))),some (.Y (.int (long:Int))),a3,a4,some (.Y (.lst (names.map .str))),some (.lst ((bs.map bZ).map .Y)),some (.Y (.int (k:Int))),a8,a9] =
   some (.nx,[some (br F'),some (.Y (.int (aS:Int))),some (.Y (.int (long:Int))),a3,a4,some (.Y (.lst (names.map .str))),some (.lst (((bs++[b]).map bZ).map .Y)),some (.Y (.int (k:Int))),b8,b9]):=by
 have e1:=xd g (m:=3) (by decide) (by decide)
 have ga:dO (names.map D.str) (k:Int)=some (.str (names.getD k "")):=by
  apply o5;rw[kc,i8 (by lia),DD,i8 (by lia)]
  rfl
 generalize hr:(aQ F 3 == 0)=ring at *;have r_:(if ring=true then(1:Int) else 0)=0\/(if ring=true then(1:Int) else 0)=1:=by cases ring <;> simp
 have Lb:0<(long:Int) - (if ring=true then 1 else 0):=by rcases r_ with z|z <;> rw[z] <;> lia
 have hm2:(long:Int) - (if ring=true then 1 else 0)<1073741824:=by rcases r_ with z|z <;> rw[z] <;> lia
 have e2:=xd (g.draw 3) Lb hm2;have d0:=qP (aK F 3) Lb;have d1:=qQ (aK F 3) Lb;obtain⟨F3,outs,g3,GQ,ne3,e3⟩:=ZA (aK (aK F 3) ((long:Int) - (if ring=true then 1 else 0))) ((g.draw 3).draw _) names k aS Sj hm hl
 refine⟨F3,⟨names.getD k "",1+(if ring=true then 1 else 0)+aQ (aK F 3) ((long:Int) - (if ring=true then 1 else 0)),ring,outs⟩,some (.Y (.bl ring)),some (.Y (.int (1+(if ring=true then 1 else 0)+aQ (aK F 3) ((long:Int) - (if ring=true then 1 else 0))))),g3,?_,⟨⟨?_,?_⟩,GQ.len,ne3⟩,rfl,GQ,?_⟩
 .dsimp only;rcases r_ with z|z <;> rw[z] at d0 d1 ⊢ <;> lia
 .dsimp only;rcases r_ with z|z <;> rw[z] at d0 d1 ⊢ <;> lia
 .dsimp only;rcases r_ with z|z <;> rw[z] at d0 d1 ⊢ <;> lia
 .have hla:((bs.map bZ).length<1000000)=True:=ke (by rw[bO];lia)
  rw[jm (f:=bZ),show[(⟨names.getD k "",1+(if ring=true then 1 else 0)+aQ (aK F 3) ((long:Int) - (if ring=true then 1 else 0)),ring,outs⟩:aX)].map bZ=[.tup [.str (names.getD k ""),.int (1+(if ring=true then 1 else 0)+aQ (aK F 3) ((long:Int) - (if ring=true then 1 else 0))),.bl ring,.lst (outs.map .str)]] from rfl]
  unfold pY;generalize hrb:(if ring=true then(1:Int) else 0)=rb at *
  generalize(aS:Int)=mi at *;generalize(long:Int)=li at *;generalize(k:Int)=ki at *;simp only[cM,dN,bD,bp,fA,bc,bf,↓ag,bM,bq,ja,bG,fz,fy,e1,jH,fW,fV,bA,bB,bz,mJ,bT,mZ,and_self,oQ,hr,aZ,bK,bH,bL,reduceAdd,reduceLT,ck,cI,bt,Ju,hrb,iw,gw,e2,jv,lF,fg,cZ,o7,ga,↓evMap,e3,gG,BH,reduceLeDiff,fO,d_,jx,gy,fX,pV,hla]
theorem Oa(names:List Str)(nd:names.Nodup)(aS:Nat)(hm:aS<=names.length):∀(bs:List aX) (j:Nat),j+bs.length=aS->(∀i b,bs[i]?=some b->b.name=names.getD (j+i) ""/\∀o∈b.outs,o∈names.drop (j+i+1))->bs.map aX.name=(names.drop j).take bs.length/\mF (names.drop aS) bs
 |[],j,hj,_=>⟨rfl,jn⟩
 |b::bs,j,hj,h=>by
  rw[jl] at hj;have h0:=h 0 b rfl;rw[Nat.add_zero] at h0;obtain⟨i1,i2⟩:=Oa names nd aS hm bs (j+1) (by lia) λi c e=>by
   have:=h (i+1) c (by rw[MC];exact e)
   rw[show j+(i+1)=j+1+i by lia] at this
   exact this
  have Gr:j<names.length:=by lia
  have ed:names.drop j=names.getD j ""::names.drop (j+1):=by
   rw[DB Gr,DD,i8 Gr];rfl
  have rT:names.drop (j+1)=bs.map aX.name++names.drop aS:=by
   rw[i1];have:=uk bs.length (names.drop (j+1));rw[List.drop_drop,show j+1+bs.length=aS by lia] at this
   exact this.symm
  have yh:(names.getD j ""::names.drop (j+1)).Nodup:=by rw[<-ed];exact nd.sublist (List.drop_sublist _ _)
  have nn:=(i7.mp yh).1;rw[rT] at nn;refine⟨by rw[cY,h0.1,i1,ed];rfl,⟨λo ho=>?_,λz=>nn (jQ _ (by rw[<-h0.1];exact z)),λz=>nn (ir _ (by rw[<-h0.1];exact z)),i2⟩⟩
  have:=h0.2 o ho;rw[rT] at this;exact eT.mp this
theorem Va(sv ix:Int)(z:Str)(a:ak O)(xn:vI [.Y (.int sv),.Y (.int ix)]=some (.Y (.str z),[none,none])):rF (bu 0) gH (ly vI (aj (ae 1) (aj (ae 0) gN))) (.int ix) [a,some (.Y (.int sv))]=some (some (.own (.Y (.str z))),[some (.Y (.int ix)),some (.Y (.int sv))]):=by
 simp only[qR,fU,bK,bH,bL,reduceAdd,reduceLT,bG,aZ,↓ag,xw,qq,bp,bc,bt,bf,bq,bA,bB,bz,gy,bT,fX,dY,dZ,xn,Xy]
theorem XZ(sv:Int)(st n:Nat)(ra:sv=st)(hs:st<27)(hn:n<=9):∃a,compLoop (bu 0) gH (ly vI (aj (ae 1) (aj (ae 0) gN))) ((List.range n).map λ(i:Nat)=>D.int (0+(i:Int))) [none,some (.Y (.int sv))] []=some (((List.range n).map λi=>D.str (nm st i)).map .Y,[a,some (.Y (.int sv))]):=by
 obtain⟨Q0n,⟨an,rfl⟩,en⟩:=AX (g:=bu 0) (ct:=gH) (ce:=ly vI (aj (ae 1) (aj (ae 0) gN))) (λQ0=>∃a,Q0=[a,some (.Y (.int sv))]) (λ(i:Nat)=>D.int (0+(i:Int))) (λi=>.str (nm st i)) (List.range n) [none,some (.Y (.int sv))] ⟨_,rfl⟩ (by rw[oH];lia) (by
  rintro i hi Q0 ⟨a,rfl⟩;rw[rn] at hi;exact⟨_,Va sv (0+(i:Int)) (nm st i) a (XX sv (0+(i:Int)) st i ra (by lia) hs (by lia)),_,rfl⟩)
 exact⟨an,en⟩
theorem ZD(F:ba)(g:bh F)(aS long:Nat)(m0:1<=aS)(m1:aS<=6)(l0:4<=long)(l1:long<=14)(ml:aS*long<=30)(a3:ak O):
  ∃(F':ba) (h:az) (b1 b2 b3 b4 b5 b6 b7 b8 b9:ak O),bh F'/\gd h/\ot [some (br F),some (.Y (.int (aS:Int))),some (.Y (.int (long:Int))),a3,none,none,none,none,none,none] =
   some (.rt (.tup [.lst (h.aF.map fB),.Y (.lst (h.aG.map .str))]),[some (br F'),b1,b2,b3,b4,b5,b6,b7,b8,b9]):=by
 have e1:=xd g (m:=27) (by decide) (by decide)
 have s0:=qP F (m:=27) (by decide)
 have s1:=qQ F (m:=27) (by decide)
 have e2:=xd (g.draw 27) (m:=3) (by decide) (by decide)
 have n0:=qP (aK F 27) (m:=3) (by decide)
 have n1:=qQ (aK F 27) (m:=3) (by decide)
 obtain⟨st,ra,hs⟩:=Jp (n:=27) s0 s1;obtain⟨nx,hnx,hx⟩:=Jp (n:=3) n0 n1;have i1:iW [.own (.Y (.int ((aS:Int)+1+aQ (aK F 27) 3)))]=some ((aS:Int)+1+aQ (aK F 27) 3):=vJ (by lia)
 have hN:((aS:Int)+1+aQ (aK F 27) 3).toNat=aS+1+nx:=by lia
 obtain⟨an,en⟩:=XZ (aQ F 27) st (aS+1+nx) ra hs (by lia)
 rw[<-tT,<-hN] at en;obtain⟨names,pe⟩:∃names:List Str,names=(List.range (aS+1+nx)).map (nm st):=⟨_,rfl⟩;have enm:((List.range ((aS:Int)+1+aQ (aK F 27) 3).toNat).map λi=>D.str (nm st i))=names.map D.str:=by rw[pe,hN,mE];rfl
 rw[enm] at en;have hnl:names.length=aS+1+nx:=by rw[pe,bO,oH]
 have nd:names.Nodup:=by
  rw[pe];unfold List.Nodup;rw[List.pairwise_map];refine List.Pairwise.imp_of_mem ?_ (List.nodup_range (n:=aS+1+nx));intro i j hi hj Cg e;rw[rn] at hi hj;exact Cg (Zy st hs i (by lia) j (by lia) e)
 obtain⟨aw,eL,F',bs,a7,a8,a9,KG,hlen,zH,rfl⟩:=mW (g:=bu 7) (f:=pY) (λ(i:Nat)=>D.int (0+(i:Int))) (λpre Q0=>∃(F':ba) (bs:List aX) (a7 a8 a9:ak O),bh F'/\bs.length=pre.length/\(∀i b,bs[i]?=some b->(b.long<=(long:Int)/\DG b)/\b.name=names.getD (0+i) ""/\∀o∈b.outs,o∈names.drop (0+i+1))/\ Q0=[some (br F'),some (.Y (.int (aS:Int))),some (.Y (.int (long:Int))),a3,some (.Y (.int (aQ F 27))),some (.Y (.lst (names.map .str))),some (.lst ((bs.map bZ).map .Y)),a7,a8,a9]) (List.range aS) []
  [some (br (aK (aK F 27) 3)),some (.Y (.int (aS:Int))),some (.Y (.int (long:Int))),a3,some (.Y (.int (aQ F 27))),some (.Y (.lst (names.map .str))),some (.lst []),none,none,none] ⟨_,[],none,none,none,(g.draw 27).draw 3,rfl,λi b e=>(by simp at e),rfl⟩ (by
   rintro q k post Q0 eq ⟨F',bs,a7,a8,a9,gF,K9,zH,rfl⟩;rw[gc] at *;have hq:q.length=k/\k<aS:=by
    have e0:=congrArg (λl=>l[q.length]?) eq
    have hlen:=congrArg List.length eq;simp at hlen;simp at e0;rw[Mz (by lia)] at e0
    exact⟨Option.some.inj e0,by have:=Option.some.inj e0;lia⟩
   obtain⟨F2,b,b8,b9,g2,bg,bo,bn,oo,e⟩:=ZC F' gF names aS long k hq.2 (by lia) (by lia) l0 l1 bs (by lia) a3 (some (.Y (.int (aQ F 27)))) a8 a9
   rw[show(k:Int)=0+(k:Int) by lia] at e
   refine⟨_,e,F2,bs++[b],_,b8,b9,g2,by rw[fe,fe,K9,lC,lC],λi c ec=>?_,rfl⟩
   by_cases hi:i<bs.length
   .rw[Mv hi] at ec;exact zH i c ec
   .rw[G3 (by lia)] at ec
    have hi0:i - bs.length=0:=by
     have:=(iA.mp ec).1;simp at this;lia
    rw[hi0] at ec;cases ec;have:0+i=k:=by lia
    rw[this];exact⟨⟨bg,bo⟩,bn,oo.sub⟩)
 rw[gc,oH] at hlen;rw[<-tT] at eL;have wk:∀b,b∈bs->b.long<=(long:Int)/\DG b:=λb hb=>by
  obtain⟨i,hi,e⟩:=Dx.mp hb;exact(zH i b (by rw[<-e];exact i8 hi)).1
 obtain⟨f1,f2⟩:=Oa names nd aS (by lia) bs 0 (by lia) λi b e=>(zH i b e).2
 refine⟨F',⟨bs,names.drop aS⟩,some (.Y (.int (aS:Int))),some (.Y (.int (long:Int))),a3,some (.Y (.int (aQ F 27))),some (.Y (.lst (names.map .str))),none,a7,a8,a9,KG,⟨⟨by show 0<bs.length;lia,by show bs.length<=6;lia⟩,⟨?_,?_⟩,λb hb=>(wk b hb).2,f2,long,λb hb=>(wk b hb).1,?_⟩,?_⟩
 .show 0<(names.drop aS).length;rw[ui];lia
 .show(names.drop aS).length<=3;rw[ui];lia
 .show bs.length*long<=30;rw[hlen];exact ml
 .have im:iW [.own (.Y (.int (aS:Int)))]=some (aS:Int):=vJ (by lia)
  have mt:(aS:Int).toNat=aS:=by lia
  have ct:=OS (names.map D.str) aS;have ec:(names.drop aS).map D.str=(names.map D.str).drop aS:=Ha ..;have eb:(bs.map bZ).map O.Y=bs.map fB:=by rw[mE];rfl
  unfold ot wA;dsimp only;rw[ec];rw[eb] at eL;generalize(aS:Int)=mi at *;generalize(long:Int)=li at *;simp only[cM,dN,cI,fA,bp,bc,bf,↓ag,bM,bq,ja,bG,fz,fy,e1,jH,fW,fV,bT,bK,bH,bL,reduceAdd,reduceLT,ck,aZ,mY,OC,bD,bt,bA,bB,bz,iw,e2,i1,↓evMap,eV,eM,oY,fN,nF,eE,eG,en,oU,nt,oZ,nH,gG,rN,fg,reduceLeDiff,d_,zy,im,mt,eL,eS,rK,Eb,Ew,EA,Eu,NS,ct,fO]
theorem X0(F:ba)(g:bh F):∃(F':ba) (h:az),bh F'/\gd h/\yW [br F]=some (.tup [.lst (h.aF.map fB),.Y (.lst (h.aG.map .str))],[some (br F')]):=by
 have e1:=xd g (m:=4) (by decide) (by decide)
 have d0:=qP F (m:=4) (by decide)
 have d1:=qQ F (m:=4) (by decide)
 have e2:=xd (g.draw 4) (m:=8) (by decide) (by decide)
 obtain⟨mn,hmn,Gs⟩:=Jp (n:=4) d0 d1;have e4:(4:Int)=((4:Nat):Int):=rfl;have main:∃(aS long:Nat) ,1<=aS/\aS<=6/\4<=long/\long<=14/\aS*long<=30/\∀r,aR zM (aR zN r) [some (br (aK (aK F 4) 8)),some (.Y (.int (1+aQ F 4))),some (.Y (.int 4)),some (.Y (.int (aQ (aK F 4) 8))),none,none,none,none,none,none]=r [some (br (aK (aK F 4) 8)),some (.Y (.int (aS:Int))),some (.Y (.int (long:Int))),some (.Y (.int (aQ (aK F 4) 8))),none,none,none,none,none,none]:=by
  by_cases h5:aQ (aK F 4) 8=5
  .refine⟨6,5,by lia,by lia,by lia,by lia,by lia,λr=>?_⟩
   have q5:(aQ (aK F 4) 8 == 5)=true:=by rw[h5];rfl
   have q6:(aQ (aK F 4) 8 == 6)=false:=by rw[h5];rfl
   have z6:((6:Nat):Int)=6:=rfl;have z5:((5:Nat):Int)=5:=rfl;rw[z6,z5];unfold zM zN;simp only[cM,dg,cF,bD,bp,bc,bt,bf,↓ag,bM,bq,bA,bB,bz,mJ,bT,mZ,and_self,oQ,q5,aZ,dN,bK,bH,bL,reduceAdd,reduceLT,ck,bG,dq,q6,cW,cI,gw,Int.reduceLT,decide_true,iw,cB]
  .have q5:(aQ (aK F 4) 8 == 5)=false:=by rw[oI];exact h5
   by_cases h6:aQ (aK F 4) 8=6
   .refine⟨1+(1+mn) / 3,14,by lia,by lia,by lia,by lia,by lia,λr=>?_⟩
    have q6:(aQ (aK F 4) 8 == 6)=true:=by rw[h6];rfl
    have z6:((1+(1+mn) / 3:Nat):Int)=1+(1+aQ F 4) / 3:=by lia
    have z5:((14:Nat):Int)=14:=rfl;have d3:decide (0<(3:Int)/\(3:Int)<1073741824)=true:=by decide
    rw[z6,z5];unfold zM zN;simp only[cM,dg,cF,bD,bp,bc,bt,bf,↓ag,bM,bq,bA,bB,bz,mJ,bT,mZ,and_self,oQ,q5,aZ,cW,dN,bK,bH,bL,reduceAdd,reduceLT,ck,bG,dq,cB,q6,cI,gw,Int.reduceLT,decide_true,iw]
   .have q6:(aQ (aK F 4) 8 == 6)=false:=by rw[oI];exact h6
    refine⟨1+mn,4,by lia,by lia,by lia,by lia,by lia,λr=>?_⟩
    have z6:((1+mn:Nat):Int)=1+aQ F 4:=by lia
    rw[z6,<-e4];unfold zM zN;simp only[cM,dg,cF,bD,bp,bc,bt,bf,↓ag,bM,bq,bA,bB,bz,mJ,bT,mZ,and_self,oQ,q5,aZ,cW,dN,bK,bH,bL,reduceAdd,reduceLT,ck,bG,dq,cB,q6,cI,gw,Int.reduceLT,decide_true,iw]
 obtain⟨aS,long,m0,m1,l0,l1,ml,em⟩:=main;obtain⟨F',h,b1,b2,b3,b4,b5,b6,b7,b8,b9,KG,ok,er⟩:=ZD (aK (aK F 4) 8) ((g.draw 4).draw 8) aS long m0 m1 l0 l1 ml (some (.Y (.int (aQ (aK F 4) 8))));have RX:=em ot;rw[er] at RX;refine⟨F',h,KG,ok,?_⟩;unfold yW;unfold HW;generalize aR zM (aR zN ot)=rest at *;simp only[gD,dY,dZ,bK,bH,bL,reduceSub,eV,eM,eE,eG,cM,dN,cI,bD,bp,bM,↓ag,fA,bc,bf,bq,ja,bG,fz,fy,e1,jH,fW,fV,bA,bB,bz,iw,bT,reduceAdd,reduceLT,ck,aZ,e2,RX,h_,gL,gM,qW,gE]
noncomputable def findB(bs:List aX)(n:Str):ak aX:=bs.find? λb=>b.name == n
theorem OT{aG:List Str}:∀{bs:List aX},mF aG bs->∀x∈bs,∀y∈bs,x.name=y.name->x=y
 |z::bs,f,x,hx,y,hy,e=>by
  rcases eX.mp hx with ue|ue
  .rcases eX.mp hy with uf|uf
   .rw[ue,uf]
   .exact cu (zW (f:=aX.name) uf) (by rw[<-e,ue];exact f.2.1)
  .rcases eX.mp hy with uf|uf
   .exact cu (zW (f:=aX.name) ue) (by rw[e,uf];exact f.2.1)
   .exact OT f.2.2.2 x ue y uf e
theorem DX{aG:List Str}:∀{bs:List aX},mF aG bs->∀c∈aG,c∉bs.map aX.name
 |[],_,c,_,h=>by cases h
 |b::bs,f,c,hc,h=>by
  rcases eX.mp h with z|z
  .exact f.2.2.1 (by rw[<-z];exact hc)
  .exact DX f.2.2.2 c hc z
theorem HB{aG:List Str}:∀{bs:List aX},mF aG bs->∀b∈bs,findB bs b.name=some b
 |x::bs,f,b,hb=>by
  rcases eX.mp hb with rfl|hb
  .unfold findB;rw[qi,lU]
  .have:(x.name == b.name)=false:=by
    rw[oI];exact λe=>f.2.1 (by rw[e];exact zW (f:=aX.name) hb)
   unfold findB;rw[qi,this];exact HB f.2.2.2 b hb
theorem e8k(x:Str):gn [.Y (.str x),.Y (.ty "str")]=some (.Y (.bl true)):=by unfold gn;simp[l6,lN,O.d]
theorem Ke(ds:List D):gn [.Y (.tup ds),.Y (.ty "tuple")]=some (.Y (.bl true)):=by unfold gn;simp[l6,lN,O.d]
theorem ZE(ds:List D):gn [.Y (.tup ds),.Y (.ty "str")]=some (.Y (.bl false)):=by unfold gn;simp[l6,lN,O.d]
theorem Ms(h:az):dU (.Y (cx h)) (.int 0)=some (.Y (.lst (h.aF.map bZ))):=by unfold cx;simp only[kf,lE,DC]
theorem G2(h:az):dU (.Y (cx h)) (.int 1)=some (.Y (.lst (h.aG.map .str))):=by unfold cx;simp only[kf,oJ,DC]
theorem Mr(b:aX):dU (.Y (bZ b)) (.int 1)=some (.Y (.int b.long)):=by unfold bZ;simp only[kf,oJ,DC]
theorem S3(b:aX):dU (.Y (bZ b)) (.int 2)=some (.Y (.bl b.ring)):=by unfold bZ;simp only[kf,Io,DC]
theorem S4(b:aX):dU (.Y (bZ b)) (.int 3)=some (.Y (.lst (b.outs.map .str))):=by unfold bZ;simp only[kf,y0,DC]
noncomputable def wO(b:aX):List O:=[.Y (.str b.name),.Y (.int b.long),.Y (.bl b.ring),.Y (.lst (b.outs.map .str))]
abbrev j6(b:aX):O:=.tup (wO b)
theorem Vb(xs:List Str):iH [.Y (.lst (xs.map .str))]=some (.lst (xs.map fS)):=by
 rw[JK];rfl
theorem PZ(n:Str)(hd:D):∀(bs:List aX) (a:ak O),∃aw,fK (bu 2) (cw (gT (gB oEq (gB bJ (ae 2) (gC (.int 0))) (ae 1))) (aW (bC .tup (aj (gB bJ (ae 2) (gC (.int 0))) (aj (gB bJ (ae 2) (gC (.int 1))) (aj (gB bJ (ae 2) (gC (.int 2))) (aj (ay (gO iH (aj (gB bJ (ae 2) (gC (.int 3))) gN))) gN)))))) bw) (bs.map bZ) [some (.Y hd),some (fS n),a]=some (match findB bs n with|some b=>.rt (j6 b)|none=>.nx,[some (.Y hd),some (fS n),aw])
 |[],a=>⟨a,rfl⟩
 |b::bs,a=>by
  cases hc:b.name == n with
  |true=>
   have e:findB (b::bs) n=some b:=by unfold findB;rw[qi,hc]
   refine⟨some (fB b),?_⟩;rw[e];simp only[dY,bZ,yZ,fU,bK,bH,bL,reduceAdd,reduceLT,ck,bG,aZ,↓ag,dg,cF,bD,bp,bc,bt,bf,bM,bq,bA,bB,bz,cZ,kf,lE,↓evMap,mJ,bT,qt,and_self,Bs,hc,eS,fg,oJ,Io,cI,y0,Vb,gG,BH,reduceLeDiff,fO,d_,dq];rfl
  |false=>
   have e:findB (b::bs) n=findB bs n:=by unfold findB;rw[qi,hc]
   obtain⟨g',e'⟩:=PZ n hd bs (some (fB b));refine⟨g',?_⟩;rw[e,<-e'];unfold bZ at *;simp only[dY,yZ,fU,bK,bH,bL,reduceAdd,reduceLT,ck,bG,aZ,↓ag,dg,cF,bD,bp,bc,bt,bf,bM,bq,bA,bB,bz,cZ,kf,lE,↓evMap,mJ,bT,qt,and_self,Bs,hc,cW,eS,fg,oJ,Io,cI,y0,dq,cB];rfl
theorem Mq(h:az)(n:Str):AO [.Y (cx h),fS n]=some (match findB h.aF n with|some b=>j6 b|none=>.Y .bF,[none,none]):=by
 obtain⟨g',e⟩:=PZ n (cx h) h.aF none;unfold AO HP;unfold cx at *;cases q:findB h.aF n with
 |none=>
  rw[q] at e;simp only[gD,dY,dZ,bK,bH,bL,reduceAdd,reduceSub,eV,eM,eE,eG,cM,pU,cI,bD,bp,bc,bf,↓ag,bM,bq,bA,bB,bz,cZ,kf,lE,↓evMap,bT,e,eS,h_,gL,gM,gR,gE,aZ]
 |some b=>
  rw[q] at e;simp only[gD,dY,dZ,bK,bH,bL,reduceAdd,reduceSub,eV,eM,eE,eG,cM,pU,cI,bD,bp,bc,bf,↓ag,bM,bq,bA,bB,bz,cZ,kf,lE,↓evMap,bT,e,h_,gL,gM,gR,gE,aZ]
theorem ZF(b:aX):(j6 b).d=bZ b:=by unfold j6 wO bZ;simp only[gy,fX,bT,gG,jx,BH]
theorem e8l(h:az)(b:aX)(f:mF h.aG h.aF)(hb:b∈h.aF):AO [.Y (cx h),fS b.name]=some (j6 b,[none,none]):=by
 have e:=Mq h b.name;rw[HB f b hb] at e;exact e
noncomputable def nY(h:az)(o:Str):D:=if h.aG.contains o=true then .str o else .tup [.str o,.int 0]
def p_(h:az)(b:aX):List D:=b.outs.map (nY h)++if b.ring=true then[.tup [.str b.name,.int 0]] else[]
def zt(h:az)(b:aX)(c:Int):List D:=if c+1<b.long then[.tup [.str b.name,.int (c+1)]] else p_ h b
theorem X1(h:az)(b:aX)(c:Int)(f:mF h.aG h.aF)(hb:b∈h.aF)(ol:b.outs.length<=24):EE [.Y (cx h),.Y (.tup [.str b.name,.int c])]=some (.lst ((zt h b c).map .Y),[none,none]):=by
 have e1:=e8l h b f hb;have td:=ZF b;unfold EE I0 zt;by_cases hc:c+1<b.long
 .rw[aY hc];generalize j6 b=tb at *;simp only[gD,dY,dZ,bK,bH,bL,reduceAdd,reduceSub,eV,eM,eE,eG,cM,dN,cI,fA,bp,bc,bf,↓ag,bD,bt,bM,bq,bA,bB,bz,cZ,kf,lE,↓evMap,fz,fy,e1,fW,fV,td,reduceLT,ck,bG,aZ,dg,cF,oJ,iw,Mr,gw,hc,decide_true,eS,fg,bT,reduceLeDiff,fO,d_,jx,gy,fX,dq,h_,gL,gM,gR,gE]
 .rw[bb hc];obtain⟨aw,⟨a,rfl⟩,e2⟩:=AX (g:=bu 0) (ct:=gH) (ce:=ay (zF (gT (gB (bR false) (ae 0) (gB bJ (ae 1) (gC (.int 1))))) (ae 0) (bC .tup (aj (ae 0) (aj (gC (.int 0)) gN))))) (λQ0=>∃a,Q0=[a,some (.Y (cx h))]) D.str (nY h) b.outs [none,some (.Y (cx h))] ⟨_,rfl⟩ (by lia) (by
   rintro x hx Q0 ⟨a,rfl⟩;refine⟨[some (fS x),some (.Y (cx h))],?_,_,rfl⟩;unfold nY;by_cases hx:h.aG.contains x=true
   .rw[aY hx];simp only[qR,fU,bK,bH,bL,reduceAdd,reduceLT,bG,aZ,↓ag,xw,cI,xF,cF,bD,bp,bc,bf,bt,bM,bq,bA,bB,bz,cZ,G2,E8,cW,hx,cB,fg,reduceLeDiff,fO,d_,bT]
   .rw[bb hx];rw[Dy] at hx;simp only[qR,fU,bK,bH,bL,reduceAdd,reduceLT,bG,aZ,↓ag,xw,cI,xF,cF,bD,bp,bc,bf,bt,bM,bq,bA,bB,bz,cZ,G2,E8,cW,hx,cB,fg,reduceLeDiff,fO,d_,jx,gy,bT,fX])
  unfold p_;by_cases hr:b.ring=true
  .rw[aY hr];have l1:((b.outs.map (nY h)).length<1000000)=True:=ke (by rw[bO];lia)
   generalize j6 b=tb at *;simp only[gD,dY,dZ,bK,bH,bL,reduceAdd,reduceSub,eV,eM,eE,eG,cM,dN,cI,fA,bp,bc,bf,↓ag,bD,bt,bM,bq,bA,bB,bz,cZ,kf,lE,↓evMap,fz,fy,e1,fW,fV,td,reduceLT,ck,bG,aZ,dg,cF,oJ,iw,Mr,gw,hc,decide_false,cW,eS,fg,bT,reduceLeDiff,fO,d_,jx,gy,fX,dq,cB,mY,qT,S4,oY,fN,nF,e2,oU,nt,oZ,nH,kI,S3,hr,oO,jv,lF,pV,l1,rK,h_,gL,gM,gR,gE]
  .rw[bb hr,lR];rw[Dy] at hr;generalize j6 b=tb at *;simp only[gD,dY,dZ,bK,bH,bL,reduceAdd,reduceSub,eV,eM,eE,eG,cM,dN,cI,fA,bp,bc,bf,↓ag,bD,bt,bM,bq,bA,bB,bz,cZ,kf,lE,↓evMap,fz,fy,e1,fW,fV,td,reduceLT,ck,bG,aZ,dg,cF,oJ,iw,Mr,gw,hc,decide_false,cW,eS,fg,bT,reduceLeDiff,fO,d_,jx,gy,fX,dq,cB,mY,qT,S4,oY,fN,nF,e2,oU,nt,oZ,nH,kI,S3,hr,oO,jv,lF,pV,rK,h_,gL,gM,gR,gE]
theorem Eg{aG:List Str}:∀{bs:List aX},mF aG bs->∀b∈bs,∀o∈b.outs,o∈bs.map aX.name\/o∈aG
 |x::bs,f,b,hb,o,ho=>by
  rcases eX.mp hb with rfl|hb
  .rcases f.1 o ho with z|z
   .exact .inl (.tail _ z)
   .exact .inr z
  .rcases Eg f.2.2.2 b hb o ho with z|z
   .exact .inl (.tail _ z)
   .exact .inr z
noncomputable def aB:Str ⊕ (Str×Int)->D
 |.inl x=>.str x
 |.inr (x,i)=>.tup [.str x,.int i]
noncomputable def iY(h:az)(b:aX)(c:Int):List (Str ⊕ (Str×Int)):=if c+1<b.long then[.inr (b.name,c+1)] else(b.outs.map λo=>if h.aG.contains o=true then .inl o else .inr (o,0))++if b.ring=true then[.inr (b.name,0)] else[]
theorem OU(h:az)(b:aX)(c:Int):(iY h b c).map aB=zt h b c:=by
 unfold iY zt p_;split
 .rfl
 .rw[jm,mE]
  congr 1
  .apply Hb;intro o _;show aB (if _ then _ else _)=nY h o
   unfold nY;split <;> rfl
  .split <;> rfl
abbrev Sp:=Str ⊕ (Str×Int)
theorem e8m(x y:Str)(i j:Int):bj (.tup [.str x,.int i]) (.tup [.str y,.int j])=(x == y&&i == j):=by
 unfold bj eU;rw[Bs];unfold eU;rw[oQ];unfold eU;rw[G8]
theorem BM(a b:Sp):bj (aB a) (aB b)=decide (a=b):=by
 cases a with
 |inl x=>
  cases b with
  |inl y=>
   show bj (.str x) (.str y)=_;rw[Bs];by_cases h:x=y
   .rw[h,lU,ig rfl]
   .rw[show(x == y)=false by rw[oI];exact h,ij (λz=>h (Sum.inl.inj z))]
  |inr q=>show bj (.str x) (.tup _)=_;unfold bj;rw[ij (λz=>by cases z)]
 |inr p=>
  cases b with
  |inl y=>show bj (.tup _) (.str y)=_;unfold bj;rw[ij (λz=>by cases z)]
  |inr q=>
   obtain⟨x,i⟩:=p;obtain⟨y,j⟩:=q;show bj (.tup [.str x,.int i]) (.tup [.str y,.int j])=_;rw[e8m];by_cases h1:x=y
   .by_cases h2:i=j
    .rw[h1,h2,lU,lU,ig rfl];rfl
    .rw[show(i == j)=false by rw[oI];exact h2,G7,ij (λz=>h2 (by cases z;rfl))]
   .rw[show(x == y)=false by rw[oI];exact h1,Dt,ij (λz=>h1 (by cases z;rfl))]
theorem e8n(n:Nat)(x:Str)(i:Int):cS (n+1) (.tup [.str x,.int i])=true:=by
 show([D.str x,.int i]:List D).all (cS n)=true;simp only[vx,MH,qt,mZ,G']
theorem ub(n:Nat)(a:Sp):cS (n+1) (aB a)=true:=by
 cases a with
 |inl x=>exact qt _ x
 |inr p=>obtain⟨x,i⟩:=p;exact e8n n x i
theorem Bz(n:Nat)(as:List Sp):(as.map aB).all (cS (n+1))=true:=by
 rw[nr];intro d hd;obtain⟨a,_,rfl⟩:=gz.mp hd;exact ub n a
theorem RF(a b:Sp):gp [.Y (aB a),.Y (aB b)]=some (.Y (.bl (!decide (a=b)))):=by
 rw[Jv,bT,bT,aY ⟨ub 39 a,ub 39 b⟩,BM]
noncomputable def dA(x:Sp)(as:List Sp):Bool:=as.any λa=>decide (a=x)
theorem eK{x:Sp}{as:List Sp}:dA x as=true↔x∈as:=by
 unfold dA;rw[zV];constructor
 .rintro⟨a,ha,e⟩;rw[DE] at e;rw[<-e];exact ha
 .exact λh=>⟨x,h,ig rfl⟩
theorem QZ(x:Sp)(as:List Sp):((as.map aB).any λz=>bj z (aB x))=dA x as:=by
 unfold dA;rw[List.any_map]
 congr 1
 funext a;exact BM a x
theorem JN(neg:Bool)(x:Sp)(as:List Sp):bR neg [.Y (aB x),.lst ((as.map aB).map .Y)]=some (.Y (.bl (if neg then !dA x as else dA x as))):=by
 have hd:iE (.lst ((as.map aB).map .Y))=none:=rfl;have key:((ox (O.lst ((as.map aB).map O.Y)).d).bind λds=>if cS 40 (O.Y (aB x)).d=true/\ds.all (cS 40)=true then some (O.Y (.bl (if neg then !ds.any λz=>bj z (O.Y (aB x)).d else ds.any λz=>bj z (O.Y (aB x)).d))) else none)=some (.Y (.bl (if neg then !dA x as else dA x as))):=by
  rw[gG,jW,bT];show(Option.bind (some (as.map aB)) _)=_;rw[Option.bind_some,aY ⟨ub 39 x,Bz 39 as⟩,QZ]
 cases x with
 |inl y=>exact key
 |inr p=>exact key
theorem P1(a:Sp):gn [.Y (aB a),.Y (.ty "str")]=some (.Y (.bl a.isLeft)):=by
 cases a with
 |inl x=>exact e8k x
 |inr p=>exact ZE _
theorem X2(a:Sp):gn [.Y (aB a),.Y (.ty "tuple")]=some (.Y (.bl (!a.isLeft))):=by
 cases a with
 |inl x=>
  unfold gn;simp[l6,lN,O.d,aB]
 |inr p=>exact Ke _
def eR(h:az):Sp->List Sp
 |.inl _=>[]
 |.inr (n,c)=>match findB h.aF n with
  |some b=>iY h b c
  |none=>[]
theorem Jc{h:az}(f:mF h.aG h.aF){b:aX}(hb:b∈h.aF)(c:Int):eR h (.inr (b.name,c))=iY h b c:=by
 show(match findB h.aF b.name with|some b=>iY h b c|none=>[])=_
 rw[HB f b hb]
theorem Ob(h:az)(b:aX)(c:Int)(ol:b.outs.length<=20):(iY h b c).length<=30:=by
 unfold iY;split
 .rw[lC];lia
 .rw[fe,bO];split
  .rw[lC];lia
  .rw[rq];lia
def v3:GE:=(jY (mC (aj (ae 3) gN)) (bu 0) gH (ay (bC .tup (aj (ae 1) (aj (ae 0) gN)))) 1 [2])
def E9:GS:=(aq 1 (ay (gB bY (ae 1) v3)))
theorem Vc(n:Str)(ix:Int)(a:ak O):rF (bu 0) gH (ay (bC .tup (aj (ae 1) (aj (ae 0) gN)))) (.int ix) [a,some (fS n)]=some (some (.own (.Y (.tup [.str n,.int ix]))),[some (.Y (.int ix)),some (fS n)]):=by
 simp only[qR,fU,bK,bH,bL,reduceAdd,reduceLT,bG,aZ,↓ag,xw,cI,fg,bp,bc,bt,bf,bq,reduceLeDiff,fO,d_,jx,gy,bT,fX]
theorem Ui(s0 a4 a5:ak O)(cs:List Sp)(n:Str)(long:Int)(l0:1<=long)(l1:long<=20)(hc:cs.length<=200):
  ∃new:List Sp,(∀s∈new,∃i:Int,s=.inr (n,i)/\0<=i/\i<long)/\0<new.length/\new.length<=20/\E9 [s0,some (.Y (.lst (cs.map aB))),some (fS n),some (.Y (.int long)),a4,a5]=some (.nx,[s0,some (.Y (.lst ((cs++new).map aB))),some (fS n),some (.Y (.int long)),a4,a5]):=by
 obtain⟨aw,⟨a,rfl⟩,e⟩:=AX (g:=bu 0) (ct:=gH) (ce:=ay (bC .tup (aj (ae 1) (aj (ae 0) gN)))) (λQ0=>∃a,Q0=[a,some (fS n)]) (λ(i:Nat)=>D.int (0+(i:Int))) (λ(i:Nat)=>.tup [.str n,.int (0+(i:Int))]) (List.range long.toNat) [none,some (fS n)] ⟨_,rfl⟩ (by rw[oH];lia) (by
  rintro i hi Q0 ⟨a,rfl⟩;exact⟨_,Vc n (0+(i:Int)) a,_,rfl⟩)
 refine⟨(List.range long.toNat).map λ(i:Nat)=>.inr (n,0+(i:Int)),λs hs=>?_,by rw[bO,oH];lia,by rw[bO,oH];lia,?_⟩
 .obtain⟨i,hi,rfl⟩:=gz.mp hs;rw[rn] at hi;exact⟨_,rfl,by lia,by lia⟩
 .have en:(List.range long.toNat).map (λ(i:Nat)=>D.tup [.str n,.int (0+(i:Int))])=((List.range long.toNat).map λ(i:Nat)=>(Sum.inr (n,0+(i:Int)):Sp)).map aB:=by rw[mE];rfl
  rw[en] at e;have hl:((List.range long.toNat).map λ(i:Nat)=>(Sum.inr (n,0+(i:Int)):Sp)).length<=20:=by rw[bO,oH];lia
  generalize((List.range long.toNat).map λ(i:Nat)=>(Sum.inr (n,0+(i:Int)):Sp))=new at *
  rw[<-tT] at e;have i1:iW [.own (.Y (.int long))]=some long:=vJ (by lia)
  have c1:((cs.map aB).length+(new.map aB).length<=1000000)=True:=ke (by rw[bO,bO];lia)
  rw[jm (f:=aB)];unfold E9 v3;simp only[dN,cI,bD,bp,bc,bt,bf,↓ag,mY,OC,bq,i1,↓evMap,eV,eM,oY,fN,ck,bG,nF,eE,eG,e,bK,bH,bL,reduceAdd,oU,nt,oZ,nH,aZ,bA,bB,bz,VT,Br,xf,c1,gG,rN,reduceLT]
def VC(h:az)(s:Sp):Prop:=∃b∈h.aF,∃c:Int,s=.inr (b.name,c)/\0<=c/\c<b.long
theorem P4(h:az)(ok:gd h):∃cs:List Sp,(∀s∈cs,VC h s)/\0<cs.length/\cs.length<=120/\w_ [.Y (cx h)]=some (.Y (.lst (cs.map aB)),[none]):=by
 obtain⟨aw,e,cs,a2,a3,a4,a5,v,l0,l1,rfl⟩:=mW (g:=fZ [(bu 2),(bu 3),(bu 4),(bu 5)]) (f:=E9) bZ (λpre Q0=>∃(cs:List Sp) (a2 a3 a4 a5:ak O),(∀s∈cs,VC h s)/\pre.length<=cs.length/\cs.length<=pre.length*20/\Q0=[some (.Y (cx h)),some (.Y (.lst (cs.map aB))),a2,a3,a4,a5]) h.aF []
  [some (.Y (cx h)),some (.Y (.lst [])),none,none,none,none] ⟨[],none,none,none,none,λs m=>(by cases m),cX _,cX _,rfl⟩ (by
   rintro q b post Q0 eq ⟨cs,a2,a3,a4,a5,v,l0,l1,rfl⟩;rw[gc] at *;have hb:b∈h.aF:=by rw[eq];simp
   have bl:=ok.bl;have hql:h.aF.length=q.length+(post.length+1):=by rw[eq,fe,jl]
   have lg:=(ok.bk b hb).lg;obtain⟨new,n1,n2,n3,e⟩:=Ui (some (.Y (cx h))) (some (.Y (.bl b.ring))) (some (.Y (.lst (b.outs.map .str)))) cs b.name b.long lg.1 lg.2 (by lia)
   refine⟨[some (.Y (cx h)),some (.Y (.lst ((cs++new).map aB))),some (fS b.name),some (.Y (.int b.long)),some (.Y (.bl b.ring)),some (.Y (.lst (b.outs.map .str)))],?_,cs++new,_,_,_,_,λs hs=>?_,by rw[fe,fe,lC];lia,by rw[fe,fe,lC];lia,rfl⟩
   .unfold bZ;simp only[Bc,AW,fU,bK,bH,bL,reduceAdd,reduceLT,ck,bG,aZ,↓ag,AV,e]
   .rcases eT.mp hs with z|z
    .exact v s z
    .obtain⟨i,rfl,i0,i1⟩:=n1 s z;exact⟨b,hb,i,rfl,i0,i1⟩)
 rw[gc] at *;have bl:=ok.bl;refine⟨cs,v,by lia,by lia,?_⟩
 have me:HQ=aR (aq 1 (ay (bC .lst gN))) (aR (e8 (gB bJ (ae 0) (gC (.int 0))) (fZ [(bu 2),(bu 3),(bu 4),(bu 5)]) E9) (aW (ae 1))):=rfl;unfold w_;rw[me];simp only[gD,dY,dZ,bK,bH,bL,reduceSub,eV,eM,eE,eG,cM,dN,cI,fg,bq,↓ag,reduceLeDiff,d_,aZ,gG,fX,reduceAdd,reduceLT,ck,bG,pU,bD,bp,bc,bf,bM,bA,bB,bz,cZ,Ms,bT,e,eS,bt,h_,gL,gM,gR,gE]
theorem X3(h:az)(ok:gd h)(b:aX)(hb:b∈h.aF)(c:Int):zf [.Y (cx h),.Y (.tup [.str b.name,.int c])]=some (.lst (((iY h b c++[(Sum.inr (b.name,c):Sp)]).map aB).map .Y),[none,none]):=by
 have e1:=X1 h b c ok.fwd hb (by have:=(ok.bk b hb).ol;lia)
 rw[<-OU] at e1;have hl:=Ob h b c (ok.bk b hb).ol;have c1:(((iY h b c).map aB).length+1<=1000000)=True:=ke (by rw[bO];lia)
 rw[jm (f:=aB),show[(Sum.inr (b.name,c):Sp)].map aB=[.tup [.str b.name,.int c]] from rfl];unfold zf Ja;simp only[gD,dY,dZ,bK,bH,bL,reduceAdd,reduceSub,eM,eE,eG,eS,bD,bp,fA,bc,bf,↓ag,bt,bq,fz,fy,e1,fW,fV,fg,reduceLeDiff,fO,d_,aZ,bA,bB,bz,Bd,Br,xf,Jt,Js,c1,h_,gL,gM,gR,gE]
end Carry
namespace Carry
section
variable{ν:Type}[DecidableEq ν]
noncomputable def sm(f:ν->Int):List ν->Int
 |[]=>0
 |v::l=>f v+sm f l
theorem rJ{f g:ν->Int}:∀{l:List ν},(∀v,v∈l->f v=g v)->sm f l=sm g l
 |[],_=>rfl
 |v::l,h=>by
  show f v+sm f l=g v+sm g l;rw[h v (.head _),rJ λv m=>h v (.tail _ m)]
theorem xB(f g:ν->Int):∀l:List ν,sm (λv=>f v+g v) l=sm f l+sm g l
 |[]=>rfl
 |v::l=>by
  show f v+g v+sm _ l=f v+sm f l+(g v+sm g l);rw[xB f g l];lia
theorem JO(f:ν->Int):∀l:List ν,sm (λv => - f v) l = - sm f l
 |[]=>rfl
 |v::l=>by
  show - f v+sm _ l = - (f v+sm f l);rw[JO f l];lia
theorem zg{f:ν->Int}:∀{l:List ν},(∀v,v∈l->f v=0)->sm f l=0
 |[],_=>rfl
 |v::l,h=>by
  show f v+sm f l=0;rw[h v (.head _),zg λv m=>h v (.tail _ m)];rfl
theorem DY{f:ν->Int}:∀{l:List ν},(∀v,v∈l->0<=f v)->0<=sm f l
 |[],_=>vy 0
 |v::l,h=>by
  have h1:=h v (.head _);have h2:=DY λv m=>h v (.tail _ m)
  show 0<=f v+sm f l;lia
theorem E_{f:ν->Int}:∀{l:List ν},(∀v,v∈l->0<=f v)->∀x,x∈l->f x<=sm f l
 |v::l,h,x,m=>by
  have h1:=h v (.head _);have h2:=DY λv m=>h v (.tail _ m)
  show f x<=f v+sm f l;rcases eX.mp m with m|m
  .subst m;lia
  .have:=E_ (λv m=>h v (.tail _ m)) x m
   lia
theorem P5(g:ν->ν->Int):∀A B:List ν,sm (λv=>sm (g v) B) A=sm (λb=>sm (λv=>g v b) A) B
 |[],B=>(zg λ_ _=>rfl).symm
 |a::A,B=>by
  show sm (g a) B+sm (λv=>sm (g v) B) A=sm (λb=>g a b+sm (λv=>g v b) A) B
  rw[P5 g A B,xB]
theorem P6{g:ν->ν->Int}(h:∀v b,g v b = - g b v)(S:List ν):sm (λv=>sm (g v) S) S=0:=by
 have e1:=P5 g S S;have e2:sm (λb=>sm (λv=>g v b) S) S = - sm (λv=>sm (g v) S) S:=by
  rw[<-JO];exact rJ λb _=>by rw[<-JO];exact rJ λv _=>h v b
 lia
theorem Eh(f:ν->Int)(p:ν->Bool):∀l:List ν,sm f l=sm f (l.filter p)+sm f (l.filter λv => !p v)
 |[]=>rfl
 |v::l=>by
  show f v+sm f l=_;rw[Eh f p l,zU,zU];cases p v with
  |true=>show _=(f v+sm f (l.filter p))+sm f (l.filter λv => !p v);lia
  |false=>show _=sm f (l.filter p)+(f v+sm f (l.filter λv => !p v));lia
theorem tV{x:ν}(d:Int):∀{l:List ν},l.Nodup->sm (λv=>if v=x then d else 0) l=if x∈l then d else 0
 |[],_=>rfl
 |v::l,nd=>by
  rw[i7] at nd;show(if v=x then d else 0)+sm _ l=_
  rw[tV d nd.2];by_cases e:v=x
  .subst e;rw[aY rfl,bb nd.1,aY (.head _)];lia
  .rw[bb e];by_cases m:x∈l
   .rw[aY m,aY (.tail _ m)];lia
   .rw[bb m,bb λz=>by
     rcases eX.mp z with z|z
     .exact e z.symm
     .exact m z]
    rfl
structure jS (V:List ν) (s t:ν) (r0 r:ν->ν->Int):Prop where
 nn:∀v b,0<=r v b
 an:∀v b,r0 v b - r v b = - (r0 b v - r b v)
 cs:∀v,v∈V->v≠s->v≠t->sm (λb=>r0 v b - r v b) V=0
 sp:∀v b,(v∉V\/b∉V)->r0 v b=0/\r v b=0
 ns:s≠t
 ms:s∈V
 mt:t∈V
 nd:V.Nodup
noncomputable def aug(r:ν->ν->Int)(a b:ν):ν->ν->Int:=λv w=>if v=a/\w=b then r v w - 1 else if v=b/\w=a then r v w+1 else r v w
def ex(V:List ν)(r0 r:ν->ν->Int)(v:ν):Int:=sm (λb=>r0 v b - r v b) V
theorem ZG{V:List ν}{r0 r:ν->ν->Int}{a b:ν}(nd:V.Nodup)(j_:a≠b)(ha:a∈V)(hb:b∈V)(v:ν):ex V r0 (aug r a b) v=ex V r0 r v+(if v=a then 1 else 0) - (if v=b then 1 else 0):=by
 have key:∀w,r0 v w - aug r a b v w=(r0 v w - r v w)+((if w=b then(if v=a then 1 else 0) else 0)+(if w=a then - (if v=b then 1 else 0) else 0)):=by
  intro w;unfold aug;by_cases h1:v=a
  .have h2:v≠b:=λz=>j_ (h1.symm.trans z)
   by_cases h3:w=b
   .have h4:w≠a:=λz=>j_ (z.symm.trans h3)
    simp only[h1,h3,and_self,aZ];have:a≠b:=j_;simp[this,this.symm];lia
   .simp[h1,h3,j_]
  .by_cases h2:v=b
   .by_cases h3:w=a
    .simp[h2,h3,j_,j_.symm];lia
    .simp[h2,h3,j_.symm]
   .simp[h1,h2]
 unfold ex;rw[rJ λw _=>key w,xB,xB]
 have e1:=tV (x:=b) (if v=a then(1:Int) else 0) nd
 have e2:=tV (x:=a) (- (if v=b then(1:Int) else 0)) nd
 rw[aY hb] at e1;rw[aY ha] at e2;rw[e1,e2];lia
noncomputable def jM(r:ν->ν->Int):List ν->(ν->ν->Int)
 |b::a::p=>jM (aug r a b) (a::p)
 |_=>r
theorem P7{r:ν->ν->Int}{a b v w:ν}(h:¬(v=a/\w=b))(h':¬(v=b/\w=a)):aug r a b v w=r v w:=by unfold aug;rw[bb h,bb h']
theorem P8{V:List ν}{r0:ν->ν->Int}(nd:V.Nodup):∀(p:List ν) (r:ν->ν->Int) (b e:ν),(b::p).Nodup->(∀v,v∈b::p->v∈V)->(b::p).getLast?=some e->b≠e->∀v,ex V r0 (jM r (b::p)) v=ex V r0 r v+(if v=e then 1 else 0) - (if v=b then 1 else 0)
 |[],r,b,e,_,_,hl,ib,v=>by simp at hl;exact cu hl ib
 |a::p,r,b,e,hn,hv,hl,ib,v=>by
  have j_:a≠b:=λz=>(i7.mp hn).1 (by rw[<-z];exact .head _)
  show ex V r0 (jM (aug r a b) (a::p)) v=_;have e1:=ZG (r0:=r0) (r:=r) nd j_ (hv a (.tail _ (.head _))) (hv b (.head _)) v;by_cases c:p=[]
  .subst c;have he:a=e:=by simpa using hl
   subst he;show ex V r0 (aug r a b) v=_;rw[e1]
  .have wm:(a::p).getLast?=some e:=by
    rw[List.getLast?_cons_cons] at hl;exact hl
   have hae:a≠e:=λz=>by
    subst z;have Gu:=i7.mp (i7.mp hn).2;have hm:a∈p:=by
     cases p with
     |nil=>exact cu rfl c
     |cons y q=>
      rw[List.getLast?_cons_cons] at wm;exact List.mem_of_getLast? wm
    exact Gu.1 hm
   rw[P8 nd p (aug r a b) a e (i7.mp hn).2 (λv m=>hv v (.tail _ m)) wm hae v,e1]
   lia
def kD(r:ν->ν->Int):List ν->Prop
 |b::a::p=>0<r a b/\kD r (a::p)
 |_=>True
theorem Oc{r:ν->ν->Int}{a b:ν}:∀(p:List ν),b∉p->kD r p->kD (aug r a b) p
 |[],_,_=>jn
 |[_],_,_=>jn
 |y::x::p,hb,h=>⟨by
   rw[P7 (λz=>hb (by rw[<-z.2];exact .head _)) (λz=>hb (by rw[<-z.1];exact .tail _ (.head _)))]
   exact h.1,Oc (x::p) (λm=>hb (.tail _ m)) h.2⟩
theorem P9{V:List ν}{s t:ν}{r0:ν->ν->Int}:∀(p:List ν) (r:ν->ν->Int),p.Nodup->kD r p->(∀v b,0<=r v b)->∀v b,0<=jM r p v b
 |[],r,_,_,h=>h
 |[_],r,_,_,h=>h
 |b::a::p,r,hn,hr,h=>P9 (V:=V) (s:=s) (t:=t) (r0:=r0) (a::p) (aug r a b) (i7.mp hn).2 (Oc (a::p) (i7.mp hn).1 hr.2) λv w=>by
   have h1:=h v w;unfold aug;split
   .rename_i z
    have:=hr.1;rw[<-z.1,<-z.2] at this;lia
   .split
    .lia
    .exact h1
theorem ZH{r0 r:ν->ν->Int}{a b:ν}(j_:a≠b)(h:∀v b,r0 v b - r v b = - (r0 b v - r b v))(v w:ν):r0 v w - aug r a b v w = - (r0 w v - aug r a b w v):=by
 have h1:=h v w;unfold aug;by_cases c1:v=a/\w=b
 .have c2:¬(w=a/\v=b):=λz=>j_ (c1.1.symm.trans z.2)
  rw[aY c1,bb c2,aY ⟨c1.2,c1.1⟩];lia
 .rw[bb c1];by_cases c3:v=b/\w=a
  .rw[aY c3,aY ⟨c3.2,c3.1⟩];lia
  .rw[bb c3,bb (λz=>c3 ⟨z.2,z.1⟩),bb (λz=>c1 ⟨z.2,z.1⟩)];exact h1
theorem P_{r0:ν->ν->Int}:∀(p:List ν) (r:ν->ν->Int),p.Nodup->(∀v b,r0 v b - r v b = - (r0 b v - r b v))->∀v b,r0 v b - jM r p v b = - (r0 b v - jM r p b v)
 |[],r,_,h=>h
 |[_],r,_,h=>h
 |b::a::p,r,hn,h=>P_ (a::p) (aug r a b) (i7.mp hn).2 (ZH (λz=>(i7.mp hn).1 (by rw[<-z];exact .head _)) h)
theorem Qa{V:List ν}:∀(p:List ν) (r:ν->ν->Int),(∀v,v∈p->v∈V)->(∀v b,(v∉V\/b∉V)->r v b=0)->∀v b,(v∉V\/b∉V)->jM r p v b=0
 |[],r,_,h=>h
 |[_],r,_,h=>h
 |b::a::p,r,hv,h=>Qa (a::p) (aug r a b) (λv m=>hv v (.tail _ m)) λv w z=>by
   have ha:=hv a (.tail _ (.head _));have hb:=hv b (.head _);rw[P7 (λq=>by
    rcases z with z|z
    .exact z (by rw[q.1];exact ha)
    .exact z (by rw[q.2];exact hb)) (λq=>by
    rcases z with z|z
    .exact z (by rw[q.1];exact hb)
    .exact z (by rw[q.2];exact ha))]
   exact h v w z
theorem jS.push{V:List ν}{s t:ν}{r0 r:ν->ν->Int}(F:jS V s t r0 r){p:List ν}(hn:(t::p).Nodup)(hv:∀v,v∈t::p->v∈V)(hl:(t::p).getLast?=some s)(hr:kD r (t::p)):
  jS V s t r0 (jM r (t::p))/\ex V r0 (jM r (t::p)) s=ex V r0 r s+1:=by
 have e:=P8 (r0:=r0) F.nd p r t s hn hv hl (Ne.symm F.ns);refine⟨⟨P9 (V:=V) (s:=s) (t:=t) (r0:=r0) _ r hn hr F.nn,P_ _ r hn F.an,λv m h1 h2=>?_,λv b z=>⟨(F.sp v b z).1,Qa _ r hv (λv b z=>(F.sp v b z).2) v b z⟩,F.ns,F.ms,F.mt,F.nd⟩,?_⟩
 .have:=e v;rw[bb h1,bb h2] at this;have h3:ex V r0 r v=0:=F.cs v m h1 h2;show ex V r0 (jM r (t::p)) v=0;lia
 .rw[e s,aY rfl,bb F.ns];lia
theorem jS.cut{V:List ν}{s t:ν}{r0 r:ν->ν->Int}(F:jS V s t r0 r)(S:ν->Bool)(hs:S s=true)(ht:S t=false)(hc:∀v b,v∈V->b∈V->S v=true->S b=false->r v b=0):
  ex V r0 r s=sm (λv=>sm (λb=>r0 v b) (V.filter λb => !S b)) (V.filter S):=by
 have e1:sm (ex V r0 r) (V.filter S)=ex V r0 r s:=by
  have h1:∀v,v∈V.filter S->ex V r0 r v=if v=s then ex V r0 r s else 0:=λv m=>by
   obtain⟨m1,m2⟩:=jr.mp m;by_cases c:v=s
   .rw[aY c,c]
   .rw[bb c];exact F.cs v m1 c λz=>by rw[z,ht] at m2;cases m2
  rw[rJ h1,tV _ (F.nd.filter _),aY (jr.mpr ⟨F.ms,hs⟩)]
 have e2:sm (ex V r0 r) (V.filter S)=sm (λv=>sm (λb=>r0 v b - r v b) (V.filter S)) (V.filter S)+sm (λv=>sm (λb=>r0 v b - r v b) (V.filter λb => !S b)) (V.filter S):=by
  rw[<-xB];exact rJ λv _=>Eh _ S V
 have e3:=P6 (g:=λv b=>r0 v b - r v b) F.an (V.filter S)
 have e4:sm (λv=>sm (λb=>r0 v b - r v b) (V.filter λb => !S b)) (V.filter S)=sm (λv=>sm (λb=>r0 v b) (V.filter λb => !S b)) (V.filter S):=rJ λv mv=>rJ λb mb=>by
  obtain⟨m1,m2⟩:=jr.mp mv;obtain⟨m3,m4⟩:=jr.mp mb;have m4:S b=false:=by simpa using m4
  rw[hc v b m1 m3 m2 m4];lia
 lia
end
end Carry
namespace Carry
open L2 PySem
section
variable{α β γ:Type}[DecidableEq α]
noncomputable def lk:List (α×β)->α->ak β
 |[],_=>none
 |e::l,k=>if e.1=k then some e.2 else lk l k
noncomputable def pt:List (α×β)->α->β->List (α×β)
 |[],k,v=>[(k,v)]
 |e::l,k,v=>if e.1=k then(e.1,v)::l else e::pt l k v
theorem lx(e:α×β)(l:List (α×β))(k:α):lk (e::l) k=if e.1=k then some e.2 else lk l k:=rfl
theorem vY(k j:α)(v:β):∀l:List (α×β),lk (pt l k v) j=if k=j then some v else lk l j
 |[]=>rfl
 |e::l=>by
  show lk (if e.1=k then(e.1,v)::l else e::pt l k v) j=_
  by_cases h:e.1=k
  .rw[aY h,lx,lx];dsimp only;rw[h];split
   .rfl
   .rfl
  .rw[bb h,lx,lx,vY k j v l];by_cases h2:e.1=j
   .rw[aY h2,bb (λz=>h (h2.trans z.symm)),aY h2]
   .rw[bb h2,bb h2]
theorem fF:∀{l:List (α×β)} {k:α},(∃v,lk l k=some v)↔k∈l.map (·.1)
 |[],k=>⟨λ⟨v,h⟩=>(by cases h),λh=>(by cases h)⟩
 |e::l,k=>by
  rw[lx,cY,eX];by_cases h:e.1=k
  .rw[aY h];exact⟨λ_=>.inl h.symm,λ_=>⟨_,rfl⟩⟩
  .rw[bb h,fF];exact⟨.inr,λz=>z.resolve_left λq=>h q.symm⟩
theorem ko{l:List (α×β)}{k:α}:lk l k=none↔k∉l.map (·.1):=by
 rw[<-fF];constructor
 .rintro h ⟨v,e⟩;rw[h] at e;cases e
 .intro h;cases q:lk l k with
  |none=>rfl
  |some v=>exact cu ⟨v,q⟩ h
theorem Bf(k:α)(v:β):∀l:List (α×β),(pt l k v).map (·.1)=if k∈l.map (·.1) then l.map (·.1) else l.map (·.1)++[k]
 |[]=>rfl
 |e::l=>by
  show(if e.1=k then(e.1,v)::l else e::pt l k v).map (·.1)=_
  rw[cY];by_cases h:e.1=k
  .rw[aY h,aY (by rw[h];exact .head _),cY]
  .rw[bb h,cY,Bf k v l];by_cases h2:k∈l.map (·.1)
   .rw[aY h2,aY (.tail _ h2)]
   .rw[bb h2,bb (λz=>by
     rcases eX.mp z with z|z
     .exact h z.symm
     .exact h2 z)]
    rfl
theorem e8o{k:α}{v:β}{l:List (α×β)}(h:(l.map (·.1)).Nodup):((pt l k v).map (·.1)).Nodup:=by
 rw[Bf];split
 .exact h
 .rename_i z
  exact lh.mpr ⟨h,by simp,λa ha b hb e=>by
   rw[i3] at hb;exact z (by rw[<-hb,<-e];exact ha)⟩
theorem JP{k:α}{v:β}:∀{l:List (α×β)},lk l k=none->pt l k v=l++[(k,v)]
 |[],h=>rfl
 |e::l,h=>by
  rw[lx] at h;show(if e.1=k then(e.1,v)::l else e::pt l k v)=_
  by_cases q:e.1=k
  .rw[aY q] at h;cases h
  .rw[bb q] at h ⊢;rw[JP h];rfl
end
variable{n pl T Ni:Int}{Q0 cD:Gm}{f1 f2:Gm->ak D}{x j k m K:Nat}{r:ak (Fl×Gm)}{h:az}{a2 a4:ak O}{aa:Str}{post:List Nat}{b':Bool}{s:Sp}{W:List D}{hs h0:List Sp}{kn:List (Str×Int)}{outs:List Str}{H PL:D}{ns:List Int}{mg:Str->ak au}{X:List au->Prop}
section
variable{α β:Type}[DecidableEq α](kk:α->TK)(inj:∀a b,kk a=kk b->a=b)
noncomputable def kj(f:β->O)(l:List (α×β)):List (TK×O):=l.map λe=>(kk e.1,f e.2)
noncomputable def uW(f:β->D)(l:List (α×β)):List (TK×D):=l.map λe=>(kk e.1,f e.2)
include inj in
theorem EG(f:β->O)(k:α):∀l:List (α×β),iM (kj kk f l) (kk k)=(lk l k).map f
 |[]=>rfl
 |e::l=>by
  have ih:=EG f k l;unfold iM kj at *;rw[cY,qi,lx];dsimp only;by_cases h:e.1=k
  .rw[ig (by rw[h]:kk e.1=kk k),aY h];rfl
  .rw[ij (λz=>h (inj _ _ z)),bb h]
   exact ih
include inj in
theorem xm(f:β->D)(k:α):∀l:List (α×β),iZ (uW kk f l) (kk k)=(lk l k).map f
 |[]=>rfl
 |e::l=>by
  have ih:=xm f k l;unfold iZ uW at *;rw[cY,qi,lx];dsimp only;by_cases h:e.1=k
  .rw[ig (by rw[h]:kk e.1=kk k),aY h];rfl
  .rw[ij (λz=>h (inj _ _ z)),bb h]
   exact ih
include inj in
theorem xo(f:β->O)(k:α)(v:β):∀l:List (α×β),cP (kj kk f l) (kk k) (f v)=kj kk f (pt l k v)
 |[]=>rfl
 |e::l=>by
  show cP ((kk e.1,f e.2)::kj kk f l) (kk k) (f v)=kj kk f (if e.1=k then(e.1,v)::l else e::pt l k v)
  show(if kk e.1=kk k then(kk e.1,f v)::kj kk f l else(kk e.1,f e.2)::cP (kj kk f l) (kk k) (f v))=_
  by_cases h:e.1=k
  .rw[aY h,aY (by rw[h])];rfl
  .rw[bb h,bb (λz=>h (inj _ _ z)),xo f k v l];rfl
theorem BN(f:β->O)(g:β->D)(h:∀b,(f b).d=g b):∀l:List (α×β),O.dk (kj kk f l)=uW kk g l
 |[]=>rfl
 |e::l=>by
  show(kk e.1,(f e.2).d)::O.dk (kj kk f l)=(kk e.1,g e.2)::uW kk g l;rw[BN f g h l,h]
theorem OV(g:β->D)(l:List (α×β)):(uW kk g l).map (·.1.d)=l.map λe=>(kk e.1).d:=by
 unfold uW;rw[mE];rfl
end
abbrev Ct:=Str×Int×Int
variable{c:Ct}{C:List Ct}{f:List (ak Ct)}
noncomputable def fQ(c:Ct):D:=.tup [.str c.1,.int c.2.1,.int c.2.2]
noncomputable def xM(c:Ct):TK:=.tp [.inr c.1,.inl c.2.1,.inl c.2.2]
inductive Nd where
 |st|en|gi (c:Ct)|go (c:Ct)
 deriving DecidableEq
variable{a b v w y:Nd}
def aT:Nd->D
 |.st=>.str "the start"
 |.en=>.str "the end"
 |.gi c=>.tup [fQ c,.str "into"]
 |.go c=>.tup [fQ c,.str "out of"]
def eu:Nd->TK
 |.st=>.inr "the start"
 |.en=>.inr "the end"
 |.gi c=>.tp [xM c,.inr "into"]
 |.go c=>.tp [xM c,.inr "out of"]
theorem qV(v:Nd):cJ (aT v)=some (eu v):=by
 cases v with
 |st=>rfl
 |en=>rfl
 |gi c=>simp[aT,eu,fQ,xM,cJ,mQ,pG,TK.ok]
 |go c=>simp[aT,eu,fQ,xM,cJ,mQ,pG,TK.ok]
theorem Qb{a b:Ct}(h:xM a=xM b):a=b:=by
 obtain⟨x,i,m⟩:=a;obtain⟨y,j,n⟩:=b;unfold xM at h;injection h with h;injection h with h1 h;injection h with h2 h;injection h with h3 h;injection h1 with h1;injection h2 with h2;injection h3 with h3;dsimp only at h1 h2 h3;rw[h1,h2,h3]
theorem Q3:("the start":Str)≠"the end":=by decide
theorem Q4:("into":Str)≠"out of":=by decide
theorem o6:∀a b:Nd,eu a=eu b->a=b:=by
 intro a b h;cases a with
 |st=>
  cases b with
  |st=>rfl
  |en=>unfold eu at h;injection h with h;exact cu h Q3
  |_=>unfold eu at h;cases h
 |en=>
  cases b with
  |en=>rfl
  |st=>unfold eu at h;injection h with h;exact cu h.symm Q3
  |_=>unfold eu at h;cases h
 |gi c=>
  cases b with
  |gi d=>unfold eu at h;injection h with h;injection h with h1 h;rw[Qb h1]
  |go d=>unfold eu at h;injection h with h;injection h with h1 h;injection h with h2 h;injection h2 with h2;exact cu h2 Q4
  |_=>unfold eu at h;cases h
 |go c=>
  cases b with
  |go d=>unfold eu at h;injection h with h;injection h with h1 h;rw[Qb h1]
  |gi d=>unfold eu at h;injection h with h;injection h with h1 h;injection h with h2 h;injection h2 with h2;exact cu h2.symm Q4
  |_=>unfold eu at h;cases h
theorem Kf(v:Nd):(eu v).d=aT v:=(nI (qV v)).1
abbrev ql:=List (Nd×Int)
variable{i:ql}
abbrev Net:=List (Nd×ql)
variable{N N':Net}
def GC(i:ql):List (TK×O):=kj eu (λn=>.Y (.int n)) i
def ph(i:ql):List (TK×D):=uW eu (λn=>.int n) i
abbrev zO(i:ql):O:=.aI (GC i)
abbrev inD(i:ql):D:=.aI (ph i)
def pk(N:Net):List (TK×O):=kj eu zO N
def oa(N:Net):List (TK×D):=uW eu inD N
abbrev bV(N:Net):O:=.aI (pk N)
abbrev dj(N:Net):D:=.aI (oa N)
theorem RG(i:ql):(zO i).d=inD i:=by
 show D.aI (O.dk (kj eu _ i))=_;rw[BN eu _ (λn=>.int n) λ_=>rfl];rfl
theorem Q5(N:Net):(bV N).d=dj N:=by
 show D.aI (O.dk (kj eu zO N))=_;rw[BN eu _ inD RG];rfl
def rr(N:Net)(v w:Nd):Int:=((lk N v).bind λi=>lk i w).getD 0
def kg(N:Net)(v w:Nd):Prop:=∃i,lk N v=some i/\∃n,lk i w=some n
structure nv (N:Net):Prop where
 sy:∀v w,kg N v w->kg N w v
 st:.st∈N.map (·.1)
 nd:(N.map (·.1)).Nodup
 ni:∀v i,lk N v=some i->(i.map (·.1)).Nodup
 nl:N.length<900000
 il:∀v i,lk N v=some i->i.length<900000
def jI(N:Net)(a b:Nd)(n:Int):Net:=match lk N a with
 |some i=>pt N a (pt i b n)
 |none=>N
theorem Q6(h:lk N a=some i)(v w:Nd):kg (jI N a b n) v w↔kg N v w\/(v=a/\w=b):=by
 unfold jI;rw[h];dsimp only;unfold kg;rw[vY];by_cases c:a=v
 .subst c;rw[aY rfl,h];constructor
  .rintro⟨j,e,m,e2⟩;cases e;rw[vY] at e2;by_cases c2:b=w
   .exact .inr ⟨rfl,c2.symm⟩
   .rw[bb c2] at e2;exact .inl ⟨i,rfl,m,e2⟩
  .rintro(⟨j,e,m,e2⟩|⟨_,rfl⟩)
   .cases e;refine⟨_,rfl,?_⟩;rw[vY];by_cases c2:b=w
    .exact⟨_,aY c2⟩
    .exact⟨m,by rw[bb c2];exact e2⟩
   .exact⟨_,rfl,n,by rw[vY,aY rfl]⟩
 .rw[bb c];exact⟨.inl,λz=>z.resolve_right λq=>c q.1.symm⟩
theorem FF(h:lk N a=some i)(v w:Nd):rr (jI N a b n) v w=if v=a/\w=b then n else rr N v w:=by
 unfold jI;rw[h];dsimp only;unfold rr;rw[vY];by_cases c:a=v
 .subst c;rw[aY rfl,h,Option.bind_some,Option.bind_some,vY];by_cases c2:b=w
  .rw[aY c2,aY ⟨rfl,c2.symm⟩];rfl
  .rw[bb c2,bb λz=>c2 z.2.symm]
 .rw[bb c,bb λz=>c z.1.symm]
theorem Bg(h:lk N a=some i):(jI N a b n).map (·.1)=N.map (·.1):=by
 unfold jI;rw[h];dsimp only;rw[Bf,aY (fF.mp ⟨i,h⟩)]
theorem BO(h:lk N a=some i)(v:Nd):lk (jI N a b n) v=if a=v then some (pt i b n) else lk N v:=by
 unfold jI;rw[h];exact vY ..
theorem Qc{fv:Gm->ak D}(h:lk N a=some i)(hl:i.length<1000000)(h0:Q0[x]?=some (some (bV N)))(h1:f1 Q0=some (aT a))(h2:f2 Q0=some (aT b))(h3:fv Q0=some (.int n)):t8 x f1 f2 fv Q0=some (.nx,Q0.set x (some (bV (jI N a b n)))):=by
 unfold t8;rw[h1,h2,h3,h0];simp only[Option.bind_some,qV];unfold pk;rw[EG eu o6,h];show(if(kj eu (λn=>O.Y (.int n)) i).length<1000000 then _ else _)=_
 rw[aY (by unfold kj;rw[bO];exact hl),show cP (GC i) (eu b) (O.Y (.int n))=_ from xo eu o6 (λn=>O.Y (.int n)) b n i,show O.aI (kj eu (λn=>O.Y (.int n)) (pt i b n))=zO (pt i b n) from rfl,xo eu o6]
 unfold jI;rw[h];rfl
theorem Qd{op:Int->Int->Int}{j:Int}{fv:Gm->ak D}(h:lk N a=some i)(h':lk i b=some n)(hl:i.length<1000000)(h0:Q0[x]?=some (some (bV N)))(h1:f1 Q0=some (aT a))(h2:f2 Q0=some (aT b))(h3:fv Q0=some (.int j)):t9 op x f1 f2 fv Q0=some (.nx,Q0.set x (some (bV (jI N a b (op n j))))):=by
 unfold t9;rw[h1,h2,h3,h0];simp only[Option.bind_some,qV];unfold pk;rw[EG eu o6,h];show(match iM (kj eu (λn=>O.Y (.int n)) i) (eu b) with|some (.Y (.int n))=>_|_=>_)=_
 rw[EG eu o6,h'];show(if(kj eu (λn=>O.Y (.int n)) i).length<1000000 then _ else _)=_
 rw[aY (by unfold kj;rw[bO];exact hl),show cP (GC i) (eu b) (O.Y (.int (op n j)))=_ from xo eu o6 (λn=>O.Y (.int n)) b (op n j) i,show O.aI (kj eu (λn=>O.Y (.int n)) (pt i b (op n j)))=zO (pt i b (op n j)) from rfl,xo eu o6]
 unfold jI;rw[h];rfl
theorem ZI{α β:Type}[DecidableEq α]{l:List (α×β)}{k:α}{v:β}:(pt l k v).length<=l.length+1/\(k∈l.map (·.1)->(pt l k v).length=l.length):=by
 have e:=congrArg List.length (Bf k v l);rw[bO] at e;constructor
 .rw[e];split <;> simp
 .intro h;rw[aY h,bO] at e;exact e
theorem X4(fa:GE)(gg:GG)(f:GS)(Q0:Gm):Bm fa gg f Q0=(ay fa Q0).bind λp=>match p.1 with
 |.own (.Y (.tup ds))=>fK gg f ds p.2
 |_=>none:=rfl
noncomputable def iR(N:Net)(v:Nd):Net:=if v∈N.map (·.1) then N else N++[(v,[])]
theorem zu{α β:Type}[DecidableEq α](k:α):∀l m:List (α×β),lk (l++m) k=match lk l k with|some v=>some v|none=>lk m k
 |[],m=>rfl
 |e::l,m=>by
  rw[DA,lx,lx,zu k l m];split <;> rfl
theorem X5(N:Net):O.dk (pk N)=oa N:=BN eu _ inD RG N
theorem Q7(N:Net)(v:Nd)(b:Bool)(hb:b=true↔v∈N.map (·.1)):bR true [.Y (aT v),bV N]=some (.Y (.bl (!b))):=by
 have e:(lk N v).isSome=b:=by
  rw[uj,hb,<-fF,Mu]
 unfold bR;simp only[iE,X5,qV,Option.bind_some];unfold oa;rw[xm eu o6,Hc,e];rfl
theorem Jd(kvs:List (TK×O))(v:O)(d:D):jC (.aI kvs) [v,.Y d]=(cJ d).bind λk=>if kvs.length<1000000 then some (O.aI (cP kvs k v),O.Y D.bF) else none:=by
 cases d <;> rfl
theorem X6(N:Net)(v:Nd)(hv:v∉N.map (·.1))(hl:N.length<1000000):jC (bV N) [.aI [],.Y (aT v)]=some (bV (iR N v),.Y .bF):=by
 rw[Jd,qV,Option.bind_some,aY (by unfold pk kj;rw[bO];exact hl),show(O.aI [])=zO [] from rfl]
 unfold bV pk;rw[xo eu o6,JP (ko.mpr hv)];unfold iR;rw[bb hv]
def layB:GS:=cw (gT (gB (bR true) (ae 4) (ae 0)))
  (fE zk (ae 0) (ae 4))
  bw
theorem OW(N:Net)(v:Nd)(a1 a2 a3:ak O)(hl:N.length<1000000):layB [some (bV N),a1,a2,a3,some (.Y (aT v))]=some (.nx,[some (bV (iR N v)),a1,a2,a3,some (.Y (aT v))]):=by
 unfold layB;by_cases h:v∈N.map (·.1)
 .have e:=Q7 N v true ⟨λ_=>h,λ_=>rfl⟩
  have e2:iR N v=N:=aY h;rw[e2];simp only[dg,cF,bD,bp,bc,bt,bf,↓ag,bq,bA,bB,iC,fN,bz,e,jR,cW,qu,Ea,dq,cB]
 .have e:=Q7 N v false ⟨λz=>(by cases z),λz=>cu z h⟩
  have e2:=X6 N v h hl;simp only[dg,cF,bD,bp,bc,bt,bf,↓ag,bq,bA,bB,iC,fN,bz,e,mU,qu,Ea,e2,bG,dq,aZ]
theorem zw(N:Net)(v w:Nd):lk (iR N v) w=match lk N w with|some i=>some i|none=>if v=w then some [] else none:=by
 unfold iR;by_cases h:v∈N.map (·.1)
 .rw[aY h];cases e:lk N w with
  |some i=>rfl
  |none=>
   have:v≠w:=λz=>ko.mp e (by rw[<-z];exact h)
   dsimp only;rw[bb this]
 .rw[bb h,zu];cases lk N w <;> rfl
theorem Qe(N:Net)(v:Nd):∃i,lk (iR N v) v=some i:=by
 rw[zw];cases lk N v with
 |some i=>exact⟨i,rfl⟩
 |none=>exact⟨[],aY rfl⟩
theorem X7(N:Net)(v:Nd):(iR N v).length<=N.length+1:=by
 unfold iR;split
 .lia
 .rw[fe];exact cX _
def fR(N:Net)(a b:Nd)(r:Int):Net:=jI (jI (iR (iR N a) b) a b r) b a 0
structure Sz (N:Net) (k:Nat):Prop where
 l:N.length<=k+1
 i:∀v i,lk N v=some i->i.length<=k
theorem E'(v:Nd)(s:Sz N k):Sz (iR N v) (k+1):=⟨by have:=X7 N v;have:=s.l;lia,λw i e=>by
 rw[zw] at e;cases q:lk N w with
 |some j=>rw[q] at e;cases e;have:=s.i w _ q;lia
 |none=>
  rw[q] at e;dsimp only at e;split at e
  .cases e;exact nq _
  .cases e⟩
theorem Kg(h:lk N a=some i)(s:Sz N k):Sz (jI N a b n) (k+1):=⟨by
  have:=congrArg List.length (Bg (b:=b) (n:=n) h);rw[bO,bO] at this;have:=s.l;lia,λv j e=>by
  rw[BO h] at e;split at e
  .cases e;have:=(ZI (l:=i) (k:=b) (v:=n)).1;have:=s.i a i h;lia
  .have:=s.i v j e;lia⟩
theorem Je(r:Int):∃i j,lk (iR (iR N a) b) a=some i/\lk (jI (iR (iR N a) b) a b r) b=some j:=by
 obtain⟨i0,e0⟩:=Qe N a;obtain⟨j0,f0⟩:=Qe (iR N a) b;have e1:lk (iR (iR N a) b) a=some i0:=by rw[zw,e0]
 refine⟨i0,?_⟩;by_cases c:a=b
 .exact⟨_,e1,by rw[BO e1,aY c]⟩
 .exact⟨j0,e1,by rw[BO e1,bb c];exact f0⟩
theorem Q8(a b:Nd)(r:Int)(s:Sz N k):Sz (fR N a b r) (k+4):=by
 obtain⟨i,j,e1,e2⟩:=Je (N:=N) (a:=a) (b:=b) r;exact Kg e2 (Kg e1 (E' b (E' a s)))
theorem FH(N:Net)(k:Nat)(a b:Nd)(r:Int)(s:Sz N k)(hk:k<900000):ua [bV N,.Y (aT a),.Y (aT b),.Y (.int r)]=some (.Y .bF,[some (bV (fR N a b r)),none,none,none]):=by
 have me:J8=aR (Bm (bC .tup (aj (ae 1) (aj (ae 2) gN))) (bu 4) layB) (aR (t8 0 (sV 1) (sV 2) (sV 3)) (t8 0 (sV 2) (sV 1) (sC (.int 0)))):=rfl;have hN:=s.l;have s1:=E' a s;have s2:=E' b s1;obtain⟨i,j,e1,e2⟩:=Je (N:=N) (a:=a) (b:=b) r;have s3:=Kg (b:=b) (n:=r) e1 s2;have l1:=OW N a (some (.Y (aT a))) (some (.Y (aT b))) (some (.Y (.int r))) (by lia)
 have l2:=OW (iR N a) b (some (.Y (aT a))) (some (.Y (aT b))) (some (.Y (.int r))) (by have:=s1.l;lia)
 have p1:t8 0 (sV 1) (sV 2) (sV 3) [some (bV (iR (iR N a) b)),some (.Y (aT a)),some (.Y (aT b)),some (.Y (.int r)),some (.Y (aT b))]=some (.nx,[some (bV (jI (iR (iR N a) b) a b r)),some (.Y (aT a)),some (.Y (aT b)),some (.Y (.int r)),some (.Y (aT b))]):=Qc e1 (by have:=s2.i _ _ e1;lia) rfl rfl rfl rfl
 have p2:t8 0 (sV 2) (sV 1) (sC (.int 0)) [some (bV (jI (iR (iR N a) b) a b r)),some (.Y (aT a)),some (.Y (aT b)),some (.Y (.int r)),some (.Y (aT b))]=some (.nx,[some (bV (fR N a b r)),some (.Y (aT a)),some (.Y (aT b)),some (.Y (.int r)),some (.Y (aT b))]):=Qc e2 (by have:=s3.i _ _ e2;lia) rfl rfl rfl rfl
 unfold ua;rw[me];simp only[gD,dY,dZ,bK,bH,bL,reduceAdd,reduceSub,eV,eM,eE,eG,cM,X4,cI,fg,bp,bc,bt,bf,↓ag,bq,reduceLeDiff,fO,d_,aZ,jx,gy,bT,fX,yZ,fU,reduceLT,ck,bG,l1,l2,VS,p1,p2,J4,gL,gM,qW,gR,gE]
theorem ZJ(b:Str)(i m:Int):t_ [.Y (.tup [.str b,.int i]),.Y (.int m)]=some (.tup [.Y (fQ (b,i,m)),.Y (.str "into")],[none,none]):=by
 unfold t_ JH fQ;simp only[gD,dY,dZ,bK,bH,bL,reduceAdd,reduceSub,eM,eE,eG,eS,fg,bp,cI,bD,bc,bf,↓ag,bM,bq,bA,bB,bz,cZ,kf,lE,↓evMap,oJ,bt,reduceLeDiff,fO,d_,aZ,jx,gy,bT,fX,h_,gL,gM,gR,gE]
structure Laid (N:Net) (L:List (Nd×Nd×Int)):Prop where
 ar:∀v w,kg N v w↔(∃r,(v,w,r)∈L)\/∃r,(w,v,r)∈L
 rm:∀v w r,(v,w,r)∈L->rr N v w=r
 rz:∀v w,(∀r,(v,w,r)∉L)->rr N v w=0
 ky:∀v,v∈N.map (·.1)↔v=.st\/∃w r,(v,w,r)∈L\/(w,v,r)∈L
 nd:(N.map (·.1)).Nodup
 ni:∀v i,lk N v=some i->(i.map (·.1)).Nodup
theorem Qf(N:Net)(u v w:Nd):kg (iR N u) v w↔kg N v w:=by
 unfold kg;rw[zw];cases e:lk N v with
 |some i=>exact Iff.rfl
 |none=>
  dsimp only;constructor
  .rintro⟨i,h,n,h2⟩;split at h
   .cases h;cases h2
   .cases h
  .rintro⟨i,h,_⟩;cases h
theorem Q9(N:Net)(u v w:Nd):rr (iR N u) v w=rr N v w:=by
 unfold rr;rw[zw];cases e:lk N v with
 |some i=>rfl
 |none=>
  dsimp only;split <;> rfl
theorem oK(N:Net)(u v:Nd):v∈(iR N u).map (·.1)↔v∈N.map (·.1)\/v=u:=by
 unfold iR;split
 .rename_i h
  exact⟨.inl,λz=>z.elim id λq=>by rw[q];exact h⟩
 .rw[jm,eT,uo,i3]
theorem JQ(u:Nd)(h:(N.map (·.1)).Nodup):((iR N u).map (·.1)).Nodup:=by
 unfold iR;split
 .exact h
 .rename_i z
  rw[jm];exact lh.mpr ⟨h,by simp,λa ha b hb e=>by
   rw[uo,i3] at hb;exact z (by rw[show u=b from hb.symm,<-e];exact ha)⟩
theorem Q_(u:Nd)(h:∀v i,lk N v=some i->(i.map (·.1)).Nodup):∀v i,lk (iR N u) v=some i->(i.map (·.1)).Nodup:=by
 intro v i e;rw[zw] at e;cases q:lk N v with
 |some j=>rw[q] at e;cases e;exact h v _ q
 |none=>
  rw[q] at e;dsimp only at e;split at e
  .cases e;exact yJ
  .cases e
theorem RH(h:lk N a=some i)(hn:∀v i,lk N v=some i->(i.map (·.1)).Nodup):∀v j,lk (jI N a b n) v=some j->(j.map (·.1)).Nodup:=by
 intro v j e;rw[BO h] at e;split at e
 .cases e;exact e8o (hn a i h)
 .exact hn v j e
theorem Laid.lay{L:List (Nd×Nd×Int)}{r:Int}(l:Laid N L)(j_:a≠b)(hf:∀r',(a,b,r')∈L->r'=r)(ha:∀r',(b,a,r')∉L):Laid (fR N a b r) (L++[(a,b,r)]):=by
 obtain⟨i,j,e1,e2⟩:=Je (N:=N) (a:=a) (b:=b) r;have mm:∀v w q,(v,w,q)∈L++[(a,b,r)]↔(v,w,q)∈L\/(v=a/\w=b/\q=r):=λv w q=>by
  rw[eT,i3,Prod.mk.injEq,Prod.mk.injEq]
 have rl:∀v w,rr (fR N a b r) v w=if v=b/\w=a then 0 else if v=a/\w=b then r else rr N v w:=λv w=>by
  unfold fR;rw[FF e2,FF e1,Q9,Q9]
 refine⟨λv w=>?_,λv w q hm=>?_,λv w hm=>?_,λv=>?_,?_,RH e2 (RH e1 (Q_ b (Q_ a l.ni)))⟩
 .unfold fR;rw[Q6 e2,Q6 e1,Qf,Qf,l.ar];constructor
  .rintro((h|h)|h)
   .rcases h with⟨q,h⟩|⟨q,h⟩
    .exact .inl ⟨q,(mm ..).mpr (.inl h)⟩
    .exact .inr ⟨q,(mm ..).mpr (.inl h)⟩
   .exact .inl ⟨r,(mm ..).mpr (.inr ⟨h.1,h.2,rfl⟩)⟩
   .exact .inr ⟨r,(mm ..).mpr (.inr ⟨h.2,h.1,rfl⟩)⟩
  .rintro(⟨q,h⟩|⟨q,h⟩)
   .rcases(mm ..).mp h with h|h
    .exact .inl (.inl (.inl ⟨q,h⟩))
    .exact .inl (.inr ⟨h.1,h.2.1⟩)
   .rcases(mm ..).mp h with h|h
    .exact .inl (.inl (.inr ⟨q,h⟩))
    .exact .inr ⟨h.2.1,h.1⟩
 .rw[rl];rcases(mm ..).mp hm with h|h
  .have n1:¬(v=b/\w=a):=λz=>ha q (by rw[<-z.1,<-z.2];exact h)
   rw[bb n1];by_cases c:v=a/\w=b
   .rw[aY c];exact(hf q (by rw[<-c.1,<-c.2];exact h)).symm
   .rw[bb c];exact l.rm v w q h
  .rw[bb (λz=>j_ (h.1.symm.trans z.1)),aY ⟨h.1,h.2.1⟩]
   exact h.2.2.symm
 .rw[rl];by_cases c:v=b/\w=a
  .rw[aY c]
  .rw[bb c];by_cases c2:v=a/\w=b
   .exact cu ((mm ..).mpr (.inr ⟨c2.1,c2.2,rfl⟩)) (hm r)
   .rw[bb c2];exact l.rz v w λq h=>hm q ((mm ..).mpr (.inl h))
 .unfold fR;rw[Bg e2,Bg e1,oK,oK,l.ky];constructor
  .rintro((h|h)|h)
   .rcases h with h|⟨w,q,h|h⟩
    .exact .inl h
    .exact .inr ⟨w,q,.inl ((mm ..).mpr (.inl h))⟩
    .exact .inr ⟨w,q,.inr ((mm ..).mpr (.inl h))⟩
   .exact .inr ⟨b,r,.inl ((mm ..).mpr (.inr ⟨h,rfl,rfl⟩))⟩
   .exact .inr ⟨a,r,.inr ((mm ..).mpr (.inr ⟨rfl,h,rfl⟩))⟩
  .rintro(h|⟨w,q,h|h⟩)
   .exact .inl (.inl (.inl h))
   .rcases(mm ..).mp h with h|h
    .exact .inl (.inl (.inr ⟨w,q,.inl h⟩))
    .exact .inl (.inr h.1)
   .rcases(mm ..).mp h with h|h
    .exact .inl (.inl (.inr ⟨w,q,.inr h⟩))
    .exact .inr h.2.1
 .unfold fR;rw[Bg e2,Bg e1];exact JQ b (JQ a l.nd)
theorem Cw:Laid [(.st,[])] [] where
 ar v w:=by
  constructor
  .rintro⟨i,h,n,h2⟩;rw[lx] at h;split at h
   .cases h;cases h2
   .cases h
  .rintro(⟨r,h⟩|⟨r,h⟩) <;> cases h
 rm v w r h:=by cases h
 rz v w _:=by
  unfold rr;rw[lx];split <;> rfl
 ky v:=by
  rw[cY,mT,i3];constructor
  .exact .inl
  .rintro(h|⟨w,r,h|h⟩)
   .exact h
   .cases h
   .cases h
 nd:=by simp
 ni v i h:=by
  rw[lx] at h;split at h
  .cases h;exact yJ
  .cases h
theorem X8(fa:GE)(gg:GG)(f:GS)(Q0:Gm):Bu fa gg f Q0=(ay fa Q0).bind λp=>match p.1 with
 |.own (.Y (.aI kvs))=>fK gg f (kvs.map (·.1.d)) p.2
 |_=>none:=rfl
abbrev cT:=List (Nd×ak Nd)
variable{l:cT}
def Ff:ak Nd->O
 |none=>.Y .bF
 |some v=>.Y (aT v)
def zB:ak Nd->D
 |none=>.bF
 |some v=>aT v
def iQ(l:cT):List (TK×O):=kj eu Ff l
def dQ(l:cT):List (TK×D):=uW eu zB l
theorem Ra(l:cT):O.dk (iQ l)=dQ l:=BN eu _ zB (λb=>by cases b <;> rfl) l
inductive Cm (N:Net):cT->Prop
 |base:Cm N [(.st,none)]
 |ext {l:cT} {x y:Nd}:Cm N l->y∈l.map (·.1)->x∉l.map (·.1)->0<rr N y x->kg N y x->Cm N (l++[(x,some y)])
theorem vE(l:cT)(x:Nd)(y:ak Nd)(z:Nd):z∈(l++[(x,y)]).map (·.1)↔z∈l.map (·.1)\/z=x:=by
 rw[jm,eT,uo,i3]
theorem Cm.nd(c:Cm N l):(l.map (·.1)).Nodup:=by
 induction c with
 |base=>simp
 |@ext l x y h1 h2 h3 h4 h5 ih=>
  rw[jm];exact lh.mpr ⟨ih,by simp,λa ha b hb e=>by
   rw[uo,i3] at hb;exact h3 (by rw[show x=b from hb.symm,<-e];exact ha)⟩
theorem Cm.st{N:Net}{l:cT}(c:Cm N l):.st∈l.map (·.1):=by
 induction c with
 |base=>exact .head _
 |@ext l x y h1 h2 h3 h4 h5 ih=>exact(vE ..).mpr (.inl ih)
theorem X9(h:kg N v w):v∈N.map (·.1):=by
 obtain⟨i,e,_⟩:=h;exact fF.mp ⟨i,e⟩
theorem Cm.sub(ok:nv N)(c:Cm N l):∀x,x∈l.map (·.1)->x∈N.map (·.1):=by
 induction c with
 |base=>intro x h;rw[uo,i3] at h;rw[h];exact ok.st
 |@ext l x y h1 h2 h3 h4 h5 ih=>
  intro z h;rcases(vE ..).mp h with h|h
  .exact ih z h
  .rw[h];exact X9 (ok.sy y x h5)
theorem uD{α:Type}[DecidableEq α]:∀{l m:List α},l.Nodup->(∀x,x∈l->x∈m)->l.length<=m.length
 |[],m,_,_=>nq _
 |x::l,m,h,s=>by
  rw[i7] at h;have hx:=s x (.head _);have ih:=uD (m:=m.erase x) h.2 λy hy=>(List.mem_erase_of_ne (λe=>h.1 (by rw[<-e];exact hy))).mpr (s y (.tail _ hy))
  have e:=List.length_erase_of_mem hx;have p:0<m.length:=List.length_pos_of_mem hx;rw[jl];lia
theorem Cm.len(ok:nv N)(c:Cm N l):l.length<=N.length:=by
 have:=uD c.nd (c.sub ok);rw[bO,bO] at this;exact this
theorem xC{h:Nd}(e:lk N h=some i):dU (.Y (dj N)) (aT h)=some (.Y (inD i)):=by
 have q:dU (.Y (dj N)) (aT h)=(cJ (aT h)).bind λk=>(iZ (oa N) k).map .Y:=by
  cases h <;> rfl
 rw[q,qV,Option.bind_some];unfold oa;rw[xm eu o6,e];rfl
theorem BR(e:lk i w=some n):dU (.Y (inD i)) (aT w)=some (.Y (.int n)):=by
 have q:dU (.Y (inD i)) (aT w)=(cJ (aT w)).bind λk=>(iZ (ph i) k).map .Y:=by
  cases w <;> rfl
 rw[q,qV,Option.bind_some];unfold ph;rw[xm eu o6,e];rfl
theorem Qg(neg:Bool)(l:cT)(v:Nd)(b:Bool)(hb:b=true↔v∈l.map (·.1)):bR neg [.Y (aT v),.aI (iQ l)]=some (.Y (.bl (if neg then !b else b))):=by
 have e:(lk l v).isSome=b:=by
  rw[uj,hb,<-fF,Mu]
 unfold bR;simp only[iE,Ra,qV,Option.bind_some];unfold dQ;rw[xm eu o6,Hc,e]
theorem IH(neg:Bool)(l:cT)(v:Nd)(b:Bool)(hb:b=true↔v∈l.map (·.1)):bR neg [.Y (aT v),.Y (.aI (dQ l))]=some (.Y (.bl (if neg then !b else b))):=by
 have e:(lk l v).isSome=b:=by
  rw[uj,hb,<-fF,Mu]
 unfold bR;simp only[iE,qV,Option.bind_some];unfold dQ;rw[xm eu o6,Hc,e]
theorem Wm(l:cT)(h w:Nd)(hw:w∉l.map (·.1))(hl:l.length<1000000):jC (.aI (iQ l)) [.Y (aT h),.Y (aT w)]=some (.aI (iQ (l++[(w,some h)])),.Y .bF):=by
 rw[Jd,qV,Option.bind_some,aY (by unfold iQ kj;rw[bO];exact hl),show O.Y (aT h)=Ff (some h) from rfl]
 unfold iQ;rw[xo eu o6,JP (ko.mpr hw)]
def zS:GS:=cw (i5 (gT (gB qG (gB bJ (gB bJ (ae 0) (ae 5)) (ae 6)) (gC (.int 0)))) (gT (gB (bR true) (ae 6) (ae 2))))
  (aR (fE (ae 5) (ae 2) (ae 6)) (jw (gj oM (ae 4) (aj (ae 6) gN))))
  bw
theorem X_(N:Net)(l:cT)(F:List Nd)(h w:Nd)(i:ql)(n:Int)(a1 a3:ak O)(e1:lk N h=some i)(e2:lk i w=some n)(hn:0<n)(hw:w∉l.map (·.1))(hl:l.length<1000000)(hF:F.length<1000000):
  zS [some (.Y (dj N)),a1,some (.aI (iQ l)),a3,some (.lst ((F.map aT).map .Y)),some (.Y (aT h)),some (.Y (aT w))]=some (.nx,[some (.Y (dj N)),a1,some (.aI (iQ (l++[(w,some h)]))),a3,some (.lst (((F++[w]).map aT).map .Y)),some (.Y (aT h)),some (.Y (aT w))]):=by
 unfold zS;have f1:=xC e1;have f2:=BR e2;have f3:=Qg true l w false ⟨λz=>(by cases z),λz=>cu z hw⟩
 have f4:=Wm l h w hw hl;have f5:((F.map aT).length<1000000)=True:=ke (by rw[bO];exact hF)
 have f6:decide ((0:Int)<n)=true:=ig hn;rw[jm (f:=aT),show[w].map aT=[aT w] from rfl];simp only[dg,mI,cF,bD,bp,bc,bf,↓ag,bt,bq,bA,bB,bz,cZ,f1,f2,bM,gw,f6,aZ,iC,fN,f3,mU,cM,qu,f4,ck,bG,jv,lF,fO,d_,pV,f5,dq]
theorem X'(N:Net)(l:cT)(F:List Nd)(h w:Nd)(i:ql)(n:Int)(a1 a3:ak O)(e1:lk N h=some i)(e2:lk i w=some n)(hn:0<n->w∈l.map (·.1)):
  zS [some (.Y (dj N)),a1,some (.aI (iQ l)),a3,some (.lst ((F.map aT).map .Y)),some (.Y (aT h)),some (.Y (aT w))]=some (.nx,[some (.Y (dj N)),a1,some (.aI (iQ l)),a3,some (.lst ((F.map aT).map .Y)),some (.Y (aT h)),some (.Y (aT w))]):=by
 unfold zS;have f1:=xC e1;have f2:=BR e2;by_cases c:0<n
 .have f3:=Qg true l w true ⟨λ_=>hn c,λ_=>rfl⟩
  have f6:decide ((0:Int)<n)=true:=ig c;simp only[dg,mI,cF,bD,bp,bc,bf,↓ag,bt,bq,bA,bB,bz,cZ,f1,f2,bM,gw,f6,aZ,iC,fN,f3,jR,cW,cM,qu,dq,cB]
 .have f6:decide ((0:Int)<n)=false:=ij c;simp only[dg,mI,cF,bD,bp,bc,bf,↓ag,bt,bq,bA,bB,bz,cZ,f1,f2,bM,gw,f6,aZ,cW,iC,fN,cB,cM,qu,dq]
structure SI (N:Net) (l0 l:cT) (F:List Nd):Prop where
 cm:Cm N l
 sub:∀x,x∈l.map (·.1)↔x∈l0.map (·.1)\/x∈F
 len:l.length=l0.length+F.length
theorem SI.add{l0:cT}{F:List Nd}{h:Nd}(s:SI N l0 l F)(hh:h∈l0.map (·.1))(hw:w∉l.map (·.1))(hr:0<rr N h w)(ha:kg N h w):SI N l0 (l++[(w,some h)]) (F++[w]):=
 ⟨.ext s.cm ((s.sub h).mpr (.inl hh)) hw hr ha,λx=>by
  rw[vE,s.sub,eT,i3,or_assoc],by
  rw[fe,fe,s.len];rfl⟩
theorem Kh{β:Type}{i:List (Nd×β)}{n:β}(h:(i.map (·.1)).Nodup)(m:(w,n)∈i):lk i w=some n:=by
 induction i with
 |nil=>cases m
 |cons e i ih=>
  rw[cY,i7] at h;rw[lx];rcases eX.mp m with m|m
  .rw[<-m,aY rfl]
  .rw[bb (λz=>h.1 (by rw[z];exact gz.mpr ⟨_,m,rfl⟩))]
   exact ih h.2 m
theorem Ki{α β:Type}[DecidableEq α]:∀{i:List (α×β)} {w:α} {n:β},lk i w=some n->(w,n)∈i
 |e::i,w,n,h=>by
  rw[lx] at h;split at h
  .rename_i z;cases h;rw[<-z];exact .head _
  .exact .tail _ (Ki h)
def vh:GS:=Bu (gB bJ (ae 0) (ae 5)) (bu 6) zS
theorem zA{h:Nd}(e:lk N h=some i):rr N h w=(lk i w).getD 0:=by
 unfold rr;rw[e];rfl
theorem Ya(N:Net)(ok:nv N)(l0 l:cT)(F:List Nd)(h:Nd)(a1 a3 a6:ak O)(s:SI N l0 l F)(hh:h∈l0.map (·.1))(hk:h∈N.map (·.1)):
  ∃l' F' b6,SI N l0 l' F'/\(∀x,x∈l.map (·.1)->x∈l'.map (·.1))/\(∀x,0<rr N h x->x∈l'.map (·.1))/\
   vh [some (.Y (dj N)),a1,some (.aI (iQ l)),a3,some (.lst ((F.map aT).map .Y)),some (.Y (aT h)),a6]=some (.nx,[some (.Y (dj N)),a1,some (.aI (iQ l')),a3,some (.lst ((F'.map aT).map .Y)),some (.Y (aT h)),b6]):=by
 obtain⟨i,ei⟩:=fF.mpr hk;obtain⟨aw,e,l',F',b6,rfl,s',sb,dn⟩:=mW (g:=bu 6) (f:=zS) (λe:Nd×Int=>aT e.1) (λpre Q0=>∃(l':cT) (F':List Nd) (b6:ak O),Q0=[some (.Y (dj N)),a1,some (.aI (iQ l')),a3,some (.lst ((F'.map aT).map .Y)),some (.Y (aT h)),b6]/\SI N l0 l' F'/\(∀x,x∈l.map (·.1)->x∈l'.map (·.1))/\∀e∈pre,0<e.2->e.1∈l'.map (·.1)) i []
  [some (.Y (dj N)),a1,some (.aI (iQ l)),a3,some (.lst ((F.map aT).map .Y)),some (.Y (aT h)),a6] ⟨l,F,a6,rfl,s,λ_ z=>z,λ_ z=>(by cases z)⟩ (by
   rintro q ⟨w,n⟩ post Q0 eq ⟨l',F',b6,rfl,s',sb,dn⟩;have en:lk i w=some n:=Kh (ok.ni h i ei) (by rw[eq];simp)
   have ll:=s'.cm.len ok;have nl:=ok.nl;have sl:=s'.len;by_cases c:0<n/\w∉l'.map (·.1)
   .have st:=X_ N l' F' h w i n a1 a3 ei en c.1 c.2 (by lia) (by lia)
    refine⟨[some (.Y (dj N)),a1,some (.aI (iQ (l'++[(w,some h)]))),a3,some (.lst (((F'++[w]).map aT).map .Y)),some (.Y (aT h)),some (.Y (aT w))],?_,l'++[(w,some h)],F'++[w],_,rfl,s'.add hh c.2 (by rw[zA ei,en];exact c.1) ⟨i,ei,n,en⟩,λx z=>(vE ..).mpr (.inl (sb x z)),λe z hz=>?_⟩
    .simp only[fU,bK,bH,bL,reduceAdd,reduceLT,ck,bG,aZ,↓ag,st]
    .rw[vE];rcases eT.mp z with z|z
     .exact .inl (dn e (by simpa using z) hz)
     .rw[i3] at z;rw[z];exact .inr rfl
   .have hn:0<n->w∈l'.map (·.1):=λz=>oV λy=>c ⟨z,y⟩
    have st:=X' N l' F' h w i n a1 a3 ei en hn;refine⟨[some (.Y (dj N)),a1,some (.aI (iQ l')),a3,some (.lst ((F'.map aT).map .Y)),some (.Y (aT h)),some (.Y (aT w))],?_,l',F',_,rfl,s',sb,λe z hz=>?_⟩
    .simp only[fU,bK,bH,bL,reduceAdd,reduceLT,ck,bG,aZ,↓ag,st]
    .rcases eT.mp z with z|z
     .exact dn e (by simpa using z) hz
     .rw[i3] at z;rw[z] at hz ⊢;exact hn hz)
 rw[gc] at dn;refine⟨l',F',b6,s',sb,λx hx=>?_,?_⟩
 .rw[zA ei] at hx;cases q:lk i x with
  |none=>rw[q] at hx;exact cu hx (Int.lt_irrefl 0)
  |some n=>rw[q] at hx;exact dn (x,n) (Ki q) hx
 .have f1:=xC ei;have f2:(ph i).map (·.1.d)=i.map λe=>aT e.1:=by
   unfold ph;rw[OV];exact Hb λe _=>Kf e.1
  unfold vh;simp only[X8,cI,bD,bp,bc,bf,↓ag,bt,bq,bA,bB,bz,cZ,f1,bT,f2,e]
def GR:GS:=aR (aq 4 (bC .lst gN)) (aR (e8 (ae 3) (bu 5) vh) (aq 3 (ay (ae 4))))
theorem ZK(N:Net)(ok:nv N)(l:cT)(R:List Nd)(a1 a4 a5 a6:ak O)(c:Cm N l)(hR:∀x,x∈R->x∈l.map (·.1))(cl:∀y,y∈l.map (·.1)->y∉R->∀x,0<rr N y x->x∈l.map (·.1)):
  ∃l' F b4 b5 b6,SI N l l' F/\(∀y,y∈l'.map (·.1)->y∉F->∀x,0<rr N y x->x∈l'.map (·.1))/\
   GR [some (.Y (dj N)),a1,some (.aI (iQ l)),some (.Y (.lst (R.map aT))),a4,a5,a6]=some (.nx,[some (.Y (dj N)),a1,some (.aI (iQ l')),some (.Y (.lst (F.map aT))),b4,b5,b6]):=by
 obtain⟨aw,e,l',F,b5,b6,rfl,s,dn⟩:=mW (g:=bu 5) (f:=vh) aT (λpre Q0=>∃(l':cT) (F:List Nd) (b5 b6:ak O),Q0=[some (.Y (dj N)),a1,some (.aI (iQ l')),some (.Y (.lst (R.map aT))),some (.lst ((F.map aT).map .Y)),b5,b6]/\SI N l l' F/\∀h∈pre,∀x,0<rr N h x->x∈l'.map (·.1)) R []
  [some (.Y (dj N)),a1,some (.aI (iQ l)),some (.Y (.lst (R.map aT))),some (.lst []),a5,a6] ⟨l,[],a5,a6,rfl,⟨c,λx=>(by simp),rfl⟩,λ_ z=>(by cases z)⟩ (by
   rintro q h post Q0 eq ⟨l',F,b5,b6,rfl,s,dn⟩;have hm:h∈R:=by rw[eq];simp
   obtain⟨l2,F2,c6,s2,sb,d2,st⟩:=Ya N ok l l' F h a1 (some (.Y (.lst (R.map aT)))) b6 s (hR h hm) (c.sub ok h (hR h hm));refine⟨[some (.Y (dj N)),a1,some (.aI (iQ l2)),some (.Y (.lst (R.map aT))),some (.lst ((F2.map aT).map .Y)),some (.Y (aT h)),c6],?_,l2,F2,_,c6,rfl,s2,λy z x hx=>?_⟩
   .simp only[fU,bK,bH,bL,reduceAdd,reduceLT,ck,bG,aZ,↓ag,st]
   .rcases eT.mp z with z|z
    .exact sb x (dn y (by simpa using z) x hx)
    .rw[i3] at z;rw[z] at hx;exact d2 x hx)
 rw[gc] at dn;refine⟨l',F,some (.Y (.lst (F.map aT))),b5,b6,s,λy hy hF x hx=>?_,?_⟩
 .have hy:y∈l.map (·.1):=((s.sub y).mp hy).resolve_right hF
  by_cases m:y∈R
  .exact dn y m x hx
  .exact(s.sub x).mpr (.inl (cl y hy m x hx))
 .unfold GR;simp only[cM,dN,fg,bq,↓ag,bH,reduceLeDiff,d_,aZ,bK,bL,reduceAdd,reduceLT,ck,bG,pU,cI,bc,bt,bf,bT,e,gG,rN]
theorem OX(N:Net)(ok:nv N)(a1:ak O):∀(n:Nat) (l:cT) (R:List Nd) (a4 a5 a6:ak O),Cm N l->(∀x,x∈R->x∈l.map (·.1))->(∀y,y∈l.map (·.1)->y∉R->∀x,0<rr N y x->x∈l.map (·.1))->N.length+2<=n+l.length+(if R=[] then 1 else 0)->
  ∃l' b3 b4 b5 b6,Cm N l'/\(∀y,y∈l'.map (·.1)->∀x,0<rr N y x->x∈l'.map (·.1))/\gf (gk (ae 3)) GR n [some (.Y (dj N)),a1,some (.aI (iQ l)),some (.Y (.lst (R.map aT))),a4,a5,a6]=some (.nx,[some (.Y (dj N)),a1,some (.aI (iQ l')),b3,b4,b5,b6])
 |0,l,R,a4,a5,a6,c,_,_,hn=>by
  have:=c.len ok;split at hn <;> lia
 |n+1,l,R,a4,a5,a6,c,hR,cl,hn=>by
  by_cases q:R=[]
  .subst q;refine⟨l,some (.Y (.lst [])),a4,a5,a6,c,λy hy=>cl y hy (by simp),?_⟩
   unfold gf;simp only[dZ,kI,bc,bt,bf,↓ag,bB,ze,List.isEmpty_nil,jR,cW,cB]
  .obtain⟨l2,F,b4,b5,b6,s,U_,st⟩:=ZK N ok l R a1 a4 a5 a6 c hR cl;rw[bb q] at hn;obtain⟨l',c3,c4,c5,c6,r1,r2,r3⟩:=OX N ok a1 n l2 F b4 b5 b6 s.cm (λx hx=>(s.sub x).mpr (.inr hx)) U_ (by
    have:=s.len;cases F with
    |nil=>rw[aY rfl];rw[rq] at this;lia
    |cons x F=>rw[jl] at this;split <;> lia)
   refine⟨l',c3,c4,c5,c6,r1,r2,?_⟩;rw[<-r3];have ne:(R.map aT).isEmpty=false:=by
    cases R with
    |nil=>exact cu rfl q
    |cons x R=>rfl
   rw[gf];simp only[kI,bc,bt,bf,↓ag,bB,ze,ne,mU,st,aZ]
theorem Wn(N:Net)(ok:nv N):∃l,Cm N l/\(∀y,y∈l.map (·.1)->∀x,0<rr N y x->x∈l.map (·.1))/\rH [.Y (dj N),.Y (aT .st)]=some (.aI (iQ l),[none,none]):=by
 have hn:=ok.nl;obtain⟨l,b3,b4,b5,b6,c,cl,e⟩:=OX N ok (some (.Y (aT .st))) 1000000 [(.st,none)] [.st] none none none .base (λx hx=>hx) (λy hy hR=>cu hy hR) (by
  rw[lC];split <;> lia)
 refine⟨l,c,cl,?_⟩;have me:Iz=aR (aq 2 (zo (ae 1) (gC .bF))) (aR (aq 3 (ay (bC .lst (aj (ae 1) gN)))) (aR (gf (gk (ae 3)) GR 1000000) (aW (fY (ae 2))))):=rfl;have e0:iQ [(.st,none)]=[(eu .st,.Y .bF)]:=rfl;have e1:[Nd.st].map aT=[aT .st]:=rfl;rw[e0,e1] at e;unfold rH;rw[me];simp only[gD,dY,dZ,bK,bH,bL,reduceAdd,reduceSub,eV,eM,eE,eG,cM,dN,OD,bc,bt,bf,↓ag,bM,qV,↓evMap,reduceLT,ck,bG,aZ,cI,fg,bp,bq,reduceLeDiff,fO,d_,gG,gy,bT,fX,e,eS,rK,h_,gL,gM,gR,gE]
theorem Uj(N:Net)(l:cT)(h:rH [.Y (dj N),.Y (aT .st)]=some (.aI (iQ l),[none,none])):bor rH [bV N,.Y (aT .st)]=some (.aI (iQ l),[some (bV N),none]):=by
 have d2:BU (bV N)=true:=by
  show(pk N).all _=true;rw[nr];intro p hp;obtain⟨e,_,rfl⟩:=gz.mp hp;show(GC e.2).all _=true;rw[nr];intro p hp;obtain⟨e,_,rfl⟩:=gz.mp hp;rfl
 have c1:qv (.aI (iQ l))=true:=by
  have:∀l:cT,nP (iQ l)=true:=by
   intro l
   induction l with
   |nil=>rfl
   |cons e l ih=>
    show nP ((eu e.1,Ff e.2)::iQ l)=true;simp only[nP,ih,G8];cases e.2 with
    |none=>simp[Ff,qv,qY]
    |some v=>
     show qv (.Y (aT v))=true;simp only[qv];rw[<-Kf];exact Jy _
  simp only[qv];exact this l
 unfold bor;dsimp only;rw[aY d2,Q5,h];dsimp only[Option.bind_some];rw[aY ⟨c1,rfl⟩]
noncomputable def iS(N:Net):List (Nd×List Nd):=N.map λe=>(e.1,e.2.map (·.1))
theorem Fb(v:Nd):∀N:Net,lk (iS N) v=(lk N v).map (·.map (·.1))
 |[]=>rfl
 |e::N=>by
  show lk ((e.1,e.2.map (·.1))::iS N) v=_
  rw[lx,lx,Fb v N];split <;> rfl
theorem tY:kg N v w↔∃ks,lk (iS N) v=some ks/\w∈ks:=by
 rw[Fb];unfold kg;constructor
 .rintro⟨i,e,n,e2⟩;exact⟨_,by rw[e];rfl,fF.mp ⟨n,e2⟩⟩
 .rintro⟨ks,e,m⟩;cases q:lk N v with
  |none=>rw[q] at e;cases e
  |some i=>
   rw[q] at e;cases e;exact⟨i,rfl,fF.mpr m⟩
theorem Ei(N:Net):N.map (·.1)=(iS N).map (·.1):=by
 unfold iS;rw[mE];rfl
theorem nv.same(ok:nv N)(h:iS N'=iS N):nv N':=by
 have hk:N'.map (·.1)=N.map (·.1):=by rw[Ei,Ei,h]
 have hl:∀v i,lk N' v=some i->∃j,lk N v=some j/\i.map (·.1)=j.map (·.1):=λv i e=>by
  have a:=Fb v N;have b:=Fb v N';rw[h,a,e] at b;cases q:lk N v with
  |none=>rw[q] at b;cases b
  |some j=>rw[q] at b;injection b with b;exact⟨j,rfl,b.symm⟩
 refine⟨λv w=>?_,by rw[hk];exact ok.st,by rw[hk];exact ok.nd,λv i e=>?_,?_,λv i e=>?_⟩
 .rw[tY,tY,h,<-tY,<-tY];exact ok.sy v w
 .obtain⟨j,e1,e2⟩:=hl v i e;rw[e2];exact ok.ni v j e1
 .have:=congrArg List.length hk;rw[bO,bO] at this;rw[this];exact ok.nl
 .obtain⟨j,e1,e2⟩:=hl v i e;have:=congrArg List.length e2;rw[bO,bO] at this;rw[this];exact ok.il v j e1
theorem Rb{a:Nd}{i i':ql}(hi:i'.map (·.1)=i.map (·.1)):∀{N:Net},lk N a=some i->iS (pt N a i')=iS N
 |[],h=>by cases h
 |e::N,h=>by
  rw[lx] at h;show iS (if e.1=a then(e.1,i')::N else e::pt N a i')=_
  by_cases q:e.1=a
  .rw[aY q] at h ⊢;injection h with h;show(e.1,i'.map (·.1))::iS N=(e.1,e.2.map (·.1))::iS N
   rw[hi,h]
  .rw[bb q] at h ⊢;show(e.1,e.2.map (·.1))::iS (pt N a i')=(e.1,e.2.map (·.1))::iS N
   rw[Rb hi h]
theorem Rc{m:Int}(h:lk N a=some i)(h2:lk i b=some m):iS (jI N a b n)=iS N:=by
 unfold jI;rw[h];exact Rb (by rw[Bf,aY (fF.mp ⟨m,h2⟩)]) h
def AF(l:cT):List Nd->Prop
 |[]=>False
 |[x]=>lk l x=some none
 |x::y::p=>lk l x=some (some y)/\AF l (y::p)
theorem Cm.step(c:Cm N l):∀x y,lk l x=some (some y)->0<rr N y x/\kg N y x/\x≠y:=by
 induction c with
 |base=>
  intro x y h;rw[lx] at h;split at h
  .cases h
  .cases h
 |@ext l a b h1 h2 h3 h4 h5 ih=>
  intro x y h;rw[zu] at h;cases q:lk l x with
  |some z=>rw[q] at h;exact ih x y (by rw[q];exact h)
  |none=>
   rw[q] at h;have h:lk [(a,some b)] x=some (some y):=h;rw[lx] at h;split at h
   .rename_i e
    cases h;dsimp only at e;rw[<-e];exact⟨h4,h5,λz=>h3 (by rw[z];exact h2)⟩
   .cases h
theorem II{l m:cT}:∀{p:List Nd},(∀v,v∈p->v∈l.map (·.1))->AF l p->AF (l++m) p
 |[],_,h=>h
 |[x],hv,h=>by
  show lk (l++m) x=some none;have h:lk l x=some none:=h;rw[zu,h]
 |x::y::p,hv,h=>by
  refine⟨?_,II (λv z=>hv v (.tail _ z)) h.2⟩
  rw[zu,h.1]
theorem Cm.path(c:Cm N l):∀x,x∈l.map (·.1)->∃p,AF l (x::p)/\(x::p).Nodup/\(∀v,v∈x::p->v∈l.map (·.1))/\(x::p).getLast?=some .st/\kD (rr N) (x::p):=by
 induction c with
 |base=>
  intro x h;rw[uo,i3] at h;subst h;exact⟨[],rfl,by simp,λv z=>z,rfl,jn⟩
 |@ext l a b h1 h2 h3 h4 h5 ih=>
  intro x h;rcases(vE ..).mp h with h|h
  .obtain⟨p,q1,q2,q3,q4,q5⟩:=ih x h;exact⟨p,II q3 q1,q2,λv z=>(vE ..).mpr (.inl (q3 v z)),q4,q5⟩
  .subst h;obtain⟨p,q1,q2,q3,q4,q5⟩:=ih b h2;refine⟨b::p,⟨?_,II q3 q1⟩,i7.mpr ⟨λz=>h3 (q3 _ z),q2⟩,λv z=>?_,by rw[List.getLast?_cons_cons];exact q4,h4,q5⟩
   .rw[zu,ko.mpr h3];show lk [(x,some b)] x=_;rw[lx,aY rfl]
   .rw[vE];rcases eX.mp z with z|z
    .exact .inr z
    .exact .inl (q3 v z)
theorem Jf{x:Nd}{y:ak Nd}(e:lk l x=some y):dU (.Y (.aI (dQ l))) (aT x)=some (.Y (zB y)):=by
 have q:dU (.Y (.aI (dQ l))) (aT x)=(cJ (aT x)).bind λk=>(iZ (dQ l) k).map .Y:=by
  cases x <;> rfl
 rw[q,qV,Option.bind_some];unfold dQ;rw[xm eu o6,e];rfl
def pC:GT:=gT (gB (oh true) (gB bJ (ae 1) (ae 3)) (gC .bF))
def pB:GS:=aR (aq 4 (gB bJ (ae 1) (ae 3)))
 (aR (t9 (λi j=>i - j) 0 (sV 4) (sV 3) (sC (.int 1))) (aR (t9 (λi j=>i+j) 0 (sV 3) (sV 4) (sC (.int 1))) (aq 3 (ae 4))))
theorem Yb(v:Nd):oh true [.Y (aT v),.Y .bF]=some (.Y (.bl true)):=by
 cases v <;> rfl
theorem Yc:oh true [.Y .bF,.Y .bF]=some (.Y (.bl false)):=rfl
theorem ZL{x:Nd}(e:lk l x=some (some y)):pC [some (bV N),some (.Y (.aI (dQ l))),a2,some (.Y (aT x)),a4]=some (true,[some (bV N),some (.Y (.aI (dQ l))),a2,some (.Y (aT x)),a4]):=by
 have f:=Jf e;have f2:=Yb y;rw[show zB (some y)=aT y from rfl] at f;unfold pC;simp only[cF,bD,bp,bc,bt,bf,↓ag,bq,bA,bB,bz,cZ,f,bM,f2]
theorem e8p{x:Nd}(e:lk l x=some none):pC [some (bV N),some (.Y (.aI (dQ l))),a2,some (.Y (aT x)),a4]=some (false,[some (bV N),some (.Y (.aI (dQ l))),a2,some (.Y (aT x)),a4]):=by
 have f:=Jf e;rw[show zB none=.bF from rfl] at f;unfold pC;simp only[cF,bD,bp,bc,bt,bf,↓ag,bq,bA,bB,bz,cZ,f,bM,Yc]
theorem Vd(ok:nv N){x:Nd}(e:lk l x=some (some y))(ha:kg N y x)(ib:x≠y):
  ∃N',iS N'=iS N/\(∀v w,rr N' v w=aug (rr N) y x v w)/\pB [some (bV N),some (.Y (.aI (dQ l))),a2,some (.Y (aT x)),a4]=some (.nx,[some (bV N'),some (.Y (.aI (dQ l))),a2,some (.Y (aT y)),some (.Y (aT y))]):=by
 have ha':=ok.sy y x ha;obtain⟨i,e1,n,e2⟩:=ha;obtain⟨j,e3,m,e4⟩:=ha';have e5:lk (jI N y x (n - 1)) x=some j:=by rw[BO e1,bb (Ne.symm ib)];exact e3
 refine⟨jI (jI N y x (n - 1)) x y (m+1),by rw[Rc e5 e4,Rc e1 e2],λv w=>?_,?_⟩
 .rw[FF e5,FF e1];unfold aug;by_cases c1:v=y/\w=x
  .rw[bb (λz=>ib (z.1.symm.trans c1.1)),aY c1,aY c1,c1.1,c1.2,zA e1,e2];rfl
  .rw[bb c1];by_cases c2:v=x/\w=y
   .rw[aY c2,bb c1,aY c2,c2.1,c2.2,zA e3,e4];rfl
   .rw[bb c2,bb c1,bb c2]
 .have f:=Jf e;rw[show zB (some y)=aT y from rfl] at f;have p1:t9 (λi j=>i - j) 0 (sV 4) (sV 3) (sC (.int 1)) [some (bV N),some (.Y (.aI (dQ l))),a2,some (.Y (aT x)),some (.Y (aT y))]=some (.nx,[some (bV (jI N y x (n - 1))),some (.Y (.aI (dQ l))),a2,some (.Y (aT x)),some (.Y (aT y))]):=Qd e1 e2 (by have:=ok.il _ _ e1;lia) rfl rfl rfl rfl
  have p2:t9 (λi j=>i+j) 0 (sV 3) (sV 4) (sC (.int 1)) [some (bV (jI N y x (n - 1))),some (.Y (.aI (dQ l))),a2,some (.Y (aT x)),some (.Y (aT y))]=some (.nx,[some (bV (jI (jI N y x (n - 1)) x y (m+1))),some (.Y (.aI (dQ l))),a2,some (.Y (aT x)),some (.Y (aT y))]):=Qd e5 e4 (by have:=ok.il _ _ e3;lia) rfl rfl rfl rfl
  unfold pB;simp only[cM,dN,bD,bp,bc,bt,bf,↓ag,bq,bA,bB,bz,cZ,f,bK,bH,bL,reduceAdd,reduceLT,ck,bG,aZ,p1,p2]
theorem Od(l:cT)(a2:ak O):∀(p:List Nd) (x:Nd) (N:Net) (n:Nat) (a4:ak O),nv N->AF l (x::p)->(∀x y,lk l x=some (some y)->kg N y x/\x≠y)->p.length<n->
  ∃N' b3 b4,iS N'=iS N/\(∀v w,rr N' v w=jM (rr N) (x::p) v w)/\gf pC pB n [some (bV N),some (.Y (.aI (dQ l))),a2,some (.Y (aT x)),a4]=some (.nx,[some (bV N'),some (.Y (.aI (dQ l))),a2,b3,b4])
 |p,x,N,0,a4,ok,hp,ha,hn=>cu hn (He _)
 |[],x,N,n+1,a4,ok,hp,ha,hn=>by
  have hp:lk l x=some none:=hp;refine⟨N,some (.Y (aT x)),a4,rfl,λ_ _=>rfl,?_⟩
  have f:=e8p (N:=N) (a2:=a2) (a4:=a4) hp;rw[gf];simp only[f,↓ag,cW,cB]
 |y::p,x,N,n+1,a4,ok,hp,ha,hn=>by
  obtain⟨N1,s1,r1,st⟩:=Vd ok (a2:=a2) (a4:=a4) hp.1 (ha x y hp.1).1 (ha x y hp.1).2;have f:=ZL (N:=N) (a2:=a2) (a4:=a4) hp.1;obtain⟨N',b3,b4,s2,r2,e⟩:=Od l a2 p y N1 n (some (.Y (aT y))) (ok.same s1) hp.2 (λx y h=>⟨by rw[tY,s1,<-tY];exact(ha x y h).1,(ha x y h).2⟩) (Nat.lt_of_succ_lt_succ hn)
  refine⟨N',b3,b4,s2.trans s1,λv w=>?_,?_⟩
  .rw[r2];have:(rr N1)=aug (rr N) y x:=by funext v w;exact r1 v w
   rw[this];rfl
  .rw[<-e,gf];simp only[f,↓ag,st,aZ]
theorem ZM(N:Net)(ok:nv N)(l:cT)(c:Cm N l)(he:.en∈l.map (·.1)):∃N' p,iS N'=iS N/\(∀v w,rr N' v w=jM (rr N) (.en::p) v w)/\(Nd.en::p).Nodup/\(∀v,v∈Nd.en::p->v∈N.map (·.1))/\(Nd.en::p).getLast?=some .st/\kD (rr N) (.en::p)/\zq [bV N,.Y (.aI (dQ l)),.Y (aT .en)]=some (.Y .bF,[some (bV N'),none,none]):=by
 obtain⟨p,q1,q2,q3,q4,q5⟩:=c.path .en he;have hl:=uD q2 q3;rw[bO,jl] at hl;have h2:=c.len ok;have h3:=ok.nl;obtain⟨N',b3,b4,s,r,e⟩:=Od l (some (.Y (aT .en))) p .en N 1000000 none ok q1 (λx y h=>(c.step x y h).2) (by lia)
 refine⟨N',p,s,r,q2,λv z=>c.sub ok v (q3 v z),q4,q5,?_⟩
 have me:JG=aR (aq 3 (ae 2)) (gf pC pB 1000000):=rfl;unfold zq;rw[me];simp only[gD,dY,dZ,bK,bH,bL,reduceAdd,reduceSub,eV,eM,eE,eG,cM,dN,bc,bt,bf,↓ag,reduceLT,ck,bG,aZ,e,J4,gL,gM,qW,gR,gE]
theorem RU(l:cT):(O.aI (iQ l)).d=.aI (dQ l):=by show D.aI (O.dk (iQ l))=_;rw[Ra]
theorem Qh(N:Net)(ok:nv N):∃l,Cm N l/\(∀y,y∈l.map (·.1)->∀x,0<rr N y x->x∈l.map (·.1))/\bor rH [bV N,.Y (aT .st)]=some (.aI (iQ l),[some (bV N),none]):=by
 obtain⟨l,c,cl,e⟩:=Wn N ok;exact⟨l,c,cl,Uj N l e⟩
def Gk:GT:=gT (gB (bR false) (ae 2) (ae 3))
def Gj:GS:=aR (jw (aH zq (aj (ae 0) (aj (ae 3) (aj (ae 2) gN))))) (aq 3 (ay (aH (bor rH) (aj (ae 0) (aj (ae 1) gN)))))
def uZ(N:Net)(l:cT):Gm:=[some (bV N),some (.Y (aT .st)),some (.Y (aT .en)),some (.Y (.aI (dQ l)))]
theorem RI(N:Net)(l:cT)(b:Bool)(hb:b=true↔.en∈l.map (·.1)):Gk (uZ N l)=some (b,uZ N l):=by
 have f:=IH false l .en b hb;unfold Gk uZ;simp only[cF,bD,bp,bc,bt,bf,↓ag,bq,bA,bB,bz,f,cW,cB]
theorem e8q(N N1:Net)(l l1:cT)(h1:zq [bV N,.Y (.aI (dQ l)),.Y (aT .en)]=some (.Y .bF,[some (bV N1),none,none]))(h2:bor rH [bV N1,.Y (aT .st)]=some (.aI (iQ l1),[some (bV N1),none])):Gj (uZ N l)=some (.nx,uZ N1 l1):=by
 unfold Gj uZ;simp only[cM,jv,fA,bp,bc,bf,↓ag,bt,bq,ja,bG,fz,fy,h1,jH,fW,fV,dN,cI,h2,RU,bK,bH,bL,reduceAdd,reduceLT,ck,aZ]
theorem Oe{V:List Nd}{r0:Nd->Nd->Int}{B:Int}(hB:∀r,jS V .st .en r0 r->ex V r0 r .st<=B):∀(n:Nat) (N:Net) (l:cT),nv N->(∀v,v∈N.map (·.1)->v∈V)->jS V .st .en r0 (rr N)->Cm N l->(∀y,y∈l.map (·.1)->∀x,0<rr N y x->x∈l.map (·.1))->B<ex V r0 (rr N) .st+n->
  ∃N' l',iS N'=iS N/\jS V .st .en r0 (rr N')/\Cm N' l'/\(∀y,y∈l'.map (·.1)->∀x,0<rr N' y x->x∈l'.map (·.1))/\.en∉l'.map (·.1)/\gf Gk Gj n (uZ N l)=some (.nx,uZ N' l')
 |0,N,l,ok,hV,F,c,cl,hn=>by
  have:=hB _ F;simp only[Int.natCast_zero,Int.add_zero] at hn;lia
 |n+1,N,l,ok,hV,F,c,cl,hn=>by
  by_cases he:Nd.en∈l.map (·.1)
  .obtain⟨N1,p,s1,r1,n1,v1,g1,m1,e1⟩:=ZM N ok l c he;have er:rr N1=jM (rr N) (.en::p):=by funext v w;exact r1 v w
   obtain⟨F1,x1⟩:=F.push n1 (λv z=>hV v (v1 v z)) g1 m1
   rw[<-er] at F1 x1;have ym:=ok.same s1;obtain⟨l1,c1,U9,e2⟩:=Qh N1 ym;have hk:N1.map (·.1)=N.map (·.1):=by rw[Ei,Ei,s1]
   obtain⟨N',l',q1,q2,q3,q4,q5,q6⟩:=Oe hB n N1 l1 ym (by rw[hk];exact hV) F1 c1 U9 (by
    rw[x1];have:((n+1:Nat):Int)=(n:Int)+1:=rfl;lia)
   refine⟨N',l',q1.trans s1,q2,q3,q4,q5,?_⟩;have f1:=RI N l true ⟨λ_=>he,λ_=>rfl⟩
   have f2:=e8q N N1 l l1 e1 e2;rw[<-q6,gf];simp only[f1,↓ag,f2,aZ]
  .refine⟨N,l,rfl,F,c,cl,he,?_⟩;have f1:=RI N l false ⟨λz=>(by cases z),λz=>cu z he⟩
   rw[gf];simp only[f1,↓ag,cW,cB]
theorem ZN{V:List Nd}{B:Int}(N:Net)(ok:nv N)(hV:∀v,v∈N.map (·.1)->v∈V)(F:jS V .st .en (rr N) (rr N))(hB:∀r,jS V .st .en (rr N) r->ex V (rr N) r .st<=B)(hb:B<1000):
  ∃N' l',iS N'=iS N/\jS V .st .en (rr N) (rr N')/\Cm N' l'/\(∀y,y∈l'.map (·.1)->∀x,0<rr N' y x->x∈l'.map (·.1))/\.en∉l'.map (·.1)/\E7 [bV N,.Y (aT .st),.Y (aT .en)]=some (.Y (.aI (dQ l')),[some (bV N'),none,none]):=by
 obtain⟨l,c,cl,e⟩:=Qh N ok;have e0:ex V (rr N) (rr N) .st=0:=zg λv _=>by lia
 obtain⟨N',l',q1,q2,q3,q4,q5,q6⟩:=Oe hB 1000000 N l ok hV F c cl (by rw[e0];lia)
 refine⟨N',l',q1,q2,q3,q4,q5,?_⟩;unfold uZ at q6;have me:JI=aR (aq 3 (ay (aH (bor rH) (aj (ae 0) (aj (ae 1) gN))))) (aR (gf Gk Gj 1000000) (aW (ae 3))):=rfl;unfold E7;rw[me];simp only[gD,dY,dZ,bK,bH,bL,reduceAdd,reduceSub,eV,eM,eE,eG,cM,dN,cI,fA,bp,bc,bf,↓ag,bt,bq,ja,bG,fz,fy,e,jH,fW,fV,RU,reduceLT,ck,aZ,q6,eS,h_,gL,gM,qW,gR,gE]
section
variable{α:Type}[DecidableEq α](kk:α->TK)(inj:∀a b,kk a=kk b->a=b)
noncomputable def km(ks:List α):List (TK×O):=ks.map λk=>(kk k,.Y (.bl true))
noncomputable def jb(ks:List α)(c:α):List α:=if c∈ks then ks else ks++[c]
def dD(ks cs:List α):List α:=cs.foldl jb ks
include inj in
theorem Qi(c:α):∀ks:List α,cP (km kk ks) (kk c) (.Y (.bl true))=km kk (jb ks c)
 |[]=>rfl
 |k::ks=>by
  have ih:=Qi c ks;show(if kk k=kk c then(kk k,O.Y (.bl true))::km kk ks else(kk k,O.Y (.bl true))::cP (km kk ks) (kk c) (.Y (.bl true)))=_
  unfold jb at *;by_cases e:k=c
  .rw[aY (by rw[e]),aY (by rw[e];exact .head _)];rfl
  .rw[bb (λz=>e (inj _ _ z)),ih]
   by_cases m:c∈ks
   .rw[aY m,aY (.tail _ m)];rfl
   .rw[bb m,bb (λz=>by
     rcases eX.mp z with z|z
     .exact e z.symm
     .exact m z)]
    rfl
include inj in
theorem ZO(d:D)(c:α)(hd:cJ d=some (kk c))(ks:List α)(hl:ks.length<1000000):jC (.aI (km kk ks)) [.Y (.bl true),.Y d]=some (.aI (km kk (jb ks c)),.Y .bF):=by
 rw[Jd,hd,Option.bind_some,aY (by unfold km;rw[bO];exact hl),Qi kk inj]
end
section
variable{α:Type}[DecidableEq α]
theorem Wo{ks:List α}{c x:α}:x∈jb ks c↔x∈ks\/x=c:=by
 unfold jb;split
 .rename_i m
  exact⟨.inl,λz=>z.elim id λe=>by rw[e];exact m⟩
 .rw[eT,i3]
theorem jL:∀{cs ks:List α} {x:α},x∈dD ks cs↔x∈ks\/x∈cs
 |[],ks,x=>by show x∈ks↔_;simp
 |c::cs,ks,x=>by
  show x∈dD (jb ks c) cs↔_;rw[jL,Wo,eX,or_assoc]
theorem Uk{ks:List α}{c:α}(h:ks.Nodup):(jb ks c).Nodup:=by
 unfold jb;split
 .exact h
 .rename_i m
  rw[lh];exact⟨h,by simp,λa ha b hb e=>by simp at hb;subst hb e;exact m ha⟩
theorem M4:∀{cs ks:List α},ks.Nodup->(dD ks cs).Nodup
 |[],ks,h=>h
 |c::cs,ks,h=>M4 (cs:=cs) (Uk h)
theorem Of(ks cs ds:List α):dD ks (cs++ds)=dD (dD ks cs) ds:=by unfold dD;rw[List.foldl_append]
theorem H9:∀{cs ks:List α},(dD ks cs).length<=ks.length+cs.length
 |[],ks=>cX _
 |c::cs,ks=>by
  have h1:=H9 (cs:=cs) (ks:=jb ks c);have h2:(jb ks c).length<=ks.length+1:=by
   unfold jb;split
   .exact yH _
   .simp
  show(dD (jb ks c) cs).length<=_;rw[jl];lia
end
abbrev Pl:=Str×Int
variable{p q:Pl}{P:List Pl}
noncomputable def aL(p:Pl):D:=.tup [.str p.1,.int p.2]
def lB(p:Pl):TK:=.tp [.inr p.1,.inl p.2]
theorem Rf(p:Pl):cJ (aL p)=some (lB p):=by
 simp[aL,lB,cJ,mQ,pG,TK.ok]
theorem Yd(a b:Pl)(e:lB a=lB b):a=b:=by
 obtain⟨x,i⟩:=a;obtain⟨y,j⟩:=b;unfold lB at e;injection e with e;injection e with e1 e;injection e with e2 e;injection e1 with e1;injection e2 with e2;dsimp only at e1 e2;rw[e1,e2]
def jk(h:az)(p:Pl):List Sp:=eR h (.inr p)++[.inr p]
def yu:Sp->ak Pl
 |.inl _=>none
 |.inr p=>some p
def iV(h:az)(p:Pl):List Pl:=(jk h p).filterMap yu
theorem e_:q∈iV h p↔Sum.inr q∈jk h p:=by
 unfold iV;rw[wQ];constructor
 .rintro⟨s,hs,e⟩;cases s with
  |inl x=>cases e
  |inr r=>cases e;exact hs
 .exact λz=>⟨_,z,rfl⟩
theorem Jg:∀ss:List Sp,(ss.filter λs => !s.isLeft).map aB=(ss.filterMap yu).map aL
 |[]=>rfl
 |.inl x::ss=>Jg ss
 |.inr p::ss=>by
  show aB (.inr p)::(ss.filter λs => !s.isLeft).map aB=aL p::(ss.filterMap yu).map aL
  rw[Jg ss];rfl
def VP(h:az)(p:Pl):Prop:=∃b∈h.aF,b.name=p.1/\0<=p.2/\p.2<b.long
theorem xD(ok:gd h){b:aX}(hb:b∈h.aF)(c:Int):jk h (b.name,c)=iY h b c++[.inr (b.name,c)]:=by
 unfold jk;rw[Jc ok.fwd hb]
theorem EH(ok:gd h)(v:VP h p):(jk h p).length<=31:=by
 obtain⟨n,c⟩:=p;obtain⟨b,hb,e,_⟩:=v;dsimp only at e;subst e;rw[xD ok hb,fe,lC];have:=Ob h b c (ok.bk b hb).ol;lia
theorem EI(ok:gd h)(v:VP h p):(iV h p).length<=31:=
 k_ (List.length_filterMap_le _ _) (EH ok v)
theorem AR(ok:gd h)(v:VP h p)(hq:q∈iV h p):VP h q:=by
 rw[e_] at hq;obtain⟨n,c⟩:=p;obtain⟨b,hb,e,c0,c1⟩:=v;dsimp only at e c0 c1;subst e;rw[xD ok hb] at hq;rcases eT.mp hq with hq|hq
 .unfold iY at hq;split at hq
  .rename_i hc
   rw[i3] at hq;cases hq;exact⟨b,hb,rfl,by show 0<=c+1;lia,hc⟩
  .rcases eT.mp hq with z|z
   .obtain⟨o,ho,e⟩:=gz.mp z;split at e
    .cases e
    .rename_i hc
     cases e;rcases Eg ok.fwd b hb o ho with y|y
     .obtain⟨x,hx,ex⟩:=gz.mp y;exact⟨x,hx,ex,vy 0,by have:=(ok.bk x hx).lg.1;show 0<x.long;lia⟩
     .exact cu (Dz.mpr y) hc
   .split at z
    .rw[i3] at z;cases z;exact⟨b,hb,rfl,vy 0,by show 0<b.long;lia⟩
    .cases z
 .rw[i3] at hq;cases hq;exact⟨b,hb,rfl,c0,c1⟩
theorem Mp(ok:gd h)(v:VP h p):zf [.Y (cx h),.Y (aL p)]=some (.lst (((jk h p).map aB).map .Y),[none,none]):=by
 obtain⟨n,c⟩:=p;obtain⟨b,hb,e,_⟩:=v;dsimp only at e;subst e;rw[xD ok hb];exact X3 h ok b hb c
noncomputable def at'(p:Pl)(m:Int):Ct:=(p.1,p.2,m)
def rh(h:az)(aa:Str)(pl:Int)(p:Pl)(m:Int):List (Nd×Nd×Int):=
 (Nd.gi (at' p m),Nd.go (at' p m),1)::((if dA (.inl aa) (jk h p)=true then[(Nd.go (at' p m),Nd.en,pl)] else[])++(iV h p).map λq=>(Nd.go (at' p m),Nd.gi (at' q (m+1)),pl))
def cy(N:Net)(L:List (Nd×Nd×Int)):Net:=L.foldl (λN e=>fR N e.1 e.2.1 e.2.2) N
theorem Ej(N:Net)(L M:List (Nd×Nd×Int)):cy N (L++M)=cy (cy N L) M:=by unfold cy;rw[List.foldl_append]
theorem xp:∀(L:List (Nd×Nd×Int)) {N:Net} {k:Nat},Sz N k->Sz (cy N L) (k+4*L.length)
 |[],N,k,s=>s
 |e::L,N,k,s=>by
  have:=xp L (Q8 e.1 e.2.1 e.2.2 s);rw[jl,show k+4*(L.length+1)=k+4+4*L.length by lia]
  exact this
theorem Sz.mono(s:Sz N k)(h:k<=j):Sz N j:=⟨by have:=s.l;lia,λv i e=>by have:=s.i v i e;lia⟩
theorem Ye(ok:gd h){m:Int}(v:VP h p):(rh h aa pl p m).length<=33:=by
 unfold rh;rw[jl,fe,bO];have:=EI ok v;have:(if dA (.inl aa) (jk h p)=true then[(Nd.go (at' p m),Nd.en,pl)] else[]).length<=1:=by split <;> simp
 lia
theorem Bh(neg:Bool)(x:Sp)(as:List Sp):bR neg [.Y (aB x),.Y (.lst (as.map aB))]=some (.Y (.bl (if neg then !dA x as else dA x as))):=by
 have key:((ox (O.Y (.lst (as.map aB))).d).bind λds=>if cS 40 (O.Y (aB x)).d=true/\ds.all (cS 40)=true then some (O.Y (.bl (if neg then !ds.any λz=>bj z (O.Y (aB x)).d else ds.any λz=>bj z (O.Y (aB x)).d))) else none)=some (.Y (.bl (if neg then !dA x as else dA x as))):=by
  rw[bT,bT];show(Option.bind (some (as.map aB)) _)=_;rw[Option.bind_some,aY ⟨ub 39 x,Bz 39 as⟩,QZ]
 cases x with
 |inl y=>exact key
 |inr p=>exact key
theorem EJ(p:Pl)(m:Int):t_ [.Y (aL p),.Y (.int m)]=some (.tup [.Y (fQ (at' p m)),.Y (.str "into")],[none,none]):=ZJ p.1 p.2 m
theorem xP(c:Ct):D.tup [fQ c,.str "into"]=aT (.gi c):=rfl
theorem B7(c:Ct):D.tup [fQ c,.str "out of"]=aT (.go c):=rfl
theorem RJ(c:Ct):dU (.Y (aT (.gi c))) (.int 0)=some (.Y (fQ c)):=rfl
def nZ:GS:=jw (aH ua (aj (ae 0) (aj (ae 7) (aj (ay (aH t_ (aj (ae 10) (aj (ay (gB bY (ae 3) (gC (.int 1)))) gN)))) (aj (ae 5) gN)))))
def rY:GE:=jY (iX (ae 8)) (bu 0) (gk (gO gn (aj (ae 0) (aj (gC (.ty "tuple")) gN)))) (ae 0) 1 []
def uX:GS:=cw (gT (gB (bR false) (ae 4) (ae 8)))
  (jw (aH ua (aj (ae 0) (aj (ae 7) (aj (ay (gC (.str "the end"))) (aj (ae 5) gN))))))
  bw
def l_(h:az)(aa:Str)(pl:Int)(p:Pl)(m:Int)(N:Net)(a8 a9 bX:ak O):Gm:=
 [some (bV N),some (.Y (cx h)),some (.Y (aL p)),some (.Y (.int m)),some (fS aa),some (.Y (.int pl)),some (.Y (aT (.gi (at' p m)))),some (.Y (aT (.go (at' p m)))),a8,a9,bX]
theorem Ve(h:az)(aa:Str)(pl:Int)(p q:Pl)(m:Int)(N:Net)(k:Nat)(s:Sz N k)(hk:k<900000)(a8 a9:ak O):
  nZ (l_ h aa pl p m N a8 a9 (some (.Y (aL q))))=some (.nx,l_ h aa pl p m (fR N (.go (at' p m)) (.gi (at' q (m+1))) pl) a8 a9 (some (.Y (aL q)))):=by
 have e1:=EJ q (m+1);have e2:=FH N k (.go (at' p m)) (.gi (at' q (m+1))) pl s hk;unfold nZ l_;simp only[jv,fA,bp,bc,bf,↓ag,bt,cI,bD,bM,bq,bA,bB,bz,iw,bT,fz,fy,e1,fW,fV,jx,gy,fX,xP,ja,bG,e2,jH]
theorem Wq(h:az)(aa:Str)(pl:Int)(p:Pl)(m:Int)(N:Net)(k:Nat)(s:Sz N k)(hk:k<900000)(a9 bX:ak O):
  uX (l_ h aa pl p m N (some (.Y (.lst ((jk h p).map aB)))) a9 bX)=some (.nx,l_ h aa pl p m (cy N (if dA (.inl aa) (jk h p)=true then[(Nd.go (at' p m),Nd.en,pl)] else[])) (some (.Y (.lst ((jk h p).map aB)))) a9 bX):=by
 have e1:=Bh false (.inl aa) (jk h p);rw[show aB (.inl aa)=.str aa from rfl] at e1;have e2:=FH N k (.go (at' p m)) .en pl s hk;rw[show aT .en=.str "the end" from rfl] at e2;unfold uX l_;cases c:dA (.inl aa) (jk h p) with
 |true=>
  rw[c] at e1;simp only[dg,cF,bD,bp,bc,bt,bf,↓ag,bq,bA,bB,bz,e1,cW,cB,jv,fA,cI,bM,bT,ja,bG,fz,fy,e2,jH,fW,fV,dq,aZ];rfl
 |false=>
  rw[c] at e1;simp only[dg,cF,bD,bp,bc,bt,bf,↓ag,bq,bA,bB,bz,e1,cW,cB,jv,fA,cI,bM,bT,ja,bG,fz,fy,dq];rfl
theorem Vf(h:az)(ok:gd h)(aa:Str)(pl:Int)(p:Pl)(v:VP h p)(m:Int)(N:Net)(a9 bX:ak O):
  rY (l_ h aa pl p m N (some (.Y (.lst ((jk h p).map aB)))) a9 bX)=some (.own (.lst (((iV h p).map aL).map .Y)),l_ h aa pl p m N (some (.Y (.lst ((jk h p).map aB)))) a9 bX):=by
 have hl:=EH ok v;obtain⟨aw,⟨a,rfl⟩,e⟩:=tR (g:=bu 0) (ct:=gk (gO gn (aj (ae 0) (aj (gC (.ty "tuple")) gN)))) (ce:=ae 0) (λQ0=>∃a,Q0=[a]) aB (λs => !s.isLeft) aB (jk h p) [] [none] ⟨_,rfl⟩ (by rw[rq];lia) (by
  rintro s hs Q0 ⟨a,rfl⟩;refine⟨[some (.Y (aB s))],?_,_,rfl⟩;have f:=X2 s;unfold rF;cases q:s.isLeft with
  |true=>
   rw[q] at f;simp only[fU,bK,bH,bL,reduceLT,bG,aZ,↓ag,kI,bD,bp,bc,bf,bM,bq,bA,bB,bz,f,jR,oO,cW,cB]
  |false=>
   rw[q] at f;simp only[fU,bK,bH,bL,reduceLT,bG,aZ,↓ag,kI,bD,bp,bc,bf,bM,bq,bA,bB,bz,f,mU,oO])
 rw[gc,Jg] at e;rw[show([]:List D).map O.Y=[] from rfl] at e;unfold rY l_ iV;simp only[mY,qT,cI,bc,bt,bf,↓ag,bT,eV,eM,nF,eE,eG,e,bK,bH,bL,reduceAdd,oU,nt,nH,aZ]
theorem Yf(h:az)(aa:Str)(pl:Int)(p x:Pl)(m:Int)(N:Net)(a8 a9 iz:ak O):bu 10 (aL x) (l_ h aa pl p m N a8 a9 iz)=some (l_ h aa pl p m N a8 a9 (some (.Y (aL x)))):=by
 unfold l_;simp only[fU,bK,bH,bL,reduceAdd,reduceLT,ck,bG,aZ]
def zG(p:Pl)(m pl:Int)(q:Pl):Nd×Nd×Int:=(.go (at' p m),.gi (at' q (m+1)),pl)
theorem Og(N:Net)(L:List (Nd×Nd×Int))(e:Nd×Nd×Int):cy N (L++[e])=fR (cy N L) e.1 e.2.1 e.2.2:=Ej N L [e]
theorem Vg(h:az)(aa:Str)(pl:Int)(p:Pl)(m:Int)(N:Net)(k:Nat)(s:Sz N k)(hk:k<850000)(gs:List Pl)(hg:gs.length<=31)(a8 a9:ak O):
  ∃iz,fK (bu 10) nZ (gs.map aL) (l_ h aa pl p m N a8 a9 none)=some (.nx,l_ h aa pl p m (cy N (gs.map (zG p m pl))) a8 a9 iz):=by
 obtain⟨aw,e6,iz,rfl⟩:=mW (g:=bu 10) (f:=nZ) aL (λpre Q0=>∃iz:ak O,Q0=l_ h aa pl p m (cy N (pre.map (zG p m pl))) a8 a9 iz) gs []
  (l_ h aa pl p m N a8 a9 none) ⟨none,rfl⟩ (by
   rintro q x post Q0 eq ⟨iz,rfl⟩;rw[gc];have hq:gs.length=q.length+(post.length+1):=by rw[eq,fe,jl]
   have sq:=xp (q.map (zG p m pl)) s;rw[bO] at sq;have st:=Ve h aa pl p x m _ _ sq (by lia) a8 a9
   refine⟨l_ h aa pl p m (fR (cy N (q.map (zG p m pl))) (.go (at' p m)) (.gi (at' x (m+1))) pl) a8 a9 (some (.Y (aL x))),?_,some (.Y (aL x)),?_⟩
   .rw[Yf,Option.bind_some,st]
   .rw[jm,uo,Og];rfl)
 exact⟨iz,e6⟩
def qx(h:az)(aa:Str)(p:Pl)(m pl:Int):List (Nd×Nd×Int):=if dA (.inl aa) (jk h p)=true then[(Nd.go (at' p m),Nd.en,pl)] else[]
theorem Wr(h:az)(aa:Str)(p:Pl)(m pl:Int):(qx h aa p m pl).length<=1:=by unfold qx;split <;> simp
theorem Ul(h:az)(ok:gd h)(aa:Str)(pl:Int)(p:Pl)(v:VP h p)(m:Int)(N:Net)(k:Nat)(s:Sz N k)(hk:k<800000):
  DO [bV N,.Y (cx h),.Y (aL p),.Y (.int m),.Y (.str aa),.Y (.int pl)]=some (.Y (.lst ((iV h p).map aL)),[some (bV (cy N (rh h aa pl p m))),none,none,none,none,none]):=by
 have e1:=EJ p m;have e2:=FH N k (.gi (at' p m)) (.go (at' p m)) 1 s (by lia)
 have s1:=Q8 (.gi (at' p m)) (.go (at' p m)) 1 s;have e3:=Mp ok v;have e4:∀a9 bX,uX (l_ h aa pl p m (fR N (.gi (at' p m)) (.go (at' p m)) 1) (some (.Y (.lst ((jk h p).map aB)))) a9 bX)=some (.nx,l_ h aa pl p m (cy (fR N (.gi (at' p m)) (.go (at' p m)) 1) (qx h aa p m pl)) (some (.Y (.lst ((jk h p).map aB)))) a9 bX):=λa9 bX=>Wq h aa pl p m (fR N (.gi (at' p m)) (.go (at' p m)) 1) _ s1 (by lia) a9 bX
 have s2:=(xp (qx h aa p m pl) s1).mono (j:=k+8) (by have:=Wr h aa p m pl;lia)
 have eN:cy N (rh h aa pl p m)=cy (cy (fR N (.gi (at' p m)) (.go (at' p m)) 1) (qx h aa p m pl)) ((iV h p).map (zG p m pl)):=by
  rw[<-Ej];rfl
 rw[eN];generalize cy (fR N (.gi (at' p m)) (.go (at' p m)) 1) (qx h aa p m pl)=N2 at e4 s2 ⊢;have e5:=λa9 bX=>Vf h ok aa pl p v m N2 a9 bX
 obtain⟨iz,e6⟩:=Vg h aa pl p m N2 _ s2 (by lia) (iV h p) (EI ok v) (some (.Y (.lst ((jk h p).map aB)))) (some (.Y (.lst ((iV h p).map aL))))
 generalize cy N2 ((iV h p).map (zG p m pl))=N3 at e6 ⊢;generalize fR N (.gi (at' p m)) (.go (at' p m)) 1=N1 at e2 e4 ⊢;have me:HA=aR (aq 6 (ay (aH t_ (aj (ae 2) (aj (ae 3) gN)))))
  (aR (aq 7 (ay (bC .tup (aj (gB bJ (ae 6) (gC (.int 0))) (aj (gC (.str "out of")) gN))))) (aR (jw (aH ua (aj (ae 0) (aj (ae 6) (aj (ae 7) (aj (gC (.int 1)) gN)))))) (aR (aq 8 (ay (aH zf (aj (ae 1) (aj (ae 2) gN))))) (aR uX (aR (aq 9 (ay rY)) (aR (e8 (ae 9) (bu 10) nZ) (aW (ae 9)))))))):=rfl
 unfold l_ at e4 e5 e6;unfold DO;rw[me];simp only[gD,dY,dZ,bK,bH,bL,reduceAdd,reduceSub,eV,eM,eE,eG,cM,dN,cI,fA,bp,bc,bt,bf,↓ag,bq,fz,fy,e1,fW,fV,jx,gy,bT,fX,xP,reduceLT,ck,bG,aZ,fg,bD,bM,bA,bB,bz,cZ,RJ,reduceLeDiff,fO,d_,B7,jv,ja,e2,jH,e3,gG,rN,e4,e5,pU,e6,eS,h_,gL,gM,qW,gR,gE]
def nG(h:az)(P:List Pl)(aa:Str)(T pl:Int)(N:Net)(S:List Ct)(Q:List Pl)(a8 a9 bX cn:ak O):Gm:=
 [some (bV N),some (.Y (cx h)),some (.Y (.lst (P.map aL))),some (fS aa),some (.Y (.int T)),some (.Y (.int pl)),some (.lst ((S.map fQ).map .Y)),some (.Y (.lst (Q.map aL))),a8,a9,bX,cn]
section
variable(h:az)(P:List Pl)(aa:Str)(T pl:Int)
theorem Um(N:Net)(k:Nat)(s:Sz N k)(hk:k<900000)(S:List Ct)(Q:List Pl)(p:Pl)(a9 bX cn:ak O):
  By (nG h P aa T pl N S Q (some (.Y (aL p))) a9 bX cn)=some (.nx,nG h P aa T pl (fR N .st (.gi (at' p 0)) pl) S Q (some (.Y (aL p))) a9 bX cn):=by
 have e1:=EJ p 0;have e2:=FH N k .st (.gi (at' p 0)) pl s hk;rw[show aT .st=.str "the start" from rfl] at e2;unfold By nG;simp only[jv,fA,bp,bc,bf,↓ag,cI,bM,bT,bt,bq,fz,fy,e1,fW,fV,jx,gy,fX,xP,ja,bG,e2,jH]
theorem SG(N:Net)(S:List Ct)(Q:List Pl)(d:D)(a8 a9 bX cn:ak O):bu 8 d (nG h P aa T pl N S Q a8 a9 bX cn)=some (nG h P aa T pl N S Q (some (.Y d)) a9 bX cn):=by
 unfold nG;simp only[fU,bK,bH,bL,reduceAdd,reduceLT,ck,bG,aZ]
theorem nm9(N:Net)(S:List Ct)(Q:List Pl)(d:D)(a8 a9 bX cn:ak O):bu 9 d (nG h P aa T pl N S Q a8 a9 bX cn)=some (nG h P aa T pl N S Q a8 (some (.Y d)) bX cn):=by
 unfold nG;simp only[fU,bK,bH,bL,reduceAdd,reduceLT,ck,bG,aZ]
theorem LP(N:Net)(S:List Ct)(Q:List Pl)(d:D)(a8 a9 bX cn:ak O):bu 11 d (nG h P aa T pl N S Q a8 a9 bX cn)=some (nG h P aa T pl N S Q a8 a9 bX (some (.Y d))):=by
 unfold nG;simp only[fU,bK,bH,bL,reduceAdd,reduceLT,ck,bG,aZ]
def tH(pl:Int)(p:Pl):Nd×Nd×Int:=(.st,.gi (at' p 0),pl)
theorem Uo(N:Net)(k:Nat)(s:Sz N k)(hk:k<800000)(S:List Ct)(Q:List Pl)(ps:List Pl)(hp:ps.length<=100)(a9 bX cn:ak O):
  ∃b8,fK (bu 8) By (ps.map aL) (nG h P aa T pl N S Q none a9 bX cn)=some (.nx,nG h P aa T pl (cy N (ps.map (tH pl))) S Q b8 a9 bX cn):=by
 obtain⟨aw,e6,b8,rfl⟩:=mW (g:=bu 8) (f:=By) aL (λpre Q0=>∃b8:ak O,Q0=nG h P aa T pl (cy N (pre.map (tH pl))) S Q b8 a9 bX cn) ps []
  (nG h P aa T pl N S Q none a9 bX cn) ⟨none,rfl⟩ (by
   rintro q x post Q0 eq ⟨b8,rfl⟩;rw[gc];have hq:ps.length=q.length+(post.length+1):=by rw[eq,fe,jl]
   have sq:=xp (q.map (tH pl)) s;rw[bO] at sq;have st:=Um h P aa T pl _ _ sq (by lia) S Q x a9 bX cn
   refine⟨nG h P aa T pl (fR (cy N (q.map (tH pl))) .st (.gi (at' x 0)) pl) S Q (some (.Y (aL x))) a9 bX cn,?_,some (.Y (aL x)),?_⟩
   .rw[SG,Option.bind_some,st]
   .rw[jm,uo,Og];rfl)
 exact⟨b8,e6⟩
theorem Ws(N:Net)(S:List Ct)(Q:List Pl)(ks:List Pl)(hl:ks.length<1000000)(q:Pl)(a8 a9:ak O):
  tm (nG h P aa T pl N S Q a8 a9 (some (.aI (km lB ks))) (some (.Y (aL q))))=some (.nx,nG h P aa T pl N S Q a8 a9 (some (.aI (km lB (jb ks q)))) (some (.Y (aL q)))):=by
 have e:=ZO lB Yd (aL q) q (Rf q) ks hl;unfold tm nG;simp only[qu,bM,↓ag,bc,bt,bf,e,ck,bG]
theorem Wt(N:Net)(S:List Ct)(Q:List Pl)(ks gs:List Pl)(hl:ks.length+gs.length<1000000)(a8 a9 cn:ak O):
  ∃ia,fK (bu 11) tm (gs.map aL) (nG h P aa T pl N S Q a8 a9 (some (.aI (km lB ks))) cn)=some (.nx,nG h P aa T pl N S Q a8 a9 (some (.aI (km lB (dD ks gs)))) ia):=by
 obtain⟨aw,e6,ia,rfl⟩:=mW (g:=bu 11) (f:=tm) aL (λpre Q0=>∃ia:ak O,Q0=nG h P aa T pl N S Q a8 a9 (some (.aI (km lB (dD ks pre)))) ia) gs []
  (nG h P aa T pl N S Q a8 a9 (some (.aI (km lB ks))) cn) ⟨cn,rfl⟩ (by
   rintro q x post Q0 eq ⟨ia,rfl⟩;rw[gc];have hq:gs.length=q.length+(post.length+1):=by rw[eq,fe,jl]
   have hk:=H9 (cs:=q) (ks:=ks);have st:=Ws h P aa T pl N S Q (dD ks q) (by lia) x a8 a9
   refine⟨nG h P aa T pl N S Q a8 a9 (some (.aI (km lB (jb (dD ks q) x)))) (some (.Y (aL x))),?_,some (.Y (aL x)),?_⟩
   .rw[LP,Option.bind_some,st]
   .rw[Of];rfl)
 exact⟨ia,e6⟩
theorem ZP(p:Pl):dU (.Y (aL p)) (.int 0)=some (.Y (.str p.1)):=rfl
theorem ZQ(p:Pl):dU (.Y (aL p)) (.int 1)=some (.Y (.int p.2)):=rfl
theorem U'(p:Pl)(m:Int):D.tup [.str p.1,.int p.2,.int m]=fQ (at' p m):=rfl
theorem Yg(ok:gd h)(N:Net)(k:Nat)(s:Sz N k)(hk:k<800000)(S:List Ct)(hS:S.length<1000000)(Q:List Pl)(ks:List Pl)(hl:ks.length<900000)(p:Pl)(v:VP h p)(m:Int)(cn:ak O):
  ∃ia,CP (nG h P aa T pl N S Q (some (.Y (aL p))) (some (.Y (.int m))) (some (.aI (km lB ks))) cn)=some (.nx,nG h P aa T pl (cy N (rh h aa pl p m)) (S++[at' p m]) Q (some (.Y (aL p))) (some (.Y (.int m))) (some (.aI (km lB (dD ks (iV h p))))) ia):=by
 have e1:=Ul h ok aa pl p v m N k s hk;have gl:=EI ok v;obtain⟨ia,e2⟩:=Wt h P aa T pl (cy N (rh h aa pl p m)) (S++[at' p m]) Q ks (iV h p) (by lia) (some (.Y (aL p))) (some (.Y (.int m))) cn
 refine⟨ia,?_⟩;generalize cy N (rh h aa pl p m)=N1 at e1 e2 ⊢;have c1:((S.map fQ).length<1000000)=True:=ke (by rw[bO];exact hS)
 unfold nG at e2 ⊢;rw[jm (f:=fQ),uo] at e2 ⊢;unfold CP;simp only[cM,jv,lF,bc,bt,bf,↓ag,bp,cI,fg,bD,bM,bq,bA,bB,bz,cZ,ZP,ZQ,bK,bH,bL,reduceAdd,reduceLeDiff,fO,d_,aZ,jx,gy,bT,fX,U',pV,c1,ck,bG,pU,fA,ja,fz,fy,e1,jH,fW,fV,e2]
def jh(Q:List Pl)(m:Int):List (Nd×Nd×Int):=Q.flatMap λp=>rh h aa pl p m
theorem Yh(ok:gd h)(N:Net)(k:Nat)(s:Sz N k)(S:List Ct)(hS:S.length<100000)(Q qs:List Pl)(hv:∀p,p∈qs->VP h p)(hq:qs.length<=150)(hk:k<700000)(m:Int)(a8 cn:ak O):
  ∃b8 ia,fK (bu 8) CP (qs.map aL) (nG h P aa T pl N S Q a8 (some (.Y (.int m))) (some (.aI (km lB []))) cn)=some (.nx,nG h P aa T pl (cy N (jh h aa pl qs m)) (S++qs.map (at' · m)) Q b8 (some (.Y (.int m))) (some (.aI (km lB (dD [] (qs.flatMap (iV h)))))) ia)/\(jh h aa pl qs m).length<=33*qs.length/\(qs.flatMap (iV h)).length<=31*qs.length:=by
 obtain⟨aw,e6,b8,ia,rfl,l1,l2⟩:=mW (g:=bu 8) (f:=CP) aL (λpre Q0=>∃b8 ia:ak O,Q0=nG h P aa T pl (cy N (jh h aa pl pre m)) (S++pre.map (at' · m)) Q b8 (some (.Y (.int m))) (some (.aI (km lB (dD [] (pre.flatMap (iV h)))))) ia/\(jh h aa pl pre m).length<=33*pre.length/\(pre.flatMap (iV h)).length<=31*pre.length) qs []
  (nG h P aa T pl N S Q a8 (some (.Y (.int m))) (some (.aI (km lB []))) cn) ⟨a8,cn,by rw[mT,lR];rfl,cX _,cX _⟩ (by
   rintro q x post Q0 eq ⟨b8,ia,rfl,l1,l2⟩;rw[gc] at l1 l2 ⊢;have hx:=hv x (by rw[eq];simp)
   have hq2:qs.length=q.length+(post.length+1):=by rw[eq,fe,jl]
   have sq:=xp (jh h aa pl q m) s;have zL:=H9 (cs:=q.flatMap (iV h)) (ks:=[]);rw[rq] at zL;obtain⟨pZ,st⟩:=Yg h P aa T pl ok _ _ sq (by lia) (S++q.map (at' · m)) (by rw[fe,bO];lia) Q (dD [] (q.flatMap (iV h))) (by lia) x hx m ia
   have g1:=EI ok hx;have g2:=Ye ok (aa:=aa) (pl:=pl) (m:=m) hx;have f1:jh h aa pl (q++[x]) m=jh h aa pl q m++rh h aa pl x m:=by
    unfold jh;rw[List.flatMap_append,List.flatMap_singleton]
   have f2:(q++[x]).flatMap (iV h)=q.flatMap (iV h)++iV h x:=by
    rw[List.flatMap_append,List.flatMap_singleton]
   refine⟨_,by rw[SG,Option.bind_some,st],some (.Y (aL x)),pZ,?_,?_,?_⟩
   .rw[f1,f2,Ej,Of,jm,uo,iN]
   .rw[f1,fe,fe,lC];lia
   .rw[f2,fe,fe,lC];lia)
 exact⟨b8,ia,e6,l1,l2⟩
def yl(Q:List Pl):List Pl:=dD [] (Q.flatMap (iV h))
theorem Ls(ks:List Pl):(km lB ks).map (·.1.d)=ks.map aL:=by
 unfold km;rw[mE];exact Hb λp _=>(nI (Rf p)).1
theorem Wu(kvs:List (TK×O)):Bw [.aI kvs]=some (.lst ((kvs.map (·.1.d)).map .Y)):=rfl
theorem ZR(ok:gd h)(N:Net)(k:Nat)(s:Sz N k)(S:List Ct)(hS:S.length<100000)(Q:List Pl)(hv:∀p,p∈Q->VP h p)(hq:Q.length<=150)(hk:k<700000)(m:Int)(a8 bX cn:ak O):
  ∃b8 iz ia,sI (nG h P aa T pl N S Q a8 (some (.Y (.int m))) bX cn)=some (.nx,nG h P aa T pl (cy N (jh h aa pl Q m)) (S++Q.map (at' · m)) (yl h Q) b8 (some (.Y (.int m))) iz ia)/\(jh h aa pl Q m).length<=33*Q.length:=by
 obtain⟨b8,ia,e,l1,l2⟩:=Yh h P aa T pl ok N k s S hS Q Q hv hq hk m a8 cn;refine⟨b8,some (.aI (km lB (yl h Q))),ia,?_,l1⟩;have e2:=Ls (yl h Q);rw[show dD [] (Q.flatMap (iV h))=yl h Q from rfl] at e;generalize yl h Q=Q' at e e2 ⊢;generalize cy N (jh h aa pl Q m)=N1 at e ⊢;rw[show km lB []=[] from rfl] at e;unfold nG at e ⊢;unfold sI;simp only[cM,dN,Ea,↓ag,bK,bH,bL,reduceAdd,reduceLT,ck,bG,aZ,pU,cI,bc,bt,bf,bT,e,bD,bp,bq,bA,iC,fN,bz,Wu,e2,gG,rN]
def nw:Nat->List Pl
 |0=>P
 |m+1=>yl h (nw m)
noncomputable def lH:Nat->List (Nd×Nd×Int)
 |0=>P.map (tH pl)
 |m+1=>lH m++jh h aa pl (nw h P m) (m:Int)
noncomputable def gr:Nat->List Ct
 |0=>[]
 |m+1=>gr m++(nw h P m).map (at' · (m:Int))
end
noncomputable def v5(h:az):List Pl:=h.aF.flatMap λb=>(List.range b.long.toNat).map λ(i:Nat)=>(b.name,(i:Int))
theorem Wv(v:VP h p):p∈v5 h:=by
 obtain⟨b,hb,e,c0,c1⟩:=v;unfold v5;rw[MI];refine⟨b,hb,?_⟩;rw[gz];refine⟨p.2.toNat,rn.mpr (by lia),?_⟩
 obtain⟨n,c⟩:=p;dsimp only at e c0 ⊢;rw[e,Int.toNat_of_nonneg c0]
theorem OY(L:Nat):∀bs:List aX,(∀b∈bs,b.long<=L)->(bs.flatMap λb=>(List.range b.long.toNat).map λ(i:Nat)=>(b.name,(i:Int))).length<=L*bs.length
 |[],_=>nq _
 |b::bs,hb=>by
  have ih:=OY L bs λb m=>hb b (.tail _ m)
  have h1:=hb b (.head _);rw[List.flatMap_cons,fe,bO,oH,jl,Nat.mul_add];lia
theorem Fc(ok:gd h){Q:List Pl}(nd:Q.Nodup)(v:∀p,p∈Q->VP h p):Q.length<=30:=by
 obtain⟨L,hL,R3⟩:=ok.tl;have h1:=uD nd λp m=>Wv (v p m)
 have h2:=OY L h.aF hL;rw[Nat.mul_comm] at h2;exact k_ h1 (k_ h2 R3)
theorem FI{h:az}(ok:gd h){P:List Pl}(nd:P.Nodup)(v:∀p,p∈P->VP h p):∀m,(nw h P m).Nodup/\∀p,p∈nw h P m->VP h p
 |0=>⟨nd,v⟩
 |m+1=>by
  obtain⟨i1,i2⟩:=FI ok nd v m;refine⟨M4 (by simp),λp hp=>?_⟩
  rcases jL.mp hp with z|z
  .cases z
  .obtain⟨q,hq,z⟩:=MI.mp z;exact AR ok (i2 q hq) z
theorem OZ{n:Nat}{q:List Nat}(e:List.range n=q++x::post):x=q.length:=by
 have h1:(List.range n)[q.length]?=some x:=by rw[e];simp
 rw[Mz] at h1
 .injection h1 with h1;exact h1.symm
 .have:=congrArg List.length e;rw[oH,fe,jl] at this;lia
theorem Ww(ok:gd h)(nd:P.Nodup)(v:∀p,p∈P->VP h p)(aa:Str)(T pl:Int)(n:Nat)(hn:n<=160)(hP:P.length<=20)(b8:ak O)(s0:Sz (cy [(.st,[])] (P.map (tH pl))) 1000):
  ∃c8 c9 qX pZ,fK (bu 9) sI (gq 0 n) (nG h P aa T pl (cy [(.st,[])] (lH h P aa pl 0)) [] P b8 none none none)=some (.nx,nG h P aa T pl (cy [(.st,[])] (lH h P aa pl n)) (gr h P n) (nw h P n) c8 c9 qX pZ)/\Sz (cy [(.st,[])] (lH h P aa pl n)) (1000+4000*n):=by
 rw[tT];obtain⟨aw,e6,c8,c9,qX,pZ,rfl,sz,sl⟩:=mW (g:=bu 9) (f:=sI) (λ(k:Nat)=>D.int (0+(k:Int))) (λpre Q0=>∃c8 c9 qX pZ:ak O,Q0=nG h P aa T pl (cy [(.st,[])] (lH h P aa pl pre.length)) (gr h P pre.length) (nw h P pre.length) c8 c9 qX pZ/\Sz (cy [(.st,[])] (lH h P aa pl pre.length)) (1000+4000*pre.length)/\(gr h P pre.length).length<=200*pre.length) (List.range n) []
  (nG h P aa T pl (cy [(.st,[])] (lH h P aa pl 0)) [] P b8 none none none) ⟨b8,none,none,none,rfl,s0,cX _⟩ (by
   rintro q x post Q0 eq ⟨c8,c9,qX,pZ,rfl,sz,sl⟩;rw[gc] at sz sl ⊢;have hx:=OZ eq;subst hx;have hq2:n=q.length+(post.length+1):=by
    have:=congrArg List.length eq;rw[oH,fe,jl] at this;exact this
   rw[fe,lC];obtain⟨o1,o2⟩:=FI ok nd v q.length;have hl:=Fc ok o1 o2;rw[Int.zero_add];have ee:lH h P aa pl (q.length+1)=lH h P aa pl q.length++jh h aa pl (nw h P q.length) (q.length:Int):=rfl;have es:gr h P (q.length+1)=gr h P q.length++(nw h P q.length).map (at' · (q.length:Int)):=rfl
   have en:nw h P (q.length+1)=yl h (nw h P q.length):=rfl;rw[ee,es,en,Ej];generalize(q.length:Int)=mi at *;obtain⟨d8,BP,BQ,st,lm⟩:=ZR h P aa T pl ok _ _ sz (gr h P q.length) (by lia) (nw h P q.length) o2 (by lia) (by lia) mi c8 qX pZ
   refine⟨_,by rw[nm9,Option.bind_some,st],_,_,_,_,rfl,(xp _ sz).mono (by lia),?_⟩
   rw[fe,bO];lia)
 rw[gc,oH] at *;exact⟨c8,c9,qX,pZ,e6,sz⟩
theorem Vh(ok:gd h)(nd:P.Nodup)(v:∀p,p∈P->VP h p)(aa:Str)(T pl:Int)(n:Nat)(hT:T=n)(hn:n<=160)(hP:P.length<=20)(kl:(P.length:Int)+1=pl):
  DV [bV [(.st,[])],.Y (cx h),.Y (.lst (P.map aL)),.Y (.str aa),.Y (.int T)]=some (.lst (((gr h P n).map fQ).map .Y),[some (bV (cy [(.st,[])] (lH h P aa pl n))),none,none,none,none])/\Sz (cy [(.st,[])] (lH h P aa pl n)) 700000:=by
 have SO:Sz [(Nd.st,([]:ql))] 0:=⟨cX _,λv i e=>by
  rw[lx] at e;split at e
  .cases e;exact cX _
  .cases e⟩
 obtain⟨b8,e1⟩:=Uo h P aa T pl [(.st,[])] 0 SO (by lia) [] P P (by lia) none none none
 have s0:=(xp (P.map (tH pl)) SO).mono (j:=1000) (by rw[bO];lia)
 obtain⟨c8,c9,qX,pZ,e2,sz⟩:=Ww ok nd v aa T pl n hn hP b8 s0;refine⟨?_,sz.mono (by lia)⟩
 have u4:((P.map aL).length:Int)+1=pl:=by rw[bO];exact kl
 have hi:iW [.own (.Y (.int T))]=some T:=vJ (by lia)
 have ht:T.toNat=n:=by rw[hT];rfl
 rw[show lH h P aa pl 0=P.map (tH pl) from rfl] at e2;generalize cy [(.st,[])] (P.map (tH pl))=N1 at e1 e2;generalize cy [(.st,[])] (lH h P aa pl n)=N2 at e2 ⊢;generalize gr h P n=S at e2 ⊢;generalize nw h P n=Q2 at e2;unfold nG at e1 e2;rw[show([]:List Ct).map fQ=[] from rfl,show([]:List D).map O.Y=[] from rfl] at e1 e2;unfold DV;unfold HX;simp only[gD,dY,dZ,bK,bH,bL,reduceAdd,reduceSub,eV,eM,eE,eG,cM,dN,cI,bD,bp,bc,bt,bf,↓ag,bq,bA,bB,bz,uM,bT,vM,↓evMap,bM,iw,u4,reduceLT,ck,bG,aZ,fg,reduceLeDiff,d_,pU,e1,zy,hi,ht,e2,eS,rK,h_,gL,gM,qW,gR,gE]
inductive iT (h:az) (P:List Pl) (aa:Str) (n:Nat):Nd->Nd->Bool->Prop
 |s {p:Pl}:p∈P->iT h P aa n .st (.gi (at' p 0)) false
 |g {m:Nat} {p:Pl}:m<n->p∈nw h P m->iT h P aa n (.gi (at' p m)) (.go (at' p m)) true
 |e {m:Nat} {p:Pl}:m<n->p∈nw h P m->dA (.inl aa) (jk h p)=true->iT h P aa n (.go (at' p m)) .en false
 |w {m:Nat} {p q:Pl}:m<n->p∈nw h P m->q∈iV h p->iT h P aa n (.go (at' p m)) (.gi (at' q (m+1))) false
def cp(pl:Int)(b:Bool):Int:=if b=true then 1 else pl
theorem Qj{h:az}{P:List Pl}{aa:Str}{pl:Int}{e:Nd×Nd×Int}:∀{n:Nat},e∈lH h P aa pl n↔e∈P.map (tH pl)\/∃m,m<n/\∃p∈nw h P m,e∈rh h aa pl p m
 |0=>⟨.inl,λz=>z.elim id λ⟨m,hm,_⟩=>cu hm (He _)⟩
 |n+1=>by
  show e∈lH h P aa pl n++jh h aa pl (nw h P n) (n:Int)↔_;rw[eT,Qj,or_assoc];unfold jh;rw[MI];constructor
  .rintro(z|⟨m,hm,z⟩|⟨p,hp,z⟩)
   .exact .inl z
   .exact .inr ⟨m,by lia,z⟩
   .exact .inr ⟨n,by lia,p,hp,z⟩
  .rintro(z|⟨m,hm,p,hp,z⟩)
   .exact .inl z
   .by_cases c:m=n
    .subst c;exact .inr (.inr ⟨p,hp,z⟩)
    .exact .inr (.inl ⟨m,by lia,p,hp,z⟩)
theorem fD{n:Nat}{r:Int}:(v,w,r)∈lH h P aa pl n↔∃b,iT h P aa n v w b/\r=cp pl b:=by
 rw[Qj];constructor
 .rintro(z|⟨m,hm,p,hp,z⟩)
  .obtain⟨p,hp,e⟩:=gz.mp z;unfold tH at e;cases e;exact⟨false,.s hp,rfl⟩
  .unfold rh at z;rcases eX.mp z with z|z
   .cases z;exact⟨true,.g hm hp,rfl⟩
   .rcases eT.mp z with z|z
    .split at z
     .rename_i c
      rw[i3] at z;cases z;exact⟨false,.e hm hp c,rfl⟩
     .cases z
    .obtain⟨q,hq,e⟩:=gz.mp z;cases e;exact⟨false,.w hm hp hq,rfl⟩
 .rintro⟨b,e,rfl⟩;cases e with
  |@s p hp=>exact .inl (gz.mpr ⟨p,hp,rfl⟩)
  |@g m p hm hp=>exact .inr ⟨m,hm,p,hp,.head _⟩
  |@e m p hm hp c=>exact .inr ⟨m,hm,p,hp,by
    unfold rh;refine .tail _ (eT.mpr (.inl ?_));rw[aY c];exact .head _⟩
  |@w m p q hm hp hq=>exact .inr ⟨m,hm,p,hp,.tail _ (eT.mpr (.inr (gz.mpr ⟨q,hq,rfl⟩)))⟩
theorem o8{m k:Int}(e:at' p m=at' q k):p=q/\m=k:=by
 obtain⟨a,b⟩:=p;obtain⟨c,d⟩:=q;unfold at' at e;injection e with e1 e;injection e with e2 e3;dsimp only at e1 e2;rw[e1,e2];exact⟨rfl,e3⟩
section
variable{h:az}{P:List Pl}{aa:Str}{n:Nat}
theorem Rg{b:Bool}(e:iT h P aa n v w b):v≠w:=by cases e <;> exact λz=>by cases z
def Cr:Nd->Bool
 |.gi _=>true
 |_=>false
theorem Kj{b:Bool}(e:iT h P aa n v w b):b=Cr v:=by cases e <;> rfl
theorem Yi{b:Bool}(e:iT h P aa n v w b)(e':iT h P aa n v w b'):b=b':=(Kj e).trans (Kj e').symm
theorem Ek{b:Bool}(e:iT h P aa n v w b)(e':iT h P aa n w v b'):False:=by
 generalize hx:v=x at e';generalize hy:w=y at e';cases e with
 |s _=>cases e' <;> cases hx <;> cases hy
 |@g m p _ _=>
  cases e' with
  |@w m2 p2 q2 _ _ _=>
   injection hx with hx;injection hy with hy;have h1:=(o8 hx).2;have h2:=(o8 hy).2;lia
  |_=>first|cases hx|cases hy
 |e _ _ _=>cases e' <;> first|cases hx|cases hy
 |@w m p q _ _ _=>
  cases e' with
  |@g m2 p2 _ _=>
   injection hx with hx;injection hy with hy;have h1:=(o8 hx).2;have h2:=(o8 hy).2;lia
  |_=>first|cases hx|cases hy
end
theorem Oh{h:az}{P:List Pl}{aa:Str}{n:Nat}{pl:Int}:∀(L' L:List (Nd×Nd×Int)) (N:Net),Laid N L->(∀v w r,(v,w,r)∈L++L'->∃b,iT h P aa n v w b/\r=cp pl b)->Laid (cy N L') (L++L')
 |[],L,N,l,_=>by rw[lR];exact l
 |(a,b,r)::L',L,N,l,hs=>by
  have e:L++(a,b,r)::L'=(L++[(a,b,r)])++L':=by rw[iN];rfl
  rw[e] at hs ⊢;obtain⟨t,et,rt⟩:=hs a b r (eT.mpr (.inl (eT.mpr (.inr (.head _)))));refine Oh L' (L++[(a,b,r)]) (fR N a b r) (l.lay (Rg et) (λr' m=>?_) λr' m=>?_) hs
  .obtain⟨t',Kr,SM⟩:=hs a b r' (eT.mpr (.inl (eT.mpr (.inl m))));rw[rt,SM,Yi et Kr]
  .obtain⟨t',Kr,SM⟩:=hs b a r' (eT.mpr (.inl (eT.mpr (.inl m))));exact Ek et Kr
structure Nt (h:az) (P:List Pl) (aa:Str) (n:Nat) (pl:Int) (N:Net):Prop where
 ok:nv N
 ar:∀v w,kg N v w↔(∃b,iT h P aa n v w b)\/∃b,iT h P aa n w v b
 rm:∀v w b,iT h P aa n v w b->rr N v w=cp pl b
 rz:∀v w,(∀b,¬iT h P aa n v w b)->rr N v w=0
 ky:∀v,v∈N.map (·.1)↔v=.st\/∃w b,iT h P aa n v w b\/iT h P aa n w v b
theorem e8r{n:Nat}(s:Sz (cy [(.st,[])] (lH h P aa pl n)) 700000):Nt h P aa n pl (cy [(.st,[])] (lH h P aa pl n)):=by
 have l:=Oh (h:=h) (P:=P) (aa:=aa) (n:=n) (pl:=pl) (lH h P aa pl n) [] [(.st,[])] Cw λv w r m=>fD.mp (by simpa using m)
 rw[gc] at l;generalize cy [(.st,[])] (lH h P aa pl n)=N at *;have ar:∀v w,kg N v w↔(∃b,iT h P aa n v w b)\/∃b,iT h P aa n w v b:=λv w=>by
  rw[l.ar];constructor
  .rintro(⟨r,z⟩|⟨r,z⟩)
   .obtain⟨b,e,_⟩:=fD.mp z;exact .inl ⟨b,e⟩
   .obtain⟨b,e,_⟩:=fD.mp z;exact .inr ⟨b,e⟩
  .rintro(⟨b,e⟩|⟨b,e⟩)
   .exact .inl ⟨_,fD.mpr ⟨b,e,rfl⟩⟩
   .exact .inr ⟨_,fD.mpr ⟨b,e,rfl⟩⟩
 have ky:∀v,v∈N.map (·.1)↔v=.st\/∃w b,iT h P aa n v w b\/iT h P aa n w v b:=λv=>by
  rw[l.ky];constructor
  .rintro(z|⟨w,r,z|z⟩)
   .exact .inl z
   .obtain⟨b,e,_⟩:=fD.mp z;exact .inr ⟨w,b,.inl e⟩
   .obtain⟨b,e,_⟩:=fD.mp z;exact .inr ⟨w,b,.inr e⟩
  .rintro(z|⟨w,b,z|z⟩)
   .exact .inl z
   .exact .inr ⟨w,_,.inl (fD.mpr ⟨b,z,rfl⟩)⟩
   .exact .inr ⟨w,_,.inr (fD.mpr ⟨b,z,rfl⟩)⟩
 refine⟨⟨λv w z=>?_,(ky _).mpr (.inl rfl),l.nd,l.ni,by have:=s.l;lia,λv i e=>by have:=s.i v i e;lia⟩,ar,λv w b e=>l.rm v w _ (fD.mpr ⟨b,e,rfl⟩),λv w z=>l.rz v w λr m=>?_,ky⟩
 .rw[ar] at z ⊢;exact z.symm
 .obtain⟨b,e,_⟩:=fD.mp m;exact z b e
def VV(N:Net):List Nd:=(iR N .en).map (·.1)
section
variable{h:az}{P:List Pl}{aa:Str}{n:Nat}{pl:Int}{N:Net}
theorem Nt.off(t:Nt h P aa n pl N)(z:v∉VV N\/w∉VV N):∀b,¬iT h P aa n v w b:=by
 intro b e;rcases z with z|z
 .exact z ((oK ..).mpr (.inl ((t.ky v).mpr (.inr ⟨w,b,.inl e⟩))))
 .exact z ((oK ..).mpr (.inl ((t.ky w).mpr (.inr ⟨v,b,.inr e⟩))))
theorem Nt.nn(t:Nt h P aa n pl N)(hp:0<=pl)(v w:Nd):0<=rr N v w:=by
 by_cases c:∃b,iT h P aa n v w b
 .obtain⟨b,e⟩:=c;rw[t.rm v w b e];unfold cp;split <;> lia
 .rw[t.rz v w λb e=>c ⟨b,e⟩];exact vy 0
theorem Nt.flo(t:Nt h P aa n pl N)(hp:0<=pl):jS (VV N) .st .en (rr N) (rr N) where
 nn:=t.nn hp
 an v b:=by lia
 cs v m h1 h2:=zg λb _=>by lia
 sp v b z:=⟨t.rz v b (t.off z),t.rz v b (t.off z)⟩
 ns:=λz=>by cases z
 ms:=(oK ..).mpr (.inl t.ok.st)
 mt:=(oK ..).mpr (.inr rfl)
 nd:=JQ _ t.ok.nd
theorem vZ{f g:Nd->Int}:∀{l:List Nd},(∀v,v∈l->f v<=g v)->sm f l<=sm g l
 |[],_=>vy 0
 |v::l,h=>by
  have h1:=h v (.head _);have h2:=vZ λv m=>h v (.tail _ m)
  show f v+sm f l<=g v+sm g l;lia
variable{r:Nd->Nd->Int}
theorem Nt.pos(t:Nt h P aa n pl N)(F:jS (VV N) .st .en (rr N) r)(z:0<rr N v w - r v w):∃b,iT h P aa n v w b:=by
 refine oV λc=>?_
 have e:=t.rz v w λb e=>c ⟨b,e⟩
 have:=F.nn v w;lia
theorem Fd{b:Bool}(e:iT h P aa n (.gi c) w b):w=.go c/\b=true/\∃m p,m<n/\p∈nw h P m/\c=at' p m:=by
 generalize hx:Nd.gi c=x at e;cases e with
 |@g m p hm hp=>injection hx with hx;subst hx;exact⟨rfl,rfl,m,p,hm,hp,rfl⟩
 |_=>cases hx
theorem Nt.yF(t:Nt h P aa n pl N)(F:jS (VV N) .st .en (rr N) r){u:Nd}(z:0<rr N u (.gi c) - r u (.gi c)):rr N u (.gi c) - r u (.gi c)<=rr N (.gi c) (.go c) - r (.gi c) (.go c)/\rr N (.gi c) (.go c) - r (.gi c) (.go c)=1/\r (.gi c) (.go c)=0/\∃m p,m<n/\p∈nw h P m/\c=at' p m:=by
 obtain⟨b,e⟩:=t.pos F z;have hu:u∈VV N:=(oK ..).mpr (.inl ((t.ky u).mpr (.inr ⟨_,b,.inl e⟩)));have hc:Nd.gi c∈VV N:=(oK ..).mpr (.inl ((t.ky _).mpr (.inr ⟨_,b,.inr e⟩)));have cs:=F.cs (.gi c) hc (λz=>by cases z) (λz=>by cases z)
 have ug:u≠.go c:=λq=>by
  rw[q] at e;have hx:=Rg e;generalize hx:Nd.go c=x at e;generalize hy:Nd.gi c=y at e;cases e with
  |@w m p q _ _ _=>
   injection hx with hx;injection hy with hy;have:=(o8 (hx.symm.trans hy)).2;lia
  |_=>first|(cases hy;done)|(cases hx;done)
 have an:=F.an u (.gi c);have key:sm (λb=>rr N (.gi c) b - r (.gi c) b) (VV N)<=sm (λb=>(if b=.go c then rr N (.gi c) (.go c) - r (.gi c) (.go c) else 0)+(if b=u then rr N (.gi c) u - r (.gi c) u else 0)) (VV N):=vZ λb _=>by
  by_cases c1:b=.go c
  .rw[aY c1,bb (λq=>ug (q.symm.trans c1)),c1];lia
  .rw[bb c1];by_cases c2:b=u
   .rw[aY c2,c2];lia
   .rw[bb c2];refine Int.not_lt.mp λq=>?_
    obtain⟨b',e'⟩:=t.pos F (v:=.gi c) (w:=b) (by lia)
    exact c1 (Fd e').1
 rw[cs,xB,tV _ F.nd,tV _ F.nd,aY hu] at key;by_cases m:Nd.go c∈VV N
 .rw[aY m] at key;obtain⟨b',e'⟩:=t.pos F (v:=.gi c) (w:=.go c) (by lia)
  obtain⟨_,rfl,mp⟩:=Fd e';have h1:=t.rm _ _ _ e';have h2:=F.nn (.gi c) (.go c);have h3:cp pl true=1:=rfl;exact⟨by lia,by lia,by lia,mp⟩
 .rw[bb m] at key;lia
theorem Nt.on(t:Nt h P aa n pl N)(F:jS (VV N) .st .en (rr N) r)(z:0<rr N (.gi c) (.go c) - r (.gi c) (.go c)):∃w,0<rr N (.go c) w - r (.go c) w:=by
 obtain⟨b,e⟩:=t.pos F z;have hc:Nd.go c∈VV N:=(oK ..).mpr (.inl ((t.ky _).mpr (.inr ⟨_,b,.inr e⟩)));have hg:Nd.gi c∈VV N:=(oK ..).mpr (.inl ((t.ky _).mpr (.inr ⟨_,b,.inl e⟩)));have cs:=F.cs (.go c) hc (λz=>by cases z) (λz=>by cases z)
 refine oV λq=>?_
 have an:=F.an (.gi c) (.go c);have key:sm (λb=>rr N (.go c) b - r (.go c) b) (VV N)<=sm (λb=>if b=.gi c then rr N (.go c) (.gi c) - r (.go c) (.gi c) else 0) (VV N):=vZ λb _=>by
  by_cases c1:b=.gi c
  .rw[aY c1,c1];exact vy _
  .rw[bb c1];exact Int.not_lt.mp λy=>q ⟨b,y⟩
 rw[cs,tV _ F.nd,aY hg] at key;lia
theorem Nt.from(t:Nt h P aa n pl N)(F:jS (VV N) .st .en (rr N) r)(w:Nd):0<=rr N .st w - r .st w:=by
 refine Int.not_lt.mp λq=>?_
 have an:=F.an .st w;obtain⟨b,e⟩:=t.pos F (v:=w) (w:=.st) (by lia)
 generalize hx:Nd.st=x at e;cases e <;> cases hx
theorem ZS{b:Bool}(e:iT h P aa n .st w b):∃p∈P,w=.gi (at' p 0):=by
 generalize hx:Nd.st=x at e;cases e with
 |@s p hp=>exact⟨p,hp,rfl⟩
 |_=>cases hx
theorem Rh{g:Nd->Int}:∀{W V:List Nd},W.Nodup->V.Nodup->(∀v,v∈W->v∈V)->(∀v,v∈V->v∉W->g v=0)->sm g V=sm g W
 |[],V,_,_,_,hz=>zg λv m=>hz v m (by simp)
 |x::W,V,nW,nV,hs,hz=>by
  rw[i7] at nW;have e:=Eh g (λv=>decide (v=x)) V
  have e1:sm g (V.filter λv=>decide (v=x))=g x:=by
   have a:sm g (V.filter λv=>decide (v=x))=sm (λv=>if v=x then g x else 0) (V.filter λv=>decide (v=x)):=rJ λv m=>by
    have:=(jr.mp m).2;rw[decide_eq_true_eq] at this;rw[aY this,this]
   rw[a,tV _ (nV.filter _),aY (jr.mpr ⟨hs x (.head _),ig rfl⟩)]
  have e2:=Rh (g:=g) (W:=W) (V:=V.filter λv => !decide (v=x)) nW.2 (nV.filter _) (λv m=>jr.mpr ⟨hs v (.tail _ m),by
   have:v≠x:=λq=>nW.1 (by rw[<-q];exact m)
   simp[this]⟩) (λv m hv=>by
   obtain⟨m1,m2⟩:=jr.mp m;have:v≠x:=by simpa using m2
   exact hz v m1 λq=>by
    rcases eX.mp q with q|q
    .exact this q
    .exact hv q)
  show sm g V=g x+sm g W;lia
def used(N:Net)(r:Nd->Nd->Int)(p:Pl):Bool:=decide (0<rr N .st (.gi (at' p 0)) - r .st (.gi (at' p 0)))
theorem JR{α:Type}(f:α->Nd)(g:Nd->Int)(q:α->Bool):∀l:List α,(∀a,a∈l->g (f a)=if q a=true then 1 else 0)->sm g (l.map f)=((l.filter q).length:Int)
 |[],_=>rfl
 |a::l,hg=>by
  have ih:=JR f g q l λa m=>hg a (.tail _ m)
  have h1:=hg a (.head _);show g (f a)+sm g (l.map f)=_;rw[ih,h1,zU];cases q a with
  |true=>
   show(1:Int)+_=((a::l.filter q).length:Int);rw[jl];lia
  |false=>
   show(0:Int)+_=_;rw[Int.zero_add];rfl
theorem Nt.value(t:Nt h P aa n pl N)(nd:P.Nodup)(F:jS (VV N) .st .en (rr N) r):ex (VV N) (rr N) r .st=((P.filter (used N r)).length:Int):=by
 unfold ex;have wk:∀v,v∈P.map (λp=>Nd.gi (at' p 0))->v∈VV N:=λv m=>by
  obtain⟨p,hp,rfl⟩:=gz.mp m;exact(oK ..).mpr (.inl ((t.ky _).mpr (.inr ⟨_,_,.inr (.s hp)⟩)))
 have hnd:(P.map λp=>Nd.gi (at' p 0)).Nodup:=List.Pairwise.map _ (λa b j_ e=>j_ (by injection e with e;exact(o8 e).1)) nd
 rw[Rh hnd F.nd wk λv _ hv=>?_]
 .refine JR _ _ _ P λp hp=>?_
  have h0:=t.from F (.gi (at' p 0));unfold used;by_cases c:0<rr N .st (.gi (at' p 0)) - r .st (.gi (at' p 0))
  .rw[ig c,aY rfl];obtain⟨k1,k2,_⟩:=t.yF F c;lia
  .rw[ij c,bb (by simp)]
   lia
 .have h0:=t.from F v;refine oV λq=>?_
  obtain⟨b,e⟩:=t.pos F (v:=.st) (w:=v) (by lia)
  obtain⟨p,hp,rfl⟩:=ZS e;exact hv (gz.mpr ⟨p,hp,rfl⟩)
theorem Nt.most(t:Nt h P aa n pl N)(nd:P.Nodup)(F:jS (VV N) .st .en (rr N) r):ex (VV N) (rr N) r .st<=(P.length:Int):=by
 rw[t.value nd F];have:=Hf (used N r) P;lia
end
def G0:GT:=gT (gB qG (gB bJ (gB bJ (ae 2) (ae 0)) (ae 1)) (gC (.int 0)))
theorem Yj{j:ql}{x:Int}{a:ak O}(e1:lk N w=some j)(e2:lk j b=some x):
  rF (bu 0) G0 (ae 0) (aT w) [a,some (.Y (aT b)),some (.Y (dj N))]=some (if decide (0<rr N w b)=true then some (.own (.Y (aT w))) else none,[some (.Y (aT w)),some (.Y (aT b)),some (.Y (dj N))]):=by
 have f1:=xC e1;have f2:=BR e2;rw[zA e1,e2];show _=some (if decide (0<x)=true then _ else _,_)
 unfold rF G0;cases c:decide (0<x) with
 |true=>simp only[fU,bK,bH,bL,reduceAdd,reduceLT,bG,aZ,↓ag,cF,bD,bp,bc,bt,bf,bq,bA,bB,bz,cZ,f1,f2,bM,gw,c]
 |false=>simp only[fU,bK,bH,bL,reduceAdd,reduceLT,bG,aZ,↓ag,cF,bD,bp,bc,bt,bf,bq,bA,bB,bz,cZ,f1,f2,bM,gw,c,cW,cB]
theorem Yk(ok:nv N)(hw:∃w,kg N b w/\0<rr N w b):∃w,kg N b w/\0<rr N w b/\xl [.Y (dj N),.Y (aT b)]=some (.Y (aT w),[none,none]):=by
 obtain⟨w0,⟨i,ei,n0,en0⟩,hp0⟩:=hw;have il:=ok.il b i ei;obtain⟨aw,⟨a,rfl⟩,e⟩:=tR (g:=bu 0) (ct:=G0) (ce:=ae 0) (λQ0=>∃a,Q0=[a,some (.Y (aT b)),some (.Y (dj N))]) (λe:Nd×Int=>aT e.1) (λe=>decide (0<rr N e.1 b)) (λe=>aT e.1) i [] [none,some (.Y (aT b)),some (.Y (dj N))] ⟨_,rfl⟩ (by rw[rq];lia) (by
  rintro⟨w,x⟩ hx Q0 ⟨a,rfl⟩;obtain⟨j,ej,y,ey⟩:=ok.sy b w ⟨i,ei,x,Kh (ok.ni b i ei) hx⟩;exact⟨_,Yj ej ey,_,rfl⟩)
 rw[gc,show([]:List D).map O.Y=[] from rfl] at e;have f1:=xC ei;have f2:(ph i).map (·.1.d)=i.map λe=>aT e.1:=by
  unfold ph;rw[OV];exact Hb λe _=>Kf e.1
 have me:IZ=aR (aq 2 (ay (jY (tF (gB bJ (ae 0) (ae 1))) (bu 0) G0 (ae 0) 1 [1,0]))) (aW (gB bJ (ae 2) (gC (.int 0)))):=rfl;cases q:i.filter λe=>decide (0<rr N e.1 b) with
 |nil=>
  have:(w0,n0)∈i.filter λe=>decide (0<rr N e.1 b):=jr.mpr ⟨Ki en0,ig hp0⟩
  rw[q] at this;cases this
 |cons x xs=>
  obtain⟨w,y⟩:=x;have hm:(w,y)∈i.filter λe=>decide (0<rr N e.1 b):=by rw[q];exact .head _
  obtain⟨m1,m2⟩:=jr.mp hm;refine⟨w,⟨i,ei,y,Kh (ok.ni b i ei) m1⟩,by simpa using m2,?_⟩
  rw[q,cY] at e;unfold xl;rw[me];simp only[gD,dY,dZ,bK,bH,bL,reduceAdd,reduceSub,eV,eM,eE,eG,cM,dN,cI,mY,XI,bD,bp,bc,bf,↓ag,bt,bq,bA,bB,bz,cZ,f1,bT,f2,oY,fN,ck,bG,nF,e,oU,nt,oZ,nH,aZ,gG,gy,rN,reduceLT,eS,bM,o7,lE,↓evMap,h_,gL,gM,gR,gE]
inductive yN (N:Net) (r:Nd->Nd->Int):Ct->List Pl->Prop
 |last {c:Ct}:0<rr N (.go c) .en - r (.go c) .en->yN N r c [(c.1,c.2.1)]
 |step {c d:Ct} {t:List Pl}:0<rr N (.go c) (.gi d) - r (.go c) (.gi d)->yN N r d t->yN N r c ((c.1,c.2.1)::t)
theorem ZT{n:Nat}{b:Bool}(e:iT h P aa n (.go c) w b):∃m p,m<n/\p∈nw h P m/\c=at' p m/\(w=.en/\dA (.inl aa) (jk h p)=true\/∃q∈iV h p,w=.gi (at' q (m+1))):=by
 generalize hx:Nd.go c=x at e;cases e with
 |@e m p hm hp z=>injection hx with hx;exact⟨m,p,hm,hp,hx,.inl ⟨rfl,z⟩⟩
 |@w m p q hm hp hq=>injection hx with hx;exact⟨m,p,hm,hp,hx,.inr ⟨q,hq,rfl⟩⟩
 |_=>cases hx
theorem Wx{n:Nat}(t:Nt h P aa n pl N)(F:jS (VV N) .st .en (rr N) (rr N'))(hs:iS N'=iS N)(z:0<rr N (.gi c) (.go c) - rr N' (.gi c) (.go c)):
  ∃w,0<rr N (.go c) w - rr N' (.go c) w/\xl [.Y (dj N'),.Y (aT (.go c))]=some (.Y (aT w),[none,none]):=by
 have ha:∀v w,kg N' v w↔kg N v w:=λv w=>by rw[tY,tY,hs]
 obtain⟨w0,h0⟩:=t.on F z;obtain⟨b0,e0⟩:=t.pos F h0;have an0:=F.an (.go c) w0;have z0:=t.rz w0 (.go c) λb e=>Ek e0 e
 obtain⟨w,a1,a2,a3⟩:=Yk (t.ok.same hs) (b:=.go c) ⟨w0,(ha ..).mpr ((t.ar ..).mpr (.inl ⟨b0,e0⟩)),by lia⟩
 refine⟨w,?_,a3⟩;rcases(t.ar ..).mp ((ha ..).mp a1) with⟨b,e⟩|⟨b,e⟩
 .have z1:=t.rz w (.go c) λb e'=>Ek e e'
  have an:=F.an (.go c) w;lia
 .
  have hw:w=.gi c:=by
   generalize hx:Nd.go c=x at e;cases e with
   |g _ _=>injection hx with hx;rw[hx]
   |_=>cases hx
  subst hw;have h1:=t.rm _ _ _ e;have hb:=Kj e;subst hb;have h2:cp pl (Cr (.gi c))=1:=rfl;lia
def wc:GT:=gT (gB gp (ae 4) (gC (.str "the end")))
def wb:GS:=aR (aq 5 (gB bJ (ae 4) (gC (.int 0))))
 (aR (jw (gj oM (ae 3) (aj (ay (bC .tup (aj (gB bJ (ae 5) (gC (.int 0))) (aj (gB bJ (ae 5) (gC (.int 1))) gN)))) gN))) (aq 4 (ay (aH xl (aj (ae 0) (aj (ay (bC .tup (aj (ae 5) (aj (gC (.str "out of")) gN)))) gN))))))
def lY(N:Net)(a1:ak O)(aa:Str)(t:List Pl)(g:Nd)(a5:ak O):Gm:=[some (.Y (dj N)),a1,some (fS aa),some (.lst ((t.map aL).map .Y)),some (.Y (aT g)),a5]
theorem RK(n:Nat)(c:Ct):cS (n+1) (fQ c)=true:=by
 show([D.str c.1,.int c.2.1,.int c.2.2]:List D).all (cS n)=true;simp only[vx,MH,qt,mZ,G']
theorem e8s(n:Nat)(v:Nd):cS (n+2) (aT v)=true:=by
 cases v with
 |st=>exact qt ..
 |en=>exact qt ..
 |gi c=>
  show([fQ c,D.str "into"]:List D).all (cS (n+1))=true;simp only[vx,MH,qt,RK,G']
 |go c=>
  show([fQ c,D.str "out of"]:List D).all (cS (n+1))=true;simp only[vx,MH,qt,RK,G']
theorem e8t(c:Ct):gp [.Y (aT (.gi c)),.Y (.str "the end")]=some (.Y (.bl true)):=by
 rw[Jv,bT,bT,aY ⟨e8s 38 _,qt ..⟩];show some (O.Y (.bl (!bj (.tup _) (.str _))))=_;unfold bj;rfl
theorem e8u:gp [.Y (aT .en),.Y (.str "the end")]=some (.Y (.bl false)):=by
 show gp [.Y (.str "the end"),.Y (.str "the end")]=_;rw[Zh,lU];rfl
theorem e8v(N:Net)(a1:ak O)(aa:Str)(t:List Pl)(c:Ct)(a5:ak O):wc (lY N a1 aa t (.gi c) a5)=some (true,lY N a1 aa t (.gi c) a5):=by
 have f:=e8t c;unfold wc lY;simp only[cF,bD,bp,bc,bt,bf,↓ag,bM,bq,bA,bB,bz,f]
theorem e8w(N:Net)(a1:ak O)(aa:Str)(t:List Pl)(a5:ak O):wc (lY N a1 aa t .en a5)=some (false,lY N a1 aa t .en a5):=by
 have f:=e8u;unfold wc lY;simp only[cF,bD,bp,bc,bt,bf,↓ag,bM,bq,bA,bB,bz,f]
theorem ZU(c:Ct):dU (.Y (fQ c)) (.int 0)=some (.Y (.str c.1)):=rfl
theorem ZV(c:Ct):dU (.Y (fQ c)) (.int 1)=some (.Y (.int c.2.1)):=rfl
theorem plF(c:Ct):D.tup [.str c.1,.int c.2.1]=aL (c.1,c.2.1):=rfl
theorem Yl(N:Net)(a1:ak O)(aa:Str)(t:List Pl)(ht:t.length<1000)(c:Ct)(w:Nd)(a5:ak O)(e:xl [.Y (dj N),.Y (aT (.go c))]=some (.Y (aT w),[none,none])):
  wb (lY N a1 aa t (.gi c) a5)=some (.nx,lY N a1 aa (t++[(c.1,c.2.1)]) w (some (.Y (fQ c)))):=by
 have c1:((t.map aL).length<1000000)=True:=ke (by rw[bO];lia)
 unfold wb lY;rw[jm (f:=aL),uo];simp only[cM,dN,bD,bp,bc,bt,bf,↓ag,bM,bq,bA,bB,bz,cZ,RJ,bK,bH,bL,reduceAdd,reduceLT,ck,bG,aZ,jv,lF,cI,fg,ZU,ZV,reduceLeDiff,fO,d_,jx,gy,bT,fX,plF,pV,c1,fA,B7,fz,fy,e,fW,fV]
theorem Qk{h:az}{P:List Pl}{aa:Str}{n:Nat}{pl:Int}{N N':Net}(t:Nt h P aa n pl N)(F:jS (VV N) .st .en (rr N) (rr N'))(hs:iS N'=iS N)(a1:ak O):∀(j m:Nat) (p:Pl) (K:Nat) (aP:List Pl) (a5:ak O),n=m+j->j<K->aP.length+j<1000->0<rr N (.gi (at' p m)) (.go (at' p m)) - rr N' (.gi (at' p m)) (.go (at' p m))->
  ∃w b5,yN N (rr N') (at' p m) w/\w.length<=j/\gf wc wb K (lY N' a1 aa aP (.gi (at' p m)) a5)=some (.nx,lY N' a1 aa (aP++w) .en b5)
 |0,m,p,K,aP,a5,en,hK,hl,z=>by
  obtain⟨b,e⟩:=t.pos F z;obtain⟨_,_,m',p',hm,_,ec⟩:=Fd e;have:=(o8 ec).2;lia
 |j+1,m,p,0,aP,a5,en,hK,hl,z=>cu hK (He _)
 |j+1,m,p,K+1,aP,a5,en,hK,hl,z=>by
  obtain⟨w,hw,ew⟩:=Wx t F hs z;have f1:=e8v N' a1 aa aP (at' p m) a5;have f2:=Yl N' a1 aa aP (by lia) (at' p m) w a5 ew
  obtain⟨b,e⟩:=t.pos F hw;obtain⟨m',p',hm,hp,ec,hor⟩:=ZT e;obtain⟨rfl,em⟩:=o8 ec;have em:m=m':=by lia
  subst em;rcases hor with⟨rfl,_⟩|⟨q,hq,rfl⟩
  .refine⟨[(p.1,p.2)],some (.Y (fQ (at' p m))),.last hw,by rw[lC];lia,?_⟩
   have f3:=e8w N' a1 aa (aP++[(p.1,p.2)]) (some (.Y (fQ (at' p m))));have f2:wb (lY N' a1 aa aP (.gi (at' p m)) a5)=some (.nx,lY N' a1 aa (aP++[(p.1,p.2)]) .en (some (.Y (fQ (at' p m))))):=f2;obtain⟨K',rfl⟩:∃K',K=K'+1:=⟨K - 1,by lia⟩
   rw[gf];simp only[f1,↓ag,f2,aZ];rw[gf];simp only[f3,↓ag,cW,cB]
  .have ez:((m:Int)+1)=((m+1:Nat):Int):=rfl;rw[ez] at hw f2;obtain⟨_,k2,_⟩:=t.yF F hw;obtain⟨w2,b5,q1,q2,q3⟩:=Qk t F hs a1 j (m+1) q K (aP++[(p.1,p.2)]) (some (.Y (fQ (at' p m)))) (by lia) (by lia) (by rw[fe,lC];lia) (by lia)
   refine⟨(p.1,p.2)::w2,b5,.step hw q1,by rw[jl];lia,?_⟩
   have f2:wb (lY N' a1 aa aP (.gi (at' p m)) a5)=some (.nx,lY N' a1 aa (aP++[(p.1,p.2)]) (.gi (at' q ((m+1:Nat):Int))) (some (.Y (fQ (at' p m))))):=f2;rw[iN] at q3;have q3:gf wc wb K (lY N' a1 aa (aP++[(p.1,p.2)]) (.gi (at' q ((m+1:Nat):Int))) (some (.Y (fQ (at' p m)))))=some (.nx,lY N' a1 aa (aP++(p.1,p.2)::w2) .en b5):=q3;rw[<-q3,gf];simp only[f1,↓ag,f2,aZ]
theorem Up{n:Nat}(t:Nt h P aa n pl N)(F:jS (VV N) .st .en (rr N) (rr N'))(hs:iS N'=iS N)(hn:n<=160)(p:Pl)(z:0<rr N (.gi (at' p 0)) (.go (at' p 0)) - rr N' (.gi (at' p 0)) (.go (at' p 0))):
  ∃w,yN N (rr N') (at' p 0) w/\w.length<=160/\AJ [.Y (dj N'),.Y (aT (.gi (at' p 0))),.Y (.str aa)]=some (.lst ((w.map aL++[D.str aa]).map .Y),[none,none,none]):=by
 obtain⟨w,b5,q1,q2,q3⟩:=Qk t F hs (some (.Y (aT (.gi (at' p 0))))) n 0 p 1000000 [] none (by lia) (by lia) (by rw[rq];lia) z
 refine⟨w,q1,by lia,?_⟩
 have q3:gf wc wb 1000000 (lY N' (some (.Y (aT (.gi (at' p 0))))) aa [] (.gi (at' p 0)) none)=some (.nx,lY N' (some (.Y (aT (.gi (at' p 0))))) aa w .en b5):=q3;have me:Hy=aR (aq 3 (bC .lst gN)) (aR (aq 4 (ae 1)) (aR (gf wc wb 1000000) (aW (gB bY (ae 3) (bC .lst (aj (ae 2) gN)))))):=rfl;unfold lY at q3;rw[show([]:List Pl).map aL=[] from rfl,show([]:List D).map O.Y=[] from rfl] at q3;have c1:((w.map aL).length+1<=1000000)=True:=ke (by rw[bO];lia)
 unfold AJ;rw[me];simp only[gD,dY,dZ,bK,bH,bL,reduceAdd,reduceSub,eV,eM,eE,eG,cM,dN,fg,bq,↓ag,reduceLeDiff,d_,aZ,reduceLT,ck,bG,bc,bt,bf,q3,eS,bD,bp,fO,bA,iC,fN,bB,bz,Bd,Br,xf,Jt,Js,c1,h_,gL,gM,gR,gE]
theorem RL(i:Nat)(f:GS)(Q0:Gm):rZ i f Q0=match Q0[i]? with
 |some (some o)=>f (Q0.set i (some (.Y o.d)))
 |_=>none:=rfl
def lA(h:az)(P:List Pl)(aa:Str)(T:Int)(N:Net)(S:List Ct)(l:cT)(W:List D)(a8 a9 bX cn:ak O):Gm:=
 [some (.Y (cx h)),some (.Y (.lst (P.map aL))),some (fS aa),some (.Y (.int T)),some (.Y (dj N)),some (.Y (.lst (S.map fQ))),some (.Y (.aI (dQ l))),some (.lst (W.map .Y)),a8,a9,bX,cn]
section
variable(h:az)(P:List Pl)(aa:Str)(T:Int)(N:Net)(S:List Ct)(l:cT)
theorem e8x{x:Int}(e1:lk N v=some i)(e2:lk i .st=some x)(hx:¬0<x)(W:List D)(a8 a9 cn:ak O):zP (lA h P aa T N S l W a8 a9 (some (.Y (aT v))) cn)=some (.nx,lA h P aa T N S l W a8 a9 (some (.Y (aT v))) cn):=by
 have f1:=xC e1;have f2:=BR e2;rw[show aT .st=.str "the start" from rfl] at f2;have f3:decide ((0:Int)<x)=false:=ij hx;unfold zP lA;simp only[dg,cF,bD,bp,bc,bt,bf,↓ag,bq,bA,bB,bz,cZ,f1,bM,f2,gw,f3,aZ,cW,jv,lF,cI,fg,dq,cB]
theorem ZW{x:Int}(e1:lk N v=some i)(e2:lk i .st=some x)(hx:0<x)(ki:Int)(ds:List D)(e3:AJ [.Y (dj N),.Y (aT v),.Y (.str aa)]=some (.lst (ds.map .Y),[none,none,none]))(W:List D)(hW:W.length<1000)(a9 cn:ak O):zP (lA h P aa T N S l W (some (.Y (.int ki))) a9 (some (.Y (aT v))) cn)=some (.nx,lA h P aa T N S l (W++[.tup [.int ki,.lst ds]]) (some (.Y (.int ki))) a9 (some (.Y (aT v))) cn):=by
 have f1:=xC e1;have f2:=BR e2;rw[show aT .st=.str "the start" from rfl] at f2;have f3:decide ((0:Int)<x)=true:=ig hx;have c1:(W.length<1000000)=True:=ke (by lia)
 unfold zP lA;simp only[dg,cF,bD,bp,bc,bt,bf,↓ag,bq,bA,bB,bz,cZ,f1,bM,f2,gw,f3,aZ,jv,lF,cI,fg,fA,bT,fz,fy,e3,fW,fV,gG,rN,bK,bH,bL,reduceAdd,reduceLeDiff,fO,d_,jx,gy,fX,pV,c1,ck,bG,dq]
theorem Ql(W:List D)(p:Pl)(a8 bX cn:ak O):ya (lA h P aa T N S l W a8 (some (.Y (aL p))) bX cn)=zP (lA h P aa T N S l W a8 (some (.Y (aL p))) (some (.Y (aT (.gi (at' p 0))))) cn):=by
 have e1:=EJ p 0;unfold ya lA;simp only[cM,dN,cI,fA,bp,bc,bt,bf,↓ag,bM,bq,fz,fy,e1,fW,fV,jx,gy,bT,fX,xP,bK,bH,bL,reduceAdd,reduceLT,ck,bG,aZ]
theorem CG(W:List D)(ki:Int)(d:D)(a8 a9 bX cn:ak O):fZ [(bu 8),(bu 9)] (.tup [.int ki,d]) (lA h P aa T N S l W a8 a9 bX cn)=some (lA h P aa T N S l W (some (.Y (.int ki))) (some (.Y d)) bX cn):=by
 unfold lA;simp only[Bc,AW,fU,bK,bH,bL,reduceAdd,reduceLT,ck,bG,aZ,↓ag,AV]
theorem ZX(hS:S.length<100000)(W:List D)(a8 a9 bX cn:ak O):Ln (lA h P aa T N S l W a8 a9 bX cn)=some (.own (.lst (((S.filter λc=>decide (Nd.gi c∈l.map (·.1)) && !decide (Nd.go c∈l.map (·.1))).map fQ).map .Y)),lA h P aa T N S l W a8 a9 bX cn):=by
 obtain⟨aw,⟨a,rfl⟩,e⟩:=tR (g:=bu 0) (ct:=Lo) (ce:=ae 0) (λQ0=>∃a,Q0=[a,some (.Y (.aI (dQ l)))]) fQ (λc=>decide (Nd.gi c∈l.map (·.1)) && !decide (Nd.go c∈l.map (·.1))) fQ S [] [none,some (.Y (.aI (dQ l)))] ⟨_,rfl⟩ (by rw[rq];lia) (by
  rintro c hc Q0 ⟨a,rfl⟩;refine⟨[some (.Y (fQ c)),some (.Y (.aI (dQ l)))],?_,_,rfl⟩;have f1:=IH false l (.gi c) _ (DE (p:=Nd.gi c∈l.map (·.1)))
  have f2:=IH true l (.go c) _ (DE (p:=Nd.go c∈l.map (·.1)))
  generalize decide (Nd.gi c∈l.map (·.1))=b1 at f1 ⊢
  generalize decide (Nd.go c∈l.map (·.1))=b2 at f2 ⊢
  unfold rF Lo;cases b1 with
  |true=>
   cases b2 with
   |true=>simp only[fU,bK,bH,bL,reduceAdd,reduceLT,bG,aZ,↓ag,mI,cF,bD,bp,cI,fg,bc,bf,bM,bq,reduceLeDiff,fO,d_,jx,gy,bT,fX,xP,bt,bA,bB,bz,f1,cW,jR,cB,B7,f2,G7]
   |false=>simp only[fU,bK,bH,bL,reduceAdd,reduceLT,bG,aZ,↓ag,mI,cF,bD,bp,cI,fg,bc,bf,bM,bq,reduceLeDiff,fO,d_,jx,gy,bT,fX,xP,bt,bA,bB,bz,f1,cW,cB,B7,f2,mU,G8]
  |false=>simp only[fU,bK,bH,bL,reduceAdd,reduceLT,bG,aZ,↓ag,mI,cF,bD,bp,cI,fg,bc,bf,bM,bq,reduceLeDiff,fO,d_,jx,gy,bT,fX,xP,bt,bA,bB,bz,f1,cW,cB,B7,Dt])
 rw[gc,show([]:List D).map O.Y=[] from rfl] at e;generalize(S.filter λc=>decide (Nd.gi c∈l.map (·.1)) && !decide (Nd.go c∈l.map (·.1)))=C at e ⊢
 unfold Ln lA;simp only[mY,qT,cI,bc,bt,bf,↓ag,bT,eV,eM,oY,fN,ck,bG,nF,eE,eG,e,bK,bH,bL,reduceAdd,oU,nt,oZ,nH,aZ]
end
noncomputable def rS:Nat->List Pl->List (Nat×Pl)
 |_,[]=>[]
 |k,p::ps=>(k,p)::rS (k+1) ps
def BV(x:Nat×Pl):D:=.tup [.int (x.1:Int),aL x.2]
theorem Qm:∀(ps:List Pl) (k:Nat),(List.range' k ps.length).zipWith (λ(i:Nat) d=>D.tup [.int i,d]) (ps.map aL)=(rS k ps).map BV
 |[],k=>rfl
 |p::ps,k=>by
  have ih:=Qm ps (k+1);show(List.range' k (ps.length+1)).zipWith _ (aL p::ps.map aL)=BV (k,p)::(rS (k+1) ps).map BV;rw[List.range'_succ,List.zipWith_cons_cons,ih];rfl
theorem Ym(ps:List Pl):jZ (ps.map aL)=(rS 0 ps).map BV:=by
 unfold jZ;rw[bO,List.range_eq_range',Qm]
theorem EK:∀(ps:List Pl) (k:Nat),(rS k ps).map (·.2)=ps
 |[],_=>rfl
 |p::ps,k=>by
  show p::(rS (k+1) ps).map (·.2)=_
  rw[EK ps (k+1)]
structure Way (N:Net) (r:Nd->Nd->Int) (aa:Str) (x:Nat×Pl) (d:D):Prop where
 w:∃w,yN N r (at' x.2 0) w/\d=.tup [.int (x.1:Int),.lst (w.map aL++[D.str aa])]
theorem Wy{α β:Type}{R:α->β->Prop}{a a':List α}{b b':List β}(p:Paired R a b)(q:Paired R a' b'):Paired R (a++a') (b++b'):=by
 induction p with
 |nil=>exact q
 |cons h _ ih=>exact .cons h ih
theorem Yn{n:Nat}(t:Nt h P aa n pl N)(F:jS (VV N) .st .en (rr N) (rr N'))(hs:iS N'=iS N)(hn:n<=160)(hP:P.length<=20)(T:Int)(S:List Ct)(l:cT):
  ∃W b8 b9 iz,fK (fZ [(bu 8),(bu 9)]) ya (jZ (P.map aL)) (lA h P aa T N' S l [] none none none none)=some (.nx,lA h P aa T N' S l W b8 b9 iz none)/\Paired (Way N (rr N') aa) ((rS 0 P).filter λx=>used N (rr N') x.2) W:=by
 rw[Ym];obtain⟨aw,e,W,b8,b9,iz,rfl,pr⟩:=mW (g:=fZ [(bu 8),(bu 9)]) (f:=ya) BV (λpre Q0=>∃(W:List D) (b8 b9 iz:ak O),Q0=lA h P aa T N' S l W b8 b9 iz none/\Paired (Way N (rr N') aa) (pre.filter λx=>used N (rr N') x.2) W) (rS 0 P) []
  (lA h P aa T N' S l [] none none none none) ⟨[],none,none,none,rfl,.nil⟩ (by
   rintro q ⟨k,p⟩ post Q0 eq ⟨W,b8,b9,iz,rfl,pr⟩;rw[gc] at pr ⊢;have hp:p∈P:=by
    rw[<-EK P 0,eq];simp
   have hW:W.length<=20:=by
    have h1:=Paired.length pr;have h2:=Hf (λx:Nat×Pl=>used N (rr N') x.2) q
    have h3:=congrArg List.length eq;have h4:=congrArg List.length (EK P 0);rw[bO] at h4;rw[fe,jl] at h3;lia
   have e0:iT h P aa n .st (.gi (at' p 0)) false:=.s hp;have ha:kg N' (.gi (at' p 0)) .st:=by
    rw[tY,hs,<-tY,t.ar];exact .inr ⟨_,e0⟩
   obtain⟨i,ei,x,ex⟩:=ha;have hx:x=rr N .st (.gi (at' p 0)) - rr N' .st (.gi (at' p 0)):=by
    have h1:rr N' (.gi (at' p 0)) .st=x:=by rw[zA ei,ex];rfl
    have h2:=F.an .st (.gi (at' p 0));have h3:=t.rz (.gi (at' p 0)) .st λb e=>Ek e0 e
    lia
   by_cases c:0<x
   .have hu:used N (rr N') p=true:=ig (by rw[<-hx];exact c)
    obtain⟨_,k2,_⟩:=t.yF F (u:=.st) (c:=at' p 0) (by rw[<-hx];exact c)
    obtain⟨w,q1,q2,q3⟩:=Up t F hs hn p (by lia)
    have st:=ZW h P aa T N' S l ei ex c (k:Int) (w.map aL++[D.str aa]) q3 W (by lia) (some (.Y (aL p))) none
    refine⟨lA h P aa T N' S l (W++[.tup [.int (k:Int),.lst (w.map aL++[D.str aa])]]) (some (.Y (.int (k:Int)))) (some (.Y (aL p))) (some (.Y (aT (.gi (at' p 0))))) none,?_,_,_,_,_,rfl,?_⟩
    .show(fZ _ (.tup [.int (k:Int),aL p]) _).bind ya=_;rw[CG,Option.bind_some,Ql,st]
    .rw[List.filter_append,zU,hu];exact Wy pr (.cons ⟨w,q1,rfl⟩ .nil)
   .have hu:used N (rr N') p=false:=ij (by rw[<-hx];exact c)
    have st:=e8x h P aa T N' S l ei ex c W (some (.Y (.int (k:Int)))) (some (.Y (aL p))) none;refine⟨lA h P aa T N' S l W (some (.Y (.int (k:Int)))) (some (.Y (aL p))) (some (.Y (aT (.gi (at' p 0))))) none,?_,W,_,_,_,rfl,?_⟩
    .show(fZ _ (.tup [.int (k:Int),aL p]) _).bind ya=_;rw[CG,Option.bind_some,Ql,st]
    .rw[List.filter_append,zU,hu];simpa using pr)
 rw[gc] at pr;exact⟨W,b8,b9,iz,e,pr⟩
structure Told (h:az) (P:List Pl) (aa:Str) (n:Nat) (W:List D) (C:List Ct):Prop where
 ex:∃(pl:Int) (N N':Net) (l:cT),pl=(P.length:Int)+1/\Nt h P aa n pl N/\jS (VV N) .st .en (rr N) (rr N')/\.st∈l.map (·.1)/\.en∉l.map (·.1)/\(∀y,y∈l.map (·.1)->∀x,0<rr N' y x->x∈l.map (·.1))/\
  Paired (Way N (rr N') aa) ((rS 0 P).filter λx=>used N (rr N') x.2) W/\C=(gr h P n).filter λc=>decide (Nd.gi c∈l.map (·.1)) && !decide (Nd.go c∈l.map (·.1))
theorem Qn{h:az}(ok:gd h){P:List Pl}(nd:P.Nodup)(v:∀p,p∈P->VP h p):∀n,(gr h P n).length<=200*n
 |0=>cX _
 |n+1=>by
  have ih:=Qn ok nd v n;obtain⟨o1,o2⟩:=FI ok nd v n;have hl:=Fc ok o1 o2;show(gr h P n++(nw h P n).map (at' · (n:Int))).length<=_
  rw[fe,bO];lia
theorem DZ(ok:gd h)(nd:P.Nodup)(v:∀p,p∈P->VP h p)(aa:Str)(T:Int)(n:Nat)(hT:T=n)(hn:n<=160)(hP:P.length<=20):
  ∃W C,Told h P aa n W C/\vC [.Y (cx h),.Y (.lst (P.map aL)),.Y (.str aa),.Y (.int T)]=some (.tup [.lst (W.map .Y),.Y (.lst (C.map fQ))],[none,none,none,none]):=by
 obtain⟨pl,kl⟩:∃pl:Int,(P.length:Int)+1=pl:=⟨_,rfl⟩;obtain⟨e1,sz⟩:=Vh ok nd v aa T pl n hT hn hP kl;have t:=e8r sz;generalize cy [(.st,[])] (lH h P aa pl n)=N at *;have F0:=t.flo (by lia)
 obtain⟨N',l,s1,F,c,cl,he,e2⟩:=ZN (V:=VV N) (B:=(P.length:Int)) N t.ok (λv m=>(oK ..).mpr (.inl m)) F0 (λr F=>t.most nd F) (by lia)
 obtain⟨W,b8,b9,iz,e3,pr⟩:=Yn t F s1 hn hP T (gr h P n) l;have sl:=Qn ok nd v n;have e4:=ZX h P aa T N' (gr h P n) l (by lia) W b8 b9 iz none
 refine⟨W,_,⟨pl,N,N',l,kl.symm,t,F,c.st,he,cl,pr,rfl⟩,?_⟩;have e5:=Q5 N';have e0:bV [(Nd.st,([]:ql))]=.aI [(eu .st,.aI [])]:=rfl;have k0:cJ (.str "the start")=some (eu .st):=rfl;rw[e0] at e1;rw[show aT .st=.str "the start" from rfl,show aT .en=.str "the end" from rfl] at e2;generalize(gr h P n).filter (λc=>decide (Nd.gi c∈l.map (·.1)) && !decide (Nd.go c∈l.map (·.1)))=C at e4 ⊢
 generalize gr h P n=S at e1 e3 e4;unfold lA at e3 e4;rw[show([]:List D).map O.Y=[] from rfl] at e3;unfold vC;unfold HY;simp only[gD,dY,dZ,bK,bH,bL,reduceAdd,reduceSub,eV,eM,eE,eG,cM,dN,UZ,bM,↓ag,Ea,k0,↓evMap,reduceLT,ck,bG,aZ,cI,fA,bp,bc,bt,bf,bq,ja,fz,fy,e1,jH,fW,fV,gG,rN,bT,e2,RL,e5,fg,reduceLeDiff,d_,XE,e3,e4,eS,rK,fO,h_,gL,gM,gR,gE]
def ny(h:az)(P:List Pl)(C:List Ct):Nat->Pl->Prop
 |0,p=>p∈P
 |m+1,q=>∃p,ny h P C m p/\at' p (m:Int)∉C/\q∈iV h p
def Sep(h:az)(P:List Pl)(aa:Str)(n:Nat)(C:List Ct):Prop:=∀m,m<n->∀p,ny h P C m p->at' p (m:Int)∉C->¬dA (.inl aa) (jk h p)=true
theorem u_:q∈nw h P (m+1)↔∃p∈nw h P m,q∈iV h p:=by
 show q∈dD [] ((nw h P m).flatMap (iV h))↔_;rw[jL,MI];exact⟨λz=>z.resolve_left (by simp),.inr⟩
theorem BD{h:az}{P:List Pl}{C:List Ct}:∀{m:Nat} {p:Pl},ny h P C m p->p∈nw h P m
 |0,p,z=>z
 |m+1,q,⟨p,z,_,hq⟩=>u_.mpr ⟨p,BD z,hq⟩
theorem jE{h:az}{P:List Pl}{c:Ct}:∀{n:Nat},c∈gr h P n↔∃m,m<n/\∃p∈nw h P m,c=at' p (m:Int)
 |0=>⟨λz=>(by cases z),λ⟨m,hm,_⟩=>cu hm (He _)⟩
 |n+1=>by
  show c∈gr h P n++(nw h P n).map (at' · (n:Int))↔_
  rw[eT,jE,gz];constructor
  .rintro(⟨m,hm,z⟩|⟨p,hp,e⟩)
   .exact⟨m,by lia,z⟩
   .exact⟨n,by lia,p,hp,e.symm⟩
  .rintro⟨m,hm,p,hp,e⟩;by_cases q:m=n
   .subst q;exact .inr ⟨p,hp,e.symm⟩
   .exact .inl ⟨m,by lia,p,hp,e⟩
theorem Ri{h:az}(ok:gd h){P:List Pl}(nd:P.Nodup)(v:∀p,p∈P->VP h p):∀n,(gr h P n).Nodup
 |0=>yJ
 |n+1=>by
  show(gr h P n++(nw h P n).map (at' · (n:Int))).Nodup
  refine lh.mpr ⟨Ri ok nd v n,List.Pairwise.map _ (λa b j_ e=>j_ (o8 e).1) (FI ok nd v n).1,λa ha b hb e=>?_⟩
  obtain⟨m,hm,p,hp,e1⟩:=jE.mp ha;obtain⟨q,hq,e2⟩:=gz.mp hb;have:=(o8 (e1.symm.trans (e.trans e2.symm))).2;lia
theorem jS.xN{V:List Nd}{s t:Nd}{r0 r:Nd->Nd->Int}(F:jS V s t r0 r)(S:Nd->Bool)(hs:S s=true)(ht:S t=false):
  ex V r0 r s<=sm (λv=>sm (λb=>r0 v b) (V.filter λb => !S b)) (V.filter S):=by
 have e1:sm (ex V r0 r) (V.filter S)=ex V r0 r s:=by
  have h1:∀v,v∈V.filter S->ex V r0 r v=if v=s then ex V r0 r s else 0:=λv m=>by
   obtain⟨m1,m2⟩:=jr.mp m;by_cases c:v=s
   .rw[aY c,c]
   .rw[bb c];exact F.cs v m1 c λz=>by rw[z,ht] at m2;cases m2
  rw[rJ h1,tV _ (F.nd.filter _),aY (jr.mpr ⟨F.ms,hs⟩)]
 have e2:sm (ex V r0 r) (V.filter S)=sm (λv=>sm (λb=>r0 v b - r v b) (V.filter S)) (V.filter S)+sm (λv=>sm (λb=>r0 v b - r v b) (V.filter λb => !S b)) (V.filter S):=by
  rw[<-xB];exact rJ λv _=>Eh _ S V
 have e3:=P6 (g:=λv b=>r0 v b - r v b) F.an (V.filter S)
 have e4:sm (λv=>sm (λb=>r0 v b - r v b) (V.filter λb => !S b)) (V.filter S)<=sm (λv=>sm (λb=>r0 v b) (V.filter λb => !S b)) (V.filter S):=vZ λv mv=>vZ λb mb=>by
  have:=F.nn v b;lia
 lia
theorem Rj(W:List Nd):∀V:List Nd,sm (λv=>if v∈W then 1 else 0) V=((V.filter λv=>decide (v∈W)).length:Int)
 |V=>by
  have:=JR (λv:Nd=>v) (λv=>if v∈W then 1 else 0) (λv=>decide (v∈W)) V λv _=>by
   by_cases c:v∈W
   .rw[aY c,ig c,aY rfl]
   .rw[bb c,ij c,bb (by simp)]
  rw[List.map_id'] at this;exact this
section
variable{h:az}{P:List Pl}{aa:Str}{n:Nat}{pl:Int}{N:Net}{r:Nd->Nd->Int}
theorem Nt.weak(t:Nt h P aa n pl N)(F:jS (VV N) .st .en (rr N) r)(s:Sep h P aa n C):ex (VV N) (rr N) r .st<=(C.length:Int):=by
 let Q:Ct->Prop:=λc=>∃(m:Nat) (p:Pl),c=at' p (m:Int)/\ny h P C m p
 let SP:Nd->Prop:=λv=>match v with
  |.st=>True
  |.en=>False
  |.gi c=>Q c
  |.go c=>Q c/\c∉C
 have dec:∀v,Decidable (SP v):=λv=>Classical.propDecidable _
 have hcr:∀v b t',SP v->¬SP b->iT h P aa n v b t'->∃c∈C,v=.gi c/\b=.go c:=by
  intro v b t' hv hb e;cases e with
  |@s p hp=>exact cu (show Q _ from⟨0,p,rfl,hp⟩) hb
  |@g m p hm hp=>
   refine⟨at' p m,?_,rfl,rfl⟩;exact oV λz=>hb ⟨hv,z⟩
  |@e m p hm hp z=>
   obtain⟨⟨m',p',e1,e2⟩,e3⟩:=hv;obtain⟨rfl,em⟩:=o8 e1;have em:m=m':=by lia
   subst em;exact cu z (s m hm p e2 e3)
  |@w m p q hm hp hq=>
   obtain⟨⟨m',p',e1,e2⟩,e3⟩:=hv;obtain⟨rfl,em⟩:=o8 e1;have em:m=m':=by lia
   subst em;exact cu (show Q _ from⟨m+1,q,rfl,p,e2,e3,hq⟩) hb
 have c1:=F.xN (λv=>@decide (SP v) (dec v)) (@decide_eq_true (SP .st) (dec .st) jn) (@decide_eq_false (SP .en) (dec .en) (λz=>z))
 have c2:sm (λv=>sm (λb=>rr N v b) ((VV N).filter λb => !(@decide (SP b) (dec b)))) ((VV N).filter λv=>@decide (SP v) (dec v))<=sm (λv=>if v∈C.map Nd.gi then 1 else 0) ((VV N).filter λv=>@decide (SP v) (dec v)):=vZ λv mv=>by
  have hv:SP v:=yK (jr.mp mv).2;have hb:∀b,b∈((VV N).filter λb => !(@decide (SP b) (dec b)))->¬SP b:=λb mb z=>by
   have:=(jr.mp mb).2;rw[@decide_eq_true _ (dec b) z] at this;cases this
  by_cases c:v∈C.map Nd.gi
  .rw[aY c];obtain⟨c0,_,rfl⟩:=gz.mp c;have:sm (λb=>rr N (.gi c0) b) ((VV N).filter λb => !(@decide (SP b) (dec b)))<=sm (λb=>if b=.go c0 then 1 else 0) ((VV N).filter λb => !(@decide (SP b) (dec b))):=vZ λb _=>by
    by_cases q:∃t',iT h P aa n (.gi c0) b t'
    .obtain⟨t',e⟩:=q;obtain⟨rfl,rfl,_⟩:=Fd e;rw[t.rm _ _ _ e,aY rfl];exact vy 1
    .rw[t.rz _ _ λt' e=>q ⟨t',e⟩]
     split <;> lia
   rw[tV _ (F.nd.filter _)] at this;split at this <;> lia
  .rw[bb c];have:sm (λb=>rr N v b) ((VV N).filter λb => !(@decide (SP b) (dec b)))=0:=zg λb mb=>t.rz _ _ λt' e=>by
    obtain⟨c0,hc,rfl,_⟩:=hcr v b t' hv (hb b mb) e;exact c (gz.mpr ⟨c0,hc,rfl⟩)
   lia
 rw[Rj] at c2;have c3:=uD (l:=((VV N).filter λv=>@decide (SP v) (dec v)).filter λv=>decide (v∈C.map Nd.gi)) (m:=C.map Nd.gi) ((F.nd.filter _).filter _) λx m=>by
  have:=(jr.mp m).2;exact yK this
 rw[bO] at c3;lia
end
theorem Wz(ok:gd h)(nd:P.Nodup)(v:∀p,p∈P->VP h p){n:Nat}(td:Told h P aa n W C):
  Sep h P aa n C/\C.length<=W.length/\∀C',Sep h P aa n C'->W.length<=C'.length:=by
 obtain⟨pl,N,N',l,kl,t,F,ms,me,cl,pr,hC⟩:=td.ex;have val:=t.value nd F;have hW:W.length=(P.filter (used N (rr N'))).length:=by
  have h1:=Paired.length pr;have h2:((rS 0 P).filter λx=>used N (rr N') x.2).map (·.2)=P.filter (used N (rr N')):=by
   have:=List.filter_map (f:=λx:Nat×Pl=>x.2) (p:=used N (rr N')) (l:=rS 0 P)
   rw[EK] at this;exact this.symm
  rw[<-h2,bO];exact h1.symm
 have Cc:=F.cut (λv=>decide (v∈l.map (·.1))) (ig ms) (ij me) λa b _ _ ha hb=>by
  have h1:=F.nn a b;have h2:¬0<rr N' a b:=λz=>by
   have:=cl a (yK ha) b z;rw[ig this] at hb;cases hb
  lia
 have nn:=t.nn (by lia)
 have hx:∀a b,a∈VV N->b∈VV N->a∈l.map (·.1)->b∉l.map (·.1)->rr N a b<=ex (VV N) (rr N) (rr N') .st:=λa b ma mb ha hb=>by
  rw[Cc];have h1:rr N a b<=sm (λb=>rr N a b) ((VV N).filter λb => !decide (b∈l.map (·.1))):=E_ (f:=λb=>rr N a b) (λw _=>nn a w) b (jr.mpr ⟨mb,by rw[ij hb];rfl⟩)
  have h2:=E_ (f:=λv=>sm (λb=>rr N v b) ((VV N).filter λb => !decide (b∈l.map (·.1)))) (l:=(VV N).filter λv=>decide (v∈l.map (·.1))) (λw _=>DY λb _=>nn w b) a (jr.mpr ⟨ma,ig ha⟩)
  lia
 have most:=t.most nd F;have go:∀a b,iT h P aa n a b false->a∈l.map (·.1)->b∈l.map (·.1):=λa b e ha=>oV λhb=>by
  have h1:=hx a b ((oK ..).mpr (.inl ((t.ky a).mpr (.inr ⟨b,_,.inl e⟩)))) ((oK ..).mpr (.inl ((t.ky b).mpr (.inr ⟨a,_,.inr e⟩)))) ha hb;rw[t.rm a b _ e] at h1;have h2:cp pl false=pl:=rfl;lia
 have memC:∀c,c∈C↔c∈gr h P n/\Nd.gi c∈l.map (·.1)/\Nd.go c∉l.map (·.1):=λc=>by
  rw[hC,jr,lQ,decide_eq_true_eq,Bool.not_eq_true',decide_eq_false_iff_not]
 have gate:∀m p,m<n->p∈nw h P m->Nd.gi (at' p (m:Int))∈l.map (·.1)->at' p (m:Int)∉C->Nd.go (at' p (m:Int))∈l.map (·.1):=λm p hm hp hg hc=>oV λz=>hc ((memC _).mpr ⟨jE.mpr ⟨m,hm,p,hp,rfl⟩,hg,z⟩)
 have rin:∀m p,m<=n->ny h P C m p->Nd.gi (at' p (m:Int))∈l.map (·.1):=by
  intro m
  induction m with
  |zero=>intro p _ z;exact go _ _ (.s z) ms
  |succ m ih=>
   rintro q hm ⟨p,z,hc,hq⟩;exact go _ _ (.w (by lia) (BD z) hq) (gate m p (by lia) (BD z) (ih p (by lia) z) hc)
 refine⟨λm hm p z hc q=>?_,?_,λC' s=>?_⟩
 .exact me (go _ _ (.e hm (BD z) q) (gate m p hm (BD z) (rin m p (by lia) z) hc))
 .have h1:sm (λv=>if v∈C.map Nd.gi then 1 else 0) ((VV N).filter λv=>decide (v∈l.map (·.1)))<=ex (VV N) (rr N) (rr N') .st:=by
   rw[Cc];refine vZ λa ma=>?_
   by_cases c:a∈C.map Nd.gi
   .rw[aY c];obtain⟨c0,hc,rfl⟩:=gz.mp c;obtain⟨k1,k2,k3⟩:=(memC c0).mp hc;obtain⟨m,hm,p,hp,rfl⟩:=jE.mp k1;have e:iT h P aa n (.gi (at' p m)) (.go (at' p m)) true:=.g hm hp;have h1:rr N (.gi (at' p m)) (.go (at' p m))<=sm (λb=>rr N (.gi (at' p m)) b) ((VV N).filter λb => !decide (b∈l.map (·.1))):=E_ (f:=λb=>rr N (.gi (at' p m)) b) (λw _=>nn _ w) _ (jr.mpr ⟨(oK ..).mpr (.inl ((t.ky _).mpr (.inr ⟨_,_,.inr e⟩))),by rw[ij k3];rfl⟩)
    rw[t.rm _ _ _ e] at h1;exact h1
   .rw[bb c];exact DY λb _=>nn a b
  rw[Rj] at h1;have LO:C.Nodup:=by rw[hC];exact(Ri ok nd v n).filter _
  have ndC:(C.map Nd.gi).Nodup:=List.Pairwise.map _ (λa b j_ e=>j_ (by injection e)) LO
  have h2:=uD ndC (m:=((VV N).filter λv=>decide (v∈l.map (·.1))).filter λv=>decide (v∈C.map Nd.gi)) λx m=>by
   refine jr.mpr ⟨jr.mpr ?_,ig m⟩;obtain⟨c0,hc,rfl⟩:=gz.mp m;obtain⟨k1,k2,k3⟩:=(memC c0).mp hc;obtain⟨m,hm,p,hp,rfl⟩:=jE.mp k1;exact⟨(oK ..).mpr (.inl ((t.ky _).mpr (.inr ⟨_,_,.inl (.g hm hp)⟩))),ig k2⟩
  rw[bO] at h2;lia
 .have:=t.weak F s;lia
def Nu(h:az)(P:List Pl)(aa:Str)(n k:Nat):Prop:=(∃C,Sep h P aa n C/\C.length<=k)/\∀C,Sep h P aa n C->k<=C.length
section
variable{h:az}{P P':List Pl}{aa:Str}{n k k':Nat}
theorem O0{C C':List Ct}(hs:∀p,p∈P->p∈P')(hC:∀c,c∈C'->c∈C):∀{m:Nat} {p:Pl},ny h P C m p->ny h P' C' m p
 |0,p,z=>hs p z
 |m+1,q,⟨p,z,hc,hq⟩=>⟨p,O0 hs hC z,λy=>hc (hC _ y),hq⟩
theorem O3:∀{m:Nat} {q:Pl},¬ny h P (P.map (at' · 0)) (m+1) q
 |0,q,⟨p,z,hc,_⟩=>hc (gz.mpr ⟨p,z,rfl⟩)
 |m+1,q,⟨p,z,_,_⟩=>O3 z
theorem ZY(a:Nu h P aa n k):k<=P.length:=by
 have:=a.2 (P.map (at' · 0)) λm hm p z hc=>by
  cases m with
  |zero=>exact cu (gz.mpr ⟨p,z,rfl⟩) hc
  |succ m=>exact cu z O3
 rw[bO] at this;exact this
theorem O4{x:Pl}{C:List Ct}(hs:∀p,p∈P->p=x\/p∈P'):∀{m:Nat} {q:Pl},ny h P (at' x 0::C) m q->(m=0/\q=x)\/ny h P' C m q
 |0,q,z=>(hs q z).imp (λe=>⟨rfl,e⟩) id
 |m+1,q,⟨p,z,hc,hq⟩=>by
  rcases O4 hs z with⟨rfl,rfl⟩|y
  .exact cu (.head _) hc
  .exact .inr ⟨p,y,λw=>hc (.tail _ w),hq⟩
end
abbrev j5(as:List Sp):O:=.lst ((as.map aB).map .Y)
section
variable{α:Type}
noncomputable def lL(xs:List α)(k:Nat)(y:α):List α:=xs.take k++y::xs.drop k
theorem n9{xs:List α}{y x:α}:x∈lL xs k y↔x=y\/x∈xs:=by
 unfold lL;rw[eT,eX]
 conv=>rhs;rw[<-uk k xs,eT]
 constructor
 .rintro(z|z|z)
  .exact .inr (.inl z)
  .exact .inl z
  .exact .inr (.inr z)
 .rintro(z|z|z)
  .exact .inr (.inl z)
  .exact .inl z
  .exact .inr (.inr z)
theorem O5(xs:List α)(k:Nat)(y:α):(lL xs k y).length=xs.length+1:=by
 unfold lL;rw[fe,jl,qL,ui];lia
theorem Qo{xs:List α}{y:α}(h:xs.Nodup)(hy:y∉xs):(lL xs k y).Nodup:=by
 unfold lL;rw[List.perm_middle.nodup_iff,uk];exact i7.mpr ⟨hy,h⟩
theorem Qp(enc:α->D)(xs:List α)(i:Int)(y:α)(h0:0<=i)(h1:i<1000000)(hl:xs.length<1000000):vL (.lst ((xs.map enc).map .Y)) [.Y (.int i),.Y (enc y)]=some (.lst (((lL xs i.toNat y).map enc).map .Y),.Y .bF):=by
 show(if 0<=i/\i<1000000/\((xs.map enc).map O.Y).length<1000000 then _ else _)=_
 rw[aY ⟨h0,h1,by rw[bO,bO];exact hl⟩]
 unfold lL;rw[jm,cY,jm,cY,MG,Ha,MG,Ha]
theorem Yo(enc:α->D)(xs:List α)(y:α)(hl:xs.length<1000000):oM (.lst ((xs.map enc).map .Y)) [.Y (enc y)]=some (.lst (((xs++[y]).map enc).map .Y),.Y .bF):=by
 rw[pV,aY (by rw[bO];exact hl),show(xs++[y]).map enc=xs.map enc++[enc y] by simp]
theorem JS(enc:α->D)(xs:List α)(i:Int)(h0:0<=i)(h1:i<xs.length):∃x,x∈xs/\dO (xs.map enc) i=some (enc x):=by
 have hi:i.toNat<xs.length:=by lia
 refine⟨xs[i.toNat],vw hi,?_⟩;unfold dO n_;rw[bO,aY h0,aY h1];show(xs.map enc)[i.toNat]?=_;rw[kc,i8 hi];rfl
end
theorem vO(xs:List D):cK [.Y (.lst xs)]=some (.Y (.int (xs.length:Nat))):=rfl
theorem WA(F:ba)(g:bh F)(s1 s2 s3 a5:ak O)(pl:List Sp)(hl:pl.length<=100)(nd:pl.Nodup)(s:Sp)(hs:s∉pl):∃(F':ba) (sY:List Sp),bh F'/\(∀x,x∈sY↔x=s\/x∈pl)/\sY.length=pl.length+1/\sY.Nodup/\
  sZ [some (br F),s1,s2,s3,some (j5 pl),a5,some (.Y (aB s))]=some (.nx,[some (br F'),s1,s2,s3,some (j5 sY),a5,some (.Y (aB s))]):=by
 have hm:(0:Int)<(pl.length:Int)+1:=by lia
 have e1:=xd g (m:=(pl.length:Int)+1) hm (by lia)
 have d0:=qP F hm;have d1:=qQ F hm;have ei:=Qp aB pl (aQ F ((pl.length:Int)+1)) s d0 (by lia) (by lia)
 refine⟨aK F ((pl.length:Int)+1),lL pl (aQ F ((pl.length:Int)+1)).toNat s,g.draw _,λx=>n9,O5 _ _ _,Qo nd hs,?_⟩
 have dl:O.dl ((pl.map aB).map .Y)=pl.map aB:=jW _;have el:((pl.map aB).length:Int)=(pl.length:Int):=by rw[bO]
 generalize(pl.length:Int)=ol at *;unfold sZ;generalize aB s=sd at *;simp only[jv,lF,bc,bt,bf,↓ag,bp,cI,fA,bD,bq,bA,iC,fN,bz,uM,gG,dl,vM,el,↓evMap,bM,bB,iw,bT,ja,bG,fz,fy,e1,jH,fW,fV,fO,d_,ei,ck]
theorem WB(F:ba)(g:bh F)(s1 s2:ak O)(cs:List Sp)(c0:0<cs.length)(c1:cs.length<=200)(a5 a6:ak O)(pl:List Sp)(hl:pl.length<=100)(nd:pl.Nodup):∃(F':ba) (sY:List Sp) (Hl:ak O),bh F'/\(∀x,x∈sY->x∈pl\/x∈cs)/\sY.length<=pl.length+1/\sY.Nodup/\
  qH [some (br F),s1,s2,some (.Y (.lst (cs.map aB))),some (j5 pl),a5,a6]=some (.nx,[some (br F'),s1,s2,some (.Y (.lst (cs.map aB))),some (j5 sY),a5,Hl]):=by
 have hm:(0:Int)<(cs.length:Int):=by lia
 have e1:=xd g (m:=(cs.length:Int)) hm (by lia)
 have d0:=qP F hm;have d1:=qQ F hm;obtain⟨s,ms,es⟩:=JS aB cs (aQ F (cs.length:Int)) d0 d1;have e2:=JN true s pl;have el:cK [.Y (.lst (cs.map aB))]=some (.Y (.int (cs.length:Nat))):=by rw[vO,bO]
 have ex:dU (.Y (.lst (cs.map aB))) (.int (aQ F (cs.length:Int)))=some (.Y (aB s)):=by
  show(dO (cs.map aB) _).map O.Y=_;rw[es];rfl
 cases hb:dA s pl with
 |true=>
  rw[hb] at e2;refine⟨aK F (cs.length:Int),pl,some (.Y (aB s)),g.draw _,λx m=>.inl m,yH _,nd,?_⟩
  generalize(cs.length:Int)=ol at *;unfold qH;generalize sZ=pi at *;generalize aB s=sd at *;simp only[cM,dN,bD,bp,bc,bt,bf,↓ag,fA,bq,bA,bB,bz,el,ja,bG,fz,fy,e1,jH,fW,fV,cZ,ex,bK,bH,bL,reduceAdd,reduceLT,ck,aZ,dg,cF,iC,fN,e2,jR,cW,dq,cB]
 |false=>
  rw[hb] at e2;have hs:s∉pl:=λz=>by rw[eK.mpr z] at hb;cases hb
  obtain⟨F',sY,g',m',l',n',e3⟩:=WA (aK F (cs.length:Int)) (g.draw _) s1 s2 (some (.Y (.lst (cs.map aB)))) a5 pl hl nd s hs;refine⟨F',sY,some (.Y (aB s)),g',λx m=>((m' x).mp m).elim (λe=>.inr (by rw[e];exact ms)) .inl,by lia,n',?_⟩
  generalize(cs.length:Int)=ol at *;unfold qH;generalize sZ=pi at *;generalize aB s=sd at *;simp only[cM,dN,bD,bp,bc,bt,bf,↓ag,fA,bq,bA,bB,bz,el,ja,bG,fz,fy,e1,jH,fW,fV,cZ,ex,bK,bH,bL,reduceAdd,reduceLT,ck,aZ,dg,cF,iC,fN,e2,mU,e3,dq]
theorem WC(ok:gd h)(F:ba)(g:bh F)(a:Int)(a0:0<=a)(a1:a<=8):∃(F':ba) (pl:List Sp),bh F'/\(∀s∈pl,VC h s)/\(pl.length:Int)<=a/\pl.Nodup/\yS [br F,.Y (cx h),.Y (.int a)]=some (j5 pl,[some (br F'),none,none]):=by
 obtain⟨cs,cv,c0,c1,ec⟩:=P4 h ok;have e1:=xd g (m:=a+1) (by lia) (by lia)
 have d0:=qP F (m:=a+1) (by lia)
 have d1:=qQ F (m:=a+1) (by lia)
 obtain⟨aw,el,F',pl,a5,a6,g',m',l',n',rfl⟩:=mW (g:=bu 5) (f:=qH) (λk:Nat=>D.int (0+(k:Int))) (λpre Q0=>∃(F':ba) (pl:List Sp) (a5 a6:ak O),bh F'/\(∀x∈pl,x∈cs)/\pl.length<=pre.length/\pl.Nodup/\Q0=[some (br F'),some (.Y (cx h)),some (.Y (.int a)),some (.Y (.lst (cs.map aB))),some (j5 pl),a5,a6]) (List.range (aQ F (a+1)).toNat) []
  [some (br (aK F (a+1))),some (.Y (cx h)),some (.Y (.int a)),some (.Y (.lst (cs.map aB))),some (j5 []),none,none] ⟨aK F (a+1),[],none,none,g.draw _,(λx m=>by cases m),cX _,yJ,rfl⟩ (by
   rintro q x post Q0 ex ⟨F',pl,a5,a6,g',m',l',n',rfl⟩;rw[gc] at *;have lq:q.length<=9:=by have:=congrArg List.length ex;simp at this;lia
   obtain⟨F2,LV,Hl,g2,m2,l2,n2,e⟩:=WB F' g' (some (.Y (cx h))) (some (.Y (.int a))) cs c0 (by lia) (some (.Y (.int (0+(x:Int))))) a6 pl (by lia) n'
   refine⟨_,e,F2,LV,_,Hl,g2,λy my=>(m2 y my).elim (m' y) id,?_,n2,rfl⟩
   rw[fe,lC];lia)
 rw[gc] at *;rw[oH] at l';refine⟨F',pl,g',λs ms=>cv s (m' s ms),by lia,n',?_⟩
 rw[<-tT] at el;have i1:iW [.own (.Y (.int (aQ F (a+1))))]=some (aQ F (a+1)):=vJ (by lia)
 have e0:(j5 []:O)=.lst []:=rfl;rw[e0] at el;unfold yS;unfold Hz;generalize qH=pb at *;simp only[gD,dY,dZ,bK,bH,bL,reduceAdd,reduceSub,eV,eM,eE,eG,cM,dN,cI,fA,bp,bc,bt,bf,↓ag,bq,fz,fy,ec,fW,fV,bT,reduceLT,ck,bG,aZ,fg,reduceLeDiff,d_,zy,bD,bM,bA,bB,bz,iw,ja,e1,jH,i1,el,eS,rK,h_,gL,gM,qW,gR,gE]
theorem Oi{h:az}:∀{pl:List Sp},(∀s∈pl,VC h s)->pl.Nodup->∃P:List Pl,pl=P.map Sum.inr/\P.Nodup/\∀p,p∈P->VP h p
 |[],_,_=>⟨[],rfl,yJ,λp m=>(by cases m)⟩
 |s::pl,hv,nd=>by
  rw[i7] at nd;obtain⟨P,e,n,v⟩:=Oi (pl:=pl) (λs m=>hv s (.tail _ m)) nd.2
  obtain⟨b,hb,c,es,c0,c1⟩:=hv s (.head _);refine⟨(b.name,c)::P,by rw[es,e];rfl,i7.mpr ⟨λm=>nd.1 ?_,n⟩,λp m=>?_⟩
  .rw[es,e];exact gz.mpr ⟨_,m,rfl⟩
  .rcases eX.mp m with m|m
   .rw[m];exact⟨b,hb,rfl,c0,c1⟩
   .exact v p m
theorem EL(P:List Pl):(P.map Sum.inr).map aB=P.map aL:=by
 rw[mE];exact Hb λp _=>rfl
theorem JT(ds:List D):iH [.Y (.lst ds)]=some (.lst (ds.map .Y)):=rfl
theorem Yp(f:mF h.aG h.aF){b:aX}(hb:b∈h.aF):∃j:Nat,findS (h.aF.map aX.name) b.name=some j/\h.aF[j]?=some b:=by
 cases q:findS (h.aF.map aX.name) b.name with
 |none=>
  unfold findS at q;rw[List.findIdx?_eq_none_iff] at q;have:=q b.name (zW (f:=aX.name) hb);rw[lU] at this;cases this
 |some j=>
  obtain⟨e,_⟩:=Nf q;rw[kc] at e;cases r:h.aF[j]? with
  |none=>rw[r] at e;cases e
  |some x=>
   rw[r] at e;have e:x.name=b.name:=Option.some.inj e;rw[OT f x (qM r) b hb e] at r;exact⟨j,rfl,r⟩
theorem Vi(h:az)(f:mF h.aG h.aF)(b:aX)(hb:b∈h.aF)(ol:b.outs.length<=20)(s0 s1 s3 s4 s5 s6:ak O):
  ∃a8,fK (bu 8) qf (b.outs.map D.str) [s0,s1,some (.Y (.lst ((h.aF.map aX.name).map .str))),s3,s4,s5,s6,some (.lst []),none] =
   some (.nx,[s0,s1,some (.Y (.lst ((h.aF.map aX.name).map .str))),s3,s4,s5,s6,some (.lst ((b.outs.map (nY h)).map .Y)),a8]):=by
 obtain⟨aw,e,a8,rfl⟩:=mW (g:=bu 8) (f:=qf) D.str (λpre Q0=>∃a8,Q0=[s0,s1,some (.Y (.lst ((h.aF.map aX.name).map .str))),s3,s4,s5,s6,some (.lst ((pre.map (nY h)).map .Y)),a8]) b.outs []
  [s0,s1,some (.Y (.lst ((h.aF.map aX.name).map .str))),s3,s4,s5,s6,some (.lst []),none] ⟨_,rfl⟩ (by
   rintro q x post Q0 eq ⟨a8,rfl⟩;rw[gc];have hx:x∈b.outs:=by rw[eq];simp
   have hl:((q.map (nY h)).length<1000000)=True:=ke (by
    have:b.outs.length=q.length+(post.length+1):=by rw[eq,fe,jl]
    rw[bO];lia)
   rw[jm (l₁:=q) (l₂:=[x]),cY (f:=nY h),mT (f:=nY h)];refine⟨_,?_,some (fS x),rfl⟩;unfold qf;generalize q.map (nY h)=Q at *;rcases Eg f b hb x hx with z|z
   .have c1:(h.aF.map aX.name).contains x=true:=Dz.mpr z;have c2:¬h.aG.contains x=true:=λy=>DX f x (Dz.mp y) z
    have eg:nY h x=.tup [.str x,.int 0]:=by unfold nY;rw[bb c2]
    rw[eg];simp only[fU,bK,bH,bL,reduceAdd,reduceLT,ck,bG,aZ,↓ag,jv,lF,bc,bt,bf,bp,cI,xF,cF,bD,bq,bA,bB,bz,E8,cW,c1,cB,fg,bM,reduceLeDiff,fO,d_,jx,gy,bT,fX,pV,hl]
   .have c2:h.aG.contains x=true:=Dz.mpr z;have c1:(h.aF.map aX.name).contains x=false:=by
     rw[<-Dy,Dz];exact DX f x z
    have eg:nY h x=.str x:=by unfold nY;rw[aY c2]
    rw[eg];simp only[fU,bK,bH,bL,reduceAdd,reduceLT,ck,bG,aZ,↓ag,jv,lF,bc,bt,bf,bp,cI,xF,cF,bD,bq,bA,bB,bz,E8,cW,c1,cB,fg,bM,reduceLeDiff,fO,d_,bT,pV,hl])
 rw[gc] at e;exact⟨a8,e⟩
theorem O6(h:az)(ok:gd h)(b:aX)(hb:b∈h.aF)(c:Int):xa [.Y (cx h),.Y (.tup [.str b.name,.int c])]=some (.lst (((iY h b c).map aB).map .Y),[none,none]):=by
 rw[OU];have ol:=(ok.bk b hb).ol;have bl:=ok.bl;obtain⟨a',e1⟩:=Nv h.aF [] none (by rw[rq];lia)
 rw[mT,gc] at e1;obtain⟨j,j1,j2⟩:=Yp ok.fwd hb;have ea:dO (h.aF.map bZ) (j:Int)=some (bZ b):=o5 (by rw[kc,j2];rfl)
 obtain⟨a8,e2⟩:=Vi h ok.fwd b hb ol (some (.Y (cx h))) (some (.Y (.tup [.str b.name,.int c]))) (some (.Y (.str b.name))) (some (.Y (.int b.long))) (some (.Y (.bl b.ring))) (some (.Y (.lst (b.outs.map .str))));have et:∃aw,stepT [some (.Y (cx h)),some (.Y (.tup [.str b.name,.int c])),some (.Y (.lst ((h.aF.map aX.name).map .str))),some (.Y (.str b.name)),some (.Y (.int b.long)),some (.Y (.bl b.ring)),some (.Y (.lst (b.outs.map .str))),none,none]=some (.rt (.lst ((zt h b c).map .Y)),some (.Y (cx h))::some (.Y (.tup [.str b.name,.int c]))::aw)/\aw.length=7:=by
  unfold stepT zt;by_cases hc:c+1<b.long
  .rw[aY hc];refine⟨[some (.Y (.lst ((h.aF.map aX.name).map .str))),some (.Y (.str b.name)),some (.Y (.int b.long)),some (.Y (.bl b.ring)),some (.Y (.lst (b.outs.map .str))),none,none],?_,rfl⟩;simp only[cM,dg,cF,bD,bp,bc,bt,bf,↓ag,bM,bq,bA,bB,bz,cZ,kf,oJ,↓evMap,iw,gw,hc,decide_true,aZ,eS,fg,cI,bT,bK,bH,bL,reduceAdd,reduceLeDiff,fO,d_,jx,gy,fX,dq,dY,dZ]
  .rw[bb hc];unfold p_;have l1:((b.outs.map (nY h)).length<1000000)=True:=ke (by rw[bO];lia)
   refine⟨[some (.Y (.lst ((h.aF.map aX.name).map .str))),some (.Y (.str b.name)),some (.Y (.int b.long)),some (.Y (.bl b.ring)),some (.Y (.lst (b.outs.map .str))),none,a8],?_,rfl⟩;cases hr:b.ring with
   |true=>
    rw[aY rfl];rw[hr] at e2;simp only[cM,dg,cF,bD,bp,bc,bt,bf,↓ag,bM,bq,bA,bB,bz,cZ,kf,oJ,↓evMap,iw,gw,hc,decide_false,aZ,cW,eS,fg,cI,bT,bK,bH,bL,reduceAdd,reduceLeDiff,fO,d_,jx,gy,fX,dq,cB,dN,reduceLT,ck,bG,pU,e2,kI,oO,jv,lF,pV,l1,rK]
   |false=>
    rw[bb oT,lR];rw[hr] at e2;simp only[cM,dg,cF,bD,bp,bc,bt,bf,↓ag,bM,bq,bA,bB,bz,cZ,kf,oJ,↓evMap,iw,gw,hc,decide_false,aZ,cW,eS,fg,cI,bT,bK,bH,bL,reduceAdd,reduceLeDiff,fO,d_,jx,gy,fX,dq,cB,dN,reduceLT,ck,bG,pU,e2,kI,oO,jv,lF,pV,rK]
 obtain⟨aw,et,xS⟩:=et;unfold xa;unfold HS;have ix:Bt [.Y (.lst ((h.aF.map aX.name).map .str)),.Y (.str b.name)]=some (.Y (.int (j:Int))):=by rw[V3,j1];rfl
 have ea:dO (h.aF.map bZ) (j:Int)=some (.tup [.str b.name,.int b.long,.bl b.ring,.lst (b.outs.map .str)]):=ea;generalize(j:Int)=ji at *;simp only[gD,dY,dZ,bK,bH,bL,reduceAdd,reduceSub,eV,eM,eE,eG,cM,dN,cI,mY,qT,bD,bp,bc,bf,↓ag,bM,bq,bA,bB,bz,cZ,Ms,bT,nF,e1,oU,nt,nH,aZ,gG,BH,reduceLT,ck,bG,Zm,OG,bt,kf,lE,↓evMap,ix,o7,ea,Bc,AW,fU,AV,et,h_,xS,gL,gM,gR,gE]
theorem Oj{n:Nat}{q:List Nat}(h:List.range n=q++x::post):x=q.length/\q.length<n:=by
 have e:=OZ h;have l:=congrArg List.length h;rw[oH,fe,jl] at l;exact⟨e,by lia⟩
structure lD (h:az) (aa:Str) (hs:List Sp):Prop where
 v:∀s,s∈hs->s=.inl aa\/∃p,s=.inr p/\VP h p
 d:∀(i j:Nat) (p:Pl),hs[i]?=some (.inr p)->hs[j]?=some (.inr p)->i=j
def Tc(h:az)(aa:Str)(a b:Sp):Prop:=a=b\/∃p,a=.inr p/\b∈eR h (.inr p)/\(b=.inl aa\/∃q,b=.inr q)
structure yR (h:az) (aa:Str) (h0 hs:List Sp):Prop where
 l:hs.length=h0.length
 s:∀(k:Nat) (a b:Sp),h0[k]?=some a->hs[k]?=some b->Tc h aa a b
theorem JU(m:s∈eR h (.inr p)):s∈jk h p:=jQ _ m
structure Ay (h:az) (P:List Pl) (C:List Ct) (m:Nat) (hs:List Sp) (f:List (ak Ct)):Prop where
 l:f.length=hs.length
 n:∀(i j:Nat) (c:Ct),f[i]?=some (some c)->f[j]?=some (some c)->i=j
 c:∀(i:Nat) (x:Ct),f[i]?=some (some x)->x∈C/\∃(p:Pl) (k:Nat),x=at' p (k:Int)/\k<m
 u:∀k:Nat,f[k]?=some none->∃p,hs[k]?=some (.inr p)/\ny h P C m p
def yg(C:List Ct)(m:Nat)(o:ak Ct)(s:Sp):ak Ct:=match o with
 |some c=>some c
 |none=>match s with
  |.inr p=>if at' p (m:Int)∈C then some (at' p (m:Int)) else none
  |.inl _=>none
theorem Fe(hl:f.length=hs.length){o:ak Ct}(e:(List.zipWith (yg C m) f hs)[k]?=some o):∃a s,f[k]?=some a/\hs[k]?=some s/\yg C m a s=o:=by
 rw[List.getElem?_zipWith] at e;cases ha:f[k]? with
 |none=>rw[ha] at e;cases e
 |some a=>
  cases hb:hs[k]? with
  |none=>rw[ha,hb] at e;cases e
  |some s=>
   rw[ha,hb] at e;cases e;exact⟨a,s,rfl,rfl,rfl⟩
theorem El{o:ak Ct}(e:yg C m o s=some c):o=some c\/(o=none/\∃p,s=.inr p/\at' p (m:Int)∈C/\c=at' p (m:Int)):=by
 unfold yg at e;cases o with
 |some x=>exact .inl e
 |none=>
  cases s with
  |inl x=>cases e
  |inr p=>
   dsimp only at e;split at e
   .rename_i hc
    cases e;exact .inr ⟨rfl,p,rfl,hc,rfl⟩
   .cases e
theorem WD{o:ak Ct}(e:yg C m o (.inr p)=none):o=none/\at' p (m:Int)∉C:=by
 unfold yg at e;cases o with
 |some x=>cases e
 |none=>
  dsimp only at e;split at e
  .cases e
  .rename_i hc
   exact⟨rfl,hc⟩
theorem Yq{n:Nat}{jN:List Sp}(k:Ay h P C m hs f)(o:lD h aa hs)(t:yR h aa hs jN)(sp:Sep h P aa n C)(hm:m<n):Ay h P C (m+1) jN (List.zipWith (yg C m) f hs) where
 l:=by rw[List.length_zipWith,k.l,t.l,MA]
 n:=by
  intro i j c e1 e2;obtain⟨a,s,a1,s1,r1⟩:=Fe k.l e1;obtain⟨b,s',b1,s2,r2⟩:=Fe k.l e2;rcases El r1 with q1|⟨q1,p,q2,q3,q4⟩
  .rcases El r2 with w1|⟨w1,p',w2,w3,w4⟩
   .rw[q1] at a1;rw[w1] at b1;exact k.n i j c a1 b1
   .rw[q1] at a1;obtain⟨_,p2,k2,e,lt⟩:=k.c i c a1;have:=(o8 (w4.symm.trans e)).2;lia
  .rcases El r2 with w1|⟨w1,p',w2,w3,w4⟩
   .rw[w1] at b1;obtain⟨_,p2,k2,e,lt⟩:=k.c j c b1;have:=(o8 (q4.symm.trans e)).2;lia
   .have:=(o8 (q4.symm.trans w4)).1;subst this;rw[q2] at s1;rw[w2] at s2;exact o.d i j p s1 s2
 c:=by
  intro i x e;obtain⟨a,s,a1,s1,r1⟩:=Fe k.l e;rcases El r1 with q1|⟨q1,p,q2,q3,q4⟩
  .rw[q1] at a1;obtain⟨h1,p2,k2,e2,lt⟩:=k.c i x a1;exact⟨h1,p2,k2,e2,by lia⟩
  .rw[q4];exact⟨q3,p,m,rfl,by lia⟩
 u:=by
  intro i e;obtain⟨a,s,a1,s1,r1⟩:=Fe k.l e;have a0:a=none:=by
   cases a with
   |none=>rfl
   |some c=>cases r1
  subst a0;obtain⟨p,hp,rc⟩:=k.u i a1;rw[s1] at hp;cases hp;obtain⟨_,nc⟩:=WD r1;have hi:i<jN.length:=by rw[t.l];exact(iA.mp s1).1
  have st:=t.s i _ _ s1 (i8 hi);rcases st with st|⟨p',ep,ms,hq⟩
  .refine⟨p,by rw[i8 hi,<-st],p,rc,nc,e_.mpr (ir _ (i3.mpr rfl))⟩
  .cases ep;rcases hq with hq|⟨q,hq⟩
   .rw[hq] at ms;exact cu (eK.mpr (JU ms)) (sp m hm p rc nc)
   .rw[hq] at ms;exact⟨q,by rw[i8 hi,hq],p,rc,nc,e_.mpr (JU ms)⟩
theorem Kk:∀(f:List (ak Ct)),(∀(i j:Nat) (c:Ct),f[i]?=some (some c)->f[j]?=some (some c)->i=j)->(f.filterMap id).Nodup
 |[],_=>yJ
 |none::f,h=>Kk f λi j c e1 e2=>by have:=h (i+1) (j+1) c e1 e2;lia
 |some x::f,h=>by
  show(x::f.filterMap id).Nodup;refine i7.mpr ⟨λm=>?_,Kk f λi j c e1 e2=>by have:=h (i+1) (j+1) c e1 e2;lia⟩
  obtain⟨a,ma,ea⟩:=wQ.mp m;have ea:a=some x:=ea;subst ea;obtain⟨j,hj,ej⟩:=Dx.mp ma;have:=h 0 (j+1) x rfl (by rw[MC,i8 hj,ej])
  lia
theorem Rk(aa:Str):∀(hs:List Sp) (f:List (ak Ct)),f.length=hs.length->(∀k:Nat,f[k]?=some none->∃p,hs[k]?=some (.inr p))->(hs.countP λs=>decide (s=.inl aa))<=(f.filterMap id).length
 |[],f,_,_=>nq _
 |s::hs,[],hl,_=>by cases hl
 |s::hs,o::f,hl,u=>by
  have ih:=Rk aa hs f (by rw[jl,jl] at hl;lia) λk e=>u (k+1) e
  rw[List.countP_cons];cases o with
  |none=>
   obtain⟨p,e⟩:=u 0 rfl;have e:some s=some (.inr p):=e;cases e;show _<=(f.filterMap id).length;rw[show decide ((Sum.inr p:Sp)=.inl aa)=false from ij λz=>by cases z]
   simpa using ih
  |some x=>
   show _<=(f.filterMap id).length+1;split <;> lia
theorem ZZ(k:Ay h P C m hs f):(hs.countP λs=>decide (s=.inl aa))<=C.length:=by
 refine k_ (Rk aa hs f k.l λi e=>?_) (uD (Kk f k.n) λx mx=>?_)
 .obtain⟨p,e,_⟩:=k.u i e;exact⟨p,e⟩
 .obtain⟨a,ma,ea⟩:=wQ.mp mx;have ea:a=some x:=ea;subst ea;obtain⟨j,hj,ej⟩:=Dx.mp ma;exact(k.c j x (by rw[i8 hj,ej])).1
theorem WE:Ay h P C 0 (P.map Sum.inr) (List.replicate P.length none) where
 l:=by rw[Mw,bO]
 n:=by
  intro i j c e;rw[G4] at e;split at e <;> cases e
 c:=by
  intro i c e;rw[G4] at e;split at e <;> cases e
 u:=by
  intro k e;rw[G4] at e;split at e
  .rename_i hk
   exact⟨P[k],by rw[kc,i8 hk];rfl,vw hk⟩
  .cases e
theorem WG(nd:P.Nodup)(v:∀p,p∈P->VP h p):lD h aa (P.map Sum.inr) where
 v:=by
  intro s m;obtain⟨p,mp,rfl⟩:=gz.mp m;exact .inr ⟨p,rfl,v p mp⟩
 d:=by
  intro i j p e1 e2;rw[kc] at e1 e2;obtain⟨a,a1,a2⟩:=jt.mp e1;obtain⟨b,b1,b2⟩:=jt.mp e2;cases a2;cases b2;obtain⟨hi,ei⟩:=iA.mp a1;obtain⟨hj,ej⟩:=iA.mp b1;have pw:=List.pairwise_iff_getElem.mp nd;rcases Nat.lt_trichotomy i j with c|c|c
  .exact cu (ei.trans ej.symm) (pw i j hi hj c)
  .exact c
  .exact cu (ej.trans ei.symm) (pw j i hj hi c)
theorem Z0(ok:gd h)(o:lD h aa hs)(t:yR h aa h0 hs)(e0:h0[k]?=some (.inr p))(e1:hs[k]?=some (.inr p))(ms:s∈eR h (.inr p))(hf:s=.inl aa\/∃q,s=.inr q/\s∉hs):lD h aa (hs.set k s)/\yR h aa h0 (hs.set k s):=by
 have hk:k<hs.length:=(iA.mp e1).1;have vp:VP h p:=by
  rcases o.v _ (qM e1) with z|⟨p',z,v⟩
  .cases z
  .cases z;exact v
 have xq:(hs.set k s)[k]?=some s:=by rw[List.getElem?_set_self hk]
 have rO:∀i,i≠k->(hs.set k s)[i]?=hs[i]?:=λi hi=>Ds (λz=>hi z.symm)
 refine⟨⟨λx m=>?_,λi j q e2 e3=>?_⟩,⟨by rw[Dv,t.l],λi a b e2 e3=>?_⟩⟩
 .rcases List.mem_or_eq_of_mem_set m with m|m
  .exact o.v x m
  .rw[m];rcases hf with hf|⟨q,hf,_⟩
   .exact .inl hf
   .rw[hf] at ms;exact .inr ⟨q,hf,AR ok vp (e_.mpr (JU ms))⟩
 .by_cases ci:i=k
  .by_cases cj:j=k
   .rw[ci,cj]
   .rw[ci,xq] at e2;rw[rO j cj] at e3;cases e2;rcases hf with hf|⟨q',hf,nh⟩
    .cases hf
    .exact cu (qM e3) nh
  .by_cases cj:j=k
   .rw[cj,xq] at e3;rw[rO i ci] at e2;cases e3;rcases hf with hf|⟨q',hf,nh⟩
    .cases hf
    .exact cu (qM e2) nh
   .rw[rO i ci] at e2;rw[rO j cj] at e3;exact o.d i j q e2 e3
 .by_cases ci:i=k
  .subst ci;rw[xq] at e3;cases e3;rw[e0] at e2;cases e2;refine .inr ⟨p,rfl,ms,?_⟩;rcases hf with hf|⟨q,hf,_⟩
   .exact .inl hf
   .exact .inr ⟨q,hf⟩
  .rw[rO i ci] at e3;exact t.s i a b e2 e3
def bN(k:Nat):D:=.int (k:Int)
abbrev fj(os:List Nat):O:=.lst ((os.map bN).map .Y)
theorem JV{L:List D}{k:Int}{d:D}(ha:dO L k=some d):dO (L.map O.Y) k=some (.Y d):=by
 unfold dO at *;rw[bO];cases e:n_ L.length k with
 |none=>rw[e] at ha;cases ha
 |some j=>
  rw[e] at ha;have ha:L[j]?=some d:=ha;show(L.map O.Y)[j]?=_;rw[kc,ha];rfl
section
variable(h:az)(P:List Pl)(aa:Str)(T:Int)
def rG(F:ba)(hs:List Sp)(a6 a7 a8 a9 bX cn:ak O):Gm:=[some (br F),some (.Y (cx h)),some (.Y (.lst (P.map aL))),some (.Y (aB (.inl aa))),some (.Y (.int T)),some (j5 hs),a6,a7,a8,a9,bX,cn]
theorem Z4(F:ba)(hs:List Sp)(k:Int)(a6 a7 a9 bX cn:ak O)(ha:dO (hs.map aB) k=some (aB (.inl aa))):oi (rG h P aa T F hs a6 a7 (some (.Y (.int k))) a9 bX cn)=some (.nx,rG h P aa T F hs a6 a7 (some (.Y (.int k))) a9 bX cn):=by
 have n1:=RF (.inl aa) (.inl aa);rw[ig rfl] at n1;have ha:=JV ha;unfold oi rG j5;generalize hs.map aB=L at *;generalize aB (.inl aa)=dc at *;simp only[dg,cF,bD,bp,bc,bt,bf,↓ag,bq,bA,iC,fN,bB,bz,cZ,vU,ha,vH,n1,jR,cW,jv,lF,dq,cB]
theorem Yr(F:ba)(g:bh F)(hs:List Sp)(s:Sp)(ib:s≠.inl aa)(k:Int)(kn:Nat)(hk:k=kn)(os:List Nat)(hl:os.length<=100)(a6 a9 bX cn:ak O)(ha:dO (hs.map aB) k=some (aB s)):
  ∃(F':ba) (i:Nat),bh F'/\oi (rG h P aa T F hs a6 (some (fj os)) (some (.Y (.int k))) a9 bX cn)=some (.nx,rG h P aa T F' hs a6 (some (fj (lL os i kn))) (some (.Y (.int k))) a9 bX cn):=by
 have hm:(0:Int)<(os.length:Int)+1:=by lia
 have e1:=xd g (m:=(os.length:Int)+1) hm (by lia)
 have d0:=qP F hm;have d1:=qQ F hm;have ei:=Qp bN os (aQ F ((os.length:Int)+1)) kn d0 (by lia) (by lia)
 refine⟨aK F ((os.length:Int)+1),(aQ F ((os.length:Int)+1)).toNat,g.draw _,?_⟩;have ek:D.int k=bN kn:=by rw[hk];rfl
 have n1:=RF s (.inl aa);rw[ij ib] at n1;have dl:O.dl ((os.map bN).map .Y)=os.map bN:=jW _;have el:((os.map bN).length:Int)=(os.length:Int):=by rw[bO]
 rw[<-ek] at ei;generalize(os.length:Int)=ol at *;have ha:=JV ha;unfold oi rG j5;generalize hs.map aB=L at *;generalize aB (.inl aa)=dc at *;generalize aB s=sd at *;simp only[dg,cF,bD,bp,bc,bt,bf,↓ag,bq,bA,iC,fN,bB,bz,cZ,vU,ha,vH,n1,mU,jv,lF,cI,fA,uM,gG,dl,vM,el,↓evMap,bM,iw,bT,ja,bG,fz,fy,e1,jH,fW,fV,fO,d_,ei,ck,dq,aZ]
end
theorem Rl(a b:Nat):bj (bN a) (bN b)=decide (a=b):=by
 unfold bN;rw[oQ];by_cases e:a=b
 .rw[ig e,e,lU]
 .rw[ij e,oI];lia
theorem Ys(os:List Nat):(os.map bN).all (cS 40)=true:=by
 rw[nr];intro d hd;obtain⟨a,_,rfl⟩:=gz.mp hd;exact mZ _ _
theorem Yt(x:Nat)(os:List Nat):((os.map bN).any λz=>bj z (bN x))=decide (x∈os):=by
 rw[List.any_map,uj,zV,DE];constructor
 .rintro⟨a,ma,e⟩;have e:bj (bN a) (bN x)=true:=e;rw[Rl,DE] at e;rw[<-e];exact ma
 .intro m;exact⟨x,m,by show bj (bN x) (bN x)=true;rw[Rl,ig rfl]⟩
theorem Yu(x:Nat)(os:List Nat):bR false [.Y (bN x),.lst ((os.map bN).map .Y)]=some (.Y (.bl (decide (x∈os)))):=by
 have key:((ox (O.lst ((os.map bN).map O.Y)).d).bind λds=>if cS 40 (O.Y (bN x)).d=true/\ds.all (cS 40)=true then some (O.Y (.bl (if false=true then !ds.any λz=>bj z (O.Y (bN x)).d else ds.any λz=>bj z (O.Y (bN x)).d))) else none)=some (.Y (.bl (decide (x∈os)))):=by
  rw[gG,jW,bT];show(Option.bind (some (os.map bN)) _)=_;rw[Option.bind_some,aY ⟨mZ _ _,Ys os⟩,Yt,bb oT]
 exact key
theorem Rm(hs:List Sp)(s:Sp)(k:Int)(kn:Nat)(hk:k=kn)(hl:kn<hs.length):jC (.lst ((hs.map aB).map .Y)) [.Y (aB s),.Y (.int k)]=some (.lst (((hs.set kn s).map aB).map .Y),.Y .bF):=by
 rw[Ez];have e:n_ ((hs.map aB).map O.Y).length k=some kn:=by
  unfold n_;rw[bO,bO,aY (by lia),aY (by lia)]
  congr 1
  lia
 rw[e,MD,MD];rfl
theorem Z5(os:List Nat)(x:Nat)(m:x∈os):∃j:Nat,os[j]?=some x/\tU (.lst ((os.map bN).map .Y)) [.Y (bN x)]=some (.lst (((os.eraseIdx j).map bN).map .Y),.Y .bF):=by
 have e0:(os.map bN).map O.Y=(os.map λk:Nat=>(k:Int)).map q9:=by rw[mE,mE];rfl
 have e1:=T9 (os.map λk:Nat=>(k:Int)) (x:Int)
 cases hf:lX (os.map λk:Nat=>(k:Int)) (x:Int) with
 |none=>
  unfold lX at hf;rw[List.findIdx?_eq_none_iff] at hf;have:=hf (x:Int) (gz.mpr ⟨x,m,rfl⟩);rw[lU] at this;cases this
 |some j=>
  obtain⟨s1,_⟩:=Nl hf;rw[kc] at s1;obtain⟨y,y1,y2⟩:=jt.mp s1;have:y=x:=by lia
  subst this;refine⟨j,y1,?_⟩;rw[e0];rw[hf] at e1;have e1:tU (.lst ((os.map λk:Nat=>(k:Int)).map q9)) [.Y (bN y)]=_:=e1
  rw[e1];show some (O.lst (((os.map λk:Nat=>(k:Int)).eraseIdx j).map q9),O.Y .bF)=_
  rw[DP,mE,mE];rfl
theorem Rn(a b:Sp):oEq [.Y (aB a),.Y (aB b)]=some (.Y (.bl (decide (a=b)))):=by
 rw[mJ,bT,bT,aY ⟨ub 39 a,ub 39 b⟩,BM]
theorem Jh(A:List Sp):gp [.Y (.lst (A.map aB)),.lst []]=some (.Y (.bl (decide (A≠[])))):=by
 rw[Jv,bT,gG,aY ⟨Bz 38 A,rfl⟩];cases A with
 |nil=>
  show some (O.Y (.bl (!bj (.lst []) (.lst []))))=_;unfold bj eU;rfl
 |cons p A=>
  show some (O.Y (.bl (!bj (.lst (aB p::A.map aB)) (.lst []))))=_;unfold bj eU;rfl
theorem Mo(ok:gd h)(v:VP h p):xa [.Y (cx h),.Y (aB (.inr p))]=some (.lst (((eR h (.inr p)).map aB).map .Y),[none,none]):=by
 obtain⟨n,c⟩:=p;obtain⟨b,hb,rfl,_⟩:=v;rw[Jc ok.fwd hb c];exact O6 h ok b hb c
theorem O7(ok:gd h)(v:VP h p):(eR h (.inr p)).length<=31:=by
 have:=EH ok v;unfold jk at this;rw[fe] at this;lia
def sE(aa:Str)(s:Sp):Bool:=decide (s=.inl aa) || !s.isLeft
def wu(aa:Str)(hs:List Sp)(s:Sp):Bool:=decide (s=.inl aa) || !dA s hs
section
variable(h:az)(P:List Pl)(aa:Str)(T:Int)
theorem e8y(ok:gd h)(F:ba)(hs:List Sp)(p:Pl)(v:VP h p)(k:Int)(ha:dO (hs.map aB) k=some (aB (.inr p)))(a6 a7 a9 bX cn:ak O):
  C9 (rG h P aa T F hs a6 a7 (some (.Y (.int k))) a9 bX cn)=some (.own (.lst ((((eR h (.inr p)).filter (sE aa)).map aB).map .Y)),rG h P aa T F hs a6 a7 (some (.Y (.int k))) a9 bX cn):=by
 have e1:=Mo ok v;have hl:=O7 ok v;obtain⟨aw,⟨x0,rfl⟩,e2⟩:=tR (g:=bu 0) (ct:=nX (gT (gB oEq (ae 0) (ae 1))) (jy (gk (gO gn (aj (ae 0) (aj (gC (.ty "str")) gN)))))) (ce:=ae 0) (λQ0=>∃x0,Q0=[x0,some (.Y (aB (.inl aa)))]) aB (sE aa) aB (eR h (.inr p)) [] [none,some (.Y (aB (.inl aa)))] ⟨none,rfl⟩ (by rw[rq];lia) (by
  rintro s _ Q0 ⟨x0,rfl⟩;refine⟨[some (.Y (aB s)),some (.Y (aB (.inl aa)))],?_,_,rfl⟩;have q1:=Rn s (.inl aa);have q2:=P1 s;unfold sE;generalize decide (s=.inl aa)=b1 at *;generalize s.isLeft=b2 at *;generalize aB (.inl aa)=dc at *;generalize aB s=sd at *;cases b1 <;> cases b2 <;> simp only[Bool.or_true,G5,jR,mU,aZ,cW,cB] <;> simp only[qR,fU,bK,bH,bL,reduceAdd,reduceLT,bG,aZ,↓ag,EY,cF,bD,bp,bc,bf,bt,bq,bA,bB,bz,q1,cW,rL,kI,bM,q2,oO,mU,cB,jR])
 rw[mT,gc] at e2;have ha:=JV ha;generalize(eR h (.inr p)).filter (sE aa)=R at *;generalize(eR h (.inr p)).map aB=S at *;unfold C9 rG j5;generalize hs.map aB=L at *;generalize aB (.inl aa)=dc at *;generalize aB (.inr p)=dp at *;simp only[mY,qT,cI,fA,bp,bc,bt,bf,↓ag,bD,bq,bA,iC,fN,bB,bz,cZ,vU,ha,vH,fz,fy,e1,fW,fV,gG,rN,eV,eM,oY,ck,bG,nF,eE,eG,e2,bK,bH,bL,reduceAdd,oU,nt,oZ,nH,aZ]
theorem e8z(F:ba)(hs sm:List Sp)(hl:sm.length<=100)(a6 a7 a8 a9 cn:ak O):
  B0 (rG h P aa T F hs a6 a7 a8 a9 (some (.Y (.lst (sm.map aB)))) cn)=some (.own (.lst (((sm.filter (wu aa hs)).map aB).map .Y)),rG h P aa T F hs a6 a7 a8 a9 (some (.Y (.lst (sm.map aB)))) cn):=by
 obtain⟨aw,⟨x0,rfl⟩,e2⟩:=tR (g:=bu 0) (ct:=nX (gT (gB oEq (ae 0) (ae 1))) (gT (gB (bR true) (ae 0) (ae 2)))) (ce:=ae 0) (λQ0=>∃x0,Q0=[x0,some (.Y (aB (.inl aa))),some (j5 hs)]) aB (wu aa hs) aB sm [] [none,some (.Y (aB (.inl aa))),some (j5 hs)] ⟨none,rfl⟩ (by rw[rq];lia) (by
  rintro s _ Q0 ⟨x0,rfl⟩;refine⟨[some (.Y (aB s)),some (.Y (aB (.inl aa))),some (j5 hs)],?_,_,rfl⟩;have q1:=Rn s (.inl aa);have q2:=JN true s hs;rw[aY rfl] at q2;unfold wu j5;generalize decide (s=.inl aa)=b1 at *;generalize dA s hs=b2 at *;generalize aB (.inl aa)=dc at *;generalize aB s=sd at *;cases b1 <;> cases b2 <;> simp only[Bool.or_true,G5,jR,mU,aZ,cW,cB] <;> simp only[qR,fU,bK,bH,bL,reduceAdd,reduceLT,bG,aZ,↓ag,EY,cF,bD,bp,bc,bf,bt,bq,bA,bB,bz,q1,cW,iC,fN,q2,mU,cB,jR])
 rw[mT,gc] at e2;generalize sm.filter (wu aa hs)=R at *;generalize sm.map aB=S at *;unfold B0 rG;unfold j5 at *;generalize hs.map aB=L at *;generalize aB (.inl aa)=dc at *;simp only[mY,qT,cI,bc,bt,bf,↓ag,bT,eV,eM,oY,fN,ck,bG,nF,eE,eG,e2,bK,bH,bL,reduceAdd,oU,nt,oZ,nH,aZ]
end
structure TI (h:az) (aa:Str) (h0 hs:List Sp) (left:List Nat):Prop where
 o:lD h aa hs
 t:yR h aa h0 hs
 n:left.Nodup
 e:∀k,k∈left->hs[k]?=h0[k]?/\∃p,h0[k]?=some (.inr p)
theorem TI.go(ok:gd h){left:List Nat}(ti:TI h aa h0 hs left)(hj:left[j]?=some k)(e1:hs[k]?=some (.inr p))(ms:s∈eR h (.inr p))(hf:s=.inl aa\/∃q,s=.inr q/\s∉hs):TI h aa h0 (hs.set k s) (left.eraseIdx j):=by
 have mk:=qM hj;have e0:h0[k]?=some (.inr p):=by rw[<-(ti.e k mk).1];exact e1
 obtain⟨o,t⟩:=Z0 ok ti.o ti.t e0 e1 ms hf;refine⟨o,t,(List.eraseIdx_sublist _ _).nodup ti.n,λi mi=>?_⟩
 obtain⟨i1,i2⟩:=ti.e i ((List.eraseIdx_sublist _ _).subset mi);have ne:i≠k:=λz=>by
  subst z;obtain⟨a,ha,ib,ea⟩:=List.mem_eraseIdx_iff_getElem.mp mi;obtain⟨Sh,ej⟩:=iA.mp hj;have pw:=List.pairwise_iff_getElem.mp ti.n;rcases Nat.lt_trichotomy a j with c|c|c
  .exact pw a j ha Sh c (ea.trans ej.symm)
  .exact ib c
  .exact pw j a Sh ha c (ej.trans ea.symm)
 refine⟨?_,i2⟩;rw[Ds (λz=>ne z.symm)]
 exact i1
section
variable(h:az)(P:List Pl)(aa:Str)(T:Int)
theorem WH(F:ba)(hs fr:List Sp)(left:List Nat)(k:Int)(kn:Nat)(hk:k=kn)(hl:kn<hs.length)(dX:List Nat)(rm:tU (fj left) [.Y (.int k)]=some (fj dX,.Y .bF))(hm:dA (.inl aa) fr=true)(a6 a7 bX:ak O):
  rf (rG h P aa T F hs a6 a7 (some (.Y (.int k))) (some (fj left)) bX (some (.Y (.lst (fr.map aB)))))=some (.nx,rG h P aa T F (hs.set kn (.inl aa)) a6 a7 (some (.Y (.int k))) (some (fj dX)) bX (some (.Y (.lst (fr.map aB))))):=by
 have i1:=Bh false (.inl aa) fr;rw[bb oT,hm] at i1;have pt:=Rm hs (.inl aa) k kn hk hl;unfold rf CB rG;unfold j5;generalize(hs.set kn (.inl aa)).map aB=L' at *;generalize hs.map aB=L at *;generalize fr.map aB=R at *;unfold fj at *;generalize dX.map bN=MM at *;generalize left.map bN=LF at *;generalize aB (.inl aa)=dc at *;simp only[dg,cF,bD,bp,bc,bt,bf,↓ag,bq,bA,bB,bz,i1,cM,qu,pt,ck,bG,jv,lF,fO,d_,rm,aZ]
theorem WI(F:ba)(hs:List Sp)(k:Int)(a6 a7 a9 bX:ak O):
  rf (rG h P aa T F hs a6 a7 (some (.Y (.int k))) a9 bX (some (.Y (.lst (([]:List Sp).map aB)))))=some (.nx,rG h P aa T F hs a6 a7 (some (.Y (.int k))) a9 bX (some (.Y (.lst (([]:List Sp).map aB))))):=by
 have i1:=Bh false (.inl aa) [];have i1:bR false [.Y (aB (.inl aa)),.Y (.lst (([]:List Sp).map aB))]=some (.Y (.bl false)):=i1;have nn:=Jh [];have nn:gp [.Y (.lst (([]:List Sp).map aB)),.lst []]=some (.Y (.bl false)):=nn;unfold rf GK rG;generalize([]:List Sp).map aB=R at *;generalize CB=ma at *;generalize GJ=mc at *;generalize aB (.inl aa)=dc at *;simp only[dg,cF,bD,bp,bc,bt,bf,↓ag,bq,bA,bB,bz,i1,cW,mI,fg,bH,reduceLeDiff,d_,aZ,nn,fA,bM,ja,bG,fz,fy,cB,dq]
theorem WJ(F:ba)(g:bh F)(hs fr:List Sp)(k:Int)(hm:dA (.inl aa) fr=false)(ib:fr≠[])(hd:¬0<aQ F 6)(a6 a7 a9 bX:ak O):
  rf (rG h P aa T F hs a6 a7 (some (.Y (.int k))) a9 bX (some (.Y (.lst (fr.map aB)))))=some (.nx,rG h P aa T (aK F 6) hs a6 a7 (some (.Y (.int k))) a9 bX (some (.Y (.lst (fr.map aB))))):=by
 have i1:=Bh false (.inl aa) fr;rw[bb oT,hm] at i1;have nn:=Jh fr;rw[ig ib] at nn;have e1:=xd g (m:=6) (by decide) (by decide)
 unfold rf GK rG;generalize fr.map aB=R at *;generalize CB=ma at *;generalize GJ=mc at *;generalize aB (.inl aa)=dc at *;simp only[dg,cF,bD,bp,bc,bt,bf,↓ag,bq,bA,bB,bz,i1,cW,mI,fg,bH,reduceLeDiff,d_,aZ,nn,fA,bM,ja,bG,fz,fy,e1,jH,fW,fV,gw,hd,decide_false,dq,cB]
theorem Z8(F:ba)(g:bh F)(hs fr:List Sp)(left:List Nat)(k:Int)(kn:Nat)(hk:k=kn)(hl:kn<hs.length)(dX:List Nat)(rm:tU (fj left) [.Y (.int k)]=some (fj dX,.Y .bF))(hm:dA (.inl aa) fr=false)(ib:fr≠[])(hlen:fr.length<=100)(hd:0<aQ F 6)(a6 a7 bX:ak O):
  ∃s,s∈fr/\rf (rG h P aa T F hs a6 a7 (some (.Y (.int k))) (some (fj left)) bX (some (.Y (.lst (fr.map aB)))))=some (.nx,rG h P aa T (aK (aK F 6) (fr.length:Int)) (hs.set kn s) a6 a7 (some (.Y (.int k))) (some (fj dX)) bX (some (.Y (.lst (fr.map aB))))):=by
 have i1:=Bh false (.inl aa) fr;rw[bb oT,hm] at i1;have nn:=Jh fr;rw[ig ib] at nn;have e1:=xd g (m:=6) (by decide) (by decide)
 have h0:(0:Int)<(fr.length:Int):=by
  have:=List.length_pos_iff.mpr ib;lia
 have e2:=xd (g.draw 6) (m:=(fr.length:Int)) h0 (by lia)
 have d0:=qP (aK F 6) h0;have d1:=qQ (aK F 6) h0;obtain⟨s,ms,es⟩:=JS aB fr (aQ (aK F 6) (fr.length:Int)) d0 d1;refine⟨s,ms,?_⟩;have pt:=Rm hs s k kn hk hl;have el:cK [.Y (.lst (fr.map aB))]=some (.Y (.int (fr.length:Nat))):=by rw[vO,bO]
 have ex:dU (.Y (.lst (fr.map aB))) (.int (aQ (aK F 6) (fr.length:Int)))=some (.Y (aB s)):=by
  show(dO (fr.map aB) _).map O.Y=_;rw[es];rfl
 generalize(fr.length:Int)=fl at *;unfold rf GK GJ rG;unfold j5;generalize(hs.set kn s).map aB=L' at *;generalize hs.map aB=L at *;generalize fr.map aB=R at *;unfold fj at *;generalize dX.map bN=MM at *;generalize left.map bN=LF at *;generalize aB (.inl aa)=dc at *;generalize aB s=sd at *;generalize CB=ma at *;simp only[dg,cF,bD,bp,bc,bt,bf,↓ag,bq,bA,bB,bz,i1,cW,mI,fg,bH,reduceLeDiff,d_,aZ,nn,fA,bM,ja,bG,fz,fy,e1,jH,fW,fV,gw,hd,decide_true,cM,qu,el,e2,cZ,ex,pt,ck,jv,lF,fO,rm,dq,cB]
theorem Yv(ok:gd h)(F:ba)(g:bh F)(h0 hs:List Sp)(left:List Nat)(ti:TI h aa h0 hs left)(kn:Nat)(a6 a7 bX cn:ak O):
  ∃(F':ba) (jN:List Sp) (dX:List Nat) (iz ia:ak O),bh F'/\TI h aa h0 jN dX/\wz (rG h P aa T F hs a6 a7 (some (.Y (bN kn))) (some (fj left)) bX cn)=some (.nx,rG h P aa T F' jN a6 a7 (some (.Y (bN kn))) (some (fj dX)) iz ia):=by
 have i1:=Yu kn left;obtain⟨k,hk⟩:∃k:Int,k=kn:=⟨_,rfl⟩;have ek:bN kn=.int k:=by rw[hk];rfl
 by_cases m:kn∈left
 .rw[ig m] at i1;obtain⟨e1,p,e0⟩:=ti.e kn m;rw[e0] at e1;obtain⟨j,hj,rm⟩:=Z5 left kn m;have hl:kn<hs.length:=(iA.mp e1).1;have vp:VP h p:=by
   rcases ti.o.v _ (qM e1) with z|⟨p',z,v⟩
   .cases z
   .cases z;exact v
  have ha:dO (hs.map aB) k=some (aB (.inr p)):=by
   rw[hk];apply o5;rw[kc,e1];rfl
  rw[ek] at i1 rm ⊢;have s1:=e8y h P aa T ok F hs p vp k ha a6 a7 (some (fj left)) bX cn;have sl:=O7 ok vp;have jO:∀s,s∈((eR h (.inr p)).filter (sE aa)).filter (wu aa hs)->s∈eR h (.inr p)/\(s=.inl aa\/∃q,s=.inr q/\s∉hs):=λs ms=>by
   obtain⟨m1,m2⟩:=jr.mp ms;obtain⟨m3,m4⟩:=jr.mp m1;refine⟨m3,?_⟩;by_cases c:s=.inl aa
   .exact .inl c
   .unfold sE at m4;unfold wu at m2;rw[ij c,Bool.false_or] at m2 m4;cases s with
    |inl x=>cases m4
    |inr q=>
     refine .inr ⟨q,rfl,λz=>?_⟩
     rw[eK.mpr z] at m2;cases m2
  have fl:((eR h (.inr p)).filter (sE aa)).length<=31:=k_ (Hf _ _) sl;have s2:=e8z h P aa T F hs ((eR h (.inr p)).filter (sE aa)) (by lia) a6 a7 (some (.Y (.int k))) (some (fj left)) cn
  have rl:(((eR h (.inr p)).filter (sE aa)).filter (wu aa hs)).length<=31:=k_ (Hf _ _) fl;generalize((eR h (.inr p)).filter (sE aa)).filter (wu aa hs)=fr at *;generalize(eR h (.inr p)).filter (sE aa)=sm at *;have go:∀(F':ba) (jN:List Sp) (dX:List Nat),rf (rG h P aa T F hs a6 a7 (some (.Y (.int k))) (some (fj left)) (some (.Y (.lst (sm.map aB)))) (some (.Y (.lst (fr.map aB)))))=some (.nx,rG h P aa T F' jN a6 a7 (some (.Y (.int k))) (some (fj dX)) (some (.Y (.lst (sm.map aB)))) (some (.Y (.lst (fr.map aB)))))->
    wz (rG h P aa T F hs a6 a7 (some (.Y (.int k))) (some (fj left)) bX cn)=some (.nx,rG h P aa T F' jN a6 a7 (some (.Y (.int k))) (some (fj dX)) (some (.Y (.lst (sm.map aB)))) (some (.Y (.lst (fr.map aB))))):=λF' jN dX e=>by
   have i1:bR false [.Y (.int k),fj left]=some (.Y (.bl true)):=i1;have d1:O.dl ((sm.map aB).map .Y)=sm.map aB:=jW _;have d2:O.dl ((fr.map aB).map .Y)=fr.map aB:=jW _;generalize fr.map aB=R at *;generalize sm.map aB=S at *;unfold wz;unfold rG at *;unfold j5 fj at *;generalize jN.map aB=L' at *;generalize hs.map aB=L at *;generalize dX.map bN=MM at *;generalize left.map bN=LF at *;generalize aB (.inl aa)=dc at *;generalize C9=c1 at *;generalize B0=c2 at *;generalize rf=md at *;simp only[dg,cF,bD,bp,bc,bt,bf,↓ag,bq,bA,bB,iC,fN,bz,i1,cM,dN,cI,s1,gG,d1,bK,bH,bL,reduceAdd,reduceLT,ck,bG,aZ,s2,d2,e,dq]
  have rm:tU (fj left) [.Y (.int k)]=some (fj (left.eraseIdx j),.Y .bF):=rm;cases hm:dA (.inl aa) fr with
  |true=>
   obtain⟨q1,q2⟩:=jO _ (eK.mp hm);exact⟨F,_,_,_,_,g,ti.go ok hj e1 q1 (.inl rfl),go _ _ _ (WH h P aa T F hs fr left k kn hk hl _ rm hm a6 a7 _)⟩
  |false=>
   by_cases ib:fr=[]
   .subst ib;exact⟨F,hs,left,_,_,g,ti,go _ _ _ (WI h P aa T F hs k a6 a7 (some (fj left)) _)⟩
   .by_cases hd:0<aQ F 6
    .obtain⟨s,ms,es⟩:=Z8 h P aa T F g hs fr left k kn hk hl _ rm hm ib (by lia) hd a6 a7 (some (.Y (.lst (sm.map aB))))
     obtain⟨q1,q2⟩:=jO _ ms;exact⟨_,_,_,_,_,(g.draw 6).draw _,ti.go ok hj e1 q1 q2,go _ _ _ es⟩
    .exact⟨_,hs,left,_,_,g.draw 6,ti,go _ _ _ (WJ h P aa T F g hs fr k hm ib hd a6 a7 (some (fj left)) _)⟩
 .rw[ij m] at i1;refine⟨F,hs,left,bX,cn,g,ti,?_⟩;have i1:bR false [.Y (bN kn),fj left]=some (.Y (.bl false)):=i1;unfold wz rG;unfold j5 fj at *;generalize bN kn=kd at *;generalize left.map bN=LF at *;generalize hs.map aB=L at *;generalize C9=c1 at *;generalize B0=c2 at *;generalize rf=md at *;simp only[dg,cF,bD,bp,bc,bt,bf,↓ag,bq,bA,bB,iC,fN,bz,i1,cW,cM,dN,cI,dq,cB]
end
theorem Z9(aa:Str)(hs:List Sp):E5 [.Y (.lst (hs.map aB)),.Y (aB (.inl aa))]=some (.Y (.int (((hs.countP λs=>decide (s=.inl aa)):Nat):Int))):=by
 show(if cS 40 (aB (.inl aa))=true/\(hs.map aB).all (cS 40)=true then _ else none)=_
 rw[aY ⟨ub 39 _,Bz 39 hs⟩,List.countP_map];have:((λz=>bj z (aB (.inl aa)))∘aB)=λs:Sp=>decide (s=.inl aa):=by
  funext s;exact BM s (.inl aa)
 rw[this]
theorem Z_(ds:List D):iH [.lst (ds.map .Y)]=some (.lst (ds.map .Y)):=by
 show Option.map (λds=>O.lst (List.map O.Y ds)) (match de (.lst (ds.map .Y)) with|some ds=>some ds|none=>vn (.lst (ds.map .Y)))=_
 rw[EZ];rfl
theorem WK(h:az)(aa:Str)(hs:List Sp):yR h aa hs hs:=⟨rfl,λk a b e1 e2=>by rw[e1] at e2;cases e2;exact .inl rfl⟩
theorem uO(os:List Nat)(hl:os.length<=1000):bY [.lst ((os.map bN).map .Y),.lst ((os.map bN).map .Y)]=some (.lst (((os++os).map bN).map .Y)):=by
 rw[Bd,EZ,Option.bind_some,Option.bind_some,aY (by rw[bO];lia),jm (f:=bN)]
section
variable(h:az)(P:List Pl)(aa:Str)(T:Int)
theorem WL(F:ba)(g:bh F)(hs:List Sp)(ho:lD h aa hs)(hl:hs.length<=100)(a6 a8 a9 bX cn:ak O):
  ∃(F':ba) (os:List Nat) (b8:ak O),bh F'/\os.Nodup/\os.length<=100/\(∀k,k∈os->∃p,hs[k]?=some (.inr p))/\fK (bu 8) oi (gq 0 hs.length) (rG h P aa T F hs a6 (some (.lst [])) a8 a9 bX cn)=some (.nx,rG h P aa T F' hs a6 (some (fj os)) b8 a9 bX cn):=by
 obtain⟨aw,e,F',os,b8,g',n',l',m',rfl⟩:=mW (g:=bu 8) (f:=oi) (λk:Nat=>D.int (0+(k:Int))) (λpre Q0=>∃(F':ba) (os:List Nat) (b8:ak O),bh F'/\os.Nodup/\os.length<=pre.length/\(∀k,k∈os->k<pre.length/\∃p,hs[k]?=some (.inr p))/\Q0=rG h P aa T F' hs a6 (some (fj os)) b8 a9 bX cn) (List.range hs.length) []
  (rG h P aa T F hs a6 (some (.lst [])) a8 a9 bX cn) ⟨F,[],a8,g,yJ,cX _,(λk m=>by cases m),rfl⟩ (by
   rintro q x post Q0 ex ⟨F',os,b8,g',n',l',m',rfl⟩;rw[gc] at *;obtain⟨ex1,ex2⟩:=Oj ex;have hn:bu 8 (.int (0+(x:Int))) (rG h P aa T F' hs a6 (some (fj os)) b8 a9 bX cn)=some (rG h P aa T F' hs a6 (some (fj os)) (some (.Y (.int (0+(x:Int))))) a9 bX cn):=rfl;rw[hn,Option.bind_some,fe,lC];have hx:x<hs.length:=by lia
   have ha:dO (hs.map aB) (0+(x:Int))=some (aB hs[x]):=by
    rw[Int.zero_add];apply o5;rw[kc,i8 hx];rfl
   rcases ho.v hs[x] (vw hx) with z|⟨p,z,_⟩
   .rw[z] at ha;exact⟨_,Z4 h P aa T F' hs _ a6 _ a9 bX cn ha,F',os,_,g',n',by lia,λk m=>⟨by have:=(m' k m).1;lia,(m' k m).2⟩,rfl⟩
   .obtain⟨F2,i,g2,e2⟩:=Yr h P aa T F' g' hs hs[x] (λy=>by rw[z] at y;cases y) (0+(x:Int)) x (by lia) os (by lia) a6 a9 bX cn ha
    refine⟨_,e2,F2,_,_,g2,Qo n' (λm=>?_),by rw[O5];lia,λk m=>?_,rfl⟩
    .have:=(m' x m).1;lia
    .rcases n9.mp m with m|m
     .subst m;exact⟨by lia,p,by rw[i8 hx,z]⟩
     .exact⟨by have:=(m' k m).1;lia,(m' k m).2⟩)
 rw[gc] at *;rw[oH] at l';rw[<-tT] at e;exact⟨F',os,b8,g',n',by lia,λk m=>(m' k m).2,e⟩
theorem Yw(ok:gd h)(F:ba)(g:bh F)(hs:List Sp)(ho:lD h aa hs)(os:List Nat)(nd:os.Nodup)(hp:∀k,k∈os->∃p,hs[k]?=some (.inr p))(a6 a8 bX cn:ak O):
  ∃(F':ba) (jN:List Sp) (left:List Nat) (b8 iz ia:ak O),bh F'/\TI h aa hs jN left/\fK (bu 8) wz ((os++os).map bN) (rG h P aa T F hs a6 (some (fj os)) a8 (some (fj os)) bX cn)=some (.nx,rG h P aa T F' jN a6 (some (fj os)) b8 (some (fj left)) iz ia):=by
 obtain⟨aw,e,F',jN,left,b8,iz,ia,g',ti,rfl⟩:=Iq (g:=bu 8) (f:=wz) bN (λQ0=>∃(F':ba) (jN:List Sp) (left:List Nat) (b8 iz ia:ak O),bh F'/\TI h aa hs jN left/\Q0=rG h P aa T F' jN a6 (some (fj os)) b8 (some (fj left)) iz ia) (os++os)
  (rG h P aa T F hs a6 (some (fj os)) a8 (some (fj os)) bX cn) ⟨F,hs,os,a8,bX,cn,g,⟨ho,WK h aa hs,nd,λk m=>⟨rfl,hp k m⟩⟩,rfl⟩ (by
   rintro k _ Q0 ⟨F',jN,left,b8,iz,ia,g',ti,rfl⟩;have hn:bu 8 (bN k) (rG h P aa T F' jN a6 (some (fj os)) b8 (some (fj left)) iz ia)=some (rG h P aa T F' jN a6 (some (fj os)) (some (.Y (bN k))) (some (fj left)) iz ia):=rfl;rw[hn,Option.bind_some];obtain⟨F2,oS,Cy,qX,pZ,g2,ti2,e2⟩:=Yv h P aa T ok F' g' hs jN left ti k a6 (some (fj os)) iz ia;exact⟨_,e2,F2,oS,Cy,_,qX,pZ,g2,ti2,rfl⟩)
 exact⟨F',jN,left,b8,iz,ia,g',ti,e⟩
theorem Γ(ok:gd h)(F:ba)(g:bh F)(hs:List Sp)(ho:lD h aa hs)(hl:hs.length<=100)(a6 a7 a8 a9 bX cn:ak O):
  ∃(F':ba) (jN:List Sp) (b7 b8 b9 iz ia:ak O),bh F'/\lD h aa jN/\yR h aa hs jN/\Dm (rG h P aa T F hs a6 a7 a8 a9 bX cn)=some (.nx,rG h P aa T F' jN a6 b7 b8 b9 iz ia):=by
 obtain⟨F1,os,b8,g1,n1,l1,p1,e1⟩:=WL h P aa T F g hs ho hl a6 a8 a9 bX cn;obtain⟨F2,oS,left,c8,qX,pZ,g2,ti,e2⟩:=Yw h P aa T ok F1 g1 hs ho os n1 p1 a6 b8 bX cn;refine⟨F2,oS,some (fj os),c8,some (fj left),qX,pZ,g2,ti.o,ti.t,?_⟩;have lo:=Z_ (os.map bN);have ad:=uO os (by lia)
 have el:((hs.map aB).length:Int)=(hs.length:Int):=by rw[bO]
 have i1:iW [.own (.Y (.int (hs.length:Int)))]=some (hs.length:Int):=vJ (by lia)
 have et:(hs.length:Int).toNat=hs.length:=by lia
 rw[<-et] at e1;have dl:O.dl ((hs.map aB).map .Y)=hs.map aB:=jW _;have d2:O.dl (((os++os).map bN).map .Y)=(os++os).map bN:=jW _;unfold Dm;unfold rG at *;unfold j5 fj at *;generalize(hs.length:Int)=n at *;generalize oS.map aB=L2 at *;generalize hs.map aB=L at *;generalize(os++os).map bN=O2 at *;generalize os.map bN=O1 at *;generalize left.map bN=LF at *;generalize oi=ob at *;generalize wz=mb at *;simp only[cM,dN,fg,bq,↓ag,bH,reduceLeDiff,d_,aZ,bK,bL,reduceAdd,reduceLT,ck,bG,zy,bp,bD,bc,bt,bf,bA,iC,fN,bz,uM,gG,dl,vM,el,↓evMap,i1,e1,lo,pU,cI,ad,d2,e2]
end
theorem e9a(ok:gd h)(nd:P.Nodup)(v:∀p,p∈P->VP h p)(aa:Str)(T:Int)(n:Nat)(hT:T=n)(hn:n<=160)(hP:P.length<=20)(sp:Sep h P aa n C)(F:ba)(g:bh F):
  ∃(F':ba) (c:Int),bh F'/\c<=(C.length:Int)/\EF [br F,.Y (cx h),.Y (.lst (P.map aL)),.Y (.str aa),.Y (.int T)]=some (.Y (.int c),[some (br F'),none,none,none,none]):=by
 obtain⟨aw,e,F',hs,f,a6,a7,a8,a9,bX,cn,g',ho,hl,mk,rfl⟩:=mW (g:=bu 6) (f:=Dm) (λk:Nat=>D.int (0+(k:Int))) (λpre Q0=>∃(F':ba) (hs:List Sp) (f:List (ak Ct)) (a6 a7 a8 a9 bX cn:ak O),bh F'/\lD h aa hs/\hs.length=P.length/\Ay h P C pre.length hs f/\Q0=rG h P aa T F' hs a6 a7 a8 a9 bX cn) (List.range n) []
  (rG h P aa T F (P.map Sum.inr) none none none none none none) ⟨F,_,_,none,none,none,none,none,none,g,WG nd v,bO ..,WE,rfl⟩ (by
   rintro q x post Q0 ex ⟨F',hs,f,a6,a7,a8,a9,bX,cn,g',ho,hl,mk,rfl⟩;rw[gc] at *;obtain⟨ex1,ex2⟩:=Oj ex;have hn:bu 6 (.int (0+(x:Int))) (rG h P aa T F' hs a6 a7 a8 a9 bX cn)=some (rG h P aa T F' hs (some (.Y (.int (0+(x:Int))))) a7 a8 a9 bX cn):=rfl;rw[hn,Option.bind_some,fe,lC];obtain⟨F2,oS,b7,b8,b9,iz,ia,g2,Gw,t2,e2⟩:=Γ h P aa T ok F' g' hs ho (by lia) (some (.Y (.int (0+(x:Int))))) a7 a8 a9 bX cn
   exact⟨_,e2,F2,oS,_,_,b7,b8,b9,iz,ia,g2,Gw,by rw[t2.l,hl],Yq mk ho t2 sp (by lia),rfl⟩)
 have le:=ZZ (aa:=aa) mk;rw[<-tT] at e;have i1:iW [.own (.Y (.int T))]=some T:=vJ (by lia)
 have et:T.toNat=n:=by lia
 rw[<-et] at e;have ec:=Z9 aa hs;refine⟨F',((hs.countP λs=>decide (s=.inl aa):Nat):Int),g',by lia,?_⟩
 have l1:=JT (P.map aL);have e0:j5 (P.map Sum.inr)=.lst ((P.map aL).map .Y):=by
  unfold j5;rw[EL]
 have dl:O.dl ((hs.map aB).map .Y)=hs.map aB:=jW _;have ed:(O.lst ((hs.map aB).map .Y)).d=.lst (hs.map aB):=by rw[gG,dl]
 generalize((hs.countP λs=>decide (s=.inl aa):Nat):Int)=c at *
 unfold EF;unfold I_;rw[show(D.str aa)=aB (.inl aa) from rfl];unfold rG at *;rw[e0] at e;unfold j5 at e;generalize hs.map aB=L at *;generalize P.map aL=PL at *;generalize aB (.inl aa)=dc at *;generalize Dm=tb at *;simp only[gD,dY,dZ,bK,bH,bL,reduceAdd,reduceSub,eV,eM,eE,eG,cM,dN,bD,bp,bc,bt,bf,↓ag,bq,bA,bB,bz,l1,reduceLT,ck,bG,aZ,zy,i1,e,RL,ed,eS,OG,ec,h_,gL,gM,qW,gR,gE]
theorem Nw{aG:List Str}{bs:List aX}:∀{pre:List aX},mF aG (pre++bs)->mF aG bs
 |[],f=>f
 |_::pre,f=>Nw (pre:=pre) f.2.2.2
def j'(kn:List (Str×Int)):List (TK×O):=kn.map λp=>(.inr p.1,.Y (.int p.2))
def yc(kn:List (Str×Int)):List (TK×D):=kn.map λp=>(.inr p.1,.int p.2)
def atS(kn:List (Str×Int))(n:Str):ak Int:=(kn.find? λp=>p.1 == n).map (·.2)
theorem Kl:∀kn:List (Str×Int),O.dk (j' kn)=yc kn
 |[]=>rfl
 |k::ks=>by
  show(_,_)::O.dk (j' ks)=_;rw[Kl ks];rfl
theorem Qq(a b:Str):decide ((TK.inr a:TK)=TK.inr b)=(a == b):=by
 by_cases e:a=b
 .rw[ig (by rw[e]),e,lU]
 .rw[ij (λz=>e (TK.inr.inj z)),show(a == b)=false by rw[oI];exact e]
theorem Qr(x:Str):atS [] x=none:=rfl
theorem uH(k:Str)(v:Int)(kn:List (Str×Int))(x:Str):atS ((k,v)::kn) x=if k=x then some v else atS kn x:=by
 unfold atS;rw[qi];by_cases e:k=x
 .rw[aY e,show(k == x)=true by rw[e,lU]];rfl
 .rw[bb e,show(k == x)=false by rw[oI];exact e]
theorem Em(k:Str)(v:Int)(x:Str):∀kn:List (Str×Int),atS (kn++[(k,v)]) x=(atS kn x).or (if k=x then some v else none)
 |[]=>by rw[gc,uH,Qr,Option.none_or]
 |(k',v')::kn=>by
  rw[DA,uH,uH,Em k v x kn];split
  .rfl
  .rfl
theorem EM(x:Str):∀kn:List (Str×Int),iZ (yc kn) (.inr x)=(atS kn x).map .int
 |[]=>rfl
 |(k,v)::kn=>by
  have ih:=EM x kn;rw[uH];unfold iZ yc at *;rw[cY,qi];dsimp only;rw[Qq];by_cases e:k=x
  .rw[aY e,show(k == x)=true by rw[e,lU]];rfl
  .rw[bb e,show(k == x)=false by rw[oI];exact e];exact ih
theorem Qs(x:Str):∀kn:List (Str×Int),iM (j' kn) (.inr x)=(atS kn x).map λv=>.Y (.int v)
 |[]=>rfl
 |(k,v)::kn=>by
  have ih:=Qs x kn;rw[uH];unfold iM j' at *;rw[cY,qi];dsimp only;rw[Qq];by_cases e:k=x
  .rw[aY e,show(k == x)=true by rw[e,lU]];rfl
  .rw[bb e,show(k == x)=false by rw[oI];exact e];exact ih
theorem RM(neg:Bool)(x:Str)(kn:List (Str×Int)):bR neg [.Y (.str x),.aI (j' kn)]=some (.Y (.bl (if neg then !(atS kn x).isSome else(atS kn x).isSome))):=by
 unfold bR;simp only[iE,Kl,cJ,Option.bind_some,EM,Hc]
theorem Ro(neg:Bool)(x:Str)(kn:List (Str×Int)):bR neg [.Y (.str x),.Y (.aI (yc kn))]=some (.Y (.bl (if neg then !(atS kn x).isSome else(atS kn x).isSome))):=by
 unfold bR;simp only[iE,cJ,Option.bind_some,EM,Hc]
theorem e9b(kn:List (Str×Int))(x:Str){v:Int}(h:atS kn x=some v):dU (.aI (j' kn)) (.str x)=some (.Y (.int v)):=by
 show((cJ (.str x)).bind λk=>(iM (j' kn) k).bind iJ)=_
 rw[show cJ (.str x)=some (.inr x) from rfl,Option.bind_some,Qs,h];rfl
theorem Δ(kn:List (Str×Int))(x:Str){v:Int}(h:atS kn x=some v):dU (.Y (.aI (yc kn))) (.str x)=some (.Y (.int v)):=by
 show((cJ (.str x)).bind λk=>(iZ (yc kn) k).map O.Y)=_
 rw[show cJ (.str x)=some (.inr x) from rfl,Option.bind_some,EM,h];rfl
theorem Vj{α:Type}(e:TK×α)(es:List (TK×α))(k:TK)(v:α):cP (e::es) k v=if e.1=k then(e.1,v)::es else e::cP es k v:=rfl
theorem Qt:∀(kn:List (Str×Int)) (k:Str) (v:Int),atS kn k=none->cP (j' kn) (.inr k) (.Y (.int v))=j' (kn++[(k,v)])
 |[],_,_,_=>rfl
 |(k',v')::kn,k,v,h=>by
  rw[uH] at h;have e:¬k'=k:=λz=>by rw[aY z] at h;cases h
  rw[bb e] at h;show cP ((TK.inr k',O.Y (.int v'))::j' kn) (.inr k) (.Y (.int v))=(TK.inr k',O.Y (.int v'))::j' (kn++[(k,v)]);rw[<-Qt kn k v h,Vj,bb (λz=>e (TK.inr.inj z))]
theorem Ξ(kn:List (Str×Int))(k:Str)(v:Int)(h:atS kn k=none)(hl:kn.length<1000000):jC (.aI (j' kn)) [.Y (.int v),.Y (.str k)]=some (.aI (j' (kn++[(k,v)])),.Y .bF):=by
 show(if(j' kn).length<1000000 then some (O.aI (cP (j' kn) (.inr k) (.Y (.int v))),O.Y .bF) else none)=_
 rw[aY (by unfold j';rw[bO];exact hl),Qt kn k v h]
theorem RV(kn:List (Str×Int)):(O.aI (j' kn)).d=.aI (yc kn):=by show D.aI (O.dk (j' kn))=_;rw[Kl]
def gh(kn:List (Str×Int))(outs:List Str):List Int:=outs.filterMap (atS kn)
def bP(aa:Str):List aX->List (Str×Int)
 |[]=>[(aa,0)]
 |b::bs=>if gh (bP aa bs) b.outs=[] then bP aa bs else bP aa bs++[(b.name,b.long+jg (gh (bP aa bs) b.outs))]
theorem O8(aa:Str):∀bs:List aX,(bP aa bs).length<=bs.length+1
 |[]=>cX _
 |b::bs=>by
  have:=O8 aa bs;unfold bP;split
  .rw[jl];lia
  .rw[fe,lC,jl];lia
theorem En{aa:Str}:∀{bs:List aX} {n:Str},n≠aa->n∉bs.map aX.name->atS (bP aa bs) n=none
 |[],n,h1,_=>by
  show atS [(aa,0)] n=none;rw[uH,bb (λz=>h1 z.symm),Qr]
 |b::bs,n,h1,h2=>by
  rw[cY] at h2;have h3:n≠b.name:=λz=>h2 (by rw[z];exact .head _)
  have ih:=En (aa:=aa) (bs:=bs) h1 λz=>h2 (.tail _ z)
  unfold bP;split
  .exact ih
  .rw[Em,ih,bb (λz=>h3 z.symm)];rfl
theorem MR(kn:List (Str×Int)):∀outs:List Str,(outs.filter λo=>(atS kn o).isSome).map (λo=>(atS kn o).getD 0)=gh kn outs
 |[]=>rfl
 |o::outs=>by
  have ih:=MR kn outs;unfold gh at *;cases e:atS kn o with
  |none=>rw[List.filter_cons_of_neg (by rw[e];exact oT),List.filterMap_cons_none e,ih]
  |some v=>rw[List.filter_cons_of_pos (by rw[e];rfl),cY,ih,List.filterMap_cons_some e,e];rfl
theorem WM(h:az)(aa:Str)(f:mF h.aG h.aF)(hc:aa∈h.aG)(bl:h.aF.length<=100)(ol:∀b∈h.aF,b.outs.length<=100):Ee [.Y (cx h),fS aa]=some (.aI (j' (bP aa h.aF)),[none,none]):=by
 obtain⟨aw,e,a3,a4,a5,a6,a7,rfl⟩:=mW (g:=fZ [(bu 3),(bu 4),(bu 5),(bu 6)]) (f:=aR (aq 7 (ay (jY (iX (ae 6)) (bu 0) (gT (gB (bR false) (ae 0) (ae 1))) (gB bJ (ae 1) (ae 0)) 1 [2]))) (cw (gk (ae 7)) (fE (ay (gB bY (ae 4) (gO sO (aj (ae 7) gN)))) (ae 2) (ae 3)) bw)) bZ (λpre Q0=>∃a3 a4 a5 a6 a7,Q0=[some (.Y (cx h)),some (fS aa),some (.aI (j' (bP aa pre.reverse))),a3,a4,a5,a6,a7]) h.aF.reverse [] [some (.Y (cx h)),some (fS aa),some (.aI (j' (bP aa []))),none,none,none,none,none] ⟨_,_,_,_,_,rfl⟩ (by
   rintro q x post Q0 eq ⟨a3,a4,a5,a6,a7,rfl⟩;rw[gc];have eb:h.aF=post.reverse++x::q.reverse:=by
    have:=congrArg List.reverse eq;rw[List.reverse_reverse,List.reverse_append,G_,iN] at this;exact this
   have hx:x∈h.aF:=by rw[eb];simp
   have hq:q.reverse.length<=100:=by have:=congrArg List.length eb;simp at this;simp;lia
   have fx:mF h.aG (x::q.reverse):=Nw (by rw[<-eb];exact f)
   have hl:=O8 aa q.reverse;have hox:=ol x hx;obtain⟨cD,⟨a,rfl⟩,ec⟩:=tR (g:=bu 0) (ct:=gT (gB (bR false) (ae 0) (ae 1))) (ce:=gB bJ (ae 1) (ae 0)) (λQ0=>∃a,Q0=[a,some (.aI (j' (bP aa q.reverse)))]) D.str (λo=>(atS (bP aa q.reverse) o).isSome) (λo=>.int ((atS (bP aa q.reverse) o).getD 0)) x.outs [] [none,some (.aI (j' (bP aa q.reverse)))] ⟨_,rfl⟩ (by rw[rq];lia) (by
    rintro o ho Q0 ⟨a,rfl⟩;refine⟨[some (fS o),some (.aI (j' (bP aa q.reverse)))],?_,_,rfl⟩;cases e:atS (bP aa q.reverse) o with
    |none=>
     rw[MB,bb oT];simp only[qR,fU,bK,bH,bL,reduceAdd,reduceLT,bG,aZ,↓ag,cF,bD,bp,bc,bf,bt,bq,bA,bB,iC,fN,bz,RM,cW,e,MB,cB,cZ]
    |some v=>
     have ei:=e9b _ _ e;rw[Option.isSome_some,aY rfl];simp only[qR,fU,bK,bH,bL,reduceAdd,reduceLT,bG,aZ,↓ag,cF,bD,bp,bc,bf,bt,bq,bA,bB,iC,fN,bz,RM,cW,e,Option.isSome_some,cB,cZ,ei,Option.getD_some])
   rw[mT,gc,show(x.outs.filter λo=>(atS (bP aa q.reverse) o).isSome).map (λo=>D.int ((atS (bP aa q.reverse) o).getD 0))=(gh (bP aa q.reverse) x.outs).map .int by rw[<-MR,mE];rfl] at ec
   rw[List.reverse_append,List.reverse_singleton,List.singleton_append];have ebg:bP aa (x::q.reverse)=if gh (bP aa q.reverse) x.outs=[] then bP aa q.reverse else bP aa q.reverse++[(x.name,x.long+jg (gh (bP aa q.reverse) x.outs))]:=by
    conv=>lhs;unfold bP
   have hn:atS (bP aa q.reverse) x.name=none:=En (λz=>fx.2.2.1 (by rw[z];exact hc)) fx.2.1
   generalize bP aa q.reverse=kn at *;rw[ebg];unfold bZ;by_cases hb:gh kn x.outs=[]
   .rw[aY hb];rw[hb] at ec;refine⟨_,?_,some (.Y (.str x.name)),some (.Y (.int x.long)),some (.Y (.bl x.ring)),some (.Y (.lst (x.outs.map .str))),some (.Y (.lst [])),rfl⟩;simp only[Bc,AW,fU,bK,bH,bL,reduceAdd,reduceLT,ck,bG,aZ,↓ag,AV,cM,dN,cI,mY,qT,bc,bt,bf,bT,eV,eM,oY,fN,nF,eE,eG,ec,dZ,oU,nt,oZ,nH,gG,fX,dg,kI,bB,ze,List.isEmpty_nil,jR,cW,qu,bD,bp,bq,bA,bz,dq,cB]
   .rw[bb hb];have em:=Zk _ hb;have ep:=Ξ kn x.name (x.long+jg (gh kn x.outs)) hn (by lia)
    have ee:(gh kn x.outs).isEmpty=false:=by
     cases e:gh kn x.outs with
     |nil=>exact cu e hb
     |cons _ _=>rfl
    refine⟨_,?_,some (.Y (.str x.name)),some (.Y (.int x.long)),some (.Y (.bl x.ring)),some (.Y (.lst (x.outs.map .str))),some (.Y (.lst ((gh kn x.outs).map .int))),rfl⟩;simp only[Bc,AW,fU,bK,bH,bL,reduceAdd,reduceLT,ck,bG,aZ,↓ag,AV,cM,dN,cI,mY,qT,bc,bt,bf,bT,eV,eM,oY,fN,nF,eE,eG,ec,oU,nt,oZ,nH,gG,rN,dg,kI,bB,ze,List.isEmpty_map,ee,mU,qu,bD,bp,bq,bA,bz,em,iw,ep,dq])
 rw[gc,List.reverse_reverse,List.map_reverse] at e;unfold Ee IA;have k1:cJ (.str aa)=some (.inr aa):=rfl;have k2:O.aI [(TK.inr aa,O.Y (D.int 0))]=.aI (j' (bP aa [])):=rfl;simp only[gD,dY,dZ,bK,bH,bL,reduceAdd,reduceSub,eV,eM,eE,eG,cM,dN,OD,bc,bt,bf,↓ag,bM,k1,↓evMap,k2,reduceLT,ck,bG,aZ,XB,cI,bD,bp,bq,bA,bB,bz,cZ,Ms,bT,e,eS,rK,h_,gL,gM,gR,gE]
theorem DK{x:aX}{bs:List aX}{n:Str}(h:n≠x.name):atS (bP aa (x::bs)) n=atS (bP aa bs) n:=by
 conv=>lhs;unfold bP
 split
 .rfl
 .rw[Em,bb (λz=>h z.symm),Option.or_none]
theorem Nx{kn':List (Str×Int)}(h:∀o∈outs,atS kn o=atS kn' o):gh kn outs=gh kn' outs:=by
 unfold gh
 induction outs with
 |nil=>rfl
 |cons o outs ih=>
  have:=ih λz hz=>h z (.tail _ hz)
  rw[yG,yG,h o (.head _),this]
theorem Qu{aG:List Str}{aa:Str}(hc:aa∈aG):∀{bs:List aX},mF aG bs->∀b∈bs,atS (bP aa bs) b.name=if gh (bP aa bs) b.outs=[] then none else some (b.long+jg (gh (bP aa bs) b.outs))
 |x::bs,f,b,hb=>by
  rcases eX.mp hb with rfl|hb
  .have ho:∀o∈b.outs,o≠b.name:=λo ho z=>by
    rcases f.1 o ho with y|y
    .exact f.2.1 (by rw[<-z];exact y)
    .exact f.2.2.1 (by rw[<-z];exact y)
   have e:=Nx (kn:=bP aa (b::bs)) (kn':=bP aa bs) (outs:=b.outs) λo m=>DK (ho o m)
   rw[e]
   conv=>lhs;unfold bP
   have hn:atS (bP aa bs) b.name=none:=En (λz=>f.2.2.1 (by rw[z];exact hc)) f.2.1
   split
   .exact hn
   .rw[Em,hn,aY rfl];rfl
  .have hn:b.name≠x.name:=λz=>f.2.1 (by rw[<-z];exact zW (f:=aX.name) hb)
   have ho:∀o∈b.outs,o≠x.name:=λo ho z=>by
    rcases Eg f.2.2.2 b hb o ho with y|y
    .exact f.2.1 (by rw[<-z];exact y)
    .exact f.2.2.1 (by rw[<-z];exact y)
   have e:=Nx (kn:=bP aa (x::bs)) (kn':=bP aa bs) (outs:=b.outs) λo m=>DK (ho o m)
   rw[e,DK hn];exact Qu hc f.2.2.2 b hb
theorem Qv{aG:List Str}{aa:Str}(hc:aa∈aG):∀{bs:List aX},mF aG bs->atS (bP aa bs) aa=some 0
 |[],_=>by show atS [(aa,0)] aa=some 0;rw[uH,aY rfl]
 |x::bs,f=>by rw[DK (λz=>f.2.2.1 (by rw[<-z];exact hc))];exact Qv hc f.2.2.2
theorem WN{aG:List Str}{c:Str}{bs:List aX}(f:mF aG bs)(hc:c∈aG)(h:c≠aa):atS (bP aa bs) c=none:=En h (DX f c hc)
theorem jD{v:Int}:v∈gh kn outs↔∃o∈outs,atS kn o=some v:=wQ
theorem Ji{n:Str}{v:Int}(e:atS kn n=some v):(n,v)∈kn:=by
 induction kn with
 |nil=>cases e
 |cons a kn ih=>
  obtain⟨k,w⟩:=a;rw[uH] at e;split at e
  .rename_i q
   cases e;rw[q];exact .head _
  .exact .tail _ (ih e)
theorem Rp{aa:Str}{L:Nat}:∀{bs:List aX},(∀b∈bs,0<=b.long/\b.long<=L)->∀p,p∈bP aa bs->0<=p.2/\p.2<=((bs.length*L:Nat):Int)
 |[],_,p,m=>by
  rw[show p=(aa,0) from i3.mp m];exact⟨vy 0,by lia⟩
 |b::bs,hb,p,m=>by
  have ih:=Rp (aa:=aa) λx mx=>hb x (.tail _ mx)
  obtain⟨b0,b1⟩:=hb b (.head _);have el:(((b::bs).length*L:Nat):Int)=((bs.length*L:Nat):Int)+L:=by rw[jl,Nat.add_mul,Nat.one_mul];lia
  rw[el];unfold bP at m;split at m
  .have:=ih p m;lia
  .rename_i ne
   rcases eT.mp m with m|m
   .have:=ih p m;lia
   .rw[i3] at m;obtain⟨z1,_⟩:=yU ne;obtain⟨o,_,eo⟩:=jD.mp z1;have:=ih _ (Ji eo);rw[m];dsimp only at *;lia
def dy(h:az)(aa:Str)(p:Pl):ak Int:=(atS (bP aa h.aF) p.1).map λv=>v - p.2
def LU:ak Int->D
 |none=>.bF
 |some v=>.int v
section
variable{h:az}(ok:gd h){aa:Str}(hc:aa∈h.aG)
include ok hc
theorem RN(p:Pl):uT [.Y (cx h),.Y (aL p),.Y (.str aa)]=some (.Y (LU (dy h aa p)),[none,none,none]):=by
 have e1:=WM h aa ok.fwd hc (by have:=ok.bl;lia) λb hb=>by have:=(ok.bk b hb).ol;lia
 unfold uT J_ dy aL;cases e:atS (bP aa h.aF) p.1 with
 |none=>simp only[gD,dY,dZ,bK,bH,bL,reduceAdd,reduceSub,eV,eM,eE,eG,cM,dN,cI,fA,bp,bc,bf,↓ag,bt,bq,fz,fy,e1,fW,fV,RV,reduceLT,ck,bG,aZ,dg,cF,bD,bM,bA,bB,bz,cZ,kf,lE,↓evMap,Ro,e,MB,mU,eS,dq,h_,gL,gM,gR,gE];rfl
 |some v=>
  have ei:=Δ _ _ e;simp only[gD,dY,dZ,bK,bH,bL,reduceAdd,reduceSub,eV,eM,eE,eG,cM,dN,cI,fA,bp,bc,bf,↓ag,bt,bq,fz,fy,e1,fW,fV,RV,reduceLT,ck,bG,aZ,dg,cF,bD,bM,bA,bB,bz,cZ,kf,lE,↓evMap,Ro,e,Option.isSome_some,jR,cW,eS,dq,cB,ei,oJ,gw,h_,gL,gM,gR,gE];rfl
theorem RO:∀p,p∈bP aa h.aF->0<=p.2/\p.2<=30:=λp m=>by
 obtain⟨L,hL,R3⟩:=ok.tl;have:=Rp (L:=L) (λb hb=>⟨by have:=(ok.bk b hb).lg.1;lia,hL b hb⟩) p m
 lia
theorem Jj{b:aX}(hb:b∈h.aF){v:Int}:atS (bP aa h.aF) b.name=some v↔gh (bP aa h.aF) b.outs≠[]/\v=b.long+jg (gh (bP aa h.aF) b.outs):=by
 rw[Qu hc ok.fwd b hb];split
 .rename_i z
  exact⟨λy=>(by cases y),λy=>cu z y.1⟩
 .rename_i z
  exact⟨λy=>(by cases y;exact⟨z,rfl⟩),λy=>(by rw[y.2])⟩
theorem Jk(v:VP h p){d:Int}(e:dy h aa p=some d):1<=d/\d<=30:=by
 obtain⟨n,c⟩:=p;obtain⟨b,hb,rfl,c0,c1⟩:=v;obtain⟨w,ew,rfl⟩:=jt.mp e;have h1:=RO ok hc _ (Ji ew);obtain⟨ne,rfl⟩:=(Jj ok hc hb).mp ew;obtain⟨o,_,eo⟩:=jD.mp (yU ne).1;have h2:=RO ok hc _ (Ji eo);dsimp only at *;lia
theorem Qw{b:aX}(hb:b∈h.aF){c:Int}(c0:¬c+1<b.long){o:Str}(ho:o∈b.outs){w:Int}(e:atS (bP aa h.aF) o=some w):∃d,dy h aa (b.name,c)=some d/\d<=w+1:=by
 have m:=jD.mpr ⟨o,ho,e⟩;have ne:gh (bP aa h.aF) b.outs≠[]:=List.ne_nil_of_mem m;refine⟨_,by unfold dy;rw[(Jj ok hc hb).mpr ⟨ne,rfl⟩];rfl,?_⟩
 have:=(yU ne).2 w m;dsimp only;lia
theorem O9(v:VP h p)(hq:q∈iV h p){e:Int}(eq:dy h aa q=some e):∃d,dy h aa p=some d/\d<=e+1:=by
 rw[e_] at hq;obtain⟨n,c⟩:=p;obtain⟨b,hb,rfl,c0,c1⟩:=v;rw[xD ok hb] at hq;obtain⟨w,ew,rfl⟩:=jt.mp eq;rcases eT.mp hq with hq|hq
 .unfold iY at hq;split at hq
  .rw[i3] at hq;cases hq;exact⟨w - c,by unfold dy;rw[ew];rfl,by dsimp only;lia⟩
  .rename_i hl
   rcases eT.mp hq with hq|hq
   .obtain⟨o,ho,e⟩:=gz.mp hq;split at e
    .cases e
    .cases e;obtain⟨d,h1,h2⟩:=Qw ok hc hb hl ho ew;exact⟨d,h1,by dsimp only;lia⟩
   .split at hq
    .rw[i3] at hq;cases hq;exact⟨w - c,by unfold dy;rw[ew];rfl,by dsimp only at *;lia⟩
    .cases hq
 .rw[i3] at hq;cases hq;exact⟨w - c,by unfold dy;rw[ew];rfl,by dsimp only;lia⟩
theorem O_(v:VP h p)(hq:dA (.inl aa) (jk h p)=true):∃d,dy h aa p=some d/\d<=1:=by
 rw[eK] at hq;obtain⟨n,c⟩:=p;obtain⟨b,hb,rfl,c0,c1⟩:=v;rw[xD ok hb] at hq;rcases eT.mp hq with hq|hq
 .unfold iY at hq;split at hq
  .rw[i3] at hq;cases hq
  .rename_i hl
   rcases eT.mp hq with hq|hq
   .obtain⟨o,ho,e⟩:=gz.mp hq;split at e
    .cases e;exact Qw ok hc hb hl ho (Qv hc ok.fwd)
    .cases e
   .split at hq
    .rw[i3] at hq;cases hq
    .cases hq
 .rw[i3] at hq;cases hq
theorem Φ(v:VP h p){d:Int}(e:dy h aa p=some d):dA (.inl aa) (jk h p)=true\/∃q,q∈iV h p/\dy h aa q=some (d - 1):=by
 obtain⟨n,c⟩:=p;obtain⟨b,hb,rfl,c0,c1⟩:=v;obtain⟨w,ew,rfl⟩:=jt.mp e;dsimp only at *;by_cases hl:c+1<b.long
 .refine .inr ⟨(b.name,c+1),e_.mpr ?_,?_⟩
  .rw[xD ok hb];unfold iY;rw[aY hl];simp
  .unfold dy;rw[ew];show some _=some _
   congr 1
   dsimp only;lia
 .obtain⟨ne,rfl⟩:=(Jj ok hc hb).mp ew;obtain⟨o,ho,eo⟩:=jD.mp (yU ne).1;have key:∀s,(if h.aG.contains o=true then(.inl o:Sp) else .inr (o,0))=s->s∈jk h (b.name,c):=λs es=>by
   rw[xD ok hb];unfold iY;rw[bb hl];exact jQ _ (jQ _ (gz.mpr ⟨o,ho,es⟩))
  by_cases oc:o∈h.aG
  .by_cases z:o=aa
   .refine .inl (eK.mpr (key _ ?_));rw[aY (by simpa using oc),z]
   .rw[WN ok.fwd oc z] at eo;cases eo
  .refine .inr ⟨(o,0),e_.mpr (key _ (bb (by simpa using oc))),?_⟩
   unfold dy;rw[eo];show some _=some _
   congr 1
   dsimp only;lia
end
theorem Qx{h:az}(ok:gd h){aa:Str}(hc:aa∈h.aG){p:Pl}(v:VP h p):∀{m:Nat} {q:Pl},ny h [p] [] m q->VP h q/\∀e,dy h aa q=some e->∃d,dy h aa p=some d/\d<=(m:Int)+e
 |0,q,z=>by
  rw[show q=p from i3.mp z];exact⟨v,λe he=>⟨e,he,by lia⟩⟩
 |m+1,q,⟨p',z,_,g⟩=>by
  obtain⟨v',ih⟩:=Qx ok hc v z;refine⟨AR ok v' g,λe he=>?_⟩
  obtain⟨d',h1,h2⟩:=O9 ok hc v' g he;obtain⟨d,h3,h4⟩:=ih d' h1;exact⟨d,h3,by lia⟩
def j8(h:az)(P:List Pl)(aa:Str)(n:Nat):Prop:=∀C,Sep h P aa n C->P.length<=C.length
section
variable{h:az}{P P':List Pl}{aa:Str}{n n':Nat}
theorem Eo(f:j8 h P aa n)(le:n<=n'):j8 h P aa n':=λC s=>f C λm hm=>s m (by lia)
theorem O'(hs:∀p,p∈P↔p∈P')(hl:P.length=P'.length)(f:j8 h P aa n):j8 h P' aa n:=λC s=>by
 rw[<-hl];exact f C λm hm p z=>s m hm p (O0 (λp=>(hs p).mp) (λ_ y=>y) z)
theorem WO{x:Pl}(hs:∀p,p∈P->p=x\/p∈P')(hl:P'.length+1=P.length)(f:j8 h P aa n):j8 h P' aa n:=λC s=>by
 have:=f (at' x 0::C) λm hm p z hc=>by
  rcases O4 hs z with⟨rfl,rfl⟩|y
  .exact cu (.head _) hc
  .exact s m hm p y λw=>hc (.tail _ w)
 rw[jl] at this;lia
theorem Pa(ok:gd h)(nd:P.Nodup)(vq:∀p,p∈P->VP h p)(td:Told h P aa n W C):W.length<=P.length/\(W.length=P.length↔j8 h P aa n):=by
 obtain⟨k1,k2,k3⟩:=Wz ok nd vq td;have l:=ZY (h:=h) (P:=P) (aa:=aa) (n:=n) (k:=W.length) ⟨⟨C,k1,k2⟩,k3⟩;refine⟨l,λe C' s=>?_,λf=>?_⟩
 .have:=k3 C' s;lia
 .have:=f C k1;lia
theorem Qy{p:Pl}:∀{m:Nat} {q:Pl},ny h P ((P.erase p).map (at' · 0)) m q->at' q (m:Int)∉(P.erase p).map (at' · 0)->ny h [p] [] m q
 |0,q,z,hc=>by
  by_cases e:q=p
  .rw[e];exact .head _
  .exact cu (gz.mpr ⟨q,(List.mem_erase_of_ne e).mpr z,rfl⟩) hc
 |m+1,q,⟨p',z,u3,g⟩,_=>⟨p',Qy z u3,by simp,g⟩
variable(ok:gd h)(hc:aa∈h.aG)(vq:∀p,p∈P->VP h p)
include ok hc vq
theorem Yx(f:j8 h P aa n)(mp:p∈P){d:Int}(e:dy h aa p=some d):d<=(n:Int):=by
 refine oV λhd=>?_
 have:=f ((P.erase p).map (at' · 0)) λm hm q z hcq hq=>by
  obtain⟨vq,key⟩:=Qx ok hc (vq p mp) (Qy z hcq);obtain⟨e1,h1,h2⟩:=O_ ok hc vq hq;obtain⟨d',h3,h4⟩:=key e1 h1;rw[e] at h3;cases h3;lia
 rw[bO,List.length_erase_of_mem mp] at this;have:=List.length_pos_of_mem mp;lia
omit vq
theorem Pb{C:List Ct}:∀(d t:Nat) (p:Pl),VP h p->dy h aa p=some (d:Int)->ny h P C t p->(∀(c:Pl) (k:Nat),t<=k->k<t+d->at' c (k:Int)∉C)->∃m,m<t+d/\∃q,ny h P C m q/\at' q (m:Int)∉C/\dA (.inl aa) (jk h q)=true
 |0,t,p,vp,e,_,_=>by
  have:=Jk ok hc vp e;lia
 |d+1,t,p,vp,e,z,nc=>by
  have n0:=nc p t (cX _) (by lia)
  rcases Φ ok hc vp e with hm|⟨q,g,eq⟩
  .exact⟨t,by lia,p,z,n0,hm⟩
  .rw[show((d+1:Nat):Int) - 1=(d:Int) by lia] at eq
   obtain⟨m,h1,h2⟩:=Pb d (t+1) q (AR ok vp g) eq ⟨p,z,n0,g⟩ λc k k1 k2=>nc c k (by lia) (by lia)
   exact⟨m,by lia,h2⟩
omit ok hc
theorem Qz{C:List Ct}{p:Pl}(mp:p∈P)(nc:∀k:Nat,at' p (k:Int)∉C):∀t,ny h P C t p
 |0=>mp
 |t+1=>⟨p,Qz mp nc t,nc t,e_.mpr (ir _ (.head _))⟩
include ok hc vq
theorem Yy(nd:P.Nodup)(hf:∀p,p∈P->∃d,dy h aa p=some d)(hn:P.length*30<=n):j8 h P aa n:=λC s=>oV λhl=>by
 obtain⟨p,mp,np⟩:∃p,p∈P/\∀k:Nat,at' p (k:Int)∉C:=oV λz=>hl (by
  have:=uD nd (m:=C.map λc=>(c.1,c.2.1)) λp mp=>by
   refine oV λy=>z ⟨p,mp,λk hk=>y (gz.mpr ⟨_,hk,rfl⟩)⟩
  rw[bO] at this;exact this)
 obtain⟨j,hj,nj⟩:∃j,j<P.length/\∀c,c∈C->c.2.2.toNat / 30≠j:=oV λz=>hl (by
  have:=uD (List.nodup_range (n:=P.length)) (m:=C.map λc=>c.2.2.toNat / 30) λj mj=>by
   rw[rn] at mj;refine oV λy=>z ⟨j,mj,λc hcC e=>y (gz.mpr ⟨c,hcC,e⟩)⟩
  rw[bO,oH] at this;exact this)
 obtain⟨d,e⟩:=hf p mp;have dp:=Jk ok hc (vq p mp) e;obtain⟨k,hk⟩:∃k:Nat,d=(k:Int):=⟨d.toNat,by lia⟩
 subst hk;obtain⟨m,h1,q,h2,h3,h4⟩:=Pb ok hc k (j*30) p (vq p mp) e (Qz mp np _) λc k' k1 k2 hm=>nj _ hm (by
  show((k':Int)).toNat / 30=j;rw[Int.toNat_natCast];lia)
 exact s m (by lia) q h2 h3 h4
end
def fv(h:az)(aa:Str)(p:Pl):Int:=(dy h aa p).getD 0
def tD(H PL:D)(c:Str)(T:Int)(a4 a5:ak O):Gm:=[some (.Y H),some (.Y PL),some (.Y (.str c)),some (.Y (.int T)),a4,a5]
theorem QA{c:Str}{C AB:List D}(hP:PL=.lst AB)(a4:ak O)(b:Bool)(hb:b=decide (W.length<AB.length)):Dc (tD H PL c T a4 (some (.Y (.tup [.lst W,.lst C]))))=some (b,tD H PL c T a4 (some (.Y (.tup [.lst W,.lst C])))):=by
 subst hP;have e1:=vO W;have e2:=vO AB;have e3:decide ((W.length:Int)<(AB.length:Int))=b:=by rw[hb];exact decide_eq_decide.mpr (by lia)
 generalize(W.length:Int)=n1 at *;generalize(AB.length:Int)=n2 at *;unfold Dc tD;simp only[cF,bD,bp,bc,bt,bf,↓ag,bM,bq,bA,bB,bz,cZ,kf,lE,↓evMap,e1,e2,gw,e3,aZ]
theorem Yz{c:Str}{C:List D}(d5:D)(e:vC [.Y H,.Y PL,.Y (.str c),.Y (.int (T+1))]=some (.tup [.lst (W.map .Y),.Y (.lst C)],[none,none,none,none]))(a4:ak O):C_ (tD H PL c T a4 (some (.Y d5)))=some (.nx,tD H PL c (T+1) (some (.Y d5)) (some (.Y (.tup [.lst W,.lst C])))):=by
 have dw:O.dl (W.map .Y)=W:=jW _;unfold C_ tD;simp only[cM,dN,bc,bt,bf,↓ag,bK,bH,bL,reduceAdd,reduceLT,ck,bG,aZ,XN,bM,cI,fA,bp,bq,fz,fy,e,fW,fV,jx,gy,gG,dw,bT,fX]
theorem Rq{f:GT}{b:GS}(e:f Q0=some (false,Q0)):gf f b (K+1) Q0=some (.nx,Q0):=by
 rw[gf];simp only[e,↓ag,cW,cB]
theorem RP{f:GT}{b:GS}(e:f Q0=some (true,Q0))(e2:b Q0=some (.nx,cD)):gf f b (K+1) Q0=gf f b K cD:=by
 rw[gf];simp only[e,↓ag,e2,aZ]
theorem e9c{f:GT}{b:GS}{o:O}(e:f Q0=some (true,Q0))(e2:b Q0=some (.rt o,cD)):gf f b (K+1) Q0=some (.rt o,cD):=by
 rw[gf];simp only[e,↓ag,e2,aZ]
structure Sn (h:az) (P:List Pl) (aa:Str) (N:Nat):Prop where
 le:N<=150
 z:P=[]->N=0
 f:P≠[]->1<=N/\j8 h P aa N/\¬j8 h P aa (N - 1)
section
variable{h:az}(ok:gd h){P:List Pl}(nd:P.Nodup)(vq:∀p,p∈P->VP h p){aa:Str}(hc:aa∈h.aG)(hP:P.length<=5)(hf:∀p,p∈P->∃d,dy h aa p=some d)
include ok nd vq hc hP hf
theorem QB:∀(j n K:Nat) (d4:List D×List D) (W:List D) (C:List Ct),n+j=150->j<K->1<=n->¬j8 h P aa (n - 1)->Told h P aa n W C->
  ∃(N:Nat) (W' C' W4 C4:List D),n<=N/\N<=150/\j8 h P aa N/\¬j8 h P aa (N - 1)/\gf Dc C_ K (tD (cx h) (.lst (P.map aL)) aa (n:Int) (some (.Y (.tup [.lst d4.1,.lst d4.2]))) (some (.Y (.tup [.lst W,.lst (C.map fQ)]))))=some (.nx,tD (cx h) (.lst (P.map aL)) aa (N:Int) (some (.Y (.tup [.lst W4,.lst C4]))) (some (.Y (.tup [.lst W',.lst C']))))
 |j,n,0,_,_,_,_,hK,_,_,_=>cu hK (He _)
 |j,n,K+1,d4,W,C,hj,hK,n1,nf,td=>by
  obtain⟨t1,t2⟩:=Pa ok nd vq td;by_cases c:W.length<P.length
  .have e1:=QA (H:=cx h) (PL:=.lst (P.map aL)) (c:=aa) (T:=(n:Int)) (W:=W) (C:=C.map fQ) rfl (some (.Y (.tup [.lst d4.1,.lst d4.2]))) true (by rw[bO];exact(ig c).symm)
   have GN:¬j8 h P aa n:=λz=>by have:=t2.mpr z;lia
   cases j with
   |zero=>exact cu (Yy ok hc vq nd hf (by lia)) GN
   |succ j=>
    obtain⟨W2,C2,td2,e6⟩:=DZ ok nd vq aa ((n:Int)+1) (n+1) rfl (by lia) (by lia)
    have e2:=Yz (.tup [.lst W,.lst (C.map fQ)]) e6 (some (.Y (.tup [.lst d4.1,.lst d4.2])));obtain⟨N,W',C',W4,C4,h1,h2,h3,h4,h5⟩:=QB j (n+1) K (W,C.map fQ) W2 C2 (by lia) (by lia) (by lia) GN td2
    exact⟨N,W',C',W4,C4,by lia,h2,h3,h4,(RP e1 e2).trans h5⟩
  .have e1:=QA (H:=cx h) (PL:=.lst (P.map aL)) (c:=aa) (T:=(n:Int)) (W:=W) (C:=C.map fQ) rfl (some (.Y (.tup [.lst d4.1,.lst d4.2]))) false (by rw[bO];exact(ij c).symm)
   exact⟨n,W,_,d4.1,d4.2,cX _,by lia,t2.mp (by lia),nf,Rq e1⟩
omit nd hP
theorem YA:AI [.Y (cx h),.Y (.lst (P.map aL)),.Y (.str aa)]=some (.Y .bF,[none,none,none]):=by
 obtain⟨aw,e,b3,rfl⟩:=Iq (g:=bu 3) (f:=Fg) aL (λQ0=>∃b3,Q0=[some (.Y (cx h)),some (.Y (.lst (P.map aL))),some (.Y (.str aa)),b3]) P [some (.Y (cx h)),some (.Y (.lst (P.map aL))),some (.Y (.str aa)),none] ⟨none,rfl⟩ (by
  rintro p mp Q0 ⟨b3,rfl⟩;refine⟨[some (.Y (cx h)),some (.Y (.lst (P.map aL))),some (.Y (.str aa)),some (.Y (aL p))],?_,_,rfl⟩;obtain⟨d,hd⟩:=hf p mp;have e1:=RN ok hc p;rw[hd] at e1;have e1:uT [.Y (cx h),.Y (aL p),.Y (.str aa)]=some (.Y (.int d),[none,none,none]):=e1;have e2:oh false [.Y (.int d),.Y .bF]=some (.Y (.bl false)):=rfl;generalize aL p=pd at *;unfold Fg;simp only[fU,bK,bH,bL,reduceAdd,reduceLT,ck,bG,aZ,↓ag,dg,cF,bD,bp,qq,bc,bf,bt,bq,bA,bB,bz,gy,bT,fX,dY,dZ,e1,vN,bM,e2,cW,Wa,dq,cB])
 unfold AI;unfold Ho;generalize Fg=cb at *;simp only[gD,dY,dZ,bK,bH,bL,reduceAdd,reduceSub,eV,eM,eE,eG,pU,cI,bc,bt,bf,↓ag,bT,e,J4,gL,gM,gR,gE,aZ]
theorem Ψ(hl:P.length<=5):∃a,compLoop (bu 0) gH (ly uT (aj (ae 1) (aj (ae 0) (aj (ae 2) gN)))) (P.map aL) [none,some (.Y (cx h)),some (.Y (.str aa))] []=some (((P.map (fv h aa)).map D.int).map .Y,[a,some (.Y (cx h)),some (.Y (.str aa))]):=by
 obtain⟨qO,⟨x0,rfl⟩,e3⟩:=AX (g:=bu 0) (ct:=gH) (ce:=ly uT (aj (ae 1) (aj (ae 0) (aj (ae 2) gN)))) (λQ0=>∃x0,Q0=[x0,some (.Y (cx h)),some (.Y (.str aa))]) aL (λp=>D.int (fv h aa p)) P [none,some (.Y (cx h)),some (.Y (.str aa))] ⟨none,rfl⟩ (by lia) (by
  rintro p mp Q0 ⟨x0,rfl⟩;refine⟨[some (.Y (aL p)),some (.Y (cx h)),some (.Y (.str aa))],?_,_,rfl⟩;obtain⟨d,hd⟩:=hf p mp;have e1:=RN ok hc p;have ed:fv h aa p=d:=by unfold fv;rw[hd];rfl
  rw[hd] at e1;have e1:uT [.Y (cx h),.Y (aL p),.Y (.str aa)]=some (.Y (.int d),[none,none,none]):=e1;rw[ed];generalize aL p=pd at *;simp only[qR,fU,bK,bH,bL,reduceAdd,reduceLT,bG,aZ,↓ag,xw,qq,bp,bc,bt,bf,bq,bA,bB,bz,gy,bT,fX,dY,dZ,e1,vN])
 refine⟨x0,?_⟩;rw[show(P.map (fv h aa)).map D.int=P.map λp=>D.int (fv h aa p) by rw[mE];rfl]
 exact e3
include nd hP
theorem YB(n:Nat)(h1:1<=n)(h2:n<=30)(nf:¬j8 h P aa (n - 1)):∃(N:Nat) (A B:D) (aw:Gm),aw.length=3/\N<=150/\n<=N/\j8 h P aa N/\¬j8 h P aa (N - 1)/\Dd (tD (cx h) (.lst (P.map aL)) aa (n:Int) none none)=some (.rt (.tup [.Y (.int (N:Int)),.Y A,.Y B]),[some (.Y (cx h)),some (.Y (.lst (P.map aL))),some (.Y (.str aa))]++aw):=by
 obtain⟨W4,C4,_,e4⟩:=DZ ok nd vq aa ((n:Int) - 1) (n - 1) (by lia) (by lia) (by lia)
 obtain⟨W,C,td,e5⟩:=DZ ok nd vq aa (n:Int) n rfl (by lia) (by lia)
 obtain⟨N,W',C',W6,C6,k1,k2,k3,k4,e6⟩:=QB ok nd vq hc hP hf (150 - n) n 1000000 (W4,C4.map fQ) W C (by lia) (by lia) h1 nf td
 have d4:O.dl (W4.map .Y)=W4:=jW _;have d5:O.dl (W.map .Y)=W:=jW _;refine⟨N,.lst W',.lst C6,[some (.Y (.int (N:Int))),some (.Y (.tup [.lst W6,.lst C6])),some (.Y (.tup [.lst W',.lst C']))],rfl,k2,k1,k3,k4,?_⟩;generalize(N:Int)=Ni at *;generalize(n:Int)=ni at *;generalize C4.map fQ=D4 at *;generalize C.map fQ=D5 at *;unfold Dd;unfold tD at *;dsimp only at e6;generalize Dc=sc at *;generalize C_=sb at *;simp only[cM,dN,cI,fA,bp,bc,bf,↓ag,bt,bD,bM,bq,bA,bB,bz,gw,aZ,fz,fy,e4,fW,fV,jx,gy,gG,d4,bT,fX,bK,bH,bL,reduceAdd,reduceLT,ck,bG,e5,d5,e6,eS,fg,cZ,kf,lE,↓evMap,oJ,reduceLeDiff,fO,d_,eE,eG]
theorem Vk:∃(N:Nat) (A B:D),Sn h P aa N/\AQ [.Y (cx h),.Y (.lst (P.map aL)),.Y (.str aa)]=some (.tup [.Y (.int (N:Int)),.Y A,.Y B],[none,none,none]):=by
 have e1:=YA ok vq hc hf;cases hQ:P with
 |nil=>
  subst hQ;refine⟨0,.lst [],.lst [],⟨by lia,λ_=>rfl,λz=>cu rfl z⟩,?_⟩
  unfold AQ;unfold DW;have e1:AI [.Y (cx h),.Y (.lst []),.Y (.str aa)]=_:=e1;generalize Dd=st at *;have z:((0:Nat):Int)=0:=rfl;rw[z,mT];simp only[gD,dY,dZ,bK,bH,bL,reduceAdd,reduceSub,eV,eM,eE,eG,cM,jv,qq,bp,bc,bf,↓ag,bt,bq,bA,bB,bz,gy,bT,fX,e1,PF,dg,rL,kI,ze,List.isEmpty_nil,jR,mU,eS,fg,bM,cI,reduceLeDiff,d_,aZ,gG,fO,dq,h_,gL,gM,gR,gE]
 |cons p0 P0=>
  rw[<-hQ];have ne:P≠[]:=by rw[hQ];exact List.cons_ne_nil _ _
  have ne':P.map (fv h aa)≠[]:=by simpa using ne
  obtain⟨a,e2⟩:=Ψ ok vq hc hf hP;have e3:=Zr ne';obtain⟨m1,m2⟩:=N4 ne';obtain⟨p,mp,ep⟩:=gz.mp m1;obtain⟨d,hd⟩:=hf p mp;have dp:=Jk ok hc (vq p mp) hd;have ed:fv h aa p=d:=by unfold fv;rw[hd];rfl
  obtain⟨n,hn⟩:∃n:Nat,kS (P.map (fv h aa))=(n:Int):=⟨d.toNat,by lia⟩
  obtain⟨N,A,B,aw,gl,k1,k2,k3,k4,e4⟩:=YB ok nd vq hc hP hf n (by lia) (by lia) λf=>by
   have:=Yx ok hc vq f mp hd;lia
  refine⟨N,A,B,⟨k1,λz=>cu z ne,λ_=>⟨by lia,k3,k4⟩⟩,?_⟩
  have ee:(P.map aL).isEmpty=false:=by rw[hQ];rfl
  obtain⟨g3,g4,g5,rfl⟩:∃g3 g4 g5,aw=[g3,g4,g5]:=by
   match aw,gl with
   |[g3,g4,g5],_=>exact⟨_,_,_,rfl⟩
  rw[hn] at e3;unfold tD at e4;generalize(n:Int)=ni at *;generalize(N:Int)=Ni at *;generalize(P.map (fv h aa)).map D.int=L at *;generalize P.map aL=PL at *;unfold AQ;unfold DW;unfold SR;generalize Dd=st at *;simp only[gD,dY,dZ,bK,bH,bL,reduceAdd,reduceSub,eV,eM,eE,eG,cM,jv,qq,bp,bc,bf,↓ag,bt,bq,bA,bB,bz,gy,bT,fX,e1,PF,dg,rL,kI,ze,ee,mU,jR,cW,eS,fg,bM,cI,reduceLeDiff,d_,aZ,gG,fO,dq,cB,dN,bD,mY,qT,oY,fN,bG,ck,nF,e2,oU,nt,oZ,nH,e3,reduceLT,e4,h_,gL,gM,gR,gE]
theorem Jl:∃N:Nat,Sn h P aa N/\vD [.Y (cx h),.Y (.lst (P.map aL)),.Y (.str aa)]=some (.Y (.int (N:Int)),[none,none,none]):=by
 obtain⟨N,A,B,sn,e1⟩:=Vk ok nd vq hc hP hf;have f1:=JT (P.map aL);have dl:O.dl ((P.map aL).map .Y)=P.map aL:=jW _;have f2:=Ke [D.int (N:Int),A,B];have f3:cK [.Y (.tup [D.int (N:Int),A,B])]=some (.Y (.int 3)):=rfl;have f4:=E2 3 3;rw[lU] at f4;refine⟨N,sn,?_⟩;generalize P.map aL=PL at *;generalize(N:Int)=Ni at *;unfold vD H0;simp only[gD,dY,dZ,bK,bH,bL,reduceAdd,reduceSub,eV,eM,eE,eG,cM,dN,cI,fA,bp,bc,bf,↓ag,bD,bt,bq,bA,bB,bz,f1,gG,dl,fz,fy,e1,fW,fV,jx,gy,bT,fX,reduceLT,ck,bG,aZ,dg,EY,rL,kI,bM,f2,oO,jR,cW,cF,f3,f4,cB,eS,QR,Int.reduceNeg,dq,cZ,kf,lE,↓evMap,h_,gL,gM,gR,gE]
omit hc hP hf
theorem Rr(hP:P.length<=20)(T:Int)(n:Nat)(hT:T=n)(hn:n<=160):∃k:Nat,k<=P.length/\(k=P.length↔j8 h P aa n)/\xh [.Y (cx h),.Y (.lst (P.map aL)),.Y (.str aa),.Y (.int T)]=some (.Y (.int (k:Int)),[none,none,none,none]):=by
 obtain⟨W,C,td,e6⟩:=DZ ok nd vq aa T n hT hn hP;obtain⟨t1,t2⟩:=Pa ok nd vq td;have dw:O.dl (W.map .Y)=W:=jW _;have f1:=JT (P.map aL);have dl:O.dl ((P.map aL).map .Y)=P.map aL:=jW _;have f2:=Ke [D.lst W,D.lst (C.map fQ)];have f3:cK [.Y (.tup [D.lst W,D.lst (C.map fQ)])]=some (.Y (.int 2)):=rfl;have f4:=E2 2 2;rw[lU] at f4;have el:=vO W;refine⟨W.length,t1,t2,?_⟩;generalize(W.length:Int)=wl at *;generalize P.map aL=PL at *;generalize C.map fQ=Cd at *;unfold xh IF;simp only[gD,dY,dZ,bK,bH,bL,reduceAdd,reduceSub,eV,eM,eE,eG,cM,dN,cI,fA,bp,bc,bf,↓ag,bD,bt,bq,bA,bB,bz,f1,gG,dl,fz,fy,e6,fW,fV,jx,gy,dw,bT,fX,reduceLT,ck,bG,aZ,dg,EY,rL,kI,bM,f2,oO,jR,cW,cF,f3,f4,cB,eS,QR,Int.reduceNeg,dq,cZ,kf,lE,↓evMap,el,h_,gL,gM,gR,gE]
end
theorem Rt(a b:Sp):oEq [.Y (aB a),.Y (aB b)]=some (.Y (.bl (decide (a=b)))):=by
 rw[mJ,bT,bT,aY ⟨ub 39 a,ub 39 b⟩,BM]
theorem Ω(q:Pl)(bs:List Pl):bR true [.Y (aL q),.lst ((bs.map aL).map .Y)]=some (.Y (.bl (!decide (q∈bs)))):=by
 have e:=JN true (.inr q) (bs.map .inr);rw[EL] at e;have m:dA (.inr q) (bs.map .inr)=decide (q∈bs):=by
  rw[uj,eK,decide_eq_true_eq,gz];exact⟨λ⟨x,h1,h2⟩=>by cases h2;exact h1,λh=>⟨q,h,rfl⟩⟩
 rw[m] at e;exact e
def je(H pd:D)(c:Str)(a3:ak O)(t:Int)(a5:ak O):Gm:=[some (.Y H),some (.Y pd),some (.Y (.str c)),a3,some (.Y (.int t)),a5]
section
variable(H pd:D)(aa:Str)(t:Int)
theorem δ(a3 a5:ak O):(bu 5 (aB (.inl aa)) (je H pd aa a3 t a5)).bind p6=some (.rt (.Y (.bl true)),je H pd aa a3 t (some (.Y (aB (.inl aa))))):=by
 have e1:oEq [.Y (aB (.inl aa)),.Y (.str aa)]=some (.Y (.bl true)):=by
  have:=Rt (.inl aa) (.inl aa);rw[ig rfl] at this;exact this
 generalize aB (.inl aa)=sd at *;unfold p6 je;simp only[fU,bK,bH,bL,reduceAdd,reduceLT,ck,bG,aZ,↓ag,cM,dg,cF,bD,bp,bc,bt,bf,bq,bA,bB,bz,e1,eS,bM,dq]
theorem e9d(x:Sp)(hx:x≠.inl aa)(met:List Pl)(nd:met.Nodup)(hl:met.length<1000)(a5:ak O):∃gI,(gI=met\/∃q,x=.inr q/\q∉met/\gI=met++[q])/\(bu 5 (aB x) (je H pd aa (some (.lst ((met.map aL).map .Y))) t a5)).bind p6=some (.nx,je H pd aa (some (.lst ((gI.map aL).map .Y))) t (some (.Y (aB x)))):=by
 have e1:oEq [.Y (aB x),.Y (.str aa)]=some (.Y (.bl false)):=by
  have:=Rt x (.inl aa);rw[ij hx] at this;exact this
 have e2:=P1 x;cases x with
 |inl y=>
  refine⟨met,.inl rfl,?_⟩;have e2:gn [.Y (aB (.inl y)),.Y (.ty "str")]=some (.Y (.bl true)):=e2;generalize aB (.inl y)=sd at *;unfold p6 je;simp only[fU,bK,bH,bL,reduceAdd,reduceLT,ck,bG,aZ,↓ag,cM,dg,cF,bD,bp,bc,bt,bf,bq,bA,bB,bz,e1,cW,eS,bM,dq,cB,mI,rL,kI,e2,oO,jR,iC,fN,jv,lF,fO,d_,pV]
 |inr q=>
  have e2:gn [.Y (aL q),.Y (.ty "str")]=some (.Y (.bl false)):=e2;have e1:oEq [.Y (aL q),.Y (.str aa)]=some (.Y (.bl false)):=e1;have e3:=Ω q met;show ∃gI,_/\(bu 5 (aL q) _).bind p6=some (.nx,je H pd aa _ t (some (.Y (aL q))));by_cases h1:q∈met
  .refine⟨met,.inl rfl,?_⟩;rw[ig h1] at e3;generalize aL q=sd at *;unfold p6 je;simp only[fU,bK,bH,bL,reduceAdd,reduceLT,ck,bG,aZ,↓ag,cM,dg,cF,bD,bp,bc,bt,bf,bq,bA,bB,bz,e1,cW,eS,bM,dq,cB,mI,rL,kI,e2,oO,mU,iC,fN,e3,jR,jv,lF,fO,d_,pV]
  .refine⟨met++[q],.inr ⟨q,rfl,h1,rfl⟩,?_⟩;have e4:oM (.lst ((met.map aL).map .Y)) [.Y (aL q)]=some (.lst (((met++[q]).map aL).map .Y),.Y .bF):=Yo aL met q (by lia)
   rw[ij h1] at e3;generalize aL q=sd at *;unfold p6 je;simp only[fU,bK,bH,bL,reduceAdd,reduceLT,ck,bG,aZ,↓ag,cM,dg,cF,bD,bp,bc,bt,bf,bq,bA,bB,bz,e1,cW,eS,bM,dq,cB,mI,rL,kI,e2,oO,mU,iC,fN,e3,jv,lF,fO,d_,e4]
theorem RQ:∀(xs:List Sp) (met:List Pl) (a5:ak O),met.Nodup->met.length+xs.length<900->
  (.inl aa∈xs/\∃a3 b5,fK (bu 5) p6 (xs.map aB) (je H pd aa (some (.lst ((met.map aL).map .Y))) t a5)=some (.rt (.Y (.bl true)),je H pd aa a3 t b5))\/
  ∃(gI:List Pl) (b5:ak O),gI.Nodup/\met.length<=gI.length/\(∀q,q∈gI->q∈met\/.inr q∈xs)/\fK (bu 5) p6 (xs.map aB) (je H pd aa (some (.lst ((met.map aL).map .Y))) t a5)=some (.nx,je H pd aa (some (.lst ((gI.map aL).map .Y))) t b5)
 |[],met,a5,nd,_=>.inr ⟨met,a5,nd,cX _,λq m=>.inl m,rfl⟩
 |x::xs,met,a5,nd,hl=>by
  rw[jl] at hl;by_cases hx:x=.inl aa
  .subst hx;refine .inl ⟨.head _,some (.lst ((met.map aL).map .Y)),some (.Y (aB (.inl aa))),?_⟩;rw[cY,yZ];have e:=δ H pd aa t (some (.lst ((met.map aL).map .Y))) a5;cases q:bu 5 (aB (.inl aa)) (je H pd aa (some (.lst ((met.map aL).map .Y))) t a5) with
   |none=>rw[q] at e;cases e
   |some aJ=>
    rw[q,Option.bind_some] at e;rw[Option.bind_some,e];rfl
  .obtain⟨qF,hm,e⟩:=e9d H pd aa t x hx met nd (by lia) a5
   have yh:qF.Nodup/\met.length<=qF.length/\qF.length<=met.length+1/\∀q,q∈qF->q∈met\/.inr q=x:=by
    rcases hm with rfl|⟨q,rfl,hq,rfl⟩
    .exact⟨nd,cX _,yH _,λq m=>.inl m⟩
    .refine⟨lh.mpr ⟨nd,by simp,λa ma b mb z=>?_⟩,by simp,by simp,λy my=>?_⟩
     .rw[i3] at mb;subst mb z;exact hq ma
     .rcases eT.mp my with my|my
      .exact .inl my
      .rw[i3] at my;rw[my];exact .inr rfl
   obtain⟨n1,n2,n3,n4⟩:=yh;have key:fK (bu 5) p6 ((x::xs).map aB) (je H pd aa (some (.lst ((met.map aL).map .Y))) t a5)=fK (bu 5) p6 (xs.map aB) (je H pd aa (some (.lst ((qF.map aL).map .Y))) t (some (.Y (aB x)))):=by
    rw[cY,yZ];cases q:bu 5 (aB x) (je H pd aa (some (.lst ((met.map aL).map .Y))) t a5) with
    |none=>rw[q] at e;cases e
    |some aJ=>
     rw[q,Option.bind_some] at e;rw[Option.bind_some,e];rfl
   rw[key];rcases RQ xs qF _ n1 (by lia) with⟨h1,h2⟩|⟨gI,b5,h1,h2,h3,h4⟩
   .exact .inl ⟨.tail _ h1,h2⟩
   .refine .inr ⟨gI,b5,h1,by lia,λq m=>?_,h4⟩
    rcases h3 q m with z|z
    .exact(n4 q z).imp id λy=>by rw[y];exact .head _
    .exact .inr (.tail _ z)
end
section
variable{h:az}(ok:gd h){aa:Str}(hc:aa∈h.aG)(pd:D){pz:Pl}
def Mt(h:az)(aa:Str)(pz:Pl)(met:List Pl):Prop:=met.Nodup/\∀q,q∈met->VP h q/\((∃e,dy h aa q=some e)->∃d,dy h aa pz=some d)
include ok hc
theorem YC{met:List Pl}(mt:Mt h aa pz met)(hk:k<met.length)(a5:ak O):
  ((∃d,dy h aa pz=some d)/\∃a3 b5,uU (je (cx h) pd aa (some (.lst ((met.map aL).map .Y))) (k:Int) a5)=some (.rt (.Y (.bl true)),je (cx h) pd aa a3 (k:Int) b5))\/
  ∃(gI:List Pl) (b5:ak O),Mt h aa pz gI/\met.length<=gI.length/\uU (je (cx h) pd aa (some (.lst ((met.map aL).map .Y))) (k:Int) a5)=some (.nx,je (cx h) pd aa (some (.lst ((gI.map aL).map .Y))) ((k:Int)+1) b5):=by
 have mq:met[k]∈met:=vw hk;obtain⟨vq,fq⟩:=mt.2 _ mq;have ml:=Fc ok mt.1 λq m=>(mt.2 q m).1
 have sl:=EH ok vq;have ee:xa [.Y (cx h),.Y (aL met[k])]=some (.lst (((eR h (.inr met[k])).map aB).map .Y),[none,none]):=by
  obtain⟨b,hb,e,_⟩:=vq;generalize met[k]=q at *;obtain⟨n,c⟩:=q;dsimp only at e;subst e;rw[Jc ok.fwd hb];exact O6 h ok b hb c
 have ix:dU (.lst ((met.map aL).map .Y)) (.int (k:Int))=some (.Y (aL met[k])):=by
  have:dO ((met.map aL).map O.Y) (k:Int)=some (.Y (aL met[k])):=o5 (by rw[kc,kc,i8 hk];rfl)
  show(dO ((met.map aL).map O.Y) (k:Int)).bind iJ=_;rw[this];rfl
 have dl:O.dl (((eR h (.inr met[k])).map aB).map .Y)=(eR h (.inr met[k])).map aB:=jW _;have sub:∀s,s∈eR h (.inr met[k])->s∈jk h met[k]:=λs m=>jQ _ m
 rcases RQ (cx h) pd aa (k:Int) (eR h (.inr met[k])) met a5 mt.1 (by unfold jk at sl;rw[fe] at sl;lia) with⟨h1,a3,b5,h2⟩|⟨gI,b5,h1,h2,h3,h4⟩
 .refine .inl ⟨fq ?_,a3,b5,?_⟩
  .obtain⟨d,e,_⟩:=O_ ok hc vq (eK.mpr (sub _ h1));exact⟨d,e⟩
  .generalize(eR h (.inr met[k])).map aB=L at *;generalize(k:Int)=ki at *;generalize aL met[k]=qd at *;generalize(met.map aL).map O.Y=mo at *;unfold je at *;unfold uU;generalize p6=cs at *;simp only[cM,pU,cI,fA,bp,bc,bf,↓ag,bD,bt,bq,bA,iC,fN,bB,bz,cZ,ix,fz,fy,ee,fW,fV,gG,dl,h2]
 .refine .inr ⟨gI,b5,⟨h1,λq m=>?_⟩,h2,?_⟩
  .rcases h3 q m with z|z
   .exact mt.2 q z
   .have g:q∈iV h met[k]:=e_.mpr (sub _ z);refine⟨AR ok vq g,λ⟨e,he⟩=>fq ?_⟩
    obtain⟨d,hd,_⟩:=O9 ok hc vq g he;exact⟨d,hd⟩
  .generalize(eR h (.inr met[k])).map aB=L at *;generalize(k:Int)=ki at *;generalize aL met[k]=qd at *;generalize(met.map aL).map O.Y=mo at *;generalize(gI.map aL).map O.Y=mo' at *;unfold je at *;unfold uU;generalize p6=cs at *;simp only[cM,pU,cI,fA,bp,bc,bf,↓ag,bD,bt,bq,bA,iC,fN,bB,bz,cZ,ix,fz,fy,ee,fW,fV,gG,dl,h4,dN,bM,iw,bT,bK,bH,bL,reduceAdd,reduceLT,ck,bG,aZ]
theorem QC(met:List Pl)(k:Nat)(a5:ak O)(b:Bool)(hb:b=decide (k<met.length)):xJ (je (cx h) pd aa (some (.lst ((met.map aL).map .Y))) (k:Int) a5)=some (b,je (cx h) pd aa (some (.lst ((met.map aL).map .Y))) (k:Int) a5):=by
 have e2:cK [.lst ((met.map aL).map .Y)]=some (.Y (.int (met.length:Nat))):=by
  rw[uM,gG,jW];show some (O.Y (.int ((met.map aL).length:Nat)))=_;rw[bO]
 have e3:decide ((k:Int)<(met.length:Int))=b:=by rw[hb];exact decide_eq_decide.mpr (by lia)
 generalize(met.length:Int)=n2 at *;generalize(k:Int)=ki at *;generalize(met.map aL).map O.Y=mo at *;unfold xJ je;simp only[cF,bD,bp,bc,bt,bf,↓ag,bq,bA,iC,fN,bz,e2,bB,gw,e3,aZ]
theorem Pc:∀(K k:Nat) (met:List Pl) (a5:ak O),Mt h aa pz met->k<=met.length->31<=K+k->
  ((∃d,dy h aa pz=some d)/\∃a3 a4 b5,gf xJ uU K (je (cx h) pd aa (some (.lst ((met.map aL).map .Y))) (k:Int) a5)=some (.rt (.Y (.bl true)),je (cx h) pd aa a3 a4 b5))\/
  ∃a3 a4 b5,gf xJ uU K (je (cx h) pd aa (some (.lst ((met.map aL).map .Y))) (k:Int) a5)=some (.nx,je (cx h) pd aa a3 a4 b5)
 |0,k,met,a5,mt,h1,h2=>by
  have ml:=Fc ok mt.1 λq m=>(mt.2 q m).1
  lia
 |K+1,k,met,a5,mt,h1,h2=>by
  by_cases c:k<met.length
  .have e1:=QC ok hc pd met k a5 true (ig c).symm;rcases YC ok hc pd mt c a5 with⟨f,a3,b5,e2⟩|⟨gI,b5,mt',l',e2⟩
   .exact .inl ⟨f,a3,(k:Int),b5,e9c e1 e2⟩
   .have e3:=RP (K:=K) e1 e2;rw[show(k:Int)+1=((k+1:Nat):Int) from rfl] at e3;rw[e3];exact Pc K (k+1) gI b5 mt' (by lia) (by lia)
  .have e1:=QC ok hc pd met k a5 false (ij c).symm;exact .inr ⟨_,_,_,Rq e1⟩
theorem YD(vz:VP h pz):∃b:Bool,(b=true->∃d,dy h aa pz=some d)/\yV [.Y (cx h),.Y (aL pz),.Y (.str aa)]=some (.Y (.bl b),[none,none,none]):=by
 have e:=Pc ok hc (aL pz) (pz:=pz) 1000000 0 [pz] none ⟨by simp,λq m=>by rw[i3] at m;rw[m];exact⟨vz,id⟩⟩ (nq _) (by lia)
 have z:(some (O.lst (([pz].map aL).map .Y)))=some (.lst [.Y (aL pz)]):=rfl;rw[z,show((0:Nat):Int)=0 from rfl] at e;unfold je at e;unfold yV;unfold HV;rcases e with⟨f,a3,a4,b5,e⟩|⟨a3,a4,b5,e⟩
 .refine⟨true,λ_=>f,?_⟩
  generalize aL pz=pd at *;generalize xJ=cc at *;generalize uU=cb at *;simp only[gD,dY,dZ,bK,bH,bL,reduceAdd,reduceSub,eV,eM,eE,eG,cM,dN,fg,bp,bc,bt,bf,↓ag,bq,reduceLeDiff,fO,d_,aZ,reduceLT,ck,bG,bM,e,h_,gL,gM,gR,gE]
 .refine⟨false,λz=>(by cases z),?_⟩
  generalize aL pz=pd at *;generalize xJ=cc at *;generalize uU=cb at *;simp only[gD,dY,dZ,bK,bH,bL,reduceAdd,reduceSub,eV,eM,eE,eG,cM,dN,fg,bp,bc,bt,bf,↓ag,bq,reduceLeDiff,fO,d_,aZ,reduceLT,ck,bG,bM,e,eS,h_,gL,gM,gR,gE]
end
theorem Ru(P:List Pl):oEq [.Y (.lst (P.map aL)),.lst []]=some (.Y (.bl P.isEmpty)):=by
 have o:cS 40 (.lst (P.map aL))=true:=by
  show(P.map aL).all (cS 39)=true;rw[<-EL];exact Bz 38 _
 rw[mJ,bT,gG,fX,aY ⟨o,rfl⟩];cases P with
 |nil=>rw[mT];simp[bj,eU]
 |cons p P=>rw[cY];simp[bj,eU]
def lG(ns:List Int)(F:ba)(h:az)(aa:Str)(fL:Int)(P:List Pl)(Ni:Int)(a7:ak O):Gm:=
 [some (.Y (.fH ns)),some (br F),some (.Y (cx h)),some (.Y (.str aa)),some (.Y (.int fL)),some (.Y (.lst (P.map aL))),some (.Y (.int Ni)),a7]
theorem JW(P:List Pl):cK [.Y (.lst (P.map aL))]=some (.Y (.int (P.length:Nat))):=by rw[vO,bO]
theorem ε(hk:k<P.length):((k:Int)<(P.length:Int))=True:=ke (by lia)
section
variable{h:az}(ok:gd h){P:List Pl}(nd:P.Nodup)(vq:∀p,p∈P->VP h p){aa:Str}(hc:aa∈h.aG)(hP:P.length<=5)(hf:∀p,p∈P->∃d,dy h aa p=some d){Nn:Nat}(sn:Sn h P aa Nn)(ne:P≠[])(ns:List Int)(fL:Int){Ni:Int}(hN:Ni=Nn)
theorem l_0(F:ba)(a7:ak O):l7 (lG ns F h aa fL [] 0 a7)=some (.rt (.Y (.bl true)),lG ns F h aa fL [] 0 a7):=by
 have e1:=Ru [];have e1:oEq [.Y (.lst []),.lst []]=some (.Y (.bl true)):=e1;have e2:=QS 0 0;rw[lU] at e2;unfold l7 lG;rw[mT];simp only[dg,cF,bD,bp,bc,bt,bf,↓ag,fg,bq,bH,reduceLeDiff,d_,aZ,bA,bB,bz,e1,eS,bM,e2,dq]
include ne in
theorem l_7(F:ba)(a7:ak O):l7 (lG ns F h aa fL P Ni a7)=some (.nx,lG ns F h aa fL P Ni a7):=by
 have e1:=Ru P;have ee:P.isEmpty=false:=by
  cases P with
  |nil=>exact cu rfl ne
  |cons _ _=>rfl
 rw[ee] at e1;unfold l7 lG;simp only[dg,cF,bD,bp,bc,bt,bf,↓ag,fg,bq,bH,reduceLeDiff,d_,aZ,bA,bB,bz,e1,cW,eS,bM,mJ,bT,mZ,and_self,oQ,dq,cB]
include sn ne hN
theorem l_8(F:ba)(a7:ak O):l8 (lG ns F h aa fL P Ni a7)=some (.nx,lG ns F h aa fL P Ni a7):=by
 have:=(sn.f ne).1;have e1:(Ni<1)=False:=eq_false (by lia)
 unfold l8 lG;simp only[dg,cF,bD,bp,bc,bt,bf,↓ag,bM,bq,bA,bB,bz,gw,e1,decide_false,aZ,cW,eS,dq,cB]
include ok nd vq hP
theorem l_9(F:ba)(g:bh F)(a7:ak O):∃(F':ba) (b7:ak O),bh F'/\l9 (lG ns F h aa fL P Ni a7)=some (.nx,lG ns F' h aa fL P Ni b7):=by
 obtain⟨n1,_,nf⟩:=sn.f ne;have nl:=sn.le;obtain⟨C,sp,hC⟩:∃C,Sep h P aa (Nn - 1) C/\C.length<P.length:=oV λz=>nf λC s=>Nat.le_of_not_lt λy=>z ⟨C,s,y⟩
 obtain⟨aw,e,F',b7,g',rfl⟩:=Iq (g:=bu 7) (f:=Cv) (λk:Nat=>D.int (0+(k:Int))) (λQ0=>∃(F':ba) (b7:ak O),bh F'/\Q0=lG ns F' h aa fL P Ni b7) (List.range 4) (lG ns F h aa fL P Ni a7) ⟨F,a7,g,rfl⟩ (by
  rintro k _ Q0 ⟨F',b7,g',rfl⟩;have Lc:bu 7 (.int (0+(k:Int))) (lG ns F' h aa fL P Ni b7)=some (lG ns F' h aa fL P Ni (some (.Y (.int (0+(k:Int)))))):=rfl;rw[Lc,Option.bind_some];obtain⟨F2,c,g2,le,e2⟩:=e9a ok nd vq aa (Ni - 1) (Nn - 1) (by lia) (by lia) (by lia) sp F' g'
  refine⟨lG ns F2 h aa fL P Ni (some (.Y (.int (0+(k:Int))))),?_,F2,_,g2,rfl⟩;have el:=JW P;have e3:=QS c (P.length:Int);rw[show(c == (P.length:Int))=false by rw[oI];lia] at e3
  generalize(P.length:Int)=wl at *;generalize(0+(k:Int))=ki;unfold Cv lG;simp only[dg,cF,bD,bp,fA,bc,bt,bf,↓ag,bM,bq,bA,bB,bz,gw,aZ,ja,ck,bG,fz,fy,e2,jH,fW,fV,el,e3,cW,eS,dq,cB])
 refine⟨F',b7,g',?_⟩;rw[<-tT] at e;have i1:iW [.own (.Y (.int 4))]=some 4:=vJ (by decide)
 have e:fK (bu 7) Cv (gq 0 (4:Int).toNat) (lG ns F h aa fL P Ni a7)=_:=e;unfold l9;unfold lG at *;generalize Cv=lr at *;simp only[zy,bp,bM,↓ag,bq,i1,e]
omit sn hN ok nd vq
theorem LA(F:ba)(g:bh F)(a7:ak O):∃(F':ba) (m:Nat),bh F'/\m<P.length/\Lu (lG ns F h aa fL P Ni a7)=some (.nx,lG ns F' h aa fL P Ni (some (.Y (.int (m:Int))))):=by
 have lp:0<P.length:=List.length_pos_iff.mpr ne;have hm:(0:Int)<(P.length:Int):=by lia
 have e4:=xd g (m:=(P.length:Int)) hm (by lia)
 have d0:=qP F hm;have d1:=qQ F hm;have g3:=g.draw (P.length:Int);have el:=JW P;obtain⟨m,em⟩:∃m:Nat,aQ F (P.length:Int)=(m:Int):=⟨_,(Int.toNat_of_nonneg d0).symm⟩;rw[em] at d1 e4;refine⟨aK F (P.length:Int),m,g3,by lia,?_⟩
 generalize aK F (P.length:Int)=F3 at *;generalize(P.length:Int)=pl at *;generalize(m:Int)=mi at *;unfold Lu lG;simp only[dN,cI,fA,bp,bc,bt,bf,↓ag,bD,bq,bA,bB,bz,el,ja,ck,bG,fz,fy,e4,jH,fW,fV,bT,bK,bH,bL,reduceAdd,reduceLT,aZ]
include sn hN ok nd vq hc hf
theorem LB(F:ba)(m:Nat)(hm:m<P.length):Lv (lG ns F h aa fL P Ni (some (.Y (.int (m:Int)))))=some (.nx,lG ns F h aa fL P Ni (some (.Y (.int (m:Int))))):=by
 have eP:P.take m++P.drop (m+1)=P.eraseIdx m:=(List.eraseIdx_eq_take_drop_succ P m).symm;have sub:(P.eraseIdx m).Sublist P:=List.eraseIdx_sublist P m;have le:=sub.length_le;obtain⟨N',GV,e1⟩:=Jl ok (sub.nodup nd) (λp z=>vq p (sub.subset z)) hc (by lia) (λp z=>hf p (sub.subset z))
 have nle:¬Ni<(N':Int):=by
  by_cases z:P.eraseIdx m=[]
  .have:=GV.z z;lia
  .obtain⟨_,_,nf⟩:=GV.f z;obtain⟨_,fu,_⟩:=sn.f ne;have f2:j8 h (P.eraseIdx m) aa Nn:=WO (x:=P[m]) (λp z=>by
    have e:P=P.take m++P[m]::P.drop (m+1):=by
     rw[<-DB hm,uk]
    rw[e] at z;rcases eT.mp z with z|z
    .exact .inr (by rw[<-eP];exact eT.mpr (.inl z))
    .rcases eX.mp z with z|z
     .exact .inl z
     .exact .inr (by rw[<-eP];exact eT.mpr (.inr z))) (by rw[List.length_eraseIdx_of_lt hm];lia) fu
   intro y;exact nf (Eo f2 (by lia))
 have f1:cutD (P.map aL) none (some (m:Int))=(P.take m).map aL:=by rw[JJ,MG]
 have f2:cutD (P.map aL) (some ((m:Int)+1)) none=(P.drop (m+1)).map aL:=by
  rw[show((m:Int)+1)=((m+1:Nat):Int) from rfl,OS,Ha]
 have f3:(P.take m).map aL++(P.drop (m+1)).map aL=(P.eraseIdx m).map aL:=by rw[<-eP,jm]
 have f4:(((P.take m).map aL).length+((P.drop (m+1)).map aL).length<=1000000)=True:=ke (by
  rw[bO,bO,qL,ui];lia)
 have f5:O.dl (((P.eraseIdx m).map aL).map .Y)=(P.eraseIdx m).map aL:=jW _;generalize(m:Int)=mi at *;generalize(N':Int)=Ni' at *;unfold Lv lG;generalize P.take m=A at *;generalize P.drop (m+1)=B at *;simp only[dg,cF,bD,bp,qq,bc,bt,bf,↓ag,Eb,Eu,Ew,EA,↓evMap,bB,NS,f1,bM,bq,bA,bz,iw,f2,Bd,Br,xf,f4,f3,aZ,gy,bT,gG,f5,fX,dY,dZ,e1,vN,gw,nle,decide_false,cW,eS,dq,cB]
theorem LC(F:ba)(a7:ak O):Lx (lG ns F h aa fL P Ni a7)=some (.nx,lG ns F h aa fL P Ni a7):=by
 obtain⟨N',GV,e1⟩:=Jl ok ((List.reverse_perm P).nodup_iff.mpr nd) (λp m=>vq p (G6.mp m)) hc (by rw[ME];lia) (λp m=>hf p (G6.mp m))
 obtain⟨_,fu,nf⟩:=sn.f ne;obtain⟨_,fu',GN⟩:=GV.f (by simpa using ne)
 have s1:∀n,j8 h P aa n->j8 h P.reverse aa n:=λn=>O' (λp=>G6.symm) (ME ..).symm
 have s2:∀n,j8 h P.reverse aa n->j8 h P aa n:=λn=>O' (λp=>G6) (ME ..)
 have hN':(N':Int)=Ni:=by
  have a1:¬Nn<N':=λy=>GN (Eo (s1 _ fu) (by lia))
  have a2:¬N'<Nn:=λy=>nf (Eo (s2 _ fu') (by lia))
  lia
 rw[hN'] at e1;have f1:AY [.Y (.lst (P.map aL))]=some (.lst ((P.reverse.map aL).map .Y)):=by
  show some (O.lst ((P.map aL).reverse.map .Y))=_;rw[show(P.map aL).reverse=P.reverse.map aL from List.map_reverse.symm]
 have f2:O.dl ((P.reverse.map aL).map .Y)=P.reverse.map aL:=jW _;have f3:=E2 Ni Ni;rw[lU] at f3;unfold Lx lG;simp only[dg,cF,bD,bp,qq,bc,bt,bf,↓ag,bq,bA,bB,bz,f1,gy,bT,gG,f2,fX,dY,dZ,e1,vN,f3,jR,cW,eS,bM,dq,cB]
omit hc hf
theorem Ol(T:Int)(n:Nat)(hT:T=n)(hn:n<Nn):∃k:Int,(k<(P.length:Int))=True/\xh [.Y (cx h),.Y (.lst (P.map aL)),.Y (.str aa),.Y (.int T)]=some (.Y (.int k),[none,none,none,none]):=by
 have nl:=sn.le;obtain⟨k,k1,k2,e⟩:=Rr (aa:=aa) ok nd vq (by lia) T n hT (by lia)
 have nf:¬j8 h P aa n:=λz=>(sn.f ne).2.2 (Eo z (by lia))
 have:k≠P.length:=λz=>nf (k2.mp z)
 exact⟨k,ε (by lia),e⟩
theorem e9e(F:ba)(a7:ak O):aR GH (aR Ly Lz) (lG ns F h aa fL P Ni a7)=some (.rt (.Y (.bl true)),lG ns F h aa fL P Ni a7):=by
 have nl:=sn.le;obtain⟨n1,fu,_⟩:=sn.f ne;have el:=JW P;by_cases c:12<Ni
 .obtain⟨k,k1,e⟩:=Ol ok nd vq hP sn ne hN 12 12 rfl (by lia)
  have c1:decide ((12:Int)<Ni)=true:=ig c;generalize(P.length:Int)=pl at *;unfold GH lG;simp only[cM,dg,cF,bD,bp,bc,bt,bf,↓ag,bM,bq,bA,bB,bz,gw,c1,aZ,eS,qq,gy,bT,fX,dY,dZ,e,vN,el,k1,decide_true,dq]
 .obtain⟨k,k1,e⟩:=Ol ok nd vq hP sn ne hN (Ni - 1) (Nn - 1) (by lia) (by lia)
  obtain⟨k',_,k2,e'⟩:=Rr (aa:=aa) ok nd vq (by lia) Ni Nn hN (by lia)
  rw[k2.mpr fu] at e';have c1:decide ((12:Int)<Ni)=false:=ij c;have f3:=E2 (P.length:Int) (P.length:Int);rw[lU] at f3;generalize(P.length:Int)=pl at *;unfold GH Ly Lz lG;simp only[cM,dg,cF,bD,bp,bc,bt,bf,↓ag,bM,bq,bA,bB,bz,gw,c1,aZ,cW,eS,qq,gy,bT,fX,dY,dZ,dq,cB,e',vN,el,f3,jR,e,k1,decide_true]
end
theorem zh{a b:GS}(e:a Q0=some (.nx,cD))(e2:b cD=r):aR a b Q0=r:=by
 simp only[cM,e,↓ag,e2]
theorem YE{a b:GS}{o:O}(e:a Q0=some (.rt o,cD)):aR a b Q0=some (.rt o,cD):=by
 simp only[cM,e,↓ag]
theorem ζ(ok:gd h)(nd:P.Nodup)(v:∀p,p∈P->VP h p)(hc:aa∈h.aG)(hP:P.length<=5)(hf:∀p,p∈P->∃d,dy h aa p=some d){N:Nat}(sn:Sn h P aa N)(ns:List Int)(fL:Int)(hN:Ni=N)(F:ba)(g:bh F):
  ∃(F':ba) (b7:ak O),lT (lG ns F h aa fL P Ni none)=some (.rt (.Y (.bl true)),lG ns F' h aa fL P Ni b7):=by
 by_cases ne:P=[]
 .subst ne;have:Ni=0:=by have:=sn.z rfl;lia
  subst this;exact⟨F,none,YE (l_0 ns fL F none)⟩
 .obtain⟨F2,b7,g2,e9⟩:=l_9 ok nd v hP sn ne ns fL hN F g none;obtain⟨F3,m,g3,hm,XY⟩:=LA (h:=h) (aa:=aa) hP ne ns fL (Ni:=Ni) F2 g2 b7;exact⟨F3,_,zh (l_7 ne ns fL F none) (zh (l_8 sn ne ns fL hN F none) (zh e9 (zh XY (zh (LB ok nd v hc hP hf sn ne ns fL hN F3 m hm) (zh (LC ok nd v hc hP hf sn ne ns fL hN F3 _) (e9e ok nd v hP sn ne ns fL hN F3 _))))))⟩
theorem LL{lt:GS}{l5:GT}{F0 F1 F2 F3:ba}{P0 PL CS:List D}{ol cv cl fL:Int}{b:Bool}{a:ak O}(e1:y3 [.Y (.fH ns)]=some (br F0,[none]))(e2:yW [br F0]=some (.tup [.lst (h.aF.map fB),.Y (.lst (h.aG.map .str))],[some (br F1)]))
  (hd:D.tup [.lst (O.dl (h.aF.map fB)),.lst (h.aG.map .str)]=cx h) (el:cK [.Y (.lst (h.aG.map .str))]=some (.Y (.int ol))) (e4:kF [br F1,.Y (.int ol)]=some (.Y (.int cv),[some (br F2),none]))
  (ex:dU (.Y (.lst (h.aG.map .str))) (.int cv)=some (.Y (.str aa))) (ec:w_ [.Y (cx h)]=some (.Y (.lst CS),[none])) (FL:cK [.Y (.lst CS)]=some (.Y (.int cl))) (hb:decide ((16:Int)<cl)=b) (em:fL=if b=true then 3 else 5)
  (e5:yS [br F2,.Y (cx h),.Y (.int fL)]=some (.lst (P0.map .Y),[some (br F3),none,none])) (e6:compLoop (bu 0) l5 (ae 0) P0 [none,some (.Y (cx h)),some (.Y (.str aa))] []=some (PL.map .Y,[a,some (.Y (cx h)),some (.Y (.str aa))]))
  (e7:vD [.Y (cx h),.Y (.lst PL),.Y (.str aa)]=some (.Y (.int Ni),[none,none,none])) (s:lt [some (.Y (.fH ns)),some (br F3),some (.Y (cx h)),some (.Y (.str aa)),some (.Y (.int fL)),some (.Y (.lst PL)),some (.Y (.int Ni)),none]=r) :
  (aR (aq 1 (aH y3 (aj (ae 0) gN))) (aR (aq 2 (ay (aH yW (aj (ae 1) gN)))) (aR (aq 3 (gB bJ (gB bJ (ae 2) (gC (.int 1))) (aH kF (aj (ae 1) (aj (gO cK (aj (gB bJ (ae 2) (gC (.int 1))) gN)) gN))))) (aR (aq 4 (gB bJ (bC .lst (aj (gC (.int 5)) (aj (gC (.int 3)) gN))) (gO kT (aj (gB qG (gO cK (aj (aH w_ (aj (ae 2) gN)) gN)) (gC (.int 16))) gN)))) (aR (aq 5 (ay (jY (iX (aH yS (aj (ae 1) (aj (ae 2) (aj (ae 4) gN))))) (bu 0) l5 (ae 0) 1 [2,3]))) (aR (aq 6 (ly vD (aj (ae 2) (aj (ae 5) (aj (ae 3) gN))))) lt)))))) [some (.Y (.fH ns)),none,none,none,none,none,none,none]=r:=by
 have Ry:O.dl (P0.map .Y)=P0:=jW _;have Rx:O.dl (PL.map .Y)=PL:=jW _;cases b with
 |true=>
  rw[aY rfl] at em;subst em;simp only[cM,dN,fA,bp,bc,bf,↓ag,bq,fz,fy,e1,fW,fV,bK,bH,bL,reduceAdd,reduceLT,ck,bG,aZ,cI,bt,ja,e2,jH,jx,gy,gG,bT,fX,hd,bD,bM,bA,bB,bz,cZ,G2,el,e4,ex,fg,reduceLeDiff,fO,d_,ec,FL,gw,hb,Ju,vU,oJ,vH,mY,qT,e5,Ry,eV,eM,oY,fN,nF,eE,eG,e6,oU,nt,oZ,nH,Rx,qq,dY,dZ,e7,vN,s]
 |false=>
  rw[bb oT] at em;subst em;simp only[cM,dN,fA,bp,bc,bf,↓ag,bq,fz,fy,e1,fW,fV,bK,bH,bL,reduceAdd,reduceLT,ck,bG,aZ,cI,bt,ja,e2,jH,jx,gy,gG,bT,fX,hd,bD,bM,bA,bB,bz,cZ,G2,el,e4,ex,fg,reduceLeDiff,fO,d_,ec,FL,gw,hb,Ju,cW,cB,vU,lE,vH,mY,qT,e5,Ry,eV,eM,oY,fN,nF,eE,eG,e6,oU,nt,oZ,nH,Rx,qq,dY,dZ,e7,vN,s]
theorem YF{ml:GS}{a0 a1 a3 a5 a6 a7:ak O}(s2:ml [some (.Y (.fH ns)),none,none,none,none,none,none,none]=some (.rt (.Y (.bl true)),[a0,a1,a2,a3,a4,a5,a6,a7])):runM 8 [false] ml [.Y (.fH ns)]=some (.Y (.bl true),[none]):=by
 simp only[gD,dY,dZ,bK,bH,bL,reduceSub,eV,eM,eE,eG,s2,↓ag,h_,reduceAdd,gL,gM,gR,gE,aZ]
noncomputable def qZ (h:az) (aa:Str) (p:Pl):Bool:=@decide (yV [.Y (cx h),.Y (aL p),.Y (.str aa)]=some (.Y (.bl true),[none,none,none])) (Classical.propDecidable _)
theorem η(ok:gd h)(hc:aa∈h.aG)(v:∀p,p∈P->VP h p)(hP:P.length<=8):(∀p,p∈P.filter (qZ h aa)->∃d,dy h aa p=some d)/\∃a,compLoop (bu 0) GI (ae 0) (P.map aL) [none,some (.Y (cx h)),some (.Y (.str aa))] []=some (((P.filter (qZ h aa)).map aL).map .Y,[a,some (.Y (cx h)),some (.Y (.str aa))]):=by
 have key:∀p,p∈P->yV [.Y (cx h),.Y (aL p),.Y (.str aa)]=some (.Y (.bl (qZ h aa p)),[none,none,none])/\(qZ h aa p=true->∃d,dy h aa p=some d):=λp mp=>by
  obtain⟨b,h1,e⟩:=YD ok hc (v p mp);have:qZ h aa p=b:=by
   unfold qZ;cases b with
   |true=>exact @decide_eq_true _ (Classical.propDecidable _) e
   |false=>exact @decide_eq_false _ (Classical.propDecidable _) (λz=>by rw[e] at z;cases z)
  rw[this];exact⟨e,h1⟩
 refine⟨λp m=>(key p (jr.mp m).1).2 (jr.mp m).2,?_⟩
 obtain⟨aw,⟨a,rfl⟩,e⟩:=tR (g:=bu 0) (ct:=GI) (ce:=ae 0) (λQ0=>∃a,Q0=[a,some (.Y (cx h)),some (.Y (.str aa))]) aL (qZ h aa) aL P [] [none,some (.Y (cx h)),some (.Y (.str aa))] ⟨_,rfl⟩ (by rw[rq];lia) (by
  rintro p mp Q0 ⟨a,rfl⟩;refine⟨[some (.Y (aL p)),some (.Y (cx h)),some (.Y (.str aa))],?_,_,rfl⟩;have e:=(key p mp).1;generalize aL p=pd at *;unfold GI;cases hb:qZ h aa p with
  |true=>
   rw[hb] at e;simp only[qR,fU,bK,bH,bL,reduceAdd,reduceLT,bG,aZ,↓ag,kI,qq,bp,bc,bt,bf,bq,bA,bB,bz,gy,bT,fX,dY,dZ,e,PD,oO]
  |false=>
   rw[hb] at e;simp only[qR,fU,bK,bH,bL,reduceAdd,reduceLT,bG,aZ,↓ag,kI,qq,bp,bc,bt,bf,bq,bA,bB,bz,gy,bT,fX,dY,dZ,e,PD,oO,cW,cB])
 rw[gc,show([]:List D).map O.Y=[] from rfl] at e;exact⟨a,e⟩
theorem e9f(ns:List Int)(hn:ns.length<=63):∃fin,Kb [.Y (.fH ns)]=some (.Y (.bl true),fin):=by
 have e1:=Zw ns hn;have g0:bh (rV ns):=⟨vy 0,hn⟩;obtain⟨F1,h,g1,ok,e2⟩:=X0 (rV ns) g0;have hd:D.tup [.lst (O.dl (h.aF.map fB)),.lst (h.aG.map .str)]=cx h:=by rw[e8h];rfl
 have ct:=ok.ct;have hm:(0:Int)<(h.aG.length:Int):=by lia
 have e4:=xd g1 (m:=(h.aG.length:Int)) hm (by lia)
 have d0:=qP F1 hm;have d1:=qQ F1 hm;obtain⟨aa,mc,ea⟩:=JS D.str h.aG (aQ F1 (h.aG.length:Int)) d0 d1;have el:cK [.Y (.lst (h.aG.map .str))]=some (.Y (.int (h.aG.length:Nat))):=by rw[vO,bO]
 have ex:dU (.Y (.lst (h.aG.map .str))) (.int (aQ F1 (h.aG.length:Int)))=some (.Y (.str aa)):=by
  show(dO (h.aG.map .str) _).map O.Y=_;rw[ea];rfl
 have g2:=g1.draw (h.aG.length:Int);generalize aK F1 (h.aG.length:Int)=F2 at *;obtain⟨cs,_,_,_,ec⟩:=P4 h ok;have FL:=vO (cs.map aB);obtain⟨b,hb⟩:∃b,decide ((16:Int)<((cs.map aB).length:Nat))=b:=⟨_,rfl⟩;obtain⟨fL,em⟩:∃fL:Int,fL=if b=true then 3 else 5:=⟨_,rfl⟩
 have m1:0<=fL/\fL<=5:=by rw[em];cases b <;> decide
 obtain⟨F3,pl,g3,vp,lp,np,e5⟩:=WC ok F2 g2 fL m1.1 (by lia)
 obtain⟨P,rfl,nd,v⟩:=Oi vp np;rw[bO] at lp;unfold j5 at e5;rw[EL] at e5;obtain⟨hf,a,e6⟩:=η ok mc v (by lia)
 have lf:=Hf (qZ h aa) P;have SA:=nd.filter (qZ h aa);have vf:∀p,p∈P.filter (qZ h aa)->VP h p:=λp m=>v p (jr.mp m).1
 generalize P.filter (qZ h aa)=Q at *;obtain⟨N,sn,e7⟩:=Jl ok SA vf mc (by lia) hf
 obtain⟨F4,b7,s⟩:=ζ ok SA vf mc (by lia) hf sn ns fL rfl F3 g3
 refine⟨[none],?_⟩;unfold Kb;unfold Ka;exact YF (LL e1 e2 hd el e4 ex ec FL hb em e5 e6 e7 s)
def tE(K:FG):L2.Sp:=λvs H Q _=>∃(a:ao) (ns:List Int),vs=[.ref a]/\dH K H a (ns.map V.int)/\ns.length<=63/\∀H',Q (.bl true) H'
theorem θ{P:gv}{w:eZ}{K:FG}{base:df}{t:Hg}(T:Txt K mg t):bQ P w K mg base fw 9 t.BX t.BS ["_law_script"] (tE K):=by
 have z0:=@Zt P w _ _ base _ T;have z2:=@U2 P w _ _ base _ T;have z3:=@XQ P w _ _ base _ T;have z4:=@T_ P w _ _ base _ T;have z8:=@U3 P w _ _ base _ T;have MJ:=@XS P w _ _ base _ T;have z14:=@Wf P w _ _ base _ T;have z17:=@U4 P w _ _ base _ T;have DF:=@U5 P w _ _ base _ T;have z19:=@U6 P w _ _ base _ T;have S5:=@T' P w _ _ base _ T;have S6:=@Ua P w _ _ base _ T;have z1:=@XT P w _ _ base _ T z3 z2;have z5:=@Wg P w _ _ base _ T z4;have z7:=@Zu P w _ _ base _ T z8;have z13:=@TF P w _ _ base _ T z14;have z20:=@U7 P w _ _ base _ T DF;have z24:=@TH P w _ _ base _ T S5 DF;have z25:=@Ub P w _ _ base _ T S6;have z26:=@Wh P w _ _ base _ T DF S6;have z6:=@Wj P w _ _ base _ T z5;have z16:=@Tq P w _ _ base _ T z7;have z21:=@Uc P w _ _ base _ T DF z19 z20;have z12:=@TJ P w _ _ base _ T MJ z0 z6;have z11:=@Ud P w _ _ base _ T MJ z0 z12;have z9:=@Ue P w _ _ base _ T z1 z13 MJ z11;have z15:=@Ug P w _ _ base _ T z16 z7 z9;have z28:=@U8 P w _ _ base _ T z9;have z27:=@Uh P w _ _ base _ T z15;exact Xw (Zv T S5 z25 DF z17 z21 z28 z24 z26 z27) e9f
theorem FJ(g:∀a0,X [a0])(us:List au)(h:us.length=1):X us:=by
 obtain _|⟨a0,us⟩:=us
 .cases h
 obtain _|⟨z,us⟩:=us
 .exact g a0
 .simp at h
theorem uc(g:∀a0 a1,X [a0,a1])(us:List au)(h:us.length=2):X us:=by
 obtain _|⟨a0,us⟩:=us
 .cases h
 obtain _|⟨a1,us⟩:=us
 .cases h
 obtain _|⟨z,us⟩:=us
 .exact g a0 a1
 .simp at h
theorem uV(g:∀a0 a1 a2,X [a0,a1,a2])(us:List au)(h:us.length=3):X us:=by
 obtain _|⟨a0,us⟩:=us
 .cases h
 obtain _|⟨a1,us⟩:=us
 .cases h
 obtain _|⟨a2,us⟩:=us
 .cases h
 obtain _|⟨z,us⟩:=us
 .exact g a0 a1 a2
 .simp at h
theorem FK(g:∀a0 a1 a2 a3,X [a0,a1,a2,a3])(us:List au)(h:us.length=4):X us:=by
 obtain _|⟨a0,us⟩:=us
 .cases h
 obtain _|⟨a1,us⟩:=us
 .cases h
 obtain _|⟨a2,us⟩:=us
 .cases h
 obtain _|⟨a3,us⟩:=us
 .cases h
 obtain _|⟨z,us⟩:=us
 .exact g a0 a1 a2 a3
 .simp at h
theorem RW(g:∀a0 a1 a2 a3 a4,X [a0,a1,a2,a3,a4])(us:List au)(h:us.length=5):X us:=by
 obtain _|⟨a0,us⟩:=us
 .cases h
 obtain _|⟨a1,us⟩:=us
 .cases h
 obtain _|⟨a2,us⟩:=us
 .cases h
 obtain _|⟨a3,us⟩:=us
 .cases h
 obtain _|⟨a4,us⟩:=us
 .cases h
 obtain _|⟨z,us⟩:=us
 .exact g a0 a1 a2 a3 a4
 .simp at h
theorem Ml(g:∀a0 a1 a2 a3 a4 a5,X [a0,a1,a2,a3,a4,a5])(us:List au)(h:us.length=6):X us:=by
 obtain _|⟨a0,us⟩:=us
 .cases h
 obtain _|⟨a1,us⟩:=us
 .cases h
 obtain _|⟨a2,us⟩:=us
 .cases h
 obtain _|⟨a3,us⟩:=us
 .cases h
 obtain _|⟨a4,us⟩:=us
 .cases h
 obtain _|⟨a5,us⟩:=us
 .cases h
 obtain _|⟨z,us⟩:=us
 .exact g a0 a1 a2 a3 a4 a5
 .simp at h
open PyProof.Rows
def vk:List Stmt:=[1,2,4,5,6,7,9,11,12,13,14,16,17,18,19,20,21,22,23,25,26,28,29,30,31,32,33,34,35,36,37,38,39,40].map top
noncomputable def dl:List (Str×Nat):=[("lay",2),("fill",3),("search",4),("push",5),("belt_of",6),("steps",7),("moves",8),("far",9),("begins",10),("in_time",13),("into",14),("lay_net",15),("lay_spot",16),("followed",17),("taken",18),("soonest",19),("check_ways",20),("_law_feed",21),("_law_draw",22),("_law_name",23),("_law_outs",24),("_law_house",25),("_law_cells",26),("_law_steps",27),("_law_places",28),("_law_comes",29),("_law_run",30),("_law_turns",31),("_law_many",32),("law",33)]
noncomputable def bl:List Str:=["len","isinstance","int","bool","str","list","tuple","range","any","enumerate","reversed","min","max"]
theorem ι{l:PySem.W.OpenLaw}{w:eZ}{q:gv}{L:List Str}{me:ExcName->ak au}{mb:Str->ak au}{h:df}{fa:ao}(T:Top q L me mg mb h)(hfa:mg "law"=some (.ref fa))(hq:q.main.body=vk)(hD:xH vk dl=true)(hB:xG q L bl=true)(mV:valOf q "START"=some (.str "the start"))(tL:valOf q "END"=some (.str "the end")):
  ∃fd:lS,(∀(s:aE) (v:au),BindsTo s fd ⟨[v],[]⟩ [("_law_script",v)])/\∀base:df,bQ l.prog w (snap h) mg base fw 9 fa fd ["_law_script"] (tE (snap h)):=by
 obtain⟨f0,d0,m0,F0⟩:=jo (st:=J6) T hq hD 0 rfl rfl;obtain⟨f1,d1,m1,F1⟩:=jo (st:=JD) T hq hD 1 rfl rfl;obtain⟨f2,d2,m2,F2⟩:=jo (st:=Ir) T hq hD 2 rfl rfl;obtain⟨f3,d3,m3,F3⟩:=jo (st:=JE) T hq hD 3 rfl rfl;obtain⟨f4,d4,m4,F4⟩:=jo (st:=HK) T hq hD 4 rfl rfl;obtain⟨f5,d5,m5,F5⟩:=jo (st:=EC) T hq hD 5 rfl rfl;obtain⟨f6,d6,m6,F6⟩:=jo (st:=IY) T hq hD 6 rfl rfl;obtain⟨f7,d7,m7,F7⟩:=jo (st:=J7) T hq hD 7 rfl rfl;obtain⟨f8,d8,m8,F8⟩:=jo (st:=Ec) T hq hD 8 rfl rfl;obtain⟨f9,d9,m9,F9⟩:=jo (st:=DQ) T hq hD 9 rfl rfl;obtain⟨FO,BP,m10,vB⟩:=jo (st:=JF) T hq hD 10 rfl rfl;obtain⟨FQ,BQ,m11,zZ⟩:=jo (st:=HL) T hq hD 11 rfl rfl;obtain⟨FR,Fh,m12,z_⟩:=jo (st:=DN) T hq hD 12 rfl rfl;obtain⟨FT,Fi,m13,Aa⟩:=jo (st:=Hw) T hq hD 13 rfl rfl;obtain⟨FU,Fj,m14,Ab⟩:=jo (st:=ED) T hq hD 14 rfl rfl;obtain⟨FV,Fm,m15,Ae⟩:=jo (st:=DR) T hq hD 15 rfl rfl;obtain⟨FW,Fo,m16,Af⟩:=jo (st:=Hm) T hq hD 16 rfl rfl;obtain⟨FX,Fp,m17,Ag⟩:=jo (st:=Iu) T hq hD 17 rfl rfl;obtain⟨FY,Fq,m18,kx⟩:=jo (st:=Iv) T hq hD 18 rfl rfl;obtain⟨FZ,Fs,m19,Ah⟩:=jo (st:=Iw) T hq hD 19 rfl rfl;obtain⟨F_,Ft,m20,Ak⟩:=jo (st:=Ed) T hq hD 20 rfl rfl;obtain⟨Ga,Fu,m21,Al⟩:=jo (st:=DS) T hq hD 21 rfl rfl;obtain⟨Gb,Fv,m22,yL⟩:=jo (st:=DT) T hq hD 22 rfl rfl;obtain⟨Gd,Fw,m23,yM⟩:=jo (st:=DU) T hq hD 23 rfl rfl;obtain⟨Ge,Fx,m24,Am⟩:=jo (st:=Hx) T hq hD 24 rfl rfl;obtain⟨Gf,Fy,m25,An⟩:=jo (st:=HM) T hq hD 25 rfl rfl;obtain⟨Gg,Fz,m26,Ao⟩:=jo (st:=Be) T hq hD 26 rfl rfl;obtain⟨Gh,FA,m27,wV⟩:=jo (st:=HN) T hq hD 27 rfl rfl;obtain⟨Gi,FC,m28,wW⟩:=jo (st:=Iy) T hq hD 28 rfl rfl;obtain⟨BX,BS,Sw,As⟩:=jo (st:=FE) T hq hD 29 rfl rfl;have T:Txt (snap h) mg ⟨f0,f1,f2,f3,f4,f5,f6,f7,f8,f9,FO,FQ,FR,FT,FU,FV,FW,FX,FY,FZ,F_,Ga,Gb,Gd,Ge,Gf,Gg,Gh,Gi,BX,d0,d1,d2,d3,d4,d5,d6,d7,d8,d9,BP,BQ,Fh,Fi,Fj,Fm,Fo,Fp,Fq,Fs,Ft,Fu,Fv,Fw,Fx,Fy,Fz,FA,FC,BS⟩:=⟨⟨F0,m0,F0.binds λ_ _ _ _ _ _=>FK λ_ _ _ _=>rfl⟩,⟨F1,m1,F1.binds λ_ _ _ _ _ _=>uV λ_ _ _=>rfl⟩,⟨F2,m2,F2.binds λ_ _ _ _ _ _=>uc λ_ _=>rfl⟩,⟨F3,m3,F3.binds λ_ _ _ _ _ _=>uV λ_ _ _=>rfl⟩,⟨F4,m4,F4.binds λ_ _ _ _ _ _=>uc λ_ _=>rfl⟩,⟨F5,m5,F5.binds λ_ _ _ _ _ _=>uc λ_ _=>rfl⟩,⟨F6,m6,F6.binds λ_ _ _ _ _ _=>uc λ_ _=>rfl⟩,⟨F7,m7,F7.binds λ_ _ _ _ _ _=>uV λ_ _ _=>rfl⟩,⟨F8,m8,F8.binds λ_ _ _ _ _ _=>uc λ_ _=>rfl⟩,⟨F9,m9,F9.binds λ_ _ _ _ _ _=>FK λ_ _ _ _=>rfl⟩,⟨vB,m10,vB.binds λ_ _ _ _ _ _=>uc λ_ _=>rfl⟩,⟨zZ,m11,zZ.binds λ_ _ _ _ _ _=>RW λ_ _ _ _ _=>rfl⟩,⟨z_,m12,z_.binds λ_ _ _ _ _ _=>Ml λ_ _ _ _ _ _=>rfl⟩,⟨Aa,m13,Aa.binds λ_ _ _ _ _ _=>uV λ_ _ _=>rfl⟩,⟨Ab,m14,Ab.binds λ_ _ _ _ _ _=>uc λ_ _=>rfl⟩,⟨Ae,m15,Ae.binds λ_ _ _ _ _ _=>uV λ_ _ _=>rfl⟩,⟨Af,m16,Af.binds λ_ _ _ _ _ _=>uV λ_ _ _=>rfl⟩,⟨Ag,m17,Ag.binds λ_ _ _ _ _ _=>FJ λ_=>rfl⟩,⟨kx,m18,kx.binds λ_ _ _ _ _ _=>uc λ_ _=>rfl⟩,⟨Ah,m19,Ah.binds λ_ _ _ _ _ _=>uc λ_ _=>rfl⟩,⟨Ak,m20,Ak.binds λ_ _ _ _ _ _=>FK λ_ _ _ _=>rfl⟩,⟨Al,m21,Al.binds λ_ _ _ _ _ _=>FJ λ_=>rfl⟩,⟨yL,m22,yL.binds λ_ _ _ _ _ _=>FJ λ_=>rfl⟩,⟨yM,m23,yM.binds λ_ _ _ _ _ _=>uc λ_ _=>rfl⟩,⟨Am,m24,Am.binds λ_ _ _ _ _ _=>uV λ_ _ _=>rfl⟩,⟨An,m25,An.binds λ_ _ _ _ _ _=>uV λ_ _ _=>rfl⟩,⟨Ao,m26,Ao.binds λ_ _ _ _ _ _=>RW λ_ _ _ _ _=>rfl⟩,⟨wV,m27,wV.binds λ_ _ _ _ _ _=>uV λ_ _ _=>rfl⟩,⟨wW,m28,wW.binds λ_ _ _ _ _ _=>FK λ_ _ _ _=>rfl⟩,⟨As,Sw,As.binds λ_ _ _ _ _ _=>FJ λ_=>rfl⟩,qr T hB 0 rfl,qr T hB 1 rfl,qr T hB 2 rfl,qr T hB 3 rfl,qr T hB 4 rfl,qr T hB 5 rfl,qr T hB 6 rfl,qr T hB 7 rfl,qr T hB 8 rfl,qr T hB 9 rfl,qr T hB 10 rfl,qr T hB 11 rfl,qr T hB 12 rfl,NI T mV,NI T tL⟩
 have e:=hfa.symm.trans Sw;cases e;obtain⟨oc,od,kV,doc,pm,an,gX,ct,osl,rfl,_,_⟩:=As.ex;exact⟨_,λs v=>.of_eq rfl,λbase=>θ T⟩
theorem walk{l:PySem.W.OpenLaw}{q:gv}{loose:List Str}{XP:(Str->ak au)->df->Prop}{YP:eZ->df->Prop}{d:DefRec}(hn:l.most=some 63)(Cf:d.params.defaults=[])(K0:d.name="law")
  (hq:q.main.body=vk) (hD:xH vk dl=true) (hB:xG q (PySem.W.looseW q loose) bl=true) (mV:valOf q "START"=some (.str "the start")) (tL:valOf q "END"=some (.str "the end")) :
  PySem.W.WalkO q loose XP YP l.row.toRowW d [] (λf vs=>PySem.call f vs):=
 L2.tJ (n:=63) (k:=9) (x:="_law_script") (CX:=fw) (sp:=tE) hn (by decide) Cf ⟨rfl,by decide,by decide⟩ (λ_ _ _ _ _ _ T hm=>ι T (K0 ▸ hm) hq hD hB mV tL) (λ_ _ a ns hl _ hS=>⟨a,ns,rfl,hS,hl,λ_=>rfl⟩) λ_ _ _ _ z=>z
end Carry
end
open PySem PySem.W PyProof.Rows
set_option maxRecDepth 100000 in
set_option maxHeartbeats 0 in
theorem PySem.Challenge.cw_carry_k38_whole_soonest_is_the_first_holds : PySem.Challenge.rw_carry_k38_whole_soonest_is_the_first.Holds := by
 simp -failIfUnchanged only[Carry.Hd.hd0];w_on;o_law;(try simp only[Carry.Hd.hd]);o_head Hook.none;(case hw=>w_witness2)
 exact Carry.walk (l:=PySem.Challenge.rw_carry_k38_whole_soonest_is_the_first) rfl rfl rfl (by kernel_rfl) (by k_qdec) (by k_qdec) (by kernel_rfl) (by kernel_rfl)