import PyProof.Rows.All
import Wide.All
import OpenK.AllK
import Wide.FinOn
import Lean
import PyProof.EqAt
import PyProof.EqKinds
import PyProof.NeKinds
import PyProof.TupleCall
import KE.KRevIter
import PyProof.SeqI3
import PyProof.ZipIter
import PyProof.EnumIter
import PyProof.EnumStmt
import PyProof.EnumMake
import PyProof.WalksEnum
import PyProof.MeetsSeq
import PyProof.SeqRoads2
import PyProof.DictWalks
import PyProof.Rows.SetFrom
import PySem.Challenge.RW_carry_k33_in_time_walked
set_option linter.all false
set_option bootstrap.genMatcherCode false
set_option compiler.extract_closed false
set_option genSizeOf false
set_option genSizeOfSpec false
def bK:=@List.length_map.{0,0}
def cP:=@Nat.le_refl
def du:=@List.length_append.{0}
def dD:=@List.map_cons.{0,0}
def eD:=@List.mem_append.{0}
def eE:=@Option.bind_eq_some_iff.{0,0}
def eO:=@List.mem_cons.{0}
def e_:=@List.getElem?_eq_some_iff.{0}
def fE:=@List.append_assoc.{0}
def fI:=@List.size_toArray.{0}
def fW:=@PySem.Heap.lt_size
def gu:=@List.nil_append.{0}
def gE:=@List.mem_append_right.{0}
def g_:=@List.mem_append_left.{0}
def ib:=@List.nodup_cons.{0}
def ic:=@List.getElem?_eq_getElem.{0}
def iE:=@Bool.not_true
def iF:=@List.map_append.{0,0}
def iP:=@Nat.lt_of_lt_of_le
def iQ:=@List.mem_map.{0,0}
def iZ:=@List.length_cons.{0}
theorem i6:type_of% @Option.join_some.{0}:=rfl
def jk:=@List.nodup_append.{0}
def jq:=@List.append_nil.{0}
def jH:=@List.all_eq_true.{0}
def jI:=@List.mem_singleton.{0}
def jN:=@PySem.Heap.get?_push_of_some
def jO:=@List.getElem?_map.{0,0}
def jP:=@Option.map_eq_some_iff.{0,0}
def kc:=@List.mem_filter.{0}
def ko:=@List.length_singleton.{0}
def kK:=@Nat.zero_le
def kL:=@List.mem_of_getElem?.{0}
def lJ:=@Nat.ne_of_lt
def lK:=@Bool.false_eq_true
def mG:=@Bool.and_eq_true
def mF:=@Array.getElem?_toList.{0}
def ng:=@List.sublist_append_right.{0}
def nv:=@List.mem_range
def nD:=@Nat.le_trans
def nE:=@List.mem_cons_self.{0}
def nF:=@Bool.not_false
def oO:=@List.mem_cons_of_mem.{0}
def oP:=@PySem.Heap.get?_push_size
def oQ:=@List.map_map.{0,0,0}
def oR:=@List.length_range
def o6:=@List.drop_zero.{0}
def pT:=@Nat.lt_irrefl
def pU:=@List.length_take.{0}
theorem pV:type_of% @List.lookup_cons.{0,0}:=rfl
def pW:=@Array.getElem?_eq_getElem.{0}
def qB:=@List.perm_append_comm.{0}
def qC:=@List.drop_succ_cons.{0}
def qZ:=@List.map_nil.{0,0}
def t8:=@Bool.false_ne_true
def t9:=@Bool.eq_iff_iff
theorem t_:type_of% @List.all_cons.{0}:=rfl
def ua:=@Array.getElem?_eq_some_iff.{0}
def ub:=@List.find?_cons.{0}
theorem uN:type_of% @Array.length_toList.{0}:=rfl
def uO:=@List.length_nil.{0}
def uP:=@List.map_singleton.{0,0}
def vW:=@List.length_drop.{0}
def vX:=@PySem.Heap.get?_update_self
def vY:=@List.length_set.{0}
def vZ:=@List.take_append_drop.{0}
def xB:=@List.getElem?_append_left.{0}
def zg:=@List.filterMap_cons.{0,0}
def zh:=@List.mem_filterMap.{0,0}
def zi:=@List.getElem?_append_right.{0}
def zj:=@List.getElem_mem.{0}
def zk:=@List.nodup_nil.{0}
def AU:=@List.getElem?_set_ne.{0}
def AV:=@List.filter_cons.{0}
def AW:=@Nat.lt_succ_self
def AX:=@List.any_eq_true.{0}
def AY:=@List.set_set.{0}
def AZ:=@Bool.and_false
def A7:=@Nat.mul_add
def A_:=@Nat.mul_comm
def Ba:=@Nat.not_lt_zero
def Bb:=@Int.le_refl
def Ei:=@Bool.false_and
def Ej:=@Bool.not_eq_true
def Ek:=@List.contains_iff_mem.{0}
def El:=@List.take_of_length_le.{0}
def Em:=@List.drop_eq_getElem_cons.{0}
def En:=@Bool.and_true
theorem Eo:type_of% @Option.map_some.{0,0}:=λ_ _=>rfl
def Ep:=@Bool.and_self
def Er:=@Bool.true_and
def Es:=@Nat.zero_add
def Et:=@Nat.pow_succ
def Eu:=@Nat.mul_assoc
def Ew:=@Nat.add_zero
def Ey:=@List.getD_eq_getElem?_getD.{0}
theorem Ez:type_of% @List.all_nil.{0}:=rfl
def Iv:=@List.getElem?_set_self.{0}
def Ij:=@PySem.Heap.get?_update_other
def Ik:=@Nat.le_succ
theorem Il:type_of% @List.cons_append.{0}:=rfl
def Im:=@List.all_map.{0,0}
theorem Io:type_of% @List.getElem?_cons_succ.{0}:=rfl
def Ip:=@Array.getD_eq_getD_getElem?.{0}
def Iq:=@List.getElem_of_mem.{0}
def Ir:=@List.map_congr_left.{0,0}
def Iu:=@List.pairwise_cons.{0}
def NL:=@Option.isSome_iff_exists.{0}
def NM:=@Bool.or_false
def NN:=@List.drop_of_length_le.{0}
def NO:=@Int.emod_nonneg
def NP:=@Int.emod_lt_of_pos
def NQ:=@List.getElem?_range
def NR:=@Array.forIn_toList.{0,0,0}
def NS:=@List.perm_middle.{0}
def NT:=@Nat.mul_mod
def NU:=@Nat.mul_one
def NV:=@Nat.add_comm
def NW:=@Nat.lt_trichotomy
def NX:=@List.pairwise_map.{0,0}
def NY:=@List.map_drop.{0,0}
def NZ:=@List.mem_map_of_mem.{0,0}
def N4:=@List.mem_flatMap.{0,0}
def N5:=@Int.not_lt
def aI:=@PySem.wpAny_bind
def bz:=@PySem.wpAny_pure
def bc:=@if_true.{1}
def aU:=@if_pos.{1}
def aY:=@if_neg.{1}
def ck:=@if_false.{1}
def ie:=@decide_eq_true
def i7:=@decide_eq_false
def oS:=@beq_self_eq_true.{0}
def nI:=@PySem.wpAny_holding
def N6:=@decide_eq_true_iff
def uQ:=@of_decide_eq_true
def qD:=@beq_eq_false_iff_ne.{0}
def o7:=@Classical.byContradiction
def bZ:=@absurd.{0}
def ig:=@True.intro
def kq:=@eq_true
namespace Carry.Hd
open Lean Meta PySem PySem.W
abbrev kC:=@mkConst
abbrev aM:=@mkAppM
abbrev nL:=mkRawNatLit
abbrev Ex:=Lean.Expr
def fit(ds:Array (Ex×Ex×Ex)):MetaM (Array (Ex×Ex×Ex)):=do
 let cs:Std.HashSet Ex:=ds.foldl (λz d=>if d.1.isConst then z.insert d.1 else z) {}
 ds.filterM λd=>do
  let ty:=Fast.bareType (<-inferType d.1)
  return (ty.find? λy=>cs.contains y || y.isConstOf ``PySem.W.Frag).isNone
def spots(ds:Array (Ex×Ex×Ex)):Std.HashMap Ex Nat:=ds.zipIdx.foldl (λz d=>z.insert d.1.1 d.2) {}
def parts(tw:Name->MetaM Unit)(v:Ex):MetaM (Array (Ex×Ex×Ex)):=do
 for x in Fast.constsOf v do
  if let .const c _:=x then
   if((<-getEnv).getModuleIdxFor? c).isNone || (`PySem.Challenge).isPrefixOf c then tw c
 fit (<-Fast.twinsIn v)
def twin:Nat->Name->MetaM Unit
 |0,_=>return
 |k+1,c=>do
  let (n,e) <-Fast.stemIn c true
  if(<-getEnv).contains e then return
  if let some none:=(<-Fast.primed.get).get? c then return
  let some (.defnInfo d):=(<-getEnv).find? c|return
  let ds <-parts (twin k) d.value
  if ds.isEmpty then
   Fast.primed.modify λz=>z.insert c none
   return
  let tys <-ds.mapM λx=>inferType x.1
  let ty <-inferType d.value
  let ix:=spots ds
  let G <-Fast.withLocals tys.toList #[] λxs=>mkLambdaFVars xs (Fast.putIn ix (λi=>xs[i]!) d.value)
  let mut B:=#[ty]
  for q in tys.reverse do B:=B.push (<-mkArrow q B.back!)
  let m:=ds.size
  let mut f:=G
  let mut g:=G
  let mut pf:=mkApp2 (kC ``Eq.refl [<-getLevel B[m]!]) B[m]! G
  for i in [0:m] do
   let (x,y,h):=ds[i]!
   pf:=mkAppN (kC ``congr [<-getLevel tys[i]!,<-getLevel B[m - 1 - i]!]) #[tys[i]!,B[m - 1 - i]!,f,g,x,y,pf,h]
   f:=mkApp f x
   g:=mkApp g y
  withOptions (Elab.async.set · false) do
   addDecl (.defnDecl { name:=n,levelParams:=[],type:=d.type,value:=Fast.putIn ix (λi=>ds[i]!.2.1) d.value,hints:=d.hints,safety:=.safe})
   addDecl (.thmDecl { name:=e,levelParams:=[],type:=<-mkEq (kC c) (kC n),value:=pf})
  Fast.primed.modify λz=>z.insert c (some (n,e))
def prep(v:Ex):MetaM (Array (Ex×Ex×Ex)):=parts (twin 9) v
def put(stem:Name)(ty v:Ex):MetaM Ex:=do
 let ds <-prep v
 let c <-defAt stem ty (Fast.putIn (spots ds) (λi=>ds[i]!.2.1) v)
 Fast.primed.modify λz=>z.insert c.constName! none
 return c
abbrev Objs:=Array (Obj×Obj×Ex)
def lay(old:Objs)(s t:Shared):MetaM Objs:=do
 let P:=kC ``Params
 unless s.heap.objs.size == t.heap.objs.size && s.toks == t.toks && toExpr s.drawn == toExpr t.drawn && toExpr s.heap.life == toExpr t.heap.life do throwError "the worlds part"
 let mut out:=#[]
 for i in [0:s.heap.objs.size] do
  let (a,b):=(s.heap.objs[i]!,t.heap.objs[i]!)
  if let some (a',b',e):=old[i]? then
   if sameObjNow a' a && sameObjNow b' b then
    out:=out.push (a',b',e)
    continue
  let v <-withLocalDeclD `P P λp=>do
   let e:=objE p a
   unless e == objE p b do throwError "an object is the world's"
   mkLambdaFVars #[p] e
  out:=out.push (a,b,<-put `o (<-mkArrow P (kC ``Obj)) v)
 return out
def state(l:Bool)(old:Objs)(s t:Shared):MetaM (Objs×W.State):=do
 let P:=kC ``Params
 let os <-lay old s t
 let life:=toExpr s.heap.life
 let S:W.State:={ heap:=default,gens:=<-gensE s t,drawn:=toExpr s.drawn,toks:=nL s.toks}
 if l then
  let v <-withLocalDeclD `P P λp=>mkLambdaFVars #[p] (mkApp2 (kC ``Heap.mk) (mkApp2 (kC ``Array.mk [0]) (kC ``Obj) (listE (kC ``Obj) (os.toList.map λx=>mkApp x.2.2 p))) life)
  return (os,{ S with heap:=<-put `h (<-mkArrow P (kC ``Heap)) v})
 let v <-withLocalDeclD `P P λp=>mkLambdaFVars #[p] (treeE p (os.map (·.2.2)) 1 0)
 return (os,{ S with tree:=some (<-put `t (<-mkArrow P (kC ``BT)) v,nL s.heap.objs.size,life)})
def aux(ty pf:Ex):MetaM Ex:=do return kC (<-withOptions (Elab.async.set · false) (mkAuxLemma [] ty pf (cache:=false)))
def look:Nat->Ex->Ex->MetaM Ex
 |k,l,r=>do
  let W:=kC ``World
  let O:=kC ``OsState
  let q <-withLocalDeclD `w W λw=>withLocalDeclD `os O λos=>do
   let un (e:Ex):MetaM Ex:=do
    let e:=(mkApp2 e w os).headBeta
    if e.isAppOf ``openSeen || e.isAppOf ``openGood then return (<-unfoldDefinition? e).getD e
    return e
   let (a,b):=(<-un l,<-un r)
   unless a.isAppOfArity ``Prod.mk 4 && b.isAppOfArity ``Prod.mk 4 do return none
   let sh (e:Ex) (i:Nat):MetaM Ex:=mkLambdaFVars #[w,os] (e.getArg! i)
   return some (<-sh a 2,<-sh b 2,<-sh a 3,<-sh b 3)
  match k,q with
  |n+1,some (a1,b1,a2,b2)=>
   let (x,y):=(<-look n a1 b1,<-look n a2 b2)
   let (ty,pf) <-withLocalDeclD `w W λw=>withLocalDeclD `os O λos=>do
    return (<-mkForallFVars #[w,os] (<-mkEq (mkApp2 l w os).headBeta (mkApp2 r w os).headBeta),<-mkLambdaFVars #[w,os] (<-aM ``looks_pair #[mkApp2 x w os,mkApp2 y w os]))
   aux ty pf
  |_,_=>
   let P <-withLocalDeclD `w W λw=>do mkLambdaFVars #[w] (<-mkEq (mkApp l w).headBeta (mkApp r w).headBeta)
   discard <| prep P
   let e <-byKernelQuick P []
   withLocalDeclD `w W λw=>withLocalDeclD `os O λos=>do mkLambdaFVars #[w,os] (<-aM ``congrFun #[mkApp e w,os])
def most:Nat:=3000
def left(g:MVarId)(pE:Ex)(p:Program)(_:List String):MetaM Unit:=g.withContext do
 let a:=(<-instantiateMVars (<-g.getType)).consumeMData.getAppArgs
 let some N <-(Meta.evalNat a[7]!).run|throwError "no number"
 let (.ok t,.ok t'):=(<-traceTop p N 1,<-traceTop p N 2)|throwError "no trace"
 let tb:=kC ``treeTable
 let (W,O):=(kC ``World,kC ``OsState)
 let m0:=nL t.s0.heap.objs.size
 let ann:=toExpr t.ann
 let main <-aM ``Program.main #[pE]
 let op <-aM ``opening #[pE]
 let e1 <-aux (<-mkEq op (mkApp (kC ``plainProg) (<-aM ``Scope.names #[<-aM ``Module.scope #[main]]))) (<-mkEqRefl op)
 let e2 <-withLocalDeclD `s (kC ``Shared) λs=>do
  let r <-aM ``some #[s]
  aux (<-mkForallFVars #[s] (<-mkEq (mkApp2 (kC ``fenceModules?) pE s) r)) (<-mkLambdaFVars #[s] (<-mkEqRefl r))
 let e3 <-mkDecideProof (<-mkEq (mkApp2 (kC ``Nat.ble) (nL 600) a[7]!) (kC ``Bool.true))
 let boot:=mkAppN (kC ``boot_open) #[pE,a[7]!,e1,e3,e2]
 let bE <-aM ``behindTheImports #[pE]
 let some cells <-cellsD? bE|throwError "no body"
 let env0 <-Elab.Term.TermElabM.run' do
  let s1 <-Elab.Term.exprToSyntax (<-aM ``Module.scope #[main])
  let s2 <-Elab.Term.exprToSyntax (toExpr t.code)
  let e <-Elab.Term.withSynthesize (Elab.Term.elabTermEnsuringType (<-`(({ scope:=$s1,locals:=mainNs,globals:=mainNs,cells:=[],code:=$s2,frame:=some $(quote t.frame)}:Env))) (kC ``Env))
  instantiateMVars e
 let env <-defAt `env (kC ``Env) env0
 let fp:=toExpr t.framePos
 let cE:=mkApp2 (kC ``Code.body) bE env
 let B:=listE (kC ``Frame) [mkApp (kC ``topFrame) fp]
 let go (f:Name) (more:Array Ex) (n:Nat) (w s th:Ex):Ex:=mkAppN (kC f) (#[tb,pE,w,m0,ann]++more++#[nL n,s,th])
 let one:=#[nL 1]
 let piece (rows:List String) (l r:Ex->Ex->MetaM Ex):MetaM Ex:=do
  for x in [pE,env] do discard <| prep x
  byPiece rows l r
 let ends (S:Ex) (pos:Pos):MetaM Ex:=do aM ``some #[<-aM ``Prod.mk #[kC ``Flow.next,<-aM ``Prod.mk #[S,<-aM ``Prod.mk #[cE,toExpr pos]]]]
 let rowsOf (x y:Snap):=(x.rows++y.rows).eraseDups
 let mut o:Objs:=#[]
 for i in [0:t.s0.heap.objs.size] do o:=o.push (t.s0.heap.objs[i]!,t'.s0.heap.objs[i]!,kC ((`PySem.W).str s!"boot_o_{i}"))
 let S0:PySem.W.State:={ heap:=kC ``boot_heap,gens:=mkApp2 (kC ``Array.mk [0]) (kC ``GenState) (mkApp (kC ``List.nil [0]) (kC ``GenState)),drawn:=kC ``boot_drawn,toks:=kC ``boot_toks}
 let (o1,Sa) <-state true o t.pre.s t'.pre.s
 let thA:=mkApp4 (kC ``Thread.mk) (mkApp2 (kC ``denote) tb cE) cE (toExpr t.pre.pos) B
 let stub:=mkApp (kC ``topStub) pE
 let pre <-piece (rowsOf t.pre t'.pre) (λw os=>pure (go ``topGo #[] t.pre.steps w (S0.at w os) stub)) λw os=>do aM ``some #[<-aM ``Prod.mk #[Sa.at w os,thA]]
 let (o2,Sb) <-state false o1 t.block.s t'.block.s
 let block <-piece (rowsOf t.block t'.block) (λw os=>pure (go ``segRun one t.block.steps.succ w (Sa.at w os) (mkAppN (kC ``blockOf) #[bE,env,cE,toExpr t.pre.pos,B]))) λw os=>ends (Sb.at w os) t.block.pos
 let mut gs:Array (List Ex×Nat×Snap×Snap×List String):=#[]
 for (st,x,x') in cells.zip (t.pieces.zip t'.pieces) do
  let k:=max x.steps x'.steps
  let rs:=rowsOf x x'
  match gs.back? with
  |some (l,n,_,_,r)=>
   if n+k<=most && (r++rs).eraseDups.length<=3 then gs:=gs.pop.push (l++[st],n+k,x,x',(r++rs).eraseDups) else gs:=gs.push ([st],k,x,x',rs)
  |none=>gs:=gs.push ([st],k,x,x',rs)
 let mut cur:=(o2,Sb,t.block.pos)
 let mut lems:=#[]
 for (sts,n,x,x',rs) in gs do
  let stE <-defAt `st (mkApp (kC ``List [0]) (kC ``Stmt)) (listE (kC ``Stmt) sts)
  discard <| prep stE
  let (o0,S1,p1):=cur
  let (o',S') <-state false o0 x.s x'.s
  let th:=mkAppN (kC ``piecesOf) #[stE,env,cE,toExpr p1,B]
  let h <-piece rs (λw os=>pure (go ``segRunT one n.succ w (S1.atT w os) th)) λw os=>ends (S'.atT w os) x.pos
  lems:=lems.push (stE,n.succ,S1,p1,S',x.pos,<-liftT h ``segRun_of)
  cur:=(o',S',x.pos)
  logInfo m!"PIECE {sts.length} {n} {x.s.heap.objs.size}"
 let (oN,SN,pN):=cur
 let (_,Sf) <-state true oN t.fin.s t'.fin.s
 let fin <-piece (rowsOf t.fin t'.fin) (λw os=>pure (go ``topRun #[] t.fin.steps.succ w (SN.at w os) (mkApp4 (kC ``Thread.mk) (mkApp (kC ``doneF) (kC ``Flow.next)) cE (toExpr pN) B))) λw os=>aM ``some #[Sf.at w os]
 let run <-withLocalDeclD `w W λw=>withLocalDeclD `os O λos=>do
  let w1 (l:Ex):MetaM Ex:=do aM ``congrFun #[mkApp l w,os]
  let r:=Sf.at w os
  let com:=#[tb,pE,w,m0,ann,env,fp]
  let mut k <-w1 fin
  let mut M:=nL t.fin.steps.succ
  let mut rest:=listE (kC ``Stmt) []
  for (stE,n,S1,p1,S',p2,h) in lems.toList.reverse do
   k:=mkAppN (kC ``piece_app) (com++#[nL n,M,S1.at w os,S'.at w os,r,stE,rest,cE,toExpr p1,toExpr p2,<-w1 h,k])
   M:=mkApp2 (kC ``Nat.add) (nL n) M
   rest <-aM ``HAppend.hAppend #[stE,rest]
  k:=mkAppN (kC ``piece_block) (com++#[nL t.block.steps.succ,M,Sa.at w os,Sb.at w os,r,bE,cE,toExpr t.pre.pos,toExpr t.block.pos,<-w1 block,k])
  M:=mkApp2 (kC ``Nat.add) (nL t.block.steps.succ) M
  k:=mkAppN (kC ``go_top) #[tb,pE,w,m0,ann,nL t.pre.steps,M,S0.at w os,Sa.at w os,r,stub,thA,<-w1 pre,k]
  M:=mkApp2 (kC ``Nat.add) (nL t.pre.steps) M
  let ty <-mkEq (mkAppN (kC ``topRun) #[tb,pE,w,m0,ann,M,S0.at w os,stub]) (<-aM ``some #[r])
  return (M,<-aux (<-mkForallFVars #[w,os] ty) (<-mkLambdaFVars #[w,os] k))
 let lem:=kC ``LeftO.of_pieces
 let (ms,_,_) <-forallMetaTelescope (<-inferType lem)
 let vs:=#[pE,a[1]!,a[2]!,a[3]!,a[4]!,a[5]!,a[6]!,a[7]!,a[8]!,S0.heap,Sf.heap,S0.gens,Sf.gens,S0.drawn,Sf.drawn,S0.toks,Sf.toks,m0,ann,run.1]
 for (m,v) in ms.zip vs do m.mvarId!.assign v
 let want (i:Nat):MetaM Ex:=do instantiateMVars (<-inferType ms[i]!)
 let .forallE n1 d1 b1 i1 <-want 21|throwError "size"
 let size <-byKernelQuick (.lam n1 d1 b1 i1) []
 let .forallE _ _ bl _ <-want 24|throwError "looks"
 let (l,r) <-withLocalDeclD `w W λw=>do
  let some (_,l,r):=(bl.instantiate1 w).eq?|throwError "looks"
  return (<-mkLambdaFVars #[w] l,<-mkLambdaFVars #[w] r)
 let h <-look 12 l r
 let looks <-withLocalDeclD `w W λw=>do
  let f <-withLocalDeclD `os O λos=>mkLambdaFVars #[os] (mkApp2 h w os)
  mkLambdaFVars #[w] (<-aM ``funext #[f])
 g.assign (mkAppN lem (vs++#[boot,size,run.2,<-mkDecideProof (<-want 23),looks]))
simproc_decl hd0 (PySem.W.OpenLaw.Holds _):=λe=>do
 if let .const (.str p s) _:=e.appArg! then twin 9 (p.str ("p"++(s.drop 1).toString))
 return .continue
simproc_decl hd (PySem.W.OpenRow.Holds _):=λ_=>do
 PySem.W.leftPieces.set (some left)
 return .continue
end Carry.Hd
noncomputable section
set_option Elab.async false
set_option maxRecDepth 100000
abbrev aq:=@PySem.Value
abbrev az:=@PySem.Shared
abbrev ak:=@PySem.Addr
abbrev nH:=@PySem.SetTable
abbrev ao:=@Option.{0}
abbrev lY:=@PySem.FuncData
abbrev dZ:=@PySem.Around
abbrev fO:=@PySem.Program
abbrev pX:=@PySem.NameKind
abbrev cS:=@PySem.Heap
abbrev eK:=@PySem.World
abbrev L2.FG:=PySem.W.Frag
open Nat(reduceAdd reduceLT reduceSub reduceLeDiff)
namespace L2
open PySem PySem.Spec PyProof.Rows
abbrev Key:=Sum Int Str
noncomputable def xb:Key->aq->Bool
 |.inl k,v=>Value.isInt k v
 |.inr x,v=>Value.isStrOf x v
def MI(w:eK):Key->Int
 |.inl k=>hashInt k
 |.inr x=>hashStr w x
theorem uY:∀{k:Key} {v:aq},xb k v=true->(∃i t,k=Sum.inl i/\v=Value.int i t)\/(∃x t,k=Sum.inr x/\v=Value.str x t)
 |.inl i,v,h=>by
  obtain⟨t,e⟩:=Value.isInt_shape (k:=i) (v:=v) h;exact .inl ⟨i,t,rfl,e⟩
 |.inr x,v,h=>by
  obtain⟨t,e⟩:=Value.isStrOf_shape (x:=x) (v:=v) h;exact .inr ⟨x,t,rfl,e⟩
def Ξ(a b:Int):decide ((Sum.inl a:Key)=Sum.inl b)=(a == b):=by
 by_cases e:a=b
 .subst e;simp
 .have h:¬(Sum.inl a:Key)=Sum.inl b:=λq=>e (Sum.inl.inj q)
  rw[i7 h];exact(qD.mpr e).symm
def Φ(a b:Str):decide ((Sum.inr a:Key)=Sum.inr b)=decide (a=b):=by
 by_cases e:a=b
 .subst e;simp
 .have h:¬(Sum.inr a:Key)=Sum.inr b:=λq=>e (Sum.inr.inj q)
  rw[i7 h,i7 e]
def Ψ(a:Int)(b:Str):decide ((Sum.inl a:Key)=Sum.inr b)=false:=i7 (λq=>nomatch q)
def Ω(a:Str)(b:Int):decide ((Sum.inr a:Key)=Sum.inl b)=false:=i7 (λq=>nomatch q)
def J9(prog:fO)(w:eK):PySem.KeyKind prog w Key where
 is:=xb
 hash:=MI w
 inj:=λv a b ha hb=>by
  rcases uY ha with⟨i,t,rfl,rfl⟩|⟨x,t,rfl,rfl⟩
  .rcases uY hb with⟨j,u,rfl,e⟩|⟨y,u,rfl,e⟩
   .injection e with e1 _;rw[e1]
   .exact nomatch e
  .rcases uY hb with⟨j,u,rfl,e⟩|⟨y,u,rfl,e⟩
   .exact nomatch e
   .injection e with e1 _;rw[e1]
 byValue:=λk v h=>by
  rcases uY h with⟨i,t,rfl,rfl⟩|⟨x,t,rfl,rfl⟩ <;> rfl
 pyHash:=λhv h=>by
  rcases uY hv with⟨i,t,rfl,rfl⟩|⟨x,t,rfl,rfl⟩
  .exact wpAny_pyHash_int h
  .exact wpAny_pyHash_str h
 eqBool:=λhu hv h=>by
  rcases uY hu with⟨i,t,rfl,rfl⟩|⟨x,t,rfl,rfl⟩
  .rcases uY hv with⟨j,u,rfl,rfl⟩|⟨y,u,rfl,rfl⟩
   .rw[Ξ] at h;exact wpAny_eqBool_int h
   .rw[Ψ] at h;exact SeqAt.EqAt.int_str i t y u _ _ _ _ h
  .rcases uY hv with⟨j,u,rfl,rfl⟩|⟨y,u,rfl,rfl⟩
   .rw[Ω] at h;exact SeqAt.EqAt.str_int x t j u _ _ _ _ h
   .rw[Φ] at h;exact wpAny_eqBool_str h
 «strs»:=λk x t v h=>by
  rcases uY h with⟨i,u,rfl,e⟩|⟨y,u,rfl,e⟩
  .exact nomatch e
  .injection e with e1 _;subst e1;cases v <;> rfl
inductive V where
 |bL|bl (b:Bool)|int (i:Int)|str (x:Str)|Aa (b:Array UInt8)|An (b:UInt64)|ref (a:ak)|ty (n:String)
 deriving DecidableEq
def RelV:V->aq->Prop
 |.bL,u=>u=Value.none
 |.bl b,u=>u=Value.bool b
 |.int i,u=>∃t,u=Value.int i t
 |.str x,u=>∃t,u=Value.str x t
 |.Aa b,u=>∃t,u=Value.bytes b t
 |.An b,u=>∃t,u=Value.float b t
 |.ref a,u=>u=Value.ref a
 |.ty n,u=>u=Value.type n
abbrev Vals:List V->List aq->Prop:=Paired RelV
theorem Vals.length{xs:List V}{us:List aq}(r:Vals xs us):xs.length=us.length:=Paired.length r
theorem Vals.get:∀{xs:List V} {us:List aq} {i:Nat} {x:V},Vals xs us->xs[i]?=some x->∃u,us[i]?=some u/\RelV x u
 |_,_,_,_,.nil,e=>by simp at e
 |_,_,0,_,.cons r _,e=>by simp at e;subst e;exact⟨_,rfl,r⟩
 |_,_,i+1,x,.cons _ t,e=>by
  obtain⟨u,h1,h2⟩:=Vals.get (i:=i) (x:=x) t (by simpa using e)
  exact⟨u,by simpa using h1,h2⟩
theorem Vals.set{x:V}{u:aq}(r:RelV x u):∀{xs:List V} {us:List aq} (i:Nat),Vals xs us->Vals (xs.set i x) (us.set i u)
 |_,_,_,.nil=>.nil
 |_,_,0,.cons _ t=>.cons r t
 |_,_,i+1,.cons q t=>.cons q (Vals.set r i t)
def Vals.append{xs ys:List V}{us ws:List aq}(h:Vals xs us)(s:Vals ys ws):Vals (xs++ys) (us++ws):=by
 induction h with
 |nil=>exact s
 |cons r t ih=>exact .cons r ih
theorem Vals.take:∀{xs:List V} {us:List aq} (n:Nat),Vals xs us->Vals (xs.take n) (us.take n)
 |_,_,0,_=>.nil
 |_,_,_+1,.nil=>.nil
 |_,_,n+1,.cons r t=>.cons r (Vals.take n t)
theorem Vals.drop:∀{xs:List V} {us:List aq} (n:Nat),Vals xs us->Vals (xs.drop n) (us.drop n)
 |_,_,0,r=>r
 |_,_,_+1,.nil=>.nil
 |_,_,n+1,.cons _ t=>Vals.drop n t
def nM:ao V->ao aq->Prop
 |some v,some u=>RelV v u
 |none,none=>True
 |_,_=>False
def KV{κ:Type}:List (κ×V)->List (κ×aq)->Prop:=Paired λ(p:κ×V) (q:κ×aq)=>p.1=q.1/\RelV p.2 q.2
def kV:Key->V
 |.inl i=>.int i
 |.inr x=>.str x
inductive TK where
 |inl (i:Int)|inr (x:Str)|tp (l:List TK)
mutual
noncomputable def TK.beq:TK->TK->Bool
 |.inl a,.inl b=>decide (a=b)
 |.inr a,.inr b=>decide (a=b)
 |.tp l,.tp m=>TK.pA l m
 |_,_=>false
noncomputable def TK.pA:List TK->List TK->Bool
 |[],[]=>true
 |a::l,b::m=>TK.beq a b&&TK.pA l m
 |_,_=>false
end
mutual
theorem TK.beq_iff:∀a b:TK,TK.beq a b=true↔a=b
 |.inl a,.inl b=>by unfold TK.beq;rw[decide_eq_true_eq];exact⟨λe=>by rw[e],λe=>by cases e;rfl⟩
 |.inr a,.inr b=>by unfold TK.beq;rw[decide_eq_true_eq];exact⟨λe=>by rw[e],λe=>by cases e;rfl⟩
 |.tp l,.tp m=>by unfold TK.beq;rw[TK.n5 l m];exact⟨λe=>by rw[e],λe=>by cases e;rfl⟩
 |.inl _,.inr _=>by unfold TK.beq;exact⟨λe=>(nomatch e),λe=>(nomatch e)⟩
 |.inl _,.tp _=>by unfold TK.beq;exact⟨λe=>(nomatch e),λe=>(nomatch e)⟩
 |.inr _,.inl _=>by unfold TK.beq;exact⟨λe=>(nomatch e),λe=>(nomatch e)⟩
 |.inr _,.tp _=>by unfold TK.beq;exact⟨λe=>(nomatch e),λe=>(nomatch e)⟩
 |.tp _,.inl _=>by unfold TK.beq;exact⟨λe=>(nomatch e),λe=>(nomatch e)⟩
 |.tp _,.inr _=>by unfold TK.beq;exact⟨λe=>(nomatch e),λe=>(nomatch e)⟩
theorem TK.n5:∀l m:List TK,TK.pA l m=true↔l=m
 |[],[]=>by unfold TK.pA;exact⟨λ_=>rfl,λ_=>rfl⟩
 |a::l,b::m=>by unfold TK.pA;rw[mG,TK.beq_iff a b,TK.n5 l m];exact⟨λe=>by rw[e.1,e.2],λe=>by cases e;exact⟨rfl,rfl⟩⟩
 |[],_::_=>by unfold TK.pA;exact⟨λe=>(nomatch e),λe=>(nomatch e)⟩
 |_::_,[]=>by unfold TK.pA;exact⟨λe=>(nomatch e),λe=>(nomatch e)⟩
end
instance:DecidableEq TK:=λa b=>decidable_of_iff _ (TK.beq_iff a b)
mutual
noncomputable def TK.hash(w:eK):TK->Int
 |.inl i=>hashInt i
 |.inr x=>hashStr w x
 |.tp l=>reduceHash (Builtin.Tuple.tupleHashOf (TK.fQ w l))
noncomputable def TK.fQ(w:eK):List TK->List Int
 |[]=>[]
 |a::l=>TK.hash w a::TK.fQ w l
end
noncomputable def TK.ok:Nat->TK->Bool
 |n+1,.tp l=>l.all (TK.ok n)
 |0,.tp _=>false
 |_,_=>true
def kN(w:eK)(e:TK×V×V)(x:DictEntry):Prop:=x.hash=e.1.hash w/\RelV e.2.1 x.key/\RelV e.2.2 x.val/\e.1.ok 8=true
inductive HO where
  |lst (xs:List V)
  |tup (xs:List V)
  |dK (kvs:List (Key×V))|dT (kvs:List (List Key×V))
  |dG (es:List (TK×V×V)) (ep:Nat)
  |set (S:Int->Bool) (n:Nat)
  |ins (C dx:ak) (fs:List (Str×V))
  |own (x:ak)
  |xd (fs:List (Str×V))
  |met (f x:ak)
  |Nh (lo hi:Int)
  |Y (o:Obj) (u:HO)
  |ze (ps:Array aq)
  |ext (φ:cS->Prop)
abbrev Hp:=ak->ao HO
noncomputable def upd(H:Hp)(a:ak)(o:HO):Hp:=λb=>if b=a then some o else H b
def jl{H:Hp}{a:ak}{o:HO}:upd H a o a=some o:=by unfold upd;rw[aU rfl]
def cW{H:Hp}{a b:ak}{o:HO}(h:b≠a):upd H a o b=H b:=by unfold upd;rw[aY h]
def mI{H:Hp}{a b:ak}{o:HO}(h:H a=some o)(h':H b=none):a≠b:=by
 intro e;subst e;rw[h] at h';cases h'
section
variable(P:fO)(w:eK)
def cG(H:Hp)(h:cS)(a:ak):HO->Prop
 |.lst xs=>xs.length<=sizeLine/\∃(aG:List aq) (n:Nat),Vals xs aG/\h.get? a=some { cls:=.type "list",data:=.seq aG.toArray n}
 |.tup xs=>xs.length<=sizeLine/\∃aG:List aq,Vals xs aG/\IsTup h a aG.toArray
 |.dK kvs=>kvs.length<=sizeLine/\(a == sysModules)=false/\∃vs,KV kvs vs/\h.DictOf (J9 P w) a vs
 |.dT kvs=>kvs.length<=sizeLine/\(a == sysModules)=false/\∃xs:List (List Key×ak×aq),
   Paired (λ(p:List Key×V) (q:List Key×ak×aq)=>p.1=q.1/\H q.2.1=some (.tup (p.1.map kV))/\RelV p.2 q.2.2) kvs xs/\
   ∃o es ep,h.get? a=some o/\o.ExactDict/\o.data=.dict es ep/\es.toList=xs.map (entryOfKey (tupleKind (J9 P w)))/\(xs.map (·.1)).Nodup
 |.dG es ep=>es.length<=sizeLine/\(a == sysModules)=false/\∃o xs,h.get? a=some o/\o.ExactDict/\o.data=.dict xs ep/\Paired (kN w) es xs.toList/\(es.map (·.1)).Nodup
 |.set S n=>h.SetOf (intKind P w) a S n
 |.ins C dx fs=>H dx=some (.own a)/\fs.length<=1000/\dx≠a/\h.get? a=some (PySem.W.instObj C dx)/\
   ∃mA,h.Ns1 dx mA/\(∀f,nM (fs.lookup f) (mA f))/\PySem.Within mA (fs.map (·.1))
 |.own _=>∃o,h.get? a=some o
 |.xd fs=>∃mA,h.Ns1 a mA/\∀f,nM (fs.lookup f) (mA f)
 |.Nh lo hi=>∃t u v,h.get? a=some { cls:=.type "range",data:=.fields #[.int lo t,.int hi u,.int 1 v]}
 |.Y o u=>h.get? a=some o/\cG H h a u
 |.ze ps=>h.get? a=some { cls:=.none,data:=.fields ps}
 |.met f x=>h.get? a=some (PySem.W.methodObj (.ref f) (.ref x))
 |.ext φ=>φ h/\(∃o,h.get? a=some o)/\∀h1 h2:cS,φ h1->(∀o,h1.get? a=some o->h2.get? a=some o)->φ h2
def kO(H:Hp)(h:cS):Prop:=∀a o,H a=some o->cG P w H h a o
end
section
variable{P:fO}{w:eK}{H H':Hp}{h h':cS}{a:ak}{o:HO}
theorem cG.lt(x:cG P w H h a o):a<h.objs.size:=by
 cases o with
 |lst xs=>obtain⟨_,_,_,_,e⟩:=x;exact fW e
 |tup xs=>obtain⟨_,_,_,p⟩:=x;exact p.lt
 |dK kvs=>obtain⟨_,_,_,_,o,_,_,e,_⟩:=x;exact fW e
 |dT kvs=>obtain⟨_,_,_,_,o,_,_,e,_⟩:=x;exact fW e
 |dG es ep=>obtain⟨_,_,o,_,e,_⟩:=x;exact fW e
 |set S n=>obtain⟨o,_,_,_,e,_⟩:=x;exact fW e
 |ins C dx fs=>obtain⟨_,_,_,e,_⟩:=x;exact fW e
 |own y=>obtain⟨_,e⟩:=x;exact fW e
 |xd fs=>obtain⟨_,⟨_,_,_,e,_⟩,_⟩:=x;exact fW e
 |Nh lo hi=>obtain⟨_,_,_,e⟩:=x;exact fW e
 |Y ob u=>obtain⟨e,_⟩:=x;exact fW e
 |ze ps=>exact fW (show h.get? a=some _ from x)
 |met f y=>exact fW (show h.get? a=some _ from x)
 |ext φ=>obtain⟨_,⟨_,e⟩,_⟩:=x;exact fW e
def Paired.M4{α β:Type}{F G:α->β->Prop}{l₁:List α}{l₂:List β}(h:Paired F l₁ l₂)(f:∀a b,F a b->G a b):Paired G l₁ l₂:=by
 induction h with
 |nil=>exact .nil
 |cons r t ih=>exact .cons (f _ _ r) ih
def cG.oI(x:cG P w H h a o)(k:∀b u,(b=a\/H b=some (.own a))->h.get? b=some u->h'.get? b=some u)
  (ho:∀b,H b=some (.own a)->H' b=some (.own a)) (ht:∀b xs,H b=some (.tup xs)->H' b=some (.tup xs)):cG P w H' h' a o:=by
 induction o with
 |lst xs=>obtain⟨z,aG,n,r,e⟩:=x;exact⟨z,aG,n,r,k _ _ (.inl rfl) e⟩
 |tup xs=>obtain⟨z,aG,r,ob,e,c⟩:=x;exact⟨z,aG,r,ob,k _ _ (.inl rfl) e,c⟩
 |dK kvs=>obtain⟨z,y,vs,r,ob,es,ep,e,c⟩:=x;exact⟨z,y,vs,r,ob,es,ep,k _ _ (.inl rfl) e,c⟩
 |dT kvs=>
  obtain⟨z,y,xs,r,ob,es,ep,e,c⟩:=x;exact⟨z,y,xs,Paired.M4 r λp q z=>⟨z.1,ht _ _ z.2.1,z.2.2⟩,ob,es,ep,k _ _ (.inl rfl) e,c⟩
 |dG es ep=>obtain⟨z,y,ob,xs,e,c⟩:=x;exact⟨z,y,ob,xs,k _ _ (.inl rfl) e,c⟩
 |set S n=>obtain⟨ob,es,ep,t,e,c⟩:=x;exact⟨ob,es,ep,t,k _ _ (.inl rfl) e,c⟩
 |ins C dx fs=>
  obtain⟨d,z,ne,e,mA,⟨od,es,ep,e2,c⟩,r⟩:=x;exact⟨ho _ d,z,ne,k _ _ (.inl rfl) e,mA,⟨od,es,ep,k _ _ (.inr d) e2,c⟩,r⟩
 |own y=>obtain⟨ob,e⟩:=x;exact⟨ob,k _ _ (.inl rfl) e⟩
 |xd fs=>obtain⟨mA,⟨od,es,ep,e,c⟩,r⟩:=x;exact⟨mA,⟨od,es,ep,k _ _ (.inl rfl) e,c⟩,r⟩
 |Nh lo hi=>obtain⟨t,u,v,e⟩:=x;exact⟨t,u,v,k _ _ (.inl rfl) e⟩
 |Y ob u ih=>obtain⟨e,q⟩:=x;exact⟨k _ _ (.inl rfl) e,ih q⟩
 |ze ps=>
  have e:h.get? a=some { cls:=.none,data:=.fields ps}:=x;show h'.get? a=some { cls:=.none,data:=.fields ps};exact k a _ (.inl rfl) e
 |met f y=>
  have e:h.get? a=some (PySem.W.methodObj (.ref f) (.ref y)):=x;show h'.get? a=some (PySem.W.methodObj (.ref f) (.ref y));exact k a _ (.inl rfl) e
 |ext φ=>obtain⟨p,⟨o,e⟩,st⟩:=x;exact⟨st _ _ p λo q=>k _ _ (.inl rfl) q,⟨o,k _ _ (.inl rfl) e⟩,st⟩
theorem kO.lt(x:kO P w H h)(e:H a=some o):a<h.objs.size:=(x a o e).lt
def kO.fresh(x:kO P w H h)(e:h.objs.size<=a):H a=none:=by
 cases q:H a with
 |none=>rfl
 |some u=>exact bZ (iP (x.lt q) e) (pT _)
def kO.kept(x:kO P w H h)(k:∀b u,h.get? b=some u->h'.get? b=some u):kO P w H h':=λa o e=>
 (x a o e).oI (λb u _ q=>k b u q) (λ_ q=>q) λ_ _ q=>q
def kO.laid(x:kO P w H h)(k:∀b u,h.get? b=some u->h'.get? b=some u)(hp:h.objs.size<=a)(new:cG P w (upd H a o) h' a o):kO P w (upd H a o) h':=λb u e=>by
 have hn:=x.fresh hp;by_cases hb:b=a
 .subst hb;rw[jl] at e;cases e;exact new
 .rw[cW hb] at e;exact(x b u e).oI (λc v _ q=>k c v q) (λc q=>by rw[cW (mI q hn)];exact q) λc xs q=>by rw[cW (mI q hn)];exact q
end
def Rd(H:Hp)(a:ak)(u:HO):Prop:=H a=some u\/∃o,H a=some (.Y o u)
def Rd.ok{P:fO}{w:eK}{H:Hp}{h:cS}{a:ak}{u:HO}(r:Rd H a u)(x:kO P w H h):cG P w H h a u:=by
 rcases r with r|⟨o,r⟩
 .exact x a u r
 .obtain⟨_,q⟩:=x a _ r;exact q
def By:ao HO->Prop
 |some (.lst _)=>True
 |some (.dK _)=>True
 |some (.dT _)=>True
 |some (.dG _ _)=>True
 |some (.set _ _)=>True
 |some (.ins _ _ _)=>True
 |some (.ext _)=>True
 |_=>False
section
variable{P:fO}{w:eK}{H:Hp}{h h':cS}{x e:ak}{o':HO}
def kO.write(ok:kO P w H h)(mu:By (H x))(he:e=x\/H e=some (.own x))(k:∀b u,b≠e->h.get? b=some u->h'.get? b=some u)(AA:∃u,h'.get? e=some u)
  (new:cG P w (upd H x o') h' x o'):kO P w (upd H x o') h':=λb u q=>by
 have DG:∀c y,H c=some (.own y)->c≠x:=λc y r z=>by subst z;rw[r] at mu;exact mu
 have M':∀c xs,H c=some (.tup xs)->c≠x:=λc xs r z=>by subst z;rw[r] at mu;exact mu
 by_cases hb:b=x
 .subst hb;rw[jl] at q;cases q;exact new
 .rw[cW hb] at q;by_cases yE:b=e
  .have q':H b=some (.own x):=by
    rcases he with z|z
    .exact bZ (yE.trans z) hb
    .rw[yE];exact z
   rw[q] at q';cases q';obtain⟨v,hv⟩:=AA;exact⟨v,by rw[yE];exact hv⟩
  .refine(ok b u q).oI (λc v hc r=>k c v ?_ r) (λc r=>by rw[cW (DG c b r)];exact r) λc xs r=>by rw[cW (M' c xs r)];exact r
   rcases hc with rfl|hc
   .exact yE
   .rintro rfl;rcases he with z|z
    .exact DG c b hc z
    .rw[hc] at z;cases z;exact hb rfl
end
structure Un (fs ex:List ak) (H H':Hp) (h h':cS):Prop where
 keep:∀b o,h.get? b=some o->H b=none->b∉fs->b∉ex->h'.get? b=some o
 slot:∀b o,h.get? b=some o->H b=none->b∈fs->b∉ex->∃sl,h'.get? b=some { o with slots:=sl}
 free:∀b o,h.get? b=some o->H b=none->b∉ex->H' b=none
 there:∀b o,h.get? b=some o->b∉ex->∃o',h'.get? b=some o'
 m_:∀b xs,H b=some (.tup xs)->H' b=some (.tup xs)
 lS:∀b o u,H b=some (.Y o u)->H' b=some (.Y o u)
 mZ:∀b ps,H b=some (.ze ps)->∃more,H' b=some (.ze (ps++more))
section
variable{fs fs' ex ex':List ak}{H H1 H2:Hp}{h h1 h2 h':cS}{a x e:ak}{o:HO}
def Un.any(u:Un fs ex H H1 h h1){b:ak}{ob:Obj}(q:h.get? b=some ob)(n:H b=none)(hx:b∉ex):∃sl,h1.get? b=some { ob with slots:=sl}:=by
 by_cases hb:b∈fs
 .exact u.slot b ob q n hb hx
 .exact⟨ob.slots,u.keep b ob q n hb hx⟩
def Un.kept(k:∀b u,h.get? b=some u->h'.get? b=some u):Un fs ex H H h h':=
 ⟨λb ob q _ _ _=>k b ob q,λb ob q _ _ _=>⟨ob.slots,k b ob q⟩,λ_ _ _ n _=>n,λb ob q _=>⟨ob,k b ob q⟩,λ_ _ q=>q,λ_ _ _ q=>q,λ_ ps q=>⟨#[],by rw[q];simp⟩⟩
def Un.refl:Un fs ex H H h h:=Un.kept λ_ _ q=>q
def Un.laid(k:∀b u,h.get? b=some u->h'.get? b=some u)(hp:h.objs.size<=a)(hn:H a=none):Un fs ex H (upd H a o) h h' where
 keep:=λb u q _ _ _=>k b u q
 slot:=λb u q _ _ _=>⟨u.slots,k b u q⟩
 free:=λb u q n _=>by rw[cW (lJ (iP (fW q) hp))];exact n
 there:=λb u q _=>⟨u,k b u q⟩
 m_:=λb xs q=>by rw[cW (mI q hn)];exact q
 lS:=λb u xs q=>by rw[cW (mI q hn)];exact q
 mZ:=λb ps q=>⟨#[],by rw[cW (mI q hn),q];simp⟩
def Un.write(mu:By (H x))(he:e=x\/H e=some (.own x))(k:∀b u,b≠e->h.get? b=some u->h'.get? b=some u)(AA:∃u,h'.get? e=some u):Un fs ex H (upd H x o) h h':=by
 have hx:∀b,H b=none->b≠x:=λb n z=>by subst z;rw[n] at mu;exact mu
 have hb:∀b,H b=none->b≠e:=λb n z=>by
  subst z;rcases he with r|r
  .exact hx b n r
  .rw[n] at r;cases r
 have hm:∀b u,H b=some u->¬By (some u)->b≠x:=λb u q nm z=>by subst z;rw[q] at mu;exact nm mu
 refine⟨λb u q n _ _=>k b u (hb b n) q,λb u q n _ _=>⟨u.slots,k b u (hb b n) q⟩,λb u q n _=>by rw[cW (hx b n)];exact n,λb u q _=>?_,
  λb xs q=>by rw[cW (hm b _ q λz=>z)];exact q,λb u xs q=>by rw[cW (hm b _ q λz=>z)];exact q,λb ps q=>⟨#[],by rw[cW (hm b _ q λz=>z),q];simp⟩⟩
 by_cases yE:b=e
 .subst yE;exact AA
 .exact⟨u,k b u yE q⟩
end
noncomputable def Ie(h:cS)(H:Hp):List ak:=(List.range h.objs.size).filter λa=>(H a).isSome
def mR(h:cS)(H:Hp):cS:=PySem.W.hideAll h (Ie h H)
def Vz(h:cS)(H:Hp):(mR h H).objs.size=h.objs.size:=PySem.W.hideAll_size _ _
def WK{h:cS}{H:Hp}{b:ak}{o:Obj}(e:h.get? b=some o)(n:H b=none):(mR h H).get? b=some o:=
 PySem.W.hideAll_get _ e λhm=>by
  have q:(H b).isSome=true:=(kc.mp hm).2;rw[n] at q;simp at q
def Yd{h:cS}{H:Hp}{b:ak}{o:Obj}(e:(mR h H).get? b=some o):h.get? b=some o/\H b=none:=by
 have e':h.get? b=some o:=PySem.W.of_hideAll (Ie h H) e;refine⟨e',?_⟩;cases q:H b with
 |none=>rfl
 |some x=>
  have hm:b∈Ie h H:=kc.mpr ⟨nv.mpr (fW e'),by simp[q]⟩
  have z:(mR h H).get? b=none:=PySem.W.hideAll_none (Ie h H) hm;rw[z] at e;cases e
noncomputable def Ye(g h:cS)(L:ak):List (ak×Obj):=(List.range h.objs.size).filterMap λa=>if a=L\/(g.get? a).isSome=true then none else(h.get? a).map λo=>(a,o)
def rest(g h:cS)(L d:ak):List (ak×Obj):=(Ye g h L).filter λp=>decide (p.1≠d)
structure Mod (K:FG) (mg:Str->ao aq) (base:cS):Prop where
 MJ:K.In base
 glob:base.Ns mainGlobals mg
 blt:∃mb,base.Ns builtinsNs mb/\∀x:Str,x≠"__name__"->mb x=bootBuiltins x
 nolimit:base.NoLimit
set_option genInjectivity false in
structure Cx where
 prog:fO
 w:eK
 K:FG
 mg:Str->ao aq
 base:cS
 A:dZ
 N:List Str
 s₀:az
 H₀:Hp
 env:Env
 outer:List Env
 stack:List Env
 ex:List ak
 fn:Str->Bool
 calm:Bool
 pn:List (ak×Obj)
 xe:aq->az->Prop
noncomputable def rF(l:List Env):List ak:=l.filterMap (·.frame)
abbrev Cx.fs(X:Cx):List ak:=rF X.outer
def EF(sc:Scope)(x:Str):Prop:=sc.names.lookup x=some .local \/ sc.names.lookup x=some .cell\/sc.names.lookup x=some .free
def Loc(sc:Scope)(x:Str):Prop:=sc.names.lookup x=some .local \/ sc.names.lookup x=some .cell
def Look(env:Env)(h:cS)(m:Str->ao aq)(x:Str)(u:aq):Prop:=
 (env.kindOf x=some .local /\ m x=some u)\/((env.kindOf x=some .cell\/env.kindOf x=some .free)/\∃c,env.cells.lookup x=some c/\h.IsCell c (some u))
structure Cx.Ok (X:Cx):Prop where
 mod:Mod X.K X.mg X.base
 kind:X.env.scope.kind=.function
 glob:X.env.globals=mainGlobals
 blt:X.env.builtins=builtinsNs
 above:X.s₀.heap.objs.size<=X.env.locals
 inj:∀x y c,X.env.cells.lookup x=some c->X.env.cells.lookup y=some c->x=y
 has:∀x,(X.env.kindOf x=some .cell\/X.env.kindOf x=some .free)->∃c,X.env.cells.lookup x=some c
 CB:∀x c,X.fn x=true->X.env.cells.lookup x=some c->X.s₀.heap.objs.size<=c
 hd:X.calm=true->X.A.handled=none
 frames:X.A.frames=some X.stack
 H0:X.stack=X.outer\/(X.stack=X.env::X.outer/\X.env.frame=some X.env.locals)
 S7:∀b∈X.ex,b≠X.env.locals/\∀x c,X.env.cells.lookup x=some c->c≠b
 bs:∀b o,X.base.get? b=some o->X.s₀.heap.get? b=some o/\X.H₀ b=none
 wJ:X.base.objs.size<=X.s₀.heap.objs.size
 s_:∀b o,X.base.get? b=some o->b∉X.ex
 ve:∀b∈X.ex,b∉X.fs
 kW:X.s₀.heap.FunFrames X.base X.outer
 Ao:∀b∈X.fs,X.H₀ b=none
structure Inv (X:Cx) (ae:List (ak×Obj)) (Z:List (ao V)) (H:Hp) (s:az):Prop where
 ok:X.Ok
 os:s.os=X.s₀.os
 bare:AllBare s.gens
 base:Un X.fs X.ex X.H₀ H X.s₀.heap s.heap
 loc:∃m,s.heap.Ns X.env.locals m/\∀(i:Nat) (x:Str) (v:V),X.N[i]?=some x->Z[i]?=some (some v)->EF X.env.scope x->∃u,RelV v u/\Look X.env s.heap m x u
 cell:∀x c,X.env.cells.lookup x=some c->∃v,s.heap.IsCell c v
 free:H X.env.locals=none
 ir:∀x c,X.env.cells.lookup x=some c->H c=none
 pin:∀p∈X.pn++ae,s.heap.get? p.1=some p.2/\H p.1=none/\p.1≠X.env.locals/\p.1∉X.fs/\∀v,p.2.data≠.cell v
 cX:kO X.prog X.w H s.heap
 len:Z.length=X.N.length
section
variable{X:Cx}{ae:List (ak×Obj)}{Z:List (ao V)}{H H':Hp}{s:az}{h':cS}
def Cx.Ok.M_(ok:X.Ok){b:ak}{o:Obj}(e:X.base.get? b=some o):b∉X.fs:=λhb=>by
 have:=(ok.kW.mem hb).1;rw[e] at this;cases this
theorem Inv.bs(I:Inv X ae Z H s):∀b o,X.base.get? b=some o->s.heap.get? b=some o/\H b=none:=λb o e=>
 ⟨I.base.keep b o (I.ok.bs b o e).1 (I.ok.bs b o e).2 (I.ok.M_ e) (I.ok.s_ b o e),I.base.free b o (I.ok.bs b o e).1 (I.ok.bs b o e).2 (I.ok.s_ b o e)⟩
def Inv.bk(I:Inv X ae Z H s):∀b o,X.base.get? b=some o->s.heap.get? b=some o:=λb o e=>(I.bs b o e).1
theorem Inv.mod(I:Inv X ae Z H s):Mod X.K X.mg X.base:=I.ok.mod
def Inv.AI(I:Inv X ae Z H s):X.K.In s.heap:=I.ok.mod.MJ.keeps I.bk
theorem Inv.lt(I:Inv X ae Z H s):X.env.locals<s.heap.objs.size:=let ⟨_,hn,_⟩:=I.loc;hn.lt
def Inv.sz(I:Inv X ae Z H s):X.s₀.heap.objs.size<=s.heap.objs.size:=nD I.ok.above (Nat.le_of_lt I.lt)
def Inv.yT(I:Inv X ae Z H s){a:ak}(h:s.heap.objs.size<=a):a∉X.fs:=λhb=>by
 obtain⟨_,o,ho,_⟩:=I.ok.kW.mem hb;exact bZ (iP (fW ho) (nD I.sz h)) (pT _)
def Inv.yx(I:Inv X ae Z H s):∀x c,X.env.cells.lookup x=some c->c≠X.env.locals:=λx c e z=>by
 obtain⟨v,o,ho,hd⟩:=I.cell x c e;obtain⟨m,⟨o',es,ep,sP,Az,_⟩,_⟩:=I.loc;rw[z,sP] at ho;cases ho;rw[Az] at hd;cases hd
theorem Inv.kW(I:Inv X ae Z H s):s.heap.FunFrames X.base X.outer:=by
 have all:∀(l:List Env),(∀b∈rF l,b∈X.fs)->X.s₀.heap.FunFrames X.base l->s.heap.FunFrames X.base l:=by
  intro l
  induction l with
  |nil=>intro _ _;trivial
  |cons env r ih=>
   intro hs hl;obtain⟨hk,⟨L,o,hf,hn,ho,hd⟩,hr⟩:=hl;have hL:L∈X.fs:=hs L (by unfold rF;rw[zg,hf];exact nE)
   obtain⟨sl,e⟩:=I.base.slot L o ho (I.ok.Ao L hL) hL λz=>I.ok.ve L z hL
   exact⟨hk,⟨L,_,hf,hn,e,hd⟩,ih (λb hb=>hs b (by unfold rF;rw[zg,hf];exact oO _ hb)) hr⟩
 exact all X.outer (λ_ hb=>hb) I.ok.kW
def Inv.stack(I:Inv X ae Z H s):s.heap.FunFrames X.base X.stack:=by
 rcases I.ok.H0 with e|⟨e,hf⟩
 .rw[e];exact I.kW
 .rw[e];obtain⟨m,hn,_⟩:=I.loc;refine .cons (by rw[I.ok.kind];decide) hf hn ?_ I.kW
  exact Heap.get?_none_of_le (nD I.ok.wJ I.ok.above)
def Inv.lj(I:Inv X ae Z H s):∀b∈rF X.stack,b∈X.env.locals::X.fs:=λb hb=>by
 rcases I.ok.H0 with e|⟨e,hf⟩
 .rw[e] at hb;exact oO _ hb
 .rw[e] at hb;unfold rF at hb;rw[zg,hf] at hb;exact hb
def Inv.qz(I:Inv X ae Z H s):∀b∈rF X.stack,H b=none:=λb hb=>by
 rcases eO.mp (I.lj b hb) with e|hb
 .rw[e];exact I.free
 .obtain⟨_,o,ho,_⟩:=I.ok.kW.mem hb;exact I.base.free b o ho (I.ok.Ao b hb) λz=>I.ok.ve b z hb
def Inv.step{g':Array GenState}{t':Nat}{d':Drawn}{ch:List ak}(I:Inv X ae Z H s)
  (rH:∀b∈ch,(b∈X.ex\/X.s₀.heap.objs.size<=b)/\b≠X.env.locals/\(∀x c,X.env.cells.lookup x=some c->c≠b)/\∀p∈X.pn++ae,p.1≠b)
  (keep:∀b o,b≠X.env.locals->b∉X.fs->b∉ch->s.heap.get? b=some o->H b=none->h'.get? b=some o)
  (slot:∀b o,b≠X.env.locals->b∈X.fs->b∉ch->s.heap.get? b=some o->H b=none->∃sl,h'.get? b=some { o with slots:=sl}) (free:∀b o,b∉ch->s.heap.get? b=some o->H b=none->H' b=none)
  (there:∀b o,b∉ch->s.heap.get? b=some o->∃o',h'.get? b=some o')
  (m_:∀b xs,H b=some (.tup xs)->H' b=some (.tup xs)) (lS:∀b o u,H b=some (.Y o u)->H' b=some (.Y o u)) (mZ:∀b ps,H b=some (.ze ps)->∃more,H' b=some (.ze (ps++more)))
  (ns:∀m,s.heap.Ns X.env.locals m->h'.Ns X.env.locals m) (cX:kO X.prog X.w H' h') (hg:AllBare g') :
  Inv X ae Z H' { s with heap:=h',gens:=g',drawn:=d',toks:=t'}:=by
 have T2:∀b o,X.s₀.heap.get? b=some o->b≠X.env.locals:=λb o e=>lJ (iP (fW e) I.ok.above)
 have HR:∀b o,X.s₀.heap.get? b=some o->b∉X.ex->b∉ch:=λb o e hx hb=>by
  rcases(rH b hb).1 with z|z
  .exact hx z
  .exact bZ (iP (fW e) z) (pT _)
 have cellK:∀x c,X.env.cells.lookup x=some c->∀v,s.heap.IsCell c v->h'.IsCell c v:=λx c e v ⟨o,ho,hd⟩=>by
  have Dz:c∉ch:=λz=>(rH c z).2.2.1 x c e rfl
  by_cases hc:c∈X.fs
  .obtain⟨sl,q⟩:=slot c o (I.yx x c e) hc Dz ho (I.ir x c e);exact⟨_,q,hd⟩
  .exact⟨o,keep c o (I.yx x c e) hc Dz ho (I.ir x c e),hd⟩
 refine⟨I.ok,I.os,hg,⟨λb o e n hb hx=>?_,λb o e n hb hx=>?_,λb o e n hx=>?_,λb o e hx=>?_,λb xs e=>m_ b xs (I.base.m_ b xs e),λb o xs e=>lS b o xs (I.base.lS b o xs e),λb ps e=>?_⟩,?_,λx c e=>?_,?_,λx c e=>?_,λp hp=>?_,cX,I.len⟩
 .exact keep b o (T2 b o e) hb (HR b o e hx) (I.base.keep b o e n hb hx) (I.base.free b o e n hx)
 .obtain⟨sl,e1⟩:=I.base.slot b o e n hb hx;obtain⟨sl',e2⟩:=slot b _ (T2 b o e) hb (HR b o e hx) e1 (I.base.free b o e n hx);exact⟨sl',e2⟩
 .obtain⟨o',e1⟩:=I.base.there b o e hx;exact free b o' (HR b o e hx) e1 (I.base.free b o e n hx)
 .obtain⟨o',e1⟩:=I.base.there b o e hx;exact there b o' (HR b o e hx) e1
 .obtain⟨m1,e1⟩:=I.base.mZ b ps e;obtain⟨m2,e2⟩:=mZ b _ e1;exact⟨m1++m2,by rw[e2,Array.append_assoc]⟩
 .obtain⟨m,hn,hl⟩:=I.loc;refine⟨m,ns m hn,λi x v e1 e2 e3=>?_⟩
  obtain⟨u,r,l⟩:=hl i x v e1 e2 e3;refine⟨u,r,?_⟩;rcases l with l|⟨k,c,e,z⟩
  .exact .inl l
  .exact .inr ⟨k,c,e,cellK x c e _ z⟩
 .obtain⟨v,z⟩:=I.cell x c e;exact⟨v,cellK x c e v z⟩
 .obtain⟨m,⟨o,_,_,ho,_⟩,_⟩:=I.loc;exact free _ o (λz=>(rH _ z).2.1 rfl) ho I.free
 .obtain⟨v,o,ho,hd⟩:=I.cell x c e;exact free c o (λz=>(rH c z).2.2.1 x c e rfl) ho (I.ir x c e)
 .obtain⟨e,n,ne,nf,d⟩:=I.pin p hp;have Dz:p.1∉ch:=λz=>(rH p.1 z).2.2.2 p hp rfl
  exact⟨keep p.1 p.2 ne nf Dz e n,free p.1 p.2 Dz e n,ne,nf,d⟩
def Inv.un{t':Nat}(I:Inv X ae Z H s)(u:Un X.fs [] H H' s.heap h')(cX:kO X.prog X.w H' h'):Inv X ae Z H' { s with heap:=h',toks:=t'}:=by
 obtain⟨m,⟨o,es,ep,ho,r⟩,_⟩:=id I.loc;obtain⟨sl,hL⟩:=u.any ho I.free (by simp)
 exact I.step (g':=s.gens) (d':=s.drawn) (ch:=[]) (λ_ z=>nomatch z) (λb o _ hb _ e n=>u.keep b o e n hb (by simp)) (λb o _ hb _ e n=>u.slot b o e n hb (by simp)) (λb o _ e n=>u.free b o e n (by simp)) (λb o _ e=>u.there b o e (by simp)) u.m_ u.lS u.mZ (λm' hm=>by
  obtain⟨o',es',yA,sP,r'⟩:=hm;rw[ho] at sP;cases sP;exact⟨_,es',yA,hL,r'⟩) cX I.bare
def Inv.call{g':Array GenState}{t':Nat}{d':Drawn}{ch:List ak}(I:Inv X ae Z H s)(u:Un (rF X.stack) ch H H' s.heap h')(cX:kO X.prog X.w H' h')(hg:AllBare g')
  (rH:∀b∈ch,(b∈X.ex\/X.s₀.heap.objs.size<=b)/\b≠X.env.locals/\(∀x c,X.env.cells.lookup x=some c->c≠b)/\∀p∈X.pn++ae,p.1≠b) :
  Inv X ae Z H' { s with heap:=h',gens:=g',drawn:=d',toks:=t'}:=by
 obtain⟨m,⟨o,es,ep,ho,r⟩,_⟩:=id I.loc;obtain⟨sl,hL⟩:=u.any ho I.free λz=>(rH _ z).2.1 rfl
 exact I.step (ch:=ch) rH (λb o hL hb hc e n=>u.keep b o e n (λz=>(eO.mp (I.lj b z)).elim hL hb) hc) (λb o _ _ hc e n=>u.any e n hc) (λb o hc e n=>u.free b o e n hc) (λb o hc e=>u.there b o e hc) u.m_ u.lS u.mZ (λm' hm=>by
  obtain⟨o',es',yA,sP,r'⟩:=hm;rw[ho] at sP;cases sP;exact⟨_,es',yA,hL,r'⟩) cX hg
def Inv.turned{t':Nat}{it:ak}(I:Inv X ae Z H s)(k:∀b o,b≠it->s.heap.get? b=some o->h'.get? b=some o)(hn:H it=none)(hL:it≠X.env.locals)
  (h1:it∈X.ex\/X.s₀.heap.objs.size<=it) (h2:∀x c,X.env.cells.lookup x=some c->c≠it) (h3:∀p∈X.pn++ae,p.1≠it):Inv X ae Z H { s with heap:=h',toks:=t'}:=by
 have T4:∀b u,H b=some u->b≠it:=λb u e z=>by rw[z,hn] at e;cases e
 refine I.step (g':=s.gens) (d':=s.drawn) (ch:=[it]) (λb hb=>?_) (λb o _ _ hc e _=>k b o (λz=>hc (by simp[z])) e) (λb o _ _ hc e _=>⟨o.slots,k b o (λz=>hc (by simp[z])) e⟩) (λ_ _ _ _ n=>n)
  (λb o hc e=>⟨o,k b o (λz=>hc (by simp[z])) e⟩) (λ_ _ e=>e) (λ_ _ _ e=>e) (λb ps e=>⟨#[],by rw[e];simp⟩) (λm hm=>?_) (λb u e=>?_) I.bare
 .have e:b=it:=by simpa using hb
  subst e;exact⟨h1,hL,h2,h3⟩
 .obtain⟨o,es,ep,ho,r⟩:=hm;exact⟨o,es,ep,k _ o (Ne.symm hL) ho,r⟩
 .refine(I.cX b u e).oI (λc v hc q=>k c v ?_ q) (λ_ q=>q) λ_ _ q=>q
  rcases hc with z|z
  .rw[z];exact T4 b u e
  .exact T4 c _ z
def Inv.tok(I:Inv X ae Z H s)(t:Nat):Inv X ae Z H { s with toks:=t}:=I.un (h':=s.heap) (t':=t) Un.refl I.cX
theorem Inv.kept{t':Nat}(I:Inv X ae Z H s)(k:∀b u,s.heap.get? b=some u->h'.get? b=some u):Inv X ae Z H { s with heap:=h',toks:=t'}:=I.un (Un.kept k) (I.cX.kept k)
theorem Inv.laid{a:ak}{o:HO}{t':Nat}(I:Inv X ae Z H s)(k:∀b u,s.heap.get? b=some u->h'.get? b=some u)(hp:s.heap.objs.size<=a)(new:cG X.prog X.w (upd H a o) h' a o):
  Inv X ae Z (upd H a o) { s with heap:=h',toks:=t'}:=I.un (Un.laid k hp (I.cX.fresh hp)) (I.cX.laid k hp new)
theorem Inv.write{x e:ak}{o:HO}{t':Nat}(I:Inv X ae Z H s)(mu:By (H x))(he:e=x\/H e=some (.own x))(k:∀b u,b≠e->s.heap.get? b=some u->h'.get? b=some u)(AA:∃u,h'.get? e=some u)
  (new:cG X.prog X.w (upd H x o) h' x o):Inv X ae Z (upd H x o) { s with heap:=h',toks:=t'}:=I.un (Un.write mu he k AA) (I.cX.write mu he k AA new)
def Inv.kH{xk:List (ak×Obj)}(I:Inv X ae Z H s)(h:∀p∈xk,s.heap.get? p.1=some p.2/\H p.1=none/\p.1≠X.env.locals/\p.1∉X.fs/\∀v,p.2.data≠.cell v):Inv X xk Z H s:=
 ⟨I.ok,I.os,I.bare,I.base,I.loc,I.cell,I.free,I.ir,λp hp=>(eD.mp hp).elim (λz=>I.pin p (g_ _ z)) (h p),I.cX,I.len⟩
def PB{N:List Str}(hN:N.Nodup){i j:Nat}{x:Str}(a:N[i]?=some x)(b:N[j]?=some x):i=j:=by
 obtain⟨h1,e1⟩:=e_.mp a;obtain⟨h2,e2⟩:=e_.mp b;exact(List.getElem_inj hN).mp (e1.trans e2.symm)
def OQ{M:Model}{A:dZ}{E:aq->az->Prop}{i:Nat}{x:Str}{v:V}{u:aq}{Q:Unit->az->Prop}(I:Inv X ae Z H s)(hN:X.N.Nodup)(hi:X.N[i]?=some x)(hx:Loc X.env.scope x)(r:RelV v u)
  (h:∀s',Inv X ae (Z.set i (some v)) H s'->(∃a,Heap.SameBut a s.heap s'.heap/\(a=X.env.locals\/X.env.cells.lookup x=some a))->Q () s') (hf:X.fn x=true\/X.env.scope.names.lookup x=some .local := by first|exact .inl rfl|exact .inr rfl|assumption):wpAny M A (storeName X.env x u) Q E s:=by
 obtain⟨m,hn,hl⟩:=id I.loc;have Mh:(X.env.scope.kind == .class || (X.env.scope.kind == .module&&X.env.locals != X.env.globals))=false:=by rw[I.ok.kind];rfl
 have Tv:i<Z.length:=by rw[I.len];exact(e_.mp hi).1
 have yx:=I.yx;have tracked:∀{a:ak} {h':cS},(∃o,s.heap.get? a=some o/\H a=none)->Heap.SameBut a s.heap h'->kO X.prog X.w H h':=λ{a h'} ha hs b ob e=>by
  obtain⟨_,_,w5⟩:=ha;refine(I.cX b ob e).oI (λc w' hc q=>(hs.2 c ?_).trans q) (λ_ q=>q) λ_ _ q=>q
  rintro rfl;rcases hc with rfl|hc
  .rw[w5] at e;cases e
  .rw[w5] at hc;cases hc
 rcases hx with hk|hk
 .refine wpAny_storeName_local hk hn (λh' hn' hs=>?_) Mh
  obtain⟨oL,_,_,hoL,_⟩:=id hn;refine h _ ⟨I.ok,I.os,I.bare,⟨λb o e n hb hx=>?_,λb o e n hb hx=>?_,I.base.free,λb o e hx=>?_,I.base.m_,I.base.lS,I.base.mZ⟩,⟨_,hn',λj y v' e1 e2 e3=>?_⟩,λy c e=>?_,I.free,I.ir,λp hp=>?_,tracked ⟨oL,hoL,I.free⟩ hs,by simpa using I.len⟩ ⟨_,hs,.inl rfl⟩
  .exact(hs.2 b (lJ (iP (fW e) I.ok.above))).trans (I.base.keep b o e n hb hx)
  .obtain⟨sl,e1⟩:=I.base.slot b o e n hb hx;exact⟨sl,(hs.2 b (lJ (iP (fW e) I.ok.above))).trans e1⟩
  .obtain⟨o',e1⟩:=I.base.there b o e hx;exact⟨o',(hs.2 b (lJ (iP (fW e) I.ok.above))).trans e1⟩
  .by_cases hj:j=i
   .subst hj;rw[hi] at e1;cases e1;rw[Iv Tv] at e2;cases e2;exact⟨u,r,.inl ⟨hk,by simp⟩⟩
   .rw[AU (Ne.symm hj)] at e2;obtain⟨u',r',q⟩:=hl j y v' e1 e2 e3;refine⟨u',r',?_⟩;rcases q with⟨k,e⟩|⟨k,c,e,z⟩
    .refine .inl ⟨k,?_⟩;have:y≠x:=λe=>hj (PB hN e1 (e ▸ hi))
     simp[this,e]
    .exact .inr ⟨k,c,e,z.sameBut hs (yx y c e)⟩
  .obtain⟨w',z⟩:=I.cell y c e;exact⟨w',z.sameBut hs (yx y c e)⟩
  .obtain⟨e,n,ne,nf,d⟩:=I.pin p hp;exact⟨(hs.2 p.1 ne).trans e,n,ne,nf,d⟩
 .have Ml:X.fn x=true:=by
   rcases hf with z|z
   .exact z
   .rw[z] at hk;cases hk
  obtain⟨c,hc⟩:=I.ok.has x (.inl hk);obtain⟨w',z⟩:=I.cell x c hc;refine wpAny_storeName_cell I.ok.kind hk hc z (λh' yF hs=>?_)
  obtain⟨oc,HF,Mx⟩:=id z;refine h { s with heap:=h'} ⟨I.ok,I.os,I.bare,⟨λb o e n hb hx=>?_,λb o e n hb hx=>?_,I.base.free,λb o e hx=>?_,I.base.m_,I.base.lS,I.base.mZ⟩,⟨m,hn.sameBut hs (Ne.symm (yx x c hc)),λj y v' e1 e2 e3=>?_⟩,λy c' e=>?_,I.free,I.ir,λp hp=>?_,tracked ⟨oc,HF,I.ir x c hc⟩ hs,by simpa using I.len⟩ ⟨c,hs,.inr hc⟩
  .exact(hs.2 b (lJ (iP (fW e) (I.ok.CB x c Ml hc)))).trans (I.base.keep b o e n hb hx)
  .obtain⟨sl,e1⟩:=I.base.slot b o e n hb hx;exact⟨sl,(hs.2 b (lJ (iP (fW e) (I.ok.CB x c Ml hc)))).trans e1⟩
  .obtain⟨o',e1⟩:=I.base.there b o e hx;exact⟨o',(hs.2 b (lJ (iP (fW e) (I.ok.CB x c Ml hc)))).trans e1⟩
  .by_cases hj:j=i
   .subst hj;rw[hi] at e1;cases e1;rw[Iv Tv] at e2;cases e2;exact⟨u,r,.inr ⟨.inl hk,c,hc,yF⟩⟩
   .rw[AU (Ne.symm hj)] at e2;obtain⟨u',r',q⟩:=hl j y v' e1 e2 e3;refine⟨u',r',?_⟩;rcases q with q|⟨k,c',e,z'⟩
    .exact .inl q
    .refine .inr ⟨k,c',e,z'.sameBut hs ?_⟩;rintro rfl;exact hj (PB hN e1 (I.ok.inj _ _ _ e hc ▸ hi))
  .by_cases Tq:c'=c
   .subst Tq;exact⟨_,yF⟩
   .obtain⟨w2,z2⟩:=I.cell y c' e;exact⟨w2,z2.sameBut hs Tq⟩
  .obtain⟨e,n,ne,nf,d⟩:=I.pin p hp;refine⟨(hs.2 p.1 ?_).trans e,n,ne,nf,d⟩;intro q;rw[q,HF] at e;have q':oc=p.2:=Option.some.inj e;exact d w' (by rw[<-q'];exact Mx)
def PC{M:Model}{A:dZ}{E:aq->az->Prop}{i:Nat}{x:Str}{v:V}{u:aq}{Q:Unit->az->Prop}(I:Inv X ae Z H s)(hN:X.N.Nodup)(hi:X.N[i]?=some x)(hx:Loc X.env.scope x)(r:RelV v u)
  (h:∀s',Inv X ae (Z.set i (some v)) H s'->Q () s') (hf:X.fn x=true\/X.env.scope.names.lookup x=some .local := by first|exact .inl rfl|exact .inr rfl|assumption):wpAny M A (storeName X.env x u) Q E s:=
 OQ I hN hi hx r (λs' I' _=>h s' I') hf
def Inv.CC{s':az}{ch:List ak}(I:Inv X ae Z H s)(ho:s'.os=s.os)(u:Un (rF X.stack) ch H H' s.heap s'.heap)(cX:kO X.prog X.w H' s'.heap)(hg:AllBare s'.gens)
  (rH:∀b∈ch,(b∈X.ex\/X.s₀.heap.objs.size<=b)/\b≠X.env.locals/\(∀x c,X.env.cells.lookup x=some c->c≠b)/\∀p∈X.pn++ae,p.1≠b):Inv X ae Z H' s':=by
 obtain⟨h',g',d',t',o'⟩:=s';have e:o'=s.os:=ho;subst e;exact I.call (g':=g') (t':=t') (d':=d') u cX hg rH
end
abbrev XK:=aq->ao ak->Hp->Prop
abbrev St:=List (ao V)
abbrev VK:=V->Hp->Prop
abbrev TE:=St->Hp->VK->Prop
abbrev TT:=St->Hp->(Bool->Hp->Prop)->Prop
abbrev TA:=St->Hp->(List V->Hp->Prop)->Prop
set_option genInjectivity false in
structure Ends where
 nx:St->Hp->Prop
 rt:VK
 bk:St->Hp->Prop:=λ_ _=>False
 ct:St->Hp->Prop:=λ_ _=>False
abbrev TS:=Ends->St->Hp->Prop
def EP(X:Cx)(ae:List (ak×Obj))(Z:St)(Q:VK)(u:aq)(s':az):Prop:=∃v H',Inv X ae Z H' s'/\RelV v u/\Q v H'
def TP(X:Cx)(ae:List (ak×Obj))(Z:St)(Q:Bool->Hp->Prop)(b:Bool)(s':az):Prop:=∃H',Inv X ae Z H' s'/\Q b H'
def AP(X:Cx)(ae:List (ak×Obj))(Z:St)(Q:List V->Hp->Prop)(us:List aq)(s':az):Prop:=∃vs H',Inv X ae Z H' s'/\Vals vs us/\Q vs H'
def SP(X:Cx)(ae:List (ak×Obj))(D:Ends)(f:Flow)(s':az):Prop:=
 match f with
 |.next=>∃Z' H',Inv X ae Z' H' s'/\D.nx Z' H'
 |.brk=>∃Z' H',Inv X ae Z' H' s'/\D.bk Z' H'
 |.cont=>∃Z' H',Inv X ae Z' H' s'/\D.ct Z' H'
 |.ret u=>∃v Z' H',Inv X ae Z' H' s'/\RelV v u/\D.rt v H'
def PE(X:Cx)(e:Expr)(t:TE):Prop:=
 ∀(ae:List (ak×Obj)) (s:az) (Z:St) (H:Hp) (Q:VK),Inv X ae Z H s->t Z H Q->wpAny (model X.prog X.w) X.A (eval e X.env) (EP X ae Z Q) X.xe s
def PT(X:Cx)(e:Expr)(t:TT):Prop:=
 ∀(ae:List (ak×Obj)) (s:az) (Z:St) (H:Hp) (Q:Bool->Hp->Prop),Inv X ae Z H s->t Z H Q->wpAny (model X.prog X.w) X.A (isTrue e X.env (eval e X.env)) (TP X ae Z Q) X.xe s
def PW(X:Cx)(e:Expr)(t:TT):Prop:=
 ∀(whole:Sem aq) (ae:List (ak×Obj)) (s:az) (Z:St) (H:Hp) (Q:Bool->Hp->Prop),Inv X ae Z H s->t Z H Q->wpAny (model X.prog X.w) X.A (isTrue e X.env whole) (TP X ae Z Q) X.xe s
def PW.pt{X:Cx}{e:Expr}{t:TT}(h:PW X e t):PT X e t:=h _
def PA(X:Cx)(es:List Expr)(t:TA):Prop:=
 ∀(pos:Pos) (ae:List (ak×Obj)) (s:az) (Z:St) (H:Hp) (Q:List V->Hp->Prop),Inv X ae Z H s->t Z H Q->wpAny (model X.prog X.w) X.A (spliced (backTo pos (starEach es X.env))) (AP X ae Z Q) X.xe s
def PS(X:Cx)(st:Stmt)(t:TS):Prop:=
 ∀(ae:List (ak×Obj)) (s:az) (Z:St) (H:Hp) (D:Ends),Inv X ae Z H s->t D Z H->wpAny (model X.prog X.w) X.A (exec st X.env) (SP X ae D) X.xe s
def hU(X:Cx)(st:List Stmt)(t:TS):Prop:=
 ∀(ae:List (ak×Obj)) (s:az) (Z:St) (H:Hp) (D:Ends),Inv X ae Z H s->t D Z H->wpAny (model X.prog X.w) X.A (execs st X.env) (SP X ae D) X.xe s
def cL{α:Type}{t:Sem α}{Q Q':α->az->Prop}{M:Model}{A:dZ}{E:aq->az->Prop}{s:az}(h:wpAny M A t Q E s)(hQ:∀a s,Q a s->Q' a s):wpAny M A t Q' E s:=wpAny_mono h hQ λ_ _ x=>x
section
variable{X:Cx}
def pQ(i:Nat):TE:=λZ H Q=>∃v,Z[i]?=some (some v)/\Q v H
def tC(v:V):TE:=λ_ H Q=>Q v H
def δ{i:Nat}{x:Str}{pos:Pos}(hN:X.N[i]?=some x)(hv:EF X.env.scope x)(hd:(x == ("__debug__":Str))=false:=by decide)(qQ:(x == ("__classdict__":Str))=false:=by decide):PE X (.Name x pos) (pQ i):=by
 intro ae s Z H Q I h;obtain⟨v,e,h⟩:=h;obtain⟨m,hn,hl⟩:=I.loc;obtain⟨u,r,l⟩:=hl i x v hN e hv;have fin:EP X ae Z Q u s:=⟨v,H,I,r,h⟩;rcases l with⟨hk,hm⟩|⟨hk,c,hc,qq⟩
 .exact wpAny_Name (wpAny_loadName_local I.ok.kind hk hn hm fin) hd
 .rcases hk with hk|hk
  .exact wpAny_Name (wpAny_loadName_cell I.ok.kind hk hc qq fin) hd
  .exact wpAny_Name (wpAny_loadName_free I.ok.kind hk hc qq fin qQ) hd
def B7{i j pos}:PE X (.Constant (.int i) j pos) (tC (.int i)):=λ_ _ _ H _ I h=>wpAny_Constant_int ⟨.int i,H,I.tok _,⟨_,rfl⟩,h⟩
def nP{b j pos}:PE X (.Constant (.bool b) j pos) (tC (.bl b)):=λ_ _ _ H _ I h=>Constant_bool ⟨.bl b,H,I,rfl,h⟩
def B8{j pos}:PE X (.Constant .none j pos) (tC .bL):=λ_ _ _ H _ I h=>Constant_none ⟨.bL,H,I,rfl,h⟩
def r6{x j pos}:PE X (.Constant (.str x) j pos) (tC (.str x)):=λ_ _ _ H _ I h=>Calls.Constant_str ⟨.str x,H,I.tok _,⟨_,rfl⟩,h⟩
def Gl(X:Cx)(x:Str):Prop:=X.env.kindOf x=some .globalImplicit
def Qr{E:aq->az->Prop}{ae:List (ak×Obj)}{s:az}{Z:St}{H:Hp}{x:Str}{u:aq}{pos:Pos}{Q:aq->az->Prop}(I:Inv X ae Z H s)(hg:Gl X x)(hm:X.mg x=some u)(h:Q u s)
  (hd:(x == ("__debug__":Str))=false:=by decide):wpAny (model X.prog X.w) X.A (eval (.Name x pos) X.env) Q E s:=
 Calls.Name_function_global I.ok.kind hg (Calls.loadGlobal_global (by rw[I.ok.glob];exact I.mod.glob.keeps I.bk) hm h) hd
def wt{E:aq->az->Prop}{ae:List (ak×Obj)}{s:az}{Z:St}{H:Hp}{x:Str}{u:aq}{pos:Pos}{Q:aq->az->Prop}(I:Inv X ae Z H s)(hg:Gl X x)(hm:X.mg x=none)(hv:bootBuiltins x=some u)(h:Q u s)
  (hn:x≠"__name__":=by decide) (hd:(x == ("__debug__":Str))=false:=by decide):wpAny (model X.prog X.w) X.A (eval (.Name x pos) X.env) Q E s:=by
 obtain⟨mb,h1,h2⟩:=I.mod.blt;exact Calls.Name_function_global I.ok.kind hg (Calls.loadGlobal_builtin (by rw[I.ok.glob];exact I.mod.glob.keeps I.bk) hm (by rw[I.ok.blt];exact h1.keeps I.bk) ((h2 x hn).trans hv) h) hd
def Yf{x:Str}{v:V}{u:aq}{pos:Pos}(hg:Gl X x)(hm:X.mg x=some u)(r:RelV v u)(hd:(x == ("__debug__":Str))=false:=by decide):PE X (.Name x pos) (tC v):=
 λ_ _ _ H _ I h=>Qr I hg hm ⟨v,H,I,r,h⟩ hd
def Yg{x:Str}{v:V}{u:aq}{pos:Pos}(hg:Gl X x)(hm:X.mg x=none)(hv:bootBuiltins x=some u)(r:RelV v u)(hn:x≠"__name__":=by decide)(hd:(x == ("__debug__":Str))=false:=by decide):PE X (.Name x pos) (tC v):=
 λ_ _ _ H _ I h=>wt I hg hm hv ⟨v,H,I,r,h⟩ hn hd
variable{a b:Expr}{ta tb:TE}{pos:Pos}
def tB(t:TE):TT:=λZ H Q=>t Z H λx H1=>∃c,x=.bl c/\Q c H1
variable{tA H9:TT}{rest:List Expr}
def Nm(t u:TT):TT:=λZ H Q=>t Z H λc H1=>if c=true then u Z H1 Q else Q false H1
def tOr(t u:TT):TT:=λZ H Q=>t Z H λc H1=>if c=true then Q true H1 else u Z H1 Q
def Nv(t:TT):TT:=λZ H Q=>t Z H λc H1=>Q (!c) H1
def Yh(ha:PT X a tA):PW X (.BoolOp .And [a] pos) tA:=by
 intro wh ae s Z H Q I h;refine isTrue_and (cL (ha ae s Z H Q I h) λc s1 e=>?_)
 cases c with
 |true=>exact isTrue_and_nil e
 |false=>exact e
def ε(ha:PT X a tA):PW X (.BoolOp .Or [a] pos) tA:=by
 intro wh ae s Z H Q I h;refine isTrue_or (cL (ha ae s Z H Q I h) λc s1 e=>?_)
 cases c with
 |false=>exact isTrue_or_nil e
 |true=>exact e
def ζ(ha:PT X a tA)(hb:PW X (.BoolOp .And (b::rest) pos) H9):PW X (.BoolOp .And (a::b::rest) pos) (Nm tA H9):=by
 intro wh ae s Z H Q I h;refine isTrue_and (cL (ha ae s Z H _ I h) λc s1 hh=>?_)
 obtain⟨H1,I1,q1⟩:=hh;cases c with
 |true=>exact hb wh ae s1 Z H1 Q I1 q1
 |false=>exact⟨H1,I1,q1⟩
def e8t(ha:PT X a tA)(hb:PW X (.BoolOp .Or (b::rest) pos) H9):PW X (.BoolOp .Or (a::b::rest) pos) (tOr tA H9):=by
 intro wh ae s Z H Q I h;refine isTrue_or (cL (ha ae s Z H _ I h) λc s1 hh=>?_)
 obtain⟨H1,I1,q1⟩:=hh;cases c with
 |true=>exact⟨H1,I1,q1⟩
 |false=>exact hb wh ae s1 Z H1 Q I1 q1
def η(ha:PT X a tA):PT X (.UnaryOp .Not a pos) (Nv tA):=by
 intro ae s Z H Q I h;exact isTrue_not (ha ae s Z H (λc H1=>Q (!c) H1) I h)
def D9(ta tb:TE):TE:=λZ H Q=>ta Z H λx H1=>∃c,x=.bl c/\if c=true then tb Z H1 Q else Q (.bl false) H1
def Ec(ta:TE):TE:=λZ H Q=>ta Z H λx H1=>∃c,x=.bl c/\Q (.bl (!c)) H1
def θ{op}{t:TE}(h:PE X a t):PE X (.BoolOp op [a] pos) t:=λae s Z H Q I hw=>BoolOp_one (h ae s Z H Q I hw)
def ι(ha:PE X a ta)(hb:PE X (.BoolOp .And (b::rest) pos) tb):PE X (.BoolOp .And (a::b::rest) pos) (D9 ta tb):=by
 intro ae s Z H Q I h;refine BoolOp_and (cL (ha ae s Z H _ I h) λv s1 hh=>?_)
 obtain⟨x,H1,I1,r1,q1⟩:=hh;obtain⟨c,rfl,q1⟩:=q1;cases r1;refine wpAny_truthy_bool ?_;cases c with
 |true=>exact hb ae s1 Z H1 Q I1 q1
 |false=>exact⟨.bl false,H1,I1,rfl,q1⟩
def μ(ha:PE X a ta):PE X (.UnaryOp .Not a pos) (Ec ta):=by
 intro ae s Z H Q I h;refine UnaryOp_ (cL (ha ae s Z H _ I h) λv s1 hh=>?_)
 obtain⟨x,H1,I1,r1,q1⟩:=hh;obtain⟨c,rfl,q1⟩:=q1;cases r1;exact not_of (wpAny_truthy_bool ⟨.bl (!c),H1,I1,rfl,q1⟩)
def tIf(t:TT)(ta tb:TE):TE:=λZ H Q=>t Z H λc H1=>if c=true then ta Z H1 Q else tb Z H1 Q
def WL{c:Expr}(hc:PT X c tA)(ha:PE X a ta)(hb:PE X b tb):PE X (.IfExp c a b pos) (tIf tA ta tb):=by
 intro ae s Z H Q I h;refine wpAny_IfExp (cL (hc ae s Z H _ I h) λd s1 hh=>?_)
 obtain⟨H1,I1,q1⟩:=hh;cases d with
 |true=>exact ha ae s1 Z H1 Q I1 q1
 |false=>exact hb ae s1 Z H1 Q I1 q1
end
def dO(K:FG)(H:Hp)(a:ak)(xs:List V):Prop:=
 Rd H a (.lst xs)\/
  ∃(o:Obj) (aG:Array aq) (n:Nat),K.lookup a=some o/\o.cls=.type "list"/\o.dict=none/\o.data=.seq aG n/\aG.size<=sizeLine/\Vals xs aG.toList
def fX(K:FG)(H:Hp)(a:ak)(xs:List V):Prop:=
 Rd H a (.tup xs)\/
  ∃(o:Obj) (aG:Array aq) (n:Nat),K.lookup a=some o/\o.cls=.type "tuple"/\o.data=.seq aG n/\aG.size<=sizeLine/\Vals xs aG.toList
noncomputable def IM:aq->ao V
 |.none=>some .bL
 |.bool b=>some (.bl b)
 |.int i _=>some (.int i)
 |.str x _=>some (.str x)
 |.bytes b _=>some (.Aa b)
 |.float b _=>some (.An b)
 |.ref a=>some (.ref a)
 |.type n=>some (.ty n)
 |_=>none
def RelV.abs{x:V}{u:aq}(r:RelV x u):IM u=some x:=by
 cases x with
 |bL=>cases r;rfl
 |bl _=>cases r;rfl
 |int _=>obtain⟨t,rfl⟩:=r;rfl
 |str _=>obtain⟨t,rfl⟩:=r;rfl
 |Aa _=>obtain⟨t,rfl⟩:=r;rfl
 |An _=>obtain⟨t,rfl⟩:=r;rfl
 |ref _=>cases r;rfl
 |ty _=>cases r;rfl
theorem RelV.inj{x y:V}{u:aq}(r:RelV x u)(q:RelV y u):x=y:=Option.some.inj (r.abs.symm.trans q.abs)
theorem Vals.inj{xs ys:List V}{us:List aq}(h:Vals xs us)(h':Vals ys us):xs=ys:=by
 induction h generalizing ys with
 |nil=>cases h';rfl
 |cons r t ih=>
  cases h' with
  |cons r' t'=>rw[r.inj r',ih t']
section
variable{X:Cx}{ae:List (ak×Obj)}{Z:St}{H:Hp}{s:az}{a:ak}{xs ys:List V}
def dO.of{K:FG}(h:H a=some (.lst xs)):dO K H a xs:=.inl (.inl h)
def fX.of{K:FG}(h:H a=some (.tup xs)):fX K H a xs:=.inl (.inl h)
def Inv.list(I:Inv X ae Z H s)(h:dO X.K H a xs):∃aG:List aq,Vals xs aG/\PlainL s.heap a aG.toArray/\xs.length<=sizeLine:=by
 rcases h with h|⟨o,aG,n,hk,hc,hd,hs,hz,r⟩
 .obtain⟨z,aG,n,r,e⟩:=h.ok I.cX;exact⟨aG,r,⟨_,n,e,rfl,rfl,rfl⟩,z⟩
 .refine⟨aG.toList,r,⟨o,n,I.AI a o hk,hc,hd,by simpa using hs⟩,?_⟩
  have e:=r.length;simp only[uN] at e;lia
def Inv.tuple(I:Inv X ae Z H s)(h:fX X.K H a xs):∃aG:List aq,Vals xs aG/\IsTup s.heap a aG.toArray/\xs.length<=sizeLine:=by
 rcases h with h|⟨o,aG,n,hk,hc,hs,hz,r⟩
 .obtain⟨z,aG,r,p⟩:=h.ok I.cX;exact⟨aG,r,p,z⟩
 .refine⟨aG.toList,r,⟨o,I.AI a o hk,hc,n,by simpa using hs⟩,?_⟩
  have e:=r.length;simp only[uN] at e;lia
def Inv.oj(I:Inv X ae Z H s)(h:dO X.K H a xs)(h':dO X.K H a ys):xs=ys:=by
 obtain⟨aG,r,⟨o,n,e,_,_,d⟩,_⟩:=I.list h;obtain⟨its',r',⟨o',n',e',_,_,d'⟩,_⟩:=I.list h';rw[e] at e';cases e';rw[d] at d';injection d' with d1 _;have:aG=its':=by simpa using congrArg Array.toList d1
 subst this;exact r.inj r'
def Inv.mE(I:Inv X ae Z H s)(h:fX X.K H a xs)(h':fX X.K H a ys):xs=ys:=by
 obtain⟨aG,r,⟨o,e,_,n,d⟩,_⟩:=I.tuple h;obtain⟨its',r',⟨o',e',_,n',d'⟩,_⟩:=I.tuple h';rw[e] at e';cases e';rw[d] at d';injection d' with d1 _;have:aG=its':=by simpa using congrArg Array.toList d1
 subst this;exact r.inj r'
end
noncomputable abbrev Cx.lX(X:Cx)(E:aq->az->Prop):Cx:={ X with xe:=E}
abbrev Cx.yU(X:Cx):Cx:=X.lX λ_ _=>False
def Cx.Ok.lX{X:Cx}(ok:X.Ok)(E:aq->az->Prop):(X.lX E).Ok:=
 ⟨ok.mod,ok.kind,ok.glob,ok.blt,ok.above,ok.inj,ok.has,ok.CB,ok.hd,ok.frames,ok.H0,ok.S7,ok.bs,ok.wJ,ok.s_,ok.ve,ok.kW,ok.Ao⟩
def Cx.Ok.iD{X:Cx}{E:aq->az->Prop}(ok:(X.lX E).Ok):X.Ok:=
 ⟨ok.mod,ok.kind,ok.glob,ok.blt,ok.above,ok.inj,ok.has,ok.CB,ok.hd,ok.frames,ok.H0,ok.S7,ok.bs,ok.wJ,ok.s_,ok.ve,ok.kW,ok.Ao⟩
section
variable{X:Cx}{ae:List (ak×Obj)}{Z:St}{H:Hp}{s:az}{E:aq->az->Prop}
theorem Inv.lX(I:Inv X ae Z H s)(E:aq->az->Prop):Inv (X.lX E) ae Z H s:=⟨I.ok.lX E,I.os,I.bare,I.base,I.loc,I.cell,I.free,I.ir,I.pin,I.cX,I.len⟩
theorem Inv.iD(I:Inv (X.lX E) ae Z H s):Inv X ae Z H s:=⟨I.ok.iD,I.os,I.bare,I.base,I.loc,I.cell,I.free,I.ir,I.pin,I.cX,I.len⟩
theorem SP.iD{D:Ends}{f:Flow}{s':az}(h:SP (X.lX E) ae D f s'):SP X ae D f s':=by
 cases f with
 |next=>obtain⟨Z',H',I,q⟩:=h;exact⟨Z',H',I.iD,q⟩
 |brk=>obtain⟨Z',H',I,q⟩:=h;exact⟨Z',H',I.iD,q⟩
 |cont=>obtain⟨Z',H',I,q⟩:=h;exact⟨Z',H',I.iD,q⟩
 |ret u=>obtain⟨v,Z',H',I,r,q⟩:=h;exact⟨v,Z',H',I.iD,r,q⟩
def hU.yU{st:List Stmt}{t:TS}(h:hU X.yU st t):hU X st t:=λae s Z H D I hw=>
 wpAny_mono (h ae s Z H D (I.lX _) hw) (λ_ _ q=>q.iD) λ_ _ z=>False.elim z
end
section
variable{X:Cx}{st:Stmt}{rest:List Stmt}{t u:TS}{e:Expr}{te:TE}{pos:Pos}
def Eb:TS:=λD Z H=>D.nx Z H
def Nx(t u:TS):TS:=λD Z H=>t { D with nx:=u D} Z H
def vI:hU X [] Eb:=λ_ _ Z H _ I h=>wpAny_execs_nil ⟨Z,H,I,h⟩
def WM(h1:PS X st t)(h2:hU X rest u):hU X (st::rest) (Nx t u):=by
 intro ae s Z H D I h;refine wpAny_execs_cons (cL (h1 ae s Z H { D with nx:=u D} I h) λf s1 q=>?_)
 cases f with
 |next=>
  obtain⟨Z',H',I',q⟩:=q;exact h2 ae s1 Z' H' D I' q
 |ret v=>exact q
 |brk=>exact q
 |cont=>exact q
def Qs(h1:PS X st t):hU X [st] t:=by
 intro ae s Z H D I h;refine wpAny_execs_cons (cL (h1 ae s Z H D I h) λf s1 q=>?_)
 cases f with
 |next=>exact wpAny_execs_nil q
 |ret v=>exact q
 |brk=>exact q
 |cont=>exact q
def Inv.quiet{ae:List (ak×Obj)}{Z:St}{H:Hp}{s:az}(I:Inv X ae Z H s):interactive X.env=false:=by simp[interactive,I.ok.kind]
def t5(te:TE):TS:=λD Z H=>te Z H λ_ H1=>D.nx Z H1
def Qt(he:PE X e te)(hs:swapsWith e none pos.line X.env=pure false:=by rfl):PS X (.Expr e pos) (t5 te):=by
 intro ae s Z H D I h;exact wpAny_Expr_any (cL (he ae s Z H _ I h) λv s1 ⟨x,H1,I1,r1,q1⟩=>⟨Z,H1,I1,q1⟩) I.quiet hs
def Nw(te:TE):TS:=λD Z H=>te Z H D.rt
def ξ(he:PE X e te):PS X (.Return (some e) pos) (Nw te):=by
 intro ae s Z H D I h;exact wpAny_Return_some (cL (he ae s Z H _ I h) λv s1 ⟨x,H1,I1,r1,q1⟩=>⟨x,Z,H1,I1,r1,q1⟩)
def Nq(c:TT)(t u:TS):TS:=λD Z H=>c Z H λb H1=>if b=true then t D Z H1 else u D Z H1
def e8u{c:Expr}{a b:List Stmt}{tc:TT}(hc:PT X c tc)(ha:hU X a t)(hb:hU X b u):PS X (.If c a b pos) (Nq tc t u):=by
 intro ae s Z H D I h;refine wpAny_If (cL (hc ae s Z H _ I h) λd s1 hh=>?_)
 obtain⟨H1,I1,q1⟩:=hh;cases d with
 |true=>exact ha ae s1 Z H1 D I1 q1
 |false=>exact hb ae s1 Z H1 D I1 q1
end
abbrev TG:=V->St->Hp->(St->Hp->Prop)->Prop
abbrev uf:=List V->St->Hp->(St->Hp->Prop)->Prop
def PG(X:Cx)(target:Expr)(t:TG):Prop:=
 ∀(ae:List (ak×Obj)) (s:az) (Z:St) (H:Hp) (v:V) (u:aq) (Q:St->Hp->Prop),Inv X ae Z H s->RelV v u->t v Z H Q->
  wpAny (model X.prog X.w) X.A (assign target X.env u) (λ_ s'=>∃Z' H',Inv X ae Z' H' s'/\Q Z' H') X.xe s
def EA(X:Cx)(ts:List Expr)(t:uf):Prop:=
 ∀(ae:List (ak×Obj)) (s:az) (Z:St) (H:Hp) (vs:List V) (us:List aq) (Q:St->Hp->Prop),Inv X ae Z H s->Vals vs us->t vs Z H Q->
  wpAny (model X.prog X.w) X.A (assignInOrder ((assignEach ts X.env).map (·.2)) us) (λ_ s'=>∃Z' H',Inv X ae Z' H' s'/\Q Z' H') X.xe s
abbrev qK:=V->V->V->Hp->(Hp->Prop)->Prop
def uU(X:Cx)(t:qK):Prop:=
 ∀(ae:List (ak×Obj)) (s:az) (Z:St) (H:Hp) (o i v:V) (ov iv u:aq) (Q:Hp->Prop),Inv X ae Z H s->RelV o ov->RelV i iv->RelV v u->t o i v H Q->
  wpAny (model X.prog X.w) X.A (setItem ov iv u) (λ_ s'=>∃H',Inv X ae Z H' s'/\Q H') X.xe s
abbrev ED:=V->V->Hp->VK->Prop
def EB(X:Cx)(op:Operator)(t:ED):Prop:=
 ∀(ae:List (ak×Obj)) (s:az) (Z:St) (H:Hp) (x y:V) (v u:aq) (Q:VK),Inv X ae Z H s->RelV x v->RelV y u->t x y H Q->
  wpAny (model X.prog X.w) X.A (inplaceOp op v u) (EP X ae Z Q) X.xe s
section
variable{X:Cx}{pos:Pos}
def qm(i:Nat):TG:=λv Z H Q=>Q (Z.set i (some v)) H
def e8{i:Nat}{x:Str}(hN:X.N.Nodup)(hi:X.N[i]?=some x)(hx:Loc X.env.scope x)(hf:X.fn x=true\/X.env.scope.names.lookup x=some .local := by first|exact .inl rfl|exact .inr rfl|assumption):PG X (.Name x pos) (qm i):=by
 intro ae s Z H v u Q I r h;exact wpAny_assign_Name (PC I hN hi hx r (λs' I'=>⟨_,H,I',h⟩) hf)
def CY:uf:=λvs Z H Q=>vs=[]/\Q Z H
def wX(t:TG)(u:uf):uf:=λvs Z H Q=>∃v r,vs=v::r/\t v Z H λZ' H'=>u r Z' H' Q
def Fp:EA X [] CY:=by
 intro ae s Z H vs us Q I r h;obtain⟨e,h⟩:=h;subst e;cases r;exact assignInOrder_nil ⟨Z,H,I,h⟩
def p5{e:Expr}{es:List Expr}{t:TG}{u:uf}(h1:PG X e t)(h2:EA X es u)
  (hs:(assignEach (e::es) X.env).map (·.2)=assign e X.env::(assignEach es X.env).map (·.2):=by rfl):EA X (e::es) (wX t u):=by
 intro ae s Z H vs us Q I r h;obtain⟨v,vr,e1,h⟩:=h;subst e1;cases r with
 |cons r rr=>
  rw[hs];refine assignInOrder_cons (cL (h1 ae s Z H _ _ _ I r h) λ_ s1 hh=>?_)
  obtain⟨Z1,H1,I1,q1⟩:=hh;exact h2 ae s1 Z1 H1 _ _ Q I1 rr q1
def CZ(K:FG)(n:Nat)(t:uf):TG:=λv Z H Q=>∃a xs,v=.ref a/\fX K H a xs/\xs.length=n/\t xs Z H Q
def FT{es:List Expr}{k:Nat}{t:uf}{n:Nat}(hc:X.calm=true)(h:EA X es t)
  (hn:(assignEach es X.env).length=n:=by rfl) (rJ:(assignEach es X.env).findIdx? (·.1)=none:=by rfl):PG X (.Tuple es k pos) (CZ X.K n t):=by
 intro ae s Z H v u Q I r hw;obtain⟨a,xs,e1,hq,hl,hw⟩:=hw;subst e1;cases r;obtain⟨aG,rv,ht,hz⟩:=I.tuple hq;refine assign_Tuple_tuple (I.ok.hd hc) ht (by simp[hn,<-hl,rv.length]) rJ λh' hx=>?_
 have I1:Inv X ae Z H { s with heap:=h'}:=I.kept (t':=s.toks) λb o e=>hx b o (lJ (fW e)) e
 exact h ae _ Z H xs _ Q I1 (by simpa using rv) hw
def L6(to ti:TE)(t:qK):TG:=λv Z H Q=>to Z H λo H1=>ti Z H1 λi H2=>t o i v H2 λH3=>Q Z H3
def RE{o i:Expr}{to ti:TE}{t:qK}(ho:PE X o to)(hi:PE X i ti)(hs:uU X t)
  (ha:∀v,assign (.Subscript o i pos) X.env v=(do
   let ov <-holding [v] (eval o X.env)
   let iv <-holding [v,ov] (eval i X.env)
   standAt pos
   holding [v,ov,iv] (setItem ov iv v)
   release [v,ov,iv] []):=by intro _;rfl):PG X (.Subscript o i pos) (L6 to ti t):=by
 intro ae s Z H v u Q I r h;rw[ha];refine aI (nI (cL (ho ae s Z H _ I h) λov s1 hh=>?_))
 obtain⟨x,H1,I1,r1,q1⟩:=hh;refine aI (nI (cL (hi ae s1 Z H1 _ I1 q1) λiv s2 hh=>?_))
 obtain⟨y,H2,I2,r2,q2⟩:=hh;refine aI (wpAny_standAt (aI (nI (cL (hs ae s2 Z H2 x y v ov iv u _ I2 r1 r2 r q2) λ_ s3 hh=>?_))))
 obtain⟨H3,I3,q3⟩:=hh;exact wpAny_release ⟨Z,H3,I3,q3⟩
def D_(te:TE)(g:TG):TS:=λD Z H=>te Z H λx H1=>g x Z H1 D.nx
def Ky{tg e:Expr}{te:TE}{g:TG}(he:PE X e te)(hg:PG X tg g)(hs:swapsWithSole [tg] e pos.line X.env=pure false:=by rfl)(hw:swappedStores [tg] e X.env=pure none:=by rfl)
  (h1:(assignEach [tg] X.env).map (·.2)=[assign tg X.env]:=by rfl):PS X (.Assign [tg] e pos) (D_ te g):=by
 intro ae s Z H D I h;refine wpAny_Assign_stores (cL (he ae s Z H _ I h) λv s1 hh=>?_) hs hw
 obtain⟨x,H1,I1,r1,q1⟩:=hh;rw[h1];exact cL (hg ae s1 Z H1 x v _ I1 r1 q1) λ_ s2 q=>q
def ο{i:Nat}{x:Str}{e:Expr}{te:TE}{pos':Pos}(hN:X.N.Nodup)(hi:X.N[i]?=some x)(hx:Loc X.env.scope x)(he:PE X e te)(hs:swapsWith e (some (.Name x pos')) pos.line X.env=pure false:=by rfl)(hf:X.fn x=true\/X.env.scope.names.lookup x=some .local := by first|exact .inl rfl|exact .inr rfl|assumption):
  PS X (.Assign [.Name x pos'] e pos) (D_ te (qm i)):=by
 intro ae s Z H D I h;refine wpAny_Assign_Name (cL (he ae s Z H _ I h) λv s1 hh=>?_) hs
 obtain⟨y,H1,I1,r1,q1⟩:=hh;exact PC I1 hN hi hx r1 (λs2 I2=>⟨_,H1,I2,q1⟩) hf
def Ea(to ti te:TE)(vO:V->V->Hp->VK->Prop)(Ib:ED)(vR:qK):TS:=λD Z H=>to Z H λo H1=>ti Z H1 λi H2=>vO o i H2 λx H3=>te Z H3 λy H4=>Ib x y H4 λz H5=>vR o i z H5 λH6=>D.nx Z H6
def Bz(X:Cx)(t:V->V->Hp->VK->Prop):Prop:=
 ∀(ae:List (ak×Obj)) (s:az) (Z:St) (H:Hp) (o i:V) (ov iv:aq) (Q:VK),Inv X ae Z H s->RelV o ov->RelV i iv->t o i H Q->
  wpAny (model X.prog X.w) X.A (getItem ov iv) (EP X ae Z Q) X.xe s
def Yi{o i e:Expr}{to ti te:TE}{vO:V->V->Hp->VK->Prop}{Ib:ED}{vR:qK}{op:Operator}{oK:Pos}(ho:PE X o to)(hi:PE X i ti)(hg:Bz X vO)(he:PE X e te)(hp:EB X op Ib)(hs:uU X vR)
  (ha:∀ov iv new,augStore i ov iv new=(do holding [new,ov,iv] (setItem ov iv new);release [new,ov,iv] [];pure .next):=by intros;rfl):PS X (.AugAssign (.Subscript o i oK) op e pos) (Ea to ti te vO Ib vR):=by
 intro ae s Z H D I h;refine wpAny_AugAssign_SubscriptAny (cL (ho ae s Z H _ I h) λov s1 hh=>?_) ha
 obtain⟨x1,H1,I1,r1,q1⟩:=hh;refine cL (hi ae s1 Z H1 _ I1 q1) λiv s2 hh=>?_
 obtain⟨x2,H2,I2,r2,q2⟩:=hh;refine cL (hg ae s2 Z H2 x1 x2 ov iv _ I2 r1 r2 q2) λold s3 hh=>?_
 obtain⟨x3,H3,I3,r3,q3⟩:=hh;refine cL (he ae s3 Z H3 _ I3 q3) λv s4 hh=>?_
 obtain⟨x4,H4,I4,r4,q4⟩:=hh;refine cL (hp ae s4 Z H4 x3 x4 old v _ I4 r3 r4 q4) λnew s5 hh=>?_
 obtain⟨x5,H5,I5,r5,q5⟩:=hh;exact cL (hs ae s5 Z H5 x1 x2 x5 ov iv new _ I5 r1 r2 r5 q5) λ_ s6 ⟨H6,I6,q6⟩=>⟨Z,H6,I6,q6⟩
def MD(f:Int->Int->Int):ED:=λx y H Q=>∃i j,x=.int i/\y=.int j/\Q (.int (f i j)) H
def ρ:EB X .Add (MD λi j=>i+j):=by
 intro ae s Z H x y v u Q I r1 r2 h;obtain⟨i,j,e1,e2,q⟩:=h;subst e1;subst e2;obtain⟨t,rfl⟩:=r1;obtain⟨t',rfl⟩:=r2;exact iadd_int ⟨.int _,H,I.tok _,⟨_,rfl⟩,q⟩
def σ:EB X .Sub (MD λi j=>i - j):=by
 intro ae s Z H x y v u Q I r1 r2 h;obtain⟨i,j,e1,e2,q⟩:=h;subst e1;subst e2;obtain⟨t,rfl⟩:=r1;obtain⟨t',rfl⟩:=r2;exact isub_int ⟨.int _,H,I.tok _,⟨_,rfl⟩,q⟩
end
section
variable{X:Cx}{pos:Pos}
def υ(c:TT)(tb:TS):TS:=λD Z H=>∃W:Nat->St->Hp->Prop,(∃m,W m Z H)/\∀m Z H,W m Z H->
 c Z H λb H1=>if b=true then ∃N:St->Hp->Prop,(∀Z' H',N Z' H'->∃m',m'<m/\W m' Z' H')/\tb { D with nx:=N,ct:=N,bk:=D.nx} Z H1 else D.nx Z H1
def WN{c:Expr}{body:List Stmt}{tc:TT}{tb:TS}(hp:PassesOwn (model X.prog X.w) X.A X.env X.xe)(hc:PT X c tc)(hb:hU X body tb):PS X (.While c body [] pos) (υ tc tb):=by
 intro ae s Z H D I h;obtain⟨W,⟨m0,w0⟩,turn⟩:=h;refine wpAny_While (codeAny_whileLoop (λn s'=>∃Z' H',Inv X ae Z' H' s'/\W n Z' H') ?_ m0 ⟨Z,H,I,w0⟩)
 rintro n s1 ⟨Z1,H1,I1,w1⟩;refine wpAny_passesOwn hp (cL (hc ae s1 Z1 H1 _ I1 (turn n Z1 H1 w1)) λb s2 hh=>?_)
 obtain⟨H2,I2,q2⟩:=hh;cases b with
 |true=>
  obtain⟨N,hN,q2⟩:=q2;rw[aU rfl];refine wpAny_passesOwn hp (cL (hb ae s2 Z1 H2 _ I2 q2) λf s3 q3=>?_)
  cases f with
  |next=>
   obtain⟨Z3,H3,I3,n3⟩:=q3;obtain⟨m',hm,w3⟩:=hN Z3 H3 n3;exact⟨m',hm,Z3,H3,I3,w3⟩
  |cont=>
   obtain⟨Z3,H3,I3,n3⟩:=q3;obtain⟨m',hm,w3⟩:=hN Z3 H3 n3;exact⟨m',hm,Z3,H3,I3,w3⟩
  |brk=>exact q3
  |ret v=>exact q3
 |false=>
  rw[aY t8];exact wpAny_execs_nil ⟨Z1,H2,I2,q2⟩
end
set_option genInjectivity false in
structure It where
 go:Nat->Hp->Prop
 xC:Nat->Hp->V->Hp->Prop
 stop:Nat->Hp->Prop
def kd(X:Cx)(ae:List (ak×Obj))(H:Hp)(b:ak):Prop:=
 H b=none/\b≠X.env.locals/\b∉X.fs/\(b∈X.ex\/X.s₀.heap.objs.size<=b)/\(∀x c,X.env.cells.lookup x=some c->c≠b)/\∀p∈X.pn++ae,p.1≠b
def Inv.sE{X:Cx}{ae:List (ak×Obj)}{Z:St}{H H':Hp}{s:az}{b:ak}(I:Inv X ae Z H s)(hb:s.heap.objs.size<=b)(hn:H' b=none):kd X ae H' b:=by
 refine⟨hn,Nat.ne_of_gt (iP I.lt hb),I.yT hb,.inr (nD I.sz hb),λx c e z=>?_,λp hp z=>?_⟩
 .obtain⟨v,q⟩:=I.cell x c e;exact bZ (iP q.lt (by rw[z];exact hb)) (pT _)
 .exact bZ (iP (fW (I.pin p hp).1) (by rw[z];exact hb)) (pT _)
structure Turn (P:fO) (w:eK) (K:FG) (tg:Expr) (J:It) (fp:List ak) (it:ak) (tn:Nat->cS->Prop):Prop where
 mem:it∈fp
 obj:∀i h,tn i h->∀b∈fp,∃o,h.get? b=some o/\∀v,o.data≠.cell v
 keep:∀i h h',tn i h->(∀b∈fp,∀o,h.get? b=some o->h'.get? b=some o)->tn i h'
 item:∀(X:Cx),X.prog=P->X.w=w->X.K=K->X.calm=true->∀(i:Nat) (ae:List (ak×Obj)) (s:az) (Z:St) (H:Hp) (E:aq->az->Prop),Inv X ae Z H s->(∀b∈fp,kd X ae H b)->tn i s.heap->J.go i H->
  wpAny (model P w) X.A (pyNext (.ref it)) (λr s1=>∃u,r=some u/\ wpAny (model P w) X.A (letOwnedTupleGo tg (.ref it) u) (λ_ s2=>∃x H',Inv X ae Z H' s2/\RelV x u/\J.xC i H x H'/\tn (i+1) s2.heap/\∀b∈fp,H' b=none) E s1) E s
 done:∀(X:Cx),X.prog=P->X.w=w->X.K=K->X.calm=true->∀(i:Nat) (ae:List (ak×Obj)) (s:az) (Z:St) (H:Hp) (E:aq->az->Prop),Inv X ae Z H s->(∀b∈fp,kd X ae H b)->tn i s.heap->J.stop i H->
  wpAny (model P w) X.A (pyNext (.ref it)) (λr s1=>r=none/\Inv X ae Z H s1) E s
 self:∀(A:dZ) (i:Nat) (s:az) (Q:aq->az->Prop) (E:aq->az->Prop),tn i s.heap->Q (.ref it) s->wpAny (model P w) A (pyIter (.ref it)) Q E s
abbrev TI:=St->Hp->(It->Hp->Prop)->Prop
def Oa(X:Cx)(ae:List (ak×Obj))(Z:St)(tg:Expr)(R:It->Hp->Prop)(HK:aq)(s2:az):Prop:=
 ∃(it:ak) (fp:List ak) (tn:Nat->cS->Prop) (J:It) (H':Hp),HK=.ref it/\Inv X ae Z H' s2/\Turn X.prog X.w X.K tg J fp it tn/\tn 0 s2.heap/\(∀b∈fp,kd X ae H' b)/\R J H'
def PI(X:Cx)(tg iter:Expr)(wi:TI):Prop:=
 ∀(ae:List (ak×Obj)) (s:az) (Z:St) (H:Hp) (R:It->Hp->Prop),Inv X ae Z H s->wi Z H R->
  wpAny (model X.prog X.w) X.A (eval iter X.env) (λv s1=>wpAny (model X.prog X.w) X.A (pyIter v) (Oa X ae Z tg R) X.xe s1) X.xe s
def GW{M:Model}{A:dZ}{E:aq->az->Prop}{s:az}{tg:Expr}{it:ak}{u:aq}{o:Obj}{n:String}{vs:Array aq}{Q:Unit->az->Prop}(ho:s.heap.get? it=some o)(hc:o.cls=.type n)(hd:o.data=.fields vs)
  (hn:["enumerate","zip","dict_itemiterator","dict_reverseitemiterator","odict_iterator","itertools.zip_longest","itertools.pairwise"].contains n=false) (hQ:Q () s):wpAny M A (letOwnedTupleGo tg (.ref it) u) Q E s:=by
 unfold letOwnedTupleGo;cases tg <;> first
  |exact bz hQ
  |(cases u <;> first
    |exact bz hQ
    |(refine aI (wpAny_load ho ?_)
      rw[hc,hd];show wpAny M A (if(["enumerate","zip","dict_itemiterator","dict_reverseitemiterator","odict_iterator","itertools.zip_longest","itertools.pairwise"].contains n&&vs[0]? == some (rawInt _))=true then _ else _) Q E s
      rw[aY (by intro h;rw[hn,Ei] at h;cases h)]
      exact bz hQ))
def xG(K:FG)(a:ak):It:=
 ⟨λi H=>∃xs x,dO K H a xs/\xs[i]?=some x,λi H x H'=>H'=H/\∀xs,dO K H a xs->xs[i]?=some x,λi H=>∃xs,dO K H a xs/\xs.length<=i⟩
def xH(K:FG)(a:ak):It:=
 ⟨λi H=>∃xs x,fX K H a xs/\xs[i]?=some x,λi H x H'=>H'=H/\∀xs,fX K H a xs->xs[i]?=some x,λi H=>∃xs,fX K H a xs/\xs.length<=i⟩
def ue(lo:Int)(n:Nat):It:=⟨λi _=>i<n,λi H x H'=>H'=H/\x=.int (lo+i),λi _=>n<=i⟩
def VA{P:fO}{w:eK}{K:FG}{tg:Expr}(a it:ak):Turn P w K tg (xG K a) [it] it (λi h=>h.IsListIter it a i) where
 mem:=by simp
 obj:=λi h st b hb=>by
  have e:b=it:=by simpa using hb
  subst e;obtain⟨o,e,c,d⟩:=st;exact⟨o,e,λv z=>by rw[d] at z;cases z⟩
 keep:=λi h h' st k=>st.at λo e=>k it (by simp) o e
 item:=by
  intro X hP hw hK hc i ae s Z H E I hf st hg;subst hP hw hK;obtain⟨xs,x,hq,hx⟩:=hg;obtain⟨aG,rv,p,hz⟩:=I.list hq;obtain⟨u,hu,ru⟩:=rv.get hx;obtain⟨f0,f1,f2,f3,f4,f5⟩:=hf it (by simp)
  refine wpAny_pyNext_list_item st p.isList (x:=u) (by simpa using hu) λh' tX sb=>?_
  have I1:Inv X ae Z H { s with heap:=h'}:=I.turned (t':=s.toks) (λb o hb e=>(sb.2 b hb).trans e) f0 f1 f3 f4 f5
  obtain⟨o,e,c,d⟩:=id tX;exact⟨u,rfl,GW (s:={ s with heap:=h'}) e c d (by decide) ⟨x,H,I1,ru,⟨rfl,λys hy=>by rw[I.oj hy hq];exact hx⟩,tX,λb hb=>(hf b hb).1⟩⟩
 done:=by
  intro X hP hw hK hc i ae s Z H E I hf st hg;subst hP hw hK;obtain⟨xs,hq,hx⟩:=hg;obtain⟨aG,rv,p,hz⟩:=I.list hq;obtain⟨f0,f1,f2,f3,f4,f5⟩:=hf it (by simp)
  have hl:=rv.length;exact wpAny_pyNext_list_end (I.ok.hd hc) st p.isList (by simp;lia) λh' eb=>⟨rfl,I.turned (t':=s.toks) (λb o hb e=>eb b o hb e) f0 f1 f3 f4 f5⟩
 self:=λ_ _ _ _ _ st h=>wpAny_pyIter_listiter st h
def U6{P:fO}{w:eK}{K:FG}{tg:Expr}(a it:ak):Turn P w K tg (xH K a) [it] it (λi h=>h.IsTupleIter it a i) where
 mem:=by simp
 obj:=λi h st b hb=>by
  have e:b=it:=by simpa using hb
  subst e;obtain⟨o,e,c,d⟩:=st;exact⟨o,e,λv z=>by rw[d] at z;cases z⟩
 keep:=λi h h' st k=>st.at λo e=>k it (by simp) o e
 item:=by
  intro X hP hw hK hc i ae s Z H E I hf st hg;subst hP hw hK;obtain⟨xs,x,hq,hx⟩:=hg;obtain⟨aG,rv,p,hz⟩:=I.tuple hq;obtain⟨u,hu,ru⟩:=rv.get hx;obtain⟨f0,f1,f2,f3,f4,f5⟩:=hf it (by simp)
  refine wpAny_pyNext_tuple_item st (show s.heap.IsTuple a aG.toArray from p) (x:=u) (by simpa using hu) λh' tX sb=>?_
  have I1:Inv X ae Z H { s with heap:=h'}:=I.turned (t':=s.toks) (λb o hb e=>(sb.2 b hb).trans e) f0 f1 f3 f4 f5
  obtain⟨o,e,c,d⟩:=id tX;exact⟨u,rfl,GW (s:={ s with heap:=h'}) e c d (by decide) ⟨x,H,I1,ru,⟨rfl,λys hy=>by rw[I.mE hy hq];exact hx⟩,tX,λb hb=>(hf b hb).1⟩⟩
 done:=by
  intro X hP hw hK hc i ae s Z H E I hf st hg;subst hP hw hK;obtain⟨xs,hq,hx⟩:=hg;obtain⟨aG,rv,p,hz⟩:=I.tuple hq;obtain⟨f0,f1,f2,f3,f4,f5⟩:=hf it (by simp)
  have hl:=rv.length;exact wpAny_pyNext_tuple_end (I.ok.hd hc) st (show s.heap.IsTuple a aG.toArray from p) (by simp;lia) λh' eb=>⟨rfl,I.turned (t':=s.toks) (λb o hb e=>eb b o hb e) f0 f1 f3 f4 f5⟩
 self:=λ_ _ _ _ _ st h=>wpAny_pyIter_tupleiter st h
def U7{P:fO}{w:eK}{K:FG}{tg:Expr}(it:ak)(lo:Int)(n:Nat):Turn P w K tg (ue lo n) [it] it (λi h=>IsRangeIter h it (lo+(i:Nat)*1) ((n:Int) - (i:Nat)) 1) where
 mem:=by simp
 obj:=λi h st b hb=>by
  have e:b=it:=by simpa using hb
  subst e;exact⟨_,st,λv z=>by
   have z':Data.fields _=Data.cell v:=z;cases z'⟩
 keep:=λi h h' st k=>k it (by simp) _ st
 item:=by
  intro X hP hw hK hc i ae s Z H E I hf st hg;subst hP hw hK;obtain⟨f0,f1,f2,f3,f4,f5⟩:=hf it (by simp)
  have W:=Walks.range (prog:=X.prog) (w:=X.w) (I.ok.hd hc) it lo 1 n;refine W.item i s _ _ hg st λv h' tk hv tX kk=>?_
  obtain⟨t,rfl⟩:=hv;have I1:Inv X ae Z H { s with heap:=h',toks:=tk}:=I.turned (λb o hb e=>kk b o (by simpa using hb) e) f0 f1 f3 f4 f5
  refine⟨_,rfl,GW (s:={ s with heap:=h',toks:=tk}) (n:="range_iterator") tX rfl rfl (by decide) ⟨.int (lo+i),H,I1,⟨t,?_⟩,⟨rfl,rfl⟩,tX,λb hb=>(hf b hb).1⟩⟩
  rw[Int.mul_one]
 done:=by
  intro X hP hw hK hc i ae s Z H E I hf st hg;subst hP hw hK;obtain⟨f0,f1,f2,f3,f4,f5⟩:=hf it (by simp)
  exact wpAny_pyNext_range_end (I.ok.hd hc) st (by have:n<=i:=hg;lia) λh' eb=>⟨rfl,I.turned (t':=s.toks) (λb o hb e=>eb b o hb e) f0 f1 f3 f4 f5⟩
 self:=λ_ _ _ _ _ st h=>wpAny_pyIter_rangeiter st h
section
variable{X:Cx}{tg:Expr}
def oi(K:FG)(tl:TE):TI:=λZ H R=>tl Z H λx H1=>∃a,x=.ref a/\(∃xs,dO K H1 a xs)/\R (xG K a) H1
def yK(K:FG)(tl:TE):TI:=λZ H R=>tl Z H λx H1=>∃a,x=.ref a/\(∃xs,fX K H1 a xs)/\R (xH K a) H1
def J_{l:Expr}{tl:TE}(hl:PE X l tl):PI X tg l (oi X.K tl):=by
 intro ae s Z H R I h;refine cL (hl ae s Z H _ I h) λv s1 hh=>?_
 obtain⟨x,H1,I1,r1,q1⟩:=hh;obtain⟨a,e,⟨xs,hq⟩,q⟩:=q1;subst e;cases r1;obtain⟨aG,rv,p,hz⟩:=I1.list hq;refine wpAny_pyIter_list p.isList ?_;refine⟨s1.heap.objs.size,[s1.heap.objs.size],_,_,H1,rfl,I1.kept (t':=s1.toks) λb o e=>jN _ e,VA a _,⟨_,oP _ rfl,rfl,rfl⟩,λb hb=>?_,q⟩
 have e:b=s1.heap.objs.size:=by simpa using hb
 subst e;exact I1.sE (cP _) (I1.cX.fresh (cP _))
def RF{l:Expr}{tl:TE}(hl:PE X l tl):PI X tg l (yK X.K tl):=by
 intro ae s Z H R I h;refine cL (hl ae s Z H _ I h) λv s1 hh=>?_
 obtain⟨x,H1,I1,r1,q1⟩:=hh;obtain⟨a,e,⟨xs,hq⟩,q⟩:=q1;subst e;cases r1;obtain⟨aG,rv,p,hz⟩:=I1.tuple hq;refine wpAny_pyIter_tuple (show s1.heap.IsTuple a aG.toArray from p) ?_;refine⟨s1.heap.objs.size,[s1.heap.objs.size],_,_,H1,rfl,I1.kept (t':=s1.toks) λb o e=>jN _ e,U6 a _,⟨_,oP _ rfl,rfl,rfl⟩,λb hb=>?_,q⟩
 have e:b=s1.heap.objs.size:=by simpa using hb
 subst e;exact I1.sE (cP _) (I1.cX.fresh (cP _))
def PD{ae:List (ak×Obj)}{Z:St}{H:Hp}{s:az}{R:It->Hp->Prop}{E:aq->az->Prop}{lo hi:Int}{t u v:Tok}{tk:Nat}(I:Inv X ae Z H s)(h1:-(2^62)<=lo)(h2:lo<2^62)(h3:-(2^62)<=hi)(h4:hi<2^62)
  (q:R (ue lo (hi - lo).toNat) H):wpAny (model X.prog X.w) X.A (pyIter (.ref s.heap.objs.size)) (Oa X ae Z tg R) E { s with heap:=s.heap.push { cls:=.type "range",data:=.fields #[.int lo t,.int hi u,.int 1 v]},toks:=tk}:=by
 refine wpAny_pyIter_range (IsRange.new ..) (small_one h1 h2 h3 h4) ?_;have I1:Inv X ae Z H { s with heap:=s.heap.push { cls:=.type "range",data:=.fields #[.int lo t,.int hi u,.int 1 v]},toks:=tk}:=I.kept λb o e=>jN _ e
 refine⟨(s.heap.push { cls:=.type "range",data:=.fields #[.int lo t,.int hi u,.int 1 v]}).objs.size,[(s.heap.push { cls:=.type "range",data:=.fields #[.int lo t,.int hi u,.int 1 v]}).objs.size],_,_,H,rfl,I1.kept (t':=tk) λb o e=>jN _ e,U7 _ lo (hi - lo).toNat,?_,λb hb=>?_,q⟩
 .have e1:lo+((0:Nat):Int)*1=lo:=by simp
  have e2:(((hi - lo).toNat:Nat):Int) - ((0:Nat):Int)=Builtin.Range.rangeSize lo hi 1:=by rw[rangeSize_one];split <;> lia
  show IsRangeIter _ _ (lo+((0:Nat):Int)*1) ((((hi - lo).toNat:Nat):Int) - ((0:Nat):Int)) 1;rw[e1,e2];exact oP _ rfl
 .have e:b=(s.heap.push { cls:=.type "range",data:=.fields #[.int lo t,.int hi u,.int 1 v]}).objs.size:=by simpa using hb
  subst e;exact I1.sE (cP _) (I1.cX.fresh (cP _))
def w_(ta:TA):TI:=λZ H R=>ta Z H λvs H1=>∃j:Int,vs=[.int j] /\ -(2^62)<=j/\j<2^62/\R (ue 0 j.toNat) H1
def xa(ta:TA):TI:=λZ H R=>ta Z H λvs H1=>∃i j:Int,vs=[.int i,.int j]/\(-(2^62)<=i/\i<2^62 /\ -(2^62)<=j/\j<2^62)/\R (ue i (j - i).toNat) H1
def Ja{a:Expr}{ta:TA}{p pos:Pos}(hg:Gl X "range")(hm:X.mg "range"=none)(ha:PA X [a] ta)(hs:starEach [a] X.env=[(false,eval a X.env)]:=by rfl):PI X tg (.Call (.Name "range" p) [a] [] pos) (w_ ta):=by
 intro ae s Z H R I h;refine Call_ (wt I hg hm boot_range (PyProof.Rows.callWith_type1 (cL (ha pos ae s Z H _ I h) λus s1 hh=>?_) hs rfl))
 obtain⟨vs,H1,I1,r1,q1⟩:=hh;obtain⟨j,e,q1,q2,q⟩:=q1;subst e;cases r1 with
 |cons r rr=>
  cases rr;obtain⟨t,rfl⟩:=r;exact call_range_1 (PD I1 (by lia) (by lia) q1 q2 (by simpa using q))
def OR{a b:Expr}{ta:TA}{p pos:Pos}(hg:Gl X "range")(hm:X.mg "range"=none)(ha:PA X [a,b] ta)(hs:starEach [a,b] X.env=[(false,eval a X.env),(false,eval b X.env)]:=by rfl)(uJ:starEach [b] X.env=[(false,eval b X.env)]:=by rfl):
  PI X tg (.Call (.Name "range" p) [a,b] [] pos) (xa ta):=by
 intro ae s Z H R I h;refine Call_ (wt I hg hm boot_range (PyProof.Rows.callWith_type1 (cL (ha pos ae s Z H _ I h) λus s1 ⟨vs,H1,I1,r1,q1⟩=>?_) (by rw[hs,uJ]) (by rw[uJ];rfl)))
 obtain⟨i,j,e,⟨q1,q2,q3,q4⟩,q⟩:=q1;subst e;cases r1 with
 |cons r rr=>
  cases rr with
  |cons r' rr=>
   cases rr;obtain⟨t,rfl⟩:=r;obtain⟨t',rfl⟩:=r';exact call_range_2 (PD I1 q1 q2 q3 q4 q)
def Np(wi:TI)(g:TG)(tb:TS):TS:=λD Z H=>wi Z H λJ H1=>∃W:Nat->Nat->St->Hp->Prop,(∃m,W 0 m Z H1)/\∀i m Z H,W i m Z H->
 (J.stop i H/\D.nx Z H)\/(J.go i H/\∃N:St->Hp->Prop,(∀Z' H',N Z' H'->∃m',m'<m/\W (i+1) m' Z' H')/\∀x H',J.xC i H x H'->g x Z H' λZ2 H2=>tb { D with nx:=N,ct:=N,bk:=D.nx} Z2 H2)
def B9(fp:List ak)(h:cS):List (ak×Obj):=fp.filterMap λb=>(h.get? b).map λo=>(b,o)
def EO{fp:List ak}{h:cS}{b:ak}{o:Obj}(hb:b∈fp)(e:h.get? b=some o):(b,o)∈B9 fp h:=zh.mpr ⟨b,hb,by rw[e];rfl⟩
def VB{fp:List ak}{h:cS}{p:ak×Obj}(hp:p∈B9 fp h):p.1∈fp/\h.get? p.1=some p.2:=by
 obtain⟨b,hb,e⟩:=zh.mp hp;cases q:h.get? b with
 |none=>rw[q] at e;cases e
 |some o=>
  rw[q] at e;have e':(b,o)=p:=Option.some.inj e;subst e';exact⟨hb,q⟩
def Inv.pinned{ae:List (ak×Obj)}{Z:St}{H:Hp}{s:az}{fp:List ak}(I:Inv X ae Z H s)(hf:∀b∈fp,kd X ae H b)(ho:∀b∈fp,∃o,s.heap.get? b=some o/\∀v,o.data≠.cell v):Inv X (ae++B9 fp s.heap) Z H s:=
 I.kH λp hp=>(eD.mp hp).elim (λz=>I.pin p (gE _ z)) λz=>by
  obtain⟨hb,e⟩:=VB z;obtain⟨f0,f1,f2,_⟩:=hf p.1 hb;obtain⟨o,e',d⟩:=ho p.1 hb;rw[e] at e';cases e';exact⟨e,f0,f1,f2,d⟩
def Inv.iC{ae pl:List (ak×Obj)}{Z:St}{H:Hp}{s:az}(I:Inv X (ae++pl) Z H s):Inv X ae Z H s:=I.kH λp hp=>I.pin p (gE _ (g_ _ hp))
def ye{iter:Expr}{body:List Stmt}{wi:TI}{g:TG}{tb:TS}{pos:Pos}(hp:PassesOwn (model X.prog X.w) X.A X.env X.xe)(hc:X.calm=true)(hi:PI X tg iter wi)(hg:PG X tg g)(hb:hU X body tb)
  (hs:∀x,foldedSetIterable iter X.env x=pure x:=by intro _;rfl):PS X (.For tg iter body [] pos) (Np wi g tb):=by
 intro ae s Z H D I h;refine wpAny_For (cL (hi ae s Z H _ I h) λv s1 h1=>cL h1 λHK s2 h2=>?_) hs
 obtain⟨it,fp,tn,J,H2,e,I2,T,xt,f2,W,⟨m0,w0⟩,turn⟩:=h2;subst e;have pP:∀{H':Hp},(∀b∈fp,H' b=none)->∀b∈fp,kd X ae H' b:=λhn b hb=>⟨hn b hb,(f2 b hb).2⟩
 refine codeAny_forLoop_any (λn s'=>∃i Z' H',Inv X ae Z' H' s'/\tn i s'.heap/\(∀b∈fp,H' b=none)/\W i n Z' H') ?_ m0 ⟨0,Z,H2,I2,xt,λb hb=>(f2 b hb).1,w0⟩
 rintro n s3 ⟨i,Z3,H3,I3,Ug,Td,w3⟩;rcases turn i n Z3 H3 w3 with⟨stop,qn⟩|⟨go,N,hN,step⟩
 .refine wpAny_passesOwn hp (cL (T.done X rfl rfl rfl hc i ae s3 Z3 H3 X.xe I3 (pP Td) Ug stop) λr s4 ⟨hr,I4⟩=>?_)
  subst hr;exact wpAny_execs_nil ⟨Z3,H3,I4,qn⟩
 .refine wpAny_passesOwn hp (cL (T.item X rfl rfl rfl hc i ae s3 Z3 H3 X.xe I3 (pP Td) Ug go) λr s4 ⟨u,hr,h4⟩=>?_)
  subst hr;refine wpAny_passesOwn hp (cL h4 λ_ s5 hh=>?_)
  obtain⟨x,H5,I5,r5,y5,zc,LU⟩:=hh;have IA:=I5.pinned (pP LU) (T.obj _ _ zc);refine wpAny_passesOwn hp (cL (hg _ s5 Z3 H5 x u _ IA r5 (step x H5 y5)) λ_ s6 hh=>?_)
  obtain⟨Z6,H6,I6,q6⟩:=hh;refine wpAny_passesOwn hp (cL (hb _ s6 Z6 H6 _ I6 q6) λf s7 q7=>?_)
  have again:∀{Z7:St} {H7:Hp},Inv X (ae++B9 fp s5.heap) Z7 H7 s7->N Z7 H7->∃m,m<n/\∃i Z' H',Inv X ae Z' H' s7/\tn i s7.heap/\(∀b∈fp,H' b=none)/\W i m Z' H':=λ{Z7 H7} I7 n7=>by
   obtain⟨m',hm,w7⟩:=hN Z7 H7 n7;refine⟨m',hm,i+1,Z7,H7,I7.iC,T.keep _ _ _ zc λb hb o e=>(I7.pin (b,o) (gE _ (gE _ (EO hb e)))).1,λb hb=>?_,w7⟩
   obtain⟨o,e,d⟩:=T.obj _ _ zc b hb;exact(I7.pin (b,o) (gE _ (gE _ (EO hb e)))).2.1
  cases f with
  |next=>obtain⟨Z7,H7,I7,n7⟩:=q7;exact again I7 n7
  |cont=>obtain⟨Z7,H7,I7,n7⟩:=q7;exact again I7 n7
  |brk=>obtain⟨Z7,H7,I7,q7⟩:=q7;exact⟨Z7,H7,I7.iC,q7⟩
  |ret v=>obtain⟨x7,Z7,H7,I7,r7,q7⟩:=q7;exact⟨x7,Z7,H7,I7.iC,r7,q7⟩
end
def PF{K:FG}{a:ak}{xs:List V}{g:TG}{tb:TS}{D:Ends}{Z:St}{H:Hp}(Pv:Nat->St->Hp->Prop)(h0:Pv 0 Z H)(hl:∀i Z H,i<=xs.length->Pv i Z H->dO K H a xs)
  (hs:∀i x Z H,xs[i]?=some x->Pv i Z H->g x Z H λZ2 H2=>tb { D with nx:=Pv (i+1),ct:=Pv (i+1),bk:=D.nx} Z2 H2) (hd:∀Z H,Pv xs.length Z H->D.nx Z H) :
  ∃W:Nat->Nat->St->Hp->Prop,(∃m,W 0 m Z H)/\∀i m Z H,W i m Z H->
   ((xG K a).stop i H/\D.nx Z H)\/((xG K a).go i H/\∃N:St->Hp->Prop,(∀Z' H',N Z' H'->∃m',m'<m/\W (i+1) m' Z' H')/\∀x H',(xG K a).xC i H x H'->g x Z H' λZ2 H2=>tb { D with nx:=N,ct:=N,bk:=D.nx} Z2 H2):=by
 refine⟨λi m Z H=>m=xs.length - i/\i<=xs.length/\Pv i Z H,⟨xs.length,by simp,kK _,h0⟩,?_⟩
 rintro i m Z H ⟨rfl,hi,p⟩;have q:=hl i Z H hi p;by_cases gZ:i<xs.length
 .refine .inr ⟨⟨xs,xs[i],q,by simp[gZ]⟩,Pv (i+1),λZ' H' p'=>⟨xs.length - (i+1),by lia,rfl,gZ,p'⟩,λx H' y=>?_⟩
  obtain⟨e,y⟩:=y;subst e;exact hs i x Z _ (y xs q) p
 .have e:i=xs.length:=by lia
  subst e;exact .inl ⟨⟨xs,q,cP _⟩,hd Z H p⟩
def Yj{K:FG}{a:ak}{xs:List V}{g:TG}{tb:TS}{D:Ends}{Z:St}{H:Hp}(Pv:Nat->St->Hp->Prop)(h0:Pv 0 Z H)(hl:∀i Z H,i<=xs.length->Pv i Z H->fX K H a xs)
  (hs:∀i x Z H,xs[i]?=some x->Pv i Z H->g x Z H λZ2 H2=>tb { D with nx:=Pv (i+1),ct:=Pv (i+1),bk:=D.nx} Z2 H2) (hd:∀Z H,Pv xs.length Z H->D.nx Z H) :
  ∃W:Nat->Nat->St->Hp->Prop,(∃m,W 0 m Z H)/\∀i m Z H,W i m Z H->
   ((xH K a).stop i H/\D.nx Z H)\/((xH K a).go i H/\∃N:St->Hp->Prop,(∀Z' H',N Z' H'->∃m',m'<m/\W (i+1) m' Z' H')/\∀x H',(xH K a).xC i H x H'->g x Z H' λZ2 H2=>tb { D with nx:=N,ct:=N,bk:=D.nx} Z2 H2):=by
 refine⟨λi m Z H=>m=xs.length - i/\i<=xs.length/\Pv i Z H,⟨xs.length,by simp,kK _,h0⟩,?_⟩
 rintro i m Z H ⟨rfl,hi,p⟩;have q:=hl i Z H hi p;by_cases gZ:i<xs.length
 .refine .inr ⟨⟨xs,xs[i],q,by simp[gZ]⟩,Pv (i+1),λZ' H' p'=>⟨xs.length - (i+1),by lia,rfl,gZ,p'⟩,λx H' y=>?_⟩
  obtain⟨e,y⟩:=y;subst e;exact hs i x Z _ (y xs q) p
 .have e:i=xs.length:=by lia
  subst e;exact .inl ⟨⟨xs,q,cP _⟩,hd Z H p⟩
def OS{lo:Int}{n:Nat}{g:TG}{tb:TS}{D:Ends}{Z:St}{H:Hp}(Pv:Nat->St->Hp->Prop)(h0:Pv 0 Z H)
  (hs:∀i Z H,i<n->Pv i Z H->g (.int (lo+i)) Z H λZ2 H2=>tb { D with nx:=Pv (i+1),ct:=Pv (i+1),bk:=D.nx} Z2 H2) (hd:∀Z H,Pv n Z H->D.nx Z H) :
  ∃W:Nat->Nat->St->Hp->Prop,(∃m,W 0 m Z H)/\∀i m Z H,W i m Z H->
   ((ue lo n).stop i H/\D.nx Z H)\/((ue lo n).go i H/\∃N:St->Hp->Prop,(∀Z' H',N Z' H'->∃m',m'<m/\W (i+1) m' Z' H')/\∀x H',(ue lo n).xC i H x H'->g x Z H' λZ2 H2=>tb { D with nx:=N,ct:=N,bk:=D.nx} Z2 H2):=by
 refine⟨λi m Z H=>m=n - i/\i<=n/\Pv i Z H,⟨n,by simp,kK _,h0⟩,?_⟩
 rintro i m Z H ⟨rfl,hi,p⟩;by_cases gZ:i<n
 .refine .inr ⟨gZ,Pv (i+1),λZ' H' p'=>⟨n - (i+1),by lia,rfl,gZ,p'⟩,λx H' y=>?_⟩
  obtain⟨e,y⟩:=y;subst e y;exact hs i Z _ gZ p
 .have e:i=n:=by lia
  subst e;exact .inl ⟨cP _,hd Z H p⟩
abbrev R2:=V->V->Hp->VK->Prop
def f_(X:Cx)(f:aq->aq->Sem aq)(r:R2):Prop:=
 ∀(ae:List (ak×Obj)) (s:az) (Z:St) (H:Hp) (x y:V) (v u:aq) (Q:VK),Inv X ae Z H s->RelV x v->RelV y u->r x y H Q->
  wpAny (model X.prog X.w) X.A (f v u) (EP X ae Z Q) X.xe s
def EE(X:Cx)(f:aq->Sem aq)(r:V->Hp->VK->Prop):Prop:=
 ∀(ae:List (ak×Obj)) (s:az) (Z:St) (H:Hp) (x:V) (v:aq) (Q:VK),Inv X ae Z H s->RelV x v->r x H Q->
  wpAny (model X.prog X.w) X.A (f v) (EP X ae Z Q) X.xe s
def cY(X:Cx)(f:aq)(r:List V->Hp->VK->Prop):Prop:=
 ∀(ae:List (ak×Obj)) (s:az) (Z:St) (H:Hp) (xs:List V) (us:List aq) (Q:VK),Inv X ae Z H s->Vals xs us->r xs H Q->
  wpAny (model X.prog X.w) X.A (call f us) (EP X ae Z Q) X.xe s
def ID(X:Cx)(r:V->Hp->(Bool->Hp->Prop)->Prop):Prop:=
 ∀(ae:List (ak×Obj)) (s:az) (Z:St) (H:Hp) (x:V) (v:aq) (Q:Bool->Hp->Prop),Inv X ae Z H s->RelV x v->r x H Q->
  wpAny (model X.prog X.w) X.A (truthy v) (TP X ae Z Q) X.xe s
def Ed(r:R2)(ta tb:TE):TE:=λZ H Q=>ta Z H λx H1=>tb Z H1 λy H2=>r x y H2 Q
def tUn(r:V->Hp->VK->Prop)(ta:TE):TE:=λZ H Q=>ta Z H λx H1=>r x H1 Q
def rI(C:Int->Int->Prop)(g:Int->Int->V):R2:=λx y H Q=>∃i j,x=.int i/\y=.int j/\C i j/\Q (g i j) H
def rK(g:Int->Int->V):R2:=λx y H Q=>∃i j,x=.int i/\y=.int j/\Q (g i j) H
def rU(g:Int->V):V->Hp->VK->Prop:=λx H Q=>∃i,x=.int i/\Q (g i) H
section
variable{X:Cx}{a b c:Expr}{ta tb tc:TE}{pos:Pos}
def yo(ha:PE X a ta)(hb:PE X b tb){ae:List (ak×Obj)}{s:az}{Z:St}{H:Hp}{R:V->V->Hp->Prop}(I:Inv X ae Z H s)
  (h:ta Z H λx H1=>tb Z H1 λy H2=>R x y H2) {Q:aq->az->Prop} {f:aq->aq->Sem aq}
  (hf:∀v u s2 x y H2,Inv X ae Z H2 s2->RelV x v->RelV y u->R x y H2->wpAny (model X.prog X.w) X.A (f v u) Q X.xe s2) :
  wpAny (model X.prog X.w) X.A (eval a X.env) (λv s₁=>wpAny (model X.prog X.w) X.A (eval b X.env) (λu s₂=>wpAny (model X.prog X.w) X.A (f v u) Q X.xe s₂) X.xe s₁) X.xe s:=by
 refine cL (ha ae s Z H _ I h) λv s1 hh=>?_
 obtain⟨x,H1,I1,r1,q1⟩:=hh;refine cL (hb ae s1 Z H1 _ I1 q1) λu s2 hh=>?_
 obtain⟨y,H2,I2,r2,q2⟩:=hh;exact hf v u s2 x y H2 I2 r1 r2 q2
def e8v{op:Operator}{r:R2}(ho:f_ X (binaryOp op) r)(ha:PE X a ta)(hb:PE X b tb):PE X (.BinOp a op b pos) (Ed r ta tb):=by
 intro ae s Z H Q I h;exact wpAny_BinOp (yo ha hb I h λv u s2 x y H2 I2 rx ry q=>ho ae s2 Z H2 x y v u Q I2 rx ry q)
def e8w{op:UnaryOp}{r:V->Hp->VK->Prop}(ho:EE X (unaryOp op) r)(ha:PE X a ta):PE X (.UnaryOp op a pos) (tUn r ta):=by
 intro ae s Z H Q I h;exact UnaryOp_ (cL (ha ae s Z H _ I h) λv s1 ⟨x,H1,I1,r1,q1⟩=>ho ae s1 Z H1 x v Q I1 r1 q1)
def Na{f:aq->aq->Sem aq}{C:Int->Int->Prop}{g:Int->Int->Int}
  (rule:∀(i j:Int) (t u:Tok) (s:az) (Q:aq->az->Prop) (E:aq->az->Prop),C i j->Q (.int (g i j) s.toks) { s with toks:=s.toks+1}->wpAny (model X.prog X.w) X.A (f (.int i t) (.int j u)) Q E s) :
  f_ X f (rI C λi j=>.int (g i j)):=by
 intro ae s Z H x y v u Q I rx ry h;obtain⟨i,j,rfl,rfl,hc,q⟩:=h;obtain⟨t,rfl⟩:=rx;obtain⟨t',rfl⟩:=ry;exact rule i j t t' s _ _ hc ⟨.int (g i j),H,I.tok _,⟨_,rfl⟩,q⟩
def DK{f:aq->aq->Sem aq}{g:Int->Int->Int}
  (rule:∀(i j:Int) (t u:Tok) (s:az) (Q:aq->az->Prop) (E:aq->az->Prop),Q (.int (g i j) s.toks) { s with toks:=s.toks+1}->wpAny (model X.prog X.w) X.A (f (.int i t) (.int j u)) Q E s) :
  f_ X f (rK λi j=>.int (g i j)):=by
 intro ae s Z H x y v u Q I rx ry h;obtain⟨i,j,rfl,rfl,q⟩:=h;obtain⟨t,rfl⟩:=rx;obtain⟨t',rfl⟩:=ry;exact rule i j t t' s _ _ ⟨.int (g i j),H,I.tok _,⟨_,rfl⟩,q⟩
def DJ{f:aq->aq->Sem aq}{g:Int->Int->Bool}
  (rule:∀(i j:Int) (t u:Tok) (s:az) (Q:aq->az->Prop) (E:aq->az->Prop),Q (.bool (g i j)) s->wpAny (model X.prog X.w) X.A (f (.int i t) (.int j u)) Q E s) :
  f_ X f (rK λi j=>.bl (g i j)):=by
 intro ae s Z H x y v u Q I rx ry h;obtain⟨i,j,rfl,rfl,q⟩:=h;obtain⟨t,rfl⟩:=rx;obtain⟨t',rfl⟩:=ry;exact rule i j t t' s _ _ ⟨.bl (g i j),H,I,rfl,q⟩
def xD(i j:Int):Prop:=0<j/\j<1073741824
def uR(i j:Int):Prop:=(-(2^64)<i/\i<2^64)\/(-(2^64)<j/\j<2^64)
def uR.ok{i j:Int}(h:uR i j):IntMulOk i j:=by
 rcases h with⟨h1,h2⟩|⟨h1,h2⟩
 .exact .of_left (intBits_le_64 h1 h2)
 .exact .of_right (intBits_le_64 h1 h2)
def yY:f_ X (binaryOp .Add) (rK λi j=>.int (i+j)):=DK λ_ _ _ _ _ _ _ q=>add_int q
def B_:f_ X (binaryOp .Sub) (rK λi j=>.int (i - j)):=DK λ_ _ _ _ _ _ _ q=>sub_int q
def yZ:f_ X (binaryOp .Mult) (rI uR λi j=>.int (i*j)):=Na λ_ _ _ _ _ _ _ hc q=>mul_int q hc.ok
def BS:f_ X (binaryOp .FloorDiv) (rI xD λi j=>.int (i / j)):=Na λi j _ _ _ _ _ hc q=>by
 have h1:(0:Int)<j:=hc.1;have h2:j<1073741824:=hc.2;exact floordiv_int (by lia) (by rw[Int.fdiv_eq_ediv_of_nonneg i (by lia)];exact q) (.inl (PyProof.noPylong_small (by lia)))
def uu:f_ X (binaryOp .Mod) (rI (λ_ j=>0<j) λi j=>.int (i%j)):=Na λi j _ _ _ _ _ hc q=>by
 have h1:(0:Int)<j:=hc;exact mod_int' (by lia) (by rw[Int.fmod_eq_emod_of_nonneg i (by lia)];exact q)
def unI{f:aq->Sem aq}{g:Int->Int}
  (rule:∀(i:Int) (t:Tok) (s:az) (Q:aq->az->Prop) (E:aq->az->Prop),Q (.int (g i) s.toks) { s with toks:=s.toks+1}->wpAny (model X.prog X.w) X.A (f (.int i t)) Q E s) :
  EE X f (rU λi=>.int (g i)):=by
 intro ae s Z H x v Q I rx h;obtain⟨i,rfl,q⟩:=h;obtain⟨t,rfl⟩:=rx;exact rule i t s _ _ ⟨.int (g i),H,I.tok _,⟨_,rfl⟩,q⟩
def RG:EE X (unaryOp .USub) (rU λi=>.int (-i)):=unI λ_ _ _ _ _ q=>neg_int q
end
section
variable{X:Cx}{a b c:Expr}{ta tb tc:TE}{pos:Pos}
def zR{ae:List (ak×Obj)}{Z:St}{H:Hp}{s:az}{Q:VK}{k k':Bool}(I:Inv X ae Z H s)(q:Q (.bl k) H)(e:k=k'):EP X ae Z Q (.bool k') s:=by
 subst e;exact⟨.bl k,H,I,rfl,q⟩
def wH:f_ X (compareOp .Lt) (rK λi j=>.bl (decide (i<j))):=DJ λ_ _ _ _ _ _ _ q=>lt_int q
def Ab:f_ X (compareOp .Gt) (rK λi j=>.bl (decide (j<i))):=DJ λ_ _ _ _ _ _ _ q=>gt_int q
def VD:f_ X (compareOp .In) (λx y H Q=>∃i j,x=.str i/\y=.str j/\Q (.bl (!(Builtin.Str.occurrences j i 0 j.length 1).isEmpty)) H):=by
 intro ae s Z H x y v u Q I rx ry h;obtain⟨i,j,rfl,rfl,q⟩:=h;obtain⟨t,rfl⟩:=rx;obtain⟨t',rfl⟩:=ry;exact in_str (zR I q rfl)
def vF:f_ X (compareOp .IsNot) (λx y H Q=>y=.bL/\Q (.bl (!decide (x=.bL))) H):=by
 intro ae s Z H x y v u Q I rx ry h;obtain⟨rfl,q⟩:=h;cases ry;refine isnot_none_gen (zR I q ?_);cases x <;> first
  |(cases rx;rfl)
  |(obtain⟨t,rfl⟩:=rx;rfl)
def UM:f_ X (compareOp .NotIn) (λx y H Q=>∃i j,x=.str i/\y=.str j/\Q (.bl (!(!(Builtin.Str.occurrences j i 0 j.length 1).isEmpty))) H):=by
 intro ae s Z H x y v u Q I rx ry h;obtain⟨i,j,rfl,rfl,q⟩:=h;obtain⟨t,rfl⟩:=rx;obtain⟨t',rfl⟩:=ry;exact notIn_str (zR I q rfl)
def f_.or{f:aq->aq->Sem aq}{r r':R2}(h:f_ X f r)(h':f_ X f r'):f_ X f (λx y H Q=>r x y H Q\/r' x y H Q):=by
 intro ae s Z H x y v u Q I rx ry q;rcases q with q|q
 .exact h ae s Z H x y v u Q I rx ry q
 .exact h' ae s Z H x y v u Q I rx ry q
def RH(b:Expr){op:CmpOp}(h:op≠.In:=by decide)(h2:op≠.NotIn:=by decide):behindInMarks op b=false:=by
 have e1:(op == CmpOp.In)=false:=by cases op <;> first|rfl|exact bZ rfl h
 have e2:(op == CmpOp.NotIn)=false:=by cases op <;> first|rfl|exact bZ rfl h2
 cases b <;> simp[behindInMarks,e1,e2]
def Yk{op:CmpOp}{r:R2}(ho:f_ X (compareOp op) r)(ha:PE X a ta)(hb:PE X b tb)(hm:behindInMarks op b=false):PE X (.Compare a [op] [b] pos) (Ed r ta tb):=by
 intro ae s Z H Q I h;exact wpAny_Compare1 (yo ha hb I h λv u s2 x y H2 I2 rx ry q=>ho ae s2 Z H2 x y v u Q I2 rx ry q) hm
def xx(t:TE):TT:=λZ H Q=>t Z H λx H'=>∃k,x=.bl k/\Q k H'
def Yl{op:CmpOp}{r:R2}(ho:f_ X (compareOp op) r)(ha:PE X a ta)(hb:PE X b tb)(hm:behindInMarks op b=false):PT X (.Compare a [op] [b] pos) (xx (Ed r ta tb)):=by
 intro ae s Z H Q I h;refine wpAny_isTrue_Compare1 (cL (ha ae s Z H _ I h) λv s1 ⟨x,H1,I1,r1,q1⟩=>cL (hb ae s1 Z H1 _ I1 q1) λu s2 ⟨y,H2,I2,r2,q2⟩=> cL (ho ae s2 Z H2 x y v u _ I2 r1 r2 q2) λc s3 ⟨z,H3,I3,r3,k,e,q3⟩=>?_) hm
 subst e;cases r3;exact wpAny_truthy_bool ⟨H3,I3,q3⟩
def χ(r r':R2)(ta tb tc:TE):TE:=λZ H Q=>ta Z H λx H1=>tb Z H1 λy H2=>r x y H2 λz H3=>∃k,z=.bl k/\
 (if k=true then tc Z H3 λw' H4=>r' y w' H4 Q else Q (.bl false) H3)
def WO{op yX:CmpOp}{r r':R2}(ho:f_ X (compareOp op) r)(sP:f_ X (compareOp yX) r')(ha:PE X a ta)(hb:PE X b tb)(hc:PE X c tc)
  (hm:lastMarks [op,yX] [b,c]=false:=by with_unfolding_all rfl):PT X (.Compare a [op,yX] [b,c] pos) (xx (χ r r' ta tb tc)):=by
 intro ae s Z H Q I h;refine isTrue_chain (cL (ha ae s Z H _ I h) λv s1 ⟨x,H1,I1,r1,q1⟩=>test_link (cL (hb ae s1 Z H1 _ I1 q1) λu s2 ⟨y,H2,I2,r2,q2⟩=> cL (ho ae s2 Z H2 x y v u _ I2 r1 r2 q2) λd s3 ⟨z,H3,I3,r3,k,e,q3⟩=>?_)) hm
 subst e;cases r3;refine wpAny_truthy_bool ?_;cases k with
 |false=>
  obtain⟨k',e',q'⟩:=q3;cases e';exact ite_ff ⟨H3,I3,q'⟩
 |true=>
  refine ite_tt (test_last (cL (hc ae s3 Z H3 _ I3 q3) λw' s4 ⟨z',H4,I4,r4,q4⟩=>cL (sP ae s4 Z H4 y z' u w' _ I4 r2 r4 q4) λd' s5 ⟨z2,H5,I5,r5,k2,e2,q5⟩=>?_))
  subst e2;cases r5;exact wpAny_truthy_bool ⟨H5,I5,q5⟩
def uV(K:FG)(x:V)(H:Hp)(k:Bool):Prop:=
 match x with
 |.bL=>k=false
 |.bl b=>k=b
 |.int i=>k=(i != 0)
 |.str y=>y.length<=sizeLine/\k=((y.length:Int) != 0)
 |.Aa y=>y.size<=sizeLine/\k=((y.size:Int) != 0)
 |.ref p=>(∃xs,dO K H p xs/\k = !xs.isEmpty)\/(∃xs,fX K H p xs/\k = !xs.isEmpty)\/∃kvs,H p=some (.dK kvs)/\k = !kvs.isEmpty
 |_=>False
def U8{κ:Type}{kvs:List (κ×V)}{vs:List (κ×aq)}(r:KV kvs vs):(!vs.isEmpty) = !kvs.isEmpty:=by
 cases r <;> rfl
def Ow{xs:List V}{aG:List aq}(r:Vals xs aG):(!aG.toArray.isEmpty) = !xs.isEmpty:=by
 cases r <;> simp
def yf:(sizeLine:Nat)<2^63:=by rw[sizeLine_eq];decide
def ψ:ID X (λx H Q=>∃k,uV X.K x H k/\Q k H):=by
 intro ae s Z H x v Q I rx h;obtain⟨k,e,q⟩:=h;have hl:=yf;have hs:sizeLine=16777216:=sizeLine_eq;cases x with
 |bL=>
  cases rx;have e':k=false:=e;subst e';exact truthy_none ⟨H,I,q⟩
 |bl b=>
  cases rx;have e':k=b:=e;subst e';exact wpAny_truthy_bool ⟨H,I,q⟩
 |int i=>
  obtain⟨t,rfl⟩:=rx;have e':k=(i != 0):=e;subst e';exact PySem.P.truthy_int ⟨H,I,q⟩
 |str y=>
  obtain⟨t,rfl⟩:=rx;obtain⟨hy,e'⟩:y.length<=sizeLine/\k=((y.length:Int) != 0):=e;subst e';exact PySem.P.truthy_str (by lia) ⟨H,I.tok _,q⟩
 |Aa y=>
  obtain⟨t,rfl⟩:=rx;obtain⟨hy,e'⟩:y.size<=sizeLine/\k=((y.size:Int) != 0):=e;subst e';exact PySem.W.truthy_bytes (by lia) ⟨H,I.tok _,q⟩
 |ref p=>
  cases rx;have e':(∃xs,dO X.K H p xs/\k = !xs.isEmpty)\/(∃xs,fX X.K H p xs/\k = !xs.isEmpty)\/∃kvs,H p=some (.dK kvs)/\k = !kvs.isEmpty:=e;rcases e' with⟨xs,hx,e'⟩|⟨xs,hx,e'⟩|⟨kvs,hx,e'⟩
  .subst e';obtain⟨aG,r,pl,hz⟩:=I.list hx;have hlen:=r.length;exact wpAny_truthy_list pl.isList (by simp only[fI];lia) ⟨H,I.tok _,by rw[Ow r];exact q⟩
  .subst e';obtain⟨aG,r,pl,hz⟩:=I.tuple hx;have hlen:=r.length;exact truthy_tuple pl (by simp only[fI];lia) ⟨H,I.tok _,by rw[Ow r];exact q⟩
  .subst e';obtain⟨hz,hS,vs,r,m⟩:kvs.length<=sizeLine/\(p == sysModules)=false/\∃vs,KV kvs vs/\s.heap.DictOf (J9 X.prog X.w) p vs:=I.cX p _ hx;have hlen:kvs.length=vs.length:=Paired.length r;exact wpAny_truthy_dict hS m (by lia) ⟨H,I.tok _,by rw[U8 r];exact q⟩
 |_=>exact(show False from e).elim
def WQ(ha:PE X a ta)(he:∀whole,isTrue a X.env whole=(do let v <-whole;standAt a.pos;holding [v] (truthy v))):
  PT X a (λZ H Q=>ta Z H λx H'=>∃k,uV X.K x H' k/\Q k H'):=by
 intro ae s Z H Q I h;exact isTrue_plain (cL (ha ae s Z H _ I h) λv s1 ⟨x,H1,I1,r1,q1⟩=>ψ ae s1 Z H1 x v Q I1 r1 q1) (he _)
def pO:f_ X (binaryOp .Add) (λx y H Q=>∃i j,x=.str i/\y=.str j/\i.length+j.length<=sizeLine/\Q (.str (i++j)) H):=by
 intro ae s Z H x y v u Q I rx ry h;obtain⟨i,j,rfl,rfl,hz,q⟩:=h;obtain⟨t,rfl⟩:=rx;obtain⟨t',rfl⟩:=ry;exact add_str (λt' tk=>⟨.str (i++j),H,I.tok _,⟨_,rfl⟩,q⟩) hz
def vals1{x:V}{us:List aq}(r:Vals [x] us):∃u,us=[u]/\RelV x u:=by
 cases r with
 |cons r1 r2=>cases r2;exact⟨_,rfl,r1⟩
def vals2{x y:V}{us:List aq}(r:Vals [x,y] us):∃u w',us=[u,w']/\RelV x u/\RelV y w':=by
 cases r with
 |cons r1 r2=>
  cases r2 with
  |cons r3 r4=>cases r4;exact⟨_,_,rfl,r1,r3⟩
def OT:cY X (.type "int") (λxs H Q=>(∃i,xs=[.int i]/\Q (.int i) H)\/∃k,xs=[.bl k]/\Q (.int (if k then 1 else 0)) H):=by
 intro ae s Z H xs us Q I r h;rcases h with⟨i,rfl,q⟩|⟨k,rfl,q⟩
 .obtain⟨u,rfl,t,rfl⟩:=vals1 r;exact call_int_int ⟨.int i,H,I,⟨_,rfl⟩,q⟩
 .obtain⟨u,rfl,r1⟩:=vals1 r;cases r1;exact call_int_bool ⟨.int (if k then 1 else 0),H,I.tok _,⟨_,rfl⟩,q⟩
end
structure ObjM (h:cS) (x dx C:ak) (mA:Str->ao aq):Prop where
 obj:h.get? x=some (PySem.W.instObj C dx)
 ns:h.Ns1 dx mA
 ne:dx≠x
section
variable{prog:fO}{w:eK}{A:dZ}{E:aq->az->Prop}{s:az}{K:FG}{x dx C f:ak}{mA:Str->ao aq}{name:Str}{v:aq}
end
def nM.some_of{v:V}{o:ao aq}(r:nM (some v) o):∃u,o=some u/\RelV v u:=by
 cases o with
 |none=>exact(show False from r).elim
 |some u=>exact⟨u,rfl,r⟩
section
variable{P:fO}{w:eK}{H H':Hp}{h h':cS}{a C dx:ak}{fs fs':List (Str×V)}
end
structure Uu (K:FG) (C:ak):Prop where
 pg:PySem.W.plainGet K C Str.empty=true
 hd:PySem.W.hasDictIn K C=true
 po:PySem.W.plainOver K C=true
 sa:PySem.W.findIn K (.ref C) "__setattr__"=some (some (.builtin "object.__setattr__"))
structure Con (K:FG) (C:ak) (f:Str) (v:V) (u:aq):Prop where
 at_:PySem.W.findIn K (.ref C) f=some (some u)
 rel:RelV v u
 get:PySem.W.specialIn K u "__get__"=some none
 cp:PySem.W.copiedNames.contains f=false
structure Meth (K:FG) (C:ak) (m:Str) (f:ak):Prop where
 at_:PySem.W.findIn K (.ref C) m=some (some (.ref f))
 fn:PySem.W.isFn K (.ref f)=true
 kp:PySem.W.keepIn K (.ref f)=true
section
variable{X:Cx}{ae:List (ak×Obj)}{Z:St}{H:Hp}{s:az}{a C dx:ak}{fs:List (Str×V)}{f:Str}{v:V}{A:dZ}{E:aq->az->Prop}
end
section
variable{X:Cx}{o e value:Expr}{f:Str}{pos pos' oK:Pos}{ta tv:TE}
end
section
variable{X:Cx}{ae:List (ak×Obj)}{Z:St}{H:Hp}{s:az}{A:dZ}{E:aq->az->Prop}{Q:aq->az->Prop}{c:aq}{b:Bool}
inductive kR (K:FG) (H:Hp):V->aq->Prop where
 |bL:kR K H .bL (.type "NoneType")
 |bl (x:Bool):kR K H (.bl x) (.type "bool")
 |int (i:Int):kR K H (.int i) (.type "int")
 |str (x:Str):kR K H (.str x) (.type "str")
 |An (x:UInt64):kR K H (.An x) (.type "float")
 |lst {a:ak} {xs:List V} (e:H a=some (.lst xs)):kR K H (.ref a) (.type "list")
 |Y {a:ak} {o:Obj} {xs:List V} (e:H a=some (.Y o (.lst xs))):kR K H (.ref a) (.type "list")
 |tup {a:ak} {xs:List V} (e:H a=some (.tup xs)):kR K H (.ref a) (.type "tuple")
 |dK {a:ak} {kvs:List (Key×V)} (e:H a=some (.dK kvs)):kR K H (.ref a) (.type "dict")
 |dT {a:ak} {kvs:List (List Key×V)} (e:H a=some (.dT kvs)):kR K H (.ref a) (.type "dict")
 |ins {a C dx:ak} {fs:List (Str×V)} (e:H a=some (.ins C dx fs)) (cl:Uu K C) (ha:PySem.W.findIn K (.ref C) "__class__"=some (some (.builtin "object.__class__")))
   (hn:PySem.W.specialIn K (.builtin "object.__class__") "__get__"=some (some (.builtin "getset_descriptor.__get__"))) (htk:PySem.W.takesIn K (.builtin "object.__class__")=some true)
   (hm:PySem.W.mroIn K C (.type "object")=some true):kR K H (.ref a) (.ref C)
end
structure eG (k:Nat) (A:dZ):Prop where
 hd:A.handled=none
 dp:A.depth+3*k+5<recursionLimit
 un:A.units+16*k+200<cLine
def eG.mono{j k:Nat}{A:dZ}(r:eG k A)(h:j<=k):eG j A:=⟨r.hd,by have:=r.dp;lia,by have:=r.un;lia⟩
def eG.deeper{k:Nat}{A:dZ}(r:eG (k+1) A)(env:Env):eG k (A.deeper env):=
 ⟨r.hd,by have:=r.dp;show A.depth+1+3*k+5<_;lia,by have:=r.un;show A.units+3+16*k+200<_;lia⟩
def eG.depth{k:Nat}{A:dZ}(r:eG k A):A.depth<recursionLimit:=by have:=r.dp;lia
def eG.units{k:Nat}{A:dZ}(r:eG k A):A.units+64<cLine:=by have:=r.un;lia
def Nu:TA:=λ_ H Q=>Q [] H
def xw(ta:TE)(tr:TA):TA:=λZ H Q=>ta Z H λx H1=>tr Z H1 λxs H2=>Q (x::xs) H2
section
variable{X:Cx}{e:Expr}{es:List Expr}{te:TE}{t:TA}{pos:Pos}
def tI:PA X [] Nu:=λ_ _ _ _ H Q I h=>Calls.spliced_nil ⟨[],H,I,.nil,h⟩
def Qu(ha:PE X e te)(hr:PA X es t)(hs:starEach (e::es) X.env=(false,eval e X.env)::starEach es X.env:=by rfl):PA X (e::es) (xw te t):=by
 intro pos ae s Z H Q I h;rw[hs];show wpAny _ _ (spliced ((false,eval e X.env)::backTo pos (starEach es X.env))) _ _ s;refine Calls.spliced_cons (cL (ha ae s Z H _ I h) λu s1 hh=>?_)
 obtain⟨x,H1,I1,r1,q1⟩:=hh;exact cL (hr pos ae s1 Z H1 _ I1 q1) λus s2 ⟨xs,H2,I2,r2,q2⟩=>⟨x::xs,H2,I2,.cons r1 r2,q2⟩
def Ny(t:TA):TE:=λZ H Q=>t Z H λxs H1=>xs.length<=sizeLine/\∀p,H1 p=none->Q (.ref p) (upd H1 p (.tup xs))
def Nr(t:TA):TE:=λZ H Q=>t Z H λxs H1=>xs.length<=sizeLine/\∀p,H1 p=none->Q (.ref p) (upd H1 p (.lst xs))
def ω{x1}(h:PA X es t):PE X (.Tuple es x1 pos) (Ny t):=by
 intro ae s Z H Q I hq;refine wpAny_Tuple_spliced (cL (h pos ae s Z H _ I hq) λus s1 ⟨xs,H1,I1,r,z,q⟩=>⟨by rw[<-r.length];exact z,?_⟩)
 have hf:H1 s1.heap.objs.size=none:=I1.cX.fresh (cP _);refine⟨.ref s1.heap.objs.size,upd H1 s1.heap.objs.size (.tup xs),I1.laid (t':=s1.toks) (λb u e=>jN _ e) (cP _) ?_,rfl,q _ hf⟩
 exact⟨z,us,r,⟨_,oP _ rfl,rfl,_,rfl⟩⟩
def e4v(h:PA X es t):PE X (.List es pos) (Nr t):=by
 intro ae s Z H Q I hq;refine wpAny_List_spliced (cL (h pos ae s Z H _ I hq) λus s1 ⟨xs,H1,I1,r,z,q⟩=>⟨by rw[<-r.length];exact z,?_⟩)
 have hf:H1 s1.heap.objs.size=none:=I1.cX.fresh (cP _);refine⟨.ref s1.heap.objs.size,upd H1 s1.heap.objs.size (.lst xs),I1.laid (t':=s1.toks) (λb u e=>jN _ e) (cP _) ?_,rfl,q _ hf⟩
 exact⟨z,us,0,r,oP _ rfl⟩
end
abbrev Sp:=List V->Hp->VK->XK->Prop
abbrev qF:=List Env->Hp->az->XK->aq->az->Prop
structure uS (P:fO) (w:eK) (K:FG) (mg:Str->ao aq) (base:cS) (A:dZ) (outer:List Env) (s:az) (H:Hp):Prop where
 frames:A.frames=some outer
 mod:Mod K mg base
 bs:∀b o,base.get? b=some o->s.heap.get? b=some o/\H b=none
 wJ:base.objs.size<=s.heap.objs.size
 kW:s.heap.FunFrames base outer
 Ao:∀b∈rF outer,H b=none
 cX:kO P w H s.heap
 bare:AllBare s.gens
def CE(outer:List Env)(P:fO)(w:eK)(H:Hp)(s:az)(Q:VK)(u:aq)(s':az):Prop:=
 ∃v H',s'.os=s.os/\AllBare s'.gens/\Un (rF outer) [] H H' s.heap s'.heap/\kO P w H' s'.heap/\RelV v u/\Q v H'
def CR(CX:qF)(outer:List Env)(P:fO)(w:eK)(H:Hp)(s:az)(Q:VK)(E:XK)(r:Result)(s':az):Prop:=
 match r with
 |.ok (.ret u)=>CE outer P w H s Q u s'
 |.ok _=>False
 |.error e=>CX outer H s E e s'
structure bR (P:fO) (w:eK) (K:FG) (mg:Str->ao aq) (base:cS) (CX:qF) (k:Nat) (f:ak) (fd:lY) (ps:List Str) (sp:Sp):Prop where
 len:∀vs H Q E,sp vs H Q E->vs.length=ps.length
 run:∀(A:dZ) (outer:List Env) (s:az) (H:Hp) (args:Args) (us:List aq) (vs:List V) (Q:VK) (E:XK),eG k A->uS P w K mg base A outer s H->BindsTo s fd args (ps.zip us)->Vals vs us->sp vs H Q E->
  codeAny (model P w) A (.call (.ref f) args) (CR CX outer P w H s Q E) s
def bR.imp{P:fO}{w:eK}{K:FG}{mg:Str->ao aq}{base:cS}{CX:qF}{k:Nat}{f:ak}{fd:lY}{ps:List Str}{sp Uc:Sp}(F:bR P w K mg base CX k f fd ps sp)
  (h:∀vs H Q E,Uc vs H Q E->sp vs H Q E):bR P w K mg base CX k f fd ps Uc:=
 ⟨λvs H Q E q=>F.len vs H Q E (h _ _ _ _ q),λA outer s H args us vs Q E hr he hb hv hs=>F.run A outer s H args us vs Q E hr he hb hv (h _ _ _ _ hs)⟩
section
variable{X:Cx}{ae:List (ak×Obj)}{Z:St}{H:Hp}{s s':az}
def Inv.LN(I:Inv X ae Z H s):uS X.prog X.w X.K X.mg X.base X.A X.stack s H:=
 ⟨I.ok.frames,I.ok.mod,I.bs,nD I.ok.wJ I.sz,I.stack,I.qz,I.cX,I.bare⟩
def Inv.after{Q:VK}{u:aq}(I:Inv X ae Z H s)(h:CE X.stack X.prog X.w H s Q u s'):EP X ae Z Q u s':=by
 obtain⟨v,H',os,bare,un,cX,r,q⟩:=h;obtain⟨hh,g,d,t,y0⟩:=s';obtain rfl:y0=s.os:=os;exact⟨v,H',I.call (h':=hh) (g':=g) (d':=d) (t':=t) (ch:=[]) un cX bare (λb z=>bZ z (by simp)),r,q⟩
end
def qA(sp:Sp)(wQ:List V)(E:XK)(t:TA):TE:=λZ H Q=>t Z H λvs H1=>sp (vs++wQ) H1 Q E
def Binds(K:FG)(fd:lY)(ps:List Str)(ds:List aq):Prop:=
 ∀(s:az) (us:List aq),K.In s.heap->(us++ds).length=ps.length->BindsTo s fd ⟨us,[]⟩ (ps.zip (us++ds))
def Binds.all{K:FG}{fd:lY}{ps:List Str}(h:∀us:List aq,us.length=ps.length->bindArgs fd ⟨us,[]⟩=pure (ps.zip us)):Binds K fd ps []:=λs us _ hl=>by
 rw[jq] at hl ⊢;exact .of_eq (h us hl)
def Kz(CX:qF)(X:Cx)(E:XK):Prop:=∀(ae:List (ak×Obj)) (Z:St) (H:Hp) (s:az) (e:aq) (s':az),Inv X ae Z H s->CX X.stack H s E e s'->X.xe e s'
section
variable{X:Cx}{CX:qF}{k:Nat}{f C:ak}{fd:lY}{ps:List Str}{sp:Sp}{wQ:List V}{ds:List aq}{E:XK}{x m:Str}{p pos apos:Pos}{e o:Expr}{es:List Expr}{ta:TE}{t:TA}
def e4w{ae:List (ak×Obj)}{Z:St}{H:Hp}{s:az}{Q:VK}{us:List aq}{vs:List V}(F:bR X.prog X.w X.K X.mg X.base CX k f fd ps sp)(hr:eG k X.A)(hb:Binds X.K fd ps ds)(hd:Vals wQ ds)(hx:Kz CX X E)
  (I:Inv X ae Z H s) (r:Vals vs us) (h:sp (vs++wQ) H Q E):wpAny (model X.prog X.w) X.A (call (.ref f) us) (EP X ae Z Q) X.xe s:=by
 have r2:Vals (vs++wQ) (us++ds):=r.append hd;have hl:(us++ds).length=ps.length:=by rw[<-r2.length];exact F.len _ _ _ _ h
 refine wpAny_call (codeAny_mono (F.run X.A X.stack s H ⟨us,[]⟩ (us++ds) (vs++wQ) Q E hr I.LN (hb s us I.AI hl) r2 h) λr s' hq=>?_)
 cases r with
 |error e=>exact hx ae Z H s e s' I hq
 |ok fl=>
  cases fl with
  |ret u=>exact I.after hq
  |next=>exact False.elim hq
  |brk=>exact False.elim hq
  |cont=>exact False.elim hq
def Ym(F:bR X.prog X.w X.K X.mg X.base CX k f fd ps sp)(hr:eG k X.A)(hg:Gl X x)(hm:X.mg x=some (.ref f))(hk:PySem.W.keepIn X.K (.ref f)=true)(hb:Binds X.K fd ps ds)(hd:Vals wQ ds)(hx:Kz CX X E)
  (ha:PA X (e::es) t) (pD:(x == ("__debug__":Str))=false:=by decide) (he:starEach (e::es) X.env=(false,eval e X.env)::starEach es X.env:=by rfl) (ka:(backTo pos (starEach es X.env)).any (·.1)=false:=by rfl) :
  PE X (.Call (.Name x p) (e::es) [] pos) (qA sp wQ E t):=by
 intro ae s Z H Q I h;refine wpAny_Call_Name_kw (Qr I hg hm ?_ pD);refine PySem.W.callWith_K (h₀:=X.base) I.ok.mod.MJ hk (cL (ha pos ae s Z H _ I h) λus s1 ⟨vs,H1,I1,r,q⟩=>⟨I1.AI,?_⟩) he ka
 exact e4w F hr hb hd hx I1 r q
structure Mk (K:FG) (C f:ak):Prop where
 makes:PySem.W.makesIn K C=true
 init:PySem.W.findIn K (.ref C) "__init__"=some (some (.ref f))
 fn:PySem.W.isFn K (.ref f)=true
 kp:PySem.W.keepIn K (.ref C)=true
end
section
variable{X:Cx}{CX:qF}{k:Nat}{f C:ak}{fd:lY}{ps ks:List Str}{sp:Sp}{E:XK}{x m:Str}{p pos apos kpos:Pos}{e o:Expr}{es:List Expr}{kws:List Keyword}{te ta:TE}{t tk:TA}{nm:ao Str}
structure KBinds (K:FG) (fd:lY) (ps ks:List Str) (g:List aq->List aq->List aq) (gV:List V->List V->List V):Prop where
 to:∀(s:az) (us ws:List aq),K.In s.heap->(g us ws).length=ps.length->BindsTo s fd ⟨us,ks.zip ws⟩ (ps.zip (g us ws))
 rel:∀{vs:List V} {us:List aq} {zs:List V} {ws:List aq},Vals vs us->Vals zs ws->Vals (gV vs zs) (g us ws)
variable{g:List aq->List aq->List aq}{gV:List V->List V->List V}
end
structure aJ (N P:List Str) (sc:Scope):Prop where
 kind:sc.kind=.function
 co:sc.isCoroutine=false
 gen:sc.isGenerator=false
 nd:N.Nodup
 pre:N.take P.length=P
 par:∀x∈P,sc.names.lookup x=some .local \/ sc.names.lookup x=some .cell
 yS:∀y∈sc.names,y.2≠.free
theorem OU{kindOf:Str->ao pX}{x:Str}:∀{binds:List (Str×aq)} {m:Str->ao aq},(∀v,(x,v)∉binds)->bindL kindOf binds m x=m x
 |[],_,_=>rfl
 |(n,v)::r,m,h=>by
  unfold bindL;rw[OU λw hw=>h w (oO _ hw)]
  split
  .have:x≠n:=by rintro rfl;exact h v nE
   simp[this]
  .rfl
theorem OV{kindOf:Str->ao pX}{x:Str}:∀{binds:List (Str×aq)} {m:Str->ao aq},(∀v,(x,v)∉binds)->bindC kindOf binds m x=m x
 |[],_,_=>rfl
 |(n,v)::r,m,h=>by
  unfold bindC;rw[OV λw hw=>h w (oO _ hw)]
  split
  .rfl
  .have:x≠n:=by rintro rfl;exact h v nE
   simp[this]
theorem OW{kindOf:Str->ao pX}{x:Str}{v:aq}:∀{P:List Str} {vs:List aq} {i:Nat} {m:Str->ao aq},P.Nodup->P[i]?=some x->vs[i]?=some v->kindOf x=some .local ->
  bindL kindOf (P.zip vs) m x=some v
 |[],_,_,_,_,h,_,_=>by simp at h
 |_::_,[],_,_,_,_,h,_=>by simp at h
 |p::P,w::vs,0,m,nd,h1,h2,hk=>by
  simp at h1 h2;subst h1;subst h2;show bindL kindOf ((p,w)::P.zip vs) m p=_;unfold bindL;rw[OU λv hv=>(ib.mp nd).1 (List.of_mem_zip hv).1,aU hk]
  simp
 |p::P,w::vs,i+1,m,nd,h1,h2,hk=>by
  show bindL kindOf ((p,w)::P.zip vs) m x=_;unfold bindL;exact OW (i:=i) (ib.mp nd).2 (by simpa using h1) (by simpa using h2) hk
theorem OX{kindOf:Str->ao pX}{x:Str}{v:aq}:∀{P:List Str} {vs:List aq} {i:Nat} {m:Str->ao aq},P.Nodup->P[i]?=some x->vs[i]?=some v->kindOf x≠some .local ->
  bindC kindOf (P.zip vs) m x=some v
 |[],_,_,_,_,h,_,_=>by simp at h
 |_::_,[],_,_,_,_,h,_=>by simp at h
 |p::P,w::vs,0,m,nd,h1,h2,hk=>by
  simp at h1 h2;subst h1;subst h2;show bindC kindOf ((p,w)::P.zip vs) m p=_;unfold bindC;rw[OV λv hv=>(ib.mp nd).1 (List.of_mem_zip hv).1,aY hk]
  simp
 |p::P,w::vs,i+1,m,nd,h1,h2,hk=>by
  show bindC kindOf ((p,w)::P.zip vs) m x=_;unfold bindC;exact OX (i:=i) (ib.mp nd).2 (by simpa using h1) (by simpa using h2) hk
noncomputable def start(N:List Str)(vs:List V):St:=vs.map some++List.replicate (N.length - vs.length) none
noncomputable def mO(CX:qF)(P:fO)(w:eK)(K:FG)(mg:Str->ao aq)(base:cS)(N:List Str)(qual:Str)(scope:Scope)(f:ak)(cd:aq)(A:dZ)(outer:List Env)(s:az)(H:Hp)(E:XK):Cx where
 prog:=P
 w:=w
 K:=K
 mg:=mg
 base:=base
 A:=A.deeper (envOfC qual scope s.heap.objs.size f cd)
 N:=N
 s₀:=s
 H₀:=H
 env:=envOfC qual scope s.heap.objs.size f cd
 outer:=outer
 stack:=envOfC qual scope s.heap.objs.size f cd::outer
 ex:=[]
 calm:=true
 fn:=λ_=>true
 pn:=[]
 xe:=λe s'=>wpAny (model P w) (A.deeper (envOfC qual scope s.heap.objs.size f cd)) (leaving (envOfC qual scope s.heap.objs.size f cd) e) (λ_ DW=>CX outer H s E e DW) (λe' DW=>CX outer H s E e' DW) s'
def PH{sc:Scope}{n:Nat}{x:Str}(h:sc.names.lookup x=some .cell):∃c,(cellsFrom n sc.names []).lookup x=some c:=by
 have q:=PySem.W.cellsFrom_some sc.names n [] (.inl h);exact NL.mp q
def VE{CX:qF}{P:fO}{w:eK}{K:FG}{mg:Str->ao aq}{base:cS}{N ps:List Str}{qual:Str}{scope:Scope}{f:ak}{cd:aq}{A:dZ}{outer:List Env}{s s1:az}{H:Hp}{E:XK}{us:List aq}{vs:List V}
  (S:aJ N ps scope) (hd:A.handled=none) (e0:uS P w K mg base A outer s H) (hl:vs.length=ps.length) (r:Vals vs us)
  (x:InCallC s s.heap.objs.size (bindL (envOfC qual scope s.heap.objs.size f cd).kindOf (ps.zip us) λ_=>none) (cellsFrom (s.heap.objs.size+1) scope.names []) (bindC (envOfC qual scope s.heap.objs.size f cd).kindOf (ps.zip us) λ_=>none) s1) :
  Inv (mO CX P w K mg base N qual scope f cd A outer s H E) [] (start N vs) H s1:=by
 have ka:ps.length<=N.length:=by have:=congrArg List.length S.pre;rw[pU] at this;lia
 obtain⟨h1,tk,rfl,hk⟩:=x.done;have DD:∀b:ak,b∉(mO CX P w K mg base N qual scope f cd A outer s H E).ex:=λb z=>bZ (show b∈([]:List ak) from z) (by simp)
 refine⟨⟨e0.mod,S.kind,rfl,rfl,cP _,λy z c h1 h2=>?_,λy hy=>?_,λy c _ h=>?_,λ_=>hd,Around.frames_deeper e0.frames,.inr ⟨rfl,rfl⟩,λb z=>bZ z (DD b),e0.bs,e0.wJ,λb _ _=>DD b,λb z=>bZ z (DD b),e0.kW,e0.Ao⟩,rfl,e0.bare,Un.kept hk,⟨_,x.toInCall.ns,λi y v h1 h2 h3=>?_⟩,λy c h=>⟨_,x.cell y c h⟩,e0.cX.fresh (cP _),λy c h=>?_,λp hp=>bZ (show p∈([]:List (ak×Obj)) from hp) (by simp),e0.cX.kept hk,?_⟩
 .exact name_of_addr x.apart (PySem.mem_of_lookup h1) (PySem.mem_of_lookup h2)
 .have hy:scope.names.lookup y=some .cell\/scope.names.lookup y=some .free:=hy;rcases hy with hy|hy
  .exact PH hy
  .exact bZ rfl (S.yS _ (PySem.mem_of_lookup hy))
 .exact Nat.le_of_lt (x.above y c (PySem.mem_of_lookup h))
 .have hi:i<vs.length:=by
   unfold start at h2;by_cases hi:i<vs.length
   .exact hi
   .rw[zi (by simpa using hi)] at h2
    rw[List.getElem?_replicate] at h2;split at h2 <;> cases h2
  have ha:vs[i]?=some v:=by
   unfold start at h2;rw[xB (by simpa using hi),jO] at h2
   cases e:vs[i]? with
   |none=>rw[e] at h2;cases h2
   |some a=>rw[e] at h2;cases h2;rfl
  obtain⟨u,hu,rv⟩:=r.get ha;have hp:ps[i]?=some y:=by
   rw[<-S.pre,List.getElem?_take_of_lt (by lia)];exact h1
  have TY:ps.Nodup:=by rw[<-S.pre];exact S.nd.sublist (List.take_sublist _ _)
  refine⟨u,rv,?_⟩;rcases S.par y (kL hp) with k|k
  .exact .inl ⟨k,OW TY hp hu k⟩
  .obtain⟨c,e⟩:=PH (n:=s.heap.objs.size+1) k;refine .inr ⟨.inl k,c,e,?_⟩;have q:=x.cell y c e;rw[OX TY hp hu (by show scope.names.lookup y≠_;rw[k];decide)] at q
   exact q
 .exact e0.cX.fresh (Nat.le_of_lt (x.above y c (PySem.mem_of_lookup h)))
 .unfold start;show _=N.length;rw[du,bK,List.length_replicate];lia
def e8x{CX:qF}{P:fO}{w:eK}{K:FG}{mg:Str->ao aq}{base:cS}{k:Nat}{f:ak}{name qual:Str}{params:Arguments}{body:List Stmt}{scope:Scope}{dV kV doc pm gp ct oc:aq}{an od:ao ak}
  {osl:Array (ao aq)} {N ps:List Str} {sp:Sp} (lk:K.lookup f=some ⟨oc,od,.func (PySem.W.fnOf name qual params body scope dV kV doc pm an gp ct),osl⟩) (qQ:PySem.W.codeIn K gp qual=true) (S:aJ N ps scope)
  (len:∀vs H Q E,sp vs H Q E->vs.length=ps.length)
  (kX:∀(A:dZ) (outer:List Env) (s:az) (H:Hp) (vs:List V) (Q:VK) (E:XK),eG k (A.deeper (envOfC qual scope s.heap.objs.size f gp))->sp vs H Q E-> ∃t,hU (mO CX P w K mg base N qual scope f gp A outer s H E) body t/\t { nx:=λ_ H'=>Q .bL H',rt:=Q} (start N vs) H) :
  bR P w K mg base CX (k+1) f (PySem.W.fnOf name qual params body scope dV kV doc pm an gp ct) ps sp:=by
 refine⟨len,λA outer s H args us vs Q E hr e0 hb r w9=>?_⟩
 have hl:=len _ _ _ _ w9;have KX:K.In s.heap:=e0.mod.MJ.keeps λb o e=>(e0.bs b o e).1
 have lim:s.heap.NoLimit:=e0.mod.nolimit.keeps λb o e=>(e0.bs b o e).1
 have Dj:∀y∈ps.zip us,scope.names.lookup y.1=some .local \/ (scope.names.lookup y.1=some .cell/\((cellsFrom (s.heap.objs.size+1) scope.names []).lookup y.1).isSome=true):=λ⟨n,v⟩ hy=>by
  rcases S.par n (List.of_mem_zip hy).1 with q|q
  .exact .inl q
  .exact .inr ⟨q,PySem.W.cellsFrom_some _ _ _ (.inl q)⟩
 refine codeAny_call_function hr.depth (KX _ _ lk) rfl S.co S.gen rfl (PySem.W.codeRec_of KX qQ) (hb _ _ _ _ ?_);refine wpAny_newFunctionEnv_cells S.kind Dj λenv he s1 x=>?_
 subst he;refine⟨lim.keeps x.toInCall.keep,codeAny_func ?_⟩;obtain⟨t,ht,hq⟩:=kX A outer s H vs Q E (hr.deeper _) w9;have I:Inv (mO CX P w K mg base N qual scope f gp A outer s H E) [] (start N vs) H s1:=VE S hr.hd e0 hl r x;refine wpAny_mono (ht [] s1 (start N vs) H _ I hq) (λfl s' hs=>?_) λe s' hs=>hs
 have fin:∀{Z':St} {H':Hp} {v:V} {u:aq},Inv (mO CX P w K mg base N qual scope f gp A outer s H E) [] Z' H' s'->RelV v u->Q v H'->CE outer P w H s Q u s':=
  λ{Z' H' v u} J rv q=>⟨v,H',J.os,J.bare,J.base,J.cX,rv,q⟩
 cases fl with
 |ret u=>
  obtain⟨v,Z',H',J,rv,q⟩:=hs;exact fin J rv q
 |next=>
  obtain⟨Z',H',J,q⟩:=hs;exact fin (v:=V.bL) (u:=Value.none) J rfl q
 |brk=>
  obtain⟨_,_,_,q⟩:=hs;exact False.elim q
 |cont=>
  obtain⟨_,_,_,q⟩:=hs;exact False.elim q
section
variable{X:Cx}{x:Str}{p pos:Pos}{e:Expr}{es:List Expr}{t:TA}{id T:String}{r:List V->Hp->VK->Prop}
def Nn(r:List V->Hp->VK->Prop)(t:TA):TE:=λZ H Q=>t Z H λvs H1=>r vs H1 Q
def PJ(hc:cY X (.builtin id) r)(hg:Gl X x)(hm:X.mg x=none)(hv:bootBuiltins x=some (.builtin id))(ha:PA X (e::es) t)(hn:x≠"__name__":=by decide)(pD:(x == ("__debug__":Str))=false:=by decide)
  (he:starEach (e::es) X.env=(false,eval e X.env)::starEach es X.env:=by rfl) (ka:(backTo pos (starEach es X.env)).any (·.1)=false:=by rfl):PE X (.Call (.Name x p) (e::es) [] pos) (Nn r t):=by
 intro ae s Z H Q I h;refine wpAny_Call_Name_kw (wt I hg hm hv ?_ hn pD);exact PyProof.Rows.callWith_builtin1 (cL (ha pos ae s Z H _ I h) λus s1 ⟨vs,H1,I1,r1,q1⟩=>hc ae s1 Z H1 vs us Q I1 r1 q1) he ka
def VF(hc:cY X (.type T) r)(hg:Gl X x)(hm:X.mg x=none)(hv:bootBuiltins x=some (.type T))(ha:PA X (e::es) t)(hn:x≠"__name__":=by decide)(pD:(x == ("__debug__":Str))=false:=by decide)
  (he:starEach (e::es) X.env=(false,eval e X.env)::starEach es X.env:=by rfl) (ka:(backTo pos (starEach es X.env)).any (·.1)=false:=by rfl):PE X (.Call (.Name x p) (e::es) [] pos) (Nn r t):=by
 intro ae s Z H Q I h;refine wpAny_Call_Name_kw (wt I hg hm hv ?_ hn pD);exact PyProof.Rows.callWith_type1 (cL (ha pos ae s Z H _ I h) λus s1 ⟨vs,H1,I1,r1,q1⟩=>hc ae s1 Z H1 vs us Q I1 r1 q1) he ka
end
end L2
namespace HT
open PySem PyProof.Rows
section
open PySem.SeqAt
open PySem.AutoSeq1 (wpAny_loadPart')
open PySem.MeetsSeq PySem.MeetsSeq2 PySem.MeetsSeq3
end
variable{t sl:ak}{Q:aq->az->Prop}{vl vu:aq}{lo hi:ao Int}
section
variable{prog:fO}{w:eK}{A:dZ}{E:aq->az->Prop}{s:az}
def va{b:ak}{vs ws:List aq}(ht:IsTup s.heap t vs.toArray)(hb:IsTup s.heap b ws.toArray)(hv:vs≠[])
  (h1:ws=[]->Q (.ref t) s) (h2:ws≠[]->Q (.ref s.heap.objs.size) { s with heap:=s.heap.push { cls:=.type "tuple",data:=.seq (vs++ws).toArray}})
  (hsz:vs.length+ws.length<=sizeLine):wpAny (model prog w) A (binaryOp .Add (.ref t) (.ref b)) Q E s:=by
 obtain⟨⟨cls,dd,data,sl⟩,ho,hc,n,hd⟩:=id ht;obtain⟨⟨KY,wM,data2,HZ⟩,yI,Dc,n2,hd2⟩:=id hb;simp only at hc hd Dc hd2;subst hc hd Dc hd2;have e:vs.toArray++ws.toArray=(vs++ws).toArray:=by simp
 by_cases hw:ws=[]
 .exact concat_meets ⟨_,ho,rfl⟩ ⟨_,yI,rfl⟩ noFill_tuple_add seq_tuple_add PySem.F.slot_tuple_add PySem.F.entry_tuple_add (PySem.F.args_tuple_add_2 _ _)
   (tuple_addW1 t b vs.toArray ws.toArray n n2 dd wM sl HZ (by simpa using hv) (by simp[hw])) ⟨ho,yI,h1 hw⟩
 .refine concat_meets ⟨_,ho,rfl⟩ ⟨_,yI,rfl⟩ noFill_tuple_add seq_tuple_add PySem.F.slot_tuple_add PySem.F.entry_tuple_add (PySem.F.args_tuple_add_2 _ _)
   (tuple_addW2 t b vs.toArray ws.toArray n n2 dd wM sl HZ (by simpa using hv) (by simpa using hw) (by rw[fI,fI];exact hsz)) ⟨ho,yI,?_⟩
  rw[e];exact h2 hw
noncomputable def dA(n d:Nat):ao Int->Nat
 |none=>d
 |some v=>if v<0 then(v+(n:Int)).toNat else min v.toNat n
def e4x(n d:Nat)(hd:d<=n)(o:ao Int):dA n d o<=n:=by
 cases o with
 |none=>exact hd
 |some v=>
  show(if v<0 then(v+(n:Int)).toNat else min v.toNat n)<=n
  by_cases hv:v<0
  .rw[aU hv];lia
  .rw[aY hv];exact Nat.min_le_right _ _
def Qv(v:Int)(n d:Nat):(if v<0 then max (v+(n:Int)) 0 else min v (n:Int))=((dA n d (some v):Nat):Int):=by
 show(if v<0 then max (v+(n:Int)) 0 else min v (n:Int))=(((if v<0 then(v+(n:Int)).toNat else min v.toNat n):Nat):Int)
 by_cases hv:v<0
 .simp only[aU hv];lia
 .simp only[aY hv];lia
def U9(lo hi:ao Int)(n:Nat):Builtin.Slice.sliceAdjust lo hi 1 (n:Int)=(((dA n 0 lo:Nat):Int),((dA n n hi:Nat):Int)):=by
 have h1:¬((1:Int)<0):=by lia
 unfold Builtin.Slice.sliceAdjust;simp only[h1,ck];refine Prod.ext ?_ ?_
 .cases lo with
  |none=>rfl
  |some v=>exact Qv v n 0
 .cases hi with
  |none=>rfl
  |some v=>exact Qv v n n
def U_(i j:Nat):Builtin.Slice.slicePlaces (i:Int) (j:Int) 1=j - i:=by
 unfold Builtin.Slice.slicePlaces;have h1:(1:Int) > 0:=by lia
 simp only[h1,bc,Int.ediv_one];split <;> lia
def Ox{v:aq}{o:ao Int}{Q:ao Int->az->Prop}(p:IsPart v o)(h:Q o s):wpAny (model prog w) A (Builtin.Slice.slicePartIndex v) Q E s:=by
 cases p with
 |none=>exact slicePart_none h
 |int i t=>exact slicePart_int h
def UD{n:Nat}{Q:Int×Int×Nat->az->Prop}(hs:s.heap.IsSliceOf sl vl vu .none)(pl:IsPart vl lo)(pu:IsPart vu hi)
  (h:Q (((dA n 0 lo:Nat):Int),1,dA n n hi - dA n 0 lo) s):wpAny (model prog w) A (Builtin.Slice.sliceApplied (.ref sl) (pure (n:Int))) Q E s:=by
 obtain⟨os,Dl,Tr,Hy⟩:=id hs;unfold Builtin.Slice.sliceApplied Builtin.Slice.sliceFields;refine aI (aI (wpAny_field Dl Hy (x:=vl) rfl (aI (wpAny_field Dl Hy (x:=vu) rfl (aI (wpAny_field Dl Hy (x:=.none) rfl (bz ?_)))))));refine aI (slicePart_none ?_);show wpAny _ _ (if((1:Int) == 0)=true then _ else _) _ _ s
 rw[aY (by decide)]
 refine aI (Ox pl (aI (Ox pu (aI (bz ?_)))));show wpAny _ _ (match Builtin.Slice.sliceAdjust lo hi 1 (n:Int) with|(lo,hi)=>pure (lo,(1:Int),Builtin.Slice.slicePlaces lo hi 1)) _ _ s
 rw[U9 lo hi n];show wpAny _ _ (pure (((dA n 0 lo:Nat):Int),(1:Int),Builtin.Slice.slicePlaces ((dA n 0 lo:Nat):Int) ((dA n n hi:Nat):Int) 1)) _ _ s;rw[U_];exact bz h
def WR(xs:Array aq)(i k:Nat):((List.range k).filterMap λ(m:Nat)=>xs[((i:Int)+(m:Int)*1).toNat]?).toArray=((xs.toList.drop i).take k).toArray:=by
 have e:(λ(m:Nat)=>xs[((i:Int)+(m:Int)*1).toNat]?)=λm=>xs[i+m]?:=by
  funext m;have:((i:Int)+(m:Int)*1).toNat=i+m:=by lia
  rw[this]
 rw[e];have:=pick_run xs i k;rw[List.filterMap_map] at this;have e2:((λx=>xs[x]?)∘λx=>i+x)=λm=>xs[i+m]?:=rfl
 rw[e2] at this;rw[this]
def jy{items:Array aq}(ht:IsTup s.heap t items)(hs:s.heap.IsSliceOf sl vl vu .none)(pl:IsPart vl lo)(pu:IsPart vu hi)
  (hw:¬(dA items.size 0 lo=0/\dA items.size items.size hi=items.size))
  (h:Q (.ref s.heap.objs.size) { s with heap:=s.heap.push { cls:=.type "tuple",data:=.seq ((items.toList.drop (dA items.size 0 lo)).take (dA items.size items.size hi - dA items.size 0 lo)).toArray}})
  (hsz:items.size<=sizeLine):wpAny (model prog w) A (getItem (.ref t) (.ref sl)) Q E s:=by
 have qr:sizeOk (.seq ((items.toList.drop (dA items.size 0 lo)).take (dA items.size items.size hi - dA items.size 0 lo)).toArray):=by
  show((items.toList.drop (dA items.size 0 lo)).take (dA items.size items.size hi - dA items.size 0 lo)).toArray.size<=sizeLine;rw[fI,pU,vW,uN];lia
 have hj:dA items.size items.size hi<=items.size:=e4x _ _ (cP _) hi;obtain⟨os,Dl,Tr,Hy⟩:=id hs;have hTs:s.TypeIs (.ref sl) "slice":=⟨os,Dl,Tr⟩;unfold getItem;try with_reducible refine nI ?_
 first|refine aI (bz ?_)|skip
 refine aI (wpAny_sequenceKey ht.typeIs (by decide) ?_)
 refine aI (wpAny_callSpecial?_slot (name:=Str.ofString "__getitem__") ht.typeIs PyProof.Rows.slot_tuple_getitem (wpAny_call_entry PyProof.Rows.slot_tuple_getitem ht.typeIs entry_tuple_getitem ?_ (args_tuple_getitem _ _)))
 show wpAny _ _ (Builtin.Tuple.tupleItemsOf (.ref t) >>= _) _ _ s;refine aI (tupleItemsOf_ ht ?_);refine aI (wpAny_typeOf hTs ?_);rw[aU (by decide)]
 refine aI (UD hs pl pu ?_);have uI:¬((((dA items.size 0 lo:Nat):Int) == 0&&(1:Int) == 1&&(dA items.size items.size hi - dA items.size 0 lo) == items.size)=true):=by
  intro q;rw[mG,mG] at q;have q1:((dA items.size 0 lo:Nat):Int)=0:=eq_of_beq q.1.1;have q2:dA items.size items.size hi - dA items.size 0 lo=items.size:=eq_of_beq q.2;exact hw ⟨by lia,by lia⟩
 show wpAny _ _ (if(((dA items.size 0 lo:Nat):Int) == 0&&(1:Int) == 1&&(dA items.size items.size hi - dA items.size 0 lo) == items.size)=true then _ else _) _ _ s
 rw[aY uI,WR];first
  |exact aI (m:=Builtin.Tuple.tupleExact _) (wpAny_newObj_type (bz ⟨_,rfl,bz h⟩) qr)
  |exact aI (m:=Builtin.Tuple.tupleExact _) (wpAny_newObj_type (aI (bz (bz ⟨_,rfl,bz h⟩))) qr)
  |exact aI (aI (m:=Builtin.Tuple.tupleExact _) (wpAny_newObj_type (bz (bz ⟨_,rfl,bz h⟩)) qr))
  |exact aI (aI (m:=Builtin.Tuple.tupleExact _) (wpAny_newObj_type (bz ⟨_,rfl,bz h⟩) qr))
end
end HT
namespace L2
open PySem PySem.Spec PyProof.Rows
variable{r:V->ao Int->ao Int->Hp->VK->Prop}{xs:List V}{us aG its':List aq}{n j t':Nat}{i:Int}{ae:List (ak×Obj)}{Z:St}{H:Hp}{s:az}{x:V}
abbrev TO:=St->Hp->(ao Int->Hp->Prop)->Prop
def PO(X:Cx)(e:ao Expr)(t:TO):Prop:=
 ∀(ae:List (ak×Obj)) (s:az) (Z:St) (H:Hp) (Q:ao Int->Hp->Prop),Inv X ae Z H s->t Z H Q->
  wpAny (model X.prog X.w) X.A (evalPart e X.env) (λu s'=>∃o H',Inv X ae Z H' s'/\IsPart u o/\Q o H') X.xe s
def Yn:TO:=λ_ H Q=>Q none H
def Ee(t:TE):TO:=λZ H Q=>t Z H λx H1=>∃i,x=.int i/\Q (some i) H1
section
variable{X:Cx}{e:Expr}{te:TE}{lo hi:ao Expr}{tl th:TO}{pos p2:Pos}
def Yo:PO X none Yn:=by
 intro ae s Z H Q I h;rw[evalPart_none];exact bz ⟨none,H,I,.none,h⟩
def Yp(h:PE X e te):PO X (some e) (Ee te):=by
 intro ae s Z H Q I hw;rw[evalPart_some];refine cL (h ae s Z H _ I hw) λu s1 hh=>?_
 obtain⟨x,H1,I1,r1,q1⟩:=hh;obtain⟨i,rfl,q⟩:=q1;obtain⟨t,rfl⟩:=r1;exact⟨some i,H1,I1,.int i t,q⟩
def rQ(X:Cx)(r:V->ao Int->ao Int->Hp->VK->Prop):Prop:=
 ∀(ae:List (ak×Obj)) (s:az) (Z:St) (H:Hp) (x:V) (v vl vu:aq) (lo hi:ao Int) (sl:ak) (Q:VK),Inv X ae Z H s->RelV x v->s.heap.IsSliceOf sl vl vu .none->IsPart vl lo->IsPart vu hi->r x lo hi H Q->
  ∃T id,typeLookup (.type T) "__getitem__"=pure (some (.builtin id))/\s.TypeIs v T/\wpAny (model X.prog X.w) X.A (getItem v (.ref sl)) (EP X ae Z Q) X.xe s
def rQ.or{r':V->ao Int->ao Int->Hp->VK->Prop}(h:rQ X r)(h':rQ X r'):rQ X (λx lo hi H Q=>r x lo hi H Q\/r' x lo hi H Q):=by
 intro ae s Z H x v vl vu lo hi sl Q I rx hs pl pu q;rcases q with q|q
 .exact h ae s Z H x v vl vu lo hi sl Q I rx hs pl pu q
 .exact h' ae s Z H x v vl vu lo hi sl Q I rx hs pl pu q
def tSl(r:V->ao Int->ao Int->Hp->VK->Prop)(te:TE)(tl th:TO):TE:=λZ H Q=>te Z H λx H1=>tl Z H1 λl H2=>th Z H2 λu H3=>r x l u H3 Q
def WS(hr:rQ X r)(he:PE X e te)(hl:PO X lo tl)(hu:PO X hi th):PE X (.Subscript e (.Slice lo hi none p2) pos) (tSl r te tl th):=by
 intro ae s Z H Q I h;refine Subscript_ (cL (he ae s Z H _ I h) λv s1 hh=>?_)
 obtain⟨x,H1,I1,r1,q1⟩:=hh;refine wpAny_Slice (cL (hl ae s1 Z H1 _ I1 q1) λvl s2 ⟨l,H2,I2,pl,q2⟩=>cL (hu ae s2 Z H2 _ I2 q2) λvu s3 ⟨u,H3,I3,pu,q3⟩=>?_)
 rw[evalPart_none];refine bz ?_;have I4:Inv X ae Z H3 { s3 with heap:=s3.heap.push { cls:=.type "slice",data:=.fields #[vl,vu,.none]}}:=I3.kept (t':=s3.toks) λb ob q=>jN _ q
 obtain⟨T,id,hT,ht,hg⟩:=hr ae { s3 with heap:=s3.heap.push { cls:=.type "slice",data:=.fields #[vl,vu,.none]}} Z H3 x v vl vu l u s3.heap.objs.size Q I4 r1 (Heap.IsSliceOf.new ..) pl pu q3;show wpAny (model X.prog X.w) X.A (subscriptTail e (.Slice lo hi none p2) v (.ref s3.heap.objs.size)) (EP X ae Z Q) X.xe { s3 with heap:=s3.heap.push { cls:=.type "slice",data:=.fields #[vl,vu,.none]}};exact tail_any (ops:=[.ref s3.heap.objs.size,v]) ht hT hg (by with_unfolding_all rfl)
def n_(xs:List V)(lo hi:ao Int):List V:=(xs.drop (HT.dA xs.length 0 lo)).take (HT.dA xs.length xs.length hi - HT.dA xs.length 0 lo)
def Ol(xs:List V)(lo hi:ao Int):(n_ xs lo hi).length<=xs.length:=by
 unfold n_;rw[pU,vW];lia
def y_(K:FG):V->ao Int->ao Int->Hp->VK->Prop:=λx lo hi H Q=>∃a xs,x=.ref a/\fX K H a xs/\
 ¬(HT.dA xs.length 0 lo=0/\HT.dA xs.length xs.length hi=xs.length)/\∀p,H p=none->Q (.ref p) (upd H p (.tup (n_ xs lo hi)))
def e4y:rQ X (y_ X.K):=by
 intro ae s Z H x v vl vu lo hi sl Q I rx hs pl pu h;obtain⟨a,xs,rfl,hx,hw,q⟩:=h;cases rx;obtain⟨aG,r,ht,hz⟩:=I.tuple hx;have hlen:aG.toArray.size=xs.length:=by rw[fI];exact r.length.symm
 refine⟨"tuple",_,PyProof.Rows.slot_tuple_getitem.lookup,ht.typeIs,?_⟩;refine HT.jy ht hs pl pu (by rw[hlen];exact hw) ?_ (by rw[hlen];exact hz)
 rw[hlen];refine⟨.ref s.heap.objs.size,_,I.laid (t':=s.toks) (o:=.tup (n_ xs lo hi)) (λb ob q=>jN _ q) (cP _) ?_,rfl,q _ (I.cX.fresh (cP _))⟩
 exact⟨nD (Ol xs lo hi) hz,_,(r.drop (HT.dA xs.length 0 lo)).take (HT.dA xs.length xs.length hi - HT.dA xs.length 0 lo),IsTup.new _ _⟩
def tP(K:FG):R2:=λx y H Q=>∃a b xs ys,x=.ref a/\y=.ref b/\fX K H a xs/\fX K H b ys/\xs≠[]/\xs.length+ys.length<=sizeLine/\
 (ys=[]->Q (.ref a) H)/\(ys≠[]->∀p,H p=none->Q (.ref p) (upd H p (.tup (xs++ys))))
def Vals.mT(r:Vals xs us):us=[]↔xs=[]:=by
 cases r with
 |nil=>simp
 |cons _ _=>simp
def Yq:f_ X (binaryOp .Add) (tP X.K):=by
 intro ae s Z H x y v u Q I rx ry h;obtain⟨a,b,xs,ys,rfl,rfl,ha,hb,hx,hz,q1,q2⟩:=h;cases rx;cases ry;obtain⟨aG,r1,p1,_⟩:=I.tuple ha;obtain⟨kh,r2,p2,_⟩:=I.tuple hb;refine HT.va p1 p2 (λz=>hx (r1.mT.mp z)) (λz=>⟨.ref a,H,I,rfl,q1 (r2.mT.mp z)⟩) (λz=>?_) (by rw[<-r1.length,<-r2.length];exact hz)
 refine⟨.ref s.heap.objs.size,_,I.laid (t':=s.toks) (o:=.tup (xs++ys)) (λb ob q=>jN _ q) (cP _) ?_,rfl,q2 (λw=>z (r2.mT.mpr w)) _ (I.cX.fresh (cP _))⟩
 exact⟨by rw[du];exact hz,_,r1.append r2,IsTup.new _ _⟩
end
noncomputable def o5(n:Nat)(i:Int):ao Nat:=if 0<=i then(if i<n then some i.toNat else none) else if -(n:Int)<=i then some (i+n).toNat else none
def dq{α:Type}(xs:List α)(i:Int):ao α:=(o5 xs.length i).bind λj=>xs[j]?
def J'(h:o5 n i=some j):seqIndex? i n=some j/\j<n /\ -(n:Int)<=i/\i<n:=by
 unfold o5 at h;by_cases h0:0<=i
 .rw[aU h0] at h;by_cases h1:i<n
  .rw[aU h1] at h;have e:i.toNat=j:=Option.some.inj h;exact⟨by rw[seqIndex_of h0 h1,e],by lia,by lia,h1⟩
  .rw[aY h1] at h;cases h
 .rw[aY h0] at h;by_cases h1:-(n:Int)<=i
  .rw[aU h1] at h;have e:(i+n).toNat=j:=Option.some.inj h;exact⟨by rw[seqIndex_neg (by lia) h1,e],by lia,h1,by lia⟩
  .rw[aY h1] at h;cases h
def Ka{α:Type}{xs:List α}{v:α}(h:dq xs i=some v):∃j,seqIndex? i xs.length=some j/\xs[j]?=some v/\j<xs.length /\ -(xs.length:Int)<=i/\i<xs.length:=by
 unfold dq at h;cases e:o5 xs.length i with
 |none=>rw[e] at h;cases h
 |some j=>
  rw[e] at h;obtain⟨h1,h2,h3,h4⟩:=J' e;exact⟨j,h1,h,h2,h3,h4⟩
def nO{α:Type}{xs:List α}{v:α}(h:xs[j]?=some v):dq xs (j:Int)=some v:=by
 have hj:j<xs.length:=(e_.mp h).1;have e:o5 xs.length (j:Int)=some j:=by
  unfold o5;rw[aU (by lia),aU (by lia)];simp
 unfold dq;rw[e];exact h
def zD(b:Expr):Prop:=∀o i,subscripted b false o i=operate [o,i] (getItem o i)
def qI(X:Cx)(r:R2):Prop:=
 ∀(value slice:Expr) (ae:List (ak×Obj)) (s:az) (Z:St) (H:Hp) (x y:V) (v u:aq) (Q:VK),Inv X ae Z H s->RelV x v->RelV y u->r x y H Q->
  subscripted slice false v u=operate [v,u] (getItem v u)->wpAny (model X.prog X.w) X.A (subscriptTail value slice v u) (EP X ae Z Q) X.xe s
def N_(X:Cx)(id:String)(r:V->List V->Hp->VK->Prop):Prop:=
 ∀(ae:List (ak×Obj)) (s:az) (Z:St) (H:Hp) (x:V) (xs:List V) (v:aq) (us:List aq) (Q:VK),Inv X ae Z H s->RelV x v->Vals xs us->r x xs H Q->
  wpAny (model X.prog X.w) X.A (call (.builtin id) (v::us)) (EP X ae Z Q) X.xe s
section
variable{X:Cx}{a b:Expr}{ta tb:TE}{pos:Pos}
def qI.or{r r':R2}(h:qI X r)(h':qI X r'):qI X (λx y H Q=>r x y H Q\/r' x y H Q):=by
 intro value slice ae s Z H x y v u Q I rx ry q hs;rcases q with q|q
 .exact h value slice ae s Z H x y v u Q I rx ry q hs
 .exact h' value slice ae s Z H x y v u Q I rx ry q hs
def GX{r:R2}(hr:qI X r)(ha:PE X a ta)(hb:PE X b tb)(hs:zD b):PE X (.Subscript a b pos) (Ed r ta tb):=by
 intro ae s Z H Q I h;exact Subscript_ (yo ha hb I h λv u s2 x y H2 I2 rx ry q=>hr a b ae s2 Z H2 x y v u Q I2 rx ry q (hs _ _))
def y7(K:FG):R2:=λx y H Q=>∃p xs i v,x=.ref p/\y=.int i/\dO K H p xs/\dq xs i=some v/\Q v H
def y8(K:FG):R2:=λx y H Q=>∃p xs i v,x=.ref p/\y=.int i/\fX K H p xs/\dq xs i=some v/\Q v H
def DS:R2:=λx y H Q=>∃z i c,x=.str z/\y=.int i/\z.length<=sizeLine/\dq z.cps.toList i=some c/\Q (.str ⟨#[c]⟩) H
def Yr:qI X (y7 X.K):=by
 intro value slice ae s Z H x y v u Q I rx ry h hs;obtain⟨p,xs,i,z,rfl,rfl,hq,he,q⟩:=h;cases rx;obtain⟨t,rfl⟩:=ry;obtain⟨aG,r,pl,hz⟩:=I.list hq;obtain⟨j,h1,h2,h3,h4,h5⟩:=Ka he;obtain⟨w,ew,vK⟩:=r.get h2;have hl:=r.length;have hn:=yf;have fin:EP X ae Z Q w s:=⟨z,H,I,vK,q⟩;by_cases h0:0<=i
 .have hj:i.toNat=j:=by
   rw[seqIndex_of h0 h5] at h1;exact Option.some.inj h1
  exact item_listR pl.isList h0 (by lia) (by rw[hj];simpa using ew) fin hs
 .have hj:(i+(aG.toArray.size:Int)).toNat=j:=by
   rw[seqIndex_neg (by lia) h4] at h1
   rw[fI,<-hl];exact Option.some.inj h1
  exact subscriptTail_builtinR (x:=w) pl.isList.typeIs slot_list_getitem.lookup
   (wpAny_getItem_list_neg (Q:=λr s'=>r=w/\EP X ae Z Q r s') pl.isList (by lia) (by rw[fI] <;> lia) (by lia) (by rw[hj];simpa using ew) ⟨rfl,fin⟩) hs
def e4z:qI X (y8 X.K):=by
 intro value slice ae s Z H x y v u Q I rx ry h hs;obtain⟨p,xs,i,z,rfl,rfl,hq,he,q⟩:=h;cases rx;obtain⟨t,rfl⟩:=ry;obtain⟨aG,r,pl,hz⟩:=I.tuple hq;obtain⟨j,h1,h2,h3,h4,h5⟩:=Ka he;obtain⟨w,ew,vK⟩:=r.get h2;have hl:=r.length;have hn:=yf;have fin:EP X ae Z Q w s:=⟨z,H,I,vK,q⟩;exact subscriptTail_builtinR (x:=w) pl.typeIs slot_tuple_getitem.lookup
  (getItem_tuple (j:=j) (Q:=λr s'=>r=w/\EP X ae Z Q r s') pl (by lia) (by lia) (by rw[fI,<-hl];exact h1) (by simpa using ew) ⟨rfl,fin⟩) hs
def yO:qI X DS:=by
 intro value slice ae s Z H x y v u Q I rx ry h hs;obtain⟨z,i,c,rfl,rfl,hz,he,q⟩:=h;obtain⟨t,rfl⟩:=rx;obtain⟨t',rfl⟩:=ry;obtain⟨j,h1,h2,h3,h4,h5⟩:=Ka he;have hl:z.cps.toList.length=z.length:=by simp[Str.length]
 rw[hl] at h1 h4 h5;have hn:=yf;exact tail_any (typeIs_str s z t) slot_str_getitem.lookup (getItem_str (c:=c) (by
  have e1:decide (i < -(2^63:Int))=false:=i7 (by lia)
  have e2:decide (i>=2^63)=false:=i7 (by lia)
  rw[e1,e2,NM]) (by rw[h1];simpa using h2) ⟨.str ⟨#[c]⟩,H,I.tok _,⟨_,rfl⟩,q⟩) hs
def U'(aG:List aq)(n j:Nat)(u:aq):Obj.mapSeq (·.setIfInBounds j u) { cls:=.type "list",data:=.seq aG.toArray n}={ cls:=.type "list",data:=.seq (aG.set j u).toArray n}:=by
 simp[Obj.mapSeq]
def Inv.lst{ae:List (ak×Obj)}{Z:St}{H:Hp}{s:az}{p:ak}{xs:List V}(I:Inv X ae Z H s)(h:H p=some (.lst xs)):
  ∃(aG:List aq) (n:Nat),Vals xs aG/\s.heap.get? p=some { cls:=.type "list",data:=.seq aG.toArray n}/\xs.length<=sizeLine:=by
 obtain⟨z,aG,n,r,e⟩:=I.cX p _ h;exact⟨aG,n,r,e,z⟩
def Inv.yR{p:ak}{ys:List V}{n':Nat}{f:Obj->Obj}(I:Inv X ae Z H s)(h:H p=some (.lst xs))
  (ho:s.heap.get? p=some { cls:=.type "list",data:=.seq aG.toArray n}) (hf:f { cls:=.type "list",data:=.seq aG.toArray n}={ cls:=.type "list",data:=.seq its'.toArray n'}) (r:Vals ys its') (hz:ys.length<=sizeLine) (t:Nat) :
  Inv X ae Z (upd H p (.lst ys)) { s with heap:=s.heap.update p f,toks:=t}:=by
 have e:(s.heap.update p f).get? p=some { cls:=.type "list",data:=.seq its'.toArray n'}:=by
  rw[vX f ho (by rw[hf] <;> rfl),hf]
 refine I.write (x:=p) (e:=p) (by rw[h];trivial) (.inl rfl) (λb u hb q=>(Ij _ _ (Ne.symm hb)).trans q) ⟨_,e⟩ ?_
 exact⟨hz,its',n',r,e⟩
def xp:V->V->V->Hp->(Hp->Prop)->Prop:=λo i v H Q=>∃p xs k j,o=.ref p/\i=.int k/\H p=some (.lst xs)/\o5 xs.length k=some j/\Q (upd H p (.lst (xs.set j v)))
def WT:uU X xp:=by
 intro ae s Z H o i v ov iv u Q I ro ri rv h;obtain⟨p,xs,k,j,rfl,rfl,hp,hj,q⟩:=h;cases ro;obtain⟨t,rfl⟩:=ri;obtain⟨aG,n,r,ho,hz⟩:=I.lst hp;obtain⟨h1,h2,h3,h4⟩:=J' hj;have hl:=r.length;have hn:=yf;have I':Inv X ae Z (upd H p (.lst (xs.set j v))) { s with heap:=s.heap.update p (Obj.mapSeq (·.setIfInBounds j u))}:=
  I.yR hp ho (U' aG n j u) (r.set rv j) (by rw[vY];exact hz) s.toks
 by_cases h0:0<=k
 .have hk:k.toNat=j:=by
   rw[seqIndex_of h0 h4] at h1;exact Option.some.inj h1
  exact PySem.W.ki_setAt ho h0 (by lia) (by rw[fI,<-hl];exact h4) (by rw[hk];exact⟨_,I',q⟩)
 .have hk:(k+(aG.toArray.size:Int)).toNat=j:=by
   rw[seqIndex_neg (by lia) h3] at h1
   rw[fI,<-hl];exact Option.some.inj h1
  exact PySem.W.ki_setBack ho (by lia) (by rw[fI,<-hl];exact h3) (by lia) (by rw[hk];exact⟨_,I',q⟩)
def UN(lo hi:ao Int)(n:Nat):(sliceBounds lo hi none n).1=((HT.dA n 0 lo:Nat):Int)/\(sliceBounds lo hi none n).2.1=((HT.dA n n hi:Nat):Int)/\(sliceBounds lo hi none n).2.2=1:=by
 refine⟨?_,?_,rfl⟩
 .cases lo with
  |none=>simp[sliceBounds,HT.dA]
  |some i=>
   simp only[sliceBounds,HT.dA,Option.getD_none,show(1:Int) > 0 by decide,bc]
   by_cases h:i<0
   .simp only[h,bc] <;> lia
   .simp only[h,ck] <;> lia
 .cases hi with
  |none=>simp[sliceBounds,HT.dA]
  |some i=>
   simp only[sliceBounds,HT.dA,Option.getD_none,show(1:Int) > 0 by decide,bc]
   by_cases h:i<0
   .simp only[h,bc] <;> lia
   .simp only[h,ck] <;> lia
def UI(aG:List aq)(lo hi:ao Int):slicePick aG.toArray lo hi none=((aG.drop (HT.dA aG.length 0 lo)).take (HT.dA aG.length aG.length hi - HT.dA aG.length 0 lo)).toArray:=by
 obtain⟨h1,h2,h3⟩:=UN lo hi aG.toArray.size;unfold slicePick;rw[h1,h2,h3];simp only[sliceRange_one,pick_run,fI] <;> rfl
def y9(K:FG):V->ao Int->ao Int->Hp->VK->Prop:=λx lo hi H Q=>∃a xs,x=.ref a/\dO K H a xs/\∀p,H p=none->Q (.ref p) (upd H p (.lst (n_ xs lo hi)))
def Ys:rQ X (y9 X.K):=by
 intro ae s Z H x v vl vu lo hi sl Q I rx hs pl pu h;obtain⟨a,xs,rfl,hx,q⟩:=h;cases rx;obtain⟨aG,r,ht,hz⟩:=I.list hx;have hlen:=r.length;refine⟨"list",_,slot_list_getitem.lookup,ht.isList.typeIs,?_⟩;refine wpAny_getItem_list_slice ht.isList hs pl pu .none (by simp) ?_ (by rw[fI] <;> lia)
 rw[UI,<-hlen];refine⟨.ref s.heap.objs.size,_,I.laid (t':=s.toks) (o:=.lst (n_ xs lo hi)) (λb ob q=>jN _ q) (cP _) ?_,rfl,q _ (I.cX.fresh (cP _))⟩
 exact⟨nD (Ol xs lo hi) hz,_,0,(r.drop (HT.dA xs.length 0 lo)).take (HT.dA xs.length xs.length hi - HT.dA xs.length 0 lo),oP _ rfl⟩
def wU:V->Bool
 |.bL=>true
 |.bl _=>true
 |.int _=>true
 |.str _=>true
 |_=>false
noncomputable def eqV:V->V->Bool
 |.bL,.bL=>true
 |.bl a,.bl b=>a == b
 |.bl a,.int b=>(if a then 1 else 0) == b
 |.int a,.bl b=>a == (if b then 1 else 0)
 |.int a,.int b=>a == b
 |.str a,.str b=>a == b
 |_,_=>false
def UO:cY X (.builtin "len") (λxs H Q=>∃p ys,xs=[.ref p]/\(dO X.K H p ys\/fX X.K H p ys)/\Q (.int ys.length) H):=by
 intro ae s Z H xs us Q I r h;obtain⟨p,ys,rfl,hq,q⟩:=h;obtain⟨u,rfl,rx⟩:=vals1 r;cases rx;have hn:=yf;rcases hq with hq|hq
 .obtain⟨aG,r',pl,hz⟩:=I.list hq;have hlen:=r'.length;exact Calls.call_len_list pl.isList (by simp only[fI] <;> lia) ⟨.int ys.length,H,I.tok _,⟨s.toks+1,by rw[fI,hlen]⟩,q⟩
 .obtain⟨aG,r',pl,hz⟩:=I.tuple hq;have hlen:=r'.length;exact len_tuple pl (by simp only[fI] <;> lia) ⟨.int ys.length,H,I.tok _,⟨s.toks+1,by rw[fI,hlen]⟩,q⟩
def UP:cY X (.builtin "len") (λxs H Q=>∃z,xs=[.str z]/\z.length<=sizeLine/\Q (.int z.length) H):=by
 intro ae s Z H xs us Q I r h;obtain⟨z,rfl,hz,q⟩:=h;obtain⟨u,rfl,t,rfl⟩:=vals1 r;have hn:=yf;exact len_str (by lia) ⟨.int z.length,H,I.tok _,⟨_,rfl⟩,q⟩
def cY.or{f:aq}{r r':List V->Hp->VK->Prop}(h:cY X f r)(h':cY X f r'):cY X f (λxs H Q=>r xs H Q\/r' xs H Q):=by
 intro ae s Z H xs us Q I rs q;rcases q with q|q
 .exact h ae s Z H xs us Q I rs q
 .exact h' ae s Z H xs us Q I rs q
def UQ:cY X (.type "list") (λxs H Q=>∃p ys,xs=[.ref p]/\(dO X.K H p ys\/fX X.K H p ys)/\∀l,H l=none->Q (.ref l) (upd H l (.lst ys))):=by
 intro ae s Z H xs us Q I r h;obtain⟨p,ys,rfl,hq,q⟩:=h;obtain⟨u,rfl,rx⟩:=vals1 r;cases rx;have fin:∀(aG:List aq),Vals ys aG->ys.length<=sizeLine->∀(h':cS) (c':Nat),(∀b o',s.heap.get? b=some o'->h'.get? b=some o')->
   h'.get? s.heap.objs.size=some { cls:=.type "list",dict:=none,data:=.seq aG.toArray c',slots:=#[]}->EP X ae Z Q (.ref s.heap.objs.size) { s with heap:=h'}:=λaG r' hz h' c' kp e=>
  ⟨.ref s.heap.objs.size,_,I.laid (t':=s.toks) kp (cP _) (show cG X.prog X.w _ h' _ (.lst ys) from⟨hz,aG,c',r',e⟩),rfl,q _ (I.cX.fresh (cP _))⟩
 rcases hq with hq|hq
 .obtain⟨aG,r',pl,hz⟩:=I.list hq;have hlen:=r'.length;obtain⟨o,ho,hc,n,hd⟩:=pl.isList;exact call_list_seq p (.inl rfl) ho hc hd (λh' c' kp e=>fin aG r' hz h' c' kp e) (by simp only[fI] <;> lia)
 .obtain⟨aG,r',pl,hz⟩:=I.tuple hq;have hlen:=r'.length;obtain⟨o,ho,hc,n,hd⟩:=pl;exact call_list_seq p (.inr rfl) ho hc hd (λh' c' kp e=>fin aG r' hz h' c' kp e) (by simp only[fI] <;> lia)
def Ig(K:FG)(T:String)(x:V)(H:Hp):Prop:=match x with
 |.str _=>T="str"
 |.int _=>T="int"
 |.ref p=>(T="list"/\∃xs,dO K H p xs)\/(T="tuple"/\∃o,K.lookup p=some o/\o.cls=.type "tuple"/\o.dict=none)\/
   (T="dict"/\((∃kvs,H p=some (.dK kvs))\/(∃kvs,H p=some (.dT kvs))\/∃es ep,H p=some (.dG es ep)))\/(T="set"/\∃S n,H p=some (.set S n))
 |_=>False
def RI{T:String}{v:aq}(I:Inv X ae Z H s)(r:RelV x v)(ty:Ig X.K T x H):
  s.TypeIs v T/\∀a,v=.ref a->∃ob,s.heap.get? a=some ob/\ob.dict=none:=by
 cases x with
 |str z=>
  obtain⟨t,rfl⟩:=r;cases(show T="str" from ty);exact⟨typeIs_str s z t,λ_ e=>nomatch e⟩
 |int i=>
  obtain⟨t,rfl⟩:=r;cases(show T="int" from ty);exact⟨typeIs_int s i t,λ_ e=>nomatch e⟩
 |ref p=>
  cases r;rcases ty with⟨rfl,xs,hq⟩|⟨rfl,o,hk,hc,hd⟩|⟨rfl,hk⟩|⟨rfl,S,n,hk⟩
  .obtain⟨aG,_,pl,_⟩:=I.list hq;refine⟨pl.isList.typeIs,λa e=>?_⟩
   cases e;obtain⟨o,n,e,c,hd,_⟩:=pl;exact⟨o,e,hd⟩
  .refine⟨⟨o,I.AI p o hk,hc⟩,λa e=>?_⟩
   cases e;exact⟨o,I.AI _ o hk,hd⟩
  .have z:∃o,s.heap.get? p=some o/\o.ExactDict:=by
    rcases hk with⟨kvs,hk⟩|⟨kvs,hk⟩|⟨es,ep,hk⟩
    .obtain⟨_,_,_,_,o,_,_,e,ex,_⟩:=I.cX p _ hk;exact⟨o,e,ex⟩
    .obtain⟨_,_,_,_,o,_,_,e,ex,_⟩:=I.cX p _ hk;exact⟨o,e,ex⟩
    .obtain⟨_,_,o,_,e,ex,_⟩:=I.cX p _ hk;exact⟨o,e,ex⟩
   obtain⟨o,e,ex⟩:=z;refine⟨⟨o,e,ex.1⟩,λa e2=>?_⟩
   cases e2;exact⟨o,e,ex.2.1⟩
  .obtain⟨o,_,_,_,e,ex,_⟩:=I.cX p _ hk;refine⟨⟨o,e,ex.1⟩,λa e2=>?_⟩
   cases e2;exact⟨o,e,ex.2.1⟩
 |_=>exact False.elim ty
def zd(K:FG)(T:String)(r:V->List V->Hp->VK->Prop)(to:TE):TE:=λZ H Q=>to Z H λx H1=>Ig K T x H1/\r x [] H1 Q
def H_(K:FG)(T:String)(r:V->List V->Hp->VK->Prop)(to:TE)(t:TA):TE:=λZ H Q=>to Z H λx H1=>Ig K T x H1/\t Z H1 λxs H2=>r x xs H2 Q
variable{o e:Expr}{es:List Expr}{to:TE}{t:TA}{name:Str}{apos cu:Pos}{T id:String}{r:V->List V->Hp->VK->Prop}
def RJ(pa:PlainAttrs T)(slot:Slot T name id)(qR:typeOf (.builtin id)=pure (.type "method_descriptor"))(hm:N_ X id r)(ho:PE X o to)
  (iz:attributeBase o name X.env (eval o X.env)=eval o X.env:=by rfl) (iA:(apos.endLine == cu.line)=true:=by rfl):PE X (.Call (.Attribute o name apos) [] [] cu) (zd X.K T r to):=by
 intro ae s Z H Q I h;refine wpAny_Call_method0_late iz iA (cL (ho ae s Z H _ I h) λv s1 hh=>?_)
 obtain⟨x,H1,I1,r1,ty,q1⟩:=hh;obtain⟨h1,h2⟩:=RI I1 r1 ty;exact⟨T,id,pa,slot,qR,h1,h2,Calls.callWith_builtin rfl (PySem.evalArgs_none (hm ae s1 Z H1 x [] v [] Q I1 r1 .nil q1))⟩
def Lj(pa:PlainAttrs T)(slot:Slot T name id)(qR:typeOf (.builtin id)=pure (.type "method_descriptor"))(hm:N_ X id r)(ho:PE X o to)(ha:PA X (e::es) t)
  (iz:attributeBase o name X.env (eval o X.env)=eval o X.env:=by rfl)
  (pF:((backTo cu (starEach (e::es) X.env)).all (λx => !x.1)&&(backToKw cu (keywordEach [] X.env)).all (λx=>x.1.isSome) && decide ((e::es).length+([]:List Keyword).length+(if([]:List Keyword).isEmpty then 0 else 1)<30))=true:=by rfl)
  (iA:(apos.endLine == cu.line)=true:=by rfl) (hs:starEach (e::es) X.env=(false,eval e X.env)::starEach es X.env:=by rfl) (je:(backTo cu (starEach es X.env)).any (·.1)=false:=by rfl) :
  PE X (.Call (.Attribute o name apos) (e::es) [] cu) (H_ X.K T r to t):=by
 intro ae s Z H Q I h;refine wpAny_Call_method_late iz pF iA rfl (cL (ho ae s Z H _ I h) λv s1 hh=>?_)
 obtain⟨x,H1,I1,r1,ty,q1⟩:=hh;obtain⟨h1,h2⟩:=RI I1 r1 ty;refine⟨T,id,pa,slot,qR,h1,h2,?_⟩;have hA:=ha cu ae s1 Z H1 _ I1 q1;rw[hs] at hA ⊢;refine Calls.callWith_builtin (by show(false || (backTo cu (starEach es X.env)).any (·.1))=false;rw[je] <;> rfl) (Calls.evalArgs_plain ?_)
 exact cL hA λus s2 ⟨vs,H2,I2,r2,q2⟩=>hm ae s2 Z H2 x vs v us Q I2 r1 r2 q2
end
def v7(X:Cx)(id:String)(r:V->List V->Hp->VK->Prop):Prop:=
 ∀(ae:List (ak×Obj)) (s:az) (Z:St) (H:Hp) (x:V) (xs:List V) (v:aq) (us:List aq) (Q:VK),Inv X ae Z H s->RelV x v->Vals xs us->r x xs H Q->
  wpAny (model X.prog X.w) X.A (call (.builtin id) (v::us)) (EP X ae Z Q) X.xe s
def Vals.one(h:Vals [x] us):∃u,us=[u]/\RelV x u:=by
 cases h with
 |cons r t=>
  cases t;exact⟨_,rfl,r⟩
def Vals.two{y:V}(h:Vals [x,y] us):∃u v,us=[u,v]/\RelV x u/\RelV y v:=by
 cases h with
 |cons r t=>
  obtain⟨v,rfl,q⟩:=Vals.one t;exact⟨_,_,rfl,r,q⟩
theorem Vals.zero:∀{us:List aq},Vals [] us->us=[]
 |_,.nil=>rfl
section
variable{X:Cx}{ae:List (ak×Obj)}{Z:St}{H:Hp}{s:az}{l b:ak}{xs ys zs:List V}
def Inv.yP{f:Array aq->Array aq}(I:Inv X ae Z H s)(hH:H l=some (.lst xs))
  (e:s.heap.get? l=some { cls:=.type "list",data:=.seq aG.toArray n}) (hf:f aG.toArray=its'.toArray) (hv:Vals ys its') (hz:ys.length<=sizeLine) :
  Inv X ae Z (upd H l (.lst ys)) { s with heap:=s.heap.update l (Obj.mapSeq f),toks:=t'}:=by
 have q:=PySem.IsL.update e f;rw[hf] at q;refine I.write (x:=l) (e:=l) (by rw[hH];exact trivial) (.inl rfl) (λb' u hb hu=>(Ij s.heap (Obj.mapSeq f) (Ne.symm hb)).trans hu) ⟨_,q⟩ ?_
 exact⟨hz,its',_,hv,q⟩
def Inv.MQ(I:Inv X ae Z H s)(hv:Vals ys aG)(hz:ys.length<=sizeLine):
  Inv X ae Z (upd H s.heap.objs.size (.lst ys)) { s with heap:=s.heap.push { cls:=.type "list",data:=.seq aG.toArray},toks:=t'}:=
 I.laid (λ_ _ q=>jN _ q) (cP _) ⟨hz,aG,0,hv,oP _ rfl⟩
theorem Inv.fresh(I:Inv X ae Z H s):H s.heap.objs.size=none:=I.cX.fresh (cP _)
def Inv.yQ(I:Inv X ae Z H s)(hH:H l=some (.lst xs)):xs.length<=sizeLine/\∃(aG:List aq) (n:Nat),Vals xs aG/\xs.length=aG.length/\s.heap.get? l=some { cls:=.type "list",data:=.seq aG.toArray n}:=by
 obtain⟨z,aG,n,r,e⟩:=I.cX l _ hH;exact⟨z,aG,n,r,r.length,e⟩
end
section
variable{X:Cx}
def Qw:V->List V->Hp->VK->Prop:=λx vs H Q=>∃l xs y,x=.ref l/\vs=[y]/\H l=some (.lst xs)/\xs.length<sizeLine/\Q .bL (upd H l (.lst (xs++[y])))
def q_:v7 X "list.append" Qw:=by
 intro ae s Z H x vs v us Q I rx rv h;obtain⟨l,xs,y,rfl,rfl,hH,hz,q⟩:=h;cases rx;obtain⟨u,rfl,ru⟩:=rv.one;obtain⟨z,aG,n,r,hl,e⟩:=I.yQ hH;refine call_meets F.slot_list_append ⟨_,e,rfl⟩ F.entry_list_append (F.args_list_append_2 _ _) (PySem.list_append l aG.toArray n u (by rw[fI];lia)) ⟨e,?_⟩
 refine⟨.bL,_,I.yP (its':=aG++[u]) hH e (by simp) (r.append (.cons ru .nil)) ?_,rfl,q⟩
 rw[du,ko];lia
def FU:V->List V->Hp->VK->Prop:=λx vs H Q=>∃l xs,x=.ref l/\vs=[]/\H l=some (.lst xs)/\Q .bL (upd H l (.lst []))
def PK:v7 X "list.clear" FU:=by
 intro ae s Z H x vs v us Q I rx rv h;obtain⟨l,xs,rfl,rfl,hH,q⟩:=h;cases rx;have hus:=rv.zero;subst hus;obtain⟨z,aG,n,r,hl,e⟩:=I.yQ hH;refine call_meets F.slot_list_clear ⟨_,e,rfl⟩ F.entry_list_clear (F.args_list_clear_1 _) (AutoSeq1.list_clear_list_0 l aG.toArray n (by rw[fI];lia)) ⟨e,?_⟩
 exact⟨.bL,_,I.yP (its':=[]) (ys:=[]) hH e rfl .nil (kK _),rfl,q⟩
end
section
variable{prog:fO}{w:eK}{A:dZ}{E:aq->az->Prop}{s:az}
end
section
variable{X:Cx}
end
section
variable{κ:Type}[DecidableEq κ]
def nM.qT{o:ao V}{u:ao aq}(r:nM o u):o.isSome=u.isSome:=by
 cases o with
 |none=>cases u with
  |none=>rfl
  |some _=>exact(show False from r).elim
 |some _=>cases u with
  |none=>exact(show False from r).elim
  |some _=>rfl
end
section
variable{P:fO}{w:eK}{H:Hp}{h:cS}{a:ak}
end
section
variable{X:Cx}{ae:List (ak×Obj)}{Z:St}{H:Hp}{s:az}{a:ak}{y v:V}{u r:aq}{o:ao V}{A:dZ}{E:aq->az->Prop}
def Inv.big(I:Inv X ae Z H s):sysModules<s.heap.objs.size:=by
 have h:mainGlobals<s.heap.objs.size:=(I.mod.glob.keeps I.bk).lt;exact Nat.lt_trans (by decide) h
def Qx{h':cS}{ob:HO}(I:Inv X ae Z H s)(mu:By (H a))(hs:Heap.SameBut a s.heap h')(he:∃q,h'.get? a=some q)(new:cG X.prog X.w (upd H a ob) h' a ob):
  Inv X ae Z (upd H a ob) { s with heap:=h',toks:=t'}:=
 I.write (x:=a) (e:=a) mu (.inl rfl) (λb q hb z=>(hs.2 b hb).trans z) he new
end
section
variable{X:Cx}{ae:List (ak×Obj)}{Z:St}{H:Hp}{s:az}{a:ak}{kvs:List (Key×V)}{k:Key}{u:aq}{A:dZ}{E:aq->az->Prop}
end
section
variable{X:Cx}{o i e value:Expr}{pos pos' oK:Pos}{td ty tv:TE}
end
section
variable{X:Cx}{pos:Pos}
end
abbrev VV:List (V×V)->List (aq×aq)->Prop:=Paired λp q=>RelV p.1 q.1/\RelV p.2 q.2
structure M1 (X:Cx) (o:Expr) (m:Str) (apos:Pos) (e:Expr) (cu:Pos):Prop where
 base:attributeBase o m X.env (eval o X.env)=eval o X.env
 few:((backTo cu (starEach [e] X.env)).all (λx => !x.1)&&(backToKw cu (keywordEach [] X.env)).all (λx=>x.1.isSome) && decide (([e]:List Expr).length+([]:List Keyword).length+(if([]:List Keyword).isEmpty then 0 else 1)<30))=true
 line:(apos.endLine == cu.line)=true
 trees:backTo cu (starEach [e] X.env)=[(false,eval e X.env)]
structure M2 (X:Cx) (o:Expr) (m:Str) (apos:Pos) (e f:Expr) (cu:Pos):Prop where
 base:attributeBase o m X.env (eval o X.env)=eval o X.env
 few:((backTo cu (starEach [e,f] X.env)).all (λx => !x.1)&&(backToKw cu (keywordEach [] X.env)).all (λx=>x.1.isSome) && decide (([e,f]:List Expr).length+([]:List Keyword).length+(if([]:List Keyword).isEmpty then 0 else 1)<30))=true
 line:(apos.endLine == cu.line)=true
 trees:backTo cu (starEach [e,f] X.env)=[(false,eval e X.env),(false,eval f X.env)]
section
variable{X:Cx}{ae:List (ak×Obj)}{Z:St}{H:Hp}{s:az}{a:ak}{y d:V}{u r:aq}{o:ao V}{A:dZ}{E:aq->az->Prop}
end
section
variable{X:Cx}{o e f:Expr}{apos cu:Pos}{td ty tx:TE}
end
section
variable{X:Cx}{ae:List (ak×Obj)}{Z:St}{H:Hp}{s:az}{a:ak}{kvs:List (Key×V)}{A:dZ}{E:aq->az->Prop}
end
section
variable{X:Cx}{ae:List (ak×Obj)}{Z:St}{H:Hp}{s:az}{a:ak}{y:V}{u:aq}{A:dZ}{E:aq->az->Prop}
end
end L2
namespace N7
open PySem PySem.W PySem.Calls PyProof.Rows
variable{P:Params}{h:cS}{l:OpenLaw}{n:Nat}
def b2i:∀(ns:List Int) (vs:List aq),WellAll P h vs (ns.map WData.int)->IntsAre vs ns:=by
 intro ns
 induction ns with
 |nil=>
  intro vs w;rw[qZ] at w;cases w;exact .nil
 |cons n ns ih=>
  intro vs w;rw[dD] at w;cases w with
  |cons a b=>
   cases a;exact .cons _ _ (ih _ b)
def VG(hn:l.most=some n){args:List WData}{vals:List aq}
  (vw:l.row.toRowW.claim.pre args=true) (HG:WellAll P h vals args) :
  ∃a vs ns,vals=[Value.ref a]/\args=[WData.list (ns.map WData.int)]/\h.get? a=some { cls:=.type "list",data:=.seq vs.toArray}/\IntsAre vs ns/\ns.length<=n:=by
 have hsh:WShape.hasAll [] args [.list .int]=true:=(pre_splitW vw).1;have hc:l.pre.holds [] { args:=args}=true:=(pre_splitW vw).2;obtain⟨d,r,rfl,h1,h2⟩:=hasAllW_cons hsh;obtain rfl:=hasAllW_nil h2;obtain⟨xs,rfl,h3⟩:=hasW_list h1;obtain⟨ns,rfl⟩:=items_int h3;have hlen:ns.length<=n:=by
  unfold OpenLaw.pre at hc;have h4:(WTm.not (.lt (.lit (.int (n:Int))) (.len (.arg 0)))).holds [] { args:=[.list (ns.map .int)]}=true:=by
   have h4:=(holds_andW hc).1;rw[hn] at h4;exact h4
  have h5:=condW_of h4 (w_not (w_lt w_lit (w_len_list (w_arg rfl))));rw[bK] at h5;refine Nat.le_of_not_lt λq=>?_
  have q':(n:Int)<((ns.length:Nat):Int):=by lia
  first
   |(rw[ie q'] at h5;exact bZ h5 (by decide))
   |(simp at h5;lia)
 cases HG with
 |cons w1 w2=>
  cases w2;cases w1 with
  |list ho sL=>exact⟨_,_,ns,rfl,rfl,ho,b2i ns _ sL,hlen⟩
def VH(l:OpenLaw)(args:List WData):l.row.toRowW.claim.post args (.bool true) args=true:=
 postW_of (r:=l.row.toRowW) (X:=(true == true))
  (show WShape.has [] (.bool true) .bool=true by first|rfl|decide|simp[WShape.has,WShape.arms,WShape.armsAll])
  (show(WTm.eq .res (.lit (.bool true))).value [] { args:=args,res:=some (.bool true),after:=args}=some (.bool (true == true)) from w_eq_bool (w_res rfl) w_lit) rfl
def nX{q:fO}{loose:List Str}{XP:(Str->ao aq)->cS->Prop}{YP:eK->cS->Prop}{d:DefRec}
  (hn:l.most=some n) (Df:d.params.defaults=[])
  (call:∀(w:eK) (s₀ s₁:az) (mg mb:Str->ao aq) (fa:ak) (o:Obj) (pm cd doc:aq) (a:ak) (vs:List aq) (ns:List Int),Ground q loose [] XP w s₀ mg mb s₁.heap->YP w s₁.heap-> s₁.heap.get? fa=some o->o.data=.func (docDef d.name d.params d.body d.scope pm cd doc)->s₁.heap.CodeRec cd d.name->mg d.name=some (.ref fa)-> s₁.heap.get? a=some { cls:=.type "list",data:=.seq vs.toArray}->IntsAre vs ns->ns.length<=n->s₁.gens=#[]-> codeAny (model l.prog w) callerA (.call (.ref fa) ⟨[.ref a],[]⟩) (λr s'=>r=.ok (.ret (.bool true))/\OldK s₁.heap s'.heap/\s'.os=s₁.os/\AllBare s'.gens) s₁) :
  WalkO q loose XP YP l.row.toRowW d [] (λf vs=>PySem.call f vs):=by
 intro w s₀ s₁ mg mb G Y fa o pm cd doc dV kV ho hd qQ hD Mu hg args vals as vw hlay hrd HG Mt;obtain rfl:dV=.none:=Dflts.none hD Df;obtain rfl:kV=.none:=Dflts.noKw hD;obtain⟨a,vs,ns,rfl,rfl,yJ,hints,hlen⟩:=VG hn vw HG;refine enter_call (codeAny_mono (call w s₀ s₁ mg mb fa o pm cd doc a vs ns G Y ho (fd_plain hd) qQ Mu yJ hints hlen hg) λr s' hq=>?_)
 obtain⟨rfl,h2,h3,h4⟩:=hq;exact⟨.inl ⟨.bool true,.bool true,[],rfl,λ_=>rfl,.bool true,VH l _,λ_=>⟨List.Pairwise.nil,λ_ hm=>(nomatch hm)⟩⟩,h2,h3,h4⟩
section
variable{prog:fO}{w:eK}{A:dZ}{E:aq->az->Prop}{s:az}{K:Frag}
end
end N7
namespace L2
open PySem PySem.Spec PyProof.Rows
variable{K:FG}{k:Nat}{a f:ak}{fd:lY}{x qual:Str}{sp:Sp}{ps:List Str}{H H':Hp}
theorem OY:∀{vs:List aq} {ns:List Int},IntsAre vs ns->Vals (ns.map V.int) vs
 |_,_,.nil=>.nil
 |_,_,.cons n t h=>.cons ⟨t,rfl⟩ (OY h)
def xI(H:Hp):Prop:=∀b,H b=none\/∃o xs,H b=some (.Y o (.lst xs))
def WU{P:fO}{w:eK}{mg mb:Str->ao aq}{CX:qF}{fa:ak}{s₁:az}{vs:List aq}{ns:List Int}
  (KX:K.In s₁.heap) (TF:s₁.heap.Ns mainGlobals mg) (hb:s₁.heap.Ns builtinsNs mb) (hbb:∀x:Str,x≠"__name__"->mb x=bootBuiltins x) (Mr:s₁.heap.NoLimit) (hg:s₁.gens=#[])
  (ha:s₁.heap.get? a=some { cls:=.type "list",data:=.seq vs.toArray}) (hi:IntsAre vs ns) (hl:ns.length<=sizeLine) (hr:eG k callerA)
  (F:∀base:cS,K.In base->base.Ns mainGlobals mg->bR P w K mg base CX k fa fd [x] sp) (C_:∀(s:az) (u:aq),BindsTo s fd ⟨[u],[]⟩ [(x,u)])
  (w9:∀H:Hp,xI H->dO K H a (ns.map V.int)->sp [.ref a] H (λv _=>v=.bl true) λ_ _ _=>False)
  (L9:∀H e s',CX [] H s₁ (λ_ _ _=>False) e s'->False) :
  codeAny (model P w) callerA (.call (.ref fa) ⟨[.ref a],[]⟩) (λr s'=>r=.ok (.ret (.bool true))/\OldK s₁.heap s'.heap/\s'.os=s₁.os/\AllBare s'.gens) s₁:=by
 have rv:=OY hi;have MP:=hi.length;have core:∀H:Hp,xI H->dO K H a (ns.map V.int)->kO P w H s₁.heap->(∀b,H b≠none->b=a)->(H a≠none->K.lookup a=none)->
   codeAny (model P w) callerA (.call (.ref fa) ⟨[.ref a],[]⟩) (λr s'=>r=.ok (.ret (.bool true))/\OldK s₁.heap s'.heap/\s'.os=s₁.os/\AllBare s'.gens) s₁:=by
  intro H hO hS cX hA hK;have qf:∀{b:ak} {o:Obj},s₁.heap.get? b=some o->H b=none->(mR s₁.heap H).get? b=some o:=λe n=>WK e n
  have DD:∀{b:ak} {o:Obj} {es:Array DictEntry} {ep:Nat},s₁.heap.get? b=some o->o.data=.dict es ep->H b=none:=λ{b o es ep} e d=>by
   cases q:H b with
   |none=>rfl
   |some u=>
    have e':b=a:=hA b (by rw[q];simp)
    subst e';rw[ha] at e;cases e;have d':Data.seq vs.toArray _=Data.dict es ep:=d;cases d'
  have HS:∀{b:ak} {m:Str->ao aq},s₁.heap.Ns b m->(mR s₁.heap H).Ns b m:=λ{b m} ⟨o,es,ep,e,d,r⟩=>⟨o,es,ep,qf e (DD e d),d,r⟩
  have Tg:K.In (mR s₁.heap H):=λb o e=>qf (KX b o e) (by
   cases q:H b with
   |none=>rfl
   |some u=>
    have e':b=a:=hA b (by rw[q];simp)
    subst e';rw[hK (by rw[q];simp)] at e;cases e)
  have hM:Mod K mg (mR s₁.heap H):=⟨Tg,HS TF,⟨mb,HS hb,hbb⟩,let ⟨mc,h1,h2⟩:=Mr;⟨mc,HS h1,h2⟩⟩
  have e0:uS P w K mg (mR s₁.heap H) callerA [] s₁ H:=⟨rfl,hM,λb o e=>Yd e,Nat.le_of_eq (Vz _ _),trivial,λb hb=>bZ (show b∈([]:List ak) from hb) (by simp),cX,.of_eq hg⟩
  refine codeAny_mono ((F _ Tg (HS TF)).run callerA [] s₁ H ⟨[.ref a],[]⟩ [.ref a] [.ref a] _ _ hr e0 (C_ s₁ (.ref a)) (.cons rfl .nil) (w9 H hO hS)) λr s' h=>?_
  cases r with
  |error e=>exact(L9 H e s' h).elim
  |ok fl=>
   cases fl with
   |next=>exact False.elim h
   |brk=>exact False.elim h
   |cont=>exact False.elim h
   |ret u=>
    obtain⟨v,H',os,bare,un,My,r',q⟩:=h;have q':v=.bl true:=q;subst q';obtain rfl:u=Value.bool true:=r';refine⟨rfl,OldK.of_keep λb o e=>?_,os,bare⟩
    cases q:H b with
    |none=>exact un.keep b o e q (by intro z;exact bZ (show b∈([]:List ak) from z) (by simp)) (by simp)
    |some u=>
     rcases hO b with z|⟨ob,xs,z⟩
     .rw[q] at z;cases z
     .have z2:=un.lS b ob _ z;obtain⟨e1,_⟩:=cX b _ z;obtain⟨e2,_⟩:=My b _ z2;rw[e] at e1;cases e1;exact e2
 cases hk:K.lookup a with
 |some o=>
  have e:=KX a o hk;rw[ha] at e;cases e;refine core (λ_=>none) (λ_=>.inl rfl) (.inr ⟨_,vs.toArray,_,hk,rfl,rfl,rfl,by rw[fI,MP];exact hl,by simpa using rv⟩) (λb u z=>by have z':(none:ao HO)=some u:=z;cases z') (λb z=>bZ rfl z) λz=>bZ rfl z
 |none=>
  refine core (λb=>if b=a then some (.Y { cls:=.type "list",data:=.seq vs.toArray} (.lst (ns.map V.int))) else none) (λb=>?_) (.inl (.inr ⟨{ cls:=.type "list",data:=.seq vs.toArray},aU rfl⟩)) (λb u z=>?_) (λb z=>?_) λ_=>hk
  .by_cases hb:b=a
   .exact .inr ⟨_,_,aU hb⟩
   .exact .inl (aY hb)
  .by_cases hb:b=a
   .have z':=(aU hb).symm.trans z;cases z';subst hb;exact⟨ha,by rw[bK];exact hl,vs,_,rv,ha⟩
   .have z':=(aY hb).symm.trans z;cases z'
  .by_cases hb:b=a
   .exact hb
   .exact bZ (aY hb) z
def zE(s:Stmt):Arguments:=match s with
 |.FunctionDef _ a _ _ _ _ _ _ _ _=>a
 |_=>{ posonlyargs:=[],args:=[],vararg:=none,kwonlyargs:=[],kw_defaults:=[],kwarg:=none,defaults:=[]}
def uk(s:Stmt):List Stmt:=match s with
 |.FunctionDef _ _ b _ _ _ _ _ _ _=>b
 |_=>[]
def dg(s:Stmt):Scope:=match s with
 |.FunctionDef _ _ _ _ _ _ sc _ _ _=>sc
 |_=>{ kind:=.function,names:=[],isGenerator:=false,isCoroutine:=false}
abbrev eZ:qF:=λ_ _ _ _ _ _=>False
abbrev E0:XK:=λ_ _ _=>False
def DN{X:Cx}:Kz eZ X E0:=λ_ _ _ _ _ _ _ h=>h.elim
structure rO (K:FG) (x qual:Str) (st:Stmt) (f:ak) (fd:lY):Prop where
 ex:∃(oc:aq) (od:ao ak) (kV doc pm:aq) (an:ao ak) (gp ct:aq) (osl:Array (ao aq)),
  fd=PySem.W.fnOf x qual (zE st) (uk st) (dg st) .none kV doc pm an gp ct/\K.lookup f=some ⟨oc,od,.func fd,osl⟩/\PySem.W.codeIn K gp qual=true
 kp:PySem.W.keepIn K (.ref f)=true
section
variable{P:fO}{w:eK}{K:FG}{mg:Str->ao aq}{base:cS}
def rO.ok{st:Stmt}{N:List Str}(F:rO K x qual st f fd)(S:aJ N ps (dg st))(len:∀vs H Q E,sp vs H Q E->vs.length=ps.length)
  (kX:∀(gp:aq) (A:dZ) (outer:List Env) (s:az) (H:Hp) (vs:List V) (Q:VK) (E:XK),eG k (A.deeper (envOfC qual (dg st) s.heap.objs.size f gp))->sp vs H Q E-> ∃t,hU (mO eZ P w K mg base N qual (dg st) f gp A outer s H E).yU (uk st) t/\t { nx:=λ_ H'=>Q .bL H',rt:=Q} (start N vs) H):bR P w K mg base eZ (k+1) f fd ps sp:=by
 obtain⟨oc,od,kV,doc,pm,an,gp,ct,osl,rfl,lk,qQ⟩:=F.ex;refine e8x lk qQ S len λA outer s H vs Q E hr w9=>?_
 obtain⟨t,h,q⟩:=kX gp A outer s H vs Q E hr w9;exact⟨t,h.yU,q⟩
def rO.binds{st:Stmt}(F:rO K x qual st f fd)
  (h:∀(kV doc pm:aq) (an:ao ak) (gp ct:aq) (us:List aq),us.length=ps.length->bindArgs (PySem.W.fnOf x qual (zE st) (uk st) (dg st) .none kV doc pm an gp ct) ⟨us,[]⟩=pure (ps.zip us)):Binds K fd ps []:=by
 obtain⟨oc,od,kV,doc,pm,an,gp,ct,osl,rfl,lk,qQ⟩:=F.ex;exact .all (h kV doc pm an gp ct)
def e5a{st:Stmt}{oc:aq}{od an:ao ak}{osl:Array (ao aq)}{kV doc pm gp ct:aq}(l:K.lookup f=some ⟨oc,od,.func (PySem.W.fnOf x qual (zE st) (uk st) (dg st) .none kV doc pm an gp ct),osl⟩)
  (c:PySem.W.codeIn K gp qual=true) (k:PySem.W.keepIn K (.ref f)=true):rO K x qual st f (PySem.W.fnOf x qual (zE st) (uk st) (dg st) .none kV doc pm an gp ct):=⟨⟨oc,od,kV,doc,pm,an,gp,ct,osl,rfl,l,c⟩,k⟩
end
def hu_of{A:dZ}(hr:eG k A):A.units+1<cLine:=Nat.lt_of_le_of_lt (Nat.add_le_add_left (by decide:1<=64) _) hr.units
section
variable{X:Cx}
def pv(i:Nat){pos:Pos}(hN:X.N[i]?=some x:=by rfl)(hv:EF X.env.scope x:=by first|exact Or.inl rfl|exact Or.inr (Or.inl rfl)|exact Or.inr (Or.inr rfl))(hd:(x == ("__debug__":Str))=false:=by decide)
  (qQ:(x == ("__classdict__":Str))=false:=by decide):PE X (.Name x pos) (pQ i):=δ hN hv hd qQ
end
def pK{A B:Prop}(h:B):if false=true then A else B:=by
 rw[aY t8];exact h
def pL{A B:Prop}(h:A):if true=true then A else B:=by
 rw[aU rfl];exact h
def aF(H H':Hp):Prop:=∀b o,H b=some o->H' b=some o
def aF.refl(H:Hp):aF H H:=λ_ _ h=>h
def aF.trans{H1 H2:Hp}(a:aF H H1)(b:aF H1 H2):aF H H2:=λc o h=>b c o (a c o h)
def aF.free(e:aF H H'){l:ak}(h:H' l=Option.none):H l=Option.none:=by
 cases q:H l with
 |none=>rfl
 |some o=>
  rw[e l o q] at h;cases h
def aF.seq{xs:List V}(e:aF H H')(h:dO K H a xs):dO K H' a xs:=by
 rcases h with(h|⟨o,h⟩)|h
 .exact .inl (.inl (e _ _ h))
 .exact .inl (.inr ⟨o,e _ _ h⟩)
 .exact .inr h
section
variable{κ:Type}[DecidableEq κ]
end
end L2
set_option maxHeartbeats 4000000
namespace L2
open PySem PySem.Spec PyProof.Rows
variable{env:Env}{names:List (Str×pX)}{x n:Str}{c a:ak}{scope:Scope}{X:Cx}{prog q:fO}{w:eK}{A:dZ}{s:az}{H:Hp}{fp:List ak}{Fin:List V->Hp->Prop}{wi:TI}{g:TG}{tt:TT}{te tl:TE}{τ:St}{k j:Nat}{h:cS}{l tg:Expr}
noncomputable def kU(env:Env)(names:List (Str×pX)):List (Str×ak):=((names.filter λy=>y.2 == .free).reverse).map λy=>(y.1,(env.cells.lookup y.1).getD 0)
theorem Om{g:Str->ak}{x:Str}:∀{l:List (Str×pX)},(∃k,(x,k)∈l)->(l.map λy=>(y.1,g y.1)).lookup x=some (g x)
 |[],h=>by obtain⟨k,h⟩:=h;cases h
 |(n,k)::r,h=>by
  show List.lookup x ((n,g n)::_)=_;cases hx:x == n with
  |true=>
   have e:x=n:=by simpa using hx
   subst e;simp[pV]
  |false=>
   simp only[pV,hx];refine Om (l:=r) ?_;obtain⟨k',h⟩:=h;rcases eO.mp h with e|e
   .cases e;simp at hx
   .exact⟨k',e⟩
theorem Od{g:Str->ak}{x:Str}{c:ak}:∀{l:List (Str×pX)},(l.map λy=>(y.1,g y.1)).lookup x=some c->c=g x/\∃k,(x,k)∈l
 |[],h=>by cases h
 |(n,k)::r,h=>by
  have h:List.lookup x ((n,g n)::(r.map λy=>(y.1,g y.1)))=some c:=h
  cases hx:x == n with
  |true=>
   have e:x=n:=by simpa using hx
   subst e;simp only[pV,hx] at h;exact⟨(Option.some.inj h).symm,k,nE⟩
  |false=>
   simp only[pV,hx] at h;obtain⟨e,k',hk⟩:=Od h;exact⟨e,k',oO _ hk⟩
def PM(h:(x,NameKind.free)∈names)(hc:env.cells.lookup x=some c):(kU env names).lookup x=some c:=by
 have:=Om (g:=λn=>(env.cells.lookup n).getD 0) (x:=x) (l:=(names.filter λy=>y.2 == .free).reverse) ⟨.free,by simp[h]⟩
 unfold kU;rw[this,hc];rfl
def Kb(hf:∀y∈names,y.2=.free->∃c,env.cells.lookup y.1=some c)(h:(kU env names).lookup x=some c):env.cells.lookup x=some c:=by
 obtain⟨e,k,hk⟩:=Od (g:=λn=>(env.cells.lookup n).getD 0) h
 have sN:=kc.mp (List.mem_reverse.mp hk);obtain⟨c',yF⟩:=hf _ sN.1 (by simpa using sN.2)
 have Mg:env.cells.lookup x=some c':=yF;rw[e,Mg];rfl
theorem IQ{env:Env}:∀(names:List (Str×pX)) (cs:List (Str×ak)),(∀y∈names,y.2=.free->∃c,env.cells.lookup y.1=some c)->
  (forIn names cs (λ(x:Str×pX) (r:List (Str×ak))=>if(x.2 == NameKind.free)=true then(do let a <-cellOf env x.1;pure (ForInStep.yield ((x.1,a)::r))) else(pure (ForInStep.yield r):Sem (ForInStep (List (Str×ak)))))) =
   pure (kU env names++cs)
 |[],cs,_=>by rw[List.forIn_nil];rfl
 |(n,k)::r,cs,h=>by
  rw[List.forIn_cons];cases hk:k == NameKind.free with
  |true=>
   obtain⟨c,hc⟩:=h (n,k) nE (by simpa using hk)
   have yF:env.cells.lookup n=some c:=hc;have e:cellOf env n=pure c:=by unfold cellOf;rw[yF]
   simp only[hk,bc,e,pure_bind];rw[IQ r _ λy hy=>h y (oO _ hy)]
   congr 1
   unfold kU;rw[AV];simp[hk,yF]
  |false=>
   simp only[hk,lK,ck,pure_bind];rw[IQ r _ λy hy=>h y (oO _ hy)]
   congr 1
   unfold kU;rw[AV];simp[hk]
def Ob(h:∀y∈scope.names,y.2=.free->∃c,env.cells.lookup y.1=some c):closureFor scope env=pure (kU env scope.names):=by
 have:=IQ (env:=env) scope.names [] h;rw[jq] at this;unfold closureFor;show(forIn scope.names [] _ >>= λr=>pure r)=_
 rw[bind_pure];exact this
theorem Oh{env:Env}:∀{names:List (Str×pX)} {x:Str},names.lookup x=some .free->
  (names.map λ(n,k)=>if(k == NameKind.free&&env.scope.kind == .function&&env.kindOf n == some .cell) then(n,NameKind.cell) else(n,k)).lookup x=some .cell\/
  (names.map λ(n,k)=>if(k == NameKind.free&&env.scope.kind == .function&&env.kindOf n == some .cell) then(n,NameKind.cell) else(n,k)).lookup x=some .free
 |[],_,h=>by simp at h
 |(n,k)::r,x,h=>by
  have ih:=@Oh env r x;show List.lookup x ((if(k == NameKind.free&&env.scope.kind == .function&&env.kindOf n == some .cell)=true then(n,NameKind.cell) else(n,k))::_)=_\/List.lookup x ((if(k == NameKind.free&&env.scope.kind == .function&&env.kindOf n == some .cell)=true then(n,NameKind.cell) else(n,k))::_)=_
  cases hx:x == n with
  |true=>
   simp only[pV,hx] at h;cases h;by_cases hc:(NameKind.free == NameKind.free&&env.scope.kind == .function&&env.kindOf n == some .cell)=true
   .rw[aU hc];simp[pV,hx]
   .rw[aY hc];simp[pV,hx]
  |false=>
   simp only[pV,hx] at h;by_cases hc:(k == NameKind.free&&env.scope.kind == .function&&env.kindOf n == some .cell)=true
   .rw[aU hc];simp only[pV,hx];exact ih h
   .rw[aY hc];simp only[pV,hx];exact ih h
theorem IS{env:Env}:∀{names:List (Str×pX)} {x:Str} {q:pX},(q=.cell\/q=.free)->(∀y∈names,y.2≠.cell)->
  (names.map λ(n,k)=>if(k == NameKind.free&&env.scope.kind == .function&&env.kindOf n == some .cell) then(n,NameKind.cell) else(n,k)).lookup x=some q->(x,NameKind.free)∈names
 |[],_,_,_,_,h=>by simp at h
 |(n,k)::r,x,q,hq,hn,h=>by
  have ih:=@IS env r x q hq λy hy=>hn y (oO _ hy)
  have hk:k≠.cell:=hn (n,k) nE;have h:List.lookup x ((if(k == NameKind.free&&env.scope.kind == .function&&env.kindOf n == some .cell)=true then(n,NameKind.cell) else(n,k))::_)=some q:=h
  cases hx:x == n with
  |true=>
   have e:x=n:=by simpa using hx
   subst e;by_cases hc:(k == NameKind.free&&env.scope.kind == .function&&env.kindOf x == some .cell)=true
   .have hf:k=.free:=by
     simp only[mG,beq_iff_eq] at hc;exact hc.1.1
    subst hf;exact nE
   .rw[aY hc] at h;simp only[pV,hx] at h;have e:k=q:=Option.some.inj h;rcases hq with rfl|rfl
    .exact bZ e hk
    .rw[e];exact nE
  |false=>
   by_cases hc:(k == NameKind.free&&env.scope.kind == .function&&env.kindOf n == some .cell)=true
   .rw[aU hc] at h;simp only[pV,hx] at h;exact oO _ (ih h)
   .rw[aY hc] at h;simp only[pV,hx] at h;exact oO _ (ih h)
def iH(X:Cx)(scope:Scope)(M:List Str)(C:ak)(s:az)(H:Hp)(fp:List ak):Cx:=
 {X with N:=M,s₀:=s,H₀:=H,env:=compEnvC scope (kU X.env scope.names) C X.env,outer:=X.stack,ex:=fp,fn:=λ_=>false,pn:=[],xe:=λ_ _=>False}
noncomputable def iR(k:Nat)(cap:List Nat)(Z:St):St:=List.replicate k none++cap.map λi=>(Z[i]?).join
def qJ(X:Cx)(ifs:List Expr)(t:TT):Prop:=
 ∀(ae:List (ak×Obj)) (s:az) (Z:St) (H:Hp) (Q:Bool->Hp->Prop),Inv X ae Z H s->t Z H Q->
  wpAny (model X.prog X.w) X.A (forIn ifs true λc r=>if r=true then do let ok <-isTrue c X.env (eval c X.env);pure (ForInStep.yield ok) else pure (ForInStep.yield r)) (TP X ae Z Q) X.xe s
def Nz:TT:=λ_ H Q=>Q true H
def vJ:qJ X [] Nz:=λ_ _ Z H _ I h=>wpAny_tests_nil ⟨H,I,h⟩
def Yt{c:Expr}{t:TT}(hc:PT X c t):qJ X [c] t:=λae s Z H Q I h=>wpAny_tests_one (hc ae s Z H Q I h)
def UA{R:Result->az->Prop}{elt target iter:Expr}{ifs:List Expr}{pos:Pos}{it aE:aq}(I:Nat->az->Prop)
  (turn:∀n s,I n s->wpAny (model prog w) A (pyNext it) (λr s₁=>match r with
   |none=>R (.ok .next) s₁
   |some v=>wpAny (model prog w) A (letOwnedTupleGo target it v) (λ_ s₀=>wpAny (model prog w) A (assign target env v) (λ_ s₂=>
     wpAny (model prog w) A (forIn ifs true λc r=>if r=true then do let ok <-isTrue c env (eval c env);pure (ForInStep.yield ok) else pure (ForInStep.yield r)) (λok s₃=>
      if ok=true then wpAny (model prog w) A (eval elt env) (λx s₄=>
       wpAny (model prog w) A (call (.builtin "list.append") [aE,x]) (λ_ s₅=>∃m,m<n/\I m s₅) (λ_ _=>False) s₄) (λ_ _=>False) s₃
      else ∃m,m<n/\I m s₃) (λ_ _=>False) s₂) (λ_ _=>False) s₀) (λ_ _=>False) s₁) (λ_ _=>False) s)
  (n:Nat) (h:I n s) :
  codeAny (model prog w) A (.compLoop (.ListComp elt [⟨target,iter,ifs,0⟩] scope pos) 0 it aE env) R s:=by
 refine codeAny_loop rfl I (λn s hI=>?_) n h
 show wpAny _ A ((compTurn (.ListComp elt [⟨target,iter,ifs,0⟩] scope pos) 0 it aE env).onRaise (λx=>do noteFrame x env;theTreesLotGoes x)) _ _ s
 refine wpAny_noted ?_;rw[compTurn_list];refine aI (wpAny_standAt (aI (wpAny_mono (turn n s hI) (λr s₁ h₁=>?_) λ_ _ h'=>h'.elim)))
 cases r with
 |none=>exact bz h₁
 |some v=>
  refine aI (wpAny_mono h₁ (λ_ s₀ h₀=>?_) λ_ _ h'=>h'.elim)
  refine aI (wpAny_mono h₀ (λ_ s₂ h₂=>aI (wpAny_mono h₂ (λok s₃ h₃=>?_) λ_ _ h'=>h'.elim)) λ_ _ h'=>h'.elim)
  cases ok with
  |false=>exact bz ⟨rfl,h₃⟩
  |true=>
   exact aI (aI (wpAny_mono h₃ (λx s₄ h₄=>aI (wpAny_mono h₄ (λ_ s₅ h₅=>bz (bz ⟨rfl,h₅⟩)) λ_ _ h'=>h'.elim)) λ_ _ h'=>h'.elim))
def Inv.Ef{ae:List (ak×Obj)}{Z:St}{o:HO}(I:Inv X ae Z H s)(hn:H a=none)(hy:X.s₀.heap.objs.size<=a)(hL:a≠X.env.locals)(hC:∀x c,X.env.cells.lookup x=some c->c≠a)
  (hP:∀p∈X.pn++ae,p.1≠a) (new:cG X.prog X.w (upd H a o) s.heap a o):Inv X ae Z (upd H a o) s:=by
 refine⟨I.ok,I.os,I.bare,⟨I.base.keep,I.base.slot,λb ob e n hx=>?_,I.base.there,λb xs e=>?_,λb ob u e=>?_,λb ps e=>?_⟩,I.loc,I.cell,?_,λx c e=>?_,λp hp=>?_,λb u e=>?_,I.len⟩
 .rw[cW (lJ (iP (fW e) hy))];exact I.base.free b ob e n hx
 .have z:=I.base.m_ b xs e;rw[cW (mI z hn)];exact z
 .have z:=I.base.lS b ob u e;rw[cW (mI z hn)];exact z
 .obtain⟨m,z⟩:=I.base.mZ b ps e;exact⟨m,by rw[cW (mI z hn)];exact z⟩
 .rw[cW (Ne.symm hL)];exact I.free
 .rw[cW (hC x c e)];exact I.ir x c e
 .obtain⟨e,n,r⟩:=I.pin p hp;exact⟨e,by rw[cW (hP p hp)];exact n,r⟩
 .by_cases hb:b=a
  .subst hb;rw[jl] at e;cases e;exact new
  .rw[cW hb] at e;exact(I.cX b u e).oI (λc v _ q=>q) (λc q=>by rw[cW (mI q hn)];exact q) λc xs q=>by rw[cW (mI q hn)];exact q
def kM(J:It)(g:TG)(tt:TT)(te:TE)(τ₀:St)(H1:Hp)(Fin:List V->Hp->Prop):Prop:=
 ∃(n:Nat) (W:Nat->St->List V->Hp->Prop),W 0 τ₀ [] H1/\∀i τ aE H,i<=n->W i τ aE H->
  (J.stop i H/\Fin aE H)\/(i<n/\J.go i H/\∀x H',J.xC i H x H'->g x τ H' λτ2 H2=>tt τ2 H2 λb H3=>if b=true then te τ2 H3 λv H4=>aE.length<sizeLine/\W (i+1) τ2 (aE++[v]) H4 else W (i+1) τ2 aE H3)
structure b_ (X:Cx) (scope:Scope) (M:List Str) (k:Nat) (cap:List Nat):Prop where
 kind:scope.kind=.function
 cell:∀y∈scope.names,y.2≠.cell
 free:∀y∈scope.names,y.2=.free->X.env.kindOf y.1=some .cell\/X.env.kindOf y.1=some .free
 names:∀y∈scope.names,y.2=.local -> scope.names.lookup y.1=some .local
 len:M.length=k+cap.length
 KW:∀(j i:Nat) (x:Str),cap[j]?=some i->M[k+j]?=some x->X.N[i]?=some x/\scope.names.lookup x=some .free
section
variable{X:Cx}{ae:List (ak×Obj)}{Z:St}{tg elt iter:Expr}{ifs:List Expr}{scope:Scope}{pos:Pos}{M:List Str}{k:Nat}{cap:List Nat}{g:TG}{tt:TT}{te:TE}
def Inv.jz(I:Inv X ae Z H s)(ok:b_ X scope M k cap):∀y∈scope.names,y.2=.free->∃c,X.env.cells.lookup y.1=some c:=λy hy e=>I.ok.has y.1 (ok.free y hy e)
def Inv.block{s4:az}{C D:ak}{oD:Obj}{m:Str->ao aq}(I:Inv X ae Z H s)(ok:b_ X scope M k cap)(f2:∀b∈fp,kd X ae H b)(HA:∀b∈fp,∃o,s.heap.get? b=some o/\∀v,o.data≠.cell v)
  (hC:s.heap.objs.size<=C) (C6:D≠C) (hD:s.heap.objs.size<=D) (old:∀b o,s.heap.get? b=some o->s4.heap.get? b=some o) (os:s4.os=s.os) (gens:s4.gens=s.gens)
  (ns:s4.heap.Ns C m) (hoD:s4.heap.get? D=some oD) (hdD:∀v,oD.data≠.cell v):Inv (iH X scope M C s H fp) [(D,oD)] (iR k cap Z) H s4:=by
 have hf:=I.jz ok;have fr:∀a,s.heap.objs.size<=a->H a=none:=λa ha=>I.cX.fresh ha
 have nfs:∀b∈rF X.stack,b<s.heap.objs.size:=λb hb=>by
  rcases eO.mp (I.lj b hb) with e|e
  .rw[e];exact I.lt
  .exact Nat.lt_of_not_le λz=>I.yT z e
 have cl:∀x c,(kU X.env scope.names).lookup x=some c->X.env.cells.lookup x=some c:=λx c e=>Kb hf e
 refine⟨⟨I.ok.mod,ok.kind,I.ok.glob,I.ok.blt,hC,λx y c e1 e2=>I.ok.inj x y c (cl x c e1) (cl y c e2),λx hx=>?_,λx c e _=>?_,I.ok.hd,I.ok.frames,.inl rfl,λb hb=>?_,I.bs,nD I.ok.wJ I.sz,λb o e hb=>?_,λb hb z=>?_,I.stack,I.qz⟩,os,by rw[gens];exact I.bare,Un.kept old,⟨m,ns,λi x v h1 h2 h3=>?_⟩,λx c e=>?_,fr C hC,λx c e=>I.ir x c (cl x c e),λp hp=>?_,I.cX.kept old,?_⟩
 .have hx:(relabel scope X.env).names.lookup x=some .cell\/(relabel scope X.env).names.lookup x=some .free:=hx;have hm:(x,NameKind.free)∈scope.names:=by
   rcases hx with h|h
   .exact IS (env:=X.env) (.inl rfl) ok.cell h
   .exact IS (env:=X.env) (.inr rfl) ok.cell h
  obtain⟨c,hc⟩:=hf _ hm rfl;exact⟨c,PM hm hc⟩
 .cases e
 .obtain⟨f0,f1,f2,f3,f4,f5⟩:=f2 b hb;obtain⟨ob,eb,_⟩:=HA b hb;exact⟨lJ (iP (fW eb) hC),λx c e=>f4 x c (cl x c e)⟩
 .obtain⟨f0,f1,f2,f3,f4,f5⟩:=f2 b hb;rcases f3 with q|q
  .exact I.ok.s_ b o e q
  .exact bZ (iP (fW e) (nD I.ok.wJ q)) (pT _)
 .obtain⟨f0,f1,f2,f3,f4,f5⟩:=f2 b hb;rcases eO.mp (I.lj b z) with q|q
  .exact f1 q
  .exact f2 q
 .unfold iR at h2;have hk:¬i<k:=λq=>by
   rw[xB (by simpa using q),List.getElem?_replicate] at h2
   split at h2 <;> cases h2
  rw[zi (by simpa using hk),List.length_replicate,jO] at h2
  cases e:cap[i - k]? with
  |none=>rw[e] at h2;cases h2
  |some j=>
   rw[e] at h2;have wY:(Z[j]?).join=some v:=Option.some.inj h2;have hj:Z[j]?=some (some v):=by
    cases q:Z[j]? with
    |none=>rw[q] at wY;cases wY
    |some z=>rw[q] at wY;simp at wY;rw[wY]
   have yG:k+(i - k)=i:=by lia
   obtain⟨hN,Tt⟩:=ok.KW (i - k) j x e (by rw[yG];exact h1)
   have hm:(x,NameKind.free)∈scope.names:=PySem.mem_of_lookup Tt;have Tz:=ok.free _ hm rfl;obtain⟨mX,hnX,hlX⟩:=I.loc;obtain⟨u,ru,lk⟩:=hlX j x v hN hj (by rcases Tz with q|q;exact .inr (.inl q);exact .inr (.inr q))
   refine⟨u,ru,.inr ⟨Oh (env:=X.env) Tt,?_⟩⟩;rcases lk with⟨q,_⟩|⟨_,c,hc,qq⟩
   .rcases Tz with z|z
    .rw[show X.env.kindOf x=some .cell from z] at q;cases q
    .rw[show X.env.kindOf x=some .free from z] at q;cases q
   .exact⟨c,PM hm hc,qq.keeps old⟩
 .obtain⟨v,z⟩:=I.cell x c (cl x c e);exact⟨v,z.keeps old⟩
 .have e:p=(D,oD):=by simpa[iH] using hp
  subst e;exact⟨hoD,fr D hD,C6,λz=>bZ (iP (nfs D z) hD) (pT _),hdD⟩
 .unfold iR;rw[du,List.length_replicate,bK];exact ok.len.symm
def OZ{H2:Hp}{s2:az}{J:It}{it:ak}{tn:Nat->cS->Prop}{RR:aq->ak->Result->az->Prop}{E:aq->az->Prop}(I2:Inv X ae Z H2 s2)(hc:X.calm=true)(ok:b_ X scope M k cap)
  (T:Turn X.prog X.w X.K tg J fp it tn) (xt:tn 0 s2.heap) (f2:∀b∈fp,kd X ae H2 b)
  (hg:∀C s H fp,PG (iH X scope M C s H fp) tg g) (ht:∀C s H fp,qJ (iH X scope M C s H fp) ifs tt) (he:∀C s H fp,PE (iH X scope M C s H fp) elt te)
  (hW:kM J g tt te (iR k cap Z) H2 Fin)
  (hRR:∀D C s' H' aE,Inv X ae Z (upd H' D (.lst aE)) s'->kd X ae (upd H' D (.lst aE)) C->(∃m,s'.heap.Ns C m)->H' D=none->Fin aE H'->RR (.ref D) C (.ok .next) s') :
  wpAny (model X.prog X.w) X.A (newList []) (λaE s₃=>wpAny (model X.prog X.w) X.A (newFunctionEnv scope X.env.globals (kU X.env scope.names) [] X.env.qual none .none (some X.env)) (λCD s₄=> codeAny (model X.prog X.w) X.A (.compStart (.ListComp elt [⟨tg,iter,ifs,0⟩] scope pos) 0 (.ref it) aE { CD with scope:=relabel scope X.env}) (RR aE CD.locals) s₄) E s₃) E s2:=by
 refine wpAny_newObj_type (wpAny_newFunctionEnv ok.cell (by intro y hy;simp at hy) (λh₁ hns₁ hsb₁=>?_) ok.kind)
 dsimp only at hns₁ hsb₁ ⊢;generalize Mb:s2.heap.push { cls:=.type "list",dict:=none,data:=.seq ([]:List aq).toArray}=H3 at hns₁ hsb₁ ⊢;have L_:H3.objs.size=s2.heap.objs.size+1:=by rw[<-Mb,Heap.size_push]
 have C6:s2.heap.objs.size≠H3.objs.size:=by rw[L_];exact lJ (AW _)
 have below:∀b,b<s2.heap.objs.size->b≠H3.objs.size/\b≠s2.heap.objs.size:=λb hb=>⟨by rw[L_];exact lJ (Nat.lt_succ_of_lt hb),lJ hb⟩
 have old:∀b o,s2.heap.get? b=some o->h₁.get? b=some o:=λb o e=>hsb₁.extBut b o (below b (fW e)).1 (jN _ (Mb ▸ jN _ e))
 have vk:h₁.get? s2.heap.objs.size=some { cls:=.type "list",data:=.seq ([]:List aq).toArray 0}:=hsb₁.extBut _ _ C6 (jN _ (Mb ▸ oP _ rfl));have HA:=T.obj 0 _ xt;have vj:s2.heap.objs.size<=H3.objs.size:=by rw[L_];exact Ik _
 obtain⟨N,W,w0,turn⟩:=hW;have Ue:tn 0 h₁:=T.keep _ _ _ xt λb _ o e=>old b o e
 have loop:∀s₃:az,s₃={ s2 with heap:=h₁,toks:=s2.toks+([]:List (Str×aq)).length}->
   codeAny (model X.prog X.w) X.A (.compLoop (.ListComp elt [⟨tg,iter,ifs,0⟩] scope pos) 0 (.ref it) (.ref s2.heap.objs.size) (compEnvC scope (kU X.env scope.names) H3.objs.size X.env))
    (RR (.ref s2.heap.objs.size) H3.objs.size) s₃:=by
  rintro s₃ rfl;have I3:Inv (iH X scope M H3.objs.size s2 H2 fp) [(s2.heap.objs.size,{ cls:=.type "list",data:=.seq ([]:List aq).toArray 0})] (iR k cap Z) H2 { s2 with heap:=h₁,toks:=s2.toks+([]:List (Str×aq)).length}:=
   I2.block ok f2 HA vj C6 (cP _) old rfl rfl hns₁ vk (λv z=>by cases z)
  have LR:∀b∈fp,b≠H3.objs.size/\b≠s2.heap.objs.size:=λb hb=>let ⟨o,e,_⟩:=HA b hb;below b (fW e)
  have pP:∀{H':Hp} {oD:Obj},(∀b∈fp,H' b=none)->∀b∈fp,kd (iH X scope M H3.objs.size s2 H2 fp) [(s2.heap.objs.size,oD)] H' b:=λ{H' oD} hn b hb=>by
   obtain⟨f0,f1,f2,f3,f4,f5⟩:=f2 b hb;refine⟨hn b hb,(LR b hb).1,λz=>?_,.inl hb,λx c e=>f4 x c (Kb (I2.jz ok) e),λp hp z=>?_⟩
   .rcases eO.mp (I2.lj b z) with q|q
    .exact f1 q
    .exact f2 q
   .have e:p=(s2.heap.objs.size,oD):=by simpa[iH] using hp
    subst e;exact(LR b hb).2 z.symm
  refine UA (λn s'=>∃(i:Nat) (τ:St) (aE:List V) (us:List aq) (c:Nat) (H':Hp),Vals aE us/\aE.length<=sizeLine/\ Inv (iH X scope M H3.objs.size s2 H2 fp) [(s2.heap.objs.size,{ cls:=.type "list",data:=.seq us.toArray c})] τ H' s'/\tn i s'.heap/\(∀b∈fp,H' b=none)/\n=N - i/\i<=N/\W i τ aE H') ?_ N
   ⟨0,iR k cap Z,[],[],0,H2,.nil,kK _,I3,Ue,λb hb=>(f2 b hb).1,rfl,kK _,w0⟩
  rintro n s3 ⟨i,τ,aE,us,c,H',rv,hlen,I,st,fr,rfl,hiN,w⟩;have pinD:=(I.pin (s2.heap.objs.size,{ cls:=.type "list",data:=.seq us.toArray c}) (by simp[iH]))
  rcases turn i τ aE H' hiN w with⟨stop,qn⟩|⟨gZ,go,step⟩
  .refine cL (T.done (iH X scope M H3.objs.size s2 H2 fp) rfl rfl rfl hc i _ s3 τ H' (λ_ _=>False) I (pP fr) st stop) λr s4 ⟨hr,I4⟩=>?_
   subst hr;have tK:=(I4.pin (s2.heap.objs.size,{ cls:=.type "list",data:=.seq us.toArray c}) (by simp[iH]))
   have rH:∀b∈fp,(b∈X.ex\/X.s₀.heap.objs.size<=b)/\b≠X.env.locals/\(∀x c,X.env.cells.lookup x=some c->c≠b)/\∀p∈X.pn++ae,p.1≠b:=λb hb=>by
    obtain⟨f0,f1,f2,f3,f4,f5⟩:=f2 b hb;exact⟨f3,f1,f4,f5⟩
   have J1:Inv X ae Z H' s4:=I2.CC (ch:=fp) I4.os I4.base I4.cX I4.bare rH;have young:X.s₀.heap.objs.size<=s2.heap.objs.size:=I2.sz;have apart:∀a,s2.heap.objs.size<=a->a≠X.env.locals/\(∀x c,X.env.cells.lookup x=some c->c≠a)/\∀p∈X.pn++ae,p.1≠a:=λa ha=>
    ⟨Nat.ne_of_gt (iP I2.lt ha),λx c e z=>by
     obtain⟨v,q⟩:=I2.cell x c e;exact bZ (iP q.lt (by rw[z];exact ha)) (pT _),λp hp z=>bZ (iP (fW (I2.pin p hp).1) (by rw[z];exact ha)) (pT _)⟩
   have aD:=apart _ (cP _);have aC:=apart _ vj;have J2:Inv X ae Z (upd H' s2.heap.objs.size (.lst aE)) s4:=J1.Ef tK.2.1 young aD.1 aD.2.1 aD.2.2 ⟨hlen,us,c,rv,tK.1⟩;obtain⟨m,hn,_⟩:=I4.loc;have hCn:H' H3.objs.size=none:=I4.free;refine hRR _ _ s4 H' aE J2 ⟨?_,aC.1,I2.yT vj,.inr (nD young vj),aC.2.1,aC.2.2⟩ ⟨m,hn⟩ tK.2.1 qn;rw[cW (Ne.symm C6)];exact hCn
  .refine cL (T.item (iH X scope M H3.objs.size s2 H2 fp) rfl rfl rfl hc i _ s3 τ H' (λ_ _=>False) I (pP fr) st go) λr s4 ⟨u,hr,h4⟩=>?_
   subst hr;refine cL h4 λ_ s5 hh=>?_
   obtain⟨x,H5,I5,r5,y5,zc,LU⟩:=hh;have IA:=I5.pinned (pP LU) (T.obj _ _ zc);refine cL (hg _ _ _ _ _ s5 τ H5 x u _ IA r5 (step x H5 y5)) λ_ s6 hh=>?_
   obtain⟨τ6,H6,I6,q6⟩:=hh;refine cL (ht _ _ _ _ _ s6 τ6 H6 _ I6 q6) λb s7 hh=>?_
   obtain⟨H7,I7,q7⟩:=hh;have sW:∀{s':az} {τ':St} {Hn:Hp},Inv (iH X scope M H3.objs.size s2 H2 fp) ([(s2.heap.objs.size,{ cls:=.type "list",data:=.seq us.toArray c})]++B9 fp s5.heap) τ' Hn s'->tn (i+1) s'.heap/\∀b∈fp,Hn b=none:=λ{s' τ' Hn} I'=>by
    refine⟨T.keep _ _ _ zc λb hb o e=>(I'.pin (b,o) (gE _ (gE _ (EO hb e)))).1,λb hb=>?_⟩
    obtain⟨o,e,d⟩:=T.obj _ _ zc b hb;exact(I'.pin (b,o) (gE _ (gE _ (EO hb e)))).2.1
   cases b with
   |false=>
    rw[aY t8] at q7;show ∃m,m<N - i/\_;obtain⟨st7,LV⟩:=sW I7;exact⟨N - (i+1),by lia,i+1,τ6,aE,us,c,H7,rv,hlen,I7.iC,st7,LV,rfl,gZ,q7⟩
   |true=>
    rw[aU rfl] at q7;show wpAny _ _ (eval elt _) _ _ s7;refine cL (he _ _ _ _ _ s7 τ6 H7 _ I7 q7) λv s8 hh=>?_
    obtain⟨y,H8,I8,r8,hl8,w8⟩:=hh;obtain⟨st8,fr8⟩:=sW I8;have mw:=(I8.pin (s2.heap.objs.size,{ cls:=.type "list",data:=.seq us.toArray c}) (by simp[iH]))
    have hul:=rv.length;refine append_at (hsz:=by show us.toArray.size<=sizeLine;rw[fI,<-hul];exact hlen) mw.1 λh9 Ub e9=>?_
    have e9':h9.get? s2.heap.objs.size=some { cls:=.type "list",data:=.seq (us++[v]).toArray (c+1)}:=by rw[e9,List.push_toArray]
    have Uy:=I8.iC;have C8:s2.heap.objs.size≠(iH X scope M H3.objs.size s2 H2 fp).env.locals:=mw.2.2.1;have nx:∀(b:ak),H8 b≠none->b≠s2.heap.objs.size:=λb hb z=>hb (by rw[z];exact mw.2.1)
    refine⟨N - (i+1),by lia,i+1,τ6,aE++[y],us++[v],c+1,H8,rv.append (.cons r8 .nil),by rw[du,ko];exact hl8,?_,?_,fr8,rfl,gZ,w8⟩
    .have I9:Inv (iH X scope M H3.objs.size s2 H2 fp) [] τ6 H8 s8:=Uy.kH (λp hp=>bZ hp (by simp))
     have Ux:Inv (iH X scope M H3.objs.size s2 H2 fp) [] τ6 H8 { s8 with heap:=h9}:=I9.turned (t':=s8.toks) (λb o hb e=>(Ub.2 b hb).trans e) mw.2.1 C8 (.inr (cP _))
      (λx cc e z=>by
       obtain⟨v',q⟩:=I2.cell x cc (Kb (I2.jz ok) e);exact bZ (iP q.lt (by rw[z];exact cP _)) (pT _)) (λp hp=>bZ hp (by simp[iH]))
     refine Ux.kH λp hp=>?_
     have e:p=(s2.heap.objs.size,{ cls:=.type "list",data:=.seq (us++[v]).toArray (c+1)}):=by simpa using hp
     subst e;exact⟨e9',mw.2.1,C8,mw.2.2.2.1,λv' z=>by cases z⟩
    .exact T.keep _ _ _ st8 λb hb o e=>Ub.extBut b o (LR b hb).2 e
 exact codeAny_compStart_list (loop _ rfl) (T.self _ 0 _ _ _ Ue (loop _ rfl))
def t4(wi:TI)(g:TG)(tt:TT)(te:TE)(k:Nat)(cap:List Nat):TE:=λZ H Q=>wi Z H λJ H1=>kM J g tt te (iR k cap Z) H1 λaE H'=>∀l,H' l=none->Q (.ref l) (upd H' l (.lst aE))
def Yu(hc:X.calm=true)(ok:b_ X scope M k cap)(hi:PI X tg iter wi)
  (hg:∀C s H fp,PG (iH X scope M C s H fp) tg g) (ht:∀C s H fp,qJ (iH X scope M C s H fp) ifs tt) (he:∀C s H fp,PE (iH X scope M C s H fp) elt te)
  (hs:∀x,foldedSetIterable iter X.env x=pure x:=by intro _;rfl):PE X (.ListComp elt [⟨tg,iter,ifs,0⟩] scope pos) (t4 wi g tt te k cap):=by
 intro ae s Z H Q I h;rw[eval_ListComp];refine wpAny_comprehension_free (use:=none) rfl hs (Ob (I.jz ok)) ok.kind ok.names (cL (hi ae s Z H _ I h) λv s1 h1=>cL h1 λHK s2 h2=>?_)
 obtain⟨it,fp,tn,J,H2,e,I2,T,xt,f2,hW⟩:=h2;subst e;refine OZ (RR:=λaE C=>compPost (model X.prog X.w) X.A X.xe none (EP X ae Z Q) aE C) I2 hc ok T xt f2 hg ht he hW ?_
 intro D C s' H' aE I' fC ⟨m,hn⟩ hD hq;refine⟨m,hn,λh' sb=>?_⟩
 obtain⟨f0,f1,f2,f3,f4,f5⟩:=fC;exact⟨.ref D,_,I'.turned (t':=s'.toks) (λb o hb e=>(sb.2 b hb).trans e) f0 f1 f3 f4 f5,rfl,hq D hD⟩
def DX(wi:TI)(g:TG)(tt:TT)(te:TE)(k:Nat)(cap:List Nat)(i:Nat):TS:=λD Z H=>t4 wi g tt te k cap Z H λv H'=>D.nx (Z.set i (some v)) H'
def Qy{i:Nat}{px oH:Pos}(hc:X.calm=true)(ok:b_ X scope M k cap)(hN:X.N.Nodup)(yG:X.N[i]?=some x)(hx:Loc X.env.scope x)(hi:PI X tg iter wi)
  (hg:∀C s H fp,PG (iH X scope M C s H fp) tg g) (ht:∀C s H fp,qJ (iH X scope M C s H fp) ifs tt) (he:∀C s H fp,PE (iH X scope M C s H fp) elt te)
  (Dn:swapsWith (.ListComp elt [⟨tg,iter,ifs,0⟩] scope pos) (some (.Name x px)) oH.line X.env=pure true)
  (hs:∀x,foldedSetIterable iter X.env x=pure x:=by intro _;rfl) (hf:X.fn x=true\/X.env.scope.names.lookup x=some .local := by first|exact .inl rfl|exact .inr rfl|assumption) :
  PS X (.Assign [.Name x px] (.ListComp elt [⟨tg,iter,ifs,0⟩] scope pos) oH) (DX wi g tt te k cap i):=by
 intro ae s Z H D I h;rw[exec_Assign_Name_used _ _ _ _ Dn];refine aI (wpAny_standAt (aI ?_));show wpAny _ X.A (do let _ <-comprehension (.ListComp elt [⟨tg,iter,ifs,0⟩] scope pos) scope X.env _ (newList []) false (eval iter X.env) (some (assign (.Name x px) X.env))) _ _ s
 refine aI (wpAny_mono (wpAny_comprehension_free (use:=some (assign (.Name x px) X.env)) (Q:=λ_ s'=>SP X ae D .next s') rfl hs (Ob (I.jz ok)) ok.kind ok.names (cL (hi ae s Z H _ I h) λv s1 h1=>cL h1 λHK s2 h2=>?_)) (λ_ s' hq=>bz (bz hq)) λ_ _ e=>e)
 obtain⟨it,fp,tn,J,H2,e,I2,T,xt,f2,hW⟩:=h2;subst e;refine OZ (RR:=λaE C=>compPost (model X.prog X.w) X.A X.xe (some (assign (.Name x px) X.env)) (λ_ s'=>SP X ae D .next s') aE C) I2 hc ok T xt f2 hg ht he hW ?_
 intro D' C s' H' aE I' fC ⟨m,hn⟩ hD hq;obtain⟨f0,f1,f2,f3,f4,f5⟩:=fC;show wpAny _ X.A (assign (.Name x px) X.env (.ref D')) _ _ _;refine wpAny_assign_Name (OQ I' hN yG hx (v:=.ref D') rfl (λDW Uv hh=>?_) hf)
 obtain⟨a,sb,ha⟩:=hh;have hCa:C≠a:=by
  rcases ha with e|e
  .rw[e];exact f1
  .exact λz=>f4 _ _ e z.symm
 refine⟨m,hn.sameBut sb hCa,λh' sb'=>⟨_,_,Uv.turned (t':=DW.toks) (λb o hb e=>(sb'.2 b hb).trans e) f0 f1 f3 f4 f5,hq D' hD⟩⟩
end
noncomputable def yw(c:Nat):Str:=⟨#[c]⟩
def VI{K:FG}{xs:List V}(Pv:Nat->St->List V->Hp->Prop)(h0:Pv 0 τ [] H)(hl:∀i τ aE H,i<=xs.length->Pv i τ aE H->dO K H a xs)
  (hs:∀i x τ aE H,xs[i]?=some x->Pv i τ aE H->g x τ H λτ2 H2=>tt τ2 H2 λb H3=>if b=true then te τ2 H3 λv H4=>aE.length<sizeLine/\Pv (i+1) τ2 (aE++[v]) H4 else Pv (i+1) τ2 aE H3)
  (hd:∀τ aE H,Pv xs.length τ aE H->Fin aE H):kM (xG K a) g tt te τ H Fin:=by
 refine⟨xs.length,Pv,h0,λi τ aE H hi p=>?_⟩
 have q:=hl i τ aE H hi p;by_cases gZ:i<xs.length
 .refine .inr ⟨gZ,⟨xs,xs[i],q,by simp[gZ]⟩,λx H' y=>?_⟩
  obtain⟨e,y⟩:=y;subst e;exact hs i x τ aE _ (y xs q) p
 .have e:i=xs.length:=by lia
  subst e;exact .inl ⟨⟨xs,q,cP _⟩,hd τ aE H p⟩
def Oy{lo:Int}{n:Nat}(Pv:Nat->St->List V->Hp->Prop)(h0:Pv 0 τ [] H)
  (hs:∀i τ aE H,i<n->Pv i τ aE H->g (.int (lo+i)) τ H λτ2 H2=>tt τ2 H2 λb H3=>if b=true then te τ2 H3 λv H4=>aE.length<sizeLine/\Pv (i+1) τ2 (aE++[v]) H4 else Pv (i+1) τ2 aE H3)
  (hd:∀τ aE H,Pv n τ aE H->Fin aE H):kM (ue lo n) g tt te τ H Fin:=by
 refine⟨n,Pv,h0,λi τ aE H hi p=>?_⟩
 by_cases gZ:i<n
 .refine .inr ⟨gZ,gZ,λx H' y=>?_⟩
  obtain⟨e,y⟩:=y;subst e y;exact hs i τ aE _ gZ p
 .have e:i=n:=by lia
  subst e;exact .inl ⟨cP _,hd τ aE H p⟩
noncomputable def Qz(names outer:List (Str×pX))(N M:List Str)(k:Nat)(cap:List Nat):Bool:=
 names.all (λy=>y.2 != .cell)&&(names.all (λy=>y.2 != .free || (outer.lookup y.1 == some .cell || outer.lookup y.1 == some .free))&&(names.all (λy=>y.2 != .local || names.lookup y.1 == some .local) && (M.length == k+cap.length&&(List.range cap.length).all (λj=>match cap[j]?,M[k+j]? with|some i,some x=>N[i]? == some x&&names.lookup x == some .free|_,_=>true))))
def b_.of{M:List Str}{cap:List Nat}(outer:List (Str×pX))(N:List Str)(h:Qz scope.names outer N M k cap=true)(ho:X.env.scope.names=outer:=by rfl)(hN:X.N=N:=by rfl)(hk:scope.kind=.function:=by rfl):b_ X scope M k cap:=by
 unfold Qz at h;simp only[mG,jH,Bool.or_eq_true,bne_iff_ne,ne_eq,beq_iff_eq] at h;obtain⟨h1,h2,h3,h4,h5⟩:=h;refine⟨hk,h1,λy hy e=>?_,λy hy e=>?_,h4,λj i x e1 e2=>?_⟩
 .rcases h2 y hy with z|z
  .exact bZ e z
  .show X.env.scope.names.lookup y.1=_\/X.env.scope.names.lookup y.1=_;rw[ho];exact z
 .rcases h3 y hy with z|z
  .exact bZ e z
  .exact z
 .have hj:j<cap.length:=(e_.mp e1).1;have:=h5 j (nv.mpr hj);rw[e1,e2] at this;simp only[mG,beq_iff_eq] at this;rw[hN];exact this
section
variable{X:Cx}
def Yv:f_ X (compareOp .IsNot) (λx y H Q=>∃a b,x=.bl a/\y=.bl b/\Q (.bl (a != b)) H):=by
 intro ae s Z H x y v u Q I rx ry h;obtain⟨a,b,rfl,rfl,q⟩:=h;cases rx;cases ry;exact isnot_bool (zR I q rfl)
def FV(K:FG)(H:Hp):V->String->Prop
 |.bL,n=>n="NoneType"
 |.bl _,n=>n="bool"
 |.int _,n=>n="int"
 |.str _,n=>n="str"
 |.ref a,n=>(n="list"/\∃xs,dO K H a xs)\/(n="tuple"/\∃xs,fX K H a xs)
 |_,_=>False
def jV(k T:String):Bool:=k == T || (k == "bool" && T == "int")
def WV:cY X (.builtin "isinstance") (λxs H Q=>∃x k T,xs=[x,.ty T]/\FV X.K H x k/\(T="int"\/T="str"\/T="bool"\/T="list"\/T="tuple")/\Q (.bl (jV k T)) H):=by
 intro ae s Z H xs us Q I r h;obtain⟨x,k,T,rfl,hk,hT,q⟩:=h;obtain⟨u,w',rfl,rx,ry⟩:=vals2 r;cases ry;have fin:∀b,b=jV k T->EP X ae Z Q (.bool b) s:=λb e=>zR I q e.symm
 have dr:∀b,b=jV k T->EP X ae Z Q (.bool b) { s with toks:=s.toks+1}:=λb e=>zR (I.tok _) q e.symm
 cases x with
 |bL=>
  cases rx;have hk:k="NoneType":=hk;subst hk;rcases hT with rfl|rfl|rfl|rfl|rfl
  .exact IsiPair.NoneType_int (dr _ (by decide))
  .exact IsiPair.NoneType_str (dr _ (by decide))
  .exact IsiPair.NoneType_bool (dr _ (by decide))
  .exact IsiPair.NoneType_list (dr _ (by decide))
  .exact IsiPair.NoneType_tuple (dr _ (by decide))
 |bl b=>
  cases rx;have hk:k="bool":=hk;subst hk;rcases hT with rfl|rfl|rfl|rfl|rfl
  .exact IsiPair.bool_int (fin _ (by decide))
  .exact IsiPair.bool_str (dr _ (by decide))
  .exact IsiPair.bool_bool (fin _ (by decide))
  .exact IsiPair.bool_list (dr _ (by decide))
  .exact IsiPair.bool_tuple (dr _ (by decide))
 |int i=>
  obtain⟨t,rfl⟩:=rx;have hk:k="int":=hk;subst hk;rcases hT with rfl|rfl|rfl|rfl|rfl
  .exact IsiPair.int_int (fin _ (by decide))
  .exact IsiPair.int_str (dr _ (by decide))
  .exact IsiPair.int_bool (dr _ (by decide))
  .exact IsiPair.int_list (dr _ (by decide))
  .exact IsiPair.int_tuple (dr _ (by decide))
 |str z=>
  obtain⟨t,rfl⟩:=rx;have hk:k="str":=hk;subst hk;rcases hT with rfl|rfl|rfl|rfl|rfl
  .exact IsiPair.str_int (dr _ (by decide))
  .exact IsiPair.str_str (fin _ (by decide))
  .exact IsiPair.str_bool (dr _ (by decide))
  .exact IsiPair.str_list (dr _ (by decide))
  .exact IsiPair.str_tuple (dr _ (by decide))
 |ref a=>
  cases rx;rcases hk with⟨hk,ys,hs⟩|⟨hk,ys,hs⟩
  .subst hk;obtain⟨aG,_,⟨o,n,e,hc,_⟩,_⟩:=I.list hs;rcases hT with rfl|rfl|rfl|rfl|rfl
   .exact IsiPair.list_int e hc (dr _ (by decide))
   .exact IsiPair.list_str e hc (dr _ (by decide))
   .exact IsiPair.list_bool e hc (dr _ (by decide))
   .exact IsiPair.list_list e hc (fin _ (by decide))
   .exact IsiPair.list_tuple e hc (dr _ (by decide))
  .subst hk;obtain⟨aG,_,⟨o,e,hc,_⟩,_⟩:=I.tuple hs;rcases hT with rfl|rfl|rfl|rfl|rfl
   .exact IsiPair.tuple_int e hc (dr _ (by decide))
   .exact IsiPair.tuple_str e hc (dr _ (by decide))
   .exact IsiPair.tuple_bool e hc (dr _ (by decide))
   .exact IsiPair.tuple_list e hc (dr _ (by decide))
   .exact IsiPair.tuple_tuple e hc (fin _ (by decide))
 |Aa _=>exact False.elim hk
 |An _=>exact False.elim hk
 |ty _=>exact False.elim hk
def qd{n:String}{pos:Pos}(hg:Gl X x)(hm:X.mg x=none)(hv:bootBuiltins x=some (.type n))(hn:x≠"__name__":=by decide)(hd:(x == ("__debug__":Str))=false:=by decide):PE X (.Name x pos) (tC (.ty n)):=
 Yg hg hm hv rfl hn hd
def Oo(aG:List aq)(bs:List Bool)(hv:Vals (bs.map V.bl) aG):TruthOf prog w A (λi v=>aG.toArray[i]?=some v) (λi=>bs.getD i false):=by
 intro i v s Q E hP hQ;have Ti:aG[i]?=some v:=by simpa using hP
 have hl:=hv.length;rw[bK] at hl;have hi:i<aG.length:=(e_.mp Ti).1;have hb:(bs.map V.bl)[i]?=some (.bl bs[i]):=by simp[show i<bs.length by lia]
 obtain⟨u,hu,ru⟩:=hv.get hb;rw[Ti] at hu;cases hu;cases ru;have e:bs.getD i false=bs[i]:=by simp[show i<bs.length by lia]
 have Tj:Q (bs.getD i false) s:=hQ;rw[e] at Tj;exact wpAny_truthy_bool Tj
def VJ(bs:List Bool):(List.range bs.length).all (λi=>bs.getD i false)=bs.all id:=by
 rw[t9,jH,jH];constructor
 .intro h b hb;obtain⟨i,hi,e⟩:=List.mem_iff_getElem.mp hb;have:=h i (nv.mpr hi);simp[hi] at this;rw[<-e];exact this
 .intro h i hi;have hi:=nv.mp hi;have:=h bs[i] (zj hi);simp[hi];exact this
def VL(bs:List Bool):(List.range bs.length).any (λi=>bs.getD i false)=bs.any id:=by
 rw[t9,AX,AX];constructor
 .rintro⟨i,hi,h⟩;have hi:=nv.mp hi;simp[hi] at h;exact⟨bs[i],zj hi,h⟩
 .rintro⟨b,hb,h⟩;obtain⟨i,hi,e⟩:=List.mem_iff_getElem.mp hb;refine⟨i,nv.mpr hi,?_⟩;simp[hi];rw[e];exact h
def VM(hc:X.calm=true):cY X (.builtin "all") (λxs H Q=>∃(a:ak) (bs:List Bool),xs=[.ref a]/\dO X.K H a (bs.map V.bl)/\Q (.bl (bs.all id)) H):=by
 intro ae s Z H xs us Q I r h;obtain⟨a,bs,rfl,hs,q⟩:=h;obtain⟨u,rfl,ru⟩:=vals1 r;cases ru;obtain⟨aG,rv,p,hz⟩:=I.list hs;have hl:=rv.length;rw[bK] at hl;refine call_all_walk (wpAny_pyIter_list p.isList ?_);have pH:a≠s.heap.objs.size:=by obtain⟨o,n,e,_⟩:=p;exact lJ (fW e)
 refine⟨s.heap.objs.size,_,_,aG.toArray.size,_,_,λi=>bs.getD i false,rfl,Walks.list (A:=X.A.in1) (show X.A.in1.handled=none from I.ok.hd hc) _ a pH aG.toArray,⟨⟨_,oP _ rfl,rfl,rfl⟩,?_⟩,Oo aG bs rv,λh' tk hk=>?_⟩
 .exact p.isList.at λo e=>jN _ e
 .have e1:aG.toArray.size=bs.length:=by rw[fI,<-hl]
  refine⟨.bl (bs.all id),H,I.kept (h':=h') (t':=tk) (λb o e=>hk b o (λz=>bZ (iP (fW e) (Nat.le_of_eq (jI.mp z).symm)) (pT _)) (jN _ e)),?_,q⟩
  show Value.bool _=Value.bool _;rw[e1,VJ]
def VN(hc:X.calm=true):cY X (.builtin "any") (λxs H Q=>∃(a:ak) (bs:List Bool),xs=[.ref a]/\dO X.K H a (bs.map V.bl)/\Q (.bl (bs.any id)) H):=by
 intro ae s Z H xs us Q I r h;obtain⟨a,bs,rfl,hs,q⟩:=h;obtain⟨u,rfl,ru⟩:=vals1 r;cases ru;obtain⟨aG,rv,p,hz⟩:=I.list hs;have hl:=rv.length;rw[bK] at hl;refine call_any_walk (wpAny_pyIter_list p.isList ?_);have pH:a≠s.heap.objs.size:=by obtain⟨o,n,e,_⟩:=p;exact lJ (fW e)
 refine⟨s.heap.objs.size,_,_,aG.toArray.size,_,_,λi=>bs.getD i false,rfl,Walks.list (A:=X.A.in1) (show X.A.in1.handled=none from I.ok.hd hc) _ a pH aG.toArray,⟨⟨_,oP _ rfl,rfl,rfl⟩,?_⟩,Oo aG bs rv,λh' tk hk=>?_⟩
 .exact p.isList.at λo e=>jN _ e
 .have e1:aG.toArray.size=bs.length:=by rw[fI,<-hl]
  refine⟨.bl (bs.any id),H,I.kept (h':=h') (t':=tk) (λb o e=>hk b o (λz=>bZ (iP (fW e) (Nat.le_of_eq (jI.mp z).symm)) (pT _)) (jN _ e)),?_,q⟩
  show Value.bool _=Value.bool _;rw[e1,VL]
end
structure bS (K:FG) (mg:Str->ao aq) (x:Str) (st:Stmt) (f:ak) (fd:lY) (ps:List Str):Prop where
 fn:rO K x x st f fd
 mg:mg x=some (.ref f)
 bd:Binds K fd ps []
section
variable{X:Cx}{k:Nat}{f:ak}{fd:lY}{ps:List Str}{sp:Sp}{x:Str}{p pos:Pos}{e:Expr}{es:List Expr}{t:TA}{st:Stmt}
def xj(D:bS X.K X.mg x st f fd ps)(F:bR X.prog X.w X.K X.mg X.base eZ k f fd ps sp)(hr:eG k X.A)(ha:PA X (e::es) t)(hg:Gl X x:=by rfl)(pD:(x == ("__debug__":Str))=false:=by decide)
  (he:starEach (e::es) X.env=(false,eval e X.env)::starEach es X.env:=by rfl) (ka:(backTo pos (starEach es X.env)).any (·.1)=false:=by rfl) :
  PE X (.Call (.Name x p) (e::es) [] pos) (qA sp [] E0 t):=Ym F hr hg D.mg D.fn.kp D.bd .nil DN ha pD he ka
end
section
variable{X:Cx}{a b:Expr}{rest:List Expr}{pos:Pos}{ta tb:TE}{tA tB:TT}
end
def aF.put{H':Hp}{o:HO}(s:aF H H')(h:H' a=none):aF H (upd H' a o):=λb u e=>by
 have z:=s b u e;rw[cW (mI z h)];exact z
def uZ{o:HO}(h:H a=none):aF H (upd H a o):=(aF.refl H).put h
def PN{α:Type}{xs:List α}{k:Int}(d:α)(h0:0<=k)(hk:k<xs.length):dq xs k=some (xs.getD k.toNat d):=by
 have sN:k.toNat<xs.length:=by lia
 have e:xs[k.toNat]?=some (xs.getD k.toNat d):=by simp[sN]
 have z:=nO e
 rwa[show((k.toNat:Nat):Int)=k by lia] at z
def KA:bootBuiltins "int"=some (.type "int"):=by decide +kernel
def Ca:bootBuiltins "str"=some (.type "str"):=by decide +kernel
def Yw:bootBuiltins "bool"=some (.type "bool"):=by decide +kernel
def wj:bootBuiltins "list"=some (.type "list"):=by decide +kernel
def E6:bootBuiltins "tuple"=some (.type "tuple"):=by decide +kernel
def p8:bootBuiltins "isinstance"=some (.builtin "isinstance"):=by decide +kernel
def e5b:bootBuiltins "all"=some (.builtin "all"):=by decide +kernel
def e5c:bootBuiltins "any"=some (.builtin "any"):=by decide +kernel
def j8:bootBuiltins "len"=some (.builtin "len"):=by decide +kernel
def RK{n:Nat}(h:n<=1000):n<=sizeLine:=nD h (by decide)
def oG(h:cS)(as:List ak):FG:=as.filterMap λa=>(h.get? a).map λo=>(a,o)
def Oz:∀{as:List ak},a∈as->(oG h as).lookup a=h.get? a:=by
 intro as
 induction as with
 |nil=>intro m;cases m
 |cons b r ih=>
  intro m;unfold oG;rw[zg];cases e:h.get? b with
  |none=>
   dsimp only[Option.map];by_cases q:a=b
   .subst q;by_cases m':a∈r
    .exact ih m'
    .rw[e];clear ih m
     induction r with
     |nil=>rfl
     |cons c r ih=>
      rw[zg];have q2:a≠c:=λz=>m' (z ▸ .head _)
      cases e2:h.get? c with
      |none=>exact ih λz=>m' (.tail _ z)
      |some o=>dsimp only[Option.map];rw[pV,beq_false_of_ne q2];exact ih λz=>m' (.tail _ z)
   .exact ih ((eO.1 m).resolve_left q)
  |some o=>
   dsimp only[Option.map];rw[pV];by_cases q:a=b
   .subst q;rw[oS];exact e.symm
   .rw[beq_false_of_ne q];exact ih ((eO.1 m).resolve_left q)
def snap(h:cS):FG:=oG h (List.range h.objs.size)
def Jb{o:Obj}(e:h.get? a=some o):(snap h).lookup a=some o:=(Oz (nv.2 (fW e))).trans e
def Yx:(snap h).In h:=λa o e=>by
 have m:a∈List.range h.objs.size:=by
  apply o7;intro m;have:∀as:List ak,a∉as->(oG h as).lookup a=none:=by
   intro as
   induction as with
   |nil=>intro _;rfl
   |cons b r ih=>
    intro m;unfold oG;rw[zg];have q2:a≠b:=λz=>m (z ▸ .head _)
    cases e2:h.get? b with
    |none=>exact ih λz=>m (.tail _ z)
    |some o=>dsimp only[Option.map];rw[pV,beq_false_of_ne q2];exact ih λz=>m (.tail _ z)
  rw[snap,this _ m] at e;cases e
 exact(Oz m).symm.trans e
def sU(n:Str):Stmt->Bool
 |.FunctionDef m _ _ _ _ _ _ _ _ _=>m == n
 |_=>false
noncomputable def Cb(n:Str):List Stmt->Nat->Bool
 |[],_=>true
 |s::r,0=>sU n s&&r.all λs => !sU n s
 |s::r,j+1 => !sU n s&&Cb n r j
def UW{x:Stmt}:∀{l:List Stmt} {j:Nat},Cb n l j=true->l[j]?=some x->l.filter (sU n)=[x]:=by
 intro l
 induction l with
 |nil=>intro j _ h;cases h
 |cons s r ih=>
  intro j c h;cases j with
  |zero=>
   obtain⟨c1,c2⟩:=Bool.and_eq_true_iff.1 c;cases h;rw[List.filter_cons_of_pos c1,List.filter_eq_nil_iff.2 λy hy z=>by have:=jH.1 c2 y hy;rw[z] at this;cases this]
  |succ j=>
   obtain⟨c1,c2⟩:=Bool.and_eq_true_iff.1 c;rw[List.filter_cons_of_neg (by intro z;rw[z] at c1;cases c1)]
   exact ih c2 h
def e5d{m:Str}{a:Arguments}{b:List Stmt}{sc:Scope}{r:ao Expr}{y z t}{pos:Pos}(c:Cb n q.main.body j=true)(h:q.main.body[j]?=some (.FunctionDef m a b [] r [] sc y z pos))
  (hd:a.defaults=[]) (hk:a.kwonlyargs=[]) (AD:a.kw_defaults=[]) (ht:t=(a,b,sc)):∃p,(⟨n,t.1,t.2.1,t.2.2,p⟩:DefRec)∈recsOf q:=by
 subst ht;have f:=UW c h;have e:(m == n)=true:=by
  have:Stmt.FunctionDef m a b [] r [] sc y z pos∈q.main.body.filter (sU n):=by rw[f];exact .head _
  exact(kc.1 this).2
 cases(beq_iff_eq.1 e:m=n);refine⟨pos,zh.2 ⟨_,kL h,?_⟩⟩;have g:q.theDef n=some (a,b,sc):=by
  unfold Program.theDef;split
  .rename_i hq;cases hq.symm.trans f;rfl
  .rename_i hq;exact(hq _ _ _ _ _ _ _ _ f).elim
 dsimp only;rw[g];dsimp only;rw[hd,hk,AD];rfl
def Yy{L:List Str}{me}{mg mb:Str->ao aq}(T:Top q L me mg mb h){st:Stmt}(hr:∃p,(⟨n,zE st,uk st,dg st,p⟩:DefRec)∈recsOf q):
  ∃f fd,mg n=some (.ref f)/\rO (snap h) n n st f fd:=by
 obtain⟨p,hr⟩:=hr;obtain⟨a,o,pm,code,doc,hm,ho,hd,hc⟩:=T.fn _ hr;obtain⟨c,oc,vs,t,rfl,HF,hdc,hv⟩:=hc;obtain⟨k1,k2,k3,k4⟩:=o;cases(show k3=_ from hd);refine⟨a,_,hm,e5a (oc:=k1) (od:=k2) (osl:=k4) (an:=none) (ct:=.none) (kV:=.none) (Jb ho) ?_ ?_⟩
 .unfold PySem.W.codeIn;dsimp only;rw[Jb HF];obtain⟨l1,l2,l3,l4⟩:=oc;cases(show l3=_ from hdc);rw[<-mF] at hv;dsimp only
  match hq:vs.toList,hv with
  |_::_::_,hv=>cases hv;exact oS n
 .unfold PySem.W.keepIn;dsimp only;rw[Jb ho]
def t7{l:PySem.W.OpenLaw}{n:Nat}{loose:List Str}{XP:(Str->ao aq)->cS->Prop}{YP:eK->cS->Prop}{d:DefRec}{CX:qF}{sp:FG->Sp}
  (hn:l.most=some n) (HD:n<=sizeLine) (Df:d.params.defaults=[]) (hr:eG k callerA)
  (F:∀(w:eK) (me) (mg mb:Str->ao aq) (fa:ak) (h:cS),Top q (PySem.W.looseW q loose) me mg mb h->mg d.name=some (.ref fa)-> ∃fd:lY,(∀(s:az) (u:aq),BindsTo s fd ⟨[u],[]⟩ [(x,u)])/\ ∀base:cS,bR l.prog w (snap h) mg base CX k fa fd [x] (sp (snap h)))
  (w9:∀(K:FG) (H:Hp) (a:ak) (ns:List Int),ns.length<=n->xI H->dO K H a (ns.map V.int)->sp K [.ref a] H (λv _=>v=.bl true) λ_ _ _=>False)
  (L9:∀(H:Hp) (s:az) (e:aq) (s':az),CX [] H s (λ_ _ _=>False) e s'->False) :
  PySem.W.WalkO q loose XP YP l.row.toRowW d [] (λf vs=>PySem.call f vs):=by
 refine N7.nX hn Df λw s₀ s₁ mg mb fa o pm cd doc a vs ns G Y ho hd qQ Mu yJ hints hlen hg=>?_
 obtain⟨fd,hb,hF⟩:=F w _ mg mb fa _ G.T Mu;exact WU Yx G.T.g G.T.b G.T.builtins G.T.nolimit hg yJ hints (nD hlen HD) hr (λbase _ _=>hF base) hb (λH hO hS=>w9 _ H a ns hlen hO hS) λH e s'=>L9 H s₁ e s'
noncomputable def yM:Stmt->Bool
 |.FunctionDef _ a _ [] _ [] _ _ _ _=>a.defaults.isEmpty&&a.kwonlyargs.isEmpty&&a.kw_defaults.isEmpty
 |_=>false
def yv(B:List Stmt)(D:List (Str×Nat)):Bool:=D.all λp=>Cb p.1 B p.2&&(B[p.2]?).any yM
def e5e{st:Stmt}(c:Cb n q.main.body j=true)(h:q.main.body[j]?=some st)(hp:yM st=true):∃p,(⟨n,zE st,uk st,dg st,p⟩:DefRec)∈recsOf q:=by
 unfold yM at hp;split at hp
 .simp only[mG,List.isEmpty_iff] at hp;exact e5d c h hp.1.1 hp.1.2 hp.2 rfl
 .cases hp
section
variable{q:fO}{L:List Str}{me:ExcName->ao aq}{mg mb:Str->ao aq}{h:cS}
def jb(T:Top q L me mg mb h){B:List Stmt}{D:List (Str×Nat)}(hq:q.main.body=B)(c:yv B D=true)(i:Nat){st:Stmt}(hi:D[i]?=some (n,j))(hj:B[j]?=some st):
  ∃f fd,mg n=some (.ref f)/\rO (snap h) n n st f fd:=by
 obtain⟨c1,c2⟩:=Bool.and_eq_true_iff.1 (jH.1 c _ (kL hi));dsimp only at c1 c2;rw[hj] at c2;exact Yy T (e5e (by rw[hq];exact c1) (by rw[hq];exact hj) c2)
noncomputable def yu(q:fO)(L bs:List Str):Bool:=bs.all λx => !startupNames.contains x && !L.contains x && !((recsOf q).map (·.name)).contains x && !((litsOf q).map (·.1)).contains x && !((clssOf q L).map (·.name)).contains x
def rn(T:Top q L me mg mb h){bs:List Str}(c:yu q L bs=true)(i:Nat)(hi:bs[i]?=some x):mg x=none:=by
 have z:=jH.1 c _ (kL hi);simp only[mG,Bool.not_eq_true',<-Ej,Ek] at z;exact T.free x z.1.1.1.1 z.1.1.1.2 z.1.1.2 z.1.2 z.2
def O0(T:Top q L me mg mb h){y:Str}(hv:valOf q x=some (.str y)):∃t,mg x=some (.str y t):=by
 obtain⟨v,hm,hr⟩:=T.const x _ hv;cases hr h;exact⟨_,hm⟩
end
section
variable{X:Cx}
def qS(xs:List V)(k:Nat)(y:V):List V:=xs.take k++y::xs.drop k
def UX(xs:List V)(k:Nat)(y:V):(qS xs k y).length=xs.length+1:=by
 unfold qS;rw[du,iZ,pU,vW];lia
def QA:V->List V->Hp->VK->Prop:=λx vs H Q=>∃l xs i y,x=.ref l/\vs=[.int i,y]/\H l=some (.lst xs)/\0<=i/\i<2^62/\xs.length<sizeLine/\Q .bL (upd H l (.lst (qS xs i.toNat y)))
def EV:v7 X "list.insert" QA:=by
 intro ae s Z H x vs v us Q I rx rv h;obtain⟨l,xs,i,y,rfl,rfl,hH,h0,hi,hz,q⟩:=h;cases rx;obtain⟨u,u',rfl,⟨t,rfl⟩,ru⟩:=rv.two;obtain⟨z,aG,n,r,hl,e⟩:=I.yQ hH;have Mj:¬(!Builtin.List.listFitsIndex i)=true:=by
  unfold Builtin.List.listFitsIndex;simp;lia
 refine call_meets F.slot_list_insert ⟨_,e,rfl⟩ F.entry_list_insert (F.args_list_insert_3 _ _ _) (PySem.AutoSeq1.list_insert_list_int_val_1 l aG.toArray n i t u' Mj (by rw[fI];lia)) ⟨e,?_⟩
 refine⟨.bL,_,I.yP (its':=aG.take i.toNat++u'::aG.drop i.toNat) hH e ?_ ((r.take i.toNat).append (.cons ru (r.drop i.toNat))) ?_,rfl,q⟩
 .have h1:¬i<0:=by lia
  simp only[h1,ck];apply Array.ext';simp only[Array.toList_append,Array.toList_push,Array.toList_extract,fI];rw[List.extract_eq_drop_take,List.extract_eq_drop_take];have e1:min i.toNat aG.length - 0=min i.toNat aG.length:=by lia
  rw[e1];simp only[o6];have e2:aG.take (min i.toNat aG.length)=aG.take i.toNat:=by rw[List.take_eq_take_iff];lia
  rw[e2];by_cases hc:i.toNat<=aG.length
  .rw[Nat.min_eq_left hc,El (l:=List.drop i.toNat aG) (by rw[vW];lia)]
   simp
  .have hc:aG.length<=i.toNat:=by lia
   rw[Nat.min_eq_right hc,NN (cP _),NN hc];simp
 .show(qS xs i.toNat y).length<=sizeLine;rw[UX];lia
def DV:V->ao Int->ao Int->Hp->VK->Prop:=λx lo hi H Q=>∃z,x=.str z/\z.length<=sizeLine/\Q (.str (Txt.slice z lo hi)) H
def zb:rQ X DV:=by
 intro ae s Z H x v vl vu lo hi sl Q I rx hs pl pu h;obtain⟨z,rfl,hz,q⟩:=h;obtain⟨t,rfl⟩:=rx;refine⟨"str",_,F.slot_str_getitem.lookup,typeIs_str _ _ _,?_⟩;have fin:∀t' k,EP X ae Z Q (.str (Txt.slice z lo hi) t') { s with toks:=k}:=λt' k=>⟨.str _,H,I.tok _,⟨_,rfl⟩,q⟩
 cases pl with
 |none=>
  cases pu with
  |none=>exact wpAny_getItem_str_slice (l:=none) (u:=none) (st:=none) hs rfl (post_val_or_str ⟨nD (Txt.slice_le z _ _) hz,fin⟩)
  |int j tj=>exact wpAny_getItem_str_slice (l:=none) (u:=some (j,tj)) (st:=none) hs rfl (post_val_or_str ⟨nD (Txt.slice_le z _ _) hz,fin⟩)
 |int i ti=>
  cases pu with
  |none=>exact wpAny_getItem_str_slice (l:=some (i,ti)) (u:=none) (st:=none) hs rfl (post_val_or_str ⟨nD (Txt.slice_le z _ _) hz,fin⟩)
  |int j tj=>exact wpAny_getItem_str_slice (l:=some (i,ti)) (u:=some (j,tj)) (st:=none) hs rfl (post_val_or_str ⟨nD (Txt.slice_le z _ _) hz,fin⟩)
def Va:f_ X (binaryOp .Mult) (λx y H Q=>∃z n,x=.str z/\y=.int n/\MulOk z n/\Q (.str (Txt.mul z n)) H):=by
 intro ae s Z H x y v u Q I rx ry h;obtain⟨z,n,rfl,rfl,hm,q⟩:=h;obtain⟨t,rfl⟩:=rx;obtain⟨t',rfl⟩:=ry;exact SB.mul hm λt' k=>⟨.str _,H,I.tok _,⟨_,rfl⟩,q⟩
end
inductive xE (K:FG) (H:Hp):Nat->V->V->Bool->Prop
 |flat {d:Nat} {x y:V}:wU x=true->wU y=true->xE K H d x y (eqV x y)
 |same {d:Nat} {a:ak}:xE K H d (.ref a) (.ref a) true
 |lst {d:Nat} {a b:ak} {xs ys:List V} {e:Nat->Bool}:a≠b->dO K H a xs->dO K H b ys->xs.length=ys.length->(∀(i:Nat) x y,xs[i]?=some x->ys[i]?=some y->xE K H d x y (e i))->xE K H (d+1) (.ref a) (.ref b) ((List.range xs.length).all e)
 |lstN {d:Nat} {a b:ak} {xs ys:List V}:a≠b->dO K H a xs->dO K H b ys->xs.length≠ys.length->xE K H (d+1) (.ref a) (.ref b) false
 |tup {d:Nat} {a b:ak} {xs ys:List V} {e:Nat->Bool}:a≠b->fX K H a xs->fX K H b ys->(∀(i:Nat) x y,xs[i]?=some x->ys[i]?=some y->xE K H d x y (e i))->xE K H (d+1) (.ref a) (.ref b) ((List.range (min xs.length ys.length)).all e&&xs.length == ys.length)
section
variable{X:Cx}{ae:List (ak×Obj)}{Z:St}{H:Hp}{s:az}
theorem Vals.at{xs:List V}{us:List aq}(r:Vals xs us){j:Nat}(h:j<us.toArray.size):∃x,xs[j]?=some x/\RelV x us.toArray[j]:=by
 have hl:=r.length;have h':j<us.length:=by simpa using h
 have hx:xs[j]?=some xs[j]:=by simp[show j<xs.length by lia]
 obtain⟨u,hu,ru⟩:=r.get hx;have:us[j]?=some us[j]:=by simp[h']
 rw[this] at hu;cases hu;exact⟨xs[j],hx,by simpa using ru⟩
end
section
variable{X:Cx}
def WW(K:FG)(hK:X.K=K:=by rfl):qI X (y7 K):=hK ▸ Yr
def Yz(K:FG)(hK:X.K=K:=by rfl):qI X (y8 K):=hK ▸ e4z
def UJ(K:FG)(hK:X.K=K:=by rfl):cY X (.builtin "len") (λxs H Q=>∃p ys,xs=[.ref p]/\(dO K H p ys\/fX K H p ys)/\Q (.int ys.length) H):=hK ▸ UO
def WX(K:FG)(hK:X.K=K:=by rfl):rQ X (y9 K):=hK ▸ Ys
def YA(K:FG)(hK:X.K=K:=by rfl):rQ X (y_ K):=hK ▸ e4y
def pZ(K:FG)(hK:X.K=K:=by rfl):cY X (.builtin "isinstance") (λxs H Q=>∃x k T,xs=[x,.ty T]/\FV K H x k/\(T="int"\/T="str"\/T="bool"\/T="list"\/T="tuple")/\Q (.bl (jV k T)) H):=hK ▸ WV
def EI(K:FG)(hK:X.K=K:=by rfl):cY X (.type "list") (λxs H Q=>∃p ys,xs=[.ref p]/\(dO K H p ys\/fX K H p ys)/\∀l,H l=none->Q (.ref l) (upd H l (.lst ys))):=hK ▸ UQ
def VO(K:FG){a:Expr}{ta:TE}(ha:PE X a ta)(he:∀whole,isTrue a X.env whole=(do let v <-whole;standAt a.pos;holding [v] (truthy v)))(hK:X.K=K:=by rfl):
  PT X a (λZ H Q=>ta Z H λx H'=>∃k,uV K x H' k/\Q k H'):=hK ▸ WQ ha he
def v_(K:FG)(hl:PE X l tl)(hK:X.K=K:=by rfl):PI X tg l (oi K tl):=hK ▸ J_ hl
def YB(K:FG)(hl:PE X l tl)(hK:X.K=K:=by rfl):PI X tg l (yK K tl):=hK ▸ RF hl
end
def YC(hr:eG k A):A.units+40<cLine:=Nat.lt_of_le_of_lt (Nat.add_le_add_left (by decide:40<=64) _) hr.units
end L2
namespace Carry
open PySem L2
variable{m:Int}
def SB(f:ak)(H H':Hp):Prop:=∀b o,H b=some o->b≠f->H' b=some o
structure cA where
 ns:List Int
 pl:Int
 xv:Int
 mode:Int
 num:Int
noncomputable def CU(sl:ak)(F:cA):HO:=.lst [.ref sl,.int F.pl,.int F.xv,.int F.mode,.int F.num]
structure FeedAt (H:Hp) (f sl:ak) (F:cA):Prop where
 fo:H f=some (CU sl F)
 so:H sl=some (.lst (F.ns.map V.int))
 pos:0<=F.pl
 len:F.ns.length<=63
noncomputable def cellOf(F:cA):Int:=if 0<F.ns.length then F.ns.getD (F.pl%F.ns.length).toNat 0+F.pl / F.ns.length*31 else F.pl
def aW(F:cA)(m:Int):Int:=if F.mode=1 then F.num%m else(cellOf F*48271+31*F.pl)%1000003*69621%999983%m
noncomputable def aQ(F:cA)(m:Int):cA:=if F.mode=1 then{ F with num:=F.num / m} else{ F with pl:=F.pl+1}
theorem uh(F:cA)(h:0<m):0<=aW F m:=by
 unfold aW;split
 .exact NO _ (by lia)
 .exact NO _ (by lia)
theorem ui(F:cA)(h:0<m):aW F m<m:=by
 unfold aW;split
 .exact NP _ h
 .exact NP _ h
theorem WY(F:cA)(m:Int):(aQ F m).ns=F.ns:=by unfold aQ;split <;> rfl
theorem WZ(F:cA)(m:Int)(h:0<=F.pl):0<=(aQ F m).pl:=by
 unfold aQ;split
 .exact h
 .show 0<=F.pl+1;lia
theorem KC{x:Int}{n:Nat}(h0:0<=x)(h1:x<n):∃k:Nat,x=k/\k<n:=⟨x.toNat,by lia,by lia⟩
structure bp where
 name:Str
 long:Int
 ring:Bool
 outs:List Str
structure aA where
 aM:List bp
 aS:List Str
def xu(xs:List Str):List V:=xs.map V.str
def e5f(H:Hp)(v:V)(b:bp):Prop:=∃p o,v=.ref p/\H p=some (.tup [.str b.name,.int b.long,.bl b.ring,.ref o])/\H o=some (.lst (xu b.outs))
structure HouseAt (H:Hp) (p pb pc:ak) (refs:List V) (h:aA):Prop where
 top:H p=some (.tup [.ref pb,.ref pc])
 bl:H pb=some (.lst refs)
 ct:H pc=some (.lst (xu h.aS))
 each:Paired (e5f H) refs h.aM
def pJ(xs:List Str)(k:Nat)(y:Str):List Str:=xs.take k++y::xs.drop k
theorem W0(xs:List Str)(k:Nat)(y:Str):(pJ xs k y).length=xs.length+1:=by
 unfold pJ;rw[du,iZ,pU,vW];lia
theorem W2{xs:List Str}{k:Nat}{y z:Str}:z∈pJ xs k y↔z=y\/z∈xs:=by
 unfold pJ;rw[eD,eO];constructor
 .rintro(h|h|h)
  .exact .inr (List.mem_of_mem_take h)
  .exact .inl h
  .exact .inr (List.mem_of_mem_drop h)
 .rintro(h|h)
  .exact .inr (.inl h)
  .rw[<-vZ k xs,eD] at h;rcases h with h|h
   .exact .inl h
   .exact .inr (.inr h)
end Carry
namespace L2
open PySem PySem.Spec PyProof.Rows
inductive D where
 |bL|bl (b:Bool)|int (i:Int)|str (x:Str)|ty (n:String)
 |lst (xs:List D)|tup (xs:List D)|aL (kvs:List (TK×D))|eY (ns:List Int)|exc (C:ak) (l:ao Int)
mutual
noncomputable def TK.d:TK->D
 |.inl i=>.int i
 |.inr x=>.str x
 |.tp l=>.tup (TK.dl l)
noncomputable def TK.dl:List TK->List D
 |[]=>[]
 |k::l=>TK.d k::TK.dl l
end
noncomputable def oV:D->ao V
 |.bL=>some .bL
 |.bl b=>some (.bl b)
 |.int i=>some (.int i)
 |.str x=>some (.str x)
 |.ty n=>some (.ty n)
 |_=>none
noncomputable def CS(C t:ak)(d:ao ak):Obj:={ cls:=.ref C,dict:=d,data:=.fields #[.ref t,.none,.none,.none,.bool false,.none]}
def uT(F:Hp)(a C:ak):ao Int->Prop
 |none=>∃t,F a=some (.Y (CS C t none) (.own 0))
 |some n=>∃t dx,F a=some (.Y (CS C t (some dx)) (.own 0))/\F dx=some (.xd [("line",.int n)])
inductive aw (K:FG) (F:Hp):List V->List D->Prop
 |nil:aw K F [] []
 |flat {v:V} {d:D} {vs:List V} {ds:List D}:oV d=some v->aw K F vs ds->aw K F (v::vs) (d::ds)
 |lst {a:ak} {ws vs:List V} {es ds:List D}:Rd F a (.lst ws)->aw K F ws es->aw K F vs ds->aw K F (.ref a::vs) (.lst es::ds)
 |tup {a:ak} {ws vs:List V} {es ds:List D}:fX K F a ws->aw K F ws es->aw K F vs ds->aw K F (.ref a::vs) (.tup es::ds)
 |aL {a:ak} {kvs:List (TK×V×V)} {es:List (TK×D)} {ep:Nat} {vs:List V} {ds:List D}:F a=some (.dG kvs ep)->kvs.map (·.1)=es.map (·.1)->aw K F (kvs.map (·.2.1)) (es.map (·.1.d))->aw K F (kvs.map (·.2.2)) (es.map (·.2))->aw K F vs ds->aw K F (.ref a::vs) (.aL es::ds)
 |eY {a:ak} {ns:List Int} {vs:List V} {ds:List D}:dO K F a (ns.map V.int)->aw K F vs ds->aw K F (.ref a::vs) (.eY ns::ds)
 |exc {a C:ak} {l:ao Int} {vs:List V} {ds:List D}:uT F a C l->aw K F vs ds->aw K F (.ref a::vs) (.exc C l::ds)
def aF.rd{H H':Hp}{a:ak}{u:HO}(e:aF H H')(h:Rd H a u):Rd H' a u:=by
 rcases h with h|⟨o,h⟩
 .exact .inl (e _ _ h)
 .exact .inr ⟨o,e _ _ h⟩
def aF.lW{K:FG}{H H':Hp}{a:ak}{xs:List V}(e:aF H H')(h:fX K H a xs):fX K H' a xs:=by
 rcases h with(h|⟨o,h⟩)|h
 .exact .inl (.inl (e _ _ h))
 .exact .inl (.inr ⟨o,e _ _ h⟩)
 .exact .inr h
section
variable{K:FG}{F F':Hp}
def uT.mono{F F':Hp}{a C:ak}{l:ao Int}(s:aF F F')(h:uT F a C l):uT F' a C l:=by
 cases l with
 |none=>obtain⟨t,e⟩:=h;exact⟨t,s _ _ e⟩
 |some n=>obtain⟨t,dx,e,q⟩:=h;exact⟨t,dx,s _ _ e,s _ _ q⟩
theorem aw.mono(s:aF F F'){vs:List V}{ds:List D}(h:aw K F vs ds):aw K F' vs ds:=by
 induction h with
 |nil=>exact .nil
 |flat e _ ih=>exact .flat e ih
 |lst e _ _ i1 i2=>exact .lst (s.rd e) i1 i2
 |tup e _ _ i1 i2=>exact .tup (s.lW e) i1 i2
 |aL e k _ _ _ i0 i1 i2=>exact .aL (s _ _ e) k i0 i1 i2
 |eY e _ i=>exact .eY (s.seq e) i
 |exc e _ i=>exact .exc (e.mono s) i
def aw.length{vs:List V}{ds:List D}(h:aw K F vs ds):vs.length=ds.length:=by
 induction h with
 |nil=>rfl
 |flat _ _ ih=>simp[ih]
 |lst _ _ _ _ ih=>simp[ih]
 |tup _ _ _ _ ih=>simp[ih]
 |aL _ _ _ _ _ _ _ ih=>simp[ih]
 |eY _ _ ih=>simp[ih]
 |exc _ _ ih=>simp[ih]
def aw.inv{v:V}{vs:List V}{d:D}{ds:List D}(h:aw K F (v::vs) (d::ds)):aw K F [v] [d]/\aw K F vs ds:=by
 cases h with
 |flat e t=>exact⟨.flat e .nil,t⟩
 |lst e i t=>exact⟨.lst e i .nil,t⟩
 |tup e i t=>exact⟨.tup e i .nil,t⟩
 |aL e k j i t=>exact⟨.aL e k j i .nil,t⟩
 |eY e t=>exact⟨.eY e .nil,t⟩
 |exc e t=>exact⟨.exc e .nil,t⟩
def aw.cons{v:V}{vs:List V}{d:D}{ds:List D}(h:aw K F [v] [d])(t:aw K F vs ds):aw K F (v::vs) (d::ds):=by
 cases h with
 |flat e _=>exact .flat e t
 |lst e i _=>exact .lst e i t
 |tup e i _=>exact .tup e i t
 |aL e k j i _=>exact .aL e k j i t
 |eY e _=>exact .eY e t
 |exc e _=>exact .exc e t
theorem aw.get:∀{vs:List V} {ds:List D} {i:Nat} {d:D},aw K F vs ds->ds[i]?=some d->∃v,vs[i]?=some v/\aw K F [v] [d]
 |[],[],i,d,_,e=>by simp at e
 |v::vs,d'::ds,0,d,h,e=>by simp at e;subst e;exact⟨v,rfl,h.inv.1⟩
 |v::vs,d'::ds,i+1,d,h,e=>by
  obtain⟨u,h1,h2⟩:=aw.get (i:=i) h.inv.2 (by simpa using e)
  exact⟨u,by simpa using h1,h2⟩
 |[],_::_,_,_,h,_=>by have:=h.length;simp at this
 |_::_,[],_,_,h,_=>by have:=h.length;simp at this
theorem aw.append:∀{vs:List V} {ds:List D} {ws:List V} {es:List D},aw K F vs ds->aw K F ws es->aw K F (vs++ws) (ds++es)
 |[],[],_,_,_,h=>h
 |v::vs,d::ds,_,_,h,t=>.cons h.inv.1 (aw.append h.inv.2 t)
 |[],_::_,_,_,h,_=>by have:=h.length;simp at this
 |_::_,[],_,_,h,_=>by have:=h.length;simp at this
theorem aw.take:∀{vs:List V} {ds:List D} (n:Nat),aw K F vs ds->aw K F (vs.take n) (ds.take n)
 |[],[],_,_=>by simp;exact .nil
 |v::vs,d::ds,0,_=>.nil
 |v::vs,d::ds,n+1,h=>.cons h.inv.1 (aw.take n h.inv.2)
 |[],_::_,_,h=>by have:=h.length;simp at this
 |_::_,[],_,h=>by have:=h.length;simp at this
theorem aw.drop:∀{vs:List V} {ds:List D} (n:Nat),aw K F vs ds->aw K F (vs.drop n) (ds.drop n)
 |[],[],_,_=>by simp;exact .nil
 |v::vs,d::ds,0,h=>h
 |v::vs,d::ds,n+1,h=>by simpa using aw.drop n h.inv.2
 |[],_::_,_,h=>by have:=h.length;simp at this
 |_::_,[],_,h=>by have:=h.length;simp at this
end
inductive O where
 |Y (d:D)|lst (xs:List O)|tup (xs:List O)|aL (kvs:List (TK×O))
abbrev Gm:=List (ao O)
inductive ah (K:FG) (F H:Hp):St->Gm->List ak->Prop
 |nil:ah K F H [] [] []
 |skip {x:ao V} {Z:St} {Q0:Gm} {B:List ak}:ah K F H Z Q0 B->ah K F H (x::Z) (none::Q0) B
 |Y {v:V} {d:D} {Z:St} {Q0:Gm} {B:List ak}:aw K F [v] [d]->ah K F H Z Q0 B->ah K F H (some v::Z) (some (.Y d)::Q0) B
 |lst {a:ak} {ws:List V} {ps:List O} {A B:List ak} {Z:St} {Q0:Gm}:H a=some (.lst ws)->ah K F H (ws.map some) (ps.map some) A->ah K F H Z Q0 B->ah K F H (some (.ref a)::Z) (some (.lst ps)::Q0) (a::A++B)
 |tup {a:ak} {ws:List V} {ps:List O} {A B:List ak} {Z:St} {Q0:Gm}:H a=some (.tup ws)->ah K F H (ws.map some) (ps.map some) A->ah K F H Z Q0 B->ah K F H (some (.ref a)::Z) (some (.tup ps)::Q0) (a::A++B)
 |aL {a:ak} {kvs:List (TK×V×V)} {ps:List (TK×O)} {ep:Nat} {A B:List ak} {Z:St} {Q0:Gm}:H a=some (.dG kvs ep)->kvs.map (·.1)=ps.map (·.1)->aw K F (kvs.map (·.2.1)) (ps.map (·.1.d))->ah K F H (kvs.map λp=>some p.2.2) (ps.map λp=>some p.2) A->ah K F H Z Q0 B->
   ah K F H (some (.ref a)::Z) (some (.aL ps)::Q0) (a::A++B)
section
variable{K:FG}{F F' H H':Hp}{Z τ:St}{Q0 Θ:Gm}{A B:List ak}
def ah.keep(h:ah K F H Z Q0 A)(s:aF F F')(k:∀a∈A,∀o,H a=some o->H' a=some o):ah K F' H' Z Q0 A:=by
 induction h with
 |nil=>exact .nil
 |skip _ ih=>exact .skip (ih k)
 |Y r _ ih=>exact .Y (r.mono s) (ih k)
 |lst e _ _ i1 i2=>exact .lst (k _ (by simp) _ e) (i1 λa ha=>k a (by simp[ha])) (i2 λa ha=>k a (by simp[ha]))
 |tup e _ _ i1 i2=>exact .tup (k _ (by simp) _ e) (i1 λa ha=>k a (by simp[ha])) (i2 λa ha=>k a (by simp[ha]))
 |aL e q r _ _ i1 i2=>exact .aL (k _ (by simp) _ e) q (r.mono s) (i1 λa ha=>k a (by simp[ha])) (i2 λa ha=>k a (by simp[ha]))
def ah.there(h:ah K F H Z Q0 A):∀a∈A,H a≠none:=by
 induction h with
 |nil=>intro a ha;cases ha
 |skip _ ih=>exact ih
 |Y _ _ ih=>exact ih
 |lst e _ _ i1 i2=>
  intro a ha;rcases eO.mp ha with rfl|ha
  .rw[e];exact λz=>by cases z
  .rcases eD.mp ha with ha|ha
   .exact i1 a ha
   .exact i2 a ha
 |tup e _ _ i1 i2=>
  intro a ha;rcases eO.mp ha with rfl|ha
  .rw[e];exact λz=>by cases z
  .rcases eD.mp ha with ha|ha
   .exact i1 a ha
   .exact i2 a ha
 |aL e _ _ _ _ i1 i2=>
  intro a ha;rcases eO.mp ha with rfl|ha
  .rw[e];exact λz=>by cases z
  .rcases eD.mp ha with ha|ha
   .exact i1 a ha
   .exact i2 a ha
def ah.length(h:ah K F H Z Q0 A):Z.length=Q0.length:=by
 induction h <;> simp_all
def ah.app(h:ah K F H τ Θ B)(t:ah K F H Z Q0 A):ah K F H (τ++Z) (Θ++Q0) (B++A):=by
 induction h with
 |nil=>exact t
 |skip _ ih=>exact .skip ih
 |Y r _ ih=>exact .Y r ih
 |lst e i _ _ ih=>simp only[Il,fE];exact .lst e i ih
 |tup e i _ _ ih=>simp only[Il,fE];exact .tup e i ih
 |aL e q r i _ _ ih=>simp only[Il,fE];exact .aL e q r i ih
theorem ah.split:∀{τ:St} {Θ:Gm} {A:List ak},τ.length=Θ.length->ah K F H (τ++Z) (Θ++Q0) A->∃B C,ah K F H τ Θ B/\ah K F H Z Q0 C/\A=B++C
 |[],[],A,_,h=>⟨[],A,.nil,h,rfl⟩
 |[],_::_,_,e,_=>by simp at e
 |_::_,[],_,e,_=>by simp at e
 |x::τ,y::Θ,A,e,h=>by
  have e':τ.length=Θ.length:=by simpa using e
  cases h with
  |skip t=>obtain⟨B,C,h1,h2,h3⟩:=ah.split e' t;exact⟨B,C,.skip h1,h2,h3⟩
  |Y r t=>obtain⟨B,C,h1,h2,h3⟩:=ah.split e' t;exact⟨B,C,.Y r h1,h2,h3⟩
  |lst q i t=>obtain⟨B,C,h1,h2,h3⟩:=ah.split e' t;subst h3;exact⟨_,C,.lst q i h1,h2,by simp⟩
  |tup q i t=>obtain⟨B,C,h1,h2,h3⟩:=ah.split e' t;subst h3;exact⟨_,C,.tup q i h1,h2,by simp⟩
  |aL q z r i t=>obtain⟨B,C,h1,h2,h3⟩:=ah.split e' t;subst h3;exact⟨_,C,.aL q z r i h1,h2,by simp⟩
def ah.one{x:ao V}{y:ao O}(h:ah K F H (x::Z) (y::Q0) A):∃B C,ah K F H [x] [y] B/\ah K F H Z Q0 C/\A=B++C:=ah.split (τ:=[x]) (Θ:=[y]) rfl h
theorem ah.take:∀{Z:St} {Q0:Gm} {A:List ak} {i:Nat} {o:O},ah K F H Z Q0 A->Q0[i]?=some (some o)->∃v Ai B,Z[i]?=some (some v)/\ah K F H [some v] [some o] Ai/\ah K F H Z (Q0.set i none) B/\A.Perm (Ai++B)
 |_,[],_,_,_,_,e=>by simp at e
 |[],_::_,_,_,_,h,_=>by have:=h.length;simp at this
 |x::Z,y::Q0,A,0,o,h,e=>by
  have e:y=some o:=by simpa using e
  subst e;obtain⟨B,C,h1,h2,h3⟩:=h.one;cases x with
  |none=>cases h1
  |some v=>exact⟨v,B,C,rfl,h1,.skip h2,by rw[h3]⟩
 |x::Z,y::Q0,A,i+1,o,h,e=>by
  obtain⟨B,C,h1,h2,h3⟩:=h.one;obtain⟨v,Ai,B',g1,g2,g3,g4⟩:=ah.take (i:=i) h2 (by simpa using e)
  refine⟨v,Ai,B++B',by simpa using g1,g2,h1.app g3,?_⟩
  subst h3;exact(List.Perm.append_left B g4).trans (by rw[<-fE,<-fE];exact(qB).append_right _)
theorem ah.forget:∀{Z:St} {Q0:Gm} {A:List ak} (i:Nat),ah K F H Z Q0 A->∃B,ah K F H Z (Q0.set i none) B/\B.Sublist A
 |Z,[],A,i,h=>⟨A,by simpa using h,List.Sublist.refl _⟩
 |[],_::_,_,_,h=>by have:=h.length;simp at this
 |x::Z,y::Q0,A,0,h=>by
  obtain⟨B,C,h1,h2,h3⟩:=h.one;subst h3;exact⟨C,.skip h2,ng _ _⟩
 |x::Z,y::Q0,A,i+1,h=>by
  obtain⟨B,C,h1,h2,h3⟩:=h.one;obtain⟨B',g1,g2⟩:=ah.forget i h2;subst h3;exact⟨B++B',h1.app g1,g2.append_left _⟩
theorem ah.put{v:V}{o:O}{Ai:List ak}(q:ah K F H [some v] [some o] Ai):∀{Z:St} {Q0:Gm} {A:List ak} (i:Nat),ah K F H Z Q0 A->i<Q0.length->∃B,ah K F H (Z.set i (some v)) (Q0.set i (some o)) B/\∃C,B.Perm (Ai++C)/\C.Sublist A
 |_,[],_,_,_,hi=>by simp at hi
 |[],_::_,_,_,h,_=>by have:=h.length;simp at this
 |x::Z,y::Q0,A,0,h,hi=>by
  obtain⟨B,C,h1,h2,h3⟩:=h.one;subst h3;exact⟨Ai++C,q.app h2,C,.refl _,ng _ _⟩
 |x::Z,y::Q0,A,i+1,h,hi=>by
  obtain⟨B,C,h1,h2,h3⟩:=h.one;obtain⟨B',g1,C',g2,g3⟩:=ah.put q i h2 (by simpa using hi)
  subst h3;refine⟨B++B',h1.app g1,B++C',?_,g3.append_left _⟩;exact(List.Perm.append_left B g2).trans (by rw[<-fE,<-fE];exact(qB).append_right _)
theorem ah.loose{v:ao V}:∀{Z:St} {Q0:Gm} {A:List ak} {i:Nat},ah K F H Z Q0 A->Q0[i]?=some none->ah K F H (Z.set i v) Q0 A
 |_,[],_,_,_,e=>by simp at e
 |[],_::_,_,_,h,_=>by have:=h.length;simp at this
 |x::Z,y::Q0,A,0,h,e=>by
  have e:y=none:=by simpa using e
  subst e;cases h with
  |skip t=>exact .skip t
 |x::Z,y::Q0,A,i+1,h,e=>by
  obtain⟨B,C,h1,h2,h3⟩:=h.one;subst h3;exact h1.app (ah.loose (i:=i) h2 (by simpa using e))
end
structure OK (K:FG) (F H:Hp) (Z:St) (Q0:Gm) (A:List ak):Prop where
 le:aF F H
 os:ah K F H Z Q0 A
 nd:A.Nodup
 fr:∀a∈A,F a=none
structure Ext (F H:Hp) (A:List ak) (F' H':Hp) (A':List ak):Prop where
 ff:aF F F'
 keep:∀a o,H a=some o->a∉A->H' a=some o
 rE:∀a,H a≠none->H' a≠none
 new:∀a,F' a≠none->F a≠none\/a∈A\/H a=none
 own:∀a∈A',a∈A\/H a=none
section
variable{K:FG}{F F' F1 F2 H H' H1 H2:Hp}{Z Z' τ:St}{Q0 ax Θ:Gm}{A A' A1 A2 B C:List ak}
theorem Ext.refl:Ext F H A F H A:=⟨aF.refl _,λ_ _ e _=>e,λ_ h=>h,λ_ h=>.inl h,λ_ h=>.inl h⟩
theorem Ext.trans(x:Ext F H A F1 H1 A1)(y:Ext F1 H1 A1 F2 H2 A2):Ext F H A F2 H2 A2 where
 ff:=x.ff.trans y.ff
 keep:=λa o e n=>y.keep a o (x.keep a o e n) λm=>by
  rcases x.own a m with z|z
  .exact n z
  .rw[e] at z;cases z
 rE:=λa h=>y.rE a (x.rE a h)
 new:=λa h=>by
  rcases y.new a h with z|z|z
  .exact x.new a z
  .exact .inr (x.own a z)
  .exact .inr (.inr (o7 λq=>x.rE a q z))
 own:=λa h=>by
  rcases y.own a h with z|z
  .exact x.own a z
  .exact .inr (o7 λq=>x.rE a q z)
def Ext.lV(x:Ext F H A F' H' A')(h:∀a∈B,a∈A'):Ext F H A F' H' B:=⟨x.ff,x.keep,x.rE,x.new,λa m=>x.own a (h a m)⟩
def OK.perm(k:ah K F H Z Q0 A)(le:aF F H)(nd:B.Nodup)(fr:∀a∈B,F a=none)(p:A.Perm B):OK K F H Z Q0 A:=⟨le,k,p.nodup_iff.mpr nd,λa m=>fr a (p.mem_iff.mp m)⟩
def OK.qk(k:OK K F H (τ++Z) (Θ++Q0) (B++C))(h1:ah K F H τ Θ B)(h2:ah K F H Z Q0 C):OK K F H Z Q0 C/\∀F' H' Z' ax A',Ext F H C F' H' A'->OK K F' H' Z' ax A'->∃qE,Ext F H (B++C) F' H' qE/\OK K F' H' (τ++Z') (Θ++ax) qE:=by
 obtain⟨n1,n2,n3⟩:=jk.mp k.nd;have nB:∀a∈B,a∉C:=λa h1 h2=>n3 a h1 a h2 rfl
 refine⟨⟨k.le,h2,n2,λa m=>k.fr a (gE _ m)⟩,λF' H' Z' ax A' x k'=>?_⟩
 have hB:∀a∈B,F' a=none:=λa m=>by
  cases e:F' a with
  |none=>rfl
  |some o=>
   rcases x.new a (by rw[e];exact λz=>by cases z) with z|z|z
   .exact bZ (k.fr a (g_ _ m)) z
   .exact bZ z (nB a m)
   .exact bZ z (h1.there a m)
 refine⟨B++A',⟨x.ff,λa o e n=>x.keep a o e λm=>n (gE _ m),x.rE,λa h=>?_,λa m=>?_⟩,k'.le,(h1.keep x.ff λa m o e=>x.keep a o e (nB a m)).app k'.os,?_,?_⟩
 .rcases x.new a h with z|z|z
  .exact .inl z
  .exact .inr (.inl (gE _ z))
  .exact .inr (.inr z)
 .rcases eD.mp m with m|m
  .exact .inl (g_ _ m)
  .rcases x.own a m with z|z
   .exact .inl (gE _ z)
   .exact .inr z
 .refine jk.mpr ⟨n1,k'.nd,λa m b m' e=>?_⟩
  subst e;rcases x.own a m' with z|z
  .exact nB a m z
  .exact h1.there a m z
 .intro a m;rcases eD.mp m with m|m
  .exact hB a m
  .exact k'.fr a m
def OK.frame(k:OK K F H (τ++Z) (Θ++Q0) A)(hl:τ.length=Θ.length):∃C,OK K F H Z Q0 C/\∀F' H' Z' ax A',Ext F H C F' H' A'->OK K F' H' Z' ax A'->∃qE,Ext F H A F' H' qE/\OK K F' H' (τ++Z') (Θ++ax) qE:=by
 obtain⟨B,C,h1,h2,h3⟩:=ah.split hl k.os;subst h3;exact⟨C,k.qk h1 h2⟩
def OK.swap(k:OK K F H (τ++Z) (Θ++Q0) A)(hl:τ.length=Θ.length):∃B,B.Perm A/\OK K F H (Z++τ) (Q0++Θ) B:=by
 obtain⟨B,C,h1,h2,h3⟩:=ah.split hl k.os;subst h3;exact⟨C++B,qB,.perm (h2.app h1) k.le k.nd k.fr qB⟩
def OK.part(k:OK K F H (τ++Z) (Θ++Q0) A)(hl:τ.length=Θ.length):∃B,OK K F H Z Q0 B/\∀a∈B,a∈A:=by
 obtain⟨B,C,h1,h2,h3⟩:=ah.split hl k.os;subst h3;exact⟨C,⟨k.le,h2,(jk.mp k.nd).2.1,λa m=>k.fr a (gE _ m)⟩,λa m=>gE _ m⟩
def OK.push{v:V}{o:O}{Av:List ak}(k:OK K F H Z Q0 A)(s:aF H H')(q:ah K F H' [some v] [some o] Av)(nd:Av.Nodup)(fresh:∀a∈Av,H a=none):
  OK K F H' (some v::Z) (some o::Q0) (Av++A)/\Ext F H A F H' (Av++A):=by
 have ne:∀a∈Av,a∉A:=λa m z=>k.os.there a z (fresh a m)
 refine⟨⟨k.le.trans s,q.app (k.os.keep (aF.refl _) λa _ o e=>s a o e),jk.mpr ⟨nd,k.nd,λa m b m' e=>?_⟩,λa m=>?_⟩,aF.refl _,λa o e _=>s a o e,λa h z=>?_,λa h=>.inl h,λa m=>?_⟩
 .subst e;exact ne a m m'
 .rcases eD.mp m with m|m
  .exact k.le.free (fresh a m)
  .exact k.fr a m
 .exact h (s.free z)
 .rcases eD.mp m with m|m
  .exact .inr (fresh a m)
  .exact .inl m
end
inductive R where
 |own (o:O)|var (i:Nat)
noncomputable def R.o:R->ao O
 |.own o=>some o
 |.var _=>none
abbrev GE:=Gm->ao (R×Gm)
abbrev GA:=Gm->ao (List R×Gm)
abbrev GT:=Gm->ao (Bool×Gm)
def i8(Z:St):List R->List V->Prop
 |[],[]=>True
 |.own _::rs,_::vs=>i8 Z rs vs
 |.var i::rs,v::vs=>Z[i]?=some (some v)/\i8 Z rs vs
 |_,_=>False
def fR(K:FG)(F H:Hp)(A:List ak)(Z:St)(ax:Gm)(rs:List R)(vs:List V)(H':Hp):Prop:=
 ∃F' A',Ext F H A F' H' A'/\OK K F' H' (vs.map some++Z) (rs.map R.o++ax) A'/\i8 Z rs vs
def tG(K:FG)(f:GE):TE:=λZ H Q=>∃F A Q0 r ax,OK K F H Z Q0 A/\f Q0=some (r,ax)/\∀v H',fR K F H A Z ax [r] [v] H'->Q v H'
def jY(K:FG)(f:GA):TA:=λZ H Q=>∃F A Q0 rs ax,OK K F H Z Q0 A/\f Q0=some (rs,ax)/\∀vs H',fR K F H A Z ax rs vs H'->Q vs H'
def ia(K:FG)(f:GT):TT:=λZ H Q=>∃F A Q0 b ax,OK K F H Z Q0 A/\f Q0=some (b,ax)/\∀H',fR K F H A Z ax [] [] H'->Q b H'
theorem i8.length:∀{Z:St} {rs:List R} {vs:List V},i8 Z rs vs->rs.length=vs.length
 |_,[],[],_=>rfl
 |_,.own _::rs,_::vs,h=>by simp[i8.length (Z:=_) (rs:=rs) (vs:=vs) h]
 |_,.var _::rs,_::vs,h=>by simp[i8.length (Z:=_) (rs:=rs) (vs:=vs) h.2]
 |_,[],_::_,h=>h.elim
 |_,.own _::_,[],h=>h.elim
 |_,.var _::_,[],h=>h.elim
def i8.one{Z:St}{r:R}{vs:List V}{rs:List R}{v:V}(h:i8 Z [r] [v])(t:i8 Z rs vs):i8 Z (r::rs) (v::vs):=by
 cases r with
 |own o=>exact t
 |var i=>exact⟨h.1,t⟩
def PE.mono{X:Cx}{e:Expr}{t t':TE}(h:PE X e t)(m:∀Z H Q,t' Z H Q->t Z H Q):PE X e t':=λae s Z H Q I q=>h ae s Z H Q I (m _ _ _ q)
def PT.mono{X:Cx}{e:Expr}{t t':TT}(h:PT X e t)(m:∀Z H Q,t' Z H Q->t Z H Q):PT X e t':=λae s Z H Q I q=>h ae s Z H Q I (m _ _ _ q)
def PW.mono{X:Cx}{e:Expr}{t t':TT}(h:PW X e t)(m:∀Z H Q,t' Z H Q->t Z H Q):PW X e t':=λwh ae s Z H Q I q=>h wh ae s Z H Q I (m _ _ _ q)
def PA.mono{X:Cx}{e:List Expr}{t t':TA}(h:PA X e t)(m:∀Z H Q,t' Z H Q->t Z H Q):PA X e t':=λpos ae s Z H Q I q=>h pos ae s Z H Q I (m _ _ _ q)
def PS.mono{X:Cx}{e:Stmt}{t t':TS}(h:PS X e t)(m:∀D Z H,t' D Z H->t D Z H):PS X e t':=λae s Z H D I q=>h ae s Z H D I (m _ _ _ q)
def hU.mono{X:Cx}{e:List Stmt}{t t':TS}(h:hU X e t)(m:∀D Z H,t' D Z H->t D Z H):hU X e t':=λae s Z H D I q=>h ae s Z H D I (m _ _ _ q)
section
variable{K:FG}{F H:Hp}{A:List ak}{Z:St}{Q0 ax:Gm}
def kl(Q0:Gm):R->ao O
 |.own o=>some o
 |.var i=>(Q0[i]?).join
noncomputable def gd(Q0:Gm):List R->ao (List O)
 |[]=>some []
 |r::rs=>(kl Q0 r).bind λo=>(gd Q0 rs).bind λos=>some (o::os)
def mH(K:FG)(F H:Hp):List V->List O->Prop:=Paired λv o=>∃B,ah K F H [some v] [some o] B
theorem Fq:∀{rs:List R} {vs:List V} {os:List O} {B:List ak},ah K F H Z Q0 A->ah K F H (vs.map some) (rs.map R.o) B->i8 Z rs vs->gd Q0 rs=some os->mH K F H vs os
 |[],[],os,_,_,_,_,e=>by cases e;exact .nil
 |r::rs,v::vs,os,B,k,h,hh,e=>by
  obtain⟨B1,C1,h1,h2,_⟩:=ah.one h;unfold gd at e;cases e1:kl Q0 r with
  |none=>rw[e1] at e;cases e
  |some o=>
   rw[e1] at e;cases e2:gd Q0 rs with
   |none=>rw[e2] at e;cases e
   |some y0=>
    rw[e2] at e;cases e;cases r with
    |own o'=>cases e1;exact .cons ⟨_,h1⟩ (Fq k h2 hh e2)
    |var i=>
     have e3:Q0[i]?=some (some o):=by
      have:(Q0[i]?).join=some o:=e1;cases q:Q0[i]? with
      |none=>rw[q] at this;cases this
      |some z=>rw[q] at this;exact congrArg some this
     obtain⟨v',Ai,B',g1,g2,_⟩:=k.take e3;have:=hh.1;rw[g1] at this;cases this;exact .cons ⟨_,g2⟩ (Fq k h2 hh.2 e2)
 |[],_::_,_,_,_,_,h,_=>h.elim
 |.own _::_,[],_,_,_,_,h,_=>h.elim
 |.var _::_,[],_,_,_,_,h,_=>h.elim
def Res(K:FG)(F H:Hp)(o:O)(Q:VK):Prop:=∀v H' Av,aF H H'->ah K F H' [some v] [some o] Av->Av.Nodup->(∀a∈Av,H a=none)->Q v H'
def fR.res{rs:List R}{vs:List V}{H1:Hp}{os:List O}{o:O}{Q:VK}(h:fR K F H A Z ax rs vs H1)(e:gd ax rs=some os)(q:∀v H',fR K F H A Z ax [.own o] [v] H'->Q v H'):
  ∃F1,aF F1 H1/\mH K F1 H1 vs os/\Res K F1 H1 o Q:=by
 obtain⟨F1,A1,x,k,hh⟩:=h;have hl:(vs.map some).length=(rs.map R.o).length:=by rw[bK,bK,hh.length]
 obtain⟨B,C,h1,h2,h3⟩:=ah.split hl k.os;refine⟨F1,k.le,Fq h2 h1 hh e,λv H' Av s w nd fresh=>q v H' ?_⟩
 obtain⟨B',kB,sub⟩:=k.part hl;obtain⟨k2,x2⟩:=kB.push s w nd fresh;exact⟨F1,Av++B',x.trans ((Ext.lV Ext.refl sub).trans x2),k2,ig⟩
theorem Res.flat{d:D}{v:V}{Q:VK}(h:Res K F H (.Y d) Q)(e:oV d=some v):Q v H:=h v H [] (aF.refl _) (.Y (.flat e .nil) .nil) .nil (λ_ m=>by cases m)
theorem Res.Y{d:D}{v:V}{Q:VK}(h:Res K F H (.Y d) Q)(e:aw K F [v] [d]):Q v H:=h v H [] (aF.refl _) (.Y e .nil) .nil (λ_ m=>by cases m)
end
noncomputable def gC(d:D):GE:=λQ0=>some (.own (.Y d),Q0)
noncomputable def aa(i:Nat):GE:=λQ0=>match Q0[i]? with
 |some (some (.Y d))=>some (.own (.Y d),Q0)
 |some (some _)=>some (.var i,Q0)
 |_=>none
section
variable{X:Cx}{K:FG}{e a b:Expr}{es:List Expr}{fa fb:GE}{fs:GA}{pos:Pos}
def d_{v:V}{d:D}(h:PE X e (tC v))(q:oV d=some v:=by rfl):PE X e (tG K (gC d)):=h.mono λZ H Q t=>by
 obtain⟨F,A,Q0,r,ax,k,e,w⟩:=t;cases e;obtain⟨k2,x⟩:=k.push (v:=v) (o:=.Y d) (Av:=[]) (aF.refl _) (.Y (.flat q .nil) .nil) .nil (λ_ m=>by cases m)
 exact w v H ⟨F,_,x,k2,ig⟩
def e5g{i:Nat}(h:PE X e (pQ i)):PE X e (tG K (aa i)):=h.mono λZ H Q t=>by
 obtain⟨F,A,Q0,r,ax,k,e,w⟩:=t;unfold aa at e;cases q:Q0[i]? with
 |none=>rw[q] at e;cases e
 |some z=>
  cases z with
  |none=>rw[q] at e;cases e
  |some o=>
   rw[q] at e;obtain⟨v,Ai,B,g1,g2,g3,g4⟩:=k.os.take q;refine⟨v,g1,w v H ?_⟩;cases o with
   |Y d=>
    cases e;cases g2 with
    |Y rp _=>
     obtain⟨k2,x⟩:=k.push (v:=v) (o:=.Y d) (Av:=[]) (aF.refl _) (.Y rp .nil) .nil (λ_ m=>by cases m)
     exact⟨F,_,x,k2,ig⟩
   |_=>
    cases e;exact⟨F,A,Ext.refl,⟨k.le,.skip k.os,k.nd,k.fr⟩,g1,ig⟩
noncomputable def gN:GA:=λQ0=>some ([],Q0)
def aj(f:GE)(g:GA):GA:=λQ0=>(f Q0).bind λp=>(g p.2).bind λq=>some (p.1::q.1,q.2)
def OA{f:GE}{g:GA}{Q0 ax:Gm}{rs:List R}(e:aj f g Q0=some (rs,ax)):∃r aH Ni,f Q0=some (r,aH)/\g aH=some (Ni,ax)/\rs=r::Ni:=by
 unfold aj at e;cases e1:f Q0 with
 |none=>rw[e1] at e;cases e
 |some p=>
  rw[e1] at e;dsimp only[Option.bind] at e;cases e2:g p.2 with
  |none=>rw[e2] at e;cases e
  |some q=>rw[e2] at e;cases e;exact⟨p.1,p.2,q.1,rfl,e2,rfl⟩
def aO:PA X [] (jY K gN):=tI.mono λZ H Q t=>by
 obtain⟨F,A,Q0,r,ax,k,e,w⟩:=t;cases e;exact w [] H ⟨F,A,Ext.refl,k,ig⟩
def xQ{Z:St}{H:Hp}{Q:List V->Hp->Prop}(t:jY K (aj fa fs) Z H Q):xw (tG K fa) (jY K fs) Z H Q:=by
 obtain⟨F,A,Q0,r,ax,k,e,w⟩:=t;obtain⟨r1,aH,rs,e1,e2,rfl⟩:=OA e;refine⟨F,A,Q0,r1,aH,k,e1,λv H1 p=>?_⟩
 obtain⟨F1,A1,x,k1,hh⟩:=id p;obtain⟨C,kC,fr⟩:=OK.frame (τ:=[some v]) (Θ:=[r1.o]) k1 rfl;refine⟨F1,C,aH,rs,ax,kC,e2,λvs H2 p2=>w (v::vs) H2 ?_⟩
 obtain⟨F2,A2,x2,k2,h2⟩:=p2;obtain⟨A3,x3,k3⟩:=fr _ _ _ _ _ x2 k2;exact⟨F2,A3,x.trans x3,k3,i8.one hh h2⟩
def au(ha:PE X e (tG K fa))(hs:PA X es (jY K fs))(hp:starEach (e::es) X.env=(false,eval e X.env)::starEach es X.env:=by rfl):PA X (e::es) (jY K (aj fa fs)):=
 (Qu ha hs hp).mono λZ H Q t=>xQ t
def gO(g:List O->ao O)(fs:GA):GE:=λQ0=>(fs Q0).bind λp=>(gd p.2 p.1).bind λos=>(g os).bind λo=>some (.own o,p.2)
abbrev gB(g:List O->ao O)(fa fb:GE):GE:=gO g (aj fa (aj fb gN))
abbrev Hw(g:List O->ao O)(fa:GE):GE:=gO g (aj fa gN)
def YD{g:List O->ao O}{Q0 ax:Gm}{r:R}(e:gO g fs Q0=some (r,ax)):∃rs os o,fs Q0=some (rs,ax)/\gd ax rs=some os/\g os=some o/\r=.own o:=by
 unfold gO at e;cases e1:fs Q0 with
 |none=>rw[e1] at e;cases e
 |some p=>
  rw[e1] at e;dsimp only[Option.bind] at e;cases e2:gd p.2 p.1 with
  |none=>rw[e2] at e;cases e
  |some os=>
   rw[e2] at e;dsimp only at e;cases e3:g os with
   |none=>rw[e3] at e;cases e
   |some o=>rw[e3] at e;cases e;exact⟨p.1,os,o,rfl,e2,e3,rfl⟩
def cT(K:FG)(r:List V->Hp->VK->Prop)(g:List O->ao O):Prop:=
 ∀(F H:Hp) (vs:List V) (os:List O) (o:O) (Q:VK),aF F H->mH K F H vs os->g os=some o->Res K F H o Q->r vs H Q
def Cz{r:List V->Hp->VK->Prop}{g:List O->ao O}(ok:cT K r g){Z:St}{H:Hp}{Q:VK}(t:tG K (gO g fs) Z H Q):jY K fs Z H λvs H1=>r vs H1 Q:=by
 obtain⟨F,A,Q0,rr,ax,k,e,w⟩:=t;obtain⟨rs,os,o,e1,e2,e3,rfl⟩:=YD e;refine⟨F,A,Q0,rs,ax,k,e1,λvs H1 p=>?_⟩
 obtain⟨F1,le,fD,res⟩:=p.res e2 w;exact ok F1 H1 vs os o Q le fD e3 res
def mV(r:R2):List V->Hp->VK->Prop:=λvs H Q=>∃x y,vs=[x,y]/\r x y H Q
def Nf(r:V->Hp->VK->Prop):List V->Hp->VK->Prop:=λvs H Q=>∃x,vs=[x]/\r x H Q
def tG.mono{f:GE}{Q1 Q2:VK}{Z:St}{H:Hp}(t:tG K f Z H Q1)(q:∀v H',Q1 v H'->Q2 v H'):tG K f Z H Q2:=by
 obtain⟨F,A,Q0,rr,ax,k,e,w⟩:=t;exact⟨F,A,Q0,rr,ax,k,e,λv H' p=>q _ _ (w v H' p)⟩
def FW{r:R2}{g:List O->ao O}(ok:cT K (mV r) g){Z:St}{H:Hp}{Q:VK}(t:tG K (gB g fa fb) Z H Q):Ed r (tG K fa) (tG K fb) Z H Q:=by
 show tG K fa Z H λx H1=>tG K fb Z H1 λy H2=>r x y H2 Q
 refine tG.mono (xQ (Cz ok t)) λx H1 h=>tG.mono (xQ h) λy H2 h2=>?_
 obtain⟨F,A,Q0,rs,ax,k,e,w⟩:=h2;cases e;obtain⟨x',y',e1,h3⟩:=w [] H2 ⟨F,A,Ext.refl,k,ig⟩;cases e1;exact h3
def e8y{r:V->Hp->VK->Prop}{g:List O->ao O}(ok:cT K (Nf r) g){Z:St}{H:Hp}{Q:VK}(t:tG K (Hw g fa) Z H Q):tG K fa Z H λx H1=>r x H1 Q:=by
 refine tG.mono (xQ (Cz ok t)) λx H1 h=>?_
 obtain⟨F,A,Q0,rs,ax,k,e,w⟩:=h;cases e;obtain⟨x',e1,h3⟩:=w [] H1 ⟨F,A,Ext.refl,k,ig⟩;cases e1;exact h3
def dc{op:Operator}{r:R2}{g:List O->ao O}(ho:f_ X (binaryOp op) r)(ok:cT K (mV r) g)(ha:PE X a (tG K fa))(hb:PE X b (tG K fb)):PE X (.BinOp a op b pos) (tG K (gB g fa fb)):=
 (e8v ho ha hb).mono λ_ _ _ t=>FW ok t
def wu{op:CmpOp}{r:R2}{g:List O->ao O}(ho:f_ X (compareOp op) r)(ok:cT K (mV r) g)(ha:PE X a (tG K fa))(hb:PE X b (tG K fb))(hm:behindInMarks op b=false:=by first|rfl|exact RH _):PE X (.Compare a [op] [b] pos) (tG K (gB g fa fb)):=
 (Yk ho ha hb hm).mono λ_ _ _ t=>FW ok t
def e8z{r:R2}{g:List O->ao O}(hr:qI X r)(ok:cT K (mV r) g)(ha:PE X a (tG K fa))(hb:PE X b (tG K fb))(hs:zD b:=by exact λ_ _=>rfl):PE X (.Subscript a b pos) (tG K (gB g fa fb)):=
 (GX hr ha hb hs).mono λ_ _ _ t=>FW ok t
def SG{op:UnaryOp}{r:V->Hp->VK->Prop}{g:List O->ao O}(ho:EE X (unaryOp op) r)(ok:cT K (Nf r) g)(ha:PE X a (tG K fa)):PE X (.UnaryOp op a pos) (tG K (Hw g fa)):=
 (e8w ho ha).mono λ_ _ _ t=>e8y ok t
variable{x:Str}{p:Pos}{id T:String}{r:List V->Hp->VK->Prop}{g:List O->ao O}
def gf(hc:cY X (.builtin id) r)(ok:cT K r g)(hm:X.mg x=none)(hv:bootBuiltins x=some (.builtin id))(ha:PA X (e::es) (jY K fs))(hg:Gl X x:=by rfl)(hn:x≠"__name__":=by decide)(pD:(x == ("__debug__":Str))=false:=by decide)
  (he:starEach (e::es) X.env=(false,eval e X.env)::starEach es X.env:=by rfl) (ka:(backTo pos (starEach es X.env)).any (·.1)=false:=by rfl):PE X (.Call (.Name x p) (e::es) [] pos) (tG K (gO g fs)):=
 (PJ hc hg hm hv ha hn pD he ka).mono λ_ _ _ t=>Cz ok t
def xK(hc:cY X (.type T) r)(ok:cT K r g)(hm:X.mg x=none)(hv:bootBuiltins x=some (.type T))(ha:PA X (e::es) (jY K fs))(hg:Gl X x:=by rfl)(hn:x≠"__name__":=by decide)(pD:(x == ("__debug__":Str))=false:=by decide)
  (he:starEach (e::es) X.env=(false,eval e X.env)::starEach es X.env:=by rfl) (ka:(backTo pos (starEach es X.env)).any (·.1)=false:=by rfl):PE X (.Call (.Name x p) (e::es) [] pos) (tG K (gO g fs)):=
 (VF hc hg hm hv ha hn pD he ka).mono λ_ _ _ t=>Cz ok t
mutual
noncomputable def O.d:O->D
 |.Y d=>d
 |.lst xs=>.lst (O.dl xs)
 |.tup xs=>.tup (O.dl xs)
 |.aL kvs=>.aL (O.dk kvs)
noncomputable def O.dl:List O->List D
 |[]=>[]
 |x::xs=>x.d::O.dl xs
noncomputable def O.dk:List (TK×O)->List (TK×D)
 |[]=>[]
 |(k,x)::xs=>(k,x.d)::O.dk xs
end
end
def ah.rep{K:FG}{F F' H:Hp}{Z:St}{Q0:Gm}{A:List ak}(h:ah K F H Z Q0 A)(s:aF F F')(k:∀a∈A,∀o,H a=some o->F' a=some o):
  ∀(vs:List V) (os:List O),Z=vs.map some->Q0=os.map some->aw K F' vs (O.dl os):=by
 induction h with
 |nil=>
  intro vs os e1 e2;cases vs with
  |nil=>cases os with
   |nil=>exact .nil
   |cons _ _=>cases e2
  |cons _ _=>cases e1
 |skip _ _=>
  intro vs os e1 e2;cases os with
  |nil=>cases e2
  |cons _ _=>injection e2 with e3 _;cases e3
 |Y r _ ih=>
  intro vs os e1 e2;cases vs with
  |nil=>cases e1
  |cons v vs=>cases os with
   |nil=>cases e2
   |cons o os=>
    injection e1 with e3 e4;injection e2 with e5 e6;cases e3;cases e5;exact .cons (r.mono s) (ih k vs os e4 e6)
 |lst e _ _ i1 i2=>
  intro vs os e1 e2;cases vs with
  |nil=>cases e1
  |cons v vs=>cases os with
   |nil=>cases e2
   |cons o os=>
    injection e1 with e3 e4;injection e2 with e5 e6;cases e3;cases e5;exact .lst (.inl (k _ (by simp) _ e)) (i1 (λa m=>k a (by simp[m])) _ _ rfl rfl) (i2 (λa m=>k a (by simp[m])) vs os e4 e6)
 |tup e _ _ i1 i2=>
  intro vs os e1 e2;cases vs with
  |nil=>cases e1
  |cons v vs=>cases os with
   |nil=>cases e2
   |cons o os=>
    injection e1 with e3 e4;injection e2 with e5 e6;cases e3;cases e5;exact .tup (fX.of (k _ (by simp) _ e)) (i1 (λa m=>k a (by simp[m])) _ _ rfl rfl) (i2 (λa m=>k a (by simp[m])) vs os e4 e6)
 |@aL a kvs ps ep A B Z Q0 e q r _ _ i1 i2=>
  intro vs os e1 e2;cases vs with
  |nil=>cases e1
  |cons v vs=>cases os with
   |nil=>cases e2
   |cons o os=>
    injection e1 with e3 e4;injection e2 with e5 e6;cases e3;cases e5;have hk:∀ps:List (TK×O),(O.dk ps).map (·.1)=ps.map (·.1)/\(O.dk ps).map (·.2)=O.dl (ps.map (·.2))/\(O.dk ps).map (·.1.d)=ps.map (·.1.d):=by
     intro ps
     induction ps with
     |nil=>exact⟨rfl,rfl,rfl⟩
     |cons p ps ih=>obtain⟨a,b⟩:=p;exact⟨by simp[O.dk,ih.1],by simp[O.dk,O.dl,ih.2.1],by simp[O.dk,ih.2.2]⟩
    refine .aL (k _ (by simp) _ e) (q.trans (hk ps).1.symm) (by rw[(hk ps).2.2];exact r.mono s) ?_ (i2 (λa m=>k a (by simp[m])) vs os e4 e6)
    rw[(hk ps).2.1];exact i1 (λa m=>k a (by simp[m])) _ _ (by simp) (by simp)
section
variable{K:FG}{F H:Hp}{A:List ak}{Z:St}{Q0:Gm}
def OK.freeze{v:V}{o:O}(k:OK K F H (some v::Z) (some o::Q0) A):∃F' A',OK K F' H (some v::Z) (some (.Y o.d)::Q0) A'/\Ext F H A F' H A':=by
 obtain⟨B,C,h1,h2,h3⟩:=k.os.one;subst h3;obtain⟨n1,n2,n3⟩:=jk.mp k.nd
 let F':Hp:=λa=>if a∈B then H a else F a
 have TL:∀a,a∈B->F' a=H a:=λa m=>aU m
 have vG:∀a,a∉B->F' a=F a:=λa m=>aY m
 have s:aF F F':=λa u e=>by
  rw[vG a λm=>by rw[k.fr a (g_ _ m)] at e;cases e]
  exact e
 have le:aF F' H:=λa u e=>by
  by_cases m:a∈B
  .rw[TL a m] at e;exact e
  .rw[vG a m] at e;exact k.le a u e
 have rp:aw K F' [v] [o.d]:=h1.rep s (λa m u e=>by rw[TL a m];exact e) [v] [o] rfl rfl
 refine⟨F',C,⟨le,.Y rp (h2.keep s λa _ u e=>e),n2,λa m=>?_⟩,s,λa u e _=>e,λa h=>h,λa h=>?_,λa m=>.inl (gE _ m)⟩
 .rw[vG a λz=>n3 a z a m rfl]
  exact k.fr a (gE _ m)
 .by_cases m:a∈B
  .exact .inr (.inl (g_ _ m))
  .rw[vG a m] at h;exact .inl h
def OK.C5{v:V}{o:O}{i:Nat}{A:List ak}(k:OK K F H (some v::Z) (none::Q0) A)(hv:Z[i]?=some (some v))(ho:Q0[i]?=some (some o)):∃A',OK K F H (some v::Z) (some o::Q0.set i none) A'/\Ext F H A F H A':=by
 obtain⟨B,C,h1,h2,h3⟩:=k.os.one;subst h3;have eB:B=[]:=by cases h1 with|skip t=>cases t;rfl
 subst eB;obtain⟨v',Ai,B',g1,g2,g3,g4⟩:=h2.take ho;rw[hv] at g1;cases g1;have nd:=k.nd;have fr:=k.fr;rw[gu] at nd fr;exact⟨Ai++B',.perm (g2.app g3) k.le nd fr g4.symm,Ext.lV Ext.refl λa m=>g4.mem_iff.mpr m⟩
end
def ay(f:GE):GE:=λQ0=>(f Q0).bind λp=>match p.1 with
 |.own o=>some (.own (.Y o.d),p.2)
 |.var i=>match p.2[i]? with
  |some (some o)=>some (.own (.Y o.d),p.2.set i (some (.Y o.d)))
  |_=>none
noncomputable def fw(f:GE):GE:=λQ0=>(f Q0).bind λp=>match p.1 with
 |.own o=>some (.own o,p.2)
 |.var i=>match p.2[i]? with
  |some (some o)=>some (.own o,p.2.set i none)
  |_=>none
section
variable{X:Cx}{K:FG}{e a b:Expr}{es:List Expr}{fa fb:GE}{fs:GA}{pos:Pos}
theorem rS{α:Type}:∀{l:List α} {i:Nat} {x:α},l[i]?=some x->l.set i x=l
 |[],_,_,e=>by simp at e
 |y::l,0,x,e=>by simp at e;subst e;rfl
 |y::l,i+1,x,e=>by rw[List.set_cons_succ,rS (by simpa using e)]
theorem fR.Y{F H:Hp}{A:List ak}{Z:St}{Q0 aH ax:Gm}{r r':R}{v:V}{H':Hp}{f:GE}(e:f Q0=some (r,aH))(e':ay f Q0=some (r',ax))(h:fR K F H A Z aH [r] [v] H'):fR K F H A Z ax [r'] [v] H':=by
 obtain⟨F1,A1,x,k,hh⟩:=h;unfold ay at e';rw[e] at e';cases r with
 |own o=>
  cases e';obtain⟨F2,A2,k2,x2⟩:=OK.freeze (Z:=Z) (Q0:=aH) k;exact⟨F2,A2,x.trans x2,k2,ig⟩
 |var i=>
  dsimp only[Option.bind] at e';cases q:aH[i]? with
  |none=>rw[q] at e';cases e'
  |some z=>
   cases z with
   |none=>rw[q] at e';cases e'
   |some o=>
    rw[q] at e';cases e';have hv:Z[i]?=some (some v):=hh.1;obtain⟨A2,k2,x2⟩:=OK.C5 (Z:=Z) (Q0:=aH) k hv q;obtain⟨F3,A3,k3,x3⟩:=OK.freeze k2;obtain⟨B,C,h1,h2,h3⟩:=k3.os.one;have hi:i<(aH.set i none).length:=by
     rw[vY];exact(e_.mp q).1
    have rp:aw K F3 [v] [o.d]:=by cases h1 with|Y r _=>exact r
    have eB:B=[]:=by cases h1 with|Y _ t=>cases t;rfl
    subst eB;obtain⟨B2,g1,C2,g2,g3⟩:=ah.put (.Y rp .nil) i h2 hi;rw[rS hv,AY] at g1;rw[gu] at g2 h3;subst h3;have xh:B2.Nodup:=g2.nodup_iff.mpr (k3.nd.sublist g3);have sub:∀a∈B2,a∈A3:=λa m=>g3.subset (g2.mem_iff.mp m)
    exact⟨F3,B2,(x.trans (x2.trans x3)).lV sub,⟨k3.le,.Y rp g1,xh,λa m=>k3.fr a (sub a m)⟩,ig⟩
def W3{f:GE}{Q0 ax:Gm}{r:R}(e:ay f Q0=some (r,ax)):∃r1 aH,f Q0=some (r1,aH):=by
 unfold ay at e;cases q:f Q0 with
 |none=>rw[q] at e;cases e
 |some p=>exact⟨p.1,p.2,rfl⟩
def RL{Z:St}{H:Hp}{Q:VK}(t:tG K (ay fa) Z H Q):tG K fa Z H Q:=by
 obtain⟨F,A,Q0,rr,ax,k,e,w⟩:=t;obtain⟨r1,aH,e1⟩:=W3 e;exact⟨F,A,Q0,r1,aH,k,e1,λv H' p=>w v H' (p.Y e1 e)⟩
def bX(h:PE X e (tG K fa)):PE X e (tG K (ay fa)):=h.mono λ_ _ _ t=>RL t
def YE{Z:St}{H:Hp}{Q:VK}(t:tG K (fw fa) Z H Q):tG K fa Z H Q:=by
 obtain⟨F,A,Q0,rr,ax,k,e,w⟩:=t;unfold fw at e;cases q:fa Q0 with
 |none=>rw[q] at e;cases e
 |some p=>
  rw[q] at e;refine⟨F,A,Q0,p.1,p.2,k,q,λv H' pp=>w v H' ?_⟩
  obtain⟨r,aH⟩:=p;cases r with
  |own o=>cases e;exact pp
  |var i=>
   dsimp only[Option.bind] at e;cases q:aH[i]? with
   |none=>rw[q] at e;cases e
   |some z=>
    cases z with
    |none=>rw[q] at e;cases e
    |some o=>
     rw[q] at e;cases e;obtain⟨F1,A1,x,k,hh⟩:=pp;obtain⟨A2,k2,x2⟩:=OK.C5 (Z:=Z) (Q0:=aH) k hh.1 q;exact⟨F1,A2,x.trans x2,k2,ig⟩
def um(h:PE X e (tG K fa)):PE X e (tG K (fw fa)):=h.mono λ_ _ _ t=>YE t
noncomputable def fy:List R->ao (List O)
 |[]=>some []
 |.own o::rs=>(fy rs).bind λos=>some (o::os)
 |.var _::_=>none
theorem rT:∀{rs:List R} {os:List O},fy rs=some os->rs.map R.o=os.map some
 |[],os,e=>by cases e;rfl
 |.own o::rs,os,e=>by
  unfold fy at e;cases q:fy rs with
  |none=>rw[q] at e;cases e
  |some y0=>rw[q] at e;cases e;simp[rT q,R.o]
 |.var _::_,_,e=>by cases e
def bg(c:List O->O)(fs:GA):GE:=λQ0=>(fs Q0).bind λp=>if p.1.length<=1000 then(fy p.1).bind λos=>some (.own (c os),p.2) else none
def PQ{c:List O->O}{Q0 ax:Gm}{r:R}(e:bg c fs Q0=some (r,ax)):∃rs os,fs Q0=some (rs,ax)/\rs.length<=1000/\fy rs=some os/\r=.own (c os):=by
 unfold bg at e;cases e1:fs Q0 with
 |none=>rw[e1] at e;cases e
 |some p=>
  rw[e1] at e;dsimp only[Option.bind] at e;split at e
  .cases e2:fy p.1 with
   |none=>rw[e2] at e;cases e
   |some os=>rw[e2] at e;cases e;exact⟨p.1,os,rfl,by assumption,e2,rfl⟩
  .cases e
def l7(h:PA X es (jY K fs)):PE X (.List es pos) (tG K (bg .lst fs)):=(e4v h).mono λZ H Q t=>by
 obtain⟨F,A,Q0,rr,ax,k,e,w⟩:=t;obtain⟨rs,os,e1,e2,e3,rfl⟩:=PQ e;refine⟨F,A,Q0,rs,ax,k,e1,λvs H1 p=>?_⟩
 obtain⟨F1,A1,x,k1,hh⟩:=p;rw[rT e3] at k1;have hl:=hh.length;have ho:os.length=rs.length:=by have:=congrArg List.length (rT e3);simpa using this.symm
 refine⟨RK (by lia),λl hn=>w (.ref l) _ ?_⟩
 obtain⟨B,C,h1,h2,h3⟩:=ah.split (by simp only[bK];lia) k1.os
 have nl:∀a∈A1,a≠l:=λa m z=>k1.os.there a m (by rw[z];exact hn)
 have kp:∀a∈A1,∀o,H1 a=some o->upd H1 l (.lst vs) a=some o:=λa m o e=>by rw[cW (nl a m)];exact e
 subst h3;refine⟨F1,l::B++C,x.trans ⟨aF.refl _,λa o e _=>?_,λa h=>?_,λa h=>.inl h,λa m=>?_⟩,⟨λa o e=>?_,?_,?_,?_⟩,ig⟩
 .rw[cW (mI e hn)];exact e
 .by_cases z:a=l
  .rw[z,jl];exact λz=>by cases z
  .rw[cW z];exact h
 .rcases eO.mp m with rfl|m
  .exact .inr hn
  .exact .inl m
 .have:=k1.le a o e;rw[cW (mI this hn)];exact this
 .exact .lst jl (h1.keep (aF.refl _) λa m=>kp a (g_ _ m)) (h2.keep (aF.refl _) λa m=>kp a (gE _ m))
 .exact ib.mpr ⟨λm=>nl l m rfl,k1.nd⟩
 .intro a m;rcases eO.mp m with rfl|m
  .exact k1.le.free hn
  .exact k1.fr a m
def jm{x1}(h:PA X es (jY K fs)):PE X (.Tuple es x1 pos) (tG K (bg .tup fs)):=(ω h).mono λZ H Q t=>by
 obtain⟨F,A,Q0,rr,ax,k,e,w⟩:=t;obtain⟨rs,os,e1,e2,e3,rfl⟩:=PQ e;refine⟨F,A,Q0,rs,ax,k,e1,λvs H1 p=>?_⟩
 obtain⟨F1,A1,x,k1,hh⟩:=p;rw[rT e3] at k1;have hl:=hh.length;have ho:os.length=rs.length:=by have:=congrArg List.length (rT e3);simpa using this.symm
 refine⟨RK (by lia),λl hn=>w (.ref l) _ ?_⟩
 obtain⟨B,C,h1,h2,h3⟩:=ah.split (by simp only[bK];lia) k1.os
 have nl:∀a∈A1,a≠l:=λa m z=>k1.os.there a m (by rw[z];exact hn)
 have kp:∀a∈A1,∀o,H1 a=some o->upd H1 l (.tup vs) a=some o:=λa m o e=>by rw[cW (nl a m)];exact e
 subst h3;refine⟨F1,l::B++C,x.trans ⟨aF.refl _,λa o e _=>?_,λa h=>?_,λa h=>.inl h,λa m=>?_⟩,⟨λa o e=>?_,?_,?_,?_⟩,ig⟩
 .rw[cW (mI e hn)];exact e
 .by_cases z:a=l
  .rw[z,jl];exact λz=>by cases z
  .rw[cW z];exact h
 .rcases eO.mp m with rfl|m
  .exact .inr hn
  .exact .inl m
 .have:=k1.le a o e;rw[cW (mI this hn)];exact this
 .exact .tup jl (h1.keep (aF.refl _) λa m=>kp a (g_ _ m)) (h2.keep (aF.refl _) λa m=>kp a (gE _ m))
 .exact ib.mpr ⟨λm=>nl l m rfl,k1.nd⟩
 .intro a m;rcases eO.mp m with rfl|m
  .exact k1.le.free hn
  .exact k1.fr a m
def zS:GE:=λQ0=>some (.own (.aL []),Q0)
def PR{P:fO}{w:eK}{H:Hp}(h:cS)(hb:sysModules<h.objs.size):cG P w H (h.push { cls:=.type "dict",data:=.dict #[]}) h.objs.size (.dG [] 0):=
 ⟨kK _,qD.mpr (Ne.symm (lJ hb)),_,#[],oP _ rfl,⟨rfl,rfl,rfl⟩,rfl,.nil,zk⟩
def e5i:TE:=λ_ H Q=>∀p,H p=none->Q (.ref p) (upd H p (.dG [] 0))
def tJ:PE X (.Dict [] [] pos) e5i:=λae s Z H Q I h=>
 wpAny_Dict_empty ⟨.ref s.heap.objs.size,_,I.laid (a:=s.heap.objs.size) (o:=.dG [] 0) (t':=s.toks) (λ_ _ q=>jN _ q) (cP _) (PR s.heap I.big),rfl,h _ (I.cX.fresh (cP _))⟩
def Jy:PE X (.Dict [] [] pos) (tG K zS):=tJ.mono λZ H Q t=>by
 obtain⟨F,A,Q0,rr,ax,k,e,w⟩:=t;cases e;intro l hn;refine w (.ref l) _ ?_;have s:aF H (upd H l (.dG [] 0)):=uZ hn;obtain⟨k2,x⟩:=k.push (v:=.ref l) (o:=.aL []) (Av:=[l]++[]++[]) s (.aL (kvs:=[]) jl rfl .nil .nil .nil) (by simp) (λa m=>by simp at m;rw[m];exact hn)
 exact⟨F,_,x,k2,ig⟩
noncomputable def gT(f:GE):GT:=λQ0=>(f Q0).bind λp=>match p.1 with
 |.own (.Y (.bl b))=>some (b,p.2)
 |_=>none
def fR.drop{F H:Hp}{A:List ak}{Z:St}{ax:Gm}{rs:List R}{vs:List V}{H':Hp}(h:fR K F H A Z ax rs vs H'):fR K F H A Z ax [] [] H':=by
 obtain⟨F1,A1,x,k,hh⟩:=h;obtain⟨B,kB,sub⟩:=k.part (by rw[bK,bK,hh.length])
 exact⟨F1,B,x.lV sub,kB,ig⟩
theorem fR.flat{F H:Hp}{A:List ak}{Z:St}{ax:Gm}{d:D}{v w:V}{H':Hp}(h:fR K F H A Z ax [.own (.Y d)] [v] H')(e:oV d=some w):v=w:=by
 obtain⟨F1,A1,x,k,hh⟩:=h;obtain⟨B,C,h1,_⟩:=ah.one (Z:=Z) (Q0:=ax) k.os;cases h1 with
 |Y r _=>
  cases r with
  |flat e' _=>rw[e] at e';exact(Option.some.inj e').symm
  |lst _ _ _=>cases e
  |tup _ _ _=>cases e
  |aL _ _ _ _ _=>cases e
  |eY _ _=>cases e
  |exc _ _=>cases e
def Kc{f:GE}{Z:St}{H:Hp}{Q:Bool->Hp->Prop}(t:ia K (gT f) Z H Q):tG K f Z H λx H'=>∃k,x=.bl k/\Q k H':=by
 obtain⟨F,A,Q0,b,ax,k,e,w⟩:=t;unfold gT at e;cases q:f Q0 with
 |none=>rw[q] at e;cases e
 |some p=>
  obtain⟨r,aH⟩:=p;rw[q] at e;dsimp only[Option.bind] at e;cases r with
  |var i=>cases e
  |own o=>
   cases o with
   |Y d=>
    cases d with
    |bl b'=>
     cases e;exact⟨F,A,Q0,_,_,k,q,λv H' pp=>⟨_,pp.flat rfl,w H' pp.drop⟩⟩
    |_=>cases e
   |_=>cases e
def fK{op:CmpOp}{r:R2}{g:List O->ao O}(ho:f_ X (compareOp op) r)(ok:cT K (mV r) g)(ha:PE X a (tG K fa))(hb:PE X b (tG K fb))(hm:behindInMarks op b=false:=by first|rfl|exact RH _):PT X (.Compare a [op] [b] pos) (ia K (gT (gB g fa fb))):=
 (Yl ho ha hb hm).mono λ_ _ _ t=>FW ok (Kc t)
noncomputable def pS:O->ao Bool
 |.Y .bL=>some false
 |.Y (.bl b)=>some b
 |.Y (.int i)=>some (i != 0)
 |.Y (.str x)=>if x.length<=1000000 then some ((x.length:Int) != 0) else none
 |.Y (.lst xs)=>some (!xs.isEmpty)
 |.Y (.tup xs)=>some (!xs.isEmpty)
 |.lst xs=>some (!xs.isEmpty)
 |.tup xs=>some (!xs.isEmpty)
 |_=>none
def dE(f:GE):GT:=λQ0=>(f Q0).bind λp=>(kl p.2 p.1).bind λo=>(pS o).bind λb=>some (b,p.2)
def EL{α β:Type}{xs:List α}{ys:List β}(h:xs.length=ys.length):(!xs.isEmpty) = !ys.isEmpty:=by
 cases xs <;> cases ys <;> simp_all
def YF{F H:Hp}{v:V}{o:O}{b:Bool}{B:List ak}(le:aF F H)(h:ah K F H [some v] [some o] B)(e:pS o=some b):uV K v H b:=by
 cases h with
 |lst q i _=>cases e;exact .inl ⟨_,dO.of q,EL (by have:=i.length;simpa using this.symm)⟩
 |tup q i _=>cases e;exact .inr (.inl ⟨_,fX.of q,EL (by have:=i.length;simpa using this.symm)⟩)
 |aL q z r i _=>cases e
 |@Y v d Z Q0 B r _=>
  cases r with
  |lst q i _=>cases e;exact .inl ⟨_,.inl (le.rd q),EL i.length.symm⟩
  |tup q i _=>cases e;exact .inr (.inl ⟨_,le.lW q,EL i.length.symm⟩)
  |aL q z r i _=>cases e
  |eY _ _=>cases e
  |exc _ _=>cases e
  |flat q _=>
   cases d with
   |bL=>cases q;cases e;rfl
   |bl b'=>cases q;cases e;rfl
   |int i=>cases q;cases e;rfl
   |str x=>
    cases q;unfold pS at e;dsimp only at e;split at e
    .cases e;exact⟨nD (by assumption) (by decide),rfl⟩
    .cases e
   |ty n=>cases e
   |lst _=>cases q
   |tup _=>cases q
   |aL _=>cases q
   |eY _=>cases q
   |exc _ _=>cases q
def kS{X:Cx}{a:Expr}{fa:GE}(ha:PE X a (tG K fa))(he:∀whole,isTrue a X.env whole=(do let v <-whole;standAt a.pos;holding [v] (truthy v)):=by exact λ_=>rfl)(hK:X.K=K:=by rfl):PT X a (ia K (dE fa)):=
 (VO K ha he hK).mono λZ H Q t=>by
  obtain⟨F,A,Q0,b,ax,k,e,w⟩:=t;unfold dE at e;cases q:fa Q0 with
  |none=>rw[q] at e;cases e
  |some p=>
   obtain⟨r,aH⟩:=p;rw[q] at e;dsimp only[Option.bind] at e;cases q2:kl aH r with
   |none=>rw[q2] at e;cases e
   |some o=>
    rw[q2] at e;dsimp only at e;cases q3:pS o with
    |none=>rw[q3] at e;cases e
    |some b'=>
     rw[q3] at e;cases e;refine⟨F,A,Q0,r,_,k,q,λv H' pp=>⟨_,?_,w H' pp.drop⟩⟩
     obtain⟨F1,le,fD,_⟩:=fR.res (Q:=λ_ _=>True) (o:=.Y .bL) pp (os:=[o]) (by unfold gd;rw[q2];rfl) (λ_ _ _=>ig)
     cases fD with
     |cons hs _=>obtain⟨B,hB⟩:=hs;exact YF le hB q3
noncomputable def de(f:GT):GT:=λQ0=>(f Q0).bind λp=>some (!p.1,p.2)
def gH(f g:GT):GT:=λQ0=>(f Q0).bind λp=>if p.1=true then g p.2 else some (false,p.2)
def jx(f g:GT):GT:=λQ0=>(f Q0).bind λp=>if p.1=true then some (true,p.2) else g p.2
def Jz{f:GT}{h:GT}{φ:Bool->GT}(eh:∀Q0,h Q0=(f Q0).bind λp=>φ p.1 p.2){Z:St}{H:Hp}{Q:Bool->Hp->Prop}(t:ia K h Z H Q):ia K f Z H λc H1=>ia K (φ c) Z H1 Q:=by
 obtain⟨F,A,Q0,b,ax,k,e,w⟩:=t;rw[eh] at e;cases q:f Q0 with
 |none=>rw[q] at e;cases e
 |some p=>
  obtain⟨c,aH⟩:=p;rw[q] at e;refine⟨F,A,Q0,c,aH,k,q,λH1 pp=>?_⟩
  obtain⟨F1,A1,x,k1,_⟩:=pp;exact⟨F1,A1,aH,b,ax,k1,e,λH2 p2=>w H2 (by obtain⟨F2,A2,x2,k2,h2⟩:=p2;exact⟨F2,A2,x.trans x2,k2,h2⟩)⟩
def E7{b:Bool}{Z:St}{H:Hp}{Q:Bool->Hp->Prop}(t:ia K (λQ0=>some (b,Q0)) Z H Q):Q b H:=by
 obtain⟨F,A,Q0,b',ax,k,e,w⟩:=t;cases e;exact w H ⟨F,A,Ext.refl,k,ig⟩
def ia.mono{f:GT}{Q1 Q2:Bool->Hp->Prop}{Z:St}{H:Hp}(t:ia K f Z H Q1)(q:∀v H',Q1 v H'->Q2 v H'):ia K f Z H Q2:=by
 obtain⟨F,A,Q0,rr,ax,k,e,w⟩:=t;exact⟨F,A,Q0,rr,ax,k,e,λH' p=>q _ _ (w H' p)⟩
variable{ft gt:GT}{rest:List Expr}
def mL(h:PT X a (ia K ft)):PT X (.UnaryOp .Not a pos) (ia K (de ft)):=(η h).mono λZ H Q t=>
 (Jz (φ:=λc Q0=>some (!c,Q0)) (λ_=>rfl) t).mono λc H1 h=>E7 h
def xW(h:PT X a (ia K ft)):PW X (.BoolOp .And [a] pos) (ia K ft):=Yh h
def yg(h:PT X a (ia K ft)):PW X (.BoolOp .Or [a] pos) (ia K ft):=ε h
def u6(ha:PT X a (ia K ft))(hb:PW X (.BoolOp .And (b::rest) pos) (ia K gt)):PW X (.BoolOp .And (a::b::rest) pos) (ia K (gH ft gt)):=(ζ ha hb).mono λZ H Q t=>
 (Jz (φ:=λc Q0=>if c=true then gt Q0 else some (false,Q0)) (λ_=>rfl) t).mono λc H1 h=>by
  cases c with
  |true=>exact pL (by simpa using h)
  |false=>exact pK (E7 (by simpa using h))
def rB(ha:PT X a (ia K ft))(hb:PW X (.BoolOp .Or (b::rest) pos) (ia K gt)):PW X (.BoolOp .Or (a::b::rest) pos) (ia K (jx ft gt)):=(e8t ha hb).mono λZ H Q t=>
 (Jz (φ:=λc Q0=>if c=true then some (true,Q0) else gt Q0) (λ_=>rfl) t).mono λc H1 h=>by
  cases c with
  |true=>exact pL (E7 (by simpa using h))
  |false=>exact pK (by simpa using h)
def As(c:GT)(f g:GE):GE:=λQ0=>(c Q0).bind λp=>if p.1=true then f p.2 else g p.2
def l_(f g:GE):GE:=λQ0=>(gT f Q0).bind λp=>if p.1=true then g p.2 else gC (.bl false) p.2
def sI(f:GE):GE:=λQ0=>(gT f Q0).bind λp=>gC (.bl (!p.1)) p.2
def KD{f:GT}{h:GE}{φ:Bool->GE}(eh:∀Q0,h Q0=(f Q0).bind λp=>φ p.1 p.2){Z:St}{H:Hp}{Q:VK}(t:tG K h Z H Q):ia K f Z H λc H1=>tG K (φ c) Z H1 Q:=by
 obtain⟨F,A,Q0,b,ax,k,e,w⟩:=t;rw[eh] at e;cases q:f Q0 with
 |none=>rw[q] at e;cases e
 |some p=>
  obtain⟨c,aH⟩:=p;rw[q] at e;refine⟨F,A,Q0,c,aH,k,q,λH1 pp=>?_⟩
  obtain⟨F1,A1,x,k1,_⟩:=pp;exact⟨F1,A1,aH,b,ax,k1,e,λv H2 p2=>w v H2 (by obtain⟨F2,A2,x2,k2,h2⟩:=p2;exact⟨F2,A2,x.trans x2,k2,h2⟩)⟩
def S8{d:D}{v:V}{Z:St}{H:Hp}{Q:VK}(t:tG K (gC d) Z H Q)(q:oV d=some v):Q v H:=by
 obtain⟨F,A,Q0,r,ax,k,e,w⟩:=t;cases e;obtain⟨k2,x⟩:=k.push (v:=v) (o:=.Y d) (Av:=[]) (aF.refl _) (.Y (.flat q .nil) .nil) .nil (λ_ m=>by cases m)
 exact w v H ⟨F,_,x,k2,ig⟩
def Lk{c:Expr}{fc:GT}(hc:PT X c (ia K fc))(ha:PE X a (tG K fa))(hb:PE X b (tG K fb)):PE X (.IfExp c a b pos) (tG K (As fc fa fb)):=(WL hc ha hb).mono λZ H Q t=>
 (KD (φ:=λc Q0=>if c=true then fa Q0 else fb Q0) (λ_=>rfl) t).mono λc H1 h=>by
  cases c with
  |true=>exact pL (by simpa using h)
  |false=>exact pK (by simpa using h)
def KG{op}(h:PE X a (tG K fa)):PE X (.BoolOp op [a] pos) (tG K fa):=θ h
def FX(ha:PE X a (tG K fa))(hb:PE X (.BoolOp .And (b::rest) pos) (tG K fb)):PE X (.BoolOp .And (a::b::rest) pos) (tG K (l_ fa fb)):=(ι ha hb).mono λZ H Q t=>
 tG.mono (Kc (KD (φ:=λc Q0=>if c=true then fb Q0 else gC (.bl false) Q0) (λ_=>rfl) t)) λv H1 ⟨c,e,h⟩=>⟨c,e,by
  cases c with
  |true=>exact pL (by simpa using h)
  |false=>exact pK (S8 (d:=.bl false) (by simpa using h) rfl)⟩
def e5j(ha:PE X a (tG K fa)):PE X (.UnaryOp .Not a pos) (tG K (sI fa)):=(μ ha).mono λZ H Q t=>
 tG.mono (Kc (KD (φ:=λc=>gC (.bl (!c))) (λ_=>rfl) t)) λv H1 ⟨c,e,h⟩=>⟨c,e,S8 h rfl⟩
end
def aB(A B:List ak):Prop:=∃L,A.Perm L/\L.Sublist B
theorem aB.refl(A:List ak):aB A A:=⟨A,.refl _,List.Sublist.refl _⟩
def aB.bD{A B:List ak}(p:A.Perm B):aB A B:=⟨B,p,List.Sublist.refl _⟩
def aB.bb{A B:List ak}(p:A.Sublist B):aB A B:=⟨A,.refl _,p⟩
theorem aB.trans{A B C:List ak}(x:aB A B)(y:aB B C):aB A C:=by
 obtain⟨L,p,s⟩:=x;obtain⟨M,q,t⟩:=y;obtain⟨N,n1,n2⟩:=List.exists_perm_sublist s q;exact⟨N,p.trans n1.symm,n2.trans t⟩
def aB.mem{A B:List ak}(x:aB A B):∀a∈A,a∈B:=λa m=>let ⟨_,p,s⟩:=x;s.subset (p.mem_iff.mp m)
def aB.nodup{A B:List ak}(x:aB A B)(n:B.Nodup):A.Nodup:=let ⟨_,p,s⟩:=x;p.nodup_iff.mpr (n.sublist s)
def aB.app{A B C D:List ak}(x:aB A B)(y:aB C D):aB (A++C) (B++D):=let ⟨_,p,s⟩:=x;let ⟨_,q,t⟩:=y;⟨_,p.append q,s.append t⟩
def OK.sub{K:FG}{F H:Hp}{Z Z':St}{Q0 ax:Gm}{A B:List ak}(k:OK K F H Z Q0 A)(h:ah K F H Z' ax B)(s:aB B A):OK K F H Z' ax B/\Ext F H A F H B:=
 ⟨⟨k.le,h,s.nodup k.nd,λa m=>k.fr a (s.mem a m)⟩,Ext.lV Ext.refl s.mem⟩
inductive Fl where
 |nx|bk|ct|rt (o:O)
abbrev GS:=Gm->ao (Fl×Gm)
def Kept(m:List Bool)(Z Z':St):Prop:=∀j:Nat,m[j]?=some true->Z'[j]?=Z[j]?
def Kept.refl{m:List Bool}{Z:St}:Kept m Z Z:=λ_ _=>rfl
theorem Kept.trans{m:List Bool}{Z Z1 Z2:St}(a:Kept m Z Z1)(b:Kept m Z1 Z2):Kept m Z Z2:=λj h=>(b j h).trans (a j h)
def Kept.set{m:List Bool}{Z:St}{i:Nat}{v:ao V}(h:(m[i]? == some true)=false):Kept m Z (Z.set i v):=λj hj=>by
 by_cases e:i=j
 .subst e;rw[hj] at h;simp at h
 .rw[AU e]
def rP(K:FG)(F H:Hp)(A:List ak)(m:List Bool)(Z:St)(ax:Gm)(Z':St)(H':Hp):Prop:=∃F' A',Ext F H A F' H' A'/\OK K F' H' Z' ax A'/\Kept m Z Z'
def BB(K:FG)(F H:Hp)(A:List ak)(m:List Bool)(Z:St)(ax:Gm)(o:O)(v:V)(Z':St)(H':Hp):Prop:=∃F' A',Ext F H A F' H' A'/\OK K F' H' (some v::Z') (some o::ax) A'/\Kept m Z Z'
def Done(K:FG)(m:List Bool)(D:Ends)(F H:Hp)(A:List ak)(Z:St):Fl->Gm->Prop
 |.nx,ax=>∀Z' H',rP K F H A m Z ax Z' H'->D.nx Z' H'
 |.bk,ax=>∀Z' H',rP K F H A m Z ax Z' H'->D.bk Z' H'
 |.ct,ax=>∀Z' H',rP K F H A m Z ax Z' H'->D.ct Z' H'
 |.rt o,ax=>∀v Z' H',BB K F H A m Z ax o v Z' H'->D.rt v H'
def tS(K:FG)(m:List Bool)(f:GS):TS:=λD Z H=>∃F A Q0 fl ax,OK K F H Z Q0 A/\f Q0=some (fl,ax)/\Done K m D F H A Z fl ax
def Done.step{K:FG}{m:List Bool}{D:Ends}{F H F1 H1:Hp}{A A1:List ak}{Z Z1:St}{fl:Fl}{ax:Gm}(d:Done K m D F H A Z fl ax)(x:Ext F H A F1 H1 A1)(kp:Kept m Z Z1):Done K m D F1 H1 A1 Z1 fl ax:=by
 cases fl with
 |nx=>exact λZ' H' ⟨F',A',x',k,q⟩=>d Z' H' ⟨F',A',x.trans x',k,kp.trans q⟩
 |bk=>exact λZ' H' ⟨F',A',x',k,q⟩=>d Z' H' ⟨F',A',x.trans x',k,kp.trans q⟩
 |ct=>exact λZ' H' ⟨F',A',x',k,q⟩=>d Z' H' ⟨F',A',x.trans x',k,kp.trans q⟩
 |rt o=>exact λv Z' H' ⟨F',A',x',k,q⟩=>d v Z' H' ⟨F',A',x.trans x',k,kp.trans q⟩
section
variable{X:Cx}{K:FG}{m:List Bool}{st:Stmt}{rest sa sb:List Stmt}{e:Expr}{f g:GS}{fa:GE}{ft:GT}{pos:Pos}
def bw:GS:=λQ0=>some (.nx,Q0)
def aT(f g:GS):GS:=λQ0=>(f Q0).bind λp=>match p.1 with
 |.nx=>g p.2
 |.bk=>some (.bk,p.2)
 |.ct=>some (.ct,p.2)
 |.rt o=>some (.rt o,p.2)
def gQ:hU X [] (tS K m bw):=vI.mono λD Z H t=>by
 obtain⟨F,A,Q0,fl,ax,k,e,w⟩:=t;cases e;exact w Z H ⟨F,A,Ext.refl,k,Kept.refl⟩
def bA(h1:PS X st (tS K m f))(h2:hU X rest (tS K m g)):hU X (st::rest) (tS K m (aT f g)):=(WM h1 h2).mono λD Z H t=>by
 obtain⟨F,A,Q0,fl,ax,k,e,w⟩:=t;unfold aT at e;cases q:f Q0 with
 |none=>rw[q] at e;cases e
 |some p=>
  obtain⟨CV,aH⟩:=p;rw[q] at e;dsimp only[Option.bind] at e;refine⟨F,A,Q0,CV,aH,k,q,?_⟩;cases CV with
  |nx=>
   intro Z' H' ⟨F1,A1,x,k1,kp⟩;exact⟨F1,A1,aH,fl,ax,k1,e,w.step x kp⟩
  |bk=>cases e;exact w
  |ct=>cases e;exact w
  |rt o=>cases e;exact w
def bW(h1:PS X st (tS K m f)):hU X [st] (tS K m f):=Qs h1
noncomputable def aP(f:GE):GS:=λQ0=>(f Q0).bind λp=>match p.1 with
 |.own o=>some (.rt o,p.2)
 |.var _=>none
def eP(h:PE X e (tG K fa)):PS X (.Return (some e) pos) (tS K m (aP fa)):=(ξ h).mono λD Z H t=>by
 obtain⟨F,A,Q0,fl,ax,k,e,w⟩:=t;unfold aP at e;cases q:fa Q0 with
 |none=>rw[q] at e;cases e
 |some p=>
  obtain⟨r,aH⟩:=p;rw[q] at e;cases r with
  |var i=>cases e
  |own o=>
   cases e;exact⟨F,A,Q0,_,_,k,q,λv H' ⟨F1,A1,x,k1,_⟩=>w v Z H' ⟨F1,A1,x,k1,Kept.refl⟩⟩
def cf(c:GT)(f g:GS):GS:=λQ0=>(c Q0).bind λp=>if p.1=true then f p.2 else g p.2
def gR{c:Expr}(hc:PT X c (ia K ft))(ha:hU X sa (tS K m f))(hb:hU X sb (tS K m g)):PS X (.If c sa sb pos) (tS K m (cf ft f g)):=(e8u hc ha hb).mono λD Z H t=>by
 obtain⟨F,A,Q0,fl,ax,k,e,w⟩:=t;unfold cf at e;cases q:ft Q0 with
 |none=>rw[q] at e;cases e
 |some p=>
  obtain⟨b,aH⟩:=p;rw[q] at e;refine⟨F,A,Q0,b,aH,k,q,λH1 hh=>?_⟩
  obtain⟨F1,A1,x,k1,_⟩:=hh;cases b with
  |true=>exact pL ⟨F1,A1,aH,fl,ax,k1,e,w.step x Kept.refl⟩
  |false=>exact pK ⟨F1,A1,aH,fl,ax,k1,e,w.step x Kept.refl⟩
def jv(f:GE):GS:=λQ0=>(f Q0).bind λp=>some (.nx,p.2)
def lC(he:PE X e (tG K fa))(hs:swapsWith e none pos.line X.env=pure false:=by rfl):PS X (.Expr e pos) (tS K m (jv fa)):=(Qt he hs).mono λD Z H t=>by
 obtain⟨F,A,Q0,fl,ax,k,e,w⟩:=t;unfold jv at e;cases q:fa Q0 with
 |none=>rw[q] at e;cases e
 |some p=>
  rw[q] at e;cases e;exact⟨F,A,Q0,p.1,p.2,k,q,λv H' pp=>by obtain⟨F1,A1,x,k1,_⟩:=pp.drop;exact w Z H' ⟨F1,A1,x,k1,Kept.refl⟩⟩
noncomputable def av(i:Nat)(f:GE):GS:=λQ0=>(f Q0).bind λp=>match p.1 with
 |.own o=>if i<p.2.length then some (.nx,p.2.set i (some o)) else none
 |.var _=>none
def OK.store{F H:Hp}{A:List ak}{Z:St}{Q0:Gm}{v:V}{o:O}{i:Nat}(k:OK K F H (some v::Z) (some o::Q0) A)(hi:i<Q0.length):∃B,OK K F H (Z.set i (some v)) (Q0.set i (some o)) B/\Ext F H A F H B:=by
 obtain⟨B,C,h1,h2,h3⟩:=k.os.one;obtain⟨B2,g1,C2,g2,g3⟩:=ah.put h1 i h2 hi;subst h3;exact⟨B2,k.sub g1 ((aB.bD g2).trans ((aB.refl B).app (.bb g3)))⟩
def cZ{i:Nat}{x:Str}{pos':Pos}(hN:X.N.Nodup)(hi:X.N[i]?=some x)(hx:Loc X.env.scope x)(he:PE X e (tG K fa))(hm:(m[i]? == some true)=false:=by rfl)(hs:swapsWith e (some (.Name x pos')) pos.line X.env=pure false:=by rfl)(hf:X.fn x=true\/X.env.scope.names.lookup x=some .local := by first|exact .inl rfl|exact .inr rfl):
  PS X (.Assign [.Name x pos'] e pos) (tS K m (av i fa)):=(ο hN hi hx he hs hf).mono λD Z H t=>by
 obtain⟨F,A,Q0,fl,ax,k,e,w⟩:=t;unfold av at e;cases q:fa Q0 with
 |none=>rw[q] at e;cases e
 |some p=>
  obtain⟨r,aH⟩:=p;rw[q] at e;cases r with
  |var i=>cases e
  |own o=>
   dsimp only[Option.bind] at e;split at e
   .cases e;refine⟨F,A,Q0,_,aH,k,q,λv H' hh=>?_⟩
    obtain⟨F1,A1,x,k1,_⟩:=hh;obtain⟨B,k2,x2⟩:=OK.store (Z:=Z) (Q0:=aH) k1 (by assumption)
    exact w _ H' ⟨F1,B,x.trans x2,k2,Kept.set hm⟩
   .cases e
noncomputable def ja(c:GT)(f:GS):Nat->GS
 |0=>λ_=>none
 |n+1=>λQ0=>(c Q0).bind λp=>if p.1=true then(f p.2).bind λq=>match q.1 with
   |.nx=>ja c f n q.2
   |.ct=>ja c f n q.2
   |.bk=>some (.nx,q.2)
   |.rt o=>some (.rt o,q.2)
  else some (.nx,p.2)
def E8(n:Nat){c:Expr}(hp:PassesOwn (model X.prog X.w) X.A X.env X.xe)(hc:PT X c (ia K ft))(hb:hU X sa (tS K m f)):PS X (.While c sa [] pos) (tS K m (ja ft f n)):=(WN hp hc hb).mono λD Z H t=>by
 obtain⟨F,A,Q0,fl,ax,k,e,w⟩:=t;refine⟨λn Z H=>∃F A Q0,OK K F H Z Q0 A/\ja ft f n Q0=some (fl,ax)/\Done K m D F H A Z fl ax,⟨n,F,A,Q0,k,e,w⟩,?_⟩
 rintro n Z H ⟨F,A,Q0,k,e,w⟩;cases n with
 |zero=>cases e
 |succ n=>
  unfold ja at e;cases q:ft Q0 with
  |none=>rw[q] at e;cases e
  |some p=>
   obtain⟨b,aH⟩:=p;rw[q] at e;refine⟨F,A,Q0,b,aH,k,q,λH1 hh=>?_⟩
   obtain⟨F1,A1,x,k1,_⟩:=hh;have k1:OK K F1 H1 Z aH A1:=k1;have w1:=w.step x (Kept.refl (m:=m) (Z:=Z));cases b with
   |false=>
    cases e;exact pK (w1 Z H1 ⟨F1,A1,Ext.refl,k1,Kept.refl⟩)
   |true=>
    refine pL ⟨λZ' H'=>∃F A Q0,OK K F H' Z' Q0 A/\ja ft f n Q0=some (fl,ax)/\Done K m D F H' A Z' fl ax,λZ' H' h=>⟨n,AW _,h⟩,?_⟩
    have e:((f aH).bind λq=>match q.1 with
      |.nx=>ja ft f n q.2
      |.ct=>ja ft f n q.2
      |.bk=>some (.nx,q.2)
      |.rt o=>some (.rt o,q.2))=some (fl,ax):=e
    cases q2:f aH with
    |none=>rw[q2] at e;cases e
    |some p2=>
     obtain⟨Tc,cn⟩:=p2;rw[q2] at e;dsimp only[Option.bind] at e;refine⟨F1,A1,aH,Tc,cn,k1,q2,?_⟩;cases Tc with
     |nx=>exact λZ' H' ⟨F2,A2,x2,k2,kp⟩=>⟨F2,A2,cn,k2,e,w1.step x2 kp⟩
     |ct=>exact λZ' H' ⟨F2,A2,x2,k2,kp⟩=>⟨F2,A2,cn,k2,e,w1.step x2 kp⟩
     |bk=>cases e;exact w1
     |rt o=>cases e;exact w1
abbrev GG:=D->Gm->ao Gm
def gv(K:FG)(m:List Bool)(t:TG)(g:GG):Prop:=
 ∀(F H:Hp) (Z:St) (Q0 aH:Gm) (A:List ak) (x:V) (d:D) (Q:St->Hp->Prop),OK K F H Z Q0 A->aw K F [x] [d]->g d Q0=some aH->(∀Z' A',OK K F H Z' aH A'->Ext F H A F H A'->Kept m Z Z'->Q Z' H)->t x Z H Q
def bu(i:Nat):GG:=λd Q0=>if i<Q0.length then some (Q0.set i (some (.Y d))) else none
def fe{i:Nat}(hm:(m[i]? == some true)=false:=by rfl):gv K m (qm i) (bu i):=by
 intro F H Z Q0 aH A x d Q k r e w;unfold bu at e;split at e
 .cases e;obtain⟨k1,x1⟩:=k.push (v:=x) (o:=.Y d) (Av:=[]) (aF.refl _) (.Y r .nil) .nil (λ_ m=>by cases m)
  obtain⟨B,k2,x2⟩:=OK.store k1 (by assumption)
  exact w _ _ k2 (x1.trans x2) (Kept.set hm)
 .cases e
noncomputable def iu:List GG->List D->Gm->ao Gm
 |[],[],Q0=>some Q0
 |g::gs,d::ds,Q0=>(g d Q0).bind λaH=>iu gs ds aH
 |_,_,_=>none
def pY(K:FG)(m:List Bool)(t:uf)(g:List GG):Prop:=
 ∀(F H:Hp) (Z:St) (Q0 aH:Gm) (A:List ak) (xs:List V) (ds:List D) (Q:St->Hp->Prop),OK K F H Z Q0 A->aw K F xs ds->iu g ds Q0=some aH->(∀Z' A',OK K F H Z' aH A'->Ext F H A F H A'->Kept m Z Z'->Q Z' H)->t xs Z H Q
def Fs:pY K m CY []:=by
 intro F H Z Q0 aH A xs ds Q k r e w;cases ds with
 |nil=>
  cases e;cases xs with
  |nil=>exact⟨rfl,w Z A k Ext.refl Kept.refl⟩
  |cons _ _=>have:=r.length;simp at this
 |cons _ _=>cases e
def p6{t:TG}{ts:uf}{g:GG}{gs:List GG}(h1:gv K m t g)(h2:pY K m ts gs):pY K m (L2.wX t ts) (g::gs):=by
 intro F H Z Q0 aH A xs ds Q k r e w;cases ds with
 |nil=>cases e
 |cons d ds=>
  cases xs with
  |nil=>have:=r.length;simp at this
  |cons x xs=>
   unfold iu at e;cases q:g d Q0 with
   |none=>rw[q] at e;cases e
   |some cn=>
    rw[q] at e;refine⟨x,xs,rfl,h1 F H Z Q0 cn A x d _ k r.inv.1 q λZ1 A1 k1 x1 kp1=>?_⟩
    exact h2 F H Z1 cn aH A1 xs ds _ k1 r.inv.2 e λZ2 A2 k2 x2 xc=>w Z2 A2 k2 (x1.trans x2) (kp1.trans xc)
def fP(gs:List GG):GG:=λd Q0=>match d with
 |.tup ds=>iu gs ds Q0
 |_=>none
theorem O1:∀{gs:List GG} {ds:List D} {Q0 aH:Gm},iu gs ds Q0=some aH->ds.length=gs.length
 |[],[],_,_,_=>rfl
 |g::gs,d::ds,Q0,aH,e=>by
  unfold iu at e;cases q:g d Q0 with
  |none=>rw[q] at e;cases e
  |some cn=>rw[q] at e;simp[O1 (gs:=gs) (ds:=ds) e]
 |[],_::_,_,_,e=>by cases e
 |_::_,[],_,_,e=>by cases e
def FY{ts:uf}{gs:List GG}{n:Nat}(h:pY K m ts gs)(hn:n=gs.length:=by rfl):gv K m (CZ K n ts) (fP gs):=by
 intro F H Z Q0 aH A x d Q k r e w;cases d with
 |tup ds=>
  have e:iu gs ds Q0=some aH:=e;cases r with
  |flat z _=>cases z
  |tup q i _=>exact⟨_,_,rfl,k.le.lW q,by rw[hn,i.length,O1 e],h F H Z Q0 aH A _ ds Q k i e w⟩
 |_=>cases e
noncomputable def gj(g:GG)(f:GS):List D->GS
 |[]=>λQ0=>some (.nx,Q0)
 |d::ds=>λQ0=>(g d Q0).bind λaH=>(f aH).bind λq=>match q.1 with
   |.nx=>gj g f ds q.2
   |.ct=>gj g f ds q.2
   |.bk=>some (.nx,q.2)
   |.rt o=>some (.rt o,q.2)
def O2{t:TG}{g:GG}(tg:gv K m t g){F H:Hp}{Z:St}{Q0 ax:Gm}{A:List ak}{x:V}{d:D}{ds:List D}{fl:Fl}{E:Ends}{Pv:St->Hp->Prop}(k:OK K F H Z Q0 A)(r:aw K F [x] [d])
  (e:gj g f (d::ds) Q0=some (fl,ax)) (w:Done K m E F H A Z fl ax)
  (DH:∀F1 H1 Z1 aH A1,Ext F H A F1 H1 A1->OK K F1 H1 Z1 aH A1->gj g f ds aH=some (fl,ax)->Done K m E F1 H1 A1 Z1 fl ax->Pv Z1 H1):t x Z H λZ2 H2=>tS K m f { E with nx:=Pv,ct:=Pv,bk:=E.nx} Z2 H2:=by
 unfold gj at e;cases q:g d Q0 with
 |none=>rw[q] at e;cases e
 |some aH=>
  rw[q] at e;dsimp only[Option.bind] at e;cases q2:f aH with
  |none=>rw[q2] at e;cases e
  |some p=>
   obtain⟨CV,cn⟩:=p;rw[q2] at e;dsimp only at e;refine tg F H Z Q0 aH A x d _ k r q λZ1 A1 k1 x1 kp=>⟨F,A1,aH,CV,cn,k1,q2,?_⟩
   have w1:=w.step x1 kp;cases CV with
   |nx=>exact λZ' H' ⟨F2,A2,x2,k2,xc⟩=>DH F2 H' Z' cn A2 (x1.trans x2) k2 e (w1.step x2 xc)
   |ct=>exact λZ' H' ⟨F2,A2,x2,k2,xc⟩=>DH F2 H' Z' cn A2 (x1.trans x2) k2 e (w1.step x2 xc)
   |bk=>cases e;exact w1
   |rt o=>cases e;exact w1
def W4{g:GG}{F H:Hp}{Z:St}{Q0 ax:Gm}{A:List ak}{fl:Fl}{E:Ends}(k:OK K F H Z Q0 A)(e:gj g f [] Q0=some (fl,ax))(w:Done K m E F H A Z fl ax):E.nx Z H:=by
 cases e;exact w Z H ⟨F,A,Ext.refl,k,Kept.refl⟩
def dQ(it:GE)(g:GG)(f:GS):GS:=λQ0=>(ay it Q0).bind λp=>match p.1 with
 |.own (.Y (.lst ds))=>gj g f ds p.2
 |_=>none
def Cc(it:GE)(g:GG)(f:GS):GS:=λQ0=>(ay it Q0).bind λp=>match p.1 with
 |.own (.Y (.tup ds))=>gj g f ds p.2
 |_=>none
variable{tg iter:Expr}{t:TG}{gg:GG}{body:List Stmt}
def LI(K:FG)(m:List Bool)(gg:GG)(f:GS)(E:Ends)(F1:Hp)(fl:Fl)(ax:Gm)(ds:List D)(i:Nat)(Z:St)(H:Hp):Prop:=∃F A Q0,OK K F H Z Q0 A/\gj gg f (ds.drop i) Q0=some (fl,ax)/\Done K m E F H A Z fl ax/\aF F1 F
section
variable{F1 H1:Hp}{Z:St}{ds:List D}{i:Nat}{E:Ends}{fl:Fl}{ax:Gm}
def LI.same(p:LI K m gg f E F1 fl ax ds i Z H1):aF F1 H1:=by
 obtain⟨F',A',q9,k',e',w',s'⟩:=p;exact s'.trans k'.le
def LI.turn(p:LI K m gg f E F1 fl ax ds i Z H1)(ht:gv K m t gg){x:V}{d:D}(hd:ds[i]?=some d)(r:aw K F1 [x] [d]):t x Z H1 λZ2 H2=>tS K m f { E with nx:=LI K m gg f E F1 fl ax ds (i+1),ct:=LI K m gg f E F1 fl ax ds (i+1),bk:=E.nx} Z2 H2:=by
 obtain⟨F',A',q9,k',e',w',s'⟩:=p;obtain⟨hi,he⟩:=e_.mp hd;rw[Em hi,he] at e';exact O2 ht k' (r.mono s') e' w' λF2 H2 Z2 cn A2 x2 k2 e2 w2=>⟨F2,A2,cn,k2,e2,w2,s'.trans x2.ff⟩
def LI.step(p:LI K m gg f E F1 fl ax ds i Z H1)(ht:gv K m t gg){ws:List V}(ri:aw K F1 ws ds){x:V}(hx:ws[i]?=some x):t x Z H1 λZ2 H2=>tS K m f { E with nx:=LI K m gg f E F1 fl ax ds (i+1),ct:=LI K m gg f E F1 fl ax ds (i+1),bk:=E.nx} Z2 H2:=by
 have hi:i<ds.length:=by rw[<-ri.length];exact(e_.mp hx).1
 obtain⟨x2,sR,rx⟩:=ri.get (ic hi);rw[hx] at sR;cases sR;exact p.turn ht (ic hi) rx
def LI.fin(p:LI K m gg f E F1 fl ax ds i Z H1)(h:ds.length<=i):E.nx Z H1:=by
 obtain⟨F',A',q9,k',e',w',s'⟩:=p;rw[NN h] at e';exact W4 k' e' w'
def LI.start{F H:Hp}{A A1:List ak}{v:V}{d:D}{aH:Gm}(k1:OK K F1 H1 (some v::Z) (some (.Y d)::aH) A1)(x:Ext F H A F1 H1 A1)(w:Done K m E F H A Z fl ax)(e:gj gg f ds aH=some (fl,ax)):aw K F1 [v] [d]/\LI K m gg f E F1 fl ax ds 0 Z H1:=by
 obtain⟨B,C,h1,h2,h3⟩:=ah.one (Z:=Z) (Q0:=aH) k1.os;subst h3;cases h1 with
 |Y rp tl=>exact⟨rp,F1,_,aH,(k1.sub h2 (.bb (ng _ _))).1,e,w.step (x.lV λa m=>gE _ m) Kept.refl,aF.refl _⟩
def YG{α:Type}{φ:List D->Gm->ao α}{z:α}{Q0:Gm}(e:((ay fa Q0).bind λp=>match p.1 with|.own (.Y (.lst ds))=>φ ds p.2|_=>none)=some z):∃ds aH,ay fa Q0=some (.own (.Y (.lst ds)),aH)/\φ ds aH=some z:=by
 obtain⟨⟨r,aH⟩,q,e⟩:=eE.mp e;dsimp only at e;split at e
 .exact⟨_,aH,q,e⟩
 .cases e
def QB{v:V}(h:aw K F1 [v] [.lst ds]):∃a ws,v=.ref a/\Rd F1 a (.lst ws)/\aw K F1 ws ds:=by
 cases h with
 |flat z _=>cases z
 |@lst a ws vs es Lo sq ri _=>exact⟨a,ws,rfl,sq,ri⟩
end
def p9(hp:PassesOwn (model X.prog X.w) X.A X.env X.xe)(hi:PE X iter (tG K fa))(hg:PG X tg t)(ht:gv K m t gg)(hb:hU X body (tS K m f))(hc:X.calm=true:=by rfl)(hK:X.K=K:=by rfl)(hs:∀x,foldedSetIterable iter X.env x=pure x:=by intro _;rfl):PS X (.For tg iter body [] pos) (tS K m (dQ fa gg f)):=by
 subst hK;refine(ye hp hc (J_ (bX hi)) hg hb hs).mono λD Z H tt=>?_
 obtain⟨F,A,Q0,fl,ax,k,e,w⟩:=tt;obtain⟨ds,aH,q,e⟩:=YG (φ:=λds Q0=>gj gg f ds Q0) e
 refine⟨F,A,Q0,_,aH,k,q,λv H1 pp=>?_⟩
 obtain⟨F1,A1,x,k1,_⟩:=pp;obtain⟨rp,st⟩:=LI.start k1 x w e;obtain⟨a,ws,rfl,sq,ri⟩:=QB rp;exact⟨a,rfl,⟨ws,.inl (k1.le.rd sq)⟩,PF (xs:=ws) (LI X.K m gg f D F1 fl ax ds) st (λi Z' H' _ p=>.inl (p.same.rd sq)) (λi x' Z' H' hx p=>p.step ht ri hx) λZ' H' p=>p.fin (by rw[ri.length];exact cP _)⟩
def YH(hp:PassesOwn (model X.prog X.w) X.A X.env X.xe)(hi:PE X iter (tG K fa))(hg:PG X tg t)(ht:gv K m t gg)(hb:hU X body (tS K m f))(hc:X.calm=true:=by rfl)(hK:X.K=K:=by rfl)(hs:∀x,foldedSetIterable iter X.env x=pure x:=by intro _;rfl):PS X (.For tg iter body [] pos) (tS K m (Cc fa gg f)):=by
 subst hK;refine(ye hp hc (RF (bX hi)) hg hb hs).mono λD Z H tt=>?_
 obtain⟨F,A,Q0,fl,ax,k,e,w⟩:=tt;unfold Cc at e;obtain⟨⟨r,aH⟩,q,e⟩:=eE.mp e;dsimp only at e;split at e
 .rename_i ds
  refine⟨F,A,Q0,_,aH,k,q,λv H1 pp=>?_⟩
  obtain⟨F1,A1,x,k1,_⟩:=pp;obtain⟨rp,st⟩:=LI.start k1 x w e;cases rp with
  |flat z _=>cases z
  |@tup a ws vs es Lo sq ri _=>exact⟨a,rfl,⟨ws,k1.le.lW sq⟩,Yj (xs:=ws) (LI X.K m gg f D F1 fl ax ds) st (λi Z' H' _ p=>p.same.lW sq) (λi x' Z' H' hx p=>p.step ht ri hx) λZ' H' p=>p.fin (by rw[ri.length];exact cP _)⟩
 .cases e
end
noncomputable def fU(lo:Int)(n:Nat):List D:=(List.range n).map λ(k:Nat)=>D.int (lo+(k:Int))
def Oe{α:Type}(h:Nat->α){i n:Nat}(hi:i<n):((List.range n).map h).drop i=h i::((List.range n).map h).drop (i+1):=by
 have e:i<((List.range n).map h).length:=by simpa using hi
 rw[Em e];simp
noncomputable def jg:List R->ao Int
 |[.own (.Y (.int j))]=>if Nat.ble j.natAbs 1000000000000=true then some j else none
 |_=>none
noncomputable def kg:List R->ao (Int×Int)
 |[.own (.Y (.int i)),.own (.Y (.int j))]=>if Nat.ble i.natAbs 1000000000000=true/\Nat.ble j.natAbs 1000000000000=true then some (i,j) else none
 |_=>none
def PU{rs:List R}{j:Int}(e:jg rs=some j):rs=[.own (.Y (.int j))] /\ -(2^62)<=j/\j<2^62:=by
 unfold jg at e;split at e
 .split at e
  .rename_i h
   have h:=Nat.le_of_ble_eq_true h;cases e;exact⟨rfl,by lia,by lia⟩
  .cases e
 .cases e
def PV{rs:List R}{p:Int×Int}(e:kg rs=some p):rs=[.own (.Y (.int p.1)),.own (.Y (.int p.2))] /\ -(2^62)<=p.1/\p.1<2^62 /\ -(2^62)<=p.2/\p.2<2^62:=by
 unfold kg at e;split at e
 .split at e
  .rename_i h
   have h1:=Nat.le_of_ble_eq_true h.1;have h2:=Nat.le_of_ble_eq_true h.2;cases e;exact⟨rfl,by lia,by lia,by lia,by lia⟩
  .cases e
 .cases e
def zF{j:Int}(h:j.natAbs<=1000000):jg [.own (.Y (.int j))]=some j:=by
 unfold jg;dsimp only;rw[aU (Nat.ble_eq_true_of_le (by lia))]
def zw(fs:GA)(g:GG)(f:GS):GS:=λQ0=>(fs Q0).bind λp=>(jg p.1).bind λj=>gj g f (fU 0 j.toNat) p.2
def BI(fs:GA)(g:GG)(f:GS):GS:=λQ0=>(fs Q0).bind λp=>(kg p.1).bind λj=>gj g f (fU j.1 (j.2 - j.1).toNat) p.2
section
variable{X:Cx}{K:FG}{m:List Bool}{f:GS}{fa:GE}{fs:GA}{pos p:Pos}{tg a b c:Expr}{t:TG}{gg:GG}{body:List Stmt}
def u5{F H:Hp}{Z:St}{Q0:Gm}{A:List ak}{v:V}{i:Int}(h:ah K F H (some v::Z) (some (.Y (.int i))::Q0) A):v=.int i/\ah K F H Z Q0 A:=by
 cases h with
 |Y r t=>
  cases r with
  |flat e _=>cases e;exact⟨rfl,t⟩
theorem SH{α:Type}:∀{l:List α},1=l.length->∃a,l=[a]
 |[a],_=>⟨a,rfl⟩
theorem Ll{α:Type}:∀{l:List α},2=l.length->∃a b,l=[a,b]
 |[a,b],_=>⟨a,b,rfl⟩
theorem e9a{α:Type}:∀{l:List α},3=l.length->∃a b c,l=[a,b,c]
 |[a,b,c],_=>⟨a,b,c,rfl⟩
def LI.ints{F1 H1:Hp}{Z:St}{E:Ends}{fl:Fl}{ax aH:Gm}{F H:Hp}{A A1:List ak}{τ:St}{Θ:Gm}{ds:List D}(k1:OK K F1 H1 τ Θ A1)(h:ah K F1 H1 Z aH A1)(x:Ext F H A F1 H1 A1)(w:Done K m E F H A Z fl ax)(e:gj gg f ds aH=some (fl,ax)):LI K m gg f E F1 fl ax ds 0 Z H1:=
 ⟨F1,A1,aH,(k1.sub h (aB.refl _)).1,e,w.step x Kept.refl,aF.refl _⟩
def RM{g:Nat->D}{n i:Nat}(h:i<n):((List.range n).map g)[i]?=some (g i):=by rw[jO,NQ h];rfl
def EW(hp:PassesOwn (model X.prog X.w) X.A X.env X.xe)(hm:X.mg "range"=none)(ha:PA X [a] (jY K fs))(hg:PG X tg t)(ht:gv K m t gg)(hb:hU X body (tS K m f))(hc:X.calm=true:=by rfl)(vt:Gl X "range":=by rfl)
  (hs:starEach [a] X.env=[(false,eval a X.env)]:=by rfl) (hf:∀x,foldedSetIterable (.Call (.Name "range" p) [a] [] pos) X.env x=pure x:=by intro _;rfl) {fp:Pos}:PS X (.For tg (.Call (.Name "range" p) [a] [] pos) body [] fp) (tS K m (zw fs gg f)):=by
 refine(ye hp hc (Ja vt hm ha hs) hg hb hf).mono λD Z H tt=>?_
 obtain⟨F,A,Q0,fl,ax,k,e,w⟩:=tt;obtain⟨⟨rs,aH⟩,q,e⟩:=eE.mp e;obtain⟨j,q2,e⟩:=eE.mp e;obtain⟨hj,hb⟩:=PU q2;subst hj;refine⟨F,A,Q0,_,aH,k,q,λvs H1 pp=>?_⟩
 obtain⟨F1,A1,x,k1,hh⟩:=pp;obtain⟨v,rfl⟩:=SH hh.length;obtain⟨rfl,h2⟩:=u5 (Z:=Z) (Q0:=aH) k1.os;exact⟨j,rfl,hb.1,hb.2,OS (LI K m gg f D F1 fl ax (fU 0 j.toNat)) (.ints k1 h2 x w e) (λi Z' H' hi p=>p.turn ht (RM hi) (.flat rfl .nil)) λZ' H' p=>p.fin (by simp[fU])⟩
def Jc(hp:PassesOwn (model X.prog X.w) X.A X.env X.xe)(hm:X.mg "range"=none)(ha:PA X [a,b] (jY K fs))(hg:PG X tg t)(ht:gv K m t gg)(hb:hU X body (tS K m f))(hc:X.calm=true:=by rfl)(vt:Gl X "range":=by rfl)
  (hs:starEach [a,b] X.env=[(false,eval a X.env),(false,eval b X.env)]:=by rfl) (uJ:starEach [b] X.env=[(false,eval b X.env)]:=by rfl) (hf:∀x,foldedSetIterable (.Call (.Name "range" p) [a,b] [] pos) X.env x=pure x:=by intro _;rfl) {fp:Pos} :
  PS X (.For tg (.Call (.Name "range" p) [a,b] [] pos) body [] fp) (tS K m (BI fs gg f)):=by
 refine(ye hp hc (OR vt hm ha hs uJ) hg hb hf).mono λD Z H tt=>?_
 obtain⟨F,A,Q0,fl,ax,k,e,w⟩:=tt;obtain⟨⟨rs,aH⟩,q,e⟩:=eE.mp e;obtain⟨⟨i0,j⟩,q2,e⟩:=eE.mp e;obtain⟨hj,hb⟩:=PV q2;subst hj;refine⟨F,A,Q0,_,aH,k,q,λvs H1 pp=>?_⟩
 obtain⟨F1,A1,x,k1,hh⟩:=pp;obtain⟨v,v',rfl⟩:=Ll hh.length;obtain⟨rfl,h1⟩:=u5 (Z:=some v'::Z) (Q0:=some (.Y (.int j))::aH) k1.os;obtain⟨rfl,h2⟩:=u5 (Z:=Z) (Q0:=aH) h1;exact⟨i0,j,rfl,hb,OS (LI K m gg f D F1 fl ax (fU i0 (j - i0).toNat)) (.ints k1 h2 x w e) (λi Z' H' hi p=>p.turn ht (RM hi) (.flat rfl .nil)) λZ' H' p=>p.fin (by simp[fU])⟩
end
abbrev GM:=List O->ao (O×Gm)
def BA(K:FG)(F H:Hp)(A:List ak)(vs:List V)(fin:Gm)(o:O)(v:V)(H':Hp):Prop:=∃F' A',Ext F H A F' H' A'/\OK K F' H' (some v::vs.map some) (some o::fin) A'
def fJ(K:FG)(n:Nat)(M:GM):Sp:=λvs H Q _=>vs.length=n/\∃F A os o fin,OK K F H (vs.map some) (os.map some) A/\M os=some (o,fin)/\∀v H',BA K F H A vs fin o v H'->Q v H'
noncomputable def gI:List Bool->Gm->Gm
 |true::m,x::Q0=>x::gI m Q0
 |false::m,_::Q0=>none::gI m Q0
 |[],_::Q0=>none::gI [] Q0
 |_,[]=>[]
def Fl.val:Fl->ao O
 |.rt o=>some o
 |.nx=>some (.Y .bL)
 |_=>none
def runM(n:Nat)(m:List Bool)(f:GS):GM:=λos=>(f (os.map some++List.replicate (n - os.length) none)).bind λp=>p.1.val.bind λo=>if p.2.length=n then some (o,gI m (p.2.take os.length)) else none
section
variable{K:FG}{F H:Hp}{Z:St}{Q0:Gm}{A:List ak}
theorem Jd:∀n:Nat,ah K F H (List.replicate n none) (List.replicate n none) []
 |0=>.nil
 |n+1=>.skip (Jd n)
theorem JA:∀{m:List Bool} {vs:List V} {Z':St} {Q0:Gm} {B:List ak},ah K F H Z' Q0 B->Z'.length=vs.length->(∀j:Nat,m[j]?=some true->Z'[j]?=(vs.map some)[j]?)->∃C,ah K F H (vs.map some) (gI m Q0) C/\C.Sublist B
 |m,[],[],[],B,h,_,_=>by
  cases m with
  |nil=>exact⟨B,h,List.Sublist.refl _⟩
  |cons b m=>cases b <;> exact⟨B,h,List.Sublist.refl _⟩
 |m,v::vs,x::Z',y::Q0,B,h,hl,hk=>by
  obtain⟨B1,B2,h1,h2,h3⟩:=h.one;subst h3;have uH:Z'.length=vs.length:=by simpa using hl
  cases m with
  |nil=>
   obtain⟨C,g1,g2⟩:=JA (m:=[]) h2 uH (λj hj=>by simp at hj)
   exact⟨C,.skip g1,g2.trans (ng _ _)⟩
  |cons b m=>
   obtain⟨C,g1,g2⟩:=JA (m:=m) h2 uH (λj hj=>by simpa using hk (j+1) (by simpa using hj))
   cases b with
   |false=>exact⟨C,.skip g1,g2.trans (ng _ _)⟩
   |true=>
    have hx:x=some v:=by simpa using hk 0 rfl
    subst hx;exact⟨B1++C,h1.app g1,g2.append_left _⟩
 |_,[],_::_,_,_,_,hl,_=>by simp at hl
 |_,_::_,[],_,_,_,hl,_=>by simp at hl
 |_,[],[],_::_,_,h,_,_=>by have:=h.length;simp at this
 |_,_::_,_::_,[],_,h,_,_=>by have:=h.length;simp at this
def OK.params{m:List Bool}{vs:List V}{Z':St}{ax:Gm}{v:V}{o:O}{rest:St}(k:OK K F H (some v::Z') (some o::ax) A)(hl:vs.length<=Z'.length)(kp:Kept m (vs.map some++rest) Z')(hm:m.length<=vs.length):
  ∃B,OK K F H (some v::vs.map some) (some o::gI m (ax.take vs.length)) B/\Ext F H A F H B:=by
 obtain⟨B,C,h1,h2,h3⟩:=k.os.one;subst h3;have nr:=h2.length;have e1:Z'=Z'.take vs.length++Z'.drop vs.length:=(vZ _ _).symm;have e2:ax=ax.take vs.length++ax.drop vs.length:=(vZ _ _).symm;have wY:ah K F H (Z'.take vs.length++Z'.drop vs.length) (ax.take vs.length++ax.drop vs.length) C:=by rw[<-e1,<-e2];exact h2
 obtain⟨C1,C2,g1,g2,g3⟩:=ah.split (by rw[pU,pU];lia) wY
 subst g3;obtain⟨C3,j1,j2⟩:=JA (m:=m) (vs:=vs) g1 (by rw[pU];lia) (λj hj=>by
  have gZ:j<vs.length:=by
   have:=(e_.mp hj).1;lia
  rw[List.getElem?_take_of_lt gZ,kp j hj,xB (by simpa using gZ)])
 exact⟨B++C3,k.sub (h1.app j1) ((aB.refl B).app (.bb (j2.trans (List.sublist_append_left _ _))))⟩
end
section
variable{P:fO}{w:eK}{K:FG}{mg:Str->ao aq}{base:cS}
def VQ{x qual:Str}{st:Stmt}{fa:ak}{fd:lY}{N ps:List Str}{k:Nat}(m:List Bool)(f:GS)(Fn:rO K x qual st fa fd)(S:aJ N ps (dg st))(hm:m.length<=ps.length)
  (kX:∀(gp:aq) (A:dZ) (outer:List Env) (s:az) (H:Hp) (E:XK),eG k (A.deeper (envOfC qual (dg st) s.heap.objs.size fa gp))-> hU (mO eZ P w K mg base N qual (dg st) fa gp A outer s H E).yU (uk st) (tS K m f)):bR P w K mg base eZ (k+1) fa fd ps (fJ K ps.length (runM N.length m f)):=by
 refine Fn.ok S (λvs H Q E h=>h.1) λgp A outer s H vs Q E hr h=>⟨_,kX gp A outer s H E hr,?_⟩
 obtain⟨hl,F,A0,os,o,fin,k0,e,q⟩:=h;have Mt:vs.length=os.length:=by have:=k0.os.length;simpa using this
 have hN:ps.length<=N.length:=by have:=congrArg List.length S.pre;rw[pU] at this;lia
 unfold runM at e;cases q1:f (os.map some++List.replicate (N.length - os.length) none) with
 |none=>rw[q1] at e;cases e
 |some p=>
  obtain⟨fl,ax⟩:=p;rw[q1] at e;dsimp only[Option.bind] at e;have k1:OK K F H (start N vs) (os.map some++List.replicate (N.length - os.length) none) A0:=by
   unfold start;rw[Mt];have z:=k0.os.app (Jd (K:=K) (F:=F) (H:=H) (N.length - os.length));rw[jq] at z;exact⟨k0.le,z,k0.nd,k0.fr⟩
  cases q2:fl.val with
  |none=>rw[q2] at e;cases e
  |some o'=>
   rw[q2] at e;dsimp only at e;split at e
   .rename_i hlen
    cases e;refine⟨F,A0,_,fl,ax,k1,q1,?_⟩;have dr:∀{F' H':Hp} {A':List ak} {v:V} {Z':St},Ext F H A0 F' H' A'->OK K F' H' (some v::Z') (some o::ax) A'->Kept m (start N vs) Z'->Q v H':=by
     intro F' H' A' v Z' x k' kp;unfold start at kp;have hs:Z'.length=ax.length:=by have:=k'.os.length;simpa using this
     obtain⟨B,k2,x2⟩:=OK.params (m:=m) (vs:=vs) k' (by lia) kp (by lia)
     rw[Mt] at k2;exact q v H' ⟨F',B,x.trans x2,k2⟩
    cases fl with
    |nx=>
     cases q2;intro Z' H' ⟨F',A',x,k',kp⟩;obtain⟨k2,x2⟩:=k'.push (v:=.bL) (o:=.Y .bL) (Av:=[]) (aF.refl _) (.Y (.flat rfl .nil) .nil) .nil (λ_ m=>by cases m)
     exact dr (x.trans x2) k2 kp
    |rt o1=>
     cases q2;intro v Z' H' ⟨F',A',x,k',kp⟩;exact dr x k' kp
    |bk=>cases q2
    |ct=>cases q2
   .cases e
def e5l{x qual:Str}{st:Stmt}{fa:ak}{fd:lY}{N ps:List Str}{k:Nat}(m:List Bool)(f:GS)(Fn:rO K x qual st fa fd)(S:aJ N ps (dg st)){n pn:Nat}(hn:N.length=n)(hp:ps.length=pn)(hm:m.length<=ps.length)
  (kX:∀(gp:aq) (A:dZ) (outer:List Env) (s:az) (H:Hp) (E:XK),eG k (A.deeper (envOfC qual (dg st) s.heap.objs.size fa gp))-> ∃f',hU (mO eZ P w K mg base N qual (dg st) fa gp A outer s H E).yU (uk st) (tS K m f')/\f'=f):bR P w K mg base eZ (k+1) fa fd ps (fJ K pn (runM n m f)):=by
 subst hn hp;exact VQ m f Fn S hm λgp A outer s H E hr=>by
  obtain⟨f',h,e⟩:=kX gp A outer s H E hr;rw[<-e];exact h
end
noncomputable def pe:List R->Gm->ao (List O×Gm)
 |[],Q0=>some ([],Q0)
 |.own o::rs,Q0=>(pe rs Q0).bind λp=>some (o::p.1,p.2)
 |.var i::rs,Q0=>match Q0[i]? with
  |some (some o)=>(pe rs (Q0.set i none)).bind λp=>some (o::p.1,p.2)
  |_=>none
noncomputable def rq:List R->Gm->Gm->Gm
 |.own _::rs,_::fin,Q0=>rq rs fin Q0
 |.var i::rs,f::fin,Q0=>(rq rs fin Q0).set i f
 |_,_,Q0=>Q0
def aK(M:GM)(fs:GA):GE:=λQ0=>(fs Q0).bind λp=>(pe p.1 p.2).bind λq=>(M q.1).bind λr=>some (.own r.1,rq p.1 r.2 q.2)
section
variable{K:FG}{F H:Hp}{Z:St}
theorem Je:∀{rs:List R} {vs:List V} {Q0 cn:Gm} {os:List O} {B C:List ak},ah K F H (vs.map some) (rs.map R.o) B->ah K F H Z Q0 C->i8 Z rs vs->pe rs Q0=some (os,cn)->
  ∃B' C',ah K F H (vs.map some) (os.map some) B'/\ah K F H Z cn C'/\(B'++C').Perm (B++C)
 |[],[],Q0,cn,os,B,C,h1,h2,_,e=>by cases e;exact⟨B,C,h1,h2,.refl _⟩
 |.own o::rs,v::vs,Q0,cn,os,B,C,h1,h2,hh,e=>by
  obtain⟨B1,B2,g1,g2,rfl⟩:=ah.one h1;unfold pe at e;cases q:pe rs Q0 with
  |none=>rw[q] at e;cases e
  |some p=>
   rw[q] at e;cases e;obtain⟨B',C',j1,j2,j3⟩:=Je g2 h2 hh q;exact⟨B1++B',C',g1.app j1,j2,by rw[fE,fE];exact .append_left _ j3⟩
 |.var i::rs,v::vs,Q0,cn,os,B,C,h1,h2,hh,e=>by
  obtain⟨B1,B2,g1,g2,rfl⟩:=ah.one h1;have eB:B1=[]:=by cases g1 with|skip t=>cases t;rfl
  subst eB;unfold pe at e;cases q0:Q0[i]? with
  |none=>rw[q0] at e;cases e
  |some z=>
   cases z with
   |none=>rw[q0] at e;cases e
   |some o=>
    rw[q0] at e;dsimp only at e;cases q:pe rs (Q0.set i none) with
    |none=>rw[q] at e;cases e
    |some p=>
     rw[q] at e;cases e;obtain⟨v',Ai,C1,k1,k2,k3,k4⟩:=h2.take q0;rw[hh.1] at k1;cases k1;obtain⟨B',C',j1,j2,j3⟩:=Je g2 k3 hh.2 q;refine⟨Ai++B',C',k2.app j1,j2,?_⟩;rw[fE,gu];refine(List.Perm.append_left Ai j3).trans ?_;rw[<-fE];refine(List.Perm.append_right C1 qB).trans ?_;rw[fE];exact .append_left _ k4.symm
 |[],_::_,_,_,_,_,_,_,_,h,_=>h.elim
 |.own _::_,[],_,_,_,_,_,_,_,h,_=>h.elim
 |.var _::_,[],_,_,_,_,_,_,_,h,_=>h.elim
theorem JB:∀{rs:List R} {vs:List V} {fin Q0:Gm} {B C:List ak},ah K F H (vs.map some) fin B->ah K F H Z Q0 C->i8 Z rs vs->∃D,ah K F H Z (rq rs fin Q0) D/\aB D (B++C)
 |[],[],fin,Q0,B,C,h1,h2,_=>by
  cases h1;exact⟨C,h2,.bb (ng _ _)⟩
 |.own o::rs,v::vs,[],Q0,B,C,h1,h2,hh=>by have:=h1.length;simp at this
 |.var i::rs,v::vs,[],Q0,B,C,h1,h2,hh=>by have:=h1.length;simp at this
 |.own o::rs,v::vs,f::fin,Q0,B,C,h1,h2,hh=>by
  obtain⟨B1,B2,g1,g2,rfl⟩:=ah.one h1;obtain⟨D,j1,j2⟩:=JB g2 h2 hh;exact⟨D,j1,j2.trans (by rw[fE];exact .bb (ng _ _))⟩
 |.var i::rs,v::vs,f::fin,Q0,B,C,h1,h2,hh=>by
  obtain⟨B1,B2,g1,g2,rfl⟩:=ah.one h1;obtain⟨D,j1,j2⟩:=JB g2 h2 hh.2;cases f with
  |none=>
   obtain⟨D',k1,k2⟩:=ah.forget i j1;exact⟨D',k1,(aB.bb k2).trans (j2.trans (by rw[fE];exact .bb (ng _ _)))⟩
  |some o=>
   have hi:i<(rq rs fin Q0).length:=by
    rw[<-j1.length];exact(e_.mp hh.1).1
   obtain⟨D',k1,C',k2,k3⟩:=ah.put g1 i j1 hi;rw[rS hh.1] at k1;refine⟨D',k1,(aB.bD k2).trans ?_⟩;rw[fE];exact(aB.refl B1).app ((aB.bb k3).trans j2)
 |[],_::_,_,_,_,_,_,_,h=>h.elim
 |.own _::_,[],_,_,_,_,_,_,h=>h.elim
 |.var _::_,[],_,_,_,_,_,_,h=>h.elim
end
section
variable{X:Cx}{K:FG}{k n:Nat}{f:ak}{fd:lY}{ps:List Str}{x:Str}{p pos:Pos}{e:Expr}{es:List Expr}{fs:GA}{st:Stmt}{M:GM}
def YI{Z:St}{H:Hp}{Q:VK}(t:tG K (aK M fs) Z H Q)(hn:∀rs Q0 ax,fs Q0=some (rs,ax)->rs.length=n):qA (fJ K n M) [] E0 (jY K fs) Z H Q:=by
 obtain⟨F,A,Q0,rr,ax,k,e,w⟩:=t;unfold aK at e;cases q:fs Q0 with
 |none=>rw[q] at e;cases e
 |some pr=>
  obtain⟨rs,aH⟩:=pr;rw[q] at e;dsimp only[Option.bind] at e;cases q2:pe rs aH with
  |none=>rw[q2] at e;cases e
  |some pr2=>
   obtain⟨os,cn⟩:=pr2;rw[q2] at e;dsimp only at e;cases q3:M os with
   |none=>rw[q3] at e;cases e
   |some pr3=>
    obtain⟨o,fin⟩:=pr3;rw[q3] at e;cases e;refine⟨F,A,Q0,rs,aH,k,q,λvs H1 pp=>?_⟩
    show fJ K n M (vs++[]) H1 Q E0;rw[jq];obtain⟨F1,A1,x,k1,hh⟩:=pp;have hl:(vs.map some).length=(rs.map R.o).length:=by rw[bK,bK,hh.length]
    obtain⟨B,C,h1,h2,h3⟩:=ah.split hl k1.os;subst h3;obtain⟨B',C',j1,j2,j3⟩:=Je h1 h2 hh q2;have k2:OK K F1 H1 (vs.map some++Z) (os.map some++cn) (B'++C'):=.perm (j1.app j2) k1.le k1.nd k1.fr j3;obtain⟨A3,p3,k3⟩:=k2.swap j1.length;obtain⟨A4,k4,fr⟩:=k3.frame j2.length;refine⟨by rw[<-hh.length];exact hn rs Q0 aH q,F1,A4,os,o,fin,k4,q3,λv H' pc=>w v H' ?_⟩
    obtain⟨F5,A5,x5,k5⟩:=pc;obtain⟨A6,x6,k6⟩:=fr _ _ _ _ _ x5 k5;obtain⟨D1,D2,g1,g2,g3⟩:=ah.split j2.length k6.os;subst g3;obtain⟨D3,D4,g4,g5,g6⟩:=g2.one;subst g6;obtain⟨D5,g7,g8⟩:=JB g5 g1 hh;have s1:aB (D3++D5) (D1++(D3++D4)):=by
     refine((aB.refl D3).app g8).trans (.bD ?_);rw[<-fE];exact qB
    obtain⟨k7,x7⟩:=k6.sub (Z':=some v::Z) (ax:=some o::rq rs fin cn) (g4.app g7) s1;have x3:Ext F1 H1 (B++C) F1 H1 A3:=Ext.lV Ext.refl λa m=>j3.mem_iff.mp (p3.mem_iff.mp m)
    exact⟨F5,D3++D5,((x.trans x3).trans x6).trans x7,k7,ig⟩
def dS:∀rs Q0 ax,gN Q0=some (rs,ax)->rs.length=0:=λrs Q0 ax e=>by cases e;rfl
def aZ{f:GE}{g:GA}{n:Nat}(h:∀rs Q0 ax,g Q0=some (rs,ax)->rs.length=n):∀rs Q0 ax,aj f g Q0=some (rs,ax)->rs.length=n+1:=λrs Q0 ax e=>by
 obtain⟨r,aH,Ni,_,e2,rfl⟩:=OA e;simp[h _ _ _ e2]
def fj(D:bS X.K X.mg x st f fd ps)(Fn:bR X.prog X.w X.K X.mg X.base eZ k f fd ps (fJ K n M))(hr:eG k X.A)(ha:PA X (e::es) (jY K fs))(hn:∀rs Q0 ax,fs Q0=some (rs,ax)->rs.length=n)(hg:Gl X x:=by rfl)(pD:(x == ("__debug__":Str))=false:=by decide)
  (he:starEach (e::es) X.env=(false,eval e X.env)::starEach es X.env:=by rfl) (ka:(backTo pos (starEach es X.env)).any (·.1)=false:=by rfl) :
  PE X (.Call (.Name x p) (e::es) [] pos) (tG K (aK M fs)):=(xj D Fn hr ha hg pD he ka).mono λ_ _ _ t=>YI t hn
end
noncomputable def kf:List O->ao (List D)
 |[]=>some []
 |.Y d::os=>(kf os).bind λds=>some (d::ds)
 |_::_=>none
def dY:O->ao (List D)
 |.Y (.lst ds)=>some ds
 |.Y (.eY ns)=>some (ns.map .int)
 |.lst os=>kf os
 |_=>none
def t6:O->ao (List D)
 |.Y (.tup ds)=>some ds
 |.tup os=>kf os
 |_=>none
theorem xR:∀ds:List D,kf (ds.map .Y)=some ds
 |[]=>rfl
 |d::ds=>by rw[dD,kf,xR ds];rfl
theorem pq:∀ds:List D,O.dl (ds.map .Y)=ds
 |[]=>rfl
 |d::ds=>by rw[dD,O.dl,pq ds];rfl
section
variable{K:FG}{F H:Hp}{x y v:V}{o:O}{B:List ak}{ds:List D}{d:D}{ws:List V}
theorem JC:∀{ws:List V} {os:List O} {ds:List D} {B:List ak},ah K F H (ws.map some) (os.map some) B->kf os=some ds->aw K F ws ds
 |[],[],_,_,_,e=>by cases e;exact .nil
 |w::ws,o::os,ds,B,h,e=>by
  obtain⟨B1,B2,h1,h2,_⟩:=ah.one h;cases o with
  |Y d=>
   unfold kf at e;cases q:kf os with
   |none=>rw[q] at e;cases e
   |some Lo=>
    rw[q] at e;cases e;cases h1 with
    |Y r _=>exact .cons r (JC h2 q)
  |_=>cases e
 |[],_::_,_,_,h,_=>by have:=h.length;simp at this
 |_::_,[],_,_,h,_=>by have:=h.length;simp at this
theorem E9:∀{ws:List V} {ds:List D},aw K F ws ds->ah K F H (ws.map some) ((ds.map .Y).map some) []
 |[],[],_=>.nil
 |w::ws,d::ds,h=>.Y h.inv.1 (E9 h.inv.2)
 |[],_::_,h=>by have:=h.length;simp at this
 |_::_,[],h=>by have:=h.length;simp at this
theorem JD:∀ns:List Int,aw K F (ns.map V.int) (ns.map D.int)
 |[]=>.nil
 |n::ns=>.flat rfl (JD ns)
def xS(le:aF F H)(h:ah K F H [some x] [some o] B)(e:dY o=some ds):∃a ws,x=.ref a/\dO K H a ws/\aw K F ws ds:=by
 cases h with
 |@Y _ d _ _ _ r _=>
  cases r with
  |lst q i _=>cases e;exact⟨_,_,rfl,.inl (le.rd q),i⟩
  |exc _ _=>cases e
  |eY q _=>cases e;exact⟨_,_,rfl,le.seq q,JD _⟩
  |flat q _=>cases d <;> first|(cases q;done)|cases e
  |tup _ _ _=>cases e
  |aL _ _ _ _ _=>cases e
 |lst q i _=>exact⟨_,_,rfl,dO.of q,JC i e⟩
 |tup _ _ _=>cases e
 |aL _ _ _ _ _=>cases e
def Ft(le:aF F H)(h:ah K F H [some x] [some o] B)(e:t6 o=some ds):∃a ws,x=.ref a/\fX K H a ws/\aw K F ws ds:=by
 cases h with
 |@Y _ d _ _ _ r _=>
  cases r with
  |tup q i _=>cases e;exact⟨_,_,rfl,le.lW q,i⟩
  |eY q _=>cases e
  |exc _ _=>cases e
  |flat q _=>cases d <;> first|(cases q;done)|cases e
  |lst _ _ _=>cases e
  |aL _ _ _ _ _=>cases e
 |tup q i _=>exact⟨_,_,rfl,fX.of q,JC i e⟩
 |lst _ _ _=>cases e
 |aL _ _ _ _ _=>cases e
def ju(h:ah K F H [some x] [some (.Y d)] B)(e:oV d=some v):x=v:=by
 cases h with
 |Y r _=>
  cases r with
  |flat q _=>rw[e] at q;exact(Option.some.inj q).symm
  |lst _ _ _=>cases e
  |tup _ _ _=>cases e
  |aL _ _ _ _ _=>cases e
  |eY _ _=>cases e
  |exc _ _=>cases e
def qL(le:aF F H)(h:ah K F H [some x] [some o] B):aw K H [x] [o.d]:=h.rep le (λ_ _ _ e=>e) [x] [o] rfl rfl
theorem Res.lst{Q:VK}(h:Res K F H (.lst (ds.map .Y)) Q)(r:aw K F ws ds){l:ak}(hn:H l=none):Q (.ref l) (upd H l (.lst ws)):=
 h (.ref l) _ ([l]++[]++[]) (uZ hn) (.lst jl (E9 r) .nil) (by simp) (λa m=>by simp at m;rw[m];exact hn)
theorem Res.tup{Q:VK}(h:Res K F H (.tup (ds.map .Y)) Q)(r:aw K F ws ds){l:ak}(hn:H l=none):Q (.ref l) (upd H l (.tup ws)):=
 h (.ref l) _ ([l]++[]++[]) (uZ hn) (.tup jl (E9 r) .nil) (by simp) (λa m=>by simp at m;rw[m];exact hn)
def mH.one{o:O}{vs:List V}(h:mH K F H vs [o]):∃x B,vs=[x]/\ah K F H [some x] [some o] B:=by
 cases h with
 |cons a t=>cases t;obtain⟨B,a⟩:=a;exact⟨_,B,rfl,a⟩
def mH.two{o o':O}{vs:List V}(h:mH K F H vs [o,o']):∃x y B C,vs=[x,y]/\ah K F H [some x] [some o] B/\ah K F H [some y] [some o'] C:=by
 cases h with
 |cons a t=>cases t with
  |cons b t=>cases t;obtain⟨B,a⟩:=a;obtain⟨C,b⟩:=b;exact⟨_,_,B,C,rfl,a,b⟩
end
section
variable{X:Cx}
def tO(K:FG):R2:=λx y H Q=>∃l b xs zs,x=.ref l/\y=.ref b/\dO K H l xs/\dO K H b zs/\xs.length+zs.length<=sizeLine/\∀p,H p=none->Q (.ref p) (upd H p (.lst (xs++zs)))
def YJ:f_ X (binaryOp .Add) (tO X.K):=by
 intro ae s Z H x y v u Q I rx ry h;obtain⟨l,b,xs,zs,rfl,rfl,hH,hB,hz,q⟩:=h;cases rx;cases ry;obtain⟨aG,r,pl,_⟩:=I.list hH;obtain⟨kh,r2,Nc,_⟩:=I.list hB;have hl:=r.length;have Mq:=r2.length;obtain⟨⟨cls,dd,data,sl⟩,ho,hc,n,hd⟩:=id pl.isList;obtain⟨⟨KY,wM,data2,HZ⟩,yI,Dc,n2,hd2⟩:=id Nc.isList;simp only at hc hd Dc hd2;subst hc hd Dc hd2;have ea:aG.toArray++kh.toArray=(aG++kh).toArray:=by simp
 refine concat_meets ⟨_,ho,rfl⟩ ⟨_,yI,rfl⟩ noFill_list_add seq_list_add PySem.F.slot_list_add PySem.F.entry_list_add (PySem.F.args_list_add_2 _ _) (list_addW l b aG.toArray kh.toArray n n2 dd wM sl HZ (by simp only[fI];lia)) ⟨ho,yI,?_⟩
 rw[ea];exact⟨.ref _,_,I.MQ (t':=s.toks) (r.append r2) (by rw[du];lia),rfl,q _ I.fresh⟩
def W5(K:FG)(hK:X.K=K:=by rfl):f_ X (binaryOp .Add) (tO K):=hK ▸ YJ
noncomputable def BR:O->O->ao (ao O)
 |.Y (.int i),.Y (.int j)=>some (some (.Y (.int (i+j))))
 |.Y (.str x),.Y (.str y)=>some (if x.length+y.length<=1000000 then some (.Y (.str (x++y))) else none)
 |_,_=>none
def bY:List O->ao O
 |[a,b]=>match BR a b with
  |some r=>r
  |none=>(dY a).bind λxs=>(dY b).bind λys=>if xs.length+ys.length<=1000000 then some (.lst ((xs++ys).map .Y)) else none
 |_=>none
def xl(K:FG):R2:=λx y H Q=>rK (λi j=>.int (i+j)) x y H Q\/(∃i j,x=.str i/\y=.str j/\i.length+j.length<=sizeLine/\Q (.str (i++j)) H)\/tO K x y H Q
def hX(K:FG)(hK:X.K=K:=by rfl):f_ X (binaryOp .Add) (xl K):=yY.or (pO.or (W5 K hK))
def ml{n:Nat}(h:n<=1000000):n<=sizeLine:=nD h (by decide)
def hY{K:FG}:cT K (mV (xl K)) bY:=by
 intro F H vs os o Q le fD e res;unfold bY at e;split at e
 .rename_i a b
  obtain⟨x,y,B,C,rfl,h1,h2⟩:=fD.two;split at e
  .rename_i r q
   unfold BR at q;split at q
   .cases q;cases e;cases ju h1 rfl;cases ju h2 rfl;exact⟨_,_,rfl,.inl ⟨_,_,rfl,rfl,res.flat rfl⟩⟩
   .cases q;split at e
    .cases e;cases ju h1 rfl;cases ju h2 rfl;exact⟨_,_,rfl,.inr (.inl ⟨_,_,rfl,rfl,ml (by assumption),res.flat rfl⟩)⟩
    .cases e
   .cases q
  .cases q1:dY a with
   |none=>rw[q1] at e;cases e
   |some xs=>
    rw[q1] at e;cases q2:dY b with
    |none=>rw[q2] at e;cases e
    |some ys=>
     rw[q2] at e;dsimp only[Option.bind] at e;split at e
     .cases e;obtain⟨a1,AS,rfl,s1,r1⟩:=xS le h1 q1;obtain⟨a2,xA,rfl,s2,r2⟩:=xS le h2 q2;refine⟨_,_,rfl,.inr (.inr ⟨a1,a2,AS,xA,rfl,rfl,s1,s2,ml (by rw[r1.length,r2.length];assumption),λp hp=>res.lst (r1.append r2) hp⟩)⟩
     .cases e
 .cases e
noncomputable def ot(C:Int->Int->Bool)(f:Int->Int->D):List O->ao O
 |[.Y (.int i),.Y (.int j)]=>if C i j=true then some (.Y (f i j)) else none
 |_=>none
def Ce{K:FG}{r:R2}{C:Int->Int->Bool}{f:Int->Int->D}{g:Int->Int->V}(hf:∀i j,oV (f i j)=some (g i j))(hr:∀i j H Q,C i j=true->Q (g i j) H->r (.int i) (.int j) H Q):cT K (mV r) (ot C f):=by
 intro F H vs os o Q le fD e res;unfold ot at e;split at e
 .split at e
  .cases e;obtain⟨x,y,B,C,rfl,h1,h2⟩:=fD.two;cases ju h1 rfl;cases ju h2 rfl;exact⟨_,_,rfl,hr _ _ _ _ (by assumption) (res.flat (hf _ _))⟩
  .cases e
 .cases e
abbrev qW:=ot (λ_ _=>true) λi j=>.int (i - j)
abbrev mj:=ot (λ_ j=>decide (0<j/\j<1073741824)) λi j=>.int (i / j)
abbrev oMod:=ot (λ_ j=>decide (0<j)) λi j=>.int (i%j)
abbrev oLt:=ot (λ_ _=>true) λi j=>.bl (decide (i<j))
abbrev vE:=ot (λ_ _=>true) λi j=>.bl (decide (j<i))
def Cf{K:FG}:cT K (mV (rK λi j=>.int (i - j))) qW:=Ce (λ_ _=>rfl) λ_ _ _ _ _ q=>⟨_,_,rfl,rfl,q⟩
def BU{K:FG}:cT K (mV (rI xD λi j=>.int (i / j))) mj:=Ce (λ_ _=>rfl) λi j _ _ c q=>⟨_,_,rfl,rfl,show xD i j from uQ (p:=0<j/\j<1073741824) c,q⟩
def uv{K:FG}:cT K (mV (rI (λ_ j=>0<j) λi j=>.int (i%j))) oMod:=Ce (λ_ _=>rfl) λ_ _ _ _ c q=>⟨_,_,rfl,rfl,uQ c,q⟩
def Ae{K:FG}:cT K (mV (rK λi j=>.bl (decide (i<j)))) oLt:=Ce (λ_ _=>rfl) λ_ _ _ _ _ q=>⟨_,_,rfl,rfl,q⟩
def Af{K:FG}:cT K (mV (rK λi j=>.bl (decide (j<i)))) vE:=Ce (λ_ _=>rfl) λ_ _ _ _ _ q=>⟨_,_,rfl,rfl,q⟩
end
instance (z:Str) (n:Int):Decidable (MulOk z n):=by unfold MulOk;infer_instance
section
variable{X:Cx}
noncomputable def Dy(j:Int):O->ao O
 |.Y (.int i)=>if(-(2^64)<i/\i<2^64)\/(-(2^64)<j/\j<2^64) then some (.Y (.int (i*j))) else none
 |.Y (.str z)=>if MulOk z j then some (.Y (.str (Txt.mul z j))) else none
 |_=>none
def gK:List O->ao O
 |[a,.Y (.int j)]=>Dy j a
 |_=>none
def xo:R2:=λx y H Q=>rI uR (λi j=>.int (i*j)) x y H Q\/∃z n,x=.str z/\y=.int n/\MulOk z n/\Q (.str (Txt.mul z n)) H
def wm:f_ X (binaryOp .Mult) xo:=yZ.or Va
def wx{K:FG}:cT K (mV xo) gK:=by
 intro F H vs os o Q le fD e res;unfold gK at e;split at e
 .obtain⟨x,y,B,C,rfl,h1,h2⟩:=fD.two;unfold Dy at e;split at e
  .split at e
   .cases e;cases ju h1 rfl;cases ju h2 rfl;exact⟨_,_,rfl,.inl ⟨_,_,rfl,rfl,by assumption,res.flat rfl⟩⟩
   .cases e
  .split at e
   .cases e;cases ju h1 rfl;cases ju h2 rfl;exact⟨_,_,rfl,.inr ⟨_,_,rfl,rfl,by assumption,res.flat rfl⟩⟩
   .cases e
  .cases e
 .cases e
def tq:List O->ao O
 |[.Y (.int i)]=>some (.Y (.int (-i)))
 |_=>none
def RN{K:FG}:cT K (Nf (rU λi=>.int (-i))) tq:=by
 intro F H vs os o Q le fD e res;unfold tq at e;split at e
 .cases e;obtain⟨x,B,rfl,h1⟩:=fD.one;cases ju h1 rfl;exact⟨_,rfl,_,rfl,res.flat rfl⟩
 .cases e
mutual
noncomputable def bh:D->D->Bool
 |.lst xs,.lst ys=>fT xs ys
 |.tup xs,.tup ys=>fT xs ys
 |.bL,.bL=>true
 |.bl a,.bl b=>a == b
 |.bl a,.int b=>(if a then 1 else 0) == b
 |.int a,.bl b=>a == (if b then 1 else 0)
 |.int a,.int b=>a == b
 |.str a,.str b=>a == b
 |_,_=>false
noncomputable def fT:List D->List D->Bool
 |[],[]=>true
 |x::xs,y::ys=>bh x y&&fT xs ys
 |_,_=>false
end
noncomputable def cJ:Nat->D->Bool
 |n+1,.lst xs=>xs.all (cJ n)
 |n+1,.tup xs=>xs.all (cJ n)
 |_,.bL=>true
 |_,.bl _=>true
 |_,.int _=>true
 |_,.str _=>true
 |_,_=>false
theorem BJ:∀{xs ys:List D},xs.length≠ys.length->fT xs ys=false
 |[],[],h=>bZ rfl h
 |[],_::_,_=>by unfold fT;rfl
 |_::_,[],_=>by unfold fT;rfl
 |x::xs,y::ys,h=>by unfold fT;rw[BJ (by simpa using h),AZ]
theorem BK:∀{xs ys:List D} (n:Nat),xs.length=n->ys.length=n->fT xs ys=(List.range n).all λj=>bh (xs.getD j .bL) (ys.getD j .bL)
 |[],[],0,_,_=>by unfold fT;rfl
 |x::xs,y::ys,n+1,h1,h2=>by
  unfold fT;rw[BK n (by simpa using h1) (by simpa using h2),List.range_succ_eq_map,t_,Im]
  rfl
 |[],_,_+1,h,_=>by simp at h
 |_::_,[],_+1,_,h=>by simp at h
 |_::_,_,0,h,_=>by simp at h
 |[],_::_,0,_,h=>by simp at h
variable{ae:List (ak×Obj)}{Z:St}{H:Hp}{s:az}
def wz{K:FG}{F:Hp}{ws:List V}{es:List D}(r:aw K F ws es){aG:List aq}(rv:Vals ws aG){j:Nat}(h:j<aG.toArray.size):∃x,RelV x aG.toArray[j]/\aw K F [x] [es.getD j .bL]/\j<es.length:=by
 obtain⟨x,hx,rx⟩:=rv.at h;have hl:=r.length;have hj:j<es.length:=by
  have:=(e_.mp hx).1;lia
 obtain⟨y,hy,ry⟩:=r.get (i:=j) (d:=es[j]) (by simp[hj])
 rw[hx] at hy;cases hy;refine⟨x,rx,?_,hj⟩;rw[show es.getD j .bL=es[j] by simp[hj]]
 exact ry
def wa{p:D->Bool}{es:List D}(h:es.all p=true){j:Nat}(hj:j<es.length):p (es.getD j .bL)=true:=by
 rw[show es.getD j .bL=es[j] by simp[hj]]
 exact jH.mp h _ (zj hj)
inductive xJ (K:FG) (H:Hp) (s:az):aq->D->Prop
 |none:xJ K H s .none .bL
 |bool (b:Bool):xJ K H s (.bool b) (.bl b)
 |int (i:Int) (t:Tok):xJ K H s (.int i t) (.int i)
 |str (x:Str) (t:Tok):xJ K H s (.str x t) (.str x)
 |list {a:ak} {aG:List aq} {ws:List V} {es:List D}:s.heap.IsList a aG.toArray->Vals ws aG->aw K H ws es->xJ K H s (.ref a) (.lst es)
 |tuple {a:ak} {aG:List aq} {ws:List V} {es:List D}:s.heap.IsTuple a aG.toArray->Vals ws aG->aw K H ws es->xJ K H s (.ref a) (.tup es)
def FZ(I:Inv X ae Z H s){n:Nat}{x:V}{u:aq}{d:D}(r:aw X.K H [x] [d])(ru:RelV x u)(ok:cJ n d=true):xJ X.K H s u d:=by
 cases r with
 |lst q i _=>
  cases ru;obtain⟨aG,rv,pl,_⟩:=I.list (.inl q);exact .list pl.isList rv i
 |tup q i _=>
  cases ru;obtain⟨aG,rv,pl,_⟩:=I.tuple q;exact .tuple pl rv i
 |aL _ _ _ _ _=>cases n <;> cases ok
 |eY _ _=>cases n <;> cases ok
 |exc _ _=>cases n <;> cases ok
 |flat q _=>
  cases d with
  |bL=>cases q;cases ru;exact .none
  |bl b=>cases q;cases ru;exact .bool b
  |int i=>cases q;obtain⟨t,rfl⟩:=ru;exact .int i t
  |str z=>cases q;obtain⟨t,rfl⟩:=ru;exact .str z t
  |ty _=>cases n <;> cases ok
  |lst _=>cases q
  |tup _=>cases q
  |aL _=>cases q
  |eY _=>cases q
  |exc _ _=>cases q
def zG{n:Nat}{es:List D}(h:cJ n (.lst es)=true):∃m,n=m+1/\es.all (cJ m)=true:=by
 cases n with
 |zero=>cases h
 |succ n=>exact⟨n,rfl,h⟩
def zH{n:Nat}{es:List D}(h:cJ n (.tup es)=true):∃m,n=m+1/\es.all (cJ m)=true:=by
 cases n with
 |zero=>cases h
 |succ n=>exact⟨n,rfl,h⟩
def O3{es:List D}(h:∀d∈es,bh d d=true):fT es es=true:=by
 induction es with
 |nil=>unfold fT;rfl
 |cons d es ih=>unfold fT;rw[h d (by simp),ih λd m=>h d (by simp[m])];rfl
def BL:∀(n:Nat) {d:D},cJ n d=true->bh d d=true:=by
 intro n
 induction n with
 |zero=>intro d h;cases d <;> first|(cases h;done)|simp[bh]
 |succ n ih=>
  intro d h;cases d with
  |lst es=>simp only[bh];exact O3 λd m=>ih (jH.mp h d m)
  |tup es=>simp only[bh];exact O3 λd m=>ih (jH.mp h d m)
  |aL _=>cases h
  |eY _=>cases h
  |exc _ _=>cases h
  |ty _=>cases h
  |_=>simp[bh]
def UR{xs ys:List D}(hl:xs.length=ys.length)(h:∀j,j<xs.length->xs.getD j .bL=ys.getD j .bL):xs=ys:=by
 apply List.ext_getElem hl;intro j h1 h2;have:=h j h1;simpa[h1,h2] using this
def NA:V->D
 |.bl b=>.bl b
 |.int i=>.int i
 |.str x=>.str x
 |.ty n=>.ty n
 |_=>.bL
def O4{d:D}{v:V}(h:oV d=some v):d=NA v:=by cases d <;> cases h <;> rfl
def xT{d:D}{a:ak}(h:oV d=some (.ref a)):False:=by cases d <;> cases h
def BV(I:Inv X ae Z H s):∀(n m:Nat) {x:V} {d e:D},aw X.K H [x] [d]->aw X.K H [x] [e]->cJ n d=true->cJ m e=true->d=e:=by
 intro n
 induction n using Nat.strongRecOn with
 |ind n ih=>
 intro m x d e rd re od oe;have go:∀{ws:List V} {es l8:List D} {n' m':Nat},n'<n->aw X.K H ws es->aw X.K H ws l8->es.all (cJ n')=true->l8.all (cJ m')=true->es=l8:=by
  intro ws es l8 n' m' hn r1 r2 o1 o2;have l1:=r1.length;have l2:=r2.length;refine UR (by lia) λj hj=>?_
  have Mo:j<l8.length:=by lia
  obtain⟨v,g1,g2⟩:=r1.get (i:=j) (d:=es[j]) (by simp[hj])
  obtain⟨v',p1,p2⟩:=r2.get (i:=j) (d:=l8[j]) (by simp[Mo])
  rw[g1] at p1;cases p1;rw[show es.getD j .bL=es[j] by simp[hj],show l8.getD j .bL=l8[j] by simp[Mo]]
  exact ih n' hn m' g2 p2 (jH.mp o1 _ (zj hj)) (jH.mp o2 _ (zj Mo))
 cases rd with
 |flat q _=>
  cases re with
  |flat q' _=>
   rw[O4 q,O4 q']
  |lst _ _ _=>exact(xT q).elim
  |tup _ _ _=>exact(xT q).elim
  |aL _ _ _ _ _=>exact(xT q).elim
  |eY _ _=>exact(xT q).elim
  |exc _ _=>exact(xT q).elim
 |lst q i _=>
  obtain⟨n',rfl,tu⟩:=zG od;cases re with
  |flat q' _=>exact(xT q').elim
  |lst q' i' _=>
   obtain⟨m',rfl,tD⟩:=zG oe;cases I.oj (.inl q) (.inl q');rw[go (AW _) i i' tu tD]
  |tup q' i' _=>
   obtain⟨_,_,p1,_⟩:=I.list (.inl q);obtain⟨_,_,p2,_⟩:=I.tuple q';exact bZ rfl (SeqAt.ne_of_list_tuple p1.isList p2)
  |aL _ _ _ _ _=>cases m <;> cases oe
  |eY _ _=>cases m <;> cases oe
  |exc _ _=>cases m <;> cases oe
 |tup q i _=>
  obtain⟨n',rfl,tu⟩:=zH od;cases re with
  |flat q' _=>exact(xT q').elim
  |tup q' i' _=>
   obtain⟨m',rfl,tD⟩:=zH oe;cases I.mE q q';rw[go (AW _) i i' tu tD]
  |lst q' i' _=>
   obtain⟨_,_,p1,_⟩:=I.list (.inl q');obtain⟨_,_,p2,_⟩:=I.tuple q;exact bZ rfl (SeqAt.ne_of_list_tuple p1.isList p2)
  |aL _ _ _ _ _=>cases m <;> cases oe
  |eY _ _=>cases m <;> cases oe
  |exc _ _=>cases m <;> cases oe
 |aL _ _ _ _ _=>cases n <;> cases od
 |eY _ _=>cases n <;> cases od
 |exc _ _=>cases n <;> cases od
def zT(I:Inv X ae Z H s):∀(n m:Nat) {A:dZ} {x y:V} {u v:aq} {d e:D},aw X.K H [x] [d]->aw X.K H [y] [e]->cJ n d=true->cJ m e=true->RelV x u->RelV y v->A.units+n<cLine->
  SeqAt.EqAt A s u v (bh d e)/\SeqAt.RcAt A s u v (bh d e):=by
 intro n
 induction n using Nat.strongRecOn with
 |ind n ih=>
 intro m A x y u v d e rd re od oe ru rv hu;have dF:A.units<cLine:=by lia
 have s1:=FZ I rd ru od;have s2:=FZ I re rv oe;cases s1 with
 |none=>
  cases s2 with
  |none=>
   exact⟨SeqAt.EqAt.same _,SeqAt.RcAt.none_none⟩
  |bool a2=>
   simp only[bh];exact⟨SeqAt.EqAt.none_bool a2,SeqAt.RcAt.none_bool a2⟩
  |int a2 t2=>
   simp only[bh];exact⟨SeqAt.EqAt.none_int a2 t2,SeqAt.RcAt.none_int a2 t2⟩
  |str a2 t2=>
   simp only[bh];exact⟨SeqAt.EqAt.none_str a2 t2,SeqAt.RcAt.none_str a2 t2⟩
  |list l2 v2 r2=>
   simp only[bh];exact⟨SeqAt.EqAt.none_list l2 dF,SeqAt.RcAt.none_list l2 dF⟩
  |tuple l2 v2 r2=>
   simp only[bh];exact⟨SeqAt.EqAt.none_tuple l2 dF,SeqAt.RcAt.none_tuple l2 dF⟩
 |bool a1=>
  cases s2 with
  |none=>
   simp only[bh];exact⟨SeqAt.EqAt.bool_none a1,SeqAt.RcAt.bool_none a1⟩
  |bool a2=>
   simp only[bh];exact⟨SeqAt.EqAt.bool_bool a1 a2,SeqAt.RcAt.bool_bool a1 a2⟩
  |int a2 t2=>
   simp only[bh];exact⟨SeqAt.EqAt.bool_int a1 a2 t2,SeqAt.RcAt.bool_int a1 a2 t2⟩
  |str a2 t2=>
   simp only[bh];exact⟨SeqAt.EqAt.bool_str a1 a2 t2,SeqAt.RcAt.bool_str a1 a2 t2⟩
  |list l2 v2 r2=>
   simp only[bh];exact⟨SeqAt.EqAt.bool_list a1 l2 dF,SeqAt.RcAt.bool_list a1 l2 dF⟩
  |tuple l2 v2 r2=>
   simp only[bh];exact⟨SeqAt.EqAt.bool_tuple a1 l2 dF,SeqAt.RcAt.bool_tuple a1 l2 dF⟩
 |int a1 t1=>
  cases s2 with
  |none=>
   simp only[bh];exact⟨SeqAt.EqAt.int_none a1 t1,SeqAt.RcAt.int_none a1 t1⟩
  |bool a2=>
   simp only[bh];exact⟨SeqAt.EqAt.int_bool a1 t1 a2,SeqAt.RcAt.int_bool a1 t1 a2⟩
  |int a2 t2=>
   simp only[bh];exact⟨SeqAt.EqAt.int_int a1 t1 a2 t2,SeqAt.RcAt.int_int a1 t1 a2 t2⟩
  |str a2 t2=>
   simp only[bh];exact⟨SeqAt.EqAt.int_str a1 t1 a2 t2,SeqAt.RcAt.int_str a1 t1 a2 t2⟩
  |list l2 v2 r2=>
   simp only[bh];exact⟨SeqAt.EqAt.int_list a1 t1 l2 dF,SeqAt.RcAt.int_list a1 t1 l2 dF⟩
  |tuple l2 v2 r2=>
   simp only[bh];exact⟨SeqAt.EqAt.int_tuple a1 t1 l2 dF,SeqAt.RcAt.int_tuple a1 t1 l2 dF⟩
 |str a1 t1=>
  cases s2 with
  |none=>
   simp only[bh];exact⟨SeqAt.EqAt.str_none a1 t1,SeqAt.RcAt.str_none a1 t1⟩
  |bool a2=>
   simp only[bh];exact⟨SeqAt.EqAt.str_bool a1 t1 a2,SeqAt.RcAt.str_bool a1 t1 a2⟩
  |int a2 t2=>
   simp only[bh];exact⟨SeqAt.EqAt.str_int a1 t1 a2 t2,SeqAt.RcAt.str_int a1 t1 a2 t2⟩
  |str a2 t2=>
   simp only[bh];exact⟨SeqAt.EqAt.str_str a1 t1 a2 t2,SeqAt.RcAt.str_str a1 t1 a2 t2⟩
  |list l2 v2 r2=>
   simp only[bh];exact⟨SeqAt.EqAt.str_list a1 t1 l2 dF,SeqAt.RcAt.str_list a1 t1 l2 dF⟩
  |tuple l2 v2 r2=>
   simp only[bh];exact⟨SeqAt.EqAt.str_tuple a1 t1 l2 dF,SeqAt.RcAt.str_tuple a1 t1 l2 dF⟩
 |list l1 v1 r1=>
  cases s2 with
  |none=>
   simp only[bh];exact⟨SeqAt.EqAt.list_none l1 dF,SeqAt.RcAt.list_none l1 dF⟩
  |bool a2=>
   simp only[bh];exact⟨SeqAt.EqAt.list_bool a2 l1 dF,SeqAt.RcAt.list_bool a2 l1 dF⟩
  |int a2 t2=>
   simp only[bh];exact⟨SeqAt.EqAt.list_int a2 t2 l1 dF,SeqAt.RcAt.list_int a2 t2 l1 dF⟩
  |str a2 t2=>
   simp only[bh];exact⟨SeqAt.EqAt.list_str a2 t2 l1 dF,SeqAt.RcAt.list_str a2 t2 l1 dF⟩
  |list l2 v2 r2=>
   rename_i a aG ws es b kh xA l8
   obtain⟨n',rfl,tu⟩:=zG od;obtain⟨m',rfl,tD⟩:=zG oe;have la:=v1.length;have lb:=v2.length;have MM:=r1.length;have MN:=r2.length;have rc:SeqAt.RcAt A s (.ref a) (.ref b) (bh (.lst es) (.lst l8)):=by
    simp only[bh];by_cases hl:es.length=l8.length
    .rw[BK aG.toArray.size (by simp only[fI];lia) (by simp only[fI];lia)]
     refine SeqAt.RcAt.lists (A:=A) l1 l2 (by simp only[fI];lia) dF λj h1 h2=>?_
     obtain⟨x1,q1,q2,q3⟩:=wz r1 v1 h1;obtain⟨y1,p1,p2,p3⟩:=wz r2 v2 h2;exact(ih n' (AW _) m' q2 p2 (wa tu q3) (wa tD p3) q1 p1 (by show A.units+1+n'<cLine;lia)).1
    .rw[BJ hl];exact SeqAt.RcAt.lists_lengths (A:=A) l1 l2 (by simp only[fI,bne_iff_ne,ne_eq];lia) dF
   refine⟨?_,rc⟩;by_cases jU:a=b
   .subst jU;have LQ:x=y:=RelV.inj ru rv;subst LQ;have e2:=BV I _ _ rd re od oe;cases e2;rw[BL _ od];exact SeqAt.EqAt.same _
   .exact SeqAt.EqAt.of_refs jU rc
  |tuple l2 v2 r2=>
   simp only[bh];exact⟨SeqAt.EqAt.list_tuple l1 l2 dF,SeqAt.RcAt.list_tuple l1 l2 dF⟩
 |tuple l1 v1 r1=>
  cases s2 with
  |none=>
   simp only[bh];exact⟨SeqAt.EqAt.tuple_none l1 dF,SeqAt.RcAt.tuple_none l1 dF⟩
  |bool a2=>
   simp only[bh];exact⟨SeqAt.EqAt.tuple_bool a2 l1 dF,SeqAt.RcAt.tuple_bool a2 l1 dF⟩
  |int a2 t2=>
   simp only[bh];exact⟨SeqAt.EqAt.tuple_int a2 t2 l1 dF,SeqAt.RcAt.tuple_int a2 t2 l1 dF⟩
  |str a2 t2=>
   simp only[bh];exact⟨SeqAt.EqAt.tuple_str a2 t2 l1 dF,SeqAt.RcAt.tuple_str a2 t2 l1 dF⟩
  |list l2 v2 r2=>
   simp only[bh];exact⟨SeqAt.EqAt.tuple_list l1 l2 dF,SeqAt.RcAt.tuple_list l1 l2 dF⟩
  |tuple l2 v2 r2=>
   rename_i a aG ws es b kh xA l8
   obtain⟨n',rfl,tu⟩:=zH od;obtain⟨m',rfl,tD⟩:=zH oe;have la:=v1.length;have lb:=v2.length;have MM:=r1.length;have MN:=r2.length;have rc:SeqAt.RcAt A s (.ref a) (.ref b) (bh (.tup es) (.tup l8)):=by
    have z:=SeqAt.RcAt.tuples (A:=A) (e:=λj=>bh (es.getD j .bL) (l8.getD j .bL)) l1 l2 dF λj h1 h2=>by
     obtain⟨x1,q1,q2,q3⟩:=wz r1 v1 h1;obtain⟨y1,p1,p2,p3⟩:=wz r2 v2 h2;exact(ih n' (AW _) m' q2 p2 (wa tu q3) (wa tD p3) q1 p1 (by show A.units+1+n'<cLine;lia)).1
    simp only[bh];by_cases hl:es.length=l8.length
    .rw[BK aG.toArray.size (by simp only[fI];lia) (by simp only[fI];lia)]
     have e1:kh.toArray.size=aG.toArray.size:=by simp only[fI];lia
     rw[e1,Nat.min_self,oS,En] at z;exact z
    .rw[BJ hl];have e1:(aG.toArray.size == kh.toArray.size)=false:=by rw[qD];simp only[fI];lia
     rw[e1,AZ] at z;exact z
   refine⟨?_,rc⟩;by_cases jU:a=b
   .subst jU;have LQ:x=y:=RelV.inj ru rv;subst LQ;have e2:=BV I _ _ rd re od oe;cases e2;rw[BL _ od];exact SeqAt.EqAt.same _
   .exact SeqAt.EqAt.of_refs jU rc
end
mutual
theorem xX:∀k j:TK,bh k.d j.d=decide (k=j)
 |.inl a,.inl b=>by simp only[TK.d,bh];rw[t9];simp
 |.inr a,.inr b=>by simp only[TK.d,bh];rw[t9];simp
 |.tp l,.tp m=>by simp only[TK.d,bh];rw[oa l m,t9];simp
 |.inl _,.inr _=>by simp[TK.d,bh]
 |.inl _,.tp _=>by simp[TK.d,bh]
 |.inr _,.inl _=>by simp[TK.d,bh]
 |.inr _,.tp _=>by simp[TK.d,bh]
 |.tp _,.inl _=>by simp[TK.d,bh]
 |.tp _,.inr _=>by simp[TK.d,bh]
theorem oa:∀l m:List TK,fT (TK.dl l) (TK.dl m)=decide (l=m)
 |[],[]=>by simp[TK.dl,fT]
 |a::l,b::m=>by simp only[TK.dl,fT];rw[xX a b,oa l m,t9];simp
 |[],_::_=>by simp[TK.dl,fT]
 |_::_,[]=>by simp[TK.dl,fT]
end
theorem RO:∀l:List TK,TK.dl l=l.map TK.d
 |[]=>by simp[TK.dl]
 |a::l=>by simp[TK.dl,RO l]
theorem uo:∀(n:Nat) {k:TK},k.ok n=true->cJ n k.d=true
 |n,.inl i,_=>by cases n <;> simp[TK.d,cJ]
 |n,.inr i,_=>by cases n <;> simp[TK.d,cJ]
 |0,.tp l,h=>by simp[TK.ok] at h
 |n+1,.tp l,h=>by
  simp only[TK.d,cJ,RO,Im];refine jH.mpr λa m=>?_
  exact uo n (jH.mp (by simpa only[TK.ok] using h) a m)
def VR{α:Type}{M:Model}{A:dZ}{E:aq->az->Prop}{s:az}{c:Prop}[Decidable c]{a b:Sem α}{Q:α->az->Prop}(h1:wpAny M A a Q E s)(h2:wpAny M A b Q E s):wpAny M A (if c then a else b) Q E s:=by
 split
 .exact h1
 .exact h2
theorem Oi(w:eK):∀l m:List TK,TK.fQ w (l++m)=TK.fQ w l++TK.fQ w m
 |[],m=>by simp[TK.fQ]
 |a::l,m=>by simp[TK.fQ,Oi w l m]
theorem Jf{α β:Type}{R:α->β->Prop}:∀{l:List α} {m:List β} (i:Nat) {b:β},Paired R l m->m[i]?=some b->∃a,l[i]?=some a/\R a b
 |_,_,_,_,.nil,e=>by simp at e
 |_,_,0,_,.cons r _,e=>by simp at e;subst e;exact⟨_,rfl,r⟩
 |_,_,i+1,_,.cons _ t,e=>by
  obtain⟨a,h1,h2⟩:=Jf i t (by simpa using e)
  exact⟨a,by simpa using h1,h2⟩
theorem zu{α β:Type}{R:α->β->Prop}:∀{l:List α} {m:List β} (i:Nat) {a:α},Paired R l m->l[i]?=some a->∃b,m[i]?=some b/\R a b
 |_,_,_,_,.nil,e=>by simp at e
 |_,_,0,_,.cons r _,e=>by simp at e;subst e;exact⟨_,rfl,r⟩
 |_,_,i+1,_,.cons _ t,e=>by
  obtain⟨a,h1,h2⟩:=zu i t (by simpa using e)
  exact⟨a,by simpa using h1,h2⟩
section
variable{X:Cx}{ae:List (ak×Obj)}{Z:St}{H:Hp}
def QC{A:dZ}{E:aq->az->Prop}{s:az}{y:V}{u:aq}{i:Int}{Q:Int->az->Prop}(r:aw X.K H [y] [TK.d (.inl i)])(ru:RelV y u)(h:∀t,Q (TK.hash X.w (.inl i)) { s with toks:=t}):wpAny (model X.prog X.w) A (pyHash u) Q E s:=by
 simp only[TK.d] at r;cases r with
 |flat q _=>cases q;obtain⟨t,rfl⟩:=ru;exact wpAny_pyHash_int (by simpa only[TK.hash] using h _)
def QD{A:dZ}{E:aq->az->Prop}{s:az}{y:V}{u:aq}{i:Str}{Q:Int->az->Prop}(r:aw X.K H [y] [TK.d (.inr i)])(ru:RelV y u)(h:∀t,Q (TK.hash X.w (.inr i)) { s with toks:=t}):wpAny (model X.prog X.w) A (pyHash u) Q E s:=by
 simp only[TK.d] at r;cases r with
 |flat q _=>cases q;obtain⟨t,rfl⟩:=ru;exact wpAny_pyHash_str (by simpa only[TK.hash] using h _)
def JE:∀(n:Nat) {A:dZ} {E:aq->az->Prop} {s:az} {y:V} {u:aq} {k:TK} {Q:Int->az->Prop},Inv X ae Z H s->aw X.K H [y] [k.d]->k.ok n=true->RelV y u->A.units+n<cLine->
  (∀t,Q (k.hash X.w) { s with toks:=t})->wpAny (model X.prog X.w) A (pyHash u) Q E s:=by
 intro n
 induction n with
 |zero=>
  intro A E s y u k Q I r ok ru hu h;cases k with
  |tp l=>simp[TK.ok] at ok
  |inl i=>exact QC r ru h
  |inr x=>exact QD r ru h
 |succ n ih=>
  intro A E s y u k Q I r ok ru hu h;cases k with
  |inl i=>exact QC r ru h
  |inr x=>exact QD r ru h
  |tp l=>
   simp only[TK.d] at r;cases r with
   |flat q _=>cases q
   |@tup a ws _ _ _ q i _=>
    cases ru;obtain⟨aG,rv,pl,_⟩:=I.tuple q;have hT:s.TypeIs (.ref a) "tuple":=pl.typeIs;obtain⟨o,g1,g2,nn,g3⟩:=pl;have ok:l.all (TK.ok n)=true:=by simpa only[TK.ok] using ok
    show wpAny _ _ (pyHashByItsType (.ref a)) Q E s;unfold pyHashByItsType;refine aI (wpAny_cRoomFor_or (.inr (by lia)) (aI (wpAny_specialOf hT F.slot_tuple_hash.lookup ?_)))
    dsimp only;rw[aY (by rw[beq_builtin_none];exact t8)]
    refine aI (wpAny_specialOf hT F.slot_tuple_hash.lookup (aI ?_));refine wpAny_callSpecialIfBoundUnlessNone?_slot hT F.slot_tuple_hash (wpAny_call_entry F.slot_tuple_hash hT F.entry_tuple_hash ?_ (F.args_tuple_hash_1 _));show wpAny _ _ (Builtin.Tuple.tupleItemsOf (.ref a) >>= λz=>_) _ _ s
    refine aI (wpAny_tupleItemsOf g1 g3 (aI ?_));rw[<-NR];refine wpAny_forIn_list _ (λrest (b:Array Int) s'=>∃done left wl t,l=done++left/\aw X.K H wl (TK.dl left)/\Vals wl rest/\b.toList=TK.fQ X.w done/\s'={ s with toks:=t}) _ ?_ ?_ _ _ ⟨[],l,ws,s.toks,rfl,i,rv,by simp[TK.fQ],rfl⟩
    .rintro x rest b s' ⟨done,left,wl,t,e,r',v',hb,rfl⟩;cases v' with
     |@cons w1 _ wl _ za v'=>
      cases left with
      |nil=>have:=r'.length;simp[TK.dl] at this
      |cons k1 left=>
       simp only[TK.dl] at r';have yW:k1.ok n=true:=jH.mp ok k1 (by rw[e];simp)
       have fin:∀t',∃wO xf Ui t'',l=wO++xf/\aw X.K H Ui (TK.dl xf)/\Vals Ui rest/\(b.push (k1.hash X.w)).toList=TK.fQ X.w wO/\({ s with toks:=t'}:az)={ s with toks:=t''}:=
        λt'=>⟨done++[k1],left,wl,t',by simp[e],r'.inv.2,v',by rw[Oi,<-hb];simp[TK.fQ],rfl⟩
       exact aI (ih (I.tok t) r'.inv.1 yW za (by show A.units+1+n<cLine;lia) λt'=>by
        first
         |exact bz (fin t')
         |exact aI (bz (bz (fin t'))))
    .rintro b s' ⟨done,left,wl,t,e,r',v',hb,rfl⟩;cases v';have hl:left=[]:=by
      cases left with
      |nil=>rfl
      |cons _ _=>have:=r'.length;simp[TK.dl] at this
     subst hl;rw[jq] at e;subst e;show wpAny _ _ (retInt (Builtin.Tuple.tupleHashOf b.toList)) _ _ _;rw[hb];refine wpAny_ret_mkInt ?_;have h':∀t,Q (reduceHash (Builtin.Tuple.tupleHashOf (TK.fQ X.w l))) { s with toks:=t}:=λt=>by simpa only[TK.hash] using h t
     unfold reduceHash at h';show wpAny _ _ (if(decide (-(2:Int)^63<=Builtin.Tuple.tupleHashOf (TK.fQ X.w l))&&decide (Builtin.Tuple.tupleHashOf (TK.fQ X.w l)<2^63))=true then _ else _) Q E _
     split
     .rename_i hc
      rw[aU hc] at h';exact bz (h' _)
     .rename_i hc
      rw[aY hc] at h';exact aI (wpAny_rule (bz (h' _)))
def EX:∀(n:Nat) {A:dZ} {E:aq->az->Prop} {s:az} {y:V} {u:aq} {k:TK} {Q:Bool->az->Prop},Inv X ae Z H s->aw X.K H [y] [k.d]->k.ok n=true->RelV y u->Q true s->
  wpAny (model X.prog X.w) A (eqIsQuiet n u) Q E s:=by
 intro n
 induction n with
 |zero=>
  intro A E s y u k Q I r ok ru h;cases k with
  |tp l=>simp[TK.ok] at ok
  |inl i=>simp only[TK.d] at r;cases r with|flat q _=>cases q;obtain⟨t,rfl⟩:=ru;rw[eqIsQuiet_byValue 0 rfl];exact bz h
  |inr i=>simp only[TK.d] at r;cases r with|flat q _=>cases q;obtain⟨t,rfl⟩:=ru;rw[eqIsQuiet_byValue 0 rfl];exact bz h
 |succ n ih=>
  intro A E s y u k Q I r ok ru h;cases k with
  |inl i=>simp only[TK.d] at r;cases r with|flat q _=>cases q;obtain⟨t,rfl⟩:=ru;rw[eqIsQuiet_byValue (n+1) rfl];exact bz h
  |inr i=>simp only[TK.d] at r;cases r with|flat q _=>cases q;obtain⟨t,rfl⟩:=ru;rw[eqIsQuiet_byValue (n+1) rfl];exact bz h
  |tp l=>
   simp only[TK.d] at r;cases r with
   |flat q _=>cases q
   |@tup a ws _ _ _ q i _=>
    cases ru;obtain⟨aG,rv,pl,_⟩:=I.tuple q;have hT:s.TypeIs (.ref a) "tuple":=pl.typeIs;obtain⟨o,g1,g2,nn,g3⟩:=pl;have ok:l.all (TK.ok n)=true:=by simpa only[TK.ok] using ok
    unfold eqIsQuiet;refine aI (wpAny_specialOf hT F.slot_tuple_eq.lookup (aI (wpAny_isInstance hT isSubtype_tuple_tuple ?_)));simp only[iE,lK,ck];refine aI (wpAny_seqItems g1 g3 (aI ?_));show wpAny _ _ (forIn aG.toArray _ _) _ _ s;rw[<-NR];refine wpAny_forIn_list _ (λrest r s'=>r.1=none/\s'=s/\∃left wl,aw X.K H wl (TK.dl left)/\Vals wl rest/\∀x∈left,x.ok n=true) _ ?_ ?_ _ _ ⟨rfl,rfl,l,ws,i,rv,λx m=>jH.mp ok x m⟩
    .rintro v rest r s' ⟨hr,rfl,left,wl,r',v',hk⟩;cases v' with
     |@cons w1 _ wl _ za v'=>
      cases left with
      |nil=>have:=r'.length;simp[TK.dl] at this
      |cons k1 left=>
       simp only[TK.dl] at r';refine aI (ih I r'.inv.1 (hk k1 (by simp)) za ?_)
       simp only[iE,lK,ck];exact bz ⟨rfl,rfl,left,wl,r'.inv.2,v',λx m=>hk x (by simp[m])⟩
    .rintro⟨r1,r2⟩ s' ⟨hr,rfl,_⟩;cases(show r1=none from hr);exact bz h
structure Bd (X:Cx) (A:dZ) (E:aq->az->Prop) (s:az) (xs:Array DictEntry) (es:List (TK×V×V)) (k:TK) (u:aq):Prop where
 ent:∀(j:Nat) (x:DictEntry),xs[j]?=some x->∃e,es[j]?=some e/\kN X.w e x/\(∀(R:Bool->az->Prop),R (decide (e.1=k)) s->wpAny (model X.prog X.w) A (eqBool x.key u) R E s)/\
  ∀(R:Bool->az->Prop),R true s->wpAny (model X.prog X.w) A (eqIsQuiet 8 x.key) R E s
 ents:∀(j:Nat) (e:TK×V×V),es[j]?=some e->∃x:DictEntry,xs[j]?=some x/\kN X.w e x
 uniq:∀(i j:Nat) (e f:TK×V×V),es[i]?=some e->es[j]?=some f->e.1=k->f.1=k->i=j
def e5m{A:dZ}{E:aq->az->Prop}{s:az}{xs:Array DictEntry}{es:List (TK×V×V)}{k:TK}{y:V}{u:aq}(I:Inv X ae Z H s)(g3:Paired (kN X.w) es xs.toList)(g4:(es.map (·.1)).Nodup)
  (rk:aw X.K H (es.map (·.2.1)) (es.map (·.1.d))) (ry:aw X.K H [y] [k.d]) (ok:k.ok 8=true) (ru:RelV y u) (hu:A.units+8<cLine):Bd X A E s xs es k u where
 ent:=λj x hx=>by
  obtain⟨e,e1,e2⟩:=Jf j g3 (by rw[mF];exact hx)
  obtain⟨v,v1,v2⟩:=rk.get (i:=j) (d:=e.1.d) (by rw[jO,e1];rfl)
  rw[jO,e1] at v1;cases v1;refine⟨e,e1,e2,λR hR=>?_,λR hR=>EX 8 I v2 e2.2.2.2 e2.2.1 hR⟩
  refine(zT I 8 8 v2 ry (uo 8 e2.2.2.2) (uo 8 ok) e2.2.1 ru hu).1 X.prog X.w E R ?_;rw[xX];exact hR
 ents:=λj e he=>by
  obtain⟨x,x1,x2⟩:=zu j g3 he;exact⟨x,by rw[<-mF];exact x1,x2⟩
 uniq:=λi j e f he hf ek fk=>by
  have hi:(es.map (·.1))[i]?=some k:=by rw[jO,he,<-ek];rfl
  have hj:(es.map (·.1))[j]?=some k:=by rw[jO,hf,<-fk];rfl
  exact(List.getElem?_inj (e_.mp hi).1 g4).mp (hi.trans hj.symm)
section
variable{A:dZ}{E:aq->az->Prop}{s:az}{d:ak}{o:Obj}{xs:Array DictEntry}{ep:Nat}{es:List (TK×V×V)}{k:TK}{u:aq}{Q:ao Nat->az->Prop}
noncomputable abbrev oA(xs:Array DictEntry)(h:Int):List Nat:=placesWithHash xs.size (λi=>xs[i]?.map (·.hash)) h
def mU{h:Int}{i:Nat}:i∈oA xs h↔∃x,xs[i]?=some x/\x.hash=h:=by
 unfold oA placesWithHash;rw[kc,nv];constructor
 .rintro⟨h1,h2⟩;refine⟨xs[i],pW h1,?_⟩;dsimp only at h2;rw[pW h1] at h2;simpa using h2
 .rintro⟨x,h1,h2⟩;refine⟨(ua.mp h1).1,?_⟩;dsimp only;rw[h1,Eo,h2];simp
def VS{h:Int}:(oA xs h).Nodup:=List.Nodup.sublist List.filter_sublist List.nodup_range
def Bd.oA(D:Bd X A E s xs es k u){j:Nat}{e:TK×V×V}(he:es[j]?=some e)(ek:e.1=k):j∈oA xs (k.hash X.w):=by
 obtain⟨x,x1,x2⟩:=D.ents j e he;exact mU.mpr ⟨x,x1,by rw[x2.1,ek]⟩
def VT(D:Bd X A E s xs es k u)(g1:s.heap.get? d=some o)(g2:o.data=.dict xs ep)
  (q0:(∀(j:Nat) (e:TK×V×V),es[j]?=some e->e.1≠k)->Q none s) (q1:∀(j:Nat) (e:TK×V×V),es[j]?=some e->e.1=k->Q (some j) s) :
  wpAny (model X.prog X.w) A (dictWalkPlain d u (k.hash X.w) xs (oA xs (k.hash X.w))) Q E s:=by
 unfold dictWalkPlain;refine aI (wpAny_forIn_list _ (λrest b s'=>s'=s/\b=(none,())/\∃done,oA xs (k.hash X.w)=done++rest/\∀j e,j∈done->es[j]?=some e->e.1≠k) _ ?_ ?_ _ _ ⟨rfl,rfl,[],rfl,λ_ _ m=>by cases m⟩)
 .rintro i rest b s' ⟨rfl,rfl,done,hd,uI⟩;obtain⟨x,x1,x2⟩:=mU.mp (show i∈oA xs (k.hash X.w) by rw[hd];simp)
  obtain⟨e,e1,e2,eq,_⟩:=D.ent i x x1;simp only[x1];rw[aU (by rw[x2];simp)]
  refine aI (wpAny_dictEpoch g1 g2 (aI (eq _ (aI (wpAny_dictEpoch g1 g2 ?_)))));rw[aY (by simp)]
  by_cases ek:e.1=k
  .rw[ie ek];exact aI (wpAny_rule (bz (bz (q1 i e e1 ek))))
  .rw[i7 ek];refine aI (wpAny_rule (bz ⟨rfl,rfl,done++[i],by simp[hd],λj f m hf=>?_⟩))
   rcases eD.mp m with m|m
   .exact uI j f m hf
   .simp at m;subst m;rw[e1] at hf;cases hf;exact ek
 .rintro b s' ⟨rfl,rfl,done,hd,uI⟩;refine bz (q0 λj e he ek=>uI j e ?_ he ek)
  have:=D.oA he ek;rw[hd] at this;simpa using this
def idv(u:aq):aq:=u
def W6(D:Bd X A E s xs es k u)(g1:s.heap.get? d=some o)(g2:o.data=.dict xs ep)(hq:∀(R:Bool->az->Prop),R true s->wpAny (model X.prog X.w) A (eqIsQuiet 8 u) R E s)
  (hs:∀z t,u=.str z t->k=.inr z) (rJ:∀(j:Nat) (x:DictEntry) (e:TK×V×V) z t,xs[j]?=some x->es[j]?=some e->x.key=.str z t->e.1=.inr z) (hh:∀a (j:Nat) (x:DictEntry) (e:TK×V×V),u=.ref a->xs[j]?=some x->es[j]?=some e->x.key=u->e.1=k)
  (q0:(∀(j:Nat) (e:TK×V×V),es[j]?=some e->e.1≠k)->Q none s) (q1:∀(j:Nat) (e:TK×V×V),es[j]?=some e->e.1=k->Q (some j) s) :
  wpAny (model X.prog X.w) A (dictFind d u (k.hash X.w)) Q E s:=by
 have walk:=VT D g1 g2 q0 q1;have stored:∀v∈(oA xs (k.hash X.w)).filterMap (λi=>xs[i]?.map (·.key)),∀(R:Bool->az->Prop),R true s->wpAny (model X.prog X.w) A (eqIsQuiet 8 v) R E s:=by
  intro v hv R hR;obtain⟨i,_,hi⟩:=zh.mp hv;cases hx:xs[i]? with
  |none=>rw[hx] at hi;cases hi
  |some x=>
   rw[hx] at hi;obtain rfl:x.key=v:=by simpa using hi
   obtain⟨e,_,_,_,h⟩:=D.ent i x hx;exact h R hR
 have tell:∀(R:Bool->az->Prop),R false s->wpAny (model X.prog X.w) A (tableMayTell u ((oA xs (k.hash X.w)).filterMap λi=>xs[i]?.map (·.key))) R E s:=by
  intro R hR;unfold tableMayTell;split
  .exact bz hR
  .refine aI (hq _ ?_);simp only[iE,lK,ck];refine aI (wpAny_forIn_list _ (λrest r s'=>s'=s/\r=(none,())/\∀v∈rest,∀(R:Bool->az->Prop),R true s->wpAny (model X.prog X.w) A (eqIsQuiet 8 v) R E s) _ ?_ ?_ _ _ ⟨rfl,rfl,stored⟩)
   .rintro x rest r s' ⟨rfl,rfl,hr⟩;refine aI (hr x (by simp) _ ?_)
    simp only[iE,lK,ck];exact bz ⟨rfl,rfl,λv hv=>hr v (by simp[hv])⟩
   .rintro r s' ⟨rfl,rfl,_⟩;exact bz hR
 have tell2:∀(R:Bool->az->Prop),R false s->wpAny (model X.prog X.w) A (if((oA xs (k.hash X.w)).filterMap (λi=>xs[i]?.map (·.key)) == [u])=true then pure false else tableMayTell u ((oA xs (k.hash X.w)).filterMap λi=>xs[i]?.map (·.key))) R E s:=by
  intro R hR;split
  .exact bz hR
  .exact tell R hR
 have fin:∀(i:Nat) (x:DictEntry) (e:TK×V×V),xs[i]?=some x->es[i]?=some e->kN X.w e x->(x.hash == k.hash X.w)=false->e.1≠k:=λi x e _ _ he hf ek=>by
  rw[he.1,ek] at hf;simp at hf
 unfold dictFind
 (try with_reducible refine nI ?_);refine aI (wpAny_dictEntries g1 g2 ?_)
 dsimp only;by_cases sL:((u::(oA xs (k.hash X.w)).filterMap λi=>xs[i]?.map (·.key)).all carriedByValue)=true
 .rw[aU sL];split;next z t=>
   split;next MB=>
    unfold foundByValue;cases hf:xs.findIdx? (λe=>e.key.isStr z) with
    |none=>
     refine bz (q0 λj e he ek=>?_)
     obtain⟨x,x1,x2⟩:=D.ents j e he;have n1:=Array.findIdx?_eq_none_iff.mp hf x (Array.mem_of_getElem? x1);have e2:=x2.2.1;have n2:isExactStrKey x.key=true:=by
      have h:=Array.all_eq_true.mp MB j (ua.mp x1).1;rw[(ua.mp x1).2] at h;exact h
     cases hk:x.key with
     |str z2 t2=>
      have e3:=rJ j x e z2 t2 x1 he hk;rw[ek,hs z t rfl] at e3;cases e3;rw[hk] at n1;simp[Value.isStr] at n1
     |_=>rw[hk] at n2;cases n2
    |some i=>
     obtain⟨gZ,hi,_⟩:=Array.findIdx?_eq_some_iff_getElem.mp hf;obtain⟨e,e1,e2,eq,_⟩:=D.ent i xs[i] (pW gZ);have ek:e.1=k:=by
      cases hk:xs[i].key with
      |str z2 t2=>
       rw[hk] at hi;have:z2=z:=by simpa[Value.isStr] using hi
       subst this;rw[rJ i _ e z2 t2 (pW gZ) e1 hk,hs z2 t rfl]
      |_=>rw[hk] at hi;simp[Value.isStr] at hi
     simp only[pW gZ];refine aI (wpAny_dictEpoch g1 g2 (aI (eq _ (aI (wpAny_dictEpoch g1 g2 ?_)))));rw[aY (by simp),ie ek]
     exact aI (wpAny_rule (bz (q1 i e e1 ek)))
   next=>exact walk
  next=>exact walk
 .rw[aY sL];have DE:∀z t,u=.str z t->¬(xs.all λe=>isExactStrKey e.key)=true:=by
   intro z t hu hx;refine sL (jH.mpr λv hv=>?_)
   rcases eO.mp hv with rfl|hv
   .rw[hu];rfl
   .obtain⟨i,_,hi⟩:=zh.mp hv;cases uK:xs[i]? with
    |none=>rw[uK] at hi;cases hi
    |some x=>
     rw[uK] at hi;obtain rfl:x.key=v:=by simpa using hi
     have h:=Array.all_eq_true.mp hx i (ua.mp uK).1;rw[(ua.mp uK).2] at h;cases hk:x.key with
     |str _ _=>rfl
     |_=>rw[hk] at h;cases h
  have xi:∀a,u=.ref a->¬(xs.any λe=>e.key == u&&e.hash != k.hash X.w)=true:=by
   intro a hu hx;rw[Array.any_eq_true] at hx;obtain⟨i,hi,hc⟩:=hx;rw[mG,beq_iff_eq,bne_iff_ne] at hc;obtain⟨e,e1,e2,_⟩:=D.ent i xs[i] (pW hi);have:=hh a i _ e hu (pW hi) e1 hc.1;exact hc.2 (by rw[e2.1,this])
  have Mm:u=idv u:=rfl;refine(λ(key:?P)=>?main) ?k
  case main=>
   rw(occs:=.pos [1]) [Mm];split
   .rename_i z t hz
    rw[aY (DE z t hz)];rw(occs:=.pos [1]) [Mm];split
    .rename_i a ha
     rw[aY (xi a ha)];exact key
    .exact key
   .rw(occs:=.pos [1]) [Mm];split
    .rename_i a ha
     rw[aY (xi a ha)];exact key
    .exact key
  refine(λ(Dt:?P2)=>?Dw) ?k2
  case Dw=>
   refine VR ?_ ?_
   .refine aI (bz ?_);exact Dt
   .refine aI (tell _ ?_);exact Dt
  all_goals (
   show wpAny _ _ (if(false&&_)=true then _ else _) _ _ _
   rw[aY (by rw[Ei];exact t8)]
   refine aI (wpAny_forIn_list _ (λrest b s'=>s'=s/\∃hit done,b=(none,hit)/\oA xs (k.hash X.w)=done++rest/\((hit=none/\∀(j:Nat) (e:TK×V×V),j∈done->es[j]?=some e->e.1≠k)\/∃(j:Nat) (e:TK×V×V),hit=some j/\j∈done/\es[j]?=some e/\e.1=k)) _ ?_ ?_ _ _
    ⟨rfl,none,[],rfl,rfl,.inl ⟨rfl,λ_ _ m=>by cases m⟩⟩)
   .rintro i rest b s' ⟨rfl,hit,done,rfl,hd,hH⟩;obtain⟨x,x1,x2⟩:=mU.mp (show i∈oA xs (k.hash X.w) by rw[hd];simp)
    obtain⟨e,e1,e2,eq,_⟩:=D.ent i x x1;have hni:i∉done:=λm=>by
     have:=VS (xs:=xs) (h:=k.hash X.w);rw[hd] at this;exact(jk.mp this).2.2 i m i (by simp) rfl
    simp only[x1];rw[aU (by rw[x2];simp)]
    refine aI (wpAny_dictEpoch g1 g2 (aI (eq _ (aI (wpAny_dictEpoch g1 g2 ?_)))));rw[aY (by simp)]
    by_cases ek:e.1=k
    .rw[ie ek];rcases hH with⟨rfl,uI⟩|⟨j,f,rfl,jd,jf,fk⟩
     .first|rw[aU rfl]|skip
      simp only[Option.isSome_none,lK,ck];first|refine aI (bz ?_)|skip
      refine aI (wpAny_rule ?_);split
      .exact bz (bz (q1 i e e1 ek))
      .exact bz ⟨rfl,some i,done++[i],rfl,by simp[hd],.inr ⟨i,e,rfl,by simp,e1,ek⟩⟩
     .exact bZ (D.uniq i j e f e1 jf ek fk) λz=>hni (by rw[z];exact jd)
    .rw[i7 ek];have nx:(hit=none/\∀(j:Nat) (e:TK×V×V),j∈done++[i]->es[j]?=some e->e.1≠k)\/∃(j:Nat) (e:TK×V×V),hit=some j/\j∈done++[i]/\es[j]?=some e/\e.1=k:=by
      rcases hH with⟨h0,uI⟩|⟨j,f,h0,jd,jf,fk⟩
      .refine .inl ⟨h0,λj f m hf=>?_⟩
       rcases eD.mp m with m|m
       .exact uI j f m hf
       .simp at m;subst m;rw[e1] at hf;cases hf;exact ek
      .exact .inr ⟨j,f,h0,by simp[jd],jf,fk⟩
     simp only[lK,ck];refine aI (wpAny_rule ?_);first|rw[aY (by simp)]|skip
     first
      |exact bz ⟨rfl,hit,done++[i],rfl,by simp[hd],nx⟩
      |exact aI (bz (bz ⟨rfl,hit,done++[i],rfl,by simp[hd],nx⟩))
   .rintro b s' ⟨rfl,hit,done,rfl,hd,hH⟩;rcases hH with⟨rfl,uI⟩|⟨j,f,rfl,jd,jf,fk⟩
    .refine bz (q0 λj e he ek=>uI j e ?_ he ek)
     have:=D.oA he ek;rw[hd] at this;simpa using this
    .exact bz (q1 j f jf fk))
end
end
def jG(es:List (TK×V×V))(k:TK):ao V:=(es.find? λe=>decide (e.1=k)).map (·.2.2)
noncomputable def gA:List (TK×V×V)->TK->V->V->List (TK×V×V)
 |[],k,y,v=>[(k,y,v)]
 |e::es,k,y,v=>if e.1=k then(e.1,e.2.1,v)::es else e::gA es k y v
def tN(es:List (TK×V×V))(k:TK)(ep:Nat):Nat:=if(es.any λe=>decide (e.1=k))=true then ep else ep+1
def jt(K:FG)(H:Hp)(a:ak)(y:V)(r:ao V):Prop:=∃es ep k,H a=some (.dG es ep)/\aw K H (es.map (·.2.1)) (es.map (·.1.d))/\aw K H [y] [k.d]/\k.ok 8=true/\r=jG es k
def uX(K:FG)(H:Hp)(a:ak)(y v:V)(H':Hp):Prop:=∃es ep k,H a=some (.dG es ep)/\aw K H (es.map (·.2.1)) (es.map (·.1.d))/\aw K H [y] [k.d]/\k.ok 8=true/\es.length<sizeLine/\H'=upd H a (.dG (gA es k y v) (tN es k ep))
def YK{k j:TK}(e:k.d=j.d)(h:k.ok 8=true):k=j:=by
 have h1:=xX k j;rw[<-e,BL 8 (uo 8 h)] at h1;exact uQ h1.symm
section
variable{X:Cx}{ae:List (ak×Obj)}{Z:St}{H:Hp}
def QE{y:V}{z:Str}{t:Tok}{k:TK}(r:aw X.K H [y] [k.d])(ru:RelV y (.str z t)):k=.inr z:=by
 cases k with
 |inl i=>simp only[TK.d] at r;cases r with|flat q _=>cases q;obtain⟨t,e⟩:=ru;cases e
 |inr i=>simp only[TK.d] at r;cases r with|flat q _=>cases q;obtain⟨t,e⟩:=ru;cases e;rfl
 |tp l=>simp only[TK.d] at r;cases r with|flat q _=>cases q|tup q _ _=>cases ru
def QF{y:V}{a:ak}(ru:RelV y (.ref a)):y=.ref a:=by
 cases y with
 |ref b=>cases ru;rfl
 |bL=>cases ru
 |bl _=>cases ru
 |ty _=>cases ru
 |_=>obtain⟨t,e⟩:=ru;cases e
section
variable{A:dZ}{E:aq->az->Prop}{s:az}{d:ak}{es:List (TK×V×V)}{k:TK}{y v:V}{u r:aq}
def RP{o:Obj}{xs:Array DictEntry}{ep:Nat}{Q:ao Nat->az->Prop}(I:Inv X ae Z H s)(g1:s.heap.get? d=some o)(g2:o.data=.dict xs ep)(g3:Paired (kN X.w) es xs.toList)(g4:(es.map (·.1)).Nodup)
  (rk:aw X.K H (es.map (·.2.1)) (es.map (·.1.d))) (ry:aw X.K H [y] [k.d]) (ok:k.ok 8=true) (ru:RelV y u) (hu:A.units+8<cLine)
  (q0:(∀(j:Nat) (e:TK×V×V),es[j]?=some e->e.1≠k)->Q none s) (q1:∀(j:Nat) (e:TK×V×V),es[j]?=some e->e.1=k->Q (some j) s):wpAny (model X.prog X.w) A (dictFind d u (k.hash X.w)) Q E s:=by
 have at':∀(j:Nat) (x:DictEntry) (e:TK×V×V),xs[j]?=some x->es[j]?=some e->kN X.w e x/\aw X.K H [e.2.1] [e.1.d]:=by
  intro j x e hx he;obtain⟨e',e1,e2⟩:=Jf j g3 (by rw[mF];exact hx)
  rw[he] at e1;cases e1;obtain⟨v,v1,v2⟩:=rk.get (i:=j) (d:=e.1.d) (by rw[jO,he];rfl)
  rw[jO,he] at v1;cases v1;exact⟨e2,v2⟩
 refine W6 (e5m I g3 g4 rk ry ok ru hu) g1 g2 (λR hR=>EX 8 I ry ok ru hR) (λz t e=>QE ry (by rw[<-e];exact ru)) (λj x e z t hx he hk=>?_) (λa j x e sQ hx he hk=>?_) q0 q1
 .obtain⟨g,r'⟩:=at' j x e hx he;exact QE r' (by rw[<-hk];exact g.2.1)
 .obtain⟨g,r'⟩:=at' j x e hx he;have h1:=g.2.1;rw[hk,sQ] at h1;rw[sQ] at ru;rw[QF h1] at r';rw[QF ru] at ry;exact YK (BV I 8 8 r' ry (uo 8 g.2.2.2) (uo 8 ok)) g.2.2.2
def VU(h:∀(j:Nat) (e:TK×V×V),es[j]?=some e->e.1≠k):jG es k=none:=by
 unfold jG;rw[List.find?_eq_none.mpr λe m z=>?_,Option.map_none]
 obtain⟨j,hj⟩:=List.mem_iff_getElem?.mp m;exact h j e hj (uQ z)
def VW(hn:(es.map (·.1)).Nodup){j:Nat}{e:TK×V×V}(he:es[j]?=some e)(ek:e.1=k):jG es k=some e.2.2:=by
 induction es generalizing j with
 |nil=>simp at he
 |cons x es ih=>
  rw[dD,ib] at hn;unfold jG;rw[ub];cases j with
  |zero=>
   simp only[List.getElem?_cons_zero,Option.some.injEq] at he;subst he;rw[ie ek];rfl
  |succ j=>
   simp only[Io] at he;have ne:¬x.1=k:=λz=>hn.1 (by rw[z,<-ek];exact iQ.mpr ⟨e,kL he,rfl⟩)
   rw[i7 ne];exact ih hn.2 he
def O5{o:ao V}{Q:ao aq->az->Prop}(hu:A.units+8<cLine)(I:Inv X ae Z H s)(g:jt X.K H d y o)(ru:RelV y u)(h:∀w t,nM o w->Q w { s with toks:=t}):
  wpAny (model X.prog X.w) A (dictGet d u) Q E s:=by
 obtain⟨es,ep,k,hd,rk,ry,ok,rfl⟩:=g;obtain⟨_,_,ob,xs,g1,_,g2,g3,g4⟩:=(show cG X.prog X.w H s.heap d (.dG es ep) from I.cX d _ hd);unfold dictGet
 (try with_reducible refine nI ?_);refine aI (JE 8 I ry ok ru hu λt=>aI (RP (I.tok t) g1 g2 g3 g4 rk ry ok ru hu (λq0=>?_) (λj e he ek=>?_)))
 .exact bz (h none t (by rw[VU q0];exact ig))
 .obtain⟨x,x1,x2⟩:=zu j g3 he;refine aI (wpAny_dictEntries (s:={ s with toks:=t}) g1 g2 (bz ?_));rw[<-mF,x1];exact h (some x.val) t (by rw[VW g4 he ek];exact x2.2.2.1)
def jt.ty{o:ao V}(I:Inv X ae Z H s)(g:jt X.K H d y o):s.TypeIs (.ref d) "dict"/\(d == sysModules)=false:=by
 obtain⟨es,ep,k,hd,_⟩:=g;obtain⟨_,z,ob,xs,g1,g5,_⟩:=(show cG X.prog X.w H s.heap d (.dG es ep) from I.cX d _ hd);exact⟨⟨ob,g1,g5.1⟩,z⟩
def O6{Q:aq->az->Prop}(hu:A.units+9<cLine)(I:Inv X ae Z H s)(g:jt X.K H d y (some v))(ru:RelV y u)(h:∀w' s',Inv X ae Z H s'->RelV v w'->Q w' s'):wpAny (model X.prog X.w) A (getItem (.ref d) u) Q E s:=by
 have hT:=(g.ty I).1;unfold getItem
 (try with_reducible refine nI ?_);refine aI (wpAny_sequenceKey hT (by decide) (aI (wpAny_callSpecial?_slot (name:=Str.ofString "__getitem__") hT slot_dict_getitem (wpAny_call_entry slot_dict_getitem hT entry_dict_getitem ?_ (args_dict_getitem _ _)))))
 show wpAny _ _ (dictGet d u >>= _) _ _ s;refine aI (O5 (by show A.units+1+8<cLine;lia) I g ru λw t vK=>?_)
 obtain⟨w',rfl,r'⟩:=nM.some_of vK;exact bz ⟨w',rfl,bz (h w' _ (I.tok t) r')⟩
def OB{o:ao V}{Q:Bool->az->Prop}(hu:A.units+9<cLine)(I:Inv X ae Z H s)(g:jt X.K H d y o)(ru:RelV y u)(h:∀s',Inv X ae Z H s'->Q o.isSome s'):wpAny (model X.prog X.w) A (contains (.ref d) u) Q E s:=by
 obtain⟨hT,hd⟩:=g.ty I;unfold contains
 (try with_reducible refine nI ?_);refine aI (wpAny_specialOf hT slot_dict_contains.lookup ?_)
 dsimp only;rw[aY (by rw[beq_builtin_none];exact t8)]
 refine aI (wpAny_callSpecialUnlessNone?_slot (name:=Str.ofString "__contains__") hT slot_dict_contains (wpAny_call_entry slot_dict_contains hT entry_dict_contains ?_ (args_dict_contains _ _)));show wpAny _ _ (dictGet d u >>= _) _ _ s;refine aI (O5 (by show A.units+1+8<cLine;lia) I g ru λw t vK=>?_)
 have e:=vK.qT;cases w with
 |some w=>
  show wpAny _ _ (ret (.bool true)) _ _ _;refine bz ⟨_,rfl,wpAny_truthy_bool ?_⟩;have:=h _ (I.tok t);rw[e] at this;exact this
 |none=>
  show wpAny _ _ (Builtin.Dict.pendingKey? d u >>= _) _ _ _;refine aI (wpAny_pendingKey_other hd (bz ⟨_,rfl,wpAny_truthy_bool ?_⟩));have:=h _ (I.tok t);rw[e] at this;exact this
def NG{o:ao V}{Q:aq->az->Prop}(hu:A.units+9<cLine)(I:Inv X ae Z H s)(g:jt X.K H d y o)(ru:RelV y u)(h:∀s',Inv X ae Z H s'->Q (.bool o.isSome) s'):wpAny (model X.prog X.w) A (compareOp .In u (.ref d)) Q E s:=
 aI (OB hu I g ru λs' I'=>bz (h s' I'))
def YL{o:ao V}{Q:aq->az->Prop}(hu:A.units+9<cLine)(I:Inv X ae Z H s)(g:jt X.K H d y o)(ru:RelV y u)(h:∀s',Inv X ae Z H s'->Q (.bool (!o.isSome)) s'):wpAny (model X.prog X.w) A (compareOp .NotIn u (.ref d)) Q E s:=
 aI (OB hu I g ru λs' I'=>bz (h s' I'))
theorem Oq(k:TK)(y v:V):∀es:List (TK×V×V),(gA es k y v).length<=es.length+1
 |[]=>by simp[gA]
 |e::es=>by
  unfold gA;have:=Oq k y v es;split <;> simp <;> lia
theorem PX:∀{es:List (TK×V×V)},(∀(j:Nat) (e:TK×V×V),es[j]?=some e->e.1≠k)->gA es k y v=es++[(k,y,v)]
 |[],_=>rfl
 |e::es,h=>by
  unfold gA;rw[aY (h 0 e rfl),PX λj x hx=>h (j+1) x (by simpa using hx)]
  rfl
def YM{w:eK}{xs:List DictEntry}(g3:Paired (kN w) es xs)(ry:RelV y u)(rv:RelV v r)(ok:k.ok 8=true):Paired (kN w) (es++[(k,y,v)]) (xs++[⟨k.hash w,u,r⟩]):=by
 induction g3 with
 |nil=>exact .cons ⟨rfl,ry,rv,ok⟩ .nil
 |cons a _ ih=>exact .cons a ih
theorem QG{w:eK}:∀{es:List (TK×V×V)} {xs:List DictEntry} {j:Nat} {e:TK×V×V},Paired (kN w) es xs->(es.map (·.1)).Nodup->es[j]?=some e->e.1=k->RelV v r->
  Paired (kN w) (gA es k y v) (xs.modify j λx=>{ x with val:=r})/\(gA es k y v).map (·.1)=es.map (·.1)
 |_,_,_,_,.nil,_,he,_,_=>by simp at he
 |_::es,_::xs,0,e,.cons a t,hn,he,ek,rv=>by
  simp only[List.getElem?_cons_zero,Option.some.injEq] at he;subst he;unfold gA;rw[aU ek];exact⟨.cons ⟨a.1,a.2.1,rv,a.2.2.2⟩ t,rfl⟩
 |x::es,_::xs,j+1,e,.cons a t,hn,he,ek,rv=>by
  simp only[Io] at he;rw[dD,ib] at hn;have ne:¬x.1=k:=λz=>hn.1 (by rw[z,<-ek];exact iQ.mpr ⟨e,kL he,rfl⟩)
  unfold gA;rw[aY ne];have ih:=QG t hn.2 he ek rv;exact⟨.cons a ih.1,by rw[dD,dD,ih.2]⟩
def O7{H':Hp}{Q:Unit->az->Prop}(hu:A.units+8<cLine)(I:Inv X ae Z H s)(g:uX X.K H d y v H')(ru:RelV y u)(rv:RelV v r)(h:∀s',Inv X ae Z H' s'->Q () s'):
  wpAny (model X.prog X.w) A (dictSet d u r) Q E s:=by
 obtain⟨es,ep,k,hd,rk,ry,ok,hl,rfl⟩:=g;obtain⟨_,z,ob,xs,g1,g5,g2,g3,g4⟩:=(show cG X.prog X.w H s.heap d (.dG es ep) from I.cX d _ hd);have hz:xs.size<=sizeLine:=by have:=Paired.length g3;simp at this;lia
 have Mq:(gA es k y v).length<=sizeLine:=by have:=Oq k y v es;lia
 unfold dictSet
 (try with_reducible refine nI ?_);refine aI (JE 8 I ry ok ru hu λt=>?_)
 unfold dictSetHashed
 (try with_reducible refine nI ?_);refine aI (RP (I.tok t) g1 g2 g3 g4 rk ry ok ru hu (λq0=>?_) (λj e he ek=>?_))
 .have S5:gA es k y v=es++[(k,y,v)]:=PX q0;have LO:tN es k ep=ep+1:=aY (by
   rw[AX];rintro⟨e,m,q⟩;obtain⟨j,hj⟩:=List.mem_iff_getElem?.mp m;exact q0 j e hj (uQ q))
  rw[LO] at h;refine aI (wpAny_rule (wpAny_updateDictKeys (hz:=hz) (s:={ s with toks:=t}) g1 g2 (h _ ?_)));refine Qx (I.tok t) (by rw[hd];exact ig) (Heap.SameBut.update ..) ⟨_,vX _ g1 (Obj.isFreed_of_dict (Obj.data_mapDictKeys g2 _))⟩ ⟨Mq,z,_,_,vX _ g1 (Obj.isFreed_of_dict (Obj.data_mapDictKeys g2 _)),g5.mapDictKeys _,Obj.data_mapDictKeys g2 _,?_,?_⟩
  .rw[S5,Array.toList_push];exact YM g3 ru rv ok
  .rw[S5,iF,jk];refine⟨g4,by simp,λa m b m' e=>?_⟩
   simp at m';subst m';obtain⟨x,mx,rfl⟩:=iQ.mp m;obtain⟨j,hj⟩:=List.mem_iff_getElem?.mp mx;exact q0 j x hj e
 .have em:=QG (y:=y) g3 g4 he ek rv;have LO:tN es k ep=ep:=aU (AX.mpr ⟨e,kL he,ie ek⟩);rw[LO] at h;refine aI (wpAny_rule (aI (wpAny_updateDict (s:={ s with toks:=t}) g1 g2 (wpAny_point (h _ ?_)))));refine Qx (I.tok t) (by rw[hd];exact ig) (Heap.SameBut.update ..) ⟨_,vX _ g1 (Obj.isFreed_of_dict (Obj.data_mapDict g2 _))⟩ ⟨Mq,z,_,_,vX _ g1 (Obj.isFreed_of_dict (Obj.data_mapDict g2 _)),g5.mapDict _,Obj.data_mapDict g2 _,?_,?_⟩
  .obtain⟨l⟩:=xs;simpa using em.1
  .rw[em.2];exact g4
def VX{H':Hp}{Q:Unit->az->Prop}(hu:A.units+9<cLine)(I:Inv X ae Z H s)(g:uX X.K H d y v H')(ru:RelV y u)(rv:RelV v r)(h:∀s',Inv X ae Z H' s'->Q () s'):
  wpAny (model X.prog X.w) A (setItem (.ref d) u r) Q E s:=by
 have hT:s.TypeIs (.ref d) "dict":=by
  obtain⟨es,ep,k,hd,rk,ry,ok,_⟩:=g;exact(jt.ty I ⟨es,ep,k,hd,rk,ry,ok,rfl⟩).1
 unfold setItem
 (try with_reducible refine nI ?_);refine aI (wpAny_sequenceKey hT (by decide) (aI (wpAny_callSpecial?_slot (name:=Str.ofString "__setitem__") hT slot_dict_setitem (wpAny_call_entry slot_dict_setitem hT entry_dict_setitem ?_ (args_dict_setitem _ _ _)))))
 show wpAny _ _ (Builtin.Dict.notOrdered "__setitem__" ⟨[.ref d,u,r],[]⟩ >>= _) _ _ s;refine aI (wpAny_notOrdered_dict hT ?_);show wpAny _ _ (dictSet d u r >>= λz=>_) _ _ s
 exact aI (O7 (by show A.units+1+8<cLine;lia) I g ru rv λs' I'=>bz ⟨.none,rfl,bz (h s' I')⟩)
end
end
section
variable{X:Cx}{K:FG}
def DP(K:FG):R2:=λx y H Q=>∃d e,aw K H [x] [d]/\aw K H [y] [e]/\cJ 40 d=true/\cJ 40 e=true/\Q (.bl (bh d e)) H
def p_(K:FG)(hu:X.A.units+40<cLine)(hK:X.K=K:=by rfl):f_ X (compareOp .Eq) (DP K):=by
 subst hK;intro ae s Z H x y v u Q I rx ry h;obtain⟨d,e,r1,r2,o1,o2,q⟩:=h;exact(zT I 40 40 r1 r2 o1 o2 rx ry hu).2 X.prog X.w _ _ ⟨.bl _,H,I,rfl,q⟩
open Classical in
noncomputable def oZ (K:FG) (H:Hp) (dx:D) (u:aq):Bool:=decide (∃x d,RelV x u/\aw K H [x] [d]/\cJ 40 d=true/\bh d dx=true)
open Classical in
def RQ{ae:List (ak×Obj)}{s:az}{Z:St}{H:Hp}(I:Inv X ae Z H s){dx d:D}{x:V}{u:aq}(rx:RelV x u)(r:aw X.K H [x] [d])(ok:cJ 40 d=true):oZ X.K H dx u=bh d dx:=by
 unfold oZ;rw[t9,N6];constructor
 .rintro⟨x',d',rx',r',ok',e⟩;have:=RelV.inj rx rx';subst this;rw[BV I 40 40 r r' ok ok'];exact e
 .exact λe=>⟨x,d,rx,r,ok,e⟩
def F_{ae:List (ak×Obj)}{s:az}{Z:St}{H:Hp}(I:Inv X ae Z H s){dx:D}{ws:List V}{aG:List aq}{ds:List D}(t:Vals ws aG)(rp:aw X.K H ws ds)(ok:ds.all (cJ 40)=true):aG.any (oZ X.K H dx)=ds.any λd=>bh d dx:=by
 induction t generalizing ds with
 |nil=>
  cases ds with
  |nil=>rfl
  |cons _ _=>have:=rp.length;simp at this
 |cons r t ih=>
  cases ds with
  |nil=>have:=rp.length;simp at this
  |cons d ds=>
   rw[t_,mG] at ok;rw[List.any_cons,List.any_cons,RQ I r rp.inv.1 ok.1,ih rp.inv.2 ok.2]
def Ga{ae:List (ak×Obj)}{s:az}{Z:St}{H:Hp}(I:Inv X ae Z H s){dx:D}{y:V}{v:aq}{A:dZ}(rv:RelV y v)(ry:aw X.K H [y] [dx])(oy:cJ 40 dx=true)(hu:A.units+40<cLine):
  ∀{ws:List V} {aG:List aq} {ds:List D},Vals ws aG->aw X.K H ws ds->ds.all (cJ 40)=true->∀u∈aG,SeqAt.EqAt A s u v (oZ X.K H dx u):=by
 intro ws aG ds t
 induction t generalizing ds with
 |nil=>intro _ _ u m;cases m
 |cons r t ih=>
  intro rp ok u' m;cases ds with
  |nil=>have:=rp.length;simp at this
  |cons d ds=>
   rw[t_,mG] at ok;rcases eO.mp m with rfl|m
   .rw[RQ I r rp.inv.1 ok.1];exact(zT I 40 40 rp.inv.1 ry ok.1 oy r rv hu).1
   .exact ih rp.inv.2 ok.2 u' m
def oF:D->ao (List D)
 |.lst ds=>some ds
 |.tup ds=>some ds
 |_=>none
def y6(K:FG)(neg:Bool):R2:=λx y H Q=>
 (∃d e ds,aw K H [x] [d]/\aw K H [y] [e]/\oF e=some ds/\cJ 40 d=true/\ds.all (cJ 40)=true/\Q (.bl (if neg then !ds.any λz=>bh z d else ds.any λz=>bh z d)) H)\/
 (∃i j,x=.str i/\y=.str j/\Q (.bl (if neg then !(!(Builtin.Str.occurrences j i 0 j.length 1).isEmpty) else !(Builtin.Str.occurrences j i 0 j.length 1).isEmpty)) H)\/
 ∃a o,y=.ref a/\jt K H a x o/\Q (.bl (if neg then !o.isSome else o.isSome)) H
def zU(K:FG)(hu:X.A.units+41<cLine)(hK:X.K=K:=by rfl):f_ X (compareOp .In) (y6 K false):=by
 subst hK;intro ae s Z H x y v u Q I rx ry h;rcases h with⟨d,e,ds,r1,r2,es,o1,o2,q⟩|⟨i,j,rfl,rfl,q⟩|⟨a,o,rfl,g,q⟩
 .have sQ:X.A.in1.units+40<cLine:=by show X.A.units+1+40<cLine;lia
  cases r2 with
  |flat z _=>cases e <;> first|(cases z;done)|cases es
  |lst sq i _=>
   cases es;cases ry;obtain⟨aG,r,pl,hz⟩:=I.list (.inl sq);refine SeqAt.in_listAt (oZ X.K H d) pl.isList (λw hw=>Ga I rx r1 o1 sQ r i o2 w (by simpa using hw)) ⟨.bl _,H,I,rfl,?_⟩
   rw[show aG.toArray.any (oZ X.K H d)=aG.any (oZ X.K H d) by simp,F_ I r i o2]
   exact q
  |tup sq i _=>
   cases es;cases ry;obtain⟨aG,r,pl,hz⟩:=I.tuple sq;refine SeqAt.in_tupleAt (oZ X.K H d) pl (λw hw=>Ga I rx r1 o1 sQ r i o2 w (by simpa using hw)) ⟨.bl _,H,I,rfl,?_⟩
   rw[show aG.toArray.any (oZ X.K H d)=aG.any (oZ X.K H d) by simp,F_ I r i o2]
   exact q
  |aL _ _ _ _ _=>cases es
  |eY _ _=>cases es
  |exc _ _=>cases es
 .exact VD ae s Z H _ _ v u Q I rx ry ⟨i,j,rfl,rfl,q⟩
 .cases ry;exact NG (by lia) I g rx λs3 I3=>⟨.bl o.isSome,H,I3,rfl,q⟩
def rR(K:FG)(hu:X.A.units+41<cLine)(hK:X.K=K:=by rfl):f_ X (compareOp .NotIn) (y6 K true):=by
 subst hK;intro ae s Z H x y v u Q I rx ry h;rcases h with⟨d,e,ds,r1,r2,es,o1,o2,q⟩|⟨i,j,rfl,rfl,q⟩|⟨a,o,rfl,g,q⟩
 .have sQ:X.A.in1.units+40<cLine:=by show X.A.units+1+40<cLine;lia
  cases r2 with
  |flat z _=>cases e <;> first|(cases z;done)|cases es
  |lst sq i _=>
   cases es;cases ry;obtain⟨aG,r,pl,hz⟩:=I.list (.inl sq);refine SeqAt.notIn_listAt (oZ X.K H d) pl.isList (λw hw=>Ga I rx r1 o1 sQ r i o2 w (by simpa using hw)) ⟨.bl _,H,I,rfl,?_⟩
   rw[show aG.toArray.any (oZ X.K H d)=aG.any (oZ X.K H d) by simp,F_ I r i o2]
   exact q
  |tup sq i _=>
   cases es;cases ry;obtain⟨aG,r,pl,hz⟩:=I.tuple sq;refine SeqAt.notIn_tupleAt (oZ X.K H d) pl (λw hw=>Ga I rx r1 o1 sQ r i o2 w (by simpa using hw)) ⟨.bl _,H,I,rfl,?_⟩
   rw[show aG.toArray.any (oZ X.K H d)=aG.any (oZ X.K H d) by simp,F_ I r i o2]
   exact q
  |aL _ _ _ _ _=>cases es
  |eY _ _=>cases es
  |exc _ _=>cases es
 .exact UM ae s Z H _ _ v u Q I rx ry ⟨i,j,rfl,rfl,q⟩
 .cases ry;exact YL (by lia) I g rx λs3 I3=>⟨.bl (!o.isSome),H,I3,rfl,q⟩
def oEq:List O->ao O
 |[a,b]=>if cJ 40 a.d=true/\cJ 40 b.d=true then some (.Y (.bl (bh a.d b.d))) else none
 |_=>none
def qe:cT K (mV (DP K)) oEq:=by
 intro F H vs os o Q le fD e res;unfold oEq at e;split at e
 .split at e
  .cases e;obtain⟨x,y,B,C,rfl,h1,h2⟩:=fD.two
   rename_i hh
   exact⟨_,_,rfl,_,_,qL le h1,qL le h2,hh.1,hh.2,res.flat rfl⟩
  .cases e
 .cases e
mutual
def oJ:D->ao TK
 |.int i=>some (.inl i)
 |.str x=>some (.inr x)
 |.tup l=>(lu l).map .tp
 |_=>none
def lu:List D->ao (List TK)
 |[]=>some []
 |d::l=>(oJ d).bind λk=>(lu l).map λks=>k::ks
end
def cH:D->ao TK
 |.int i=>some (.inl i)
 |.str x=>some (.inr x)
 |.tup l=>(lu l).bind λks=>if TK.ok 8 (.tp ks)=true then some (.tp ks) else none
 |_=>none
mutual
theorem e9b:∀{d:D} {k:TK},oJ d=some k->k.d=d
 |.int i,k,e=>by simp only[oJ] at e;cases e;simp[TK.d]
 |.str i,k,e=>by simp only[oJ] at e;cases e;simp[TK.d]
 |.tup l,k,e=>by
  simp only[oJ] at e;obtain⟨ks,h1,rfl⟩:=jP.mp e;simp only[TK.d];rw[pR h1]
 |.bL,k,e=>by simp[oJ] at e
 |.bl _,k,e=>by simp[oJ] at e
 |.ty _,k,e=>by simp[oJ] at e
 |.lst _,k,e=>by simp[oJ] at e
 |.aL _,k,e=>by simp[oJ] at e
 |.eY _,k,e=>by simp[oJ] at e
 |.exc _ _,k,e=>by simp[oJ] at e
theorem pR:∀{l:List D} {ks:List TK},lu l=some ks->TK.dl ks=l
 |[],ks,e=>by simp only[lu] at e;cases e;simp[TK.dl]
 |d::l,ks,e=>by
  simp only[lu] at e;obtain⟨k,h1,e⟩:=eE.mp e;obtain⟨ks',h2,rfl⟩:=jP.mp e;simp only[TK.dl];rw[e9b h1,pR h2]
end
def nq{d:D}{k:TK}(e:cH d=some k):k.d=d/\k.ok 8=true:=by
 cases d with
 |int i=>cases e;exact⟨by simp[TK.d],rfl⟩
 |str i=>cases e;exact⟨by simp[TK.d],rfl⟩
 |tup l=>
  simp only[cH] at e;obtain⟨ks,h1,e⟩:=eE.mp e;split at e
  .rename_i h
   cases e;exact⟨by simp only[TK.d];rw[pR h1],h⟩
  .cases e
 |_=>cases e
def jw:O->ao (List (TK×D))
 |.Y (.aL kvs)=>some kvs
 |.aL kvs=>some (O.dk kvs)
 |_=>none
def yh{α β:Type}:∀{ws:List (TK×α)} {kvs:List (TK×β)},ws.map (·.1)=kvs.map (·.1)->ws.map (·.1.d)=kvs.map (·.1.d):=λ{ws kvs} h=>by
 have:=congrArg (List.map TK.d) h;rw[oQ,oQ] at this;exact this
def W7{F H:Hp}{x:V}{o:O}{B:List ak}{kvs:List (TK×D)}(le:aF F H)(h:ah K F H [some x] [some o] B)(e:jw o=some kvs):∃a ws ep,x=.ref a/\H a=some (.dG ws ep)/\ws.map (·.1)=kvs.map (·.1)/\aw K H (ws.map (·.2.1)) (ws.map (·.1.d))/\aw K H (ws.map (·.2.2)) (kvs.map (·.2)):=by
 have r:=qL le h;have ed:o.d=.aL kvs:=by
  cases o with
  |Y d=>cases d <;> cases e;rfl
  |aL _=>cases e;rfl
  |_=>cases e
 rw[ed] at r;cases r with
 |flat z _=>cases z
 |aL q k r i _=>exact⟨_,_,_,rfl,q,k,by rw[yh k];exact r,i⟩
def jZ(kvs:List (TK×D))(k:TK):ao D:=(kvs.find? λkv=>decide (kv.1=k)).map (·.2)
theorem Kd{F:Hp}{k:TK}:∀{ws:List (TK×V×V)} {kvs:List (TK×D)},ws.map (·.1)=kvs.map (·.1)->aw K F (ws.map (·.2.2)) (kvs.map (·.2))->(jG ws k=none/\jZ kvs k=none)\/∃v d,jG ws k=some v/\jZ kvs k=some d/\aw K F [v] [d]
 |[],[],_,_=>.inl ⟨rfl,rfl⟩
 |w::ws,p::kvs,h,r=>by
  rw[dD,dD] at h;injection h with h1 h2;unfold jG jZ;rw[ub,ub,h1];by_cases e:p.1=k
  .rw[ie e];exact .inr ⟨w.2.2,p.2,rfl,rfl,r.inv.1⟩
  .rw[i7 e];exact Kd h2 r.inv.2
 |[],_::_,h,_=>by simp at h
 |_::_,[],h,_=>by simp at h
def Vb{F:Hp}{k:TK}{ws:List (TK×V×V)}{kvs:List (TK×D)}(h:ws.map (·.1)=kvs.map (·.1))(r:aw K F (ws.map (·.2.2)) (kvs.map (·.2))):(jG ws k).isSome=(jZ kvs k).isSome:=by
 rcases Kd (k:=k) h r with⟨e1,e2⟩|⟨v,d,e1,e2,_⟩ <;> rw[e1,e2] <;> rfl
def cj(neg:Bool):List O->ao O
 |[a,b]=>match jw b with
  |some kvs=>(match a with
   |.Y d=>(cH d).bind λk=>some (.Y (.bl (if neg then !(jZ kvs k).isSome else(jZ kvs k).isSome)))
   |_=>none)
  |none=>(match a,b with
   |.Y (.str i),.Y (.str j)=>some (.Y (.bl (if neg then !(!(Builtin.Str.occurrences j i 0 j.length 1).isEmpty) else !(Builtin.Str.occurrences j i 0 j.length 1).isEmpty)))
   |a,b=>(oF b.d).bind λds=>if cJ 40 a.d=true/\ds.all (cJ 40)=true then some (.Y (.bl (if neg then !ds.any λz=>bh z a.d else ds.any λz=>bh z a.d))) else none)
 |_=>none
def nQ(neg:Bool):cT K (mV (y6 K neg)) (cj neg):=by
 intro F H vs os o Q le fD e res;unfold cj at e;split at e
 .rename_i a b
  obtain⟨x,y,B,C,rfl,h1,h2⟩:=fD.two;cases q:jw b with
  |some kvs=>
   rw[q] at e;dsimp only at e;cases a with
   |Y d=>
    dsimp only at e;cases q2:cH d with
    |none=>rw[q2] at e;cases e
    |some k=>
     rw[q2] at e;cases e;obtain⟨p,ws,ep,rfl,hp,hk,rk,hr⟩:=W7 le h2 q;refine⟨_,_,rfl,.inr (.inr ⟨p,jG ws k,rfl,⟨ws,ep,k,hp,rk,by rw[(nq q2).1];exact qL le h1,(nq q2).2,rfl⟩,?_⟩)⟩
     rw[Vb hk hr];exact res.flat rfl
   |_=>cases e
  |none=>
   rw[q] at e;dsimp only at e;split at e
   .cases e;cases ju h1 rfl;cases ju h2 rfl;exact⟨_,_,rfl,.inr (.inl ⟨_,_,rfl,rfl,res.flat rfl⟩)⟩
   .cases q3:oF b.d with
    |none=>rw[q3] at e;cases e
    |some ds=>
     rw[q3] at e;dsimp only[Option.bind] at e;split at e
     .rename_i hh
      cases e;exact⟨_,_,rfl,.inl ⟨_,_,ds,qL le h1,qL le h2,q3,hh.1,hh.2,res.flat rfl⟩⟩
     .cases e
 .cases e
def DQ(neg:Bool):R2:=λx y H Q=>(y=.bL/\Q (.bl (if neg then !decide (x=.bL) else decide (x=.bL))) H)\/∃a b,x=.bl a/\y=.bl b/\Q (.bl (if neg then a != b else a == b)) H
def QH:f_ X (compareOp .IsNot) (DQ true):=vF.or Yv
def tm:O->Bool
 |.Y .bL=>true
 |_=>false
noncomputable def TM(neg b:Bool):O->ao O
 |.Y (.bl a)=>some (.Y (.bl (if neg then a != b else a == b)))
 |_=>none
def TN(neg:Bool)(a:O):O->ao O
 |.Y .bL=>some (.Y (.bl (if neg then !tm a else tm a)))
 |.Y (.bl b)=>TM neg b a
 |_=>none
def ox(neg:Bool):List O->ao O
 |[a,b]=>TN neg a b
 |_=>none
def W8{F H:Hp}{x:V}{o:O}{B:List ak}(h:ah K F H [some x] [some o] B):decide (x=.bL)=tm o:=by
 cases h with
 |@Y _ d _ _ _ r _=>
  cases r with
  |flat q _=>cases d <;> cases q <;> rfl
  |lst _ _ _=>rfl
  |tup _ _ _=>rfl
  |aL _ _ _ _ _=>rfl
  |eY _ _=>rfl
  |exc _ _=>rfl
 |lst _ _ _=>rfl
 |tup _ _ _=>rfl
 |aL _ _ _ _ _=>rfl
def SJ(neg:Bool):cT K (mV (DQ neg)) (ox neg):=by
 intro F H vs os o Q le fD e res;unfold ox at e;split at e
 .obtain⟨x,y,B,C,rfl,h1,h2⟩:=fD.two;unfold TN at e;split at e
  .cases e;cases ju h2 rfl;refine⟨_,_,rfl,.inl ⟨rfl,?_⟩⟩;rw[W8 h1];exact res.flat rfl
  .unfold TM at e;split at e
   .cases e;cases ju h1 rfl;cases ju h2 rfl;exact⟨_,_,rfl,.inr ⟨_,_,rfl,rfl,res.flat rfl⟩⟩
   .cases e
  .cases e
 .cases e
def DR(K:FG):R2:=λx y H Q=>y7 K x y H Q\/y8 K x y H Q\/DS x y H Q\/∃a v,x=.ref a/\jt K H a y (some v)/\Q v H
def YN(hu:X.A.units+9<cLine):qI X (λx y H Q=>∃a v,x=.ref a/\jt X.K H a y (some v)/\Q v H):=by
 intro value slice ae s Z H x y v u Q I rx ry h hs;obtain⟨a,w,rfl,g,q⟩:=h;cases rx;exact tail_any (g.ty I).1 PySem.F.slot_dict_getitem.lookup (O6 hu I g ry λw' s3 I3 vK=>⟨w,H,I3,vK,q⟩) hs
def G4(K:FG)(hu:X.A.units+41<cLine)(hK:X.K=K:=by rfl):qI X (DR K):=by
 subst hK;exact(WW X.K rfl).or ((Yz X.K rfl).or (yO.or (YN (by lia))))
def jE:O->ao O
 |.Y d=>some (.Y d)
 |_=>none
def jF(kvs:List (TK×O))(k:TK):ao O:=(kvs.find? λkv=>decide (kv.1=k)).map (·.2)
def intD:D->ao Int
 |.int k=>some k
 |_=>none
def xY{i:D}{k:Int}(h:intD i=some k):i=.int k:=by
 cases i with
 |int _=>cases h;rfl
 |_=>cases h
def ixD(d i:D):ao O:=match d with
 |.lst ds=>(intD i).bind λk=>(dq ds k).map .Y
 |.tup ds=>(intD i).bind λk=>(dq ds k).map .Y
 |.eY ns=>(intD i).bind λk=>(dq (ns.map D.int) k).map .Y
 |.str z=>(intD i).bind λk=>if z.length<=1000000 then(dq z.cps.toList k).map λc=>.Y (.str ⟨#[c]⟩) else none
 |.aL kvs=>(cH i).bind λk=>(jZ kvs k).map .Y
 |_=>none
def dN(a:O)(i:D):ao O:=match a with
 |.Y d=>ixD d i
 |.lst os=>(intD i).bind λk=>(dq os k).bind jE
 |.tup os=>(intD i).bind λk=>(dq os k).bind jE
 |.aL kvs=>(cH i).bind λk=>(jF kvs k).bind jE
def bt:List O->ao O
 |[a,.Y i]=>dN a i
 |_=>none
def Ke{F:Hp}{ws:List V}{ds:List D}{i:Int}{d:D}(r:aw K F ws ds)(e:dq ds i=some d):∃v,dq ws i=some v/\aw K F [v] [d]:=by
 unfold dq at e ⊢;rw[r.length];cases q:o5 ds.length i with
 |none=>rw[q] at e;cases e
 |some j=>
  rw[q] at e;exact r.get e
theorem QI{F H:Hp}:∀{ws:List V} {os:List O} {B:List ak} {j:Nat} {d:D},ah K F H (ws.map some) (os.map some) B->os[j]?=some (.Y d)->∃v,ws[j]?=some v/\aw K F [v] [d]
 |w::ws,o::os,B,0,d,h,e=>by
  obtain⟨B1,B2,h1,h2,_⟩:=ah.one h;simp at e;subst e;cases h1 with
  |Y r _=>exact⟨w,rfl,r⟩
 |w::ws,o::os,B,j+1,d,h,e=>by
  obtain⟨B1,B2,h1,h2,_⟩:=ah.one h;obtain⟨v,g1,g2⟩:=QI (j:=j) h2 (by simpa using e)
  exact⟨v,by simpa using g1,g2⟩
 |[],[],_,_,_,_,e=>by simp at e
 |[],_::_,_,_,_,h,_=>by have:=h.length;simp at this
 |_::_,[],_,_,_,h,_=>by have:=h.length;simp at this
def QJ{F H:Hp}{ws:List V}{os:List O}{B:List ak}{i:Int}{o:O}(r:ah K F H (ws.map some) (os.map some) B)(e:(dq os i).bind jE=some o):∃v d,dq ws i=some v/\aw K F [v] [d]/\o=.Y d:=by
 have hl:ws.length=os.length:=by have:=r.length;simpa using this
 unfold dq at e ⊢;rw[hl];cases q:o5 os.length i with
 |none=>rw[q] at e;cases e
 |some j=>
  rw[q] at e;dsimp only[Option.bind] at e;cases q2:os[j]? with
  |none=>rw[q2] at e;cases e
  |some o'=>
   rw[q2] at e;dsimp only at e;cases o' with
   |Y d=>cases e;obtain⟨v,g1,g2⟩:=QI r q2;exact⟨v,d,g1,g2,rfl⟩
   |_=>cases e
def rg{F H:Hp}{v:V}{d:D}{B:List ak}(h:ah K F H [some v] [some (.Y d)] B):aw K F [v] [d]:=by
 cases h with
 |Y r _=>exact r
theorem QK{F H:Hp}{k:TK}{d:D}:∀{ws:List (TK×V×V)} {kvs:List (TK×O)} {B:List ak},ws.map (·.1)=kvs.map (·.1)->ah K F H (ws.map λp=>some p.2.2) (kvs.map λp=>some p.2) B->jF kvs k=some (.Y d)->∃v,jG ws k=some v/\aw K F [v] [d]
 |[],[],_,_,_,e=>by cases e
 |w::ws,p::kvs,B,h,r,e=>by
  rw[dD,dD] at h;injection h with h1 h2;obtain⟨B1,B2,g1,g2,_⟩:=ah.one r;unfold jF at e;unfold jG;rw[ub] at e ⊢;rw[h1];by_cases q:p.1=k
  .rw[ie q] at e ⊢;have e:some p.2=some (.Y d):=e;injection e with e;have g1:ah K F H [some w.2.2] [some p.2] B1:=g1;rw[e] at g1;exact⟨w.2.2,rfl,rg g1⟩
  .rw[i7 q] at e ⊢;exact QK h2 g2 e
 |[],_::_,_,h,_,_=>by simp at h
 |_::_,[],_,h,_,_=>by simp at h
def e9c:cT K (mV (DR K)) bt:=by
 intro F H vs os o Q le fD e res;unfold bt at e;split at e
 .rename_i a i
  obtain⟨x,y,B,C,rfl,h1,h2⟩:=fD.two;refine⟨_,_,rfl,?_⟩;cases h1 with
  |@Y _ da _ _ _ r _=>
   cases r with
   |lst sq ri _=>
    obtain⟨k,hk,ee⟩:=eE.mp (show(intD i).bind (λk=>(dq _ k).map O.Y)=some o from e)
    cases xY hk;cases ju h2 rfl;obtain⟨d,q1,q2⟩:=jP.mp ee;subst q2;obtain⟨v,g1,g2⟩:=Ke ri q1;exact .inl ⟨_,_,_,v,rfl,rfl,.inl (le.rd sq),g1,res.Y g2⟩
   |exc _ _=>cases e
   |@eY _ ns _ _ sq _=>
    obtain⟨k,hk,ee⟩:=eE.mp (show(intD i).bind (λk=>(dq (ns.map D.int) k).map O.Y)=some o from e)
    cases xY hk;cases ju h2 rfl;obtain⟨d,q1,q2⟩:=jP.mp ee;subst q2;obtain⟨v,g1,g2⟩:=Ke (JD (K:=K) (F:=F) ns) q1;exact .inl ⟨_,_,_,v,rfl,rfl,le.seq sq,g1,res.Y g2⟩
   |tup sq ri _=>
    obtain⟨k,hk,ee⟩:=eE.mp (show(intD i).bind (λk=>(dq _ k).map O.Y)=some o from e)
    cases xY hk;cases ju h2 rfl;obtain⟨d,q1,q2⟩:=jP.mp ee;subst q2;obtain⟨v,g1,g2⟩:=Ke ri q1;exact .inr (.inl ⟨_,_,_,v,rfl,rfl,le.lW sq,g1,res.Y g2⟩)
   |@aL _ ws es ep _ _ hd hk rk ri _=>
    obtain⟨k,q,e⟩:=eE.mp (show(cH i).bind (λk=>(jZ es k).map O.Y)=some o from e)
    obtain⟨d,q1,q2⟩:=jP.mp e;subst q2;rcases Kd (k:=k) hk ri with⟨_,z⟩|⟨v,d',g1,g2,g3⟩
    .rw[q1] at z;cases z
    .rw[q1] at g2;cases g2;exact .inr (.inr (.inr ⟨_,v,rfl,⟨ws,ep,k,le _ _ hd,by rw[yh hk];exact rk.mono le,by rw[(nq q).1];exact qL le h2,(nq q).2,g1.symm⟩,res.Y g3⟩))
   |flat z _=>
    cases da with
    |str zz=>
     obtain⟨k,hk,ee⟩:=eE.mp (show(intD i).bind (λk=>if zz.length<=1000000 then(dq zz.cps.toList k).map λc=>O.Y (.str ⟨#[c]⟩) else none)=some o from e)
     cases xY hk;split at ee
     .obtain⟨c,q1,q2⟩:=jP.mp ee;subst q2;cases z;cases ju h2 rfl;exact .inr (.inr (.inl ⟨_,_,c,rfl,rfl,ml (by assumption),q1,res.flat rfl⟩))
     .cases ee
    |bL=>cases e
    |bl _=>cases e
    |int _=>cases e
    |ty _=>cases e
    |_=>cases z
  |lst sq ri _=>
   obtain⟨k,hk,ee⟩:=eE.mp (show(intD i).bind (λk=>(dq _ k).bind jE)=some o from e)
   cases xY hk;cases ju h2 rfl;obtain⟨v,d,g1,g2,rfl⟩:=QJ ri ee;exact .inl ⟨_,_,_,v,rfl,rfl,dO.of sq,g1,res.Y g2⟩
  |tup sq ri _=>
   obtain⟨k,hk,ee⟩:=eE.mp (show(intD i).bind (λk=>(dq _ k).bind jE)=some o from e)
   cases xY hk;cases ju h2 rfl;obtain⟨v,d,g1,g2,rfl⟩:=QJ ri ee;exact .inr (.inl ⟨_,_,_,v,rfl,rfl,fX.of sq,g1,res.Y g2⟩)
  |@aL _ ws es ep _ _ _ _ hd hk rk ri _=>
   obtain⟨k,q,e⟩:=eE.mp (show(cH i).bind (λk=>(jF es k).bind jE)=some o from e)
   obtain⟨o',q2,e⟩:=eE.mp e;cases o' with
   |Y d=>
    cases e;obtain⟨v,g1,g2⟩:=QK hk ri q2;exact .inr (.inr (.inr ⟨_,v,rfl,⟨ws,ep,k,hd,by rw[yh hk];exact rk.mono le,by rw[(nq q).1];exact qL le h2,(nq q).2,g1.symm⟩,res.Y g2⟩))
   |_=>cases e
 .cases e
def xm(K:FG):List V->Hp->VK->Prop:=λxs H Q=>(∃p ys,xs=[.ref p]/\(dO K H p ys\/fX K H p ys)/\Q (.int ys.length) H)\/(∃z,xs=[.str z]/\z.length<=sizeLine/\Q (.int z.length) H)
def ke(K:FG)(hK:X.K=K:=by rfl):cY X (.builtin "len") (xm K):=(UJ K hK).or UP
noncomputable def vA:D->ao Int
 |.lst ds=>some ds.length
 |.tup ds=>some ds.length
 |.str z=>if z.length<=1000000 then some z.length else none
 |.eY ns=>some ns.length
 |_=>none
def cC:List O->ao O
 |[a]=>(vA a.d).map λn=>.Y (.int n)
 |_=>none
def ku:cT K (xm K) cC:=by
 intro F H vs os o Q le fD e res;unfold cC at e;split at e
 .rename_i a
  obtain⟨x,B,rfl,h1⟩:=fD.one;obtain⟨n,q1,q2⟩:=jP.mp e;subst q2;have r:=qL le h1;cases hd:a.d with
  |lst ds=>
   rw[hd] at q1 r;cases q1;cases r with
   |flat z _=>cases z
   |lst sq ri _=>exact .inl ⟨_,_,rfl,.inl (.inl sq),by rw[ri.length];exact res.flat rfl⟩
  |tup ds=>
   rw[hd] at q1 r;cases q1;cases r with
   |flat z _=>cases z
   |tup sq ri _=>exact .inl ⟨_,_,rfl,.inr sq,by rw[ri.length];exact res.flat rfl⟩
  |str z=>
   rw[hd] at q1 r;unfold vA at q1;dsimp only at q1;split at q1
   .cases q1;cases r with
    |flat z _=>cases z;exact .inr ⟨_,rfl,ml (by assumption),res.flat rfl⟩
   .cases q1
  |eY ns=>
   rw[hd] at q1 r;cases q1;cases r with
   |flat z _=>cases z
   |eY sq _=>exact .inl ⟨_,_,rfl,.inl sq,by rw[bK];exact res.flat rfl⟩
  |_=>rw[hd] at q1;cases q1
 .cases e
noncomputable def jA:D->ao String
 |.bL=>some "NoneType"
 |.bl _=>some "bool"
 |.int _=>some "int"
 |.str _=>some "str"
 |.lst _=>some "list"
 |.tup _=>some "tuple"
 |_=>none
def cI:List O->ao O
 |[a,.Y (.ty T)]=>if T="int"\/T="str"\/T="bool"\/T="list"\/T="tuple" then(jA a.d).map λk=>.Y (.bl (jV k T)) else none
 |_=>none
def W9{H:Hp}{x:V}{d:D}{k:String}(r:aw K H [x] [d])(e:jA d=some k):FV K H x k:=by
 cases r with
 |flat q _=>cases d <;> cases e <;> cases q <;> rfl
 |lst sq _ _=>cases e;exact .inl ⟨rfl,_,.inl sq⟩
 |tup sq _ _=>cases e;exact .inr ⟨rfl,_,sq⟩
 |aL _ _ _ _ _=>cases e
 |eY _ _=>cases e
 |exc _ _=>cases e
def qa:cT K (λxs H Q=>∃x k T,xs=[x,.ty T]/\FV K H x k/\(T="int"\/T="str"\/T="bool"\/T="list"\/T="tuple")/\Q (.bl (jV k T)) H) cI:=by
 intro F H vs os o Q le fD e res;unfold cI at e;split at e
 .split at e
  .obtain⟨x,y,B,C,rfl,h1,h2⟩:=fD.two;obtain⟨k,q1,q2⟩:=jP.mp e;subst q2;cases ju h2 rfl;exact⟨x,k,_,rfl,W9 (qL le h1) q1,by assumption,res.flat rfl⟩
  .cases e
 .cases e
noncomputable def ou:List O->ao O
 |[.Y (.int i)]=>some (.Y (.int i))
 |[.Y (.bl b)]=>some (.Y (.int (if b then 1 else 0)))
 |_=>none
def QL:cT K (λxs H Q=>(∃i,xs=[.int i]/\Q (.int i) H)\/∃k,xs=[.bl k]/\Q (.int (if k then 1 else 0)) H) ou:=by
 intro F H vs os o Q le fD e res;unfold ou at e;split at e
 .cases e;obtain⟨x,B,rfl,h1⟩:=fD.one;cases ju h1 rfl;exact .inl ⟨_,rfl,res.flat rfl⟩
 .cases e;obtain⟨x,B,rfl,h1⟩:=fD.one;cases ju h1 rfl;exact .inr ⟨_,rfl,res.flat rfl⟩
 .cases e
def DZ(o:O):ao (List D):=match dY o with
 |some ds=>some ds
 |none=>t6 o
def iX:List O->ao O
 |[a]=>(DZ a).map λds=>.lst (ds.map .Y)
 |_=>none
def Fu:cT K (λxs H Q=>∃p ys,xs=[.ref p]/\(dO K H p ys\/fX K H p ys)/\∀l,H l=none->Q (.ref l) (upd H l (.lst ys))) iX:=by
 intro F H vs os o Q le fD e res;unfold iX at e;split at e
 .rename_i a
  obtain⟨x,B,rfl,h1⟩:=fD.one;obtain⟨ds,q1,q2⟩:=jP.mp e;subst q2;unfold DZ at q1;cases q:dY a with
  |some Lo=>
   rw[q] at q1;cases q1;obtain⟨p,ws,rfl,sq,r⟩:=xS le h1 q;exact⟨p,ws,rfl,.inl sq,λl hl=>res.lst r hl⟩
  |none=>
   rw[q] at q1;obtain⟨p,ws,rfl,sq,r⟩:=Ft le h1 q1;exact⟨p,ws,rfl,.inr sq,λl hl=>res.lst r hl⟩
 .cases e
end
def iU(K:FG)(r:V->List V->Hp->VK->Prop)(g:O->List O->ao (O×O)):Prop:=
 ∀(F H:Hp) (x:V) (vs:List V) (o:O) (os:List O) (o' res:O) (Ai Aτ:List ak) (Q:VK),aF F H->ah K F H [some x] [some o] Ai->ah K F H (vs.map some) (os.map some) Aτ->(Ai++Aτ).Nodup->(∀a∈Ai++Aτ,F a=none)->
  g o os=some (o',res)->
  (∀v H' A' Ar,(∀a u,a∉Ai->H a=some u->H' a=some u)->(∀a,H a≠none->H' a≠none)->ah K F H' [some x] [some o'] A'->ah K F H' [some v] [some res] Ar->aB (Ar++A') (Ai++Aτ)->Q v H')->r x vs H Q
def gb(g:O->List O->ao (O×O))(fo:GE)(fs:GA):GE:=λQ0=>(fo Q0).bind λp=>match p.1 with
 |.var i=>match p.2[i]? with
  |some (some (.lst _))=>(fs p.2).bind λq=>(fy q.1).bind λos=>match q.2[i]? with
   |some (some o)=>(g o os).bind λz=>some (.own z.2,q.2.set i (some z.1))
   |_=>none
  |_=>none
 |_=>none
section
variable{K:FG}{F H:Hp}{A:List ak}{Z:St}{Q0:Gm}
def W_{g:O->List O->ao (O×O)}{fo:GE}{fs:GA}{Q0 ax:Gm}{r:R}(e:gb g fo fs Q0=some (r,ax)):
  ∃i aH ps rs cn os o z,fo Q0=some (.var i,aH)/\aH[i]?=some (some (.lst ps))/\fs aH=some (rs,cn)/\fy rs=some os/\cn[i]?=some (some o)/\g o os=some z/\r=.own z.2/\ax=cn.set i (some z.1):=by
 unfold gb at e;cases q:fo Q0 with
 |none=>rw[q] at e;cases e
 |some p=>
  obtain⟨r1,aH⟩:=p;rw[q] at e;dsimp only[Option.bind] at e;cases r1 with
  |own _=>cases e
  |var i=>
   dsimp only at e;split at e
   .rename_i ps h1
    cases q2:fs aH with
    |none=>rw[q2] at e;cases e
    |some p2=>
     obtain⟨rs,cn⟩:=p2;rw[q2] at e;dsimp only at e;cases q3:fy rs with
     |none=>rw[q3] at e;cases e
     |some os=>
      rw[q3] at e;dsimp only at e;split at e
      .rename_i o h2
       cases q4:g o os with
       |none=>rw[q4] at e;cases e
       |some z=>rw[q4] at e;cases e;exact⟨i,aH,ps,rs,cn,os,o,z,rfl,h1,q2,q3,h2,q4,rfl,rfl⟩
      .cases e
   .cases e
def OK.s9{vs:List V}{os:List O}{i:Nat}{x:V}{o o' res:O}{g:O->List O->ao (O×O)}{r:V->List V->Hp->VK->Prop}{Q:VK}(ok:iU K r g)(k:OK K F H (vs.map some++Z) (os.map some++Q0) A)(hx:Z[i]?=some (some x))(ho:Q0[i]?=some (some o))
  (hl:vs.length=os.length) (e:g o os=some (o',res)) (q:∀v H' A',Ext F H A F H' A'->OK K F H' (some v::Z) (some res::Q0.set i (some o')) A'->Q v H'):r x vs H Q:=by
 obtain⟨B,C,h1,h2,h3⟩:=ah.split (by simpa using hl) k.os
 subst h3;obtain⟨x',Ai,C',g1,g2,g3,g4⟩:=h2.take ho;rw[hx] at g1;cases g1;have p1:(B++C).Perm ((Ai++B)++C'):=by
  refine(List.Perm.append_left B g4).trans ?_;rw[<-fE];exact qB.append_right _
 have nd:((Ai++B)++C').Nodup:=p1.nodup_iff.mp k.nd;have fr:∀a∈(Ai++B)++C',F a=none:=λa m=>k.fr a (p1.mem_iff.mpr m)
 obtain⟨n1,n2,n3⟩:=jk.mp nd;have nC:∀a∈C',a∉Ai:=λa m z=>n3 a (g_ _ z) a m rfl
 refine ok F H x vs o os o' res Ai B Q k.le g2 h1 n1 (λa m=>fr a (g_ _ m)) e λv H' A' Ar kp dm w1 w2 sp=>?_
 have s2:aB ((Ar++A')++C') ((Ai++B)++C'):=sp.app (aB.refl C');have hi:i<Q0.length:=(e_.mp ho).1;have vh:ah K F H' Z (Q0.set i none) C':=g3.keep (aF.refl _) λa m u e=>kp a u (nC a m) e
 obtain⟨D,j1,C2,j2,j3⟩:=ah.put w1 i vh (by rw[vY];exact hi)
 rw[rS hx,AY] at j1;have s3:aB (Ar++D) (B++C):=by
  have a1:aB (Ar++D) (Ar++(A'++C')):=(aB.refl Ar).app ((aB.bD j2).trans ((aB.refl A').app (.bb j3)));rw[<-fE] at a1;exact a1.trans (s2.trans (.bD p1.symm))
 refine q v H' (Ar++D) ⟨aF.refl _,λa u e n=>kp a u (λm=>n (p1.mem_iff.mpr (by simp[m]))) e,dm,λa h=>.inl h,λa m=>.inl (s3.mem a m)⟩ ⟨λa u e=>?_,w2.app j1,s3.nodup k.nd,λa m=>k.fr a (s3.mem a m)⟩
 refine kp a u (λm=>?_) (k.le a u e)
 rw[fr a (by simp[m])] at e
 cases e
end
section
variable{X:Cx}{K:FG}{o e:Expr}{es:List Expr}{fo:GE}{fs:GA}{name:Str}{apos cu:Pos}{id:String}{r:V->List V->Hp->VK->Prop}{g:O->List O->ao (O×O)}
def e5o(ok:iU K r g){Z:St}{H:Hp}{Q:VK}(t:tG K (gb g fo fs) Z H Q):H_ K "list" r (tG K fo) (jY K fs) Z H Q:=by
 obtain⟨F,A,Q0,rr,ax,k,e,w⟩:=t;obtain⟨i,aH,ps,rs,cn,os,o,z,e1,e2,e3,e4,e5,e6,rfl,rfl⟩:=W_ e;refine⟨F,A,Q0,_,aH,k,e1,λx H1 p=>?_⟩
 obtain⟨F1,A1,x1,k1,hh⟩:=p;have hx:Z[i]?=some (some x):=hh.1;obtain⟨k2,x2⟩:=k1.sub (Z':=Z) (ax:=aH) (by cases k1.os with|skip t=>exact t) (aB.refl _)
 refine⟨?_,F1,A1,aH,rs,cn,k2,e3,λvs H2 p2=>?_⟩
 .obtain⟨v,Ai,B,g1,g2,_⟩:=k2.os.take e2;rw[hx] at g1;cases g1;cases g2 with
  |lst hq _ _=>exact .inl ⟨rfl,_,dO.of hq⟩
 .obtain⟨F3,A3,x3,k3,h3⟩:=p2;rw[rT e4] at k3;have hl:vs.length=os.length:=by
   have:=h3.length;have h4:=congrArg List.length (rT e4);simp at h4;lia
  exact OK.s9 ok k3 hx e5 hl e6 λv H' A' x4 k4=>w v H' ⟨F3,A',(x1.trans (x2.trans (x3.trans x4))),k4,ig⟩
def pz(slot:Slot "list" name id)(qR:typeOf (.builtin id)=pure (.type "method_descriptor"))(hm:v7 X id r)(ok:iU K r g)(ho:PE X o (tG K fo))(ha:PA X (e::es) (jY K fs))
  (iz:attributeBase o name X.env (eval o X.env)=eval o X.env:=by rfl)
  (pF:((backTo cu (starEach (e::es) X.env)).all (λx => !x.1)&&(backToKw cu (keywordEach [] X.env)).all (λx=>x.1.isSome) && decide ((e::es).length+([]:List Keyword).length+(if([]:List Keyword).isEmpty then 0 else 1)<30))=true:=by rfl)
  (iA:(apos.endLine == cu.line)=true:=by rfl) (hs:starEach (e::es) X.env=(false,eval e X.env)::starEach es X.env:=by rfl) (je:(backTo cu (starEach es X.env)).any (·.1)=false:=by rfl) (hK:X.K=K:=by rfl) :
  PE X (.Call (.Attribute o name apos) (e::es) [] cu) (tG K (gb g fo fs)):=by
 subst hK;exact(Lj PySem.F.plainAttrs_list slot qR hm ho ha iz pF iA hs je).mono λ_ _ _ t=>e5o ok t
end
section
variable{K:FG}{F H:Hp}{l:ak}{ws AR:List V}{ps AL:List O}{Ap A':List ak}
def Vc(hn:l∉A')(h:ah K F H (AR.map some) (AL.map some) A'):ah K F (upd H l (.lst AR)) [some (.ref l)] [some (.lst AL)] (l::A'++[]):=
 .lst jl (h.keep (aF.refl _) λa m u e=>by rw[cW (λz=>hn (by rw[<-z];exact m):a≠l)];exact e) .nil
def PY{o:HO}{Ai:List ak}(hm:l∈Ai):∀a u,a∉Ai->H a=some u->upd H l o a=some u:=λa u n e=>by
 rw[cW (λz=>n (by rw[z];exact hm):a≠l)];exact e
def BW{o:HO}:∀a,H a≠none->upd H l o a≠none:=λa h=>by
 by_cases z:a=l
 .rw[z,jl];exact λz=>by cases z
 .rw[cW z];exact h
def E_{x:V}{Ai Aτ:List ak}{Q:VK}{o:O}(h:ah K F H [some x] [some o] Ai)(hps:o=.lst ps)(nd:(Ai++Aτ).Nodup){o' res:O}
  (q:∀v H' A' Ar,(∀a u,a∉Ai->H a=some u->H' a=some u)->(∀a,H a≠none->H' a≠none)->ah K F H' [some x] [some o'] A'->ah K F H' [some v] [some res] Ar->aB (Ar++A') (Ai++Aτ)->Q v H') :
  ∃l ws Ap,x=.ref l/\H l=some (.lst ws)/\ah K F H (ws.map some) (ps.map some) Ap/\(Ap++Aτ).Nodup/\∀AR AL A' v Ar,o'=.lst AL->ah K F H (AR.map some) (AL.map some) A'->ah K F H [some v] [some res] Ar->aB (Ar++A') (Ap++Aτ)->Q v (upd H l (.lst AR)):=by
 subst hps;cases h with
 |@lst l ws _ Ap B _ _ hl i t=>
  have eB:B=[]:=by cases t;rfl
  subst eB;rw[jq] at nd q;obtain⟨nl,DA⟩:=ib.mp (by simpa using nd:(l::(Ap++Aτ)).Nodup)
  refine⟨l,ws,Ap,rfl,hl,i,DA,λAR AL A' v Ar eo w1 w2 sp=>?_⟩
  subst eo;have nA:l∉A':=λm=>nl (sp.mem l (gE _ m))
  have nR:l∉Ar:=λm=>nl (sp.mem l (g_ _ m))
  refine q v _ _ Ar (PY (by simp)) BW (Vc nA w1) (w2.keep (aF.refl _) λa m u e=>by rw[cW (λz=>nR (by rw[<-z];exact m):a≠l)];exact e) ?_
  rw[jq];have s1:aB (Ar++l::A') (l::(Ar++A')):=.bD (by simpa using NS)
  refine s1.trans ?_;obtain⟨L,p1,p2⟩:=sp;exact⟨l::L,p1.cons l,by rw[Il];exact p2.cons_cons l⟩
def BX:ah K F H [some .bL] [some (.Y .bL)] []:=.Y (.flat rfl .nil) .nil
noncomputable def lD:O->List O->ao (O×O)
 |.lst ps,[y]=>if ps.length<1000000 then some (.lst (ps++[y]),.Y .bL) else none
 |_,_=>none
def ra:iU K Qw lD:=by
 intro F H x vs o os o' res Ai Aτ Q le h1 h2 nd fr e q;unfold lD at e;split at e
 .rename_i ps y
  split at e
  .rename_i hz
   cases e;obtain⟨l,ws,Ap,rfl,hl,i,DA,go⟩:=E_ h1 rfl nd q
   match vs,h2 with
   |[v],h2=>
    have hlen:ws.length=ps.length:=by have:=i.length;simpa using this
    refine⟨l,ws,v,rfl,rfl,hl,iP (by lia:ws.length<1000000) (by decide),?_⟩
    refine go (ws++[v]) (ps++[y]) (Ap++Aτ) .bL [] rfl ?_ BX (aB.refl _);rw[iF,iF];exact i.app h2
   |[],h2=>have:=h2.length;simp at this
   |_::_::_,h2=>have:=h2.length;simp at this
  .cases e
 .cases e
noncomputable def xZ:O->List O->ao (O×O)
 |.lst ps,[.Y (.int i),y]=>if 0<=i/\i<1000000/\ps.length<1000000 then some (.lst (ps.take i.toNat++y::ps.drop i.toNat),.Y .bL) else none
 |_,_=>none
def EY:iU K QA xZ:=by
 intro F H x vs o os o' res Ai Aτ Q le h1 h2 nd fr e q;unfold xZ at e;split at e
 .rename_i ps k y
  split at e
  .rename_i hz
   cases e;obtain⟨l,ws,Ap,rfl,hl,i,DA,go⟩:=E_ h1 rfl nd q
   match vs,h2 with
   |[v,v'],h2=>
    have hlen:ws.length=ps.length:=by have:=i.length;simpa using this
    obtain⟨rfl,h3⟩:=u5 h2;refine⟨l,ws,k,v',rfl,rfl,hl,hz.1,by lia,iP (by lia:ws.length<1000000) (by decide),?_⟩
    have es:ah K F H ((ws.take k.toNat).map some++(ws.drop k.toNat).map some) ((ps.take k.toNat).map some++(ps.drop k.toNat).map some) Ap:=by
     rw[<-iF,<-iF,vZ,vZ];exact i
    obtain⟨B,C,g1,g2,g3⟩:=ah.split (by simp[hlen]) es
    subst g3;refine go (qS ws k.toNat v') (ps.take k.toNat++y::ps.drop k.toNat) (B++(Aτ++C)) .bL [] rfl ?_ BX ?_
    .unfold qS;rw[iF,iF,dD,dD];exact g1.app (h3.app g2)
    .rw[gu,fE];exact(aB.refl B).app (.bD qB)
   |[],h2=>have:=h2.length;simp at this
   |[_],h2=>have:=h2.length;simp at this
   |_::_::_::_,h2=>have:=h2.length;simp at this
  .cases e
 .cases e
noncomputable def Cg:O->List O->ao (O×O)
 |.lst _,[]=>some (.lst [],.Y .bL)
 |_,_=>none
def W':iU K FU Cg:=by
 intro F H x vs o os o' res Ai Aτ Q le h1 h2 nd fr e q;unfold Cg at e;split at e
 .cases e;obtain⟨l,ws,Ap,rfl,hl,i,DA,go⟩:=E_ h1 rfl nd q
  match vs,h2 with
  |[],h2=>exact⟨l,ws,rfl,rfl,hl,go [] [] [] .bL [] rfl .nil BX (.bb (List.nil_sublist _))⟩
  |_::_,h2=>have:=h2.length;simp at this
 .cases e
end
def tR(K:FG):qK:=λo i v H Q=>xp o i v H Q\/∃a H4,o=.ref a/\uX K H a i v H4/\Q H4
def Lp{X:Cx}(hu:X.A.units+41<cLine):uU X (tR X.K):=by
 intro ae s Z H o i v ov iv u Q I ro ri rv h;rcases h with h|⟨a,H4,rfl,g,q⟩
 .exact WT ae s Z H o i v ov iv u Q I ro ri rv h
 .cases ro;exact VX (by lia) I g ri rv λs4 I4=>⟨H4,I4,q⟩
noncomputable def df{α:Type}:List (TK×α)->TK->α->List (TK×α)
 |[],k,v=>[(k,v)]
 |e::es,k,v=>if e.1=k then(e.1,v)::es else e::df es k v
def D8(v:O)(i:D):O->ao (O×O)
 |.lst ps=>(intD i).bind λk=>(o5 ps.length k).map λj=>(.lst (ps.set j v),.Y .bL)
 |.aL kvs=>(cH i).bind λk=>if kvs.length<1000000 then some (.aL (df kvs k v),.Y .bL) else none
 |_=>none
def kj(o:O):List O->ao (O×O)
 |[v,.Y i]=>D8 v i o
 |_=>none
def xq(K:FG):V->List V->Hp->VK->Prop:=λx vs H Q=>∃v i,vs=[v,i]/\tR K x i v H λH'=>Q .bL H'
section
variable{K:FG}{F H:Hp}
theorem JF{k:TK}{y v:V}{o:O}{Bv:List ak}(q:ah K F H [some v] [some o] Bv)(ry:aw K F [y] [k.d]):∀{ws:List (TK×V×V)} {kvs:List (TK×O)} {B:List ak},ws.map (·.1)=kvs.map (·.1)->aw K F (ws.map (·.2.1)) (kvs.map (·.1.d))->
  ah K F H (ws.map λp=>some p.2.2) (kvs.map λp=>some p.2) B->∃C,ah K F H ((gA ws k y v).map λp=>some p.2.2) ((df kvs k o).map λp=>some p.2) C/\aB C (Bv++B)/\(gA ws k y v).map (·.1)=(df kvs k o).map (·.1)/\
   aw K F ((gA ws k y v).map (·.2.1)) ((df kvs k o).map (·.1.d))
 |[],[],B,_,_,h=>⟨Bv,q,.bb (List.sublist_append_left _ _),rfl,ry⟩
 |w::ws,p::kvs,B,hk,rk,h=>by
  rw[dD,dD] at hk;injection hk with h1 h2;obtain⟨B1,B2,g1,g2,rfl⟩:=ah.one h;unfold gA df;rw[h1];by_cases e:p.1=k
  .rw[aU e,aU e];refine⟨Bv++B2,ah.app (τ:=[some v]) (Θ:=[some o]) q g2,.bb ((List.Sublist.refl _).append (ng _ _)),?_,?_⟩
   .simp only[dD,h2]
   .simp only[dD];exact rk
  .rw[aY e,aY e];obtain⟨C,j1,j2,j3,j4⟩:=JF q ry h2 rk.inv.2 g2;refine⟨B1++C,ah.app (τ:=[some w.2.2]) (Θ:=[some p.2]) g1 j1,?_,?_,?_⟩
   .refine((aB.refl B1).app j2).trans (.bD ?_);rw[<-fE,<-fE];exact qB.append_right _
   .simp only[dD,h1,j3]
   .exact .cons rk.inv.1 j4
 |[],_::_,_,h,_,_=>by simp at h
 |_::_,[],_,h,_,_=>by simp at h
def Kf{F H:Hp}{v:V}{kvs:List (TK×O)}{A:List ak}(h:ah K F H [some v] [some (.aL kvs)] A):∃a ws ep Ap,v=.ref a/\A=a::Ap/\H a=some (.dG ws ep)/\ws.map (·.1)=kvs.map (·.1)/\aw K F (ws.map (·.2.1)) (kvs.map (·.1.d))/\ah K F H (ws.map λp=>some p.2.2) (kvs.map λp=>some p.2) Ap:=by
 cases h with
 |@aL a ws _ ep Ap B _ _ hl hk rk ch t=>
  cases t;exact⟨a,ws,ep,Ap,rfl,jq _,hl,hk,rk,ch⟩
def e5p:iU K (xq K) kj:=by
 intro F H x vs o os o' res Ai Aτ Q le h1 h2 nd fr e q;unfold kj at e;split at e
 case h_2=>cases e
 rename_i ov i
 unfold D8 at e;split at e
 .rename_i ps
  obtain⟨k,hk,e⟩:=eE.mp e;cases xY hk;obtain⟨j,e1,e2⟩:=jP.mp e;cases e2;obtain⟨l,ws,Ap,rfl,hl,i,DA,go⟩:=E_ h1 rfl nd q;obtain⟨v,v',rfl⟩:=Ll (l:=vs) (by have:=h2.length;simp at this;lia)
  have hlen:ws.length=ps.length:=by have:=i.length;simpa using this
  obtain⟨B1,B2,g1,g2,rfl⟩:=ah.one h2;obtain⟨rfl,g3⟩:=u5 g2;cases g3;have hj:j<ps.length:=(J' e1).2.1;refine⟨v,.int k,rfl,.inl ⟨l,ws,k,j,rfl,rfl,hl,by rw[hlen];exact e1,?_⟩⟩
  obtain⟨D,j1,C2,j2,j3⟩:=ah.put g1 j i (by simpa using hj)
  refine go (ws.set j v) (ps.set j ov) D .bL [] rfl (by rw[List.map_set,List.map_set];exact j1) BX ?_
  rw[gu,jq];exact((aB.bD j2).trans ((aB.refl B1).app (.bb j3))).trans (.bD qB)
 .rename_i kvs
  cases q1:cH i with
  |none=>rw[q1] at e;cases e
  |some k=>
   rw[q1] at e;dsimp only[Option.bind] at e;split at e
   .rename_i hz
    cases e;obtain⟨v,v',rfl⟩:=Ll (l:=vs) (by have:=h2.length;simp at this;lia)
    obtain⟨B1,B2,g1,g2,rfl⟩:=ah.one h2;have ry:aw K F [v'] [k.d]:=by rw[(nq q1).1];exact rg g2
    obtain⟨l,ws,ep,Ap,rfl,rfl,hl,hk,rk,ch⟩:=Kf h1;obtain⟨C,j1,j2,j3,j4⟩:=JF (k:=k) g1 ry hk rk ch;have hlen:ws.length=kvs.length:=by have:=congrArg List.length hk;simpa using this
    have M7:(l::(Ap++(B1++B2))).Nodup:=by simpa using nd
    have nC:l∉C:=λm=>(ib.mp M7).1 (by
     rcases eD.mp (j2.mem l m) with z|z
     .simp[z]
     .simp[z])
    refine⟨v,v',rfl,.inr ⟨l,_,rfl,⟨ws,ep,k,hl,by rw[yh hk];exact rk.mono le,ry.mono le,(nq q1).2,iP (by lia:ws.length<1000000) (by decide),rfl⟩,?_⟩⟩
    refine q .bL _ (l::C++[]) [] (PY (by simp)) BW (.aL jl j3 j4 (j1.keep (aF.refl _) λa m u e=>by rw[cW (λz=>nC (by rw[<-z];exact m):a≠l)];exact e) .nil) BX ?_
    rw[gu,jq];refine((aB.refl [l]).app j2).trans ⟨l::(Ap++B1),?_,?_⟩
    .show(l::(B1++Ap)).Perm _;exact qB.cons l
    .exact((List.Sublist.refl Ap).append (List.sublist_append_left B1 B2)).cons_cons l
   .cases e
 .cases e
end
def iw(fv fo fi:GE):GS:=λQ0=>(fv Q0).bind λp=>(fo p.2).bind λq=>(fi q.2).bind λr=>match p.1,q.1,r.1 with
 |.own v,.var i,.own y=>match r.2[i]? with
  |some (some o)=>(kj o [v,y]).bind λz=>some (.nx,r.2.set i (some z.1))
  |_=>none
 |_,_,_=>none
section
variable{X:Cx}{K:FG}{m:List Bool}{e o i:Expr}{fv fo fi:GE}{pos pos':Pos}
def VY{Q0 ax:Gm}{fl:Fl}(e:iw fv fo fi Q0=some (fl,ax)):∃v aH j cn y o_ o z,fv Q0=some (.own v,aH)/\fo aH=some (.var j,cn)/\fi cn=some (.own y,o_)/\o_[j]?=some (some o)/\kj o [v,y]=some z/\fl=.nx/\ax=o_.set j (some z.1):=by
 unfold iw at e;cases q1:fv Q0 with
 |none=>rw[q1] at e;cases e
 |some p=>
  obtain⟨r1,aH⟩:=p;rw[q1] at e;dsimp only[Option.bind] at e;cases q2:fo aH with
  |none=>rw[q2] at e;cases e
  |some p=>
   obtain⟨r2,cn⟩:=p;rw[q2] at e;dsimp only at e;cases q3:fi cn with
   |none=>rw[q3] at e;cases e
   |some p=>
    obtain⟨r3,o_⟩:=p;rw[q3] at e;dsimp only at e;cases r1 with
    |var _=>cases e
    |own v=>
     cases r2 with
     |own _=>cases e
     |var j=>
      cases r3 with
      |var _=>cases e
      |own y=>
       dsimp only at e;split at e
       .rename_i oo h
        cases q4:kj oo [v,y] with
        |none=>rw[q4] at e;cases e
        |some z=>rw[q4] at e;cases e;exact⟨v,aH,j,cn,y,o_,oo,z,rfl,q2,q3,h,q4,rfl,rfl⟩
       .cases e
def Ci(he:PE X e (tG K fv))(ho:PE X o (tG K fo))(hi:PE X i (tG K fi))(hu:X.A.units+41<cLine)
  (ha:∀v,assign (.Subscript o i pos') X.env v=(do
   let ov <-holding [v] (eval o X.env)
   let iv <-holding [v,ov] (eval i X.env)
   standAt pos'
   holding [v,ov,iv] (setItem ov iv v)
   release [v,ov,iv] []):=by intro _;rfl)
  (hs:swapsWithSole [.Subscript o i pos'] e pos.line X.env=pure false:=by rfl) (hw:swappedStores [.Subscript o i pos'] e X.env=pure none:=by rfl)
  (h1:(assignEach [.Subscript o i pos'] X.env).map (·.2)=[assign (.Subscript o i pos') X.env]:=by rfl) (hK:X.K=K:=by rfl):PS X (.Assign [.Subscript o i pos'] e pos) (tS K m (iw fv fo fi)):=by
 subst hK;refine(Ky he (RE ho hi (Lp hu) ha) hs hw h1).mono λD Z H t=>?_
 obtain⟨F,A,Q0,fl,ax,k,e,w⟩:=t;obtain⟨v,aH,j,cn,y,o_,oo,z,e1,e2,e3,e4,e5,rfl,rfl⟩:=VY e;have t:jY X.K (aj fv (aj fo (aj fi gN))) Z H λvs H'=>∃a b c,vs=[a,b,c]/\tR X.K b c a H' λH4=>D.nx Z H4:=by
  refine⟨F,A,Q0,[.own v,.var j,.own y],o_,k,?_,λvs H1 p=>?_⟩
  .unfold aj;simp only[e1,e2,e3,Option.bind,gN]
  .obtain⟨F1,A1,x,k1,hh⟩:=p;obtain⟨a,b,c,rfl⟩:=e9a hh.length;refine⟨a,b,c,rfl,?_⟩;have hx:Z[j]?=some (some b):=hh.1;have k2:OK X.K F1 H1 ([a,c].map some++Z) ([v,y].map some++o_) A1:=by
    obtain⟨B1,C1,g1,g2,g3⟩:=ah.one (Z:=some b::some c::Z) (Q0:=none::some y::o_) k1.os;cases g2 with
    |skip g2=>subst g3;exact⟨k1.le,g1.app g2,k1.nd,k1.fr⟩
   have z':=OK.s9 (r:=xq X.K) (g:=kj) (Q:=λ_ H4=>D.nx Z H4) (o':=z.1) (res:=z.2) e5p k2 hx e4 rfl e5 λv' H' A' x4 k4=>by
    obtain⟨B2,k5,sub⟩:=OK.part (τ:=[some v']) (Θ:=[some z.2]) k4 rfl;exact w Z H' ⟨F1,B2,(x.trans x4).lV sub,k5,Kept.refl⟩
   obtain⟨v',i',ee,q⟩:=z';cases ee;exact q
 have t1:=xQ t;refine tG.mono t1 λa H1 h=>tG.mono (xQ h) λb H2 h2=>tG.mono (xQ h2) λc H3 h3=>?_
 obtain⟨F,A,Q0,rs,ax,k,e,w⟩:=h3;cases e;obtain⟨a',b',c',ee,q⟩:=w [] H3 ⟨F,A,Ext.refl,k,ig⟩;cases ee;exact q
end
abbrev GO:=Gm->ao (ao Int×Gm)
def Ia(K:FG)(f:GO):TO:=λZ H Q=>∃F A Q0 b ax,OK K F H Z Q0 A/\f Q0=some (b,ax)/\∀H',fR K F H A Z ax [] [] H'->Q b H'
def wA:GO:=λQ0=>some (none,Q0)
noncomputable def vx:R->ao Int
 |.own (.Y (.int i))=>some i
 |_=>none
def u7(f:GE):GO:=λQ0=>(f Q0).bind λp=>(vx p.1).map λi=>(some i,p.2)
section
variable{X:Cx}{K:FG}{e:Expr}{fa:GE}{lo hi:ao Expr}{fl fh:GO}{pos p2:Pos}
def zI:PO X none (Ia K wA):=by
 intro ae s Z H Q I t;refine Yo ae s Z H Q I ?_;obtain⟨F,A,Q0,b,ax,k,e,w⟩:=t;cases e;exact w H ⟨F,A,Ext.refl,k,ig⟩
def zJ(h:PE X e (tG K fa)):PO X (some e) (Ia K (u7 fa)):=by
 intro ae s Z H Q I t;refine Yp h ae s Z H Q I ?_;obtain⟨F,A,Q0,b,ax,k,e,w⟩:=t;unfold u7 at e;cases q:fa Q0 with
 |none=>rw[q] at e;cases e
 |some p=>
  obtain⟨r,aH⟩:=p;rw[q] at e;obtain⟨i,e1,e2⟩:=jP.mp e;cases e2;have er:r=.own (.Y (.int i)):=by
   unfold vx at e1;split at e1
   .rename_i hh;cases e1;exact hh
   .cases e1
  subst er;exact⟨F,A,Q0,_,_,k,q,λv H' pp=>⟨i,pp.flat rfl,w H' pp.drop⟩⟩
def cutD(ds:List D)(lo hi:ao Int):List D:=(ds.drop (HT.dA ds.length 0 lo)).take (HT.dA ds.length ds.length hi - HT.dA ds.length 0 lo)
def rL(o:O)(lo hi:ao Int):ao O:=match o,dY o,t6 o with
 |.Y (.str z),_,_=>if z.length<=1000000 then some (.Y (.str (Txt.slice z lo hi))) else none
 |_,some ds,_=>some (.lst ((cutD ds lo hi).map .Y))
 |_,none,some ds=>if HT.dA ds.length 0 lo=0/\HT.dA ds.length ds.length hi=ds.length then none else some (.tup ((cutD ds lo hi).map .Y))
 |_,_,_=>none
def DU(K:FG):V->ao Int->ao Int->Hp->VK->Prop:=λx lo hi H Q=>DV x lo hi H Q\/y9 K x lo hi H Q\/y_ K x lo hi H Q
def Nl(K:FG)(hK:X.K=K:=by rfl):rQ X (DU K):=zb.or ((WX K hK).or (YA K hK))
def e9d{F H:Hp}{x:V}{o o':O}{B:List ak}{Q:VK}{lo hi:ao Int}(le:aF F H)(h:ah K F H [some x] [some o] B)(e:rL o lo hi=some o')(res:Res K F H o' Q):DU K x lo hi H Q:=by
 unfold rL at e;split at e
 .split at e
  .cases e;cases ju h rfl;exact .inl ⟨_,rfl,ml (by assumption),res.flat rfl⟩
  .cases e
 .rename_i ds _ _ q1 _
  cases e;obtain⟨a,ws,rfl,sq,r⟩:=xS le h (by assumption)
  refine .inr (.inl ⟨a,ws,rfl,sq,λp hp=>res.lst ?_ hp⟩)
  unfold n_ cutD;rw[r.length];exact(r.drop _).take _
 .split at e
  .cases e
  .rename_i pH
   cases e;obtain⟨a,ws,rfl,sq,r⟩:=Ft le h (by assumption)
   refine .inr (.inr ⟨a,ws,rfl,sq,by rw[r.length];exact pH,λp hp=>res.tup ?_ hp⟩)
   unfold n_ cutD;rw[r.length];exact(r.drop _).take _
 .cases e
def uw(f:GE)(lo hi:GO):GE:=λQ0=>(f Q0).bind λp=>(lo p.2).bind λq=>(hi q.2).bind λr=>(kl r.2 p.1).bind λo=>(rL o q.1 r.1).bind λo'=>some (.own o',r.2)
def Vd{Q0 ax:Gm}{r:R}(e:uw fa fl fh Q0=some (r,ax)):∃r1 aH l cn u o o',fa Q0=some (r1,aH)/\fl aH=some (l,cn)/\fh cn=some (u,ax)/\kl ax r1=some o/\rL o l u=some o'/\r=.own o':=by
 unfold uw at e;cases q1:fa Q0 with
 |none=>rw[q1] at e;cases e
 |some p=>
  rw[q1] at e;dsimp only[Option.bind] at e;cases q2:fl p.2 with
  |none=>rw[q2] at e;cases e
  |some q=>
   rw[q2] at e;dsimp only at e;cases q3:fh q.2 with
   |none=>rw[q3] at e;cases e
   |some w=>
    rw[q3] at e;dsimp only at e;cases q4:kl w.2 p.1 with
    |none=>rw[q4] at e;cases e
    |some o=>
     rw[q4] at e;dsimp only at e;cases q5:rL o q.1 w.1 with
     |none=>rw[q5] at e;cases e
     |some o'=>rw[q5] at e;cases e;exact⟨p.1,p.2,q.1,q.2,w.1,o,o',rfl,q2,q3,q4,q5,rfl⟩
def zx(he:PE X e (tG K fa))(hl:PO X lo (Ia K fl))(hu:PO X hi (Ia K fh))(hK:X.K=K:=by rfl):PE X (.Subscript e (.Slice lo hi none p2) pos) (tG K (uw fa fl fh)):=by
 refine(WS (Nl K hK) he hl hu).mono λZ H Q t=>?_
 obtain⟨F,A,Q0,rr,ax,k,e,w⟩:=t;obtain⟨r1,aH,l,cn,u,o,o',e1,e2,e3,e4,e5,rfl⟩:=Vd e;refine⟨F,A,Q0,r1,aH,k,e1,λv H1 p=>?_⟩
 obtain⟨F1,A1,x1,k1,hh⟩:=p;obtain⟨C,kC,fr⟩:=OK.frame (τ:=[some v]) (Θ:=[r1.o]) k1 rfl;refine⟨F1,C,aH,l,cn,kC,e2,λH2 p2=>?_⟩
 obtain⟨F2,A2,x2,k2,_⟩:=p2;obtain⟨A3,x3,k3⟩:=fr _ _ _ _ _ x2 k2;obtain⟨C2,kC2,fr2⟩:=OK.frame (τ:=[some v]) (Θ:=[r1.o]) k3 rfl;refine⟨F2,C2,cn,u,ax,kC2,e3,λH3 p3=>?_⟩
 obtain⟨F4,A4,x4,k4,_⟩:=p3;obtain⟨A5,x5,k5⟩:=fr2 _ _ _ _ _ x4 k4;have pp:fR K F H A Z ax [r1] [v] H3:=⟨F4,A5,x1.trans (x3.trans x5),k5,hh⟩;obtain⟨F6,le,fD,res⟩:=pp.res (os:=[o]) (o:=o') (by unfold gd;rw[e4];rfl) w
 obtain⟨x,B,ev,h1⟩:=fD.one;cases ev;exact e9d le h1 e5 res
end
noncomputable def cM:List Nat->Gm->Gm×Gm
 |[],Q0=>([],Q0)
 |i::cap,Q0=>let p:=cM cap (Q0.set i none);((Q0[i]?).join::p.1,p.2)
def ux:List Nat->Gm->Gm->Gm
 |i::cap,x::ly,Q0=>(ux cap ly Q0).set i x
 |_,_,Q0=>Q0
noncomputable def compLoop(g:GG)(ct:GT)(ce:GE):List D->Gm->List O->ao (List O×Gm)
 |[],Q0,aE=>some (aE,Q0)
 |d::ds,Q0,aE=>(g d Q0).bind λaH=>(ct aH).bind λp=>if p.1=true then
   (ce p.2).bind λq=>(fy [q.1]).bind λos=>if aE.length<1000000 then compLoop g ct ce ds q.2 (aE++os) else none
  else compLoop g ct ce ds p.2 aE
section
variable{K:FG}{F H:Hp}{Z:St}
theorem Gb:∀{cap:List Nat} {Q0:Gm} {C:List ak},ah K F H Z Q0 C->∃B C',ah K F H (cap.map λi=>(Z[i]?).join) (cM cap Q0).1 B/\ah K F H Z (cM cap Q0).2 C'/\aB (B++C') C
 |[],Q0,C,h=>⟨[],C,.nil,h,aB.refl _⟩
 |i::cap,Q0,C,h=>by
  cases q:Q0[i]? with
  |none=>
   obtain⟨C1,g1,g2⟩:=ah.forget i h;obtain⟨B,C',j1,j2,j3⟩:=Gb (cap:=cap) g1;refine⟨B,C',?_,j2,j3.trans (.bb g2)⟩;unfold cM;simp only[q,dD];exact .skip j1
  |some z=>
   cases z with
   |none=>
    obtain⟨C1,g1,g2⟩:=ah.forget i h;obtain⟨B,C',j1,j2,j3⟩:=Gb (cap:=cap) g1;refine⟨B,C',?_,j2,j3.trans (.bb g2)⟩;unfold cM;simp only[q,dD];exact .skip j1
   |some o=>
    obtain⟨v,Ai,C1,g1,g2,g3,g4⟩:=h.take q;obtain⟨B,C',j1,j2,j3⟩:=Gb (cap:=cap) g3;refine⟨Ai++B,C',?_,j2,?_⟩
    .unfold cM;simp only[q,dD,g1];exact g2.app j1
    .rw[fE];exact((aB.refl Ai).app j3).trans (.bD g4.symm)
theorem QM:∀{cap:List Nat} {τ:St} {ly Q0:Gm} {B C:List ak},ah K F H τ ly B->ah K F H Z Q0 C->τ=(cap.map λi=>(Z[i]?).join)->∃D,ah K F H Z (ux cap ly Q0) D/\aB D (B++C)
 |[],_,ly,Q0,B,C,h1,h2,e=>by
  subst e;cases h1;exact⟨C,h2,.bb (ng _ _)⟩
 |i::cap,τ,[],Q0,B,C,h1,h2,e=>by subst e;have:=h1.length;simp at this
 |i::cap,τ,x::ly,Q0,B,C,h1,h2,e=>by
  subst e;obtain⟨B1,B2,g1,g2,rfl⟩:=ah.one h1;obtain⟨D,j1,j2⟩:=QM (cap:=cap) g2 h2 rfl;have s1:aB D ((B1++B2)++C):=j2.trans (by rw[fE];exact .bb (ng _ _))
  cases x with
  |none=>
   obtain⟨D',k1,k2⟩:=ah.forget i j1;exact⟨D',k1,(aB.bb k2).trans s1⟩
  |some o=>
   have g1:ah K F H [(Z[i]?).join] [some o] B1:=g1;cases q:Z[i]? with
   |none=>rw[q] at g1;cases g1
   |some z=>
    cases z with
    |none=>rw[q] at g1;cases g1
    |some v=>
     rw[q] at g1;have hi:i<(ux cap ly Q0).length:=by rw[<-j1.length];exact(e_.mp q).1
     obtain⟨D',k1,C',k2,k3⟩:=ah.put (show ah K F H [some v] [some o] B1 from g1) i j1 hi;rw[rS q] at k1;refine⟨D',k1,(aB.bD k2).trans ?_⟩;rw[fE];exact(aB.refl B1).app ((aB.bb k3).trans j2)
end
def n8(k:Nat)(cap:List Nat):List Bool:=List.replicate k false++List.replicate cap.length true
def kT(src:Gm->ao (List D×Gm))(g:GG)(ct:GT)(ce:GE)(k:Nat)(cap:List Nat):GE:=λQ0=>(src Q0).bind λp=>
 (compLoop g ct ce p.1 (List.replicate k none++(cM cap p.2).1) []).bind λq=>if q.2.length=k+cap.length then some (.own (.lst q.1),ux cap (q.2.drop k) (cM cap p.2).2) else none
section
variable{K:FG}
structure Bc (K:FG) (m:List Bool) (g:GG) (ct:GT) (ce:GE) (ds:List D) (fin:List O×Gm) (F1 H1:Hp) (C:List ak) (τ₀:St) (i:Nat) (τ:St) (aE:List V) (H:Hp):Prop where
 ex:∃F A q9 gX,OK K F H (aE.map some++τ) (gX.map some++q9) A/\Ext F1 H1 C F H A/\compLoop g ct ce (ds.drop i) q9 gX=some fin/\aE.length=gX.length/\Kept m τ₀ τ
def VZ{m:List Bool}{t:TG}{g:GG}{ct:GT}{ce:GE}(tg:gv K m t g){ds:List D}{fin:List O×Gm}{F1 H1:Hp}{C:List ak}{τ₀:St}{i:Nat}{τ:St}{aE:List V}{H:Hp}{x:V}{d:D}(p:Bc K m g ct ce ds fin F1 H1 C τ₀ i τ aE H)
  (ed:ds.drop i=d::ds.drop (i+1)) (rx:∀F,aF F1 F->aw K F [x] [d]) :
  t x τ H λτ2 H2=>ia K ct τ2 H2 λb H3=>if b=true then tG K ce τ2 H3 λv H4=>aE.length<sizeLine/\Bc K m g ct ce ds fin F1 H1 C τ₀ (i+1) τ2 (aE++[v]) H4 else Bc K m g ct ce ds fin F1 H1 C τ₀ (i+1) τ2 aE H3:=by
 obtain⟨F,A,q9,gX,k,x0,e,hl,kp⟩:=p.ex;rw[ed] at e;unfold compLoop at e;cases q1:g d q9 with
 |none=>rw[q1] at e;cases e
 |some aH=>
  rw[q1] at e;dsimp only[Option.bind] at e;cases q2:ct aH with
  |none=>rw[q2] at e;cases e
  |some pb=>
   obtain⟨b,cn⟩:=pb;rw[q2] at e;dsimp only at e;have hle:(aE.map some).length=(gX.map some).length:=by simp[hl]
   obtain⟨C1,k1,fr1⟩:=k.frame hle;refine tg F H τ q9 aH C1 x d _ k1 (rx F x0.ff) q1 λτ2 A2 k2 x2 xc=>?_
   obtain⟨A3,x3,k3⟩:=fr1 _ _ _ _ _ x2 k2;obtain⟨C4,k4,fr4⟩:=k3.frame hle;refine⟨F,C4,aH,b,cn,k4,q2,λH3 pp=>?_⟩
   obtain⟨F5,A5,x5,k5,_⟩:=pp;obtain⟨A6,x6,k6⟩:=fr4 _ _ _ _ _ x5 k5;cases b with
   |false=>exact pK ⟨F5,A6,cn,gX,k6,x0.trans (x3.trans x6),e,hl,kp.trans xc⟩
   |true=>
    have e:((ce cn).bind λq=>(fy [q.1]).bind λos=>if gX.length<1000000 then compLoop g ct ce (ds.drop (i+1)) q.2 (gX++os) else none)=some fin:=e
    cases q3:ce cn with
    |none=>rw[q3] at e;cases e
    |some pr=>
     obtain⟨r,o_⟩:=pr;rw[q3] at e;dsimp only[Option.bind] at e;cases q4:fy [r] with
     |none=>rw[q4] at e;cases e
     |some os=>
      rw[q4] at e;dsimp only at e;split at e
      .rename_i hz
       obtain⟨C7,k7,LV⟩:=k6.frame hle;refine pL ⟨F5,C7,cn,r,o_,k7,q3,λv H4 pp=>⟨iP (by lia:aE.length<1000000) (by decide),?_⟩⟩
       obtain⟨F8,A8,x8,k8,_⟩:=pp;rw[rT q4] at k8;obtain⟨A9,x9,k9⟩:=LV _ _ _ _ _ x8 k8;refine⟨F8,A9,o_,gX++os,?_,x0.trans (x3.trans (x6.trans x9)),e,?_,kp.trans xc⟩
       .rw[iF,iF,fE,fE];exact k9
       .have:=congrArg List.length (rT q4);simp at this;simp[hl,this]
      .cases e
def Xa{m:List Bool}{g:GG}{ct:GT}{ce:GE}{ds:List D}{fin:List O×Gm}{F1 H1:Hp}{C:List ak}{τ₀:St}{τ:St}{aE:List V}{H:Hp}(p:Bc K m g ct ce ds fin F1 H1 C τ₀ ds.length τ aE H):
  ∃F A,OK K F H (aE.map some++τ) (fin.1.map some++fin.2) A/\Ext F1 H1 C F H A/\aE.length=fin.1.length/\Kept m τ₀ τ:=by
 obtain⟨F,A,q9,gX,k,x0,e,hl,kp⟩:=p.ex;rw[NN (cP _)] at e;cases e;exact⟨F,A,k,x0,hl,kp⟩
theorem O8:∀{cap:List Nat} {Q0:Gm} {j:Nat},j∉cap->(cM cap Q0).2[j]?=Q0[j]?
 |[],Q0,j,_=>rfl
 |i::cap,Q0,j,h=>by
  unfold cM;dsimp only;rw[O8 (λz=>h (oO _ z)),AU (λz=>h (by rw[z];exact nE))]
def Xb{F H:Hp}{Z:St}{Q0:Gm}{A:List ak}{j:Nat}{ps:List O}{a:ak}(h:ah K F H Z Q0 A)(nr:Q0[j]?=some (some (.lst ps)))(hZ:Z[j]?=some (some (.ref a))):a∈A:=by
 obtain⟨v,Ai,B,g1,g2,_,g4⟩:=h.take nr;rw[hZ] at g1;cases g1;cases g2 with
 |lst _ _ _=>exact g4.mem_iff.mpr (by simp)
def Ve{k:Nat}{cap:List Nat}{F H:Hp}{Z:St}{Q0:Gm}{A:List ak}(ok:OK K F H Z Q0 A):∃C,OK K F H (iR k cap Z) (List.replicate k none++(cM cap Q0).1) C/\
  (∀j ps a,j∉cap->Q0[j]?=some (some (.lst ps))->Z[j]?=some (some (.ref a))->a∉C)/\
  ∀F' H' τ' gX aE ly A',Ext F H C F' H' A'->OK K F' H' (aE.map some++τ') (gX.map some++ly) A'->aE.length=gX.length->Kept (n8 k cap) (iR k cap Z) τ'->ly.length=k+cap.length->∀l,H' l=none->
   ∃qE,Ext F H A F' (upd H' l (.lst aE)) qE/\OK K F' (upd H' l (.lst aE)) (some (.ref l)::Z) (some (.lst gX)::ux cap (ly.drop k) (cM cap Q0).2) qE:=by
 obtain⟨B,C',h1,h2,h3⟩:=Gb (cap:=cap) ok.os;have k0:ah K F H (iR k cap Z++Z) ((List.replicate k none++(cM cap Q0).1)++(cM cap Q0).2) (B++C'):=by
  have:=(Jd (K:=K) (F:=F) (H:=H) k).app h1;exact this.app h2
 obtain⟨k1,x1⟩:=ok.sub k0 h3;have hl0:(iR k cap Z).length=(List.replicate k (none:ao O)++(cM cap Q0).1).length:=by
  have:=h1.length;unfold iR;simp at this ⊢;lia
 obtain⟨A1,p1,k2⟩:=k1.swap hl0;have TQ:=k2;obtain⟨D0,C,hd0,hd1,hd2⟩:=ah.split h2.length k2.os;have nn:∀a∈D0,a∉C:=λa m z=>(jk.mp (hd2 ▸ k2.nd)).2.2 a m a z rfl
 obtain⟨k3,fr⟩:OK K F H (iR k cap Z) (List.replicate k none++(cM cap Q0).1) C/\∀F' H' Z' ax A',Ext F H C F' H' A'->OK K F' H' Z' ax A'->∃qE,Ext F H A1 F' H' qE/\OK K F' H' (Z++Z') ((cM cap Q0).2++ax) qE:=by
  subst hd2;exact k2.qk hd0 hd1
 refine⟨C,k3,λj ps a hj Mc hZj=>nn a (Xb hd0 (by rw[O8 hj];exact Mc) hZj),λF' H' τ' gX aE ly A' x k' hl kp nr l hn=>?_⟩
 have hQ0l:=k'.os.length;have k5:∃A5,OK K F' (upd H' l (.lst aE)) (some (.ref l)::τ') (some (.lst gX)::ly) A5/\Ext F' H' A' F' (upd H' l (.lst aE)) A5:=by
  obtain⟨B1,C1,g1,g2,g3⟩:=ah.split (by simp[hl]) k'.os
  have nl:∀a∈A',a≠l:=λa m z=>k'.os.there a m (by rw[z];exact hn)
  have TR:∀a∈A',∀o,H' a=some o->upd H' l (.lst aE) a=some o:=λa m o e=>by rw[cW (nl a m)];exact e
  subst g3;refine⟨l::B1++C1,⟨λa o e=>?_,.lst jl (g1.keep (aF.refl _) λa m=>TR a (g_ _ m)) (g2.keep (aF.refl _) λa m=>TR a (gE _ m)),ib.mpr ⟨λm=>nl l m rfl,k'.nd⟩,λa m=>?_⟩,aF.refl _,λa o e _=>?_,BW,λa h=>.inl h,λa m=>?_⟩
  .have:=k'.le a o e;rw[cW (mI this hn)];exact this
  .rcases eO.mp m with rfl|m
   .exact k'.le.free hn
   .exact k'.fr a m
  .rw[cW (mI e hn)];exact e
  .rcases eO.mp m with rfl|m
   .exact .inr hn
   .exact .inl m
 obtain⟨A5,k5,x5⟩:=k5;obtain⟨A6,x6,k6⟩:=fr _ _ _ _ _ (x.trans x5) k5;obtain⟨D1,D2,g1,g2,g3⟩:=ah.split h2.length k6.os;subst g3;obtain⟨D3,D4,g4,g5,g6⟩:=g2.one;subst g6;have hτ:τ'.length=k+cap.length:=by
  have:=g5.length;lia
 have e1:τ'=τ'.take k++τ'.drop k:=(vZ _ _).symm;have e2:ly=ly.take k++ly.drop k:=(vZ _ _).symm;have g5':ah K F' (upd H' l (.lst aE)) (τ'.take k++τ'.drop k) (ly.take k++ly.drop k) D4:=by rw[<-e1,<-e2];exact g5
 obtain⟨D5,D6,g7,g8,g9⟩:=ah.split (by rw[pU,pU];lia) g5'
 subst g9;have eτ:τ'.drop k=cap.map λi=>(Z[i]?).join:=by
  apply List.ext_getElem?;intro j;by_cases hj:j<cap.length
  .have hm:(n8 k cap)[k+j]?=some true:=by
    unfold n8;rw[zi (by simp)]
    simp[hj]
   have:=kp (k+j) hm;rw[List.getElem?_drop,this];unfold iR;rw[zi (by simp)]
   simp
  .rw[List.getElem?_eq_none (by rw[vW];lia),List.getElem?_eq_none (by rw[bK];lia)]
 obtain⟨D7,LW,LX⟩:=QM g8 g1 eτ;have s1:aB (D3++D7) (D1++(D3++(D5++D6))):=by
  refine((aB.refl D3).app LX).trans ?_;refine aB.trans (B:=D3++(D5++D6)++D1) ?_ (.bD qB);rw[fE];refine(aB.refl D3).app ?_;rw[fE];exact .bb (ng _ _)
 obtain⟨k7,x7⟩:=k6.sub (Z':=some (.ref l)::Z) (ax:=some (.lst gX)::ux cap (ly.drop k) (cM cap Q0).2) (g4.app LW) s1;exact⟨D3++D7,(x1.trans (Ext.lV Ext.refl λa m=>p1.mem_iff.mp m)).trans (x6.trans x7),k7⟩
end
def km(it:GE):Gm->ao (List D×Gm):=λQ0=>(ay it Q0).bind λp=>match p.1 with
 |.own (.Y (.lst ds))=>some (ds,p.2)
 |_=>none
def vN(it:GE):Gm->ao (List D×Gm):=λQ0=>(ay it Q0).bind λp=>match p.1 with
 |.own (.Y (.tup ds))=>some (ds,p.2)
 |_=>none
def mD(fs:GA):Gm->ao (List D×Gm):=λQ0=>(fs Q0).bind λp=>(jg p.1).map λj=>(fU 0 j.toNat,p.2)
def qw(fs:GA):Gm->ao (List D×Gm):=λQ0=>(fs Q0).bind λp=>(kg p.1).map λj=>(fU j.1 (j.2 - j.1).toNat,p.2)
def jr(K:FG)(cap:List Nat)(wi:TI)(src:Gm->ao (List D×Gm)):Prop:=
 ∀(Z:St) (F H:Hp) (A:List ak) (Q0 aH:Gm) (ds:List D) (R:It->Hp->Prop),OK K F H Z Q0 A->src Q0=some (ds,aH)->
  (∀J H1 F1 A1,Ext F H A F1 H1 A1->OK K F1 H1 Z aH A1-> (∀(g:TG) (tt:TT) (te:TE) (τ:St) (Fin:List V->Hp->Prop) (Pv:Nat->St->List V->Hp->Prop),Pv 0 τ [] H1->(∀i τ aE H,Pv i τ aE H->(∃F,aF F1 F/\aF F H)/\∀(j:Nat) ps a o,j∉cap->aH[j]?=some (some (.lst ps))->Z[j]?=some (some (.ref a))->H1 a=some o->H a=some o)-> (∀i d x τ aE H,ds.drop i=d::ds.drop (i+1)->(∀F,aF F1 F->aw K F [x] [d])->Pv i τ aE H->g x τ H λτ2 H2=>tt τ2 H2 λb H3=>if b=true then te τ2 H3 λv H4=>aE.length<sizeLine/\Pv (i+1) τ2 (aE++[v]) H4 else Pv (i+1) τ2 aE H3)-> (∀τ aE H,Pv ds.length τ aE H->Fin aE H)->kM J g tt te τ H1 Fin)->R J H1)->wi Z H R
section
variable{X:Cx}{K:FG}{fa:GE}{fs:GA}
def Kg{α:Type}{l:List α}{i:Nat}{x:α}(h:l[i]?=some x):l.drop i=x::l.drop (i+1):=by
 obtain⟨hi,e⟩:=e_.mp h;rw[Em hi,e]
def wc{cap:List Nat}:jr K cap (oi K (tG K (ay fa))) (km fa):=by
 intro Z F H A Q0 aH ds R k e w;unfold km at e;cases q:ay fa Q0 with
 |none=>rw[q] at e;cases e
 |some p=>
  obtain⟨r,cn⟩:=p;rw[q] at e;dsimp only[Option.bind] at e;cases r with
  |var i=>cases e
  |own o=>
   cases o with
   |Y d=>
    cases d with
    |lst es=>
     cases e;refine⟨F,A,Q0,_,_,k,q,λv H1 pp=>?_⟩
     obtain⟨F1,A1,x,k1,_⟩:=pp;obtain⟨B,C,h1,h2,h3⟩:=ah.one (Z:=Z) k1.os;have rp:=rg h1;subst h3;obtain⟨k2,x2⟩:=k1.sub h2 (.bb (ng _ _));cases rp with
     |flat z _=>cases z
     |@lst a ws _ _ _ sq ri _=>
      refine⟨a,rfl,⟨ws,.inl (k1.le.rd sq)⟩,w (xG K a) H1 F1 C (x.trans x2) k2 λg tt te τ Fin Pv h0 hF hs hd=>?_⟩
      have hl:=ri.length;refine VI (xs:=ws) Pv h0 (λi τ aE H hi p=>?_) (λi x τ aE H hx p=>?_) (λτ aE H p=>hd τ aE H (by rw[<-hl];exact p))
      .obtain⟨⟨F',s1,s2⟩,_⟩:=hF i τ aE H p;exact .inl ((s1.trans s2).rd sq)
      .have hi:i<ds.length:=by
        have:=(e_.mp hx).1;lia
       obtain⟨x2,sR,rx⟩:=ri.get (i:=i) (d:=ds[i]) (by simp[hi])
       rw[hx] at sR;cases sR;exact hs i ds[i] x τ aE H (Kg (by simp[hi])) (λF' s=>rx.mono s) p
    |_=>cases e
   |_=>cases e
def RS{cap:List Nat}:jr K cap (w_ (jY K fs)) (mD fs):=by
 intro Z F H A Q0 aH ds R k e w;unfold mD at e;cases q:fs Q0 with
 |none=>rw[q] at e;cases e
 |some p=>
  obtain⟨rs,cn⟩:=p;rw[q] at e;obtain⟨j,e1,e2⟩:=jP.mp e;cases e2;obtain⟨hj,hb⟩:=PU e1;have hj:rs=_:=hj;subst hj;refine⟨F,A,Q0,_,_,k,q,λvs H1 pp=>?_⟩
  obtain⟨F1,A1,x,k1,hh⟩:=pp
  match vs,hh with
  |[v],_=>
   obtain⟨rfl,h2⟩:=u5 (Z:=Z) k1.os;obtain⟨k2,x2⟩:=k1.sub h2 (aB.refl _);refine⟨j,rfl,hb.1,hb.2,w (ue 0 j.toNat) H1 F1 A1 x k2 λg tt te τ Fin Pv h0 hF hs hd=>?_⟩
   refine Oy Pv h0 (λi τ aE H hi p=>?_) (λτ aE H p=>hd τ aE H (by simpa[fU] using p))
   exact hs i (.int (0+(i:Int))) _ τ aE H (by unfold fU;exact Oe _ hi) (λF' s=>.flat rfl .nil) p
def e5q{cap:List Nat}:jr K cap (xa (jY K fs)) (qw fs):=by
 intro Z F H A Q0 aH ds R k e w;unfold qw at e;cases q:fs Q0 with
 |none=>rw[q] at e;cases e
 |some p=>
  obtain⟨rs,cn⟩:=p;rw[q] at e;obtain⟨jj,e1,e2⟩:=jP.mp e;cases e2;obtain⟨hj,hb⟩:=PV e1;have hj:rs=_:=hj;subst hj;obtain⟨i0,j⟩:=jj;refine⟨F,A,Q0,_,_,k,q,λvs H1 pp=>?_⟩
  obtain⟨F1,A1,x,k1,hh⟩:=pp
  match vs,hh with
  |[v,v'],_=>
   obtain⟨rfl,h1⟩:=u5 (Z:=some v'::Z) k1.os;obtain⟨rfl,h2⟩:=u5 (Z:=Z) h1;obtain⟨k2,x2⟩:=k1.sub h2 (aB.refl _);refine⟨i0,j,rfl,hb,w (ue i0 (j - i0).toNat) H1 F1 A1 x k2 λg tt te τ Fin Pv h0 hF hs hd=>?_⟩
   refine Oy Pv h0 (λi τ aE H hi p=>?_) (λτ aE H p=>hd τ aE H (by simpa[fU] using p))
   exact hs i (.int (i0+(i:Int))) _ τ aE H (by unfold fU;exact Oe _ hi) (λF' s=>.flat rfl .nil) p
def qJ.mono{ifs:List Expr}{t t':TT}(h:qJ X ifs t)(m:∀Z H Q,t' Z H Q->t Z H Q):qJ X ifs t':=λae s Z H Q I q=>h ae s Z H Q I (m _ _ _ q)
def fL:GT:=λQ0=>some (true,Q0)
def wo:qJ X [] (ia K fL):=vJ.mono λZ H Q t=>E7 t
def Fv{c:Expr}{ft:GT}(h:PT X c (ia K ft)):qJ X [c] (ia K ft):=Yt h
variable{tg elt iter:Expr}{ifs:List Expr}{scope:Scope}{pos:Pos}{M:List Str}{k:Nat}{cap:List Nat}{t:TG}{gg:GG}{ct:GT}{ce:GE}{wi:TI}{src:Gm->ao (List D×Gm)}
def Kh(so:jr K cap wi src)(zf:gv K (n8 k cap) t gg){Z:St}{H:Hp}{Q:VK}(tt:tG K (kT src gg ct ce k cap) Z H Q):t4 wi t (ia K ct) (tG K ce) k cap Z H Q:=by
 obtain⟨F,A,Q0,rr,ax,ok,e,w⟩:=tt;unfold kT at e;cases q1:src Q0 with
 |none=>rw[q1] at e;cases e
 |some p=>
  obtain⟨ds,aH⟩:=p;rw[q1] at e;dsimp only[Option.bind] at e;cases q2:compLoop gg ct ce ds (List.replicate k none++(cM cap aH).1) [] with
  |none=>rw[q2] at e;cases e
  |some fin=>
   rw[q2] at e;dsimp only at e;split at e
   .rename_i hlen
    cases e;refine so Z F H A Q0 aH ds _ ok q1 λJ H1 F1 A1 x1 k1 mk=>?_
    obtain⟨C,kC,nC,back⟩:=Ve (k:=k) (cap:=cap) k1;refine mk t (ia K ct) (tG K ce) (iR k cap Z) _ (Bc K (n8 k cap) gg ct ce ds fin F1 H1 C (iR k cap Z)) ?_ ?_ ?_ ?_
    .exact⟨F1,C,_,[],kC,Ext.refl,q2,rfl,Kept.refl⟩
    .rintro i τ aE H ⟨F',A',q9,gX,k',x',_⟩;exact⟨⟨F',x'.ff,k'.le⟩,λj ps a o hj h1 h2 h3=>x'.keep a o h3 (nC j ps a hj h1 h2)⟩
    .intro i d x τ aE H ed rx p;exact VZ zf p ed rx
    .intro τ aE H p l hn;obtain⟨F',A',k',x',hl,kp⟩:=Xa p;obtain⟨qE,x'',k''⟩:=back F' H τ fin.1 aE fin.2 A' x' k' hl kp hlen l hn;exact w _ _ ⟨F',qE,x1.trans x'',k'',ig⟩
   .cases e
def BY(so:jr K cap wi src)(zf:gv K (n8 k cap) t gg)(ok:b_ X scope M k cap)(hi:PI X tg iter wi)
  (hg:∀C s H fp,PG (iH X scope M C s H fp) tg t) (ht:∀C s H fp,qJ (iH X scope M C s H fp) ifs (ia K ct)) (he:∀C s H fp,PE (iH X scope M C s H fp) elt (tG K ce)) (hc:X.calm=true:=by rfl)
  (hs:∀x,foldedSetIterable iter X.env x=pure x:=by intro _;rfl):PE X (.ListComp elt [⟨tg,iter,ifs,0⟩] scope pos) (tG K (kT src gg ct ce k cap)):=
 (Yu hc ok hi hg ht he hs).mono λ_ _ _ t=>Kh so zf t
variable{m:List Bool}
def QN{i:Nat}{x:Str}{px oH:Pos}(so:jr K cap wi src)(zf:gv K (n8 k cap) t gg)(ok:b_ X scope M k cap)(hN:X.N.Nodup)(yG:X.N[i]?=some x)(hx:Loc X.env.scope x)(hi:PI X tg iter wi)
  (hg:∀C s H fp,PG (iH X scope M C s H fp) tg t) (ht:∀C s H fp,qJ (iH X scope M C s H fp) ifs (ia K ct)) (he:∀C s H fp,PE (iH X scope M C s H fp) elt (tG K ce)) (hc:X.calm=true:=by rfl) (hm:(m[i]? == some true)=false:=by rfl)
  (Dn:swapsWith (.ListComp elt [⟨tg,iter,ifs,0⟩] scope pos) (some (.Name x px)) oH.line X.env=pure true:=by rfl)
  (hs:∀x,foldedSetIterable iter X.env x=pure x:=by intro _;rfl) (hf:X.fn x=true\/X.env.scope.names.lookup x=some .local := by first|exact .inl rfl|exact .inr rfl) :
  PS X (.Assign [.Name x px] (.ListComp elt [⟨tg,iter,ifs,0⟩] scope pos) oH) (tS K m (av i (kT src gg ct ce k cap))):=(Qy hc ok hN yG hx hi hg ht he Dn hs hf).mono λD Z H tt=>by
 obtain⟨F,A,Q0,fl,ax,k,e,w⟩:=tt;unfold av at e;cases q:kT src gg ct ce _ cap Q0 with
 |none=>rw[q] at e;cases e
 |some p=>
  obtain⟨r,aH⟩:=p;rw[q] at e;cases r with
  |var i=>cases e
  |own o=>
   dsimp only[Option.bind] at e;split at e
   .cases e;refine Kh so zf ⟨F,A,Q0,_,aH,k,q,λv H' hh=>?_⟩
    obtain⟨F1,A1,x,k1,_⟩:=hh;obtain⟨B,k2,x2⟩:=OK.store (Z:=Z) (Q0:=aH) k1 (by assumption)
    exact w _ H' ⟨F1,B,x.trans x2,k2,Kept.set hm⟩
   .cases e
def BM{i:Nat}{x:Str}{px oH:Pos}(so:jr K cap wi src)(zf:gv K (n8 k cap) t gg)(ok:b_ X scope M k cap)(hN:X.N.Nodup)(yG:X.N[i]?=some x)(hx:Loc X.env.scope x)(hi:PI X tg iter wi)
  (hg:∀C s H fp,PG (iH X scope M C s H fp) tg t) (ht:∀C s H fp,qJ (iH X scope M C s H fp) ifs (ia K ct)) (he:∀C s H fp,PE (iH X scope M C s H fp) elt (tG K ce)) (hc:X.calm=true:=by rfl) (hm:(m[i]? == some true)=false:=by rfl)
  (Dn:swapsWith (.ListComp elt [⟨tg,iter,ifs,0⟩] scope pos) (some (.Name x px)) oH.line X.env=pure true:=by rfl)
  (hs:∀x,foldedSetIterable iter X.env x=pure x:=by intro _;rfl) (hf:X.fn x=true\/X.env.scope.names.lookup x=some .local := by first|exact .inl rfl|exact .inr rfl) :
  PS X (.Assign [.Name x px] (.ListComp elt [⟨tg,iter,ifs,0⟩] scope pos) oH) (tS K m (av i (ay (kT src gg ct ce k cap)))):=(Qy hc ok hN yG hx hi hg ht he Dn hs hf).mono λD Z H tt=>by
 obtain⟨F,A,Q0,fl,ax,k,e,w⟩:=tt;unfold av at e;cases q:ay (kT src gg ct ce _ cap) Q0 with
 |none=>rw[q] at e;cases e
 |some p=>
  obtain⟨r,aH⟩:=p;rw[q] at e;cases r with
  |var i=>cases e
  |own o=>
   dsimp only[Option.bind] at e;split at e
   .cases e;refine Kh so zf (RL ⟨F,A,Q0,_,aH,k,q,λv H' hh=>?_⟩)
    obtain⟨F1,A1,x,k1,_⟩:=hh;obtain⟨B,k2,x2⟩:=OK.store (Z:=Z) (Q0:=aH) k1 (by assumption)
    exact w _ H' ⟨F1,B,x.trans x2,k2,Kept.set hm⟩
   .cases e
end
inductive Wk (K:FG) (H:Hp):V->List Nat->V->Prop
 |nil {x:V}:Wk K H x [] x
 |cons {p:ak} {ws:List V} {j:Nat} {y v:V} {π:List Nat}:(dO K H p ws\/fX K H p ws)->ws[j]?=some y->Wk K H y π v->Wk K H (.ref p) (j::π) v
def Wk.snoc{K:FG}{H:Hp}{x v:V}{π:List Nat}{j:Nat}(h:Wk K H x (π++[j]) v):∃p ws,Wk K H x π (.ref p)/\(dO K H p ws\/fX K H p ws)/\ws[j]?=some v:=by
 induction π generalizing x with
 |nil=>
  cases h with
  |cons s e t=>cases t;exact⟨_,_,.nil,s,e⟩
 |cons i π ih=>
  cases h with
  |cons s e t=>
   obtain⟨p,ws,h1,h2,h3⟩:=ih t;exact⟨p,ws,.cons s e h1,h2,h3⟩
def iY(K:FG)(i:Nat)(π:List Nat):TE:=λZ H Q=>∃x v,Z[i]?=some (some x)/\Wk K H x π v/\Q v H
section
variable{X:Cx}{K:FG}{e:Expr}{i j:Nat}{π:List Nat}{pos p1 p2:Pos}{n:Nat}
def Cj(h:PE X e (pQ i)):PE X e (iY K i []):=h.mono λZ H Q t=>by
 obtain⟨x,v,e,w,q⟩:=t;cases w;exact⟨x,e,q⟩
def CA(h:PE X e (iY K i π))(hu:X.A.units+41<cLine)(hK:X.K=K:=by rfl)(hs:zD (.Constant (.int (j:Int)) n p1):=by exact λ_ _=>rfl):PE X (.Subscript e (.Constant (.int (j:Int)) n p1) pos) (iY K i (π++[j])):=
 (GX (G4 K hu hK) h B7 hs).mono λZ H Q t=>by
  obtain⟨x,v,e,w,q⟩:=t;obtain⟨p,ws,h1,h2,h3⟩:=w.snoc;refine⟨x,.ref p,e,h1,?_⟩;rcases h2 with h2|h2
  .exact .inl ⟨p,ws,j,v,rfl,rfl,h2,nO h3,q⟩
  .exact .inr (.inl ⟨p,ws,j,v,rfl,rfl,h2,nO h3,q⟩)
end
noncomputable def lh(f:O->ao (O×O)):O->List Nat->ao (O×O)
 |.lst ps,[]=>f (.lst ps)
 |.tup os,j::π=>(os[j]?).bind λc=>(lh f c π).bind λz=>some (.tup (os.set j z.1),z.2)
 |.lst os,j::π=>(os[j]?).bind λc=>(lh f c π).bind λz=>some (.lst (os.set j z.1),z.2)
 |_,_=>none
section
variable{K:FG}{F H:Hp}
def Vf{ws:List V}{os:List O}{A:List ak}{j:Nat}{c:O}(h:ah K F H (ws.map some) (os.map some) A)(e:os[j]?=some c):∃v Ac B,ws[j]?=some v/\ah K F H [some v] [some c] Ac/\A.Perm (Ac++B)/\
  ∀F' H' c' A',aF F F'->(∀a∈B,∀u,H a=some u->H' a=some u)->ah K F' H' [some v] [some c'] A'->∃D,ah K F' H' (ws.map some) ((os.set j c').map some) D/\aB D (A'++B):=by
 have e':(os.map some)[j]?=some (some c):=by rw[jO,e];rfl
 obtain⟨v,Ac,B,g1,g2,g3,g4⟩:=h.take e';have hv:ws[j]?=some v:=by
  rw[jO] at g1;cases q:ws[j]? with
  |none=>rw[q] at g1;cases g1
  |some z=>rw[q] at g1;cases g1;rfl
 refine⟨v,Ac,B,hv,g2,g4,λF' H' c' A' sf kp w=>?_⟩
 have vh:ah K F' H' (ws.map some) ((os.map some).set j none) B:=g3.keep sf kp;have hj:j<((os.map some).set j none).length:=by
  rw[vY,bK];exact(e_.mp e).1
 obtain⟨D,k1,C,k2,k3⟩:=ah.put w j vh hj;rw[AY,rS g1] at k1;refine⟨D,by rw[List.map_set];exact k1,(aB.bD k2).trans ((aB.refl A').app (.bb k3))⟩
inductive uW (H:Hp) (zs:List ak):V->List Nat->V->Prop
 |nil {x:V}:uW H zs x [] x
 |cons {p:ak} {ws:List V} {j:Nat} {y v:V} {π:List Nat}:(H p=some (.lst ws)\/H p=some (.tup ws))->p∉zs->ws[j]?=some y->uW H zs y π v->uW H zs (.ref p) (j::π) v
def uW.wk{zs:List ak}{x v:V}{π:List Nat}(h:uW H zs x π v):Wk K H x π v:=by
 induction h with
 |nil=>exact .nil
 |cons h _ e _ ih=>exact .cons (h.imp dO.of fX.of) e ih
def IC(K:FG)(F H:Hp)(f:O->ao (O×O))(π:List Nat)(x:V)(o' res:O)(A:List ak):Prop:=∃v c c' Ac B,uW H Ac x π v/\ah K F H [some v] [some c] Ac/\(∃ps,c=.lst ps)/\f c=some (c',res)/\A.Perm (Ac++B)/\
   ∀F' H' A',aF F F'->(∀a u,a∉Ac->H a=some u->H' a=some u)->ah K F' H' [some v] [some c'] A'->∃D,ah K F' H' [some x] [some o'] D/\aB D (A'++B)
def O9{f:O->ao (O×O)}{π:List Nat}{x:V}{a:ak}{ws:List V}{os:List O}{c0 d res:O}{Ap:List ak}{j:Nat}{N:List O->O}(nd:(a::Ap).Nodup)(ch:ah K F H (ws.map some) (os.map some) Ap)(q1:os[j]?=some c0)
  (ih:∀{y A},ah K F H [some y] [some c0] A->A.Nodup->IC K F H f π y d res A) (hx:∀{y v zs},ws[j]?=some y->a∉zs->uW H zs y π v->uW H zs x (j::π) v)
  (mk:∀{F' H' D},(∀u,H a=some u->H' a=some u)->ah K F' H' (ws.map some) ((os.set j d).map some) D->ah K F' H' [some x] [some (N (os.set j d))] (a::D++[])):IC K F H f (j::π) x (N (os.set j d)) res (a::Ap):=by
 obtain⟨na,M7⟩:=ib.mp nd;obtain⟨y,Ay,B1,g1,g2,g3,g4⟩:=Vf ch q1;have xh:(Ay++B1).Nodup:=g3.nodup_iff.mp M7;obtain⟨v,c,c',Ac,B2,k1,k2,k3,k4,k5,k6⟩:=ih g2 (jk.mp xh).1;have rG:∀b∈Ac,b∈Ay:=λb m=>k5.mem_iff.mpr (g_ _ m)
 have ha:a∉Ac:=λz=>na (g3.mem_iff.mpr (g_ _ (rG a z)))
 refine⟨v,c,c',Ac,a::(B2++B1),hx g1 ha k1,k2,k3,k4,?_,λF' H' A' sf kp w=>?_⟩
 .refine((g3.trans (k5.append_right _)).cons a).trans ?_;rw[fE];exact NS.symm
 .obtain⟨D,w1,w2⟩:=k6 F' H' A' sf kp w;obtain⟨D2,w3,w4⟩:=g4 F' H' d D sf (λb m u e=>kp b u (λz=>(jk.mp xh).2.2 b (rG b z) b m rfl) e) w1
  refine⟨a::D2++[],mk (λu=>kp a u ha) w3,?_⟩
  rw[jq];have s1:aB D2 (A'++(B2++B1)):=w4.trans (by rw[<-fE];exact w2.app (aB.refl B1))
  obtain⟨L,p1,p2⟩:=s1;exact aB.trans ⟨a::L,p1.cons a,p2.cons_cons a⟩ (.bD NS.symm)
def O_{f:O->ao (O×O)}{os:List O}{N:List O->O}{j:Nat}{π:List Nat}{o' res:O}(e:((os[j]?).bind λc=>(lh f c π).bind λz=>some (N (os.set j z.1),z.2))=some (o',res)):∃c0 d,os[j]?=some c0/\lh f c0 π=some (d,res)/\o'=N (os.set j d):=by
 obtain⟨c,q1,e⟩:=eE.1 e;obtain⟨z,q2,e⟩:=eE.1 e;cases e;exact⟨c,_,q1,q2,rfl⟩
def O'{f:O->ao (O×O)}{π:List Nat}:∀{x:V} {o o' res:O} {A:List ak},ah K F H [some x] [some o] A->A.Nodup->lh f o π=some (o',res)->IC K F H f π x o' res A:=by
 induction π with
 |nil=>
  intro x o o' res A h nd e;cases o with
  |lst ps=>exact⟨x,_,o',A,[],.nil,h,⟨ps,rfl⟩,e,by rw[jq],λF' H' A' _ _ w=>⟨A',w,by rw[jq];exact aB.refl _⟩⟩
  |_=>cases e
 |cons j π ih=>
  intro x o o' res A h nd e;cases o with
  |tup os=>
   obtain⟨c0,d,q1,q2,rfl⟩:=O_ (N:=.tup) e;cases h with
   |@tup a ws _ Ap B0 _ _ hl ch t=>
    have eB:B0=[]:=by cases t;rfl
    subst eB;rw[jq] at nd ⊢;exact O9 nd ch q1 (λh n=>ih h n q2) (λg1 z k1=>.cons (.inr hl) z g1 k1) λkp w=>.tup (kp _ hl) w .nil
  |lst os=>
   obtain⟨c0,d,q1,q2,rfl⟩:=O_ (N:=.lst) e;cases h with
   |@lst a ws _ Ap B0 _ _ hl ch t=>
    have eB:B0=[]:=by cases t;rfl
    subst eB;rw[jq] at nd ⊢;exact O9 nd ch q1 (λh n=>ih h n q2) (λg1 z k1=>.cons (.inl hl) z g1 k1) λkp w=>.lst (kp _ hl) w .nil
  |_=>cases e
end
section
variable{X:Cx}{K:FG}{o e:Expr}{es:List Expr}{i:Nat}{π:List Nat}{t:TA}{name:Str}{apos cu:Pos}{id:String}{r:V->List V->Hp->VK->Prop}{g:O->List O->ao (O×O)}{ds:List D}{vs:List V}
end
def mM(M:GM)(fs:GA):GE:=λQ0=>(fs Q0).bind λp=>(gd p.2 p.1).bind λos=>(M ((O.dl os).map .Y)).bind λr=>match r.1 with
 |.Y d=>(oV d).bind λ_=>some (.own (.Y d),p.2)
 |_=>none
section
variable{K:FG}
def Xc{F H:Hp}(le:aF F H){vs:List V}{os:List O}(h:mH K F H vs os):aw K H vs (O.dl os):=by
 unfold mH at h
 induction h with
 |nil=>exact .nil
 |cons p t ih=>obtain⟨B,h⟩:=p;exact .cons (qL le h) ih
def Vg{M:GM}{fs:GA}{Q0 ax:Gm}{r:R}(e:mM M fs Q0=some (r,ax)):∃rs os d fin v,fs Q0=some (rs,ax)/\gd ax rs=some os/\M ((O.dl os).map .Y)=some (.Y d,fin)/\oV d=some v/\r=.own (.Y d):=by
 unfold mM at e;cases q1:fs Q0 with
 |none=>rw[q1] at e;cases e
 |some p=>
  rw[q1] at e;dsimp only[Option.bind] at e;cases q2:gd p.2 p.1 with
  |none=>rw[q2] at e;cases e
  |some os=>
   rw[q2] at e;dsimp only at e;cases q3:M ((O.dl os).map .Y) with
   |none=>rw[q3] at e;cases e
   |some z=>
    obtain⟨o,fin⟩:=z;rw[q3] at e;dsimp only at e;cases o with
    |Y d=>
     dsimp only at e;cases q4:oV d with
     |none=>rw[q4] at e;cases e
     |some v=>rw[q4] at e;cases e;exact⟨p.1,os,d,fin,v,rfl,q2,q3,q4,rfl⟩
    |_=>cases e
variable{X:Cx}{k n:Nat}{f:ak}{fd:lY}{ps:List Str}{x:Str}{p pos:Pos}{e:Expr}{es:List Expr}{fs:GA}{st:Stmt}{M:GM}
def Xd{Z:St}{H:Hp}{Q:VK}(t:tG K (mM M fs) Z H Q)(hn:∀rs Q0 ax,fs Q0=some (rs,ax)->rs.length=n):qA (fJ K n M) [] E0 (jY K fs) Z H Q:=by
 obtain⟨F,A,Q0,rr,ax,k,e,w⟩:=t;obtain⟨rs,os,d,fin,v0,e1,e2,e3,e4,rfl⟩:=Vg e;refine⟨F,A,Q0,rs,ax,k,e1,λvs H1 pp=>?_⟩
 show fJ K n M (vs++[]) H1 Q E0;rw[jq];obtain⟨F1,le,fD,res⟩:=pp.res e2 w;obtain⟨_,_,_,_,hh⟩:=pp;refine⟨by rw[<-hh.length];exact hn rs Q0 ax e1,H1,[],(O.dl os).map .Y,.Y d,fin,⟨aF.refl _,E9 (Xc le fD),.nil,λ_ m=>by cases m⟩,e3,λv H' pc=>?_⟩
 obtain⟨F5,A5,x5,k5⟩:=pc;have s:aF H1 H':=λa o e=>x5.keep a o e (by simp)
 have ev:v=v0:=by
  obtain⟨B,C,h1,_⟩:=k5.os.one;exact ju h1 e4
 subst ev;exact res v H' [] s (.Y (.flat e4 .nil) .nil) .nil (λ_ m=>by cases m)
def rV(D:bS X.K X.mg x st f fd ps)(Fn:bR X.prog X.w X.K X.mg X.base eZ k f fd ps (fJ K n M))(hr:eG k X.A)(ha:PA X (e::es) (jY K fs))(hn:∀rs Q0 ax,fs Q0=some (rs,ax)->rs.length=n)(hg:Gl X x:=by rfl)(pD:(x == ("__debug__":Str))=false:=by decide)
  (he:starEach (e::es) X.env=(false,eval e X.env)::starEach es X.env:=by rfl) (ka:(backTo pos (starEach es X.env)).any (·.1)=false:=by rfl) :
  PE X (.Call (.Name x p) (e::es) [] pos) (tG K (mM M fs)):=(xj D Fn hr ha hg pD he ka).mono λ_ _ _ t=>Xd t hn
def YO{P:fO}{w:eK}{mg:Str->ao aq}{base:cS}{k:Nat}{f:ak}{fd:lY}{ps:List Str}{M:GM}(F:bR P w K mg base eZ k f fd ps (fJ K 1 M))(h:∀ns:List Int,ns.length<=63->∃fin,M [.Y (.eY ns)]=some (.Y (.bl true),fin)):
  bR P w K mg base eZ k f fd ps (λvs H Q _=>∃(a:ak) (ns:List Int),vs=[.ref a]/\dO K H a (ns.map V.int)/\ns.length<=63/\∀H',Q (.bl true) H'):=F.imp λvs H Q E q=>by
 obtain⟨a,ns,rfl,hS,hl,q⟩:=q;obtain⟨fin,e⟩:=h ns hl;refine⟨rfl,H,[],[.Y (.eY ns)],_,fin,⟨aF.refl _,.Y (.eY hS .nil) .nil,.nil,λ_ m=>by cases m⟩,e,λv H' pc=>?_⟩
 obtain⟨F5,A5,x5,k5⟩:=pc;obtain⟨B,C,h1,_⟩:=k5.os.one;cases ju h1 rfl;exact q H'
end
end L2
namespace L2
open PySem
open Lean Meta in
simproc_decl ag (Option.bind _ _):=λe=>do
 let a:=e.getAppArgs
 unless a.size == 4 do return .continue
 let r0 <-Simp.simp a[2]!
 let r:={ r0 with expr:=(<-instantiateMVars r0.expr).cleanupAnnotations.headBeta}
 let pr <-match r.proof? with
  |none=>pure none
  |some p=>pure (some (<-mkCongrArg (.lam `z (<-inferType a[2]!) (mkApp4 e.getAppFn a[0]! a[1]! (.bvar 0) a[3]!) .default) p))
 if r.expr.isAppOfArity ``Option.some 2 then
  return .visit { expr:=(mkApp a[3]! r.expr.appArg!).headBeta,proof?:=pr}
 if r.expr.isAppOfArity ``Option.none 1 then
  return .done { expr:=mkApp (.const ``Option.none (e.getAppFn.constLevels!.drop 1)) a[1]!,proof?:=pr}
 return .done { expr:=mkApp4 e.getAppFn a[0]! a[1]! r.expr a[3]!,proof?:=pr}
open Lean Meta in
simproc_decl evMap (Option.map _ _):=λe=>do
 let a:=e.getAppArgs
 unless a.size == 4 do return .continue
 let r0 <-Simp.simp a[3]!
 let r:={ r0 with expr:=(<-instantiateMVars r0.expr).cleanupAnnotations.headBeta}
 let pr <-match r.proof? with
  |none=>pure none
  |some p=>pure (some (<-mkCongrArg (.lam `z (<-inferType a[3]!) (mkApp4 e.getAppFn a[0]! a[1]! a[2]! (.bvar 0)) .default) p))
 if r.expr.isAppOfArity ``Option.some 2 then
  return .visit { expr:=mkApp2 (.const ``Option.some (e.getAppFn.constLevels!.drop 1)) a[1]! (mkApp a[2]! r.expr.appArg!).headBeta,proof?:=pr}
 if r.expr.isAppOfArity ``Option.none 1 then
  return .done { expr:=mkApp (.const ``Option.none (e.getAppFn.constLevels!.drop 1)) a[1]!,proof?:=pr}
 return .done { expr:=mkApp4 e.getAppFn a[0]! a[1]! a[2]! r.expr,proof?:=pr}
section
variable(f g h:GS)(fa fb fc:GE)(fs:GA)(ft gt:GT)(lo hi:GO)(Q0:Gm)(i n:Nat)(o:O)(d:D)(ds:List D)(os:List O)(gg:GG)(M:GM)(op:List O->ao O)(mu:O->List O->ao (O×O))(c:List O->O)
theorem dh:aT f g Q0=(f Q0).bind λp=>match p.1 with
 |.nx=>g p.2
 |.bk=>some (.bk,p.2)
 |.ct=>some (.ct,p.2)
 |.rt o=>some (.rt o,p.2):=rfl
def dU:bw Q0=some (.nx,Q0):=rfl
theorem eU:av i fa Q0=(fa Q0).bind λp=>match p.1 with
 |.own o=>if i<p.2.length then some (.nx,p.2.set i (some o)) else none
 |.var _=>none:=rfl
theorem eV:aP fa Q0=(fa Q0).bind λp=>match p.1 with
 |.own o=>some (.rt o,p.2)
 |.var _=>none:=rfl
def jJ:jv fa Q0=(fa Q0).bind λp=>some (.nx,p.2):=rfl
def dW:cf ft f g Q0=(ft Q0).bind λp=>if p.1=true then f p.2 else g p.2:=rfl
theorem u9:iw fa fb fc Q0=(fa Q0).bind λp=>(fb p.2).bind λq=>(fc q.2).bind λr=>match p.1,q.1,r.1 with
 |.own v,.var i,.own y=>match r.2[i]? with
  |some (some o)=>(kj o [v,y]).bind λz=>some (.nx,r.2.set i (some z.1))
  |_=>none
 |_,_,_=>none:=rfl
theorem oW:dQ fa gg f Q0=(ay fa Q0).bind λp=>match p.1 with
 |.own (.Y (.lst ds))=>gj gg f ds p.2
 |_=>none:=rfl
def GY:zw fs gg f Q0=(fs Q0).bind λp=>(jg p.1).bind λj=>gj gg f (fU 0 j.toNat) p.2:=rfl
def Lq:BI fs gg f Q0=(fs Q0).bind λp=>(kg p.1).bind λj=>gj gg f (fU j.1 (j.2 - j.1).toNat) p.2:=rfl
def bP:gC d Q0=some (.own (.Y d),Q0):=rfl
theorem bj:aa i Q0=match Q0[i]? with
 |some (some (.Y d))=>some (.own (.Y d),Q0)
 |some (some _)=>some (.var i,Q0)
 |_=>none:=rfl
theorem cO:ay fa Q0=(fa Q0).bind λp=>match p.1 with
 |.own o=>some (.own (.Y o.d),p.2)
 |.var i=>match p.2[i]? with
  |some (some o)=>some (.own (.Y o.d),p.2.set i (some (.Y o.d)))
  |_=>none:=rfl
theorem rZ:fw fa Q0=(fa Q0).bind λp=>match p.1 with
 |.own o=>some (.own o,p.2)
 |.var i=>match p.2[i]? with
  |some (some o)=>some (.own o,p.2.set i none)
  |_=>none:=rfl
def br:gN Q0=some ([],Q0):=rfl
def bq:aj fa fs Q0=(fa Q0).bind λp=>(fs p.2).bind λq=>some (p.1::q.1,q.2):=rfl
def bH:gO op fs Q0=(fs Q0).bind λp=>(gd p.2 p.1).bind λos=>(op os).bind λo=>some (.own o,p.2):=rfl
def eQ:bg c fs Q0=(fs Q0).bind λp=>if p.1.length<=1000 then(fy p.1).bind λos=>some (.own (c os),p.2) else none:=rfl
def E':zS Q0=some (.own (.aL []),Q0):=rfl
theorem cU:gT fa Q0=(fa Q0).bind λp=>match p.1 with
 |.own (.Y (.bl b))=>some (b,p.2)
 |_=>none:=rfl
def jn:dE fa Q0=(fa Q0).bind λp=>(kl p.2 p.1).bind λo=>(pS o).bind λb=>some (b,p.2):=rfl
def lM:de ft Q0=(ft Q0).bind λp=>some (!p.1,p.2):=rfl
def lN:gH ft gt Q0=(ft Q0).bind λp=>if p.1=true then gt p.2 else some (false,p.2):=rfl
def wB:jx ft gt Q0=(ft Q0).bind λp=>if p.1=true then some (true,p.2) else gt p.2:=rfl
def yp:As ft fa fb Q0=(ft Q0).bind λp=>if p.1=true then fa p.2 else fb p.2:=rfl
def Ki:l_ fa fb Q0=(gT fa Q0).bind λp=>if p.1=true then fb p.2 else gC (.bl false) p.2:=rfl
def YQ:sI fa Q0=(gT fa Q0).bind λp=>gC (.bl (!p.1)) p.2:=rfl
def gP:aK M fs Q0=(fs Q0).bind λp=>(pe p.1 p.2).bind λq=>(M q.1).bind λr=>some (.own r.1,rq p.1 r.2 q.2):=rfl
theorem lO:gb mu fa fs Q0=(fa Q0).bind λp=>match p.1 with
 |.var i=>match p.2[i]? with
  |some (some (.lst _))=>(fs p.2).bind λq=>(fy q.1).bind λos=>match q.2[i]? with
   |some (some o)=>(mu o os).bind λz=>some (.own z.2,q.2.set i (some z.1))
   |_=>none
  |_=>none
 |_=>none:=rfl
def zK:wA Q0=some (none,Q0):=rfl
def zL:u7 fa Q0=(fa Q0).bind λp=>(vx p.1).map λi=>(some i,p.2):=rfl
def zy:uw fa lo hi Q0=(fa Q0).bind λp=>(lo p.2).bind λq=>(hi q.2).bind λr=>(kl r.2 p.1).bind λo=>(rL o q.1 r.1).bind λo'=>some (.own o',r.2):=rfl
def oT(src:Gm->ao (List D×Gm))(k:Nat)(cap:List Nat):kT src gg ft fa k cap Q0=(src Q0).bind λp=>
 (compLoop gg ft fa p.1 (List.replicate k none++(cM cap p.2).1) []).bind λq=>if q.2.length=k+cap.length then some (.own (.lst q.1),ux cap (q.2.drop k) (cM cap p.2).2) else none:=rfl
theorem wq:km fa Q0=(ay fa Q0).bind λp=>match p.1 with
 |.own (.Y (.lst ds))=>some (ds,p.2)
 |_=>none:=rfl
def PZ:mD fs Q0=(fs Q0).bind λp=>(jg p.1).map λj=>(fU 0 j.toNat,p.2):=rfl
def JG:qw fs Q0=(fs Q0).bind λp=>(kg p.1).map λj=>(fU j.1 (j.2 - j.1).toNat,p.2):=rfl
def uy:fL Q0=some (true,Q0):=rfl
def gw:bu i d Q0=if i<Q0.length then some (Q0.set i (some (.Y d))) else none:=rfl
def Fw(gs:List GG):fP gs (.tup ds) Q0=iu gs ds Q0:=rfl
def Fb:iu [] [] Q0=some Q0:=rfl
def Fc(gs:List GG):iu (gg::gs) (d::ds) Q0=(gg d Q0).bind λaH=>iu gs ds aH:=rfl
def gk(m:List Bool):runM n m f os=(f (os.map some++List.replicate (n - os.length) none)).bind λp=>p.1.val.bind λo=>if p.2.length=n then some (o,gI m (p.2.take os.length)) else none:=rfl
def Xe:gj gg f [] Q0=some (.nx,Q0):=rfl
theorem BN:gj gg f (d::ds) Q0=(gg d Q0).bind λaH=>(f aH).bind λq=>match q.1 with
 |.nx=>gj gg f ds q.2
 |.ct=>gj gg f ds q.2
 |.bk=>some (.nx,q.2)
 |.rt o=>some (.rt o,q.2):=rfl
def Gd:compLoop gg ft fa [] Q0 os=some (os,Q0):=rfl
def Ge:compLoop gg ft fa (d::ds) Q0 os=(gg d Q0).bind λaH=>(ft aH).bind λp=>if p.1=true then
   (fa p.2).bind λq=>(fy [q.1]).bind λy0=>if os.length<1000000 then compLoop gg ft fa ds q.2 (os++y0) else none
  else compLoop gg ft fa ds p.2 os:=rfl
def V0:rL (.Y (.lst ds)) l u=some (.lst ((cutD ds l u).map .Y)):=rfl
def V1(z:Str):rL (.Y (.str z)) l u=if z.length<=1000000 then some (.Y (.str (Txt.slice z l u))) else none:=rfl
def e5r:dY (.Y (.lst ds))=some ds:=rfl
def KH:dY (.lst (ds.map .Y))=some ds:=xR ds
def Gf:dY (.lst os)=kf os:=rfl
def KI:kf []=some []:=rfl
def KJ:kf (.Y d::os)=(kf os).bind λds=>some (d::ds):=rfl
def iG(a b:Int):bY [.Y (.int a),.Y (.int b)]=some (.Y (.int (a+b))):=rfl
def YR(a b:Str):bY [.Y (.str a),.Y (.str b)]=if a.length+b.length<=1000000 then some (.Y (.str (a++b))) else none:=rfl
def Fx(a b:List O):bY [.lst a,.lst b]=(dY (.lst a)).bind λxs=>(dY (.lst b)).bind λys=>if xs.length+ys.length<=1000000 then some (.lst ((xs++ys).map .Y)) else none:=rfl
def Xf(a:List D)(b:List O):bY [.Y (.lst a),.lst b]=(dY (.lst b)).bind λys=>if a.length+ys.length<=1000000 then some (.lst ((a++ys).map .Y)) else none:=rfl
def iI(C:Int->Int->Bool)(q:Int->Int->D)(a b:Int):ot C q [.Y (.int a),.Y (.int b)]=if C a b=true then some (.Y (q a b)) else none:=rfl
def zM(a b:Int):gK [.Y (.int a),.Y (.int b)]=if(-(2^64)<a/\a<2^64)\/(-(2^64)<b/\b<2^64) then some (.Y (.int (a*b))) else none:=rfl
def Fy(a:Str)(b:Int):gK [.Y (.str a),.Y (.int b)]=if MulOk a b then some (.Y (.str (Txt.mul a b))) else none:=rfl
def RT(a:Int):tq [.Y (.int a)]=some (.Y (.int (-a))):=rfl
def cQ(a:O):bt [a,.Y d]=dN a d:=rfl
def lP(k:Int):dN (.Y (.lst ds)) (.int k)=(dq ds k).map .Y:=rfl
def jK(k:Int):dN (.Y (.tup ds)) (.int k)=(dq ds k).map .Y:=rfl
def KL(k:Int):dN (.lst os) (.int k)=(dq os k).bind jE:=rfl
def Gg(z:Str)(k:Int):dN (.Y (.str z)) (.int k)=if z.length<=1000000 then(dq z.cps.toList k).map λc=>.Y (.str ⟨#[c]⟩) else none:=rfl
def JH:jE (.Y d)=some (.Y d):=rfl
def yi(a:O):cC [a]=(vA a.d).map λn=>.Y (.int n):=rfl
def zN:vA (.lst ds)=some (ds.length:Int):=rfl
def nU(a b:O):oEq [a,b]=if cJ 40 a.d=true/\cJ 40 b.d=true then some (.Y (.bl (bh a.d b.d))) else none:=rfl
def KN(a b:Int):oEq [.Y (.int a),.Y (.int b)]=some (.Y (.bl (a == b))):=by
 unfold oEq;simp[O.d,cJ,bh]
def e5s(a:Bool):ou [.Y (.bl a)]=some (.Y (.int (if a then 1 else 0))):=rfl
def Kj(ps:List O)(v:O)(k:Int):kj (.lst ps) [v,.Y (.int k)]=(o5 ps.length k).map λj=>(.lst (ps.set j v),.Y .bL):=rfl
def gL:pe [] Q0=some ([],Q0):=rfl
def gM(rs:List R):pe (.own o::rs) Q0=(pe rs Q0).bind λp=>some (o::p.1,p.2):=rfl
theorem kr(rs:List R):pe (.var i::rs) Q0=match Q0[i]? with
  |some (some o)=>(pe rs (Q0.set i none)).bind λp=>some (o::p.1,p.2)
  |_=>none:=rfl
def iJ(fin:Gm):rq [] fin Q0=Q0:=by cases fin <;> rfl
def iK(rs:List R)(x:ao O)(fin:Gm):rq (.own o::rs) (x::fin) Q0=rq rs fin Q0:=rfl
def lF(rs:List R)(x:ao O)(fin:Gm):rq (.var i::rs) (x::fin) Q0=(rq rs fin Q0).set i x:=rfl
def bF:gd Q0 []=some []:=rfl
def bG(r:R)(rs:List R):gd Q0 (r::rs)=(kl Q0 r).bind λo=>(gd Q0 rs).bind λos=>some (o::os):=rfl
def bC:kl Q0 (.own o)=some o:=rfl
def j7:kl Q0 (.var i)=(Q0[i]?).join:=rfl
def dX:fy []=some []:=rfl
def eS(rs:List R):fy (.own o::rs)=(fy rs).bind λos=>some (o::os):=rfl
def zO(k:Int):vx (.own (.Y (.int k)))=some k:=rfl
def r_(m:List Bool)(x:ao O):gI (true::m) (x::Q0)=x::gI m Q0:=rfl
def gy(m:List Bool)(x:ao O):gI (false::m) (x::Q0)=none::gI m Q0:=rfl
def gn(m:List Bool):gI m []=[]:=by
 cases m with
 |nil=>rfl
 |cons b m=>cases b <;> rfl
def gG:(Fl.rt o).val=some o:=rfl
def SK:Fl.nx.val=some (.Y .bL):=rfl
def jQ(b:Bool):pS (.Y (.bl b))=some b:=rfl
def QO:pS (.Y (.lst ds))=some (!ds.isEmpty):=rfl
def bT:(O.Y d).d=d:=rfl
def jL:(O.lst os).d=.lst (O.dl os):=rfl
def h_:(O.tup os).d=.tup (O.dl os):=rfl
def fm:O.dl []=[]:=rfl
def fq:O.dl (o::os)=o.d::O.dl os:=rfl
def r9:O.dl (ds.map .Y)=ds:=pq ds
end
def lA{α:Type}(a:α)(l:List α):dq (a::l) 0=some a:=nO (j:=0) rfl
def mJ{α:Type}(a b:α)(l:List α):dq (a::b::l) 1=some b:=nO (j:=1) rfl
def JI{α:Type}(a b c:α)(l:List α):dq (a::b::c::l) 2=some c:=nO (j:=2) rfl
def zA{α:Type}(a b c d:α)(l:List α):dq (a::b::c::d::l) 3=some d:=nO (j:=3) rfl
def JJ{α:Type}(a b c d e:α)(l:List α):dq (a::b::c::d::e::l) 4=some e:=nO (j:=4) rfl
def V2(ns:List Int)(l u:ao Int):rL (.Y (.eY ns)) l u=some (.lst ((cutD (ns.map D.int) l u).map .Y)):=rfl
def ph(Q0:Gm):cM [] Q0=([],Q0):=rfl
def u0(i:Nat)(cap:List Nat)(Q0:Gm):cM (i::cap) Q0=((Q0[i]?).join::(cM cap (Q0.set i none)).1,(cM cap (Q0.set i none)).2):=rfl
def pj(x Q0:Gm):ux [] x Q0=Q0:=by cases x <;> rfl
def u3(i:Nat)(cap:List Nat)(x:ao O)(ly Q0:Gm):ux (i::cap) (x::ly) Q0=(ux cap ly Q0).set i x:=rfl
theorem rh(M:GM)(fs:GA)(Q0:Gm):mM M fs Q0=(fs Q0).bind λp=>(gd p.2 p.1).bind λos=>(M ((O.dl os).map .Y)).bind λr=>match r.1 with
 |.Y d=>(oV d).bind λ_=>some (.own (.Y d),p.2)
 |_=>none:=rfl
def YS(a:Str):oV (.str a)=some (.str a):=rfl
def uq(a:Bool):oV (.bl a)=some (.bl a):=rfl
def oU(n:Nat)(a:Int):cJ n (.int a)=true:=by cases n <;> rfl
def p7(n:Nat)(a:Str):cJ n (.str a)=true:=by cases n <;> rfl
def YT(n:Nat)(a:Bool):cJ n (.bl a)=true:=by cases n <;> rfl
def qb(a b:Int):bh (.int a) (.int b)=(a == b):=by unfold bh;rfl
def Ck(a b:Str):bh (.str a) (.str b)=(a == b):=by unfold bh;rfl
end L2
namespace L2
open PySem PySem.Spec PyProof.Rows
section
variable{X:Cx}{ae:List (ak×Obj)}{s:az}{Z:St}{H:Hp}
def e5u(I:Inv X ae Z H s){n m:Nat}{A:dZ}{x y:V}{u v:aq}{d e:D}(rd:aw X.K H [x] [d])(re:aw X.K H [y] [e])(od:cJ n d=true)(oe:cJ m e=true)(ru:RelV x u)(rv:RelV y v)(hu:A.units+n<cLine):SeqAt.RcNeAt A s u v (!bh d e):=by
 have dF:A.units<cLine:=by lia
 have s1:=FZ I rd ru od;have s2:=FZ I re rv oe;cases s1 with
 |none=>
  cases s2 with
  |none=>
   simp only[bh];exact SeqAt.RcNeAt.none_none
  |bool a2=>
   simp only[bh];exact SeqAt.RcNeAt.none_bool a2
  |int a2 t2=>
   simp only[bh];exact SeqAt.RcNeAt.none_int a2 t2
  |str a2 t2=>
   simp only[bh];exact SeqAt.RcNeAt.none_str a2 t2
  |list l2 v2 r2=>
   simp only[bh];exact SeqAt.RcNeAt.none_list l2 dF
  |tuple l2 v2 r2=>
   simp only[bh];exact SeqAt.RcNeAt.none_tuple l2 dF
 |bool a1=>
  cases s2 with
  |none=>
   simp only[bh];exact SeqAt.RcNeAt.bool_none a1
  |bool a2=>
   simp only[bh];exact SeqAt.RcNeAt.bool_bool a1 a2
  |int a2 t2=>
   simp only[bh];exact SeqAt.RcNeAt.bool_int a1 a2 t2
  |str a2 t2=>
   simp only[bh];exact SeqAt.RcNeAt.bool_str a1 a2 t2
  |list l2 v2 r2=>
   simp only[bh];exact SeqAt.RcNeAt.bool_list a1 l2 dF
  |tuple l2 v2 r2=>
   simp only[bh];exact SeqAt.RcNeAt.bool_tuple a1 l2 dF
 |int a1 t1=>
  cases s2 with
  |none=>
   simp only[bh];exact SeqAt.RcNeAt.int_none a1 t1
  |bool a2=>
   simp only[bh];exact SeqAt.RcNeAt.int_bool a1 t1 a2
  |int a2 t2=>
   simp only[bh];exact SeqAt.RcNeAt.int_int a1 t1 a2 t2
  |str a2 t2=>
   simp only[bh];exact SeqAt.RcNeAt.int_str a1 t1 a2 t2
  |list l2 v2 r2=>
   simp only[bh];exact SeqAt.RcNeAt.int_list a1 t1 l2 dF
  |tuple l2 v2 r2=>
   simp only[bh];exact SeqAt.RcNeAt.int_tuple a1 t1 l2 dF
 |str a1 t1=>
  cases s2 with
  |none=>
   simp only[bh];exact SeqAt.RcNeAt.str_none a1 t1
  |bool a2=>
   simp only[bh];exact SeqAt.RcNeAt.str_bool a1 t1 a2
  |int a2 t2=>
   simp only[bh];exact SeqAt.RcNeAt.str_int a1 t1 a2 t2
  |str a2 t2=>
   simp only[bh];exact SeqAt.RcNeAt.str_str a1 t1 a2 t2
  |list l2 v2 r2=>
   simp only[bh];exact SeqAt.RcNeAt.str_list a1 t1 l2 dF
  |tuple l2 v2 r2=>
   simp only[bh];exact SeqAt.RcNeAt.str_tuple a1 t1 l2 dF
 |list l1 v1 r1=>
  cases s2 with
  |none=>
   simp only[bh];exact SeqAt.RcNeAt.list_none l1 dF
  |bool a2=>
   simp only[bh];exact SeqAt.RcNeAt.list_bool a2 l1 dF
  |int a2 t2=>
   simp only[bh];exact SeqAt.RcNeAt.list_int a2 t2 l1 dF
  |str a2 t2=>
   simp only[bh];exact SeqAt.RcNeAt.list_str a2 t2 l1 dF
  |list l2 v2 r2=>
   rename_i a aG ws es b kh xA l8
   obtain⟨n',rfl,tu⟩:=zG od;obtain⟨m',rfl,tD⟩:=zG oe;have la:=v1.length;have lb:=v2.length;have MM:=r1.length;have MN:=r2.length;simp only[bh];by_cases hl:es.length=l8.length
   .rw[BK aG.toArray.size (by simp only[fI];lia) (by simp only[fI];lia)]
    refine SeqAt.RcNeAt.lists (A:=A) l1 l2 (by simp only[fI];lia) dF λj h1 h2=>?_
    obtain⟨x1,q1,q2,q3⟩:=wz r1 v1 h1;obtain⟨y1,p1,p2,p3⟩:=wz r2 v2 h2;exact(zT I n' m' q2 p2 (wa tu q3) (wa tD p3) q1 p1 (by show A.units+1+n'<cLine;lia)).1
   .rw[BJ hl];exact SeqAt.RcNeAt.lists_lengths (A:=A) l1 l2 (by simp only[fI,bne_iff_ne,ne_eq];lia) dF
  |tuple l2 v2 r2=>
   simp only[bh];exact SeqAt.RcNeAt.list_tuple l1 l2 dF
 |tuple l1 v1 r1=>
  cases s2 with
  |none=>
   simp only[bh];exact SeqAt.RcNeAt.tuple_none l1 dF
  |bool a2=>
   simp only[bh];exact SeqAt.RcNeAt.tuple_bool a2 l1 dF
  |int a2 t2=>
   simp only[bh];exact SeqAt.RcNeAt.tuple_int a2 t2 l1 dF
  |str a2 t2=>
   simp only[bh];exact SeqAt.RcNeAt.tuple_str a2 t2 l1 dF
  |list l2 v2 r2=>
   simp only[bh];exact SeqAt.RcNeAt.tuple_list l1 l2 dF
  |tuple l2 v2 r2=>
   rename_i a aG ws es b kh xA l8
   obtain⟨n',rfl,tu⟩:=zH od;obtain⟨m',rfl,tD⟩:=zH oe;have la:=v1.length;have lb:=v2.length;have MM:=r1.length;have MN:=r2.length;have z:=SeqAt.RcNeAt.tuples (A:=A) (e:=λj=>bh (es.getD j .bL) (l8.getD j .bL)) l1 l2 dF λj h1 h2=>by
    obtain⟨x1,q1,q2,q3⟩:=wz r1 v1 h1;obtain⟨y1,p1,p2,p3⟩:=wz r2 v2 h2;exact(zT I n' m' q2 p2 (wa tu q3) (wa tD p3) q1 p1 (by show A.units+1+n'<cLine;lia)).1
   simp only[bh];by_cases hl:es.length=l8.length
   .rw[BK aG.toArray.size (by simp only[fI];lia) (by simp only[fI];lia)]
    have e1:kh.toArray.size=aG.toArray.size:=by simp only[fI];lia
    rw[e1,Nat.min_self,oS,En] at z;exact z
   .rw[BJ hl];have e1:(aG.toArray.size == kh.toArray.size)=false:=by rw[qD];simp only[fI];lia
    rw[e1,AZ] at z;exact z
end
section
variable{X:Cx}{K:FG}
def DT(K:FG):R2:=λx y H Q=>∃d e,aw K H [x] [d]/\aw K H [y] [e]/\cJ 40 d=true/\cJ 40 e=true/\Q (.bl (!bh d e)) H
def wC(K:FG)(hu:X.A.units+40<cLine)(hK:X.K=K:=by rfl):f_ X (compareOp .NotEq) (DT K):=by
 subst hK;intro ae s Z H x y v u Q I rx ry h;obtain⟨d,e,r1,r2,o1,o2,q⟩:=h;exact(e5u I r1 r2 o1 o2 rx ry hu) X.prog X.w _ _ ⟨.bl _,H,I,rfl,q⟩
def eX:List O->ao O
 |[a,b]=>if cJ 40 a.d=true/\cJ 40 b.d=true then some (.Y (.bl (!bh a.d b.d))) else none
 |_=>none
def wD:cT K (mV (DT K)) eX:=by
 intro F H vs os o Q le fD e res;unfold eX at e;split at e
 .split at e
  .cases e;obtain⟨x,y,B,C,rfl,h1,h2⟩:=fD.two
   rename_i hh
   exact⟨_,_,rfl,_,_,qL le h1,qL le h2,hh.1,hh.2,res.flat rfl⟩
  .cases e
 .cases e
end
end L2
namespace L2
open PySem
variable{g:GG}{ct:GT}{ce:GE}
noncomputable def rW(g:GG)(ct:GT)(ce:GE)(d:D)(Q0:Gm):ao (ao R×Gm):=(g d Q0).bind λaH=>(ct aH).bind λp=>if p.1=true then(ce p.2).bind λq=>some (some q.1,q.2) else some (none,p.2)
theorem Pa{d:D}{ds:List D}{Q0 ax:Gm}{os:List O}{r:ao R}(h:rW g ct ce d Q0=some (r,ax)):
  compLoop g ct ce (d::ds) Q0 os=match r with
   |some r=>(fy [r]).bind λy0=>if os.length<1000000 then compLoop g ct ce ds ax (os++y0) else none
   |none=>compLoop g ct ce ds ax os:=by
 rw[Ge];unfold rW at h;cases e1:g d Q0 with
 |none=>rw[e1] at h;cases h
 |some aH=>
  rw[e1] at h;rw[Option.bind_some] at h ⊢;cases e2:ct aH with
  |none=>rw[e2] at h;cases h
  |some p=>
   rw[e2] at h;rw[Option.bind_some] at h ⊢;by_cases hp:p.1=true
   .rw[aU hp] at h ⊢;cases e3:ce p.2 with
    |none=>rw[e3] at h;cases h
    |some q=>rw[e3] at h;cases h;rfl
   .rw[aY hp] at h ⊢;cases h;rfl
theorem xU{α:Type}{g:GG}{ct:GT}{ce:GE}(St:Gm->Prop)(enc:α->D)(p:α->Bool)(val:α->D):∀(xs:List α) (aE:List D) (Q0:Gm),St Q0->aE.length+xs.length<1000000->
  (∀x∈xs,∀Q0,St Q0->∃ax,rW g ct ce (enc x) Q0=some (if p x=true then some (.own (.Y (val x))) else none,ax)/\St ax)->
  ∃ax,St ax/\compLoop g ct ce (xs.map enc) Q0 (aE.map .Y)=some ((aE++(xs.filter p).map val).map .Y,ax)
 |[],aE,Q0,hS,_,_=>⟨Q0,hS,by rw[qZ,Gd,List.filter_nil,qZ,jq]⟩
 |x::xs,aE,Q0,hS,hl,h=>by
  rw[iZ] at hl;obtain⟨aH,e1,s1⟩:=h x (.head _) Q0 hS;by_cases hp:p x=true
  .rw[aU hp] at e1;rw[dD,Pa e1];obtain⟨cn,s2,e2⟩:=xU St enc p val xs (aE++[val x]) aH s1 (by rw[du,ko];lia) λy hy=>h y (.tail _ hy)
   refine⟨cn,s2,?_⟩;show(if(aE.map O.Y).length<1000000 then compLoop g ct ce (xs.map enc) aH (aE.map O.Y++[O.Y (val x)]) else none)=_
   rw[aU (by rw[bK];lia),List.filter_cons_of_pos hp,dD,show aE++val x::(xs.filter p).map val=aE++[val x]++(xs.filter p).map val by simp,<-e2,iF]
   rfl
  .rw[aY hp] at e1;rw[dD,Pa e1];obtain⟨cn,s2,e2⟩:=xU St enc p val xs aE aH s1 (by lia) λy hy=>h y (.tail _ hy)
   refine⟨cn,s2,?_⟩;rw[List.filter_cons_of_neg hp];exact e2
def zB{α:Type}(St:Gm->Prop)(enc:α->D)(val:α->D)(xs:List α)(Q0:Gm)(hS:St Q0)(hl:xs.length<1000000)
  (h:∀x∈xs,∀Q0,St Q0->∃ax,rW g ct ce (enc x) Q0=some (some (.own (.Y (val x))),ax)/\St ax):∃ax,St ax/\compLoop g ct ce (xs.map enc) Q0 []=some ((xs.map val).map .Y,ax):=by
 obtain⟨ax,s,e⟩:=xU St enc (λ_=>true) val xs [] Q0 hS (by rw[uO];lia) λx hx Q0 nr=>h x hx Q0 nr
 refine⟨ax,s,?_⟩;rw[gu,List.filter_eq_self.mpr (λ_ _=>rfl)] at e
 exact e
def u4(g:GG)(ct:GT)(ce:GE)(d:D)(Q0:Gm):rW g ct ce d Q0=(g d Q0).bind λaH=>(ct aH).bind λp=>if p.1=true then(ce p.2).bind λq=>some (some q.1,q.2) else some (none,p.2):=rfl
def KO(a b:O):eX [a,b]=if cJ 40 a.d=true/\cJ 40 b.d=true then some (.Y (.bl (!bh a.d b.d))) else none:=rfl
def Gh(a b:Int):eX [.Y (.int a),.Y (.int b)]=some (.Y (.bl (!(a == b)))):=by
 unfold eX;simp[O.d,cJ,bh]
def e5v(a b:Str):eX [.Y (.str a),.Y (.str b)]=some (.Y (.bl (!(a == b)))):=by
 unfold eX;simp[O.d,cJ,bh]
def oX(ds:List D)(d:D):lD (.lst (ds.map .Y)) [.Y d]=if ds.length<1000000 then some (.lst ((ds++[d]).map .Y),.Y .bL) else none:=by
 show(if(ds.map O.Y).length<1000000 then _ else _)=_
 rw[bK,iF];rfl
theorem nk{α:Type}{g:GG}{f:GS}(enc:α->D)(P:List α->Gm->Prop):∀(xs pre:List α) (Q0:Gm),P pre Q0->
  (∀q x post Q0,xs=q++x::post->P (pre++q) Q0->∃cn,(g (enc x) Q0).bind f=some (.nx,cn)/\P (pre++q++[x]) cn)->∃ax,gj g f (xs.map enc) Q0=some (.nx,ax)/\P (pre++xs) ax
 |[],pre,Q0,h,_=>⟨Q0,rfl,by rw[jq];exact h⟩
 |x::xs,pre,Q0,h,st=>by
  obtain⟨cn,h2,h3⟩:=st [] x xs Q0 rfl (by rw[jq];exact h)
  rw[jq] at h3;obtain⟨ax,h4,h5⟩:=nk enc P xs (pre++[x]) cn h3 λq y post Q0 e p=>by
   obtain⟨cn,b,c⟩:=st (x::q) y post Q0 (by rw[e];rfl) (by rw[show pre++x::q=pre++[x]++q by simp];exact p)
   exact⟨cn,b,by rw[show pre++[x]++q++[y]=pre++x::q++[y] by simp];exact c⟩
  refine⟨ax,?_,by rw[show pre++x::xs=pre++[x]++xs by simp];exact h5⟩
  rw[dD,BN];cases q:g (enc x) Q0 with
  |none=>rw[q] at h2;cases h2
  |some aH=>
   rw[q] at h2;have h2:f aH=some (.nx,cn):=h2;show(f aH).bind _=_;rw[h2];exact h4
def BO{α:Type}{f:GS}(enc:α->D)(P:Gm->Prop)(xs:List α)(Q0:Gm)(h:P Q0)(st:∀x∈xs,∀Q0,P Q0->∃cn,(g (enc x) Q0).bind f=some (.nx,cn)/\P cn):∃ax,gj g f (xs.map enc) Q0=some (.nx,ax)/\P ax:=
 nk enc (λ_ Q0=>P Q0) xs [] Q0 h λq x post Q0 e p=>st x (by rw[e];simp) Q0 p
def uj(lo:Int)(n:Nat):fU lo n=(List.range n).map λ(k:Nat)=>D.int (lo+(k:Int)):=rfl
end L2
namespace L2
open PySem PySem.Spec PyProof.Rows
section
variable{X:Cx}{K:FG}{fa fk fv:GE}{f:GS}{m:List Bool}{tg l:Expr}{t:TG}{gg:GG}{body:List Stmt}{p0 p1 pos:Pos}
def Cn(fk fv:GE):GE:=λQ0=>(fk Q0).bind λp=>(fv p.2).bind λq=>match p.1,q.1 with
 |.own (.Y dk),.own (.Y dv)=>(cH dk).map λk=>(.own (.aL [(k,.Y dv)]),q.2)
 |_,_=>none
theorem Xg(fk fv:GE)(Q0:Gm):Cn fk fv Q0=(fk Q0).bind λp=>(fv p.2).bind λq=>match p.1,q.1 with
 |.own (.Y dk),.own (.Y dv)=>(cH dk).map λk=>(.own (.aL [(k,.Y dv)]),q.2)
 |_,_=>none:=rfl
def e5w(K:FG)(tk tv:TE):TE:=λZ H Q=>∀p,H p=none->tk Z (upd H p (.dG [] 0)) λx H1=>tv Z H1 λy H2=>∃k:TK,H2 p=some (.dG [] 0)/\aw K H2 [x] [k.d]/\k.ok 8=true/\Q (.ref p) (upd H2 p (.dG [(k,x,y)] 1))
def P0{ek ev:Expr}{tk tv:TE}(hu:X.A.units+41<cLine)(hk:PE X ek tk)(hv:PE X ev tv):PE X (.Dict [some ek] [ev] pos) (e5w X.K tk tv):=by
 intro ae s Z H Q I q;have hn:=I.cX.fresh (cP s.heap.objs.size);have I1:=I.laid (a:=s.heap.objs.size) (o:=.dG [] 0) (h':=s.heap.push { cls:=.type "dict",data:=.dict #[]}) (t':=s.toks) (λ_ _ q=>jN _ q) (cP _) (PR s.heap I.big)
 rw[arm_eval_Dict,zip_pairTrees [some ek] [ev] X.env pos rfl rfl,dictDisplay_pairs _ (by simp[pairTrees]) (by show 1<17;decide)]
 refine aI (wpAny_standAt (aI ?_));unfold subDict;refine aI (wpAny_alloc (aI (nI ?_)));rw[aU (by show 1<=15;decide)]
 refine aI (pairTrees_cons_walk (cL (hk ae _ Z _ _ I1 (q _ hn)) λu s1 hh=>?_))
 obtain⟨x,H1,Uw,rx,q1⟩:=hh;refine cL (hv ae s1 Z H1 _ Uw q1) λw2 s2 hh=>pairTrees_nil_walk ?_
 obtain⟨y,H2,I2,ry,k,e,rk,ok,q2⟩:=hh;refine nI (aI ?_);rw[List.forIn_cons];refine aI (aI (O7 (by lia) I2 ⟨[],0,k,e,.nil,rk,ok,by rw[sizeLine_eq];decide,rfl⟩ rx ry λs' I'=>bz ?_))
 dsimp only;rw[List.forIn_nil];exact bz (bz (bz (bz ⟨.ref _,_,I',rfl,q2⟩)))
def Xh{ek ev:Expr}(hu:X.A.units+41<cLine)(hk:PE X ek (tG K fk))(hv:PE X ev (tG K fv))(hK:X.K=K:=by rfl):PE X (.Dict [some ek] [ev] pos) (tG K (Cn fk fv)):=(P0 hu hk hv).mono λZ H Q t=>by
 subst hK;obtain⟨F,A,Q0,rr,ax,k,e,w⟩:=t;unfold Cn at e;obtain⟨⟨r1,aH⟩,e1,e'⟩:=eE.mp e;clear e;obtain⟨⟨r2,cn⟩,e2,e⟩:=eE.mp e';clear e';dsimp only at e2 e;split at e
 .rename_i dk dv
  obtain⟨key,ek,e⟩:=jP.mp e;cases e;intro p hn;have nA:p∉A:=λm=>k.os.there p m hn
  have s:aF H (upd H p (.dG [] 0)):=uZ hn;have k0:OK X.K F (upd H p (.dG [] 0)) Z Q0 A:=⟨k.le.trans s,k.os.keep (aF.refl _) λa _ o e=>s a o e,k.nd,k.fr⟩
  refine⟨F,A,Q0,_,aH,k0,e1,λx H1 pp=>?_⟩
  obtain⟨F1,A1,x1,k1,hh1⟩:=pp;have k1:OK X.K F1 H1 ([some x]++Z) ([some (.Y dk)]++aH) A1:=k1;obtain⟨C,kC,fr⟩:=k1.frame rfl;refine⟨F1,C,aH,_,ax,kC,e2,λy H2 pp=>?_⟩
  obtain⟨F2,A2,x2,k2,Tu⟩:=pp;obtain⟨A3,x3,k3⟩:=fr _ _ _ _ _ x2 k2;have k3:OK X.K F2 H2 (some x::some y::Z) (some (.Y dk)::some (.Y dv)::ax) A3:=k3;have oM:=x1.trans x3;have Dm:H2 p=some (.dG [] 0):=oM.keep p _ jl nA;obtain⟨B1,C1,o1,o2,q1⟩:=ah.one k3.os;obtain⟨B2,C2,o3,o4,q2⟩:=ah.one o2;have rx:aw X.K F2 [x] [key.d]:=by rw[(nq ek).1];exact rg o1
  have rv:=rg o3;refine⟨key,Dm,rx.mono k3.le,(nq ek).2,w (.ref p) _ ?_⟩;have np:∀a∈A3,a≠p:=λa m z=>by
   subst z;rcases oM.own a m with z|z
   .exact nA z
   .rw[jl] at z;cases z
  have kp:∀a∈A3,∀o,H2 a=some o->upd H2 p (.dG [(key,x,y)] 1) a=some o:=λa m o e=>by rw[cW (np a m)];exact e
  subst q2 q1;have lT:∀a∈C2,a∈B1++(B2++C2):=λa m=>gE _ (gE _ m)
  have Bt:F2 p=none:=by
   cases eF:F2 p with
   |none=>rfl
   |some o=>
    rcases oM.new p (by rw[eF];exact λz=>by cases z) with z|z|z
    .exact bZ (k.le.free hn) z
    .exact bZ z nA
    .rw[jl] at z;cases z
  have DB:=k3.nd;rw[jk] at DB;have TX:=DB.2.1;rw[jk] at TX;refine⟨F2,p::[]++C2,⟨oM.ff,λa o e n=>?_,λa h=>?_,λa h=>?_,λa m=>?_⟩,⟨λa o e=>?_,?_,?_,?_⟩,ig⟩
  .have:=oM.keep a o (s a o e) n;rw[cW (mI e hn)];exact this
  .by_cases z:a=p
   .rw[z,jl];exact λz=>by cases z
   .rw[cW z];exact oM.rE a (λz'=>h (s.free z'))
  .rcases oM.new a h with z|z|z
   .exact .inl z
   .exact .inr (.inl z)
   .exact .inr (.inr (s.free z))
  .rcases eO.mp m with rfl|m
   .exact .inr hn
   .rcases oM.own a (lT a m) with z|z
    .exact .inl z
    .exact .inr (s.free z)
  .have h1:=k3.le a o e;rw[cW (λz=>by rw[z,Bt] at e;cases e)];exact h1
  .exact .aL (A:=[]) (B:=C2) jl rfl rx (.Y rv .nil) (o4.keep (aF.refl _) λa m=>kp a (lT a m))
  .exact ib.mpr ⟨λm=>np p (lT p m) rfl,TX.2.1⟩
  .intro a m;rcases eO.mp m with rfl|m
   .exact Bt
   .exact k3.fr a (lT a m)
 .cases e
end
variable{L A:List ak}{t' x1 n i ep:Nat}{P:fO}{w:eK}{K:FG}{elts:List Expr}{it a:ak}{Src:Hp->Prop}{g:TG}{tb:TS}{Z:St}{H F:Hp}{l tg:Expr}{X:Cx}{Q0:Gm}{Q:ao aq->az->Prop}{ob:Obj}{xs:Array DictEntry}{tl:TE}{es:List (TK×V×V)}
section
variable{X:Cx}{K:FG}{fo f:GE}{fs:GA}{g:List O->ao O}{r:V->List V->Hp->VK->Prop}{o e:Expr}{es:List Expr}{name:Str}{id:String}{apos cu pos:Pos}
def tQ(r:V->List V->Hp->VK->Prop):List V->Hp->VK->Prop:=λvs H Q=>∃x xs,vs=x::xs/\r x xs H Q
noncomputable def lr:List D->ao (List Str)
 |[]=>some []
 |.str x::ds=>(lr ds).map λxs=>x::xs
 |_=>none
theorem Pb:∀xs:List Str,lr (xs.map .str)=some xs
 |[]=>rfl
 |i::is=>by rw[dD];show(lr (is.map .str)).map _=_;rw[Pb is];rfl
theorem Pc:∀{ds:List D} {xs:List Str},lr ds=some xs->ds=xs.map .str
 |[],xs,e=>by cases e;rfl
 |d::ds,xs,e=>by
  cases d with
  |str i=>
   obtain⟨js,e1,e2⟩:=jP.mp (show(lr ds).map _=some xs from e);rw[<-e2,Pc e1];rfl
  |_=>cases e
theorem Ot{F:Hp}:∀{ws:List V} {xs:List Str},aw K F ws (xs.map .str)->ws=xs.map .str
 |[],[],_=>rfl
 |[],_::_,h=>by have:=h.length;simp at this
 |_::_,[],h=>by have:=h.length;simp at this
 |w::ws,i::is,h=>by
  rw[dD] at h;have h1:=h.inv.1;have h2:=Ot h.inv.2;rw[h2,dD];cases h1 with
  |flat e _=>cases e;rfl
theorem OC:∀{xs:List Str} {aG:List aq},Vals (xs.map V.str) aG->∃ps:List (Str×Tok),aG=ps.map (λp=>Value.str p.1 p.2)/\ps.map (·.1)=xs
 |[],aG,h=>by
  rw[qZ] at h;cases h;exact⟨[],rfl,rfl⟩
 |i::is,aG,h=>by
  rw[dD] at h;cases h with
  |cons r t=>
   obtain⟨ps,e1,e2⟩:=OC t;obtain⟨tk,rfl⟩:=r;exact⟨(i,tk)::ps,by rw[e1];rfl,by rw[dD,e2]⟩
end
section
variable{X:Cx}{ae:List (ak×Obj)}{Z:List (ao V)}{H:Hp}{s:az}{h':cS}
def Inv.vS{T:ak}{o:HO}(I:Inv X ae Z H s)(k:∀b ob,b∉L->s.heap.get? b=some ob->h'.get? b=some ob)(hL:∀b∈L,kd X ae H b)(hT:s.heap.objs.size<=T)
  (new:cG X.prog X.w (upd H T o) h' T o):Inv X ae Z (upd H T o) { s with heap:=h',toks:=t'}:=by
 have hn:H T=none:=I.cX.fresh hT;have nL:∀b u,H b=some u->b∉L:=λb u e z=>by rw[(hL b z).1] at e;cases e
 have nT:∀b u,H b=some u->b≠T:=λb u e z=>by rw[z,hn] at e;cases e
 refine I.step (g':=s.gens) (d':=s.drawn) (ch:=L) (λb hb=>?_) (λb ob _ _ hc e _=>k b ob hc e) (λb ob _ _ hc e _=>⟨ob.slots,k b ob hc e⟩) (λb ob _ e n=>?_)
  (λb ob hc e=>⟨ob,k b ob hc e⟩) (λb xs e=>?_) (λb ob u e=>?_) (λb ps e=>⟨#[],?_⟩) (λm hm=>?_) (λb u e=>?_) I.bare
 .obtain⟨f0,f1,f2,f3,f4,f5⟩:=hL b hb;exact⟨f3,f1,f4,f5⟩
 .rw[cW (λz=>by subst z;exact bZ (iP (fW e) hT) (pT _))];exact n
 .rw[cW (nT b _ e)];exact e
 .rw[cW (nT b _ e)];exact e
 .rw[cW (nT b _ e),e];simp
 .obtain⟨ob,es,ep,ho,r⟩:=hm;exact⟨ob,es,ep,k _ ob (λz=>(hL _ z).2.1 rfl) ho,r⟩
 .by_cases hb:b=T
  .subst hb;rw[jl] at e;cases e;exact new
  .rw[cW hb] at e;refine(I.cX b u e).oI (λc v hc q=>k c v ?_ q) (λc q=>by rw[cW (nT c _ q)];exact q) λc xs q=>by rw[cW (nT c _ q)];exact q
   rcases hc with z|z
   .rw[z];exact nL b u e
   .exact nL c _ z
def Inv.Eg(I:Inv X ae Z H s)(k:∀b ob,b∉L->s.heap.get? b=some ob->h'.get? b=some ob)(hL:∀b∈L,kd X ae H b):Inv X ae Z H { s with heap:=h',toks:=t'}:=by
 have nL:∀b u,H b=some u->b∉L:=λb u e z=>by rw[(hL b z).1] at e;cases e
 refine I.step (g':=s.gens) (d':=s.drawn) (ch:=L) (λb hb=>?_) (λb ob _ _ hc e _=>k b ob hc e) (λb ob _ _ hc e _=>⟨ob.slots,k b ob hc e⟩) (λb ob _ e n=>n)
  (λb ob hc e=>⟨ob,k b ob hc e⟩) (λb xs e=>e) (λb ob u e=>e) (λb ps e=>⟨#[],by rw[e];simp⟩) (λm hm=>?_) (λb u e=>?_) I.bare
 .obtain⟨f0,f1,f2,f3,f4,f5⟩:=hL b hb;exact⟨f3,f1,f4,f5⟩
 .obtain⟨ob,es,ep,ho,r⟩:=hm;exact⟨ob,es,ep,k _ ob (λz=>(hL _ z).2.1 rfl) ho,r⟩
 .refine(I.cX b u e).oI (λc v hc q=>k c v ?_ q) (λc q=>q) λc xs q=>q
  rcases hc with z|z
  .rw[z];exact nL b u e
  .exact nL c _ z
end
def zr(Src:Hp->Prop)(n:Nat)(val:Nat->List V->Prop):It:=
 ⟨λi H=>i<n/\Src H,λi H x H'=>∃p ws,x=.ref p/\H p=none/\val i ws/\H'=upd H p (.tup ws),λi H=>n<=i/\Src H⟩
def V3{pos:Pos}{FP wr:List ak}{val:Nat->List V->Prop}{tn:Nat->cS->Prop}(mem:it∈FP)(sub:∀b∈wr,b∈FP)
  (obj:∀i h,tn i h->∀b∈FP,∃o,h.get? b=some o/\∀v,o.data≠.cell v) (keep:∀i h h',tn i h->(∀b∈FP,∀o,h.get? b=some o->h'.get? b=some o)->tn i h')
  (hW:∀(X:Cx),X.prog=P->X.w=w->X.K=K->X.calm=true->∀(ae:List (ak×Obj)) (s:az) (Z:St) (H:Hp),Inv X ae Z H s->Src H->∃(LS:List ak) (Pt:Nat->Array aq->Prop) (St:Nat->cS->Prop) (IB:Nat->ak->cS->Prop),WalksT P w X.A it LS wr n Pt St IB/\(∀i,tn i s.heap->St i s.heap)/\(∀i h,St i h->tn i h)/\∀i vals,Pt i vals->∃ws,val i ws/\Vals ws vals.toList/\ws.length<=10)
  (self:∀(A:dZ) (i:Nat) (s:az) (Q:aq->az->Prop) (E:aq->az->Prop),tn i s.heap->Q (.ref it) s->wpAny (model P w) A (pyIter (.ref it)) Q E s) :
  Turn P w K (.Tuple elts x1 pos) (zr Src n val) FP it (λi h=>i<=n/\tn i h) where
 mem:=mem
 obj:=λi h st=>obj i h st.2
 keep:=λi h h' st k=>⟨st.1,keep i h h' st.2 k⟩
 item:=by
  intro X hP hw hK hc i ae s Z H E I hf st hg;obtain⟨LS,Pt,St,IB,W,toSt,DI,pv⟩:=hW X hP hw hK hc ae s Z H I hg.2;subst hP hw hK;refine W.item i s _ E hg.1 (toSt i st.2) λT vals h1 tk hPt hsz Mf C9 Tw=>?_
  refine⟨.ref T,rfl,W.go elts x1 pos i T _ _ E C9 λh2 hSt AD=>?_⟩
  obtain⟨ws,hv,rv,HG⟩:=pv i vals hPt;have Me:IsTup h2 T vals:=by
   obtain⟨o,e,c⟩:=Mf;exact⟨o,AD T o (W.apart i T h1 C9) e,c⟩
  have hn:H T=none:=I.cX.fresh hsz;have I2:Inv X ae Z (upd H T (.tup ws)) { s with heap:=h2,toks:=tk}:=I.vS (L:=wr) (λb ob hb e=>AD b ob hb (Tw b ob hb e)) (λb hb=>hf b (sub b hb)) hsz ⟨by rw[sizeLine_eq];lia,vals.toList,rv,by simpa using Me⟩
  refine⟨.ref T,_,I2,rfl,⟨T,ws,rfl,hn,hv,rfl⟩,⟨by have:=hg.1;lia,DI _ _ hSt⟩,λb hb=>?_⟩
  have hb0:=(hf b hb).1;rw[cW]
  .exact hb0
  .intro z;subst z;obtain⟨o,e,_⟩:=obj i s.heap st.2 b hb;exact bZ (iP (fW e) hsz) (pT _)
 done:=by
  intro X hP hw hK hc i ae s Z H E I hf st hg;obtain⟨LS,Pt,St,IB,W,toSt,DI,pv⟩:=hW X hP hw hK hc ae s Z H I hg.2;subst hP hw hK;have ei:i=n:=by have:=hg.1;have:=st.1;lia
  subst ei;exact W.done s _ E (toSt i st.2) λh2 tk hk=>⟨rfl,I.Eg (L:=wr) (λb ob hb e=>hk b ob hb e) λb hb=>hf b (sub b hb)⟩
 self:=λA i s Q E st h=>self A i s Q E st.2 h
def Xi{val:Nat->List V->Prop}{D:Ends}(Pv:Nat->St->Hp->Prop)(h0:Pv 0 Z H)(hl:∀i Z H,i<=n->Pv i Z H->Src H)
  (hs:∀i p ws Z H,i<n->H p=none->val i ws->Pv i Z H->g (.ref p) Z (upd H p (.tup ws)) λZ2 H2=>tb { D with nx:=Pv (i+1),ct:=Pv (i+1),bk:=D.nx} Z2 H2) (hd:∀Z H,Pv n Z H->D.nx Z H) :
  ∃W:Nat->Nat->St->Hp->Prop,(∃m,W 0 m Z H)/\∀i m Z H,W i m Z H->
   ((zr Src n val).stop i H/\D.nx Z H)\/((zr Src n val).go i H/\∃N:St->Hp->Prop,(∀Z' H',N Z' H'->∃m',m'<m/\W (i+1) m' Z' H')/\∀x H',(zr Src n val).xC i H x H'->g x Z H' λZ2 H2=>tb { D with nx:=N,ct:=N,bk:=D.nx} Z2 H2):=by
 refine⟨λi m Z H=>m=n - i/\i<=n/\Pv i Z H,⟨n,by simp,kK _,h0⟩,?_⟩
 rintro i m Z H ⟨rfl,hi,p⟩;have q:=hl i Z H hi p;by_cases gZ:i<n
 .refine .inr ⟨⟨gZ,q⟩,Pv (i+1),λZ' H' p'=>⟨n - (i+1),by lia,rfl,gZ,p'⟩,λx H' y=>?_⟩
  obtain⟨pp,ws,rfl,hn,hv,rfl⟩:=y;exact hs i pp ws Z H gZ hn hv p
 .have e:i=n:=by lia
  subst e;exact .inl ⟨⟨cP _,q⟩,hd Z H p⟩
def Xj{h:cS}{l:ak}(p:h.IsListIter a l i):∃o,h.get? a=some o/\∀v,o.data≠.cell v:=by
 obtain⟨o,e,_,d⟩:=p;exact⟨o,e,λv z=>by rw[d] at z;cases z⟩
def Eh(xs:List V)(i:Nat)(ws:List V):Prop:=∃x,xs[i]?=some x/\ws=[.int i,x]
def V4{pos:Pos}{e l:ak}(n1:e≠it)(n2:l≠e)(n3:l≠it)(xs:List V):
  Turn P w K (.Tuple elts x1 pos) (zr (λH=>dO K H l xs) xs.length (Eh xs)) [e,it] e (λi h=>i<=xs.length/\((∃old,IsEnum h e it (i:Int) old)/\h.IsListIter it l i)):=by
 refine V3 (FP:=[e,it]) (wr:=[e,it]) (by simp) (λb hb=>hb) (λi h st b hb=>?_) (λi h h' st k=>?_) (λX hP hw hK hc ae s Z H I hS=>?_) (λA i s Q E st h=>?_)
 .obtain⟨⟨old,s1⟩,s2⟩:=st;simp only[eO,List.not_mem_nil,or_false] at hb;rcases hb with rfl|rfl
  .exact⟨_,s1,λv z=>by cases z⟩
  .exact Xj s2
 .obtain⟨⟨old,s1⟩,s2⟩:=st;exact⟨⟨old,k e (by simp) _ s1⟩,s2.at λo q=>k it (by simp) o q⟩
 .subst hP hw hK;obtain⟨vz,Nj,p1,_⟩:=I.list hS;have e1:=Nj.length;have W:=WalksT.enumerate (prog:=X.prog) (w:=X.w) (A:=X.A) (I.ok.hd hc) e it l n1 n2 n3 vz.toArray;rw[show vz.toArray.size=xs.length by rw[fI,<-e1]] at W
  refine⟨_,_,_,_,W,λi st=>?_,λi h st=>?_,λi vals hp=>?_⟩
  .exact⟨st.1,st.2,p1.isList⟩
  .exact⟨st.1,st.2.1⟩
  .obtain⟨t,u,hu,rfl⟩:=hp;have hu:vz[i]?=some u:=by simpa using hu
   have AB:i<xs.length:=by have:=(e_.mp hu).1;lia
   obtain⟨u',sQ,ru⟩:=Nj.get (ic AB);rw[hu] at sQ;cases sQ;exact⟨[.int i,xs[i]],⟨_,ic AB,rfl⟩,.cons ⟨t,rfl⟩ (.cons ru .nil),by show 2<=10;decide⟩
 .obtain⟨old,s1⟩:=st.1;exact wpAny_pyIter_enum s1 h
def Dp(K:FG)(ta:TA):TI:=λZ H R=>ta Z H λvs H1=>∃a xs,vs=[.ref a]/\dO K H1 a xs/\R (zr (λH=>dO K H a xs) xs.length (Eh xs)) H1
def YU{oK:Pos}{a:Expr}{ta:TA}{p pos:Pos}(hg:Gl X "enumerate")(hm:X.mg "enumerate"=none)(ha:PA X [a] ta)(hs:starEach [a] X.env=[(false,eval a X.env)]:=by rfl):
  PI X (.Tuple elts x1 oK) (.Call (.Name "enumerate" p) [a] [] pos) (Dp X.K ta):=by
 intro ae s Z H R I h;refine Call_ (wt I hg hm PyProof.Rows.Boot.enumerate (PyProof.Rows.callWith_type1 (cL (ha pos ae s Z H _ I h) λus s1 hh=>?_) hs rfl))
 obtain⟨vs,H1,I1,r1,q1⟩:=hh;obtain⟨l1,xs,e,hq1,q⟩:=q1;subst e;cases r1 with
 |cons r rr=>
  cases rr;cases r;obtain⟨vz,Nj,p1,_⟩:=I1.list hq1;refine call_enumerate_list p1.isList λh' z1 z2 z3 z4=>?_
  have L1:l1<s1.heap.objs.size:=by obtain⟨o,n,e,_⟩:=p1;exact fW e
  refine wpAny_pyIter_enum z1 ?_;refine⟨s1.heap.objs.size+1,[s1.heap.objs.size+1,s1.heap.objs.size],_,_,H1,rfl,I1.kept (t':=s1.toks) z4,V4 (e:=s1.heap.objs.size+1) (it:=s1.heap.objs.size) (l:=l1) (Nat.ne_of_gt (by lia)) (lJ (iP L1 (Nat.le_add_right _ _))) (lJ L1) xs,⟨kK _,⟨_,z1⟩,z2⟩,λb hb=>?_,q⟩
  simp only[eO,List.not_mem_nil,or_false] at hb;have Tn:s1.heap.objs.size<=b:=by rcases hb with rfl|rfl <;> lia
  exact I1.sE Tn (I1.cX.fresh Tn)
section
variable{X:Cx}{K:FG}{fa fb:GE}{f:GS}{m:List Bool}{l l':Expr}{elts:List Expr}{x1:Nat}{oK:Pos}{t:TG}{gg:GG}{body:List Stmt}{p0 p1 pos:Pos}
def YV{p:ak}{ws:List V}(k:OK K F H Z Q0 A)(hn:H p=none):OK K (upd F p (.tup ws)) (upd H p (.tup ws)) Z Q0 A/\Ext F H A (upd F p (.tup ws)) (upd H p (.tup ws)) A:=by
 have hF:F p=none:=k.le.free hn;have np:∀a∈A,a≠p:=λa m z=>k.os.there a m (by rw[z];exact hn)
 refine⟨⟨λa o e=>?_,k.os.keep (uZ hF) λa m o e=>by rw[cW (np a m)];exact e,k.nd,λa m=>by rw[cW (np a m)];exact k.fr a m⟩,⟨uZ hF,λa o e _=>uZ hn a o e,λa h z=>h ((uZ hn).free z),λa h=>?_,λa m=>.inl m⟩⟩
 .by_cases z:a=p
  .subst z;rw[jl] at e ⊢;exact e
  .rw[cW z] at e ⊢;exact k.le a o e
 .by_cases z:a=p
  .subst z;exact .inr (.inr hn)
  .rw[cW z] at h;exact .inl h
theorem LI.tup{m:List Bool}{gg:GG}{f:GS}{t:TG}{F1 H1:Hp}{Z:St}{ds es:List D}{i:Nat}{E:Ends}{fl:Fl}{ax:Gm}{p:ak}{us:List V}(q:LI K m gg f E F1 fl ax ds i Z H1)(ht:gv K m t gg)(hn:H1 p=none)(hd:ds[i]?=some (.tup es))(r:aw K F1 us es):
  t (.ref p) Z (upd H1 p (.tup us)) λZ2 H2=>tS K m f { E with nx:=LI K m gg f E F1 fl ax ds (i+1),ct:=LI K m gg f E F1 fl ax ds (i+1),bk:=E.nx} Z2 H2:=by
 obtain⟨F',A',q9,k',e',w',s'⟩:=q;obtain⟨k2,x2⟩:=YV (ws:=us) k' hn;have s2:aF F1 (upd F' p (.tup us)):=s'.trans x2.ff;obtain⟨hi,he⟩:=e_.mp hd;rw[Em hi,he] at e';exact O2 ht k2 (.tup (.inl (.inl jl)) (r.mono s2) .nil) e' (w'.step x2 Kept.refl) λF2 H2 Z2 o_ A2 x3 k3 e3 w3=>⟨F2,A2,o_,k3,e3,w3,s2.trans x3.ff⟩
def j9(ds:List D):List D:=(List.range ds.length).zipWith (λ(i:Nat) d=>D.tup [.int i,d]) ds
def Gi(fa:GE)(gg:GG)(f:GS):GS:=λQ0=>(ay fa Q0).bind λp=>match p.1 with
 |.own (.Y (.lst ds))=>gj gg f (j9 ds) p.2
 |_=>none
theorem YW(fa:GE)(gg:GG)(f:GS)(Q0:Gm):Gi fa gg f Q0=(ay fa Q0).bind λp=>match p.1 with
 |.own (.Y (.lst ds))=>gj gg f (j9 ds) p.2
 |_=>none:=rfl
def YX(hp:PassesOwn (model X.prog X.w) X.A X.env X.xe)(hm:X.mg "enumerate"=none)(hi:PE X l (tG K fa))(hg:PG X (.Tuple elts x1 oK) t)(ht:gv K m t gg)(hb:hU X body (tS K m f))(hc:X.calm=true:=by rfl)(vt:Gl X "enumerate":=by rfl)(rJ:starEach [l] X.env=(false,eval l X.env)::starEach [] X.env:=by rfl)(MA:starEach [l] X.env=[(false,eval l X.env)]:=by rfl)(hK:X.K=K:=by rfl)(hs:∀x,foldedSetIterable (.Call (.Name "enumerate" p0) [l] [] p1) X.env x=pure x:=by intro _;rfl):PS X (.For (.Tuple elts x1 oK) (.Call (.Name "enumerate" p0) [l] [] p1) body [] pos) (tS K m (Gi fa gg f)):=by
 subst hK;refine(ye hp hc (YU vt hm (au (bX hi) aO rJ) MA) hg hb hs).mono λDe Z H tt=>?_
 obtain⟨F,A,Q0,fl,ax,k,e,w⟩:=tt;unfold Gi at e;obtain⟨⟨r1,aH⟩,q1,e'⟩:=eE.mp e;clear e;dsimp only at e';split at e'
 .rename_i ds
  refine⟨F,A,Q0,[.own (.Y (.lst ds))],aH,k,by rw[bq,q1];rfl,λvs H1 pp=>?_⟩
  obtain⟨F1,A1,x,k1,hh⟩:=pp;have hlv:=hh.length;obtain⟨v1,rfl⟩:=SH hlv;obtain⟨rp1,st⟩:=LI.start k1 x w e';obtain⟨a,AS,rfl,Ud,T9⟩:=QB rp1;have hl1:=T9.length;refine⟨a,AS,rfl,.inl (k1.le.rd Ud),Xi (LI X.K m gg f De F1 fl ax (j9 ds)) st (λi Z' H' _ p=>.inl (p.same.rd Ud)) ?_ λZ' H' p=>p.fin (by unfold j9;rw[List.length_zipWith,oR,hl1,Nat.min_self];exact cP _)⟩
  rintro i p ws Z' H' gZ hn ⟨u1,hu1,rfl⟩ q;have AB:i<ds.length:=by lia
  obtain⟨y1,uL,ry1⟩:=T9.get (i:=i) (d:=ds[i]) (ic AB);rw[hu1] at uL;cases uL;exact q.tup ht hn (by unfold j9;rw[List.getElem?_zipWith,NQ AB,ic AB]) (.flat rfl (.cons ry1 .nil))
 .cases e'
end
section
variable{X:Cx}{K:FG}{fa fo:GE}{fs:GA}{f:GS}{m:List Bool}{e o:Expr}{es:List Expr}{tg:Expr}{t:TG}{gg:GG}{pos apos cu:Pos}{name:Str}{HH:String}{g:List O->ao O}{r:V->List V->Hp->VK->Prop}
def qo(gg:GG)(fa:GE):GS:=λQ0=>(ay fa Q0).bind λp=>match p.1 with
 |.own (.Y d)=>(gg d p.2).map λax=>(.nx,ax)
 |_=>none
theorem e5x(gg:GG)(fa:GE)(Q0:Gm):qo gg fa Q0=(ay fa Q0).bind λp=>match p.1 with
 |.own (.Y d)=>(gg d p.2).map λax=>(.nx,ax)
 |_=>none:=rfl
def e5y(he:PE X e (tG K fa))(hg:PG X tg t)(ht:gv K m t gg)(hs:swapsWithSole [tg] e pos.line X.env=pure false:=by rfl)(hw:swappedStores [tg] e X.env=pure none:=by rfl)
  (h1:(assignEach [tg] X.env).map (·.2)=[assign tg X.env]:=by rfl):PS X (.Assign [tg] e pos) (tS K m (qo gg fa)):=(Ky (bX he) hg hs hw h1).mono λDe Z H tt=>by
 obtain⟨F,A,Q0,fl,ax,k,e,w⟩:=tt;unfold qo at e;obtain⟨⟨r1,aH⟩,q1,e'⟩:=eE.mp e;clear e;dsimp only at e';split at e'
 .rename_i d
  obtain⟨cn,q2,e2⟩:=jP.mp e';cases e2;refine⟨F,A,Q0,_,aH,k,q1,λv H1 pp=>?_⟩
  obtain⟨F1,A1,x,k1,hh⟩:=pp;obtain⟨B,C,h1,h2,h3⟩:=ah.one (Z:=Z) (Q0:=aH) k1.os;have rp:=rg h1;subst h3;obtain⟨k2,x2⟩:=k1.sub h2 (.bb (ng _ _));exact ht F1 H1 Z aH ax C v d De.nx k2 rp q2 λZ' A' k3 x3 kp=>w Z' H1 ⟨F1,A',(x.trans x2).trans x3,k3,kp⟩
 .cases e'
noncomputable def yj:List D->ao (List Bool)
 |[]=>some []
 |.bl b::ds=>(yj ds).map λbs=>b::bs
 |_=>none
theorem OD:∀bs:List Bool,yj (bs.map .bl)=some bs
 |[]=>rfl
 |i::is=>by rw[dD];show(yj (is.map .bl)).map _=_;rw[OD is];rfl
theorem OE:∀{ds:List D} {bs:List Bool},yj ds=some bs->ds=bs.map .bl
 |[],bs,e=>by cases e;rfl
 |d::ds,bs,e=>by
  cases d with
  |bl i=>
   obtain⟨js,e1,e2⟩:=jP.mp (show(yj ds).map _=some bs from e);rw[<-e2,OE e1];rfl
  |_=>cases e
theorem OF{F:Hp}:∀{ws:List V} {bs:List Bool},aw K F ws (bs.map .bl)->ws=bs.map .bl
 |[],[],_=>rfl
 |[],_::_,h=>by have:=h.length;simp at this
 |_::_,[],h=>by have:=h.length;simp at this
 |w::ws,i::is,h=>by
  rw[dD] at h;have h1:=h.inv.1;have h2:=OF h.inv.2;rw[h2,dD];cases h1 with
  |flat e _=>cases e;rfl
def yk(q:List Bool->Bool):List O->ao O
 |[o]=>(dY o).bind λds=>(yj ds).bind λbs=>some (.Y (.bl (q bs)))
 |_=>none
def P1(q:List Bool->Bool):cT K (λxs H Q=>∃(a:ak) (bs:List Bool),xs=[.ref a]/\dO K H a (bs.map V.bl)/\Q (.bl (q bs)) H) (yk q):=by
 intro F H vs os o Q le fD e res;unfold yk at e;split at e
 .obtain⟨ds,e1,e2⟩:=eE.mp e;obtain⟨bs,e3,e4⟩:=eE.mp e2;cases e4;obtain⟨x,B,rfl,h1⟩:=fD.one;obtain⟨a,ws,rfl,sq,ri⟩:=xS le h1 e1;rw[OE e3] at ri;have:=OF ri;subst this;exact⟨a,bs,rfl,sq,res.flat rfl⟩
 .cases e
def V5(K:FG)(hc:X.calm=true:=by rfl)(hK:X.K=K:=by rfl):cY X (.builtin "any") (λxs H Q=>∃(a:ak) (bs:List Bool),xs=[.ref a]/\dO K H a (bs.map V.bl)/\Q (.bl (bs.any id)) H):=hK ▸ VN hc
def V6(K:FG)(hc:X.calm=true:=by rfl)(hK:X.K=K:=by rfl):cY X (.builtin "all") (λxs H Q=>∃(a:ak) (bs:List Bool),xs=[.ref a]/\dO K H a (bs.map V.bl)/\Q (.bl (bs.all id)) H):=hK ▸ VM hc
def EZ(q:List Bool->Bool)(bs:List Bool):yk q [.lst ((bs.map D.bl).map .Y)]=some (.Y (.bl (q bs))):=by
 show((dY (.lst ((bs.map D.bl).map .Y))).bind λds=>(yj ds).bind λbs=>some (O.Y (.bl (q bs))))=_
 rw[KH,Option.bind_some,OD,Option.bind_some]
def Co(g:List O->ao O)(fo:GE)(fs:GA):GE:=λQ0=>(fo Q0).bind λp=>match p.1 with
 |.own (.Y (.lst ds))=>(fs p.2).bind λq=>(gd q.2 q.1).bind λos=>(g (.Y (.lst ds)::os)).bind λo=>some (.own o,q.2)
 |_=>none
theorem Xk(g:List O->ao O)(fo:GE)(fs:GA)(Q0:Gm):Co g fo fs Q0=(fo Q0).bind λp=>match p.1 with
 |.own (.Y (.lst ds))=>(fs p.2).bind λq=>(gd q.2 q.1).bind λos=>(g (.Y (.lst ds)::os)).bind λo=>some (.own o,q.2)
 |_=>none:=rfl
def Xl(ok:cT K (tQ r) g){Q:VK}(t:tG K (Co g fo fs) Z H Q):H_ K "list" r (tG K fo) (jY K fs) Z H Q:=by
 obtain⟨F,A,Q0,rr,ax,k,e,w⟩:=t;unfold Co at e;obtain⟨⟨r1,aH⟩,e1,e'⟩:=eE.mp e;clear e;dsimp only at e';split at e'
 .rename_i ds
  obtain⟨⟨rs,cn⟩,e2,e3⟩:=eE.mp e';obtain⟨os,e4,e5⟩:=eE.mp e3;obtain⟨ob,e6,e7⟩:=eE.mp e5;cases e7;refine⟨F,A,Q0,_,aH,k,e1,λv H1 pp=>?_⟩
  obtain⟨F1,A1,x1,k1,hh⟩:=pp;obtain⟨B,C,h1,h2,h3⟩:=ah.one (Z:=Z) (Q0:=aH) k1.os;have rp:=rg h1;subst h3;obtain⟨k2,x2⟩:=k1.sub h2 (.bb (ng _ _));have qR:Ig K "list" v H1:=by
   cases rp with
   |flat z _=>cases z
   |lst sq ri _=>exact .inl ⟨rfl,_,.inl (k1.le.rd sq)⟩
  refine⟨qR,F1,C,aH,rs,_,k2,e2,λvs H2 p2=>?_⟩
  obtain⟨F2,A2,x3,k3,HB⟩:=p2;have p3:fR K F1 H1 C Z cn rs vs H2:=⟨F2,A2,x3,k3,HB⟩;have hl:(vs.map some).length=(rs.map R.o).length:=by rw[bK,bK,HB.length]
  obtain⟨B3,C3,o1,o2,o3⟩:=ah.split hl k3.os;have fD:=Fq o2 o1 HB e4;have res:Res K F2 H2 ob Q:=λv' H' Av s' w' nd fresh=>by
   obtain⟨B',kB,sub⟩:=k3.part hl;obtain⟨k4,x4⟩:=kB.push s' w' nd fresh;exact w v' H' ⟨F2,Av++B',(x1.trans x2).trans (x3.trans ((Ext.lV Ext.refl sub).trans x4)),k4,ig⟩
  obtain⟨y,ys,exs,rr'⟩:=ok F2 H2 (v::vs) (.Y (.lst ds)::os) ob Q k3.le (.cons ⟨[],.Y (rp.mono x3.ff) .nil⟩ fD) e6 res;cases exs;exact rr'
 .cases e'
def Xm(slot:Slot "list" name HH)(qR:typeOf (.builtin HH)=pure (.type "method_descriptor"))(hm:v7 X HH r)(ok:cT K (tQ r) g)(ho:PE X o (tG K fo))(ha:PA X (e::es) (jY K fs))
  (iz:attributeBase o name X.env (eval o X.env)=eval o X.env:=by rfl)
  (pF:((backTo cu (starEach (e::es) X.env)).all (λx => !x.1)&&(backToKw cu (keywordEach [] X.env)).all (λx=>x.1.isSome) && decide ((e::es).length+([]:List Keyword).length+(if([]:List Keyword).isEmpty then 0 else 1)<30))=true:=by rfl)
  (iA:(apos.endLine == cu.line)=true:=by rfl) (hs:starEach (e::es) X.env=(false,eval e X.env)::starEach es X.env:=by rfl) (je:(backTo cu (starEach es X.env)).any (·.1)=false:=by rfl) (hK:X.K=K:=by rfl) :
  PE X (.Call (.Attribute o name apos) (e::es) [] cu) (tG K (Co g fo fs)):=by
 subst hK;exact(Lj PySem.F.plainAttrs_list slot qR hm ho ha iz pF iA hs je).mono λ_ _ _ t=>Xl ok t
def KP(z:Str):aq->Bool
 |.str y _=>y == z
 |_=>false
def RU(K:FG):V->List V->Hp->VK->Prop:=λx xs H Q=>∃(a:ak) (ys:List Str) (z:Str) (j:Nat),x=.ref a/\xs=[.str z]/\dO K H a (ys.map V.str)/\ys[j]?=some z/\(∀i y,i<j->ys[i]?=some y->y≠z)/\Q (.int (j:Nat)) H
theorem Xn(K:FG)(hK:X.K=K:=by rfl):v7 X "list.index" (RU K):=by
 subst hK;intro ae s Z H x xs v us Q I rx rs h;obtain⟨a,ys,z,j,rfl,rfl,hq,hj,pH,q⟩:=h;cases rx;obtain⟨u,rfl,ru⟩:=vals1 rs;obtain⟨t,rfl⟩:=ru;obtain⟨aG,rv,p,hz⟩:=I.list hq;obtain⟨ps,e1,e2⟩:=OC rv;subst e1;obtain⟨ob,n,eo,Hx,hdi,hda⟩:=p;have hlen:ps.length=ys.length:=by rw[<-e2,bK]
 have Mp:j<ys.length:=(e_.mp hj).1;have hit:∀i (hi:i<ps.length),(ps.map λp=>Value.str p.1 p.2)[i]?=some (Value.str ps[i].1 ps[i].2):=λi hi=>by simp[hi]
 have TJ:∀i (hi:i<ps.length),ys[i]?=some ps[i].1:=λi hi=>by rw[<-e2];simp[hi]
 have hsz:(ps.map λp=>Value.str p.1 p.2).toArray.size=ps.length:=by simp
 have hjz:ps[j].1=z:=by
  have:=TJ j (by lia)
  rw[hj] at this;exact(Option.some.inj this).symm
 obtain⟨cl,di,da,sl⟩:=ob;cases Hx;cases hda;have hz':ys.length<=16777216:=by rw[bK,sizeLine_eq] at hz;exact hz
 refine call_meets F.slot_list_index ⟨_,eo,rfl⟩ F.entry_list_index (F.args_list_index_2 _ _) (SeqAt.list_indexAt a _ n di sl (.str z t) (KP z) j (by rw[hsz];lia) (by lia) ?_ ?_) ⟨eo,?_,?_⟩
 .simp[KP,hjz]
 .intro i hi Mn;rw[hsz] at hi;have:=pH i _ Mn (TJ i hi);simp[KP];exact this
 .intro y hy;simp at hy;obtain⟨b,t',_,rfl⟩:=hy;exact SeqAt.EqAt.str_str b t' z t
 .exact⟨.int (j:Nat),H,I.tok _,⟨_,rfl⟩,q⟩
def findS(ys:List Str)(z:Str):ao Nat:=ys.findIdx? (· == z)
def Cp:List O->ao O
 |[.Y (.lst ds),.Y (.str z)]=>(lr ds).bind λys=>(findS ys z).map λj=>.Y (.int (j:Nat))
 |_=>none
def OG{ys:List Str}{z:Str}{j:Nat}(e:findS ys z=some j):ys[j]?=some z/\∀i y,i<j->ys[i]?=some y->y≠z:=by
 unfold findS at e;rw[List.findIdx?_eq_some_iff_getElem] at e;obtain⟨h,h1,h2⟩:=e;refine⟨by rw[ic h];congr 1;exact eq_of_beq h1,λi y hi ey=>?_⟩
 have:=h2 i hi;obtain⟨hl,e3⟩:=e_.mp ey;rw[e3] at this;intro z';subst z';simp at this
def Xo:cT K (tQ (RU K)) Cp:=by
 intro F H vs os o Q le fD e res;unfold Cp at e;split at e
 .rename_i ds z
  obtain⟨ys,e1,e2⟩:=eE.mp e;obtain⟨j,e3,e4⟩:=jP.mp e2;cases e4;obtain⟨x,y,B,C,rfl,h1,h2⟩:=fD.two;obtain⟨a,ws,rfl,sq,ri⟩:=xS le h1 (e5r _);rw[Pc e1] at ri;have:=Ot ri;subst this;cases ju h2 rfl;obtain⟨s1,s2⟩:=OG e3;exact⟨_,_,rfl,a,ys,z,j,rfl,rfl,sq,s1,s2,res.flat rfl⟩
 .cases e
def Xp(ys:List Str)(z:Str):Cp [.Y (.lst (ys.map .str)),.Y (.str z)]=(findS ys z).map λj=>.Y (.int (j:Nat)):=by
 show((lr (ys.map .str)).bind λys=>(findS ys z).map λj=>O.Y (.int (j:Nat)))=_
 rw[Pb,Option.bind_some]
end
section
variable{X:Cx}{K:FG}{fo f:GE}{fs:GA}{g:List O->ao O}{r:V->List V->Hp->VK->Prop}{o e:Expr}{es:List Expr}{name:Str}{HH:String}{apos cu pos:Pos}
end
section
variable{P:fO}{w:eK}{A:dZ}{E:aq->az->Prop}{s:az}
end
section
variable{X:Cx}{K:FG}
end
section
variable{X:Cx}{ae:List (ak×Obj)}{Z:St}{H:Hp}{A:dZ}{E:aq->az->Prop}{s:az}{d it:ak}{es:List (TK×V×V)}{ep i:Nat}
theorem P4{Q:aq->az->Prop}(I:Inv X ae Z H s)(hd:H d=some (.dG es ep))
  (hQ:Q (.ref s.heap.objs.size) { s with heap:=s.heap.push { cls:=.type "dict_keyiterator",data:=.fields #[.ref d,.int 0 0,.int es.length 0,.int ep 0]}}):wpAny (model X.prog X.w) A (pyIter (.ref d)) Q E s:=by
 obtain⟨_,z,ob,xs,g1,g5,g2,g3,g4⟩:=(show cG X.prog X.w H s.heap d (.dG es ep) from I.cX d _ hd);have hT:s.TypeIs (.ref d) "dict":=⟨ob,g1,g5.1⟩;have hl:xs.size=es.length:=by have:=Paired.length g3;simpa using this.symm
 refine wpAny_pyIter_slot hT F.slot_dict_iter (wpAny_call_entry F.slot_dict_iter hT F.entry_dict_iter ?_ (F.args_dict_iter_1 _));unfold Builtin.«dict.__iter__»;refine aI ?_;unfold Builtin.Dict.dictSlotNone;refine aI (wpAny_notOrdered_dict hT (show wpAny _ _ (pure (Value.ref d)) _ _ s from bz (show wpAny _ _ (Builtin.Dict.showsAll d >>= _) _ _ s from ?_)));unfold Builtin.Dict.showsAll;rw[aY (by rw[z];exact t8)]
 refine aI (bz (aI (wpAny_dictEntries g1 g2 (aI (wpAny_dictEpoch g1 g2 ?_)))));refine aI (wpAny_newObj_type (bz ⟨_,rfl,"dict_keyiterator",_,⟨_,oP _ rfl,rfl⟩,F.slot_dict_keyiterator_next.lookup,?_⟩));simpa[rawInt,hl] using hQ
theorem OH(g1:s.heap.get? d=some ob)(g2:ob.data=.dict xs ep)(hl:xs.size=n)(hit:s.heap.IsKeyIter it d i n ep)(lt':i<xs.size)
  (hQ:∀h',h'.IsKeyIter it d (i+1) n ep->Heap.SameBut it s.heap h'->Q (some xs[i].key) { s with heap:=h'}):wpAny (model P w) A (pyNext (.ref it)) Q E s:=by
 obtain⟨o,k1,k2,k3⟩:=id hit;unfold pyNext;refine aI (wpAny_attempt (wpAny_callSpecial?_slot (name:=Str.ofString "__next__") hit.typeIs F.slot_dict_keyiterator_next (wpAny_call_entry F.slot_dict_keyiterator_next hit.typeIs F.entry_dict_keyiterator_next (aI (bz (aI (aI ?_)))) (F.args_dict_keyiterator_next_1 _))))
 (first|refine aI (wpAny_typeNameOfWhole_keyiter hit.typeIs (bz ?_))|refine aI (wpAny_typeNameOf_keyiter hit.typeIs (bz ?_)));refine aI (wpAny_fieldsOf k1 k3 ?_)
 have y3:Builtin.Dict_items.ownsTuple "dict_keyiterator"=false:=by decide
 simp only[y3,lK,ck]
 (show wpAny _ _ (if(Value.ref d == Value.none)=true then _ else _) _ _ s);rw[aY (show ¬((Value.ref d == Value.none)=true) from t8)]
 refine aI (bz (aI (wpAny_dictEntries g1 g2 ?_)));rw[aY (by rw[hl];simp)]
 refine aI (bz (aI (wpAny_dictEpoch g1 g2 ?_)));rw[aY (by simp)]
 refine bz ?_;simp only[show ¬((i:Int)<0) from by lia,ck,Int.toNat_natCast,pW lt']
 refine aI ?_
 (first|refine aI (wpAny_typeNameOfWhole_keyiter hit.typeIs (bz ?_))|refine aI (wpAny_typeNameOf_keyiter hit.typeIs (bz ?_)));refine aI (wpAny_isOneOf_keyiter hit.typeIs ?_)
 (show wpAny _ _ (setField (.ref it) 1 (rawInt ((i:Int)+1)) >>= _) _ _ s);refine aI (wpAny_setField k1 k3 (by simp) ?_)
 have Dh:(s.heap.update it (Obj.mapFields (·.setIfInBounds 1 (rawInt ((i:Int)+1))))).IsKeyIter it d (i+1) n ep:=
  ⟨_,vX _ k1 (Obj.isFreed_of_fields (Obj.data_mapFields k3 _)),(Obj.cls_mapFields ..).trans k2,by rw[Obj.data_mapFields k3];simp[rawInt]⟩
 refine aI (nI (aI (wpAny_isOneOf_keyiter (s:={ s with heap:=s.heap.update it (Obj.mapFields (·.setIfInBounds 1 (rawInt ((i:Int)+1))))}) Dh.typeIs ?_)))
 show wpAny _ _ (pure xs[i].key) _ _ _;exact bz (bz ⟨_,rfl,bz (hQ _ Dh (Heap.SameBut.update ..))⟩)
def Vh(I:Inv X ae Z H s)(hd:H d=some (.dG es ep))(hit:s.heap.IsKeyIter it d i es.length ep){e:TK×V×V}(hx:es[i]?=some e)
  (hQ:∀key h',RelV e.2.1 key->h'.IsKeyIter it d (i+1) es.length ep->Heap.SameBut it s.heap h'->Q (some key) { s with heap:=h'}):wpAny (model X.prog X.w) A (pyNext (.ref it)) Q E s:=by
 obtain⟨_,z,ob,xs,g1,g5,g2,g3,g4⟩:=(show cG X.prog X.w H s.heap d (.dG es ep) from I.cX d _ hd);have hl:xs.size=es.length:=by have:=Paired.length g3;simpa using this.symm
 obtain⟨x,x1,x2⟩:=zu i g3 hx;have lt':i<xs.size:=by
  have:=(e_.mp hx).1;lia
 have ex:xs[i]=x:=by
  have:xs[i]?=some x:=by rw[<-mF];exact x1
  rw[pW lt'] at this;exact Option.some.inj this
 exact OH g1 g2 hl hit lt' λh' Dr sb=>hQ _ h' (by rw[ex];exact x2.2.1) Dr sb
theorem Pd(hh:A.handled=none)(g1:s.heap.get? d=some ob)(g2:ob.data=.dict xs ep)(hl:xs.size=n)(hit:s.heap.IsKeyIter it d i n ep)(hx:n<=i)
  (hQ:∀h',Heap.ExtBut it s.heap h'->Q none { s with heap:=h'}):wpAny (model P w) A (pyNext (.ref it)) Q E s:=by
 obtain⟨o,k1,k2,k3⟩:=id hit;unfold pyNext;refine aI (wpAny_attempt (wpAny_callSpecial?_slot (name:=Str.ofString "__next__") hit.typeIs F.slot_dict_keyiterator_next (wpAny_call_entry F.slot_dict_keyiterator_next hit.typeIs F.entry_dict_keyiterator_next (aI (bz (aI (aI ?_)))) (F.args_dict_keyiterator_next_1 _))))
 (first|refine aI (wpAny_typeNameOfWhole_keyiter hit.typeIs (bz ?_))|refine aI (wpAny_typeNameOf_keyiter hit.typeIs (bz ?_)));refine aI (wpAny_fieldsOf k1 k3 ?_)
 have y3:Builtin.Dict_items.ownsTuple "dict_keyiterator"=false:=by decide
 simp only[y3,lK,ck]
 (show wpAny _ _ (if(Value.ref d == Value.none)=true then _ else _) _ _ s);rw[aY (show ¬((Value.ref d == Value.none)=true) from t8)]
 refine aI (bz (aI (wpAny_dictEntries g1 g2 ?_)));rw[aY (by rw[hl];simp)]
 refine aI (bz (aI (wpAny_dictEpoch g1 g2 ?_)));rw[aY (by simp)]
 refine bz ?_;have hge:xs.size<=i:=by lia
 simp only[show ¬((i:Int)<0) from by lia,ck,Int.toNat_natCast,Array.getElem?_eq_none hge]
 refine aI ?_
 (first|refine aI (wpAny_typeNameOfWhole_keyiter hit.typeIs (bz ?_))|refine aI (wpAny_typeNameOf_keyiter hit.typeIs (bz ?_)));(show wpAny _ _ (setField (.ref it) 0 .none >>= _) _ _ s);refine aI (wpAny_setField k1 k3 (by simp) ?_)
 (show wpAny _ _ (newExc (.type "StopIteration") [] >>= _) _ _ _);refine aI ?_
 simp only[newExc,newTuple];refine aI (wpAny_newObj_type (aI (m:=firstArgMember _ _) (wpAny_of_eq (a:=Value.none) (by first|rfl|(simp only[firstArgMember];rfl)) (wpAny_newObj_type ?_ (by size_fits)))) (by size_fits))
 simp only[raiseNew];refine aI (wpAny_handled ?_);rw[show A.in1.handled=none from hh]
 (refine aI (bz (wpAny_throw ?_)));refine aI (wpAny_isInstance (T:="StopIteration") (b:=true) ⟨_,oP _ rfl,rfl⟩ isSubtype_stop ?_)
 exact bz (hQ _ (((Heap.SameBut.update ..).extBut.push _).push _))
def V7(hh:A.handled=none)(I:Inv X ae Z H s)(hd:H d=some (.dG es ep))(hit:s.heap.IsKeyIter it d i es.length ep)(hx:es.length<=i)
  (hQ:∀h',Heap.ExtBut it s.heap h'->Q none { s with heap:=h'}):wpAny (model X.prog X.w) A (pyNext (.ref it)) Q E s:=by
 obtain⟨_,z,ob,xs,g1,g5,g2,g3,g4⟩:=(show cG X.prog X.w H s.heap d (.dG es ep) from I.cX d _ hd);exact Pd hh g1 g2 (by have:=Paired.length g3;simpa using this.symm) hit hx hQ
end
def xF(a:ak)(n ep:Nat):It:=
 ⟨λi H=>∃es,H a=some (.dG es ep)/\es.length=n/\i<n,λi H x H'=>H'=H/\∀es,H a=some (.dG es ep)->∃e,es[i]?=some e/\e.2.1=x,λi H=>∃es,H a=some (.dG es ep)/\es.length=n/\n<=i⟩
def V8(a it:ak)(n ep:Nat):Turn P w K tg (xF a n ep) [it] it (λi h=>h.IsKeyIter it a i n ep) where
 mem:=by simp
 obj:=λi h st b hb=>by
  have e:b=it:=by simpa using hb
  subst e;obtain⟨o,e,c,d⟩:=st;exact⟨o,e,λv z=>by rw[d] at z;cases z⟩
 keep:=λi h h' st k=>st.at λo e=>k it (by simp) o e
 item:=by
  intro X hP hw hK hc i ae s Z H E I hf st hg;subst hP hw hK;obtain⟨es,hd,hl,hi⟩:=hg;subst hl;obtain⟨f0,f1,f2,f3,f4,f5⟩:=hf it (by simp)
  refine Vh I hd st (e:=es[i]) (ic hi) λkey h' rk tX sb=>?_
  have I1:Inv X ae Z H { s with heap:=h'}:=I.turned (t':=s.toks) (λb o hb e=>(sb.2 b hb).trans e) f0 f1 f3 f4 f5
  obtain⟨o,e,c,d⟩:=id tX;refine⟨key,rfl,GW (s:={ s with heap:=h'}) e c d (by decide) ⟨es[i].2.1,H,I1,rk,⟨rfl,λys hy=>?_⟩,tX,λb hb=>(hf b hb).1⟩⟩
  rw[hd] at hy;cases hy;exact⟨_,ic hi,rfl⟩
 done:=by
  intro X hP hw hK hc i ae s Z H E I hf st hg;subst hP hw hK;obtain⟨es,hd,hl,hi⟩:=hg;subst hl;obtain⟨f0,f1,f2,f3,f4,f5⟩:=hf it (by simp)
  exact V7 (I.ok.hd hc) I hd st hi λh' eb=>⟨rfl,I.turned (t':=s.toks) (λb o hb e=>eb b o hb e) f0 f1 f3 f4 f5⟩
 self:=λ_ _ _ _ _ st h=>wpAny_pyIter_keyiter st h
def sS(tl:TE):TI:=λZ H R=>tl Z H λx H1=>∃a es ep,x=.ref a/\H1 a=some (.dG es ep)/\R (xF a es.length ep) H1
def QP(hl:PE X l tl):PI X tg l (sS tl):=by
 intro ae s Z H R I h;refine cL (hl ae s Z H _ I h) λv s1 hh=>?_
 obtain⟨x,H1,I1,r1,q1⟩:=hh;obtain⟨a,es,ep,e,hd,q⟩:=q1;subst e;cases r1;refine P4 I1 hd ?_;refine⟨s1.heap.objs.size,[s1.heap.objs.size],_,_,H1,rfl,I1.kept (t':=s1.toks) λb o e=>jN _ e,V8 a _ _ _,⟨_,oP _ rfl,rfl,rfl⟩,λb hb=>?_,q⟩
 have e:b=s1.heap.objs.size:=by simpa using hb
 subst e;exact I1.sE (cP _) (I1.cX.fresh (cP _))
def e9e{w1 w2:TI}(h1:PI X tg l w1)(h2:PI X tg l w2):PI X tg l (λZ H R=>w1 Z H R\/w2 Z H R):=by
 intro ae s Z H R I h;rcases h with h|h
 .exact h1 ae s Z H R I h
 .exact h2 ae s Z H R I h
def V9{tt:TT}{te:TE}{τ:St}{Fin:List V->Hp->Prop}(Pv:Nat->St->List V->Hp->Prop)(h0:Pv 0 τ [] H)(hl:∀i τ aE H,i<=es.length->Pv i τ aE H->H a=some (.dG es ep))
  (hs:∀i e τ aE H,es[i]?=some e->Pv i τ aE H->g e.2.1 τ H λτ2 H2=>tt τ2 H2 λb H3=>if b=true then te τ2 H3 λv H4=>aE.length<sizeLine/\Pv (i+1) τ2 (aE++[v]) H4 else Pv (i+1) τ2 aE H3)
  (hd:∀τ aE H,Pv es.length τ aE H->Fin aE H):kM (xF a es.length ep) g tt te τ H Fin:=by
 refine⟨es.length,Pv,h0,λi τ aE H hi p=>?_⟩
 have q:=hl i τ aE H hi p;by_cases gZ:i<es.length
 .refine .inr ⟨gZ,⟨es,q,rfl,gZ⟩,λx H' y=>?_⟩
  obtain⟨e,y⟩:=y;subst e;obtain⟨e,e1,e2⟩:=y es q;subst e2;exact hs i e τ aE _ e1 p
 .have e:i=es.length:=by lia
  subst e;exact .inl ⟨⟨es,q,rfl,cP _⟩,hd τ aE H p⟩
def tW(it:GE):Gm->ao (List D×Gm):=λQ0=>(ay it Q0).bind λp=>match p.1 with
 |.own (.Y (.lst ds))=>some (ds,p.2)
 |.own (.Y (.aL kvs))=>some (kvs.map (·.1.d),p.2)
 |_=>none
def Xq{fa:GE}{cap:List Nat}:jr K cap (λZ H R=>oi K (tG K (ay fa)) Z H R\/sS (tG K (ay fa)) Z H R) (tW fa):=by
 intro Z F H A Q0 aH ds R k e w;unfold tW at e;obtain⟨⟨r,cn⟩,q,e'⟩:=eE.mp e;dsimp only at e';split at e'
 .cases e';exact .inl (wc Z F H A Q0 aH ds R k (by unfold km;rw[q];rfl) w)
 .rename_i kvs
  cases e';refine .inr ⟨F,A,Q0,_,_,k,q,λv H1 pp=>?_⟩
  obtain⟨F1,A1,x,k1,_⟩:=pp;obtain⟨B,C,h1,h2,h3⟩:=ah.one (Z:=Z) k1.os;have rp:=rg h1;subst h3;obtain⟨k2,x2⟩:=k1.sub h2 (.bb (ng _ _));cases rp with
  |flat z _=>cases z
  |@aL a ws _ ep _ _ hd hk rk ri _=>
   refine⟨a,ws,ep,rfl,k1.le _ _ hd,w (xF a ws.length ep) H1 F1 C (x.trans x2) k2 λg tt te τ Fin Pv h0 hF hs Mi=>?_⟩
   have hl:ws.length=(kvs.map (·.1.d)).length:=by have:=rk.length;simpa using this
   refine V9 (es:=ws) Pv h0 (λi τ aE H hi p=>?_) (λi e τ aE H hx p=>?_) (λτ aE H p=>Mi τ aE H (by rw[<-hl];exact p))
   .obtain⟨⟨F',s1,s2⟩,_⟩:=hF i τ aE H p;exact(s1.trans s2) _ _ hd
   .have hi:i<(kvs.map (·.1.d)).length:=by
     have:=(e_.mp hx).1;lia
    obtain⟨x2,sR,rx⟩:=rk.get (i:=i) (d:=(kvs.map (·.1.d))[i]) (ic hi)
    rw[jO,hx] at sR;cases sR;exact hs i _ e.2.1 τ aE H (Kg (ic hi)) (λF' s=>rx.mono s) p
 .cases e'
def YY(K:FG)(hl:PE X l tl)(hK:X.K=K:=by rfl):PI X tg l (λZ H R=>oi K tl Z H R\/sS tl Z H R):=e9e (v_ K hl hK) (QP hl)
theorem YZ(it:GE)(Q0:Gm):tW it Q0=(ay it Q0).bind λp=>match p.1 with
 |.own (.Y (.lst ds))=>some (ds,p.2)
 |.own (.Y (.aL kvs))=>some (kvs.map (·.1.d),p.2)
 |_=>none:=rfl
section
variable{X:Cx}{K:FG}
def Xr(K:FG)(hK:X.K=K:=by rfl):f_ X (binaryOp .Add) (tP K):=hK ▸ Yq
def mh:List O->ao O
 |[a,b]=>(t6 a).bind λxs=>(t6 b).bind λys=>if xs≠[]/\ys≠[]/\xs.length+ys.length<=1000000 then some (.tup ((xs++ys).map .Y)) else none
 |_=>none
def Y0:cT K (mV (tP K)) mh:=by
 intro F H vs os o Q le fD e res;unfold mh at e;split at e
 .rename_i a b
  obtain⟨x,y,B,C,rfl,h1,h2⟩:=fD.two;obtain⟨xs,q1,e⟩:=eE.mp e;obtain⟨ys,q2,e⟩:=eE.mp e;split at e
  .rename_i hh
   cases e;obtain⟨a1,AS,rfl,s1,r1⟩:=Ft le h1 q1;obtain⟨a2,xA,rfl,s2,r2⟩:=Ft le h2 q2;have n1:AS≠[]:=λz=>hh.1 (by subst z;cases xs with|nil=>rfl|cons _ _=>have:=r1.length;simp at this)
   have n2:xA≠[]:=λz=>hh.2.1 (by subst z;cases ys with|nil=>rfl|cons _ _=>have:=r2.length;simp at this)
   exact⟨_,_,rfl,a1,a2,AS,xA,rfl,rfl,s1,s2,n1,ml (by rw[r1.length,r2.length];exact hh.2.2),λz=>bZ z n2,λ_ p hp=>res.tup (r1.append r2) hp⟩
  .cases e
 .cases e
def Y1(xs:List D)(ys:List D):mh [.Y (.tup xs),.Y (.tup ys)]=if xs≠[]/\ys≠[]/\xs.length+ys.length<=1000000 then some (.tup ((xs++ys).map .Y)) else none:=rfl
end
section
variable{K:FG}{F H:Hp}
theorem IT{k:TK}{c:O}:∀{ws:List (TK×V×V)} {kvs:List (TK×O)} {A:List ak},ws.map (·.1)=kvs.map (·.1)->ah K F H (ws.map λp=>some p.2.2) (kvs.map λp=>some p.2) A->jF kvs k=some c->
  ∃v Ac B,jG ws k=some v/\ah K F H [some v] [some c] Ac/\A.Perm (Ac++B)/\
   ∀F' H' c' A',aF F F'->(∀a∈B,∀u,H a=some u->H' a=some u)->ah K F' H' [some v] [some c'] A'->∃D,ah K F' H' (ws.map λp=>some p.2.2) ((df kvs k c').map λp=>some p.2) D/\aB D (A'++B)/\(df kvs k c').map (·.1)=kvs.map (·.1)
 |[],[],A,_,_,e=>by cases e
 |w::ws,p::kvs,A,hk,h,e=>by
  rw[dD,dD] at hk;injection hk with h1 h2;obtain⟨B1,B2,g1,g2,rfl⟩:=ah.one h;unfold jF at e;rw[ub] at e;unfold jG;rw[ub,h1];by_cases q:p.1=k
  .rw[ie q] at e ⊢;dsimp only at e ⊢;cases e;refine⟨w.2.2,B1,B2,rfl,g1,.refl _,λF' H' c' A' sf kp w'=>⟨A'++B2,?_,aB.refl _,?_⟩⟩
   .unfold df;rw[aU q];exact ah.app (τ:=[some w.2.2]) (Θ:=[some c']) w' (g2.keep sf kp)
   .unfold df;rw[aU q];rfl
  .rw[i7 q] at e ⊢;dsimp only at e ⊢;obtain⟨v,Ac,B,j1,j2,j3,j4⟩:=IT (k:=k) (c:=c) h2 g2 e;refine⟨v,Ac,B1++B,j1,j2,?_,λF' H' c' A' sf kp w'=>?_⟩
   .refine(j3.append_left B1).trans ?_;rw[<-fE,<-fE];exact qB.append_right _
   .obtain⟨D,z1,z2,z3⟩:=j4 F' H' c' A' sf (λa m=>kp a (gE _ m)) w'
    refine⟨B1++D,?_,?_,?_⟩
    .unfold df;rw[aY q];exact ah.app (τ:=[some w.2.2]) (Θ:=[some p.2]) (g1.keep sf λa m=>kp a (g_ _ m)) z1
    .refine((aB.refl B1).app z2).trans (.bD ?_);rw[<-fE,<-fE];exact qB.append_right _
    .unfold df;rw[aY q,dD,z3];rfl
 |[],_::_,_,h,_,_=>by simp at h
 |_::_,[],_,h,_,_=>by simp at h
def nest{kvs inner:List (TK×O)}{d1:D}{k1:TK}{y1:V}(k:OK K F H Z Q0 A)(ho:Q0[i]?=some (some (.aL kvs)))(e1:cH d1=some k1)(r1:aw K F [y1] [d1])(ev:jF kvs k1=some (.aL inner)):
  ∃a b,Z[i]?=some (some (.ref a))/\jt K H a y1 (some (.ref b))/\
   (∀(d2:D) (k2:TK) (y2:V) (n:Int),cH d2=some k2->aw K F [y2] [d2]->jF inner k2=some (.Y (.int n))->jt K H b y2 (some (.int n)))/\
   ∀(d2:D) (k2:TK) (y2 v:V) (d:D),cH d2=some k2->aw K F [y2] [d2]->aw K F [v] [d]->inner.length<1000000->∃H4 A',uX K H b y2 v H4/\OK K F H4 Z (Q0.set i (some (.aL (df kvs k1 (.aL (df inner k2 (.Y d))))))) A'/\Ext F H A F H4 A':=by
 obtain⟨x,Ai,C,g1,g2,g3,g4⟩:=k.os.take ho;have nd:(Ai++C).Nodup:=g4.nodup_iff.mp k.nd;have fr:∀a∈Ai++C,F a=none:=λa m=>k.fr a (g4.mem_iff.mpr m)
 obtain⟨n1,n2,n3⟩:=jk.mp nd;obtain⟨a,ws,ep,Ap,rfl,rfl,hl,hk,rk,ch⟩:=Kf g2
 .obtain⟨na,nAp⟩:=ib.mp n1;obtain⟨v1,Ac,B1,j1,j2,j3,j4⟩:=IT hk ch ev;have xh:(Ac++B1).Nodup:=j3.nodup_iff.mp nAp;obtain⟨m1,m2,m3⟩:=jk.mp xh;obtain⟨b,wi,G7,Aq,rfl,rfl,TB,Di,Ng,Q6⟩:=Kf j2
  .obtain⟨nb,nAq⟩:=ib.mp m1;have HI:∀z,z∈b::Aq->z∈Ap:=λz m=>j3.mem_iff.mpr (g_ _ m)
   have SE:=nq e1;refine⟨a,b,g1,⟨ws,ep,k1,hl,by rw[yh hk];exact rk.mono k.le,by rw[SE.1];exact r1.mono k.le,SE.2,j1.symm⟩,λd2 k2 y2 n e2 r2 ev2=>?_,λd2 k2 y2 v d e2 r2 rv hz=>?_⟩
   .have Am:=nq e2;obtain⟨v2,Ad,B3,z1,z2,_⟩:=IT Di Q6 ev2;obtain⟨rfl,_⟩:=u5 z2;exact⟨wi,G7,k2,TB,by rw[yh Di];exact Ng.mono k.le,by rw[Am.1];exact r2.mono k.le,Am.2,z1.symm⟩
   .have Am:=nq e2;have hlen:wi.length=inner.length:=by have:=congrArg List.length Di;simpa using this
    obtain⟨E,p1,p2,p3,p4⟩:=JF (k:=k2) (y:=y2) (ah.Y rv .nil) (by rw[Am.1];exact r2) Di Ng Q6
    rw[gu] at p2;have nbE:b∉E:=λm=>nb (p2.mem b m)
    obtain⟨H4,yD⟩:∃H4,upd H b (.dG (gA wi k2 y2 v) (tN wi k2 G7))=H4:=⟨_,rfl⟩;have hb4:H4 b=some (.dG (gA wi k2 y2 v) (tN wi k2 G7)):=by rw[<-yD];exact jl
    have HE:∀z,z≠b->H4 z=H z:=λz q=>by rw[<-yD,cW q]
    have hd4:∀z,H z≠none->H4 z≠none:=λz h=>by rw[<-yD];exact BW z h
    have yL:ah K F H4 [some (.ref b)] [some (.aL (df inner k2 (.Y d)))] (b::E++[]):=
     .aL hb4 p3 p4 (p1.keep (aF.refl _) λz m u e=>by rw[HE z λq=>nbE (by rw[<-q];exact m)];exact e) .nil
    obtain⟨D,q1,q2,q3⟩:=j4 F H4 (.aL (df inner k2 (.Y d))) (b::E++[]) (aF.refl _) (λz m u e=>by
     rw[HE z λq=>m3 b (nE ..) z m q.symm];exact e) yL
    rw[jq] at q2;have ab:a≠b:=λq=>na (by rw[q];exact HI b (nE ..))
    have sD:aB D Ap:=(q2.trans ((((aB.refl [b]).app p2:aB ([b]++E) ([b]++Aq))).app (aB.refl B1))).trans (.bD j3.symm);have ha4:H4 a=some (.dG ws ep):=by rw[HE a ab];exact hl
    have outer:ah K F H4 [some (.ref a)] [some (.aL (df kvs k1 (.aL (df inner k2 (.Y d)))))] (a::D++[]):=by
     refine .aL ha4 (by rw[q3];exact hk) ?_ q1 .nil
     have em:(df kvs k1 (.aL (df inner k2 (.Y d)))).map (·.1.d)=kvs.map (·.1.d):=by
      rw[show(λx:TK×O=>x.1.d)=TK.d∘(λx:TK×O=>x.1) from rfl,<-oQ,q3,oQ]
     rw[em];exact rk
    rw[jq] at outer;have nbC:b∉C:=λm=>n3 b (oO _ (HI b (nE ..))) b m rfl
    have vh:ah K F H4 Z (Q0.set i none) C:=g3.keep (aF.refl _) λz m u e=>by rw[HE z λq=>nbC (by rw[<-q];exact m)];exact e
    have hi:i<Q0.length:=(e_.mp ho).1;obtain⟨G,w1,C2,w2,w3⟩:=ah.put outer i vh (by rw[vY];exact hi)
    rw[rS g1,AY] at w1;have sG:aB G A:=((aB.bD w2).trans (((aB.refl [a]).app sD:aB ([a]++D) ([a]++Ap)).app (.bb w3))).trans (.bD g4.symm);refine⟨H4,G,⟨wi,G7,k2,TB,by rw[yh Di];exact Ng.mono k.le,by rw[Am.1];exact r2.mono k.le,Am.2,iP (by lia:wi.length<1000000) (by decide),yD.symm⟩,⟨λz u e=>?_,w1,sG.nodup k.nd,λz m=>k.fr z (sG.mem z m)⟩,aF.refl _,λz u e nz=>?_,λz h=>?_,λz h=>.inl h,λz m=>.inl (sG.mem z m)⟩
    .rw[<-yD,cW]
     .exact k.le z u e
     .intro q;rw[q,fr b (g_ _ (oO _ (HI b (nE ..))))] at e;cases e
    .rw[<-yD,cW]
     .exact e
     .intro q;exact nz (by rw[q];exact g4.mem_iff.mpr (g_ _ (oO _ (HI b (nE ..)))))
    .rw[<-yD];exact BW z h
end
def sV(i:Nat):Gm->ao D:=λQ0=>match Q0[i]? with|some (some (.Y d))=>some d|_=>none
def sC(d:D):Gm->ao D:=λ_=>some d
def nN(K:FG)(te:TE)(f:Gm->ao D):Prop:=∀(F H:Hp) (Z:St) (Q0:Gm) (A:List ak) (d:D) (Q:VK),OK K F H Z Q0 A->f Q0=some d->(∀v,aw K F [v] [d]->Q v H)->te Z H Q
def u_:nN K (pQ i) (sV i):=by
 intro F H Z Q0 A d Q k e q;unfold sV at e;split at e
 .rename_i d' h
  cases e;obtain⟨v,Ai,B,g1,g2,_⟩:=k.os.take h;exact⟨v,g1,q v (rg g2)⟩
 .cases e
def LL{d:D}{v:V}(h:oV d=some v):nN K (tC v) (sC d):=by
 intro F H Z Q0 A d' Q k e q;cases e;exact q v (.flat h .nil)
def uz(i:Nat)(f1 f2 fv:Gm->ao D):GS:=λQ0=>(fv Q0).bind λv=>(f1 Q0).bind λd1=>(cH d1).bind λk1=>(f2 Q0).bind λd2=>(cH d2).bind λk2=>match Q0[i]? with
 |some (some (.aL kvs))=>match jF kvs k1 with
  |some (.aL inner)=>if inner.length<1000000 then some (.nx,Q0.set i (some (.aL (df kvs k1 (.aL (df inner k2 (.Y v))))))) else none
  |_=>none
 |_=>none
def uA(op:Int->Int->Int)(i:Nat)(f1 f2 fv:Gm->ao D):GS:=λQ0=>(f1 Q0).bind λd1=>(cH d1).bind λk1=>(f2 Q0).bind λd2=>(cH d2).bind λk2=>match Q0[i]?,fv Q0 with
 |some (some (.aL kvs)),some (.int j)=>match jF kvs k1 with
  |some (.aL inner)=>match jF inner k2 with
   |some (.Y (.int n))=>if inner.length<1000000 then some (.nx,Q0.set i (some (.aL (df kvs k1 (.aL (df inner k2 (.Y (.int (op n j))))))))) else none
   |_=>none
  |_=>none
 |_,_=>none
section
variable{X:Cx}{K:FG}{m:List Bool}{e o e1 e2:Expr}{t1 t2 tv:TE}{f1 f2 fv:Gm->ao D}{i:Nat}{pos pos' p1:Pos}
def QQ(hv:PE X e tv)(sv:nN K tv fv)(ho:PE X o (pQ i))(h1:PE X e1 t1)(s1:nN K t1 f1)(h2:PE X e2 t2)(s2:nN K t2 f2)(hu:X.A.units+41<cLine)(hp:zD e1:=by exact λ_ _=>rfl)
  (ha:∀v,assign (.Subscript (.Subscript o e1 p1) e2 pos') X.env v=(do
   let ov <-holding [v] (eval (.Subscript o e1 p1) X.env)
   let iv <-holding [v,ov] (eval e2 X.env)
   standAt pos'
   holding [v,ov,iv] (setItem ov iv v)
   release [v,ov,iv] []):=by intro _;rfl)
  (hs:swapsWithSole [.Subscript (.Subscript o e1 p1) e2 pos'] e pos.line X.env=pure false:=by rfl) (hw:swappedStores [.Subscript (.Subscript o e1 p1) e2 pos'] e X.env=pure none:=by rfl)
  (hn:(assignEach [.Subscript (.Subscript o e1 p1) e2 pos'] X.env).map (·.2)=[assign (.Subscript (.Subscript o e1 p1) e2 pos') X.env]:=by rfl) (hK:X.K=K:=by rfl):PS X (.Assign [.Subscript (.Subscript o e1 p1) e2 pos'] e pos) (tS K m (uz i f1 f2 fv)):=by
 subst hK;refine(Ky hv (RE (GX (G4 X.K hu) ho h1 hp) h2 (Lp hu) ha) hs hw hn).mono λD Z H t=>?_
 obtain⟨F,A,Q0,fl,ax,k,e,w⟩:=t;unfold uz at e;obtain⟨v,q1,e⟩:=eE.mp e;obtain⟨d1,q2,e⟩:=eE.mp e;obtain⟨k1,q3,e⟩:=eE.mp e;obtain⟨d2,q4,e⟩:=eE.mp e;obtain⟨k2,q5,e⟩:=eE.mp e;split at e
 .rename_i kvs hi
  split at e
  .rename_i inner w6
   split at e
   .rename_i hz
    cases e;refine sv F H Z Q0 A v _ k q1 λvv rv=>?_
    obtain⟨x,Ax,Bx,gx,_⟩:=k.os.take hi;refine⟨x,gx,s1 F H Z Q0 A d1 _ k q2 λy1 r1=>?_⟩
    obtain⟨a,b,n1,n2,n3,n4⟩:=nest k hi q3 r1 w6;rw[gx] at n1;cases n1;refine .inr (.inr (.inr ⟨a,_,rfl,n2,?_⟩));refine s2 F H Z Q0 A d2 _ k q4 λy2 r2=>?_
    obtain⟨H4,A',x1,x2,x3⟩:=n4 d2 k2 y2 vv v q5 r2 rv hz;exact .inr ⟨b,H4,rfl,x1,w Z H4 ⟨F,A',x3,x2,Kept.refl⟩⟩
   .cases e
  .cases e
 .cases e
def Xs(hu:X.A.units+41<cLine):Bz X (λo i H Q=>∃a v,o=.ref a/\jt X.K H a i (some v)/\Q v H):=by
 intro ae s Z H o i ov iv Q I ro ri h;obtain⟨a,v,rfl,g,q⟩:=h;cases ro;exact O6 (by lia) I g ri λw' s' I' r'=>⟨v,H,I',r',q⟩
def QR{op:Operator}{g:Int->Int->Int}(hop:EB X op (MD g))(ho:PE X o (pQ i))(h1:PE X e1 t1)(s1:nN K t1 f1)(h2:PE X e2 t2)(s2:nN K t2 f2)(hv:PE X e tv)(sv:nN K tv fv)(hu:X.A.units+41<cLine)(hp:zD e1:=by exact λ_ _=>rfl)
  (ha:∀ov iv new,augStore e2 ov iv new=(do holding [new,ov,iv] (setItem ov iv new);release [new,ov,iv] [];pure .next):=by intros;rfl) (hK:X.K=K:=by rfl):PS X (.AugAssign (.Subscript (.Subscript o e1 p1) e2 pos') op e pos) (tS K m (uA g i f1 f2 fv)):=by
 subst hK;refine(Yi (GX (G4 X.K hu) ho h1 hp) h2 (Xs hu) hv hop (Lp hu) ha).mono λD Z H t=>?_
 obtain⟨F,A,Q0,fl,ax,k,e,w⟩:=t;unfold uA at e;obtain⟨d1,q2,e⟩:=eE.mp e;obtain⟨k1,q3,e⟩:=eE.mp e;obtain⟨d2,q4,e⟩:=eE.mp e;obtain⟨k2,q5,e⟩:=eE.mp e;split at e
 .rename_i kvs j hi q1
  split at e
  .rename_i inner w6
   split at e
   .rename_i n hn
    split at e
    .rename_i hz
     cases e;obtain⟨x,Ax,Bx,gx,_⟩:=k.os.take hi;refine⟨x,gx,s1 F H Z Q0 A d1 _ k q2 λy1 r1=>?_⟩
     obtain⟨a,b,n1,n2,n3,n4⟩:=nest k hi q3 r1 w6;rw[gx] at n1;cases n1;refine .inr (.inr (.inr ⟨a,_,rfl,n2,?_⟩));refine s2 F H Z Q0 A d2 _ k q4 λy2 r2=>?_
     refine⟨b,_,rfl,n3 d2 k2 y2 n q5 r2 hn,sv F H Z Q0 A _ _ k q1 λvv rv=>?_⟩
     have evv:vv=.int j:=by
      cases rv with
      |flat z _=>cases z;rfl
     subst evv;refine⟨n,j,rfl,rfl,?_⟩;obtain⟨H4,A',x1,x2,x3⟩:=n4 d2 k2 y2 (.int (g n j)) (.int (g n j)) q5 r2 (.flat rfl .nil) hz;exact .inr ⟨b,H4,rfl,x1,w Z H4 ⟨F,A',x3,x2,Kept.refl⟩⟩
    .cases e
   .cases e
  .cases e
 .cases e
end
def vi(i:Nat)(f:GS):GS:=λQ0=>match Q0[i]? with
 |some (some o)=>f (Q0.set i (some (.Y o.d)))
 |_=>none
section
variable{X:Cx}{K:FG}{m:List Bool}{body:List Stmt}{f:GS}{i:Nat}
def OK.sH{o:O}(k:OK K F H Z Q0 A)(ho:Q0[i]?=some (some o)):∃F' A',OK K F' H Z (Q0.set i (some (.Y o.d))) A'/\Ext F H A F' H A':=by
 obtain⟨v,Ai,B,g1,g2,g3,g4⟩:=k.os.take ho;have nd:(Ai++B).Nodup:=g4.nodup_iff.mp k.nd;have k1:OK K F H (some v::Z) (some o::Q0.set i none) (Ai++B):=⟨k.le,g2.app g3,nd,λa m=>k.fr a (g4.mem_iff.mpr m)⟩
 obtain⟨F',A',k2,x⟩:=k1.freeze;obtain⟨B1,C1,h1,h2,h3⟩:=ah.one k2.os;have eB:B1=[]:=by cases h1 with|Y _ t=>cases t;rfl
 subst eB;rw[gu] at h3;subst h3;have hi:i<Q0.length:=(e_.mp ho).1;obtain⟨G,w1,C2,w2,w3⟩:=ah.put h1 i h2 (by rw[vY];exact hi)
 rw[rS g1,AY] at w1;have sG:aB G A':=(aB.bD w2).trans (by rw[gu];exact .bb w3)
 refine⟨F',G,⟨k2.le,w1,sG.nodup k2.nd,λa m=>k2.fr a (sG.mem a m)⟩,⟨x.ff,λa u e n=>x.keep a u e (λm=>n (g4.mem_iff.mpr m)),x.rE,λa h=>?_,λa m=>?_⟩⟩
 .rcases x.new a h with z|z|z
  .exact .inl z
  .exact .inr (.inl (g4.mem_iff.mpr z))
  .exact .inr (.inr z)
 .rcases x.own a (sG.mem a m) with z|z
  .exact .inl (g4.mem_iff.mpr z)
  .exact .inr z
def e9g(h:hU X body (tS K m f)):hU X body (tS K m (vi i f)):=by
 intro ae s Z H D I t;refine h ae s Z H D I ?_;obtain⟨F,A,Q0,fl,ax,k,e,w⟩:=t;unfold vi at e;split at e
 .rename_i o ho
  obtain⟨F',A',k',x⟩:=k.sH ho;exact⟨F',A',_,fl,ax,k',e,w.step x Kept.refl⟩
 .cases e
end
def Xt{D:Ends}(Pv:Nat->St->Hp->Prop)(h0:Pv 0 Z H)(hl:∀i Z H,i<=es.length->Pv i Z H->H a=some (.dG es ep))
  (hs:∀i e Z H,es[i]?=some e->Pv i Z H->g e.2.1 Z H λZ2 H2=>tb { D with nx:=Pv (i+1),ct:=Pv (i+1),bk:=D.nx} Z2 H2) (hd:∀Z H,Pv es.length Z H->D.nx Z H) :
  ∃W:Nat->Nat->St->Hp->Prop,(∃m,W 0 m Z H)/\∀i m Z H,W i m Z H->
   ((xF a es.length ep).stop i H/\D.nx Z H)\/((xF a es.length ep).go i H/\∃N:St->Hp->Prop,(∀Z' H',N Z' H'->∃m',m'<m/\W (i+1) m' Z' H')/\∀x H',(xF a es.length ep).xC i H x H'->g x Z H' λZ2 H2=>tb { D with nx:=N,ct:=N,bk:=D.nx} Z2 H2):=by
 refine⟨λi m Z H=>m=es.length - i/\i<=es.length/\Pv i Z H,⟨es.length,by simp,kK _,h0⟩,?_⟩
 rintro i m Z H ⟨rfl,hi,p⟩;have q:=hl i Z H hi p;by_cases lt:i<es.length
 .refine .inr ⟨⟨es,q,rfl,lt⟩,Pv (i+1),λZ' H' p'=>⟨es.length - (i+1),by lia,rfl,lt,p'⟩,λx H' y=>?_⟩
  obtain⟨e,y⟩:=y;subst e;obtain⟨e,e1,e2⟩:=y es q;subst e2;exact hs i e Z _ e1 p
 .have e:i=es.length:=by lia
  subst e;exact .inl ⟨⟨es,q,rfl,cP _⟩,hd Z H p⟩
def Cq(it:GE)(g:GG)(f:GS):GS:=λQ0=>(ay it Q0).bind λp=>match p.1 with
 |.own (.Y (.aL kvs))=>gj g f (kvs.map (·.1.d)) p.2
 |_=>none
section
variable{X:Cx}{K:FG}{m:List Bool}{f:GS}{fa:GE}{tg iter:Expr}{t:TG}{gg:GG}{body:List Stmt}{pos:Pos}
def Y2(hp:PassesOwn (model X.prog X.w) X.A X.env X.xe)(hi:PE X iter (tG K fa))(hg:PG X tg t)(ht:gv K m t gg)(hb:hU X body (tS K m f))(hc:X.calm=true:=by rfl)(hK:X.K=K:=by rfl)(hs:∀x,foldedSetIterable iter X.env x=pure x:=by intro _;rfl):PS X (.For tg iter body [] pos) (tS K m (Cq fa gg f)):=by
 subst hK;refine(ye hp hc (QP (bX hi)) hg hb hs).mono λD Z H tt=>?_
 obtain⟨F,A,Q0,fl,ax,k,e,w⟩:=tt;unfold Cq at e;obtain⟨⟨r,aH⟩,q,e⟩:=eE.mp e;dsimp only at e;split at e
 .rename_i kvs
  refine⟨F,A,Q0,_,aH,k,q,λv H1 pp=>?_⟩
  obtain⟨F1,A1,x,k1,_⟩:=pp;obtain⟨rp,st⟩:=LI.start k1 x w e;cases rp with
  |flat z _=>cases z
  |@aL a ws _ ep _ _ hd hk rk ri _=>
   have hlen:=rk.length;refine⟨a,ws,ep,rfl,k1.le _ _ hd,Xt (es:=ws) (LI X.K m gg f D F1 fl ax (kvs.map (·.1.d))) st (λi Z' H' _ p=>p.same _ _ hd) (λi x' Z' H' hx p=>p.step ht rk (by rw[jO,hx];rfl)) λZ' H' p=>p.fin (by rw[<-hlen,bK];exact cP _)⟩
 .cases e
end
mutual
def rD:D->Bool
 |.aL _=>false
 |.exc _ _=>false
 |.lst xs=>iq xs
 |.tup xs=>iq xs
 |_=>true
def iq:List D->Bool
 |[]=>true
 |d::ds=>rD d&&iq ds
end
mutual
noncomputable def qM:O->Bool
 |.Y d=>rD d
 |.lst os=>qN os
 |.tup os=>qN os
 |.aL kvs=>n9 kvs
noncomputable def qN:List O->Bool
 |[]=>true
 |o::os=>qM o&&qN os
noncomputable def n9:List (TK×O)->Bool
 |[]=>true
 |p::kvs=>qM p.2&&n9 kvs
end
noncomputable def oY:Gm->Bool
 |[]=>true
 |none::Q0=>oY Q0
 |some o::Q0=>qM o&&oY Q0
mutual
theorem KQ:∀k:TK,rD k.d=true
 |.inl _=>by simp only[TK.d,rD]
 |.inr _=>by simp only[TK.d,rD]
 |.tp l=>by simp only[TK.d,rD];exact qh l
theorem qh:∀l:List TK,iq (TK.dl l)=true
 |[]=>by simp only[TK.dl,iq]
 |k::l=>by simp only[TK.dl,iq,KQ k,qh l,Ep]
end
theorem SM:∀l:List (TK×O),iq (l.map (·.1.d))=true
 |[]=>by simp only[qZ,iq]
 |p::l=>by simp only[dD,iq,KQ,SM l,Ep]
theorem KR:∀os:List O,oY (os.map some)=qN os
 |[]=>by simp only[qZ,oY,qN]
 |o::os=>by simp only[dD,oY,qN,KR os]
theorem RV:∀l:List (TK×O),oY (l.map λp=>some p.2)=n9 l
 |[]=>by simp only[qZ,oY,n9]
 |p::l=>by simp only[dD,oY,n9,RV l]
def i_(F F':Hp):Prop:=∀a u,F a=some u->(∀es ep,u≠.dG es ep)->F' a=some u
section
variable{K:FG}{F F' H:Hp}
def i_.rd{a:ak}{u:HO}(d:i_ F F')(h:Rd F a u)(hn:∀es ep,u≠.dG es ep):Rd F' a u:=by
 rcases h with h|⟨o,h⟩
 .exact .inl (d _ _ h hn)
 .exact .inr ⟨o,d _ _ h λes ep z=>by cases z⟩
def i_.sqT{a:ak}{xs:List V}(d:i_ F F')(h:fX K F a xs):fX K F' a xs:=by
 rcases h with h|h
 .exact .inl (d.rd h λes ep z=>by cases z)
 .exact .inr h
def OI(d:i_ F F'){vs:List V}{ds:List D}(h:aw K F vs ds):iq ds=true->aw K F' vs ds:=by
 induction h with
 |nil=>exact λ_=>.nil
 |flat e _ ih=>intro c;simp only[iq,mG] at c;exact .flat e (ih c.2)
 |lst e _ _ i1 i2=>intro c;simp only[iq,rD,mG] at c;exact .lst (d.rd e λes ep z=>by cases z) (i1 c.1) (i2 c.2)
 |tup e _ _ i1 i2=>intro c;simp only[iq,rD,mG] at c;exact .tup (d.sqT e) (i1 c.1) (i2 c.2)
 |aL e k _ _ _ i0 i1 i2=>intro c;simp only[iq,rD,Ei] at c;cases c
 |exc e _ i=>intro c;simp only[iq,rD,Ei] at c;cases c
 |eY e _ i=>
  intro c;simp only[iq,rD,Er] at c;refine .eY ?_ (i c);rcases e with e|e
  .exact .inl (d.rd e λes ep z=>by cases z)
  .exact .inr e
def OJ(d:i_ F F'){Z:St}{Q0:Gm}{A:List ak}(h:ah K F H Z Q0 A):oY Q0=true->ah K F' H Z Q0 A:=by
 induction h with
 |nil=>exact λ_=>.nil
 |skip _ ih=>intro c;simp only[oY] at c;exact .skip (ih c)
 |Y r _ ih=>intro c;simp only[oY,qM,mG] at c;exact .Y (OI d r (by simp only[iq,c.1,Ep])) (ih c.2)
 |lst e _ _ i1 i2=>intro c;simp only[oY,qM,mG] at c;exact .lst e (i1 (by rw[KR];exact c.1)) (i2 c.2)
 |tup e _ _ i1 i2=>intro c;simp only[oY,qM,mG] at c;exact .tup e (i1 (by rw[KR];exact c.1)) (i2 c.2)
 |aL e q r _ _ i1 i2=>intro c;simp only[oY,qM,mG] at c;exact .aL e q (OI d r (SM _)) (i1 (by rw[RV];exact c.1)) (i2 c.2)
noncomputable def CW:O->Bool
 |.Y _=>true
 |_=>false
def SD:O->Bool
 |.aL kvs=>kvs.all λp=>CW p.2
 |.Y _=>true
 |_=>false
def wM:O->Bool
 |.aL kvs=>kvs.all λp=>SD p.2
 |_=>false
theorem P5:∀{ws:List (ao V)} {kvs:List (TK×O)} {A:List ak},ah K F H ws (kvs.map λp=>some p.2) A->(kvs.all λp=>CW p.2)=true->A=[]
 |_,[],_,h,_=>by cases h;rfl
 |_,(k,o)::kvs,_,h,c=>by
  rw[t_,mG] at c;rw[dD] at h;cases h with
  |Y _ t=>exact P5 t c.2
  |lst _ _ _=>cases c.1
  |tup _ _ _=>cases c.1
  |aL _ _ _ _ _=>cases c.1
theorem KS:∀{ws:List (ao V)} {kvs:List (TK×O)} {A:List ak},ah K F H ws (kvs.map λp=>some p.2) A->(kvs.all λp=>SD p.2)=true->∀a∈A,∃es ep,H a=some (.dG es ep)
 |_,[],_,h,_=>by cases h;intro a m;cases m
 |_,(k,o)::kvs,_,h,c=>by
  rw[t_,mG] at c;rw[dD] at h;cases h with
  |Y _ t=>exact KS t c.2
  |lst _ _ _=>cases c.1
  |tup _ _ _=>cases c.1
  |@aL b kv ps ep A1 B1 _ _ e q r i t=>
   have h0:A1=[]:=P5 i c.1;subst h0;intro a m;rcases eO.mp m with m|m
   .rw[m];exact⟨_,_,e⟩
   .exact KS t c.2 a (by simpa using m)
def e6a{v:V}{o:O}{A:List ak}(h:ah K F H [some v] [some o] A)(c:wM o=true):∀a∈A,∃es ep,H a=some (.dG es ep):=by
 cases o with
 |aL kvs=>
  cases h with
  |@aL b kv ps ep A1 B1 _ _ e q r i t=>
   have h0:B1=[]:=by cases t;rfl
   subst h0;intro a m;rcases eO.mp m with m|m
   .rw[m];exact⟨_,_,e⟩
   .exact KS i c a (by simpa using m)
 |_=>cases c
def bor(M:GM):GM:=λos=>match os with
 |o::os=>if wM o=true then(M (.Y o.d::os)).bind λr=>match r.2 with
   |none::fin=>if qM r.1=true/\oY fin=true then some (r.1,some o::fin) else none
   |_=>none
  else none
 |_=>none
def e6b{n:Nat}{M:GM}{vs:List V}{Q:VK}{E:XK}(s:fJ K n (bor M) vs H Q E):fJ K n M vs H Q E:=by
 obtain⟨hn,F,A,os,o,fin,k,e,w⟩:=s;refine⟨hn,?_⟩;unfold bor at e;split at e
 .rename_i ow os
  split at e
  .rename_i hd
   obtain⟨⟨r,fn⟩,e1,e2⟩:=eE.mp e;dsimp only at e2;split at e2
   .rename_i dr
    split at e2
    .rename_i hc
     cases e2;have hl:=k.os.length
     match vs,hl with
     |[],hl=>simp at hl
     |x::vs,_=>
      obtain⟨Aj,C,h1,h2,h3⟩:=ah.one (x:=some x) (y:=some ow) k.os;subst h3;obtain⟨n1,n2,n3⟩:=jk.mp k.nd;have wN:=e6a h1 hd
      let F1:Hp:=λa=>if a∈Aj then H a else F a
      have in1:∀a,a∈Aj->F1 a=H a:=λa m=>aU m
      have vH:∀a,a∉Aj->F1 a=F a:=λa m=>aY m
      have s1:aF F F1:=λa u e=>by
       rw[vH a λm=>by rw[k.fr a (g_ _ m)] at e;cases e]
       exact e
      have le1:aF F1 H:=λa u e=>by
       by_cases m:a∈Aj
       .rw[in1 a m] at e;exact e
       .rw[vH a m] at e;exact k.le a u e
      have r1:aw K F1 [x] [ow.d]:=h1.rep s1 (λa m u e=>by rw[in1 a m];exact e) [x] [ow] rfl rfl
      refine⟨F1,C,.Y ow.d::os,_,_,⟨le1,.Y r1 (h2.keep s1 λa m u e=>e),n2,λa m=>by
       rw[vH a λz=>n3 a z a m rfl];exact k.fr a (gE _ m)⟩,e1,λv H' pc=>?_⟩
      obtain⟨F',A',x',k'⟩:=pc;refine w v H' ?_;obtain⟨B1,C1,j1,j2,j3⟩:=ah.one k'.os;subst j3;have j2:ah K F' H' (some x::vs.map some) (none::dr) C1:=j2;have j4:ah K F' H' (vs.map some) dr C1:=by cases j2 with|skip t=>exact t
      let F2:Hp:=λa=>if a∈Aj then none else F' a
      have MC:∀a,a∈Aj->F2 a=none:=λa m=>aU m
      have tE:∀a,a∉Aj->F2 a=F' a:=λa m=>aY m
      have IP:∀a,a∈Aj->∀u,H a=some u->F' a=some u:=λa m u e=>x'.ff a u (by rw[in1 a m];exact e)
      have Uh:i_ F' F2:=λa u e nd=>by
       rw[tE a λm=>by
        obtain⟨es,ep,z⟩:=wN a m;rw[IP a m _ z] at e;cases e;exact nd es ep rfl]
       exact e
      have sF:aF F F2:=λa u e=>by
       rw[tE a λm=>by rw[k.fr a (g_ _ m)] at e;cases e]
       exact x'.ff a u (s1 a u e)
      have L7:ah K F2 H' [some x] [some ow] Aj:=h1.keep sF λa m u e=>k'.le a u (IP a m u e)
      have j1':ah K F2 H' [some v] [some o] B1:=OJ Uh j1 (by simp only[oY,hc.1,Ep])
      have j4':ah K F2 H' (vs.map some) dr C1:=OJ Uh j4 hc.2;have TZ:∀a,a∈Aj->a∉B1++C1:=λa m z=>by
       obtain⟨es,ep,q⟩:=wN a m;have:=IP a m _ q;rw[k'.fr a z] at this;cases this
      obtain⟨p1,p2,p3⟩:=jk.mp k'.nd;refine⟨F2,B1++(Aj++C1),⟨sF,λa u e nz=>x'.keep a u e λm=>nz (gE _ m),x'.rE,λa h=>?_,λa m=>?_⟩,⟨λa u e=>?_,j1'.app (L7.app j4'),?_,λa m=>?_⟩⟩
      .by_cases z:a∈Aj
       .rw[MC a z] at h;exact bZ rfl h
       .rw[tE a z] at h;rcases x'.new a h with q|q|q
        .rw[vH a z] at q;exact .inl q
        .exact .inr (.inl (gE _ q))
        .exact .inr (.inr q)
      .by_cases z:a∈Aj
       .exact .inl (g_ _ z)
       .have:a∈B1++C1:=by
         rcases eD.mp m with m|m
         .exact g_ _ m
         .exact gE _ ((eD.mp m).elim (λq=>bZ q z) id)
        exact(x'.own a this).imp (λq=>gE _ q) id
      .by_cases z:a∈Aj
       .rw[MC a z] at e;cases e
       .rw[tE a z] at e;exact k'.le a u e
      .refine jk.mpr ⟨p1,jk.mpr ⟨n1,p2,λa m b m' q=>?_⟩,λa m b m' q=>?_⟩
       .subst q;exact TZ a m (gE _ m')
       .subst q;rcases eD.mp m' with m'|m'
        .exact TZ a m' (g_ _ m)
        .exact p3 a m a m' rfl
      .by_cases z:a∈Aj
       .exact MC a z
       .rw[tE a z];refine k'.fr a ?_;rcases eD.mp m with m|m
        .exact g_ _ m
        .exact gE _ ((eD.mp m).elim (λq=>bZ q z) id)
    .cases e2
   .cases e2
  .cases e
 .cases e
def RX{P:fO}{w:eK}{mg:Str->ao aq}{base:cS}{CX:qF}{k:Nat}{f:ak}{fd:lY}{ps:List Str}{n:Nat}{M:GM}(Fn:bR P w K mg base CX k f fd ps (fJ K n M)):bR P w K mg base CX k f fd ps (fJ K n (bor M)):=
 Fn.imp λ_ _ _ _ q=>e6b q
end
section
variable{X:Cx}{K:FG}{pos:Pos}
def xM{x z:Str}(hg:Gl X x)(hm:∃t,X.mg x=some (.str z t))(hd:(x == ("__debug__":Str))=false:=by decide):PE X (.Name x pos) (tC (.str z)):=by
 obtain⟨t,h⟩:=hm;exact Yf hg h ⟨t,rfl⟩ hd
def Fz(fk fv:GE):GE:=λQ0=>(fk Q0).bind λp=>(fv p.2).bind λq=>match p.1,q.1 with
 |.own (.Y dk),.own o=>(cH dk).map λk=>(.own (.aL [(k,o)]),q.2)
 |_,_=>none
theorem V_(fk fv:GE)(Q0:Gm):Fz fk fv Q0=(fk Q0).bind λp=>(fv p.2).bind λq=>match p.1,q.1 with
 |.own (.Y dk),.own o=>(cH dk).map λk=>(.own (.aL [(k,o)]),q.2)
 |_,_=>none:=rfl
def V'{ek ev:Expr}{fk fv:GE}(hu:X.A.units+41<cLine)(hk:PE X ek (tG K fk))(hv:PE X ev (tG K fv))(hK:X.K=K:=by rfl):PE X (.Dict [some ek] [ev] pos) (tG K (Fz fk fv)):=(P0 hu hk hv).mono λZ H Q t=>by
 subst hK;obtain⟨F,A,Q0,rr,ax,k,e,w⟩:=t;unfold Fz at e;obtain⟨⟨r1,aH⟩,e1,e'⟩:=eE.mp e;clear e;obtain⟨⟨r2,cn⟩,e2,e⟩:=eE.mp e';clear e';dsimp only at e2 e;split at e
 .rename_i dk ov
  obtain⟨key,ek,e⟩:=jP.mp e;cases e;intro p hn;have nA:p∉A:=λm=>k.os.there p m hn
  have s:aF H (upd H p (.dG [] 0)):=uZ hn;have k0:OK X.K F (upd H p (.dG [] 0)) Z Q0 A:=⟨k.le.trans s,k.os.keep (aF.refl _) λa _ o e=>s a o e,k.nd,k.fr⟩
  refine⟨F,A,Q0,_,aH,k0,e1,λx H1 pp=>?_⟩
  obtain⟨F1,A1,x1,k1,hh1⟩:=pp;have k1:OK X.K F1 H1 ([some x]++Z) ([some (.Y dk)]++aH) A1:=k1;obtain⟨C,kC,fr⟩:=k1.frame rfl;refine⟨F1,C,aH,_,ax,kC,e2,λy H2 pp=>?_⟩
  obtain⟨F2,A2,x2,k2,Tu⟩:=pp;obtain⟨A3,x3,k3⟩:=fr _ _ _ _ _ x2 k2;have k3:OK X.K F2 H2 (some x::some y::Z) (some (.Y dk)::some ov::ax) A3:=k3;have oM:=x1.trans x3;have Dm:H2 p=some (.dG [] 0):=oM.keep p _ jl nA;obtain⟨B1,C1,o1,o2,q1⟩:=ah.one k3.os;obtain⟨B2,C2,o3,o4,q2⟩:=ah.one o2;have rx:aw X.K F2 [x] [key.d]:=by rw[(nq ek).1];exact rg o1
  refine⟨key,Dm,rx.mono k3.le,(nq ek).2,w (.ref p) _ ?_⟩;have np:∀a∈A3,a≠p:=λa m z=>by
   subst z;rcases oM.own a m with z|z
   .exact nA z
   .rw[jl] at z;cases z
  have kp:∀a∈A3,∀o,H2 a=some o->upd H2 p (.dG [(key,x,y)] 1) a=some o:=λa m o e=>by rw[cW (np a m)];exact e
  subst q2 q1;have lT:∀a∈B2++C2,a∈B1++(B2++C2):=λa m=>gE _ m
  have Bt:F2 p=none:=by
   cases eF:F2 p with
   |none=>rfl
   |some o=>
    rcases oM.new p (by rw[eF];exact λz=>by cases z) with z|z|z
    .exact bZ (k.le.free hn) z
    .exact bZ z nA
    .rw[jl] at z;cases z
  have DB:=k3.nd;rw[jk] at DB;refine⟨F2,p::B2++C2,⟨oM.ff,λa o e n=>?_,λa h=>?_,λa h=>?_,λa m=>?_⟩,⟨λa o e=>?_,?_,?_,?_⟩,ig⟩
  .have:=oM.keep a o (s a o e) n;rw[cW (mI e hn)];exact this
  .by_cases z:a=p
   .rw[z,jl];exact λz=>by cases z
   .rw[cW z];exact oM.rE a (λz'=>h (s.free z'))
  .rcases oM.new a h with z|z|z
   .exact .inl z
   .exact .inr (.inl z)
   .exact .inr (.inr (s.free z))
  .rcases eO.mp m with rfl|m
   .exact .inr hn
   .rcases oM.own a (lT a m) with z|z
    .exact .inl z
    .exact .inr (s.free z)
  .have h1:=k3.le a o e;rw[cW (λz=>by rw[z,Bt] at e;cases e)];exact h1
  .exact .aL (A:=B2) (B:=C2) jl rfl rx (o3.keep (aF.refl _) λa m=>kp a (lT a (g_ _ m))) (o4.keep (aF.refl _) λa m=>kp a (lT a (gE _ m)))
  .exact ib.mpr ⟨λm=>np p (lT p m) rfl,DB.2.1⟩
  .intro a m;rcases eO.mp m with rfl|m
   .exact Bt
   .exact k3.fr a (lT a m)
 .cases e
end
theorem UY{Q:Bool->az->Prop}{P:fO}{w:eK}{A:dZ}{E:aq->az->Prop}{s:az}{d:ak}(hT:s.TypeIs (.ref d) "dict")(h:Q false s):wpAny (model P w) A (Builtin.List.listLengthHint (.ref d)) Q E s:=by
 unfold Builtin.List.listLengthHint;refine aI (wpAny_specialOf hT F.slot_dict_len.lookup ?_);dsimp only;rw[show splitId "dict.__len__"=some ("dict","__len__") from by decide +kernel]
 dsimp only;refine aI (wpAny_isInstance (b:=true) hT (by rw[isSubtype_type];kernel_rfl) ?_)
 rw[aY (by decide)]
 refine wpAny_ite_true (by decide +kernel) (aI (wpAny_typeOf hT ?_))
 exact bz h
section
variable{P:fO}{w:eK}{A:dZ}{E:aq->az->Prop}{s:az}
def Wa{n ep:Nat}{ob:Obj}{xs:Array DictEntry}(hh:A.handled=none)(J d:ak)(pH:d≠J)(g2:ob.data=.dict xs ep)(hl:xs.size=n):
  Walks P w A J [J,d] [J] n (λi v=>xs[i]?.map (·.key)=some v) (λi h=>h.IsKeyIter J d i n ep/\h.get? d=some ob) where
 sub:=λb hb=>by simp at hb;simp[hb]
 frame:=λ_ _ _ st hk=>⟨st.1.at λo e=>hk J (by simp) o e,hk d (by simp) _ st.2⟩
 item:=λi s Q E hi st hQ=>by
  have lt:i<xs.size:=by lia
  refine OH st.2 g2 hl st.1 lt λh' Dr sb=>?_
  exact hQ _ h' s.toks (by rw[pW lt];rfl) ⟨Dr,(sb.2 d pH).trans st.2⟩ λb o hb e=>sb.extBut b o (λh=>hb (by simp[h])) e
 done:=λs Q E st hQ=>Pd hh st.2 g2 hl st.1 (cP _) λh' Hz=>hQ h' s.toks λb o hb e=>Hz b o (λh=>hb (by simp[h])) e
 self:=λ_ _ _ _ st hQ=>wpAny_pyIter_keyiter st.1 hQ
end
theorem QS:∀{ys:List V} {us:List aq},ys.length=us.length->(∀(j:Nat) (y:V) (u:aq),ys[j]?=some y->us[j]?=some u->RelV y u)->Vals ys us
 |[],[],_,_=>.nil
 |y::ys,u::us,hl,h=>.cons (h 0 y u rfl rfl) (QS (by simpa using hl) λj y' u' e1 e2=>h (j+1) y' u' (by simpa using e1) (by simpa using e2))
 |[],_::_,h,_=>by simp at h
 |_::_,[],h,_=>by simp at h
section
variable{X:Cx}{ae:List (ak×Obj)}{Z:St}{H:Hp}
theorem UG{E:aq->az->Prop}{A:dZ}{s:az}{d:ak}{es:List (TK×V×V)}{ep:Nat}{Q:aq->az->Prop}(hh:A.handled=none)(I:Inv X ae Z H s)(hd:H d=some (.dG es ep))
  (hQ:∀s',(∀b u,s.heap.get? b=some u->s'.heap.get? b=some u)->s'={ s with heap:=s'.heap,toks:=s'.toks}->(∃aG c,Vals (es.map (·.2.1)) aG/\s'.heap.get? s.heap.objs.size=some { cls:=.type "list",data:=.seq aG.toArray c})->Q (.ref s.heap.objs.size) s') :
  wpAny (model X.prog X.w) A (call (.type "list") [.ref d]) Q E s:=by
 obtain⟨hz,z,ob,xs,g1,g5,g2,g3,g4⟩:=(show cG X.prog X.w H s.heap d (.dG es ep) from I.cX d _ hd);have hl:xs.size=es.length:=by have:=Paired.length g3;simpa using this.symm
 have ld:d<s.heap.objs.size:=fW g1;refine callType_codes (Q₁:=λobj s₁=>obj=.ref s.heap.objs.size/\s₁={ s with heap:=s.heap.push { cls:=.type "list",data:=.seq #[]}}) F.called_list (F.typeCall_list_1 _) F.entry_list_init (code_list_new _ ⟨rfl,rfl⟩) λobj s₁ q₁=>?_
 obtain⟨rfl,rfl⟩:=q₁;have gS:(s.heap.push { cls:=.type "list",data:=.seq #[]}).get? s.heap.objs.size=some { cls:=.type "list",data:=.seq #[]}:=oP _ rfl;refine⟨⟨_,gS,rfl⟩,F.args_list_init_2 _ _,?_⟩;show wpAny _ _ (do let old <-Builtin.List.listItems (.ref s.heap.objs.size);Builtin.List.listUpdate (.ref s.heap.objs.size) (λ_=>#[]);letGo old.toList.reverse;Builtin.List.listExtendWith (.ref s.heap.objs.size) (.ref d) .none) _ _ _
 refine aI ?_;unfold Builtin.List.listItems;refine aI (wpAny_seqItems gS rfl (bz ?_));show wpAny _ _ (updateSeq s.heap.objs.size (λ_=>#[]) >>= λ_=>letGo (#[]:Array aq).toList.reverse >>= λ_=>Builtin.List.listExtendWith (.ref s.heap.objs.size) (.ref d) .none) _ _ _
 refine aI (wpAny_updateSeq gS rfl ?_);have gT:=vX (Obj.mapSeq (λ_=>(#[]:Array aq))) gS rfl
 refine aI (wpAny_letGo ?_);have nS:∀b u,s.heap.get? b=some u->b≠s.heap.objs.size:=λb u e z=>by rw[z] at e;exact pT _ (fW e)
 have k1:∀b u,s.heap.get? b=some u->((s.heap.push { cls:=.type "list",data:=.seq #[]}).update s.heap.objs.size (Obj.mapSeq (λ_=>(#[]:Array aq)))).get? b=some u:=
  λb u e=>(Ij _ _ (Ne.symm (nS b u e))).trans (jN _ e)
 have AN:((s.heap.push { cls:=.type "list",data:=.seq #[]}).update s.heap.objs.size (Obj.mapSeq (λ_=>(#[]:Array aq)))).objs.size=s.heap.objs.size+1:=by simp[Heap.update,Heap.push]
 generalize(s.heap.push { cls:=.type "list",data:=.seq #[]}).update s.heap.objs.size (Obj.mapSeq (λ_=>(#[]:Array aq)))=h1 at *
 have I1:Inv X ae Z H { s with heap:=h1,toks:=s.toks}:=I.kept k1;have hT1:Shared.TypeIs { s with heap:=h1} (.ref d) "dict":=⟨ob,k1 _ _ g1,g5.1⟩;unfold Builtin.List.listExtendWith;refine aI (wpAny_typeOf hT1 ?_);have ne:s.heap.objs.size≠d:=λe=>pT _ (e ▸ ld)
 have c1:Builtin.List.listSameRef (.ref s.heap.objs.size) (.ref d)=false:=by simp[Builtin.List.listSameRef,ne]
 have c2:(Value.type "dict" == Value.type "list")=false:=by decide
 have c3:(Value.type "dict" == Value.type "tuple")=false:=by decide
 simp only[c1,c2,c3,NM,lK,ck];refine aI (P4 I1 hd ?_);have Me:Shared.TypeIs { s with heap:=h1.push { cls:=.type "dict_keyiterator",data:=.fields #[.ref d,.int 0 0,.int es.length 0,.int ep 0]}} (.ref d) "dict":=⟨ob,jN _ (k1 _ _ g1),g5.1⟩;refine aI (nI (UY Me ?_));refine wpAny_ite_true (by decide +kernel) (aI (wpAny_rule (aI ?_)))
 show wpAny _ _ (updateSeq s.heap.objs.size (·.push .none) >>= λ_=>updateSeq s.heap.objs.size (·.pop)) _ _ _
 have gU:=jN { cls:=.type "dict_keyiterator",data:=.fields #[.ref d,.int 0 0,.int es.length 0,.int ep 0]} gT;refine aI (wpAny_updateSeq gU rfl ?_);have gV:=vX (Obj.mapSeq (·.push Value.none)) gU rfl
 refine wpAny_updateSeq (hz:=by seq_fits) gV rfl ?_
 have gW:=vX (Obj.mapSeq (·.pop)) gV rfl
 have gJ:(h1.push { cls:=.type "dict_keyiterator",data:=.fields #[.ref d,.int 0 0,.int es.length 0,.int ep 0]}).get? h1.objs.size=some { cls:=.type "dict_keyiterator",data:=.fields #[.ref d,.int 0 0,.int es.length 0,.int ep 0]}:=oP _ rfl;have Nb:∀b o,b≠s.heap.objs.size->(h1.push { cls:=.type "dict_keyiterator",data:=.fields #[.ref d,.int 0 0,.int es.length 0,.int ep 0]}).get? b=some o->
   (((h1.push { cls:=.type "dict_keyiterator",data:=.fields #[.ref d,.int 0 0,.int es.length 0,.int ep 0]}).update s.heap.objs.size (Obj.mapSeq (·.push Value.none))).update s.heap.objs.size (Obj.mapSeq (·.pop))).get? b=some o:=
  λb o hb e=>(Ij _ _ (Ne.symm hb)).trans ((Ij _ _ (Ne.symm hb)).trans e)
 have hJ:h1.objs.size≠s.heap.objs.size:=by rw[AN];exact Nat.succ_ne_self _
 have dJ:d≠h1.objs.size:=lJ (by rw[AN];exact Nat.lt_succ_of_lt ld)
 have W:=(Wa (P:=X.prog) (w:=X.w) (A:=A.in1.in1) (n:=es.length) (ep:=ep) hh h1.objs.size d dJ g2 hl).toS;have hSf:s.heap.objs.size∉[h1.objs.size,d]:=λm=>by
  simp at m;rcases m with m|m
  .exact hJ m.symm
  .exact ne m
 refine bz ⟨plainId_quiet F.plain_extend_loop _,codeAny_extend_loopS W hz _ hSf _ es.length 0 _ _ _ rfl (kK _) ⟨⟨_,Nb _ _ hJ gJ,rfl,rfl⟩,Nb _ _ (Ne.symm ne) (jN _ (k1 _ _ g1))⟩ gW (ItemsOf.nil _) λs' BQ c' hm hS' vk=>?_⟩
 obtain⟨m1,m2,m3,m4,m5⟩:=hm;have es':s'={ s with heap:=s'.heap,toks:=s'.toks}:=by
  cases s';cases m2;cases m3;cases m4;rfl
 refine⟨rfl,hQ s' (λb u e=>m1 b u (λq=>?_) (Nb b u (nS b u e) (jN _ (k1 b u e)))) es' ⟨BQ.toList,c',?_,by simpa using hS'⟩⟩
 .rcases eO.mp q with q|q
  .exact nS b u e q
  .rw[jI] at q;have:=fW e;rw[q,AN] at this;exact bZ this (Nat.not_lt.mpr (Ik _))
 .have h2:BQ.size=es.length:=vk.1;refine QS (by simp[h2]) λj y u e1 e2=>?_
  rw[jO] at e1;obtain⟨e,e3,rfl⟩:=jP.mp e1;obtain⟨x,x1,x2⟩:=zu j g3 e3;have h3:=vk.2 j u (by rw[<-mF];exact e2)
  have x1:xs[j]?=some x:=by rw[<-mF];exact x1
  have h3:Option.map (λx=>x.key) xs[j]?=some u:=h3
  rw[x1] at h3;cases h3;exact x2.2.1
def T8(K:FG):List V->Hp->VK->Prop:=λxs H Q=>∃d es ep,xs=[.ref d]/\H d=some (.dG es ep)/\∀l,H l=none->Q (.ref l) (upd H l (.lst (es.map (·.2.1))))
def Vi(hc:X.calm=true):cY X (.type "list") (T8 X.K):=by
 intro ae s Z H xs us Q I r h;obtain⟨d,es,ep,rfl,hd,q⟩:=h;obtain⟨u,rfl,ru⟩:=vals1 r;cases ru;refine UG (I.ok.hd hc) I hd λs' kp es' hh=>?_
 obtain⟨aG,c,rv,g⟩:=hh;have hz:=(show cG X.prog X.w H s.heap d (.dG es ep) from I.cX d _ hd).1;rw[es'];exact⟨.ref s.heap.objs.size,_,I.laid kp (cP _) (show cG X.prog X.w _ s'.heap _ (.lst (es.map (·.2.1))) from⟨by rw[bK];exact hz,aG,c,rv,g⟩),rfl,q _ (I.cX.fresh (cP _))⟩
def Cr:List O->ao O
 |[.aL kvs]=>some (.lst ((kvs.map (·.1.d)).map .Y))
 |[.Y (.aL kvs)]=>some (.lst ((kvs.map (·.1.d)).map .Y))
 |_=>none
def Xu{K:FG}:cT K (T8 K) Cr:=by
 intro F H vs os o Q le fD e res;unfold Cr at e;split at e
 .rename_i kvs
  obtain⟨x,B,rfl,h1⟩:=fD.one;cases e;cases h1 with
  |@aL a ws _ ep A1 B1 _ _ hd hk rk ch t=>exact⟨a,ws,ep,rfl,hd,λl hl=>res.lst rk hl⟩
 .rename_i kvs
  obtain⟨x,B,rfl,h1⟩:=fD.one;cases e;have rp:=rg h1;cases rp with
  |flat z _=>cases z
  |@aL a ws _ ep _ _ hd hk rk ri _=>exact⟨a,ws,ep,rfl,le _ _ hd,λl hl=>res.lst rk hl⟩
 .cases e
def Xv{K:FG}{e:Expr}{fs:GA}{p pos:Pos}(hm:X.mg "list"=none)(ha:PA X [e] (jY K fs))(hc:X.calm=true:=by rfl)(hg:Gl X "list":=by rfl)(he:starEach [e] X.env=(false,eval e X.env)::starEach [] X.env:=by rfl)(ka:(backTo pos (starEach [] X.env)).any (·.1)=false:=by rfl)(hK:X.K=K:=by rfl):PE X (.Call (.Name "list" p) [e] [] pos) (tG K (gO Cr fs)):=by
 subst hK;exact xK (Vi hc) Xu hm wj ha hg (by decide) (by decide) he ka
end
section
variable{X:Cx}{K:FG}{fa fb fc:GE}{m:List Bool}{a b c:Expr}{pos:Pos}
noncomputable def Gj(c1 c2:Int->Int->Bool)(fa fb fc:GE):GT:=λQ0=>(fa Q0).bind λp=>(fb p.2).bind λq=>match p.1,q.1 with
 |.own (.Y (.int x)),.own (.Y (.int y))=>if c1 x y=true then(fc q.2).bind λr=>match r.1 with
   |.own (.Y (.int z))=>some (c2 y z,r.2)
   |_=>none
  else some (false,q.2)
 |_,_=>none
theorem Xw(c1 c2:Int->Int->Bool)(fa fb fc:GE)(Q0:Gm):Gj c1 c2 fa fb fc Q0=(fa Q0).bind λp=>(fb p.2).bind λq=>match p.1,q.1 with
 |.own (.Y (.int x)),.own (.Y (.int y))=>if c1 x y=true then(fc q.2).bind λr=>match r.1 with
   |.own (.Y (.int z))=>some (c2 y z,r.2)
   |_=>none
  else some (false,q.2)
 |_,_=>none:=rfl
def Xx{op yX:CmpOp}{c1 c2:Int->Int->Bool}(ho:f_ X (compareOp op) (rK λi j=>.bl (c1 i j)))(sP:f_ X (compareOp yX) (rK λi j=>.bl (c2 i j)))(ha:PE X a (tG K fa))(hb:PE X b (tG K fb))(hc:PE X c (tG K fc))
  (hm:lastMarks [op,yX] [b,c]=false:=by with_unfolding_all rfl):PT X (.Compare a [op,yX] [b,c] pos) (ia K (Gj c1 c2 fa fb fc)):=(WO ho sP ha hb hc hm).mono λZ H Q t=>by
 obtain⟨F,A,Q0,rb,ax,k,e,w⟩:=t;unfold Gj at e;obtain⟨⟨r1,aH⟩,e1,e'⟩:=eE.mp e;clear e;obtain⟨⟨r2,cn⟩,e2,e⟩:=eE.mp e';clear e';dsimp only at e2 e;split at e
 .rename_i x y
  refine⟨F,A,Q0,_,aH,k,e1,λv H1 pp=>?_⟩
  have hv:v=.int x:=fR.flat pp rfl;subst hv;obtain⟨F1,A1,x1,k1,hh⟩:=pp;obtain⟨B,C,h1,h2,h3⟩:=ah.one (Z:=Z) (Q0:=aH) k1.os;subst h3;obtain⟨k2,x2⟩:=k1.sub h2 (.bb (ng _ _));refine⟨F1,C,aH,_,cn,k2,e2,λv2 H2 T6=>?_⟩
  have hv2:v2=.int y:=fR.flat T6 rfl;subst hv2;obtain⟨F2,A2,x3,k3,Tu⟩:=T6;obtain⟨B2,C2,h4,h5,h6⟩:=ah.one (Z:=Z) (Q0:=cn) k3.os;subst h6;obtain⟨k4,x4⟩:=k3.sub h5 (.bb (ng _ _));have Uk:=(x1.trans x2).trans (x3.trans x4);refine⟨x,y,rfl,rfl,c1 x y,rfl,?_⟩;cases Tp:c1 x y with
  |true=>
   rw[Tp,aU rfl] at e;rw[aU rfl];obtain⟨⟨r3,o_⟩,e3,e4⟩:=eE.mp e;dsimp only at e4;split at e4
   .rename_i z
    cases e4;refine⟨F2,C2,cn,_,_,k4,e3,λv3 H3 T7=>?_⟩
    have hv3:v3=.int z:=fR.flat T7 rfl;subst hv3;obtain⟨F3,A3,x5,k5,HB⟩:=T7;obtain⟨B3,C3,h7,h8,h9⟩:=ah.one (Z:=Z) k5.os;subst h9;obtain⟨k6,x6⟩:=k5.sub h8 (.bb (ng _ _));exact⟨y,z,rfl,rfl,_,rfl,w H3 ⟨F3,C3,Uk.trans (x5.trans x6),k6,ig⟩⟩
   .cases e4
  |false=>
   rw[Tp,aY t8] at e;rw[aY t8];cases e;exact⟨_,rfl,w H2 ⟨F2,C2,Uk,k4,ig⟩⟩
 .cases e
end
section
variable{X:Cx}{K:FG}{a b c d:Expr}{ta tb tc td:TE}{fa fb fc fd:GE}{pos:Pos}
end
end L2
namespace L2
open PySem
variable{mask i k j:Nat}{t:nH}{es:Array (Int×aq)}{hs:List Int}{ow:Array (ao Nat)}{js:List Nat}
def qt:Nat->Nat->Nat
 |0,x=>x
 |n+1,x=>qt n (5*x+1)
theorem FA:∀(m n x:Nat),qt (m+n) x=qt n (qt m x)
 |0,n,x=>by rw[Es];rfl
 |m+1,n,x=>by rw[Nat.succ_add];exact FA m n _
def Y3(k:Nat):∃c,c%2=1/\∀x,qt (2^k) x=x+2^k*(c*(4*x+1)):=by
 induction k with
 |zero=>exact⟨1,rfl,λx=>by show 5*x+1=_;lia⟩
 |succ k ih=>
  obtain⟨c,hc,e⟩:=ih;refine⟨c*(1+2*(2^k*c)),by rw[NT,hc];lia,λx=>?_⟩
  rw[Et,show 2^k*2=2^k+2^k from by lia,FA,e,e]
  generalize 2^k=p;generalize hz:4*x+1=z;have h1:4*(x+p*(c*z))+1=z*(1+4*(p*c)):=by
   rw[A7 z,NU,<-hz,show(4*x+1)*(4*(p*c))=4*(p*(c*(4*x+1))) from by
    rw[A_ (4*x+1),Eu,Eu]]
   lia
  rw[h1];have h2:p*(c*(z*(1+4*(p*c))))=p*(c*z)+4*(p*(c*z)*(p*c)):=by
   rw[A7 z,A7 c,A7 p,NU]
   congr 1
   simp only[A_,Nat.mul_left_comm,Eu]
  have h3:(p+p)*(c*(1+2*(p*c))*z)=2*(p*(c*z))+4*(p*(c*z)*(p*c)):=by
   rw[<-Nat.two_mul,A7 c,NU,Nat.add_mul c,A7 (2*p)]
   congr 1
   .rw[Eu]
   .rw[show(4:Nat)=2*2 from rfl];simp only[A_,Nat.mul_left_comm,Eu]
  rw[h2,h3];lia
def Xy(k:Nat):∀x y,∃n,n<2^k/\qt n x%2^k=y%2^k:=by
 induction k with
 |zero=>exact λx y=>⟨0,by decide,by lia⟩
 |succ k ih=>
  intro x y;obtain⟨n,hn,e⟩:=ih x y;obtain⟨c,hc,g⟩:=Y3 k;have ep:2^(k+1)=2*2^k:=by rw[Et];lia
  have hp:0<2^k:=Nat.pow_pos (by decide)
  by_cases h:qt n x%2^(k+1)=y%2^(k+1)
  .exact⟨n,by lia,h⟩
  .refine⟨n+2^k,by lia,?_⟩
   rw[FA,g];have ho:∃w,c*(4*qt n x+1)=2*w+1:=⟨c*(4*qt n x+1) / 2,by
    have:(c*(4*qt n x+1))%2=1:=by rw[NT,hc];lia
    lia⟩
   obtain⟨w,ew⟩:=ho;rw[ew];generalize qt n x=z at *;rw[ep] at h ⊢;generalize 2^k=p at *;have e3:z+p*(2*w+1)=z+p+2*p*w:=by rw[A7,NU,Nat.mul_left_comm,Eu];lia
   rw[e3,Nat.add_mul_mod_self_left];have a1:=Nat.div_add_mod z p;have a2:=Nat.div_add_mod y p;have b1:z%(2*p)=p*(z / p%2)+z%p:=by rw[A_ 2 p,Nat.mod_mul,NV]
   have b2:y%(2*p)=p*(y / p%2)+y%p:=by rw[A_ 2 p,Nat.mod_mul,NV]
   have b3:(z+p)%(2*p)=p*((z / p+1)%2)+z%p:=by
    rw[A_ 2 p,Nat.mod_mul,NV,Nat.add_div_right _ hp,Nat.add_mod_right]
   rw[b1,b2,e] at h;rw[b3,b2,e];have c1:z / p%2≠y / p%2:=λq=>h (by rw[q])
   have c2:(z / p+1)%2=y / p%2:=by lia
   rw[c2]
noncomputable def fY(mask:Nat)(h:Int):Nat->Nat×Nat
 |0=>(SetTable.bits h%(mask+1),SetTable.bits h)
 |n+1=>SetTable.leap mask (fY mask h n).1 (fY mask h n).2
noncomputable def om(mask i:Nat):Nat:=SetTable.runEnd mask i - i
def lU(mask:Nat)(h:Int):Nat->Nat
 |0=>0
 |n+1=>lU mask h n+om mask (fY mask h n).1+1
def lQ(mask:Nat)(p:SetTable.Probe):SetTable.Probe:=if p.more > 0 then{ p with j:=p.j+1,more:=p.more - 1} else
 {p with j:=(SetTable.leap mask p.i p.perturb).1,more:=om mask (SetTable.leap mask p.i p.perturb).1,i:=(SetTable.leap mask p.i p.perturb).1,perturb:=(SetTable.leap mask p.i p.perturb).2}
def HW(mask:Nat)(q:Nat×Nat)(d:Nat):SetTable.Probe:={ j:=q.1+d,more:=om mask q.1 - d,i:=q.1,perturb:=q.2,dummy:=none}
def bI(mask:Nat)(h:Int):Nat->SetTable.Probe
 |0=>HW mask (fY mask h 0) 0
 |n+1=>lQ mask (bI mask h n)
def e9h(mask i:Nat):om mask i<=9:=by unfold om SetTable.runEnd;split <;> lia
def Lr(hi:i<=mask):i+om mask i<=mask:=by unfold om SetTable.runEnd;split <;> lia
def Ls(mask:Nat)(h:Int)(L:Nat):(fY mask h L).1<=mask:=by
 cases L with
 |zero=>exact Nat.le_of_lt_succ (Nat.mod_lt _ (by lia))
 |succ L=>exact Nat.le_of_lt_succ (Nat.mod_lt _ (by lia))
theorem FC(mask:Nat)(h:Int):∀(L d:Nat),d<=om mask (fY mask h L).1->bI mask h (lU mask h L+d)=HW mask (fY mask h L) d
 |0,0,_=>rfl
 |L+1,0,_=>by
  show bI mask h (lU mask h L+om mask (fY mask h L).1+1)=_;show lQ mask (bI mask h (lU mask h L+om mask (fY mask h L).1))=_;rw[FC mask h L _ (cP _)];unfold lQ HW;rw[aY (by dsimp only;lia)]
  rfl
 |L,d+1,hd=>by
  rw[<-Nat.add_assoc];show lQ mask (bI mask h (lU mask h L+d))=_;rw[FC mask h L d (by lia)]
  unfold lQ HW;rw[aU (by dsimp only;lia)]
  simp only[SetTable.Probe.mk.injEq,and_true,true_and];lia
theorem SO(mask:Nat)(h:Int):∀L,lU mask h L<=10*L
 |0=>cP _
 |L+1=>by
  have:=SO mask h L;have:=e9h mask (fY mask h L).1;show lU mask h L+_+1<=_;lia
def Wb(mask:Nat)(h:Int)(L:Nat):(bI mask h (lU mask h L)).j=(fY mask h L).1:=by
 have:=FC mask h L 0 (kK _);rw[Ew] at this;rw[this];rfl
def Wc(mask:Nat)(p:SetTable.Probe):(lQ mask p).dummy=p.dummy:=by unfold lQ;split <;> rfl
theorem Pe(mask:Nat)(h:Int):∀n,(bI mask h n).dummy=none
 |0=>rfl
 |n+1=>(Wc mask _).trans (Pe mask h n)
def Y4(h:Int):SetTable.bits h<2^64:=by
 unfold SetTable.bits;have h1:=NP h (show(0:Int)<2^64 by decide)
 have h2:=NO h (show(2^64:Int)≠0 by decide)
 generalize h%2^64=z at *;lia
theorem QT(mask:Nat)(h:Int):∀L,(fY mask h L).2=SetTable.bits h / 32^L
 |0=>by rw[Nat.pow_zero,Nat.div_one];rfl
 |L+1=>by
  show(fY mask h L).2 / 32=_;rw[QT mask h L,Nat.div_div_eq_div_mul,<-Et]
def Y5(mask:Nat)(h:Int)(n:Nat):(fY mask h (13+n)).2=0:=by
 rw[QT];apply Nat.div_eq_of_lt;have h1:=Y4 h;have h2:32^13<=32^(13+n):=Nat.pow_le_pow_right (by decide) (by lia)
 exact iP (iP h1 (by decide)) h2
theorem SQ(mask:Nat)(h:Int):∀n,(fY mask h (13+n)).1=qt n (fY mask h 13).1%(mask+1)
 |0=>(Nat.mod_eq_of_lt (Nat.lt_succ_of_le (Ls mask h 13))).symm
 |n+1=>by
  show((fY mask h (13+n)).1*5+1+(fY mask h (13+n)).2 / 32)%(mask+1)=_;rw[Y5,SQ mask h n,FA n 1];show(qt n _%(mask+1)*5+1+0)%(mask+1)=(5*qt n _+1)%(mask+1);rw[Ew,Nat.add_mod,NT,Nat.mod_mod,<-NT,<-Nat.add_mod,A_]
def QU(hk:mask+1=2^k)(h:Int)(j:Nat)(hj:j<=mask):∃L,L<mask+14/\(fY mask h L).1=j:=by
 obtain⟨n,hn,e⟩:=Xy k (fY mask h 13).1 j;refine⟨13+n,by lia,?_⟩
 rw[SQ,hk,e,<-hk];exact Nat.mod_eq_of_lt (Nat.lt_succ_of_le hj)
def qG(xs:Array Nat):Prop:=∀(i k u v:Nat),i<k->xs[i]?=some u->xs[k]?=some v->u<v
theorem JK{xs:Array Nat}(inc:qG xs)(j:Nat):∀(fuel lo hi:Nat),hi - lo<=fuel->lo<=hi->hi<=xs.size->(∀i v,i<lo->xs[i]?=some v->v<j)->(∀i v,hi<=i->xs[i]?=some v->j<=v)->
  (∀i v,i<SetTable.below.go xs j fuel lo hi->xs[i]?=some v->v<j)/\(∀i v,SetTable.below.go xs j fuel lo hi<=i->xs[i]?=some v->j<=v)/\SetTable.below.go xs j fuel lo hi<=xs.size
 |0,lo,hi,hf,hl,hh,h1,h2=>by
  have e:lo=hi:=by lia
  subst e;exact⟨h1,h2,hh⟩
 |fuel+1,lo,hi,hf,hl,hh,h1,h2=>by
  unfold SetTable.below.go;by_cases c:lo<hi
  .rw[aU c];have hm:(lo+hi) / 2<xs.size:=by lia
   have em:xs[(lo+hi) / 2]?=some xs[(lo+hi) / 2]:=pW hm;have eg:xs.getD ((lo+hi) / 2) j=xs[(lo+hi) / 2]:=by rw[Ip,em];rfl
   dsimp only;rw[eg];by_cases c2:xs[(lo+hi) / 2]<j
   .rw[aU c2];refine JK inc j fuel _ hi (by lia) (by lia) hh (λi v hi' e=>?_) h2
    by_cases c3:i=(lo+hi) / 2
    .subst c3;rw[em] at e;cases e;exact c2
    .exact Nat.lt_trans (inc i _ _ _ (by lia) e em) c2
   .rw[aY c2];refine JK inc j fuel lo _ (by lia) (by lia) (by lia) h1 (λi v hi' e=>?_)
    by_cases c3:i=(lo+hi) / 2
    .subst c3;rw[em] at e;cases e;lia
    .have:=inc _ i _ _ (by lia) em e
     lia
  .rw[aY c];have e:lo=hi:=by lia
   subst e;exact⟨h1,h2,hh⟩
def P6{xs:Array Nat}(inc:qG xs)(j:Nat):(∀i v,i<SetTable.below xs j->xs[i]?=some v->v<j)/\(∀i v,SetTable.below xs j<=i->xs[i]?=some v->j<=v)/\SetTable.below xs j<=xs.size:=
 JK inc j xs.size 0 xs.size (by lia) (by lia) (by lia) (λi v h=>bZ h (Ba _)) λi v h e=>by
  have:=(ua.mp e).1;lia
def Kk(inc:qG t.place)(h:t.place[i]?=some j):t.slot j=.live i:=by
 obtain⟨b1,b2,b3⟩:=P6 inc j;have e:SetTable.below t.place j=i:=by
  rcases NW (SetTable.below t.place j) i with c|c|c
  .have hl:=(ua.mp h).1;have e2:t.place[SetTable.below t.place j]?=some t.place[SetTable.below t.place j]:=pW (by lia)
   have:=inc _ _ _ _ c e2 h;have:=b2 _ _ (cP _) e2;lia
  .exact c
  .have:=b1 i j c h;lia
 unfold SetTable.slot;dsimp only;rw[e,h];simp
def QV(inc:qG t.place)(dm:t.dummies=#[])(h:j∉t.place.toList):t.slot j=.empty:=by
 unfold SetTable.slot;dsimp only;have e1:(t.place[SetTable.below t.place j]? == some j)=false:=by
  rw[qD];intro e;obtain⟨hl,e⟩:=ua.mp e;exact h (by rw[<-e];exact Array.getElem_mem_toList hl)
 rw[e1];have e2:SetTable.has t.dummies j=false:=by unfold SetTable.has;rw[dm];simp
 rw[e2];rfl
def Vj(inc:qG t.place)(dm:t.dummies=#[])(j:Nat):(j∉t.place.toList/\t.slot j=.empty)\/∃i,t.place[i]?=some j/\t.slot j=.live i:=by
 by_cases h:j∈t.place.toList
 .right;obtain⟨i,hi,e⟩:=Iq h;have e':t.place[i]?=some j:=by rw[<-mF,ic hi,e]
  exact⟨i,e',Kk inc e'⟩
 .exact .inl ⟨h,QV inc dm h⟩
theorem Gk:∀(n:Nat) (l:List Nat),(∀j,j<n->j∈l)->n<=l.length
 |0,_,_=>kK _
 |n+1,l,h=>by
  have m:=h n (by lia)
  have:=Gk n (l.erase n) λj hj=>(List.mem_erase_of_ne (by lia)).mpr (h j (by lia))
  rw[List.length_erase_of_mem m] at this;have:=List.length_pos_of_mem m;lia
theorem KU{p:Nat->Prop}:∀(d n:Nat),p (n+d)->∃M,n<=M/\M<=n+d/\p M/\∀m,n<=m->m<M->¬p m
 |0,n,h=>⟨n,cP _,cP _,h,λm h1 h2=>bZ h2 (by lia)⟩
 |d+1,n,h=>by
  by_cases c:p n
  .exact⟨n,cP _,by lia,c,λm h1 h2=>bZ h2 (by lia)⟩
  .obtain⟨M,h1,h2,h3,h4⟩:=KU (p:=p) d (n+1) (by rw[Nat.add_right_comm];exact h)
   refine⟨M,by lia,by lia,h3,λm g1 g2=>?_⟩
   by_cases e:m=n
   .subst e;exact c
   .exact h4 m (by lia) g2
theorem QW{t:nH}{ha:Nat->Int}{h:Int}:∀(d n fuel:Nat),d<fuel->(∀m,n<=m->m<n+d->∃i,t.slot (bI t.mask h m).j=.live i/\(ha i == h)=false)->
  (t.slot (bI t.mask h (n+d)).j=.empty->SetTable.probe.go t ha h fuel (bI t.mask h n)=some (.empty (bI t.mask h (n+d)).j none))/\
  ∀i,t.slot (bI t.mask h (n+d)).j=.live i->(ha i == h)=true->SetTable.probe.go t ha h fuel (bI t.mask h n)=some (.candidate (bI t.mask h (n+d)).j i (bI t.mask h (n+d+1)))
 |d,n,0,hf,_=>bZ hf (Ba _)
 |0,n,fuel+1,hf,_=>by
  refine⟨λe=>?_,λi e e2=>?_⟩
  .rw[Ew] at e ⊢;unfold SetTable.probe.go;rw[e];dsimp only;rw[Pe];rfl
  .rw[Ew] at e ⊢;unfold SetTable.probe.go;rw[e];dsimp only;rw[aU e2];rfl
 |d+1,n,fuel+1,hf,hm=>by
  obtain⟨i,e,e2⟩:=hm n (cP _) (by lia)
  have ih:=QW (t:=t) (ha:=ha) (h:=h) d (n+1) fuel (by lia) λm h1 h2=>hm m (by lia) (by lia)
  have eq:SetTable.probe.go t ha h (fuel+1) (bI t.mask h n)=SetTable.probe.go t ha h fuel (bI t.mask h (n+1)):=by
   conv=>lhs;unfold SetTable.probe.go
   rw[e];dsimp only;rw[e2];rfl
  rw[eq,show n+(d+1)=n+1+d from by lia]
  exact ih
structure i9 (t:nH) (es:Array (Int×aq)):Prop where
 yy:t.dummies=#[]
 sz:t.place.size=es.size
 pw:∃k,3<=k/\t.mask+1=2^k
 inc:qG t.place
 le:∀(i v:Nat),t.place[i]?=some v->v<=t.mask
 lt:es.size<=t.mask
 yB:∀(i v:Nat) (e:Int×aq),t.place[i]?=some v->es[i]?=some e->∃n,(bI t.mask e.1 n).j=v/\∀m,m<n->(bI t.mask e.1 m).j∈t.place.toList
theorem i9.fits{t:nH}{es:Array (Int×aq)}(T:i9 t es):t.fits es.size=true:=by
 unfold SetTable.fits SetTable.fill;rw[T.yy,T.sz];simp[T.lt]
def i9.way(T:i9 t es):t.gaveWay=false:=by
 obtain⟨k,hk,e⟩:=T.pw;unfold SetTable.gaveWay;obtain⟨m,rfl⟩:∃m,k=m+1:=⟨k - 1,by lia⟩
 rw[Et] at e;rw[qD];lia
def i9.hole(T:i9 t es)(h:Int):∃N,N<10*(t.mask+14)/\(bI t.mask h N).j∉t.place.toList:=by
 have:∃j,j<t.mask+1/\j∉t.place.toList:=by
  apply o7;intro c;have:=Gk (t.mask+1) t.place.toList λj hj=>o7 λq=>c ⟨j,hj,q⟩
  rw[uN,T.sz] at this;have:=T.lt;lia
 obtain⟨j,hj,hn⟩:=this;obtain⟨k,_,e⟩:=T.pw;obtain⟨L,hL,eL⟩:=QU e h j (by lia)
 refine⟨lU t.mask h L,?_,by rw[Wb,eL];exact hn⟩
 have:=SO t.mask h L;lia
def P7{α:Type}(xs:Array α)(p:Nat)(x:α)(hp:p<=xs.size)(i:Nat):(SetTable.insertAt xs p x)[i]?=if i<p then xs[i]? else if i=p then some x else xs[i - 1]?:=by
 rw[<-mF,SetTable.toList_insertAt,List.getElem?_append,pU,uN,Nat.min_eq_left hp];split
 .rename_i h
  rw[List.getElem?_take_of_lt h,mF]
 .rename_i h
  split
  .rename_i h2
   subst h2;simp
  .rename_i h2
   obtain⟨k,hk⟩:∃k,i - p=k+1:=⟨i - p - 1,by lia⟩
   rw[hk,Io,List.getElem?_drop,mF]
   congr 1
   lia
def P8{α:Type}(xs:Array α)(p:Nat)(x y:α):y∈(SetTable.insertAt xs p x).toList↔y=x\/y∈xs.toList:=by
 have:=(SetTable.insertAt_perm xs p x).mem_iff (a:=y);rw[this,Array.toList_push,eD,jI];exact Or.comm
theorem i9.put{t:nH}{es:Array (Int×aq)}(T:i9 t es){h:Int}{x:aq}{N:Nat}(hN:(bI t.mask h N).j∉t.place.toList)(hb:∀m,m<N->(bI t.mask h m).j∈t.place.toList)(hj:(bI t.mask h N).j<=t.mask)(hr:es.size+1<=t.mask):
  (t.put (bI t.mask h N).j).2<=es.size/\(t.put (bI t.mask h N).j).1.mask=t.mask/\i9 (t.put (bI t.mask h N).j).1 (SetTable.insertAt es (t.put (bI t.mask h N).j).2 (h,x)):=by
 generalize hjj:(bI t.mask h N).j=j at *;obtain⟨b1,b2,b3⟩:=P6 T.inc j;have e2:SetTable.has t.dummies j=false:=by unfold SetTable.has;rw[T.yy];simp
 have ep:t.put j=({ t with place:=SetTable.insertAt t.place (SetTable.below t.place j) j,dummies:=t.dummies},SetTable.below t.place j):=by
  unfold SetTable.put;rw[e2];rfl
 rw[ep];dsimp only;generalize SetTable.below t.place j=p at *;have ge:=P7 t.place p j b3;have ge2:=P7 es p (h,x) (by rw[<-T.sz];exact b3)
 have nj:∀i v,t.place[i]?=some v->v≠j:=λi v e q=>hN (by
  obtain⟨hl,e⟩:=ua.mp e;rw[<-q,<-e];exact Array.getElem_mem_toList hl)
 refine⟨by rw[<-T.sz];exact b3,rfl,T.yy,?_,T.pw,?_,?_,?_,?_⟩
 .show(SetTable.insertAt t.place p j).size=_;have h1:=(SetTable.insertAt_perm t.place p j).length_eq;have h2:=(SetTable.insertAt_perm es p (h,x)).length_eq;simp only[uN,Array.size_push] at h1 h2;rw[h1,h2,T.sz]
 .intro i k u v Dg e1 e2;show u<v;have e1:(SetTable.insertAt t.place p j)[i]?=some u:=e1;have e2:(SetTable.insertAt t.place p j)[k]?=some v:=e2;rw[ge] at e1 e2;split at e1
  .split at e2
   .exact T.inc i k u v Dg e1 e2
   .split at e2
    .cases e2;exact b1 i u (by assumption) e1
    .have h1:=b1 i u (by assumption) e1
     have h2:=b2 (k - 1) v (by lia) e2
     lia
  .split at e1
   .cases e1;split at e2
    .lia
    .split at e2
     .lia
     .have h2:=b2 (k - 1) v (by lia) e2
      have:=nj _ _ e2;lia
   .split at e2
    .lia
    .split at e2
     .lia
     .exact T.inc (i - 1) (k - 1) u v (by lia) e1 e2
 .intro i v e;have e:(SetTable.insertAt t.place p j)[i]?=some v:=e;rw[ge] at e;split at e
  .exact T.le i v e
  .split at e
   .cases e;exact hj
   .exact T.le _ v e
 .have h2:=(SetTable.insertAt_perm es p (h,x)).length_eq;simp only[uN,Array.size_push] at h2;show(SetTable.insertAt es p (h,x)).size<=t.mask;lia
 .intro i v e g1 g2;have g1:(SetTable.insertAt t.place p j)[i]?=some v:=g1;rw[ge] at g1;rw[ge2] at g2;have up:∀y,y∈t.place.toList->y∈(SetTable.insertAt t.place p j).toList:=λy m=>(P8 _ _ _ _).mpr (.inr m)
  split at g1
  .rename_i c
   rw[aU c] at g2;obtain⟨n,q1,q2⟩:=T.yB i v e g1 g2;exact⟨n,q1,λm hm=>up _ (q2 m hm)⟩
  .rename_i c
   rw[aY c] at g2;split at g1
   .rename_i c2
    rw[aU c2] at g2;cases g1;cases g2;exact⟨N,hjj,λm hm=>up _ (hb m hm)⟩
   .rename_i c2
    rw[aY c2] at g2;obtain⟨n,q1,q2⟩:=T.yB _ v e g1 g2;exact⟨n,q1,λm hm=>up _ (q2 m hm)⟩
theorem QX{α:Type}[DecidableEq α]:∀(l l':List α),l.Nodup->(∀x,x∈l->x∈l')->l.length<=l'.length
 |[],_,_,_=>kK _
 |x::l,l',nd,h=>by
  obtain⟨h1,h2⟩:=ib.mp nd;have m:=h x (by simp)
  have:=QX l (l'.erase x) h2 λy hy=>(List.mem_erase_of_ne (λe=>h1 (by rw[<-e];exact hy))).mpr (h y (by simp[hy]))
  rw[List.length_erase_of_mem m] at this;have:=List.length_pos_of_mem m;rw[iZ];lia
structure kP (mask:Nat) (hs:List Int) (ow:Array (ao Nat)) (js:List Nat):Prop where
 DL:ow.size=mask+1
 len:js.length=hs.length
 own:∀(j k:Nat),ow[j]?=some (some k)↔js[k]?=some j
 yB:∀(k:Nat) (h:Int) (j:Nat),hs[k]?=some h->js[k]?=some j->∃n,(bI mask h n).j=j/\∀m,m<n->(bI mask h m).j∈js
def kP.AK(I:kP mask hs ow js)(hj:j<=mask):(ow.getD j (some 0)).isNone=true↔j∉js:=by
 have hl:j<ow.size:=by rw[I.DL];lia
 have e:ow[j]?=some ow[j]:=pW hl;rw[Ip,e,Option.getD_some];constructor
 .intro h m;obtain⟨k,hk,e2⟩:=Iq m;have:=(I.own j k).mpr (by rw[ic hk,e2])
  rw[e] at this;injection this with q;rw[q] at h;cases h
 .intro h;cases q:ow[j] with
  |none=>rfl
  |some k=>
   rw[q] at e;exact bZ (kL ((I.own j k).mp e)) h
theorem QY{mask k:Nat}{hs:List Int}{ow:Array (ao Nat)}{js:List Nat}(I:kP mask hs ow js)(hk:mask+1=2^k)(h:Int){L0:Nat}(h0:(fY mask h L0).1∉js):∀(fuel L:Nat),L<=L0->L0<L+fuel->(∀m,m<lU mask h L->(bI mask h m).j∈js)->
  ∃n,SetTable.layClean.free mask ow fuel (fY mask h L).1 (fY mask h L).2=some (bI mask h n).j/\(bI mask h n).j<=mask/\(bI mask h n).j∉js/\∀m,m<n->(bI mask h m).j∈js
 |0,L,h1,h2,_=>bZ h2 (by lia)
 |fuel+1,L,h1,h2,hb=>by
  have hi:=Ls mask h L;have run:=FC mask h L;have hmr:SetTable.runEnd mask (fY mask h L).1+1 - (fY mask h L).1=om mask (fY mask h L).1+1:=by
   unfold om SetTable.runEnd;split <;> lia
  have w6:=Lr hi;have step:SetTable.layClean.free mask ow (fuel+1) (fY mask h L).1 (fY mask h L).2=(match(List.range (om mask (fY mask h L).1+1)).find? λk=>(ow.getD ((fY mask h L).1+k) (some 0)).isNone with
    |some k=>some ((fY mask h L).1+k)
    |none=>SetTable.layClean.free mask ow fuel (fY mask h (L+1)).1 (fY mask h (L+1)).2):=by
   conv=>lhs;unfold SetTable.layClean.free
   rw[hmr];rfl
  rw[step];cases q:(List.range (om mask (fY mask h L).1+1)).find? λk=>(ow.getD ((fY mask h L).1+k) (some 0)).isNone with
  |some d=>
   obtain⟨p1,p2,p3⟩:=List.find?_range_eq_some.mp q;have hd:d<=om mask (fY mask h L).1:=by have:=nv.mp p2;lia
   have ej:(bI mask h (lU mask h L+d)).j=(fY mask h L).1+d:=by rw[run d hd];rfl
   refine⟨lU mask h L+d,by rw[ej],by rw[ej];lia,by rw[ej];exact(I.AK (by lia)).mp p1,λm hm=>?_⟩
   by_cases c:m<lU mask h L
   .exact hb m c
   .obtain⟨d',e⟩:∃d',m=lU mask h L+d':=⟨m - lU mask h L,by lia⟩
    subst e;have e2:(bI mask h (lU mask h L+d')).j=(fY mask h L).1+d':=by rw[run d' (by lia)];rfl
    have:=p3 d' (by lia)
    rw[e2];apply o7;intro z;rw[(I.AK (by lia)).mpr z] at this
    cases this
  |none=>
   have p:=List.find?_range_eq_none.mp q;have AK:∀d,d<=om mask (fY mask h L).1->(fY mask h L).1+d∈js:=λd hd=>by
    have:=p d (by lia)
    apply o7;intro z;rw[(I.AK (by lia)).mpr z] at this
    cases this
   have ne:L≠L0:=λe=>by
    subst e;have:=AK 0 (kK _);rw[Ew] at this;exact h0 this
   refine QY I hk h h0 fuel (L+1) (by lia) (by lia) λm hm=>?_
   have hm:m<lU mask h L+om mask (fY mask h L).1+1:=hm;by_cases c:m<lU mask h L
   .exact hb m c
   .obtain⟨d',e⟩:∃d',m=lU mask h L+d':=⟨m - lU mask h L,by lia⟩
    subst e;have e2:(bI mask h (lU mask h L+d')).j=(fY mask h L).1+d':=by rw[run d' (by lia)];rfl
    rw[e2];exact AK d' (by lia)
def kP.next(I:kP mask hs ow js)(hk:mask+1=2^k)(h:Int)(hl:hs.length<=mask):
  ∃j,SetTable.layClean.free mask ow (SetTable.turns mask) (SetTable.bits h%(mask+1)) (SetTable.bits h)=some j/\kP mask (hs++[h]) (ow.setIfInBounds j (some hs.length)) (js++[j]):=by
 have:∃j,j<mask+1/\j∉js:=by
  apply o7;intro c;have:=Gk (mask+1) js λj hj=>o7 λq=>c ⟨j,hj,q⟩
  rw[I.len] at this;lia
 obtain⟨j0,hj0,yH⟩:=this;obtain⟨L,hL,eL⟩:=QU hk h j0 (by lia)
 obtain⟨n,e,h1,h2,h3⟩:=QY I hk h (L0:=L) (by rw[eL];exact yH) (SetTable.turns mask) 0 (kK _) (by unfold SetTable.turns;lia) (λm hm=>bZ hm (Ba _))
 refine⟨_,e,?_⟩;generalize hj:(bI mask h n).j=j at *;have len:=I.len;refine⟨by rw[Array.size_setIfInBounds,I.DL],by rw[du,du,len];rfl,λj' k'=>?_,λk' h' j' e1 e2=>?_⟩
 .rw[Array.getElem?_setIfInBounds,I.DL];by_cases c:j=j'
  .subst c;rw[aU rfl,aU (by lia)]
   constructor
   .intro q;cases q;rw[<-len];simp
   .intro q;rcases NW k' js.length with z|z|z
    .rw[xB z] at q;exact bZ (kL q) h2
    .rw[z,len]
    .rw[zi (by lia)] at q
     have:=(e_.mp q).1;simp at this;lia
  .rw[aY c,I.own];rcases NW k' js.length with z|z|z
   .rw[xB z]
   .subst z;constructor
    .intro q;have:=(e_.mp q).1;lia
    .intro q;simp at q;exact bZ q c
   .rw[zi (by lia)]
    constructor
    .intro q;have:=(e_.mp q).1;lia
    .intro q;have:=(e_.mp q).1;simp at this;lia
 .have up:∀y,y∈js->y∈js++[j]:=λy m=>g_ _ m
  rcases NW k' js.length with z|z|z
  .rw[xB (by lia)] at e1
   rw[xB z] at e2;obtain⟨n',q1,q2⟩:=I.yB k' h' j' e1 e2;exact⟨n',q1,λm hm=>up _ (q2 m hm)⟩
  .subst z;rw[len] at e1;simp at e1 e2;subst e1;subst e2;exact⟨n,hj,λm hm=>up _ (h3 m hm)⟩
  .rw[zi (by lia)] at e2
   have:=(e_.mp e2).1;simp at this;lia
noncomputable def BZ(mask:Nat)(aE:ao (Array (ao Nat)×Nat))(h:Int):ao (Array (ao Nat)×Nat):=do
 let (ow,k) <-aE
 let j <-SetTable.layClean.free mask ow (SetTable.turns mask) (SetTable.bits h%(mask+1)) (SetTable.bits h)
 pure (ow.setIfInBounds j (some k),k+1)
theorem P9{mask k:Nat}(hk:mask+1=2^k):∀(rest hs:List Int) (ow:Array (ao Nat)) (js:List Nat),kP mask hs ow js->hs.length+rest.length<=mask+1->
  ∃HV MH,rest.foldl (BZ mask) (some (ow,hs.length))=some (HV,hs.length+rest.length)/\kP mask (hs++rest) HV MH
 |[],hs,ow,js,I,_=>⟨ow,js,rfl,by rw[jq];exact I⟩
 |h::rest,hs,ow,js,I,hl=>by
  rw[iZ] at hl;obtain⟨j,e,I2⟩:=I.next hk h (by lia)
  have e1:BZ mask (some (ow,hs.length)) h=some (ow.setIfInBounds j (some hs.length),(hs++[h]).length):=by
   unfold BZ;show(SetTable.layClean.free mask ow _ _ _).bind _=_;rw[e];show some (_,hs.length+1)=_;rw[du];rfl
  obtain⟨HV,MH,e2,I3⟩:=P9 hk rest (hs++[h]) _ _ I2 (by rw[du];simp;lia)
  refine⟨HV,MH,?_,by rw[fE] at I3;exact I3⟩
  rw[List.foldl_cons,e1,e2,du,iZ];simp;lia
def UZ(hk:mask+1=2^k)(hashes:Array Int)(hl:hashes.size<=mask+1):∃ow js,SetTable.layClean mask hashes=some ow/\kP mask hashes.toList ow js:=by
 have I0:kP mask [] (Array.replicate (mask+1) none) []:=⟨Array.size_replicate,rfl,λj k=>by
  rw[Array.getElem?_replicate];constructor
  .intro q;split at q
   .cases q
   .cases q
  .intro q;simp at q,λk h j e1 e2=>by simp at e2⟩
 obtain⟨ow,js,e,I⟩:=P9 hk hashes.toList [] _ [] I0 (by simpa using hl)
 refine⟨ow,js,?_,by simpa using I⟩
 unfold SetTable.layClean;rw[<-Array.foldl_toList];show((hashes.toList.foldl (BZ mask) (some (Array.replicate (mask+1) none,0))).map (·.1))=_
 have e:hashes.toList.foldl (BZ mask) (some (Array.replicate (mask+1) none,0))=_:=e;rw[e];rfl
def kY(mask:Nat)(ow:Array (ao Nat)):List (Nat×Nat):=(List.range (mask+1)).filterMap λj=>(ow.getD j none).map (j,·)
def Xz(I:kP mask hs ow js)(j k:Nat):(j,k)∈kY mask ow↔js[k]?=some j:=by
 unfold kY;rw[zh];constructor
 .rintro⟨j',h1,h2⟩;obtain⟨k',e1,e2⟩:=jP.mp h2;cases e2;rw[<-I.own,<-e1,Ip];cases q:ow[j]? with
  |none=>rw[Ip,q] at e1;cases e1
  |some o=>rfl
 .intro e;have o:=(I.own j k).mpr e;have hl:=(ua.mp o).1;rw[I.DL] at hl;refine⟨j,nv.mpr hl,?_⟩;rw[Ip,o];rfl
def XA(mask:Nat)(ow:Array (ao Nat)):(kY mask ow).Pairwise λa b=>a.1<b.1:=by
 unfold kY;rw[List.pairwise_filterMap];refine List.pairwise_lt_range.imp λ{a b} h x hx y hy=>?_
 obtain⟨_,_,e1⟩:=jP.mp hx;obtain⟨_,_,e2⟩:=jP.mp hy;cases e1;cases e2;exact h
def e6e{α:Type}{R:α->α->Prop}{l:List α}(h:l.Pairwise R){a b:α}(Dg:i<k)(e1:l[i]?=some a)(e2:l[k]?=some b):R a b:=by
 obtain⟨h1,g1⟩:=e_.mp e1;obtain⟨h2,g2⟩:=e_.mp e2;have:=List.pairwise_iff_getElem.mp h i k h1 h2 Dg;rw[g1,g2] at this;exact this
theorem RY{α β:Type}{f:α->ao β}:∀(l:List α),(∀x,x∈l->∃y,f x=some y)->∀(i:Nat) (x:α),l[i]?=some x->(l.filterMap f)[i]?=f x
 |[],_,i,x,e=>by simp at e
 |a::l,h,i,x,e=>by
  obtain⟨y,hy⟩:=h a (by simp)
  rw[zg,hy];dsimp only;cases i with
  |zero=>simp at e;subst e;rw[List.getElem?_cons_zero,hy]
  |succ i=>
   rw[Io] at e ⊢;exact RY l (λx hx=>h x (by simp[hx])) i x e
theorem RZ{α β:Type}{f:α->ao β}:∀(l:List α),(∀x,x∈l->∃y,f x=some y)->(l.filterMap f).length=l.length
 |[],_=>rfl
 |a::l,h=>by
  obtain⟨y,hy⟩:=h a (by simp)
  rw[zg,hy];dsimp only;rw[iZ,iZ,RZ l λx hx=>h x (by simp[hx])]
def Y6{fg mv:Nat}{ld pl:Bool}(hk3:3<=k)(hk:mask+1=2^k)(es:Array (Int×aq))(hl:es.size<=mask):
  ∃t order,SetTable.laid mask fg mv ld pl (es.map (·.1))=some (t,order)/\(order.filterMap (es[·]?)).size=es.size/\t.mask=mask/\i9 t (order.filterMap (es[·]?))/\∀e,e∈(order.filterMap (es[·]?)).toList↔e∈es.toList:=by
 obtain⟨ow,js,e,I⟩:=UZ hk (es.map (·.1)) (by rw[Array.size_map];lia)
 have lm:=Xz I;have TU:=XA mask ow;have hjs:js.length=es.size:=by rw[I.len,uN,Array.size_map]
 generalize hL:kY mask ow=L at *;have Mz:∀p,p∈L->p.2<es.size:=λp hp=>by
  have:=(lm p.1 p.2).mp hp;have:=(e_.mp this).1;lia
 have all:∀x,x∈L.map (·.2)->∃y,es[x]?=some y:=λx hx=>by
  obtain⟨p,hp,rfl⟩:=iQ.mp hx;exact⟨es[p.2]'(Mz p hp),pW _⟩
 have n1:L.length<=js.length:=by
  have nd:(L.map (·.1)).Nodup:=(NX.mpr (TU.imp λh=>lJ h))
  have:=QX (L.map (·.1)) js nd λx hx=>by
   obtain⟨p,hp,rfl⟩:=iQ.mp hx;exact kL ((lm p.1 p.2).mp hp)
  rw[bK] at this;exact this
 have n2:es.size<=L.length:=by
  have:=Gk es.size (L.map (·.2)) λj hj=>by
   have e2:js[j]?=some (js[j]'(by lia)):=ic _
   exact iQ.mpr ⟨_,(lm _ j).mpr e2,rfl⟩
  rw[bK] at this;exact this
 have Th:L.length=es.size:=by lia
 have fl:((L.map (·.2)).toArray.filterMap (es[·]?)).toList=(L.map (·.2)).filterMap (es[·]?):=by rw[Array.toList_filterMap]
 have fs:((L.map (·.2)).toArray.filterMap (es[·]?)).size=es.size:=by
  rw[<-uN,fl,RZ _ all,bK,Th]
 refine⟨SetTable.mk mask (L.map (·.1)).toArray #[] fg ld mv pl,(L.map (·.2)).toArray,?_,fs,rfl,⟨rfl,?_,⟨k,hk3,hk⟩,?_,?_,?_,?_⟩,?_⟩
 .unfold SetTable.laid;rw[e];show some (SetTable.mk mask ((kY mask ow).map (·.1)).toArray #[] fg ld mv pl,((kY mask ow).map (·.2)).toArray)=_
  rw[hL]
 .rw[fs];show(L.map (·.1)).toArray.size=_
  rw[fI,bK,Th]
 .intro i k u v Dg e1 e2;have e1:(L.map (·.1)).toArray[i]?=some u:=e1
  have e2:(L.map (·.1)).toArray[k]?=some v:=e2
  rw[List.getElem?_toArray,jO] at e1 e2;obtain⟨a,ea,rfl⟩:=jP.mp e1;obtain⟨b,eb,rfl⟩:=jP.mp e2;exact e6e TU Dg ea eb
 .intro i v e1;have e1:(L.map (·.1)).toArray[i]?=some v:=e1
  rw[List.getElem?_toArray,jO] at e1;obtain⟨a,ea,rfl⟩:=jP.mp e1;have o:=(I.own a.1 a.2).mpr ((lm a.1 a.2).mp (kL ea));have hl:=(ua.mp o).1;rw[I.DL] at hl;show a.1<=mask;lia
 .rw[fs];exact hl
 .intro i v e1 g1 g2;have g1:(L.map (·.1)).toArray[i]?=some v:=g1
  rw[List.getElem?_toArray,jO] at g1;obtain⟨a,ea,rfl⟩:=jP.mp g1;rw[<-mF,fl,RY _ all i a.2 (by rw[jO,ea];rfl)] at g2
  obtain⟨n,q1,q2⟩:=I.yB a.2 e1.1 a.1 (by rw[mF,Array.getElem?_map,g2];rfl) ((lm a.1 a.2).mp (kL ea))
  refine⟨n,q1,λm hm=>?_⟩
  have:=q2 m hm;obtain⟨k',sN,e'⟩:=Iq this;show _∈L.map (·.1)
  exact iQ.mpr ⟨(_,k'),(lm _ k').mpr (by rw[ic sN,e']),rfl⟩
 .intro x;rw[fl,zh];constructor
  .rintro⟨k',h1,h2⟩;rw[<-mF] at h2;exact kL h2
  .intro hx;obtain⟨k',sN,e'⟩:=Iq hx;rw[uN] at sN;refine⟨k',iQ.mpr ⟨(js[k']'(by lia),k'),(lm _ k').mpr (ic _),rfl⟩,?_⟩
   rw[<-mF,ic (by rw[uN];exact sN),e']
theorem P_(n:Nat):∀(fuel k:Nat),n<2^(k+fuel)->∃k',k<=k'/\SetTable.sizeAbove.go n fuel (2^k)=2^k'/\n<2^k'/\(2^k'<=2*n\/k'=k)
 |0,k,h=>⟨k,cP _,rfl,by simpa using h,.inr rfl⟩
 |fuel+1,k,h=>by
  unfold SetTable.sizeAbove.go;by_cases c:2^k<=n
  .rw[aU c,<-Et];obtain⟨k',h1,h2,h3,h4⟩:=P_ n fuel (k+1) (by rw[show k+1+fuel=k+(fuel+1) from by lia];exact h)
   refine⟨k',by lia,h2,h3,.inl ?_⟩
   rcases h4 with h4|h4
   .exact h4
   .rw[h4,Et];lia
  .rw[aY c];exact⟨k,cP _,rfl,by lia,.inr rfl⟩
def XB{n:Nat}(h:n<2^60):∃k,3<=k/\SetTable.sizeAbove n=2^k/\n<2^k/\2^k<=2*n+8:=by
 obtain⟨k,h1,h2,h3,h4⟩:=P_ n 64 3 (Nat.lt_trans h (by decide))
 refine⟨k,h1,h2,h3,?_⟩;rcases h4 with h4|h4
 .lia
 .subst h4;lia
end L2
namespace L2
open PySem PySem.Spec PyProof.Rows
variable{A:dZ}{E:aq->az->Prop}{s z:az}{hp:cS}{Q:Bool->az->Prop}{k:TK}{ks:List TK}{ys:List V}{vs:List aq}{S l:ak}{i iy:Nat}{p p1 oB:Pos}{K:FG}{H:Hp}{x:V}{L qs:List O}
structure EC (P:fO) (w:eK) (A:dZ) (E:aq->az->Prop) (s:az) (a:ak) (o:Obj) (es:Array (Int×aq)) (ep:Nat) (t:nH) (x:aq) (h:Int) (eqv:Int×aq->Bool):Prop where
 ho:s.heap.get? a=some o
 hd:o.data=.set es ep t
 tab:i9 t es
 rf:∀e,e∈es.toList->∃b,e.2=.ref b
 eqs:∀e,e∈es.toList->e.1=h->∀(R:Bool->az->Prop),R (eqv e) s->wpAny (model P w) A (eqBool e.2 x) R E s
 seen:∀(l:List aq),(∀y,y∈l->∃e,e∈es.toList/\e.2=y)->∀(R:Bool->az->Prop),R false s->wpAny (model P w) A (searchCouldBeSeen x l) R E s
def Y7{α:Type}{M:Model}{c:Prop}[Decidable c]{m:Sem Bool}{u r:Sem α}{Q:α->az->Prop}(h1:c->∀(R:Bool->az->Prop),R false s->wpAny M A m R E s)(h:wpAny M A r Q E s):
  wpAny M A (if c then m >>= λb=>if b=true then u else r else r) Q E s:=by
 by_cases z:c
 .rw[aU z];refine aI (h1 z _ ?_);rw[aY (by decide)]
  exact h
 .rw[aY z];exact h
section
variable{P:fO}{w:eK}{A:dZ}{E:aq->az->Prop}{s:az}{a:ak}{o:Obj}{es:Array (Int×aq)}{ep:Nat}{t:nH}{x:aq}{h:Int}{eqv:Int×aq->Bool}
def R0{es':Array (Int×aq)}{t':nH}(ho:hp.get? a=some o)(hd:o.data=.set es ep t):(hp.update a (Obj.putSet es' t')).get? a=some { o with data:=.set es' (ep+1) t'}/\Heap.SameBut a hp (hp.update a (Obj.putSet es' t')):=by
 have z:=vX (Obj.putSet es' t') ho (by rw[putSet_of es' t' hd];rfl)
 rw[putSet_of es' t' hd] at z;exact⟨z,Heap.SameBut.update _ a _⟩
def yl(t:nH)(h:Int)(m:Nat):Prop:=(bI t.mask h m).j∉t.place.toList
def Cs(t:nH)(es:Array (Int×aq))(h:Int)(eqv:Int×aq->Bool)(m:Nat):Prop:=∃(i:Nat) (e:Int×aq),t.place[i]?=some (bI t.mask h m).j/\es[i]?=some e/\e.1=h/\eqv e=true
def R1(t:nH)(es:Array (Int×aq))(h:Int)(m:Nat):Prop:=∃(i:Nat) (e:Int×aq),t.place[i]?=some (bI t.mask h m).j/\es[i]?=some e/\e.1=h
def GZ(S:EC P w A E s a o es ep t x h eqv){Q:(Array (Int×aq)×Nat×nH)->az->Prop}(q:Q (es,ep,t) s):wpAny (model P w) A (setState a) Q E s:=wpAny_setState_of S.ho S.hd S.tab.fits q
theorem Ou(S:EC P w A E s a o es ep t x h eqv){N:Nat}(hN:N<10*(t.mask+14)){R:SetFound->az->Prop}(stop:yl t h N\/Cs t es h eqv N)(before:∀m,m<N->¬yl t h m/\¬Cs t es h eqv m)
  (q1:yl t h N->R (.free (bI t.mask h N).j false) s) (q2:Cs t es h eqv N->R (.there none) s):∀(fuel n:Nat) (qx:ao SetTable.Probe),n<=N->N<n+fuel->qx.getD (t.probeStart h)=bI t.mask h n->wpAny (model P w) A (setSearchFrom a x h true fuel qx) R E s
 |0,n,qx,hn,hf,_=>bZ hf (by lia)
 |fuel+1,n,qx,hn,hf,hs=>by
  have T:=S.tab;obtain⟨d,rfl⟩:∃d,N=n+d:=⟨N - n,by lia⟩
  have pN:yl t h (n+d)\/R1 t es h (n+d):=stop.imp id λ⟨i,e,e1,e2,e3,_⟩=>⟨i,e,e1,e2,e3⟩
  obtain⟨M,hM1,hM2,hM3,hM4⟩:=KU (p:=λm=>yl t h m\/R1 t es h m) d n pN
  obtain⟨c,rfl⟩:∃c,M=n+c:=⟨M - n,by lia⟩
  have M5:∀m,n<=m->m<n+c->∃i,t.slot (bI t.mask h m).j=.live i/\((λi=>(es[i]?.map (·.1)).getD 0) i == h)=false:=λm h1 h2=>by
   have no:=hM4 m h1 h2;rcases Vj T.inc T.yy (bI t.mask h m).j with⟨z,_⟩|⟨i,e1,e2⟩
   .exact bZ (.inl z) no
   .refine⟨i,e2,?_⟩;have hl:i<es.size:=by rw[<-T.sz];exact(ua.mp e1).1
    have ei:es[i]?=some es[i]:=pW hl;dsimp only;rw[ei,qD];intro z;exact no (.inr ⟨i,es[i],e1,ei,z⟩)
  obtain⟨g1,g2⟩:=QW (t:=t) (ha:=λi=>(es[i]?.map (·.1)).getD 0) (h:=h) c n (10*SetTable.turns t.mask) (by unfold SetTable.turns;lia) M5
  unfold setSearchFrom;refine aI (GZ S ?_);dsimp only;rw[T.way];simp only[lK,ck];rw[hs];rcases hM3 with z|⟨i,e,e1,e2,e3⟩
  .have hM:n+c=n+d:=by
    by_cases k:n+c=n+d
    .exact k
    .exact bZ z (before (n+c) (by lia)).1
   have g1:t.probe (λi=>(es[i]?.map (·.1)).getD 0) h (bI t.mask h n)=_:=g1 (QV T.inc T.yy z)
   erw [g1]
   dsimp only;refine bz ?_;rw[hM] at z ⊢;exact q1 z
  .have sl:=Kk T.inc e1;have he:e∈es.toList:=kL (by rw[mF];exact e2)
   obtain⟨b,hb⟩:=S.rf e he;have g2:t.probe (λi=>(es[i]?.map (·.1)).getD 0) h (bI t.mask h n)=_:=g2 i sl (by rw[e2];simp[e3])
   erw [g2]
   dsimp only;refine Y7 (λ_ R hR=>S.seen _ (λy hy=>?_) R hR) ?_
   .obtain⟨f,hf,rfl⟩:=iQ.mp hy;have hf:f∈es/\f.1=h:=by simpa using hf
    exact⟨f,by simpa using hf.1,rfl⟩
   rw[e2];dsimp only;refine aI (nI (S.eqs e he e3 _ ?_));refine aI (GZ S ?_);dsimp only;by_cases k:eqv e=true
   .rw[k];simp only[Ep,bc];have sm:Cs t es h eqv (n+c):=⟨i,e,e1,e2,e3,k⟩;have hM:n+c=n+d:=by
     by_cases k:n+c=n+d
     .exact k
     .exact bZ sm (before (n+c) (by lia)).2
    rw[hM] at sm;exact bz (q2 sm)
   .have k:eqv e=false:=by cases q:eqv e with|true=>exact bZ q k|false=>rfl
    rw[k];simp only[AZ,lK,ck];have hsm:t.sameMemory t.moves t.mask=some true:=by unfold SetTable.sameMemory;simp
    rw[hsm];dsimp only;rw[aU rfl,sl];dsimp only;rw[e2];dsimp only;rw[hb];refine aI (wpAny_isSame_ref_self (aI (bz ?_)));rw[aU rfl];dsimp only;have ne:n+c≠n+d:=λz=>by
     rcases stop with y|⟨i',f,f1,f2,f3,f4⟩
     .rw[<-z] at y;exact y (kL (by rw[mF];exact e1))
     .rw[<-z] at f1;have:=Kk T.inc f1;rw[sl] at this;cases this;rw[e2] at f2;cases f2;rw[k] at f4;cases f4
    exact Ou S hN stop before q1 q2 fuel (n+c+1) _ (by lia) (by lia) rfl
def We(S:EC P w A E s a o es ep t x h eqv)(hm:t.mask<9000){R:SetFound->az->Prop}
  (q1:(∀e,e∈es.toList->e.1=h->eqv e=false)->∀N,(bI t.mask h N).j∉t.place.toList->(∀m,m<N->(bI t.mask h m).j∈t.place.toList)->R (.free (bI t.mask h N).j false) s)
  (q2:(∃e,e∈es.toList/\e.1=h/\eqv e=true)->R (.there none) s):wpAny (model P w) A (setSearch a x h true) R E s:=by
 have T:=S.tab;obtain⟨N0,hN0,hole⟩:=T.hole h;obtain⟨N,_,hN,stop,before⟩:=KU (p:=λm=>yl t h m\/Cs t es h eqv m) N0 0 (by rw[Es];exact .inl hole)
 rw[Es] at hN;refine Ou S (N:=N) (by lia) stop (λm hm=>not_or.mp (before m (kK _) hm)) (λz=>?_) (λ⟨i,e,e1,e2,e3,e4⟩=>q2 ⟨e,kL (by rw[mF];exact e2),e3,e4⟩) 100000 0 none (kK _) (by lia) rfl
 have J8:∀m,m<N->(bI t.mask h m).j∈t.place.toList:=λm hm=>o7 λc=>before m (kK _) hm (.inl c)
 refine q1 (λe he eh=>?_) N z J8
 cases q:eqv e with
 |false=>rfl
 |true=>
  obtain⟨i,hi,ei⟩:=Iq he;have e2:es[i]?=some e:=by rw[<-mF,ic hi,ei]
  have hp:i<t.place.size:=by rw[T.sz];simpa using hi
  have e1:t.place[i]?=some t.place[i]:=pW hp;obtain⟨n,g1,g2⟩:=T.yB i _ e e1 e2;rw[eh] at g1 g2;rcases Nat.lt_or_ge N n with c|c
  .exact bZ (g2 N c) z
  .rcases Nat.lt_or_eq_of_le c with c|c
   .exact bZ (.inr ⟨i,e,by rw[g1];exact e1,e2,eh,q⟩) (before n (kK _) c)
   .rw[<-c,yl,g1] at z;exact bZ (kL (by rw[mF];exact e1)) z
def e6f(mask:Nat)(h:Int)(n:Nat):(bI mask h n).j+(bI mask h n).more<=mask:=by
 induction n with
 |zero=>exact Lr (Ls mask h 0)
 |succ n ih=>
  show(lQ mask (bI mask h n)).j+(lQ mask (bI mask h n)).more<=mask;unfold lQ;split
  .dsimp only;lia
  .dsimp only;exact Lr (Nat.le_of_lt_succ (Nat.mod_lt _ (by lia)))
def e6g(S:EC P w A E s a o es ep t x h eqv)(hm:t.mask<9000)(room:es.size*5<t.mask*3)(hx:∃b,x=.ref b)(hv:∀(R:Bool->az->Prop),(∀b,R b s)->wpAny (model P w) A (hashByValue 8 x) R E s)
  (q2:(∃e,e∈es.toList/\e.1=h/\eqv e=true)->Q false s)
  (q1:(∀e,e∈es.toList->e.1=h->eqv e=false)->∀(es':Array (Int×aq)) (yA:Nat) (t':nH),i9 t' es'->es'.size*5<t'.mask*3->(t'.mask<=t.mask\/t'.mask<=8*es.size+15)->es'.size=es.size+1->(∀e,e∈es'.toList↔e=(h,x)\/e∈es.toList)-> ∀h',Heap.SameBut a s.heap h'->h'.get? a=some { o with data:=.set es' yA t'}->Q true { s with heap:=h'}):wpAny (model P w) A (setAddHashed a x h) Q E s:=by
 have T:=S.tab;obtain⟨b,rfl⟩:=hx;unfold setAddHashed setAddHashedIn;refine nI (aI (GZ S ?_));dsimp only;have hb:byScan (.ref b) es=false:=rfl;rw[hb];simp only[lK,ck];refine aI (We S hm (λno N hN J8=>?_) λyes=>?_)
 .dsimp only;refine aI (GZ S ?_);dsimp only;obtain⟨p1,p2,p3⟩:=T.put (x:=.ref b) hN J8 (by have:=e6f t.mask h N;lia) (by lia)
  have ip:=SetTable.insertAt_perm es (t.put (bI t.mask h N).j).2 (h,Value.ref b);have im:=P8 es (t.put (bI t.mask h N).j).2 (h,Value.ref b);generalize t.put (bI t.mask h N).j=tp at *;obtain⟨t1,p⟩:=tp;dsimp only at *;generalize SetTable.insertAt es p (h,Value.ref b)=qj at *;have AN:qj.size=es.size+1:=by
   have:=ip.length_eq;simpa using this
  have step:∀(b1:Bool),wpAny (model P w) A (do
    storeSet a qj (if b1 then t1 else{ t1 with plain:=false})
    if !false&&(if b1 then t1 else{ t1 with plain:=false}:nH).tooFull then setRelay a (SetTable.grown (es.size+1))
    return true) Q E s:=by
   intro b1;have T1:i9 (if b1 then t1 else{ t1 with plain:=false}:nH) qj:=by
    cases b1 with
    |true=>exact p3
    |false=>exact⟨p3.yy,p3.sz,p3.pw,p3.inc,p3.le,p3.lt,p3.yB⟩
   have m1:(if b1 then t1 else{ t1 with plain:=false}:nH).mask=t.mask:=by cases b1 <;> exact p2
   generalize(if b1 then t1 else{ t1 with plain:=false}:nH)=t2 at *
   have k0:qj.size<=sizeLine:=by rw[sizeLine_eq];lia
   refine aI (wpAny_storeSet_of S.ho S.hd ?_ k0);obtain⟨g1,xr⟩:=R0 (es':=qj) (t':=t2) S.ho S.hd;have fl:t2.fill=qj.size:=by unfold SetTable.fill;rw[T1.yy,T1.sz];rfl
   by_cases c:t2.tooFull=true
   .rw[c];simp only[nF,Ep,bc];have hw:SetTable.grown (es.size+1)=(es.size+1)*4:=by unfold SetTable.grown;rw[aY (by lia)]
    rw[hw];obtain⟨k,k3,ek,k1,k2⟩:=XB (n:=(es.size+1)*4) (by lia)
    obtain⟨t3,order,el,ez,em,T3,me⟩:=Y6 (mask:=2^k - 1) (k:=k) (fg:=t2.finger) (mv:=t2.movedTo (2^k - 1)) (ld:=t2.led) (pl:=t2.plain) k3 (by lia) qj (by lia)
    refine aI ?_;unfold setRelay;refine aI (wpAny_setState_of g1 rfl T1.fits ?_);dsimp only;rw[ek,aY (by rw[sizeLine_eq];lia)]
    have er:t2.relaid (qj.map (·.1)) ((es.size+1)*4)=some (t3,order):=by
     unfold SetTable.relaid;rw[ek];exact el
    rw[er];refine aI ?_;show wpAny _ _ (if(order.filterMap (qj[·]?)).size != qj.size then _ else pure (order.filterMap (qj[·]?),t3)) _ _ _
    rw[ez];simp only[bne_self_eq_false,lK,ck];generalize order.filterMap (qj[·]?)=S6 at *
    refine bz ?_;dsimp only;refine wpAny_storeSet_of g1 rfl ?_ (by rw[ez];exact k0)
    obtain⟨g3,DY⟩:=R0 (es':=S6) (t':=t3) g1 rfl;refine bz (q1 no S6 _ t3 T3 ?_ ?_ (ez.trans AN) (λe=>(me e).trans (im e)) _ (xr.trans DY) g3)
    .rw[ez,em];lia
    .right;rw[em];lia
   .have c':t2.tooFull=false:=by cases q:t2.tooFull with|true=>exact bZ q c|false=>rfl
    rw[c'];simp only[AZ,lK,ck];have c2:qj.size*5<t2.mask*3:=by
     unfold SetTable.tooFull at c';rw[fl,decide_eq_false_iff_not] at c';lia
    exact bz (q1 no qj _ t2 T1 c2 (.inl (by lia)) AN im _ xr g1)
  split
  .refine aI (hv _ λb1=>?_)
   exact step b1
  .exact aI (bz (step true))
 .dsimp only;exact bz (q2 yes)
end
def uB(aE:List TK)(k:TK):List TK:=if k∈aE then aE else aE++[k]
def dk(l:List TK):List TK:=l.foldl uB []
def Y8(l:List TK)(k:TK):dk (l++[k])=uB (dk l) k:=by unfold dk;rw[List.foldl_append];rfl
theorem QZ:∀(l aE:List TK) (k:TK),k∈l.foldl uB aE↔k∈aE\/k∈l
 |[],aE,k=>by simp
 |a::l,aE,k=>by
  rw[List.foldl_cons,QZ l,eO];unfold uB;split
  .rename_i h
   exact⟨λq=>q.imp id .inr,λq=>q.elim .inl λq=>q.elim (λq=>.inl (by rw[q];exact h)) .inr⟩
  .rw[eD,jI,or_assoc]
def R3(l:List TK)(k:TK):k∈dk l↔k∈l:=by unfold dk;rw[QZ];simp
section
variable{X:Cx}{ae:List (ak×Obj)}{Z:St}{H:Hp}
def Q3:∀(n:Nat) {A:dZ} {E:aq->az->Prop} {s:az} {y:V} {u:aq} {k:TK} {Q:Bool->az->Prop},Inv X ae Z H s->aw X.K H [y] [k.d]->k.ok n=true->RelV y u->Q false s->
  wpAny (model X.prog X.w) A (ofAClassStatement n u) Q E s:=by
 intro n
 induction n with
 |zero=>
  intro A E s y u k Q I r ok ru h;cases k with
  |tp l=>simp[TK.ok] at ok
  |inl i=>simp only[TK.d] at r;cases r with|flat q _=>cases q;obtain⟨t,rfl⟩:=ru;exact bz h
  |inr i=>simp only[TK.d] at r;cases r with|flat q _=>cases q;obtain⟨t,rfl⟩:=ru;exact bz h
 |succ n ih=>
  intro A E s y u k Q I r ok ru h;cases k with
  |inl i=>simp only[TK.d] at r;cases r with|flat q _=>cases q;obtain⟨t,rfl⟩:=ru;exact bz h
  |inr i=>simp only[TK.d] at r;cases r with|flat q _=>cases q;obtain⟨t,rfl⟩:=ru;exact bz h
  |tp l=>
   simp only[TK.d] at r;cases r with
   |flat q _=>cases q
   |@tup a ws _ _ _ q i _=>
    cases ru;obtain⟨aG,rv,pl,_⟩:=I.tuple q;have hT:s.TypeIs (.ref a) "tuple":=pl.typeIs;obtain⟨o,g1,g2,nn,g3⟩:=pl;have ok:l.all (TK.ok n)=true:=by simpa only[TK.ok] using ok
    unfold ofAClassStatement;refine aI (wpAny_typeOf hT ?_);dsimp only;rw[aU (by decide)]
    refine aI (bz ?_);simp only[iE,lK,ck];refine aI (wpAny_seqItems g1 g3 ?_);dsimp only;refine aI ?_;show wpAny _ _ (forIn aG.toArray _ _) _ _ s;rw[<-NR];refine wpAny_forIn_list _ (λrest r s'=>r.1=none/\s'=s/\∃left wl,aw X.K H wl (TK.dl left)/\Vals wl rest/\∀x∈left,x.ok n=true) _ ?_ ?_ _ _ ⟨rfl,rfl,l,ws,i,rv,λx m=>jH.mp ok x m⟩
    .rintro v rest r s' ⟨hr,rfl,left,wl,r',v',hk⟩;cases v' with
     |@cons w1 _ wl _ za v'=>
      cases left with
      |nil=>have:=r'.length;simp[TK.dl] at this
      |cons k1 left=>
       simp only[TK.dl] at r';refine aI (ih I r'.inv.1 (hk k1 (by simp)) za ?_)
       simp only[lK,ck];exact bz ⟨rfl,rfl,left,wl,r'.inv.2,v',λx m=>hk x (by simp[m])⟩
    .rintro⟨r1,r2⟩ s' ⟨hr,rfl,_⟩;cases(show r1=none from hr);exact bz h
def Y9:∀(n:Nat) {A:dZ} {E:aq->az->Prop} {s:az} {y:V} {u:aq} {k:TK} {Q:Bool->az->Prop},Inv X ae Z H s->aw X.K H [y] [k.d]->k.ok n=true->RelV y u->(∀b,Q b s)->
  wpAny (model X.prog X.w) A (hashByValue n u) Q E s:=by
 intro n
 induction n with
 |zero=>
  intro A E s y u k Q I r ok ru h;cases k with
  |tp l=>simp[TK.ok] at ok
  |inl i=>simp only[TK.d] at r;cases r with|flat q _=>cases q;obtain⟨t,rfl⟩:=ru;exact bz (h _)
  |inr i=>simp only[TK.d] at r;cases r with|flat q _=>cases q;obtain⟨t,rfl⟩:=ru;exact bz (h _)
 |succ n ih=>
  intro A E s y u k Q I r ok ru h;cases k with
  |inl i=>simp only[TK.d] at r;cases r with|flat q _=>cases q;obtain⟨t,rfl⟩:=ru;exact bz (h _)
  |inr i=>simp only[TK.d] at r;cases r with|flat q _=>cases q;obtain⟨t,rfl⟩:=ru;exact bz (h _)
  |tp l=>
   simp only[TK.d] at r;cases r with
   |flat q _=>cases q
   |@tup a ws _ _ _ q i _=>
    cases ru;obtain⟨aG,rv,pl,_⟩:=I.tuple q;have hT:s.TypeIs (.ref a) "tuple":=pl.typeIs;obtain⟨o,g1,g2,nn,g3⟩:=pl;have ok:l.all (TK.ok n)=true:=by simpa only[TK.ok] using ok
    unfold hashByValue;refine aI (wpAny_specialOf hT F.slot_tuple_hash.lookup ?_);dsimp only;refine aI (wpAny_seqItems g1 g3 ?_);refine aI ?_;show wpAny _ _ (forIn aG.toArray _ _) _ _ s;rw[<-NR];refine wpAny_forIn_list _ (λrest r s'=>s'=s/\∃left wl,aw X.K H wl (TK.dl left)/\Vals wl rest/\∀x∈left,x.ok n=true) _ ?_ ?_ _ _ ⟨rfl,l,ws,i,rv,λx m=>jH.mp ok x m⟩
    .rintro v rest r s' ⟨rfl,left,wl,r',v',hk⟩;cases v' with
     |@cons w1 _ wl _ za v'=>
      cases left with
      |nil=>have:=r'.length;simp[TK.dl] at this
      |cons k1 left=>
       simp only[TK.dl] at r';refine aI (ih I r'.inv.1 (hk k1 (by simp)) za λb=>?_)
       cases b with
       |true=>
        simp only[iE,lK,ck];exact bz ⟨rfl,left,wl,r'.inv.2,v',λx m=>hk x (by simp[m])⟩
       |false=>
        simp only[nF,bc];refine bz ?_;exact bz (h _)
    .rintro⟨r1,r2⟩ s' ⟨rfl,_⟩;cases r1 with
     |none=>exact bz (h _)
     |some b=>exact bz (h _)
def e9i{j:TK}(e:k.d=j.d):k=j:=by
 have h:=xX k j;rw[<-e,xX,ie rfl] at h;exact uQ h.symm
structure v5 (X:Cx) (H:Hp) (ks:List TK) (ys:List V) (vs:List aq):Prop where
 rep:aw X.K H ys (ks.map TK.d)
 val:Vals ys vs
 ok:∀k,k∈ks->k.ok 8=true/\∃l,k=.tp l
theorem v5.at{ks:List TK}{ys:List V}{vs:List aq}(L:v5 X H ks ys vs){j:Nat}{k:TK}(e:ks[j]?=some k):∃a,vs[j]?=some (.ref a)/\aw X.K H [.ref a] [k.d]:=by
 obtain⟨y,h1,h2⟩:=L.rep.get (i:=j) (d:=k.d) (by rw[jO,e];rfl)
 obtain⟨_,l,rfl⟩:=L.ok k (kL e);obtain⟨u,u1,u2⟩:=zu j L.val h1;simp only[TK.d] at h2;cases h2 with
 |flat q _=>cases q
 |@tup a ws _ _ _ q i t=>
  cases u2;exact⟨a,u1,by simp only[TK.d];exact .tup q i .nil⟩
def v5.len(L:v5 X H ks ys vs):vs.length=ks.length:=by
 have h1:=L.rep.length;have h2:=L.val.length;rw[bK] at h1;lia
def jB(es:Array (Int×aq))(ep:Nat)(t:nH):Obj:={ cls:=.type "set",dict:=none,data:=.set es ep t}
structure lL (X:Cx) (S:ak) (ks:List TK) (vs:List aq) (i:Nat) (hp:cS):Prop where
 obj:∃es ep t,hp.get? S=some (jB es ep t)/\i9 t es/\es.size*5<t.mask*3/\t.mask<=8*es.size+15/\es.size=(dk (ks.take i)).length/\es.size<=i/\
  (∀e,e∈es.toList->∃(j:Nat) (k:TK) (v:aq),ks[j]?=some k/\vs[j]?=some v/\e=(k.hash X.w,v)/\k∈ks.take i)/\
  ∀k,k∈ks.take i->∃e,e∈es.toList/\∃(j:Nat) (v:aq),ks[j]?=some k/\vs[j]?=some v/\e=(k.hash X.w,v)
def Y_{v:aq}(L:v5 X H ks ys vs)(I:Inv X ae Z H s)(hu:A.units+9<cLine)(Z:lL X S ks vs i s.heap)(hi:i<1000)
  (ek:ks[i]?=some k) (ev:vs[i]?=some v)  (q:∀(b:Bool) (h':cS) (t':Nat),Heap.SameBut S s.heap h'->lL X S ks vs (i+1) h'->Q b { s with heap:=h',toks:=t'}):wpAny (model X.prog X.w) A (setAdd S v) Q E s:=by
 obtain⟨b,eb,rb⟩:=L.at ek;rw[ev] at eb;cases eb;obtain⟨ok,l,hl⟩:=L.ok k (kL ek);obtain⟨es,ep,t,g1,T,g2,g3,g4,g5,g6,g7⟩:=Z.obj;unfold setAdd;refine nI (aI (JE 8 I rb ok rfl (by lia) λtk=>?_))
 have I':=I.tok tk;have take1:ks.take (i+1)=ks.take i++[k]:=by rw[List.take_succ,ek];rfl
 have SF:dk (ks.take (i+1))=uB (dk (ks.take i)) k:=by rw[take1,Y8]
 have eqv:∀e,e∈es.toList->∃(j:Nat) (k':TK) (a:ak),ks[j]?=some k'/\vs[j]?=some (.ref a)/\e=(k'.hash X.w,.ref a)/\k'∈ks.take i/\aw X.K H [.ref a] [k'.d]/\k'.ok 8=true:=λe he=>by
  obtain⟨j,k',v',h1,h2,h3,h4⟩:=g6 e he;obtain⟨a,a1,a2⟩:=L.at h1;rw[a1] at h2;cases h2;exact⟨j,k',a,h1,a1,h3,h4,a2,(L.ok k' (kL h1)).1⟩
 have key:∀{j j':Nat} {k1 k2:TK} {a:ak},ks[j]?=some k1->ks[j']?=some k2->vs[j]?=some (.ref a)->vs[j']?=some (.ref a)->k1=k2:=λ{j j' k1 k2 a} h1 h2 h3 h4=>by
  obtain⟨a1,b1,c1⟩:=L.at h1;obtain⟨a2,b2,c2⟩:=L.at h2;rw[h3] at b1;rw[h4] at b2;cases b1;cases b2;exact e9i (BV I 8 8 c1 c2 (uo 8 (L.ok _ (kL h1)).1) (uo 8 (L.ok _ (kL h2)).1))
 classical
 refine e6g (P:=X.prog) (w:=X.w) (s:={ s with toks:=tk}) (h:=k.hash X.w) (x:=.ref b) (o:=jB es ep t) (eqv:=λe=>decide (∃j:Nat,ks[j]?=some k/\vs[j]?=some e.2)) ⟨g1,rfl,T,λe he=>?_,λe he eh R hR=>?_,λst rJ R hR=>?_⟩ (by lia) g2 ⟨b,rfl⟩ (λR hR=>Y9 8 I' rb ok rfl hR) (λ⟨e,he,eh,ee⟩=>?_) λno es' yA t' T' r' m' z' me h' sb gh=>?_
 .obtain⟨j,k',a,_,_,rfl,_⟩:=eqv e he;exact⟨a,rfl⟩
 .obtain⟨j,k',a,h1,h2,rfl,h4,h5,h6⟩:=eqv e he;refine(zT I' 8 8 h5 rb (uo 8 h6) (uo 8 ok) rfl rfl (by lia)).1 X.prog X.w E R ?_
  rw[xX];have ee:decide (k'=k)=decide (∃j:Nat,ks[j]?=some k/\vs[j]?=some (Value.ref a)):=by
   rw[decide_eq_decide];exact⟨λz=>⟨j,by rw[<-z];exact h1,h2⟩,λ⟨j',z1,z2⟩=>key h1 z1 h2 z2⟩
  rw[ee];exact hR
 .unfold searchCouldBeSeen;refine aI (wpAny_forIn_list _ (λrest r s'=>r.1=none/\s'={ s with toks:=tk}/\∀y,y∈rest->∃e,e∈es.toList/\e.2=y) _ ?_ ?_ _ _ ⟨rfl,rfl,rJ⟩)
  .rintro y rest r s' ⟨hr,rfl,hy⟩;obtain⟨e,he,rfl⟩:=hy _ (nE ..);obtain⟨j,k',a,h1,h2,rfl,h4,h5,h6⟩:=eqv e he;have DH:∀y,y∈rest->∃e,e∈es.toList/\e.2=y:=λy m=>hy y (oO _ m)
   dsimp only;split
   .exact bz ⟨rfl,rfl,DH⟩
   .refine aI (EX 8 I' rb ok rfl ?_);simp only[iE,lK,ck];refine aI (EX 8 I' h5 h6 rfl ?_);simp only[iE,lK,ck];refine aI (Q3 8 I' rb ok rfl ?_);simp only[lK,ck];refine aI (Q3 8 I' h5 h6 rfl ?_);simp only[lK,ck];exact bz ⟨rfl,rfl,DH⟩
  .rintro⟨r1,r2⟩ s' ⟨hr,rfl,_⟩;cases(show r1=none from hr);exact bz hR
 .obtain⟨j,k',a,h1,h2,rfl,h4,h5,h6⟩:=eqv e he;obtain⟨j',z1,z2⟩:=uQ ee;have kk:k'=k:=key h1 z1 h2 z2;subst kk;have w6:k'∈dk (ks.take i):=(R3 _ _).mpr h4;refine q false s.heap tk (Heap.SameBut.refl S s.heap) ⟨es,ep,t,g1,T,g2,g3,?_,by lia,λe he=>?_,λk2 h2=>?_⟩
  .rw[SF,g4];unfold uB;rw[aU w6]
  .obtain⟨j,k',v',h1,h2,h3,h4⟩:=g6 e he;exact⟨j,k',v',h1,h2,h3,by rw[take1];exact g_ _ h4⟩
  .rw[take1,eD,jI] at h2;rcases h2 with h2|h2
   .exact g7 k2 h2
   .subst h2;exact g7 _ h4
 .have Mw:k∉dk (ks.take i):=λm=>by
   obtain⟨e,he,j,v',h1,h2,rfl⟩:=g7 k ((R3 _ _).mp m);have:=no _ he rfl;rw[decide_eq_false_iff_not] at this;exact this ⟨j,h1,h2⟩
  refine q true h' tk sb ⟨es',yA,t',gh,T',r',by lia,?_,by lia,λe he=>?_,λk2 h2=>?_⟩
  .rw[SF];unfold uB;rw[aY Mw,du,<-g4,z'];rfl
  .rcases(me e).mp he with z|z
   .exact⟨i,k,_,ek,ev,z,by rw[take1];simp⟩
   .obtain⟨j,k',v',h1,h2,h3,h4⟩:=g6 e z;exact⟨j,k',v',h1,h2,h3,by rw[take1];exact g_ _ h4⟩
  .rw[take1,eD,jI] at h2;rcases h2 with h2|h2
   .obtain⟨e,he,z⟩:=g7 k2 h2;exact⟨e,(me e).mpr (.inr he),z⟩
   .subst h2;exact⟨_,(me _).mpr (.inl rfl),i,_,ek,ev,rfl⟩
end
section
variable{X:Cx}{ae:List (ak×Obj)}{Z:St}{H:Hp}
structure o8 (z s:az):Prop where
 eq:s={ z with heap:=s.heap,toks:=s.toks}
 keep:∀b u,z.heap.get? b=some u->s.heap.get? b=some u
def o8.inv(g:o8 z s)(I:Inv X ae Z H z):Inv X ae Z H s:=by
 rw[g.eq];exact I.kept g.keep
def lL.move{TH:cS}(Z:lL X S ks vs i hp)(k:∀u,hp.get? S=some u->TH.get? S=some u):lL X S ks vs i TH:=by
 obtain⟨es,ep,t,g,r⟩:=Z.obj;exact⟨es,ep,t,k _ g,r⟩
def iN{R:Result->az->Prop}{J:ak}(L:v5 X H ks ys vs)(I:Inv X ae Z H z)(hu:A.units+10<cLine)(hh:A.handled=none)(hn:vs.length<1000)(nS:z.heap.get? S=none)(nJ:z.heap.get? J=none)(Md:S≠J)(hl:z.heap.IsList l vs.toArray)
  (fin:∀s,o8 z s->lL X S ks vs vs.length s.heap->R (.ok (.ret .none)) s) :
  ∀(d i:Nat) (s:az),vs.length - i=d->i<=vs.length->o8 z s->s.heap.IsListIter J l i->lL X S ks vs i s.heap->codeAny (model X.prog X.w) A (.builtin "set.update.loop" ⟨[.ref S,.ref J],[]⟩) R s:=by
 intro d
 induction d with
 |zero=>
  intro i s hd hi g it Z;have e:i=vs.length:=by lia
  subst e;refine codeAny_builtin F.entry_set_update_loop ?_;rw[Around.under_plainId F.plain_set_update_loop _];show wpAny _ A.in1 (pyNext (.ref J) >>= _) _ _ s;have uH:s.heap.IsList l vs.toArray:=hl.at λo e=>g.keep _ _ e
  refine aI (wpAny_pyNext_list_end hh it uH (by simp) λh' Hz=>?_)
  refine bz (fin _ ⟨by rw[g.eq],λb u e=>Hz b u (λq=>by rw[q,nJ] at e;cases e) (g.keep b u e)⟩ (Z.move λu e=>Hz S u Md e))
 |succ d ih=>
  intro i s hd hi g it Z;have lt:i<vs.length:=by lia
  refine codeAny_builtin F.entry_set_update_loop ?_;rw[Around.under_plainId F.plain_set_update_loop _];show wpAny _ A.in1 (pyNext (.ref J) >>= _) _ _ s;have uH:s.heap.IsList l vs.toArray:=hl.at λo e=>g.keep _ _ e
  have ev:vs[i]?=some vs[i]:=ic lt;refine aI (wpAny_pyNext_list_item it uH (x:=vs[i]) (by simp[lt]) λh' Dr sb=>?_)
  have g':o8 z { s with heap:=h'}:=⟨by rw[g.eq],λb u e=>(sb.extBut b u (λq=>by rw[q,nJ] at e;cases e) (g.keep b u e))⟩
  have ek:ks[i]?=some (ks[i]'(by rw[<-L.len];exact lt)):=ic _
  show wpAny _ A.in1 (holding [vs[i]] (setAdd S vs[i]) >>= _) _ _ _;refine aI (nI (Y_ L (g'.inv I) (show A.in1.units+9<cLine from ?_) (Z.move λu e=>sb.extBut S u Md e) (by lia) ek ev λb h2 t2 s2 Z2=>?_))
  .have e:A.in1.units=A.units+1:=rfl;lia
  .refine bz ⟨plainId_quiet F.plain_set_update_loop _,ih (i+1) _ (by lia) lt ⟨by rw[g.eq],λb u e=>?_⟩ ?_ Z2⟩
   .rw[s2.2 b (λq=>by rw[q,nS] at e;cases e)]
    exact g'.keep b u e
   .exact Dr.at λo e=>by rw[s2.2 J (Ne.symm Md)];exact e
def P'{b:ak}(h:hp.objs.size<=b):hp.get? b=none:=by
 cases q:hp.get? b with
 |none=>rfl
 |some u=>exact bZ (fW q) (Nat.not_lt.mpr h)
def e6h:bootBuiltins "set"=some (.type "set"):=by decide +kernel
def Wf(ld:Bool):i9 (.fresh 0 0 ld) #[]:=⟨rfl,rfl,⟨3,by decide,rfl⟩,λi k u v _ e=>by simp[SetTable.fresh] at e,λi v e=>by simp[SetTable.fresh] at e,by simp,λi v e g=>by simp[SetTable.fresh] at g⟩
def XC{ld:Bool}(g:hp.get? S=some (jB #[] 0 (.fresh 0 0 ld))):lL X S ks vs 0 hp:=
 ⟨#[],0,_,g,Wf ld,by simp[SetTable.fresh],by simp[SetTable.fresh],rfl,kK _,λe m=>by simp at m,λk m=>by simp at m⟩
def UK{Q:aq->az->Prop}(L:v5 X H ks ys vs)(I:Inv X ae Z H s)(hu:A.units+20<cLine)(hh:A.handled=none)(hn:vs.length<1000)(hl:s.heap.IsList l vs.toArray)
  (q:∀s',o8 s s'->lL X s.heap.objs.size ks vs vs.length s'.heap->Q (.ref s.heap.objs.size) s'):wpAny (model X.prog X.w) A (call (.type "set") [.ref l]) Q E s:=by
 obtain⟨c,tl,cm⟩:=F.called_set.mro;have ma:=F.called_set.made;have su:=F.called_set.sub;refine wpAny_call (codeAny_of_tree ?_);show wpAny _ _ (callAny (.type "set") _) _ _ _;refine bz ⟨Code.quiet_builtin _ (by decide +kernel),codeAny_builtin F.entry_type_call ?_⟩
 rw[Around.under_plain (weight_type_call_type "set" [.ref l] []) rfl];have h1:=F.called_set.notType;have h2:=F.called_set.canCreate;have h3:=F.typeCall_set_1 (.ref l)
 repeat (any_goals (first|assumption|wp_step))
 refine codeAny_mono (code_set_new_1 (.ref l) (E:=E) (Q₁:=λob z=>∃ld:Bool,ob=.ref s.heap.objs.size/\z={ s with heap:=s.heap.push (jB #[] 0 (.fresh 0 0 ld))}) λld=>⟨ld,rfl,rfl⟩) λr z hr=>?_
 cases r with
 |error e=>exact hr
 |ok fl=>
  cases fl with
  |ret ob=>
   obtain⟨ld,rfl,rfl⟩:=hr;have gS:(s.heap.push (jB #[] 0 (.fresh 0 0 ld))).get? s.heap.objs.size=some (jB #[] 0 (.fresh 0 0 ld)):=oP _ rfl;have hT:Shared.TypeIs { s with heap:=s.heap.push (jB #[] 0 (.fresh 0 0 ld))} (.ref s.heap.objs.size) "set":=⟨_,gS,rfl⟩;have h4:=F.called_set.init.lookup;have h5:=F.called_set.init.bind (.ref s.heap.objs.size)
   repeat (any_goals (first|assumption|wp_step))
   refine codeAny_mono (codeAny_call_builtin (R:=wants (λr z=>r=.none/\o8 s z/\lL X s.heap.objs.size ks vs vs.length z.heap) E) F.called_set.init.plain F.entry_set_init (check_set_init_1 hT ?_)) λr z hr=>?_
   .have gl:(s.heap.push (jB #[] 0 (.fresh 0 0 ld))).IsList l vs.toArray:=hl.push _;obtain⟨ol,hol,Hx,nl,Ts⟩:=gl;obtain⟨ocls,odict,odata,oslots⟩:=ol;simp only at Hx Ts;subst Hx;subst Ts;have k1:=F.sub_list_set;have k2:=F.sub_list_frozenset;have k3:(Value.type "list" == Value.type "dict")=false:=by decide
    unfold Builtin.«set.__init__» noKeywords Builtin.Frozenset.updateFrom;unfold jB at *;generalize hPI:pyIter=PI
    wp_walk
    subst hPI;refine wpAny_pyIter_list ⟨_,hol,rfl,nl,rfl⟩ ?_;refine aI (wpAny_runValue ?_);have sz:(s.heap.push { cls:=.type "set",dict:=none,data:=.set #[] 0 (.fresh 0 0 ld)}).objs.size=s.heap.objs.size+1:=by simp[Heap.push]
    refine iN (A:=A.in1.in1) (J:=(s.heap.push { cls:=.type "set",dict:=none,data:=.set #[] 0 (.fresh 0 0 ld)}).objs.size) L I ?_ (show A.in1.in1.handled=none from hh) hn (P' (cP _)) (P' (by rw[sz];exact Ik _)) (lJ (by rw[sz];exact AW _)) hl (λz g Z=>?_) (vs.length - 0) 0 _ rfl (kK _) ?_ ?_ ?_
    .simp only[Around.in1_units];lia
    .refine bz ?_;show wpAny _ _ (ret Value.none) _ _ _;exact bz ⟨rfl,g,Z⟩
    .exact⟨rfl,λb u e=>jN _ (jN _ e)⟩
    .exact⟨_,oP _ rfl,rfl,rfl⟩
    .exact XC (jN _ gS)
   .cases r with
    |error e=>exact hr
    |ok fl=>
     cases fl with
     |ret r=>
      obtain⟨rfl,g,Z⟩:=hr
      repeat (any_goals (first|assumption|wp_step))
      exact q _ g Z
     |_=>exact hr.elim
  |_=>exact hr.elim
noncomputable def qU:List D->ao (List TK)
 |[]=>some []
 |d::ds=>(cH d).bind λk=>match k with|.tp _=>(qU ds).map (k::·)|_=>none
theorem Q4:∀{ds:List D} {ks:List TK},qU ds=some ks->ks.map TK.d=ds/\∀k,k∈ks->k.ok 8=true/\∃l,k=.tp l
 |[],ks,e=>by cases e;exact⟨rfl,λk m=>by cases m⟩
 |d::ds,ks,e=>by
  unfold qU at e;cases q:cH d with
  |none=>rw[q] at e;cases e
  |some k=>
   rw[q] at e;cases k with
   |inl i=>cases e
   |inr i=>cases e
   |tp l=>
    obtain⟨ks',e1,e2⟩:=jP.mp e;subst e2;obtain⟨h1,h2⟩:=Q4 e1;obtain⟨g1,g2⟩:=nq q;refine⟨by rw[dD,h1,g1],λk m=>?_⟩
    rcases eO.mp m with m|m
    .subst m;exact⟨g2,l,rfl⟩
    .exact h2 k m
def Q5(K:FG):List V->Hp->VK->Prop:=λvs H Q=>∃a ws ks,vs=[.ref a]/\dO K H a ws/\aw K H ws (ks.map TK.d)/\(∀k,k∈ks->k.ok 8=true/\∃l,k=.tp l)/\ks.length<1000/\Q (.int (dk ks).length) H
def Wg{l:Expr}{ta:TA}{pos:Pos}(vt:Gl X "len")(HC:X.mg "len"=none)(hg:Gl X "set")(hm:X.mg "set"=none)(ha:PA X [l] ta)(hc:X.calm=true)(hu:X.A.units+41<cLine)(hs:starEach [l] X.env=[(false,eval l X.env)]:=by rfl)
  (uJ:starEach [.Call (.Name "set" p1) [l] [] oB] X.env=[(false,eval (.Call (.Name "set" p1) [l] [] oB) X.env)]:=by rfl):PE X (.Call (.Name "len" p) [.Call (.Name "set" p1) [l] [] oB] [] pos) (Nn (Q5 X.K) ta):=by
 intro ae s Z H Q I h;refine Call_ (wt I vt HC j8 (PyProof.Rows.callWith_builtin1 ?_ uJ rfl));rw[uJ];show wpAny _ _ (spliced ((false,eval (.Call (.Name "set" p1) [l] [] oB) X.env)::[])) _ _ s;refine Calls.spliced_cons (Call_ (wt I hg hm e6h (PyProof.Rows.callWith_type1 (cL (ha oB ae s Z H _ I h) λus s1 ⟨vs,H1,I1,r1,q1⟩=>?_) hs rfl)))
 obtain⟨a,ws,ks,e,hq,rk,ok,hn,q⟩:=q1;subst e;cases r1 with
 |cons r rr=>
  cases rr;cases r;obtain⟨aG,rv,pl,hz⟩:=I1.list hq;have L:v5 X H1 ks ws aG:=⟨rk,rv,ok⟩;refine UK L I1 (by lia) (I1.ok.hd hc) (by rw[L.len];exact hn) pl.isList λs' g Z=>Calls.spliced_nil ?_
  obtain⟨es,ep,t,g1,T,_,_,g4,g5,_⟩:=Z.obj;rw[L.len] at g4 g5;rw[List.take_length] at g4;refine call_len_set g1 ⟨rfl,rfl,rfl⟩ rfl T.fits (by lia) ?_
  rw[g4];have I2:=g.inv I1;exact⟨.int (dk ks).length,H1,I2.tok _,⟨_,rfl⟩,q⟩
end
section
variable{X:Cx}{K:FG}
def x_:List O->ao O
 |[a]=>(dY a).bind λds=>(qU ds).bind λks=>if ks.length<1000 then some (.Y (.int (dk ks).length)) else none
 |_=>none
def Wh:cT K (Q5 K) x_:=by
 intro F H vs os o Q le fD e res;unfold x_ at e;split at e
 .rename_i a
  obtain⟨x,B,rfl,h1⟩:=fD.one;obtain⟨ds,q1,e⟩:=eE.mp e;obtain⟨ks,q2,e⟩:=eE.mp e;split at e
  .rename_i hn
   cases e;obtain⟨p,ws,rfl,sq,r⟩:=xS le h1 q1;obtain⟨k1,k2⟩:=Q4 q2;exact⟨p,ws,ks,rfl,sq,by rw[k1];exact r.mono le,k2,hn,res.flat rfl⟩
  .cases e
 .cases e
def Pf{l:Expr}{fs:GA}{pos:Pos}(HC:X.mg "len"=none)(hm:X.mg "set"=none)(ha:PA X [l] (jY K fs))(hu:X.A.units+41<cLine)(hc:X.calm=true:=by rfl)(vt:Gl X "len":=by rfl)(hg:Gl X "set":=by rfl)(hs:starEach [l] X.env=[(false,eval l X.env)]:=by rfl)
  (uJ:starEach [.Call (.Name "set" p1) [l] [] oB] X.env=[(false,eval (.Call (.Name "set" p1) [l] [] oB) X.env)]:=by rfl) (hK:X.K=K:=by rfl):PE X (.Call (.Name "len" p) [.Call (.Name "set" p1) [l] [] oB] [] pos) (tG K (gO x_ fs)):=by
 subst hK;exact(Wg vt HC hg hm ha hc hu hs uJ).mono λ_ _ _ t=>Cz Wh t
end
section
variable{X:Cx}{K:FG}
def Wm{a:ak}{xs:List V}{g:TG}{tt:TT}{te:TE}{τ:St}{Fin:List V->Hp->Prop}(Pv:Nat->St->List V->Hp->Prop)(h0:Pv 0 τ [] H)(hl:∀i τ aE H,i<=xs.length->Pv i τ aE H->fX K H a xs)
  (hs:∀i x τ aE H,xs[i]?=some x->Pv i τ aE H->g x τ H λτ2 H2=>tt τ2 H2 λb H3=>if b=true then te τ2 H3 λv H4=>aE.length<sizeLine/\Pv (i+1) τ2 (aE++[v]) H4 else Pv (i+1) τ2 aE H3)
  (hd:∀τ aE H,Pv xs.length τ aE H->Fin aE H):kM (xH K a) g tt te τ H Fin:=by
 refine⟨xs.length,Pv,h0,λi τ aE H hi p=>?_⟩
 have q:=hl i τ aE H hi p;by_cases gZ:i<xs.length
 .refine .inr ⟨gZ,⟨xs,xs[i],q,by simp[gZ]⟩,λx H' y=>?_⟩
  obtain⟨e,y⟩:=y;subst e;exact hs i x τ aE _ (y xs q) p
 .have e:i=xs.length:=by lia
  subst e;exact .inl ⟨⟨xs,q,cP _⟩,hd τ aE H p⟩
def Y'{fa:GE}{cap:List Nat}:jr K cap (yK K (tG K (ay fa))) (vN fa):=by
 intro Z F H A Q0 aH ds R k e w;unfold vN at e;cases q:ay fa Q0 with
 |none=>rw[q] at e;cases e
 |some p=>
  obtain⟨r,cn⟩:=p;rw[q] at e;dsimp only[Option.bind] at e;cases r with
  |var i=>cases e
  |own o=>
   cases o with
   |Y d=>
    cases d with
    |tup es=>
     cases e;refine⟨F,A,Q0,_,_,k,q,λv H1 pp=>?_⟩
     obtain⟨F1,A1,x,k1,_⟩:=pp;obtain⟨B,C,h1,h2,h3⟩:=ah.one (Z:=Z) k1.os;have rp:=rg h1;subst h3;obtain⟨k2,x2⟩:=k1.sub h2 (.bb (ng _ _));cases rp with
     |flat z _=>cases z
     |@tup a ws _ _ _ sq ri _=>
      refine⟨a,rfl,⟨ws,k1.le.lW sq⟩,w (xH K a) H1 F1 C (x.trans x2) k2 λg tt te τ Fin Pv h0 hF hs hd=>?_⟩
      have hl:=ri.length;refine Wm (xs:=ws) Pv h0 (λi τ aE H hi p=>?_) (λi x τ aE H hx p=>?_) (λτ aE H p=>hd τ aE H (by rw[<-hl];exact p))
      .obtain⟨⟨F',s1,s2⟩,_⟩:=hF i τ aE H p;exact(s1.trans s2).lW sq
      .have hi:i<ds.length:=by
        have:=(e_.mp hx).1;lia
       obtain⟨x2,sR,rx⟩:=ri.get (i:=i) (d:=ds[i]) (by simp[hi])
       rw[hx] at sR;cases sR;exact hs i ds[i] x τ aE H (Kg (by simp[hi])) (λF' s=>rx.mono s) p
    |_=>cases e
   |_=>cases e
theorem Q7(it:GE)(Q0:Gm):vN it Q0=(ay it Q0).bind λp=>match p.1 with
 |.own (.Y (.tup ds))=>some (ds,p.2)
 |_=>none:=rfl
end
def vy:O->Bool
 |.tup [_,.lst _]=>true
 |_=>false
noncomputable def mN:O->O
 |.tup [e,.lst _]=>.tup [e,.lst []]
 |o=>o
def e6i{o:O}(h:vy o=true):∃e es,o=.tup [e,.lst es]:=by
 unfold vy at h;split at h
 .exact⟨_,_,rfl⟩
 .cases h
def jT(ps:List O)(i:Nat):List O:=(ps.take i).map mN++ps.drop i
def e6j{ps:List O}{o:O}(h:ps[i]?=some o):(jT ps i)[i]?=some o/\(jT ps i).set i (mN o)=jT ps (i+1):=by
 obtain⟨hi,he⟩:=e_.mp h;have hl:((ps.take i).map mN).length=i:=by rw[bK,pU];lia
 unfold jT;rw[Em hi,he,List.take_succ_eq_append_getElem hi,he,iF,fE];generalize(ps.take i).map mN=q at *;subst hl;exact⟨by simp,by simp⟩
def qp(iy ix:Nat):GS:=λQ0=>match Q0[iy]? with
 |some (some (.tup (.lst ps::qs)))=>if ps.all vy then if ix<Q0.length then some (.nx,(Q0.set iy (some (.tup (.lst (ps.map mN)::qs)))).set ix none) else none else none
 |_=>none
section
variable{K:FG}{F H:Hp}{Z:St}{Q0:Gm}{A:List ak}
def Q8(h:ah K F H [some x] [some (.tup (.lst L::qs))] A):∃y a ws vs,x=.ref y/\H y=some (.tup (.ref a::ws))/\H a=some (.lst vs)/\vs.length=L.length:=by
 cases h with
 |@tup y ws _ _ _ _ _ hy ch t=>
  cases ws with
  |nil=>have:=ch.length;simp at this
  |cons w ws=>
   obtain⟨B,C,h1,_⟩:=ah.one (Z:=ws.map some) (Q0:=qs.map some) (x:=some w) (y:=some (.lst L)) ch;cases h1 with
   |@lst a vs _ _ _ _ _ ha ch t=>exact⟨y,a,ws,vs,rfl,hy,ha,by have:=ch.length;simpa using this⟩
def XD{es:List O}{e:O}(k:OK K F H Z Q0 A)(nr:Q0[iy]?=some (some (.tup (.lst L::qs))))(hL:L[i]?=some (.tup [e,.lst es])):
  ∃x b us zs A',Z[iy]?=some (some x)/\b∈zs/\uW H zs x [0,i,1] (.ref b)/\H b=some (.lst us)/\OK K F (upd H b (.lst [])) Z (Q0.set iy (some (.tup (.lst (L.set i (.tup [e,.lst []]))::qs)))) A'/\Ext F H A F (upd H b (.lst [])) A':=by
 obtain⟨x,Ai,C,g1,g2,g3,g4⟩:=k.os.take nr;have nd:(Ai++C).Nodup:=g4.nodup_iff.mp k.nd;have fr:∀a∈Ai++C,F a=none:=λa m=>k.fr a (g4.mem_iff.mpr m)
 obtain⟨n1,n2,n3⟩:=jk.mp nd;have q:lh (λc=>Cg c []) (.tup (.lst L::qs)) [0,i,1]=some (.tup (.lst (L.set i (.tup [e,.lst []]))::qs),.Y .bL):=by
  simp[lh,hL,Cg]
 obtain⟨v,c,c',Ac,B,k1,k2,⟨ps,k3⟩,k4,k5,k6⟩:=O' g2 n1 q;subst k3;cases k4;cases k2 with
 |@lst b us _ A1 B1 _ _ hb ch t=>
  have rG:∀a∈(b::A1++B1),a∈Ai:=λa m=>k5.mem_iff.mpr (g_ _ m)
  have mb:b∈(b::A1++B1):=by simp
  have kp:∀a u,a∉(b::A1++B1)->H a=some u->upd H b (.lst []) a=some u:=λa u n e=>by
   rw[cW (λz=>n (by rw[z];exact mb))];exact e
  have w1:ah K F (upd H b (.lst [])) [some (.ref b)] [some (.lst [])] (b::[]++[]):=.lst jl .nil .nil;obtain⟨D,j1,j2⟩:=k6 F (upd H b (.lst [])) _ (aF.refl _) kp w1;have nC:∀a∈C,a∉(b::A1++B1):=λa m y=>n3 a (rG a y) a m rfl
  have vh:ah K F (upd H b (.lst [])) Z (Q0.set iy none) C:=g3.keep (aF.refl _) λa m u e=>kp a u (nC a m) e
  have hi:iy<(Q0.set iy none).length:=by rw[vY];exact(e_.mp nr).1
  obtain⟨D2,j3,C2,j4,j5⟩:=ah.put j1 iy vh hi;rw[rS g1,AY] at j3;have s0:aB [b] (b::A1++B1):=.bb (by simp)
  have s1:aB D2 A:=by
   have a1:aB D2 (D++C):=(aB.bD j4).trans ((aB.refl D).app (.bb j5));have a2:aB (D++C) (((b::A1++B1)++B)++C):=(j2.trans (s0.app (aB.refl B))).app (aB.refl C);exact(a1.trans a2).trans (.bD ((k5.symm.append_right C).trans g4.symm))
  refine⟨x,b,us,_,D2,g1,mb,k1,hb,⟨λa u e=>?_,j3,s1.nodup k.nd,λa m=>k.fr a (s1.mem a m)⟩,aF.refl _,λa u e n=>kp a u (λy=>n (g4.mem_iff.mpr (g_ _ (rG a y)))) e,λa h=>?_,λa h=>.inl h,λa m=>.inl (s1.mem a m)⟩
  .refine kp a u (λy=>?_) (k.le a u e)
   rw[fr a (g_ _ (rG a y))] at e;cases e
  .by_cases z:a=b
   .subst z;rw[jl];exact λz=>by cases z
   .rw[cW z];exact h
variable{m:List Bool}
def CI(K:FG)(m:List Bool)(F H:Hp)(Z:St)(Q0:Gm)(A:List ak)(iy ix:Nat)(ps qs:List O)(y a:ak)(ws vs:List V)(i:Nat)(Z':St)(H':Hp):Prop:=
 ∃A',OK K F H' Z' ((Q0.set iy (some (.tup (.lst (jT ps i)::qs)))).set ix none) A'/\Ext F H A F H' A'/\Kept m Z Z'/\Z'[iy]?=some (some (.ref y))/\H' y=some (.tup (.ref a::ws))/\H' a=some (.lst vs)
def CI.step{E:Ends}{iy ix:Nat}{ps qs:List O}{y a:ak}{ws vs:List V}(n1:iy≠ix)(hy:iy<Q0.length)(hx:ix<Q0.length)(hm:(m[ix]? == some true)=false)(al:∀o∈ps,vy o=true)(vl:vs.length=ps.length){i:Nat}{x:V}{Z':St}{H':Hp}(hv:vs[i]?=some x)(p:CI K m F H Z Q0 A iy ix ps qs y a ws vs i Z' H')(he:E.nx=CI K m F H Z Q0 A iy ix ps qs y a ws vs (i+1)):
  t5 (zd K "list" FU (iY K ix [1])) E (Z'.set ix (some x)) H':=by
 obtain⟨A',k,x1,kp,sy,ey,ea⟩:=p;have hi:i<ps.length:=by rw[<-vl];exact(e_.mp hv).1
 obtain⟨e,es,eo⟩:=e6i (al _ (zj hi));have hp:ps[i]?=some (.tup [e,.lst es]):=by rw[ic hi,eo]
 obtain⟨c1,c2⟩:=e6j hp;have lp:((Q0.set iy (some (.tup (.lst (jT ps i)::qs)))).set ix none)[ix]?=some none:=by rw[Iv (by rw[vY];exact hx)]
 have k2:OK K F H' (Z'.set ix (some x)) ((Q0.set iy (some (.tup (.lst (jT ps i)::qs)))).set ix none) A':=⟨k.le,ah.loose k.os lp,k.nd,k.fr⟩;obtain⟨z,b,us,zs,A2,s1,mb,wk,hb,k3,x3⟩:=XD (iy:=iy) (i:=i) (L:=jT ps i) (qs:=qs) k2 (by rw[AU n1.symm,Iv hy]) c1
 rw[AU n1.symm,sy] at s1;cases s1;have sx:(Z'.set ix (some x))[ix]?=some (some x):=by
  rw[Iv];have:=k.os.length;rw[vY,vY] at this;lia
 cases wk with
 |cons h1 m1 g1 wk=>
  cases wk with
  |cons h2 m2 g2 wk=>
   have h1:=h1.resolve_left λz=>by rw[ey] at z;cases z
   rw[ey] at h1;cases h1;cases g1;have h2:=h2.resolve_right λz=>by rw[ea] at z;cases z
   rw[ea] at h2;cases h2;rw[hv] at g2;cases g2;have ny:y≠b:=λz=>m1 (by rw[z];exact mb)
   have na:a≠b:=λz=>m2 (by rw[z];exact mb)
   refine⟨x,.ref b,sx,wk.wk,.inl ⟨rfl,us,dO.of hb⟩,b,us,rfl,rfl,hb,?_⟩;rw[he];refine⟨A2,?_,x1.trans x3,kp.trans (Kept.set hm),by rw[AU n1.symm];exact sy,by rw[cW ny];exact ey,by rw[cW na];exact ea⟩
   rw[List.set_comm _ _ n1.symm,AY] at k3;have c2:(jT ps i).set i (.tup [e,.lst []])=jT ps (i+1):=c2;rw[c2] at k3;exact k3
end
section
variable{X:Cx}{K:FG}{m:List Bool}{iy ix:Nat}{tg iter:Expr}{body:List Stmt}{pos:Pos}
def e6k(hp:PassesOwn (model X.prog X.w) X.A X.env X.xe)(hi:PE X iter (iY K iy [0]))(hg:PG X tg (qm ix))(hb:hU X body (t5 (zd X.K "list" FU (iY K ix [1]))))(n1:(iy == ix)=false)(hm:(m[ix]? == some true)=false:=by rfl)(hc:X.calm=true:=by rfl)(hK:X.K=K:=by rfl)(hs:∀x,foldedSetIterable iter X.env x=pure x:=by intro _;rfl):PS X (.For tg iter body [] pos) (tS K m (qp iy ix)):=by
 subst hK;refine(ye hp hc (J_ hi) hg hb hs).mono λD Z H tt=>?_
 obtain⟨F,A,Q0,fl,ax,k,e,w⟩:=tt;unfold qp at e;split at e
 .rename_i ps qs nr
  split at e
  case isFalse=>cases e
  rename_i al
  split at e
  case isFalse=>cases e
  rename_i hx
  cases e;have n1:iy≠ix:=by simpa using n1
  have hy:=(e_.mp nr).1;obtain⟨x,Ai,C,g1,g2,g3,g4⟩:=k.os.take nr;obtain⟨y,a,ws,vs,rfl,ey,ea,vl⟩:=Q8 g2;refine⟨.ref y,.ref a,g1,.cons (.inr (fX.of ey)) rfl .nil,a,rfl,⟨vs,dO.of ea⟩,PF (xs:=vs) (CI X.K m F H Z Q0 A iy ix ps qs y a ws vs) ?_ (λi Z' H' _ p=>?_) (λi x' Z' H' hx' p=>?_) λZ' H' p=>?_⟩
  .obtain⟨B,h1,h2⟩:=k.os.forget ix;obtain⟨k1,x1⟩:=k.sub h1 (.bb h2);refine⟨B,?_,x1,Kept.refl,g1,ey,ea⟩;have:jT ps 0=ps:=rfl;rw[this,rS nr];exact k1
  .obtain⟨_,_,_,_,_,_,q⟩:=p;exact dO.of q
  .exact p.step n1 hy hx hm (λo mo=>jH.mp al o mo) vl hx' rfl
  .obtain⟨A',k',x1,kp,_⟩:=p;rw[vl] at k';have:jT ps ps.length=ps.map mN:=by unfold jT;rw[List.take_length,List.drop_length,jq]
   rw[this] at k';exact w Z' H' ⟨F,A',x1,k',kp⟩
 .cases e
end
noncomputable def ql(iy:Nat):GE:=λQ0=>match Q0[iy]? with
 |some (some (.tup (.lst ps::_)))=>some (.own (.Y (.int (ps.length:Nat))),Q0)
 |_=>none
def Za{X:Cx}{e:Expr}{pos:Pos}(hm:X.mg "len"=none)(ha:PE X e (iY K iy [0]))(hK:X.K=K:=by rfl)(hg:Gl X "len":=by rfl)(hs:starEach [e] X.env=[(false,eval e X.env)]:=by rfl):PE X (.Call (.Name "len" p) [e] [] pos) (tG K (ql iy)):=
 (PJ (ke K hK) hg hm j8 (Qu ha tI hs) (by decide) (by decide) hs (by rfl)).mono λZ H Q tt=>by
  obtain⟨F,A,Q0,rr,ax,k,e,w⟩:=tt;unfold ql at e;split at e
  .rename_i ps qs nr
   cases e;obtain⟨x,Ai,C,g1,g2,g3,g4⟩:=k.os.take nr;obtain⟨y,a,ws,vs,rfl,ey,ea,vl⟩:=Q8 g2;rw[<-vl] at w;exact⟨.ref y,.ref a,g1,.cons (.inr (fX.of ey)) rfl .nil,.inl ⟨a,vs,rfl,.inl (dO.of ea),w (.int (vs.length:Nat)) H ⟨F,A,Ext.refl,⟨k.le,.Y (.flat rfl .nil) k.os,k.nd,k.fr⟩,ig⟩⟩⟩
  .cases e
theorem Zb(iy:Nat)(Q0:Gm):ql iy Q0=match Q0[iy]? with
 |some (some (.tup (.lst ps::_)))=>some (.own (.Y (.int (ps.length:Nat))),Q0)
 |_=>none:=rfl
theorem Zc(iy ix:Nat)(Q0:Gm):qp iy ix Q0=match Q0[iy]? with
 |some (some (.tup (.lst ps::qs)))=>if ps.all vy then if ix<Q0.length then some (.nx,(Q0.set iy (some (.tup (.lst (ps.map mN)::qs)))).set ix none) else none else none
 |_=>none:=rfl
def Wk.mono{H':Hp}(s:aF H H'){v:V}{π:List Nat}(h:Wk K H x π v):Wk K H' x π v:=by
 induction h with
 |nil=>exact .nil
 |cons q e _ ih=>
  refine .cons ?_ e ih;rcases q with q|q
  .exact .inl (q.imp (λq=>s.rd q) id)
  .exact .inr (s.lW q)
def j_(g:O->List O->ao (O×O))(i:Nat)(π:List Nat)(fs:GA):GE:=λQ0=>match Q0[i]? with
 |some (some o)=>(fs (Q0.set i none)).bind λq=>(fy q.1).bind λos=>match q.2[i]? with
  |some none=>(lh (λc=>g c os) o π).bind λz=>some (.own z.2,q.2.set i (some z.1))
  |_=>none
 |_=>none
section
variable{X:Cx}{K:FG}{o e:Expr}{es:List Expr}{i:Nat}{π:List Nat}{fs:GA}{name:Str}{apos cu:Pos}{id:String}{r:V->List V->Hp->VK->Prop}{g:O->List O->ao (O×O)}
def Wn{Q0 ax:Gm}{rr:R}(e:j_ g i π fs Q0=some (rr,ax)):∃o rs cn os z,Q0[i]?=some (some o)/\fs (Q0.set i none)=some (rs,cn)/\fy rs=some os/\cn[i]?=some none/\lh (λc=>g c os) o π=some z/\rr=.own z.2/\ax=cn.set i (some z.1):=by
 unfold j_ at e;split at e
 .rename_i o h
  obtain⟨q,e1,e⟩:=eE.mp e;obtain⟨os,e2,e⟩:=eE.mp e;split at e
  .rename_i h3
   obtain⟨z,e4,e⟩:=eE.mp e;cases e;exact⟨o,q.1,q.2,os,z,h,e1,e2,h3,e4,rfl,rfl⟩
  .cases e
 .cases e
def Q9(ok:iU K r g){Z:St}{Q:VK}(tt:tG K (j_ g i π fs) Z H Q):H_ K "list" r (iY K i π) (jY K fs) Z H Q:=by
 obtain⟨F,A,Q0,rr,ax,k,e,w⟩:=tt;obtain⟨oo,rs,cn,os,z,nr,e2,e3,e4,q,rfl,rfl⟩:=Wn e;obtain⟨x,Ai,C,g1,g2,g3,g4⟩:=k.os.take nr;have nd:(Ai++C).Nodup:=g4.nodup_iff.mp k.nd;have fr:∀a∈Ai++C,F a=none:=λa m=>k.fr a (g4.mem_iff.mpr m)
 obtain⟨n1,n2,n3⟩:=jk.mp nd;have nC:∀a∈Ai,a∉C:=λa m y=>n3 a m a y rfl
 have hr:∀a,(λa=>if a∈Ai then H a else none:Hp) a=if a∈Ai then H a else none:=λ_=>rfl
 generalize hHr:(λa=>if a∈Ai then H a else none:Hp)=Hr at hr
 have sr:aF Hr H:=λa u e=>by
  rw[hr] at e;split at e
  .exact e
  .cases e
 have inr:∀a u,Hr a=some u->a∈Ai:=λa u e=>by
  rw[hr] at e;split at e
  .assumption
  .cases e
 have g2r:ah K F Hr [some x] [some oo] Ai:=g2.keep (aF.refl _) λa m u e=>by rw[hr,aU m];exact e
 obtain⟨v,c,c',Ac,B,k1,k2,⟨ps,k3⟩,k4,k5,k6⟩:=O' g2r n1 q;have rG:∀a∈Ac,a∈Ai:=λa m=>k5.mem_iff.mpr (g_ _ m)
 refine⟨x,v,g1,k1.wk.mono sr,?_,F,C,Q0.set i none,rs,cn,⟨k.le,g3,n2,λa m=>fr a (gE _ m)⟩,e2,λvs H1 p=>?_⟩
 .subst k3;cases k2 with
  |lst hq _ _=>exact .inl ⟨rfl,_,dO.of (sr _ _ hq)⟩
 obtain⟨F1,A1,x1,kk,hh⟩:=p;rw[rT e3] at kk;have hl:vs.length=os.length:=by
  have:=hh.length;have h4:=congrArg List.length (rT e3);simp at h4;lia
 obtain⟨B1,C1,a1,a2,a3⟩:=ah.split (by simpa using hl) kk.os
 subst a3;have h1:∀a u,Hr a=some u->H1 a=some u:=λa u e=>x1.keep a u (sr a u e) (nC a (inr a u e))
 have Lm:∀a∈Ai,a∉B1++C1:=λa m y=>by
  rcases x1.own a y with z|z
  .exact nC a m z
  .exact g2.there a m z
 have Ma:∀a∈Ai,F1 a=none:=λa m=>by
  cases e:F1 a with
  |none=>rfl
  |some o=>
   rcases x1.new a (by rw[e];exact λz=>by cases z) with z|z|z
   .exact bZ (fr a (g_ _ m)) z
   .exact bZ z (nC a m)
   .exact bZ z (g2.there a m)
 have ndA:(Ai++(B1++C1)).Nodup:=jk.mpr ⟨n1,kk.nd,λa m b m' e=>by subst e;exact Lm a m m'⟩
 have ndc:(Ac++B).Nodup:=k5.nodup_iff.mp n1;have TQ:ah K F1 H1 [some v] [some c] Ac:=k2.keep x1.ff λa m u e=>h1 a u e
 have ndB:(Ac++B1).Nodup:=jk.mpr ⟨(jk.mp ndc).1,(jk.mp kk.nd).1,λa m b m' e=>by subst e;exact Lm a (rG a m) (g_ _ m')⟩
 refine ok F1 H1 v vs c os c' z.2 Ac B1 Q kk.le TQ a1 ndB (λa m=>?_) k4 λv' H' A' Ar kp dm w1 w2 sp=>?_
 .rcases eD.mp m with m|m
  .exact Ma a (rG a m)
  .exact kk.fr a (g_ _ m)
 obtain⟨D,j1,j2⟩:=k6 F1 H' A' x1.ff (λa u n e=>kp a u n (h1 a u e)) w1
 have vh:ah K F1 H' Z cn C1:=a2.keep (aF.refl _) λa m u e=>kp a u (λy=>Lm a (rG a y) (gE _ m)) e
 have hi:i<cn.length:=(e_.mp e4).1;obtain⟨D2,j3,C2,j4,j5⟩:=ah.put j1 i vh hi;rw[rS g1] at j3;have s1:aB (Ar++D2) (Ai++(B1++C1)):=by
  have b1:aB D2 (D++C1):=(aB.bD j4).trans ((aB.refl D).app (.bb j5));have b2:aB (Ar++D2) (Ar++((A'++B)++C1)):=(aB.refl Ar).app (b1.trans (j2.app (aB.refl C1)));have b3:aB (Ar++((A'++B)++C1)) (((Ac++B1)++B)++C1):=by
   rw[<-fE,<-fE];exact(sp.app (aB.refl B)).app (aB.refl C1)
  have b4:(((Ac++B1)++B)++C1).Perm (Ai++(B1++C1)):=by
   have p1:((Ac++B1)++B).Perm (Ai++B1):=by
    rw[fE];refine(List.Perm.append_left Ac qB).trans ?_;rw[<-fE];exact k5.symm.append_right B1
   rw[<-fE];exact p1.append_right C1
  exact b2.trans (b3.trans (.bD b4))
 have hA:∀a∈C,a∈A:=λa m=>g4.mem_iff.mpr (gE _ m)
 have Tf:∀a∈Ai,a∈A:=λa m=>g4.mem_iff.mpr (g_ _ m)
 refine w v' H' ⟨F1,Ar++D2,⟨x1.ff,λa u e n=>kp a u (λy=>n (Tf a (rG a y))) (x1.keep a u e λy=>n (hA a y)),λa h=>dm a (x1.rE a h),λa h=>?_,λa m=>?_⟩,⟨λa u e=>?_,w2.app j3,s1.nodup ndA,λa m=>?_⟩,ig⟩
 .rcases x1.new a h with y|y|y
  .exact .inl y
  .exact .inr (.inl (hA a y))
  .exact .inr (.inr y)
 .rcases eD.mp (s1.mem a m) with m|m
  .exact .inl (Tf a m)
  .rcases x1.own a m with y|y
   .exact .inl (hA a y)
   .exact .inr y
 .refine kp a u (λy=>?_) (kk.le a u e)
  rw[Ma a (rG a y)] at e;cases e
 .rcases eD.mp (s1.mem a m) with m|m
  .exact Ma a m
  .exact kk.fr a m
def Zd(slot:Slot "list" name id)(qR:typeOf (.builtin id)=pure (.type "method_descriptor"))(hm:v7 X id r)(ok:iU K r g)(ho:PE X o (iY K i π))(ha:PA X (e::es) (jY K fs))
  (iz:attributeBase o name X.env (eval o X.env)=eval o X.env:=by rfl)
  (pF:((backTo cu (starEach (e::es) X.env)).all (λx => !x.1)&&(backToKw cu (keywordEach [] X.env)).all (λx=>x.1.isSome) && decide ((e::es).length+([]:List Keyword).length+(if([]:List Keyword).isEmpty then 0 else 1)<30))=true:=by rfl)
  (iA:(apos.endLine == cu.line)=true:=by rfl) (hs:starEach (e::es) X.env=(false,eval e X.env)::starEach es X.env:=by rfl) (je:(backTo cu (starEach es X.env)).any (·.1)=false:=by rfl) (hK:X.K=K:=by rfl) :
  PE X (.Call (.Attribute o name apos) (e::es) [] cu) (tG K (j_ g i π fs)):=by
 subst hK;exact(Lj PySem.F.plainAttrs_list slot qR hm ho ha iz pF iA hs je).mono λ_ _ _ t=>Q9 ok t
def XE(slot:Slot "list" name id)(qR:typeOf (.builtin id)=pure (.type "method_descriptor"))(hm:v7 X id r)(ok:iU K r g)(ho:PE X o (iY K i π))
  (iz:attributeBase o name X.env (eval o X.env)=eval o X.env:=by rfl) (iA:(apos.endLine == cu.line)=true:=by rfl) (hK:X.K=K:=by rfl) :
  PE X (.Call (.Attribute o name apos) [] [] cu) (tG K (j_ g i π gN)):=by
 subst hK;refine(RJ PySem.F.plainAttrs_list slot qR hm ho iz iA).mono λZ H Q t=>?_
 obtain⟨x,v,h1,h2,h3,F,A,Q0,rs,ax,k,e,w⟩:=Q9 ok t;cases e;exact⟨x,v,h1,h2,h3,w [] H ⟨F,A,Ext.refl,k,ig⟩⟩
theorem Ze(g:O->List O->ao (O×O))(i:Nat)(π:List Nat)(fs:GA)(Q0:Gm):j_ g i π fs Q0=match Q0[i]? with
 |some (some o)=>(fs (Q0.set i none)).bind λq=>(fy q.1).bind λos=>match q.2[i]? with
  |some none=>(lh (λc=>g c os) o π).bind λz=>some (.own z.2,q.2.set i (some z.1))
  |_=>none
 |_=>none:=rfl
end
end L2
namespace L2
variable{k:Nat}
def Zf{A:PySem.Around}(hr:eG k A):A.units+41<PySem.cLine:=Nat.lt_of_le_of_lt (Nat.add_le_add_left (by decide:41<=64) _) hr.units
open PySem PySem.Spec PyProof.Rows in
def fM{P:fO}{w:eK}{K:FG}{mg:Str->ao aq}{base:cS}{x qual:Str}{st:Stmt}{fa:ak}{fd:lY}{N ps:List Str}(m:List Bool)(f:GS)(Fn:rO K x qual st fa fd)(S:aJ N ps (dg st)){n pn:Nat}
  (hb:∀(gp:aq) (A:dZ) (outer:List Env) (s:az) (H:Hp) (E:XK),eG k (A.deeper (envOfC qual (dg st) s.heap.objs.size fa gp))->(A.deeper (envOfC qual (dg st) s.heap.objs.size fa gp)).units+40<cLine->(A.deeper (envOfC qual (dg st) s.heap.objs.size fa gp)).units+41<cLine-> ∃f',hU (mO eZ P w K mg base N qual (dg st) fa gp A outer s H E).yU (uk st) (tS K m f')/\f'=f) (hn:N.length=n:=by rfl) (hp:ps.length=pn:=by rfl) (hm:m.length<=ps.length:=by decide):bR P w K mg base eZ (k+1) fa fd ps (fJ K pn (runM n m f)):=e5l m f Fn S hn hp hm λ_ _ _ _ _ _ hr=>hb _ _ _ _ _ _ hr (YC hr) (Zf hr)
end L2
namespace Carry
open PySem L2
variable{X:Cx}{K:FG}
seal PE PA PT PS hU
theorem sM{N P:List Str}{sc:Scope}(h1:sc.kind=.function:=by rfl)(h2:sc.isCoroutine=false:=by rfl)(h3:sc.isGenerator=false:=by rfl)(h4:N.Nodup:=by decide +kernel)(h5:N.take P.length=P:=by rfl)(h6:∀x∈P,sc.names.lookup x=some .local \/ sc.names.lookup x=some .cell:=by decide +kernel)(h7:∀y∈sc.names,y.2≠.free:=by decide +kernel):aJ N P sc:=⟨h1,h2,h3,h4,h5,h6,h7⟩
theorem dI{i:Int}{j pos}:PE X (.Constant (.int i) j pos) (tG K (gC (.int i))):=d_ B7
theorem ai(i:Nat){x:Str}{pos:Pos}(hN:X.N[i]?=some x:=by rfl)(hv:EF X.env.scope x:=by first|exact Or.inl rfl|exact Or.inr (Or.inl rfl)|exact Or.inr (Or.inr rfl))(hd:(x == ("__debug__":Str))=false:=by decide)(qQ:(x == ("__classdict__":Str))=false:=by decide):PE X (.Name x pos) (tG K (aa i)):=e5g (pv i hN hv hd qQ)
theorem bV{a b:Expr}{pos:Pos}{fa fb:GE}(hu:X.A.units+41<cLine)(ha:PE X a (tG K fa))(hb:PE X b (tG K fb))(hs:zD b:=by exact λ_ _=>rfl)(hK:X.K=K:=by rfl):PE X (.Subscript a b pos) (tG K (gB bt fa fb)):=e8z (G4 K hu hK) e9c ha hb hs
noncomputable def top(i:Nat):Stmt:=PySem.Challenge.pw_carry_k33_in_time_walked.main.body.getD i (.Pass ⟨0,0,0,0⟩)
abbrev Lu:Stmt:=top 1
abbrev K0:Stmt:=top 2
abbrev JL:Stmt:=top 3
abbrev K1:Stmt:=top 4
abbrev Jg:Stmt:=top 6
abbrev FD:Stmt:=top 8
abbrev Kl:Stmt:=top 9
abbrev E1:Stmt:=top 13
abbrev K2:Stmt:=top 14
abbrev Jh:Stmt:=top 15
abbrev ER:Stmt:=top 16
abbrev IU:Stmt:=top 17
abbrev FE:Stmt:=top 18
abbrev JM:Stmt:=top 20
abbrev JN:Stmt:=top 21
abbrev JO:Stmt:=top 22
abbrev Fd:Stmt:=top 23
abbrev E2:Stmt:=top 24
abbrev E3:Stmt:=top 25
abbrev E4:Stmt:=top 26
abbrev ES:Stmt:=top 27
abbrev Ji:Stmt:=top 28
abbrev JP:Stmt:=top 29
abbrev IJ:Stmt:=top 30
abbrev Fe:Stmt:=top 31
abbrev IV:Stmt:=top 32
abbrev EG:Stmt:=top 33
abbrev EM:Stmt:=top 34
abbrev IH:Stmt:=top 35
abbrev JQ:Stmt:=top 36
abbrev Lv:Stmt:=top 37
set_option genInjectivity false in
set_option genSizeOfSpec false in
structure Iy where
 (f0 f1 f2 f3 f4 f5 f6 f7 f8 f9 G8 G9 G_ G' Ha Hb Hc He Hf Hg Hh Hi Hj Hk Hl Hm Ho Hq Hs Ht CT:ak)
 (d0 d1 d2 d3 d4 d5 d6 d7 d8 d9 CH CJ Gx Gy Gz GB GC GD GF GH GI GJ GK GL GN GP GQ GR GU GV CO:lY)
structure Txt (K:FG) (mg:Str->ao aq) (t:Iy):Prop where
 F0:bS K mg "lay" Lu t.f0 t.d0 ["net","here","there","room"]
 F1:bS K mg "fill" K0 t.f1 t.d1 ["net","start","end"]
 F2:bS K mg "search" JL t.f2 t.d2 ["net","start"]
 F3:bS K mg "push" K1 t.f3 t.d3 ["net","came","end"]
 F4:bS K mg "belt_of" Jg t.f4 t.d4 ["house","name"]
 F5:bS K mg "steps" FD t.f5 t.d5 ["house","place"]
 F6:bS K mg "moves" Kl t.f6 t.d6 ["house","place"]
 F7:bS K mg "in_time" E1 t.f7 t.d7 ["house","places","cart","turns"]
 F8:bS K mg "into" K2 t.f8 t.d8 ["place","moment"]
 F9:bS K mg "lay_net" Jh t.f9 t.d9 ["net","house","places","cart","turns"]
 Be:bS K mg "lay_spot" ER t.G8 t.CH ["net","house","place","moment","cart","plenty"]
 Bf:bS K mg "followed" IU t.G9 t.CJ ["net","first","cart"]
 Bg:bS K mg "taken" FE t.G_ t.Gx ["net","behind"]
 Bi:bS K mg "_law_feed" JM t.G' t.Gy ["_law_script"]
 lZ:bS K mg "_law_draw" JN t.Ha t.Gz ["_law_feed_here","_law_many"]
 Bj:bS K mg "_law_name" JO t.Hb t.GB ["_law_style","_law_k"]
 Bk:bS K mg "_law_outs" Fd t.Hc t.GC ["_law_feed_here","_law_names","_law_k","_law_many"]
 Bl:bS K mg "_law_house" E2 t.He t.GD ["_law_feed_here"]
 zl:bS K mg "_law_cells" E3 t.Hf t.GF ["_law_house_here"]
 zm:bS K mg "_law_steps" E4 t.Hg t.GH ["_law_house_here","_law_place"]
 Bm:bS K mg "_law_copied" ES t.Hh t.GI ["_law_house_here"]
 zo:bS K mg "_law_whole" Ji t.Hi t.GJ ["_law_found"]
 Bn:bS K mg "_law_goes" JP t.Hj t.GK ["_law_house_here","_law_place","_law_cart","_law_told_here"]
 Bo:bS K mg "_law_together" IJ t.Hk t.GL ["_law_ways"]
 Bp:bS K mg "_law_sets" Fe t.Hl t.GN ["_law_house_here","_law_places_here","_law_cart","_law_turns","_law_cut"]
 Bq:bS K mg "_law_places" IV t.Hm t.GP ["_law_feed_here","_law_house_here","_law_most"]
 Br:bS K mg "_law_ways_right" EG t.Ho t.GQ ["_law_house_here","_law_places_here","_law_cart","_law_turns","_law_ways"]
 zp:bS K mg "_law_is_spot" EM t.Hq t.GR ["_law_spot","_law_size"]
 Bs:bS K mg "_law_cut_right" IH t.Hs t.GU ["_law_house_here","_law_places_here","_law_cart","_law_turns","_law_cut"]
 zq:bS K mg "_law_told" JQ t.Ht t.GV ["_law_house_here","_law_places_here","_law_cart","_law_turns","_law_found"]
 Bu:bS K mg "law" Lv t.CT t.CO ["_law_script"]
 cB:mg "len"=none
 a_:mg "isinstance"=none
 se:mg "int"=none
 yn:mg "bool"=none
 nZ:mg "str"=none
 ik:mg "list"=none
 kz:mg "tuple"=none
 eA:mg "range"=none
 Cv:mg "any"=none
 Cu:mg "all"=none
 nY:mg "enumerate"=none
 wI:mg "set"=none
 kA:∃t,mg "START"=some (.str "the start" t)
 sg:∃t,mg "END"=some (.str "the end" t)
section
variable{P:fO}{w:eK}{K:FG}{mg:Str->ao aq}{base:cS}{t:Iy}
theorem tU:aJ ["net","here","there","room","node"] ["net","here","there","room"] (dg Lu):=sM
def Lw:GS:=(aT (Cc (bg .tup (aj (aa 1) (aj (aa 2) gN))) (bu 4) (cf (gT (gB (cj true) (aa 4) (aa 0))) (iw zS (aa 0) (aa 4)) bw)) (aT (uz 0 (sV 1) (sV 2) (sV 3)) (uz 0 (sV 2) (sV 1) (sC (.int 0)))))
def uD:GM:=runM 5 [true,false,false,false] Lw
variable(P w K mg base t)in
abbrev Lx:Prop:=bR P w K mg base eZ 1 t.f0 t.d0 ["net","here","there","room"] (fJ K 4 uD)
theorem e6l(T:Txt K mg t):Lx P w K mg base t:=
 fM (k:=0) [true,false,false,false] Lw T.F0.fn tU λ_ _ _ _ _ _ hr dH dM=>(by
  exact⟨_,(bA (YH PassesOwn.never (jm (au (ai 1) (au (ai 2) aO))) (e8 (i:=4) tU.nd rfl (Or.inl rfl)) fe
   (bW (gR (fK (rR K ‹_›) (nQ true) (ai 4) (ai 0))
   (bW (Ci Jy (ai 0) (ai 4) ‹_›))
   gQ)))
   (bA (QQ (pv 3) u_ (pv 0) (pv 1) u_ (pv 2) u_ ‹_›)
   (bW (QQ B7 (LL (d:=.int 0) rfl) (pv 0) (pv 2) u_ (pv 1) u_ ‹_›)))),rfl⟩)
theorem eu:aJ ["net","start","came","rim","further","here","there"] ["net","start"] (dg JL):=sM
def JR:GS:=(aT (av 2 (Cn (aa 1) (gC .bL))) (aT (av 3 (ay (bg .lst (aj (aa 1) gN)))) (aT (ja (dE (aa 3)) (aT (av 4 (bg .lst gN)) (aT (dQ (aa 3) (bu 5) (Cq (gB bt (aa 0) (aa 5)) (bu 6) (cf (gH (gT (gB vE (gB bt (gB bt (aa 0) (aa 5)) (aa 6)) (gC (.int 0)))) (gT (gB (cj true) (aa 6) (aa 2)))) (aT (iw (aa 5) (aa 2) (aa 6)) (jv (gb lD (aa 4) (aj (aa 6) gN)))) bw))) (av 3 (ay (aa 4))))) 1000000) (aP (fw (aa 2))))))
def rX:GM:=runM 7 [false,false] JR
variable(P w K mg base t)in
abbrev Qa:Prop:=bR P w K mg base eZ 1 t.f2 t.d2 ["net","start"] (fJ K 2 rX)
theorem Wq(T:Txt K mg t):Qa P w K mg base t:=
 fM (k:=0) [false,false] JR T.F2.fn eu λ_ _ _ _ _ _ hr dH dM=>(by
  exact⟨_,(bA (cZ (i:=2) eu.nd rfl (Or.inl rfl) (Xh ‹_› (ai 1) (d_ (d:=.bL) B8)))
   (bA (cZ (i:=3) eu.nd rfl (Or.inl rfl) (bX (l7 (au (ai 1) aO))))
   (bA (E8 1000000 PassesOwn.never (kS (ai 3))
   (bA (cZ (i:=4) eu.nd rfl (Or.inl rfl) (l7 aO))
   (bA (p9 PassesOwn.never (ai 3) (e8 (i:=5) eu.nd rfl (Or.inl rfl)) fe
   (bW (Y2 PassesOwn.never (bV ‹_› (ai 0) (ai 5)) (e8 (i:=6) eu.nd rfl (Or.inl rfl)) fe
   (bW (gR (PW.pt (u6 (fK Ab Af (bV ‹_› (bV ‹_› (ai 0) (ai 5)) (ai 6)) dI) (xW (fK (rR K ‹_›) (nQ true) (ai 6) (ai 2)))))
   (bA (Ci (ai 5) (ai 2) (ai 6) ‹_›)
   (bW (lC (pz PySem.F.slot_list_append PySem.F.type_list_append q_ ra (ai 4) (au (ai 6) aO)))))
   gQ)))))
   (bW (cZ (i:=3) eu.nd rfl (Or.inl rfl) (bX (ai 4)))))))
   (bW (eP (um (ai 2))))))),rfl⟩)
theorem kI:aJ ["net","came","end","there","here"] ["net","came","end"] (dg K1):=sM
def K3:GS:=(aT (av 3 (aa 2)) (ja (gT (gB (ox true) (gB bt (aa 1) (aa 3)) (gC .bL))) (aT (av 4 (gB bt (aa 1) (aa 3))) (aT (uA (λi j=>i - j) 0 (sV 4) (sV 3) (sC (.int 1))) (aT (uA (λi j=>i+j) 0 (sV 3) (sV 4) (sC (.int 1))) (av 3 (aa 4))))) 1000000))
def zV:GM:=runM 5 [true,false,false] K3
variable(P w K mg base t)in
abbrev R4:Prop:=bR P w K mg base eZ 1 t.f3 t.d3 ["net","came","end"] (fJ K 3 zV)
theorem Zg(T:Txt K mg t):R4 P w K mg base t:=
 fM (k:=0) [true,false,false] K3 T.F3.fn kI λ_ _ _ _ _ _ hr dH dM=>(by
  exact⟨_,(bA (cZ (i:=3) kI.nd rfl (Or.inl rfl) (ai 2))
   (bW (E8 1000000 PassesOwn.never (fK QH (SJ true) (bV ‹_› (ai 1) (ai 3)) (d_ (d:=.bL) B8))
   (bA (cZ (i:=4) kI.nd rfl (Or.inl rfl) (bV ‹_› (ai 1) (ai 3)))
   (bA (QR σ (pv 0) (pv 4) u_ (pv 3) u_ B7 (LL (d:=.int 1) rfl) ‹_›)
   (bA (QR ρ (pv 0) (pv 3) u_ (pv 4) u_ B7 (LL (d:=.int 1) rfl) ‹_›)
   (bW (cZ (i:=3) kI.nd rfl (Or.inl rfl) (ai 4))))))))),rfl⟩)
theorem kZ:aJ ["house","name","belt"] ["house","name"] (dg Jg):=sM
def Jj:GS:=(aT (dQ (gB bt (aa 0) (gC (.int 0))) (bu 2) (cf (gT (gB oEq (gB bt (aa 2) (gC (.int 0))) (aa 1))) (aP (bg .tup (aj (gB bt (aa 2) (gC (.int 0))) (aj (gB bt (aa 2) (gC (.int 1))) (aj (gB bt (aa 2) (gC (.int 2))) (aj (ay (gO iX (aj (gB bt (aa 2) (gC (.int 3))) gN))) gN)))))) bw)) (aP (gC .bL)))
def BF:GM:=runM 3 [false,false] Jj
variable(P w K mg base t)in
abbrev Pg:Prop:=bR P w K mg base eZ 1 t.f4 t.d4 ["house","name"] (fJ K 2 BF)
theorem Vk(T:Txt K mg t):Pg P w K mg base t:=
 fM (k:=0) [false,false] Jj T.F4.fn kZ λ_ _ _ _ _ _ hr dH dM=>(by
  exact⟨_,(bA (p9 PassesOwn.never (bV ‹_› (ai 0) dI) (e8 (i:=2) kZ.nd rfl (Or.inl rfl)) fe
   (bW (gR (fK (p_ K ‹_›) qe (bV ‹_› (ai 2) dI) (ai 1))
   (bW (eP (jm (au (bV ‹_› (ai 2) dI) (au (bV ‹_› (ai 2) dI) (au (bV ‹_› (ai 2) dI) (au (bX (xK (EI K) Fu T.ik wj (au (bV ‹_› (ai 2) dI) aO))) aO)))))))
   gQ)))
   (bW (eP (d_ (d:=.bL) B8)))),rfl⟩)
theorem Zh:aJ ["place","moment"] ["place","moment"] (dg K2):=sM
def K4:GS:=(aP (bg .tup (aj (ay (bg .tup (aj (gB bt (aa 0) (gC (.int 0))) (aj (gB bt (aa 0) (gC (.int 1))) (aj (aa 1) gN))))) (aj (gC (.str "into")) gN))))
def uC:GM:=runM 2 [false,false] K4
variable(P w K mg base t)in
abbrev Gn:Prop:=bR P w K mg base eZ 1 t.f8 t.d8 ["place","moment"] (fJ K 2 uC)
theorem Zi(T:Txt K mg t):Gn P w K mg base t:=
 fM (k:=0) [false,false] K4 T.F8.fn Zh λ_ _ _ _ _ _ hr dH dM=>(by
  exact⟨_,(bW (eP (jm (au (bX (jm (au (bV ‹_› (ai 0) dI) (au (bV ‹_› (ai 0) dI) (au (ai 1) aO))))) (au (d_ (d:=.str "into") r6) aO))))),rfl⟩)
theorem oE:aJ ["net","behind","went"] ["net","behind"] (dg FE):=sM
def Km:GS:=(aT (av 2 (ay (kT (tW (gB bt (aa 0) (aa 1))) (bu 0) (gT (gB vE (gB bt (gB bt (aa 2) (aa 0)) (aa 1)) (gC (.int 0)))) (aa 0) 1 [1,0]))) (aP (gB bt (aa 2) (gC (.int 0)))))
def ya:GM:=runM 3 [false,false] Km
variable(P w K mg base t)in
abbrev Q_:Prop:=bR P w K mg base eZ 1 t.G_ t.Gx ["net","behind"] (fJ K 2 ya)
theorem XF(T:Txt K mg t):Q_ P w K mg base t:=
 fM (k:=0) [false,false] Km T.Bg.fn oE λ_ _ _ _ _ _ hr dH dM=>(by
  exact⟨_,(bA (BM (i:=2) Xq (k:=1) (cap:=[1,0]) fe (M:=["there","behind","net"]) (b_.of (dg FE).names ["net","behind","went"] (by decide +kernel)) oE.nd rfl (Or.inl rfl) (YY K (bX (bV ‹_› (ai 0) (ai 1))))
    (λ_ _ _ _=>(e8 (i:=0) (show List.Nodup (["there","behind","net"]:List Str) by decide +kernel) rfl (Or.inl rfl))) (λ_ _ _ _=>(Fv (fK Ab Af (bV ‹_› (bV ‹_› (ai 2) (ai 0)) (ai 1)) dI))) (λ_ _ _ _=>(ai 0)))
   (bW (eP (bV ‹_› (ai 2) dI)))),rfl⟩)
theorem mz:aJ ["_law_script","_law_cells_here"] ["_law_script"] (dg JM):=sM
def JS:GS:=(aT (av 1 (ay (gB bY (uw (aa 0) wA (u7 (gC (.int 2)))) (bg .lst (aj (gC (.int 0)) (aj (gC (.int 0)) gN)))))) (aP (bg .lst (aj (ay (uw (aa 0) wA (u7 (gC (.int 63))))) (aj (gC (.int 0)) (aj (gC (.int 0)) (aj (gB oMod (gB bt (aa 1) (gC (.int 0))) (gC (.int 2))) (aj (gB bt (aa 1) (gC (.int 1))) gN))))))))
def zC:GM:=runM 2 [false] JS
variable(P w K mg base t)in
abbrev Qb:Prop:=bR P w K mg base eZ 1 t.G' t.Gy ["_law_script"] (fJ K 1 zC)
theorem Wr(T:Txt K mg t):Qb P w K mg base t:=
 fM (k:=0) [false] JS T.Bi.fn mz λ_ _ _ _ _ _ hr dH dM=>(by
  exact⟨_,(bA (cZ (i:=1) mz.nd rfl (Or.inl rfl) (bX (dc (hX K) hY (zx (ai 0) zI (zJ dI)) (l7 (au dI (au dI aO))))))
   (bW (eP (l7 (au (bX (zx (ai 0) zI (zJ dI))) (au dI (au dI (au (dc uu uv (bV ‹_› (ai 1) dI) dI) (au (bV ‹_› (ai 1) dI) aO))))))))),rfl⟩)
theorem gc:aJ ["_law_feed_here","_law_many","_law_found","_law_at","_law_cell"] ["_law_feed_here","_law_many"] (dg JN):=sM
def JT:GS:=(aT (cf (gT (gB oEq (gB bt (aa 0) (gC (.int 3))) (gC (.int 1)))) (aT (av 2 (gB oMod (gB bt (aa 0) (gC (.int 4))) (aa 1))) (aT (iw (gB mj (gB bt (aa 0) (gC (.int 4))) (aa 1)) (aa 0) (gC (.int 4))) (aP (aa 2)))) bw) (aT (av 3 (gB bt (aa 0) (gC (.int 1)))) (aT (iw (ay (gB bY (aa 3) (gC (.int 1)))) (aa 0) (gC (.int 1))) (aT (av 4 (aa 3)) (aT (cf (gT (gB vE (gO cC (aj (gB bt (aa 0) (gC (.int 0))) gN)) (gC (.int 0)))) (av 4 (ay (gB bY (gB bt (gB bt (aa 0) (gC (.int 0))) (gB oMod (aa 3) (gO cC (aj (gB bt (aa 0) (gC (.int 0))) gN)))) (gB gK (gB mj (aa 3) (gO cC (aj (gB bt (aa 0) (gC (.int 0))) gN))) (gC (.int 31)))))) bw) (aP (gB oMod (gB oMod (gB gK (gB oMod (gB bY (gB gK (aa 4) (gC (.int 48271))) (gB gK (gC (.int 31)) (aa 3))) (gC (.int 1000003))) (gC (.int 69621))) (gC (.int 999983))) (aa 1))))))))
def lB:GM:=runM 5 [true,false] JT
variable(P w K mg base t)in
abbrev BP:Prop:=bR P w K mg base eZ 1 t.Ha t.Gz ["_law_feed_here","_law_many"] (fJ K 2 lB)
theorem Ws(T:Txt K mg t):BP P w K mg base t:=
 fM (k:=0) [true,false] JT T.lZ.fn gc λ_ _ _ _ _ _ hr dH dM=>(by
  exact⟨_,(bA (gR (fK (p_ K ‹_›) qe (bV ‹_› (ai 0) dI) dI)
   (bA (cZ (i:=2) gc.nd rfl (Or.inl rfl) (dc uu uv (bV ‹_› (ai 0) dI) (ai 1)))
   (bA (Ci (dc BS BU (bV ‹_› (ai 0) dI) (ai 1)) (ai 0) dI ‹_›)
   (bW (eP (ai 2)))))
   gQ)
   (bA (cZ (i:=3) gc.nd rfl (Or.inl rfl) (bV ‹_› (ai 0) dI))
   (bA (Ci (bX (dc (hX K) hY (ai 3) dI)) (ai 0) dI ‹_›)
   (bA (cZ (i:=4) gc.nd rfl (Or.inl rfl) (ai 3))
   (bA (gR (fK Ab Af (gf (ke K) ku T.cB j8 (au (bV ‹_› (ai 0) dI) aO)) dI)
   (bW (cZ (i:=4) gc.nd rfl (Or.inl rfl) (bX (dc (hX K) hY (bV ‹_› (bV ‹_› (ai 0) dI) (dc uu uv (ai 3) (gf (ke K) ku T.cB j8 (au (bV ‹_› (ai 0) dI) aO)))) (dc wm wx (dc BS BU (ai 3) (gf (ke K) ku T.cB j8 (au (bV ‹_› (ai 0) dI) aO))) dI)))))
   gQ)
   (bW (eP (dc uu uv (dc uu uv (dc wm wx (dc uu uv (dc (hX K) hY (dc wm wx (ai 4) dI) (dc wm wx dI (ai 3))) dI) dI) dI) (ai 1))))))))),rfl⟩)
theorem mC:aJ ["_law_style","_law_k","_law_letter"] ["_law_style","_law_k"] (dg JO):=sM
def JU:GS:=(aT (av 2 (gB bt (gC (.str "abcdefghijk")) (gB oMod (gB bY (gB gK (aa 1) (gC (.int 4))) (aa 0)) (gC (.int 11))))) (aT (cf (gT (gB oEq (gB oMod (aa 0) (gC (.int 3))) (gC (.int 0)))) (aP (gB bY (gB bY (gB gK (gC (.str "q")) (gB oMod (gB mj (aa 0) (gC (.int 3))) (gC (.int 3)))) (aa 2)) (uw (gC (.str "zq")) wA (u7 (gB mj (aa 0) (gC (.int 9))))))) bw) (aT (cf (gT (gB oEq (gB oMod (aa 0) (gC (.int 3))) (gC (.int 1)))) (aP (As (gT (gB oLt (aa 1) (gC (.int 8)))) (gB gK (gC (.str "b")) (gB bY (aa 1) (gC (.int 1)))) (gB gK (gC (.str "c")) (gB qW (aa 1) (gC (.int 7)))))) bw) (aP (aa 2)))))
def we:GM:=runM 3 [false,false] JU
variable(P w K mg base t)in
abbrev Qc:Prop:=bR P w K mg base eZ 1 t.Hb t.GB ["_law_style","_law_k"] (fJ K 2 we)
theorem Wt(T:Txt K mg t):Qc P w K mg base t:=
 fM (k:=0) [false,false] JU T.Bj.fn mC λ_ _ _ _ _ _ hr dH dM=>(by
  exact⟨_,(bA (cZ (i:=2) mC.nd rfl (Or.inl rfl) (bV ‹_› (d_ (d:=.str "abcdefghijk") r6) (dc uu uv (dc (hX K) hY (dc wm wx (ai 1) dI) (ai 0)) dI)))
   (bA (gR (fK (p_ K ‹_›) qe (dc uu uv (ai 0) dI) dI)
   (bW (eP (dc (hX K) hY (dc (hX K) hY (dc wm wx (d_ (d:=.str "q") r6) (dc uu uv (dc BS BU (ai 0) dI) dI)) (ai 2)) (zx (d_ (d:=.str "zq") r6) zI (zJ (dc BS BU (ai 0) dI))))))
   gQ)
   (bA (gR (fK (p_ K ‹_›) qe (dc uu uv (ai 0) dI) dI)
   (bW (eP (Lk (fK wH Ae (ai 1) dI) (dc wm wx (d_ (d:=.str "b") r6) (dc (hX K) hY (ai 1) dI)) (dc wm wx (d_ (d:=.str "c") r6) (dc B_ Cf (ai 1) dI)))))
   gQ)
   (bW (eP (ai 2)))))),rfl⟩)
theorem dt:aJ ["_law_house_here","_law_found","_law_name_here","_law_long","_law_ring","_law_outs_here"] ["_law_house_here"] (dg E3):=sM
def Jk:GS:=(aT (av 1 (ay (bg .lst gN))) (aT (dQ (gB bt (aa 0) (gC (.int 0))) (fP [(bu 2),(bu 3),(bu 4),(bu 5)]) (av 1 (ay (gB bY (aa 1) (kT (mD (aj (aa 3) gN)) (bu 0) fL (ay (bg .tup (aj (aa 1) (aj (aa 0) gN)))) 1 [2]))))) (aP (aa 1))))
def BG:GM:=runM 6 [false] Jk
variable(P w K mg base t)in
abbrev Jl:Prop:=bR P w K mg base eZ 1 t.Hf t.GF ["_law_house_here"] (fJ K 1 BG)
theorem Vl(T:Txt K mg t):Jl P w K mg base t:=
 fM (k:=0) [false] Jk T.zl.fn dt λ_ _ _ _ _ _ hr dH dM=>(by
  exact⟨_,(bA (cZ (i:=1) dt.nd rfl (Or.inl rfl) (bX (l7 aO)))
   (bA (p9 PassesOwn.never (bV ‹_› (ai 0) dI) (FT rfl (p5 (e8 (i:=2) dt.nd rfl (Or.inr rfl)) (p5 (e8 (i:=3) dt.nd rfl (Or.inl rfl)) (p5 (e8 (i:=4) dt.nd rfl (Or.inl rfl)) (p5 (e8 (i:=5) dt.nd rfl (Or.inl rfl)) Fp))))) (FY (p6 fe (p6 fe (p6 fe (p6 fe Fs)))))
   (bW (cZ (i:=1) dt.nd rfl (Or.inl rfl) (bX (dc (hX K) hY (ai 1) (BY RS (k:=1) (cap:=[2]) fe (M:=["_law_cell","_law_name_here"]) (b_.of (dg E3).names ["_law_house_here","_law_found","_law_name_here","_law_long","_law_ring","_law_outs_here"] (by decide +kernel)) (Ja (by rfl) T.eA (au (ai 3) aO))
    (λ_ _ _ _=>(e8 (i:=0) (show List.Nodup (["_law_cell","_law_name_here"]:List Str) by decide +kernel) rfl (Or.inl rfl))) (λ_ _ _ _=>wo) (λ_ _ _ _=>(bX (jm (au (ai 1) (au (ai 0) aO)))))))))))
   (bW (eP (ai 1))))),rfl⟩)
theorem cV:aJ ["_law_house_here","_law_place","_law_names","_law_name_here","_law_long","_law_ring","_law_outs_here","_law_found","_law_out"] ["_law_house_here","_law_place"] (dg E4):=sM
def qy:GS:=(jv (gb lD (aa 7) (aj (ay (As (gT (gB (cj false) (aa 8) (aa 2))) (bg .tup (aj (aa 8) (aj (gC (.int 0)) gN))) (aa 8))) gN)))
def stepT:GS:=(aT (cf (gT (gB oLt (gB bY (gB bt (aa 1) (gC (.int 1))) (gC (.int 1))) (aa 4))) (aP (bg .lst (aj (ay (bg .tup (aj (aa 3) (aj (ay (gB bY (gB bt (aa 1) (gC (.int 1))) (gC (.int 1)))) gN)))) gN))) bw) (aT (av 7 (bg .lst gN)) (aT (dQ (aa 6) (bu 8) qy) (aT (cf (dE (aa 5)) (jv (gb lD (aa 7) (aj (ay (bg .tup (aj (aa 3) (aj (gC (.int 0)) gN)))) gN))) bw) (aP (fw (aa 7)))))))
def Jm:GS:=aT (av 2 (ay (kT (km (gB bt (aa 0) (gC (.int 0)))) (bu 0) fL (gB bt (aa 0) (gC (.int 0))) 1 []))) (aT (qo (fP [(bu 3),(bu 4),(bu 5),(bu 6)]) (gB bt (gB bt (aa 0) (gC (.int 0))) (Co Cp (aa 2) (aj (gB bt (aa 1) (gC (.int 0))) gN)))) stepT)
def xN:GM:=runM 9 [false,false] Jm
variable(P w K mg base t)in
abbrev Jn:Prop:=bR P w K mg base eZ 1 t.Hg t.GH ["_law_house_here","_law_place"] (fJ K 2 xN)
theorem Vm(T:Txt K mg t):Jn P w K mg base t:=
 fM (k:=0) [false,false] Jm T.zm.fn cV λ_ _ _ _ _ _ hr dH dM=>(by
  exact⟨_,(bA (BM (i:=2) wc (k:=1) (cap:=[]) fe (M:=["_law_belt"]) (b_.of (dg E4).names ["_law_house_here","_law_place","_law_names","_law_name_here","_law_long","_law_ring","_law_outs_here","_law_found","_law_out"] (by decide +kernel)) cV.nd rfl (Or.inl rfl) (v_ K (bX (bV ‹_› (ai 0) dI)))
    (λ_ _ _ _=>(e8 (i:=0) (show List.Nodup (["_law_belt"]:List Str) by decide +kernel) rfl (Or.inl rfl))) (λ_ _ _ _=>wo) (λ_ _ _ _=>(bV ‹_› (ai 0) dI)))
   (bA (e5y (bV ‹_› (bV ‹_› (ai 0) dI) (Xm PySem.F.slot_list_index PySem.F.type_list_index (Xn K) Xo (ai 2) (au (bV ‹_› (ai 1) dI) aO))) (FT rfl (p5 (e8 (i:=3) cV.nd rfl (Or.inl rfl)) (p5 (e8 (i:=4) cV.nd rfl (Or.inl rfl)) (p5 (e8 (i:=5) cV.nd rfl (Or.inl rfl)) (p5 (e8 (i:=6) cV.nd rfl (Or.inl rfl)) Fp))))) (FY (p6 fe (p6 fe (p6 fe (p6 fe Fs))))))
   (bA (gR (fK wH Ae (dc (hX K) hY (bV ‹_› (ai 1) dI) dI) (ai 4))
   (bW (eP (l7 (au (bX (jm (au (ai 3) (au (bX (dc (hX K) hY (bV ‹_› (ai 1) dI) dI)) aO)))) aO))))
   gQ)
   (bA (cZ (i:=7) cV.nd rfl (Or.inl rfl) (l7 aO))
   (bA (p9 PassesOwn.never (ai 6) (e8 (i:=8) cV.nd rfl (Or.inl rfl)) fe
   (bW (lC (pz PySem.F.slot_list_append PySem.F.type_list_append q_ ra (ai 7) (au (bX (Lk (fK (zU K ‹_›) (nQ false) (ai 8) (ai 2)) (jm (au (ai 8) (au dI aO))) (ai 8))) aO)))))
   (bA (gR (kS (ai 5))
   (bW (lC (pz PySem.F.slot_list_append PySem.F.type_list_append q_ ra (ai 7) (au (bX (jm (au (ai 3) (au dI aO)))) aO))))
   gQ)
   (bW (eP (um (ai 7)))))))))),rfl⟩)
theorem U0:aJ ["_law_house_here"] ["_law_house_here"] (dg ES):=sM
def IW:GS:=(aP (bg .tup (aj (ay (kT (km (gB bt (aa 0) (gC (.int 0)))) (fP [(bu 0),(bu 1),(bu 2),(bu 3)]) fL (ay (bg .tup (aj (aa 0) (aj (aa 1) (aj (aa 2) (aj (ay (gO iX (aj (aa 3) gN))) gN)))))) 4 [])) (aj (ay (gO iX (aj (gB bt (aa 0) (gC (.int 1))) gN))) gN))))
def ET:GM:=runM 1 [false] IW
variable(P w K mg base t)in
abbrev OL:Prop:=bR P w K mg base eZ 1 t.Hh t.GI ["_law_house_here"] (fJ K 1 ET)
theorem U1(T:Txt K mg t):OL P w K mg base t:=
 fM (k:=0) [false] IW T.Bm.fn U0 λ_ _ _ _ _ _ hr dH dM=>(by
  exact⟨_,(bW (eP (jm (au (bX (BY wc (k:=4) (cap:=[]) (FY (p6 fe (p6 fe (p6 fe (p6 fe Fs))))) (M:=["_law_name_here","_law_long","_law_ring","_law_outs_here"]) (b_.of (dg ES).names ["_law_house_here"] (by decide +kernel)) (v_ K (bX (bV ‹_› (ai 0) dI)))
    (λ_ _ _ _=>(FT rfl (p5 (e8 (i:=0) (show List.Nodup (["_law_name_here","_law_long","_law_ring","_law_outs_here"]:List Str) by decide +kernel) rfl (Or.inl rfl)) (p5 (e8 (i:=1) (show List.Nodup (["_law_name_here","_law_long","_law_ring","_law_outs_here"]:List Str) by decide +kernel) rfl (Or.inl rfl)) (p5 (e8 (i:=2) (show List.Nodup (["_law_name_here","_law_long","_law_ring","_law_outs_here"]:List Str) by decide +kernel) rfl (Or.inl rfl)) (p5 (e8 (i:=3) (show List.Nodup (["_law_name_here","_law_long","_law_ring","_law_outs_here"]:List Str) by decide +kernel) rfl (Or.inl rfl)) Fp)))))) (λ_ _ _ _=>wo) (λ_ _ _ _=>(bX (jm (au (ai 0) (au (ai 1) (au (ai 2) (au (bX (xK (EI K) Fu T.ik wj (au (ai 3) aO))) aO))))))))) (au (bX (xK (EI K) Fu T.ik wj (au (bV ‹_› (ai 0) dI) aO))) aO))))),rfl⟩)
theorem Vn:aJ ["_law_found"] ["_law_found"] (dg Ji):=sM
def Jo:GS:=(aP (l_ (gO cI (aj (aa 0) (aj (gC (.ty "int")) gN))) (sI (gO cI (aj (aa 0) (aj (gC (.ty "bool")) gN))))))
def BH:GM:=runM 1 [false] Jo
variable(P w K mg base t)in
abbrev Jp:Prop:=bR P w K mg base eZ 1 t.Hi t.GJ ["_law_found"] (fJ K 1 BH)
theorem Vo(T:Txt K mg t):Jp P w K mg base t:=
 fM (k:=0) [false] Jo T.zo.fn Vn λ_ _ _ _ _ _ hr dH dM=>(by
  exact⟨_,(bW (eP (FX (gf (pZ K) qa T.a_ p8 (au (ai 0) (au (d_ (d:=.ty "int") (qd (by rfl) T.se KA)) aO))) (KG (e5j (gf (pZ K) qa T.a_ p8 (au (ai 0) (au (d_ (d:=.ty "bool") (qd (by rfl) T.yn Yw)) aO)))))))),rfl⟩)
theorem eC:aJ ["_law_ways","_law_met","_law_road","_law_moment"] ["_law_ways"] (dg IJ):=sM
def ltB:GS:=(cf (de (dE (gO cI (aj (gB bt (aa 2) (aa 3)) (aj (gC (.ty "str")) gN))))) (jv (gb lD (aa 1) (aj (ay (bg .tup (aj (aa 3) (aj (gB bt (aa 2) (aa 3)) gN)))) gN))) bw)
def AJ:GS:=(zw (aj (gO cC (aj (aa 2) gN)) gN) (bu 3) ltB)
def IK:GS:=(aT (av 1 (bg .lst gN)) (aT (dQ (aa 0) (bu 2) AJ) (aP (gB oEq (gO x_ (aj (aa 1) gN)) (gO cC (aj (aa 1) gN))))))
def EK:GM:=runM 4 [false] IK
variable(P w K mg base t)in
abbrev Oj:Prop:=bR P w K mg base eZ 1 t.Hk t.GL ["_law_ways"] (fJ K 1 EK)
theorem UL(T:Txt K mg t):Oj P w K mg base t:=
 fM (k:=0) [false] IK T.Bo.fn eC λ_ _ _ _ _ _ hr dH dM=>(by
  exact⟨_,(bA (cZ (i:=1) eC.nd rfl (Or.inl rfl) (l7 aO))
   (bA (p9 PassesOwn.never (ai 0) (e8 (i:=2) eC.nd rfl (Or.inl rfl)) fe
   (bW (EW PassesOwn.never T.eA (au (gf (ke K) ku T.cB j8 (au (ai 2) aO)) aO) (e8 (i:=3) eC.nd rfl (Or.inl rfl)) fe
   (bW (gR (mL (kS (gf (pZ K) qa T.a_ p8 (au (bV ‹_› (ai 2) (ai 3)) (au (d_ (d:=.ty "str") (qd (by rfl) T.nZ Ca)) aO)))))
   (bW (lC (pz PySem.F.slot_list_append PySem.F.type_list_append q_ ra (ai 1) (au (bX (jm (au (ai 3) (au (bV ‹_› (ai 2) (ai 3)) aO)))) aO))))
   gQ)))))
   (bW (eP (wu (p_ K ‹_›) qe (Pf T.cB T.wI (au (ai 1) aO) ‹_›) (gf (ke K) ku T.cB j8 (au (ai 1) aO))))))),rfl⟩)
theorem mW:aJ ["net","start","end","came"] ["net","start","end"] (dg K0):=sM
def K5:GS:=(aT (av 3 (ay (aK (bor rX) (aj (aa 0) (aj (aa 1) gN))))) (aT (ja (gT (gB (cj false) (aa 2) (aa 3))) (aT (jv (aK zV (aj (aa 0) (aj (aa 3) (aj (aa 2) gN))))) (av 3 (ay (aK (bor rX) (aj (aa 0) (aj (aa 1) gN)))))) 1000000) (aP (aa 3))))
def Gp:GM:=runM 4 [true,false,false] K5
variable(P w K mg base t)in
abbrev R5:Prop:=bR P w K mg base eZ 2 t.f1 t.d1 ["net","start","end"] (fJ K 3 Gp)
theorem Zj(T:Txt K mg t)(g3:R4 P w K mg base t)(g2:Qa P w K mg base t):R5 P w K mg base t:=
 fM (k:=1) [true,false,false] K5 T.F1.fn mW λ_ _ _ _ _ _ hr dH dM=>(by
  exact⟨_,(bA (cZ (i:=3) mW.nd rfl (Or.inl rfl) (bX (fj T.F2 (RX g2) (by exact hr.mono (by decide)) (au (ai 0) (au (ai 1) aO)) (aZ (aZ dS)))))
   (bA (E8 1000000 PassesOwn.never (fK (zU K ‹_›) (nQ false) (ai 2) (ai 3))
   (bA (lC (fj T.F3 g3 (by exact hr.mono (by decide)) (au (ai 0) (au (ai 3) (au (ai 2) aO))) (aZ (aZ (aZ dS)))))
   (bW (cZ (i:=3) mW.nd rfl (Or.inl rfl) (bX (fj T.F2 (RX g2) (by exact hr.mono (by decide)) (au (ai 0) (au (ai 1) aO)) (aZ (aZ dS))))))))
   (bW (eP (ai 3))))),rfl⟩)
theorem k_:aJ ["house","place","belt","told"] ["house","place"] (dg FD):=sM
def Kn:GS:=(aT (av 2 (ay (aK BF (aj (aa 0) (aj (gB bt (aa 1) (gC (.int 0))) gN))))) (aT (cf (gT (gB oLt (gB bY (gB bt (aa 1) (gC (.int 1))) (gC (.int 1))) (gB bt (aa 2) (gC (.int 1))))) (aP (bg .lst (aj (ay (bg .tup (aj (gB bt (aa 1) (gC (.int 0))) (aj (ay (gB bY (gB bt (aa 1) (gC (.int 1))) (gC (.int 1)))) gN)))) gN))) bw) (aT (av 3 (kT (km (gB bt (aa 2) (gC (.int 3)))) (bu 0) fL (ay (As (gT (gB (cj false) (aa 0) (gB bt (aa 1) (gC (.int 1))))) (aa 0) (bg .tup (aj (aa 0) (aj (gC (.int 0)) gN))))) 1 [0])) (aT (cf (dE (gB bt (aa 2) (gC (.int 2)))) (jv (gb lD (aa 3) (aj (ay (bg .tup (aj (gB bt (aa 1) (gC (.int 0))) (aj (gC (.int 0)) gN)))) gN))) bw) (aP (fw (aa 3)))))))
def FF:GM:=runM 4 [false,false] Kn
variable(P w K mg base t)in
abbrev Ra:Prop:=bR P w K mg base eZ 2 t.f5 t.d5 ["house","place"] (fJ K 2 FF)
theorem XG(T:Txt K mg t)(g4:Pg P w K mg base t):Ra P w K mg base t:=
 fM (k:=1) [false,false] Kn T.F5.fn k_ λ_ _ _ _ _ _ hr dH dM=>(by
  exact⟨_,(bA (cZ (i:=2) k_.nd rfl (Or.inl rfl) (bX (fj T.F4 g4 (by exact hr.mono (by decide)) (au (ai 0) (au (bV ‹_› (ai 1) dI) aO)) (aZ (aZ dS)))))
   (bA (gR (fK wH Ae (dc (hX K) hY (bV ‹_› (ai 1) dI) dI) (bV ‹_› (ai 2) dI))
   (bW (eP (l7 (au (bX (jm (au (bV ‹_› (ai 1) dI) (au (bX (dc (hX K) hY (bV ‹_› (ai 1) dI) dI)) aO)))) aO))))
   gQ)
   (bA (QN (i:=3) wc (k:=1) (cap:=[0]) fe (M:=["out","house"]) (b_.of (dg FD).names ["house","place","belt","told"] (by decide +kernel)) k_.nd rfl (Or.inl rfl) (v_ K (bX (bV ‹_› (ai 2) dI)))
    (λ_ _ _ _=>(e8 (i:=0) (show List.Nodup (["out","house"]:List Str) by decide +kernel) rfl (Or.inl rfl))) (λ_ _ _ _=>wo) (λ_ _ _ _=>(bX (Lk (fK (zU K ‹_›) (nQ false) (ai 0) (bV ‹_› (ai 1) dI)) (ai 0) (jm (au (ai 0) (au dI aO)))))))
   (bA (gR (kS (bV ‹_› (ai 2) dI))
   (bW (lC (pz PySem.F.slot_list_append PySem.F.type_list_append q_ ra (ai 3) (au (bX (jm (au (bV ‹_› (ai 1) dI) (au dI aO)))) aO))))
   gQ)
   (bW (eP (um (ai 3)))))))),rfl⟩)
theorem eI:aJ ["net","first","cart","told","gate","spot"] ["net","first","cart"] (dg IU):=sM
def IX:GS:=(aT (av 3 (bg .lst gN)) (aT (av 4 (aa 1)) (aT (ja (gT (gB eX (aa 4) (gC (.str "the end")))) (aT (av 5 (gB bt (aa 4) (gC (.int 0)))) (aT (jv (gb lD (aa 3) (aj (ay (bg .tup (aj (gB bt (aa 5) (gC (.int 0))) (aj (gB bt (aa 5) (gC (.int 1))) gN)))) gN))) (av 4 (ay (aK ya (aj (aa 0) (aj (ay (bg .tup (aj (aa 5) (aj (gC (.str "out of")) gN)))) gN))))))) 1000000) (aP (gB bY (aa 3) (bg .lst (aj (aa 2) gN)))))))
def BE:GM:=runM 6 [false,false,false] IX
variable(P w K mg base t)in
abbrev OM:Prop:=bR P w K mg base eZ 2 t.G9 t.CJ ["net","first","cart"] (fJ K 3 BE)
theorem U2(T:Txt K mg t)(g12:Q_ P w K mg base t):OM P w K mg base t:=
 fM (k:=1) [false,false,false] IX T.Bf.fn eI λ_ _ _ _ _ _ hr dH dM=>(by
  exact⟨_,(bA (cZ (i:=3) eI.nd rfl (Or.inl rfl) (l7 aO))
   (bA (cZ (i:=4) eI.nd rfl (Or.inl rfl) (ai 1))
   (bA (E8 1000000 PassesOwn.never (fK (wC K ‹_›) wD (ai 4) (d_ (d:=(.str "the end")) (xM (by rfl) T.sg)))
   (bA (cZ (i:=5) eI.nd rfl (Or.inl rfl) (bV ‹_› (ai 4) dI))
   (bA (lC (pz PySem.F.slot_list_append PySem.F.type_list_append q_ ra (ai 3) (au (bX (jm (au (bV ‹_› (ai 5) dI) (au (bV ‹_› (ai 5) dI) aO)))) aO)))
   (bW (cZ (i:=4) eI.nd rfl (Or.inl rfl) (bX (fj T.Bg g12 (by exact hr.mono (by decide)) (au (ai 0) (au (bX (jm (au (ai 5) (au (d_ (d:=.str "out of") r6) aO)))) aO)) (aZ (aZ dS)))))))))
   (bW (eP (dc (hX K) hY (ai 3) (l7 (au (ai 2) aO)))))))),rfl⟩)
theorem jX:aJ ["_law_feed_here","_law_names","_law_k","_law_many","_law_outs_here","_law_j"] ["_law_feed_here","_law_names","_law_k","_law_many"] (dg Fd):=sM
def sT(ge:GE):GS:=(jv (gb xZ (aa 4) (aj (ay (aK lB (aj (aa 0) (aj (ay (gB bY (gO cC (aj (aa 4) gN)) (gC (.int 1)))) gN)))) (aj ge gN))))
def qv:GS:=(cf (gT (gB oEq (aK lB (aj (aa 0) (aj (gC (.int 3)) gN))) (gC (.int 0)))) (sT (gB bt (aa 1) (aa 5))) bw)
def mr:GS:=cf (gH (gT (gB oLt (gB bY (aa 2) (gC (.int 1))) (aa 3))) (gH (gT (gB vE (aK lB (aj (aa 0) (aj (gC (.int 4)) gN))) (gC (.int 0)))) (gT (gB (cj true) (gB bt (aa 1) (gB bY (aa 2) (gC (.int 1)))) (aa 4)))))
  (sT (gB bt (aa 1) (gB bY (aa 2) (gC (.int 1)))))
  bw
def oz:GS:=cf (gH (gT (gB (cj true) (gB bt (aa 1) (aa 3)) (aa 4))) (de (dE (gO (yk λbs=>bs.any id) (aj (kT (qw (aj (gB bY (aa 2) (gC (.int 1))) (aj (aa 3) gN))) (bu 0) fL (gB (cj false) (gB bt (aa 2) (aa 0)) (aa 1)) 1 [4,1]) gN)))))
  (sT (gB bt (aa 1) (aa 3)))
  bw
def JV:GS:=aT (av 4 (bg .lst gN)) (aT (BI (aj (gB bY (aa 2) (gC (.int 1))) (aj (gO cC (aj (aa 1) gN)) gN)) (bu 5) qv) (aT mr (aT oz (aP (fw (aa 4))))))
def Ff:GM:=runM 6 [true,false,false,false] JV
variable(P w K mg base t)in
abbrev Qd:Prop:=bR P w K mg base eZ 2 t.Hc t.GC ["_law_feed_here","_law_names","_law_k","_law_many"] (fJ K 4 Ff)
theorem Wu(T:Txt K mg t)(mP:BP P w K mg base t):Qd P w K mg base t:=
 fM (k:=1) [true,false,false,false] JV T.Bk.fn jX λ_ _ _ _ _ _ hr dH dM=>(by
  exact⟨_,(bA (cZ (i:=4) jX.nd rfl (Or.inr rfl) (l7 aO))
   (bA (Jc PassesOwn.never T.eA (au (dc (hX K) hY (ai 2) dI) (au (gf (ke K) ku T.cB j8 (au (ai 1) aO)) aO)) (e8 (i:=5) jX.nd rfl (Or.inl rfl)) fe
   (bW (gR (fK (p_ K ‹_›) qe (fj T.lZ mP (by exact hr.mono (by decide)) (au (ai 0) (au dI aO)) (aZ (aZ dS))) dI)
   (bW (lC (pz PySem.F.slot_list_insert PySem.F.type_list_insert EV EY (ai 4) (au (bX (fj T.lZ mP (by exact hr.mono (by decide)) (au (ai 0) (au (bX (dc (hX K) hY (gf (ke K) ku T.cB j8 (au (ai 4) aO)) dI)) aO)) (aZ (aZ dS)))) (au (bV ‹_› (ai 1) (ai 5)) aO)))))
   gQ)))
   (bA (gR (PW.pt (u6 (fK wH Ae (dc (hX K) hY (ai 2) dI) (ai 3)) (u6 (fK Ab Af (fj T.lZ mP (by exact hr.mono (by decide)) (au (ai 0) (au dI aO)) (aZ (aZ dS))) dI) (xW (fK (rR K ‹_›) (nQ true) (bV ‹_› (ai 1) (dc (hX K) hY (ai 2) dI)) (ai 4))))))
   (bW (lC (pz PySem.F.slot_list_insert PySem.F.type_list_insert EV EY (ai 4) (au (bX (fj T.lZ mP (by exact hr.mono (by decide)) (au (ai 0) (au (bX (dc (hX K) hY (gf (ke K) ku T.cB j8 (au (ai 4) aO)) dI)) aO)) (aZ (aZ dS)))) (au (bV ‹_› (ai 1) (dc (hX K) hY (ai 2) dI)) aO)))))
   gQ)
   (bA (gR (PW.pt (u6 (fK (rR K ‹_›) (nQ true) (bV ‹_› (ai 1) (ai 3)) (ai 4)) (xW (mL (kS (gf (V5 K) (P1 _) T.Cv e5c (au (BY e5q (k:=1) (cap:=[4,1]) fe (M:=["_law_j","_law_outs_here","_law_names"]) (b_.of (dg Fd).names ["_law_feed_here","_law_names","_law_k","_law_many","_law_outs_here","_law_j"] (by decide +kernel)) (OR (by rfl) T.eA (au (dc (hX K) hY (ai 2) dI) (au (ai 3) aO)))
    (λ_ _ _ _=>(e8 (i:=0) (show List.Nodup (["_law_j","_law_outs_here","_law_names"]:List Str) by decide +kernel) rfl (Or.inl rfl))) (λ_ _ _ _=>wo) (λ_ _ _ _=>(wu (zU K ‹_›) (nQ false) (bV ‹_› (ai 2) (ai 0)) (ai 1)))) aO)))))))
   (bW (lC (pz PySem.F.slot_list_insert PySem.F.type_list_insert EV EY (ai 4) (au (bX (fj T.lZ mP (by exact hr.mono (by decide)) (au (ai 0) (au (bX (dc (hX K) hY (gf (ke K) ku T.cB j8 (au (ai 4) aO)) dI)) aO)) (aZ (aZ dS)))) (au (bV ‹_› (ai 1) (ai 3)) aO)))))
   gQ)
   (bW (eP (um (ai 4)))))))),rfl⟩)
theorem mB:aJ ["_law_house_here","_law_place","_law_cart","_law_told_here","_law_k"] ["_law_house_here","_law_place","_law_cart","_law_told_here"] (dg JP):=sM
def wZ(one:GE):GT:=(jx (gT (gB oLt (gO cC (aj (aa 3) gN)) (gC (.int 2)))) (jx (gT (gB eX (gB bt (aa 3) (gC (.int 0))) (aa 1))) (gT (gB eX (gB bt (aa 3) (Hw tq (gC (.int 1)))) one))))
def sX:GS:=(aT (cf (dE (gO cI (aj (gB bt (aa 3) (gB qW (aa 4) (gC (.int 1)))) (aj (gC (.ty "str")) gN)))) (aP (gC (.bl false))) bw) (cf (gH (gT (gB eX (gB bt (aa 3) (aa 4)) (gB bt (aa 3) (gB qW (aa 4) (gC (.int 1)))))) (gT (gB (cj true) (gB bt (aa 3) (aa 4)) (aK xN (aj (aa 0) (aj (gB bt (aa 3) (gB qW (aa 4) (gC (.int 1)))) gN)))))) (aP (gC (.bl false))) bw))
def JW:GS:=aT (cf (wZ (aa 2)) (aP (gC (.bl false))) bw) (aT (BI (aj (gC (.int 1)) (aj (gO cC (aj (aa 3) gN)) gN)) (bu 4) sX) (aP (gC (.bl true))))
def xV:GM:=runM 5 [false,false,false,false] JW
variable(P w K mg base t)in
abbrev Qe:Prop:=bR P w K mg base eZ 2 t.Hj t.GK ["_law_house_here","_law_place","_law_cart","_law_told_here"] (fJ K 4 xV)
theorem Wv(T:Txt K mg t)(LZ:Jn P w K mg base t):Qe P w K mg base t:=
 fM (k:=1) [false,false,false,false] JW T.Bn.fn mB λ_ _ _ _ _ _ hr dH dM=>(by
  exact⟨_,(bA (gR (PW.pt (rB (fK wH Ae (gf (ke K) ku T.cB j8 (au (ai 3) aO)) dI) (rB (fK (wC K ‹_›) wD (bV ‹_› (ai 3) dI) (ai 1)) (yg (fK (wC K ‹_›) wD (bV ‹_› (ai 3) (SG RG RN dI)) (ai 2))))))
   (bW (eP (d_ (d:=.bl false) nP)))
   gQ)
   (bA (Jc PassesOwn.never T.eA (au dI (au (gf (ke K) ku T.cB j8 (au (ai 3) aO)) aO)) (e8 (i:=4) mB.nd rfl (Or.inl rfl)) fe
   (bA (gR (kS (gf (pZ K) qa T.a_ p8 (au (bV ‹_› (ai 3) (dc B_ Cf (ai 4) dI)) (au (d_ (d:=.ty "str") (qd (by rfl) T.nZ Ca)) aO))))
   (bW (eP (d_ (d:=.bl false) nP)))
   gQ)
   (bW (gR (PW.pt (u6 (fK (wC K ‹_›) wD (bV ‹_› (ai 3) (ai 4)) (bV ‹_› (ai 3) (dc B_ Cf (ai 4) dI))) (xW (fK (rR K ‹_›) (nQ true) (bV ‹_› (ai 3) (ai 4)) (fj T.zm LZ (by exact hr.mono (by decide)) (au (ai 0) (au (bV ‹_› (ai 3) (dc B_ Cf (ai 4) dI)) aO)) (aZ (aZ dS)))))))
   (bW (eP (d_ (d:=.bl false) nP)))
   gQ))))
   (bW (eP (d_ (d:=.bl true) nP))))),rfl⟩)
theorem dB:aJ ["_law_house_here","_law_places_here","_law_cart","_law_turns","_law_cut","_law_now","_law_sets_here","_law_moment","_law_behind","_law_place","_law_step"] ["_law_house_here","_law_places_here","_law_cart","_law_turns","_law_cut"] (dg Fe):=sM
def mY:GS:=(cf (gH (de (dE (gO cI (aj (aa 10) (aj (gC (.ty "str")) gN))))) (gH (gT (gB (cj true) (aa 10) (aa 8))) (gT (gB (cj true) (gB mh (aa 10) (ay (bg .tup (aj (aa 7) gN)))) (aa 4))))) (jv (gb lD (aa 8) (aj (aa 10) gN))) bw)
def tZ:GS:=(aT (cf (gT (gB oEq (aa 10) (aa 2))) (aP (gC .bL)) bw) mY)
def sY:GS:=(dQ (gB bY (bg .lst (aj (aa 9) gN)) (aK xN (aj (aa 0) (aj (aa 9) gN)))) (bu 10) tZ)
def vB:GS:=(aT (av 8 (bg .lst gN)) (aT (dQ (aa 5) (bu 9) sY) (aT (av 5 (ay (aa 8))) (jv (gb lD (aa 6) (aj (aa 5) gN))))))
def vC:GT:=(gT (gB (cj true) (ay (bg .tup (aj (gB bt (aa 0) (gC (.int 0))) (aj (gB bt (aa 0) (gC (.int 1))) (aj (gC (.int 0)) gN))))) (aa 1)))
def DF:GE:=(kT (km (aa 1)) (bu 0) vC (aa 0) 1 [4])
def JX:GS:=(aT (av 5 (ay DF)) (aT (av 6 (bg .lst (aj (aa 5) gN))) (aT (BI (aj (gC (.int 1)) (aj (gB bY (aa 3) (gC (.int 1))) gN)) (bu 7) vB) (aP (fw (aa 6))))))
def Fg:GM:=runM 11 [false,false,false,false,false] JX
variable(P w K mg base t)in
abbrev Qf:Prop:=bR P w K mg base eZ 2 t.Hl t.GN ["_law_house_here","_law_places_here","_law_cart","_law_turns","_law_cut"] (fJ K 5 Fg)
theorem Ww(T:Txt K mg t)(LZ:Jn P w K mg base t):Qf P w K mg base t:=
 fM (k:=1) [false,false,false,false,false] JX T.Bp.fn dB λ_ _ _ _ _ _ hr dH dM=>(by
  exact⟨_,(bA (BM (i:=5) wc (k:=1) (cap:=[4]) fe (M:=["_law_place","_law_cut"]) (b_.of (dg Fe).names ["_law_house_here","_law_places_here","_law_cart","_law_turns","_law_cut","_law_now","_law_sets_here","_law_moment","_law_behind","_law_place","_law_step"] (by decide +kernel)) dB.nd rfl (Or.inl rfl) (v_ K (bX (ai 1)))
    (λ_ _ _ _=>(e8 (i:=0) (show List.Nodup (["_law_place","_law_cut"]:List Str) by decide +kernel) rfl (Or.inl rfl))) (λ_ _ _ _=>(Fv (fK (rR K ‹_›) (nQ true) (bX (jm (au (bV ‹_› (ai 0) dI) (au (bV ‹_› (ai 0) dI) (au dI aO))))) (ai 1)))) (λ_ _ _ _=>(ai 0)))
   (bA (cZ (i:=6) dB.nd rfl (Or.inl rfl) (l7 (au (ai 5) aO)))
   (bA (Jc PassesOwn.never T.eA (au dI (au (dc (hX K) hY (ai 3) dI) aO)) (e8 (i:=7) dB.nd rfl (Or.inl rfl)) fe
   (bA (cZ (i:=8) dB.nd rfl (Or.inl rfl) (l7 aO))
   (bA (p9 PassesOwn.never (ai 5) (e8 (i:=9) dB.nd rfl (Or.inl rfl)) fe
   (bW (p9 PassesOwn.never (dc (hX K) hY (l7 (au (ai 9) aO)) (fj T.zm LZ (by exact hr.mono (by decide)) (au (ai 0) (au (ai 9) aO)) (aZ (aZ dS)))) (e8 (i:=10) dB.nd rfl (Or.inl rfl)) fe
   (bA (gR (fK (p_ K ‹_›) qe (ai 10) (ai 2))
   (bW (eP (d_ (d:=.bL) B8)))
   gQ)
   (bW (gR (PW.pt (u6 (mL (kS (gf (pZ K) qa T.a_ p8 (au (ai 10) (au (d_ (d:=.ty "str") (qd (by rfl) T.nZ Ca)) aO))))) (u6 (fK (rR K ‹_›) (nQ true) (ai 10) (ai 8)) (xW (fK (rR K ‹_›) (nQ true) (dc (Xr K) Y0 (ai 10) (bX (jm (au (ai 7) aO)))) (ai 4))))))
   (bW (lC (pz PySem.F.slot_list_append PySem.F.type_list_append q_ ra (ai 8) (au (ai 10) aO))))
   gQ))))))
   (bA (cZ (i:=5) dB.nd rfl (Or.inl rfl) (bX (ai 8)))
   (bW (lC (pz PySem.F.slot_list_append PySem.F.type_list_append q_ ra (ai 6) (au (ai 5) aO))))))))
   (bW (eP (um (ai 6))))))),rfl⟩)
theorem eJ:aJ ["_law_feed_here","_law_house_here","_law_most","_law_cells_here","_law_places_here","_law_k","_law_place"] ["_law_feed_here","_law_house_here","_law_most"] (dg IV):=sM
def tM:GS:=(jv (gb xZ (aa 4) (aj (ay (aK lB (aj (aa 0) (aj (ay (gB bY (gO cC (aj (aa 4) gN)) (gC (.int 1)))) gN)))) (aj (aa 6) gN))))
def qX:GS:=(aT (av 6 (gB bt (aa 3) (aK lB (aj (aa 0) (aj (gO cC (aj (aa 3) gN)) gN))))) (cf (gT (gB (cj true) (aa 6) (aa 4))) tM bw))
def IY:GS:=(aT (av 3 (ay (aK BG (aj (aa 1) gN)))) (aT (av 4 (bg .lst gN)) (aT (zw (aj (aK lB (aj (aa 0) (aj (ay (gB bY (aa 2) (gC (.int 1)))) gN))) gN) (bu 5) qX) (aP (fw (aa 4))))))
def zt:GM:=runM 7 [true,false,false] IY
variable(P w K mg base t)in
abbrev ON:Prop:=bR P w K mg base eZ 2 t.Hm t.GP ["_law_feed_here","_law_house_here","_law_most"] (fJ K 3 zt)
theorem U3(T:Txt K mg t)(LY:Jl P w K mg base t)(mP:BP P w K mg base t):ON P w K mg base t:=
 fM (k:=1) [true,false,false] IY T.Bq.fn eJ λ_ _ _ _ _ _ hr dH dM=>(by
  exact⟨_,(bA (cZ (i:=3) eJ.nd rfl (Or.inl rfl) (bX (fj T.zl LY (by exact hr.mono (by decide)) (au (ai 1) aO) (aZ dS))))
   (bA (cZ (i:=4) eJ.nd rfl (Or.inl rfl) (l7 aO))
   (bA (EW PassesOwn.never T.eA (au (fj T.lZ mP (by exact hr.mono (by decide)) (au (ai 0) (au (bX (dc (hX K) hY (ai 2) dI)) aO)) (aZ (aZ dS))) aO) (e8 (i:=5) eJ.nd rfl (Or.inl rfl)) fe
   (bA (cZ (i:=6) eJ.nd rfl (Or.inl rfl) (bV ‹_› (ai 3) (fj T.lZ mP (by exact hr.mono (by decide)) (au (ai 0) (au (gf (ke K) ku T.cB j8 (au (ai 3) aO)) aO)) (aZ (aZ dS)))))
   (bW (gR (fK (rR K ‹_›) (nQ true) (ai 6) (ai 4))
   (bW (lC (pz PySem.F.slot_list_insert PySem.F.type_list_insert EV EY (ai 4) (au (bX (fj T.lZ mP (by exact hr.mono (by decide)) (au (ai 0) (au (bX (dc (hX K) hY (gf (ke K) ku T.cB j8 (au (ai 4) aO)) dI)) aO)) (aZ (aZ dS)))) (au (ai 6) aO)))))
   gQ))))
   (bW (eP (um (ai 4))))))),rfl⟩)
theorem US:aJ ["_law_spot","_law_size"] ["_law_spot","_law_size"] (dg EM):=sM
def EN:GS:=(aT (cf (jx (de (dE (gO cI (aj (aa 0) (aj (gC (.ty "tuple")) gN))))) (jx (gT (gB eX (gO cC (aj (aa 0) gN)) (aa 1))) (de (dE (gO cI (aj (gB bt (aa 0) (gC (.int 0))) (aj (gC (.ty "str")) gN))))))) (aP (gC (.bl false))) bw) (aP (gO (yk λbs=>bs.all id) (aj (kT (vN (uw (aa 0) (u7 (gC (.int 1))) wA)) (bu 0) fL (mM BH (aj (aa 0) gN)) 1 []) gN))))
def v8:GM:=runM 2 [false,false] EN
variable(P w K mg base t)in
abbrev IL:Prop:=bR P w K mg base eZ 2 t.Hq t.GR ["_law_spot","_law_size"] (fJ K 2 v8)
theorem UT(T:Txt K mg t)(L3:Jp P w K mg base t):IL P w K mg base t:=
 fM (k:=1) [false,false] EN T.zp.fn US λ_ _ _ _ _ _ hr dH dM=>(by
  exact⟨_,(bA (gR (PW.pt (rB (mL (kS (gf (pZ K) qa T.a_ p8 (au (ai 0) (au (d_ (d:=.ty "tuple") (qd (by rfl) T.kz E6)) aO))))) (rB (fK (wC K ‹_›) wD (gf (ke K) ku T.cB j8 (au (ai 0) aO)) (ai 1)) (yg (mL (kS (gf (pZ K) qa T.a_ p8 (au (bV ‹_› (ai 0) dI) (au (d_ (d:=.ty "str") (qd (by rfl) T.nZ Ca)) aO)))))))))
   (bW (eP (d_ (d:=.bl false) nP)))
   gQ)
   (bW (eP (gf (V6 K) (P1 _) T.Cu e5b (au (BY Y' (k:=1) (cap:=[]) fe (M:=["_law_number"]) (b_.of (dg EM).names ["_law_spot","_law_size"] (by decide +kernel)) (YB K (bX (zx (ai 0) (zJ dI) zI)))
    (λ_ _ _ _=>(e8 (i:=0) (show List.Nodup (["_law_number"]:List Str) by decide +kernel) rfl (Or.inl rfl))) (λ_ _ _ _=>wo) (λ_ _ _ _=>(rV T.zo L3 (by exact hr.mono (by decide)) (au (ai 0) aO) (aZ dS)))) aO))))),rfl⟩)
theorem XH:aJ ["house","place"] ["house","place"] (dg Kl):=sM
def Ko:GS:=(aP (gB bY (aK FF (aj (aa 0) (aj (aa 1) gN))) (bg .lst (aj (aa 1) gN))))
def zP:GM:=runM 2 [false,false] Ko
variable(P w K mg base t)in
abbrev Rb:Prop:=bR P w K mg base eZ 3 t.f6 t.d6 ["house","place"] (fJ K 2 zP)
theorem XI(T:Txt K mg t)(g5:Ra P w K mg base t):Rb P w K mg base t:=
 fM (k:=2) [false,false] Ko T.F6.fn XH λ_ _ _ _ _ _ hr dH dM=>(by
  exact⟨_,(bW (eP (dc (hX K) hY (fj T.F5 g5 (by exact hr.mono (by decide)) (au (ai 0) (au (ai 1) aO)) (aZ (aZ dS))) (l7 (au (ai 1) aO))))),rfl⟩)
theorem bJ:aJ ["_law_feed_here","_law_many","_law_long","_law_great","_law_style","_law_names","_law_belts","_law_k","_law_ring","_law_cells_here"] ["_law_feed_here"] (dg E2):=sM
def AE:GS:=(cf (gT (gB oEq (aa 3) (gC (.int 5)))) (aT (av 1 (gC (.int 6))) (av 2 (gC (.int 5)))) bw)
def AF:GS:=(cf (gT (gB oEq (aa 3) (gC (.int 6)))) (aT (av 1 (ay (gB bY (gC (.int 1)) (gB mj (aa 1) (gC (.int 3)))))) (av 2 (gC (.int 14)))) bw)
def xg:GE:=(kT (mD (aj (gB bY (gB bY (aa 1) (gC (.int 1))) (aK lB (aj (aa 0) (aj (gC (.int 3)) gN)))) gN)) (bu 0) fL (mM we (aj (aa 1) (aj (aa 0) gN))) 1 [4])
def qg:GS:=(aT (av 8 (gB oEq (aK lB (aj (aa 0) (aj (gC (.int 3)) gN))) (gC (.int 0)))) (aT (av 9 (ay (gB bY (gB bY (gC (.int 1)) (gO ou (aj (aa 8) gN))) (aK lB (aj (aa 0) (aj (gB qW (aa 2) (gO ou (aj (aa 8) gN))) gN)))))) (jv (gb lD (aa 6) (aj (ay (bg .tup (aj (gB bt (aa 5) (aa 7)) (aj (aa 9) (aj (aa 8) (aj (ay (aK Ff (aj (aa 0) (aj (aa 5) (aj (aa 7) (aj (aa 1) gN)))))) gN)))))) gN)))))
def oC:GS:=(aT (av 4 (ay (aK lB (aj (aa 0) (aj (gC (.int 27)) gN))))) (aT (av 5 (ay xg)) (aT (av 6 (bg .lst gN)) (aT (zw (aj (aa 1) gN) (bu 7) qg) (aP (bg .tup (aj (fw (aa 6)) (aj (ay (uw (aa 5) (u7 (aa 1)) wA)) gN))))))))
def Jq:GS:=aT (av 1 (ay (gB bY (gC (.int 1)) (aK lB (aj (aa 0) (aj (gC (.int 4)) gN)))))) (aT (av 2 (gC (.int 4))) (aT (av 3 (ay (aK lB (aj (aa 0) (aj (gC (.int 8)) gN))))) (aT AE (aT AF oC))))
def zv:GM:=runM 10 [true] Jq
variable(P w K mg base t)in
abbrev Ph:Prop:=bR P w K mg base eZ 3 t.He t.GD ["_law_feed_here"] (fJ K 1 zv)
theorem Vp(T:Txt K mg t)(mP:BP P w K mg base t)(g15:Qc P w K mg base t)(g16:Qd P w K mg base t):Ph P w K mg base t:=
 fM (k:=2) [true] Jq T.Bl.fn bJ λ_ _ _ _ _ _ hr dH dM=>(by
  exact⟨_,(bA (cZ (i:=1) bJ.nd rfl (Or.inl rfl) (bX (dc (hX K) hY dI (fj T.lZ mP (by exact hr.mono (by decide)) (au (ai 0) (au dI aO)) (aZ (aZ dS))))))
   (bA (cZ (i:=2) bJ.nd rfl (Or.inl rfl) dI)
   (bA (cZ (i:=3) bJ.nd rfl (Or.inl rfl) (bX (fj T.lZ mP (by exact hr.mono (by decide)) (au (ai 0) (au dI aO)) (aZ (aZ dS)))))
   (bA (gR (fK (p_ K ‹_›) qe (ai 3) dI)
   (bA (cZ (i:=1) bJ.nd rfl (Or.inl rfl) dI)
   (bW (cZ (i:=2) bJ.nd rfl (Or.inl rfl) dI)))
   gQ)
   (bA (gR (fK (p_ K ‹_›) qe (ai 3) dI)
   (bA (cZ (i:=1) bJ.nd rfl (Or.inl rfl) (bX (dc (hX K) hY dI (dc BS BU (ai 1) dI))))
   (bW (cZ (i:=2) bJ.nd rfl (Or.inl rfl) dI)))
   gQ)
   (bA (cZ (i:=4) bJ.nd rfl (Or.inr rfl) (bX (fj T.lZ mP (by exact hr.mono (by decide)) (au (ai 0) (au dI aO)) (aZ (aZ dS)))))
   (bA (BM (i:=5) RS (k:=1) (cap:=[4]) fe (M:=["_law_k","_law_style"]) (b_.of (dg E2).names ["_law_feed_here","_law_many","_law_long","_law_great","_law_style","_law_names","_law_belts","_law_k","_law_ring","_law_cells_here"] (by decide +kernel)) bJ.nd rfl (Or.inl rfl) (Ja (by rfl) T.eA (au (dc (hX K) hY (dc (hX K) hY (ai 1) dI) (fj T.lZ mP (by exact hr.mono (by decide)) (au (ai 0) (au dI aO)) (aZ (aZ dS)))) aO))
    (λ_ _ _ _=>(e8 (i:=0) (show List.Nodup (["_law_k","_law_style"]:List Str) by decide +kernel) rfl (Or.inl rfl))) (λ_ _ _ _=>wo) (λ_ _ _ _=>(rV T.Bj g15 (by exact hr.mono (by decide)) (au (ai 1) (au (ai 0) aO)) (aZ (aZ dS)))))
   (bA (cZ (i:=6) bJ.nd rfl (Or.inl rfl) (l7 aO))
   (bA (EW PassesOwn.never T.eA (au (ai 1) aO) (e8 (i:=7) bJ.nd rfl (Or.inl rfl)) fe
   (bA (cZ (i:=8) bJ.nd rfl (Or.inl rfl) (wu (p_ K ‹_›) qe (fj T.lZ mP (by exact hr.mono (by decide)) (au (ai 0) (au dI aO)) (aZ (aZ dS))) dI))
   (bA (cZ (i:=9) bJ.nd rfl (Or.inl rfl) (bX (dc (hX K) hY (dc (hX K) hY dI (xK OT QL T.se KA (au (ai 8) aO))) (fj T.lZ mP (by exact hr.mono (by decide)) (au (ai 0) (au (dc B_ Cf (ai 2) (xK OT QL T.se KA (au (ai 8) aO))) aO)) (aZ (aZ dS))))))
   (bW (lC (pz PySem.F.slot_list_append PySem.F.type_list_append q_ ra (ai 6) (au (bX (jm (au (bV ‹_› (ai 5) (ai 7)) (au (ai 9) (au (ai 8) (au (bX (fj T.Bk g16 (by exact hr.mono (by decide)) (au (ai 0) (au (ai 5) (au (ai 7) (au (ai 1) aO)))) (aZ (aZ (aZ (aZ dS)))))) aO)))))) aO)))))))
   (bW (eP (jm (au (um (ai 6)) (au (bX (zx (ai 5) (zJ (ai 1)) zI)) aO)))))))))))))),rfl⟩)
theorem cN:aJ ["_law_house_here","_law_places_here","_law_cart","_law_turns","_law_ways","_law_last","_law_one","_law_spot"] ["_law_house_here","_law_places_here","_law_cart","_law_turns","_law_ways"] (dg EG):=sM
def vT:GT:=(jx (de (dE (gO cI (aj (aa 6) (aj (gC (.ty "tuple")) gN))))) (jx (gT (gB eX (gO cC (aj (aa 6) gN)) (gC (.int 2)))) (jx (de (dE (mM BH (aj (gB bt (aa 6) (gC (.int 0))) gN)))) (de (dE (gO cI (aj (gB bt (aa 6) (gC (.int 1))) (aj (gC (.ty "list")) gN))))))))
def vU:GT:=(jx (de (Gj (λi j=>decide (i<j)) (λi j=>decide (i<j)) (aa 5) (gB bt (aa 6) (gC (.int 0))) (gO cC (aj (aa 1) gN)))) (gT (gB vE (gO cC (aj (gB bt (aa 6) (gC (.int 1))) gN)) (gB bY (aa 3) (gC (.int 1))))))
def AQ:GS:=(cf (gH (de (dE (gO cI (aj (aa 7) (aj (gC (.ty "str")) gN))))) (de (dE (mM v8 (aj (aa 7) (aj (gC (.int 2)) gN)))))) (aP (gC (.bl false))) bw)
def Ih:GS:=dQ (gB bt (aa 6) (gC (.int 1))) (bu 7) AQ
def vV:GT:=(de (dE (mM xV (aj (aa 0) (aj (gB bt (aa 1) (aa 5)) (aj (aa 2) (aj (gB bt (aa 6) (gC (.int 1))) gN)))))))
def AO:GS:=aT (cf vT (aP (gC (.bl false))) bw) (aT (cf vU (aP (gC (.bl false))) bw) (aT (av 5 (gB bt (aa 6) (gC (.int 0)))) (aT Ih (cf vV (aP (gC (.bl false))) bw))))
def Uj:GE:=kT (km (aa 4)) (bu 0) fL (gB bt (aa 0) (gC (.int 1))) 1 []
def IG:GS:=aT (cf (de (dE (gO cI (aj (aa 4) (aj (gC (.ty "list")) gN))))) (aP (gC (.bl false))) bw) (aT (av 5 (Hw tq (gC (.int 1)))) (aT (dQ (aa 4) (bu 6) AO) (aP (mM EK (aj Uj gN)))))
def EH:GM:=runM 8 [false,false,false,false,false] IG
variable(P w K mg base t)in
abbrev Of:Prop:=bR P w K mg base eZ 3 t.Ho t.GQ ["_law_house_here","_law_places_here","_law_cart","_law_turns","_law_ways"] (fJ K 5 EH)
theorem UE(T:Txt K mg t)(g22:Qe P w K mg base t)(L4:IL P w K mg base t)(g23:Oj P w K mg base t)(L3:Jp P w K mg base t):Of P w K mg base t:=
 fM (k:=2) [false,false,false,false,false] IG T.Br.fn cN λ_ _ _ _ _ _ hr dH dM=>(by
  exact⟨_,(bA (gR (mL (kS (gf (pZ K) qa T.a_ p8 (au (ai 4) (au (d_ (d:=.ty "list") (qd (by rfl) T.ik wj)) aO)))))
   (bW (eP (d_ (d:=.bl false) nP)))
   gQ)
   (bA (cZ (i:=5) cN.nd rfl (Or.inl rfl) (SG RG RN dI))
   (bA (p9 PassesOwn.never (ai 4) (e8 (i:=6) cN.nd rfl (Or.inl rfl)) fe
   (bA (gR (PW.pt (rB (mL (kS (gf (pZ K) qa T.a_ p8 (au (ai 6) (au (d_ (d:=.ty "tuple") (qd (by rfl) T.kz E6)) aO))))) (rB (fK (wC K ‹_›) wD (gf (ke K) ku T.cB j8 (au (ai 6) aO)) dI) (rB (mL (kS (rV T.zo L3 (by exact hr.mono (by decide)) (au (bV ‹_› (ai 6) dI) aO) (aZ dS)))) (yg (mL (kS (gf (pZ K) qa T.a_ p8 (au (bV ‹_› (ai 6) dI) (au (d_ (d:=.ty "list") (qd (by rfl) T.ik wj)) aO))))))))))
   (bW (eP (d_ (d:=.bl false) nP)))
   gQ)
   (bA (gR (PW.pt (rB (mL (Xx wH wH (ai 5) (bV ‹_› (ai 6) dI) (gf (ke K) ku T.cB j8 (au (ai 1) aO)))) (yg (fK Ab Af (gf (ke K) ku T.cB j8 (au (bV ‹_› (ai 6) dI) aO)) (dc (hX K) hY (ai 3) dI)))))
   (bW (eP (d_ (d:=.bl false) nP)))
   gQ)
   (bA (cZ (i:=5) cN.nd rfl (Or.inl rfl) (bV ‹_› (ai 6) dI))
   (bA (p9 PassesOwn.never (bV ‹_› (ai 6) dI) (e8 (i:=7) cN.nd rfl (Or.inl rfl)) fe
   (bW (gR (PW.pt (u6 (mL (kS (gf (pZ K) qa T.a_ p8 (au (ai 7) (au (d_ (d:=.ty "str") (qd (by rfl) T.nZ Ca)) aO))))) (xW (mL (kS (rV T.zp L4 (by exact hr.mono (by decide)) (au (ai 7) (au dI aO)) (aZ (aZ dS))))))))
   (bW (eP (d_ (d:=.bl false) nP)))
   gQ)))
   (bW (gR (mL (kS (rV T.Bn g22 (by exact hr.mono (by decide)) (au (ai 0) (au (bV ‹_› (ai 1) (ai 5)) (au (ai 2) (au (bV ‹_› (ai 6) dI) aO)))) (aZ (aZ (aZ (aZ dS)))))))
   (bW (eP (d_ (d:=.bl false) nP)))
   gQ)))))))
   (bW (eP (rV T.Bo g23 (by exact hr.mono (by decide)) (au (BY wc (k:=1) (cap:=[]) fe (M:=["_law_one"]) (b_.of (dg EG).names ["_law_house_here","_law_places_here","_law_cart","_law_turns","_law_ways","_law_last","_law_one","_law_spot"] (by decide +kernel)) (v_ K (bX (ai 4)))
    (λ_ _ _ _=>(e8 (i:=0) (show List.Nodup (["_law_one"]:List Str) by decide +kernel) rfl (Or.inl rfl))) (λ_ _ _ _=>wo) (λ_ _ _ _=>(bV ‹_› (ai 0) dI))) aO) (aZ dS))))))),rfl⟩)
theorem fz:aJ ["_law_house_here","_law_places_here","_law_cart","_law_turns","_law_cut","_law_cells_here","_law_spot"] ["_law_house_here","_law_places_here","_law_cart","_law_turns","_law_cut"] (dg IH):=sM
def Al:GS:=(cf (jx (de (dE (mM v8 (aj (aa 6) (aj (gC (.int 3)) gN))))) (jx (gT (gB (cj true) (uw (aa 6) wA (u7 (gC (.int 2)))) (aa 5))) (gT (gB oLt (gB bt (aa 6) (gC (.int 2))) (gC (.int 0)))))) (aP (gC (.bl false))) bw)
def II:GS:=(aT (av 5 (ay (aK BG (aj (aa 0) gN)))) (aT (cf (de (dE (gO cI (aj (aa 4) (aj (gC (.ty "list")) gN))))) (aP (gC (.bl false))) bw) (aT (dQ (aa 4) (bu 6) Al) (aP (gB (ox true) (aK Fg (aj (aa 0) (aj (aa 1) (aj (aa 2) (aj (aa 3) (aj (aa 4) gN)))))) (gC .bL))))))
def EJ:GM:=runM 7 [false,false,false,false,false] II
variable(P w K mg base t)in
abbrev Og:Prop:=bR P w K mg base eZ 3 t.Hs t.GU ["_law_house_here","_law_places_here","_law_cart","_law_turns","_law_cut"] (fJ K 5 EJ)
theorem UH(T:Txt K mg t)(LY:Jl P w K mg base t)(L4:IL P w K mg base t)(g24:Qf P w K mg base t):Og P w K mg base t:=
 fM (k:=2) [false,false,false,false,false] II T.Bs.fn fz λ_ _ _ _ _ _ hr dH dM=>(by
  exact⟨_,(bA (cZ (i:=5) fz.nd rfl (Or.inl rfl) (bX (fj T.zl LY (by exact hr.mono (by decide)) (au (ai 0) aO) (aZ dS))))
   (bA (gR (mL (kS (gf (pZ K) qa T.a_ p8 (au (ai 4) (au (d_ (d:=.ty "list") (qd (by rfl) T.ik wj)) aO)))))
   (bW (eP (d_ (d:=.bl false) nP)))
   gQ)
   (bA (p9 PassesOwn.never (ai 4) (e8 (i:=6) fz.nd rfl (Or.inl rfl)) fe
   (bW (gR (PW.pt (rB (mL (kS (rV T.zp L4 (by exact hr.mono (by decide)) (au (ai 6) (au dI aO)) (aZ (aZ dS))))) (rB (fK (rR K ‹_›) (nQ true) (zx (ai 6) zI (zJ dI)) (ai 5)) (yg (fK wH Ae (bV ‹_› (ai 6) dI) dI)))))
   (bW (eP (d_ (d:=.bl false) nP)))
   gQ)))
   (bW (eP (wu QH (SJ true) (fj T.Bp g24 (by exact hr.mono (by decide)) (au (ai 0) (au (ai 1) (au (ai 2) (au (ai 3) (au (ai 4) aO))))) (aZ (aZ (aZ (aZ (aZ dS)))))) (d_ (d:=.bL) B8))))))),rfl⟩)
theorem dC:aJ ["net","house","place","moment","cart","plenty","gate","behind","goals","places","goal"] ["net","house","place","moment","cart","plenty"] (dg ER):=sM
def IZ:GS:=(aT (av 6 (ay (aK uC (aj (aa 2) (aj (aa 3) gN))))) (aT (av 7 (ay (bg .tup (aj (gB bt (aa 6) (gC (.int 0))) (aj (gC (.str "out of")) gN))))) (aT (jv (aK uD (aj (aa 0) (aj (aa 6) (aj (aa 7) (aj (gC (.int 1)) gN)))))) (aT (av 8 (ay (aK zP (aj (aa 1) (aj (aa 2) gN))))) (aT (cf (gT (gB (cj false) (aa 4) (aa 8))) (jv (aK uD (aj (aa 0) (aj (aa 7) (aj (ay (gC (.str "the end"))) (aj (aa 5) gN)))))) bw) (aT (av 9 (ay (kT (km (aa 8)) (bu 0) (dE (gO cI (aj (aa 0) (aj (gC (.ty "tuple")) gN)))) (aa 0) 1 []))) (aT (dQ (aa 9) (bu 10) (jv (aK uD (aj (aa 0) (aj (aa 7) (aj (ay (aK uC (aj (aa 10) (aj (ay (gB bY (aa 3) (gC (.int 1)))) gN)))) (aj (aa 5) gN))))))) (aP (aa 9)))))))))
def EU:GM:=runM 11 [true,false,false,false,false,false] IZ
variable(P w K mg base t)in
abbrev OO:Prop:=bR P w K mg base eZ 4 t.G8 t.CH ["net","house","place","moment","cart","plenty"] (fJ K 6 EU)
theorem U4(T:Txt K mg t)(g8:Gn P w K mg base t)(g0:Lx P w K mg base t)(g6:Rb P w K mg base t):OO P w K mg base t:=
 fM (k:=3) [true,false,false,false,false,false] IZ T.Be.fn dC λ_ _ _ _ _ _ hr dH dM=>(by
  exact⟨_,(bA (cZ (i:=6) dC.nd rfl (Or.inl rfl) (bX (fj T.F8 g8 (by exact hr.mono (by decide)) (au (ai 2) (au (ai 3) aO)) (aZ (aZ dS)))))
   (bA (cZ (i:=7) dC.nd rfl (Or.inl rfl) (bX (jm (au (bV ‹_› (ai 6) dI) (au (d_ (d:=.str "out of") r6) aO)))))
   (bA (lC (fj T.F0 g0 (by exact hr.mono (by decide)) (au (ai 0) (au (ai 6) (au (ai 7) (au dI aO)))) (aZ (aZ (aZ (aZ dS))))))
   (bA (cZ (i:=8) dC.nd rfl (Or.inl rfl) (bX (fj T.F6 g6 (by exact hr.mono (by decide)) (au (ai 1) (au (ai 2) aO)) (aZ (aZ dS)))))
   (bA (gR (fK (zU K ‹_›) (nQ false) (ai 4) (ai 8))
   (bW (lC (fj T.F0 g0 (by exact hr.mono (by decide)) (au (ai 0) (au (ai 7) (au (bX (d_ (d:=(.str "the end")) (xM (by rfl) T.sg))) (au (ai 5) aO)))) (aZ (aZ (aZ (aZ dS)))))))
   gQ)
   (bA (BM (i:=9) wc (k:=1) (cap:=[]) fe (M:=["goal"]) (b_.of (dg ER).names ["net","house","place","moment","cart","plenty","gate","behind","goals","places","goal"] (by decide +kernel)) dC.nd rfl (Or.inl rfl) (v_ K (bX (ai 8)))
    (λ_ _ _ _=>(e8 (i:=0) (show List.Nodup (["goal"]:List Str) by decide +kernel) rfl (Or.inl rfl))) (λ_ _ _ _=>(Fv (kS (gf (pZ K) qa T.a_ p8 (au (ai 0) (au (d_ (d:=.ty "tuple") (qd (by rfl) T.kz E6)) aO)))))) (λ_ _ _ _=>(ai 0)))
   (bA (p9 PassesOwn.never (ai 9) (e8 (i:=10) dC.nd rfl (Or.inl rfl)) fe
   (bW (lC (fj T.F0 g0 (by exact hr.mono (by decide)) (au (ai 0) (au (ai 7) (au (bX (fj T.F8 g8 (by exact hr.mono (by decide)) (au (ai 10) (au (bX (dc (hX K) hY (ai 3) dI)) aO)) (aZ (aZ dS)))) (au (ai 5) aO)))) (aZ (aZ (aZ (aZ dS))))))))
   (bW (eP (ai 9)))))))))),rfl⟩)
theorem Wx:aJ ["_law_house_here","_law_places_here","_law_cart","_law_turns","_law_found"] ["_law_house_here","_law_places_here","_law_cart","_law_turns","_law_found"] (dg JQ):=sM
def JY:GS:=(aT (cf (jx (de (dE (gO cI (aj (aa 4) (aj (gC (.ty "tuple")) gN))))) (gT (gB eX (gO cC (aj (aa 4) gN)) (gC (.int 2))))) (aP (gC (.bl false))) bw) (aT (cf (de (dE (mM EH (aj (aa 0) (aj (aa 1) (aj (aa 2) (aj (aa 3) (aj (gB bt (aa 4) (gC (.int 0))) gN)))))))) (aP (gC (.bl false))) bw) (aT (cf (de (dE (mM EJ (aj (aa 0) (aj (aa 1) (aj (aa 2) (aj (aa 3) (aj (gB bt (aa 4) (gC (.int 1))) gN)))))))) (aP (gC (.bl false))) bw) (aP (l_ (gB oEq (gO cC (aj (gB bt (aa 4) (gC (.int 0))) gN)) (gO cC (aj (gB bt (aa 4) (gC (.int 1))) gN))) (gB oEq (gO x_ (aj (gB bt (aa 4) (gC (.int 1))) gN)) (gO cC (aj (gB bt (aa 4) (gC (.int 1))) gN))))))))
def wg:GM:=runM 5 [false,false,false,false,false] JY
variable(P w K mg base t)in
abbrev Qg:Prop:=bR P w K mg base eZ 4 t.Ht t.GV ["_law_house_here","_law_places_here","_law_cart","_law_turns","_law_found"] (fJ K 5 wg)
theorem Wz(T:Txt K mg t)(g28:Og P w K mg base t)(g26:Of P w K mg base t):Qg P w K mg base t:=
 fM (k:=3) [false,false,false,false,false] JY T.zq.fn Wx λ_ _ _ _ _ _ hr dH dM=>(by
  exact⟨_,(bA (gR (PW.pt (rB (mL (kS (gf (pZ K) qa T.a_ p8 (au (ai 4) (au (d_ (d:=.ty "tuple") (qd (by rfl) T.kz E6)) aO))))) (yg (fK (wC K ‹_›) wD (gf (ke K) ku T.cB j8 (au (ai 4) aO)) dI))))
   (bW (eP (d_ (d:=.bl false) nP)))
   gQ)
   (bA (gR (mL (kS (rV T.Br g26 (by exact hr.mono (by decide)) (au (ai 0) (au (ai 1) (au (ai 2) (au (ai 3) (au (bV ‹_› (ai 4) dI) aO))))) (aZ (aZ (aZ (aZ (aZ dS))))))))
   (bW (eP (d_ (d:=.bl false) nP)))
   gQ)
   (bA (gR (mL (kS (rV T.Bs g28 (by exact hr.mono (by decide)) (au (ai 0) (au (ai 1) (au (ai 2) (au (ai 3) (au (bV ‹_› (ai 4) dI) aO))))) (aZ (aZ (aZ (aZ (aZ dS))))))))
   (bW (eP (d_ (d:=.bl false) nP)))
   gQ)
   (bW (eP (FX (wu (p_ K ‹_›) qe (gf (ke K) ku T.cB j8 (au (bV ‹_› (ai 4) dI) aO)) (gf (ke K) ku T.cB j8 (au (bV ‹_› (ai 4) dI) aO))) (KG (wu (p_ K ‹_›) qe (Pf T.cB T.wI (au (bV ‹_› (ai 4) dI) aO) ‹_›) (gf (ke K) ku T.cB j8 (au (bV ‹_› (ai 4) dI) aO)))))))))),rfl⟩)
theorem cw:aJ ["net","house","places","cart","turns","plenty","spots","now","place","moment","reach","goal"] ["net","house","places","cart","turns"] (dg Jh):=sM
def Cw:GS:=jv (aK uD (aj (aa 0) (aj (ay (gC (.str "the start"))) (aj (ay (aK uC (aj (aa 8) (aj (gC (.int 0)) gN)))) (aj (aa 5) gN)))))
def tT:GS:=iw (gC (.bl true)) (aa 10) (aa 11)
def DO:GS:=aT (jv (gb lD (aa 6) (aj (ay (bg .tup (aj (gB bt (aa 8) (gC (.int 0))) (aj (gB bt (aa 8) (gC (.int 1))) (aj (aa 9) gN))))) gN)))
 (dQ (aK EU (aj (aa 0) (aj (aa 1) (aj (aa 8) (aj (aa 9) (aj (aa 3) (aj (aa 5) gN))))))) (bu 11) tT)
def sZ:GS:=aT (av 10 zS) (aT (dQ (aa 7) (bu 8) DO) (av 7 (ay (gO Cr (aj (aa 10) gN)))))
def Jr:GS:=aT (av 5 (ay (gB bY (gO cC (aj (aa 2) gN)) (gC (.int 1)))))
 (aT (av 6 (bg .lst gN)) (aT (av 7 (aa 2)) (aT (dQ (aa 2) (bu 8) Cw) (aT (zw (aj (aa 4) gN) (bu 9) sZ) (aP (fw (aa 6)))))))
def E5:GM:=runM 12 [true,false,false,false,false] Jr
variable(P w K mg base t)in
abbrev Pj:Prop:=bR P w K mg base eZ 5 t.f9 t.d9 ["net","house","places","cart","turns"] (fJ K 5 E5)
theorem Vq(T:Txt K mg t)(g8:Gn P w K mg base t)(g0:Lx P w K mg base t)(LW:OO P w K mg base t):Pj P w K mg base t:=
 fM (k:=4) [true,false,false,false,false] Jr T.F9.fn cw λ_ _ _ _ _ _ hr dH dM=>(by
  exact⟨_,(bA (cZ (i:=5) cw.nd rfl (Or.inl rfl) (bX (dc (hX K) hY (gf (ke K) ku T.cB j8 (au (ai 2) aO)) dI)))
   (bA (cZ (i:=6) cw.nd rfl (Or.inl rfl) (l7 aO))
   (bA (cZ (i:=7) cw.nd rfl (Or.inl rfl) (ai 2))
   (bA (p9 PassesOwn.never (ai 2) (e8 (i:=8) cw.nd rfl (Or.inl rfl)) fe
   (bW (lC (fj T.F0 g0 (by exact hr.mono (by decide)) (au (ai 0) (au (bX (d_ (d:=(.str "the start")) (xM (by rfl) T.kA))) (au (bX (fj T.F8 g8 (by exact hr.mono (by decide)) (au (ai 8) (au dI aO)) (aZ (aZ dS)))) (au (ai 5) aO)))) (aZ (aZ (aZ (aZ dS))))))))
   (bA (EW PassesOwn.never T.eA (au (ai 4) aO) (e8 (i:=9) cw.nd rfl (Or.inl rfl)) fe
   (bA (cZ (i:=10) cw.nd rfl (Or.inl rfl) Jy)
   (bA (p9 PassesOwn.never (ai 7) (e8 (i:=8) cw.nd rfl (Or.inl rfl)) fe
   (bA (lC (pz PySem.F.slot_list_append PySem.F.type_list_append q_ ra (ai 6) (au (bX (jm (au (bV ‹_› (ai 8) dI) (au (bV ‹_› (ai 8) dI) (au (ai 9) aO))))) aO)))
   (bW (p9 PassesOwn.never (fj T.Be LW (by exact hr.mono (by decide)) (au (ai 0) (au (ai 1) (au (ai 8) (au (ai 9) (au (ai 3) (au (ai 5) aO)))))) (aZ (aZ (aZ (aZ (aZ (aZ dS))))))) (e8 (i:=11) cw.nd rfl (Or.inl rfl)) fe
   (bW (Ci (d_ (d:=.bl true) nP) (ai 10) (ai 11) ‹_›))))))
   (bW (cZ (i:=7) cw.nd rfl (Or.inl rfl) (bX (Xv T.ik (au (ai 10) aO))))))))
   (bW (eP (um (ai 6))))))))),rfl⟩)
theorem cK:aJ ["house","places","cart","turns","net","spots","near","ways","k","place","first","cut"] ["house","places","cart","turns"] (dg E1):=sM
def AH:GS:=cf (gT (gB vE (gB bt (gB bt (aa 4) (aa 10)) (gC (.str "the start"))) (gC (.int 0))))
  (jv (gb lD (aa 7) (aj (bg .tup (aj (aa 8) (aj (aK BE (aj (ay (aa 4)) (aj (aa 10) (aj (aa 2) gN)))) gN))) gN)))
  bw
def yN:GS:=aT (av 10 (ay (aK uC (aj (aa 9) (aj (gC (.int 0)) gN))))) AH
def MF:GT:=gH (gT (gB (cj false) (ay (bg .tup (aj (aa 0) (aj (gC (.str "into")) gN)))) (aa 1))) (gT (gB (cj true) (ay (bg .tup (aj (aa 0) (aj (gC (.str "out of")) gN)))) (aa 1)))
def ME:GE:=kT (km (aa 5)) (bu 0) MF (aa 0) 1 [6]
def Js:GS:=aT (av 4 (Fz (gC (.str "the start")) zS))
 (aT (av 5 (ay (aK E5 (aj (aa 4) (aj (aa 0) (aj (aa 1) (aj (aa 2) (aj (aa 3) gN)))))))) (aT (av 6 (ay (aK Gp (aj (aa 4) (aj (ay (gC (.str "the start"))) (aj (ay (gC (.str "the end"))) gN)))))) (vi 4 (aT (av 7 (bg .lst gN)) (aT (Gi (aa 1) (fP [(bu 8),(bu 9)]) yN) (aT (av 11 ME) (aP (bg .tup (aj (fw (aa 7)) (aj (fw (aa 11)) gN))))))))))
def xO:GM:=runM 12 [false,false,false,false] Js
variable(P w K mg base t)in
abbrev Pk:Prop:=bR P w K mg base eZ 6 t.f7 t.d7 ["house","places","cart","turns"] (fJ K 4 xO)
theorem Vr(T:Txt K mg t)(g1:R5 P w K mg base t)(LX:OM P w K mg base t)(g8:Gn P w K mg base t)(g9:Pj P w K mg base t):Pk P w K mg base t:=
 fM (k:=5) [false,false,false,false] Js T.F7.fn cK λ_ _ _ _ _ _ hr dH dM=>(by
  exact⟨_,(bA (cZ (i:=4) cK.nd rfl (Or.inl rfl) (V' ‹_› (d_ (d:=(.str "the start")) (xM (by rfl) T.kA)) Jy))
   (bA (cZ (i:=5) cK.nd rfl (Or.inl rfl) (bX (fj T.F9 g9 (by exact hr.mono (by decide)) (au (ai 4) (au (ai 0) (au (ai 1) (au (ai 2) (au (ai 3) aO))))) (aZ (aZ (aZ (aZ (aZ dS))))))))
   (bA (cZ (i:=6) cK.nd rfl (Or.inr rfl) (bX (fj T.F1 g1 (by exact hr.mono (by decide)) (au (ai 4) (au (bX (d_ (d:=(.str "the start")) (xM (by rfl) T.kA))) (au (bX (d_ (d:=(.str "the end")) (xM (by rfl) T.sg))) aO))) (aZ (aZ (aZ dS))))))
   (e9g (i:=4) (bA (cZ (i:=7) cK.nd rfl (Or.inl rfl) (l7 aO))
   (bA (YX PassesOwn.never T.nY (ai 1) (FT rfl (p5 (e8 (i:=8) cK.nd rfl (Or.inl rfl)) (p5 (e8 (i:=9) cK.nd rfl (Or.inl rfl)) Fp))) (FY (p6 fe (p6 fe Fs)))
   (bA (cZ (i:=10) cK.nd rfl (Or.inl rfl) (bX (fj T.F8 g8 (by exact hr.mono (by decide)) (au (ai 9) (au dI aO)) (aZ (aZ dS)))))
   (bW (gR (fK Ab Af (bV ‹_› (bV ‹_› (ai 4) (ai 10)) (d_ (d:=(.str "the start")) (xM (by rfl) T.kA))) dI)
   (bW (lC (pz PySem.F.slot_list_append PySem.F.type_list_append q_ ra (ai 7) (au (jm (au (ai 8) (au (fj T.Bf LX (by exact hr.mono (by decide)) (au (bX (ai 4)) (au (ai 10) (au (ai 2) aO))) (aZ (aZ (aZ dS)))) aO))) aO))))
   gQ))))
   (bA (QN (i:=11) wc (k:=1) (cap:=[6]) fe (M:=["spot","near"]) (b_.of (dg E1).names ["house","places","cart","turns","net","spots","near","ways","k","place","first","cut"] (by decide +kernel)) cK.nd rfl (Or.inl rfl) (v_ K (bX (ai 5)))
    (λ_ _ _ _=>(e8 (i:=0) (show List.Nodup (["spot","near"]:List Str) by decide +kernel) rfl (Or.inl rfl))) (λ_ _ _ _=>(Fv (PW.pt (u6 (fK (zU K ‹_›) (nQ false) (bX (jm (au (ai 0) (au (d_ (d:=.str "into") r6) aO)))) (ai 1)) (xW (fK (rR K ‹_›) (nQ true) (bX (jm (au (ai 0) (au (d_ (d:=.str "out of") r6) aO)))) (ai 1))))))) (λ_ _ _ _=>(ai 0)))
   (bW (eP (jm (au (um (ai 7)) (au (um (ai 11)) aO)))))))))))),rfl⟩)
theorem fA:aJ ["_law_script","_law_feed_here","_law_house_here","_law_places_here","_law_cart","_law_turns","_law_handed","_law_found","_law_many","_law_one","_law_again"] ["_law_script"] (dg Lv):=sM
def HP:GS:=(cf (jx (de (dE (mM wg (aj (aa 2) (aj (aa 3) (aj (aa 4) (aj (aa 5) (aj (aa 7) gN)))))))) (gT (gB eX (aa 6) (bg .tup (aj (aa 2) (aj (aa 3) gN)))))) (aP (gC (.bl false))) bw)
def HL:GS:=av 8 (ql 7)
def HM:GS:=qp 7 9
def MR:GS:=jv (j_ Cg 7 [0] gN)
def HN:GS:=jv (j_ lD 7 [1] (aj (ay (bg .tup (aj (gC (.str "q")) (aj (gC (.int 0)) (aj (gC (.int 0)) gN))))) gN))
def HQ:GS:=aP (l_ (mM wg (aj (aa 2) (aj (aa 3) (aj (aa 4) (aj (aa 5) (aj (aa 10) gN)))))) (l_ (gB oEq (gO cC (aj (gB bt (aa 10) (gC (.int 0))) gN)) (aa 8)) (gB oEq (aa 6) (bg .tup (aj (aa 2) (aj (aa 3) gN))))))
def Dv:GS:=aT HP (aT HL (aT HM (aT MR (aT HN (aT (av 10 (ay (aK xO (aj (gB bt (aa 6) (gC (.int 0))) (aj (gB bt (aa 6) (gC (.int 1))) (aj (aa 4) (aj (aa 5) gN))))))) HQ)))))
def MS:GS:=(aT (av 6 (ay (bg .tup (aj (ay (aK ET (aj (aa 2) gN))) (aj (ay (gO iX (aj (aa 3) gN))) gN))))) (aT (av 7 (aK xO (aj (gB bt (aa 6) (gC (.int 0))) (aj (gB bt (aa 6) (gC (.int 1))) (aj (aa 4) (aj (aa 5) gN)))))) Dv))
def Ly:GS:=aT (av 1 (aK zC (aj (aa 0) gN)))
 (aT (av 2 (ay (aK zv (aj (aa 1) gN)))) (aT (av 3 (ay (aK zt (aj (aa 1) (aj (aa 2) (aj (gC (.int 8)) gN)))))) (aT (av 4 (gB bt (gB bt (aa 2) (gC (.int 1))) (aK lB (aj (aa 1) (aj (gO cC (aj (gB bt (aa 2) (gC (.int 1))) gN)) gN))))) (aT (av 5 (ay (aK lB (aj (aa 1) (aj (gC (.int 13)) gN))))) MS))))
def Lz:GM:=runM 11 [false] Ly
theorem e6m(T:Txt K mg t)(g20:OL P w K mg base t)(mP:BP P w K mg base t)(g13:Qb P w K mg base t)(g17:Ph P w K mg base t)(g25:ON P w K mg base t)(Te:Qg P w K mg base t)(g7:Pk P w K mg base t):bR P w K mg base eZ 7 t.CT t.CO ["_law_script"] (fJ K 1 Lz):=
 fM (k:=6) [false] Ly T.Bu.fn fA λ_ _ _ _ _ _ hr dH dM=>(by
  exact⟨_,(bA (cZ (i:=1) fA.nd rfl (Or.inl rfl) (fj T.Bi g13 (by exact hr.mono (by decide)) (au (ai 0) aO) (aZ dS)))
   (bA (cZ (i:=2) fA.nd rfl (Or.inl rfl) (bX (fj T.Bl g17 (by exact hr.mono (by decide)) (au (ai 1) aO) (aZ dS))))
   (bA (cZ (i:=3) fA.nd rfl (Or.inl rfl) (bX (fj T.Bq g25 (by exact hr.mono (by decide)) (au (ai 1) (au (ai 2) (au dI aO))) (aZ (aZ (aZ dS))))))
   (bA (cZ (i:=4) fA.nd rfl (Or.inl rfl) (bV ‹_› (bV ‹_› (ai 2) dI) (fj T.lZ mP (by exact hr.mono (by decide)) (au (ai 1) (au (gf (ke K) ku T.cB j8 (au (bV ‹_› (ai 2) dI) aO)) aO)) (aZ (aZ dS)))))
   (bA (cZ (i:=5) fA.nd rfl (Or.inl rfl) (bX (fj T.lZ mP (by exact hr.mono (by decide)) (au (ai 1) (au dI aO)) (aZ (aZ dS)))))
   (bA (cZ (i:=6) fA.nd rfl (Or.inl rfl) (bX (jm (au (bX (fj T.Bm g20 (by exact hr.mono (by decide)) (au (ai 2) aO) (aZ dS))) (au (bX (xK (EI K) Fu T.ik wj (au (ai 3) aO))) aO)))))
   (bA (cZ (i:=7) fA.nd rfl (Or.inl rfl) (fj T.F7 g7 (by exact hr.mono (by decide)) (au (bV ‹_› (ai 6) dI) (au (bV ‹_› (ai 6) dI) (au (ai 4) (au (ai 5) aO)))) (aZ (aZ (aZ (aZ dS))))))
   (bA (gR (PW.pt (rB (mL (kS (rV T.zq Te (by exact hr.mono (by decide)) (au (ai 2) (au (ai 3) (au (ai 4) (au (ai 5) (au (ai 7) aO))))) (aZ (aZ (aZ (aZ (aZ dS)))))))) (yg (fK (wC K ‹_›) wD (ai 6) (jm (au (ai 2) (au (ai 3) aO)))))))
   (bW (eP (d_ (d:=.bl false) nP)))
   gQ)
   (bA (cZ (i:=8) fA.nd rfl (Or.inl rfl) (Za T.cB (CA (j:=0) (Cj (pv 7)) ‹_›)))
   (bA (e6k PassesOwn.never (CA (j:=0) (Cj (pv 7)) ‹_›) (e8 (i:=9) fA.nd rfl (Or.inl rfl)) (Qs (Qt (RJ PySem.F.plainAttrs_list PySem.F.slot_list_clear PySem.F.type_list_clear PK (CA (j:=1) (Cj (pv 9)) ‹_›)))) rfl)
   (bA (lC (XE (π:=[0]) PySem.F.slot_list_clear PySem.F.type_list_clear PK W' (CA (j:=0) (Cj (pv 7)) ‹_›)))
   (bA (lC (Zd (π:=[1]) PySem.F.slot_list_append PySem.F.type_list_append q_ ra (CA (j:=1) (Cj (pv 7)) ‹_›) (au (bX (jm (au (d_ (d:=.str "q") r6) (au dI (au dI aO))))) aO)))
   (bA (cZ (i:=10) fA.nd rfl (Or.inl rfl) (bX (fj T.F7 g7 (by exact hr.mono (by decide)) (au (bV ‹_› (ai 6) dI) (au (bV ‹_› (ai 6) dI) (au (ai 4) (au (ai 5) aO)))) (aZ (aZ (aZ (aZ dS)))))))
   (bW (eP (FX (rV T.zq Te (by exact hr.mono (by decide)) (au (ai 2) (au (ai 3) (au (ai 4) (au (ai 5) (au (ai 10) aO))))) (aZ (aZ (aZ (aZ (aZ dS)))))) (FX (wu (p_ K ‹_›) qe (gf (ke K) ku T.cB j8 (au (bV ‹_› (ai 10) dI) aO)) (ai 8)) (KG (wu (p_ K ‹_›) qe (ai 6) (jm (au (ai 2) (au (ai 3) aO)))))))))))))))))))))),rfl⟩)
end
end Carry
namespace Carry
open PySem L2
variable{i n r k:Nat}{F:cA}{s ri:Int}
noncomputable def wR(F:cA):List O:=[.Y (.lst (F.ns.map .int)),.Y (.int F.pl),.Y (.int F.xv),.Y (.int F.mode),.Y (.int F.num)]
abbrev ba(F:cA):O:=.lst (wR F)
def sA(ns:List Int):cA:=⟨ns,0,0,ns.getD 0 0%2,ns.getD 1 0⟩
theorem R6(ds:List D)(n:Nat):cutD ds none (some (n:Int))=ds.take n:=by
 unfold cutD;have e1:HT.dA ds.length 0 none=0:=rfl;have e2:HT.dA ds.length ds.length (some (n:Int))=min n ds.length:=by
  unfold HT.dA;simp;try lia
 rw[e1,e2];simp only[o6,Nat.sub_zero];rw[List.take_eq_take_iff];lia
theorem KZ(ds:List D):cutD ds none (some 2)=ds.take 2:=R6 ds 2
theorem CF(ds:List D):cutD ds none (some 63)=ds.take 63:=R6 ds 63
theorem MG:o5 5 4=some 4:=by decide
theorem Ds:o5 5 1=some 1:=by decide
theorem UB(ns:List Int):dq ((ns.map D.int).take 2++[D.int 0,D.int 0]) 0=some (.int (ns.getD 0 0)):=by
 refine nO (j:=0) ?_
 match ns with
 |[]=>rfl
 |[x]=>rfl
 |x::y::r=>rfl
theorem UC(ns:List Int):dq ((ns.map D.int).take 2++[D.int 0,D.int 0]) 1=some (.int (ns.getD 1 0)):=by
 refine nO (j:=1) ?_
 match ns with
 |[]=>rfl
 |[x]=>rfl
 |x::y::r=>rfl
theorem bf{α:Type _}{a:α}{l:List α}:(a::l)[0]?=some a:=rfl
theorem bx{α:Type _}{a:α}{l:List α}:(a::l)[i+1]?=l[i]?:=rfl
theorem bM{α:Type _}{a:α}{l:List α}:(a::l).length=l.length+1:=rfl
theorem bN{α:Type _}:([]:List α).length=0:=rfl
theorem bQ{α:Type _}{x a:α}{l:List α}:(x::l).set 0 a=a::l:=rfl
theorem cD{α:Type _}{x a:α}{l:List α}:(x::l).set (n+1) a=x::l.set n a:=rfl
theorem eM{α β:Type _}{f:α->β}{a:α}{l:List α}:(a::l).map f=f a::l.map f:=rfl
theorem eR{α β:Type _}{f:α->β}:([]:List α).map f=[]:=rfl
theorem fF{α:Type _}{a:α}:List.replicate 0 a=[]:=rfl
theorem fZ{α:Type _}{a:α}:List.replicate (n+1) a=a::List.replicate n a:=rfl
theorem gq{α:Type _}{a:α}{l:List α}:(a::l).take (i+1)=a::l.take i:=rfl
theorem fG{α:Type _}{a:α}{l r:List α}:(a::l)++r=a::(l++r):=rfl
theorem fH{α:Type _}(l:List α):[]++l=l:=rfl
theorem gr{α:Type _}{l:List α}:l.take 0=[]:=rfl
theorem dz:(false=true)=False:=lK
theorem bO(n:Nat):0+n=n:=Es n
theorem e6n(ns:List Int)(h:ns.length<=63):zC [.Y (.eY ns)]=some (ba (sA ns),[none]):=by
 have c1:(min 2 ns.length<=999998)=True:=kq (by lia)
 have c2:(ns.map D.int).take 63=ns.map D.int:=El (by rw[bK];lia)
 unfold zC JS;simp only[gk,eM,eR,bM,bN,bO,reduceSub,fZ,fF,fG,fH,dh,eU,cO,bH,bq,zy,bj,bf,↓ag,zK,zL,bP,zO,↓evMap,bC,V2,KZ,eQ,br,reduceAdd,reduceLeDiff,eS,dX,bc,bG,bF,Fx,Gf,xR,KJ,KI,pU,bK,c1,jL,r9,reduceLT,cD,bQ,eV,CF,c2,bx,cQ,lP,UB,iI,Int.reduceLT,decide_true,UC,gG,gq,gr,gy,gn];rfl
theorem e6o(F:cA)(m:Int)(h0:0<m)(h1:m<1073741824)(hp:0<=F.pl)(hl:F.ns.length<=63):lB [ba F,.Y (.int m)]=some (.Y (.int (aW F m)),[some (ba (aQ F m)),none]):=by
 unfold lB JT ba wR;by_cases hm:F.mode=1
 .have e1:aW F m=F.num%m:=by unfold aW;rw[aU hm]
  have e2:aQ F m={ F with num:=F.num / m}:=by unfold aQ;rw[aU hm]
  rw[e1,e2];simp only[hm,gk,eM,eR,bM,bN,bO,reduceAdd,reduceSub,fZ,fF,fG,fH,dh,dW,cU,bH,bq,bj,bf,↓ag,bP,br,bG,j7,i6,bC,bF,cQ,KL,zA,JH,nU,bT,oU,and_self,qb,oS,bc,eU,JJ,bx,iI,h0,decide_true,reduceLT,cD,bQ,u9,h1,Kj,MG,↓evMap,eV,dU,gG,gq,gr,r_,gy,gn]
 .have TC:(F.mode == 1)=false:=by simpa using hm
  have e1:aW F m=(cellOf F*48271+31*F.pl)%1000003*69621%999983%m:=by unfold aW;rw[aY hm]
  have e2:aQ F m={ F with pl:=F.pl+1}:=by unfold aQ;rw[aY hm]
  rw[e1,e2];have m1:∀x:Int,((-(2^64)<x/\x<2^64\/(-(2^64):Int)<31/\(31:Int)<2^64)=True):=λx=>kq (.inr ⟨by decide,by decide⟩)
  have m2:∀x:Int,((-(2^64)<x/\x<2^64\/(-(2^64):Int)<48271/\(48271:Int)<2^64)=True):=λx=>kq (.inr ⟨by decide,by decide⟩)
  have m3:∀x:Int,((-(2^64)<x/\x<2^64\/(-(2^64):Int)<69621/\(69621:Int)<2^64)=True):=λx=>kq (.inr ⟨by decide,by decide⟩)
  have m4:∀x:Int,(((-(2^64):Int)<31/\(31:Int)<2^64 \/ -(2^64)<x/\x<2^64)=True):=λx=>kq (.inl ⟨by decide,by decide⟩)
  by_cases hc:(0:Int)<F.ns.length
  .have hs:(F.ns.length:Int)<1073741824:=by lia
   have hmod:0<=F.pl%(F.ns.length:Int)/\F.pl%(F.ns.length:Int)<F.ns.length:=⟨NO _ (by lia),NP _ hc⟩
   have hat:dq (F.ns.map D.int) (F.pl%(F.ns.length:Int))=some (.int (F.ns.getD (F.pl%F.ns.length).toNat 0)):=by
    have sN:(F.pl%(F.ns.length:Int)).toNat<F.ns.length:=by lia
    have e:(F.ns.map D.int)[(F.pl%(F.ns.length:Int)).toNat]?=some (.int (F.ns.getD (F.pl%F.ns.length).toNat 0)):=by simp[sN]
    have z:=nO e
    rwa[show(((F.pl%(F.ns.length:Int)).toNat:Nat):Int)=F.pl%(F.ns.length:Int) by lia] at z
   have ec:cellOf F=F.ns.getD (F.pl%F.ns.length).toNat 0+F.pl / F.ns.length*31:=by unfold cellOf;rw[aU (by lia)]
   rw[ec];simp only[gk,eM,eR,bM,bN,bO,reduceAdd,reduceSub,fZ,fF,fG,fH,dh,dW,cU,bH,bq,bj,bf,↓ag,bP,br,bG,j7,i6,bC,bF,cQ,KL,zA,JH,nU,bT,oU,and_self,qb,TC,bc,dz,eU,JJ,bx,iI,h0,decide_true,reduceLT,cD,bQ,u9,h1,Kj,↓evMap,dU,ck,mJ,cO,iG,Ds,lA,yi,zN,bK,hc,lP,hat,hs,zM,m1,eV,m2,m4,Int.reduceLT,m3,gG,gq,gr,r_,gy,gn]
  .have ec:cellOf F=F.pl:=by unfold cellOf;rw[aY (by lia)]
   rw[ec];simp only[gk,eM,eR,bM,bN,bO,reduceAdd,reduceSub,fZ,fF,fG,fH,dh,dW,cU,bH,bq,bj,bf,↓ag,bP,br,bG,j7,i6,bC,bF,cQ,KL,zA,JH,nU,bT,oU,and_self,qb,TC,bc,dz,eU,JJ,bx,iI,h0,decide_true,reduceLT,cD,bQ,u9,h1,Kj,↓evMap,dU,ck,mJ,cO,iG,Ds,lA,yi,zN,bK,hc,decide_false,eV,zM,m2,m4,Int.reduceLT,m3,gG,gq,gr,r_,gy,gn]
abbrev fS(x:Str):O:=.Y (.str x)
theorem K6(xs:List Str):xs.map fS=(xs.map D.str).map .Y:=by rw[oQ];rfl
theorem yq(xs:List Str):O.dl (xs.map fS)=xs.map D.str:=by rw[K6,pq]
theorem Kp(x:Str):∀xs:List Str,((xs.map D.str).any λz=>bh z (.str x))=xs.contains x
 |[]=>rfl
 |y::r=>by
  rw[dD,List.any_cons,Kp x r,List.contains_cons,Ck]
  congr 1
  exact BEq.comm
theorem FH(n:Nat)(xs:List Str):(xs.map D.str).all (cJ n)=true:=by
 rw[jH];intro d hd;obtain⟨y,_,rfl⟩:=iQ.mp hd;exact p7 n y
theorem zW(neg:Bool)(x:Str)(xs:List Str):cj neg [.Y (.str x),.lst (xs.map fS)]=some (.Y (.bl (if neg then !xs.contains x else xs.contains x))):=by
 unfold cj;have e:oF (O.lst (xs.map fS)).d=some (xs.map D.str):=by rw[K6];show some (O.dl _)=_;rw[pq]
 simp only[jw,e,Option.bind_some,bT,p7,FH,and_self,bc,Kp]
theorem Gq(neg:Bool)(x:Str)(xs:List Str):cj neg [.Y (.str x),.Y (.lst (xs.map D.str))]=some (.Y (.bl (if neg then !xs.contains x else xs.contains x))):=by
 unfold cj;have e:oF (.lst (xs.map D.str))=some (xs.map D.str):=rfl;simp only[jw,e,Option.bind_some,bT,p7,FH,and_self,bc,Kp]
theorem Zk(xs:List Str)(i:Int)(y:Str)(h0:0<=i)(h1:i<1000000)(hl:xs.length<1000000):xZ (.lst (xs.map fS)) [.Y (.int i),.Y (.str y)]=some (.lst ((pJ xs i.toNat y).map fS),.Y .bL):=by
 unfold xZ;dsimp only;rw[aU ⟨h0,h1,by rw[bK];exact hl⟩]
 unfold pJ;rw[iF,dD,List.map_take,NY]
structure cF (F:cA):Prop where
 pos:0<=F.pl
 len:F.ns.length<=63
theorem cF.draw(h:cF F)(m:Int):cF (aQ F m):=⟨WZ F m h.pos,by rw[WY];exact h.len⟩
theorem xd(h:cF F){m:Int}(h0:0<m)(h1:m<1073741824):lB [ba F,.Y (.int m)]=some (.Y (.int (aW F m)),[some (ba (aQ F m)),none]):=e6o F m h0 h1 h.pos h.len
noncomputable def bB(b:bp):D:=.tup [.str b.name,.int b.long,.bl b.ring,.lst (b.outs.map .str)]
def cq(h:aA):D:=.tup [.lst (h.aM.map bB),.lst (h.aS.map .str)]
abbrev fB(b:bp):O:=.Y (bB b)
theorem e9j(xs:List bp):O.dl (xs.map fB)=xs.map bB:=by rw[show xs.map fB=(xs.map bB).map .Y by rw[oQ];rfl,pq]
theorem OP:∀(xs:List bp) (aE:List Str) (a:ao O),aE.length+xs.length<1000000->∃a',compLoop (bu 0) fL (gB bt (aa 0) (gC (.int 0))) (xs.map bB) [a] (aE.map fS)=some ((aE++xs.map bp.name).map fS,[a'])
 |[],aE,a,_=>⟨a,by rw[qZ,Gd,qZ,jq]⟩
 |x::xs,aE,a,h=>by
  rw[iZ] at h;have hl:(aE.map fS).length<1000000:=by rw[bK];lia
  obtain⟨a',e⟩:=OP xs (aE++[x.name]) (some (fB x)) (by rw[du,ko];lia)
  refine⟨a',?_⟩;rw[dD (f:=bp.name),show aE++x.name::xs.map bp.name=aE++[x.name]++xs.map bp.name by simp]
  rw[<-e,iF];simp only[eM,bB,Ge,gw,bM,bN,bO,reduceLT,bQ,bc,↓ag,uy,bH,bq,bj,bf,bP,br,bG,bC,bF,cQ,jK,lA,↓evMap,eS,dX,hl,eR];rfl
def qV(st k:Nat):Str:=yw (("abcdefghijk":Str).cps.toList.getD (((k:Int)*4+(st:Int))%11).toNat 0)
def nm(st k:Nat):Str:=
 if st%3=0 then Txt.mul "q" ((st / 3%3:Nat):Int)++qV st k++Txt.slice "zq" none (some ((st / 9:Nat):Int))
 else if st%3=1 then(if k<8 then Txt.mul "b" ((k:Int)+1) else Txt.mul "c" ((k:Int) - 7)) else qV st k
theorem e6p:∀st:Nat,st<27->∀i:Nat,i<9->∀j:Nat,j<9->nm st i=nm st j->i=j:=by decide +kernel
theorem mulQ:∀n:Nat,n<3->MulOk "q" (n:Int):=by unfold MulOk;decide +kernel
theorem M6:∀n:Nat,n<9->MulOk "b" ((n:Int)+1):=by unfold MulOk;decide +kernel
theorem mulC:∀n:Nat,n<9->MulOk "c" ((n:Int) - 7):=by unfold MulOk;decide +kernel
theorem MO:∀n:Nat,n<3->(Txt.mul "q" (n:Int)).length<=3:=by decide +kernel
theorem lenZ:∀n:Nat,n<3->(Txt.slice "zq" none (some (n:Int))).length<=3:=by decide +kernel
theorem Zl(c:Nat):(yw c).length=1:=rfl
theorem ML:("abcdefghijk":Str).cps.toList.length=11:=by decide +kernel
theorem e6q(st k:Nat):dq ("abcdefghijk":Str).cps.toList (((k:Int)*4+st)%11)=some (("abcdefghijk":Str).cps.toList.getD (((k:Int)*4+st)%11).toNat 0):=PN 0 (by lia) (by rw[ML];lia)
theorem SR{st:Nat}(es:s=st)(er:ri=r)(h:st%3=r):(s%3 == ri)=true:=by rw[beq_iff_eq];lia
theorem S9{st:Nat}(es:s=st)(er:ri=r)(h:¬st%3=r):(s%3 == ri)=false:=by rw[qD];lia
theorem e9k{st:Nat}(es:s=st):((st / 3%3:Nat):Int)=s / 3%3:=by lia
theorem e9l{st:Nat}(es:s=st):((st / 9:Nat):Int)=s / 9:=by lia
theorem LA{st:Nat}(hs:st<27):st / 3%3<3/\st / 9<3:=by lia
theorem S_{a b:Nat}(ha:a<=3)(hb:b<=4):a+b<=1000000:=by lia
theorem k8{i:Int}(ek:i=k):(i<8)=(k<8):=by rw[eq_iff_iff];lia
theorem Zm(s i:Int)(st k:Nat)(es:s=st)(ek:i=k)(hs:st<27)(hk:k<9):we [.Y (.int s),.Y (.int i)]=some (.Y (.str (nm st k)),[none,none]):=by
 have m1:((-(2^64)<i/\i<2^64)\/((-(2^64):Int)<4/\(4:Int)<2^64))=True:=kq (.inr ⟨by decide,by decide⟩)
 have ea:=e6q st k;rw[<-es,<-ek] at ea;have el:(⟨#[("abcdefghijk":Str).cps.toList.getD ((i*4+s)%11).toNat 0]⟩:Str)=qV st k:=by unfold qV yw;rw[es,ek]
 have c0:(("abcdefghijk":Str).length<=1000000)=True:=kq (by decide +kernel)
 have ll:(qV st k).length=1:=Zl _;unfold we JU nm;generalize qV st k=lt at *;generalize("abcdefghijk":Str).cps.toList.getD ((i*4+s)%11).toNat 0=ch at *;generalize("abcdefghijk":Str)=S at *;by_cases h0:st%3=0
 .rw[aU h0];have q0:(s%3 == 0)=true:=SR es rfl h0;have e3:((st / 3%3:Nat):Int)=s / 3%3:=e9k es;have e9:((st / 9:Nat):Int)=s / 9:=e9l es;have mq:=kq (mulQ (st / 3%3) (LA hs).1);have lq:=MO (st / 3%3) (LA hs).1;have lz:=lenZ (st / 9) (LA hs).2;rw[e3] at mq lq ⊢;rw[e9] at lz ⊢;have c1:((Txt.mul "q" (s / 3%3)).length+lt.length<=1000000)=True:=kq (S_ lq (by rw[ll];decide))
  have c2:((Txt.mul "q" (s / 3%3)++lt).length+(Txt.slice "zq" none (some (s / 9))).length<=1000000)=True:=kq (by rw[Str.length_append,NV];exact S_ lz (by rw[ll];exact Nat.succ_le_succ lq))
  have cz:(("zq":Str).length<=1000000)=True:=kq (by decide +kernel)
  generalize("zq":Str)=Z at *;generalize("q":Str)=Q at *;have d3:decide (0<(3:Int)/\(3:Int)<1073741824)=true:=by decide
  have d9:decide (0<(9:Int)/\(9:Int)<1073741824)=true:=by decide
  simp only[gk,eM,eR,bM,bN,bO,reduceAdd,reduceSub,fZ,fF,fG,fH,dh,eU,bH,bq,bP,↓ag,bj,bx,bf,br,bG,bC,bF,zM,m1,bc,iG,iI,Int.reduceLT,decide_true,cQ,Gg,c0,ea,↓evMap,el,reduceLT,cD,bQ,dW,cU,nU,bT,oU,and_self,qb,q0,eV,Fy,mq,YR,c1,zy,zK,zL,zO,V1,cz,c2,dU,gG,gq,gr,gy,gn]
 .have q0:(s%3 == 0)=false:=S9 es rfl h0;rw[aY h0];by_cases h1:st%3=1
  .rw[aU h1];have q1:(s%3 == 1)=true:=SR es rfl h1;by_cases h8:k<8
   .rw[aU h8];have L8:i<8:=by rw[k8 ek];exact h8
    have mb:=kq (M6 k hk);rw[<-ek] at mb ⊢;generalize("b":Str)=Q at *;simp only[gk,eM,eR,bM,bN,bO,reduceAdd,reduceSub,fZ,fF,fG,fH,dh,eU,bH,bq,bP,↓ag,bj,bx,bf,br,bG,bC,bF,zM,m1,bc,iG,iI,Int.reduceLT,decide_true,cQ,Gg,c0,ea,↓evMap,el,reduceLT,cD,bQ,dW,cU,nU,bT,oU,and_self,qb,q0,dz,eV,Fy,dU,ck,q1,yp,L8,mb,gG,gq,gr,gy,gn]
   .rw[aY h8];have L8:¬i<8:=by rw[k8 ek];exact h8
    have mb:=kq (mulC k hk);rw[<-ek] at mb ⊢;generalize("c":Str)=Q at *;simp only[gk,eM,eR,bM,bN,bO,reduceAdd,reduceSub,fZ,fF,fG,fH,dh,eU,bH,bq,bP,↓ag,bj,bx,bf,br,bG,bC,bF,zM,m1,bc,iG,iI,Int.reduceLT,decide_true,cQ,Gg,c0,ea,↓evMap,el,reduceLT,cD,bQ,dW,cU,nU,bT,oU,and_self,qb,q0,dz,eV,Fy,dU,ck,q1,yp,L8,decide_false,mb,gG,gq,gr,gy,gn]
  .rw[aY h1];have q1:(s%3 == 1)=false:=S9 es rfl h1;simp only[gk,eM,eR,bM,bN,bO,reduceAdd,reduceSub,fZ,fF,fG,fH,dh,eU,bH,bq,bP,↓ag,bj,bx,bf,br,bG,bC,bF,zM,m1,bc,iG,iI,Int.reduceLT,decide_true,cQ,Gg,c0,ea,↓evMap,el,reduceLT,cD,bQ,dW,cU,nU,bT,oU,and_self,qb,q0,dz,eV,Fy,dU,ck,q1,yp,decide_eq_true_eq,gG,gq,gr,gy,gn]
theorem FI{i j:Int}(h:i.natAbs<=1000000)(h2:j.natAbs<=1000000):kg [.own (.Y (.int i)),.own (.Y (.int j))]=some (i,j):=by
 unfold kg;dsimp only;rw[aU ⟨Nat.ble_eq_true_of_le (by lia),Nat.ble_eq_true_of_le (by lia)⟩]
theorem LB(ge:GE)(F:cA)(g:cF F)(s1 s2 s3:O)(a5:ao O)(outs:List Str)(hl:outs.length<=30)(y:Str)(hE:∀F':cA,ge [some (ba F'),some s1,some s2,some s3,some (.lst (outs.map fS)),a5]=some (.own (fS y),[some (ba F'),some s1,some s2,some s3,some (.lst (outs.map fS)),a5])):
  ∃(F':cA) (tF:List Str),cF F'/\(∀o,o∈tF↔o=y\/o∈outs)/\tF.length=outs.length+1/\sT ge [some (ba F),some s1,some s2,some s3,some (.lst (outs.map fS)),a5]=some (.nx,[some (ba F'),some s1,some s2,some s3,some (.lst (tF.map fS)),a5]):=by
 have hm:(0:Int)<(outs.length:Int)+1:=by lia
 have e1:=xd g (m:=(outs.length:Int)+1) hm (by lia)
 have d0:=uh F hm;have d1:=ui F hm;have ei:=Zk outs (aW F ((outs.length:Int)+1)) y d0 (by lia) (by lia)
 have hF:=hE (aQ F ((outs.length:Int)+1));refine⟨aQ F ((outs.length:Int)+1),pJ outs (aW F ((outs.length:Int)+1)).toNat y,g.draw _,λo=>W2,W0 _ _ _,?_⟩
 have el:((outs.map D.str).length:Int)=(outs.length:Int):=by rw[bK]
 generalize(outs.length:Int)=ol at *;unfold sT;simp only[jJ,lO,bj,bx,bf,↓ag,bq,cO,gP,bH,br,bG,j7,i6,bF,yi,jL,yq,zN,el,↓evMap,bP,bC,iG,bT,kr,bQ,gM,gL,e1,lF,iK,iJ,hF,eS,dX,ei,cD]
structure o9 (names:List Str) (k:Nat) (outs:List Str):Prop where
 sub:∀o∈outs,o∈names.drop (k+1)
 len:outs.length<=20
theorem JZ{names:List Str}{j:Nat}{y:Str}(h:names[j]?=some y)(hk:k<=j):y∈names.drop k:=by
 obtain⟨hj,e⟩:=e_.mp h;have:(names.drop k)[j - k]?=some y:=by rw[List.getElem?_drop,show k+(j - k)=j by lia];exact h
 exact kL this
theorem XJ(names outs:List Str)(lo:Int)(l0:0<=lo):∀(n:Nat),lo+n<=names.length->n<1000->∃(a:ao O) (bs:List Bool),compLoop (bu 0) fL (gB (cj false) (gB bt (aa 2) (aa 0)) (aa 1)) (fU lo n) [none,some (.lst (outs.map fS)),some (.Y (.lst (names.map .str)))] []=some ((bs.map D.bl).map .Y,[a,some (.lst (outs.map fS)),some (.Y (.lst (names.map .str)))])/\bs=(List.range n).map λ(i:Nat)=>outs.contains (names.getD (lo+(i:Int)).toNat ""):=by
 intro n hn HD;obtain⟨ax,⟨a,rfl⟩,e⟩:=zB (g:=bu 0) (ct:=fL) (ce:=gB (cj false) (gB bt (aa 2) (aa 0)) (aa 1)) (λQ0=>∃a,Q0=[a,some (.lst (outs.map fS)),some (.Y (.lst (names.map .str)))]) (λ(i:Nat)=>D.int (lo+(i:Int))) (λ(i:Nat)=>D.bl (outs.contains (names.getD (lo+(i:Int)).toNat ""))) (List.range n) [none,some (.lst (outs.map fS)),some (.Y (.lst (names.map .str)))] ⟨_,rfl⟩ (by rw[oR];lia) (by
  rintro i hi Q0 ⟨a,rfl⟩;rw[nv] at hi;have ea:dq (names.map D.str) (lo+(i:Int))=some (.str (names.getD (lo+(i:Int)).toNat "")):=by
   have:=PN (xs:=names.map D.str) (k:=lo+(i:Int)) (D.str "") (by lia) (by rw[bK];lia)
   rw[this,Ey,Ey,jO];cases names[(lo+(i:Int)).toNat]? <;> rfl
  refine⟨[some (.Y (.int (lo+(i:Int)))),some (.lst (outs.map fS)),some (.Y (.lst (names.map .str)))],?_,_,rfl⟩;generalize lo+(i:Int)=ix at *;simp only[u4,gw,bM,bN,bO,reduceAdd,reduceLT,bQ,bc,↓ag,uy,bH,bq,bj,bx,bf,br,bG,bC,bF,cQ,lP,ea,↓evMap,j7,i6,zW,dz,ck])
 exact⟨a,_,by rw[uj,e,oQ (g:=D.bl)];rfl,rfl⟩
theorem e6s(F:cA)(g:cF F)(names:List Str)(k aV:Nat)(Tx:k<aV)(hm:aV<names.length)(hl:names.length<=12):
  ∃(F':cA) (outs:List Str),cF F'/\o9 names k outs/\outs≠[]/\Ff [ba F,.Y (.lst (names.map .str)),.Y (.int (k:Int)),.Y (.int (aV:Int))]=some (.lst (outs.map fS),[some (ba F'),none,none,none]):=by
 have ga:∀j:Nat,j<names.length->dq (names.map D.str) (j:Int)=some (.str (names.getD j "")):=λj hj=>by
  apply nO;rw[jO,ic hj,Ey,ic hj];rfl
 have gm:∀j:Nat,j<names.length->names[j]?=some (names.getD j ""):=λj hj=>by
  rw[ic hj,Ey,ic hj];rfl
 obtain⟨aH,e1,F1,o1,a5,g1,yW,rfl⟩:=nk (g:=bu 5) (f:=qv) (λ(i:Nat)=>D.int (((k:Int)+1)+(i:Int))) (λpre Q0=>∃(F':cA) (outs:List Str) (a5:ao O),cF F'/\((∀o∈outs,o∈names.drop (k+1))/\outs.length<=pre.length)/\Q0=[some (ba F'),some (.Y (.lst (names.map .str))),some (.Y (.int (k:Int))),some (.Y (.int (aV:Int))),some (.lst (outs.map fS)),a5]) (List.range ((names.length:Int) - ((k:Int)+1)).toNat) []
  [some (ba F),some (.Y (.lst (names.map .str))),some (.Y (.int (k:Int))),some (.Y (.int (aV:Int))),some (.lst []),none] ⟨F,[],none,g,⟨λo m=>(by cases m),cP _⟩,rfl⟩ (by
   rintro q i post Q0 eq ⟨F',outs,a5,gF,⟨sb,ln⟩,rfl⟩;have hi:i<((names.length:Int) - ((k:Int)+1)).toNat:=by
    have:i∈List.range ((names.length:Int) - ((k:Int)+1)).toNat:=by rw[eq];simp
    exact nv.mp this
   have hq:q.length<12:=by
    have:=congrArg List.length eq;simp at this;lia
   have ed:=xd gF (m:=3) (by decide) (by decide)
   rw[gu] at *;have ej:((k:Int)+1)+(i:Int)=((k+1+i:Nat):Int):=by lia
   have ea:=ga (k+1+i) (by lia)
   rw[<-ej] at ea;by_cases hd:aW F' 3=0
   .obtain⟨F2,tH,g2,m2,l2,e2⟩:=LB (gB bt (aa 1) (aa 5)) (aQ F' 3) (gF.draw 3) (.Y (.lst (names.map .str))) (.Y (.int (k:Int))) (.Y (.int (aV:Int))) (some (.Y (.int (((k:Int)+1)+(i:Int))))) outs (by lia) (names.getD (k+1+i) "") (λN9=>by
     generalize((k:Int)+1)+(i:Int)=ix at *;simp only[bH,bq,bj,bx,bf,↓ag,br,bG,bC,bF,cQ,lP,ea,↓evMap])
    refine⟨_,?_,F2,tH,some (.Y (.int (((k:Int)+1)+(i:Int)))),g2,⟨λo ho=>?_,by rw[l2,du,ko];lia⟩,rfl⟩
    .have Az:(aW F' 3 == 0)=true:=by rw[hd];rfl
     unfold qv;generalize((k:Int)+1)+(i:Int)=ix at *;simp only[gw,bM,bN,bO,reduceAdd,reduceLT,cD,bQ,bc,↓ag,dW,cU,bH,bq,gP,bj,bf,bP,br,kr,gM,gL,ed,lF,iK,iJ,bG,bC,bF,nU,bT,oU,and_self,qb,Az,e2,dU]
    .rcases(m2 o).mp ho with z|z
     .rw[z];exact JZ (gm (k+1+i) (by lia)) (by lia)
     .exact sb o z
   .have Az:(aW F' 3 == 0)=false:=by rw[qD];exact hd
    refine⟨_,?_,aQ F' 3,outs,some (.Y (.int (((k:Int)+1)+(i:Int)))),gF.draw 3,⟨sb,by rw[du,ko];lia⟩,rfl⟩
    unfold qv;generalize((k:Int)+1)+(i:Int)=ix at *;simp only[gw,bM,bN,bO,reduceAdd,reduceLT,cD,bQ,bc,↓ag,dW,cU,bH,bq,gP,bj,bf,bP,br,kr,gM,gL,ed,lF,iK,iJ,bG,bC,bF,nU,bT,oU,and_self,qb,Az,dz,dU,ck])
 rw[gu] at yW;obtain⟨HY,ln1⟩:=yW;rw[oR] at ln1;rw[<-uj] at e1;obtain⟨F2,o2,g2,Nk,ln2,e2⟩:∃(F2:cA) (o2:List Str),cF F2/\(∀o∈o2,o∈names.drop (k+1))/\o2.length<=15/\mr [some (ba F1),some (.Y (.lst (names.map .str))),some (.Y (.int (k:Int))),some (.Y (.int (aV:Int))),some (.lst (o1.map fS)),a5]=some (.nx,[some (ba F2),some (.Y (.lst (names.map .str))),some (.Y (.int (k:Int))),some (.Y (.int (aV:Int))),some (.lst (o2.map fS)),a5]):=by
  have ed:=xd g1 (m:=4) (by decide) (by decide)
  by_cases Tw:k+1<aV
  .have sO:((k:Int)+1<(aV:Int)):=by lia
   have ea:=ga (k+1) (by lia)
   rw[show((k+1:Nat):Int)=(k:Int)+1 by lia] at ea
   by_cases hd:0<aW F1 4
   .by_cases hc:o1.contains (names.getD (k+1) "")=true
    .refine⟨aQ F1 4,o1,g1.draw 4,HY,by lia,?_⟩
     unfold mr;generalize(k:Int)=ki at *;generalize(aV:Int)=mi at *;simp only[dW,lN,cU,bH,bq,bj,bx,bf,↓ag,bP,br,bG,bC,bF,iG,iI,sO,decide_true,bc,gP,kr,bQ,gM,gL,ed,lF,iK,iJ,hd,cQ,lP,ea,↓evMap,j7,i6,zW,hc,iE,dz,dU,ck]
    .rw[Ej] at hc;obtain⟨F2,tH,g2,m2,l2,e2⟩:=LB (gB bt (aa 1) (gB bY (aa 2) (gC (.int 1)))) (aQ F1 4) (g1.draw 4) (.Y (.lst (names.map .str))) (.Y (.int (k:Int))) (.Y (.int (aV:Int))) a5 o1 (by lia) (names.getD (k+1) "") (λN9=>by
      generalize(k:Int)=ki at *;simp only[bH,bq,bj,bx,bf,↓ag,bP,br,bG,bC,bF,iG,cQ,lP,ea,↓evMap])
     refine⟨F2,tH,g2,λo ho=>?_,by lia,?_⟩
     .rcases(m2 o).mp ho with z|z
      .rw[z];exact JZ (gm (k+1) (by lia)) (by lia)
      .exact HY o z
     .unfold mr;generalize(k:Int)=ki at *;generalize(aV:Int)=mi at *;simp only[dW,lN,cU,bH,bq,bj,bx,bf,↓ag,bP,br,bG,bC,bF,iG,iI,sO,decide_true,bc,gP,kr,bQ,gM,gL,ed,lF,iK,iJ,hd,cQ,lP,ea,↓evMap,j7,i6,zW,hc,nF,e2,dU]
   .refine⟨aQ F1 4,o1,g1.draw 4,HY,by lia,?_⟩
    unfold mr;generalize(k:Int)=ki at *;generalize(aV:Int)=mi at *;simp only[dW,lN,cU,bH,bq,bj,bx,bf,↓ag,bP,br,bG,bC,bF,iG,iI,sO,decide_true,bc,gP,kr,bQ,gM,gL,ed,lF,iK,iJ,hd,decide_false,dz,cQ,lP,↓evMap,ck,dU]
  .have sO:¬((k:Int)+1<(aV:Int)):=by lia
   refine⟨F1,o1,g1,HY,by lia,?_⟩
   unfold mr;generalize(k:Int)=ki at *;generalize(aV:Int)=mi at *;simp only[dW,lN,cU,bH,bq,bj,bx,bf,↓ag,bP,br,bG,bC,bF,iG,iI,sO,decide_false,bc,dz,gP,kr,bQ,gM,gL,ck,dU]
 obtain⟨F3,o3,g3,HU,ne3,e3⟩:∃(F3:cA) (o3:List Str),cF F3/\o9 names k o3/\o3≠[]/\oz [some (ba F2),some (.Y (.lst (names.map .str))),some (.Y (.int (k:Int))),some (.Y (.int (aV:Int))),some (.lst (o2.map fS)),a5]=some (.nx,[some (ba F3),some (.Y (.lst (names.map .str))),some (.Y (.int (k:Int))),some (.Y (.int (aV:Int))),some (.lst (o3.map fS)),a5]):=by
  have ea:=ga aV (by lia)
  by_cases hc:o2.contains (names.getD aV "")=true
  .refine⟨F2,o2,g2,⟨Nk,by lia⟩,λz=>?_,?_⟩
   .rw[z] at hc;cases hc
   .unfold oz;generalize(k:Int)=ki at *;generalize(aV:Int)=mi at *;simp only[dW,lN,cU,bH,bq,bj,bx,bf,↓ag,br,bG,bC,bF,cQ,lP,ea,↓evMap,j7,i6,zW,hc,iE,bc,dz,lM,jn,oT,JG,bP,iG,ck,dU]
  .rw[Ej] at hc;obtain⟨a,bs,ec,Aw⟩:=XJ names o2 ((k:Int)+1) (by lia) ((aV:Int) - ((k:Int)+1)).toNat (by lia) (by lia)
   have i2:kg [.own (.Y (.int ((k:Int)+1))),.own (.Y (.int (aV:Int)))]=some ((k:Int)+1,(aV:Int)):=FI (by lia) (by lia)
   cases vm:bs.any id with
   |true=>
    refine⟨F2,o2,g2,⟨Nk,by lia⟩,λz=>?_,?_⟩
    .rw[AX] at vm;obtain⟨b,hb,To⟩:=vm;rw[Aw] at hb;obtain⟨i,_,e⟩:=iQ.mp hb;rw[<-e,z] at To;cases To
    .unfold oz;generalize(k:Int)=ki at *;generalize(aV:Int)=mi at *;simp only[dW,lN,cU,bH,bq,bj,bx,bf,↓ag,br,bG,bC,bF,cQ,lP,ea,↓evMap,j7,i6,zW,hc,nF,bc,lM,jn,oT,JG,bP,iG,i2,fZ,fF,u0,cD,bQ,ph,fG,fH,ec,bM,bN,bO,reduceAdd,qC,o6,u3,pj,EZ,vm,jQ,iE,dz,dU,ck]
   |false=>
    obtain⟨F3,DM,g3,m3,l3,e3⟩:=LB (gB bt (aa 1) (aa 3)) F2 g2 (.Y (.lst (names.map .str))) (.Y (.int (k:Int))) (.Y (.int (aV:Int))) a5 o2 (by lia) (names.getD aV "") (λN9=>by
      generalize(aV:Int)=mi at *;simp only[bH,bq,bj,bx,bf,↓ag,br,bG,bC,bF,cQ,lP,ea,↓evMap])
    refine⟨F3,DM,g3,⟨λo ho=>?_,by lia⟩,λz=>?_,?_⟩
    .rcases(m3 o).mp ho with z|z
     .rw[z];exact JZ (gm aV (by lia)) (by lia)
     .exact Nk o z
    .have:=(m3 (names.getD aV "")).mpr (.inl rfl);rw[z] at this;cases this
    .unfold oz;generalize(k:Int)=ki at *;generalize(aV:Int)=mi at *;simp only[dW,lN,cU,bH,bq,bj,bx,bf,↓ag,br,bG,bC,bF,cQ,lP,ea,↓evMap,j7,i6,zW,hc,nF,bc,lM,jn,oT,JG,bP,iG,i2,fZ,fF,u0,cD,bQ,ph,fG,fH,ec,bM,bN,bO,reduceAdd,qC,o6,u3,pj,EZ,vm,jQ,e3,dU]
 refine⟨F3,o3,g3,HU,ne3,?_⟩;have i2:kg [.own (.Y (.int ((k:Int)+1))),.own (.Y (.int (names.length:Int)))]=some ((k:Int)+1,(names.length:Int)):=FI (by lia) (by lia)
 unfold Ff;unfold JV;have Ms:((names.map D.str).length:Int)=(names.length:Int):=by rw[bK]
 generalize(k:Int)=ki at *;generalize(aV:Int)=mi at *;generalize(names.length:Int)=nl at *;simp only[gk,eM,eR,bM,bN,bO,reduceAdd,reduceSub,fZ,fF,fG,fH,dh,eU,eQ,br,↓ag,reduceLeDiff,dX,bc,reduceLT,cD,bQ,Lq,bq,bH,bj,bx,bf,bP,bG,bC,bF,iG,yi,bT,zN,Ms,↓evMap,i2,e1,e2,e3,eV,rZ,gG,gq,gr,r_,gy,gn]
def q8(aS:List Str):List bp->Prop
 |[]=>True
 |b::bs=>(∀o∈b.outs,o∈bs.map bp.name\/o∈aS)/\b.name∉bs.map bp.name/\b.name∉aS/\q8 aS bs
structure Iz (b:bp):Prop where
 lg:1<=b.long/\b.long<=20
 ol:b.outs.length<=20
 on:b.outs≠[]
structure hG (h:aA):Prop where
 bl:0<h.aM.length/\h.aM.length<=6
 ct:0<h.aS.length/\h.aS.length<=3
 bk:∀b∈h.aM,Iz b
 fwd:q8 h.aS h.aM
theorem XM(ds:List D)(n:Nat):cutD ds (some (n:Int)) none=ds.drop n:=by
 unfold cutD;have e:HT.dA ds.length 0 (some (n:Int))=min n ds.length:=by
  unfold HT.dA;simp;lia
 have e2:HT.dA ds.length ds.length none=ds.length:=rfl;rw[e,e2];by_cases h:n<=ds.length
 .rw[Nat.min_eq_left h];exact El (by rw[vW];exact cP _)
 .rw[Nat.min_eq_right (by lia),List.drop_eq_nil_of_le (cP _),List.drop_eq_nil_of_le (by lia),List.take_nil]
theorem e6t(F:cA)(g:cF F)(names:List Str)(aV long k:Nat)(Tx:k<aV)(hm:aV<names.length)(hl:names.length<=12)(l0:4<=long)(l1:long<=14)(bs:List bp)(hb:bs.length<=100)(a3 a4 a8 a9:ao O):
  ∃(F':cA) (b:bp) (b8 b9:ao O),cF F'/\Iz b/\b.name=names.getD k ""/\o9 names k b.outs/\
   qg [some (ba F),some (.Y (.int (aV:Int))),some (.Y (.int (long:Int))),a3,a4,some (.Y (.lst (names.map .str))),some (.lst ((bs.map bB).map .Y)),some (.Y (.int (k:Int))),a8,a9] =
   some (.nx,[some (ba F'),some (.Y (.int (aV:Int))),some (.Y (.int (long:Int))),a3,a4,some (.Y (.lst (names.map .str))),some (.lst (((bs++[b]).map bB).map .Y)),some (.Y (.int (k:Int))),b8,b9]):=by
 have e1:=xd g (m:=3) (by decide) (by decide)
 have ga:dq (names.map D.str) (k:Int)=some (.str (names.getD k "")):=by
  apply nO;rw[jO,ic (by lia),Ey,ic (by lia)]
  rfl
 generalize hr:(aW F 3 == 0)=ring at *;have vo:(if ring=true then(1:Int) else 0)=0\/(if ring=true then(1:Int) else 0)=1:=by cases ring <;> simp
 have Mv:0<(long:Int) - (if ring=true then 1 else 0):=by rcases vo with z|z <;> rw[z] <;> lia
 have hm2:(long:Int) - (if ring=true then 1 else 0)<1073741824:=by rcases vo with z|z <;> rw[z] <;> lia
 have e2:=xd (g.draw 3) Mv hm2;have d0:=uh (aQ F 3) Mv;have d1:=ui (aQ F 3) Mv;obtain⟨F3,outs,g3,HU,ne3,e3⟩:=e6s (aQ (aQ F 3) ((long:Int) - (if ring=true then 1 else 0))) ((g.draw 3).draw _) names k aV Tx hm hl
 refine⟨F3,⟨names.getD k "",1+(if ring=true then 1 else 0)+aW (aQ F 3) ((long:Int) - (if ring=true then 1 else 0)),ring,outs⟩,some (.Y (.bl ring)),some (.Y (.int (1+(if ring=true then 1 else 0)+aW (aQ F 3) ((long:Int) - (if ring=true then 1 else 0))))),g3,⟨⟨?_,?_⟩,HU.len,ne3⟩,rfl,HU,?_⟩
 .dsimp only;rcases vo with z|z <;> rw[z] at d0 d1 ⊢ <;> lia
 .dsimp only;rcases vo with z|z <;> rw[z] at d0 d1 ⊢ <;> lia
 .have hla:((bs.map bB).length<1000000)=True:=kq (by rw[bK];lia)
  rw[iF (f:=bB),show[(⟨names.getD k "",1+(if ring=true then 1 else 0)+aW (aQ F 3) ((long:Int) - (if ring=true then 1 else 0)),ring,outs⟩:bp)].map bB=[.tup [.str (names.getD k ""),.int (1+(if ring=true then 1 else 0)+aW (aQ F 3) ((long:Int) - (if ring=true then 1 else 0))),.bl ring,.lst (outs.map .str)]] from rfl]
  unfold qg;generalize hrb:(if ring=true then(1:Int) else 0)=rb at *
  generalize(aV:Int)=mi at *;generalize(long:Int)=li at *;generalize(k:Int)=ki at *;simp only[dh,eU,bH,bq,gP,bj,bf,↓ag,bP,br,kr,bQ,gM,gL,e1,lF,iK,iJ,bG,bC,bF,nU,bT,oU,and_self,qb,hr,bc,bM,bN,bO,reduceAdd,reduceLT,cD,cO,bx,e5s,hrb,iG,iI,e2,jJ,lO,eQ,cQ,lP,ga,↓evMap,e3,jL,yq,reduceLeDiff,eS,dX,h_,fq,fm,oX,hla]
theorem Pm(names:List Str)(nd:names.Nodup)(aV:Nat)(hm:aV<=names.length):∀(bs:List bp) (j:Nat),j+bs.length=aV->(∀i b,bs[i]?=some b->b.name=names.getD (j+i) ""/\∀o∈b.outs,o∈names.drop (j+i+1))->bs.map bp.name=(names.drop j).take bs.length/\q8 (names.drop aV) bs
 |[],j,hj,_=>⟨rfl,ig⟩
 |b::bs,j,hj,h=>by
  rw[iZ] at hj;have h0:=h 0 b rfl;rw[Ew] at h0;obtain⟨i1,i2⟩:=Pm names nd aV hm bs (j+1) (by lia) λi c e=>by
   have:=h (i+1) c (by rw[Io];exact e)
   rw[show j+(i+1)=j+1+i by lia] at this
   exact this
  have Mp:j<names.length:=by lia
  have ed:names.drop j=names.getD j ""::names.drop (j+1):=by
   rw[Em Mp,Ey,ic Mp];rfl
  have sk:names.drop (j+1)=bs.map bp.name++names.drop aV:=by
   rw[i1];have:=vZ bs.length (names.drop (j+1));rw[List.drop_drop,show j+1+bs.length=aV by lia] at this
   exact this.symm
  have xh:(names.getD j ""::names.drop (j+1)).Nodup:=by rw[<-ed];exact nd.sublist (List.drop_sublist _ _)
  have nn:=(ib.mp xh).1;rw[sk] at nn;refine⟨by rw[dD,h0.1,i1,ed];rfl,⟨λo ho=>?_,λz=>nn (g_ _ (by rw[<-h0.1];exact z)),λz=>nn (gE _ (by rw[<-h0.1];exact z)),i2⟩⟩
  have:=h0.2 o ho;rw[sk] at this;exact eD.mp this
theorem WA(sv ix:Int)(z:Str)(a:ao O)(xn:we [.Y (.int sv),.Y (.int ix)]=some (.Y (.str z),[none,none])):rW (bu 0) fL (mM we (aj (aa 1) (aj (aa 0) gN))) (.int ix) [a,some (.Y (.int sv))]=some (some (.own (.Y (.str z))),[some (.Y (.int ix)),some (.Y (.int sv))]):=by
 simp only[u4,gw,bM,bN,bO,reduceAdd,reduceLT,bQ,bc,↓ag,uy,rh,bq,bj,bx,bf,br,bG,bC,bF,fq,bT,fm,eM,eR,xn,YS]
theorem Zn(sv:Int)(st n:Nat)(rJ:sv=st)(hs:st<27)(hn:n<=9):∃a,compLoop (bu 0) fL (mM we (aj (aa 1) (aj (aa 0) gN))) ((List.range n).map λ(i:Nat)=>D.int (0+(i:Int))) [none,some (.Y (.int sv))] []=some (((List.range n).map λi=>D.str (nm st i)).map .Y,[a,some (.Y (.int sv))]):=by
 obtain⟨Q0n,⟨an,rfl⟩,en⟩:=zB (g:=bu 0) (ct:=fL) (ce:=mM we (aj (aa 1) (aj (aa 0) gN))) (λQ0=>∃a,Q0=[a,some (.Y (.int sv))]) (λ(i:Nat)=>D.int (0+(i:Int))) (λi=>.str (nm st i)) (List.range n) [none,some (.Y (.int sv))] ⟨_,rfl⟩ (by rw[oR];lia) (by
  rintro i hi Q0 ⟨a,rfl⟩;rw[nv] at hi;exact⟨_,WA sv (0+(i:Int)) (nm st i) a (Zm sv (0+(i:Int)) st i rJ (by lia) hs (by lia)),_,rfl⟩)
 exact⟨an,en⟩
theorem e6u(F:cA)(g:cF F)(aV long:Nat)(m0:1<=aV)(m1:aV<=6)(l0:4<=long)(l1:long<=14)(a3:ao O):
  ∃(F':cA) (h:aA) (b1 b2 b3 b4 b5 b6 b7 b8 b9:ao O),cF F'/\hG h/\oC [some (ba F),some (.Y (.int (aV:Int))),some (.Y (.int (long:Int))),a3,none,none,none,none,none,none] =
   some (.rt (.tup [.lst (h.aM.map fB),.Y (.lst (h.aS.map .str))]),[some (ba F'),b1,b2,b3,b4,b5,b6,b7,b8,b9]):=by
 have e1:=xd g (m:=27) (by decide) (by decide)
 have s0:=uh F (m:=27) (by decide)
 have s1:=ui F (m:=27) (by decide)
 have e2:=xd (g.draw 27) (m:=3) (by decide) (by decide)
 have n0:=uh (aQ F 27) (m:=3) (by decide)
 have n1:=ui (aQ F 27) (m:=3) (by decide)
 obtain⟨st,rJ,hs⟩:=KC (n:=27) s0 s1;obtain⟨nx,hnx,hx⟩:=KC (n:=3) n0 n1;have i1:jg [.own (.Y (.int ((aV:Int)+1+aW (aQ F 27) 3)))]=some ((aV:Int)+1+aW (aQ F 27) 3):=zF (by lia)
 have hN:((aV:Int)+1+aW (aQ F 27) 3).toNat=aV+1+nx:=by lia
 obtain⟨an,en⟩:=Zn (aW F 27) st (aV+1+nx) rJ hs (by lia)
 rw[<-uj,<-hN] at en;obtain⟨names,pG⟩:∃names:List Str,names=(List.range (aV+1+nx)).map (nm st):=⟨_,rfl⟩;have enm:((List.range ((aV:Int)+1+aW (aQ F 27) 3).toNat).map λi=>D.str (nm st i))=names.map D.str:=by rw[pG,hN,oQ];rfl
 rw[enm] at en;have hnl:names.length=aV+1+nx:=by rw[pG,bK,oR]
 have nd:names.Nodup:=by
  rw[pG];unfold List.Nodup;rw[NX];refine List.Pairwise.imp_of_mem ?_ (List.nodup_range (n:=aV+1+nx));intro i j hi hj Mn e;rw[nv] at hi hj;exact Mn (e6p st hs i (by lia) j (by lia) e)
 obtain⟨ax,eL,F',bs,a7,a8,a9,L5,hlen,Aw,rfl⟩:=nk (g:=bu 7) (f:=qg) (λ(i:Nat)=>D.int (0+(i:Int))) (λpre Q0=>∃(F':cA) (bs:List bp) (a7 a8 a9:ao O),cF F'/\bs.length=pre.length/\(∀i b,bs[i]?=some b->Iz b/\b.name=names.getD (0+i) ""/\∀o∈b.outs,o∈names.drop (0+i+1))/\ Q0=[some (ba F'),some (.Y (.int (aV:Int))),some (.Y (.int (long:Int))),a3,some (.Y (.int (aW F 27))),some (.Y (.lst (names.map .str))),some (.lst ((bs.map bB).map .Y)),a7,a8,a9]) (List.range aV) []
  [some (ba (aQ (aQ F 27) 3)),some (.Y (.int (aV:Int))),some (.Y (.int (long:Int))),a3,some (.Y (.int (aW F 27))),some (.Y (.lst (names.map .str))),some (.lst []),none,none,none] ⟨_,[],none,none,none,(g.draw 27).draw 3,rfl,λi b e=>(by simp at e),rfl⟩ (by
   rintro q k post Q0 eq ⟨F',bs,a7,a8,a9,gF,Ms,Aw,rfl⟩;rw[gu] at *;have hq:q.length=k/\k<aV:=by
    have e0:=congrArg (λl=>l[q.length]?) eq
    have hlen:=congrArg List.length eq;simp at hlen;simp at e0;rw[NQ (by lia)] at e0
    exact⟨Option.some.inj e0,by have:=Option.some.inj e0;lia⟩
   obtain⟨F2,b,b8,b9,g2,bo,bn,oo,e⟩:=e6t F' gF names aV long k hq.2 (by lia) (by lia) l0 l1 bs (by lia) a3 (some (.Y (.int (aW F 27)))) a8 a9
   rw[show(k:Int)=0+(k:Int) by lia] at e
   refine⟨_,e,F2,bs++[b],_,b8,b9,g2,by rw[du,du,Ms,ko,ko],λi c ec=>?_,rfl⟩
   by_cases hi:i<bs.length
   .rw[xB hi] at ec;exact Aw i c ec
   .rw[zi (by lia)] at ec
    have hi0:i - bs.length=0:=by
     have:=(e_.mp ec).1;simp at this;lia
    rw[hi0] at ec;cases ec;have:0+i=k:=by lia
    rw[this];exact⟨bo,bn,oo.sub⟩)
 rw[gu,oR] at hlen;rw[<-uj] at eL;obtain⟨f1,f2⟩:=Pm names nd aV (by lia) bs 0 (by lia) λi b e=>(Aw i b e).2
 refine⟨F',⟨bs,names.drop aV⟩,some (.Y (.int (aV:Int))),some (.Y (.int (long:Int))),a3,some (.Y (.int (aW F 27))),some (.Y (.lst (names.map .str))),none,a7,a8,a9,L5,⟨⟨by show 0<bs.length;lia,by show bs.length<=6;lia⟩,⟨?_,?_⟩,λb hb=>?_,f2⟩,?_⟩
 .show 0<(names.drop aV).length;rw[vW];lia
 .show(names.drop aV).length<=3;rw[vW];lia
 .obtain⟨i,hi,e⟩:=List.mem_iff_getElem.mp hb;exact(Aw i b (by rw[<-e];exact ic hi)).1
 .have im:jg [.own (.Y (.int (aV:Int)))]=some (aV:Int):=zF (by lia)
  have mt:(aV:Int).toNat=aV:=by lia
  have ct:=XM (names.map D.str) aV;have ec:(names.drop aV).map D.str=(names.map D.str).drop aV:=NY ..;have eb:(bs.map bB).map O.Y=bs.map fB:=by rw[oQ];rfl
  unfold oC xg;dsimp only;rw[ec];rw[eb] at eL;generalize(aV:Int)=mi at *;generalize(long:Int)=li at *;simp only[dh,eU,cO,gP,bq,bj,bf,↓ag,bP,br,kr,bQ,gM,gL,e1,lF,iK,iJ,bT,bM,bN,bO,reduceAdd,reduceLT,cD,bc,oT,PZ,bH,bx,bG,bC,bF,iG,e2,i1,↓evMap,fZ,fF,u0,i6,ph,fG,fH,en,qC,o6,u3,pj,jL,r9,eQ,reduceLeDiff,dX,GY,im,mt,eL,eV,rZ,zy,zL,zO,zK,V0,ct,eS]
theorem Zo(F:cA)(g:cF F):∃(F':cA) (h:aA),cF F'/\hG h/\zv [ba F]=some (.tup [.lst (h.aM.map fB),.Y (.lst (h.aS.map .str))],[some (ba F')]):=by
 have e1:=xd g (m:=4) (by decide) (by decide)
 have d0:=uh F (m:=4) (by decide)
 have d1:=ui F (m:=4) (by decide)
 have e2:=xd (g.draw 4) (m:=8) (by decide) (by decide)
 obtain⟨mn,hmn,HC⟩:=KC (n:=4) d0 d1;have e4:(4:Int)=((4:Nat):Int):=rfl;have main:∃(aV long:Nat) ,1<=aV/\aV<=6/\4<=long/\long<=14/\∀r,aT AE (aT AF r) [some (ba (aQ (aQ F 4) 8)),some (.Y (.int (1+aW F 4))),some (.Y (.int 4)),some (.Y (.int (aW (aQ F 4) 8))),none,none,none,none,none,none]=r [some (ba (aQ (aQ F 4) 8)),some (.Y (.int (aV:Int))),some (.Y (.int (long:Int))),some (.Y (.int (aW (aQ F 4) 8))),none,none,none,none,none,none]:=by
  by_cases h5:aW (aQ F 4) 8=5
  .refine⟨6,5,by lia,by lia,by lia,by lia,λr=>?_⟩
   have q5:(aW (aQ F 4) 8 == 5)=true:=by rw[h5];rfl
   have q6:(aW (aQ F 4) 8 == 6)=false:=by rw[h5];rfl
   have z6:((6:Nat):Int)=6:=rfl;have z5:((5:Nat):Int)=5:=rfl;rw[z6,z5];unfold AE AF;simp only[dh,dW,cU,bH,bq,bj,bx,bf,↓ag,bP,br,bG,bC,bF,nU,bT,oU,and_self,qb,q5,bc,eU,bM,bN,bO,reduceAdd,reduceLT,cD,bQ,dU,q6,dz,cO,iI,Int.reduceLT,decide_true,iG,ck]
  .have q5:(aW (aQ F 4) 8 == 5)=false:=by rw[qD];exact h5
   by_cases h6:aW (aQ F 4) 8=6
   .refine⟨1+(1+mn) / 3,14,by lia,by lia,by lia,by lia,λr=>?_⟩
    have q6:(aW (aQ F 4) 8 == 6)=true:=by rw[h6];rfl
    have z6:((1+(1+mn) / 3:Nat):Int)=1+(1+aW F 4) / 3:=by lia
    have z5:((14:Nat):Int)=14:=rfl;have d3:decide (0<(3:Int)/\(3:Int)<1073741824)=true:=by decide
    rw[z6,z5];unfold AE AF;simp only[dh,dW,cU,bH,bq,bj,bx,bf,↓ag,bP,br,bG,bC,bF,nU,bT,oU,and_self,qb,q5,bc,dz,eU,bM,bN,bO,reduceAdd,reduceLT,cD,bQ,dU,ck,q6,cO,iI,Int.reduceLT,decide_true,iG]
   .have q6:(aW (aQ F 4) 8 == 6)=false:=by rw[qD];exact h6
    refine⟨1+mn,4,by lia,by lia,by lia,by lia,λr=>?_⟩
    have z6:((1+mn:Nat):Int)=1+aW F 4:=by lia
    rw[z6,<-e4];unfold AE AF;simp only[dh,dW,cU,bH,bq,bj,bx,bf,↓ag,bP,br,bG,bC,bF,nU,bT,oU,and_self,qb,q5,bc,dz,eU,bM,bN,bO,reduceAdd,reduceLT,cD,bQ,dU,ck,q6,cO,iI,Int.reduceLT,decide_true,iG]
 obtain⟨aV,long,m0,m1,l0,l1,em⟩:=main;obtain⟨F',h,b1,b2,b3,b4,b5,b6,b7,b8,b9,L5,ok,er⟩:=e6u (aQ (aQ F 4) 8) ((g.draw 4).draw 8) aV long m0 m1 l0 l1 (some (.Y (.int (aW (aQ F 4) 8))));have S4:=em oC;rw[er] at S4;refine⟨F',h,L5,ok,?_⟩;unfold zv;unfold Jq;generalize aT AE (aT AF oC)=rest at *;simp only[gk,eM,eR,bM,bN,bO,reduceSub,fZ,fF,fG,fH,dh,eU,cO,bH,bq,bP,↓ag,gP,bj,bf,br,kr,bQ,gM,gL,e1,lF,iK,iJ,bG,bC,bF,iG,bT,reduceAdd,reduceLT,cD,bc,e2,S4,gG,gq,gr,r_,gn]
def findB(bs:List bp)(n:Str):ao bp:=bs.find? λb=>b.name == n
theorem Qh{aS:List Str}:∀{bs:List bp},q8 aS bs->∀x∈bs,∀y∈bs,x.name=y.name->x=y
 |z::bs,f,x,hx,y,hy,e=>by
  rcases eO.mp hx with uK|uK
  .rcases eO.mp hy with uL|uL
   .rw[uK,uL]
   .exact bZ (NZ (f:=bp.name) uL) (by rw[<-e,uK];exact f.2.1)
  .rcases eO.mp hy with uL|uL
   .exact bZ (NZ (f:=bp.name) uK) (by rw[e,uL];exact f.2.1)
   .exact Qh f.2.2.2 x uK y uL e
theorem Jt{aS:List Str}:∀{bs:List bp},q8 aS bs->∀c∈aS,c∉bs.map bp.name
 |[],_,c,_,h=>by cases h
 |b::bs,f,c,hc,h=>by
  rcases eO.mp h with z|z
  .exact f.2.2.1 (by rw[<-z];exact hc)
  .exact Jt f.2.2.2 c hc z
theorem I_{aS:List Str}:∀{bs:List bp},q8 aS bs->∀b∈bs,findB bs b.name=some b
 |x::bs,f,b,hb=>by
  rcases eO.mp hb with rfl|hb
  .unfold findB;rw[ub,oS]
  .have:(x.name == b.name)=false:=by
    rw[qD];exact λe=>f.2.1 (by rw[e];exact NZ (f:=bp.name) hb)
   unfold findB;rw[ub,this];exact I_ f.2.2.2 b hb
theorem CG(x:Str):cI [.Y (.str x),.Y (.ty "str")]=some (.Y (.bl true)):=by unfold cI;simp[jA,jV,O.d]
theorem CK(ds:List D):cI [.Y (.tup ds),.Y (.ty "tuple")]=some (.Y (.bl true)):=by unfold cI;simp[jA,jV,O.d]
theorem e6v(x:Int):cI [.Y (.int x),.Y (.ty "bool")]=some (.Y (.bl false)):=by unfold cI;simp[jA,jV,O.d]
theorem R7(ds:List D):cI [.Y (.tup ds),.Y (.ty "str")]=some (.Y (.bl false)):=by unfold cI;simp[jA,jV,O.d]
theorem e6w(n:Nat)(h:n<=1000):jg [.own (.Y (.int (n:Int)))]=some (n:Int):=zF (by lia)
theorem NK(h:aA):dN (.Y (cq h)) (.int 0)=some (.Y (.lst (h.aM.map bB))):=by unfold cq;simp only[jK,lA,Eo]
theorem Ii(h:aA):dN (.Y (cq h)) (.int 1)=some (.Y (.lst (h.aS.map .str))):=by unfold cq;simp only[jK,mJ,Eo]
theorem NJ(b:bp):dN (.Y (bB b)) (.int 1)=some (.Y (.int b.long)):=by unfold bB;simp only[jK,mJ,Eo]
theorem Uo(b:bp):dN (.Y (bB b)) (.int 2)=some (.Y (.bl b.ring)):=by unfold bB;simp only[jK,JI,Eo]
theorem Up(b:bp):dN (.Y (bB b)) (.int 3)=some (.Y (.lst (b.outs.map .str))):=by unfold bB;simp only[jK,zA,Eo]
theorem XN(b:bp):cJ 3 (bB b)=true:=by
 unfold bB;show([D.str b.name,.int b.long,.bl b.ring,.lst (b.outs.map .str)]:List D).all (cJ 2)=true;simp only[t_,Ez,p7,oU,YT,Er,En];exact FH 1 b.outs
theorem J0:∀(n:Nat) (d:D),cJ n d=true->cJ (n+1) d=true
 |0,d,h=>by cases d <;> first|(cases h;done)|rfl
 |n+1,d,h=>by
  cases d with
  |lst xs=>exact jH.mpr λx m=>J0 n x (jH.mp h x m)
  |tup xs=>exact jH.mpr λx m=>J0 n x (jH.mp h x m)
  |aL _=>cases h
  |eY _=>cases h
  |ty _=>cases h
  |exc _ _=>cases h
  |_=>rfl
theorem R8{n:Nat}{d:D}(h:cJ n d=true):∀k,cJ (n+k) d=true
 |0=>h
 |k+1=>J0 _ _ (R8 h k)
noncomputable def xy(b:bp):List O:=[.Y (.str b.name),.Y (.int b.long),.Y (.bl b.ring),.Y (.lst (b.outs.map .str))]
abbrev kb(b:bp):O:=.tup (xy b)
theorem Ju(xs:List Str):iX [.Y (.lst (xs.map .str))]=some (.lst (xs.map fS)):=by
 rw[K6];rfl
theorem Rc(n:Str)(hd:D):∀(bs:List bp) (a:ao O),∃ax,gj (bu 2) (cf (gT (gB oEq (gB bt (aa 2) (gC (.int 0))) (aa 1))) (aP (bg .tup (aj (gB bt (aa 2) (gC (.int 0))) (aj (gB bt (aa 2) (gC (.int 1))) (aj (gB bt (aa 2) (gC (.int 2))) (aj (ay (gO iX (aj (gB bt (aa 2) (gC (.int 3))) gN))) gN)))))) bw) (bs.map bB) [some (.Y hd),some (fS n),a]=some (match findB bs n with|some b=>.rt (kb b)|none=>.nx,[some (.Y hd),some (fS n),ax])
 |[],a=>⟨a,rfl⟩
 |b::bs,a=>by
  cases hc:b.name == n with
  |true=>
   have e:findB (b::bs) n=some b:=by unfold findB;rw[ub,hc]
   refine⟨some (fB b),?_⟩;rw[e];simp only[eM,bB,BN,gw,bM,bN,bO,reduceAdd,reduceLT,cD,bQ,bc,↓ag,dW,cU,bH,bq,bj,bx,bf,bP,br,bG,bC,bF,cQ,jK,lA,↓evMap,nU,bT,p7,and_self,Ck,hc,eV,eQ,mJ,JI,cO,zA,Ju,jL,yq,reduceLeDiff,eS,dX,dU];rfl
  |false=>
   have e:findB (b::bs) n=findB bs n:=by unfold findB;rw[ub,hc]
   obtain⟨g',e'⟩:=Rc n hd bs (some (fB b));refine⟨g',?_⟩;rw[e,<-e'];unfold bB at *;simp only[eM,BN,gw,bM,bN,bO,reduceAdd,reduceLT,cD,bQ,bc,↓ag,dW,cU,bH,bq,bj,bx,bf,bP,br,bG,bC,bF,cQ,jK,lA,↓evMap,nU,bT,p7,and_self,Ck,hc,dz,eV,eQ,mJ,JI,cO,zA,dU,ck];rfl
theorem NI(h:aA)(n:Str):BF [.Y (cq h),fS n]=some (match findB h.aM n with|some b=>kb b|none=>.Y .bL,[none,none]):=by
 obtain⟨g',e⟩:=Rc n (cq h) h.aM none;unfold BF Jj;unfold cq at *;cases q:findB h.aM n with
 |none=>
  rw[q] at e;simp only[gk,eM,eR,bM,bN,bO,reduceAdd,reduceSub,fZ,fF,fG,fH,dh,oW,cO,bH,bq,bj,bf,↓ag,bP,br,bG,bC,bF,cQ,jK,lA,↓evMap,bT,e,eV,gG,gq,gr,gy,gn,bc]
 |some b=>
  rw[q] at e;simp only[gk,eM,eR,bM,bN,bO,reduceAdd,reduceSub,fZ,fF,fG,fH,dh,oW,cO,bH,bq,bj,bf,↓ag,bP,br,bG,bC,bF,cQ,jK,lA,↓evMap,bT,e,gG,gq,gr,gy,gn,bc]
theorem e6x(b:bp):(kb b).d=bB b:=by unfold kb xy bB;simp only[fq,fm,bT,jL,h_,yq]
theorem e9m(h:aA)(b:bp)(f:q8 h.aS h.aM)(hb:b∈h.aM):BF [.Y (cq h),fS b.name]=some (kb b,[none,none]):=by
 have e:=NI h b.name;rw[I_ f b hb] at e;exact e
noncomputable def og(h:aA)(o:Str):D:=if h.aS.contains o=true then .str o else .tup [.str o,.int 0]
def qu(h:aA)(b:bp):List D:=b.outs.map (og h)++if b.ring=true then[.tup [.str b.name,.int 0]] else[]
def zX(h:aA)(b:bp)(c:Int):List D:=if c+1<b.long then[.tup [.str b.name,.int (c+1)]] else qu h b
theorem Zp(h:aA)(b:bp)(c:Int)(f:q8 h.aS h.aM)(hb:b∈h.aM)(ol:b.outs.length<=24):FF [.Y (cq h),.Y (.tup [.str b.name,.int c])]=some (.lst ((zX h b c).map .Y),[none,none]):=by
 have e1:=e9m h b f hb;have td:=e6x b;unfold FF Kn zX;by_cases hc:c+1<b.long
 .rw[aU hc];generalize kb b=tb at *;simp only[gk,eM,eR,bM,bN,bO,reduceAdd,reduceSub,fZ,fF,fG,fH,dh,eU,cO,gP,bq,bj,bf,↓ag,bH,bx,bP,br,bG,bC,bF,cQ,jK,lA,↓evMap,gM,gL,e1,iK,iJ,td,reduceLT,cD,bQ,bc,dW,cU,mJ,iG,NJ,iI,hc,decide_true,eV,eQ,bT,reduceLeDiff,eS,dX,h_,fq,fm,dU,gG,gq,gr,gy,gn]
 .rw[aY hc];obtain⟨ax,⟨a,rfl⟩,e2⟩:=zB (g:=bu 0) (ct:=fL) (ce:=ay (As (gT (gB (cj false) (aa 0) (gB bt (aa 1) (gC (.int 1))))) (aa 0) (bg .tup (aj (aa 0) (aj (gC (.int 0)) gN))))) (λQ0=>∃a,Q0=[a,some (.Y (cq h))]) D.str (og h) b.outs [none,some (.Y (cq h))] ⟨_,rfl⟩ (by lia) (by
   rintro x hx Q0 ⟨a,rfl⟩;refine⟨[some (fS x),some (.Y (cq h))],?_,_,rfl⟩;unfold og;by_cases hx:h.aS.contains x=true
   .rw[aU hx];simp only[u4,gw,bM,bN,bO,reduceAdd,reduceLT,bQ,bc,↓ag,uy,cO,yp,cU,bH,bq,bj,bf,bx,bP,br,bG,bC,bF,cQ,Ii,Gq,dz,hx,ck,eQ,reduceLeDiff,eS,dX,bT]
   .rw[aY hx];rw[Ej] at hx;simp only[u4,gw,bM,bN,bO,reduceAdd,reduceLT,bQ,bc,↓ag,uy,cO,yp,cU,bH,bq,bj,bf,bx,bP,br,bG,bC,bF,cQ,Ii,Gq,dz,hx,ck,eQ,reduceLeDiff,eS,dX,h_,fq,bT,fm])
  unfold qu;by_cases hr:b.ring=true
  .rw[aU hr];have l1:((b.outs.map (og h)).length<1000000)=True:=kq (by rw[bK];lia)
   generalize kb b=tb at *;simp only[gk,eM,eR,bM,bN,bO,reduceAdd,reduceSub,fZ,fF,fG,fH,dh,eU,cO,gP,bq,bj,bf,↓ag,bH,bx,bP,br,bG,bC,bF,cQ,jK,lA,↓evMap,gM,gL,e1,iK,iJ,td,reduceLT,cD,bQ,bc,dW,cU,mJ,iG,NJ,iI,hc,decide_false,dz,eV,eQ,bT,reduceLeDiff,eS,dX,h_,fq,fm,dU,ck,oT,wq,Up,u0,i6,ph,e2,qC,o6,u3,pj,jn,Uo,hr,jQ,jJ,lO,oX,l1,rZ,gG,gq,gr,gy,gn]
  .rw[aY hr,jq];rw[Ej] at hr;generalize kb b=tb at *;simp only[gk,eM,eR,bM,bN,bO,reduceAdd,reduceSub,fZ,fF,fG,fH,dh,eU,cO,gP,bq,bj,bf,↓ag,bH,bx,bP,br,bG,bC,bF,cQ,jK,lA,↓evMap,gM,gL,e1,iK,iJ,td,reduceLT,cD,bQ,bc,dW,cU,mJ,iG,NJ,iI,hc,decide_false,dz,eV,eQ,bT,reduceLeDiff,eS,dX,h_,fq,fm,dU,ck,oT,wq,Up,u0,i6,ph,e2,qC,o6,u3,pj,jn,Uo,hr,jQ,jJ,lO,oX,rZ,gG,gq,gr,gy,gn]
theorem J3{aS:List Str}:∀{bs:List bp},q8 aS bs->∀b∈bs,∀o∈b.outs,o∈bs.map bp.name\/o∈aS
 |x::bs,f,b,hb,o,ho=>by
  rcases eO.mp hb with rfl|hb
  .rcases f.1 o ho with z|z
   .exact .inl (.tail _ z)
   .exact .inr z
  .rcases J3 f.2.2.2 b hb o ho with z|z
   .exact .inl (.tail _ z)
   .exact .inr z
noncomputable def aX:Str ⊕ (Str×Int)->D
 |.inl x=>.str x
 |.inr (x,i)=>.tup [.str x,.int i]
noncomputable def jD(h:aA)(b:bp)(c:Int):List (Str ⊕ (Str×Int)):=if c+1<b.long then[.inr (b.name,c+1)] else(b.outs.map λo=>if h.aS.contains o=true then .inl o else .inr (o,0))++if b.ring=true then[.inr (b.name,0)] else[]
theorem Qi(h:aA)(b:bp)(c:Int):(jD h b c).map aX=zX h b c:=by
 unfold jD zX qu;split
 .rfl
 .rw[iF,oQ]
  congr 1
  .apply Ir;intro o _;show aX (if _ then _ else _)=og h o
   unfold og;split <;> rfl
  .split <;> rfl
abbrev Sp:=Str ⊕ (Str×Int)
theorem e9n(x y:Str)(i j:Int):bh (.tup [.str x,.int i]) (.tup [.str y,.int j])=(x == y&&i == j):=by
 unfold bh fT;rw[Ck];unfold fT;rw[qb];unfold fT;rw[En]
theorem LC(a b:Sp):bh (aX a) (aX b)=decide (a=b):=by
 cases a with
 |inl x=>
  cases b with
  |inl y=>
   show bh (.str x) (.str y)=_;rw[Ck];by_cases h:x=y
   .rw[h,oS,ie rfl]
   .rw[show(x == y)=false by rw[qD];exact h,i7 (λz=>h (Sum.inl.inj z))]
  |inr q=>show bh (.str x) (.tup _)=_;unfold bh;rw[i7 (λz=>by cases z)]
 |inr p=>
  cases b with
  |inl y=>show bh (.tup _) (.str y)=_;unfold bh;rw[i7 (λz=>by cases z)]
  |inr q=>
   obtain⟨x,i⟩:=p;obtain⟨y,j⟩:=q;show bh (.tup [.str x,.int i]) (.tup [.str y,.int j])=_;rw[e9n];by_cases h1:x=y
   .by_cases h2:i=j
    .rw[h1,h2,oS,oS,ie rfl];rfl
    .rw[show(i == j)=false by rw[qD];exact h2,AZ,i7 (λz=>h2 (by cases z;rfl))]
   .rw[show(x == y)=false by rw[qD];exact h1,Ei,i7 (λz=>h1 (by cases z;rfl))]
theorem e9o(n:Nat)(x:Str)(i:Int):cJ (n+1) (.tup [.str x,.int i])=true:=by
 show([D.str x,.int i]:List D).all (cJ n)=true;simp only[t_,Ez,p7,oU,Er]
theorem yr(n:Nat)(a:Sp):cJ (n+1) (aX a)=true:=by
 cases a with
 |inl x=>exact p7 _ x
 |inr p=>obtain⟨x,i⟩:=p;exact e9o n x i
theorem K7(n:Nat)(as:List Sp):(as.map aX).all (cJ (n+1))=true:=by
 rw[jH];intro d hd;obtain⟨a,_,rfl⟩:=iQ.mp hd;exact yr n a
theorem LD(a b:Sp):eX [.Y (aX a),.Y (aX b)]=some (.Y (.bl (!decide (a=b)))):=by
 rw[KO,bT,bT,aU ⟨yr 39 a,yr 39 b⟩,LC]
noncomputable def dR(x:Sp)(as:List Sp):Bool:=as.any λa=>decide (a=x)
theorem iB{x:Sp}{as:List Sp}:dR x as=true↔x∈as:=by
 unfold dR;rw[AX];constructor
 .rintro⟨a,ha,e⟩;rw[N6] at e;rw[<-e];exact ha
 .exact λh=>⟨x,h,ie rfl⟩
theorem R9(x:Sp)(as:List Sp):((as.map aX).any λz=>bh z (aX x))=dR x as:=by
 unfold dR;rw[List.any_map]
 congr 1
 funext a;exact LC a x
theorem K8(neg:Bool)(x:Sp)(as:List Sp):cj neg [.Y (aX x),.lst ((as.map aX).map .Y)]=some (.Y (.bl (if neg then !dR x as else dR x as))):=by
 have hd:jw (.lst ((as.map aX).map .Y))=none:=rfl;have key:((oF (O.lst ((as.map aX).map O.Y)).d).bind λds=>if cJ 40 (O.Y (aX x)).d=true/\ds.all (cJ 40)=true then some (O.Y (.bl (if neg then !ds.any λz=>bh z (O.Y (aX x)).d else ds.any λz=>bh z (O.Y (aX x)).d))) else none)=some (.Y (.bl (if neg then !dR x as else dR x as))):=by
  rw[jL,pq,bT];show(Option.bind (some (as.map aX)) _)=_;rw[Option.bind_some,aU ⟨yr 39 x,K7 39 as⟩,R9]
 cases x with
 |inl y=>exact key
 |inr p=>exact key
theorem Kq(a:Sp):cI [.Y (aX a),.Y (.ty "str")]=some (.Y (.bl a.isLeft)):=by
 cases a with
 |inl x=>exact CG x
 |inr p=>exact R7 _
theorem Zq(a:Sp):cI [.Y (aX a),.Y (.ty "tuple")]=some (.Y (.bl (!a.isLeft))):=by
 cases a with
 |inl x=>
  unfold cI;simp[jA,jV,O.d,aX]
 |inr p=>exact CK _
def kn(h:aA):Sp->List Sp
 |.inl _=>[]
 |.inr (n,c)=>match findB h.aM n with
  |some b=>jD h b c
  |none=>[]
theorem Rf{h:aA}(f:q8 h.aS h.aM){b:bp}(hb:b∈h.aM)(c:Int):kn h (.inr (b.name,c))=jD h b c:=by
 show(match findB h.aM b.name with|some b=>jD h b c|none=>[])=_
 rw[I_ f b hb]
theorem Pn(h:aA)(b:bp)(c:Int)(ol:b.outs.length<=20):(jD h b c).length<=30:=by
 unfold jD;split
 .rw[ko];lia
 .rw[du,bK];split
  .rw[ko];lia
  .rw[uO];lia
def wL:GE:=(kT (mD (aj (aa 3) gN)) (bu 0) fL (ay (bg .tup (aj (aa 1) (aj (aa 0) gN)))) 1 [2])
def Gr:GS:=(av 1 (ay (gB bY (aa 1) wL)))
theorem WB(n:Str)(ix:Int)(a:ao O):rW (bu 0) fL (ay (bg .tup (aj (aa 1) (aj (aa 0) gN)))) (.int ix) [a,some (fS n)]=some (some (.own (.Y (.tup [.str n,.int ix]))),[some (.Y (.int ix)),some (fS n)]):=by
 simp only[u4,gw,bM,bN,bO,reduceAdd,reduceLT,bQ,bc,↓ag,uy,cO,eQ,bq,bj,bx,bf,br,reduceLeDiff,eS,dX,h_,fq,bT,fm]
theorem Vs(s0 a4 a5:ao O)(cs:List Sp)(n:Str)(long:Int)(l0:1<=long)(l1:long<=20)(hc:cs.length<=200):
  ∃new:List Sp,(∀i:Int,0<=i->i<long->.inr (n,i)∈new)/\(∀s∈new,∃i:Int,s=.inr (n,i)/\0<=i/\i<long)/\0<new.length/\new.length<=20/\Gr [s0,some (.Y (.lst (cs.map aX))),some (fS n),some (.Y (.int long)),a4,a5]=some (.nx,[s0,some (.Y (.lst ((cs++new).map aX))),some (fS n),some (.Y (.int long)),a4,a5]):=by
 obtain⟨ax,⟨a,rfl⟩,e⟩:=zB (g:=bu 0) (ct:=fL) (ce:=ay (bg .tup (aj (aa 1) (aj (aa 0) gN)))) (λQ0=>∃a,Q0=[a,some (fS n)]) (λ(i:Nat)=>D.int (0+(i:Int))) (λ(i:Nat)=>.tup [.str n,.int (0+(i:Int))]) (List.range long.toNat) [none,some (fS n)] ⟨_,rfl⟩ (by rw[oR];lia) (by
  rintro i hi Q0 ⟨a,rfl⟩;exact⟨_,WB n (0+(i:Int)) a,_,rfl⟩)
 refine⟨(List.range long.toNat).map λ(i:Nat)=>.inr (n,0+(i:Int)),λi h0 h1=>iQ.mpr ⟨i.toNat,nv.mpr (by lia),by rw[show(0:Int)+(i.toNat:Int)=i by lia]⟩,λs hs=>?_,by rw[bK,oR];lia,by rw[bK,oR];lia,?_⟩
 .obtain⟨i,hi,rfl⟩:=iQ.mp hs;rw[nv] at hi;exact⟨_,rfl,by lia,by lia⟩
 .have en:(List.range long.toNat).map (λ(i:Nat)=>D.tup [.str n,.int (0+(i:Int))])=((List.range long.toNat).map λ(i:Nat)=>(Sum.inr (n,0+(i:Int)):Sp)).map aX:=by rw[oQ];rfl
  rw[en] at e;have hl:((List.range long.toNat).map λ(i:Nat)=>(Sum.inr (n,0+(i:Int)):Sp)).length<=20:=by rw[bK,oR];lia
  generalize((List.range long.toNat).map λ(i:Nat)=>(Sum.inr (n,0+(i:Int)):Sp))=new at *
  rw[<-uj] at e;have i1:jg [.own (.Y (.int long))]=some long:=zF (by lia)
  have c1:((cs.map aX).length+(new.map aX).length<=1000000)=True:=kq (by rw[bK,bK];lia)
  rw[iF (f:=aX)];unfold Gr wL;simp only[eU,cO,bH,bq,bj,bx,bf,↓ag,oT,PZ,br,i1,↓evMap,fZ,fF,u0,i6,cD,bQ,ph,fG,fH,e,bM,bN,bO,reduceAdd,qC,o6,u3,pj,bc,bG,bC,bF,Xf,Gf,xR,c1,jL,r9,reduceLT]
def VC(h:aA)(s:Sp):Prop:=∃b∈h.aM,∃c:Int,s=.inr (b.name,c)/\0<=c/\c<b.long
theorem Rg(h:aA)(ok:hG h):∃cs:List Sp,(∀s,VC h s->s∈cs)/\(∀s∈cs,VC h s)/\0<cs.length/\cs.length<=120/\BG [.Y (cq h)]=some (.Y (.lst (cs.map aX)),[none]):=by
 obtain⟨ax,e,cs,a2,a3,a4,a5,vc,v,l0,l1,rfl⟩:=nk (g:=fP [(bu 2),(bu 3),(bu 4),(bu 5)]) (f:=Gr) bB (λpre Q0=>∃(cs:List Sp) (a2 a3 a4 a5:ao O),(∀b∈pre,∀c:Int,0<=c->c<b.long->.inr (b.name,c)∈cs)/\(∀s∈cs,VC h s)/\pre.length<=cs.length/\cs.length<=pre.length*20/\Q0=[some (.Y (cq h)),some (.Y (.lst (cs.map aX))),a2,a3,a4,a5]) h.aM []
  [some (.Y (cq h)),some (.Y (.lst [])),none,none,none,none] ⟨[],none,none,none,none,λb m=>(by cases m),λs m=>(by cases m),cP _,cP _,rfl⟩ (by
   rintro q b post Q0 eq ⟨cs,a2,a3,a4,a5,vc,v,l0,l1,rfl⟩;rw[gu] at *;have hb:b∈h.aM:=by rw[eq];simp
   have bl:=ok.bl;have hql:h.aM.length=q.length+(post.length+1):=by rw[eq,du,iZ]
   have lg:=(ok.bk b hb).lg;obtain⟨new,n0,n1,n2,n3,e⟩:=Vs (some (.Y (cq h))) (some (.Y (.bl b.ring))) (some (.Y (.lst (b.outs.map .str)))) cs b.name b.long lg.1 lg.2 (by lia)
   refine⟨[some (.Y (cq h)),some (.Y (.lst ((cs++new).map aX))),some (fS b.name),some (.Y (.int b.long)),some (.Y (.bl b.ring)),some (.Y (.lst (b.outs.map .str)))],?_,cs++new,_,_,_,_,λb' mb c c0 c1=>?_,λs hs=>?_,by rw[du,du,ko];lia,by rw[du,du,ko];lia,rfl⟩
   .unfold bB;simp only[Fw,Fc,gw,bM,bN,bO,reduceAdd,reduceLT,cD,bQ,bc,↓ag,Fb,e]
   .rcases eD.mp mb with z|z
    .exact g_ _ (vc b' z c c0 c1)
    .rw[jI] at z;subst z;exact gE _ (n0 c c0 c1)
   .rcases eD.mp hs with z|z
    .exact v s z
    .obtain⟨i,rfl,i0,i1⟩:=n1 s z;exact⟨b,hb,i,rfl,i0,i1⟩)
 rw[gu] at *;have bl:=ok.bl;refine⟨cs,λs ⟨b,hb,c,e,c0,c1⟩=>by rw[e];exact vc b hb c c0 c1,v,by lia,by lia,?_⟩
 have me:Jk=aT (av 1 (ay (bg .lst gN))) (aT (dQ (gB bt (aa 0) (gC (.int 0))) (fP [(bu 2),(bu 3),(bu 4),(bu 5)]) Gr) (aP (aa 1))):=rfl;unfold BG;rw[me];simp only[gk,eM,eR,bM,bN,bO,reduceSub,fZ,fF,fG,fH,dh,eU,cO,eQ,br,↓ag,reduceLeDiff,dX,bc,jL,fm,reduceAdd,reduceLT,cD,bQ,oW,bH,bq,bj,bf,bP,bG,bC,bF,cQ,NK,bT,e,eV,bx,gG,gq,gr,gy,gn]
theorem Zr(h:aA)(ok:hG h)(b:bp)(hb:b∈h.aM)(c:Int):zP [.Y (cq h),.Y (.tup [.str b.name,.int c])]=some (.lst (((jD h b c++[(Sum.inr (b.name,c):Sp)]).map aX).map .Y),[none,none]):=by
 have e1:=Zp h b c ok.fwd hb (by have:=(ok.bk b hb).ol;lia)
 rw[<-Qi] at e1;have hl:=Pn h b c (ok.bk b hb).ol;have c1:(((jD h b c).map aX).length+1<=1000000)=True:=kq (by rw[bK];lia)
 rw[iF (f:=aX),show[(Sum.inr (b.name,c):Sp)].map aX=[.tup [.str b.name,.int c]] from rfl];unfold zP Ko;simp only[gk,eM,eR,bM,bN,bO,reduceAdd,reduceSub,fF,fG,fH,eV,bH,bq,gP,bj,bf,↓ag,bx,br,gM,gL,e1,iK,iJ,eQ,reduceLeDiff,eS,dX,bc,bG,bC,bF,Fx,Gf,xR,KJ,KI,c1,gG,gq,gr,gy,gn]
theorem XO(x a:Sp)(as:List Sp):dR x (as++[a])=(dR x as || decide (a=x)):=by
 unfold dR;rw[List.any_append];show(_ || (decide (a=x) || false))=_;rw[NM]
end Carry
namespace Carry
section
variable{ν:Type}[DecidableEq ν]
noncomputable def sm(f:ν->Int):List ν->Int
 |[]=>0
 |v::l=>f v+sm f l
theorem rY{f g:ν->Int}:∀{l:List ν},(∀v,v∈l->f v=g v)->sm f l=sm g l
 |[],_=>rfl
 |v::l,h=>by
  show f v+sm f l=g v+sm g l;rw[h v (.head _),rY λv m=>h v (.tail _ m)]
theorem wF(f g:ν->Int):∀l:List ν,sm (λv=>f v+g v) l=sm f l+sm g l
 |[]=>rfl
 |v::l=>by
  show f v+g v+sm _ l=f v+sm f l+(g v+sm g l);rw[wF f g l];lia
theorem K9(f:ν->Int):∀l:List ν,sm (λv => - f v) l = - sm f l
 |[]=>rfl
 |v::l=>by
  show - f v+sm _ l = - (f v+sm f l);rw[K9 f l];lia
theorem zQ{f:ν->Int}:∀{l:List ν},(∀v,v∈l->f v=0)->sm f l=0
 |[],_=>rfl
 |v::l,h=>by
  show f v+sm f l=0;rw[h v (.head _),zQ λv m=>h v (.tail _ m)];rfl
theorem Jv{f:ν->Int}:∀{l:List ν},(∀v,v∈l->0<=f v)->0<=sm f l
 |[],_=>Bb 0
 |v::l,h=>by
  have h1:=h v (.head _);have h2:=Jv λv m=>h v (.tail _ m)
  show 0<=f v+sm f l;lia
theorem K_{f:ν->Int}:∀{l:List ν},(∀v,v∈l->0<=f v)->∀x,x∈l->f x<=sm f l
 |v::l,h,x,m=>by
  have h1:=h v (.head _);have h2:=Jv λv m=>h v (.tail _ m)
  show f x<=f v+sm f l;rcases eO.mp m with m|m
  .subst m;lia
  .have:=K_ (λv m=>h v (.tail _ m)) x m
   lia
theorem Rh(g:ν->ν->Int):∀A B:List ν,sm (λv=>sm (g v) B) A=sm (λb=>sm (λv=>g v b) A) B
 |[],B=>(zQ λ_ _=>rfl).symm
 |a::A,B=>by
  show sm (g a) B+sm (λv=>sm (g v) B) A=sm (λb=>g a b+sm (λv=>g v b) A) B
  rw[Rh g A B,wF]
theorem Zs{g:ν->ν->Int}(h:∀v b,g v b = - g b v)(S:List ν):sm (λv=>sm (g v) S) S=0:=by
 have e1:=Rh g S S;have e2:sm (λb=>sm (λv=>g v b) S) S = - sm (λv=>sm (g v) S) S:=by
  rw[<-K9];exact rY λb _=>by rw[<-K9];exact rY λv _=>h v b
 lia
theorem J4(f:ν->Int)(p:ν->Bool):∀l:List ν,sm f l=sm f (l.filter p)+sm f (l.filter λv => !p v)
 |[]=>rfl
 |v::l=>by
  show f v+sm f l=_;rw[J4 f p l,AV,AV];cases p v with
  |true=>show _=(f v+sm f (l.filter p))+sm f (l.filter λv => !p v);lia
  |false=>show _=sm f (l.filter p)+(f v+sm f (l.filter λv => !p v));lia
theorem rj{x:ν}(d:Int):∀{l:List ν},l.Nodup->sm (λv=>if v=x then d else 0) l=if x∈l then d else 0
 |[],_=>rfl
 |v::l,nd=>by
  rw[ib] at nd;show(if v=x then d else 0)+sm _ l=_
  rw[rj d nd.2];by_cases e:v=x
  .subst e;rw[aU rfl,aY nd.1,aU (.head _)];lia
  .rw[aY e];by_cases m:x∈l
   .rw[aU m,aU (.tail _ m)];lia
   .rw[aY m,aY λz=>by
     rcases eO.mp z with z|z
     .exact e z.symm
     .exact m z]
    rfl
structure j6 (V:List ν) (s t:ν) (r0 r:ν->ν->Int):Prop where
 nn:∀v b,0<=r v b
 an:∀v b,r0 v b - r v b = - (r0 b v - r b v)
 cs:∀v,v∈V->v≠s->v≠t->sm (λb=>r0 v b - r v b) V=0
 sp:∀v b,(v∉V\/b∉V)->r0 v b=0/\r v b=0
 ns:s≠t
 ms:s∈V
 mt:t∈V
 nd:V.Nodup
noncomputable def aug(r:ν->ν->Int)(a b:ν):ν->ν->Int:=λv w=>if v=a/\w=b then r v w - 1 else if v=b/\w=a then r v w+1 else r v w
def ex(V:List ν)(r0 r:ν->ν->Int)(v:ν):Int:=sm (λb=>r0 v b - r v b) V
theorem e6y{V:List ν}{r0 r:ν->ν->Int}{a b:ν}(nd:V.Nodup)(jU:a≠b)(ha:a∈V)(hb:b∈V)(v:ν):ex V r0 (aug r a b) v=ex V r0 r v+(if v=a then 1 else 0) - (if v=b then 1 else 0):=by
 have key:∀w,r0 v w - aug r a b v w=(r0 v w - r v w)+((if w=b then(if v=a then 1 else 0) else 0)+(if w=a then - (if v=b then 1 else 0) else 0)):=by
  intro w;unfold aug;by_cases h1:v=a
  .have h2:v≠b:=λz=>jU (h1.symm.trans z)
   by_cases h3:w=b
   .have h4:w≠a:=λz=>jU (z.symm.trans h3)
    simp only[h1,h3,and_self,bc];have:a≠b:=jU;simp[this,this.symm];lia
   .simp[h1,h3,jU]
  .by_cases h2:v=b
   .by_cases h3:w=a
    .simp[h2,h3,jU,jU.symm];lia
    .simp[h2,h3,jU.symm]
   .simp[h1,h2]
 unfold ex;rw[rY λw _=>key w,wF,wF]
 have e1:=rj (x:=b) (if v=a then(1:Int) else 0) nd
 have e2:=rj (x:=a) (- (if v=b then(1:Int) else 0)) nd
 rw[aU hb] at e1;rw[aU ha] at e2;rw[e1,e2];lia
noncomputable def jS(r:ν->ν->Int):List ν->(ν->ν->Int)
 |b::a::p=>jS (aug r a b) (a::p)
 |_=>r
theorem Ri{r:ν->ν->Int}{a b v w:ν}(h:¬(v=a/\w=b))(h':¬(v=b/\w=a)):aug r a b v w=r v w:=by unfold aug;rw[aY h,aY h']
theorem Rj{V:List ν}{r0:ν->ν->Int}(nd:V.Nodup):∀(p:List ν) (r:ν->ν->Int) (b e:ν),(b::p).Nodup->(∀v,v∈b::p->v∈V)->(b::p).getLast?=some e->b≠e->∀v,ex V r0 (jS r (b::p)) v=ex V r0 r v+(if v=e then 1 else 0) - (if v=b then 1 else 0)
 |[],r,b,e,_,_,hl,pH,v=>by simp at hl;exact bZ hl pH
 |a::p,r,b,e,hn,hv,hl,pH,v=>by
  have jU:a≠b:=λz=>(ib.mp hn).1 (by rw[<-z];exact .head _)
  show ex V r0 (jS (aug r a b) (a::p)) v=_;have e1:=e6y (r0:=r0) (r:=r) nd jU (hv a (.tail _ (.head _))) (hv b (.head _)) v;by_cases c:p=[]
  .subst c;have he:a=e:=by simpa using hl
   subst he;show ex V r0 (aug r a b) v=_;rw[e1]
  .have uH:(a::p).getLast?=some e:=by
    rw[List.getLast?_cons_cons] at hl;exact hl
   have hae:a≠e:=λz=>by
    subst z;have HD:=ib.mp (ib.mp hn).2;have hm:a∈p:=by
     cases p with
     |nil=>exact bZ rfl c
     |cons y q=>
      rw[List.getLast?_cons_cons] at uH;exact List.mem_of_getLast? uH
    exact HD.1 hm
   rw[Rj nd p (aug r a b) a e (ib.mp hn).2 (λv m=>hv v (.tail _ m)) uH hae v,e1]
   lia
def kQ(r:ν->ν->Int):List ν->Prop
 |b::a::p=>0<r a b/\kQ r (a::p)
 |_=>True
theorem Po{r:ν->ν->Int}{a b:ν}:∀(p:List ν),b∉p->kQ r p->kQ (aug r a b) p
 |[],_,_=>ig
 |[_],_,_=>ig
 |y::x::p,hb,h=>⟨by
   rw[Ri (λz=>hb (by rw[<-z.2];exact .head _)) (λz=>hb (by rw[<-z.1];exact .tail _ (.head _)))]
   exact h.1,Po (x::p) (λm=>hb (.tail _ m)) h.2⟩
theorem Rk{V:List ν}{s t:ν}{r0:ν->ν->Int}:∀(p:List ν) (r:ν->ν->Int),p.Nodup->kQ r p->(∀v b,0<=r v b)->∀v b,0<=jS r p v b
 |[],r,_,_,h=>h
 |[_],r,_,_,h=>h
 |b::a::p,r,hn,hr,h=>Rk (V:=V) (s:=s) (t:=t) (r0:=r0) (a::p) (aug r a b) (ib.mp hn).2 (Po (a::p) (ib.mp hn).1 hr.2) λv w=>by
   have h1:=h v w;unfold aug;split
   .rename_i z
    have:=hr.1;rw[<-z.1,<-z.2] at this;lia
   .split
    .lia
    .exact h1
theorem e6z{r0 r:ν->ν->Int}{a b:ν}(jU:a≠b)(h:∀v b,r0 v b - r v b = - (r0 b v - r b v))(v w:ν):r0 v w - aug r a b v w = - (r0 w v - aug r a b w v):=by
 have h1:=h v w;unfold aug;by_cases c1:v=a/\w=b
 .have c2:¬(w=a/\v=b):=λz=>jU (c1.1.symm.trans z.2)
  rw[aU c1,aY c2,aU ⟨c1.2,c1.1⟩];lia
 .rw[aY c1];by_cases c3:v=b/\w=a
  .rw[aU c3,aU ⟨c3.2,c3.1⟩];lia
  .rw[aY c3,aY (λz=>c3 ⟨z.2,z.1⟩),aY (λz=>c1 ⟨z.2,z.1⟩)];exact h1
theorem Rl{r0:ν->ν->Int}:∀(p:List ν) (r:ν->ν->Int),p.Nodup->(∀v b,r0 v b - r v b = - (r0 b v - r b v))->∀v b,r0 v b - jS r p v b = - (r0 b v - jS r p b v)
 |[],r,_,h=>h
 |[_],r,_,h=>h
 |b::a::p,r,hn,h=>Rl (a::p) (aug r a b) (ib.mp hn).2 (e6z (λz=>(ib.mp hn).1 (by rw[<-z];exact .head _)) h)
theorem Rm{V:List ν}:∀(p:List ν) (r:ν->ν->Int),(∀v,v∈p->v∈V)->(∀v b,(v∉V\/b∉V)->r v b=0)->∀v b,(v∉V\/b∉V)->jS r p v b=0
 |[],r,_,h=>h
 |[_],r,_,h=>h
 |b::a::p,r,hv,h=>Rm (a::p) (aug r a b) (λv m=>hv v (.tail _ m)) λv w z=>by
   have ha:=hv a (.tail _ (.head _));have hb:=hv b (.head _);rw[Ri (λq=>by
    rcases z with z|z
    .exact z (by rw[q.1];exact ha)
    .exact z (by rw[q.2];exact hb)) (λq=>by
    rcases z with z|z
    .exact z (by rw[q.1];exact hb)
    .exact z (by rw[q.2];exact ha))]
   exact h v w z
theorem j6.push{V:List ν}{s t:ν}{r0 r:ν->ν->Int}(F:j6 V s t r0 r){p:List ν}(hn:(t::p).Nodup)(hv:∀v,v∈t::p->v∈V)(hl:(t::p).getLast?=some s)(hr:kQ r (t::p)):
  j6 V s t r0 (jS r (t::p))/\ex V r0 (jS r (t::p)) s=ex V r0 r s+1:=by
 have e:=Rj (r0:=r0) F.nd p r t s hn hv hl (Ne.symm F.ns);refine⟨⟨Rk (V:=V) (s:=s) (t:=t) (r0:=r0) _ r hn hr F.nn,Rl _ r hn F.an,λv m h1 h2=>?_,λv b z=>⟨(F.sp v b z).1,Rm _ r hv (λv b z=>(F.sp v b z).2) v b z⟩,F.ns,F.ms,F.mt,F.nd⟩,?_⟩
 .have:=e v;rw[aY h1,aY h2] at this;have h3:ex V r0 r v=0:=F.cs v m h1 h2;show ex V r0 (jS r (t::p)) v=0;lia
 .rw[e s,aU rfl,aY F.ns];lia
theorem j6.cut{V:List ν}{s t:ν}{r0 r:ν->ν->Int}(F:j6 V s t r0 r)(S:ν->Bool)(hs:S s=true)(ht:S t=false)(hc:∀v b,v∈V->b∈V->S v=true->S b=false->r v b=0):
  ex V r0 r s=sm (λv=>sm (λb=>r0 v b) (V.filter λb => !S b)) (V.filter S):=by
 have e1:sm (ex V r0 r) (V.filter S)=ex V r0 r s:=by
  have h1:∀v,v∈V.filter S->ex V r0 r v=if v=s then ex V r0 r s else 0:=λv m=>by
   obtain⟨m1,m2⟩:=kc.mp m;by_cases c:v=s
   .rw[aU c,c]
   .rw[aY c];exact F.cs v m1 c λz=>by rw[z,ht] at m2;cases m2
  rw[rY h1,rj _ (F.nd.filter _),aU (kc.mpr ⟨F.ms,hs⟩)]
 have e2:sm (ex V r0 r) (V.filter S)=sm (λv=>sm (λb=>r0 v b - r v b) (V.filter S)) (V.filter S)+sm (λv=>sm (λb=>r0 v b - r v b) (V.filter λb => !S b)) (V.filter S):=by
  rw[<-wF];exact rY λv _=>J4 _ S V
 have e3:=Zs (g:=λv b=>r0 v b - r v b) F.an (V.filter S)
 have e4:sm (λv=>sm (λb=>r0 v b - r v b) (V.filter λb => !S b)) (V.filter S)=sm (λv=>sm (λb=>r0 v b) (V.filter λb => !S b)) (V.filter S):=rY λv mv=>rY λb mb=>by
  obtain⟨m1,m2⟩:=kc.mp mv;obtain⟨m3,m4⟩:=kc.mp mb;have m4:S b=false:=by simpa using m4
  rw[hc v b m1 m3 m2 m4];lia
 lia
end
end Carry
namespace Carry
open L2 PySem
section
variable{α β γ:Type}[DecidableEq α]
noncomputable def lk:List (α×β)->α->ao β
 |[],_=>none
 |e::l,k=>if e.1=k then some e.2 else lk l k
noncomputable def pt:List (α×β)->α->β->List (α×β)
 |[],k,v=>[(k,v)]
 |e::l,k,v=>if e.1=k then(e.1,v)::l else e::pt l k v
theorem lE(e:α×β)(l:List (α×β))(k:α):lk (e::l) k=if e.1=k then some e.2 else lk l k:=rfl
theorem wK(k j:α)(v:β):∀l:List (α×β),lk (pt l k v) j=if k=j then some v else lk l j
 |[]=>rfl
 |e::l=>by
  show lk (if e.1=k then(e.1,v)::l else e::pt l k v) j=_
  by_cases h:e.1=k
  .rw[aU h,lE,lE];dsimp only;rw[h];split
   .rfl
   .rfl
  .rw[aY h,lE,lE,wK k j v l];by_cases h2:e.1=j
   .rw[aU h2,aY (λz=>h (h2.trans z.symm)),aU h2]
   .rw[aY h2,aY h2]
theorem fx:∀{l:List (α×β)} {k:α},(∃v,lk l k=some v)↔k∈l.map (·.1)
 |[],k=>⟨λ⟨v,h⟩=>(by cases h),λh=>(by cases h)⟩
 |e::l,k=>by
  rw[lE,dD,eO];by_cases h:e.1=k
  .rw[aU h];exact⟨λ_=>.inl h.symm,λ_=>⟨_,rfl⟩⟩
  .rw[aY h,fx];exact⟨.inr,λz=>z.resolve_left λq=>h q.symm⟩
theorem kF{l:List (α×β)}{k:α}:lk l k=none↔k∉l.map (·.1):=by
 rw[<-fx];constructor
 .rintro h ⟨v,e⟩;rw[h] at e;cases e
 .intro h;cases q:lk l k with
  |none=>rfl
  |some v=>exact bZ ⟨v,q⟩ h
theorem B4(k:α)(v:β):∀l:List (α×β),(pt l k v).map (·.1)=if k∈l.map (·.1) then l.map (·.1) else l.map (·.1)++[k]
 |[]=>rfl
 |e::l=>by
  show(if e.1=k then(e.1,v)::l else e::pt l k v).map (·.1)=_
  rw[dD];by_cases h:e.1=k
  .rw[aU h,aU (by rw[h];exact .head _),dD]
  .rw[aY h,dD,B4 k v l];by_cases h2:k∈l.map (·.1)
   .rw[aU h2,aU (.tail _ h2)]
   .rw[aY h2,aY (λz=>by
     rcases eO.mp z with z|z
     .exact h z.symm
     .exact h2 z)]
    rfl
theorem e9p{k:α}{v:β}{l:List (α×β)}(h:(l.map (·.1)).Nodup):((pt l k v).map (·.1)).Nodup:=by
 rw[B4];split
 .exact h
 .rename_i z
  exact jk.mpr ⟨h,by simp,λa ha b hb e=>by
   rw[jI] at hb;exact z (by rw[<-hb,<-e];exact ha)⟩
theorem La{k:α}{v:β}:∀{l:List (α×β)},lk l k=none->pt l k v=l++[(k,v)]
 |[],h=>rfl
 |e::l,h=>by
  rw[lE] at h;show(if e.1=k then(e.1,v)::l else e::pt l k v)=_
  by_cases q:e.1=k
  .rw[aU q] at h;cases h
  .rw[aY q] at h ⊢;rw[La h];rfl
end
variable{n x k:Nat}{Q0:Gm}{f1 f2 fv:Gm->ao D}{r m pl:Int}{h:aA}{a2 a4 a8 a7 a9 cx:ao O}{af:Str}{post:List Nat}{b':Bool}{W:List D}{ns:List Int}{mg:Str->ao aq}{X:List aq->Prop}
section
variable{α β:Type}[DecidableEq α](kk:α->TK)(inj:∀a b,kk a=kk b->a=b)
noncomputable def kD(f:β->O)(l:List (α×β)):List (TK×O):=l.map λe=>(kk e.1,f e.2)
noncomputable def vb(f:β->D)(l:List (α×β)):List (TK×D):=l.map λe=>(kk e.1,f e.2)
include inj in
theorem FJ(f:β->O)(k:α):∀l:List (α×β),jF (kD kk f l) (kk k)=(lk l k).map f
 |[]=>rfl
 |e::l=>by
  have ih:=FJ f k l;unfold jF kD at *;rw[dD,ub,lE];dsimp only;by_cases h:e.1=k
  .rw[ie (by rw[h]:kk e.1=kk k),aU h];rfl
  .rw[i7 (λz=>h (inj _ _ z)),aY h]
   exact ih
include inj in
theorem yb(f:β->D)(k:α):∀l:List (α×β),jZ (vb kk f l) (kk k)=(lk l k).map f
 |[]=>rfl
 |e::l=>by
  have ih:=yb f k l;unfold jZ vb at *;rw[dD,ub,lE];dsimp only;by_cases h:e.1=k
  .rw[ie (by rw[h]:kk e.1=kk k),aU h];rfl
  .rw[i7 (λz=>h (inj _ _ z)),aY h]
   exact ih
include inj in
theorem yc(f:β->O)(k:α)(v:β):∀l:List (α×β),df (kD kk f l) (kk k) (f v)=kD kk f (pt l k v)
 |[]=>rfl
 |e::l=>by
  show df ((kk e.1,f e.2)::kD kk f l) (kk k) (f v)=kD kk f (if e.1=k then(e.1,v)::l else e::pt l k v)
  show(if kk e.1=kk k then(kk e.1,f v)::kD kk f l else(kk e.1,f e.2)::df (kD kk f l) (kk k) (f v))=_
  by_cases h:e.1=k
  .rw[aU h,aU (by rw[h])];rfl
  .rw[aY h,aY (λz=>h (inj _ _ z)),yc f k v l];rfl
theorem CL(f:β->O)(g:β->D)(h:∀b,(f b).d=g b):∀l:List (α×β),O.dk (kD kk f l)=vb kk g l
 |[]=>rfl
 |e::l=>by
  show(kk e.1,(f e.2).d)::O.dk (kD kk f l)=(kk e.1,g e.2)::vb kk g l;rw[CL f g h l,h]
theorem Qj(g:β->D)(l:List (α×β)):(vb kk g l).map (·.1.d)=l.map λe=>(kk e.1).d:=by
 unfold vb;rw[oQ];rfl
end
abbrev Ct:=Str×Int×Int
variable{c:Ct}{C:List Ct}
noncomputable def cy(c:Ct):D:=.tup [.str c.1,.int c.2.1,.int c.2.2]
noncomputable def sj(c:Ct):TK:=.tp [.inr c.1,.inl c.2.1,.inl c.2.2]
inductive Nd where
 |st|en|gi (c:Ct)|go (c:Ct)
 deriving DecidableEq
variable{a b v w y u:Nd}
def aR:Nd->D
 |.st=>.str "the start"
 |.en=>.str "the end"
 |.gi c=>.tup [cy c,.str "into"]
 |.go c=>.tup [cy c,.str "out of"]
def ef:Nd->TK
 |.st=>.inr "the start"
 |.en=>.inr "the end"
 |.gi c=>.tp [sj c,.inr "into"]
 |.go c=>.tp [sj c,.inr "out of"]
theorem rA(v:Nd):cH (aR v)=some (ef v):=by
 cases v with
 |st=>rfl
 |en=>rfl
 |gi c=>simp[aR,ef,cy,sj,cH,lu,oJ,TK.ok]
 |go c=>simp[aR,ef,cy,sj,cH,lu,oJ,TK.ok]
theorem FK{a b:Ct}(h:sj a=sj b):a=b:=by
 obtain⟨x,i,m⟩:=a;obtain⟨y,j,n⟩:=b;unfold sj at h;injection h with h;injection h with h1 h;injection h with h2 h;injection h with h3 h;injection h1 with h1;injection h2 with h2;injection h3 with h3;dsimp only at h1 h2 h3;rw[h1,h2,h3]
theorem R_:("the start":Str)≠"the end":=by decide
theorem R':("into":Str)≠"out of":=by decide
theorem pk:∀a b:Nd,ef a=ef b->a=b:=by
 intro a b h;cases a with
 |st=>
  cases b with
  |st=>rfl
  |en=>unfold ef at h;injection h with h;exact bZ h R_
  |_=>unfold ef at h;cases h
 |en=>
  cases b with
  |en=>rfl
  |st=>unfold ef at h;injection h with h;exact bZ h.symm R_
  |_=>unfold ef at h;cases h
 |gi c=>
  cases b with
  |gi d=>unfold ef at h;injection h with h;injection h with h1 h;rw[FK h1]
  |go d=>unfold ef at h;injection h with h;injection h with h1 h;injection h with h2 h;injection h2 with h2;exact bZ h2 R'
  |_=>unfold ef at h;cases h
 |go c=>
  cases b with
  |go d=>unfold ef at h;injection h with h;injection h with h1 h;rw[FK h1]
  |gi d=>unfold ef at h;injection h with h;injection h with h1 h;injection h with h2 h;injection h2 with h2;exact bZ h2.symm R'
  |_=>unfold ef at h;cases h
theorem LF(v:Nd):(ef v).d=aR v:=(nq (rA v)).1
abbrev qH:=List (Nd×Int)
variable{i:qH}
abbrev Net:=List (Nd×qH)
variable{N N':Net}
def HJ(i:qH):List (TK×O):=kD ef (λn=>.Y (.int n)) i
def pI(i:qH):List (TK×D):=vb ef (λn=>.int n) i
abbrev AG(i:qH):O:=.aL (HJ i)
abbrev inD(i:qH):D:=.aL (pI i)
def pM(N:Net):List (TK×O):=kD ef AG N
def oq(N:Net):List (TK×D):=vb ef inD N
abbrev bU(N:Net):O:=.aL (pM N)
abbrev c_(N:Net):D:=.aL (oq N)
theorem SS(i:qH):(AG i).d=inD i:=by
 show D.aL (O.dk (kD ef _ i))=_;rw[CL ef _ (λn=>.int n) λ_=>rfl];rfl
theorem Sd(N:Net):(bU N).d=c_ N:=by
 show D.aL (O.dk (kD ef AG N))=_;rw[CL ef _ inD SS];rfl
def rr(N:Net)(v w:Nd):Int:=((lk N v).bind λi=>lk i w).getD 0
def kx(N:Net)(v w:Nd):Prop:=∃i,lk N v=some i/\∃n,lk i w=some n
structure nK (N:Net):Prop where
 sy:∀v w,kx N v w->kx N w v
 st:.st∈N.map (·.1)
 nd:(N.map (·.1)).Nodup
 ni:∀v i,lk N v=some i->(i.map (·.1)).Nodup
 nl:N.length<900000
 il:∀v i,lk N v=some i->i.length<900000
def jM(N:Net)(a b:Nd)(n:Int):Net:=match lk N a with
 |some i=>pt N a (pt i b n)
 |none=>N
theorem Se{n:Int}(h:lk N a=some i)(v w:Nd):kx (jM N a b n) v w↔kx N v w\/(v=a/\w=b):=by
 unfold jM;rw[h];dsimp only;unfold kx;rw[wK];by_cases c:a=v
 .subst c;rw[aU rfl,h];constructor
  .rintro⟨j,e,m,e2⟩;cases e;rw[wK] at e2;by_cases c2:b=w
   .exact .inr ⟨rfl,c2.symm⟩
   .rw[aY c2] at e2;exact .inl ⟨i,rfl,m,e2⟩
  .rintro(⟨j,e,m,e2⟩|⟨_,rfl⟩)
   .cases e;refine⟨_,rfl,?_⟩;rw[wK];by_cases c2:b=w
    .exact⟨_,aU c2⟩
    .exact⟨m,by rw[aY c2];exact e2⟩
   .exact⟨_,rfl,n,by rw[wK,aU rfl]⟩
 .rw[aY c];exact⟨.inl,λz=>z.resolve_right λq=>c q.1.symm⟩
theorem G0{n:Int}(h:lk N a=some i)(v w:Nd):rr (jM N a b n) v w=if v=a/\w=b then n else rr N v w:=by
 unfold jM;rw[h];dsimp only;unfold rr;rw[wK];by_cases c:a=v
 .subst c;rw[aU rfl,h,Option.bind_some,Option.bind_some,wK];by_cases c2:b=w
  .rw[aU c2,aU ⟨rfl,c2.symm⟩];rfl
  .rw[aY c2,aY λz=>c2 z.2.symm]
 .rw[aY c,aY λz=>c z.1.symm]
theorem B5{n:Int}(h:lk N a=some i):(jM N a b n).map (·.1)=N.map (·.1):=by
 unfold jM;rw[h];dsimp only;rw[B4,aU (fx.mp ⟨i,h⟩)]
theorem CM{n:Int}(h:lk N a=some i)(v:Nd):lk (jM N a b n) v=if a=v then some (pt i b n) else lk N v:=by
 unfold jM;rw[h];exact wK ..
theorem Rn{n:Int}(h:lk N a=some i)(hl:i.length<1000000)(h0:Q0[x]?=some (some (bU N)))(h1:f1 Q0=some (aR a))(h2:f2 Q0=some (aR b))(h3:fv Q0=some (.int n)):uz x f1 f2 fv Q0=some (.nx,Q0.set x (some (bU (jM N a b n)))):=by
 unfold uz;rw[h1,h2,h3,h0];simp only[Option.bind_some,rA];unfold pM;rw[FJ ef pk,h];show(if(kD ef (λn=>O.Y (.int n)) i).length<1000000 then _ else _)=_
 rw[aU (by unfold kD;rw[bK];exact hl),show df (HJ i) (ef b) (O.Y (.int n))=_ from yc ef pk (λn=>O.Y (.int n)) b n i,show O.aL (kD ef (λn=>O.Y (.int n)) (pt i b n))=AG (pt i b n) from rfl,yc ef pk]
 unfold jM;rw[h];rfl
theorem Ro{op:Int->Int->Int}{n j:Int}(h:lk N a=some i)(h':lk i b=some n)(hl:i.length<1000000)(h0:Q0[x]?=some (some (bU N)))(h1:f1 Q0=some (aR a))(h2:f2 Q0=some (aR b))(h3:fv Q0=some (.int j)):uA op x f1 f2 fv Q0=some (.nx,Q0.set x (some (bU (jM N a b (op n j))))):=by
 unfold uA;rw[h1,h2,h3,h0];simp only[Option.bind_some,rA];unfold pM;rw[FJ ef pk,h];show(match jF (kD ef (λn=>O.Y (.int n)) i) (ef b) with|some (.Y (.int n))=>_|_=>_)=_
 rw[FJ ef pk,h'];show(if(kD ef (λn=>O.Y (.int n)) i).length<1000000 then _ else _)=_
 rw[aU (by unfold kD;rw[bK];exact hl),show df (HJ i) (ef b) (O.Y (.int (op n j)))=_ from yc ef pk (λn=>O.Y (.int n)) b (op n j) i,show O.aL (kD ef (λn=>O.Y (.int n)) (pt i b (op n j)))=AG (pt i b (op n j)) from rfl,yc ef pk]
 unfold jM;rw[h];rfl
theorem e7b{α β:Type}[DecidableEq α]{l:List (α×β)}{k:α}{v:β}:(pt l k v).length<=l.length+1/\(k∈l.map (·.1)->(pt l k v).length=l.length):=by
 have e:=congrArg List.length (B4 k v l);rw[bK] at e;constructor
 .rw[e];split <;> simp
 .intro h;rw[aU h,bK] at e;exact e
theorem Zt(fa:GE)(gg:GG)(f:GS)(Q0:Gm):Cc fa gg f Q0=(ay fa Q0).bind λp=>match p.1 with
 |.own (.Y (.tup ds))=>gj gg f ds p.2
 |_=>none:=rfl
noncomputable def iM(N:Net)(v:Nd):Net:=if v∈N.map (·.1) then N else N++[(v,[])]
theorem zY{α β:Type}[DecidableEq α](k:α):∀l m:List (α×β),lk (l++m) k=match lk l k with|some v=>some v|none=>lk m k
 |[],m=>rfl
 |e::l,m=>by
  rw[Il,lE,lE,zY k l m];split <;> rfl
theorem Zu(N:Net):O.dk (pM N)=oq N:=CL ef _ inD SS N
theorem Sg(N:Net)(v:Nd)(b:Bool)(hb:b=true↔v∈N.map (·.1)):cj true [.Y (aR v),bU N]=some (.Y (.bl (!b))):=by
 have e:(lk N v).isSome=b:=by
  rw[t9,hb,<-fx,NL]
 unfold cj;simp only[jw,Zu,rA,Option.bind_some];unfold oq;rw[yb ef pk,Option.isSome_map,e];rfl
theorem Kr(kvs:List (TK×O))(v:O)(d:D):kj (.aL kvs) [v,.Y d]=(cH d).bind λk=>if kvs.length<1000000 then some (O.aL (df kvs k v),O.Y D.bL) else none:=by
 cases d <;> rfl
theorem Zv(N:Net)(v:Nd)(hv:v∉N.map (·.1))(hl:N.length<1000000):kj (bU N) [.aL [],.Y (aR v)]=some (bU (iM N v),.Y .bL):=by
 rw[Kr,rA,Option.bind_some,aU (by unfold pM kD;rw[bK];exact hl),show(O.aL [])=AG [] from rfl]
 unfold bU pM;rw[yc ef pk,La (kF.mpr hv)];unfold iM;rw[aY hv]
def layB:GS:=cf (gT (gB (cj true) (aa 4) (aa 0)))
  (iw zS (aa 0) (aa 4))
  bw
theorem Qk(N:Net)(v:Nd)(a1 a2 a3:ao O)(hl:N.length<1000000):layB [some (bU N),a1,a2,a3,some (.Y (aR v))]=some (.nx,[some (bU (iM N v)),a1,a2,a3,some (.Y (aR v))]):=by
 unfold layB;by_cases h:v∈N.map (·.1)
 .have e:=Sg N v true ⟨λ_=>h,λ_=>rfl⟩
  have e2:iM N v=N:=aU h;rw[e2];simp only[dW,cU,bH,bq,bj,bx,bf,↓ag,br,bG,bC,j7,i6,bF,e,iE,dz,u9,E',dU,ck]
 .have e:=Sg N v false ⟨λz=>(by cases z),λz=>bZ z h⟩
  have e2:=Zv N v h hl;simp only[dW,cU,bH,bq,bj,bx,bf,↓ag,br,bG,bC,j7,i6,bF,e,nF,u9,E',e2,bQ,dU,bc]
theorem zZ(N:Net)(v w:Nd):lk (iM N v) w=match lk N w with|some i=>some i|none=>if v=w then some [] else none:=by
 unfold iM;by_cases h:v∈N.map (·.1)
 .rw[aU h];cases e:lk N w with
  |some i=>rfl
  |none=>
   have:v≠w:=λz=>kF.mp e (by rw[<-z];exact h)
   dsimp only;rw[aY this]
 .rw[aY h,zY];cases lk N w <;> rfl
theorem Rp(N:Net)(v:Nd):∃i,lk (iM N v) v=some i:=by
 rw[zZ];cases lk N v with
 |some i=>exact⟨i,rfl⟩
 |none=>exact⟨[],aU rfl⟩
theorem Zw(N:Net)(v:Nd):(iM N v).length<=N.length+1:=by
 unfold iM;split
 .lia
 .rw[du];exact cP _
def fN(N:Net)(a b:Nd)(r:Int):Net:=jM (jM (iM (iM N a) b) a b r) b a 0
structure Sz (N:Net) (k:Nat):Prop where
 l:N.length<=k+1
 i:∀v i,lk N v=some i->i.length<=k
theorem Gs(v:Nd)(s:Sz N k):Sz (iM N v) (k+1):=⟨by have:=Zw N v;have:=s.l;lia,λw i e=>by
 rw[zZ] at e;cases q:lk N w with
 |some j=>rw[q] at e;cases e;have:=s.i w _ q;lia
 |none=>
  rw[q] at e;dsimp only at e;split at e
  .cases e;exact kK _
  .cases e⟩
theorem LG{n:Int}(h:lk N a=some i)(s:Sz N k):Sz (jM N a b n) (k+1):=⟨by
  have:=congrArg List.length (B5 (b:=b) (n:=n) h);rw[bK,bK] at this;have:=s.l;lia,λv j e=>by
  rw[CM h] at e;split at e
  .cases e;have:=(e7b (l:=i) (k:=b) (v:=n)).1;have:=s.i a i h;lia
  .have:=s.i v j e;lia⟩
theorem Ks(r:Int):∃i j,lk (iM (iM N a) b) a=some i/\lk (jM (iM (iM N a) b) a b r) b=some j:=by
 obtain⟨i0,e0⟩:=Rp N a;obtain⟨j0,f0⟩:=Rp (iM N a) b;have e1:lk (iM (iM N a) b) a=some i0:=by rw[zZ,e0]
 refine⟨i0,?_⟩;by_cases c:a=b
 .exact⟨_,e1,by rw[CM e1,aU c]⟩
 .exact⟨j0,e1,by rw[CM e1,aY c];exact f0⟩
theorem Sh(a b:Nd)(r:Int)(s:Sz N k):Sz (fN N a b r) (k+4):=by
 obtain⟨i,j,e1,e2⟩:=Ks (N:=N) (a:=a) (b:=b) r;exact LG e2 (LG e1 (Gs b (Gs a s)))
theorem G1(N:Net)(k:Nat)(a b:Nd)(r:Int)(s:Sz N k)(hk:k<900000):uD [bU N,.Y (aR a),.Y (aR b),.Y (.int r)]=some (.Y .bL,[some (bU (fN N a b r)),none,none,none]):=by
 have me:Lw=aT (Cc (bg .tup (aj (aa 1) (aj (aa 2) gN))) (bu 4) layB) (aT (uz 0 (sV 1) (sV 2) (sV 3)) (uz 0 (sV 2) (sV 1) (sC (.int 0)))):=rfl;have hN:=s.l;have s1:=Gs a s;have s2:=Gs b s1;obtain⟨i,j,e1,e2⟩:=Ks (N:=N) (a:=a) (b:=b) r;have s3:=LG (b:=b) (n:=r) e1 s2;have l1:=Qk N a (some (.Y (aR a))) (some (.Y (aR b))) (some (.Y (.int r))) (by lia)
 have l2:=Qk (iM N a) b (some (.Y (aR a))) (some (.Y (aR b))) (some (.Y (.int r))) (by have:=s1.l;lia)
 have p1:uz 0 (sV 1) (sV 2) (sV 3) [some (bU (iM (iM N a) b)),some (.Y (aR a)),some (.Y (aR b)),some (.Y (.int r)),some (.Y (aR b))]=some (.nx,[some (bU (jM (iM (iM N a) b) a b r)),some (.Y (aR a)),some (.Y (aR b)),some (.Y (.int r)),some (.Y (aR b))]):=Rn e1 (by have:=s2.i _ _ e1;lia) rfl rfl rfl rfl
 have p2:uz 0 (sV 2) (sV 1) (sC (.int 0)) [some (bU (jM (iM (iM N a) b) a b r)),some (.Y (aR a)),some (.Y (aR b)),some (.Y (.int r)),some (.Y (aR b))]=some (.nx,[some (bU (fN N a b r)),some (.Y (aR a)),some (.Y (aR b)),some (.Y (.int r)),some (.Y (aR b))]):=Rn e2 (by have:=s3.i _ _ e2;lia) rfl rfl rfl rfl
 unfold uD;rw[me];simp only[gk,eM,eR,bM,bN,bO,reduceAdd,reduceSub,fZ,fF,fG,fH,dh,Zt,cO,eQ,bq,bj,bx,bf,↓ag,br,reduceLeDiff,eS,dX,bc,h_,fq,bT,fm,BN,gw,reduceLT,cD,bQ,l1,l2,Xe,p1,p2,SK,gq,gr,r_,gy,gn]
theorem e7c(b:Str)(i m:Int):uC [.Y (.tup [.str b,.int i]),.Y (.int m)]=some (.tup [.Y (cy (b,i,m)),.Y (.str "into")],[none,none]):=by
 unfold uC K4 cy;simp only[gk,eM,eR,bM,bN,bO,reduceAdd,reduceSub,fF,fG,fH,eV,eQ,bq,cO,bH,bj,bf,↓ag,bP,br,bG,bC,bF,cQ,jK,lA,↓evMap,mJ,bx,reduceLeDiff,eS,dX,bc,h_,fq,bT,fm,gG,gq,gr,gy,gn]
structure Laid (N:Net) (L:List (Nd×Nd×Int)):Prop where
 ar:∀v w,kx N v w↔(∃r,(v,w,r)∈L)\/∃r,(w,v,r)∈L
 rm:∀v w r,(v,w,r)∈L->rr N v w=r
 rz:∀v w,(∀r,(v,w,r)∉L)->rr N v w=0
 ky:∀v,v∈N.map (·.1)↔v=.st\/∃w r,(v,w,r)∈L\/(w,v,r)∈L
 nd:(N.map (·.1)).Nodup
 ni:∀v i,lk N v=some i->(i.map (·.1)).Nodup
theorem Rq(N:Net)(u v w:Nd):kx (iM N u) v w↔kx N v w:=by
 unfold kx;rw[zZ];cases e:lk N v with
 |some i=>exact Iff.rfl
 |none=>
  dsimp only;constructor
  .rintro⟨i,h,n,h2⟩;split at h
   .cases h;cases h2
   .cases h
  .rintro⟨i,h,_⟩;cases h
theorem Si(N:Net)(u v w:Nd):rr (iM N u) v w=rr N v w:=by
 unfold rr;rw[zZ];cases e:lk N v with
 |some i=>rfl
 |none=>
  dsimp only;split <;> rfl
theorem mK(N:Net)(u v:Nd):v∈(iM N u).map (·.1)↔v∈N.map (·.1)\/v=u:=by
 unfold iM;split
 .rename_i h
  exact⟨.inl,λz=>z.elim id λq=>by rw[q];exact h⟩
 .rw[iF,eD,uP,jI]
theorem Lb(u:Nd)(h:(N.map (·.1)).Nodup):((iM N u).map (·.1)).Nodup:=by
 unfold iM;split
 .exact h
 .rename_i z
  rw[iF];exact jk.mpr ⟨h,by simp,λa ha b hb e=>by
   rw[uP,jI] at hb;exact z (by rw[show u=b from hb.symm,<-e];exact ha)⟩
theorem Sj(u:Nd)(h:∀v i,lk N v=some i->(i.map (·.1)).Nodup):∀v i,lk (iM N u) v=some i->(i.map (·.1)).Nodup:=by
 intro v i e;rw[zZ] at e;cases q:lk N v with
 |some j=>rw[q] at e;cases e;exact h v _ q
 |none=>
  rw[q] at e;dsimp only at e;split at e
  .cases e;exact zk
  .cases e
theorem SU{n:Int}(h:lk N a=some i)(hn:∀v i,lk N v=some i->(i.map (·.1)).Nodup):∀v j,lk (jM N a b n) v=some j->(j.map (·.1)).Nodup:=by
 intro v j e;rw[CM h] at e;split at e
 .cases e;exact e9p (hn a i h)
 .exact hn v j e
theorem Laid.lay{L:List (Nd×Nd×Int)}(l:Laid N L)(jU:a≠b)(hf:∀r',(a,b,r')∈L->r'=r)(ha:∀r',(b,a,r')∉L):Laid (fN N a b r) (L++[(a,b,r)]):=by
 obtain⟨i,j,e1,e2⟩:=Ks (N:=N) (a:=a) (b:=b) r;have mm:∀v w q,(v,w,q)∈L++[(a,b,r)]↔(v,w,q)∈L\/(v=a/\w=b/\q=r):=λv w q=>by
  rw[eD,jI,Prod.mk.injEq,Prod.mk.injEq]
 have rl:∀v w,rr (fN N a b r) v w=if v=b/\w=a then 0 else if v=a/\w=b then r else rr N v w:=λv w=>by
  unfold fN;rw[G0 e2,G0 e1,Si,Si]
 refine⟨λv w=>?_,λv w q hm=>?_,λv w hm=>?_,λv=>?_,?_,SU e2 (SU e1 (Sj b (Sj a l.ni)))⟩
 .unfold fN;rw[Se e2,Se e1,Rq,Rq,l.ar];constructor
  .rintro((h|h)|h)
   .rcases h with⟨q,h⟩|⟨q,h⟩
    .exact .inl ⟨q,(mm ..).mpr (.inl h)⟩
    .exact .inr ⟨q,(mm ..).mpr (.inl h)⟩
   .exact .inl ⟨r,(mm ..).mpr (.inr ⟨h.1,h.2,rfl⟩)⟩
   .exact .inr ⟨r,(mm ..).mpr (.inr ⟨h.2,h.1,rfl⟩)⟩
  .rintro(⟨q,h⟩|⟨q,h⟩)
   .rcases(mm ..).mp h with h|h
    .exact .inl (.inl (.inl ⟨q,h⟩))
    .exact .inl (.inr ⟨h.1,h.2.1⟩)
   .rcases(mm ..).mp h with h|h
    .exact .inl (.inl (.inr ⟨q,h⟩))
    .exact .inr ⟨h.2.1,h.1⟩
 .rw[rl];rcases(mm ..).mp hm with h|h
  .have n1:¬(v=b/\w=a):=λz=>ha q (by rw[<-z.1,<-z.2];exact h)
   rw[aY n1];by_cases c:v=a/\w=b
   .rw[aU c];exact(hf q (by rw[<-c.1,<-c.2];exact h)).symm
   .rw[aY c];exact l.rm v w q h
  .rw[aY (λz=>jU (h.1.symm.trans z.1)),aU ⟨h.1,h.2.1⟩]
   exact h.2.2.symm
 .rw[rl];by_cases c:v=b/\w=a
  .rw[aU c]
  .rw[aY c];by_cases c2:v=a/\w=b
   .exact bZ ((mm ..).mpr (.inr ⟨c2.1,c2.2,rfl⟩)) (hm r)
   .rw[aY c2];exact l.rz v w λq h=>hm q ((mm ..).mpr (.inl h))
 .unfold fN;rw[B5 e2,B5 e1,mK,mK,l.ky];constructor
  .rintro((h|h)|h)
   .rcases h with h|⟨w,q,h|h⟩
    .exact .inl h
    .exact .inr ⟨w,q,.inl ((mm ..).mpr (.inl h))⟩
    .exact .inr ⟨w,q,.inr ((mm ..).mpr (.inl h))⟩
   .exact .inr ⟨b,r,.inl ((mm ..).mpr (.inr ⟨h,rfl,rfl⟩))⟩
   .exact .inr ⟨a,r,.inr ((mm ..).mpr (.inr ⟨rfl,h,rfl⟩))⟩
  .rintro(h|⟨w,q,h|h⟩)
   .exact .inl (.inl (.inl h))
   .rcases(mm ..).mp h with h|h
    .exact .inl (.inl (.inr ⟨w,q,.inl h⟩))
    .exact .inl (.inr h.1)
   .rcases(mm ..).mp h with h|h
    .exact .inl (.inl (.inr ⟨w,q,.inr h⟩))
    .exact .inr h.2.1
 .unfold fN;rw[B5 e2,B5 e1];exact Lb b (Lb a l.nd)
theorem Du:Laid [(.st,[])] [] where
 ar v w:=by
  constructor
  .rintro⟨i,h,n,h2⟩;rw[lE] at h;split at h
   .cases h;cases h2
   .cases h
  .rintro(⟨r,h⟩|⟨r,h⟩) <;> cases h
 rm v w r h:=by cases h
 rz v w _:=by
  unfold rr;rw[lE];split <;> rfl
 ky v:=by
  rw[dD,qZ,jI];constructor
  .exact .inl
  .rintro(h|⟨w,r,h|h⟩)
   .exact h
   .cases h
   .cases h
 nd:=by simp
 ni v i h:=by
  rw[lE] at h;split at h
  .cases h;exact zk
  .cases h
theorem Zx(fa:GE)(gg:GG)(f:GS)(Q0:Gm):Cq fa gg f Q0=(ay fa Q0).bind λp=>match p.1 with
 |.own (.Y (.aL kvs))=>gj gg f (kvs.map (·.1.d)) p.2
 |_=>none:=rfl
abbrev cR:=List (Nd×ao Nd)
variable{l:cR}
def Gw:ao Nd->O
 |none=>.Y .bL
 |some v=>.Y (aR v)
def Ak:ao Nd->D
 |none=>.bL
 |some v=>aR v
def iL(l:cR):List (TK×O):=kD ef Gw l
def dP(l:cR):List (TK×D):=vb ef Ak l
theorem Sk(l:cR):O.dk (iL l)=dP l:=CL ef _ Ak (λb=>by cases b <;> rfl) l
inductive Cm (N:Net):cR->Prop
 |base:Cm N [(.st,none)]
 |ext {l:cR} {x y:Nd}:Cm N l->y∈l.map (·.1)->x∉l.map (·.1)->0<rr N y x->kx N y x->Cm N (l++[(x,some y)])
theorem v9(l:cR)(x:Nd)(y:ao Nd)(z:Nd):z∈(l++[(x,y)]).map (·.1)↔z∈l.map (·.1)\/z=x:=by
 rw[iF,eD,uP,jI]
theorem Cm.nd(c:Cm N l):(l.map (·.1)).Nodup:=by
 induction c with
 |base=>simp
 |@ext l x y h1 h2 h3 h4 h5 ih=>
  rw[iF];exact jk.mpr ⟨ih,by simp,λa ha b hb e=>by
   rw[uP,jI] at hb;exact h3 (by rw[show x=b from hb.symm,<-e];exact ha)⟩
theorem Cm.st{N:Net}{l:cR}(c:Cm N l):.st∈l.map (·.1):=by
 induction c with
 |base=>exact .head _
 |@ext l x y h1 h2 h3 h4 h5 ih=>exact(v9 ..).mpr (.inl ih)
theorem Zy(h:kx N v w):v∈N.map (·.1):=by
 obtain⟨i,e,_⟩:=h;exact fx.mp ⟨i,e⟩
theorem Cm.sub(ok:nK N)(c:Cm N l):∀x,x∈l.map (·.1)->x∈N.map (·.1):=by
 induction c with
 |base=>intro x h;rw[uP,jI] at h;rw[h];exact ok.st
 |@ext l x y h1 h2 h3 h4 h5 ih=>
  intro z h;rcases(v9 ..).mp h with h|h
  .exact ih z h
  .rw[h];exact Zy (ok.sy y x h5)
theorem xP{α:Type}[DecidableEq α]:∀{l m:List α},l.Nodup->(∀x,x∈l->x∈m)->l.length<=m.length
 |[],m,_,_=>kK _
 |x::l,m,h,s=>by
  rw[ib] at h;have hx:=s x (.head _);have ih:=xP (m:=m.erase x) h.2 λy hy=>(List.mem_erase_of_ne (λe=>h.1 (by rw[<-e];exact hy))).mpr (s y (.tail _ hy))
  have e:=List.length_erase_of_mem hx;have p:0<m.length:=List.length_pos_of_mem hx;rw[iZ];lia
theorem Cm.len(ok:nK N)(c:Cm N l):l.length<=N.length:=by
 have:=xP c.nd (c.sub ok);rw[bK,bK] at this;exact this
theorem ym{h:Nd}(e:lk N h=some i):dN (.Y (c_ N)) (aR h)=some (.Y (inD i)):=by
 have q:dN (.Y (c_ N)) (aR h)=(cH (aR h)).bind λk=>(jZ (oq N) k).map .Y:=by
  cases h <;> rfl
 rw[q,rA,Option.bind_some];unfold oq;rw[yb ef pk,e];rfl
theorem CN{n:Int}(e:lk i w=some n):dN (.Y (inD i)) (aR w)=some (.Y (.int n)):=by
 have q:dN (.Y (inD i)) (aR w)=(cH (aR w)).bind λk=>(jZ (pI i) k).map .Y:=by
  cases w <;> rfl
 rw[q,rA,Option.bind_some];unfold pI;rw[yb ef pk,e];rfl
theorem Rr(neg:Bool)(l:cR)(v:Nd)(b:Bool)(hb:b=true↔v∈l.map (·.1)):cj neg [.Y (aR v),.aL (iL l)]=some (.Y (.bl (if neg then !b else b))):=by
 have e:(lk l v).isSome=b:=by
  rw[t9,hb,<-fx,NL]
 unfold cj;simp only[jw,Sk,rA,Option.bind_some];unfold dP;rw[yb ef pk,Option.isSome_map,e]
theorem J5(neg:Bool)(l:cR)(v:Nd)(b:Bool)(hb:b=true↔v∈l.map (·.1)):cj neg [.Y (aR v),.Y (.aL (dP l))]=some (.Y (.bl (if neg then !b else b))):=by
 have e:(lk l v).isSome=b:=by
  rw[t9,hb,<-fx,NL]
 unfold cj;simp only[jw,rA,Option.bind_some];unfold dP;rw[yb ef pk,Option.isSome_map,e]
theorem XQ(l:cR)(h w:Nd)(hw:w∉l.map (·.1))(hl:l.length<1000000):kj (.aL (iL l)) [.Y (aR h),.Y (aR w)]=some (.aL (iL (l++[(w,some h)])),.Y .bL):=by
 rw[Kr,rA,Option.bind_some,aU (by unfold iL kD;rw[bK];exact hl),show O.Y (aR h)=Gw (some h) from rfl]
 unfold iL;rw[yc ef pk,La (kF.mpr hw)]
def AM:GS:=cf (gH (gT (gB vE (gB bt (gB bt (aa 0) (aa 5)) (aa 6)) (gC (.int 0)))) (gT (gB (cj true) (aa 6) (aa 2))))
  (aT (iw (aa 5) (aa 2) (aa 6)) (jv (gb lD (aa 4) (aj (aa 6) gN))))
  bw
theorem Zz(N:Net)(l:cR)(F:List Nd)(h w:Nd)(i:qH)(n:Int)(a1 a3:ao O)(e1:lk N h=some i)(e2:lk i w=some n)(hn:0<n)(hw:w∉l.map (·.1))(hl:l.length<1000000)(hF:F.length<1000000):
  AM [some (.Y (c_ N)),a1,some (.aL (iL l)),a3,some (.lst ((F.map aR).map .Y)),some (.Y (aR h)),some (.Y (aR w))]=some (.nx,[some (.Y (c_ N)),a1,some (.aL (iL (l++[(w,some h)]))),a3,some (.lst (((F++[w]).map aR).map .Y)),some (.Y (aR h)),some (.Y (aR w))]):=by
 unfold AM;have f1:=ym e1;have f2:=CN e2;have f3:=Rr true l w false ⟨λz=>(by cases z),λz=>bZ z hw⟩
 have f4:=XQ l h w hw hl;have f5:((F.map aR).length<1000000)=True:=kq (by rw[bK];exact hF)
 have f6:decide ((0:Int)<n)=true:=ie hn;rw[iF (f:=aR),show[w].map aR=[aR w] from rfl];simp only[dW,lN,cU,bH,bq,bj,bf,↓ag,bx,br,bG,bC,bF,cQ,f1,f2,bP,iI,f6,bc,j7,i6,f3,nF,dh,u9,f4,cD,bQ,jJ,lO,eS,dX,oX,f5,dU]
theorem ZA(N:Net)(l:cR)(F:List Nd)(h w:Nd)(i:qH)(n:Int)(a1 a3:ao O)(e1:lk N h=some i)(e2:lk i w=some n)(hn:0<n->w∈l.map (·.1)):
  AM [some (.Y (c_ N)),a1,some (.aL (iL l)),a3,some (.lst ((F.map aR).map .Y)),some (.Y (aR h)),some (.Y (aR w))]=some (.nx,[some (.Y (c_ N)),a1,some (.aL (iL l)),a3,some (.lst ((F.map aR).map .Y)),some (.Y (aR h)),some (.Y (aR w))]):=by
 unfold AM;have f1:=ym e1;have f2:=CN e2;by_cases c:0<n
 .have f3:=Rr true l w true ⟨λ_=>hn c,λ_=>rfl⟩
  have f6:decide ((0:Int)<n)=true:=ie c;simp only[dW,lN,cU,bH,bq,bj,bf,↓ag,bx,br,bG,bC,bF,cQ,f1,f2,bP,iI,f6,bc,j7,i6,f3,iE,dz,dh,u9,dU,ck]
 .have f6:decide ((0:Int)<n)=false:=i7 c;simp only[dW,lN,cU,bH,bq,bj,bf,↓ag,bx,br,bG,bC,bF,cQ,f1,f2,bP,iI,f6,bc,dz,j7,i6,ck,dh,u9,dU]
structure SI (N:Net) (l0 l:cR) (F:List Nd):Prop where
 cm:Cm N l
 sub:∀x,x∈l.map (·.1)↔x∈l0.map (·.1)\/x∈F
 len:l.length=l0.length+F.length
theorem SI.add{l0:cR}{F:List Nd}{h:Nd}(s:SI N l0 l F)(hh:h∈l0.map (·.1))(hw:w∉l.map (·.1))(hr:0<rr N h w)(ha:kx N h w):SI N l0 (l++[(w,some h)]) (F++[w]):=
 ⟨.ext s.cm ((s.sub h).mpr (.inl hh)) hw hr ha,λx=>by
  rw[v9,s.sub,eD,jI,or_assoc],by
  rw[du,du,s.len];rfl⟩
theorem LH{β:Type}{i:List (Nd×β)}{n:β}(h:(i.map (·.1)).Nodup)(m:(w,n)∈i):lk i w=some n:=by
 induction i with
 |nil=>cases m
 |cons e i ih=>
  rw[dD,ib] at h;rw[lE];rcases eO.mp m with m|m
  .rw[<-m,aU rfl]
  .rw[aY (λz=>h.1 (by rw[z];exact iQ.mpr ⟨_,m,rfl⟩))]
   exact ih h.2 m
theorem LJ{α β:Type}[DecidableEq α]:∀{i:List (α×β)} {w:α} {n:β},lk i w=some n->(w,n)∈i
 |e::i,w,n,h=>by
  rw[lE] at h;split at h
  .rename_i z;cases h;rw[<-z];exact .head _
  .exact .tail _ (LJ h)
def vL:GS:=Cq (gB bt (aa 0) (aa 5)) (bu 6) AM
theorem Ag{h:Nd}(e:lk N h=some i):rr N h w=(lk i w).getD 0:=by
 unfold rr;rw[e];rfl
theorem ZC(N:Net)(ok:nK N)(l0 l:cR)(F:List Nd)(h:Nd)(a1 a3 a6:ao O)(s:SI N l0 l F)(hh:h∈l0.map (·.1))(hk:h∈N.map (·.1)):
  ∃l' F' b6,SI N l0 l' F'/\(∀x,x∈l.map (·.1)->x∈l'.map (·.1))/\(∀x,0<rr N h x->x∈l'.map (·.1))/\
   vL [some (.Y (c_ N)),a1,some (.aL (iL l)),a3,some (.lst ((F.map aR).map .Y)),some (.Y (aR h)),a6]=some (.nx,[some (.Y (c_ N)),a1,some (.aL (iL l')),a3,some (.lst ((F'.map aR).map .Y)),some (.Y (aR h)),b6]):=by
 obtain⟨i,ei⟩:=fx.mpr hk;obtain⟨ax,e,l',F',b6,rfl,s',sb,dn⟩:=nk (g:=bu 6) (f:=AM) (λe:Nd×Int=>aR e.1) (λpre Q0=>∃(l':cR) (F':List Nd) (b6:ao O),Q0=[some (.Y (c_ N)),a1,some (.aL (iL l')),a3,some (.lst ((F'.map aR).map .Y)),some (.Y (aR h)),b6]/\SI N l0 l' F'/\(∀x,x∈l.map (·.1)->x∈l'.map (·.1))/\∀e∈pre,0<e.2->e.1∈l'.map (·.1)) i []
  [some (.Y (c_ N)),a1,some (.aL (iL l)),a3,some (.lst ((F.map aR).map .Y)),some (.Y (aR h)),a6] ⟨l,F,a6,rfl,s,λ_ z=>z,λ_ z=>(by cases z)⟩ (by
   rintro q ⟨w,n⟩ post Q0 eq ⟨l',F',b6,rfl,s',sb,dn⟩;have en:lk i w=some n:=LH (ok.ni h i ei) (by rw[eq];simp)
   have ll:=s'.cm.len ok;have nl:=ok.nl;have sl:=s'.len;by_cases c:0<n/\w∉l'.map (·.1)
   .have st:=Zz N l' F' h w i n a1 a3 ei en c.1 c.2 (by lia) (by lia)
    refine⟨[some (.Y (c_ N)),a1,some (.aL (iL (l'++[(w,some h)]))),a3,some (.lst (((F'++[w]).map aR).map .Y)),some (.Y (aR h)),some (.Y (aR w))],?_,l'++[(w,some h)],F'++[w],_,rfl,s'.add hh c.2 (by rw[Ag ei,en];exact c.1) ⟨i,ei,n,en⟩,λx z=>(v9 ..).mpr (.inl (sb x z)),λe z hz=>?_⟩
    .simp only[gw,bM,bN,bO,reduceAdd,reduceLT,cD,bQ,bc,↓ag,st]
    .rw[v9];rcases eD.mp z with z|z
     .exact .inl (dn e (by simpa using z) hz)
     .rw[jI] at z;rw[z];exact .inr rfl
   .have hn:0<n->w∈l'.map (·.1):=λz=>o7 λy=>c ⟨z,y⟩
    have st:=ZA N l' F' h w i n a1 a3 ei en hn;refine⟨[some (.Y (c_ N)),a1,some (.aL (iL l')),a3,some (.lst ((F'.map aR).map .Y)),some (.Y (aR h)),some (.Y (aR w))],?_,l',F',_,rfl,s',sb,λe z hz=>?_⟩
    .simp only[gw,bM,bN,bO,reduceAdd,reduceLT,cD,bQ,bc,↓ag,st]
    .rcases eD.mp z with z|z
     .exact dn e (by simpa using z) hz
     .rw[jI] at z;rw[z] at hz ⊢;exact hn hz)
 rw[gu] at dn;refine⟨l',F',b6,s',sb,λx hx=>?_,?_⟩
 .rw[Ag ei] at hx;cases q:lk i x with
  |none=>rw[q] at hx;exact bZ hx (Int.lt_irrefl 0)
  |some n=>rw[q] at hx;exact dn (x,n) (LJ q) hx
 .have f1:=ym ei;have f2:(pI i).map (·.1.d)=i.map λe=>aR e.1:=by
   unfold pI;rw[Qj];exact Ir λe _=>LF e.1
  unfold vL;simp only[Zx,cO,bH,bq,bj,bf,↓ag,bx,br,bG,bC,bF,cQ,f1,bT,f2,e]
def HX:GS:=aT (av 4 (bg .lst gN)) (aT (dQ (aa 3) (bu 5) vL) (av 3 (ay (aa 4))))
theorem e7e(N:Net)(ok:nK N)(l:cR)(R:List Nd)(a1 a4 a5 a6:ao O)(c:Cm N l)(hR:∀x,x∈R->x∈l.map (·.1))(cl:∀y,y∈l.map (·.1)->y∉R->∀x,0<rr N y x->x∈l.map (·.1)):
  ∃l' F b4 b5 b6,SI N l l' F/\(∀y,y∈l'.map (·.1)->y∉F->∀x,0<rr N y x->x∈l'.map (·.1))/\
   HX [some (.Y (c_ N)),a1,some (.aL (iL l)),some (.Y (.lst (R.map aR))),a4,a5,a6]=some (.nx,[some (.Y (c_ N)),a1,some (.aL (iL l')),some (.Y (.lst (F.map aR))),b4,b5,b6]):=by
 obtain⟨ax,e,l',F,b5,b6,rfl,s,dn⟩:=nk (g:=bu 5) (f:=vL) aR (λpre Q0=>∃(l':cR) (F:List Nd) (b5 b6:ao O),Q0=[some (.Y (c_ N)),a1,some (.aL (iL l')),some (.Y (.lst (R.map aR))),some (.lst ((F.map aR).map .Y)),b5,b6]/\SI N l l' F/\∀h∈pre,∀x,0<rr N h x->x∈l'.map (·.1)) R []
  [some (.Y (c_ N)),a1,some (.aL (iL l)),some (.Y (.lst (R.map aR))),some (.lst []),a5,a6] ⟨l,[],a5,a6,rfl,⟨c,λx=>(by simp),rfl⟩,λ_ z=>(by cases z)⟩ (by
   rintro q h post Q0 eq ⟨l',F,b5,b6,rfl,s,dn⟩;have hm:h∈R:=by rw[eq];simp
   obtain⟨l2,F2,c6,s2,sb,d2,st⟩:=ZC N ok l l' F h a1 (some (.Y (.lst (R.map aR)))) b6 s (hR h hm) (c.sub ok h (hR h hm));refine⟨[some (.Y (c_ N)),a1,some (.aL (iL l2)),some (.Y (.lst (R.map aR))),some (.lst ((F2.map aR).map .Y)),some (.Y (aR h)),c6],?_,l2,F2,_,c6,rfl,s2,λy z x hx=>?_⟩
   .simp only[gw,bM,bN,bO,reduceAdd,reduceLT,cD,bQ,bc,↓ag,st]
   .rcases eD.mp z with z|z
    .exact sb x (dn y (by simpa using z) x hx)
    .rw[jI] at z;rw[z] at hx;exact d2 x hx)
 rw[gu] at dn;refine⟨l',F,some (.Y (.lst (F.map aR))),b5,b6,s,λy hy hF x hx=>?_,?_⟩
 .have hy:y∈l.map (·.1):=((s.sub y).mp hy).resolve_right hF
  by_cases m:y∈R
  .exact dn y m x hx
  .exact(s.sub x).mpr (.inl (cl y hy m x hx))
 .unfold HX;simp only[dh,eU,eQ,br,↓ag,bN,reduceLeDiff,dX,bc,bM,bO,reduceAdd,reduceLT,cD,bQ,oW,cO,bj,bx,bf,bT,e,jL,r9]
theorem Ql(N:Net)(ok:nK N)(a1:ao O):∀(n:Nat) (l:cR) (R:List Nd) (a4 a5 a6:ao O),Cm N l->(∀x,x∈R->x∈l.map (·.1))->(∀y,y∈l.map (·.1)->y∉R->∀x,0<rr N y x->x∈l.map (·.1))->N.length+2<=n+l.length+(if R=[] then 1 else 0)->
  ∃l' b3 b4 b5 b6,Cm N l'/\(∀y,y∈l'.map (·.1)->∀x,0<rr N y x->x∈l'.map (·.1))/\ja (dE (aa 3)) HX n [some (.Y (c_ N)),a1,some (.aL (iL l)),some (.Y (.lst (R.map aR))),a4,a5,a6]=some (.nx,[some (.Y (c_ N)),a1,some (.aL (iL l')),b3,b4,b5,b6])
 |0,l,R,a4,a5,a6,c,_,_,hn=>by
  have:=c.len ok;split at hn <;> lia
 |n+1,l,R,a4,a5,a6,c,hR,cl,hn=>by
  by_cases q:R=[]
  .subst q;refine⟨l,some (.Y (.lst [])),a4,a5,a6,c,λy hy=>cl y hy (by simp),?_⟩
   unfold ja;simp only[eR,jn,bj,bx,bf,↓ag,bC,QO,List.isEmpty_nil,iE,dz,ck]
  .obtain⟨l2,F,b4,b5,b6,s,Wj,st⟩:=e7e N ok l R a1 a4 a5 a6 c hR cl;rw[aY q] at hn;obtain⟨l',c3,c4,c5,c6,r1,r2,r3⟩:=Ql N ok a1 n l2 F b4 b5 b6 s.cm (λx hx=>(s.sub x).mpr (.inr hx)) Wj (by
    have:=s.len;cases F with
    |nil=>rw[aU rfl];rw[uO] at this;lia
    |cons x F=>rw[iZ] at this;split <;> lia)
   refine⟨l',c3,c4,c5,c6,r1,r2,?_⟩;rw[<-r3];have ne:(R.map aR).isEmpty=false:=by
    cases R with
    |nil=>exact bZ rfl q
    |cons x R=>rfl
   rw[ja];simp only[jn,bj,bx,bf,↓ag,bC,QO,ne,nF,st,bc]
theorem XR(N:Net)(ok:nK N):∃l,Cm N l/\(∀y,y∈l.map (·.1)->∀x,0<rr N y x->x∈l.map (·.1))/\rX [.Y (c_ N),.Y (aR .st)]=some (.aL (iL l),[none,none]):=by
 have hn:=ok.nl;obtain⟨l,b3,b4,b5,b6,c,cl,e⟩:=Ql N ok (some (.Y (aR .st))) 1000000 [(.st,none)] [.st] none none none .base (λx hx=>hx) (λy hy hR=>bZ hy hR) (by
  rw[ko];split <;> lia)
 refine⟨l,c,cl,?_⟩;have me:JR=aT (av 2 (Cn (aa 1) (gC .bL))) (aT (av 3 (ay (bg .lst (aj (aa 1) gN)))) (aT (ja (dE (aa 3)) HX 1000000) (aP (fw (aa 2))))):=rfl;have e0:iL [(.st,none)]=[(ef .st,.Y .bL)]:=rfl;have e1:[Nd.st].map aR=[aR .st]:=rfl;rw[e0,e1] at e;unfold rX;rw[me];simp only[gk,eM,eR,bM,bN,bO,reduceAdd,reduceSub,fZ,fF,fG,fH,dh,eU,Xg,bj,bx,bf,↓ag,bP,rA,↓evMap,reduceLT,cD,bQ,bc,cO,eQ,bq,br,reduceLeDiff,eS,dX,jL,fq,bT,fm,e,eV,rZ,gG,gq,gr,gy,gn]
theorem Vt(N:Net)(l:cR)(h:rX [.Y (c_ N),.Y (aR .st)]=some (.aL (iL l),[none,none])):bor rX [bU N,.Y (aR .st)]=some (.aL (iL l),[some (bU N),none]):=by
 have d2:wM (bU N)=true:=by
  show(pM N).all _=true;rw[jH];intro p hp;obtain⟨e,_,rfl⟩:=iQ.mp hp;show(HJ e.2).all _=true;rw[jH];intro p hp;obtain⟨e,_,rfl⟩:=iQ.mp hp;rfl
 have c1:qM (.aL (iL l))=true:=by
  have:∀l:cR,n9 (iL l)=true:=by
   intro l
   induction l with
   |nil=>rfl
   |cons e l ih=>
    show n9 ((ef e.1,Gw e.2)::iL l)=true;simp only[n9,ih,En];cases e.2 with
    |none=>simp[Gw,qM,rD]
    |some v=>
     show qM (.Y (aR v))=true;simp only[qM];rw[<-LF];exact KQ _
  simp only[qM];exact this l
 unfold bor;dsimp only;rw[aU d2,Sd,h];dsimp only[Option.bind_some];rw[aU ⟨c1,rfl⟩]
noncomputable def iO(N:Net):List (Nd×List Nd):=N.map λe=>(e.1,e.2.map (·.1))
theorem Gu(v:Nd):∀N:Net,lk (iO N) v=(lk N v).map (·.map (·.1))
 |[]=>rfl
 |e::N=>by
  show lk ((e.1,e.2.map (·.1))::iO N) v=_
  rw[lE,lE,Gu v N];split <;> rfl
theorem ur:kx N v w↔∃ks,lk (iO N) v=some ks/\w∈ks:=by
 rw[Gu];unfold kx;constructor
 .rintro⟨i,e,n,e2⟩;exact⟨_,by rw[e];rfl,fx.mp ⟨n,e2⟩⟩
 .rintro⟨ks,e,m⟩;cases q:lk N v with
  |none=>rw[q] at e;cases e
  |some i=>
   rw[q] at e;cases e;exact⟨i,rfl,fx.mpr m⟩
theorem Fh(N:Net):N.map (·.1)=(iO N).map (·.1):=by
 unfold iO;rw[oQ];rfl
theorem nK.same(ok:nK N)(h:iO N'=iO N):nK N':=by
 have hk:N'.map (·.1)=N.map (·.1):=by rw[Fh,Fh,h]
 have hl:∀v i,lk N' v=some i->∃j,lk N v=some j/\i.map (·.1)=j.map (·.1):=λv i e=>by
  have a:=Gu v N;have b:=Gu v N';rw[h,a,e] at b;cases q:lk N v with
  |none=>rw[q] at b;cases b
  |some j=>rw[q] at b;injection b with b;exact⟨j,rfl,b.symm⟩
 refine⟨λv w=>?_,by rw[hk];exact ok.st,by rw[hk];exact ok.nd,λv i e=>?_,?_,λv i e=>?_⟩
 .rw[ur,ur,h,<-ur,<-ur];exact ok.sy v w
 .obtain⟨j,e1,e2⟩:=hl v i e;rw[e2];exact ok.ni v j e1
 .have:=congrArg List.length hk;rw[bK,bK] at this;rw[this];exact ok.nl
 .obtain⟨j,e1,e2⟩:=hl v i e;have:=congrArg List.length e2;rw[bK,bK] at this;rw[this];exact ok.il v j e1
theorem Sl{a:Nd}{i i':qH}(hi:i'.map (·.1)=i.map (·.1)):∀{N:Net},lk N a=some i->iO (pt N a i')=iO N
 |[],h=>by cases h
 |e::N,h=>by
  rw[lE] at h;show iO (if e.1=a then(e.1,i')::N else e::pt N a i')=_
  by_cases q:e.1=a
  .rw[aU q] at h ⊢;injection h with h;show(e.1,i'.map (·.1))::iO N=(e.1,e.2.map (·.1))::iO N
   rw[hi,h]
  .rw[aY q] at h ⊢;show(e.1,e.2.map (·.1))::iO (pt N a i')=(e.1,e.2.map (·.1))::iO N
   rw[Sl hi h]
theorem Sm{n:Int}(h:lk N a=some i)(h2:lk i b=some m):iO (jM N a b n)=iO N:=by
 unfold jM;rw[h];exact Sl (by rw[B4,aU (fx.mp ⟨m,h2⟩)]) h
def BC(l:cR):List Nd->Prop
 |[]=>False
 |[x]=>lk l x=some none
 |x::y::p=>lk l x=some (some y)/\BC l (y::p)
theorem Cm.step{N:Net}{l:cR}(c:Cm N l):∀x y,lk l x=some (some y)->0<rr N y x/\kx N y x/\x≠y:=by
 induction c with
 |base=>
  intro x y h;rw[lE] at h;split at h
  .cases h
  .cases h
 |@ext l a b h1 h2 h3 h4 h5 ih=>
  intro x y h;rw[zY] at h;cases q:lk l x with
  |some z=>rw[q] at h;exact ih x y (by rw[q];exact h)
  |none=>
   rw[q] at h;have h:lk [(a,some b)] x=some (some y):=h;rw[lE] at h;split at h
   .rename_i e
    cases h;dsimp only at e;rw[<-e];exact⟨h4,h5,λz=>h3 (by rw[z];exact h2)⟩
   .cases h
theorem J6{l m:cR}:∀{p:List Nd},(∀v,v∈p->v∈l.map (·.1))->BC l p->BC (l++m) p
 |[],_,h=>h
 |[x],hv,h=>by
  show lk (l++m) x=some none;have h:lk l x=some none:=h;rw[zY,h]
 |x::y::p,hv,h=>by
  refine⟨?_,J6 (λv z=>hv v (.tail _ z)) h.2⟩
  rw[zY,h.1]
theorem Cm.path(c:Cm N l):∀x,x∈l.map (·.1)->∃p,BC l (x::p)/\(x::p).Nodup/\(∀v,v∈x::p->v∈l.map (·.1))/\(x::p).getLast?=some .st/\kQ (rr N) (x::p):=by
 induction c with
 |base=>
  intro x h;rw[uP,jI] at h;subst h;exact⟨[],rfl,by simp,λv z=>z,rfl,ig⟩
 |@ext l a b h1 h2 h3 h4 h5 ih=>
  intro x h;rcases(v9 ..).mp h with h|h
  .obtain⟨p,q1,q2,q3,q4,q5⟩:=ih x h;exact⟨p,J6 q3 q1,q2,λv z=>(v9 ..).mpr (.inl (q3 v z)),q4,q5⟩
  .subst h;obtain⟨p,q1,q2,q3,q4,q5⟩:=ih b h2;refine⟨b::p,⟨?_,J6 q3 q1⟩,ib.mpr ⟨λz=>h3 (q3 _ z),q2⟩,λv z=>?_,by rw[List.getLast?_cons_cons];exact q4,h4,q5⟩
   .rw[zY,kF.mpr h3];show lk [(x,some b)] x=_;rw[lE,aU rfl]
   .rw[v9];rcases eO.mp z with z|z
    .exact .inr z
    .exact .inl (q3 v z)
theorem Kt{x:Nd}{y:ao Nd}(e:lk l x=some y):dN (.Y (.aL (dP l))) (aR x)=some (.Y (Ak y)):=by
 have q:dN (.Y (.aL (dP l))) (aR x)=(cH (aR x)).bind λk=>(jZ (dP l) k).map .Y:=by
  cases x <;> rfl
 rw[q,rA,Option.bind_some];unfold dP;rw[yb ef pk,e];rfl
def pC:GT:=gT (gB (ox true) (gB bt (aa 1) (aa 3)) (gC .bL))
def pB:GS:=aT (av 4 (gB bt (aa 1) (aa 3)))
 (aT (uA (λi j=>i - j) 0 (sV 4) (sV 3) (sC (.int 1))) (aT (uA (λi j=>i+j) 0 (sV 3) (sV 4) (sC (.int 1))) (av 3 (aa 4))))
theorem ZD(v:Nd):ox true [.Y (aR v),.Y .bL]=some (.Y (.bl true)):=by
 cases v <;> rfl
theorem ZE:ox true [.Y .bL,.Y .bL]=some (.Y (.bl false)):=rfl
theorem e7f{x:Nd}(e:lk l x=some (some y)):pC [some (bU N),some (.Y (.aL (dP l))),a2,some (.Y (aR x)),a4]=some (true,[some (bU N),some (.Y (.aL (dP l))),a2,some (.Y (aR x)),a4]):=by
 have f:=Kt e;have f2:=ZD y;rw[show Ak (some y)=aR y from rfl] at f;unfold pC;simp only[cU,bH,bq,bj,bx,bf,↓ag,br,bG,bC,bF,cQ,f,bP,f2]
theorem e9q{x:Nd}(e:lk l x=some none):pC [some (bU N),some (.Y (.aL (dP l))),a2,some (.Y (aR x)),a4]=some (false,[some (bU N),some (.Y (.aL (dP l))),a2,some (.Y (aR x)),a4]):=by
 have f:=Kt e;rw[show Ak none=.bL from rfl] at f;unfold pC;simp only[cU,bH,bq,bj,bx,bf,↓ag,br,bG,bC,bF,cQ,f,bP,ZE]
theorem WC(ok:nK N){x:Nd}(e:lk l x=some (some y))(ha:kx N y x)(pH:x≠y):
  ∃N',iO N'=iO N/\(∀v w,rr N' v w=aug (rr N) y x v w)/\pB [some (bU N),some (.Y (.aL (dP l))),a2,some (.Y (aR x)),a4]=some (.nx,[some (bU N'),some (.Y (.aL (dP l))),a2,some (.Y (aR y)),some (.Y (aR y))]):=by
 have ha':=ok.sy y x ha;obtain⟨i,e1,n,e2⟩:=ha;obtain⟨j,e3,m,e4⟩:=ha';have e5:lk (jM N y x (n - 1)) x=some j:=by rw[CM e1,aY (Ne.symm pH)];exact e3
 refine⟨jM (jM N y x (n - 1)) x y (m+1),by rw[Sm e5 e4,Sm e1 e2],λv w=>?_,?_⟩
 .rw[G0 e5,G0 e1];unfold aug;by_cases c1:v=y/\w=x
  .rw[aY (λz=>pH (z.1.symm.trans c1.1)),aU c1,aU c1,c1.1,c1.2,Ag e1,e2];rfl
  .rw[aY c1];by_cases c2:v=x/\w=y
   .rw[aU c2,aY c1,aU c2,c2.1,c2.2,Ag e3,e4];rfl
   .rw[aY c2,aY c1,aY c2]
 .have f:=Kt e;rw[show Ak (some y)=aR y from rfl] at f;have p1:uA (λi j=>i - j) 0 (sV 4) (sV 3) (sC (.int 1)) [some (bU N),some (.Y (.aL (dP l))),a2,some (.Y (aR x)),some (.Y (aR y))]=some (.nx,[some (bU (jM N y x (n - 1))),some (.Y (.aL (dP l))),a2,some (.Y (aR x)),some (.Y (aR y))]):=Ro e1 e2 (by have:=ok.il _ _ e1;lia) rfl rfl rfl rfl
  have p2:uA (λi j=>i+j) 0 (sV 3) (sV 4) (sC (.int 1)) [some (bU (jM N y x (n - 1))),some (.Y (.aL (dP l))),a2,some (.Y (aR x)),some (.Y (aR y))]=some (.nx,[some (bU (jM (jM N y x (n - 1)) x y (m+1))),some (.Y (.aL (dP l))),a2,some (.Y (aR x)),some (.Y (aR y))]):=Ro e5 e4 (by have:=ok.il _ _ e3;lia) rfl rfl rfl rfl
  unfold pB;simp only[dh,eU,bH,bq,bj,bx,bf,↓ag,br,bG,bC,bF,cQ,f,bM,bN,bO,reduceAdd,reduceLT,cD,bQ,bc,p1,p2]
theorem Pp(l:cR)(a2:ao O):∀(p:List Nd) (x:Nd) (N:Net) (n:Nat) (a4:ao O),nK N->BC l (x::p)->(∀x y,lk l x=some (some y)->kx N y x/\x≠y)->p.length<n->
  ∃N' b3 b4,iO N'=iO N/\(∀v w,rr N' v w=jS (rr N) (x::p) v w)/\ja pC pB n [some (bU N),some (.Y (.aL (dP l))),a2,some (.Y (aR x)),a4]=some (.nx,[some (bU N'),some (.Y (.aL (dP l))),a2,b3,b4])
 |p,x,N,0,a4,ok,hp,ha,hn=>bZ hn (Ba _)
 |[],x,N,n+1,a4,ok,hp,ha,hn=>by
  have hp:lk l x=some none:=hp;refine⟨N,some (.Y (aR x)),a4,rfl,λ_ _=>rfl,?_⟩
  have f:=e9q (N:=N) (a2:=a2) (a4:=a4) hp;rw[ja];simp only[f,↓ag,dz,ck]
 |y::p,x,N,n+1,a4,ok,hp,ha,hn=>by
  obtain⟨N1,s1,r1,st⟩:=WC ok (a2:=a2) (a4:=a4) hp.1 (ha x y hp.1).1 (ha x y hp.1).2;have f:=e7f (N:=N) (a2:=a2) (a4:=a4) hp.1;obtain⟨N',b3,b4,s2,r2,e⟩:=Pp l a2 p y N1 n (some (.Y (aR y))) (ok.same s1) hp.2 (λx y h=>⟨by rw[ur,s1,<-ur];exact(ha x y h).1,(ha x y h).2⟩) (Nat.lt_of_succ_lt_succ hn)
  refine⟨N',b3,b4,s2.trans s1,λv w=>?_,?_⟩
  .rw[r2];have:(rr N1)=aug (rr N) y x:=by funext v w;exact r1 v w
   rw[this];rfl
  .rw[<-e,ja];simp only[f,↓ag,st,bc]
theorem e7g(N:Net)(ok:nK N)(l:cR)(c:Cm N l)(he:.en∈l.map (·.1)):∃N' p,iO N'=iO N/\(∀v w,rr N' v w=jS (rr N) (.en::p) v w)/\(Nd.en::p).Nodup/\(∀v,v∈Nd.en::p->v∈N.map (·.1))/\(Nd.en::p).getLast?=some .st/\kQ (rr N) (.en::p)/\zV [bU N,.Y (.aL (dP l)),.Y (aR .en)]=some (.Y .bL,[some (bU N'),none,none]):=by
 obtain⟨p,q1,q2,q3,q4,q5⟩:=c.path .en he;have hl:=xP q2 q3;rw[bK,iZ] at hl;have h2:=c.len ok;have h3:=ok.nl;obtain⟨N',b3,b4,s,r,e⟩:=Pp l (some (.Y (aR .en))) p .en N 1000000 none ok q1 (λx y h=>(c.step x y h).2) (by lia)
 refine⟨N',p,s,r,q2,λv z=>c.sub ok v (q3 v z),q4,q5,?_⟩
 have me:K3=aT (av 3 (aa 2)) (ja pC pB 1000000):=rfl;unfold zV;rw[me];simp only[gk,eM,eR,bM,bN,bO,reduceAdd,reduceSub,fZ,fF,fG,fH,dh,eU,bj,bx,bf,↓ag,reduceLT,cD,bQ,bc,e,SK,gq,gr,r_,gy,gn]
theorem Ta(l:cR):(O.aL (iL l)).d=.aL (dP l):=by show D.aL (O.dk (iL l))=_;rw[Sk]
theorem Rt(N:Net)(ok:nK N):∃l,Cm N l/\(∀y,y∈l.map (·.1)->∀x,0<rr N y x->x∈l.map (·.1))/\bor rX [bU N,.Y (aR .st)]=some (.aL (iL l),[some (bU N),none]):=by
 obtain⟨l,c,cl,e⟩:=XR N ok;exact⟨l,c,cl,Vt N l e⟩
def Hv:GT:=gT (gB (cj false) (aa 2) (aa 3))
def Hu:GS:=aT (jv (aK zV (aj (aa 0) (aj (aa 3) (aj (aa 2) gN))))) (av 3 (ay (aK (bor rX) (aj (aa 0) (aj (aa 1) gN)))))
def vf(N:Net)(l:cR):Gm:=[some (bU N),some (.Y (aR .st)),some (.Y (aR .en)),some (.Y (.aL (dP l)))]
theorem SV(N:Net)(l:cR)(b:Bool)(hb:b=true↔.en∈l.map (·.1)):Hv (vf N l)=some (b,vf N l):=by
 have f:=J5 false l .en b hb;unfold Hv vf;simp only[cU,bH,bq,bj,bx,bf,↓ag,br,bG,bC,bF,f,dz,ck]
theorem e9r(N N1:Net)(l l1:cR)(h1:zV [bU N,.Y (.aL (dP l)),.Y (aR .en)]=some (.Y .bL,[some (bU N1),none,none]))(h2:bor rX [bU N1,.Y (aR .st)]=some (.aL (iL l1),[some (bU N1),none])):Hu (vf N l)=some (.nx,vf N1 l1):=by
 unfold Hu vf;simp only[dh,jJ,gP,bq,bj,bf,↓ag,bx,br,kr,bQ,gM,gL,h1,lF,iK,iJ,eU,cO,h2,Ta,bM,bN,bO,reduceAdd,reduceLT,cD,bc]
theorem iN{V:List Nd}{r0:Nd->Nd->Int}{B:Int}(hB:∀r,j6 V .st .en r0 r->ex V r0 r .st<=B):∀(n:Nat) (N:Net) (l:cR),nK N->(∀v,v∈N.map (·.1)->v∈V)->j6 V .st .en r0 (rr N)->Cm N l->(∀y,y∈l.map (·.1)->∀x,0<rr N y x->x∈l.map (·.1))->B<ex V r0 (rr N) .st+n->
  ∃N' l',iO N'=iO N/\j6 V .st .en r0 (rr N')/\Cm N' l'/\(∀y,y∈l'.map (·.1)->∀x,0<rr N' y x->x∈l'.map (·.1))/\.en∉l'.map (·.1)/\ja Hv Hu n (vf N l)=some (.nx,vf N' l')
 |0,N,l,ok,hV,F,c,cl,hn=>by
  have:=hB _ F;simp only[Int.natCast_zero,Int.add_zero] at hn;lia
 |n+1,N,l,ok,hV,F,c,cl,hn=>by
  by_cases he:Nd.en∈l.map (·.1)
  .obtain⟨N1,p,s1,r1,n1,v1,g1,m1,e1⟩:=e7g N ok l c he;have er:rr N1=jS (rr N) (.en::p):=by funext v w;exact r1 v w
   obtain⟨F1,x1⟩:=F.push n1 (λv z=>hV v (v1 v z)) g1 m1
   rw[<-er] at F1 x1;have yW:=ok.same s1;obtain⟨l1,c1,Wi,e2⟩:=Rt N1 yW;have hk:N1.map (·.1)=N.map (·.1):=by rw[Fh,Fh,s1]
   obtain⟨N',l',q1,q2,q3,q4,q5,q6⟩:=iN hB n N1 l1 yW (by rw[hk];exact hV) F1 c1 Wi (by
    rw[x1];have:((n+1:Nat):Int)=(n:Int)+1:=rfl;lia)
   refine⟨N',l',q1.trans s1,q2,q3,q4,q5,?_⟩;have f1:=SV N l true ⟨λ_=>he,λ_=>rfl⟩
   have f2:=e9r N N1 l l1 e1 e2;rw[<-q6,ja];simp only[f1,↓ag,f2,bc]
  .refine⟨N,l,rfl,F,c,cl,he,?_⟩;have f1:=SV N l false ⟨λz=>(by cases z),λz=>bZ z he⟩
   rw[ja];simp only[f1,↓ag,dz,ck]
theorem e7i{V:List Nd}{B:Int}(N:Net)(ok:nK N)(hV:∀v,v∈N.map (·.1)->v∈V)(F:j6 V .st .en (rr N) (rr N))(hB:∀r,j6 V .st .en (rr N) r->ex V (rr N) r .st<=B)(hb:B<1000):
  ∃N' l',iO N'=iO N/\j6 V .st .en (rr N) (rr N')/\Cm N' l'/\(∀y,y∈l'.map (·.1)->∀x,0<rr N' y x->x∈l'.map (·.1))/\.en∉l'.map (·.1)/\Gp [bU N,.Y (aR .st),.Y (aR .en)]=some (.Y (.aL (dP l')),[some (bU N'),none,none]):=by
 obtain⟨l,c,cl,e⟩:=Rt N ok;have e0:ex V (rr N) (rr N) .st=0:=zQ λv _=>by lia
 obtain⟨N',l',q1,q2,q3,q4,q5,q6⟩:=iN hB 1000000 N l ok hV F c cl (by rw[e0];lia)
 refine⟨N',l',q1,q2,q3,q4,q5,?_⟩;unfold vf at q6;have me:K5=aT (av 3 (ay (aK (bor rX) (aj (aa 0) (aj (aa 1) gN))))) (aT (ja Hv Hu 1000000) (aP (aa 3))):=rfl;unfold Gp;rw[me];simp only[gk,eM,eR,bM,bN,bO,reduceAdd,reduceSub,fZ,fF,fG,fH,dh,eU,cO,gP,bq,bj,bf,↓ag,bx,br,kr,bQ,gM,gL,e,lF,iK,iJ,Ta,reduceLT,cD,bc,q6,eV,gG,gq,gr,r_,gy,gn]
section
variable{α:Type}[DecidableEq α](kk:α->TK)(inj:∀a b,kk a=kk b->a=b)
noncomputable def kE(ks:List α):List (TK×O):=ks.map λk=>(kk k,.Y (.bl true))
noncomputable def jc(ks:List α)(c:α):List α:=if c∈ks then ks else ks++[c]
def dy(ks cs:List α):List α:=cs.foldl jc ks
include inj in
theorem Ru(c:α):∀ks:List α,df (kE kk ks) (kk c) (.Y (.bl true))=kE kk (jc ks c)
 |[]=>rfl
 |k::ks=>by
  have ih:=Ru c ks;show(if kk k=kk c then(kk k,O.Y (.bl true))::kE kk ks else(kk k,O.Y (.bl true))::df (kE kk ks) (kk c) (.Y (.bl true)))=_
  unfold jc at *;by_cases e:k=c
  .rw[aU (by rw[e]),aU (by rw[e];exact .head _)];rfl
  .rw[aY (λz=>e (inj _ _ z)),ih]
   by_cases m:c∈ks
   .rw[aU m,aU (.tail _ m)];rfl
   .rw[aY m,aY (λz=>by
     rcases eO.mp z with z|z
     .exact e z.symm
     .exact m z)]
    rfl
include inj in
theorem e7j(d:D)(c:α)(hd:cH d=some (kk c))(ks:List α)(hl:ks.length<1000000):kj (.aL (kE kk ks)) [.Y (.bl true),.Y d]=some (.aL (kE kk (jc ks c)),.Y .bL):=by
 rw[Kr,hd,Option.bind_some,aU (by unfold kE;rw[bK];exact hl),Ru kk inj]
end
section
variable{α:Type}[DecidableEq α]
theorem XS{ks:List α}{c x:α}:x∈jc ks c↔x∈ks\/x=c:=by
 unfold jc;split
 .rename_i m
  exact⟨.inl,λz=>z.elim id λe=>by rw[e];exact m⟩
 .rw[eD,jI]
theorem jR:∀{cs ks:List α} {x:α},x∈dy ks cs↔x∈ks\/x∈cs
 |[],ks,x=>by show x∈ks↔_;simp
 |c::cs,ks,x=>by
  show x∈dy (jc ks c) cs↔_;rw[jR,XS,eO,or_assoc]
theorem Vu{ks:List α}{c:α}(h:ks.Nodup):(jc ks c).Nodup:=by
 unfold jc;split
 .exact h
 .rename_i m
  rw[jk];exact⟨h,by simp,λa ha b hb e=>by simp at hb;subst hb e;exact m ha⟩
theorem Ov:∀{cs ks:List α},ks.Nodup->(dy ks cs).Nodup
 |[],ks,h=>h
 |c::cs,ks,h=>Ov (cs:=cs) (Vu h)
theorem Pq(ks cs ds:List α):dy ks (cs++ds)=dy (dy ks cs) ds:=by unfold dy;rw[List.foldl_append]
theorem Jw:∀{cs ks:List α},(dy ks cs).length<=ks.length+cs.length
 |[],ks=>cP _
 |c::cs,ks=>by
  have h1:=Jw (cs:=cs) (ks:=jc ks c);have h2:(jc ks c).length<=ks.length+1:=by
   unfold jc;split
   .exact Ik _
   .simp
  show(dy (jc ks c) cs).length<=_;rw[iZ];lia
end
abbrev Pl:=Str×Int
variable{p q:Pl}{P now:List Pl}{ys:List (Nat×List Pl)}
def aN(p:Pl):D:=.tup [.str p.1,.int p.2]
def lI(p:Pl):TK:=.tp [.inr p.1,.inl p.2]
theorem Sn(p:Pl):cH (aN p)=some (lI p):=by
 simp[aN,lI,cH,lu,oJ,TK.ok]
theorem ZF(a b:Pl)(e:lI a=lI b):a=b:=by
 obtain⟨x,i⟩:=a;obtain⟨y,j⟩:=b;unfold lI at e;injection e with e;injection e with e1 e;injection e with e2 e;injection e1 with e1;injection e2 with e2;dsimp only at e1 e2;rw[e1,e2]
def jo(h:aA)(p:Pl):List Sp:=kn h (.inr p)++[.inr p]
def y4:Sp->ao Pl
 |.inl _=>none
 |.inr p=>some p
def iV(h:aA)(p:Pl):List Pl:=(jo h p).filterMap y4
theorem mQ:q∈iV h p↔Sum.inr q∈jo h p:=by
 unfold iV;rw[zh];constructor
 .rintro⟨s,hs,e⟩;cases s with
  |inl x=>cases e
  |inr r=>cases e;exact hs
 .exact λz=>⟨_,z,rfl⟩
theorem Ku:∀ss:List Sp,(ss.filter λs => !s.isLeft).map aX=(ss.filterMap y4).map aN
 |[]=>rfl
 |.inl x::ss=>Ku ss
 |.inr p::ss=>by
  show aX (.inr p)::(ss.filter λs => !s.isLeft).map aX=aN p::(ss.filterMap y4).map aN
  rw[Ku ss];rfl
def VP(h:aA)(p:Pl):Prop:=∃b∈h.aM,b.name=p.1/\0<=p.2/\p.2<b.long
theorem Gv(ok:hG h){b:bp}(hb:b∈h.aM)(c:Int):jo h (b.name,c)=jD h b c++[.inr (b.name,c)]:=by
 unfold jo;rw[Rf ok.fwd hb]
theorem Kv(ok:hG h)(v:VP h p):(jo h p).length<=31:=by
 obtain⟨n,c⟩:=p;obtain⟨b,hb,e,_⟩:=v;dsimp only at e;subst e;rw[Gv ok hb,du,ko];have:=Pn h b c (ok.bk b hb).ol;lia
theorem FL(ok:hG h)(v:VP h p):(iV h p).length<=31:=
 nD (List.length_filterMap_le _ _) (Kv ok v)
theorem Pr(ok:hG h)(v:VP h p)(hq:q∈iV h p):VP h q:=by
 rw[mQ] at hq;obtain⟨n,c⟩:=p;obtain⟨b,hb,e,c0,c1⟩:=v;dsimp only at e c0 c1;subst e;rw[Gv ok hb] at hq;rcases eD.mp hq with hq|hq
 .unfold jD at hq;split at hq
  .rename_i hc
   rw[jI] at hq;cases hq;exact⟨b,hb,rfl,by show 0<=c+1;lia,hc⟩
  .rcases eD.mp hq with z|z
   .obtain⟨o,ho,e⟩:=iQ.mp z;split at e
    .cases e
    .rename_i hc
     cases e;rcases J3 ok.fwd b hb o ho with y|y
     .obtain⟨x,hx,ex⟩:=iQ.mp y;exact⟨x,hx,ex,Bb 0,by have:=(ok.bk x hx).lg.1;show 0<x.long;lia⟩
     .exact bZ (Ek.mpr y) hc
   .split at z
    .rw[jI] at z;cases z;exact⟨b,hb,rfl,Bb 0,by show 0<b.long;lia⟩
    .cases z
 .rw[jI] at hq;cases hq;exact⟨b,hb,rfl,c0,c1⟩
theorem NH(ok:hG h)(v:VP h p):zP [.Y (cq h),.Y (aN p)]=some (.lst (((jo h p).map aX).map .Y),[none,none]):=by
 obtain⟨n,c⟩:=p;obtain⟨b,hb,e,_⟩:=v;dsimp only at e;subst e;rw[Gv ok hb];exact Zr h ok b hb c
noncomputable def at'(p:Pl)(m:Int):Ct:=(p.1,p.2,m)
def rM(h:aA)(af:Str)(pl:Int)(p:Pl)(m:Int):List (Nd×Nd×Int):=
 (Nd.gi (at' p m),Nd.go (at' p m),1)::((if dR (.inl af) (jo h p)=true then[(Nd.go (at' p m),Nd.en,pl)] else[])++(iV h p).map λq=>(Nd.go (at' p m),Nd.gi (at' q (m+1)),pl))
def cg(N:Net)(L:List (Nd×Nd×Int)):Net:=L.foldl (λN e=>fN N e.1 e.2.1 e.2.2) N
theorem Fi(N:Net)(L M:List (Nd×Nd×Int)):cg N (L++M)=cg (cg N L) M:=by unfold cg;rw[List.foldl_append]
theorem yd:∀(L:List (Nd×Nd×Int)) {N:Net} {k:Nat},Sz N k->Sz (cg N L) (k+4*L.length)
 |[],N,k,s=>s
 |e::L,N,k,s=>by
  have:=yd L (Sh e.1 e.2.1 e.2.2 s);rw[iZ,show k+4*(L.length+1)=k+4+4*L.length by lia]
  exact this
theorem Sz.mono{j:Nat}(s:Sz N k)(h:k<=j):Sz N j:=⟨by have:=s.l;lia,λv i e=>by have:=s.i v i e;lia⟩
theorem ZG(ok:hG h)(v:VP h p):(rM h af pl p m).length<=33:=by
 unfold rM;rw[iZ,du,bK];have:=FL ok v;have:(if dR (.inl af) (jo h p)=true then[(Nd.go (at' p m),Nd.en,pl)] else[]).length<=1:=by split <;> simp
 lia
theorem Rv(neg:Bool)(x:Sp)(as:List Sp):cj neg [.Y (aX x),.Y (.lst (as.map aX))]=some (.Y (.bl (if neg then !dR x as else dR x as))):=by
 have key:((oF (O.Y (.lst (as.map aX))).d).bind λds=>if cJ 40 (O.Y (aX x)).d=true/\ds.all (cJ 40)=true then some (O.Y (.bl (if neg then !ds.any λz=>bh z (O.Y (aX x)).d else ds.any λz=>bh z (O.Y (aX x)).d))) else none)=some (.Y (.bl (if neg then !dR x as else dR x as))):=by
  rw[bT,bT];show(Option.bind (some (as.map aX)) _)=_;rw[Option.bind_some,aU ⟨yr 39 x,K7 39 as⟩,R9]
 cases x with
 |inl y=>exact key
 |inr p=>exact key
theorem FN(p:Pl)(m:Int):uC [.Y (aN p),.Y (.int m)]=some (.tup [.Y (cy (at' p m)),.Y (.str "into")],[none,none]):=e7c p.1 p.2 m
theorem yC(c:Ct):D.tup [cy c,.str "into"]=aR (.gi c):=rfl
theorem C0(c:Ct):D.tup [cy c,.str "out of"]=aR (.go c):=rfl
theorem SW(c:Ct):dN (.Y (aR (.gi c))) (.int 0)=some (.Y (cy c)):=rfl
def oh:GS:=jv (aK uD (aj (aa 0) (aj (aa 7) (aj (ay (aK uC (aj (aa 10) (aj (ay (gB bY (aa 3) (gC (.int 1)))) gN)))) (aj (aa 5) gN)))))
def sJ:GE:=kT (km (aa 8)) (bu 0) (dE (gO cI (aj (aa 0) (aj (gC (.ty "tuple")) gN)))) (aa 0) 1 []
def vd:GS:=cf (gT (gB (cj false) (aa 4) (aa 8)))
  (jv (aK uD (aj (aa 0) (aj (aa 7) (aj (ay (gC (.str "the end"))) (aj (aa 5) gN))))))
  bw
def mf(h:aA)(af:Str)(pl:Int)(p:Pl)(m:Int)(N:Net)(a8 a9 cx:ao O):Gm:=
 [some (bU N),some (.Y (cq h)),some (.Y (aN p)),some (.Y (.int m)),some (fS af),some (.Y (.int pl)),some (.Y (aR (.gi (at' p m)))),some (.Y (aR (.go (at' p m)))),a8,a9,cx]
theorem WD(h:aA)(af:Str)(pl:Int)(p q:Pl)(m:Int)(N:Net)(k:Nat)(s:Sz N k)(hk:k<900000)(a8 a9:ao O):
  oh (mf h af pl p m N a8 a9 (some (.Y (aN q))))=some (.nx,mf h af pl p m (fN N (.go (at' p m)) (.gi (at' q (m+1))) pl) a8 a9 (some (.Y (aN q)))):=by
 have e1:=FN q (m+1);have e2:=G1 N k (.go (at' p m)) (.gi (at' q (m+1))) pl s hk;unfold oh mf;simp only[jJ,gP,bq,bj,bf,↓ag,bx,cO,bH,bP,br,bG,bC,bF,iG,bT,gM,gL,e1,iK,iJ,h_,fq,fm,yC,kr,bQ,e2,lF]
theorem XT(h:aA)(af:Str)(pl:Int)(p:Pl)(m:Int)(N:Net)(k:Nat)(s:Sz N k)(hk:k<900000)(a9 cx:ao O):
  vd (mf h af pl p m N (some (.Y (.lst ((jo h p).map aX)))) a9 cx)=some (.nx,mf h af pl p m (cg N (if dR (.inl af) (jo h p)=true then[(Nd.go (at' p m),Nd.en,pl)] else[])) (some (.Y (.lst ((jo h p).map aX)))) a9 cx):=by
 have e1:=Rv false (.inl af) (jo h p);rw[show aX (.inl af)=.str af from rfl] at e1;have e2:=G1 N k (.go (at' p m)) .en pl s hk;rw[show aR .en=.str "the end" from rfl] at e2;unfold vd mf;cases c:dR (.inl af) (jo h p) with
 |true=>
  rw[c] at e1;simp only[dW,cU,bH,bq,bj,bx,bf,↓ag,br,bG,bC,bF,e1,dz,ck,jJ,gP,cO,bP,bT,kr,bQ,gM,gL,e2,lF,iK,iJ,dU,bc];rfl
 |false=>
  rw[c] at e1;simp only[dW,cU,bH,bq,bj,bx,bf,↓ag,br,bG,bC,bF,e1,dz,ck,jJ,gP,cO,bP,bT,kr,bQ,gM,gL,dU];rfl
theorem WE(h:aA)(ok:hG h)(af:Str)(pl:Int)(p:Pl)(v:VP h p)(m:Int)(N:Net)(a9 cx:ao O):
  sJ (mf h af pl p m N (some (.Y (.lst ((jo h p).map aX)))) a9 cx)=some (.own (.lst (((iV h p).map aN).map .Y)),mf h af pl p m N (some (.Y (.lst ((jo h p).map aX)))) a9 cx):=by
 have hl:=Kv ok v;obtain⟨ax,⟨a,rfl⟩,e⟩:=xU (g:=bu 0) (ct:=dE (gO cI (aj (aa 0) (aj (gC (.ty "tuple")) gN)))) (ce:=aa 0) (λQ0=>∃a,Q0=[a]) aX (λs => !s.isLeft) aX (jo h p) [] [none] ⟨_,rfl⟩ (by rw[uO];lia) (by
  rintro s hs Q0 ⟨a,rfl⟩;refine⟨[some (.Y (aX s))],?_,_,rfl⟩;have f:=Zq s;unfold rW;cases q:s.isLeft with
  |true=>
   rw[q] at f;simp only[gw,bM,bN,bO,reduceLT,bQ,bc,↓ag,jn,bH,bq,bj,bf,bP,br,bG,bC,bF,f,iE,jQ,dz,ck]
  |false=>
   rw[q] at f;simp only[gw,bM,bN,bO,reduceLT,bQ,bc,↓ag,jn,bH,bq,bj,bf,bP,br,bG,bC,bF,f,nF,jQ])
 rw[gu,Ku] at e;rw[show([]:List D).map O.Y=[] from rfl] at e;unfold sJ mf iV;simp only[oT,wq,cO,bj,bx,bf,↓ag,bT,fZ,fF,ph,fG,fH,e,bM,bN,bO,reduceAdd,qC,o6,pj,bc]
theorem ZH(h:aA)(af:Str)(pl:Int)(p x:Pl)(m:Int)(N:Net)(a8 a9 ij:ao O):bu 10 (aN x) (mf h af pl p m N a8 a9 ij)=some (mf h af pl p m N a8 a9 (some (.Y (aN x)))):=by
 unfold mf;simp only[gw,bM,bN,bO,reduceAdd,reduceLT,cD,bQ,bc]
def Au(p:Pl)(m pl:Int)(q:Pl):Nd×Nd×Int:=(.go (at' p m),.gi (at' q (m+1)),pl)
theorem Pu(N:Net)(L:List (Nd×Nd×Int))(e:Nd×Nd×Int):cg N (L++[e])=fN (cg N L) e.1 e.2.1 e.2.2:=Fi N L [e]
theorem WG(h:aA)(af:Str)(pl:Int)(p:Pl)(m:Int)(N:Net)(k:Nat)(s:Sz N k)(hk:k<850000)(gs:List Pl)(hg:gs.length<=31)(a8 a9:ao O):
  ∃ij,gj (bu 10) oh (gs.map aN) (mf h af pl p m N a8 a9 none)=some (.nx,mf h af pl p m (cg N (gs.map (Au p m pl))) a8 a9 ij):=by
 obtain⟨ax,e6,ij,rfl⟩:=nk (g:=bu 10) (f:=oh) aN (λpre Q0=>∃ij:ao O,Q0=mf h af pl p m (cg N (pre.map (Au p m pl))) a8 a9 ij) gs []
  (mf h af pl p m N a8 a9 none) ⟨none,rfl⟩ (by
   rintro q x post Q0 eq ⟨ij,rfl⟩;rw[gu];have hq:gs.length=q.length+(post.length+1):=by rw[eq,du,iZ]
   have sq:=yd (q.map (Au p m pl)) s;rw[bK] at sq;have st:=WD h af pl p x m _ _ sq (by lia) a8 a9
   refine⟨mf h af pl p m (fN (cg N (q.map (Au p m pl))) (.go (at' p m)) (.gi (at' x (m+1))) pl) a8 a9 (some (.Y (aN x))),?_,some (.Y (aN x)),?_⟩
   .rw[ZH,Option.bind_some,st]
   .rw[iF,uP,Pu];rfl)
 exact⟨ij,e6⟩
def qO(h:aA)(af:Str)(p:Pl)(m pl:Int):List (Nd×Nd×Int):=if dR (.inl af) (jo h p)=true then[(Nd.go (at' p m),Nd.en,pl)] else[]
theorem XU(h:aA)(af:Str)(p:Pl)(m pl:Int):(qO h af p m pl).length<=1:=by unfold qO;split <;> simp
theorem Vv(h:aA)(ok:hG h)(af:Str)(pl:Int)(p:Pl)(v:VP h p)(m:Int)(N:Net)(k:Nat)(s:Sz N k)(hk:k<800000):
  EU [bU N,.Y (cq h),.Y (aN p),.Y (.int m),.Y (.str af),.Y (.int pl)]=some (.Y (.lst ((iV h p).map aN)),[some (bU (cg N (rM h af pl p m))),none,none,none,none,none]):=by
 have e1:=FN p m;have e2:=G1 N k (.gi (at' p m)) (.go (at' p m)) 1 s (by lia)
 have s1:=Sh (.gi (at' p m)) (.go (at' p m)) 1 s;have e3:=NH ok v;have e4:∀a9 cx,vd (mf h af pl p m (fN N (.gi (at' p m)) (.go (at' p m)) 1) (some (.Y (.lst ((jo h p).map aX)))) a9 cx)=some (.nx,mf h af pl p m (cg (fN N (.gi (at' p m)) (.go (at' p m)) 1) (qO h af p m pl)) (some (.Y (.lst ((jo h p).map aX)))) a9 cx):=λa9 cx=>XT h af pl p m (fN N (.gi (at' p m)) (.go (at' p m)) 1) _ s1 (by lia) a9 cx
 have s2:=(yd (qO h af p m pl) s1).mono (j:=k+8) (by have:=XU h af p m pl;lia)
 have eN:cg N (rM h af pl p m)=cg (cg (fN N (.gi (at' p m)) (.go (at' p m)) 1) (qO h af p m pl)) ((iV h p).map (Au p m pl)):=by
  rw[<-Fi];rfl
 rw[eN];generalize cg (fN N (.gi (at' p m)) (.go (at' p m)) 1) (qO h af p m pl)=N2 at e4 s2 ⊢;have e5:=λa9 cx=>WE h ok af pl p v m N2 a9 cx
 obtain⟨ij,e6⟩:=WG h af pl p m N2 _ s2 (by lia) (iV h p) (FL ok v) (some (.Y (.lst ((jo h p).map aX)))) (some (.Y (.lst ((iV h p).map aN))))
 generalize cg N2 ((iV h p).map (Au p m pl))=N3 at e6 ⊢;generalize fN N (.gi (at' p m)) (.go (at' p m)) 1=N1 at e2 e4 ⊢;have me:IZ=aT (av 6 (ay (aK uC (aj (aa 2) (aj (aa 3) gN)))))
  (aT (av 7 (ay (bg .tup (aj (gB bt (aa 6) (gC (.int 0))) (aj (gC (.str "out of")) gN))))) (aT (jv (aK uD (aj (aa 0) (aj (aa 6) (aj (aa 7) (aj (gC (.int 1)) gN)))))) (aT (av 8 (ay (aK zP (aj (aa 1) (aj (aa 2) gN))))) (aT vd (aT (av 9 (ay sJ)) (aT (dQ (aa 9) (bu 10) oh) (aP (aa 9)))))))):=rfl
 unfold mf at e4 e5 e6;unfold EU;rw[me];simp only[gk,eM,eR,bM,bN,bO,reduceAdd,reduceSub,fZ,fF,fG,fH,dh,eU,cO,gP,bq,bj,bx,bf,↓ag,br,gM,gL,e1,iK,iJ,h_,fq,bT,fm,yC,reduceLT,cD,bQ,bc,eQ,bH,bP,bG,bC,bF,cQ,SW,reduceLeDiff,eS,dX,C0,jJ,kr,e2,lF,e3,jL,r9,e4,e5,oW,e6,eV,gG,gq,gr,r_,gy,gn]
def nG(h:aA)(P:List Pl)(af:Str)(T pl:Int)(N:Net)(S:List Ct)(Q:List Pl)(a8 a9 cx eT:ao O):Gm:=
 [some (bU N),some (.Y (cq h)),some (.Y (.lst (P.map aN))),some (fS af),some (.Y (.int T)),some (.Y (.int pl)),some (.lst ((S.map cy).map .Y)),some (.Y (.lst (Q.map aN))),a8,a9,cx,eT]
section
variable(h:aA)(P:List Pl)(af:Str)(T pl:Int)
theorem Vw(N:Net)(k:Nat)(s:Sz N k)(hk:k<900000)(S:List Ct)(Q:List Pl)(p:Pl)(a9 cx eT:ao O):
  Cw (nG h P af T pl N S Q (some (.Y (aN p))) a9 cx eT)=some (.nx,nG h P af T pl (fN N .st (.gi (at' p 0)) pl) S Q (some (.Y (aN p))) a9 cx eT):=by
 have e1:=FN p 0;have e2:=G1 N k .st (.gi (at' p 0)) pl s hk;rw[show aR .st=.str "the start" from rfl] at e2;unfold Cw nG;simp only[jJ,gP,bq,bj,bf,↓ag,cO,bP,bT,bx,br,gM,gL,e1,iK,iJ,h_,fq,fm,yC,kr,bQ,e2,lF]
theorem T5(N:Net)(S:List Ct)(Q:List Pl)(d:D)(a8 a9 cx eT:ao O):bu 8 d (nG h P af T pl N S Q a8 a9 cx eT)=some (nG h P af T pl N S Q (some (.Y d)) a9 cx eT):=by
 unfold nG;simp only[gw,bM,bN,bO,reduceAdd,reduceLT,cD,bQ,bc]
theorem nm9(N:Net)(S:List Ct)(Q:List Pl)(d:D)(a8 a9 cx eT:ao O):bu 9 d (nG h P af T pl N S Q a8 a9 cx eT)=some (nG h P af T pl N S Q a8 (some (.Y d)) cx eT):=by
 unfold nG;simp only[gw,bM,bN,bO,reduceAdd,reduceLT,cD,bQ,bc]
theorem M9(N:Net)(S:List Ct)(Q:List Pl)(d:D)(a8 a9 cx eT:ao O):bu 11 d (nG h P af T pl N S Q a8 a9 cx eT)=some (nG h P af T pl N S Q a8 a9 cx (some (.Y d))):=by
 unfold nG;simp only[gw,bM,bN,bO,reduceAdd,reduceLT,cD,bQ,bc]
def tY(pl:Int)(p:Pl):Nd×Nd×Int:=(.st,.gi (at' p 0),pl)
theorem Vx(N:Net)(k:Nat)(s:Sz N k)(hk:k<800000)(S:List Ct)(Q:List Pl)(ps:List Pl)(hp:ps.length<=100)(a9 cx eT:ao O):
  ∃b8,gj (bu 8) Cw (ps.map aN) (nG h P af T pl N S Q none a9 cx eT)=some (.nx,nG h P af T pl (cg N (ps.map (tY pl))) S Q b8 a9 cx eT):=by
 obtain⟨ax,e6,b8,rfl⟩:=nk (g:=bu 8) (f:=Cw) aN (λpre Q0=>∃b8:ao O,Q0=nG h P af T pl (cg N (pre.map (tY pl))) S Q b8 a9 cx eT) ps []
  (nG h P af T pl N S Q none a9 cx eT) ⟨none,rfl⟩ (by
   rintro q x post Q0 eq ⟨b8,rfl⟩;rw[gu];have hq:ps.length=q.length+(post.length+1):=by rw[eq,du,iZ]
   have sq:=yd (q.map (tY pl)) s;rw[bK] at sq;have st:=Vw h P af T pl _ _ sq (by lia) S Q x a9 cx eT
   refine⟨nG h P af T pl (fN (cg N (q.map (tY pl))) .st (.gi (at' x 0)) pl) S Q (some (.Y (aN x))) a9 cx eT,?_,some (.Y (aN x)),?_⟩
   .rw[T5,Option.bind_some,st]
   .rw[iF,uP,Pu];rfl)
 exact⟨b8,e6⟩
theorem XW(N:Net)(S:List Ct)(Q:List Pl)(ks:List Pl)(hl:ks.length<1000000)(q:Pl)(a8 a9:ao O):
  tT (nG h P af T pl N S Q a8 a9 (some (.aL (kE lI ks))) (some (.Y (aN q))))=some (.nx,nG h P af T pl N S Q a8 a9 (some (.aL (kE lI (jc ks q)))) (some (.Y (aN q)))):=by
 have e:=e7j lI ZF (aN q) q (Sn q) ks hl;unfold tT nG;simp only[u9,bP,↓ag,bj,bx,bf,e,cD,bQ]
theorem XX(N:Net)(S:List Ct)(Q:List Pl)(ks gs:List Pl)(hl:ks.length+gs.length<1000000)(a8 a9 eT:ao O):
  ∃lG,gj (bu 11) tT (gs.map aN) (nG h P af T pl N S Q a8 a9 (some (.aL (kE lI ks))) eT)=some (.nx,nG h P af T pl N S Q a8 a9 (some (.aL (kE lI (dy ks gs)))) lG):=by
 obtain⟨ax,e6,lG,rfl⟩:=nk (g:=bu 11) (f:=tT) aN (λpre Q0=>∃lG:ao O,Q0=nG h P af T pl N S Q a8 a9 (some (.aL (kE lI (dy ks pre)))) lG) gs []
  (nG h P af T pl N S Q a8 a9 (some (.aL (kE lI ks))) eT) ⟨eT,rfl⟩ (by
   rintro q x post Q0 eq ⟨lG,rfl⟩;rw[gu];have hq:gs.length=q.length+(post.length+1):=by rw[eq,du,iZ]
   have hk:=Jw (cs:=q) (ks:=ks);have st:=XW h P af T pl N S Q (dy ks q) (by lia) x a8 a9
   refine⟨nG h P af T pl N S Q a8 a9 (some (.aL (kE lI (jc (dy ks q) x)))) (some (.Y (aN x))),?_,some (.Y (aN x)),?_⟩
   .rw[M9,Option.bind_some,st]
   .rw[Pq];rfl)
 exact⟨lG,e6⟩
theorem e7l(p:Pl):dN (.Y (aN p)) (.int 0)=some (.Y (.str p.1)):=rfl
theorem e7m(p:Pl):dN (.Y (aN p)) (.int 1)=some (.Y (.int p.2)):=rfl
theorem Wl(p:Pl)(m:Int):D.tup [.str p.1,.int p.2,.int m]=cy (at' p m):=rfl
theorem ZI(ok:hG h)(N:Net)(k:Nat)(s:Sz N k)(hk:k<800000)(S:List Ct)(hS:S.length<1000000)(Q:List Pl)(ks:List Pl)(hl:ks.length<900000)(p:Pl)(v:VP h p)(m:Int)(eT:ao O):
  ∃lG,DO (nG h P af T pl N S Q (some (.Y (aN p))) (some (.Y (.int m))) (some (.aL (kE lI ks))) eT)=some (.nx,nG h P af T pl (cg N (rM h af pl p m)) (S++[at' p m]) Q (some (.Y (aN p))) (some (.Y (.int m))) (some (.aL (kE lI (dy ks (iV h p))))) lG):=by
 have e1:=Vv h ok af pl p v m N k s hk;have gl:=FL ok v;obtain⟨lG,e2⟩:=XX h P af T pl (cg N (rM h af pl p m)) (S++[at' p m]) Q ks (iV h p) (by lia) (some (.Y (aN p))) (some (.Y (.int m))) eT
 refine⟨lG,?_⟩;generalize cg N (rM h af pl p m)=N1 at e1 e2 ⊢;have c1:((S.map cy).length<1000000)=True:=kq (by rw[bK];exact hS)
 unfold nG at e2 ⊢;rw[iF (f:=cy),uP] at e2 ⊢;unfold DO;simp only[dh,jJ,lO,bj,bx,bf,↓ag,bq,cO,eQ,bH,bP,br,bG,bC,bF,cQ,e7l,e7m,bM,bN,bO,reduceAdd,reduceLeDiff,eS,dX,bc,h_,fq,bT,fm,Wl,oX,c1,cD,bQ,oW,gP,kr,gM,gL,e1,lF,iK,iJ,e2]
def jh(Q:List Pl)(m:Int):List (Nd×Nd×Int):=Q.flatMap λp=>rM h af pl p m
theorem ZJ(ok:hG h)(N:Net)(k:Nat)(s:Sz N k)(S:List Ct)(hS:S.length<100000)(Q qs:List Pl)(hv:∀p,p∈qs->VP h p)(hq:qs.length<=150)(hk:k<700000)(m:Int)(a8 eT:ao O):
  ∃b8 lG,gj (bu 8) DO (qs.map aN) (nG h P af T pl N S Q a8 (some (.Y (.int m))) (some (.aL (kE lI []))) eT)=some (.nx,nG h P af T pl (cg N (jh h af pl qs m)) (S++qs.map (at' · m)) Q b8 (some (.Y (.int m))) (some (.aL (kE lI (dy [] (qs.flatMap (iV h)))))) lG)/\(jh h af pl qs m).length<=33*qs.length/\(qs.flatMap (iV h)).length<=31*qs.length:=by
 obtain⟨ax,e6,b8,lG,rfl,l1,l2⟩:=nk (g:=bu 8) (f:=DO) aN (λpre Q0=>∃b8 lG:ao O,Q0=nG h P af T pl (cg N (jh h af pl pre m)) (S++pre.map (at' · m)) Q b8 (some (.Y (.int m))) (some (.aL (kE lI (dy [] (pre.flatMap (iV h)))))) lG/\(jh h af pl pre m).length<=33*pre.length/\(pre.flatMap (iV h)).length<=31*pre.length) qs []
  (nG h P af T pl N S Q a8 (some (.Y (.int m))) (some (.aL (kE lI []))) eT) ⟨a8,eT,by rw[qZ,jq];rfl,cP _,cP _⟩ (by
   rintro q x post Q0 eq ⟨b8,lG,rfl,l1,l2⟩;rw[gu] at l1 l2 ⊢;have hx:=hv x (by rw[eq];simp)
   have hq2:qs.length=q.length+(post.length+1):=by rw[eq,du,iZ]
   have sq:=yd (jh h af pl q m) s;have AD:=Jw (cs:=q.flatMap (iV h)) (ks:=[]);rw[uO] at AD;obtain⟨uF,st⟩:=ZI h P af T pl ok _ _ sq (by lia) (S++q.map (at' · m)) (by rw[du,bK];lia) Q (dy [] (q.flatMap (iV h))) (by lia) x hx m lG
   have g1:=FL ok hx;have g2:=ZG ok (af:=af) (pl:=pl) (m:=m) hx;have f1:jh h af pl (q++[x]) m=jh h af pl q m++rM h af pl x m:=by
    unfold jh;rw[List.flatMap_append,List.flatMap_singleton]
   have f2:(q++[x]).flatMap (iV h)=q.flatMap (iV h)++iV h x:=by
    rw[List.flatMap_append,List.flatMap_singleton]
   refine⟨_,by rw[T5,Option.bind_some,st],some (.Y (aN x)),uF,?_,?_,?_⟩
   .rw[f1,f2,Fi,Pq,iF,uP,fE]
   .rw[f1,du,du,ko];lia
   .rw[f2,du,du,ko];lia)
 exact⟨b8,lG,e6,l1,l2⟩
def yV(Q:List Pl):List Pl:=dy [] (Q.flatMap (iV h))
theorem MK(ks:List Pl):(kE lI ks).map (·.1.d)=ks.map aN:=by
 unfold kE;rw[oQ];exact Ir λp _=>(nq (Sn p)).1
theorem XY(kvs:List (TK×O)):Cr [.aL kvs]=some (.lst ((kvs.map (·.1.d)).map .Y)):=rfl
theorem e7n(ok:hG h)(N:Net)(k:Nat)(s:Sz N k)(S:List Ct)(hS:S.length<100000)(Q:List Pl)(hv:∀p,p∈Q->VP h p)(hq:Q.length<=150)(hk:k<700000)(m:Int)(a8 cx eT:ao O):
  ∃b8 ij lG,sZ (nG h P af T pl N S Q a8 (some (.Y (.int m))) cx eT)=some (.nx,nG h P af T pl (cg N (jh h af pl Q m)) (S++Q.map (at' · m)) (yV h Q) b8 (some (.Y (.int m))) ij lG)/\(jh h af pl Q m).length<=33*Q.length:=by
 obtain⟨b8,lG,e,l1,l2⟩:=ZJ h P af T pl ok N k s S hS Q Q hv hq hk m a8 eT;refine⟨b8,some (.aL (kE lI (yV h Q))),lG,?_,l1⟩;have e2:=MK (yV h Q);rw[show dy [] (Q.flatMap (iV h))=yV h Q from rfl] at e;generalize yV h Q=Q' at e e2 ⊢;generalize cg N (jh h af pl Q m)=N1 at e ⊢;rw[show kE lI []=[] from rfl] at e;unfold nG at e ⊢;unfold sZ;simp only[dh,eU,E',↓ag,bM,bN,bO,reduceAdd,reduceLT,cD,bQ,bc,oW,cO,bj,bx,bf,bT,e,bH,bq,br,bG,j7,i6,bF,XY,e2,jL,r9]
def nw:Nat->List Pl
 |0=>P
 |m+1=>yV h (nw m)
noncomputable def lR:Nat->List (Nd×Nd×Int)
 |0=>P.map (tY pl)
 |m+1=>lR m++jh h af pl (nw h P m) (m:Int)
noncomputable def fV:Nat->List Ct
 |0=>[]
 |m+1=>fV m++(nw h P m).map (at' · (m:Int))
end
noncomputable def si(h:aA):List Pl:=h.aM.flatMap λb=>(List.range b.long.toNat).map λ(i:Nat)=>(b.name,(i:Int))
theorem XZ(v:VP h p):p∈si h:=by
 obtain⟨b,hb,e,c0,c1⟩:=v;unfold si;rw[N4];refine⟨b,hb,?_⟩;rw[iQ];refine⟨p.2.toNat,nv.mpr (by lia),?_⟩
 obtain⟨n,c⟩:=p;dsimp only at e c0 ⊢;rw[e,Int.toNat_of_nonneg c0]
theorem Qm:∀bs:List bp,(∀b∈bs,b.long<=20)->(bs.flatMap λb=>(List.range b.long.toNat).map λ(i:Nat)=>(b.name,(i:Int))).length<=20*bs.length
 |[],_=>cP _
 |b::bs,hb=>by
  have ih:=Qm bs λb m=>hb b (.tail _ m)
  have h1:=hb b (.head _);rw[List.flatMap_cons,du,bK,oR,iZ];lia
theorem Lc(ok:hG h){Q:List Pl}(nd:Q.Nodup)(v:∀p,p∈Q->VP h p):Q.length<=120:=by
 have h1:=xP nd λp m=>XZ (v p m)
 have h2:=Qm h.aM λb hb=>(ok.bk b hb).lg.2
 have h3:=ok.bl.2;have h4:(si h).length<=20*h.aM.length:=h2;lia
theorem yt{h:aA}(ok:hG h){P:List Pl}(nd:P.Nodup)(v:∀p,p∈P->VP h p):∀m,(nw h P m).Nodup/\∀p,p∈nw h P m->VP h p
 |0=>⟨nd,v⟩
 |m+1=>by
  obtain⟨i1,i2⟩:=yt ok nd v m;refine⟨Ov (by simp),λp hp=>?_⟩
  rcases jR.mp hp with z|z
  .cases z
  .obtain⟨q,hq,z⟩:=N4.mp z;exact Pr ok (i2 q hq) z
theorem X0{q:List Nat}(e:List.range n=q++x::post):x=q.length:=by
 have h1:(List.range n)[q.length]?=some x:=by rw[e];simp
 rw[NQ] at h1
 .injection h1 with h1;exact h1.symm
 .have:=congrArg List.length e;rw[oR,du,iZ] at this;lia
theorem X1(ok:hG h)(nd:P.Nodup)(v:∀p,p∈P->VP h p)(af:Str)(T pl:Int)(n:Nat)(hn:n<=12)(hP:P.length<=20)(b8:ao O)(s0:Sz (cg [(.st,[])] (P.map (tY pl))) 1000):
  ∃c8 c9 uE uF,gj (bu 9) sZ (fU 0 n) (nG h P af T pl (cg [(.st,[])] (lR h P af pl 0)) [] P b8 none none none)=some (.nx,nG h P af T pl (cg [(.st,[])] (lR h P af pl n)) (fV h P n) (nw h P n) c8 c9 uE uF)/\Sz (cg [(.st,[])] (lR h P af pl n)) (1000+20000*n):=by
 rw[uj];obtain⟨ax,e6,c8,c9,uE,uF,rfl,sz,sl⟩:=nk (g:=bu 9) (f:=sZ) (λ(k:Nat)=>D.int (0+(k:Int))) (λpre Q0=>∃c8 c9 uE uF:ao O,Q0=nG h P af T pl (cg [(.st,[])] (lR h P af pl pre.length)) (fV h P pre.length) (nw h P pre.length) c8 c9 uE uF/\Sz (cg [(.st,[])] (lR h P af pl pre.length)) (1000+20000*pre.length)/\(fV h P pre.length).length<=200*pre.length) (List.range n) []
  (nG h P af T pl (cg [(.st,[])] (lR h P af pl 0)) [] P b8 none none none) ⟨b8,none,none,none,rfl,s0,cP _⟩ (by
   rintro q x post Q0 eq ⟨c8,c9,uE,uF,rfl,sz,sl⟩;rw[gu] at sz sl ⊢;have hx:=X0 eq;subst hx;have hq2:n=q.length+(post.length+1):=by
    have:=congrArg List.length eq;rw[oR,du,iZ] at this;exact this
   rw[du,ko];obtain⟨o1,o2⟩:=yt ok nd v q.length;have hl:=Lc ok o1 o2;rw[Int.zero_add];have ee:lR h P af pl (q.length+1)=lR h P af pl q.length++jh h af pl (nw h P q.length) (q.length:Int):=rfl;have es:fV h P (q.length+1)=fV h P q.length++(nw h P q.length).map (at' · (q.length:Int)):=rfl
   have en:nw h P (q.length+1)=yV h (nw h P q.length):=rfl;rw[ee,es,en,Fi];generalize(q.length:Int)=mi at *;obtain⟨d8,CH,CJ,st,lm⟩:=e7n h P af T pl ok _ _ sz (fV h P q.length) (by lia) (nw h P q.length) o2 (by lia) (by lia) mi c8 uE uF
   refine⟨_,by rw[nm9,Option.bind_some,st],_,_,_,_,rfl,(yd _ sz).mono (by lia),?_⟩
   rw[du,bK];lia)
 rw[gu,oR] at *;exact⟨c8,c9,uE,uF,e6,sz⟩
theorem WH(ok:hG h)(nd:P.Nodup)(v:∀p,p∈P->VP h p)(af:Str)(T pl:Int)(n:Nat)(hT:T=n)(hn:n<=12)(hP:P.length<=20)(ka:(P.length:Int)+1=pl):
  E5 [bU [(.st,[])],.Y (cq h),.Y (.lst (P.map aN)),.Y (.str af),.Y (.int T)]=some (.lst (((fV h P n).map cy).map .Y),[some (bU (cg [(.st,[])] (lR h P af pl n))),none,none,none,none])/\Sz (cg [(.st,[])] (lR h P af pl n)) 300000:=by
 have Ua:Sz [(Nd.st,([]:qH))] 0:=⟨cP _,λv i e=>by
  rw[lE] at e;split at e
  .cases e;exact cP _
  .cases e⟩
 obtain⟨b8,e1⟩:=Vx h P af T pl [(.st,[])] 0 Ua (by lia) [] P P (by lia) none none none
 have s0:=(yd (P.map (tY pl)) Ua).mono (j:=1000) (by rw[bK];lia)
 obtain⟨c8,c9,uE,uF,e2,sz⟩:=X1 ok nd v af T pl n hn hP b8 s0;refine⟨?_,sz.mono (by lia)⟩
 have Dm:((P.map aN).length:Int)+1=pl:=by rw[bK];exact ka
 have hi:jg [.own (.Y (.int T))]=some T:=zF (by lia)
 have ht:T.toNat=n:=by rw[hT];rfl
 rw[show lR h P af pl 0=P.map (tY pl) from rfl] at e2;generalize cg [(.st,[])] (P.map (tY pl))=N1 at e1 e2;generalize cg [(.st,[])] (lR h P af pl n)=N2 at e2 ⊢;generalize fV h P n=S at e2 ⊢;generalize nw h P n=Q2 at e2;unfold nG at e1 e2;rw[show([]:List Ct).map cy=[] from rfl,show([]:List D).map O.Y=[] from rfl] at e1 e2;unfold E5;unfold Jr;simp only[gk,eM,eR,bM,bN,bO,reduceAdd,reduceSub,fZ,fF,fG,fH,dh,eU,cO,bH,bq,bj,bx,bf,↓ag,br,bG,bC,bF,yi,bT,zN,↓evMap,bP,iG,Dm,reduceLT,cD,bQ,bc,eQ,reduceLeDiff,dX,oW,e1,GY,hi,ht,e2,eV,rZ,gG,gq,gr,r_,gy,gn]
inductive iT (h:aA) (P:List Pl) (af:Str) (n:Nat):Nd->Nd->Bool->Prop
 |s {p:Pl}:p∈P->iT h P af n .st (.gi (at' p 0)) false
 |g {m:Nat} {p:Pl}:m<n->p∈nw h P m->iT h P af n (.gi (at' p m)) (.go (at' p m)) true
 |e {m:Nat} {p:Pl}:m<n->p∈nw h P m->dR (.inl af) (jo h p)=true->iT h P af n (.go (at' p m)) .en false
 |w {m:Nat} {p q:Pl}:m<n->p∈nw h P m->q∈iV h p->iT h P af n (.go (at' p m)) (.gi (at' q (m+1))) false
def cp(pl:Int)(b:Bool):Int:=if b=true then 1 else pl
theorem Rw{h:aA}{P:List Pl}{af:Str}{pl:Int}{e:Nd×Nd×Int}:∀{n:Nat},e∈lR h P af pl n↔e∈P.map (tY pl)\/∃m,m<n/\∃p∈nw h P m,e∈rM h af pl p m
 |0=>⟨.inl,λz=>z.elim id λ⟨m,hm,_⟩=>bZ hm (Ba _)⟩
 |n+1=>by
  show e∈lR h P af pl n++jh h af pl (nw h P n) (n:Int)↔_;rw[eD,Rw,or_assoc];unfold jh;rw[N4];constructor
  .rintro(z|⟨m,hm,z⟩|⟨p,hp,z⟩)
   .exact .inl z
   .exact .inr ⟨m,by lia,z⟩
   .exact .inr ⟨n,by lia,p,hp,z⟩
  .rintro(z|⟨m,hm,p,hp,z⟩)
   .exact .inl z
   .by_cases c:m=n
    .subst c;exact .inr (.inr ⟨p,hp,z⟩)
    .exact .inr (.inl ⟨m,by lia,p,hp,z⟩)
theorem fu:(v,w,r)∈lR h P af pl n↔∃b,iT h P af n v w b/\r=cp pl b:=by
 rw[Rw];constructor
 .rintro(z|⟨m,hm,p,hp,z⟩)
  .obtain⟨p,hp,e⟩:=iQ.mp z;unfold tY at e;cases e;exact⟨false,.s hp,rfl⟩
  .unfold rM at z;rcases eO.mp z with z|z
   .cases z;exact⟨true,.g hm hp,rfl⟩
   .rcases eD.mp z with z|z
    .split at z
     .rename_i c
      rw[jI] at z;cases z;exact⟨false,.e hm hp c,rfl⟩
     .cases z
    .obtain⟨q,hq,e⟩:=iQ.mp z;cases e;exact⟨false,.w hm hp hq,rfl⟩
 .rintro⟨b,e,rfl⟩;cases e with
  |@s p hp=>exact .inl (iQ.mpr ⟨p,hp,rfl⟩)
  |@g m p hm hp=>exact .inr ⟨m,hm,p,hp,.head _⟩
  |@e m p hm hp c=>exact .inr ⟨m,hm,p,hp,by
    unfold rM;refine .tail _ (eD.mpr (.inl ?_));rw[aU c];exact .head _⟩
  |@w m p q hm hp hq=>exact .inr ⟨m,hm,p,hp,.tail _ (eD.mpr (.inr (iQ.mpr ⟨q,hq,rfl⟩)))⟩
theorem qc{k:Int}(e:at' p m=at' q k):p=q/\m=k:=by
 obtain⟨a,b⟩:=p;obtain⟨c,d⟩:=q;unfold at' at e;injection e with e1 e;injection e with e2 e3;dsimp only at e1 e2;rw[e1,e2];exact⟨rfl,e3⟩
section
variable{h:aA}{P:List Pl}{af:Str}{n:Nat}
theorem So{b:Bool}(e:iT h P af n v w b):v≠w:=by cases e <;> exact λz=>by cases z
def Dq:Nd->Bool
 |.gi _=>true
 |_=>false
theorem LK{b:Bool}(e:iT h P af n v w b):b=Dq v:=by cases e <;> rfl
theorem ZK{b:Bool}(e:iT h P af n v w b)(e':iT h P af n v w b'):b=b':=(LK e).trans (LK e').symm
theorem Fj{b:Bool}(e:iT h P af n v w b)(e':iT h P af n w v b'):False:=by
 generalize hx:v=x at e';generalize hy:w=y at e';cases e with
 |s _=>cases e' <;> cases hx <;> cases hy
 |@g m p _ _=>
  cases e' with
  |@w m2 p2 q2 _ _ _=>
   injection hx with hx;injection hy with hy;have h1:=(qc hx).2;have h2:=(qc hy).2;lia
  |_=>first|cases hx|cases hy
 |e _ _ _=>cases e' <;> first|cases hx|cases hy
 |@w m p q _ _ _=>
  cases e' with
  |@g m2 p2 _ _=>
   injection hx with hx;injection hy with hy;have h1:=(qc hx).2;have h2:=(qc hy).2;lia
  |_=>first|cases hx|cases hy
end
theorem Pw{h:aA}{P:List Pl}{af:Str}{n:Nat}{pl:Int}:∀(L' L:List (Nd×Nd×Int)) (N:Net),Laid N L->(∀v w r,(v,w,r)∈L++L'->∃b,iT h P af n v w b/\r=cp pl b)->Laid (cg N L') (L++L')
 |[],L,N,l,_=>by rw[jq];exact l
 |(a,b,r)::L',L,N,l,hs=>by
  have e:L++(a,b,r)::L'=(L++[(a,b,r)])++L':=by rw[fE];rfl
  rw[e] at hs ⊢;obtain⟨t,et,rt⟩:=hs a b r (eD.mpr (.inl (eD.mpr (.inr (.head _)))));refine Pw L' (L++[(a,b,r)]) (fN N a b r) (l.lay (So et) (λr' m=>?_) λr' m=>?_) hs
  .obtain⟨t',LP,T_⟩:=hs a b r' (eD.mpr (.inl (eD.mpr (.inl m))));rw[rt,T_,ZK et LP]
  .obtain⟨t',LP,T_⟩:=hs b a r' (eD.mpr (.inl (eD.mpr (.inl m))));exact Fj et LP
structure Nt (h:aA) (P:List Pl) (af:Str) (n:Nat) (pl:Int) (N:Net):Prop where
 ok:nK N
 ar:∀v w,kx N v w↔(∃b,iT h P af n v w b)\/∃b,iT h P af n w v b
 rm:∀v w b,iT h P af n v w b->rr N v w=cp pl b
 rz:∀v w,(∀b,¬iT h P af n v w b)->rr N v w=0
 ky:∀v,v∈N.map (·.1)↔v=.st\/∃w b,iT h P af n v w b\/iT h P af n w v b
theorem e9s(s:Sz (cg [(.st,[])] (lR h P af pl n)) 300000):Nt h P af n pl (cg [(.st,[])] (lR h P af pl n)):=by
 have l:=Pw (h:=h) (P:=P) (af:=af) (n:=n) (pl:=pl) (lR h P af pl n) [] [(.st,[])] Du λv w r m=>fu.mp (by simpa using m)
 rw[gu] at l;generalize cg [(.st,[])] (lR h P af pl n)=N at *;have ar:∀v w,kx N v w↔(∃b,iT h P af n v w b)\/∃b,iT h P af n w v b:=λv w=>by
  rw[l.ar];constructor
  .rintro(⟨r,z⟩|⟨r,z⟩)
   .obtain⟨b,e,_⟩:=fu.mp z;exact .inl ⟨b,e⟩
   .obtain⟨b,e,_⟩:=fu.mp z;exact .inr ⟨b,e⟩
  .rintro(⟨b,e⟩|⟨b,e⟩)
   .exact .inl ⟨_,fu.mpr ⟨b,e,rfl⟩⟩
   .exact .inr ⟨_,fu.mpr ⟨b,e,rfl⟩⟩
 have ky:∀v,v∈N.map (·.1)↔v=.st\/∃w b,iT h P af n v w b\/iT h P af n w v b:=λv=>by
  rw[l.ky];constructor
  .rintro(z|⟨w,r,z|z⟩)
   .exact .inl z
   .obtain⟨b,e,_⟩:=fu.mp z;exact .inr ⟨w,b,.inl e⟩
   .obtain⟨b,e,_⟩:=fu.mp z;exact .inr ⟨w,b,.inr e⟩
  .rintro(z|⟨w,b,z|z⟩)
   .exact .inl z
   .exact .inr ⟨w,_,.inl (fu.mpr ⟨b,z,rfl⟩)⟩
   .exact .inr ⟨w,_,.inr (fu.mpr ⟨b,z,rfl⟩)⟩
 refine⟨⟨λv w z=>?_,(ky _).mpr (.inl rfl),l.nd,l.ni,by have:=s.l;lia,λv i e=>by have:=s.i v i e;lia⟩,ar,λv w b e=>l.rm v w _ (fu.mpr ⟨b,e,rfl⟩),λv w z=>l.rz v w λr m=>?_,ky⟩
 .rw[ar] at z ⊢;exact z.symm
 .obtain⟨b,e,_⟩:=fu.mp m;exact z b e
def VV(N:Net):List Nd:=(iM N .en).map (·.1)
section
variable{h:aA}{P:List Pl}{af:Str}{n:Nat}{pl:Int}{N:Net}
theorem Nt.off(t:Nt h P af n pl N)(z:v∉VV N\/w∉VV N):∀b,¬iT h P af n v w b:=by
 intro b e;rcases z with z|z
 .exact z ((mK ..).mpr (.inl ((t.ky v).mpr (.inr ⟨w,b,.inl e⟩))))
 .exact z ((mK ..).mpr (.inl ((t.ky w).mpr (.inr ⟨v,b,.inr e⟩))))
theorem Nt.nn(t:Nt h P af n pl N)(hp:0<=pl)(v w:Nd):0<=rr N v w:=by
 by_cases c:∃b,iT h P af n v w b
 .obtain⟨b,e⟩:=c;rw[t.rm v w b e];unfold cp;split <;> lia
 .rw[t.rz v w λb e=>c ⟨b,e⟩];exact Bb 0
theorem Nt.flo(t:Nt h P af n pl N)(hp:0<=pl):j6 (VV N) .st .en (rr N) (rr N) where
 nn:=t.nn hp
 an v b:=by lia
 cs v m h1 h2:=zQ λb _=>by lia
 sp v b z:=⟨t.rz v b (t.off z),t.rz v b (t.off z)⟩
 ns:=λz=>by cases z
 ms:=(mK ..).mpr (.inl t.ok.st)
 mt:=(mK ..).mpr (.inr rfl)
 nd:=Lb _ t.ok.nd
theorem G2{f g:Nd->Int}:∀{l:List Nd},(∀v,v∈l->f v<=g v)->sm f l<=sm g l
 |[],_=>Bb 0
 |v::l,h=>by
  have h1:=h v (.head _);have h2:=G2 λv m=>h v (.tail _ m)
  show f v+sm f l<=g v+sm g l;lia
variable{r:Nd->Nd->Int}
theorem Nt.pos(t:Nt h P af n pl N)(F:j6 (VV N) .st .en (rr N) r)(z:0<rr N v w - r v w):∃b,iT h P af n v w b:=by
 refine o7 λc=>?_
 have e:=t.rz v w λb e=>c ⟨b,e⟩
 have:=F.nn v w;lia
theorem Cy{b:Bool}(e:iT h P af n (.gi c) w b):w=.go c/\b=true/\∃m p,m<n/\p∈nw h P m/\c=at' p m:=by
 generalize hx:Nd.gi c=x at e;cases e with
 |@g m p hm hp=>injection hx with hx;subst hx;exact⟨rfl,rfl,m,p,hm,hp,rfl⟩
 |_=>cases hx
theorem Nt.vP(t:Nt h P af n pl N)(F:j6 (VV N) .st .en (rr N) r)(z:0<rr N u (.gi c) - r u (.gi c)):rr N u (.gi c) - r u (.gi c)<=rr N (.gi c) (.go c) - r (.gi c) (.go c)/\rr N (.gi c) (.go c) - r (.gi c) (.go c)=1/\r (.gi c) (.go c)=0/\∃m p,m<n/\p∈nw h P m/\c=at' p m:=by
 obtain⟨b,e⟩:=t.pos F z;have hu:u∈VV N:=(mK ..).mpr (.inl ((t.ky u).mpr (.inr ⟨_,b,.inl e⟩)));have hc:Nd.gi c∈VV N:=(mK ..).mpr (.inl ((t.ky _).mpr (.inr ⟨_,b,.inr e⟩)));have cs:=F.cs (.gi c) hc (λz=>by cases z) (λz=>by cases z)
 have ug:u≠.go c:=λq=>by
  rw[q] at e;have hx:=So e;generalize hx:Nd.go c=x at e;generalize hy:Nd.gi c=y at e;cases e with
  |@w m p q _ _ _=>
   injection hx with hx;injection hy with hy;have:=(qc (hx.symm.trans hy)).2;lia
  |_=>first|(cases hy;done)|(cases hx;done)
 have an:=F.an u (.gi c);have key:sm (λb=>rr N (.gi c) b - r (.gi c) b) (VV N)<=sm (λb=>(if b=.go c then rr N (.gi c) (.go c) - r (.gi c) (.go c) else 0)+(if b=u then rr N (.gi c) u - r (.gi c) u else 0)) (VV N):=G2 λb _=>by
  by_cases c1:b=.go c
  .rw[aU c1,aY (λq=>ug (q.symm.trans c1)),c1];lia
  .rw[aY c1];by_cases c2:b=u
   .rw[aU c2,c2];lia
   .rw[aY c2];refine N5.mp λq=>?_
    obtain⟨b',e'⟩:=t.pos F (v:=.gi c) (w:=b) (by lia)
    exact c1 (Cy e').1
 rw[cs,wF,rj _ F.nd,rj _ F.nd,aU hu] at key;by_cases m:Nd.go c∈VV N
 .rw[aU m] at key;obtain⟨b',e'⟩:=t.pos F (v:=.gi c) (w:=.go c) (by lia)
  obtain⟨_,rfl,mp⟩:=Cy e';have h1:=t.rm _ _ _ e';have h2:=F.nn (.gi c) (.go c);have h3:cp pl true=1:=rfl;exact⟨by lia,by lia,by lia,mp⟩
 .rw[aY m] at key;lia
theorem Nt.on(t:Nt h P af n pl N)(F:j6 (VV N) .st .en (rr N) r)(z:0<rr N (.gi c) (.go c) - r (.gi c) (.go c)):∃w,0<rr N (.go c) w - r (.go c) w:=by
 obtain⟨b,e⟩:=t.pos F z;have hc:Nd.go c∈VV N:=(mK ..).mpr (.inl ((t.ky _).mpr (.inr ⟨_,b,.inr e⟩)));have hg:Nd.gi c∈VV N:=(mK ..).mpr (.inl ((t.ky _).mpr (.inr ⟨_,b,.inl e⟩)));have cs:=F.cs (.go c) hc (λz=>by cases z) (λz=>by cases z)
 refine o7 λq=>?_
 have an:=F.an (.gi c) (.go c);have key:sm (λb=>rr N (.go c) b - r (.go c) b) (VV N)<=sm (λb=>if b=.gi c then rr N (.go c) (.gi c) - r (.go c) (.gi c) else 0) (VV N):=G2 λb _=>by
  by_cases c1:b=.gi c
  .rw[aU c1,c1];exact Bb _
  .rw[aY c1];exact N5.mp λy=>q ⟨b,y⟩
 rw[cs,rj _ F.nd,aU hg] at key;lia
theorem Nt.from(t:Nt h P af n pl N)(F:j6 (VV N) .st .en (rr N) r)(w:Nd):0<=rr N .st w - r .st w:=by
 refine N5.mp λq=>?_
 have an:=F.an .st w;obtain⟨b,e⟩:=t.pos F (v:=w) (w:=.st) (by lia)
 generalize hx:Nd.st=x at e;cases e <;> cases hx
theorem e7o{b:Bool}(e:iT h P af n .st w b):∃p∈P,w=.gi (at' p 0):=by
 generalize hx:Nd.st=x at e;cases e with
 |@s p hp=>exact⟨p,hp,rfl⟩
 |_=>cases hx
theorem Sq{g:Nd->Int}:∀{W V:List Nd},W.Nodup->V.Nodup->(∀v,v∈W->v∈V)->(∀v,v∈V->v∉W->g v=0)->sm g V=sm g W
 |[],V,_,_,_,hz=>zQ λv m=>hz v m (by simp)
 |x::W,V,nW,nV,hs,hz=>by
  rw[ib] at nW;have e:=J4 g (λv=>decide (v=x)) V
  have e1:sm g (V.filter λv=>decide (v=x))=g x:=by
   have a:sm g (V.filter λv=>decide (v=x))=sm (λv=>if v=x then g x else 0) (V.filter λv=>decide (v=x)):=rY λv m=>by
    have:=(kc.mp m).2;rw[decide_eq_true_eq] at this;rw[aU this,this]
   rw[a,rj _ (nV.filter _),aU (kc.mpr ⟨hs x (.head _),ie rfl⟩)]
  have e2:=Sq (g:=g) (W:=W) (V:=V.filter λv => !decide (v=x)) nW.2 (nV.filter _) (λv m=>kc.mpr ⟨hs v (.tail _ m),by
   have:v≠x:=λq=>nW.1 (by rw[<-q];exact m)
   simp[this]⟩) (λv m hv=>by
   obtain⟨m1,m2⟩:=kc.mp m;have:v≠x:=by simpa using m2
   exact hz v m1 λq=>by
    rcases eO.mp q with q|q
    .exact this q
    .exact hv q)
  show sm g V=g x+sm g W;lia
def used(N:Net)(r:Nd->Nd->Int)(p:Pl):Bool:=decide (0<rr N .st (.gi (at' p 0)) - r .st (.gi (at' p 0)))
theorem Ld{α:Type}(f:α->Nd)(g:Nd->Int)(q:α->Bool):∀l:List α,(∀a,a∈l->g (f a)=if q a=true then 1 else 0)->sm g (l.map f)=((l.filter q).length:Int)
 |[],_=>rfl
 |a::l,hg=>by
  have ih:=Ld f g q l λa m=>hg a (.tail _ m)
  have h1:=hg a (.head _);show g (f a)+sm g (l.map f)=_;rw[ih,h1,AV];cases q a with
  |true=>
   show(1:Int)+_=((a::l.filter q).length:Int);rw[iZ];lia
  |false=>
   show(0:Int)+_=_;rw[Int.zero_add];rfl
theorem Nt.value(t:Nt h P af n pl N)(nd:P.Nodup)(F:j6 (VV N) .st .en (rr N) r):ex (VV N) (rr N) r .st=((P.filter (used N r)).length:Int):=by
 unfold ex;have w6:∀v,v∈P.map (λp=>Nd.gi (at' p 0))->v∈VV N:=λv m=>by
  obtain⟨p,hp,rfl⟩:=iQ.mp m;exact(mK ..).mpr (.inl ((t.ky _).mpr (.inr ⟨_,_,.inr (.s hp)⟩)))
 have hnd:(P.map λp=>Nd.gi (at' p 0)).Nodup:=List.Pairwise.map _ (λa b jU e=>jU (by injection e with e;exact(qc e).1)) nd
 rw[Sq hnd F.nd w6 λv _ hv=>?_]
 .refine Ld _ _ _ P λp hp=>?_
  have h0:=t.from F (.gi (at' p 0));unfold used;by_cases c:0<rr N .st (.gi (at' p 0)) - r .st (.gi (at' p 0))
  .rw[ie c,aU rfl];obtain⟨k1,k2,_⟩:=t.vP F c;lia
  .rw[i7 c,aY (by simp)]
   lia
 .have h0:=t.from F v;refine o7 λq=>?_
  obtain⟨b,e⟩:=t.pos F (v:=.st) (w:=v) (by lia)
  obtain⟨p,hp,rfl⟩:=e7o e;exact hv (iQ.mpr ⟨p,hp,rfl⟩)
theorem Nt.most(t:Nt h P af n pl N)(nd:P.Nodup)(F:j6 (VV N) .st .en (rr N) r):ex (VV N) (rr N) r .st<=(P.length:Int):=by
 rw[t.value nd F];have:=List.length_filter_le (used N r) P;lia
end
def Ic:GT:=gT (gB vE (gB bt (gB bt (aa 2) (aa 0)) (aa 1)) (gC (.int 0)))
theorem ZL{j:qH}{x:Int}{a:ao O}(e1:lk N w=some j)(e2:lk j b=some x):
  rW (bu 0) Ic (aa 0) (aR w) [a,some (.Y (aR b)),some (.Y (c_ N))]=some (if decide (0<rr N w b)=true then some (.own (.Y (aR w))) else none,[some (.Y (aR w)),some (.Y (aR b)),some (.Y (c_ N))]):=by
 have f1:=ym e1;have f2:=CN e2;rw[Ag e1,e2];show _=some (if decide (0<x)=true then _ else _,_)
 unfold rW Ic;cases c:decide (0<x) with
 |true=>simp only[gw,bM,bN,bO,reduceAdd,reduceLT,bQ,bc,↓ag,cU,bH,bq,bj,bx,bf,br,bG,bC,bF,cQ,f1,f2,bP,iI,c]
 |false=>simp only[gw,bM,bN,bO,reduceAdd,reduceLT,bQ,bc,↓ag,cU,bH,bq,bj,bx,bf,br,bG,bC,bF,cQ,f1,f2,bP,iI,c,dz,ck]
theorem ZM(ok:nK N)(hw:∃w,kx N b w/\0<rr N w b):∃w,kx N b w/\0<rr N w b/\ya [.Y (c_ N),.Y (aR b)]=some (.Y (aR w),[none,none]):=by
 obtain⟨w0,⟨i,ei,n0,en0⟩,hp0⟩:=hw;have il:=ok.il b i ei;obtain⟨ax,⟨a,rfl⟩,e⟩:=xU (g:=bu 0) (ct:=Ic) (ce:=aa 0) (λQ0=>∃a,Q0=[a,some (.Y (aR b)),some (.Y (c_ N))]) (λe:Nd×Int=>aR e.1) (λe=>decide (0<rr N e.1 b)) (λe=>aR e.1) i [] [none,some (.Y (aR b)),some (.Y (c_ N))] ⟨_,rfl⟩ (by rw[uO];lia) (by
  rintro⟨w,x⟩ hx Q0 ⟨a,rfl⟩;obtain⟨j,ej,y,ey⟩:=ok.sy b w ⟨i,ei,x,LH (ok.ni b i ei) hx⟩;exact⟨_,ZL ej ey,_,rfl⟩)
 rw[gu,show([]:List D).map O.Y=[] from rfl] at e;have f1:=ym ei;have f2:(pI i).map (·.1.d)=i.map λe=>aR e.1:=by
  unfold pI;rw[Qj];exact Ir λe _=>LF e.1
 have me:Km=aT (av 2 (ay (kT (tW (gB bt (aa 0) (aa 1))) (bu 0) Ic (aa 0) 1 [1,0]))) (aP (gB bt (aa 2) (gC (.int 0)))):=rfl;cases q:i.filter λe=>decide (0<rr N e.1 b) with
 |nil=>
  have:(w0,n0)∈i.filter λe=>decide (0<rr N e.1 b):=kc.mpr ⟨LJ en0,ie hp0⟩
  rw[q] at this;cases this
 |cons x xs=>
  obtain⟨w,y⟩:=x;have hm:(w,y)∈i.filter λe=>decide (0<rr N e.1 b):=by rw[q];exact .head _
  obtain⟨m1,m2⟩:=kc.mp hm;refine⟨w,⟨i,ei,y,LH (ok.ni b i ei) m1⟩,by simpa using m2,?_⟩
  rw[q,dD] at e;unfold ya;rw[me];simp only[gk,eM,eR,bM,bN,bO,reduceAdd,reduceSub,fZ,fF,fG,fH,dh,eU,cO,oT,YZ,bH,bq,bj,bf,↓ag,bx,br,bG,bC,bF,cQ,f1,bT,f2,u0,i6,cD,bQ,ph,e,qC,o6,u3,pj,bc,jL,fq,r9,reduceLT,eV,bP,lP,lA,↓evMap,gG,gq,gr,gy,gn]
inductive ud (N:Net) (r:Nd->Nd->Int):Ct->List Pl->Prop
 |last {c:Ct}:0<rr N (.go c) .en - r (.go c) .en->ud N r c [(c.1,c.2.1)]
 |step {c d:Ct} {t:List Pl}:0<rr N (.go c) (.gi d) - r (.go c) (.gi d)->ud N r d t->ud N r c ((c.1,c.2.1)::t)
theorem Le{b:Bool}(e:iT h P af n (.go c) w b):∃m p,m<n/\p∈nw h P m/\c=at' p m/\(w=.en/\dR (.inl af) (jo h p)=true\/∃q∈iV h p,w=.gi (at' q (m+1))):=by
 generalize hx:Nd.go c=x at e;cases e with
 |@e m p hm hp z=>injection hx with hx;exact⟨m,p,hm,hp,hx,.inl ⟨rfl,z⟩⟩
 |@w m p q hm hp hq=>injection hx with hx;exact⟨m,p,hm,hp,hx,.inr ⟨q,hq,rfl⟩⟩
 |_=>cases hx
theorem X2(t:Nt h P af n pl N)(F:j6 (VV N) .st .en (rr N) (rr N'))(hs:iO N'=iO N)(z:0<rr N (.gi c) (.go c) - rr N' (.gi c) (.go c)):
  ∃w,0<rr N (.go c) w - rr N' (.go c) w/\ya [.Y (c_ N'),.Y (aR (.go c))]=some (.Y (aR w),[none,none]):=by
 have ha:∀v w,kx N' v w↔kx N v w:=λv w=>by rw[ur,ur,hs]
 obtain⟨w0,h0⟩:=t.on F z;obtain⟨b0,e0⟩:=t.pos F h0;have an0:=F.an (.go c) w0;have z0:=t.rz w0 (.go c) λb e=>Fj e0 e
 obtain⟨w,a1,a2,a3⟩:=ZM (t.ok.same hs) (b:=.go c) ⟨w0,(ha ..).mpr ((t.ar ..).mpr (.inl ⟨b0,e0⟩)),by lia⟩
 refine⟨w,?_,a3⟩;rcases(t.ar ..).mp ((ha ..).mp a1) with⟨b,e⟩|⟨b,e⟩
 .have z1:=t.rz w (.go c) λb e'=>Fj e e'
  have an:=F.an (.go c) w;lia
 .
  have hw:w=.gi c:=by
   generalize hx:Nd.go c=x at e;cases e with
   |g _ _=>injection hx with hx;rw[hx]
   |_=>cases hx
  subst hw;have h1:=t.rm _ _ _ e;have hb:=LK e;subst hb;have h2:cp pl (Dq (.gi c))=1:=rfl;lia
def wW:GT:=gT (gB eX (aa 4) (gC (.str "the end")))
def wV:GS:=aT (av 5 (gB bt (aa 4) (gC (.int 0))))
 (aT (jv (gb lD (aa 3) (aj (ay (bg .tup (aj (gB bt (aa 5) (gC (.int 0))) (aj (gB bt (aa 5) (gC (.int 1))) gN)))) gN))) (av 4 (ay (aK ya (aj (aa 0) (aj (ay (bg .tup (aj (aa 5) (aj (gC (.str "out of")) gN)))) gN))))))
def l9(N:Net)(a1:ao O)(af:Str)(t:List Pl)(g:Nd)(a5:ao O):Gm:=[some (.Y (c_ N)),a1,some (fS af),some (.lst ((t.map aN).map .Y)),some (.Y (aR g)),a5]
theorem G3(n:Nat)(c:Ct):cJ (n+1) (cy c)=true:=by
 show([D.str c.1,.int c.2.1,.int c.2.2]:List D).all (cJ n)=true;simp only[t_,Ez,p7,oU,Er]
theorem e9t(n:Nat)(v:Nd):cJ (n+2) (aR v)=true:=by
 cases v with
 |st=>exact p7 ..
 |en=>exact p7 ..
 |gi c=>
  show([cy c,D.str "into"]:List D).all (cJ (n+1))=true;simp only[t_,Ez,p7,G3,Er]
 |go c=>
  show([cy c,D.str "out of"]:List D).all (cJ (n+1))=true;simp only[t_,Ez,p7,G3,Er]
theorem e9u(c:Ct):eX [.Y (aR (.gi c)),.Y (.str "the end")]=some (.Y (.bl true)):=by
 rw[KO,bT,bT,aU ⟨e9t 38 _,p7 ..⟩];show some (O.Y (.bl (!bh (.tup _) (.str _))))=_;unfold bh;rfl
theorem e9v:eX [.Y (aR .en),.Y (.str "the end")]=some (.Y (.bl false)):=by
 show eX [.Y (.str "the end"),.Y (.str "the end")]=_;rw[e5v,oS];rfl
theorem e9w(N:Net)(a1:ao O)(af:Str)(t:List Pl)(c:Ct)(a5:ao O):wW (l9 N a1 af t (.gi c) a5)=some (true,l9 N a1 af t (.gi c) a5):=by
 have f:=e9u c;unfold wW l9;simp only[cU,bH,bq,bj,bx,bf,↓ag,bP,br,bG,bC,bF,f]
theorem e9x(N:Net)(a1:ao O)(af:Str)(t:List Pl)(a5:ao O):wW (l9 N a1 af t .en a5)=some (false,l9 N a1 af t .en a5):=by
 have f:=e9v;unfold wW l9;simp only[cU,bH,bq,bj,bx,bf,↓ag,bP,br,bG,bC,bF,f]
theorem e7p(c:Ct):dN (.Y (cy c)) (.int 0)=some (.Y (.str c.1)):=rfl
theorem e7q(c:Ct):dN (.Y (cy c)) (.int 1)=some (.Y (.int c.2.1)):=rfl
theorem plF(c:Ct):D.tup [.str c.1,.int c.2.1]=aN (c.1,c.2.1):=rfl
theorem ZN(N:Net)(a1:ao O)(af:Str)(t:List Pl)(ht:t.length<1000)(c:Ct)(w:Nd)(a5:ao O)(e:ya [.Y (c_ N),.Y (aR (.go c))]=some (.Y (aR w),[none,none])):
  wV (l9 N a1 af t (.gi c) a5)=some (.nx,l9 N a1 af (t++[(c.1,c.2.1)]) w (some (.Y (cy c)))):=by
 have c1:((t.map aN).length<1000000)=True:=kq (by rw[bK];lia)
 unfold wV l9;rw[iF (f:=aN),uP];simp only[dh,eU,bH,bq,bj,bx,bf,↓ag,bP,br,bG,bC,bF,cQ,SW,bM,bN,bO,reduceAdd,reduceLT,cD,bQ,bc,jJ,lO,cO,eQ,e7p,e7q,reduceLeDiff,eS,dX,h_,fq,bT,fm,plF,oX,c1,gP,C0,gM,gL,e,iK,iJ]
theorem Rx{h:aA}{P:List Pl}{af:Str}{n:Nat}{pl:Int}{N N':Net}(t:Nt h P af n pl N)(F:j6 (VV N) .st .en (rr N) (rr N'))(hs:iO N'=iO N)(a1:ao O):∀(j m:Nat) (p:Pl) (K:Nat) (aE:List Pl) (a5:ao O),n=m+j->j<K->aE.length+j<1000->0<rr N (.gi (at' p m)) (.go (at' p m)) - rr N' (.gi (at' p m)) (.go (at' p m))->
  ∃w b5,ud N (rr N') (at' p m) w/\w.length<=j/\ja wW wV K (l9 N' a1 af aE (.gi (at' p m)) a5)=some (.nx,l9 N' a1 af (aE++w) .en b5)
 |0,m,p,K,aE,a5,en,hK,hl,z=>by
  obtain⟨b,e⟩:=t.pos F z;obtain⟨_,_,m',p',hm,_,ec⟩:=Cy e;have:=(qc ec).2;lia
 |j+1,m,p,0,aE,a5,en,hK,hl,z=>bZ hK (Ba _)
 |j+1,m,p,K+1,aE,a5,en,hK,hl,z=>by
  obtain⟨w,hw,ew⟩:=X2 t F hs z;have f1:=e9w N' a1 af aE (at' p m) a5;have f2:=ZN N' a1 af aE (by lia) (at' p m) w a5 ew
  obtain⟨b,e⟩:=t.pos F hw;obtain⟨m',p',hm,hp,ec,Dk⟩:=Le e;obtain⟨rfl,em⟩:=qc ec;have em:m=m':=by lia
  subst em;rcases Dk with⟨rfl,_⟩|⟨q,hq,rfl⟩
  .refine⟨[(p.1,p.2)],some (.Y (cy (at' p m))),.last hw,by rw[ko];lia,?_⟩
   have f3:=e9x N' a1 af (aE++[(p.1,p.2)]) (some (.Y (cy (at' p m))));have f2:wV (l9 N' a1 af aE (.gi (at' p m)) a5)=some (.nx,l9 N' a1 af (aE++[(p.1,p.2)]) .en (some (.Y (cy (at' p m))))):=f2;obtain⟨K',rfl⟩:∃K',K=K'+1:=⟨K - 1,by lia⟩
   rw[ja];simp only[f1,↓ag,f2,bc];rw[ja];simp only[f3,↓ag,dz,ck]
  .have ez:((m:Int)+1)=((m+1:Nat):Int):=rfl;rw[ez] at hw f2;obtain⟨_,k2,_⟩:=t.vP F hw;obtain⟨w2,b5,q1,q2,q3⟩:=Rx t F hs a1 j (m+1) q K (aE++[(p.1,p.2)]) (some (.Y (cy (at' p m)))) (by lia) (by lia) (by rw[du,ko];lia) (by lia)
   refine⟨(p.1,p.2)::w2,b5,.step hw q1,by rw[iZ];lia,?_⟩
   have f2:wV (l9 N' a1 af aE (.gi (at' p m)) a5)=some (.nx,l9 N' a1 af (aE++[(p.1,p.2)]) (.gi (at' q ((m+1:Nat):Int))) (some (.Y (cy (at' p m))))):=f2;rw[fE] at q3;have q3:ja wW wV K (l9 N' a1 af (aE++[(p.1,p.2)]) (.gi (at' q ((m+1:Nat):Int))) (some (.Y (cy (at' p m)))))=some (.nx,l9 N' a1 af (aE++(p.1,p.2)::w2) .en b5):=q3;rw[<-q3,ja];simp only[f1,↓ag,f2,bc]
theorem Vy(t:Nt h P af n pl N)(F:j6 (VV N) .st .en (rr N) (rr N'))(hs:iO N'=iO N)(hn:n<=12)(p:Pl)(z:0<rr N (.gi (at' p 0)) (.go (at' p 0)) - rr N' (.gi (at' p 0)) (.go (at' p 0))):
  ∃w,ud N (rr N') (at' p 0) w/\w.length<=12/\BE [.Y (c_ N'),.Y (aR (.gi (at' p 0))),.Y (.str af)]=some (.lst ((w.map aN++[D.str af]).map .Y),[none,none,none]):=by
 obtain⟨w,b5,q1,q2,q3⟩:=Rx t F hs (some (.Y (aR (.gi (at' p 0))))) n 0 p 1000000 [] none (by lia) (by lia) (by rw[uO];lia) z
 refine⟨w,q1,by lia,?_⟩
 have q3:ja wW wV 1000000 (l9 N' (some (.Y (aR (.gi (at' p 0))))) af [] (.gi (at' p 0)) none)=some (.nx,l9 N' (some (.Y (aR (.gi (at' p 0))))) af w .en b5):=q3;have me:IX=aT (av 3 (bg .lst gN)) (aT (av 4 (aa 1)) (aT (ja wW wV 1000000) (aP (gB bY (aa 3) (bg .lst (aj (aa 2) gN)))))):=rfl;unfold l9 at q3;rw[show([]:List Pl).map aN=[] from rfl,show([]:List D).map O.Y=[] from rfl] at q3;have c1:((w.map aN).length+1<=1000000)=True:=kq (by rw[bK];lia)
 unfold BE;rw[me];simp only[gk,eM,eR,bM,bN,bO,reduceAdd,reduceSub,fZ,fF,fG,fH,dh,eU,eQ,br,↓ag,reduceLeDiff,dX,bc,reduceLT,cD,bQ,bj,bx,bf,q3,eV,bH,bq,eS,bG,j7,i6,bC,bF,Fx,Gf,xR,KJ,KI,c1,gG,gq,gr,gy,gn]
theorem e9y(i:Nat)(f:GS)(Q0:Gm):vi i f Q0=match Q0[i]? with
 |some (some o)=>f (Q0.set i (some (.Y o.d)))
 |_=>none:=rfl
theorem SX(os:List O)(o:O):lD (.lst os) [o]=if os.length<1000000 then some (.lst (os++[o]),.Y .bL) else none:=rfl
noncomputable def iS:D->O
 |.tup [.int k,.lst ds]=>.tup [.Y (.int k),.lst (ds.map .Y)]
 |d=>.Y d
theorem e9z(d:D):(iS d).d=d:=by
 unfold iS;split
 .show D.tup [.int _,.lst (O.dl _)]=_;rw[pq]
 .rfl
theorem Lf:∀W:List D,O.dl (W.map iS)=W
 |[]=>rfl
 |d::W=>by
  show(iS d).d::O.dl (W.map iS)=_;rw[e9z,Lf W]
def lH(h:aA)(P:List Pl)(af:Str)(T:Int)(N:Net)(S:List Ct)(l:cR)(W:List D)(a8 a9 cx eT:ao O):Gm:=
 [some (.Y (cq h)),some (.Y (.lst (P.map aN))),some (fS af),some (.Y (.int T)),some (.Y (c_ N)),some (.Y (.lst (S.map cy))),some (.Y (.aL (dP l))),some (.lst (W.map iS)),a8,a9,cx,eT]
section
variable(h:aA)(P:List Pl)(af:Str)(T:Int)(N:Net)(S:List Ct)(l:cR)
theorem f0a{x:Int}(e1:lk N v=some i)(e2:lk i .st=some x)(hx:¬0<x)(W:List D)(a8 a9 eT:ao O):AH (lH h P af T N S l W a8 a9 (some (.Y (aR v))) eT)=some (.nx,lH h P af T N S l W a8 a9 (some (.Y (aR v))) eT):=by
 have f1:=ym e1;have f2:=CN e2;rw[show aR .st=.str "the start" from rfl] at f2;have f3:decide ((0:Int)<x)=false:=i7 hx;unfold AH lH;simp only[dW,cU,bH,bq,bj,bx,bf,↓ag,br,bG,bC,bF,cQ,f1,bP,f2,iI,f3,bc,dz,jJ,lO,eQ,dU,ck]
theorem e7s{x:Int}(e1:lk N v=some i)(e2:lk i .st=some x)(hx:0<x)(ki:Int)(ds:List D)(e3:BE [.Y (c_ N),.Y (aR v),.Y (.str af)]=some (.lst (ds.map .Y),[none,none,none]))(W:List D)(hW:W.length<1000)(a9 eT:ao O):AH (lH h P af T N S l W (some (.Y (.int ki))) a9 (some (.Y (aR v))) eT)=some (.nx,lH h P af T N S l (W++[.tup [.int ki,.lst ds]]) (some (.Y (.int ki))) a9 (some (.Y (aR v))) eT):=by
 have f1:=ym e1;have f2:=CN e2;rw[show aR .st=.str "the start" from rfl] at f2;have f3:decide ((0:Int)<x)=true:=ie hx;have c1:((W.map iS).length<1000000)=True:=kq (by rw[bK];lia)
 have c2:(W++[D.tup [.int ki,.lst ds]]).map iS=W.map iS++[.tup [.Y (.int ki),.lst (ds.map .Y)]]:=by rw[iF];rfl
 unfold AH lH;rw[c2];generalize W.map iS=Wo at *;simp only[dW,cU,bH,bq,bj,bx,bf,↓ag,br,bG,bC,bF,cQ,f1,bP,f2,iI,f3,bc,jJ,lO,eQ,gP,cO,bT,gM,gL,e3,iK,iJ,bM,bN,bO,reduceAdd,reduceLeDiff,eS,dX,SX,c1,cD,bQ,dU]
theorem Ry(W:List D)(p:Pl)(a8 cx eT:ao O):yN (lH h P af T N S l W a8 (some (.Y (aN p))) cx eT)=AH (lH h P af T N S l W a8 (some (.Y (aN p))) (some (.Y (aR (.gi (at' p 0))))) eT):=by
 have e1:=FN p 0;unfold yN lH;simp only[dh,eU,cO,gP,bq,bj,bx,bf,↓ag,bP,br,gM,gL,e1,iK,iJ,h_,fq,bT,fm,yC,bM,bN,bO,reduceAdd,reduceLT,cD,bQ,bc]
theorem DC(W:List D)(ki:Int)(d:D)(a8 a9 cx eT:ao O):fP [(bu 8),(bu 9)] (.tup [.int ki,d]) (lH h P af T N S l W a8 a9 cx eT)=some (lH h P af T N S l W (some (.Y (.int ki))) (some (.Y d)) cx eT):=by
 unfold lH;simp only[Fw,Fc,gw,bM,bN,bO,reduceAdd,reduceLT,cD,bQ,bc,↓ag,Fb]
theorem e7t(hS:S.length<100000)(W:List D)(a8 a9 cx eT:ao O):ME (lH h P af T N S l W a8 a9 cx eT)=some (.own (.lst (((S.filter λc=>decide (Nd.gi c∈l.map (·.1)) && !decide (Nd.go c∈l.map (·.1))).map cy).map .Y)),lH h P af T N S l W a8 a9 cx eT):=by
 obtain⟨ax,⟨a,rfl⟩,e⟩:=xU (g:=bu 0) (ct:=MF) (ce:=aa 0) (λQ0=>∃a,Q0=[a,some (.Y (.aL (dP l)))]) cy (λc=>decide (Nd.gi c∈l.map (·.1)) && !decide (Nd.go c∈l.map (·.1))) cy S [] [none,some (.Y (.aL (dP l)))] ⟨_,rfl⟩ (by rw[uO];lia) (by
  rintro c hc Q0 ⟨a,rfl⟩;refine⟨[some (.Y (cy c)),some (.Y (.aL (dP l)))],?_,_,rfl⟩;have f1:=J5 false l (.gi c) _ (N6 (p:=Nd.gi c∈l.map (·.1)))
  have f2:=J5 true l (.go c) _ (N6 (p:=Nd.go c∈l.map (·.1)))
  generalize decide (Nd.gi c∈l.map (·.1))=b1 at f1 ⊢
  generalize decide (Nd.go c∈l.map (·.1))=b2 at f2 ⊢
  unfold rW MF;cases b1 with
  |true=>
   cases b2 with
   |true=>simp only[gw,bM,bN,bO,reduceAdd,reduceLT,bQ,bc,↓ag,lN,cU,bH,bq,cO,eQ,bj,bf,bP,br,reduceLeDiff,eS,dX,h_,fq,bT,fm,yC,bx,bG,bC,bF,f1,dz,iE,ck,C0,f2,AZ]
   |false=>simp only[gw,bM,bN,bO,reduceAdd,reduceLT,bQ,bc,↓ag,lN,cU,bH,bq,cO,eQ,bj,bf,bP,br,reduceLeDiff,eS,dX,h_,fq,bT,fm,yC,bx,bG,bC,bF,f1,dz,ck,C0,f2,nF,En]
  |false=>simp only[gw,bM,bN,bO,reduceAdd,reduceLT,bQ,bc,↓ag,lN,cU,bH,bq,cO,eQ,bj,bf,bP,br,reduceLeDiff,eS,dX,h_,fq,bT,fm,yC,bx,bG,bC,bF,f1,dz,ck,C0,Ei])
 rw[gu,show([]:List D).map O.Y=[] from rfl] at e;generalize(S.filter λc=>decide (Nd.gi c∈l.map (·.1)) && !decide (Nd.go c∈l.map (·.1)))=C at e ⊢
 unfold ME lH;simp only[oT,wq,cO,bj,bx,bf,↓ag,bT,fZ,fF,u0,i6,cD,bQ,ph,fG,fH,e,bM,bN,bO,reduceAdd,qC,o6,u3,pj,bc]
end
def qi:Nat->List Pl->List (Nat×Pl)
 |_,[]=>[]
 |k,p::ps=>(k,p)::qi (k+1) ps
def CQ(x:Nat×Pl):D:=.tup [.int (x.1:Int),aN x.2]
theorem Rz:∀(ps:List Pl) (k:Nat),(List.range' k ps.length).zipWith (λ(i:Nat) d=>D.tup [.int i,d]) (ps.map aN)=(qi k ps).map CQ
 |[],k=>rfl
 |p::ps,k=>by
  have ih:=Rz ps (k+1);show(List.range' k (ps.length+1)).zipWith _ (aN p::ps.map aN)=CQ (k,p)::(qi (k+1) ps).map CQ;rw[List.range'_succ,List.zipWith_cons_cons,ih];rfl
theorem ZO(ps:List Pl):j9 (ps.map aN)=(qi 0 ps).map CQ:=by
 unfold j9;rw[bK,List.range_eq_range',Rz]
theorem FO:∀(ps:List Pl) (k:Nat),(qi k ps).map (·.2)=ps
 |[],_=>rfl
 |p::ps,k=>by
  show p::(qi (k+1) ps).map (·.2)=_
  rw[FO ps (k+1)]
structure Way (N:Net) (r:Nd->Nd->Int) (af:Str) (x:Nat×Pl) (d:D):Prop where
 w:∃w,ud N r (at' x.2 0) w/\d=.tup [.int (x.1:Int),.lst (w.map aN++[D.str af])]
theorem X3{α β:Type}{R:α->β->Prop}{a a':List α}{b b':List β}(p:Paired R a b)(q:Paired R a' b'):Paired R (a++a') (b++b'):=by
 induction p with
 |nil=>exact q
 |cons h _ ih=>exact .cons h ih
theorem ZP(t:Nt h P af n pl N)(F:j6 (VV N) .st .en (rr N) (rr N'))(hs:iO N'=iO N)(hn:n<=12)(hP:P.length<=20)(T:Int)(S:List Ct)(l:cR):
  ∃W b8 b9 ij,gj (fP [(bu 8),(bu 9)]) yN (j9 (P.map aN)) (lH h P af T N' S l [] none none none none)=some (.nx,lH h P af T N' S l W b8 b9 ij none)/\Paired (Way N (rr N') af) ((qi 0 P).filter λx=>used N (rr N') x.2) W:=by
 rw[ZO];obtain⟨ax,e,W,b8,b9,ij,rfl,pr⟩:=nk (g:=fP [(bu 8),(bu 9)]) (f:=yN) CQ (λpre Q0=>∃(W:List D) (b8 b9 ij:ao O),Q0=lH h P af T N' S l W b8 b9 ij none/\Paired (Way N (rr N') af) (pre.filter λx=>used N (rr N') x.2) W) (qi 0 P) []
  (lH h P af T N' S l [] none none none none) ⟨[],none,none,none,rfl,.nil⟩ (by
   rintro q ⟨k,p⟩ post Q0 eq ⟨W,b8,b9,ij,rfl,pr⟩;rw[gu] at pr ⊢;have hp:p∈P:=by
    rw[<-FO P 0,eq];simp
   have hW:W.length<=20:=by
    have h1:=Paired.length pr;have h2:=List.length_filter_le (λx:Nat×Pl=>used N (rr N') x.2) q
    have h3:=congrArg List.length eq;have h4:=congrArg List.length (FO P 0);rw[bK] at h4;rw[du,iZ] at h3;lia
   have e0:iT h P af n .st (.gi (at' p 0)) false:=.s hp;have ha:kx N' (.gi (at' p 0)) .st:=by
    rw[ur,hs,<-ur,t.ar];exact .inr ⟨_,e0⟩
   obtain⟨i,ei,x,ex⟩:=ha;have hx:x=rr N .st (.gi (at' p 0)) - rr N' .st (.gi (at' p 0)):=by
    have h1:rr N' (.gi (at' p 0)) .st=x:=by rw[Ag ei,ex];rfl
    have h2:=F.an .st (.gi (at' p 0));have h3:=t.rz (.gi (at' p 0)) .st λb e=>Fj e0 e
    lia
   by_cases c:0<x
   .have hu:used N (rr N') p=true:=ie (by rw[<-hx];exact c)
    obtain⟨_,k2,_⟩:=t.vP F (u:=.st) (c:=at' p 0) (by rw[<-hx];exact c)
    obtain⟨w,q1,q2,q3⟩:=Vy t F hs hn p (by lia)
    have st:=e7s h P af T N' S l ei ex c (k:Int) (w.map aN++[D.str af]) q3 W (by lia) (some (.Y (aN p))) none
    refine⟨lH h P af T N' S l (W++[.tup [.int (k:Int),.lst (w.map aN++[D.str af])]]) (some (.Y (.int (k:Int)))) (some (.Y (aN p))) (some (.Y (aR (.gi (at' p 0))))) none,?_,_,_,_,_,rfl,?_⟩
    .show(fP _ (.tup [.int (k:Int),aN p]) _).bind yN=_;rw[DC,Option.bind_some,Ry,st]
    .rw[List.filter_append,AV,hu];exact X3 pr (.cons ⟨w,q1,rfl⟩ .nil)
   .have hu:used N (rr N') p=false:=i7 (by rw[<-hx];exact c)
    have st:=f0a h P af T N' S l ei ex c W (some (.Y (.int (k:Int)))) (some (.Y (aN p))) none;refine⟨lH h P af T N' S l W (some (.Y (.int (k:Int)))) (some (.Y (aN p))) (some (.Y (aR (.gi (at' p 0))))) none,?_,W,_,_,_,rfl,?_⟩
    .show(fP _ (.tup [.int (k:Int),aN p]) _).bind yN=_;rw[DC,Option.bind_some,Ry,st]
    .rw[List.filter_append,AV,hu];simpa using pr)
 rw[gu] at pr;exact⟨W,b8,b9,ij,e,pr⟩
structure Told (h:aA) (P:List Pl) (af:Str) (n:Nat) (W:List D) (C:List Ct):Prop where
 ex:∃(pl:Int) (N N':Net) (l:cR),pl=(P.length:Int)+1/\Nt h P af n pl N/\j6 (VV N) .st .en (rr N) (rr N')/\.st∈l.map (·.1)/\.en∉l.map (·.1)/\(∀y,y∈l.map (·.1)->∀x,0<rr N' y x->x∈l.map (·.1))/\
  Paired (Way N (rr N') af) ((qi 0 P).filter λx=>used N (rr N') x.2) W/\C=(fV h P n).filter λc=>decide (Nd.gi c∈l.map (·.1)) && !decide (Nd.go c∈l.map (·.1))
theorem RA{h:aA}(ok:hG h){P:List Pl}(nd:P.Nodup)(v:∀p,p∈P->VP h p):∀n,(fV h P n).length<=200*n
 |0=>cP _
 |n+1=>by
  have ih:=RA ok nd v n;obtain⟨o1,o2⟩:=yt ok nd v n;have hl:=Lc ok o1 o2;show(fV h P n++(nw h P n).map (at' · (n:Int))).length<=_
  rw[du,bK];lia
theorem WI(ok:hG h)(nd:P.Nodup)(v:∀p,p∈P->VP h p)(af:Str)(T:Int)(n:Nat)(hT:T=n)(hn:n<=12)(hP:P.length<=20):
  ∃W C,Told h P af n W C/\xO [.Y (cq h),.Y (.lst (P.map aN)),.Y (.str af),.Y (.int T)]=some (.tup [.lst (W.map iS),.lst ((C.map cy).map .Y)],[none,none,none,none]):=by
 obtain⟨pl,ka⟩:∃pl:Int,(P.length:Int)+1=pl:=⟨_,rfl⟩;obtain⟨e1,sz⟩:=WH ok nd v af T pl n hT hn hP ka;have t:=e9s sz;generalize cg [(.st,[])] (lR h P af pl n)=N at *;have F0:=t.flo (by lia)
 obtain⟨N',l,s1,F,c,cl,he,e2⟩:=e7i (V:=VV N) (B:=(P.length:Int)) N t.ok (λv m=>(mK ..).mpr (.inl m)) F0 (λr F=>t.most nd F) (by lia)
 obtain⟨W,b8,b9,ij,e3,pr⟩:=ZP t F s1 hn hP T (fV h P n) l;have sl:=RA ok nd v n;have e4:=e7t h P af T N' (fV h P n) l (by lia) W b8 b9 ij none
 refine⟨W,_,⟨pl,N,N',l,ka.symm,t,F,c.st,he,cl,pr,rfl⟩,?_⟩;have e5:=Sd N';have e0:bU [(Nd.st,([]:qH))]=.aL [(ef .st,.aL [])]:=rfl;have k0:cH (.str "the start")=some (ef .st):=rfl;rw[e0] at e1;rw[show aR .st=.str "the start" from rfl,show aR .en=.str "the end" from rfl] at e2;generalize(fV h P n).filter (λc=>decide (Nd.gi c∈l.map (·.1)) && !decide (Nd.go c∈l.map (·.1)))=C at e4 ⊢
 generalize fV h P n=S at e1 e3 e4;unfold lH at e3 e4;rw[show([]:List D).map iS=[] from rfl] at e3;unfold xO;unfold Js;simp only[gk,eM,eR,bM,bN,bO,reduceAdd,reduceSub,fZ,fF,fG,fH,dh,eU,V_,bP,↓ag,E',k0,↓evMap,reduceLT,cD,bQ,bc,cO,gP,bq,bj,bx,bf,br,kr,gM,gL,e1,lF,iK,iJ,jL,r9,bT,e2,e9y,e5,eQ,reduceLeDiff,dX,YW,e3,e4,eV,rZ,eS,gG,gq,gr,gy,gn]
def BD(h:aA)(P:List Pl)(C:List Ct):Nat->Pl->Prop
 |0,p=>p∈P
 |m+1,q=>∃p,BD h P C m p/\at' p (m:Int)∉C/\q∈iV h p
def Sep(h:aA)(P:List Pl)(af:Str)(n:Nat)(C:List Ct):Prop:=∀m,m<n->∀p,BD h P C m p->at' p (m:Int)∉C->¬dR (.inl af) (jo h p)=true
theorem vD{m:Nat}:q∈nw h P (m+1)↔∃p∈nw h P m,q∈iV h p:=by
 show q∈dy [] ((nw h P m).flatMap (iV h))↔_;rw[jR,N4];exact⟨λz=>z.resolve_left (by simp),.inr⟩
theorem z_{h:aA}{P:List Pl}{C:List Ct}:∀{m:Nat} {p:Pl},BD h P C m p->p∈nw h P m
 |0,p,z=>z
 |m+1,q,⟨p,z,_,hq⟩=>vD.mpr ⟨p,z_ z,hq⟩
theorem gz{h:aA}{P:List Pl}{c:Ct}:∀{n:Nat},c∈fV h P n↔∃m,m<n/\∃p∈nw h P m,c=at' p (m:Int)
 |0=>⟨λz=>(by cases z),λ⟨m,hm,_⟩=>bZ hm (Ba _)⟩
 |n+1=>by
  show c∈fV h P n++(nw h P n).map (at' · (n:Int))↔_
  rw[eD,gz,iQ];constructor
  .rintro(⟨m,hm,z⟩|⟨p,hp,e⟩)
   .exact⟨m,by lia,z⟩
   .exact⟨n,by lia,p,hp,e.symm⟩
  .rintro⟨m,hm,p,hp,e⟩;by_cases q:m=n
   .subst q;exact .inr ⟨p,hp,e.symm⟩
   .exact .inl ⟨m,by lia,p,hp,e⟩
theorem Lg{h:aA}(ok:hG h){P:List Pl}(nd:P.Nodup)(v:∀p,p∈P->VP h p):∀n,(fV h P n).Nodup
 |0=>zk
 |n+1=>by
  show(fV h P n++(nw h P n).map (at' · (n:Int))).Nodup
  refine jk.mpr ⟨Lg ok nd v n,List.Pairwise.map _ (λa b jU e=>jU (qc e).1) (yt ok nd v n).1,λa ha b hb e=>?_⟩
  obtain⟨m,hm,p,hp,e1⟩:=gz.mp ha;obtain⟨q,hq,e2⟩:=iQ.mp hb;have:=(qc (e1.symm.trans (e.trans e2.symm))).2;lia
theorem e7u(W:List Nd):∀V:List Nd,sm (λv=>if v∈W then 1 else 0) V=((V.filter λv=>decide (v∈W)).length:Int)
 |V=>by
  have:=Ld (λv:Nd=>v) (λv=>if v∈W then 1 else 0) (λv=>decide (v∈W)) V λv _=>by
   by_cases c:v∈W
   .rw[aU c,ie c,aU rfl]
   .rw[aY c,i7 c,aY (by simp)]
  rw[List.map_id'] at this;exact this
theorem X4(ok:hG h)(nd:P.Nodup)(v:∀p,p∈P->VP h p)(td:Told h P af n W C):
  Sep h P af n C/\W.length=C.length:=by
 obtain⟨pl,N,N',l,ka,t,F,ms,me,cl,pr,hC⟩:=td.ex;have val:=t.value nd F;have hW:W.length=(P.filter (used N (rr N'))).length:=by
  have h1:=Paired.length pr;have h2:((qi 0 P).filter λx=>used N (rr N') x.2).map (·.2)=P.filter (used N (rr N')):=by
   have:=List.filter_map (f:=λx:Nat×Pl=>x.2) (p:=used N (rr N')) (l:=qi 0 P)
   rw[FO] at this;exact this.symm
  rw[<-h2,bK];exact h1.symm
 have Dd:=F.cut (λv=>decide (v∈l.map (·.1))) (ie ms) (i7 me) λa b _ _ ha hb=>by
  have h1:=F.nn a b;have h2:¬0<rr N' a b:=λz=>by
   have:=cl a (uQ ha) b z;rw[ie this] at hb;cases hb
  lia
 have nn:=t.nn (by lia)
 have hx:∀a b,a∈VV N->b∈VV N->a∈l.map (·.1)->b∉l.map (·.1)->rr N a b<=ex (VV N) (rr N) (rr N') .st:=λa b ma mb ha hb=>by
  rw[Dd];have h1:rr N a b<=sm (λb=>rr N a b) ((VV N).filter λb => !decide (b∈l.map (·.1))):=K_ (f:=λb=>rr N a b) (λw _=>nn a w) b (kc.mpr ⟨mb,by rw[i7 hb];rfl⟩)
  have h2:=K_ (f:=λv=>sm (λb=>rr N v b) ((VV N).filter λb => !decide (b∈l.map (·.1)))) (l:=(VV N).filter λv=>decide (v∈l.map (·.1))) (λw _=>Jv λb _=>nn w b) a (kc.mpr ⟨ma,ie ha⟩)
  lia
 have most:=t.most nd F;have go:∀a b,iT h P af n a b false->a∈l.map (·.1)->b∈l.map (·.1):=λa b e ha=>o7 λhb=>by
  have h1:=hx a b ((mK ..).mpr (.inl ((t.ky a).mpr (.inr ⟨b,_,.inl e⟩)))) ((mK ..).mpr (.inl ((t.ky b).mpr (.inr ⟨a,_,.inr e⟩)))) ha hb;rw[t.rm a b _ e] at h1;have h2:cp pl false=pl:=rfl;lia
 have memC:∀c,c∈C↔c∈fV h P n/\Nd.gi c∈l.map (·.1)/\Nd.go c∉l.map (·.1):=λc=>by
  rw[hC,kc,mG,decide_eq_true_eq,Bool.not_eq_true',decide_eq_false_iff_not]
 have gate:∀m p,m<n->p∈nw h P m->Nd.gi (at' p (m:Int))∈l.map (·.1)->at' p (m:Int)∉C->Nd.go (at' p (m:Int))∈l.map (·.1):=λm p hm hp hg hc=>o7 λz=>hc ((memC _).mpr ⟨gz.mpr ⟨m,hm,p,hp,rfl⟩,hg,z⟩)
 have rin:∀m p,m<=n->BD h P C m p->Nd.gi (at' p (m:Int))∈l.map (·.1):=by
  intro m
  induction m with
  |zero=>intro p _ z;exact go _ _ (.s z) ms
  |succ m ih=>
   rintro q hm ⟨p,z,hc,hq⟩;exact go _ _ (.w (by lia) (z_ z) hq) (gate m p (by lia) (z_ z) (ih p (by lia) z) hc)
 refine⟨λm hm p z hc q=>?_,?_⟩
 .exact me (go _ _ (.e hm (z_ z) q) (gate m p hm (z_ z) (rin m p (by lia) z) hc))
 .have h1:sm (λv=>if v∈C.map Nd.gi then 1 else 0) ((VV N).filter λv=>decide (v∈l.map (·.1)))=ex (VV N) (rr N) (rr N') .st:=by
   rw[Dd];refine rY λa ma=>?_
   have ha:a∈l.map (·.1):=uQ (kc.mp ma).2
   by_cases c:a∈C.map Nd.gi
   .rw[aU c];obtain⟨c0,hc,rfl⟩:=iQ.mp c;obtain⟨k1,k2,k3⟩:=(memC c0).mp hc;obtain⟨m,hm,p,hp,rfl⟩:=gz.mp k1;have e:iT h P af n (.gi (at' p m)) (.go (at' p m)) true:=.g hm hp;have h1:sm (λb=>rr N (.gi (at' p m)) b) ((VV N).filter λb => !decide (b∈l.map (·.1)))=sm (λb=>if b=.go (at' p m) then 1 else 0) ((VV N).filter λb => !decide (b∈l.map (·.1))):=rY λb _=>by
     by_cases q:b=.go (at' p m)
     .rw[aU q,q,t.rm _ _ _ e];rfl
     .rw[aY q];exact t.rz _ _ λt' e'=>q (Cy e').1
    have mg:Nd.go (at' p m)∈((VV N).filter λb => !decide (b∈l.map (·.1))):=kc.mpr ⟨(mK ..).mpr (.inl ((t.ky _).mpr (.inr ⟨_,_,.inr e⟩))),by rw[i7 k3];rfl⟩
    rw[h1,rj _ (F.nd.filter _),aU mg]
   .rw[aY c];refine(zQ λb mb=>t.rz _ _ λt' e=>?_).symm
    have hb:b∉l.map (·.1):=λz=>by
     have:=(kc.mp mb).2;rw[ie z] at this;cases this
    cases t' with
    |false=>exact hb (go _ _ e ha)
    |true=>
     cases e with
     |@g m p hm hp=>exact c (iQ.mpr ⟨_,(memC _).mpr ⟨gz.mpr ⟨m,hm,p,hp,rfl⟩,ha,hb⟩,rfl⟩)
  rw[e7u] at h1;have M8:C.Nodup:=by rw[hC];exact(Lg ok nd v n).filter _
  have ndC:(C.map Nd.gi).Nodup:=List.Pairwise.map _ (λa b jU e=>jU (by injection e)) M8
  have h2:=xP ndC (m:=((VV N).filter λv=>decide (v∈l.map (·.1))).filter λv=>decide (v∈C.map Nd.gi)) λx m=>by
   refine kc.mpr ⟨kc.mpr ?_,ie m⟩;obtain⟨c0,hc,rfl⟩:=iQ.mp m;obtain⟨k1,k2,k3⟩:=(memC c0).mp hc;obtain⟨m,hm,p,hp,rfl⟩:=gz.mp k1;exact⟨(mK ..).mpr (.inl ((t.ky _).mpr (.inr ⟨_,_,.inl (.g hm hp)⟩))),ie k2⟩
  have h3:=xP (l:=((VV N).filter λv=>decide (v∈l.map (·.1))).filter λv=>decide (v∈C.map Nd.gi)) (m:=C.map Nd.gi) ((F.nd.filter _).filter _) λx m=>uQ (kc.mp m).2
  rw[bK] at h2 h3;lia
abbrev vM(as:List Sp):O:=.lst ((as.map aX).map .Y)
section
variable{α:Type}
def mS(xs:List α)(k:Nat)(y:α):List α:=xs.take k++y::xs.drop k
theorem X5{xs:List α}{y x:α}:x∈mS xs k y↔x=y\/x∈xs:=by
 unfold mS;rw[eD,eO]
 conv=>rhs;rw[<-vZ k xs,eD]
 constructor
 .rintro(z|z|z)
  .exact .inr (.inl z)
  .exact .inl z
  .exact .inr (.inr z)
 .rintro(z|z|z)
  .exact .inr (.inl z)
  .exact .inl z
  .exact .inr (.inr z)
theorem X6(xs:List α)(k:Nat)(y:α):(mS xs k y).length=xs.length+1:=by
 unfold mS;rw[du,iZ,pU,vW];lia
theorem ZQ{xs:List α}{y:α}(h:xs.Nodup)(hy:y∉xs):(mS xs k y).Nodup:=by
 unfold mS;rw[NS.nodup_iff,vZ];exact ib.mpr ⟨hy,h⟩
theorem ZR(enc:α->D)(xs:List α)(i:Int)(y:α)(h0:0<=i)(h1:i<1000000)(hl:xs.length<1000000):xZ (.lst ((xs.map enc).map .Y)) [.Y (.int i),.Y (enc y)]=some (.lst (((mS xs i.toNat y).map enc).map .Y),.Y .bL):=by
 show(if 0<=i/\i<1000000/\((xs.map enc).map O.Y).length<1000000 then _ else _)=_
 rw[aU ⟨h0,h1,by rw[bK,bK];exact hl⟩]
 unfold mS;rw[iF,dD,iF,dD,List.map_take,NY,List.map_take,NY]
theorem ZS(enc:α->D)(xs:List α)(y:α)(hl:xs.length<1000000):lD (.lst ((xs.map enc).map .Y)) [.Y (enc y)]=some (.lst (((xs++[y]).map enc).map .Y),.Y .bL):=by
 rw[oX,aU (by rw[bK];exact hl),show(xs++[y]).map enc=xs.map enc++[enc y] by simp]
theorem Sr(enc:α->D)(xs:List α)(i:Int)(h0:0<=i)(h1:i<xs.length):∃x,x∈xs/\dq (xs.map enc) i=some (enc x):=by
 have hi:i.toNat<xs.length:=by lia
 refine⟨xs[i.toNat],zj hi,?_⟩;unfold dq o5;rw[bK,aU h0,aU h1];show(xs.map enc)[i.toNat]?=_;rw[jO,ic hi];rfl
end
theorem B6(xs:List D):cC [.Y (.lst xs)]=some (.Y (.int (xs.length:Nat))):=rfl
theorem X7(F:cA)(g:cF F)(s1 s2 s3 a5:ao O)(pl:List Sp)(hl:pl.length<=100)(nd:pl.Nodup)(s:Sp)(hs:s∉pl):∃(F':cA) (tL:List Sp),cF F'/\(∀x,x∈tL↔x=s\/x∈pl)/\tL.length=pl.length+1/\tL.Nodup/\
  tM [some (ba F),s1,s2,s3,some (vM pl),a5,some (.Y (aX s))]=some (.nx,[some (ba F'),s1,s2,s3,some (vM tL),a5,some (.Y (aX s))]):=by
 have hm:(0:Int)<(pl.length:Int)+1:=by lia
 have e1:=xd g (m:=(pl.length:Int)+1) hm (by lia)
 have d0:=uh F hm;have d1:=ui F hm;have ei:=ZR aX pl (aW F ((pl.length:Int)+1)) s d0 (by lia) (by lia)
 refine⟨aQ F ((pl.length:Int)+1),mS pl (aW F ((pl.length:Int)+1)).toNat s,g.draw _,λx=>X5,X6 _ _ _,ZQ nd hs,?_⟩
 have dl:O.dl ((pl.map aX).map .Y)=pl.map aX:=pq _;have el:((pl.map aX).length:Int)=(pl.length:Int):=by rw[bK]
 generalize(pl.length:Int)=ol at *;unfold tM;generalize aX s=sd at *;simp only[jJ,lO,bj,bx,bf,↓ag,bq,cO,gP,bH,br,bG,j7,i6,bF,yi,jL,dl,zN,el,↓evMap,bP,bC,iG,bT,kr,bQ,gM,gL,e1,lF,iK,iJ,eS,dX,ei,cD]
theorem X8(F:cA)(g:cF F)(s1 s2:ao O)(cs:List Sp)(c0:0<cs.length)(c1:cs.length<=200)(a5 a6:ao O)(pl:List Sp)(hl:pl.length<=100)(nd:pl.Nodup):∃(F':cA) (tL:List Sp) (IF:ao O),cF F'/\(∀x,x∈tL->x∈pl\/x∈cs)/\tL.length<=pl.length+1/\tL.Nodup/\
  qX [some (ba F),s1,s2,some (.Y (.lst (cs.map aX))),some (vM pl),a5,a6]=some (.nx,[some (ba F'),s1,s2,some (.Y (.lst (cs.map aX))),some (vM tL),a5,IF]):=by
 have hm:(0:Int)<(cs.length:Int):=by lia
 have e1:=xd g (m:=(cs.length:Int)) hm (by lia)
 have d0:=uh F hm;have d1:=ui F hm;obtain⟨s,ms,es⟩:=Sr aX cs (aW F (cs.length:Int)) d0 d1;have e2:=K8 true s pl;have el:cC [.Y (.lst (cs.map aX))]=some (.Y (.int (cs.length:Nat))):=by rw[B6,bK]
 have ex:dN (.Y (.lst (cs.map aX))) (.int (aW F (cs.length:Int)))=some (.Y (aX s)):=by
  show(dq (cs.map aX) _).map O.Y=_;rw[es];rfl
 cases hb:dR s pl with
 |true=>
  rw[hb] at e2;refine⟨aQ F (cs.length:Int),pl,some (.Y (aX s)),g.draw _,λx m=>.inl m,Ik _,nd,?_⟩
  generalize(cs.length:Int)=ol at *;unfold qX;generalize tM=pi at *;generalize aX s=sd at *;simp only[dh,eU,bH,bq,bj,bx,bf,↓ag,gP,br,bG,bC,bF,el,kr,bQ,gM,gL,e1,lF,iK,iJ,cQ,ex,bM,bN,bO,reduceAdd,reduceLT,cD,bc,dW,cU,j7,i6,e2,iE,dz,dU,ck]
 |false=>
  rw[hb] at e2;have hs:s∉pl:=λz=>by rw[iB.mpr z] at hb;cases hb
  obtain⟨F',tL,g',m',l',n',e3⟩:=X7 (aQ F (cs.length:Int)) (g.draw _) s1 s2 (some (.Y (.lst (cs.map aX)))) a5 pl hl nd s hs;refine⟨F',tL,some (.Y (aX s)),g',λx m=>((m' x).mp m).elim (λe=>.inr (by rw[e];exact ms)) .inl,by lia,n',?_⟩
  generalize(cs.length:Int)=ol at *;unfold qX;generalize tM=pi at *;generalize aX s=sd at *;simp only[dh,eU,bH,bq,bj,bx,bf,↓ag,gP,br,bG,bC,bF,el,kr,bQ,gM,gL,e1,lF,iK,iJ,cQ,ex,bM,bN,bO,reduceAdd,reduceLT,cD,bc,dW,cU,j7,i6,e2,nF,e3,dU]
theorem X9(ok:hG h)(F:cA)(g:cF F):∃(F':cA) (pl:List Sp),cF F'/\(∀s∈pl,VC h s)/\pl.length<=8/\pl.Nodup/\zt [ba F,.Y (cq h),.Y (.int 8)]=some (vM pl,[some (ba F'),none,none]):=by
 obtain⟨cs,_,cv,c0,c1,ec⟩:=Rg h ok;have e1:=xd g (m:=9) (by decide) (by decide)
 have d0:=uh F (m:=9) (by decide)
 have d1:=ui F (m:=9) (by decide)
 obtain⟨ax,el,F',pl,a5,a6,g',m',l',n',rfl⟩:=nk (g:=bu 5) (f:=qX) (λk:Nat=>D.int (0+(k:Int))) (λpre Q0=>∃(F':cA) (pl:List Sp) (a5 a6:ao O),cF F'/\(∀x∈pl,x∈cs)/\pl.length<=pre.length/\pl.Nodup/\Q0=[some (ba F'),some (.Y (cq h)),some (.Y (.int 8)),some (.Y (.lst (cs.map aX))),some (vM pl),a5,a6]) (List.range (aW F 9).toNat) []
  [some (ba (aQ F 9)),some (.Y (cq h)),some (.Y (.int 8)),some (.Y (.lst (cs.map aX))),some (vM []),none,none] ⟨aQ F 9,[],none,none,g.draw _,(λx m=>by cases m),cP _,zk,rfl⟩ (by
   rintro q x post Q0 ex ⟨F',pl,a5,a6,g',m',l',n',rfl⟩;rw[gu] at *;have lq:q.length<=9:=by have:=congrArg List.length ex;simp at this;lia
   obtain⟨F2,Nc,IF,g2,m2,l2,n2,e⟩:=X8 F' g' (some (.Y (cq h))) (some (.Y (.int 8))) cs c0 (by lia) (some (.Y (.int (0+(x:Int))))) a6 pl (by lia) n'
   refine⟨_,e,F2,Nc,_,IF,g2,λy my=>(m2 y my).elim (m' y) id,?_,n2,rfl⟩
   rw[du,ko];lia)
 rw[gu] at *;rw[oR] at l';refine⟨F',pl,g',λs ms=>cv s (m' s ms),by lia,n',?_⟩
 rw[<-uj] at el;have i1:jg [.own (.Y (.int (aW F 9)))]=some (aW F 9):=zF (by lia)
 have e0:(vM []:O)=.lst []:=rfl;rw[e0] at el;have Uz:(8:Int)+1=9:=rfl;unfold zt;unfold IY;generalize qX=pb at *;simp only[gk,eM,eR,bM,bN,bO,reduceAdd,reduceSub,fZ,fF,fG,fH,dh,eU,cO,gP,bq,bj,bx,bf,↓ag,br,gM,gL,ec,iK,iJ,bT,reduceLT,cD,bQ,bc,eQ,reduceLeDiff,dX,GY,bH,bP,bG,bC,bF,iG,Uz,kr,e1,lF,i1,el,eV,rZ,gG,gq,gr,r_,gy,gn]
theorem Px{h:aA}:∀{pl:List Sp},(∀s∈pl,VC h s)->pl.Nodup->∃P:List Pl,pl=P.map Sum.inr/\P.Nodup/\∀p,p∈P->VP h p
 |[],_,_=>⟨[],rfl,zk,λp m=>(by cases m)⟩
 |s::pl,hv,nd=>by
  rw[ib] at nd;obtain⟨P,e,n,v⟩:=Px (pl:=pl) (λs m=>hv s (.tail _ m)) nd.2
  obtain⟨b,hb,c,es,c0,c1⟩:=hv s (.head _);refine⟨(b.name,c)::P,by rw[es,e];rfl,ib.mpr ⟨λm=>nd.1 ?_,n⟩,λp m=>?_⟩
  .rw[es,e];exact iQ.mpr ⟨_,m,rfl⟩
  .rcases eO.mp m with m|m
   .rw[m];exact⟨b,hb,rfl,c0,c1⟩
   .exact v p m
theorem Kw(P:List Pl):(P.map Sum.inr).map aX=P.map aN:=by
 rw[oQ];exact Ir λp _=>rfl
theorem e7v(ds:List D):iX [.Y (.lst ds)]=some (.lst (ds.map .Y)):=rfl
theorem ZT(f:q8 h.aS h.aM){b:bp}(hb:b∈h.aM):∃j:Nat,findS (h.aM.map bp.name) b.name=some j/\h.aM[j]?=some b:=by
 cases q:findS (h.aM.map bp.name) b.name with
 |none=>
  unfold findS at q;rw[List.findIdx?_eq_none_iff] at q;have:=q b.name (NZ (f:=bp.name) hb);rw[oS] at this;cases this
 |some j=>
  obtain⟨e,_⟩:=OG q;rw[jO] at e;cases r:h.aM[j]? with
  |none=>rw[r] at e;cases e
  |some x=>
   rw[r] at e;have e:x.name=b.name:=Option.some.inj e;rw[Qh f x (kL r) b hb e] at r;exact⟨j,rfl,r⟩
theorem WJ(h:aA)(f:q8 h.aS h.aM)(b:bp)(hb:b∈h.aM)(ol:b.outs.length<=20)(s0 s1 s3 s4 s5 s6:ao O):
  ∃a8,gj (bu 8) qy (b.outs.map D.str) [s0,s1,some (.Y (.lst ((h.aM.map bp.name).map .str))),s3,s4,s5,s6,some (.lst []),none] =
   some (.nx,[s0,s1,some (.Y (.lst ((h.aM.map bp.name).map .str))),s3,s4,s5,s6,some (.lst ((b.outs.map (og h)).map .Y)),a8]):=by
 obtain⟨ax,e,a8,rfl⟩:=nk (g:=bu 8) (f:=qy) D.str (λpre Q0=>∃a8,Q0=[s0,s1,some (.Y (.lst ((h.aM.map bp.name).map .str))),s3,s4,s5,s6,some (.lst ((pre.map (og h)).map .Y)),a8]) b.outs []
  [s0,s1,some (.Y (.lst ((h.aM.map bp.name).map .str))),s3,s4,s5,s6,some (.lst []),none] ⟨_,rfl⟩ (by
   rintro q x post Q0 eq ⟨a8,rfl⟩;rw[gu];have hx:x∈b.outs:=by rw[eq];simp
   have hl:((q.map (og h)).length<1000000)=True:=kq (by
    have:b.outs.length=q.length+(post.length+1):=by rw[eq,du,iZ]
    rw[bK];lia)
   rw[iF (l₁:=q) (l₂:=[x]),dD (f:=og h),qZ (f:=og h)];refine⟨_,?_,some (fS x),rfl⟩;unfold qy;generalize q.map (og h)=Q at *;rcases J3 f b hb x hx with z|z
   .have c1:(h.aM.map bp.name).contains x=true:=Ek.mpr z;have c2:¬h.aS.contains x=true:=λy=>Jt f x (Ek.mp y) z
    have eg:og h x=.tup [.str x,.int 0]:=by unfold og;rw[aY c2]
    rw[eg];simp only[gw,bM,bN,bO,reduceAdd,reduceLT,cD,bQ,bc,↓ag,jJ,lO,bj,bx,bf,bq,cO,yp,cU,bH,br,bG,bC,bF,Gq,dz,c1,ck,eQ,bP,reduceLeDiff,eS,dX,h_,fq,bT,fm,oX,hl]
   .have c2:h.aS.contains x=true:=Ek.mpr z;have c1:(h.aM.map bp.name).contains x=false:=by
     rw[<-Ej,Ek];exact Jt f x z
    have eg:og h x=.str x:=by unfold og;rw[aU c2]
    rw[eg];simp only[gw,bM,bN,bO,reduceAdd,reduceLT,cD,bQ,bc,↓ag,jJ,lO,bj,bx,bf,bq,cO,yp,cU,bH,br,bG,bC,bF,Gq,dz,c1,ck,eQ,bP,reduceLeDiff,eS,dX,bT,oX,hl])
 rw[gu] at e;exact⟨a8,e⟩
theorem Qn(h:aA)(ok:hG h)(b:bp)(hb:b∈h.aM)(c:Int):xN [.Y (cq h),.Y (.tup [.str b.name,.int c])]=some (.lst (((jD h b c).map aX).map .Y),[none,none]):=by
 rw[Qi];have ol:=(ok.bk b hb).ol;have bl:=ok.bl;obtain⟨a',e1⟩:=OP h.aM [] none (by rw[uO];lia)
 rw[qZ,gu] at e1;obtain⟨j,j1,j2⟩:=ZT ok.fwd hb;have ea:dq (h.aM.map bB) (j:Int)=some (bB b):=nO (by rw[jO,j2];rfl)
 obtain⟨a8,e2⟩:=WJ h ok.fwd b hb ol (some (.Y (cq h))) (some (.Y (.tup [.str b.name,.int c]))) (some (.Y (.str b.name))) (some (.Y (.int b.long))) (some (.Y (.bl b.ring))) (some (.Y (.lst (b.outs.map .str))));have et:∃ax,stepT [some (.Y (cq h)),some (.Y (.tup [.str b.name,.int c])),some (.Y (.lst ((h.aM.map bp.name).map .str))),some (.Y (.str b.name)),some (.Y (.int b.long)),some (.Y (.bl b.ring)),some (.Y (.lst (b.outs.map .str))),none,none]=some (.rt (.lst ((zX h b c).map .Y)),some (.Y (cq h))::some (.Y (.tup [.str b.name,.int c]))::ax)/\ax.length=7:=by
  unfold stepT zX;by_cases hc:c+1<b.long
  .rw[aU hc];refine⟨[some (.Y (.lst ((h.aM.map bp.name).map .str))),some (.Y (.str b.name)),some (.Y (.int b.long)),some (.Y (.bl b.ring)),some (.Y (.lst (b.outs.map .str))),none,none],?_,rfl⟩;simp only[dh,dW,cU,bH,bq,bj,bx,bf,↓ag,bP,br,bG,bC,bF,cQ,jK,mJ,↓evMap,iG,iI,hc,decide_true,bc,eV,eQ,cO,bT,bM,bN,bO,reduceAdd,reduceLeDiff,eS,dX,h_,fq,fm,dU,eM,eR]
  .rw[aY hc];unfold qu;have l1:((b.outs.map (og h)).length<1000000)=True:=kq (by rw[bK];lia)
   refine⟨[some (.Y (.lst ((h.aM.map bp.name).map .str))),some (.Y (.str b.name)),some (.Y (.int b.long)),some (.Y (.bl b.ring)),some (.Y (.lst (b.outs.map .str))),none,a8],?_,rfl⟩;cases hr:b.ring with
   |true=>
    rw[aU rfl];rw[hr] at e2;simp only[dh,dW,cU,bH,bq,bj,bx,bf,↓ag,bP,br,bG,bC,bF,cQ,jK,mJ,↓evMap,iG,iI,hc,decide_false,bc,dz,eV,eQ,cO,bT,bM,bN,bO,reduceAdd,reduceLeDiff,eS,dX,h_,fq,fm,dU,ck,eU,reduceLT,cD,bQ,oW,e2,jn,jQ,jJ,lO,oX,l1,rZ]
   |false=>
    rw[aY t8,jq];rw[hr] at e2;simp only[dh,dW,cU,bH,bq,bj,bx,bf,↓ag,bP,br,bG,bC,bF,cQ,jK,mJ,↓evMap,iG,iI,hc,decide_false,bc,dz,eV,eQ,cO,bT,bM,bN,bO,reduceAdd,reduceLeDiff,eS,dX,h_,fq,fm,dU,ck,eU,reduceLT,cD,bQ,oW,e2,jn,jQ,jJ,lO,oX,rZ]
 obtain⟨ax,et,nr⟩:=et;unfold xN;unfold Jm;have ix:Cp [.Y (.lst ((h.aM.map bp.name).map .str)),.Y (.str b.name)]=some (.Y (.int (j:Int))):=by rw[Xp,j1];rfl
 have ea:dq (h.aM.map bB) (j:Int)=some (.tup [.str b.name,.int b.long,.bl b.ring,.lst (b.outs.map .str)]):=ea;generalize(j:Int)=ji at *;simp only[gk,eM,eR,bM,bN,bO,reduceAdd,reduceSub,fZ,fF,fG,fH,dh,eU,cO,oT,wq,bH,bq,bj,bf,↓ag,bP,br,bG,bC,bF,cQ,NK,bT,ph,e1,qC,o6,pj,bc,jL,yq,reduceLT,cD,bQ,e5x,Xk,bx,jK,lA,↓evMap,ix,lP,ea,Fw,Fc,gw,Fb,et,gG,nr,gq,gr,gy,gn]
theorem ZU{α:Type}(xs:List α)(x:α):dq (xs++[x]) (-1)=some x:=by
 unfold dq o5;have hl:(xs++[x]).length=xs.length+1:=by simp
 rw[hl];rw[aY (by decide),aU (by lia)]
 show(xs++[x])[_]?=some x;rw[show -1+((xs.length+1:Nat):Int)=(xs.length:Int) by lia]
 simp
abbrev rN:=(Str×Int)×Int
abbrev Wy:=List (Str×Int)×Str
noncomputable def rC(p:Str×Int):D:=.tup [.str p.1,.int p.2]
def uM(w:Wy):List D:=w.1.map rC++[.str w.2]
def lx(w:Wy):D:=.lst (uM w)
noncomputable def jC(i:Nat):List (Str×Int)->List rN
 |[]=>[]
 |p::l=>(p,(i:Int))::jC (i+1) l
def qY(w:Wy):List rN:=jC 0 w.1
def gD(ws:List Wy):List rN:=(ws.map qY).flatten
theorem Qo(i:Nat):∀(l:List (Str×Int)) (p:Str×Int),jC i (l++[p])=jC i l++[(p,((i+l.length:Nat):Int))]
 |[],p=>rfl
 |a::l,p=>by
  show _::jC (i+1) (l++[p])=_::(jC (i+1) l++_);rw[Qo (i+1) l p,iZ,show i+1+l.length=i+(l.length+1) from by lia]
theorem Fm(i:Nat):∀l:List (Str×Int),(jC i l).length=l.length
 |[]=>rfl
 |a::l=>by show(jC (i+1) l).length+1=_;rw[Fm (i+1) l];rfl
def nu(c:rN):D:=.tup [.int c.2,rC c.1]
def Dx(c:rN):TK:=.tp [.inl c.2,.tp [.inr c.1.1,.inl c.1.2]]
theorem ZV(a b:rN)(e:Dx a=Dx b):a=b:=by
 obtain⟨⟨x,i⟩,m⟩:=a;obtain⟨⟨y,j⟩,n⟩:=b;unfold Dx at e;injection e with e;injection e with e1 e2;injection e1 with e1;injection e2 with e2 _;injection e2 with e2;injection e2 with e2 e3;injection e2 with e2;injection e3 with e3 _;injection e3 with e3;dsimp only at e1 e2 e3;rw[e1,e2,e3]
theorem e7w(a:rN):cH (nu a)=some (Dx a):=by unfold nu Dx rC;simp[cH,lu,oJ,TK.ok]
theorem SY:∀(cs ks:List TK),cs.Nodup->(∀c,c∈cs->c∉ks)->cs.foldl uB ks=ks++cs
 |[],ks,_,_=>by rw[jq];rfl
 |c::cs,ks,nd,dj=>by
  obtain⟨n1,n2⟩:=ib.mp nd;rw[List.foldl_cons];have e:uB ks c=ks++[c]:=by unfold uB;rw[aY (dj c nE)]
  rw[e,SY cs (ks++[c]) n2 λx m z=>?_,fE]
  .rfl
  .rcases eD.mp z with z|z
   .exact dj x (oO _ m) z
   .rw[jI] at z;subst z;exact n1 m
theorem RB{α:Type}{enc:α->D}{kk:α->TK}(hk:∀a,cH (enc a)=some (kk a))(ht:∀a,∃l,kk a=.tp l)(inj:∀a b,kk a=kk b->a=b){cs:List α}(nd:cs.Nodup)(hl:cs.length<1000){o:O}(ho:dY o=some (cs.map enc)):x_ [o]=some (.Y (.int (cs.length:Nat))):=by
 have key:∀cs:List α,qU (cs.map enc)=some (cs.map kk):=λcs=>by
  induction cs with
  |nil=>rfl
  |cons c cs ih=>
   rw[dD,dD];unfold qU;rw[hk,Option.bind_some,ih];obtain⟨l,e⟩:=ht c;rw[e];rfl
 unfold x_;dsimp only;rw[ho,Option.bind_some,key,Option.bind_some,aU (by rw[bK];exact hl)]
 have e:dk (cs.map kk)=cs.map kk:=SY _ _ (List.Pairwise.map _ (λa b jU e=>jU (inj _ _ e)) nd) λc _ z=>by cases z
 rw[e,bK]
theorem ZW(s0:ao O)(ms:List rN)(hl:ms.length<1000000)(L:List D)(p:Str×Int)(i:Int)(ea:dq L i=some (rC p)):ltB [s0,some (.lst ((ms.map nu).map .Y)),some (.Y (.lst L)),some (.Y (.int i))] =
  some (.nx,[s0,some (.lst (((ms++[(p,i)]).map nu).map .Y)),some (.Y (.lst L)),some (.Y (.int i))]):=by
 have e1:((ms.map nu).length<1000000)=True:=kq (by rw[bK];exact hl)
 have i1:cI [.Y (rC p),.Y (.ty "str")]=some (.Y (.bl false)):=R7 _;have e2:D.tup [.int i,rC p]=nu (p,i):=rfl;rw[iF,dD,qZ];generalize ms.map nu=M at *;generalize nu (p,i)=md at *;generalize rC p=cp at *;unfold ltB;simp only[dW,lM,jn,bH,bq,bj,bx,bf,↓ag,br,bG,bC,bF,cQ,lP,ea,↓evMap,bP,i1,jQ,nF,jJ,lO,cO,eQ,bM,bN,bO,reduceAdd,reduceLeDiff,eS,dX,bc,h_,fq,bT,fm,e2,oX,e1,cD,bQ,dU]
theorem ZX(s0 s1:ao O)(L:List D)(x:Str)(i:Int)(ea:dq L i=some (.str x)):ltB [s0,s1,some (.Y (.lst L)),some (.Y (.int i))]=some (.nx,[s0,s1,some (.Y (.lst L)),some (.Y (.int i))]):=by
 have i1:cI [.Y (.str x),.Y (.ty "str")]=some (.Y (.bl true)):=CG x;unfold ltB;simp only[dW,lM,jn,bH,bq,bj,bx,bf,↓ag,br,bG,bC,bF,cQ,lP,ea,↓evMap,bP,i1,jQ,iE,dz,jJ,lO,dU,ck]
theorem Py{q:List Nat}(h:List.range n=q++x::post):x=q.length/\q.length<n:=by
 have e:(List.range n)[q.length]?=some x:=by rw[h];simp
 obtain⟨h1,h2⟩:=e_.mp e;rw[oR] at h1;rw[List.getElem_range] at h2;exact⟨h2.symm,h1⟩
theorem ZY{α:Type}(L:List α)(k:Nat)(hk:k<L.length):dq L (k:Int)=some L[k]:=by
 unfold dq o5;rw[aU (by lia),aU (by lia)]
 show L[((k:Int)).toNat]?=_;rw[show((k:Int)).toNat=k from by lia]
 exact ic hk
theorem e7y(s0 a3:ao O)(w:Wy)(ms:List rN)(hl:ms.length+w.1.length<1000000)(hw:w.1.length<900):∃b3,AJ [s0,some (.lst ((ms.map nu).map .Y)),some (.Y (lx w)),a3] =
  some (.nx,[s0,some (.lst (((ms++qY w).map nu).map .Y)),some (.Y (lx w)),b3]):=by
 have hlen:(uM w).length=w.1.length+1:=by unfold uM;simp
 obtain⟨ax,e,b3,rfl⟩:=nk (g:=bu 3) (f:=ltB) (λk:Nat=>D.int (0+(k:Int))) (λpre Q0=>∃b3,Q0=[s0,some (.lst (((ms++jC 0 (w.1.take pre.length)).map nu).map .Y)),some (.Y (lx w)),b3]) (List.range (w.1.length+1)) [] [s0,some (.lst ((ms.map nu).map .Y)),some (.Y (lx w)),a3] ⟨a3,by simp[jC]⟩ (by
  rintro q x post Q0 hx ⟨b3,rfl⟩;obtain⟨e1,e2⟩:=Py hx;rw[e1,gu,du,ko];have hn:∀(s1:ao O),bu 3 (.int (0+(q.length:Int))) [s0,s1,some (.Y (lx w)),b3]=some [s0,s1,some (.Y (lx w)),some (.Y (.int (q.length:Int)))]:=λs1=>by rw[Int.zero_add];rfl
  rw[hn,Option.bind_some];have ea:=ZY (uM w) q.length (by lia)
  by_cases c:q.length<w.1.length
  .have eb:(uM w)[q.length]'(by lia)=rC w.1[q.length]:=by
    show(w.1.map rC++[D.str w.2])[q.length]'(by rw[du,bK];exact iP c (Nat.le_add_right _ _))=_
    have hx:q.length<(w.1.map rC).length:=by rw[bK];exact c
    rw[List.getElem_append_left hx,List.getElem_map]
   rw[eb] at ea;have et:w.1.take (q.length+1)=w.1.take q.length++[w.1[q.length]]:=by rw[List.take_succ,ic c];rfl
   have tl:(w.1.take q.length).length=q.length:=by rw[pU];lia
   have:=ZW s0 (ms++jC 0 (w.1.take q.length)) (by rw[du,Fm,tl];lia) (uM w) _ _ ea
   refine⟨_,this,some (.Y (.int (q.length:Int))),?_⟩;rw[et,Qo,tl,Es,fE];rfl
  .have c:q.length=w.1.length:=by lia
   have eb:(uM w)[q.length]'(by lia)=.str w.2:=by
    show(w.1.map rC++[D.str w.2])[q.length]'(by rw[du,bK,ko];lia)=_
    have hx:(w.1.map rC).length<=q.length:=by rw[bK];lia
    rw[List.getElem_append_right hx];simp[c]
   rw[eb] at ea;refine⟨_,ZX s0 _ (uM w) w.2 _ ea,some (.Y (.int (q.length:Int))),?_⟩;rw[El (by lia),El (by lia)]
   rfl)
 refine⟨b3,?_⟩;rw[<-uj,gu,oR,El (by lia)] at e
 have el:cC [.Y (lx w)]=some (.Y (.int ((w.1.length+1:Nat):Int))):=by rw[<-hlen];rfl
 have i1:jg [.own (.Y (.int ((w.1.length+1:Nat):Int)))]=some ((w.1.length+1:Nat):Int):=e6w _ (by lia)
 have et:((w.1.length+1:Nat):Int).toNat=w.1.length+1:=by lia
 unfold qY;unfold AJ;rw[<-et] at e;generalize((w.1.length+1:Nat):Int)=n at *;generalize lx w=wd at *;generalize ltB=lb at *;simp only[GY,bq,bH,bj,bx,bf,↓ag,br,bG,bC,bF,el,i1,e]
theorem Ss(s0:ao O):∀(ws:List Wy) (ms:List rN) (a2 a3:ao O),ms.length+(gD ws).length<900->∃b2 b3,gj (bu 2) AJ (ws.map lx) [s0,some (.lst ((ms.map nu).map .Y)),a2,a3]=some (.nx,[s0,some (.lst (((ms++gD ws).map nu).map .Y)),b2,b3])
 |[],ms,a2,a3,_=>⟨a2,a3,by show some _=_;rw[show gD []=[] from rfl,jq]⟩
 |w::ws,ms,a2,a3,hl=>by
  have es:gD (w::ws)=qY w++gD ws:=rfl;rw[es,du] at hl;have hw:(qY w).length=w.1.length:=Fm 0 _;have hn:∀s1:ao O,bu 2 (lx w) [s0,s1,a2,a3]=some [s0,s1,some (.Y (lx w)),a3]:=λ_=>rfl
  obtain⟨b3,e1⟩:=e7y s0 a3 w ms (by lia) (by lia)
  obtain⟨c2,c3,e2⟩:=Ss s0 ws (ms++qY w) (some (.Y (lx w))) b3 (by rw[du];lia)
  refine⟨c2,c3,?_⟩;rw[dD,BN,hn,Option.bind_some,e1,Option.bind_some,es,<-fE];exact e2
theorem U5(ws:List Wy)(nd:(gD ws).Nodup)(hl:(gD ws).length<900):EK [.Y (.lst (ws.map lx))]=some (.Y (.bl true),[none]):=by
 obtain⟨b2,b3,e⟩:=Ss (some (.Y (.lst (ws.map lx)))) ws [] none none (by rw[uO];lia)
 rw[gu] at e;have e:gj (bu 2) AJ (ws.map lx) [some (.Y (.lst (ws.map lx))),some (.lst []),none,none]=_:=e;have e1:=RB e7w (λ_=>⟨_,rfl⟩) ZV nd (by lia) (o:=.lst (((gD ws).map nu).map .Y)) (xR _)
 have e2:cC [.lst (((gD ws).map nu).map .Y)]=some (.Y (.int ((gD ws).length:Nat))):=by
  rw[yi,jL,pq];show some (O.Y (.int (((gD ws).map nu).length:Nat)))=_;rw[bK]
 have e3:=KN (((gD ws).length:Nat):Int) ((gD ws).length:Nat);rw[oS] at e3;generalize ws.map lx=L at *;generalize((gD ws).map nu).map O.Y=M at *;generalize(((gD ws).length:Nat):Int)=n at *;unfold EK;unfold IK;generalize AJ=le at *;simp only[gk,eM,eR,bM,bN,bO,reduceSub,fZ,fF,fG,fH,dh,eU,eQ,br,↓ag,reduceLeDiff,dX,bc,reduceAdd,reduceLT,cD,bQ,oW,cO,bj,bf,bT,e,eV,bH,bq,bx,bG,j7,i6,bF,e1,e2,bC,e3,gG,gq,gr,gy,gn]
section
variable{h:aA}{P:List Pl}{af:Str}{n:Nat}{pl:Int}{N:Net}{r:Nd->Nd->Int}
theorem Su{b:Bool}(e:iT h P af n u (.gi c) b):u≠.go c:=λq=>by
 rw[q] at e;generalize hx:Nd.go c=x at e;generalize hy:Nd.gi c=y at e;cases e with
 |@w m p q _ _ _=>
  injection hx with hx;injection hy with hy;have:=(qc (hx.symm.trans hy)).2;lia
 |_=>first|(cases hy;done)|(cases hx;done)
theorem Nt.one(t:Nt h P af n pl N)(F:j6 (VV N) .st .en (rr N) r)(z1:0<rr N u (.gi c) - r u (.gi c))(z2:0<rr N v (.gi c) - r v (.gi c)):u=v:=o7 λhuv=>by
 obtain⟨b,e⟩:=t.pos F z1;obtain⟨b2,e2⟩:=t.pos F z2;have hu:u∈VV N:=(mK ..).mpr (.inl ((t.ky u).mpr (.inr ⟨_,b,.inl e⟩)));have hv:v∈VV N:=(mK ..).mpr (.inl ((t.ky v).mpr (.inr ⟨_,b2,.inl e2⟩)));have hc:Nd.gi c∈VV N:=(mK ..).mpr (.inl ((t.ky _).mpr (.inr ⟨_,b,.inr e⟩)));have cs:=F.cs (.gi c) hc (λz=>by cases z) (λz=>by cases z)
 have ug:=Su e;have vg:=Su e2;have an:=F.an u (.gi c);have an2:=F.an v (.gi c);have th:=(t.vP F z1).2.1;have key:sm (λb=>rr N (.gi c) b - r (.gi c) b) (VV N)<=sm (λb=>((if b=.go c then rr N (.gi c) (.go c) - r (.gi c) (.go c) else 0)+(if b=u then rr N (.gi c) u - r (.gi c) u else 0))+(if b=v then rr N (.gi c) v - r (.gi c) v else 0)) (VV N):=G2 λb _=>by
  by_cases c1:b=.go c
  .rw[aU c1,aY (λq=>ug (q.symm.trans c1)),aY (λq=>vg (q.symm.trans c1)),c1];lia
  .rw[aY c1];by_cases c2:b=u
   .rw[aU c2,aY (λq=>huv (c2.symm.trans q)),c2];lia
   .rw[aY c2];by_cases c3:b=v
    .rw[aU c3,c3];lia
    .rw[aY c3];refine N5.mp λq=>?_
     obtain⟨b',e'⟩:=t.pos F (v:=.gi c) (w:=b) (by lia)
     exact c1 (Cy e').1
 rw[cs,wF,wF,rj _ F.nd,rj _ F.nd,rj _ F.nd,aU hu,aU hv] at key;by_cases m:Nd.go c∈VV N
 .rw[aU m] at key;lia
 .rw[aY m] at key;lia
def Bw(h:aA)(af:Str):List Pl->Prop
 |[]=>False
 |[a]=>dR (.inl af) (jo h a)=true
 |a::b::l=>b∈iV h a/\Bw h af (b::l)
def flw(N:Net)(r:Nd->Nd->Int)(a b:Nd):Prop:=0<rr N a b - r a b
theorem Kx(t:Nt h P af n pl N)(F:j6 (VV N) .st .en (rr N) r){w:List Pl}(f:ud N r c w):∀(m:Nat) (p:Pl),c=at' p m->
  w.length+m<=n/\(∃l,w=p::l)/\(∀q,q∈w->∃k,q∈nw h P k)/\Bw h af w/\∀(i:Nat) (a b:Pl),w[i]?=some a->w[i+1]?=some b->flw N r (.go (at' a ((m+i:Nat):Int))) (.gi (at' b ((m+i+1:Nat):Int))):=by
 induction f with
 |@last c z=>
  intro m p ec;obtain⟨b,e⟩:=t.pos F z;obtain⟨m',p',hm,hp,LM,Dk⟩:=Le e;obtain⟨rfl,em⟩:=qc (ec.symm.trans LM);have em:m=m':=by lia
  subst em;subst ec;refine⟨by rw[ko];lia,⟨[],rfl⟩,λq mq=>?_,?_,λi a b ha hb=>by simp at hb⟩
  .rw[jI] at mq;subst mq;exact⟨m,hp⟩
  .rcases Dk with⟨_,q⟩|⟨q,_,z'⟩
   .exact q
   .cases z'
 |@step c d l z f ih=>
  intro m p ec;obtain⟨b,e⟩:=t.pos F z;obtain⟨m',p',hm,hp,LM,Dk⟩:=Le e;obtain⟨rfl,em⟩:=qc (ec.symm.trans LM);have em:m=m':=by lia
  subst em;subst ec;rcases Dk with⟨z',_⟩|⟨q,hq,z'⟩
  .cases z'
  .injection z' with ed;have ed:d=at' q ((m+1:Nat):Int):=ed;obtain⟨i1,⟨l',rfl⟩,i3,i4,i5⟩:=ih (m+1) q ed;refine⟨by rw[iZ];lia,⟨q::l',rfl⟩,λx mx=>?_,⟨hq,i4⟩,λi a b ha hb=>?_⟩
   .rcases eO.mp mx with mx|mx
    .subst mx;exact⟨m,hp⟩
    .exact i3 x mx
   .cases i with
    |zero=>
     have ha:some p=some a:=ha;have hb:some q=some b:=hb;cases ha;cases hb;rw[ed] at z;exact z
    |succ i=>
     have:=i5 i a b ha hb;rw[show m+1+i=m+(i+1) by lia] at this
     exact this
theorem X_(t:Nt h P af n pl N)(F:j6 (VV N) .st .en (rr N) r){w v:List Pl}(f1:ud N r (at' p ((0:Nat):Int)) w)(f2:ud N r (at' q ((0:Nat):Int)) v):∀(i:Nat) (a:Pl),w[i]?=some a->v[i]?=some a->p=q:=by
 obtain⟨_,⟨l1,e1⟩,_,_,g1⟩:=Kx t F f1 0 p rfl;obtain⟨_,⟨l2,e2⟩,_,_,g2⟩:=Kx t F f2 0 q rfl;intro i
 induction i with
 |zero=>
  intro a h1 h2;rw[e1] at h1;rw[e2] at h2;have h1:some p=some a:=h1;have h2:some q=some a:=h2;cases h1;cases h2;rfl
 |succ i ih=>
  intro a h1 h2;have k1:i<w.length:=by have:=(e_.mp h1).1;lia
  have k2:i<v.length:=by have:=(e_.mp h2).1;lia
  have j1:=g1 i w[i] a (ic k1) h1;have j2:=g2 i v[i] a (ic k2) h2;have:=t.one F j1 j2;injection this with this;have:=(qc this).1;exact ih w[i] (ic k1) (by rw[this];exact ic k2)
end
theorem e7z(i:Int):cI [.Y (.int i),.Y (.ty "int")]=some (.Y (.bl true)):=by unfold cI;simp[jA,jV,O.d]
theorem Lh(ds:List D):cI [.Y (.lst ds),.Y (.ty "list")]=some (.Y (.bl true)):=by unfold cI;simp[jA,jV,O.d]
theorem FQ(i:Int):BH [.Y (.int i)]=some (.Y (.bl true),[none]):=by
 have e1:=e7z i;have e2:=e6v i;unfold BH Jo;simp only[gk,eM,eR,bM,bN,bO,reduceSub,fF,fG,fH,eV,Ki,cU,bH,bq,bj,bf,↓ag,bP,br,bG,bC,bF,e1,YQ,e2,nF,bc,gG,gq,gr,gy,gn]
theorem e8a(p:Pl):v8 [.Y (aN p),.Y (.int 2)]=some (.Y (.bl true),[none,none]):=by
 obtain⟨n,c⟩:=p;have e1:=CK [D.str n,.int c];have e2:=CG n;have e3:=Gh 2 2;rw[oS] at e3;have e4:=FQ c;have e5:rL (.Y (.tup [D.str n,.int c])) (some 1) none=some (.tup [.Y (.int c)]):=rfl;have e6:=EZ (λbs=>bs.all id) [true]
 have e6:yk (λbs=>bs.all id) [.lst [.Y (.bl true)]]=some (.Y (.bl true)):=e6
 have e7:cC [.Y (.tup [D.str n,.int c])]=some (.Y (.int 2)):=rfl;unfold aN v8 EN;simp only[gk,eM,eR,bM,bN,bO,reduceAdd,reduceSub,fF,fG,fH,dh,dW,wB,lM,jn,bH,bq,bj,bf,↓ag,bP,br,bG,bC,bF,e1,jQ,iE,dz,cU,e7,bx,e3,cQ,jK,lA,↓evMap,e2,ck,eV,dU,oT,Q7,cO,zy,zL,zO,zK,e5,h_,fq,bT,fm,fZ,ph,Ge,gw,reduceLT,bQ,bc,uy,rh,e4,uq,eS,dX,Gd,qC,o6,pj,e6,gG,gq,gr,gy,gn]
def gY(af:Str)(x:Nat×List Pl):D:=.tup [.int (x.1:Int),lx (x.2,af)]
structure RW (N:Net) (r:Nd->Nd->Int) (x:Nat×Pl) (y:Nat×List Pl):Prop where
 k:y.1=x.1
 f:ud N r (at' x.2 ((0:Nat):Int)) y.2
theorem ZZ{r:Nd->Nd->Int}{a:List (Nat×Pl)}(p:Paired (Way N r af) a W):∃ws,Paired (RW N r) a ws/\W=ws.map (gY af):=by
 induction p with
 |nil=>exact⟨[],.nil,rfl⟩
 |@cons x d a W hx _ ih=>
  obtain⟨ws,q1,q2⟩:=ih;obtain⟨w,f,e⟩:=hx.w;exact⟨(x.1,w)::ws,.cons ⟨rfl,f⟩ q1,by rw[dD,<-q2,e];rfl⟩
def jW(af:Str)(w:List Pl):List Sp:=w.map Sum.inr++[.inl af]
theorem f0b(af:Str)(w:List Pl):(jW af w).map aX=uM (w,af):=by
 unfold jW uM;rw[iF,oQ];rfl
theorem Sv{h:aA}{af:Str}:∀{w:List Pl},Bw h af w->∀(i:Nat) (a:Pl),w[i]?=some a->∃s,(jW af w)[i+1]?=some s/\dR s (jo h a)=true
 |[],l,_,_,_=>bZ l id
 |[x],l,0,a,e=>by cases e;exact⟨.inl af,rfl,l⟩
 |[x],l,i+1,a,e=>by cases e
 |x::y::w,⟨l1,_⟩,0,a,e=>by cases e;exact⟨.inr y,rfl,iB.mpr (mQ.mp l1)⟩
 |x::y::w,⟨_,l2⟩,i+1,a,e=>Sv l2 i a e
theorem X'(ok:hG h)(L:List D)(k:Int)(v:VP h p)(s:Sp)(m:dR s (jo h p)=true)(ea:dq L (k - 1)=some (aN p))(eb:dq L k=some (aX s))(s1 s2:ao O):sX [some (.Y (cq h)),s1,s2,some (.Y (.lst L)),some (.Y (.int k))]=some (.nx,[some (.Y (cq h)),s1,s2,some (.Y (.lst L)),some (.Y (.int k))]):=by
 obtain⟨n,c⟩:=p;obtain⟨b,hb,e,_⟩:=v;dsimp only at e;subst e;have e1:xN [.Y (cq h),.Y (aN (b.name,c))]=_:=Qn h ok b hb c;have i1:cI [.Y (aN (b.name,c)),.Y (.ty "str")]=some (.Y (.bl false)):=Kq (.inr (b.name,c));have n1:eX [.Y (aX s),.Y (aN (b.name,c))]=_:=LD s (.inr (b.name,c));have m1:=K8 true s (jD h b c);unfold sX;by_cases z:s=.inr (b.name,c)
 .rw[ie z] at n1;generalize aX s=db at *;generalize aN (b.name,c)=da at *;simp only[dh,dW,jn,bH,bq,bj,bx,bf,↓ag,bP,br,bG,bC,bF,iI,bc,cQ,lP,ea,↓evMap,i1,jQ,dz,eV,dU,ck,lN,cU,eb,n1,iE,gP,gM,gL]
 .rw[i7 z] at n1;rw[Gv ok hb,XO,i7 (λy=>z y.symm),NM] at m
  rw[m] at m1;generalize aX s=db at *;generalize aN (b.name,c)=da at *;generalize((jD h b c).map aX).map O.Y=mv at *;simp only[dh,dW,jn,bH,bq,bj,bx,bf,↓ag,bP,br,bG,bC,bF,iI,bc,cQ,lP,ea,↓evMap,i1,jQ,dz,eV,dU,ck,lN,cU,eb,n1,nF,gP,gM,gL,e1,iK,iJ,m1,iE]
theorem Z0(ok:hG h){l:List Pl}(lk:Bw h af (p::l))(v:∀q,q∈p::l->VP h q)(hl:(p::l).length<=100):xV [.Y (cq h),.Y (aN p),.Y (.str af),.Y (.lst ((jW af (p::l)).map aX))]=some (.Y (.bl true),[none,none,none,none]):=by
 have rl:(jW af (p::l)).length=(p::l).length+1:=by unfold jW;rw[du,bK];rfl
 have a0:dq ((jW af (p::l)).map aX) 0=some (aN p):=lA _ _;have a1:dq ((jW af (p::l)).map aX) (-1)=some (.str af):=by
  unfold jW;rw[iF];exact ZU _ _
 have c0:¬((((jW af (p::l)).map aX).length:Nat):Int)<2:=by rw[bK,rl,iZ];lia
 have n0:eX [.Y (aN p),.Y (aN p)]=some (.Y (.bl false)):=by
  have:=LD (.inr p) (.inr p);rw[ie rfl] at this;exact this
 have n1:eX [.Y (.str af),.Y (.str af)]=some (.Y (.bl false)):=by
  have:=LD (.inl af) (.inl af);rw[ie rfl] at this;exact this
 obtain⟨ax,e2,a4,rfl⟩:=BO (g:=bu 4) (f:=sX) (λ(i:Nat)=>D.int (1+(i:Int))) (λQ0=>∃a4,Q0=[some (.Y (cq h)),some (.Y (aN p)),some (.Y (.str af)),some (.Y (.lst ((jW af (p::l)).map aX))),a4]) (List.range (p::l).length) [some (.Y (cq h)),some (.Y (aN p)),some (.Y (.str af)),some (.Y (.lst ((jW af (p::l)).map aX))),none] ⟨_,rfl⟩ (by
  rintro i hi Q0 ⟨a4,rfl⟩;rw[nv] at hi;have g:(p::l)[i]?=some (p::l)[i]:=ic hi;obtain⟨s,h1,h2⟩:=Sv lk i _ g;have g0:(jW af (p::l))[i]?=some (.inr (p::l)[i]):=by
   unfold jW;rw[xB (by rw[bK];exact hi),jO,g]
   rfl
  have ea:dq ((jW af (p::l)).map aX) (i:Int)=some (aN (p::l)[i]):=nO (by rw[jO,g0];rfl)
  have eb:dq ((jW af (p::l)).map aX) ((i+1:Nat):Int)=some (aX s):=nO (by rw[jO,h1];rfl)
  rw[show((i:Nat):Int)=1+(i:Int) - 1 by lia] at ea
  rw[show((i+1:Nat):Int)=1+(i:Int) by lia] at eb
  exact⟨_,X' ok _ (1+(i:Int)) (v _ (zj hi)) s h2 ea eb (some (.Y (aN p))) (some (.Y (.str af))),_,rfl⟩)
 rw[<-uj,show(p::l).length=(((jW af (p::l)).map aX).length - 1:Int).toNat by rw[bK,rl];lia] at e2
 have i2:kg [.own (.Y (.int 1)),.own (.Y (.int (((jW af (p::l)).map aX).length:Int)))]=some (1,(((jW af (p::l)).map aX).length:Int)):=FI (by decide) (by rw[bK,rl];lia)
 unfold xV;unfold JW;unfold wZ;have el:cC [.Y (.lst ((jW af (p::l)).map aX))]=some (.Y (.int (((jW af (p::l)).map aX).length:Nat))):=rfl;generalize(((jW af (p::l)).map aX).length:Int)=nl at *;generalize(jW af (p::l)).map aX=L at *;generalize aN p=dp at *;generalize sX=lb at *;simp only[gk,eM,eR,bM,bN,bO,reduceAdd,reduceSub,fZ,fF,fG,fH,dh,dW,wB,cU,bH,bq,bj,bx,bf,↓ag,br,bG,bC,bF,el,bP,iI,c0,decide_false,bc,dz,cQ,lP,a0,↓evMap,n0,RT,Int.reduceNeg,a1,n1,ck,eV,dU,Lq,i2,e2,gG,gq,gr,gy,gn]
noncomputable def wG(H:D)(PL:List D)(c:Str)(T:Int)(W:List D)(k:Int)(a6 a7:ao O):Gm:=[some (.Y H),some (.Y (.lst PL)),some (.Y (.str c)),some (.Y (.int T)),some (.Y (.lst W)),some (.Y (.int k)),a6,a7]
section
variable(H:D)(PL:List D)(c:Str)(T:Int)(W:List D)
theorem f0c(k0 k:Int)(L:List D)(a7:ao O):vT (wG H PL c T W k0 (some (.Y (.tup [.int k,.lst L]))) a7)=some (false,wG H PL c T W k0 (some (.Y (.tup [.int k,.lst L]))) a7):=by
 have e1:=CK [D.int k,.lst L];have e2:cC [.Y (.tup [D.int k,.lst L])]=some (.Y (.int 2)):=rfl;have e3:=Gh 2 2;rw[oS] at e3;have e4:=FQ k;have e5:=Lh L;unfold vT wG;simp only[wB,lM,jn,bH,bq,bj,bx,bf,↓ag,bP,br,bG,bC,bF,e1,jQ,iE,dz,cU,e2,e3,rh,cQ,jK,lA,↓evMap,fq,bT,fm,eM,eR,e4,uq,mJ,e5,ck]
theorem f0d(k0 k:Int)(L:List D)(a7:ao O)(h1:k0<k)(h2:k<(PL.length:Int))(h3:¬(T+1<(L.length:Int))):vU (wG H PL c T W k0 (some (.Y (.tup [.int k,.lst L]))) a7)=some (false,wG H PL c T W k0 (some (.Y (.tup [.int k,.lst L]))) a7):=by
 have e1:cC [.Y (.lst PL)]=some (.Y (.int (PL.length:Int))):=rfl;have e2:cC [.Y (.lst L)]=some (.Y (.int (L.length:Int))):=rfl;generalize(PL.length:Int)=n1 at *;generalize(L.length:Int)=n2 at *;have c1:=ie h1;have c2:=ie h2;unfold vU wG;simp only[wB,lM,Xw,bj,bx,bf,↓ag,bH,bq,bP,br,bG,bC,bF,cQ,jK,lA,↓evMap,c1,e1,c2,bc,iE,dz,cU,mJ,e2,iG,iI,h3,decide_false,ck]
theorem f0e(k:Int)(L:List D)(pd:D)(a7:ao O)(ha:dq PL k=some pd)(hg:xV [.Y H,.Y pd,.Y (.str c),.Y (.lst L)]=some (.Y (.bl true),[none,none,none,none])):vV (wG H PL c T W k (some (.Y (.tup [.int k,.lst L]))) a7)=some (false,wG H PL c T W k (some (.Y (.tup [.int k,.lst L]))) a7):=by
 unfold vV wG;simp only[lM,jn,rh,bq,bj,bf,↓ag,bH,bx,br,bG,bC,bF,cQ,lP,ha,↓evMap,bP,jK,mJ,fq,bT,fm,eM,eR,hg,uq,jQ,iE]
theorem NF(k:Int)(a6:ao O)(s:Sp):AQ (wG H PL c T W k a6 (some (.Y (aX s))))=some (.nx,wG H PL c T W k a6 (some (.Y (aX s)))):=by
 have e1:=Kq s;cases s with
 |inl x=>
  have e1:cI [.Y (aX (.inl x)),.Y (.ty "str")]=some (.Y (.bl true)):=e1;generalize aX (.inl x)=d at *;unfold AQ wG;simp only[dW,lN,lM,jn,bH,bq,bj,bx,bf,↓ag,bP,br,bG,bC,bF,e1,jQ,iE,dz,rh,fq,bT,fm,eM,eR,ck,eV,dU]
 |inr p=>
  have e1:cI [.Y (aX (.inr p)),.Y (.ty "str")]=some (.Y (.bl false)):=e1;have e2:v8 [.Y (aX (.inr p)),.Y (.int 2)]=some (.Y (.bl true),[none,none]):=e8a p;generalize aX (.inr p)=d at *;unfold AQ wG;simp only[dW,lN,lM,jn,bH,bq,bj,bx,bf,↓ag,bP,br,bG,bC,bF,e1,jQ,nF,rh,fq,bT,fm,eM,eR,e2,uq,iE,bc,dz,eV,dU,ck]
theorem ND(k:Int)(rd:List Sp)(a7:ao O):∃b7,Ih (wG H PL c T W k (some (.Y (.tup [.int k,.lst (rd.map aX)]))) a7)=some (.nx,wG H PL c T W k (some (.Y (.tup [.int k,.lst (rd.map aX)]))) b7):=by
 obtain⟨ax,e,b7,rfl⟩:=BO (g:=bu 7) (f:=AQ) aX (λQ0=>∃b7,Q0=wG H PL c T W k (some (.Y (.tup [.int k,.lst (rd.map aX)]))) b7) rd (wG H PL c T W k (some (.Y (.tup [.int k,.lst (rd.map aX)]))) a7) ⟨a7,rfl⟩ (by
  rintro s _ Q0 ⟨b7,rfl⟩;have hn:bu 7 (aX s) (wG H PL c T W k (some (.Y (.tup [.int k,.lst (rd.map aX)]))) b7)=some (wG H PL c T W k (some (.Y (.tup [.int k,.lst (rd.map aX)]))) (some (.Y (aX s)))):=rfl;rw[hn,Option.bind_some];exact⟨_,NF H PL c T W k _ s,_,rfl⟩)
 refine⟨b7,?_⟩;generalize rd.map aX=L at *;unfold wG at e;unfold Ih wG;generalize AQ=ws at *;simp only[oW,cO,bH,bq,bj,bx,bf,↓ag,bP,br,bG,bC,bF,cQ,jK,mJ,↓evMap,bT,e]
theorem NC(k0 k:Int)(rd:List Sp)(pd:D)(a7:ao O)(h1:k0<k)(h2:k<(PL.length:Int))(h3:¬(T+1<(rd.length:Int)))(ha:dq PL k=some pd)(hg:xV [.Y H,.Y pd,.Y (.str c),.Y (.lst (rd.map aX))]=some (.Y (.bl true),[none,none,none,none])):
  ∃b7,AO (wG H PL c T W k0 (some (.Y (.tup [.int k,.lst (rd.map aX)]))) a7)=some (.nx,wG H PL c T W k (some (.Y (.tup [.int k,.lst (rd.map aX)]))) b7):=by
 have e1:=f0c H PL c T W k0 k (rd.map aX) a7;have e2:=f0d H PL c T W k0 k (rd.map aX) a7 h1 h2 (by rw[bK];exact h3)
 obtain⟨b7,e3⟩:=ND H PL c T W k rd a7;have e4:=f0e H PL c T W k (rd.map aX) pd b7 ha hg;refine⟨b7,?_⟩;generalize rd.map aX=L at *;unfold AO;unfold wG at *;generalize vT=t1 at *;generalize vU=t2 at *;generalize vV=t3 at *;generalize Ih=tf at *;simp only[dh,dW,e1,↓ag,dz,eV,bP,dU,ck,e2,eU,bH,bq,bj,bx,bf,br,bG,bC,bF,cQ,jK,lA,↓evMap,bM,bN,bO,reduceAdd,reduceLT,cD,bQ,bc,e3,e4]
end
theorem Fo:∀{w:List Pl} {k:Nat} {c:rN},c∈jC k w->∃j:Nat,w[j]?=some c.1/\c.2=((k+j:Nat):Int)
 |p::w,k,c,m=>by
  rcases eO.mp m with m|m
  .subst m;exact⟨0,rfl,rfl⟩
  .obtain⟨j,h1,h2⟩:=Fo m;exact⟨j+1,h1,by rw[h2];congr 1;lia⟩
theorem RC:∀(w:List Pl) (k:Nat),(jC k w).Nodup
 |[],_=>zk
 |p::w,k=>ib.mpr ⟨λm=>by
   obtain⟨j,_,e⟩:=Fo m;have e:(k:Int)=((k+1+j:Nat):Int):=e;lia,RC w (k+1)⟩
theorem J7{α β:Type}{R:α->β->Prop}{a:List α}{b:List β}(p:Paired R a b):∀y,y∈b->∃x,x∈a/\R x y:=by
 induction p with
 |nil=>intro y m;cases m
 |cons h _ ih=>
  intro y m;rcases eO.mp m with m|m
  .subst m;exact⟨_,nE,h⟩
  .obtain⟨x,m1,r⟩:=ih y m;exact⟨x,oO _ m1,r⟩
theorem RD{α β:Type}{R:α->β->Prop}{S:α->α->Prop}{T:β->β->Prop}{a:List α}{b:List β}(p:Paired R a b)(st:∀x x' y y',R x y->R x' y'->S x x'->T y y'):a.Pairwise S->b.Pairwise T:=by
 induction p with
 |nil=>intro _;exact .nil
 |cons h t ih=>
  intro s;obtain⟨s1,s2⟩:=Iu.mp s;refine Iu.mpr ⟨λy m=>?_,ih s2⟩
  obtain⟨x,m1,r⟩:=J7 t y m;exact st _ _ _ _ h r (s1 x m1)
theorem FR:∀{ps:List Pl} {k:Nat} {x:Nat×Pl},x∈qi k ps->∃j:Nat,ps[j]?=some x.2/\x.1=k+j
 |p::ps,k,x,m=>by
  rcases eO.mp m with m|m
  .subst m;exact⟨0,rfl,rfl⟩
  .obtain⟨j,h1,h2⟩:=FR m;exact⟨j+1,h1,by lia⟩
theorem Sw:∀(ps:List Pl) (k:Nat),(qi k ps).Pairwise λx y=>x.1<y.1
 |[],_=>.nil
 |p::ps,k=>Iu.mpr ⟨λy m=>by
   obtain⟨j,_,e⟩:=FR m;show k<y.1;lia,Sw ps (k+1)⟩
theorem Sx:∀{ps:List Pl} (k:Nat),ps.Nodup->(qi k ps).Pairwise λx y=>x.2≠y.2
 |[],_,_=>.nil
 |p::ps,k,nd=>by
  obtain⟨n1,n2⟩:=ib.mp nd;refine Iu.mpr ⟨λy m z=>?_,Sx (k+1) n2⟩
  obtain⟨j,e,_⟩:=FR m;have z:p=y.2:=z;rw[<-z] at e;exact n1 (kL e)
structure IE (h:aA) (P:List Pl) (af:Str) (n:Nat) (ys:List (Nat×List Pl)):Prop where
 up:ys.Pairwise λx y=>x.1<y.1
 el:∀y,y∈ys->∃p l,y.2=p::l/\P[y.1]?=some p/\y.2.length<=n/\Bw h af y.2/\∀q,q∈y.2->VP h q
 tg:(gD (ys.map λy=>(y.2,af))).Nodup
theorem Pz(ok:hG h)(nd:P.Nodup)(v:∀p,p∈P->VP h p)(td:Told h P af n W C):∃ys,IE h P af n ys/\W=ys.map (gY af):=by
 obtain⟨pl,N,N',l,ka,t,F,ms,me,cl,pr,hC⟩:=td.ex;obtain⟨ys,p2,eW⟩:=ZZ pr;refine⟨ys,⟨?_,?_,?_⟩,eW⟩
 .exact RD p2 (λx x' y y' r r' s=>by rw[r.k,r'.k];exact s) ((Sw P 0).filter _)
 .intro y m;obtain⟨x,mx,r⟩:=J7 p2 y m;obtain⟨j,ej,hj⟩:=FR (kc.mp mx).1;obtain⟨f1,⟨lw,f2⟩,f3,f4,_⟩:=Kx t F r.f 0 x.2 rfl;refine⟨x.2,lw,f2,by rw[r.k,hj,Es];exact ej,by lia,f4,λq mq=>?_⟩
  obtain⟨k,hk⟩:=f3 q mq;exact(yt ok nd v k).2 q hk
 .unfold gD;refine List.pairwise_flatten.mpr ⟨λs m=>?_,?_⟩
  .obtain⟨w,_,rfl⟩:=iQ.mp m;exact RC _ _
  .rw[oQ];refine NX.mpr (RD p2 (λx x' y y' r r' s=>?_) ((Sx 0 nd).filter _))
   intro c m1 c' m2 e;subst e;obtain⟨j,h1,h2⟩:=Fo m1;obtain⟨j',L7,wY⟩:=Fo m2;have ej:j=j':=by lia
   subst ej;exact s (X_ t F r.f r'.f j c.1 h1 L7)
theorem Qp(af:Str)(n:Nat):∀ys:List (Nat×List Pl),(∀y,y∈ys->y.2.length<=n)->(gD (ys.map λy=>(y.2,af))).length<=ys.length*n
 |[],_=>kK _
 |y::ys,hl=>by
  have ih:=Qp af n ys λy m=>hl y (oO _ m)
  have h1:=hl y nE;show(jC 0 y.2++gD (ys.map λy=>(y.2,af))).length<=_
  rw[du,Fm,iZ,Nat.add_mul];lia
theorem Li{N:Nat}(up:ys.Pairwise λx y=>x.1<y.1)(hb:∀y,y∈ys->y.1<N):ys.length<=N:=by
 have nd:(ys.map (·.1)).Nodup:=NX.mpr (up.imp λh=>lJ h)
 have:=xP nd (m:=List.range N) λx m=>by
  obtain⟨y,my,rfl⟩:=iQ.mp m;exact nv.mpr (hb y my)
 rw[bK,oR] at this;exact this
def iW:List (Nat×List Pl)->Int
 |[] => -1
 |y::ys=>match ys with
  |[]=>(y.1:Int)
  |_=>iW ys
theorem Jx:∀(ys:List (Nat×List Pl)) (y:Nat×List Pl),iW (ys++[y])=(y.1:Int)
 |[],y=>rfl
 |[a],y=>rfl
 |a::b::ys,y=>by
  show iW (b::ys++[y])=_;exact Jx (b::ys) y
theorem Ya{q:List (Nat×List Pl)}{y:Nat×List Pl}{post:List (Nat×List Pl)}(up:(q++y::post).Pairwise λx y=>x.1<y.1):iW q<(y.1:Int):=by
 rcases List.eq_nil_or_concat q with e|⟨q',z,e⟩
 .subst e;show(-1:Int)<_;lia
 .subst e;rw[List.concat_eq_append,Jx];rw[List.concat_eq_append,fE] at up;have:=(List.pairwise_append.mp up).2.1;have:=(Iu.mp this).1 y nE;lia
theorem Z4(ok:hG h)(hc:af∈h.aS)(T:Int)(n:Nat)(hT:T=n)(hn:n<=12)(hP:P.length<=20)(wy:IE h P af n ys)(Wd:List D):
  ∃b6 b7,gj (bu 6) AO (ys.map (gY af)) (wG (cq h) (P.map aN) af T Wd (-1) none none)=some (.nx,wG (cq h) (P.map aN) af T Wd (iW ys) b6 b7):=by
 obtain⟨ax,e,b6,b7,rfl⟩:=nk (g:=bu 6) (f:=AO) (gY af) (λpre Q0=>∃b6 b7,Q0=wG (cq h) (P.map aN) af T Wd (iW pre) b6 b7) ys [] (wG (cq h) (P.map aN) af T Wd (-1) none none) ⟨none,none,rfl⟩ (by
  rintro q y post Q0 ey ⟨b6,b7,rfl⟩;rw[gu] at *;have my:y∈ys:=by rw[ey];simp
  obtain⟨p,l,e1,e2,e3,e4,e5⟩:=wy.el y my;have up:=wy.up;rw[ey] at up;have k1:=Ya up;rw[Jx];obtain⟨hk,_⟩:=e_.mp e2;have hg:xV [.Y (cq h),.Y (aN p),.Y (.str af),.Y (.lst ((jW af y.2).map aX))]=some (.Y (.bl true),[none,none,none,none]):=by
   rw[e1] at e3 e4 e5 ⊢;exact Z0 ok e4 e5 (by lia)
  have ha:dq (P.map aN) (y.1:Int)=some (aN p):=by
   apply nO;rw[jO,e2];rfl
  have hn:bu 6 (gY af y) (wG (cq h) (P.map aN) af T Wd (iW q) b6 b7)=some (wG (cq h) (P.map aN) af T Wd (iW q) (some (.Y (gY af y))) b7):=rfl;rw[hn,Option.bind_some];have ee:gY af y=.tup [.int (y.1:Int),.lst ((jW af y.2).map aX)]:=by
   rw[f0b];rfl
  rw[ee];obtain⟨c7,st⟩:=NC (cq h) (P.map aN) af T Wd (iW q) (y.1:Int) (jW af y.2) (aN p) b7 k1 (by rw[bK];lia) (by unfold jW;rw[du,bK,ko];lia) ha hg
  exact⟨_,st,_,c7,rfl⟩)
 exact⟨b6,b7,e⟩
theorem e8b(ok:hG h)(hc:af∈h.aS)(T:Int)(n:Nat)(hT:T=n)(hn:n<=12)(hP:P.length<=20)(wy:IE h P af n ys):
  EH [.Y (cq h),.Y (.lst (P.map aN)),.Y (.str af),.Y (.int T),.Y (.lst (ys.map (gY af)))]=some (.Y (.bl true),[none,none,none,none,none]):=by
 obtain⟨b6,b7,e1⟩:=Z4 ok hc T n hT hn hP wy (ys.map (gY af));have hl:ys.length<=P.length:=Li wy.up λy m=>by
  obtain⟨p,l,_,e2,_⟩:=wy.el y m;exact(e_.mp e2).1
 have hs:=Qp af n ys λy m=>by
  obtain⟨p,l,_,_,e3,_⟩:=wy.el y m;exact e3
 have uJ:ys.length*n<=20*12:=Nat.mul_le_mul (by lia) hn
 have e2:=U5 (ys.map λy=>(y.2,af)) wy.tg (by lia)
 rw[oQ] at e2;obtain⟨q9,⟨x0,rfl⟩,e3⟩:=zB (g:=bu 0) (ct:=fL) (ce:=gB bt (aa 0) (gC (.int 1))) (λQ0=>∃x0,Q0=[x0]) (gY af) (λy=>lx (y.2,af)) ys [none] ⟨none,rfl⟩ (by lia) (by
  rintro y m Q0 ⟨x0,rfl⟩;refine⟨[some (.Y (gY af y))],?_,_,rfl⟩;unfold gY;generalize lx (y.2,af)=d;generalize(y.1:Int)=k;simp only[u4,gw,bM,bN,bO,reduceLT,bQ,bc,↓ag,uy,bH,bq,bj,bf,bP,br,bG,bC,bF,cQ,jK,mJ,↓evMap])
 have e4:=Lh (ys.map (gY af));have e5:ys.map (lx∘λy=>(y.2,af))=ys.map λy=>lx (y.2,af):=rfl
 rw[e5] at e2;generalize ys.map (gY af)=W at *;generalize(ys.map λy=>lx (y.2,af))=L at *
 generalize iW ys=lk at *;unfold wG at e1;unfold EH;unfold IG;unfold Uj;generalize AO=wb at *;simp only[gk,eM,eR,bM,bN,bO,reduceAdd,reduceSub,fZ,fF,fG,fH,dh,dW,lM,jn,bH,bq,bj,bx,bf,↓ag,bP,br,bG,bC,bF,e4,jQ,iE,dz,eV,dU,ck,eU,RT,Int.reduceNeg,reduceLT,cD,bQ,bc,oW,cO,bT,e1,rh,oT,wq,ph,e3,qC,o6,pj,fq,jL,r9,fm,e2,uq,gG,gq,gr,gy,gn]
theorem S2(c:Ct):(sj c).d=cy c:=by unfold sj cy;simp[TK.d,TK.dl]
theorem S3(a b:Ct):bh (cy a) (cy b)=decide (a=b):=by
 rw[<-S2,<-S2,xX];exact decide_eq_decide.mpr ⟨FK,λe=>by rw[e]⟩
theorem e8e(n:Nat)(cs:List Ct):(cs.map cy).all (cJ (n+1))=true:=by
 rw[Im,jH];exact λx _=>G3 n x
theorem Sy(c:Ct)(C:List Ct)(o:O)(ho:o.d=cy c)(hs:cj true [o,.Y (.lst (C.map cy))]=(oF (O.Y (.lst (C.map cy))).d).bind λds=>if cJ 40 o.d=true/\ds.all (cJ 40)=true then some (.Y (.bl (if true then !ds.any λz=>bh z o.d else ds.any λz=>bh z o.d))) else none):cj true [o,.Y (.lst (C.map cy))]=some (.Y (.bl (!decide (c∈C)))):=by
 have e1:((C.map cy).any λz=>bh z (cy c))=decide (c∈C):=by
  rw[List.any_map,t9,AX,decide_eq_true_eq];constructor
  .rintro⟨x,h1,h2⟩;have h2:bh (cy x) (cy c)=true:=h2;rw[S3] at h2;rw[<-uQ h2];exact h1
  .intro m;refine⟨c,m,?_⟩;show bh (cy c) (cy c)=true;rw[S3];exact ie rfl
 rw[hs];show(if cJ 40 o.d=true/\(C.map cy).all (cJ 40)=true then some (O.Y (.bl (!(C.map cy).any λz=>bh z o.d))) else none)=_
 rw[ho,aU ⟨G3 39 c,e8e 39 C⟩,e1]
theorem e8f(a b:Sp):oEq [.Y (aX a),.Y (aX b)]=some (.Y (.bl (decide (a=b)))):=by
 rw[nU,bT,bT,aU ⟨yr 39 a,yr 39 b⟩,LC]
theorem e8g(q:Pl)(bs:List Pl):cj true [.Y (aN q),.lst ((bs.map aN).map .Y)]=some (.Y (.bl (!decide (q∈bs)))):=by
 have e:=K8 true (.inr q) (bs.map .inr);rw[Kw] at e;have m:dR (.inr q) (bs.map .inr)=decide (q∈bs):=by
  rw[t9,iB,decide_eq_true_eq,iQ];exact⟨λ⟨x,h1,h2⟩=>by cases h2;exact h1,λh=>⟨q,h,rfl⟩⟩
 rw[m] at e;exact e
def kJ(H PL:D)(c:Str)(T:Int)(C:List Ct)(a5 a6 a7 a8 a9 cx:ao O):Gm:=[some (.Y H),some (.Y PL),some (.Y (.str c)),some (.Y (.int T)),some (.Y (.lst (C.map cy))),a5,a6,a7,a8,a9,cx]
section
variable(H PL:D)(af:Str)(T:Int)(C:List Ct)(a5 a6 a9:ao O)(m:Int)
theorem Z5(bs:List Pl)(y:Str):mY (kJ H PL af T C a5 a6 (some (.Y (.int m))) (some (.lst ((bs.map aN).map .Y))) a9 (some (.Y (.str y))))=some (.nx,kJ H PL af T C a5 a6 (some (.Y (.int m))) (some (.lst ((bs.map aN).map .Y))) a9 (some (.Y (.str y)))):=by
 have e1:=CG y;unfold mY kJ;simp only[dW,lN,lM,jn,bH,bq,bj,bx,bf,↓ag,bP,br,bG,bC,bF,e1,jQ,iE,dz,cU,j7,i6,ck,jJ,lO,eS,dX,oX,dU]
theorem e8h(bs:List Pl)(hl:bs.length<1000)(q:Pl):∃n6,((n6=bs)\/(n6=bs++[q]/\q∉bs/\at' q m∉C))/\mY (kJ H PL af T C a5 a6 (some (.Y (.int m))) (some (.lst ((bs.map aN).map .Y))) a9 (some (.Y (aN q))))=some (.nx,kJ H PL af T C a5 a6 (some (.Y (.int m))) (some (.lst ((n6.map aN).map .Y))) a9 (some (.Y (aN q)))):=by
 have e1:cI [.Y (aN q),.Y (.ty "str")]=some (.Y (.bl false)):=Kq (.inr q);have e2:=e8g q bs;have e3:cj true [.tup [.Y (.str q.1),.Y (.int q.2),.Y (.int m)],.Y (.lst (C.map cy))]=some (.Y (.bl (!decide (at' q m∈C)))):=Sy (at' q m) C _ (by simp[O.d,O.dl,cy,at']) rfl
 have e4:lD (.lst ((bs.map aN).map .Y)) [.Y (aN q)]=some (.lst (((bs++[q]).map aN).map .Y),.Y .bL):=ZS aN bs q (by lia)
 have e5:mh [.Y (aN q),.Y (.tup [.int m])]=some (.tup [.Y (.str q.1),.Y (.int q.2),.Y (.int m)]):=by
  show mh [.Y (.tup [.str q.1,.int q.2]),.Y (.tup [.int m])]=_;rw[Y1,aU ⟨by simp,by simp,by simp⟩]
  rfl
 by_cases h1:q∈bs
 .refine⟨bs,.inl rfl,?_⟩;rw[ie h1] at e2;generalize aN q=sd at *;unfold mY kJ;simp only[dW,lN,lM,jn,bH,bq,bj,bx,bf,↓ag,bP,br,bG,bC,bF,e1,jQ,nF,cU,j7,i6,e2,iE,dz,cO,eQ,bM,bN,bO,reduceLeDiff,eS,dX,bc,h_,fq,bT,fm,ck,jJ,lO,oX,dU]
 .rw[i7 h1] at e2;by_cases h2:at' q m∈C
  .refine⟨bs,.inl rfl,?_⟩;rw[ie h2] at e3;generalize aN q=sd at *;unfold mY kJ;simp only[dW,lN,lM,jn,bH,bq,bj,bx,bf,↓ag,bP,br,bG,bC,bF,e1,jQ,nF,cU,j7,i6,e2,cO,eQ,bM,bN,bO,reduceLeDiff,eS,dX,bc,h_,fq,bT,fm,e5,e3,iE,dz,jJ,lO,oX,dU,ck]
  .refine⟨bs++[q],.inr ⟨rfl,h1,h2⟩,?_⟩;rw[i7 h2] at e3;generalize aN q=sd at *;unfold mY kJ;simp only[dW,lN,lM,jn,bH,bq,bj,bx,bf,↓ag,bP,br,bG,bC,bF,e1,jQ,nF,cU,j7,i6,e2,cO,eQ,bM,bN,bO,reduceLeDiff,eS,dX,bc,h_,fq,bT,fm,e5,e3,jJ,lO,e4,cD,bQ,dU]
theorem SA{Oc:ao O}(x:Sp)(hx:x≠.inl af)(e:mY (kJ H PL af T C a5 a6 (some (.Y (.int m))) a8 a9 (some (.Y (aX x))))=some (.nx,kJ H PL af T C a5 a6 (some (.Y (.int m))) Oc a9 (some (.Y (aX x)))))(cx:ao O):
  (bu 10 (aX x) (kJ H PL af T C a5 a6 (some (.Y (.int m))) a8 a9 cx)).bind tZ=some (.nx,kJ H PL af T C a5 a6 (some (.Y (.int m))) Oc a9 (some (.Y (aX x)))):=by
 have e1:oEq [.Y (aX x),.Y (.str af)]=some (.Y (.bl false)):=by
  have:=e8f x (.inl af);rw[i7 hx] at this;exact this
 generalize aX x=sd at *;unfold kJ at *;unfold tZ;generalize mY=sa at *;simp only[gw,bM,bN,bO,reduceAdd,reduceLT,cD,bQ,bc,↓ag,dh,dW,cU,bH,bq,bj,bx,bf,br,bG,bC,bF,e1,dz,eV,bP,dU,ck,e]
end
section
variable{h:aA}(ok:hG h){P:List Pl}(nd:P.Nodup)(vq:∀p,p∈P->VP h p)(PL:D){af:Str}(T:Int)(C:List Ct)
def Bh(h:aA)(C:List Ct)(now:List Pl)(m:Int)(bs:List Pl):Prop:=bs.Nodup/\∀q,q∈bs->(∃p,p∈now/\q∈iV h p)/\at' q m∉C
include ok in
theorem e8i{bs:List Pl}(v:∀p,p∈now->VP h p)(b:Bh h C now m bs):bs.length<=120:=Lc ok b.1 λq mq=>by
 obtain⟨⟨p,mp,g⟩,_⟩:=b.2 q mq;exact Pr ok (v p mp) g
include ok in
theorem Yb(v:∀p,p∈now->VP h p)(mp:p∈now)(hc:¬dR (.inl af) (jo h p)=true)(a5 a6 a9 cx:ao O)(bs:List Pl)(b:Bh h C now m bs):
  ∃n6 ij,Bh h C now m n6/\(bu 9 (aN p) (kJ (cq h) PL af T C a5 a6 (some (.Y (.int m))) (some (.lst ((bs.map aN).map .Y))) a9 cx)).bind sY=some (.nx,kJ (cq h) PL af T C a5 a6 (some (.Y (.int m))) (some (.lst ((n6.map aN).map .Y))) (some (.Y (aN p))) ij):=by
 have vp:=v p mp;have ml:=Kv ok vp;obtain⟨ax,e,n6,ij,b',rfl⟩:=BO (g:=bu 10) (f:=tZ) aX (λQ0=>∃n6 ij,Bh h C now m n6/\Q0=kJ (cq h) PL af T C a5 a6 (some (.Y (.int m))) (some (.lst ((n6.map aN).map .Y))) (some (.Y (aN p))) ij) ([.inr p]++kn h (.inr p)) _ ⟨bs,cx,b,rfl⟩ (by
  rintro x mx Q0 ⟨n6,ij,b',rfl⟩;have mx:x∈jo h p:=by
   unfold jo;rw[eD] at mx ⊢;exact mx.symm
  have nx:x≠.inl af:=λz=>hc (iB.mpr (by rw[<-z];exact mx))
  cases x with
  |inl y=>exact⟨_,SA (cq h) PL af T C a5 a6 _ m (.inl y) nx (Z5 (cq h) PL af T C a5 a6 _ m n6 y) ij,n6,_,b',rfl⟩
  |inr q=>
   obtain⟨UU,hb,e⟩:=e8h (cq h) PL af T C a5 a6 (some (.Y (aN p))) m n6 (by have:=e8i ok C v b';lia) q
   refine⟨_,SA (cq h) PL af T C a5 a6 _ m (.inr q) nx e ij,UU,_,?_,rfl⟩;rcases hb with rfl|⟨rfl,h1,h2⟩
   .exact b'
   .refine⟨jk.mpr ⟨b'.1,by simp,λa ma c mc z=>?_⟩,λy my=>?_⟩
    .rw[jI] at mc;subst mc z;exact h1 ma
    .rcases eD.mp my with my|my
     .exact b'.2 y my
     .rw[jI] at my;subst my;exact⟨⟨p,mp,mQ.mpr mx⟩,h2⟩)
 refine⟨n6,ij,b',?_⟩;have ee:xN [.Y (cq h),.Y (aN p)]=some (.lst (((kn h (.inr p)).map aX).map .Y),[none,none]):=by
  obtain⟨n,c⟩:=p;obtain⟨b,hb,e,_⟩:=vp;dsimp only at e;subst e;rw[Rf ok.fwd hb];exact Qn h ok b hb c
 have ea:bY [.lst [.Y (aN p)],.lst (((kn h (.inr p)).map aX).map .Y)]=some (.lst ((([.inr p]++kn h (.inr p):List Sp).map aX).map .Y)):=by
  show bY [.lst ([aX (.inr p)].map .Y),.lst (((kn h (.inr p)).map aX).map .Y)]=_;have l2:(kn h (.inr p)).length<=31:=by unfold jo at ml;rw[du] at ml;lia
  rw[Fx,KH,Option.bind_some,KH,Option.bind_some,aU (by rw[bK,ko];lia)]
  rw[iF (f:=aX)];rfl
 have dl:O.dl ((([.inr p]++kn h (.inr p):List Sp).map aX).map .Y)=([.inr p]++kn h (.inr p):List Sp).map aX:=pq _;generalize([.inr p]++kn h (.inr p):List Sp).map aX=ms at *;generalize((kn h (.inr p)).map aX).map O.Y=mo at *;unfold kJ at *;unfold sY;generalize aN p=sd at *;generalize tZ=sa at *;simp only[gw,bM,bN,bO,reduceAdd,reduceLT,cD,bQ,bc,↓ag,oW,cO,bH,bq,eQ,bj,bx,bf,br,reduceLeDiff,eS,dX,gP,gM,gL,ee,iK,iJ,bG,bC,bF,ea,jL,dl,e]
include ok nd vq in
theorem e8j(hT:T=n)(hn:n<=12)(hP:P.length<=20)(sep:Sep h P af n C):
  ∃ss,Fg [.Y (cq h),.Y (.lst (P.map aN)),.Y (.str af),.Y (.int T),.Y (.lst (C.map cy))]=some (.lst (List.map .Y ss),[none,none,none,none,none]):=by
 obtain⟨Q00,⟨x0,rfl⟩,e1⟩:=xU (g:=bu 0) (ct:=vC) (ce:=aa 0) (λQ0=>∃a,Q0=[a,some (.Y (.lst (C.map cy)))]) aN (λp => !decide (at' p 0∈C)) aN P [] [none,some (.Y (.lst (C.map cy)))] ⟨_,rfl⟩ (by rw[uO];lia) (by
  rintro p _ Q0 ⟨a,rfl⟩;refine⟨[some (.Y (aN p)),some (.Y (.lst (C.map cy)))],?_,_,rfl⟩;have ek:cj true [.Y (.tup [.str p.1,.int p.2,.int 0]),.Y (.lst (C.map cy))]=some (.Y (.bl (!decide (at' p 0∈C)))):=Sy (at' p 0) C _ rfl rfl;have x0:dN (.Y (aN p)) (.int 0)=some (.Y (.str p.1)):=rfl;have x1:dN (.Y (aN p)) (.int 1)=some (.Y (.int p.2)):=rfl;generalize aN p=sd at *;generalize D.lst (C.map cy)=cd at *;unfold vC;cases hb:decide (at' p 0∈C) with
  |true=>
   rw[hb] at ek;simp only[u4,gw,bM,bN,bO,reduceAdd,reduceLT,bQ,bc,↓ag,cU,bH,bq,cO,eQ,bj,bf,bP,br,bG,bC,bF,cQ,x0,x1,reduceLeDiff,eS,dX,h_,fq,bT,fm,bx,ek,iE,dz,ck]
  |false=>
   rw[hb] at ek;simp only[u4,gw,bM,bN,bO,reduceAdd,reduceLT,bQ,bc,↓ag,cU,bH,bq,cO,eQ,bj,bf,bP,br,bG,bC,bF,cQ,x0,x1,reduceLeDiff,eS,dX,h_,fq,bT,fm,bx,ek,nF])
 rw[gu,show([]:List D).map O.Y=[] from rfl] at e1;obtain⟨ax,e2,now,ss,a7,a8,a9,cx,_,_,rfl⟩:=nk (g:=bu 7) (f:=vB) (λk:Nat=>D.int (1+(k:Int))) (λpre Q0=>∃(now:List Pl) (ss:List D) (a7 a8 a9 cx:ao O),(∀p,p∈now->BD h P C pre.length p/\at' p (pre.length:Int)∉C)/\ss.length=pre.length+1/\Q0=kJ (cq h) (.lst (P.map aN)) af T C (some (.Y (.lst (now.map aN)))) (some (.lst (ss.map .Y))) a7 a8 a9 cx) (List.range n) []
  (kJ (cq h) (.lst (P.map aN)) af T C (some (.Y (.lst ((P.filter λp => !decide (at' p 0∈C)).map aN)))) (some (.lst [.Y (.lst ((P.filter λp => !decide (at' p 0∈C)).map aN))])) none none none none)
  ⟨_,[.lst ((P.filter λp => !decide (at' p 0∈C)).map aN)],none,none,none,none,λp mp=>by
   obtain⟨m1,m2⟩:=kc.mp mp;rw[Bool.not_eq_true',decide_eq_false_iff_not] at m2;exact⟨m1,m2⟩,rfl,rfl⟩ (by
   rintro pre k post Q0 ek ⟨now,ss,a7,a8,a9,cx,yH,hs,rfl⟩;rw[gu] at *;obtain⟨k1,k2⟩:=Py ek;subst k1;have vn:∀p,p∈now->VP h p:=λp mp=>(yt ok nd vq pre.length).2 p (z_ (yH p mp).1)
   obtain⟨cn,e,bs,b9,ij,b,rfl⟩:=BO (g:=bu 9) (f:=sY) aN (λQ0=>∃bs b9 ij,Bh h C now (1+(pre.length:Int)) bs/\Q0=kJ (cq h) (.lst (P.map aN)) af T C (some (.Y (.lst (now.map aN)))) (some (.lst (ss.map .Y))) (some (.Y (.int (1+(pre.length:Int))))) (some (.lst ((bs.map aN).map .Y))) b9 ij) now
    (kJ (cq h) (.lst (P.map aN)) af T C (some (.Y (.lst (now.map aN)))) (some (.lst (ss.map .Y))) (some (.Y (.int (1+(pre.length:Int))))) (some (.lst [])) a9 cx) ⟨[],a9,cx,⟨zk,λq z=>by cases z⟩,rfl⟩ (by
     rintro p mp Q0 ⟨bs,b9,ij,b,rfl⟩;obtain⟨n6,uE,b',e⟩:=Yb ok (.lst (P.map aN)) T C vn mp (sep pre.length k2 p (yH p mp).1 (yH p mp).2) (some (.Y (.lst (now.map aN)))) (some (.lst (ss.map .Y))) b9 ij bs b;exact⟨_,e,n6,_,uE,b',rfl⟩)
   refine⟨kJ (cq h) (.lst (P.map aN)) af T C (some (.Y (.lst (bs.map aN)))) (some (.lst ((ss++[D.lst (bs.map aN)]).map .Y))) (some (.Y (.int (1+(pre.length:Int))))) (some (.Y (.lst (bs.map aN)))) b9 ij,?_,bs,_,_,_,_,_,λq mq=>?_,by rw[du,du,hs];rfl,rfl⟩
   .have c1:(ss.length<1000000)=True:=kq (by lia)
    have dl:O.dl ((bs.map aN).map .Y)=bs.map aN:=pq _;generalize 1+(pre.length:Int)=ki at *;generalize bs.map aN=B at *;generalize now.map aN=N at *;unfold kJ at *;unfold vB;generalize sY=la at *;simp only[gw,bM,bN,bO,reduceAdd,reduceLT,cD,bQ,bc,↓ag,dh,eU,eQ,br,reduceLeDiff,dX,oW,cO,bj,bx,bf,bT,e,jL,dl,jJ,lO,bq,eS,oX,c1]
   .obtain⟨⟨p,mp,g⟩,nc⟩:=b.2 q mq;rw[du,ko];refine⟨⟨p,(yH p mp).1,(yH p mp).2,g⟩,?_⟩;rw[show((pre.length+1:Nat):Int)=1+(pre.length:Int) by lia]
    exact nc)
 refine⟨ss,?_⟩;rw[<-uj] at e2;have i2:kg [.own (.Y (.int 1)),.own (.Y (.int (T+1)))]=some (1,T+1):=FI (by decide) (by lia)
 have tn:(T+1 - 1).toNat=n:=by lia
 rw[show fU 1 n=fU 1 (T+1 - 1).toNat by rw[tn]] at e2
 have dl:O.dl (((P.filter λp => !decide (at' p 0∈C)).map aN).map .Y)=(P.filter λp => !decide (at' p 0∈C)).map aN:=pq _
 generalize(P.filter λp => !decide (at' p 0∈C)).map aN=N0 at *
 unfold kJ at e2;unfold Fg;unfold JX;unfold DF;generalize vC=nt at *;generalize vB=la at *;simp only[gk,eM,eR,bM,bN,bO,reduceAdd,reduceSub,fZ,fF,fG,fH,dh,eU,cO,oT,wq,bj,bx,bf,↓ag,bT,u0,i6,cD,bQ,ph,e1,qC,o6,u3,pj,bc,jL,dl,reduceLT,eQ,bq,br,reduceLeDiff,eS,dX,Lq,bP,bH,bG,bC,bF,iG,i2,e2,eV,rZ,gG,gq,gr,gy,gn]
end
theorem Z8(c:Ct):v8 [.Y (cy c),.Y (.int 3)]=some (.Y (.bl true),[none,none]):=by
 obtain⟨n,i,j⟩:=c;have e1:=CK [D.str n,.int i,.int j];have e2:=CG n;have e3:=Gh 3 3;rw[oS] at e3;have e4:=FQ i;have Γ:=FQ j;have e5:rL (.Y (.tup [D.str n,.int i,.int j])) (some 1) none=some (.tup [.Y (.int i),.Y (.int j)]):=rfl;have e6:=EZ (λbs=>bs.all id) [true,true]
 have e6:yk (λbs=>bs.all id) [.lst [.Y (.bl true),.Y (.bl true)]]=some (.Y (.bl true)):=e6
 have e7:cC [.Y (.tup [D.str n,.int i,.int j])]=some (.Y (.int 3)):=rfl;unfold cy v8 EN;simp only[gk,eM,eR,bM,bN,bO,reduceAdd,reduceSub,fF,fG,fH,dh,dW,wB,lM,jn,bH,bq,bj,bf,↓ag,bP,br,bG,bC,bF,e1,jQ,iE,dz,cU,e7,bx,e3,cQ,jK,lA,↓evMap,e2,ck,eV,dU,oT,Q7,cO,zy,zL,zO,zK,e5,h_,fq,bT,fm,fZ,ph,Ge,gw,reduceLT,bQ,bc,uy,rh,e4,uq,eS,dX,Γ,Gd,qC,o6,pj,e6,gG,gq,gr,gy,gn]
structure N8 (h:aA) (P:List Pl) (af:Str) (n:Nat) (C:List Ct):Prop where
 nd:C.Nodup
 el:∀c,c∈C->∃(p:Pl) (m:Nat),c=at' p (m:Int)/\VP h p
 sp:Sep h P af n C
theorem Qq(ok:hG h)(nd:P.Nodup)(v:∀p,p∈P->VP h p)(td:Told h P af n W C):N8 h P af n C/\W.length=C.length:=by
 obtain⟨k1,k2⟩:=X4 ok nd v td;obtain⟨pl,N,N',l,ka,t,F,ms,me,cl,pr,hC⟩:=td.ex;refine⟨⟨by rw[hC];exact(Lg ok nd v n).filter _,λc mc=>?_,k1⟩,k2⟩
 rw[hC] at mc;obtain⟨m,_,p,hp,e⟩:=gz.mp (kc.mp mc).1;exact⟨p,m,e,(yt ok nd v m).2 p hp⟩
theorem Z9(s0 s1 s2 s3 s4:ao O)(cs:List Sp)(p:Pl)(m:Nat)(hp:.inr p∈cs):Al [s0,s1,s2,s3,s4,some (.Y (.lst (cs.map aX))),some (.Y (cy (at' p (m:Int))))]=some (.nx,[s0,s1,s2,s3,s4,some (.Y (.lst (cs.map aX))),some (.Y (cy (at' p (m:Int))))]):=by
 have e1:=Z8 (at' p (m:Int));have e2:rL (.Y (cy (at' p (m:Int)))) none (some 2)=some (.tup [.Y (.str p.1),.Y (.int p.2)]):=rfl;have e3:cj true [.tup [.Y (.str p.1),.Y (.int p.2)],.Y (.lst (cs.map aX))]=some (.Y (.bl false)):=by
  have:=Rv true (.inr p) cs;rw[iB.mpr hp] at this;exact this
 have e4:dN (.Y (cy (at' p (m:Int)))) (.int 2)=some (.Y (.int (m:Int))):=rfl;have e5:((m:Int)<0)=False:=eq_false (by lia)
 generalize cy (at' p (m:Int))=cd at *;generalize(m:Int)=mi at *;generalize cs.map aX=L at *;unfold Al;simp only[dW,wB,lM,jn,rh,bq,bj,bx,bf,↓ag,bP,br,bG,bC,bF,fq,bT,fm,eM,eR,e1,uq,jQ,iE,dz,cU,bH,zy,zK,zL,zO,↓evMap,e2,e3,cQ,e4,iI,e5,decide_false,bc,ck,eV,dU]
theorem Z_(s0 s1 s2 s3 s4:ao O)(cs:List Sp)(C:List Ct)(hC:∀c,c∈C->∃(p:Pl) (m:Nat),c=at' p (m:Int)/\.inr p∈cs):∃b6,gj (bu 6) Al (C.map cy) [s0,s1,s2,s3,s4,some (.Y (.lst (cs.map aX))),none]=some (.nx,[s0,s1,s2,s3,s4,some (.Y (.lst (cs.map aX))),b6]):=by
 obtain⟨ax,e3,b6,rfl⟩:=BO (g:=bu 6) (f:=Al) cy (λQ0=>∃b6,Q0=[s0,s1,s2,s3,s4,some (.Y (.lst (cs.map aX))),b6]) C [s0,s1,s2,s3,s4,some (.Y (.lst (cs.map aX))),none] ⟨none,rfl⟩ (by
  rintro c mc Q0 ⟨b6,rfl⟩;obtain⟨p,m,e,hp⟩:=hC c mc;rw[e];have hn:bu 6 (cy (at' p (m:Int))) [s0,s1,s2,s3,s4,some (.Y (.lst (cs.map aX))),b6]=some [s0,s1,s2,s3,s4,some (.Y (.lst (cs.map aX))),some (.Y (cy (at' p (m:Int))))]:=rfl;rw[hn,Option.bind_some];exact⟨_,Z9 s0 s1 s2 s3 s4 cs p m hp,_,rfl⟩)
 exact⟨b6,e3⟩
section
variable{h:aA}(ok:hG h){P:List Pl}(nd:P.Nodup)(vq:∀p,p∈P->VP h p){af:Str}{T:Int}{n:Nat}(hT:T=n)(hn:n<=12)(hP:P.length<=20)
include ok nd vq hT hn hP
theorem e8k(ct:N8 h P af n C):EJ [.Y (cq h),.Y (.lst (P.map aN)),.Y (.str af),.Y (.int T),.Y (.lst (C.map cy))]=some (.Y (.bl true),[none,none,none,none,none]):=by
 obtain⟨cs,cc,_,_,_,e1⟩:=Rg h ok;obtain⟨ss,e2⟩:=e8j ok nd vq T C hT hn hP ct.sp;obtain⟨b6,e3⟩:=Z_ (some (.Y (cq h))) (some (.Y (.lst (P.map aN)))) (some (.Y (.str af))) (some (.Y (.int T))) (some (.Y (.lst (C.map cy)))) cs C λc mc=>by
  obtain⟨p,m,e,b,hb,eb,p0,p1⟩:=ct.el c mc;exact⟨p,m,e,cc _ ⟨b,hb,p.2,by rw[eb],p0,p1⟩⟩
 have e4:=Lh (C.map cy);have e5:ox true [.lst (ss.map .Y),.Y .bL]=some (.Y (.bl true)):=rfl;generalize C.map cy=Cd at *;unfold EJ;unfold II;generalize Al=cb at *;simp only[gk,eM,eR,bM,bN,bO,reduceAdd,reduceSub,fZ,fF,fG,fH,dh,eU,cO,gP,bq,bj,bf,↓ag,br,gM,gL,e1,iK,iJ,bT,reduceLT,cD,bQ,bc,dW,lM,jn,bH,bx,bP,bG,bC,bF,e4,jQ,iE,dz,eV,dU,ck,oW,e3,e2,e5,gG,gq,gr,gy,gn]
end
theorem e8l(c:Ct):cH (cy c)=some (sj c):=by simp[cy,sj,cH,lu,oJ,TK.ok]
theorem e8m(ok:hG h)(nd:P.Nodup)(vq:∀p,p∈P->VP h p)(hc:af∈h.aS){T:Int}(hT:T=n)(hn:n<=12)(hP:P.length<=20)(td:Told h P af n W C):
  wg [.Y (cq h),.Y (.lst (P.map aN)),.Y (.str af),.Y (.int T),.Y (.tup [.lst W,.lst (C.map cy)])]=some (.Y (.bl true),[none,none,none,none,none]):=by
 obtain⟨ct,hl⟩:=Qq ok nd vq td;obtain⟨ys,wy,rfl⟩:=Pz ok nd vq td;have e1:=e8b ok hc T n hT hn hP wy;have e2:=e8k ok nd vq hT hn hP ct;have hly:ys.length<=P.length:=Li wy.up λy m=>by
  obtain⟨p,l,_,e2,_⟩:=wy.el y m;exact(e_.mp e2).1
 rw[bK] at hl;have e3:=RB e8l (λ_=>⟨_,rfl⟩) (λ_ _=>FK) ct.nd (by lia) (o:=.Y (.lst (C.map cy))) rfl
 have l1:cC [.Y (.lst (ys.map (gY af)))]=some (.Y (.int (C.length:Nat))):=by rw[B6,bK,hl]
 have l2:cC [.Y (.lst (C.map cy))]=some (.Y (.int (C.length:Nat))):=by rw[B6,bK]
 have f2:=CK [D.lst (ys.map (gY af)),D.lst (C.map cy)];have f3:cC [.Y (.tup [D.lst (ys.map (gY af)),D.lst (C.map cy)])]=some (.Y (.int 2)):=rfl;have f4:=Gh 2 2;rw[oS] at f4;have f5:=KN (C.length:Int) (C.length:Int);rw[oS] at f5;generalize(C.length:Int)=k at *;generalize ys.map (gY af)=W at *;generalize C.map cy=Cd at *;unfold wg JY;simp only[gk,eM,eR,bM,bN,bO,reduceAdd,reduceSub,fF,fG,fH,dh,dW,wB,lM,jn,bH,bq,bj,bx,bf,↓ag,bP,br,bG,bC,bF,f2,jQ,iE,dz,cU,f3,f4,ck,eV,dU,rh,cQ,jK,lA,↓evMap,fq,bT,fm,e1,uq,mJ,e2,Ki,l1,l2,f5,e3,bc,gG,gq,gr,gy,gn]
theorem Yc(h:aA)(ok:hG h):ET [.Y (cq h)]=some (.tup [.Y (.lst (h.aM.map bB)),.Y (.lst (h.aS.map .str))],[none]):=by
 have bl:=ok.bl;obtain⟨ax,⟨a,b,c,d,rfl⟩,e⟩:=zB (g:=fP [(bu 0),(bu 1),(bu 2),(bu 3)]) (ct:=fL) (ce:=ay (bg .tup (aj (aa 0) (aj (aa 1) (aj (aa 2) (aj (ay (gO iX (aj (aa 3) gN))) gN)))))) (λQ0=>∃a b c d,Q0=[a,b,c,d]) bB bB h.aM [none,none,none,none] ⟨_,_,_,_,rfl⟩ (by lia) (by
  rintro b hb Q0 ⟨a1,a2,a3,a4,rfl⟩;refine⟨[some (fS b.name),some (.Y (.int b.long)),some (.Y (.bl b.ring)),some (.Y (.lst (b.outs.map .str)))],?_,_,_,_,_,rfl⟩;unfold bB;simp only[u4,Fw,Fc,gw,bM,bN,bO,reduceAdd,reduceLT,bQ,bc,↓ag,cD,Fb,uy,cO,eQ,bq,bj,bf,bx,bH,br,bG,bC,bF,Ju,jL,yq,reduceLeDiff,eS,dX,h_,fq,bT,fm])
 have d1:O.dl ((h.aM.map bB).map .Y)=h.aM.map bB:=pq _;unfold ET IW;simp only[gk,eM,eR,bM,bN,bO,reduceSub,fF,fG,fH,eV,eQ,bq,cO,oT,wq,bH,bj,bf,↓ag,bP,br,bG,bC,bF,cQ,NK,bT,fZ,ph,e,reduceAdd,qC,o6,pj,bc,jL,d1,Ii,Ju,yq,reduceLeDiff,eS,dX,gG,gq,gr,gy,gn]
def qP(h:aA)(P:List Pl):D:=.tup [cq h,.lst (P.map aN)]
theorem Ah(h:aA)(P:List Pl):cJ 40 (qP h P)=true:=by
 have h1:cJ 39 (cq h)=true:=by
  have e1:(h.aM.map bB).all (cJ 37)=true:=by
   rw[Im,jH];intro b _;exact R8 (XN b) 34
  show((h.aM.map bB).all (cJ 37)&&((h.aS.map D.str).all (cJ 37)&&true))=true;rw[e1,FH 37 h.aS];rfl
 show([cq h,D.lst (P.map aN)].all (cJ 39))=true;rw[t_,t_,Ez,h1];show(true&&((P.map aN).all (cJ 38)&&true))=true;rw[<-Kw,K7 37];rfl
section
variable(h:aA)(P:List Pl)
theorem Tb:(O.tup [.Y (cq h),.Y (.lst (P.map aN))]).d=qP h P:=by simp[O.d,O.dl,qP]
theorem f0f:eX [.Y (qP h P),.tup [.Y (cq h),.Y (.lst (P.map aN))]]=some (.Y (.bl false)):=by
 rw[KO,Tb,bT,aU ⟨Ah h P,Ah h P⟩,BL 40 (Ah h P)];rfl
theorem f0g:oEq [.Y (qP h P),.tup [.Y (cq h),.Y (.lst (P.map aN))]]=some (.Y (.bl true)):=by
 rw[nU,Tb,bT,aU ⟨Ah h P,Ah h P⟩,BL 40 (Ah h P)]
end
def kG(ns:List Int)(F:cA)(h:aA)(P:List Pl)(af:Str)(T:Int)(a7 a8 a9 cx:ao O):Gm:=
 [some (.Y (.eY ns)),some (ba F),some (.Y (cq h)),some (.Y (.lst (P.map aN))),some (fS af),some (.Y (.int T)),some (.Y (qP h P)),a7,a8,a9,cx]
section
variable{h:aA}{P:List Pl}{af:Str}{T:Int}(ns:List Int)(F:cA){W Cd:List D}
theorem MY(e1:wg [.Y (cq h),.Y (.lst (P.map aN)),.Y (.str af),.Y (.int T),.Y (.tup [.lst W,.lst Cd])]=some (.Y (.bl true),[none,none,none,none,none]))(a8 a9 cx:ao O):HP (kG ns F h P af T (some (.tup [.lst (W.map iS),.lst (Cd.map .Y)])) a8 a9 cx)=some (.nx,kG ns F h P af T (some (.tup [.lst (W.map iS),.lst (Cd.map .Y)])) a8 a9 cx):=by
 have e2:=f0f h P;have dw:=Lf W;unfold HP kG;generalize W.map iS=Wo at *;generalize qP h P=hd at *;generalize P.map aN=PL at *;simp only[dW,wB,lM,jn,rh,bq,bj,bx,bf,↓ag,br,bG,bC,j7,i6,bF,fq,bT,h_,jL,dw,r9,fm,eM,eR,e1,uq,jQ,iE,dz,cU,bH,eQ,bM,bN,bO,reduceAdd,reduceLeDiff,eS,dX,bc,e2,ck,eV,bP,dU]
theorem MT(a8 a9 cx:ao O):HL (kG ns F h P af T (some (.tup [.lst (W.map iS),.lst (Cd.map .Y)])) a8 a9 cx)=some (.nx,kG ns F h P af T (some (.tup [.lst (W.map iS),.lst (Cd.map .Y)])) (some (.Y (.int (W.length:Nat)))) a9 cx):=by
 have el:((W.map iS).length:Int)=(W.length:Int):=by rw[bK]
 generalize W.map iS=Wo at *;generalize(W.length:Int)=n at *;unfold HL kG;simp only[eU,Zb,bx,bf,el,↓ag,bM,bN,bO,reduceAdd,reduceLT,cD,bQ,bc]
theorem MU(hw:∀d,d∈W->vy (iS d)=true)(a8 a9 cx:ao O):HM (kG ns F h P af T (some (.tup [.lst (W.map iS),.lst (Cd.map .Y)])) a8 a9 cx)=some (.nx,kG ns F h P af T (some (.tup [.lst ((W.map iS).map mN),.lst (Cd.map .Y)])) a8 none cx):=by
 have el:(W.map iS).all vy=true:=by
  rw[Im,jH];exact hw
 generalize W.map iS=Wo at *;unfold HM kG;simp only[Zc,bx,bf,el,bM,bN,bO,reduceAdd,reduceLT,cD,bQ,bc]
theorem MV(X:List O)(a8 a9 cx:ao O):MR (kG ns F h P af T (some (.tup [.lst X,.lst (Cd.map .Y)])) a8 a9 cx)=some (.nx,kG ns F h P af T (some (.tup [.lst [],.lst (Cd.map .Y)])) a8 a9 cx):=rfl
theorem MW(hl:Cd.length<1000)(a8 a9 cx:ao O):∃o,HN (kG ns F h P af T (some (.tup [.lst [],.lst (Cd.map .Y)])) a8 a9 cx)=some (.nx,kG ns F h P af T (some o) a8 a9 cx):=by
 have e:lh (λc=>lD c [.Y (.tup [.str "q",.int 0,.int 0])]) (.tup [.lst [],.lst (Cd.map .Y)]) [1]=some (.tup [.lst [],.lst (Cd.map .Y++[.Y (.tup [.str "q",.int 0,.int 0])])],.Y .bL):=by
  show((lD (.lst (Cd.map .Y)) [_]).bind λz=>some (O.tup [.lst [],z.1],z.2))=_
  rw[SX,aU (by rw[bK];lia)]
  rfl
 refine⟨.tup [.lst [],.lst (Cd.map .Y++[.Y (.tup [.str "q",.int 0,.int 0])])],?_⟩;generalize O.tup [.lst [],.lst (Cd.map .Y)]=o at *;generalize O.tup [.lst [],.lst (Cd.map .Y++[.Y (.tup [.str "q",.int 0,.int 0])])]=o' at *;unfold HN kG;simp only[jJ,Ze,bx,bf,cD,bQ,bq,cO,eQ,bP,↓ag,br,bM,bN,bO,reduceAdd,reduceLeDiff,eS,dX,bc,h_,fq,bT,fm,e]
theorem M0(e1:wg [.Y (cq h),.Y (.lst (P.map aN)),.Y (.str af),.Y (.int T),.Y (.tup [.lst W,.lst Cd])]=some (.Y (.bl true),[none,none,none,none,none]))(a7 a9:ao O):HQ (kG ns F h P af T a7 (some (.Y (.int (W.length:Nat)))) a9 (some (.Y (.tup [.lst W,.lst Cd]))))=some (.rt (.Y (.bl true)),kG ns F h P af T a7 (some (.Y (.int (W.length:Nat)))) a9 (some (.Y (.tup [.lst W,.lst Cd])))):=by
 have e2:=f0g h P;have el:=B6 W;have f5:=KN (W.length:Int) (W.length:Int);rw[oS] at f5;generalize(W.length:Int)=n at *;unfold HQ kG;generalize qP h P=hd at *;generalize P.map aN=PL at *;simp only[eV,Ki,cU,rh,bq,bj,bx,bf,↓ag,br,bG,bC,bF,fq,bT,fm,eM,eR,e1,uq,bH,bP,cQ,jK,lA,↓evMap,el,f5,eQ,bM,bN,bO,reduceAdd,reduceLeDiff,eS,dX,bc,e2]
theorem Ul:dN (.Y (qP h P)) (.int 0)=some (.Y (cq h)):=rfl
theorem Um:dN (.Y (qP h P)) (.int 1)=some (.Y (.lst (P.map aN))):=rfl
theorem M3(e6:xO [.Y (cq h),.Y (.lst (P.map aN)),.Y (.str af),.Y (.int T)]=some (.tup [.lst (W.map iS),.lst (Cd.map .Y)],[none,none,none,none]))
  (e1:wg [.Y (cq h),.Y (.lst (P.map aN)),.Y (.str af),.Y (.int T),.Y (.tup [.lst W,.lst Cd])]=some (.Y (.bl true),[none,none,none,none,none])) (hw:∀d,d∈W->vy (iS d)=true) (hl:Cd.length<1000) :
  ∃a7 a8 a9 cx,Dv (kG ns F h P af T (some (.tup [.lst (W.map iS),.lst (Cd.map .Y)])) none none none)=some (.rt (.Y (.bl true)),kG ns F h P af T a7 a8 a9 cx):=by
 have s1:=MY ns F e1 none none none;have s2:=MT (h:=h) (P:=P) (af:=af) (T:=T) ns F (W:=W) (Cd:=Cd) none none none;have s3:=MU (h:=h) (P:=P) (af:=af) (T:=T) ns F (W:=W) (Cd:=Cd) hw (some (.Y (.int (W.length:Nat)))) none none;have s4:=MV (h:=h) (P:=P) (af:=af) (T:=T) ns F (Cd:=Cd) ((W.map iS).map mN) (some (.Y (.int (W.length:Nat)))) none none;obtain⟨o,s5⟩:=MW (h:=h) (P:=P) (af:=af) (T:=T) ns F (Cd:=Cd) hl (some (.Y (.int (W.length:Nat)))) none none;have s6:=M0 ns F e1 (some o) none;refine⟨some o,some (.Y (.int (W.length:Nat))),none,some (.Y (.tup [.lst W,.lst Cd])),?_⟩;have i0:=Ul (h:=h) (P:=P);have i1:=Um (h:=h) (P:=P);have dw:=Lf W;unfold kG at *;generalize((W.length:Nat):Int)=wl at *;generalize qP h P=hd at *;generalize P.map aN=PL at *;generalize W.map iS=Wo at *;unfold Dv;generalize HP=l1 at *;generalize HL=l2 at *;generalize HM=l3 at *;generalize MR=l4 at *;generalize HN=l5 at *;generalize HQ=l6 at *;simp only[dh,s1,↓ag,s2,s3,s4,s5,eU,cO,gP,bq,bH,bj,bx,bf,bP,br,bG,bC,bF,cQ,i0,i1,gM,gL,e6,iK,iJ,h_,fq,jL,dw,r9,fm,bM,bN,bO,reduceAdd,reduceLT,cD,bQ,bc,s6]
theorem MX(ok:hG h)(e6:xO [.Y (cq h),.Y (.lst (P.map aN)),.Y (.str af),.Y (.int T)]=some (.tup [.lst (W.map iS),.lst (Cd.map .Y)],[none,none,none,none]))
  (s1:Dv (kG ns F h P af T (some (.tup [.lst (W.map iS),.lst (Cd.map .Y)])) none none none)=some (.rt (.Y (.bl true)),kG ns F h P af T a7 a8 a9 cx)) :
  MS [some (.Y (.eY ns)),some (ba F),some (.Y (cq h)),some (.Y (.lst (P.map aN))),some (fS af),some (.Y (.int T)),none,none,none,none,none]=some (.rt (.Y (.bl true)),kG ns F h P af T a7 a8 a9 cx):=by
 have f1:=e7v (P.map aN);have Ln:O.dl ((P.map aN).map .Y)=P.map aN:=pq _;have ec:=Yc h ok;have eh:D.tup [.lst (h.aM.map bB),.lst (h.aS.map .str)]=cq h:=rfl;have eH:D.tup [cq h,.lst (P.map aN)]=qP h P:=rfl;have i0:=Ul (h:=h) (P:=P);have i1:=Um (h:=h) (P:=P);unfold kG at *;generalize qP h P=Az at *;generalize P.map aN=PL at *;generalize cq h=hD at *;generalize W.map iS=Wo at *;unfold MS;generalize Dv=l1 at *;simp only[dh,eU,cO,eQ,bq,gP,bj,bx,bf,↓ag,br,gM,gL,ec,iK,iJ,h_,fq,bT,fm,eh,bH,bG,bC,bF,f1,jL,Ln,bM,bN,bO,reduceAdd,reduceLeDiff,eS,dX,bc,eH,reduceLT,cD,bQ,bP,cQ,i0,i1,e6,s1]
end
theorem MZ{l1:GS}{F0 F1 F2 F3 F4:cA}{PL:List D}{ol cv tv:Int}{r:ao (Fl×Gm)}(e1:zC [.Y (.eY ns)]=some (ba F0,[none]))(e2:zv [ba F0]=some (.tup [.lst (h.aM.map fB),.Y (.lst (h.aS.map .str))],[some (ba F1)]))
  (hd:D.tup [.lst (O.dl (h.aM.map fB)),.lst (h.aS.map .str)]=cq h) (e3:zt [ba F1,.Y (cq h),.Y (.int 8)]=some (.lst (PL.map .Y),[some (ba F2),none,none])) (el:cC [.Y (.lst (h.aS.map .str))]=some (.Y (.int ol))) (e4:lB [ba F2,.Y (.int ol)]=some (.Y (.int cv),[some (ba F3),none]))
  (ex:dN (.Y (.lst (h.aS.map .str))) (.int cv)=some (.Y (.str af))) (e5:lB [ba F3,.Y (.int 13)]=some (.Y (.int tv),[some (ba F4),none]))
  (s2:l1 (some (.Y (.eY ns))::some (ba F4)::some (.Y (cq h))::some (.Y (.lst PL))::some (fS af)::some (.Y (.int tv))::[none,none,none,none,none])=r) :
  aT (av 1 (aK zC (aj (aa 0) gN)))
 (aT (av 2 (ay (aK zv (aj (aa 1) gN)))) (aT (av 3 (ay (aK zt (aj (aa 1) (aj (aa 2) (aj (gC (.int 8)) gN)))))) (aT (av 4 (gB bt (gB bt (aa 2) (gC (.int 1))) (aK lB (aj (aa 1) (aj (gO cC (aj (gB bt (aa 2) (gC (.int 1))) gN)) gN))))) (aT (av 5 (ay (aK lB (aj (aa 1) (aj (gC (.int 13)) gN))))) l1)))) (some (.Y (.eY ns))::none::none::none::none::none::[none,none,none,none,none])=r:=by
 have Ln:O.dl (PL.map .Y)=PL:=pq _;simp only[dh,eU,gP,bq,bj,bf,↓ag,br,gM,gL,e1,iK,iJ,bM,bN,bO,reduceAdd,reduceLT,cD,bQ,bc,cO,bx,kr,e2,lF,h_,fq,jL,bT,fm,hd,bP,e3,Ln,bH,bG,bC,bF,cQ,Ii,el,e4,ex,e5,s2]
theorem Δ{ml:GS}{a0 a1 a3 a5 a6:ao O}(s2:ml [some (.Y (.eY ns)),none,none,none,none,none,none,none,none,none,none]=some (.rt (.Y (.bl true)),[a0,a1,a2,a3,a4,a5,a6,a7,a8,a9,cx])):runM 11 [false] ml [.Y (.eY ns)]=some (.Y (.bl true),[none]):=by
 simp only[gk,eM,eR,bM,bN,bO,reduceSub,fZ,fF,fG,fH,s2,↓ag,gG,reduceAdd,gq,gr,gy,gn,bc]
theorem f0h(ns:List Int)(hn:ns.length<=63):∃fin,Lz [.Y (.eY ns)]=some (.Y (.bl true),fin):=by
 have e1:=e6n ns hn;have g0:cF (sA ns):=⟨Bb 0,hn⟩;obtain⟨F1,h,g1,ok,e2⟩:=Zo (sA ns) g0;have hd:D.tup [.lst (O.dl (h.aM.map fB)),.lst (h.aS.map .str)]=cq h:=by rw[e9j];rfl
 obtain⟨F2,pl,g2,vp,lp,np,e3⟩:=X9 ok F1 g1;obtain⟨P,rfl,nd,v⟩:=Px vp np;rw[bK] at lp;unfold vM at e3;rw[Kw] at e3;have ct:=ok.ct;have hm:(0:Int)<(h.aS.length:Int):=by lia
 have e4:=xd g2 (m:=(h.aS.length:Int)) hm (by lia)
 have d0:=uh F2 hm;have d1:=ui F2 hm;obtain⟨af,mc,ea⟩:=Sr D.str h.aS (aW F2 (h.aS.length:Int)) d0 d1;have el:cC [.Y (.lst (h.aS.map .str))]=some (.Y (.int (h.aS.length:Nat))):=by rw[B6,bK]
 have ex:dN (.Y (.lst (h.aS.map .str))) (.int (aW F2 (h.aS.length:Int)))=some (.Y (.str af)):=by
  show(dq (h.aS.map .str) _).map O.Y=_;rw[ea];rfl
 have g3:=g2.draw (h.aS.length:Int);generalize aQ F2 (h.aS.length:Int)=F3 at *;have e5:=xd g3 (m:=13) (by decide) (by decide)
 have t0:=uh F3 (m:=13) (by decide)
 have t1:=ui F3 (m:=13) (by decide)
 have g4:=g3.draw 13;generalize aQ F3 13=F4 at *;generalize aW F3 13=tv at *;generalize(h.aS.length:Int)=ol at *;generalize aW F2 ol=cv at *;obtain⟨W,C,td,e6⟩:=WI ok nd v af tv tv.toNat (by lia) (by lia) (by lia)
 have tl:=e8m ok nd v mc (T:=tv) (n:=tv.toNat) (by lia) (by lia) (by lia) td
 obtain⟨cs,hl⟩:=Qq ok nd v td;have hw:∀d,d∈W->vy (iS d)=true:=by
  obtain⟨_,_,_,_,_,_,_,_,_,_,pr,_⟩:=td.ex;intro d md;obtain⟨x,_,w,_,rfl⟩:=J7 pr d md;rfl
 have hC:C.length<1000:=by
  obtain⟨ys,wy,rfl⟩:=Pz ok nd v td;have:=Li wy.up (N:=P.length) λy m=>by
   obtain⟨p,l,_,e2,_⟩:=wy.el y m;exact(e_.mp e2).1
  rw[bK] at hl;lia
 obtain⟨a7,a8,a9,cx,s1⟩:=M3 ns F4 (W:=W) (Cd:=C.map cy) e6 tl hw (by rw[bK];exact hC)
 refine⟨[none],?_⟩;unfold Lz;unfold Ly;exact Δ (MZ e1 e2 hd e3 el e4 ex e5 (MX ns F4 ok e6 s1))
def tV(K:FG):L2.Sp:=λvs H Q _=>∃(a:ak) (ns:List Int),vs=[.ref a]/\dO K H a (ns.map V.int)/\ns.length<=63/\∀H',Q (.bl true) H'
theorem e8n{P:fO}{w:eK}{K:FG}{base:cS}{t:Iy}(T:Txt K mg t):bR P w K mg base eZ 7 t.CT t.CO ["_law_script"] (tV K):=by
 have z0:=@e6l P w _ _ base _ T;have z2:=@Wq P w _ _ base _ T;have z3:=@Zg P w _ _ base _ T;have z4:=@Vk P w _ _ base _ T;have z8:=@Zi P w _ _ base _ T;have z12:=@XF P w _ _ base _ T;have z13:=@Wr P w _ _ base _ T;have Iw:=@Ws P w _ _ base _ T;have z15:=@Wt P w _ _ base _ T;have Uq:=@Vl P w _ _ base _ T;have Ur:=@Vm P w _ _ base _ T;have z20:=@U1 P w _ _ base _ T;have Us:=@Vo P w _ _ base _ T;have z23:=@UL P w _ _ base _ T;have z1:=@Zj P w _ _ base _ T z3 z2;have z5:=@XG P w _ _ base _ T z4;have z11:=@U2 P w _ _ base _ T z12;have z16:=@Wu P w _ _ base _ T Iw;have z22:=@Wv P w _ _ base _ T Ur;have z24:=@Ww P w _ _ base _ T Ur;have z25:=@U3 P w _ _ base _ T Uq Iw;have Ut:=@UT P w _ _ base _ T Us;have z6:=@XI P w _ _ base _ T z5;have z17:=@Vp P w _ _ base _ T Iw z15 z16;have z26:=@UE P w _ _ base _ T z22 Ut z23 Us;have z28:=@UH P w _ _ base _ T Uq Ut z24;have z10:=@U4 P w _ _ base _ T z8 z0 z6;have z29:=@Wz P w _ _ base _ T z28 z26;have z9:=@Vq P w _ _ base _ T z8 z0 z10;have z7:=@Vr P w _ _ base _ T z1 z11 z8 z9;exact YO (e6m T z20 Iw z13 z17 z25 z29 z7) f0h
theorem yz(g:∀a0,X [a0])(us:List aq)(h:us.length=1):X us:=by
 obtain _|⟨a0,us⟩:=us
 .cases h
 obtain _|⟨z,us⟩:=us
 .exact g a0
 .simp at h
theorem uG(g:∀a0 a1,X [a0,a1])(us:List aq)(h:us.length=2):X us:=by
 obtain _|⟨a0,us⟩:=us
 .cases h
 obtain _|⟨a1,us⟩:=us
 .cases h
 obtain _|⟨z,us⟩:=us
 .exact g a0 a1
 .simp at h
theorem G5(g:∀a0 a1 a2,X [a0,a1,a2])(us:List aq)(h:us.length=3):X us:=by
 obtain _|⟨a0,us⟩:=us
 .cases h
 obtain _|⟨a1,us⟩:=us
 .cases h
 obtain _|⟨a2,us⟩:=us
 .cases h
 obtain _|⟨z,us⟩:=us
 .exact g a0 a1 a2
 .simp at h
theorem G6(g:∀a0 a1 a2 a3,X [a0,a1,a2,a3])(us:List aq)(h:us.length=4):X us:=by
 obtain _|⟨a0,us⟩:=us
 .cases h
 obtain _|⟨a1,us⟩:=us
 .cases h
 obtain _|⟨a2,us⟩:=us
 .cases h
 obtain _|⟨a3,us⟩:=us
 .cases h
 obtain _|⟨z,us⟩:=us
 .exact g a0 a1 a2 a3
 .simp at h
theorem CP(g:∀a0 a1 a2 a3 a4,X [a0,a1,a2,a3,a4])(us:List aq)(h:us.length=5):X us:=by
 obtain _|⟨a0,us⟩:=us
 .cases h
 obtain _|⟨a1,us⟩:=us
 .cases h
 obtain _|⟨a2,us⟩:=us
 .cases h
 obtain _|⟨a3,us⟩:=us
 .cases h
 obtain _|⟨a4,us⟩:=us
 .cases h
 obtain _|⟨z,us⟩:=us
 .exact g a0 a1 a2 a3 a4
 .simp at h
theorem NB(g:∀a0 a1 a2 a3 a4 a5,X [a0,a1,a2,a3,a4,a5])(us:List aq)(h:us.length=6):X us:=by
 obtain _|⟨a0,us⟩:=us
 .cases h
 obtain _|⟨a1,us⟩:=us
 .cases h
 obtain _|⟨a2,us⟩:=us
 .cases h
 obtain _|⟨a3,us⟩:=us
 .cases h
 obtain _|⟨a4,us⟩:=us
 .cases h
 obtain _|⟨a5,us⟩:=us
 .cases h
 obtain _|⟨z,us⟩:=us
 .exact g a0 a1 a2 a3 a4 a5
 .simp at h
open PyProof.Rows
def vQ:List Stmt:=[1,2,3,4,6,8,9,11,12,13,14,15,16,17,18,20,21,22,23,24,25,26,27,28,29,30,31,32,33,34,35,36,37].map top
noncomputable def dl:List (Str×Nat):=[("lay",0),("fill",1),("search",2),("push",3),("belt_of",4),("steps",5),("moves",6),("in_time",9),("into",10),("lay_net",11),("lay_spot",12),("followed",13),("taken",14),("_law_feed",15),("_law_draw",16),("_law_name",17),("_law_outs",18),("_law_house",19),("_law_cells",20),("_law_steps",21),("_law_copied",22),("_law_whole",23),("_law_goes",24),("_law_together",25),("_law_sets",26),("_law_places",27),("_law_ways_right",28),("_law_is_spot",29),("_law_cut_right",30),("_law_told",31),("law",32)]
noncomputable def bl:List Str:=["len","isinstance","int","bool","str","list","tuple","range","any","all","enumerate","set"]
theorem e8p{l:PySem.W.OpenLaw}{w:eK}{q:fO}{L:List Str}{me:ExcName->ao aq}{mb:Str->ao aq}{h:cS}{fa:ak}(T:Top q L me mg mb h)(hfa:mg "law"=some (.ref fa))(hq:q.main.body=vQ)(hD:yv vQ dl=true)(hB:yu q L bl=true)(nh:valOf q "START"=some (.str "the start"))(uc:valOf q "END"=some (.str "the end")):
  ∃fd:lY,(∀(s:az) (v:aq),BindsTo s fd ⟨[v],[]⟩ [("_law_script",v)])/\∀base:cS,bR l.prog w (snap h) mg base eZ 7 fa fd ["_law_script"] (tV (snap h)):=by
 obtain⟨f0,d0,m0,F0⟩:=jb (st:=Lu) T hq hD 0 rfl rfl;obtain⟨f1,d1,m1,F1⟩:=jb (st:=K0) T hq hD 1 rfl rfl;obtain⟨f2,d2,m2,F2⟩:=jb (st:=JL) T hq hD 2 rfl rfl;obtain⟨f3,d3,m3,F3⟩:=jb (st:=K1) T hq hD 3 rfl rfl;obtain⟨f4,d4,m4,F4⟩:=jb (st:=Jg) T hq hD 4 rfl rfl;obtain⟨f5,d5,m5,F5⟩:=jb (st:=FD) T hq hD 5 rfl rfl;obtain⟨f6,d6,m6,F6⟩:=jb (st:=Kl) T hq hD 6 rfl rfl;obtain⟨f7,d7,m7,F7⟩:=jb (st:=E1) T hq hD 7 rfl rfl;obtain⟨f8,d8,m8,F8⟩:=jb (st:=K2) T hq hD 8 rfl rfl;obtain⟨f9,d9,m9,F9⟩:=jb (st:=Jh) T hq hD 9 rfl rfl;obtain⟨G8,CH,m10,Be⟩:=jb (st:=ER) T hq hD 10 rfl rfl;obtain⟨G9,CJ,m11,Bf⟩:=jb (st:=IU) T hq hD 11 rfl rfl;obtain⟨G_,Gx,m12,Bg⟩:=jb (st:=FE) T hq hD 12 rfl rfl;obtain⟨G',Gy,m13,Bi⟩:=jb (st:=JM) T hq hD 13 rfl rfl;obtain⟨Ha,Gz,m14,lZ⟩:=jb (st:=JN) T hq hD 14 rfl rfl;obtain⟨Hb,GB,m15,Bj⟩:=jb (st:=JO) T hq hD 15 rfl rfl;obtain⟨Hc,GC,m16,Bk⟩:=jb (st:=Fd) T hq hD 16 rfl rfl;obtain⟨He,GD,m17,Bl⟩:=jb (st:=E2) T hq hD 17 rfl rfl;obtain⟨Hf,GF,m18,zl⟩:=jb (st:=E3) T hq hD 18 rfl rfl;obtain⟨Hg,GH,m19,zm⟩:=jb (st:=E4) T hq hD 19 rfl rfl;obtain⟨Hh,GI,m20,Bm⟩:=jb (st:=ES) T hq hD 20 rfl rfl;obtain⟨Hi,GJ,m21,zo⟩:=jb (st:=Ji) T hq hD 21 rfl rfl;obtain⟨Hj,GK,m22,Bn⟩:=jb (st:=JP) T hq hD 22 rfl rfl;obtain⟨Hk,GL,m23,Bo⟩:=jb (st:=IJ) T hq hD 23 rfl rfl;obtain⟨Hl,GN,m24,Bp⟩:=jb (st:=Fe) T hq hD 24 rfl rfl;obtain⟨Hm,GP,m25,Bq⟩:=jb (st:=IV) T hq hD 25 rfl rfl;obtain⟨Ho,GQ,m26,Br⟩:=jb (st:=EG) T hq hD 26 rfl rfl;obtain⟨Hq,GR,m27,zp⟩:=jb (st:=EM) T hq hD 27 rfl rfl;obtain⟨Hs,GU,m28,Bs⟩:=jb (st:=IH) T hq hD 28 rfl rfl;obtain⟨Ht,GV,m29,zq⟩:=jb (st:=JQ) T hq hD 29 rfl rfl;obtain⟨CT,CO,TV,Bu⟩:=jb (st:=Lv) T hq hD 30 rfl rfl;have T:Txt (snap h) mg ⟨f0,f1,f2,f3,f4,f5,f6,f7,f8,f9,G8,G9,G_,G',Ha,Hb,Hc,He,Hf,Hg,Hh,Hi,Hj,Hk,Hl,Hm,Ho,Hq,Hs,Ht,CT,d0,d1,d2,d3,d4,d5,d6,d7,d8,d9,CH,CJ,Gx,Gy,Gz,GB,GC,GD,GF,GH,GI,GJ,GK,GL,GN,GP,GQ,GR,GU,GV,CO⟩:=⟨⟨F0,m0,F0.binds λ_ _ _ _ _ _=>G6 λ_ _ _ _=>rfl⟩,⟨F1,m1,F1.binds λ_ _ _ _ _ _=>G5 λ_ _ _=>rfl⟩,⟨F2,m2,F2.binds λ_ _ _ _ _ _=>uG λ_ _=>rfl⟩,⟨F3,m3,F3.binds λ_ _ _ _ _ _=>G5 λ_ _ _=>rfl⟩,⟨F4,m4,F4.binds λ_ _ _ _ _ _=>uG λ_ _=>rfl⟩,⟨F5,m5,F5.binds λ_ _ _ _ _ _=>uG λ_ _=>rfl⟩,⟨F6,m6,F6.binds λ_ _ _ _ _ _=>uG λ_ _=>rfl⟩,⟨F7,m7,F7.binds λ_ _ _ _ _ _=>G6 λ_ _ _ _=>rfl⟩,⟨F8,m8,F8.binds λ_ _ _ _ _ _=>uG λ_ _=>rfl⟩,⟨F9,m9,F9.binds λ_ _ _ _ _ _=>CP λ_ _ _ _ _=>rfl⟩,⟨Be,m10,Be.binds λ_ _ _ _ _ _=>NB λ_ _ _ _ _ _=>rfl⟩,⟨Bf,m11,Bf.binds λ_ _ _ _ _ _=>G5 λ_ _ _=>rfl⟩,⟨Bg,m12,Bg.binds λ_ _ _ _ _ _=>uG λ_ _=>rfl⟩,⟨Bi,m13,Bi.binds λ_ _ _ _ _ _=>yz λ_=>rfl⟩,⟨lZ,m14,lZ.binds λ_ _ _ _ _ _=>uG λ_ _=>rfl⟩,⟨Bj,m15,Bj.binds λ_ _ _ _ _ _=>uG λ_ _=>rfl⟩,⟨Bk,m16,Bk.binds λ_ _ _ _ _ _=>G6 λ_ _ _ _=>rfl⟩,⟨Bl,m17,Bl.binds λ_ _ _ _ _ _=>yz λ_=>rfl⟩,⟨zl,m18,zl.binds λ_ _ _ _ _ _=>yz λ_=>rfl⟩,⟨zm,m19,zm.binds λ_ _ _ _ _ _=>uG λ_ _=>rfl⟩,⟨Bm,m20,Bm.binds λ_ _ _ _ _ _=>yz λ_=>rfl⟩,⟨zo,m21,zo.binds λ_ _ _ _ _ _=>yz λ_=>rfl⟩,⟨Bn,m22,Bn.binds λ_ _ _ _ _ _=>G6 λ_ _ _ _=>rfl⟩,⟨Bo,m23,Bo.binds λ_ _ _ _ _ _=>yz λ_=>rfl⟩,⟨Bp,m24,Bp.binds λ_ _ _ _ _ _=>CP λ_ _ _ _ _=>rfl⟩,⟨Bq,m25,Bq.binds λ_ _ _ _ _ _=>G5 λ_ _ _=>rfl⟩,⟨Br,m26,Br.binds λ_ _ _ _ _ _=>CP λ_ _ _ _ _=>rfl⟩,⟨zp,m27,zp.binds λ_ _ _ _ _ _=>uG λ_ _=>rfl⟩,⟨Bs,m28,Bs.binds λ_ _ _ _ _ _=>CP λ_ _ _ _ _=>rfl⟩,⟨zq,m29,zq.binds λ_ _ _ _ _ _=>CP λ_ _ _ _ _=>rfl⟩,⟨Bu,TV,Bu.binds λ_ _ _ _ _ _=>yz λ_=>rfl⟩,rn T hB 0 rfl,rn T hB 1 rfl,rn T hB 2 rfl,rn T hB 3 rfl,rn T hB 4 rfl,rn T hB 5 rfl,rn T hB 6 rfl,rn T hB 7 rfl,rn T hB 8 rfl,rn T hB 9 rfl,rn T hB 10 rfl,rn T hB 11 rfl,O0 T nh,O0 T uc⟩
 have e:=hfa.symm.trans TV;cases e;obtain⟨oc,od,kV,doc,pm,an,gp,ct,osl,rfl,_,_⟩:=Bu.ex;exact⟨_,λs v=>.of_eq rfl,λbase=>e8n T⟩
theorem walk{l:PySem.W.OpenLaw}{q:fO}{loose:List Str}{XP:(Str->ao aq)->cS->Prop}{YP:eK->cS->Prop}{d:DefRec}(hn:l.most=some 63)(Df:d.params.defaults=[])(Mi:d.name="law")
  (hq:q.main.body=vQ) (hD:yv vQ dl=true) (hB:yu q (PySem.W.looseW q loose) bl=true) (nh:valOf q "START"=some (.str "the start")) (uc:valOf q "END"=some (.str "the end")) :
  PySem.W.WalkO q loose XP YP l.row.toRowW d [] (λf vs=>PySem.call f vs):=
 L2.t7 (n:=63) (k:=7) (x:="_law_script") (CX:=eZ) (sp:=tV) hn (by decide) Df ⟨rfl,by decide,by decide⟩ (λ_ _ _ _ _ _ T hm=>e8p T (Mi ▸ hm) hq hD hB nh uc) (λ_ _ a ns hl _ hS=>⟨a,ns,rfl,hS,hl,λ_=>rfl⟩) λ_ _ _ _ z=>z
end Carry
end
open PySem PySem.W PyProof.Rows
set_option maxRecDepth 100000 in
set_option maxHeartbeats 0 in
theorem PySem.Challenge.cw_carry_k33_in_time_walked_holds : PySem.Challenge.rw_carry_k33_in_time_walked.Holds := by
 simp -failIfUnchanged only[Carry.Hd.hd0];w_on;o_law;(try simp only[Carry.Hd.hd]);o_head Hook.none;(case hw=>w_witness2)
 exact Carry.walk (l:=PySem.Challenge.rw_carry_k33_in_time_walked) rfl rfl rfl (by kernel_rfl) (by k_qdec) (by k_qdec) (by kernel_rfl) (by kernel_rfl)