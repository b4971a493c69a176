import PyProof.Rows.All
import Wide.All
import OpenK.AllK
import PySem.Challenge.RW_carry_k66_a_turn
set_option linter.all false
set_option bootstrap.genMatcherCode false
set_option compiler.extract_closed false
set_option compiler.reuse false
set_option genSizeOf false
set_option genSizeOfSpec false
def ba:=@List.length_map.{0,0}
def bU:=@Nat.le_refl
def cF:=@Option.bind_eq_some_iff.{0,0}
def cS:=@List.map_cons.{0,0}
def cV:=@PySem.Heap.lt_size
def cZ:=@List.length_append.{0}
def c8:=@PySem.Heap.get?_push_of_some
def c_:=@Option.map_eq_some_iff.{0,0}
def dy:=@List.map_map.{0,0,0}
def dX:=@List.getElem?_eq_some_iff.{0}
def eC:=@List.map_append.{0,0}
def eD:=@Nat.max_self
def y0c:=@List.mem_cons.{0}
def fB:=@List.getElem?_map.{0,0}
def fO:=@List.size_toArray.{0}
def fU:=@List.mem_map.{0,0}
def gq:=@Nat.lt_of_lt_of_le
def gu:=@List.getElem?_eq_getElem.{0}
def g_:=@Nat.ne_of_lt
def iC:=@List.mem_append.{0}
def jb:=@PySem.Heap.get?_push_size
def jx:=@Bool.and_eq_true
def jy:=@Nat.le_trans
def jz:=@List.append_assoc.{0}
def jI:=@List.append_nil.{0}
def jQ:=@Nat.lt_irrefl
theorem jR:type_of% @List.length_cons.{0}:=rfl
def jS:=@List.all_eq_true.{0}
def jT:=@List.mem_singleton.{0}
def kE:=@List.contains_iff_mem.{0}
def kQ:=@List.prefix_refl.{0}
def lq:=@Nat.zero_le
def lY:=@List.map_congr_left.{0,0}
def l6:=@List.nodup_append.{0}
def l7:=@List.mem_map_of_mem.{0,0}
def ng:=@List.mem_append_right.{0}
theorem nV:type_of% @List.filterMap_cons.{0,0}:=rfl
def nW:=@List.nodup_cons.{0}
def nX:=@List.getElem?_append_left.{0}
def nY:=@PySem.Heap.get?_update_other
def oV:=@List.getElem?_set_self.{0}
def oW:=@List.getElem?_append_right.{0}
def oX:=@List.length_replicate.{0}
def pI:=@List.mem_range
def pJ:=@List.mem_cons_of_mem.{0}
def pQ:=@Bool.false_ne_true
def pR:=@PySem.Heap.get?_update_self
def rb:=@List.mem_filter.{0}
def rh:=@List.mem_of_getElem?.{0}
def rj:=@List.length_set.{0}
def rm:=@Bool.false_eq_true
def rn:=@List.all_cons.{0}
def sj:=@List.length_singleton.{0}
def sk:=@Array.getElem?_eq_getElem.{0}
theorem sr:type_of% @Option.isSome_some.{0}:=rfl
def ud:=@List.getElem?_set_ne.{0}
def ue:=@List.mem_filterMap.{0,0}
def uf:=@Nat.lt_succ_self
def ug:=@Nat.le_succ
def uh:=@List.length_filter_le.{0}
def vB:=@Nat.ne_of_gt
def vC:=@List.length_take.{0}
def vD:=@Bool.and_eq_true_iff
def vE:=@Option.bind_some.{0,0}
def vF:=@Array.getElem?_toList.{0}
def vG:=@List.length_range
theorem vH:type_of% @Option.isSome_none.{0}:=rfl
def vI:=@List.getElem?_eq_none.{0}
theorem vJ:type_of% @List.filterMap_nil.{0,0}:=rfl
def yx:=@List.filter_cons.{0}
def yy:=@Nat.lt_succ_of_lt
def yz:=@List.mem_iff_getElem?.{0}
def yA:=@List.getElem?_range
def yB:=@Nat.le_of_ble_eq_true
def yC:=@List.filter_sublist.{0}
def yD:=@List.getD_eq_getElem?_getD.{0}
theorem yE:type_of% @List.foldl_cons.{0,0}:=rfl
def Af:=@List.mem_cons_self.{0}
def Ag:=@List.mem_append_left.{0}
def Ah:=@List.length_drop.{0}
def Ai:=@Bool.eq_iff_iff
def Aj:=@List.getElem_mem.{0}
theorem Ak:type_of% @List.length_nil.{0}:=rfl
def Al:=@Array.getElem?_eq_some_iff.{0}
def y1m:=@List.not_mem_nil.{0}
theorem Am:type_of% @Option.map_some.{0,0}:=λ_ _=>rfl
def An:=@List.find?_eq_none.{0}
def Ao:=@List.find?_cons.{0}
def Ap:=@List.nil_append.{0}
def Aq:=@Int.eq_ofNat_of_zero_le
def Ar:=@List.mem_of_find?_eq_some.{0}
def As:=@List.length_filterMap_le.{0,0}
def DC:=@List.getElem_inj.{0}
def DD:=@Nat.le_of_eq
def DE:=@List.map_nil.{0,0}
def DF:=@List.take_of_length_le.{0}
theorem DG:type_of% @Int.toNat_natCast:=λ_=>rfl
def DH:=@List.all_map.{0,0}
def Dy:=@PySem.Heap.get?_push_ne
def Dz:=@List.pairwise_map.{0,0}
def DA:=@List.set_set.{0}
def DB:=@List.filterMap_append.{0,0}
theorem Gj:type_of% @Array.length_toList.{0}:=rfl
def Gk:=@List.drop_of_length_le.{0}
def Gn:=@Nat.sub_self
def Gp:=@Nat.le_add_right
def Gq:=@List.length_reverse.{0}
def Gs:=@Bool.not_true
def Gu:=@List.nodup_nil.{0}
def Gv:=@List.foldl_append.{0,0}
def Gw:=@PySem.Heap.get?_update_ne
def Gy:=@Bool.not_eq_true'
def Gz:=@List.map_drop.{0,0}
def GC:=@List.find?_some.{0}
def GD:=@Option.none_or.{0}
theorem GF:type_of% @Option.getD_some.{0}:=rfl
def GI:=@Bool.eq_false_iff
def GK:=@Bool.true_and
def GL:=@Nat.ble_eq
def Ly:=@Nat.le_of_lt
def Lz:=@Array.mem_toList_iff.{0}
def LA:=@List.getElem?_replicate.{0}
def LB:=@Nat.lt_of_le_of_lt
def LC:=@List.drop_eq_getElem_cons.{0}
def LD:=@Bool.and_true
def LF:=@List.nodup_range
def LG:=@List.any_eq_true.{0}
def LH:=@List.ext_getElem?.{0}
def LI:=@Int.le_refl
def LJ:=@PySem.Heap.size_update
def LK:=@List.mem_of_mem_drop.{0}
def LL:=@List.map_take.{0,0}
def LM:=@Nat.ble_eq_true_of_le
def LN:=@List.sum_cons.{0}
def LO:=@Bool.or_true
def LP:=@List.set_getElem_self.{0}
def LQ:=@Option.ne_none_iff_exists'.{0}
def LR:=@List.zipIdx_map_fst.{0}
def aK:=@PySem.wpAny_bind
def bw:=@PySem.wpAny_pure
def n4:=@if_true.{1}
def bJ:=@if_pos.{1}
def bq:=@if_neg.{1}
def kS:=@if_false.{1}
def nh:=@decide_eq_true
def pS:=@decide_eq_false
def rq:=@beq_self_eq_true.{0}
def kA:=@PySem.wpAny_holding
def y9a:=@decide_eq_true_iff
def pT:=@of_decide_eq_true
def oY:=@beq_eq_false_iff_ne.{0}
def QT:=@Classical.byContradiction
def cQ:=@absurd.{0}
def rA:=@True.intro
def br:=@eq_true
namespace Carry.Hd
open Lean Meta PySem PySem.W
abbrev kC:=@mkConst
abbrev aM:=@mkAppM
abbrev nL:=mkRawNatLit
abbrev Ex:=Lean.Expr
def fit(ds:Array (Ex×Ex×Ex)):MetaM (Array (Ex×Ex×Ex)):=do
 let cs:Std.HashSet Ex:=ds.foldl (λz d=>if d.1.isConst then z.insert d.1 else z) {}
 ds.filterM λd=>do
  let ty:=Fast.bareType (<-inferType d.1)
  return (ty.find? λy=>cs.contains y || y.isConstOf ``PySem.W.Frag).isNone
def spots(ds:Array (Ex×Ex×Ex)):Std.HashMap Ex Nat:=ds.zipIdx.foldl (λz d=>z.insert d.1.1 d.2) {}
def parts(tw:Name->MetaM Unit)(v:Ex):MetaM (Array (Ex×Ex×Ex)):=do
 for x in Fast.constsOf v do
  if let .const c _:=x then
   if((<-getEnv).getModuleIdxFor? c).isNone || (`PySem.Challenge).isPrefixOf c then tw c
 fit (<-Fast.twinsIn v)
def decl(d:Declaration):MetaM Unit:=withOptions (Elab.async.set · false) (addDecl d)
def twin:Nat->Name->MetaM Unit
 |0,_=>return
 |k+1,c=>do
  let (n,e) <-Fast.stemIn c true
  if(<-getEnv).contains e then return
  if let some none:=(<-Fast.primed.get).get? c then return
  let some (.defnInfo d):=(<-getEnv).find? c|return
  let ds <-parts (twin k) d.value
  if ds.isEmpty then
   Fast.primed.modify λz=>z.insert c none
   return
  let ix:=spots ds
  decl (.defnDecl { name:=n,levelParams:=[],type:=d.type,value:=Fast.putIn ix (λi=>ds[i]!.2.1) d.value,hints:=d.hints,safety:=.safe})
  decl (.thmDecl { name:=e,levelParams:=[],type:=<-mkEq (kC c) (kC n),value:=<-mkEqRefl (kC c)})
  Fast.primed.modify λz=>z.insert c (some (n,e))
def prep(v:Ex):MetaM (Array (Ex×Ex×Ex)):=parts (twin 9) v
def put(stem:Name)(ty v:Ex):MetaM Ex:=do
 let ds <-prep v
 let c <-defAt stem ty (Fast.putIn (spots ds) (λi=>ds[i]!.2.1) v)
 Fast.primed.modify λz=>z.insert c.constName! none
 return c
abbrev Objs:=Array (Obj×Obj×Ex)
def lay(old:Objs)(s t:Shared):MetaM Objs:=do
 let P:=kC ``Params
 unless s.heap.objs.size == t.heap.objs.size && s.toks == t.toks && toExpr s.drawn == toExpr t.drawn && toExpr s.heap.life == toExpr t.heap.life do failure
 let mut out:=#[]
 for i in [0:s.heap.objs.size] do
  let (a,b):=(s.heap.objs[i]!,t.heap.objs[i]!)
  if let some (a',b',e):=old[i]? then
   if sameObjNow a' a && sameObjNow b' b then
    out:=out.push (a',b',e)
    continue
  let v <-withLocalDeclD `P P λp=>do
   let e:=objE p a
   unless e == objE p b do failure
   mkLambdaFVars #[p] e
  out:=out.push (a,b,<-put `o (<-mkArrow P (kC ``Obj)) v)
 return out
def state(l:Bool)(old:Objs)(s t:Shared):MetaM (Objs×W.State):=do
 let P:=kC ``Params
 let os <-lay old s t
 let life:=toExpr s.heap.life
 let S:W.State:={ heap:=default,gens:=<-gensE s t,drawn:=toExpr s.drawn,toks:=nL s.toks}
 if l then
  let v <-withLocalDeclD `P P λp=>mkLambdaFVars #[p] (mkApp2 (kC ``Heap.mk) (mkApp2 (kC ``Array.mk [0]) (kC ``Obj) (listE (kC ``Obj) (os.toList.map λx=>mkApp x.2.2 p))) life)
  return (os,{ S with heap:=<-put `h (<-mkArrow P (kC ``Heap)) v})
 let v <-withLocalDeclD `P P λp=>mkLambdaFVars #[p] (treeE p (os.map (·.2.2)) 1 0)
 return (os,{ S with tree:=some (<-put `t (<-mkArrow P (kC ``BT)) v,nL s.heap.objs.size,life)})
def aux(ty pf:Ex):MetaM Ex:=do return kC (<-withOptions (Elab.async.set · false) (mkAuxLemma [] ty pf (cache:=false)))
def look:Nat->Ex->Ex->MetaM Ex
 |k,l,r=>do
  let W:=kC ``World
  let O:=kC ``OsState
  let q <-withLocalDeclD `w W λw=>withLocalDeclD `os O λos=>do
   let un (e:Ex):MetaM Ex:=do
    let e:=(mkApp2 e w os).headBeta
    if e.isAppOf ``openSeen || e.isAppOf ``openGood then return (<-unfoldDefinition? e).getD e
    return e
   let (a,b):=(<-un l,<-un r)
   unless a.isAppOfArity ``Prod.mk 4 && b.isAppOfArity ``Prod.mk 4 do return none
   let sh (e:Ex) (i:Nat):MetaM Ex:=mkLambdaFVars #[w,os] (e.getArg! i)
   return some (<-sh a 2,<-sh b 2,<-sh a 3,<-sh b 3)
  match k,q with
  |n+1,some (a1,b1,a2,b2)=>
   let (x,y):=(<-look n a1 b1,<-look n a2 b2)
   let (ty,pf) <-withLocalDeclD `w W λw=>withLocalDeclD `os O λos=>do
    return (<-mkForallFVars #[w,os] (<-mkEq (mkApp2 l w os).headBeta (mkApp2 r w os).headBeta),<-mkLambdaFVars #[w,os] (<-aM ``looks_pair #[mkApp2 x w os,mkApp2 y w os]))
   aux ty pf
  |_,_=>
   let P <-withLocalDeclD `w W λw=>do mkLambdaFVars #[w] (<-mkEq (mkApp l w).headBeta (mkApp r w).headBeta)
   discard <| prep P
   let e <-byKernelQuick P []
   withLocalDeclD `w W λw=>withLocalDeclD `os O λos=>do mkLambdaFVars #[w,os] (<-aM ``congrFun #[mkApp e w,os])
structure Ct where
 (pE m0 ann bE env cE B fp:Ex)
def nP:Nat->Ex:=nL
def cGo(c:Ct)(f:Name)(more:Array Ex)(n:Nat)(w s th:Ex):Ex:=mkAppN (kC f) (#[kC ``treeTable,c.pE,w,c.m0,c.ann]++more++#[nP n,s,th])
def cCom(c:Ct)(w:Ex):Array Ex:=#[kC ``treeTable,c.pE,w,c.m0,c.ann,c.env,c.fp]
def b6b(c:Ct)(rows:List String)(l r:Ex->Ex->MetaM Ex):MetaM Ex:=do
 discard <| prep c.pE
 discard <| prep c.env
 byPiece rows l r
def two(a b:Ex):MetaM Ex:=aM ``Prod.mk #[a,b]
def som(a:Ex):MetaM Ex:=aM ``some #[a]
def cEnds(c:Ct)(S:Ex)(pos:Pos):MetaM Ex:=do som (<-two (kC ``Flow.next) (<-two S (<-two c.cE (toExpr pos))))
def b6c(x y:Snap):List String:=(x.rows++y.rows).eraseDups
abbrev Gr:=List Ex×Nat×Snap×Snap×List String
def grp(l:Array Gr)(p:Ex×Snap×Snap):Array Gr:=
 let k:=max p.2.1.steps p.2.2.steps
 let rs:=b6c p.2.1 p.2.2
 let one:=l.push ([p.1],k,p.2.1,p.2.2,rs)
 match l.back? with
 |some (q,n,_,_,r)=>if n+k<=3000 && (r++rs).eraseDups.length<=3 then l.pop.push (q++[p.1],n+k,p.2.1,p.2.2,(r++rs).eraseDups) else one
 |none=>one
abbrev Cur:=Objs×W.State×Pos
abbrev Lm:=Ex×Nat×W.State×Pos×W.State×Pos×Ex
def one:Array Ex:=#[nP 1]
def cStep(c:Ct)(p:Gr)(q:Cur):MetaM (Cur×Lm):=do
 let T:=kC ``Stmt
 let stE <-defAt `st (mkApp (kC ``List [0]) T) (listE T p.1)
 discard <| prep stE
 let x:=p.2.2.1
 let n:=p.2.1.succ
 let S <-state false q.1 x.s p.2.2.2.1.s
 let th:=mkAppN (kC ``piecesOf) #[stE,c.env,c.cE,toExpr q.2.2,c.B]
 let h <-b6b c p.2.2.2.2 (λw os=>pure (cGo c ``segRunT one n w (q.2.1.atT w os) th)) λw os=>cEnds c (S.2.atT w os) x.pos
 return ((S.1,S.2,x.pos),stE,n,q.2.1,q.2.2,S.2,x.pos,<-liftT h ``segRun_of)
def cWalk(c:Ct):List Gr->Cur->List Lm->MetaM (Cur×List Lm)
 |[],q,ls=>return (q,ls)
 |p::r,q,ls=>do
  let x <-cStep c p q
  cWalk c r x.1 (x.2::ls)
def cf(w os l:Ex):MetaM Ex:=aM ``congrFun #[mkApp l w,os]
def add(n:Nat)(M:Ex):Ex:=mkApp2 (kC ``Nat.add) (nP n) M
def cApp(c:Ct)(w os r:Ex):List Lm->Ex->Ex->Ex->MetaM (Ex×Ex)
 |[],_,M,k=>return (M,k)
 |(st,n,S1,p1,S,p2,h)::l,t,M,k=>do
  cApp c w os r l (<-aM ``HAppend.hAppend #[st,t]) (add n M) (mkAppN (kC ``piece_app) (cCom c w++#[nP n,M,S1.at w os,S.at w os,r,st,t,c.cE,toExpr p1,toExpr p2,<-cf w os h,k]))
def envAt(s:Scope)(v:Value)(f:Addr):Env:={ scope:=s,locals:=mainNs,globals:=mainNs,cells:=[],code:=v,frame:=some f}
def ctx(pE:Ex)(t:Trace):MetaM (Ct×List Ex):=do
 let bE <-aM ``behindTheImports #[pE]
 let some cells <-cellsD? bE|failure
 let m <-aM ``Program.main #[pE]
 let some env0 <-unfoldDefinition? (mkApp3 (kC ``envAt) (<-aM ``Module.scope #[m]) (toExpr t.code) (toExpr t.frame))|failure
 let env <-defAt `env (kC ``Env) env0
 let fp:=toExpr t.framePos
 return (⟨pE,nP t.s0.heap.objs.size,toExpr t.ann,bE,env,mkApp2 (kC ``Code.body) bE env,listE (kC ``Frame) [mkApp (kC ``topFrame) fp],fp⟩,cells)
def d9z(pE N:Ex):MetaM Ex:=do
 let op <-aM ``opening #[pE]
 let e1 <-aux (<-mkEq op (mkApp (kC ``plainProg) (<-aM ``Scope.names #[<-aM ``Module.scope #[<-aM ``Program.main #[pE]]]))) (<-mkEqRefl op)
 let e2 <-withLocalDeclD `s (kC ``Shared) λs=>do
  let r <-som s
  aux (<-mkForallFVars #[s] (<-mkEq (mkApp2 (kC ``fenceModules?) pE s) r)) (<-mkLambdaFVars #[s] (<-mkEqRefl r))
 return mkAppN (kC ``boot_open) #[pE,N,e1,<-mkDecideProof (<-mkEq (mkApp2 (kC ``Nat.ble) (nP 600) N) (kC ``Bool.true)),e2]
def thr(l:List Ex):Ex:=mkAppN (kC ``Thread.mk) l.toArray
def cRun(c:Ct)(t t':Trace)(cells:List Ex)(S0:W.State):MetaM (W.State×Ex×Ex):=do
 let o:=(Array.range t.s0.heap.objs.size).map λi=>(t.s0.heap.objs[i]!,t'.s0.heap.objs[i]!,kC ((`PySem.W).str s!"boot_o_{i}"))
 let A <-state true o t.pre.s t'.pre.s
 let pp:=toExpr t.pre.pos
 let thA:=thr [mkApp2 (kC ``denote) (kC ``treeTable) c.cE,c.cE,pp,c.B]
 let stub:=mkApp (kC ``topStub) c.pE
 let pre <-b6b c (b6c t.pre t'.pre) (λw os=>pure (cGo c ``topGo #[] t.pre.steps w (S0.at w os) stub)) λw os=>do som (<-two (A.2.at w os) thA)
 let B <-state false A.1 t.block.s t'.block.s
 let block <-b6b c (b6c t.block t'.block) (λw os=>pure (cGo c ``segRun one t.block.steps.succ w (A.2.at w os) (mkAppN (kC ``blockOf) #[c.bE,c.env,c.cE,pp,c.B]))) λw os=>cEnds c (B.2.at w os) t.block.pos
 let q <-cWalk c ((cells.zip (t.pieces.zip t'.pieces)).foldl grp #[]).toList (B.1,B.2,t.block.pos) []
 let F <-state true q.1.1 t.fin.s t'.fin.s
 let F:=F.2
 let n:=t.fin.steps.succ
 let fin <-b6b c (b6c t.fin t'.fin) (λw os=>pure (cGo c ``topRun #[] n w (q.1.2.1.at w os) (thr [mkApp (kC ``doneF) (kC ``Flow.next),c.cE,toExpr q.1.2.2,c.B]))) λw os=>som (F.at w os)
 withLocalDeclD `w (kC ``World) λw=>withLocalDeclD `os (kC ``OsState) λos=>do
  let r:=F.at w os
  let (M,k) <-cApp c w os r q.2 (listE (kC ``Stmt) []) (nP n) (<-cf w os fin)
  let b:=t.block.steps.succ
  let k:=mkAppN (kC ``piece_block) (cCom c w++#[nP b,M,A.2.at w os,B.2.at w os,r,c.bE,c.cE,pp,toExpr t.block.pos,<-cf w os block,k])
  let M:=add b M
  let k:=mkAppN (kC ``go_top) #[kC ``treeTable,c.pE,w,c.m0,c.ann,nP t.pre.steps,M,S0.at w os,A.2.at w os,r,stub,thA,<-cf w os pre,k]
  let M:=add t.pre.steps M
  return (F,M,<-aux (<-mkForallFVars #[w,os] (<-mkEq (mkAppN (kC ``topRun) #[kC ``treeTable,c.pE,w,c.m0,c.ann,M,S0.at w os,stub]) (<-som r))) (<-mkLambdaFVars #[w,os] k))
def left(g:MVarId)(pE:Ex)(p:Program)(_:List String):MetaM Unit:=g.withContext do
 let a:=(<-instantiateMVars (<-g.getType)).consumeMData.getAppArgs
 let some N <-(Meta.evalNat a[7]!).run|failure
 let (.ok t,.ok t'):=(<-traceTop p N 1,<-traceTop p N 2)|failure
 let (c,cells) <-ctx pE t
 let S0:W.State:={ heap:=kC ``boot_heap,gens:=mkApp2 (kC ``Array.mk [0]) (kC ``GenState) (mkApp (kC ``List.nil [0]) (kC ``GenState)),drawn:=kC ``boot_drawn,toks:=kC ``boot_toks}
 let (Sf,M,run) <-cRun c t t' cells S0
 let lem:=kC ``LeftO.of_pieces
 let (ms,_,_) <-forallMetaTelescope (<-inferType lem)
 let vs:=#[pE]++(Array.range 8).map (λi=>a[i+1]!)++#[S0.heap,Sf.heap,S0.gens,Sf.gens,S0.drawn,Sf.drawn,S0.toks,Sf.toks,c.m0,c.ann,M]
 for (m,v) in ms.zip vs do m.mvarId!.assign v
 let want (i:Nat):MetaM Ex:=do instantiateMVars (<-inferType ms[i]!)
 let .forallE n1 d1 b1 i1 <-want 21|failure
 let .forallE _ _ bl _ <-want 24|failure
 let h <-withLocalDeclD `w (kC ``World) λw=>do
  let some (_,l,r):=(bl.instantiate1 w).eq?|failure
  look 12 (<-mkLambdaFVars #[w] l) (<-mkLambdaFVars #[w] r)
 let looks <-withLocalDeclD `w (kC ``World) λw=>do
  let f <-withLocalDeclD `os (kC ``OsState) λos=>mkLambdaFVars #[os] (mkApp2 h w os)
  mkLambdaFVars #[w] (<-aM ``funext #[f])
 g.assign (mkAppN lem (vs++#[<-d9z pE a[7]!,<-byKernelQuick (.lam n1 d1 b1 i1) [],run,<-mkDecideProof (<-want 23),looks]))
simproc_decl hd0 (PySem.W.OpenLaw.Holds _):=λe=>do
 if let .const (.str p s) _:=e.appArg! then twin 9 (p.str ("p"++(s.drop 1).toString))
 return .continue
simproc_decl hd (PySem.W.OpenRow.Holds _):=λ_=>do
 PySem.W.leftPieces.set (some left)
 return .continue
end Carry.Hd
noncomputable section
set_option Elab.async false
set_option maxRecDepth 100000
set_option tactic.hygienic false
abbrev ak:=@PySem.Value
abbrev aB:=@PySem.Shared
abbrev aj:=@PySem.Addr
abbrev ai:=@Option.{0}
abbrev kR:=@PySem.FuncData
abbrev cW:=@PySem.Around
abbrev dq:=@PySem.Program
abbrev nZ:=@PySem.NameKind
abbrev bZ:=@PySem.Heap
abbrev cL:=@PySem.World
abbrev aP:=@PySem.W.Frag
abbrev fP:=@PySem.W.Frag
namespace L2
open PySem PySem.Spec PyProof.Rows
def nO(h:b=false)(n:¬p):b=true↔p:=⟨λe=>(nomatch h.symm.trans e),λe=>(n e).elim⟩
def kY(h:(p->False)->False):p:=QT h
abbrev Key:=Sum Int Str
noncomputable def uY:Key->ak->Bool
 |.inl k,v=>Value.isInt k v
 |.inr x,v=>Value.isStrOf x v
noncomputable def Kh(w:cL):Key->Int
 |.inl k=>hashInt k
 |.inr x=>hashStr w x
theorem vX:∀{k:Key} {v:ak},uY k v=true->(∃i t,k=Sum.inl i/\v=Value.int i t)\/(∃x t,k=Sum.inr x/\v=Value.str x t)
 |.inl i,v,h=>by
  obtain⟨t,e⟩:=Value.isInt_shape (k:=i) (v:=v) h;exact .inl ⟨i,t,rfl,e⟩
 |.inr x,v,h=>by
  obtain⟨t,e⟩:=Value.isStrOf_shape (x:=x) (v:=v) h;exact .inr ⟨x,t,rfl,e⟩
def YN(a b:Int):decide ((Sum.inl a:Key)=Sum.inl b)=(a == b):=by
 by_cases e:a=b
 .subst e;simp
 .have h:¬(Sum.inl a:Key)=Sum.inl b:=λq=>e (Sum.inl.inj q)
  rw[pS h];exact(oY.mpr e).symm
def YO(a b:Str):decide ((Sum.inr a:Key)=Sum.inr b)=decide (a=b):=by
 by_cases e:a=b
 .subst e;simp
 .have h:¬(Sum.inr a:Key)=Sum.inr b:=λq=>e (Sum.inr.inj q)
  rw[pS h,pS e]
def YQ(a:Int)(b:Str):decide ((Sum.inl a:Key)=Sum.inr b)=false:=pS (λq=>nomatch q)
def YR(a:Str)(b:Int):decide ((Sum.inr a:Key)=Sum.inl b)=false:=pS (λq=>nomatch q)
def H9(prog:dq)(w:cL):PySem.KeyKind prog w Key where
 is:=uY
 hash:=Kh w
 inj:=λv a b J hb=>by
  grind [vX]
 byValue:=λk v h=>by
  rcases vX h with⟨i,t,rfl,rfl⟩|⟨x,t,rfl,rfl⟩ <;> rfl
 pyHash:=λhv h=>by
  rcases vX hv with⟨i,t,rfl,rfl⟩|⟨x,t,rfl,rfl⟩
  .exact wpAny_pyHash_int h
  .exact wpAny_pyHash_str h
 eqBool:=λQ hv h=>by
  rcases vX Q with⟨i,t,rfl,rfl⟩|⟨x,t,rfl,rfl⟩
  .rcases vX hv with⟨j,u,rfl,rfl⟩|⟨y,u,rfl,rfl⟩
   .rw[YN] at h;exact wpAny_eqBool_int h
   .rw[YQ] at h;exact SeqAt.EqAt.int_str i t y u _ _ _ _ h
  .rcases vX hv with⟨j,u,rfl,rfl⟩|⟨y,u,rfl,rfl⟩
   .rw[YR] at h;exact SeqAt.EqAt.str_int x t j u _ _ _ _ h
   .rw[YO] at h;exact wpAny_eqBool_str h
 «strs»:=λk x t v h=>by
  rcases vX h with⟨i,u,rfl,e⟩|⟨y,u,rfl,e⟩
  .exact nomatch e
  .injection e with e1 _;subst e1;cases v <;> rfl
inductive V where
 |aI|bl (b:Bool)|int (i:Int)|str (x:Str)|uE (b:Array UInt8)|zM (b:UInt64)|ref (a:aj)|ty (n:String)
 deriving DecidableEq
def RelV:V->ak->Prop
 |.aI,u=>u=Value.none
 |.bl b,u=>u=Value.bool b
 |.int i,u=>∃t,u=Value.int i t
 |.str x,u=>∃t,u=Value.str x t
 |.uE b,u=>∃t,u=Value.bytes b t
 |.zM b,u=>∃t,u=Value.float b t
 |.ref a,u=>u=Value.ref a
 |.ty n,u=>u=Value.type n
abbrev Vals:List V->List ak->Prop:=Paired RelV
theorem Vals.length(r:Vals xs us):xs.length=us.length:=Paired.length r
theorem Vals.get:∀{xs:List V} {us:List ak} {i:Nat} {x:V},Vals xs us->xs[i]?=some x->∃u,us[i]?=some u/\RelV x u
 |_,_,_,_,.nil,e=>by simp at e
 |_,_,0,_,.cons r _,e=>by simp at e;subst e;exact⟨_,rfl,r⟩
 |_,_,i+1,x,.cons _ t,e=>by
  obtain⟨u,Q,J⟩:=Vals.get (i:=i) (x:=x) t (by simpa using e)
  exact⟨u,by simpa using Q,J⟩
theorem Vals.set(r:RelV x u):∀{xs:List V} {us:List ak} (i:Nat),Vals xs us->Vals (xs.set i x) (us.set i u)
 |_,_,_,.nil=>.nil
 |_,_,0,.cons _ t=>.cons r t
 |_,_,i+1,.cons q t=>.cons q (Vals.set r i t)
def Vals.append(h:Vals xs us)(s:Vals ys ws):Vals (xs++ys) (us++ws):=by
 induction h with
 |nil=>exact s
 |cons r t Q=>exact .cons r Q
theorem Vals.take:∀{xs:List V} {us:List ak} (n:Nat),Vals xs us->Vals (xs.take n) (us.take n)
 |_,_,0,_=>.nil
 |_,_,_+1,.nil=>.nil
 |_,_,n+1,.cons r t=>.cons r (Vals.take n t)
theorem Vals.drop:∀{xs:List V} {us:List ak} (n:Nat),Vals xs us->Vals (xs.drop n) (us.drop n)
 |_,_,0,r=>r
 |_,_,_+1,.nil=>.nil
 |_,_,n+1,.cons _ t=>Vals.drop n t
def iN:ai V->ai ak->Prop
 |some v,some u=>RelV v u
 |none,none=>True
 |_,_=>False
def KV:List (κ×V)->List (κ×ak)->Prop:=Paired λ(p:κ×V) (q:κ×ak)=>p.1=q.1/\RelV p.2 q.2
def kV:Key->V
 |.inl i=>.int i
 |.inr x=>.str x
inductive TK where
 |inl (i:Int)|inr (x:Str)|tp (l:List TK)|aI
mutual
def TK.beq:TK->TK->Bool
 |.inl a,.inl b=>decide (a=b)
 |.inr a,.inr b=>decide (a=b)
 |.tp l,.tp m=>TK.sP l m
 |.aI,.aI=>true
 |_,_=>false
def TK.sP:List TK->List TK->Bool
 |[],[]=>true
 |a::l,b::m=>TK.beq a b&&TK.sP l m
 |_,_=>false
end
mutual
theorem TK.beq_iff:∀a b:TK,TK.beq a b=true↔a=b
 |.inl a,.inl b=>⟨λe=>by rw[pT (show decide (a=b)=true from e)],λe=>by cases e;exact nh rfl⟩
 |.inr a,.inr b=>⟨λe=>by rw[pT (show decide (a=b)=true from e)],λe=>by cases e;exact nh rfl⟩
 |.tp l,.tp m=>⟨λe=>by rw[(TK.jY l m).mp e],λe=>by cases e;exact(TK.jY l l).mpr rfl⟩
 |.inl _,.inr _=>nO rfl λe=>nomatch e
 |.inl _,.tp _=>nO rfl λe=>nomatch e
 |.inr _,.inl _=>nO rfl λe=>nomatch e
 |.inr _,.tp _=>nO rfl λe=>nomatch e
 |.tp _,.inl _=>nO rfl λe=>nomatch e
 |.tp _,.inr _=>nO rfl λe=>nomatch e
 |.aI,.aI=>⟨λ_=>rfl,λ_=>rfl⟩
 |.aI,.inl _=>nO rfl λe=>nomatch e
 |.aI,.inr _=>nO rfl λe=>nomatch e
 |.aI,.tp _=>nO rfl λe=>nomatch e
 |.inl _,.aI=>nO rfl λe=>nomatch e
 |.inr _,.aI=>nO rfl λe=>nomatch e
 |.tp _,.aI=>nO rfl λe=>nomatch e
theorem TK.jY:∀l m:List TK,TK.sP l m=true↔l=m
 |[],[]=>⟨λ_=>rfl,λ_=>rfl⟩
 |a::l,b::m=>by show(TK.beq a b&&TK.sP l m)=true↔_;rw[jx,TK.beq_iff a b,TK.jY l m];exact⟨λe=>by rw[e.1,e.2],λe=>by cases e;exact⟨rfl,rfl⟩⟩
 |[],_::_=>nO rfl λe=>nomatch e
 |_::_,[]=>nO rfl λe=>nomatch e
end
instance:DecidableEq TK:=λa b=>decidable_of_iff _ (TK.beq_iff a b)
mutual
def TK.hash(w:cL):TK->Int
 |.inl i=>hashInt i
 |.inr x=>hashStr w x
 |.tp l=>reduceHash (Builtin.Tuple.tupleHashOf (TK.eI w l))
 |.aI=>4238894112
def TK.eI(w:cL):List TK->List Int
 |[]=>[]
 |a::l=>TK.hash w a::TK.eI w l
end
noncomputable def TK.ok:Nat->TK->Bool
 |n+1,.tp l=>l.all (TK.ok n)
 |0,.tp _=>false
 |_,_=>true
def jh(w:cL)(e:TK×V×V)(x:DictEntry):Prop:=x.hash=e.1.hash w/\RelV e.2.1 x.key/\RelV e.2.2 x.val/\e.1.ok 8=true
inductive HO where
  |lst (xs:List V)
  |tup (xs:List V)
  |dK (kvs:List (Key×V))|dT (kvs:List (List Key×V))
  |dG (es:List (TK×V×V)) (ep:Nat)
  |set (S:Int->Bool) (n:Nat)
  |ins (C dx:aj) (fs:List (Str×V))
  |own (x:aj)
  |xd (fs:List (Str×V))
  |met (f x:aj)
  |KS (lo hi:Int)
  |Y (o:Obj) (u:HO)
  |yr (ps:Array ak)
  |ext (φ:bZ->Prop)
abbrev Hp:=aj->ai HO
noncomputable def upd(H:Hp)(a:aj)(o:HO):Hp:=λb=>if b=a then some o else H b
theorem aQ:upd H a o a=some o:=by unfold upd;rw[bJ rfl]
theorem dz(h:b≠a):upd H a o b=H b:=by unfold upd;rw[bq h]
def VS:upd (upd H a o) a u=upd H a u:=by
 funext b;unfold upd;split <;> rfl
def p6{H:Hp}(h:H a=some o)(h':H b=none):a≠b:=by
 lia
section
variable(P:dq)(w:cL)
def cw(H:Hp)(h:bZ)(a:aj):HO->Prop
 |.lst xs=>xs.length<=sizeLine/\∃(aL:List ak) (n:Nat),Vals xs aL/\h.get? a=some { cls:=.type "list",data:=.seq aL.toArray n}
 |.tup xs=>xs.length<=sizeLine/\∃aL:List ak,Vals xs aL/\IsTup h a aL.toArray
 |.dK kvs=>kvs.length<=sizeLine/\(a == sysModules)=false/\∃vs,KV kvs vs/\h.DictOf (H9 P w) a vs
 |.dT kvs=>kvs.length<=sizeLine/\(a == sysModules)=false/\∃xs:List (List Key×aj×ak),
   Paired (λ(p:List Key×V) (q:List Key×aj×ak)=>p.1=q.1/\H q.2.1=some (.tup (p.1.map kV))/\RelV p.2 q.2.2) kvs xs/\
   ∃o es ep,h.get? a=some o/\o.ExactDict/\o.data=.dict es ep/\es.toList=xs.map (entryOfKey (tupleKind (H9 P w)))/\(xs.map (·.1)).Nodup
 |.dG es ep=>es.length<=sizeLine/\(a == sysModules)=false/\∃o xs,h.get? a=some o/\o.ExactDict/\o.data=.dict xs ep/\Paired (jh w) es xs.toList/\(es.map (·.1)).Nodup
 |.set S n=>h.SetOf (intKind P w) a S n
 |.ins C dx fs=>H dx=some (.own a)/\fs.length<=1000/\dx≠a/\h.get? a=some (PySem.W.instObj C dx)/\
   ∃mA,h.Ns1 dx mA/\(∀f,iN (fs.lookup f) (mA f))/\PySem.Within mA (fs.map (·.1))
 |.own _=>∃o,h.get? a=some o
 |.xd fs=>∃mA,h.Ns1 a mA/\∀f,iN (fs.lookup f) (mA f)
 |.KS lo hi=>∃t u v,h.get? a=some { cls:=.type "range",data:=.fields #[.int lo t,.int hi u,.int 1 v]}
 |.Y o u=>h.get? a=some o/\cw H h a u
 |.yr ps=>h.get? a=some { cls:=.none,data:=.fields ps}
 |.met f x=>h.get? a=some (PySem.W.methodObj (.ref f) (.ref x))
 |.ext φ=>φ h/\(∃o,h.get? a=some o)/\∀Q J:bZ,φ Q->(∀o,Q.get? a=some o->J.get? a=some o)->φ J
def jk(H:Hp)(h:bZ):Prop:=∀a o,H a=some o->cw P w H h a o
end
section
theorem cw.lt(x:cw P w H h a o):a<h.objs.size:=by
 cases o with
 |lst xs=>obtain⟨_,_,_,_,e⟩:=x;exact cV e
 |tup xs=>obtain⟨_,_,_,p⟩:=x;exact p.lt
 |dK kvs=>obtain⟨_,_,_,_,o,_,_,e,_⟩:=x;exact cV e
 |dT kvs=>obtain⟨_,_,_,_,o,_,_,e,_⟩:=x;exact cV e
 |dG es ep=>obtain⟨_,_,o,_,e,_⟩:=x;exact cV e
 |set S n=>obtain⟨o,_,_,_,e,_⟩:=x;exact cV e
 |ins C dx fs=>obtain⟨_,_,_,e,_⟩:=x;exact cV e
 |own y=>obtain⟨_,e⟩:=x;exact cV e
 |xd fs=>obtain⟨_,⟨_,_,_,e,_⟩,_⟩:=x;exact cV e
 |KS lo hi=>obtain⟨_,_,_,e⟩:=x;exact cV e
 |Y ob u=>obtain⟨e,_⟩:=x;exact cV e
 |yr ps=>exact cV (show h.get? a=some _ from x)
 |met f y=>exact cV (show h.get? a=some _ from x)
 |ext φ=>obtain⟨_,⟨_,e⟩,_⟩:=x;exact cV e
def Paired.CH{l₂:List β}(h:Paired F l₁ l₂)(f:∀a b,F a b->G a b):Paired G l₁ l₂:=by
 induction h with
 |nil=>exact .nil
 |cons r t Q=>exact .cons (f _ _ r) Q
def cw.lW(x:cw P w H h a o)(k:∀b u,(b=a\/H b=some (.own a))->h.get? b=some u->h'.get? b=some u)
  (ho:∀b,H b=some (.own a)->H' b=some (.own a)) (ht:∀b xs,H b=some (.tup xs)->H' b=some (.tup xs)):cw P w H' h' a o:=by
 induction o with
 |lst xs=>obtain⟨z,aL,n,r,e⟩:=x;exact⟨z,aL,n,r,k _ _ (.inl rfl) e⟩
 |tup xs=>obtain⟨z,aL,r,ob,e,c⟩:=x;exact⟨z,aL,r,ob,k _ _ (.inl rfl) e,c⟩
 |dK kvs=>obtain⟨z,y,vs,r,ob,es,ep,e,c⟩:=x;exact⟨z,y,vs,r,ob,es,ep,k _ _ (.inl rfl) e,c⟩
 |dT kvs=>
  obtain⟨z,y,xs,r,ob,es,ep,e,c⟩:=x;exact⟨z,y,xs,Paired.CH r λp q z=>⟨z.1,ht _ _ z.2.1,z.2.2⟩,ob,es,ep,k _ _ (.inl rfl) e,c⟩
 |dG es ep=>obtain⟨z,y,ob,xs,e,c⟩:=x;exact⟨z,y,ob,xs,k _ _ (.inl rfl) e,c⟩
 |set S n=>obtain⟨ob,es,ep,t,e,c⟩:=x;exact⟨ob,es,ep,t,k _ _ (.inl rfl) e,c⟩
 |ins C dx fs=>
  obtain⟨d,z,ne,e,mA,⟨od,es,ep,e2,c⟩,r⟩:=x;exact⟨ho _ d,z,ne,k _ _ (.inl rfl) e,mA,⟨od,es,ep,k _ _ (.inr d) e2,c⟩,r⟩
 |own y=>obtain⟨ob,e⟩:=x;exact⟨ob,k _ _ (.inl rfl) e⟩
 |xd fs=>obtain⟨mA,⟨od,es,ep,e,c⟩,r⟩:=x;exact⟨mA,⟨od,es,ep,k _ _ (.inl rfl) e,c⟩,r⟩
 |KS lo hi=>obtain⟨t,u,v,e⟩:=x;exact⟨t,u,v,k _ _ (.inl rfl) e⟩
 |Y ob u Q=>obtain⟨e,q⟩:=x;exact⟨k _ _ (.inl rfl) e,Q q⟩
 |yr ps=>
  have e:h.get? a=some { cls:=.none,data:=.fields ps}:=x;show h'.get? a=some { cls:=.none,data:=.fields ps};exact k a _ (.inl rfl) e
 |met f y=>
  have e:h.get? a=some (PySem.W.methodObj (.ref f) (.ref y)):=x;show h'.get? a=some (PySem.W.methodObj (.ref f) (.ref y));exact k a _ (.inl rfl) e
 |ext φ=>obtain⟨p,⟨o,e⟩,st⟩:=x;exact⟨st _ _ p λo q=>k _ _ (.inl rfl) q,⟨o,k _ _ (.inl rfl) e⟩,st⟩
theorem jk.lt(x:jk P w H h)(e:H a=some o):a<h.objs.size:=(x a o e).lt
def jk.fresh(x:jk P w H h)(e:h.objs.size<=a):H a=none:=by
 cases q:H a with
 |none=>rfl
 |some u=>exact cQ (gq (x.lt q) e) (jQ _)
def jk.kept(x:jk P w H h)(k:∀b u,h.get? b=some u->h'.get? b=some u):jk P w H h':=λa o e=>
 (x a o e).lW (λb u _ q=>k b u q) (λ_ q=>q) λ_ _ q=>q
def jk.laid(x:jk P w H h)(k:∀b u,h.get? b=some u->h'.get? b=some u)(hp:h.objs.size<=a)(new:cw P w (upd H a o) h' a o):jk P w (upd H a o) h':=λb u e=>by
 have Q:=x.fresh hp;by_cases hb:b=a
 .subst hb;rw[aQ] at e;cases e;exact new
 .rw[dz hb] at e;exact(x b u e).lW (λc v _ q=>k c v q) (λc q=>by rw[dz (p6 q Q)];exact q) λc xs q=>by rw[dz (p6 q Q)];exact q
end
def Rd(H:Hp)(a:aj)(u:HO):Prop:=H a=some u\/∃o,H a=some (.Y o u)
def Rd.ok(r:Rd H a u)(x:jk P w H h):cw P w H h a u:=by
 rcases r with r|⟨o,r⟩
 .exact x a u r
 .obtain⟨_,q⟩:=x a _ r;exact q
def Ay:ai HO->Prop
 |some (.lst _)=>True
 |some (.dK _)=>True
 |some (.dT _)=>True
 |some (.dG _ _)=>True
 |some (.set _ _)=>True
 |some (.ins _ _ _)=>True
 |some (.ext _)=>True
 |_=>False
section
def jk.write(ok:jk P w H h)(mu:Ay (H x))(Y:e=x\/H e=some (.own x))(k:∀b u,b≠e->h.get? b=some u->h'.get? b=some u)(V:∃u,h'.get? e=some u)
  (new:cw P w (upd H x o') h' x o'):jk P w (upd H x o') h':=λb u q=>by
 have Ks:∀c y,H c=some (.own y)->c≠x:=λc y r z=>by subst z;rw[r] at mu;exact mu
 have Kt:∀c xs,H c=some (.tup xs)->c≠x:=λc xs r z=>by subst z;rw[r] at mu;exact mu
 by_cases hb:b=x
 .grind [aQ]
 .rw[dz hb] at q;by_cases Q:b=e
  .have J:H b=some (.own x):=by
    rcases Y with z|z
    .exact cQ (Q.trans z) hb
    .rw[Q];exact z
   rw[q] at J;cases J;obtain⟨v,hv⟩:=V;exact⟨v,by rw[Q];exact hv⟩
  .refine(ok b u q).lW (λc v hc r=>k c v ?_ r) (λc r=>by rw[dz (Ks c b r)];exact r) λc xs r=>by rw[dz (Kt c xs r)];exact r
   grind
end
structure Un (fs ex:List aj) (H H':Hp) (h h':bZ):Prop where
 keep:∀b o,h.get? b=some o->H b=none->b∉fs->b∉ex->h'.get? b=some o
 slot:∀b o,h.get? b=some o->H b=none->b∈fs->b∉ex->∃sl,h'.get? b=some { o with slots:=sl}
 free:∀b o,h.get? b=some o->H b=none->b∉ex->H' b=none
 there:∀b o,h.get? b=some o->b∉ex->∃o',h'.get? b=some o'
 kP:∀b xs,H b=some (.tup xs)->H' b=some (.tup xs)
 kf:∀b o u,H b=some (.Y o u)->H' b=some (.Y o u)
 kO:∀b ps,H b=some (.yr ps)->∃more,H' b=some (.yr (ps++more))
section
def Un.any(u:Un fs ex H H1 h Q)(q:h.get? b=some ob)(n:H b=none)(G:b∉ex):∃sl,Q.get? b=some { ob with slots:=sl}:=by
 by_cases hb:b∈fs
 .exact u.slot b ob q n hb G
 .exact⟨ob.slots,u.keep b ob q n hb G⟩
def Un.kept(k:∀b u,h.get? b=some u->h'.get? b=some u):Un fs ex H H h h':=
 ⟨λb ob q _ _ _=>k b ob q,λb ob q _ _ _=>⟨ob.slots,k b ob q⟩,λ_ _ _ n _=>n,λb ob q _=>⟨ob,k b ob q⟩,λ_ _ q=>q,λ_ _ _ q=>q,λ_ ps q=>⟨#[],by rw[q];simp⟩⟩
def Un.refl:Un fs ex H H h h:=Un.kept λ_ _ q=>q
def Un.laid(k:∀b u,h.get? b=some u->h'.get? b=some u)(hp:h.objs.size<=a)(G:H a=none):Un fs ex H (upd H a o) h h' where
 keep:=λb u q _ _ _=>k b u q
 slot:=λb u q _ _ _=>⟨u.slots,k b u q⟩
 free:=λb u q n _=>by rw[dz (g_ (gq (cV q) hp))];exact n
 there:=λb u q _=>⟨u,k b u q⟩
 kP:=λb xs q=>by rw[dz (p6 q G)];exact q
 kf:=λb u xs q=>by rw[dz (p6 q G)];exact q
 kO:=λb ps q=>⟨#[],by rw[dz (p6 q G),q];simp⟩
def Un.write(mu:Ay (H x))(B:e=x\/H e=some (.own x))(k:∀b u,b≠e->h.get? b=some u->h'.get? b=some u)(F:∃u,h'.get? e=some u):Un fs ex H (upd H x o) h h':=by
 have G:∀b,H b=none->b≠x:=λb n z=>by subst z;rw[n] at mu;exact mu
 have hb:∀b,H b=none->b≠e:=λb n z=>by
  subst z;rcases B with r|r
  .exact G b n r
  .rw[n] at r;cases r
 have hm:∀b u,H b=some u->¬Ay (some u)->b≠x:=λb u q nm z=>by subst z;rw[q] at mu;exact nm mu
 refine⟨λb u q n _ _=>k b u (hb b n) q,λb u q n _ _=>⟨u.slots,k b u (hb b n) q⟩,λb u q n _=>by rw[dz (G b n)];exact n,λb u q _=>?_,
  λb xs q=>by rw[dz (hm b _ q λz=>z)];exact q,λb u xs q=>by rw[dz (hm b _ q λz=>z)];exact q,λb ps q=>⟨#[],by rw[dz (hm b _ q λz=>z),q];simp⟩⟩
 by_cases W:b=e
 .subst W;exact F
 .exact⟨u,k b u W q⟩
end
noncomputable def Gd(h:bZ)(H:Hp):List aj:=(List.range h.objs.size).filter λa=>(H a).isSome
def lG(h:bZ)(H:Hp):bZ:=PySem.W.hideAll h (Gd h H)
def Si(h:bZ)(H:Hp):(lG h H).objs.size=h.objs.size:=PySem.W.hideAll_size _ _
def TV(e:h.get? b=some o)(n:H b=none):(lG h H).get? b=some o:=
 PySem.W.hideAll_get _ e λhm=>by
  have q:(H b).isSome=true:=(rb.mp hm).2;rw[n] at q;simp at q
def VT(e:(lG h H).get? b=some o):h.get? b=some o/\H b=none:=by
 have Q:h.get? b=some o:=PySem.W.of_hideAll (Gd h H) e;refine⟨Q,?_⟩;cases q:H b with
 |none=>rfl
 |some x=>
  have hm:b∈Gd h H:=rb.mpr ⟨pI.mpr (cV Q),by simp[q]⟩
  have z:(lG h H).get? b=none:=PySem.W.hideAll_none (Gd h H) hm;rw[z] at e;cases e
variable{s:aB}{t' i:Nat}{ch:List aj}{x:Str}{E:ak->aB->Prop}{v:V}{u:ak}
structure Mod (K:aP) (mg:Str->ai ak) (base:bZ):Prop where
 zX:K.In base
 glob:base.Ns mainGlobals mg
 blt:∃mb,base.Ns builtinsNs mb/\∀x:Str,x≠"__name__"->mb x=bootBuiltins x
 nolimit:base.NoLimit
set_option genInjectivity false in
structure Cx where
 prog:dq
 w:cL
 K:aP
 mg:Str->ai ak
 base:bZ
 A:cW
 N:List Str
 s₀:aB
 H₀:Hp
 env:Env
 outer:List Env
 stack:List Env
 ex:List aj
 fn:Str->Bool
 calm:Bool
 pn:List (aj×Obj)
 xe:ak->aB->Prop
variable{X:Cx}
abbrev mX(X:Cx):=model X.prog X.w
noncomputable def ke(l:List Env):List aj:=l.filterMap (·.frame)
abbrev Cx.fs(X:Cx):List aj:=ke X.outer
def G3(sc:Scope)(x:Str):Prop:=sc.names.lookup x=some .local \/ sc.names.lookup x=some .cell\/sc.names.lookup x=some .free
def Loc(sc:Scope)(x:Str):Prop:=sc.names.lookup x=some .local \/ sc.names.lookup x=some .cell
def Look(env:Env)(h:bZ)(m:Str->ai ak)(x:Str)(u:ak):Prop:=
 (env.kindOf x=some .local /\ m x=some u)\/((env.kindOf x=some .cell\/env.kindOf x=some .free)/\∃c,env.cells.lookup x=some c/\h.IsCell c (some u))
structure Cx.Ok (X:Cx):Prop where
 mod:Mod X.K X.mg X.base
 kind:X.env.scope.kind=.function
 glob:X.env.globals=mainGlobals
 blt:X.env.builtins=builtinsNs
 above:X.s₀.heap.objs.size<=X.env.locals
 inj:∀x y c,X.env.cells.lookup x=some c->X.env.cells.lookup y=some c->x=y
 has:∀x,(X.env.kindOf x=some .cell\/X.env.kindOf x=some .free)->∃c,X.env.cells.lookup x=some c
 wB:∀x c,X.fn x=true->X.env.cells.lookup x=some c->X.s₀.heap.objs.size<=c
 hd:X.calm=true->X.A.handled=none
 frames:X.A.frames=some X.stack
 z_:X.stack=X.outer\/(X.stack=X.env::X.outer/\X.env.frame=some X.env.locals)
 Fy:∀b∈X.ex,b≠X.env.locals/\∀x c,X.env.cells.lookup x=some c->c≠b
 bs:∀b o,X.base.get? b=some o->X.s₀.heap.get? b=some o/\X.H₀ b=none
 qj:X.base.objs.size<=X.s₀.heap.objs.size
 nI:∀b o,X.base.get? b=some o->b∉X.ex
 pd:∀b∈X.ex,b∉X.fs
 iQ:X.s₀.heap.FunFrames X.base X.outer
 sZ:∀b∈X.fs,X.H₀ b=none
structure Inv (X:Cx) (aa:List (aj×Obj)) (Z:List (ai V)) (H:Hp) (s:aB):Prop where
 ok:X.Ok
 os:s.os=X.s₀.os
 bare:AllBare s.gens
 base:Un X.fs X.ex X.H₀ H X.s₀.heap s.heap
 loc:∃m,s.heap.Ns X.env.locals m/\∀(i:Nat) (x:Str) (v:V),X.N[i]?=some x->Z[i]?=some (some v)->G3 X.env.scope x->∃u,RelV v u/\Look X.env s.heap m x u
 cell:∀x c,X.env.cells.lookup x=some c->∃v,s.heap.IsCell c v
 free:H X.env.locals=none
 eW:∀x c,X.env.cells.lookup x=some c->H c=none
 pin:∀p∈X.pn++aa,s.heap.get? p.1=some p.2/\H p.1=none/\p.1≠X.env.locals/\p.1∉X.fs/\∀v,p.2.data≠.cell v
 bN:jk X.prog X.w H s.heap
 len:Z.length=X.N.length
def kI(I:Inv X aa Z H s)(hd:H d=some (.dG es ep)):cw X.prog X.w H s.heap d (.dG es ep):=I.bN d _ hd
section
variable{X:Cx}{s:aB}
def Cx.Ok.Kr(ok:X.Ok)(e:X.base.get? b=some o):b∉X.fs:=λhb=>by
 have:=(ok.iQ.mem hb).1
 lia
theorem Inv.bs(I:Inv X aa Z H s):∀b o,X.base.get? b=some o->s.heap.get? b=some o/\H b=none:=λb o e=>
 ⟨I.base.keep b o (I.ok.bs b o e).1 (I.ok.bs b o e).2 (I.ok.Kr e) (I.ok.nI b o e),I.base.free b o (I.ok.bs b o e).1 (I.ok.bs b o e).2 (I.ok.nI b o e)⟩
def Inv.bk(I:Inv X aa Z H s):∀b o,X.base.get? b=some o->s.heap.get? b=some o:=λb o e=>(I.bs b o e).1
theorem Inv.mod(I:Inv X aa Z H s):Mod X.K X.mg X.base:=I.ok.mod
def Inv.jN(I:Inv X aa Z H s):X.K.In s.heap:=I.ok.mod.zX.keeps I.bk
theorem Inv.lt(I:Inv X aa Z H s):X.env.locals<s.heap.objs.size:=let ⟨_,J,_⟩:=I.loc;J.lt
def Inv.sz(I:Inv X aa Z H s):X.s₀.heap.objs.size<=s.heap.objs.size:=jy I.ok.above (Ly I.lt)
def Inv.xS(I:Inv X aa Z H s)(h:s.heap.objs.size<=a):a∉X.fs:=λhb=>by
 obtain⟨_,o,ho,_⟩:=I.ok.iQ.mem hb;exact cQ (gq (cV ho) (jy I.sz h)) (jQ _)
def Inv.wD(I:Inv X aa Z H s):∀x c,X.env.cells.lookup x=some c->c≠X.env.locals:=λx c e z=>by
 obtain⟨v,o,ho,hd⟩:=I.cell x c e;obtain⟨m,⟨o',es,ep,Y,J,_⟩,_⟩:=I.loc
 lia
theorem Inv.iQ(I:Inv X aa Z H s):s.heap.FunFrames X.base X.outer:=by
 have all:∀(l:List Env),(∀b∈ke l,b∈X.fs)->X.s₀.heap.FunFrames X.base l->s.heap.FunFrames X.base l:=by
  intro l
  induction l with
  |nil=>intro _ _;trivial
  |cons env r W=>
   intro Y hl;obtain⟨V,⟨L,o,hf,U,ho,hd⟩,G⟩:=hl;have J:L∈X.fs:=Y L (by unfold ke;rw[nV,hf];exact Af)
   obtain⟨sl,e⟩:=I.base.slot L o ho (I.ok.sZ L J) J λz=>I.ok.pd L z J
   exact⟨V,⟨L,_,hf,U,e,hd⟩,W (λb hb=>Y b (by unfold ke;rw[nV,hf];exact pJ _ hb)) G⟩
 exact all X.outer (λ_ hb=>hb) I.ok.iQ
def Inv.stack(I:Inv X aa Z H s):s.heap.FunFrames X.base X.stack:=by
 rcases I.ok.z_ with e|⟨e,hf⟩
 .rw[e];exact I.iQ
 .rw[e];obtain⟨m,J,_⟩:=I.loc;refine .cons (by rw[I.ok.kind];decide) hf J ?_ I.iQ
  exact Heap.get?_none_of_le (jy I.ok.qj I.ok.above)
def Inv.kx(I:Inv X aa Z H s):∀b∈ke X.stack,b∈X.env.locals::X.fs:=λb hb=>by
 rcases I.ok.z_ with e|⟨e,hf⟩
 .rw[e] at hb;exact pJ _ hb
 .rw[e] at hb;unfold ke at hb;rw[nV,hf] at hb;exact hb
def Inv.jP(I:Inv X aa Z H s):∀b∈ke X.stack,H b=none:=λb hb=>by
 rcases y0c.mp (I.kx b hb) with e|hb
 .rw[e];exact I.free
 .obtain⟨_,o,ho,_⟩:=I.ok.iQ.mem hb;exact I.base.free b o ho (I.ok.sZ b hb) λz=>I.ok.pd b z hb
def Inv.step(I:Inv X aa Z H s)
  (U:∀b∈ch,(b∈X.ex\/X.s₀.heap.objs.size<=b)/\b≠X.env.locals/\(∀x c,X.env.cells.lookup x=some c->c≠b)/\∀p∈X.pn++aa,p.1≠b)
  (keep:∀b o,b≠X.env.locals->b∉X.fs->b∉ch->s.heap.get? b=some o->H b=none->h'.get? b=some o)
  (slot:∀b o,b≠X.env.locals->b∈X.fs->b∉ch->s.heap.get? b=some o->H b=none->∃sl,h'.get? b=some { o with slots:=sl}) (free:∀b o,b∉ch->s.heap.get? b=some o->H b=none->H' b=none)
  (there:∀b o,b∉ch->s.heap.get? b=some o->∃o',h'.get? b=some o')
  (kP:∀b xs,H b=some (.tup xs)->H' b=some (.tup xs)) (kf:∀b o u,H b=some (.Y o u)->H' b=some (.Y o u)) (kO:∀b ps,H b=some (.yr ps)->∃more,H' b=some (.yr (ps++more)))
  (ns:∀m,s.heap.Ns X.env.locals m->h'.Ns X.env.locals m) (bN:jk X.prog X.w H' h') (T:AllBare g') :
  Inv X aa Z H' { s with heap:=h',gens:=g',drawn:=d',toks:=t'}:=by
 have B:∀b o,X.s₀.heap.get? b=some o->b≠X.env.locals:=λb o e=>g_ (gq (cV e) I.ok.above)
 have W:∀b o,X.s₀.heap.get? b=some o->b∉X.ex->b∉ch:=λb o e J hb=>by
  rcases(U b hb).1 with z|z
  .exact J z
  .exact cQ (gq (cV e) z) (jQ _)
 have V:∀x c,X.env.cells.lookup x=some c->∀v,s.heap.IsCell c v->h'.IsCell c v:=λx c e v ⟨o,ho,hd⟩=>by
  have G:c∉ch:=λz=>(U c z).2.2.1 x c e rfl
  by_cases hc:c∈X.fs
  .obtain⟨sl,q⟩:=slot c o (I.wD x c e) hc G ho (I.eW x c e);exact⟨_,q,hd⟩
  .exact⟨o,keep c o (I.wD x c e) hc G ho (I.eW x c e),hd⟩
 refine⟨I.ok,I.os,T,⟨λb o e n hb J=>?_,λb o e n hb J=>?_,λb o e n J=>?_,λb o e J=>?_,λb xs e=>kP b xs (I.base.kP b xs e),λb o xs e=>kf b o xs (I.base.kf b o xs e),λb ps e=>?_⟩,?_,λx c e=>?_,?_,λx c e=>?_,λp hp=>?_,bN,I.len⟩
 .exact keep b o (B b o e) hb (W b o e J) (I.base.keep b o e n hb J) (I.base.free b o e n J)
 .obtain⟨sl,e1⟩:=I.base.slot b o e n hb J;obtain⟨N,e2⟩:=slot b _ (B b o e) hb (W b o e J) e1 (I.base.free b o e n J);exact⟨N,e2⟩
 .obtain⟨o',e1⟩:=I.base.there b o e J;exact free b o' (W b o e J) e1 (I.base.free b o e n J)
 .obtain⟨o',e1⟩:=I.base.there b o e J;exact there b o' (W b o e J) e1
 .obtain⟨R,e1⟩:=I.base.kO b ps e;obtain⟨L,e2⟩:=kO b _ e1;exact⟨R++L,by rw[e2,Array.append_assoc]⟩
 .obtain⟨m,S,hl⟩:=I.loc;refine⟨m,ns m S,λi x v e1 e2 P=>?_⟩
  obtain⟨u,r,l⟩:=hl i x v e1 e2 P;refine⟨u,r,?_⟩;rcases l with l|⟨k,c,e,z⟩
  .exact .inl l
  .exact .inr ⟨k,c,e,V x c e _ z⟩
 .obtain⟨v,z⟩:=I.cell x c e;exact⟨v,V x c e v z⟩
 .obtain⟨m,⟨o,_,_,ho,_⟩,_⟩:=I.loc;exact free _ o (λz=>(U _ z).2.1 rfl) ho I.free
 .obtain⟨v,o,ho,hd⟩:=I.cell x c e;exact free c o (λz=>(U c z).2.2.1 x c e rfl) ho (I.eW x c e)
 .obtain⟨e,n,ne,F,d⟩:=I.pin p hp;have G:p.1∉ch:=λz=>(U p.1 z).2.2.2 p hp rfl
  exact⟨keep p.1 p.2 ne F G e n,free p.1 p.2 G e n,ne,F,d⟩
def Inv.un(I:Inv X aa Z H s)(u:Un X.fs [] H H' s.heap h')(bN:jk X.prog X.w H' h'):Inv X aa Z H' { s with heap:=h',toks:=t'}:=by
 obtain⟨m,⟨o,es,ep,ho,r⟩,_⟩:=id I.loc;obtain⟨sl,Y⟩:=u.any ho I.free (by simp)
 exact I.step (g':=s.gens) (d':=s.drawn) (ch:=[]) (λ_ z=>nomatch z) (λb o _ hb _ e n=>u.keep b o e n hb (by simp)) (λb o _ hb _ e n=>u.slot b o e n hb (by simp)) (λb o _ e n=>u.free b o e n (by simp)) (λb o _ e=>u.there b o e (by simp)) u.kP u.kf u.kO (λW hm=>by
  obtain⟨o',G,V,J,U⟩:=hm;rw[ho] at J;cases J;exact⟨_,G,V,Y,U⟩) bN I.bare
def Inv.call(I:Inv X aa Z H s)(u:Un (ke X.stack) ch H H' s.heap h')(bN:jk X.prog X.w H' h')(U:AllBare g')
  (Y:∀b∈ch,(b∈X.ex\/X.s₀.heap.objs.size<=b)/\b≠X.env.locals/\(∀x c,X.env.cells.lookup x=some c->c≠b)/\∀p∈X.pn++aa,p.1≠b) :
  Inv X aa Z H' { s with heap:=h',gens:=g',drawn:=d',toks:=t'}:=by
 obtain⟨m,⟨o,es,ep,ho,r⟩,_⟩:=id I.loc;obtain⟨sl,J⟩:=u.any ho I.free λz=>(Y _ z).2.1 rfl
 exact I.step (ch:=ch) Y (λb o J hb hc e n=>u.keep b o e n (λz=>(y0c.mp (I.kx b z)).elim J hb) hc) (λb o _ _ hc e n=>u.any e n hc) (λb o hc e n=>u.free b o e n hc) (λb o hc e=>u.there b o e hc) u.kP u.kf u.kO (λF hm=>by
  obtain⟨o',B,G,V,W⟩:=hm;rw[ho] at V;cases V;exact⟨_,B,G,J,W⟩) bN U
def Inv.turned(I:Inv X aa Z H s)(k:∀b o,b≠it->s.heap.get? b=some o->h'.get? b=some o)(W:H it=none)(Y:it≠X.env.locals)
  (V:it∈X.ex\/X.s₀.heap.objs.size<=it) (U:∀x c,X.env.cells.lookup x=some c->c≠it) (G:∀p∈X.pn++aa,p.1≠it):Inv X aa Z H { s with heap:=h',toks:=t'}:=by
 have J:∀b u,H b=some u->b≠it:=λb u e z=>by rw[z,W] at e;cases e
 refine I.step (g':=s.gens) (d':=s.drawn) (ch:=[it]) (λb hb=>?_) (λb o _ _ hc e _=>k b o (λz=>hc (by simp[z])) e) (λb o _ _ hc e _=>⟨o.slots,k b o (λz=>hc (by simp[z])) e⟩) (λ_ _ _ _ n=>n)
  (λb o hc e=>⟨o,k b o (λz=>hc (by simp[z])) e⟩) (λ_ _ e=>e) (λ_ _ _ e=>e) (λb ps e=>⟨#[],by rw[e];simp⟩) (λm hm=>?_) (λb u e=>?_) I.bare
 .have e:b=it:=by simpa using hb
  subst e;exact⟨V,Y,U,G⟩
 .obtain⟨o,es,ep,ho,r⟩:=hm;exact⟨o,es,ep,k _ o (Ne.symm Y) ho,r⟩
 .refine(I.bN b u e).lW (λc v hc q=>k c v ?_ q) (λ_ q=>q) λ_ _ q=>q
  rcases hc with z|z
  .rw[z];exact J b u e
  .exact J c _ z
def Inv.tok(I:Inv X aa Z H s)(t:Nat):Inv X aa Z H { s with toks:=t}:=I.un (h':=s.heap) (t':=t) Un.refl I.bN
theorem Inv.kept(I:Inv X aa Z H s)(k:∀b u,s.heap.get? b=some u->h'.get? b=some u):Inv X aa Z H { s with heap:=h',toks:=t'}:=I.un (Un.kept k) (I.bN.kept k)
theorem Inv.laid(I:Inv X aa Z H s)(k:∀b u,s.heap.get? b=some u->h'.get? b=some u)(hp:s.heap.objs.size<=a)(new:cw X.prog X.w (upd H a o) h' a o):
  Inv X aa Z (upd H a o) { s with heap:=h',toks:=t'}:=I.un (Un.laid k hp (I.bN.fresh hp)) (I.bN.laid k hp new)
theorem Inv.write{x e:aj}(I:Inv X aa Z H s)(mu:Ay (H x))(J:e=x\/H e=some (.own x))(k:∀b u,b≠e->s.heap.get? b=some u->h'.get? b=some u)(Y:∃u,h'.get? e=some u)
  (new:cw X.prog X.w (upd H x o) h' x o):Inv X aa Z (upd H x o) { s with heap:=h',toks:=t'}:=I.un (Un.write mu J k Y) (I.bN.write mu J k Y new)
def Inv.jO(I:Inv X aa Z H s)(h:∀p∈J,s.heap.get? p.1=some p.2/\H p.1=none/\p.1≠X.env.locals/\p.1∉X.fs/\∀v,p.2.data≠.cell v):Inv X J Z H s:=
 ⟨I.ok,I.os,I.bare,I.base,I.loc,I.cell,I.free,I.eW,λp hp=>(iC.mp hp).elim (λz=>I.pin p (Ag _ z)) (h p),I.bN,I.len⟩
def MU{N:List Str}(hN:N.Nodup)(a:N[i]?=some x)(b:N[j]?=some x):i=j:=by
 obtain⟨J,e1⟩:=dX.mp a;obtain⟨Y,e2⟩:=dX.mp b;exact(DC hN).mp (e1.trans e2.symm)
def Ms(I:Inv X aa Z H s)(hN:X.N.Nodup)(hi:X.N[i]?=some x)(V:Loc X.env.scope x)(r:RelV v u)
  (h:∀s',Inv X aa (Z.set i (some v)) H s'->(∃a,Heap.SameBut a s.heap s'.heap/\(a=X.env.locals\/X.env.cells.lookup x=some a))->Q () s') (hf:X.fn x=true\/X.env.scope.names.lookup x=some .local := by first|exact .inl rfl|exact .inr rfl|assumption):wpAny M A (storeName X.env x u) Q E s:=by
 obtain⟨m,P,hl⟩:=id I.loc;have O:(X.env.scope.kind == .class || (X.env.scope.kind == .module&&X.env.locals != X.env.globals))=false:=by rw[I.ok.kind];rfl
 have Qj:i<Z.length:=by rw[I.len];exact(dX.mp hi).1
 have wD:=I.wD;have Y:∀{a:aj} {h':bZ},(∃o,s.heap.get? a=some o/\H a=none)->Heap.SameBut a s.heap h'->jk X.prog X.w H h':=λ{a h'} f J b ob e=>by
  obtain⟨_,_,F⟩:=f;refine(I.bN b ob e).lW (λc W hc q=>(J.2 c ?_).trans q) (λ_ q=>q) λ_ _ q=>q
  lia
 rcases V with hk|hk
 .refine wpAny_storeName_local hk P (λh' D J=>?_) O
  obtain⟨t,_,_,ia,_⟩:=id P;refine h _ ⟨I.ok,I.os,I.bare,⟨λb o e n hb V=>?_,λb o e n hb V=>?_,I.base.free,λb o e V=>?_,I.base.kP,I.base.kf,I.base.kO⟩,⟨_,D,λj y L e1 e2 B=>?_⟩,λy c e=>?_,I.free,I.eW,λp hp=>?_,Y ⟨t,ia,I.free⟩ J,by simpa using I.len⟩ ⟨_,J,.inl rfl⟩
  .exact(J.2 b (g_ (gq (cV e) I.ok.above))).trans (I.base.keep b o e n hb V)
  .obtain⟨sl,e1⟩:=I.base.slot b o e n hb V;exact⟨sl,(J.2 b (g_ (gq (cV e) I.ok.above))).trans e1⟩
  .obtain⟨o',e1⟩:=I.base.there b o e V;exact⟨o',(J.2 b (g_ (gq (cV e) I.ok.above))).trans e1⟩
  .by_cases U:j=i
   .subst U;rw[hi] at e1;cases e1;rw[oV Qj] at e2;cases e2;exact⟨u,r,.inl ⟨hk,by simp⟩⟩
   .rw[ud (Ne.symm U)] at e2;obtain⟨R,S,q⟩:=hl j y L e1 e2 B;refine⟨R,S,?_⟩;rcases q with⟨k,e⟩|⟨k,c,e,z⟩
    .refine .inl ⟨k,?_⟩;have:y≠x:=λe=>U (MU hN e1 (e ▸ hi))
     simp[this,e]
    .exact .inr ⟨k,c,e,z.sameBut J (wD y c e)⟩
  .obtain⟨W,z⟩:=I.cell y c e;exact⟨W,z.sameBut J (wD y c e)⟩
  .obtain⟨e,n,ne,T,d⟩:=I.pin p hp;exact⟨(J.2 p.1 ne).trans e,n,ne,T,d⟩
 .have Cb:X.fn x=true:=by
   rcases hf with z|z
   .exact z
   .rw[z] at hk;cases hk
  obtain⟨c,hc⟩:=I.ok.has x (.inl hk);obtain⟨W,z⟩:=I.cell x c hc;refine wpAny_storeName_cell I.ok.kind hk hc z (λh' C J=>?_)
  obtain⟨oc,tm,g⟩:=id z;refine h { s with heap:=h'} ⟨I.ok,I.os,I.bare,⟨λb o e n hb V=>?_,λb o e n hb V=>?_,I.base.free,λb o e V=>?_,I.base.kP,I.base.kf,I.base.kO⟩,⟨m,P.sameBut J (Ne.symm (wD x c hc)),λj y L e1 e2 B=>?_⟩,λy G e=>?_,I.free,I.eW,λp hp=>?_,Y ⟨oc,tm,I.eW x c hc⟩ J,by simpa using I.len⟩ ⟨c,J,.inr hc⟩
  .exact(J.2 b (g_ (gq (cV e) (I.ok.wB x c Cb hc)))).trans (I.base.keep b o e n hb V)
  .obtain⟨sl,e1⟩:=I.base.slot b o e n hb V;exact⟨sl,(J.2 b (g_ (gq (cV e) (I.ok.wB x c Cb hc)))).trans e1⟩
  .obtain⟨o',e1⟩:=I.base.there b o e V;exact⟨o',(J.2 b (g_ (gq (cV e) (I.ok.wB x c Cb hc)))).trans e1⟩
  .by_cases U:j=i
   .subst U;rw[hi] at e1;cases e1;rw[oV Qj] at e2;cases e2;exact⟨u,r,.inr ⟨.inl hk,c,hc,C⟩⟩
   .rw[ud (Ne.symm U)] at e2;obtain⟨R,S,q⟩:=hl j y L e1 e2 B;refine⟨R,S,?_⟩;rcases q with q|⟨k,G,e,z'⟩
    .exact .inl q
    .refine .inr ⟨k,G,e,z'.sameBut J ?_⟩;rintro rfl;exact U (MU hN e1 (I.ok.inj _ _ _ e hc ▸ hi))
  .by_cases Qf:G=c
   .subst Qf;exact⟨_,C⟩
   .obtain⟨w2,z2⟩:=I.cell y G e;exact⟨w2,z2.sameBut J Qf⟩
  .obtain⟨e,n,ne,T,d⟩:=I.pin p hp;refine⟨(J.2 p.1 ?_).trans e,n,ne,T,d⟩;intro q;rw[q,tm] at e;have l:oc=p.2:=Option.some.inj e;exact d W (by rw[<-l];exact g)
def MV(I:Inv X aa Z H s)(hN:X.N.Nodup)(hi:X.N[i]?=some x)(Y:Loc X.env.scope x)(r:RelV v u)
  (h:∀s',Inv X aa (Z.set i (some v)) H s'->Q () s') (hf:X.fn x=true\/X.env.scope.names.lookup x=some .local := by first|exact .inl rfl|exact .inr rfl|assumption):wpAny M A (storeName X.env x u) Q E s:=
 Ms I hN hi Y r (λs' J _=>h s' J) hf
def Inv.uF(I:Inv X aa Z H s)(ho:s'.os=s.os)(u:Un (ke X.stack) ch H H' s.heap s'.heap)(bN:jk X.prog X.w H' s'.heap)(J:AllBare s'.gens)
  (Y:∀b∈ch,(b∈X.ex\/X.s₀.heap.objs.size<=b)/\b≠X.env.locals/\(∀x c,X.env.cells.lookup x=some c->c≠b)/\∀p∈X.pn++aa,p.1≠b):Inv X aa Z H' s':=by
 obtain⟨h',g',d',t',o'⟩:=s';have e:o'=s.os:=ho;subst e;exact I.call (g':=g') (t':=t') (d':=d') u bN J Y
end
abbrev XK:=ak->ai aj->Hp->Prop
abbrev St:=List (ai V)
abbrev VK:=V->Hp->Prop
abbrev TE:=St->Hp->VK->Prop
abbrev TT:=St->Hp->(Bool->Hp->Prop)->Prop
abbrev TA:=St->Hp->(List V->Hp->Prop)->Prop
set_option genInjectivity false in
structure Ends where
 nx:St->Hp->Prop
 rt:VK
 bk:St->Hp->Prop:=λ_ _=>False
 ct:St->Hp->Prop:=λ_ _=>False
abbrev TS:=Ends->St->Hp->Prop
def EP(X:Cx)(aa:List (aj×Obj))(Z:St)(Q:VK)(u:ak)(s':aB):Prop:=∃v H',Inv X aa Z H' s'/\RelV v u/\Q v H'
def TP(X:Cx)(aa:List (aj×Obj))(Z:St)(Q:Bool->Hp->Prop)(b:Bool)(s':aB):Prop:=∃H',Inv X aa Z H' s'/\Q b H'
def AP(X:Cx)(aa:List (aj×Obj))(Z:St)(Q:List V->Hp->Prop)(us:List ak)(s':aB):Prop:=∃vs H',Inv X aa Z H' s'/\Vals vs us/\Q vs H'
def SP(X:Cx)(aa:List (aj×Obj))(D:Ends)(f:Flow)(s':aB):Prop:=
 match f with
 |.next=>∃J H',Inv X aa J H' s'/\D.nx J H'
 |.brk=>∃J H',Inv X aa J H' s'/\D.bk J H'
 |.cont=>∃J H',Inv X aa J H' s'/\D.ct J H'
 |.ret u=>∃v J H',Inv X aa J H' s'/\RelV v u/\D.rt v H'
def PE(X:Cx)(e:Expr)(t:TE):Prop:=
 ∀(aa:List (aj×Obj)) (s:aB) (Z:St) (H:Hp) (Q:VK),Inv X aa Z H s->t Z H Q->wpAny (mX X) X.A (eval e X.env) (EP X aa Z Q) X.xe s
def PT(X:Cx)(e:Expr)(t:TT):Prop:=
 ∀(aa:List (aj×Obj)) (s:aB) (Z:St) (H:Hp) (Q:Bool->Hp->Prop),Inv X aa Z H s->t Z H Q->wpAny (mX X) X.A (isTrue e X.env (eval e X.env)) (TP X aa Z Q) X.xe s
def PW(X:Cx)(e:Expr)(t:TT):Prop:=
 ∀(J:Sem ak) (aa:List (aj×Obj)) (s:aB) (Z:St) (H:Hp) (Q:Bool->Hp->Prop),Inv X aa Z H s->t Z H Q->wpAny (mX X) X.A (isTrue e X.env J) (TP X aa Z Q) X.xe s
def PW.pt(h:PW X e t):PT X e t:=h _
def PA(X:Cx)(es:List Expr)(t:TA):Prop:=
 ∀(J:Pos) (aa:List (aj×Obj)) (s:aB) (Z:St) (H:Hp) (Q:List V->Hp->Prop),Inv X aa Z H s->t Z H Q->wpAny (mX X) X.A (spliced (backTo J (starEach es X.env))) (AP X aa Z Q) X.xe s
def PS(X:Cx)(st:Stmt)(t:TS):Prop:=
 ∀(aa:List (aj×Obj)) (s:aB) (Z:St) (H:Hp) (D:Ends),Inv X aa Z H s->t D Z H->wpAny (mX X) X.A (exec st X.env) (SP X aa D) X.xe s
def iM(X:Cx)(st:List Stmt)(t:TS):Prop:=
 ∀(aa:List (aj×Obj)) (s:aB) (Z:St) (H:Hp) (D:Ends),Inv X aa Z H s->t D Z H->wpAny (mX X) X.A (execs st X.env) (SP X aa D) X.xe s
def bO{Q Q':α->aB->Prop}(h:wpAny M A t Q E s)(J:∀a s,Q a s->Q' a s):wpAny M A t Q' E s:=wpAny_mono h J λ_ _ x=>x
section
variable{X:Cx}
def Dl(i:Nat):TE:=λZ H Q=>∃v,Z[i]?=some (some v)/\Q v H
def tC(v:V):TE:=λ_ H Q=>Q v H
def YS(hN:X.N[i]?=some x)(hv:G3 X.env.scope x)(hd:(x == ("__debug__":Str))=false:=by decide)(U:(x == ("__classdict__":Str))=false:=by decide):PE X (.Name x J) (Dl i):=by
 intro aa s Z H Q I h;obtain⟨v,e,h⟩:=h;obtain⟨m,V,hl⟩:=I.loc;obtain⟨u,r,l⟩:=hl i x v hN e hv;have fin:EP X aa Z Q u s:=⟨v,H,I,r,h⟩;rcases l with⟨hk,hm⟩|⟨hk,c,hc,Y⟩
 .exact wpAny_Name (wpAny_loadName_local I.ok.kind hk V hm fin) hd
 .rcases hk with hk|hk
  .exact wpAny_Name (wpAny_loadName_cell I.ok.kind hk hc Y fin) hd
  .exact wpAny_Name (wpAny_loadName_free I.ok.kind hk hc Y fin U) hd
def YT{i j pos}:PE X (.Constant (.int i) j pos) (tC (.int i)):=λ_ _ _ H _ I h=>wpAny_Constant_int ⟨.int i,H,I.tok _,⟨_,rfl⟩,h⟩
def e7h{b j pos}:PE X (.Constant (.bool b) j pos) (tC (.bl b)):=λ_ _ _ H _ I h=>Constant_bool ⟨.bl b,H,I,rfl,h⟩
def YU{j pos}:PE X (.Constant .none j pos) (tC .aI):=λ_ _ _ H _ I h=>Constant_none ⟨.aI,H,I,rfl,h⟩
def YV{x j pos}:PE X (.Constant (.str x) j pos) (tC (.str x)):=λ_ _ _ H _ I h=>Calls.Constant_str ⟨.str x,H,I.tok _,⟨_,rfl⟩,h⟩
def Gl(X:Cx)(x:Str):Prop:=X.env.kindOf x=some .globalImplicit
def zp{Q:ak->aB->Prop}(I:Inv X aa Z H s)(Y:Gl X x)(hm:X.mg x=some u)(h:Q u s)
  (hd:(x == ("__debug__":Str))=false:=by decide):wpAny (mX X) X.A (eval (.Name x J) X.env) Q E s:=
 Calls.Name_function_global I.ok.kind Y (Calls.loadGlobal_global (by rw[I.ok.glob];exact I.mod.glob.keeps I.bk) hm h) hd
def uy{Q:ak->aB->Prop}(I:Inv X aa Z H s)(U:Gl X x)(hm:X.mg x=none)(hv:bootBuiltins x=some u)(h:Q u s)
  (G:x≠"__name__":=by decide) (hd:(x == ("__debug__":Str))=false:=by decide):wpAny (mX X) X.A (eval (.Name x J) X.env) Q E s:=by
 obtain⟨mb,Y,V⟩:=I.mod.blt;exact Calls.Name_function_global I.ok.kind U (Calls.loadGlobal_builtin (by rw[I.ok.glob];exact I.mod.glob.keeps I.bk) hm (by rw[I.ok.blt];exact Y.keeps I.bk) ((V x G).trans hv) h) hd
def VU(Y:Gl X x)(hm:X.mg x=none)(hv:bootBuiltins x=some u)(r:RelV v u)(U:x≠"__name__":=by decide)(hd:(x == ("__debug__":Str))=false:=by decide):PE X (.Name x J) (tC v):=
 λ_ _ _ H _ I h=>uy I Y hm hv ⟨v,H,I,r,h⟩ U hd
variable{V:TE}
def K5(t u:TT):TT:=λZ H Q=>t Z H λc H1=>if c=true then u Z H1 Q else Q false H1
def tOr(t u:TT):TT:=λZ H Q=>t Z H λc H1=>if c=true then Q true H1 else u Z H1 Q
def K'(t:TT):TT:=λZ H Q=>t Z H λc H1=>Q (!c) H1
def VW(W:PT X a U):PW X (.BoolOp .And [a] J) U:=by
 intro B aa s Z H Q I h;refine isTrue_and (bO (W aa s Z H Q I h) λc s1 e=>?_)
 cases c with
 |true=>exact isTrue_and_nil e
 |false=>exact e
def YW(W:PT X a U):PW X (.BoolOp .Or [a] J) U:=by
 intro B aa s Z H Q I h;refine isTrue_or (bO (W aa s Z H Q I h) λc s1 e=>?_)
 cases c with
 |false=>exact isTrue_or_nil e
 |true=>exact e
def YX(F:PT X a U)(hb:PW X (.BoolOp .And (b::Y) J) G):PW X (.BoolOp .And (a::b::Y) J) (K5 U G):=by
 intro T aa s Z H Q I h;refine isTrue_and (bO (F aa s Z H _ I h) λc s1 P=>?_)
 obtain⟨H1,W,B⟩:=P;cases c with
 |true=>exact hb T aa s1 Z H1 Q W B
 |false=>exact⟨H1,W,B⟩
def e7i(F:PT X a U)(hb:PW X (.BoolOp .Or (b::Y) J) G):PW X (.BoolOp .Or (a::b::Y) J) (tOr U G):=by
 intro T aa s Z H Q I h;refine isTrue_or (bO (F aa s Z H _ I h) λc s1 P=>?_)
 obtain⟨H1,W,B⟩:=P;cases c with
 |true=>exact⟨H1,W,B⟩
 |false=>exact hb T aa s1 Z H1 Q W B
def YY(W:PT X a U):PT X (.UnaryOp .Not a J) (K' U):=by
 intro aa s Z H Q I h;exact isTrue_not (W aa s Z H (λc H1=>Q (!c) H1) I h)
def C_(V tb:TE):TE:=λZ H Q=>V Z H λx H1=>∃c,x=.bl c/\if c=true then tb Z H1 Q else Q (.bl false) H1
def Dj(V:TE):TE:=λZ H Q=>V Z H λx H1=>∃c,x=.bl c/\Q (.bl (!c)) H1
def x_{op}(h:PE X a t):PE X (.BoolOp op [a] J) t:=λaa s Z H Q I hw=>BoolOp_one (h aa s Z H Q I hw)
def YZ(F:PE X a V)(hb:PE X (.BoolOp .And (b::Y) J) tb):PE X (.BoolOp .And (a::b::Y) J) (C_ V tb):=by
 intro aa s Z H Q I h;refine BoolOp_and (bO (F aa s Z H _ I h) λv s1 P=>?_)
 obtain⟨x,H1,B,T,W⟩:=P;obtain⟨c,rfl,W⟩:=W;cases T;refine wpAny_truthy_bool ?_;cases c with
 |true=>exact hb aa s1 Z H1 Q B W
 |false=>exact⟨.bl false,H1,B,rfl,W⟩
def Y0(F:PE X a V):PE X (.UnaryOp .Not a J) (Dj V):=by
 intro aa s Z H Q I h;refine UnaryOp_ (bO (F aa s Z H _ I h) λv s1 P=>?_)
 obtain⟨x,H1,B,T,W⟩:=P;obtain⟨c,rfl,W⟩:=W;cases T;exact not_of (wpAny_truthy_bool ⟨.bl (!c),H1,B,rfl,W⟩)
def tIf(t:TT)(V tb:TE):TE:=λZ H Q=>t Z H λc H1=>if c=true then V Z H1 Q else tb Z H1 Q
def TX(hc:PT X c U)(F:PE X a V)(hb:PE X b tb):PE X (.IfExp c a b J) (tIf U V tb):=by
 intro aa s Z H Q I h;refine wpAny_IfExp (bO (hc aa s Z H _ I h) λd s1 P=>?_)
 obtain⟨H1,W,B⟩:=P;cases d with
 |true=>exact F aa s1 Z H1 Q W B
 |false=>exact hb aa s1 Z H1 Q W B
end
variable{x:Str}{u:ak}{aa:List (aj×Obj)}{Z:St}{H:Hp}{s:aB}{c i e o tg:Expr}{P:dq}{w:cL}{K:aP}
def c7(K:aP)(H:Hp)(a:aj)(xs:List V):Prop:=
 Rd H a (.lst xs)\/
  ∃(o:Obj) (aL:Array ak) (n:Nat),K.lookup a=some o/\o.cls=.type "list"/\o.dict=none/\o.data=.seq aL n/\aL.size<=sizeLine/\Vals xs aL.toList
def iE(K:aP)(H:Hp)(a:aj)(xs:List V):Prop:=
 Rd H a (.tup xs)\/
  ∃(o:Obj) (aL:Array ak) (n:Nat),K.lookup a=some o/\o.cls=.type "tuple"/\o.data=.seq aL n/\aL.size<=sizeLine/\Vals xs aL.toList
noncomputable def HA:ak->ai V
 |.none=>some .aI
 |.bool b=>some (.bl b)
 |.int i _=>some (.int i)
 |.str x _=>some (.str x)
 |.bytes b _=>some (.uE b)
 |.float b _=>some (.zM b)
 |.ref a=>some (.ref a)
 |.type n=>some (.ty n)
 |_=>none
def RelV.abs{x:V}(r:RelV x u):HA u=some x:=by
 cases x with
 |aI=>cases r;rfl
 |bl _=>cases r;rfl
 |int _=>obtain⟨t,rfl⟩:=r;rfl
 |str _=>obtain⟨t,rfl⟩:=r;rfl
 |uE _=>obtain⟨t,rfl⟩:=r;rfl
 |zM _=>obtain⟨t,rfl⟩:=r;rfl
 |ref _=>cases r;rfl
 |ty _=>cases r;rfl
theorem RelV.inj{x y:V}(r:RelV x u)(q:RelV y u):x=y:=Option.some.inj (r.abs.symm.trans q.abs)
theorem Vals.inj(h:Vals xs us)(h':Vals ys us):xs=ys:=by
 induction h generalizing ys with
 |nil=>cases h';rfl
 |cons r t J=>
  cases h' with
  |cons Y t'=>rw[r.inj Y,J t']
section
variable{X:Cx}{aa:List (aj×Obj)}{Z:St}{H:Hp}{s:aB}
def Inv.list(I:Inv X aa Z H s)(h:c7 X.K H a xs):∃aL:List ak,Vals xs aL/\PlainL s.heap a aL.toArray/\xs.length<=sizeLine:=by
 rcases h with h|⟨o,aL,n,hk,hc,hd,hs,hz,r⟩
 .obtain⟨z,aL,n,r,e⟩:=h.ok I.bN;exact⟨aL,r,⟨_,n,e,rfl,rfl,rfl⟩,z⟩
 .refine⟨aL.toList,r,⟨o,n,I.jN a o hk,hc,hd,by simpa using hs⟩,?_⟩
  have e:=r.length
  simp_all
def Inv.tuple(I:Inv X aa Z H s)(h:iE X.K H a xs):∃aL:List ak,Vals xs aL/\IsTup s.heap a aL.toArray/\xs.length<=sizeLine:=by
 rcases h with h|⟨o,aL,n,hk,hc,hs,hz,r⟩
 .obtain⟨z,aL,r,p⟩:=h.ok I.bN;exact⟨aL,r,p,z⟩
 .refine⟨aL.toList,r,⟨o,I.jN a o hk,hc,n,by simpa using hs⟩,?_⟩
  have e:=r.length;simp only[Gj] at e;lia
def Inv.kq(I:Inv X aa Z H s)(h:c7 X.K H a xs)(h':c7 X.K H a ys):xs=ys:=by
 obtain⟨aL,r,⟨o,n,e,_,_,d⟩,_⟩:=I.list h;obtain⟨its',Y,⟨o',V,J,_,_,d'⟩,_⟩:=I.list h';rw[e] at J;cases J;rw[d] at d';injection d' with d1 _;have:aL=its':=by simpa using congrArg Array.toList d1
 subst this;exact r.inj Y
def Inv.lj(I:Inv X aa Z H s)(h:iE X.K H a xs)(h':iE X.K H a ys):xs=ys:=by
 obtain⟨aL,r,⟨o,e,_,n,d⟩,_⟩:=I.tuple h;obtain⟨its',Y,⟨o',J,_,V,d'⟩,_⟩:=I.tuple h';rw[e] at J;cases J;rw[d] at d';injection d' with d1 _;have:aL=its':=by simpa using congrArg Array.toList d1
 subst this;exact r.inj Y
end
section
variable{X:Cx}{st:Stmt}{u:TS}{e:Expr}
def Di:TS:=λD Z H=>D.nx Z H
def Lb(t u:TS):TS:=λD Z H=>t { D with nx:=u D} Z H
def oI:iM X [] Di:=λ_ _ Z H _ I h=>wpAny_execs_nil ⟨Z,H,I,h⟩
def TY(G:PS X st t)(W:iM X J u):iM X (st::J) (Lb t u):=by
 intro aa s Z H D I h;refine wpAny_execs_cons (bO (G aa s Z H { D with nx:=u D} I h) λf s1 q=>?_)
 cases f with
 |next=>
  obtain⟨U,H',V,q⟩:=q;exact W aa s1 U H' D V q
 |ret v=>exact q
 |brk=>exact q
 |cont=>exact q
def Inv.quiet(I:Inv X aa Z H s):interactive X.env=false:=by simp[interactive,I.ok.kind]
def Dh(Y:TE):TS:=λD Z H=>Y Z H λ_ H1=>D.nx Z H1
def VX(U:PE X e Y)(G:swapsWith e none Q.line X.env=pure false:=by rfl):PS X (.Expr e Q) (Dh Y):=by
 intro aa s Z H D I h;exact wpAny_Expr_any (bO (U aa s Z H _ I h) λv s1 ⟨x,H1,V,B,W⟩=>⟨Z,H1,V,W⟩) I.quiet G
def La(Y:TE):TS:=λD Z H=>Y Z H D.rt
def Y1(U:PE X e Y):PS X (.Return (some e) Q) (La Y):=by
 intro aa s Z H D I h;exact wpAny_Return_some (bO (U aa s Z H _ I h) λv s1 ⟨x,H1,V,W,G⟩=>⟨x,Z,H1,V,W,G⟩)
def K9(c:TT)(t u:TS):TS:=λD Z H=>c Z H λb H1=>if b=true then t D Z H1 else u D Z H1
def e7j(hc:PT X c tc)(G:iM X a t)(hb:iM X b u):PS X (.If c a b Q) (K9 tc t u):=by
 intro aa s Z H D I h;refine wpAny_If (bO (hc aa s Z H _ I h) λd s1 W=>?_)
 obtain⟨H1,V,U⟩:=W;cases d with
 |true=>exact G aa s1 Z H1 D V U
 |false=>exact hb aa s1 Z H1 D V U
end
abbrev TG:=V->St->Hp->(St->Hp->Prop)->Prop
abbrev rE:=List V->St->Hp->(St->Hp->Prop)->Prop
def PG(X:Cx)(J:Expr)(t:TG):Prop:=
 ∀(aa:List (aj×Obj)) (s:aB) (Z:St) (H:Hp) (v:V) (u:ak) (Q:St->Hp->Prop),Inv X aa Z H s->RelV v u->t v Z H Q->
  wpAny (mX X) X.A (assign J X.env u) (λ_ s'=>∃Y H',Inv X aa Y H' s'/\Q Y H') X.xe s
def AA(X:Cx)(Y:List Expr)(t:rE):Prop:=
 ∀(aa:List (aj×Obj)) (s:aB) (Z:St) (H:Hp) (vs:List V) (us:List ak) (Q:St->Hp->Prop),Inv X aa Z H s->Vals vs us->t vs Z H Q->
  wpAny (mX X) X.A (assignInOrder ((assignEach Y X.env).map (·.2)) us) (λ_ s'=>∃J H',Inv X aa J H' s'/\Q J H') X.xe s
abbrev o7:=V->V->V->Hp->(Hp->Prop)->Prop
def sx(X:Cx)(t:o7):Prop:=
 ∀(aa:List (aj×Obj)) (s:aB) (Z:St) (H:Hp) (o i v:V) (Y J u:ak) (Q:Hp->Prop),Inv X aa Z H s->RelV o Y->RelV i J->RelV v u->t o i v H Q->
  wpAny (mX X) X.A (setItem Y J u) (λ_ s'=>∃H',Inv X aa Z H' s'/\Q H') X.xe s
abbrev DO:=V->V->Hp->VK->Prop
def DM(X:Cx)(J:Operator)(t:DO):Prop:=
 ∀(aa:List (aj×Obj)) (s:aB) (Z:St) (H:Hp) (x y:V) (v u:ak) (Q:VK),Inv X aa Z H s->RelV x v->RelV y u->t x y H Q->
  wpAny (mX X) X.A (inplaceOp J v u) (EP X aa Z Q) X.xe s
section
variable{X:Cx}
def oq(i:Nat):TG:=λv Z H Q=>Q (Z.set i (some v)) H
def VY{i:Nat}(hN:X.N.Nodup)(hi:X.N[i]?=some x)(V:Loc X.env.scope x)(hf:X.fn x=true\/X.env.scope.names.lookup x=some .local := by first|exact .inl rfl|exact .inr rfl|assumption):PG X (.Name x J) (oq i):=by
 intro aa s Z H v u Q I r h;exact wpAny_assign_Name (MV I hN hi V r (λs' Y=>⟨_,H,Y,h⟩) hf)
def BY:rE:=λvs Z H Q=>vs=[]/\Q Z H
def uI(t:TG)(u:rE):rE:=λvs Z H Q=>∃v r,vs=v::r/\t v Z H λY H'=>u r Y H' Q
def tP:AA X [] BY:=by
 intro aa s Z H vs us Q I r h;obtain⟨e,h⟩:=h;subst e;cases r;exact assignInOrder_nil ⟨Z,H,I,h⟩
def qV{u:rE}(U:PG X e t)(G:AA X es u)
  (B:(assignEach (e::es) X.env).map (·.2)=assign e X.env::(assignEach es X.env).map (·.2):=by rfl):AA X (e::es) (uI t u):=by
 intro aa s Z H vs us Q I r h;obtain⟨v,T,e1,h⟩:=h;subst e1;cases r with
 |cons r rr=>
  rw[B];refine assignInOrder_cons (bO (U aa s Z H _ _ _ I r h) λ_ s1 W=>?_)
  obtain⟨V,H1,Y,F⟩:=W;exact G aa s1 V H1 _ _ Q Y rr F
def w6(K:aP)(n:Nat)(t:rE):TG:=λv Z H Q=>∃a xs,v=.ref a/\iE K H a xs/\xs.length=n/\t xs Z H Q
def Y2(hc:X.calm=true)(h:AA X es t)
  (V:(assignEach es X.env).length=n:=by rfl) (W:(assignEach es X.env).findIdx? (·.1)=none:=by rfl):PG X (.Tuple es k J) (w6 X.K n t):=by
 intro aa s Z H v u Q I r hw;refine kY λB=>?_
 obtain⟨a,xs,e1,U,hl,hw⟩:=hw;subst e1;cases r;obtain⟨aL,rv,ht,hz⟩:=I.tuple U;refine B ?_;refine assign_Tuple_tuple (I.ok.hd hc) ht (by simp[V,<-hl,rv.length]) W λh' G=>?_
 have Y:Inv X aa Z H { s with heap:=h'}:=I.kept (t':=s.toks) λb o e=>G b o (g_ (cV e)) e
 exact h aa _ Z H xs _ Q Y (by simpa using rv) hw
def Jt(to ti:TE)(t:o7):TG:=λv Z H Q=>to Z H λo H1=>ti Z H1 λi Y=>t o i v Y λV=>Q Z V
def Y3(ho:PE X o to)(hi:PE X i ti)(R:sx X t)
  (S:∀v,assign (.Subscript o i J) X.env v=(do
   let Y <-holding [v] (eval o X.env)
   let U <-holding [v,Y] (eval i X.env)
   standAt J
   holding [v,Y,U] (setItem Y U v)
   release [v,Y,U] []):=by intro _;rfl):PG X (.Subscript o i J) (Jt to ti t):=by
 intro aa s Z H v u Q I r h;rw[S];refine aK (kA (bO (ho aa s Z H _ I h) λY s1 V=>?_))
 obtain⟨x,H1,B,D,L⟩:=V;refine aK (kA (bO (hi aa s1 Z H1 _ B L) λU s2 V=>?_))
 obtain⟨y,G,F,O,N⟩:=V;refine aK (wpAny_standAt (aK (kA (bO (R aa s2 Z G x y v Y U u _ F D O r N) λ_ s3 V=>?_))))
 obtain⟨W,T,C⟩:=V;exact wpAny_release ⟨Z,W,T,C⟩
def Dc(te:TE)(g:TG):TS:=λD Z H=>te Z H λx H1=>g x Z H1 D.nx
def Y4(U:PE X e te)(G:PG X tg g)(B:swapsWithSole [tg] e J.line X.env=pure false:=by rfl)(hw:swappedStores [tg] e X.env=pure none:=by rfl)
  (V:(assignEach [tg] X.env).map (·.2)=[assign tg X.env]:=by rfl):PS X (.Assign [tg] e J) (Dc te g):=by
 intro aa s Z H D I h;refine wpAny_Assign_stores (bO (U aa s Z H _ I h) λv s1 W=>?_) B hw
 obtain⟨x,H1,Y,T,F⟩:=W;rw[V];exact bO (G aa s1 Z H1 x v _ Y T F) λ_ s2 q=>q
def Y5{i:Nat}(hN:X.N.Nodup)(hi:X.N[i]?=some x)(F:Loc X.env.scope x)(G:PE X e te)(B:swapsWith e (some (.Name x Y)) J.line X.env=pure false:=by rfl)(hf:X.fn x=true\/X.env.scope.names.lookup x=some .local := by first|exact .inl rfl|exact .inr rfl|assumption):
  PS X (.Assign [.Name x Y] e J) (Dc te (oq i)):=by
 intro aa s Z H D I h;refine wpAny_Assign_Name (bO (G aa s Z H _ I h) λv s1 W=>?_) B
 obtain⟨y,H1,V,S,T⟩:=W;exact MV V hN hi F S (λs2 U=>⟨_,H1,U,T⟩) hf
def Dd(to ti te:TE)(T:V->V->Hp->VK->Prop)(Ga:DO)(F:o7):TS:=λD Z H=>to Z H λo H1=>ti Z H1 λi Y=>T o i Y λx U=>te Z U λy G=>Ga x y G λz W=>F o i z W λB=>D.nx Z B
def Az(X:Cx)(t:V->V->Hp->VK->Prop):Prop:=
 ∀(aa:List (aj×Obj)) (s:aB) (Z:St) (H:Hp) (o i:V) (U Y:ak) (Q:VK),Inv X aa Z H s->RelV o U->RelV i Y->t o i H Q->
  wpAny (mX X) X.A (getItem U Y) (EP X aa Z Q) X.xe s
def VZ(ho:PE X o to)(hi:PE X i ti)(t:Az X S)(m:PE X e te)(hp:DM X W Ga)(r:sx X T)
  (b:∀G U new,augStore i G U new=(do holding [new,G,U] (setItem G U new);release [new,G,U] [];pure .next):=by intros;rfl):PS X (.AugAssign (.Subscript o i f) W e J) (Dd to ti te S Ga T):=by
 intro aa s Z H D I h;refine wpAny_AugAssign_SubscriptAny (bO (ho aa s Z H _ I h) λG s1 Y=>?_) b
 obtain⟨R,H1,y,B,l⟩:=Y;refine bO (hi aa s1 Z H1 _ y l) λU s2 Y=>?_
 obtain⟨L,N,z,F,n⟩:=Y;refine bO (t aa s2 Z N R L G U _ z B F n) λold s3 Y=>?_
 obtain⟨x3,C,g,r3,a⟩:=Y;refine bO (m aa s3 Z C _ g a) λv s4 Y=>?_
 obtain⟨x4,O,k,r4,q4⟩:=Y;refine bO (hp aa s4 Z O x3 x4 old v _ k r3 r4 q4) λnew s5 Y=>?_
 obtain⟨x5,j,p,r5,q5⟩:=Y;exact bO (r aa s5 Z j R L x5 G U new _ p B F r5 q5) λ_ s6 ⟨q,d,q6⟩=>⟨Z,q,d,q6⟩
def J'(f:Int->Int->Int):DO:=λx y H Q=>∃i j,x=.int i/\y=.int j/\Q (.int (f i j)) H
def xA:DM X .Add (J' λi j=>i+j):=by
 intro aa s Z H x y v u Q I Y V h;obtain⟨i,j,e1,e2,q⟩:=h;subst e1;subst e2;obtain⟨t,rfl⟩:=Y;obtain⟨t',rfl⟩:=V;exact iadd_int ⟨.int _,H,I.tok _,⟨_,rfl⟩,q⟩
def Y6(c:TT)(tb:TS):TS:=λD Z H=>∃W:Nat->St->Hp->Prop,(∃m,W m Z H)/\∀m Z H,W m Z H->
 c Z H λb H1=>if b=true then ∃N:St->Hp->Prop,(∀Y H',N Y H'->∃V,V<m/\W V Y H')/\tb { D with nx:=N,ct:=N,bk:=D.nx} Z H1 else D.nx Z H1
def TZ(hp:PassesOwn (mX X) X.A X.env X.xe)(hc:PT X c tc)(hb:iM X body tb):PS X (.While c body [] J) (Y6 tc tb):=by
 intro aa s Z H D I h;obtain⟨W,⟨y,z⟩,turn⟩:=h;refine wpAny_While (codeAny_whileLoop (λn s'=>∃O H',Inv X aa O H' s'/\W n O H') ?_ y ⟨Z,H,I,z⟩)
 rintro n s1 ⟨U,H1,j,g⟩;refine wpAny_passesOwn hp (bO (hc aa s1 U H1 _ j (turn n U H1 g)) λb s2 q=>?_)
 obtain⟨L,C,G⟩:=q;cases b with
 |true=>
  obtain⟨N,hN,G⟩:=G;rw[bJ rfl];refine wpAny_passesOwn hp (bO (hb aa s2 U L _ C G) λf s3 B=>?_)
  cases f with
  |next=>
   obtain⟨V,Y,F,S⟩:=B;obtain⟨T,hm,R⟩:=hN V Y S;exact⟨T,hm,V,Y,F,R⟩
  |cont=>
   obtain⟨V,Y,F,S⟩:=B;obtain⟨T,hm,R⟩:=hN V Y S;exact⟨T,hm,V,Y,F,R⟩
  |brk=>exact B
  |ret v=>exact B
 |false=>
  rw[bq pQ];exact wpAny_execs_nil ⟨U,L,C,G⟩
end
set_option genInjectivity false in
structure It where
 go:Nat->Hp->Prop
 rB:Nat->Hp->V->Hp->Prop
 stop:Nat->Hp->Prop
def ji(X:Cx)(aa:List (aj×Obj))(H:Hp)(b:aj):Prop:=
 H b=none/\b≠X.env.locals/\b∉X.fs/\(b∈X.ex\/X.s₀.heap.objs.size<=b)/\(∀x c,X.env.cells.lookup x=some c->c≠b)/\∀p∈X.pn++aa,p.1≠b
def Inv.kc(I:Inv X aa Z H s)(hb:s.heap.objs.size<=b)(J:H' b=none):ji X aa H' b:=by
 refine⟨J,vB (gq I.lt hb),I.xS hb,.inr (jy I.sz hb),λx c e z=>?_,λp hp z=>?_⟩
 .obtain⟨v,q⟩:=I.cell x c e;exact cQ (gq q.lt (by rw[z];exact hb)) (jQ _)
 .exact cQ (gq (cV (I.pin p hp).1) (by rw[z];exact hb)) (jQ _)
structure Turn (P:dq) (w:cL) (K:aP) (tg:Expr) (J:It) (fp:List aj) (it:aj) (tn:Nat->bZ->Prop):Prop where
 mem:it∈fp
 obj:∀i h,tn i h->∀b∈fp,∃o,h.get? b=some o/\∀v,o.data≠.cell v
 keep:∀i h h',tn i h->(∀b∈fp,∀o,h.get? b=some o->h'.get? b=some o)->tn i h'
 item:∀(X:Cx),X.prog=P->X.w=w->X.K=K->X.calm=true->∀(i:Nat) (aa:List (aj×Obj)) (s:aB) (Z:St) (H:Hp) (E:ak->aB->Prop),Inv X aa Z H s->(∀b∈fp,ji X aa H b)->tn i s.heap->J.go i H->
  wpAny (model P w) X.A (pyNext (.ref it)) (λr s1=>∃u,r=some u/\ wpAny (model P w) X.A (letOwnedTupleGo tg (.ref it) u) (λ_ s2=>∃x H',Inv X aa Z H' s2/\RelV x u/\J.rB i H x H'/\tn (i+1) s2.heap/\∀b∈fp,H' b=none) E s1) E s
 done:∀(X:Cx),X.prog=P->X.w=w->X.K=K->X.calm=true->∀(i:Nat) (aa:List (aj×Obj)) (s:aB) (Z:St) (H:Hp) (E:ak->aB->Prop),Inv X aa Z H s->(∀b∈fp,ji X aa H b)->tn i s.heap->J.stop i H->
  wpAny (model P w) X.A (pyNext (.ref it)) (λr s1=>r=none/\Inv X aa Z H s1) E s
 self:∀(A:cW) (i:Nat) (s:aB) (Q:ak->aB->Prop) (E:ak->aB->Prop),tn i s.heap->Q (.ref it) s->wpAny (model P w) A (pyIter (.ref it)) Q E s
abbrev TI:=St->Hp->(It->Hp->Prop)->Prop
def G1(X:Cx)(aa:List (aj×Obj))(Z:St)(tg:Expr)(R:It->Hp->Prop)(Y:ak)(s2:aB):Prop:=
 ∃(it:aj) (fp:List aj) (tn:Nat->bZ->Prop) (J:It) (H':Hp),Y=.ref it/\Inv X aa Z H' s2/\Turn X.prog X.w X.K tg J fp it tn/\tn 0 s2.heap/\(∀b∈fp,ji X aa H' b)/\R J H'
def PI(X:Cx)(tg J:Expr)(Y:TI):Prop:=
 ∀(aa:List (aj×Obj)) (s:aB) (Z:St) (H:Hp) (R:It->Hp->Prop),Inv X aa Z H s->Y Z H R->
  wpAny (mX X) X.A (eval J X.env) (λv s1=>wpAny (mX X) X.A (pyIter v) (G1 X aa Z tg R) X.xe s1) X.xe s
def uD{o:Obj}(ho:s.heap.get? it=some o)(hc:o.cls=.type n)(hd:o.data=.fields vs)
  (Y:["enumerate","zip","dict_itemiterator","dict_reverseitemiterator","odict_iterator","itertools.zip_longest","itertools.pairwise"].contains n=false) (J:Q () s):wpAny M A (letOwnedTupleGo tg (.ref it) u) Q E s:=by
 unfold letOwnedTupleGo;cases tg <;> first
  |exact bw J
  |(cases u <;> first
    |exact bw J
    |(refine aK (wpAny_load ho ?_)
      rw[hc,hd];show wpAny M A (if(["enumerate","zip","dict_itemiterator","dict_reverseitemiterator","odict_iterator","itertools.zip_longest","itertools.pairwise"].contains n&&vs[0]? == some (rawInt _))=true then _ else _) Q E s
      rw[bq (by intro h;rw[Y,Bool.false_and] at h;cases h)]
      exact bw J))
def GV(K:aP)(a:aj):It:=
 ⟨λi H=>∃xs x,c7 K H a xs/\xs[i]?=some x,λi H x H'=>H'=H/\∀xs,c7 K H a xs->xs[i]?=some x,λi H=>∃xs,c7 K H a xs/\xs.length<=i⟩
def GW(K:aP)(a:aj):It:=
 ⟨λi H=>∃xs x,iE K H a xs/\xs[i]?=some x,λi H x H'=>H'=H/\∀xs,iE K H a xs->xs[i]?=some x,λi H=>∃xs,iE K H a xs/\xs.length<=i⟩
def DJ(lo:Int)(n:Nat):It:=⟨λi _=>i<n,λi H x H'=>H'=H/\x=.int (lo+i),λi _=>n<=i⟩
def Sj(a it:aj):Turn P w K tg (GV K a) [it] it (λi h=>h.IsListIter it a i) where
 mem:=by simp
 obj:=λi h st b hb=>by
  have e:b=it:=by simpa using hb
  subst e;obtain⟨o,e,c,d⟩:=st;exact⟨o,e,λv z=>by rw[d] at z;cases z⟩
 keep:=λi h h' st k=>st.at λo e=>k it (by simp) o e
 item:=by
  intro X F hw B hc i aa s Z H E I hf st T;subst F hw B;refine kY λR=>?_
  obtain⟨xs,x,J,S⟩:=T;obtain⟨aL,rv,p,hz⟩:=I.list J;obtain⟨u,O,q⟩:=rv.get S;obtain⟨Y,V,D,U,G,W⟩:=hf it (by simp)
  refine R ?_;refine wpAny_pyNext_list_item st p.isList (x:=u) (by simpa using O) λh' L y=>?_
  have N:Inv X aa Z H { s with heap:=h'}:=I.turned (t':=s.toks) (λb o hb e=>(y.2 b hb).trans e) Y V U G W
  obtain⟨o,e,c,d⟩:=id L;exact⟨u,rfl,uD (s:={ s with heap:=h'}) e c d (by decide) ⟨x,H,N,q,⟨rfl,λys j=>by rw[I.kq j J];exact S⟩,L,λb hb=>(hf b hb).1⟩⟩
 done:=by
  intro X F hw B hc i aa s Z H E I hf st T;subst F hw B;refine kY λR=>?_
  obtain⟨xs,J,S⟩:=T;obtain⟨aL,rv,p,hz⟩:=I.list J;obtain⟨Y,V,D,U,G,W⟩:=hf it (by simp)
  have hl:=rv.length;refine R ?_;exact wpAny_pyNext_list_end (I.ok.hd hc) st p.isList (by simp;lia) λh' C=>⟨rfl,I.turned (t':=s.toks) (λb o hb e=>C b o hb e) Y V U G W⟩
 self:=λ_ _ _ _ _ st h=>wpAny_pyIter_listiter st h
def Ry(a it:aj):Turn P w K tg (GW K a) [it] it (λi h=>h.IsTupleIter it a i) where
 mem:=by simp
 obj:=λi h st b hb=>by
  have e:b=it:=by simpa using hb
  subst e;obtain⟨o,e,c,d⟩:=st;exact⟨o,e,λv z=>by rw[d] at z;cases z⟩
 keep:=λi h h' st k=>st.at λo e=>k it (by simp) o e
 item:=by
  intro X F hw B hc i aa s Z H E I hf st T;subst F hw B;refine kY λR=>?_
  obtain⟨xs,x,J,S⟩:=T;obtain⟨aL,rv,p,hz⟩:=I.tuple J;obtain⟨u,O,q⟩:=rv.get S;obtain⟨Y,V,D,U,G,W⟩:=hf it (by simp)
  refine R ?_;refine wpAny_pyNext_tuple_item st (show s.heap.IsTuple a aL.toArray from p) (x:=u) (by simpa using O) λh' L y=>?_
  have N:Inv X aa Z H { s with heap:=h'}:=I.turned (t':=s.toks) (λb o hb e=>(y.2 b hb).trans e) Y V U G W
  obtain⟨o,e,c,d⟩:=id L;exact⟨u,rfl,uD (s:={ s with heap:=h'}) e c d (by decide) ⟨x,H,N,q,⟨rfl,λys j=>by rw[I.lj j J];exact S⟩,L,λb hb=>(hf b hb).1⟩⟩
 done:=by
  intro X F hw B hc i aa s Z H E I hf st T;subst F hw B;refine kY λR=>?_
  obtain⟨xs,J,S⟩:=T;obtain⟨aL,rv,p,hz⟩:=I.tuple J;obtain⟨Y,V,D,U,G,W⟩:=hf it (by simp)
  have hl:=rv.length;refine R ?_;exact wpAny_pyNext_tuple_end (I.ok.hd hc) st (show s.heap.IsTuple a aL.toArray from p) (by simp;lia) λh' C=>⟨rfl,I.turned (t':=s.toks) (λb o hb e=>C b o hb e) Y V U G W⟩
 self:=λ_ _ _ _ _ st h=>wpAny_pyIter_tupleiter st h
def Rz(it:aj)(lo:Int)(n:Nat):Turn P w K tg (DJ lo n) [it] it (λi h=>IsRangeIter h it (lo+(i:Nat)*1) ((n:Int) - (i:Nat)) 1) where
 mem:=by simp
 obj:=λi h st b hb=>by
  have e:b=it:=by simpa using hb
  subst e;exact⟨_,st,λv z=>by
   have D:Data.fields _=Data.cell v:=z;cases D⟩
 keep:=λi h h' st k=>k it (by simp) _ st
 item:=by
  intro X F hw B hc i aa s Z H E I hf st T;subst F hw B;obtain⟨J,Y,N,V,U,G⟩:=hf it (by simp)
  have W:=Walks.range (prog:=X.prog) (w:=X.w) (I.ok.hd hc) it lo 1 n;refine W.item i s _ _ T st λv h' tk hv S C=>?_
  obtain⟨t,rfl⟩:=hv;have R:Inv X aa Z H { s with heap:=h',toks:=tk}:=I.turned (λb o hb e=>C b o (by simpa using hb) e) J Y V U G
  refine⟨_,rfl,uD (s:={ s with heap:=h',toks:=tk}) (n:="range_iterator") S rfl rfl (by decide) ⟨.int (lo+i),H,R,⟨t,?_⟩,⟨rfl,rfl⟩,S,λb hb=>(hf b hb).1⟩⟩
  rw[Int.mul_one]
 done:=by
  intro X F hw B hc i aa s Z H E I hf st T;subst F hw B;obtain⟨J,Y,N,V,U,G⟩:=hf it (by simp)
  exact wpAny_pyNext_range_end (I.ok.hd hc) st (by have:n<=i:=T;lia) λh' L=>⟨rfl,I.turned (t':=s.toks) (λb o hb e=>L b o hb e) J Y V U G⟩
 self:=λ_ _ _ _ _ st h=>wpAny_pyIter_rangeiter st h
section
variable{X:Cx}{tg:Expr}
def uQ(K:aP)(J:TE):TI:=λZ H R=>J Z H λx H1=>∃a,x=.ref a/\(∃xs,c7 K H1 a xs)/\R (GV K a) H1
def Cy(K:aP)(J:TE):TI:=λZ H R=>J Z H λx H1=>∃a,x=.ref a/\(∃xs,iE K H1 a xs)/\R (GW K a) H1
def V0(hl:PE X l Y):PI X tg l (uQ X.K Y):=by
 intro aa s Z H R I h;refine bO (hl aa s Z H _ I h) λv s1 V=>?_
 obtain⟨x,H1,J,W,G⟩:=V;obtain⟨a,e,⟨xs,U⟩,q⟩:=G;subst e;cases W;obtain⟨aL,rv,p,hz⟩:=J.list U;refine wpAny_pyIter_list p.isList ?_;refine⟨s1.heap.objs.size,[s1.heap.objs.size],_,_,H1,rfl,J.kept (t':=s1.toks) λb o e=>c8 _ e,Sj a _,⟨_,jb _ rfl,rfl,rfl⟩,λb hb=>?_,q⟩
 have e:b=s1.heap.objs.size:=by simpa using hb
 subst e;exact J.kc (bU _) (J.bN.fresh (bU _))
def Y7(hl:PE X l Y):PI X tg l (Cy X.K Y):=by
 intro aa s Z H R I h;refine bO (hl aa s Z H _ I h) λv s1 V=>?_
 obtain⟨x,H1,J,W,G⟩:=V;obtain⟨a,e,⟨xs,U⟩,q⟩:=G;subst e;cases W;obtain⟨aL,rv,p,hz⟩:=J.tuple U;refine wpAny_pyIter_tuple (show s1.heap.IsTuple a aL.toArray from p) ?_;refine⟨s1.heap.objs.size,[s1.heap.objs.size],_,_,H1,rfl,J.kept (t':=s1.toks) λb o e=>c8 _ e,Ry a _,⟨_,jb _ rfl,rfl,rfl⟩,λb hb=>?_,q⟩
 have e:b=s1.heap.objs.size:=by simpa using hb
 subst e;exact J.kc (bU _) (J.bN.fresh (bU _))
def T1{lo hi:Int}{t u v:Tok}(I:Inv X aa Z H s)(Y:-(2^62)<=lo)(V:lo<2^62)(U:-(2^62)<=hi)(G:hi<2^62)
  (q:R (DJ lo (hi - lo).toNat) H):wpAny (mX X) X.A (pyIter (.ref s.heap.objs.size)) (G1 X aa Z tg R) E { s with heap:=s.heap.push { cls:=.type "range",data:=.fields #[.int lo t,.int hi u,.int 1 v]},toks:=tk}:=by
 refine wpAny_pyIter_range (IsRange.new ..) (small_one Y V U G) ?_;have J:Inv X aa Z H { s with heap:=s.heap.push { cls:=.type "range",data:=.fields #[.int lo t,.int hi u,.int 1 v]},toks:=tk}:=I.kept λb o e=>c8 _ e
 refine⟨(s.heap.push { cls:=.type "range",data:=.fields #[.int lo t,.int hi u,.int 1 v]}).objs.size,[(s.heap.push { cls:=.type "range",data:=.fields #[.int lo t,.int hi u,.int 1 v]}).objs.size],_,_,H,rfl,J.kept (t':=tk) λb o e=>c8 _ e,Rz _ lo (hi - lo).toNat,?_,λb hb=>?_,q⟩
 .have e1:lo+((0:Nat):Int)*1=lo:=by simp
  have e2:(((hi - lo).toNat:Nat):Int) - ((0:Nat):Int)=Builtin.Range.rangeSize lo hi 1:=by rw[rangeSize_one];split <;> lia
  show IsRangeIter _ _ (lo+((0:Nat):Int)*1) ((((hi - lo).toNat:Nat):Int) - ((0:Nat):Int)) 1;rw[e1,e2];exact jb _ rfl
 .have e:b=(s.heap.push { cls:=.type "range",data:=.fields #[.int lo t,.int hi u,.int 1 v]}).objs.size:=by simpa using hb
  subst e;exact J.kc (bU _) (J.bN.fresh (bU _))
def uR(J:TA):TI:=λZ H R=>J Z H λvs H1=>∃j:Int,vs=[.int j] /\ -(2^62)<=j/\j<2^62/\R (DJ 0 j.toNat) H1
def Sk{V:TA}(W:Gl X "range")(hm:X.mg "range"=none)(G:PA X [a] V)(F:starEach [a] X.env=[(false,eval a X.env)]:=by rfl):PI X tg (.Call (.Name "range" p) [a] [] J) (uR V):=by
 intro aa s Z H R I h;refine Call_ (uy I W hm boot_range (PyProof.Rows.callWith_type1 (bO (G J aa s Z H _ I h) λus s1 B=>?_) F rfl))
 obtain⟨vs,H1,U,S,Y⟩:=B;obtain⟨j,e,Y,T,q⟩:=Y;subst e;cases S with
 |cons r rr=>
  cases rr;obtain⟨t,rfl⟩:=r;exact call_range_1 (T1 U (by lia) (by lia) Y T (by simpa using q))
def K8(B:TI)(g:TG)(tb:TS):TS:=λD Z H=>B Z H λJ H1=>∃W:Nat->Nat->St->Hp->Prop,(∃m,W 0 m Z H1)/\∀i m Z H,W i m Z H->
 (J.stop i H/\D.nx Z H)\/(J.go i H/\∃N:St->Hp->Prop,(∀Y H',N Y H'->∃V,V<m/\W (i+1) V Y H')/\∀x H',J.rB i H x H'->g x Z H' λG U=>tb { D with nx:=N,ct:=N,bk:=D.nx} G U)
noncomputable def Bq(fp:List aj)(h:bZ):List (aj×Obj):=fp.filterMap λb=>(h.get? b).map λo=>(b,o)
def AU{o:Obj}(hb:b∈fp)(e:h.get? b=some o):(b,o)∈Bq fp h:=ue.mpr ⟨b,hb,by rw[e];rfl⟩
def Sl(hp:p∈Bq fp h):p.1∈fp/\h.get? p.1=some p.2:=by
 obtain⟨b,hb,e⟩:=ue.mp hp;cases q:h.get? b with
 |none=>rw[q] at e;cases e
 |some o=>
  rw[q] at e;have J:(b,o)=p:=Option.some.inj e;subst J;exact⟨hb,q⟩
def Inv.pinned(I:Inv X aa Z H s)(hf:∀b∈fp,ji X aa H b)(ho:∀b∈fp,∃o,s.heap.get? b=some o/\∀v,o.data≠.cell v):Inv X (aa++Bq fp s.heap) Z H s:=
 I.jO λp hp=>(iC.mp hp).elim (λz=>I.pin p (ng _ z)) λz=>by
  obtain⟨hb,e⟩:=Sl z;obtain⟨Y,V,U,_⟩:=hf p.1 hb;obtain⟨o,J,d⟩:=ho p.1 hb;rw[e] at J;cases J;exact⟨e,Y,V,U,d⟩
def Inv.fq(I:Inv X (aa++pl) Z H s):Inv X aa Z H s:=I.jO λp hp=>I.pin p (ng _ (Ag _ hp))
def OI(hp:PassesOwn (mX X) X.A X.env X.xe)(hc:X.calm=true)(hi:PI X tg G wi)(hg:PG X tg g)(hb:iM X body tb)
  (hs:∀x,foldedSetIterable G X.env x=pure x:=by intro _;rfl):PS X (.For tg G body [] y) (K8 wi g tb):=by
 intro aa s Z H D I h;refine wpAny_For (bO (hi aa s Z H _ I h) λv s1 h1=>bO h1 λFW s2 h2=>?_) hs
 refine kY λj=>?_
 obtain⟨it,fp,tn,J,H2,e,I2,T,iI,a,W,⟨m0,w0⟩,turn⟩:=h2;subst e;refine j ?_;have q:∀{H':Hp},(∀b∈fp,H' b=none)->∀b∈fp,ji X aa H' b:=λhn b hb=>⟨hn b hb,(a b hb).2⟩
 refine codeAny_forLoop_any (λn s'=>∃i F H',Inv X aa F H' s'/\tn i s'.heap/\(∀b∈fp,H' b=none)/\W i n F H') ?_ m0 ⟨0,Z,H2,I2,iI,λb hb=>(a b hb).1,w0⟩
 rintro n s3 ⟨i,S,L,p,l,t,w3⟩;rcases turn i n S L w3 with⟨stop,qn⟩|⟨go,N,hN,step⟩
 .refine wpAny_passesOwn hp (bO (T.done X rfl rfl rfl hc i aa s3 S L X.xe p (q t) l stop) λr s4 ⟨O,I4⟩=>?_)
  subst O;exact wpAny_execs_nil ⟨S,L,I4,qn⟩
 .refine wpAny_passesOwn hp (bO (T.item X rfl rfl rfl hc i aa s3 S L X.xe p (q t) l go) λr s4 ⟨u,O,h4⟩=>?_)
  subst O;refine wpAny_passesOwn hp (bO h4 λ_ s5 C=>?_)
  refine kY λj=>?_
  obtain⟨x,k,I5,r5,y5,gK,Jq⟩:=C;have GQ:=I5.pinned (q Jq) (T.obj _ _ gK);refine j ?_;refine wpAny_passesOwn hp (bO (hg _ s5 S k x u _ GQ r5 (step x k y5)) λ_ s6 C=>?_)
  obtain⟨Z6,H6,I6,q6⟩:=C;refine wpAny_passesOwn hp (bO (hb _ s6 Z6 H6 _ I6 q6) λf z B=>?_)
  have again:∀{U:St} {Y:Hp},Inv X (aa++Bq fp s5.heap) U Y z->N U Y->∃m,m<n/\∃i F H',Inv X aa F H' z/\tn i z.heap/\(∀b∈fp,H' b=none)/\W i m F H':=λ{U Y} V R=>by
   obtain⟨m',hm,w7⟩:=hN U Y R;refine⟨m',hm,i+1,U,Y,V.fq,T.keep _ _ _ gK λb hb o e=>(V.pin (b,o) (ng _ (ng _ (AU hb e)))).1,λb hb=>?_,w7⟩
   obtain⟨o,e,d⟩:=T.obj _ _ gK b hb;exact(V.pin (b,o) (ng _ (ng _ (AU hb e)))).2.1
  cases f with
  |next=>obtain⟨U,Y,V,R⟩:=B;exact again V R
  |cont=>obtain⟨U,Y,V,R⟩:=B;exact again V R
  |brk=>obtain⟨U,Y,V,B⟩:=B;exact⟨U,Y,V.fq,B⟩
  |ret v=>obtain⟨x7,U,Y,V,r7,B⟩:=B;exact⟨x7,U,Y,V.fq,r7,B⟩
end
variable{aa:List (aj×Obj)}{s:aB}{Z:St}{H:Hp}{f:ak->ak->Sem ak}{g:Int->Int->Int}{x:V}
abbrev R2:=V->V->Hp->VK->Prop
def dZ(X:Cx)(f:ak->ak->Sem ak)(r:R2):Prop:=
 ∀(aa:List (aj×Obj)) (s:aB) (Z:St) (H:Hp) (x y:V) (v u:ak) (Q:VK),Inv X aa Z H s->RelV x v->RelV y u->r x y H Q->
  wpAny (mX X) X.A (f v u) (EP X aa Z Q) X.xe s
def DP(X:Cx)(f:ak->Sem ak)(r:V->Hp->VK->Prop):Prop:=
 ∀(aa:List (aj×Obj)) (s:aB) (Z:St) (H:Hp) (x:V) (v:ak) (Q:VK),Inv X aa Z H s->RelV x v->r x H Q->
  wpAny (mX X) X.A (f v) (EP X aa Z Q) X.xe s
def bT(X:Cx)(f:ak)(r:List V->Hp->VK->Prop):Prop:=
 ∀(aa:List (aj×Obj)) (s:aB) (Z:St) (H:Hp) (xs:List V) (us:List ak) (Q:VK),Inv X aa Z H s->Vals xs us->r xs H Q->
  wpAny (mX X) X.A (call f us) (EP X aa Z Q) X.xe s
def G2(X:Cx)(r:V->Hp->(Bool->Hp->Prop)->Prop):Prop:=
 ∀(aa:List (aj×Obj)) (s:aB) (Z:St) (H:Hp) (x:V) (v:ak) (Q:Bool->Hp->Prop),Inv X aa Z H s->RelV x v->r x H Q->
  wpAny (mX X) X.A (truthy v) (TP X aa Z Q) X.xe s
def F_(r:R2)(Y tb:TE):TE:=λZ H Q=>Y Z H λx H1=>tb Z H1 λy J=>r x y J Q
def tUn(r:V->Hp->VK->Prop)(J:TE):TE:=λZ H Q=>J Z H λx H1=>r x H1 Q
def rI(C:Int->Int->Prop)(g:Int->Int->V):R2:=λx y H Q=>∃i j,x=.int i/\y=.int j/\C i j/\Q (g i j) H
def oK(g:Int->Int->V):R2:=λx y H Q=>∃i j,x=.int i/\y=.int j/\Q (g i j) H
def rU(g:Int->V):V->Hp->VK->Prop:=λx H Q=>∃i,x=.int i/\Q (g i) H
section
variable{X:Cx}{c:Expr}
def wy(T:PE X a J)(hb:PE X b tb){R:V->V->Hp->Prop}(I:Inv X aa Z H s)
  (h:J Z H λx H1=>tb Z H1 λy G=>R x y G) {Q:ak->aB->Prop} 
  (hf:∀v u s2 x y G,Inv X aa Z G s2->RelV x v->RelV y u->R x y G->wpAny (mX X) X.A (f v u) Q X.xe s2) :
  wpAny (mX X) X.A (eval a X.env) (λv D=>wpAny (mX X) X.A (eval b X.env) (λu O=>wpAny (mX X) X.A (f v u) Q X.xe O) X.xe D) X.xe s:=by
 refine bO (T aa s Z H _ I h) λv s1 W=>?_
 obtain⟨x,H1,B,N,S⟩:=W;refine bO (hb aa s1 Z H1 _ B S) λu s2 W=>?_
 obtain⟨y,G,F,C,L⟩:=W;exact hf v u s2 x y G F N C L
def e7k{op:Operator}(ho:dZ X (binaryOp op) r)(W:PE X a J)(hb:PE X b tb):PE X (.BinOp a op b Y) (F_ r J tb):=by
 intro aa s Z H Q I h;exact wpAny_BinOp (wy W hb I h λv u s2 x y V G B F q=>ho aa s2 Z V x y v u Q G B F q)
def e7l{op:UnaryOp}{r:V->Hp->VK->Prop}(ho:DP X (unaryOp op) r)(W:PE X a J):PE X (.UnaryOp op a Y) (tUn r J):=by
 intro aa s Z H Q I h;exact UnaryOp_ (bO (W aa s Z H _ I h) λv s1 ⟨x,H1,G,F,B⟩=>ho aa s1 Z H1 x v Q G F B)
def F5
  (rule:∀i j t u s Q E,C i j->Q (.int (g i j) s.toks) { s with toks:=s.toks+1}->wpAny (mX X) X.A (f (.int i t) (.int j u)) Q E s) :
  dZ X f (rI C λi j=>.int (g i j)):=by
 intro aa s Z H x y v u Q I V G h;obtain⟨i,j,rfl,rfl,hc,q⟩:=h;obtain⟨t,rfl⟩:=V;obtain⟨t',rfl⟩:=G;exact rule i j t t' s _ _ hc ⟨.int (g i j),H,I.tok _,⟨_,rfl⟩,q⟩
def CS
  (rule:∀i j t u s Q E,Q (.int (g i j) s.toks) { s with toks:=s.toks+1}->wpAny (mX X) X.A (f (.int i t) (.int j u)) Q E s) :
  dZ X f (oK λi j=>.int (g i j)):=by
 intro aa s Z H x y v u Q I V G h;obtain⟨i,j,rfl,rfl,q⟩:=h;obtain⟨t,rfl⟩:=V;obtain⟨t',rfl⟩:=G;exact rule i j t t' s _ _ ⟨.int (g i j),H,I.tok _,⟨_,rfl⟩,q⟩
def xY{g:Int->Int->Bool}
  (rule:∀i j t u s Q E,Q (.bool (g i j)) s->wpAny (mX X) X.A (f (.int i t) (.int j u)) Q E s) :
  dZ X f (oK λi j=>.bl (g i j)):=by
 intro aa s Z H x y v u Q I V G h;obtain⟨i,j,rfl,rfl,q⟩:=h;obtain⟨t,rfl⟩:=V;obtain⟨t',rfl⟩:=G;exact rule i j t t' s _ _ ⟨.bl (g i j),H,I,rfl,q⟩
def vL(i j:Int):Prop:=0<j/\j<1073741824
def vM(i j:Int):Prop:=0<=j/\j<=1000000/\i.natAbs<2^64
def su(i j:Int):Prop:=(-(2^64)<i/\i<2^64)\/(-(2^64)<j/\j<2^64)
def su.ok{i j:Int}(h:su i j):IntMulOk i j:=by
 rcases h with⟨V,G⟩|⟨V,G⟩
 .exact .of_left (intBits_le_64 V G)
 .exact .of_right (intBits_le_64 V G)
def xZ:dZ X (binaryOp .Add) (oK λi j=>.int (i+j)):=CS λ_ _ _ _ _ _ _ q=>add_int q
def Y8:dZ X (binaryOp .Sub) (oK λi j=>.int (i - j)):=CS λ_ _ _ _ _ _ _ q=>sub_int q
def x8:dZ X (binaryOp .Mult) (rI su λi j=>.int (i*j)):=F5 λ_ _ _ _ _ _ _ hc q=>mul_int q hc.ok
def V1:dZ X (binaryOp .FloorDiv) (rI vL λi j=>.int (i / j)):=F5 λi j _ _ _ _ _ hc q=>by
 have V:(0:Int)<j:=hc.1;have G:j<1073741824:=hc.2;exact floordiv_int (by lia) (by rw[Int.fdiv_eq_ediv_of_nonneg i (by lia)];exact q) (.inl (PyProof.noPylong_small (by lia)))
def Y9:dZ X (binaryOp .Mod) (rI (λ_ j=>0<j) λi j=>.int (i%j)):=F5 λi j _ _ _ _ _ hc q=>by
 have V:(0:Int)<j:=hc;exact mod_int' (by lia) (by rw[Int.fmod_eq_emod_of_nonneg i (by lia)];exact q)
def Y_:dZ X (binaryOp .Pow) (rI vM λi j=>.int (i^j.toNat)):=F5 λ_ _ _ _ _ _ _ hc q=>pow_int_small hc.1 hc.2.1 hc.2.2 q
def unI{f:ak->Sem ak}{g:Int->Int}
  (rule:∀i t s Q E,Q (.int (g i) s.toks) { s with toks:=s.toks+1}->wpAny (mX X) X.A (f (.int i t)) Q E s) :
  DP X f (rU λi=>.int (g i)):=by
 intro aa s Z H x v Q I V h;obtain⟨i,rfl,q⟩:=h;obtain⟨t,rfl⟩:=V;exact rule i t s _ _ ⟨.int (g i),H,I.tok _,⟨_,rfl⟩,q⟩
def Y':DP X (unaryOp .USub) (rU λi=>.int (-i)):=unI λ_ _ _ _ _ q=>neg_int q
def sJ{Q:VK}(I:Inv X aa Z H s)(q:Q (.bl k) H)(e:k=k'):EP X aa Z Q (.bool k') s:=by
 subst e;exact⟨.bl k,H,I,rfl,q⟩
def vc:dZ X (compareOp .Lt) (oK λi j=>.bl (decide (i<j))):=xY λ_ _ _ _ _ _ _ q=>lt_int q
def vb:dZ X (compareOp .LtE) (oK λi j=>.bl (decide (i<=j))):=xY λ_ _ _ _ _ _ _ q=>le_int q
def e7m:dZ X (compareOp .Gt) (oK λi j=>.bl (decide (j<i))):=xY λ_ _ _ _ _ _ _ q=>gt_int q
def Sm:dZ X (compareOp .In) (λx y H Q=>∃i j,x=.str i/\y=.str j/\Q (.bl (!(Builtin.Str.occurrences j i 0 j.length 1).isEmpty)) H):=by
 intro aa s Z H x y v u Q I V G h;obtain⟨i,j,rfl,rfl,q⟩:=h;obtain⟨t,rfl⟩:=V;obtain⟨t',rfl⟩:=G;exact in_str (sJ I q rfl)
def x6:dZ X (compareOp .Is) (λx y H Q=>y=.aI/\Q (.bl (decide (x=.aI))) H):=by
 intro aa s Z H x y v u Q I V G h;obtain⟨rfl,q⟩:=h;cases G;refine is_none_gen (sJ I q ?_);cases x <;> first
  |(cases V;rfl)
  |(obtain⟨t,rfl⟩:=V;rfl)
def tM:dZ X (compareOp .IsNot) (λx y H Q=>y=.aI/\Q (.bl (!decide (x=.aI))) H):=by
 intro aa s Z H x y v u Q I V G h;obtain⟨rfl,q⟩:=h;cases G;refine isnot_none_gen (sJ I q ?_);cases x <;> first
  |(cases V;rfl)
  |(obtain⟨t,rfl⟩:=V;rfl)
def Rg:dZ X (compareOp .NotIn) (λx y H Q=>∃i j,x=.str i/\y=.str j/\Q (.bl (!(!(Builtin.Str.occurrences j i 0 j.length 1).isEmpty))) H):=by
 intro aa s Z H x y v u Q I V G h;obtain⟨i,j,rfl,rfl,q⟩:=h;obtain⟨t,rfl⟩:=V;obtain⟨t',rfl⟩:=G;exact notIn_str (sJ I q rfl)
def dZ.or(h:dZ X f r)(h':dZ X f r'):dZ X f (λx y H Q=>r x y H Q\/r' x y H Q):=by
 intro aa s Z H x y v u Q I V G q;rcases q with q|q
 .exact h aa s Z H x y v u Q I V G q
 .exact h' aa s Z H x y v u Q I V G q
def V2(ho:dZ X (compareOp op) r)(W:PE X a J)(hb:PE X b tb)(hm:behindInMarks op b=false):PE X (.Compare a [op] [b] Y) (F_ r J tb):=by
 intro aa s Z H Q I h;exact wpAny_Compare1 (wy W hb I h λv u s2 x y V G B F q=>ho aa s2 Z V x y v u Q G B F q) hm
def q9(t:TE):TT:=λZ H Q=>t Z H λx H'=>∃k,x=.bl k/\Q k H'
def V3(ho:dZ X (compareOp op) r)(L:PE X a J)(hb:PE X b tb)(hm:behindInMarks op b=false):PT X (.Compare a [op] [b] Y) (q9 (F_ r J tb)):=by
 intro aa s Z H Q I h;refine wpAny_isTrue_Compare1 (bO (L aa s Z H _ I h) λv s1 T=>?_) hm
 obtain⟨x,H1,W,O,N⟩:=T;refine bO (hb aa s1 Z H1 _ W N) λu s2 S=>?_
 obtain⟨y,V,B,j,C⟩:=S;refine bO (ho aa s2 Z V x y v u _ B O j C) λc s3 R=>?_
 obtain⟨z,G,F,q,k,rfl,D⟩:=R;cases q;exact wpAny_truthy_bool ⟨G,F,D⟩
def OJ(r r':R2)(J tb U:TE):TE:=λZ H Q=>J Z H λx H1=>tb Z H1 λy G=>r x y G λz V=>∃k,z=.bl k/\
 (if k=true then U Z V λB W=>r' y B W Q else Q (.bl false) V)
def T2{V:CmpOp}(ho:dZ X (compareOp op) r)(uM:dZ X (compareOp V) r')(l:PE X a J)(hb:PE X b tb)(hc:PE X c U)
  (hm:lastMarks [op,V] [b,c]=false:=by with_unfolding_all rfl):PT X (.Compare a [op,V] [b,c] Y) (q9 (OJ r r' J tb U)):=by
 intro aa s Z H Q I h;refine isTrue_chain (bO (l aa s Z H _ I h) λv s1 j=>?_) hm
 obtain⟨x,H1,L,r1,q1⟩:=j;refine test_link (bO (hb aa s1 Z H1 _ L q1) λu s2 q=>?_)
 obtain⟨y,T,N,F,q2⟩:=q;refine bO (ho aa s2 Z T x y v u _ N r1 F q2) λd s3 p=>?_
 obtain⟨z,G,W,r3,k,rfl,B⟩:=p;cases r3;refine wpAny_truthy_bool ?_;cases k with
 |false=>
  obtain⟨k',O,n⟩:=B;cases O;exact ite_ff ⟨G,W,n⟩
 |true=>
  refine ite_tt (test_last (bO (hc aa s3 Z G _ W B) λw' s4 m=>?_))
  obtain⟨z',S,C,r4,q4⟩:=m;refine bO (uM aa s4 Z S y z' u w' _ C F r4 q4) λd' s5 t=>?_
  obtain⟨z2,R,D,r5,k2,rfl,q5⟩:=t;cases r5;exact wpAny_truthy_bool ⟨R,D,q5⟩
def vS(K:aP)(x:V)(H:Hp)(k:Bool):Prop:=
 match x with
 |.aI=>k=false
 |.bl b=>k=b
 |.int i=>k=(i != 0)
 |.str y=>y.length<=sizeLine/\k=((y.length:Int) != 0)
 |.uE y=>y.size<=sizeLine/\k=((y.size:Int) != 0)
 |.ref p=>(∃xs,c7 K H p xs/\k = !xs.isEmpty)\/(∃xs,iE K H p xs/\k = !xs.isEmpty)\/∃kvs,H p=some (.dK kvs)/\k = !kvs.isEmpty
 |_=>False
def RC{vs:List (κ×ak)}(r:KV kvs vs):(!vs.isEmpty) = !kvs.isEmpty:=by
 cases r <;> rfl
def Mc(r:Vals xs aL):(!aL.toArray.isEmpty) = !xs.isEmpty:=by
 cases r <;> simp
def wg:(sizeLine:Nat)<2^63:=by rw[sizeLine_eq];decide
def Za:G2 X (λx H Q=>∃k,vS X.K x H k/\Q k H):=by
 intro aa s Z H x v Q I G h;obtain⟨k,e,q⟩:=h;have hl:=wg;have T:sizeLine=16777216:=sizeLine_eq;cases x with
 |aI=>
  cases G;have V:k=false:=e;subst V;exact truthy_none ⟨H,I,q⟩
 |bl b=>
  cases G;have V:k=b:=e;subst V;exact wpAny_truthy_bool ⟨H,I,q⟩
 |int i=>
  obtain⟨t,rfl⟩:=G;have V:k=(i != 0):=e;subst V;exact PySem.P.truthy_int ⟨H,I,q⟩
 |str y=>
  obtain⟨t,rfl⟩:=G;obtain⟨F,V⟩:y.length<=sizeLine/\k=((y.length:Int) != 0):=e;subst V;exact PySem.P.truthy_str (by lia) ⟨H,I.tok _,q⟩
 |uE y=>
  obtain⟨t,rfl⟩:=G;obtain⟨F,V⟩:y.size<=sizeLine/\k=((y.size:Int) != 0):=e;subst V;exact PySem.W.truthy_bytes (by lia) ⟨H,I.tok _,q⟩
 |ref p=>
  cases G;have V:(∃xs,c7 X.K H p xs/\k = !xs.isEmpty)\/(∃xs,iE X.K H p xs/\k = !xs.isEmpty)\/∃kvs,H p=some (.dK kvs)/\k = !kvs.isEmpty:=e;rcases V with⟨xs,B,V⟩|⟨xs,B,V⟩|⟨kvs,B,V⟩
  .subst V;obtain⟨aL,r,pl,hz⟩:=I.list B;have hlen:=r.length;exact wpAny_truthy_list pl.isList (by simp only[fO];lia) ⟨H,I.tok _,by rw[Mc r];exact q⟩
  .subst V;obtain⟨aL,r,pl,hz⟩:=I.tuple B;have hlen:=r.length;exact truthy_tuple pl (by simp only[fO];lia) ⟨H,I.tok _,by rw[Mc r];exact q⟩
  .subst V;obtain⟨hz,hS,vs,r,m⟩:kvs.length<=sizeLine/\(p == sysModules)=false/\∃vs,KV kvs vs/\s.heap.DictOf (H9 X.prog X.w) p vs:=I.bN p _ B;have hlen:kvs.length=vs.length:=Paired.length r;exact wpAny_truthy_dict hS m (by lia) ⟨H,I.tok _,by rw[RC r];exact q⟩
 |_=>exact(show False from e).elim
def T3(W:PE X a J)(B:∀V,isTrue a X.env V=(do let v <-V;standAt a.pos;holding [v] (truthy v))):
  PT X a (λZ H Q=>J Z H λx H'=>∃k,vS X.K x H' k/\Q k H'):=by
 intro aa s Z H Q I h;exact isTrue_plain (bO (W aa s Z H _ I h) λv s1 ⟨x,H1,G,T,F⟩=>Za aa s1 Z H1 x v Q G T F) (B _)
def nJ:dZ X (binaryOp .Add) (λx y H Q=>∃i j,x=.str i/\y=.str j/\i.length+j.length<=sizeLine/\Q (.str (i++j)) H):=by
 intro aa s Z H x y v u Q I V G h;obtain⟨i,j,rfl,rfl,hz,q⟩:=h;obtain⟨t,rfl⟩:=V;obtain⟨t',rfl⟩:=G;exact add_str (λt' tk=>⟨.str (i++j),H,I.tok _,⟨_,rfl⟩,q⟩) hz
def vals1(r:Vals [x] us):∃u,us=[u]/\RelV x u:=by
 cases r with
 |cons V G=>cases G;exact⟨_,rfl,V⟩
def vals2(r:Vals [x,y] us):∃u G,us=[u,G]/\RelV x u/\RelV y G:=by
 cases r with
 |cons W B=>
  cases B with
  |cons F T=>cases T;exact⟨_,_,rfl,W,F⟩
def Sn:bT X (.type "int") (λxs H Q=>(∃i,xs=[.int i]/\Q (.int i) H)\/∃k,xs=[.bl k]/\Q (.int (if k then 1 else 0)) H):=by
 intro aa s Z H xs us Q I r h;rcases h with⟨i,rfl,q⟩|⟨k,rfl,q⟩
 .obtain⟨u,rfl,t,rfl⟩:=vals1 r;exact call_int_int ⟨.int i,H,I,⟨_,rfl⟩,q⟩
 .obtain⟨u,rfl,V⟩:=vals1 r;cases V;exact call_int_bool ⟨.int (if k then 1 else 0),H,I.tok _,⟨_,rfl⟩,q⟩
end
variable{h:bZ}{v:V}{o:ai ak}{u:ak}{K:aP}{f:Str}
structure nu (h:bZ) (x dx C:aj) (mA:Str->ai ak):Prop where
 obj:h.get? x=some (PySem.W.instObj C dx)
 ns:h.Ns1 dx mA
 ne:dx≠x
def So(n:h.Ns1 dx mA):∃od,h.get? dx=some od/\∀name,PySem.W.lookIn name od=some (mA name):=by
 obtain⟨o,es,ep,ho,hd,V,_,hm⟩:=n;refine⟨o,ho,λname=>?_⟩
 have e:=hm name;unfold nsFind findBy at e;rw[<-Array.find?_toList] at e;unfold PySem.W.lookIn;rw[hd];dsimp only;split
 .rename_i q
  rw[q] at e;exact congrArg some e
 .rename_i q
  rw[q] at e;have a:es.toList.any (·.refKey)=false:=by
   rw[List.any_eq_false];intro y U;obtain⟨z,t,J⟩:=V y (Lz.mp U);simp[DictEntry.refKey,J]
  have Y:¬es.toList.any (·.refKey)=true:=by rw[a];exact pQ
  rw[bq Y];exact congrArg some e
theorem nu.look{x:aj}(I:nu h x dx C mA):∃od,PySem.W.InstAt h x (PySem.W.instObj C dx) C (some od)/\∀name,PySem.W.lookIn name od=some (mA name):=
 let ⟨od,ho,hl⟩:=So I.ns
 ⟨od,⟨I.obj,rfl,rfl,ho⟩,hl⟩
section
variable{w:cL}{E:ak->aB->Prop}{s:aB}{K:aP}{x f:aj}{v:ak}
def V4(X:K.In s.heap)(I:nu s.heap x dx C mA)(G:PySem.W.plainGet K C name=true)(B:PySem.W.hasDictIn K C=true)
  (U:PySem.W.findIn K (.ref C) name=some none) (hv:mA name=some v) (V:PySem.W.handedIn v=true) (h:Q v { s with toks:=s.toks+1}) :
  wpAny (model prog w) A (getAttr (.ref x) name Y) Q E s:=by
 obtain⟨od,J,hl⟩:=I.look;exact PySem.W.get_value X J (PySem.W.plainGet_of G).1 (PySem.W.findObj_own B U rfl (by rw[hl,hv])) V h
def T4{Q:ak×List ak->aB->Prop}(X:K.In s.heap)(I:nu s.heap x dx C mA)(Y:PySem.W.plainGet K C name=true)
  (hf:PySem.W.findIn K (.ref C) name=some (some (.ref f))) (ht:PySem.W.isFn K (.ref f)=true) (hv:mA name=none) (h:Q (.ref f,[.ref x]) s) :
  wpAny (model prog w) A (getMethod (.ref x) name pl) Q E s:=by
 obtain⟨od,J,hl⟩:=I.look;exact PySem.W.method_fn X J (PySem.W.plainGet_of Y).1 (PySem.W.plainGet_of Y).2 hf (beq_iff_eq.mp ht) (by show(PySem.W.lookIn name od).map (·.isSome)=some false;rw[hl,hv];rfl) h
def V5{Q:Unit->aB->Prop}(X:K.In s.heap)(I:nu s.heap x dx C mA)
  (R:PySem.W.findIn K (.ref C) "__setattr__"=some (some (.builtin "object.__setattr__"))) (hp:PySem.W.plainOver K C=true) (ht:PySem.W.takerIn K C name=some none) (S:PySem.W.hasDictIn K C=true)
  (hw:PySem.Within mA ns) (hsz:ns.length<=sizeLine)
  (h:∀h',nu h' x dx C (λy=>if y=name then some v else mA y)->Heap.SameBut dx s.heap h'->Q () { s with heap:=h',toks:=s.toks+2}) :
  wpAny (model prog w) A (setAttr (.ref x) name v) Q E s:=by
 obtain⟨od,J,hl⟩:=I.look;refine PySem.W.set_plain X J R (PySem.W.osa_open (s:={ s with toks:=s.toks+1}) (r:=none) X J hp ht λb=>?_)
 obtain⟨O,hc,D⟩:=PySem.W.any_some S;have L:s.heap.get? x=some ⟨.ref C,some dx,.plain,#[]⟩:=I.obj;refine aK (bw (aK (aK (wpAny_loadPart L (aK (PySem.W.Looks.here (s:={ s with toks:=s.toks+1}) (PySem.W.looks_clsIn X hc) ?_))))));rw[D];refine bw (a:=some dx) (aK (bw (aK ?_)));refine wpAny_nsSet1 (s:={ s with toks:=s.toks+1}) I.ns λh' V U=>?_
 refine kY λN=>?_
 obtain⟨j,T,F,B,G,Y⟩:=V.count (PySem.Within.cons name v hw);refine N ?_;refine aK (wpAny_lookBehind B (by rw[G];exact pastItsLine_dict (jy Y (by rw[jR];lia))) ?_)
 exact bw (h _ ⟨(U.2 _ (Ne.symm I.ne)).trans I.obj,V,I.ne⟩ U)
def T5(X:K.In s.heap)(hm:PySem.W.makesIn K C=true)
  (hi:PySem.W.findIn K (.ref C) "__init__"=some (some (.ref f))) (hf:PySem.W.typeIn K (.ref f)=some (.type "function"))
  (h:codeAny (model prog w) (A.under (.builtin "type.__call__" ⟨.ref C::vs,J⟩)) (.call (.ref f) ⟨.ref (s.heap.objs.size+1)::vs,J⟩) (PySem.W.InitBack (s.heap.objs.size+1) R) {s with heap:=(s.heap.push PySem.W.emptyDict).push (PySem.W.instObj C s.heap.objs.size)}) :
  codeAny (model prog w) A (.call (.ref C) ⟨vs,J⟩) R s:=by
 obtain⟨Y,g,d,t,os⟩:=s;exact PySem.W.make_core (PySem.W.makes_of X hm) (PySem.W.looks_findIn X hi) (λself=>PySem.W.bind_fn X self hf) (.inl rfl) h
end
noncomputable def ec(f:Str)(v:V):List (Str×V)->List (Str×V)
 |[]=>[(f,v)]
 |(g,x)::r=>if g=f then(g,v)::r else(g,x)::ec f v r
theorem L7(f g:Str)(v:V):∀fs:List (Str×V),(ec f v fs).lookup g=if g=f then some v else fs.lookup g
 |[]=>by
  show List.lookup g [(f,v)]=_;by_cases h:g=f
  .have hb:(g == f)=true:=beq_iff_eq.mpr h;simp only[List.lookup,hb,bJ h]
  .have hb:(g == f)=false:=oY.mpr h;simp only[List.lookup,hb,bq h]
 |(k,x)::r=>by
  have Y:=L7 f g v r;rw[show ec f v ((k,x)::r)=(if k=f then(k,v)::r else(k,x)::ec f v r) from rfl]
  by_cases J:k=f
  .rw[bJ J];by_cases h:g=k
   .have hb:(g == k)=true:=beq_iff_eq.mpr h;simp only[List.lookup,hb,bJ (h.trans J)]
   .have hb:(g == k)=false:=oY.mpr h;simp only[List.lookup,hb,bq (λe:g=f=>h (e.trans J.symm))]
  .rw[bq J];by_cases h:g=k
   .have hb:(g == k)=true:=beq_iff_eq.mpr h;simp only[List.lookup,hb,bq (λe:g=f=>J (h.symm.trans e))]
   .have hb:(g == k)=false:=oY.mpr h;simp only[List.lookup,hb];exact Y
theorem Hz(f:Str)(v:V):∀fs:List (Str×V),f∈(ec f v fs).map (·.1)/\∀g,g∈fs.map (·.1)->g∈(ec f v fs).map (·.1)
 |[]=>⟨by simp[ec],λg h=>by simp at h⟩
 |(k,x)::r=>by
  obtain⟨Y,U⟩:=Hz f v r;rw[show ec f v ((k,x)::r)=(if k=f then(k,v)::r else(k,x)::ec f v r) from rfl]
  by_cases J:k=f
  .rw[bJ J];subst J;exact⟨by simp,λg h=>by simpa using h⟩
  .rw[bq J];refine⟨?_,λg h=>?_⟩
   .rw[cS];exact pJ _ Y
   .rw[cS] at h ⊢;rcases y0c.mp h with e|e
    .exact y0c.mpr (.inl e)
    .exact pJ _ (U g e)
theorem L8(f:Str)(v:V):∀fs:List (Str×V),(ec f v fs).length<=fs.length+1
 |[]=>by simp[ec]
 |(k,x)::r=>by
  have Y:=L8 f v r;rw[show ec f v ((k,x)::r)=(if k=f then(k,v)::r else(k,x)::ec f v r) from rfl]
  by_cases J:k=f
  .rw[bJ J,jR,jR];lia
  .rw[bq J,jR,jR];lia
def iN.some_of(r:iN (some v) o):∃u,o=some u/\RelV v u:=by
 cases o with
 |none=>exact(show False from r).elim
 |some u=>exact⟨u,rfl,r⟩
def iN.none_of(r:iN none o):o=none:=by
 cases o with
 |none=>rfl
 |some u=>exact(show False from r).elim
def Sq(r:RelV v u):PySem.W.handedIn u=true:=by
 cases v with
 |aI=>cases(show u=Value.none from r);rfl
 |bl b=>cases(show u=Value.bool b from r);rfl
 |int i=>obtain⟨t,e⟩:=(show ∃t,u=Value.int i t from r);cases e;rfl
 |str x=>obtain⟨t,e⟩:=(show ∃t,u=Value.str x t from r);cases e;rfl
 |uE b=>obtain⟨t,e⟩:=(show ∃t,u=Value.bytes b t from r);cases e;rfl
 |zM b=>obtain⟨t,e⟩:=(show ∃t,u=Value.float b t from r);cases e;rfl
 |ref a=>cases(show u=Value.ref a from r);rfl
 |ty n=>cases(show u=Value.type n from r);rfl
section
variable{P:dq}{w:cL}{H:Hp}{h:bZ}
def H_(bN:jk P w H h)(e:H a=some (.ins C dx fs)):∃mA,nu h a dx C mA/\(∀f,iN (fs.lookup f) (mA f))/\PySem.Within mA (fs.map (·.1))/\fs.length<=1000/\H dx=some (.own a):=by
 refine kY λJ=>?_
 obtain⟨d,z,ne,ob,mA,n,r,q⟩:=(show cw P w H h a (.ins C dx fs) from bN a _ e);refine J ?_;exact⟨mA,⟨ob,n,ne⟩,r,q,z,d⟩
end
structure Cls (K:aP) (C:aj):Prop where
 pg:PySem.W.plainGet K C Str.empty=true
 hd:PySem.W.hasDictIn K C=true
 po:PySem.W.plainOver K C=true
 sa:PySem.W.findIn K (.ref C) "__setattr__"=some (some (.builtin "object.__setattr__"))
def Cls.get(c:Cls K C)(f:Str):PySem.W.plainGet K C f=true:=c.pg
def f7(K:aP)(C:aj)(f:Str):Prop:=PySem.W.findIn K (.ref C) f=some none
def f7.Dm(n:f7 K C f):PySem.W.takerIn K C f=some none:=by
 unfold PySem.W.takerIn;rw[show PySem.W.findIn K (.ref C) f=some none from n];rfl
structure Meth (K:aP) (C:aj) (m:Str) (f:aj):Prop where
 at_:PySem.W.findIn K (.ref C) m=some (some (.ref f))
 fn:PySem.W.isFn K (.ref f)=true
 kp:PySem.W.keepIn K (.ref f)=true
section
variable{X:Cx}{aa:List (aj×Obj)}{Z:St}{H:Hp}{s:aB}{f:Str}{v:V}{E:ak->aB->Prop}
def Md(I:Inv X aa Z H s)(e:H a=some (.ins C dx fs))(c:Cls X.K C)(n:f7 X.K C f)(l:fs.lookup f=some v)
  (h:∀u s',Inv X aa Z H s'->RelV v u->Q u s'):wpAny (mX X) A (getAttr (.ref a) f b) Q E s:=by
 obtain⟨mA,O,r,_,_,_⟩:=H_ I.bN e;obtain⟨u,Y,J⟩:=iN.some_of (v:=v) (o:=mA f) (by rw[<-l];exact r f)
 exact V4 I.jN O (c.get f) c.hd n Y (Sq J) (h u _ (I.tok _) J)
def Me{g:aj}{Q:ak×List ak->aB->Prop}(I:Inv X aa Z H s)(e:H a=some (.ins C dx fs))(c:Cls X.K C)(k:Meth X.K C m g)(l:fs.lookup m=none)
  (h:Q (.ref g,[.ref a]) s):wpAny (mX X) A (getMethod (.ref a) m pl) Q E s:=by
 obtain⟨mA,O,r,_,_,_⟩:=H_ I.bN e;have J:mA m=none:=iN.none_of (by rw[<-l];exact r m)
 exact T4 I.jN O (c.get m) k.at_ k.fn J h
def Mg{Q:Unit->aB->Prop}(I:Inv X aa Z H s)(e:H a=some (.ins C dx fs))(c:Cls X.K C)(n:f7 X.K C f)(hl:fs.length<1000)(W:RelV y u)
  (h:∀s',Inv X aa Z (upd H a (.ins C dx (ec f y fs))) s'->Q () s'):wpAny (mX X) A (setAttr (.ref a) f u) Q E s:=by
 obtain⟨mA,O,r,Y,_,ho⟩:=H_ I.bN e;have hz:(fs.map (·.1)).length<=sizeLine:=by rw[ba,sizeLine_eq];lia
 refine V5 I.jN O c.sa c.po n.Dm c.hd Y hz λh' J B=>h _ ?_
 have hd:∃o,h'.get? dx=some o:=let ⟨o,_,_,U,_⟩:=J.ns;⟨o,U⟩
 refine I.write (x:=a) (e:=dx) (by rw[e];exact rA) (.inr ho) (λb q hb z=>(B.2 b hb).trans z) hd ?_
 refine⟨by rw[dz O.ne];exact ho,?_,O.ne,J.obj,_,J.ns,λg=>?_,λg G=>?_⟩
 .have:=L8 f y fs;lia
 .show iN ((ec f y fs).lookup g) (if g=f then some u else mA g)
  rw[L7];by_cases q:g=f
  .rw[bJ q,bJ q];exact W
  .rw[bq q,bq q];exact r g
 .by_cases q:g=f
  .rw[q];exact(Hz f y fs).1
  .refine(Hz f y fs).2 g (Y g λz=>G ?_)
   show(if g=f then some u else mA g)=none
   rw[bq q];exact z
def Inv.made(I:Inv X aa Z H s):Inv X aa Z (upd (upd H s.heap.objs.size (.own (s.heap.objs.size+1))) (s.heap.objs.size+1) (.ins C s.heap.objs.size []))
  {s with heap:=(s.heap.push PySem.W.emptyDict).push (PySem.W.instObj C s.heap.objs.size)}:=by
 have e1:(s.heap.push PySem.W.emptyDict).get? s.heap.objs.size=some PySem.W.emptyDict:=jb s.heap rfl;have e2:((s.heap.push PySem.W.emptyDict).push (PySem.W.instObj C s.heap.objs.size)).get? (s.heap.objs.size+1)=some (PySem.W.instObj C s.heap.objs.size):=by
  have:=jb (s.heap.push PySem.W.emptyDict) (o:=PySem.W.instObj C s.heap.objs.size) rfl
  rwa[Heap.size_push] at this
 have Y:(s.heap.push PySem.W.emptyDict).Ns s.heap.objs.size (λ_=>none):=⟨PySem.W.emptyDict,#[],_,e1,rfl,(λe V=>cQ V (by simp)),λ_=>rfl⟩
 have J:=I.laid (a:=s.heap.objs.size) (o:=.own (s.heap.objs.size+1)) (h':=s.heap.push PySem.W.emptyDict) (t':=s.toks) (λb u q=>c8 _ q) (bU _) ⟨_,e1⟩
 refine J.laid (a:=s.heap.objs.size+1) (o:=.ins C s.heap.objs.size []) (t':=s.toks) (λb u q=>c8 _ q) (DD (Heap.size_push _ _)) ?_
 have ne:s.heap.objs.size≠s.heap.objs.size+1:=g_ (uf _);refine⟨by rw[dz ne,aQ],lq _,ne,e2,λ_=>none,(Heap.Ns1.of_empty Y).at λo q=>c8 _ q,λ_=>rA,λy U=>cQ rfl U⟩
def V6(hb:attributeBase e f env (eval e env)=eval e env)
  (h:wpAny (model prog w) A (eval e env) (λo Y=>wpAny (model prog w) A (getAttr o f true) Q E Y) E s):wpAny (model prog w) A (eval (.Attribute e f J) env) Q E s:=
 Attribute_any_ h (by rw[arm_eval_Attribute,hb])
end
def K7(K:aP)(J:TE)(f:Str):TE:=λZ H Q=>J Z H λx H1=>∃a C dx fs v,x=.ref a/\H1 a=some (.ins C dx fs)/\Cls K C/\f7 K C f/\fs.lookup f=some v/\Q v H1
def KY(K:aP)(Y V:TE)(f:Str):TS:=λD Z H=>V Z H λy H1=>Y Z H1 λx J=>∃a C dx fs,x=.ref a/\J a=some (.ins C dx fs)/\Cls K C/\f7 K C f/\fs.length<1000/\
 D.nx Z (upd J a (.ins C dx (ec f y fs)))
def vP(X:Cx)(op:Operator)(rd:V->V->Hp->VK->Prop):Prop:=
 ∀(aa:List (aj×Obj)) (s:aB) (Z:St) (H:Hp) (x y:V) (u v:ak) (Q:VK),Inv X aa Z H s->RelV x u->RelV y v->rd x y H Q->wpAny (mX X) X.A (inplaceOp op u v) (EP X aa Z Q) X.xe s
def V7(K:aP)(G W:TE)(rd:V->V->Hp->VK->Prop)(f:Str):TS:=λD Z H=>G Z H λx H1=>∃a C dx fs v,x=.ref a/\H1 a=some (.ins C dx fs)/\Cls K C/\f7 K C f/\fs.lookup f=some v/\
 W Z H1 λy U=>rd v y U λz Y=>∃Jf J,Y a=some (.ins C Jf J)/\J.length<1000/\D.nx Z (upd Y a (.ins C Jf (ec f z J)))
section
variable{X:Cx}{o e:Expr}{f:Str}
def Zb(S:PE X e G)(hb:attributeBase e f X.env (eval e X.env)=eval e X.env):PE X (.Attribute e f Y) (K7 X.K G f):=by
 intro aa s Z H Q I h;refine V6 hb (bO (S aa s Z H _ I h) λu s1 R=>?_)
 refine kY λL=>?_
 obtain⟨x,H1,V,D,a,C,dx,fs,v,ex,T,c,n,l,q⟩:=R;subst ex;obtain rfl:u=Value.ref a:=D;refine L ?_;exact Md V T c n l λO s2 F N=>⟨v,H1,F,N,q⟩
def Zc(N:PE X o G)(hv:PE X J W)(O:swapsWith J (some (.Attribute o f U)) Y.line X.env=pure false):PS X (.Assign [.Attribute o f U] J Y) (KY X.K G W f):=by
 intro aa s Z H D I h;refine plainObj_wpAny_Assign_Attribute (bO (hv aa s Z H _ I h) λu s1 R=>?_) O
 obtain⟨y,H1,V,d,q⟩:=R;refine bO (N aa s1 Z H1 _ V q) λz s2 L=>?_
 refine kY λj=>?_
 obtain⟨x,b,F,p,a,C,dx,fs,rfl,S,c,n,l,k⟩:=L;obtain rfl:z=Value.ref a:=p;refine j ?_;exact Mg F S c n l d λs3 T=>⟨Z,_,T,k⟩
def Sr{op:Operator}(b:PE X o G)(hv:PE X J W)(xw:vP X op rd):PS X (.AugAssign (.Attribute o f B) op J Y) (V7 X.K G W rd f):=by
 intro aa s Z H D I h;refine wpAny_AugAssign_AttributeAny (bO (b aa s Z H _ I h) λov s1 m=>?_)
 refine kY λT=>?_
 obtain⟨x,H1,R,rx,a,C,dx,fs,v,ex,k,c,n,l,q⟩:=m;subst ex;obtain rfl:ov=Value.ref a:=rx;refine T ?_;refine Md R k c n l λu s2 L ru=>bO (hv aa s2 Z H1 _ L q) λw3 s3 p=>?_
 obtain⟨y,S,N,ry,q3⟩:=p;refine bO (xw aa s3 Z S v y u w3 _ N ru ry q3) λw4 s4 d=>?_
 refine kY λT=>?_
 obtain⟨z,H3,O,rz,Jf,zN,F,t,q4⟩:=d;refine T ?_;exact Mg O F c n t rz λs5 j=>⟨Z,_,j,q4⟩
def KP:V->V->Hp->VK->Prop:=λx y H Q=>∃i j,x=.int i/\y=.int j/\Q (.int (i+j)) H
def Zd:vP X .Add KP:=by
 rintro aa s Z H x y u v Q I V F ⟨i,j,rfl,rfl,q⟩;obtain⟨t,rfl⟩:=(show ∃t,u=Value.int i t from V);obtain⟨t',rfl⟩:=(show ∃t',v=Value.int j t' from F);exact PyProof.Rows.iadd_int ⟨.int (i+j),H,I.tok _,⟨_,rfl⟩,q⟩
end
variable{A:cW}{f:aj}{P:dq}{w:cL}{K:aP}{s:aB}{H:Hp}{aa:List (aj×Obj)}{Z:St}
structure cH (k:Nat) (A:cW):Prop where
 hd:A.handled=none
 dp:A.depth+3*k+5<recursionLimit
 un:A.units+16*k+200<cLine
def cH.mono(r:cH k A)(h:j<=k):cH j A:=⟨r.hd,by have:=r.dp;lia,by have:=r.un;lia⟩
def cH.deeper(r:cH (k+1) A)(env:Env):cH k (A.deeper env):=
 ⟨r.hd,by have:=r.dp;show A.depth+1+3*k+5<_;lia,by have:=r.un;show A.units+3+16*k+200<_;lia⟩
def RF:(A.under (.builtin "type.__call__" ⟨.ref C::us,kw⟩)).depth=A.depth+1:=by
 rfl
def RG:(A.under (.builtin "type.__call__" ⟨.ref C::us,kw⟩)).units=A.units+1:=by
 rfl
def cH.make(r:cH (k+1) A)(C:aj)(us:List ak)(kw:List (Str×ak)):cH k (A.under (.builtin "type.__call__" ⟨.ref C::us,kw⟩)):=
 ⟨r.hd,by have:=r.dp;rw[RF];lia,by have:=r.un;rw[RG];lia⟩
def cH.depth(r:cH k A):A.depth<recursionLimit:=by have:=r.dp;lia
def cH.units(r:cH k A):A.units+64<cLine:=by have:=r.un;lia
def tW:TA:=λ_ H Q=>Q [] H
def qZ(Y:TE)(tr:TA):TA:=λZ H Q=>Y Z H λx H1=>tr Z H1 λxs J=>Q (x::xs) J
section
variable{X:Cx}{e:Expr}
def lQ:PA X [] tW:=λ_ _ _ _ H Q I h=>Calls.spliced_nil ⟨[],H,I,.nil,h⟩
def EN(W:PE X e Y)(F:PA X es t)(T:starEach (e::es) X.env=(false,eval e X.env)::starEach es X.env:=by rfl):PA X (e::es) (qZ Y t):=by
 intro J aa s Z H Q I h;rw[T];show wpAny _ _ (spliced ((false,eval e X.env)::backTo J (starEach es X.env))) _ _ s;refine Calls.spliced_cons (bO (W aa s Z H _ I h) λu s1 B=>?_)
 obtain⟨x,H1,U,L,S⟩:=B;exact bO (F J aa s1 Z H1 _ U S) λus s2 ⟨xs,V,G,D,R⟩=>⟨x::xs,V,G,.cons L D,R⟩
def Lc(t:TA):TE:=λZ H Q=>t Z H λxs H1=>xs.length<=sizeLine/\∀p,H1 p=none->Q (.ref p) (upd H1 p (.tup xs))
def K_(t:TA):TE:=λZ H Q=>t Z H λxs H1=>xs.length<=sizeLine/\∀p,H1 p=none->Q (.ref p) (upd H1 p (.lst xs))
def Ze{x1}(h:PA X es t):PE X (.Tuple es x1 J) (Lc t):=by
 intro aa s Z H Q I U;refine wpAny_Tuple_spliced (bO (h J aa s Z H _ I U) λus s1 ⟨xs,H1,V,r,z,q⟩=>⟨by rw[<-r.length];exact z,?_⟩)
 have hf:H1 s1.heap.objs.size=none:=V.bN.fresh (bU _);refine⟨.ref s1.heap.objs.size,upd H1 s1.heap.objs.size (.tup xs),V.laid (t':=s1.toks) (λb u e=>c8 _ e) (bU _) ?_,rfl,q _ hf⟩
 exact⟨z,us,r,⟨_,jb _ rfl,rfl,_,rfl⟩⟩
def Zf(h:PA X es t):PE X (.List es J) (K_ t):=by
 intro aa s Z H Q I U;refine wpAny_List_spliced (bO (h J aa s Z H _ I U) λus s1 ⟨xs,H1,V,r,z,q⟩=>⟨by rw[<-r.length];exact z,?_⟩)
 have hf:H1 s1.heap.objs.size=none:=V.bN.fresh (bU _);refine⟨.ref s1.heap.objs.size,upd H1 s1.heap.objs.size (.lst xs),V.laid (t':=s1.toks) (λb u e=>c8 _ e) (bU _) ?_,rfl,q _ hf⟩
 exact⟨z,us,0,r,jb _ rfl⟩
end
abbrev Sp:=List V->Hp->VK->XK->Prop
abbrev rC:=List Env->Hp->aB->XK->ak->aB->Prop
structure nt (P:dq) (w:cL) (K:aP) (mg:Str->ai ak) (base:bZ) (A:cW) (outer:List Env) (s:aB) (H:Hp):Prop where
 frames:A.frames=some outer
 mod:Mod K mg base
 bs:∀b o,base.get? b=some o->s.heap.get? b=some o/\H b=none
 qj:base.objs.size<=s.heap.objs.size
 iQ:s.heap.FunFrames base outer
 sZ:∀b∈ke outer,H b=none
 bN:jk P w H s.heap
 bare:AllBare s.gens
def CE(outer:List Env)(P:dq)(w:cL)(H:Hp)(s:aB)(Q:VK)(u:ak)(s':aB):Prop:=
 ∃v H',s'.os=s.os/\AllBare s'.gens/\Un (ke outer) [] H H' s.heap s'.heap/\jk P w H' s'.heap/\RelV v u/\Q v H'
def CR(CX:rC)(outer:List Env)(P:dq)(w:cL)(H:Hp)(s:aB)(Q:VK)(E:XK)(r:Result)(s':aB):Prop:=
 match r with
 |.ok (.ret u)=>CE outer P w H s Q u s'
 |.ok _=>False
 |.error e=>CX outer H s E e s'
structure dO (P:dq) (w:cL) (K:aP) (mg:Str->ai ak) (base:bZ) (CX:rC) (k:Nat) (f:aj) (fd:kR) (ps:List Str) (sp:Sp):Prop where
 len:∀vs H Q E,sp vs H Q E->vs.length=ps.length
 run:∀(A:cW) (outer:List Env) (s:aB) (H:Hp) (args:Args) (us:List ak) (vs:List V) (Q:VK) (E:XK),cH k A->nt P w K mg base A outer s H->BindsTo s fd args (ps.zip us)->Vals vs us->sp vs H Q E->
  codeAny (model P w) A (.call (.ref f) args) (CR CX outer P w H s Q E) s
def nt.make(e:nt P w K mg base A outer s H)(C:aj)(us:List ak)(kw:List (Str×ak)):
  nt P w K mg base (A.under (.builtin "type.__call__" ⟨.ref C::us,kw⟩)) outer s H:=⟨by first|exact e.frames|(simpa[Around.under,Code.envs,Code.isFrame,pushEnvs] using e.frames),e.mod,e.bs,e.qj,e.iQ,e.sZ,e.bN,e.bare⟩
section
variable{X:Cx}{aa:List (aj×Obj)}{Z:St}{H:Hp}{s:aB}
def Inv.BS(I:Inv X aa Z H s):nt X.prog X.w X.K X.mg X.base X.A X.stack s H:=
 ⟨I.ok.frames,I.ok.mod,I.bs,jy I.ok.qj I.sz,I.stack,I.jP,I.bN,I.bare⟩
def Inv.after(I:Inv X aa Z H s)(h:CE X.stack X.prog X.w H s Q u s'):EP X aa Z Q u s':=by
 obtain⟨v,H',os,bare,un,bN,r,q⟩:=h;obtain⟨Y,g,d,t,J⟩:=s';obtain rfl:J=s.os:=os;exact⟨v,H',I.call (h':=Y) (g':=g) (d':=d) (t':=t) (ch:=[]) un bN bare (λb z=>cQ z (by simp)),r,q⟩
end
def Dg(sp:Sp)(J:List V)(E:St->XK)(t:TA):TE:=λZ H Q=>t Z H λvs H1=>sp (vs++J) H1 Q (E Z)
def q8(C:aj)(m:Str)(sp:Sp)(Y:List V)(E:St->XK)(U:TE)(t:TA):TE:=λZ H Q=>U Z H λx H1=>∃a dx fs,x=.ref a/\H1 a=some (.ins C dx fs)/\fs.lookup m=none/\
 t Z H1 λvs J=>sp (x::(vs++Y)) J Q (E Z)
def vy(C:aj)(sp:Sp)(Y:List V)(E:St->XK)(t:TA):TE:=λZ H Q=>t Z H λvs H1=>∀x dx,H1 x=none->H1 dx=none->dx≠x->
 sp (.ref x::(vs++Y)) (upd (upd H1 dx (.own x)) x (.ins C dx [])) (λv J=>v=.aI/\Q (.ref x) J) (E Z)
def Binds(K:aP)(fd:kR)(ps:List Str)(ds:List ak):Prop:=
 ∀(s:aB) (us:List ak),K.In s.heap->(us++ds).length=ps.length->BindsTo s fd ⟨us,[]⟩ (ps.zip (us++ds))
def Binds.all(h:∀us:List ak,us.length=ps.length->bindArgs fd ⟨us,[]⟩=pure (ps.zip us)):Binds K fd ps []:=λs us _ hl=>by
 rw[jI] at hl ⊢;exact .of_eq (h us hl)
def wj(CX:rC)(X:Cx)(E:St->XK):Prop:=∀(aa:List (aj×Obj)) (Z:St) (H:Hp) (s:aB) (e:ak) (s':aB),Inv X aa Z H s->CX X.stack H s (E Z) e s'->X.xe e s'
section
variable{X:Cx}{f:aj}{E:St->XK}{x:Str}{J Y:Pos}{e o:Expr}
def Iw(F:dO X.prog X.w X.K X.mg X.base CX k f fd ps sp)(B:cH k X.A)(hb:Binds X.K fd ps ds)(hd:Vals U ds)(T:wj CX X E)
  (I:Inv X aa Z H s) (r:Vals vs us) (h:sp (vs++U) H Q (E Z)):wpAny (mX X) X.A (call (.ref f) us) (EP X aa Z Q) X.xe s:=by
 have W:Vals (vs++U) (us++ds):=r.append hd;have hl:(us++ds).length=ps.length:=by rw[<-W.length];exact F.len _ _ _ _ h
 refine wpAny_call (codeAny_mono (F.run X.A X.stack s H ⟨us,[]⟩ (us++ds) (vs++U) Q (E Z) B I.BS (hb s us I.jN hl) W h) λr s' V=>?_)
 cases r with
 |error e=>exact T aa Z H s e s' I V
 |ok fl=>
  cases fl with
  |ret u=>exact I.after V
  |next=>exact False.elim V
  |brk=>exact False.elim V
  |cont=>exact False.elim V
def V8(F:dO X.prog X.w X.K X.mg X.base CX k f fd ps sp)(L:cH k X.A)(S:Gl X x)(hm:X.mg x=some (.ref f))(R:PySem.W.keepIn X.K (.ref f)=true)(hb:Binds X.K fd ps ds)(hd:Vals U ds)(D:wj CX X E)
  (B:PA X (e::es) t) (j:(x == ("__debug__":Str))=false:=by decide) (T:starEach (e::es) X.env=(false,eval e X.env)::starEach es X.env:=by rfl) (O:(backTo J (starEach es X.env)).any (·.1)=false:=by rfl) :
  PE X (.Call (.Name x p) (e::es) [] J) (Dg sp U E t):=by
 intro aa s Z H Q I h;refine wpAny_Call_Name_kw (zp I S hm ?_ j);refine PySem.W.callWith_K (h₀:=X.base) I.ok.mod.zX R (bO (B J aa s Z H _ I h) λus s1 ⟨vs,H1,V,r,q⟩=>⟨V.jN,?_⟩) T O
 exact Iw F L hb hd D V r q
def V9{pl:Sem Bool}(L:PE X o G)(c:Cls X.K C)(hm:Meth X.K C m f)(F:dO X.prog X.w X.K X.mg X.base CX k f fd ps sp)(O:cH k X.A)(hb:Binds X.K fd ps ds)(hd:Vals U ds)(j:wj CX X E)(R:PA X (e::es) t)
  (z:starEach (e::es) X.env=(false,eval e X.env)::starEach es X.env:=by rfl) (y:(backTo J (starEach es X.env)).any (·.1)=false:=by rfl)
  (ht:eval (.Call (.Attribute o m Y) (e::es) [] J) X.env=(do
   let T <-eval o X.env
   standAt Y.atName
   let (f,first) <-holding [T] (getMethod T m pl)
   callWith J f first (backTo J (starEach (e::es) X.env)) (backToKw J (keywordEach [] X.env))):=by rfl) :
  PE X (.Call (.Attribute o m Y) (e::es) [] J) (q8 C m sp U E G t):=by
 intro aa s Z H Q I h;refine PySem.W.methodCall_KW (pl:=pl) (bO (L aa s Z H _ I h) λu s1 D=>?_) ht
 refine kY λd=>?_
 obtain⟨x,H1,V,n,a,dx,fs,ex,S,l,q⟩:=D;subst ex;obtain rfl:u=Value.ref a:=n;refine d ?_;refine Me V S c hm l ?_;refine PySem.W.callWith_K (first:=[.ref a]) (h₀:=X.base) I.ok.mod.zX hm.kp (bO (R J aa s1 Z H1 _ V q) λus s2 ⟨vs,H2,B,r,b⟩=>⟨B.jN,?_⟩) z y
 exact Iw (us:=.ref a::us) (vs:=.ref a::vs) F O hb hd j B (.cons rfl r) b
def T7(S:PE X o G)(c:Cls X.K C)(hm:Meth X.K C m f)(F:dO X.prog X.w X.K X.mg X.base CX k f fd ps sp)(L:cH k X.A)(hb:Binds X.K fd ps ds)(hd:Vals U ds)(D:wj CX X E)
  (ht:eval (.Call (.Attribute o m Y) [] [] J) X.env=(do
   let B <-eval o X.env
   standAt Y.atName
   let (f,first) <-holding [B] (getMethod B m pl)
   callWith J f first (backTo J (starEach [] X.env)) (backToKw J (keywordEach [] X.env))):=by rfl) :
  PE X (.Call (.Attribute o m Y) [] [] J) (q8 C m sp U E G tW):=by
 intro aa s Z H Q I h;refine PySem.W.methodCall_KW (pl:=pl) (bO (S aa s Z H _ I h) λu s1 R=>?_) ht
 refine kY λO=>?_
 obtain⟨x,H1,V,j,a,dx,fs,ex,T,l,q⟩:=R;subst ex;obtain rfl:u=Value.ref a:=j;refine O ?_;refine Me V T c hm l ?_;exact PySem.W.callWith_K0 (first:=[.ref a]) V.jN hm.kp (Iw (us:=[.ref a]) (vs:=[.ref a]) F L hb hd D V (.cons rfl .nil) q)
structure Mk (K:aP) (C f:aj):Prop where
 makes:PySem.W.makesIn K C=true
 init:PySem.W.findIn K (.ref C) "__init__"=some (some (.ref f))
 fn:PySem.W.isFn K (.ref f)=true
 kp:PySem.W.keepIn K (.ref C)=true
def T8(M:Mk X.K C f)(F:dO X.prog X.w X.K X.mg X.base CX k f fd ps sp)(L:cH (k+1) X.A)(hb:Binds X.K fd ps ds)(hd:Vals U ds)
  (D:wj CX X E) (I:Inv X aa Z H s) (r:Vals vs us)
  (h:∀x dx,H x=none->H dx=none->dx≠x->sp (.ref x::(vs++U)) (upd (upd H dx (.own x)) x (.ins C dx [])) (λv S=>v=.aI/\Q (.ref x) S) (E Z)) :
  wpAny (mX X) X.A (call (.ref C) us) (EP X aa Z Q) X.xe s:=by
 have B:=h (s.heap.objs.size+1) s.heap.objs.size (I.bN.fresh (ug _)) (I.bN.fresh (bU _)) (g_ (uf _));have W:=Inv.made (C:=C) I;have T:Vals (V.ref (s.heap.objs.size+1)::(vs++U)) (Value.ref (s.heap.objs.size+1)::(us++ds)):=.cons rfl (r.append hd);have hl:(Value.ref (s.heap.objs.size+1)::us++ds).length=ps.length:=by
  have e:=T.length;rw[F.len _ _ _ _ B] at e;exact e.symm
 refine wpAny_call (T5 (f:=f) I.jN M.makes M.init (beq_iff_eq.mp M.fn) (codeAny_mono (F.run _ X.stack _ _ ⟨Value.ref (s.heap.objs.size+1)::us,[]⟩ (Value.ref (s.heap.objs.size+1)::(us++ds)) _ _ (E Z) (L.make C us []) (W.BS.make C us []) (hb _ (Value.ref (s.heap.objs.size+1)::us) W.jN hl) T B) λr s' Cn=>?_))
 cases r with
 |error e=>exact D aa Z _ _ e s' W Cn
 |ok fl=>
  cases fl with
  |ret u=>
   obtain⟨v,H',R,rv,ev,O⟩:=W.after Cn;subst ev;exact⟨rv,⟨V.ref (s.heap.objs.size+1),H',R,rfl,O⟩⟩
  |next=>exact False.elim Cn
  |brk=>exact False.elim Cn
  |cont=>exact False.elim Cn
def V_(M:Mk X.K C f)(F:dO X.prog X.w X.K X.mg X.base CX k f fd ps sp)(R:cH (k+1) X.A)(S:Gl X x)(hm:X.mg x=some (.ref C))(hb:Binds X.K fd ps ds)(hd:Vals U ds)(L:wj CX X E)
  (B:PA X (e::es) t) (O:(x == ("__debug__":Str))=false:=by decide) (T:starEach (e::es) X.env=(false,eval e X.env)::starEach es X.env:=by rfl) (D:(backTo J (starEach es X.env)).any (·.1)=false:=by rfl) :
  PE X (.Call (.Name x p) (e::es) [] J) (vy C sp U E t):=by
 intro aa s Z H Q I h;refine wpAny_Call_Name_kw (zp I S hm ?_ O);refine PySem.W.callWith_K (h₀:=X.base) I.ok.mod.zX M.kp (bO (B J aa s Z H _ I h) λus s1 ⟨vs,H1,V,r,q⟩=>⟨V.jN,?_⟩) T D
 exact T8 M F R hb hd L V r q
end
structure gA (N P:List Str) (sc:Scope):Prop where
 kind:sc.kind=.function
 co:sc.isCoroutine=false
 gen:sc.isGenerator=false
 nd:N.Nodup
 pre:N.take P.length=P
 par:∀x∈P,sc.names.lookup x=some .local \/ sc.names.lookup x=some .cell
 xR:∀y∈sc.names,y.2≠.free
theorem Mt{kindOf:Str->ai nZ}{x:Str}:∀{binds:List (Str×ak)} {m:Str->ai ak},(∀v,(x,v)∉binds)->bindL kindOf binds m x=m x
 |[],_,_=>rfl
 |(n,v)::r,m,h=>by
  unfold bindL;rw[Mt λw hw=>h w (pJ _ hw)]
  split
  .have:x≠n:=by rintro rfl;exact h v Af
   simp[this]
  .rfl
theorem Mu{kindOf:Str->ai nZ}{x:Str}:∀{binds:List (Str×ak)} {m:Str->ai ak},(∀v,(x,v)∉binds)->bindC kindOf binds m x=m x
 |[],_,_=>rfl
 |(n,v)::r,m,h=>by
  unfold bindC;rw[Mu λw hw=>h w (pJ _ hw)]
  split
  .rfl
  .have:x≠n:=by rintro rfl;exact h v Af
   simp[this]
theorem Mv{kindOf:Str->ai nZ}{x:Str}{v:ak}:∀{P:List Str} {vs:List ak} {i:Nat} {m:Str->ai ak},P.Nodup->P[i]?=some x->vs[i]?=some v->kindOf x=some .local ->
  bindL kindOf (P.zip vs) m x=some v
 |[],_,_,_,_,h,_,_=>by simp at h
 |_::_,[],_,_,_,_,h,_=>by simp at h
 |p::P,w::vs,0,m,nd,J,Y,V=>by
  simp at J Y;subst J;subst Y;show bindL kindOf ((p,w)::P.zip vs) m p=_;unfold bindL;rw[Mt λv hv=>(nW.mp nd).1 (List.of_mem_zip hv).1,bJ V]
  simp
 |p::P,w::vs,i+1,m,nd,J,Y,V=>by
  show bindL kindOf ((p,w)::P.zip vs) m x=_;unfold bindL;exact Mv (i:=i) (nW.mp nd).2 (by simpa using J) (by simpa using Y) V
theorem Mw{kindOf:Str->ai nZ}{x:Str}{v:ak}:∀{P:List Str} {vs:List ak} {i:Nat} {m:Str->ai ak},P.Nodup->P[i]?=some x->vs[i]?=some v->kindOf x≠some .local ->
  bindC kindOf (P.zip vs) m x=some v
 |[],_,_,_,_,h,_,_=>by simp at h
 |_::_,[],_,_,_,_,h,_=>by simp at h
 |p::P,w::vs,0,m,nd,J,Y,V=>by
  simp at J Y;subst J;subst Y;show bindC kindOf ((p,w)::P.zip vs) m p=_;unfold bindC;rw[Mu λv hv=>(nW.mp nd).1 (List.of_mem_zip hv).1,bq V]
  simp
 |p::P,w::vs,i+1,m,nd,J,Y,V=>by
  show bindC kindOf ((p,w)::P.zip vs) m x=_;unfold bindC;exact Mw (i:=i) (nW.mp nd).2 (by simpa using J) (by simpa using Y) V
noncomputable def start(N:List Str)(vs:List V):St:=vs.map some++List.replicate (N.length - vs.length) none
noncomputable def kH(CX:rC)(P:dq)(w:cL)(K:aP)(mg:Str->ai ak)(base:bZ)(N:List Str)(qual:Str)(scope:Scope)(f:aj)(J:ak)(A:cW)(outer:List Env)(s:aB)(H:Hp)(E:XK):Cx where
 prog:=P
 w:=w
 K:=K
 mg:=mg
 base:=base
 A:=A.deeper (envOfC qual scope s.heap.objs.size f J)
 N:=N
 s₀:=s
 H₀:=H
 env:=envOfC qual scope s.heap.objs.size f J
 outer:=outer
 stack:=envOfC qual scope s.heap.objs.size f J::outer
 ex:=[]
 calm:=true
 fn:=λ_=>true
 pn:=[]
 xe:=λe s'=>wpAny (model P w) (A.deeper (envOfC qual scope s.heap.objs.size f J)) (leaving (envOfC qual scope s.heap.objs.size f J) e) (λ_ Y=>CX outer H s E e Y) (λV Y=>CX outer H s E V Y) s'
def MW{sc:Scope}{x:Str}(h:sc.names.lookup x=some .cell):∃c,(cellsFrom n sc.names []).lookup x=some c:=by
 have q:=PySem.W.cellsFrom_some sc.names n [] (.inl h);exact Option.isSome_iff_exists.mp q
def Ss{V:ak}{E:XK}
  (S:gA N ps scope) (hd:A.handled=none) (Y:nt P w K mg base A outer s H) (hl:vs.length=ps.length) (r:Vals vs us)
  (x:InCallC s s.heap.objs.size (bindL (envOfC qual scope s.heap.objs.size f V).kindOf (ps.zip us) λ_=>none) (cellsFrom (s.heap.objs.size+1) scope.names []) (bindC (envOfC qual scope s.heap.objs.size f V).kindOf (ps.zip us) λ_=>none) s1) :
  Inv (kH CX P w K mg base N qual scope f V A outer s H E) [] (start N vs) H s1:=by
 have R:ps.length<=N.length:=by have:=congrArg List.length S.pre;rw[vC] at this;lia
 obtain⟨U,tk,rfl,W⟩:=x.done;have G:∀b:aj,b∉(kH CX P w K mg base N qual scope f V A outer s H E).ex:=λb z=>cQ (show b∈([]:List aj) from z) (by simp)
 refine⟨⟨Y.mod,S.kind,rfl,rfl,bU _,λy z c U J=>?_,λy hy=>?_,λy c _ h=>?_,λ_=>hd,Around.frames_deeper Y.frames,.inr ⟨rfl,rfl⟩,λb z=>cQ z (G b),Y.bs,Y.qj,λb _ _=>G b,λb z=>cQ z (G b),Y.iQ,Y.sZ⟩,rfl,Y.bare,Un.kept W,⟨_,x.toInCall.ns,λi y v U J T=>?_⟩,λy c h=>⟨_,x.cell y c h⟩,Y.bN.fresh (bU _),λy c h=>?_,λp hp=>cQ (show p∈([]:List (aj×Obj)) from hp) (by simp),Y.bN.kept W,?_⟩
 .exact name_of_addr x.apart (PySem.mem_of_lookup U) (PySem.mem_of_lookup J)
 .have hy:scope.names.lookup y=some .cell\/scope.names.lookup y=some .free:=hy;rcases hy with hy|hy
  .exact MW hy
  .exact cQ rfl (S.xR _ (PySem.mem_of_lookup hy))
 .exact Ly (x.above y c (PySem.mem_of_lookup h))
 .have hi:i<vs.length:=by
   unfold start at J;by_cases hi:i<vs.length
   .exact hi
   .rw[oW (by simpa using hi)] at J
    rw[LA] at J;split at J <;> cases J
  have F:vs[i]?=some v:=by
   unfold start at J;rw[nX (by simpa using hi),fB] at J
   cases e:vs[i]? with
   |none=>rw[e] at J;cases J
   |some a=>rw[e] at J;cases J;rfl
  obtain⟨u,B,rv⟩:=r.get F;have hp:ps[i]?=some y:=by
   rw[<-S.pre,List.getElem?_take_of_lt (by lia)];exact U
  have Qz:ps.Nodup:=by rw[<-S.pre];exact S.nd.sublist (List.take_sublist _ _)
  refine⟨u,rv,?_⟩;rcases S.par y (rh hp) with k|k
  .exact .inl ⟨k,Mv Qz hp B k⟩
  .obtain⟨c,e⟩:=MW (n:=s.heap.objs.size+1) k;refine .inr ⟨.inl k,c,e,?_⟩;have q:=x.cell y c e;rw[Mw Qz hp B (by show scope.names.lookup y≠_;rw[k];decide)] at q
   exact q
 .exact Y.bN.fresh (Ly (x.above y c (PySem.mem_of_lookup h)))
 .unfold start;show _=N.length
  simp_all
def e7n{L kV doc pm fI ct oc:ak}
     (lk:K.lookup f=some ⟨oc,od,.func (PySem.W.fnOf name qual Y body scope L kV doc pm an fI ct),oF⟩) (d:PySem.W.codeIn K fI qual=true) (S:gA N ps scope)
  (len:∀vs H Q E,sp vs H Q E->vs.length=ps.length)
  (p:∀A outer s H vs Q E,cH k (A.deeper (envOfC qual scope s.heap.objs.size f fI))->sp vs H Q E-> ∃t,iM (kH CX P w K mg base N qual scope f fI A outer s H E) body t/\t { nx:=λ_ H'=>Q .aI H',rt:=Q} (start N vs) H) :
  dO P w K mg base CX (k+1) f (PySem.W.fnOf name qual Y body scope L kV doc pm an fI ct) ps sp:=by
 refine⟨len,λA outer s H args us vs Q E F G hb r D=>?_⟩
 have hl:=len _ _ _ _ D;have R:K.In s.heap:=G.mod.zX.keeps λb o e=>(G.bs b o e).1
 have T:s.heap.NoLimit:=G.mod.nolimit.keeps λb o e=>(G.bs b o e).1
 have Cg:∀y∈ps.zip us,scope.names.lookup y.1=some .local \/ (scope.names.lookup y.1=some .cell/\((cellsFrom (s.heap.objs.size+1) scope.names []).lookup y.1).isSome=true):=λ⟨n,v⟩ z=>by
  rcases S.par n (List.of_mem_zip z).1 with q|q
  .exact .inl q
  .exact .inr ⟨q,PySem.W.cellsFrom_some _ _ _ (.inl q)⟩
 refine codeAny_call_function F.depth (R _ _ lk) rfl S.co S.gen rfl (PySem.W.codeRec_of R d) (hb _ _ _ _ ?_);refine wpAny_newFunctionEnv_cells S.kind Cg λenv O s1 x=>?_
 subst O;refine⟨T.keeps x.toInCall.keep,codeAny_func ?_⟩;obtain⟨t,ht,j⟩:=p A outer s H vs Q E (F.deeper _) D;have I:Inv (kH CX P w K mg base N qual scope f fI A outer s H E) [] (start N vs) H s1:=Ss S F.hd G hl r x;refine wpAny_mono (ht [] s1 (start N vs) H _ I j) (λfl s' U=>?_) λe s' U=>U
 have fin:∀{B:St} {H':Hp} {v:V} {u:ak},Inv (kH CX P w K mg base N qual scope f fI A outer s H E) [] B H' s'->RelV v u->Q v H'->CE outer P w H s Q u s':=
  λ{B H' v u} J rv q=>⟨v,H',J.os,J.bare,J.base,J.bN,rv,q⟩
 cases fl with
 |ret u=>
  obtain⟨v,B,H',J,rv,q⟩:=U;exact fin J rv q
 |next=>
  obtain⟨B,H',J,q⟩:=U;exact fin (v:=V.aI) (u:=Value.none) J rfl q
 |brk=>
  obtain⟨_,_,_,q⟩:=U;exact False.elim q
 |cont=>
  obtain⟨_,_,_,q⟩:=U;exact False.elim q
section
variable{X:Cx}{x:Str}{e:Expr}{id:String}
def QP(r:List V->Hp->VK->Prop)(t:TA):TE:=λZ H Q=>t Z H λvs H1=>r vs H1 Q
def T9(hc:bT X (.builtin id) r)(G:Gl X x)(hm:X.mg x=none)(hv:bootBuiltins x=some (.builtin id))(V:PA X (e::es) t)(W:x≠"__name__":=by decide)(F:(x == ("__debug__":Str))=false:=by decide)
  (U:starEach (e::es) X.env=(false,eval e X.env)::starEach es X.env:=by rfl) (B:(backTo J (starEach es X.env)).any (·.1)=false:=by rfl):PE X (.Call (.Name x p) (e::es) [] J) (QP r t):=by
 intro aa s Z H Q I h;refine wpAny_Call_Name_kw (uy I G hm hv ?_ W F);exact PyProof.Rows.callWith_builtin1 (bO (V J aa s Z H _ I h) λus s1 ⟨vs,H1,Y,R,S⟩=>hc aa s1 Z H1 vs us Q Y R S) U B
def Su(hc:bT X (.type T) r)(G:Gl X x)(hm:X.mg x=none)(hv:bootBuiltins x=some (.type T))(V:PA X (e::es) t)(W:x≠"__name__":=by decide)(F:(x == ("__debug__":Str))=false:=by decide)
  (U:starEach (e::es) X.env=(false,eval e X.env)::starEach es X.env:=by rfl) (B:(backTo J (starEach es X.env)).any (·.1)=false:=by rfl):PE X (.Call (.Name x p) (e::es) [] J) (QP r t):=by
 intro aa s Z H Q I h;refine wpAny_Call_Name_kw (uy I G hm hv ?_ W F);exact PyProof.Rows.callWith_type1 (bO (V J aa s Z H _ I h) λus s1 ⟨vs,H1,Y,R,S⟩=>hc aa s1 Z H1 vs us Q Y R S) U B
end
end L2
namespace HT
open PySem PyProof.Rows
section
open PySem.SeqAt
open PySem.AutoSeq1 (wpAny_loadPart')
open PySem.MeetsSeq PySem.MeetsSeq2 PySem.MeetsSeq3
end
variable{lo:ai Int}
section
def cT(n d:Nat):ai Int->Nat
 |none=>d
 |some v=>if v<0 then(v+(n:Int)).toNat else min v.toNat n
def Zg(n d:Nat)(hd:d<=n)(o:ai Int):cT n d o<=n:=by
 cases o with
 |none=>exact hd
 |some v=>
  show(if v<0 then(v+(n:Int)).toNat else min v.toNat n)<=n
  by_cases hv:v<0
  .rw[bJ hv];lia
  .rw[bq hv];exact Nat.min_le_right _ _
def ND(v:Int)(n d:Nat):(if v<0 then max (v+(n:Int)) 0 else min v (n:Int))=((cT n d (some v):Nat):Int):=by
 show(if v<0 then max (v+(n:Int)) 0 else min v (n:Int))=(((if v<0 then(v+(n:Int)).toNat else min v.toNat n):Nat):Int)
 by_cases hv:v<0
 .simp only[bJ hv];lia
 .simp only[bq hv];lia
def RJ(lo hi:ai Int)(n:Nat):Builtin.Slice.sliceAdjust lo hi 1 (n:Int)=(((cT n 0 lo:Nat):Int),((cT n n hi:Nat):Int)):=by
 have V:¬((1:Int)<0):=by lia
 unfold Builtin.Slice.sliceAdjust;simp only[V,kS];refine Prod.ext ?_ ?_
 .cases lo with
  |none=>rfl
  |some v=>exact ND v n 0
 .cases hi with
  |none=>rfl
  |some v=>exact ND v n n
def RK(i j:Nat):Builtin.Slice.slicePlaces (i:Int) (j:Int) 1=j - i:=by
 unfold Builtin.Slice.slicePlaces;have V:(1:Int) > 0:=by lia
 simp only[V,n4,Int.ediv_one];split <;> lia
def Mh(p:IsPart v o)(h:Q o s):wpAny (model prog w) A (Builtin.Slice.slicePartIndex v) Q E s:=by
 cases p with
 |none=>exact slicePart_none h
 |int i t=>exact slicePart_int h
def Q0{Q:Int×Int×Nat->aB->Prop}(hs:s.heap.IsSliceOf sl J Y .none)(pl:IsPart J lo)(U:IsPart Y hi)
  (h:Q (((cT n 0 lo:Nat):Int),1,cT n n hi - cT n 0 lo) s):wpAny (model prog w) A (Builtin.Slice.sliceApplied (.ref sl) (pure (n:Int))) Q E s:=by
 obtain⟨os,Cm,G,V⟩:=id hs;unfold Builtin.Slice.sliceApplied Builtin.Slice.sliceFields;refine aK (aK (wpAny_field Cm V (x:=J) rfl (aK (wpAny_field Cm V (x:=Y) rfl (aK (wpAny_field Cm V (x:=.none) rfl (bw ?_)))))));refine aK (slicePart_none ?_);show wpAny _ _ (if((1:Int) == 0)=true then _ else _) _ _ s
 rw[bq (by decide)]
 refine aK (Mh pl (aK (Mh U (aK (bw ?_)))));show wpAny _ _ (match Builtin.Slice.sliceAdjust lo hi 1 (n:Int) with|(lo,hi)=>pure (lo,(1:Int),Builtin.Slice.slicePlaces lo hi 1)) _ _ s
 rw[RJ lo hi n];show wpAny _ _ (pure (((cT n 0 lo:Nat):Int),(1:Int),Builtin.Slice.slicePlaces ((cT n 0 lo:Nat):Int) ((cT n n hi:Nat):Int) 1)) _ _ s;rw[RK];exact bw h
def T_(xs:Array ak)(i k:Nat):((List.range k).filterMap λ(m:Nat)=>xs[((i:Int)+(m:Int)*1).toNat]?).toArray=((xs.toList.drop i).take k).toArray:=by
 have e:(λ(m:Nat)=>xs[((i:Int)+(m:Int)*1).toNat]?)=λm=>xs[i+m]?:=by
  funext m;have:((i:Int)+(m:Int)*1).toNat=i+m:=by lia
  rw[this]
 rw[e];have:=pick_run xs i k;rw[List.filterMap_map] at this;have e2:((λx=>xs[x]?)∘λx=>i+x)=λm=>xs[i+m]?:=rfl
 rw[e2] at this;rw[this]
def iS(ht:IsTup s.heap t V)(G:s.heap.IsSliceOf sl J Y .none)(pl:IsPart J lo)(B:IsPart Y hi)
  (hw:¬(cT V.size 0 lo=0/\cT V.size V.size hi=V.size))
  (h:Q (.ref s.heap.objs.size) { s with heap:=s.heap.push { cls:=.type "tuple",data:=.seq ((V.toList.drop (cT V.size 0 lo)).take (cT V.size V.size hi - cT V.size 0 lo)).toArray}})
  (hsz:V.size<=sizeLine):wpAny (model prog w) A (getItem (.ref t) (.ref sl)) Q E s:=by
 have Cq:sizeOk (.seq ((V.toList.drop (cT V.size 0 lo)).take (cT V.size V.size hi - cT V.size 0 lo)).toArray):=by
  show((V.toList.drop (cT V.size 0 lo)).take (cT V.size V.size hi - cT V.size 0 lo)).toArray.size<=sizeLine;rw[fO,vC,Ah,Gj];lia
 have S:cT V.size V.size hi<=V.size:=Zg _ _ (bU _) hi;obtain⟨os,Cm,W,T⟩:=id G;have U:s.TypeIs (.ref sl) "slice":=⟨os,Cm,W⟩;unfold getItem;try with_reducible refine kA ?_
 skip;refine aK (wpAny_sequenceKey ht.typeIs (by decide) ?_)
 refine aK (wpAny_callSpecial?_slot (name:=Str.ofString "__getitem__") ht.typeIs PyProof.Rows.slot_tuple_getitem (wpAny_call_entry PyProof.Rows.slot_tuple_getitem ht.typeIs entry_tuple_getitem ?_ (args_tuple_getitem _ _)))
 show wpAny _ _ (Builtin.Tuple.tupleItemsOf (.ref t) >>= _) _ _ s;refine aK (tupleItemsOf_ ht ?_);refine aK (wpAny_typeOf U ?_);rw[bJ (by decide)]
 refine aK (Q0 G pl B ?_);have F:¬((((cT V.size 0 lo:Nat):Int) == 0&&(1:Int) == 1&&(cT V.size V.size hi - cT V.size 0 lo) == V.size)=true):=by
  lia
 show wpAny _ _ (if(((cT V.size 0 lo:Nat):Int) == 0&&(1:Int) == 1&&(cT V.size V.size hi - cT V.size 0 lo) == V.size)=true then _ else _) _ _ s
 rw[bq F,T_];exact aK (m:=Builtin.Tuple.tupleExact _) (wpAny_newObj_type (bw ⟨_,rfl,bw h⟩) Cq)
end
end HT
namespace L2
open PySem PySem.Spec PyProof.Rows
abbrev TO:=St->Hp->(ai Int->Hp->Prop)->Prop
def PO(X:Cx)(e:ai Expr)(t:TO):Prop:=
 ∀(aa:List (aj×Obj)) (s:aB) (Z:St) (H:Hp) (Q:ai Int->Hp->Prop),Inv X aa Z H s->t Z H Q->
  wpAny (mX X) X.A (evalPart e X.env) (λu s'=>∃o H',Inv X aa Z H' s'/\IsPart u o/\Q o H') X.xe s
def V':TO:=λ_ H Q=>Q none H
def Dk(t:TE):TO:=λZ H Q=>t Z H λx H1=>∃i,x=.int i/\Q (some i) H1
section
variable{lo:ai Expr}
def Wa:PO X none V':=by
 intro aa s Z H Q I h;rw[evalPart_none];exact bw ⟨none,H,I,.none,h⟩
def Wb(h:PE X e J):PO X (some e) (Dk J):=by
 intro aa s Z H Q I hw;rw[evalPart_some];refine bO (h aa s Z H _ I hw) λu s1 B=>?_
 obtain⟨x,H1,V,T,F⟩:=B;obtain⟨i,rfl,q⟩:=F;obtain⟨t,rfl⟩:=T;exact⟨some i,H1,V,.int i t,q⟩
def pZ(X:Cx)(r:V->ai Int->ai Int->Hp->VK->Prop):Prop:=
 ∀(aa:List (aj×Obj)) (s:aB) (Z:St) (H:Hp) (x:V) (v B F:ak) (lo hi:ai Int) (sl:aj) (Q:VK),Inv X aa Z H s->RelV x v->s.heap.IsSliceOf sl B F .none->IsPart B lo->IsPart F hi->r x lo hi H Q->
  ∃T id,typeLookup (.type T) "__getitem__"=pure (some (.builtin id))/\s.TypeIs v T/\wpAny (mX X) X.A (getItem v (.ref sl)) (EP X aa Z Q) X.xe s
def pZ.or(h:pZ X r)(h':pZ X r'):pZ X (λx lo hi H Q=>r x lo hi H Q\/r' x lo hi H Q):=by
 intro aa s Z H x v S R lo hi sl Q I T B pl F q;rcases q with q|q
 .exact h aa s Z H x v S R lo hi sl Q I T B pl F q
 .exact h' aa s Z H x v S R lo hi sl Q I T B pl F q
def tSl(r:V->ai Int->ai Int->Hp->VK->Prop)(J:TE)(Y U:TO):TE:=λZ H Q=>J Z H λx H1=>Y Z H1 λl B=>U Z B λu F=>r x l u F Q
def Ua(d:pZ X r)(y:PE X e J)(hl:PO X lo Y)(m:PO X hi U):PE X (.Subscript e (.Slice lo hi none W) G) (tSl r J Y U):=by
 intro aa s Z H Q I h;refine Subscript_ (bO (y aa s Z H _ I h) λv s1 p=>?_)
 obtain⟨x,H1,R,r1,n⟩:=p;refine wpAny_Slice (bO (hl aa s1 Z H1 _ R n) λV s2 ⟨l,S,L,pl,a⟩=>bO (m aa s2 Z S _ L a) λB s3 ⟨u,F,D,t,q3⟩=>?_)
 rw[evalPart_none];refine bw ?_;have O:Inv X aa Z F { s3 with heap:=s3.heap.push { cls:=.type "slice",data:=.fields #[V,B,.none]}}:=D.kept (t':=s3.toks) λb ob q=>c8 _ q
 obtain⟨T,id,j,ht,z⟩:=d aa { s3 with heap:=s3.heap.push { cls:=.type "slice",data:=.fields #[V,B,.none]}} Z F x v V B l u s3.heap.objs.size Q O r1 (Heap.IsSliceOf.new ..) pl t q3;show wpAny (mX X) X.A (subscriptTail e (.Slice lo hi none W) v (.ref s3.heap.objs.size)) (EP X aa Z Q) X.xe { s3 with heap:=s3.heap.push { cls:=.type "slice",data:=.fields #[V,B,.none]}};exact tail_any (ops:=[.ref s3.heap.objs.size,v]) ht j z (by with_unfolding_all rfl)
noncomputable def mm(xs:List V)(lo hi:ai Int):List V:=(xs.drop (HT.cT xs.length 0 lo)).take (HT.cT xs.length xs.length hi - HT.cT xs.length 0 lo)
def L9(xs:List V)(lo hi:ai Int):(mm xs lo hi).length<=xs.length:=by
 unfold mm;rw[vC,Ah];lia
def yi(K:aP):V->ai Int->ai Int->Hp->VK->Prop:=λx lo hi H Q=>∃a xs,x=.ref a/\iE K H a xs/\
 ¬(HT.cT xs.length 0 lo=0/\HT.cT xs.length xs.length hi=xs.length)/\∀p,H p=none->Q (.ref p) (upd H p (.tup (mm xs lo hi)))
def Zh:pZ X (yi X.K):=by
 intro aa s Z H x v S R lo hi sl Q I T V pl F h;obtain⟨a,xs,rfl,B,hw,q⟩:=h;cases T;obtain⟨aL,r,ht,hz⟩:=I.tuple B;have hlen:aL.toArray.size=xs.length:=by rw[fO];exact r.length.symm
 refine⟨"tuple",_,PyProof.Rows.slot_tuple_getitem.lookup,ht.typeIs,?_⟩;refine HT.iS ht V pl F (by rw[hlen];exact hw) ?_ (by rw[hlen];exact hz)
 rw[hlen];refine⟨.ref s.heap.objs.size,_,I.laid (t':=s.toks) (o:=.tup (mm xs lo hi)) (λb ob q=>c8 _ q) (bU _) ?_,rfl,q _ (I.bN.fresh (bU _))⟩
 exact⟨jy (L9 xs lo hi) hz,_,(r.drop (HT.cT xs.length 0 lo)).take (HT.cT xs.length xs.length hi - HT.cT xs.length 0 lo),IsTup.new _ _⟩
end
variable{j:Nat}
noncomputable def tG(n:Nat)(i:Int):ai Nat:=if 0<=i then(if i<n then some i.toNat else none) else if -(n:Int)<=i then some (i+n).toNat else none
def du(xs:List α)(i:Int):ai α:=(tG xs.length i).bind λj=>xs[j]?
def NF(h:tG n i=some j):seqIndex? i n=some j/\j<n /\ -(n:Int)<=i/\i<n:=by
 unfold tG at h;by_cases h0:0<=i
 .rw[bJ h0] at h;by_cases J:i<n
  .rw[bJ J] at h;have e:i.toNat=j:=Option.some.inj h;exact⟨by rw[seqIndex_of h0 J,e],by lia,by lia,J⟩
  .rw[bq J] at h;cases h
 .rw[bq h0] at h;by_cases J:-(n:Int)<=i
  .rw[bJ J] at h;have e:(i+n).toNat=j:=Option.some.inj h;exact⟨by rw[seqIndex_neg (by lia) J,e],by lia,J,by lia⟩
  .rw[bq J] at h;cases h
def Ia(h:du xs i=some v):∃j,seqIndex? i xs.length=some j/\xs[j]?=some v/\j<xs.length /\ -(xs.length:Int)<=i/\i<xs.length:=by
 unfold du at h;cases e:tG xs.length i with
 |none=>rw[e] at h;cases h
 |some j=>
  rw[e] at h;obtain⟨J,Y,V,U⟩:=NF e;exact⟨j,J,h,Y,V,U⟩
def qd(h:xs[j]?=some v):du xs (j:Int)=some v:=by
 have J:j<xs.length:=(dX.mp h).1;have e:tG xs.length (j:Int)=some j:=by
  unfold tG;rw[bJ (by lia),bJ (by lia)];simp
 unfold du;rw[e];exact h
def Ib(b:Expr):Prop:=∀o i,subscripted b false o i=operate [o,i] (getItem o i)
def o5(X:Cx)(r:R2):Prop:=
 ∀(Y J:Expr) (aa:List (aj×Obj)) (s:aB) (Z:St) (H:Hp) (x y:V) (v u:ak) (Q:VK),Inv X aa Z H s->RelV x v->RelV y u->r x y H Q->
  subscripted J false v u=operate [v,u] (getItem v u)->wpAny (mX X) X.A (subscriptTail Y J v u) (EP X aa Z Q) X.xe s
def GZ(X:Cx)(id:String)(r:V->List V->Hp->VK->Prop):Prop:=
 ∀(aa:List (aj×Obj)) (s:aB) (Z:St) (H:Hp) (x:V) (xs:List V) (v:ak) (us:List ak) (Q:VK),Inv X aa Z H s->RelV x v->Vals xs us->r x xs H Q->
  wpAny (mX X) X.A (call (.builtin id) (v::us)) (EP X aa Z Q) X.xe s
section
def o5.or(h:o5 X r)(h':o5 X r'):o5 X (λx y H Q=>r x y H Q\/r' x y H Q):=by
 intro Y J aa s Z H x y v u Q I W B q V;rcases q with q|q
 .exact h Y J aa s Z H x y v u Q I W B q V
 .exact h' Y J aa s Z H x y v u Q I W B q V
def e7o(W:o5 X r)(V:PE X a G)(hb:PE X b tb)(B:Ib b):PE X (.Subscript a b U) (F_ r G tb):=by
 intro aa s Z H Q I h;exact Subscript_ (wy V hb I h λv u s2 x y J Y F T q=>W a b aa s2 Z J x y v u Q Y F T q (B _ _))
def yf(K:aP):R2:=λx y H Q=>∃p xs i v,x=.ref p/\y=.int i/\c7 K H p xs/\du xs i=some v/\Q v H
def yg(K:aP):R2:=λx y H Q=>∃p xs i v,x=.ref p/\y=.int i/\iE K H p xs/\du xs i=some v/\Q v H
def CZ:R2:=λx y H Q=>∃z i c,x=.str z/\y=.int i/\z.length<=sizeLine/\du z.cps.toList i=some c/\Q (.str ⟨#[c]⟩) H
def Wc:o5 X (yf X.K):=by
 intro W V aa s Z H x y v u Q I m l h F;refine kY λO=>?_
 obtain⟨p,xs,i,z,rfl,rfl,D,L,q⟩:=h;cases m;obtain⟨t,rfl⟩:=l;obtain⟨aL,r,pl,hz⟩:=I.list D;obtain⟨j,J,T,h3,S,R⟩:=Ia L;obtain⟨w,B,d⟩:=r.get T;have hl:=r.length;have hn:=wg;have fin:EP X aa Z Q w s:=⟨z,H,I,d,q⟩;refine O ?_;by_cases h0:0<=i
 .have Y:i.toNat=j:=by
   rw[seqIndex_of h0 R] at J;exact Option.some.inj J
  exact item_listR pl.isList h0 (by lia) (by rw[Y];simpa using B) fin F
 .have Y:(i+(aL.toArray.size:Int)).toNat=j:=by
   rw[seqIndex_neg (by lia) S] at J
   rw[fO,<-hl];exact Option.some.inj J
  exact subscriptTail_builtinR (x:=w) pl.isList.typeIs slot_list_getitem.lookup
   (wpAny_getItem_list_neg (Q:=λr s'=>r=w/\EP X aa Z Q r s') pl.isList (by lia) (by rw[fO] <;> lia) (by lia) (by rw[Y];simpa using B) ⟨rfl,fin⟩) F
def Zi:o5 X (yg X.K):=by
 intro Y J aa s Z H x y v u Q I L D h S;obtain⟨p,xs,i,z,rfl,rfl,T,F,q⟩:=h;cases L;obtain⟨t,rfl⟩:=D;obtain⟨aL,r,pl,hz⟩:=I.tuple T;obtain⟨j,W,B,O,d,m⟩:=Ia F;obtain⟨w,V,R⟩:=r.get B;have hl:=r.length;have l:=wg;have fin:EP X aa Z Q w s:=⟨z,H,I,R,q⟩;exact subscriptTail_builtinR (x:=w) pl.typeIs slot_tuple_getitem.lookup
  (getItem_tuple (j:=j) (Q:=λr s'=>r=w/\EP X aa Z Q r s') pl (by lia) (by lia) (by rw[fO,<-hl];exact W) (by simpa using V) ⟨rfl,fin⟩) S
def xE:o5 X CZ:=by
 intro Y J aa s Z H x y v u Q I R L h S;obtain⟨z,i,c,rfl,rfl,hz,T,q⟩:=h;obtain⟨t,rfl⟩:=R;obtain⟨t',rfl⟩:=L;obtain⟨j,V,W,D,B,F⟩:=Ia T;have hl:z.cps.toList.length=z.length:=by simp[Str.length]
 rw[hl] at V B F;have O:=wg;exact tail_any (typeIs_str s z t) slot_str_getitem.lookup (getItem_str (c:=c) (by
  lia) (by rw[V];simpa using W) ⟨.str ⟨#[c]⟩,H,I.tok _,⟨_,rfl⟩,q⟩) S
def RL(aL:List ak)(n j:Nat)(u:ak):Obj.mapSeq (·.setIfInBounds j u) { cls:=.type "list",data:=.seq aL.toArray n}={ cls:=.type "list",data:=.seq (aL.set j u).toArray n}:=by
 simp[Obj.mapSeq]
def Inv.lst(I:Inv X aa Z H s)(h:H p=some (.lst xs)):
  ∃aL n,Vals xs aL/\s.heap.get? p=some { cls:=.type "list",data:=.seq aL.toArray n}/\xs.length<=sizeLine:=by
 obtain⟨z,aL,n,r,e⟩:=I.bN p _ h;exact⟨aL,n,r,e,z⟩
def Inv.xO{aL its':List ak}(I:Inv X aa Z H s)(h:H p=some (.lst xs))
  (ho:s.heap.get? p=some { cls:=.type "list",data:=.seq aL.toArray n}) (hf:f { cls:=.type "list",data:=.seq aL.toArray n}={ cls:=.type "list",data:=.seq its'.toArray J}) (r:Vals ys its') (hz:ys.length<=sizeLine) (t:Nat) :
  Inv X aa Z (upd H p (.lst ys)) { s with heap:=s.heap.update p f,toks:=t}:=by
 have e:(s.heap.update p f).get? p=some { cls:=.type "list",data:=.seq its'.toArray J}:=by
  rw[pR f ho (by rw[hf] <;> rfl),hf]
 refine I.write (x:=p) (e:=p) (by rw[h];trivial) (.inl rfl) (λb u hb q=>(nY _ _ (Ne.symm hb)).trans q) ⟨_,e⟩ ?_
 exact⟨hz,its',J,r,e⟩
def vm:V->V->V->Hp->(Hp->Prop)->Prop:=λo i v H Q=>∃p xs k j,o=.ref p/\i=.int k/\H p=some (.lst xs)/\tG xs.length k=some j/\Q (upd H p (.lst (xs.set j v)))
def Ub:sx X vm:=by
 intro aa s Z H o i v z y u Q I L R rv h;refine kY λS=>?_
 obtain⟨p,xs,k,j,rfl,rfl,hp,T,q⟩:=h;cases L;obtain⟨t,rfl⟩:=R;obtain⟨aL,n,r,ho,hz⟩:=I.lst hp;obtain⟨J,D,B,F⟩:=NF T;have hl:=r.length;have O:=wg;have V:Inv X aa Z (upd H p (.lst (xs.set j v))) { s with heap:=s.heap.update p (Obj.mapSeq (·.setIfInBounds j u))}:=
  I.xO hp ho (RL aL n j u) (r.set rv j) (by rw[rj];exact hz) s.toks
 refine S ?_;by_cases h0:0<=k
 .have Y:k.toNat=j:=by
   rw[seqIndex_of h0 F] at J;exact Option.some.inj J
  exact PySem.W.ki_setAt ho h0 (by lia) (by rw[fO,<-hl];exact F) (by rw[Y];exact⟨_,V,q⟩)
 .have Y:(k+(aL.toArray.size:Int)).toNat=j:=by
   rw[seqIndex_neg (by lia) B] at J
   rw[fO,<-hl];exact Option.some.inj J
  exact PySem.W.ki_setBack ho (by lia) (by rw[fO,<-hl];exact B) (by lia) (by rw[Y];exact⟨_,V,q⟩)
def Rh(lo hi:ai Int)(n:Nat):(sliceBounds lo hi none n).1=((HT.cT n 0 lo:Nat):Int)/\(sliceBounds lo hi none n).2.1=((HT.cT n n hi:Nat):Int)/\(sliceBounds lo hi none n).2.2=1:=by
 refine⟨?_,?_,rfl⟩
 .cases lo with
  |none=>simp[sliceBounds,HT.cT]
  |some i=>
   simp only[sliceBounds,HT.cT,Option.getD_none,show(1:Int) > 0 by decide,n4]
   by_cases h:i<0
   .simp only[h,n4] <;> lia
   .simp only[h,kS] <;> lia
 .cases hi with
  |none=>simp[sliceBounds,HT.cT]
  |some i=>
   simp only[sliceBounds,HT.cT,Option.getD_none,show(1:Int) > 0 by decide,n4]
   by_cases h:i<0
   .simp only[h,n4] <;> lia
   .simp only[h,kS] <;> lia
def Ra(aL:List ak)(lo hi:ai Int):slicePick aL.toArray lo hi none=((aL.drop (HT.cT aL.length 0 lo)).take (HT.cT aL.length aL.length hi - HT.cT aL.length 0 lo)).toArray:=by
 obtain⟨J,Y,V⟩:=Rh lo hi aL.toArray.size;unfold slicePick;rw[J,Y,V];simp only[sliceRange_one,pick_run,fO] <;> rfl
def yh(K:aP):V->ai Int->ai Int->Hp->VK->Prop:=λx lo hi H Q=>∃a xs,x=.ref a/\c7 K H a xs/\∀p,H p=none->Q (.ref p) (upd H p (.lst (mm xs lo hi)))
def Wd:pZ X (yh X.K):=by
 intro aa s Z H x v B F lo hi sl Q I W J pl V h;obtain⟨a,xs,rfl,Y,q⟩:=h;cases W;obtain⟨aL,r,ht,hz⟩:=I.list Y;have hlen:=r.length;refine⟨"list",_,slot_list_getitem.lookup,ht.isList.typeIs,?_⟩;refine wpAny_getItem_list_slice ht.isList J pl V .none (by simp) ?_ (by rw[fO] <;> lia)
 rw[Ra,<-hlen];refine⟨.ref s.heap.objs.size,_,I.laid (t':=s.toks) (o:=.lst (mm xs lo hi)) (λb ob q=>c8 _ q) (bU _) ?_,rfl,q _ (I.bN.fresh (bU _))⟩
 exact⟨jy (L9 xs lo hi) hz,_,0,(r.drop (HT.cT xs.length 0 lo)).take (HT.cT xs.length xs.length hi - HT.cT xs.length 0 lo),jb _ rfl⟩
def Ri:bT X (.builtin "len") (λxs H Q=>∃p ys,xs=[.ref p]/\(c7 X.K H p ys\/iE X.K H p ys)/\Q (.int ys.length) H):=by
 intro aa s Z H xs us Q I r h;obtain⟨p,ys,rfl,hq,q⟩:=h;obtain⟨u,rfl,J⟩:=vals1 r;cases J;have Y:=wg;rcases hq with hq|hq
 .obtain⟨aL,r',pl,hz⟩:=I.list hq;have hlen:=r'.length;exact Calls.call_len_list pl.isList (by simp only[fO] <;> lia) ⟨.int ys.length,H,I.tok _,⟨s.toks+1,by rw[fO,hlen]⟩,q⟩
 .obtain⟨aL,r',pl,hz⟩:=I.tuple hq;have hlen:=r'.length;exact len_tuple pl (by simp only[fO] <;> lia) ⟨.int ys.length,H,I.tok _,⟨s.toks+1,by rw[fO,hlen]⟩,q⟩
def lB:bT X (.builtin "len") (λxs H Q=>∃z,xs=[.str z]/\z.length<=sizeLine/\Q (.int z.length) H):=by
 intro aa s Z H xs us Q I r h;obtain⟨z,rfl,hz,q⟩:=h;obtain⟨u,rfl,t,rfl⟩:=vals1 r;have J:=wg;exact len_str (by lia) ⟨.int z.length,H,I.tok _,⟨_,rfl⟩,q⟩
def bT.or{r r':List V->Hp->VK->Prop}(h:bT X f r)(h':bT X f r'):bT X f (λxs H Q=>r xs H Q\/r' xs H Q):=by
 intro aa s Z H xs us Q I rs q;rcases q with q|q
 .exact h aa s Z H xs us Q I rs q
 .exact h' aa s Z H xs us Q I rs q
def Rj:bT X (.type "list") (λxs H Q=>∃p ys,xs=[.ref p]/\(c7 X.K H p ys\/iE X.K H p ys)/\∀l,H l=none->Q (.ref l) (upd H l (.lst ys))):=by
 intro aa s Z H xs us Q I r h;obtain⟨p,ys,rfl,hq,q⟩:=h;obtain⟨u,rfl,Y⟩:=vals1 r;cases Y;have fin:∀(aL:List ak),Vals ys aL->ys.length<=sizeLine->∀(h':bZ) (J:Nat),(∀b o',s.heap.get? b=some o'->h'.get? b=some o')->
   h'.get? s.heap.objs.size=some { cls:=.type "list",dict:=none,data:=.seq aL.toArray J,slots:=#[]}->EP X aa Z Q (.ref s.heap.objs.size) { s with heap:=h'}:=λaL r' hz h' J kp e=>
  ⟨.ref s.heap.objs.size,_,I.laid (t':=s.toks) kp (bU _) (show cw X.prog X.w _ h' _ (.lst ys) from⟨hz,aL,J,r',e⟩),rfl,q _ (I.bN.fresh (bU _))⟩
 rcases hq with hq|hq
 .obtain⟨aL,r',pl,hz⟩:=I.list hq;have hlen:=r'.length;obtain⟨o,ho,hc,n,hd⟩:=pl.isList;exact call_list_seq p (.inl rfl) ho hc hd (λh' J kp e=>fin aL r' hz h' J kp e) (by simp only[fO] <;> lia)
 .obtain⟨aL,r',pl,hz⟩:=I.tuple hq;have hlen:=r'.length;obtain⟨o,ho,hc,n,hd⟩:=pl;exact call_list_seq p (.inr rfl) ho hc hd (λh' J kp e=>fin aL r' hz h' J kp e) (by simp only[fO] <;> lia)
def Ge(K:aP)(T:String)(x:V)(H:Hp):Prop:=match x with
 |.str _=>T="str"
 |.int _=>T="int"
 |.ref p=>(T="list"/\∃xs,c7 K H p xs)\/(T="tuple"/\∃o,K.lookup p=some o/\o.cls=.type "tuple"/\o.dict=none)\/
   (T="dict"/\((∃kvs,H p=some (.dK kvs))\/(∃kvs,H p=some (.dT kvs))\/∃es ep,H p=some (.dG es ep)))\/(T="set"/\∃S n,H p=some (.set S n))
 |_=>False
def OK(I:Inv X aa Z H s)(r:RelV x v)(ty:Ge X.K T x H):
  s.TypeIs v T/\∀a,v=.ref a->∃ob,s.heap.get? a=some ob/\ob.dict=none:=by
 cases x with
 |str z=>
  obtain⟨t,rfl⟩:=r;cases(show T="str" from ty);exact⟨typeIs_str s z t,λ_ e=>nomatch e⟩
 |int i=>
  obtain⟨t,rfl⟩:=r;cases(show T="int" from ty);exact⟨typeIs_int s i t,λ_ e=>nomatch e⟩
 |ref p=>
  cases r;rcases ty with⟨rfl,xs,Y⟩|⟨rfl,o,J,hc,hd⟩|⟨rfl,J⟩|⟨rfl,S,n,J⟩
  .obtain⟨aL,_,pl,_⟩:=I.list Y;refine⟨pl.isList.typeIs,λa e=>?_⟩
   cases e;obtain⟨o,n,e,c,hd,_⟩:=pl;exact⟨o,e,hd⟩
  .refine⟨⟨o,I.jN p o J,hc⟩,λa e=>?_⟩
   cases e;exact⟨o,I.jN _ o J,hd⟩
  .have z:∃o,s.heap.get? p=some o/\o.ExactDict:=by
    rcases J with⟨kvs,J⟩|⟨kvs,J⟩|⟨es,ep,J⟩
    .obtain⟨_,_,_,_,o,_,_,e,ex,_⟩:=I.bN p _ J;exact⟨o,e,ex⟩
    .obtain⟨_,_,_,_,o,_,_,e,ex,_⟩:=I.bN p _ J;exact⟨o,e,ex⟩
    .obtain⟨_,_,o,_,e,ex,_⟩:=I.bN p _ J;exact⟨o,e,ex⟩
   obtain⟨o,e,ex⟩:=z;refine⟨⟨o,e,ex.1⟩,λa e2=>?_⟩
   cases e2;exact⟨o,e,ex.2.1⟩
  .obtain⟨o,_,_,_,e,ex,_⟩:=I.bN p _ J;refine⟨⟨o,e,ex.1⟩,λa e2=>?_⟩
   cases e2;exact⟨o,e,ex.2.1⟩
 |_=>exact False.elim ty
def K6(K:aP)(T:String)(r:V->List V->Hp->VK->Prop)(to:TE)(t:TA):TE:=λZ H Q=>to Z H λx H1=>Ge K T x H1/\t Z H1 λxs J=>r x xs J Q
variable{id:String}
def PN(d:PlainAttrs T)(slot:Slot T name id)(tu:typeOf (.builtin id)=pure (.type "method_descriptor"))(hm:GZ X id r)(ho:PE X o U)(q:PA X (e::es) t)
  (R:attributeBase o name X.env (eval o X.env)=eval o X.env:=by rfl)
  (qD:((backTo Y (starEach (e::es) X.env)).all (λx => !x.1)&&(backToKw Y (keywordEach [] X.env)).all (λx=>x.1.isSome) && decide ((e::es).length+([]:List Keyword).length+(if([]:List Keyword).isEmpty then 0 else 1)<30))=true:=by rfl)
  (L:(J.endLine == Y.line)=true:=by rfl) (z:starEach (e::es) X.env=(false,eval e X.env)::starEach es X.env:=by rfl) (p:(backTo Y (starEach es X.env)).any (·.1)=false:=by rfl) :
  PE X (.Call (.Attribute o name J) (e::es) [] Y) (K6 X.K T r U t):=by
 intro aa s Z H Q I h;refine wpAny_Call_method_late R qD L rfl (bO (ho aa s Z H _ I h) λv s1 y=>?_)
 obtain⟨x,H1,V,B,ty,m⟩:=y;obtain⟨D,O⟩:=OK V B ty;refine⟨T,id,d,slot,tu,D,O,?_⟩;have W:=q Y aa s1 Z H1 _ V m;rw[z] at W ⊢;refine Calls.callWith_builtin (by show(false || (backTo Y (starEach es X.env)).any (·.1))=false;rw[p] <;> rfl) (Calls.evalArgs_plain ?_)
 exact bO W λus s2 ⟨vs,F,S,r2,l⟩=>hm aa s2 Z F x vs v us Q S B r2 l
end
variable{aL:List ak}
def yI(X:Cx)(id:String)(r:V->List V->Hp->VK->Prop):Prop:=
 ∀(aa:List (aj×Obj)) (s:aB) (Z:St) (H:Hp) (x:V) (xs:List V) (v:ak) (us:List ak) (Q:VK),Inv X aa Z H s->RelV x v->Vals xs us->r x xs H Q->
  wpAny (mX X) X.A (call (.builtin id) (v::us)) (EP X aa Z Q) X.xe s
def Vals.one(h:Vals [x] us):∃u,us=[u]/\RelV x u:=by
 cases h with
 |cons r t=>
  cases t;exact⟨_,rfl,r⟩
def Vals.two(h:Vals [x,y] us):∃u v,us=[u,v]/\RelV x u/\RelV y v:=by
 cases h with
 |cons r t=>
  obtain⟨v,rfl,q⟩:=Vals.one t;exact⟨_,_,rfl,r,q⟩
section
def Inv.xJ(I:Inv X aa Z H s)(J:H l=some (.lst xs))
  (e:s.heap.get? l=some { cls:=.type "list",data:=.seq aL.toArray n}) (hf:f aL.toArray=its'.toArray) (hv:Vals ys its') (hz:ys.length<=sizeLine) :
  Inv X aa Z (upd H l (.lst ys)) { s with heap:=s.heap.update l (Obj.mapSeq f),toks:=t'}:=by
 have q:=PySem.IsL.update e f;rw[hf] at q;refine I.write (x:=l) (e:=l) (by rw[J];exact trivial) (.inl rfl) (λb' u hb Y=>(nY s.heap (Obj.mapSeq f) (Ne.symm hb)).trans Y) ⟨_,q⟩ ?_
 exact⟨hz,its',_,hv,q⟩
def Inv.Kl(I:Inv X aa Z H s)(hv:Vals ys aL)(hz:ys.length<=sizeLine):
  Inv X aa Z (upd H s.heap.objs.size (.lst ys)) { s with heap:=s.heap.push { cls:=.type "list",data:=.seq aL.toArray},toks:=t'}:=
 I.laid (λ_ _ q=>c8 _ q) (bU _) ⟨hz,aL,0,hv,jb _ rfl⟩
theorem Inv.fresh(I:Inv X aa Z H s):H s.heap.objs.size=none:=I.bN.fresh (bU _)
def Inv.xK(I:Inv X aa Z H s)(J:H l=some (.lst xs)):xs.length<=sizeLine/\∃aL n,Vals xs aL/\xs.length=aL.length/\s.heap.get? l=some { cls:=.type "list",data:=.seq aL.toArray n}:=by
 obtain⟨z,aL,n,r,e⟩:=I.bN l _ J;exact⟨z,aL,n,r,r.length,e⟩
end
section
def NG:V->List V->Hp->VK->Prop:=λx vs H Q=>∃l xs y,x=.ref l/\vs=[y]/\H l=some (.lst xs)/\xs.length<sizeLine/\Q .aI (upd H l (.lst (xs++[y])))
theorem Sv:yI X "list.append" NG:=by
 intro aa s Z H x vs v us Q I V rv h;obtain⟨l,xs,y,rfl,rfl,J,hz,q⟩:=h;cases V;obtain⟨u,rfl,Y⟩:=rv.one;obtain⟨z,aL,n,r,hl,e⟩:=I.xK J;refine call_meets F.slot_list_append ⟨_,e,rfl⟩ F.entry_list_append (F.args_list_append_2 _ _) (PySem.list_append l aL.toArray n u (by rw[fO];lia)) ⟨e,?_⟩
 refine⟨.aI,_,I.xJ (its':=aL++[u]) J e (by simp) (r.append (.cons Y .nil)) ?_,rfl,q⟩
 rw[cZ,sj];lia
end
section
variable[DecidableEq κ]
def iN.pA(r:iN o u):o.isSome=u.isSome:=by
 cases o with
 |none=>cases u with
  |none=>rfl
  |some _=>exact(show False from r).elim
 |some _=>cases u with
  |none=>exact(show False from r).elim
  |some _=>rfl
end
section
def Inv.big(I:Inv X aa Z H s):sysModules<s.heap.objs.size:=by
 have h:mainGlobals<s.heap.objs.size:=(I.mod.glob.keeps I.bk).lt;exact Nat.lt_trans (by decide) h
def Ic(I:Inv X aa Z H s)(mu:Ay (H a))(V:Heap.SameBut a s.heap h')(Y:∃q,h'.get? a=some q)(new:cw X.prog X.w (upd H a ob) h' a ob):
  Inv X aa Z (upd H a ob) { s with heap:=h',toks:=t'}:=
 I.write (x:=a) (e:=a) mu (.inl rfl) (λb q hb z=>(V.2 b hb).trans z) Y new
end
def E8:List (TE×TE)->St->Hp->(List (V×V)->Hp->Prop)->Prop
 |[],_,H,Q=>Q [] H
 |(tk,G)::r,Z,H,Q=>tk Z H λx H1=>G Z H1 λy Y=>E8 r Z Y λps U=>Q ((x,y)::ps) U
abbrev VV:List (V×V)->List (ak×ak)->Prop:=Paired λp q=>RelV p.1 q.1/\RelV p.2 q.2
def uj(X:Cx)(J:Pos)(U:List (ai Expr))(Y:List Expr)(G:List (TE×TE)):Prop:=
 ∀(aa:List (aj×Obj)) (s:aB) (Z:St) (H:Hp) (Q:List (V×V)->Hp->Prop),Inv X aa Z H s->E8 G Z H Q->
  wpAny (mX X) X.A (evalPairs (pairTrees U Y X.env J)) (λvs s'=>∃ps H',Inv X aa Z H' s'/\VV ps vs/\Q ps H') X.xe s
def tQ:uj X J [] [] []:=λaa s Z H Q I h=>pairTrees_nil_walk ⟨[],H,I,.nil,h⟩
def Uc{V:List (TE×TE)}(S:PE X k tk)(hv:PE X v U)(R:uj X J ks vs V):
  uj X J (some k::ks) (v::vs) ((tk,U)::V):=λaa s Z H Q I h=>
 pairTrees_cons_walk (bO (S aa s Z H _ I h) λu s1 ⟨x,H1,B,q,L⟩=>bO (hv aa s1 Z H1 _ B L) λp s2 ⟨y,G,F,z,D⟩=> bO (R aa s2 Z G _ F D) λws s3 ⟨ps,W,T,Y,O⟩=>⟨(x,y)::ps,W,T,.cons ⟨q,z⟩ Y,O⟩)
end L2
namespace LS
open PySem PySem.W PySem.Calls PyProof.Rows
variable{l:OpenLaw}
def Q2:∀ns vs,WellAll P h vs (ns.map WData.int)->IntsAre vs ns:=by
 intro ns
 induction ns with
 |nil=>
  intro vs w;rw[DE] at w;cases w;exact .nil
 |cons n ns J=>
  intro vs w;rw[cS] at w;cases w with
  |cons a b=>
   cases a;exact .cons _ _ (J _ b)
def Sx(T:l.most=some n)
  (U:l.row.toRowW.claim.pre args=true) (G:WellAll P h J args) :
  ∃a vs ns,J=[Value.ref a]/\args=[WData.list (ns.map WData.int)]/\h.get? a=some { cls:=.type "list",data:=.seq vs.toArray}/\IntsAre vs ns/\ns.length<=n:=by
 have V:WShape.hasAll [] args [.list .int]=true:=(pre_splitW U).1;have hc:l.pre.holds [] { args:=args}=true:=(pre_splitW U).2;obtain⟨d,r,rfl,W,B⟩:=hasAllW_cons V;obtain rfl:=hasAllW_nil B;obtain⟨xs,rfl,F⟩:=hasW_list W;obtain⟨ns,rfl⟩:=items_int F;have hlen:ns.length<=n:=by
  unfold OpenLaw.pre at hc;have Y:(WTm.not (.lt (.lit (.int (n:Int))) (.len (.arg 0)))).holds [] { args:=[.list (ns.map .int)]}=true:=by
   have Y:=(holds_andW hc).1;rw[T] at Y;exact Y
  have D:=condW_of Y (w_not (w_lt w_lit (w_len_list (w_arg rfl))))
  simp_all
 cases G with
 |cons R L=>
  cases L;cases R with
  |list ho S=>exact⟨_,_,ns,rfl,rfl,ho,Q2 ns _ S,hlen⟩
def Sy(l:OpenLaw)(args:List WData):l.row.toRowW.claim.post args (.bool true) args=true:=
 postW_of (r:=l.row.toRowW) (X:=(true == true))
  (show WShape.has [] (.bool true) .bool=true by first|rfl|decide|simp[WShape.has,WShape.arms,WShape.armsAll])
  (show(WTm.eq .res (.lit (.bool true))).value [] { args:=args,res:=some (.bool true),after:=args}=some (.bool (true == true)) from w_eq_bool (w_res rfl) w_lit) rfl
def mi
  (m:l.most=some n) (Ca:d.params.defaults=[])
  (call:∀w s₀ V mg mb W o pm B doc a vs ns,Ground q J [] T w s₀ mg mb V.heap->S w V.heap-> V.heap.get? W=some o->o.data=.func (docDef d.name d.params d.body d.scope pm B doc)->V.heap.CodeRec B d.name->mg d.name=some (.ref W)-> V.heap.get? a=some { cls:=.type "list",data:=.seq vs.toArray}->IntsAre vs ns->ns.length<=n->V.gens=#[]-> codeAny (model l.prog w) callerA (.call (.ref W) ⟨[.ref a],[]⟩) (λr s'=>r=.ok (.ret (.bool true))/\OldK V.heap s'.heap/\s'.os=V.os/\AllBare s'.gens) V) :
  WalkO q J T S l.row.toRowW d [] (λf vs=>PySem.call f vs):=by
 intro w s₀ V mg mb G Y W o pm B doc O kV ho hd qC R F p args D as tq L hrd I b;obtain rfl:O=.none:=Dflts.none R Ca;obtain rfl:kV=.none:=Dflts.noKw R;obtain⟨a,vs,ns,rfl,rfl,xu,U,hlen⟩:=Sx m tq I;refine enter_call (codeAny_mono (call w s₀ V mg mb W o pm B doc a vs ns G Y ho (fd_plain hd) qC F xu U hlen p) λr s' t=>?_)
 obtain⟨rfl,j,y,z⟩:=t;exact⟨.inl ⟨.bool true,.bool true,[],rfl,λ_=>rfl,.bool true,Sy l _,λ_=>⟨List.Pairwise.nil,λ_ hm=>(nomatch hm)⟩⟩,j,y,z⟩
end LS
namespace L2
open PySem PySem.Spec PyProof.Rows
theorem Mx:∀{vs:List ak} {ns:List Int},IntsAre vs ns->Vals (ns.map V.int) vs
 |_,_,.nil=>.nil
 |_,_,.cons n t h=>.cons ⟨t,rfl⟩ (Mx h)
def vQ(H:Hp):Prop:=∀b,H b=none\/∃o xs,H b=some (.Y o (.lst xs))
def Ud{K:aP}
  (L:K.In J.heap) (Qm:J.heap.Ns mainGlobals mg) (hb:J.heap.Ns builtinsNs mb) (S:∀x:Str,x≠"__name__"->mb x=bootBuiltins x) (y:J.heap.NoLimit) (hg:J.gens=#[])
  (T:J.heap.get? a=some { cls:=.type "list",data:=.seq vs.toArray}) (hi:IntsAre vs ns) (hl:ns.length<=sizeLine) (hr:cH k callerA)
  (F:∀base:bZ,K.In base->base.Ns mainGlobals mg->dO P w K mg base CX k B fd [x] sp) (O:∀s u,BindsTo s fd ⟨[u],[]⟩ [(x,u)])
  (uN:∀H:Hp,vQ H->c7 K H a (ns.map V.int)->sp [.ref a] H (λv _=>v=.bl true) λ_ _ _=>False)
  (Jv:∀H e s',CX [] H J (λ_ _ _=>False) e s'->False) :
  codeAny (model P w) callerA (.call (.ref B) ⟨[.ref a],[]⟩) (λr s'=>r=.ok (.ret (.bool true))/\OldK J.heap s'.heap/\s'.os=J.os/\AllBare s'.gens) J:=by
 have rv:=Mx hi;have Kk:=hi.length;have U:∀H:Hp,vQ H->c7 K H a (ns.map V.int)->jk P w H J.heap->(∀b,H b≠none->b=a)->(H a≠none->K.lookup a=none)->
   codeAny (model P w) callerA (.call (.ref B) ⟨[.ref a],[]⟩) (λr s'=>r=.ok (.ret (.bool true))/\OldK J.heap s'.heap/\s'.os=J.os/\AllBare s'.gens) J:=by
  intro H D hS bN hA hK;have I:∀{b:aj} {o:Obj},J.heap.get? b=some o->H b=none->(lG J.heap H).get? b=some o:=λe n=>TV e n
  have j:∀{b:aj} {o:Obj} {es:Array DictEntry} {ep:Nat},J.heap.get? b=some o->o.data=.dict es ep->H b=none:=λ{b o es ep} e d=>by
   grind
  have W:∀{b:aj} {m:Str->ai ak},J.heap.Ns b m->(lG J.heap H).Ns b m:=λ{b m} ⟨o,es,ep,e,d,r⟩=>⟨o,es,ep,I e (j e d),d,r⟩
  have Qa:K.In (lG J.heap H):=λb o e=>I (L b o e) (by
   grind)
  have hM:Mod K mg (lG J.heap H):=⟨Qa,W Qm,⟨mb,W hb,S⟩,let ⟨mc,l,h2⟩:=y;⟨mc,W l,h2⟩⟩
  have t:nt P w K mg (lG J.heap H) callerA [] J H:=⟨rfl,hM,λb o e=>VT e,DD (Si _ _),trivial,λb hb=>cQ (show b∈([]:List aj) from hb) (by simp),bN,.of_eq hg⟩
  refine codeAny_mono ((F _ Qa (W Qm)).run callerA [] J H ⟨[.ref a],[]⟩ [.ref a] [.ref a] _ _ hr t (O J (.ref a)) (.cons rfl .nil) (uN H D hS)) λr s' h=>?_
  cases r with
  |error e=>exact(Jv H e s' h).elim
  |ok fl=>
   cases fl with
   |next=>exact False.elim h
   |brk=>exact False.elim h
   |cont=>exact False.elim h
   |ret u=>
    obtain⟨v,H',os,bare,un,p,r',q⟩:=h;have q':v=.bl true:=q;subst q';obtain rfl:u=Value.bool true:=r';refine⟨rfl,OldK.of_keep λb o e=>?_,os,bare⟩
    cases q:H b with
    |none=>exact un.keep b o e q (by intro z;exact cQ (show b∈([]:List aj) from z) (by simp)) (by simp)
    |some u=>
     rcases D b with z|⟨ob,xs,z⟩
     .rw[q] at z;cases z
     .have z2:=un.kf b ob _ z;obtain⟨e1,_⟩:=bN b _ z;obtain⟨e2,_⟩:=p b _ z2
      lia
 cases R:K.lookup a with
 |some o=>
  have e:=L a o R;rw[T] at e;cases e;refine U (λ_=>none) (λ_=>.inl rfl) (.inr ⟨_,vs.toArray,_,R,rfl,rfl,rfl,by rw[fO,Kk];exact hl,by simpa using rv⟩) (λb u z=>by have G:(none:ai HO)=some u:=z;cases G) (λb z=>cQ rfl z) λz=>cQ rfl z
 |none=>
  refine U (λb=>if b=a then some (.Y { cls:=.type "list",data:=.seq vs.toArray} (.lst (ns.map V.int))) else none) (λb=>?_) (.inl (.inr ⟨{ cls:=.type "list",data:=.seq vs.toArray},bJ rfl⟩)) (λb u z=>?_) (λb z=>?_) λ_=>R
  .by_cases hb:b=a
   .exact .inr ⟨_,_,bJ hb⟩
   .exact .inl (bq hb)
  .by_cases hb:b=a
   .have G:=(bJ hb).symm.trans z;cases G;subst hb;exact⟨T,by rw[ba];exact hl,vs,_,rv,T⟩
   .have G:=(bq hb).symm.trans z;cases G
  .by_cases hb:b=a
   .exact hb
   .exact cQ (bq hb) z
def ub{l:PySem.W.OpenLaw}{K:Params->aP}{CX:cL->rC}{sp:cL->Sp}
  (y:l.most=some n) (t:n<=sizeLine) (Ca:d.params.defaults=[]) (z:cH k callerA)
  (O:∀w h,L w h->(K w.params).In h)
  (F:∀w mg B h,(K w.params).In h->h.Ns mainGlobals mg->mg d.name=some (.ref B)-> ∃fd:kR,(∀s u,BindsTo s fd ⟨[u],[]⟩ [(x,u)])/\ ∀base:bZ,(K w.params).In base->base.Ns mainGlobals mg->dO l.prog w (K w.params) mg base (CX w) k B fd [x] (sp w))
  (m:∀(w:cL) (H:Hp) (a:aj) (ns:List Int),ns.length<=n->vQ H->c7 (K w.params) H a (ns.map V.int)->sp w [.ref a] H (λv _=>v=.bl true) λ_ _ _=>False)
  (Jv:∀w H s e s',CX w [] H s (λ_ _ _=>False) e s'->False) :
  PySem.W.WalkO q U D L l.row.toRowW d [] (λf vs=>PySem.call f vs):=by
 refine LS.mi y Ca λw s₀ p mg mb B o pm cd doc a vs ns G Y ho hd qC S xu J hlen j=>?_
 have R:=O w _ Y;obtain⟨fd,hb,hF⟩:=F w mg B _ R G.T.g S;exact Ud R G.T.g G.T.b G.T.builtins G.T.nolimit j xu J (jy hlen t) z hF hb (λH I hS=>m w H a ns hlen I hS) λH e s'=>Jv w H p e s'
variable{st:Stmt}
noncomputable def NH(s:Stmt)(j:Nat):Stmt:=match s with
 |.ClassDef _ _ _ body _ _ _ _ _ _ _=>body.getD j (.Pass ⟨0,0,0,0⟩)
 |_=>.Pass ⟨0,0,0,0⟩
noncomputable def zq(s:Stmt):Arguments:=match s with
 |.FunctionDef _ a _ _ _ _ _ _ _ _=>a
 |_=>{ posonlyargs:=[],args:=[],vararg:=none,kwonlyargs:=[],kw_defaults:=[],kwarg:=none,defaults:=[]}
def ur(s:Stmt):List Stmt:=match s with
 |.FunctionDef _ _ b _ _ _ _ _ _ _=>b
 |_=>[]
noncomputable def mf(s:Stmt):Scope:=match s with
 |.FunctionDef _ _ _ _ _ _ sc _ _ _=>sc
 |_=>{ kind:=.function,names:=[],isGenerator:=false,isCoroutine:=false}
structure pV (K:aP) (x qual:Str) (st:Stmt) (f:aj) (fd:kR):Prop where
 ex:∃(oc:ak) (od:ai aj) (kV doc pm:ak) (an:ai aj) (fI ct:ak) (oF:Array (ai ak)),
  fd=PySem.W.fnOf x qual (zq st) (ur st) (mf st) .none kV doc pm an fI ct/\K.lookup f=some ⟨oc,od,.func fd,oF⟩/\PySem.W.codeIn K fI qual=true
 kp:PySem.W.keepIn K (.ref f)=true
section
variable{K:aP}
def pV.binds(F:pV K x qual st f fd)
  (h:∀kV doc pm an fI ct us,us.length=ps.length->bindArgs (PySem.W.fnOf x qual (zq st) (ur st) (mf st) .none kV doc pm an fI ct) ⟨us,[]⟩=pure (ps.zip us)):Binds K fd ps []:=by
 obtain⟨oc,od,kV,doc,pm,an,fI,ct,oF,rfl,lk,J⟩:=F.ex;exact .all (h kV doc pm an fI ct)
def fun_mk{kV doc pm fI ct:ak}(l:K.lookup f=some ⟨oc,od,.func (PySem.W.fnOf x qual (zq st) (ur st) (mf st) .none kV doc pm an fI ct),oF⟩)
  (c:PySem.W.codeIn K fI qual=true) (k:PySem.W.keepIn K (.ref f)=true):pV K x qual st f (PySem.W.fnOf x qual (zq st) (ur st) (mf st) .none kV doc pm an fI ct):=⟨⟨oc,od,kV,doc,pm,an,fI,ct,oF,rfl,l,c⟩,k⟩
end
def qK{A B:Prop}(h:B):if false=true then A else B:=by
 rw[bq pQ];exact h
def qL{A B:Prop}(h:A):if true=true then A else B:=by
 rw[bJ rfl];exact h
def aE(H H':Hp):Prop:=∀b o,H b=some o->H' b=some o
def aE.refl(H:Hp):aE H H:=λ_ _ h=>h
def aE.trans(a:aE H H1)(b:aE H1 J):aE H J:=λc o h=>b c o (a c o h)
def aE.free(e:aE H H')(h:H' l=Option.none):H l=Option.none:=by
 cases q:H l with
 |none=>rfl
 |some o=>
  rw[e l o q] at h;cases h
def aE.seq{K:aP}(e:aE H H')(h:c7 K H a xs):c7 K H' a xs:=by
 rcases h with(h|⟨o,h⟩)|h
 .exact .inl (.inl (e _ _ h))
 .exact .inl (.inr ⟨o,e _ _ h⟩)
 .exact .inr h
end L2
set_option maxHeartbeats 4000000
namespace L2
open PySem PySem.Spec PyProof.Rows
variable{env:Env}{x:Str}{c:aj}{X:Cx}
noncomputable def ka(env:Env)(names:List (Str×nZ)):List (Str×aj):=((names.filter λy=>y.2 == .free).reverse).map λy=>(y.1,(env.cells.lookup y.1).getD 0)
theorem L_{g:Str->aj}:∀{l:List (Str×nZ)},(∃k,(x,k)∈l)->(l.map λy=>(y.1,g y.1)).lookup x=some (g x)
 |[],h=>by obtain⟨k,h⟩:=h;cases h
 |(n,k)::r,h=>by
  show List.lookup x ((n,g n)::_)=_;cases J:x == n with
  |true=>
   simp_all
  |false=>
   simp only[List.lookup_cons,J];refine L_ (l:=r) ?_
   simp_all
theorem LX{g:Str->aj}:∀{l:List (Str×nZ)},(l.map λy=>(y.1,g y.1)).lookup x=some c->c=g x/\∃k,(x,k)∈l
 |[],h=>by cases h
 |(n,k)::r,h=>by
  have h:List.lookup x ((n,g n)::(r.map λy=>(y.1,g y.1)))=some c:=h
  cases Y:x == n with
  |true=>
   simp_all
  |false=>
   simp only[List.lookup_cons,Y] at h;obtain⟨e,k',J⟩:=LX h;exact⟨e,k',pJ _ J⟩
def MX(h:(x,NameKind.free)∈names)(hc:env.cells.lookup x=some c):(ka env names).lookup x=some c:=by
 have:=L_ (g:=λn=>(env.cells.lookup n).getD 0) (x:=x) (l:=(names.filter λy=>y.2 == .free).reverse) ⟨.free,by simp[h]⟩
 unfold ka;rw[this,hc];rfl
def Ie(hf:∀y∈names,y.2=.free->∃c,env.cells.lookup y.1=some c)(h:(ka env names).lookup x=some c):env.cells.lookup x=some c:=by
 obtain⟨e,k,J⟩:=LX (g:=λn=>(env.cells.lookup n).getD 0) h
 grind
theorem Hh:∀names cs,(∀y∈names,y.2=.free->∃c,env.cells.lookup y.1=some c)->
  (forIn names cs (λ(x:Str×nZ) (r:List (Str×aj))=>if(x.2 == NameKind.free)=true then(do let a <-cellOf env x.1;pure (ForInStep.yield ((x.1,a)::r))) else(pure (ForInStep.yield r):Sem (ForInStep (List (Str×aj)))))) =
   pure (ka env names++cs)
 |[],cs,_=>by rw[List.forIn_nil];rfl
 |(n,k)::r,cs,h=>by
  rw[List.forIn_cons];cases J:k == NameKind.free with
  |true=>
   obtain⟨c,hc⟩:=h (n,k) Af (by simpa using J)
   have V:env.cells.lookup n=some c:=hc;have e:cellOf env n=pure c:=by unfold cellOf;rw[V]
   simp only[J,n4,e,pure_bind];rw[Hh r _ λy Y=>h y (pJ _ Y)]
   congr 1
   unfold ka
   simp_all
  |false=>
   simp only[J,rm,kS,pure_bind];rw[Hh r _ λy Y=>h y (pJ _ Y)]
   congr 1
   unfold ka;rw[yx];simp[J]
def LV(h:∀y∈scope.names,y.2=.free->∃c,env.cells.lookup y.1=some c):closureFor scope env=pure (ka env scope.names):=by
 have:=Hh (env:=env) scope.names [] h;rw[jI] at this;unfold closureFor;show(forIn scope.names [] _ >>= λr=>pure r)=_
 rw[bind_pure];exact this
theorem L3:∀{names:List (Str×nZ)} {x:Str},names.lookup x=some .free->
  (names.map λ(n,k)=>if(k == NameKind.free&&env.scope.kind == .function&&env.kindOf n == some .cell) then(n,NameKind.cell) else(n,k)).lookup x=some .cell\/
  (names.map λ(n,k)=>if(k == NameKind.free&&env.scope.kind == .function&&env.kindOf n == some .cell) then(n,NameKind.cell) else(n,k)).lookup x=some .free
 |[],_,h=>by simp at h
 |(n,k)::r,x,h=>by
  have J:=@L3 r x
  grind
theorem Hi:∀{names:List (Str×nZ)} {x:Str} {q:nZ},(q=.cell\/q=.free)->(∀y∈names,y.2≠.cell)->
  (names.map λ(n,k)=>if(k == NameKind.free&&env.scope.kind == .function&&env.kindOf n == some .cell) then(n,NameKind.cell) else(n,k)).lookup x=some q->(x,NameKind.free)∈names
 |[],_,_,_,_,h=>by simp at h
 |(n,k)::r,x,q,Y,J,h=>by
  have U:=@Hi r x q Y λy V=>J y (pJ _ V)
  grind
def fR(X:Cx)(scope:Scope)(M:List Str)(C:aj)(s:aB)(H:Hp)(fp:List aj):Cx:=
 {X with N:=M,s₀:=s,H₀:=H,env:=compEnvC scope (ka X.env scope.names) C X.env,outer:=X.stack,ex:=fp,fn:=λ_=>false,pn:=[],xe:=λ_ _=>False}
noncomputable def j_(k:Nat)(dw:List Nat)(Z:St):St:=List.replicate k none++dw.map λi=>(Z[i]?).join
def pX(X:Cx)(J:List Expr)(t:TT):Prop:=
 ∀(aa:List (aj×Obj)) (s:aB) (Z:St) (H:Hp) (Q:Bool->Hp->Prop),Inv X aa Z H s->t Z H Q->
  wpAny (mX X) X.A (forIn J true λc r=>if r=true then do let ok <-isTrue c X.env (eval c X.env);pure (ForInStep.yield ok) else pure (ForInStep.yield r)) (TP X aa Z Q) X.xe s
def Le:TT:=λ_ H Q=>Q true H
def We:pX X [] Le:=λ_ _ Z H _ I h=>wpAny_tests_nil ⟨H,I,h⟩
def Wf{c:Expr}(hc:PT X c t):pX X [c] t:=λaa s Z H Q I h=>wpAny_tests_one (hc aa s Z H Q I h)
def QZ{V J Y:Expr}(I:Nat->aB->Prop)
  (turn:∀n s,I n s->wpAny (model prog w) A (pyNext it) (λr G=>match r with
   |none=>R (.ok .next) G
   |some v=>wpAny (model prog w) A (letOwnedTupleGo J it v) (λ_ s₀=>wpAny (model prog w) A (assign J env v) (λ_ T=>
     wpAny (model prog w) A (forIn U true λc r=>if r=true then do let ok <-isTrue c env (eval c env);pure (ForInStep.yield ok) else pure (ForInStep.yield r)) (λok W=>
      if ok=true then wpAny (model prog w) A (eval V env) (λx S=>
       wpAny (model prog w) A (call (.builtin "list.append") [aO,x]) (λ_ L=>∃m,m<n/\I m L) (λ_ _=>False) S) (λ_ _=>False) W
      else ∃m,m<n/\I m W) (λ_ _=>False) T) (λ_ _=>False) s₀) (λ_ _=>False) G) (λ_ _=>False) s)
  (n:Nat) (h:I n s) :
  codeAny (model prog w) A (.compLoop (.ListComp V [⟨J,Y,U,0⟩] scope pos) 0 it aO env) R s:=by
 refine codeAny_loop rfl I (λn s hI=>?_) n h
 show wpAny _ A ((compTurn (.ListComp V [⟨J,Y,U,0⟩] scope pos) 0 it aO env).onRaise (λx=>do noteFrame x env;theTreesLotGoes x)) _ _ s
 refine wpAny_noted ?_;rw[compTurn_list];refine aK (wpAny_standAt (aK (wpAny_mono (turn n s hI) (λr G B=>?_) λ_ _ h'=>h'.elim)))
 cases r with
 |none=>exact bw B
 |some v=>
  refine aK (wpAny_mono B (λ_ s₀ h₀=>?_) λ_ _ h'=>h'.elim)
  refine aK (wpAny_mono h₀ (λ_ T D=>aK (wpAny_mono D (λok W F=>?_) λ_ _ h'=>h'.elim)) λ_ _ h'=>h'.elim)
  cases ok with
  |false=>exact bw ⟨rfl,F⟩
  |true=>
   exact aK (aK (wpAny_mono F (λx S O=>aK (wpAny_mono O (λ_ L j=>bw (bw ⟨rfl,j⟩)) λ_ _ h'=>h'.elim)) λ_ _ h'=>h'.elim))
variable{H:Hp}{s:aB}
def Inv.Dq(I:Inv X aa Z H s)(J:H a=none)(W:X.s₀.heap.objs.size<=a)(V:a≠X.env.locals)(Y:∀x c,X.env.cells.lookup x=some c->c≠a)
  (U:∀p∈X.pn++aa,p.1≠a) (new:cw X.prog X.w (upd H a o) s.heap a o):Inv X aa Z (upd H a o) s:=by
 refine⟨I.ok,I.os,I.bare,⟨I.base.keep,I.base.slot,λb ob e n G=>?_,I.base.there,λb xs e=>?_,λb ob u e=>?_,λb ps e=>?_⟩,I.loc,I.cell,?_,λx c e=>?_,λp hp=>?_,λb u e=>?_,I.len⟩
 .rw[dz (g_ (gq (cV e) W))];exact I.base.free b ob e n G
 .have z:=I.base.kP b xs e;rw[dz (p6 z J)];exact z
 .have z:=I.base.kf b ob u e;rw[dz (p6 z J)];exact z
 .obtain⟨m,z⟩:=I.base.kO b ps e;exact⟨m,by rw[dz (p6 z J)];exact z⟩
 .rw[dz (Ne.symm V)];exact I.free
 .rw[dz (Y x c e)];exact I.eW x c e
 .obtain⟨e,n,r⟩:=I.pin p hp;exact⟨e,by rw[dz (U p hp)];exact n,r⟩
 .by_cases hb:b=a
  .grind [aQ]
  .rw[dz hb] at e;exact(I.bN b u e).lW (λc v _ q=>q) (λc q=>by rw[dz (p6 q J)];exact q) λc xs q=>by rw[dz (p6 q J)];exact q
def n6(J:It)(g:TG)(tt:TT)(te:TE)(F:St)(H1:Hp)(Fin:List V->Hp->Prop):Prop:=
 ∃(n:Nat) (W:Nat->St->List V->Hp->Prop),W 0 F [] H1/\∀i τ aO H,i<=n->W i τ aO H->
  (J.stop i H/\Fin aO H)\/(i<n/\J.go i H/\∀x H',J.rB i H x H'->g x τ H' λY G=>tt Y G λb U=>if b=true then te Y U λv B=>aO.length<sizeLine/\W (i+1) Y (aO++[v]) B else W (i+1) Y aO U)
structure eL (X:Cx) (scope:Scope) (M:List Str) (k:Nat) (dw:List Nat):Prop where
 kind:scope.kind=.function
 cell:∀y∈scope.names,y.2≠.cell
 free:∀y∈scope.names,y.2=.free->X.env.kindOf y.1=some .cell\/X.env.kindOf y.1=some .free
 names:∀y∈scope.names,y.2=.local -> scope.names.lookup y.1=some .local
 len:M.length=k+dw.length
 IW:∀(j i:Nat) (x:Str),dw[j]?=some i->M[k+j]?=some x->X.N[i]?=some x/\scope.names.lookup x=some .free
section
variable{X:Cx}
def Inv.iX(I:Inv X aa Z H s)(ok:eL X scope M k dw):∀y∈scope.names,y.2=.free->∃c,X.env.cells.lookup y.1=some c:=λy J e=>I.ok.has y.1 (ok.free y J e)
def Inv.block(I:Inv X aa Z H s)(ok:eL X scope M k dw)(V:∀b∈fp,ji X aa H b)(FJ:∀b∈fp,∃o,s.heap.get? b=some o/\∀v,o.data≠.cell v)
  (d:s.heap.objs.size<=C) (B5:D≠C) (hD:s.heap.objs.size<=D) (old:∀b o,s.heap.get? b=some o->s4.heap.get? b=some o) (os:s4.os=s.os) (gens:s4.gens=s.gens)
  (ns:s4.heap.Ns C m) (JW:s4.heap.get? D=some T) (JH:∀v,T.data≠.cell v):Inv (fR X scope M C s H fp) [(D,T)] (j_ k dw Z) H s4:=by
 have hf:=I.iX ok;have fr:∀a,s.heap.objs.size<=a->H a=none:=λa ha=>I.bN.fresh ha
 have nfs:∀b∈ke X.stack,b<s.heap.objs.size:=λb hb=>by
  rcases y0c.mp (I.kx b hb) with e|e
  .rw[e];exact I.lt
  .exact Nat.lt_of_not_le λz=>I.xS z e
 have cl:∀x c,(ka X.env scope.names).lookup x=some c->X.env.cells.lookup x=some c:=λx c e=>Ie hf e
 refine⟨⟨I.ok.mod,ok.kind,I.ok.glob,I.ok.blt,d,λx y c e1 e2=>I.ok.inj x y c (cl x c e1) (cl y c e2),λx n=>?_,λx c e _=>?_,I.ok.hd,I.ok.frames,.inl rfl,λb hb=>?_,I.bs,jy I.ok.qj I.sz,λb o e hb=>?_,λb hb z=>?_,I.stack,I.jP⟩,os,by rw[gens];exact I.bare,Un.kept old,⟨m,ns,λi x v h1 J h3=>?_⟩,λx c e=>?_,fr C d,λx c e=>I.eW x c (cl x c e),λp hp=>?_,I.bN.kept old,?_⟩
 .have n:(relabel scope X.env).names.lookup x=some .cell\/(relabel scope X.env).names.lookup x=some .free:=n;have hm:(x,NameKind.free)∈scope.names:=by
   rcases n with h|h
   .exact Hi (env:=X.env) (.inl rfl) ok.cell h
   .exact Hi (env:=X.env) (.inr rfl) ok.cell h
  obtain⟨c,hc⟩:=hf _ hm rfl;exact⟨c,MX hm hc⟩
 .cases e
 .obtain⟨f0,R,V,L,O,f5⟩:=V b hb;obtain⟨ob,eb,_⟩:=FJ b hb;exact⟨g_ (gq (cV eb) d),λx c e=>O x c (cl x c e)⟩
 .obtain⟨f0,R,V,L,O,f5⟩:=V b hb;rcases L with q|q
  .exact I.ok.nI b o e q
  .exact cQ (gq (cV e) (jy I.ok.qj q)) (jQ _)
 .obtain⟨f0,R,V,L,O,f5⟩:=V b hb;rcases y0c.mp (I.kx b z) with q|q
  .exact R q
  .exact V q
 .unfold j_ at J;have hk:¬i<k:=λq=>by
   rw[nX (by simpa using q),LA] at J
   split at J <;> cases J
  rw[oW (by simpa using hk),oX,fB] at J
  cases e:dw[i - k]? with
  |none=>rw[e] at J;cases J
  |some j=>
   rw[e] at J;have W:(Z[j]?).join=some v:=Option.some.inj J;have hj:Z[j]?=some (some v):=by
    cases q:Z[j]? with
    |none=>rw[q] at W;cases W
    |some z=>rw[q] at W;simp at W;rw[W]
   have xp:k+(i - k)=i:=by lia
   obtain⟨hN,qE⟩:=ok.IW (i - k) j x e (by rw[xp];exact h1)
   have hm:(x,NameKind.free)∈scope.names:=PySem.mem_of_lookup qE;have t:=ok.free _ hm rfl;obtain⟨mX,hnX,l⟩:=I.loc;obtain⟨u,ru,lk⟩:=l j x v hN hj (by rcases t with q|q;exact .inr (.inl q);exact .inr (.inr q))
   refine⟨u,ru,.inr ⟨L3 (env:=X.env) qE,?_⟩⟩;rcases lk with⟨q,_⟩|⟨_,c,hc,ox⟩
   .lia
   .exact⟨c,MX hm hc,ox.keeps old⟩
 .obtain⟨v,z⟩:=I.cell x c (cl x c e);exact⟨v,z.keeps old⟩
 .have e:p=(D,T):=by simpa[fR] using hp
  subst e;exact⟨JW,fr D hD,B5,λz=>cQ (gq (nfs D z) hD) (jQ _),JH⟩
 .unfold j_;rw[cZ,oX,ba];exact ok.len.symm
def My{RR:ak->aj->Result->aB->Prop}{Fin:List V->Hp->Prop}(j:Inv X aa Z L s2)(hc:X.calm=true)(ok:eL X scope M k dw)
  (T:Turn X.prog X.w X.K tg J fp it tn) (iI:tn 0 s2.heap) (f2:∀b∈fp,ji X aa L b)
  (hg:∀C s H fp,PG (fR X scope M C s H fp) tg g) (ht:∀C s H fp,pX (fR X scope M C s H fp) G tt) (he:∀C s H fp,PE (fR X scope M C s H fp) U F)
  (hW:n6 J g tt F (j_ k dw Z) L Fin)
  (hRR:∀D C s' H' aO,Inv X aa Z (upd H' D (.lst aO)) s'->ji X aa (upd H' D (.lst aO)) C->(∃m,s'.heap.Ns C m)->H' D=none->Fin aO H'->RR (.ref D) C (.ok .next) s') :
  wpAny (mX X) X.A (newList []) (λaO s₃=>wpAny (mX X) X.A (newFunctionEnv scope X.env.globals (ka X.env scope.names) [] X.env.qual none .none (some X.env)) (λBI s₄=> codeAny (mX X) X.A (.compStart (.ListComp U [⟨tg,Y,G,0⟩] scope B) 0 (.ref it) aO { BI with scope:=relabel scope X.env}) (RR aO BI.locals) s₄) E s₃) E s2:=by
 refine wpAny_newObj_type (wpAny_newFunctionEnv ok.cell (by intro y hy;simp at hy) (λh₁ l O=>?_) ok.kind)
 dsimp only at l O ⊢;generalize Jx:s2.heap.push { cls:=.type "list",dict:=none,data:=.seq ([]:List ak).toArray}=R at l O ⊢;have Jw:R.objs.size=s2.heap.objs.size+1:=by rw[<-Jx,Heap.size_push]
 have B5:s2.heap.objs.size≠R.objs.size:=by rw[Jw];exact g_ (uf _)
 have below:∀b,b<s2.heap.objs.size->b≠R.objs.size/\b≠s2.heap.objs.size:=λb hb=>⟨by rw[Jw];exact g_ (yy hb),g_ hb⟩
 have old:∀b o,s2.heap.get? b=some o->h₁.get? b=some o:=λb o e=>O.extBut b o (below b (cV e)).1 (c8 _ (Jx ▸ c8 _ e))
 have s_:h₁.get? s2.heap.objs.size=some { cls:=.type "list",data:=.seq ([]:List ak).toArray 0}:=O.extBut _ _ B5 (c8 _ (Jx ▸ jb _ rfl));have FJ:=T.obj 0 _ iI;have s9:s2.heap.objs.size<=R.objs.size:=by rw[Jw];exact ug _
 obtain⟨N,W,w0,turn⟩:=hW;have QM:tn 0 h₁:=T.keep _ _ _ iI λb _ o e=>old b o e
 have loop:∀s₃:aB,s₃={ s2 with heap:=h₁,toks:=s2.toks+([]:List (Str×ak)).length}->
   codeAny (mX X) X.A (.compLoop (.ListComp U [⟨tg,Y,G,0⟩] scope B) 0 (.ref it) (.ref s2.heap.objs.size) (compEnvC scope (ka X.env scope.names) R.objs.size X.env))
    (RR (.ref s2.heap.objs.size) R.objs.size) s₃:=by
  rintro s₃ rfl;have I3:Inv (fR X scope M R.objs.size s2 L fp) [(s2.heap.objs.size,{ cls:=.type "list",data:=.seq ([]:List ak).toArray 0})] (j_ k dw Z) L { s2 with heap:=h₁,toks:=s2.toks+([]:List (Str×ak)).length}:=
   j.block ok f2 FJ s9 B5 (bU _) old rfl rfl l s_ (λv z=>by cases z)
  have Jo:∀b∈fp,b≠R.objs.size/\b≠s2.heap.objs.size:=λb hb=>let ⟨o,e,_⟩:=FJ b hb;below b (cV e)
  have nQ:∀{H':Hp} {oD:Obj},(∀b∈fp,H' b=none)->∀b∈fp,ji (fR X scope M R.objs.size s2 L fp) [(s2.heap.objs.size,oD)] H' b:=λ{H' oD} hn b hb=>by
   obtain⟨f0,f1,f2,f3,f4,f5⟩:=f2 b hb;refine⟨hn b hb,(Jo b hb).1,λz=>?_,.inl hb,λx c e=>f4 x c (Ie (j.iX ok) e),λp hp z=>?_⟩
   .rcases y0c.mp (j.kx b z) with q|q
    .exact f1 q
    .exact f2 q
   .have e:p=(s2.heap.objs.size,oD):=by simpa[fR] using hp
    subst e;exact(Jo b hb).2 z.symm
  refine QZ (λn s'=>∃(i:Nat) (τ:St) (aO:List V) (us:List ak) (c:Nat) (H':Hp),Vals aO us/\aO.length<=sizeLine/\ Inv (fR X scope M R.objs.size s2 L fp) [(s2.heap.objs.size,{ cls:=.type "list",data:=.seq us.toArray c})] τ H' s'/\tn i s'.heap/\(∀b∈fp,H' b=none)/\n=N - i/\i<=N/\W i τ aO H') ?_ N
   ⟨0,j_ k dw Z,[],[],0,L,.nil,lq _,I3,QM,λb hb=>(f2 b hb).1,rfl,lq _,w0⟩
  rintro n s3 ⟨i,τ,aO,us,c,H',rv,hlen,I,st,fr,rfl,hiN,w⟩;have pinD:=(I.pin (s2.heap.objs.size,{ cls:=.type "list",data:=.seq us.toArray c}) (by simp[fR]))
  rcases turn i τ aO H' hiN w with⟨stop,qn⟩|⟨lI,go,step⟩
  .refine bO (T.done (fR X scope M R.objs.size s2 L fp) rfl rfl rfl hc i _ s3 τ H' (λ_ _=>False) I (nQ fr) st stop) λr s4 ⟨hr,I4⟩=>?_
   subst hr;have qW:=(I4.pin (s2.heap.objs.size,{ cls:=.type "list",data:=.seq us.toArray c}) (by simp[fR]))
   have kB:∀b∈fp,(b∈X.ex\/X.s₀.heap.objs.size<=b)/\b≠X.env.locals/\(∀x c,X.env.cells.lookup x=some c->c≠b)/\∀p∈X.pn++aa,p.1≠b:=λb hb=>by
    obtain⟨f0,f1,f2,f3,f4,f5⟩:=f2 b hb;exact⟨f3,f1,f4,f5⟩
   have J1:Inv X aa Z H' s4:=j.uF (ch:=fp) I4.os I4.base I4.bN I4.bare kB;have young:X.s₀.heap.objs.size<=s2.heap.objs.size:=j.sz;have t:∀a,s2.heap.objs.size<=a->a≠X.env.locals/\(∀x c,X.env.cells.lookup x=some c->c≠a)/\∀p∈X.pn++aa,p.1≠a:=λa ha=>
    ⟨vB (gq j.lt ha),λx c e z=>by
     obtain⟨v,q⟩:=j.cell x c e;exact cQ (gq q.lt (by rw[z];exact ha)) (jQ _),λp hp z=>cQ (gq (cV (j.pin p hp).1) (by rw[z];exact ha)) (jQ _)⟩
   have aD:=t _ (bU _);have aC:=t _ s9;have J2:Inv X aa Z (upd H' s2.heap.objs.size (.lst aO)) s4:=J1.Dq qW.2.1 young aD.1 aD.2.1 aD.2.2 ⟨hlen,us,c,rv,qW.1⟩;obtain⟨m,hn,_⟩:=I4.loc;have hCn:H' R.objs.size=none:=I4.free;refine hRR _ _ s4 H' aO J2 ⟨?_,aC.1,j.xS s9,.inr (jy young s9),aC.2.1,aC.2.2⟩ ⟨m,hn⟩ qW.2.1 qn;rw[dz (Ne.symm B5)];exact hCn
  .refine bO (T.item (fR X scope M R.objs.size s2 L fp) rfl rfl rfl hc i _ s3 τ H' (λ_ _=>False) I (nQ fr) st go) λr s4 ⟨u,hr,h4⟩=>?_
   subst hr;refine bO h4 λ_ s5 hh=>?_
   obtain⟨x,H5,I5,r5,y5,gK,Jq⟩:=hh;have GQ:=I5.pinned (nQ Jq) (T.obj _ _ gK);refine bO (hg _ _ _ _ _ s5 τ H5 x u _ GQ r5 (step x H5 y5)) λ_ s6 hh=>?_
   obtain⟨τ6,H6,I6,q6⟩:=hh;refine bO (ht _ _ _ _ _ s6 τ6 H6 _ I6 q6) λb s7 hh=>?_
   obtain⟨H7,I7,q7⟩:=hh;have qM:∀{s':aB} {τ':St} {Hn:Hp},Inv (fR X scope M R.objs.size s2 L fp) ([(s2.heap.objs.size,{ cls:=.type "list",data:=.seq us.toArray c})]++Bq fp s5.heap) τ' Hn s'->tn (i+1) s'.heap/\∀b∈fp,Hn b=none:=λ{s' τ' Hn} I'=>by
    refine⟨T.keep _ _ _ gK λb hb o e=>(I'.pin (b,o) (ng _ (ng _ (AU hb e)))).1,λb hb=>?_⟩
    obtain⟨o,e,d⟩:=T.obj _ _ gK b hb;exact(I'.pin (b,o) (ng _ (ng _ (AU hb e)))).2.1
   cases b with
   |false=>
    rw[bq pQ] at q7;show ∃m,m<N - i/\_;obtain⟨st7,fr7⟩:=qM I7;exact⟨N - (i+1),by lia,i+1,τ6,aO,us,c,H7,rv,hlen,I7.fq,st7,fr7,rfl,lI,q7⟩
   |true=>
    rw[bJ rfl] at q7;show wpAny _ _ (eval U _) _ _ s7;refine bO (he _ _ _ _ _ s7 τ6 H7 _ I7 q7) λv s8 hh=>?_
    obtain⟨y,H8,I8,r8,hl8,w8⟩:=hh;obtain⟨st8,fr8⟩:=qM I8;have oH:=(I8.pin (s2.heap.objs.size,{ cls:=.type "list",data:=.seq us.toArray c}) (by simp[fR]))
    have hul:=rv.length;refine append_at (hsz:=by show us.toArray.size<=sizeLine;rw[fO,<-hul];exact hlen) oH.1 λh9 QK e9=>?_
    have e9':h9.get? s2.heap.objs.size=some { cls:=.type "list",data:=.seq (us++[v]).toArray (c+1)}:=by rw[e9,List.push_toArray]
    have QX:=I8.fq;have Jy:s2.heap.objs.size≠(fR X scope M R.objs.size s2 L fp).env.locals:=oH.2.2.1;have nx:∀(b:aj),H8 b≠none->b≠s2.heap.objs.size:=λb hb z=>hb (by rw[z];exact oH.2.1)
    refine⟨N - (i+1),by lia,i+1,τ6,aO++[y],us++[v],c+1,H8,rv.append (.cons r8 .nil),by rw[cZ,sj];exact hl8,?_,?_,fr8,rfl,lI,w8⟩
    .have I9:Inv (fR X scope M R.objs.size s2 L fp) [] τ6 H8 s8:=QX.jO (λp hp=>cQ hp (by simp))
     have QW:Inv (fR X scope M R.objs.size s2 L fp) [] τ6 H8 { s8 with heap:=h9}:=I9.turned (t':=s8.toks) (λb o hb e=>(QK.2 b hb).trans e) oH.2.1 Jy (.inr (bU _))
      (λx cc e z=>by
       obtain⟨v',q⟩:=j.cell x cc (Ie (j.iX ok) e);exact cQ (gq q.lt (by rw[z];exact bU _)) (jQ _)) (λp hp=>cQ hp (by simp[fR]))
     refine QW.jO λp hp=>?_
     simp_all
    .exact T.keep _ _ _ st8 λb hb o e=>QK.extBut b o (Jo b hb).2 e
 exact codeAny_compStart_list (loop _ rfl) (T.self _ 0 _ _ _ QM (loop _ rfl))
def vx(S:TI)(g:TG)(tt:TT)(F:TE)(k:Nat)(dw:List Nat):TE:=λZ H Q=>S Z H λJ H1=>n6 J g tt F (j_ k dw Z) H1 λaO H'=>∀l,H' l=none->Q (.ref l) (upd H' l (.lst aO))
def Wg(hc:X.calm=true)(ok:eL X scope M k dw)(hi:PI X tg Y S)
  (hg:∀C s H fp,PG (fR X scope M C s H fp) tg g) (ht:∀C s H fp,pX (fR X scope M C s H fp) G tt) (a:∀C s H fp,PE (fR X scope M C s H fp) U F)
  (hs:∀x,foldedSetIterable Y X.env x=pure x:=by intro _;rfl):PE X (.ListComp U [⟨tg,Y,G,0⟩] scope B) (vx S g tt F k dw):=by
 intro aa s Z H Q I h;rw[eval_ListComp];refine wpAny_comprehension_free (use:=none) rfl hs (LV (I.iX ok)) ok.kind ok.names (bO (hi aa s Z H _ I h) λv s1 d=>bO d λFW s2 t=>?_)
 refine kY λV=>?_
 obtain⟨it,fp,tn,J,H2,e,L,T,iI,W,n⟩:=t;subst e;refine V ?_;refine My (RR:=λaO C=>compPost (mX X) X.A X.xe none (EP X aa Z Q) aO C) L hc ok T iI W hg ht a n ?_
 intro D C s' H' aO R p ⟨m,hn⟩ l hq;refine⟨m,hn,λh' sb=>?_⟩
 refine kY λV=>?_
 obtain⟨O,j,W,q,y,z⟩:=p;refine V ?_;exact⟨.ref D,_,R.turned (t':=s'.toks) (λb o hb e=>(sb.2 b hb).trans e) O j q y z,rfl,hq D l⟩
def C5(S:TI)(g:TG)(tt:TT)(F:TE)(k:Nat)(dw:List Nat)(i:Nat):TS:=λD Z H=>vx S g tt F k dw Z H λv H'=>D.nx (Z.set i (some v)) H'
def Wh{V d:Pos}(hc:X.calm=true)(ok:eL X scope M k dw)(hN:X.N.Nodup)(xp:X.N[i]?=some x)(hx:Loc X.env.scope x)(hi:PI X tg Y S)
  (hg:∀C s H fp,PG (fR X scope M C s H fp) tg g) (ht:∀C s H fp,pX (fR X scope M C s H fp) G tt) (he:∀C s H fp,PE (fR X scope M C s H fp) U F)
  (Cp:swapsWith (.ListComp U [⟨tg,Y,G,0⟩] scope B) (some (.Name x V)) d.line X.env=pure true)
  (hs:∀x,foldedSetIterable Y X.env x=pure x:=by intro _;rfl) (hf:X.fn x=true\/X.env.scope.names.lookup x=some .local := by first|exact .inl rfl|exact .inr rfl|assumption) :
  PS X (.Assign [.Name x V] (.ListComp U [⟨tg,Y,G,0⟩] scope B) d) (C5 S g tt F k dw i):=by
 intro aa s Z H D I h;rw[exec_Assign_Name_used _ _ _ _ Cp];refine aK (wpAny_standAt (aK ?_));show wpAny _ X.A (do let _ <-comprehension (.ListComp U [⟨tg,Y,G,0⟩] scope B) scope X.env _ (newList []) false (eval Y X.env) (some (assign (.Name x V) X.env))) _ _ s
 refine aK (wpAny_mono (wpAny_comprehension_free (use:=some (assign (.Name x V) X.env)) (Q:=λ_ s'=>SP X aa D .next s') rfl hs (LV (I.iX ok)) ok.kind ok.names (bO (hi aa s Z H _ I h) λv s1 h1=>bO h1 λFW s2 h2=>?_)) (λ_ s' L=>bw (bw L)) λ_ _ e=>e)
 refine kY λO=>?_
 obtain⟨it,fp,tn,J,H2,e,l,T,iI,y,hW⟩:=h2;subst e;refine O ?_;refine My (RR:=λaO C=>compPost (mX X) X.A X.xe (some (assign (.Name x V) X.env)) (λ_ s'=>SP X aa D .next s') aO C) l hc ok T iI y hg ht he hW ?_
 intro W C s' H' aO t fC ⟨m,hn⟩ hD L;refine kY λO=>?_
 obtain⟨f0,q,y,f3,p,f5⟩:=fC;refine O ?_;show wpAny _ X.A (assign (.Name x V) X.env (.ref W)) _ _ _;refine wpAny_assign_Name (Ms t hN xp hx (v:=.ref W) rfl (λqY n hh=>?_) hf)
 obtain⟨a,sb,ha⟩:=hh;have R:C≠a:=by
  rcases ha with e|e
  .rw[e];exact q
  .exact λz=>p _ _ e z.symm
 refine⟨m,hn.sameBut sb R,λh' j=>⟨_,_,n.turned (t':=qY.toks) (λb o hb e=>(j.2 b hb).trans e) f0 q f3 p f5,L W hD⟩⟩
end
variable{w:cL}{tg:Expr}{X:Cx}
noncomputable def jB(c:Nat):Str:=⟨#[c]⟩
def DK(x:Str):It:=⟨λi _=>i<x.cps.size,λi H v H'=>H'=H/\∃c,x.cps[i]?=some c/\v=.str (jB c),λi _=>x.cps.size<=i⟩
def Ue{P:dq}{K:aP}(it:aj)(x:Str)(t:Tok)(ty:String)(W:ty="str_ascii_iterator"\/ty="str_iterator"):Turn P w K tg (DK x) [it] it (λi h=>h.IsStrIter it ty x t i) where
 mem:=by simp
 obj:=λi h st b hb=>by
  have e:b=it:=by simpa using hb
  subst e;obtain⟨o,e,c,d⟩:=st
  simp_all
 keep:=λi h h' st k=>by
  obtain⟨o,e,c,d⟩:=st;exact⟨o,k it (by simp) o e,c,d⟩
 item:=by
  intro X T hw F hc i aa s Z H E I hf st R;subst T hw F;have hi:i<x.cps.size:=R;obtain⟨J,Y,O,V,U,G⟩:=hf it (by simp)
  have fin:∀h',h'.IsStrIter it ty x t (i+1)->Heap.SameBut it s.heap h'->∃u,some (Value.str ⟨#[x.cps[i]]⟩ s.toks)=some u/\
    wpAny (mX X) X.A (letOwnedTupleGo tg (.ref it) u) (λ_ s2=>∃y H',Inv X aa Z H' s2/\RelV y u/\(DK x).rB i H y H'/\s2.heap.IsStrIter it ty x t (i+1)/\∀b∈[it],H' b=none) E { s with heap:=h',toks:=s.toks+1}:=λh' L j=>by
   have D:Inv X aa Z H { s with heap:=h',toks:=s.toks+1}:=I.turned (λb o hb e=>(j.2 b hb).trans e) J Y V U G
   obtain⟨o,e,c,d⟩:=id L;refine⟨_,rfl,uD (s:={ s with heap:=h',toks:=s.toks+1}) e c d (by rcases W with z|z <;> subst z <;> decide) ⟨.str (jB x.cps[i]),H,D,⟨_,rfl⟩,⟨rfl,_,by simp[hi],rfl⟩,L,λb hb=>(hf b hb).1⟩⟩
  rcases W with z|z
  .subst z;exact wpAny_pyNext_ascii_item st (c:=x.cps[i]) (by simp[hi]) fin
  .subst z;exact wpAny_pyNext_wide_item st (c:=x.cps[i]) (by simp[hi]) fin
 done:=by
  intro X T hw F hc i aa s Z H E I hf st R;subst T hw F;have hi:x.cps.size<=i:=R;obtain⟨J,Y,O,V,U,G⟩:=hf it (by simp)
  rcases W with z|z
  .subst z;exact wpAny_pyNext_ascii_end (I.ok.hd hc) st (by simp;lia) λh' B=>⟨rfl,I.turned (t':=s.toks) (λb o hb e=>B b o hb e) J Y V U G⟩
  .subst z;exact wpAny_pyNext_wide_end (I.ok.hd hc) st (by simp;lia) λh' B=>⟨rfl,I.turned (t':=s.toks) (λb o hb e=>B b o hb e) J Y V U G⟩
 self:=λ_ _ _ _ _ st h=>by
  rcases W with z|z
  .subst z;exact wpAny_pyIter_striter_ascii st h
  .subst z;exact wpAny_pyIter_striter_wide st h
def Cw(J:TE):TI:=λZ H R=>J Z H λx H1=>∃z,x=.str z/\R (DK z) H1
def Zj{V:TE}(hl:PE X l V):PI X tg l (Cw V):=by
 intro aa s Z H R I h;refine bO (hl aa s Z H _ I h) λv s1 G=>?_
 obtain⟨x,H1,J,B,W⟩:=G;obtain⟨z,e,q⟩:=W;subst e;obtain⟨t,rfl⟩:=B;have key:∀ty:String,ty="str_ascii_iterator"\/ty="str_iterator"->G1 X aa Z tg R (.ref s1.heap.objs.size) { s1 with heap:=s1.heap.push { cls:=.type ty,data:=.fields #[.str z t,.int 0 0]}}:=λty U=>by
  refine⟨s1.heap.objs.size,[s1.heap.objs.size],_,_,H1,rfl,J.kept (t':=s1.toks) λb o e=>c8 _ e,Ue _ z t ty U,⟨_,jb _ (by rcases U with e|e <;> subst e <;> rfl),rfl,rfl⟩,λb hb=>?_,q⟩
  have e:b=s1.heap.objs.size:=by simpa using hb
  subst e;exact J.kc (bU _) (J.bN.fresh (bU _))
 cases Y:z.cps.all (· < 128)
 .exact wpAny_pyIter_wide Y (key _ (.inr rfl))
 .exact wpAny_pyIter_ascii Y (key _ (.inl rfl))
noncomputable def gF(names outer:List (Str×nZ))(N M:List Str)(k:Nat)(dw:List Nat):Bool:=
 names.all (λy=>y.2 != .cell)&&(names.all (λy=>y.2 != .free || (outer.lookup y.1 == some .cell || outer.lookup y.1 == some .free))&&(names.all (λy=>y.2 != .local || names.lookup y.1 == some .local) && (M.length == k+dw.length&&(List.range dw.length).all (λj=>match dw[j]?,M[k+j]? with|some i,some x=>N[i]? == some x&&names.lookup x == some .free|_,_=>true))))
def eL.of(outer:List (Str×nZ))(N:List Str)(h:gF scope.names outer N M k dw=true)(ho:X.env.scope.names=outer:=by rfl)(hN:X.N=N:=by rfl)(F:scope.kind=.function:=by rfl):eL X scope M k dw:=by
 unfold gF at h;simp only[jx,jS,Bool.or_eq_true,bne_iff_ne,ne_eq,beq_iff_eq] at h;obtain⟨Y,V,U,G,W⟩:=h;refine⟨F,Y,λy J e=>?_,λy J e=>?_,G,λj i x e1 e2=>?_⟩
 .rcases V y J with z|z
  .exact cQ e z
  .show X.env.scope.names.lookup y.1=_\/X.env.scope.names.lookup y.1=_;rw[ho];exact z
 .rcases U y J with z|z
  .exact cQ e z
  .exact z
 .have B:j<dw.length:=(dX.mp e1).1;have:=W j (pI.mpr B);rw[e1,e2] at this;simp only[jx,beq_iff_eq] at this;rw[hN];exact this
section
variable{X:Cx}
def Zk:dZ X (compareOp .Is) (λx y H Q=>∃a b,x=.bl a/\y=.bl b/\Q (.bl (a == b)) H):=by
 intro aa s Z H x y v u Q I J Y h;obtain⟨a,b,rfl,rfl,q⟩:=h;cases J;cases Y;exact is_bool (sJ I q rfl)
def Wi:dZ X (compareOp .IsNot) (λx y H Q=>∃a b,x=.bl a/\y=.bl b/\Q (.bl (a != b)) H):=by
 intro aa s Z H x y v u Q I J Y h;obtain⟨a,b,rfl,rfl,q⟩:=h;cases J;cases Y;exact isnot_bool (sJ I q rfl)
def Br(K:aP)(H:Hp):V->String->Prop
 |.aI,n=>n="NoneType"
 |.bl _,n=>n="bool"
 |.int _,n=>n="int"
 |.str _,n=>n="str"
 |.ref a,n=>(n="list"/\∃xs,c7 K H a xs)\/(n="tuple"/\∃xs,iE K H a xs)
 |_,_=>False
noncomputable def pB(k T:String):Bool:=k == T || (k == "bool" && T == "int")
def Ug:bT X (.builtin "isinstance") (λxs H Q=>∃x k T,xs=[x,.ty T]/\Br X.K H x k/\(T="int"\/T="str"\/T="bool"\/T="list"\/T="tuple")/\Q (.bl (pB k T)) H):=by
 intro aa s Z H xs us Q I r h;obtain⟨x,k,T,rfl,Y,V,q⟩:=h;obtain⟨u,B,rfl,U,W⟩:=vals2 r;cases W;have fin:∀b,b=pB k T->EP X aa Z Q (.bool b) s:=λb e=>sJ I q e.symm
 have J:∀b,b=pB k T->EP X aa Z Q (.bool b) { s with toks:=s.toks+1}:=λb e=>sJ (I.tok _) q e.symm
 cases x with
 |aI=>
  cases U;have Y:k="NoneType":=Y;subst Y;rcases V with rfl|rfl|rfl|rfl|rfl
  .exact IsiPair.NoneType_int (J _ (by decide))
  .exact IsiPair.NoneType_str (J _ (by decide))
  .exact IsiPair.NoneType_bool (J _ (by decide))
  .exact IsiPair.NoneType_list (J _ (by decide))
  .exact IsiPair.NoneType_tuple (J _ (by decide))
 |bl b=>
  cases U;have Y:k="bool":=Y;subst Y;rcases V with rfl|rfl|rfl|rfl|rfl
  .exact IsiPair.bool_int (fin _ (by decide))
  .exact IsiPair.bool_str (J _ (by decide))
  .exact IsiPair.bool_bool (fin _ (by decide))
  .exact IsiPair.bool_list (J _ (by decide))
  .exact IsiPair.bool_tuple (J _ (by decide))
 |int i=>
  obtain⟨t,rfl⟩:=U;have Y:k="int":=Y;subst Y;rcases V with rfl|rfl|rfl|rfl|rfl
  .exact IsiPair.int_int (fin _ (by decide))
  .exact IsiPair.int_str (J _ (by decide))
  .exact IsiPair.int_bool (J _ (by decide))
  .exact IsiPair.int_list (J _ (by decide))
  .exact IsiPair.int_tuple (J _ (by decide))
 |str z=>
  obtain⟨t,rfl⟩:=U;have Y:k="str":=Y;subst Y;rcases V with rfl|rfl|rfl|rfl|rfl
  .exact IsiPair.str_int (J _ (by decide))
  .exact IsiPair.str_str (fin _ (by decide))
  .exact IsiPair.str_bool (J _ (by decide))
  .exact IsiPair.str_list (J _ (by decide))
  .exact IsiPair.str_tuple (J _ (by decide))
 |ref a=>
  cases U;rcases Y with⟨Y,ys,G⟩|⟨Y,ys,G⟩
  .subst Y;obtain⟨aL,_,⟨o,n,e,hc,_⟩,_⟩:=I.list G;rcases V with rfl|rfl|rfl|rfl|rfl
   .exact IsiPair.list_int e hc (J _ (by decide))
   .exact IsiPair.list_str e hc (J _ (by decide))
   .exact IsiPair.list_bool e hc (J _ (by decide))
   .exact IsiPair.list_list e hc (fin _ (by decide))
   .exact IsiPair.list_tuple e hc (J _ (by decide))
  .subst Y;obtain⟨aL,_,⟨o,e,hc,_⟩,_⟩:=I.tuple G;rcases V with rfl|rfl|rfl|rfl|rfl
   .exact IsiPair.tuple_int e hc (J _ (by decide))
   .exact IsiPair.tuple_str e hc (J _ (by decide))
   .exact IsiPair.tuple_bool e hc (J _ (by decide))
   .exact IsiPair.tuple_list e hc (J _ (by decide))
   .exact IsiPair.tuple_tuple e hc (fin _ (by decide))
 |uE _=>exact False.elim Y
 |zM _=>exact False.elim Y
 |ty _=>exact False.elim Y
def e7p(Y:Gl X x)(hm:X.mg x=none)(hv:bootBuiltins x=some (.type n))(V:x≠"__name__":=by decide)(hd:(x == ("__debug__":Str))=false:=by decide):PE X (.Name x J) (tC (.ty n)):=
 VU Y hm hv rfl V hd
def Ro(aL:List ak)(bs:List Bool)(hv:Vals (bs.map V.bl) aL):TruthOf prog w A (λi v=>aL.toArray[i]?=some v) (λi=>bs.getD i false):=by
 intro i v s Q E Y U;have Qb:aL[i]?=some v:=by simpa using Y
 have hl:=hv.length;rw[ba] at hl;have hi:i<aL.length:=(dX.mp Qb).1;have hb:(bs.map V.bl)[i]?=some (.bl bs[i]):=by simp[show i<bs.length by lia]
 obtain⟨u,J,G⟩:=hv.get hb;rw[Qb] at J;cases J;cases G;have e:bs.getD i false=bs[i]:=by simp[show i<bs.length by lia]
 have Qc:Q (bs.getD i false) s:=U;rw[e] at Qc;exact wpAny_truthy_bool Qc
def Sz(bs:List Bool):(List.range bs.length).all (λi=>bs.getD i false)=bs.all id:=by
 rw[Ai,jS,jS];constructor
 .intro h b hb;obtain⟨i,hi,e⟩:=List.mem_iff_getElem.mp hb
  simp_all
 .intro h i hi;have hi:=pI.mp hi;have:=h bs[i] (Aj hi);simp[hi];exact this
def SA(hc:X.calm=true):bT X (.builtin "all") (λxs H Q=>∃(a:aj) (bs:List Bool),xs=[.ref a]/\c7 X.K H a (bs.map V.bl)/\Q (.bl (bs.all id)) H):=by
 intro aa s Z H xs us Q I r h;obtain⟨a,bs,rfl,U,q⟩:=h;obtain⟨u,rfl,G⟩:=vals1 r;cases G;obtain⟨aL,rv,p,hz⟩:=I.list U;have hl:=rv.length;rw[ba] at hl;refine call_all_walk (wpAny_pyIter_list p.isList ?_);have J:a≠s.heap.objs.size:=by obtain⟨o,n,e,_⟩:=p;exact g_ (cV e)
 refine⟨s.heap.objs.size,_,_,aL.toArray.size,_,_,λi=>bs.getD i false,rfl,Walks.list (A:=X.A.in1) (show X.A.in1.handled=none from I.ok.hd hc) _ a J aL.toArray,⟨⟨_,jb _ rfl,rfl,rfl⟩,?_⟩,Ro aL bs rv,λh' tk Y=>?_⟩
 .exact p.isList.at λo e=>c8 _ e
 .have e1:aL.toArray.size=bs.length:=by rw[fO,<-hl]
  refine⟨.bl (bs.all id),H,I.kept (h':=h') (t':=tk) (λb o e=>Y b o (λz=>cQ (gq (cV e) (DD (jT.mp z).symm)) (jQ _)) (c8 _ e)),?_,q⟩
  show Value.bool _=Value.bool _;rw[e1,Sz]
end
variable{H:Hp}{a:aj}{o:HO}
structure ui (K:aP) (mg:Str->ai ak) (x:Str) (st:Stmt) (f:aj) (fd:kR) (ps:List Str):Prop where
 fn:pV K x x st f fd
 mg:mg x=some (.ref f)
 bd:Binds K fd ps []
def aE.put(s:aE H H')(h:H' a=none):aE H (upd H' a o):=λb u e=>by
 have z:=s b u e;rw[dz (p6 z h)];exact z
def qa(h:H a=none):aE H (upd H a o):=(aE.refl H).put h
def Uh(d:α)(h0:0<=k)(Y:k<xs.length):du xs k=some (xs.getD k.toNat d):=by
 have J:k.toNat<xs.length:=by lia
 have e:xs[k.toNat]?=some (xs.getD k.toNat d):=by simp[J]
 have z:=qd e
 rwa[show((k.toNat:Nat):Int)=k by lia] at z
def om:bootBuiltins "list"=some (.type "list"):=by decide +kernel
section
variable{X:Cx}
noncomputable def pz(xs:List V)(k:Nat)(y:V):List V:=xs.take k++y::xs.drop k
def Rq(xs:List V)(k:Nat)(y:V):(pz xs k y).length=xs.length+1:=by
 grind [pz]
def NI:V->List V->Hp->VK->Prop:=λx vs H Q=>∃l xs i y,x=.ref l/\vs=[.int i,y]/\H l=some (.lst xs)/\0<=i/\i<2^62/\xs.length<sizeLine/\Q .aI (upd H l (.lst (pz xs i.toNat y)))
theorem SD:yI X "list.insert" NI:=by
 intro aa s Z H x vs v us Q I B rv h;refine kY λG=>?_
 obtain⟨l,xs,i,y,rfl,rfl,J,h0,hi,hz,q⟩:=h;cases B;obtain⟨u,Y,rfl,⟨t,rfl⟩,W⟩:=rv.two;obtain⟨z,aL,n,r,hl,e⟩:=I.xK J;have V:¬(!Builtin.List.listFitsIndex i)=true:=by
  grind [PySem.Builtin.List.listFitsIndex]
 refine G ?_;refine call_meets F.slot_list_insert ⟨_,e,rfl⟩ F.entry_list_insert (F.args_list_insert_3 _ _ _) (PySem.AutoSeq1.list_insert_list_int_val_1 l aL.toArray n i t Y V (by rw[fO];lia)) ⟨e,?_⟩
 refine⟨.aI,_,I.xJ (its':=aL.take i.toNat++Y::aL.drop i.toNat) J e ?_ ((r.take i.toNat).append (.cons W (r.drop i.toNat))) ?_,rfl,q⟩
 .have U:¬i<0:=by lia
  simp only[U,kS];apply Array.ext';simp only[Array.toList_append,Array.toList_push,Array.toList_extract,fO];rw[List.extract_eq_drop_take,List.extract_eq_drop_take];have e1:min i.toNat aL.length - 0=min i.toNat aL.length:=by lia
  rw[e1];simp only[List.drop_zero];have e2:aL.take (min i.toNat aL.length)=aL.take i.toNat:=by rw[List.take_eq_take_iff];lia
  rw[e2];by_cases hc:i.toNat<=aL.length
  .rw[Nat.min_eq_left hc,DF (l:=List.drop i.toNat aL) (by rw[Ah];lia)]
   simp
  .have hc:aL.length<=i.toNat:=by lia
   rw[Nat.min_eq_right hc,Gk (bU _),Gk hc];simp
 .show(pz xs i.toNat y).length<=sizeLine;rw[Rq];lia
def GR(a c:Int)(n:Nat):It:=⟨λi _=>i<n,λi H x H'=>H'=H/\x=.int (a+i*c),λi _=>n<=i⟩
def Rr{P:dq}{w:cL}{K:aP}{tg:Expr}(it:aj)(a c:Int)(n:Nat):Turn P w K tg (GR a c n) [it] it (λi h=>IsRangeIter h it (a+(i:Nat)*c) ((n:Int) - (i:Nat)) c) where
 mem:=by simp
 obj:=λi h st b hb=>by
  simp_all
 keep:=λi h h' st k=>k it (by simp) _ st
 item:=by
  intro X F hw B hc i aa s Z H E I hf st T;subst F hw B;refine kY λR=>?_
  obtain⟨J,Y,j,V,U,G⟩:=hf it (by simp)
  have W:=Walks.range (prog:=X.prog) (w:=X.w) (I.ok.hd hc) it a c n;refine R ?_;refine W.item i s _ _ T st λv h' tk hv L q=>?_
  obtain⟨t,rfl⟩:=hv;have D:Inv X aa Z H { s with heap:=h',toks:=tk}:=I.turned (λb o hb e=>q b o (by simpa using hb) e) J Y V U G
  exact⟨_,rfl,uD (s:={ s with heap:=h',toks:=tk}) (n:="range_iterator") L rfl rfl (by decide) ⟨.int (a+i*c),H,D,⟨t,rfl⟩,⟨rfl,rfl⟩,L,λb hb=>(hf b hb).1⟩⟩
 done:=by
  intro X F hw B hc i aa s Z H E I hf st T;subst F hw B;refine kY λR=>?_
  obtain⟨J,Y,j,V,U,G⟩:=hf it (by simp)
  refine R ?_;exact wpAny_pyNext_range_end (I.ok.hd hc) st (by have:n<=i:=T;lia) λh' O=>⟨rfl,I.turned (t':=s.toks) (λb o hb e=>O b o hb e) J Y V U G⟩
 self:=λ_ _ _ _ _ st h=>wpAny_pyIter_rangeiter st h
def C3:V->ai Int->ai Int->Hp->VK->Prop:=λx lo hi H Q=>∃z,x=.str z/\z.length<=sizeLine/\Q (.str (Txt.slice z lo hi)) H
theorem yo:pZ X C3:=by
 intro aa s Z H x v G W lo hi sl Q I U J pl V h;obtain⟨z,rfl,hz,q⟩:=h;obtain⟨t,rfl⟩:=U;refine⟨"str",_,F.slot_str_getitem.lookup,typeIs_str _ _ _,?_⟩;have fin:∀t' k,EP X aa Z Q (.str (Txt.slice z lo hi) t') { s with toks:=k}:=λt' k=>⟨.str _,H,I.tok _,⟨_,rfl⟩,q⟩
 cases pl with
 |none=>
  cases V with
  |none=>exact wpAny_getItem_str_slice (l:=none) (u:=none) (st:=none) J rfl (post_val_or_str ⟨jy (Txt.slice_le z _ _) hz,fin⟩)
  |int j Y=>exact wpAny_getItem_str_slice (l:=none) (u:=some (j,Y)) (st:=none) J rfl (post_val_or_str ⟨jy (Txt.slice_le z _ _) hz,fin⟩)
 |int i ti=>
  cases V with
  |none=>exact wpAny_getItem_str_slice (l:=some (i,ti)) (u:=none) (st:=none) J rfl (post_val_or_str ⟨jy (Txt.slice_le z _ _) hz,fin⟩)
  |int j Y=>exact wpAny_getItem_str_slice (l:=some (i,ti)) (u:=some (j,Y)) (st:=none) J rfl (post_val_or_str ⟨jy (Txt.slice_le z _ _) hz,fin⟩)
def RM:dZ X (binaryOp .Mult) (λx y H Q=>∃z n,x=.str z/\y=.int n/\MulOk z n/\Q (.str (Txt.mul z n)) H):=by
 intro aa s Z H x y v u Q I J Y h;obtain⟨z,n,rfl,rfl,hm,q⟩:=h;obtain⟨t,rfl⟩:=J;obtain⟨t',rfl⟩:=Y;exact SB.mul hm λt' k=>⟨.str _,H,I.tok _,⟨_,rfl⟩,q⟩
end
section
variable{X:Cx}{H:Hp}{s:aB}
def Vals.at(r:Vals xs us)(h:j<us.toArray.size):∃x,xs[j]?=some x/\RelV x us.toArray[j]:=by
 have hl:=r.length;have h':j<us.length:=by simpa using h
 have J:xs[j]?=some xs[j]:=by simp[show j<xs.length by lia]
 obtain⟨u,Y,U⟩:=r.get J
 simp_all
end
section
variable{X:Cx}
def Ui(K:aP)(J:X.K=K:=by rfl):o5 X (yf K):=J ▸ Wc
def Wj(K:aP)(J:X.K=K:=by rfl):o5 X (yg K):=J ▸ Zi
def Rb(K:aP)(J:X.K=K:=by rfl):bT X (.builtin "len") (λxs H Q=>∃p ys,xs=[.ref p]/\(c7 K H p ys\/iE K H p ys)/\Q (.int ys.length) H):=J ▸ Ri
def Uj(K:aP)(J:X.K=K:=by rfl):pZ X (yh K):=J ▸ Wd
def Wk(K:aP)(J:X.K=K:=by rfl):pZ X (yi K):=J ▸ Zh
def SE(K:aP)(J:X.K=K:=by rfl):bT X (.builtin "isinstance") (λxs H Q=>∃x k T,xs=[x,.ty T]/\Br K H x k/\(T="int"\/T="str"\/T="bool"\/T="list"\/T="tuple")/\Q (.bl (pB k T)) H):=J ▸ Ug
def Rc(K:aP)(J:X.K=K:=by rfl):bT X (.type "list") (λxs H Q=>∃p ys,xs=[.ref p]/\(c7 K H p ys\/iE K H p ys)/\∀l,H l=none->Q (.ref l) (upd H l (.lst ys))):=J ▸ Rj
end
end L2
set_option autoImplicit false
namespace L2
open PySem PySem.Spec PyProof.Rows
theorem En{α β:Type}{R:α->β->Prop}:∀{l:List α} {m:List β} (i:Nat) {b:β},Paired R l m->m[i]?=some b->∃a,l[i]?=some a/\R a b
 |_,_,_,_,.nil,e=>by simp at e
 |_,_,0,_,.cons r _,e=>by simp at e;subst e;exact⟨_,rfl,r⟩
 |_,_,i+1,_,.cons _ t,e=>by
  obtain⟨a,J,Y⟩:=En i t (by simpa using e)
  simp_all
def Paired.Dt{α β:Type}{R:α->β->Prop}{l:List α}{b:β}{m:List β}(h:Paired R l (b::m)):∃a J,l=a::J/\R a b/\Paired R J m:=by
 cases h with
 |cons r t=>exact⟨_,_,rfl,r,t⟩
def Eo{α β:Type}{R:α->β->Prop}:∀{l:List α} {m:List β} (i:Nat) {a:α},Paired R l m->l[i]?=some a->∃b,m[i]?=some b/\R a b:=by
 intro l m i a h e
 induction h generalizing i with
 |nil=>simp at e
 |cons r _ J=>cases i with
  |zero=>simp at e;subst e;exact⟨_,rfl,r⟩
  |succ i=>exact J i (by simpa using e)
inductive D where
 |aI|bl (b:Bool)|int (i:Int)|str (x:Str)|ty (n:String)|ref (n:Nat)
 |lst (xs:List D)|tup (xs:List D)|ao (kvs:List (TK×D))
mutual
def TK.d:TK->D
 |.inl i=>.int i
 |.inr x=>.str x
 |.tp l=>.tup (TK.dl l)
 |.aI=>.aI
def TK.dl:List TK->List D
 |[]=>[]
 |k::l=>TK.d k::TK.dl l
end
noncomputable def sL:D->ai V
 |.aI=>some .aI
 |.bl b=>some (.bl b)
 |.int i=>some (.int i)
 |.str x=>some (.str x)
 |.ty n=>some (.ty n)
 |_=>none
structure Kn where
 F:Hp
 A:List aj
 T:List aj
inductive ag (K:aP) (k:Kn):List V->List D->Prop
 |nil:ag K k [] []
 |flat {v:V} {d:D} {vs:List V} {ds:List D}:sL d=some v->ag K k vs ds->ag K k (v::vs) (d::ds)
 |ref {n:Nat} {a:aj} {vs:List V} {ds:List D}:k.A[n]?=some a->ag K k vs ds->ag K k (.ref a::vs) (.ref n::ds)
 |lst {a:aj} {ws vs:List V} {es ds:List D}:c7 K k.F a ws->ag K k ws es->ag K k vs ds->ag K k (.ref a::vs) (.lst es::ds)
 |tup {a:aj} {ws vs:List V} {es ds:List D}:iE K k.F a ws->ag K k ws es->ag K k vs ds->ag K k (.ref a::vs) (.tup es::ds)
 |ao {a:aj} {kvs:List (TK×V×V)} {es:List (TK×D)} {ep:Nat} {vs:List V} {ds:List D}:k.F a=some (.dG kvs ep)->kvs.map (·.1)=es.map (·.1)->ag K k (kvs.map (·.2.1)) (es.map (·.1.d))->ag K k (kvs.map (·.2.2)) (es.map (·.2))->ag K k vs ds->ag K k (.ref a::vs) (.ao es::ds)
def aE.rd{H H':Hp}{a:aj}{u:HO}(e:aE H H')(h:Rd H a u):Rd H' a u:=by
 rcases h with h|⟨o,h⟩
 .exact .inl (e _ _ h)
 .exact .inr ⟨o,e _ _ h⟩
def aE.yp{K:aP}{H H':Hp}{a:aj}{xs:List V}(e:aE H H')(h:iE K H a xs):iE K H' a xs:=h.imp e.rd id
def aE.K4{K:aP}{H H':Hp}{a:aj}{xs:List V}(e:aE H H')(h:c7 K H a xs):c7 K H' a xs:=h.imp e.rd id
structure Kn.le (k k':Kn):Prop where
 f:aE k.F k'.F
 a:k.A <+: k'.A
def E9{α:Type}{l J:List α}{n:Nat}{x:α}(h:l <+: J)(e:l[n]?=some x):J[n]?=some x:=by
 obtain⟨t,rfl⟩:=h;rw[nX (dX.mp e).1];exact e
section
variable{K:aP}{k k':Kn}{v:V}{vs ws:List V}{d:D}{ds es:List D}
def ag.mono(s:k.le k')(h:ag K k vs ds):ag K k' vs ds:=by
 induction h with
 |nil=>exact .nil
 |flat e _ V=>exact .flat e V
 |ref e _ V=>exact .ref (E9 s.a e) V
 |lst e _ _ J Y=>exact .lst (s.f.K4 e) J Y
 |tup e _ _ J Y=>exact .tup (s.f.yp e) J Y
 |ao e q _ _ _ U J Y=>exact .ao (s.f _ _ e) q U J Y
def ag.length(h:ag K k vs ds):vs.length=ds.length:=by
 induction h with
 |nil=>rfl
 |flat _ _ J=>exact congrArg _ J
 |ref _ _ J=>exact congrArg _ J
 |lst _ _ _ _ J=>exact congrArg _ J
 |tup _ _ _ _ J=>exact congrArg _ J
 |ao _ _ _ _ _ _ _ J=>exact congrArg _ J
def ag.inv(h:ag K k (v::vs) (d::ds)):ag K k [v] [d]/\ag K k vs ds:=by
 cases h with
 |flat e t=>exact⟨.flat e .nil,t⟩
 |ref e t=>exact⟨.ref e .nil,t⟩
 |lst e i t=>exact⟨.lst e i .nil,t⟩
 |tup e i t=>exact⟨.tup e i .nil,t⟩
 |ao e q j i t=>exact⟨.ao e q j i .nil,t⟩
def ag.cons(h:ag K k [v] [d])(t:ag K k vs ds):ag K k (v::vs) (d::ds):=by
 cases h with
 |flat e _=>exact .flat e t
 |ref e _=>exact .ref e t
 |lst e i _=>exact .lst e i t
 |tup e i _=>exact .tup e i t
 |ao e q j i _=>exact .ao e q j i t
def ag.cz(h:ag K k vs (d::ds)):∃w us,vs=w::us/\ag K k [w] [d]/\ag K k us ds:=by
 cases vs with
 |nil=>have:=h.length;cases this
 |cons w us=>exact⟨w,us,rfl,h.inv⟩
def ag.gp(h:ag K k vs []):vs=[]:=List.eq_nil_of_length_eq_zero h.length
def ag.get{i:Nat}(h:ag K k vs ds)(e:ds[i]?=some d):∃v,vs[i]?=some v/\ag K k [v] [d]:=by
 induction ds generalizing vs i with
 |nil=>cases e
 |cons x ds V=>
  obtain⟨w,us,rfl,J,Y⟩:=h.cz;cases i with
  |zero=>cases e;exact⟨w,rfl,J⟩
  |succ i=>exact V (vs:=us) (i:=i) Y e
def ag.append(h:ag K k vs ds)(t:ag K k ws es):ag K k (vs++ws) (ds++es):=by
 induction ds generalizing vs with
 |nil=>rw[h.gp];exact t
 |cons x ds V=>
  obtain⟨w,us,rfl,J,Y⟩:=h.cz;exact .cons J (V Y)
def ag.take(n:Nat)(h:ag K k vs ds):ag K k (vs.take n) (ds.take n):=by
 induction n generalizing vs ds with
 |zero=>exact .nil
 |succ n V=>
  cases ds with
  |nil=>rw[h.gp];exact .nil
  |cons x ds=>
   obtain⟨w,us,rfl,J,Y⟩:=h.cz;exact .cons J (V Y)
def ag.drop(n:Nat)(h:ag K k vs ds):ag K k (vs.drop n) (ds.drop n):=by
 induction n generalizing vs ds with
 |zero=>exact h
 |succ n Y=>
  cases ds with
  |nil=>rw[h.gp];exact .nil
  |cons x ds=>
   obtain⟨w,us,rfl,V,J⟩:=h.cz;exact Y J
def Uk(ns:List Int):ag K k (ns.map V.int) (ns.map D.int):=by
 induction ns with
 |nil=>exact .nil
 |cons n ns J=>exact .flat rfl J
inductive R1 (K:aP) (k:Kn):V->D->Prop
 |flat {v:V} {d:D}:sL d=some v->R1 K k v d
 |ref {n:Nat} {a:aj}:k.A[n]?=some a->R1 K k (.ref a) (.ref n)
 |lst {a:aj} {ws:List V} {es:List D}:c7 K k.F a ws->ag K k ws es->R1 K k (.ref a) (.lst es)
 |tup {a:aj} {ws:List V} {es:List D}:iE K k.F a ws->ag K k ws es->R1 K k (.ref a) (.tup es)
 |ao {a:aj} {es:List (TK×V×V)} {kvs:List (TK×D)} {ep:Nat}:k.F a=some (.dG es ep)->es.map (·.1)=kvs.map (·.1)->ag K k (es.map (·.2.1)) (kvs.map (·.1.d))->ag K k (es.map (·.2.2)) (kvs.map (·.2))->R1 K k (.ref a) (.ao kvs)
def ag.one(h:ag K k [v] [d]):R1 K k v d:=by
 cases h with
 |flat q _=>exact .flat q
 |ref q _=>exact .ref q
 |lst q i _=>exact .lst q i
 |tup q i _=>exact .tup q i
 |ao q e i j _=>exact .ao q e i j
def ag.aR{u:V}(h:ag K k [v] [d])(e:sL d=some u):v=u:=by
 cases h.one with
 |flat q=>rw[e] at q;exact(Option.some.inj q).symm
 |_=>cases e
def ag.isRef{n:Nat}(h:ag K k [v] [.ref n]):∃a,v=.ref a/\k.A[n]?=some a:=by
 cases h.one with
 |flat q=>cases q
 |ref e=>exact⟨_,rfl,e⟩
def ag.uV(h:ag K k [v] [.lst es]):∃a ws,v=.ref a/\c7 K k.F a ws/\ag K k ws es:=by
 cases h.one with
 |flat q=>cases q
 |lst e i=>exact⟨_,_,rfl,e,i⟩
def ag.isTup(h:ag K k [v] [.tup es]):∃a ws,v=.ref a/\iE K k.F a ws/\ag K k ws es:=by
 cases h.one with
 |flat q=>cases q
 |tup e i=>exact⟨_,_,rfl,e,i⟩
def ag.uU{kvs:List (TK×D)}(h:ag K k [v] [.ao kvs]):∃a es ep,v=.ref a/\k.F a=some (.dG es ep)/\es.map (·.1)=kvs.map (·.1)/\ag K k (es.map (·.2.1)) (kvs.map (·.1.d))/\ag K k (es.map (·.2.2)) (kvs.map (·.2)):=by
 cases h.one with
 |flat q=>cases q
 |ao e q j i=>exact⟨_,_,_,rfl,e,q,j,i⟩
end
end L2
set_option autoImplicit false
namespace L2
open PySem PySem.Spec PyProof.Rows
inductive Bx where
 |lst (xs:List D)|ao (kvs:List (TK×D))
noncomputable def Bx.d:Bx->D
 |.lst xs=>.lst xs
 |.ao kvs=>.ao kvs
inductive Cell where
 |o (c:Bx)|z (c:Bx)|ins (C:aj) (fs:List (Str×D))
structure aU where
 s:List Cell
 r:List Cell
inductive Val where
 |d (x:D)|c (n:Nat)
abbrev Gm:=List (ai Val)
inductive Rv where
 |v (x:Val)|o (c:Bx)
inductive Rs (α:Type) where
 |ok (a:α) (S:aU)|ex (C:aj) (l:ai Int) (S:aU)
abbrev Gx(α:Type):=Gm->aU->ai (Rs α)
noncomputable def bd{α β:Type}(x:ai (Rs α))(f:α->aU->ai (Rs β)):ai (Rs β):=match x with
 |none=>none
 |some (.ok a S)=>f a S
 |some (.ex C l S)=>some (.ex C l S)
noncomputable def tH:Nat->HO->Bool
 |0,_=>false
 |1,.dG _ _=>true
 |1,_=>false
 |_,_=>true
def dY(K:aP)(k:Kn)(H:Hp)(a:aj):Bx->Prop
 |.lst xs=>∃ws,H a=some (.lst ws)/\ag K k ws xs
 |.ao kvs=>∃es ep,H a=some (.dG es ep)/\es.map (·.1)=kvs.map (·.1)/\ag K k (es.map (·.2.1)) (kvs.map (·.1.d))/\ag K k (es.map (·.2.2)) (kvs.map (·.2))
def bD(K:aP)(k:Kn)(H:Hp)(a:aj):Cell->Prop
 |.o c=>k.F a=none/\dY K k H a c
 |.z c=>k.F a≠none/\ag K k [.ref a] [c.d]
 |.ins C fs=>k.F a=none/\∃dx J,H a=some (.ins C dx J)/\J.map (·.1)=fs.map (·.1)/\ag K k (J.map (·.2)) (fs.map (·.2))
structure Lay (K:aP) (k:Kn) (H:Hp) (as:List aj) (cs:List Cell):Prop where
 ln:as.length=cs.length
 at':∀(n:Nat) (a:aj) (c:Cell),as[n]?=some a->cs[n]?=some c->bD K k H a c
structure cv (K:aP) (k:Kn) (H:Hp) (S:aU):Prop where
 le:aE k.F H
 nd:(k.A++k.T).Nodup
 r:Lay K k H k.A S.r
 s:Lay K k H k.T S.s
structure Up (q:Nat) (k:Kn) (H:Hp) (k':Kn) (H':Hp):Prop where
 f:aE k.F k'.F
 a:k.A <+: k'.A
 t:k.T <+: k'.T
 h:∀a o,tH q o=true->H a=some o->H' a=some o
def dc(K:aP)(k:Kn)(x:V):Val->Prop
 |.d y=>ag K k [x] [y]
 |.c n=>∃a,x=.ref a/\k.T[n]?=some a
structure hV (K:aP) (k:Kn) (Z:St) (U:Gm):Prop where
 ln:Z.length=U.length
 at':∀(i:Nat) (v:Val),U[i]?=some (some v)->∃x,Z[i]?=some (some x)/\dc K k x v
def ny(K:aP)(k:Kn)(H:Hp)(x:V):Rv->Prop
 |.v y=>dc K k x y
 |.o c=>∃a,x=.ref a/\k.F a=none/\a∉k.A++k.T/\dY K k H a c
section
variable{q:Nat}{K:aP}{k k' Q:Kn}{F' H H' J:Hp}{S:aU}{Z:St}{U:Gm}{n:Nat}{a:aj}{as:List aj}{cs:List Cell}{c:Cell}{b:Bx}
theorem Kn.le.refl:k.le k:=⟨aE.refl _,kQ _⟩
def Up.le(u:Up q k H k' H'):k.le k':=⟨u.f,u.a⟩
theorem Up.refl:Up q k H k H:=⟨aE.refl _,kQ _,kQ _,λ_ _ _ h=>h⟩
theorem Up.trans(x:Up q k H k' H')(y:Up q k' H' Q J):Up q k H Q J:=⟨x.f.trans y.f,x.a.trans y.a,x.t.trans y.t,λa o z h=>y.h a o z (x.h a o z h)⟩
def Up.of(s:aE k.F F')(t:aE H H'):Up q k H ⟨F',k.A,k.T⟩ H':=⟨s,kQ _,kQ _,λa o _ h=>t a o h⟩
def dc.up{x:V}{v:Val}(h:dc K k x v)(u:Up q k H k' H'):dc K k' x v:=by
 cases v with
 |d y=>exact ag.mono u.le h
 |c n=>obtain⟨a,e,z⟩:=h;exact⟨a,e,E9 u.t z⟩
theorem uk.up{xs:List V}{vs:List Val}(h:Paired (dc K k) xs vs)(u:Up q k H k' H'):Paired (dc K k') xs vs:=Paired.CH h λ_ _ r=>r.up u
theorem hV.up(h:hV K k Z U)(u:Up q k H k' H'):hV K k' Z U:=⟨h.ln,λi v e=>let ⟨x,z,r⟩:=h.at' i v e;⟨x,z,r.up u⟩⟩
def dY.keep(h:dY K k H a b)(s:k.le k')(e:∀o,H a=some o->H' a=some o):dY K k' H' a b:=by
 cases b with
 |lst xs=>obtain⟨ws,z,r⟩:=h;exact⟨ws,e _ z,r.mono s⟩
 |ao kvs=>obtain⟨es,ep,z,q,r,t⟩:=h;exact⟨es,ep,e _ z,q,r.mono s,t.mono s⟩
theorem bD.keep(h:bD K k H a c)(s:k.le k')(e:∀o,H a=some o->H' a=some o)(Y:k.F a=none->k'.F a=none):bD K k' H' a c:=by
 cases c with
 |o b=>exact⟨Y h.1,h.2.keep s e⟩
 |z b=>exact⟨λz=>h.1 (s.f.free z),h.2.mono s⟩
 |ins C fs=>obtain⟨h0,dx,V,G,W,B⟩:=h;exact⟨Y h0,dx,V,e _ G,W,B.mono s⟩
def dY.there(h:dY K k H a b):H a≠none:=λz=>by
 cases b with
 |lst xs=>obtain⟨_,e,_⟩:=h;rw[e] at z;cases z
 |ao kvs=>obtain⟨_,_,e,_⟩:=h;rw[e] at z;cases z
theorem bD.there(h:bD K k H a c)(le:aE k.F H):H a≠none:=by
 cases c with
 |o b=>exact h.2.there
 |z b=>exact λz=>h.1 (le.free z)
 |ins C fs=>obtain⟨_,dx,V,Y,_⟩:=h;rw[Y];exact λz=>nomatch z
def Lay.get(h:Lay K k H as cs)(e:as[n]?=some a):∃c,cs[n]?=some c/\bD K k H a c:=by
 have Y:n<cs.length:=h.ln ▸ (dX.mp e).1;exact⟨_,gu Y,h.at' n a _ e (gu Y)⟩
def Lay.keep(h:Lay K k H as cs)(f:∀a∈as,∀c,bD K k H a c->bD K k' H' a c):Lay K k' H' as cs:=⟨h.ln,λn a c e1 e2=>f a (rh e1) c (h.at' n a c e1 e2)⟩
def NJ{α:Type}{l:List α}{x y:α}(e:(l++[x])[n]?=some y):l[n]?=some y\/(n=l.length/\y=x):=by
 by_cases h:n<l.length
 .rw[nX h] at e;exact .inl e
 .have Y:=Nat.le_of_not_lt h;rw[oW Y] at e;have V:n - l.length=0:=Nat.lt_one_iff.mp (dX.mp e).1;rw[V] at e;cases e;exact .inr ⟨by lia,rfl⟩
def EO{α:Type}{l:List α}{x:α}:(l++[x])[l.length]?=some x:=by rw[oW (bU _),Gn];rfl
def Lay.push(h:Lay K k H as cs)(hc:bD K k H a c):Lay K k H (as++[a]) (cs++[c]):=by
 refine⟨by rw[cZ,cZ,h.ln];rfl,λn b d e1 e2=>?_⟩
 rcases NJ e1 with e1|⟨z,rfl⟩ <;> rcases NJ e2 with e2|⟨y,rfl⟩
 .exact h.at' n b d e1 e2
 .exact cQ (dX.mp e1).1 (by rw[y,h.ln];exact jQ _)
 .exact cQ (dX.mp e2).1 (by rw[z,h.ln];exact jQ _)
 .exact hc
def HJ{α:Type}{l:List α}{i j:Nat}{x:α}(nd:l.Nodup)(e1:l[i]?=some x)(e2:l[j]?=some x):i=j:=by
 obtain⟨G,Y⟩:=dX.mp e1;obtain⟨W,V⟩:=dX.mp e2;exact(DC nd).mp (Y.trans V.symm)
def Lay.set(h:Lay K k H as cs)(nd:as.Nodup)(V:as[n]?=some a)(hc:bD K k' H' a c)(f:∀b∈as,b≠a->∀c,bD K k H b c->bD K k' H' b c):Lay K k' H' as (cs.set n c):=by
 refine⟨by rw[rj];exact h.ln,λj b d e1 e2=>?_⟩
 by_cases Y:n=j
 .subst Y;rw[oV (h.ln ▸ (dX.mp V).1)] at e2;cases e2;cases V.symm.trans e1;exact hc
 .rw[ud Y] at e2;exact f b (rh e1) (λz=>Y (HJ nd V (z ▸ e1))) d (h.at' j b d e1 e2)
def Lay.take(h:Lay K k H as cs)(m:Nat):Lay K k H (as.take m) (cs.take m):=by
 refine⟨by rw[vC,vC,h.ln],λj b d e1 e2=>?_⟩
 rw[List.getElem?_take] at e1 e2;split at e1
 .rename_i Y
  rw[bJ Y] at e2;exact h.at' j b d e1 e2
 .cases e1
theorem Lay.there(h:Lay K k H as cs)(le:aE k.F H):∀a∈as,H a≠none:=λa m=>by
 obtain⟨n,e⟩:=yz.mp m;obtain⟨c,_,hc⟩:=h.get e;exact hc.there le
theorem cv.there(h:cv K k H S):∀a∈k.A++k.T,H a≠none:=λa m=>(iC.mp m).elim (h.r.there h.le a) (h.s.there h.le a)
def cv.fresh(h:cv K k H S)(e:H a=none):k.F a=none/\a∉k.A++k.T:=⟨h.le.free e,λm=>h.there a m e⟩
def cv.new(h:cv K k H S)(s1:aE k.F F')(s2:∀a∈k.A++k.T,∀o,H a=some o->H' a=some o)(s3:aE F' H')(Y:∀p∈k.A++k.T,k.F p=none->F' p=none):cv K ⟨F',k.A,k.T⟩ H' S:=
 have go:∀a∈k.A++k.T,∀c,bD K k H a c->bD K ⟨F',k.A,k.T⟩ H' a c:=λa m _ q=>q.keep ⟨s1,kQ _⟩ (s2 a m) (Y a m)
 ⟨s3,h.nd,h.r.keep λa m=>go a (Ag _ m),h.s.keep λa m=>go a (ng _ m)⟩
def bD.le(h:bD K k H a c)(s:k.le k')(e:k.F=k'.F):bD K k' H a c:=h.keep s (λ_ z=>z) λz=>by rw[<-e];exact z
def HK{α:Type}{l:List α}{x:α}:l <+: l++[x]:=List.prefix_append _ _
def Zl{α:Type}{l m:List α}{x:α}(h:(l++m).Nodup)(n:x∉l++m):((l++[x])++m).Nodup:=by
 rw[jz];exact(List.perm_middle (l₁:=l) (l₂:=m) (a:=x)).nodup_iff.mpr (nW.mpr ⟨n,h⟩)
def cv.pushS(h:cv K k H S)(hF:k.F a=none)(Y:a∉k.A++k.T)(hb:dY K k H a b):cv K ⟨k.F,k.A,k.T++[a]⟩ H ⟨S.s++[.o b],S.r⟩/\∀q,Up q k H ⟨k.F,k.A,k.T++[a]⟩ H:=by
 have go:k.le ⟨k.F,k.A,k.T++[a]⟩:=⟨aE.refl _,kQ _⟩;refine⟨⟨h.le,?_,h.r.keep λ_ _ _ z=>z.le go rfl,(h.s.push (c:=.o b) ⟨hF,hb⟩).keep λ_ _ _ z=>z.le go rfl⟩,λq=>⟨aE.refl _,kQ _,HK,λ_ _ _ z=>z⟩⟩
 rw[<-jz];exact l6.mpr ⟨h.nd,by simp,λx m y V e=>Y (by rw[jT.mp V] at e;exact e ▸ m)⟩
def cv.vd(h:cv K k H S)(Y:a∉k.A++k.T)(hc:bD K k H a c):cv K ⟨k.F,k.A++[a],k.T⟩ H ⟨S.s,S.r++[c]⟩/\∀q,Up q k H ⟨k.F,k.A++[a],k.T⟩ H:=by
 have go:k.le ⟨k.F,k.A++[a],k.T⟩:=⟨aE.refl _,HK⟩;exact⟨⟨h.le,Zl h.nd Y,(h.r.push hc).keep λ_ _ _ z=>z.le go rfl,h.s.keep λ_ _ _ z=>z.le go rfl⟩,λq=>⟨aE.refl _,HK,kQ _,λ_ _ _ z=>z⟩⟩
def kU(H H':Hp)(a:aj):Prop:=∀b,b≠a->H' b=H b
def A3{o:HO}:kU H (upd H a o) a:=λ_ z=>dz z
def cv.chg(h:cv K k H S)(ho:kU H H' a)(hF:k.F a=none)(Y:∀o,H a=some o->tH q o=false):aE k.F H'/\Up q k H k H'/\∀b,b≠a->∀c,bD K k H b c->bD K k H' b c:=
 ⟨λb o e=>by rw[ho b λz=>by rw[z,hF] at e;cases e];exact h.le b o e,⟨aE.refl _,kQ _,kQ _,λb o e z=>by
  by_cases y:b=a
  .simp_all
  .rw[ho b y];exact z⟩,λb y c z=>z.keep .refl (λo e=>by rw[ho b y];exact e) id⟩
def cv.C7(h:cv K k H S)(V:k.A[n]?=some a)(ho:kU H H' a)(hF:k.F a=none)(B:∀o,H a=some o->tH q o=false)(hc:bD K k H' a c):cv K k H' ⟨S.s,S.r.set n c⟩/\Up q k H k H':=by
 obtain⟨G,W,Y⟩:=h.chg ho hF B;obtain⟨n1,R,T⟩:=l6.mp h.nd;exact⟨⟨G,h.nd,h.r.set n1 V hc λb _=>Y b,h.s.keep λb m=>Y b λz=>T a (rh V) b m z.symm⟩,W⟩
def cv.K1(h:cv K k H S)(V:k.T[n]?=some a)(ho:kU H H' a)(hF:k.F a=none)(B:∀o,H a=some o->tH q o=false)(hc:bD K k H' a c):cv K k H' ⟨S.s.set n c,S.r⟩/\Up q k H k H':=by
 obtain⟨G,W,Y⟩:=h.chg ho hF B;obtain⟨n1,R,L⟩:=l6.mp h.nd;exact⟨⟨G,h.nd,h.r.keep λb m=>Y b λz=>L b m a (rh V) z,h.s.set R V hc λb _=>Y b⟩,W⟩
def dY.Y(h:dY K k H a b)(le:aE k.F H)(hF:k.F a=none):∃o,H a=some o/\aE k.F (upd k.F a o)/\aE (upd k.F a o) H/\ag K ⟨upd k.F a o,k.A,k.T⟩ [.ref a] [b.d]:=by
 have sm:∀o,aE k.F (upd k.F a o):=λo=>qa hF
 have V:∀o,H a=some o->aE (upd k.F a o) H:=λo e p u q=>by
  by_cases z:p=a
  .grind [aQ]
  .rw[dz z] at q;exact le p u q
 cases b with
 |lst xs=>
  obtain⟨ws,e,r⟩:=h;exact⟨_,e,sm _,V _ e,.lst (.inl (.inl aQ)) (r.mono ⟨sm _,kQ _⟩) .nil⟩
 |ao kvs=>
  obtain⟨es,ep,e,q,r,t⟩:=h;exact⟨_,e,sm _,V _ e,.ao aQ q (r.mono ⟨sm _,kQ _⟩) (t.mono ⟨sm _,kQ _⟩) .nil⟩
def cv.Jr(h:cv K k H S)(hF:k.F a=none)(V:a∉k.A++k.T)(hb:dY K k H a b):∃F',cv K ⟨F',k.A,k.T⟩ H S/\(∀q,Up q k H ⟨F',k.A,k.T⟩ H)/\ag K ⟨F',k.A,k.T⟩ [.ref a] [b.d]:=by
 obtain⟨o,e,s1,s2,G⟩:=hb.Y h.le hF;exact⟨_,h.new s1 (λ_ _ _ z=>z) s2 λp m z=>by rw[dz (show p≠a from λy=>V (y ▸ m))];exact z,λq=>.of s1 (aE.refl _),G⟩
def cv.Js(h:cv K k H S)(V:k.T[n]?=some a)(hc:S.s[n]?=some (.o b)):∃F',cv K ⟨F',k.A,k.T⟩ H ⟨S.s.set n (.z b),S.r⟩/\(∀q,Up q k H ⟨F',k.A,k.T⟩ H)/\ag K ⟨F',k.A,k.T⟩ [.ref a] [b.d]:=by
 refine kY λW=>?_
 obtain⟨hF,hb⟩:=h.s.at' n a _ V hc;obtain⟨o,e,s1,s2,G⟩:=hb.Y h.le hF;obtain⟨n1,B,R⟩:=l6.mp h.nd;have go:∀p,p≠a->∀c,bD K k H p c->bD K ⟨upd k.F a o,k.A,k.T⟩ H p c:=λp y c z=>z.keep ⟨s1,kQ _⟩ (λ_ z=>z) λz=>(dz y).trans z
 refine W ?_;exact⟨_,⟨s2,h.nd,h.r.keep λp m=>go p λz=>R p m a (rh V) z,h.s.set B V (c:=.z b) ⟨λz=>(nomatch aQ.symm.trans z),G⟩ λp _=>go p⟩,λq=>.of s1 (aE.refl _),G⟩
theorem cv.take(h:cv K k H S)(m:Nat):cv K ⟨k.F,k.A,k.T.take m⟩ H ⟨S.s.take m,S.r⟩:=
 have go:k.le ⟨k.F,k.A,k.T.take m⟩:=⟨aE.refl _,kQ _⟩
 ⟨h.le,h.nd.sublist ((List.Sublist.refl _).append (List.take_sublist _ _)),h.r.keep λ_ _ _ z=>z.le go rfl,(h.s.take m).keep λ_ _ _ z=>z.le go rfl⟩
def MY{α:Type}{l Y:List α}{m:Nat}(h:l <+: Y)(hm:l.length<=m):l <+: Y.take m:=by
 grind
def Up.take(u:Up q k H k' H'){m:Nat}(h:k.T.length<=m):Up q k H ⟨k'.F,k'.A,k'.T.take m⟩ H':=⟨u.f,u.a,MY u.t h,u.h⟩
end
end L2
set_option autoImplicit false
namespace L2
open PySem PySem.Spec PyProof.Rows
variable{X:Cx}{e:Expr}{t:TE}{t':TT}{v x:V}{k:Kn}{S:aU}{r:R2}{Q:List V->Hp->Prop}{vs:List Val}{ds:List D}{o:List D->ai Rv}
def PE.mono{t':TE}(h:PE X e t)(m:∀Z H Q,t' Z H Q->t Z H Q):PE X e t':=λaa s Z H Q I q=>h aa s Z H Q I (m _ _ _ q)
def PT.mono{t:TT}(h:PT X e t)(m:∀Z H Q,t' Z H Q->t Z H Q):PT X e t':=λaa s Z H Q I q=>h aa s Z H Q I (m _ _ _ q)
def PW.mono{t:TT}(h:PW X e t)(m:∀Z H Q,t' Z H Q->t Z H Q):PW X e t':=λJ aa s Z H Q I q=>h J aa s Z H Q I (m _ _ _ q)
def PA.mono{e:List Expr}{t t':TA}(h:PA X e t)(m:∀Z H Q,t' Z H Q->t Z H Q):PA X e t':=λJ aa s Z H Q I q=>h J aa s Z H Q I (m _ _ _ q)
def PS.mono{e:Stmt}{t t':TS}(h:PS X e t)(m:∀D Z H,t' D Z H->t D Z H):PS X e t':=λaa s Z H D I q=>h aa s Z H D I (m _ _ _ q)
def iM.mono{e:List Stmt}{t t':TS}(h:iM X e t)(m:∀D Z H,t' D Z H->t D Z H):iM X e t':=λaa s Z H D I q=>h aa s Z H D I (m _ _ _ q)
abbrev XW:=aj->ai aj->St->Hp->Prop
def Av(F:Hp)(dx:ai aj):ai Int->Prop
 |none=>dx=none
 |some n=>∃d,dx=some d/\F d=some (.xd [("line",.int n)])
abbrev Rp(α β:Type):=Kn->Hp->β->α->Prop
section
variable{α β J Y:Type}(R:Rp α β){R':Rp J Y}(K:aP)(W:XW)(q:Nat){Z:St}{H H':Hp}{k k':Kn}{U:Gm}{S:aU}{Q:β->Hp->Prop}{Q':Y->Hp->Prop}
def gL(Z:St)(k:Kn)(H:Hp)(Q:β->Hp->Prop):Rs α->Prop
 |.ok a S=>∀b k' H',Up q k H k' H'->cv K k' H' S->R k' H' b a->Q b H'
 |.ex C l S=>∀dx k' H',Up q k H k' H'->cv K k' H' S->Av k'.F dx l->W C dx Z H'
def tX(g:Gx α):St->Hp->(β->Hp->Prop)->Prop:=λZ H Q=>∃k U S V,cv K k H S/\hV K k Z U/\g U S=some V/\gL R K W q Z k H Q V
variable{R K W q}
def gL.up{V:Rs α}(w:gL R K W q Z k H Q V)(u:Up q k H k' H'):gL R K W q Z k' H' Q V:=by
 cases V with
 |ok a S=>exact λb k2 G B k r=>w b k2 G (u.trans B) k r
 |ex C l S=>exact λdx k2 G B k r=>w dx k2 G (u.trans B) k r
def zC{x:ai (Rs α)}{f:α->aU->ai (Rs J)}{V:Rs J}(e:bd x f=some V):(∃a S,x=some (.ok a S)/\f a S=some V)\/∃C l S,x=some (.ex C l S)/\V=.ex C l S:=by
 obtain _|_|_:=x
 .cases e
 .exact .inl ⟨_,_,rfl,e⟩
 .cases e;exact .inr ⟨_,_,_,rfl,rfl⟩
def tX.bd{g:Gx α}{f:α->aU->ai (Rs J)}{V:Rs J}(ok:cv K k H S)(gk:hV K k Z U)(e:bd (g U S) f=some V)(w:gL R' K W q Z k H Q' V)
  (h:∀a G b k1 H1,cv K k1 H1 G->hV K k1 Z U->R k1 H1 b a->f a G=some V->gL R' K W q Z k1 H1 Q' V->Up q k H k1 H1->Q b H1):tX R K W q g Z H Q:=by
 rcases zC e with⟨a,G,e1,e2⟩|⟨C,l,G,e1,rfl⟩
 .exact⟨k,U,S,_,ok,gk,e1,λb k' H' u B r=>h a G b k' H' B (gk.up u) r e2 (w.up u) u⟩
 .exact⟨k,U,S,_,ok,gk,e1,w⟩
def gL.now{a:α}{b:β}(w:gL R K W q Z k H Q (.ok a S))(ok:cv K k H S)(r:R k H b a):Q b H:=w b k H .refl ok r
def nB{g:Gx α}{G:β->Hp->Prop}(h:tX R K W q g Z H Q)(m:∀b H,Q b H->G b H):tX R K W q g Z H G:=by
 obtain⟨k,U,S,V,ok,gk,e,w⟩:=h;refine⟨k,U,S,V,ok,gk,e,?_⟩;cases V with
 |ok a S=>exact λb k2 B u k r=>m _ _ (w b k2 B u k r)
 |ex C l S=>exact w
end
abbrev RE(K:aP):Rp Rv V:=λk H x r=>ny K k H x r
abbrev RA(K:aP):Rp (List Val) (List V):=λk _ xs vs=>Paired (dc K k) xs vs
abbrev RB:Rp Bool Bool:=λ_ _ b a=>b=a
abbrev GE:=Gx Rv
variable{g f:GE}
abbrev GA:=Gx (List Val)
variable{h:GA}
abbrev GT:=Gx Bool
abbrev tE(K:aP)(W:XW)(q:Nat)(g:GE):TE:=tX (RE K) K W q g
abbrev g9(K:aP)(W:XW)(q:Nat)(g:GA):TA:=tX (RA K) K W q g
abbrev tT(K:aP)(W:XW)(q:Nat)(g:GT):TT:=tX RB K W q g
noncomputable def gC(d:D):GE:=λ_ S=>some (.ok (.v (.d d)) S)
noncomputable def mB(i:Nat):GE:=λU S=>((U[i]?).join).map λv=>.ok (.v v) S
def Mz{α:Type}{x:ai (ai α)}{v:α}(h:x.join=some v):x=some (some v):=by
 cases x with
 |none=>cases h
 |some y=>exact congrArg some h
def lX:Rv->Val
 |.v x=>x
 |.o c=>.d c.d
noncomputable def hpR(S:aU):Rv->Rs Rv
 |.o c=>.ok (.v (.d (.ref S.r.length))) ⟨S.s,S.r++[.o c]⟩
 |r=>.ok r S
def gf(g:GE):GE:=λU S=>bd (g U S) λr J=>some (hpR J r)
noncomputable def gN:GA:=λ_ S=>some (.ok [] S)
def mh(g:GE)(h:GA):GA:=λU S=>bd (g U S) λr J=>bd (h U J) λvs Y=>some (.ok (lX r::vs) Y)
section
variable{X:Cx}{K:aP}{W:XW}{q:Nat}{e a b:Expr}{es:List Expr}{J G:GE}{Y:Pos}{Z:St}{H:Hp}
def wH{d:D}(h:PE X e (tC v))(hf:sL d=some v:=by rfl):PE X e (tE K W q (gC d)):=h.mono λZ H Q t=>by
 obtain⟨k,U,S,V,ok,gk,e,w⟩:=t;cases e;exact w.now ok (show ag K k [v] [d] from .flat hf .nil)
def Zm{i:Nat}(h:PE X e (Dl i)):PE X e (tE K W q (mB i)):=h.mono λZ H Q t=>by
 obtain⟨k,U,S,F,ok,gk,e,w⟩:=t;obtain⟨v,q,rfl⟩:=c_.mp e;obtain⟨x,V,r⟩:=gk.at' i v (Mz q);exact⟨x,V,w.now ok (show ny K k H x (.v v) from r)⟩
def pM{r:Rv}(ok:cv K k H S)(h:ny K k H x r):∃k',(∀q,Up q k H k' H)/\cv K k' H S/\dc K k' x (lX r):=by
 cases r with
 |v y=>exact⟨k,λ_=>.refl,ok,h⟩
 |o c=>
  obtain⟨p,rfl,hF,hi,hc⟩:=h;obtain⟨F',V,u,U⟩:=ok.Jr hF hi hc;exact⟨_,u,V,U⟩
def sT(h:PE X e (tE K W q J)):PE X e (tE K W q (gf J)):=h.mono λZ H Q t=>by
 obtain⟨k,U,S,I,ok,gk,e,w⟩:=t;refine tX.bd ok gk e w λr L x k1 H1 V g1 F e1 T _=>?_
 cases r with
 |v y=>cases e1;exact T.now V F
 |o c=>
  cases e1;obtain⟨p,rfl,hF,hi,hc⟩:=F;obtain⟨D,u⟩:=V.vd hi (c:=.o c) ⟨hF,hc⟩;exact T _ _ _ (u q) D (show ag K _ [.ref p] [.ref L.r.length] from .ref (by rw[<-V.r.ln];exact EO) .nil)
def sF(t:g9 K W q (mh g h) Z H Q):tE K W q g Z H λx H1=>g9 K W q h Z H1 λxs F=>Q (x::xs) F:=by
 refine kY λO=>?_
 obtain⟨k,U,S,p,ok,gk,e,w⟩:=t;refine O ?_;refine tX.bd ok gk e w λr S1 x k1 H1 T g1 j e1 m _=>?_
 obtain⟨k2,V,L,y⟩:=pM T j;refine tX.bd L (g1.up (V q)) e1 (m.up (V q)) λvs S3 xs k3 n I g3 z D l d=>?_
 cases D;exact l.now I (.cons (y.up d) z)
def zD(t:g9 K W q gN Z H Q):Q [] H:=by
 obtain⟨k,U,S,V,ok,gk,e,w⟩:=t;cases e;exact w.now ok .nil
def wI:PA X [] (g9 K W q gN):=lQ.mono λZ H Q t=>zD t
def Wl(V:PE X e (tE K W q g))(U:PA X es (g9 K W q h))(F:starEach (e::es) X.env=(false,eval e X.env)::starEach es X.env):PA X (e::es) (g9 K W q (mh g h)):=(EN V U F).mono λZ H Q t=>sF t
def Top(K:aP)(k:Kn)(H:Hp)(x:V)(d:D):Prop:=ag K k [x] [d]\/∃p c,x=.ref p/\d=Bx.d c/\dY K k H p c
noncomputable def Cell.iG:Cell->ai D
 |.o c=>some c.d
 |.z c=>some c.d
 |.ins _ _=>none
def iG(S:aU):Val->ai D
 |.d (.ref n)=>(S.r[n]?).bind Cell.iG
 |.d x=>some x
 |.c n=>(S.s[n]?).bind Cell.iG
def tU(S:aU):List Val->ai (List D)
 |[]=>some []
 |v::vs=>(iG S v).bind λd=>(tU S vs).map λds=>d::ds
def MZ{x:aj}{c:Cell}{d:D}(h:bD K k H x c)(e:c.iG=some d):Top K k H (.ref x) d:=by
 cases c with
 |o b=>cases e;exact .inr ⟨x,b,rfl,rfl,h.2⟩
 |z b=>cases e;exact .inl h.2
 |ins _ _=>cases e
def E_{v:Val}{d:D}(ok:cv K k H S)(h:dc K k x v)(e:iG S v=some d):Top K k H x d:=by
 cases v with
 |d y=>
  cases y with
  |ref n=>
   obtain⟨p,rfl,V⟩:=ag.isRef h;obtain⟨c,U,e⟩:=cF.mp e;exact MZ (ok.r.at' n p c V U) e
  |_=>cases e;exact .inl h
 |c n=>
  obtain⟨p,rfl,V⟩:=h;obtain⟨c,U,e⟩:=cF.mp e;exact MZ (ok.s.at' n p c V U) e
def NK{xs:List V}(ok:cv K k H S)(h:Paired (dc K k) xs vs)(e:tU S vs=some ds):Paired (Top K k H) xs ds:=by
 induction h generalizing ds with
 |nil=>cases e;exact .nil
 |cons r _ U=>
  obtain⟨d,e1,e⟩:=cF.mp e;obtain⟨es,e2,rfl⟩:=c_.mp e;exact .cons (E_ ok r e1) (U e2)
def QY(K:aP)(k':Kn)(H H':Hp)(x:V):Rv->Prop
 |.v (.d y)=>ag K k' [x] [y]
 |.o c=>∃p,x=.ref p/\H p=none/\k'.F p=none/\dY K k' H' p c
 |_=>False
def kF(K:aP)(k:Kn)(H:Hp)(r:Rv)(Q:VK):Prop:=∀x F' H',aE k.F F'->aE H H'->aE F' H'->(∀p,H p≠none->k.F p=none->F' p=none)->QY K ⟨F',k.A,k.T⟩ H H' x r->Q x H'
def b_(K:aP)(r:List V->Hp->VK->Prop)(o:List D->ai Rv):Prop:=∀k H xs ds y Q,aE k.F H->Paired (Top K k H) xs ds->o ds=some y->kF K k H y Q->r xs H Q
def gO(o:List D->ai Rv)(g:GA):GE:=λU S=>bd (g U S) λvs V=>(tU V vs).bind λds=>(o ds).map λr=>.ok r V
def kF.fin{y:Rv}{Q:VK}(ok:cv K k H S)(w:gL (RE K) K W q Z k H Q (.ok y S)):kF K k H y Q:=λx F' H' s1 s2 s3 D nw=>by
 refine w x ⟨F',k.A,k.T⟩ H' (.of s1 s2) (ok.new s1 (λp _ o z=>s2 p o z) s3 λp m=>D p (ok.there p m)) ?_
 cases y with
 |v z=>
  cases z with
  |d z=>exact nw
  |_=>exact nw.elim
 |o c=>obtain⟨p,V,U,F,L⟩:=nw;exact⟨p,V,F,(ok.fresh U).2,L⟩
def sO{r:List V->Hp->VK->Prop}(bN:b_ K r o){g:GA}{Q:VK}(t:tE K W q (gO o g) Z H Q):g9 K W q g Z H λxs H1=>r xs H1 Q:=by
 obtain⟨k,U,S,D,ok,gk,e,w⟩:=t;refine tX.bd ok gk e w λvs O xs k1 H1 F g1 L e1 I _=>?_
 obtain⟨ds,e2,e1⟩:=cF.mp e1;obtain⟨y,T,rfl⟩:=c_.mp e1;exact bN k1 H1 xs ds y Q F.le (NK F L e2) T (.fin F I)
section
variable{k:Kn}{x:V}{Q:VK}
def kF.rep{y:D}(h:kF K k H (.v (.d y)) Q)(le:aE k.F H)(r:ag K k [v] [y]):Q v H:=h v k.F H (aE.refl _) (aE.refl _) le (λ_ _ z=>z) r
theorem kF.flat{y:D}(h:kF K k H (.v (.d y)) Q)(le:aE k.F H)(e:sL y=some v):Q v H:=h.rep le (.flat e .nil)
def kF.lst{ws:List V}(h:kF K k H (.o (.lst ds)) Q)(le:aE k.F H)(r:ag K k ws ds){l:aj}(U:H l=none):Q (.ref l) (upd H l (.lst ws)):=
 h _ k.F _ (aE.refl _) (qa U) (le.put U) (λ_ _ z=>z) ⟨l,rfl,U,le.free U,ws,aQ,r⟩
def kF.ao{kvs:List (TK×D)}{es:List (TK×V×V)}{ep:Nat}(h:kF K k H (.o (.ao kvs)) Q)(le:aE k.F H)(q:es.map (·.1)=kvs.map (·.1))(r:ag K k (es.map (·.2.1)) (kvs.map (·.1.d)))(t:ag K k (es.map (·.2.2)) (kvs.map (·.2))){l:aj}(U:H l=none):Q (.ref l) (upd H l (.dG es ep)):=
 h _ k.F _ (aE.refl _) (qa U) (le.put U) (λ_ _ z=>z) ⟨l,rfl,U,le.free U,es,ep,aQ,q,r,t⟩
theorem kF.tup{ws:List V}(h:kF K k H (.v (.d (.tup ds))) Q)(le:aE k.F H)(r:ag K k ws ds){l:aj}(U:H l=none):Q (.ref l) (upd H l (.tup ws)):=by
 have hF:=le.free U;refine h _ (upd k.F l (.tup ws)) _ (qa hF) (qa U) (λb u z=>?_) (λp L I=>by rw[dz (show p≠l from λz=>L (z ▸ U))];exact I) (show ag K ⟨upd k.F l (.tup ws),k.A,k.T⟩ [.ref l] [.tup ds] from .tup (.inl (.inl aQ)) (r.mono ⟨qa hF,kQ _⟩) .nil)
 by_cases q:b=l
 .subst q;rw[aQ] at z ⊢;exact z
 .rw[dz q] at z ⊢;exact le b u z
noncomputable abbrev Kn.all(k:Kn)(H:Hp):Kn:=⟨H,k.A,k.T⟩
def ag.all{vs:List V}(h:ag K k vs ds)(le:aE k.F H):ag K (k.all H) vs ds:=h.mono ⟨le,kQ _⟩
def Top.rep{d:D}(h:Top K k H x d)(le:aE k.F H):ag K (k.all H) [x] [d]:=by
 rcases h with h|⟨p,c,rfl,rfl,h⟩
 .exact h.all le
 .cases c with
  |lst xs=>obtain⟨ws,e,r⟩:=h;exact .lst (.inl (.inl e)) (r.all le) .nil
  |ao kvs=>obtain⟨es,ep,e,q,r,t⟩:=h;exact .ao e q (r.all le) (t.all le) .nil
def Top.flat{d:D}(h:Top K k H x d)(e:sL d=some v):x=v:=by
 rcases h with h|⟨p,c,rfl,rfl,h⟩
 .exact h.aR e
 .cases c <;> cases e
def Top.lst(h:Top K k H x (.lst ds))(le:aE k.F H):∃p ws,x=.ref p/\c7 K H p ws/\ag K k ws ds:=by
 rcases h with h|⟨p,c,rfl,e,h⟩
 .obtain⟨p,ws,rfl,q,r⟩:=h.uV;exact⟨p,ws,rfl,le.K4 q,r⟩
 .cases c <;> cases e;obtain⟨ws,e,r⟩:=h;exact⟨p,ws,rfl,.inl (.inl e),r⟩
def Top.tup(h:Top K k H x (.tup ds))(le:aE k.F H):∃p ws,x=.ref p/\iE K H p ws/\ag K k ws ds:=by
 rcases h with h|⟨p,c,rfl,e,h⟩
 .obtain⟨p,ws,rfl,q,r⟩:=h.isTup;exact⟨p,ws,rfl,le.yp q,r⟩
 .cases c <;> cases e
def Top.ao{kvs:List (TK×D)}(h:Top K k H x (.ao kvs))(le:aE k.F H):∃p es ep,x=.ref p/\H p=some (.dG es ep)/\es.map (·.1)=kvs.map (·.1)/\ag K k (es.map (·.2.1)) (kvs.map (·.1.d))/\ag K k (es.map (·.2.2)) (kvs.map (·.2)):=by
 rcases h with h|⟨p,c,rfl,e,h⟩
 .obtain⟨p,es,ep,rfl,q,r⟩:=h.uU;exact⟨p,es,ep,rfl,le _ _ q,r⟩
 .cases c <;> cases e;obtain⟨es,ep,h⟩:=h;exact⟨p,es,ep,rfl,h⟩
end
def lS(r:R2):List V->Hp->VK->Prop:=λxs H Q=>∃x y,xs=[x,y]/\r x y H Q
def KO(r:V->Hp->VK->Prop):List V->Hp->VK->Prop:=λxs H Q=>∃x,xs=[x]/\r x H Q
abbrev bj(f:GE):GA:=mh f gN
abbrev bL(f g:GE):GA:=mh f (mh g gN)
def Fw{r:V->V->Hp->Prop}(h:g9 K W q (bL f g) Z H λxs H1=>∃x y,xs=[x,y]/\r x y H1):tE K W q f Z H λx H1=>tE K W q g Z H1 λy U=>r x y U:=
 nB (sF h) λx H1 t=>nB (sF t) λy U t=>by
  obtain⟨F,T,e,q⟩:=zD t;cases e;exact q
def Jh{r:V->Hp->Prop}(h:g9 K W q (bj f) Z H λxs H1=>∃x,xs=[x]/\r x H1):tE K W q f Z H r:=
 nB (sF h) λx H1 t=>by
  obtain⟨U,e,q⟩:=zD t;cases e;exact q
def e7r{op:Operator}(ho:dZ X (binaryOp op) r)(ok:b_ K (lS r) o)(V:PE X a (tE K W q J))(hb:PE X b (tE K W q G)):PE X (.BinOp a op b Y) (tE K W q (gO o (bL J G))):=(e7k ho V hb).mono λ_ _ _ t=>Fw (sO ok t)
def e7s{op:UnaryOp}{r:V->Hp->VK->Prop}(ho:DP X (unaryOp op) r)(ok:b_ K (KO r) o)(U:PE X a (tE K W q J)):PE X (.UnaryOp op a Y) (tE K W q (gO o (bj J))):=(e7l ho U).mono λ_ _ _ t=>Jh (sO ok t)
def Zn{op:CmpOp}(ho:dZ X (compareOp op) r)(ok:b_ K (lS r) o)(V:PE X a (tE K W q J))(hb:PE X b (tE K W q G))(hm:behindInMarks op b=false):PE X (.Compare a [op] [b] Y) (tE K W q (gO o (bL J G))):=(V2 ho V hb hm).mono λ_ _ _ t=>Fw (sO ok t)
def e7t(ho:o5 X r)(ok:b_ K (lS r) o)(V:PE X a (tE K W q J))(hb:PE X b (tE K W q G))(U:Ib b):PE X (.Subscript a b Y) (tE K W q (gO o (bL J G))):=(e7o ho V hb U).mono λ_ _ _ t=>Fw (sO ok t)
end
noncomputable def Rv.bool:Rv->ai Bool
 |.v (.d (.bl b))=>some b
 |_=>none
def Rv.sQ{r:Rv}{b:Bool}(h:r.bool=some b):r=.v (.d (.bl b)):=by
 obtain(d|_)|_:=r
 .cases d <;> cases h;rfl
 all_goals cases h
noncomputable def yw:D->ai Bool
 |.aI=>some false
 |.bl b=>some b
 |.int i=>some (i != 0)
 |.str y=>if y.length<=1000000 then some ((y.length:Int) != 0) else none
 |.lst xs=>some (!xs.isEmpty)
 |.tup xs=>some (!xs.isEmpty)
 |_=>none
def gB(g:GE):GT:=λU S=>bd (g U S) λr J=>r.bool.map λb=>.ok b J
def cM(g:GE):GT:=λU S=>bd (g U S) λr J=>((iG J (lX r)).bind yw).map λb=>.ok b J
def dQ(g:GT):GT:=λU S=>bd (g U S) λb J=>some (.ok (!b) J)
def B1(c g h:GT):GT:=λU S=>bd (c U S) λb J=>if b=true then g U J else h U J
def iw(b:Bool):GT:=λ_ S=>some (.ok b S)
def cI(g h:GT):GT:=B1 g h (iw false)
def iW(g h:GT):GT:=B1 g (iw true) h
def rV(c:GT)(g h:GE):GE:=λU S=>bd (c U S) λb J=>if b=true then g U J else h U J
def nG(g h:GE):GE:=rV (gB g) h (gC (.bl false))
def BZ(g:GE):GE:=λU S=>bd (gB g U S) λb J=>some (.ok (.v (.d (.bl (!b)))) J)
section
variable{X:Cx}{K:aP}{W:XW}{q:Nat}{e a b:Expr}{J:List Expr}{f g h:GE}{V G:GT}{Y:Pos}{Z:St}{H:Hp}
def Ji{Q:Bool->Hp->Prop}(t:tT K W q (gB f) Z H Q):tE K W q f Z H λx H1=>∃k,x=.bl k/\Q k H1:=by
 obtain⟨k,U,S,T,ok,gk,e,w⟩:=t;refine tX.bd ok gk e w λr L x k1 H1 B g1 F e1 R _=>?_
 obtain⟨b,e2,rfl⟩:=c_.mp e1;cases Rv.sQ e2;exact⟨b,(show ag K k1 [x] [.bl b] from F).aR rfl,R.now B rfl⟩
def Wm{d:D}{b:Bool}(le:aE k.F H)(h:Top K k H x d)(e:yw d=some b):vS K x H b:=by
 cases d with
 |aI=>cases h.flat rfl;cases e;rfl
 |bl b=>cases h.flat rfl;cases e;rfl
 |int i=>cases h.flat rfl;cases e;rfl
 |str y=>
  cases h.flat rfl;unfold yw at e;dsimp only at e;split at e
  .cases e;exact⟨jy (by assumption) (by decide),rfl⟩
  .cases e
 |lst xs=>
  cases e;obtain⟨p,ws,rfl,U,B⟩:=h.lst le;refine .inl ⟨ws,U,?_⟩;have:=B.length
  grind
 |tup xs=>
  cases e;obtain⟨p,ws,rfl,U,B⟩:=h.tup le;refine .inr (.inl ⟨ws,U,?_⟩);have:=B.length
  grind
 |_=>cases e
def Zo(I:X.K=K)(O:PE X a (tE K W q f))(ht:∀B,isTrue a X.env B=(do let v <-B;standAt a.pos;holding [v] (truthy v))):PT X a (tT K W q (cM f)):=(T3 O ht).mono λZ H Q t=>by
 refine kY λT=>?_
 obtain⟨k,U,S,z,ok,gk,e,w⟩:=t;refine T ?_;refine tX.bd ok gk e w λr l x k1 H1 R g1 j e1 m _=>?_
 refine kY λT=>?_
 obtain⟨b,e2,rfl⟩:=c_.mp e1;obtain⟨d,L,D⟩:=cF.mp e2;obtain⟨k2,p,F,y⟩:=pM R j;refine T ?_;rw[I];exact⟨b,Wm F.le (E_ F y L) D,(m.up (p q)).now F rfl⟩
def P5(h:PT X a (q9 t))(m:∀Z H Q,tE K W q f Z H Q->t Z H Q):PT X a (tT K W q (gB f)):=h.mono λZ H Q q=>m Z H _ (Ji q)
def wU(h:PT X a (tT K W q V)):PT X (.UnaryOp .Not a Y) (tT K W q (dQ V)):=(YY h).mono λZ H Q t=>by
 obtain⟨k,U,S,T,ok,gk,e,w⟩:=t;refine tX.bd ok gk e w λb L x k1 H1 B g1 F e1 R _=>?_
 cases e1;cases F;exact R.now B rfl
def Fp{O I:Type}{R':Rp I O}{R L:Gx I}{Q':O->Hp->Prop}(t:tX R' K W q (λU S=>bd (V U S) λb B=>if b=true then R U B else L U B) Z H Q'):tT K W q V Z H λb H1=>if b=true then tX R' K W q R Z H1 Q' else tX R' K W q L Z H1 Q':=by
 refine kY λj=>?_
 obtain⟨k,U,S,F,ok,gk,e,w⟩:=t;refine j ?_;refine tX.bd ok gk e w λb B x k1 H1 T g1 y e1 D _=>?_
 cases y;cases b with
 |true=>exact qL ⟨k1,U,B,F,T,g1,e1,D⟩
 |false=>exact qK ⟨k1,U,B,F,T,g1,e1,D⟩
def BH{α β:Type}{R:Rp α β}{c:α}{b:β}{Q:β->Hp->Prop}(t:tX R K W q (λ_ S=>some (.ok c S)) Z H Q)(r:∀k H,R k H b c):Q b H:=by
 obtain⟨k,U,S,B,ok,gk,e,w⟩:=t;cases e;exact w.now ok (r k H)
def Ig{c:Bool}{p U q B:Prop}(h:if c=true then p else q)(F:p->U)(T:q->B):if c=true then U else B:=by
 lia
def wV(U:PT X a (tT K W q V))(hb:PW X (.BoolOp .And (b::J) Y) (tT K W q G)):PW X (.BoolOp .And (a::b::J) Y) (tT K W q (cI V G)):=(YX U hb).mono λZ H Q t=>
 nB (Fp t) λc H1 z=>Ig z id λz=>BH z λ_ _=>rfl
def BP(U:PT X a (tT K W q V))(hb:PW X (.BoolOp .Or (b::J) Y) (tT K W q G)):PW X (.BoolOp .Or (a::b::J) Y) (tT K W q (iW V G)):=(e7i U hb).mono λZ H Q t=>
 nB (Fp t) λc H1 z=>Ig z (λz=>BH z λ_ _=>rfl) id
def wJ(U:PE X a (tE K W q f))(hb:PE X (.BoolOp .And (b::J) Y) (tE K W q g)):PE X (.BoolOp .And (a::b::J) Y) (tE K W q (nG f g)):=(YZ U hb).mono λZ H Q t=>
 nB (Ji (Fp t)) λx H1 ⟨c,e,z⟩=>⟨c,e,Ig z id λz=>BH z λ_ _=>ag.flat rfl .nil⟩
def wM(F:PE X a (tE K W q f)):PE X (.UnaryOp .Not a Y) (tE K W q (BZ f)):=(Y0 F).mono λZ H Q t=>Ji (by
 obtain⟨k,U,S,R,ok,gk,e,w⟩:=t;refine tX.bd ok gk e w λb D x k1 H1 B g1 T e1 L _=>?_
 cases e1;cases T;exact L.now B (show ag K k1 [_] [_] from .flat rfl .nil))
def BK{c:Expr}(hc:PT X c (tT K W q V))(U:PE X a (tE K W q f))(hb:PE X b (tE K W q g)):PE X (.IfExp c a b Y) (tE K W q (rV V f g)):=(TX hc U hb).mono λZ H Q t=>Fp t
end
noncomputable def nF(S:aU):Val->ai (D×aU)
 |.d x=>some (x,S)
 |.c n=>(S.s[n]?).bind λc=>match c with
  |.o b=>some (b.d,⟨S.s.set n (.z b),S.r⟩)
  |.z b=>some (b.d,S)
  |.ins _ _=>none
def ph:List Val->aU->ai (List D×aU)
 |[],S=>some ([],S)
 |v::vs,S=>(nF S v).bind λp=>(ph vs p.2).map λq=>(p.1::q.1,q.2)
section
variable{K:aP}{k:Kn}{H:Hp}{S S':aU}
def ER{v:Val}{d:D}(ok:cv K k H S)(h:dc K k x v)(e:nF S v=some (d,S')):∃k',(∀q,Up q k H k' H)/\cv K k' H S'/\ag K k' [x] [d]:=by
 cases v with
 |d y=>cases e;exact⟨k,λ_=>.refl,ok,h⟩
 |c n=>
  obtain⟨p,rfl,hp⟩:=h;obtain⟨c,J,e⟩:=cF.mp e;cases c with
  |o b=>
   cases e;obtain⟨F',Y,u,V⟩:=ok.Js hp J;exact⟨_,u,Y,V⟩
  |z b=>cases e;exact⟨k,λ_=>.refl,ok,(ok.s.at' n p _ hp J).2⟩
  |ins C fs=>cases e
def ES{xs:List V}(ok:cv K k H S)(h:Paired (dc K k) xs vs)(e:ph vs S=some (ds,S')):∃k',(∀q,Up q k H k' H)/\cv K k' H S'/\ag K k' xs ds:=by
 induction vs generalizing xs ds k S with
 |nil=>cases e;cases h;exact⟨k,λ_=>.refl,ok,.nil⟩
 |cons v vs W=>
  cases h with
  |cons r t=>
   refine kY λB=>?_
   obtain⟨⟨I,L⟩,e1,e⟩:=cF.mp e;obtain⟨⟨R,D⟩,e2,e⟩:=c_.mp e;cases e;obtain⟨k1,J,U,F⟩:=ER ok r e1;obtain⟨k2,Y,G,T⟩:=W U (uk.up t (J 0)) e2;refine B ?_;exact⟨k2,λb=>(J b).trans (Y b),G,.cons (F.mono (Y 0).le) T⟩
end
noncomputable def K0(t:Bool)(p:List D×aU):Rs Rv:=.ok (if t=true then .v (.d (.tup p.1)) else .o (.lst p.1)) p.2
def aW(t:Bool)(g:GA):GE:=λU S=>bd (g U S) λvs J=>if vs.length<=1000000 then(ph vs J).map (K0 t) else none
section
variable{X:Cx}{K:aP}{W:XW}{q:Nat}{es:List Expr}{fs:GA}{J:Pos}{Z:St}{H:Hp}
def ml{n:Nat}(h:n<=1000000):n<=sizeLine:=jy h (by decide)
def OL{t:Bool}{Q:VK}(h:tE K W q (aW t fs) Z H Q):g9 K W q fs Z H λxs H1=>xs.length<=sizeLine/\∀p,H1 p=none->Q (.ref p) (upd H1 p (if t=true then .tup xs else .lst xs)):=by
 refine kY λV=>?_
 obtain⟨k,U,S,L,ok,gk,e,w⟩:=h;refine V ?_;refine tX.bd ok gk e w λvs O xs k1 H1 T g1 G e1 I _=>?_
 split at e1
 .rename_i hl
  refine⟨by rw[Paired.length G];exact ml hl,λp hp=>?_⟩
  refine kY λV=>?_
  obtain⟨⟨ds,j⟩,e2,R⟩:=c_.mp e1;obtain⟨k2,D,Y,B⟩:=ES T G e2;have F:=I.up (D q);cases R;refine V ?_;cases t with
  |false=>exact kF.lst (.fin Y F) Y.le B hp
  |true=>exact kF.tup (.fin Y F) Y.le B hp
 .cases e1
def wO{x1}(h:PA X es (g9 K W q fs)):PE X (.Tuple es x1 J) (tE K W q (aW true fs)):=(Ze h).mono λZ H Q t=>OL t
def wK(h:PA X es (g9 K W q fs)):PE X (.List es J) (tE K W q (aW false fs)):=(Zf h).mono λZ H Q t=>OL t
end
variable{base:bZ}{env:Env}{outer:List Env}{L e C:aj}{dx:ai aj}{n:Nat}{H:Hp}{Q:Unit->aB->Prop}
structure f6 (fs ch:List aj) (h h':bZ):Prop where
 keep:∀b o,b∉fs->b∉ch->h.get? b=some o->h'.get? b=some o
 slot:∀b o,b∈fs->b∉ch->h.get? b=some o->∃sl,h'.get? b=some { o with slots:=sl}
def iL(n:Nat)(h:bZ)(H:Hp)(e C:aj)(dx:ai aj):Prop:=n<=e/\H e=none/\∃J vs,h.get? e=some J/\J.cls=.ref C/\J.dict=dx/\J.data=.fields vs/\1<vs.size/\
 (vs[1]?=some .none\/∃T Y V,vs[1]?=some (.ref T)/\n<=T/\H T=none/\T≠e/\h.get? T=some Y/\Y.data=.fields V/\V[3]?=some .none)
def SF(f:Array ak->Array ak)(o:Obj):(Obj.mapFields f o).dict=o.dict:=by obtain⟨c,d,J,sl⟩:=o;cases J <;> rfl
section
variable{M:Model}{A:cW}{E:ak->aB->Prop}{s:aB}
def NL{V:Obj}{vs:Array ak}{J:ak}{D:Bool}
  (qE:A.frames=some (env::outer)) (hl:s.heap.FunFrames base (env::outer)) (hf:env.frame=some L) (l:s.heap.get? e=some V) (hc:V.cls=.ref C) (hx:V.dict=dx) (hd:V.data=.fields vs) (hsz:1<vs.size) (hn:n<=s.heap.objs.size) (p:n<=e) (rW:H e=none) (d:∀a,s.heap.objs.size<=a->H a=none)
  (h:∀h',f6 (ke (env::outer)) [e] s.heap h'->iL n h' H e C dx->Q () { s with heap:=h'}) :
  wpAny M A (do let a <-frameOf env;let pl <-entryPlaceOf L D;let b <-EntryCells.newEntry J a .none (rawInt L) .none pl;setField (.ref e) 1 b) (λ_ s'=>wpAny M A (setFlight (.ref e) none) Q E s') E s:=by
 have T:e∉ke (env::outer):=λm=>by
  obtain⟨_,o,ho,JV⟩:=hl.mem m
  simp_all
 refine aK (wpAny_frameOf_fun qE hl hf λY G=>aK (wpAny_entryPlaceOf λpl jM=>?_))
 unfold EntryCells.newEntry newFields;refine aK (wpAny_newObj_type ?_ (jM.sizeOk5 _ _ _ _ _));generalize y:({ cls:=.type "traceback",dict:=none,data:=.fields ([J,.ref L,.none,rawInt L,.none]++(if pl.isEmpty then List.replicate 6 Value.none else pl)).toArray}:Obj)=W
 have e1:Y.get? e=some V:=(G.2.1 e T).trans l;have e2:(Y.push W).get? e=some V:=c8 _ e1;have O:Y.objs.size≠e:=vB (cV e1);have R:W.data=.fields ([J,.ref L,.none,rawInt L,.none]++(if pl.isEmpty then List.replicate 6 Value.none else pl)).toArray:=by rw[<-y]
 have q:3<([J,.ref L,.none,rawInt L,.none]++(if pl.isEmpty then List.replicate 6 Value.none else pl)).toArray.size:=by simp only[fO,cZ,jR,Ak];lia
 have F:=Obj.data_mapFields hd (·.setIfInBounds 1 (Value.ref Y.objs.size))
 have j:=pR (Obj.mapFields (·.setIfInBounds 1 (Value.ref Y.objs.size))) e2 (Obj.isFreed_of_fields F)
 have t3:((Y.push W).update e (Obj.mapFields (·.setIfInBounds 1 (Value.ref Y.objs.size)))).get? Y.objs.size=some W:=(nY _ _ (Ne.symm O)).trans (jb Y (Obj.isFreed_of_fields R))
 have dT:=Obj.data_mapFields R (·.setIfInBounds 3 ((none:ai aj).elim Value.none λf=>rawInt f))
 refine wpAny_setField e2 hd hsz ?_;unfold setFlight;refine aK (wpAny_field j F (x:=.ref Y.objs.size) (by simp[hsz]) ?_)
 rw[bJ (show(Value.ref Y.objs.size != Value.none)=true by simp)]
 refine wpAny_setField t3 R q (h _ ⟨λb o hb I g=>?_,λb o hb I g=>?_⟩ ⟨p,rW,_,_,(nY _ _ O).trans j,(Obj.cls_mapFields _ _).trans hc,(SF _ _).trans hx,F,by simpa using hsz,.inr ⟨Y.objs.size,_,_,by simp[hsz],by rw[G.1];exact hn,d _ (by rw[G.1];exact bU _),O,pR _ t3 (Obj.isFreed_of_fields dT),dT,by simp[Array.getElem?_setIfInBounds,q]⟩⟩)
 .have B:b≠e:=λz=>I (by simp[z])
  have U:Y.get? b=some o:=(G.2.1 b hb).trans g;rw[nY _ _ (vB (cV U)),nY _ _ (Ne.symm B)];exact c8 _ U
 .have B:b≠e:=λz=>I (by simp[z])
  obtain⟨sl,U⟩:=G.2.2 b o g;refine⟨sl,?_⟩;rw[nY _ _ (vB (cV U)),nY _ _ (Ne.symm B)];exact c8 _ U
def ON
  (I:A.frames=some (env::outer)) (hl:s.heap.FunFrames base (env::outer)) (hf:env.frame=some L) (R:n<=s.heap.objs.size) (F:∀a,s.heap.objs.size<=a->H a=none) (fl:iL n s.heap H e C dx)
  (h:∀h' ch,(∀b∈ch,n<=b/\H b=none)->f6 (ke (env::outer)) ch s.heap h'->iL n h' H e C dx->Q () { s with heap:=h'}):wpAny M A (noteFrame (.ref e) env) (λ_ s'=>wpAny M A (setFlight (.ref e) none) Q E s') E s:=by
 refine kY λO=>?_
 obtain⟨V,W,q,vs,U,hc,D,hd,hsz,Y⟩:=fl;refine O ?_;unfold noteFrame;simp only[hf];rcases Y with Y|⟨T,oT,ts,Y,FO,FD,FE,hT,B_,h3⟩
 .refine aK (wpAny_field U hd Y ?_);rw[bq (by decide)]
  exact NL I hl hf U hc D hd hsz R V W F λh' l f=>h h' [e] (λb m=>by cases jT.1 m;exact⟨V,W⟩) l f
 .refine aK (wpAny_field U hd Y ?_);rw[bJ (show(Value.ref T != Value.none)=true by simp)]
  refine aK (wpAny_field hT B_ h3 ?_);rw[bq (show ¬(Value.none == rawInt L)=true by simp[rawInt])]
  refine aK (wpAny_setField hT B_ (Al.mp h3).1 ?_);have G:∀b,b≠T->(s.heap.update T (Obj.mapFields (·.setIfInBounds 3 Value.none))).get? b=s.heap.get? b:=λb z=>nY _ _ (Ne.symm z)
  have j:∀b o,s.heap.get? b=some o->(∀vs,o.data≠.fields vs)->b≠T:=λb o hb B z=>by
   simp_all
  refine NL (s:={ s with heap:=s.heap.update T (Obj.mapFields (·.setIfInBounds 3 Value.none))}) I (hl.of_keeps λb o hb B=>⟨o,(G b (j b o hb B)).trans hb,rfl⟩) hf ((G e (Ne.symm FE)).trans U) hc D hd hsz (by simpa[Heap.size_after_update] using R) V W (λa z=>F a (by simpa[Heap.size_after_update] using z)) λh' l f=>h h' [e,T] (λb m=>?_) ⟨λb o hb J g=>?_,λb o hb J g=>?_⟩ f
  .simp only[y0c,y1m,or_false] at m;rcases m with rfl|rfl
   .exact⟨V,W⟩
   .exact⟨FO,FD⟩
  .simp only[y0c,y1m,or_false,not_or] at J;exact l.keep b o hb (by simp[J.1]) ((G b J.2).trans g)
  .simp only[y0c,y1m,or_false,not_or] at J;exact l.slot b o hb (by simp[J.1]) ((G b J.2).trans g)
def Wn
  (V:A.frames=some (env::outer)) (hl:s.heap.FunFrames base (env::outer)) (hf:env.frame=some L) (Y:n<=s.heap.objs.size) (J:∀a,s.heap.objs.size<=a->H a=none) (fl:iL n s.heap H e C dx)
  (h:∀h' ch,(∀b∈ch,n<=b/\H b=none)->f6 (ke (env::outer)) ch s.heap h'->iL n h' H e C dx->Q () { s with heap:=h'}):wpAny M A (leaving env (.ref e)) Q E s:=by
 unfold leaving;exact aK (ON V hl hf Y J fl h)
end
variable{n:Nat}{h h':bZ}{H:Hp}{e C:aj}{dx:ai aj}{X:Cx}{ch:List aj}{r:Rv}{x:Str}{k:Kn}{Q:VK}
structure DI (P:dq) (w:cL) (outer:List Env) (H:Hp) (s:aB) (H':Hp) (s':aB) (e C:aj) (dx:ai aj):Prop where
 os:s'.os=s.os
 bare:AllBare s'.gens
 un:Un (ke outer) [] H H' s.heap s'.heap
 bN:jk P w H' s'.heap
 Fz:iL s.heap.objs.size s'.heap H' e C dx
def lr(P:dq)(w:cL):rC:=λouter H s E e s'=>∃a C dx H',e=.ref a/\DI P w outer H s H' s' a C dx/\E (.ref C) dx H'
def fJ(X:Cx)(W:XW):Prop:=∀(aa:List (aj×Obj)) (Z:St) (H:Hp) (s:aB) (H':Hp) (s':aB) (e C:aj) (dx:ai aj),Inv X aa Z H s->DI X.prog X.w X.stack H s H' s' e C dx->W C dx Z H'->X.xe (.ref e) s'
def iL.mono{Y:Nat}(f:iL n h H e C dx)(l:Y<=n):iL Y h H e C dx:=by
 obtain⟨a,b,W,vs,c1,c2,V,U,G,J⟩:=f;refine⟨jy l a,b,W,vs,c1,c2,V,U,G,?_⟩;rcases J with J|⟨T,oT,ts,d1,d2,d3⟩
 .exact .inl J
 .exact .inr ⟨T,oT,ts,d1,jy l d2,d3⟩
def iL.lt(f:iL n h H e C dx):n<=h.objs.size:=by
 obtain⟨a,b,J,vs,c1,_⟩:=f;exact Ly (LB a (cV c1))
def DI.inv{aa:List (aj×Obj)}{Z:St}{H':Hp}{s s':aB}(c:DI X.prog X.w X.stack H s H' s' e C dx)(I:Inv X aa Z H s):Inv X aa Z H' s':=
 I.uF (ch:=[]) c.os c.un c.bN c.bare λ_ z=>nomatch z
def f6.bN{P:dq}{w:cL}{fs:List aj}(l:f6 fs ch h h')(k:jk P w H h)(hf:∀b∈fs,H b=none)(hc:∀b∈ch,H b=none):jk P w H h':=λb o q=>
 (k b o q).lW (λc u z g=>l.keep c u (λm=>by
  simp_all) (λm=>by
  simp_all) g) (λ_ z=>z) λ_ _ z=>z
def f6.any{fs:List aj}(l:f6 fs ch h h'){b:aj}{o:Obj}(g:h.get? b=some o)(hc:b∉ch):∃sl,h'.get? b=some { o with slots:=sl}:=by
 by_cases m:b∈fs
 .exact l.slot b o m hc g
 .exact⟨o.slots,l.keep b o m hc g⟩
def WF(E:XK):XW:=λC dx _ H'=>E (.ref C) dx H'
section
variable{P:dq}{w:cL}{K:aP}{mg:Str->ai ak}{base:bZ}{N:List Str}{qual:Str}{scope:Scope}{f:aj}{Q:ak}{A:cW}{outer:List Env}{s₀:aB}{H₀:Hp}{E:XK}
def tN:fJ (kH (lr P w) P w K mg base N qual scope f Q A outer s₀ H₀ E) (WF E):=by
 intro aa Z H s H' s' e C dx I c q;have J:=c.inv I;have W:(A.deeper (envOfC qual scope s₀.heap.objs.size f Q)).frames=some (envOfC qual scope s₀.heap.objs.size f Q::outer):=I.ok.frames;have sz:s₀.heap.objs.size<=s.heap.objs.size:=I.sz;refine Wn (base:=base) (L:=s₀.heap.objs.size) W J.stack rfl c.Fz.lt (λa z=>J.bN.fresh z) c.Fz λh' ch G V fl=>⟨e,C,dx,H',rfl,⟨J.os,J.bare,?_,V.bN J.bN J.jP λb m=>(G b m).2,fl.mono sz⟩,q⟩
 have U:∀b o,s₀.heap.get? b=some o->b∉ch:=λb o g m=>cQ (gq (cV g) (jy sz (G b m).1)) (jQ _)
 have nL:∀b o,s₀.heap.get? b=some o->b∉ke outer->b∉ke (envOfC qual scope s₀.heap.objs.size f Q::outer):=λb o g z m=>by
  rcases y0c.mp (show b∈s₀.heap.objs.size::ke outer from m) with m|m
  .exact cQ (m ▸ cV g) (jQ _)
  .exact z m
 have B:Un (ke outer) [] H₀ H' s₀.heap s'.heap:=J.base;refine⟨λb o g n hb Y=>V.keep b o (nL b o g hb) (U b o g) (B.keep b o g n hb Y),λb o g n hb Y=>?_,B.free,λb o g Y=>?_,B.kP,B.kf,B.kO⟩
 .obtain⟨sl,g1⟩:=B.slot b o g n hb Y;obtain⟨F,g2⟩:=V.any g1 (U b o g);exact⟨F,g2⟩
 .obtain⟨o',g1⟩:=B.there b o g Y;obtain⟨sl,g2⟩:=V.any g1 (U b o g);exact⟨_,g2⟩
def CT:PassesOwn (model P w) (A.deeper (envOfC qual scope s₀.heap.objs.size f Q)) (envOfC qual scope s₀.heap.objs.size f Q) (kH (lr P w) P w K mg base N qual scope f Q A outer s₀ H₀ E).xe:=PassesOwn.leaving
end
def EW(W:XW):St->XK:=λZ c dx H'=>∃C,c=.ref C/\W C dx Z H'
def oG{W:XW}(h:fJ X W):wj (lr X.prog X.w) X (EW W):=λaa Z H s e s' I h'=>by
 obtain⟨a,C,dx,H',rfl,c,J,hc,q⟩:=h';cases hc;exact h aa Z H s H' s' a C dx I c q
abbrev GM:=List Val->aU->ai (Rs Rv)
def p5(K:aP)(q n:Nat)(m:GM):Sp:=λxs H Q E=>xs.length=n/\∃k vs S J,cv K k H S/\Paired (dc K k) xs vs/\m vs S=some J/\gL (RE K) K (WF E) q [] k H Q J
def hZ(m:GM)(n:Nat):Prop:=∀vs S J,m vs S=some J->vs.length=n
def aw(m:GM)(g:GA):GE:=λU S=>bd (g U S) m
noncomputable def Rv.ref:Rv->ai Nat
 |.v (.d (.ref n))=>some n
 |_=>none
noncomputable def Cell.Ka(C:aj)(m:Str):Cell->Bool
 |.ins J fs=>J == C&&(fs.lookup m).isNone
 |_=>false
def aZ(C:aj)(x:Str)(m:GM)(f:GE)(g:GA):GE:=λU S=>bd (f U S) λr J=>r.ref.bind λn=>if(J.r[n]?).any (Cell.Ka C x)=true then bd (g U J) λvs Y=>m (.d (.ref n)::vs) Y else none
def Rv.uW:Rv->Bool
 |.v (.d .aI)=>true
 |_=>false
def Rv.qJ(h:r.uW=true):r=.v (.d .aI):=by
 obtain(d|_)|_:=r
 .cases d <;> cases h;rfl
 all_goals cases h
def qw(C:aj)(m:GM)(g:GA):GE:=λU S=>bd (g U S) λvs J=>bd (m (.d (.ref J.r.length)::vs) ⟨J.s,J.r++[.ins C []]⟩) λr Y=>if r.uW=true then some (.ok (.v (.d (.ref J.r.length))) Y) else none
def any_some{α:Type}{x:ai α}{p:α->Bool}(h:x.any p=true):∃c,x=some c/\p c=true:=by
 cases x with
 |none=>cases h
 |some c=>exact⟨c,rfl,h⟩
def Rv.lT(h:r.ref=some n):r=.v (.d (.ref n)):=by
 unfold Rv.ref at h;split at h
 .cases h;rfl
 .cases h
def SG{fs:List (Str×D)}{J:List (Str×V)}(h:J.map (·.1)=fs.map (·.1))(e:fs.lookup x=none):J.lookup x=none:=by
 induction fs generalizing J with
 |nil=>cases J with
  |nil=>rfl
  |cons _ _=>cases h
 |cons p fs Y=>
  obtain⟨y,d⟩:=p;cases J with
  |nil=>cases h
  |cons r J=>
   grind
section
variable{X:Cx}{K:aP}{W:XW}{Z:St}{H:Hp}{q n:Nat}{m:GM}{g:GA}{f:GE}
def gL.wf{J:Rs Rv}(w:gL (RE K) K W q Z k H Q J):gL (RE K) K (WF (EW W Z)) q [] k H Q J:=by
 cases J with
 |ok a S=>exact w
 |ex C l S=>exact λdx k' H' u k r=>⟨C,rfl,w dx k' H' u k r⟩
def Wo(hm:hZ m n)(t:tE K W q (aw m g) Z H Q):g9 K W q g Z H λxs H1=>p5 K q n m (xs++[]) H1 Q (EW W Z):=by
 refine kY λB=>?_
 obtain⟨k,U,S,J,ok,gk,e,w⟩:=t;refine B ?_;refine tX.bd ok gk e w λvs V xs k1 H1 G g1 Y e1 F _=>?_
 rw[jI];exact⟨(Paired.length Y).trans (hm _ _ _ e1),k1,vs,V,J,G,Y,e1,F.wf⟩
def Bs{fs:List (Str×D)}{x:V}(ok:cv K k H S)(r:ag K k [x] [.ref n])(T:S.r[n]?=some (.ins C fs)):∃a dx J,x=.ref a/\k.A[n]?=some a/\k.F a=none/\H a=some (.ins C dx J)/\J.map (·.1)=fs.map (·.1)/\ag K k (J.map (·.2)) (fs.map (·.2)):=by
 refine kY λR=>?_
 obtain⟨a,rfl,Y⟩:=r.isRef;obtain⟨h0,dx,J,U,G,B⟩:=ok.r.at' n a _ Y T;refine R ?_;exact⟨a,dx,J,rfl,Y,h0,U,G,B⟩
def NM(hm:hZ m n)(t:tE K W q (aZ C x m f g) Z H Q):q8 C x (p5 K q n m) [] (EW W) (tE K W q f) (g9 K W q g) Z H Q:=by
 refine kY λY=>?_
 obtain⟨k,U,S,V,ok,gk,e,w⟩:=t;refine Y ?_;refine tX.bd ok gk e w λr S1 y k1 H1 G g1 F e1 w1 _=>?_
 obtain⟨j,e2,J⟩:=cF.mp e1;clear e1;cases Rv.lT e2;split at J
 .rename_i hi
  obtain⟨c,O,B⟩:=any_some hi;cases c with
  |ins C' fs=>
   refine kY λY=>?_
   obtain⟨z,p⟩:=vD.mp B;cases(beq_iff_eq.mp z);obtain⟨a,dx,I,b,q2,q3,l,q5,q6⟩:=Bs G F O;refine Y ?_;refine⟨a,dx,I,b,l,SG q5 (Option.isNone_iff_eq_none.mp p),?_⟩;refine tX.bd G g1 J w1 λvs R xs k2 H2 D g2 r2 e2 w2 u2=>?_
   rw[jI];have T:Paired (dc K k2) (y::xs) (.d (.ref j)::vs):=.cons (dc.up (v:=.d (.ref j)) F u2) r2;exact⟨(Paired.length T).trans (hm _ _ _ e2),k2,_,R,V,D,T,e2,w2.wf⟩
  |_=>cases B
 .cases J
def Wq(hm:hZ m n)(t:tE K W q (qw C m g) Z H Q):vy C (p5 K q n m) [] (EW W) (g9 K W q g) Z H Q:=by
 refine kY λkz=>?_
 obtain⟨k,U,S,res,ok,gk,e,w⟩:=t;refine kz ?_;refine tX.bd ok gk e w λvs V xs k1 H1 J g1 r1 e1 j _=>?_
 intro x dx I B ne;rw[jI];have sm:aE H1 (upd (upd H1 dx (.own x)) x (.ins C dx [])):=(qa B).put (by rw[dz (Ne.symm ne)];exact I)
 obtain⟨fx,nx⟩:=J.fresh I;have b:cv K k1 _ V:=J.new (aE.refl _) (λa _ o z=>sm a o z) (J.le.trans sm) λ_ _ z=>z
 obtain⟨O,u3⟩:=b.vd nx (c:=.ins C []) ⟨fx,dx,[],aQ,rfl,.nil⟩;have D:ag K ⟨k1.F,k1.A++[x],k1.T⟩ [.ref x] [.ref V.r.length]:=.ref (by rw[<-J.r.ln];exact EO) .nil
 have R:Up q k1 H1 ⟨k1.F,k1.A++[x],k1.T⟩ (upd (upd H1 dx (.own x)) x (.ins C dx [])):=(Up.of (aE.refl _) sm).trans (u3 q);have Y:Paired (dc K ⟨k1.F,k1.A++[x],k1.T⟩) (.ref x::xs) (.d (.ref V.r.length)::vs):=.cons D (uk.up r1 R);rcases zC e1 with⟨r,p,e2,e1⟩|⟨y,l,p,e2,rfl⟩
 .refine⟨(Paired.length Y).trans (hm _ _ _ e2),_,_,_,_,O,Y,e2,λv k' H' u G r'=>?_⟩
  split at e1
  .rename_i hr
   cases e1;cases Rv.qJ hr;exact⟨(show ag K k' [v] [.aI] from r').aR rfl,j (.ref x) k' H' (R.trans u) G (ag.mono u.le D)⟩
  .cases e1
 .exact⟨(Paired.length Y).trans (hm _ _ _ e2),_,_,_,_,O,Y,e2,λex k' H' u G r'=>⟨y,rfl,j ex k' H' (R.trans u) G r'⟩⟩
end
end L2
set_option autoImplicit false
namespace L2
open PySem PySem.Spec PyProof.Rows
variable{p i:Nat}{P:St->Hp->Prop}{H:Hp}{Z:St}{L:rE}
inductive Fr where
 |nx (U:Gm) (S:aU)|bk (U:Gm) (S:aU)|ct (U:Gm) (S:aU)|rt (r:Rv) (S:aU)|ex (C:aj) (l:ai Int) (U:Gm) (S:aU)
abbrev GS:=Gm->aU->ai Fr
section
variable(K:aP)(W:XW)(q:Nat){D:Ends}{k k':Kn}{H H':Hp}{Z:St}{U:Gm}{S:aU}{J:Fr}
def cg(k:Kn)(H:Hp)(P:St->Hp->Prop)(U:Gm)(S:aU):Prop:=∀Y k' H',Up q k H k' H'->cv K k' H' S->hV K k' Y U->P Y H'
def Done(D:Ends)(k:Kn)(H:Hp):Fr->Prop
 |.nx U S=>cg K q k H D.nx U S
 |.bk U S=>cg K q k H D.bk U S
 |.ct U S=>cg K q k H D.ct U S
 |.rt r S=>∀v k' H',Up q k H k' H'->cv K k' H' S->ny K k' H' v r->D.rt v H'
 |.ex C l U S=>∀dx Y k' H',Up q k H k' H'->cv K k' H' S->hV K k' Y U->Av k'.F dx l->W C dx Y H'
def tS(f:GS):TS:=λD Z H=>∃k U S J,cv K k H S/\hV K k Z U/\f U S=some J/\Done K W q D k H J
variable{K W q}
def HL{o:HO}(h:p<=q)(e:tH p o=true):tH q o=true:=by
 match p,q with
 |0,_=>cases e
 |1,0=>lia
 |1,1=>exact e
 |1,n+2=>rfl
 |n+2,0=>lia
 |n+2,1=>lia
 |n+2,m+2=>rfl
def Up.weak(u:Up q k H k' H')(h:p<=q):Up p k H k' H':=⟨u.f,u.a,u.t,λa o z e=>u.h a o (HL h z) e⟩
def cg.up(w:cg K q k H P U S)(u:Up q k H k' H'):cg K q k' H' P U S:=λV k2 Y G ok g=>w V k2 Y (u.trans G) ok g
def cg.now(w:cg K q k H P U S)(ok:cv K k H S)(g:hV K k Z U):P Z H:=w Z k H .refl ok g
theorem Done.up(w:Done K W q D k H J)(u:Up q k H k' H'):Done K W q D k' H' J:=by
 cases J with
 |nx U S=>exact cg.up w u
 |bk U S=>exact cg.up w u
 |ct U S=>exact cg.up w u
 |rt r S=>exact λv k2 Y V k r=>w v k2 Y (u.trans V) k r
 |ex C l U S=>exact λdx G k2 Y V k g r=>w dx G k2 Y (u.trans V) k g r
theorem Done.weak(w:Done K W q D k H J)(h:q<=p):Done K W p D k H J:=by
 cases J with
 |nx U S=>exact λV k2 Y u=>w V k2 Y (u.weak h)
 |bk U S=>exact λV k2 Y u=>w V k2 Y (u.weak h)
 |ct U S=>exact λV k2 Y u=>w V k2 Y (u.weak h)
 |rt r S=>exact λv k2 Y u=>w v k2 Y (u.weak h)
 |ex C l U S=>exact λdx V k2 Y u=>w dx V k2 Y (u.weak h)
noncomputable def jX{α:Type}(U:Gm)(x:ai (Rs α))(f:α->aU->ai Fr):ai Fr:=match x with
 |none=>none
 |some (.ok a S)=>f a S
 |some (.ex C l S)=>some (.ex C l U S)
def NO{α:Type}{x:ai (Rs α)}{f:α->aU->ai Fr}(e:jX U x f=some J):(∃a S,x=some (.ok a S)/\f a S=some J)\/∃C l S,x=some (.ex C l S)/\J=.ex C l U S:=by
 obtain _|_|_:=x
 .cases e
 .exact .inl ⟨_,_,rfl,e⟩
 .cases e;exact .inr ⟨_,_,_,rfl,rfl⟩
def tS.BF{α β:Type}{R:Rp α β}{g:Gx α}{f:α->aU->ai Fr}{Q:β->Hp->Prop}(ok:cv K k H S)(gk:hV K k Z U)(e:jX U (g U S) f=some J)(w:Done K W q D k H J)
  (h:∀a Y b k1 H1,cv K k1 H1 Y->hV K k1 Z U->R k1 H1 b a->f a Y=some J->Done K W q D k1 H1 J->Up q k H k1 H1->Q b H1):tX R K W q g Z H Q:=by
 rcases NO e with⟨a,Y,e1,e⟩|⟨C,l,Y,e1,rfl⟩
 .exact⟨k,U,S,_,ok,gk,e1,λb k' H' u V r=>h a Y b k' H' V (gk.up u) r e (w.up u) u⟩
 .exact⟨k,U,S,_,ok,gk,e1,λdx k' H' u V r=>w dx Z k' H' u V (gk.up u) r⟩
def tS.bd{α β:Type}{R:Rp α β}{g:Gx α}{f:α->aU->ai Fr}{Q:β->Hp->Prop}(ok:cv K k H S)(gk:hV K k Z U)(e:jX U (g U S) f=some J)(w:Done K W q D k H J)
  (h:∀a Y b k1 H1,cv K k1 H1 Y->hV K k1 Z U->R k1 H1 b a->f a Y=some J->Done K W q D k1 H1 J->Q b H1):tX R K W q g Z H Q:=tS.BF ok gk e w λa Y b k1 H1 V G B F T _=>h a Y b k1 H1 V G B F T
end
def iU:GS:=λU S=>some (.nx U S)
noncomputable def dr(f g:GS):GS:=λU S=>(f U S).bind λr=>match r with
 |.nx U S=>g U S
 |r=>some r
def az(g:GE):GS:=λU S=>jX U (g U S) λr J=>some (.rt r J)
def eP(c:GT)(f g:GS):GS:=λU S=>jX U (c U S) λb J=>if b=true then f U J else g U J
def cX(g:GE):GS:=λU S=>jX U (g U S) λ_ J=>some (.nx U J)
def asg(mu:Bool)(S:aU):Rv->Val×aU
 |.o c=>if mu=true then(.c S.s.length,⟨S.s++[.o c],S.r⟩) else(.d c.d,S)
 |.v x=>(x,S)
def aq(i:Nat)(mu:Bool)(g:GE):GS:=λU S=>jX U (g U S) λr J=>if i<U.length then some (.nx (U.set i (some (asg mu J r).1)) (asg mu J r).2) else none
section
variable{X:Cx}{K:aP}{W:XW}{q:Nat}{st:Stmt}{J sa B:List Stmt}{e c:Expr}{f g:GS}{Y:GE}{G:GT}{Q:Pos}
def wQ:iM X [] (tS K W q iU):=oI.mono λD Z H t=>by
 obtain⟨k,U,S,V,ok,gk,e,w⟩:=t;cases e;exact cg.now w ok gk
def sX(I:PS X st (tS K W q f))(O:iM X J (tS K W q g)):iM X (st::J) (tS K W q (dr f g)):=(TY I O).mono λD Z H t=>by
 obtain⟨k,U,S,R,ok,gk,e,w⟩:=t;obtain⟨r,e1,e⟩:=cF.mp e;refine⟨k,U,S,r,ok,gk,e1,?_⟩;cases r with
 |nx F V=>exact λj k' H' u T g'=>⟨k',F,V,R,T,g',e,w.up u⟩
 |bk F V=>cases e;exact w
 |ct F V=>cases e;exact w
 |rt r V=>cases e;exact w
 |ex C l F V=>cases e;exact w
def wR(h:PE X e (tE K W q Y)):PS X (.Return (some e) Q) (tS K W q (az Y)):=(Y1 h).mono λD Z H t=>by
 obtain⟨k,U,S,I,ok,gk,e,w⟩:=t;refine tS.bd ok gk e w λr R v k1 H1 V g1 F e1 T=>?_
 cases e1;exact T v k1 H1 .refl V F
def BL(hc:PT X c (tT K W q G))(I:iM X sa (tS K W q f))(hb:iM X B (tS K W q g)):PS X (.If c sa B Q) (tS K W q (eP G f g)):=(e7j hc I hb).mono λD Z H t=>by
 refine kY λO=>?_
 obtain⟨k,U,S,T,ok,gk,e,w⟩:=t;refine O ?_;refine tS.bd ok gk e w λb V v k1 H1 F g1 j e1 R=>?_
 cases j;cases b with
 |true=>exact qL ⟨k1,U,V,T,F,g1,e1,R⟩
 |false=>exact qK ⟨k1,U,V,T,F,g1,e1,R⟩
def Wr(F:PE X e (tE K W q Y))(T:swapsWith e none Q.line X.env=pure false):PS X (.Expr e Q) (tS K W q (cX Y)):=(VX F T).mono λD Z H t=>by
 obtain⟨k,U,S,O,ok,gk,e,w⟩:=t;refine tS.bd ok gk e w λr I v k1 H1 V g1 j e1 R=>?_
 cases e1;exact cg.now R V g1
def Zp{mu:Bool}{k:Kn}{S:aU}{x:V}{r:Rv}(ok:cv K k H S)(h:ny K k H x r):∃k',(∀q,Up q k H k' H)/\cv K k' H (asg mu S r).2/\dc K k' x (asg mu S r).1:=by
 cases r with
 |v y=>exact pM ok h
 |o c=>
  cases mu with
  |false=>exact pM (r:=.o c) ok h
  |true=>
   obtain⟨p,rfl,hF,hi,hc⟩:=h;obtain⟨U,u⟩:=ok.pushS hF hi hc;exact⟨_,u,U,p,rfl,by rw[<-ok.s.ln];exact EO⟩
def hV.set{k:Kn}{U:Gm}{x:V}{v:Val}(g:hV K k Z U)(r:dc K k x v)(hi:i<U.length):hV K k (Z.set i (some x)) (U.set i (some v)):=by
 refine⟨by rw[rj,rj,g.ln],λj w e=>?_⟩
 by_cases z:i=j
 .subst z;rw[oV hi] at e;cases e;exact⟨x,oV (g.ln ▸ hi),r⟩
 .rw[ud z] at e ⊢;exact g.at' j w e
def OO{mu:Bool}{D:Ends}(t:tS K W q (aq i mu Y) D Z H):tE K W q Y Z H λv H1=>D.nx (Z.set i (some v)) H1:=by
 refine kY λT=>?_
 obtain⟨k,U,S,y,ok,gk,e,w⟩:=t;refine T ?_;refine tS.bd ok gk e w λr j v k1 H1 V g1 R e1 O=>?_
 split at e1
 .cases e1;obtain⟨k2,u,F,I⟩:=Zp (mu:=mu) V R;exact cg.now (cg.up O (u q)) F ((g1.up (u q)).set I (by assumption))
 .cases e1
def Zq{mu:Bool}{x:Str}{V:Pos}(hN:X.N.Nodup)(hi:X.N[i]?=some x)(T:Loc X.env.scope x)(U:PE X e (tE K W q Y))(F:swapsWith e (some (.Name x V)) Q.line X.env=pure false)(hf:X.fn x=true\/X.env.scope.names.lookup x=some .local):
  PS X (.Assign [.Name x V] e Q) (tS K W q (aq i mu Y)):=(Y5 hN hi T U F hf).mono λD Z H t=>OO t
def a_(c:GT)(f:GS):Nat->GS
 |0=>λ_ _=>none
 |n+1=>λU S=>jX U (c U S) λb T=>if b=true then(f U T).bind λr=>match r with
   |.nx F V=>a_ c f n F V
   |.ct F V=>a_ c f n F V
   |.bk F V=>some (.nx F V)
   |r=>some r
  else some (.nx U T)
def qo(n:Nat)(hp:PassesOwn (mX X) X.A X.env X.xe)(hc:PT X c (tT K W q G))(hb:iM X sa (tS K W q f)):PS X (.While c sa [] Q) (tS K W q (a_ G f n)):=(TZ hp hc hb).mono λD Z H t=>by
 obtain⟨k,U,S,I,ok,gk,e,w⟩:=t;refine⟨λn Z H=>∃k U S,cv K k H S/\hV K k Z U/\a_ G f n U S=some I/\Done K W q D k H I,⟨n,k,U,S,ok,gk,e,w⟩,?_⟩
 clear ok gk e w;rintro n Z H ⟨k,U,S,ok,gk,e,w⟩;cases n with
 |zero=>cases e
 |succ n=>
  refine tS.bd ok gk e w λb y v k1 H1 z g1 d e1 F=>?_
  cases d;cases b with
  |false=>cases e1;exact qK (cg.now F z g1)
  |true=>
   refine qL ⟨λO H'=>∃k U S,cv K k H' S/\hV K k O U/\a_ G f n U S=some I/\Done K W q D k H' I,λO H' h=>⟨n,uf _,h⟩,?_⟩
   obtain⟨r,e2,R⟩:=cF.mp (show((f U y).bind _)=some I from e1);refine⟨k1,U,y,r,z,g1,e2,?_⟩;cases r with
   |nx T V=>exact λO k' H' u j g'=>⟨k',T,V,j,g',R,F.up u⟩
   |ct T V=>exact λO k' H' u j g'=>⟨k',T,V,j,g',R,F.up u⟩
   |bk T V=>cases R;exact F
   |rt r V=>cases R;exact F
   |ex C l T V=>cases R;exact F
end
abbrev GG:=D->Gm->ai Gm
variable{J:List GG}
noncomputable def ae(i:Nat):GG:=λd U=>if i<U.length then some (U.set i (some (.d d))) else none
noncomputable def ow:List GG->List D->Gm->ai Gm
 |[],[],U=>some U
 |g::J,d::ds,U=>(g d U).bind λY=>ow J ds Y
 |_,_,_=>none
def bc(J:List GG):GG:=λd U=>match d with
 |.tup ds=>ow J ds U
 |_=>none
section
variable{K:aP}
def jW(K:aP)(t:TG)(g:GG):Prop:=
 ∀(k:Kn) (H:Hp) (Z:St) (U Y:Gm) (x:V) (d:D) (Q:St->Hp->Prop),aE k.F H->hV K k Z U->ag K k [x] [d]->g d U=some Y->(∀G,hV K k G Y->Q G H)->t x Z H Q
def oa(K:aP)(t:rE)(J:List GG):Prop:=
 ∀(k:Kn) (H:Hp) (Z:St) (U Y:Gm) (xs:List V) (ds:List D) (Q:St->Hp->Prop),aE k.F H->hV K k Z U->ag K k xs ds->ow J ds U=some Y->(∀G,hV K k G Y->Q G H)->t xs Z H Q
def tY:jW K (oq i) (ae i):=by
 intro k H Z U Y x v Q le gk r e w;unfold ae at e;split at e
 .cases e;exact w _ (gk.set (v:=.d v) r (by assumption))
 .cases e
def t4:oa K BY []:=by
 intro k H Z U Y xs vs Q le gk r e w;cases vs with
 |nil=>cases e;exact⟨r.gp,w Z gk⟩
 |cons _ _=>cases e
def q_{t:TG}{g:GG}(W:jW K t g)(B:oa K L J):oa K (uI t L) (g::J):=by
 intro k H Z U V xs vs Q le gk r e w;cases vs with
 |nil=>cases e
 |cons d ds=>
  obtain⟨Y,e1,e2⟩:=cF.mp e;obtain⟨x,xs,rfl,F,T⟩:=r.cz;exact⟨_,_,rfl,W k H Z U Y _ _ _ le gk F e1 λG g1=>B k H G Y V _ _ Q le g1 T e2 w⟩
def SI:∀{J:List GG} {vs:List D} {U Y:Gm},ow J vs U=some Y->vs.length=J.length:=by
 intro J
 induction J with
 |nil=>intro vs U Y e;cases vs with
  |nil=>rfl
  |cons _ _=>cases e
 |cons g J V=>intro vs U Y e;cases vs with
  |nil=>cases e
  |cons v vs=>obtain⟨G,_,e2⟩:=cF.mp e;exact congrArg (·+1) (V e2)
def yu{n:Nat}(h:oa K L J)(G:n=J.length):jW K (w6 K n L) (bc J):=by
 intro k H Z U V x d Q le gk r e w;cases d with
 |tup es=>
  obtain⟨a,ws,rfl,W,Y⟩:=r.isTup;exact⟨a,ws,rfl,le.yp W,by rw[G,<-SI e,Y.length],h k H Z U V _ _ Q le gk Y e w⟩
 |_=>cases e
end
def gD(g:GE):Gx D:=λU S=>bd (g U S) λr Y=>(nF Y (lX r)).map λp=>.ok p.1 p.2
abbrev RD(K:aP):Rp D V:=λk _ x d=>ag K k [x] [d]
section
variable{K:aP}{W:XW}{q:Nat}{g:GE}{J:Pos}
def Ld{Q:VK}(t:tX (RD K) K W q (gD g) Z H Q):tE K W q g Z H Q:=by
 obtain⟨k,U,S,R,ok,gk,e,w⟩:=t;refine tX.bd ok gk e w λr j x k1 H1 Y g1 B e1 O _=>?_
 obtain⟨p,e2,rfl⟩:=c_.mp e1;obtain⟨k2,D,V,F⟩:=pM Y B;obtain⟨k3,I,G,T⟩:=ER V F e2;exact((O.up (D q)).up (I q)).now G T
end
variable{N:List Str}{n p:Nat}{m:GS}
noncomputable def aU.cut(S:aU)(b:Nat):aU:=⟨S.s.take b,S.r⟩
noncomputable def BE:Cell->ai Rv
 |.o x=>some (.o x)
 |.z x=>some (.v (.d x.d))
 |_=>none
def back(b:Nat)(S:aU):Rv->ai Rv
 |.v (.c n)=>if n<b then some (.v (.c n)) else(S.s[n]?).bind BE
 |r=>some r
def leave(b:Nat):Fr->ai (Rs Rv)
 |.nx _ S=>some (.ok (.v (.d .aI)) (S.cut b))
 |.rt r S=>(back b S r).map λr'=>.ok r' (S.cut b)
 |.ex C l _ S=>some (.ex C l (S.cut b))
 |_=>none
def runM(p n:Nat)(m:GS):GM:=λvs S=>if vs.length=p then(m (vs.map some++List.replicate (n - vs.length) none) S).bind (leave S.s.length) else none
section
variable{K:aP}{k:Kn}{H:Hp}{S:aU}{b:Nat}
def Ws{v:V}{r r':Rv}(ok:cv K k H S)(h:ny K k H v r)(e:back b S r=some r'):ny K ⟨k.F,k.A,k.T.take b⟩ H v r':=by
 have go:k.le ⟨k.F,k.A,k.T.take b⟩:=⟨aE.refl _,kQ _⟩;cases r with
 |o c=>
  cases e;obtain⟨a,e1,e2,B,R⟩:=h;exact⟨a,e1,e2,λm=>B ((iC.mp m).elim (Ag _) λm=>ng _ (List.mem_of_mem_take m)),R.keep go λ_ z=>z⟩
 |v x=>
  cases x with
  |d y=>cases e;exact ag.mono go h
  |c n=>
   obtain⟨a,e1,e2⟩:=h;unfold back at e;dsimp only at e;split at e
   .rename_i W
    cases e;exact⟨a,e1,by rw[List.getElem?_take,bJ W];exact e2⟩
   .rename_i W
    obtain⟨c,D,U⟩:=cF.mp e;have G:=ok.s.at' n a c e2 D;cases c with
    |ins _ _=>cases U
    |z x=>cases U;rw[e1];exact ag.mono go G.2
    |o x=>
     cases U;obtain⟨n1,I,O⟩:=l6.mp ok.nd;refine⟨a,e1,G.1,λm=>?_,G.2.keep go λ_ z=>z⟩
     rcases iC.mp m with m|m
     .exact O a m a (rh e2) rfl
     .obtain⟨j,Y⟩:=yz.mp m;rw[List.getElem?_take] at Y;split at Y
      .rename_i t
       have:=HJ I Y e2;lia
      .cases Y
def SJ{xs:List V}{vs:List Val}(h:Paired (dc K k) xs vs)(G:N.length=n):hV K k (start N xs) (vs.map some++List.replicate (n - vs.length) none):=by
 have hl:=Paired.length h;refine⟨by unfold start;simp[hl,G],λi v e=>?_⟩
 by_cases hi:i<vs.length
 .rw[nX (by rw[ba];exact hi),fB] at e
  obtain⟨w,e1,e2⟩:=c_.mp e;cases e2;obtain⟨x,Y,U⟩:=En i h e1;refine⟨x,?_,U⟩;unfold start;rw[nX (by rw[ba,hl];exact hi),fB,Y]
  rfl
 .rw[oW (by rw[ba];lia),LA] at e
  split at e <;> cases e
end
section
variable{P:dq}{w:cL}{K:aP}{mg:Str->ai ak}{base:bZ}
def OP{x qual:Str}{st:Stmt}{f:aj}{fd:kR}{ps:List Str}{k q:Nat}(F:pV K x qual st f fd)(S:gA N ps (mf st))(hp:ps.length=p)(I:N.length=n)
  (j:∀fI A outer s H E,cH k (A.deeper (envOfC qual (mf st) s.heap.objs.size f fI))->iM (kH (lr P w) P w K mg base N qual (mf st) f fI A outer s H E) (ur st) (tS K (WF E) q m)) :
  dO P w K mg base (lr P w) (k+1) f fd ps (p5 K q p (runM p n m)):=by
 refine kY λV=>?_
 obtain⟨oc,od,kV,doc,pm,an,fI,ct,oF,rfl,lk,y⟩:=F.ex;refine V ?_;refine e7n lk y S (λvs H Q E h=>h.1.trans hp.symm) λA outer s H xs Q E O t=>⟨_,j fI A outer s H E O,?_⟩
 refine kY λV=>?_
 obtain⟨hl,k,vs,S,d,ok,b,e,w⟩:=t;unfold runM at e;refine V ?_;split at e
 .obtain⟨W,e1,e2⟩:=cF.mp e;refine⟨k,_,S,W,ok,SJ b I,e1,?_⟩;have G:k.T.length<=S.s.length:=DD ok.s.ln;cases W with
  |nx U S'=>
   cases e2;exact λB k' H' u Y g'=>w .aI _ H' (u.take G) (Y.take _) (show ag K _ [.aI] [.aI] from .flat rfl .nil)
  |bk U S'=>cases e2
  |ct U S'=>cases e2
  |rt r S'=>
   obtain⟨r',R,rfl⟩:=c_.mp e2;exact λv k' H' u Y z=>w v _ H' (u.take G) (Y.take _) (Ws Y z R)
  |ex C l U S'=>
   cases e2;exact λdx B k' H' u Y g' D=>w dx _ H' (u.take G) (Y.take _) D
 .cases e
def lh:hZ (runM p n m) p:=λvs S Y e=>by
 unfold runM at e;split at e
 .assumption
 .cases e
end
section
variable{prog:dq}{w:cL}{A:cW}{E:ak->aB->Prop}{h:bZ}{g:Array GenState}{d:Drawn}{t:Nat}{os:OsState}
variable{nm q:Str}{C N:aj}{bs bm J:List ak}{hdct:Bool}{sn:List Str}{sub:List ak}{ab:Bool}{col:ai Bool}{dd:ai aj}{k0 k1 k2 k3 k5:ai ak}{B Y newId U V G:String}{W:List ak}
def Dp(Fn:ExcBaseFacts Y newId G W)(j:J.contains (.type Y)=true)(F:ExcBaseFacts B U V J)(T:OwnTail h J bm){mN:Str->ai ak}{S:List ak}{Q:Fin->aB->Prop}
  (R:h.get? C=some (excClassObj nm q C N bs bm hdct sn sub ab col dd k0 k1 k2 k3 k5 newId)) (a:h.Ns N mN) (qG:S.length<=sizeLine)
  (l:∀i,i=(mN "__init__").getD (.builtin V)->wpAny (model prog w) A (bindSpecial i (.ref (h.objs.size+1))) (λp s'=>wpAny (model prog w) A (call p.1 (p.2++S)) (λr O=>r=.none/\Q (.done (.ret (.ref (h.objs.size+1)))) O) E s') E ⟨((h.push { cls:=.type "tuple",data:=.seq S.toArray}).push { cls:=.ref C,data:=.fields #[.ref h.objs.size,.none,.none,.none,.bool false,.none]}),g,d,t,os⟩) :
  wpAny (model prog w) A (Builtin.«type.__call__» ⟨.ref C::S,[]⟩) Q E ⟨h,g,d,t,os⟩:=by
 repeat (first|with_reducible refine wpAny_loadPart_at R ?_|with_reducible refine wpAny_madeBy_exc R ?_|wp_step)
 refine codeAny_call_builtin_code (Code.quiet_builtin _ Fn.quiet) (wpAny_check_new_subU Fn j T R (codeAny_exc_new_subU Fn j F T R ?_ qG));show wpAny _ _ _ _ _ _;have st:∀b o,h.get? b=some o->((h.push { cls:=.type "tuple",data:=.seq S.toArray}).push { cls:=.ref C,data:=.fields #[.ref h.objs.size,.none,.none,.none,.bool false,.none]}).get? b=some o:=λb o e=>c8 _ (c8 _ e)
 have D:=st _ _ R;have xm:((h.push { cls:=.type "tuple",data:=.seq S.toArray}).push { cls:=.ref C,data:=.fields #[.ref h.objs.size,.none,.none,.none,.bool false,.none]}).get? (h.objs.size+1)=some { cls:=.ref C,data:=.fields #[.ref h.objs.size,.none,.none,.none,.bool false,.none]}:=by heap_get
 have I:(Value.ref C::bm).contains (.ref C)=true:=by simp
 unfold isInstance
 repeat (first|with_reducible refine wpAny_loadPart_at xm ?_|(with_reducible refine wpAny_isSubtype_exc D ?_;rw[I])|wp_step)
 show wpAny _ _ (typeLookup (.ref C) _) _ _ _;refine wpAny_typeLookup_tail D (a.keeps st) (T.keeps st) F.mroIs F.init.lookup ?_;cases hv:mN "__init__" with
 |none=>
  refine kA (aK (wpAny_mono (l _ (by rw[hv];rfl)) (λp s' z=>aK (wpAny_mono z (λr O y=>?_) λ_ _ y=>y)) λ_ _ y=>y))
  obtain⟨rfl,y⟩:=y
  wp_walk
  exact y
 |some v=>
  refine kA (aK (wpAny_mono (l _ (by rw[hv];rfl)) (λp s' z=>aK (wpAny_mono z (λr O y=>?_) λ_ _ y=>y)) λ_ _ y=>y))
  obtain⟨rfl,y⟩:=y
  wp_walk
  exact y
def Ul(Fn:ExcBaseFacts Y newId G W)(D:J.contains (.type Y)=true)(F:ExcBaseFacts B U V J)(T:OwnTail h J bm){mN:Str->ai ak}{S:List ak}{Q:ak->aB->Prop}
  (R:h.get? C=some (excClassObj nm q C N bs bm hdct sn sub ab col dd k0 k1 k2 k3 k5 newId)) (I:h.Ns N mN) (j:S.length<=sizeLine)
  (O:∀i,i=(mN "__init__").getD (.builtin V)->wpAny (model prog w) (A.under (.builtin "type.__call__" ⟨.ref C::S,[]⟩)) (bindSpecial i (.ref (h.objs.size+1))) (λp s'=>wpAny (model prog w) (A.under (.builtin "type.__call__" ⟨.ref C::S,[]⟩)) (call p.1 (p.2++S)) (λr y=>r=.none/\Q (.ref (h.objs.size+1)) y) E s') E ⟨((h.push { cls:=.type "tuple",data:=.seq S.toArray}).push { cls:=.ref C,data:=.fields #[.ref h.objs.size,.none,.none,.none,.bool false,.none]}),g,d,t,os⟩) :
  wpAny (model prog w) A (call (.ref C) S) Q E ⟨h,g,d,t,os⟩:=by
 have z:=tc_lookup;have b:=tc_bind (.ref C);have l:(⟨h,g,d,t,os⟩:aB).TypeIs (.ref C) "type":=⟨_,R,rfl⟩;refine wpAny_call (codeAny_of_tree (show wpAny _ _ (callAny (.ref C) _) _ _ _ from ?_))
 repeat (any_goals (first|assumption|with_reducible refine wpAny_loadPart_at R ?_|wp_step))
 exact⟨rfl,codeAny_call_builtin_at (Code.quiet_builtin _ (by decide +kernel)) entry_typeCall (wpAny_check_type_call_sub R (Dp Fn D F T R I j λi e=>O i e))⟩
end
end L2
namespace L2
open PySem PySem.Spec PySem.W PySem.Calls PyProof.Rows
noncomputable def qu(C t:aj)(d:ai aj):Obj:={ cls:=.ref C,dict:=d,data:=.fields #[.ref t,.none,.none,.none,.bool false,.none]}
section
variable{prog:dq}{w:cL}{A:cW}{E:ak->aB->Prop}{h:bZ}{g:Array GenState}{d:Drawn}{tt:Nat}{os:OsState}{x t:aj}
variable{nm q:Str}{C N:aj}{bs bm:List ak}{hdct:Bool}{sn:List Str}{sub:List ak}{ab:Bool}{col:ai Bool}{dd:ai aj}{k0 k1 k2 k3 k5:ai ak}{newId:String}
def Dx{u:ak}{Q:ak->aB->Prop}(T:OwnTail h [.type "ValueError",.type "Exception",.type "BaseException",.type "object"] bm)(U:h.get? C=some (excClassObj nm q C N bs bm hdct sn sub ab col dd k0 k1 k2 k3 k5 newId))(W:h.get? x=some (qu C t none))
  (G:∀h',h'.get? x=some (qu C h.objs.size none)->(∀b o,b≠x->h.get? b=some o->h'.get? b=some o)->Q .none ⟨h',g,d,tt,os⟩) :
  wpAny (model prog w) A (call (.builtin "ValueError.__init__") [.ref x,u]) Q E ⟨h,g,d,tt,os⟩:=by
 have Y:=F.excBase_ValueError;have V:h.get? x=some { cls:=.ref C,data:=.fields #[.ref t,.none,.none,.none,.bool false,.none]}:=W;refine wpAny_call (codeAny_call_builtin Y.init.plain Y.initEntry (wpAny_check_init_subU Y T U V rfl ?_))
 wp_walk
 refine G _ ?_ λb o n e=>?_
 .rw[pR _ (c8 _ V) rfl];rfl
 .rw[nY _ _ (Ne.symm n)];exact c8 _ e
end
noncomputable abbrev qh:List ak:=[.type "ValueError",.type "Exception",.type "BaseException",.type "object"]
def ic(K:fP)(C:aj)(bm:List ak)(J:ai ak):Prop:=∃nm q N bs sn sub ab col dd k0 k1 k2 k3 k5 Y V es ep U,
 K.lookup C=some (excClassObj nm q C N bs bm true sn sub ab col dd k0 k1 k2 k3 k5 "ValueError.__new__")/\K.lookup N=some ⟨Y,V,.dict es ep,U⟩/\StrKeys es/\nsFind es "__init__"=J
section
variable{K:fP}{C Q:aj}{bm J:List ak}{i Y:ai ak}
theorem ic.cls(G:ic K C bm i):∃V,clsIn K C=some V/\V.mro=.ref C::bm/\V.hasDict=true/\typeIn K (.ref C)=some (.type "type"):=by
 refine kY λU=>?_
 obtain⟨nm,q,N,bs,sn,sub,ab,col,dd,k0,k1,k2,k3,k5,W,B,es,ep,F,g1,g2,g3,g4⟩:=G;refine U ?_;exact⟨_,by unfold clsIn;rw[g1],rfl,rfl,by show(K.lookup C).map (·.cls)=_;rw[g1];rfl⟩
def ic.sub(G:ic K C bm i)(b:ak):subIn K (.ref C) b=some ((Value.ref C::bm).contains b):=by
 obtain⟨W,c1,c2,V,U⟩:=G.cls;show mroIn K C b=_;unfold mroIn;rw[c1,vE,c2];rfl
def ic.P8(G:ic K C bm i)(V:ic K Q J Y)(h:(Value.ref Q::J).contains (.type "BaseException")=true):exmOne K (.ref C) (.ref Q)=some ((Value.ref C::bm).contains (.ref Q)):=by
 obtain⟨B,c1,c2,W,U⟩:=V.cls;unfold exmOne;rw[V.sub,h,bJ (by decide)]
 unfold kitCls;dsimp only;rw[bJ (by rw[c1,U];rfl)]
 exact G.sub _
end
section
variable{X:Cx}{aa:List (aj×Obj)}{Z:St}{H:Hp}{s:aB}{C B0:aj}{R:ak->aB->Prop}
def Um{u:ak}(G:ic X.K C (.ref B0::qh) none)(G0:ic X.K B0 qh none)(I:Inv X aa Z H s)(h:∀h' t,(∀b o,s.heap.get? b=some o->h'.get? b=some o)->h'.get? (s.heap.objs.size+1)=some (qu C t none)->R (.ref (s.heap.objs.size+1)) { s with heap:=h'}):
  wpAny (mX X) X.A (call (.ref C) [u]) R X.xe s:=by
 refine kY λkz=>?_
 obtain⟨J,g,d,tt,os⟩:=s;have Y:X.K.In J:=I.jN;obtain⟨nm,q,N,bs,sn,sub,ab,col,dd,k0,k1,k2,k3,k5,on,z7,es,ep,z9,g1,g2,g3,g4⟩:=G;obtain⟨nm',q',N',m,sn',y,p,L,l,a,k1',k2',k3',k5',on',O,rT,m6,j,U,W,B,S⟩:=G0;have V:=F.excBase_ValueError;have T:OwnTail J qh (.ref B0::qh):=.own (Y _ _ U) (mA:=λn=>nsFind rT n) ⟨_,_,_,Y _ _ W,rfl,B,λ_=>rfl⟩ S .base
 refine kz ?_;refine Ul V rfl V T (Y _ _ g1) (mN:=λn=>nsFind es n) ⟨_,_,_,Y _ _ g2,rfl,g3,λ_=>rfl⟩ (by rw[sizeLine_eq];exact(by decide:1<=16777216)) λi D=>?_
 rw[g4] at D;subst D;have st:∀b o,J.get? b=some o->((J.push { cls:=.type "tuple",data:=.seq [u].toArray}).push { cls:=.ref C,data:=.fields #[.ref J.objs.size,.none,.none,.none,.bool false,.none]}).get? b=some o:=λb o e=>c8 _ (c8 _ e)
 have xm:((J.push { cls:=.type "tuple",data:=.seq [u].toArray}).push { cls:=.ref C,data:=.fields #[.ref J.objs.size,.none,.none,.none,.bool false,.none]}).get? (J.objs.size+1)=some (qu C J.objs.size none):=by unfold qu;heap_get
 refine wpAny_of_eq (V.init.bind _) (Dx (T.keeps st) (st _ _ (Y _ _ g1)) xm λh' e1 e2=>?_)
 exact⟨rfl,h h' _ (λb o z=>e2 b o (g_ (yy (cV z))) (st b o z)) e1⟩
end
noncomputable abbrev Cx.eJ(X:Cx)(pn:List (aj×Obj))(E:ak->aB->Prop):Cx:={ X with pn:=pn,xe:=E}
noncomputable abbrev Cx.dH(X:Cx)(e:ak):Cx:={ X with A:=X.A.mark (some e),calm:=false,xe:=λ_ _=>False}
structure AE (X:Cx) (aa:List (aj×Obj)) (n:Nat):Prop where
 s:X.s₀.heap.objs.size<=n
 l:X.env.locals<n
 c:∀x c,X.env.cells.lookup x=some c->c<n
 p:∀q∈X.pn++aa,q.1<n
section
variable{X:Cx}{aa J:List (aj×Obj)}{pn:List (aj×Obj)}{Z:St}{H:Hp}{s:aB}{E:ak->aB->Prop}{n:Nat}{ch:List aj}{h':bZ}
def Cx.Ok.eJ(ok:X.Ok):(X.eJ pn E).Ok:=⟨ok.mod,ok.kind,ok.glob,ok.blt,ok.above,ok.inj,ok.has,ok.wB,ok.hd,ok.frames,ok.z_,ok.Fy,ok.bs,ok.qj,ok.nI,ok.pd,ok.iQ,ok.sZ⟩
def Cx.Ok.eS(ok:(X.eJ pn E).Ok):X.Ok:=⟨ok.mod,ok.kind,ok.glob,ok.blt,ok.above,ok.inj,ok.has,ok.wB,ok.hd,ok.frames,ok.z_,ok.Fy,ok.bs,ok.qj,ok.nI,ok.pd,ok.iQ,ok.sZ⟩
theorem Inv.eJ(I:Inv X aa Z H s):Inv (X.eJ (X.pn++aa) E) [] Z H s:=⟨I.ok.eJ,I.os,I.bare,I.base,I.loc,I.cell,I.free,I.eW,λp hp=>I.pin p (by rw[jI] at hp;exact hp),I.bN,I.len⟩
theorem Inv.eS(I:Inv (X.eJ (X.pn++aa) E) J Z H s):Inv X aa Z H s:=⟨I.ok.eS,I.os,I.bare,I.base,I.loc,I.cell,I.free,I.eW,λp hp=>I.pin p (Ag _ hp),I.bN,I.len⟩
def Inv.dH{e:ak}(I:Inv X aa Z H s):Inv (X.dH e) aa Z H s:=
 ⟨⟨I.ok.mod,I.ok.kind,I.ok.glob,I.ok.blt,I.ok.above,I.ok.inj,I.ok.has,I.ok.wB,λz=>(nomatch z),I.ok.frames,I.ok.z_,I.ok.Fy,I.ok.bs,I.ok.qj,I.ok.nI,I.ok.pd,I.ok.iQ,I.ok.sZ⟩,I.os,I.bare,I.base,I.loc,I.cell,I.free,I.eW,I.pin,I.bN,I.len⟩
def Inv.fm{e:ak}(I:Inv (X.dH e) aa Z H s)(hd:X.calm=true->X.A.handled=none):Inv X aa Z H s:=
 ⟨⟨I.ok.mod,I.ok.kind,I.ok.glob,I.ok.blt,I.ok.above,I.ok.inj,I.ok.has,I.ok.wB,hd,I.ok.frames,I.ok.z_,I.ok.Fy,I.ok.bs,I.ok.qj,I.ok.nI,I.ok.pd,I.ok.iQ,I.ok.sZ⟩,I.os,I.bare,I.base,I.loc,I.cell,I.free,I.eW,I.pin,I.bN,I.len⟩
def Inv.QU(I:Inv X aa Z H s):AE X aa s.heap.objs.size:=⟨I.sz,I.lt,λx c e=>by obtain⟨v,o,ho,_⟩:=I.cell x c e;exact cV ho,λq Y=>cV (I.pin q Y).1⟩
def AE.far(y:AE X aa n){b:aj}(h:n<=b):(b∈X.ex\/X.s₀.heap.objs.size<=b)/\b≠X.env.locals/\(∀x c,X.env.cells.lookup x=some c->c≠b)/\∀p∈X.pn++aa,p.1≠b:=
 ⟨.inr (jy y.s h),λz=>cQ (gq y.l h) (z ▸ jQ _),λx c e z=>cQ (gq (y.c x c e) h) (z ▸ jQ _),λp hp z=>cQ (gq (y.p p hp) h) (z ▸ jQ _)⟩
def f6.un{fs:List aj}{h:bZ}(l:f6 fs ch h h'):Un fs ch H H h h':=
 ⟨λb o g _ hb Y=>l.keep b o hb Y g,λb o g _ hb Y=>l.slot b o hb Y g,λ_ _ _ n _=>n,λb o g Y=>let ⟨_,g2⟩:=l.any g Y;⟨_,g2⟩,λ_ _ q=>q,λ_ _ _ q=>q,λ_ ps q=>⟨#[],by rw[q];simp⟩⟩
def Inv.left{t':Nat}(I:Inv X aa Z H s)(y:AE X aa n)(l:f6 (ke X.stack) ch s.heap h')(Y:∀b∈ch,n<=b/\H b=none):Inv X aa Z H { s with heap:=h',toks:=t'}:=
 I.call (g':=s.gens) (d':=s.drawn) (ch:=ch) l.un (l.bN I.bN I.jP λb m=>(Y b m).2) I.bare λb m=>y.far (Y b m).1
def Uo{M:Model}{A:cW}{e C:aj}{dx:ai aj}{Q:Unit->aB->Prop}(fl:iL n s.heap H e C dx)(h:∀h' ch,(∀b∈ch,n<=b/\H b=none)->f6 (ke X.stack) ch s.heap h'->iL n h' H e C dx->Q () { s with heap:=h'}):wpAny M A (setFlight (.ref e) none) Q E s:=by
 obtain⟨U,B,W,vs,V,hc,G,hd,hsz,Y⟩:=fl;unfold setFlight;rcases Y with Y|⟨T,oT,ts,Y,FO,FD,FE,hT,B_,h3⟩
 .refine aK (wpAny_field V hd Y ?_);rw[bq (by decide)]
  exact bw (h s.heap [] (λ_ z=>nomatch z) ⟨λ_ _ _ _ g=>g,λ_ o _ _ g=>⟨o.slots,g⟩⟩ ⟨U,B,W,vs,V,hc,G,hd,hsz,.inl Y⟩)
 .refine aK (wpAny_field V hd Y ?_);rw[bJ (show(Value.ref T != Value.none)=true by simp)]
  have l3:3<ts.size:=(Al.mp h3).1;have dT:=Obj.data_mapFields B_ (·.setIfInBounds 3 ((none:ai aj).elim Value.none λf=>rawInt f))
  refine wpAny_setField hT B_ l3 (h _ [T] (λb m=>by cases jT.1 m;exact⟨FO,FD⟩) ⟨λb o _ hb g=>(nY _ _ (by simpa using Ne.symm (by simpa using hb:b≠T))).trans g,λb o _ hb g=>⟨o.slots,(nY _ _ (by simpa using Ne.symm (by simpa using hb:b≠T))).trans g⟩⟩ ⟨U,B,W,vs,(nY _ _ FE).trans V,hc,G,hd,hsz,.inr ⟨T,_,_,Y,FO,FD,FE,pR _ hT (Obj.isFreed_of_fields dT),dT,by simp[Array.getElem?_setIfInBounds,l3]⟩⟩)
end
end L2
namespace L2
open PySem PySem.Spec PyProof.Rows
variable{P:dq}{w:cL}{K:aP}{tg l:Expr}{X:Cx}{U:TA}{p J:Pos}{Q:ai ak->aB->Prop}{n t' G:Nat}{ob:Obj}{L:List aj}{Y:List Expr}{it:aj}
def pW(K:aP)(a:aj)(n:Nat):It:=
 ⟨λi H=>i<n/\∃xs,c7 K H a xs/\xs.length=n,λi H x H'=>H'=H/\∀xs,c7 K H a xs->xs[n - 1 - i]?=some x,λi H=>n<=i⟩
def Uq(a it:aj)(n:Nat):Turn P w K tg (pW K a n) [it] it (λi h=>i<=n/\h.IsRevIter it a ((n:Int) - 1 - i)) where
 mem:=by simp
 obj:=λi h st b hb=>by
  have e:b=it:=by simpa using hb
  subst e;obtain⟨_,o,e,c,d⟩:=st
  simp_all
 keep:=λi h h' st k=>⟨st.1,st.2.at λo e=>k it (by simp) o e⟩
 item:=by
  intro X D hw R hc i aa s Z H E I hf st V;subst D hw R;refine kY λj=>?_
  obtain⟨hi,xs,q,hx⟩:=V;obtain⟨aL,rv,p,hz⟩:=I.list q;have y:xs[n - 1 - i]?=some xs[n - 1 - i]:=gu (by lia)
  obtain⟨u,hu,ru⟩:=rv.get y;obtain⟨W,B,t,F,T,S⟩:=hf it (by simp)
  have O:s.heap.IsRevIter it a (((n - 1 - i:Nat):Int)):=by
   lia
  refine j ?_;refine wpAny_pyNext_rev_item O p.isList (x:=u) (by simpa using hu) λh' iH sb=>?_
  have z:Inv X aa Z H { s with heap:=h'}:=I.turned (t':=s.toks) (λb o hb e=>(sb.2 b hb).trans e) W B F T S
  obtain⟨o,e,c,d⟩:=id iH;refine⟨u,rfl,uD (s:={ s with heap:=h'}) e c d (by decide) ⟨_,H,z,ru,⟨rfl,λys hy=>by rw[I.kq hy q];exact y⟩,⟨by lia,?_⟩,λb hb=>(hf b hb).1⟩⟩
  grind
 done:=by
  intro X D hw R hc i aa s Z H E I hf st V;subst D hw R;refine kY λj=>?_
  obtain⟨W,B,t,F,T,S⟩:=hf it (by simp)
  have V:n<=i:=V;have O:s.heap.IsRevIter it a (-1):=by
   grind
  refine j ?_;exact wpAny_pyNext_rev_end (I.ok.hd hc) O λh' m=>⟨rfl,I.turned (t':=s.toks) (λb o hb e=>m b o hb e) W B F T S⟩
 self:=λ_ _ _ _ _ st h=>wpAny_pyIter_revIter st.2 h
def Cv(K:aP)(U:TA):TI:=λZ H R=>U Z H λvs H1=>∃a xs,vs=[.ref a]/\c7 K H1 a xs/\R (pW K a xs.length) H1
def Zr(B:Gl X "reversed")(hm:X.mg "reversed"=none)(W:PA X [l] U)(S:starEach [l] X.env=[(false,eval l X.env)]:=by rfl):PI X tg (.Call (.Name "reversed" p) [l] [] J) (Cv X.K U):=by
 intro aa s Z H R I h;refine Call_ (uy I B hm boot_reversed (PyProof.Rows.callWith_type1 (bO (W J aa s Z H _ I h) λus s1 F=>?_) S rfl))
 obtain⟨vs,H1,V,O,D⟩:=F;obtain⟨a,xs,e,T,q⟩:=D;subst e;cases O with
 |cons r rr=>
  cases rr;cases r;obtain⟨aL,rv,pl,hz⟩:=V.list T;have hl:=rv.length;refine call_reversed_list pl.isList ?_;have st:(s1.heap.push (revObj a ((aL.toArray.size:Int) - 1))).IsRevIter s1.heap.objs.size a ((aL.toArray.size:Int) - 1):=⟨_,jb _ rfl,rfl,rfl⟩;refine wpAny_pyIter_revIter st ?_;refine⟨s1.heap.objs.size,[s1.heap.objs.size],_,_,H1,rfl,V.kept (t':=s1.toks) λb o e=>c8 _ e,Uq a _ xs.length,⟨lq _,?_⟩,λb hb=>?_,q⟩
  .simp_all
  .have e:b=s1.heap.objs.size:=by simpa using hb
   subst e;exact V.kc (bU _) (V.bN.fresh (bU _))
section
variable{X:Cx}{aa:List (aj×Obj)}{Z:St}{H:Hp}{A:cW}{E:ak->aB->Prop}{s:aB}{d it:aj}{es:List (TK×V×V)}{ep i:Nat}
theorem M0{Q:ak->aB->Prop}(I:Inv X aa Z H s)(hd:H d=some (.dG es ep))
  (W:Q (.ref s.heap.objs.size) { s with heap:=s.heap.push { cls:=.type "dict_keyiterator",data:=.fields #[.ref d,.int 0 0,.int es.length 0,.int ep 0]}}):wpAny (mX X) A (pyIter (.ref d)) Q E s:=by
 obtain⟨_,z,ob,xs,g1,g5,g2,g3,g4⟩:=(kI I hd);have V:s.TypeIs (.ref d) "dict":=⟨ob,g1,g5.1⟩;have hl:xs.size=es.length:=by have:=Paired.length g3;simpa using this.symm
 refine wpAny_pyIter_slot V F.slot_dict_iter (wpAny_call_entry F.slot_dict_iter V F.entry_dict_iter ?_ (F.args_dict_iter_1 _));unfold Builtin.«dict.__iter__»;refine aK ?_;unfold Builtin.Dict.dictSlotNone;refine aK (wpAny_notOrdered_dict V (show wpAny _ _ (pure (Value.ref d)) _ _ s from bw (show wpAny _ _ (Builtin.Dict.showsAll d >>= _) _ _ s from ?_)));unfold Builtin.Dict.showsAll;rw[bq (by rw[z];exact pQ)]
 refine aK (bw (aK (wpAny_dictEntries g1 g2 (aK (wpAny_dictEpoch g1 g2 ?_)))));refine aK (wpAny_newObj_type (bw ⟨_,rfl,"dict_keyiterator",_,⟨_,jb _ rfl,rfl⟩,F.slot_dict_keyiterator_next.lookup,?_⟩));simpa[rawInt,hl] using W
theorem Mi{xs:Array DictEntry}(g1:s.heap.get? d=some ob)(g2:ob.data=.dict xs ep)(hl:xs.size=n)(V:s.heap.IsKeyIter it d i n ep)(lt':i<xs.size)
  (W:∀h',h'.IsKeyIter it d (i+1) n ep->Heap.SameBut it s.heap h'->Q (some xs[i].key) { s with heap:=h'}):wpAny (model P w) A (pyNext (.ref it)) Q E s:=by
 obtain⟨o,k1,k2,k3⟩:=id V;unfold pyNext;refine aK (wpAny_attempt (wpAny_callSpecial?_slot (name:=Str.ofString "__next__") V.typeIs F.slot_dict_keyiterator_next (wpAny_call_entry F.slot_dict_keyiterator_next V.typeIs F.entry_dict_keyiterator_next (aK (bw (aK (aK ?_)))) (F.args_dict_keyiterator_next_1 _))))
 (first|refine aK (wpAny_typeNameOfWhole_keyiter V.typeIs (bw ?_))|refine aK (wpAny_typeNameOf_keyiter V.typeIs (bw ?_)));refine aK (wpAny_fieldsOf k1 k3 ?_)
 have B:Builtin.Dict_items.ownsTuple "dict_keyiterator"=false:=by decide
 rw[B]
 (show wpAny _ _ (if(Value.ref d == Value.none)=true then _ else _) _ _ s);rw[bq (show ¬((Value.ref d == Value.none)=true) from pQ)]
 refine aK (bw (aK (wpAny_dictEntries g1 g2 ?_)));rw[bq (by rw[hl];simp)]
 refine aK (bw (aK (wpAny_dictEpoch g1 g2 ?_)));rw[bq (by simp)]
 refine bw ?_;dsimp only;rw[bq (show ¬((i:Int)<0) by lia),DG,sk lt']
 refine aK ?_
 (first|refine aK (wpAny_typeNameOfWhole_keyiter V.typeIs (bw ?_))|refine aK (wpAny_typeNameOf_keyiter V.typeIs (bw ?_)));refine aK (wpAny_isOneOf_keyiter V.typeIs ?_)
 (show wpAny _ _ (setField (.ref it) 1 (rawInt ((i:Int)+1)) >>= _) _ _ s);refine aK (wpAny_setField k1 k3 (by simp) ?_)
 have Cf:(s.heap.update it (Obj.mapFields (·.setIfInBounds 1 (rawInt ((i:Int)+1))))).IsKeyIter it d (i+1) n ep:=
  ⟨_,pR _ k1 (Obj.isFreed_of_fields (Obj.data_mapFields k3 _)),(Obj.cls_mapFields ..).trans k2,by rw[Obj.data_mapFields k3];simp[rawInt]⟩
 refine aK (kA (aK (wpAny_isOneOf_keyiter (s:={ s with heap:=s.heap.update it (Obj.mapFields (·.setIfInBounds 1 (rawInt ((i:Int)+1))))}) Cf.typeIs ?_)))
 show wpAny _ _ (pure xs[i].key) _ _ _;exact bw (bw ⟨_,rfl,bw (W _ Cf (Heap.SameBut.update ..))⟩)
def RN(I:Inv X aa Z H s)(hd:H d=some (.dG es ep))(W:s.heap.IsKeyIter it d i es.length ep){e:TK×V×V}(F:es[i]?=some e)
  (B:∀key h',RelV e.2.1 key->h'.IsKeyIter it d (i+1) es.length ep->Heap.SameBut it s.heap h'->Q (some key) { s with heap:=h'}):wpAny (mX X) A (pyNext (.ref it)) Q E s:=by
 refine kY λT=>?_
 obtain⟨_,z,ob,xs,g1,g5,g2,g3,g4⟩:=(kI I hd);have hl:xs.size=es.length:=by have:=Paired.length g3;simpa using this.symm
 obtain⟨x,G,R⟩:=Eo i g3 F;have lt':i<xs.size:=by
  grind
 have ex:xs[i]=x:=by
  have:xs[i]?=some x:=by rw[<-vF];exact G
  rw[sk lt'] at this;exact Option.some.inj this
 refine T ?_;exact Mi g1 g2 hl W lt' λh' D S=>B _ h' (by rw[ex];exact R.2.1) D S
theorem MA{xs:Array DictEntry}(S:A.handled=none)(g1:s.heap.get? d=some ob)(g2:ob.data=.dict xs ep)(hl:xs.size=n)(V:s.heap.IsKeyIter it d i n ep)(D:n<=i)
  (B:∀h',Heap.ExtBut it s.heap h'->Q none { s with heap:=h'}):wpAny (model P w) A (pyNext (.ref it)) Q E s:=by
 obtain⟨o,k1,k2,k3⟩:=id V;unfold pyNext;refine aK (wpAny_attempt (wpAny_callSpecial?_slot (name:=Str.ofString "__next__") V.typeIs F.slot_dict_keyiterator_next (wpAny_call_entry F.slot_dict_keyiterator_next V.typeIs F.entry_dict_keyiterator_next (aK (bw (aK (aK ?_)))) (F.args_dict_keyiterator_next_1 _))))
 (first|refine aK (wpAny_typeNameOfWhole_keyiter V.typeIs (bw ?_))|refine aK (wpAny_typeNameOf_keyiter V.typeIs (bw ?_)));refine aK (wpAny_fieldsOf k1 k3 ?_)
 have R:Builtin.Dict_items.ownsTuple "dict_keyiterator"=false:=by decide
 rw[R]
 (show wpAny _ _ (if(Value.ref d == Value.none)=true then _ else _) _ _ s);rw[bq (show ¬((Value.ref d == Value.none)=true) from pQ)]
 refine aK (bw (aK (wpAny_dictEntries g1 g2 ?_)));rw[bq (by rw[hl];simp)]
 refine aK (bw (aK (wpAny_dictEpoch g1 g2 ?_)));rw[bq (by simp)]
 refine bw ?_;have W:xs.size<=i:=by lia
 dsimp only;rw[bq (show ¬((i:Int)<0) by lia),DG,Array.getElem?_eq_none W]
 refine aK ?_
 (first|refine aK (wpAny_typeNameOfWhole_keyiter V.typeIs (bw ?_))|refine aK (wpAny_typeNameOf_keyiter V.typeIs (bw ?_)));(show wpAny _ _ (setField (.ref it) 0 .none >>= _) _ _ s);refine aK (wpAny_setField k1 k3 (by simp) ?_)
 (show wpAny _ _ (newExc (.type "StopIteration") [] >>= _) _ _ _);refine aK ?_
 simp only[newExc,newTuple];refine aK (wpAny_newObj_type (aK (m:=firstArgMember _ _) (wpAny_of_eq (a:=Value.none) (by first|rfl|(simp only[firstArgMember];rfl)) (wpAny_newObj_type ?_ (by size_fits)))) (by size_fits))
 refine aK (wpAny_handled ?_);rw[show A.in1.handled=none from S]
 (refine aK (bw (wpAny_throw ?_)));refine aK (wpAny_isInstance (T:="StopIteration") (b:=true) ⟨_,jb _ rfl,rfl⟩ isSubtype_stop ?_)
 exact bw (B _ (((Heap.SameBut.update ..).extBut.push _).push _))
def SK(B:A.handled=none)(I:Inv X aa Z H s)(hd:H d=some (.dG es ep))(V:s.heap.IsKeyIter it d i es.length ep)(F:es.length<=i)
  (W:∀h',Heap.ExtBut it s.heap h'->Q none { s with heap:=h'}):wpAny (mX X) A (pyNext (.ref it)) Q E s:=by
 obtain⟨_,z,ob,xs,g1,g5,g2,g3,g4⟩:=(kI I hd);exact MA B g1 g2 (by have:=Paired.length g3;simpa using this.symm) V F W
end
def GU(a:aj)(n ep:Nat):It:=
 ⟨λi H=>∃es,H a=some (.dG es ep)/\es.length=n/\i<n,λi H x H'=>H'=H/\∀es,H a=some (.dG es ep)->∃e,es[i]?=some e/\e.2.1=x,λi H=>∃es,H a=some (.dG es ep)/\es.length=n/\n<=i⟩
def SM(a it:aj)(n ep:Nat):Turn P w K tg (GU a n ep) [it] it (λi h=>h.IsKeyIter it a i n ep) where
 mem:=by simp
 obj:=λi h st b hb=>by
  have e:b=it:=by simpa using hb
  subst e;obtain⟨o,e,c,d⟩:=st
  simp_all
 keep:=λi h h' st k=>st.at λo e=>k it (by simp) o e
 item:=by
  intro X R hw S hc i aa s Z H E I hf st D;subst R hw S;obtain⟨es,hd,hl,hi⟩:=D;subst hl;obtain⟨V,W,y,B,F,T⟩:=hf it (by simp)
  refine RN I hd st (e:=es[i]) (gu hi) λkey h' rk O z=>?_
  have j:Inv X aa Z H { s with heap:=h'}:=I.turned (t':=s.toks) (λb o hb e=>(z.2 b hb).trans e) V W B F T
  obtain⟨o,e,c,d⟩:=id O;refine⟨key,rfl,uD (s:={ s with heap:=h'}) e c d (by decide) ⟨es[i].2.1,H,j,rk,⟨rfl,λys m=>?_⟩,O,λb hb=>(hf b hb).1⟩⟩
  simp_all
 done:=by
  intro X R hw S hc i aa s Z H E I hf st D;subst R hw S;obtain⟨es,hd,hl,hi⟩:=D;subst hl;obtain⟨V,W,y,B,F,T⟩:=hf it (by simp)
  exact SK (I.ok.hd hc) I hd st hi λh' q=>⟨rfl,I.turned (t':=s.toks) (λb o hb e=>q b o hb e) V W B F T⟩
 self:=λ_ _ _ _ _ st h=>wpAny_pyIter_keyiter st h
def uO(V:TE):TI:=λZ H R=>V Z H λx H1=>∃a es ep,x=.ref a/\H1 a=some (.dG es ep)/\R (GU a es.length ep) H1
def Wt{W:TE}(hl:PE X l W):PI X tg l (uO W):=by
 intro aa s Z H R I h;refine bO (hl aa s Z H _ I h) λv s1 B=>?_
 refine kY λF=>?_
 obtain⟨x,H1,V,S,T⟩:=B;obtain⟨a,es,ep,e,hd,q⟩:=T;subst e;cases S;refine F ?_;refine M0 V hd ?_;refine⟨s1.heap.objs.size,[s1.heap.objs.size],_,_,H1,rfl,V.kept (t':=s1.toks) λb o e=>c8 _ e,SM a _ _ _,⟨_,jb _ rfl,rfl,rfl⟩,λb hb=>?_,q⟩
 have e:b=s1.heap.objs.size:=by simpa using hb
 subst e;exact V.kc (bU _) (V.bN.fresh (bU _))
def IX{V W:TI}(B:PI X tg l V)(F:PI X tg l W):PI X tg l (λZ H R=>V Z H R\/W Z H R):=by
 intro aa s Z H R I h;rcases h with h|h
 .exact B aa s Z H R I h
 .exact F aa s Z H R I h
open PySem PySem.Spec PyProof.Rows
section
variable{X:Cx}{aa:List (aj×Obj)}{Z:List (ai V)}{H:Hp}{s:aB}{h':bZ}
def Inv.t8{T:aj}{o:HO}(I:Inv X aa Z H s)(k:∀b ob,b∉L->s.heap.get? b=some ob->h'.get? b=some ob)(W:∀b∈L,ji X aa H b)(B:s.heap.objs.size<=T)
  (new:cw X.prog X.w (upd H T o) h' T o):Inv X aa Z (upd H T o) { s with heap:=h',toks:=t'}:=by
 have O:H T=none:=I.bN.fresh B;have nL:∀b u,H b=some u->b∉L:=λb u e z=>by rw[(W b z).1] at e;cases e
 have V:∀b u,H b=some u->b≠T:=λb u e z=>by rw[z,O] at e;cases e
 refine I.step (g':=s.gens) (d':=s.drawn) (ch:=L) (λb hb=>?_) (λb ob _ _ hc e _=>k b ob hc e) (λb ob _ _ hc e _=>⟨ob.slots,k b ob hc e⟩) (λb ob _ e n=>?_)
  (λb ob hc e=>⟨ob,k b ob hc e⟩) (λb xs e=>?_) (λb ob u e=>?_) (λb ps e=>⟨#[],?_⟩) (λm hm=>?_) (λb u e=>?_) I.bare
 .obtain⟨j,F,y,S,R,D⟩:=W b hb;exact⟨S,F,R,D⟩
 .rw[dz (λz=>by subst z;exact cQ (gq (cV e) B) (jQ _))];exact n
 .rw[dz (V b _ e)];exact e
 .rw[dz (V b _ e)];exact e
 .rw[dz (V b _ e),e];simp
 .obtain⟨ob,es,ep,ho,r⟩:=hm;exact⟨ob,es,ep,k _ ob (λz=>(W _ z).2.1 rfl) ho,r⟩
 .by_cases hb:b=T
  .grind [aQ]
  .rw[dz hb] at e;refine(I.bN b u e).lW (λc v hc q=>k c v ?_ q) (λc q=>by rw[dz (V c _ q)];exact q) λc xs q=>by rw[dz (V c _ q)];exact q
   grind
def Inv.Dr(I:Inv X aa Z H s)(k:∀b ob,b∉L->s.heap.get? b=some ob->h'.get? b=some ob)(V:∀b∈L,ji X aa H b):Inv X aa Z H { s with heap:=h',toks:=t'}:=by
 have nL:∀b u,H b=some u->b∉L:=λb u e z=>by rw[(V b z).1] at e;cases e
 refine I.step (g':=s.gens) (d':=s.drawn) (ch:=L) (λb hb=>?_) (λb ob _ _ hc e _=>k b ob hc e) (λb ob _ _ hc e _=>⟨ob.slots,k b ob hc e⟩) (λb ob _ e n=>n)
  (λb ob hc e=>⟨ob,k b ob hc e⟩) (λb xs e=>e) (λb ob u e=>e) (λb ps e=>⟨#[],by rw[e];simp⟩) (λm hm=>?_) (λb u e=>?_) I.bare
 .obtain⟨S,W,R,B,F,T⟩:=V b hb;exact⟨B,W,F,T⟩
 .obtain⟨ob,es,ep,ho,r⟩:=hm;exact⟨ob,es,ep,k _ ob (λz=>(V _ z).2.1 rfl) ho,r⟩
 .refine(I.bN b u e).lW (λc v hc q=>k c v ?_ q) (λc q=>q) λc xs q=>q
  grind
end
def yH(Src:Hp->Prop)(n:Nat)(W:Nat->List V->Prop):It:=
 ⟨λi H=>i<n/\Src H,λi H x H'=>∃p ws,x=.ref p/\H p=none/\W i ws/\H'=upd H p (.tup ws),λi H=>n<=i/\Src H⟩
def MB{FP wr:List aj}{Src:Hp->Prop}{O:Nat->List V->Prop}{tn:Nat->bZ->Prop}(mem:it∈FP)(sub:∀b∈wr,b∈FP)
  (obj:∀i h,tn i h->∀b∈FP,∃o,h.get? b=some o/\∀v,o.data≠.cell v) (keep:∀i h h',tn i h->(∀b∈FP,∀o,h.get? b=some o->h'.get? b=some o)->tn i h')
  (hW:∀X,X.prog=P->X.w=w->X.K=K->X.calm=true->∀aa s Z H,Inv X aa Z H s->Src H->∃Jp Pt St j,WalksT P w X.A it Jp wr n Pt St j/\(∀i,tn i s.heap->St i s.heap)/\(∀i h,St i h->tn i h)/\∀i B,Pt i B->∃ws,O i ws/\Vals ws B.toList/\ws.length<=10)
  (self:∀A i s Q E,tn i s.heap->Q (.ref it) s->wpAny (model P w) A (pyIter (.ref it)) Q E s) :
  Turn P w K (.Tuple Y G J) (yH Src n O) FP it (λi h=>i<=n/\tn i h) where
 mem:=mem
 obj:=λi h st=>obj i h st.2
 keep:=λi h h' st k=>⟨st.1,keep i h h' st.2 k⟩
 item:=by
  intro X D hw R hc i aa s Z H E I hf st S;refine kY λt=>?_
  obtain⟨Jp,Pt,St,j,W,F,CQ,pv⟩:=hW X D hw R hc aa s Z H I S.2;subst D hw R;refine t ?_;refine W.item i s _ E S.1 (F i st.2) λT B h1 tk y hsz JB a m=>?_
  refine⟨.ref T,rfl,W.go Y G J i T _ _ E a λq d Qk=>?_⟩
  obtain⟨ws,hv,rv,FR⟩:=pv i B y;have JA:IsTup q T B:=by
   obtain⟨o,e,c⟩:=JB;exact⟨o,Qk T o (W.apart i T h1 a) e,c⟩
  have hn:H T=none:=I.bN.fresh hsz;have I2:Inv X aa Z (upd H T (.tup ws)) { s with heap:=q,toks:=tk}:=I.t8 (L:=wr) (λb ob hb e=>Qk b ob hb (m b ob hb e)) (λb hb=>hf b (sub b hb)) hsz ⟨by rw[sizeLine_eq];lia,B.toList,rv,by simpa using JA⟩
  refine⟨.ref T,_,I2,rfl,⟨T,ws,rfl,hn,hv,rfl⟩,⟨by have:=S.1;lia,CQ _ _ d⟩,λb hb=>?_⟩
  have B7:=(hf b hb).1;rw[dz]
  .exact B7
  .intro z;subst z;obtain⟨o,e,_⟩:=obj i s.heap st.2 b hb;exact cQ (gq (cV e) hsz) (jQ _)
 done:=by
  intro X D hw R hc i aa s Z H E I hf st S;refine kY λt=>?_
  obtain⟨Jp,Pt,St,j,W,F,CQ,pv⟩:=hW X D hw R hc aa s Z H I S.2;subst D hw R;have ei:i=n:=by have:=S.1;have:=st.1;lia
  subst ei;refine t ?_;exact W.done s _ E (F i st.2) λq tk hk=>⟨rfl,I.Dr (L:=wr) (λb ob hb e=>hk b ob hb e) λb hb=>hf b (sub b hb)⟩
 self:=λA i s Q E st h=>self A i s Q E st.2 h
theorem Ur{h:bZ}{a l:aj}{i:Nat}(p:h.IsListIter a l i):∃o,h.get? a=some o/\∀v,o.data≠.cell v:=by
 obtain⟨o,e,_,d⟩:=p
 simp_all
def Du(xs:List V)(i:Nat)(ws:List V):Prop:=∃x,xs[i]?=some x/\ws=[.int i,x]
def SN{e l:aj}(n1:e≠it)(j:l≠e)(y:l≠it)(xs:List V):
  Turn P w K (.Tuple Y G J) (yH (λH=>c7 K H l xs) xs.length (Du xs)) [e,it] e (λi h=>i<=xs.length/\((∃old,IsEnum h e it (i:Int) old)/\h.IsListIter it l i)):=by
 refine MB (FP:=[e,it]) (wr:=[e,it]) (by simp) (λb hb=>hb) (λi h st b hb=>?_) (λi h h' st k=>?_) (λX O hw D hc aa s Z H I hS=>?_) (λA i s Q E st h=>?_)
 .grind [Ur]
 .obtain⟨⟨old,s1⟩,s2⟩:=st;exact⟨⟨old,k e (by simp) _ s1⟩,s2.at λo q=>k it (by simp) o q⟩
 .subst O hw D;obtain⟨F,T,z,_⟩:=I.list hS;have e1:=T.length;have W:=WalksT.enumerate (prog:=X.prog) (w:=X.w) (A:=X.A) (I.ok.hd hc) e it l n1 j y F.toArray;rw[show F.toArray.size=xs.length by rw[fO,<-e1]] at W
  refine⟨_,_,_,_,W,λi st=>?_,λi h st=>?_,λi R hp=>?_⟩
  .exact⟨st.1,st.2,z.isList⟩
  .simp_all
  .obtain⟨t,u,B,rfl⟩:=hp;have B:F[i]?=some u:=by simpa using B
   have Qi:i<xs.length:=by have:=(dX.mp B).1;lia
   obtain⟨m,S,d⟩:=T.get (gu Qi);rw[B] at S;cases S;exact⟨[.int i,xs[i]],⟨_,gu Qi,rfl⟩,.cons ⟨t,rfl⟩ (.cons d .nil),by show 2<=10;decide⟩
 .obtain⟨old,s1⟩:=st.1;exact wpAny_pyIter_enum s1 h
def uP(K:aP)(U:TA):TI:=λZ H R=>U Z H λvs H1=>∃a xs,vs=[.ref a]/\c7 K H1 a xs/\R (yH (λH=>c7 K H a xs) xs.length (Du xs)) H1
def Wu{D:Pos}{a:Expr}(j:Gl X "enumerate")(hm:X.mg "enumerate"=none)(O:PA X [a] U)(z:starEach [a] X.env=[(false,eval a X.env)]:=by rfl):
  PI X (.Tuple Y G D) (.Call (.Name "enumerate" p) [a] [] J) (uP X.K U):=by
 intro aa s Z H R I h;refine Call_ (uy I j hm PyProof.Rows.Boot.enumerate (PyProof.Rows.callWith_type1 (bO (O J aa s Z H _ I h) λus s1 y=>?_) z rfl))
 obtain⟨vs,H1,V,m,d⟩:=y;obtain⟨l1,xs,e,W,q⟩:=d;subst e;cases m with
 |cons r rr=>
  cases rr;cases r;obtain⟨tF,KU,T,_⟩:=V.list W;refine call_enumerate_list T.isList λh' S t z3 z4=>?_
  have B:l1<s1.heap.objs.size:=by obtain⟨o,n,e,_⟩:=T;exact cV e
  refine wpAny_pyIter_enum S ?_;refine⟨s1.heap.objs.size+1,[s1.heap.objs.size+1,s1.heap.objs.size],_,_,H1,rfl,V.kept (t':=s1.toks) z4,SN (e:=s1.heap.objs.size+1) (it:=s1.heap.objs.size) (l:=l1) (vB (by lia)) (g_ (gq B (Gp _ _))) (g_ B) xs,⟨lq _,⟨_,S⟩,t⟩,λb hb=>?_,q⟩
  simp only[y0c,y1m,or_false] at hb;have F:s1.heap.objs.size<=b:=by rcases hb with rfl|rfl <;> lia
  exact V.kc F (V.bN.fresh F)
noncomputable def gh(i j:Int):Nat:=((j - i+1) / 2).toNat
def LZ(i j:Int):Builtin.Range.rangeSize i j 2=(gh i j:Nat):=by
 grind [PySem.Builtin.Range.rangeSize,gh]
def SO{i j:Int}(V:-(2^20)<=i)(W:i<2^20)(B:-(2^20)<=j)(F:j<2^20):Builtin.Range.small i j 2=true:=by
 have:=LZ i j;unfold gh at this;unfold Builtin.Range.small;rw[this];simp only[Builtin.Range.rangeFitsLong,jx,Bool.or_eq_true,decide_eq_true_eq,beq_iff_eq,show(2:Int) > 0 by decide,n4]
 lia
section
variable{X:Cx}{J p:Pos}{tg a b c:Expr}
def uS(U:TA):TI:=λZ H R=>U Z H λvs H1=>∃i j:Int,vs=[.int i,.int j,.int 2]/\(-(2^20)<=i/\i<2^20 /\ -(2^20)<=j/\j<2^20)/\R (GR i 2 (gh i j)) H1
def SQ(D:Gl X "range")(hm:X.mg "range"=none)(S:PA X [a,b,c] U)(O:starEach [a,b,c] X.env=[(false,eval a X.env),(false,eval b X.env),(false,eval c X.env)]:=by rfl)
  (F:starEach [b,c] X.env=[(false,eval b X.env),(false,eval c X.env)]:=by rfl):PI X tg (.Call (.Name "range" p) [a,b,c] [] J) (uS U):=by
 intro aa s Z H R I h;refine Call_ (uy I D hm boot_range (PyProof.Rows.callWith_type1 (bO (S J aa s Z H _ I h) λus s1 ⟨vs,H1,T,m,W⟩=>?_) (by rw[O,F]) (by rw[F];rfl)))
 obtain⟨i,j,e,⟨W,y,z,d⟩,q⟩:=W;subst e;cases m with
 |cons r rr=>
  cases rr with
  |cons r' rr=>
   cases rr with
   |cons B rr=>
    cases rr;obtain⟨t,rfl⟩:=r;obtain⟨t',rfl⟩:=r';obtain⟨Aa,rfl⟩:=B;refine call_range_3 (by decide) ?_ (Or.inl (PyProof.noPylong_small (by lia)))
    refine wpAny_pyIter_range (IsRange.new ..) (SO W y z d) ?_;have V:Inv X aa Z H1 { s1 with heap:=s1.heap.push { cls:=.type "range",data:=.fields #[.int i t,.int j t',.int 2 Aa]}}:=T.kept (t':=s1.toks) λb o e=>c8 _ e
    refine⟨(s1.heap.push { cls:=.type "range",data:=.fields #[.int i t,.int j t',.int 2 Aa]}).objs.size,[(s1.heap.push { cls:=.type "range",data:=.fields #[.int i t,.int j t',.int 2 Aa]}).objs.size],_,_,H1,rfl,V.kept (t':=s1.toks) λb o e=>c8 _ e,Rr _ i 2 (gh i j),?_,λb hb=>?_,q⟩
    .have e1:i+((0:Nat):Int)*2=i:=by simp
     have e2:((gh i j:Nat):Int) - ((0:Nat):Int)=Builtin.Range.rangeSize i j 2:=by rw[LZ];lia
     show IsRangeIter _ _ (i+((0:Nat):Int)*2) (((gh i j:Nat):Int) - ((0:Nat):Int)) 2;rw[e1,e2];exact jb _ rfl
    .have e:b=(s1.heap.push { cls:=.type "range",data:=.fields #[.int i t,.int j t',.int 2 Aa]}).objs.size:=by simpa using hb
     subst e;exact V.kc (bU _) (V.bN.fresh (bU _))
end
end L2
set_option autoImplicit false
namespace L2
open PySem PySem.Spec PyProof.Rows
variable{a:aj}{c lo i j:Int}{k:Kn}{q:Nat}{H H':Hp}
def Kept(q:Nat)(H H':Hp):Prop:=∀a o,tH q o=true->H a=some o->H' a=some o
def jl(K:aP)(k:Kn)(H:Hp)(q:Nat)(x:V):D->Prop
 |.lst ds=>∃a ws,x=.ref a/\ag K k ws ds/\∀H',aE k.F H'->Kept q H H'->c7 K H' a ws
 |.tup ds=>∃a ws,x=.ref a/\ag K k ws ds/\∀H',aE k.F H'->Kept q H H'->iE K H' a ws
 |.ao kvs=>∃a es ep,x=.ref a/\es.map (·.1)=kvs.map (·.1)/\ag K k (es.map (·.2.1)) (kvs.map (·.1.d))/\ag K k (es.map (·.2.2)) (kvs.map (·.2))/\∀H',aE k.F H'->Kept q H H'->H' a=some (.dG es ep)
 |.str z=>x=.str z
 |_=>True
def Bx.lv:Bx->Nat
 |.lst _=>2
 |.ao _=>1
noncomputable def qF:Cell->ai (Nat×D)
 |.o b=>some (b.lv,b.d)
 |.z b=>some (0,b.d)
 |.ins _ _=>none
def Ck(J:Bool)(S:aU):Rv->ai (Rs (Nat×D))
 |.o c=>some (.ok (0,c.d) S)
 |.v (.d (.ref n))=>(S.r[n]?).bind λc=>(qF c).map λp=>.ok p S
 |.v (.d x)=>some (.ok (0,x) S)
 |.v (.c n)=>if J=true then(nF S (.c n)).map λp=>.ok (0,p.1) p.2 else(S.s[n]?).bind λc=>(qF c).map λp=>.ok p S
def uJ(Y:Bool)(g:GE):Gx (Nat×D):=λU S=>bd (g U S) (λr J=>Ck Y J r)
abbrev RH(K:aP)(q:Nat):Rp (Nat×D) V:=λk H x p=>jl K k H (max q p.1) x p.2
section
variable{K:aP}{W:XW}{q:Nat}{k:Kn}{H:Hp}{x:V}{d:D}{g:GE}{Z:St}
def Ew(h:ag K k [x] [d]):jl K k H q x d:=by
 cases d with
 |lst ds=>obtain⟨a,ws,rfl,J,Y⟩:=h.uV;exact⟨a,ws,rfl,Y,λH' s _=>s.K4 J⟩
 |tup ds=>obtain⟨a,ws,rfl,J,Y⟩:=h.isTup;exact⟨a,ws,rfl,Y,λH' s _=>s.yp J⟩
 |ao kvs=>obtain⟨a,es,ep,rfl,J,Y,V,U⟩:=h.uU;exact⟨a,es,ep,rfl,Y,V,U,λH' s _=>s _ _ J⟩
 |str z=>exact h.aR rfl
 |_=>exact rA
def Ki{o:HO}:tH (max q 2) o=true:=HL (p:=2) (Nat.le_max_right _ _) rfl
def Wv{b:Bx}(h:dY K k H a b):jl K k H (max q b.lv) (.ref a) b.d:=by
 cases b with
 |lst xs=>obtain⟨ws,J,Y⟩:=h;exact⟨a,ws,rfl,Y,λH' _ c=>.inl (.inl (c _ _ Ki J))⟩
 |ao kvs=>obtain⟨es,ep,J,Y,V,U⟩:=h;exact⟨a,es,ep,rfl,Y,V,U,λH' _ c=>c _ _ (HL (p:=1) (Nat.le_max_right _ _) rfl) J⟩
def MC{c:Cell}{p:Nat×D}(h:bD K k H a c)(e:qF c=some p):jl K k H (max q p.1) (.ref a) p.2:=by
 cases c with
 |o b=>cases e;exact Wv h.2
 |z b=>cases e;exact Ew h.2
 |ins _ _=>cases e
def NP{O:Bool}{Q:VK}(t:tX (RH K q) K W q (uJ O g) Z H Q):tE K W q g Z H Q:=by
 obtain⟨k,U,S,G,ok,gk,e,w⟩:=t;refine tX.bd ok gk e w λr I x k1 H1 J g1 V e1 B _=>?_
 cases r with
 |o c=>
  cases e1;obtain⟨k2,D,F,L⟩:=pM J V;exact(B.up (D q)).now F (Ew L)
 |v y=>
  cases y with
  |d y=>
   cases y with
   |ref n=>
    obtain⟨c,Y,e2⟩:=cF.mp e1;obtain⟨p,T,rfl⟩:=c_.mp e2;obtain⟨a,rfl,R⟩:=ag.isRef V;exact B.now J (MC (J.r.at' n a c R Y) T)
   |_=>cases e1;exact B.now J (Ew V)
  |c n=>
   cases O with
   |true=>
    obtain⟨p,Y,rfl⟩:=c_.mp (show(nF I (.c n)).map _=some G from e1);obtain⟨k2,D,F,L⟩:=ER (v:=.c n) J V Y;exact(B.up (D q)).now F (Ew L)
   |false=>
    obtain⟨c,Y,e2⟩:=cF.mp (show(I.s[n]?).bind _=some G from e1);obtain⟨p,T,rfl⟩:=c_.mp e2;obtain⟨a,rfl,R⟩:=V;exact B.now J (MC (J.s.at' n a c R Y) T)
end
structure ie (K:aP) (k1:Kn) (H1:Hp) (q:Nat) (J:It) (ds:List D):Prop where
 go:∀i k H,k1.le k->aE k.F H->Kept q H1 H->i<ds.length->J.go i H
 stop:∀i k H,k1.le k->aE k.F H->Kept q H1 H->ds.length<=i->J.stop i H
 rB:∀i k H x H',k1.le k->aE k.F H->Kept q H1 H->J.rB i H x H'->∀d,ds[i]?=some d->∃F',aE k.F F'/\aE H H'/\aE F' H'/\(∀p,H p≠none->k.F p=none->F' p=none)/\ag K ⟨F',k.A,k.T⟩ [x] [d]
abbrev RI(K:aP)(q:Nat):Rp (Nat×List D) It:=λk H J p=>ie K k H (max q p.1) J p.2
section
variable{K:aP}{k1:Kn}{H1:Hp}{q n:Nat}{ds:List D}{J:It}{a:aj}{ws:List V}
def ie.old(Y:ds.length=n)(V:∀i H,aE k1.F H->Kept q H1 H->i<n->J.go i H)(U:∀i H,aE k1.F H->Kept q H1 H->n<=i->J.stop i H)(G:∀i H x H' d,aE k1.F H->Kept q H1 H->J.rB i H x H'->ds[i]?=some d->H'=H/\ag K k1 [x] [d]):ie K k1 H1 q J ds where
 go:=λi k H l s c hi=>V i H (l.f.trans s) c (Y ▸ hi)
 stop:=λi k H l s c hi=>U i H (l.f.trans s) c (Y ▸ hi)
 rB:=λi k H x H' l s c y d hd=>by
  obtain⟨rfl,r⟩:=G i H x H' d (l.f.trans s) c y hd;exact⟨k.F,aE.refl _,aE.refl _,s,λ_ _ z=>z,r.mono l⟩
def ie.CM{Src:Hp->Prop}{Y:Nat->List V->Prop}{f:Nat->List D}(U:∀H,aE k1.F H->Kept q H1 H->Src H)(hv:∀i us,i<n->Y i us->ag K k1 us (f i)):ie K k1 H1 q (yH Src n Y) ((List.range n).map λi=>.tup (f i)) where
 go:=λi k H l s c hi=>⟨by simpa using hi,U H (l.f.trans s) c⟩
 stop:=λi k H l s c hi=>⟨by simpa using hi,U H (l.f.trans s) c⟩
 rB:=λi k H x H' l s c y d hd=>by
  obtain⟨p,us,rfl,hp,hw,rfl⟩:=y;have hi:i<n:=by have:=(dX.mp hd).1;simpa using this
  rw[fB,yA hi] at hd;cases hd;have hF:=s.free hp;refine⟨upd k.F p (.tup us),qa hF,qa hp,λb u z=>?_,λb W B=>?_,.tup (.inl (.inl aQ)) ((hv i us hi hw).mono ⟨l.f.trans (qa hF),l.a⟩) .nil⟩
  .by_cases G:b=p
   .subst G;rw[aQ] at z ⊢;exact z
   .rw[dz G] at z ⊢;exact s b u z
  grind [dz]
def Ww(h:∀H',aE k1.F H'->Kept q H1 H'->c7 K H' a ws)(r:ag K k1 ws ds):ie K k1 H1 q (GV K a) ds:=
 .old r.length.symm (λi H s c hi=>⟨ws,ws[i],h H s c,gu _⟩) (λi H s c hi=>⟨ws,h H s c,hi⟩) λi H x H' d s c y hd=>by
  obtain⟨rfl,y⟩:=y;obtain⟨v,Y,V⟩:=r.get hd
  simp_all
def Zs(h:∀H',aE k1.F H'->Kept q H1 H'->iE K H' a ws)(r:ag K k1 ws ds):ie K k1 H1 q (GW K a) ds:=
 .old r.length.symm (λi H s c hi=>⟨ws,ws[i],h H s c,gu _⟩) (λi H s c hi=>⟨ws,h H s c,hi⟩) λi H x H' d s c y hd=>by
  obtain⟨rfl,y⟩:=y;obtain⟨v,Y,V⟩:=r.get hd
  simp_all
def Zt(h:∀H',aE k1.F H'->Kept q H1 H'->c7 K H' a ws)(r:ag K k1 ws ds):ie K k1 H1 q (pW K a ws.length) ds.reverse:=
 .old (by rw[Gq,r.length]) (λi H s c hi=>⟨hi,ws,h H s c,rfl⟩) (λi H s c hi=>hi) λi H x H' d s c y hd=>by
  obtain⟨rfl,y⟩:=y;have hi:=(dX.mp hd).1;rw[Gq] at hi;rw[List.getElem?_reverse hi,<-r.length] at hd;obtain⟨v,Y,V⟩:=r.get hd
  simp_all
def Wx{es:List (TK×V×V)}{ep:Nat}(h:∀H',aE k1.F H'->Kept q H1 H'->H' a=some (.dG es ep))(r:ag K k1 (es.map (·.2.1)) ds):ie K k1 H1 q (GU a es.length ep) ds:=
 .old (by rw[<-r.length,ba]) (λi H s c hi=>⟨es,h H s c,rfl,hi⟩) (λi H s c hi=>⟨es,h H s c,rfl,hi⟩) λi H x H' d s c y hd=>by
  obtain⟨rfl,y⟩:=y;obtain⟨v,Y,U⟩:=r.get hd;rw[fB] at Y;obtain⟨e,G,rfl⟩:=c_.mp Y;obtain⟨B,W,rfl⟩:=y es (h _ s c);cases G.symm.trans W;exact⟨rfl,U⟩
def Zu{z:Str}:ie K k1 H1 q (DK z) (z.cps.toList.map λc=>.str (jB c)):=
 .old (by rw[ba,Gj]) (λi H s _ hi=>hi) (λi H s _ hi=>hi) λi H x H' d s _ y hd=>by
  obtain⟨rfl,c,Y,rfl⟩:=y;rw[fB,vF,Y] at hd;cases hd;exact⟨rfl,.flat rfl .nil⟩
noncomputable def lU(lo c:Int)(n:Nat):List D:=(List.range n).map λ(i:Nat)=>D.int (lo+(i:Int)*c)
def Wy:ie K k1 H1 q (GR lo c n) (lU lo c n):=
 .old (by unfold lU;rw[ba,vG]) (λi H s _ hi=>hi) (λi H s _ hi=>hi) λi H x H' d s _ y hd=>by
  obtain⟨rfl,rfl⟩:=y;have hi:=(dX.mp hd).1;unfold lU at hi hd;rw[ba,vG] at hi;rw[fB,yA hi] at hd;cases hd;exact⟨rfl,.flat rfl .nil⟩
noncomputable def fS(lo:Int)(n:Nat):List D:=(List.range n).map λ(i:Nat)=>D.int (lo+(i:Int))
theorem Zv:ie K k1 H1 q (DJ lo n) (fS lo n):=
 .old (by unfold fS;rw[ba,vG]) (λi H s _ hi=>hi) (λi H s _ hi=>hi) λi H x H' d s _ y hd=>by
  obtain⟨rfl,rfl⟩:=y;have hi:=(dX.mp hd).1;unfold fS at hi hd;rw[ba,vG] at hi;rw[fB,yA hi] at hd;cases hd;exact⟨rfl,.flat rfl .nil⟩
end
abbrev lu:=Gx (Nat×List D)
def bo(Y:Bool)(o:D->ai (List D))(g:GE):lu:=λU S=>bd (uJ Y g U S) λp J=>(o p.2).map λds=>.ok (p.1,ds) J
def dW:D->ai (List D)
 |.lst ds=>some ds
 |.tup ds=>some ds
 |.ao kvs=>some (kvs.map (·.1.d))
 |.str z=>some (z.cps.toList.map λc=>.str (jB c))
 |_=>none
def yj:D->ai (List D)
 |.lst ds=>some ds.reverse
 |_=>none
noncomputable def eV(ds:List D):List D:=(List.range ds.length).map λi=>.tup [.int (i:Nat),(ds[i]?).getD .aI]
def Jj:D->ai (List D)
 |.lst ds=>some (eV ds)
 |_=>none
noncomputable def iV:Val->ai Int
 |.d (.int i)=>some i
 |_=>none
def Fq{v:Val}(h:iV v=some i):v=.d (.int i):=by
 cases v with
 |d x=>cases x <;> cases h;rfl
 |c n=>cases h
def kN:List Val->ai (List D)
 |[a]=>(iV a).bind λj=>if Nat.ble j.natAbs 1000000000000=true then some (fS 0 j.toNat) else none
 |_=>none
def yk:List Val->ai (List D)
 |[a,b,c]=>(iV a).bind λi=>(iV b).bind λj=>(iV c).bind λc=>if c=2/\(Nat.ble i.natAbs 1000000&&Nat.ble j.natAbs 1000000)=true then some (lU i 2 (gh i j)) else none
 |_=>none
def iR(o:List Val->ai (List D))(g:GA):lu:=λU S=>bd (g U S) λvs J=>(o vs).map λds=>.ok (0,ds) J
section
variable{X:Cx}{K:aP}{W:XW}{q:Nat}{g:GE}{Y:GA}{G:Bool}{Z:St}{H:Hp}{R:It->Hp->Prop}
def A0{o:D->ai (List D)}(t:tX (RI K q) K W q (bo G o g) Z H R):(∀Q:VK,tE K W q g Z H Q)\/∃d ds n,o d=some ds/\∀Q:VK,(∀k1 H1 x,aE k1.F H1->jl K k1 H1 n x d->(∀J,ie K k1 H1 n J ds->R J H1)->Q x H1)->tE K W q g Z H Q:=by
 refine kY λL=>?_
 obtain⟨k,U,S,I,ok,gk,e,w⟩:=t;refine L ?_;rcases zC e with⟨⟨n,d⟩,B,e1,e2⟩|⟨C,l,B,e1,rfl⟩
 .obtain⟨ds,T,rfl⟩:=c_.mp e2;exact .inr ⟨d,ds,max q n,T,λQ h=>NP ⟨k,U,S,_,ok,gk,e1,λx k1 H1 u V r=>h k1 H1 x V.le r λJ j=>w J k1 H1 u V j⟩⟩
 .exact .inl λQ=>NP ⟨k,U,S,_,ok,gk,e1,w⟩
def jl.now{x:V}{P:Hp->Prop}{n:Nat}(h:∀H',aE k.F H'->Kept n H H'->P H')(le:aE k.F H):P H:=h H le λ_ _ _ z=>z
def Cu(K:aP)(te:TE):TI:=λZ H R=>uQ K te Z H R\/Cy K te Z H R\/uO te Z H R\/Cw te Z H R
def Zw{tg l:Expr}{te:TE}(h:PE X l te):PI X tg l (Cu X.K te):=IX (V0 h) (IX (Y7 h) (IX (Wt h) (Zj h)))
def Zx(t:tX (RI K q) K W q (bo G dW g) Z H R):Cu K (tE K W q g) Z H R:=by
 rcases A0 t with h|⟨d,ds,n,e,h⟩
 .exact .inl (h _)
 .cases d with
  |lst _=>
   cases e;refine .inl (h _ λk1 H1 x le hd j=>?_)
   obtain⟨a,ws,rfl,V,J⟩:=hd;exact⟨a,rfl,⟨ws,jl.now (x:=.aI) J le⟩,j _ (Ww J V)⟩
  |tup _=>
   cases e;refine .inr (.inl (h _ λk1 H1 x le hd j=>?_))
   obtain⟨a,ws,rfl,V,J⟩:=hd;exact⟨a,rfl,⟨ws,jl.now (x:=.aI) J le⟩,j _ (Zs J V)⟩
  |ao kvs=>
   cases e;refine .inr (.inr (.inl (h _ λk1 H1 x le hd j=>?_)))
   obtain⟨a,es,ep,rfl,V,U,B,J⟩:=hd;exact⟨a,es,ep,rfl,jl.now (x:=.aI) J le,j _ (Wx J U)⟩
  |str z=>
   cases e;exact .inr (.inr (.inr (h _ λk1 H1 x le hd j=>⟨z,hd,j _ Zu⟩)))
  |_=>cases e
def Wz(t:tX (RI K q) K W q (bo G yj g) Z H R):Cv K (qZ (tE K W q g) tW) Z H R:=by
 rcases A0 t with h|⟨d,ds,n,e,h⟩
 .exact h _
 .cases d with
  |lst _=>
   cases e;refine h _ λk1 H1 x le hd j=>?_
   obtain⟨a,ws,rfl,V,J⟩:=hd;exact⟨a,ws,rfl,jl.now (x:=.aI) J le,j _ (Zt J V)⟩
  |_=>cases e
def Zy(t:tX (RI K q) K W q (bo G Jj g) Z H R):uP K (qZ (tE K W q g) tW) Z H R:=by
 rcases A0 t with h|⟨d,ds,n,e,h⟩
 .exact h _
 .cases d with
  |lst es=>
   cases e;refine h _ λk1 H1 x le hd j=>?_
   obtain⟨a,ws,rfl,J,V⟩:=hd;refine⟨a,ws,rfl,jl.now (x:=.aI) V le,j _ ?_⟩;unfold eV;rw[<-J.length];refine .CM V λi us hi hv=>?_
   obtain⟨x,U,rfl⟩:=hv;obtain⟨d,hd⟩:∃d,es[i]?=some d:=⟨es[i]'(by rw[<-J.length];exact hi),gu _⟩
   obtain⟨v,B,F⟩:=J.get hd;cases U.symm.trans B;rw[hd];exact .flat rfl F
  |_=>cases e
theorem rep1{xs:List V}(h:Paired (dc K k) xs [.d (.int j)]):xs=[.int j]:=by
 cases h with
 |cons r t=>cases t;rw[(show ag K k [_] [_] from r).aR rfl]
def rep2{xs:List V}(h:Paired (dc K k) xs [.d (.int i),.d (.int j)]):xs=[.int i,.int j]:=by
 cases h with
 |cons r t=>rw[(show ag K k [_] [_] from r).aR rfl,rep1 t]
def rep3{xs:List V}(h:Paired (dc K k) xs [.d (.int i),.d (.int j),.d (.int c)]):xs=[.int i,.int j,.int c]:=by
 cases h with
 |cons r t=>rw[(show ag K k [_] [_] from r).aR rfl,rep2 t]
def MD{o:List Val->ai (List D)}{Q:List V->Hp->Prop}(t:tX (RI K q) K W q (iR o Y) Z H R)(h:∀vs ds k1 H1 xs,o vs=some ds->(∀J,ie K k1 H1 (max q 0) J ds->R J H1)->Paired (dc K k1) xs vs->Q xs H1):g9 K W q Y Z H Q:=by
 obtain⟨k,U,S,L,ok,gk,e,w⟩:=t;rcases zC e with⟨vs,B,e1,e2⟩|⟨C,l,B,e1,rfl⟩
 .obtain⟨ds,T,rfl⟩:=c_.mp e2;exact⟨k,U,S,_,ok,gk,e1,λxs k1 H1 u F r=>h vs ds k1 H1 xs T (λJ j=>w J k1 H1 u F j) r⟩
 .exact⟨k,U,S,_,ok,gk,e1,w⟩
def WA(t:tX (RI K q) K W q (iR kN Y) Z H R):uR (g9 K W q Y) Z H R:=MD t λvs ds k1 H1 xs e j r=>by
 obtain _|⟨v,_|_⟩:=vs
 .cases e
 .obtain⟨i,e1,e2⟩:=cF.mp e;clear e;cases Fq e1;split at e2
  .rename_i h
   have h:=yB h
   grind [rep1,Zv]
  .cases e2
 .cases e
def WB(t:tX (RI K q) K W q (iR yk Y) Z H R):uS (g9 K W q Y) Z H R:=MD t λvs ds k1 H1 xs e j r=>by
 obtain _|⟨a,_|⟨b,_|⟨c,_|_⟩⟩⟩:=vs <;> try cases e
 .obtain⟨_,e1,V⟩:=cF.mp e;obtain⟨_,e2,U⟩:=cF.mp V;obtain⟨_,T,J⟩:=cF.mp U;clear e V U;cases Fq e1;cases Fq e2;cases Fq T;split at J
  .rename_i h
   obtain⟨rfl,h⟩:=h;obtain⟨B,F⟩:=vD.mp h;have B:=yB B;have F:=yB F;cases J;exact⟨_,_,rep3 r,⟨by lia,by lia,by lia,by lia⟩,j _ Wy⟩
  .cases J
end
noncomputable def aM(g:GG)(f:GS):List D->GS
 |[]=>λU S=>some (.nx U S)
 |d::ds=>λU S=>(g d U).bind λV=>(f V S).bind λr=>match r with
   |.nx Y J=>aM g f ds Y J
   |.ct Y J=>aM g f ds Y J
   |.bk Y J=>some (.nx Y J)
   |r=>some r
def bf(q:Nat)(src:lu)(g:GG)(f:Nat->GS):GS:=λU S=>jX U (src U S) λp J=>aM g (f (max q p.1)) p.2 U J
def Up.kept{k':Kn}(u:Up q k H k' H'):Kept q H H':=u.h
def Kept.refl:Kept q H H:=λ_ _ _ z=>z
def Kept.trans{Aw:Hp}(a:Kept q H H')(b:Kept q H' Aw):Kept q H Aw:=λx o z h=>b x o z (a x o z h)
theorem Kept.same(a:aE H H'):Kept q H H':=λx o _ h=>a x o h
section
variable{X:Cx}{K:aP}{W:XW}{q:Nat}{tg Q:Expr}{body:List Stmt}{V:TI}{t:TG}{gg:GG}{f:Nat->GS}{src:lu}{Y:Pos}
def Zz(hp:PassesOwn (mX X) X.A X.env X.xe)(hc:X.calm=true)(hi:PI X tg Q V)(pk:∀Z H R,tX (RI K q) K W q src Z H R->V Z H R)(hg:PG X tg t)(ht:jW K t gg)(hb:∀n,iM X body (tS K W n (f n)))(hs:∀x,foldedSetIterable Q X.env x=pure x):
  PS X (.For tg Q body [] Y) (tS K W q (bf q src gg f)):=by
 intro aa s Z H De I t;refine kY λkz=>?_
 obtain⟨k,U,S,d,ok,gk,e,w⟩:=t;refine kz ?_;rcases NO e with⟨⟨n,ds⟩,S1,e1,e⟩|⟨C,l,S1,e1,rfl⟩
 .
  refine OI hp hc hi hg (hb (max q n)) hs aa s Z H De I (pk _ _ _ ⟨k,U,S,_,ok,gk,e1,λJ k1 H1 u1 bM r1=>?_⟩)
  have w1:=(w.up u1).weak (Nat.le_max_left q n);have g1:=gk.up u1;clear w gk ok e1 u1;refine⟨λi m Z H=>m=ds.length - i/\i<=ds.length/\∃k U S,cv K k H S/\hV K k Z U/\k1.le k/\Kept (max q n) H1 H/\aM gg (f (max q n)) (ds.drop i) U S=some d/\Done K W (max q n) De k H d,⟨_,rfl,lq _,k1,U,S1,bM,g1,.refl,.refl,e,w1⟩,?_⟩
  rintro i m Z H ⟨rfl,hi,k,U,S,ok,gk,l,c,e,w⟩;rcases Nat.lt_or_ge i ds.length with h|h
  .rw[LC h] at e;refine .inr ⟨r1.go i k H l ok.le c h,λO H'=>∃k U S,cv K k H' S/\hV K k O U/\k1.le k/\Kept (max q n) H1 H'/\aM gg (f (max q n)) (ds.drop (i+1)) U S=some d/\Done K W (max q n) De k H' d,λO H' z=>⟨_,by lia,rfl,h,z⟩,λx H' y=>?_⟩
   refine kY λkz=>?_
   obtain⟨F',s1,s2,s3,s4,rp⟩:=r1.rB i k H x H' l ok.le c y _ (gu h);have u:Up (max q n) k H ⟨F',k.A,k.T⟩ H':=.of s1 s2;obtain⟨U1,e1,e2⟩:=cF.mp e;obtain⟨r,e3,L⟩:=cF.mp e2;have fZ:cv K ⟨F',k.A,k.T⟩ H' S:=ok.new s1 (λp _ o z=>s2 p o z) s3 λp m=>s4 p (ok.there p m)
   have b:k1.le ⟨F',k.A,k.T⟩:=⟨l.f.trans s1,l.a⟩;refine kz ?_;refine ht _ H' Z U U1 x ds[i] _ s3 (gk.up u) rp e1 λZ1 g1=>⟨_,U1,S,r,fZ,g1,e3,?_⟩
   have D:=w.up u;have c':Kept (max q n) H1 H':=c.trans (.same s2);cases r with
   |nx F B=>exact λO k2 H2 G cU g2=>⟨k2,F,B,cU,g2,⟨b.f.trans G.f,b.a.trans G.a⟩,c'.trans G.kept,L,D.up G⟩
   |ct F B=>exact λO k2 H2 G cU g2=>⟨k2,F,B,cU,g2,⟨b.f.trans G.f,b.a.trans G.a⟩,c'.trans G.kept,L,D.up G⟩
   |bk F B=>cases L;exact D
   |rt r B=>cases L;exact D
   |ex C l F B=>cases L;exact D
  .rw[Gk h] at e;cases e;exact .inl ⟨r1.stop i k H l ok.le c h,cg.now w ok gk⟩
 .exact OI hp hc hi hg (hb q) hs aa s Z H De I (pk _ _ _ ⟨k,U,S,_,ok,gk,e1,λdx k' H' u fZ r=>w dx Z k' H' u fZ (gk.up u) r⟩)
end
end L2
set_option autoImplicit false
namespace L2
open PySem PySem.Spec PyProof.Rows
variable{ds:List D}{U:Gm}{Z:St}
noncomputable def rP{α β:Type}(x:ai (Rs α))(f:α->aU->ai (Rs β)):ai (Rs β):=match x with
 |some (.ok a S)=>f a S
 |_=>none
def W0:XW:=λ_ _ _ _=>False
def bF(gg:GG)(tt:GT)(te:GE):List D->Gm->aU->List D->ai (Rs (List D))
 |[],_,S,aO=>some (.ok aO S)
 |d::ds,U,S,aO=>(gg d U).bind λJ=>rP (tt J S) λb Y=>if b=true then rP (gD te J Y) λx V=>if aO.length<1000000 then bF gg tt te ds J V (aO++[x]) else none else bF gg tt te ds J Y aO
noncomputable def sS(n:Nat)(dw:List Nat)(U:Gm):Gm:=List.replicate n none++dw.map λi=>(U[i]?).join
def cx(q:Nat)(src:lu)(gg:GG)(tt:Nat->GT)(te:Nat->GE)(n:Nat)(dw:List Nat):GE:=λU S=>bd (src U S) λp J=>bd (bF gg (tt (max q p.1)) (te (max q p.1)) p.2 (sS n dw U) J []) λds Y=>some (.ok (.o (.lst ds)) Y)
section
variable{X:Cx}{K:aP}{W:XW}{q:Nat}{tg Y G:Expr}{B:List Expr}{scope:Scope}{L:TI}{t:TG}{gg:GG}{tt:Nat->GT}{F:Nat->GE}{src:lu}{P:Pos}{M:List Str}{n:Nat}{dw:List Nat}
def ET{α β:Type}{x:ai (Rs α)}{f:α->aU->ai (Rs β)}{J:Rs β}(e:rP x f=some J):∃a S,x=some (.ok a S)/\f a S=some J:=by
 unfold rP at e;split at e
 .exact⟨_,_,rfl,e⟩
 .cases e
def Ut{tt:GT}{F:GE}{S:aU}{aO:List D}{J:Rs (List D)}(e:bF gg tt F ds U S aO=some J):∃l S',J=.ok l S':=by
 induction ds generalizing U S aO with
 |nil=>cases e;exact⟨_,_,rfl⟩
 |cons d ds V=>
  obtain⟨I,_,e⟩:=cF.mp e;obtain⟨b,T,_,e⟩:=ET e;cases b with
  |false=>exact V e
  |true=>
   obtain⟨x,R,_,e⟩:=ET (show rP _ _=some J from e);split at e
   .exact V e
   .cases e
def WC{k:Kn}(g:hV K k Z U):hV K k (j_ n dw Z) (sS n dw U):=by
 refine⟨by unfold j_ sS;rw[cZ,cZ,ba,ba,oX,oX],λi v e=>?_⟩
 unfold sS at e;unfold j_;by_cases hi:i<n
 .rw[nX (by rw[oX];exact hi),LA,bJ hi] at e;cases e
 .have hi:=Nat.le_of_not_lt hi;rw[oW (by rw[oX];exact hi),oX,fB] at e ⊢
  obtain⟨j,V,J⟩:=c_.mp e;obtain⟨x,T,S⟩:=g.at' j v (Mz J)
  simp_all
def ZA{J:It}{k1:Kn}{H1:Hp}{m:Nat}{out:List D}{j d:aU}{τ:St}{gt:GT}{a:GE}{gL:List V->Hp->Prop}(ht:jW K t gg)(r1:ie K k1 H1 m J ds)(bM:cv K k1 H1 j)(g1:hV K k1 τ U)(e:bF gg gt a ds U j []=some (.ok out d))
  (w:∀k H vs,Up m k1 H1 k H->cv K k H d->ag K k vs out->gL vs H):n6 J t (tT K W0 m gt) (tE K W0 m a) τ H1 gL:=by
 refine⟨ds.length,λi τ vs H=>i<=ds.length/\∃k U S aO,cv K k H S/\hV K k τ U/\ag K k vs aO/\Up m k1 H1 k H/\bF gg gt a (ds.drop i) U S aO=some (.ok out d),⟨lq _,k1,U,j,[],bM,g1,.nil,.refl,e⟩,?_⟩
 rintro i τ vs H hi ⟨_,k,U,S,aO,ok,gk,rv,u,e⟩;rcases Nat.lt_or_ge i ds.length with h|h
 .rw[LC h] at e;refine .inr ⟨h,r1.go i k H u.le ok.le u.kept h,λx H' y=>?_⟩
  refine kY λkz=>?_
  obtain⟨F',s1,s2,s3,s4,rp⟩:=r1.rB i k H x H' u.le ok.le u.kept y _ (gu h);have O:Up m k H ⟨F',k.A,k.T⟩ H':=.of s1 s2;have fZ:cv K ⟨F',k.A,k.T⟩ H' S:=ok.new s1 (λp _ o z=>s2 p o z) s3 λp m=>s4 p (ok.there p m)
  obtain⟨I,e1,e2⟩:=cF.mp e;refine kz ?_;refine ht _ H' τ U I x ds[i] _ s3 (gk.up O) rp e1 λτ1 g1=>?_
  obtain⟨b,S3,e3,e4⟩:=ET e2;refine⟨_,I,S,_,fZ,g1,e3,λb' k3 H3 R jE r3=>?_⟩
  cases r3;have u4:=(u.trans O).trans R;cases b with
  |false=>exact qK ⟨h,k3,I,S3,aO,jE,g1.up R,rv.mono (O.trans R).le,u4,e4⟩
  |true=>
   obtain⟨y,S4,e5,l⟩:=ET (show rP _ _=some _ from e4);refine qL (Ld ⟨_,I,S3,_,jE,g1.up R,e5,λv k5 H5 u5 lO r5=>?_⟩)
   split at l
   .rename_i hl
    refine⟨gq (by rw[rv.length];exact hl) (by decide),h,k5,I,S4,aO++[y],lO,(g1.up R).up u5,(rv.mono ((O.trans R).trans u5).le).append r5,u4.trans u5,l⟩
   .cases l
 .rw[Gk h] at e;cases e;exact .inl ⟨r1.stop i k H u.le ok.le u.kept h,w k H vs u ok rv⟩
def NQ{H:Hp}{Q:VK}(ht:jW K t gg)(h:tE K W q (cx q src gg tt F n dw) Z H Q):∃m,tX (RI K q) K W q src Z H λJ H1=>n6 J t (tT K W0 m (tt m)) (tE K W0 m (F m)) (j_ n dw Z) H1 λaO H'=>∀l,H' l=none->Q (.ref l) (upd H' l (.lst aO)):=by
 refine kY λy=>?_
 obtain⟨k,U,S,d,ok,gk,e,w⟩:=h;refine y ?_;rcases zC e with⟨⟨m,ds⟩,D,e1,e2⟩|⟨C,l,D,e1,rfl⟩
 .refine⟨max q m,k,U,S,_,ok,gk,e1,λJ k1 H1 R O p=>?_⟩
  rcases zC e2 with⟨out,I,V,j⟩|⟨C,l,I,V,rfl⟩
  .cases j;refine ZA ht p O (WC (gk.up R)) V λk2 a vs b T rv l hl=>?_
   exact kF.lst (.fin T ((w.up R).up (b.weak (Nat.le_max_left q m)))) T.le rv hl
  .obtain⟨_,_,z⟩:=Ut V;cases z
 .exact⟨0,k,U,S,_,ok,gk,e1,w⟩
def WD(hc:X.calm=true)(ok:eL X scope M n dw)(hi:PI X tg Y L)(D:∀Z H R,tX (RI K q) K W q src Z H R->L Z H R)(ht:jW K t gg)
  (T:∀C s H fp,PG (fR X scope M C s H fp) tg t) (V:∀m C s H fp,pX (fR X scope M C s H fp) B (tT K W0 m (tt m))) (J:∀m C s H fp,PE (fR X scope M C s H fp) G (tE K W0 m (F m)))
  (S:∀x,foldedSetIterable Y X.env x=pure x):PE X (.ListComp G [⟨tg,Y,B,0⟩] scope P) (tE K W q (cx q src gg tt F n dw)):=λaa s Z H Q I h=>by
 obtain⟨m,h⟩:=NQ ht h;exact Wg hc ok hi T (V m) (J m) S aa s Z H Q I (D _ _ _ h)
def WE{mu:Bool}{i:Nat}{x:Str}{V J:Pos}(hc:X.calm=true)(ok:eL X scope M n dw)(hN:X.N.Nodup)(p:X.N[i]?=some x)(y:Loc X.env.scope x)(hi:PI X tg Y L)(z:∀Z H R,tX (RI K q) K W q src Z H R->L Z H R)(ht:jW K t gg)
  (O:∀C s H fp,PG (fR X scope M C s H fp) tg t) (S:∀m C s H fp,pX (fR X scope M C s H fp) B (tT K W0 m (tt m))) (T:∀m C s H fp,PE (fR X scope M C s H fp) G (tE K W0 m (F m)))
  (Cp:swapsWith (.ListComp G [⟨tg,Y,B,0⟩] scope P) (some (.Name x V)) J.line X.env=pure true) (j:∀x,foldedSetIterable Y X.env x=pure x) (hf:X.fn x=true\/X.env.scope.names.lookup x=some .local) :
  PS X (.Assign [.Name x V] (.ListComp G [⟨tg,Y,B,0⟩] scope P) J) (tS K W q (aq i mu (cx q src gg tt F n dw))):=λaa s Z H D I h=>by
 obtain⟨m,h⟩:=NQ ht (OO h);exact Wh hc ok hN p y hi O (S m) (T m) Cp j hf aa s Z H D I (z _ _ _ h)
end
end L2
namespace L2
open PySem PySem.Spec PySem.W PySem.Calls PyProof.Rows
variable{Q:List ExceptHandler}
def mU(C:aj)(Y:GE):GS:=λU S=>jX U (Y U S) λ_ J=>some (.ex C none U J)
section
variable{X:Cx}{K:fP}{W:XW}{q:Nat}{C B0:aj}{x:Str}{p J Q:Pos}{e:Expr}{Y:GE}
def Uu(G:ic K C (.ref B0::qh) none)(G0:ic K B0 qh none)(z:keepIn K (.ref C)=true)(hm:X.mg x=some (.ref C))(hp:fJ X W)(O:PE X e (tE K W q Y))(hc:X.calm=true)(j:Gl X x)(b:(x == ("__debug__":Str))=false)
  (F:starEach [e] X.env=(false,eval e X.env)::starEach [] X.env) (L:X.K=K):PS X (.Raise (some (.Call (.Name x p) [e] [] J)) none Q) (tS K W q (mU C Y)):=by
 subst L;intro aa s Z H D I t;have a:tE X.K W q Y Z H λ_ H1=>W C none Z H1:=by
  refine kY λB=>?_
  obtain⟨k,U,S,fr,ok,gk,e,w⟩:=t;refine B ?_;refine tS.bd ok gk e w λr S1 v k1 H1 T g1 r1 e1 w1=>?_
  cases e1;exact w1 none Z k1 H1 .refl T g1 rfl
 refine kY λB=>?_
 obtain⟨nm,n,N,bs,sn,sub,ab,col,dd,k0,k1,k2,k3,k5,on,z7,es,ep,z9,g1,g2,g3,g4⟩:=id G;refine B ?_;rw[arm_exec_Raise];show wpAny _ _ (do standAt Q;raiseStmt X.env (some (do let v <-eval (.Call (.Name x p) [e] [] J) X.env;standAt Q;pure v)) none) _ _ _
 refine aK (wpAny_standAt (wpAny_raiseStmt_made_sub (C:=C) (nm:=nm) (q:=n) (N:=N) (bs:=bs) (bm:=.ref B0::qh) (hdct:=true) (sn:=sn) (sub:=sub) (ab:=ab) (col:=col) (dd:=dd) (k0:=k0) (k1:=k1) (k2:=k2) (k3:=k3) (k5:=k5) (newId:="ValueError.__new__") rfl (I.ok.hd hc) (aK (bO ?_ λv s3 R=>aK (wpAny_standAt (bw R))))))
 refine wpAny_Call_Name_kw (zp I j hm ?_ b);have d:(backTo J (starEach [] X.env)).any (·.1)=false:=rfl
 refine PySem.W.callWith_K (h₀:=X.base) I.ok.mod.zX z (bO ((EN O lQ F) J aa s Z H (λvs H1=>vs.length=1/\W C none Z H1) I (nB a λ_ H1 h=>⟨rfl,h⟩)) λus s1 y=>?_) F d
 refine kY λB=>?_
 obtain⟨vs,H1,V,r,hl,m⟩:=y;refine B ?_;refine⟨V.jN,?_⟩;obtain⟨u,rfl⟩:∃u,us=[u]:=by
  have l:=r.length;rw[hl] at l;cases us with
  |nil=>cases l
  |cons u us=>cases us with
   |nil=>exact⟨u,rfl⟩
   |cons _ _=>cases l
 refine Um G G0 V λh' t kp g=>⟨_,t,rfl,kp _ _ (V.jN _ _ g1),g,?_⟩
 exact hp aa Z H1 s1 H1 _ _ C none V ⟨rfl,V.bare,Un.kept kp,V.bN.kept kp,ug _,V.bN.fresh (ug _),_,_,g,rfl,rfl,rfl,by show 1<6;decide,.inl rfl⟩ m
end
abbrev GH:=(aj->ai Bool)×GS
variable{Y:List GH}
noncomputable def CO:Fr->ai Fr
 |.ex _ _ _ _=>none
 |r=>some r
def t6:List GH->aj->GS
 |[],_=>λ_ _=>none
 |h::Q,C=>λU S=>(h.1 C).bind λb=>if b=true then(h.2 U S).bind CO else t6 Q C U S
def qx(f:GS)(Q:List GH):GS:=λU S=>(f U S).bind λr=>match r with
 |.ex C _ V J=>t6 Q C V J
 |r=>some r
section
variable{X:Cx}{K:fP}{W:XW}{q:Nat}
theorem SP.fm{aa:List (aj×Obj)}{D:Ends}{f:Flow}{s':aB}{e:ak}(h:SP (X.dH e) aa D f s')(hd:X.calm=true->X.A.handled=none):SP X aa D f s':=by
 cases f with
 |next=>obtain⟨J,H',I,q⟩:=h;exact⟨J,H',I.fm hd,q⟩
 |brk=>obtain⟨J,H',I,q⟩:=h;exact⟨J,H',I.fm hd,q⟩
 |cont=>obtain⟨J,H',I,q⟩:=h;exact⟨J,H',I.fm hd,q⟩
 |ret u=>obtain⟨v,J,H',I,r,q⟩:=h;exact⟨v,J,H',I.fm hd,r,q⟩
def Done.CO{D:Ends}{k:Kn}{H:Hp}{r J:Fr}(w:Done K W q D k H J)(e:L2.CO r=some J):Done K W0 q D k H r:=by
 cases r with
 |ex _ _ _ _=>cases e
 |_=>cases e;exact w
def HB(X:Cx)(K:fP)(W:XW)(q:Nat)(Q:List ExceptHandler)(Y:List GH):Prop:=∀(aa:List (aj×Obj)) (Z:St) (H:Hp) (s:aB) (D:Ends) (e C:aj) (dx:ai aj) (k:Kn) (U:Gm) (S:aU) (J:Fr) (n:Nat),Inv X aa Z H s->AE X aa n->iL n s.heap H e C dx->cv K k H S->hV K k Z U->t6 Y C U S=some J->Done K W q D k H J->
 wpAny (mX X) X.A (handleBy (.ref e) X.env Q) (SP X aa D) X.xe s
def qz:HB X K W q [] []:=λ_ _ _ _ _ _ _ _ _ _ _ _ _ _ _ _ _ _ e _=>nomatch e
def NR{x:Str}{np hp:Pos}{G:Stmt}{T:List Stmt}{L:aj->ai Bool}{g:GS}{Cc:aj}(hm:X.mg x=some (.ref Cc))(hw:∀C b,L C=some b->exmOne K (.ref C) (.ref Cc)=some b)(hS:∀e,iM (X.dH e) (G::T) (tS K W0 q g))(V:HB X K W q Q Y)(m:Gl X x)(l:(x == ("__debug__":Str))=false)(p:X.K=K):
  HB X K W q (.ExceptHandler (some (.Name x np)) none (G::T) hp::Q) ((L,g)::Y):=by
 subst p;intro aa Z H s D e C dx k U S F n I y f ok gk J w;obtain⟨B,R,J⟩:=cF.mp J;dsimp only at R J;refine wpAny_handleBy_cons (codeAny_handlers_test (zp (I.dH (e:=.ref e)) m hm ?_ l)) (by intro q;cases q)
 refine kY λa=>?_
 obtain⟨fV,rW,oe,vs,d,hc,hr⟩:=id f;have LT:Looks (mX X) s.heap (typeOf (.ref e)) (.ref C):=by
  rw[<-hc];exact(Looks.ld d).andThen .now
 refine a ?_;refine(exm_one I.jN LT (hw C B R)).here ?_;cases B with
 |true=>
  obtain⟨r,e2,j⟩:=cF.mp (show(g U S).bind L2.CO=some F from J);refine codeAny_handlers_suite (Uo (X:=X) f λh' ch t lx f2=>?_)
  have O:Inv X aa Z H { s with heap:=h',toks:=s.toks}:=I.left y lx t;refine wpAny_mono (hS (.ref e) aa _ Z H D O.dH ⟨k,U,S,r,ok,gk,e2,w.CO j⟩) (λfl s2 q=>?_) λ_ _ z=>z.elim
  exact q.fm I.ok.hd
 |false=>exact V aa Z H s D e C dx k U S F n I y f ok gk J w
theorem SP.eS{aa:List (aj×Obj)}{E:ak->aB->Prop}{D:Ends}{f:Flow}{s':aB}(h:SP (X.eJ (X.pn++aa) E) [] D f s'):SP X aa D f s':=by
 cases f with
 |next=>obtain⟨J,H',I,q⟩:=h;exact⟨J,H',I.eS,q⟩
 |brk=>obtain⟨J,H',I,q⟩:=h;exact⟨J,H',I.eS,q⟩
 |cont=>obtain⟨J,H',I,q⟩:=h;exact⟨J,H',I.eS,q⟩
 |ret u=>obtain⟨v,J,H',I,r,q⟩:=h;exact⟨v,J,H',I.eS,r,q⟩
def qm{body:List Stmt}{h0:ExceptHandler}{f:GS}{y:Pos}(hb:∀pn E W,fJ (X.eJ pn E) W->iM (X.eJ pn E) body (tS K W q f))(hh:HB X K W q (h0::Q) Y)(O:X.stack=X.env::X.outer)(hf:X.env.frame=some X.env.locals):
  PS X (.Try body (h0::Q) [] [] y) (tS K W q (qx f Y)):=by
 intro aa s Z H D I t;refine kY λj=>?_
 obtain⟨k,U,S,F,ok,gk,e,w⟩:=t;obtain⟨b,e1,e⟩:=cF.mp e;refine j ?_;refine wpAny_Try_except ?_;have hp:fJ (X.eJ (X.pn++aa) λe s₁=>wpAny (mX X) X.A (noteFrame e X.env) (λ_ s₂=>wpAny (mX X) X.A (setFlight e none) (λ_ s₃=>wpAny (mX X) X.A (handleBy e X.env (h0::Q)) (SP X aa D) X.xe s₃) X.xe s₂) X.xe s₁)
   (λC dx V H'=>∃k' B G F,cv K k' H' G/\hV K k' V B/\t6 Y C B G=some F/\Done K W q D k' H' F):=by
  intro mI V H1 s1 H' s' e C dx p c q;refine kY λj=>?_
  obtain⟨k',U2,S2,R,cU,L,e2,w2⟩:=q;have T:Inv X aa V H' s':=(c.inv p).eS;have J:Inv X aa V H1 s1:=p.eS;refine j ?_;refine ON (base:=X.base) (n:=s1.heap.objs.size) (by rw[<-O];exact I.ok.frames) (by rw[<-O];exact T.stack) hf c.Fz.lt (λa z=>T.bN.fresh z) c.Fz λh' ch kB d fl=>?_
  rw[<-O] at d;have m:Inv X aa V H' { s' with heap:=h',toks:=s'.toks}:=T.left J.QU d kB;exact hh aa V H' _ D e C dx k' U2 S2 R _ m J.QU fl cU L e2 w2
 refine wpAny_mono (hb _ _ _ hp [] s Z H D I.eJ ⟨k,U,S,b,ok,gk,e1,?_⟩) (λff s1 z=>?_) λe s1 z=>z
 .cases b with
  |ex C l B G=>exact λdx V k' H' u fZ g' el=>⟨k',B,G,F,fZ,g',e,w.up u⟩
  |_=>cases e;exact w
 .have z:=z.eS;cases ff with
  |next=>
   obtain⟨V,H',J,r⟩:=z;exact oI aa s1 V H' D J r
  |brk=>exact z
  |cont=>exact z
  |ret u=>exact z
end
end L2
namespace L2
open PySem PySem.Spec PyProof.Rows
variable{K:aP}{es:List D}{j n:Nat}
abbrev bK(K:aP)(H:Hp):List V->List D->Prop:=ag K ⟨H,[],[]⟩
def ag.Gf{H H1:Hp}{vs:List V}{ds:List D}(h:ag K ⟨H,[],[]⟩ vs ds)(s:aE H H1):ag K ⟨H1,[],[]⟩ vs ds:=ag.mono (k:=⟨H,[],[]⟩) ⟨s,kQ ([]:List aj)⟩ h
section
variable{X:Cx}
mutual
def dP:D->D->Bool
 |.lst xs,.lst ys=>ir xs ys
 |.tup xs,.tup ys=>ir xs ys
 |.aI,.aI=>true
 |.bl a,.bl b=>a == b
 |.bl a,.int b=>(if a then 1 else 0) == b
 |.int a,.bl b=>a == (if b then 1 else 0)
 |.int a,.int b=>a == b
 |.str a,.str b=>a == b
 |_,_=>false
def ir:List D->List D->Bool
 |[],[]=>true
 |x::xs,y::ys=>dP x y&&ir xs ys
 |_,_=>false
end
noncomputable def fj:Nat->D->Bool
 |n+1,.lst xs=>xs.all (fj n)
 |n+1,.tup xs=>xs.all (fj n)
 |_,.aI=>true
 |_,.bl _=>true
 |_,.int _=>true
 |_,.str _=>true
 |_,_=>false
theorem HM:∀{xs ys:List D},xs.length≠ys.length->ir xs ys=false
 |[],[],h=>cQ rfl h
 |[],_::_,_=>rfl
 |_::_,[],_=>rfl
 |x::xs,y::ys,h=>by show(dP x y&&ir xs ys)=false;rw[HM (by simpa using h),Bool.and_false]
theorem HN:∀{xs ys:List D} (n:Nat),xs.length=n->ys.length=n->ir xs ys=(List.range n).all λj=>dP (xs.getD j .aI) (ys.getD j .aI)
 |[],[],0,_,_=>rfl
 |x::xs,y::ys,n+1,h1,h2=>by
  show(dP x y&&ir xs ys)=_;rw[HN n (by simpa using h1) (by simpa using h2),List.range_succ_eq_map,rn,DH]
  rfl
 |[],_,_+1,h,_=>by simp at h
 |_::_,[],_+1,_,h=>by simp at h
 |_::_,_,0,h,_=>by simp at h
 |[],_::_,0,_,h=>by simp at h
variable{aa:List (aj×Obj)}{Z:St}{H:Hp}{s:aB}
def E'{F:Hp}{ws:List V}(r:bK K F ws es){aL:List ak}(rv:Vals ws aL)(h:j<aL.toArray.size):∃x,RelV x aL.toArray[j]/\bK K F [x] [es.getD j .aI]/\j<es.length:=by
 obtain⟨x,U,G⟩:=rv.at h;have hl:=r.length;have J:j<es.length:=by
  grind
 obtain⟨y,Y,W⟩:=r.get (i:=j) (d:=es[j]) (by simp[J])
 rw[U] at Y;cases Y;refine⟨x,G,?_,J⟩;rw[show es.getD j .aI=es[j] by simp[J]]
 exact W
def Ey{p:D->Bool}(h:es.all p=true)(J:j<es.length):p (es.getD j .aI)=true:=by
 simp_all
inductive vR (K:aP) (H:Hp) (s:aB):ak->D->Prop
 |none:vR K H s .none .aI
 |bool (b:Bool):vR K H s (.bool b) (.bl b)
 |int (i:Int) (t:Tok):vR K H s (.int i t) (.int i)
 |str (x:Str) (t:Tok):vR K H s (.str x t) (.str x)
 |list {a:aj} {aL:List ak} {ws:List V} {es:List D}:s.heap.IsList a aL.toArray->Vals ws aL->bK K H ws es->vR K H s (.ref a) (.lst es)
 |tuple {a:aj} {aL:List ak} {ws:List V} {es:List D}:s.heap.IsTuple a aL.toArray->Vals ws aL->bK K H ws es->vR K H s (.ref a) (.tup es)
def OQ(I:Inv X aa Z H s){x:V}{u:ak}{d:D}(r:bK X.K H [x] [d])(J:RelV x u)(ok:fj n d=true):vR X.K H s u d:=by
 cases r.one with
 |lst q i=>
  cases J;obtain⟨aL,rv,pl,_⟩:=I.list q;exact .list pl.isList rv i
 |tup q i=>
  cases J;obtain⟨aL,rv,pl,_⟩:=I.tuple q;exact .tuple pl rv i
 |ao _ _ _ _=>cases n <;> cases ok
 |ref _=>cases n <;> cases ok
 |flat q=>
  cases d with
  |aI=>cases q;cases J;exact .none
  |bl b=>cases q;cases J;exact .bool b
  |int i=>cases q;obtain⟨t,rfl⟩:=J;exact .int i t
  |str z=>cases q;obtain⟨t,rfl⟩:=J;exact .str z t
  |ty _=>cases n <;> cases ok
  |lst _=>cases q
  |tup _=>cases q
  |ao _=>cases q
  |ref _=>cases q
def Bf(h:fj n (.lst es)=true):∃m,n=m+1/\es.all (fj m)=true:=by
 cases n with
 |zero=>cases h
 |succ n=>exact⟨n,rfl,h⟩
def Bi(h:fj n (.tup es)=true):∃m,n=m+1/\es.all (fj m)=true:=by
 cases n with
 |zero=>cases h
 |succ n=>exact⟨n,rfl,h⟩
def ME(h:∀d∈es,dP d d=true):ir es es=true:=by
 induction es with
 |nil=>rfl
 |cons d es J=>show(dP d d&&ir es es)=true;rw[h d (by simp),J λd m=>h d (by simp[m])];rfl
theorem HP:∀(n:Nat) {d:D},fj n d=true->dP d d=true:=by
 intro n
 induction n with
 |zero=>intro d h;cases d <;> first|(cases h;done)|exact rfl|exact rq _
 |succ n J=>
  intro d h;cases d with
  |lst es=>exact ME λd m=>J (jS.mp h d m)
  |tup es=>exact ME λd m=>J (jS.mp h d m)
  |ao _=>cases h
  |ref _=>cases h
  |ty _=>cases h
  |_=>first|exact rfl|exact rq _
def Rk{xs ys:List D}(hl:xs.length=ys.length)(h:∀j,j<xs.length->xs.getD j .aI=ys.getD j .aI):xs=ys:=by
 apply List.ext_getElem hl;intro j J Y;have:=h j J;simpa[J,Y] using this
noncomputable def Lg:V->D
 |.bl b=>.bl b
 |.int i=>.int i
 |.str x=>.str x
 |.ty n=>.ty n
 |_=>.aI
def MF{d:D}{v:V}(h:sL d=some v):d=Lg v:=by cases d <;> cases h <;> rfl
def ze{d:D}{a:aj}(h:sL d=some (.ref a)):False:=by cases d <;> cases h
theorem b2i(I:Inv X aa Z H s):∀(n m:Nat) {x:V} {d e:D},bK X.K H [x] [d]->bK X.K H [x] [e]->fj n d=true->fj m e=true->d=e:=by
 intro n
 induction n using Nat.strongRecOn with
 |ind n t=>
 intro m x d e rd L od G;have go:∀{ws:List V} {es Y:List D} {U F:Nat},U<n->bK X.K H ws es->bK X.K H ws Y->es.all (fj U)=true->Y.all (fj F)=true->es=Y:=by
  intro ws es Y U F b z p o1 o2;have l1:=z.length;have l2:=p.length;refine Rk (by lia) λj R=>?_
  have S:j<Y.length:=by lia
  obtain⟨v,g1,g2⟩:=z.get (i:=j) (d:=es[j]) (by simp[R])
  obtain⟨l,W,T⟩:=p.get (i:=j) (d:=Y[j]) (by simp[S])
  rw[g1] at W;cases W;rw[show es.getD j .aI=es[j] by simp[R],show Y.getD j .aI=Y[j] by simp[S]]
  exact t U b F g2 T (jS.mp o1 _ (Aj R)) (jS.mp o2 _ (Aj S))
 cases rd.one with
 |flat q=>
  cases L.one with
  |flat J=>
   rw[MF q,MF J]
  |lst _ _=>exact(ze q).elim
  |tup _ _=>exact(ze q).elim
  |ao _ _ _ _=>exact(ze q).elim
  |ref _=>exact(ze q).elim
 |lst q i=>
  obtain⟨U,rfl,O⟩:=Bf od;cases L.one with
  |flat J=>exact(ze J).elim
  |lst J B=>
   obtain⟨F,rfl,y⟩:=Bf G;cases I.kq q J;rw[go (uf _) i B O y]
  |tup J B=>
   obtain⟨_,_,W,_⟩:=I.list q;obtain⟨_,_,T,_⟩:=I.tuple J;exact cQ rfl (SeqAt.ne_of_list_tuple W.isList T)
  |ao _ _ _ _=>cases m <;> cases G
  |ref _=>cases m <;> cases G
 |tup q i=>
  obtain⟨U,rfl,O⟩:=Bi od;cases L.one with
  |flat J=>exact(ze J).elim
  |tup J B=>
   obtain⟨F,rfl,y⟩:=Bi G;cases I.lj q J;rw[go (uf _) i B O y]
  |lst J B=>
   obtain⟨_,_,W,_⟩:=I.list J;obtain⟨_,_,T,_⟩:=I.tuple q;exact cQ rfl (SeqAt.ne_of_list_tuple W.isList T)
  |ao _ _ _ _=>cases m <;> cases G
  |ref _=>cases m <;> cases G
 |ao _ _ _ _=>cases n <;> cases od
 |ref _=>cases n <;> cases od
def Iy(I:Inv X aa Z H s):∀(n m:Nat) {A:cW} {x y:V} {u v:ak} {d e:D},bK X.K H [x] [d]->bK X.K H [y] [e]->fj n d=true->fj m e=true->RelV x u->RelV y v->A.units+n<cLine->
  SeqAt.EqAt A s u v (dP d e)/\SeqAt.RcAt A s u v (dP d e):=by
 intro n
 induction n using Nat.strongRecOn with
 |ind n ih=>
 intro m A x y u v d e rd re od l ru rv hu;have J:A.units<cLine:=by lia
 have s1:=OQ I rd ru od;have s2:=OQ I re rv l;cases s1 with
 |none=>
  cases s2 with
  |none=>
   exact⟨SeqAt.EqAt.same _,SeqAt.RcAt.none_none⟩
  |bool a2=>
   exact⟨SeqAt.EqAt.none_bool a2,SeqAt.RcAt.none_bool a2⟩
  |int a2 Y=>
   exact⟨SeqAt.EqAt.none_int a2 Y,SeqAt.RcAt.none_int a2 Y⟩
  |str a2 Y=>
   exact⟨SeqAt.EqAt.none_str a2 Y,SeqAt.RcAt.none_str a2 Y⟩
  |list l2 W G=>
   exact⟨SeqAt.EqAt.none_list l2 J,SeqAt.RcAt.none_list l2 J⟩
  |tuple l2 W G=>
   exact⟨SeqAt.EqAt.none_tuple l2 J,SeqAt.RcAt.none_tuple l2 J⟩
 |bool a1=>
  cases s2 with
  |none=>
   exact⟨SeqAt.EqAt.bool_none a1,SeqAt.RcAt.bool_none a1⟩
  |bool a2=>
   exact⟨SeqAt.EqAt.bool_bool a1 a2,SeqAt.RcAt.bool_bool a1 a2⟩
  |int a2 Y=>
   exact⟨SeqAt.EqAt.bool_int a1 a2 Y,SeqAt.RcAt.bool_int a1 a2 Y⟩
  |str a2 Y=>
   exact⟨SeqAt.EqAt.bool_str a1 a2 Y,SeqAt.RcAt.bool_str a1 a2 Y⟩
  |list l2 W G=>
   exact⟨SeqAt.EqAt.bool_list a1 l2 J,SeqAt.RcAt.bool_list a1 l2 J⟩
  |tuple l2 W G=>
   exact⟨SeqAt.EqAt.bool_tuple a1 l2 J,SeqAt.RcAt.bool_tuple a1 l2 J⟩
 |int a1 U=>
  cases s2 with
  |none=>
   exact⟨SeqAt.EqAt.int_none a1 U,SeqAt.RcAt.int_none a1 U⟩
  |bool a2=>
   exact⟨SeqAt.EqAt.int_bool a1 U a2,SeqAt.RcAt.int_bool a1 U a2⟩
  |int a2 Y=>
   exact⟨SeqAt.EqAt.int_int a1 U a2 Y,SeqAt.RcAt.int_int a1 U a2 Y⟩
  |str a2 Y=>
   exact⟨SeqAt.EqAt.int_str a1 U a2 Y,SeqAt.RcAt.int_str a1 U a2 Y⟩
  |list l2 W G=>
   exact⟨SeqAt.EqAt.int_list a1 U l2 J,SeqAt.RcAt.int_list a1 U l2 J⟩
  |tuple l2 W G=>
   exact⟨SeqAt.EqAt.int_tuple a1 U l2 J,SeqAt.RcAt.int_tuple a1 U l2 J⟩
 |str a1 U=>
  cases s2 with
  |none=>
   exact⟨SeqAt.EqAt.str_none a1 U,SeqAt.RcAt.str_none a1 U⟩
  |bool a2=>
   exact⟨SeqAt.EqAt.str_bool a1 U a2,SeqAt.RcAt.str_bool a1 U a2⟩
  |int a2 Y=>
   exact⟨SeqAt.EqAt.str_int a1 U a2 Y,SeqAt.RcAt.str_int a1 U a2 Y⟩
  |str a2 Y=>
   exact⟨SeqAt.EqAt.str_str a1 U a2 Y,SeqAt.RcAt.str_str a1 U a2 Y⟩
  |list l2 W G=>
   exact⟨SeqAt.EqAt.str_list a1 U l2 J,SeqAt.RcAt.str_list a1 U l2 J⟩
  |tuple l2 W G=>
   exact⟨SeqAt.EqAt.str_tuple a1 U l2 J,SeqAt.RcAt.str_tuple a1 U l2 J⟩
 |@list a aL ws es l1 S T=>
  cases s2 with
  |none=>
   exact⟨SeqAt.EqAt.list_none l1 J,SeqAt.RcAt.list_none l1 J⟩
  |bool a2=>
   exact⟨SeqAt.EqAt.list_bool a2 l1 J,SeqAt.RcAt.list_bool a2 l1 J⟩
  |int a2 Y=>
   exact⟨SeqAt.EqAt.list_int a2 Y l1 J,SeqAt.RcAt.list_int a2 Y l1 J⟩
  |str a2 Y=>
   exact⟨SeqAt.EqAt.list_str a2 Y l1 J,SeqAt.RcAt.list_str a2 Y l1 J⟩
  |@list b O Lp B l2 W G=>
   obtain⟨F,rfl,xV⟩:=Bf od;obtain⟨t,rfl,xW⟩:=Bf l;have la:=S.length;have lb:=W.length;have q:=T.length;have p:=G.length;have rc:SeqAt.RcAt A s (.ref a) (.ref b) (dP (.lst es) (.lst B)):=by
    show SeqAt.RcAt A s _ _ (ir es B);by_cases hl:es.length=B.length
    .rw[HN aL.toArray.size (by simp only[fO];lia) (by simp only[fO];lia)]
     refine SeqAt.RcAt.lists (A:=A) l1 l2 (by simp only[fO];lia) J λj R L=>?_
     obtain⟨x1,q1,q2,q3⟩:=E' T S R;obtain⟨y1,p1,p2,p3⟩:=E' G W L;exact(ih F (uf _) t q2 p2 (Ey xV q3) (Ey xW p3) q1 p1 (by show A.units+1+F<cLine;lia)).1
    grind [HM,PySem.SeqAt.RcAt.lists_lengths]
   grind [RelV.inj,b2i,HP,PySem.SeqAt.EqAt.same,PySem.SeqAt.EqAt.of_refs]
  |tuple l2 W G=>
   exact⟨SeqAt.EqAt.list_tuple l1 l2 J,SeqAt.RcAt.list_tuple l1 l2 J⟩
 |@tuple a aL ws es l1 S T=>
  cases s2 with
  |none=>
   exact⟨SeqAt.EqAt.tuple_none l1 J,SeqAt.RcAt.tuple_none l1 J⟩
  |bool a2=>
   exact⟨SeqAt.EqAt.tuple_bool a2 l1 J,SeqAt.RcAt.tuple_bool a2 l1 J⟩
  |int a2 Y=>
   exact⟨SeqAt.EqAt.tuple_int a2 Y l1 J,SeqAt.RcAt.tuple_int a2 Y l1 J⟩
  |str a2 Y=>
   exact⟨SeqAt.EqAt.tuple_str a2 Y l1 J,SeqAt.RcAt.tuple_str a2 Y l1 J⟩
  |list l2 W G=>
   exact⟨SeqAt.EqAt.tuple_list l1 l2 J,SeqAt.RcAt.tuple_list l1 l2 J⟩
  |@tuple b O Lp B l2 W G=>
   obtain⟨F,rfl,xV⟩:=Bi od;obtain⟨t,rfl,xW⟩:=Bi l;have la:=S.length;have lb:=W.length;have q:=T.length;have p:=G.length;have rc:SeqAt.RcAt A s (.ref a) (.ref b) (dP (.tup es) (.tup B)):=by
    have z:=SeqAt.RcAt.tuples (A:=A) (e:=λj=>dP (es.getD j .aI) (B.getD j .aI)) l1 l2 J λj R L=>by
     obtain⟨x1,q1,q2,q3⟩:=E' T S R;obtain⟨y1,p1,p2,p3⟩:=E' G W L;exact(ih F (uf _) t q2 p2 (Ey xV q3) (Ey xW p3) q1 p1 (by show A.units+1+F<cLine;lia)).1
    show SeqAt.RcAt A s _ _ (ir es B);by_cases hl:es.length=B.length
    .rw[HN aL.toArray.size (by simp only[fO];lia) (by simp only[fO];lia)]
     have e1:O.toArray.size=aL.toArray.size:=by simp only[fO];lia
     rw[e1,Nat.min_self,rq,LD] at z;exact z
    .rw[HM hl];have e1:(aL.toArray.size == O.toArray.size)=false:=by rw[oY];simp only[fO];lia
     rw[e1,Bool.and_false] at z;exact z
   grind [RelV.inj,b2i,HP,PySem.SeqAt.EqAt.same,PySem.SeqAt.EqAt.of_refs]
end
mutual
theorem Ih:∀k j:TK,dP k.d j.d=decide (k=j)
 |.inl a,.inl b=>by show(a == b)=_;rw[Ai];simp
 |.inr a,.inr b=>by show(a == b)=_;rw[Ai];simp
 |.tp l,.tp m=>by show ir (TK.dl l) (TK.dl m)=_;rw[mn l m,Ai];simp
 |.inl _,.inr _=>rfl
 |.inl _,.tp _=>rfl
 |.inr _,.inl _=>rfl
 |.inr _,.tp _=>rfl
 |.tp _,.inl _=>rfl
 |.tp _,.inr _=>rfl
 |.aI,.aI=>rfl
 |.aI,.inl _=>rfl
 |.aI,.inr _=>rfl
 |.aI,.tp _=>rfl
 |.inl _,.aI=>rfl
 |.inr _,.aI=>rfl
 |.tp _,.aI=>rfl
theorem mn:∀l m:List TK,ir (TK.dl l) (TK.dl m)=decide (l=m)
 |[],[]=>rfl
 |a::l,b::m=>by show(dP a.d b.d&&ir (TK.dl l) (TK.dl m))=_;rw[Ih a b,mn l m,Ai];simp
 |[],_::_=>rfl
 |_::_,[]=>rfl
end
theorem Fb:∀l:List TK,TK.dl l=l.map TK.d
 |[]=>by simp[TK.dl]
 |a::l=>by simp[TK.dl,Fb l]
theorem zr:∀(n:Nat) {k:TK},k.ok n=true->fj n k.d=true
 |n,.inl i,_=>by cases n <;> rfl
 |n,.inr i,_=>by cases n <;> rfl
 |n,.aI,_=>by cases n <;> rfl
 |0,.tp l,h=>by simp[TK.ok] at h
 |n+1,.tp l,h=>by
  show(TK.dl l).all (fj n)=true;rw[Fb,DH];refine jS.mpr λa m=>?_
  exact zr n (jS.mp (by simpa only[TK.ok] using h) a m)
def SR{α:Type}{M:Model}{A:cW}{E:ak->aB->Prop}{s:aB}{c:Prop}[Decidable c]{a b:Sem α}{Q:α->aB->Prop}(J:wpAny M A a Q E s)(Y:wpAny M A b Q E s):wpAny M A (if c then a else b) Q E s:=by
 split
 .exact J
 .exact Y
theorem L4(w:cL):∀l m:List TK,TK.eI w (l++m)=TK.eI w l++TK.eI w m
 |[],m=>by simp[TK.eI]
 |a::l,m=>by simp[TK.eI,L4 w l m]
section
variable{X:Cx}{aa:List (aj×Obj)}{Z:St}{H:Hp}
def NS{A:cW}{E:ak->aB->Prop}{s:aB}{y:V}{u:ak}{i:Int}{Q:Int->aB->Prop}(r:bK X.K H [y] [TK.d (.inl i)])(J:RelV y u)(h:∀t,Q (TK.hash X.w (.inl i)) { s with toks:=t}):wpAny (mX X) A (pyHash u) Q E s:=by
 cases(show y=.int i from ag.aR r rfl);obtain⟨t,rfl⟩:=J;exact wpAny_pyHash_int (by simpa only[TK.hash] using h _)
def NT{A:cW}{E:ak->aB->Prop}{s:aB}{y:V}{u:ak}{i:Str}{Q:Int->aB->Prop}(r:bK X.K H [y] [TK.d (.inr i)])(J:RelV y u)(h:∀t,Q (TK.hash X.w (.inr i)) { s with toks:=t}):wpAny (mX X) A (pyHash u) Q E s:=by
 cases(show y=.str i from ag.aR r rfl);obtain⟨t,rfl⟩:=J;exact wpAny_pyHash_str (by simpa only[TK.hash] using h _)
theorem NU{A:cW}{E:ak->aB->Prop}{s:aB}{y:V}{u:ak}{Q:Int->aB->Prop}(r:bK X.K H [y] [TK.d .aI])(Y:RelV y u)(h:∀t,Q (TK.hash X.w .aI) { s with toks:=t}):wpAny (mX X) A (pyHash u) Q E s:=by
 cases(show y=.aI from ag.aR r rfl);cases Y;have J:s.TypeIs .none "NoneType":=rfl;unfold pyHash;have hv:[Value.none].any Value.onHeap=false:=rfl;refine aK ?_;rw[cRoomFor,bq (by rw[hv];exact pQ)];refine bw ?_
 refine aK (wpAny_specialOf J F.slot_NoneType_hash.lookup ?_);show wpAny _ _ (if(some (Value.builtin "NoneType.__hash__") == some Value.none)=true then _ else _) Q E s
 rw[bq (by rw[beq_builtin_none];exact pQ)]
 refine aK (wpAny_specialOf J F.slot_NoneType_hash.lookup ?_);show wpAny _ _ (callSpecialIfBoundUnlessNone? .none "__hash__" _ >>= _) Q E s;refine aK (wpAny_callSpecialIfBoundUnlessNone?_slot J F.slot_NoneType_hash (wpAny_call_entry F.slot_NoneType_hash J F.entry_NoneType_hash (show wpAny _ _ (do ret (<-mkInt 4238894112)) _ _ s from wpAny_ret_mkInt ?_) (F.args_NoneType_hash_1 _)))
 refine bw ?_
 grind [TK.hash]
theorem M1:∀(n:Nat) {A:cW} {E:ak->aB->Prop} {s:aB} {y:V} {u:ak} {k:TK} {Q:Int->aB->Prop},Inv X aa Z H s->bK X.K H [y] [k.d]->k.ok n=true->RelV y u->A.units+n<cLine->
  (∀t,Q (k.hash X.w) { s with toks:=t})->wpAny (mX X) A (pyHash u) Q E s:=by
 intro n
 induction n with
 |zero=>
  intro A E s y u k Q I r ok Y L h;cases k with
  |tp l=>simp[TK.ok] at ok
  |inl i=>exact NS r Y h
  |inr x=>exact NT r Y h
  |aI=>exact NU r Y h
 |succ n D=>
  intro A E s y u k Q I r ok Y L h;cases k with
  |inl i=>exact NS r Y h
  |inr x=>exact NT r Y h
  |aI=>exact NU r Y h
  |tp l=>
   obtain⟨a,ws,rfl,q,i⟩:=ag.isTup r;cases Y;obtain⟨aL,rv,pl,_⟩:=I.tuple q;have G:s.TypeIs (.ref a) "tuple":=pl.typeIs;obtain⟨o,g1,g2,O,g3⟩:=pl;have ok:l.all (TK.ok n)=true:=by simpa only[TK.ok] using ok
   show wpAny _ _ (pyHashByItsType (.ref a)) Q E s;unfold pyHashByItsType;refine aK (wpAny_cRoomFor_or (.inr (by lia)) (aK (wpAny_specialOf G F.slot_tuple_hash.lookup ?_)))
   dsimp only;rw[bq (by rw[beq_builtin_none];exact pQ)]
   refine aK (wpAny_specialOf G F.slot_tuple_hash.lookup (aK ?_));refine wpAny_callSpecialIfBoundUnlessNone?_slot G F.slot_tuple_hash (wpAny_call_entry F.slot_tuple_hash G F.entry_tuple_hash ?_ (F.args_tuple_hash_1 _));show wpAny _ _ (Builtin.Tuple.tupleItemsOf (.ref a) >>= λz=>_) _ _ s
   refine aK (wpAny_tupleItemsOf g1 g3 (aK ?_));rw[<-Array.forIn_toList];refine wpAny_forIn_list _ (λJ (b:Array Int) s'=>∃done left wl t,l=done++left/\bK X.K H wl (TK.dl left)/\Vals wl J/\b.toList=TK.eI X.w done/\s'={ s with toks:=t}) _ ?_ ?_ _ _ ⟨[],l,ws,s.toks,rfl,i,rv,by simp[TK.eI],rfl⟩
   .rintro x J b s' ⟨done,left,wl,t,e,r',U,hb,rfl⟩;obtain⟨j,wl,rfl,S,U⟩:=Paired.Dt U;cases left with
    |nil=>have:=r'.length;simp[TK.dl] at this
    |cons k1 left=>
     simp only[TK.dl] at r';have R:k1.ok n=true:=jS.mp ok k1 (by rw[e];simp)
     have fin:∀t',∃T B W Aa,l=T++B/\bK X.K H W (TK.dl B)/\Vals W J/\(b.push (k1.hash X.w)).toList=TK.eI X.w T/\({ s with toks:=t'}:aB)={ s with toks:=Aa}:=
      λt'=>⟨done++[k1],left,wl,t',by simp[e],r'.inv.2,U,by rw[L4,<-hb];simp[TK.eI],rfl⟩
     exact aK (D (I.tok t) r'.inv.1 R S (by show A.units+1+n<cLine;lia) λt'=>by
      first
       |exact bw (fin t')
       |exact aK (bw (bw (fin t'))))
   .rintro b s' ⟨done,left,wl,t,e,r',U,hb,rfl⟩;cases U;have hl:left=[]:=by
     cases left with
     |nil=>rfl
     |cons _ _=>have:=r'.length;simp[TK.dl] at this
    subst hl;rw[jI] at e;subst e;show wpAny _ _ (retInt (Builtin.Tuple.tupleHashOf b.toList)) _ _ _;rw[hb];refine wpAny_ret_mkInt ?_;have h':∀t,Q (reduceHash (Builtin.Tuple.tupleHashOf (TK.eI X.w l))) { s with toks:=t}:=λt=>by simpa only[TK.hash] using h t
    unfold reduceHash at h';show wpAny _ _ (if(decide (-(2:Int)^63<=Builtin.Tuple.tupleHashOf (TK.eI X.w l))&&decide (Builtin.Tuple.tupleHashOf (TK.eI X.w l)<2^63))=true then _ else _) Q E _
    split
    .rename_i hc
     rw[bJ hc] at h';exact bw (h' _)
    .rename_i hc
     rw[bq hc] at h';exact aK (wpAny_rule (bw (h' _)))
theorem MG:∀(n:Nat) {A:cW} {E:ak->aB->Prop} {s:aB} {y:V} {u:ak} {k:TK} {Q:Bool->aB->Prop},Inv X aa Z H s->bK X.K H [y] [k.d]->k.ok n=true->RelV y u->Q true s->
  wpAny (mX X) A (eqIsQuiet n u) Q E s:=by
 intro n
 induction n with
 |zero=>
  intro A E s y u k Q I r ok Y h;cases k with
  |tp l=>simp[TK.ok] at ok
  |inl i=>cases(show _=.int i from ag.aR r rfl);obtain⟨t,rfl⟩:=Y;rw[eqIsQuiet_byValue 0 rfl];exact bw h
  |inr i=>cases(show _=.str i from ag.aR r rfl);obtain⟨t,rfl⟩:=Y;rw[eqIsQuiet_byValue 0 rfl];exact bw h
  |aI=>cases(show _=.aI from ag.aR r rfl);cases Y;rw[eqIsQuiet_byValue 0 rfl];exact bw h
 |succ n S=>
  intro A E s y u k Q I r ok Y h;cases k with
  |inl i=>cases(show _=.int i from ag.aR r rfl);obtain⟨t,rfl⟩:=Y;rw[eqIsQuiet_byValue (n+1) rfl];exact bw h
  |inr i=>cases(show _=.str i from ag.aR r rfl);obtain⟨t,rfl⟩:=Y;rw[eqIsQuiet_byValue (n+1) rfl];exact bw h
  |aI=>cases(show _=.aI from ag.aR r rfl);cases Y;rw[eqIsQuiet_byValue (n+1) rfl];exact bw h
  |tp l=>
   obtain⟨a,ws,rfl,q,i⟩:=ag.isTup r;cases Y;obtain⟨aL,rv,pl,_⟩:=I.tuple q;have G:s.TypeIs (.ref a) "tuple":=pl.typeIs;obtain⟨o,g1,g2,L,g3⟩:=pl;have ok:l.all (TK.ok n)=true:=by simpa only[TK.ok] using ok
   unfold eqIsQuiet;refine aK (wpAny_specialOf G F.slot_tuple_eq.lookup (aK (wpAny_isInstance G isSubtype_tuple_tuple ?_)));simp only[Gs,rm,kS];refine aK (wpAny_seqItems g1 g3 (aK ?_));show wpAny _ _ (forIn aL.toArray _ _) _ _ s;rw[<-Array.forIn_toList];refine wpAny_forIn_list _ (λJ r s'=>r.1=none/\s'=s/\∃left wl,bK X.K H wl (TK.dl left)/\Vals wl J/\∀x∈left,x.ok n=true) _ ?_ ?_ _ _ ⟨rfl,rfl,l,ws,i,rv,λx m=>jS.mp ok x m⟩
   .rintro v J r s' ⟨B,rfl,left,wl,r',U,W⟩;obtain⟨O,wl,rfl,T,U⟩:=Paired.Dt U;cases left with
    |nil=>have:=r'.length;simp[TK.dl] at this
    |cons k1 left=>
     simp only[TK.dl] at r';refine aK (S I r'.inv.1 (W k1 (by simp)) T ?_)
     simp only[Gs,rm,kS];exact bw ⟨rfl,rfl,left,wl,r'.inv.2,U,λx m=>W x (by simp[m])⟩
   .rintro⟨R,D⟩ s' ⟨B,rfl,_⟩;cases(show R=none from B);exact bw h
structure Au (X:Cx) (A:cW) (E:ak->aB->Prop) (s:aB) (xs:Array DictEntry) (es:List (TK×V×V)) (k:TK) (u:ak):Prop where
 ent:∀(j:Nat) (x:DictEntry),xs[j]?=some x->∃e,es[j]?=some e/\jh X.w e x/\(∀(R:Bool->aB->Prop),R (decide (e.1=k)) s->wpAny (mX X) A (eqBool x.key u) R E s)/\
  ∀(R:Bool->aB->Prop),R true s->wpAny (mX X) A (eqIsQuiet 8 x.key) R E s
 ents:∀(j:Nat) (e:TK×V×V),es[j]?=some e->∃x:DictEntry,xs[j]?=some x/\jh X.w e x
 uniq:∀(i j:Nat) (e f:TK×V×V),es[i]?=some e->es[j]?=some f->e.1=k->f.1=k->i=j
def ZC{A:cW}{E:ak->aB->Prop}{s:aB}{xs:Array DictEntry}{es:List (TK×V×V)}{k:TK}{y:V}{u:ak}(I:Inv X aa Z H s)(g3:Paired (jh X.w) es xs.toList)(g4:(es.map (·.1)).Nodup)
  (rk:bK X.K H (es.map (·.2.1)) (es.map (·.1.d))) (D:bK X.K H [y] [k.d]) (ok:k.ok 8=true) (L:RelV y u) (F:A.units+8<cLine):Au X A E s xs es k u where
 ent:=λj x T=>by
  refine kY λS=>?_
  obtain⟨e,e1,e2⟩:=En j g3 (by rw[vF];exact T)
  obtain⟨v,Y,U⟩:=rk.get (i:=j) (d:=e.1.d) (by rw[fB,e1];rfl)
  rw[fB,e1] at Y;cases Y;refine S ?_;refine⟨e,e1,e2,λR hR=>?_,λR hR=>MG 8 I U e2.2.2.2 e2.2.1 hR⟩
  refine(Iy I 8 8 U D (zr 8 e2.2.2.2) (zr 8 ok) e2.2.1 L F).1 X.prog X.w E R ?_;rw[Ih];exact hR
 ents:=λj e J=>by
  obtain⟨x,O,q⟩:=Eo j g3 J
  simp_all
 uniq:=λi j e f J hf G W=>by
  have hi:(es.map (·.1))[i]?=some k:=by rw[fB,J,<-G];rfl
  have B:(es.map (·.1))[j]?=some k:=by rw[fB,hf,<-W];rfl
  exact(List.getElem?_inj (dX.mp hi).1 g4).mp (hi.trans B.symm)
section
variable{A:cW}{E:ak->aB->Prop}{s:aB}{d:aj}{o:Obj}{xs:Array DictEntry}{ep:Nat}{es:List (TK×V×V)}{k:TK}{u:ak}{Q:ai Nat->aB->Prop}
noncomputable abbrev mJ(xs:Array DictEntry)(h:Int):List Nat:=placesWithHash xs.size (λi=>xs[i]?.map (·.hash)) h
def lR{h:Int}{i:Nat}:i∈mJ xs h↔∃x,xs[i]?=some x/\x.hash=h:=by
 unfold mJ placesWithHash;rw[rb,pI];constructor
 .rintro⟨J,Y⟩;refine⟨xs[i],sk J,?_⟩;dsimp only at Y;rw[sk J] at Y;simpa using Y
 .rintro⟨x,J,Y⟩;refine⟨(Al.mp J).1,?_⟩;dsimp only;rw[J,Am,Y];simp
def SS{h:Int}:(mJ xs h).Nodup:=List.Nodup.sublist yC LF
def Au.mJ(D:Au X A E s xs es k u){e:TK×V×V}(Y:es[j]?=some e)(J:e.1=k):j∈mJ xs (k.hash X.w):=by
 obtain⟨x,U,G⟩:=D.ents j e Y;exact lR.mpr ⟨x,U,by rw[G.1,J]⟩
def SU(D:Au X A E s xs es k u)(g1:s.heap.get? d=some o)(g2:o.data=.dict xs ep)
  (T:(∀(j:Nat) (e:TK×V×V),es[j]?=some e->e.1≠k)->Q none s) (S:∀j e,es[j]?=some e->e.1=k->Q (some j) s) :
  wpAny (mX X) A (dictWalkPlain d u (k.hash X.w) xs (mJ xs (k.hash X.w))) Q E s:=by
 unfold dictWalkPlain;refine aK (wpAny_forIn_list _ (λJ b s'=>s'=s/\b=(none,())/\∃done,mJ xs (k.hash X.w)=done++J/\∀j e,j∈done->es[j]?=some e->e.1≠k) _ ?_ ?_ _ _ ⟨rfl,rfl,[],rfl,λ_ _ m=>by cases m⟩)
 .rintro i J b s' ⟨rfl,rfl,done,hd,U⟩;refine kY λF=>?_
  obtain⟨x,W,R⟩:=lR.mp (show i∈mJ xs (k.hash X.w) by rw[hd];simp)
  obtain⟨e,e1,e2,B,_⟩:=D.ent i x W;refine F ?_;simp only[W];rw[bJ (by rw[R];simp)]
  refine aK (wpAny_dictEpoch g1 g2 (aK (B _ (aK (wpAny_dictEpoch g1 g2 ?_)))));rw[bq (by simp)]
  by_cases Y:e.1=k
  .rw[nh Y];exact aK (wpAny_rule (bw (bw (S i e e1 Y))))
  .rw[pS Y];refine aK (wpAny_rule (bw ⟨rfl,rfl,done++[i],by simp[hd],λj f m hf=>?_⟩))
   rcases iC.mp m with m|m
   .exact U j f m hf
   .simp at m;subst m;rw[e1] at hf;cases hf;exact Y
 .rintro b s' ⟨rfl,rfl,done,hd,U⟩;refine bw (T λj e G Y=>U j e ?_ G Y)
  have:=D.mJ G Y
  simp_all
def idv(u:ak):ak:=u
def NV{v:ak}(h:isExactStrKey v=true):∃z t,v=.str z t:=by
 cases v with
 |str z t=>exact⟨z,t,rfl⟩
 |_=>cases h
def ZD{v:ak}{z:Str}(h:v.isStr z=true):∃t,v=.str z t:=by
 cases v with
 |str x t=>exact⟨t,by rw[show x=z by simpa[Value.isStr] using h]⟩
 |_=>cases h
def Uv(D:Au X A E s xs es k u)(g1:s.heap.get? d=some o)(g2:o.data=.dict xs ep)(hq:∀R,R true s->wpAny (mX X) A (eqIsQuiet 8 u) R E s)
  (hs:∀z t,u=.str z t->k=.inr z) (kK:∀(j:Nat) (x:DictEntry) (e:TK×V×V) z t,xs[j]?=some x->es[j]?=some e->x.key=.str z t->e.1=.inr z) (hh:∀a (j:Nat) (x:DictEntry) (e:TK×V×V),u=.ref a->xs[j]?=some x->es[j]?=some e->x.key=u->e.1=k)
  (q0:(∀(j:Nat) (e:TK×V×V),es[j]?=some e->e.1≠k)->Q none s) (q:∀j e,es[j]?=some e->e.1=k->Q (some j) s) :
  wpAny (mX X) A (dictFind d u (k.hash X.w)) Q E s:=by
 have walk:=SU D g1 g2 q0 q;have stored:∀v∈(mJ xs (k.hash X.w)).filterMap (λi=>xs[i]?.map (·.key)),∀(R:Bool->aB->Prop),R true s->wpAny (mX X) A (eqIsQuiet 8 v) R E s:=by
  intro v hv R hR;obtain⟨i,_,hi⟩:=ue.mp hv;cases G:xs[i]? with
  |none=>rw[G] at hi;cases hi
  |some x=>
   rw[G] at hi;obtain rfl:x.key=v:=by simpa using hi
   obtain⟨e,_,_,_,h⟩:=D.ent i x G;exact h R hR
 have W:∀(R:Bool->aB->Prop),R false s->wpAny (mX X) A (tableMayTell u ((mJ xs (k.hash X.w)).filterMap λi=>xs[i]?.map (·.key))) R E s:=by
  intro R hR;unfold tableMayTell;split
  .exact bw hR
  .refine aK (hq _ ?_);simp only[Gs,rm,kS];refine aK (wpAny_forIn_list _ (λY r s'=>s'=s/\r=(none,())/\∀v∈Y,∀(R:Bool->aB->Prop),R true s->wpAny (mX X) A (eqIsQuiet 8 v) R E s) _ ?_ ?_ _ _ ⟨rfl,rfl,stored⟩)
   .rintro x Y r s' ⟨rfl,rfl,hr⟩;refine aK (hr x (by simp) _ ?_)
    simp only[Gs,rm,kS];exact bw ⟨rfl,rfl,λv hv=>hr v (by simp[hv])⟩
   .rintro r s' ⟨rfl,rfl,_⟩;exact bw hR
 have tell2:∀(R:Bool->aB->Prop),R false s->wpAny (mX X) A (if((mJ xs (k.hash X.w)).filterMap (λi=>xs[i]?.map (·.key)) == [u])=true then pure false else tableMayTell u ((mJ xs (k.hash X.w)).filterMap λi=>xs[i]?.map (·.key))) R E s:=by
  intro R hR;split
  .exact bw hR
  .exact W R hR
 have fin:∀(i:Nat) (x:DictEntry) (e:TK×V×V),xs[i]?=some x->es[i]?=some e->jh X.w e x->(x.hash == k.hash X.w)=false->e.1≠k:=λi x e _ _ B hf U=>by
  rw[B.1,U] at hf;simp at hf
 unfold dictFind
 (try with_reducible refine kA ?_);refine aK (wpAny_dictEntries g1 g2 ?_)
 dsimp only;by_cases jC:((u::(mJ xs (k.hash X.w)).filterMap λi=>xs[i]?.map (·.key)).all carriedByValue)=true
 .rw[bJ jC];split;next=>
   rename Str=>z
   split;next J3=>
    unfold foundByValue;cases hf:xs.findIdx? (λe=>e.key.isStr z) with
    |none=>
     refine bw (q0 λj e B U=>?_)
     obtain⟨x,F,x2⟩:=D.ents j e B;have n1:=Array.findIdx?_eq_none_iff.mp hf x (Array.mem_of_getElem? F);have e2:=x2.2.1;have n2:isExactStrKey x.key=true:=by
      have h:=Array.all_eq_true.mp J3 j (Al.mp F).1;rw[(Al.mp F).2] at h;exact h
     obtain⟨z2,t2,T⟩:=NV n2;have e3:=kK j x e z2 t2 F B T;rw[U,hs z _ rfl] at e3;cases e3;rw[T] at n1;simp[Value.isStr] at n1
    |some i=>
     obtain⟨lI,hi,_⟩:=Array.findIdx?_eq_some_iff_getElem.mp hf;obtain⟨e,e1,e2,n,_⟩:=D.ent i xs[i] (sk lI);have U:e.1=k:=by
      obtain⟨t2,T⟩:=ZD hi;rw[kK i _ e z t2 (sk lI) e1 T,hs z _ rfl]
     simp only[sk lI];refine aK (wpAny_dictEpoch g1 g2 (aK (n _ (aK (wpAny_dictEpoch g1 g2 ?_)))));rw[bq (by simp),nh U]
     exact aK (wpAny_rule (bw (q i e e1 U)))
   next=>exact walk
  next=>exact walk
 .rw[bq jC];have CP:∀z t,u=.str z t->¬(xs.all λe=>isExactStrKey e.key)=true:=by
   intro z t hu G;refine jC (jS.mpr λv hv=>?_)
   rcases y0c.mp hv with rfl|hv
   .rw[hu];rfl
   .obtain⟨i,_,hi⟩:=ue.mp hv;cases y:xs[i]? with
    |none=>rw[y] at hi;cases hi
    |some x=>
     rw[y] at hi;obtain rfl:x.key=v:=by simpa using hi
     have h:=Array.all_eq_true.mp G i (Al.mp y).1;rw[(Al.mp y).2] at h;obtain⟨_,_,T⟩:=NV h;rw[T];rfl
  have u7:∀a,u=.ref a->¬(xs.any λe=>e.key == u&&e.hash != k.hash X.w)=true:=by
   intro a hu G;rw[Array.any_eq_true] at G;obtain⟨i,hi,hc⟩:=G;rw[jx,beq_iff_eq,bne_iff_ne] at hc;obtain⟨e,e1,e2,_⟩:=D.ent i xs[i] (sk hi);have:=hh a i _ e hu (sk hi) e1 hc.1;exact hc.2 (by rw[e2.1,this])
  have l:u=idv u:=rfl;refine(λ(key:?P)=>?main) ?k
  case main=>
   rw(occs:=.pos [1]) [l];split
   .rename_i hz
    rw[bq (CP _ _ hz)];rw(occs:=.pos [1]) [l];split
    .rename_i ha
     rw[bq (u7 _ ha)];exact key
    .exact key
   .rw(occs:=.pos [1]) [l];split
    .rename_i ha
     rw[bq (u7 _ ha)];exact key
    .exact key
  refine(λ(pC:?P2)=>?CG) ?k2
  case CG=>
   refine SR ?_ ?_
   .refine aK (bw ?_);exact pC
   .refine aK (W _ ?_);exact pC
  all_goals (
   show wpAny _ _ (if(false&&_)=true then _ else _) _ _ _
   rw[bq (by rw[Bool.false_and];exact pQ)]
   refine aK (wpAny_forIn_list _ (λY b s'=>s'=s/\∃J done,b=(none,J)/\mJ xs (k.hash X.w)=done++Y/\((J=none/\∀(j:Nat) (e:TK×V×V),j∈done->es[j]?=some e->e.1≠k)\/∃(j:Nat) (e:TK×V×V),J=some j/\j∈done/\es[j]?=some e/\e.1=k)) _ ?_ ?_ _ _
    ⟨rfl,none,[],rfl,rfl,.inl ⟨rfl,λ_ _ m=>by cases m⟩⟩)
   .rintro i Y b s' ⟨rfl,J,done,rfl,hd,I⟩;obtain⟨x,F,x2⟩:=lR.mp (show i∈mJ xs (k.hash X.w) by rw[hd];simp)
    obtain⟨e,e1,e2,n,_⟩:=D.ent i x F;have hni:i∉done:=λm=>by
     have:=SS (xs:=xs) (h:=k.hash X.w);rw[hd] at this;exact(l6.mp this).2.2 i m i (by simp) rfl
    simp only[F];rw[bJ (by rw[x2];simp)]
    refine aK (wpAny_dictEpoch g1 g2 (aK (n _ (aK (wpAny_dictEpoch g1 g2 ?_)))));rw[bq (by simp)]
    by_cases U:e.1=k
    .rw[nh U];rcases I with⟨rfl,p⟩|⟨j,f,rfl,O,L,S⟩
     .first|rw[bJ rfl]|skip
      simp only[vH,rm,kS];skip;refine aK (wpAny_rule ?_);split
      .exact bw (bw (q i e e1 U))
      .exact bw ⟨rfl,some i,done++[i],rfl,by simp[hd],.inr ⟨i,e,rfl,by simp,e1,U⟩⟩
     .exact cQ (D.uniq i j e f e1 L U S) λz=>hni (by rw[z];exact O)
    .rw[pS U];have nx:(J=none/\∀(j:Nat) (e:TK×V×V),j∈done++[i]->es[j]?=some e->e.1≠k)\/∃(j:Nat) (e:TK×V×V),J=some j/\j∈done++[i]/\es[j]?=some e/\e.1=k:=by
      rcases I with⟨h0,p⟩|⟨j,f,h0,O,L,S⟩
      .refine .inl ⟨h0,λj f m hf=>?_⟩
       rcases iC.mp m with m|m
       .exact p j f m hf
       .simp at m;subst m;rw[e1] at hf;cases hf;exact U
      .exact .inr ⟨j,f,h0,by simp[O],L,S⟩
     simp only[rm,kS];refine aK (wpAny_rule ?_);rw[bq (by simp)]
     exact bw ⟨rfl,J,done++[i],rfl,by simp[hd],nx⟩
   .rintro b s' ⟨rfl,J,done,rfl,hd,I⟩;rcases I with⟨rfl,p⟩|⟨j,f,rfl,O,L,S⟩
    .refine bw (q0 λj e B U=>p j e ?_ B U)
     have:=D.mJ B U;rw[hd] at this;simpa using this
    .exact bw (q j f L S))
end
end
variable{k:TK}{y:V}{o:ai V}{Q:ak->aB->Prop}{H':Hp}
noncomputable def jH(es:List (TK×V×V))(k:TK):ai V:=(es.find? λe=>decide (e.1=k)).map (·.2.2)
noncomputable def dN:List (TK×V×V)->TK->V->V->List (TK×V×V)
 |[],k,y,v=>[(k,y,v)]
 |e::es,k,y,v=>if e.1=k then(e.1,e.2.1,v)::es else e::dN es k y v
noncomputable def pH(es:List (TK×V×V))(k:TK)(ep:Nat):Nat:=if(es.any λe=>decide (e.1=k))=true then ep else ep+1
def ig(K:aP)(H:Hp)(a:aj)(y:V)(r:ai V):Prop:=∃es ep k,H a=some (.dG es ep)/\bK K H (es.map (·.2.1)) (es.map (·.1.d))/\bK K H [y] [k.d]/\k.ok 8=true/\r=jH es k
def vT(K:aP)(H:Hp)(a:aj)(y v:V)(H':Hp):Prop:=∃es ep k,H a=some (.dG es ep)/\bK K H (es.map (·.2.1)) (es.map (·.1.d))/\bK K H [y] [k.d]/\k.ok 8=true/\es.length<sizeLine/\H'=upd H a (.dG (dN es k y v) (pH es k ep))
def WG{j:TK}(e:k.d=j.d)(h:k.ok 8=true):k=j:=by
 have J:=Ih k j;rw[<-e,HP 8 (zr 8 h)] at J
 lia
section
variable{X:Cx}{aa:List (aj×Obj)}{Z:St}{H:Hp}
def NW{z:Str}{t:Tok}(r:bK X.K H [y] [k.d])(J:RelV y (.str z t)):k=.inr z:=by
 cases k with
 |inl i=>cases(show _=.int i from ag.aR r rfl);obtain⟨t,e⟩:=J;cases e
 |inr i=>cases(show _=.str i from ag.aR r rfl);obtain⟨t,e⟩:=J;cases e;rfl
 |tp l=>simp only[TK.d] at r;cases r with|flat q _=>cases q|tup q _ _=>cases J
 |aI=>cases(show _=.aI from ag.aR r rfl);cases J
def NX{a:aj}(J:RelV y (.ref a)):y=.ref a:=by
 cases y with
 |ref b=>cases J;rfl
 |aI=>cases J
 |bl _=>cases J
 |ty _=>cases J
 |_=>obtain⟨t,e⟩:=J;cases e
section
variable{A:cW}{E:ak->aB->Prop}{s:aB}{d:aj}{es:List (TK×V×V)}{k:TK}{y v:V}{u r:ak}
def OR{o:Obj}{xs:Array DictEntry}{ep:Nat}{Q:ai Nat->aB->Prop}(I:Inv X aa Z H s)(g1:s.heap.get? d=some o)(g2:o.data=.dict xs ep)(g3:Paired (jh X.w) es xs.toList)(g4:(es.map (·.1)).Nodup)
  (rk:bK X.K H (es.map (·.2.1)) (es.map (·.1.d))) (G:bK X.K H [y] [k.d]) (ok:k.ok 8=true) (U:RelV y u) (T:A.units+8<cLine)
  (S:(∀(j:Nat) (e:TK×V×V),es[j]?=some e->e.1≠k)->Q none s) (L:∀j e,es[j]?=some e->e.1=k->Q (some j) s):wpAny (mX X) A (dictFind d u (k.hash X.w)) Q E s:=by
 have at':∀(j:Nat) (x:DictEntry) (e:TK×V×V),xs[j]?=some x->es[j]?=some e->jh X.w e x/\bK X.K H [e.2.1] [e.1.d]:=by
  intro j x e Y J;obtain⟨D,e1,e2⟩:=En j g3 (by rw[vF];exact Y)
  rw[J] at e1;cases e1;obtain⟨v,O,q⟩:=rk.get (i:=j) (d:=e.1.d) (by rw[fB,J];rfl)
  simp_all
 refine Uv (ZC I g3 g4 rk G ok U T) g1 g2 (λR hR=>MG 8 I G ok U hR) (λz t e=>NW G (by rw[<-e];exact U)) (λj x e z t Y J W=>?_) (λa j x e F Y J W=>?_) S L
 .obtain⟨g,r'⟩:=at' j x e Y J;exact NW r' (by rw[<-W];exact g.2.1)
 .obtain⟨g,r'⟩:=at' j x e Y J;have B:=g.2.1;rw[W,F] at B;rw[F] at U;rw[NX B] at r';rw[NX U] at G;exact WG (b2i I 8 8 r' G (zr 8 g.2.2.2) (zr 8 ok)) g.2.2.2
def SV(h:∀(j:Nat) (e:TK×V×V),es[j]?=some e->e.1≠k):jH es k=none:=by
 unfold jH;rw[An.mpr λe m z=>?_,Option.map_none]
 obtain⟨j,J⟩:=yz.mp m;exact h j e J (pT z)
def SW(Y:(es.map (·.1)).Nodup){e:TK×V×V}(J:es[j]?=some e)(U:e.1=k):jH es k=some e.2.2:=by
 induction es generalizing j with
 |nil=>simp at J
 |cons x es G=>
  rw[cS,nW] at Y;unfold jH;rw[Ao];cases j with
  |zero=>
   simp only[List.getElem?_cons_zero,Option.some.injEq] at J;subst J;rw[nh U];rfl
  |succ j=>
   simp only[List.getElem?_cons_succ] at J;have ne:¬x.1=k:=λz=>Y.1 (by rw[z,<-U];exact fU.mpr ⟨e,rh J,rfl⟩)
   rw[pS ne];exact G Y.2 J
def HC{Q:ai ak->aB->Prop}(Y:A.units+8<cLine)(I:Inv X aa Z H s)(g:ig X.K H d y o)(V:RelV y u)(h:∀w t,iN o w->Q w { s with toks:=t}):
  wpAny (mX X) A (dictGet d u) Q E s:=by
 refine kY λW=>?_
 obtain⟨es,ep,k,hd,rk,U,ok,rfl⟩:=g;obtain⟨_,_,ob,xs,g1,_,g2,g3,g4⟩:=(kI I hd);refine W ?_;unfold dictGet
 (try with_reducible refine kA ?_);refine aK (M1 8 I U ok V Y λt=>aK (OR (I.tok t) g1 g2 g3 g4 rk U ok V Y (λB=>?_) (λj e J G=>?_)))
 .exact bw (h none t (by rw[SV B];exact rA))
 .obtain⟨x,F,T⟩:=Eo j g3 J;refine aK (wpAny_dictEntries (s:={ s with toks:=t}) g1 g2 (bw ?_));rw[<-vF,F];exact h (some x.val) t (by rw[SW g4 J G];exact T.2.2.1)
def ig.ty(I:Inv X aa Z H s)(g:ig X.K H d y o):s.TypeIs (.ref d) "dict"/\(d == sysModules)=false:=by
 obtain⟨es,ep,k,hd,_⟩:=g;obtain⟨_,z,ob,xs,g1,g5,_⟩:=(kI I hd);exact⟨⟨ob,g1,g5.1⟩,z⟩
def MH(G:A.units+9<cLine)(I:Inv X aa Z H s)(g:ig X.K H d y (some v))(U:RelV y u)(h:∀J s',Inv X aa Z H s'->RelV v J->Q J s'):wpAny (mX X) A (getItem (.ref d) u) Q E s:=by
 have Y:=(g.ty I).1;unfold getItem
 (try with_reducible refine kA ?_);refine aK (wpAny_sequenceKey Y (by decide) (aK (wpAny_callSpecial?_slot (name:=Str.ofString "__getitem__") Y slot_dict_getitem (wpAny_call_entry slot_dict_getitem Y entry_dict_getitem ?_ (args_dict_getitem _ _)))))
 show wpAny _ _ (dictGet d u >>= _) _ _ s;refine aK (HC (by show A.units+1+8<cLine;lia) I g U λw t V=>?_)
 obtain⟨J,rfl,r'⟩:=iN.some_of V;exact bw ⟨J,rfl,bw (h J _ (I.tok t) r')⟩
def Mj{Q:Bool->aB->Prop}(U:A.units+9<cLine)(I:Inv X aa Z H s)(g:ig X.K H d y o)(V:RelV y u)(h:∀s',Inv X aa Z H s'->Q o.isSome s'):wpAny (mX X) A (contains (.ref d) u) Q E s:=by
 obtain⟨J,hd⟩:=g.ty I;unfold contains
 (try with_reducible refine kA ?_);refine aK (wpAny_specialOf J slot_dict_contains.lookup ?_)
 dsimp only;rw[bq (by rw[beq_builtin_none];exact pQ)]
 refine aK (wpAny_callSpecialUnlessNone?_slot (name:=Str.ofString "__contains__") J slot_dict_contains (wpAny_call_entry slot_dict_contains J entry_dict_contains ?_ (args_dict_contains _ _)));show wpAny _ _ (dictGet d u >>= _) _ _ s;refine aK (HC (by show A.units+1+8<cLine;lia) I g V λw t Y=>?_)
 have e:=Y.pA;cases w with
 |some w=>
  show wpAny _ _ (ret (.bool true)) _ _ _;refine bw ⟨_,rfl,wpAny_truthy_bool ?_⟩;have:=h _ (I.tok t)
  simp_all
 |none=>
  show wpAny _ _ (Builtin.Dict.pendingKey? d u >>= _) _ _ _;refine aK (wpAny_pendingKey_other hd (bw ⟨_,rfl,wpAny_truthy_bool ?_⟩));have:=h _ (I.tok t)
  simp_all
def Lw(Y:A.units+9<cLine)(I:Inv X aa Z H s)(g:ig X.K H d y o)(V:RelV y u)(h:∀s',Inv X aa Z H s'->Q (.bool o.isSome) s'):wpAny (mX X) A (compareOp .In u (.ref d)) Q E s:=
 aK (Mj Y I g V λs' J=>bw (h s' J))
def WH(Y:A.units+9<cLine)(I:Inv X aa Z H s)(g:ig X.K H d y o)(V:RelV y u)(h:∀s',Inv X aa Z H s'->Q (.bool (!o.isSome)) s'):wpAny (mX X) A (compareOp .NotIn u (.ref d)) Q E s:=
 aK (Mj Y I g V λs' J=>bw (h s' J))
theorem D9(k:TK)(y v:V):∀es:List (TK×V×V),(dN es k y v).length<=es.length+1
 |[]=>by simp[dN]
 |e::es=>by
  unfold dN;have:=D9 k y v es;split <;> simp <;> lia
theorem M3:∀{es:List (TK×V×V)},(∀(j:Nat) (e:TK×V×V),es[j]?=some e->e.1≠k)->dN es k y v=es++[(k,y,v)]
 |[],_=>rfl
 |e::es,h=>by
  unfold dN;rw[bq (h 0 e rfl),M3 λj x J=>h (j+1) x (by simpa using J)]
  rfl
def WI{w:cL}{xs:List DictEntry}(g3:Paired (jh w) es xs)(Y:RelV y u)(rv:RelV v r)(ok:k.ok 8=true):Paired (jh w) (es++[(k,y,v)]) (xs++[⟨k.hash w,u,r⟩]):=by
 induction g3 with
 |nil=>exact .cons ⟨rfl,Y,rv,ok⟩ .nil
 |cons a _ J=>exact .cons a J
theorem NY{w:cL}:∀{es:List (TK×V×V)} {xs:List DictEntry} {j:Nat} {e:TK×V×V},Paired (jh w) es xs->(es.map (·.1)).Nodup->es[j]?=some e->e.1=k->RelV v r->
  Paired (jh w) (dN es k y v) (xs.modify j λx=>{ x with val:=r})/\(dN es k y v).map (·.1)=es.map (·.1)
 |_,_,_,_,.nil,_,J,_,_=>by simp at J
 |_::es,_::xs,0,e,.cons a t,U,J,Y,rv=>by
  simp only[List.getElem?_cons_zero,Option.some.injEq] at J;subst J;unfold dN;rw[bJ Y];exact⟨.cons ⟨a.1,a.2.1,rv,a.2.2.2⟩ t,rfl⟩
 |x::es,_::xs,j+1,e,.cons a t,U,J,Y,rv=>by
  simp only[List.getElem?_cons_succ] at J;rw[cS,nW] at U;have ne:¬x.1=k:=λz=>U.1 (by rw[z,<-Y];exact fU.mpr ⟨e,rh J,rfl⟩)
  unfold dN;rw[bq ne];have G:=NY t U.2 J Y rv;exact⟨.cons a G.1,by rw[cS,cS,G.2]⟩
def HD{Q:Unit->aB->Prop}(F:A.units+8<cLine)(I:Inv X aa Z H s)(g:vT X.K H d y v H')(V:RelV y u)(rv:RelV v r)(h:∀s',Inv X aa Z H' s'->Q () s'):
  wpAny (mX X) A (dictSet d u r) Q E s:=by
 refine kY λR=>?_
 obtain⟨es,ep,k,hd,rk,S,ok,hl,rfl⟩:=g;obtain⟨_,z,ob,xs,g1,g5,g2,g3,g4⟩:=(kI I hd);have hz:xs.size<=sizeLine:=by have:=Paired.length g3;simp at this;lia
 have U:(dN es k y v).length<=sizeLine:=by have:=D9 k y v es;lia
 refine R ?_;unfold dictSet
 (try with_reducible refine kA ?_);refine aK (M1 8 I S ok V F λt=>?_)
 unfold dictSetHashed
 (try with_reducible refine kA ?_);refine aK (OR (I.tok t) g1 g2 g3 g4 rk S ok V F (λY=>?_) (λj e B W=>?_))
 .have G:dN es k y v=es++[(k,y,v)]:=M3 Y;have Jk:pH es k ep=ep+1:=bq (by
   rw[LG];rintro⟨e,m,q⟩;obtain⟨j,J⟩:=yz.mp m;exact Y j e J (pT q))
  rw[Jk] at h;refine aK (wpAny_rule (wpAny_updateDictKeys (hz:=hz) (s:={ s with toks:=t}) g1 g2 (h _ ?_)));refine Ic (I.tok t) (by rw[hd];exact rA) (Heap.SameBut.update ..) ⟨_,pR _ g1 (Obj.isFreed_of_dict (Obj.data_mapDictKeys g2 _))⟩ ⟨U,z,_,_,pR _ g1 (Obj.isFreed_of_dict (Obj.data_mapDictKeys g2 _)),g5.mapDictKeys _,Obj.data_mapDictKeys g2 _,?_,?_⟩
  .rw[G,Array.toList_push];exact WI g3 V rv ok
  .rw[G,eC,l6];refine⟨g4,by simp,λa m b T e=>?_⟩
   simp at T;subst T;obtain⟨x,L,rfl⟩:=fU.mp m;obtain⟨j,J⟩:=yz.mp L;exact Y j x J e
 .have D:=NY (y:=y) g3 g4 B W rv;have Jk:pH es k ep=ep:=bJ (LG.mpr ⟨e,rh B,nh W⟩);rw[Jk] at h;refine aK (wpAny_rule (aK (wpAny_updateDict (s:={ s with toks:=t}) g1 g2 (wpAny_point (h _ ?_)))));refine Ic (I.tok t) (by rw[hd];exact rA) (Heap.SameBut.update ..) ⟨_,pR _ g1 (Obj.isFreed_of_dict (Obj.data_mapDict g2 _))⟩ ⟨U,z,_,_,pR _ g1 (Obj.isFreed_of_dict (Obj.data_mapDict g2 _)),g5.mapDict _,Obj.data_mapDict g2 _,?_,?_⟩
  all_goals simp_all
def SX{Q:Unit->aB->Prop}(G:A.units+9<cLine)(I:Inv X aa Z H s)(g:vT X.K H d y v H')(V:RelV y u)(rv:RelV v r)(h:∀s',Inv X aa Z H' s'->Q () s'):
  wpAny (mX X) A (setItem (.ref d) u r) Q E s:=by
 have J:s.TypeIs (.ref d) "dict":=by
  obtain⟨es,ep,k,hd,rk,U,ok,_⟩:=g;exact(ig.ty I ⟨es,ep,k,hd,rk,U,ok,rfl⟩).1
 unfold setItem
 (try with_reducible refine kA ?_);refine aK (wpAny_sequenceKey J (by decide) (aK (wpAny_callSpecial?_slot (name:=Str.ofString "__setitem__") J slot_dict_setitem (wpAny_call_entry slot_dict_setitem J entry_dict_setitem ?_ (args_dict_setitem _ _ _)))))
 show wpAny _ _ (Builtin.Dict.notOrdered "__setitem__" ⟨[.ref d,u,r],[]⟩ >>= _) _ _ s;refine aK (wpAny_notOrdered_dict J ?_);show wpAny _ _ (dictSet d u r >>= λz=>_) _ _ s
 exact aK (HD (by show A.units+1+8<cLine;lia) I g V rv λs' Y=>bw ⟨.none,rfl,bw (h s' Y)⟩)
def ZE(G:A.units+9<cLine)(I:Inv X aa Z H s)(g:ig X.K H d y o)(U:RelV y u)(h:∀Y s',Inv X aa Z H s'->RelV (o.getD .aI) Y->Q Y s'):
  wpAny (mX X) A (call (.builtin "dict.get") [.ref d,u]) Q E s:=by
 obtain⟨V,hd⟩:=g.ty I;refine wpAny_call_entry PySem.F.slot_dict_get V PySem.F.entry_dict_get ?_ (PySem.F.args_dict_get_2 _ _);show wpAny _ _ (dictGet d u >>= _) _ _ s;refine aK (HC (by show A.units+1+8<cLine;lia) I g U λw t J=>?_)
 cases o with
 |none=>
  cases w with
  |none=>
   show wpAny _ _ (Builtin.Dict.missed d u >>= _) _ _ _;exact aK (wpAny_missed_other hd (bw ⟨.none,rfl,h .none _ (I.tok t) rfl⟩))
  |some w=>exact J.elim
 |some W=>
  cases w with
  |none=>exact J.elim
  |some w=>exact bw ⟨w,rfl,h w _ (I.tok t) J⟩
end
end
section
variable{X:Cx}
def qX(K:aP):R2:=λx y H Q=>∃l b xs J,x=.ref l/\y=.ref b/\c7 K H l xs/\c7 K H b J/\xs.length+J.length<=sizeLine/\∀p,H p=none->Q (.ref p) (upd H p (.lst (xs++J)))
def WJ:dZ X (binaryOp .Add) (qX X.K):=by
 intro aa s Z H x y v u Q I j z h;refine kY λD=>?_
 obtain⟨l,b,xs,d,rfl,rfl,L,R,hz,q⟩:=h;cases j;cases z;obtain⟨aL,r,pl,_⟩:=I.list L;obtain⟨Y,G,B,_⟩:=I.list R;have hl:=r.length;have p:=G.length;obtain⟨⟨cls,dd,data,sl⟩,ho,hc,n,hd⟩:=id pl.isList;obtain⟨⟨V,T,data2,W⟩,Qn,U,O,J⟩:=id B.isList;simp only at hc hd U J;subst hc hd U J;have S:aL.toArray++Y.toArray=(aL++Y).toArray:=by simp
 refine D ?_;refine concat_meets ⟨_,ho,rfl⟩ ⟨_,Qn,rfl⟩ noFill_list_add seq_list_add PySem.F.slot_list_add PySem.F.entry_list_add (PySem.F.args_list_add_2 _ _) (list_addW l b aL.toArray Y.toArray n O dd T sl W (by simp only[fO];lia)) ⟨ho,Qn,?_⟩
 rw[S];exact⟨.ref _,_,I.Kl (t':=s.toks) (r.append G) (by rw[cZ];lia),rfl,q _ I.fresh⟩
def Uw(K:aP)(J:X.K=K:=by rfl):dZ X (binaryOp .Add) (qX K):=J ▸ WJ
end
variable{n:Nat}
instance (z:Str) (n:Int):Decidable (MulOk z n):=by unfold MulOk;infer_instance
noncomputable abbrev rd(x:D):Rv:=.v (.d x)
section
variable{K:aP}{k:Kn}{H:Hp}{x:V}{xs:List V}{d e:D}{vs:List V}{ds:List D}
def ag.u9(h:ag K k vs ds)(ok:ds.all (fj n)=true):ag K ⟨k.F,[],[]⟩ vs ds:=by
 induction h generalizing n with
 |nil=>exact .nil
 |flat e _ V=>rw[rn,jx] at ok;exact .flat e (V ok.2)
 |ref _ _ _=>rw[rn,jx] at ok;obtain⟨ok,_⟩:=ok;cases n <;> cases ok
 |lst e _ _ J Y=>
  rw[rn,jx] at ok;obtain⟨m,rfl,o⟩:=Bf ok.1;exact .lst e (J o) (Y ok.2)
 |tup e _ _ J Y=>
  rw[rn,jx] at ok;obtain⟨m,rfl,o⟩:=Bi ok.1;exact .tup e (J o) (Y ok.2)
 |ao _ _ _ _ _ _ _ _=>rw[rn,jx] at ok;obtain⟨ok,_⟩:=ok;cases n <;> cases ok
theorem Top.u9(h:Top K k H x d)(le:aE k.F H)(ok:fj n d=true):bK K H [x] [d]:=ag.u9 (k:=k.all H) (n:=n) (h.rep le) (by rw[rn,ok];rfl)
def Top.QD(r:ag K k vs ds)(le:aE k.F H)(ok:ds.all (fj n)=true):bK K H vs ds:=ag.u9 (k:=k.all H) (n:=n) (r.all le) ok
mutual
theorem qN:∀{v:V} (j:TK),ag K k [v] [j.d]->ag K ⟨k.F,[],[]⟩ [v] [j.d]
 |_,.inl i,h=>by simp only[TK.d] at h ⊢;rw[h.aR rfl];exact .flat rfl .nil
 |_,.inr x,h=>by simp only[TK.d] at h ⊢;rw[h.aR rfl];exact .flat rfl .nil
 |_,.aI,h=>by simp only[TK.d] at h ⊢;rw[h.aR rfl];exact .flat rfl .nil
 |_,.tp l,h=>by
  simp only[TK.d] at h ⊢;obtain⟨a,ws,rfl,q,r⟩:=h.isTup;exact .tup q (qO l r) .nil
theorem qO:∀{vs:List V} (l:List TK),ag K k vs (TK.dl l)->ag K ⟨k.F,[],[]⟩ vs (TK.dl l)
 |_,[],h=>by simp only[TK.dl] at h ⊢;rw[h.gp];exact .nil
 |_,j::l,h=>by
  simp only[TK.dl] at h ⊢;obtain⟨w,us,rfl,J,Y⟩:=h.cz;exact .cons (qN j J) (qO l Y)
end
def NZ{es:List (TK×V×V)}{kvs:List (TK×D)}(q:es.map (·.1)=kvs.map (·.1))(r:ag K k (es.map (·.2.1)) (kvs.map (·.1.d)))(le:aE k.F H):bK K H (es.map (·.2.1)) (es.map (·.1.d)):=by
 have e1:kvs.map (·.1.d)=TK.dl (kvs.map (·.1)):=by rw[Fb,dy];rfl
 have e2:es.map (·.1.d)=TK.dl (es.map (·.1)):=by rw[Fb,dy];rfl
 rw[e1,<-q] at r;rw[e2];exact qO (k:=k.all H) _ (r.all le)
def N0(h:Paired (Top K k H) xs [d]):∃x,xs=[x]/\Top K k H x d:=by
 cases h with
 |cons r t=>cases t;exact⟨_,rfl,r⟩
def WK(h:Paired (Top K k H) xs [d,e]):∃x y,xs=[x,y]/\Top K k H x d/\Top K k H y e:=by
 cases h with
 |cons r t=>obtain⟨y,rfl,r'⟩:=N0 t;exact⟨_,_,rfl,r,r'⟩
end
noncomputable def o1(f:D->ai Rv):List D->ai Rv
 |[a]=>f a
 |_=>none
noncomputable def o2(f:D->D->ai Rv):List D->ai Rv
 |[a,b]=>f a b
 |_=>none
section
variable{X:Cx}{K:aP}
def qT{r:List V->Hp->VK->Prop}{f:D->ai Rv}(h:∀k H x a y Q,aE k.F H->Top K k H x a->f a=some y->kF K k H y Q->r [x] H Q):b_ K r (o1 f):=λk H xs ds y Q le t e J=>by
 unfold o1 at e;split at e
 .obtain⟨x,rfl,Y⟩:=N0 t;exact h k H x _ y Q le Y e J
 .cases e
def tL{r:List V->Hp->VK->Prop}{f:D->D->ai Rv}(h:∀k H x z a b y Q,aE k.F H->Top K k H x a->Top K k H z b->f a b=some y->kF K k H y Q->r [x,z] H Q):b_ K r (o2 f):=λk H xs ds y Q le t e J=>by
 unfold o2 at e;split at e
 .obtain⟨x,z,rfl,Y,U⟩:=WK t;exact h k H x z _ _ y Q le Y U e J
 .cases e
def u_{r:R2}{f:D->D->ai Rv}(h:∀k H x z a b y Q,aE k.F H->Top K k H x a->Top K k H z b->f a b=some y->kF K k H y Q->r x z H Q):b_ K (lS r) (o2 f):=tL λk H x z a b y Q le Y V e J=>⟨x,z,rfl,h k H x z a b y Q le Y V e J⟩
def wk:D->D->ai Rv
 |.int i,.int j=>some (rd (.int (i+j)))
 |.str x,.str y=>if x.length+y.length<=1000000 then some (rd (.str (x++y))) else none
 |.lst xs,.lst ys=>if xs.length+ys.length<=1000000 then some (.o (.lst (xs++ys))) else none
 |_,_=>none
def vf(K:aP):R2:=λx y H Q=>oK (λi j=>.int (i+j)) x y H Q\/(∃i j,x=.str i/\y=.str j/\i.length+j.length<=sizeLine/\Q (.str (i++j)) H)\/qX K x y H Q
def WL(K:aP)(J:X.K=K):dZ X (binaryOp .Add) (vf K):=xZ.or (nJ.or (Uw K J))
def ZF:b_ K (lS (vf K)) (o2 wk):=u_ λk H x z a b y Q le Y V e J=>by
 cases a with
 |int _=>cases b with
  |int _=>cases e;cases Y.flat rfl;cases V.flat rfl;exact .inl ⟨_,_,rfl,rfl,J.flat le rfl⟩
  |_=>cases e
 |str _=>cases b with
  |str _=>
   have e:(if _ then _ else _)=_:=e
   split at e
   .cases e;cases Y.flat rfl;cases V.flat rfl;exact .inr (.inl ⟨_,_,rfl,rfl,ml (by assumption),J.flat le rfl⟩)
   .cases e
  |_=>cases e
 |lst _=>cases b with
  |lst _=>
   have e:(if _ then _ else _)=_:=e
   split at e
   .cases e;obtain⟨a1,U,rfl,s1,G⟩:=Y.lst le;obtain⟨a2,Lp,rfl,s2,W⟩:=V.lst le;exact .inr (.inr ⟨a1,a2,U,Lp,rfl,rfl,s1,s2,ml (by rw[G.length,W.length];assumption),λp hp=>J.lst le (G.append W) hp⟩)
   .cases e
  |_=>cases e
 |_=>cases e
def eQ(C:Int->Int->Bool)(f:Int->Int->D):D->D->ai Rv
 |.int i,.int j=>if C i j=true then some (rd (f i j)) else none
 |_,_=>none
def Bt{r:R2}{C:Int->Int->Bool}{f:Int->Int->D}{g:Int->Int->V}(hf:∀i j,sL (f i j)=some (g i j))(Y:∀i j H Q,C i j=true->Q (g i j) H->r (.int i) (.int j) H Q):b_ K (lS r) (o2 (eQ C f)):=u_ λk H x z a b y Q le U G e J=>by
 unfold eQ at e;split at e
 .split at e
  .cases e;cases U.flat rfl;cases G.flat rfl;exact Y _ _ _ _ (by assumption) (J.flat le (hf _ _))
  .cases e
 .cases e
abbrev sf:Int->Int->Bool:=λ_ _=>true
def ZG:b_ K (lS (oK λi j=>.int (i - j))) (o2 (eQ sf λi j=>.int (i - j))):=Bt (λ_ _=>rfl) λ_ _ _ _ _ q=>⟨_,_,rfl,rfl,q⟩
def WM:b_ K (lS (rI vL λi j=>.int (i / j))) (o2 (eQ (λ_ j=>decide (0<j/\j<1073741824)) λi j=>.int (i / j))):=Bt (λ_ _=>rfl) λi j _ _ c q=>⟨_,_,rfl,rfl,show vL i j from pT (p:=0<j/\j<1073741824) c,q⟩
def ZH:b_ K (lS (rI (λ_ j=>0<j) λi j=>.int (i%j))) (o2 (eQ (λ_ j=>decide (0<j)) λi j=>.int (i%j))):=Bt (λ_ _=>rfl) λ_ _ _ _ c q=>⟨_,_,rfl,rfl,pT c,q⟩
def ZI:b_ K (lS (rI vM λi j=>.int (i^j.toNat))) (o2 (eQ (λi j=>decide (0<=j/\j<=1000000/\i.natAbs<2^64)) λi j=>.int (i^j.toNat))):=Bt (λ_ _=>rfl) λi j _ _ c q=>⟨_,_,rfl,rfl,show vM i j from pT (p:=0<=j/\j<=1000000/\i.natAbs<2^64) c,q⟩
def Iz{f:Int->Int->Bool}:b_ K (lS (oK λi j=>.bl (f i j))) (o2 (eQ sf λi j=>.bl (f i j))):=Bt (λ_ _=>rfl) λ_ _ _ _ _ q=>⟨_,_,rfl,rfl,q⟩
def tI:D->D->ai Rv
 |.int i,.int j=>if(-(2^64)<i/\i<2^64)\/(-(2^64)<j/\j<2^64) then some (rd (.int (i*j))) else none
 |.str z,.int j=>if MulOk z j then some (rd (.str (Txt.mul z j))) else none
 |_,_=>none
def vj:R2:=λx y H Q=>rI su (λi j=>.int (i*j)) x y H Q\/∃z n,x=.str z/\y=.int n/\MulOk z n/\Q (.str (Txt.mul z n)) H
def WN:dZ X (binaryOp .Mult) vj:=x8.or RM
def ZJ:b_ K (lS vj) (o2 tI):=u_ λk H x z a b y Q le Y V e J=>by
 unfold tI at e;split at e
 .split at e
  .cases e;cases Y.flat rfl;cases V.flat rfl;exact .inl ⟨_,_,rfl,rfl,by assumption,J.flat le rfl⟩
  .cases e
 .split at e
  .cases e;cases Y.flat rfl;cases V.flat rfl;exact .inr ⟨_,_,rfl,rfl,by assumption,J.flat le rfl⟩
  lia
 lia
def tK:D->ai Rv
 |.int i=>some (rd (.int (-i)))
 |_=>none
def ZK:b_ K (KO (rU λi=>.int (-i))) (o1 tK):=qT λk H x a y Q le t e J=>by
 unfold tK at e;split at e
 .cases e;cases t.flat rfl;exact⟨_,rfl,_,rfl,J.flat le rfl⟩
 .cases e
end
end L2
namespace L2
open PySem PySem.Spec PySem.W PySem.Calls PyProof.Rows
variable{P:dq}{w:cL}{o:Expr}{U:TE}{J G B:Pos}{Y:List Expr}{S:Nat}
def fQ(es:List (TK×V×V)):Prop:=∀e∈es,∃x,e.1=.inr x/\e.2.1=.str x
def WO{es:List (TK×V×V)}{xs:List DictEntry}(p:Paired (jh w) es xs)(h:fQ es):∃kvs:List (Str×ak),(∀x∈xs,∃k,(strKind P w).is k x.key=true/\x.hash=(strKind P w).hash k)/\Pairs (strKind P w) xs kvs/\kvs.map (λp=>TK.inr p.1)=es.map (·.1)/\Vals (es.map (·.2.2)) (kvs.map (·.2)):=by
 induction p with
 |nil=>exact⟨[],by simp,.nil,rfl,.nil⟩
 |@cons e x es xs r t I=>
  refine kY λO=>?_
  obtain⟨kvs,T,R,L,D⟩:=I λe m=>h e (pJ _ m)
  obtain⟨z,e1,e2⟩:=h e (Af ..);obtain⟨j,W,q,d⟩:=r;rw[e2] at W;obtain⟨t',W⟩:=W;have F:(strKind P w).is z x.key=true:=by rw[W];show Value.isStrOf z (.str z t')=true;simp[Value.isStrOf]
  refine O ?_;refine⟨(z,x.val)::kvs,λy m=>?_,.cons F rfl R,by rw[cS,cS,L,e1],.cons q D⟩
  rcases y0c.mp m with rfl|m
  .exact⟨z,F,by rw[j,e1];rfl⟩
  .exact T y m
section
variable{X:Cx}{aa:List (aj×Obj)}{Z:St}{H:Hp}{s:aB}{d:aj}{es:List (TK×V×V)}{ep:Nat}
def rM(I:Inv X aa Z H s)(hd:H d=some (.dG es ep))(ht:fQ es):∃kvs,s.heap.DictAt (strKind X.prog X.w) d kvs ep/\Vals (es.map (·.2.2)) (kvs.map (·.2))/\kvs.map (λp=>TK.inr p.1)=es.map (·.1)/\kvs.length<=sizeLine/\(d == sysModules)=false:=by
 refine kY λR=>?_
 obtain⟨hz,lo,ob,xs,g1,g5,g2,g3,g4⟩:=(kI I hd);obtain⟨kvs,V,W,F,T⟩:=WO (P:=X.prog) g3 ht;refine R ?_;refine⟨kvs,⟨ob,xs,g1,g5,g2,λx m=>V x (Lz.mpr m),W,?_⟩,T,F,?_,lo⟩
 all_goals grind [List.length_map]
def Bj(I:Inv X aa Z H s)(hd:H d=some (.dG es ep)):s.TypeIs (.ref d) "dict"/\∀a,Value.ref d=.ref a->∃ob,s.heap.get? a=some ob/\ob.dict=none:=
 OK (x:=.ref d) I rfl (.inr (.inr (.inl ⟨rfl,.inr (.inr ⟨es,ep,hd⟩)⟩)))
def RO{ys:List V}{kvs:List (Str×ak)}{aO:Array ak}(rv:Vals ys (kvs.map (·.2)))(h:ItemsOf (λi v=>∃k,kvs[i]?=some (k,v)) aO kvs.length):Vals ys aO.toList:=by
 have e:aO.toList=kvs.map (·.2):=by
  apply LH;intro i;by_cases hi:i<aO.toList.length
  .have Ce:i<aO.size:=by simpa using hi
   obtain⟨k,W⟩:=h.2 i aO[i] (sk Ce)
   simp_all
  .rw[vI (by lia),vI (by rw[ba];have:=h.1;simp at hi;lia)]
 rw[e];exact rv
def ZL(U:TE):TE:=λZ H Q=>U Z H λx H1=>∃d es ep,x=.ref d/\H1 d=some (.dG es ep)/\fQ es/\∀q,H1 q=none->Q (.ref q) (upd H1 q (.lst (es.map (·.2.2))))
def Ux{p:Pos}(Cd:Gl X "list")(j:X.mg "list"=none)(ho:PE X o U)(hc:X.calm=true)
  (R:starEach [.Call (.Attribute o "values" J) [] [] G] X.env=[(false,eval (.Call (.Attribute o "values" J) [] [] G) X.env)]:=by rfl)
  (z:attributeBase o "values" X.env (eval o X.env)=eval o X.env:=by rfl) (m:(J.endLine == G.line)=true:=by rfl):PE X (.Call (.Name "list" p) [.Call (.Attribute o "values" J) [] [] G] [] B) (ZL U):=by
 intro aa s Z H Q I h;refine Call_ (uy I Cd j om (PyProof.Rows.callWith_type1 ?_ R rfl));rw[R];show wpAny _ _ (spliced ((false,eval (.Call (.Attribute o "values" J) [] [] G) X.env)::[])) _ _ s;refine Calls.spliced_cons (wpAny_Call_method0_late z m (bO (ho aa s Z H _ I h) λv s1 t=>?_))
 refine kY λl=>?_
 obtain⟨x,H1,V,a,d,es,ep,rfl,hd,ht,q⟩:=t;cases a;obtain⟨L,t2⟩:=Bj V hd;obtain⟨kvs,W,D,D3,O,lo⟩:=rM V hd ht;refine l ?_;refine⟨"dict","dict.values",PySem.F.plainAttrs_dict,PySem.F.slot_dict_values,PySem.F.type_dict_values,L,t2,Calls.callWith_builtin rfl (PySem.evalArgs_none ?_)⟩;refine call_meetsIn PySem.F.slot_dict_values L PySem.F.entry_dict_values (PySem.F.args_dict_values_1 _) (meets_dict_values (strKind X.prog X.w) d lo) ⟨⟨kvs,W.dictOf⟩,?_⟩;refine Calls.spliced_nil ?_;refine kdl_call (kdl_values (knd:=strKind X.prog X.w) (r:=s1.heap.objs.size) (d:=d) (kvs:=kvs) (ep:=ep)) (V.ok.hd hc) ⟨⟨_,jb _ rfl,rfl,rfl⟩,W.push _⟩ O λh' tk aO c kp T hi=>?_
 have sz:(s1.heap.push { cls:=.type "dict_values",data:=.fields #[.ref d]}).objs.size=s1.heap.objs.size+1:=by simp[Heap.push]
 rw[show({ s1 with heap:=s1.heap.push { cls:=.type "dict_values",data:=.fields #[.ref d]}}:aB).heap.objs.size=s1.heap.objs.size+1 from sz] at T ⊢;have rv:=RO D hi;refine⟨.ref (s1.heap.objs.size+1),_,V.laid (t':=tk) (λb o e=>kp b o (c8 _ e)) (ug _) (show cw X.prog X.w _ h' _ (.lst (es.map (·.2.2))) from⟨?_,aO.toList,c,rv,by simpa using T⟩),rfl,q _ (V.bN.fresh (ug _))⟩
 grind [List.length_map]
noncomputable def uX:TK->Bool
 |.inr _=>true
 |_=>false
theorem OS{K:fP}{F:Kn}:∀{ws:List (TK×V×V)} {ks:List TK},ws.map (·.1)=ks->ag K F (ws.map (·.2.1)) (ks.map (·.d))->ks.all uX=true->fQ ws
 |[],_,_,_,_=>λe m=>nomatch m
 |w::ws,[],e,_,_=>by cases e
 |w::ws,k::ks,e,r,a=>by
  rw[cS,List.cons.injEq] at e;obtain⟨e1,e2⟩:=e;rw[rn,jx] at a;rw[cS,cS] at r;intro y m;rcases y0c.mp m with rfl|m
  .cases k with
   |inr x=>
    refine⟨x,e1,?_⟩;have:=r.inv.1;obtain⟨y1,W,T⟩:=y;dsimp only at this ⊢;exact this.aR rfl
   |inl _=>cases a.1
   |tp _=>cases a.1
   |aI=>cases a.1
  .exact OS e2 r.inv.2 a.2 y m
end
def Q1:entryFor table "dict_itemiterator.__iter__"=some Builtin.«dict_keyiterator.__iter__»:=
 entryFor_alias (id':="dict_keyiterator.__iter__") (by kernel_rfl) rfl (by decide +kernel) (by kernel_rfl)
section
variable{prog:dq}{w:cL}{A:cW}{E:ak->aB->Prop}{s:aB}{it d:aj}
def L5{i n ep:Nat}{ok T:ak}{Q:ak->aB->Prop}(W:IsItemIter s.heap it d i n ep ok T)(h:Q (.ref it) s):wpAny (model prog w) A (pyIter (.ref it)) Q E s:=by
 have V:s.TypeIs (.ref it) "dict_itemiterator":=⟨_,W,rfl⟩;refine wpAny_pyIter_slot V PySem.F.slot_dict_itemiterator_iter (wpAny_call_entry PySem.F.slot_dict_itemiterator_iter V Q1 ?_ (PySem.F.args_dict_itemiterator_iter_1 _));show wpAny _ _ (ret (.ref it)) _ _ s;exact bw ⟨_,rfl,"dict_itemiterator",_,V,PySem.F.slot_dict_itemiterator_next.lookup,h⟩
def Rt(j:A.handled=none)(it d:aj)(R:d≠it)(kvs:List (Str×ak))(ep:Nat):
  WalksT prog w A it [it,d] [it] kvs.length (λi F=>∃k x key,kvs[i]?=some (k,x)/\(PySem.strKind prog w).is k key=true/\F=#[key,x])
   (λi h=>(∃ok V,IsItemIter h it d i kvs.length ep ok V)/\h.DictAt (PySem.strKind prog w) d kvs ep)
   (λi T h=>(∃ok V,IsItemIterOut h it d (i+1) kvs.length ep ok V T)/\T≠it/\h.DictAt (PySem.strKind prog w) d kvs ep) where
 sub:=λb hb=>by simp at hb;simp[hb]
 frame:=λi h h' ⟨⟨ok,V,a⟩,b⟩ k=>⟨⟨ok,V,k it (by simp) _ a⟩,b.at' λo e=>k d (by simp) o e⟩
 item:=λi s Q E hi ⟨⟨ok,V,a⟩,b⟩ W=>by
  obtain⟨⟨k,x⟩,L⟩:∃p,kvs[i]?=some p:=⟨kvs[i],by simp[hi]⟩
  have lt:it<s.heap.objs.size:=cV a;refine wpAny_pyNext_items_item a b L λkey h' q o1 o2 m kp=>?_
  exact W s.heap.objs.size #[key,x] h' s.toks ⟨k,x,key,L,q,rfl⟩ (bU _) ⟨_,o2,rfl,_,rfl⟩ ⟨⟨_,_,o1⟩,vB lt,b.at' λo e=>kp d o R e⟩ λb o hb e=>kp b o (λz=>hb (by simp[z])) e
 go:=λY k B i T s Q E ⟨⟨ok,V,a⟩,b,c⟩ W=>wpAny_letOwnedTupleGo_items a λh' I D=>W h' ⟨⟨ok,V,I⟩,c.at' λo e=>(D.2 d R).trans e⟩ λb o hb e=>(D.2 b (λz=>hb (by simp[z]))).trans e
 apart:=λi T h ⟨_,b,_⟩=>by simpa using b
 done:=λs Q E ⟨⟨ok,V,a⟩,b⟩ W=>wpAny_pyNext_items_end j a b (by simp) λh' O=>W h' s.toks λb o hb e=>O b o (λz=>hb (by simp[z])) e
 self:=λi s Q E ⟨⟨ok,V,a⟩,_⟩ W=>L5 a W
end
def Dv(es:List (TK×V×V))(i:Nat)(ws:List V):Prop:=∃e,es[i]?=some e/\ws=[e.2.1,e.2.2]
def RP{K:fP}{it d:aj}(t:d≠it)(es:List (TK×V×V))(ep:Nat):
  Turn P w K (.Tuple Y S B) (yH (λH=>H d=some (.dG es ep)/\fQ es) es.length (Dv es)) [it] it (λi h=>i<=es.length/\∃ok F,IsItemIter h it d i es.length ep ok F):=by
 refine MB (FP:=[it]) (wr:=[it]) (by simp) (λb hb=>hb) (λi h st b hb=>?_) (λi h h' st k=>?_) (λX hP hw l hc aa s Z H I hS=>?_) (λA i s Q E st h=>?_)
 .grind
 .obtain⟨ok,F,a⟩:=st;exact⟨ok,F,k it (by simp) _ a⟩
 .subst hP hw l;refine kY λR=>?_
  obtain⟨kvs,q,m,L,D4,lo⟩:=rM I hS.1 hS.2;have l1:kvs.length=es.length:=by have:=congrArg List.length L;simpa using this
  have W:=Rt (prog:=X.prog) (w:=X.w) (A:=X.A) (I.ok.hd hc) it d t kvs ep;rw[l1] at W;refine R ?_;refine⟨_,_,_,_,W,λi st=>⟨st,q⟩,λi h st=>st.1,λi j hp=>?_⟩
  refine kY λR=>?_
  obtain⟨k,x,key,k1,k2,rfl⟩:=hp;have hi:i<es.length:=by have:=(dX.mp k1).1;lia
  have T:es[i]?=some es[i]:=gu hi;refine R ?_;refine⟨[es[i].2.1,es[i].2.2],⟨_,T,rfl⟩,.cons ?_ (.cons ?_ .nil),by show 2<=10;decide⟩
  .obtain⟨z,z1,z2⟩:=hS.2 es[i] (Aj hi);have k3:(kvs.map (λp=>TK.inr p.1))[i]?=(es.map (·.1))[i]?:=by rw[L]
   rw[fB,fB,k1,T] at k3;have D:TK.inr k=es[i].1:=Option.some.inj k3;rw[z1] at D;cases D;rw[z2];exact Value.isStrOf_shape k2
  .obtain⟨u,O,u2⟩:=m.get (i:=i) (x:=es[i].2.2) (by rw[fB,T];rfl)
   rw[fB,k1] at O;cases O;exact u2
 .obtain⟨ok,F,a⟩:=st;exact L5 a h
def OT(U:TE):TI:=λZ H R=>U Z H λx H1=>∃d es ep,x=.ref d/\H1 d=some (.dG es ep)/\fQ es/\R (yH (λH=>H d=some (.dG es ep)/\fQ es) es.length (Dv es)) H1
section
variable{X:Cx}
def Uy{p:Pos}(ho:PE X o U)(j:attributeBase o "items" X.env (eval o X.env)=eval o X.env:=by rfl)(z:(J.endLine == G.line)=true:=by rfl):
  PI X (.Tuple Y S p) (.Call (.Attribute o "items" J) [] [] G) (OT U):=by
 intro aa s Z H R I h;refine wpAny_Call_method0_late j z (bO (ho aa s Z H _ I h) λv s1 m=>?_)
 refine kY λt=>?_
 obtain⟨x,H1,V,l,d,es,ep,rfl,hd,ht,q⟩:=m;cases l;obtain⟨D,a⟩:=Bj V hd;obtain⟨kvs,W,D2,O,D4,lo⟩:=rM V hd ht;have l1:kvs.length=es.length:=by have:=congrArg List.length O;simpa using this
 have ld:d<s1.heap.objs.size:=W.lt_size;refine t ?_;refine⟨"dict","dict.items",PySem.F.plainAttrs_dict,PySem.F.slot_dict_items,PySem.F.type_dict_items,D,a,Calls.callWith_builtin rfl (PySem.evalArgs_none ?_)⟩;refine call_meetsIn PySem.F.slot_dict_items D PySem.F.entry_dict_items (PySem.F.args_dict_items_1 _) (meets_dict_items (PySem.strKind X.prog X.w) d lo) ⟨⟨kvs,W.dictOf⟩,?_⟩;refine wpAny_pyIter_items (knd:=PySem.strKind X.prog X.w) (v:=s1.heap.objs.size) (d:=d) (kvs:=kvs) (ep:=ep) ⟨_,jb _ rfl,rfl,rfl⟩ (W.push _) ?_;have sz:(s1.heap.push { cls:=.type "dict_items",data:=.fields #[.ref d]}).objs.size=s1.heap.objs.size+1:=by simp[Heap.push]
 have T:=jb (s1.heap.push { cls:=.type "dict_items",data:=.fields #[.ref d]}) (o:={ cls:=.type "dict_itemiterator",data:=.fields #[.none,.bool false,.ref d,.int 0 0,.int kvs.length 0,.int ep 0,.none,.none]}) rfl;rw[l1] at T ⊢;refine⟨(s1.heap.push { cls:=.type "dict_items",data:=.fields #[.ref d]}).objs.size,[(s1.heap.push { cls:=.type "dict_items",data:=.fields #[.ref d]}).objs.size],_,_,H1,rfl,V.kept (t':=s1.toks) λb o e=>c8 _ (c8 _ e),RP (it:=(s1.heap.push { cls:=.type "dict_items",data:=.fields #[.ref d]}).objs.size) (d:=d) (by rw[sz];exact g_ (yy ld)) es ep,⟨lq _,.none,.none,T⟩,λb hb=>?_,q⟩
 cases jT.mp hb;have L:s1.heap.objs.size<=(s1.heap.push { cls:=.type "dict_items",data:=.fields #[.ref d]}).objs.size:=by rw[sz];exact ug _
 exact V.kc L (V.bN.fresh L)
end
end L2
namespace L2
open PySem PySem.Spec PyProof.Rows
section
variable{X:Cx}{K:aP}
def CV(K:aP):R2:=λx y H Q=>∃d e,bK K H [x] [d]/\bK K H [y] [e]/\fj 40 d=true/\fj 40 e=true/\Q (.bl (dP d e)) H
def ZM(K:aP)(Y:X.A.units+40<cLine)(J:X.K=K:=by rfl):dZ X (compareOp .Eq) (CV K):=by
 subst J;intro aa s Z H x y v u Q I G W h;obtain⟨d,e,V,U,o1,o2,q⟩:=h;exact(Iy I 40 40 V U o1 o2 G W Y).2 X.prog X.w _ _ ⟨.bl _,H,I,rfl,q⟩
open Classical in
noncomputable def m9 (K:aP) (H:Hp) (dx:D) (u:ak):Bool:=decide (∃x d,RelV x u/\bK K H [x] [d]/\fj 40 d=true/\dP d dx=true)
open Classical in
def OU{aa:List (aj×Obj)}{s:aB}{Z:St}{H:Hp}(I:Inv X aa Z H s){dx d:D}{x:V}{u:ak}(Y:RelV x u)(r:bK X.K H [x] [d])(ok:fj 40 d=true):m9 X.K H dx u=dP d dx:=by
 unfold m9;rw[Ai,y9a];constructor
 .rintro⟨G,d',J,r',U,e⟩;have:=RelV.inj Y J;subst this;rw[b2i I 40 40 r r' ok U];exact e
 .exact λe=>⟨x,d,Y,r,ok,e⟩
def Fc{aa:List (aj×Obj)}{s:aB}{Z:St}{H:Hp}(I:Inv X aa Z H s){dx:D}{ws:List V}{aL:List ak}{ds:List D}(t:Vals ws aL)(J:bK X.K H ws ds)(ok:ds.all (fj 40)=true):aL.any (m9 X.K H dx)=ds.any λd=>dP d dx:=by
 induction t generalizing ds with
 |nil=>
  cases ds with
  |nil=>rfl
  |cons _ _=>have:=J.length;simp at this
 |cons r t Y=>
  cases ds with
  |nil=>have:=J.length;simp at this
  |cons d ds=>
   rw[rn,jx] at ok;rw[List.any_cons,List.any_cons,OU I r J.inv.1 ok.1,Y J.inv.2 ok.2]
def Fd{aa:List (aj×Obj)}{s:aB}{Z:St}{H:Hp}(I:Inv X aa Z H s){dx:D}{y:V}{v:ak}{A:cW}(rv:RelV y v)(W:bK X.K H [y] [dx])(G:fj 40 dx=true)(Y:A.units+40<cLine):
  ∀{ws:List V} {aL:List ak} {ds:List D},Vals ws aL->bK X.K H ws ds->ds.all (fj 40)=true->∀u∈aL,SeqAt.EqAt A s u v (m9 X.K H dx u):=by
 intro ws aL ds t
 induction t generalizing ds with
 |nil=>intro _ _ u m;cases m
 |cons r t U=>
  intro J ok B m;cases ds with
  |nil=>have:=J.length;simp at this
  |cons d ds=>
   rw[rn,jx] at ok;rcases y0c.mp m with rfl|m
   .rw[OU I r J.inv.1 ok.1];exact(Iy I 40 40 J.inv.1 W ok.1 G r rv Y).1
   .exact U J.inv.2 ok.2 B m
noncomputable def ym:D->ai (List D)
 |.lst ds=>some ds
 |.tup ds=>some ds
 |_=>none
def yd(K:aP)(J:Bool):R2:=λx y H Q=>
 (∃d e ds,bK K H [x] [d]/\bK K H [y] [e]/\ym e=some ds/\fj 40 d=true/\ds.all (fj 40)=true/\Q (.bl (if J then !ds.any λz=>dP z d else ds.any λz=>dP z d)) H)\/
 (∃i j,x=.str i/\y=.str j/\Q (.bl (if J then !(!(Builtin.Str.occurrences j i 0 j.length 1).isEmpty) else !(Builtin.Str.occurrences j i 0 j.length 1).isEmpty)) H)\/
 ∃a o,y=.ref a/\ig K H a x o/\Q (.bl (if J then !o.isSome else o.isSome)) H
def ZN(K:aP)(T:X.A.units+41<cLine)(B:X.K=K:=by rfl):dZ X (compareOp .In) (yd K false):=by
 subst B;intro aa s Z H x y v u Q I J Y h;rcases h with⟨d,e,ds,G,F,es,o1,o2,q⟩|⟨i,j,rfl,rfl,q⟩|⟨a,o,rfl,g,q⟩
 .have U:X.A.in1.units+40<cLine:=by show X.A.units+1+40<cLine;lia
  cases F.one with
  |flat z=>cases e <;> first|(cases z;done)|cases es
  |lst V i=>
   cases es;cases Y;obtain⟨aL,r,pl,hz⟩:=I.list V;refine SeqAt.in_listAt (m9 X.K H d) pl.isList (λw hw=>Fd I J G o1 U r i o2 w (by simpa using hw)) ⟨.bl _,H,I,rfl,?_⟩
   rw[show aL.toArray.any (m9 X.K H d)=aL.any (m9 X.K H d) by simp,Fc I r i o2]
   exact q
  |tup V i=>
   cases es;cases Y;obtain⟨aL,r,pl,hz⟩:=I.tuple V;refine SeqAt.in_tupleAt (m9 X.K H d) pl (λw hw=>Fd I J G o1 U r i o2 w (by simpa using hw)) ⟨.bl _,H,I,rfl,?_⟩
   rw[show aL.toArray.any (m9 X.K H d)=aL.any (m9 X.K H d) by simp,Fc I r i o2]
   exact q
  |ao _ _ _ _=>cases es
  |ref _=>cases es
 .exact Sm aa s Z H _ _ v u Q I J Y ⟨i,j,rfl,rfl,q⟩
 .cases Y;exact Lw (by lia) I g J λs3 W=>⟨.bl o.isSome,H,W,rfl,q⟩
def SY(K:aP)(T:X.A.units+41<cLine)(B:X.K=K:=by rfl):dZ X (compareOp .NotIn) (yd K true):=by
 subst B;intro aa s Z H x y v u Q I J Y h;rcases h with⟨d,e,ds,G,F,es,o1,o2,q⟩|⟨i,j,rfl,rfl,q⟩|⟨a,o,rfl,g,q⟩
 .have U:X.A.in1.units+40<cLine:=by show X.A.units+1+40<cLine;lia
  cases F.one with
  |flat z=>cases e <;> first|(cases z;done)|cases es
  |lst V i=>
   cases es;cases Y;obtain⟨aL,r,pl,hz⟩:=I.list V;refine SeqAt.notIn_listAt (m9 X.K H d) pl.isList (λw hw=>Fd I J G o1 U r i o2 w (by simpa using hw)) ⟨.bl _,H,I,rfl,?_⟩
   rw[show aL.toArray.any (m9 X.K H d)=aL.any (m9 X.K H d) by simp,Fc I r i o2]
   exact q
  |tup V i=>
   cases es;cases Y;obtain⟨aL,r,pl,hz⟩:=I.tuple V;refine SeqAt.notIn_tupleAt (m9 X.K H d) pl (λw hw=>Fd I J G o1 U r i o2 w (by simpa using hw)) ⟨.bl _,H,I,rfl,?_⟩
   rw[show aL.toArray.any (m9 X.K H d)=aL.any (m9 X.K H d) by simp,Fc I r i o2]
   exact q
  |ao _ _ _ _=>cases es
  |ref _=>cases es
 .exact Rg aa s Z H _ _ v u Q I J Y ⟨i,j,rfl,rfl,q⟩
 .cases Y;exact WH (by lia) I g J λs3 W=>⟨.bl (!o.isSome),H,W,rfl,q⟩
def Fx(ne:Bool)(a b:D):ai Rv:=if(fj 40 a&&fj 40 b)=true then some (rd (.bl (if ne=true then !dP a b else dP a b))) else none
def e7v:b_ K (lS (CV K)) (o2 (Fx false)):=u_ λk H x z a b y Q le U G e J=>by
 unfold Fx at e;split at e
 .rename_i h
  obtain⟨Y,V⟩:=vD.mp h;cases e;exact⟨_,_,U.u9 le Y,G.u9 le V,Y,V,J.flat le rfl⟩
 .cases e
mutual
def pP:D->ai TK
 |.int i=>some (.inl i)
 |.str x=>some (.inr x)
 |.aI=>some .aI
 |.tup l=>(mS l).map .tp
 |_=>none
def mS:List D->ai (List TK)
 |[]=>some []
 |d::l=>(pP d).bind λk=>(mS l).map λks=>k::ks
end
def jD:D->ai TK
 |.int i=>some (.inl i)
 |.str x=>some (.inr x)
 |.aI=>some .aI
 |.tup l=>(mS l).bind λks=>if TK.ok 8 (.tp ks)=true then some (.tp ks) else none
 |_=>none
mutual
theorem e7w:∀{d:D} {k:TK},pP d=some k->k.d=d
 |.int i,k,e=>by simp only[pP] at e;cases e;simp[TK.d]
 |.str i,k,e=>by simp only[pP] at e;cases e;simp[TK.d]
 |.tup l,k,e=>by
  simp only[pP] at e;obtain⟨ks,J,rfl⟩:=c_.mp e;simp only[TK.d];rw[nR J]
 |.aI,k,e=>by simp only[pP] at e;cases e;simp[TK.d]
 |.ref _,k,e=>by simp[pP] at e
 |.bl _,k,e=>by simp[pP] at e
 |.ty _,k,e=>by simp[pP] at e
 |.lst _,k,e=>by simp[pP] at e
 |.ao _,k,e=>by simp[pP] at e
theorem nR:∀{l:List D} {ks:List TK},mS l=some ks->TK.dl ks=l
 |[],ks,e=>by simp only[mS] at e;cases e;simp[TK.dl]
 |d::l,ks,e=>by
  simp only[mS] at e;obtain⟨k,J,e⟩:=cF.mp e;obtain⟨V,Y,rfl⟩:=c_.mp e;simp only[TK.dl];rw[e7w J,nR Y]
end
def zt{d:D}{k:TK}(e:jD d=some k):k.d=d/\k.ok 8=true:=by
 cases d with
 |int i=>cases e;exact⟨by simp[TK.d],rfl⟩
 |str i=>cases e;exact⟨by simp[TK.d],rfl⟩
 |aI=>cases e;exact⟨by simp[TK.d],rfl⟩
 |tup l=>
  simp only[jD] at e;obtain⟨ks,J,e⟩:=cF.mp e
  grind [TK.d,nR]
 |_=>cases e
noncomputable def aG(kvs:List (TK×D))(k:TK):ai D:=(kvs.find? λJ=>decide (J.1=k)).map (·.2)
theorem Ii{F:Kn}{k:TK}:∀{ws:List (TK×V×V)} {kvs:List (TK×D)},ws.map (·.1)=kvs.map (·.1)->ag K F (ws.map (·.2.2)) (kvs.map (·.2))->(jH ws k=none/\aG kvs k=none)\/∃v d,jH ws k=some v/\aG kvs k=some d/\ag K F [v] [d]
 |[],[],_,_=>.inl ⟨rfl,rfl⟩
 |w::ws,p::kvs,h,r=>by
  rw[cS,cS] at h;injection h with h1 h2;unfold jH aG;rw[Ao,Ao,h1];by_cases e:p.1=k
  .rw[nh e];exact .inr ⟨w.2.2,p.2,rfl,rfl,r.inv.1⟩
  .rw[pS e];exact Ii h2 r.inv.2
 |[],_::_,h,_=>by simp at h
 |_::_,[],h,_=>by simp at h
def uc{k:Kn}{H:Hp}{x y:V}{kvs:List (TK×D)}{d:D}{j:TK}(le:aE k.F H)(T:Top K k H x (.ao kvs))(S:Top K k H y d)(W:jD d=some j):∃a o,x=.ref a/\ig K H a y o/\((o=none/\aG kvs j=none)\/∃v e,o=some v/\aG kvs j=some e/\ag K k [v] [e]):=by
 refine kY λB=>?_
 obtain⟨a,es,ep,rfl,Y,J,U,G⟩:=T.ao le;obtain⟨k1,k2⟩:=zt W;refine B ?_;refine⟨a,jH es j,rfl,⟨es,ep,j,Y,NZ J U le,?_,k2,rfl⟩,Ii J G⟩;have:=S.rep le;rw[<-k1] at this;exact qN (k:=k.all H) j this
def zU(J:Bool)(a b:D):ai Rv:=match b with
 |.ao kvs=>(jD a).map λj=>rd (.bl (if J=true then !(aG kvs j).isSome else(aG kvs j).isSome))
 |.str j=>(match a with
  |.str i=>some (rd (.bl (if J=true then !(!(Builtin.Str.occurrences j i 0 j.length 1).isEmpty) else !(Builtin.Str.occurrences j i 0 j.length 1).isEmpty)))
  |_=>none)
 |e=>(ym e).bind λds=>if(fj 40 a&&ds.all (fj 40))=true then some (rd (.bl (if J=true then !ds.any λz=>dP z a else ds.any λz=>dP z a))) else none
def WQ{k:Kn}{H:Hp}{x:V}{e:D}{ds:List D}(le:aE k.F H)(t:Top K k H x e)(h:ym e=some ds)(ok:ds.all (fj 40)=true):bK K H [x] [e]:=by
 cases e with
 |lst _=>cases h;obtain⟨p,ws,rfl,q,r⟩:=t.lst le;exact .lst q (Top.QD r le ok) .nil
 |tup _=>cases h;obtain⟨p,ws,rfl,q,r⟩:=t.tup le;exact .tup q (Top.QD r le ok) .nil
 |_=>cases h
def PQ(Y:Bool):b_ K (lS (yd K Y)) (o2 (zU Y)):=u_ λk H x z a b y Q le V U e J=>by
 unfold zU at e;split at e
 .obtain⟨j,F,rfl⟩:=c_.mp e;obtain⟨p,o,rfl,g,h⟩:=uc le U V F;refine .inr (.inr ⟨p,o,rfl,g,?_⟩);have z:=J.flat le rfl;rcases h with⟨rfl,h⟩|⟨v,e,rfl,h,_⟩ <;> rw[h] at z <;> exact z
 .split at e
  .cases e;cases V.flat rfl;cases U.flat rfl;exact .inr (.inl ⟨_,_,rfl,rfl,J.flat le rfl⟩)
  .cases e
 .obtain⟨ds,G,e⟩:=cF.mp e;split at e
  .rename_i h
   obtain⟨W,B⟩:=vD.mp h;cases e;exact .inl ⟨_,_,ds,V.u9 le W,WQ le U G B,G,W,B,J.flat le rfl⟩
  .cases e
def ye(J:Bool):R2:=λx y H Q=>(y=.aI/\Q (.bl (if J then !decide (x=.aI) else decide (x=.aI))) H)\/∃a b,x=.bl a/\y=.bl b/\Q (.bl (if J then a != b else a == b)) H
def ZO:dZ X (compareOp .Is) (ye false):=x6.or Zk
def WR:dZ X (compareOp .IsNot) (ye true):=tM.or Wi
def qR:D->Bool
 |.aI=>true
 |_=>false
def zV(J:Bool)(a b:D):ai Rv:=match b with
 |.aI=>some (rd (.bl (if J=true then !qR a else qR a)))
 |.bl b=>(match a with
  |.bl a=>some (rd (.bl (if J=true then a != b else a == b)))
  |_=>none)
 |_=>none
def Uz{k:Kn}{H:Hp}{x:V}{d:D}(h:Top K k H x d):decide (x=.aI)=qR d:=by
 rcases h with h|⟨p,c,rfl,rfl,h⟩
 .cases h.one with
  |flat q=>cases d <;> cases q <;> rfl
  |_=>rfl
 .cases c <;> rfl
def PR(J:Bool):b_ K (lS (ye J)) (o2 (zV J)):=u_ λk H x z a b y Q le V U e Y=>by
 unfold zV at e;split at e
 .cases e;cases U.flat rfl;refine .inl ⟨rfl,?_⟩;rw[Uz V];exact Y.flat le rfl
 .split at e
  .cases e;cases V.flat rfl;cases U.flat rfl;exact .inr ⟨_,_,rfl,rfl,Y.flat le rfl⟩
  .cases e
 .cases e
def CY(K:aP):R2:=λx y H Q=>yf K x y H Q\/yg K x y H Q\/CZ x y H Q\/∃a v,x=.ref a/\ig K H a y (some v)/\Q v H
def WS(G:X.A.units+9<cLine):o5 X (λx y H Q=>∃a v,x=.ref a/\ig X.K H a y (some v)/\Q v H):=by
 intro Y J aa s Z H x y v u Q I B T h U;obtain⟨a,w,rfl,g,q⟩:=h;cases B;exact tail_any (g.ty I).1 PySem.F.slot_dict_getitem.lookup (MH G I g T λS s3 V W=>⟨w,H,V,W,q⟩) U
def Kb(K:aP)(Y:X.A.units+41<cLine)(J:X.K=K):o5 X (CY K):=by
 subst J;exact(Ui X.K rfl).or ((Wj X.K rfl).or (xE.or (WS (by lia))))
def intD:D->ai Int
 |.int k=>some k
 |_=>none
def EU{i:D}{k:Int}(h:intD i=some k):i=.int k:=by
 cases i with
 |int _=>cases h;rfl
 |_=>cases h
def N1{F:Kn}{ws:List V}{ds:List D}{i:Int}{d:D}(r:ag K F ws ds)(e:du ds i=some d):∃v,du ws i=some v/\ag K F [v] [d]:=by
 unfold du at e ⊢;rw[r.length];cases q:tG ds.length i with
 |none=>rw[q] at e;cases e
 |some j=>
  rw[q] at e;exact r.get e
def FX(a i:D):ai Rv:=match a with
 |.lst ds=>(intD i).bind λk=>(du ds k).map rd
 |.tup ds=>(intD i).bind λk=>(du ds k).map rd
 |.str z=>(intD i).bind λk=>if z.length<=1000000 then(du z.cps.toList k).map λc=>rd (.str ⟨#[c]⟩) else none
 |.ao kvs=>(jD i).bind λj=>(aG kvs j).map rd
 |_=>none
def e7x:b_ K (lS (CY K)) (o2 FX):=u_ λk H x z a b y Q le V U e J=>by
 unfold FX at e;split at e
 .obtain⟨i,hi,e⟩:=cF.mp e;cases EU hi;cases U.flat rfl;obtain⟨d,Y,rfl⟩:=c_.mp e;obtain⟨p,ws,rfl,q,r⟩:=V.lst le;obtain⟨v,G,W⟩:=N1 r Y;exact .inl ⟨p,ws,i,v,rfl,rfl,q,G,J.rep le W⟩
 .obtain⟨i,hi,e⟩:=cF.mp e;cases EU hi;cases U.flat rfl;obtain⟨d,Y,rfl⟩:=c_.mp e;obtain⟨p,ws,rfl,q,r⟩:=V.tup le;obtain⟨v,G,W⟩:=N1 r Y;exact .inr (.inl ⟨p,ws,i,v,rfl,rfl,q,G,J.rep le W⟩)
 .obtain⟨i,hi,e⟩:=cF.mp e;cases EU hi;cases U.flat rfl;cases V.flat rfl;split at e
  .obtain⟨c,Y,rfl⟩:=c_.mp e;exact .inr (.inr (.inl ⟨_,i,c,rfl,rfl,ml (by assumption),Y,J.flat le rfl⟩))
  .cases e
 .obtain⟨j,B,e⟩:=cF.mp e;obtain⟨d,Y,rfl⟩:=c_.mp e;obtain⟨p,o,rfl,g,h⟩:=uc le V U B;rcases h with⟨_,h⟩|⟨v,e,rfl,h,r⟩
  .lia
  .rw[h] at Y;cases Y;exact .inr (.inr (.inr ⟨p,v,rfl,g,J.rep le r⟩))
 .cases e
noncomputable def cutD(ds:List D)(lo hi:ai Int):List D:=(ds.drop (HT.cT ds.length 0 lo)).take (HT.cT ds.length ds.length hi - HT.cT ds.length 0 lo)
def C2(K:aP):V->ai Int->ai Int->Hp->VK->Prop:=λx lo hi H Q=>C3 x lo hi H Q\/yh K x lo hi H Q\/yi K x lo hi H Q
def K3(K:aP)(J:X.K=K):pZ X (C2 K):=yo.or ((Uj K J).or (Wk K J))
def K2(a:D)(lo hi:ai Int):ai Rv:=match a with
 |.str z=>if z.length<=1000000 then some (rd (.str (Txt.slice z lo hi))) else none
 |.lst ds=>some (.o (.lst (cutD ds lo hi)))
 |.tup ds=>if HT.cT ds.length 0 lo=0/\HT.cT ds.length ds.length hi=ds.length then none else some (rd (.tup (cutD ds lo hi)))
 |_=>none
def N2{k:Kn}{ws:List V}{ds:List D}{lo hi:ai Int}(r:ag K k ws ds):ag K k (mm ws lo hi) (cutD ds lo hi):=by
 unfold mm cutD;rw[r.length];exact(r.drop _).take _
def e7y{k:Kn}{H:Hp}{x:V}{a:D}{y:Rv}{Q:VK}{lo hi:ai Int}(le:aE k.F H)(t:Top K k H x a)(e:K2 a lo hi=some y)(J:kF K k H y Q):C2 K x lo hi H Q:=by
 unfold K2 at e;split at e
 .split at e
  .cases e;cases t.flat rfl;exact .inl ⟨_,rfl,ml (by assumption),J.flat le rfl⟩
  .cases e
 .cases e;obtain⟨p,ws,rfl,q,r⟩:=t.lst le;exact .inr (.inl ⟨p,ws,rfl,q,λl hl=>J.lst le (N2 r) hl⟩)
 .split at e
  .cases e
  .rename_i Y
   cases e;obtain⟨p,ws,rfl,q,r⟩:=t.tup le;exact .inr (.inr ⟨p,ws,rfl,q,by rw[r.length];exact Y,λl hl=>J.tup le (N2 r) hl⟩)
 .cases e
abbrev GO:=Gx (ai Int)
abbrev yJ:Rp (ai Int) (ai Int):=λ_ _ b a=>b=a
def zE:GO:=λ_ S=>some (.ok none S)
noncomputable def Rv.int:Rv->ai Int
 |.v (.d (.int i))=>some i
 |_=>none
def zF(g:GE):GO:=λU S=>bd (g U S) λr J=>r.int.map λi=>.ok (some i) J
def wm(f:GE)(lo hi:GO):GE:=λU S=>bd (f U S) λr Y=>bd (lo U Y) λl V=>bd (hi U V) λu J=>((iG J (lX r)).bind λd=>K2 d l u).map λy=>.ok y J
def Rv.jq{r:Rv}{i:Int}(h:r.int=some i):r=rd (.int i):=by
 obtain(d|_)|_:=r
 .cases d <;> cases h;rfl
 all_goals cases h
section
variable{W:XW}{q:Nat}{e:Expr}{lo hi:ai Expr}{f:GE}{fl Y:GO}{J V:Pos}
def sU:PO X none (tX yJ K W q zE):=λaa s Z H Q I t=>Wa aa s Z H Q I (BH t λ_ _=>rfl)
def sW(h:PE X e (tE K W q f)):PO X (some e) (tX yJ K W q (zF f)):=λaa s Z H Q I t=>Wb h aa s Z H Q I (by
 obtain⟨k,U,S,F,ok,gk,e,w⟩:=t;refine tX.bd ok gk e w λr R x k1 H1 G g1 B e1 T _=>?_
 obtain⟨i,e2,rfl⟩:=c_.mp e1;cases Rv.jq e2;exact⟨i,(show ag K k1 [x] [.int i] from B).aR rfl,T.now G rfl⟩)
def UA(z:PE X e (tE K W q f))(hl:PO X lo (tX yJ K W q fl))(p:PO X hi (tX yJ K W q Y))(j:X.K=K):PE X (.Subscript e (.Slice lo hi none V) J) (tE K W q (wm f fl Y)):=(Ua (K3 K j) z hl p).mono λZ H Q t=>by
 obtain⟨k,U,S,res,ok,gk,e,w⟩:=t;refine tX.bd ok gk e w λr S1 x k1 H1 F g1 m e1 w1 _=>?_
 obtain⟨k2,B,T,a⟩:=pM F m;refine tX.bd T (g1.up (B q)) e1 (w1.up (B q)) λl S3 l' k3 H3 b g3 r3 R w3 u3=>?_
 cases r3;refine tX.bd b g3 R w3 λu S4 u' k4 H4 G g4 r4 L w4 u4=>?_
 cases r4;obtain⟨y,D,rfl⟩:=c_.mp L;obtain⟨d,I,O⟩:=cF.mp D;exact e7y G.le (E_ G ((a.up u3).up u4) I) O (.fin G w4)
end
end
section
variable{X:Cx}{K:aP}
noncomputable def e_:List Int->Int
 |[]=>0
 |x::xs=>xs.foldl (λa b=>if b<a then b else a) x
def S6(xs:List Int):∀x:Int,(xs.foldl (λa b=>if b<a then b else a) x<=x/\∀y∈xs,xs.foldl (λa b=>if b<a then b else a) x<=y)/\(xs.foldl (λa b=>if b<a then b else a) x=x\/xs.foldl (λa b=>if b<a then b else a) x∈xs):=by
 induction xs with
 |nil=>intro x;exact⟨⟨LI _,λy m=>by cases m⟩,.inl rfl⟩
 |cons z xs J=>
  grind
def Ep{xs:List Int}(h:xs≠[]):e_ xs∈xs/\∀y∈xs,e_ xs<=y:=by
 cases xs with
 |nil=>exact cQ rfl h
 |cons x xs=>
  obtain⟨⟨J,Y⟩,h3⟩:=S6 xs x;refine⟨?_,λy m=>?_⟩
  .rcases h3 with h3|h3
   .show List.foldl _ x xs∈_
    simp_all
   .exact .tail _ h3
  .rcases y0c.mp m with rfl|m
   .exact J
   .exact Y y m
theorem Ml:∀{J:List Int} {aL:List ak},Vals (J.map V.int) aL->∃ps:List (Int×Tok),aL=ps.map (λp=>Value.int p.1 p.2)/\ps.map (·.1)=J
 |[],aL,h=>by
  rw[DE] at h;cases h;exact⟨[],rfl,rfl⟩
 |i::J,aL,h=>by
  rw[cS] at h;cases h with
  |cons r t=>
   obtain⟨ps,e1,e2⟩:=Ml t;obtain⟨tk,rfl⟩:=r;exact⟨(i,tk)::ps,by rw[e1];rfl,by rw[cS,e2]⟩
def UB(K:aP)(hc:X.calm=true:=by rfl)(O:X.K=K:=by rfl):bT X (.builtin "min") (λxs H Q=>∃a J,xs=[.ref a]/\c7 K H a (J.map V.int)/\J≠[]/\Q (.int (e_ J)) H):=by
 subst O;intro aa s Z H xs us Q I r h;obtain⟨a,J,rfl,d,D,q⟩:=h;obtain⟨u,rfl,l⟩:=vals1 r;cases l;obtain⟨aL,rv,p,hz⟩:=I.list d;obtain⟨ps,e1,e2⟩:=Ml rv;subst e1;have hl:0<ps.length:=by
  grind
 have L:(ps.map λp=>Value.int p.1 p.2).toArray=intItems ps.toArray:=by unfold intItems;simp
 have pl:=p.isList;rw[L] at pl;refine min_intList (I.ok.hd hc) pl (by simpa using hl) λv h' tk hv z=>?_
 obtain⟨T,S⟩:=argBest_lt (numAt ps.toArray) (ps.toArray.size - 1);generalize argBest (λi j=>decide (numAt ps.toArray i<numAt ps.toArray j)) (ps.toArray.size - 1)=n at *
 have U:n<ps.length:=by simp at T;lia
 have Cj:∀j (Y:j<ps.length),numAt ps.toArray j=(ps[j]).1:=λj Y=>by unfold numAt;simp[Y]
 have F:v=Value.int (ps[n]).1 (ps[n]).2:=by
  unfold intItems at hv;simp[U] at hv;exact hv.symm
 have hm:e_ J=(ps[n]).1:=by
  obtain⟨W,t⟩:=Ep D;have m:(ps[n]).1∈J:=by rw[<-e2];exact l7 (f:=(·.1)) (Aj U)
  have c1:=t _ m;rw[<-e2] at W;obtain⟨pp,B,G⟩:=fU.mp W;obtain⟨j,Y,R⟩:=List.mem_iff_getElem.mp B;have c2:=S j (by simp;lia)
  rw[Cj n U,Cj j Y,R] at c2;rw[e2] at G;lia
 rw[F];exact⟨.int (e_ J),H,I.kept (h':=h') (t':=tk) λb o e=>z b o e,⟨(ps[n]).2,by rw[hm]⟩,q⟩
noncomputable def kl:List D->ai (List Int)
 |[]=>some []
 |.int i::ds=>(kl ds).map λJ=>i::J
 |_=>none
theorem HE:∀J:List Int,kl (J.map .int)=some J
 |[]=>rfl
 |i::J=>by rw[cS];show(kl (J.map .int)).map _=_;rw[HE J];rfl
theorem MI:∀{ds:List D} {J:List Int},kl ds=some J->ds=J.map .int
 |[],J,e=>by cases e;rfl
 |d::ds,J,e=>by
  cases d with
  |int i=>
   obtain⟨Y,e1,e2⟩:=c_.mp (show(kl ds).map _=some J from e);rw[<-e2,MI e1];rfl
  |_=>cases e
theorem Mb{F:Kn}:∀{ws:List V} {J:List Int},ag K F ws (J.map .int)->ws=J.map .int
 |[],[],_=>rfl
 |[],_::_,h=>by have:=h.length;simp at this
 |_::_,[],h=>by have:=h.length;simp at this
 |w::ws,i::J,h=>by
  rw[cS] at h;have Y:=h.inv.1;have U:=Mb h.inv.2;rw[U,cS];rw[Y.aR rfl]
end
end L2
namespace L2
open PySem PySem.Spec PySem.W PyProof.Rows
section
variable{X:Cx}
noncomputable def Lf(k:String):Bool:=k == "tuple" || k == "list"
def vh(K:fP):List V->Hp->VK->Prop:=λxs H Q=>∃x k q,xs=[x,.ref q]/\Br K H x k/\iE K H q [.ty "tuple",.ty "list"]/\Q (.bl (Lf k)) H
def S7(K:fP)(B:X.K=K:=by rfl):bT X (.builtin "isinstance") (vh K):=by
 subst B;intro aa s Z H xs us Q I r h;obtain⟨x,k,q,rfl,J,F,L⟩:=h;obtain⟨u,m,rfl,V,j⟩:=vals2 r;cases j;obtain⟨aL,rv,⟨R,Y,G,n,W⟩,_⟩:=I.tuple F;obtain⟨oc,T,S,oF⟩:=R;dsimp only at G W;subst G;subst W;obtain⟨p,d,rfl,D,O⟩:=vals2 rv;cases D;cases O;have fin:∀b,b=Lf k->∀tk,EP X aa Z Q (.bool b) { s with toks:=tk}:=λb e tk=>sJ (I.tok _) L e.symm
 cases x with
 |aI=>
  cases V;have J:k="NoneType":=J;subst J;exact kia_tup (b:=false) kitx_none I.jN rA Y (by rfl) (λz=>nomatch z) (fin _ rfl)
 |bl b=>
  cases V;have J:k="bool":=J;subst J;exact kia_tup (b:=false) kitx_bool I.jN rA Y (by rfl) (λz=>nomatch z) (fin _ rfl)
 |int i=>
  obtain⟨t,rfl⟩:=V;have J:k="int":=J;subst J;exact kia_tup (b:=false) kitx_int I.jN rA Y (by rfl) (λz=>nomatch z) (fin _ rfl)
 |str z=>
  obtain⟨t,rfl⟩:=V;have J:k="str":=J;subst J;exact kia_tup (b:=false) kitx_str I.jN rA Y (by rfl) (λz=>nomatch z) (fin _ rfl)
 |ref a=>
  cases V;rcases J with⟨J,ys,U⟩|⟨J,ys,U⟩
  .subst J;obtain⟨aL,_,⟨o,n,e,hc,_⟩,_⟩:=I.list U;exact kia_tup (b:=true) kitx_list I.jN ⟨o,e,hc⟩ Y (by rfl) (λz=>nomatch z) (fin _ rfl)
  .subst J;obtain⟨aL,_,⟨o,e,hc,_⟩,_⟩:=I.tuple U;exact kia_tup (b:=true) kitx_tuple I.jN ⟨o,e,hc⟩ Y (by rfl) (λz=>nomatch z) (fin _ rfl)
 |uE _=>exact False.elim J
 |zM _=>exact False.elim J
 |ty _=>exact False.elim J
end
end L2
namespace L2
open PySem PySem.Spec PyProof.Rows
variable{A:cW}{E:ak->aB->Prop}{s:aB}{ep:Nat}
theorem Ru{Q:Bool->aB->Prop}{P:dq}{w:cL}{d:aj}(J:s.TypeIs (.ref d) "dict")(h:Q false s):wpAny (model P w) A (Builtin.List.listLengthHint (.ref d)) Q E s:=by
 unfold Builtin.List.listLengthHint;refine aK (wpAny_specialOf J F.slot_dict_len.lookup ?_);dsimp only;rw[show splitId "dict.__len__"=some ("dict","__len__") from by decide +kernel]
 dsimp only;refine aK (wpAny_isInstance (b:=true) J (by rw[isSubtype_type];kernel_rfl) ?_)
 rw[bq (by decide)]
 refine wpAny_ite_true (by decide +kernel) (aK (wpAny_typeOf J ?_))
 exact bw h
section
variable{P:dq}{w:cL}{A:cW}{E:ak->aB->Prop}{s:aB}
def S8{n:Nat}{ob:Obj}{xs:Array DictEntry}(B:A.handled=none)(J d:aj)(W:d≠J)(g2:ob.data=.dict xs ep)(hl:xs.size=n):
  Walks P w A J [J,d] [J] n (λi v=>xs[i]?.map (·.key)=some v) (λi h=>h.IsKeyIter J d i n ep/\h.get? d=some ob) where
 sub:=λb hb=>by simp at hb;simp[hb]
 frame:=λ_ _ _ st U=>⟨st.1.at λo e=>U J (by simp) o e,U d (by simp) _ st.2⟩
 item:=λi s Q E hi st Y=>by
  have lt:i<xs.size:=by lia
  refine Mi st.2 g2 hl st.1 lt λh' F G=>?_
  exact Y _ h' s.toks (by rw[sk lt];rfl) ⟨F,(G.2 d W).trans st.2⟩ λb o hb e=>G.extBut b o (λh=>hb (by simp[h])) e
 done:=λs Q E st Y=>MA B st.2 g2 hl st.1 (bU _) λh' V=>Y h' s.toks λb o hb e=>V b o (λh=>hb (by simp[h])) e
 self:=λ_ _ _ _ st Y=>wpAny_pyIter_keyiter st.1 Y
end
theorem N3:∀{ys:List V} {us:List ak},ys.length=us.length->(∀(j:Nat) (y:V) (u:ak),ys[j]?=some y->us[j]?=some u->RelV y u)->Vals ys us
 |[],[],_,_=>.nil
 |y::ys,u::us,hl,h=>.cons (h 0 y u rfl rfl) (N3 (by simpa using hl) λj Y J e1 e2=>h (j+1) Y J (by simpa using e1) (by simpa using e2))
 |[],_::_,h,_=>by simp at h
 |_::_,[],h,_=>by simp at h
section
variable{X:Cx}{aa:List (aj×Obj)}{Z:St}{H:Hp}
theorem Q9{d:aj}{es:List (TK×V×V)}{Q:ak->aB->Prop}(hh:A.handled=none)(I:Inv X aa Z H s)(hd:H d=some (.dG es ep))
  (hQ:∀s',(∀b u,s.heap.get? b=some u->s'.heap.get? b=some u)->s'={ s with heap:=s'.heap,toks:=s'.toks}->(∃aL c,Vals (es.map (·.2.1)) aL/\s'.heap.get? s.heap.objs.size=some { cls:=.type "list",data:=.seq aL.toArray c})->Q (.ref s.heap.objs.size) s') :
  wpAny (mX X) A (call (.type "list") [.ref d]) Q E s:=by
 obtain⟨hz,z,ob,xs,g1,g5,g2,g3,g4⟩:=(kI I hd);have hl:xs.size=es.length:=by have:=Paired.length g3;simpa using this.symm
 have ld:d<s.heap.objs.size:=cV g1;refine callType_codes (Q₁:=λobj t=>obj=.ref s.heap.objs.size/\t={ s with heap:=s.heap.push { cls:=.type "list",data:=.seq #[]}}) F.called_list (F.typeCall_list_1 _) F.entry_list_init (code_list_new _ ⟨rfl,rfl⟩) λobj t q₁=>?_
 obtain⟨rfl,rfl⟩:=q₁;have Y:(s.heap.push { cls:=.type "list",data:=.seq #[]}).get? s.heap.objs.size=some { cls:=.type "list",data:=.seq #[]}:=jb _ rfl;refine⟨⟨_,Y,rfl⟩,F.args_list_init_2 _ _,?_⟩;show wpAny _ _ (do let old <-Builtin.List.listItems (.ref s.heap.objs.size);Builtin.List.listUpdate (.ref s.heap.objs.size) (λ_=>#[]);letGo old.toList.reverse;Builtin.List.listExtendWith (.ref s.heap.objs.size) (.ref d) .none) _ _ _
 refine aK ?_;unfold Builtin.List.listItems;refine aK (wpAny_seqItems Y rfl (bw ?_));show wpAny _ _ (updateSeq s.heap.objs.size (λ_=>#[]) >>= λ_=>letGo (#[]:Array ak).toList.reverse >>= λ_=>Builtin.List.listExtendWith (.ref s.heap.objs.size) (.ref d) .none) _ _ _
 refine aK (wpAny_updateSeq Y rfl ?_);have gT:=pR (Obj.mapSeq (λ_=>(#[]:Array ak))) Y rfl
 refine aK (wpAny_letGo ?_);have S:∀b u,s.heap.get? b=some u->b≠s.heap.objs.size:=λb u e z=>by rw[z] at e;exact jQ _ (cV e)
 have k1:∀b u,s.heap.get? b=some u->((s.heap.push { cls:=.type "list",data:=.seq #[]}).update s.heap.objs.size (Obj.mapSeq (λ_=>(#[]:Array ak)))).get? b=some u:=
  λb u e=>(nY _ _ (Ne.symm (S b u e))).trans (c8 _ e)
 have L:((s.heap.push { cls:=.type "list",data:=.seq #[]}).update s.heap.objs.size (Obj.mapSeq (λ_=>(#[]:Array ak)))).objs.size=s.heap.objs.size+1:=by simp[Heap.update,Heap.push]
 generalize(s.heap.push { cls:=.type "list",data:=.seq #[]}).update s.heap.objs.size (Obj.mapSeq (λ_=>(#[]:Array ak)))=J at *
 have l:Inv X aa Z H { s with heap:=J,toks:=s.toks}:=I.kept k1;have T:Shared.TypeIs { s with heap:=J} (.ref d) "dict":=⟨ob,k1 _ _ g1,g5.1⟩;unfold Builtin.List.listExtendWith;refine aK (wpAny_typeOf T ?_);have ne:s.heap.objs.size≠d:=λe=>jQ _ (e ▸ ld)
 have c1:Builtin.List.listSameRef (.ref s.heap.objs.size) (.ref d)=false:=by simp[Builtin.List.listSameRef,ne]
 have c2:(Value.type "dict" == Value.type "list")=false:=by decide
 have c3:(Value.type "dict" == Value.type "tuple")=false:=by decide
 simp only[c1,c2,c3,Bool.or_false,rm,kS];refine aK (M0 l hd ?_);have a:Shared.TypeIs { s with heap:=J.push { cls:=.type "dict_keyiterator",data:=.fields #[.ref d,.int 0 0,.int es.length 0,.int ep 0]}} (.ref d) "dict":=⟨ob,c8 _ (k1 _ _ g1),g5.1⟩;refine aK (kA (Ru a ?_));refine wpAny_ite_true (by decide +kernel) (aK (wpAny_rule (aK ?_)))
 show wpAny _ _ (updateSeq s.heap.objs.size (·.push .none) >>= λ_=>updateSeq s.heap.objs.size (·.pop)) _ _ _
 have D:=c8 { cls:=.type "dict_keyiterator",data:=.fields #[.ref d,.int 0 0,.int es.length 0,.int ep 0]} gT;refine aK (wpAny_updateSeq D rfl ?_);have O:=pR (Obj.mapSeq (·.push Value.none)) D rfl
 refine wpAny_updateSeq (hz:=by seq_fits) O rfl ?_
 have gW:=pR (Obj.mapSeq (·.pop)) O rfl
 have gJ:(J.push { cls:=.type "dict_keyiterator",data:=.fields #[.ref d,.int 0 0,.int es.length 0,.int ep 0]}).get? J.objs.size=some { cls:=.type "dict_keyiterator",data:=.fields #[.ref d,.int 0 0,.int es.length 0,.int ep 0]}:=jb _ rfl;have Kv:∀b o,b≠s.heap.objs.size->(J.push { cls:=.type "dict_keyiterator",data:=.fields #[.ref d,.int 0 0,.int es.length 0,.int ep 0]}).get? b=some o->
   (((J.push { cls:=.type "dict_keyiterator",data:=.fields #[.ref d,.int 0 0,.int es.length 0,.int ep 0]}).update s.heap.objs.size (Obj.mapSeq (·.push Value.none))).update s.heap.objs.size (Obj.mapSeq (·.pop))).get? b=some o:=
  λb o hb e=>(nY _ _ (Ne.symm hb)).trans ((nY _ _ (Ne.symm hb)).trans e)
 have hJ:J.objs.size≠s.heap.objs.size:=by rw[L];exact Nat.succ_ne_self _
 have dJ:d≠J.objs.size:=g_ (by rw[L];exact yy ld)
 have W:=(S8 (P:=X.prog) (w:=X.w) (A:=A.in1.in1) (n:=es.length) (ep:=ep) hh J.objs.size d dJ g2 hl).toS;have B:s.heap.objs.size∉[J.objs.size,d]:=λm=>by
  grind
 refine bw ⟨plainId_quiet F.plain_extend_loop _,codeAny_extend_loopS W hz _ B _ es.length 0 _ _ _ rfl (lq _) ⟨⟨_,Kv _ _ hJ gJ,rfl,rfl⟩,Kv _ _ (Ne.symm ne) (c8 _ (k1 _ _ g1))⟩ gW (ItemsOf.nil _) λs' Bg c' hm G p=>?_⟩
 obtain⟨m1,m2,m3,m4,m5⟩:=hm;have rT:s'={ s with heap:=s'.heap,toks:=s'.toks}:=by
  cases s'
  lia
 refine⟨rfl,hQ s' (λb u e=>m1 b u (λq=>?_) (Kv b u (S b u e) (c8 _ (k1 b u e)))) rT ⟨Bg.toList,c',?_,by simpa using G⟩⟩
 .rcases y0c.mp q with q|q
  .exact S b u e q
  .rw[jT] at q;have:=cV e
   lia
 .have h2:Bg.size=es.length:=p.1;refine N3 (by simp[h2]) λj y u e1 e2=>?_
  rw[fB] at e1;obtain⟨e,e3,rfl⟩:=c_.mp e1;obtain⟨x,R,x2⟩:=Eo j g3 e3;have U:=p.2 j u (by rw[<-vF];exact e2)
  have R:xs[j]?=some x:=by rw[<-vF];exact R
  have U:Option.map (λx=>x.key) xs[j]?=some u:=U
  rw[R] at U;cases U;exact x2.2.1
def QJ(K:aP):List V->Hp->VK->Prop:=λxs H Q=>∃d es ep,xs=[.ref d]/\H d=some (.dG es ep)/\∀l,H l=none->Q (.ref l) (upd H l (.lst (es.map (·.2.1))))
def RQ(hc:X.calm=true):bT X (.type "list") (QJ X.K):=by
 intro aa s Z H xs us Q I r h;obtain⟨d,es,ep,rfl,hd,q⟩:=h;obtain⟨u,rfl,V⟩:=vals1 r;cases V;refine Q9 (I.ok.hd hc) I hd λs' kp Y J=>?_
 obtain⟨aL,c,rv,g⟩:=J;have hz:=(kI I hd).1;rw[Y];exact⟨.ref s.heap.objs.size,_,I.laid kp (bU _) (show cw X.prog X.w _ s'.heap _ (.lst (es.map (·.2.1))) from⟨by rw[ba];exact hz,aL,c,rv,g⟩),rfl,q _ (I.bN.fresh (bU _))⟩
end
section
variable{X:Cx}{K:aP}
def oM(r:V->List V->Hp->VK->Prop):List V->Hp->VK->Prop:=λvs H Q=>∃x xs,vs=x::xs/\r x xs H Q
noncomputable def eK:List D->ai (List Str)
 |[]=>some []
 |.str x::ds=>(eK ds).map λxs=>x::xs
 |_=>none
theorem MJ:∀xs:List Str,eK (xs.map .str)=some xs
 |[]=>rfl
 |i::J=>by rw[cS];show(eK (J.map .str)).map _=_;rw[MJ J];rfl
theorem Er:∀{ds:List D} {xs:List Str},eK ds=some xs->ds=xs.map .str
 |[],xs,e=>by cases e;rfl
 |d::ds,xs,e=>by
  cases d with
  |str i=>
   obtain⟨J,e1,e2⟩:=c_.mp (show(eK ds).map _=some xs from e);rw[<-e2,Er e1];rfl
  |_=>cases e
theorem He{F:Kn}:∀{ws:List V} {xs:List Str},ag K F ws (xs.map .str)->ws=xs.map .str
 |[],[],_=>rfl
 |[],_::_,h=>by have:=h.length;simp at this
 |_::_,[],h=>by have:=h.length;simp at this
 |w::ws,i::U,h=>by
  rw[cS] at h;have J:=h.inv.1;have Y:=He h.inv.2;rw[Y,cS];rw[J.aR rfl]
theorem Hj:∀{xs:List Str} {aL:List ak},Vals (xs.map V.str) aL->∃ps:List (Str×Tok),aL=ps.map (λp=>Value.str p.1 p.2)/\ps.map (·.1)=xs
 |[],aL,h=>by
  rw[DE] at h;cases h;exact⟨[],rfl,rfl⟩
 |i::J,aL,h=>by
  rw[cS] at h;cases h with
  |cons r t=>
   obtain⟨ps,e1,e2⟩:=Hj t;obtain⟨tk,rfl⟩:=r;exact⟨(i,tk)::ps,by rw[e1];rfl,by rw[cS,e2]⟩
noncomputable def iq:List D->ai (List Bool)
 |[]=>some []
 |.bl b::ds=>(iq ds).map λbs=>b::bs
 |_=>none
theorem Mm:∀{ds:List D} {bs:List Bool},iq ds=some bs->ds=bs.map .bl
 |[],bs,e=>by cases e;rfl
 |d::ds,bs,e=>by
  cases d with
  |bl i=>
   obtain⟨J,e1,e2⟩:=c_.mp (show(iq ds).map _=some bs from e);rw[<-e2,Mm e1];rfl
  |_=>cases e
theorem Mn{F:Kn}:∀{ws:List V} {bs:List Bool},ag K F ws (bs.map .bl)->ws=bs.map .bl
 |[],[],_=>rfl
 |[],_::_,h=>by have:=h.length;simp at this
 |_::_,[],h=>by have:=h.length;simp at this
 |w::ws,i::U,h=>by
  rw[cS] at h;have J:=h.inv.1;have Y:=Mn h.inv.2;rw[Y,cS];rw[J.aR rfl]
def S9(K:aP)(hc:X.calm=true:=by rfl)(J:X.K=K:=by rfl):bT X (.builtin "all") (λxs H Q=>∃(a:aj) (bs:List Bool),xs=[.ref a]/\c7 K H a (bs.map V.bl)/\Q (.bl (bs.all id)) H):=J ▸ SA hc
noncomputable def zG(z:Str):ak->Bool
 |.str y _=>y == z
 |_=>false
def OV(K:aP):V->List V->Hp->VK->Prop:=λx xs H Q=>∃(a:aj) (ys:List Str) (z:Str) (j:Nat),x=.ref a/\xs=[.str z]/\c7 K H a (ys.map V.str)/\ys[j]?=some z/\(∀i y,i<j->ys[i]?=some y->y≠z)/\Q (.int (j:Nat)) H
theorem UC(K:aP)(T:X.K=K:=by rfl):yI X "list.index" (OV K):=by
 subst T;intro aa s Z H x xs v us Q I rx rs h;refine kY λd=>?_
 obtain⟨a,ys,z,j,rfl,rfl,O,L,B,q⟩:=h;cases rx;obtain⟨u,rfl,l⟩:=vals1 rs;obtain⟨t,rfl⟩:=l;obtain⟨aL,rv,p,hz⟩:=I.list O;obtain⟨ps,e1,e2⟩:=Hj rv;subst e1;obtain⟨ob,n,Y,pN,S,J⟩:=p;have hlen:ps.length=ys.length:=by rw[<-e2,ba]
 have D:j<ys.length:=(dX.mp L).1;have R:∀i (hi:i<ps.length),(ps.map λp=>Value.str p.1 p.2)[i]?=some (Value.str ps[i].1 ps[i].2):=λi hi=>by simp[hi]
 have U:∀i (hi:i<ps.length),ys[i]?=some ps[i].1:=λi hi=>by rw[<-e2];simp[hi]
 have hsz:(ps.map λp=>Value.str p.1 p.2).toArray.size=ps.length:=by simp
 have G:ps[j].1=z:=by
  simp_all
 obtain⟨cl,W,da,sl⟩:=ob;cases pN;cases J;have FU:ys.length<=16777216:=by rw[ba,sizeLine_eq] at hz;exact hz
 refine d ?_;refine call_meets F.slot_list_index ⟨_,Y,rfl⟩ F.entry_list_index (F.args_list_index_2 _ _) (SeqAt.list_indexAt a _ n W sl (.str z t) (zG z) j (by rw[hsz];lia) (by lia) ?_ ?_) ⟨Y,?_,?_⟩
 .simp[zG,G]
 .intro i hi m;rw[hsz] at hi;have:=B i _ m (U i hi);simp[zG];exact this
 .intro y V;simp at V;obtain⟨b,t',_,rfl⟩:=V;exact SeqAt.EqAt.str_str b t' z t
 .exact⟨.int (j:Nat),H,I.tok _,⟨_,rfl⟩,q⟩
noncomputable def findS(ys:List Str)(z:Str):ai Nat:=ys.findIdx? (· == z)
def yY{ys:List Str}{z:Str}{j:Nat}(e:findS ys z=some j):ys[j]?=some z/\∀i y,i<j->ys[i]?=some y->y≠z:=by
 unfold findS at e;rw[List.findIdx?_eq_some_iff_getElem] at e;obtain⟨h,V,U⟩:=e;refine⟨by rw[gu h];congr 1;exact eq_of_beq V,λi y hi Y=>?_⟩
 have:=U i hi;obtain⟨hl,J⟩:=dX.mp Y;rw[J] at this;intro G;subst G;simp at this
def N4:V->List V->Hp->VK->Prop:=λx xs H Q=>∃(l:aj) (ys:List Str) (z:Str) (j:Nat),x=.ref l/\xs=[.str z]/\H l=some (.lst (ys.map V.str))/\ys[j]?=some z/\(∀i y,i<j->ys[i]?=some y->y≠z)/\Q .aI (upd H l (.lst ((ys.eraseIdx j).map V.str)))
theorem Es{α β:Type}(f:α->β):∀(xs:List α) (j:Nat),(xs.map f).eraseIdx j=(xs.eraseIdx j).map f
 |[],j=>by simp
 |_::_,0=>rfl
 |x::xs,j+1=>by show f x::(xs.map f).eraseIdx j=f x::(xs.eraseIdx j).map f;rw[Es f xs j]
theorem L0:∀{ps:List (Str×Tok)},Vals ((ps.map (·.1)).map V.str) (ps.map λp=>Value.str p.1 p.2)
 |[]=>.nil
 |p::ps=>.cons ⟨p.2,rfl⟩ L0
theorem S_:yI X "list.remove" N4:=by
 intro aa s Z H x xs v us Q I L rs h;obtain⟨l,ys,z,j,rfl,rfl,V,U,B,q⟩:=h;cases L;obtain⟨u,rfl,R⟩:=vals1 rs;obtain⟨t,rfl⟩:=R;obtain⟨hz,aL,n,rv,hl,J⟩:=I.xK V;obtain⟨ps,e1,e2⟩:=Hj rv;subst e1;have hlen:ps.length=ys.length:=by rw[<-e2,ba]
 have T:j<ys.length:=(dX.mp U).1;have Y:∀i (hi:i<ps.length),ys[i]?=some ps[i].1:=λi hi=>by rw[<-e2];simp[hi]
 have hsz:(ps.map λp=>Value.str p.1 p.2).toArray.size=ps.length:=by simp
 have W:ps[j].1=z:=by
  have:=Y j (by lia)
  rw[U] at this;exact(Option.some.inj this).symm
 refine call_meets F.slot_list_remove ⟨_,J,rfl⟩ F.entry_list_remove (F.args_list_remove_2 _ _) (MeetsSeq.list_remove l _ n (.str z t) (zG z) ?_ j (by rw[hsz];lia) ?_ ?_ (by rw[hsz,hlen];simpa using hz)) ⟨J,?_⟩
 .intro y G;simp at G;obtain⟨b,t',_,rfl⟩:=G;show MeetsSeq.EqGives _ _ (b == z);rw[<-SeqAt.str_beq];exact SeqRoads2.EqGives.str b z t' t
 .simp[zG,W]
 .intro i hi S;rw[hsz] at hi;have:=B i _ S (Y i hi);simp[zG];exact this
 .refine⟨.aI,_,I.xJ (its':=(ps.eraseIdx j).map λp=>Value.str p.1 p.2) V J ?_ ?_ ?_,rfl,q⟩
  .apply Array.toList_inj.mp;simp[Array.toList_eraseIdxIfInBounds,Es]
  .rw[<-e2,Es];exact L0
  .rw[ba];have:=List.length_eraseIdx_le ys j;rw[ba] at hz;lia
end
end L2
namespace L2
open PySem PySem.Spec PySem.W PyProof.Rows
def UD{P:dq}{w:cL}{xs:List DictEntry}{kvs:List (Str×ak)}(p:Pairs (strKind P w) xs kvs):∀{es:List (TK×V×V)},(∀x∈xs,∃k,(strKind P w).is k x.key=true/\x.hash=(strKind P w).hash k)->kvs.map (λp=>TK.inr p.1)=es.map (·.1)->Vals (es.map (·.2.2)) (kvs.map (·.2))->fQ es->Paired (jh w) es xs:=by
 induction p with
 |nil=>
  intro es _ e _ _;cases es with
  |nil=>exact .nil
  |cons _ _=>cases e
 |@cons x U xs kvs F T _ S=>
  intro es G e v t;cases es with
  |nil=>cases e
  |cons a es=>
   rw[cS,cS,List.cons.injEq] at e;cases v with
   |cons L D=>
    refine .cons ?_ (S (λy m=>G y (.tail _ m)) e.2 D λy m=>t y (.tail _ m))
    obtain⟨k,k1,k2⟩:=G x (.head _);obtain⟨z,B,R⟩:=t a (.head _);have J:Value.isStrOf U.1 x.key=true:=F;have W:Value.isStrOf k x.key=true:=k1;cases Y:x.key with
    |str s tk=>
     rw[Y] at J W;have j1:s=U.1:=by simpa[Value.isStrOf] using J
     have j2:s=k:=by simpa[Value.isStrOf] using W
     have j3:U.1=z:=by
      lia
     refine⟨?_,?_,by rw[T];exact L,by rw[B];rfl⟩
     .rw[k2,B,<-j2,j1,j3];rfl
     .rw[R,Y,j1,j3];exact⟨tk,rfl⟩
    |_=>rw[Y] at J;cases J
noncomputable def i7(z:Str)(k:TK):Bool:=decide (k≠.inr z)
theorem N5(z:Str):∀{es:List (TK×V×V)} {kvs:List (Str×ak)},kvs.map (λp=>TK.inr p.1)=es.map (·.1)->Vals (es.map (·.2.2)) (kvs.map (·.2))->(without kvs z).map (λp=>TK.inr p.1)=(es.filter λe=>i7 z e.1).map (·.1)/\Vals ((es.filter λe=>i7 z e.1).map (·.2.2)) ((without kvs z).map (·.2))
 |[],[],_,_=>⟨rfl,.nil⟩
 |[],_::_,e,_=>by cases e
 |_::_,[],e,_=>by cases e
 |a::es,U::kvs,e,v=>by
  rw[cS,cS,List.cons.injEq] at e;cases v with
  |cons G W=>
   obtain⟨J,Y⟩:=N5 z e.2 W;unfold without at *;by_cases h:U.1=z
   .grind [i7]
   .have h':i7 z a.1=true:=by unfold i7;rw[<-e.1];simpa using h
    rw[yx,yx,bJ (by simpa using h),bJ h']
    exact⟨by rw[cS,cS,J,e.1],.cons G Y⟩
theorem OW(z:Str){v:V}:∀{es:List (TK×V×V)} {kvs:List (Str×ak)},kvs.map (λp=>TK.inr p.1)=es.map (·.1)->Vals (es.map (·.2.2)) (kvs.map (·.2))->jH es (.inr z)=some v->∃u,valueAt kvs z=some u/\RelV v u
 |[],[],_,_,h=>by cases h
 |[],_::_,e,_,_=>by cases e
 |_::_,[],e,_,_=>by cases e
 |a::es,J::kvs,e,vs,h=>by
  rw[cS,cS,List.cons.injEq] at e;cases vs with
  |cons U Y=>
   unfold jH at h;unfold valueAt;rw[Ao] at h ⊢;by_cases g:J.1=z
   .simp_all
   .have g':¬a.1=.inr z:=by rw[<-e.1];intro x;cases x;exact g rfl
    rw[pS g'] at h;rw[pS g];exact OW z e.2 Y h
def vk(K:aP):V->List V->Hp->VK->Prop:=λx vs H Q=>∃d es ep z v,x=.ref d/\vs=[.str z]/\H d=some (.dG es ep)/\fQ es/\jH es (.inr z)=some v/\∀J,Q v (upd H d (.dG (es.filter λe=>i7 z e.1) J))
def WT{X:Cx}(K:aP):yI X "dict.pop" (vk K):=by
 intro aa s Z H x xs v us Q I O rs h;refine kY λJ=>?_
 obtain⟨d,es,ep,z,j,rfl,rfl,hd,ht,hv,q⟩:=h;cases O;obtain⟨u,rfl,D⟩:=rs.one;obtain⟨tk,rfl⟩:=D;obtain⟨kvs,W,Y,V,B,lo⟩:=rM I hd ht;obtain⟨w,hw,L⟩:=OW z V Y hv;refine J ?_;refine call_meetsIn PySem.F.slot_dict_pop (Bj I hd).1 PySem.F.entry_dict_pop (PySem.F.args_dict_pop_2 _ _) (meets_dict_pop_there (strKind X.prog X.w) d (k:=z) (by show Value.isStrOf z (.str z tk)=true;simp[Value.isStrOf]) [] (.inl rfl) (by rfl)) ⟨kvs,w,W.dictOf,B,hw,λh' S R=>?_⟩
 refine kY λJ=>?_
 obtain⟨o,xs,G,g1,g2,g3,g4,g5,g6⟩:=S;obtain⟨U,T⟩:=N5 z V Y;obtain⟨hz,_⟩:=(kI I hd);refine J ?_;refine⟨j,_,Ic (ob:=.dG (es.filter λe=>i7 z e.1) G) I (by rw[hd];exact rA) R ⟨_,g1⟩ ⟨?_,lo,o,xs,g1,g2,g3,UD g5 (λx m=>g4 x (Lz.mp m)) U T λe m=>ht e (rb.mp m).1,?_⟩,L,q G⟩
 .exact jy (uh _ _) hz
 .rw[<-U,show(λp:Str×ak=>TK.inr p.1)=TK.inr∘(·.1) from rfl,<-dy]
  exact List.Pairwise.map _ (λa b ne z=>ne (by cases z;rfl)) g6
end L2
namespace L2
open PySem PySem.Spec PyProof.Rows
section
variable{X:Cx}
def vg(K:aP):V->List V->Hp->VK->Prop:=λx xs H Q=>∃a y o,x=.ref a/\xs=[y]/\ig K H a y o/\Q (o.getD .aI) H
def WU(K:aP)(G:X.A.units+41<cLine)(Y:X.K=K:=by rfl):yI X "dict.get" (vg K):=by
 subst Y;intro aa s Z H x xs v us Q I r rs h;obtain⟨a,y,o,rfl,rfl,g,q⟩:=h;obtain⟨u,rfl,U⟩:=Vals.one rs;cases r;exact ZE (by lia) I g U λW s' J V=>⟨o.getD .aI,H,J,V,q⟩
end
end L2
namespace L2
open PySem PySem.Spec PySem.W PyProof.Rows
end L2
namespace L2
open PySem PySem.Spec PyProof.Rows
def HQ{P:dq}{w:cL}{H:Hp}(h:bZ)(hb:sysModules<h.objs.size):cw P w H (h.push { cls:=.type "dict",data:=.dict #[]}) h.objs.size (.dG [] 0):=
 ⟨lq _,oY.mpr (Ne.symm (g_ hb)),_,#[],jb _ rfl,⟨rfl,rfl,rfl⟩,rfl,.nil,Gu⟩
def ZP:TE:=λ_ H Q=>∀p,H p=none->Q (.ref p) (upd H p (.dG [] 0))
end L2
namespace L2
open PySem PySem.Spec PySem.W PyProof.Rows
variable{H:Hp}{ps:List (TK×V×V)}{A:cW}{l:aj}{ys:List V}{E:ak->aB->Prop}{s:aB}
def LW:entryFor table "dict.update.loop"=some Builtin.«dict.update.loop»:=entryFor_of_tree (by kernel_rfl)
def DS:plainId "dict.update.loop"=true:=by decide +kernel
def fG(es:List (TK×V×V))(ps:List (TK×V×V)):List (TK×V×V):=ps.foldl (λes p=>dN es p.1 p.2.1 p.2.2) es
def Ez{d:aj}{o:HO}(h:H d=none):aE H (upd H d o):=λb u e=>by
 grind [dz]
section
variable{X:Cx}{aa:List (aj×Obj)}{Z:St}{H:Hp}
structure jK (K:aP) (H:Hp) (ys:List V) (ps:List (TK×V×V)):Prop where
 len:ys.length=ps.length
 item:∀(i:Nat) p,ps[i]?=some p->∃a,ys[i]?=some (.ref a)/\iE K H a [p.2.1,p.2.2]/\bK K H [p.2.1] [p.1.d]/\p.1.ok 8=true
def RT(es ps:List (TK×V×V)):(fG es ps).length<=es.length+ps.length:=by
 induction ps generalizing es with
 |nil=>exact bU _
 |cons p ps J=>
  grind [D9,fG]
def Mo(K:aP)(h:∀p∈ps,bK K H [p.2.1] [p.1.d]):∀{es:List (TK×V×V)},bK K H (es.map (·.2.1)) (es.map (·.1.d))->bK K H ((fG es ps).map (·.2.1)) ((fG es ps).map (·.1.d)):=by
 induction ps with
 |nil=>exact λr=>r
 |cons p ps J=>
  intro es r;refine J (λq m=>h q (.tail _ m)) ?_
  have hp:=h p (.head _);clear J h
  induction es with
  |nil=>exact hp
  |cons e es J=>
   obtain⟨Y,U⟩:=ag.inv r;show bK K H ((if e.1=p.1 then(e.1,e.2.1,p.2.2)::es else e::dN es p.1 p.2.1 p.2.2).map (·.2.1)) ((if e.1=p.1 then(e.1,e.2.1,p.2.2)::es else e::dN es p.1 p.2.1 p.2.2).map (·.1.d))
   split
   .exact .cons Y U
   .exact .cons Y (J U)
def RU{R:Result->aB->Prop}{d J:aj}(hd:H d=none)(hl:c7 X.K H l ys)(hp:jK X.K H ys ps)(hh:A.handled=none)(hu:A.units+12<cLine)(hn:ps.length<1000)
  (t:∀u,ji X aa (upd H d u) J)
  (fin:∀s ep,Inv X aa Z (upd H d (.dG (fG [] ps) ep)) s->R (.ok (.ret .none)) s) :
  ∀n i ep s tk,ps.length - i=n->i<=ps.length->Inv X aa Z (upd H d (.dG (fG [] (ps.take i)) ep)) s->s.heap.IsListIter J l i->codeAny (mX X) A (.builtin "dict.update.loop" ⟨[.ref d,.ref J,.int (i:Int) tk,.none],[]⟩) R s:=by
 intro n
 induction n with
 |zero=>
  intro i ep s tk hi hi2 I it;have e:i=ps.length:=by lia
  subst e;refine codeAny_builtin LW ?_;rw[Around.under_plainId DS _];show wpAny _ A.in1 (pyNext (.ref J) >>= _) _ _ s;have lH:=(Ez (o:=.dG (fG [] (ps.take ps.length)) ep) hd).seq hl;refine kY λY=>?_
  obtain⟨aL,rv,p,hz⟩:=I.list lH;obtain⟨T,S,f2,L,D,O⟩:=t (.dG (fG [] (ps.take ps.length)) ep);have hlen:=rv.length;have Ci:=hp.len;refine Y ?_;refine aK (wpAny_pyNext_list_end hh it p.isList (by simp;lia) λh' eb=>?_)
  have V:=I.turned (t':=s.toks) (λb o hb e=>eb b o hb e) T S L D O
  rw[List.take_length] at V;exact aK (bw (bw (fin _ ep V)))
 |succ n ih=>
  intro i ep s tk hi hi2 I it;have lt:i<ps.length:=by lia
  obtain⟨a,ya,sq,rk,ok⟩:=hp.item i ps[i] (gu lt);refine codeAny_builtin LW ?_;rw[Around.under_plainId DS _];show wpAny _ A.in1 (pyNext (.ref J) >>= _) _ _ s;have sm:=Ez (o:=.dG (fG [] (ps.take i)) ep) hd;refine kY λY=>?_
  obtain⟨aL,rv,p,hz⟩:=I.list (sm.seq hl);obtain⟨u,hu1,ru⟩:=rv.get ya;obtain rfl:u=Value.ref a:=ru;obtain⟨T,S,f2,L,D,O⟩:=t (.dG (fG [] (ps.take i)) ep);refine Y ?_;refine aK (wpAny_pyNext_list_item it p.isList (x:=.ref a) (by simpa using hu1) λh' zW sb=>?_)
  have V:Inv X aa Z (upd H d (.dG (fG [] (ps.take i)) ep)) { s with heap:=h'}:=I.turned (t':=s.toks) (λb o hb e=>(sb.2 b hb).trans e) T S L D O
  refine kY λY=>?_
  obtain⟨lL,F6,tp,_⟩:=V.tuple (sm.yp sq);obtain⟨w1,w2,rfl,r1,r2⟩:=Vals.two F6;obtain⟨o,ho,hc,n0,tf⟩:∃o,h'.get? a=some o/\o.cls=.type "tuple"/\∃n,o.data=.seq #[w1,w2] n:=by
   obtain⟨o,h1,h2,h3⟩:=tp;exact⟨o,h1,h2,h3⟩
  have hT:({ s with heap:=h'}:aB).TypeIs (.ref a) "tuple":=⟨o,ho,hc⟩;refine Y ?_;refine aK (kA (aK (wpAny_tryCatch ?_)));unfold Builtin.Dict.pairItems;refine aK (wpAny_typeOf hT ?_);rw[bJ (by decide)]
  refine aK (m:=seqItems? (.ref a)) (aK (wpAny_load ho ?_));rw[tf];refine bw (bw ?_);show wpAny _ _ (holding [w1,w2] (dictSet d w1 w2)) _ _ _;refine kA ?_;have I2:=V.pinned (fp:=[J]) (λb hb=>by rw[jT.mp hb];exact t _) (λb hb=>by
   rw[jT.mp hb];obtain⟨U,B,_,W⟩:=zW;exact⟨U,B,λv z=>by cases W.symm.trans z⟩)
  have Gb:ps.take (i+1)=ps.take i++[ps[i]]:=(List.take_append_getElem lt).symm;have hpa:dN (fG [] (ps.take i)) ps[i].1 ps[i].2.1 ps[i].2.2=fG [] (ps.take (i+1)):=by rw[Gb];unfold fG;rw[Gv];rfl
  have hlen:=RT [] (ps.take i);rw[vC,Ak] at hlen;refine HD (H':=upd (upd H d (.dG (fG [] (ps.take i)) ep)) d (.dG (fG [] (ps.take (i+1))) (pH (fG [] (ps.take i)) ps[i].1 ep))) (show A.in1.units+8<cLine from ?_) I2 ⟨_,ep,ps[i].1,aQ,?_,(ag.Gf rk sm),ok,?_,by rw[hpa]⟩ r1 r2 λs' G=>?_
  .lia
  .exact ag.Gf (H:=H) (Mo X.K (λq m=>by
    refine kY λY=>?_
    obtain⟨j,hj⟩:=yz.mp (List.mem_of_mem_take m);obtain⟨_,_,_,r,_⟩:=hp.item j q hj;refine Y ?_;exact r) .nil) sm
  .exact gq (by lia:(fG [] (ps.take i)).length<1000000) (by decide)
  .have eu:upd (upd H d (.dG (fG [] (ps.take i)) ep)) d (.dG (fG [] (ps.take (i+1))) (pH (fG [] (ps.take i)) ps[i].1 ep))=upd H d (.dG (fG [] (ps.take (i+1))) (pH (fG [] (ps.take i)) ps[i].1 ep)):=by
    funext b;unfold upd;split <;> rfl
   rw[eu] at G;obtain⟨U,B,cj,W⟩:=id zW;have F:s'.heap.get? J=some U:=(G.pin (J,U) (ng _ (ng _ (AU (by simp) B)))).1
   refine bw ⟨plainId_quiet DS _,?_⟩;exact ih (i+1) _ s' _ (by lia) lt G.fq ⟨U,F,cj,W⟩
theorem Ta{aL:Array ak}{Q:ai ak->aB->Prop}(pl:PlainL s.heap l aL)(B:A.handled=none)
  (h:∀h' tk,(∀b u,s.heap.get? b=some u->h'.get? b=some u)->Q none { s with heap:=h',toks:=tk}):wpAny (mX X) A (getAttr? (.ref l) "keys") Q E s:=by
 obtain⟨o,n,V,hc,hd,G⟩:=pl;obtain⟨c,ao,W,sl⟩:=o;simp only at hc G hd;subst hc G hd;obtain⟨hp,g,d,tk,os⟩:=s;have Y:∀J,(⟨hp,g,d,J,os⟩:aB).TypeIs (.ref l) "list":=λ_=>⟨_,V,rfl⟩
 have T:=sub_AttributeError;have S:=F.slot_list_getattribute.lookup;have R:=F.slot_list_getattribute.bind (.ref l);have L:=am_list_getattr_none;unfold getAttr? getAttrBy? getAttrBy
 repeat (any_goals (first|assumption|exact Y _|((with_reducible show wpAny _ _ (call (Value.builtin "list.__getattribute__") _ _) _ _ _);refine call_meets F.slot_list_getattribute (Y _) am_entry_list_getattribute (F.args_list_getattribute_2 _ _) (meets_getattribute_miss_list l aL n sl "keys" _ (by rw[typeLookup_type,builtinLookup_eq_fast];kernel_rfl) (by decide) (by size_fits)) ⟨V,B,λh' J e U=>?_⟩)|wp_step))
 obtain⟨t',I,D⟩:=U.there;show wpAny _ _ (getattributeRaised _ _ _ _ _ _ _) _ _ _;unfold getattributeRaised
 repeat (any_goals (first|assumption|wp_step))
 exact h _ _ U.keeps
theorem Q8{Q:ak->aB->Prop}(I:Inv X aa Z H s)(hl:c7 X.K H l ys)(hp:jK X.K H ys ps)(B:A.handled=none)(b:A.units+20<cLine)(z:ps.length<1000)
  (q:∀s' ep,Inv X aa Z (upd H s.heap.objs.size (.dG (fG [] ps) ep)) s'->Q (.ref s.heap.objs.size) s'):wpAny (mX X) A (call (.type "dict") [.ref l]) Q E s:=by
 refine callType_codes (Q₁:=λobj T=>obj=.ref s.heap.objs.size/\T={ s with heap:=s.heap.push { cls:=.type "dict",data:=.dict #[]}}) F.kt_called_dict (F.kt_typeCall_dict_1 _) F.entry_dict_init (kt_code_dict_new _ ⟨rfl,rfl⟩) ?_
 rintro obj T ⟨rfl,rfl⟩;have hd:H s.heap.objs.size=none:=I.bN.fresh (bU _);have V:=I.laid (a:=s.heap.objs.size) (o:=.dG [] 0) (h':=s.heap.push { cls:=.type "dict",data:=.dict #[]}) (t':=s.toks) (λ_ _ q=>c8 _ q) (bU _) (HQ s.heap I.big)
 generalize s.heap.objs.size=d at *;generalize s.heap.push { cls:=.type "dict",data:=.dict #[]}=L at *;have W:=(Bj V aQ).1;obtain⟨aL,rv,pl,hz⟩:=V.list ((Ez hd).seq hl);have U:({ s with heap:=L,toks:=s.toks}:aB).TypeIs (.ref l) "list":=by
  obtain⟨o,n,O,j,_⟩:=pl;exact⟨o,O,j⟩
 refine⟨W,F.args_dict_init_2 _ _,?_⟩;unfold Builtin.«dict.__init__»;refine aK ?_;unfold Builtin.Dict.selfAndRest;refine aK (wpAny_notOrdered_dict W ?_);show wpAny _ _ (pure (d,[Value.ref l])) _ _ _;refine bw ?_;show wpAny _ _ (Builtin.Dict.updateFrom "dict.__init__" d (.ref l) [] .none) _ _ _;unfold Builtin.Dict.updateFrom;refine aK (wpAny_typeOf U ?_);rw[bJ (by decide)]
 refine aK (Ta (X:=X) pl (show A.in1.in1.handled=none from B) λh' tk kp=>?_)
 have Y:Inv X aa Z (upd H d (.dG [] 0)) { s with heap:=h',toks:=tk}:=V.kept (t':=tk) kp;obtain⟨m,p,D,_⟩:=Y.list ((Ez hd).seq hl);show wpAny _ _ (rule _ >>= _) _ _ _;refine aK (wpAny_rule ?_);refine aK (wpAny_pyIter_list D.isList ?_);have S:=Y.kept (h':=h'.push { cls:=.type "list_iterator",data:=.fields #[.ref l,.int 0 0]}) (t':=tk) (λ_ _ e=>c8 _ e)
 have G:d<h'.objs.size:=by
  obtain⟨_,_,o,xs,g1,_⟩:=(show cw X.prog X.w _ h' d (.dG [] 0) from Y.bN d _ aQ);exact cV g1
 refine bw ⟨plainId_quiet DS _,?_⟩;refine RU (A:=A.in1) (J:=h'.objs.size) hd hl hp B (show A.units+1+12<cLine by lia) z (λu=>Y.kc (bU _) ?_) (λs' ep R=>⟨rfl,q s' ep R⟩) ps.length 0 0 _ _ rfl (lq _) S ⟨_,jb _ rfl,rfl,rfl⟩
 rw[dz (vB G)];have:=Y.bN.fresh (bU _)
 rwa[dz (vB G)] at this
def OX(K:aP):List V->Hp->VK->Prop:=λvs H Q=>∃a ys ps,vs=[.ref a]/\c7 K H a ys/\jK K H ys ps/\ps.length<1000/\∀p ep,H p=none->Q (.ref p) (upd H p (.dG (fG [] ps) ep))
def RV(K:aP)(G:X.A.units+41<cLine)(hc:X.calm=true:=by rfl)(Y:X.K=K:=by rfl):bT X (.type "dict") (OX K):=by
 subst Y;intro aa s Z H xs us Q I r h;obtain⟨a,ys,ps,rfl,hl,hp,V,q⟩:=h;obtain⟨u,rfl,U⟩:=vals1 r;cases U;exact Q8 I hl hp (I.ok.hd hc) (by lia) V λs' ep J=>⟨.ref s.heap.objs.size,_,J,rfl,q _ ep (I.bN.fresh (bU _))⟩
end
end L2
namespace L2
open PySem PySem.Spec PySem.W PySem.Calls PyProof.Rows
section
variable{prog:dq}{w:cL}{A:cW}{E:ak->aB->Prop}{s:aB}
def OY{vs:List ak}(h:vs.length<2):(arrOf (SortSt.mk' general' (vs.toArray.zip vs.toArray) #[] 7 none)).map (·.2)=vs.toArray:=by
 grind
def RW{a:aj}{vs:List ak}{n:Nat}{P:Fin->aB->Prop}(ho:s.heap.get? a=some (seqObj "list" vs.toArray n))(J:vs.length<2)
  (h:P (.done (.ret .none)) { s with heap:=sortedHeap s.heap a vs vs.toArray}):wpAny (model prog w) A (Builtin.«list.sort» ⟨[.ref a],[]⟩) P E s:=by
 rw[list_sort_plain];have V:a<s.heap.objs.size:=cV ho;have hz:vs.length<=sizeLine:=by rw[sizeLine_eq];lia
 refine aK (listItems_at ho rfl ?_);refine aK (listUpdate_at ho rfl ?_ (by rw[fO];exact hz) (lq _))
 obtain⟨e1,U⟩:∃e1,(s.heap.update a (Obj.mapSeq λ_=>#[])).get? a=some (seqObj "list" #[] e1):=⟨_,get?_update_seq ho (λ_=>#[])⟩
 refine aK (seqEpoch_at U rfl ?_);refine aK (wpAny_newTuple ?_ (by show vs.length<=_;exact hz))
 refine aK (wpAny_newList ?_ (lq _));refine kA ?_;have G:(((s.heap.update a (Obj.mapSeq λ_=>#[])).push (seqObj "tuple" vs.toArray 0)).push (seqObj "list" #[] 0)).get? a=some (seqObj "list" #[] e1):=by
  rw[Dy _ _ _ (by rw[size_push',LJ];exact g_ (yy V)),Dy _ _ _ (by rw[LJ];exact g_ V)]
  exact U
 show wpAny (model prog w) A _ P E { s with heap:=((s.heap.update a (Obj.mapSeq λ_=>#[])).push (seqObj "tuple" vs.toArray 0)).push (seqObj "list" #[] 0)}
 dsimp only;have Y:vs.toArray.size<2:=by simpa using J
 rw[bJ Y,bJ Y];refine aK (bw ?_);rw[StateT.run_pure];refine aK (bw ?_);dsimp only;refine aK (seqEpoch_at G rfl ?_);refine aK (listUpdate_at G rfl ?_ (lq _) (by rw[OY J,fO];first|exact hz|exact Nat.le_succ_of_le hz))
 simp only[bne_self_eq_false,rm,kS];rw[OY J];exact bw h
def UE{vs:List ak}{h0:bZ}{Q:ak->aB->Prop}(Y:vs.length<2)(h:∀h' c,(∀b o,h0.get? b=some o->h'.get? b=some o)->h'.get? h0.objs.size=some (seqObj "list" vs.toArray c)->Q (.ref h0.objs.size) { s with heap:=h'}):
  wpAny (model prog w) A (call (.builtin "list.sort") [.ref h0.objs.size]) (λ_ s'=>Q (.ref h0.objs.size) s') E { s with heap:=h0.push (seqObj "list" vs.toArray 0)}:=by
 have ho:(h0.push (seqObj "list" vs.toArray 0)).get? h0.objs.size=some (seqObj "list" vs.toArray 0):=jb _ rfl;refine wpAny_call_entry slot_list_sort ⟨_,ho,rfl⟩ entry_list_sort ?_ (args_list_sort _);refine RW (s:={ s with heap:=h0.push (seqObj "list" vs.toArray 0)}) ho Y ⟨_,rfl,?_⟩;have lt:h0.objs.size<(h0.push (seqObj "list" vs.toArray 0)).objs.size:=cV ho;obtain⟨e1,V⟩:∃e1,((h0.push (seqObj "list" vs.toArray 0)).update h0.objs.size (Obj.mapSeq λ_=>#[])).get? h0.objs.size=some (seqObj "list" #[] e1):=⟨_,get?_update_seq ho (λ_=>#[])⟩
 have U:((((h0.push (seqObj "list" vs.toArray 0)).update h0.objs.size (Obj.mapSeq λ_=>#[])).push (seqObj "tuple" vs.toArray 0)).push (seqObj "list" #[] 0)).get? h0.objs.size=some (seqObj "list" #[] e1):=c8 _ (c8 _ V)
 have J:=get?_update_seq U (λ_=>vs.toArray)
 refine h _ _ (λb o e=>?_) J
 have nb:b≠h0.objs.size:=g_ (cV e);unfold sortedHeap;rw[Gw _ _ _ _ nb];refine c8 _ (c8 _ ?_);rw[Gw _ _ _ _ nb];exact c8 _ e
def Tb{P:List ak->Prop}{r:aj}{Q:ak->aB->Prop}(V:∀vs,P vs->vs.length<2)(hc:∀R:List ak->aB->Prop,(∀vs h' tk,P vs->(∀b o,s.heap.get? b=some o->h'.get? b=some o)->R vs { s with heap:=h',toks:=tk})->wpAny (model prog w) A.in1 (collect (.ref r)) R E s)
  (h:∀vs (h0:bZ) (tk:Nat),P vs->(∀b o,s.heap.get? b=some o->h0.get? b=some o)->∀h' c,(∀b o,h0.get? b=some o->h'.get? b=some o)->h'.get? h0.objs.size=some (seqObj "list" vs.toArray c)->Q (.ref h0.objs.size) { s with heap:=h',toks:=tk}):wpAny (model prog w) A (call (.builtin "sorted") [.ref r]) Q E s:=by
 refine Calls.call_function_entry kind_sorted plain_sorted entry_sorted (args_sorted1 _) ?_;unfold Builtin.«sorted»;refine aK (m:=checkCount "sorted" 1 1 _) (bw ?_);refine aK (hc _ λvs h' tk J kp=>?_)
 have hl:=V vs J;refine aK (wpAny_newList ?_ (by rw[sizeLine_eq];lia))
 refine aK (kA (wpAny_mono (UE (s:={ s with heap:=h',toks:=tk}) (h0:=h') (vs:=vs) (Q:=λv s'=>Q v s') hl λU c Y G=>h vs h' tk J kp U c Y G) (λ_ s' x=>?_) λ_ _ e=>e))
 exact bw ⟨_,rfl,x⟩
end
section
variable{X:Cx}
theorem HR:∀{ys:List V} {us:List ak},ys.length=us.length->(∀(j:Nat) (y:V) (u:ak),ys[j]?=some y->us[j]?=some u->RelV y u)->Vals ys us
 |[],[],_,_=>.nil
 |[],_::_,h,_=>by simp at h
 |_::_,[],h,_=>by simp at h
 |y::ys,u::us,h,r=>.cons (r 0 y u rfl rfl) (HR (by simpa using h) λj Y J e1 e2=>r (j+1) Y J (by simpa using e1) (by simpa using e2))
def OZ(K:fP):List V->Hp->VK->Prop:=λxs H Q=>∃a ys,xs=[.ref a]/\(c7 K H a ys\/∃es ep,H a=some (.dG es ep)/\fQ es/\ys=es.map (·.2.1))/\ys.length<2/\∀l,H l=none->Q (.ref l) (upd H l (.lst ys))
def Rl(hc:X.calm=true):bT X (.builtin "sorted") (OZ X.K):=by
 intro aa s Z H xs us Q I r h;obtain⟨a,ys,rfl,J,hl,q⟩:=h;obtain⟨u,rfl,L⟩:=Vals.one r;cases L;refine Tb (P:=Vals ys) (λvs rv=>by have:=rv.length;lia) ?_ λvs h0 tk rv kp h' c W S=>?_
 .intro R hR;rcases J with J|⟨es,ep,hd,ht,rfl⟩
  .obtain⟨aL,rv,pl,hz⟩:=I.list J;refine collect_list pl.isList (hR aL _ s.toks rv λb o e=>?_) (by have:=rv.length;rw[sizeLine_eq];lia)
   have nb:b≠s.heap.objs.size:=g_ (cV e);rw[Gw _ _ _ _ nb];exact c8 _ e
  .obtain⟨kvs,B,d,Y,F,lo⟩:=rM I hd ht;have l1:kvs.length=es.length:=by have:=congrArg List.length Y;simpa using this
   refine kdu_collect (kdl_dict (knd:=strKind X.prog X.w) (kvs:=kvs) (ep:=ep) lo) (I.ok.hd hc) B F λh' tk aO kp hi=>hR _ h' tk ?_ kp
   refine HR (by have:=hi.1;rw[ba,<-l1,<-this];simp) λj y u e1 e2=>?_
   rw[fB] at e1;obtain⟨e,U,rfl⟩:=c_.mp e1;obtain⟨z,D,O⟩:=ht e (rh U);obtain⟨k,v,k1,k2⟩:=hi.2 j u (by rw[<-vF];exact e2)
   have k3:(kvs.map (λp=>TK.inr p.1))[j]?=(es.map (·.1))[j]?:=by rw[Y]
   rw[fB,fB,k1,U] at k3;have G:TK.inr k=e.1:=Option.some.inj k3;rw[D] at G;cases G;rw[O];exact Value.isStrOf_shape k2
 .have e:=rv.length;have V:Inv X aa Z H { s with heap:=h0,toks:=tk}:=I.kept kp;have T:=V.laid (h':=h') (t':=tk) (o:=.lst ys) W (bU _) (show cw X.prog X.w _ h' _ (.lst ys) from⟨by rw[sizeLine_eq];lia,vs,c,rv,S⟩)
  exact⟨.ref h0.objs.size,_,T,rfl,q _ (V.bN.fresh (bU _))⟩
end
end L2
namespace L2
open PySem PySem.Spec PySem.W PyProof.Rows
variable{p:Array Nat}{i m k l:Nat}
def pw(lt:Nat->Nat->Bool)(n:Nat){α:Type}:KasT α->(α->Prop)->Prop
 |.ret a,P=>P a
 |.ask i j k,P=>i<n/\j<n/\i≠j/\pw lt n (k (lt i j)) P
section
variable{lt:Nat->Nat->Bool}{n:Nat}
theorem EV{α:Type}{P Q:α->Prop}(h:∀a,P a->Q a):∀{t:KasT α},pw lt n t P->pw lt n t Q
 |.ret a,p=>h a p
 |.ask i j k,p=>⟨p.1,p.2.1,p.2.2.1,EV h p.2.2.2⟩
theorem zu{α β:Type}{P:α->Prop}{Q:β->Prop}{f:α->KasT β}(h:∀a,P a->pw lt n (f a) Q):∀{t:KasT α},pw lt n t P->pw lt n (t.bind f) Q
 |.ret a,p=>h a p
 |.ask i j k,p=>⟨p.1,p.2.1,p.2.2.1,zu h p.2.2.2⟩
structure Ord (lt:Nat->Nat->Bool) (n:Nat):Prop where
 yv:∀i j,i<n->j<n->i≠j->lt i j=false->lt j i=true
 tr:∀{i j k},lt i j=true->lt j k=true->lt i k=true
structure n_ (n:Nat) (p:Array Nat):Prop where
 pm:p.Perm (List.toArray (List.range n))
def n_.size(h:n_ n p):p.size=n:=by have:=h.pm.size_eq;simpa using this
def n_.below(h:n_ n p)(hi:i<n):p.getD i 0<n:=by
 have J:=h.size;have e:p.getD i 0=p[i]'(by lia):=by simp[Array.getD,J,hi]
 rw[e];have:p[i]'(by lia)∈p:=Array.getElem_mem _
 have:=h.pm.mem_iff.mp this
 simp_all
theorem n_.inj(h:n_ n p){j:Nat}(hi:i<n)(U:j<n)(e:p.getD i 0=p.getD j 0):i=j:=by
 have J:=h.size;have nd:p.toList.Nodup:=(Array.perm_iff_toList_perm.mp h.pm).nodup_iff.mpr (by simpa using LF)
 have Y:p.getD i 0=p.toList[i]'(by simp;lia):=by simp[Array.getD,J,hi]
 have V:p.getD j 0=p.toList[j]'(by simp;lia):=by simp[Array.getD,J,U]
 rw[Y,V] at e;exact(DC nd).mp e
def n_.ask{α:Type}{P:α->Prop}(h:n_ n p){i j:Nat}{k:Bool->KasT α}(hi:i<n)(J:j<n)(Y:i≠j)(q:pw lt n (k (lt (p.getD i 0) (p.getD j 0))) P):pw lt n (.ask (p.getD i 0) (p.getD j 0) k) P:=⟨h.below hi,h.below J,λz=>Y (h.inj hi J z),q⟩
def o6(lt:Nat->Nat->Bool)(p:Array Nat)(k:Nat):Prop:=∀i j,i<j->j<k->lt (p.getD i 0) (p.getD j 0)=true
def yF(lt:Nat->Nat->Bool)(p:Array Nat)(k:Nat):Prop:=∀i j,i<j->j<k->lt (p.getD j 0) (p.getD i 0)=true
variable(O:Ord lt n){p:Array Nat}
include O
theorem UG(V:1<=m)(h:o6 lt p m)(e:lt (p.getD (m - 1) 0) (p.getD m 0)=true):o6 lt p (m+1):=by
 intro i j J U;by_cases z:j=m
 .subst z;by_cases Y:i=j - 1
  .rw[Y];exact e
  .exact O.tr (h i (j - 1) (by lia) (by lia)) e
 .exact h i j J (by lia)
theorem UH(V:1<=m)(h:yF lt p m)(e:lt (p.getD m 0) (p.getD (m - 1) 0)=true):yF lt p (m+1):=by
 intro i j J U;by_cases z:j=m
 .subst z;by_cases Y:i=j - 1
  .rw[Y];exact e
  .exact O.tr e (h i (j - 1) (by lia) (by lia))
 .exact h i j J (by lia)
variable(hp:n_ n p)
include hp
theorem IA:∀f m,1<=m->m+f<=n->o6 lt p m->pw lt n (kas_asc p f m) λr=>m<=r/\r<=m+f/\o6 lt p r/\(r<m+f->lt (p.getD r 0) (p.getD (r - 1) 0)=true)
 |0,m,_,_,h=>⟨bU _,bU _,h,λz=>cQ z (jQ _)⟩
 |f+1,m,h1,hm,h=>by
  refine hp.ask (by lia) (by lia) (by lia) ?_
  cases e:lt (p.getD m 0) (p.getD (m - 1) 0) with
  |true=>exact⟨bU _,by lia,h,λ_=>e⟩
  |false=>
   have:=O.yv _ _ (hp.below (by lia)) (hp.below (by lia)) (λz=>by have:=hp.inj (by lia) (by lia) z;lia) e
   exact EV (λr J=>⟨by lia,by lia,J.2.2.1,λz=>J.2.2.2 (by lia)⟩) (IA f (m+1) (by lia) (by lia) (UG O h1 h this))
theorem N6:∀f m,1<=m->m+f<=n->yF lt p m->pw lt n (kas_desc f p m 0) λr=>r.1=p/\r.2.2=0/\m<=r.2.1/\r.2.1<=m+f/\yF lt p r.2.1
 |0,m,_,_,h=>⟨rfl,rfl,bU _,bU _,h⟩
 |f+1,m,h1,hm,h=>by
  refine hp.ask (by lia) (by lia) (by lia) ?_
  cases e:lt (p.getD m 0) (p.getD (m - 1) 0) with
  |true=>exact EV (λr J=>⟨J.1,J.2.1,by lia,by lia,J.2.2.2.2⟩) (N6 f (m+1) (by lia) (by lia) (UH O h1 h e))
  |false=>
   have:=O.yv _ _ (hp.below (by lia)) (hp.below (by lia)) (λz=>by have:=hp.inj (by lia) (by lia) z;lia) e
   refine hp.ask (by lia) (by lia) (by lia) ?_
   rw[this];exact⟨rfl,rfl,bU _,Gp _ _,h⟩
omit O in
theorem O0(hm:m<=n)(i:Nat):(kas_rev p 0 m).getD i 0=if i<m then p.getD (m - 1 - i) 0 else p.getD i 0:=by
 have J:=hp.size;have:=getElem?_mirror_all (xs:=p) (i:=0) (j:=m) (by lia) i
 have g:∀(q:Array Nat) (j:Nat),q.getD j 0=(q[j]?).getD 0:=λq j=>by
  simp_all
 unfold kas_rev;rw[g,this];simp only[lq,true_and,Nat.zero_add];split
 .rw[g]
 .rw[g]
omit O in
theorem N7(m:Nat):n_ n (kas_rev p 0 m):=⟨(mirror_perm _ _ _ _).trans hp.pm⟩
theorem WV(hm:m<=n)(h:yF lt p m):o6 lt (kas_rev p 0 m) m:=by
 intro i j Y J;rw[O0 hp hm,O0 hp hm,bJ (by lia),bJ J]
 exact h _ _ (by lia) (by lia)
theorem HS(J:k<n)(Y:o6 lt p k):∀f l r,l<=r->r<=k->r - l<=f->(∀i,i<l->lt (p.getD i 0) (p.getD k 0)=true)->(∀i,r<=i->i<k->lt (p.getD k 0) (p.getD i 0)=true)->
  pw lt n (kas_place p k f l r) λx=>x<=k/\(∀i,i<x->lt (p.getD i 0) (p.getD k 0)=true)/\∀i,x<=i->i<k->lt (p.getD k 0) (p.getD i 0)=true
 |0,l,r,U,G,W,a,b=>⟨by lia,a,λi hi J=>b i (by lia) J⟩
 |f+1,l,r,U,G,W,a,b=>by
  unfold kas_place;split
  .exact⟨by lia,a,λi hi J=>b i (by lia) J⟩
  .refine hp.ask J (by lia) (by lia) ?_
   have hm:(l+r) / 2<k:=by lia
   cases e:lt (p.getD k 0) (p.getD ((l+r) / 2) 0) with
   |true=>
    refine HS J Y f l _ (by lia) (by lia) (by lia) a λi hi V=>?_
    by_cases z:i=(l+r) / 2
    .rw[z];exact e
    .exact O.tr e (Y _ _ (by lia) V)
   |false=>
    have e2:=O.yv _ _ (hp.below J) (hp.below (by lia)) (λz=>by have:=hp.inj J (by lia) z;lia) e
    refine HS J Y f _ r (by lia) (by lia) (by lia) (λi hi=>?_) b
    by_cases z:i=(l+r) / 2
    .rw[z];exact e2
    .exact O.tr (Y _ _ (by lia) (by lia)) e2
omit O in
theorem O1(J:k<n)(hl:l<=k)(i:Nat):(bubble p k (k - l)).getD i 0=if i=l then p.getD k 0 else if l<i/\i<=k then p.getD (i - 1) 0 else p.getD i 0:=by
 have Y:=hp.size;have:=getElem?_bubble (xs:=p) (src:=k) (by lia) (k - l) (by lia) i
 have g:∀(q:Array Nat) (j:Nat),q.getD j 0=(q[j]?).getD 0:=λq j=>by
  simp_all
 rw[g,this,show k - (k - l)=l by lia]
 split
 .rw[g]
 .split
  .rw[g]
  .rw[g]
theorem WW(J:k<n)(hl:l<=k)(V:o6 lt p k)(a:∀i,i<l->lt (p.getD i 0) (p.getD k 0)=true)(b:∀i,l<=i->i<k->lt (p.getD k 0) (p.getD i 0)=true):o6 lt (bubble p k (k - l)) (k+1):=by
 intro i j U Y;rw[O1 hp J hl,O1 hp J hl]
 grind [o6]
omit hp in
theorem O2:∀f p k,n_ n p->k+f=n->o6 lt p k->pw lt n (kas_bin f p k) λq=>n_ n q/\o6 lt q n
 |0,p,k,hp,e,h=>by subst e;exact⟨hp,h⟩
 |f+1,p,k,hp,e,h=>by
  refine zu (λl hl=>?_) (HS O hp (by lia) h k 0 k (lq _) (bU _) (by lia) (λi hi=>by lia) λi hi J=>by lia)
  exact O2 f _ (k+1) ⟨(bubble_perm _ _ _).trans hp.pm⟩ (by lia) (WW O hp (by lia) hl.1 h hl.2.1 hl.2.2)
theorem UI(L:1<=n):pw lt n (kas_count n p) λr=>1<=r.1/\r.1<=n/\n_ n r.2/\o6 lt r.2 r.1:=by
 refine zu (λm hm=>?_) (IA O hp (n - 1) 1 (bU _) (by lia) λi j F U=>by lia)
 obtain⟨Y,D,J,B⟩:=hm;by_cases e:m=n
 .rw[bJ (by simpa using e)]
  exact⟨Y,by show m<=n;lia,hp,J⟩
 .rw[bq (by simpa using e)]
  by_cases g:m > 1
  .rw[bJ g];refine hp.ask (by lia) (by lia) (by lia) ?_
   rw[J 0 (m - 1) (by lia) (by lia)]
   exact⟨Y,by show m<=n;lia,hp,J⟩
  .rw[bq g];have V:m=1:=by lia
   subst V;have d2:yF lt p 2:=λi j F U=>by
    have:i=0/\j=1:=by lia
    rw[this.1,this.2];exact B (by lia)
   refine zu (λr G=>?_) (N6 O hp (n - (1+1)) (1+1) (by lia) (by lia) d2)
   obtain⟨T,S,I,q,R⟩:=G;rw[bq (by rw[S];exact jQ 0),T]
   refine zu (λx W=>?_) (IA O (N7 hp r.2.1) (n - r.2.1) r.2.1 (by lia) (by lia) (WV O hp (by lia) R))
   exact⟨by show 1<=x;lia,by show x<=n;lia,N7 hp _,W.2.2.1⟩
omit hp in
theorem N8(V:1<=n):pw lt n (kas_sort n) λq=>n_ n q/\o6 lt q n:=by
 refine zu (λr U=>?_) (UI O ⟨Array.Perm.refl _⟩ V)
 obtain⟨G,W,Y,J⟩:=U;have e:max r.1 1=r.1:=by lia
 rw[e];split
 .exact O2 O (n - r.1) r.2 r.1 Y (by lia) J
 .have:r.1=n:=by lia
  rw[this] at J;exact⟨Y,J⟩
end
variable{ks:List (Int×Int)}
def Ab(lt:Nat->Nat->Bool){α:Type}:KasT α->α
 |.ret a=>a
 |.ask i j k=>Ab lt (k (lt i j))
theorem Fe{lt:Nat->Nat->Bool}{n:Nat}{α:Type}{P:α->Prop}:∀{t:KasT α},pw lt n t P->P (Ab lt t)/\pw lt n t λa=>a=Ab lt t
 |.ret _,p=>⟨p,rfl⟩
 |.ask _ _ _,p=>⟨(Fe p.2.2.2).1,p.1,p.2.1,p.2.2.1,(Fe p.2.2.2).2⟩
theorem O3{lt:Nat->Nat->Bool}{n:Nat}{α:Type}{J:Nat->Nat->(Bool->aB->Prop)->aB->Prop}{Q:α->aB->Prop}{s:aB}(hc:∀i j C,i<n->j<n->i≠j->C (lt i j) s->J i j C s):∀{t:KasT α},pw lt n t (λa=>Q a s)->t.kasWp J Q s
 |.ret _,p=>p
 |.ask i j k,p=>hc i j _ p.1 p.2.1 p.2.2.1 (O3 hc p.2.2.2)
noncomputable def FY(x y:Int×Int):Bool:=decide (x.1<y.1\/(x.1=y.1/\x.2<y.2))
def ltAt(ks:List (Int×Int))(i j:Nat):Bool:=FY (ks.getD i (0,0)) (ks.getD j (0,0))
def O4(nd:ks.Nodup):Ord (ltAt ks) ks.length:=by
 refine⟨λi j hi V U h=>?_,λJ Y=>?_⟩
 all_goals grind [List.getElem_inj,ltAt,FY]
def dB(ks:List (Int×Int)):List Nat:=(Ab (ltAt ks) (kas_sort ks.length)).toList
def fE(h:bZ)(vs:List ak)(ks:List (Int×Int)):Prop:=vs.length=ks.length/\∀i,i<ks.length->∃x o a b t t' z m,vs.getD i Value.none=.ref x/\h.get? x=some o/\o.cls=.type "tuple"/\o.data=.seq #[.int a t,.int b t',z] m/\ks.getD i (0,0)=(a,b)
def fE.keep{h h':bZ}{vs:List ak}(T:fE h vs ks)(k:∀b o,h.get? b=some o->h'.get? b=some o):fE h' vs ks:=⟨T.1,λi hi=>by
 obtain⟨x,o,a,b,t,t',z,m,J,Y,r⟩:=T.2 i hi;exact⟨x,o,a,b,t,t',z,m,J,k _ _ Y,r⟩⟩
section
variable{prog:dq}{w:cL}{A:cW}{E:ak->aB->Prop}{s:aB}{vs:List ak}{ks:List (Int×Int)}
def WX(T:fE s.heap vs ks)(nd:ks.Nodup)(i j:Nat)(C:Bool->aB->Prop)(hi:i<ks.length)(J:j<ks.length)(L:i≠j)(h:C (ltAt ks i j) s):kas_ask prog w A (tuples' true) vs i j C s:=by
 obtain⟨x,o,a,b,t,t',z,m,V,U,I,G,W⟩:=T.2 i hi;obtain⟨y,p,c,d,u,Y,R,D,y1,B,O,F,S⟩:=T.2 j J;have hl:ltAt ks i j=decide (a<c\/(a=c/\b<d)):=by unfold ltAt FY;rw[W,S]
 rw[hl] at h;unfold kas_ask;rw[V,y1];refine kat_lt U G B F ?_;show KatLex prog w A true _ C [(.int a t,.int c u),(.int b t',.int d Y),(z,R)] 0 s;refine kat_cons (wpAny_eqBool_int (kat_go (λe=>?_) λe=>?_))
 .have e:a=c:=by simpa using e
  refine kat_yes (kat_cons (wpAny_eqBool_int (kat_go (λe2=>?_) λe2=>?_)))
  .grind [List.getElem_inj]
  .have e2:b≠d:=by simpa using e2
   refine kat_no (kat_one _ _ (wpAny_lt_int ?_));rw[show decide (a<c\/(a=c/\b<d))=decide (b<d) by simp[e]] at h
   exact h
 .have e:a≠c:=by simpa using e
  refine kat_no (oneLt_int ?_);rw[show decide (a<c\/(a=c/\b<d))=decide (a<c) by simp[e]] at h
  exact h
theorem M4{h:bZ}:∀{vs:List ak} {ks:List (Int×Int)},fE h vs ks->∃fs,KatTups h vs fs/\fs.length=vs.length/\∀v∈fs,∃a t,v=Value.int a t
 |[],_,_=>⟨[],.nil,rfl,λv m=>by cases m⟩
 |v::vs,[],T=>by have:=T.1;simp at this
 |v::vs,k::ks,T=>by
  obtain⟨fs,Y,V,U⟩:=M4 (h:=h) (vs:=vs) (ks:=ks) ⟨by have:=T.1;simpa using this,λi hi=>by
   obtain⟨x,o,a,b,t,t',z,m,r⟩:=T.2 (i+1) (by simpa using hi)
   exact⟨x,o,a,b,t,t',z,m,by simpa using r⟩⟩
  obtain⟨x,o,a,b,t,t',z,m,J,G,W,B,_⟩:=T.2 0 (by simp)
  have J:v=.ref x:=by simpa using J
  subst J;refine⟨.int a t::fs,.cons G W B (by simp) Y,by simp[V],λv m=>?_⟩
  rcases y0c.mp m with rfl|m
  .exact⟨a,t,rfl⟩
  .exact U v m
def Rf{a:aj}{n:Nat}{P:PySem.Fin->aB->Prop}(ho:s.heap.get? a=some (seqObj "list" vs.toArray n))(T:fE s.heap vs ks)(nd:ks.Nodup)(na:∀i x,i<ks.length->vs.getD i Value.none=.ref x->x≠a)(I:2<=vs.length)(F:vs.length<64)
  (h:P (.done (.ret .none)) { s with heap:=sortedHeap s.heap a vs (List.toArray ((dB ks).map λi=>vs.getD i Value.none))}):wpAny (model prog w) A (Builtin.«list.sort» ⟨[.ref a],[]⟩) P E s:=by
 rw[list_sort_plain];have V:a<s.heap.objs.size:=cV ho;refine aK (listItems_at ho rfl ?_);refine aK (listUpdate_at ho rfl ?_ (by rw[fO,sizeLine_eq];lia) (lq _))
 obtain⟨e1,W⟩:∃e1,(s.heap.update a (Obj.mapSeq λ_=>#[])).get? a=some (seqObj "list" #[] e1):=⟨_,get?_update_seq ho (λ_=>#[])⟩
 refine aK (seqEpoch_at W rfl ?_);refine aK (wpAny_newTuple ?_ (by show vs.length<=_;rw[sizeLine_eq];lia))
 refine aK (wpAny_newList ?_ (lq _));refine kA ?_;have B:(((s.heap.update a (Obj.mapSeq λ_=>#[])).push (seqObj "tuple" vs.toArray 0)).push (seqObj "list" #[] 0)).get? a=some (seqObj "list" #[] e1):=by
  rw[Dy _ _ _ (by rw[size_push',LJ];exact g_ (yy V)),Dy _ _ _ (by rw[LJ];exact g_ V)]
  exact W
 have Y:fE (((s.heap.update a (Obj.mapSeq λ_=>#[])).push (seqObj "tuple" vs.toArray 0)).push (seqObj "list" #[] 0)) vs ks:=⟨T.1,λi hi=>by
  refine kY λkz=>?_
  obtain⟨x,o,b,c,t,t',z,m,y1,y2,r⟩:=T.2 i hi;refine kz ?_;refine⟨x,o,b,c,t,t',z,m,y1,c8 _ (c8 _ ?_),r⟩;rw[Gw _ _ _ _ (na i x hi y1)];exact y2⟩
 show wpAny (model prog w) A _ P E { s with heap:=((s.heap.update a (Obj.mapSeq λ_=>#[])).push (seqObj "tuple" vs.toArray 0)).push (seqObj "list" #[] 0)}
 dsimp only;have U:¬vs.toArray.size<2:=by rw[fO];lia
 rw[bq U,bq U];obtain⟨fs,L,f2,D⟩:=M4 Y;refine aK (kat_kind (T:=.type "int") L (by lia) (λv hv=>?_) (by decide) ?_)
 .obtain⟨b,t,rfl⟩:=D v hv;exact λA Q E s' _ q=>wpAny_typeOf (typeIs_int s' b t) q
 .have O:=O4 nd;have pq:=N8 O (show 1<=ks.length by have:=T.1;lia)
  obtain⟨⟨q1,q2⟩,q3⟩:=Fe pq;have hlen:=T.1;refine aK (wpAny_mono (kat_run (Q:=λJ s'=>s'={ s with heap:=((s.heap.update a (Obj.mapSeq λ_=>#[])).push (seqObj "tuple" vs.toArray 0)).push (seqObj "list" #[] 0)}/\arrOf J=(Ab (ltAt ks) (kas_sort ks.length)).map (kas_item (vs.toArray.zip vs.toArray))/\failedOf J=none) rfl I F (λp' J s' a1 a2 a3 a4=>⟨a4.2,by rw[<-a4.1];exact a2,a3⟩) (G:=λp s'=>p=Ab (ltAt ks) (kas_sort ks.length)/\s'=_) ?_) ?_ λ_ _ e=>e)
  .rw[hlen];exact O3 (λi j C hi hj ij d=>WX Y nd i j C hi hj ij d) (EV (λp hp=>⟨hp,rfl⟩) q3)
  .rintro⟨⟨⟩,J⟩ s' ⟨rfl,S,hf⟩;dsimp only;have R:=kat_snds rfl S;rw[R];refine aK (seqEpoch_at B rfl ?_);refine aK (listUpdate_at B rfl ?_ (lq _) (by rw[fO,ba,Gj,q1.size,sizeLine_eq];lia))
   rw[hf];simp only[bne_self_eq_false,rm,kS];exact bw h
def RX{Q:ak->aB->Prop}(hl:s.heap.IsList l vs.toArray)(T:fE s.heap vs ks)(nd:ks.Nodup)(V:2<=vs.length)(Y:vs.length<64)
  (h:Q (.ref (s.heap.objs.size+1)) { s with heap:=sortedAll s.heap vs (List.toArray ((dB ks).map λi=>vs.getD i Value.none))}):wpAny (model prog w) A (call (.builtin "sorted") [.ref l]) Q E s:=by
 refine Calls.call_function_entry kind_sorted plain_sorted entry_sorted (args_sorted1 _) ?_;unfold Builtin.«sorted»;refine aK (m:=checkCount "sorted" 1 1 _) (bw ?_);refine aK (collect_list hl ?_ (by rw[sizeLine_eq];lia))
 refine aK (wpAny_newList ?_ (by rw[sizeLine_eq];lia))
 have hsz:((s.heap.push (seqObj "list" #[] 0)).update s.heap.objs.size (Obj.mapSeq (·++vs.toArray))).objs.size=s.heap.objs.size+1:=by
  simp_all
 have ia:(((s.heap.push (seqObj "list" #[] 0)).update s.heap.objs.size (Obj.mapSeq (·++vs.toArray))).push (seqObj "list" vs.toArray 0)).get? (s.heap.objs.size+1)=some (seqObj "list" vs.toArray 0):=by
  rw[<-hsz];exact jb _ rfl
 have keep:∀b o,s.heap.get? b=some o->(((s.heap.push (seqObj "list" #[] 0)).update s.heap.objs.size (Obj.mapSeq (·++vs.toArray))).push (seqObj "list" vs.toArray 0)).get? b=some o:=λb o q=>by
  have J:b<s.heap.objs.size:=cV q;rw[Dy _ _ _ (by rw[hsz];exact g_ (yy J)),Gw _ _ _ _ (g_ J),Dy _ _ _ (g_ J)]
  exact q
 show wpAny _ _ _ _ _ { s with heap:=((s.heap.push (seqObj "list" #[] 0)).update s.heap.objs.size (Obj.mapSeq (·++vs.toArray))).push (seqObj "list" vs.toArray 0)}
 rw[hsz];refine aK (kA (wpAny_call_entry slot_list_sort ⟨_,ia,rfl⟩ entry_list_sort (Rf ia (T.keep keep) nd (λi x hi e=>?_) V Y ⟨_,rfl,?_⟩) (args_list_sort _)))
 .obtain⟨y,o,_,_,_,_,_,_,y1,U,_⟩:=T.2 i hi;rw[y1] at e;cases e;exact g_ (yy (cV U))
 .exact bw ⟨_,rfl,h⟩
end
section
variable{X:Cx}
def um(K:aP)(H:Hp)(ys:List V)(ks:List (Int×Int)):Prop:=ys.length=ks.length/\∀i,i<ks.length->∃p z,ys[i]?=some (.ref p)/\iE K H p [.int (ks.getD i (0,0)).1,.int (ks.getD i (0,0)).2,z]
def O5(K:aP):List V->Hp->VK->Prop:=λvs H Q=>∃a ys ks,vs=[.ref a]/\c7 K H a ys/\um K H ys ks/\ks.Nodup/\2<=ks.length/\ks.length<64/\∀l,H l=none->Q (.ref l) (upd H l (.lst ((dB ks).map λi=>ys.getD i .aI)))
theorem MK{ys:List V}{us:List ak}(r:Vals ys us):∀{J:List Nat},(∀i∈J,i<ys.length)->Vals (J.map λi=>ys.getD i .aI) (J.map λi=>us.getD i Value.none)
 |[],_=>.nil
 |i::J,h=>by
  have hi:=h i (.head _);obtain⟨u,e,Y⟩:=r.get (gu hi);have e1:ys.getD i .aI=ys[i]:=by simp[hi]
  have e2:us.getD i Value.none=u:=by rw[yD,e];rfl
  refine .cons ?_ (MK r λj m=>h j (.tail _ m))
  lia
theorem A4(nd:ks.Nodup)(h:1<=ks.length):(dB ks).Perm (List.range ks.length)/\(dB ks).Pairwise λi j=>ltAt ks i j=true:=by
 obtain⟨⟨Y,U⟩,_⟩:=Fe (N8 (O4 nd) h);refine⟨by unfold dB;have:=Array.perm_iff_toList_perm.mp Y.pm;simpa using this,?_⟩
 rw[List.pairwise_iff_getElem];intro i j hi J V;have G:=Y.size;have:=U i j V (by unfold dB at J;simp at J;lia)
 unfold dB at hi J ⊢;simp only[Gj] at hi J;simpa[Array.getD,hi,J] using this
def RY(K:aP)(G:X.K=K:=by rfl):bT X (.builtin "sorted") (O5 K):=by
 subst G;intro aa s Z H xs us Q I r h;obtain⟨a,ys,ks,rfl,hl,T,nd,O,D,q⟩:=h;obtain⟨u,rfl,J⟩:=vals1 r;cases J;obtain⟨aL,rv,pl,hz⟩:=I.list hl;have hlen:=rv.length;have Ci:=T.1;have U:fE s.heap aL ks:=⟨by lia,λi hi=>by
  obtain⟨p,z,y1,L⟩:=T.2 i hi;obtain⟨u,e,J⟩:=rv.get y1;obtain rfl:u=Value.ref p:=J;obtain⟨W,Y,⟨o,g1,g2,n,g3⟩,_⟩:=I.tuple L;cases Y with
  |cons B t=>
   cases t with
   |cons F t=>
    cases t with
    |cons j t=>
     cases t;obtain⟨S,rfl⟩:=B;obtain⟨R,rfl⟩:=F;exact⟨p,o,_,_,S,R,_,n,by rw[yD,e];rfl,g1,g2,g3,rfl⟩⟩
 refine RX pl.isList U nd (by lia) (by lia) ?_
 obtain⟨c,hc⟩:=sortedAll_at s.heap aL (List.toArray ((dB ks).map λi=>aL.getD i Value.none))
 obtain⟨s1,_⟩:=A4 nd (by lia)
 have hm:∀i∈dB ks,i<ys.length:=λi m=>by have:=s1.mem_iff.mp m;rw[pI] at this;lia
 have V:=I.laid (h':=sortedAll s.heap aL (List.toArray ((dB ks).map λi=>aL.getD i Value.none))) (t':=s.toks) (o:=.lst ((dB ks).map λi=>ys.getD i .aI)) (λb o g=>sortedAll_old g) (ug _) (show cw X.prog X.w _ _ _ (.lst _) from⟨by rw[ba,s1.length_eq,vG,sizeLine_eq];lia,_,c,MK rv hm,hc⟩)
 exact⟨.ref (s.heap.objs.size+1),_,V,rfl,q _ (I.bN.fresh (ug _))⟩
end
end L2
set_option autoImplicit false
namespace L2
open PySem PySem.Spec PySem.W PySem.Calls PyProof.Rows
variable{tg:Expr}
def LU(a:aj)(es:List (TK×V×V))(ep:Nat):It:=
 ⟨λi H=>H a=some (.dG es ep)/\fQ es/\i<es.length,λi H x H'=>H'=H/\∃e,es[i]?=some e/\e.2.2=x,λi H=>H a=some (.dG es ep)/\fQ es/\es.length<=i⟩
def Tc{P:dq}{w:cL}{K:fP}(a it:aj)(es:List (TK×V×V))(ep:Nat):Turn P w K tg (LU a es ep) [it] it (λi h=>h.IsValIter it a i es.length ep) where
 mem:=by simp
 obj:=λi h st b hb=>by
  have e:b=it:=by simpa using hb
  subst e;obtain⟨o,e,c,d⟩:=st
  simp_all
 keep:=λi h h' st k=>st.at λo e=>k it (by simp) o e
 item:=by
  intro X S hw T hc i aa s Z H E I hf st R;subst S hw T;refine kY λO=>?_
  obtain⟨hd,ht,hi⟩:=R;obtain⟨U,G,l,W,B,F⟩:=hf it (by simp)
  obtain⟨kvs,J,j,Y,z,lo⟩:=rM I hd ht;have l1:kvs.length=es.length:=by have:=congrArg List.length Y;simpa using this
  obtain⟨p,hp⟩:∃p,kvs[i]?=some p:=⟨kvs[i]'(by lia),gu _⟩
  obtain⟨u,q,u2⟩:=j.get (i:=i) (x:=es[i].2.2) (by rw[fB,gu hi];rfl)
  rw[fB,hp] at q;cases q;have L:s.heap.IsValIter it a i kvs.length ep:=by rw[l1];exact st
  refine O ?_;refine wpAny_pyNext_values_item L J (k:=p.1) (v:=p.2) hp λh' D sb=>?_
  rw[l1] at D;have m:Inv X aa Z H { s with heap:=h'}:=I.turned (t':=s.toks) (λb o hb e=>(sb.2 b hb).trans e) U G W B F
  obtain⟨o,e,c,d⟩:=id D;exact⟨p.2,rfl,uD (s:={ s with heap:=h'}) e c d (by decide) ⟨es[i].2.2,H,m,u2,⟨rfl,_,gu hi,rfl⟩,D,λb hb=>(hf b hb).1⟩⟩
 done:=by
  intro X S hw T hc i aa s Z H E I hf st R;subst S hw T;refine kY λO=>?_
  obtain⟨hd,ht,hi⟩:=R;obtain⟨U,G,l,W,B,F⟩:=hf it (by simp)
  obtain⟨kvs,J,j,Y,z,lo⟩:=rM I hd ht;have l1:kvs.length=es.length:=by have:=congrArg List.length Y;simpa using this
  have L:s.heap.IsValIter it a i kvs.length ep:=by rw[l1];exact st
  refine O ?_;exact wpAny_pyNext_values_end (I.ok.hd hc) L J (vI (by lia)) λh' t=>⟨rfl,I.turned (t':=s.toks) (λb o hb e=>t b o hb e) U G W B F⟩
 self:=λ_ _ _ _ _ st h=>wpAny_pyIter_valiter st h
def uT(to:TE):TI:=λZ H R=>to Z H λx H1=>∃d es ep,x=.ref d/\H1 d=some (.dG es ep)/\fQ es/\R (LU d es ep) H1
def WY{X:Cx}{o:Expr}{J U:Pos}{to:TE}(ho:PE X o to)(S:attributeBase o "values" X.env (eval o X.env)=eval o X.env)(L:(J.endLine == U.line)=true):
  PI X tg (.Call (.Attribute o "values" J) [] [] U) (uT to):=by
 intro aa s Z H R I h;refine wpAny_Call_method0_late S L (bO (ho aa s Z H _ I h) λv s1 D=>?_)
 refine kY λO=>?_
 obtain⟨x,H1,Y,j,d,es,ep,rfl,hd,ht,q⟩:=D;cases j;obtain⟨B,z⟩:=Bj Y hd;obtain⟨kvs,V,p,T,m,lo⟩:=rM Y hd ht;have l1:kvs.length=es.length:=by have:=congrArg List.length T;simpa using this
 refine O ?_;refine⟨"dict","dict.values",PySem.F.plainAttrs_dict,PySem.F.slot_dict_values,PySem.F.type_dict_values,B,z,Calls.callWith_builtin rfl (PySem.evalArgs_none ?_)⟩;refine call_meetsIn PySem.F.slot_dict_values B PySem.F.entry_dict_values (PySem.F.args_dict_values_1 _) (meets_dict_values (PySem.strKind X.prog X.w) d lo) ⟨⟨kvs,V.dictOf⟩,?_⟩;refine wpAny_pyIter_values (knd:=PySem.strKind X.prog X.w) (v:=s1.heap.objs.size) (d:=d) (kvs:=kvs) (ep:=ep) ⟨_,jb _ rfl,rfl,rfl⟩ (V.push _) ?_;have sz:(s1.heap.push { cls:=.type "dict_values",data:=.fields #[.ref d]}).objs.size=s1.heap.objs.size+1:=by simp[Heap.push]
 have G:=jb (s1.heap.push { cls:=.type "dict_values",data:=.fields #[.ref d]}) (o:={ cls:=.type "dict_valueiterator",data:=.fields #[.ref d,.int 0 0,.int kvs.length 0,.int ep 0]}) rfl;rw[l1] at G ⊢;refine⟨(s1.heap.push { cls:=.type "dict_values",data:=.fields #[.ref d]}).objs.size,[(s1.heap.push { cls:=.type "dict_values",data:=.fields #[.ref d]}).objs.size],_,_,H1,rfl,Y.kept (t':=s1.toks) λb o e=>c8 _ (c8 _ e),Tc d _ es ep,⟨_,G,rfl,rfl⟩,λb hb=>?_,q⟩
 cases jT.mp hb;have W:s1.heap.objs.size<=(s1.heap.push { cls:=.type "dict_values",data:=.fields #[.ref d]}).objs.size:=by rw[sz];exact ug _
 exact Y.kc W (Y.bN.fresh W)
def eU(kvs:List (TK×D)):Bool:=kvs.all λp=>uX p.1
def Gg:D->ai (List D)
 |.ao kvs=>if eU kvs=true then some (kvs.map (·.2)) else none
 |_=>none
def tD:D->ai (List D)
 |.ao kvs=>if eU kvs=true then some ((List.range kvs.length).map λi=>.tup (((kvs[i]?).map λp=>[p.1.d,p.2]).getD [])) else none
 |_=>none
section
variable{K:fP}{W:XW}{q:Nat}{g:GE}{Q:Bool}{Z:St}{H:Hp}{R:It->Hp->Prop}{k:Kn}{es:List (TK×V×V)}{kvs:List (TK×D)}
def Fs(J:es.map (·.1)=kvs.map (·.1))(Y:ag K k (es.map (·.2.1)) (kvs.map (·.1.d)))(h:eU kvs=true):fQ es:=OS J (by rw[dy];exact Y) (by rw[DH];exact h)
def WZ(t:tX (RI K q) K W q (bo Q Gg g) Z H R):uT (tE K W q g) Z H R:=by
 rcases A0 t with h|⟨d,ds,n,e,h⟩
 .exact h _
 .cases d with
  |ao kvs=>
   unfold Gg at e;dsimp only at e;split at e
   .rename_i ht
    cases e;refine h _ λk1 H1 x le hd j=>?_
    obtain⟨a,es,ep,rfl,U,G,V,J⟩:=hd;have Y:=Fs U G ht;refine⟨a,es,ep,rfl,jl.now (x:=.aI) J le,Y,j _ (.old (by rw[<-V.length,ba]) (λi H s c hi=>⟨J H s c,Y,hi⟩) (λi H s c hi=>⟨J H s c,Y,hi⟩) λi H x H' d s c y hd=>?_)⟩
    obtain⟨rfl,e,B,rfl⟩:=y;obtain⟨v,F,T⟩:=V.get hd
    simp_all
   .cases e
  |_=>cases e
def W4(t:tX (RI K q) K W q (bo Q tD g) Z H R):OT (tE K W q g) Z H R:=by
 rcases A0 t with h|⟨d,ds,n,e,h⟩
 .exact h _
 .cases d with
  |ao kvs=>
   unfold tD at e;dsimp only at e;split at e
   .rename_i ht
    cases e;refine h _ λk1 H1 x le hd j=>?_
    refine kY λJ=>?_
    obtain⟨a,es,ep,rfl,D,G,B,U⟩:=hd;have F:=Fs D G ht;refine J ?_;refine⟨a,es,ep,rfl,jl.now (x:=.aI) U le,F,j _ ?_⟩;have hl:kvs.length=es.length:=by have:=B.length;rw[ba,ba] at this;exact this.symm
    rw[hl];refine .CM (λH s c=>⟨U H s c,F⟩) λi us hi hv=>?_
    refine kY λJ=>?_
    obtain⟨e,T,rfl⟩:=hv;have Ce:i<kvs.length:=by lia
    obtain⟨v,Y,S⟩:=B.get (i:=i) (d:=kvs[i].2) (by rw[fB,gu Ce];rfl)
    obtain⟨I,V,L⟩:=G.get (i:=i) (d:=kvs[i].1.d) (by rw[fB,gu Ce];rfl)
    rw[fB,T] at Y V;cases Y;cases V;refine J ?_;rw[gu Ce];exact .cons L S
   .cases e
  |_=>cases e
end
end L2
namespace L2
open PySem PySem.Spec PyProof.Rows
section
variable{X:Cx}{K:aP}{k:Kn}{H:Hp}{x:V}{d:D}
def Top.txt{kvs:List (TK×D)}(t:Top K k H x (.ao kvs))(le:aE k.F H)(h:eU kvs=true):∃p es ep,x=.ref p/\H p=some (.dG es ep)/\fQ es/\es.map (·.1)=kvs.map (·.1)/\ag K k (es.map (·.2.1)) (kvs.map (·.1.d))/\ag K k (es.map (·.2.2)) (kvs.map (·.2)):=by
 obtain⟨p,es,ep,rfl,V,J,Y,U⟩:=t.ao le;exact⟨p,es,ep,rfl,V,Fs J Y h,J,Y,U⟩
def C0(K:aP):List V->Hp->VK->Prop:=λxs H Q=>(∃p ys,xs=[.ref p]/\(c7 K H p ys\/iE K H p ys)/\Q (.int ys.length) H)\/(∃z,xs=[.str z]/\z.length<=sizeLine/\Q (.int z.length) H)\/∃p es ep,xs=[.ref p]/\H p=some (.dG es ep)/\fQ es/\Q (.int es.length) H
def Td(U:X.K=K):bT X (.builtin "len") (C0 K):=(Rb K U).or (lB.or (by
 intro aa s Z H xs us Q I r h;refine kY λG=>?_
 obtain⟨p,es,ep,rfl,hp,ht,q⟩:=h;obtain⟨u,rfl,W⟩:=vals1 r;cases W;obtain⟨kvs,J,B,Y,V,lo⟩:=rM I hp ht;have l1:kvs.length=es.length:=by have:=congrArg List.length Y;simpa using this
 refine G ?_;refine call_len_dict lo J.dictOf (by rw[sizeLine_eq] at V;lia) ?_
 rw[l1];exact⟨.int es.length,H,I.tok _,⟨_,rfl⟩,q⟩))
def eY:D->ai Rv
 |.lst ds=>some (rd (.int ds.length))
 |.tup ds=>some (rd (.int ds.length))
 |.str z=>if z.length<=1000000 then some (rd (.int z.length)) else none
 |.ao kvs=>if eU kvs=true then some (rd (.int kvs.length)) else none
 |_=>none
def ZQ:b_ K (C0 K) (o1 eY):=qT λk H x a y Q le t e J=>by
 unfold eY at e;split at e
 .cases e;obtain⟨p,ws,rfl,q,r⟩:=t.lst le;exact .inl ⟨p,ws,rfl,.inl q,by rw[r.length];exact J.flat le rfl⟩
 .cases e;obtain⟨p,ws,rfl,q,r⟩:=t.tup le;exact .inl ⟨p,ws,rfl,.inr q,by rw[r.length];exact J.flat le rfl⟩
 .split at e
  .cases e;cases t.flat rfl;exact .inr (.inl ⟨_,rfl,ml (by assumption),J.flat le rfl⟩)
  .cases e
 .split at e
  .cases e;obtain⟨p,es,ep,rfl,Y,V,G,W,U⟩:=t.txt le (by assumption)
   refine .inr (.inr ⟨p,es,ep,rfl,Y,V,?_⟩);have:=U.length;rw[ba,ba] at this;rw[this];exact J.flat le rfl
  .cases e
 .cases e
noncomputable def qP:D->ai String
 |.aI=>some "NoneType"
 |.bl _=>some "bool"
 |.int _=>some "int"
 |.str _=>some "str"
 |.lst _=>some "list"
 |.tup _=>some "tuple"
 |_=>none
def M5{n:String}(le:aE k.F H)(t:Top K k H x d)(e:qP d=some n):Br K H x n:=by
 cases d with
 |lst _=>cases e;obtain⟨p,ws,rfl,q,r⟩:=t.lst le;exact .inl ⟨rfl,_,q⟩
 |tup _=>cases e;obtain⟨p,ws,rfl,q,r⟩:=t.tup le;exact .inr ⟨rfl,_,q⟩
 |_=>cases e <;> cases t.flat rfl <;> rfl
def CW(K:aP):List V->Hp->VK->Prop:=λxs H Q=>(∃x k T,xs=[x,.ty T]/\Br K H x k/\(T="int"\/T="str"\/T="bool"\/T="list"\/T="tuple")/\Q (.bl (pB k T)) H)\/vh K xs H Q
def Te(J:X.K=K):bT X (.builtin "isinstance") (CW K):=(SE K J).or (S7 K J)
noncomputable def xD:List D->Bool
 |[.ty a,.ty b]=>decide (a="tuple"/\b="list")
 |_=>false
def W5{ds:List D}(h:xD ds=true):ds=[.ty "tuple",.ty "list"]:=by
 unfold xD at h;split at h
 .obtain⟨rfl,rfl⟩:=pT h;rfl
 .cases h
def cC(a t:D):ai Rv:=match t with
 |.ty T=>if T="int"\/T="str"\/T="bool"\/T="list"\/T="tuple" then(qP a).map λk=>rd (.bl (pB k T)) else none
 |.tup ds=>if xD ds=true then(qP a).map λk=>rd (.bl (Lf k)) else none
 |_=>none
def ZR:b_ K (CW K) (o2 cC):=tL λk H x z a b y Q le Y V e J=>by
 unfold cC at e;split at e
 .split at e
  .obtain⟨n,h,rfl⟩:=c_.mp e;cases V.flat rfl;exact .inl ⟨x,n,_,rfl,M5 le Y h,by assumption,J.flat le rfl⟩
  .cases e
 .split at e
  .rename_i ht
   cases W5 ht;refine kY λU=>?_
   obtain⟨n,h,rfl⟩:=c_.mp e;obtain⟨p,ws,rfl,q,r⟩:=V.tup le;obtain⟨T,us,rfl,G,W⟩:=r.cz;obtain⟨S,us,rfl,B,F⟩:=W.cz;cases F.gp;cases G.aR rfl;cases B.aR rfl;refine U ?_;exact .inr ⟨x,n,p,rfl,M5 le Y h,q,J.flat le rfl⟩
  .cases e
 .cases e
def oA:D->ai Rv
 |.int i=>some (rd (.int i))
 |.bl b=>some (rd (.int (if b then 1 else 0)))
 |_=>none
def W6:b_ K (λxs H Q=>(∃i,xs=[.int i]/\Q (.int i) H)\/∃k,xs=[.bl k]/\Q (.int (if k then 1 else 0)) H) (o1 oA):=qT λk H x a y Q le t e J=>by
 unfold oA at e;split at e
 .cases e;cases t.flat rfl;exact .inl ⟨_,rfl,J.flat le rfl⟩
 .cases e;cases t.flat rfl;exact .inr ⟨_,rfl,J.flat le rfl⟩
 .cases e
def vi(K:aP):List V->Hp->VK->Prop:=λxs H Q=>(∃p ys,xs=[.ref p]/\(c7 K H p ys\/iE K H p ys)/\∀l,H l=none->Q (.ref l) (upd H l (.lst ys)))\/QJ K xs H Q
def RZ(hc:X.calm=true)(J:X.K=K):bT X (.type "list") (vi K):=(Rc K J).or (J ▸ RQ hc)
noncomputable def ko:D->ai Rv
 |.lst ds=>some (.o (.lst ds))
 |.tup ds=>some (.o (.lst ds))
 |.ao kvs=>some (.o (.lst (kvs.map (·.1.d))))
 |_=>none
def W7:b_ K (vi K) (o1 ko):=qT λk H x a y Q le t e J=>by
 unfold ko at e;split at e
 .cases e;obtain⟨p,ws,rfl,q,r⟩:=t.lst le;exact .inl ⟨p,ws,rfl,.inl q,λl hl=>J.lst le r hl⟩
 .cases e;obtain⟨p,ws,rfl,q,r⟩:=t.tup le;exact .inl ⟨p,ws,rfl,.inr q,λl hl=>J.lst le r hl⟩
 .cases e;obtain⟨p,es,ep,rfl,Y,U,V,G⟩:=t.ao le;exact .inr ⟨p,es,ep,rfl,Y,λl hl=>J.lst le V hl⟩
 .cases e
def oS:D->ai Rv
 |.ao kvs=>if eU kvs=true then some (.o (.lst (kvs.map (·.2)))) else none
 |_=>none
def W8:b_ K (λxs H Q=>∃d es ep,xs=[.ref d]/\H d=some (.dG es ep)/\fQ es/\∀q,H q=none->Q (.ref q) (upd H q (.lst (es.map (·.2.2))))) (o1 oS):=qT λk H x a y Q le t e J=>by
 unfold oS at e;split at e
 .split at e
  .cases e;obtain⟨p,es,ep,rfl,Y,V,G,W,U⟩:=t.txt le (by assumption)
   exact⟨p,es,ep,rfl,Y,V,λl hl=>J.lst le U hl⟩
  .cases e
 .cases e
def Ff(q:List Bool->Bool):D->ai Rv
 |.lst ds=>(iq ds).map λbs=>rd (.bl (q bs))
 |_=>none
def UJ(q:List Bool->Bool):b_ K (λxs H Q=>∃a bs,xs=[.ref a]/\c7 K H a (bs.map V.bl)/\Q (.bl (q bs)) H) (o1 (Ff q)):=qT λk H x a y Q le t e J=>by
 unfold Ff at e;split at e
 .obtain⟨bs,h,rfl⟩:=c_.mp e;obtain⟨p,ws,rfl,s,r⟩:=t.lst le;rw[Mm h] at r;cases Mn r;exact⟨p,bs,rfl,s,J.flat le rfl⟩
 .cases e
def mj(f:List Int->Int):D->ai Rv
 |.lst ds=>(kl ds).bind λJ=>if J=[] then none else some (rd (.int (f J)))
 |_=>none
def W9(f:List Int->Int):b_ K (λxs H Q=>∃a J,xs=[.ref a]/\c7 K H a (J.map V.int)/\J≠[]/\Q (.int (f J)) H) (o1 (mj f)):=qT λk H x a y Q le t e Y=>by
 unfold mj at e;split at e
 .obtain⟨J,h,e⟩:=cF.mp e;split at e
  .cases e
  .cases e;obtain⟨p,ws,rfl,s,r⟩:=t.lst le;rw[MI h] at r;cases Mb r;exact⟨p,J,rfl,s,by assumption,Y.flat le rfl⟩
 .cases e
noncomputable def iD:D->ai Int
 |.int i=>some i
 |_=>none
def IY{v:D}{i:Int}(h:iD v=some i):v=.int i:=by cases v <;> cases h;rfl
def pC:List D->ai (Int×Int)
 |[a,b,_]=>(iD a).bind λi=>(iD b).map λj=>(i,j)
 |_=>none
def CC:D->ai (Int×Int)
 |.tup l=>pC l
 |_=>none
def km:List D->ai (List (Int×Int))
 |[]=>some []
 |d::ds=>(CC d).bind λk=>(km ds).map λks=>k::ks
theorem M6:∀{ds:List D} {ks:List (Int×Int)} {ws:List V},km ds=some ks->ag K k ws ds->aE k.F H->um K H ws ks
 |[],ks,ws,e,r,le=>by cases e;exact⟨by rw[r.length];rfl,λi hi=>nomatch hi⟩
 |d::ds,ks,ws,e,r,le=>by
  refine kY λU=>?_
  obtain⟨w,us,rfl,G,W⟩:=r.cz;obtain⟨k0,J,e⟩:=cF.mp (show(CC d).bind _=_ from e);obtain⟨z,e1,rfl⟩:=c_.mp e;refine U ?_;cases d with
  |tup l=>
   have J:pC l=some k0:=J;unfold pC at J;split at J
   case h_2=>cases J
   refine kY λU=>?_
   obtain⟨a,O,J⟩:=cF.mp J;obtain⟨b,j,rfl⟩:=c_.mp J;cases IY O;cases IY j;obtain⟨l1,l2⟩:=M6 e1 W le;obtain⟨p,ws,rfl,q,Y⟩:=G.isTup;obtain⟨m,S,rfl,B,Y⟩:=Y.cz;obtain⟨t,R,rfl,T,Y⟩:=Y.cz;obtain⟨I,L,rfl,t3,Y⟩:=Y.cz;cases Y.gp;cases B.aR rfl;cases T.aR rfl;refine U ?_;refine⟨congrArg (·+1) l1,λi hi=>?_⟩
   cases i with
   |zero=>exact⟨p,I,rfl,le.yp q⟩
   |succ i=>exact l2 i (Nat.lt_of_succ_lt_succ hi)
  |_=>cases J
def vn(K:aP):List V->Hp->VK->Prop:=λvs H Q=>OZ K vs H Q\/O5 K vs H Q
def R0(hc:X.calm=true)(J:X.K=K):bT X (.builtin "sorted") (vn K):=(J ▸ Rl hc).or (RY K J)
noncomputable def k8(ds:List D)(J:List Nat):List D:=J.map λi=>ds.getD i .aI
def oP:D->ai Rv
 |.lst ds=>if ds.length<2 then some (.o (.lst ds)) else(km ds).bind λks=>if ks.Nodup/\ks.length<64 then some (.o (.lst (k8 ds (dB ks)))) else none
 |.ao kvs=>if(eU kvs&&Nat.blt kvs.length 2)=true then some (.o (.lst (kvs.map (·.1.d)))) else none
 |_=>none
theorem M7{ws:List V}{ds:List D}(r:ag K k ws ds):∀{J:List Nat},(∀i∈J,i<ds.length)->ag K k (J.map λi=>ws.getD i .aI) (k8 ds J)
 |[],_=>.nil
 |i::J,h=>by
  have hi:=h i (.head _);obtain⟨v,Y,U⟩:=r.get (i:=i) (d:=ds[i]) (gu hi);unfold k8;rw[cS,cS,show ws.getD i .aI=v by rw[yD,Y];rfl,show ds.getD i .aI=ds[i] by rw[yD,gu hi];rfl]
  exact .cons U (M7 r λj m=>h j (.tail _ m))
def W_:b_ K (vn K) (o1 oP):=qT λk H x a y Q le t e J=>by
 unfold oP at e;split at e
 .obtain⟨p,ws,rfl,s,r⟩:=t.lst le;split at e
  .cases e;exact .inl ⟨p,ws,rfl,.inl s,by rw[r.length];assumption,λl hl=>J.lst le r hl⟩
  .rename_i Y
   obtain⟨ks,h,e⟩:=cF.mp e;split at e
   .rename_i U
    cases e;have T:=M6 h r le;have l1:ks.length=ws.length:=T.1.symm;have l2:=r.length;refine .inr ⟨p,ws,ks,rfl,s,T,U.1,by lia,U.2,λl hl=>J.lst le (M7 r λi m=>?_) hl⟩
    grind [A4]
   .cases e
 .split at e
  .rename_i F
   obtain⟨G,Y⟩:=vD.mp F;cases e;obtain⟨p,es,ep,rfl,W,B,S,V,R⟩:=t.txt le G;have:=V.length;have l2:_<2:=gq (yB Y) (bU _);exact .inl ⟨p,_,rfl,.inr ⟨es,ep,W,B,rfl⟩,by rw[this,ba];exact l2,λl hl=>J.lst le V hl⟩
  .cases e
 .cases e
noncomputable def bP{α:Type}:List (TK×α)->TK->α->List (TK×α)
 |[],k,v=>[(k,v)]
 |(j,w)::r,k,v=>if j=k then(j,v)::r else(j,w)::bP r k v
def iz:List D->ai (List (TK×D))
 |[]=>some []
 |.tup [a,b]::ds=>(jD a).bind λj=>(iz ds).map λps=>(j,b)::ps
 |_=>none
def oo:D->ai Rv
 |.lst ds=>(iz ds).bind λps=>if ps.length<1000 then some (.o (.ao (ps.foldl (λkvs p=>bP kvs p.1 p.2) []))) else none
 |_=>none
theorem Ij{j:TK}{y v:V}{e:D}(G:ag K k [y] [j.d])(rv:ag K k [v] [e]):∀{ws:List (TK×V×V)} {kvs:List (TK×D)},ws.map (·.1)=kvs.map (·.1)->ag K k (ws.map (·.2.1)) (kvs.map (·.1.d))->ag K k (ws.map (·.2.2)) (kvs.map (·.2))->
  (dN ws j y v).map (·.1)=(bP kvs j e).map (·.1)/\ag K k ((dN ws j y v).map (·.2.1)) ((bP kvs j e).map (·.1.d))/\ag K k ((dN ws j y v).map (·.2.2)) ((bP kvs j e).map (·.2))
 |[],[],_,_,_=>⟨rfl,G,rv⟩
 |w::ws,p::kvs,h,F,T=>by
  obtain⟨J,U⟩:=List.cons.inj (show w.1::ws.map (·.1)=p.1::kvs.map (·.1) from h)
  obtain⟨a1,a2⟩:=ag.inv F;obtain⟨W,Y⟩:=ag.inv T;unfold dN bP;by_cases q:p.1=j
  .rw[bJ (J.trans q),bJ q];exact⟨congr (congrArg List.cons J) U,.cons a1 a2,.cons rv Y⟩
  .rw[bq (λz=>q (J.symm.trans z)),bq q]
   obtain⟨c1,c2,B⟩:=Ij G rv U a2 Y;exact⟨congr (congrArg List.cons J) c1,.cons a1 c2,.cons W B⟩
 |[],_::_,h,_,_=>nomatch h
 |_::_,[],h,_,_=>nomatch h
def pY(K:aP)(k:Kn)(q:TK×V×V)(p:TK×D):Prop:=q.1=p.1/\ag K k [q.2.1] [q.1.d]/\ag K k [q.2.2] [p.2]
theorem M8:∀{ds:List D} {ps:List (TK×D)} {ws:List V},iz ds=some ps->ag K k ws ds->aE k.F H->∃qs:List (TK×V×V),jK K H ws qs/\Paired (pY K k) qs ps
 |[],ps,ws,e,r,le=>by cases e;cases r.gp;exact⟨[],⟨rfl,λi p h=>nomatch h⟩,.nil⟩
 |d::ds,ps,ws,e,r,le=>by
  obtain⟨a,b,rfl,e⟩:∃a b,d=.tup [a,b]/\((jD a).bind λj=>(iz ds).map ((j,b)::·))=some ps:=by
   cases d with
   |tup l=>
    rcases l with _|⟨a,_|⟨b,_|_⟩⟩
    case cons.cons.nil=>exact⟨a,b,rfl,e⟩
    all_goals cases e
   |_=>cases e
  .obtain⟨j,U,e⟩:=cF.mp e;refine kY λW=>?_
   obtain⟨B,T,rfl⟩:=c_.mp e;obtain⟨w,us,rfl,S,R⟩:=r.cz;obtain⟨p,ws,rfl,L,J⟩:=S.isTup;obtain⟨y,q,rfl,I,J⟩:=J.cz;obtain⟨v,z,rfl,O,J⟩:=J.cz;cases J.gp;obtain⟨qs,Y,G⟩:=M8 T R le;have rk:ag K k [y] [j.d]:=by rw[(zt U).1];exact I
   refine W ?_;refine⟨(j,y,v)::qs,⟨congrArg (·+1) Y.len,λi p h=>?_⟩,.cons ⟨rfl,rk,O⟩ G⟩
   cases i with
   |zero=>cases h;exact⟨_,rfl,le.yp L,qN (k:=k.all H) j (rk.all le),(zt U).2⟩
   |succ i=>exact Y.item i p h
def N9{qs:List (TK×V×V)}{ps:List (TK×D)}(p:Paired (pY K k) qs ps):∀{ws:List (TK×V×V)} {kvs:List (TK×D)},ws.map (·.1)=kvs.map (·.1)->ag K k (ws.map (·.2.1)) (kvs.map (·.1.d))->ag K k (ws.map (·.2.2)) (kvs.map (·.2))->
  (fG ws qs).map (·.1)=(ps.foldl (λkvs p=>bP kvs p.1 p.2) kvs).map (·.1)/\ag K k ((fG ws qs).map (·.2.1)) ((ps.foldl (λkvs p=>bP kvs p.1 p.2) kvs).map (·.1.d))/\ag K k ((fG ws qs).map (·.2.2)) ((ps.foldl (λkvs p=>bP kvs p.1 p.2) kvs).map (·.2)):=by
 induction p with
 |nil=>exact λa b c=>⟨a,b,c⟩
 |@cons q p qs ps h _ G=>
  intro ws kvs a b c;obtain⟨J,Y,U⟩:=h;obtain⟨j1,j2,j3⟩:=Ij Y U a b c;rw[J] at j1 j2 j3;have:=G (ws:=dN ws p.1 q.2.1 q.2.2) (kvs:=bP kvs p.1 p.2) j1 j2 j3;rw[show fG ws (q::qs)=fG (dN ws p.1 q.2.1 q.2.2) qs by unfold fG;rw[yE,J],yE]
  exact this
def UK:b_ K (OX K) (o1 oo):=qT λk H x a y Q le t e J=>by
 unfold oo at e;split at e
 .obtain⟨ps,U,e⟩:=cF.mp e;split at e
  .rename_i Y
   cases e;obtain⟨p,ws,rfl,s,r⟩:=t.lst le;obtain⟨qs,g1,g3⟩:=M8 U r le;obtain⟨o1,o2,V⟩:=N9 g3 (ws:=[]) (kvs:=[]) rfl .nil .nil;exact⟨p,ws,qs,rfl,s,g1,by rw[Paired.length g3];exact Y,λl ep hl=>J.ao le o1 o2 V hl⟩
  .cases e
 .cases e
noncomputable def Qt:D->ai String
 |.str _=>some "str"
 |.lst _=>some "list"
 |.ao _=>some "dict"
 |_=>none
def ZS{T:String}(le:aE k.F H)(t:Top K k H x d)(e:Qt d=some T):Ge K T x H:=by
 cases d with
 |str _=>cases e;cases t.flat rfl;rfl
 |lst _=>cases e;obtain⟨p,ws,rfl,q,r⟩:=t.lst le;exact .inl ⟨rfl,_,q⟩
 |ao _=>cases e;obtain⟨p,es,ep,rfl,J,Y⟩:=t.ao le;exact .inr (.inr (.inl ⟨rfl,.inr (.inr ⟨es,ep,J⟩)⟩))
 |_=>cases e
def Bu(T:String)(o:List D->ai Rv)(f:GE)(g:GA):GE:=λU S=>bd (f U S) λr J=>if(iG J (lX r)).bind Qt=some T then bd (g U J) λvs Y=>(tU Y (lX r::vs)).bind λds=>(o ds).map λy=>.ok y Y else none
def UL{W:XW}{q:Nat}{T:String}{o:List D->ai Rv}{r:V->List V->Hp->VK->Prop}{f:GE}{g:GA}{Z:St}{Q:VK}(bN:b_ K (oM r) o)(t:tE K W q (Bu T o f g) Z H Q):K6 K T r (tE K W q f) (g9 K W q g) Z H Q:=by
 obtain⟨k,U,S,res,ok,gk,e,w⟩:=t;refine tX.bd ok gk e w λr S1 x k1 H1 R g1 l e1 w1 _=>?_
 obtain⟨k2,B,J,G⟩:=pM R l;split at e1
 .rename_i m
  obtain⟨d,p,b⟩:=cF.mp m;refine⟨ZS J.le (E_ J G p) b,tX.bd J (g1.up (B q)) e1 (w1.up (B q)) λvs S3 xs k3 F Y g3 a L w3 u3=>?_⟩
  obtain⟨ds,I,O⟩:=cF.mp L;obtain⟨y,j,rfl⟩:=c_.mp O;obtain⟨x',xs',z,rr⟩:=bN k3 F (x::xs) ds y Q Y.le (NK Y (.cons (G.up u3) a) I) j (.fin Y w3)
  lia
 .cases e1
def jo:D->D->ai Rv
 |.lst ds,.str z=>(eK ds).bind λys=>(findS ys z).map λj=>rd (.int (j:Nat))
 |_,_=>none
def UM:b_ K (oM (OV K)) (o2 jo):=tL λk H x z a b y Q le V U e J=>by
 unfold jo at e;split at e
 .obtain⟨ys,e1,e2⟩:=cF.mp e;obtain⟨j,Y,rfl⟩:=c_.mp e2;obtain⟨p,ws,rfl,s,r⟩:=V.lst le;rw[Er e1] at r;cases He r;cases U.flat rfl;obtain⟨s1,s2⟩:=yY Y;exact⟨_,_,rfl,p,ys,_,j,rfl,rfl,s,s1,s2,J.flat le rfl⟩
 .cases e
def mC:D->D->ai Rv
 |.ao kvs,i=>(jD i).map λj=>rd ((aG kvs j).getD .aI)
 |_,_=>none
def Xa:b_ K (oM (vg K)) (o2 mC):=tL λk H x z a b y Q le V U e J=>by
 unfold mC at e;split at e
 .obtain⟨j,Y,rfl⟩:=c_.mp e;obtain⟨p,o,rfl,g,h⟩:=uc le V U Y;refine⟨_,_,rfl,p,_,o,rfl,rfl,g,?_⟩;rcases h with⟨rfl,h⟩|⟨v,e,rfl,h,r⟩
  .rw[h] at J;exact J.flat le rfl
  .rw[h] at J;exact J.rep le r
 .cases e
end
variable{k:Kn}{ws:List V}{ds:List D}{v:V}
def Cell.box:Cell->ai Bx
 |.o b=>some b
 |_=>none
noncomputable def iu(S:aU):Val->ai Bx
 |.c n=>(S.s[n]?).bind Cell.box
 |.d (.ref n)=>(S.r[n]?).bind Cell.box
 |_=>none
noncomputable def setB(S:aU)(b:Bx):Val->aU
 |.c n=>⟨S.s.set n (.o b),S.r⟩
 |.d (.ref n)=>⟨S.s,S.r.set n (.o b)⟩
 |_=>S
noncomputable def Bx.mb(q:Nat):Bx->Bool
 |.lst _=>Nat.ble q 1
 |.ao _=>q == 0
def Bx.ty:Bx->String
 |.lst _=>"list"
 |.ao _=>"dict"
section
variable{K:aP}{k:Kn}{H:Hp}{S:aU}{x:V}{v:Val}{b:Bx}{a:aj}
def O6{c:Cell}(h:c.box=some b):c=.o b:=by
 cases c <;> cases h;rfl
def O7{q:Nat}(h:dY K k H a b)(m:b.mb q=true):∀o,H a=some o->tH q o=false:=by
 intro o e;cases b with
 |lst xs=>
  obtain⟨ws,e1,_⟩:=h;rw[e] at e1;cases e1;have:=yB m
  match q,this with
  |0,_=>rfl
  |1,_=>rfl
 |ao kvs=>cases(beq_iff_eq.mp m);rfl
def Bk(ok:cv K k H S)(r:dc K k x v)(e:iu S v=some b):∃a,x=.ref a/\dY K k H a b/\∀q b' H',kU H H' a->b.mb q=true->dY K k H' a b'->cv K k H' (setB S b' v)/\Up q k H k H':=by
 cases v with
 |c n=>
  obtain⟨a,rfl,J⟩:=r;obtain⟨c,U,G⟩:=cF.mp e;cases O6 G;obtain⟨Y,V⟩:=ok.s.at' n a _ J U;exact⟨a,rfl,V,λq b' H' o m h=>ok.K1 J o Y (O7 V m) (c:=.o b') ⟨Y,h⟩⟩
 |d y=>
  cases y with
  |ref n=>
   obtain⟨a,rfl,J⟩:=ag.isRef r;obtain⟨c,U,G⟩:=cF.mp e;cases O6 G;obtain⟨Y,V⟩:=ok.r.at' n a _ J U;exact⟨a,rfl,V,λq b' H' o m h=>ok.C7 J o Y (O7 V m) (c:=.o b') ⟨Y,h⟩⟩
  |_=>cases e
def e7z{T:String}(h:dY K k H a b)(e:b.ty=T):Ge K T (.ref a) H:=by
 cases b with
 |lst xs=>obtain⟨ws,J,_⟩:=h;exact .inl ⟨e.symm,ws,.inl (.inl J)⟩
 |ao kvs=>obtain⟨es,ep,J,_⟩:=h;exact .inr (.inr (.inl ⟨e.symm,.inr (.inr ⟨es,ep,J⟩)⟩))
end
def kT(K:aP)(r:V->List V->Hp->VK->Prop)(m:Bx->List D->ai (Bx×D)):Prop:=∀k H a b ds b' d xs Q,aE k.F H->dY K k H a b->ag K k xs ds->m b ds=some (b',d)->(∀x o',dY K k (upd H a o') a b'->ag K k [x] [d]->Q x (upd H a o'))->r (.ref a) xs H Q
def dD(q:Nat)(T:String)(m:Bx->List D->ai (Bx×D))(f:GE)(g:GA):GE:=λU S=>bd (f U S) λr J=>if(iu J (lX r)).map Bx.ty=some T then bd (g U J) λvs Y=>(ph vs Y).bind λp=>(iu p.2 (lX r)).bind λb=>if b.mb q=true then(m b p.1).map λz=>.ok (rd z.2) (setB p.2 z.1 (lX r)) else none else none
section
variable{K:aP}{W:XW}{q:Nat}{T:String}{m:Bx->List D->ai (Bx×D)}{r:V->List V->Hp->VK->Prop}{f:GE}{g:GA}{Z:St}{H:Hp}{Q:VK}
def ZT(hm:kT K r m)(t:tE K W q (dD q T m f g) Z H Q):K6 K T r (tE K W q f) (g9 K W q g) Z H Q:=by
 obtain⟨k,U,S,res,ok,gk,e,w⟩:=t;refine tX.bd ok gk e w λr S1 x k1 H1 D g1 r1 e1 w1 _=>?_
 obtain⟨k2,F,Y,B⟩:=pM D r1;split at e1
 .rename_i hT
  obtain⟨b0,h1,h2⟩:=c_.mp hT;obtain⟨a0,l,h3,_⟩:=Bk Y B h1;refine⟨l ▸ e7z h3 h2,tX.bd Y (g1.up (F q)) e1 (w1.up (F q)) λvs S3 xs k3 L jE g3 r3 I w3 u3=>?_⟩
  obtain⟨⟨ds,S4⟩,O,j⟩:=cF.mp I;obtain⟨V,R,G,r4⟩:=ES jE r3 O;obtain⟨b,z,J⟩:=cF.mp j;obtain⟨a,rfl,h4,h5⟩:=Bk G ((B.up u3).up (R q)) z;split at J
  .rename_i hb
   obtain⟨⟨b',d⟩,p,rfl⟩:=c_.mp J;refine hm V L a b ds b' d xs Q G.le h4 r4 p λy o' h6 h7=>?_
   obtain⟨lO,u5⟩:=h5 q b' _ A3 hb h6;exact(w3.up (R q)) y V _ u5 lO h7
  .cases J
 .cases e1
noncomputable def mV:Bx->List D->ai (Bx×D)
 |.lst xs,[d]=>if xs.length<1000000 then some (.lst (xs++[d]),.aI) else none
 |_,_=>none
def yl:ag K k [.aI] [.aI]:=.flat rfl .nil
def EX{xs:List V}{d:D}(h:ag K k xs [d]):∃x,xs=[x]/\ag K k [x] [d]:=by
 obtain⟨x,us,rfl,J,Y⟩:=h.cz;cases Y.gp;exact⟨x,rfl,J⟩
def Tf:kT K NG mV:=by
 intro k H a b ds b' d xs Q le hb r e h;unfold mV at e;split at e
 .split at e
  .rename_i hl
   cases e;obtain⟨ws,Y,J⟩:=hb;obtain⟨y,rfl,V⟩:=EX r;exact⟨a,ws,y,rfl,rfl,Y,gq (by rw[J.length];exact hl) (by decide),h .aI _ ⟨_,aQ,J.append V⟩ yl⟩
  .cases e
 .cases e
noncomputable def Bl:Bx->List D->ai (Bx×D)
 |.lst xs,[.int i,d]=>if 0<=i/\i<2^62/\xs.length<1000000 then some (.lst (xs.take i.toNat++d::xs.drop i.toNat),.aI) else none
 |_,_=>none
def Tg:kT K NI Bl:=by
 intro k H a b ds b' d xs Q le hb r e h;unfold Bl at e;split at e
 .split at e
  .rename_i hl
   cases e;obtain⟨ws,Y,J⟩:=hb;obtain⟨y,us,rfl,U,G⟩:=r.cz;obtain⟨z,rfl,B⟩:=EX G;cases U.aR rfl;refine⟨a,ws,_,z,rfl,rfl,Y,hl.1,hl.2.1,gq (by rw[J.length];exact hl.2.2) (by decide),h .aI _ ⟨_,aQ,?_⟩ yl⟩
   have:∀(n:Nat) (l:List V),pz l n z=l.take n++z::l.drop n:=λn l=>by unfold pz;rfl
   rw[this];exact(J.take _).append (.cons B (J.drop _))
  .cases e
 .cases e
def EY:Bx->List D->ai (Bx×D)
 |.lst xs,[.str z]=>(eK xs).bind λys=>(findS ys z).map λj=>(.lst (xs.eraseIdx j),.aI)
 |_,_=>none
def Th(h:ag K k ws ds)(j:Nat):ag K k (ws.eraseIdx j) (ds.eraseIdx j):=by
 rw[List.eraseIdx_eq_take_drop_succ,List.eraseIdx_eq_take_drop_succ];exact(h.take _).append (h.drop _)
def Ti:kT K N4 EY:=by
 intro k H a b ds b' d xs Q le hb r e h;unfold EY at e;split at e
 .obtain⟨ys,e1,e2⟩:=cF.mp e;obtain⟨j,Y,V⟩:=c_.mp e2;cases V;obtain⟨ws,U,J⟩:=hb;obtain⟨y,rfl,B⟩:=EX r;cases B.aR rfl;obtain⟨s1,s2⟩:=yY Y;have G:=Th J j;rw[Er e1] at J;cases He J;exact⟨a,ys,_,j,rfl,rfl,U,s1,s2,h .aI _ ⟨_,aQ,by rw[<-Es];exact G⟩ yl⟩
 .cases e
def df{α:Type}(kvs:List (TK×α))(z:Str):List (TK×α):=kvs.filter λe=>i7 z e.1
def iY:Bx->List D->ai (Bx×D)
 |.ao kvs,[.str z]=>if eU kvs=true then(aG kvs (.inr z)).map λd=>(.ao (df kvs z),d) else none
 |_,_=>none
theorem M9(z:Str):∀{ws:List (TK×V×V)} {kvs:List (TK×D)},ws.map (·.1)=kvs.map (·.1)->ag K k (ws.map (·.2.1)) (kvs.map (·.1.d))->ag K k (ws.map (·.2.2)) (kvs.map (·.2))->
  (df ws z).map (·.1)=(df kvs z).map (·.1)/\ag K k ((df ws z).map (·.2.1)) ((df kvs z).map (·.1.d))/\ag K k ((df ws z).map (·.2.2)) ((df kvs z).map (·.2))
 |[],[],_,_,_=>⟨rfl,.nil,.nil⟩
 |w::ws,p::kvs,h,S,R=>by
  refine kY λF=>?_
  obtain⟨Y,B⟩:=List.cons.inj (show w.1::ws.map (·.1)=p.1::kvs.map (·.1) from h)
  obtain⟨a1,a2⟩:=ag.inv S;obtain⟨U,G⟩:=ag.inv R;obtain⟨c1,c2,J⟩:=M9 z B a2 G;refine F ?_;unfold df at *;rw[yx,yx,Y];split
  .exact⟨congr (congrArg List.cons Y) c1,.cons a1 c2,.cons U J⟩
  .exact⟨c1,c2,J⟩
 |[],_::_,h,_,_=>nomatch h
 |_::_,[],h,_,_=>nomatch h
def Xb:kT K (vk K) iY:=by
 intro k H a b ds b' d xs Q le hb r e h;unfold iY at e;split at e
 .split at e
  .rename_i ht
   obtain⟨O,e1,e2⟩:=c_.mp e;cases e2;obtain⟨es,ep,F,J,Y,V⟩:=hb;obtain⟨y,rfl,R⟩:=EX r;cases R.aR rfl;obtain⟨U,G,B⟩:=M9 (K:=K) _ J Y V;rcases Ii (k:=.inr _) J V with⟨_,z⟩|⟨v,e,L,D,I⟩
   .rw[z] at e1;cases e1
   .rw[D] at e1;cases e1;exact⟨a,es,ep,_,v,rfl,rfl,F,Fs J Y ht,L,λS=>h v _ ⟨_,S,aQ,U,G,B⟩ I⟩
  .cases e
 .cases e
end
def oO(K:aP):o7:=λo i v H Q=>vm o i v H Q\/∃a J,o=.ref a/\vT K H a i v J/\Q J
def PU{X:Cx}(W:X.A.units+41<cLine):sx X (oO X.K):=by
 intro aa s Z H o i v G U u Q I Y J rv h;rcases h with h|⟨a,H4,rfl,g,q⟩
 .exact Ub aa s Z H o i v G U u Q I Y J rv h
 .cases Y;exact SX (by lia) I g J rv λs4 V=>⟨H4,V,q⟩
def tV(b:Bx)(i v:D):ai Bx:=match b with
 |.lst xs=>(intD i).bind λk=>(tG xs.length k).map λj=>.lst (xs.set j v)
 |.ao kvs=>(jD i).bind λj=>if kvs.length<1000000 then some (.ao (bP kvs j v)) else none
section
variable{X:Cx}{K:aP}{W:XW}{q:Nat}{Y G fi:GE}{o e i:Expr}{B J:Pos}{Z:St}{H:Hp}
def Xc{d:D}(h:ag K k ws ds)(r:ag K k [v] [d])(j:Nat):ag K k (ws.set j v) (ds.set j d):=by
 induction ds generalizing ws j with
 |nil=>rw[h.gp];exact .nil
 |cons x ds F=>
  obtain⟨w,us,rfl,U,V⟩:=h.cz;cases j with
  |zero=>exact .cons r V
  |succ j=>exact .cons U (F V j)
def O8{a:aj}{b b':Bx}{L dv:D}{y:V}{Q:Hp->Prop}(le:aE k.F H)(hb:dY K k H a b)(O:ag K k [y] [L])(rv:ag K k [v] [dv])(e:tV b L dv=some b')(h:∀o',dY K k (upd H a o') a b'->Q (upd H a o')):oO K (.ref a) y v H Q:=by
 unfold tV at e;split at e
 .obtain⟨j,S,e⟩:=cF.mp e;obtain⟨n,R,rfl⟩:=c_.mp e;cases EU S;cases O.aR rfl;obtain⟨ws,T,U⟩:=hb;exact .inl ⟨a,ws,j,n,rfl,rfl,T,by rw[U.length];exact R,h _ ⟨_,aQ,Xc U rv n⟩⟩
 .obtain⟨j,S,e⟩:=cF.mp e;split at e
  .rename_i hl
   cases e;obtain⟨es,ep,R,T,U,I⟩:=hb;obtain⟨k1,k2⟩:=zt S;have z:ag K k [y] [j.d]:=by rw[k1];exact O
   obtain⟨m,t,l⟩:=Ij z rv T U I;have p:es.length<sizeLine:=by
    have:=I.length;rw[ba,ba] at this;rw[this];exact gq hl (by decide)
   exact .inr ⟨a,_,rfl,⟨es,ep,j,R,NZ T U le,qN (k:=k.all H) j (z.all le),k2,p,rfl⟩,h _ ⟨_,_,aQ,m,t,l⟩⟩
  .cases e
def bR(q:Nat)(Y G fi:GE):GS:=λU S=>jX U (mh Y (mh G (mh fi gN)) U S) λvs V=>match vs with
 |[v,o,i]=>(ph [v,i] V).bind λp=>(iu p.2 o).bind λb=>if b.mb q=true then(match p.1 with
  |[dv,di]=>(tV b di dv).map λb'=>.nx U (setB p.2 b' o)
  |_=>none) else none
 |_=>none
def ZU{D:Ends}(t:tS K W q (bR q Y G fi) D Z H):tE K W q Y Z H λv H1=>tE K W q G Z H1 λo L=>tE K W q fi Z L λi F=>oO K o i v F λT=>D.nx Z T:=by
 have t1:g9 K W q (mh Y (mh G (mh fi gN))) Z H λxs F=>∃v o i,xs=[v,o,i]/\oO K o i v F λT=>D.nx Z T:=by
  obtain⟨k,U,S,fr,ok,gk,e,w⟩:=t;refine tS.bd ok gk e w λvs S1 xs k1 H1 j g1 r1 e1 w1=>?_
  split at e1
  .obtain⟨xv,_,rfl,rv,t⟩:=Paired.Dt r1;obtain⟨xo,_,rfl,ro,t⟩:=Paired.Dt t;obtain⟨xi,_,rfl,ri,t⟩:=Paired.Dt t;cases t;refine⟨xv,xo,xi,rfl,?_⟩;obtain⟨⟨ds,S2⟩,e2,z⟩:=cF.mp e1;obtain⟨k2,R,I,r2⟩:=ES j (.cons rv (.cons ri .nil)) e2;obtain⟨b,p,V⟩:=cF.mp z;obtain⟨a,rfl,m,l⟩:=Bk I (ro.up (R q)) p;split at V
   .rename_i hb
    obtain _|⟨dv,_|⟨di,_|⟨_,_⟩⟩⟩:=ds
    .cases V
    .cases V
    .obtain⟨b',d,rfl⟩:=c_.mp V;obtain⟨s1,s2⟩:=r2.inv;refine O8 I.le m s2 s1 d λo' h6=>?_
     obtain⟨lO,O⟩:=l q b' _ A3 hb h6;exact cg.now (cg.up (cg.up w1 (R q)) O) lO ((g1.up (R q)).up O)
    .cases V
   .cases V
  .cases e1
 refine nB (sF t1) λv H1 h=>nB (sF h) λo L h=>nB (sF h) λi F h=>?_
 obtain⟨v',o',i',e,h⟩:=zD h;cases e;exact h
def ZV(R:PE X e (tE K W q Y))(ho:PE X o (tE K W q G))(hi:PE X i (tE K W q fi))(I:X.A.units+41<cLine)(T:X.K=K)
  (S:∀v,assign (.Subscript o i J) X.env v=(do
   let V <-holding [v] (eval o X.env)
   let U <-holding [v,V] (eval i X.env)
   standAt J
   holding [v,V,U] (setItem V U v)
   release [v,V,U] []))
  (L:swapsWithSole [.Subscript o i J] e B.line X.env=pure false) (hw:swappedStores [.Subscript o i J] e X.env=pure none)
  (F:(assignEach [.Subscript o i J] X.env).map (·.2)=[assign (.Subscript o i J) X.env]):PS X (.Assign [.Subscript o i J] e B) (tS K W q (bR q Y G fi)):=by
 subst T;exact(Y4 R (Y3 ho hi (PU I) S) L hw F).mono λD Z H t=>ZU t
end
end L2
namespace L2
open PySem PySem.Spec PySem.W PyProof.Rows
section
variable{X:Cx}{K:fP}{W:XW}{q:Nat}{J:Pos}{aa:List (aj×Obj)}{Z:St}
def qU:PE X (.Dict [] [] J) ZP:=λaa s Z H Q I h=>
 wpAny_Dict_empty ⟨.ref s.heap.objs.size,_,I.laid (a:=s.heap.objs.size) (o:=.dG [] 0) (t':=s.toks) (λ_ _ q=>c8 _ q) (bU _) (HQ s.heap I.big),rfl,h _ (I.bN.fresh (bU _))⟩
noncomputable def mW:GE:=λ_ S=>some (.ok (.o (.ao [])) S)
def ql:PE X (.Dict [] [] J) (tE K W q mW):=qU.mono λZ H Q t p hp=>by
 obtain⟨k,U,S,Y,ok,gk,e,w⟩:=t;cases e;exact kF.ao (.fin ok w) ok.le rfl .nil .nil hp
def n8(K:fP)(F:Hp)(e:TK×V×V):Prop:=bK K F [e.2.1] [e.1.d]/\e.1.ok 8=true
def O9(K:fP)(G:List (TE×TE)):TE:=λZ H Q=>∀p,H p=none->E8 G Z (upd H p (.dG [] 0)) λps Y=>(∃U,Y p=some (.dG [] U))/\∃(F:Hp) (qs:List (TK×V×V)),F p=none/\aE F Y/\ps=qs.map (·.2)/\(∀e∈qs,n8 K F e)/\qs.length<=15/\∀ep,Q (.ref p) (upd Y p (.dG (fG [] qs) ep))
def UN{F:Hp}{qs:List (TK×V×V)}(h:∀e∈qs,n8 K F e):∀{es:List (TK×V×V)},bK K F (es.map (·.2.1)) (es.map (·.1.d))->bK K F ((fG es qs).map (·.2.1)) ((fG es qs).map (·.1.d)):=λ{es} r=>Mo K (λp m=>(h p m).1) r
theorem ML{A:cW}{E:ak->aB->Prop}{F Y:Hp}{p:aj}(hF:F p=none)(le:aE F Y)(T:A.units+8<cLine){Q:Unit->aB->Prop}:∀{qs:List (TK×V×V)} {ws:List (ak×ak)} {es:List (TK×V×V)} {ep:Nat} {s:aB},VV (qs.map (·.2)) ws->(∀e∈qs,n8 X.K F e)->bK X.K F (es.map (·.2.1)) (es.map (·.1.d))->es.length+qs.length<=1000->Inv X aa Z (upd Y p (.dG es ep)) s->(∀ep s,Inv X aa Z (upd Y p (.dG (fG es qs) ep)) s->Q () s)->
  wpAny (mX X) A (forIn ws () λ(x:ak×ak) _=>do dictSet p x.1 x.2;pure (ForInStep.yield ())) Q E s
 |[],_,es,ep,s,v,_,_,_,I,h=>by
  rw[DE] at v;cases v;rw[List.forIn_nil];exact bw (h ep s I)
 |e::qs,_,es,ep,s,v,B,r,hl,I,h=>by
  rw[cS] at v;cases v with
  |cons rv v=>
   rw[List.forIn_cons];have sm:aE F (upd Y p (.dG es ep)):=λb o z=>by rw[dz (λy=>by rw[y,hF] at z;cases z)];exact le b o z
   have U:=B e (.head _);rw[jR] at hl;refine aK (aK (HD (by lia) I ⟨es,ep,e.1,aQ,r.Gf sm,U.1.Gf sm,U.2,by rw[sizeLine_eq];lia,rfl⟩ rv.1 rv.2 λs' G=>bw ?_))
   rw[VS] at G;have S:=D9 e.1 e.2.1 e.2.2 es;have R:(fG es [e]).length=(dN es e.1 e.2.1 e.2.2).length:=rfl;exact ML (es:=fG es [e]) hF le T v (λe m=>B e (.tail _ m)) (UN (qs:=[e]) (λx m=>by cases jT.mp m;exact U) r) (by lia) G h
def UO{V:List (ai Expr)}{Y:List Expr}{T:List (TE×TE)}(h:uj X J V Y T)(hu:X.A.units+41<cLine)(B:V.all (·.isSome)=true)(hl:V.length=Y.length)(h0:V≠[])(xa:V.length<=15):PE X (.Dict V Y J) (O9 X.K T):=by
 intro aa s Z H Q I q;have d:=I.bN.fresh (bU s.heap.objs.size);have R:=I.laid (a:=s.heap.objs.size) (o:=.dG [] 0) (h':=s.heap.push { cls:=.type "dict",data:=.dict #[]}) (t':=s.toks) (λ_ _ q=>c8 _ q) (bU _) (HQ s.heap I.big)
 have t:∀(ks:List (ai Expr)) (vs:List Expr),ks.all (·.isSome)=true->ks.length=vs.length->(pairTrees ks vs X.env J).length=ks.length:=by
  intro ks
  induction ks with
  |nil=>intro vs _ e;cases vs with
   |nil=>rfl
   |cons _ _=>cases e
  |cons k ks b=>
   intro vs a e;rw[rn,jx] at a;cases k with
   |none=>cases a.1
   |some k=>cases vs with
    |nil=>cases e
    |cons v vs=>exact congrArg (·+1) (b vs a.2 (Nat.succ.inj e))
 have Km:=t V Y B hl;rw[arm_eval_Dict,zip_pairTrees V Y X.env J B hl,dictDisplay_pairs _ (λz=>h0 (List.eq_nil_of_length_eq_zero (by rw[<-Km,z];rfl))) (by rw[Km];lia)]
 refine aK (wpAny_standAt (aK ?_));unfold subDict;refine aK (wpAny_alloc (aK (kA ?_)));rw[bJ (by rw[Km];exact xa)]
 refine aK (bO (h aa _ Z _ _ R (q _ d)) λws s2 j=>?_)
 refine kY λm=>?_
 obtain⟨ps,G,L,U,⟨D,e⟩,F,qs,hF,le,ep,p,hq,l⟩:=j;subst ep;refine m ?_;refine kA (aK ?_);have O:upd G s.heap.objs.size (.dG [] D)=G:=by
  grind [aQ,dz]
 refine ML hF le (by show X.A.units+8<cLine;lia) U p .nil (by rw[Ak];lia) (O ▸ L) λep s' S=>?_
 exact bw (bw (bw ⟨.ref _,_,S,rfl,l ep⟩))
def IB:List D->ai (List (TK×D))
 |[]=>some []
 |a::b::ds=>(jD a).bind λj=>(IB ds).map λps=>(j,b)::ps
 |_=>none
def my(g:GA):GE:=λU S=>bd (g U ⟨S.s++[.o (.ao [])],S.r⟩) λvs Y=>(ph vs Y).bind λz=>if z.2.s.length=S.s.length+1 then(match z.2.s[S.s.length]? with
 |some (.o (.ao []))=>(IB z.1).bind λps=>if ps.length<=15 then some (.ok (.o (.ao (ps.foldl (λkvs p=>bP kvs p.1 p.2) []))) ⟨z.2.s.take S.s.length,z.2.r⟩) else none
 |_=>none) else none
def wa:List (GE×GE)->GA
 |[]=>gN
 |p::r=>mh p.1 (mh p.2 (wa r))
noncomputable def qv:List (V×V)->List V
 |[]=>[]
 |p::r=>p.1::p.2::qv r
noncomputable abbrev Ad(K:fP)(W:XW)(q:Nat)(Y:List (GE×GE)):List (TE×TE):=Y.map λp=>(tE K W q p.1,tE K W q p.2)
def UP{Y:List (GE×GE)}:∀{H:Hp} {Q:List (V×V)->Hp->Prop},g9 K W q (wa Y) Z H (λxs U=>∀ps,qv ps=xs->Q ps U)->E8 (Ad K W q Y) Z H Q:=by
 induction Y with
 |nil=>intro H Q t;exact zD t [] rfl
 |cons p Y G=>intro H Q t;exact nB (sF t) λx H1 t=>nB (sF t) λy U t=>G (nB t λxs B h ps e=>h _ (by rw[<-e];rfl))
theorem N_{k:Kn}:∀{ps:List (V×V)} {ds:List D} {es:List (TK×D)},IB ds=some es->ag K k (qv ps) ds->∃qs:List (TK×V×V),ps=qs.map (·.2)/\(∀e∈qs,n8 K k.F e)/\Paired (pY K k) qs es
 |[],ds,es,e,r=>by
  cases ds with
  |nil=>cases e;exact⟨[],rfl,(λ_ m=>nomatch m),.nil⟩
  |cons _ _=>have:=r.length;cases this
 |p::ps,ds,es,e,r=>by
  cases ds with
  |nil=>have:=r.length;cases this
  |cons a ds=>cases ds with
   |nil=>have:=r.length;cases this
   |cons b ds=>
    refine kY λT=>?_
    obtain⟨j,Y,e⟩:=cF.mp e;obtain⟨S,R,rfl⟩:=c_.mp e;obtain⟨L,r⟩:=ag.inv r;obtain⟨I,r⟩:=ag.inv r;obtain⟨qs,U,G,B⟩:=N_ R r;have rk:ag K k [p.1] [j.d]:=by rw[(zt Y).1];exact L
    refine T ?_;refine⟨(j,p.1,p.2)::qs,by rw[U];rfl,λe m=>?_,.cons ⟨rfl,rk,I⟩ B⟩
    rcases y0c.mp m with rfl|m
    .exact⟨qN (k:=k) j rk,(zt Y).2⟩
    .exact G e m
def Tj{α:Type}{l:List α}{n:Nat}{p:α}(h:l.length=n+1)(e:l[n]?=some p):l=l.take n++[p]:=by
 conv=>lhs;rw[<-List.take_append_drop n l]
 congr 1
 obtain⟨Y,e⟩:=dX.mp e;rw[LC Y,e,Gk (by lia)]
def Xd{j:List (GE×GE)}{H:Hp}{Q:VK}(t:tE K W q (my (wa j)) Z H Q):O9 K (Ad K W q j) Z H Q:=by
 intro p hp;refine kY λV=>?_
 obtain⟨k,U,S,res,ok,gk,e,w⟩:=t;have sm:aE H (upd H p (.dG [] 0)):=qa hp;obtain⟨fx,nx⟩:=ok.fresh hp;have cU:cv K k _ S:=ok.new (aE.refl _) (λa _ o z=>sm a o z) (ok.le.trans sm) λ_ _ z=>z
 obtain⟨jE,u3⟩:=cU.pushS (b:=.ao []) fx nx ⟨[],0,aQ,rfl,.nil,.nil⟩;have I:Up q k H ⟨k.F,k.A,k.T++[p]⟩ (upd H p (.dG [] 0)):=(Up.of (aE.refl _) sm).trans (u3 q);refine V ?_;refine UP ?_;refine tX.bd (R':=RE K) (Q':=Q) jE (gk.up I) e (w.up I) λvs S1 xs k1 H1 bM g1 r1 e1 w1 u1 ps0 B=>?_
 subst B;refine kY λV=>?_
 obtain⟨z,e2,e1⟩:=cF.mp e1;obtain⟨k2,u2,Y,r5⟩:=ES bM r1 e2;refine V ?_;split at e1
 .rename_i hl
  split at e1
  .rename_i hc
   obtain⟨ps,e3,e1⟩:=cF.mp e1;split at e1
   .rename_i xa
    cases e1;have ep:k2.T[S.s.length]?=some p:=E9 (u2 q).t (E9 u1.t (by rw[<-ok.s.ln];exact EO))
    refine kY λV=>?_
    obtain⟨hF,es,B,hH,hk,_,_⟩:=Y.s.at' _ _ _ ep hc;refine V ?_;cases es with
    |cons _ _=>cases hk
    |nil=>
     obtain⟨qs,h1,h2,d⟩:=N_ e3 r5;have R:k2.T.length=S.s.length+1:=Y.s.ln.trans hl;have eT:=Tj R ep;have l:p∉k2.A++k2.T.take S.s.length:=by
      have nd:=Y.nd;rw[eT,<-jz] at nd;exact λm=>(l6.mp nd).2.2 p m p (List.mem_singleton_self _) rfl
     refine⟨⟨B,hH⟩,k2.F,qs,hF,Y.le,h1,h2,by rw[Paired.length d];exact xa,λL=>?_⟩
     obtain⟨o1,o2,o3⟩:=N9 d (ws:=[]) (kvs:=[]) rfl .nil .nil;have ho:kU H1 (upd H1 p (.dG (fG [] qs) L)) p:=A3;have Ku:=Y.take S.s.length;have D:cv K ⟨k2.F,k2.A,k2.T.take S.s.length⟩ (upd H1 p (.dG (fG [] qs) L)) ⟨z.2.s.take S.s.length,z.2.r⟩:=Ku.new (aE.refl _) (λa m o y=>by rw[ho a λy=>l (y ▸ m)];exact y) (λb o y=>by rw[ho b λy'=>by rw[y',hF] at y;cases y];exact Y.le b o y) λ_ _ y=>y
     have G:=I.trans (u1.trans (u2 q));refine w (.ref p) ⟨k2.F,k2.A,k2.T.take S.s.length⟩ _ ⟨G.f,G.a,MY G.t (DD ok.s.ln),λa o y1 O=>?_⟩ D ⟨p,rfl,hF,l,_,L,aQ,o1,ag.mono (k:=k2) ⟨aE.refl k2.F,kQ k2.A⟩ o2,ag.mono (k:=k2) ⟨aE.refl k2.F,kQ k2.A⟩ o3⟩
     rw[ho a λy=>by rw[y,hp] at O;cases O]
     exact G.h a o y1 O
   .cases e1
  .cases e1
 .cases e1
def Xe{Y:List (ai Expr)}{V:List Expr}{U:List (GE×GE)}(G:X.K=K)(h:uj X J Y V (Ad K W q U))(B:X.A.units+41<cLine)(F:Y.all (·.isSome)=true)(hl:Y.length=V.length)(h0:Y≠[])(T:Y.length<=15):PE X (.Dict Y V J) (tE K W q (my (wa U))):=(UO h B F hl h0 T).mono λZ H Q t=>by
 rw[G];exact Xd t
end
end L2
namespace L2
open PySem PySem.Spec PyProof.Rows
variable{aO:Str}{Z:St}{H:Hp}{Q:Str->Hp->Prop}
def lD:D->ai Rv
 |.str x=>if x.length<=1000000 then some (rd (.str x)) else none
 |.int i=>if i.natAbs.log2<1920 then some (rd (.str (Str.ofString (toString i)))) else none
 |_=>none
def KQ:V->Hp->VK->Prop:=λx H Q=>(∃z:Str,x=.str z/\z.length<=sizeLine/\Q (.str z) H)\/∃i:Int,x=.int i/\i.natAbs.log2<1920/\Q (.str (Str.ofString (toString i))) H
abbrev TJ:=Str->St->Hp->(Str->Hp->Prop)->Prop
def vA:TJ:=λaO _ H Q=>Q aO H
def O_(te:TE)(J:TJ):TJ:=λaO Z H Q=>te Z H λx H1=>∃y,x=.str y/\(aO++y).length<=sizeLine/\J (aO++y) Z H1 Q
def PJ(X:Cx)(es:List Expr)(J:TJ):Prop:=∀(aO:Str) (aa:List (aj×Obj)) (s:aB) (Z:St) (H:Hp) (Q:Str->Hp->Prop) (R:Str->aB->Prop),Inv X aa Z H s->J aO Z H Q->aO.length<=sizeLine->
 (∀out s' H',out.length<=sizeLine->Inv X aa Z H' s'->Q out H'->R out s')->Joins (mX X) X.A X.xe (evalEach es X.env) aO R s
abbrev GJ:=Str->Gx Str
noncomputable def kg:GJ:=λaO _ S=>some (.ok aO S)
noncomputable def Rv.str:Rv->ai Str
 |.v (.d (.str i))=>some i
 |_=>none
def lZ(f:GE)(j:GJ):GJ:=λaO U S=>bd (f U S) λr J=>r.str.bind λy=>if(aO++y).length<=1000000 then j (aO++y) U J else none
def wb(j:GJ):GE:=λU S=>bd (j Str.empty U S) λz J=>some (.ok (rd (.str z)) J)
abbrev RS:Rp Str Str:=λ_ _ b a=>b=a
section
variable{X:Cx}{K:aP}{W:XW}{q:Nat}{f:GE}{e v:Expr}{es:List Expr}{j:GJ}{Y:Pos}{V:TE}{J:TJ}
def Rv.yq{r:Rv}{i:Str}(h:r.str=some i):r=rd (.str i):=by
 obtain(d|_)|_:=r
 .cases d <;> cases h;rfl
 all_goals cases h
def ZW:b_ K (KO KQ) (o1 lD):=qT λk H x a y Q le t e U=>by
 unfold lD at e;split at e
 .split at e
  .cases e;cases t.flat rfl;exact⟨_,rfl,.inl ⟨_,rfl,ml (by assumption),U.flat le rfl⟩⟩
  .cases e
 .split at e
  .cases e;cases t.flat rfl;exact⟨_,rfl,.inr ⟨_,rfl,by assumption,U.flat le rfl⟩⟩
  lia
 lia
def BJ(h:PE X v (tE K W q f)):PE X (.FormattedValue v (-1) none Y) (tE K W q (gO (o1 lD) (bj f))):=by
 intro aa s Z H Q I t;refine wpAny_FormattedValue_plain (bO (h aa s Z H _ I (Jh (sO ZW t))) λu s1 ⟨x,H1,U,G,B⟩=>?_)
 rcases B with⟨z,rfl,hz,q⟩|⟨i,rfl,hi,q⟩
 .obtain⟨t',rfl⟩:=G;exact PyProof.Rows.formatField_str (λF tk=>⟨.str z,H1,U.tok _,⟨_,rfl⟩,q⟩) hz
 .obtain⟨t',rfl⟩:=G;exact wpAny_formatField_int hi ⟨.str _,H1,U.tok _,⟨_,rfl⟩,q⟩
def ZX:PJ X [] vA:=λaO aa s Z H Q R I t hl hR=>Joins_nil (hR _ _ _ hl I t)
def Xf(B:PE X e V)(F:PJ X es J):PJ X (e::es) (O_ V J):=λaO aa s Z H Q R I t hl hR=>
 Joins_cons (bO (B aa s Z H _ I t) λu s1 G=>by
  obtain⟨x,H1,U,S,y,rfl,Ql,T⟩:=G;obtain⟨t,rfl⟩:=S;exact⟨y,t,rfl,Ql,F (aO++y) aa s1 Z H1 Q R U T Ql hR⟩)
def Xg(t:tX RS K W q (kg aO) Z H Q):vA aO Z H Q:=BH t λ_ _=>rfl
def UQ(R:∀aO Z H Q,tX RS K W q (j aO) Z H Q->J aO Z H Q)(t:tX RS K W q (lZ f j aO) Z H Q):O_ (tE K W q f) J aO Z H Q:=by
 obtain⟨k,U,S,B,ok,gk,e,w⟩:=t;refine tX.bd ok gk e w λr F x k1 H1 T g1 L e1 D _=>?_
 obtain⟨y,e2,G⟩:=cF.mp e1;cases Rv.yq e2;split at G
 .exact⟨y,(show ag K k1 [x] [.str y] from L).aR rfl,ml (by assumption),R _ _ _ _ ⟨k1,U,F,B,T,g1,G,D⟩⟩
 .cases G
def Tn{B F:Expr}{G:List Expr}(h:PJ X (B::F::G) J)(O:∀aO Z H Q,tX RS K W q (j aO) Z H Q->J aO Z H Q):PE X (.JoinedStr (B::F::G) Y) (tE K W q (wb j)):=by
 intro aa s Z H Q I t;refine wpAny_JoinedStr (h Str.empty aa s Z H (λout H'=>Q (.str out) H') _ I (O _ _ _ _ ?_) (lq _) λout s' H' L T D=>⟨L,.str out,H',T.tok _,⟨_,rfl⟩,D⟩)
 obtain⟨k,U,S,d,ok,gk,e,w⟩:=t;refine tX.bd ok gk e w λz m l k1 H1 R g1 p e1 b _=>?_
 cases e1;cases p;exact b.now R (show ag K k1 [_] [_] from .flat rfl .nil)
end
variable{S:aU}{n:Nat}{T:Operator}{h:Int->Int->Int}
def jU(K:aP)(atr:List (aj×Str)):Prop:=∀p∈atr,Cls K p.1/\f7 K p.1 p.2
noncomputable def qI(S:aU)(n:Nat):ai (aj×List (Str×D)):=(S.r[n]?).bind λc=>match c with
 |.ins C fs=>some (C,fs)
 |_=>none
def EZ{p:aj×List (Str×D)}(h:qI S n=some p):S.r[n]?=some (.ins p.1 p.2):=by
 obtain⟨c,J,Y⟩:=cF.mp h;cases c <;> cases Y;exact J
def bB(atr:List (aj×Str))(g:Str)(f:GE):GE:=λU S=>bd (f U S) λr J=>r.ref.bind λn=>(qI J n).bind λp=>if atr.contains (p.1,g)=true then(p.2.lookup g).map λd=>.ok (rd d) J else none
noncomputable def gj(f:Str)(v:D):List (Str×D)->List (Str×D)
 |[]=>[(f,v)]
 |(g,x)::r=>if g=f then(g,v)::r else(g,x)::gj f v r
section
variable{X:Cx}{K:aP}{W:XW}{q:Nat}{atr:List (aj×Str)}{g:Str}{f R Y B fi:GE}{e o J i:Expr}{G P L:Pos}{Z:St}{H:Hp}
theorem HU{k:Kn}{d:D}:∀{U:List (Str×V)} {fs:List (Str×D)},U.map (·.1)=fs.map (·.1)->ag K k (U.map (·.2)) (fs.map (·.2))->fs.lookup g=some d->∃v,U.lookup g=some v/\ag K k [v] [d]
 |[],[],_,_,e=>nomatch e
 |(x,v)::U,(y,c)::fs,h,r,e=>by
  obtain⟨F,I⟩:=List.cons.inj (show x::U.map (·.1)=y::fs.map (·.1) from h)
  obtain⟨a1,a2⟩:=ag.inv r;subst F;rw[List.lookup_cons] at e ⊢;split at e
  .cases e;exact⟨v,rfl,a1⟩
  .exact HU I a2 e
 |[],_::_,h,_,_=>nomatch h
 |_::_,[],h,_,_=>nomatch h
theorem M_{k:Kn}{v:V}{d:D}(rv:ag K k [v] [d]):∀{U:List (Str×V)} {fs:List (Str×D)},U.map (·.1)=fs.map (·.1)->ag K k (U.map (·.2)) (fs.map (·.2))->(ec g v U).map (·.1)=(gj g d fs).map (·.1)/\ag K k ((ec g v U).map (·.2)) ((gj g d fs).map (·.2))
 |[],[],_,_=>⟨rfl,rv⟩
 |(x,w)::U,(y,c)::fs,h,r=>by
  obtain⟨I,F⟩:=List.cons.inj (show x::U.map (·.1)=y::fs.map (·.1) from h)
  obtain⟨a1,a2⟩:=ag.inv r;subst I;unfold ec gj;split
  .exact⟨congrArg (List.cons x) F,.cons rv a2⟩
  .obtain⟨c1,c2⟩:=M_ rv F a2;exact⟨congrArg (List.cons x) c1,.cons a1 c2⟩
 |[],_::_,h,_=>nomatch h
 |_::_,[],h,_=>nomatch h
def ZY(ha:jU K atr)(he:PE X e (tE K W q f))(hb:attributeBase e g X.env (eval e X.env)=eval e X.env)(hK:X.K=K):PE X (.Attribute e g G) (tE K W q (bB atr g f)):=by
 subst hK;refine(Zb he hb).mono λZ H Q t=>?_
 refine kY λV=>?_
 obtain⟨k,U,S,res,ok,gk,e,w⟩:=t;refine V ?_;refine tX.bd ok gk e w λr S1 x k1 H1 D g1 r1 e1 w1 _=>?_
 refine kY λV=>?_
 obtain⟨n,e2,I⟩:=cF.mp e1;cases Rv.lT e2;obtain⟨p,O,F⟩:=cF.mp I;refine V ?_;split at F
 .rename_i hc
  refine kY λV=>?_
  obtain⟨b,m⟩:=ha _ (kE.mp hc);obtain⟨d,j,rfl⟩:=c_.mp F;obtain⟨a,dx,z,rfl,h3,h4,l,h6,h7⟩:=Bs D r1 (EZ O);obtain⟨v,h8,h9⟩:=HU h6 h7 j;refine V ?_;exact⟨a,_,dx,z,v,rfl,l,b,m,h8,w1.now D h9⟩
 .cases F
def cv.C6{k:Kn}{a C dx:aj}{U:List (Str×V)}{fs:List (Str×D)}{v:V}{d:D}(ok:cv K k H S)(p:k.A[n]?=some a)(hF:k.F a=none)(I:H a=some (.ins C dx U))(O:U.map (·.1)=fs.map (·.1))(j:ag K k (U.map (·.2)) (fs.map (·.2)))(rv:ag K k [v] [d])(b:Nat.ble q 1=true):
  cv K k (upd H a (.ins C dx (ec g v U))) ⟨S.s,S.r.set n (.ins C (gj g d fs))⟩/\Up q k H k (upd H a (.ins C dx (ec g v U))):=by
 obtain⟨c1,c2⟩:=M_ (g:=g) rv O j;refine ok.C7 p A3 hF (λo z=>?_) ⟨hF,dx,_,aQ,c1,c2⟩
 rw[I] at z;cases z;have:=yB b
 match q,this with
 |0,_=>rfl
 |1,_=>rfl
def fL(q:Nat)(atr:List (aj×Str))(g:Str)(R Y:GE):GS:=λU S=>jX U (R U S) λD V=>jX U (Y U V) λI F=>(nF F (lX D)).bind λz=>I.ref.bind λn=>(qI z.2 n).bind λp=>if(atr.contains (p.1,g)&&Nat.ble q 1&&Nat.blt p.2.length 1000)=true then some (.nx U ⟨z.2.s,z.2.r.set n (.ins p.1 (gj g z.1 p.2))⟩) else none
def ZZ(ha:jU K atr)(ho:PE X o (tE K W q Y))(hv:PE X J (tE K W q R))(hs:swapsWith J (some (.Attribute o g P)) G.line X.env=pure false)(hK:X.K=K):PS X (.Assign [.Attribute o g P] J G) (tS K W q (fL q atr g R Y)):=by
 subst hK;refine(Zc ho hv hs).mono λD Z H t=>?_
 refine kY λV=>?_
 obtain⟨k,U,S,fr,ok,gk,e,w⟩:=t;refine V ?_;refine tS.bd ok gk e w λr1 S1 y k1 H1 bM g1 q1 e1 w1=>?_
 obtain⟨k2,m,cU,q2⟩:=pM bM q1;refine tS.BF cU (g1.up (m q)) e1 (w1.up (m q)) λr2 S2 x k3 H3 jE g3 r3 e2 w3 u3=>?_
 refine kY λV=>?_
 obtain⟨⟨d,S3⟩,e3,e4⟩:=cF.mp e2;obtain⟨k4,I,b,r4⟩:=ER jE (q2.up u3) e3;obtain⟨n,e5,e6⟩:=cF.mp e4;cases Rv.lT e5;obtain⟨p,e7,F⟩:=cF.mp e6;refine V ?_;split at F
 .rename_i hc
  cases F;simp only[jx] at hc;refine kY λV=>?_
  obtain⟨⟨FG,qB⟩,JF⟩:=hc;obtain⟨h1,h2⟩:=ha _ (kE.mp FG);obtain⟨a,dx,O,rfl,h3,h4,j,h6,z⟩:=Bs b (ag.mono (I q).le r3) (EZ e7);have hl:O.length<1000:=by
   have:=z.length;rw[ba,ba] at this;rw[this];exact yB JF
  obtain⟨lO,l⟩:=b.C6 (g:=g) h3 h4 j h6 z r4 qB;refine V ?_;exact⟨a,_,dx,O,rfl,j,h1,h2,hl,cg.now (cg.up w3 ((I q).trans l)) lO (g3.up ((I q).trans l))⟩
 .cases F
def IC(q:Nat)(h:Int->Int->Int)(atr:List (aj×Str))(g:Str)(Y B:GE):GS:=λU S=>jX U (Y U S) λr D=>r.ref.bind λn=>(qI D n).bind λp=>if atr.contains (p.1,g)=true then(match p.2.lookup g with
 |some (.int a)=>jX U (B U D) λI F=>I.int.bind λb=>(qI F n).bind λV=>if(V.1 == p.1&&Nat.ble q 1&&Nat.blt V.2.length 1000)=true then some (.nx U ⟨F.s,F.r.set n (.ins V.1 (gj g (.int (h a b)) V.2))⟩) else none
 |_=>none) else none
def Xh(xw:vP X T λx y H Q=>∃i j,x=.int i/\y=.int j/\Q (.int (h i j)) H)(ha:jU K atr)(ho:PE X o (tE K W q Y))(hv:PE X J (tE K W q B))(hK:X.K=K):PS X (.AugAssign (.Attribute o g L) T J G) (tS K W q (IC q h atr g Y B)):=by
 subst hK;refine(Sr ho hv xw).mono λD Z H t=>?_
 refine kY λV=>?_
 obtain⟨k,U,S,fr,ok,gk,e,w⟩:=t;refine V ?_;refine tS.bd ok gk e w λr S1 x k1 H1 bM g1 r1 e1 w1=>?_
 refine kY λV=>?_
 obtain⟨n,e2,e3⟩:=cF.mp e1;cases Rv.lT e2;obtain⟨p,e4,F⟩:=cF.mp e3;refine V ?_;split at F
 case isFalse=>cases F
 rename_i hc
 refine kY λV=>?_
 obtain⟨h1,h2⟩:=ha _ (kE.mp hc);obtain⟨a,dx,gs,rfl,h3,h4,h5,h6,h7⟩:=Bs bM r1 (EZ e4);refine V ?_;split at F
 case h_2=>cases F
 rename_i hl
 obtain⟨v,h8,h9⟩:=HU h6 h7 hl;cases h9.aR rfl;refine⟨a,_,dx,gs,_,rfl,h5,h1,h2,h8,tS.BF bM g1 F w1 λr2 S2 y k2 H2 cU g2 q2 e6 w2 u2=>?_⟩
 refine kY λV=>?_
 obtain⟨b,e7,e8⟩:=cF.mp e6;cases Rv.jq e7;cases(show ag X.K k2 [y] [.int b] from q2).aR rfl;obtain⟨p2,e9,Jg⟩:=cF.mp e8;refine V ?_;split at Jg
 case isFalse=>cases Jg
 rename_i hc
 cases Jg;simp only[jx,beq_iff_eq] at hc;refine kY λV=>?_
 obtain⟨⟨l,qB⟩,JF⟩:=hc;obtain⟨a',YM,gG,z,I,O,P_,m,P'⟩:=Bs cU (ag.mono u2.le r1) (EZ e9);cases z;have hl:gG.length<1000:=by
  have:=P'.length;rw[ba,ba] at this;rw[this];exact yB JF
 obtain⟨lO,u5⟩:=cU.C6 (g:=g) (v:=.int (h _ b)) (d:=.int (h _ b)) I O P_ m P' (.flat rfl .nil) qB;refine V ?_;exact⟨_,_,rfl,rfl,YM,gG,l ▸ P_,hl,l ▸ cg.now (cg.up w2 u5) lO (g2.up u5)⟩
def ID(q:Nat)(h:Int->Int->Int)(Y fi B:GE):GS:=λU S=>jX U (Y U S) λV O=>jX U (fi U O) λz F=>(match lX z,iu F (lX V) with
 |.d di,some (.ao kvs)=>(jD di).bind λj=>(match aG kvs j with
  |some (.int a)=>jX U (B U F) λp D=>p.int.bind λb=>(iu D (lX V)).bind λc=>if c.mb q=true then(match c with
   |.ao I=>if I.length<1000000 then some (.nx U (setB D (.ao (bP I j (.int (h a b)))) (lX V))) else none
   |_=>none) else none
  |_=>none)
 |_,_=>none)
def UR(O:X.A.units+41<cLine):Az X (λo i H Q=>∃a v,o=.ref a/\ig X.K H a i (some v)/\Q v H):=by
 intro aa s Z H o i z j Q I D F h;obtain⟨p,v,rfl,g,q⟩:=h;cases D;exact MH (by lia) I g F λd s3 V U=>⟨v,H,V,U,q⟩
def Xi(xw:DM X T (J' h))(ho:PE X o (tE K W q Y))(hi:PE X i (tE K W q fi))(hv:PE X J (tE K W q B))(hu:X.A.units+41<cLine)(hK:X.K=K)
  (ha:∀O F new,augStore i O F new=(do holding [new,O,F] (setItem O F new);release [new,O,F] [];pure .next)):PS X (.AugAssign (.Subscript o i L) T J G) (tS K W q (ID q h Y fi B)):=by
 subst hK;refine(VZ ho hi (UR hu) hv xw (PU hu) ha).mono λD Z H t=>?_
 refine kY λI=>?_
 obtain⟨k,U,S,fr,ok,gk,e,w⟩:=t;refine I ?_;refine tS.bd ok gk e w λr1 S1 x k1 H1 bM g1 q1 e1 w1=>?_
 obtain⟨k2,u2,cU,q2⟩:=pM bM q1;refine tS.BF cU (g1.up (u2 q)) e1 (w1.up (u2 q)) λr2 S2 y k3 H3 jE g3 r3 e2 w3 u3=>?_
 obtain⟨k4,u4,l,q4⟩:=pM jE r3;have q5:=(q2.up u3).up (u4 q);split at e2
 case h_2=>cases e2
 rename_i hd hg
 rw[hd] at q4;refine kY λI=>?_
 obtain⟨j,e3,m⟩:=cF.mp e2;obtain⟨a,rfl,hb,_⟩:=Bk l q5 hg;refine I ?_;split at m
 case h_2=>cases m
 rename_i Cr
 rename Int=>F
 have tp:Top X.K k4 H3 (.ref a) _:=.inr ⟨a,.ao _,rfl,rfl,hb⟩;refine kY λI=>?_
 obtain⟨p,o,z,g,hh⟩:=uc l.le tp (.inl q4) e3;cases z;refine I ?_;rcases hh with⟨_,z⟩|⟨v,d,rfl,z,rv⟩
 .rw[Cr] at z;cases z
 rw[Cr] at z;cases z;cases rv.aR rfl;refine⟨a,_,rfl,g,tS.BF l (g3.up (u4 q)) m (w3.up (u4 q)) λr5 S5 y5 k5 H5 lO g5 q6 e5 w5 u5=>?_⟩
 refine kY λI=>?_
 obtain⟨b,e6,e7⟩:=cF.mp e5;cases Rv.jq e6;cases(show ag X.K k5 [y5] [.int b] from q6).aR rfl;obtain⟨c,e8,V⟩:=cF.mp e7;obtain⟨a',z,lF,Lh⟩:=Bk lO (q5.up u5) e8;cases z;refine I ?_;split at V
 case isFalse=>cases V
 rename_i hm
 cases c with
 |lst _=>cases V
 |ao qQ=>
  dsimp only at V;split at V
  case isFalse=>cases V
  rename_i hl
  cases V;refine⟨_,_,rfl,rfl,O8 (b:=.ao qQ) (dv:=.int (h F b)) (b':=.ao (bP qQ j (.int (h F b)))) lO.le lF ((show dc X.K k4 y (.d di) from q4).up u5) (.flat rfl .nil) ?_ λo' h6=>?_⟩
  .unfold tV;dsimp only;rw[e3,vE,bJ hl]
  .obtain⟨Ku,u6⟩:=Lh q _ _ A3 hm h6;exact cg.now (cg.up w5 u6) Ku (g5.up u6)
end
end L2
namespace L2
open PySem PySem.Spec PySem.W PyProof.Rows
variable{k k':Int->Int->Bool}{G:CmpOp}{j:GJ}{T:String}{m:Str}
def cH.le{k k':Nat}{A:PySem.Around}(h:cH k A)(e:k'<=k:=by decide):cH k' A:=h.mono e
def tO{X:Cx}:fJ X W0:=λ_ _ _ _ _ _ _ _ _ _ _ z=>z.elim
noncomputable def z5:List Str->Bool
 |[]=>true
 |x::l => !l.contains x&&z5 l
theorem Fg:∀{l:List Str},z5 l=true->l.Nodup
 |[],_=>.nil
 |x::l,h=>by
  obtain⟨J,Y⟩:=vD.mp h;rw[Gy,<-Bool.not_eq_true,kE] at J;exact nW.mpr ⟨J,Fg Y⟩
section
variable{X:Cx}{K:fP}{W:XW}{q:Nat}{a b c e o:Expr}{es B:List Expr}{f g h:GE}{fs:GA}{P:GT}{J p Y V:Pos}{x:Str}
def xv(i:Nat)(hN:X.N[i]?=some x)(hv:G3 X.env.scope x)(hd:(x == ("__debug__":Str))=false)(U:(x == ("__classdict__":Str))=false):PE X (.Name x J) (tE K W q (mB i)):=Zm (YS hN hv hd U)
def xi{i:Int}{j}:PE X (.Constant (.int i) j J) (tE K W q (gC (.int i))):=wH YT
def xs{i:Str}{j}:PE X (.Constant (.str i) j J) (tE K W q (gC (.str i))):=wH YV
def xb{i:Bool}{j}:PE X (.Constant (.bool i) j J) (tE K W q (gC (.bl i))):=wH e7h
def xn{j}:PE X (.Constant .none j J) (tE K W q (gC .aI)):=wH YU
def xty{n:String}(hm:X.mg x=none)(hv:bootBuiltins x=some (.type n))(U:Gl X x)(F:x≠"__name__")(hd:(x == ("__debug__":Str))=false):PE X (.Name x J) (tE K W q (gC (.ty n))):=wH (e7p U hm hv F hd)
def nq(K:fP)(G:Operator)(o:List D->ai Rv):Prop:=∀X:Cx,X.K=K->∃r,dZ X (binaryOp G) r/\b_ K (lS r) o
def Lq:nq K .Add (o2 wk):=λX h=>⟨_,WL K h,ZF⟩
def Lv:nq K .Sub (o2 (eQ sf λi j=>.int (i - j))):=λX h=>⟨_,Y8,ZG⟩
def Ls:nq K .Mult (o2 tI):=λX h=>⟨_,WN,ZJ⟩
def Dw:nq K .FloorDiv (o2 (eQ (λ_ j=>decide (0<j/\j<1073741824)) λi j=>.int (i / j))):=λX h=>⟨_,V1,WM⟩
def Lr:nq K .Mod (o2 (eQ (λ_ j=>decide (0<j)) λi j=>.int (i%j))):=λX h=>⟨_,Y9,ZH⟩
def Lu:nq K .Pow (o2 (eQ (λi j=>decide (0<=j/\j<=1000000/\i.natAbs<2^64)) λi j=>.int (i^j.toNat))):=λX h=>⟨_,Y_,ZI⟩
def xo{G:Operator}{o:List D->ai Rv}(c:nq K G o)(L:PE X a (tE K W q f))(hb:PE X b (tE K W q g))(S:X.K=K):PE X (.BinOp a G b J) (tE K W q (gO o (bL f g))):=by
 obtain⟨r,U,F⟩:=c X S;exact e7r U F L hb
def Lx(U:PE X a (tE K W q f)):PE X (.UnaryOp .USub a J) (tE K W q (gO (o1 tK) (bj f))):=e7s Y' ZK U
def jV(K:fP)(G:CmpOp)(o:List D->ai Rv):Prop:=∀X:Cx,X.K=K->X.A.units+41<cLine->∃r,dZ X (compareOp G) r/\b_ K (lS r) o
def Vy:jV K .Eq (o2 (Fx false)):=λX h u=>⟨_,ZM K (by lia) h,e7v⟩
def VD:jV K .Lt (o2 (eQ sf λi j=>.bl (decide (i<j)))):=λX h u=>⟨_,vc,Iz⟩
def VC:jV K .LtE (o2 (eQ sf λi j=>.bl (decide (i<=j)))):=λX h u=>⟨_,vb,Iz⟩
def Vz:jV K .Gt (o2 (eQ sf λi j=>.bl (decide (j<i)))):=λX h u=>⟨_,e7m,Iz⟩
def VA:jV K .In (o2 (zU false)):=λX h u=>⟨_,ZN K u h,PQ false⟩
def IV:jV K .NotIn (o2 (zU true)):=λX h u=>⟨_,SY K u h,PQ true⟩
def VB:jV K .Is (o2 (zV false)):=λX h u=>⟨_,ZO,PR false⟩
def IT:jV K .IsNot (o2 (zV true)):=λX h u=>⟨_,WR,PR true⟩
def xc{o:List D->ai Rv}(c:jV K G o)(L:PE X a (tE K W q f))(hb:PE X b (tE K W q g))(I:X.A.units+41<cLine)(S:X.K=K)(hm:behindInMarks G b=false):PE X (.Compare a [G] [b] J) (tE K W q (gO o (bL f g))):=by
 obtain⟨r,U,F⟩:=c X S I;exact Zn U F L hb hm
def yc{o:List D->ai Rv}(c:jV K G o)(L:PE X a (tE K W q f))(hb:PE X b (tE K W q g))(I:X.A.units+41<cLine)(S:X.K=K)(hm:behindInMarks G b=false):PT X (.Compare a [G] [b] J) (tT K W q (gB (gO o (bL f g)))):=by
 obtain⟨r,U,F⟩:=c X S I;exact P5 (V3 U L hb hm) λ_ _ _ t=>Fw (sO F t)
def IE(c I:Int->Int->Bool)(f g h:GE):GE:=λU S=>bd (f U S) λO L=>bd (g U L) λz F=>O.int.bind λi=>z.int.bind λj=>if c i j=true then bd (h U F) λd D=>d.int.map λl=>.ok (rd (.bl (I j l))) D else some (.ok (rd (.bl false)) F)
def US{Z:St}{H:Hp}{Q:VK}(t:tE K W q (IE k k' f g h) Z H Q):OJ (oK λi j=>.bl (k i j)) (oK λi j=>.bl (k' i j)) (tE K W q f) (tE K W q g) (tE K W q h) Z H Q:=by
 refine kY λD=>?_
 obtain⟨n,U,S,res,ok,gk,e,w⟩:=t;refine D ?_;refine tX.bd ok gk e w λr1 S1 x k1 H1 d g1 q1 e1 w1 _=>tX.bd d g1 e1 w1 λr2 S2 y k2 H2 I g2 q2 e2 O _=>?_
 refine kY λD=>?_
 obtain⟨i,h1,e3⟩:=cF.mp e2;obtain⟨j,h2,L⟩:=cF.mp e3;cases Rv.jq h1;cases Rv.jq h2;cases(show ag K k1 [x] [.int i] from q1).aR rfl;cases(show ag K k2 [y] [.int j] from q2).aR rfl;refine D ?_;refine⟨i,j,rfl,rfl,k i j,rfl,?_⟩;split at L
 .rename_i F
  rw[F];refine qL (tX.bd I g2 L O λr3 S3 z k3 H3 jE g3 q3 e5 w3 _=>?_)
  obtain⟨l,h3,rfl⟩:=c_.mp e5;cases Rv.jq h3;cases(show ag K k3 [z] [.int l] from q3).aR rfl;exact⟨_,_,rfl,rfl,w3.now jE (show ag K k3 [_] [_] from .flat rfl .nil)⟩
 .rename_i F
  cases L;rw[Bool.not_eq_true] at F;rw[F];exact qK (O.now I (show ag K k2 [_] [_] from .flat rfl .nil))
def ych{U:CmpOp}(F:∀X:Cx,dZ X (compareOp G) (oK λi j=>.bl (k i j)))(S:∀X:Cx,dZ X (compareOp U) (oK λi j=>.bl (k' i j)))(L:PE X a (tE K W q f))(hb:PE X b (tE K W q g))(hc:PE X c (tE K W q h))(hm:lastMarks [G,U] [b,c]=false):PT X (.Compare a [G,U] [b,c] J) (tT K W q (gB (IE k k' f g h))):=P5 (T2 (F X) (S X) L hb hc hm) λ_ _ _ t=>US t
def yt(S:PE X a (tE K W q f))(F:X.K=K)(ht:∀U,isTrue a X.env U=(do let v <-U;standAt a.pos;holding [v] (truthy v))):PT X a (tT K W q (cM f)):=Zo F S ht
def ya1(h:PT X a (tT K W q P)):PW X (.BoolOp .And [a] J) (tT K W q P):=VW h
def yo1(h:PT X a (tT K W q P)):PW X (.BoolOp .Or [a] J) (tT K W q P):=YW h
def xix(F:PE X a (tE K W q f))(hb:PE X b (tE K W q g))(L:X.A.units+41<cLine)(U:X.K=K)(S:Ib b):PE X (.Subscript a b J) (tE K W q (gO (o2 FX) (bL f g))):=e7t (Kb K L U) e7x F hb S
def xsl{lo hi:ai Expr}{L:Pos}{fl fh}(F:PE X e (tE K W q f))(hl:PO X lo (tX yJ K W q fl))(S:PO X hi (tX yJ K W q fh))(U:X.K=K):PE X (.Subscript e (.Slice lo hi none L) J) (tE K W q (wm f fl fh)):=UA F hl S U
def zc{h:GA}(U:PE X e (tE K W q g))(F:PA X es (g9 K W q h))(S:starEach (e::es) X.env=(false,eval e X.env)::starEach es X.env):PA X (e::es) (g9 K W q (mh g h)):=Wl U F S
def xd{U:List (ai Expr)}{F:List Expr}{S:List (GE×GE)}(h:uj X J U F (Ad K W q S))(D:X.A.units+41<cLine)(L:X.K=K)(I:U.all (·.isSome)=true)(hl:U.length=F.length)(h0:U≠[])(O:U.length<=15):PE X (.Dict U F J) (tE K W q (my (wa S))):=Xe L h D I hl h0 O
def DN(X:Cx)(K:fP)(W:XW)(q:Nat)(es:List Expr)(j:GJ):Prop:=∃U,PJ X es U/\∀aO Z H Q,tX RS K W q (j aO) Z H Q->U aO Z H Q
def jn:DN X K W q [] kg:=⟨_,ZX,λ_ _ _ _ t=>Xg t⟩
def jc(S:PE X e (tE K W q f))(L:DN X K W q es j):DN X K W q (e::es) (lZ f j):=by
 obtain⟨D,U,F⟩:=L;exact⟨_,Xf S U,λ_ _ _ _ t=>UQ F t⟩
def xj{U F:Expr}(h:DN X K W q (U::F::B) j):PE X (.JoinedStr (U::F::B) J) (tE K W q (wb j)):=by
 obtain⟨D,S,L⟩:=h;exact Tn S L
def pU(K:fP)(v:ak)(o:List D->ai Rv):Prop:=∀X:Cx,X.K=K->X.calm=true->X.A.units+41<cLine->∃r,bT X v r/\b_ K r o
def Kf:pU K (.builtin "len") (o1 eY):=λX h c u=>⟨_,Td h,ZQ⟩
def Ke:pU K (.builtin "isinstance") (o2 cC):=λX h c u=>⟨_,Te h,ZR⟩
def Kc:pU K (.builtin "all") (o1 (Ff λbs=>bs.all id)):=λX h c u=>⟨_,S9 K c h,UJ _⟩
def Kg:pU K (.builtin "min") (o1 (mj e_)):=λX h c u=>⟨_,UB K c h,W9 _⟩
def CB:pU K (.builtin "sorted") (o1 oP):=λX h c u=>⟨_,R0 c h,W_⟩
def Kd:pU K (.type "int") (o1 oA):=λX h c u=>⟨_,Sn,W6⟩
def CA:pU K (.type "list") (o1 ko):=λX h c u=>⟨_,RZ c h,W7⟩
def Cz:pU K (.type "dict") (o1 oo):=λX h c u=>⟨_,RV K u c h,UK⟩
def xB{id:String}{o:List D->ai Rv}(k:pU K (.builtin id) o)(hm:X.mg x=none)(hv:bootBuiltins x=some (.builtin id))(L:PA X (e::es) (g9 K W q fs))(d:X.A.units+41<cLine)(hc:X.calm=true)(S:X.K=K)(O:Gl X x)(z:x≠"__name__")(kh:(x == ("__debug__":Str))=false)
  (I:starEach (e::es) X.env=(false,eval e X.env)::starEach es X.env) (l:(backTo J (starEach es X.env)).any (·.1)=false):PE X (.Call (.Name x p) (e::es) [] J) (tE K W q (gO o fs)):=by
 obtain⟨r,U,F⟩:=k X S hc d;exact(T9 U O hm hv L z kh I l).mono λ_ _ _ t=>sO F t
def xT{o:List D->ai Rv}(k:pU K (.type T) o)(hm:X.mg x=none)(hv:bootBuiltins x=some (.type T))(L:PA X (e::es) (g9 K W q fs))(d:X.A.units+41<cLine)(hc:X.calm=true)(S:X.K=K)(O:Gl X x)(z:x≠"__name__")(kh:(x == ("__debug__":Str))=false)
  (I:starEach (e::es) X.env=(false,eval e X.env)::starEach es X.env) (l:(backTo J (starEach es X.env)).any (·.1)=false):PE X (.Call (.Name x p) (e::es) [] J) (tE K W q (gO o fs)):=by
 obtain⟨r,U,F⟩:=k X S hc d;exact(Su U O hm hv L z kh I l).mono λ_ _ _ t=>sO F t
def GY(K:fP)(T:String)(m:Str)(o:List D->ai Rv):Prop:=∀X:Cx,X.K=K->X.A.units+41<cLine->∃id r,PlainAttrs T/\Slot T m id/\typeOf (.builtin id)=pure (.type "method_descriptor")/\GZ X id r/\b_ K (oM r) o
def xP:GY K "list" "index" (o2 jo):=λX h u=>⟨_,_,PySem.F.plainAttrs_list,PySem.F.slot_list_index,PySem.F.type_list_index,UC K h,UM⟩
def CF:GY K "dict" "get" (o2 mC):=λX h u=>⟨_,_,PySem.F.plainAttrs_dict,PySem.F.slot_dict_get,PySem.F.type_dict_get,WU K u h,Xa⟩
def xM{o':List D->ai Rv}(k:GY K T m o')(ho:PE X o (tE K W q f))(l:PA X (e::es) (g9 K W q fs))(hu:X.A.units+41<cLine)(d:X.K=K)
  (U:attributeBase o m X.env (eval o X.env)=eval o X.env)
  (qD:((backTo V (starEach (e::es) X.env)).all (λx => !x.1)&&(backToKw V (keywordEach [] X.env)).all (λx=>x.1.isSome) && decide ((e::es).length+([]:List Keyword).length+(if([]:List Keyword).isEmpty then 0 else 1)<30))=true)
  (F:(Y.endLine == V.line)=true) (hs:starEach (e::es) X.env=(false,eval e X.env)::starEach es X.env) (kj:(backTo V (starEach es X.env)).any (·.1)=false):PE X (.Call (.Attribute o m Y) (e::es) [] V) (tE K W q (Bu T o' f fs)):=by
 subst d;obtain⟨id,r,S,L,I,O,z⟩:=k X rfl hu;exact(PN S L I O ho l U qD F hs kj).mono λ_ _ _ t=>UL z t
def Ax(K:fP)(T:String)(m:Str)(o:Bx->List D->ai (Bx×D)):Prop:=∀X:Cx,X.K=K->∃id r,PlainAttrs T/\Slot T m id/\typeOf (.builtin id)=pure (.type "method_descriptor")/\GZ X id r/\kT K r o
def t9:Ax K "list" "append" mV:=λX h=>⟨_,_,PySem.F.plainAttrs_list,PySem.F.slot_list_append,PySem.F.type_list_append,Sv,Tf⟩
def t_:Ax K "list" "insert" Bl:=λX h=>⟨_,_,PySem.F.plainAttrs_list,PySem.F.slot_list_insert,PySem.F.type_list_insert,SD,Tg⟩
def ua:Ax K "list" "remove" EY:=λX h=>⟨_,_,PySem.F.plainAttrs_list,PySem.F.slot_list_remove,PySem.F.type_list_remove,S_,Ti⟩
def Ds:Ax K "dict" "pop" iY:=λX h=>⟨_,_,PySem.F.plainAttrs_dict,PySem.F.slot_dict_pop,PySem.F.type_dict_pop,WT K,Xb⟩
def xU{o':Bx->List D->ai (Bx×D)}(k:Ax K T m o')(ho:PE X o (tE K W q f))(l:PA X (e::es) (g9 K W q fs))(d:X.K=K)
  (U:attributeBase o m X.env (eval o X.env)=eval o X.env)
  (qD:((backTo V (starEach (e::es) X.env)).all (λx => !x.1)&&(backToKw V (keywordEach [] X.env)).all (λx=>x.1.isSome) && decide ((e::es).length+([]:List Keyword).length+(if([]:List Keyword).isEmpty then 0 else 1)<30))=true)
  (F:(Y.endLine == V.line)=true) (hs:starEach (e::es) X.env=(false,eval e X.env)::starEach es X.env) (kj:(backTo V (starEach es X.env)).any (·.1)=false):PE X (.Call (.Attribute o m Y) (e::es) [] V) (tE K W q (dD q T o' f fs)):=by
 subst d;obtain⟨id,r,S,L,I,O,z⟩:=k X rfl;exact(PN S L I O ho l U qD F hs kj).mono λ_ _ _ t=>ZT z t
def xf{atr:List (aj×Str)}(F:jU K atr)(S:PE X e (tE K W q f))(hb:attributeBase e m X.env (eval e X.env)=eval e X.env)(U:X.K=K):PE X (.Attribute e m J) (tE K W q (bB atr m f)):=ZY F S hb U
end
structure MethAt (K:fP) (C:aj) (m qual:Str) (st:Stmt) (f:aj) (fd:kR) (ps:List Str):Prop where
 fn:pV K m qual st f fd
 mt:Meth K C m f
 bd:Binds K fd ps []
section
variable{X:Cx}{K:fP}{W:XW}{q k n:Nat}{e:Expr}{es:List Expr}{fs:GA}{m:GM}{Q p:Pos}{x y z:Str}{st:Stmt}{J C:aj}{fd:kR}{ps:List Str}
def xC(D:ui K X.mg x st J fd ps)(F:dO X.prog X.w X.K X.mg X.base (lr X.prog X.w) k J fd ps (p5 K q n m))(U:PA X (e::es) (g9 K W q fs))(R:cH k X.A)(hm:hZ m n)(hp:fJ X W)(V:X.K=K)(S:Gl X x)(I:(x == ("__debug__":Str))=false)
  (B:starEach (e::es) X.env=(false,eval e X.env)::starEach es X.env) (L:(backTo Q (starEach es X.env)).any (·.1)=false):PE X (.Call (.Name x p) (e::es) [] Q) (tE K W q (aw m fs)):=by
 subst V;exact(V8 F R S D.mg D.fn.kp D.bd .nil (oG hp) U I B L).mono λ_ _ _ t=>Wo hm t
def xN(M:Mk K C J)(L:X.mg x=some (.ref C))(D:MethAt K C y z st J fd ps)(F:dO X.prog X.w X.K X.mg X.base (lr X.prog X.w) k J fd ps (p5 K q n m))(U:PA X (e::es) (g9 K W q fs))(R:cH (k+1) X.A)(hm:hZ m n)(hp:fJ X W)(V:X.K=K)(S:Gl X x)(O:(x == ("__debug__":Str))=false)
  (B:starEach (e::es) X.env=(false,eval e X.env)::starEach es X.env) (I:(backTo Q (starEach es X.env)).any (·.1)=false):PE X (.Call (.Name x p) (e::es) [] Q) (tE K W q (qw C m fs)):=by
 subst V;exact(V_ M F R S L D.bd .nil (oG hp) U O B I).mono λ_ _ _ t=>Wq hm t
end
section
variable{X:Cx}{K:fP}{W:XW}{q k n:Nat}{e o:Expr}{es:List Expr}{f:GE}{fs:GA}{m:GM}{J Y:Pos}{x y:Str}{st:Stmt}{V C:aj}{fd:kR}{ps:List Str}{pl:Sem Bool}
def xH(c:Cls K C)(D:MethAt K C x y st V fd ps)(F:dO X.prog X.w X.K X.mg X.base (lr X.prog X.w) k V fd ps (p5 K q n m))(ho:PE X o (tE K W q f))(S:PA X (e::es) (g9 K W q fs))(R:cH k X.A)(hm:hZ m n)(hp:fJ X W)(B:X.K=K)
  (I:starEach (e::es) X.env=(false,eval e X.env)::starEach es X.env) (L:(backTo J (starEach es X.env)).any (·.1)=false)
  (ht:eval (.Call (.Attribute o x Y) (e::es) [] J) X.env=(do
   let U <-eval o X.env
   standAt Y.atName
   let (f,first) <-holding [U] (getMethod U x pl)
   callWith J f first (backTo J (starEach (e::es) X.env)) (backToKw J (keywordEach [] X.env)))):PE X (.Call (.Attribute o x Y) (e::es) [] J) (tE K W q (aZ C x m f fs)):=by
 subst B;exact(V9 ho c D.mt F R D.bd .nil (oG hp) S I L ht).mono λ_ _ _ t=>NM hm t
def xH0(c:Cls K C)(D:MethAt K C x y st V fd ps)(F:dO X.prog X.w X.K X.mg X.base (lr X.prog X.w) k V fd ps (p5 K q n m))(ho:PE X o (tE K W q f))(O:cH k X.A)(hm:hZ m n)(hp:fJ X W)(I:X.K=K)
  (ht:eval (.Call (.Attribute o x Y) [] [] J) X.env=(do
   let U <-eval o X.env
   standAt Y.atName
   let (f,first) <-holding [U] (getMethod U x pl)
   callWith J f first (backTo J (starEach [] X.env)) (backToKw J (keywordEach [] X.env)))):PE X (.Call (.Attribute o x Y) [] [] J) (tE K W q (aZ C x m f gN)):=by
 subst I;refine(T7 ho c D.mt F O D.bd .nil (oG hp) ht).mono λZ H Q t=>?_
 refine nB (NM hm t) λz H1 h=>?_
 refine kY λd=>?_
 obtain⟨a,dx,fs,B,S,R,L⟩:=h;refine d ?_;exact⟨a,dx,fs,B,S,R,zD L⟩
end
section
variable{X:Cx}{K:fP}{W:XW}{q:Nat}{a b c o l tg:Expr}{es:List Expr}{f g:GE}{G:Bool}{Y p J V:Pos}
def xLV(U:X.mg "list"=none)(ho:PE X o (tE K W q f))(hc:X.calm=true)(Cd:Gl X "list")(S:starEach [.Call (.Attribute o "values" J) [] [] V] X.env=[(false,eval (.Call (.Attribute o "values" J) [] [] V) X.env)])
  (B:attributeBase o "values" X.env (eval o X.env)=eval o X.env) (F:(J.endLine == V.line)=true):PE X (.Call (.Name "list" p) [.Call (.Attribute o "values" J) [] [] V] [] Y) (tE K W q (gO (o1 oS) (bj f))):=(Ux Cd U ho hc S B F).mono λZ H Q t=>Jh (nB (sO W8 t) λxs H1 h=>by
 obtain⟨d,es,ep,rfl,h⟩:=h;exact⟨_,rfl,d,es,ep,rfl,h⟩)
def pgn(i:Nat){x:Str}(hN:z5 X.N=true)(hi:X.N[i]?=some x)(U:Loc X.env.scope x)(hf:X.fn x=true\/X.env.scope.names.lookup x=some .local):PG X (.Name x Y) (oq i):=VY (Fg hN) hi U hf
def pgt{k:Nat}{t:rE}{n:Nat}(h:AA X es t)(B:(assignEach es X.env).length=n)(F:(assignEach es X.env).findIdx? (·.1)=none)(hc:X.calm=true)(U:X.K=K):PG X (.Tuple es k Y) (w6 K n t):=U ▸ Y2 hc h B F
def rD(X:Cx)(K:fP)(W:XW)(q:Nat)(tg U:Expr)(src:lu):Prop:=∃B,PI X tg U B/\∀Z H R,tX (RI K q) K W q src Z H R->B Z H R
def sA(B:PE X l (tE K W q g))(U:X.K=K):rD X K W q tg l (bo G dW g):=⟨_,Zw B,λ_ _ _ t=>by rw[U];exact Zx t⟩
def KZ(hm:X.mg "reversed"=none)(F:PE X l (tE K W q g))(B:X.K=K)(S:Gl X "reversed")(U:starEach [l] X.env=[(false,eval l X.env)]):rD X K W q tg (.Call (.Name "reversed" p) [l] [] Y) (bo G yj g):=⟨_,Zr S hm (EN F lQ (by rw[U,starEach])) U,λ_ _ _ t=>by rw[B];exact Wz t⟩
def sEn{U:List Expr}{D:Nat}{F:Pos}(hm:X.mg "enumerate"=none)(R:PE X l (tE K W q g))(S:X.K=K)(L:Gl X "enumerate")(B:starEach [l] X.env=[(false,eval l X.env)]):rD X K W q (.Tuple U D F) (.Call (.Name "enumerate" p) [l] [] Y) (bo G Jj g):=⟨_,Wu L hm (EN R lQ (by rw[B,starEach])) B,λ_ _ _ t=>by rw[S];exact Zy t⟩
def sV(ho:PE X o (tE K W q g))(U:attributeBase o "values" X.env (eval o X.env)=eval o X.env)(B:(J.endLine == V.line)=true):rD X K W q tg (.Call (.Attribute o "values" J) [] [] V) (bo G Gg g):=⟨_,WY ho U B,λ_ _ _ t=>WZ t⟩
def sI{U:List Expr}{R:Nat}{S:Pos}(ho:PE X o (tE K W q g))(B:attributeBase o "items" X.env (eval o X.env)=eval o X.env)(F:(J.endLine == V.line)=true):rD X K W q (.Tuple U R S) (.Call (.Attribute o "items" J) [] [] V) (bo G tD g):=⟨_,Uy ho B F,λ_ _ _ t=>W4 t⟩
def sR1{fs:GA}(hm:X.mg "range"=none)(U:PA X [a] (g9 K W q fs))(B:Gl X "range")(F:starEach [a] X.env=[(false,eval a X.env)]):rD X K W q tg (.Call (.Name "range" p) [a] [] Y) (iR kN fs):=⟨_,Sk B hm U F,λ_ _ _ t=>WA t⟩
def sRT{fs:GA}(hm:X.mg "range"=none)(U:PA X [a,b,c] (g9 K W q fs))(B:Gl X "range")(F:starEach [a,b,c] X.env=[(false,eval a X.env),(false,eval b X.env),(false,eval c X.env)])(S:starEach [b,c] X.env=[(false,eval b X.env),(false,eval c X.env)]):rD X K W q tg (.Call (.Name "range" p) [a,b,c] [] Y) (iR yk fs):=⟨_,SQ B hm U F S,λ_ _ _ t=>WB t⟩
def yn:pX X [] (tT K W0 q (iw true)):=λaa s Z H Q I t=>We aa s Z H Q I (by
 obtain⟨k,U,S,B,ok,gk,e,w⟩:=t;cases e;exact w.now ok rfl)
def y1{U:GT}(h:PT X c (tT K W0 q U)):pX X [c] (tT K W0 q U):=Wf h
end
variable{x g:Str}{atr:List (aj×Str)}{mg:Str->ai ak}{tab:List (Str×aj)}{B0 C:aj}
section
variable{X:Cx}{K:fP}{W:XW}{q:Nat}{tg Q J:Expr}{Y:List Expr}{scope:Scope}{t:TG}{gg:GG}{tt:Nat->GT}{U:Nat->GE}{src:lu}{V:Pos}{M:List Str}{n:Nat}{dw:List Nat}
def OH(h:gF scope.names X.env.scope.names X.N M n dw=true)(B:scope.kind=.function):eL X scope M n dw:=.of _ _ h rfl rfl B
def xL(M:List Str)(s:rD X K W q tg Q src)(ht:jW K t gg)(L:∀C s H fp,PG (fR X scope M C s H fp) tg t)(R:∀m C s H fp,pX (fR X scope M C s H fp) Y (tT K W0 m (tt m)))(S:∀m C s H fp,PE (fR X scope M C s H fp) J (tE K W0 m (U m)))
  (ok:gF scope.names X.env.scope.names X.N M n dw=true) (D:scope.kind=.function) (hc:X.calm=true) (I:∀x,foldedSetIterable Q X.env x=pure x):PE X (.ListComp J [⟨tg,Q,Y,0⟩] scope V) (tE K W q (cx q src gg tt U n dw)):=by
 obtain⟨O,B,F⟩:=s;exact WD hc (OH ok D) B F ht L R S I
def wL{mu:Bool}{i:Nat}{F B:Pos}(M:List Str)(s:rD X K W q tg Q src)(ht:jW K t gg)(I:∀C s H fp,PG (fR X scope M C s H fp) tg t)(D:∀m C s H fp,pX (fR X scope M C s H fp) Y (tT K W0 m (tt m)))(L:∀m C s H fp,PE (fR X scope M C s H fp) J (tE K W0 m (U m)))
  (ok:gF scope.names X.env.scope.names X.N M n dw=true) (hN:z5 X.N=true) (O:scope.kind=.function) (d:X.N[i]?=some x) (p:Loc X.env.scope x) (hc:X.calm=true) (Cp:swapsWith (.ListComp J [⟨tg,Q,Y,0⟩] scope V) (some (.Name x F)) B.line X.env=pure true) (z:∀x,foldedSetIterable Q X.env x=pure x) (hf:X.fn x=true\/X.env.scope.names.lookup x=some .local) :
  PS X (.Assign [.Name x F] (.ListComp J [⟨tg,Q,Y,0⟩] scope V) B) (tS K W q (aq i mu (cx q src gg tt U n dw))):=by
 obtain⟨b,S,R⟩:=s;exact WE hc (OH ok O) (Fg hN) d p S R ht I D L Cp z hf
end
section
variable{X:Cx}{K:fP}{W:XW}{q:Nat}{tg U e o i Y:Expr}{body:List Stmt}{t:TG}{gg:GG}{src:lu}{V J T:Pos}{f P B fi F:GE}{x:Str}
def wF{S:Nat->GS}(s:rD X K W q tg U src)(ht:jW K t gg)(D:PG X tg t)(hb:∀n,iM X body (tS K W n (S n)))(hp:PassesOwn (mX X) X.A X.env X.xe)(hc:X.calm=true)(I:∀x,foldedSetIterable U X.env x=pure x):PS X (.For tg U body [] V) (tS K W q (bf q src gg S)):=by
 obtain⟨O,R,L⟩:=s;exact Zz hp hc R L D ht hb I
def wS{mu:Bool}{i:Nat}(S:PE X e (tE K W q f))(hN:z5 X.N=true)(hi:X.N[i]?=some x)(L:Loc X.env.scope x)(R:swapsWith e (some (.Name x J)) V.line X.env=pure false)(hf:X.fn x=true\/X.env.scope.names.lookup x=some .local):PS X (.Assign [.Name x J] e V) (tS K W q (aq i mu f)):=Zq (Fg hN) hi L S R hf
def wE(S:PE X e (tE K W q f))(R:swapsWith e none V.line X.env=pure false):PS X (.Expr e V) (tS K W q (cX f)):=Wr S R
def wP(O:PE X e (tE K W q P))(ho:PE X o (tE K W q B))(hi:PE X i (tE K W q fi))(p:X.A.units+41<cLine)(D:X.K=K)
  (I:∀v,assign (.Subscript o i J) X.env v=(do
   let S <-holding [v] (eval o X.env)
   let R <-holding [v,S] (eval i X.env)
   standAt J
   holding [v,S,R] (setItem S R v)
   release [v,S,R] []))
  (z:swapsWithSole [.Subscript o i J] e V.line X.env=pure false) (hw:swappedStores [.Subscript o i J] e X.env=pure none)
  (L:(assignEach [.Subscript o i J] X.env).map (·.2)=[assign (.Subscript o i J) X.env]):PS X (.Assign [.Subscript o i J] e V) (tS K W q (bR q P B fi)):=ZV O ho hi p D I z hw L
def wA(R:jU K atr)(ho:PE X o (tE K W q B))(hv:PE X Y (tE K W q P))(L:swapsWith Y (some (.Attribute o g J)) V.line X.env=pure false)(S:X.K=K):PS X (.Assign [.Attribute o g J] Y V) (tS K W q (fL q atr g P B)):=ZZ R ho hv L S
def wAI(R:jU K atr)(ho:PE X o (tE K W q B))(hv:PE X Y (tE K W q F))(S:X.K=K):PS X (.AugAssign (.Attribute o g T) .Add Y V) (tS K W q (IC q (λi j=>i+j) atr g B F)):=Xh (λaa s Z H x y v u Q I L D h=>Zd aa s Z H x y v u Q I L D (by
 obtain⟨i,j,rfl,rfl,h⟩:=h;exact⟨i,j,rfl,rfl,h⟩)) R ho hv S
def wAD{G:Operator}{h:Int->Int->Int}(O:∀X:Cx,DM X G (J' h))(ho:PE X o (tE K W q B))(hi:PE X i (tE K W q fi))(hv:PE X Y (tE K W q F))(I:X.A.units+41<cLine)(L:X.K=K)
  (D:∀R S new,augStore i R S new=(do holding [new,R,S] (setItem R S new);release [new,R,S] [];pure .next)):PS X (.AugAssign (.Subscript o i T) G Y V) (tS K W q (ID q h B fi F)):=Xi (O X) ho hi hv I L D
structure oZ (K:fP) (mg:Str->ai ak) (tab:List (Str×aj)) (B0:aj):Prop where
 all:∀p∈tab,mg p.1=some (.ref p.2)/\ic K p.2 (.ref B0::qh) none/\keepIn K (.ref p.2)=true
 G0:ic K B0 qh none
 mg0:mg "CarryError"=some (.ref B0)
def oZ.ix(E:oZ K mg tab B0){i:Nat}{n:Str}(h:tab[i]?=some (n,C)):mg n=some (.ref C)/\ic K C (.ref B0::qh) none/\keepIn K (.ref C)=true:=E.all (n,C) (rh h)
def wX{p S:Pos}(j:Nat)(E:oZ K X.mg tab B0)(O:PE X e (tE K W q F))(hp:fJ X W)(d:tab[j]?=some (x,C))(hc:X.calm=true)(z:Gl X x)(l:(x == ("__debug__":Str))=false)
  (b:starEach [e] X.env=(false,eval e X.env)::starEach [] X.env) (I:X.K=K):PS X (.Raise (some (.Call (.Name x p) [e] [] S)) none V) (tS K W q (mU C F)):=by
 obtain⟨R,L,D⟩:=E.ix d;exact Uu L E.G0 D R hp O hc z l b I
def wT(tab:List (Str×aj))(C:aj):ai Bool:=if tab.any (λp=>p.2 == C)=true then some true else none
def wY{z hp:Pos}{S:Stmt}{R:List Stmt}{g f:GS}(E:oZ K X.mg tab B0)(hb:∀pn E W,fJ (X.eJ pn E) W->iM (X.eJ pn E) body (tS K W q f))(hS:∀e,iM (X.dH e) (S::R) (tS K W0 q g))
  (I:Gl X "CarryError") (D:X.K=K) (O:X.stack=X.env::X.outer) (hf:X.env.frame=some X.env.locals) :
  PS X (.Try body [.ExceptHandler (some (.Name "CarryError" z)) none (S::R) hp] [] [] V) (tS K W q (qx f [(wT tab,g)])):=by
 refine qm hb (NR E.mg0 (λC b h=>?_) hS qz I (by decide) D) O hf
 unfold wT at h;split at h
 .rename_i L
  cases h;obtain⟨p,m,e⟩:=LG.mp L;cases(beq_iff_eq.mp e);refine((E.all p m).2.1.P8 E.G0 rfl).trans (congrArg some ?_);simp
 .cases h
end
def Xj{P:dq}{w:cL}{K:fP}{base:bZ}{k:Nat}{f:aj}{fd:kR}{m:GM}(F:dO P w K mg base (lr P w) k f fd [x] (p5 K 0 1 m)){n:Nat}(h:∀ns:List Int,ns.length<=n->∃S,m [.d (.lst (ns.map D.int))] ⟨[],[]⟩=some (.ok (.v (.d (.bl true))) S)):
  dO P w K mg base (lr P w) k f fd [x] (λvs H Q _=>∃(a:aj) (ns:List Int),vs=[.ref a]/\c7 K H a (ns.map V.int)/\ns.length<=n/\∀H',Q (.bl true) H'):=⟨λvs H Q E h=>by obtain⟨a,ns,rfl,_⟩:=h;rfl,λA outer s H args us vs Q E U J hb r Y=>by
 obtain⟨a,ns,rfl,W,hl,q⟩:=Y;obtain⟨S,e⟩:=h ns hl;refine F.run A outer s H args us [.ref a] Q E U J hb r ⟨rfl,⟨H,[],[]⟩,[.d (.lst (ns.map D.int))],⟨[],[]⟩,_,⟨aE.refl _,.nil,⟨rfl,λ_ _ _ z=>nomatch z⟩,⟨rfl,λ_ _ _ z=>nomatch z⟩⟩,.cons (show ag K ⟨H,[],[]⟩ [.ref a] [.lst (ns.map D.int)] from .lst W ?_ .nil) .nil,e,λv k' H' u ok r'=>?_⟩
 .exact Uk ns
 .cases(show ag K k' [v] [.bl true] from r').aR rfl;exact q H'⟩
def BX{N P:List Str}{sc:Scope}(J:sc.kind=.function:=by rfl)(Y:sc.isCoroutine=false:=by rfl)(V:sc.isGenerator=false:=by rfl)(U:N.Nodup:=by decide +kernel)(W:N.take P.length=P:=by rfl)(B:∀x∈P,sc.names.lookup x=some .local \/ sc.names.lookup x=some .cell:=by decide +kernel)(F:∀y∈sc.names,y.2≠.free:=by decide +kernel):gA N P sc:=⟨J,Y,V,U,W,B,F⟩
def Oa{A:PySem.Around}{k:Nat}(J:cH k A):A.units+41<PySem.cLine:=LB (Nat.add_le_add_left (by decide:41<=64) _) J.units
section
variable{X:Cx}{K:fP}{W:XW}{q:Nat}{J:Pos}{x:Str}
def xk{z:Str}(hm:∃t,X.mg x=some (.str z t))(Y:Gl X x)(hd:(x == ("__debug__":Str))=false):PE X (.Name x J) (tE K W q (gC (.str z))):=wH (v:=.str z) (by
 intro aa s Z H Q I h;obtain⟨t,hm⟩:=hm;exact zp I Y hm ⟨.str z,H,I,⟨t,rfl⟩,h⟩ hd)
def xki{n:Int}(hm:∃t,X.mg x=some (.int n t))(Y:Gl X x)(hd:(x == ("__debug__":Str))=false):PE X (.Name x J) (tE K W q (gC (.int n))):=wH (v:=.int n) (by
 intro aa s Z H Q I h;obtain⟨t,hm⟩:=hm;exact zp I Y hm ⟨.int n,H,I,⟨t,rfl⟩,h⟩ hd)
end
abbrev bu:=o2 wk
abbrev lA:=o2 (eQ sf λi j=>.int (i - j))
abbrev jA:=o2 tI
abbrev qe:=o2 (eQ (λ_ j=>decide (0<j/\j<1073741824)) λi j=>.int (i / j))
abbrev ip:=o2 (eQ (λ_ j=>decide (0<j)) λi j=>.int (i%j))
abbrev BD:=o2 (eQ (λi j=>decide (0<=j/\j<=1000000/\i.natAbs<2^64)) λi j=>.int (i^j.toNat))
abbrev fy:=o2 (Fx false)
abbrev iLt:Int->Int->Bool:=λi j=>decide (i<j)
abbrev J_:Int->Int->Bool:=λi j=>decide (i<=j)
abbrev iGt:Int->Int->Bool:=λi j=>decide (j<i)
abbrev Cs:Int->Int->Int:=λi j=>i+j
abbrev oJ:=o2 (eQ sf λi j=>.bl (iLt i j))
abbrev QH:=o2 (eQ sf λi j=>.bl (J_ i j))
abbrev QG:=o2 (eQ sf λi j=>.bl (iGt i j))
abbrev jg:=o2 (zU false)
abbrev g8:=o2 (zU true)
abbrev tR:=o2 (zV false)
abbrev ku:=o2 (zV true)
abbrev KL:List Bool->Bool:=λbs=>bs.all id
noncomputable def Pa(e:DictEntry):Bool:=match e.key with|.str _ _=>true|_=>false
def errC_mk{K:fP}{bm:List ak}{J:ai ak}{nm q:Str}{N:aj}{bs:List ak}{sn:List Str}{sub:List ak}{ab:Bool}{col:ai Bool}{dd:ai aj}{k0 k1 k2 k3 k5:ai ak}{V:ak}{U:ai aj}{es:Array DictEntry}{ep:Nat}{W:Array (ai ak)}
  (l:K.lookup C=some (excClassObj nm q C N bs bm true sn sub ab col dd k0 k1 k2 k3 k5 "ValueError.__new__")) (d:K.lookup N=some ⟨V,U,.dict es ep,W⟩) (s:es.toList.all Pa=true) (i:nsFind es "__init__"=J):ic K C bm J:=by
 refine⟨_,_,_,_,_,_,_,_,_,_,_,_,_,_,_,_,_,_,_,l,d,λe Y=>?_,i⟩
 have:=jS.1 s e (Lz.2 Y);unfold Pa at this;split at this
 .exact⟨_,_,by assumption⟩
 .cases this
instance instGE (n:Nat):OfNat GE n:=⟨mB n⟩
abbrev gI(n:Int):GE:=gC (.int n)
abbrev gX(a b:GE):GE:=gO (o2 FX) (bL a b)
abbrev bH(o:List D->ai Rv)(a b:GE):GE:=gO o (bL a b)
abbrev dF(a b c:GE):GA:=mh a (bL b c)
abbrev je(a b c d:GE):GA:=mh a (dF b c d)
abbrev cK(a:GS):GS:=dr a iU
abbrev gG(a b:GS):GS:=dr a (cK b)
abbrev k7(a b c:GS):GS:=dr a (gG b c)
abbrev m7(a b c d:GS):GS:=dr a (k7 b c d)
abbrev mD(a b c d e:GS):GS:=dr a (m7 b c d e)
instance instGG (n:Nat):OfNat GG n:=⟨ae n⟩
abbrev cA(f:GT)(g:GS):GS:=eP f (cK g) iU
abbrev gQ(o:List D->ai Rv)(a b:GE):GT:=gB (bH o a b)
def aV(p n:Nat)(m:Nat->GS)(q:Nat):GM:=runM p n (m q)
end L2
namespace L2
open PySem Lean Meta
variable{C:aj}{l:ai Int}{S:aU}{s:List Cell}{z:List D}
def qt(e:Lean.Expr)(i:Nat)(k:Lean.Expr->ai (Lean.Expr×Bool)):SimpM Simp.Step:=do
 let a:=e.getAppArgs
 let Y <-Simp.simp a[i]!
 let x:=(<-instantiateMVars Y.expr).cleanupAnnotations.headBeta
 let J <-match Y.proof? with
  |none=>pure none
  |some p=>pure (some (<-mkCongrArg (.lam `z (<-inferType a[i]!) (mkAppN e.getAppFn (a.set! i (.bvar 0))) .default) p))
 match k x with
 |some (y,true)=>return .visit { expr:=y.headBeta,proof?:=J}
 |some (y,false)=>return .done { expr:=y.headBeta,proof?:=J}
 |none=>return .done { expr:=mkAppN e.getAppFn (a.set! i x),proof?:=J}
def isOk(x:Lean.Expr):ai (Lean.Expr×Lean.Expr):=if x.isAppOfArity ``Option.some 2&&x.appArg!.isAppOfArity ``Rs.ok 3 then some (x.appArg!.appFn!.appArg!,x.appArg!.appArg!) else none
def BV(n:Name):Bool:=(n.getRoot == `L2 && !(#[``du,``findS,``eK,``iq,``kl,``jB,``cC,``aU.cut,``aG,``dP,``bP,``iz,``km,``dB,``k8,``fS,``lU,``eV,``e_,``aM,``bF,``a_,``bd,``jX,``rP,``jo,``Cell.Ka,``runM].contains n)) || (n.getRoot == `List&&n != ``List.toArray) || n.getRoot == `Option || n.getRoot == `Prod || n.getRoot == `GetElem? || n.getRoot == `OfNat || n.getRoot == `Nat || n.getRoot == `BEq || n == ``ite || n == ``dite || n.getRoot == `Bool || n.getRoot == `Decidable || n == ``and || n == ``or || n == ``not || n.getRoot == `id || n.getRoot == `HAppend || n.getRoot == `Append || n.getRoot == `instHAppendOfAppend
def Z0(e:Lean.Expr):MetaM Lean.Expr:=withCanUnfoldPred (λ_ c=>return BV c.name || c.name.isInternal || (<-isInstance c.name) || (<-isMatcher c.name)) (withDefault (whnf e))
def Pb(e:Lean.Expr):MetaM Bool:=do
 if e.isFVar || e.isLit then return true
 let .const n _:=e.getAppFn|return false
 if n == ``OfNat.ofNat then return true
 if n == ``Nat.succ then return false
 return (<-getEnv).isConstructor n
simproc_decl ev (_):=λe=>do
 let .const n ls:=e.getAppFn|return .continue
 let a:=e.getAppArgs
 if n == ``OfNat.ofNat&&a.size>=3&&(a[2]!.isAppOf ``instGG || a[2]!.isAppOf ``instGE) then return .visit { expr:=mkAppN (mkApp (mkConst (if a[2]!.isAppOf ``instGG then ``ae else ``mB)) a[1]!) (a.extract 3 a.size)}
 if n == ``Option.bind&&a.size == 4 then
  return <-qt e 2 λx=>if x.isAppOfArity ``Option.some 2 then some (mkApp a[3]! x.appArg!,true) else if x.isAppOfArity ``Option.none 1 then some (mkApp (.const ``Option.none (ls.drop 1)) a[1]!,false) else none
 if n == ``Option.map&&a.size == 4 then
  return <-qt e 3 λx=>if x.isAppOfArity ``Option.some 2 then some (mkApp2 (.const ``Option.some (ls.drop 1)) a[1]! (mkApp a[2]! x.appArg!).headBeta,true) else if x.isAppOfArity ``Option.none 1 then some (mkApp (.const ``Option.none (ls.drop 1)) a[1]!,false) else none
 if(n == ``bd || n == ``rP || n == ``jX)&&a.size == 4 then
  return <-qt e 2 λx=>match isOk x with
   |some (v,S)=>some (mkApp2 a[3]! v S,true)
   |none=>if n != ``rP&&x.isAppOfArity ``Option.some 2&&x.appArg!.isAppOfArity ``Rs.ex 4 then
     let b:=x.appArg!.getAppArgs
     if n == ``jX then some (mkApp2 (.const ``Option.some [0]) (.const ``Fr []) (mkApp4 (.const ``Fr.ex []) b[1]! b[2]! a[1]! b[3]!),true) else some (mkApp2 (.const ``Option.some [0]) (mkApp (.const ``Rs []) a[1]!) (mkApp4 (.const ``Rs.ex []) a[1]! b[1]! b[2]! b[3]!),true)
    else none
 if n == ``ite then return <-reduceIte e
 if n == ``List.length&&a.size == 2 then
  let some (_,vs):=a[1]!.listLit?|return .continue
  return .done { expr:=mkNatLit vs.length}
 if n == ``runM&&a.size == 5 then
  let some (_,vs):=a[3]!.listLit?|return .continue
  let (some p,some k):=(a[0]!.nat?,a[1]!.nat?)|return .continue
  unless vs.length == p do return .continue
  let V:=mkConst ``Val
  let G <-mkListLit (mkApp (.const ``Option [0]) V) (vs.map (λv=>mkApp2 (.const ``Option.some [0]) V v)++List.replicate (k - p) (mkApp (.const ``Option.none [0]) V))
  let f <-mkAppM ``leave #[<-mkAppM ``List.length #[<-mkAppM ``aU.s #[a[4]!]]]
  return .visit { expr:=<-mkAppM ``Option.bind #[(mkApp2 a[2]! G a[4]!).headBeta,f]}
 if n.getRoot == `Nat || n.getRoot == `OfNat || n.getRoot == `BEq || n.getRoot == `Decidable || n == ``dite then return .continue
 unless BV n || n == ``getElem? || n == ``HAppend.hAppend do return .continue
 if <-isMatcher n then return .continue
 if(<-getEnv).isConstructor n then return .continue
 if n.getRoot == `L2&&(<-isReducible n) then
  let some e' <-withDefault (unfoldDefinition? e)|return .continue
  return .visit { expr:=e'.headBeta}
 let t <-whnfR (<-inferType e)
 if t.isAppOfArity ``Option 1&&n.getRoot == `L2 then
  let some e' <-withDefault (unfoldDefinition? e)|return .continue
  let e' <-whnfCore e'
  if(<-isMatcherApp e') then return .continue
  return .visit { expr:=e'}
 if t.isForall then return .continue
 let e' <-Z0 e
 if e' != e&&(<-Pb e') then return .visit { expr:=e'}
 return .continue
def Jm:List Simp.DSimproc:=[Nat.reduceAdd,Nat.reduceSub,Nat.reduceMul,Nat.reduceDiv,Nat.reduceMod,Int.reduceAdd,Int.reduceSub,Int.reduceMul,Int.reduceDiv,Int.reduceMod,Int.reduceNeg,Int.reduceToNat,Int.reduceBEq,Nat.reduceBEq]
def Jn:List Simp.Simproc:=[reduceCtorEq,Nat.reduceLT,Nat.reduceLeDiff,Nat.reduceEqDiff,Int.reduceLT,Int.reduceLE,Int.reduceEq]
def evK(e:Lean.Expr):MetaM (ai Lean.Expr):=do
 let .const n _:=e.getAppFn|return none
 let a:=e.getAppArgs
 unless (n == ``BEq.beq&&a.size == 4&&a[2]!.isAppOf ``Str.ofString&&a[3]!.isAppOf ``Str.ofString) || (n == ``Cell.Ka&&a.size == 3) || (n == ``List.contains&&a.size == 4 && !a[3]!.hasFVar) || (n == ``List.lookup&&a.size == 5&&a[3]!.isAppOf ``Str.ofString) do return none
 match Kernel.whnf (<-getEnv) (<-getLCtx) e with
 |.ok r=>if(<-Pb r)&&r != e then return some r else return none
 |_=>return none
def BW{α β:Type}{f:α->aU->ai (Rs β)}:bd (some (.ex C l S)) f=some (.ex C l S):=rfl
def wW{α:Type}{f:α->aU->ai Fr}{U:Gm}:jX U (some (.ex C l S)) f=some (.ex C l U S):=rfl
section
variable{α:Type}{l L M:List α}{c:α}{j:Nat}{S:aU}{r Q:List Cell}
def VG:S.cut S.s.length=S:=by unfold aU.cut;rw[List.take_length]
def VH:aU.cut ⟨s++Q,r⟩ s.length=⟨s,r⟩:=by unfold aU.cut;rw[List.take_left]
def sN:(l++L)[l.length]?=L[0]?:=by rw[oW (bU _),Gn]
def zB:(l++L)[l.length+j]?=L[j]?:=by rw[oW (Gp _ _),Nat.add_sub_cancel_left]
def F7:(l++L).set l.length c=l++L.set 0 c:=by rw[List.set_append_right _ _ (bU _),Gn]
def QL:(l++L).set (l.length+j) c=l++L.set j c:=by rw[List.set_append_right _ _ (Gp _ _),Nat.add_sub_cancel_left]
def le1:(l++L).length=l.length+L.length:=cZ
def Q6:(l++L)++M=l++(L++M):=jz _ _ _
def Ko:(l.length<l.length)=False:=eq_false (jQ _)
def lt2:(l.length+j<l.length)=False:=eq_false (by lia)
def P7{a b:Int}:dP (.int a) (.int b)=(a == b):=rfl
def Jl{a b:Str}:dP (.str a) (.str b)=(a == b):=rfl
def is1{z:Str}:cC (.str z) (.ty "str")=some (rd (.bl true)):=rfl
def is2:cC (.tup z) (.ty "tuple")=some (rd (.bl true)):=rfl
def is3{z:Str}:cC (.str z) (.ty "tuple")=some (rd (.bl false)):=rfl
def is4:cC (.lst z) (.ty "list")=some (rd (.bl true)):=rfl
def is5:cC (.tup z) (.ty "str")=some (rd (.bl false)):=rfl
def VI{n:Nat}{x:Cell}:aU.cut ⟨s.set n x,r⟩ s.length=⟨s.set n x,r⟩:=by
 unfold aU.cut;dsimp only;rw[DF (by rw[rj];exact bU _)]
def Ma{a:α}:du (a::l) 0=some a:=qd (j:=0) rfl
def Q3{a b:α}:du (a::b::l) 1=some b:=qd (j:=1) rfl
def Q4{a b c:α}:du (a::b::c::l) 2=some c:=qd (j:=2) rfl
def Q5{a b c d:α}:du (a::b::c::d::l) 3=some d:=qd (j:=3) rfl
end
def evT:List (Name×Name):=[(``Eq,``rm),(``Eq,``decide_eq_true_eq),(``Decidable.decide,``decide_true),(``Decidable.decide,``decide_false),(``BEq.beq,``rq),(``Bool.not,``Gs),(``Bool.not,``Bool.not_false),(``And,``and_self),(``And,``true_and),(``And,``and_true),(``Nat.max,``eD),(``Max.max,``eD),(``Option.any,``Option.any_some),(``bd,``BW),(``jX,``wW),(``aU.cut,``VG),(``aU.cut,``VH),(``aU.cut,``VI),(``getElem?,``sN),(``getElem?,``zB),(``GetElem?.getElem?,``sN),(``GetElem?.getElem?,``zB),(``List.set,``F7),(``List.set,``QL),(``List.length,``le1),(``HAppend.hAppend,``Q6),(``LT.lt,``Ko),(``LT.lt,``lt2),(``dP,``P7),(``dP,``Jl),(``cC,``is1),(``cC,``is2),(``cC,``is3),(``cC,``is4),(``cC,``is5),(``du,``Ma),(``du,``Q3),(``du,``Q4),(``du,``Q5)]
simproc_decl ay (_):=λe=>do
 if let some r <-evK e then return .done { expr:=r,proof?:=some (<-mkExpectedTypeHint (<-mkEqRefl r) (<-mkEq e r))}
 for p in Jm do
  match <-p e with
  |.done x=>return .done { expr:=x}
  |.visit x=>return .visit { expr:=x}
  |.continue (some x)=>return .continue (some { expr:=x})
  |_=>pure ()
 for p in Jn do
  match <-p e with
  |.continue none=>pure ()
  |r=>return r
 let .const n _:=e.getAppFn|return .continue
 for (k,t) in evT do
  if k == n then
   for s in <-mkSimpTheoremFromConst t do
    if let some r <-Simp.tryTheorem? e s then return .visit r
 return .continue
end L2
namespace L2
open PySem
section
variable{α:Type}{gg:GG}{tt:GT}{Q:GE}{S:aU}{f:α->D}{U cs:Gm}{a:ai Val}
theorem Fh(h:α->ai D)(G:Gm->Prop):∀(xs:List α) (U:Gm) (aO:List D),G U->aO.length+xs.length<=1000000->(∀x∈xs,∀U,G U->∃J,gg (f x) U=some J/\G J/\((h x=none/\tt J S=some (.ok false S))\/∃r d,h x=some d/\tt J S=some (.ok true S)/\Q J S=some (.ok r S)/\lX r=.d d))->
  bF gg tt Q (xs.map f) U S aO=some (.ok (aO++xs.filterMap h) S)
 |[],U,aO,_,_,_=>by rw[vJ,jI];rfl
 |x::xs,U,aO,g,hl,V=>by
  obtain⟨J,e1,g',e2⟩:=V x (.head _) U g;rw[jR] at hl;rw[cS];unfold bF;rw[e1,vE];rcases e2 with⟨e2,Y⟩|⟨r,d,e2,Y,W,B⟩
  .rw[Y,List.filterMap_cons_none e2];exact Fh h G xs J aO g' (by lia) λy m=>V y (.tail _ m)
  .have F:gD Q J S=some (.ok d S):=by unfold gD bd;rw[W];show(nF S (lX r)).map _=_;rw[B];rfl
   rw[Y,List.filterMap_cons_some e2];show rP (gD Q J S) _=_;rw[F];show(if aO.length<1000000 then _ else _)=_
   rw[bJ (by lia),Fh h G xs J (aO++[d]) g' (by rw[cZ,sj];lia) λy m=>V y (.tail _ m),jz]
   rfl
def Ju{d:D}:ae 0 d (a::cs)=some (some (.d d)::cs):=by
 rfl
def sR(h:α->ai D)(xs:List α)(hl:xs.length<=1000000)(Y:∀x∈xs,(h x=none/\tt (some (.d (f x))::cs) S=some (.ok false S))\/∃r d,h x=some d/\tt (some (.d (f x))::cs) S=some (.ok true S)/\Q (some (.d (f x))::cs) S=some (.ok r S)/\lX r=.d d):bF (ae 0) tt Q (xs.map f) (a::cs) S []=some (.ok (xs.filterMap h) S):=by
 rw[Fh h (λU=>∃a,U=a::cs) xs _ [] ⟨a,rfl⟩ (by rw[Ak];lia) λx m U ⟨a,J⟩=>⟨_,by rw[J];exact Ju,⟨_,rfl⟩,Y x m⟩,Ap]
def qk(h:α->D)(xs:List α)(hl:xs.length<=1000000)(V:∀x∈xs,∃r,Q (some (.d (f x))::cs) S=some (.ok r S)/\lX r=.d (h x)):bF (ae 0) (iw true) Q (xs.map f) (a::cs) S []=some (.ok (xs.map h) S):=by
 rw[sR (λx=>some (h x)) xs hl λx m=>.inr (let ⟨r,J,Y⟩:=V x m;⟨r,_,rfl,rfl,J,Y⟩),List.filterMap_eq_map']
theorem Pc{body:GS}(I:List α->Gm->aU->Prop):∀xs Y U S,I Y U S->(∀d x r,Y++xs=d++x::r->∀U S,I d U S->∃V J S',gg (f x) U=some V/\(body V S=some (.nx J S')\/body V S=some (.ct J S'))/\I (d++[x]) J S')->∃J S',aM gg body (xs.map f) U S=some (.nx J S')/\I (Y++xs) J S'
 |[],Y,U,S,i,_=>⟨U,S,rfl,by rw[jI];exact i⟩
 |x::xs,Y,U,S,i,W=>by
  refine kY λL=>?_
  obtain⟨V,J,S',e1,e2,R⟩:=W Y x xs rfl U S i;obtain⟨T,F,G,B⟩:=Pc I xs (Y++[x]) J S' R λd y r e=>W d y r (by rw[<-e,jz];rfl)
  refine L ?_;refine⟨T,F,?_,by rw[jz] at B;exact B⟩
  rw[cS];unfold aM;rw[e1,vE];rcases e2 with e2|e2
  .rw[e2];exact G
  .rw[e2];exact G
def f_(gg:GG)(body:GS)(f:α->D)(S:aU)(I:List α->Gm->aU->Prop)(xs:List α)(i:I [] U S)(V:∀d x r,xs=d++x::r->∀U S,I d U S->∃Y J S',gg (f x) U=some Y/\(body Y S=some (.nx J S')\/body Y S=some (.ct J S'))/\I (d++[x]) J S'):∃J S',aM gg body (xs.map f) U S=some (.nx J S')/\I xs J S':=Pc I xs [] U S i λd x r e=>V d x r e
theorem Ob{β:Type}{body:GS}(st:β->aU->Gm×aU)(I:List α->β->Prop):∀xs J b,I J b->(∀d x r,J++xs=d++x::r->∀b,I d b->∃b',I (d++[x]) b'/\∀S,∃Y,gg (f x) (st b S).1=some Y/\(body Y (st b S).2=some (.nx (st b' S).1 (st b' S).2)\/body Y (st b S).2=some (.ct (st b' S).1 (st b' S).2)))->
  ∃b',I (J++xs) b'/\∀S,aM gg body (xs.map f) (st b S).1 (st b S).2=some (.nx (st b' S).1 (st b' S).2)
 |[],J,b,i,_=>⟨b,by rw[jI];exact i,λS=>rfl⟩
 |x::xs,J,b,i,G=>by
  obtain⟨B,R,T⟩:=G J x xs rfl b i;obtain⟨F,W,V⟩:=Ob st I xs (J++[x]) B R λd y r e=>G d y r (by rw[<-e,jz];rfl)
  refine⟨F,by rw[jz] at W;exact W,λS=>?_⟩
  obtain⟨Y,e1,e2⟩:=T S;rw[cS];unfold aM;rw[e1,vE];rcases e2 with e2|e2
  .rw[e2];exact V S
  .rw[e2];exact V S
def Pd{β:Type}{body:GS}(st:β->aU->Gm×aU)(I:List α->β->Prop)(xs:List α)(b:β)(i:I [] b)(Y:∀d x r,xs=d++x::r->∀b,I d b->∃b',I (d++[x]) b'/\∀S,∃J,gg (f x) (st b S).1=some J/\(body J (st b S).2=some (.nx (st b' S).1 (st b' S).2)\/body J (st b S).2=some (.ct (st b' S).1 (st b' S).2))):
  ∃b',I xs b'/\∀S,aM gg body (xs.map f) (st b S).1 (st b S).2=some (.nx (st b' S).1 (st b' S).2):=Ob st I xs [] b i λd x r e=>Y d x r e
def Z4(J:α->D)(xs:List α):eV (xs.map J)=((List.range xs.length).zip xs).map λ(p:Nat×α)=>D.tup [.int (p.1:Nat),J p.2]:=by
 unfold eV;rw[ba];refine LH λi=>?_
 rw[fB,fB];by_cases h:i<xs.length
 .have z:((List.range xs.length).zip xs)[i]?=some (i,xs[i]):=List.getElem?_zip_eq_some.mpr ⟨yA h,gu h⟩;rw[yA h,z];simp[h]
 .rw[vI (by simp;lia),vI (by simp;lia)]
  rfl
def e8a{body:GS}(Y:α->D)(I:List α->Gm->aU->Prop)(xs:List α)(i:I [] U S)(T:∀d x r,xs=d++x::r->∀U S,I d U S->∃G J S',gg (.tup [.int (d.length:Nat),Y x]) U=some G/\body G S=some (.nx J S')/\I (d++[x]) J S'):∃J S',aM gg body (eV (xs.map Y)) U S=some (.nx J S')/\I xs J S':=by
 have F:((List.range xs.length).zip xs).map Prod.snd=xs:=by rw[List.map_snd_zip];simp
 rw[Z4];obtain⟨J,S',e,p⟩:=f_ gg body (λ(p:Nat×α)=>D.tup [.int (p.1:Nat),Y p.2]) S (λpre U S=>I (pre.map Prod.snd) U S) ((List.range xs.length).zip xs) i (by
  intro q x post e U S p;have R:xs=q.map Prod.snd++x.2::post.map Prod.snd:=by
   simp_all
  have hi:x.1=(q.map Prod.snd).length:=by
   have:((List.range xs.length).zip xs)[q.length]?=some x:=by rw[e,oW (bU _)];simp
   rw[List.getElem?_zip_eq_some] at this;have V:=this.1;rw[dX] at V;obtain⟨hl,V⟩:=V;rw[List.getElem_range] at V;rw[ba];exact V.symm
  obtain⟨G,B,W,a,b,c⟩:=T _ _ _ R U S p;exact⟨G,B,W,by rw[hi];exact a,.inl b,by rw[eC];exact c⟩)
 exact⟨J,S',e,by rw[F] at p;exact p⟩
theorem Ik{body:GS}{rv:Rv}{S':aU}(I:List α->Gm->aU->Prop){x:α}{r:List α}:∀d Y U S,I Y U S->(∀d' y r',Y++d=d'++y::r'->∀U S,I d' U S->∃J V S',gg (f y) U=some J/\(body J S=some (.nx V S')\/body J S=some (.ct V S'))/\I (d'++[y]) V S')->(∀U S,I (Y++d) U S->∃J,gg (f x) U=some J/\body J S=some (.rt rv S'))->aM gg body ((d++x::r).map f) U S=some (.rt rv S')
 |[],Y,U,S,i,_,G=>by
  obtain⟨J,e1,e2⟩:=G U S (by rw[jI];exact i)
  rw[Ap,cS];unfold aM;rw[e1,vE,e2];rfl
 |y::d,Y,U,S,i,hp,G=>by
  obtain⟨J,V,S',e1,e2,W⟩:=hp Y y d rfl U S i;have B:=Ik I (x:=x) (r:=r) d (Y++[y]) V S' W (λd' z r' e=>hp d' z r' (by rw[<-e,jz];rfl)) (λU S h=>G U S (by rw[jz] at h;exact h))
  grind [aM]
end
end L2
namespace L2
open PySem PySem.Spec PySem.W PyProof.Rows
variable{a:List Str}
noncomputable def i9 (l:List Str):List Str:=Classical.epsilon λs=>s.Perm l/\sortedS s=true
theorem C4:∀{p:Str} {l:List Str},risingS p l=true->(p::l).Pairwise λa b=>a.cps.toList<=b.cps.toList
 |p,[],_=>by simp
 |p,x::l,h=>by
  have h:(!ltCps x.cps.toList p.cps.toList&&risingS x l)=true:=h;rw[jx,ltCps_eq,Gy,decide_eq_false_iff_not,List.not_lt] at h;have J:=C4 h.2;refine List.pairwise_cons.mpr ⟨λb m=>?_,J⟩
  rcases y0c.mp m with rfl|m
  .exact h.1
  .exact List.le_trans h.1 ((List.pairwise_cons.mp J).1 b m)
def Pe(h:sortedS a=true):a.Pairwise λa b=>a.cps.toList<=b.cps.toList:=by
 cases a with
 |nil=>exact .nil
 |cons p l=>exact C4 h
def UT{b:List Str}(p:a.Perm b)(J:sortedS a=true):i9 b=a:=by
 have h:=Classical.epsilon_spec (p:=λs:List Str=>s.Perm b/\sortedS s=true) ⟨a,p,J⟩
 exact(h.1.trans p.symm).eq_of_pairwise (λx y _ _ Y V=>Str.ext' (Array.toList_inj.mp (List.le_antisymm Y V))) (Pe h.2) (Pe J)
section
variable{K:aP}{k:Kn}
theorem ja:∀{J:List Str} {vs:List ak},Vals (J.map V.str) vs↔StrsAre vs J
 |[],vs=>⟨λh=>by cases h;exact .nil,λh=>by cases h;exact .nil⟩
 |s::J,vs=>⟨λh=>by
   cases h with
   |cons r t=>obtain⟨t',rfl⟩:=r;exact .cons _ _ (ja.mp t),λh=>by
   cases h with
   |cons _ t h=>exact .cons ⟨t,rfl⟩ (ja.mpr h)⟩
def UU(ns:List Str):ag K k (ns.map V.str) (ns.map D.str):=by
 induction ns with
 |nil=>exact .nil
 |cons a l J=>exact .flat rfl J
end
section
variable{prog:dq}{w:cL}{A:cW}{E:ak->aB->Prop}{s:aB}
def To{vs:List ak}{J:List Str}{h0:bZ}{Q:ak->aB->Prop}(hS:StrsAre vs J)(Y:vs.length<64)(h:∀h' c out,StrsAre out.toList (i9 J)->(i9 J).length=J.length->(∀b o,h0.get? b=some o->h'.get? b=some o)->h'.get? h0.objs.size=some (seqObj "list" out c)->Q (.ref h0.objs.size) { s with heap:=h'}):
  wpAny (model prog w) A (call (.builtin "list.sort") [.ref h0.objs.size]) (λ_ s'=>Q (.ref h0.objs.size) s') E { s with heap:=h0.push (seqObj "list" vs.toArray 0)}:=by
 have ho:(h0.push (seqObj "list" vs.toArray 0)).get? h0.objs.size=some (seqObj "list" vs.toArray 0):=jb _ rfl;refine wpAny_call_entry slot_list_sort ⟨_,ho,rfl⟩ entry_list_sort (list_sort_treeK (s:={ s with heap:=h0.push (seqObj "list" vs.toArray 0)}) PyProof.Rows.strKind_oneLt ho hS.keysOf (λT S r e=>by subst e;exact keyKind_strs hS) Y λU W B=>⟨_,rfl,?_⟩) (args_list_sort _)
 refine kY λG=>?_
 obtain⟨F,a1,a2,a3⟩:=sorted_out_str hS W B;obtain⟨e,V⟩:=sortedHeap_at (out:=Array.map (λx=>x.snd) (arrOf U)) ho
 rw[<-UT a2 a3] at a1 a2;refine G ?_;refine h _ _ _ a1 a2.length_eq (λb o g=>?_) V
 have lt:b<h0.objs.size:=cV g;rw[sortedHeap_old (g_ lt) (Nat.lt_trans lt (cV ho))];exact c8 _ g
end
variable{X:Cx}{W:XW}{q:Nat}
section
variable{X:Cx}{K:aP}
def Pf(K:aP):List V->Hp->VK->Prop:=λvs H Q=>∃(a:aj) (J:List Str) (es:List (TK×V×V)) (ep:Nat),vs=[.ref a]/\H a=some (.dG es ep)/\fQ es/\es.map (·.1)=J.map TK.inr/\J.length<64/\∀l,H l=none->Q (.ref l) (upd H l (.lst ((i9 J).map V.str)))
def R5(hc:X.calm=true):bT X (.builtin "sorted") (Pf K):=by
 intro aa s Z H xs us Q I r h;refine kY λJ=>?_
 obtain⟨a,Y,es,ep,rfl,hd,ht,F,b,q⟩:=h;obtain⟨u,rfl,d⟩:=Vals.one r;cases d;refine J ?_;refine Calls.call_function_entry kind_sorted plain_sorted entry_sorted (args_sorted1 _) ?_;unfold Builtin.«sorted»;refine aK (m:=checkCount "sorted" 1 1 _) (bw ?_);refine kY λJ=>?_
 obtain⟨kvs,S,t,U,R,lo⟩:=rM I hd ht;have l1:kvs.length=Y.length:=by have:=congrArg List.length (U.trans F);simpa using this
 refine J ?_;refine aK (kdu_collect (kdl_dict (knd:=PySem.strKind X.prog X.w) (kvs:=kvs) (ep:=ep) lo) (I.ok.hd hc) S R λh' tk aO kp hi=>?_)
 have rv:Vals (Y.map V.str) aO.toList:=by
  refine HR (by have:=hi.1;rw[ba,<-l1,<-this];simp) λj y u e1 e2=>?_
  rw[fB] at e1;refine kY λJ=>?_
  obtain⟨z,D,rfl⟩:=c_.mp e1;obtain⟨k,v,k1,k2⟩:=hi.2 j u (by rw[<-vF];exact e2)
  have k3:(kvs.map (λp=>TK.inr p.1))[j]?=(Y.map TK.inr)[j]?:=by rw[U,F]
  rw[fB,fB,k1,D] at k3;cases(TK.inr.inj (Option.some.inj k3):k=z);refine J ?_;exact Value.isStrOf_shape k2
 have hS:=ja.mp rv;have hlen:=rv.length;rw[ba] at hlen;have hz:aO.toList.length<=sizeLine:=by rw[sizeLine_eq];lia
 refine aK (wpAny_newList ?_ (by simpa using hz))
 have G:Inv X aa Z H { s with heap:=h',toks:=tk}:=I.kept kp;refine aK (kA (wpAny_mono (To (s:={ s with heap:=h',toks:=tk}) (h0:=h') (vs:=aO.toList) (Q:=λv s'=>EP X aa Z Q v s') hS (by lia) λB c out a1 a3 T O=>?_) (λ_ s' x=>?_) λ_ _ e=>e))
 .have a2:=ja.mpr a1;have L:=G.laid (h':=B) (t':=tk) (o:=.lst ((i9 Y).map V.str)) T (bU _) (show cw X.prog X.w _ B _ (.lst _) from⟨by rw[ba,a3,sizeLine_eq];lia,out.toList,c,a2,O⟩)
  exact⟨.ref h'.objs.size,_,L,rfl,q _ (G.bN.fresh (bU _))⟩
 .exact bw ⟨_,rfl,x⟩
theorem M':∀{kvs:List (TK×D)} {J:List Str},kvs.map (·.1.d)=J.map D.str->kvs.map (·.1)=J.map TK.inr
 |[],[],_=>rfl
 |[],_::_,h=>nomatch h
 |_::_,[],h=>nomatch h
 |(k,d)::l,z::J,h=>by
  simp only[cS,List.cons.injEq] at h ⊢;exact⟨by cases k <;> simp only[TK.d] at h <;> grind,M' h.2⟩
def UW{kvs:List (TK×D)}{Y:List Str}(h:kvs.map (·.1)=Y.map TK.inr):eU kvs=true:=by
 unfold eU;refine jS.mpr λp m=>?_
 have J:p.1∈kvs.map (·.1):=l7 m
 rw[h] at J;obtain⟨z,_,e⟩:=fU.mp J;rw[<-e];rfl
noncomputable def oQ:D->ai Rv
 |.ao kvs=>(eK (kvs.map (·.1.d))).bind λJ=>if J.length<64 then some (.o (.lst ((i9 J).map D.str))) else none
 |_=>none
def UX:b_ K (Pf K) (o1 oQ):=qT λk H x a y Q le t e J=>by
 unfold oQ at e;split at e
 .obtain⟨B,h,e⟩:=cF.mp e;split at e
  .cases e;have Y:=M' (Er h);have ht:=UW Y;obtain⟨p,es,ep,rfl,V,U,G,F,T⟩:=t.txt le ht;exact⟨p,B,es,ep,rfl,V,U,G.trans Y,by assumption,λl hl=>J.lst le (UU _) hl⟩
  .cases e
 .cases e
def xF:pU K (.builtin "sorted") (o1 oQ):=λX h c u=>⟨_,R5 c,UX⟩
end
noncomputable def wN(tab:List (Str×aj))(c C:aj):ai Bool:=if tab.any (λp=>p.2 == C)=true then some (C == c) else none
def hN{K:aP}{B0 c:aj}{tab:List (Str×aj)}{x:Str}{D hp:Pos}{Y:Stmt}{G:List Stmt}{U:List ExceptHandler}{g:GS}{V:List GH}(j:Nat)(S:tab[j]?=some (x,c))(E:oZ K X.mg tab B0)(hS:∀e,iM (X.dH e) (Y::G) (tS K W0 q g))(J:HB X K W q U V)
  (h0:(c == B0)=false) (T:Gl X x) (R:(x == ("__debug__":Str))=false) (F:X.K=K) :
  HB X K W q (.ExceptHandler (some (.Name x D)) none (Y::G) hp::U) ((wN tab c,g)::V):=by
 obtain⟨e1,e2,_⟩:=E.ix S;refine NR e1 (λC b h=>?_) hS J T R F
 unfold wN at h;split at h
 .rename_i B
  cases h;obtain⟨p,m,e⟩:=LG.mp B;cases(beq_iff_eq.mp e);refine((E.all p m).2.1.P8 e2 rfl).trans (congrArg some ?_);have L:c≠B0:=λz=>by rw[z] at h0;simp at h0
  by_cases z:p.2=c
  .subst z;simp
  .rw[show(p.2 == c)=false from beq_false_of_ne z];simp[qh,Ne.symm z,L]
 .cases h
def ppc{K:aP}{J:Pos}{k v:Expr}{ks:List (ai Expr)}{vs:List Expr}{a b:GE}{Y:List (GE×GE)}(V:PE X k (tE K W q a))(hv:PE X v (tE K W q b))(U:uj X J ks vs (Ad K W q Y)):uj X J (some k::ks) (v::vs) (Ad K W q ((a,b)::Y)):=Uc V hv U
def xI(p n:Nat)(m:(Nat->GM)->Nat->GS):Nat->Nat->GM
 |0=>λ_ _ _=>none
 |j+1=>aV p n (m (xI p n m j))
def k_{p n j:Nat}{m:(Nat->GM)->Nat->GS}:hZ (xI p n m j q) p:=by
 cases j with
 |zero=>exact λ_ _ _ e=>nomatch e
 |succ j=>exact lh
variable{K:aP}
def z6:D->D->ai Rv
 |.int i,b=>(iD b).map λj=>rd (.bl (!(i == j)))
 |.str i,.str j=>some (rd (.bl (!(i == j))))
 |_,_=>none
def C1:R2:=λx y H Q=>(∃i j,x=.int i/\y=.int j/\Q (.bl (!(i == j))) H)\/∃i j,x=.str i/\y=.str j/\Q (.bl (!(i == j))) H
def Z5:dZ X (compareOp .NotEq) C1:=by
 intro aa s Z H x y u v Q I J Y h;rcases h with⟨i,j,rfl,rfl,q⟩|⟨i,j,rfl,rfl,q⟩ <;> obtain⟨t,rfl⟩:=J <;> obtain⟨t',rfl⟩:=Y
 .exact SeqAt.RcNeAt.int_int i t j t' X.prog X.w _ _ ⟨.bl _,H,I,rfl,q⟩
 .exact SeqAt.RcNeAt.str_str i t j t' X.prog X.w _ _ ⟨.bl _,H,I,rfl,q⟩
def Z8:b_ K (lS C1) (o2 z6):=u_ λk H x z a b y Q le Y V e J=>by
 cases a with
 |int i=>
  obtain⟨j,h,rfl⟩:=c_.mp (show(iD b).map _=_ from e);cases IY h;cases Y.flat rfl;cases V.flat rfl;exact .inl ⟨_,_,rfl,rfl,J.flat le rfl⟩
 |str i=>cases b with
  |str j=>
   cases e;cases Y.flat rfl;cases V.flat rfl;exact .inr ⟨_,_,rfl,rfl,J.flat le rfl⟩
  |_=>cases e
 |_=>cases e
def IU:jV K .NotEq (o2 z6):=λX h u=>⟨_,Z5,Z8⟩
end L2
namespace L2
open PySem Lean Meta
def YL:List Name:=[``wQ,``sX,``BL,``wR,``wL,``wS,``wE,``wP,``wA,``wAI,``wAD,``wX,``wY,``qm,``hN,``qz,``wF,``qo,``xv,``xi,``xs,``xb,``xn,``xty,``xk,``xki,``xo,``Lx,``xc,``xix,``xsl,``xd,``xj,``jn,``jc,``xB,``xT,``xM,``xU,``xf,``xC,``xN,``xH,``xH0,``xLV,``xL,``wO,``wK,``ql,``sT,``BJ,``BK,``wM,``wJ,``x_,``zc,``wI,``PW.pt,``BP,``wV,``wU,``yc,``ych,``yt,``ya1,``yo1,``yn,``y1,``sW,``sU,``ppc,``tQ,``pgn,``pgt,``qV,``tP,``tY,``yu,``q_,``t4,``sA,``KZ,``sEn,``sV,``sI,``sR1,``sRT,``Lq,``Lv,``Ls,``Dw,``Lr,``Lu,``Vy,``IU,``VD,``VC,``Vz,``VA,``IV,``VB,``IT,``Kf,``Ke,``Kc,``Kg,``CB,``Kd,``CA,``Cz,``xP,``CF,``t9,``t_,``ua,``Ds,``om,``PyProof.Rows.Boot.min,``PyProof.Rows.Boot.sum,``vb,``vc,``xA,``CT,``cH.le,``lh,``k_,``tN,``tO,``xF]
def YJ(tg N dw:Lean.Expr):MetaM Lean.Expr:=do
 let nm (e:Lean.Expr):=e.getArg! 0
 let J:=if tg.isAppOf ``Expr.Name then[nm tg] else((tg.getArg! 0).listLit?.map (·.2.map nm)).getD []
 let ns:=(((<-whnf N).listLit?).map (·.2)).getD []
 let cs:=((dw.listLit?.map (·.2)).getD []).map λi=>ns.getD ((i.nat?).getD 0) (mkNatLit 0)
 mkListLit (mkConst ``Str) (J++cs)
def lE{α:Type}(f:α->MetaM Bool):List α->MetaM Bool
 |[]=>return false
 |x::l=>do if <-f x then return true else lE f l
def qr(x:MetaM Unit):MetaM Bool:=do
 let s <-saveState
 try
  x
  return true
 catch _=>
  s.restore
  return false
def uH(g:MVarId)(s:MetaM Syntax):MetaM Bool:=qr do
 unless (<-Lean.Elab.runTactic g (<-s)).1.isEmpty do failure
def qp(f:Lean.Expr->MetaM Unit):List Lean.Expr->MetaM Unit
 |[]=>return
 |m::l=>do
  unless <-m.mvarId!.isAssigned do f m
  qp f l
def BO(k:MVarId->MetaM Unit)(g:MVarId)(t:Lean.Expr)(J:Lean.Expr->MetaM Unit)(f:Lean.Expr):MetaM Bool:=qr do
 let y <-whnfR (<-inferType f)
 unless y.getForallBody.getAppFn.constName? == t.getAppFn.constName? do failure
 let (ms,_,ty) <-forallMetaTelescope y
 unless <-isDefEq ty t do failure
 qp J ms.toList
 qp (λm=>do if <-isProp (<-inferType m) then k m.mvarId!) ms.toList
 g.assign (mkAppN f ms)
abbrev AB:=(Lean.Expr->MetaM Unit)->Lean.Expr->MetaM Bool
def BM(u:AB):Lean.Expr->MetaM Bool:=u λ_=>pure ()
def PL(u:AB)(p:Name×ConstantInfo):MetaM Bool:=do
 if p.1.getPrefix == `Carry then
  if(<-whnfR p.2.type).getForallBody.isAppOf ``dO then return <-BM u (<-mkConstWithFreshMVarLevels p.1)
 return false
def YH(u:AB)(d:LocalDecl)(f:Name):MetaM Bool:=do
 let p <-mkProjection d.toExpr f
 if(<-whnfR (<-inferType p)).isForall then
  if <-lE (λj=>BM u (mkApp p (mkNatLit j))) (List.range 99) then return true
 BM u p
def YI(u:AB)(d:LocalDecl):MetaM Bool:=do
 if d.isImplementationDetail then return false
 if <-BM u d.toExpr then return true
 let some s:=d.type.getAppFn.constName?|return false
 let env <-getEnv
 if isStructure env s&&s.getPrefix == `Carry then lE (YH u d) (getStructureFields env s).toList else return false
def YK(u:AB)(t:Lean.Expr)(r:Name):MetaM Bool:=do
 let f <-mkConstWithFreshMVarLevels r
 if r == ``wX || r == ``hN then
  lE (λj=>u (λm=>do if(<-inferType m).isConstOf ``Nat then m.mvarId!.assign (mkNatLit j)) f) (List.range 12)
 else u (λm=>do
  if r == ``xL || r == ``wL then
   if(<-instantiateMVars (<-inferType m)).isAppOf ``List then
    let some lc:=t.find? (·.isAppOf ``Expr.ListComp)|failure
    let some gc:=t.find? (·.isAppOf ``cx)|failure
    let some co:=((lc.getArg! 1).listLit?.bind (·.2.head?))|failure
    m.mvarId!.assign (<-YJ (co.getArg! 0) (<-mkAppM ``Cx.N #[t.getArg! 0]) gc.appArg!)) f
def BN:Nat->MVarId->MetaM Unit
 |0,_=>failure
 |n+1,g0=>do
  let (_,g) <-g0.intros
  g.withContext do
  let t:=(<-instantiateMVars (<-g.getType)).cleanupAnnotations.headBeta
  let u:=BO (BN n) g t
  let c:=t.getAppFn.constName?.getD .anonymous
  if c == ``Eq then
   let l:=t.appFn!.appArg!
   if l.isAppOf ``z5 || l.isAppOf ``gF then
    if <-uH g `(tactic| kernel_rfl) then return
   if <-qr g.refl then return
  let loc:=(<-getLCtx).decls.toList.filterMap id
  if c == ``dO then
   if <-lE (λd=>if d.isImplementationDetail then return false else BM u d.toExpr) loc then return
   let m:=(<-getEnv).constants
   if <-lE (PL u) m.map₂.toList then return
   if <-lE (PL u) m.map₁.toList then return
   failure
  if <-lE (YI u) loc then return
  if <-lE (YK u t) YL then return
  unless <-uH g `(tactic| first|rfl|exact Or.inl rfl|exact Or.inr rfl|exact Or.inr (Or.inl rfl)|exact Or.inr (Or.inr rfl)|decide|(intro _ _;rfl)|with_unfolding_all rfl) do failure
def PM:Nat->Lean.Expr->MetaM (List Lean.Expr)
 |0,_=>failure
 |n+1,e=>do
  let a:=(<-whnf e).getAppArgs
  if a.size<3 then return []
  return (<-whnfCore a[1]!)::(<-PM n a[2]!)
simproc_decl dv (iM _ _ _):=λe=>do
 let a:=e.getAppArgs
 let b <-withDefault (whnf a[1]!)
 let N <-mkListLit (mkConst ``Str) (<-withDefault (PM 99 (a[0]!.getArg! 6)))
 let m <-mkFreshExprMVar (mkApp3 e.getAppFn (mkAppN a[0]!.getAppFn (a[0]!.getAppArgs.set! 6 N)) b a[2]!)
 withDefault (BN 200 m.mvarId!)
 return .done { expr:=mkConst ``True,proof?:=<-mkEqTrue (<-mkExpectedTypeHint (<-instantiateMVars m) e)}
end L2
namespace L2
open PySem PySem.Spec PyProof.Rows
variable{K:aP}{C:ai aj}{x qual:Str}{f:aj}{st:Stmt}{Q:aP->(Str->ai ak)->Prop}{p n:Nat}
noncomputable def fA (K:aP) (C:ai aj) (x:Str):aj:=Classical.epsilon λf=>C.elim (PySem.W.nsIn K mainGlobals x) (λC=>PySem.W.findIn K (.ref C) x)=some (some (.ref f))
noncomputable def fF (K:aP) (f:aj):kR:=Classical.epsilon λd=>∃oc od oF,K.lookup f=some ⟨oc,od,.func d,oF⟩
abbrev sd(st:Stmt):List Str:=(zq st).args.map (·.arg)
abbrev F0(st:Stmt):List Str:=((mf st).names.filter λp=>p.2.casesOn true true false false false).map (·.1)
abbrev Df(K:aP)(mg:Str->ai ak)(x:Str)(st:Stmt):Prop:=ui K mg x st (fA K none x) (fF K (fA K none x)) (sd st)
abbrev Mf(K:aP)(C:aj)(x y:Str)(st:Stmt):Prop:=MethAt K C x y st (fA K (some C) x) (fF K (fA K (some C) x)) (sd st)
def BU{A:Type}{p:A->Prop}(a:A)(h:p a)(u:∀b,p b->a=b):@Classical.epsilon A ⟨a⟩ p=a:=(u _ (@Classical.epsilon_spec_aux A ⟨a⟩ p ⟨a,h⟩)).symm
def IZ(a:C.elim (PySem.W.nsIn K mainGlobals x) (λC=>PySem.W.findIn K (.ref C) x)=some (some (.ref f))):fA K C x=f:=BU f a λb e=>by cases a.symm.trans e;rfl
def PV{y:Str}{fd:kR}(F:pV K x y st f fd):fF K f=fd:=by
 obtain⟨oc,od,_,_,_,_,_,_,oF,_,l,_⟩:=F.ex;exact BU fd ⟨oc,od,oF,l⟩ λb ⟨_,_,_,e⟩=>by cases l.symm.trans e;rfl
seal fA fF
abbrev DL(Q:aP->(Str->ai ak)->Prop)(C:ai aj)(x:Str)(st:Stmt)(k p:Nat)(M:Nat->GM):Prop:=∀{P:dq} {w:cL} {K:aP} {mg:Str->ai ak} {base:bZ} (T:Q K mg) (q:Nat),dO P w K mg base (lr P w) k (fA K C x) (fF K (fA K C x)) (sd st) (p5 K q p (M q))
def cB{k:Nat}{m:Nat->GS}(F:∀{K:aP} {mg:Str->ai ak},Q K mg->pV K x qual st (fA K C x) (fF K (fA K C x)):=by first|exact λT=>(T.F _).fn|exact λT=>(T.G _).fn|exact λT=>(T.H _).fn)(N:List Str:=F0 st)
  (hb:∀{P:dq} {w:cL} {K:aP} {mg:Str->ai ak} {base:bZ} (T:Q K mg) (q:Nat) (fI:ak) (A:cW) (outer:List Env) (s:aB) (H:Hp) (E:XK),cH k (A.deeper (envOfC qual (mf st) s.heap.objs.size (fA K C x) fI))->(A.deeper (envOfC qual (mf st) s.heap.objs.size (fA K C x) fI)).units+41<cLine->iM (kH (lr P w) P w K mg base N qual (mf st) (fA K C x) fI A outer s H E) (ur st) (tS K (WF E) q (m q)):=by intros;simp only[dv])
  (S:gA N (sd st) (mf st):=by exact BX) (hp:(sd st).length=p:=by rfl) (Y:N.length=n:=by rfl):DL Q C x st (k+1) p (aV p n m):=λT q=>OP (F T) S hp Y λfI A outer s H E J=>hb T q fI A outer s H E J (Oa J)
def okR{c:Nat}{m:(Nat->GM)->Nat->GS}(F:∀{K:aP} {mg:Str->ai ak},Q K mg->pV K x qual st (fA K C x) (fF K (fA K C x)):=by first|exact λT=>(T.F _).fn|exact λT=>(T.G _).fn|exact λT=>(T.H _).fn)(j:Nat)(N:List Str:=F0 st)
  (hb:∀{P:dq} {w:cL} {K:aP} {mg:Str->ai ak} {base:bZ} (T:Q K mg) (j:Nat) (r:Nat->GM) (G:∀q,dO P w K mg base (lr P w) (c+j) (fA K C x) (fF K (fA K C x)) (sd st) (p5 K q p (r q))) (tk:∀q,hZ (r q) p) (q:Nat) (fI:ak) (A:cW) (outer:List Env) (s:aB) (H:Hp) (E:XK),cH (c+j) (A.deeper (envOfC qual (mf st) s.heap.objs.size (fA K C x) fI))->(A.deeper (envOfC qual (mf st) s.heap.objs.size (fA K C x) fI)).units+41<cLine->iM (kH (lr P w) P w K mg base N qual (mf st) (fA K C x) fI A outer s H E) (ur st) (tS K (WF E) q (m r q)):=by intros;simp only[dv])
  (S:gA N (sd st) (mf st):=by exact BX) (hp:(sd st).length=p:=by rfl) (Y:N.length=n:=by rfl):DL Q C x st (c+j) p (xI p n m j):=by
 intro P w K mg base T
 induction j with
 |zero=>exact λq=>⟨λ_ _ _ _ h=>(by obtain⟨_,_,_,_,_,_,_,e,_⟩:=h;cases e),λ_ _ _ _ _ _ _ _ _ _ _ _ _ h=>(by obtain⟨_,_,_,_,_,_,_,e,_⟩:=h;cases e)⟩
 |succ j V=>exact λq=>OP (F T) S hp Y λfI A outer s H E J=>hb T j _ V (λq=>k_) q fI A outer s H E J (Oa J)
end L2
namespace L2
open PySem PySem.Spec PySem.W PyProof.Rows
section
variable{K:fP}{mg:Str->ai ak}{h:bZ}{x y:Str}{st:Stmt}{f C:aj}{fd:kR}
abbrev Pg(x y:Str)(st:Stmt)(ps:List Str):Prop:=∀(kV doc pm:ak) (an:ai aj) (fI ct:ak) (us:List ak),us.length=ps.length->bindArgs (PySem.W.fnOf x y (zq st) (ur st) (mf st) .none kV doc pm an fI ct) ⟨us,[]⟩=pure (ps.zip us)
def dM(X:K.In h)(G:h.Ns mainGlobals mg)(a:nsIn K mainGlobals x=some (some (.ref f)))(F:pV K x x st f fd)(b:Pg x x st (sd st)):Df K mg x st:=by
 unfold Df;rw[IZ (C:=none) a,PV F];exact⟨F,mg_of X G a,F.binds b⟩
def mM(a:findIn K (.ref C) x=some (some (.ref f)))(n:isFn K (.ref f)=true)(F:pV K x y st f fd)(b:Pg x y st (sd st)):Mf K C x y st:=by
 unfold Mf;rw[IZ (C:=some C) a,PV F];exact⟨F,⟨a,n,F.kp⟩,F.binds b⟩
def mK(m:makesIn K C=true)(a:findIn K (.ref C) "__init__"=some (some (.ref f)))(n:isFn K (.ref f)=true)(k:keepIn K (.ref C)=true):Mk K C (fA K (some C) "__init__"):=by
 rw[IZ (C:=some C) a];exact⟨m,a,n,k⟩
def kM{v:Tok->ak}{t:Tok}(X:K.In h)(G:h.Ns mainGlobals mg)(a:nsIn K mainGlobals x=some (some (v t))):∃t,mg x=some (v t):=⟨t,mg_of X G a⟩
end
end L2
namespace L2
noncomputable abbrev ar(x:D):ai Val:=some (.d x)
noncomputable abbrev aY(x:PySem.Str):ai Val:=some (.d (.str x))
abbrev bx(x:Int):ai Val:=some (.d (.int x))
abbrev aJ(n:Nat):ai Val:=some (.c n)
abbrev cD(x:PySem.Str):Val:=.d (.str x)
abbrev aT(x:Int):Val:=.d (.int x)
noncomputable abbrev cR:ai Val:=some (.d (.ref 0))
abbrev eB:Val:=.d (.ref 0)
end L2
namespace Carry
open PySem L2
structure av where
 name:Str
 long:Int
 ring:Bool
 outs:List Str
structure aA where
 af:List av
 carts:List Str
noncomputable def lK(xs:List Str)(k:Nat)(y:Str):List Str:=xs.take k++y::xs.drop k
theorem EA(xs:List Str)(k:Nat)(y:Str):(lK xs k y).length=xs.length+1:=by
 unfold lK;rw[cZ,jR,vC,Ah];lia
def kr{xs:List Str}{k:Nat}{y z:Str}:z∈lK xs k y↔z=y\/z∈xs:=by
 unfold lK;rw[iC,y0c];constructor
 .rintro(h|h|h)
  .exact .inr (List.mem_of_mem_take h)
  .exact .inl h
  .exact .inr (LK h)
 .rintro(h|h)
  .exact .inr (.inl h)
  .rw[<-List.take_append_drop k xs,iC] at h;rcases h with h|h
   .exact .inl h
   .exact .inr (.inr h)
seal PE PA PT PS iM
noncomputable def top(i:Nat):Stmt:=PySem.Challenge.pw_carry_k66_a_turn.main.body.getD i (.Pass ⟨0,0,0,0⟩)
noncomputable abbrev errTab:List (Str×aj):=[("NoName",44),("NoSize",56),("NoOut",68),("NoHand",80),("NoMoment",92),("NoFlight",104),("NoBelt",116),("NoRoom",128),("NoBag",140)]
abbrev cHall:aj:=454
noncomputable abbrev atrs:List (aj×Str):=[(cHall,"built"),(cHall,"told_rounds"),(cHall,"now"),(cHall,"book"),(cHall,"halts"),(cHall,"places"),(cHall,"readings"),(cHall,"rounded"),(cHall,"gone"),(cHall,"carted")]
noncomputable abbrev fnT(j:Nat):=[("is_name",15),("right_house",17),("check_carts",18),("check_belts",19),("take_name",20),("check_outs",21),("check_hand",22),("belt_names",23),("reached",24),("belt_of",25),("far",27),("begins",28),("arm",29),("wanted",31),("busy_belts",32),("off_belt",33),("turn",34),("stand_stopped",35),("stand_yielding",36),("stand_behind",37),("copied",40),("check_closing",41),("_law_cell",43),("_law_digit",44),("_law_pick",45),("_law_other",46),("_law_third",47),("_law_name",48),("_law_outs",49),("_law_house",50),("_law_flight_name",51),("_law_bag_name",52),("_law_closing",53),("_law_deeds",54),("_law_call",55),("_law_done",56),("_law_told_state",57),("_law_fars",58),("_law_cart_of",59),("_law_rows",60),("_law_bags",61),("_law_same",62),("_law_belt",63),("_law_best_out",64),("_law_want",65),("_law_held_by",66),("_law_bag_at",67),("_law_why",68),("_law_turned",69),("_law_turn_holds",70),("law",71)].getD j ("is_name",15)
abbrev mHall(j:Nat):=[("__init__",0),("flight",1),("change",2),("call_off",3),("put",4),("read",5),("stop",6),("start",7),("check_flight",8),("check_belt",9),("check_inside",10),("house",11),("rounds",12),("moment",13),("flights",14),("stopped",15),("bags",16),("out",17),("cart_of",20),("catches",21),("in_order",22),("move",23),("move_on",24),("move_out",25)].getD j ("__init__",0)
noncomputable abbrev bnT(j:Nat):=["len","isinstance","int","bool","str","list","tuple","range","enumerate","reversed","all","sorted","dict","min"].getD j "len"
structure Txt (K:aP) (mg:Str->ai ak):Prop where
 F:∀j,Df K mg (fnT j).1 (top (fnT j).2)
 G:∀j,Mf K cHall (mHall j).1 ("Hall."++(mHall j).1) (NH (top 39) (mHall j).2)
 C_Hall:Cls K cHall
 Mk_Hall:Mk K cHall (fA K (some cHall) "__init__")
 mg_Hall:mg "Hall"=some (.ref cHall)
 atr:jU K atrs
 er:oZ K mg errTab 31
 B:∀j,mg (bnT j)=none
 c_LETTERS:∃t,mg "LETTERS"=some (.str "abcdefghijklmnopqrstuvwxyz" t)
 c_MOST_LETTERS:∃t,mg "MOST_LETTERS"=some (.int 8 t)
abbrev OD(j:Nat):=DL Txt none (fnT j).1 (top (fnT j).2)
abbrev OM(j:Nat):=DL Txt (some cHall) (mHall j).1 (NH (top 39) (mHall j).2)
def D_(n1:Nat):GE:=bH jg 0 (gC (.str "abcdefghijklmnopqrstuvwxyz"))
def nz:=aV 1 1 λq=>k7 (cA (dQ (cM (gO (o2 cC) (bL 0 (gC (.ty "str")))))) (az (gC (.bl false))))
 (cA (dQ (gB (IE J_ J_ (gI 1) (gO (o1 eY) (bj 0)) (gC (.int 8))))) (az (gC (.bl false))))
 (az (gO (o1 (Ff KL)) (bj (cx q (bo false dW 0) 0 (λ_=>iw true) D_ 1 []))))
def d9p:OD 0 1 1 nz:=cB
def LY(n1:Nat):GE:=gX 0 (gI 0)
def rJ:=aV 1 1 λq=>cK (az (cx q (bo false dW 0) 0 (λ_=>iw true) LY 1 []))
def c8f:OD 7 1 1 rJ:=cB
def yT(n1:Nat):GS:=cK (cA (gQ fy (gX 2 (gI 0)) 1) (az (aW true (je (gX 2 (gI 0)) (gX 2 (gI 1)) (gX 2 (gI 2)) (gO (o1 ko) (bj (gX 2 (gI 3))))))))
def v3:=aV 2 3 λq=>gG (bf q (bo true dW (gX 0 (gI 0))) 2 yT)
 (az (gC .aI))
def d9q:OD 9 1 2 v3:=cB
def Hm(J:Nat):GT:=gQ jg 0 1
def Ho(J:Nat):GE:=gX 1 0
def yZ(n1:Nat):GS:=gG (aq 7 false (cx n1 (bo false dW 6) 0 Hm Ho 1 [2]))
 (cA (cM 7) (bR n1 (bH bu 4 (gO (o1 (mj e_)) (bj 7))) 2 3))
def A5:=aV 2 8 λq=>k7 (aq 2 true (my (wa [(1,(gI 0))])))
 (bf q (bo true yj (gX 0 (gI 0))) (bc [3,4,5,6]) yZ)
 (az 2)
def e3g:OD 11 1 2 A5:=cB
def yL(n1:Nat):GS:=gG (aq 8 false (gX 1 4))
 (eP (gQ jg (gX 6 (gI 0)) 2) (cK (bR n1 (aW true (bL (gC (.str "stopped")) (gX 6 (gI 0)))) 3 4)) (cK (cA (cI (cM (gO (o2 cC) (bL 8 (gC (.ty "tuple"))))) (gQ jg (gX 8 (gI 0)) 2)) (bR n1 (aW true (bL (gC (.str "stopped")) (gX 8 (gI 0)))) 3 4))))
def DT:=aV 4 9 λq=>cK (bf q (bo true dW 0) (bc [4,5,6,7]) yL)
def b9s:OD 17 1 4 DT:=cB
def G4(n1:Nat):GT:=cI (gQ g8 (gX 0 (gI 0)) 1) (cM (gO (o2 cC) (bL (gX 2 (gX 0 (gI 0))) (gC (.ty "tuple")))))
noncomputable def G5(n1:Nat):GE:=0
def AG(n1:Nat):GS:=gG (aq 9 false (gX 1 5))
 (cA (iW (gQ g8 9 4) (gQ fy (gX 7 (gI 0)) (gX 9 (gI 0)))) (bR n1 5 4 9))
def AH(n1:Nat):GS:=gG (aq 10 false (gX 4 (gX 1 5)))
 (cA (gQ (o2 z6) 10 5) (bR n1 (aW true (bL (gC (.str "yields")) 10)) 2 5))
def DQ:=aV 3 11 λq=>m7 (aq 3 false (cx q (bo false dW 0) 0 G4 G5 1 [2,1]))
 (aq 4 true mW)
 (bf q (bo true dW 3) (bc [5,6,7,8]) AG)
 (bf q (bo true dW 3) (bc [5,6,7,8]) AH)
def b9f:OD 18 1 3 DQ:=cB
def AI(n1:Nat):GS:=cK (bR n1 4 3 6)
def vU(n1:Nat):GS:=gG (aq 9 false (Bu "dict" (o2 mC) 3 (bj (gX 1 4))))
 (eP (cI (gQ g8 4 2) (gQ jg 9 2)) (gG (bR n1 (aW true (bL (gC (.str "behind")) 9)) 2 4) (aq 8 false (gC (.bl true)))) iU)
def DR(q:Nat):GS:=gG (aq 8 false (gC (.bl false)))
 (bf q (bo true dW 1) 4 vU)
def DW:=aV 3 10 λq=>m7 (aq 3 true mW)
 (bf q (bo true dW 0) (bc [4,5,6,7]) AI)
 (aq 8 false (gC (.bl true)))
 (a_ (cM 8) (DR q) 1000)
def c3m:OD 19 1 3 DW:=cB
def AJ:=aV 1 1 λq=>cK (cA (gQ oJ 0 (gI 0)) (mU 92 (gC (.str "a flight closes at a moment from 0 on"))))
def b9t:OD 21 1 1 AJ:=cB
def oh:=aV 2 2 λq=>gG (cA (gQ oJ 1 (gO (o1 eY) (bj 0))) (az (gX 0 1)))
 (az (gI 0))
def e3h:OD 22 1 2 oh:=cB
def Ef(J:Nat):GT:=cI (gQ jg 0 1) (gQ ku (gX 1 0) (gC .aI))
def Eg(J:Nat):GE:=gX 1 0
def AV(n1:Nat):GS:=m7 (aq 4 false (gX (gX 0 (gI 0)) (bH lA (bH lA (gO (o1 eY) (bj (gX 0 (gI 0)))) (gI 1)) 3)))
 (aq 5 true (cx n1 (bo false dW (gX 4 (gI 3))) 0 Ef Eg 1 [2]))
 (cA (gQ jg 1 (gX 4 (gI 3))) (cX (dD n1 "list" mV 5 (bj (gI 0)))))
 (bR n1 (rV (gQ QG (gO (o1 eY) (bj 5)) (gI 0)) (bH bu (gX 4 (gI 1)) (gO (o1 (mj e_)) (bj 5))) (gC .aI)) 2 (gX 4 (gI 0)))
def zf:=aV 2 6 λq=>k7 (aq 2 true mW)
 (bf q (iR kN (bj (gO (o1 eY) (bj (gX 0 (gI 0)))))) 3 AV)
 (az 2)
def e3i:OD 37 1 2 zf:=cB
def AW(J:Nat):GS:=cK (cA (gQ fy (gX (gX (gX 1 (gC (.str "inside"))) 5) (gI 1)) (aW true (bL (gX 3 (gI 0)) 4))) (cX (dD J "list" mV 2 (bj 5))))
def AX(J:Nat):GS:=cK (bf J (bo true dW (gX 1 (gC (.str "inside")))) 5 AW)
def Eh(n1:Nat):GS:=cK (bf n1 (iR kN (bj (gX 3 (gI 1)))) 4 AX)
def v8:=aV 2 6 λq=>k7 (aq 2 true (aW false gN))
 (bf q (bo true dW (gX 0 (gI 0))) 3 Eh)
 (az 2)
def e3j:OD 39 1 2 v8:=cB
def Hq(n1:Nat):GT:=gQ fy (gX 0 (gI 0)) 1
noncomputable def Hr(n1:Nat):GE:=0
def A6:=aV 2 2 λq=>cK (az (gX (cx q (bo false dW (gX 0 (gI 0))) 0 Hq Hr 1 [1]) (gI 0)))
def e3k:OD 42 1 2 A6:=cB
def yQ(n1:Nat):GS:=cK (cA (gQ fy (gX (gX (gX 0 (gC (.str "inside"))) 2) (gI 1)) 1) (az 2))
def p7:=aV 2 3 λq=>gG (bf q (bo true dW (gX 0 (gC (.str "inside")))) 2 yQ)
 (az (gC .aI))
def d6d:OD 46 1 2 p7:=cB
def Ei:=aV 1 1 λq=>cK (az (bB atrs "told_rounds" 0))
def d6e:OM 12 1 1 Ei:=cB
def y0:=aV 1 1 λq=>cK (az (bB atrs "now" 0))
def d6f:OM 13 1 1 y0:=cB
noncomputable def eO (n1:Nat):GE:=gX (bB atrs "book" 1) 0
noncomputable def eE:=aV 1 1 λq=>cK (az (cx q (bo false dW (gO (o1 oQ) (bj (bB atrs "book" 0)))) 0 (λ_=>iw true) eO 1 [0]))
def d1q:OM 14 1 1 eE:=cB
def zv:=aV 1 1 λq=>cK (az (gO (o1 ko) (bj (bB atrs "gone" 0))))
def e7e:OM 17 1 1 zv:=cB
def AM:=aV 3 3 λq=>mD (cX (dD q "dict" iY (bB atrs "places" 0) (bj 1)))
 (cX (dD q "dict" iY (bB atrs "readings" 0) (bj 1)))
 (cX (dD q "dict" iY (bB atrs "rounded" 0) (bj 1)))
 (bR q 2 (bB atrs "carted" 0) 1)
 (cX (dD q "list" mV (bB atrs "gone" 0) (bj (aW true (dF 1 2 (bB atrs "now" 0))))))
def c8g:OM 23 1 3 AM:=cB
def yU:=aV 2 2 λq=>gG (cA (iW (dQ (cM (aw (nz q) (bj 0)))) (gQ jg 0 1)) (mU 44 (gC (.str "a belt or a cart has no name, or one that is taken"))))
 (bR q (gC (.bl true)) 1 0)
def d1r:OD 4 2 2 yU:=cB
def AK(J:Nat):GS:=gG (cA (gQ g8 7 6) (mU 68 (wb (lZ (gC (.str "belt ")) (lZ (gO (o1 lD) (bj 4)) (lZ (gC (.str " has an out that is no cart, no belt behind it, or there twice")) kg))))))
 (cX (dD J "list" EY 6 (bj 7)))
def DX(n1:Nat):GS:=mD (aq 4 false (gX 3 (gI 0)))
 (aq 5 false (rV (cM (gO (o2 cC) (bL (gX 3 (gI 3)) (gC (.ty "list"))))) (gX 3 (gI 3)) (aW false gN)))
 (aq 6 true (bH bu (aw (rJ n1) (bj (wm 0 (zF (bH bu 2 (gI 1))) zE))) 1))
 (bf n1 (bo true dW 5) 7 AK)
 (cA (dQ (cM 5)) (mU 68 (wb (lZ (gC (.str "belt ")) (lZ (gO (o1 lD) (bj 4)) (lZ (gC (.str " has no outs")) kg))))))
def D5:=aV 2 8 λq=>cK (bf q (bo true Jj 0) (bc [2,3]) DX)
def c8h:OD 5 2 2 D5:=cB
def AS(J:Nat):GS:=cK (bR J (gC (.bl true)) 2 7)
def yV(n1:Nat):GS:=cK (cA (iW (gQ fy 3 1) (gQ jg 3 2)) (bf n1 (bo true dW 6) 7 AS))
def Hf(n1:Nat):GT:=gQ jg 0 1
noncomputable def Hg(n1:Nat):GE:=0
def Et:=aV 2 8 λq=>k7 (aq 2 true mW)
 (bf q (bo true dW (gX 0 (gI 0))) (bc [3,4,5,6]) yV)
 (az (cx q (bo false dW (bH bu (aw (rJ q) (bj (gX 0 (gI 0)))) (gX 0 (gI 1)))) 0 Hf Hg 1 [2]))
def d9r:OD 8 2 2 Et:=cB (N:=["house","belt","found","name","long","ring","outs","out"])
def Ft:=aV 3 4 λq=>k7 (aq 3 false (aw (A5 q) (bL 0 2)))
 (cA (gQ g8 (gX 1 (gI 0)) 3) (az (gC .aI)))
 (az (bH lA (gX 3 (gX 1 (gI 0))) (gX 1 (gI 1))))
def e8t:OD 10 2 3 Ft:=cB
def Bm(n1:Nat):GS:=cK (cA (cI (gQ jg 5 3) (iW (gQ tR 4 (gC .aI)) (gQ oJ (gX 3 5) (gX 3 4)))) (aq 4 false 5))
def Fu:=aV 3 6 λq=>m7 (aq 3 false (aw (A5 q) (bL 0 2)))
 (aq 4 false (gC .aI))
 (bf q (bo true dW (gX (aw (v3 q) (bL 0 1)) (gI 3))) 5 Bm)
 (az 4)
def e8u:OD 12 2 3 Fu:=cB
def Hs(n1:Nat):GE:=aw (v3 n1) (bL 1 0)
def A7:=aV 1 2 λq=>gG (aq 1 false (cx q (bo false dW (aw (rJ q) (bj (gX 0 (gI 0))))) 0 (λ_=>iw true) Hs 1 [0]))
 (az (aW true (bL 1 (gO (o1 ko) (bj (gX 0 (gI 1)))))))
def e3l:OD 20 2 1 A7:=cB
def iF:=aV 4 6 λq=>m7 (aq 4 false (aw (oh q) (bL 0 1)))
 (cA (gQ fy (bH ip (aw (oh q) (bL 0 (gI 0))) (gI 2)) (gI 1)) (az (bH ip (bH ip (bH qe 4 (gX (aW false (mh (gI 2) (je (gI 128) (gI 8192) (gI 524288) (gI 33554432)))) 2)) (gI 64)) 3)))
 (aq 5 false (bH ip (bH jA (bH bu (bH bu (bH bu (bH ip 4 (gI 1000003)) (bH jA 1 1)) (bH jA (gI 1009) 2)) (gI 7)) (gI 48271)) (gI 999983)))
 (az (bH ip (bH ip (bH jA (bH bu (bH bu 5 (bH jA (gI 5) 1)) 2) (bH bu (gI 69621) (bH jA (gI 2) 2))) (gI 1000033)) 3))
def d9s:OD 23 2 4 iF:=cB
def vY:=aV 3 6 λq=>k7 (aq 3 false (gX (gX 1 (gC (.str "inside"))) 2))
 (eP (gQ ku (gX 3 (gI 0)) (gC .aI)) (k7 (aq 4 false (gX (gX 1 (gC (.str "flights"))) (gX 3 (gI 0)))) (aq 5 false (gX (aw (zf q) (bL 0 (gX 4 (gI 0)))) (gX (gX 3 (gI 1)) (gI 0)))) (cA (cI (gQ ku 5 (gC .aI)) (gQ QH (bH lA (bH bu (gX 1 (gC (.str "now"))) 5) (gX (gX 3 (gI 1)) (gI 1))) (gX 4 (gI 1)))) (az (gX 4 (gI 0))))) iU)
 (az (gX (gX 0 (gI 1)) (gI 0)))
def d1s:OD 38 2 3 vY:=cB
def Ej(n1:Nat):GS:=gG (aq 4 false (gX (gX 1 (gC (.str "inside"))) 3))
 (cX (dD n1 "list" mV 2 (bj (aW true (je 3 (gX 4 (gI 0)) (gX 4 (gI 1)) (gX 4 (gI 2)))))))
def A8:=aV 2 5 λq=>k7 (aq 2 true (aW false gN))
 (bf q (bo true dW (aw (v8 q) (bL 0 1))) 3 Ej)
 (az 2)
def e3m:OD 40 2 2 A8:=cB
def yO(n1:Nat):GS:=gG (aq 6 false (rV (gQ fy 5 2) (gI 0) (Bu "dict" (o2 mC) 3 (bj 5))))
 (cA (cI (gQ ku 6 (gC .aI)) (iW (gQ tR 4 (gC .aI)) (gQ oJ 6 (gX 4 (gI 0))))) (aq 4 false (aW true (bL 6 5))))
def AN:=aV 3 7 λq=>m7 (aq 3 false (aw (zf q) (bL 0 2)))
 (aq 4 false (gC .aI))
 (bf q (bo true dW (gX 1 (gI 3))) 5 yO)
 (az (gX 4 (gI 1)))
def c8k:OD 43 2 3 AN:=cB
def rF(n1:Nat):GS:=gG (aq 7 false (gX (gX (gX 1 (gC (.str "inside"))) 6) (gI 1)))
 (eP (cI (gQ fy (gX 2 6) (gX 2 3)) (gQ g8 (gX 7 (gI 0)) (gX 1 (gC (.str "still"))))) (gG (cX (dD n1 "list" mV 5 (bj 6))) (cA (gQ fy (gX 7 (gI 0)) (gX (gX 2 3) (gI 0))) (aq 5 true (bH bu (aW false (bj 6)) 5)))) iU)
def mT:=aV 4 8 λq=>dr (aq 4 false (gX (gX (gX 1 (gC (.str "inside"))) 3) (gI 1)))
 (dr (cA (gQ jg (gX 4 (gI 0)) (gX 1 (gC (.str "still")))) (az (aW true (bL (gC (.str "stopped")) (gX 4 (gI 0)))))) (dr (cA (gQ jg (gX 2 3) (gX 0 (gI 1))) (az (gC .aI))) (mD (cA (gQ jg (gX (gX 2 3) (gI 0)) (gX 1 (gC (.str "still")))) (az (aW true (bL (gC (.str "stopped")) (gX (gX 2 3) (gI 0)))))) (aq 5 true (aW false gN)) (bf q (bo true dW (aw (v8 q) (bL 0 1))) 6 rF) (cA (gQ (o2 z6) (gX 5 (gI 0)) 3) (az (aW true (bL (gC (.str "yields")) (gX 5 (gI 0)))))) (az (gC .aI)))))
def d1t:OD 45 2 4 mT:=cB
def Ek:=aV 4 4 λq=>m7 (cA (iW (dQ (cM (aw (nz q) (bj 1)))) (gQ jg 1 (bB atrs "book" 0))) (mU 44 (gC (.str "a flight has no name, or one that another flight has"))))
 (cA (gQ g8 2 (wm (gX (bB atrs "built" 0) (gI 1)) (zF (gI 1)) zE)) (mU 68 (gC (.str "a flight's cart is none of the house, or the hand"))))
 (cX (aw (AJ q) (bj 3)))
 (bR q (aW true (dF 1 2 3)) (bB atrs "book" 0) 1)
def d6g:OM 1 2 4 Ek:=cB
def vV:=aV 2 2 λq=>cK (cA (iW (dQ (cM (aw (nz q) (bj 1)))) (gQ g8 1 (bB atrs "book" 0))) (mU 104 (gC (.str "no flight is called so"))))
def b9g:OM 8 2 2 vV:=cB
def yP:=aV 2 2 λq=>cK (cA (gQ g8 1 (aw (rJ q) (bj (gX (bB atrs "built" 0) (gI 0))))) (mU 116 (gC (.str "no belt is called so"))))
def c3n:OM 9 2 2 yP:=cB
def vW:=aV 2 2 λq=>cK (cA (iW (dQ (cM (aw (nz q) (bj 1)))) (gQ g8 1 (bB atrs "places" 0))) (mU 140 (gC (.str "no bag in the house is called so"))))
def b9h:OM 10 2 2 vW:=cB
def Ha(n1:Nat):GT:=gQ jg 0 (bB atrs "halts" 1)
def Hb(n1:Nat):GE:=0
def yW:=aV 1 1 λq=>cK (az (cx q (bo false dW (aw (rJ q) (bj (gX (bB atrs "built" 0) (gI 0))))) 0 Ha Hb 1 [0]))
def d1u:OM 15 2 1 yW:=cB
def G6(n1:Nat):GE:=aW true (dF (Bu "list" (o2 jo) 2 (bj (gX 1 (gI 0)))) (gX 1 (gI 1)) 0)
def G7(n1:Nat):GE:=gX 0 (gI 2)
def AO:=aV 1 3 λq=>k7 (aq 1 false (aw (rJ q) (bj (gX (bB atrs "built" 0) (gI 0)))))
 (aq 2 false (cx q (bo false tD (bB atrs "places" 0)) (bc [0,1]) (λ_=>iw true) G6 2 [1]))
 (az (cx q (bo false dW (gO (o1 oP) (bj 2))) 0 (λ_=>iw true) G7 1 []))
def c8l:OM 20 2 1 AO:=cB
def uo:=aV 3 5 λq=>m7 (aq 3 false (gX (bB atrs "places" 0) 1))
 (aq 4 false (aw (v3 q) (bL (bB atrs "built" 0) (gX 3 (gI 0)))))
 (cA (cI (cM (gX 4 (gI 2))) (cI (gQ fy 3 (aW true (bL (gX 4 (gI 0)) (bH lA (gX 4 (gI 1)) (gI 1))))) (gQ fy 2 (aW true (bL (gX 4 (gI 0)) (gI 0)))))) (ID q Cs (bB atrs "rounded" 0) 1 (gI 1)))
 (bR q 2 (bB atrs "places" 0) 1)
def d1v:OM 22 2 3 uo:=cB
def DU(n1:Nat):GS:=cK (cX (aw (yU n1) (bL 2 1)))
def DY:=aV 2 3 λq=>gG (bf q (bo true dW 0) 2 DU)
 (cA (dQ (cM 0)) (mU 80 (gC (.str "a house has a cart at least, the hand"))))
def c5t:OD 2 3 2 DY:=cB
def DV(n1:Nat):GS:=k7 (cX (aw (yU n1) (bL 2 1)))
 (aq 6 false (rV (cM 4) (gI 2) (gI 1)))
 (cA (gQ oJ 3 6) (mU 56 (wb (lZ (gC (.str "belt ")) (lZ (gO (o1 lD) (bj 2)) (lZ (gC (.str " has fewer than ")) (lZ (gO (o1 lD) (bj 6)) (lZ (gC (.str " cells")) kg))))))))
def DZ:=aV 2 7 λq=>cK (bf q (bo true dW 0) (bc [2,3,4,5]) DV)
def c5u:OD 3 3 2 DZ:=cB
def G8(n1:Nat):GS:=cK (cA (gQ g8 1 (aw (Et n1) (bL 0 2))) (mU 80 (wb (lZ (gC (.str "the hand can not be come to from belt ")) (lZ (gO (o1 lD) (bj 2)) kg)))))
def D6:=aV 1 3 λq=>gG (aq 1 false (gX (gX 0 (gI 1)) (gI 0)))
 (bf q (bo true dW (aw (rJ q) (bj (gX 0 (gI 0))))) 2 G8)
def c8m:OD 6 3 1 D6:=cB
def pK:=aV 4 5 λq=>m7 (aq 4 false (aw (Fu q) (dF 0 (gX 1 (gI 0)) 2)))
 (cA (gQ jg 4 (gX 0 (gI 1))) (az 4))
 (cA (cI (cM (gX 1 (gI 2))) (gQ jg 4 3)) (az (aW true (bL (gX 1 (gI 0)) (gI 0)))))
 (az (aW true (bL 4 (gI 0))))
def d6h:OD 15 3 4 pK:=cB
def kG:=aV 3 3 λq=>cK (az (aw (iF q) (je 0 1 (gI 0) 2)))
def e3n:OD 24 3 3 kG:=cB
def jL:=aV 3 3 λq=>cK (az (aw (iF q) (je 0 1 (gI 1) 2)))
def d9t:OD 25 3 3 jL:=cB
def l_:=aV 3 3 λq=>cK (az (aw (iF q) (je 0 1 (gI 2) 2)))
def d9u:OD 26 3 3 l_:=cB
def El(n1:Nat):GE:=gX 0 (gI 1)
def EB(q:Nat):GS:=m7 (cA (gQ jg 6 (gX 0 (gI 1))) (az 6))
 (aq 7 false (cx q (bo false Gg (gX 1 (gC (.str "inside")))) 0 (λ_=>iw true) El 1 []))
 (cA (cI (cM (gX 5 (gI 2))) (iW (gQ jg 6 (gX 1 (gC (.str "still")))) (gQ jg (aW true (bL 6 (gI 0))) 7))) (az (aW true (bL (gX 5 (gI 0)) (gI 0)))))
 (az (aW true (bL 6 (gI 0))))
def zg(J:GS)(q:Nat):GS:=dr (aq 4 false (gX (gX 1 (gC (.str "inside"))) 3)) (dr (aq 5 false (aw (A6 q) (bL 0 (gX (gX 4 (gI 1)) (gI 0))))) (dr (cA (gQ oJ (bH bu (gX (gX 4 (gI 1)) (gI 1)) (gI 1)) (gX 5 (gI 1))) (az (aW true (bL (gX 5 (gI 0)) (bH bu (gX (gX 4 (gI 1)) (gI 1)) (gI 1)))))) (dr (aq 6 false (aw (AN q) (dF 0 5 (aw (vY q) (dF 0 1 3))))) (dr (cA (cI (cM (gX 5 (gI 2))) (cI (gQ tR (gX 4 (gI 0)) (gC .aI)) (gQ oJ (gX 4 (gI 2)) 2))) (az (aW true (bL (gX 5 (gI 0)) (gI 0))))) J))))
def A9(q:Nat):GS:=zg (EB q) q
def qb:=aV 4 8 A9
def e3o:OD 44 3 4 qb:=cB
def o8(q:Nat):GS:=k7 (cA (gQ ku (aw (mT q) (je 0 1 2 6)) (gC .aI)) (az (aW true (bL (gC (.str "behind")) (aw (p7 q) (bL 1 (gX 2 3)))))))
 (cX (dD q "list" mV 5 (bj 6)))
 (aq 6 false (aw (p7 q) (bL 1 (gX 2 6))))
def uv:=aV 4 7 λq=>dr (aq 4 false (aw (mT q) (je 0 1 2 3)))
 (mD (cA (gQ ku 4 (gC .aI)) (az 4)) (aq 5 true (aW false (bj 3))) (aq 6 false (aw (p7 q) (bL 1 (gX 2 3)))) (a_ (cI (gQ ku 6 (gC .aI)) (gQ g8 6 5)) (o8 q) 1000) (az (gC .aI)))
def e7f:OD 47 3 4 uv:=cB
def Em:=aV 3 3 λq=>k7 (cX (aZ cHall "check_flight" (vV q) 0 (bj 1)))
 (cX (aw (AJ q) (bj 2)))
 (bR q (aW true (dF 1 (gX (gX (bB atrs "book" 0) 1) (gI 1)) 2)) (bB atrs "book" 0) 1)
def d6i:OM 2 3 3 Em:=cB
def AL(n1:Nat):GS:=cK (cA (gQ fy (gX (bB atrs "readings" 0) 2) 1) (bR n1 (gC .aI) (bB atrs "readings" 0) 2))
def D7:=aV 2 3 λq=>k7 (cX (aZ cHall "check_flight" (vV q) 0 (bj 1)))
 (cX (dD q "dict" iY (bB atrs "book" 0) (bj 1)))
 (bf q (bo true dW (gO (o1 ko) (bj (bB atrs "readings" 0)))) 2 AL)
def c8n:OM 3 3 2 D7:=cB
def zw(q:Nat):GS:=dr (cX (aZ cHall "check_belt" (yP q) 0 (bj 3)))
 (mD (aq 4 false (aW true (bL 3 (gI 0)))) (cA (gQ jg 4 (gO (o1 oS) (bj (bB atrs "places" 0)))) (mU 128 (wb (lZ (gC (.str "cell 0 of belt ")) (lZ (gO (o1 lD) (bj 3)) (lZ (gC (.str " has a bag")) kg)))))) (bR q 4 (bB atrs "places" 0) 1) (bR q 2 (bB atrs "readings" 0) 1) (bR q (gI 0) (bB atrs "rounded" 0) 1))
def sG(J:GS)(q:Nat):GS:=dr (cA (iW (dQ (cM (aw (nz q) (bj 1)))) (iW (gQ jg 1 (bB atrs "places" 0)) (gQ jg 1 (bB atrs "carted" 0)))) (mU 44 (gC (.str "a bag has no name, or one that a bag of this hall has or had")))) (dr (cA (gQ ku 2 (gC .aI)) (cX (aZ cHall "check_flight" (vV q) 0 (bj 2)))) J)
def uw:=aV 4 5 λq=>sG (zw q) q
def e7g:OM 4 3 4 uw:=cB
def EC:=aV 3 3 λq=>k7 (cX (aZ cHall "check_inside" (vW q) 0 (bj 1)))
 (cX (aZ cHall "check_flight" (vV q) 0 (bj 2)))
 (bR q 2 (bB atrs "readings" 0) 1)
def e3p:OM 5 3 3 EC:=cB
def A_:=aV 2 2 λq=>gG (cX (aZ cHall "check_belt" (yP q) 0 (bj 1)))
 (bR q (gC (.bl true)) (bB atrs "halts" 0) 1)
def e3q:OM 6 3 2 A_:=cB
def y7:=aV 2 2 λq=>gG (cX (aZ cHall "check_belt" (yP q) 0 (bj 1)))
 (cA (gQ jg 1 (bB atrs "halts" 0)) (cX (dD q "dict" iY (bB atrs "halts" 0) (bj 1))))
def d9v:OM 7 3 2 y7:=cB
def Eu:=aV 1 1 λq=>cK (az (aw (A7 q) (bj (bB atrs "built" 0))))
def d9w:OM 11 3 1 Eu:=cB
def Ht(n1:Nat):GE:=aW true (je 0 (gX (bB atrs "readings" 1) 0) (gX (bB atrs "places" 1) 0) (gX (bB atrs "rounded" 1) 0))
def rK:=aV 1 1 λq=>cK (az (cx q (bo false dW (aZ cHall "in_order" (AO q) 0 gN)) 0 (λ_=>iw true) Ht 1 [0]))
def e3r:OM 16 3 1 rK:=cB
def Ea:=aV 2 4 λq=>m7 (cA (gQ tR (gX (bB atrs "readings" 0) 1) (gC .aI)) (az (gC (.bl false))))
 (aq 2 false (gX (bB atrs "book" 0) (gX (bB atrs "readings" 0) 1)))
 (aq 3 false (aw (Ft q) (dF (bB atrs "built" 0) (gX (bB atrs "places" 0) 1) (gX 2 (gI 1)))))
 (az (nG (bH ku 3 (gC .aI)) (bH QH (bH bu (bB atrs "now" 0) 3) (gX 2 (gI 2)))))
def d1w:OM 19 3 2 Ea:=cB
def vZ(n1:Nat):GS:=cK (eP (cM (gO (o2 cC) (bL 3 (gC (.ty "tuple"))))) (cK (cX (aZ cHall "move_on" (uo n1) 0 (bL 2 3)))) (cK (cX (aZ cHall "move_out" (AM n1) 0 (bL 2 3)))))
def ED:=aV 2 4 λq=>gG (IC q Cs atrs "now" 0 (gI 1))
 (bf q (bo true dW 1) (bc [2,3]) vZ)
def e3s:OM 21 3 2 ED:=cB
def D0:=aV 1 4 λq=>dr (aq 1 false (gX 0 (gI 0)))
 (dr (aq 2 false (gX 0 (gI 1))) (dr (aq 3 true mW) (mD (cX (aw (DY q) (bL 2 3))) (cX (aw (DZ q) (bL 1 3))) (cX (aw (D5 q) (bL 1 2))) (cX (aw (D6 q) (bj 0))) (az (gC (.bl true))))))
def c5v:OD 1 4 1 D0:=cB
def G9(n1:Nat):GT:=gQ fy (gX (gX 0 (gI 2)) (gI 1)) (gI 0)
def G_(n1:Nat):GE:=gX (gX 0 (gI 2)) (gI 0)
def D8:=aV 1 1 λq=>cK (az (bH bu (aZ cHall "stopped" (yW q) 0 gN) (cx q (bo false dW (aZ cHall "bags" (rK q) 0 gN)) 0 G9 G_ 1 [])))
def c8o:OD 14 4 1 D8:=cB
def pL:=aV 3 8 λq=>dr (aq 3 false (gC (.str "abcdefghijklmnopqrstuvwxyz")))
 (dr (aq 4 false (aw (kG q) (dF 0 1 (gI 26)))) (mD (cA (gQ fy (aw (jL q) (dF 0 1 (gI 3))) (gI 0)) (az (bH jA (gX 3 (bH ip (bH bu 4 (bH qe 2 (gI 8))) (gI 26))) (bH bu (gI 1) (bH ip 2 (gI 8)))))) (aq 5 false (bH bu (gI 1) (aw (l_ q) (dF 0 1 (gI 8))))) (aq 6 false (aw (jL q) (dF 0 1 5))) (aq 7 false (gX 3 (aw (iF q) (je 0 1 (gI 3) (gI 26))))) (az (bH bu (bH bu (bH jA 7 6) (gX 3 (bH ip (bH bu (bH jA (gI 7) 2) 4) (gI 26)))) (bH jA 7 (bH lA (bH lA 5 (gI 1)) 6))))))
def e3t:OD 27 4 3 pL:=cB
def sC(n1:Nat):GS:=gG (aq 9 false (gX 5 (aw (iF n1) (je 0 (bH bu (gI 6) 1) (bH bu (gI 1) 8) (gO (o1 eY) (bj 5))))))
 (cA (gQ g8 9 6) (cX (dD n1 "list" Bl 6 (bL (bH ip (bH ip (bH qe 7 (gX (aW false (dF (gI 1) (gI 4) (gI 16))) 8)) (gI 4)) (bH bu (gO (o1 eY) (bj 6)) (gI 1))) 9))))
def Hu(n1:Nat):GT:=gQ jg 0 1
def Hv(n1:Nat):GE:=0
def o_:=aV 4 10 λq=>dr (aq 4 false (wm 2 (zF (bH bu 1 (gI 1))) zE))
 (dr (aq 5 false (bH bu 4 3)) (mD (aq 6 true (aW false gN)) (aq 7 false (aw (l_ q) (dF 0 (bH bu (gI 1) 1) (gI 64)))) (bf q (iR kN (bj (bH bu (gI 1) (aw (kG q) (dF 0 (bH bu (gI 6) 1) (gI 3)))))) 8 sC) (cA (cI (gQ g8 (gX 3 (gI 0)) 6) (gQ fy (gO (o1 eY) (bj (cx q (bo false dW 6) 0 Hu Hv 1 [4]))) (gI 0))) (cX (dD q "list" Bl 6 (bL (aw (iF q) (je 0 (bH bu (gI 1) 1) (gI 3) (bH bu (gO (o1 eY) (bj 6)) (gI 1)))) (gX 3 (gI 0)))))) (az 6)))
def e3u:OD 28 4 4 o_:=cB (N:=["_law_script","_law_k","_law_names","_law_carts","_law_later","_law_some","_law_outs_here","_law_spots","_law_j","_law_out"])
def uq:=aV 2 3 λq=>m7 (aq 2 false (aw (kG q) (dF 0 (bH bu 1 (gI 1)) (gI 10))))
 (cA (gQ fy 2 (gI 0)) (az (bH lA (gO (o1 tK) (bj (gI 1))) (bH ip (aw (oh q) (bL 0 1)) (bH BD (gI 10) (gI 8))))))
 (cA (gQ fy 2 (gI 1)) (az (bH ip (aw (oh q) (bL 0 1)) (bH BD (gI 10) (gI 9)))))
 (az (aw (iF q) (je 0 (bH bu 1 (gI 1)) (gI 3) (gI 30))))
def d1x:OD 32 4 2 uq:=cB
def zh:=aV 2 2 λq=>cK (eP (gQ fy (gX 1 (gI 0)) (gC (.str "flight"))) (cK (cX (aZ cHall "flight" (Ek q) 0 (dF (gX 1 (gI 1)) (gX 1 (gI 2)) (gX 1 (gI 3)))))) (cK (eP (gQ fy (gX 1 (gI 0)) (gC (.str "change"))) (cK (cX (aZ cHall "change" (Em q) 0 (bL (gX 1 (gI 1)) (gX 1 (gI 2)))))) (cK (eP (gQ fy (gX 1 (gI 0)) (gC (.str "off"))) (cK (cX (aZ cHall "call_off" (D7 q) 0 (bj (gX 1 (gI 1)))))) (cK (eP (gQ fy (gX 1 (gI 0)) (gC (.str "put"))) (cK (cA (gQ oJ (gO (o1 eY) (bj (aZ cHall "bags" (rK q) 0 gN))) (gI 8)) (cX (aZ cHall "put" (uw q) 0 (dF (gX 1 (gI 1)) (gX 1 (gI 2)) (gX 1 (gI 3))))))) (cK (eP (gQ fy (gX 1 (gI 0)) (gC (.str "read"))) (cK (cX (aZ cHall "read" (EC q) 0 (bL (gX 1 (gI 1)) (gX 1 (gI 2)))))) (cK (eP (gQ fy (gX 1 (gI 0)) (gC (.str "stop"))) (cK (cX (aZ cHall "stop" (A_ q) 0 (bj (gX 1 (gI 1)))))) (cK (cA (gQ fy (gX 1 (gI 0)) (gC (.str "start"))) (cX (aZ cHall "start" (y7 q) 0 (bj (gX 1 (gI 1))))))))))))))))))
def e3v:OD 34 4 2 zh:=cB
noncomputable def bW (n1:Nat):GS:=cK (bR n1 (aW true (bL 3 4)) 1 2)
noncomputable def bX (n1:Nat):GS:=cK (bR n1 (gf (aW false (dF 7 8 9))) 5 6)
noncomputable def cG:=aV 1 10 λq=>mD (aq 1 true mW)
 (bf q (bo true dW (aZ cHall "flights" (eE q) 0 gN)) (bc [2,3,4]) bW)
 (aq 5 false (gf mW))
 (bf q (bo true dW (aZ cHall "bags" (rK q) 0 gN)) (bc [6,7,8,9]) bX)
 (az (my (wa [((gC (.str "now")),(aZ cHall "moment" (y0 q) 0 gN)),((gC (.str "flights")),1),((gC (.str "still")),(aZ cHall "stopped" (yW q) 0 gN)),((gC (.str "inside")),5),((gC (.str "gone")),(gf (aZ cHall "out" (zv q) 0 gN)))])))
def c3o:OD 36 4 1 cG:=cB
def AQ(n1:Nat):GS:=cK (bR n1 (aw (qb n1) (je 0 1 2 5)) 4 5)
def AR(n1:Nat):GS:=k7 (aq 7 false (aw (uv n1) (je 0 1 4 5)))
 (aq 8 false (gX (gX (gX 1 (gC (.str "inside"))) 5) (gI 1)))
 (cX (dD n1 "list" mV 6 (bj (aW true (je 5 8 (rV (gQ tR 7 (gC .aI)) (gX 4 5) 8) 7)))))
def sy(n1:Nat):GS:=cK (eP (gQ tR (gX 9 (gI 3)) (gC .aI)) (gG (aq 10 true (gX (gX 1 (gC (.str "inside"))) (gX 9 (gI 0)))) (eP (gQ jg (gX 9 (gI 2)) (gX 0 (gI 1))) (gG (cX (dD n1 "dict" iY (gX 1 (gC (.str "inside"))) (bj (gX 9 (gI 0))))) (cX (dD n1 "list" mV (gX 1 (gC (.str "gone"))) (bj (aW true (dF (gX 9 (gI 0)) (gX 9 (gI 2)) (gX 1 (gC (.str "now"))))))))) (gG (bR n1 (bH bu (gX 10 (gI 2)) (gO (o1 oA) (bj (nG (bH fy (gX (gX 10 (gI 1)) (gI 0)) (gX (gX 9 (gI 2)) (gI 0))) (bH fy (gX (gX 9 (gI 2)) (gI 1)) (gI 0)))))) 10 (gI 2)) (bR n1 (gX 9 (gI 2)) 10 (gI 1))))) iU)
def AY:=aV 3 11 λq=>dr (aq 3 false (aw (v8 q) (bL 0 1)))
 (dr (aq 4 true mW) (dr (bf q (bo true dW 3) 5 AQ) (mD (aq 6 true (aW false gN)) (bf q (bo true dW 3) 5 AR) (bR q (bH bu (gX 1 (gC (.str "now"))) (gI 1)) 1 (gC (.str "now"))) (bf q (bo true dW 6) 9 sy) (az 6))))
def d6j:OD 48 4 3 AY:=cB
def Eb:=aV 2 2 λq=>k7 (cX (aZ cHall "check_inside" (vW q) 0 (bj 1)))
 (cA (cM (aZ cHall "catches" (Ea q) 0 (bj 1))) (az (gX (gX (bB atrs "book" 0) (gX (bB atrs "readings" 0) 1)) (gI 1))))
 (az (gX (gX (bB atrs "built" 0) (gI 1)) (gI 0)))
def d1y:OM 18 4 2 Eb:=cB
def sE(n1:Nat):GS:=k7 (aq 8 false (aw (v3 n1) (bL 1 (gX 6 (gI 0)))))
 (eP (gQ oJ (bH bu (gX 6 (gI 1)) (gI 1)) (gX 8 (gI 1))) (cK (aq 9 false (aW true (bL (gX 6 (gI 0)) (bH bu (gX 6 (gI 1)) (gI 1)))))) (cK (eP (cI (cM (gX 8 (gI 2))) (cI (gQ tR 5 (gC .aI)) (gQ oJ 7 (aZ cHall "rounds" (Ei n1) 0 gN)))) (cK (aq 9 false (aW true (bL (gX 6 (gI 0)) (gI 0))))) (cK (aq 9 false (aw (pK n1) (je 1 8 (aZ cHall "cart_of" (Eb n1) 0 (bj 4)) 2)))))))
 (cX (dD n1 "list" mV 3 (bj (aW true (bL 4 9)))))
def EE:=aV 1 10 λq=>mD (aq 1 false (aZ cHall "house" (Eu q) 0 gN))
 (aq 2 false (aw (D8 q) (bj 0)))
 (aq 3 true (aW false gN))
 (bf q (bo true dW (aZ cHall "bags" (rK q) 0 gN)) (bc [4,5,6,7]) sE)
 (az 3)
def e3w:OD 13 5 1 EE:=cB
def Ec(n1:Nat):GE:=aw (pL n1) (dF 1 (gI 11) 0)
def Ed(n1:Nat):GE:=aw (pL n1) (dF 1 (gI 11) (bH bu (gI 10) 0))
def og(n1:Nat):GS:=mD (aq 5 false (bH fy (aw (kG n1) (dF 0 (bH bu (gI 1) 4) (gI 3))) (gI 0)))
 (aq 6 false (bH bu (gI 1) (aw (jL n1) (dF 0 (bH bu (gI 1) 4) (gI 5)))))
 (cA (cI (gQ fy 4 (gI 0)) (cI (gQ oJ (gO (o1 eY) (bj 1)) (gI 3)) (gQ fy (aw (l_ n1) (dF 0 (gI 0) (gI 3))) (gI 1)))) (aq 6 false (bH bu (gI 10) (aw (iF n1) (je 0 (gI 0) (gI 3) (gI 14))))))
 (cA (cM 5) (aq 6 false (bH bu 6 (gI 1))))
 (cX (dD n1 "list" mV 3 (bj (aW true (je (gX 1 4) 6 5 (aw (o_ n1) (je 0 4 1 2)))))))
def y8:=aV 1 7 λq=>mD (aq 1 false (cx q (iR kN (bj (bH bu (gI 1) (aw (kG q) (dF 0 (gI 0) (gI 5)))))) 0 (λ_=>iw true) Ec 1 [0]))
 (aq 2 false (cx q (iR kN (bj (bH bu (gI 1) (aw (jL q) (dF 0 (gI 0) (gI 4)))))) 0 (λ_=>iw true) Ed 1 [0]))
 (aq 3 true (aW false gN))
 (bf q (iR kN (bj (gO (o1 eY) (bj 1)))) 4 og)
 (az (aW true (bL 3 2)))
def d9x:OD 29 5 1 y8:=cB (N:=["_law_script","_law_names","_law_carts","_law_belts","_law_k","_law_ring","_law_long"])
def yM:=aV 2 2 λq=>gG (cA (gQ fy 1 (gI 6)) (az (gC (.str "A"))))
 (az (aw (pL q) (dF 0 (gX (aW false (dF (gI 11) (gI 12) (gI 13))) (aw (iF q) (je 0 (gI 12) (gI 4) (gI 3)))) 1)))
def b9u:OD 30 5 2 yM:=cB
def yR:=aV 2 2 λq=>gG (cA (gQ fy 1 (gI 12)) (az (gC (.str "b1"))))
 (az (aw (pL q) (dF 0 (gX (aW false (dF (gI 11) (gI 12) (gI 13))) (aw (iF q) (je 0 (gI 13) (gI 4) (gI 3)))) 1)))
def c8p:OD 31 5 2 yR:=cB
def A':=aV 2 3 λq=>k7 (aq 2 false (gC (.bl true)))
 (qx (cK (cX (aw (zh q) (bL 0 1)))) [((wT errTab),(cK (aq 2 false (gC (.bl false)))))])
 (az 2)
def e3x:OD 35 5 2 A':=cB
def Ba:=aV 3 3 λq=>dr (cX (aw (D0 q) (bj 1)))
 (dr (fL q atrs "built" (aw (A7 q) (bj 1)) 0) (dr (fL q atrs "told_rounds" 2 0) (dr (fL q atrs "now" (gI 0) 0) (dr (fL q atrs "book" (gf mW) 0) (dr (fL q atrs "halts" (gf mW) 0) (mD (fL q atrs "places" (gf mW) 0) (fL q atrs "readings" (gf mW) 0) (fL q atrs "rounded" (gf mW) 0) (fL q atrs "gone" (gf (aW false gN)) 0) (fL q atrs "carted" (gf mW) 0)))))))
def e3y:OM 0 5 3 Ba:=cB
def Bb(n1:Nat):GS:=cK (eP (gQ jg 6 3) (cK (cX (dD n1 "list" mV 4 (bj (aW true (je 6 8 8 (gX 3 6))))))) (gG (cX (dD n1 "list" mV 4 (bj (aW true (je 6 8 (gX 2 6) (gC .aI)))))) (cX (dD n1 "list" mV 5 (bj (aW true (bL 6 (gX 2 6))))))))
def Bv:=aV 1 10 λq=>dr (aq 1 false (aZ cHall "bags" (rK q) 0 gN))
 (dr (aq 2 false (gO (o1 oo) (bj (aw (EE q) (bj 0))))) (dr (aq 3 true mW) (dr (cX (aw (DT q) (je 1 2 (aZ cHall "stopped" (yW q) 0 gN) 3))) (dr (cX (aw (DQ q) (dF 1 2 3))) (dr (cX (aw (DW q) (dF 1 2 3))) (mD (aq 4 true (aW false gN)) (aq 5 true (aW false gN)) (bf q (bo true dW 1) (bc [6,7,8,9]) Bb) (cX (aZ cHall "move" (ED q) 0 (bj 5))) (az 4)))))))
def e8b:OD 16 6 1 Bv:=cB
def Ee(n1:Nat):GE:=gX 0 (gI 0)
def p_(q:Nat):GS:=dr (cA (gQ oJ 3 (gI 3)) (az (aW false (bj 10))))
 (dr (cA (gQ fy 3 (gI 3)) (az (aW false (bj (aW true (dF (gC (.str "change")) 5 (aw (uq q) (bL 0 1)))))))) (dr (cA (gQ fy 3 (gI 4)) (az (aW false (bj (aW true (bL (gC (.str "off")) 5)))))) (mD (cA (gQ fy 3 (gI 5)) (az (aW false (bL (aW true (bL (gC (.str "off")) 5)) 10)))) (eP (gQ oJ 3 (gI 11)) (gG (cA (gQ fy (aw (jL q) (dF 0 (bH bu 1 (gI 1)) (gI 3))) (gI 0)) (az (aW false (bj (aW true (je (gC (.str "put")) 6 (gC .aI) 8)))))) (az (aW false (bj (aW true (je (gC (.str "put")) 6 5 8)))))) iU) (cA (gQ fy 3 (gI 11)) (az (aW false (bj (aW true (dF (gC (.str "read")) 6 5)))))) (cA (gQ oJ 3 (gI 14)) (az (aW false (bj (aW true (bL (gX (aW false (bL (gC (.str "stop")) (gC (.str "start")))) (bH lA 3 (gI 12))) 8)))))) (az (aW false (bj (aW true (bL (gC (.str "turn")) (bH bu (gI 1) (aw (l_ q) (dF 0 (bH bu 1 (gI 1)) (rV (gQ QG (gX (gX (gX 2 (gI 0)) (gI 0)) (gI 1)) (gI 9)) (gI 12) (gI 4)))))))))))))
def HF(J:GS)(q:Nat):GS:=dr (aq 3 false (aw (kG q) (dF 0 1 (gI 20)))) (dr (aq 4 false (aw (l_ q) (dF 0 1 (gI 10)))) (dr (aq 5 false (aw (yM q) (bL 0 (rV (gQ fy 4 (gI 9)) (gI 6) (bH ip 4 (gI 3)))))) (dr (aq 6 false (aw (yR q) (bL 0 (aw (jL q) (dF 0 1 (gI 13)))))) (dr (aq 7 false (cx q (bo false dW (gX 2 (gI 0))) 0 (λ_=>iw true) Ee 1 [])) (dr (aq 8 false (gX (bH bu (bH bu 7 7) (wm (gX 2 (gI 1)) zE (zF (gI 1)))) (aw (l_ q) (dF 0 (bH bu 1 (gI 1)) (bH bu (bH jA (gI 2) (gO (o1 eY) (bj 7))) (gI 1)))))) (dr (aq 9 false (bH bu (gX 2 (gI 1)) (wm 7 zE (zF (gI 1))))) (dr (aq 10 false (aW true (je (gC (.str "flight")) 5 (gX 9 (aw (jL q) (dF 0 (bH bu 1 (gI 1)) (gO (o1 eY) (bj 9))))) (aw (uq q) (bL 0 1))))) J)))))))
def o9(q:Nat):GS:=HF (p_ q) q
def v5:=aV 3 11 o9
def d9y:OD 33 6 3 v5:=cB (N:=["_law_script","_law_k","_law_house_here","_law_kind","_law_mark","_law_flight","_law_bag","_law_belts","_law_belt_here","_law_carts","_law_told"])
def AZ(r:Nat->GM)(n1:Nat):GS:=cK (cA (dQ (cM (aw (r n1) (bL (gX 0 3) (gX 1 3))))) (az (gC (.bl false))))
def nA(r:Nat->GM)(q:Nat):GS:=m7 (eP (cM (gO (o2 cC) (bL 1 (aW true (bL (gC (.ty "tuple")) (gC (.ty "list"))))))) (m7 (aq 2 false (rV (cM (gO (o2 cC) (bL 1 (gC (.ty "tuple"))))) (gO (o2 cC) (bL 0 (gC (.ty "tuple")))) (gO (o2 cC) (bL 0 (gC (.ty "list")))))) (cA (iW (dQ (cM 2)) (gQ (o2 z6) (gO (o1 eY) (bj 0)) (gO (o1 eY) (bj 1)))) (az (gC (.bl false)))) (bf q (iR kN (bj (gO (o1 eY) (bj 1)))) 3 (AZ r)) (az (gC (.bl true)))) iU)
 (cA (gQ tR 1 (gC .aI)) (az (bH tR 0 (gC .aI))))
 (cA (cM (gO (o2 cC) (bL 1 (gC (.ty "str"))))) (az (nG (gO (o2 cC) (bL 0 (gC (.ty "str")))) (bH fy 0 1))))
 (az (nG (gO (o2 cC) (bL 0 (gC (.ty "int")))) (nG (BZ (gO (o2 cC) (bL 0 (gC (.ty "bool"))))) (bH fy 0 1))))
def qc:=xI 2 4 nA 5
def e3z:OD 41 6 2 qc:=okR (c:=1) (j:=5)
noncomputable def bV:=aV 3 5 λq=>m7 (aq 3 true (aw (cG q) (bj 0)))
 (aq 4 false (aw (AY q) (dF 1 3 2)))
 (cA (iW (dQ (cM (aw (qc q) (bL (aw (Bv q) (bj 0)) 4)))) (dQ (cM (aw (qc q) (bL (aZ cHall "moment" (y0 q) 0 gN) (gX 3 (gC (.str "now")))))))) (az (gC (.bl false))))
 (az (nG (aw (qc q) (bL (aZ cHall "bags" (rK q) 0 gN) (aw (A8 q) (bL 1 3)))) (aw (qc q) (bL (aZ cHall "out" (zv q) 0 gN) (gX 3 (gC (.str "gone")))))))
def c3p:OD 49 7 3 bV:=cB
noncomputable def iO (J:Nat):GS:=cK (cA (dQ (cM (aw (bV J) (dF 3 1 2)))) (az (gC (.bl false))))
noncomputable def fH (J:Nat):GS:=cK (eP (gQ (o2 z6) (gX 5 (gI 0)) (gC (.str "turn"))) (cK (cX (aw (A' J) (bL 3 5)))) (cK (bf J (iR kN (bj (gX 5 (gI 1)))) 6 iO)))
noncomputable def gE (n1:Nat):GS:=cK (bf n1 (bo true dW (aw (v5 n1) (dF 0 4 1))) 5 fH)
noncomputable def mF (q:Nat):GS:=mD (aq 1 false (aw (y8 q) (bj 0)))
 (aq 2 false (aw (kG q) (dF 0 (gI 14) (gI 3))))
 (aq 3 false (qw cHall (Ba q) (bL 1 2)))
 (bf q (iR yk (dF (gI 15) (bH bu (gI 23) (bH jA (gI 2) (aw (jL q) (dF 0 (gI 14) (gI 20))))) (gI 2))) 4 gE)
 (az (gC (.bl true)))
noncomputable def n9:=aV 1 7 mF
def Z9:OD 50 8 1 n9:=cB
variable{i n:Nat}
abbrev Pr(M:Nat->GM)(vs:List Val)(r:Rv):Prop:=∀q S,M q vs S=some (.ok r S)
noncomputable abbrev bC(ns:List Int):D:=.lst (ns.map D.int)
def qq0{α:Type _}{a:α}{l:List α}:(a::l)[0]?=some a:=rfl
def qq1{α:Type _}{a:α}{l:List α}:(a::l)[i+1]?=l[i]?:=rfl
def qq2{α:Type _}{a:α}{l:List α}:(a::l).length=l.length+1:=rfl
def qq3{α:Type _}:([]:List α).length=0:=rfl
def qq4{α:Type _}{x a:α}{l:List α}:(x::l).set 0 a=a::l:=rfl
def qq5{α:Type _}{x a:α}{l:List α}:(x::l).set (n+1) a=x::l.set n a:=rfl
def qq6{α β:Type _}{f:α->β}{a:α}{l:List α}:(a::l).map f=f a::l.map f:=rfl
def qq7{α β:Type _}{f:α->β}:([]:List α).map f=[]:=rfl
def qq8{α:Type _}{a:α}:List.replicate 0 a=[]:=rfl
def qq9{α:Type _}{a:α}:List.replicate (n+1) a=a::List.replicate n a:=rfl
def qqa{α:Type _}{a:α}{l:List α}:(a::l).take (i+1)=a::l.take i:=rfl
def QI{α:Type _}{a:α}{l r:List α}:(a::l)++r=a::(l++r):=rfl
def KN{α:Type _}(l:List α):[]++l=l:=rfl
def qqd{α:Type _}{l:List α}:l.take 0=[]:=rfl
def ve:(false=true)=False:=rm
def qqf(n:Nat):0+n=n:=Nat.zero_add n
def Tp(ns:List Int)(k v:Int)(J:(k<(ns.length:Int))=True)(Y:du (ns.map D.int) k=some (.int v)):Pr oh [.d (bC ns),aT k] (rd (.int v)):=by
 intro q S;unfold oh;simp only[↓ev,ba,J,ay,Y]
def Tq(ns:List Int)(k:Int)(J:(k<(ns.length:Int))=False):Pr oh [.d (bC ns),aT k] (rd (.int 0)):=by
 intro q S;unfold oh;simp only[↓ev,ba,J,ay]
def IF(ns:List Int)(k:Nat):∃v,Pr oh [.d (bC ns),aT k] (rd (.int v)):=by
 by_cases h:k<ns.length
 .exact⟨_,Tp ns k _ (br (by lia)) (qd (by rw[fB,gu h];rfl))⟩
 .exact⟨_,Tq ns k (eq_false (by lia))⟩
noncomputable abbrev QF:List D:=[.int 2,.int 128,.int 8192,.int 524288,.int 33554432]
def Jd(ns:List Int)(k a J c0 c d:Int)(h0:Pr oh [.d (bC ns),aT 0] (rd (.int c0)))(U:Pr oh [.d (bC ns),aT k] (rd (.int c)))(e:(c0%2 == 1)=true)
  (V:du QF a=some (.int d)) (d0:(0<d)=True) (Y:(d<1073741824)=True) (G:(0<J)=True):Pr iF [.d (bC ns),aT k,aT a,aT J] (rd (.int (c / d%64%J))):=by
 intro q S;unfold iF;simp only[↓ev,U,ay,h0,e,V,d0,Y,G]
def Je(ns:List Int)(k a J c0 c:Int)(h0:Pr oh [.d (bC ns),aT 0] (rd (.int c0)))(Y:Pr oh [.d (bC ns),aT k] (rd (.int c)))(e:(c0%2 == 1)=false)
  (k0:0<=k) (k1:k<1000) (T:0<=a) (a1:a<1000) (V:(0<J)=True):∃v,Pr iF [.d (bC ns),aT k,aT a,aT J] (rd (.int (v%J))):=by
 have mk:((-(2^64)<k/\k<2^64 \/ -(2^64)<k/\k<2^64)=True):=br (.inl ⟨by lia,by lia⟩)
 have U:∀x:Int,(((-(2^64):Int)<1009/\(1009:Int)<2^64 \/ -(2^64)<x/\x<2^64)=True):=λx=>br (.inl ⟨by decide,by decide⟩)
 have G:∀x:Int,((-(2^64)<x/\x<2^64\/(-(2^64):Int)<48271/\(48271:Int)<2^64)=True):=λx=>br (.inr ⟨by decide,by decide⟩)
 have W:∀x:Int,(((-(2^64):Int)<5/\(5:Int)<2^64 \/ -(2^64)<x/\x<2^64)=True):=λx=>br (.inl ⟨by decide,by decide⟩)
 have B:∀x:Int,(((-(2^64):Int)<2/\(2:Int)<2^64 \/ -(2^64)<x/\x<2^64)=True):=λx=>br (.inl ⟨by decide,by decide⟩)
 have F:∀x:Int,((-(2^64)<x/\x<2^64\/(-(2^64):Int)<69621+2*a/\69621+2*a<2^64)=True):=λx=>br (.inr ⟨by lia,by lia⟩)
 refine⟨((c%1000003+k*k+1009*a+7)*48271%999983+5*k+a)*(69621+2*a)%1000033,?_⟩;intro q S;unfold iF;simp only[↓ev,Y,ay,h0,e,mk,U,G,W,B,F,V]
def cy(ns:List Int)(k a:Nat)(J:Int):Int:=match iF 0 [.d (bC ns),aT k,aT a,aT J] ⟨[],[]⟩ with
 |some (.ok (.v (.d (.int v))) _)=>v
 |_=>0
theorem e8c:∀a:Nat,a<5->∃d:Int,du QF (a:Int)=some (.int d)/\0<d/\d<1073741824
 |0,_=>⟨2,rfl,by decide,by decide⟩
 |1,_=>⟨128,rfl,by decide,by decide⟩
 |2,_=>⟨8192,rfl,by decide,by decide⟩
 |3,_=>⟨524288,rfl,by decide,by decide⟩
 |4,_=>⟨33554432,rfl,by decide,by decide⟩
 |n+5,h=>cQ h (by lia)
def ik(ns:List Int)(k a:Nat)(J:Int)(B:k<1000)(W:a<5)(Y:0<J):Pr iF [.d (bC ns),aT k,aT a,aT J] (rd (.int (cy ns k a J)))/\0<=cy ns k a J/\cy ns k a J<J:=by
 obtain⟨c0,h0⟩:=IF ns 0;obtain⟨c,V⟩:=IF ns k;obtain⟨v,e⟩:∃v,Pr iF [.d (bC ns),aT k,aT a,aT J] (rd (.int (v%J))):=by
  cases e:(c0%2 == 1) with
  |true=>
   obtain⟨d,U,d2,G⟩:=e8c a W;exact⟨_,Jd ns k a J c0 c d h0 V e U (br d2) (br G) (br Y)⟩
  |false=>exact Je ns k a J c0 c h0 V e (by lia) (by lia) (by lia) (by lia) (br Y)
 have z:cy ns k a J=v%J:=by unfold cy;rw[e]
 rw[z];exact⟨e,Int.emod_nonneg _ (by lia),Int.emod_lt_of_pos _ Y⟩
def wo(ns:List Int)(k:Nat)(J:Int)(Y:k<1000)(V:0<J):Pr kG [.d (bC ns),aT k,aT J] (rd (.int (cy ns k 0 J))):=by
 have h:=(ik ns k 0 J Y (by decide) V).1
 have h:Pr iF [.d (bC ns),aT k,aT 0,aT J] _:=h;intro q S;unfold kG;simp only[↓ev,h,ay]
def ux(ns:List Int)(k:Nat)(J:Int)(Y:k<1000)(V:0<J):Pr jL [.d (bC ns),aT k,aT J] (rd (.int (cy ns k 1 J))):=by
 have h:=(ik ns k 1 J Y (by decide) V).1
 have h:Pr iF [.d (bC ns),aT k,aT 1,aT J] _:=h;intro q S;unfold jL;simp only[↓ev,h,ay]
def wc(ns:List Int)(k:Nat)(J:Int)(Y:k<1000)(V:0<J):Pr l_ [.d (bC ns),aT k,aT J] (rd (.int (cy ns k 2 J))):=by
 have h:=(ik ns k 2 J Y (by decide) V).1
 have h:Pr iF [.d (bC ns),aT k,aT 2,aT J] _:=h;intro q S;unfold l_;simp only[↓ev,h,ay]
variable{i:Nat}
abbrev EM:Str:="abcdefghijklmnopqrstuvwxyz"
abbrev iJ:List Nat:=EM.cps.toList
def xG:iJ.length=26:=by decide +kernel
def Oc:(EM.length<=1000000)=True:=br (by decide +kernel)
def Z_:iJ.Nodup:=by decide +kernel
def Bh(k:Int)(h0:0<=k)(J:k<26):du iJ k=some (iJ.getD k.toNat 0):=Uh 0 h0 (by rw[xG];exact J)
def CI:∀i:Nat,i<26->∀n:Nat,n<9->MulOk ⟨#[iJ.getD i 0]⟩ (n:Int):=by decide +kernel
def CJ:∀i:Nat,i<26->∀n:Nat,n<9->Txt.mul ⟨#[iJ.getD i 0]⟩ (n:Int)=⟨(List.replicate n (iJ.getD i 0)).toArray⟩:=by decide +kernel
def xQ(i:Nat)(hi:i<26)(n:Nat)(J:n<9):MulOk ⟨#[iJ.getD i 0]⟩ (n:Int)/\Txt.mul ⟨#[iJ.getD i 0]⟩ (n:Int)=⟨(List.replicate n (iJ.getD i 0)).toArray⟩:=⟨CI i hi n J,CJ i hi n J⟩
def Od(a b:List Nat):(⟨a.toArray⟩:Str)++(⟨b.toArray⟩:Str)=⟨(a++b).toArray⟩:=by
 show(⟨a.toArray++b.toArray⟩:Str)=_
 simp_all
def CK(ns:List Int)(q n b m:Int)(c:Nat)(z:Str)(hp:Pr kG [.d (bC ns),aT q,aT 26] (rd (.int b)))(ho:Pr jL [.d (bC ns),aT q,aT 3] (rd (.int 0)))
  (rX:du iJ ((b+n / 8)%26)=some c) (J:1+n%8=m) (hm:MulOk ⟨#[c]⟩ m=True) (hz:Txt.mul ⟨#[c]⟩ m=z):Pr pL [.d (bC ns),aT q,aT n] (rd (.str z)):=by
 intro Y S;unfold pL;simp only[↓ev,ay,hp,ho,Oc,rX,J,hm,hz]
def CL(ns:List Int)(q n b v t sp r:Int)(J Y:Nat)(U G W B:Str)(hp:Pr kG [.d (bC ns),aT q,aT 26] (rd (.int b)))(ho:Pr jL [.d (bC ns),aT q,aT 3] (rd (.int v)))(hv:(v == 0)=false)
  (ht:Pr l_ [.d (bC ns),aT q,aT 8] (rd (.int t))) (I:Pr jL [.d (bC ns),aT q,aT (1+t)] (rd (.int sp))) (D:Pr iF [.d (bC ns),aT q,aT 3,aT 26] (rd (.int r)))
  (F:du iJ r=some J) (V:du iJ ((7*n+b)%26)=some Y) (L:((-(2^64):Int)<7/\(7:Int)<2^64 \/ -(2^64)<n/\n<2^64)=True) (O:MulOk ⟨#[J]⟩ sp=True) (e1:Txt.mul ⟨#[J]⟩ sp=U) (j:MulOk ⟨#[J]⟩ (1+t - 1 - sp)=True) (e2:Txt.mul ⟨#[J]⟩ (1+t - 1 - sp)=G)
  (l1:(U.length+(⟨#[Y]⟩:Str).length<=1000000)=True) (T:U++(⟨#[Y]⟩:Str)=W) (l2:(W.length+G.length<=1000000)=True) (R:W++G=B):Pr pL [.d (bC ns),aT q,aT n] (rd (.str B)):=by
 intro z S;unfold pL;simp only[↓ev,ay,hp,ho,hv,ht,I,D,Oc,F,O,e1,L,V,l1,T,j,e2,l2,R]
def r9(ns:List Int)(q n:Nat):List Nat:=if cy ns q 1 3=0 then List.replicate (1+n%8) (iJ.getD (((cy ns q 0 26).toNat+n / 8)%26) 0)
 else List.replicate (cy ns q 1 (1+cy ns q 2 8)).toNat (iJ.getD (cy ns q 3 26).toNat 0)++iJ.getD ((7*n+(cy ns q 0 26).toNat)%26) 0::List.replicate ((cy ns q 2 8).toNat - (cy ns q 1 (1+cy ns q 2 8)).toNat) (iJ.getD (cy ns q 3 26).toNat 0)
def jv(ns:List Int)(q n:Nat):Str:=⟨(r9 ns q n).toArray⟩
def sH(l:List Nat):(⟨l.toArray⟩:Str).length=l.length:=by show l.toArray.size=_;simp
def Fi(ns:List Int)(q:Nat)(J:q<1000)(n:Nat)(j:n<20):Pr pL [.d (bC ns),aT q,aT n] (rd (.str (jv ns q n))):=by
 obtain⟨L,G,D⟩:=ik ns q 0 26 J (by decide) (by decide)
 obtain⟨o1,o2,R⟩:=ik ns q 1 3 J (by decide) (by decide)
 obtain⟨O,T,t3⟩:=ik ns q 2 8 J (by decide) (by decide)
 obtain⟨I,F,Y⟩:=ik ns q 3 26 J (by decide) (by decide)
 obtain⟨s1,s2,s3⟩:=ik ns q 1 (1+cy ns q 2 8) J (by decide) (by lia)
 have hp:=wo ns q 26 J (by decide)
 have ho:=ux ns q 3 J (by decide)
 have ht:=wc ns q 8 J (by decide)
 have S:=ux ns q (1+cy ns q 2 8) J (by lia)
 unfold jv r9;generalize cy ns q 1 (1+cy ns q 2 8)=s at *;generalize cy ns q 0 26=a at *;generalize cy ns q 1 3=v at *;generalize cy ns q 2 8=t at *;generalize cy ns q 3 26=r at *;obtain⟨a,rfl⟩:=Aq G;obtain⟨t,rfl⟩:=Aq T;obtain⟨r,rfl⟩:=Aq F;obtain⟨s,rfl⟩:=Aq s2;have Qw:=λk=>Bh ((k%26:Nat):Int) (by lia) (by lia)
 have Y:=Int.ofNat_lt.mp Y;have s3:s<1+t:=by lia
 have t3:=Int.ofNat_lt.mp t3;simp only[DG] at *;clear L G D o1 o2 R O T F s1 s2;split
 .rename_i h
  rw[h] at ho;obtain⟨V,U⟩:=xQ ((a+n / 8)%26) (Nat.mod_lt _ (by decide)) (1+n%8) (by lia)
  exact CK ns q n _ ((1+n%8:Nat):Int) _ _ hp ho (Qw _) rfl (br V) U
 .rename_i h
  obtain⟨V,U⟩:=xQ r Y s (by lia)
  obtain⟨W,B⟩:=xQ r Y (t - s) (by lia)
  rw[show((t - s:Nat):Int)=1+t - 1 - s by lia] at W B
  refine CL ns q n _ _ _ _ _ _ _ _ _ (⟨(List.replicate s (iJ.getD r 0)++[iJ.getD ((7*n+a)%26) 0]).toArray⟩:Str) _ hp ho (by simpa using h) ht S I (Bh _ (by lia) (by lia)) (Qw _) (br (.inl ⟨by decide,by decide⟩)) (br V) U (br W) B (br ?_) ?_ (br ?_) ?_
  .rw[sH,oX];show _+1<=_;lia
  .exact Od _ [_]
  .rw[sH,sH,cZ,oX,oX];simp only[qq2,qq3];lia
  .rw[Od,jz];rfl
def EF{l:List Nat}(h:i<l.length):l.getD i 0∈l:=by
 simp_all
def Na(ns:List Int)(q:Nat)(J:q<1000)(n:Nat):∀c∈r9 ns q n,c∈iJ:=by
 obtain⟨Y,V,U⟩:=ik ns q 3 26 J (by decide) (by decide)
 intro c hc;unfold r9 at hc;split at hc
 .rw[List.eq_of_mem_replicate hc];exact EF (by rw[xG];lia)
 .rw[iC,y0c] at hc;rcases hc with hc|hc|hc
  .rw[List.eq_of_mem_replicate hc];exact EF (by rw[xG];lia)
  .rw[hc];exact EF (by rw[xG];lia)
  .rw[List.eq_of_mem_replicate hc];exact EF (by rw[xG];lia)
def zH(ns:List Int)(q:Nat)(J:q<1000)(n:Nat):1<=(r9 ns q n).length/\(r9 ns q n).length<=8:=by
 obtain⟨Y,V,t3⟩:=ik ns q 2 8 J (by decide) (by decide)
 obtain⟨s1,s2,s3⟩:=ik ns q 1 (1+cy ns q 2 8) J (by decide) (by lia)
 unfold r9;split
 .rw[oX];lia
 .rw[cZ,jR,oX,oX];lia
def Nb{j:Nat}(hi:i<26)(V:j<26)(e:iJ.getD i 0=iJ.getD j 0):i=j:=by
 have J:i<iJ.length:=by rw[xG];exact hi
 have Y:j<iJ.length:=by rw[xG];exact V
 rw[yD,gu J,yD,gu Y] at e;exact(DC Z_).mp e
def Ph(ns:List Int)(q:Nat)(J:q<1000)(n m:Nat)(Y:n<20)(hm:m<20)(e:jv ns q n=jv ns q m):n=m:=by
 obtain⟨V,U,G⟩:=ik ns q 0 26 J (by decide) (by decide)
 have e:r9 ns q n=r9 ns q m:=by
  have:=congrArg Str.cps e;simpa[jv] using this
 unfold r9 at e;split at e
 .have l:=congrArg List.length e;rw[oX,oX] at l;have z:iJ.getD (((cy ns q 0 26).toNat+n / 8)%26) 0=iJ.getD (((cy ns q 0 26).toNat+m / 8)%26) 0:=by
   simp_all
  have:=Nb (by lia) (by lia) z
  lia
 .have e:=List.append_cancel_left e;rw[List.cons.injEq] at e;have:=Nb (by lia) (by lia) e.1
  lia
def Xk:∀c∈iJ,(Builtin.Str.occurrences EM ⟨#[c]⟩ 0 EM.length 1).isEmpty=false:=by decide +kernel
def Γ(c:Nat)(h:c∈iJ):(Builtin.Str.occurrences (Str.ofString "abcdefghijklmnopqrstuvwxyz") (jB c) 0 (Str.ofString "abcdefghijklmnopqrstuvwxyz").length 1).isEmpty=false:=Xk c h
theorem Nc:∀n:Nat,(List.replicate n true).all id=true
 |0=>rfl
 |n+1=>by rw[List.replicate_succ,rn,Nc n];rfl
theorem HG:∀bs:List Bool,iq (bs.map D.bl)=some bs
 |[]=>rfl
 |b::bs=>by rw[cS];unfold iq;rw[HG bs];rfl
def MM(l:List Nat)(Y:1<=l.length)(V:l.length<=8)(hc:∀c∈l,c∈iJ):Pr nz [.d (.str ⟨l.toArray⟩)] (rd (.bl true)):=by
 have e:∀q S,bF (ae 0) (iw true) (D_ q) (l.map λc=>.str (jB c)) [none] S []=some (.ok ((List.replicate l.length true).map D.bl) S):=λq S=>by
  rw[qk (λ_=>D.bl true) l (by lia) λc m=>⟨rd (.bl true),by
   have h:=Γ c (hc c m);unfold D_;simp only[↓ev,ay,h],rfl⟩,List.map_replicate,List.map_const']
 have c1:(1<=((⟨l.toArray⟩:Str).length:Int))=True:=br (by rw[sH];lia)
 have c2:(((⟨l.toArray⟩:Str).length:Int)<=8)=True:=br (by rw[sH];lia)
 have J:((⟨l.toArray⟩:Str).length<=1000000)=True:=br (by rw[sH];lia)
 intro q S;unfold nz;simp only[↓ev,ay,J,c1,c2,e,HG,Nc]
abbrev P0(M:Nat->GM)(vs:List Val)(r:Rv):Prop:=∀S,M 0 vs S=some (.ok r S)
noncomputable abbrev dS(xs:List Str):List D:=xs.map D.str
theorem eM(x:Str):∀xs:List Str,((dS xs).any λz=>dP z (.str x))=xs.contains x
 |[]=>rfl
 |y::r=>by
  rw[dS,cS,List.any_cons,<-dS,eM x r,List.contains_cons,Jl]
  congr 1
  exact BEq.comm
def d_(n:Nat)(xs:List Str):(dS xs).all (fj n)=true:=by
 rw[jS];intro d hd;obtain⟨y,_,rfl⟩:=fU.mp hd;cases n <;> rfl
def Oe(xs:List Str)(i:Nat)(y:Str):(dS xs).take i++.str y::(dS xs).drop i=dS (lK xs i y):=by
 grind [lK,List.map_take,List.map_drop]
noncomputable abbrev bY(S:aU)(xs:List D):aU:=⟨S.s++[.o (.lst xs)],S.r⟩
section
variable{S:aU}{ns:List Int}{k j sp d ll:Int}{s2 s3 s4:ai Val}{Q:List D}{outs:List Str}{y:Str}{a9:ai Val}
def e8d(hl:(Q.length:Int)=ll)(hd:Pr iF [.d (bC ns),aT (6+k),aT (1+j),aT ll] (rd (.int d)))(J:du Q d=some (.str y))(hc:outs.contains y=true):
  sC 0 [ar (bC ns),bx k,s2,s3,s4,ar (.lst Q),aJ S.s.length,bx sp,bx j,a9] (bY S (dS outs))=some (.nx [ar (bC ns),bx k,s2,s3,s4,ar (.lst Q),aJ S.s.length,bx sp,bx j,aY y] (bY S (dS outs))):=by
 unfold sC;simp only[↓ev,hl,hd,J,ay,d_,eM,hc]
abbrev W3:List D:=[.int 1,.int 4,.int 16]
def Δ{w J p:Int}{o2:List Str}(hl:(Q.length:Int)=ll)(hd:Pr iF [.d (bC ns),aT (6+k),aT (1+j),aT ll] (rd (.int d)))(U:du Q d=some (.str y))(hc:outs.contains y=false)
  (hw:du W3 j=some (.int w)) (T:(0<w)=True) (R:(w<1073741824)=True) (Y:((dS outs).length:Int)=J) (G:(0<J+1)=True) (hp:sp / w%4%(J+1)=p) (W:(0<=p)=True) (B:(p<2^62)=True) (F:((dS outs).length<1000000)=True) (V:(dS outs).take p.toNat++.str y::(dS outs).drop p.toNat=dS o2) :
  sC 0 [ar (bC ns),bx k,s2,s3,s4,ar (.lst Q),aJ S.s.length,bx sp,bx j,a9] (bY S (dS outs))=some (.nx [ar (bC ns),bx k,s2,s3,s4,ar (.lst Q),aJ S.s.length,bx sp,bx j,aY y] (bY S (dS o2))):=by
 unfold sC;simp only[↓ev,hl,hd,U,ay,d_,eM,hc,hw,T,R,Y,G,hp,W,B,F,V]
end
def Nd(ds:List D)(n:Nat):cutD ds (some (n:Int)) none=ds.drop n:=by
 unfold cutD;have e:HT.cT ds.length 0 (some (n:Int))=min n ds.length:=by
  unfold HT.cT;simp;lia
 have e2:HT.cT ds.length ds.length none=ds.length:=rfl;rw[e,e2];by_cases h:n<=ds.length
 .rw[Nat.min_eq_left h];exact DF (by rw[Ah];exact bU _)
 .rw[Nat.min_eq_right (by lia),List.drop_eq_nil_of_le (bU _),List.drop_eq_nil_of_le (by lia),List.take_nil]
def Tr(xs:List Str)(k:Nat)(y:Str):(lK xs k y).Perm (y::xs):=by
 unfold lK;refine(List.perm_middle (l₁:=xs.take k) (l₂:=xs.drop k)).trans ?_;rw[List.take_append_drop]
def Of{xs:List Str}{k:Nat}{y:Str}(h:xs.Nodup)(J:y∉xs):(lK xs k y).Nodup:=(Tr xs k y).nodup_iff.mpr (nW.mpr ⟨J,h⟩)
structure nv (later carts:List Str) (hd:Str) (outs:List Str):Prop where
 nd:outs.Nodup
 sub:∀o∈outs,o∈later++carts
 ne:outs≠[]
 hand:hd∈outs\/∃o∈outs,o∈later
 len:outs.length<=4
def E0{xs:List Str}{k:Int}(h0:0<=k)(Y:k<xs.length):du (dS xs) k=some (.str (xs.getD k.toNat "")):=by
 have J:k.toNat<xs.length:=by lia
 have e:(dS xs)[k.toNat]?=some (.str (xs.getD k.toNat "")):=by simp[J]
 have z:=qd e
 rwa[show((k.toNat:Nat):Int)=k by lia] at z
def Ts{xs:List Str}(h:i<xs.length):xs.getD i ""∈xs:=by
 simp_all
theorem e8e:∀j:Nat,j<3->∃d:Int,du W3 (j:Int)=some (.int d)/\0<d/\d<1073741824
 |0,_=>⟨1,rfl,by decide,by decide⟩
 |1,_=>⟨4,rfl,by decide,by decide⟩
 |2,_=>⟨16,rfl,by decide,by decide⟩
 |n+3,h=>cQ h (by lia)
abbrev mH(S:aU)(ns:List Int)(k sp:Int)(s2:ai Val)(carts later:List Str)(a8 a9:ai Val):Gm:=[ar (bC ns),bx k,s2,ar (.lst (dS carts)),ar (.lst (dS later)),ar (.lst (dS (later++carts))),aJ S.s.length,bx sp,a8,a9]
def Xl(ns:List Int)(k j:Nat)(sp:Int)(s2:ai Val)(carts later outs:List Str)(a9:ai Val)(O:k<5)(B:j<3)(sl:0<(later++carts).length)(I:(later++carts).length<=100)(nd:outs.Nodup)(U:∀o∈outs,o∈later++carts)(q:outs.length<=j):
  ∃o2 y,o2.Nodup/\(∀o∈o2,o∈later++carts)/\o2.length<=j+1/\o2≠[]/\∀S,sC 0 (mH S ns k sp s2 carts later ((bx j)) a9) (bY S (dS outs))=some (.nx (mH S ns k sp s2 carts later ((bx j)) ((aY y))) (bY S (dS o2))):=by
 obtain⟨J,d2,G⟩:=ik ns (6+k) (1+j) ((later++carts).length:Int) (by lia) (by lia) (by lia)
 rw[show((6+k:Nat):Int)=6+(k:Int) by lia,show((1+j:Nat):Int)=1+(j:Int) by lia] at J
 have Y:=E0 (xs:=later++carts) d2 G;have hm:(later++carts).getD (cy ns (6+k) (1+j) ((later++carts).length:Int)).toNat ""∈later++carts:=Ts (by lia)
 generalize(later++carts).getD (cy ns (6+k) (1+j) ((later++carts).length:Int)).toNat ""=y at Y hm;have hl:((dS (later++carts)).length:Int)=((later++carts).length:Int):=by rw[ba]
 cases hc:outs.contains y with
 |true=>
  refine⟨outs,y,nd,U,by lia,λz=>?_,λS=>e8d hl J Y hc⟩
  simp_all
 |false=>
  obtain⟨w,R,L,D⟩:=e8e j B;have V:(0:Int)<(outs.length:Int)+1:=by lia
  have W:((dS outs).length:Int)=(outs.length:Int):=by rw[ba]
  have T:0<=sp / w%4%((outs.length:Int)+1):=Int.emod_nonneg _ (by lia)
  have p:sp / w%4%((outs.length:Int)+1)<(outs.length:Int)+1:=Int.emod_lt_of_pos _ V;have F:y∉outs:=by simpa using hc
  refine⟨_,y,Of (k:=(sp / w%4%((outs.length:Int)+1)).toNat) nd F,λo ho=>?_,by rw[EA];lia,λz=>?_,λS=>Δ hl J Y hc R (br L) (br D) W (br V) rfl (br T) (br (by lia)) (br (by rw[ba];lia)) (Oe _ _ _)⟩
  .rcases kr.mp ho with z|z
   .rw[z];exact hm
   .exact U o z
  grind [EA]
def Mp(q:Nat)(S:aU)(outs later:List Str)(h:outs.length<=1000):bF (ae 0) (Hu q) (Hv q) (dS outs) [none,ar (.lst (dS later))] S []=some (.ok (dS (outs.filter λo=>later.contains o)) S):=by
 rw[dS,sR (λo=>if later.contains o=true then some (.str o) else none) outs (by lia) λo m=>by
  unfold Hu Hv;cases hc:later.contains o with
  |true=>exact .inr ⟨rd (.str o),.str o,rfl,by simp only[↓ev,d_,ay,eM,hc],by simp only[↓ev],rfl⟩
  |false=>exact .inl ⟨rfl,by simp only[↓ev,d_,ay,eM,hc]⟩]
 congr 2
 induction outs with
 |nil=>rfl
 |cons o r J=>
  grind
section
variable{S:aU}{ns:List Int}{k sp r:Int}{later carts o1 outs:List Str}{names:List D}{hand:Str}{a8 a9:ai Val}
structure sv (S:aU) (ns:List Int) (k sp r:Int) (later carts o1:List Str) (names:List D) (hand:Str) (a8 a9:ai Val):Prop where
 c1:cutD names (some (k+1)) none=dS later
 c2:((dS later).length+(dS carts).length<=1000000)=True
 ht:Pr l_ [.d (bC ns),aT (1+k),aT 64] (rd (.int sp))
 hp:Pr kG [.d (bC ns),aT (6+k),aT 3] (rd (.int r))
 hi:Nat.ble (1+r).natAbs 1000000000000=true
 ap:dS later++dS carts=dS (later++carts)
 hl:aM (ae 8) (sC 0) (fS 0 (1+r).toNat) (mH S ns k sp ((ar (.lst names))) carts later none none) (bY S [])=some (.nx (mH S ns k sp ((ar (.lst names))) carts later a8 a9) (bY S (dS o1)))
 rX:du (dS carts) 0=some (.str hand)
def Xm(h:sv S ns k sp r later carts o1 names hand a8 a9)(hc:o1.contains hand=true):o_ 0 [.d (bC ns),aT k,.d (.lst names),.d (.lst (dS carts))] S=some (.ok (.o (.lst (dS o1))) S):=by
 obtain⟨c1,c2,ht,hp,hi,ap,hl,rX⟩:=h;unfold o_;simp only[↓ev,c1,ay,c2,ap,ht,hp,hi,eD,hl,mH,bY,rX,d_,eM,hc]
def Xn(h:sv S ns k sp r later carts o1 names hand a8 a9)(hc:o1.contains hand=false)(hlen:o1.length<=1000){n:Int}(J:((dS (o1.filter λo=>later.contains o)).length:Int)=n)(hz:(n == 0)=false):o_ 0 [.d (bC ns),aT k,.d (.lst names),.d (.lst (dS carts))] S=some (.ok (.o (.lst (dS o1))) S):=by
 obtain⟨c1,c2,ht,hp,hi,ap,hl,rX⟩:=h;have e:=λq S=>Mp q S o1 later hlen
 unfold o_;simp only[↓ev,c1,ay,c2,ap,ht,hp,hi,eD,hl,mH,bY,rX,d_,eM,hc,e,J,hz]
def UY(h:sv S ns k sp r later carts o1 names hand a8 a9)(hc:o1.contains hand=false)(hlen:o1.length<=1000)(U:((dS (o1.filter λo=>later.contains o)).length:Int)=0){d J:Int}(Y:((dS o1).length:Int)=J)(hd:Pr iF [.d (bC ns),aT (1+k),aT 3,aT (J+1)] (rd (.int d)))
  (G:(0<=d)=True) (W:(d<2^62)=True) (B:((dS o1).length<1000000)=True) (V:(dS o1).take d.toNat++.str hand::(dS o1).drop d.toNat=dS outs):o_ 0 [.d (bC ns),aT k,.d (.lst names),.d (.lst (dS carts))] S=some (.ok (.o (.lst (dS outs))) S):=by
 obtain⟨c1,c2,ht,hp,hi,ap,hl,rX⟩:=h;have e:=λq S=>Mp q S o1 later hlen
 unfold o_;simp only[↓ev,c1,ay,c2,ap,ht,hp,hi,eD,hl,mH,bY,rX,d_,eM,hc,e,U,Y,hd,G,W,B,V]
end
def EG{d r:List Nat}(e:List.range n=d++i::r):d.length=i/\i<n:=by
 have Y:d.length<n:=by have:=congrArg List.length e;simp at this;lia
 have J:=congrArg (λl=>l[d.length]?) e
 simp only[oW (bU _),Gn,qq0] at J;rw[yA Y] at J;have:=Option.some.inj J;exact⟨this,this ▸ Y⟩
def mL(n:Nat):fS 0 n=(List.range n).map λ(i:Nat)=>D.int (i:Int):=by
 unfold fS;simp only[Int.zero_add]
def Θ(ns:List Int)(k:Nat)(names carts:List Str)(hand:Str)(I:k<5)(hl:names.length<=5)(V:carts.head?=some hand)(hc:carts.length<=4):
  ∃outs,nv (names.drop (k+1)) carts hand outs/\∀S,o_ 0 [.d (bC ns),aT k,.d (.lst (dS names)),.d (.lst (dS carts))] S=some (.ok (.o (.lst (dS outs))) S):=by
 have L:0<carts.length:=by cases carts with|nil=>cases V|cons a b=>simp
 refine kY λq=>?_
 obtain⟨t,r2,r3⟩:=ik ns (6+k) 0 3 (by lia) (by decide) (by decide)
 have hp:=wo ns (6+k) 3 (by lia) (by decide)
 have ht:=wc ns (1+k) 64 (by lia) (by decide)
 rw[show((6+k:Nat):Int)=6+(k:Int) by lia] at hp
 rw[show((1+k:Nat):Int)=1+(k:Int) by lia] at ht
 obtain⟨n,B⟩:=Aq (show 0<=1+cy ns (6+k) 0 3 by lia)
 have n3:1<=n/\n<=3:=by lia
 clear t r2 r3;have sl:0<(names.drop (k+1)++carts).length:=by rw[cZ];lia
 have T:(names.drop (k+1)++carts).length<=100:=by rw[cZ,Ah];lia
 obtain⟨⟨o1,a8,a9⟩,⟨nd,J,U,one⟩,e1⟩:=Pd (gg:=ae 8) (body:=sC 0) (f:=λ(i:Nat)=>D.int (i:Int)) (λ(b:List Str×ai Val×ai Val) S=>(mH S ns k (cy ns (1+k) 2 64) ((ar (.lst (dS names)))) carts (names.drop (k+1)) b.2.1 b.2.2,bY S (dS b.1)))
  (λpre b=>b.1.Nodup/\(∀o∈b.1,o∈names.drop (k+1)++carts)/\b.1.length<=pre.length/\(pre≠[]->b.1≠[])) (List.range n) ([],none,none)
  ⟨Gu,λo m=>(by cases m),bU _,λz=>cQ rfl z⟩ (by
   rintro d i r R ⟨outs,a8,a9⟩ ⟨nd,J,U,_⟩;obtain⟨F,hi⟩:=EG R;obtain⟨o2,y,p,s2,l2,G,e2⟩:=Xl ns k i (cy ns (1+k) 2 64) ((ar (.lst (dS names)))) carts (names.drop (k+1)) outs a9 I (by lia) sl T nd J (jy U (DD F))
   exact⟨(o2,bx i,(aY y)),⟨p,s2,by rw[cZ,sj,F];exact l2,λ_=>G⟩,λS=>⟨_,rfl,.inl (e2 S)⟩⟩)
 dsimp only at nd J U one e1;rw[vG] at U;have one:o1≠[]:=one (by intro z;have:=congrArg List.length z;simp at this;lia)
 have e1:=λS=>(congrArg (λl=>aM (ae 8) (sC 0) l _ _) (mL _)).trans (e1 S)
 have rX:du (dS carts) 0=some (.str hand):=by
  cases carts with
  |nil=>cases V
  |cons a b=>cases V;exact qd (xs:=D.str hand::b.map D.str) (j:=0) rfl
 have hm:hand∈names.drop (k+1)++carts:=ng _ (List.mem_of_mem_head? V);have H:∀S,sv S ns k (cy ns (1+k) 2 64) (cy ns (6+k) 0 3) (names.drop (k+1)) carts o1 (dS names) hand a8 a9:=λS=>⟨by rw[show(k:Int)+1=((k+1:Nat):Int) by lia,Nd,dS,dS,Gz],br (by rw[ba,ba,Ah];lia),ht,hp,by rw[B];exact LM (by lia),eC.symm,by rw[B];exact e1 S,rX⟩
 refine q ?_;cases Y:o1.contains hand with
 |true=>exact⟨o1,⟨nd,J,one,.inl (by simpa using Y),by lia⟩,λS=>Xm (H S) Y⟩
 |false=>
  by_cases hf:(o1.filter λo=>(names.drop (k+1)).contains o).length=0
  .obtain⟨W,d2,d3⟩:=ik ns (1+k) 3 ((o1.length:Int)+1) (by lia) (by decide) (by lia)
   rw[show((1+k:Nat):Int)=1+(k:Int) by lia] at W
   have O:hand∉o1:=by simpa using Y
   refine⟨_,⟨Of (k:=(cy ns (1+k) 3 ((o1.length:Int)+1)).toNat) nd O,λo ho=>?_,λz=>?_,.inl (kr.mpr (.inl rfl)),by rw[EA];lia⟩,λS=>UY (H S) Y (by lia) (by rw[ba,hf];rfl) (by rw[ba]) W (br d2) (br (by lia)) (br (by rw[ba];lia)) (Oe _ _ _)⟩
   .rcases kr.mp ho with z|z
    .rw[z];exact hm
    .exact J o z
   .have:=EA o1 (cy ns (1+k) 3 ((o1.length:Int)+1)).toNat hand;rw[z] at this;simp at this
  .refine⟨o1,⟨nd,J,one,.inr ?_,by lia⟩,λS=>Xn (H S) Y (by lia) rfl (by rw[ba];simp only[oY];lia)⟩
   simp_all
def au(b:av):D:=.tup [.str b.name,.int b.long,.bl b.ring,.lst (dS b.outs)]
def aF(h:aA):D:=.tup [.lst (h.af.map au),.lst (dS h.carts)]
abbrev gZ(S:aU)(ns:List Int)(names carts:List Str)(k:Int)(a5 a6:ai Val):Gm:=[ar (bC ns),ar (.lst (dS names)),ar (.lst (dS carts)),aJ S.s.length,bx k,a5,a6]
section
variable{S:aU}{ns:List Int}{Q Y J nl V dv:Int}{names carts outs:List Str}{nm:Str}{bl:List D}{rg:Bool}{a5 a6:ai Val}
def hB0(hp:Pr kG [.d (bC ns),aT (1+Q),aT 3] (rd (.int Y)))(G:(Y == 0)=rg)(ho:Pr jL [.d (bC ns),aT (1+Q),aT 5] (rd (.int J)))(U:du (dS names) Q=some (.str nm))(W:∀S,o_ 0 [.d (bC ns),aT Q,.d (.lst (dS names)),.d (.lst (dS carts))] S=some (.ok (.o (.lst (dS outs))) S))(hb:(bl.length<1000000)=True)(e1:(Q == 0)=false):og 0 (gZ S ns names carts Q a5 a6) (bY S bl)=some (.nx (gZ S ns names carts Q ((ar (.bl rg))) ((bx (if rg=true then(1+J)+1 else(1+J))))) (bY S (bl++[.tup [.str nm,.int (if rg=true then(1+J)+1 else(1+J)),.bl rg,.lst (dS outs)]]))):=by
 unfold og gZ bY;cases rg with
 |true=>simp only[↓ev,hp,ay,G,ho,e1,U,W,hb]
 |false=>simp only[↓ev,hp,ay,G,ho,e1,U,W,hb]
def hB1(hp:Pr kG [.d (bC ns),aT (1+Q),aT 3] (rd (.int Y)))(W:(Y == 0)=rg)(ho:Pr jL [.d (bC ns),aT (1+Q),aT 5] (rd (.int J)))(G:du (dS names) Q=some (.str nm))(B:∀S,o_ 0 [.d (bC ns),aT Q,.d (.lst (dS names)),.d (.lst (dS carts))] S=some (.ok (.o (.lst (dS outs))) S))(hb:(bl.length<1000000)=True)(e1:(Q == 0)=true)(U:((dS names).length:Int)=nl)(e2:(nl<3)=False):og 0 (gZ S ns names carts Q a5 a6) (bY S bl)=some (.nx (gZ S ns names carts Q ((ar (.bl rg))) ((bx (if rg=true then(1+J)+1 else(1+J))))) (bY S (bl++[.tup [.str nm,.int (if rg=true then(1+J)+1 else(1+J)),.bl rg,.lst (dS outs)]]))):=by
 unfold og gZ bY;cases rg with
 |true=>simp only[↓ev,hp,ay,W,ho,e1,U,e2,G,B,hb]
 |false=>simp only[↓ev,hp,ay,W,ho,e1,U,e2,G,B,hb]
def hB2(hp:Pr kG [.d (bC ns),aT (1+Q),aT 3] (rd (.int Y)))(B:(Y == 0)=rg)(ho:Pr jL [.d (bC ns),aT (1+Q),aT 5] (rd (.int J)))(W:du (dS names) Q=some (.str nm))(F:∀S,o_ 0 [.d (bC ns),aT Q,.d (.lst (dS names)),.d (.lst (dS carts))] S=some (.ok (.o (.lst (dS outs))) S))(hb:(bl.length<1000000)=True)(e1:(Q == 0)=true)(G:((dS names).length:Int)=nl)(e2:(nl<3)=True)(ht:Pr l_ [.d (bC ns),aT 0,aT 3] (rd (.int V)))(U:(V == 1)=false):og 0 (gZ S ns names carts Q a5 a6) (bY S bl)=some (.nx (gZ S ns names carts Q ((ar (.bl rg))) ((bx (if rg=true then(1+J)+1 else(1+J))))) (bY S (bl++[.tup [.str nm,.int (if rg=true then(1+J)+1 else(1+J)),.bl rg,.lst (dS outs)]]))):=by
 unfold og gZ bY;cases rg with
 |true=>simp only[↓ev,hp,ay,B,ho,e1,G,e2,ht,U,W,F,hb]
 |false=>simp only[↓ev,hp,ay,B,ho,e1,G,e2,ht,U,W,F,hb]
def hB3(hp:Pr kG [.d (bC ns),aT (1+Q),aT 3] (rd (.int Y)))(B:(Y == 0)=rg)(ho:Pr jL [.d (bC ns),aT (1+Q),aT 5] (rd (.int J)))(W:du (dS names) Q=some (.str nm))(F:∀S,o_ 0 [.d (bC ns),aT Q,.d (.lst (dS names)),.d (.lst (dS carts))] S=some (.ok (.o (.lst (dS outs))) S))(hb:(bl.length<1000000)=True)(e1:(Q == 0)=true)(G:((dS names).length:Int)=nl)(e2:(nl<3)=True)(ht:Pr l_ [.d (bC ns),aT 0,aT 3] (rd (.int V)))(U:(V == 1)=true)(hd:Pr iF [.d (bC ns),aT 0,aT 3,aT 14] (rd (.int dv))):og 0 (gZ S ns names carts Q a5 a6) (bY S bl)=some (.nx (gZ S ns names carts Q ((ar (.bl rg))) ((bx (if rg=true then(10+dv)+1 else(10+dv))))) (bY S (bl++[.tup [.str nm,.int (if rg=true then(10+dv)+1 else(10+dv)),.bl rg,.lst (dS outs)]]))):=by
 unfold og gZ bY;cases rg with
 |true=>simp only[↓ev,hp,ay,B,ho,e1,G,e2,ht,U,hd,W,F,hb]
 |false=>simp only[↓ev,hp,ay,B,ho,e1,G,e2,ht,U,hd,W,F,hb]
end
def Xo(ns:List Int)(k:Nat)(names carts:List Str)(hand:Str)(bs:List av)(a5 a6:ai Val)(I:k<names.length)(hl:names.length<=5)(F:carts.head?=some hand)(hc:carts.length<=4)(hb:bs.length<=100):
  ∃b:av,b.name=names.getD k ""/\(1<=b.long/\b.long<=26/\(b.long<=6\/k=0/\names.length<3))/\(b.ring=true->2<=b.long)/\nv (names.drop (k+1)) carts hand b.outs/\∃L T,∀S,og 0 (gZ S ns names carts k a5 a6) (bY S (bs.map au))=some (.nx (gZ S ns names carts k L T) (bY S ((bs++[b]).map au))):=by
 have hp:=wo ns (1+k) 3 (by lia) (by decide)
 have ho:=ux ns (1+k) 5 (by lia) (by decide)
 refine kY λR=>?_
 obtain⟨o1,o2,j⟩:=ik ns (1+k) 1 5 (by lia) (by decide) (by decide)
 rw[show((1+k:Nat):Int)=1+(k:Int) by lia] at hp ho
 obtain⟨outs,ok,V⟩:=Θ ns k names carts hand (by lia) hl F hc
 have Y:=E0 (xs:=names) (k:=(k:Int)) (by lia) (by lia)
 rw[DG] at Y;have ht:Pr l_ [.d (bC ns),aT 0,aT 3] _:=wc ns 0 3 (by decide) (by decide)
 obtain⟨G,d2,D⟩:=ik ns 0 3 14 (by decide) (by decide) (by decide)
 have G:Pr iF [.d (bC ns),aT 0,aT 3,aT 14] _:=G;have W:((dS names).length:Int)=(names.length:Int):=by rw[ba]
 have U:((bs.map au).length<1000000)=True:=br (by rw[ba];lia)
 obtain⟨J,l1,e⟩:∃J:Int,(1<=J/\J<=25/\(J<=5\/k=0/\names.length<3))/\∀S,og 0 (gZ S ns names carts k a5 a6) (bY S (bs.map au))=some (.nx (gZ S ns names carts k ((ar (.bl (cy ns (1+k) 0 3 == 0)))) ((bx (if(cy ns (1+k) 0 3 == 0)=true then J+1 else J)))) (bY S (bs.map au++[.tup [.str (names.getD k ""),.int (if(cy ns (1+k) 0 3 == 0)=true then J+1 else J),.bl (cy ns (1+k) 0 3 == 0),.lst (dS outs)]]))):=by
  cases e1:((k:Int) == 0) with
  |false=>exact⟨_,by lia,λS=>hB0 hp rfl ho Y V U e1⟩
  |true=>
   by_cases e2:(names.length:Int)<3
   .cases B:(cy ns 0 2 3 == 1) with
    |false=>exact⟨_,by lia,λS=>hB2 hp rfl ho Y V U e1 W (br e2) ht B⟩
    |true=>exact⟨_,by have:=beq_iff_eq.mp e1;lia,λS=>hB3 hp rfl ho Y V U e1 W (br e2) ht B G⟩
   .exact⟨_,by lia,λS=>hB1 hp rfl ho Y V U e1 W (eq_false e2)⟩
 refine R ?_;refine⟨av.mk (names.getD k "") (if(cy ns (1+k) 0 3 == 0)=true then J+1 else J) (cy ns (1+k) 0 3 == 0) outs,rfl,?_,λO=>?_,ok,_,_,λS=>by rw[eC];exact e S⟩
 all_goals (split <;> lia)
def R6(q:Nat)(S:aU)(ns:List Int)(n:Nat)(J:n<=14):bF (ae 0) (iw true) (Ec q) (fS 0 n) [none,ar (bC ns)] S []=some (.ok (dS ((List.range n).map (jv ns 11))) S):=by
 rw[mL,qk (λk=>D.str (jv ns 11 k)) (List.range n) (by rw[vG];lia) λi m=>⟨rd (.str (jv ns 11 i)),by
  have h:Pr pL [.d (bC ns),aT 11,aT i] _:=Fi ns 11 (by decide) i (by have:=pI.mp m;lia)
  unfold Ec;generalize(i:Int)=Y at *;simp only[↓ev,h],rfl⟩,dS,dy]
 rfl
def R7(q:Nat)(S:aU)(ns:List Int)(n:Nat)(J:n<=4):bF (ae 0) (iw true) (Ed q) (fS 0 n) [none,ar (bC ns)] S []=some (.ok (dS ((List.range n).map λi=>jv ns 11 (10+i))) S):=by
 rw[mL,qk (λk=>D.str (jv ns 11 (10+k))) (List.range n) (by rw[vG];lia) λi m=>⟨rd (.str (jv ns 11 (10+i))),by
  have h:Pr pL [.d (bC ns),aT 11,aT ((10+i:Nat):Int)] _:=Fi ns 11 (by decide) (10+i) (by have:=pI.mp m;lia)
  rw[show((10+i:Nat):Int)=10+(i:Int) by lia] at h
  unfold Ed;generalize(i:Int)=Y at *;simp only[↓ev,h],rfl⟩,dS,dy]
 rfl
theorem Og:∀{bs:List av},(∀b∈bs,b.outs.length<=4)->(bs.map λx=>x.outs.length).sum<=4*bs.length
 |[],_=>bU _
 |b::bs,h=>by
  rw[cS,LN,jR];have:=Og λb m=>h b (pJ _ m)
  grind
def Nf(ns:List Int)(l:List Nat)(nd:l.Nodup)(hl:∀i∈l,i<14):(l.map (jv ns 11)).Nodup:=by
 rw[List.Nodup,Dz];exact nd.imp_of_mem λJ hb ne z=>ne (Ph ns 11 (by decide) _ _ (by have:=hl _ J;lia) (by have:=hl _ hb;lia) z)
def Tt(S:aU)(ns:List Int)(n c:Int)(names carts:List Str)(a4 a5 a6:ai Val)(bs:List D)(hp:Pr kG [.d (bC ns),aT 0,aT 5] (rd (.int n)))(ho:Pr jL [.d (bC ns),aT 0,aT 4] (rd (.int c)))
  (V:Nat.ble (1+n).natAbs 1000000000000=true) (U:Nat.ble (1+c).natAbs 1000000000000=true) (nl:Int) (Y:((dS names).length:Int)=nl) (G:Nat.ble nl.natAbs 1000000000000=true)
  (e1:∀q S,bF (ae 0) (iw true) (Ec q) (fS 0 (1+n).toNat) [none,ar (bC ns)] S []=some (.ok (dS names) S)) (e2:∀q S,bF (ae 0) (iw true) (Ed q) (fS 0 (1+c).toNat) [none,ar (bC ns)] S []=some (.ok (dS carts) S))
  (J:aM (ae 4) (og 0) (fS 0 nl.toNat) [ar (bC ns),ar (.lst (dS names)),ar (.lst (dS carts)),aJ S.s.length,none,none,none] (bY S [])=some (.nx [ar (bC ns),ar (.lst (dS names)),ar (.lst (dS carts)),aJ S.s.length,a4,a5,a6] (bY S bs))) :
  y8 0 [.d (bC ns)] S=some (.ok (rd (.tup [.lst bs,.lst (dS carts)])) S):=by
 unfold y8;simp only[↓ev,hp,V,eD,e1,ay,ho,U,e2,Y,G,J,bY]
variable{ks:List Str}
noncomputable def findB(bs:List av)(n:Str):ai av:=bs.find? λb=>b.name == n
structure p4 (h:aA):Prop where
 bl:h.af.length<=100
 ct:h.carts.length<=100
 ou:(h.af.map λx=>x.outs.length).sum<=900
def jt(carts:List Str):List av->Prop
 |[]=>True
 |b::bs=>(∀o∈b.outs,o∈bs.map av.name\/o∈carts)/\b.name∉bs.map av.name/\b.name∉carts/\jt carts bs
theorem Bc{carts:List Str}:∀{bs:List av},jt carts bs->∀x∈bs,∀y∈bs,x.name=y.name->x=y
 |z::bs,f,x,Y,y,J,e=>by
  rcases y0c.mp Y with r6|r6
  .rcases y0c.mp J with xy|xy
   .rw[r6,xy]
   .exact cQ (l7 (f:=av.name) xy) (by rw[<-e,r6];exact f.2.1)
  .rcases y0c.mp J with xy|xy
   .exact cQ (l7 (f:=av.name) r6) (by rw[e,xy];exact f.2.1)
   .exact Bc f.2.2.2 x r6 y xy e
theorem y9{carts:List Str}:∀{bs:List av},jt carts bs->∀c∈carts,c∉bs.map av.name
 |[],_,c,_,h=>by cases h
 |b::bs,f,c,hc,h=>by
  rcases y0c.mp h with z|z
  .exact f.2.2.1 (by rw[<-z];exact hc)
  .exact y9 f.2.2.2 c hc z
theorem y6{carts:List Str}:∀{xs ys:List av},jt carts (xs++ys)->jt carts ys
 |[],_,f=>f
 |_::xs,ys,f=>y6 (xs:=xs) f.2.2.2
abbrev oB(x:Str):Prop:=Pr nz [cD x] (rd (.bl true))
structure aH (h:aA):Prop where
 fwd:jt h.carts h.af
 sm:p4 h
 nm:∀b∈h.af,oB b.name
 cm:∀c∈h.carts,oB c
 lg:∀b∈h.af,1<=b.long/\(b.ring=true->2<=b.long)
 hd:∀b∈h.af,h.carts.getD 0 ""∈b.outs\/∃o∈b.outs,o∈h.af.map av.name
 cn:h.carts.Nodup
 c0:0<h.carts.length
 nd:∀b∈h.af,b.outs.Nodup
def wd(bs:List av)(h:bs.length<=1000000):Pr rJ [.d (.lst (bs.map au))] (.o (.lst (dS (bs.map av.name)))):=by
 have e:∀q S,bF (ae 0) (iw true) (LY q) (bs.map au) [none] S []=some (.ok (dS (bs.map av.name)) S):=λq S=>by
  rw[qk (λb=>D.str (av.name b)) bs h λb m=>⟨rd (.str b.name),by
   rfl,rfl⟩,dS,dy]
  rfl
 intro q S;unfold rJ;simp only[↓ev,e,ay]
noncomputable def mE(ks:List Str):List (TK×D):=ks.map λk=>(TK.inr k,.bl true)
noncomputable def il(ks:List Str)(k:Str):List Str:=if ks.contains k then ks else ks++[k]
theorem uz(x:Str):∀ks:List Str,(aG (mE ks) (.inr x)).isSome=ks.contains x
 |[]=>rfl
 |k::ks=>by
  have J:=uz x ks;unfold aG mE at *;rw[cS,Ao,List.contains_cons];by_cases e:k=x
  .rw[nh (by rw[e]),e,rq]
   rfl
  .rw[pS (λz=>e (TK.inr.inj z)),show(x == k)=false by rw[oY];exact λz=>e z.symm]
   rw[Bool.false_or];exact J
theorem Fj(k:Str):∀ks:List Str,bP (mE ks) (.inr k) (.bl true)=mE (il ks k)
 |[]=>rfl
 |j::ks=>by
  have J:=Fj k ks
  grind [mE,bP,il]
def IG(ks:List Str):(mE ks).length=ks.length:=by unfold mE;rw[ba]
theorem Ng(ks:List Str)(k:Str):(il ks k).length<=ks.length+1:=by
 unfold il;split
 .lia
 .rw[cZ,sj];exact bU _
theorem UZ{k n:Str}:n∈il ks k↔n=k\/n∈ks:=by
 grind [il]
def Ξ{x:Str}{S:aU}(Y:S.s[n]?=some (.o (.ao (mE ks))))(J:oB x)(V:ks.contains x=false)(hl:(ks.length<1000000)=True):yU 0 [cD x,.c n] S=some (.ok (rd .aI) ⟨S.s.set n (.o (.ao (mE (il ks x)))),S.r⟩):=by
 unfold yU;simp only[↓ev,J,ay,Y,uz,V,IG,hl,Fj]
variable{S:aU}{n:Nat}{ks carts:List Str}
abbrev tk(S:aU)(n:Nat)(ks:List Str):aU:=⟨S.s.set n (.o (.ao (mE ks))),S.r⟩
def take1{x:Str}(J:n<S.s.length)(Y:oB x)(h:x∉ks)(hl:ks.length<1000):yU 0 [cD x,.c n] (tk S n ks)=some (.ok (rd .aI) (tk S n (ks++[x]))):=by
 have hc:ks.contains x=false:=by simpa using h
 rw[Ξ (S:=tk S n ks) (n:=n) (oV J) Y hc (br (by lia))]
 grind [il,List.set_set]
def R8{d0 a:ai Val}(W:n<S.s.length)(nm:∀c∈carts,oB c)(nd:(ks++carts).Nodup)(hl:ks.length+carts.length<1000):
  ∃J,aM (ae 2) (DU 0) (dS carts) [d0,aJ n,a] (tk S n ks)=some (.nx [d0,aJ n,J] (tk S n (ks++carts))):=by
 obtain⟨B,S',e,J,rfl,rfl⟩:=f_ (ae 2) (DU 0) D.str (tk S n ks) (λpre U S'=>∃J,U=[d0,aJ n,J]/\S'=tk S n (ks++pre)) carts ⟨a,rfl,by rw[jI]⟩ (by
  rintro d x r Y U S' ⟨J,rfl,rfl⟩;have V:x∉ks++d:=by
   grind
  have G:=congrArg List.length Y;rw[cZ,jR] at G;have h:=take1 W (nm x (by rw[Y];simp)) V (by rw[cZ];lia)
  refine⟨[d0,aJ n,aY x],[d0,aJ n,aY x],_,rfl,.inl ?_,_,rfl,rfl⟩;rw[<-jz];unfold DU;simp only[↓ev,h,ay])
 exact⟨J,e⟩
def Xp(Y:n<S.s.length)(nm:∀c∈carts,oB c)(nd:(ks++carts).Nodup)(hl:ks.length+carts.length<1000)(h0:carts≠[]):DY 0 [.d (.lst (dS carts)),.c n] (tk S n ks)=some (.ok (rd .aI) (tk S n (ks++carts))):=by
 obtain⟨V,e⟩:=R8 (d0:=(ar (.lst (dS carts)))) (a:=none) Y nm nd hl;have z:(dS carts).isEmpty=false:=by cases carts with|nil=>exact cQ rfl h0|cons _ _=>rfl
 have lc:∀J,(tk S n J).cut (tk S n ks).s.length=tk S n J:=λJ=>by unfold aU.cut;simp only[rj];rw[DF (by rw[rj];exact bU _)]
 unfold DY;simp only[↓ev,eD,e,z,ay,lc]
variable{S:aU}{n:Nat}{ks:List Str}
def Φ{c:Cell}{J:List Str}:(tk S n J).cut (S.s.set n c).length=tk S n J:=by
 grind [aU.cut,List.take_of_length_le]
def R9{bs:List av}{d0 a2 a3 a4 a5 a6:ai Val}(L:n<S.s.length)(nm:∀b∈bs,oB b.name)(lg:∀b∈bs,1<=b.long/\(b.ring=true->2<=b.long))(nd:(ks++bs.map av.name).Nodup)(hl:ks.length+bs.length<1000):
  ∃J Y V G W,aM (bc [(ae 2),(ae 3),(ae 4),(ae 5)]) (DV 0) (bs.map au) [d0,aJ n,a2,a3,a4,a5,a6] (tk S n ks)=some (.nx [d0,aJ n,J,Y,V,G,W] (tk S n (ks++bs.map av.name))):=by
 refine kY λI=>?_
 obtain⟨O,S',e,J,Y,V,G,W,rfl,rfl⟩:=f_ (bc [(ae 2),(ae 3),(ae 4),(ae 5)]) (DV 0) au (tk S n ks) (λpre U S'=>∃J Y V G W,U=[d0,aJ n,J,Y,V,G,W]/\S'=tk S n (ks++pre.map av.name)) bs ⟨a2,a3,a4,a5,a6,rfl,by rw[DE,jI]⟩ (by
  rintro d x r B U S' ⟨J,Y,V,G,W,rfl,rfl⟩;have T:x.name∉ks++d.map av.name:=by
   grind
  have R:=congrArg List.length B;rw[cZ,jR] at R;have F:x∈bs:=by rw[B];simp
  have h:=take1 L (nm x F) T (by rw[cZ,ba];lia)
  obtain⟨l1,l2⟩:=lg x F;have e1:∀b,bc [(ae 2),(ae 3),(ae 4),(ae 5)] (au x) [d0,aJ n,J,Y,V,G,b]=some [d0,aJ n,aY x.name,bx x.long,ar (.bl x.ring),ar (.lst (dS x.outs)),b]:=λ_=>rfl
  refine⟨_,[d0,aJ n,aY x.name,bx x.long,ar (.bl x.ring),ar (.lst (dS x.outs)),bx (if x.ring=true then 2 else 1)],_,e1 _,.inl ?_,_,_,_,_,_,rfl,rfl⟩
  rw[eC,cS,DE,<-jz];unfold DV;cases D:x.ring with
  |true=>
   have z:(x.long<2)=False:=eq_false (by have:=l2 D;lia)
   simp only[↓ev,h,ay,z]
  |false=>
   have z:(x.long<1)=False:=eq_false (by lia)
   simp only[↓ev,h,ay,z])
 refine I ?_;exact⟨J,Y,V,G,W,e⟩
def Xq{bs:List av}(J:n<S.s.length)(nm:∀b∈bs,oB b.name)(lg:∀b∈bs,1<=b.long/\(b.ring=true->2<=b.long))(nd:(ks++bs.map av.name).Nodup)(hl:ks.length+bs.length<1000):DZ 0 [.d (.lst (bs.map au)),.c n] (tk S n ks)=some (.ok (rd .aI) (tk S n (ks++bs.map av.name))):=by
 obtain⟨Y,V,U,G,W,e⟩:=R9 (d0:=(ar (.lst (bs.map au)))) (a2:=none) (a3:=none) (a4:=none) (a5:=none) (a6:=none) J nm lg nd hl;unfold DZ;simp only[↓ev,eD,e,Φ]
variable{ks:List Str}
abbrev iy(S:aU)(ks:List Str):aU:=⟨S.s++[.o (.ao (mE ks))],S.r⟩
def bS(b:Str)(ks:List Str)(x:av):List Str:=if(x.name == b || ks.contains x.name)=true then x.outs.foldl il ks else ks
def Nh(outs:List Str):∀ks:List Str,(outs.foldl il ks).length<=ks.length+outs.length:=by
 induction outs with
 |nil=>intro ks;exact bU _
 |cons o outs J=>
  grind [Ng]
section
variable{S:aU}{g0 g1 g3 g4 g5 g6 a:ai Val}
def KJ{o:Str}(hl:(ks.length<1000000)=True):AS 0 [g0,g1,aJ S.s.length,g3,g4,g5,g6,aY o] (iy S ks)=some (.nx [g0,g1,aJ S.s.length,g3,g4,g5,g6,aY o] (iy S (il ks o))):=by
 unfold AS;simp only[↓ev,ay,IG,hl,Fj]
def U0(outs ks:List Str)(h:ks.length+outs.length<1000000):∃J,aM (ae 7) (AS 0) (dS outs) [g0,g1,aJ S.s.length,g3,g4,g5,g6,a] (iy S ks)=some (.nx [g0,g1,aJ S.s.length,g3,g4,g5,g6,J] (iy S (outs.foldl il ks))):=by
 refine kY λG=>?_
 obtain⟨W,S',e,J,rfl,rfl⟩:=f_ (ae 7) (AS 0) D.str (iy S ks) (λpre U S'=>∃J,U=[g0,g1,aJ S.s.length,g3,g4,g5,g6,J]/\S'=iy S (pre.foldl il ks)) outs ⟨a,rfl,rfl⟩ (by
  rintro d x r Y U S' ⟨J,rfl,rfl⟩;have V:=congrArg List.length Y;rw[cZ,jR] at V;have:=Nh d ks;refine⟨_,_,_,rfl,.inl (KJ (br (by lia))),_,rfl,by rw[Gv];rfl⟩)
 refine G ?_;exact⟨J,e⟩
def R_(b:Str)(bs:List av)(ks:List Str)(a3 a4 a5 a6 a7:ai Val)(h:ks.length+(bs.map λx=>x.outs.length).sum<1000000):∃Y V G W J,aM (bc [(ae 3),(ae 4),(ae 5),(ae 6)]) (yV 0) (bs.map au) [g0,aY b,aJ S.s.length,a3,a4,a5,a6,a7] (iy S ks)=some (.nx [g0,aY b,aJ S.s.length,Y,V,G,W,J] (iy S (bs.foldl (bS b) ks))):=by
 refine kY λR=>?_
 obtain⟨F,S',e,Y,V,G,W,J,rfl,rfl,_⟩:=f_ (bc [(ae 3),(ae 4),(ae 5),(ae 6)]) (yV 0) au (iy S ks) (λpre U S'=>∃Y V G W J,U=[g0,aY b,aJ S.s.length,Y,V,G,W,J]/\S'=iy S (pre.foldl (bS b) ks)/\(pre.foldl (bS b) ks).length<=ks.length+(pre.map λx=>x.outs.length).sum) bs ⟨a3,a4,a5,a6,a7,rfl,rfl,Gp _ _⟩ (by
  rintro d x r T U S' ⟨Y,V,G,W,J,rfl,rfl,hl⟩;rw[T,eC,cS,List.sum_append,LN] at h;have hf:=Nh x.outs (d.foldl (bS b) ks);have e1:bc [(ae 3),(ae 4),(ae 5),(ae 6)] (au x) [g0,aY b,aJ S.s.length,Y,V,G,W,J]=some [g0,aY b,aJ S.s.length,aY x.name,bx x.long,ar (.bl x.ring),ar (.lst (dS x.outs)),J]:=rfl;rw[Gv,eC,List.sum_append];show ∃L F S',_/\_/\∃Y V G W J,F=_/\S'=iy S (bS b (d.foldl (bS b) ks) x)/\(bS b (d.foldl (bS b) ks) x).length<=_+(_+(x.outs.length+0));obtain⟨D,e2⟩:=U0 (S:=S) (g0:=g0) (g1:=(aY b)) (g3:=(aY x.name)) (g4:=(bx x.long)) (g5:=(ar (.bl x.ring))) (g6:=(ar (.lst (dS x.outs)))) (a:=J) x.outs (d.foldl (bS b) ks) (by lia)
  generalize d.foldl (bS b) ks=B at *;unfold bS;cases c1:x.name == b with
  |true=>
   refine⟨_,_,_,e1,.inl (by unfold yV;simp only[↓ev,ay,c1,eD,e2] <;> rfl),_,_,_,_,_,rfl,?_,?_⟩
   all_goals lia
  |false=>
   cases c2:B.contains x.name with
   |true=>
    refine⟨_,_,_,e1,.inl (by unfold yV;simp only[↓ev,ay,c1,uz,c2,eD,e2] <;> rfl),_,_,_,_,_,rfl,?_,?_⟩
    .rw[LO,bJ rfl]
    .rw[LO,bJ rfl];lia
   |false=>
    refine⟨_,_,_,e1,.inl (by unfold yV;simp only[↓ev,ay,c1,uz,c2] <;> rfl),_,_,_,_,_,rfl,?_,?_⟩
    all_goals lia)
 refine R ?_;exact⟨Y,V,G,W,J,e⟩
def Rm(q:Nat)(xs:List Str)(h:xs.length<=1000000):bF (ae 0) (Hf q) (Hg q) (dS xs) [none,aJ S.s.length] (iy S ks) []=some (.ok (dS (xs.filter λo=>ks.contains o)) (iy S ks)):=by
 rw[dS,sR (λo=>if ks.contains o=true then some (.str o) else none) xs (by lia) λo m=>by
  unfold Hf Hg;cases hc:ks.contains o with
  |true=>exact .inr ⟨rd (.str o),.str o,rfl,by simp only[↓ev,ay,uz,hc],by simp only[↓ev],rfl⟩
  |false=>exact .inl ⟨rfl,by simp only[↓ev,ay,uz,hc]⟩]
 congr 2
 induction xs with
 |nil=>rfl
 |cons o r J=>
  grind
def Tu{h:aA}(sm:p4 h)(b:Str):P0 Et [.d (aF h),cD b] (.o (.lst (dS ((h.af.map av.name++h.carts).filter λx=>(h.af.foldl (bS b) []).contains x)))):=by
 intro S;have T:=sm.bl;have R:=sm.ct;have L:=sm.ou;refine kY λV=>?_
 obtain⟨U,G,W,B,F,e⟩:=R_ (S:=S) (g0:=(ar (aF h))) b h.af [] none none none none none (by rw[Ak];lia)
 have Y:=wd h.af (by lia)
 have hc:=λq=>Rm (S:=S) (ks:=h.af.foldl (bS b) []) q (h.af.map av.name++h.carts) (by rw[cZ,ba];lia)
 have ap:dS (h.af.map av.name)++dS h.carts=dS (h.af.map av.name++h.carts):=eC.symm;have le:((dS (h.af.map av.name)).length+(dS h.carts).length<=1000000)=True:=br (by rw[ba,ba,ba];lia)
 have J:aF h=.tup [.lst (h.af.map au),.lst (dS h.carts)]:=rfl;rw[show iy S []=⟨S.s++[.o (.ao [])],S.r⟩ from rfl] at e;refine V ?_;rw[J] at e ⊢;unfold Et;simp only[↓ev,ay,eD,e,iy,Y,le,ap,hc]
end
variable{outs:List Str}{b n:Str}{h:aA}
def Pj(bs:List av)(b:Str):List Str:=bs.foldl (bS b) []
inductive RR (bs:List av) (outs:List Str):Str->Prop
 |base {n:Str}:n∈outs->RR bs outs n
 |step {m n:Str} {b:av}:RR bs outs m->b∈bs->b.name=m->n∈b.outs->RR bs outs n
def i6:∀{ks:List Str} {n:Str},n∈outs.foldl il ks↔n∈outs\/n∈ks:=by
 induction outs with
 |nil=>intro ks n;simp
 |cons o outs J=>
  grind [UZ]
def Tv{x:av}(h:n∈ks):n∈bS b ks x:=by
 unfold bS;split
 .exact i6.mpr (.inr h)
 .exact h
def Tw{bs:List av}:∀{ks:List Str} {n:Str},n∈ks->n∈bs.foldl (bS b) ks:=by
 induction bs with
 |nil=>intro ks n h;exact h
 |cons x bs J=>intro ks n h;exact J (Tv h)
theorem MN:∀{bs:List av} {ks:List Str} {n:Str},jt carts bs->n∈bs.foldl (bS b) ks->n∈ks\/n∈bs.tail.map av.name\/n∈carts
 |[],ks,n,_,h=>.inl h
 |x::bs,ks,n,f,h=>by
  rcases MN f.2.2.2 h with z|z|z
  .unfold bS at z;split at z
   .rcases i6.mp z with z|z
    .rcases f.1 n z with z|z
     .exact .inr (.inl z)
     .exact .inr (.inr z)
    .exact .inl z
   .exact .inl z
  .refine .inr (.inl ?_);cases bs with
   |nil=>exact z
   |cons y bs=>exact pJ _ z
  .exact .inr (.inr z)
theorem Hc:∀{bs:List av} {ks:List Str},jt carts bs->∀x∈bs,(x.name=b\/x.name∈bs.foldl (bS b) ks)->∀o∈x.outs,o∈bs.foldl (bS b) ks
 |y::bs,ks,f,x,hx,hn,o,ho=>by
  rcases y0c.mp hx with rfl|hx
  .have J:(x.name == b || ks.contains x.name)=true:=by
    rcases hn with hn|hn
    .lia
    .rcases MN (b:=b) f hn with z|z|z
     .simp_all
     .exact cQ z f.2.1
     .exact cQ z f.2.2.1
   show o∈bs.foldl (bS b) (bS b ks x);refine Tw ?_;unfold bS;rw[bJ J];exact i6.mpr (.inl ho)
  .exact Hc (ks:=bS b ks y) f.2.2.2 x hx hn o ho
theorem Ni{J:List av}{b:av}(hb:b∈J)(U:∀x∈J,x.name=b.name->x=b):∀{bs:List av} {ks:List Str},(∀x∈bs,x∈J)->(∀n∈ks,RR J b.outs n)->∀n∈bs.foldl (bS b.name) ks,RR J b.outs n
 |[],ks,_,h,n,Y=>h n Y
 |x::bs,ks,V,h,n,Y=>Ni hb U (λy G=>V y (pJ _ G)) (λm hm=>by
   unfold bS at hm;split at hm
   .rename_i hc
    rcases i6.mp hm with z|z
    .rw[Bool.or_eq_true,beq_iff_eq,kE] at hc;rcases hc with hc|hc
     .rw[U x (V x Af) hc] at z;exact .base z
     .exact .step (h _ hc) (V x Af) rfl z
    .exact h m z
   .exact h m hm) n Y
def Tz(f:jt h.carts h.af){b:av}(hb:b∈h.af)(n:Str):n∈Pj h.af b.name↔RR h.af b.outs n:=by
 unfold Pj;constructor
 .exact Ni hb (λx J e=>Bc f x J b hb e) (λ_ m=>m) (λ_ m=>by cases m) n
 .intro r
  induction r with
  |base m=>exact Hc f b hb (.inl rfl) _ m
  |step r J Y hm V=>exact Hc f _ J (.inr (by rw[Y];exact V)) _ hm
def U3{bs:List av}{w:av}(hw:w∈bs)(r:RR bs outs w.name)(V:RR bs w.outs n):RR bs outs n:=by
 induction V with
 |base m=>exact .step r hw rfl m
 |step _ hb J hm Y=>exact .step Y hb J hm
theorem Il(g:aH h):∀{bs pre:List av},h.af=pre++bs->∀b∈bs,RR h.af b.outs (h.carts.getD 0 "")
 |x::bs,pre,J,b,hb=>by
  have Y:h.af=(pre++[x])++bs:=by rw[J];simp
  rcases y0c.mp hb with rfl|hb
  .have V:b∈h.af:=by rw[J];simp
   have G:jt h.carts (b::bs):=y6 (by rw[<-J];exact g.fwd)
   rcases g.hd b V with z|⟨o,z1,z2⟩
   .exact .base z
   .rcases G.1 o z1 with y|y
    .obtain⟨w,hw,U⟩:=fU.mp y;exact U3 (w:=w) (by rw[Y];simp[hw]) (by rw[U];exact .base z1) (Il g Y w hw)
    .exact cQ z2 (y9 g.fwd o y)
  .exact Il g Y b hb
def zx(g:aH h):h.carts.getD 0 ""∈h.carts/\du (dS h.carts) 0=some (.str (h.carts.getD 0 "")):=by
 have:=g.c0;cases J:h.carts with
 |nil=>rw[J] at this;simp at this
 |cons c cs=>exact⟨by simp,qd (j:=0) rfl⟩
def Ψ(g:aH h):P0 D6 [.d (aF h)] (rd .aI):=by
 intro S;have bl:=g.sm.bl;obtain⟨hc,V⟩:=zx g;have e1:=wd h.af (by lia)
 obtain⟨G,S',e,a,rfl,rfl⟩:=f_ (ae 2) (G8 0) D.str S (λ_ U S'=>∃a,U=[ar (aF h),aY (h.carts.getD 0 ""),a]/\S'=S) (h.af.map av.name) ⟨none,rfl,rfl⟩ (by
  rintro d x r J U S' ⟨a,rfl,rfl⟩;obtain⟨b,hb,rfl⟩:∃b∈h.af,b.name=x:=fU.mp (by rw[J];simp)
  have e1:=Tu g.sm b.name;have hm:((h.af.map av.name++h.carts).filter λx=>(h.af.foldl (bS b.name) []).contains x).contains (h.carts.getD 0 "")=true:=by
   rw[kE,rb];exact⟨ng _ hc,kE.mpr ((Tz g.fwd hb _).mpr (Il g (pre:=[]) rfl b hb))⟩
  refine⟨[ar (aF h),aY (h.carts.getD 0 ""),aY b.name],_,_,rfl,.inl ?_,aY b.name,rfl,rfl⟩;unfold G8;generalize((h.af.map av.name++h.carts).filter λx=>(h.af.foldl (bS b.name) []).contains x)=l at *
  generalize h.carts.getD 0 ""=hand at *;simp only[↓ev,e1,d_,eM,hm,ay])
 have Y:aF h=.tup [.lst (h.af.map au),.lst (dS h.carts)]:=rfl;generalize h.carts.getD 0 ""=hand at *;rw[Y] at e ⊢;unfold D6;simp only[↓ev,ay,V,e1,eD,e]
theorem L6{x z:Str}:∀{ys:List Str} {j:Nat},ys[j]?=some z->x∈ys->x≠z->x∈ys.eraseIdx j
 |y::ys,0,e,hx,J=>by
  simp_all
 |y::ys,j+1,e,hx,J=>by
  rw[List.getElem?_cons_succ] at e;show x∈y::ys.eraseIdx j;rcases y0c.mp hx with rfl|hx
  .exact .head _
  .exact .tail _ (L6 e hx J)
 |[],_,_,hx,_=>by cases hx
def A1{z:Str}{ys:List Str}(h:z∈ys):∃j,findS ys z=some j:=by
 cases q:findS ys z with
 |some j=>exact⟨j,rfl⟩
 |none=>
  unfold findS at q;rw[List.findIdx?_eq_none_iff] at q;have:=q z h;simp at this
def U4(L:List Str)(j:Nat):(dS L).eraseIdx j=dS (L.eraseIdx j):=by
 grind [List.eraseIdx_eq_take_drop_succ,List.map_take,List.map_drop]
section
variable{S:aU}{s0 s1 s2 s3 s4 s5 a7:ai Val}
def KR{L:List Str}{x:Str}{j:Nat}(hc:L.contains x=true)(J:findS L x=some j):AK 0 [s0,s1,s2,s3,s4,s5,aJ S.s.length,aY x] (bY S (dS L))=some (.nx [s0,s1,s2,s3,s4,s5,aJ S.s.length,aY x] (bY S (dS (L.eraseIdx j)))):=by
 have h:=MJ L;unfold AK;simp only[↓ev,bY,ay,d_,eM,hc,h,J,U4]
def Xr(outs L:List Str)(nd:outs.Nodup)(R:∀o∈outs,o∈L):∃J Y,aM (ae 7) (AK 0) (dS outs) [s0,s1,s2,s3,s4,s5,aJ S.s.length,a7] (bY S (dS L))=some (.nx [s0,s1,s2,s3,s4,s5,aJ S.s.length,Y] (bY S (dS J))):=by
 refine kY λI=>?_
 obtain⟨O,S',e,J,Y,rfl,rfl,_⟩:=f_ (ae 7) (AK 0) D.str (bY S (dS L)) (λpre U S'=>∃J Y,U=[s0,s1,s2,s3,s4,s5,aJ S.s.length,Y]/\S'=bY S (dS J)/\∀o∈outs,o∉pre->o∈J) outs ⟨L,a7,rfl,rfl,λo ho _=>R o ho⟩ (by
  rintro q x post W U S' ⟨J,Y,rfl,rfl,B⟩;have G:x∉q:=λz=>by
   rw[W] at nd;exact(l6.mp nd).2.2 x z x (.head _) rfl
  have T:x∈J:=B x (by rw[W];simp) G
  obtain⟨j,F⟩:=A1 T;refine⟨_,_,_,rfl,.inl (KR (kE.mpr T) F),J.eraseIdx j,aY x,rfl,rfl,λo ho V=>?_⟩
  simp only[iC,jT,not_or] at V;exact L6 (yY F).1 (B o ho V.1) V.2)
 refine I ?_;exact⟨J,Y,e⟩
end
def U5(q:List av)(x:av)(post:List av)(i:Int)(hi:i=(q.length:Nat)):cutD ((q++x::post).map au) (some (i+1)) none=post.map au:=by
 unfold cutD;have J:HT.cT ((q++x::post).map au).length 0 (some (i+1))=q.length+1:=by
  grind [HT.cT]
 have Y:HT.cT ((q++x::post).map au).length ((q++x::post).map au).length none=((q++x::post).map au).length:=rfl;have V:((q++x::post).map au).drop (q.length+1)=post.map au:=by
  rw[<-Gz,show q++x::post=(q++[x])++post by simp,List.drop_left' (by simp)]
 grind
section
variable{S:aU}{h:aA}
def U6{d0:List D}{cs:List Str}{i:Int}{x:av}{post:List av}{a4 a5 a6 a7:ai Val}(U:cutD d0 (some (i+1)) none=post.map au)(hp:post.length<=1000)(hc:cs.length<=1000)(nd:x.outs.Nodup)(G:∀o∈x.outs,o∈post.map av.name++cs)(ne:x.outs≠[]):
  ∃J Y,DX 0 [ar (.lst d0),ar (.lst (dS cs)),bx i,ar (au x),a4,a5,a6,a7] S=some (.nx [ar (.lst d0),ar (.lst (dS cs)),bx i,ar (au x),aY x.name,ar (.lst (dS x.outs)),aJ S.s.length,Y] (bY S (dS J))):=by
 obtain⟨J,Y,e⟩:=Xr (S:=S) (s0:=(ar (.lst d0))) (s1:=(ar (.lst (dS cs)))) (s2:=(bx i)) (s3:=(ar (au x))) (s4:=(aY x.name)) (s5:=(ar (.lst (dS x.outs)))) (a7:=a7) x.outs (post.map av.name++cs) nd G;have e1:=wd post (by lia)
 have ap:dS (post.map av.name)++dS cs=dS (post.map av.name++cs):=eC.symm;have le:((dS (post.map av.name)).length+(dS cs).length<=1000000)=True:=br (by rw[ba,ba,ba];lia)
 have z:(dS x.outs).isEmpty=false:=by cases hz:x.outs with|nil=>exact cQ hz ne|cons _ _=>rfl
 have V:au x=.tup [.str x.name,.int x.long,.bl x.ring,.lst (dS x.outs)]:=rfl;refine⟨J,Y,?_⟩;rw[V] at e ⊢;unfold DX;simp only[↓ev,ay,U,e1,le,ap,eD,e,z]
def TB(g:aH h)(ho:∀b∈h.af,b.outs≠[]):P0 D5 [.d (.lst (h.af.map au)),.d (.lst (dS h.carts))] (rd .aI):=by
 intro S;have bl:=g.sm.bl;have ct:=g.sm.ct;have G:=g.fwd;refine kY λB=>?_
 obtain⟨F,S',e,a2,a3,a4,a5,a6,a7,L,rfl,rfl⟩:=e8a (gg:=bc [(ae 2),(ae 3)]) (body:=DX 0) (U:=[ar (.lst (h.af.map au)),ar (.lst (dS h.carts)),none,none,none,none,none,none]) (S:=S) au (λpre U S'=>∃a2 a3 a4 a5 a6 a7 L,U=[ar (.lst (h.af.map au)),ar (.lst (dS h.carts)),a2,a3,a4,a5,a6,a7]/\S'=⟨S.s++L,S.r⟩) h.af ⟨_,_,_,_,_,_,[],rfl,by rw[jI]⟩ (by
  rintro q x post J U S' ⟨a2,a3,a4,a5,a6,a7,L,rfl,rfl⟩;have hb:x∈h.af:=by rw[J];simp
  have hl:=congrArg List.length J;rw[cZ,jR] at hl;have W:jt h.carts (x::post):=y6 (by rw[<-J];exact G)
  have Y:=U5 q x post (q.length:Nat) rfl;rw[<-J] at Y;obtain⟨V,T,e⟩:=U6 (S:=⟨S.s++L,S.r⟩) (a4:=a4) (a5:=a5) (a6:=a6) (a7:=a7) (cs:=h.carts) Y (by lia) (by lia) (g.nd x hb) (λo m=>by
   rcases W.1 o m with z|z
   .exact Ag _ z
   .exact ng _ z) (ho x hb)
  exact⟨_,_,_,rfl,e,_,_,_,_,_,_,L++[.o (.lst (dS V))],rfl,by unfold bY;rw[jz]⟩)
 refine B ?_;unfold D5;simp only[↓ev,eD,e,ay]
def Mq(g:aH h):(h.carts++h.af.map av.name).Nodup:=by
 refine l6.mpr ⟨g.cn,?_,λa J b hb e=>y9 g.fwd a J (e ▸ hb)⟩
 have:∀{bs:List av},jt h.carts bs->(bs.map av.name).Nodup:=by
  intro bs
  induction bs with
  |nil=>intro _;exact .nil
  |cons b bs Y=>intro f;exact nW.mpr ⟨f.2.1,Y f.2.2.2⟩
 exact this g.fwd
def Xs(g:aH h):P0 D0 [.d (aF h)] (rd (.bl true)):=by
 intro S;have ho:∀b∈h.af,b.outs≠[]:=λb hb z=>by
  rcases g.hd b hb with y|⟨o,y,_⟩
  all_goals simp_all
 have bl:=g.sm.bl;have ct:=g.sm.ct;have nd:=Mq g;have c0:h.carts≠[]:=λz=>by have:=g.c0;rw[z] at this;cases this
 have ln:∀c,S.s.length<(S.s++[c]:List Cell).length:=λc=>by rw[cZ];exact uf _
 have e1:=Xp (S:=⟨S.s++[.o (.ao [])],S.r⟩) (n:=S.s.length) (ks:=[]) (carts:=h.carts) (ln _) g.cm (by rw[Ap];exact g.cn) (by rw[Ak];lia) c0
 have e2:=Xq (S:=⟨S.s++[.o (.ao [])],S.r⟩) (n:=S.s.length) (ks:=h.carts) (bs:=h.af) (ln _) g.nm g.lg nd (by lia)
 have U:∀c:Cell,(S.s++[Cell.o (.ao [])]).set S.s.length c=S.s++[c]:=λc=>F7
 simp only[tk,U,KN] at e1 e2;have k0:mE []=[]:=rfl;rw[k0] at e1;have Y:=TB g ho;have J:=Ψ g;have V:aF h=.tup [.lst (h.af.map au),.lst (dS h.carts)]:=rfl;rw[V] at J ⊢;unfold D0;simp only[↓ev,ay,e1,e2,Y,J]
end
theorem MO(names carts:List Str)(nd:names.Nodup)(U:∀x∈names,x∉carts):∀bs j,j+bs.length=names.length->(∀i b,bs[i]?=some b->b.name=names.getD (j+i) ""/\∀o∈b.outs,o∈names.drop (j+i+1)++carts)->jt carts bs/\bs.map av.name=names.drop j
 |[],j,hl,_=>⟨rA,by rw[List.drop_eq_nil_of_le (by simp at hl;lia)];rfl⟩
 |b::bs,j,hl,h=>by
  rw[jR] at hl;obtain⟨f,e⟩:=MO names carts nd U bs (j+1) (by lia) λi b hb=>by
   have:=h (i+1) b (by simpa using hb)
   rw[show j+(i+1)=j+1+i by lia] at this
   exact this
  obtain⟨Y,W⟩:=h 0 b rfl;rw[Nat.add_zero] at Y W;have V:j<names.length:=by lia
  have ed:names.drop j=names[j]::names.drop (j+1):=LC V;have G:b.name=names[j]:=by rw[Y,yD,gu V];rfl
  have J:(names.drop j).Nodup:=nd.sublist (List.drop_sublist _ _);rw[ed] at J;refine⟨⟨λo ho=>?_,?_,?_,f⟩,by rw[cS,e,G,ed]⟩
  all_goals grind
noncomputable def jG(bs:List av):Int:=(bs.map av.long).sum
theorem C9:∀{bs:List av},(∀b∈bs,b.long<=6)->jG bs<=6*bs.length
 |[],_=>by unfold jG;simp
 |b::bs,h=>by
  have J:=h b (.head _);have Y:=C9 (bs:=bs) λx m=>h x (.tail _ m)
  unfold jG at *;rw[cS,LN,jR];lia
def C8{bs:List av}(hl:bs.length<=5)(h:∀(i:Nat) (b:av),bs[i]?=some b->b.long<=26/\(b.long<=6\/i=0/\bs.length<3)):jG bs<=39:=by
 by_cases z:bs.length<3
 .clear hl;unfold jG;cases bs with
  |nil=>simp
  |cons a l=>
   have:=h 0 a rfl;cases l with
   |nil=>simp;lia
   |cons b l=>
    have:=h 1 b rfl;cases l with
    |nil=>simp;lia
    |cons c l=>simp at z;lia
 .have:=C9 (bs:=bs) λb m=>by
   obtain⟨i,hi⟩:=yz.mp m;have:=h i b hi;lia
  lia
def Xt(ns:List Int):∃h:aA,aH h/\jG h.af<=39/\0<h.af.length/\h.af.length<=5/\h.carts.length<=4/\P0 y8 [.d (bC ns)] (rd (aF h)):=by
 obtain⟨p1,p2,p3⟩:=ik ns 0 0 5 (by decide) (by decide) (by decide)
 obtain⟨q1,q2,q3⟩:=ik ns 0 1 4 (by decide) (by decide) (by decide)
 have hp:=wo ns 0 5 (by decide) (by decide)
 have ho:=ux ns 0 4 (by decide) (by decide)
 obtain⟨n,R⟩:=Aq (show 0<=1+cy ns 0 0 5 by lia)
 obtain⟨c,hc⟩:=Aq (show 0<=1+cy ns 0 1 4 by lia)
 have n5:1<=n/\n<=5:=by lia
 have c4:1<=c/\c<=4:=by lia
 clear p1 p2 p3 q1 q2 q3;have e1:=λq S=>R6 q S ns n (by lia)
 have e2:=λq S=>R7 q S ns c (by lia)
 have nl:((List.range n).map (jv ns 11)).length=n:=by simp
 have cl:((List.range c).map λi=>jv ns 11 (10+i)).length=c:=by simp
 have T:((List.range n).map (jv ns 11)).Nodup:=Nf ns _ LF λi m=>by have:=pI.mp m;lia
 have L:((List.range c).map λi=>jv ns 11 (10+i)).Nodup:=by
  rw[show(λi=>jv ns 11 (10+i))=jv ns 11∘(10+·) from rfl,<-dy]
  refine Nf ns _ ?_ λi m=>?_
  .rw[List.Nodup,Dz];exact LF.imp λne z=>ne (by lia)
  grind
 have dj:∀x∈(List.range n).map (jv ns 11),x∉(List.range c).map λi=>jv ns 11 (10+i):=λx V hc=>by
  obtain⟨i,hi,rfl⟩:=fU.mp V;obtain⟨j,B,e⟩:=fU.mp hc;have h1:=pI.mp hi;have h2:=pI.mp B;have:=Ph ns 11 (by decide) _ _ (by lia) (by lia) e
  lia
 have F0:∀x∈(List.range n).map (jv ns 11),oB x:=λx V=>by
  obtain⟨i,hi,rfl⟩:=fU.mp V;exact MM _ (zH ns 11 (by decide) i).1 (zH ns 11 (by decide) i).2 (Na ns 11 (by decide) i)
 have F:∀x∈(List.range c).map (λi=>jv ns 11 (10+i)),oB x:=λx V=>by
  obtain⟨i,hi,rfl⟩:=fU.mp V;exact MM _ (zH ns 11 (by decide) (10+i)).1 (zH ns 11 (by decide) (10+i)).2 (Na ns 11 (by decide) (10+i))
 generalize(List.range n).map (jv ns 11)=names at *;generalize((List.range c).map λi=>jv ns 11 (10+i))=carts at *
 obtain⟨hand,W⟩:∃x,carts.head?=some x:=by
  cases carts with
  |nil=>simp at cl;lia
  |cons a b=>exact⟨a,rfl⟩
 obtain⟨⟨bs,a4,a5,a6⟩,⟨bl,J⟩,U⟩:=Pd (gg:=ae 4) (body:=og 0) (f:=λ(i:Nat)=>D.int (i:Int)) (λ(b:List av×ai Val×ai Val×ai Val) S=>([ar (bC ns),ar (.lst (dS names)),ar (.lst (dS carts)),aJ S.s.length,b.2.1,b.2.2.1,b.2.2.2],bY S (b.1.map au)))
  (λpre b=>b.1.length=pre.length/\(∀i x,b.1[i]?=some x->x.name=names.getD i ""/\(1<=x.long/\x.long<=26/\(x.long<=6\/i=0/\names.length<3))/\(x.ring=true->2<=x.long)/\nv (names.drop (i+1)) carts hand x.outs)) (List.range (names.length:Int).toNat) ([],none,none,none) ⟨rfl,λi b e=>(by simp at e)⟩ (by
   rintro q i post eq ⟨bs,a4,a5,a6⟩ ⟨bl,J⟩;obtain⟨hq,hi⟩:=EG eq;dsimp only at bl J;have hi:i<names.length:=by lia
   obtain⟨b,I,O,p,t,nC,kZ,e⟩:=Xo ns i names carts hand bs a5 a6 hi (by lia) W (by lia) (by lia)
   refine⟨(bs++[b],bx i,nC,kZ),⟨by show(bs++[b]).length=_;rw[cZ,cZ,bl];rfl,λj b' Y=>?_⟩,λS=>⟨_,rfl,.inl (e S)⟩⟩
   have Y:(bs++[b])[j]?=some b':=Y;by_cases B:j<bs.length
   .rw[nX B] at Y;exact J j b' Y
   .rw[oW (by lia)] at Y
    have:j - bs.length=0:=by
     have:=(dX.mp Y).1;simp at this;lia
    rw[this] at Y;cases Y;have ej:j=i:=by lia
    rw[ej];exact⟨I,O,p,t⟩)
 dsimp only at bl J U;rw[vG] at bl;have U:=λS=>(congrArg (λl=>aM (ae 4) (og 0) l _ _) (mL _)).trans (U S)
 obtain⟨fw,G⟩:=MO names carts T dj bs 0 (by lia) λi b hb=>by
  rw[Nat.zero_add];exact⟨(J i b hb).1,(J i b hb).2.2.2.sub⟩
 rw[List.drop_zero] at G;have gi:∀b∈bs,∃i,bs[i]?=some b:=λb hb=>yz.mp hb
 have hg:carts.getD 0 ""=hand:=by
  cases carts with
  |nil=>cases W
  |cons a b=>cases W;rfl
 refine⟨⟨bs,carts⟩,⟨fw,⟨by show bs.length<=100;lia,by show carts.length<=100;lia,?_⟩,λb hb=>?_,F,λb hb=>?_,λb hb=>?_,L,by show 0<carts.length;lia,λb hb=>?_⟩,C8 (bs:=bs) (by lia) λi b hi=>⟨(J i b hi).2.1.2.1,(J i b hi).2.1.2.2.imp_right λz=>⟨z.1,by lia⟩⟩,by show 0<bs.length;lia,by show bs.length<=5;lia,by show carts.length<=4;lia,λS=>Tt S ns _ _ names carts a4 a5 a6 _ hp ho (by rw[R];exact LM (by lia)) (by rw[hc];exact LM (by lia)) (names.length:Int) (by rw[ba]) (LM (by lia)) (by rw[R];exact e1) (by rw[hc];exact e2) (U S)⟩
 .have:=Og (bs:=bs) λb hb=>by
   obtain⟨i,hi⟩:=gi b hb;exact(J i b hi).2.2.2.len
  lia
 .exact F0 _ (by rw[<-G];exact l7 hb)
 .obtain⟨i,hi⟩:=gi b hb;exact⟨(J i b hi).2.1.1,(J i b hi).2.2.1⟩
 .obtain⟨i,hi⟩:=gi b hb;show carts.getD 0 ""∈b.outs\/∃o∈b.outs,o∈bs.map av.name;rw[hg,G];rcases(J i b hi).2.2.2.hand with z|⟨o,z1,z2⟩
  .exact .inl z
  .exact .inr ⟨o,z1,LK z2⟩
 .obtain⟨i,hi⟩:=gi b hb;exact(J i b hi).2.2.2.nd
section
variable{h:aA}
def e8f{q:Nat}{b:av}{d0:ai Val}(hb:(b.name == n)=false):yT q [d0,aY n,ar (au b)] S=some (.nx [d0,aY n,ar (au b)] S):=by
 unfold yT au;simp only[↓ev,ay,hb]
def Ω{q:Nat}{b:av}{d0:ai Val}(hb:(b.name == n)=true):yT q [d0,aY n,ar (au b)] S=some (.rt (rd (au b)) S):=by
 unfold yT au;simp only[↓ev,ay,hb]
def zj(g:aH h){b:av}(hb:b∈h.af):Pr v3 [.d (aF h),cD b.name] (rd (au b)):=by
 intro q S;obtain⟨d,r,Y⟩:=List.append_of_mem hb;have e:aM (ae 2) (yT q) (h.af.map au) [ar (aF h),aY b.name,none] S=some (.rt (rd (au b)) S):=by
  rw[Y];refine Ik (f:=au) (λ_ U S'=>∃a,U=[ar (aF h),aY b.name,a]/\S'=S) d [] _ _ ⟨_,rfl,rfl⟩ ?_ ?_
  .rintro d' y r' J U S' ⟨a,rfl,rfl⟩;refine⟨_,_,_,rfl,.inl (e8f ?_),_,rfl,rfl⟩;rw[oY];intro z;have G:y∈d:=by rw[Ap] at J;rw[J];simp
   have e2:=Bc g.fwd y (by rw[Y];simp[G]) b hb z
   have nd:=(l6.mp (Mq g)).2.1
   grind
  .rintro U S' ⟨a,rfl,rfl⟩;exact⟨_,rfl,Ω (rq _)⟩
 have V:aF h=.tup [.lst (h.af.map au),.lst (dS h.carts)]:=rfl;rw[V] at e ⊢;unfold v3;simp only[↓ev,ay,Nat.max_zero,e]
def Nj(g:aH h):Pr A7 [.d (aF h)] (rd (aF h)):=by
 intro q S;have bl:=g.sm.bl;have Y:=wd h.af (by lia)
 have e:∀q S,bF (ae 0) (iw true) (Hs q) (dS (h.af.map av.name)) [none,ar (aF h)] S []=some (.ok (h.af.map au) S):=λq S=>by
  rw[dS,dy,qk au h.af (by lia) λb m=>⟨rd (au b),by
   have hb:=zj g m;unfold Hs;simp only[↓ev,Function.comp,hb],rfl⟩]
 have J:aF h=.tup [.lst (h.af.map au),.lst (dS h.carts)]:=rfl;rw[J] at e ⊢;unfold A7;simp only[↓ev,ay,Y,e]
end
def U7:atrs.contains (cHall,("built":Str))=true:=by decide +kernel
def Q_:atrs.contains (cHall,("told_rounds":Str))=true:=by decide +kernel
def γ:atrs.contains (cHall,("now":Str))=true:=by decide +kernel
def Xu:atrs.contains (cHall,("book":Str))=true:=by decide +kernel
def U8:atrs.contains (cHall,("halts":Str))=true:=by decide +kernel
def TC:atrs.contains (cHall,("places":Str))=true:=by decide +kernel
def Rw:atrs.contains (cHall,("readings":Str))=true:=by decide +kernel
def Sa:atrs.contains (cHall,("rounded":Str))=true:=by decide +kernel
def Xv:atrs.contains (cHall,("gone":Str))=true:=by decide +kernel
def TF:atrs.contains (cHall,("carted":Str))=true:=by decide +kernel
section
variable{d0 Q d2 J Y V U G W v:D}
def Kw:gj "told_rounds" v [(("built":Str),d0)]=[(("built":Str),d0),(("told_rounds":Str),v)]:=by kernel_rfl
def Kx:gj "now" v [(("built":Str),d0),(("told_rounds":Str),Q)]=[(("built":Str),d0),(("told_rounds":Str),Q),(("now":Str),v)]:=by kernel_rfl
def Ky:gj "book" v [(("built":Str),d0),(("told_rounds":Str),Q),(("now":Str),d2)]=[(("built":Str),d0),(("told_rounds":Str),Q),(("now":Str),d2),(("book":Str),v)]:=by kernel_rfl
def Kz:gj "halts" v [(("built":Str),d0),(("told_rounds":Str),Q),(("now":Str),d2),(("book":Str),J)]=[(("built":Str),d0),(("told_rounds":Str),Q),(("now":Str),d2),(("book":Str),J),(("halts":Str),v)]:=by kernel_rfl
def KA:gj "places" v [(("built":Str),d0),(("told_rounds":Str),Q),(("now":Str),d2),(("book":Str),J),(("halts":Str),Y)]=[(("built":Str),d0),(("told_rounds":Str),Q),(("now":Str),d2),(("book":Str),J),(("halts":Str),Y),(("places":Str),v)]:=by kernel_rfl
def KC:gj "readings" v [(("built":Str),d0),(("told_rounds":Str),Q),(("now":Str),d2),(("book":Str),J),(("halts":Str),Y),(("places":Str),V)]=[(("built":Str),d0),(("told_rounds":Str),Q),(("now":Str),d2),(("book":Str),J),(("halts":Str),Y),(("places":Str),V),(("readings":Str),v)]:=by kernel_rfl
def KD:gj "rounded" v [(("built":Str),d0),(("told_rounds":Str),Q),(("now":Str),d2),(("book":Str),J),(("halts":Str),Y),(("places":Str),V),(("readings":Str),U)]=[(("built":Str),d0),(("told_rounds":Str),Q),(("now":Str),d2),(("book":Str),J),(("halts":Str),Y),(("places":Str),V),(("readings":Str),U),(("rounded":Str),v)]:=by kernel_rfl
def KG:gj "gone" v [(("built":Str),d0),(("told_rounds":Str),Q),(("now":Str),d2),(("book":Str),J),(("halts":Str),Y),(("places":Str),V),(("readings":Str),U),(("rounded":Str),G)]=[(("built":Str),d0),(("told_rounds":Str),Q),(("now":Str),d2),(("book":Str),J),(("halts":Str),Y),(("places":Str),V),(("readings":Str),U),(("rounded":Str),G),(("gone":Str),v)]:=by kernel_rfl
def KH:gj "carted" v [(("built":Str),d0),(("told_rounds":Str),Q),(("now":Str),d2),(("book":Str),J),(("halts":Str),Y),(("places":Str),V),(("readings":Str),U),(("rounded":Str),G),(("gone":Str),W)]=[(("built":Str),d0),(("told_rounds":Str),Q),(("now":Str),d2),(("book":Str),J),(("halts":Str),Y),(("places":Str),V),(("readings":Str),U),(("rounded":Str),G),(("gone":Str),W),(("carted":Str),v)]:=by kernel_rfl
end
noncomputable def hF(hd:D)(r now:Int)(n:Nat):List (Str×D):=[("built",hd),("told_rounds",.int r),("now",.int now),("book",.ref (n+1)),("halts",.ref (n+2)),("places",.ref (n+3)),("readings",.ref (n+4)),("rounded",.ref (n+5)),("gone",.ref (n+6)),("carted",.ref (n+7))]
section
variable{S:aU}{h:aA}{r:Int}
def δ(g:aH h):Ba 0 [.d (.ref S.r.length),.d (aF h),aT r] ⟨S.s,S.r++[.ins cHall []]⟩=some (.ok (rd .aI) ⟨S.s,S.r++[.ins cHall (hF (aF h) r 0 S.r.length),.o (.ao []),.o (.ao []),.o (.ao []),.o (.ao []),.o (.ao []),.o (.lst []),.o (.ao [])]⟩):=by
 have e1:=Xs g;have e2:=Nj g;generalize aF h=hd at *;unfold Ba hF;simp only[↓ev,e1,e2,ay,U7,Q_,Kw,γ,Kx,Xu,Ky,U8,Kz,TC,KA,Rw,KC,Sa,KD,Xv,KG,TF,KH]
end
def Xw(a b:Str):decide ((TK.inr a:TK)=TK.inr b)=(a == b):=by
 lia
theorem A2{α:Type}(e:TK×α)(es:List (TK×α))(k:TK)(v:α):bP (e::es) k v=if e.1=k then(e.1,v)::es else e::bP es k v:=rfl
section
variable{α:Type}{k:α->Str}{v:α->D}{xs:List α}{b:Str}{y:D}
noncomputable def td(k:α->Str)(v:α->D)(xs:List α):List (TK×D):=xs.map λx=>(.inr (k x),v x)
def kX:(td k v xs).length=xs.length:=ba ..
theorem Bw(b:Str):∀xs:List α,aG (td k v xs) (.inr b)=(xs.find? λx=>k x == b).map v
 |[]=>rfl
 |x::xs=>by
  have J:=Bw b xs;unfold aG td at *;rw[cS,Ao,Ao];dsimp only;rw[Xw];cases(k x == b) with
  |true=>rfl
  |false=>exact J
def gP{x:α}(nd:(xs.map k).Nodup)(J:x∈xs):aG (td k v xs) (.inr (k x))=some (v x):=by
 rw[Bw];have:xs.find? (λz=>k z == k x)=some x:=by
  induction xs with
  |nil=>cases J
  |cons z V Y=>
   grind
 simp_all
theorem ε(b:Str)(xs:List α):(b∉xs.map k/\aG (td k v xs) (.inr b)=none)\/∃x∈xs,k x=b/\aG (td k v xs) (.inr b)=some (v x):=by
 rw[Bw];cases e:xs.find? (λx=>k x == b) with
 |none=>
  simp_all
 |some x=>exact .inr ⟨x,Ar e,by have:=GC e;exact beq_iff_eq.mp this,rfl⟩
def By(h:b∉xs.map k):bP (td k v xs) (.inr b) y=td k v xs++[(.inr b,y)]:=by
 induction xs with
 |nil=>rfl
 |cons x xs J=>
  grind [td,A2]
def Bz(nd:(xs.map k).Nodup)(h:b∈xs.map k):bP (td k v xs) (.inr b) y=td k (λx=>if k x=b then y else v x) xs:=by
 induction xs with
 |nil=>cases h
 |cons x xs J=>
  rw[cS,nW] at nd;unfold td at *;rw[cS,cS,A2];dsimp only;by_cases e:k x=b
  .rw[bJ (by rw[e]),bJ e]
   congr 1
   refine lY λz m=>?_
   rw[bq λe2=>nd.1 (by rw[e,<-e2];exact l7 m)]
  .rw[bq (λe2=>e (TK.inr.inj e2)),bq e,J nd.2]
   rcases y0c.mp h with z|z
   .exact cQ z.symm e
   .exact z
def zy:df (td k v xs) b=td k v (xs.filter λx=>decide (k x≠b)):=by
 unfold df td;rw[List.filter_map]
 congr 1
 refine List.filter_congr λx _=>?_
 unfold i7;dsimp only[Function.comp];exact decide_eq_decide.mpr (not_congr ⟨λz=>TK.inr.inj z,λz=>congrArg TK.inr z⟩)
def E1:(td k v xs).map (·.1.d)=dS (xs.map k):=by
 unfold td dS;rw[dy,dy];refine lY λx _=>?_
 simp[TK.d]
def sM:eU (td k v xs)=true:=by
 unfold td eU;rw[DH];exact jS.mpr λx _=>rfl
end
section
variable{hd:D}{r nw v:Int}{n:Nat}
def ζ:gj "now" (.int v) (hF hd r nw n)=hF hd r v n:=by kernel_rfl
end
variable{hd:D}
structure Row where
 bag:Str
 b:Str
 i:Int
 fl:ai Str
 gn:Int
instance:Inhabited Row:=⟨"","",0,none,0⟩
structure Hl where
 now:Int
 book:List (Str×Str×Int)
 halts:List Str
 rows:List Row
 gone:List (Str×Str×Int)
noncomputable def aN:ai Str->D
 |none=>.aI
 |some x=>.str x
noncomputable abbrev pl(b:Str)(i:Int):D:=.tup [.str b,.int i]
noncomputable def t3(p:Str×Str×Int):D:=.tup [.str p.1,.str p.2.1,.int p.2.2]
def jZ(l:List (Str×Str×Int)):List (TK×D):=td (·.1) t3 l
def ib(l:List Row):List (TK×D):=td Row.bag (λr=>pl r.b r.i) l
def iA(l:List Row):List (TK×D):=td Row.bag (λr=>aN r.fl) l
def kD(l:List Row):List (TK×D):=td Row.bag (λr=>.int r.gn) l
def wG(l:List (Str×Str×Int)):List (TK×D):=td (·.1) (λp=>.str p.2.1) l
def l0(l:List (Str×Str×Int)):List D:=l.map t3
abbrev hR(hd:D)(r:Int)(x:Hl)(B:List Cell):List Cell:=.ins cHall (hF hd r x.now 0)::.o (.ao (jZ x.book))::.o (.ao (mE x.halts))::.o (.ao (ib x.rows))::.o (.ao (iA x.rows))::.o (.ao (kD x.rows))::.o (.lst (l0 x.gone))::.o (.ao (wG x.gone))::B
abbrev hS(B:List Cell)(hd:D)(r:Int)(x:Hl)(s:List Cell):aU:=⟨s,hR hd r x B⟩
section
variable{s B:List Cell}{h:aA}{r:Int}{x:Hl}{q:Nat}{b:Str}
def U9(g:aH h):Eu q [eB] (hS B (aF h) r x s)=some (.ok (rd (aF h)) (hS B (aF h) r x s)):=by
 have e2:=Nj g;unfold Eu;generalize aF h=hd at *;simp only[↓ev,hR,ay,e2]
def MP:Ei q [eB] (hS B hd r x s)=some (.ok (rd (.int r)) (hS B hd r x s)):=by
 unfold Ei;simp only[↓ev,hR,ay]
def Pk:zv q [eB] (hS B hd r x s)=some (.ok (.o (.lst (l0 x.gone))) (hS B hd r x s)):=by
 unfold zv;simp only[↓ev,hR,ay]
def y_(g:aH h){v:Bool}(hb:(h.af.map av.name).contains b=v):yP q [eB,cD b] (hS B (aF h) r x s)=some (if v=true then .ok (rd .aI) (hS B (aF h) r x s) else .ex 116 none (hS B (aF h) r x s)):=by
 have bl:=g.sm.bl;have J:=wd h.af (by lia)
 unfold yP aF;cases v with
 |true=>simp only[↓ev,hR,ay,J,d_,eM,hb]
 |false=>simp only[↓ev,hR,ay,J,d_,eM,hb]
def zI{α:Type}{k:α->Str}{v:α->D}{xs:List α}:(aG (td k v xs) (.inr b)).isSome=(xs.map k).contains b:=by
 grind [ε]
def U_(q:Nat)(ns:List Str)(hl:ns.length<=1000):bF (ae 0) (Ha q) (Hb q) (dS ns) [none,cR] (hS B hd r x s) []=some (.ok (dS (ns.filter λn=>x.halts.contains n)) (hS B hd r x s)):=by
 rw[dS,sR (λo=>if x.halts.contains o=true then some (.str o) else none) ns (by lia) λo m=>by
  have v:=uz o x.halts;unfold Ha Hb;cases hc:x.halts.contains o with
  |true=>
   rw[hc] at v;exact .inr ⟨rd (.str o),.str o,rfl,by simp only[↓ev,hR,ay,v],by simp only[↓ev],rfl⟩
  |false=>
   rw[hc] at v;exact .inl ⟨rfl,by simp only[↓ev,hR,ay,v]⟩]
 congr 2
 induction ns with
 |nil=>rfl
 |cons o ns J=>
  grind
noncomputable def bG(h:aA)(x:Hl):List Str:=(h.af.map av.name).filter λn=>x.halts.contains n
def HH(g:aH h):yW q [eB] (hS B (aF h) r x s)=some (.ok (.o (.lst (dS (bG h x)))) (hS B (aF h) r x s)):=by
 have bl:=g.sm.bl;have J:=wd h.af (by lia)
 have e:=λq=>U_ (B:=B) (s:=s) (r:=r) (x:=x) (hd:=aF h) q (h.af.map av.name) (by rw[ba];lia)
 unfold yW bG aF at *;simp only[↓ev,hR,ay,J,e]
end
variable{h:aA}{b:Str}{S:aU}
def rk(h:aA)(b:Str):Int:=((findS (h.af.map av.name) b).getD 0:Nat)
theorem HV:∀xs:List Str,eK (dS xs)=some xs
 |[]=>rfl
 |x::xs=>by
  have J:=HV xs;show(eK (D.str x::dS xs))=_;unfold eK;rw[J];rfl
def η(hb:b∈h.af.map av.name):jo (.lst (dS (h.af.map av.name))) (.str b)=some (rd (.int (rk h b))):=by
 obtain⟨j,J⟩:=A1 hb;show(eK (dS _)).bind _=_;unfold rk;rw[HV,vE,J];rfl
def θ{c:Str}(hb:b∈h.af.map av.name)(hc:c∈h.af.map av.name)(e:rk h b=rk h c):b=c:=by
 obtain⟨j,Y⟩:=A1 hb;obtain⟨k,V⟩:=A1 hc;unfold rk at e;rw[Y,V] at e;have e:((j:Nat):Int)=(k:Nat):=e;have e:j=k:=by lia
 have J:=(yY Y).1;have U:=(yY V).1;rw[e,U] at J;exact(Option.some.inj J).symm
def kW(h:aA)(r:Row):Prop:=∃bt∈h.af,bt.name=r.b/\0<=r.i/\r.i<bt.long/\0<=r.gn
def kW.nm{r:Row}(o:kW h r):r.b∈h.af.map av.name:=by
 obtain⟨bt,hb,e,_⟩:=o;rw[<-e];exact l7 hb
def mO(h:aA)(r:Row):D:=.tup [.int (rk h r.b),.int r.i,.str r.bag]
def jr(h:aA)(r:Row):Int×Int:=(rk h r.b,r.i)
def ord(h:aA)(rows:List Row):List Row:=if rows.length<2 then rows else(dB (rows.map (jr h))).map λj=>rows.getD j default
theorem Nk(h:aA):∀rows:List Row,km (rows.map (mO h))=some (rows.map (jr h))
 |[]=>rfl
 |r::rows=>by
  have J:=Nk h rows;show km (D.tup [.int (rk h r.b),.int r.i,.str r.bag]::rows.map (mO h))=_;show(km (rows.map (mO h))).map _=_;rw[J];rfl
def Nl{rows:List Row}(nd:(rows.map (jr h)).Nodup):(ord h rows).Perm rows:=by
 unfold ord;split
 .rfl
 .rename_i hl
  obtain⟨p,_⟩:=A4 nd (by rw[ba];lia)
  rw[ba] at p;refine(p.map _).trans ?_;have:(List.range rows.length).map (λj=>rows.getD j default)=rows:=by
   refine LH λi=>?_
   rw[fB];by_cases hi:i<rows.length
   .rw[yA hi,gu hi];simp[hi]
   .rw[vI (by simp;lia),vI (by lia)]
    rfl
  rw[this]
def ι(rows:List Row):(List.range (ib rows).length).map (λi=>D.tup ((((ib rows)[i]?).map λp=>[p.1.d,p.2]).getD []))=rows.map λr=>.tup [.str r.bag,pl r.b r.i]:=by
 unfold ib;refine LH λi=>?_
 rw[kX,fB,fB];by_cases hi:i<rows.length
 .rw[yA hi,gu hi];unfold td;rw[Am,Am,fB,gu hi];simp[TK.d]
 .rw[vI (by simp;lia),vI (by lia)]
  rfl
section
variable{s B:List Cell}{h:aA}{r:Int}{x:Hl}{q:Nat}
def Xx(q:Nat)(rows:List Row)(hl:rows.length<=1000)(ho:∀w∈rows,kW h w):bF (bc [(ae 0),(ae 1)]) (iw true) (G6 q) (rows.map λw=>.tup [.str w.bag,pl w.b w.i]) [none,none,ar (.lst (dS (h.af.map av.name)))] S []=some (.ok (rows.map (mO h)) S):=by
 rw[Fh (λw=>some (mO h w)) (λU=>∃a b,U=[a,b,ar (.lst (dS (h.af.map av.name)))]) rows _ [] ⟨_,_,rfl⟩ (by rw[Ak];lia) λw m U ⟨a,b,J⟩=>⟨[aY w.bag,ar (pl w.b w.i),ar (.lst (dS (h.af.map av.name)))],by rw[J];rfl,⟨_,_,rfl⟩,.inr ⟨rd (mO h w),mO h w,rfl,rfl,by
   have hi:=η (ho w m).nm;unfold G6 mO;simp only[↓ev,ay,hi],rfl⟩⟩,List.filterMap_eq_map',Ap]
def Xy(q:Nat)(l:List Row)(hl:l.length<=1000):bF (ae 0) (iw true) (G7 q) (l.map (mO h)) [none] S []=some (.ok (dS (l.map Row.bag)) S):=by
 rw[qk (λw=>.str w.bag) l (by lia) λw m=>⟨rd (.str w.bag),by unfold G7 mO;simp only[↓ev,ay],rfl⟩]
 unfold dS;rw[dy];rfl
def Xz(g:aH h)(nd:(x.rows.map (jr h)).Nodup)(hl:x.rows.length<64)(ho:∀w∈x.rows,kW h w):AO q [eB] (hS B (aF h) r x s)=some (.ok (.o (.lst (dS ((ord h x.rows).map Row.bag)))) (hS B (aF h) r x s)):=by
 have bl:=g.sm.bl;have G:=wd h.af (by lia)
 have e1:=λq=>Xx (S:=hS B (aF h) r x s) q x.rows (by lia) ho
 have e2:=ι x.rows;have pl:=(Nl nd).length_eq;have J:=λq=>Xy (h:=h) (S:=hS B (aF h) r x s) q (ord h x.rows) (by lia)
 have U:eU (ib x.rows)=true:=sM;by_cases lt:x.rows.length<2
 .have Y:((x.rows.map (mO h)).length<2)=True:=br (by rw[ba];exact lt)
  have V:ord h x.rows=x.rows:=bJ lt;rw[V] at J ⊢;unfold AO aF at *;generalize(x.rows.map (mO h))=l1 at *;simp only[↓ev,hR,ay,G,U,e2,e1,Y,J]
 .have Y:((x.rows.map (mO h)).length<2)=False:=eq_false (by rw[ba];exact lt)
  have V:=Nk h x.rows;have W:((x.rows.map (jr h)).Nodup/\(x.rows.map (jr h)).length<64)=True:=br ⟨nd,by rw[ba];exact hl⟩
  have F:k8 (x.rows.map (mO h)) (dB (x.rows.map (jr h)))=(ord h x.rows).map (mO h):=by
   unfold ord k8;rw[bq lt,dy];refine lY λj m=>?_
   have p:=(A4 nd (by rw[ba];lia)).1
   have T:j<x.rows.length:=by
    have:=pI.mp (p.mem_iff.mp m)
    rwa[ba] at this
   simp[T]
  unfold AO aF at *;generalize(x.rows.map (mO h))=l1 at *;generalize((ord h x.rows).map (mO h))=l2 at *;generalize(x.rows.map (jr h))=ks at *;simp only[↓ev,hR,ay,G,U,e2,e1,Y,V,W,F,J]
end
variable{hd:D}
structure Ok (h:aA) (n:Nat) (x:Hl):Prop where
 rw:∀w∈x.rows,kW h w/\oB w.bag/\∀f,w.fl=some f->f∈x.book.map (·.1)
 nd:(x.rows.map Row.bag++x.gone.map (·.1)).Nodup
 un:(x.rows.map λw=>(w.b,w.i)).Nodup
 bk:∀p∈x.book,p.2.1∈h.carts.drop 1
 bn:(x.book.map (·.1)).Nodup
 gi:∀p∈x.gone,oB p.1
 rl:x.rows.length<=8
 sz:x.book.length+x.halts.length+x.rows.length+x.gone.length<=n
def bI(w:Row):D:=.tup [.str w.bag,aN w.fl,pl w.b w.i,.int w.gn]
section
variable{s B:List Cell}{h:aA}{r:Int}{x:Hl}{q n:Nat}{w:Row}
def Ok.nb(o:Ok h n x):(x.rows.map Row.bag).Nodup:=(l6.mp o.nd).1
def Ok.nk(o:Ok h n x):(x.rows.map (jr h)).Nodup:=by
 have e:=o.un;rw[List.Nodup,Dz] at e ⊢;refine e.imp_of_mem λ{a b} V mb ne z=>ne ?_
 have J:=congrArg Prod.fst z;have Y:=congrArg Prod.snd z;rw[show a.b=b.b from θ (o.rw a V).1.nm (o.rw b mb).1.nm J,show a.i=b.i from Y]
def Ok.perm(o:Ok h n x):(ord h x.rows).Perm x.rows:=Nl o.nk
def Ok.mem(o:Ok h n x):w∈ord h x.rows↔w∈x.rows:=o.perm.mem_iff
def TH(q:Nat)(nb:(x.rows.map Row.bag).Nodup)(l:List Row)(hl:l.length<=1000)(hm:∀w∈l,w∈x.rows):bF (ae 0) (iw true) (Ht q) (dS (l.map Row.bag)) [none,cR] (hS B hd r x s) []=some (.ok (l.map bI) (hS B hd r x s)):=by
 rw[show dS (l.map Row.bag)=l.map λw=>.str w.bag by unfold dS;rw[dy];rfl,qk bI l (by lia) λw m=>⟨rd (bI w),by
  have J:aG (ib x.rows) (.inr w.bag)=_:=gP nb (hm w m);have Y:aG (iA x.rows) (.inr w.bag)=_:=gP nb (hm w m);have V:aG (kD x.rows) (.inr w.bag)=_:=gP nb (hm w m);unfold Ht bI;generalize aN w.fl=U at *;simp only[↓ev,hR,ay,Y,J,V],rfl⟩]
def zJ(g:aH h)(o:Ok h n x):rK q [eB] (hS B (aF h) r x s)=some (.ok (.o (.lst ((ord h x.rows).map bI))) (hS B (aF h) r x s)):=by
 have rl:=o.rl;have e1:=λq=>Xz (B:=B) (s:=s) (r:=r) (q:=q) g o.nk (by lia) λw m=>(o.rw w m).1
 have e2:=λq=>TH (B:=B) (s:=s) (r:=r) (hd:=aF h) q o.nb (ord h x.rows) (by rw[o.perm.length_eq];lia) λw m=>o.mem.mp m
 generalize aF h=hd at *;unfold rK;simp only[↓ev,hR,ay,e1,e2]
def XA(q:Nat)(Y:oB w.bag)(hw:w∈x.rows)(nb:(x.rows.map Row.bag).Nodup):vW q [eB,cD w.bag] (hS B hd r x s)=some (.ok (rd .aI) (hS B hd r x s)):=by
 have J:aG (ib x.rows) (.inr w.bag)=_:=gP nb hw;unfold vW;simp only[↓ev,Y,ay,hR,J]
end
noncomputable def nH(kn:List (Str×Int)):List (TK×D):=kn.map λp=>(.inr p.1,.int p.2)
noncomputable def atS(kn:List (Str×Int))(n:Str):ai Int:=(kn.find? λp=>p.1 == n).map (·.2)
theorem Oh(x:Str):atS [] x=none:=rfl
theorem v_(k:Str)(v:Int)(kn:List (Str×Int))(x:Str):atS ((k,v)::kn) x=if k=x then some v else atS kn x:=by
 grind [atS]
theorem EH(k:Str)(v:Int)(x:Str):∀kn:List (Str×Int),atS (kn++[(k,v)]) x=(atS kn x).or (if k=x then some v else none)
 |[]=>by rw[Ap,v_,Oh,GD]
 |(k',J)::kn=>by
  rw[List.cons_append,v_,v_,EH k v x kn];split
  .rfl
  .rfl
theorem Bo(x:Str):∀kn:List (Str×Int),aG (nH kn) (.inr x)=(atS kn x).map .int
 |[]=>rfl
 |(k,v)::kn=>by
  have J:=Bo x kn
  grind [v_,aG,nH]
def pg0{a:TK}{y:D}:bP [] a y=[(a,y)]:=rfl
theorem Oi:∀kn k v,atS kn k=none->bP (nH kn) (.inr k) (.int v)=nH (kn++[(k,v)])
 |[],_,_,_=>rfl
 |(k',J)::kn,k,v,h=>by
  rw[v_] at h;have e:¬k'=k:=λz=>by rw[bJ z] at h;cases h
  rw[bq e] at h;show bP ((TK.inr k',D.int J)::nH kn) (.inr k) (.int v)=(TK.inr k',D.int J)::nH (kn++[(k,v)]);rw[<-Oi kn k v h,A2,bq (λz=>e (TK.inr.inj z))]
def de(kn:List (Str×Int))(outs:List Str):List Int:=outs.filterMap (atS kn)
def aX(ax:Str):List av->List (Str×Int)
 |[]=>[(ax,0)]
 |b::bs=>if de (aX ax bs) b.outs=[] then aX ax bs else aX ax bs++[(b.name,b.long+e_ (de (aX ax bs) b.outs))]
theorem Nm(ax:Str):∀bs:List av,(aX ax bs).length<=bs.length+1
 |[]=>bU _
 |b::bs=>by
  have:=Nm ax bs;unfold aX;split
  .rw[jR];lia
  .rw[cZ,sj,jR];lia
theorem EI{ax:Str}:∀{bs:List av} {n:Str},n≠ax->n∉bs.map av.name->atS (aX ax bs) n=none
 |[],n,Y,_=>by
  show atS [(ax,0)] n=none
  grind [v_,Oh]
 |b::bs,n,Y,J=>by
  rw[cS] at J;have U:n≠b.name:=λz=>J (by rw[z];exact .head _)
  have V:=EI (ax:=ax) (bs:=bs) Y λz=>J (.tail _ z)
  unfold aX;split
  .exact V
  .rw[EH,V,bq (λz=>U z.symm)];rfl
theorem XB(kn:List (Str×Int)):∀outs:List Str,(outs.filterMap λo=>(atS kn o).map D.int)=(de kn outs).map D.int
 |[]=>rfl
 |o::outs=>by
  grind [de]
abbrev lP(S:aU)(kn:List (Str×Int)):aU:=⟨S.s++[.o (.ao (nH kn))],S.r⟩
section
variable{S:aU}{kn:List (Str×Int)}{outs:List Str}{g0 g1 a7:ai Val}{x:av}
def Nn(q:Nat)(h:outs.length<=1000):bF (ae 0) (Hm q) (Ho q) (dS outs) [none,aJ S.s.length] (lP S kn) []=some (.ok ((de kn outs).map D.int) (lP S kn)):=by
 rw[dS,sR (λo=>(atS kn o).map D.int) outs (by lia) λo m=>by
  have v:=Bo o kn;unfold Hm Ho;cases hc:atS kn o with
  |some w=>
   rw[hc] at v;exact .inr ⟨rd (.int w),.int w,rfl,by simp only[↓ev,ay,v,sr],by simp only[↓ev,ay,v],rfl⟩
  |none=>
   rw[hc] at v;exact .inl ⟨rfl,by simp only[↓ev,ay,v,vH]⟩,XB]
def μ(ho:x.outs.length<=1000)(hb:de kn x.outs=[]):yZ 0 [g0,g1,aJ S.s.length,aY x.name,bx x.long,ar (.bl x.ring),ar (.lst (dS x.outs)),a7] (lP S kn)=some (.nx [g0,g1,aJ S.s.length,aY x.name,bx x.long,ar (.bl x.ring),ar (.lst (dS x.outs)),ar (.lst [])] (lP S kn)):=by
 have e:=λq=>Nn (S:=S) (kn:=kn) q ho
 rw[hb] at e;unfold yZ;simp only[↓ev,eD,ay,e]
def XC(ho:x.outs.length<=1000){i:Int}{J:List Int}(hb:de kn x.outs=i::J)(Y:atS kn x.name=none)(hl:((nH kn).length<1000000)=True):yZ 0 [g0,g1,aJ S.s.length,aY x.name,bx x.long,ar (.bl x.ring),ar (.lst (dS x.outs)),a7] (lP S kn)=some (.nx [g0,g1,aJ S.s.length,aY x.name,bx x.long,ar (.bl x.ring),ar (.lst (dS x.outs)),ar (.lst ((i::J).map D.int))] (lP S (kn++[(x.name,x.long+e_ (i::J))]))):=by
 have e:=λq=>Nn (S:=S) (kn:=kn) q ho
 rw[hb] at e;have p:=Oi kn x.name (x.long+e_ (i::J)) Y;have z:((i::J).map D.int).isEmpty=false:=rfl;have m:=HE (i::J);have ne:((i::J)=[])=False:=eq_false (List.cons_ne_nil _ _);generalize(i::J).map D.int=l at *;unfold yZ;simp only[↓ev,eD,ay,e,z,m,ne,hl,p]
def Np(g:aH h){ax:Str}(hc:ax∈h.carts):P0 A5 [.d (aF h),cD ax] (.o (.ao (nH (aX ax h.af)))):=by
 intro S;have bl:=g.sm.bl;have ou:=g.sm.ou;have f:=g.fwd;refine kY λB=>?_
 obtain⟨T,S',e,a3,a4,a5,a6,a7,rfl,rfl⟩:=f_ (bc [(ae 3),(ae 4),(ae 5),(ae 6)]) (yZ 0) au (lP S (aX ax [])) (λpre U S'=>∃a3 a4 a5 a6 a7,U=[ar (aF h),aY ax,aJ S.s.length,a3,a4,a5,a6,a7]/\S'=lP S (aX ax pre.reverse)) h.af.reverse ⟨none,none,none,none,none,rfl,rfl⟩ (by
  rintro q x post R U S' ⟨a3,a4,a5,a6,a7,rfl,rfl⟩;have V:h.af=post.reverse++x::q.reverse:=by
   simp_all
  have Y:jt h.carts (x::q.reverse):=y6 (by rw[<-V];exact f)
  have ho:x.outs.length<=1000:=by
   grind
  have W:atS (aX ax q.reverse) x.name=none:=EI (λz=>Y.2.2.1 (z ▸ hc)) Y.2.1
  have hl:(aX ax q.reverse).length<=1000:=by
   grind [Nm]
  rw[List.reverse_append,List.reverse_singleton,List.singleton_append];have J:aX ax (x::q.reverse)=if de (aX ax q.reverse) x.outs=[] then aX ax q.reverse else aX ax q.reverse++[(x.name,x.long+e_ (de (aX ax q.reverse) x.outs))]:=by
   rfl
  rw[J];generalize aX ax q.reverse=kn at *;cases hb:de kn x.outs with
  |nil=>exact⟨_,_,_,rfl,.inl (μ ho hb),_,_,_,_,_,rfl,by rw[bJ rfl]⟩
  |cons i L=>exact⟨_,_,_,rfl,.inl (XC ho hb W (br (by unfold nH;rw[ba];lia))),_,_,_,_,_,rfl,by rw[bq (List.cons_ne_nil _ _)]⟩)
 rw[List.reverse_reverse,List.map_reverse,show lP S (aX ax [])=⟨S.s++[.o (.ao [(.inr ax,.int 0)])],S.r⟩ from rfl] at e;have G:aF h=.tup [.lst (h.af.map au),.lst (dS h.carts)]:=rfl;have F:∀c:Cell,(S.s++[c]).take S.s.length=S.s:=λc=>List.take_left
 refine B ?_;rw[G] at e ⊢;unfold A5;simp only[↓ev,ay,yE,pg0,List.foldl_nil,F,eD,e]
end
variable{ax:Str}{kn:List (Str×Int)}{outs:List Str}{best:ai Str}
theorem EJ:∀{bs:List av},jt carts bs->∀b∈bs,∀o∈b.outs,o∈bs.map av.name\/o∈carts
 |x::bs,f,b,hb,o,ho=>by
  rcases y0c.mp hb with rfl|hb
  .rcases f.1 o ho with z|z
   .exact .inl (.tail _ z)
   .exact .inr z
  .rcases EJ f.2.2.2 b hb o ho with z|z
   .exact .inl (.tail _ z)
   .exact .inr z
def yX{x:av}{bs:List av}(h:n≠x.name):atS (aX ax (x::bs)) n=atS (aX ax bs) n:=by
 grind [aX,EH]
def Hw{kn':List (Str×Int)}(h:∀o∈outs,atS kn o=atS kn' o):de kn outs=de kn' outs:=by
 unfold de
 induction outs with
 |nil=>rfl
 |cons o outs J=>
  have:=J λz hz=>h z (.tail _ hz)
  rw[nV,nV,h o (.head _),this]
theorem E2(hc:ax∈carts):∀{bs:List av},jt carts bs->∀b∈bs,atS (aX ax bs) b.name=if de (aX ax bs) b.outs=[] then none else some (b.long+e_ (de (aX ax bs) b.outs))
 |x::bs,f,b,hb=>by
  rcases y0c.mp hb with rfl|hb
  .have ho:∀o∈b.outs,o≠b.name:=λo ho z=>by
    rcases f.1 o ho with y|y
    .exact f.2.1 (by rw[<-z];exact y)
    .exact f.2.2.1 (by rw[<-z];exact y)
   have e:=Hw (kn:=aX ax (b::bs)) (kn':=aX ax bs) (outs:=b.outs) λo m=>yX (ho o m)
   rw[e]
   conv=>lhs;unfold aX
   have J:atS (aX ax bs) b.name=none:=EI (λz=>f.2.2.1 (by rw[z];exact hc)) f.2.1
   split
   .exact J
   .rw[EH,J,bJ rfl];rfl
  .have J:b.name≠x.name:=λz=>f.2.1 (by rw[<-z];exact l7 (f:=av.name) hb)
   have ho:∀o∈b.outs,o≠x.name:=λo ho z=>by
    rcases EJ f.2.2.2 b hb o ho with y|y
    .exact f.2.1 (by rw[<-z];exact y)
    .exact f.2.2.1 (by rw[<-z];exact y)
   have e:=Hw (kn:=aX ax (x::bs)) (kn':=aX ax bs) (outs:=b.outs) λo m=>yX (ho o m)
   rw[e,yX J];exact E2 hc f.2.2.2 b hb
theorem E3(hc:ax∈carts):∀{bs:List av},jt carts bs->atS (aX ax bs) ax=some 0
 |[],_=>by show atS [(ax,0)] ax=some 0;rw[v_,bJ rfl]
 |x::bs,f=>by rw[yX (λz=>f.2.2.1 (by rw[<-z];exact hc))];exact E3 hc f.2.2.2
theorem Nq{c:Str}{bs:List av}(f:jt carts bs)(hc:c∈carts)(h:c≠ax):atS (aX ax bs) c=none:=EI h (y9 f c hc)
def wZ(h:aA)(ax n:Str)(c:Int):D:=match atS (aX ax h.af) n with
 |none=>.aI
 |some v=>.int (v - c)
def ju(kn:List (Str×Int))(best:ai Str)(o:Str):ai Str:=match atS kn o with
 |none=>best
 |some v=>match best with
  |none=>some o
  |some p=>if v<(atS kn p).getD 0 then some o else best
def gb(kn:List (Str×Int))(outs:List Str):ai Str:=outs.foldl (ju kn) none
def wq(kn:List (Str×Int))(best:ai Str):Prop:=∀p,best=some p->∃v,atS kn p=some v
def Mr(h:wq kn best)(o:Str):wq kn (ju kn best o):=by
 intro p e;unfold ju at e;cases q:atS kn o with
 |none=>rw[q] at e;exact h p e
 |some v=>
  rw[q] at e;dsimp only at e;cases best with
  |none=>cases e;exact⟨v,q⟩
  |some J=>
   dsimp only at e;split at e
   .simp_all
   .exact h p e
theorem Oj:∀{outs:List Str} {best:ai Str},wq kn best->wq kn (outs.foldl (ju kn) best)
 |[],_,h=>h
 |o::outs,best,h=>Oj (outs:=outs) (Mr h o)
theorem HW:∀{outs:List Str} {best:ai Str},wq kn best->
  (outs.foldl (ju kn) best=none↔best=none/\de kn outs=[])/\
  ∀a,outs.foldl (ju kn) best=some a->(best=some a\/a∈outs)/\∃v,atS kn a=some v/\(∀o∈outs,∀w,atS kn o=some w->v<=w)/\∀p w,best=some p->atS kn p=some w->v<=w
 |[],best,h=>by
  refine⟨⟨λe=>⟨e,rfl⟩,λe=>e.1⟩,λa e=>?_⟩
  obtain⟨v,hv⟩:=h a e;refine⟨.inl e,v,hv,λo m=>(by cases m),λp w e1 e2=>?_⟩
  have e:best=some a:=e;rw[e] at e1;cases e1;rw[hv] at e2;cases e2;exact LI _
 |o::outs,best,h=>by
  obtain⟨V,U⟩:=HW (outs:=outs) (Mr h o);rw[yE];constructor
  .rw[V];unfold ju de;cases q:atS kn o with
   |none=>rw[List.filterMap_cons_none q]
   |some v=>
    rw[List.filterMap_cons_some q];constructor
    .rintro⟨e,_⟩;exfalso;cases best with
     |none=>cases e
     |some p=>dsimp only at e;split at e <;> cases e
    .rintro⟨_,e⟩;cases e
  .intro a e;obtain⟨j1,v,j2,j3,j4⟩:=U a e;cases q:atS kn o with
   |none=>
    have es:ju kn best o=best:=by unfold ju;rw[q]
    rw[es] at j1 j4;refine⟨?_,v,j2,λo' m w J=>?_,j4⟩
    .rcases j1 with z|z
     .exact .inl z
     .exact .inr (.tail _ z)
    .rcases y0c.mp m with rfl|m
     .rw[q] at J;cases J
     .exact j3 o' m w J
   |some u=>
    cases best with
    |none=>
     have es:ju kn none o=some o:=by unfold ju;rw[q]
     rw[es] at j1 j4;refine⟨.inr ?_,v,j2,λo' m w J=>?_,λp w J=>(by cases J)⟩
     .rcases j1 with z|z
      .cases z;exact .head _
      .exact .tail _ z
     .rcases y0c.mp m with rfl|m
      .rw[q] at J;cases J;exact j4 o' u rfl q
      .exact j3 o' m w J
    |some p=>
     obtain⟨G,hp⟩:=h p rfl;by_cases Y:u<G
     .have es:ju kn (some p) o=some o:=by unfold ju;rw[q];dsimp only;rw[hp,GF,bJ Y]
      rw[es] at j1 j4;refine⟨.inr ?_,v,j2,λo' m w J=>?_,λW w e1 e2=>?_⟩
      all_goals grind
     .have es:ju kn (some p) o=some p:=by unfold ju;rw[q];dsimp only;rw[hp,GF,bq Y]
      rw[es] at j1 j4;refine⟨?_,v,j2,λo' m w J=>?_,j4⟩
      all_goals grind
theorem iZ{v:Int}:v∈de kn outs↔∃o∈outs,atS kn o=some v:=ue
def k6:gb kn outs=none↔de kn outs=[]:=by
 have:=(HW (kn:=kn) (outs:=outs) (best:=none) (λp e=>by cases e)).1
 grind [gb]
def TL{a:Str}(e:gb kn outs=some a):a∈outs/\atS kn a=some (e_ (de kn outs)):=by
 obtain⟨j1,v,j2,j3,_⟩:=(HW (kn:=kn) (outs:=outs) (best:=none) (λp e=>by cases e)).2 a e
 have V:a∈outs:=by
  lia
 have Y:de kn outs≠[]:=λz=>by rw[k6.mpr z] at e;cases e
 obtain⟨U,G⟩:=Ep Y;obtain⟨o,ho,J⟩:=iZ.mp U;have c1:=j3 o ho _ J;have c2:=G v (iZ.mpr ⟨a,V,j2⟩)
 grind
section
variable{h:aA}{ax n:Str}{c:Int}
def e8g(g:aH h)(hc:ax∈h.carts):P0 Ft [.d (aF h),.d (.tup [.str n,.int c]),cD ax] (rd (wZ h ax n c)):=by
 intro S;have e:=Np g hc;have v:=Bo n (aX ax h.af);unfold Ft wZ;generalize aF h=hd at *;cases J:atS (aX ax h.af) n with
 |none=>
  rw[J] at v;simp only[↓ev,e,ay,v,vH]
 |some w=>
  rw[J] at v;simp only[↓ev,e,ay,v,sr]
def Va(ok:wq kn best)(o:Str){g0 g1 g2:ai Val}:Bm 0 [g0,g1,g2,ar (.ao (nH kn)),ar (aN best),aY o] S=some (.nx [g0,g1,g2,ar (.ao (nH kn)),ar (aN (ju kn best o)),aY o] S):=by
 have v:=Bo o kn;unfold Bm ju;cases U:atS kn o with
 |none=>
  rw[U] at v;simp only[↓ev,ay,v,vH]
 |some w=>
  rw[U] at v;cases best with
  |none=>
   unfold aN;simp only[↓ev,ay,v,sr]
  |some p=>
   obtain⟨u,J⟩:=ok p rfl;have V:=Bo p kn;rw[J] at V;unfold aN;by_cases hl:w<u
   .have Y:=br hl;simp only[↓ev,ay,v,sr,V,Y,J]
   .have Y:=eq_false hl;simp only[↓ev,ay,v,sr,V,Y,J]
def Vb{g0 g1 g2 a:ai Val}:∃J,aM (ae 5) (Bm 0) (dS outs) [g0,g1,g2,ar (.ao (nH kn)),ar .aI,a] S=some (.nx [g0,g1,g2,ar (.ao (nH kn)),ar (aN (gb kn outs)),J] S):=by
 obtain⟨Y,S',e,J,rfl,rfl⟩:=f_ (ae 5) (Bm 0) D.str S (λpre U S'=>∃J,U=[g0,g1,g2,ar (.ao (nH kn)),ar (aN (gb kn pre)),J]/\S'=S) outs ⟨a,rfl,rfl⟩ (by
  rintro d x r V U S' ⟨J,rfl,rfl⟩;have ok:wq kn (gb kn d):=Oj λp z=>by cases z
  refine⟨_,_,_,rfl,.inl (Va ok x),aY x,?_,rfl⟩;unfold gb;rw[Gv];rfl)
 exact⟨J,e⟩
def Fv(g:aH h){b:av}(hb:b∈h.af)(hc:ax∈h.carts):P0 Fu [.d (aF h),cD b.name,cD ax] (rd (aN (gb (aX ax h.af) b.outs))):=by
 intro S;have e1:=Np g hc;have e2:=zj g hb;obtain⟨Y,e⟩:=Vb (S:=S) (kn:=aX ax h.af) (outs:=b.outs) (g0:=(ar (aF h))) (g1:=(aY b.name)) (g2:=(aY ax)) (a:=none);have J:au b=.tup [.str b.name,.int b.long,.bl b.ring,.lst (dS b.outs)]:=rfl;rw[J] at e2;unfold Fu;generalize aF h=hd at *;simp only[↓ev,e1,ay,e2,eD,e]
end
noncomputable abbrev eH(h:aA):Str:=h.carts.getD 0 ""
def pb(h:aA)(ct:Str)(nw cl:Int)(b:Str)(i:Int):Bool:=match atS (aX ct h.af) b with
 |none=>false
 |some v=>decide (nw+(v - i)<=cl)
noncomputable def mr(x:Hl)(w:Row):ai (Str×Int):=w.fl.bind λf=>(x.book.find? λp=>p.1 == f).map (·.2)
def wC(h:aA)(x:Hl)(w:Row):Bool:=match mr x w with
 |none=>false
 |some (ct,cl)=>pb h ct x.now cl w.b w.i
def eF(h:aA)(x:Hl)(w:Row):Str:=match mr x w with
 |none=>eH h
 |some (ct,cl)=>if pb h ct x.now cl w.b w.i=true then ct else eH h
section
variable{s B:List Cell}{h:aA}{r:Int}{x:Hl}{n:Nat}{w:Row}
def HI(o:Ok h n x)(hw:w∈x.rows):(w.fl=none/\mr x w=none)\/∃f ct cl,w.fl=some f/\mr x w=some (ct,cl)/\ct∈h.carts/\aG (jZ x.book) (.inr f)=some (.tup [.str f,.str ct,.int cl]):=by
 unfold mr;cases hf:w.fl with
 |none=>exact .inl ⟨rfl,rfl⟩
 |some f=>
  have v:aG (jZ x.book) (.inr f)=_:=Bw f x.book;cases e:x.book.find? (λp=>p.1 == f) with
  |none=>
   obtain⟨p,hp,ep⟩:=fU.mp ((o.rw w hw).2.2 f hf);have:=An.mp e p hp;rw[ep,rq] at this;exact cQ rfl this
  |some p=>
   have e1:=GC e;have e1:p.1=f:=beq_iff_eq.mp e1;refine .inr ⟨f,p.2.1,p.2.2,rfl,by rw[vE,e];rfl,LK (o.bk p (Ar e)),?_⟩
   rw[v,e,<-e1];rfl
def XD(g:aH h)(o:Ok h n x)(hw:w∈x.rows):Ea 0 [eB,cD w.bag] (hS B (aF h) r x s)=some (.ok (rd (.bl (wC h x w))) (hS B (aF h) r x s)):=by
 have Y:aG (ib x.rows) (.inr w.bag)=_:=gP o.nb hw;have J:aG (iA x.rows) (.inr w.bag)=_:=gP o.nb hw;unfold Ea wC;rcases HI o hw with⟨e1,e2⟩|⟨f,ct,cl,e1,e2,hc,V⟩
 .rw[e1] at J;rw[e2];unfold aN at J;generalize aF h=hd at *;simp only[↓ev,hR,ay,J]
 .rw[e1] at J;rw[e2];unfold aN at J;have e:=e8g (n:=w.b) (c:=w.i) g hc;unfold wZ at e;dsimp only;unfold pb;cases hv:atS (aX ct h.af) w.b with
  |none=>
   rw[hv] at e;generalize aF h=hd at *;simp only[↓ev,hR,ay,J,V,Y,e]
  |some v=>
   rw[hv] at e;generalize aF h=hd at *;simp only[↓ev,hR,ay,J,V,Y,e]
def ν(g:aH h)(o:Ok h n x)(hw:w∈x.rows):Eb 0 [eB,cD w.bag] (hS B (aF h) r x s)=some (.ok (rd (.str (eF h x w))) (hS B (aF h) r x s)):=by
 have Y:aG (iA x.rows) (.inr w.bag)=_:=gP o.nb hw;have e1:=λq=>XA (B:=B) (s:=s) (r:=r) q (hd:=aF h) (o.rw w hw).2.1 hw o.nb
 have e2:=XD (B:=B) (s:=s) (r:=r) g o hw;obtain⟨_,U⟩:=zx g;have G:aF h=.tup [.lst (h.af.map au),.lst (dS h.carts)]:=rfl;rw[G] at e1 e2 ⊢;unfold Eb eF;unfold wC at e2;rcases HI o hw with⟨V,J⟩|⟨f,ct,cl,V,J,hc,W⟩
 .rw[J] at e2 ⊢;unfold eH;generalize h.carts.getD 0 ""=F at *;simp only[↓ev,hR,ay,e1,e2,U]
 .rw[J] at e2 ⊢;rw[V] at Y;unfold aN at Y;dsimp only at e2 ⊢;unfold eH;generalize h.carts.getD 0 ""=F at *;cases hb:pb h ct x.now cl w.b w.i with
  |true=>
   rw[hb] at e2;simp only[↓ev,hR,ay,e1,e2,Y,W]
  |false=>
   rw[hb] at e2;simp only[↓ev,hR,ay,e1,e2,U]
theorem HX(g:aH h):∀{bs pre:List av},h.af=pre++bs->∀b∈bs,∃v,atS (aX (eH h) h.af) b.name=some v
 |x::bs,pre,J,b,hb=>by
  have V:h.af=(pre++[x])++bs:=by rw[J];simp
  rcases y0c.mp hb with rfl|hb
  .have Y:b∈h.af:=by rw[J];simp
   have U:jt h.carts (b::bs):=y6 (by rw[<-J];exact g.fwd)
   have key:∀o∈b.outs,∀v,atS (aX (eH h) h.af) o=some v->∃v,atS (aX (eH h) h.af) b.name=some v:=λo m v e=>by
    have hm:=iZ.mpr ⟨o,m,e⟩;rw[E2 (zx g).1 g.fwd b Y,bq λz=>by rw[z] at hm;cases hm]
    exact⟨_,rfl⟩
   rcases g.hd b Y with z|⟨o,z1,z2⟩
   .exact key _ z _ (E3 (zx g).1 g.fwd)
   .rcases U.1 o z1 with y|y
    .obtain⟨w,hw,rfl⟩:=fU.mp y;obtain⟨v,e⟩:=HX g V w hw;exact key _ z1 v e
    .exact cQ z2 (y9 g.fwd o y)
  .exact HX g V b hb
def Im(g:aH h)(o:Ok h n x)(hw:w∈x.rows):eF h x w∈h.carts/\∃v,atS (aX (eF h x w) h.af) w.b=some v:=by
 obtain⟨bt,hb,G,_⟩:=(o.rw w hw).1;have V:eH h∈h.carts/\∃v,atS (aX (eH h) h.af) w.b=some v:=⟨(zx g).1,by rw[<-G];exact HX g (pre:=[]) (bs:=h.af) rfl bt hb⟩
 unfold eF;rcases HI o hw with⟨U,J⟩|⟨f,ct,cl,U,J,hc,W⟩
 .rw[J];exact V
 .rw[J];dsimp only;split
  .rename_i Y
   refine⟨hc,?_⟩;unfold pb at Y;cases hv:atS (aX ct h.af) w.b with
   |none=>rw[hv] at Y;cases Y
   |some v=>exact⟨v,rfl⟩
  .exact V
end
variable{bt:av}{o:Str}{E:List Str}
abbrev Goal:=Str×ai Int
def gD:Goal->D
 |(c,none)=>.str c
 |(b,some i)=>pl b i
section
variable{s B:List Cell}{h:aA}{r:Int}{x:Hl}{n:Nat}{w:Row}{ct:Str}
def ξ(g:aH h)(hb:bt∈h.af)(hc:ct∈h.carts)(ho:gb (aX ct h.af) bt.outs=some o)(hi:h.carts.contains o=true){E:D}:P0 pK [.d (aF h),.d (au bt),cD ct,.d E] (rd (.str o)):=by
 intro S;have e:=Fv g hb hc;rw[ho] at e;have Y:aF h=.tup [.lst (h.af.map au),.lst (dS h.carts)]:=rfl;have J:au bt=.tup [.str bt.name,.int bt.long,.bl bt.ring,.lst (dS bt.outs)]:=rfl;rw[Y] at e ⊢;rw[J];unfold pK;unfold aN at e;simp only[↓ev,ay,e,d_,eM,hi]
def ο(g:aH h)(hb:bt∈h.af)(hc:ct∈h.carts)(ho:gb (aX ct h.af) bt.outs=some o)(hi:h.carts.contains o=false)(V:E.contains o=false):P0 pK [.d (aF h),.d (au bt),cD ct,.d (.lst (dS E))] (rd (pl o 0)):=by
 intro S;have e:=Fv g hb hc;rw[ho] at e;have Y:aF h=.tup [.lst (h.af.map au),.lst (dS h.carts)]:=rfl;have J:au bt=.tup [.str bt.name,.int bt.long,.bl bt.ring,.lst (dS bt.outs)]:=rfl;rw[Y] at e ⊢;rw[J];unfold pK;unfold aN at e;cases U:bt.ring with
 |true=>simp only[↓ev,ay,e,d_,eM,hi,V]
 |false=>simp only[↓ev,ay,e,d_,eM,hi]
def π(g:aH h)(hb:bt∈h.af)(hc:ct∈h.carts)(ho:gb (aX ct h.af) bt.outs=some o)(hi:h.carts.contains o=false)(V:bt.ring=true)(U:E.contains o=true):P0 pK [.d (aF h),.d (au bt),cD ct,.d (.lst (dS E))] (rd (pl bt.name 0)):=by
 intro S;have e:=Fv g hb hc;rw[ho] at e;have Y:aF h=.tup [.lst (h.af.map au),.lst (dS h.carts)]:=rfl;have J:au bt=.tup [.str bt.name,.int bt.long,.bl bt.ring,.lst (dS bt.outs)]:=rfl;rw[Y] at e ⊢;rw[J,V];unfold pK;unfold aN at e;simp only[↓ev,ay,e,d_,eM,hi,U]
def ρ(g:aH h)(hb:bt∈h.af)(hc:ct∈h.carts)(ho:gb (aX ct h.af) bt.outs=some o)(hi:h.carts.contains o=false)(V:bt.ring=false):P0 pK [.d (aF h),.d (au bt),cD ct,.d (.lst (dS E))] (rd (pl o 0)):=by
 intro S;have e:=Fv g hb hc;rw[ho] at e;have Y:aF h=.tup [.lst (h.af.map au),.lst (dS h.carts)]:=rfl;have J:au bt=.tup [.str bt.name,.int bt.long,.bl bt.ring,.lst (dS bt.outs)]:=rfl;rw[Y] at e ⊢;rw[J,V];unfold pK;unfold aN at e;simp only[↓ev,ay,e,d_,eM,hi]
def fK(h:aA)(x:Hl):List Str:=bG h x++(ord h x.rows).filterMap λw=>if(w.i == 0)=true then some w.b else none
def TM(q:Nat)(l:List Row)(hl:l.length<=1000):bF (ae 0) (G9 q) (G_ q) (l.map bI) [none] S []=some (.ok (dS (l.filterMap λw=>if(w.i == 0)=true then some w.b else none)) S):=by
 rw[sR (λw=>(if(w.i == 0)=true then some w.b else none).map D.str) l (by lia) λw m=>by
  unfold G9 G_ bI;generalize aN w.fl=J at *;cases hc:(w.i == 0) with
  |true=>exact .inr ⟨rd (.str w.b),.str w.b,rfl,by simp only[↓ev,ay,hc],by simp only[↓ev,ay],rfl⟩
  |false=>exact .inl ⟨rfl,by simp only[↓ev,ay,hc]⟩]
 congr 2
 unfold dS;rw[List.map_filterMap]
def σ(g:aH h)(o:Ok h n x):D8 0 [eB] (hS B (aF h) r x s)=some (.ok (.o (.lst (dS (fK h x)))) (hS B (aF h) r x s)):=by
 have rl:=o.rl;have e1:=λq=>HH (B:=B) (s:=s) (r:=r) (q:=q) (x:=x) g
 have e2:=λq=>zJ (B:=B) (s:=s) (r:=r) (q:=q) g o
 have J:=λq=>TM (S:=hS B (aF h) r x s) q (ord h x.rows) (by rw[o.perm.length_eq];lia)
 have hl:((dS (bG h x)).length+(dS ((ord h x.rows).filterMap λw=>if(w.i == 0)=true then some w.b else none)).length<=1000000)=True:=br (by
  have Y:(bG h x).length<=(h.af.map av.name).length:=uh _ _;have V:=As (λw:Row=>if(w.i == 0)=true then some w.b else none) (ord h x.rows)
  have U:=o.perm.length_eq;have G:=g.sm.bl
  grind)
 generalize aF h=hd at *;unfold D8 fK;rw[dS,eC,<-dS,<-dS];simp only[↓ev,hR,ay,e1,e2,eD,J,hl]
def mG(h:aA)(x:Hl)(bt:av)(o:Str):Goal:=if h.carts.contains o=true then(o,none) else if(bt.ring&&(fK h x).contains o)=true then(bt.name,some 0) else(o,some 0)
def iT(h:aA)(r:Int)(x:Hl)(w:Row)(bt:av):Goal:=if w.i+1<bt.long then(bt.name,some (w.i+1)) else if bt.ring=true/\w.fl=none/\w.gn<r then(bt.name,some 0) else mG h x bt ((gb (aX (eF h x w) h.af) bt.outs).getD "")
def ah(h:aA)(r:Int)(x:Hl)(w:Row):Goal:=match findB h.af w.b with
 |none=>(w.b,none)
 |some bt=>iT h r x w bt
def za(g:aH h)(hb:bt∈h.af):findB h.af bt.name=some bt:=by
 unfold findB;cases e:h.af.find? (λb=>b.name == bt.name) with
 |none=>
  grind
 |some c=>
  have J:=GC e;rw[Bc g.fwd c (Ar e) bt hb (beq_iff_eq.mp J)]
def Fl(g:aH h)(o:Ok h n x)(hw:w∈x.rows)(hb:bt∈h.af)(J:bt.name=w.b):∃a,gb (aX (eF h x w) h.af) bt.outs=some a/\a∈bt.outs:=by
 obtain⟨hc,v,hv⟩:=Im g o hw;have bg:=E2 hc g.fwd bt hb;rw[J,hv] at bg;have Y:¬de (aX (eF h x w) h.af) bt.outs=[]:=λz=>by rw[bJ z] at bg;cases bg
 cases e:gb (aX (eF h x w) h.af) bt.outs with
 |none=>exact cQ (k6.mp e) Y
 |some a=>exact⟨a,rfl,(TL e).1⟩
def Vc(g:aH h)(hb:bt∈h.af)(hc:ct∈h.carts)(ho:gb (aX ct h.af) bt.outs=some o):P0 pK [.d (aF h),.d (au bt),cD ct,.d (.lst (dS (fK h x)))] (rd (gD (mG h x bt o))):=by
 unfold mG;cases e1:h.carts.contains o with
 |true=>exact ξ g hb hc ho e1
 |false=>
  rw[bq (by decide)]
  cases e2:bt.ring with
  |false=>exact ρ g hb hc ho e1 e2
  |true=>
   cases J:(fK h x).contains o with
   |true=>exact π g hb hc ho e1 e2 J
   |false=>exact ο g hb hc ho e1 J
end
section
variable{s B:List Cell}{h:aA}{r:Int}{x:Hl}{n:Nat}{w:Row}{bt:av}{aO:List D}{a8 a9:ai Val}{Q:D}
abbrev wS(B:List Cell)(hd:D)(r:Int)(x:Hl)(s:List Cell)(aO:List D):aU:=⟨s++[.o (.lst aO)],hR hd r x B⟩
def Li(g:aH h)(hb:bt∈h.af)(Y:bt.name=w.b)(hl:(w.i+1<bt.long)=True)(U:(aO.length<1000000)=True):sE 0 [cR,ar (aF h),ar Q,aJ s.length,aY w.bag,ar (aN w.fl),ar (pl w.b w.i),bx w.gn,a8,a9] (wS B (aF h) r x s aO)=some (.nx [cR,ar (aF h),ar Q,aJ s.length,aY w.bag,ar (aN w.fl),ar (pl w.b w.i),bx w.gn,ar (au bt),ar (pl bt.name (w.i+1))] (wS B (aF h) r x s (aO++[.tup [.str w.bag,pl bt.name (w.i+1)]]))):=by
 have J:=zj g hb;have V:au bt=.tup [.str bt.name,.int bt.long,.bl bt.ring,.lst (dS bt.outs)]:=rfl;rw[V] at J ⊢;rw[Y] at J ⊢;generalize aF h=hd at *;generalize aN w.fl=G at *;unfold sE;simp only[↓ev,ay,J,hl,U]
def Lj(g:aH h)(hb:bt∈h.af)(V:bt.name=w.b)(hl:(w.i+1<bt.long)=False)(F:bt.ring=true)(hf:w.fl=none)(W:(w.gn<r)=True)(G:(aO.length<1000000)=True):sE 0 [cR,ar (aF h),ar Q,aJ s.length,aY w.bag,ar (aN w.fl),ar (pl w.b w.i),bx w.gn,a8,a9] (wS B (aF h) r x s aO)=some (.nx [cR,ar (aF h),ar Q,aJ s.length,aY w.bag,ar (aN w.fl),ar (pl w.b w.i),bx w.gn,ar (au bt),ar (pl bt.name 0)] (wS B (aF h) r x s (aO++[.tup [.str w.bag,pl bt.name 0]]))):=by
 have J:=zj g hb;have Y:=λq s=>MP (B:=B) (s:=s) (hd:=aF h) (r:=r) (q:=q) (x:=x)
 have U:au bt=.tup [.str bt.name,.int bt.long,.bl bt.ring,.lst (dS bt.outs)]:=rfl;rw[U,F] at J ⊢;rw[V] at J ⊢;rw[hf];generalize aF h=hd at *;unfold sE aN;simp only[↓ev,ay,J,hl,hR,Y,W,G]
def Lk(g:aH h)(o:Ok h n x)(hw:w∈x.rows)(hb:bt∈h.af)(F:bt.name=w.b)(hl:(w.i+1<bt.long)=False){J:D}(ho:P0 pK [.d (aF h),.d (au bt),cD (eF h x w),.d Q] (rd J))(hc:bt.ring=false\/(∃f,w.fl=some f)\/w.fl=none/\¬w.gn<r)(U:(aO.length<1000000)=True):sE 0 [cR,ar (aF h),ar Q,aJ s.length,aY w.bag,ar (aN w.fl),ar (pl w.b w.i),bx w.gn,a8,a9] (wS B (aF h) r x s aO)=some (.nx [cR,ar (aF h),ar Q,aJ s.length,aY w.bag,ar (aN w.fl),ar (pl w.b w.i),bx w.gn,ar (au bt),ar J] (wS B (aF h) r x s (aO++[.tup [.str w.bag,J]]))):=by
 have Y:=zj g hb;have W:=λq s=>MP (B:=B) (s:=s) (hd:=aF h) (r:=r) (q:=q) (x:=x)
 have V:=λs=>ν (B:=B) (s:=s) (r:=r) g o hw
 have T:au bt=.tup [.str bt.name,.int bt.long,.bl bt.ring,.lst (dS bt.outs)]:=rfl;rw[T] at Y ho ⊢;rw[F] at Y ho ⊢;generalize aF h=hd at *;generalize eF h x w=ct at *;unfold sE;cases er:bt.ring with
 |false=>
  rw[er] at Y ho;generalize aN w.fl=R at *;simp only[↓ev,ay,Y,hl,hR,V,ho,U]
 |true=>
  rw[er] at Y ho;rcases hc with z|⟨f,hf⟩|⟨hf,G⟩
  .rw[er] at z;cases z
  .rw[hf];unfold aN;simp only[↓ev,ay,Y,hl,hR,V,ho,U]
  .rw[hf];unfold aN;have G:=eq_false G;simp only[↓ev,ay,Y,hl,hR,W,G,V,ho,U]
def υ(g:aH h)(o:Ok h n x)(hw:w∈x.rows)(F:aO.length<1000)(s:List Cell):∃U b9,sE 0 [cR,ar (aF h),ar (.lst (dS (fK h x))),aJ s.length,aY w.bag,ar (aN w.fl),ar (pl w.b w.i),bx w.gn,a8,a9] (wS B (aF h) r x s aO)=some (.nx [cR,ar (aF h),ar (.lst (dS (fK h x))),aJ s.length,aY w.bag,ar (aN w.fl),ar (pl w.b w.i),bx w.gn,U,b9] (wS B (aF h) r x s (aO++[.tup [.str w.bag,gD (ah h r x w)]]))):=by
 obtain⟨bt,hb,J,_,_⟩:=(o.rw w hw).1;have Y:(aO.length<1000000)=True:=br (by lia)
 have W:ah h r x w=iT h r x w bt:=by unfold ah;rw[<-J,za g hb]
 rw[W];unfold iT;by_cases hl:w.i+1<bt.long
 .rw[bJ hl];exact⟨_,_,Li g hb J (br hl) Y⟩
 .rw[bq hl];by_cases hc:bt.ring=true/\w.fl=none/\w.gn<r
  .rw[bJ hc];exact⟨_,_,Lj g hb J (eq_false hl) hc.1 hc.2.1 (br hc.2.2) Y⟩
  .rw[bq hc];obtain⟨a,V,_⟩:=Fl g o hw hb J;rw[V,GF];refine⟨_,_,Lk g o hw hb J (eq_false hl) (Vc g hb (Im g o hw).1 V) ?_ Y⟩;cases er:bt.ring with
   |false=>exact .inl rfl
   |true=>
    cases G:w.fl with
    |some f=>exact .inr (.inl ⟨f,rfl⟩)
    |none=>exact .inr (.inr ⟨rfl,λz=>hc ⟨er,G,z⟩⟩)
def oU(h:aA)(r:Int)(x:Hl)(w:Row):D:=.tup [.str w.bag,gD (ah h r x w)]
def Vd(g:aH h)(o:Ok h n x):EE 0 [eB] (hS B (aF h) r x s)=some (.ok (.o (.lst ((ord h x.rows).map (oU h r x)))) (hS B (aF h) r x s)):=by
 have rl:=o.rl;have e1:=λq s=>U9 (B:=B) (s:=s) (r:=r) (q:=q) (x:=x) g
 have e2:=λs=>σ (B:=B) (s:=s) (r:=r) g o
 have J:=λq s=>zJ (B:=B) (s:=s) (r:=r) (q:=q) g o
 have pl:=o.perm.length_eq;refine kY λV=>?_
 obtain⟨G,S',e,⟨a4,a5,a6,a7,a8,a9,rfl⟩,rfl⟩:=f_ (bc [(ae 4),(ae 5),(ae 6),(ae 7)]) (sE 0) bI (wS B (aF h) r x s []) (λpre U S'=>(∃a4 a5 a6 a7 a8 a9,U=[cR,ar (aF h),ar (.lst (dS (fK h x))),aJ s.length,a4,a5,a6,a7,a8,a9])/\S'=wS B (aF h) r x s (pre.map (oU h r x))) (ord h x.rows) ⟨⟨none,none,none,none,none,none,rfl⟩,rfl⟩ (by
  rintro d w post Y U S' ⟨⟨a4,a5,a6,a7,a8,a9,rfl⟩,rfl⟩;have hw:w∈x.rows:=o.mem.mp (by rw[Y];simp)
  have hd:d.length<1000:=by
   grind
  obtain⟨W,b9,e⟩:=υ (r:=r) (a8:=a8) (a9:=a9) g o hw (aO:=d.map (oU h r x)) (by rw[ba];exact hd) s
  refine⟨_,_,_,rfl,.inl e,⟨_,_,_,_,_,_,rfl⟩,?_⟩;rw[eC];rfl)
 refine V ?_;generalize aF h=hd at *;generalize dS (fK h x)=Q at *;unfold EE;simp only[↓ev,hR,ay,e1,e2,J,eD,e]
end
variable{W W':List (Str×D)}{b:Str}{S:aU}{n:Nat}
def cN(W:List (Str×D)):List (TK×D):=td (·.1) (·.2) W
def cq(G:Row->Goal)(L:List Row):List (TK×D):=td Row.bag (λw=>gD (G w)) L
abbrev tw(S:aU)(n:Nat)(W:List (Str×D)):aU:=⟨S.s.set n (.o (.ao (cN W))),S.r⟩
def IH{y:D}(h:b∉W.map (·.1)):bP (cN W) (.inr b) y=cN (W++[(b,y)]):=by
 unfold cN;rw[By h];unfold td;rw[eC];rfl
def zK:(aG (cN W) (.inr b)).isSome=(W.map (·.1)).contains b:=zI
def I_(J:n<S.s.length):(S.s.set n (.o (.ao (cN W))))[n]?=some (.o (.ao (cN W))):=oV J
def II:(S.s.set n (.o (.ao (cN W)))).set n (.o (.ao (cN W')))=S.s.set n (.o (.ao (cN W'))):=DA ..
def χ:(tw S n W').cut (S.s.set n (.o (.ao (cN W)))).length=tw S n W':=by
 grind [aU.cut,List.take_of_length_le]
noncomputable def cY(st:List Str)(G:Row->Goal)(w:Row):ai D:=if st.contains w.b=true then some (.tup [.str "stopped",.str w.b]) else match G w with
 |(b,some _)=>if st.contains b=true then some (.tup [.str "stopped",.str b]) else none
 |(_,none)=>none
def bQ(st:List Str)(G:Row->Goal)(L:List Row):List (Str×D):=L.filterMap λw=>(cY st G w).map λy=>(w.bag,y)
section
variable{S:aU}{n:Nat}{st:List Str}{G:Row->Goal}{L:List Row}{w:Row}{W:List (Str×D)}{a8 bg:ai Val}
def Ve(D:n<S.s.length)(hv:aG (cq G L) (.inr w.bag)=some (gD (G w)))(R:w.bag∉W.map (·.1))(hl:W.length<1000):∃F,yL 0 [bg,ar (.ao (cq G L)),ar (.lst (dS st)),aJ n,aY w.bag,ar (aN w.fl),ar (pl w.b w.i),bx w.gn,a8] (tw S n W)=some (.nx [bg,ar (.ao (cq G L)),ar (.lst (dS st)),aJ n,aY w.bag,ar (aN w.fl),ar (pl w.b w.i),bx w.gn,F] (tw S n (W++((cY st G w).map λy=>(w.bag,y)).toList))):=by
 have U:=I_ (W:=W) D;have B:=λW'=>II (S:=S) (n:=n) (W:=W) (W':=W')
 have hp:=λy=>IH (y:=y) R
 have V:((cN W).length<1000000)=True:=br (by unfold cN;rw[kX];lia)
 unfold cY;cases J:st.contains w.b with
 |true=>
  refine⟨(ar (gD (G w))),?_⟩;generalize gD (G w)=gg at *;generalize aN w.fl=T at *;show _=some (Fr.nx _ (tw S n (W++[(w.bag,_)])));unfold yL;simp only[↓ev,hv,ay,d_,eM,J,U,V,hp,B]
 |false=>
  rw[bq (by decide)]
  generalize aN w.fl=T at *;obtain⟨c,gi⟩:∃c,G w=c:=⟨_,rfl⟩;rw[gi] at hv ⊢;obtain⟨c,i⟩:=c;cases i with
  |none=>
   refine⟨(aY c),?_⟩;show _=some (Fr.nx _ (tw S n (W++[])));rw[jI];unfold yL;unfold gD at hv;simp only[↓ev,hv,ay,d_,eM,J]
  |some i=>
   refine⟨(ar (pl c i)),?_⟩;unfold yL;unfold gD at hv;dsimp only at hv ⊢;cases Y:st.contains c with
   |true=>
    show _=some (Fr.nx _ (tw S n (W++[(w.bag,_)])));simp only[↓ev,hv,ay,d_,eM,J,Y,U,V,hp,B]
   |false=>
    show _=some (Fr.nx _ (tw S n (W++[])));rw[jI];simp only[↓ev,hv,ay,d_,eM,J,Y]
def Sb(st:List Str)(G:Row->Goal)(L:List Row):∀b∈(bQ st G L).map (·.1),b∈L.map Row.bag:=λb m=>by
 obtain⟨p,hp,rfl⟩:=fU.mp m;obtain⟨w,hw,e⟩:=ue.mp hp;obtain⟨y,_,rfl⟩:=c_.mp e;exact l7 hw
def EK{d post:List Row}(J:L=d++w::post)(nd:(L.map Row.bag).Nodup):w.bag∉d.map Row.bag:=by
 grind
def XE(V:n<S.s.length)(nd:(L.map Row.bag).Nodup)(hl:L.length<100):DT 0 [.d (.lst (L.map bI)),.d (.ao (cq G L)),.d (.lst (dS st)),.c n] (tw S n [])=some (.ok (rd .aI) (tw S n (bQ st G L))):=by
 refine kY λB=>?_
 obtain⟨F,S',e,⟨a4,a5,a6,a7,a8,rfl⟩,rfl⟩:=f_ (bc [(ae 4),(ae 5),(ae 6),(ae 7)]) (yL 0) bI (tw S n []) (λpre U S'=>(∃a4 a5 a6 a7 a8,U=[ar (.lst (L.map bI)),ar (.ao (cq G L)),ar (.lst (dS st)),aJ n,a4,a5,a6,a7,a8])/\S'=tw S n (bQ st G pre)) L ⟨⟨none,none,none,none,none,rfl⟩,rfl⟩ (by
  rintro d w post J U S' ⟨⟨a4,a5,a6,a7,a8,rfl⟩,rfl⟩;have hw:w∈L:=by rw[J];simp
  have hv:aG (cq G L) (.inr w.bag)=some (gD (G w)):=gP nd hw;have hd:d.length<100:=by
   grind
  obtain⟨R,e⟩:=Ve (st:=st) (a8:=a8) (bg:=(ar (.lst (L.map bI)))) V hv (W:=bQ st G d) (λm=>EK J nd (Sb st G d _ m)) (LB (As _ _) (by lia))
  refine⟨_,_,_,rfl,.inl e,⟨_,_,_,_,_,rfl⟩,?_⟩;unfold bQ;rw[DB];rw[show List.filterMap (λw=>(cY st G w).map λy=>(w.bag,y)) [w]=((cY st G w).map λy=>(w.bag,y)).toList by rw[nV,vJ];cases(cY st G w) <;> rfl])
 have Y:=χ (S:=S) (n:=n) (W:=[]) (W':=bQ st G L);refine B ?_;generalize bQ st G L=T at *;unfold DT;simp only[↓ev,eD,e,Y]
end
abbrev bA:=Str×Int
noncomputable def kC(p:bA):TK:=.tp [.inr p.1,.inl p.2]
theorem Pl{p q:bA}(e:kC p=kC q):p=q:=by
 grind [kC]
def h_(C:List (bA×Str)):List (TK×D):=C.map λe=>(kC e.1,.str e.2)
noncomputable def look(C:List (bA×Str))(k:bA):ai Str:=(C.find? λe=>e.1 == k).map (·.2)
noncomputable def kb:List (bA×Str)->bA->Str->List (bA×Str)
 |[],k,v=>[(k,v)]
 |e::es,k,v=>if e.1=k then(e.1,v)::es else e::kb es k v
theorem v7{e:bA×Str}{es:List (bA×Str)}{k:bA}:look (e::es) k=if e.1=k then some e.2 else look es k:=by
 grind [look]
theorem Bd(k:bA)(v:Str)(k':bA):∀C:List (bA×Str),look (kb C k v) k'=if k=k' then some v else look C k'
 |[]=>by show look [(k,v)] k'=_;rw[v7]
 |e::es=>by
  unfold kb;by_cases h:e.1=k
  .rw[bJ h,v7,v7,h];split <;> rfl
  .rw[bq h,v7,Bd k v k' es,v7]
   lia
theorem BA(k:bA):∀C:List (bA×Str),aG (h_ C) (kC k)=(look C k).map D.str
 |[]=>rfl
 |e::es=>by
  have J:=BA k es
  grind [v7,aG,h_,Pl]
theorem IJ(k:bA)(v:Str):∀C:List (bA×Str),bP (h_ C) (kC k) (.str v)=h_ (kb C k v)
 |[]=>rfl
 |e::es=>by
  have J:=IJ k v es
  grind [h_,A2,kb,Pl]
theorem Nr(k:bA)(v:Str):∀C:List (bA×Str),(kb C k v).length<=C.length+1
 |[]=>by unfold kb;exact bU _
 |e::es=>by
  have J:=Nr k v es;unfold kb;split
  .rw[jR,jR];lia
  .rw[jR,jR];lia
noncomputable def gk(G:Row->Goal)(w:Row):bA:=((G w).1,(G w).2.getD 0)
noncomputable def ask(G:Row->Goal)(W:List (Str×D))(L:List Row):List Row:=L.filter λw => !(W.map (·.1)).contains w.bag&&(G w).2.isSome
def PX{G:Row->Goal}{w:Row}(h:(G w).2.isSome=true):gD (G w)=pl (gk G w).1 (gk G w).2:=by
 unfold gk gD;generalize G w=p at *;obtain⟨c,i⟩:=p;cases i with
 |none=>cases h
 |some i=>rfl
def kp{j:Int}:mS [.str o,.int j]=some [.inr o,.inl j]:=by simp[mS,pP]
def mZ(G:Row->Goal)(C:List (bA×Str))(w:Row):List (bA×Str):=if look C (gk G w)=none\/w.b=(gk G w).1 then kb C (gk G w) w.bag else C
section
variable{S:aU}{n m:Nat}{G:Row->Goal}{L:List Row}{w:Row}{W:List (Str×D)}{C:List (bA×Str)}{a9 a10 g0 g3:ai Val}{t rr:List Cell}
def ψ(hv:aG (cq G L) (.inr w.bag)=some (gD (G w)))(F:(G w).2.isSome=true)(ht:t[m]?=some (.o (.ao (h_ C))))(hl:C.length<1000):AG 0 [g0,ar (.ao (cq G L)),aJ n,g3,aJ m,aY w.bag,ar (aN w.fl),ar (pl w.b w.i),bx w.gn,a9,a10] ⟨t,rr⟩=some (.nx [g0,ar (.ao (cq G L)),aJ n,g3,aJ m,aY w.bag,ar (aN w.fl),ar (pl w.b w.i),bx w.gn,ar (gD (G w)),a10] ⟨t.set m (.o (.ao (h_ (mZ G C w)))),rr⟩):=by
 rw[PX F] at hv ⊢;have v:=BA (gk G w) C;have Y:=IJ (gk G w) w.bag C;have U:((h_ C).length<1000000)=True:=br (by unfold h_;rw[ba];lia)
 have lt:(m<t.length)=True:=br (dX.mp ht).1;have T:t.set m (.o (.ao (h_ C)))=t:=by
  obtain⟨D,B⟩:=dX.mp ht;rw[<-B,LP]
 unfold mZ;unfold kC at v Y;generalize aN w.fl=R at *;unfold AG;cases V:look C (gk G w) with
 |none=>
  rw[bJ (.inl rfl)];rw[V] at v;simp only[↓ev,hv,ay,ht,v,vH,U,Y]
 |some b=>
  rw[V] at v;cases J:(w.b == (gk G w).1) with
  |true=>
   rw[bJ (.inr (beq_iff_eq.mp J))];simp only[↓ev,hv,ay,ht,v,sr,J,U,Y]
  |false=>
   rw[bq (by rw[not_or];exact⟨λz=>(by cases z),λz=>(by rw[z,rq] at J;cases J)⟩),T]
   simp only[↓ev,hv,ay,ht,v,sr,J]
def Vf(q:Nat)(nd:(L.map Row.bag).Nodup)(hl:L.length<=1000)(J:t[n]?=some (.o (.ao (cN W)))):bF (ae 0) (G4 q) (G5 q) (L.map bI) [none,aJ n,ar (.ao (cq G L))] ⟨t,rr⟩ []=some (.ok ((ask G W L).map bI) ⟨t,rr⟩):=by
 rw[sR (λw=>if(!(W.map (·.1)).contains w.bag&&(G w).2.isSome)=true then some (bI w) else none) L (by lia) λw m=>by
  have v:aG (cq G L) (.inr w.bag)=_:=gP nd m;have i:=zK (W:=W) (b:=w.bag);unfold G4 G5;cases V:(W.map (·.1)).contains w.bag with
  |true=>
   refine .inl ⟨rfl,?_⟩;rw[V] at i;unfold bI;generalize aN w.fl=Y at *;generalize gD (G w)=gg at *;simp only[↓ev,ay,J,i]
  |false=>
   rw[V] at i;cases U:(G w).2 with
   |none=>
    have e:gD (G w)=.str (G w).1:=by unfold gD;generalize G w=p at *;obtain⟨c,j⟩:=p;cases U;rfl
    rw[e] at v;refine .inl ⟨rfl,?_⟩;unfold bI;generalize aN w.fl=Y at *;simp only[↓ev,ay,J,i,v]
   |some j=>
    have e:gD (G w)=pl (G w).1 j:=by unfold gD;generalize G w=p at *;obtain⟨c,j⟩:=p;cases U;rfl
    rw[e] at v;refine .inr ⟨rd (bI w),bI w,rfl,?_,?_,rfl⟩
    .unfold bI;generalize aN w.fl=Y at *;simp only[↓ev,ay,J,i,v]
    rfl]
 congr 2
 unfold ask;clear nd hl
 induction L with
 |nil=>rfl
 |cons w L B=>
  rw[nV,yx,B];cases(!(W.map (·.1)).contains w.bag&&(G w).2.isSome) <;> rfl
end
variable{G:Row->Goal}
def l9(G:Row->Goal)(d:List Row)(C:List (bA×Str)):Prop:=(∀k b,look C k=some b->∃c∈d,c.bag=b/\gk G c=k/\((∃z∈d,gk G z=k/\z.b=k.1)->c.b=k.1))/\(∀w∈d,look C (gk G w)≠none)/\C.length<=d.length/\C=d.foldl (mZ G) []
def ω:l9 G [] []:=⟨λk b e=>(by cases e),λw m=>(by cases m),bU _,rfl⟩
def XF{d:List Row}{C:List (bA×Str)}(o:l9 G d C)(w:Row):l9 G (d++[w]) (mZ G C w):=by
 obtain⟨o1,o2,L,R⟩:=o;have J:mZ G C w=(d++[w]).foldl (mZ G) []:=by rw[Gv,<-R];rfl
 have Y:∀{z},z∈d++[w]↔z∈d\/z=w:=λ{z}=>by rw[iC,jT]
 unfold mZ;by_cases hc:look C (gk G w)=none\/w.b=(gk G w).1
 .rw[bJ hc];refine⟨λk b e=>?_,λz m=>?_,?_,by rw[<-J,mZ,bJ hc]⟩
  all_goals grind [Bd,Nr]
 .rw[bq hc];have J:C=(d++[w]).foldl (mZ G) []:=by rw[<-J,mZ,bq hc]
  rw[not_or] at hc;refine⟨λk b e=>?_,λz m=>?_,by rw[cZ];lia,J⟩
  .obtain⟨c,T,e1,e2,F⟩:=o1 k b e;refine⟨c,Y.mpr (.inl T),e1,e2,λ⟨z,V,U,B⟩=>F ?_⟩
   rcases Y.mp V with V|rfl
   .exact⟨z,V,U,B⟩
   .exact cQ (by rw[U];exact B) hc.2
  .rcases Y.mp m with m|rfl
   .exact o2 z m
   .exact hc.1
def dU(G:Row->Goal)(C:List (bA×Str))(w:Row):ai (Str×D):=match look C (gk G w) with
 |none=>none
 |some c=>if c=w.bag then none else some (w.bag,.tup [.str "yields",.str c])
section
variable{S:aU}{n m:Nat}{G:Row->Goal}{L A:List Row}{w:Row}{W:List (Str×D)}{C:List (bA×Str)}{a9 a10 g0 g3:ai Val}{t rr:List Cell}
def e5c(hv:aG (cq G L) (.inr w.bag)=some (gD (G w)))(F:(G w).2.isSome=true)(hm:t[m]?=some (.o (.ao (h_ C))))(Y:t[n]?=some (.o (.ao (cN W))))(B:w.bag∉W.map (·.1))(hl:W.length<1000){c:Str}(V:look C (gk G w)=some c):AH 0 [g0,ar (.ao (cq G L)),aJ n,g3,aJ m,aY w.bag,ar (aN w.fl),ar (pl w.b w.i),bx w.gn,a9,a10] ⟨t,rr⟩=some (.nx [g0,ar (.ao (cq G L)),aJ n,g3,aJ m,aY w.bag,ar (aN w.fl),ar (pl w.b w.i),bx w.gn,a9,aY c] ⟨t.set n (.o (.ao (cN (W++(dU G C w).toList)))),rr⟩):=by
 rw[PX F] at hv;have v:=BA (gk G w) C;rw[V] at v;have hp:=λy=>IH (y:=y) B
 have T:((cN W).length<1000000)=True:=br (by unfold cN;rw[kX];lia)
 have lt:(n<t.length)=True:=br (dX.mp Y).1;have R:t.set n (.o (.ao (cN W)))=t:=by
  obtain⟨I,U⟩:=dX.mp Y;rw[<-U,LP]
 unfold dU;rw[V];dsimp only;unfold kC at v;generalize aN w.fl=D at *;unfold AH;cases J:(c == w.bag) with
 |true=>
  rw[bJ (beq_iff_eq.mp J)];show _=some (Fr.nx _ ⟨t.set n (.o (.ao (cN (W++[])))),rr⟩);rw[jI,R];simp only[↓ev,hv,hm,v,ay,J]
 |false=>
  rw[bq (by rw[oY] at J;exact J)]
  show _=some (Fr.nx _ ⟨t.set n (.o (.ao (cN (W++[(w.bag,.tup [.str "yields",.str c])])))),rr⟩);simp only[↓ev,hv,hm,v,ay,J,Y,T,hp]
def lz:w∈ask G W L↔w∈L/\w.bag∉W.map (·.1)/\(G w).2.isSome=true:=by
 unfold ask;rw[rb,jx,Gy,GI,ne_eq,kE]
def Vg(C:List (bA×Str))(A:List Row):∀b∈(A.filterMap (dU G C)).map (·.1),b∈A.map Row.bag:=λb m=>by
 grind [dU]
def XG(nd:(L.map Row.bag).Nodup)(hl:L.length<100)(V:∀w∈A,w∈L/\(G w).2.isSome=true)(T:A.length<100)(t:List Cell):∃C,l9 G A C/\∃a5 a6 a7 a8 a9,aM (bc [(ae 5),(ae 6),(ae 7),(ae 8)]) (AG 0) (A.map bI) [g0,ar (.ao (cq G L)),aJ n,g3,aJ t.length,none,none,none,none,none,none] ⟨t++[.o (.ao [])],rr⟩=some (.nx [g0,ar (.ao (cq G L)),aJ n,g3,aJ t.length,a5,a6,a7,a8,a9,none] ⟨t++[.o (.ao (h_ C))],rr⟩):=by
 refine kY λF=>?_
 obtain⟨R,S',e,⟨a5,a6,a7,a8,a9,rfl⟩,C,J,rfl⟩:=f_ (bc [(ae 5),(ae 6),(ae 7),(ae 8)]) (AG 0) bI ⟨t++[.o (.ao [])],rr⟩ (λpre U S'=>(∃a5 a6 a7 a8 a9,U=[g0,ar (.ao (cq G L)),aJ n,g3,aJ t.length,a5,a6,a7,a8,a9,none])/\∃C,l9 G pre C/\S'=⟨t++[.o (.ao (h_ C))],rr⟩) A ⟨⟨none,none,none,none,none,rfl⟩,[],ω,rfl⟩ (by
  rintro d w post Y U S' ⟨⟨a5,a6,a7,a8,a9,rfl⟩,C,J,rfl⟩;obtain⟨hw,B⟩:=V w (by rw[Y];simp)
  have hd:d.length<100:=by
   grind
  have:=J.2.2.1;refine⟨_,_,_,rfl,.inl (ψ (gP nd hw) B sN (by lia)),⟨_,_,_,_,_,rfl⟩,mZ G C w,XF J w,?_⟩
  rw[F7];rfl)
 refine F ?_;exact⟨C,J,a5,a6,a7,a8,a9,e⟩
def XH(nd:(L.map Row.bag).Nodup)(Kp:(A.map Row.bag).Nodup)(O:∀w∈A,w∈L/\w.bag∉W.map (·.1)/\(G w).2.isSome=true)(a:A.length<100)(JC:W.length<100)(p:l9 G A C)(D:t[n]?=some (.o (.ao (cN W))))(hm:t[m]?=some (.o (.ao (h_ C))))(nm:n≠m){a5 a6 a7 a8 a9:ai Val}:∃J Y V B F,aM (bc [(ae 5),(ae 6),(ae 7),(ae 8)]) (AH 0) (A.map bI) [g0,ar (.ao (cq G L)),aJ n,g3,aJ m,a5,a6,a7,a8,a9,none] ⟨t,rr⟩=some (.nx [g0,ar (.ao (cq G L)),aJ n,g3,aJ m,J,Y,V,B,a9,F] ⟨t.set n (.o (.ao (cN (W++A.filterMap (dU G C))))),rr⟩):=by
 have lt:=(dX.mp D).1;have l:t.set n (.o (.ao (cN (W++[]))))=t:=by
  obtain⟨h1,I⟩:=dX.mp D;rw[jI,<-I,LP]
 refine kY λq=>?_
 obtain⟨U',S',e,⟨J,Y,V,B,F,rfl⟩,rfl⟩:=f_ (bc [(ae 5),(ae 6),(ae 7),(ae 8)]) (AH 0) bI ⟨t,rr⟩ (λpre U S'=>(∃J Y V B F,U=[g0,ar (.ao (cq G L)),aJ n,g3,aJ m,J,Y,V,B,a9,F])/\S'=⟨t.set n (.o (.ao (cN (W++pre.filterMap (dU G C))))),rr⟩) A ⟨⟨a5,a6,a7,a8,none,rfl⟩,by rw[vJ,l]⟩ (by
  rintro d w post T U S' ⟨⟨J,Y,V,B,F,rfl⟩,rfl⟩;have Qp:w∈A:=by rw[T];simp
  obtain⟨hw,R,j⟩:=O w Qp;have hd:d.length<100:=by
   have:=congrArg List.length T;rw[cZ] at this;lia
  obtain⟨c,hc⟩:=LQ.mp (p.2.1 w Qp);have hlen:=As (dU G C) d;refine⟨_,_,_,rfl,.inl (e5c (gP nd hw) j (by rw[ud nm];exact hm) (by rw[oV lt]) (W:=W++d.filterMap (dU G C)) (λz=>?_) (by rw[cZ];lia) hc),⟨_,_,_,_,_,rfl⟩,?_⟩
  .rw[eC,iC] at z;rcases z with z|z
   .exact R z
   .exact EK T Kp (Vg C d _ z)
  .rw[DA,DB,jz,show List.filterMap (dU G C) [w]=(dU G C w).toList by rw[nV,vJ];cases dU G C w <;> rfl])
 refine q ?_;exact⟨J,Y,V,B,F,e⟩
def XI(B:n<S.s.length)(nd:(L.map Row.bag).Nodup)(hl:L.length<100)(D:W.length<100):∃C,l9 G (ask G W L) C/\DQ 0 [.d (.lst (L.map bI)),.d (.ao (cq G L)),.c n] (tw S n W)=some (.ok (rd .aI) (tw S n (W++(ask G W L).filterMap (dU G C)))):=by
 have R:=I_ (W:=W) B;have J:∀w∈ask G W L,w∈L/\w.bag∉W.map (·.1)/\(G w).2.isSome=true:=λw m=>lz.mp m
 have V:(ask G W L).length<100:=LB (uh _ _) hl;have Kp:((ask G W L).map Row.bag).Nodup:=nd.sublist (List.Sublist.map _ yC);have e1:=λq=>Vf (G:=G) (rr:=S.r) q nd (by lia) R
 refine kY λO=>?_
 obtain⟨C,T,a5,a6,a7,a8,a9,e2⟩:=XG (n:=n) (rr:=S.r) (g0:=(ar (.lst (L.map bI)))) (g3:=(ar (.lst ((ask G W L).map bI)))) nd hl (λw m=>⟨(J w m).1,(J w m).2.2⟩) V (S.s.set n (.o (.ao (cN W))))
 have F:n<(S.s.set n (.o (.ao (cN W)))).length:=by rw[rj];exact B
 obtain⟨z,p,l,a,wx,U⟩:=XH (n:=n) (m:=(S.s.set n (.o (.ao (cN W)))).length) (rr:=S.r) (g0:=(ar (.lst (L.map bI)))) (g3:=(ar (.lst ((ask G W L).map bI)))) (a5:=a5) (a6:=a6) (a7:=a7) (a8:=a8) (a9:=a9) nd Kp J V D T (t:=S.s.set n (.o (.ao (cN W)))++[.o (.ao (h_ C))]) (by rw[nX F];exact R) sN (by lia)
 refine O ?_;refine⟨C,T,?_⟩;generalize(ask G W L).filterMap (dU G C)=Y at *;rw[List.set_append_left _ _ F,II] at U;have I:aU.cut ⟨S.s.set n (.o (.ao (cN (W++Y))))++[.o (.ao (h_ C))],S.r⟩ (S.s.set n (.o (.ao (cN W)))).length=tw S n (W++Y):=by
  grind [aU.cut]
 generalize(ask G W L).map bI=j at *;unfold DQ;simp only[↓ev,eD,e1,ay,e2,U,I]
end
variable{C:List (bA×Str)}
noncomputable def ia(L:List Row):List (bA×Str):=L.map λw=>((w.b,w.i),w.bag)
theorem Nt{k:bA}{v:Str}:∀{C:List (bA×Str)},k∉C.map (·.1)->kb C k v=C++[(k,v)]
 |[],_=>rfl
 |e::es,h=>by
  rw[cS,y0c,not_or] at h;unfold kb;rw[bq λz=>h.1 z.symm,Nt h.2]
  rfl
def Vh{k:bA}(nd:(C.map (·.1)).Nodup)(h:(k,b)∈C):look C k=some b:=by
 induction C with
 |nil=>cases h
 |cons e es J=>
  grind [v7]
def hold(G:Row->Goal)(L:List Row)(w:Row):ai Str:=match(G w).2 with
 |none=>none
 |some i=>look (ia L) ((G w).1,i)
noncomputable def qg(o:Str):D:=.tup [.str "behind",.str o]
def j0(G:Row->Goal)(L:List Row)(X:List (Str×D))(w:Row)(o:Str):Prop:=w.bag∉X.map (·.1)/\hold G L w=some o/\o∈X.map (·.1)
inductive jJ (G:Row->Goal) (L:List Row) (W:List (Str×D)):List (Str×D)->Prop
 |base:jJ G L W W
 |step {X:List (Str×D)} {w:Row} {o:Str}:jJ G L W X->w∈L->j0 G L X w o->jJ G L W (X++[(w.bag,qg o)])
def jJ.trans{L:List Row}{W X Y:List (Str×D)}(a:jJ G L W X)(b:jJ G L X Y):jJ G L W Y:=by
 induction b with
 |base=>exact a
 |step _ hw hc J=>exact .step J hw hc
section
variable{S:aU}{n m:Nat}{G:Row->Goal}{L:List Row}{w:Row}{W X:List (Str×D)}{a5 a6 a7 a9 g0:ai Val}{t rr:List Cell}{gr:Bool}
def e5d{d:List Row}(ht:t[m]?=some (.o (.ao (h_ (ia d)))))(hl:d.length<1000)(Y:(w.b,w.i)∉d.map λw=>(w.b,w.i)){g1 g2 a8:ai Val}:AI 0 [g0,g1,g2,aJ m,aY w.bag,ar (aN w.fl),ar (pl w.b w.i),bx w.gn,a8,a9] ⟨t,rr⟩=some (.nx [g0,g1,g2,aJ m,aY w.bag,ar (aN w.fl),ar (pl w.b w.i),bx w.gn,a8,a9] ⟨t.set m (.o (.ao (h_ (ia (d++[w]))))),rr⟩):=by
 have J:=IJ (w.b,w.i) w.bag (ia d);rw[Nt (by unfold ia;rw[dy];exact Y),show ia d++[((w.b,w.i),w.bag)]=ia (d++[w]) by unfold ia;rw[eC];rfl] at J
 have V:((h_ (ia d)).length<1000000)=True:=br (by unfold h_ ia;rw[ba,ba];lia)
 have lt:(m<t.length)=True:=br (dX.mp ht).1;unfold kC at J;dsimp only at J;generalize aN w.fl=U at *;unfold AI;simp only[↓ev,ht,V,J]
def Vi{c:Cell}(h:t[n]?=some c):t.set n c=t:=by
 obtain⟨Y,J⟩:=dX.mp h;rw[<-J,LP]
def e5e{c:Str}:aG (h_ C) (.inr c)=none:=by
 grind [aG,h_,kC]
def e5f{α:Type}{k:α->Str}{v:α->D}{xs:List α}:aG (td k v xs) TK.aI=none:=by
 grind [aG,td]
def e8h(hv:aG (cq G L) (.inr w.bag)=some (gD (G w)))(hm:t[m]?=some (.o (.ao (h_ (ia L)))))(Y:t[n]?=some (.o (.ao (cN X))))(hc:∀o,¬j0 G L X w o):∃b9,vU 0 [g0,ar (.ao (cq G L)),aJ n,aJ m,aY w.bag,a5,a6,a7,ar (.bl gr),a9] ⟨t,rr⟩=some (.nx [g0,ar (.ao (cq G L)),aJ n,aJ m,aY w.bag,a5,a6,a7,ar (.bl gr),b9] ⟨t,rr⟩):=by
 have i:=zK (W:=X) (b:=w.bag);have B:aG (cN X) TK.aI=none:=e5f;unfold j0 hold at hc;unfold vU;generalize G w=p at *;obtain⟨c,j⟩:=p;cases j with
 |none=>
  unfold gD at hv;have v:=e5e (C:=ia L) (c:=c);refine⟨(ar .aI),?_⟩;cases J:(X.map (·.1)).contains w.bag with
  |true=>
   rw[J] at i;simp only[↓ev,hm,hv,v,ay,Y,i]
  |false=>
   rw[J] at i;simp only[↓ev,hm,hv,v,ay,Y,i,B,vH]
 |some j=>
  unfold gD at hv;dsimp only at hc hv;have v:=BA (c,j) (ia L);unfold kC at v;dsimp only at v;cases V:look (ia L) (c,j) with
  |none=>
   rw[V] at v;refine⟨(ar .aI),?_⟩;cases J:(X.map (·.1)).contains w.bag with
   |true=>
    rw[J] at i;simp only[↓ev,hm,hv,v,ay,Y,i]
   |false=>
    rw[J] at i;simp only[↓ev,hm,hv,v,ay,Y,i,B,vH]
  |some o=>
   rw[V] at v;refine⟨(aY o),?_⟩;cases J:(X.map (·.1)).contains w.bag with
   |true=>
    rw[J] at i;simp only[↓ev,hm,hv,v,ay,Y,i]
   |false=>
    rw[J] at i;have U:=zK (W:=X) (b:=o);have F:(X.map (·.1)).contains o=false:=by
     rw[GI];intro z;exact hc o ⟨λy=>(by rw[kE.mpr y] at J;cases J),V,kE.mp z⟩
    rw[F] at U;simp only[↓ev,hm,hv,v,ay,Y,i,U]
def e5g(hv:aG (cq G L) (.inr w.bag)=some (gD (G w)))(hm:t[m]?=some (.o (.ao (h_ (ia L)))))(J:t[n]?=some (.o (.ao (cN X))))(hc:j0 G L X w o)(hl:X.length<1000):vU 0 [g0,ar (.ao (cq G L)),aJ n,aJ m,aY w.bag,a5,a6,a7,ar (.bl gr),a9] ⟨t,rr⟩=some (.nx [g0,ar (.ao (cq G L)),aJ n,aJ m,aY w.bag,a5,a6,a7,ar (.bl true),aY o] ⟨t.set n (.o (.ao (cN (X++[(w.bag,qg o)])))),rr⟩):=by
 have i:=zK (W:=X) (b:=w.bag);have Y:=zK (W:=X) (b:=o);obtain⟨c1,c2,V⟩:=hc;rw[show(X.map (·.1)).contains w.bag=false by rw[GI];exact λz=>c1 (kE.mp z)] at i
 rw[kE.mpr V] at Y;have hp:=IH (y:=qg o) c1;have U:((cN X).length<1000000)=True:=br (by unfold cN;rw[kX];lia)
 have lt:(n<t.length)=True:=br (dX.mp J).1;unfold hold at c2;unfold vU;generalize G w=p at *;obtain⟨c,j⟩:=p;cases j with
 |none=>cases c2
 |some j=>
  unfold gD at hv;dsimp only at c2 hv;have v:=BA (c,j) (ia L);unfold kC at v;dsimp only at v;rw[c2] at v;unfold qg at hp ⊢;simp only[↓ev,hm,hv,v,ay,J,i,Y,U,hp]
end
variable{X:List (Str×D)}{w:Row}{L:List Row}
noncomputable def nk(X:List (Str×D))(w:Row):Bool := !(X.map (·.1)).contains w.bag
def lM:nk X w=true↔w.bag∉X.map (·.1):=by
 unfold nk;rw[Gy,GI,ne_eq,kE]
def mu(L:List Row)(X:List (Str×D)):Nat:=(L.filter (nk X)).length
def XJ{y:D}(hw:w∈L)(h:w.bag∉X.map (·.1)):mu L (X++[(w.bag,y)])<mu L X:=by
 unfold mu;have e:L.filter (nk (X++[(w.bag,y)]))=(L.filter (nk X)).filter λz=>decide (z.bag≠w.bag):=by
  rw[List.filter_filter];refine List.filter_congr λz _=>?_
  rw[Ai,lM,jx,lM,y9a,eC,iC,List.map_singleton,jT];exact⟨λz=>⟨λy=>z (.inr y),λy=>z (.inl y)⟩,λz y=>y.elim z.2 z.1⟩
 rw[e,List.length_filter_lt_length_iff_exists];exact⟨w,rb.mpr ⟨hw,lM.mpr h⟩,by simp⟩
def jJ.yv(a:jJ G L W X):X.length+mu L X<=W.length+mu L W:=by
 induction a with
 |base=>exact bU _
 |@step X w o _ hw hc J=>
  have:=XJ (y:=qg o) hw hc.1;rw[cZ];simp;lia
def PY:mu L X<=L.length:=uh _ _
section
variable{S:aU}{n m:Nat}{G:Row->Goal}{L:List Row}{w:Row}{W X:List (Str×D)}{a4 a5 a6 a7 a9 g0:ai Val}{t rr:List Cell}
def Vj(nd:(L.map Row.bag).Nodup)(hl:L.length<100)(a:X.length<200)(nm:n≠m)(hm:t[m]?=some (.o (.ao (h_ (ia L)))))(R:t[n]?=some (.o (.ao (cN X)))):∃J gr Y b9,jJ G L X J/\(gr=true->X.length<J.length)/\(gr=false->J=X/\∀w∈L,∀o,¬j0 G L X w o)/\aM (ae 4) (vU 0) (dS (L.map Row.bag)) [g0,ar (.ao (cq G L)),aJ n,aJ m,a4,a5,a6,a7,ar (.bl false),a9] ⟨t,rr⟩=some (.nx [g0,ar (.ao (cq G L)),aJ n,aJ m,Y,a5,a6,a7,ar (.bl gr),b9] ⟨t.set n (.o (.ao (cN J))),rr⟩):=by
 have lt:=(dX.mp R).1;rw[show dS (L.map Row.bag)=L.map λw=>.str w.bag by unfold dS;rw[dy];rfl]
 refine kY λO=>?_
 obtain⟨q,S',e,J,gr,Y,b9,rfl,rfl,V,F,B⟩:=f_ (ae 4) (vU 0) (λw:Row=>.str w.bag) ⟨t,rr⟩ (λpre U S'=>∃J gr Y b9,U=[g0,ar (.ao (cq G L)),aJ n,aJ m,Y,a5,a6,a7,ar (.bl gr),b9]/\S'=⟨t.set n (.o (.ao (cN J))),rr⟩/\jJ G L X J/\(gr=true->X.length<J.length)/\(gr=false->J=X/\∀w∈pre,∀o,¬j0 G L X w o)) L ⟨X,false,a4,a9,rfl,by rw[Vi R],.base,λz=>(by cases z),λ_=>⟨rfl,λw m=>(by cases m)⟩⟩ (by
  rintro d w post I U S' ⟨J,gr,Y,b9,rfl,rfl,V,F,B⟩;have hw:w∈L:=by rw[I];simp
  have hv:aG (cq G L) (.inr w.bag)=some (gD (G w)):=gP nd hw;have D:(t.set n (.o (.ao (cN J))))[m]?=some (.o (.ao (h_ (ia L)))):=by rw[ud nm];exact hm
  have T:(t.set n (.o (.ao (cN J))))[n]?=some (.o (.ao (cN J))):=oV lt;have tt:=V.yv;have ml:=PY (L:=L) (X:=X);by_cases hc:∃o,j0 G L J w o
  .obtain⟨o,hc⟩:=hc;refine⟨_,_,_,rfl,.inl (e5g hv D T hc (by lia)),_,true,_,_,rfl,by rw[DA],.step V hw hc,λ_=>?_,λz=>(by cases z)⟩
   have:=(jJ.step V hw hc).yv;rw[cZ];have l:X.length<=J.length:=by
    grind
   simp;lia
  .obtain⟨p,e⟩:=e8h (gr:=gr) (a5:=a5) (a6:=a6) (a7:=a7) (a9:=b9) (g0:=g0) (rr:=rr) hv D T λo z=>hc ⟨o,z⟩
   refine⟨_,_,_,rfl,.inl e,J,gr,_,_,rfl,rfl,V,F,λz=>⟨(B z).1,λj mw o co=>?_⟩⟩
   rcases iC.mp mw with mw|mw
   .exact(B z).2 j mw o co
   .rw[jT.mp mw] at co;exact hc ⟨o,by rw[(B z).1];exact co⟩)
 refine O ?_;exact⟨J,gr,Y,b9,V,F,B,e⟩
def Vk(nd:(L.map Row.bag).Nodup)(hl:L.length<100)(V:X.length<200)(nm:n≠m)(hm:t[m]?=some (.o (.ao (h_ (ia L)))))(U:t[n]?=some (.o (.ao (cN X)))){a8:ai Val}:∃J gr Y b9,jJ G L X J/\(gr=true->X.length<J.length)/\(gr=false->J=X/\∀w∈L,∀o,¬j0 G L X w o)/\DR 0 [g0,ar (.ao (cq G L)),aJ n,aJ m,a4,a5,a6,a7,a8,a9] ⟨t,rr⟩=some (.nx [g0,ar (.ao (cq G L)),aJ n,aJ m,Y,a5,a6,a7,ar (.bl gr),b9] ⟨t.set n (.o (.ao (cN J))),rr⟩):=by
 obtain⟨J,gr,Y,b9,B,F,T,e⟩:=Vj (G:=G) (a4:=a4) (a5:=a5) (a6:=a6) (a7:=a7) (a9:=a9) (g0:=g0) (rr:=rr) nd hl V nm hm U;refine⟨J,gr,Y,b9,B,F,T,?_⟩;have k:(cq G L).map (·.1.d)=dS (L.map Row.bag):=E1
 unfold DR;simp only[↓ev,ay,k,eD,e]
theorem MQ(nd:(L.map Row.bag).Nodup)(hl:L.length<100)(nm:n≠m):∀(f:Nat) {X:List (Str×D)} {t:List Cell} {a4 a9:ai Val},X.length+mu L X<200->mu L X+2<=f->t[m]?=some (.o (.ao (h_ (ia L))))->t[n]?=some (.o (.ao (cN X)))->∃J V b9,jJ G L X J/\(∀w∈L,∀o,¬j0 G L J w o)/\a_ (cM (mB 8)) (DR 0) f [g0,ar (.ao (cq G L)),aJ n,aJ m,a4,a5,a6,a7,ar (.bl true),a9] ⟨t,rr⟩=some (.nx [g0,ar (.ao (cq G L)),aJ n,aJ m,V,a5,a6,a7,ar (.bl false),b9] ⟨t.set n (.o (.ao (cN J))),rr⟩)
 |0,X,t,a4,a9,O,j,hm,U=>by lia
 |f+1,X,t,a4,a9,O,j,hm,U=>by
  have lt:=(dX.mp U).1;refine kY λF=>?_
  obtain⟨J,gr,V,b9,B,q,z,e⟩:=Vk (G:=G) (a4:=a4) (a5:=a5) (a6:=a6) (a7:=a7) (a8:=(ar (.bl true))) (a9:=a9) (g0:=g0) (rr:=rr) nd hl (by lia) nm hm U
  have tt:=B.yv;refine F ?_;cases gr with
  |true=>
   have l1:=q rfl;refine kY λF=>?_
   obtain⟨Y,R,I,j1,j2,e2⟩:=MQ nd hl nm f (X:=J) (t:=t.set n (.o (.ao (cN J)))) (a4:=V) (a9:=b9) (by lia) (by lia) (by rw[ud nm];exact hm) (oV lt)
   rw[DA] at e2;refine F ?_;refine⟨Y,R,I,B.trans j1,j2,?_⟩;unfold a_;simp only[↓ev,e,e2]
  |false=>
   obtain⟨j1,j2⟩:=z rfl;subst j1;obtain⟨T,rfl⟩:∃T,f=T+1:=⟨f - 1,by lia⟩
   refine⟨J,V,b9,B,j2,?_⟩;unfold a_;simp only[↓ev,e];rfl
end
section
variable{S:aU}{n:Nat}{G:Row->Goal}{L:List Row}{W:List (Str×D)}{g0 g1 g2:ai Val}{rr:List Cell}
def XM(un:(L.map λw=>(w.b,w.i)).Nodup)(hl:L.length<100)(t:List Cell):∃J Y V B,aM (bc [(ae 4),(ae 5),(ae 6),(ae 7)]) (AI 0) (L.map bI) [g0,g1,g2,aJ t.length,none,none,none,none,none,none] ⟨t++[.o (.ao [])],rr⟩=some (.nx [g0,g1,g2,aJ t.length,J,Y,V,B,none,none] ⟨t++[.o (.ao (h_ (ia L)))],rr⟩):=by
 refine kY λT=>?_
 obtain⟨R,S',e,⟨J,Y,V,B,rfl⟩,rfl⟩:=f_ (bc [(ae 4),(ae 5),(ae 6),(ae 7)]) (AI 0) bI ⟨t++[.o (.ao [])],rr⟩ (λpre U S'=>(∃J Y V B,U=[g0,g1,g2,aJ t.length,J,Y,V,B,none,none])/\S'=⟨t++[.o (.ao (h_ (ia pre)))],rr⟩) L ⟨⟨none,none,none,none,rfl⟩,rfl⟩ (by
  rintro d w post D U S' ⟨⟨J,Y,V,B,rfl⟩,rfl⟩;have hd:d.length<100:=by
   grind
  have F:(w.b,w.i)∉d.map λw=>(w.b,w.i):=by
   grind
  refine⟨_,_,_,rfl,.inl (e5d sN (by lia) F),⟨_,_,_,_,rfl⟩,?_⟩
  rw[F7];rfl)
 refine T ?_;exact⟨J,Y,V,B,e⟩
def Vl(J:n<S.s.length)(nd:(L.map Row.bag).Nodup)(un:(L.map λw=>(w.b,w.i)).Nodup)(hl:L.length<100)(j:W.length<100):∃X,jJ G L W X/\(∀w∈L,∀o,¬j0 G L X w o)/\DW 0 [.d (.lst (L.map bI)),.d (.ao (cq G L)),.c n] (tw S n W)=some (.ok (rd .aI) (tw S n X)):=by
 have O:=I_ (W:=W) J;have Y:n<(S.s.set n (.o (.ao (cN W)))).length:=by rw[rj];exact J
 refine kY λI=>?_
 obtain⟨V,U,B,F,e1⟩:=XM (g0:=(ar (.lst (L.map bI)))) (g1:=(ar (.ao (cq G L)))) (g2:=(aJ n)) (rr:=S.r) un hl (S.s.set n (.o (.ao (cN W))));have ml:=PY (L:=L) (X:=W);obtain⟨X,q,z,R,D,e2⟩:=MQ (G:=G) (n:=n) (m:=(S.s.set n (.o (.ao (cN W)))).length) (g0:=(ar (.lst (L.map bI)))) (a5:=U) (a6:=B) (a7:=F) (rr:=S.r) nd hl (by lia) 1000 (X:=W) (t:=S.s.set n (.o (.ao (cN W)))++[.o (.ao (h_ (ia L)))]) (a4:=V) (a9:=none) (by lia) (by lia) sN (by rw[nX Y];exact O)
 refine I ?_;refine⟨X,R,D,?_⟩;rw[List.set_append_left _ _ Y,II] at e2;have T:aU.cut ⟨S.s.set n (.o (.ao (cN X)))++[.o (.ao (h_ (ia L)))],S.r⟩ (S.s.set n (.o (.ao (cN W)))).length=tw S n X:=by
  grind [aU.cut]
 unfold DW;simp only[↓ev,ay,eD,e1,e2,T]
end
variable{a bag o:Str}{x j gn:Int}{z:Row}
theorem sY{y:Int}:dP (pl a x) (pl b y)=(a == b&&(x == y)):=by
 show ir [.str a,.int x] [.str b,.int y]=_;show(dP (.str a) (.str b)&&(dP (.int x) (.int y)&&true))=_;rw[Jl,P7,LD]
def m_:fj 40 (pl a x)=true:=rfl
noncomputable def eA(bag o:Str)(j gn:Int)(z:Row):Row:=if z.bag=bag then{ z with b:=o,i:=j,gn:=gn} else z
def Be:(eA bag o j gn z).bag=z.bag:=by unfold eA;split <;> rfl
def XN:(eA bag o j gn z).fl=z.fl:=by unfold eA;split <;> rfl
theorem mY{α β:Type}{f:α->β}{l:List α}(nd:(l.map f).Nodup){a b:α}(J:a∈l)(hb:b∈l)(e:f a=f b):a=b:=by
 induction l with
 |nil=>cases J
 |cons z l Y=>
  grind
section
variable{rows:List Row}{bag o:Str}{j gn:Int}{w:Row}
def Pm(nb:(rows.map Row.bag).Nodup)(hb:bag∈rows.map Row.bag):bP (ib rows) (.inr bag) (pl o j)=ib (rows.map (eA bag o j gn)):=by
 unfold ib;rw[Bz nb hb];unfold td;rw[dy];refine lY λz _=>?_
 dsimp only[Function.comp];rw[Be];unfold eA;split <;> rfl
def e5i(nb:(rows.map Row.bag).Nodup)(hb:bag∈rows.map Row.bag):bP (kD rows) (.inr bag) (.int gn)=kD (rows.map (eA bag o j gn)):=by
 unfold kD;rw[Bz nb hb];unfold td;rw[dy];refine lY λz _=>?_
 dsimp only[Function.comp];rw[Be];unfold eA;split <;> rfl
def XO(nb:(rows.map Row.bag).Nodup)(hw:w∈rows):kD (rows.map (eA w.bag o j w.gn))=kD rows:=by
 unfold kD td;rw[dy];refine lY λz J=>?_
 dsimp only[Function.comp];rw[Be];unfold eA;split
 .rename_i e
  rw[mY nb J hw e]
 .rfl
def Pn:iA (rows.map (eA bag o j gn))=iA rows:=by
 unfold iA td;rw[dy];refine lY λz _=>?_
 dsimp only[Function.comp];rw[Be,XN]
end
section
variable{s B:List Cell}{h:aA}{r:Int}{x:Hl}{w:Row}{bt:av}{o:Str}{j:Int}
noncomputable def iB(bt:av)(i:Int)(o:Str)(j:Int):Bool:=bt.ring&&((i == bt.long - 1)&&(o == bt.name&&(j == 0)))
def e5j(g:aH h)(nb:(x.rows.map Row.bag).Nodup)(hw:w∈x.rows)(hb:bt∈h.af)(R:bt.name=w.b)(hl:x.rows.length<1000):uo 0 [eB,cD w.bag,.d (pl o j)] (hS B (aF h) r x s)=some (.ok (rd .aI) (hS B (aF h) r { x with rows:=x.rows.map (eA w.bag o j (if iB bt w.i o j=true then w.gn+1 else w.gn))} s)):=by
 have e:=zj g hb;have I:au bt=.tup [.str bt.name,.int bt.long,.bl bt.ring,.lst (dS bt.outs)]:=rfl;rw[I] at e;have hm:=l7 (f:=Row.bag) hw;have J:aG (ib x.rows) (.inr w.bag)=_:=gP nb hw;have D:aG (kD x.rows) (.inr w.bag)=_:=gP nb hw;have l1:((ib x.rows).length<1000000)=True:=br (by unfold ib;rw[kX];lia)
 have l2:((kD x.rows).length<1000000)=True:=br (by unfold kD;rw[kX];lia)
 rw[<-R] at J;generalize aF h=hd at *;have F:iB bt w.i o j=true->uo 0 [eB,cD w.bag,.d (pl o j)] (hS B hd r x s)=some (.ok (rd .aI) (hS B hd r { x with rows:=x.rows.map (eA w.bag o j (if iB bt w.i o j=true then w.gn+1 else w.gn))} s)):=λhc=>by
  rw[bJ hc];have Y:=Pm (o:=o) (j:=j) (gn:=w.gn+1) nb hm;have V:=e5i (o:=o) (j:=j) (gn:=w.gn+1) nb hm;have U:=Pn (rows:=x.rows) (bag:=w.bag) (o:=o) (j:=j) (gn:=w.gn+1);unfold iB at hc;rw[jx,jx] at hc;obtain⟨c1,c2,T⟩:=hc;unfold uo;rw[c1] at e;simp only[↓ev,hS,hR,ay,J,e,m_,sY,c2,T,D,l2,V,l1,Y,U]
 have no:iB bt w.i o j=false->uo 0 [eB,cD w.bag,.d (pl o j)] (hS B hd r x s)=some (.ok (rd .aI) (hS B hd r { x with rows:=x.rows.map (eA w.bag o j (if iB bt w.i o j=true then w.gn+1 else w.gn))} s)):=λhc=>by
  rw[bq (by rw[hc];decide)]
  have Y:=Pm (o:=o) (j:=j) (gn:=w.gn) nb hm;have V:=XO (o:=o) (j:=j) nb hw;have U:=Pn (rows:=x.rows) (bag:=w.bag) (o:=o) (j:=j) (gn:=w.gn);unfold iB at hc;unfold uo;cases er:bt.ring with
  |false=>
   rw[er] at e;simp only[↓ev,hS,hR,ay,J,e,l1,Y,U,V]
  |true=>
   rw[er] at e hc;rw[GK] at hc;cases c2:(w.i == bt.long - 1) with
   |false=>simp only[↓ev,hS,hR,ay,J,e,m_,sY,c2,l1,Y,U,V]
   |true=>
    rw[c2,GK] at hc;simp only[↓ev,hS,hR,ay,J,e,m_,sY,c2,hc,l1,Y,U,V]
 cases hc:iB bt w.i o j with
 |true=>have:=F hc;rw[hc] at this;exact this
 |false=>have:=no hc;rw[hc] at this;exact this
end
section
variable{s B:List Cell}{h:aA}{r:Int}{x:Hl}{w:Row}{c:Str}
def e5k{l:List (Str×Str×Int)}{nw:Int}(hb:b∉l.map (·.1)):bP (wG l) (.inr b) (.str c)=wG (l++[(b,c,nw)]):=by
 unfold wG;rw[By hb];unfold td;rw[eC];rfl
def XQ(nb:(x.rows.map Row.bag).Nodup)(hw:w∈x.rows)(T:w.bag∉x.gone.map (·.1))(hl:x.gone.length<2000):AM 0 [eB,cD w.bag,cD c] (hS B hd r x s)=some (.ok (rd .aI) (hS B hd r { x with rows:=x.rows.filter λz=>decide (z.bag≠w.bag),gone:=x.gone++[(w.bag,c,x.now)]} s)):=by
 have V:aG (ib x.rows) (.inr w.bag)=_:=gP nb hw;have U:aG (kD x.rows) (.inr w.bag)=_:=gP nb hw;have F:aG (iA x.rows) (.inr w.bag)=_:=gP nb hw;have J:df (ib x.rows) w.bag=ib (x.rows.filter λz=>decide (z.bag≠w.bag)):=zy
 have d2:df (kD x.rows) w.bag=kD (x.rows.filter λz=>decide (z.bag≠w.bag)):=zy
 have Y:df (iA x.rows) w.bag=iA (x.rows.filter λz=>decide (z.bag≠w.bag)):=zy
 have R:=e5k (c:=c) (nw:=x.now) T;have l1:((wG x.gone).length<1000000)=True:=br (by unfold wG;rw[kX];lia)
 have l2:((l0 x.gone).length<1000000)=True:=br (by unfold l0;rw[ba];lia)
 have I:l0 x.gone++[.tup [.str w.bag,.str c,.int x.now]]=l0 (x.gone++[(w.bag,c,x.now)]):=by unfold l0;rw[eC];rfl
 have O:eU (ib x.rows)=true:=sM;have q:eU (kD x.rows)=true:=sM;have t3:eU (iA x.rows)=true:=sM;generalize aN w.fl=p at *;unfold AM;simp only[↓ev,hS,hR,ay,O,V,J,t3,F,Y,q,U,d2,l1,R,l2,I]
end
variable{z:Row}
def oE(h:aA)(G:Row->Goal)(z:Row):ai Row:=match(G z).2 with
 |none=>none
 |some j=>some { z with b:=(G z).1,i:=j,gn:=match findB h.af z.b with
  |none=>z.gn
  |some bt=>if iB bt z.i (G z).1 j=true then z.gn+1 else z.gn}
def gY(h:aA)(G:Row->Goal)(p:Row->Bool)(rows:List Row):List Row:=rows.filterMap λz=>if p z=true then oE h G z else some z
noncomputable def eR(G:Row->Goal)(nw:Int)(w:Row):ai (Str×Str×Int):=match(G w).2 with
 |none=>some (w.bag,(G w).1,nw)
 |some _=>none
def gR(h:aA)(G:Row->Goal)(p:Row->Bool)(M:List Row)(x:Hl):Hl:={ x with now:=x.now+1,rows:=gY h G p x.rows,gone:=x.gone++M.filterMap (eR G (x.now+1))}
section
variable{h:aA}{x:Hl}{w:Row}{G:Row->Goal}{p Q:Row->Bool}{rows:List Row}
def HY{α β:Type}{f g:α->ai β}{l:List α}(h:∀x∈l,f x=g x):l.filterMap f=l.filterMap g:=by
 induction l with
 |nil=>rfl
 |cons x l J=>rw[nV,nV,h x (.head _),J λy m=>h y (.tail _ m)]
theorem E4{J:Row}(e:oE h G z=some J):J.bag=z.bag/\J.fl=z.fl:=by
 unfold oE at e;split at e
 .cases e
 .cases e;exact⟨rfl,rfl⟩
theorem EL(p:Row->Bool)(rows:List Row):((gY h G p rows).map Row.bag).Sublist (rows.map Row.bag):=by
 unfold gY
 induction rows with
 |nil=>exact .slnil
 |cons z rows J=>
  grind [E4]
def Ol(hz:z∈rows)(hp:p z=false):z∈gY h G p rows:=ue.mpr ⟨z,hz,by rw[hp];rfl⟩
def Om(nb:(rows.map Row.bag).Nodup)(hw:w∈rows)(hp:p w=false)(F:∀z,Q z=(p z || z.bag == w.bag))(V:(G w).2=none):(gY h G p rows).filter (λz=>decide (z.bag≠w.bag))=gY h G Q rows:=by
 unfold gY;rw[List.filter_filterMap];refine HY λz U=>?_
 rw[F z];by_cases e:z.bag=w.bag
 .have Y:=mY nb U hw e;subst Y;rw[hp,rq,LO,bq (by decide),bJ rfl,show oE h G z=none by unfold oE;rw[V]]
  show Option.filter _ (some z)=none;unfold Option.filter;simp
 .rw[show(z.bag == w.bag)=false by rw[oY];exact e,Bool.or_false]
  split
  .cases J:oE h G z with
   |none=>rfl
   |some T=>
    unfold Option.filter;dsimp only;exact bJ (nh (by rw[(E4 J).1];exact e))
  .unfold Option.filter;dsimp only;exact bJ (nh e)
def Po(nb:(rows.map Row.bag).Nodup)(hw:w∈rows)(hp:p w=false)(T:∀z,Q z=(p z || z.bag == w.bag))(U:(G w).2=some j)(hb:findB h.af w.b=some bt):(gY h G p rows).map (eA w.bag (G w).1 j (if iB bt w.i (G w).1 j=true then w.gn+1 else w.gn))=gY h G Q rows:=by
 obtain⟨J,Qh⟩:∃J,(if iB bt w.i (G w).1 j=true then w.gn+1 else w.gn)=J:=⟨_,rfl⟩
 rw[Qh];unfold gY;rw[List.map_filterMap];refine HY λz F=>?_
 rw[T z];by_cases e:z.bag=w.bag
 .have V:=mY nb F hw e;subst V;rw[hp,rq,LO,bq (by decide),bJ rfl]
  unfold oE eA;rw[U,hb,Am,bJ rfl];dsimp only;rw[Qh]
 .rw[show(z.bag == w.bag)=false by rw[oY];exact e,Bool.or_false]
  split
  .cases Y:oE h G z with
   |none=>rfl
   |some R=>
    rw[Am];unfold eA;rw[bq (by rw[(E4 Y).1];exact e)]
  .rw[Am];unfold eA;rw[bq e]
end
variable{E:aU}{hd:D}
noncomputable def jm(d:List Row)(z:Row):Bool:=(d.map Row.bag).contains z.bag
def nc(G:Row->Goal)(w:Row):D:=.tup [.str w.bag,gD (G w)]
section
variable{s B:List Cell}{h:aA}{r:Int}{x:Hl}{w:Row}{G:Row->Goal}{n:Nat}{M:List Row}{g1:ai Val}
def e8i(J:(G w).2=some j)(e:uo 0 [eB,cD w.bag,.d (pl (G w).1 j)] (hS B hd r x s)=some (.ok (rd .aI) E)):vZ 0 [cR,g1,aY w.bag,ar (gD (G w))] (hS B hd r x s)=some (.nx [cR,g1,aY w.bag,ar (gD (G w))] E):=by
 have e1:gD (G w)=pl (G w).1 j:=by unfold gD;generalize G w=p at *;obtain⟨c,i⟩:=p;cases J;rfl
 rw[e1];unfold vZ;simp only[↓ev,ay,hR,e]
def e5l(J:(G w).2=none)(e:AM 0 [eB,cD w.bag,.d (.str (G w).1)] (hS B hd r x s)=some (.ok (rd .aI) E)):vZ 0 [cR,g1,aY w.bag,ar (gD (G w))] (hS B hd r x s)=some (.nx [cR,g1,aY w.bag,ar (gD (G w))] E):=by
 have e1:gD (G w)=.str (G w).1:=by unfold gD;generalize G w=p at *;obtain⟨c,i⟩:=p;cases J;rfl
 rw[e1];unfold vZ;simp only[↓ev,ay,hR,e]
def HZ(d:List Row)(w z:Row):jm (d++[w]) z=(jm d z || z.bag == w.bag):=by
 grind [jm]
def XR(g:aH h)(o:Ok h n x)(O:∀w∈M,w∈x.rows)(p:(M.map Row.bag).Nodup)(Jz:M.length<=x.rows.length)(t:n<1000):∃J Y,aM (bc [(ae 2),(ae 3)]) (vZ 0) (M.map (nc G)) [cR,g1,none,none] (hS B (aF h) r { x with now:=x.now+1} s)=some (.nx [cR,g1,J,Y] (hS B (aF h) r (gR h G (jm M) M x) s)):=by
 refine kY λq=>?_
 obtain⟨m,S',e,⟨J,Y,rfl⟩,rfl⟩:=f_ (bc [(ae 2),(ae 3)]) (vZ 0) (nc G) (hS B (aF h) r { x with now:=x.now+1} s) (λpre U S'=>(∃J Y,U=[cR,g1,J,Y])/\S'=hS B (aF h) r (gR h G (jm pre) pre x) s) M ⟨⟨none,none,rfl⟩,by
   have e1:gR h G (jm []) [] x={ x with now:=x.now+1}:=by
    unfold gR gY;rw[vJ,jI,show(λz:Row=>if jm [] z=true then oE h G z else some z)=some from funext λz=>by rw[bq (by unfold jm;simp)],List.filterMap_some]
   rw[e1]⟩ (by
  rintro d w post D U S' ⟨⟨J,Y,rfl⟩,rfl⟩;have hw:w∈x.rows:=O w (by rw[D];simp)
  have T:w.bag∉d.map Row.bag:=EK D p;have hp:jm d w=false:=by unfold jm;rw[GI];exact λz=>T (kE.mp z)
  have nb:((gR h G (jm d) d x).rows.map Row.bag).Nodup:=o.nb.sublist (EL _ _);have Qq:w∈(gR h G (jm d) d x).rows:=Ol hw hp;have ll:(gR h G (jm d) d x).rows.length<=x.rows.length:=by
   have:=(EL (h:=h) (G:=G) (jm d) x.rows).length_le;rw[ba,ba] at this;exact this
  have rl:=o.rl;have sz:=o.sz;obtain⟨bt,hb,R,_⟩:=(o.rw w hw).1;have I:=za g hb;rw[R] at I;cases V:(G w).2 with
  |some j=>
   refine⟨_,_,_,rfl,.inl (e8i V (e5j g nb Qq hb R (by lia))),⟨_,_,rfl⟩,?_⟩
   unfold gR;dsimp only;rw[Po o.nb hw hp (HZ d w) V I,DB,show List.filterMap (eR G (x.now+1)) [w]=[] by rw[nV,vJ];unfold eR;rw[V],jI]
  |none=>
   have F:w.bag∉(gR h G (jm d) d x).gone.map (·.1):=by
    unfold gR;dsimp only;rw[eC,iC];rintro(z|z)
    .exact(l6.mp o.nd).2.2 _ (l7 hw) _ z rfl
    grind [eR]
   have Cd:(gR h G (jm d) d x).gone.length<2000:=by
    grind [gR]
   refine⟨_,_,_,rfl,.inl (e5l V (XQ nb Qq F Cd)),⟨_,_,rfl⟩,?_⟩;unfold gR;dsimp only;rw[Om o.nb hw hp (HZ d w) V,DB,show List.filterMap (eR G (x.now+1)) [w]=[(w.bag,(G w).1,x.now+1)] by rw[nV,vJ];unfold eR;rw[V],jz])
 refine q ?_;exact⟨J,Y,e⟩
end
section
variable{s B:List Cell}{h:aA}{r:Int}{x:Hl}{w:Row}{G:Row->Goal}{n m:Nat}{M L:List Row}{X:List (Str×D)}{hd:D}
def hlen{J:Int}:Nat.blt (hF hd r J m).length 1000=true:=rfl
def e5m(g:aH h)(o:Ok h n x)(J:∀w∈M,w∈x.rows)(U:(M.map Row.bag).Nodup)(Jz:M.length<=x.rows.length)(Y:n<1000)(V:s[m]?=some (.o (.lst (M.map (nc G))))):ED 0 [eB,.c m] (hS B (aF h) r x s)=some (.ok (rd .aI) (hS B (aF h) r (gR h G (jm M) M x) (s.set m (.z (.lst (M.map (nc G))))))):=by
 obtain⟨F,T,e⟩:=XR (G:=G) (r:=r) (B:=B) (s:=s.set m (.z (.lst (M.map (nc G))))) (g1:=(aJ m)) g o J U Jz Y;generalize M.map (nc G)=ml at *;generalize aF h=hd at *;unfold ED;simp only[↓ev,hS,hR,ay,hlen,ζ,V,eD,e]
def dI(X:List (Str×D))(G:Row->Goal)(w:Row):D:=match X.find? λp=>p.1 == w.bag with
 |some p=>.tup [.str w.bag,pl w.b w.i,pl w.b w.i,p.2]
 |none=>.tup [.str w.bag,pl w.b w.i,gD (G w),.aI]
abbrev tS(B:List Cell)(hd:D)(r:Int)(x:Hl)(s:List Cell)(X:List (Str×D))(lg J:List D):aU:=⟨s++[.o (.ao (cN X)),.o (.lst lg),.o (.lst J)],hR hd r x B⟩
def Oo(X:List (Str×D))(w:Row):(X.find? (λp=>p.1 == w.bag)=none/\nk X w=true/\aG (cN X) (.inr w.bag)=none)\/∃p,X.find? (λp=>p.1 == w.bag)=some p/\nk X w=false/\aG (cN X) (.inr w.bag)=some p.2:=by
 have v:aG (cN X) (.inr w.bag)=_:=Bw w.bag X;have i:=zK (W:=X) (b:=w.bag);rw[v] at i ⊢;unfold nk;rw[<-i];cases X.find? (λp=>p.1 == w.bag) with
 |none=>exact .inl ⟨rfl,rfl,rfl⟩
 |some p=>exact .inr ⟨p,rfl,rfl,rfl⟩
def e5n{lg J:List D}{g1:ai Val}(hv:aG (cq G L) (.inr w.bag)=some (gD (G w)))(l1:lg.length<1000)(l2:J.length<1000):Bb 0 [cR,g1,ar (.ao (cq G L)),aJ s.length,aJ (s.length+1),aJ (s.length+2),aY w.bag,ar (aN w.fl),ar (pl w.b w.i),bx w.gn] (tS B hd r x s X lg J)=some (.nx [cR,g1,ar (.ao (cq G L)),aJ s.length,aJ (s.length+1),aJ (s.length+2),aY w.bag,ar (aN w.fl),ar (pl w.b w.i),bx w.gn] (tS B hd r x s X (lg++[dI X G w]) (if nk X w=true then J++[nc G w] else J))):=by
 have Qu:(lg.length<1000000)=True:=br (by lia)
 have V:(J.length<1000000)=True:=br (by lia)
 unfold dI nc;generalize aN w.fl=U at *;generalize gD (G w)=gg at *;unfold Bb;rcases Oo X w with⟨e1,e2,Y⟩|⟨p,e1,e2,Y⟩
 .rw[e1,e2,bJ rfl];simp only[↓ev,tS,ay,Y,vH,hv,Qu,V]
 .rw[e1,e2,bq (by decide)]
  dsimp only;generalize p.2=F at *;simp only[↓ev,tS,ay,Y,sr,Qu]
def XS{g1:ai Val}(nd:(L.map Row.bag).Nodup)(hl:L.length<100):∃a6 a7 a8 a9,aM (bc [(ae 6),(ae 7),(ae 8),(ae 9)]) (Bb 0) (L.map bI) [cR,g1,ar (.ao (cq G L)),aJ s.length,aJ (s.length+1),aJ (s.length+2),none,none,none,none] (tS B hd r x s X [] [])=some (.nx [cR,g1,ar (.ao (cq G L)),aJ s.length,aJ (s.length+1),aJ (s.length+2),a6,a7,a8,a9] (tS B hd r x s X (L.map (dI X G)) ((L.filter (nk X)).map (nc G)))):=by
 refine kY λY=>?_
 obtain⟨V,S',e,⟨a6,a7,a8,a9,rfl⟩,rfl⟩:=f_ (bc [(ae 6),(ae 7),(ae 8),(ae 9)]) (Bb 0) bI (tS B hd r x s X [] []) (λpre U S'=>(∃a6 a7 a8 a9,U=[cR,g1,ar (.ao (cq G L)),aJ s.length,aJ (s.length+1),aJ (s.length+2),a6,a7,a8,a9])/\S'=tS B hd r x s X (pre.map (dI X G)) ((pre.filter (nk X)).map (nc G))) L ⟨⟨none,none,none,none,rfl⟩,rfl⟩ (by
  rintro d w post J U S' ⟨⟨a6,a7,a8,a9,rfl⟩,rfl⟩;have hd:d.length<100:=by
   grind
  have hf:=uh (nk X) d;refine⟨_,_,_,rfl,.inl (e5n (gP nd (by rw[J];simp)) (by rw[ba];lia) (by rw[ba];lia)),⟨_,_,_,_,rfl⟩,?_⟩
  grind)
 refine Y ?_;exact⟨a6,a7,a8,a9,e⟩
theorem Oq:∀L:List Row,iz (L.map (nc G))=some (cq G L)
 |[]=>rfl
 |w::L=>by
  have J:=Oq L;rw[cS];show(jD (.str w.bag)).bind (λk=>(iz (L.map (nc G))).map ((k,gD (G w))::·))=_
  rw[J];rfl
def XT(nd:(L.map Row.bag).Nodup):(cq G L).foldl (λa p=>bP a p.1 p.2) []=cq G L:=by
 have key:∀(M N:List Row),((N++M).map Row.bag).Nodup->(cq G M).foldl (λa p=>bP a p.1 p.2) (cq G N)=cq G (N++M):=by
  intro M
  induction M with
  |nil=>intro N _;rw[jI];rfl
  |cons w M J=>
   intro N nd;have hw:w.bag∉N.map Row.bag:=by
    grind
   have e:bP (cq G N) (.inr w.bag) (gD (G w))=cq G (N++[w]):=by
    unfold cq;rw[By hw];unfold td;rw[eC];rfl
   show(cq G M).foldl _ (bP (cq G N) (.inr w.bag) (gD (G w)))=_;rw[e,J (N++[w]) (by rw[jz];exact nd),jz]
   rfl
 exact key L [] nd
end
def fD(h:aA)(r:Int)(x:Hl)(X:List (Str×D)):Prop:=∃C,l9 (ah h r x) (ask (ah h r x) (bQ (bG h x) (ah h r x) (ord h x.rows)) (ord h x.rows)) C/\jJ (ah h r x) (ord h x.rows) (bQ (bG h x) (ah h r x) (ord h x.rows)++(ask (ah h r x) (bQ (bG h x) (ah h r x) (ord h x.rows)) (ord h x.rows)).filterMap (dU (ah h r x) C)) X/\∀w∈ord h x.rows,∀o,¬j0 (ah h r x) (ord h x.rows) X w o
def cO(h:aA)(x:Hl)(X:List (Str×D)):List Row:=(ord h x.rows).filter (nk X)
def cJ(h:aA)(r:Int)(x:Hl)(X:List (Str×D)):Hl:=gR h (ah h r x) (jm (cO h x X)) (cO h x X) x
section
variable{s B:List Cell}{h:aA}{r:Int}{x:Hl}{n:Nat}
def zz{rr:List Cell}:tw ⟨s++[.o (.ao (cN W))],rr⟩ s.length W'=⟨s++[.o (.ao (cN W'))],rr⟩:=by
 simp_all
def Pp(g:aH h)(o:Ok h n x)(t:n<1000):∃X,fD h r x X/\Bv 0 [eB] (hS B (aF h) r x s)=some (.ok (.o (.lst ((ord h x.rows).map (dI X (ah h r x))))) (hS B (aF h) r (cJ h r x X) s)):=by
 have rl:=o.rl;have pl:=o.perm.length_eq;have nd:((ord h x.rows).map Row.bag).Nodup:=(o.perm.map _).nodup_iff.mpr o.nb;have un:((ord h x.rows).map λw=>(w.b,w.i)).Nodup:=(o.perm.map _).nodup_iff.mpr o.un
 have e1:=λq s=>zJ (B:=B) (s:=s) (r:=r) (q:=q) g o
 have e2:=λs=>Vd (B:=B) (s:=s) (r:=r) g o
 have I:=λq s=>HH (B:=B) (s:=s) (r:=r) (q:=q) (x:=x) g
 have ln:s.length<(s++[Cell.o (.ao (cN []))]).length:=by rw[cZ];exact uf _
 have Y:=XE (S:=⟨s++[.o (.ao (cN []))],hR (aF h) r x B⟩) (n:=s.length) (st:=bG h x) (G:=ah h r x) (L:=ord h x.rows) ln nd (by lia)
 rw[zz,zz] at Y;have lw:(bQ (bG h x) (ah h r x) (ord h x.rows)).length<=(ord h x.rows).length:=As _ _;refine kY λl=>?_
 obtain⟨C,D,U⟩:=XI (S:=⟨s++[.o (.ao (cN []))],hR (aF h) r x B⟩) (n:=s.length) (W:=bQ (bG h x) (ah h r x) (ord h x.rows)) (G:=ah h r x) (L:=ord h x.rows) ln nd (by lia) (by lia)
 rw[zz,zz] at U;have ly:((ask (ah h r x) (bQ (bG h x) (ah h r x) (ord h x.rows)) (ord h x.rows)).filterMap (dU (ah h r x) C)).length<=(ord h x.rows).length:=jy (As _ _) (uh _ _);obtain⟨X,T,R,F⟩:=Vl (S:=⟨s++[.o (.ao (cN []))],hR (aF h) r x B⟩) (n:=s.length) (W:=bQ (bG h x) (ah h r x) (ord h x.rows)++(ask (ah h r x) (bQ (bG h x) (ah h r x) (ord h x.rows)) (ord h x.rows)).filterMap (dU (ah h r x) C)) (G:=ah h r x) (L:=ord h x.rows) ln nd un (by lia) (by rw[cZ];lia)
 rw[zz,zz] at F;obtain⟨a6,a7,a8,a9,O⟩:=XS (B:=B) (s:=s) (hd:=aF h) (r:=r) (x:=x) (X:=X) (G:=ah h r x) (L:=ord h x.rows) (g1:=(ar (.lst ((ord h x.rows).map bI)))) nd (by lia)
 have J:=e5m (r:=r) (G:=ah h r x) (M:=cO h x X) (m:=s.length+2) (B:=B) (s:=s++[.o (.ao (cN X)),.o (.lst ((ord h x.rows).map (dI X (ah h r x)))),.o (.lst ((cO h x X).map (nc (ah h r x))))]) g o (λw m=>o.mem.mp (rb.mp m).1) (nd.sublist (List.Sublist.map _ yC)) (by rw[<-pl];exact uh _ _) t zB
 rw[QL] at J;refine l ?_;refine⟨X,⟨C,D,T,R⟩,?_⟩;have pw:=Oq (G:=ah h r x) (ord h x.rows);have d:=XT (G:=ah h r x) nd;have ll:((cq (ah h r x) (ord h x.rows)).length<1000)=True:=br (by unfold cq;rw[kX];lia)
 have p:(ord h x.rows).map (oU h r x)=(ord h x.rows).map (nc (ah h r x)):=rfl;have w0:cN []=[]:=rfl;rw[w0] at Y;unfold cJ;rw[p] at e2;clear T R D;generalize bQ (bG h x) (ah h r x) (ord h x.rows)=V at *;generalize V++(ask (ah h r x) V (ord h x.rows)).filterMap (dU (ah h r x) C)=W2 at *;generalize gR h (ah h r x) (jm (cO h x X)) (cO h x X) x=x2 at *;unfold cO at J;generalize(ord h x.rows).map (nc (ah h r x))=l1 at *;generalize((ord h x.rows).filter (nk X)).map (nc (ah h r x))=l2 at *;generalize(ord h x.rows).map (dI X (ah h r x))=l3 at *;generalize(ord h x.rows).map bI=l4 at *;generalize cq (ah h r x) (ord h x.rows)=gs at *;generalize aF h=hd at *;unfold Bv;simp only[↓ev,hR,ay,e1,e2,pw,ll,d,I,Y,U,F,eD,O,J]
end
variable{G:Row->Goal}{j:Int}
theorem E5{α:Type}[DecidableEq α]:∀{l1 l2:List α},l1.Nodup->(∀a∈l1,a∈l2)->l1.length<=l2.length
 |[],_,_,_=>lq _
 |a::l1,l2,nd,h=>by
  rw[nW] at nd;have J:=h a (.head _);have Y:=E5 (l1:=l1) (l2:=l2.erase a) nd.2 λb m=>by
   grind
  grind
section
variable{h:aA}{r:Int}{x:Hl}{n:Nat}{X:List (Str×D)}{w z:Row}
def Io(g:aH h)(o:Ok h n x)(hw:w∈x.rows):((ah h r x w).2=none->(ah h r x w).1∈h.carts)/\∀j,(ah h r x w).2=some j->∃bt∈h.af,bt.name=(ah h r x w).1/\0<=j/\j<bt.long:=by
 refine kY λF=>?_
 obtain⟨bt,hb,Y,T,R,_⟩:=(o.rw w hw).1;have lo:=(g.lg bt hb).1;have U:ah h r x w=iT h r x w bt:=by unfold ah;rw[<-Y,za g hb]
 refine F ?_;rw[U];unfold iT;split
 .exact⟨λz=>(by cases z),λj e=>⟨bt,hb,rfl,by cases e;lia,by cases e;assumption⟩⟩
 .split
  .exact⟨λz=>(by cases z),λj e=>⟨bt,hb,rfl,by cases e;lia,by cases e;lia⟩⟩
  .obtain⟨a,V,B⟩:=Fl g o hw hb Y;rw[V,GF];unfold mG;split
   .simp_all
   .rename_i hc
    split
    .exact⟨λz=>(by cases z),λj e=>⟨bt,hb,rfl,by cases e;lia,by cases e;lia⟩⟩
    .have hm:a∈h.af.map av.name:=(EJ g.fwd bt hb a B).resolve_right λz=>hc (kE.mpr z)
     obtain⟨J,qy,e2⟩:=fU.mp hm;have l2:=(g.lg J qy).1;exact⟨λz=>(by cases z),λj e=>⟨J,qy,e2,by cases e;lia,by cases e;lia⟩⟩
def jJ.sub(a:jJ G L W X):∀b∈W.map (·.1),b∈X.map (·.1):=by
 induction a with
 |base=>exact λ_ m=>m
 |step _ _ _ J=>exact λb m=>by rw[eC];exact iC.mpr (.inl (J b m))
theorem we(o:Ok h n x):w∈cO h x X↔w∈x.rows/\w.bag∉X.map (·.1):=by
 unfold cO;rw[rb,o.mem,lM]
def Vm(o:Ok h n x)(t:fD h r x X):∃C:List (bA×Str),∀w∈cO h x X,(ah h r x w).2.isSome=true->look C (gk (ah h r x) w)=some w.bag:=by
 obtain⟨C,F,gr,fn⟩:=t;refine⟨C,λw hw B=>?_⟩
 obtain⟨U,J⟩:=(we o).mp hw;have Y:w.bag∉(bQ (bG h x) (ah h r x) (ord h x.rows)).map (·.1):=λm=>J (gr.sub _ (by rw[eC];exact iC.mpr (.inl m)))
 have V:w∈ask (ah h r x) (bQ (bG h x) (ah h r x) (ord h x.rows)) (ord h x.rows):=lz.mpr ⟨o.mem.mpr U,Y,B⟩;obtain⟨c,hc⟩:=LQ.mp (F.2.1 w V);rw[hc];by_cases e:c=w.bag
 .rw[e]
 .refine cQ (gr.sub w.bag ?_) J
  grind [dU]
def PZ(e:(G w).2=some j):gk G w=((G w).1,j):=by unfold gk;rw[e];rfl
theorem Sd(o:Ok h n x)(t:fD h r x X)(hw:w∈cO h x X)(hz:z∈cO h x X){k:Int}(J:(ah h r x w).2=some j)(Y:(ah h r x z).2=some k)(e:((ah h r x w).1,j)=((ah h r x z).1,k)):w=z:=by
 obtain⟨C,U⟩:=Vm o t;have V:=U w hw (by rw[J];rfl)
 have B:=U z hz (by rw[Y];rfl)
 rw[PZ J,e,<-PZ Y,B] at V;exact mY o.nb ((we o).mp hw).1 ((we o).mp hz).1 (Option.some.inj V).symm
def XU(un:(x.rows.map λw=>(w.b,w.i)).Nodup)(o:Ok h n x)(hz:z∈x.rows)(J:(G w).2=some j)(e:((G w).1,j)=(z.b,z.i)):hold G (ord h x.rows) w=some z.bag:=by
 unfold hold;rw[J];dsimp only;rw[e];refine Vh ?_ (fU.mpr ⟨z,o.mem.mpr hz,rfl⟩);unfold ia;rw[dy];exact(o.perm.map _).nodup_iff.mpr un
theorem Vn(o:Ok h n x)(t:fD h r x X)(hw:w∈cO h x X)(hz:z∈x.rows)(J:(ah h r x w).2=some j)(e:((ah h r x w).1,j)=(z.b,z.i)):z∈cO h x X:=by
 obtain⟨C,U,gr,fn⟩:=t;obtain⟨V,Y⟩:=(we o).mp hw;refine(we o).mpr ⟨hz,λm=>fn w (o.mem.mpr V) z.bag ⟨Y,XU o.un o hz J e,m⟩⟩
theorem Ip(o:Ok h n x)(hz:z∈x.rows):jm (cO h x X) z=true↔z∈cO h x X:=by
 unfold jm;rw[kE,fU];constructor
 .rintro⟨u,J,e⟩;rw[<-mY o.nb ((we o).mp J).1 hz e];exact J
 .exact λm=>⟨z,m,rfl⟩
end
section
variable{h:aA}{r:Int}{x:Hl}{n:Nat}{X:List (Str×D)}{w z Q:Row}
def Nu(o:Ok h n x)(hz:Q∈(cJ h r x X).rows):∃z∈x.rows,Q.bag=z.bag/\Q.fl=z.fl/\((z∉cO h x X/\Q=z)\/(z∈cO h x X/\oE h (ah h r x) z=some Q)):=by
 obtain⟨z,J,e⟩:=ue.mp hz;refine⟨z,J,?_⟩;split at e
 .rename_i hm
  obtain⟨e1,e2⟩:=E4 e;exact⟨e1,e2,.inr ⟨(Ip o J).mp hm,e⟩⟩
 .rename_i hm
  cases e;exact⟨rfl,rfl,.inl ⟨λm=>hm ((Ip o J).mpr m),rfl⟩⟩
def e5p(e:oE h G z=some Q)(h0:0<=z.gn):0<=Q.gn:=by
 grind [oE]
theorem IK(e:oE h G z=some Q):∃j,(G z).2=some j/\Q.b=(G z).1/\Q.i=j:=by
 grind [oE]
def Ot{nw:Int}{p:Str×Str×Int}(o:Ok h n x)(hp:p∈(cO h x X).filterMap (eR (ah h r x) nw)):∃u∈x.rows,u∈cO h x X/\(ah h r x u).2=none/\p=(u.bag,(ah h r x u).1,nw):=by
 grind [we,eR]
theorem Ou{nw:Int}:∀M:List Row,((M.filterMap (eR G nw)).map (·.1)).Sublist (M.map Row.bag)
 |[]=>.slnil
 |u::M=>by
  have J:=Ou (nw:=nw) M;rw[cS];cases e:(G u).2 with
  |none=>
   rw[List.filterMap_cons_some (b:=(u.bag,(G u).1,nw)) (by unfold eR;rw[e])]
   exact J.cons₂ _
  |some j=>
   rw[List.filterMap_cons_none (by unfold eR;rw[e])]
   exact J.cons _
def Ok.turn(g:aH h)(o:Ok h n x)(t:fD h r x X):Ok h n (cJ h r x X):=by
 have nM:((cO h x X).map Row.bag).Nodup:=(((o.perm.map _).nodup_iff.mpr o.nb:((ord h x.rows).map Row.bag).Nodup)).sublist (List.Sublist.map _ yC);have V:((cJ h r x X).rows.map Row.bag).Sublist (x.rows.map Row.bag):=EL _ _;have T:∀b∈((cO h x X).filterMap (eR (ah h r x) (x.now+1))).map (·.1),∃u∈x.rows,u∈cO h x X/\(ah h r x u).2=none/\b=u.bag:=λb m=>by
  obtain⟨p,hp,rfl⟩:=fU.mp m;obtain⟨u,h1,h2,h3,rfl⟩:=Ot o hp;exact⟨u,h1,h2,h3,rfl⟩
 have R:∀b∈(cJ h r x X).rows.map Row.bag,b∉((cO h x X).filterMap (eR (ah h r x) (x.now+1))).map (·.1):=λb mb mo=>by
  obtain⟨Q,U,rfl⟩:=fU.mp mb;obtain⟨u,J,hum,hn,e⟩:=T _ mo;obtain⟨z,hz,B,_,st⟩:=Nu o U;have ezu:z=u:=mY o.nb hz J (by rw[<-B,e])
  grind [IK]
 have F:(((cO h x X).filterMap (eR (ah h r x) (x.now+1))).map (·.1)).Nodup:=by
  exact nM.sublist (Ou _)
 have nd:((cJ h r x X).rows.map Row.bag++(cJ h r x X).gone.map (·.1)).Nodup:=by
  have o1:=l6.mp o.nd;have l:(cJ h r x X).gone.map (·.1)=x.gone.map (·.1)++((cO h x X).filterMap (eR (ah h r x) (x.now+1))).map (·.1):=by
   show(x.gone++_).map _=_
   simp_all
  rw[l,l6];refine⟨o1.1.sublist V,l6.mpr ⟨o1.2.1,F,λa Y b mb e=>?_⟩,λa Y b mb e=>?_⟩
  .obtain⟨u,J,_,_,eu⟩:=T b mb;exact o1.2.2 u.bag (l7 J) a Y (by rw[e,eu])
  .rcases iC.mp mb with mb|mb
   .exact o1.2.2 a (V.subset Y) b mb e
   .exact R a Y (by rw[e];exact mb)
 refine⟨λQ U=>?_,nd,?_,o.bk,o.bn,λp hp=>?_,?_,?_⟩
 .obtain⟨z,hz,B,d,st⟩:=Nu o U;obtain⟨k1,k2,k3⟩:=o.rw z hz;refine⟨?_,by rw[B];exact k2,by rw[d];exact k3⟩
  rcases st with⟨_,rfl⟩|⟨_,s2⟩
  .exact k1
  .obtain⟨j,ej,e1,e2⟩:=IK s2;obtain⟨bt,hb,D,I,O⟩:=(Io g o hz).2 j ej;obtain⟨_,_,_,_,_,Ju⟩:=k1;exact⟨bt,hb,by rw[e1];exact D,by rw[e2];exact I,by rw[e2];exact O,e5p s2 Ju⟩
 .show((gY h (ah h r x) (jm (cO h x X)) x.rows).map _).Nodup;unfold gY;rw[List.Nodup,Dz,List.pairwise_filterMap];have un:=o.un;have nb:=o.nb;rw[List.Nodup,Dz] at un nb;refine(un.and nb).imp_of_mem λ{a b} Y mb ne a' ea b' q e=>?_
  grind [IK,Ip,Vn,Sd]
 .rcases iC.mp (show p∈x.gone++(cO h x X).filterMap (eR (ah h r x) (x.now+1)) from hp) with m|m
  .exact o.gi p m
  .obtain⟨u,J,_,_,rfl⟩:=Ot o m;exact(o.rw u J).2.1
 .have:=V.length_le;rw[ba,ba] at this;exact jy this o.rl
 .have:=E5 nd (l2:=x.rows.map Row.bag++x.gone.map (·.1)) λa m=>by
   rcases iC.mp m with m|m
   .exact iC.mpr (.inl (V.subset m))
   .have m:a∈(x.gone++(cO h x X).filterMap (eR (ah h r x) (x.now+1))).map (·.1):=m
    rw[eC,iC] at m;rcases m with m|m
    .exact iC.mpr (.inr m)
    .obtain⟨u,J,_,_,e⟩:=T a m;exact iC.mpr (.inl (by rw[e];exact l7 J))
  rw[cZ,cZ,ba,ba,ba,ba] at this;have sz:=o.sz;show x.book.length+x.halts.length+_+_<=n;lia
end
variable{l:List Str}
abbrev kL(z:Str)(v:Bool):Prop:=Pr nz [cD z] (rd (.bl v))
def Dn(h:aA)(r:Int)(n:Nat)(x:Hl)(s B:List Cell)(J:ai (Rs Rv)):Prop:=(∃Y,J=some (.ok (rd .aI) (hS B (aF h) r Y s))/\Ok h (n+1) Y)\/∃C,J=some (.ex C none (hS B (aF h) r x s))/\wT errTab C=some true
section
variable{s B:List Cell}{h:aA}{r:Int}{x:Hl}{n:Nat}{f ct b:Str}{cl:Int}{v:Bool}
def Bp(q:Nat)(hv:kL f v):vV q [eB,cD f] (hS B hd r x s)=some (if(v&&(x.book.map (·.1)).contains f)=true then .ok (rd .aI) (hS B hd r x s) else .ex 104 none (hS B hd r x s)):=by
 have i:(aG (jZ x.book) (.inr f)).isSome=_:=zI;unfold vV;cases v with
 |false=>simp only[↓ev,hv,ay]
 |true=>
  cases hc:(x.book.map (·.1)).contains f with
  |true=>rw[hc] at i;simp only[↓ev,hv,ay,hR,i]
  |false=>rw[hc] at i;simp only[↓ev,hv,ay,hR,i]
def MR(q:Nat):AJ q [aT cl] S=some (if cl<0 then .ex 92 none S else .ok (rd .aI) S):=by
 unfold AJ;by_cases hl:cl<0
 .rw[bJ hl];have hl:=br hl;simp only[↓ev,hl,ay]
 .rw[bq hl];have hl:=eq_false hl;simp only[↓ev,hl,ay]
def Ok.up(o:Ok h n x):Ok h (n+1) x:=⟨o.rw,o.nd,o.un,o.bk,o.bn,o.gi,o.rl,Nat.le_succ_of_le o.sz⟩
def yN(h:l.contains b=true):b∈l:=kE.mp h
def Hx(h:l.contains b=false):b∉l:=λm=>by rw[kE.mpr m] at h;cases h
def Vo(g:aH h)(o:Ok h n x)(R:n<1000)(hv:kL f v):Dn h r n x s B (Ek 0 [eB,cD f,cD ct,aT cl] (hS B (aF h) r x s)):=by
 have i:(aG (jZ x.book) (.inr f)).isSome=_:=zI;have Y:cutD (dS h.carts) (some 1) none=dS (h.carts.drop 1):=by rw[show(1:Int)=((1:Nat):Int) from rfl,Nd,dS,dS,Gz]
 have e1:=λq S=>MR (cl:=cl) (S:=S) q
 have F:aF h=.tup [.lst (h.af.map au),.lst (dS h.carts)]:=rfl;unfold Dn;rw[F];unfold Ek;cases v with
 |false=>
  refine .inr ⟨44,?_,rfl⟩;simp only[↓ev,hv,ay]
 |true=>
  cases V:(x.book.map (·.1)).contains f with
  |true=>
   rw[V] at i;refine .inr ⟨44,?_,rfl⟩;simp only[↓ev,hv,ay,hR,i]
  |false=>
   rw[V] at i;cases J:(h.carts.drop 1).contains ct with
   |false=>
    refine .inr ⟨68,?_,rfl⟩;simp only[↓ev,hv,ay,hR,i,Y,d_,eM,J]
   |true=>
    by_cases hl:cl<0
    .simp only[bJ hl] at e1;refine .inr ⟨92,?_,rfl⟩;simp only[↓ev,hv,ay,hR,i,Y,d_,eM,J,e1]
    .simp only[bq hl] at e1;have hf:=Hx V;have p:bP (jZ x.book) (.inr f) (.tup [.str f,.str ct,.int cl])=jZ (x.book++[(f,ct,cl)]):=by
      unfold jZ;rw[By hf];unfold td;rw[eC];rfl
     have sz:=o.sz;have l1:((jZ x.book).length<1000000)=True:=br (by unfold jZ;rw[kX];lia)
     refine .inl ⟨{ x with book:=x.book++[(f,ct,cl)]},?_,λw m=>⟨(o.rw w m).1,(o.rw w m).2.1,λU e=>?_⟩,o.nd,o.un,λp m=>?_,?_,o.gi,o.rl,?_⟩
     .simp only[↓ev,hS,hR,hv,ay,i,Y,d_,eM,J,e1,l1,p]
     .rw[eC];exact iC.mpr (.inl ((o.rw w m).2.2 U e))
     .rcases iC.mp m with m|m
      .exact o.bk p m
      .rw[jT.mp m];exact yN J
     .rw[eC,l6];refine⟨o.bn,by simp,λa T b mb e=>hf ?_⟩
      have:b=f:=by simpa using mb
      rw[<-this,<-e];exact T
     .dsimp only;rw[cZ,sj];lia
def Vp(g:aH h)(o:Ok h n x)(R:n<1000)(hv:kL f v):Dn h r n x s B (Em 0 [eB,cD f,aT cl] (hS B (aF h) r x s)):=by
 have J:=λq=>Bp (B:=B) (s:=s) (hd:=aF h) (r:=r) (x:=x) q hv
 have e1:=λq S=>MR (cl:=cl) (S:=S) q
 unfold Dn;generalize aF h=hd at *;unfold Em;cases hc:(v&&(x.book.map (·.1)).contains f) with
 |false=>
  simp only[hc,ve,kS] at J;refine .inr ⟨104,?_,rfl⟩;simp only[↓ev,hR,ay,J]
 |true=>
  simp only[hc,n4] at J;by_cases hl:cl<0
  .simp only[bJ hl] at e1;refine .inr ⟨92,?_,rfl⟩;simp only[↓ev,hR,ay,J,e1]
  .simp only[bq hl] at e1;rw[jx] at hc;have hm:=yN hc.2;obtain⟨p,hp,ep⟩:=fU.mp hm;have T:aG (jZ x.book) (.inr f)=some (.tup [.str p.1,.str p.2.1,.int p.2.2]):=by rw[<-ep];exact gP o.bn hp
   have F:bP (jZ x.book) (.inr f) (.tup [.str f,.str p.2.1,.int cl])=jZ (x.book.map λz=>if z.1=f then(f,z.2.1,cl) else z):=by
    unfold jZ;rw[Bz o.bn hm];unfold td;rw[dy];refine lY λz Y=>?_
    dsimp only[Function.comp];by_cases e:z.1=f
    .rw[bJ e,bJ e,mY (f:=λp:Str×Str×Int=>p.1) o.bn Y hp (by rw[e,ep]),ep]
     rfl
    .rw[bq e,bq e]
   have sz:=o.sz;have l1:((jZ x.book).length<1000000)=True:=br (by unfold jZ;rw[kX];lia)
   have V:(x.book.map λz=>if z.1=f then(f,z.2.1,cl) else z).map (·.1)=x.book.map (·.1):=by
    rw[dy];refine lY λz _=>?_
    dsimp only[Function.comp];split
    .rename_i e;exact e.symm
    .rfl
   refine .inl ⟨{ x with book:=x.book.map λz=>if z.1=f then(f,z.2.1,cl) else z},?_,λw m=>⟨(o.rw w m).1,(o.rw w m).2.1,λU e=>?_⟩,o.nd,o.un,λp m=>?_,?_,o.gi,o.rl,?_⟩
   .simp only[↓ev,hS,hR,ay,J,e1,T,l1,F]
   .show U∈(x.book.map _).map _;rw[V];exact(o.rw w m).2.2 U e
   .obtain⟨z,Y,rfl⟩:=fU.mp m;split
    .exact o.bk z Y
    .exact o.bk z Y
   .show((x.book.map _).map _).Nodup;rw[V];exact o.bn
   grind
def e5q(g:aH h)(o:Ok h n x)(Y:n<1000):Dn h r n x s B (A_ 0 [eB,cD b] (hS B (aF h) r x s)):=by
 cases hb:(h.af.map av.name).contains b with
 |false=>
  have J:=λq=>y_ (B:=B) (s:=s) (r:=r) (x:=x) (q:=q) g hb
  simp only[ve,kS] at J;refine .inr ⟨116,?_,rfl⟩;generalize aF h=hd at *;unfold A_;simp only[↓ev,hR,ay,J]
 |true=>
  have J:=λq=>y_ (B:=B) (s:=s) (r:=r) (x:=x) (q:=q) g hb
  simp only[n4] at J;have sz:=o.sz;have l1:((mE x.halts).length<1000000)=True:=br (by rw[IG];lia)
  have p:=Fj b x.halts;refine .inl ⟨{ x with halts:=il x.halts b},?_,o.rw,o.nd,o.un,o.bk,o.bn,o.gi,o.rl,?_⟩
  .generalize aF h=hd at *;unfold A_;simp only[↓ev,hS,hR,ay,J,l1,p]
  grind [Ng]
def XX(b:Str)(ks:List Str):df (mE ks) b=mE (ks.filter λk=>decide (k≠b)):=zy (k:=λk=>k) (v:=λ_=>.bl true)
def XY(g:aH h)(o:Ok h n x)(hb:(h.af.map av.name).contains b=true):y7 0 [eB,cD b] (hS B (aF h) r x s)=some (.ok (rd .aI) (hS B (aF h) r { x with halts:=x.halts.filter λk=>decide (k≠b)} s)):=by
 have J:=λq=>y_ (B:=B) (s:=s) (r:=r) (x:=x) (q:=q) g hb
 simp only[n4] at J;have i:=uz b x.halts;have d:=XX b x.halts;have V:eU (mE x.halts)=true:=sM (k:=λk=>k) (v:=λ_=>.bl true)
 generalize aF h=hd at *;unfold y7;cases hc:x.halts.contains b with
 |true=>
  rw[hc] at i;obtain⟨y,Y⟩:=Option.isSome_iff_exists.mp i;simp only[↓ev,hS,hR,ay,J,Y,sr,V,d]
 |false=>
  rw[hc] at i;have hf:x.halts.filter (λk=>decide (k≠b))=x.halts:=List.filter_eq_self.mpr λk m=>nh λe=>Hx hc (by rw[<-e];exact m)
  simp only[↓ev,hS,hR,ay,J,i,hf]
def Ok.start(o:Ok h n x):Ok h n { x with halts:=x.halts.filter λk=>decide (k≠b)}:=⟨o.rw,o.nd,o.un,o.bk,o.bn,o.gi,o.rl,by
 have:=uh (λk=>decide (k≠b)) x.halts
 have sz:=o.sz
 lia⟩
def Vq(g:aH h)(o:Ok h n x):Dn h r n x s B (y7 0 [eB,cD b] (hS B (aF h) r x s)):=by
 cases hb:(h.af.map av.name).contains b with
 |false=>
  have J:=λq=>y_ (B:=B) (s:=s) (r:=r) (x:=x) (q:=q) g hb
  simp only[ve,kS] at J;refine .inr ⟨116,?_,rfl⟩;generalize aF h=hd at *;unfold y7;simp only[↓ev,hR,ay,J]
 |true=>exact .inl ⟨_,XY g o hb,o.start.up⟩
end
def XZ(U:oB b):b.length<=8:=by
 refine QT λz=>?_
 have e:=U 0 ⟨[],[]⟩;have Y:((b.length:Int)<=8)=False:=eq_false (by lia)
 have V:(1<=(b.length:Int))=True:=br (by lia)
 by_cases hl:b.length<=1000000
 .have J:=br hl;have e2:nz 0 [cD b] ⟨[],[]⟩=some (.ok (rd (.bl false)) ⟨[],[]⟩):=by
   unfold nz;simp only[↓ev,ay,J,V,Y];rfl
  lia
 .have J:=eq_false hl;have e2:nz 0 [cD b] ⟨[],[]⟩=none:=by
   unfold nz;simp only[↓ev,ay,J];rfl
  lia
noncomputable def r_(rows:List Row)(b:Str):Bool:=rows.any λw=>w.b == b&&w.i == 0
def Vr(b:Str)(rows:List Row):((ib rows).map (·.2)).any (λz=>dP z (pl b 0))=r_ rows b:=by
 unfold ib td r_;rw[dy,List.any_map]
 congr 1
 funext w;exact sY
def X0(rows:List Row):((ib rows).map (·.2)).all (fj 40)=true:=by
 unfold ib td;rw[dy,DH];exact jS.mpr λw _=>rfl
theorem zA{α:Type}{k:α->Str}{v:α->D}{xs:List α}{x:α}(h:k x∉xs.map k):bP (td k v xs) (.inr (k x)) (v x)=td k v (xs++[x]):=by
 rw[By h];unfold td;rw[eC];rfl
section
variable{s B:List Cell}{h:aA}{r:Int}{x:Hl}{n:Nat}{b bag:Str}{v Q:Bool}{fl:ai Str}
def Iq{Y:Rs Rv}{V:D}(pre:∀J:GS,sG J 0 [cR,aY bag,ar V,aY b,none] S=J [cR,aY bag,ar V,aY b,none] S)(e:(zw 0 [cR,aY bag,ar V,aY b,none] S).bind (leave S.s.length)=some Y):uw 0 [eB,cD bag,.d V,cD b] S=some Y:=by
 rw[<-pre (zw 0)] at e;exact e
def e8j(g:aH h)(o:Ok h n x)(hn:n<1000)(hv:kL bag v)(hf:∀f,fl=some f->kL f Q)(h8:x.rows.length<8):Dn h r n x s B (uw 0 [eB,cD bag,.d (aN fl),cD b] (hS B (aF h) r x s)):=by
 have Y:(aG (ib x.rows) (.inr bag)).isSome=_:=zI;have V:(aG (wG x.gone) (.inr bag)).isSome=_:=zI;cases v with
 |false=>
  refine .inr ⟨44,?_,rfl⟩;generalize aF h=hd at *;generalize aN fl=F at *;unfold uw sG;simp only[↓ev,hv,ay]
 |true=>
 cases R:(x.rows.map Row.bag).contains bag with
 |true=>
  rw[R] at Y;refine .inr ⟨44,?_,rfl⟩;generalize aF h=hd at *;generalize aN fl=F at *;unfold uw sG;simp only[↓ev,hv,ay,hR,Y]
 |false=>
 rw[R] at Y;cases p:(x.gone.map (·.1)).contains bag with
 |true=>
  rw[p] at V;refine .inr ⟨44,?_,rfl⟩;generalize aF h=hd at *;generalize aN fl=F at *;unfold uw sG;simp only[↓ev,hv,ay,hR,Y,V]
 |false=>
 rw[p] at V;have fz:(∃f,fl=some f/\(Q&&(x.book.map (·.1)).contains f)=false)\/(fl=none\/∃f,fl=some f/\(Q&&(x.book.map (·.1)).contains f)=true):=by
  cases fl with
  |none=>exact .inr (.inl rfl)
  |some f=>
   cases hc:(Q&&(x.book.map (·.1)).contains f) with
   |true=>exact .inr (.inr ⟨f,rfl,hc⟩)
   |false=>exact .inl ⟨f,rfl,hc⟩
 rcases fz with⟨f,rfl,hc⟩|fz
 .have U:=λq=>Bp (B:=B) (s:=s) (hd:=aF h) (r:=r) (x:=x) q (hf f rfl)
  simp only[hc,ve,kS] at U;refine .inr ⟨104,?_,rfl⟩;generalize aF h=hd at *;unfold uw sG aN;simp only[↓ev,hv,ay,hR,Y,V,U]
 .have JN:∀f,fl=some f->f∈x.book.map (·.1):=λf e=>by
   simp_all
  have pre:∀J:GS,sG J 0 [cR,aY bag,ar (aN fl),aY b,none] (hS B (aF h) r x s)=J [cR,aY bag,ar (aN fl),aY b,none] (hS B (aF h) r x s):=λJ=>by
   rcases fz with rfl|⟨f,rfl,hc⟩
   .generalize aF h=hd at *;unfold sG aN;simp only[↓ev,hv,ay,hR,Y,V]
   .have U:=λq=>Bp (B:=B) (s:=s) (hd:=aF h) (r:=r) (x:=x) q (hf f rfl)
    simp only[hc,n4] at U;generalize aF h=hd at *;unfold sG aN;simp only[↓ev,hv,ay,hR,Y,V,U]
  cases hb:(h.af.map av.name).contains b with
  |false=>
   have e1:=λq=>y_ (B:=B) (s:=s) (r:=r) (x:=x) (q:=q) g hb
   simp only[ve,kS] at e1;refine .inr ⟨116,Iq pre ?_,rfl⟩;generalize aF h=hd at *;generalize aN fl=F at *;unfold zw;simp only[↓ev,hR,ay,e1]
  |true=>
   have e1:=λq=>y_ (B:=B) (s:=s) (r:=r) (x:=x) (q:=q) g hb
   simp only[n4] at e1;have t:eU (ib x.rows)=true:=sM;have T:=Vr b x.rows;have vo:=X0 x.rows;obtain⟨bt,I,O⟩:=fU.mp (yN hb);have lb:=XZ (g.nm bt I);rw[O] at lb;have l1:(b.length<=1000000)=True:=br (by lia)
   have l2:((Str.empty++("cell 0 of belt ":Str)).length<=1000000)=True:=br (by decide +kernel)
   have l3:((Str.empty++("cell 0 of belt ":Str)++b).length<=1000000)=True:=br (by
    rw[Str.length_append];have:(Str.empty++("cell 0 of belt ":Str)).length<=100:=by decide +kernel
    lia)
   have l4:((Str.empty++("cell 0 of belt ":Str)++b++(" has a bag":Str)).length<=1000000)=True:=br (by
    rw[Str.length_append,Str.length_append];have:(Str.empty++("cell 0 of belt ":Str)).length<=100:=by decide +kernel
    have:(" has a bag":Str).length<=100:=by decide +kernel
    lia)
   cases ho:r_ x.rows b with
   |true=>
    rw[ho] at T;refine .inr ⟨128,Iq pre ?_,rfl⟩;generalize aF h=hd at *;generalize aN fl=F at *;unfold zw;simp only[↓ev,hR,ay,e1,t,vo,T,l2,l1,l3,l4]
   |false=>
    rw[ho] at T;have D:=Hx R;have p1:bP (ib x.rows) (.inr bag) (pl b 0)=ib (x.rows++[⟨bag,b,0,fl,0⟩]):=zA (x:=(⟨bag,b,0,fl,0⟩:Row)) D;have p2:bP (iA x.rows) (.inr bag) (aN fl)=iA (x.rows++[⟨bag,b,0,fl,0⟩]):=zA (x:=(⟨bag,b,0,fl,0⟩:Row)) D;have p3:bP (kD x.rows) (.inr bag) (.int 0)=kD (x.rows++[⟨bag,b,0,fl,0⟩]):=zA (x:=(⟨bag,b,0,fl,0⟩:Row)) D;have m1:((ib x.rows).length<1000000)=True:=br (by unfold ib;rw[kX];lia)
    have m2:((iA x.rows).length<1000000)=True:=br (by unfold iA;rw[kX];lia)
    have m3:((kD x.rows).length<1000000)=True:=br (by unfold kD;rw[kX];lia)
    have sz:=o.sz;have lo:=(g.lg bt I).1;refine .inl ⟨{ x with rows:=x.rows++[⟨bag,b,0,fl,0⟩]},Iq pre ?_,λw m=>?_,?_,?_,o.bk,o.bn,o.gi,?_,?_⟩
    .generalize aF h=hd at *;generalize aN fl=F at *;unfold zw;simp only[↓ev,hS,hR,ay,e1,t,vo,T,m1,p1,m2,p2,m3,p3]
    .rcases iC.mp m with m|m
     .exact o.rw w m
     .rw[jT.mp m];exact⟨⟨bt,I,O,LI _,by show(0:Int)<_;lia,LI _⟩,hv,JN⟩
    .dsimp only;rw[eC,jz];have o1:=l6.mp o.nd
     grind
    .dsimp only;rw[eC];refine l6.mpr ⟨o.un,by simp,λa ma c mc e=>?_⟩
     grind [r_]
    .dsimp only;rw[cZ,sj];lia
    .dsimp only;rw[cZ,sj];lia
end
variable{hd:D}
noncomputable def gm(p:Row->Bool)(y:ai Str)(z:Row):Row:=if p z=true then{ z with fl:=y} else z
section
variable{s B:List Cell}{h:aA}{r:Int}{x:Hl}{n:Nat}{f bag:Str}{v Q:Bool}{p:Row->Bool}{y:ai Str}{rows:List Row}
def Ov:(rows.map (gm p y)).map Row.bag=rows.map Row.bag:=by
 rw[dy];refine lY λz _=>?_
 dsimp only[Function.comp];unfold gm;split <;> rfl
def Pq:ib (rows.map (gm p y))=ib rows:=by
 unfold ib td;rw[dy];refine lY λz _=>?_
 dsimp only[Function.comp];unfold gm;split <;> rfl
def Pu:kD (rows.map (gm p y))=kD rows:=by
 unfold kD td;rw[dy];refine lY λz _=>?_
 dsimp only[Function.comp];unfold gm;split <;> rfl
def Ok.read(o:Ok h n x){bk:List (Str×Str×Int)}(hb:∀q∈bk,q∈x.book)(J:(bk.map (·.1)).Nodup)(hl:bk.length<=x.book.length)(hf:∀w∈x.rows,∀f,(gm p y w).fl=some f->f∈bk.map (·.1)):Ok h (n+1) { x with book:=bk,rows:=x.rows.map (gm p y)}:=by
 have sz:=o.sz;refine⟨λw m=>?_,?_,?_,λq m=>o.bk q (hb q m),J,o.gi,?_,?_⟩
 .obtain⟨z,Y,rfl⟩:=fU.mp m;obtain⟨k1,k2,k3⟩:=o.rw z Y;refine⟨?_,?_,hf z Y⟩
  .unfold gm;split
   .exact k1
   .exact k1
  .unfold gm;split
   .exact k2
   .exact k2
 .dsimp only;rw[Ov];exact o.nd
 .dsimp only;have:(x.rows.map (gm p y)).map (λw=>(w.b,w.i))=x.rows.map λw=>(w.b,w.i):=by
   rw[dy];refine lY λz _=>?_
   dsimp only[Function.comp];unfold gm;split <;> rfl
  rw[this];exact o.un
 .dsimp only;rw[ba];exact o.rl
 grind
def Vs(q:Nat)(hv:kL bag v):vW q [eB,cD bag] (hS B hd r x s)=some (if(v&&(x.rows.map Row.bag).contains bag)=true then .ok (rd .aI) (hS B hd r x s) else .ex 140 none (hS B hd r x s)):=by
 have i:(aG (ib x.rows) (.inr bag)).isSome=_:=zI;unfold vW;cases v with
 |false=>simp only[↓ev,hv,ay]
 |true=>
  cases hc:(x.rows.map Row.bag).contains bag with
  |true=>rw[hc] at i;simp only[↓ev,hv,ay,hR,i]
  |false=>rw[hc] at i;simp only[↓ev,hv,ay,hR,i]
def e5r(g:aH h)(o:Ok h n x)(O:n<1000)(hv:kL bag v)(I:kL f Q):Dn h r n x s B (EC 0 [eB,cD bag,cD f] (hS B (aF h) r x s)):=by
 have J:=λq=>Vs (B:=B) (s:=s) (hd:=aF h) (r:=r) (x:=x) q hv
 have e1:=λq=>Bp (B:=B) (s:=s) (hd:=aF h) (r:=r) (x:=x) q I
 unfold Dn;generalize aF h=hd at *;unfold EC;cases hc:(v&&(x.rows.map Row.bag).contains bag) with
 |false=>
  simp only[hc,ve,kS] at J;refine .inr ⟨140,?_,rfl⟩;simp only[↓ev,hR,ay,J]
 |true=>
  simp only[hc,n4] at J;cases Y:(Q&&(x.book.map (·.1)).contains f) with
  |false=>
   simp only[Y,ve,kS] at e1;refine .inr ⟨104,?_,rfl⟩;simp only[↓ev,hR,ay,J,e1]
  |true=>
   simp only[Y,n4] at e1;rw[jx] at hc Y;have hm:=yN hc.2;have T:bP (iA x.rows) (.inr bag) (.str f)=iA (x.rows.map (gm (λz=>z.bag == bag) (some f))):=by
    unfold iA;rw[Bz o.nb hm];unfold td;rw[dy];refine lY λz _=>?_
    dsimp only[Function.comp];unfold gm;by_cases e:z.bag=bag
    .rw[bJ e,bJ (beq_iff_eq.mpr e)];rfl
    .rw[bq e,bq (by rw[beq_iff_eq];exact e)]
   have R:=Pq (p:=λz=>z.bag == bag) (y:=some f) (rows:=x.rows)
   have D:=Pu (p:=λz=>z.bag == bag) (y:=some f) (rows:=x.rows)
   have rl:=o.rl;have U:((iA x.rows).length<1000000)=True:=br (by unfold iA;rw[kX];lia)
   refine .inl ⟨_,?_,o.read (p:=λz=>z.bag == bag) (y:=some f) (λ_ m=>m) o.bn (bU _) λw F V e=>?_⟩
   .simp only[↓ev,hS,hR,ay,J,e1,U,T,R,D]
   .unfold gm at e;split at e
    .cases e;exact yN Y.2
    .exact(o.rw w F).2.2 V e
def e5s{rs:List Row}(nb:(rs.map Row.bag).Nodup)(hw:w∈rs)(hl:rs.length<1000){a2:ai Val}:AL 0 [cR,aY f,aY w.bag] (hS B hd r { x with rows:=rs} s)=some (.nx [cR,aY f,aY w.bag] (hS B hd r { x with rows:=rs.map (gm (λz=>z.bag == w.bag&&z.fl == some f) none)} s)):=by
 have J:aG (iA rs) (.inr w.bag)=some (aN w.fl):=gP nb hw;have I:=Pq (p:=λz=>z.bag == w.bag&&z.fl == some f) (y:=none) (rows:=rs)
 have O:=Pu (p:=λz=>z.bag == w.bag&&z.fl == some f) (y:=none) (rows:=rs)
 have R:((iA rs).length<1000000)=True:=br (by unfold iA;rw[kX];lia)
 have same:w.fl≠some f->rs.map (gm (λz=>z.bag == w.bag&&z.fl == some f) none)=rs:=λne=>by
  conv=>rhs;rw[<-List.map_id rs]
  refine lY λz V=>?_
  unfold gm;rw[bq λe=>?_]
  .rfl
  .rw[jx,beq_iff_eq,beq_iff_eq] at e;rw[mY nb V hw e.1] at e;exact ne e.2
 unfold AL;cases hf:w.fl with
 |none=>
  rw[hf] at J;rw[same (by rw[hf];intro z;cases z)]
  unfold aN at J;have U:dP .aI (.str f)=false:=rfl;simp only[↓ev,hR,ay,J,U]
 |some T=>
  rw[hf] at J;unfold aN at J;cases Y:(T == f) with
  |false=>
   rw[same (by rw[hf];intro z;cases z;rw[rq] at Y;cases Y)]
   simp only[↓ev,hR,ay,J,Y]
  |true=>
   have D:bP (iA rs) (.inr w.bag) .aI=iA (rs.map (gm (λz=>z.bag == w.bag&&z.fl == some f) none)):=by
    unfold iA;rw[Bz nb (l7 hw)];unfold td;rw[dy];refine lY λz V=>?_
    dsimp only[Function.comp];unfold gm;by_cases e:z.bag=w.bag
    .have F:=mY nb V hw e;rw[bJ e,bJ (by rw[F];dsimp only;rw[hf,rq,beq_iff_eq.mp Y];simp)]
     rfl
    .rw[bq e,bq (by rw[jx,beq_iff_eq];exact λz=>e z.1)]
   simp only[↓ev,hS,hR,ay,J,Y,R,D,I,O]
def Vt:(gm p y z).bag=z.bag:=by unfold gm;split <;> rfl
def Vu(d:List Row)(w z:Row):gm (λz=>z.bag == w.bag&&z.fl == some f) none (gm (λz=>(d.map Row.bag).contains z.bag&&z.fl == some f) none z)=gm (λz=>((d++[w]).map Row.bag).contains z.bag&&z.fl == some f) none z:=by
 unfold gm;dsimp only;rw[eC];by_cases Y:z.fl=some f
 .by_cases J:z.bag∈d.map Row.bag
  .simp[J,Y]
  .by_cases V:z.bag=w.bag
   .rw[V] at J;simp[J,Y,V]
   .simp[J,Y,V]
 .simp[Y]
def X1(nb:(x.rows.map Row.bag).Nodup)(hl:x.rows.length<1000):∃a2,aM (ae 2) (AL 0) (dS (x.rows.map Row.bag)) [cR,aY f,none] (hS B hd r x s)=some (.nx [cR,aY f,a2] (hS B hd r { x with rows:=x.rows.map (gm (λz=>z.fl == some f) none)} s)):=by
 rw[show dS (x.rows.map Row.bag)=x.rows.map λw=>.str w.bag by unfold dS;rw[dy];rfl]
 refine kY λY=>?_
 obtain⟨F,S',e,⟨a2,rfl⟩,rfl⟩:=f_ (ae 2) (AL 0) (λw:Row=>.str w.bag) (hS B hd r x s) (λpre U S'=>(∃a2,U=[cR,aY f,a2])/\S'=hS B hd r { x with rows:=x.rows.map (gm (λz=>(pre.map Row.bag).contains z.bag&&z.fl == some f) none)} s) x.rows ⟨⟨none,rfl⟩,by
   have:x.rows.map (gm (λz=>(([]:List Row).map Row.bag).contains z.bag&&z.fl == some f) none)=x.rows:=by
    conv=>rhs;rw[<-List.map_id x.rows]
    rfl
   rw[this]⟩ (by
  rintro d w post J U S' ⟨⟨a2,rfl⟩,rfl⟩;have hw:w∈x.rows:=by rw[J];simp
  have e:=e5s (hd:=hd) (r:=r) (B:=B) (s:=s) (x:=x) (f:=f) (a2:=none) (rs:=x.rows.map (gm (λz=>(d.map Row.bag).contains z.bag&&z.fl == some f) none)) (w:=gm (λz=>(d.map Row.bag).contains z.bag&&z.fl == some f) none w) (by rw[Ov];exact nb) (l7 hw) (by rw[ba];exact hl)
  rw[Vt] at e;refine⟨_,_,_,rfl,.inl e,⟨_,rfl⟩,?_⟩;rw[dy]
  congr 3
  funext z;exact Vu d w z)
 have:x.rows.map (gm (λz=>(x.rows.map Row.bag).contains z.bag&&z.fl == some f) none)=x.rows.map (gm (λz=>z.fl == some f) none):=lY λz V=>by
  have hc:(x.rows.map Row.bag).contains z.bag=true:=kE.mpr (l7 V);unfold gm;simp only[hc,GK]
 rw[this] at e;refine Y ?_;exact⟨a2,e⟩
def e8k(g:aH h)(o:Ok h n x)(hv:kL f v):Dn h r n x s B (D7 0 [eB,cD f] (hS B (aF h) r x s)):=by
 have J:=λq=>Bp (B:=B) (s:=s) (hd:=aF h) (r:=r) (x:=x) q hv
 unfold Dn;generalize aF h=hd at *;unfold D7;cases hc:(v&&(x.book.map (·.1)).contains f) with
 |false=>
  simp only[hc,ve,kS] at J;refine .inr ⟨104,?_,rfl⟩;simp only[↓ev,hR,ay,J]
 |true=>
  simp only[hc,n4] at J;rw[jx] at hc;obtain⟨p,hp,ep⟩:=fU.mp (yN hc.2);have T:aG (jZ x.book) (.inr f)=some (t3 p):=by rw[<-ep];exact gP o.bn hp
  have Y:df (jZ x.book) f=jZ (x.book.filter λz=>decide (z.1≠f)):=zy
  have F:eU (jZ x.book)=true:=sM;have k1:(iA x.rows).map (·.1.d)=dS (x.rows.map Row.bag):=E1
  have rl:=o.rl;have l1:((iA x.rows).length<1000000)=True:=br (by unfold iA;rw[kX];lia)
  have l2:((iA x.rows).length<=1000000)=True:=br (by unfold iA;rw[kX];lia)
  obtain⟨a2,e1⟩:=X1 (hd:=hd) (r:=r) (B:=B) (s:=s) (f:=f) (x:={ x with book:=x.book.filter λz=>decide (z.1≠f)}) o.nb (by dsimp only;lia)
  generalize t3 p=tp at *;refine .inl ⟨_,?_,o.read (p:=λz=>z.fl == some f) (y:=none) (bk:=x.book.filter λz=>decide (z.1≠f)) (λq m=>(rb.mp m).1) (o.bn.sublist (List.Sublist.map _ yC)) (uh _ _) λw U V e=>?_⟩
  .dsimp only at e1;simp only[↓ev,hS,hR,ay,J,F,T,Y,k1,eD,e1]
  .unfold gm at e;split at e
   .cases e
   .rename_i ne
    obtain⟨q,D,R⟩:=fU.mp ((o.rw w U).2.2 V e)
    grind
end
inductive iK:D->Prop
 |nE {f9 ct9:Str} {cl9:Int} {v9:Bool} (e1:kL f9 v9):iK (.tup [.str "flight",.str f9,.str ct9,.int cl9])
 |change {f9:Str} {cl9:Int} {v9:Bool} (e1:kL f9 v9):iK (.tup [.str "change",.str f9,.int cl9])
 |off {f9:Str} {v9:Bool} (e1:kL f9 v9):iK (.tup [.str "off",.str f9])
 |put {qf b9:Str} {fl9:ai Str} {v9 w9:Bool} (e1:kL qf v9) (e2:∀f9,fl9=some f9->kL f9 w9):iK (.tup [.str "put",.str qf,aN fl9,.str b9])
 |read {qf f9:Str} {v9 w9:Bool} (e1:kL qf v9) (e2:kL f9 w9):iK (.tup [.str "read",.str qf,.str f9])
 |stop {b9:Str}:iK (.tup [.str "stop",.str b9])
 |start {b9:Str}:iK (.tup [.str "start",.str b9])
section
variable{s B:List Cell}{h:aA}{r:Int}{x:Hl}{n:Nat}{d:D}
def e5t(g:aH h)(o:Ok h n x)(J:n<1000)(D:iK d):Dn h r n x s B (zh 0 [eB,.d d] (hS B (aF h) r x s)):=by
 cases D
 case put=>
  have V:=λq=>zJ (B:=B) (s:=s) (r:=r) (q:=q) g o
  have ll:(((ord h x.rows).map bI).length:Int)=(x.rows.length:Int):=by rw[ba,o.perm.length_eq]
  by_cases R:x.rows.length<8
  .have e:=e8j (B:=B) (s:=s) (r:=r) (b:=b9) (fl:=fl9) g o J e1 e2 R;have Y:((x.rows.length:Int)<8)=True:=br (by lia)
   unfold Dn at *;generalize(ord h x.rows).map bI=rl at *;generalize aF h=hd at *;generalize aN fl9=T at *;unfold zh;rcases e with⟨F,e,ok⟩|⟨C,e,U⟩
   .refine .inl ⟨F,?_,ok⟩;simp only[↓ev,ay,hR,V,ll,Y,e]
   .refine .inr ⟨C,?_,U⟩;simp only[↓ev,ay,hR,V,ll,Y,e]
  .have Y:((x.rows.length:Int)<8)=False:=eq_false (by lia)
   refine .inl ⟨x,?_,o.up⟩;generalize(ord h x.rows).map bI=rl at *;generalize aF h=hd at *;generalize aN fl9=T at *;unfold zh;simp only[↓ev,ay,hR,V,ll,Y]
 case' nE=>have e:=Vo (B:=B) (s:=s) (r:=r) (ct:=ct9) (cl:=cl9) g o J e1
 case' change=>have e:=Vp (B:=B) (s:=s) (r:=r) (cl:=cl9) g o J e1
 case' off=>have e:=e8k (B:=B) (s:=s) (r:=r) g o e1
 case' read=>have e:=e5r (B:=B) (s:=s) (r:=r) g o J e1 e2
 case' stop=>have e:=e5q (B:=B) (s:=s) (r:=r) (b:=b9) g o J
 case' start=>have e:=Vq (B:=B) (s:=s) (r:=r) (b:=b9) g o
 all_goals
  unfold Dn at *;generalize aF h=hd at *;unfold zh;rcases e with⟨F,e,ok⟩|⟨C,e,U⟩
  .refine .inl ⟨F,?_,ok⟩;simp only[↓ev,ay,hR,e]
  .refine .inr ⟨C,?_,U⟩;simp only[↓ev,ay,hR,e]
def e5u(g:aH h)(o:Ok h n x)(U:n<1000)(F:iK d):∃v J,Ok h (n+1) J/\A' 0 [eB,.d d] (hS B (aF h) r x s)=some (.ok (rd (.bl v)) (hS B (aF h) r J s)):=by
 have e:=e5t (B:=B) (s:=s) (r:=r) g o U F;unfold Dn at e;rcases e with⟨J,e,ok⟩|⟨C,e,Y⟩
 .refine⟨true,J,ok,?_⟩;generalize aF h=hd at *;unfold A';simp only[↓ev,ay,e]
 .have V:(errTab.any λp=>p.2 == C)=true:=by
   unfold wT at Y;split at Y
   .assumption
   .cases Y
  refine⟨false,x,o.up,?_⟩;generalize aF h=hd at *;unfold A';simp only[↓ev,ay,e,V]
end
def E6(l:List Nat)(Y:1<=l.length)(V:l.length<=8):∃v,kL ⟨l.toArray⟩ v:=by
 have e:∀q S,bF (ae 0) (iw true) (D_ q) (l.map λc=>.str (jB c)) [none] S []=some (.ok ((l.map λc => !(Builtin.Str.occurrences (Str.ofString "abcdefghijklmnopqrstuvwxyz") (jB c) 0 (Str.ofString "abcdefghijklmnopqrstuvwxyz").length 1).isEmpty).map D.bl) S):=λq S=>by
  rw[qk (λc=>D.bl (!(Builtin.Str.occurrences (Str.ofString "abcdefghijklmnopqrstuvwxyz") (jB c) 0 (Str.ofString "abcdefghijklmnopqrstuvwxyz").length 1).isEmpty)) l (by lia) λc m=>⟨rd (.bl _),by
   rfl,rfl⟩,dy]
  rfl
 have c1:(1<=((⟨l.toArray⟩:Str).length:Int))=True:=br (by rw[sH];lia)
 have c2:(((⟨l.toArray⟩:Str).length:Int)<=8)=True:=br (by rw[sH];lia)
 have J:((⟨l.toArray⟩:Str).length<=1000000)=True:=br (by rw[sH];lia)
 refine⟨(l.map λc => !(Builtin.Str.occurrences (Str.ofString "abcdefghijklmnopqrstuvwxyz") (jB c) 0 (Str.ofString "abcdefghijklmnopqrstuvwxyz").length 1).isEmpty).all id,λq S=>?_⟩
 generalize(l.map λc => !(Builtin.Str.occurrences (Str.ofString "abcdefghijklmnopqrstuvwxyz") (jB c) 0 (Str.ofString "abcdefghijklmnopqrstuvwxyz").length 1).isEmpty)=bs at *
 unfold nz;simp only[↓ev,ay,J,c1,c2,e,HG]
noncomputable abbrev l3:List D:=[.int 11,.int 12,.int 13]
theorem P1:∀a:Nat,a<3->du l3 (a:Int)=some (.int ((11+a:Nat):Int))
 |0,_=>rfl
 |1,_=>rfl
 |2,_=>rfl
section
variable{ns:List Int}
def X3(n:Nat)(B:n<20):∃f v,Pr yM [.d (bC ns),aT (n:Int)] (rd (.str f))/\kL f v:=by
 obtain⟨J,d2,T⟩:=ik ns 12 4 3 (by decide) (by decide) (by decide)
 have J:Pr iF [.d (bC ns),aT 12,aT 4,aT 3] _:=J;cases Y:((n:Int) == 6) with
 |true=>
  obtain⟨v,hv⟩:=E6 [65] (by decide) (by decide)
  refine⟨"A",v,λq S=>?_,by rw[show("A":Str)=⟨[65].toArray⟩ by decide +kernel];exact hv⟩
  generalize(n:Int)=F at *;unfold yM;simp only[↓ev,ay,Y]
 |false=>
  have V:=P1 (cy ns 12 4 3).toNat (by lia)
  rw[Int.toNat_of_nonneg d2] at V;have U:=Fi ns (11+(cy ns 12 4 3).toNat) (by lia) n B
  have hl:=zH ns (11+(cy ns 12 4 3).toNat) (by lia) n
  obtain⟨v,hv⟩:=E6 _ hl.1 hl.2;refine⟨_,v,λq S=>?_,hv⟩
  generalize((11+(cy ns 12 4 3).toNat:Nat):Int)=D at *;generalize cy ns 12 4 3=R at *;generalize(n:Int)=F at *;unfold yM;unfold jv at U;simp only[↓ev,ay,Y,J,V,U]
def X4(n:Nat)(B:n<20):∃f v,Pr yR [.d (bC ns),aT (n:Int)] (rd (.str f))/\kL f v:=by
 obtain⟨J,d2,T⟩:=ik ns 13 4 3 (by decide) (by decide) (by decide)
 have J:Pr iF [.d (bC ns),aT 13,aT 4,aT 3] _:=J;cases Y:((n:Int) == 12) with
 |true=>
  obtain⟨v,hv⟩:=E6 [98,49] (by decide) (by decide)
  refine⟨"b1",v,λq S=>?_,by rw[show("b1":Str)=⟨[98,49].toArray⟩ by decide +kernel];exact hv⟩
  generalize(n:Int)=F at *;unfold yR;simp only[↓ev,ay,Y]
 |false=>
  have V:=P1 (cy ns 13 4 3).toNat (by lia)
  rw[Int.toNat_of_nonneg d2] at V;have U:=Fi ns (11+(cy ns 13 4 3).toNat) (by lia) n B
  have hl:=zH ns (11+(cy ns 13 4 3).toNat) (by lia) n
  obtain⟨v,hv⟩:=E6 _ hl.1 hl.2;refine⟨_,v,λq S=>?_,hv⟩
  generalize((11+(cy ns 13 4 3).toNat:Nat):Int)=D at *;generalize cy ns 13 4 3=R at *;generalize(n:Int)=F at *;unfold yR;unfold jv at U;simp only[↓ev,ay,Y,J,V,U]
def Se(k:Nat)(T:k<900):∃cl,Pr uq [.d (bC ns),aT (k:Int)] (rd (.int cl)):=by
 have hp:=wo ns (k+1) 10 (by lia) (by decide)
 obtain⟨c,hc⟩:=IF ns k;obtain⟨J,_,_⟩:=ik ns (k+1) 3 30 (by lia) (by decide) (by decide)
 rw[show((k+1:Nat):Int)=(k:Int)+1 by lia] at hp J
 have J:Pr iF [.d (bC ns),aT ((k:Int)+1),aT 3,aT 30] _:=J;generalize(k:Int)=R at *;generalize cy ns (k+1) 0 10=U at *;have B:(0<(10:Int)^8)=True:=br (by decide)
 have F:(0<(10:Int)^9)=True:=br (by decide)
 have Y:(Int.natAbs 10<2^64)=True:=br (by decide)
 cases h0:(U == 0) with
 |true=>
  refine⟨-1 - c%10^8,λq S=>?_⟩
  unfold uq;simp only[↓ev,hp,ay,h0,hc,Y,B]
 |false=>
  cases V:(U == 1) with
  |true=>
   refine⟨c%10^9,λq S=>?_⟩
   unfold uq;simp only[↓ev,hp,ay,h0,V,hc,Y,F]
  |false=>
   refine⟨cy ns (k+1) 3 30,λq S=>?_⟩
   unfold uq;simp only[↓ev,hp,ay,h0,V,J]
end
section
variable{ns:List Int}{k kd mk fi ob tb oc ln zY cl:Int}{bl nl cs c1 n1:List D}{f bag b ct:Str}{S:aU}
structure GP (ns:List Int) (k kd mk fi ob tb oc ln zY cl:Int) (bl nl cs c1 n1:List D) (f bag b ct:Str):Prop where
 hp:Pr kG [.d (bC ns),aT k,aT 20] (rd (.int kd))
 ht:Pr l_ [.d (bC ns),aT k,aT 10] (rd (.int mk))
 hi:(mk == 9)=true/\fi=6\/(mk == 9)=false/\fi=mk%3
 hf:Pr yM [.d (bC ns),aT fi] (rd (.str f))
 ho:Pr jL [.d (bC ns),aT k,aT 13] (rd (.int ob))
 hb:Pr yR [.d (bC ns),aT ob] (rd (.str bag))
 hc:∀q S,bF (ae 0) (iw true) (Ee q) bl [none] S []=some (.ok nl S)
 k1:cutD cs none (some 1)=c1
 k2:cutD nl none (some 1)=n1
 a1:(nl.length+nl.length<=1000000)=True
 a2:(nl.length+nl.length+c1.length<=1000000)=True
 a3:(cs.length+n1.length<=1000000)=True
 ll:(nl.length:Int)=ln
 lc:((cs.length+n1.length:Nat):Int)=zY
 hm:(-2^64<(2:Int)/\(2:Int)<2^64 \/ -2^64<ln/\ln<2^64)=True
 zT:Pr l_ [.d (bC ns),aT (k+1),aT (2*ln+1)] (rd (.int tb))
 qy:du (nl++(nl++c1)) tb=some (.str b)
 tm:Pr jL [.d (bC ns),aT (k+1),aT zY] (rd (.int oc))
 zP:du (cs++n1) oc=some (.str ct)
 pN:Pr uq [.d (bC ns),aT k] (rd (.int cl))
abbrev rR(ns:List Int)(k kd mk cl:Int)(bl nl cs n1:List D)(f bag b ct:Str):Gm:=[ar (bC ns),bx k,ar (.tup [.lst bl,.lst cs]),bx kd,bx mk,aY f,aY bag,ar (.lst nl),aY b,ar (.lst (cs++n1)),ar (.tup [.str "flight",.str f,.str ct,.int cl])]
def rN(x:GP ns k kd mk fi ob tb oc ln zY cl bl nl cs c1 n1 f bag b ct)(J:GS):HF J 0 [ar (bC ns),bx k,ar (.tup [.lst bl,.lst cs]),none,none,none,none,none,none,none,none] S=J (rR ns k kd mk cl bl nl cs n1 f bag b ct) S:=by
 obtain⟨hp,ht,hi,hf,ho,hb,hc,k1,k2,a1,a2,a3,ll,lc,hm,zT,qy,tm,zP,pN⟩:=x;have V:((0:Int)<3)=True:=br (by decide)
 unfold HF;rcases hi with⟨Y,rfl⟩|⟨Y,rfl⟩
 .simp only[↓ev,hp,ay,ht,Y,hf,ho,hb,eD,hc,a1,k1,a2,ll,hm,zT,qy,k2,a3,lc,tm,zP,pN]
 .simp only[↓ev,hp,ay,ht,Y,V,hf,ho,hb,eD,hc,a1,k1,a2,ll,hm,zT,qy,k2,a3,lc,tm,zP,pN]
end
noncomputable def ky(m:Int):D:=.tup [.str "turn",.int m]
def vO(ds:List D):Prop:=ds.length<=2/\∀d∈ds,iK d\/∃m:Int,1<=m/\m<=12/\d=ky m
section
variable{ns:List Int}{k kd mk fi ob tb oc ln zY cl:Int}{bl nl cs c1 n1:List D}{f bag b ct:Str}{S:aU}{v Q:Bool}
def rO{ds:List D}(e:o9 0 [ar (bC ns),bx k,ar hd,none,none,none,none,none,none,none,none] S=some (.rt (.o (.lst ds)) S)):v5 0 [.d (bC ns),aT k,.d hd] S=some (.ok (.o (.lst ds)) S):=by
 unfold v5 aV;generalize o9 0=ml at *;simp only[↓ev,e,ay]
def Nv(x:GP ns k kd mk fi ob tb oc ln zY cl bl nl cs c1 n1 f bag b ct)(k0:0<=kd)(k20:kd<20)(hv:kL bag v)(U:kL f Q){o3 R bg:Int}(h3:Pr jL [.d (bC ns),aT (k+1),aT 3] (rd (.int o3)))(q:du bl 0=some (au bt))(O:(9<bt.long)=True/\bg=12\/(9<bt.long)=False/\bg=4)(p:Pr l_ [.d (bC ns),aT (k+1),aT bg] (rd (.int R)))(ht1:0<=R/\R<12):∃ds,vO ds/\v5 0 [.d (bC ns),aT k,.d (.tup [.lst bl,.lst cs])] S=some (.ok (.o (.lst ds)) S):=by
 have pN:=x.pN;have one:∀{d:D},iK d->vO [d]:=λ{d} hd=>⟨by simp,λz m=>by rw[jT.mp m];exact .inl hd⟩
 by_cases c3:kd<3
 .have J:=br c3;refine⟨_,one (.nE (ct9:=ct) (cl9:=cl) U),rO ?_⟩;unfold o9;rw[rN x];unfold p_;clear x;simp only[↓ev,rR,J,ay]
 have J:=eq_false c3;cases Y:(kd == 3) with
 |true=>
  refine⟨_,one (.change (cl9:=cl) U),rO ?_⟩;unfold o9;rw[rN x];unfold p_;clear x;simp only[↓ev,rR,J,ay,Y,pN]
 |false=>
 cases V:(kd == 4) with
 |true=>
  refine⟨_,one (.off U),rO ?_⟩;unfold o9;rw[rN x];unfold p_;clear x;simp only[↓ev,rR,J,ay,Y,V]
 |false=>
 cases B:(kd == 5) with
 |true=>
  refine⟨[.tup [.str "off",.str f],.tup [.str "flight",.str f,.str ct,.int cl]],⟨by simp,λz m=>?_⟩,rO ?_⟩
  .rcases y0c.mp m with rfl|m
   .exact .inl (.off U)
   .rw[jT.mp m];exact .inl (.nE U)
  .unfold o9;rw[rN x];unfold p_;clear x;simp only[↓ev,rR,J,ay,Y,V,B]
 |false=>
 by_cases t:kd<11
 .have F:=br t;cases e0:(o3 == 0) with
  |true=>
   refine⟨[.tup [.str "put",.str bag,.aI,.str b]],one (.put (fl9:=none) (w9:=true) hv λ_ z=>by cases z),rO ?_⟩
   unfold o9;rw[rN x];unfold p_;clear x;simp only[↓ev,rR,J,ay,Y,V,B,F,h3,e0]
  |false=>
   refine⟨[.tup [.str "put",.str bag,.str f,.str b]],one (.put (fl9:=some f) hv λ_ z=>by cases z;exact U),rO ?_⟩
   unfold o9;rw[rN x];unfold p_;clear x;simp only[↓ev,rR,J,ay,Y,V,B,F,h3,e0]
 have F:=eq_false t;cases T:(kd == 11) with
 |true=>
  refine⟨_,one (.read hv U),rO ?_⟩;unfold o9;rw[rN x];unfold p_;clear x;simp only[↓ev,rR,J,ay,Y,V,B,F,T]
 |false=>
 have n11:kd≠11:=by rw[oY] at T;exact T
 by_cases SH:kd<14
 .rcases(show kd=12\/kd=13 by lia) with rfl|rfl
  .refine⟨_,one (.stop (b9:=b)),rO ?_⟩;unfold o9;rw[rN x];unfold p_;rfl
  .refine⟨_,one (.start (b9:=b)),rO ?_⟩;unfold o9;rw[rN x];unfold p_;rfl
 have q3:=eq_false SH;refine⟨[ky (1+R)],⟨by simp,λz m=>by rw[jT.mp m];exact .inr ⟨1+R,by lia,by lia,rfl⟩⟩,rO ?_⟩
 unfold o9;rw[rN x];unfold p_;clear x;unfold ky;unfold au at q;rcases O with⟨I,rfl⟩|⟨I,rfl⟩
 .simp only[↓ev,rR,J,ay,Y,V,B,F,T,q3,q,I,p]
 .simp only[↓ev,rR,J,ay,Y,V,B,F,T,q3,q,I,p]
end
def Ow(ds:List D):cutD ds none (some 1)=ds.take 1:=by
 grind [cutD,HT.cT]
section
variable{ns:List Int}{h:aA}
def X5(g:aH h)(T:0<h.af.length)(k:Nat)(hk:k<900)(S:aU):∃ds,vO ds/\v5 0 [.d (bC ns),aT (k:Int),.d (aF h)] S=some (.ok (.o (.lst ds)) S):=by
 have bl:=g.sm.bl;have ct:=g.sm.ct;have c0:=g.c0;refine kY λkz=>?_
 obtain⟨_,O,p⟩:=ik ns k 0 20 (by lia) (by decide) (by decide)
 have hp:=wo ns k 20 (by lia) (by decide)
 obtain⟨_,t0,t1⟩:=ik ns k 2 10 (by lia) (by decide) (by decide)
 have ht:=wc ns k 10 (by lia) (by decide)
 obtain⟨_,o0,o1⟩:=ik ns k 1 13 (by lia) (by decide) (by decide)
 have ho:=ux ns k 13 (by lia) (by decide)
 obtain⟨fn,Cb,V⟩:∃fn:Nat,fn<20/\((cy ns k 2 10 == 9)=true/\(fn:Int)=6\/(cy ns k 2 10 == 9)=false/\(fn:Int)=cy ns k 2 10%3):=by
  cases e:(cy ns k 2 10 == 9) with
  |true=>exact⟨6,by decide,.inl ⟨rfl,rfl⟩⟩
  |false=>exact⟨(cy ns k 2 10%3).toNat,by lia,.inr ⟨rfl,by lia⟩⟩
 obtain⟨f,v2,hf,t⟩:=X3 (ns:=ns) fn Cb;obtain⟨bag,v,hb,hv⟩:=X4 (ns:=ns) (cy ns k 1 13).toNat (by lia)
 rw[Int.toNat_of_nonneg o0] at hb;obtain⟨cl,pN⟩:=Se (ns:=ns) k hk;have J:∀q S,bF (ae 0) (iw true) (Ee q) (h.af.map au) [none] S []=some (.ok (dS (h.af.map av.name)) S):=λq S=>by
  rw[qk (λb=>.str b.name) h.af (by lia) λb m=>⟨rd (.str b.name),by unfold Ee au;simp only[↓ev,ay],rfl⟩,dS,dy]
  rfl
 obtain⟨_,B,tb1⟩:=ik ns (k+1) 2 (2*(h.af.length:Int)+1) (by lia) (by decide) (by lia)
 have zT:=wc ns (k+1) (2*(h.af.length:Int)+1) (by lia) (by lia)
 obtain⟨_,U,oc1⟩:=ik ns (k+1) 1 (((h.carts.length+1:Nat)):Int) (by lia) (by decide) (by lia)
 have tm:=ux ns (k+1) (((h.carts.length+1:Nat)):Int) (by lia) (by lia)
 have Y:=ux ns (k+1) 3 (by lia) (by decide)
 have F:=wc ns (k+1) 12 (by lia) (by decide)
 have R:=wc ns (k+1) 4 (by lia) (by decide)
 obtain⟨_,a0,a1⟩:=ik ns (k+1) 2 12 (by lia) (by decide) (by decide)
 obtain⟨_,Q7,b1⟩:=ik ns (k+1) 2 4 (by lia) (by decide) (by decide)
 rw[show((k+1:Nat):Int)=(k:Int)+1 by lia] at zT tm Y F R
 have Ko:(h.carts.take 1).length=1:=by rw[vC];lia
 have Qv:((h.af.map av.name).take 1).length=1:=by rw[vC,ba];lia
 have qy:=E0 (xs:=h.af.map av.name++(h.af.map av.name++h.carts.take 1)) (k:=cy ns (k+1) 2 (2*(h.af.length:Int)+1)) B (by rw[cZ,cZ,ba,Ko];lia)
 have zP:=E0 (xs:=h.carts++(h.af.map av.name).take 1) (k:=cy ns (k+1) 1 (((h.carts.length+1:Nat)):Int)) U (by rw[cZ,Qv];lia)
 refine kz ?_;generalize(h.af.map av.name++(h.af.map av.name++h.carts.take 1)).getD (cy ns (k+1) 2 (2*(h.af.length:Int)+1)).toNat ""=bb at *;generalize(h.carts++(h.af.map av.name).take 1).getD (cy ns (k+1) 1 (((h.carts.length+1:Nat)):Int)).toNat ""=cc at *;rw[dS,eC,eC,<-dS,<-dS] at qy;rw[dS,eC,<-dS,<-dS] at zP;have D:GP ns k (cy ns k 0 20) (cy ns k 2 10) fn (cy ns k 1 13) (cy ns (k+1) 2 (2*(h.af.length:Int)+1)) (cy ns (k+1) 1 (((h.carts.length+1:Nat)):Int)) h.af.length (((h.carts.length+1:Nat)):Int) cl (h.af.map au) (dS (h.af.map av.name)) (dS h.carts) (dS (h.carts.take 1)) (dS ((h.af.map av.name).take 1)) f bag bb cc:=⟨hp,ht,V,hf,ho,hb,J,by rw[Ow,dS,dS,LL],by rw[Ow,dS,dS,LL],br (by simp;lia),br (by simp;lia),br (by simp;lia),by simp,by rw[ba,ba,Qv],br (.inl (by decide)),zT,qy,tm,zP,pN⟩
 obtain⟨bt,xh,ab⟩:∃bt∈h.af,du (h.af.map au) 0=some (au bt):=by
  cases e:h.af with
  |nil=>rw[e] at T;simp at T
  |cons z zs=>exact⟨z,.head _,Ma⟩
 by_cases I:9<bt.long
 .exact Nv D O p hv t Y ab (.inl ⟨br I,rfl⟩) F ⟨a0,a1⟩
 .exact Nv D O p hv t Y ab (.inr ⟨eq_false I,rfl⟩) R ⟨Q7,by lia⟩
end
variable{y:D}{a:TK}
def vp:aG [(a,y)] a=some y:=by unfold aG;simp
def vq{J:TK}(h:a≠J):aG [(a,y)] J=none:=by unfold aG;simp[h]
theorem IL:∀{bs:List av},jt carts bs->∀b∈bs,∀o∈b.outs,o≠b.name
 |x::bs,f,b,hb,o,ho=>by
  rcases y0c.mp hb with rfl|hb
  .intro e;rcases f.1 o ho with z|z
   .exact f.2.1 (e ▸ z)
   .exact f.2.2.1 (e ▸ z)
  .exact IL f.2.2.2 b hb o ho
noncomputable def g7:ai Int->D
 |none=>.aI
 |some v=>.int v
def dR(ax:Str):List av->List (TK×D)
 |[]=>[]
 |b::bs=>dR ax bs++[(.inr b.name,g7 (atS (aX ax (b::bs)) b.name))]
theorem Nw(ax:Str):∀bs:List av,(dR ax bs).length=bs.length
 |[]=>rfl
 |b::bs=>by unfold dR;rw[cZ,Nw ax bs];rfl
def Nx{l m:List (TK×D)}{k:TK}:aG (l++m) k=(aG l k).or (aG m k):=by
 grind [aG]
theorem BB:∀{bs:List av} {n:Str},n∉bs.map av.name->aG (dR ax bs) (.inr n)=none
 |[],n,_=>rfl
 |b::bs,n,J=>by
  have ne:TK.inr b.name≠TK.inr n:=λz=>J (by rw[<-TK.inr.inj z];exact .head _)
  unfold dR;rw[Nx,BB (bs:=bs) λz=>J (.tail _ z),GD,vq ne]
theorem Fm:∀{bs:List av} {n:Str},jt carts bs->n∈bs.map av.name->aG (dR ax bs) (.inr n)=some (g7 (atS (aX ax bs) n))
 |b::bs,n,f,Y=>by
  have J:dR ax (b::bs)=dR ax bs++[(.inr b.name,g7 (atS (aX ax (b::bs)) b.name))]:=rfl;rw[J,Nx];by_cases e:n=b.name
  .subst e;rw[BB f.2.1,GD,vp]
  .have hm:n∈bs.map av.name:=by
    simp_all
   rw[Fm f.2.2.2 hm,yX e];rfl
theorem Ox(b:av){ax:Str}:∀{l:List (TK×D)},aG l (.inr b.name)=none->bP l (.inr b.name) y=l++[(.inr b.name,y)]
 |[],_=>rfl
 |(k,z)::l,h=>by
  have J:k≠.inr b.name:=λe=>by
   rw[e] at h;unfold aG at h;rw[List.find?_cons_of_pos (by simp)] at h
   cases h
  have h':aG l (.inr b.name)=none:=by
   unfold aG at h ⊢
   rwa[List.find?_cons_of_neg (by simpa using J)] at h
  rw[A2,bq J,Ox b (ax:=ax) h'];rfl
def nN(ax:Str)(bs:List av)(outs:List Str):List Int:=outs.filterMap λo=>if o∈bs.map av.name then atS (aX ax bs) o else none
def X6(hc:ax∈carts){bs:List av}(f:jt carts bs)(ho:∀o∈outs,o∈bs.map av.name\/o∈carts){v:Int}:v∈nN ax bs outs++(if outs.contains ax=true then[0] else[])↔v∈de (aX ax bs) outs:=by
 grind [iZ,nN,E3,Nq]
def e5w{xs ys:List Int}(h:∀v,v∈xs↔v∈ys)(Y:ys≠[]):xs≠[]/\e_ xs=e_ ys:=by
 obtain⟨V,U⟩:=Ep Y;have J:xs≠[]:=λz=>by
  simp_all
 obtain⟨n1,B⟩:=Ep J;have c1:=U _ ((h _).mp n1);have c2:=B _ ((h _).mpr V);exact⟨J,by lia⟩
section
variable{S:aU}{ax:Str}{bs:List av}{carts outs:List Str}{t:List Cell}{n:Nat}{rr:List Cell}
theorem X7:∀outs:List Str,(outs.filterMap λo=>(if o∈bs.map av.name then atS (aX ax bs) o else none).map D.int)=(nN ax bs outs).map D.int
 |[]=>rfl
 |o::outs=>by
  grind [nN]
def TN(J:t[n]?=some (.o (.ao (dR ax bs))))(f:jt carts bs)(q:Nat)(h:outs.length<=1000):bF (ae 0) (Ef q) (Eg q) (dS outs) [none,aJ n] ⟨t,rr⟩ []=some (.ok ((nN ax bs outs).map D.int) ⟨t,rr⟩):=by
 rw[dS,sR (λo=>(if o∈bs.map av.name then atS (aX ax bs) o else none).map D.int) outs (by lia) λo m=>by
  unfold Ef Eg;by_cases hm:o∈bs.map av.name
  .have v:=Fm (ax:=ax) f hm;rw[bJ hm];cases hc:atS (aX ax bs) o with
   |some w=>
    rw[hc] at v;unfold g7 at v;exact .inr ⟨rd (.int w),.int w,rfl,by simp only[↓ev,J,ay,v,sr],by simp only[↓ev,J,v],rfl⟩
   |none=>
    rw[hc] at v;unfold g7 at v;exact .inl ⟨rfl,by simp only[↓ev,J,ay,v,sr]⟩
  .have v:=BB (ax:=ax) hm;rw[bq hm];exact .inl ⟨rfl,by simp only[↓ev,J,ay,v,vH]⟩,X7]
end
section
variable{S:aU}{t rr:List Cell}{n:Nat}{l J:List (TK×D)}{bl:List D}{k d:Int}{b:av}{ax:Str}{a4 a5:ai Val}{Q:List Int}{cs:D}
def Vv{w:Bool}{sm:List Int}(hl:((bl.length:Nat):Int)=d)(V:du bl (d - 1 - k)=some (au b))(I:t[n]?=some (.o (.ao l)))(hm:∀c:Cell,(t++[c])[n]?=some (.o (.ao l)))(B:∀c x:Cell,(t++[c]).set n x=t.set n x++[c])(ht:(n<t.length)=True)(hc:∀q,bF (ae 0) (Ef q) (Eg q) (dS b.outs) [none,aJ n] ⟨t,rr⟩ []=some (.ok (Q.map D.int) ⟨t,rr⟩))(hw:b.outs.contains ax=w)(hz:(Q.length<1000000)=True)(es:sm=Q++if w=true then[0] else[])(Y:y=if sm=[] then .aI else .int (b.long+e_ sm))(hp:bP l (.inr b.name) y=J)(U:(l.length<1000000)=True):
  AV 0 [ar (.tup [.lst bl,cs]),aY ax,aJ n,bx k,a4,a5] ⟨t,rr⟩=some (.nx [ar (.tup [.lst bl,cs]),aY ax,aJ n,bx k,ar (au b),aJ t.length] ⟨t.set n (.o (.ao J))++[.o (.lst (sm.map D.int))],rr⟩):=by
 have m:=HE sm;have z:(Q.map D.int).length=Q.length:=ba ..;have F:(Q++[0]=[])=False:=eq_false (by simp)
 have T:((0:Int)<((Q.length+1:Nat):Int))=True:=br (by lia)
 have R:((0:Int)<((0:Nat):Int))=False:=eq_false (by decide)
 unfold AV au at *;cases w with
 |true=>
  rw[bJ rfl] at es;subst es;rw[bq (by simp)] at Y
  subst Y;have ap:(Q++[0]).map D.int=Q.map D.int++[.int 0]:=by rw[eC];rfl
  rw[ap] at m ⊢;simp only[↓ev,ay,hl,V,eD,hc,d_,eM,hw,z,hz,T,m,F,hm,U,hp,B]
 |false=>
  rw[bq (by decide),jI] at es
  subst es;by_cases ne:sm=[]
  .subst ne;subst Y;rw[bJ rfl] at hp;simp only[↓ev,ay,hl,V,eD,hc,d_,eM,hw,R,hm,U,hp,B]
  .have ps:((0:Int)<(sm.length:Int))=True:=br (by have:=List.length_pos_iff.mpr ne;lia)
   rw[bq ne] at Y;subst Y;have ne:=eq_false ne;simp only[↓ev,ay,hl,V,eD,hc,d_,eM,hw,z,ps,m,ne,hm,U,hp,B]
end
section
variable{h:aA}{ax:Str}{b:av}{i:Int}
def Vw(hc:ax∈carts){bs:List av}(f:jt carts (b::bs)):atS (aX ax (b::bs)) b.name=if de (aX ax bs) b.outs=[] then none else some (b.long+e_ (de (aX ax bs) b.outs)):=by
 have ho:∀o∈b.outs,o≠b.name:=IL f b (.head _);rw[E2 hc f b (.head _),Hw (kn:=aX ax (b::bs)) (kn':=aX ax bs) (outs:=b.outs) λo m=>yX (ho o m)]
def e5x{l:List av}{q post:List av}{x:av}(e:l.reverse=q++x::post):l=post.reverse++x::q.reverse/\du (l.map au) ((l.length:Int) - 1 - (q.length:Int))=some (au x):=by
 have e1:l=post.reverse++x::q.reverse:=by
  simp_all
 refine⟨e1,?_⟩;have hl:l.length=post.length+q.length+1:=by rw[e1];simp;lia
 rw[show(l.length:Int) - 1 - (q.length:Int)=((post.length:Nat):Int) by lia]
 refine qd ?_;rw[e1,eC,oW (by simp)]
 simp
def TQ(g:aH h)(hc:ax∈h.carts)(S:aU):∃B t,aM (ae 3) (AV 0) (fS 0 h.af.length) [ar (aF h),aY ax,aJ S.s.length,none,none,none] ⟨S.s++[.o (.ao [])],S.r⟩=some (.nx B ⟨t,S.r⟩)/\(∃a3 a4 a5,B=[ar (aF h),aY ax,aJ S.s.length,a3,a4,a5])/\t[S.s.length]?=some (.o (.ao (dR ax h.af)))/\t.take S.s.length=S.s:=by
 have bl:=g.sm.bl;have ou:=g.sm.ou;have I:fS 0 h.af.length=((List.range h.af.length).zip h.af.reverse).map λ(p:Nat×av)=>D.int (p.1:Nat):=by
  rw[mL,show(λ(p:Nat×av)=>D.int (p.1:Nat))=(λ(i:Nat)=>D.int (i:Int))∘Prod.fst from rfl,<-dy,List.map_fst_zip (by simp)]
 have Qo:((List.range h.af.length).zip h.af.reverse).map Prod.snd=h.af.reverse:=by rw[List.map_snd_zip];simp
 rw[I];refine kY λkz=>?_
 obtain⟨B,S',e,⟨a3,a4,a5,e1⟩,t,rfl,e2,e3⟩:=f_ (ae 3) (AV 0) (λ(p:Nat×av)=>D.int (p.1:Nat)) ⟨S.s++[.o (.ao [])],S.r⟩ (λpre U S'=>(∃a3 a4 a5,U=[ar (aF h),aY ax,aJ S.s.length,a3,a4,a5])/\∃t,S'=⟨t,S.r⟩/\t[S.s.length]?=some (.o (.ao (dR ax (pre.map Prod.snd).reverse)))/\t.take S.s.length=S.s) ((List.range h.af.length).zip h.af.reverse) ⟨⟨none,none,none,rfl⟩,_,rfl,sN,List.take_left⟩ (by
  rintro q ⟨k,x⟩ post d U S' ⟨⟨a3,a4,a5,rfl⟩,t,rfl,F,O⟩;have J:=congrArg (List.map Prod.snd) d;rw[Qo,eC,cS] at J;obtain⟨R,ha⟩:=e5x J;have ek:k=(q.map Prod.snd).length:=by
   have:((List.range h.af.length).zip h.af.reverse)[q.length]?=some (k,x):=by rw[d,oW (bU _)];simp
   rw[List.getElem?_zip_eq_some] at this;have V:=this.1;rw[dX] at V;obtain⟨hl,V⟩:=V;rw[List.getElem_range] at V;rw[ba];exact V.symm
  rw[eC,List.map_singleton,List.reverse_append,List.reverse_singleton,List.singleton_append];generalize q.map Prod.snd=qs at *;have Y:jt h.carts (x::qs.reverse):=y6 (by rw[<-R];exact g.fwd)
  have ho:x.outs.length<=900:=by
   rw[R,eC,cS,List.sum_append,LN] at ou;dsimp only at ou;lia
  have hql:qs.length<=100:=by
   have h2:=congrArg List.length R;rw[cZ,jR,Gq,Gq] at h2;lia
  have lt:S.s.length<t.length:=(dX.mp F).1;have hm:∀c:Cell,(t++[c])[S.s.length]?=some (.o (.ao (dR ax qs.reverse))):=λc=>by rw[nX lt];exact F
  have hs:∀c x:Cell,(t++[c]).set S.s.length x=t.set S.s.length x++[c]:=λc x=>List.set_append_left _ _ lt
  have pN:=λq=>TN (rr:=S.r) (outs:=x.outs) F Y.2.2.2 q (by lia)
  have hlen:((h.af.map au).length:Int)=(h.af.length:Int):=by rw[ba]
  have hq:((dR ax qs.reverse).length<1000000)=True:=br (by rw[Nw,Gq];lia)
  have pu:=λy=>Ox x (ax:=ax) (y:=y) (BB (ax:=ax) Y.2.1)
  have sm:=λv=>X6 (v:=v) hc Y.2.2.2 Y.1
  have bh:=Vw hc Y;have et:dR ax (x::qs.reverse)=dR ax qs.reverse++[(.inr x.name,g7 (atS (aX ax (x::qs.reverse)) x.name))]:=rfl;have fin:∀(y:D) (m:List D),y=g7 (atS (aX ax (x::qs.reverse)) x.name)->(t.set S.s.length (.o (.ao (dR ax qs.reverse++[(TK.inr x.name,y)])))++[Cell.o (.lst m)])[S.s.length]?=some (.o (.ao (dR ax (x::qs.reverse))))/\(t.set S.s.length (.o (.ao (dR ax qs.reverse++[(TK.inr x.name,y)])))++[Cell.o (.lst m)]).take S.s.length=S.s:=λy m hy=>by
   rw[hy,<-et];constructor
   .rw[nX (by rw[rj];exact lt),oV lt]
   .rw[List.take_append_of_le_length (by rw[rj];lia),List.take_set_of_le (bU _)]
    exact O
  subst ek;have hsl:(nN ax qs.reverse x.outs).length<=x.outs.length:=As _ _;generalize nN ax qs.reverse x.outs=k9 at *;generalize hS:k9++(if x.outs.contains ax=true then[0] else[])=E at *
  obtain⟨f1,f2⟩:=fin (if E=[] then .aI else .int (x.long+e_ E)) (E.map D.int) (by
   rw[bh];by_cases T:de (aX ax qs.reverse) x.outs=[]
   .rw[bJ T,bJ (List.eq_nil_iff_forall_not_mem.mpr λv m=>by simp_all)]
    rfl
   .obtain⟨ne,me⟩:=e5w sm T;rw[bq T,bq ne,me];rfl)
  exact⟨_,_,_,rfl,.inl (Vv hlen ha F hm hs (br lt) pN rfl (br (by lia)) hS.symm rfl (pu _) hq),⟨_,_,_,rfl⟩,_,rfl,f1,f2⟩)
 rw[Qo,List.reverse_reverse] at e2;refine kz ?_;exact⟨B,t,e,⟨a3,a4,a5,e1⟩,e2,e3⟩
def Pw(g:aH h)(hc:ax∈h.carts):P0 zf [.d (aF h),cD ax] (.o (.ao (dR ax h.af))):=by
 intro S;refine kY λU=>?_
 obtain⟨B,t,e,⟨a3,a4,a5,rfl⟩,e2,Y⟩:=TQ g hc S;have bl:=g.sm.bl;have hlen:((h.af.map au).length:Int)=(h.af.length:Int):=by rw[ba]
 have V:aF h=.tup [.lst (h.af.map au),.lst (dS h.carts)]:=rfl;refine U ?_;rw[V] at e ⊢;have hz:Nat.ble (h.af.length:Int).natAbs 1000000000000=true:=by rw[GL];lia
 have tn:((h.af.length:Int)).toNat=h.af.length:=DG _;have J:aU.cut ⟨t,S.r⟩ S.s.length=S:=by unfold aU.cut;dsimp only;rw[Y]
 unfold zf;simp only[↓ev,ay,hlen,hz,tn,eD,e,e2,J]
end
variable{l L:List (Str×Str×Int)}{p:Str×Str×Int}{F:List (TK×D)}
def H0(l:List Str):(i9 l).Perm l:=by
 refine(Classical.epsilon_spec (p:=λs:List Str=>s.Perm l/\PyProof.Rows.sortedS s=true) ⟨l.mergeSort λa b=>decide (a.cps.toList<=b.cps.toList),List.mergeSort_perm ..,PyProof.Rows.sortedS_of_pairwise _ ((List.pairwise_mergeSort (le:=λa b:Str=>decide (a.cps.toList<=b.cps.toList)) (λa b c J Y=>?_) (λa b=>?_) l).imp λh=>?_)⟩).1
 all_goals grind [PyProof.Rows.ltCps_eq]
noncomputable def iu(l:List (Str×Str×Int))(f:Str):Str×Str×Int:=(l.find? λp=>p.1 == f).getD ("","",0)
noncomputable def i_ (l:List (Str×Str×Int)):List (Str×Str×Int):=(i9 (l.map (·.1))).map (iu l)
def Oy(nd:(l.map (·.1)).Nodup)(hp:p∈l):iu l p.1=p:=by
 unfold iu;cases h:l.find? λq=>q.1 == p.1 with
 |none=>exact cQ (An.mp h p hp) (by simp)
 |some q=>
  grind [mY]
def MS(nd:(l.map (·.1)).Nodup):(i_ l).Perm l:=by
 have e:(l.map (·.1)).map (iu l)=l:=by
  rw[dy];exact(lY λp hp=>Oy nd hp).trans (List.map_id l)
 have p:=(H0 (l.map (·.1))).map (iu l)
 rw[e] at p;exact p
noncomputable def iP(p:Str×Str×Int):D:=.tup [.str p.2.1,.int p.2.2]
noncomputable def gK(a b c d e:D):List (TK×D):=[(TK.inr "now",a),(TK.inr "flights",b),(TK.inr "still",c),(TK.inr "inside",d),(TK.inr "gone",e)]
section
variable{a b c d e:D}
def BC:aG (gK a b c d e) (.inr "now")=some a:=by kernel_rfl
def Hy:aG (gK a b c d e) (.inr "flights")=some b:=by kernel_rfl
def rL:aG (gK a b c d e) (.inr "still")=some c:=by kernel_rfl
def gM:aG (gK a b c d e) (.inr "inside")=some d:=by kernel_rfl
def e5y:List.foldl (λ(kvs:List (TK×D)) (p:TK×D)=>bP kvs p.fst p.snd) [] [(TK.inr "now",a),(TK.inr "flights",b),(TK.inr "still",c),(TK.inr "inside",d),(TK.inr "gone",e)]=gK a b c d e:=by kernel_rfl
end
section
variable{s B R:List Cell}{h:aA}{r:Int}{x:Hl}{n:Nat}{w:Row}{hd:D}{q:Nat}{a5 a6 a7 a8 a9 g1 g2 g3 g4:ai Val}
def Ny:y0 q [eB] (hS B hd r x s)=some (.ok (rd (.int x.now)) (hS B hd r x s)):=by
 unfold y0;simp only[↓ev,hR,ay]
def TR(o:Ok h n x)(Y:n<64):eE 0 [eB] (hS B hd r x s)=some (.ok (.o (.lst ((i_ x.book).map t3))) (hS B hd r x s)):=by
 have sz:=o.sz;have J:=(H0 (x.book.map (·.1))).length_eq
 rw[ba] at J;have e1:eK ((jZ x.book).map (·.1.d))=some (x.book.map (·.1)):=by
  unfold jZ;rw[E1,HV]
 have l1:((x.book.map (·.1)).length<64)=True:=br (by rw[ba];lia)
 have e2:bF (ae 0) (iw true) (eO 0) ((i9 (x.book.map (·.1))).map D.str) [none,cR] (hS B hd r x s) []=some (.ok ((i_ x.book).map t3) (hS B hd r x s)):=by
  unfold i_;rw[qk (λf=>t3 (iu x.book f)) _ (by lia) λf hf=>by
   obtain⟨p,hp,e⟩:=fU.mp ((H0 _).mem_iff.mp hf);have v:aG (jZ x.book) (.inr f)=some (t3 (iu x.book f)):=by
    rw[<-e,Oy o.bn hp];exact gP (k:=λp:Str×Str×Int=>p.1) o.bn hp
   refine⟨rd (t3 (iu x.book f)),?_,rfl⟩;unfold eO;simp only[↓ev,hR,ay,v],dy]
  rfl
 unfold eE;simp only[↓ev,hR,ay,e1,l1,eD,e2]
abbrev Ae(R s:List Cell)(L:List (Str×Str×Int)):aU:=⟨s++[.o (.ao (td (·.1) iP L))],R⟩
def e5z(hp:p.1∉L.map (·.1))(hl:L.length<1000):bW 0 [cR,aJ s.length,aY p.1,aY p.2.1,bx p.2.2,a5,a6,a7,a8,a9] (Ae R s L)=some (.nx [cR,aJ s.length,aY p.1,aY p.2.1,bx p.2.2,a5,a6,a7,a8,a9] (Ae R s (L++[p]))):=by
 have e:=zA (k:=λp:Str×Str×Int=>p.1) (v:=iP) hp
 have l1:((td (·.1) iP L).length<1000000)=True:=br (by rw[kX];lia)
 unfold Ae;unfold iP at *;unfold bW;simp only[↓ev,ay,l1,e]
def X8(nd:(L.map (·.1)).Nodup)(hl:L.length<1000):∃a2 a3 a4,aM (bc [(ae 2),(ae 3),(ae 4)]) (bW 0) (L.map t3) [cR,aJ s.length,none,none,none,a5,a6,a7,a8,a9] ⟨s++[.o (.ao [])],R⟩=some (.nx [cR,aJ s.length,a2,a3,a4,a5,a6,a7,a8,a9] (Ae R s L)):=by
 refine kY λT=>?_
 obtain⟨D,S',e,⟨a2,a3,a4,rfl⟩,rfl⟩:=f_ (bc [(ae 2),(ae 3),(ae 4)]) (bW 0) t3 ⟨s++[.o (.ao [])],R⟩ (λpre U S'=>(∃a2 a3 a4,U=[cR,aJ s.length,a2,a3,a4,a5,a6,a7,a8,a9])/\S'=Ae R s pre) L ⟨⟨none,none,none,rfl⟩,rfl⟩ (by
  rintro d p post J U S' ⟨⟨a2,a3,a4,rfl⟩,rfl⟩;have Y:p.1∉d.map (·.1):=by
   grind
  have V:d.length<1000:=by rw[J] at hl;simp at hl;lia
  exact⟨_,_,_,rfl,.inl (e5z Y V),⟨_,_,_,rfl⟩,rfl⟩)
 refine T ?_;exact⟨a2,a3,a4,e⟩
def jF(w:Row):Cell:=.o (.lst [aN w.fl,pl w.b w.i,.int w.gn])
def inD(L:List (Row×Nat)):List (TK×D):=td (λp=>p.1.bag) (λp=>.ref p.2) L
abbrev Ac(R s:List Cell)(F:List (TK×D))(L:List Row):aU:=⟨s++[.o (.ao F)],R++.o (.ao (inD (L.zipIdx (R.length+1))))::L.map jF⟩
theorem e6a{L:List Row}(hp:w.bag∉L.map Row.bag)(hl:L.length<1000):bX 0 [cR,g1,g2,g3,g4,some (.d (.ref R.length)),aY w.bag,ar (aN w.fl),ar (pl w.b w.i),bx w.gn] (Ac R s F L)=some (.nx [cR,g1,g2,g3,g4,some (.d (.ref R.length)),aY w.bag,ar (aN w.fl),ar (pl w.b w.i),bx w.gn] (Ac R s F (L++[w]))):=by
 have e:bP (inD (L.zipIdx (R.length+1))) (.inr w.bag) (.ref (R.length+1+L.length))=inD ((L++[w]).zipIdx (R.length+1)):=by
  rw[List.zipIdx_append];refine zA (x:=(w,R.length+1+L.length)) ?_;rw[show((L.zipIdx (R.length+1)).map λp=>p.1.bag)=L.map Row.bag by rw[show(λp:Row×Nat=>p.1.bag)=Row.bag∘Prod.fst from rfl,<-dy,LR]]
  exact hp
 have l1:((inD (L.zipIdx (R.length+1))).length<1000000)=True:=br (by unfold inD;rw[kX,List.length_zipIdx];lia)
 have l2:(R++.o (.ao (inD (L.zipIdx (R.length+1))))::L.map jF).length=R.length+1+L.length:=by simp;lia
 unfold Ac;rw[eC,<-e];unfold jF at *;unfold bX;simp only[↓ev,ay,l2,l1,e];rfl
theorem X9{L:List Row}(nd:(L.map Row.bag).Nodup)(hl:L.length<1000):∃a6 a7 a8 a9,aM (bc [(ae 6),(ae 7),(ae 8),(ae 9)]) (bX 0) (L.map bI) [cR,g1,g2,g3,g4,some (.d (.ref R.length)),none,none,none,none] ⟨s++[.o (.ao F)],R++[.o (.ao [])]⟩=some (.nx [cR,g1,g2,g3,g4,some (.d (.ref R.length)),a6,a7,a8,a9] (Ac R s F L)):=by
 refine kY λV=>?_
 obtain⟨T,S',e,⟨a6,a7,a8,a9,rfl⟩,rfl⟩:=f_ (bc [(ae 6),(ae 7),(ae 8),(ae 9)]) (bX 0) bI ⟨s++[.o (.ao F)],R++[.o (.ao [])]⟩ (λpre U S'=>(∃a6 a7 a8 a9,U=[cR,g1,g2,g3,g4,some (.d (.ref R.length)),a6,a7,a8,a9])/\S'=Ac R s F pre) L ⟨⟨none,none,none,none,rfl⟩,rfl⟩ (by
  rintro d p post J U S' ⟨⟨a2,a3,a4,a9,rfl⟩,rfl⟩;have Y:d.length<1000:=by rw[J] at hl;simp at hl;lia
  exact⟨_,_,_,rfl,.inl (e6a (EK J nd) Y),⟨_,_,_,_,rfl⟩,rfl⟩)
 refine V ?_;exact⟨a6,a7,a8,a9,e⟩
theorem Gb{α:Type}{l L:List α}{j:Nat}:List.take (l.length+j) (l++L)=l++L.take j:=List.take_length_add_append ..
abbrev QR(h:aA)(B:List Cell)(x:Hl):List Cell:=.o (.ao (inD ((ord h x.rows).zipIdx (B.length+9))))::((ord h x.rows).map jF++[.o (.lst (l0 x.gone))])
theorem e6b(g:aH h)(o:Ok h n x)(m:n<64):cG 0 [eB] (hS B (aF h) r x s)=some (.ok (.o (.ao (gK (.int x.now) (.ao (td (·.1) iP (i_ x.book))) (.lst (dS (bG h x))) (.ref (B.length+8)) (.ref (B.length+8+((ord h x.rows).length+1)))))) (hS (B++QR h B x) (aF h) r x s)):=by
 have rl:=o.rl;have sz:=o.sz;have lp:=o.perm.length_eq;have J:=MS o.bn;have Qd:(hR (aF h) r x B).length=B.length+8:=rfl;have e1:=λs=>TR (B:=B) (s:=s) (hd:=aF h) (r:=r) o m
 refine kY λt=>?_
 obtain⟨a2,a3,a4,e2⟩:=X8 (R:=hR (aF h) r x B) (s:=s) (a5:=none) (a6:=none) (a7:=none) (a8:=none) (a9:=none) (L:=i_ x.book) ((J.map _).nodup_iff.mpr o.bn) (by rw[J.length_eq];lia)
 have V:=λs q=>zJ (B:=B++[.o (.ao [])]) (s:=s) (r:=r) (q:=q) g o
 obtain⟨a6,a7,a8,a9,Y⟩:=X9 (R:=hR (aF h) r x B) (s:=s) (F:=td (·.1) iP (i_ x.book)) (g1:=(aJ s.length)) (g2:=a2) (g3:=a3) (g4:=a4) (L:=ord h x.rows) ((o.perm.map _).nodup_iff.mpr o.nb) (by lia)
 have U:=λs q L=>Ny (B:=B++L) (s:=s) (hd:=aF h) (r:=r) (x:=x) (q:=q)
 have T:=λs q L=>HH (B:=B++L) (s:=s) (r:=r) (x:=x) (q:=q) g
 have D:=λs q L=>Pk (B:=B++L) (s:=s) (hd:=aF h) (r:=r) (x:=x) (q:=q)
 have d:∀L,hR (aF h) r x (B++L)=hR (aF h) r x B++L:=λL=>rfl
 have h0:∀L,(hR (aF h) r x B++L)[0]?=some (.ins cHall (hF (aF h) r x.now 0)):=λL=>rfl
 have O:(hR (aF h) r x B)[0]?=some (.ins cHall (hF (aF h) r x.now 0)):=rfl;refine t ?_;unfold hS Ae Ac QR at *;rw[Qd] at Y;simp only[d] at *;generalize aF h=hd at *;generalize i_ x.book=bk at *;generalize(td (·.1) iP bk)=F at *
 have hl:(.o (.ao (inD ((ord h x.rows).zipIdx (B.length+8+1))))::(ord h x.rows).map jF).length=(ord h x.rows).length+1:=by simp
 generalize hI:inD ((ord h x.rows).zipIdx (B.length+8+1))=I at *;generalize hM:(ord h x.rows).map jF=M at *;generalize(ord h x.rows).map bI=rw at *;generalize hR hd r x B=R at *;unfold cG;simp only[↓ev,ay,O,e1,eD,e2,Qd,h0,V,Y,U,T,D,hl,e5y,Gb];rfl
end
variable{h:aA}{L:List Row}{w:Row}
abbrev zZ(h:aA)(a b:Row):Prop:=FY (jr h a) (jr h b)=true
theorem e6c{rows:List Row}(nd:(rows.map (jr h)).Nodup):(ord h rows).Pairwise (zZ h):=by
 unfold ord;split
 .rename_i hl
  cases rows with
  |nil=>exact .nil
  |cons a l=>
   cases l with
   |nil=>exact List.pairwise_singleton _ _
   |cons b l=>simp at hl;lia
 .rename_i hl
  obtain⟨p,pw⟩:=A4 nd (by rw[ba];lia)
  rw[ba] at p;rw[Dz];refine pw.imp_of_mem λ{i j} hi J h=>?_
  have Y:=pI.mp (p.mem_iff.mp hi);have j1:=pI.mp (p.mem_iff.mp J);unfold ltAt at h;simp only[yD,fB,gu Y,gu j1,Am,GF] at h ⊢;exact h
noncomputable def cP(L:List Row)(b:Str)(c:Int):List Row:=L.filter λw=>w.b == b&&w.i == c
def dA(L:List Row)(bt:av):List Row:=(List.range bt.long.toNat).flatMap λ(c:Nat)=>cP L bt.name (c:Int)
def i8(h:aA)(L:List Row):List Row:=h.af.flatMap (dA L)
theorem eZ{c:Int}:w∈cP L b c↔w∈L/\w.b=b/\w.i=c:=by
 unfold cP;rw[rb,jx,beq_iff_eq,beq_iff_eq]
theorem gH:w∈dA L bt↔w∈L/\w.b=bt.name/\0<=w.i/\w.i<bt.long:=by
 unfold dA;rw[List.mem_flatMap];constructor
 .rintro⟨c,hc,hw⟩;obtain⟨J,Y,V⟩:=eZ.mp hw
  simp_all
 .rintro⟨J,Y,V,U⟩;exact⟨w.i.toNat,pI.mpr (by lia),eZ.mpr ⟨J,Y,by lia⟩⟩
theorem Vx(h:aA)(nd:(h.af.map av.name).Nodup):h.af.Pairwise λa b=>rk h a.name<rk h b.name:=by
 rw[List.pairwise_iff_getElem];have key:∀(i:Nat) (hi:i<h.af.length),rk h (h.af[i]).name=(i:Int):=λi hi=>by
  unfold rk;obtain⟨j,J⟩:=A1 (l7 (f:=av.name) (Aj hi));rw[J];obtain⟨e1,_⟩:=yY J;have e2:(h.af.map av.name)[i]?=some (h.af[i]).name:=by rw[fB,gu hi];rfl
  rw[HJ nd e1 e2];rfl
 simp_all
theorem IM:∀{bs:List av},jt carts bs->(bs.map av.name).Nodup
 |[],_=>.nil
 |b::bs,f=>nW.mpr ⟨f.2.1,IM f.2.2.2⟩
theorem VL(g:aH h)(pw:L.Pairwise (zZ h))(ho:∀w∈L,kW h w):i8 h L=L:=by
 have V:∀a b:Row,zZ h a b->zZ h b a->a=b:=λa b B T=>by
  have B:=pT B;have T:=pT T;lia
 have R:∀{l:List Row},l.Pairwise (zZ h)->l.Nodup:=λp=>p.imp λ{a b} h e=>by
  subst e;have h:=pT h;lia
 have D:(i8 h L).Pairwise (zZ h):=by
  unfold i8;rw[List.pairwise_flatMap];refine⟨λbt _=>?_,(Vx h (IM g.fwd)).imp λ{a b} Qe x J y Y=>?_⟩
  .unfold dA;rw[List.pairwise_flatMap];refine⟨λc _=>pw.filter _,List.pairwise_lt_range.imp λ{a b} Qe x J y Y=>?_⟩
   obtain⟨_,U,q⟩:=eZ.mp J;obtain⟨_,y1,d⟩:=eZ.mp Y;refine nh (.inr ⟨?_,?_⟩)
   .unfold jr;rw[U,y1]
   .show x.i<y.i;lia
  .obtain⟨_,U,_⟩:=gH.mp J;obtain⟨_,y1,_⟩:=gH.mp Y;refine nh (.inl ?_);show rk h x.b<rk h y.b;rw[U,y1];exact Qe
 refine List.Perm.eq_of_pairwise (λa b _ _=>V a b) D pw ((List.perm_ext_iff_of_nodup (R D) (R pw)).mpr λw=>?_)
 unfold i8;rw[List.mem_flatMap];constructor
 .rintro⟨bt,_,hw⟩;exact(gH.mp hw).1
 .intro hw;obtain⟨bt,hb,e,I,O,_⟩:=ho w hw;exact⟨bt,hb,gH.mpr ⟨hw,e.symm,I,O⟩⟩
theorem Sh{M:List Row}(p:L.Perm M)(un:(L.map λw=>(w.b,w.i)).Nodup):i8 h L=i8 h M:=by
 have one:∀b c,cP L b c=cP M b c:=λb c=>by
  have J:(cP L b c).Perm (cP M b c):=p.filter _;have nd:((cP L b c).map λw=>(w.b,w.i)).Nodup:=un.sublist (List.Sublist.map _ yC)
  match hL:cP L b c with
  |[]=>rw[hL] at J;exact(List.Perm.eq_nil J.symm).symm
  |[w]=>rw[hL] at J;exact List.singleton_perm.mp J
  |w::z::l=>
   have hw:=(eZ.mp (show w∈cP L b c by rw[hL];simp)).2
   grind [cP]
 unfold i8 dA
 simp_all
structure Sg (h:aA) (x:Hl) (L:List (Row×Nat)) (a k c:Nat) (S:aU):Prop where
 st:S.s[c]?=some (.o (.ao (gK (.int x.now) (.ao (td (·.1) iP (i_ x.book))) (.lst (dS (bG h x))) (.ref a) (.ref k))))
 ins:S.r[a]?=some (.o (.ao (inD L)))
 at_:∀p∈L,S.r[p.2]?=some (jF p.1)
section
variable{t rr:List Cell}{h:aA}{x:Hl}{n a k c:Nat}{w:Row}{L:List (Row×Nat)}{aO:List D}{bt:av}{i:Int}{hd:D}{a4 a5:ai Val}
theorem Sg.up(g:Sg h x L a k c ⟨t,rr⟩)(l:List Cell):Sg h x L a k c ⟨t++l,rr⟩:=⟨by
 rw[nX (dX.mp g.st).1];exact g.st,g.ins,g.at_⟩
theorem e6d(pm:(L.map (·.1)).Perm x.rows):(L.map λp=>p.1.bag).Perm (x.rows.map Row.bag):=by
 have e:=pm.map Row.bag
 rwa[dy] at e
theorem uA(pm:(L.map (·.1)).Perm x.rows)(nb:(x.rows.map Row.bag).Nodup)(hw:w∈x.rows):∃p∈L,p.1=w/\aG (inD L) (.inr w.bag)=some (.ref p.2):=by
 obtain⟨p,J,ep⟩:=fU.mp (pm.mem_iff.mpr hw);exact⟨p,J,ep,by rw[<-ep];exact gP ((e6d pm).nodup_iff.mpr nb) J⟩
theorem Oz:(inD L).map (·.1.d)=dS ((L.map (·.1)).map Row.bag):=by
 unfold inD;rw[E1,dy];rfl
theorem pD:(max 0 1:Nat)=1:=rfl
noncomputable abbrev aS(t rr:List Cell)(aO:List D):aU:=⟨t++[.o (.lst aO)],rr⟩
abbrev rG(hd:D)(c:Nat)(t:List Cell)(bt:av)(a b:ai Val):Gm:=[ar hd,aJ c,aJ t.length,ar (au bt),a,b]
theorem e6e(sg:Sg h x L a k c ⟨t,rr⟩)(pm:(L.map (·.1)).Perm x.rows)(nb:(x.rows.map Row.bag).Nodup)(hw:w∈x.rows)(hl:aO.length<1000):AW 1 (rG hd c t bt (bx i) (aY w.bag)) (aS t rr aO)=some (.nx (rG hd c t bt (bx i) (aY w.bag)) (aS t rr (aO++if(w.b == bt.name&&w.i == i)=true then[.str w.bag] else[]))):=by
 obtain⟨p,J,rfl,v⟩:=uA pm nb hw;have st:=λl=>(sg.up l).st
 have c0:=sg.at_ p J;have ins:=sg.ins;unfold jF at c0;generalize aN p.1.fl=Y at *;have l1:(aO.length<1000000)=True:=br (by lia)
 unfold rG au AW;cases hc:(p.1.b == bt.name&&p.1.i == i) with
 |true=>simp only[↓ev,st,gM,ins,v,c0,ay,m_,sY,hc,l1]
 |false=>simp only[↓ev,st,gM,ins,v,c0,ay,m_,sY,hc,jI]
theorem X_(sg:Sg h x L a k c ⟨t,rr⟩)(pm:(L.map (·.1)).Perm x.rows)(nb:(x.rows.map Row.bag).Nodup)(hl:aO.length+x.rows.length<900):∃J,aM (ae 5) (AW 1) (dS ((L.map (·.1)).map Row.bag)) (rG hd c t bt (bx i) a5) (aS t rr aO)=some (.nx (rG hd c t bt (bx i) J) (aS t rr (aO++dS ((cP (L.map (·.1)) bt.name i).map Row.bag)))):=by
 rw[show dS ((L.map (·.1)).map Row.bag)=(L.map (·.1)).map λw=>.str w.bag by unfold dS;rw[dy];rfl]
 have pl:=pm.length_eq;have mem:=λw=>pm.mem_iff (a:=w)
 generalize T:L.map (·.1)=M at pl mem ⊢
 obtain⟨B,S',e,⟨J,rfl⟩,rfl⟩:=f_ (ae 5) (AW 1) (λw:Row=>D.str w.bag) (aS t rr aO) (λpre U S'=>(∃J,U=rG hd c t bt (bx i) J)/\S'=aS t rr (aO++dS ((cP pre bt.name i).map Row.bag))) M ⟨⟨a5,rfl⟩,by unfold cP;simp⟩ (by
  rintro d w post Y U S' ⟨⟨J,rfl⟩,rfl⟩;have Qg:(cP d bt.name i).length<=d.length:=uh _ _;have V:d.length<M.length:=by rw[Y];simp
  refine⟨_,_,_,rfl,.inl (e6e sg pm nb ((mem w).mp (by rw[Y];simp)) (by simp;lia)),⟨_,rfl⟩,?_⟩
  unfold cP;rw[List.filter_append,yx,jz];cases(w.b == bt.name&&w.i == i) <;> simp)
 exact⟨J,e⟩
theorem Ya(sg:Sg h x L a k c ⟨t,rr⟩)(pm:(L.map (·.1)).Perm x.rows)(nb:(x.rows.map Row.bag).Nodup)(hl:aO.length+x.rows.length<900):∃J,AX 0 (rG hd c t bt (bx i) a5) (aS t rr aO)=some (.nx (rG hd c t bt (bx i) J) (aS t rr (aO++dS ((cP (L.map (·.1)) bt.name i).map Row.bag)))):=by
 obtain⟨J,e⟩:=X_ (hd:=hd) (bt:=bt) (i:=i) (aO:=aO) (a5:=a5) sg pm nb hl;refine⟨J,?_⟩;have st:=λl=>(sg.up l).st
 have ins:=sg.ins;have k:=Oz (L:=L);unfold rG at *;generalize au bt=B at *;unfold AX;simp only[↓ev,st,gM,ins,k,pD,e]
theorem VM(sg:Sg h x L a k c ⟨t,rr⟩)(pm:(L.map (·.1)).Perm x.rows)(nb:(x.rows.map Row.bag).Nodup)(hl:aO.length+(dA (L.map (·.1)) bt).length+x.rows.length<900):∃Y J,aM (ae 4) (AX 0) (fS 0 bt.long.toNat) (rG hd c t bt a4 a5) (aS t rr aO)=some (.nx (rG hd c t bt Y J) (aS t rr (aO++dS ((dA (L.map (·.1)) bt).map Row.bag)))):=by
 rw[mL];refine kY λB=>?_
 obtain⟨T,S',e,⟨Y,J,rfl⟩,rfl⟩:=f_ (ae 4) (AX 0) (λi:Nat=>D.int (i:Int)) (aS t rr aO) (λpre U S'=>(∃Y J,U=rG hd c t bt Y J)/\S'=aS t rr (aO++dS ((pre.flatMap λ(c:Nat)=>cP (L.map (·.1)) bt.name (c:Int)).map Row.bag))) (List.range bt.long.toNat) ⟨⟨a4,a5,rfl⟩,by simp⟩ (by
  rintro d i post V U S' ⟨⟨Y,J,rfl⟩,rfl⟩;have Qg:(d.flatMap λ(c:Nat)=>cP (L.map (·.1)) bt.name (c:Int)).length<=(dA (L.map (·.1)) bt).length:=by unfold dA;rw[V,List.flatMap_append,cZ];lia
  obtain⟨Rn,e⟩:=Ya (hd:=hd) (bt:=bt) (i:=(i:Int)) (aO:=aO++dS ((d.flatMap λ(c:Nat)=>cP (L.map (·.1)) bt.name (c:Int)).map Row.bag)) (a5:=J) sg pm nb (by simp only[cZ,ba];lia)
  refine⟨_,_,_,rfl,.inl e,⟨_,_,rfl⟩,?_⟩
  simp_all)
 refine B ?_;exact⟨Y,J,e⟩
theorem Yb(sg:Sg h x L a k c ⟨t,rr⟩)(pm:(L.map (·.1)).Perm x.rows)(nb:(x.rows.map Row.bag).Nodup)(hb:0<=bt.long/\bt.long<=1000)(hl:aO.length+(dA (L.map (·.1)) bt).length+x.rows.length<900):∃J Y,Eh 0 (rG hd c t bt a4 a5) (aS t rr aO)=some (.nx (rG hd c t bt J Y) (aS t rr (aO++dS ((dA (L.map (·.1)) bt).map Row.bag)))):=by
 obtain⟨J,Y,e⟩:=VM (hd:=hd) (bt:=bt) (aO:=aO) (a4:=a4) (a5:=a5) sg pm nb hl;refine⟨J,Y,?_⟩;have hz:Nat.ble bt.long.natAbs 1000000000000=true:=by rw[GL];lia
 unfold rG au at *;unfold Eh;simp only[↓ev,ay,hz,eD,e]
theorem IP(g:aH h)(sl:∀b∈h.af,0<=b.long/\b.long<=1000)(o:Ok h n x)(sg:Sg h x L a k c ⟨t,rr⟩)(pm:(L.map (·.1)).Perm x.rows):v8 0 [.d (aF h),.c c] ⟨t,rr⟩=some (.ok (.o (.lst (dS ((ord h x.rows).map Row.bag)))) ⟨t,rr⟩):=by
 have nb:=o.nb;have rl:=o.rl;have er:i8 h (L.map (·.1))=ord h x.rows:=(Sh (pm.trans o.perm.symm) ((pm.map _).nodup_iff.mpr o.un)).trans (VL g (e6c o.nk) λw m=>(o.rw w (o.mem.mp m)).1)
 have key:=f_ (ae 3) (Eh 0) au (aS t rr []) (λpre U S'=>(∃V J Y,U=[ar (aF h),aJ c,aJ t.length,V,J,Y])/\S'=aS t rr (dS ((pre.flatMap (dA (L.map (·.1)))).map Row.bag))) h.af ⟨⟨none,none,none,rfl⟩,rfl⟩ (by
  rintro d bt post R U S' ⟨⟨V,J,Y,rfl⟩,rfl⟩;have Qg:(d.flatMap (dA (L.map (·.1)))).length+(dA (L.map (·.1)) bt).length<=x.rows.length:=by
   have e:=congrArg List.length er;rw[o.perm.length_eq] at e
   grind [i8]
  have B:=sl bt (by rw[R];simp)
  obtain⟨T,Rn,e⟩:=Yb (hd:=aF h) (bt:=bt) (aO:=dS ((d.flatMap (dA (L.map (·.1)))).map Row.bag)) (a4:=J) (a5:=Y) sg pm nb B (by simp only[ba];lia)
  refine⟨_,_,_,rfl,.inl e,⟨_,_,_,rfl⟩,?_⟩
  simp_all)
 refine kY λD=>?_
 obtain⟨I,S',e,⟨V,J,Y,rfl⟩,rfl⟩:=key;rw[show h.af.flatMap (dA (L.map (·.1)))=ord h x.rows from er] at e
 refine D ?_;unfold aF at *;unfold v8;simp only[↓ev,ay,eD,e]
end
section
variable{t rr:List Cell}{h:aA}{x:Hl}{n a k c:Nat}{w:Row}{L:List (Row×Nat)}{aO:List D}{hd:D}{a4:ai Val}
theorem e6f(sg:Sg h x L a k c ⟨t,rr⟩)(pm:(L.map (·.1)).Perm x.rows)(nb:(x.rows.map Row.bag).Nodup)(hw:w∈x.rows)(hl:aO.length<1000):Ej 0 [ar hd,aJ c,aJ t.length,aY w.bag,a4] (aS t rr aO)=some (.nx [ar hd,aJ c,aJ t.length,aY w.bag,(aG (inD L) (.inr w.bag)).map .d] (aS t rr (aO++[bI w]))):=by
 obtain⟨p,J,rfl,v⟩:=uA pm nb hw;have st:=λl=>(sg.up l).st
 have c0:=sg.at_ p J;have ins:=sg.ins;rw[v];unfold bI;unfold jF at c0;generalize aN p.1.fl=Y at *;have l1:(aO.length<1000000)=True:=br (by lia)
 unfold Ej;simp only[↓ev,st,gM,ins,v,ay,c0,l1]
theorem Yc(g:aH h)(sl:∀b∈h.af,0<=b.long/\b.long<=1000)(o:Ok h n x)(sg:Sg h x L a k c ⟨t,rr⟩)(pm:(L.map (·.1)).Perm x.rows):A8 0 [.d (aF h),.c c] ⟨t,rr⟩=some (.ok (.o (.lst ((ord h x.rows).map bI))) ⟨t,rr⟩):=by
 have rl:=o.rl;have T:=o.perm.length_eq;have e1:=IP g sl o (sg.up [.o (.lst [])]) pm;refine kY λB=>?_
 obtain⟨R,S',e,⟨J,Y,rfl⟩,rfl⟩:=f_ (ae 3) (Ej 0) (λw:Row=>D.str w.bag) (aS t rr []) (λpre U S'=>(∃J Y,U=[ar (aF h),aJ c,aJ t.length,J,Y])/\S'=aS t rr (pre.map bI)) (ord h x.rows) ⟨⟨none,none,rfl⟩,rfl⟩ (by
  rintro d w post V U S' ⟨⟨J,Y,rfl⟩,rfl⟩;have dl:=congrArg List.length V;rw[cZ,T] at dl;refine⟨_,_,_,rfl,.inl (e6f sg pm o.nb (o.mem.mp (by rw[V];simp)) (by rw[ba];lia)),⟨_,_,rfl⟩,?_⟩
  simp_all)
 rw[show(ord h x.rows).map (λw=>D.str w.bag)=dS ((ord h x.rows).map Row.bag) by unfold dS;rw[dy];rfl] at e
 refine B ?_;generalize(ord h x.rows).map bI=rl at *;generalize aF h=hd at *;unfold A8;simp only[↓ev,ay,e1,eD,e]
end
section
variable{t rr:List Cell}{h:aA}{x:Hl}{n k c a:Nat}{w:Row}{L:List (Row×Nat)}
theorem VN(g:aH h)(o:Ok h n x)(hw:w∈x.rows):(w.fl=none/\mr x w=none)\/∃f ct cl,w.fl=some f/\mr x w=some (ct,cl)/\ct∈h.carts/\ct≠eH h/\aG (td (·.1) iP (i_ x.book)) (.inr f)=some (.tup [.str ct,.int cl]):=by
 unfold mr;cases hf:w.fl with
 |none=>exact .inl ⟨rfl,rfl⟩
 |some f=>
  have Y:=MS o.bn;cases e:x.book.find? (λp=>p.1 == f) with
  |none=>
   obtain⟨p,hp,ep⟩:=fU.mp ((o.rw w hw).2.2 f hf);exact cQ (An.mp e p hp) (by simp[ep])
  |some p=>
   have e1:p.1=f:=beq_iff_eq.mp (GC (p:=λp:Str×Str×Int=>p.1 == f) e)
   have m:=Ar e;have J:=o.bk p m;refine .inr ⟨f,p.2.1,p.2.2,rfl,by rw[vE,e];rfl,LK J,λz=>?_,?_⟩
   .have cn:=g.cn;unfold eH at z;cases hc:h.carts with
    |nil=>rw[hc] at J;cases J
    |cons c cs=>
     simp_all
   .rw[<-e1];exact gP (k:=λp:Str×Str×Int=>p.1) (v:=iP) ((Y.map _).nodup_iff.mpr o.bn) (Y.mem_iff.mpr m)
noncomputable def Kj(v:ai Int)(now i cl:Int)(ct J:Str):Str:=match v with
 |none=>J
 |some v=>if now+(v - i)<=cl then ct else J
theorem Yd{bag b U ct:Str}{i now cl gn:Int}{f:Str}{V:List (TK×D)}{bl cs:List D}{F I:List (TK×D)}{a3 a5:D}{p:Nat}(st:t[c]?=some (.o (.ao (gK (.int now) (.ao F) a3 (.ref a) a5))))(ins:rr[a]?=some (.o (.ao I)))(hI:aG I (.inr bag)=some (.ref p))(c0:rr[p]?=some (.o (.lst [aN (some f),pl b i,.int gn])))(hF:aG F (.inr f)=some (.tup [.str ct,.int cl]))(J:P0 zf [.d (.tup [.lst bl,.lst cs]),cD ct] (.o (.ao V)))(v:ai Int)(ht:aG V (.inr b)=some (g7 v))(Y:du cs 0=some (.str U)):vY 0 [.d (.tup [.lst bl,.lst cs]),.c c,cD bag] ⟨t,rr⟩=some (.ok (rd (.str (Kj v now i cl ct U))) ⟨t,rr⟩):=by
 unfold aN at c0;unfold vY Kj;cases v with
 |none=>
  unfold g7 at ht;simp only[↓ev,st,gM,ins,hI,ay,c0,Hy,hF,J,ht,Y]
 |some v=>
  unfold g7 at ht;have e:now+v - i=now+(v - i):=by lia
  by_cases hc:now+(v - i)<=cl
  .have hc:=br hc;simp only[↓ev,st,gM,ins,hI,ay,c0,Hy,hF,J,ht,BC,e,hc]
  .have hc:=eq_false hc;simp only[↓ev,st,gM,ins,hI,ay,c0,Hy,hF,J,ht,BC,e,hc,Y]
theorem Ye(g:aH h)(o:Ok h n x)(sg:Sg h x L a k c ⟨t,rr⟩)(pm:(L.map (·.1)).Perm x.rows)(hw:w∈x.rows):vY 0 [.d (aF h),.c c,cD w.bag] ⟨t,rr⟩=some (.ok (rd (.str (eF h x w))) ⟨t,rr⟩):=by
 obtain⟨p,B,rfl,v⟩:=uA pm o.nb hw;have st:=sg.st;have c0:=sg.at_ p B;have ins:=sg.ins;obtain⟨_,V⟩:=zx g;have J:aF h=.tup [.lst (h.af.map au),.lst (dS h.carts)]:=rfl;unfold jF at c0;unfold eF;rcases VN g o hw with⟨e1,e2⟩|⟨f,ct,cl,e1,e2,hc,_,U⟩
 .rw[e1] at c0;rw[e2];unfold aN at c0;rw[J];unfold eH;generalize h.carts.getD 0 ""=T at *;unfold vY;simp only[↓ev,st,gM,ins,v,ay,c0,V]
 .rw[e1] at c0;rw[e2];have Y:=Pw g hc;have ht:=Fm (ax:=ct) g.fwd (o.rw p.1 hw).1.nm;rw[J] at Y;have key:=Yd st ins v c0 U Y _ ht V;rw[<-J] at key;dsimp only;unfold pb;unfold Kj at key;cases hv:atS (aX ct h.af) p.1.b with
  |none=>rw[hv] at key;exact key
  |some u=>
   rw[hv] at key;dsimp only at key ⊢;rw[show(if decide (x.now+(u - p.1.i)<=cl)=true then ct else eH h)=if x.now+(u - p.1.i)<=cl then ct else eH h by simp]
   exact key
end
theorem Nz:∀{l:List av} {bt:av},(l.map av.name).Nodup->bt∈l->(l.filterMap λb=>if(b.name == bt.name)=true then some (au b) else none)=[au bt]
 |c::l,bt,nd,hb=>by
  obtain⟨n1,J⟩:=nW.mp nd;rw[nV];rcases y0c.mp hb with rfl|hb
  .simp_all
  .rw[bq λe=>n1 (by rw[eq_of_beq e];exact l7 hb),Nz J hb]
section
variable{h:aA}{x:Hl}{n:Nat}{w:Row}{bt:av}{ax:Str}
theorem Yf(g:aH h)(hb:bt∈h.af):P0 A6 [.d (aF h),cD bt.name] (rd (au bt)):=by
 intro S;have bl:=g.sm.bl;have e:bF (ae 0) (Hq 0) (Hr 0) (h.af.map au) [none,aY bt.name] S []=some (.ok [au bt] S):=by
  rw[sR (λb=>if(b.name == bt.name)=true then some (au b) else none) h.af (by lia) λb m=>by
   have J:au b=.tup [.str b.name,.int b.long,.bl b.ring,.lst (dS b.outs)]:=rfl;unfold Hq Hr;cases hc:(b.name == bt.name) with
   |true=>exact .inr ⟨rd (au b),_,rfl,by rw[J];simp only[↓ev,ay,hc],rfl,rfl⟩
   |false=>exact .inl ⟨rfl,by rw[J];simp only[↓ev,ay,hc]⟩,Nz (IM g.fwd) hb]
 have Y:aF h=.tup [.lst (h.af.map au),.lst (dS h.carts)]:=rfl;rw[Y];unfold A6;simp only[↓ev,ay,eD,e]
def nD(kn:List (Str×Int)):ai Str->D
 |none=>.aI
 |some o=>.tup [.int ((atS kn o).getD 0),.str o]
theorem e6g{U:List (TK×D)}{g0 g1 a6:ai Val}(hp:(o == ax)=true/\atS kn o=some 0\/(o == ax)=false/\(aG U (.inr o)).getD .aI=g7 (atS kn o)):∃R,yO 0 [g0,g1,aY ax,ar (.ao U),ar (nD kn best),aY o,a6] S=some (.nx [g0,g1,aY ax,ar (.ao U),ar (nD kn (ju kn best o)),aY o,R] S):=by
 cases hv:atS kn o with
 |none=>
  rw[hv] at hp;have V:ju kn best o=best:=by unfold ju;rw[hv]
  rw[V];rcases hp with⟨Y,J⟩|⟨Y,J⟩
  .cases J
  .unfold g7 at J;generalize nD kn best=B at *;refine⟨(ar .aI),?_⟩;unfold yO;simp only[↓ev,ay,Y,J]
 |some P=>
  rw[hv] at hp;have T:nD kn (some o)=.tup [.int P,.str o]:=by show D.tup [.int ((atS kn o).getD 0),.str o]=_;rw[hv];rfl
  refine⟨(bx P),?_⟩;have key:∀{B:D} {b:Bool},(B=.aI/\b=true\/∃u p,B=.tup [.int u,.str p]/\b=decide (P<u))->yO 0 [g0,g1,aY ax,ar (.ao U),ar B,aY o,a6] S=some (.nx [g0,g1,aY ax,ar (.ao U),ar (if b=true then .tup [.int P,.str o] else B),aY o,bx P] S):=λ{B b} I=>by
   unfold yO;rcases I with⟨rfl,rfl⟩|⟨u,p,rfl,rfl⟩
   .rcases hp with⟨Y,J⟩|⟨Y,J⟩
    .cases J;simp only[↓ev,ay,Y]
    .unfold g7 at J;simp only[↓ev,ay,Y,J]
   .by_cases hl:P<u
    .have hl:=br hl;rcases hp with⟨Y,J⟩|⟨Y,J⟩
     .cases J;simp only[↓ev,ay,Y,hl]
     .unfold g7 at J;simp only[↓ev,ay,Y,J,hl]
    .have hl:=eq_false hl;rcases hp with⟨Y,J⟩|⟨Y,J⟩
     .cases J;simp only[↓ev,ay,Y,hl]
     .unfold g7 at J;simp only[↓ev,ay,Y,J,hl]
  cases best with
  |none=>
   have V:ju kn none o=some o:=by unfold ju;rw[hv]
   rw[V,T];exact key (B:=.aI) (.inl ⟨rfl,rfl⟩)
  |some p=>
   have V:ju kn (some p) o=if P<(atS kn p).getD 0 then some o else some p:=by unfold ju;rw[hv]
   have k2:=key (B:=nD kn (some p)) (b:=decide (P<(atS kn p).getD 0)) (.inr ⟨_,_,rfl,rfl⟩);rw[V,k2];by_cases hl:P<(atS kn p).getD 0
   .rw[bJ hl,T,bJ (nh hl)]
   .rw[bq hl,bq (by simpa using hl)]
theorem e6h(g:aH h)(hc:ax∈h.carts)(hb:bt∈h.af){a:Str}(I:gb (aX ax h.af) bt.outs=some a):P0 AN [.d (aF h),.d (au bt),cD ax] (rd (.str a)):=by
 intro S;have B:=Pw g hc;have ho:=EJ g.fwd bt hb;have V:∀o∈bt.outs,(o == ax)=true/\atS (aX ax h.af) o=some 0\/(o == ax)=false/\(aG (dR ax h.af) (.inr o)).getD .aI=g7 (atS (aX ax h.af) o):=λo m=>by
  by_cases e:o=ax
  .subst e;exact .inl ⟨by simp,E3 hc g.fwd⟩
  .refine .inr ⟨by simp[e],?_⟩
   rcases ho o m with z|z
   .rw[Fm g.fwd z];rfl
   .rw[BB (y9 g.fwd o z),Nq g.fwd z e];rfl
 have key:=f_ (U:=[ar (aF h),ar (au bt),aY ax,ar (.ao (dR ax h.af)),ar .aI,none,none]) (ae 5) (yO 0) (λo:Str=>D.str o) S (λpre U S'=>(∃Y J,U=[ar (aF h),ar (au bt),aY ax,ar (.ao (dR ax h.af)),ar (nD (aX ax h.af) (pre.foldl (ju (aX ax h.af)) none)),Y,J])/\S'=S) bt.outs ⟨⟨_,_,rfl⟩,rfl⟩ (by
  rintro d o post T U S' ⟨⟨Y,J,rfl⟩,rfl⟩;obtain⟨Rx,e⟩:=e6g (g0:=(ar (aF h))) (g1:=(ar (au bt))) (a6:=J) (S:=S') (V o (by rw[T];simp))
  refine⟨_,_,_,rfl,.inl e,⟨(aY o),Rx,?_⟩,rfl⟩
  simp_all)
 obtain⟨O,S',e,⟨Y,J,rfl⟩,rfl⟩:=key;rw[show bt.outs.foldl (ju (aX ax h.af)) none=some a from I] at e;have R:au bt=.tup [.str bt.name,.int bt.long,.bl bt.ring,.lst (dS bt.outs)]:=rfl;unfold nD at e;rw[R] at e ⊢;generalize aF h=hd at *;generalize dR ax h.af=q at *;unfold AN;simp only[↓ev,B,ay,eD,e]
end
section
variable{h:aA}{r:Int}{x:Hl}{n:Nat}{w:Row}{bt:av}
theorem Yg{α:Type}{k:α->Str}{v:α->D}{xs:List α}:(td k v xs).map (·.2)=xs.map v:=by
 unfold td;rw[dy];rfl
def yb(L:List Row):List D:=L.map λw=>pl w.b w.i
theorem Yh{L:List (Row×Nat)}{t rr:List Cell}(hl:L.length<=1000)(J:∀p∈L,rr[p.2]?=some (jF p.1)):bF (ae 0) (iw true) (El 1) (L.map λp=>.ref p.2) [none] ⟨t,rr⟩ []=some (.ok (yb (L.map (·.1))) ⟨t,rr⟩):=by
 unfold yb;rw[dy,qk (λp=>pl p.1.b p.1.i) L (by lia) λp m=>⟨rd (pl p.1.b p.1.i),by
  have c0:=J p m;unfold jF at c0;unfold El;simp only[↓ev,c0,ay],rfl⟩]
 rfl
theorem e6i(L:List Row)(b:Str):(yb L).any (λz=>dP z (pl b 0))=r_ L b:=by
 unfold yb r_;rw[List.any_map]
 congr 1
 funext w;exact sY
theorem e8l(L:List Row):(yb L).all (fj 40)=true:=by
 unfold yb;rw[DH];exact jS.mpr λw _=>rfl
theorem Yi(o:Str):(fK h x).contains o=((bG h x).contains o || r_ (ord h x.rows) o):=by
 grind [fK,r_]
structure AD (hd:D) (bl:List D) (cs:List Str) (bn ct o:Str) (bs:List Str) (ln:Int) (rg:Bool) (F:List (TK×D)) (now:Int) (sl:List Str) (L:List (Row×Nat)) (bag:Str) (fl:ai Str) (i gn:Int) (p a k c:Nat) (t rr:List Cell):Prop where
 ed:hd=.tup [.lst bl,.lst (dS cs)]
 st:t[c]?=some (.o (.ao (gK (.int now) (.ao F) (.lst (dS sl)) (.ref a) (.ref k))))
 ins:rr[a]?=some (.o (.ao (inD L)))
 hI:aG (inD L) (.inr bag)=some (.ref p)
 c0:rr[p]?=some (.o (.lst [aN fl,pl bn i,.int gn]))
 hb:P0 A6 [.d hd,cD bn] (rd (.tup [.str bn,.int ln,.bl rg,.lst (dS bs)]))
 hc:vY 0 [.d hd,.c c,cD bag] ⟨t,rr⟩=some (.ok (rd (.str ct)) ⟨t,rr⟩)
 ho:P0 AN [.d hd,.d (.tup [.str bn,.int ln,.bl rg,.lst (dS bs)]),cD ct] (rd (.str o))
 ht:eU (inD L)=true
 hv:(inD L).map (·.2)=L.map λp=>.ref p.2
 hw:bF (ae 0) (iw true) (El 1) (L.map λp=>.ref p.2) [none] ⟨t,rr⟩ []=some (.ok (yb (L.map (·.1))) ⟨t,rr⟩)
section
variable{hd:D}{bl:List D}{cs:List Str}{bn ct o:Str}{bs:List Str}{ln:Int}{rg:Bool}{F:List (TK×D)}{now:Int}{sl:List Str}{L:List (Row×Nat)}{bag:Str}{fl:ai Str}{i gn:Int}{p a k c:Nat}{t rr:List Cell}
theorem Ll(b:AD hd bl cs bn ct o bs ln rg F now sl L bag fl i gn p a k c t rr)(hl:(i+1<ln)=True):qb 0 [.d hd,.c c,aT r,cD bag] ⟨t,rr⟩=some (.ok (rd (pl bn (i+1))) ⟨t,rr⟩):=by
 obtain⟨ed,st,ins,hI,c0,hb,hc,ho,ht,hv,hw⟩:=b;generalize aN fl=J at *;unfold qb A9 zg;simp only[↓ev,st,gM,ins,hI,ay,c0,hb,hl]
theorem Ln(b:AD hd bl cs bn ct o bs ln true F now sl L bag none i gn p a k c t rr)(hl:(i+1<ln)=False)(J:(gn<r)=True):qb 0 [.d hd,.c c,aT r,cD bag] ⟨t,rr⟩=some (.ok (rd (pl bn 0)) ⟨t,rr⟩):=by
 obtain⟨ed,st,ins,hI,c0,hb,hc,ho,ht,hv,hw⟩:=b;unfold aN at c0;unfold qb A9 zg;simp only[↓ev,st,gM,ins,hI,ay,c0,hb,hl,hc,ho,J]
def F2(cs:List Str)(rg:Bool)(J:Bool)(bn a:Str):D:=if cs.contains a=true then .str a else if(rg&&J)=true then pl bn 0 else pl a 0
abbrev Gi(hd:D)(c:Nat)(r:Int)(bag bn o:Str)(bs:List Str)(ln:Int)(rg:Bool)(p:Nat):Gm:=[ar hd,aJ c,bx r,aY bag,some (.d (.ref p)),ar (.tup [.str bn,.int ln,.bl rg,.lst (dS bs)]),aY o,none]
theorem e6j(b:AD hd bl cs bn ct o bs ln rg F now sl L bag fl i gn p a k c t rr)(hl:(i+1<ln)=False)(Y:rg=false\/(∃f,fl=some f)\/fl=none/\(gn<r)=False)(J:GS):zg J 0 [ar hd,aJ c,bx r,aY bag,none,none,none,none] ⟨t,rr⟩=J (Gi hd c r bag bn o bs ln rg p) ⟨t,rr⟩:=by
 obtain⟨ed,st,ins,hI,c0,hb,hc,ho,ht,hv,hw⟩:=b;unfold zg;rcases Y with rfl|⟨f,rfl⟩|⟨rfl,hg⟩
 .generalize aN fl=V at *;simp only[↓ev,st,gM,ins,hI,ay,c0,hb,hl,hc,ho]
 .unfold aN at c0;cases rg <;> simp only[↓ev,st,gM,ins,hI,ay,c0,hb,hl,hc,ho]
 .unfold aN at c0;cases rg <;> simp only[↓ev,st,gM,ins,hI,ay,c0,hb,hl,hc,ho,hg]
theorem e6k(pre:∀J:GS,zg J 0 [ar hd,aJ c,bx r,aY bag,none,none,none,none] S=J (Gi hd c r bag bn o bs ln rg p) S)(e:EB 0 (Gi hd c r bag bn o bs ln rg p) S=some (.rt (rd y) S)):qb 0 [.d hd,.c c,aT r,cD bag] S=some (.ok (rd y) S):=by
 have e2:A9 0 [ar hd,aJ c,bx r,aY bag,none,none,none,none] S=some (.rt (rd y) S):=(pre (EB 0)).trans e;unfold qb aV;generalize A9 0=ml at *;simp only[↓ev,e2,ay]
theorem Lo(b:AD hd bl cs bn ct o bs ln rg F now sl L bag fl i gn p a k c t rr)(hl:(i+1<ln)=False)(T:rg=false\/(∃f,fl=some f)\/fl=none/\(gn<r)=False):qb 0 [.d hd,.c c,aT r,cD bag] ⟨t,rr⟩=some (.ok (rd (F2 cs rg (sl.contains o || r_ (L.map (·.1)) o) bn o)) ⟨t,rr⟩):=by
 refine e6k (λJ=>e6j b hl T J) ?_
 obtain⟨ed,st,ins,hI,c0,hb,hc,ho,ht,hv,hw⟩:=b;subst ed;have U:=e6i (L.map (·.1)) o
 have R:=e8l (L.map (·.1))
 unfold F2 EB Gi;cases Y:cs.contains o with
 |true=>simp only[↓ev,ay,d_,eM,Y]
 |false=>
  cases rg with
  |false=>simp only[↓ev,ay,d_,eM,Y,st,gM,ins,ht,hv,pD,hw]
  |true=>
   cases V:sl.contains o with
   |true=>simp only[↓ev,ay,d_,GK,eM,Y,st,gM,ins,ht,hv,pD,hw,rL,V]
   |false=>
    cases B:r_ (L.map (·.1)) o <;> rw[B] at U <;> simp only[↓ev,ay,d_,GK,eM,Y,st,gM,ins,ht,hv,pD,hw,rL,V,R,U]
end
theorem Yj(g:aH h)(o:Ok h n x){L:List (Row×Nat)}{a k c:Nat}{t rr:List Cell}(sg:Sg h x L a k c ⟨t,rr⟩)(V:L.map (·.1)=ord h x.rows)(hw:w∈x.rows):qb 0 [.d (aF h),.c c,aT r,cD w.bag] ⟨t,rr⟩=some (.ok (rd (gD (ah h r x w))) ⟨t,rr⟩):=by
 refine kY λkz=>?_
 obtain⟨bt,hb,Y,_⟩:=(o.rw w hw).1;obtain⟨u,T,_⟩:=Fl g o hw hb Y;have D:=(Im g o hw).1;have rl:=o.rl;have lp:=congrArg List.length V;rw[o.perm.length_eq,ba] at lp;have pm:(L.map (·.1)).Perm x.rows:=by rw[V];exact o.perm
 obtain⟨p,mp,rfl,v⟩:=uA pm o.nb hw;have c0:=sg.at_ p mp;unfold jF at c0;rw[<-Y] at c0;have B:AD (aF h) (h.af.map au) h.carts bt.name (eF h x p.1) u bt.outs bt.long bt.ring (td (·.1) iP (i_ x.book)) x.now (bG h x) L p.1.bag p.1.fl p.1.i p.1.gn p.2 a k c t rr:=⟨rfl,sg.st,sg.ins,v,c0,Yf g hb,Ye g o sg pm hw,e6h g D hb T,sM,Yg,Yh (by lia) sg.at_⟩
 have I:ah h r x p.1=iT h r x p.1 bt:=by
  unfold ah;rw[<-Y,za g hb]
 refine kz ?_;rw[I];unfold iT;by_cases hl:p.1.i+1<bt.long
 .rw[bJ hl];exact Ll B (br hl)
 .rw[bq hl];by_cases J:bt.ring=true/\p.1.fl=none/\p.1.gn<r
  .rw[bJ J];obtain⟨O,q,m⟩:=J;rw[O,q] at B;exact Ln B (eq_false hl) (br m)
  .rw[bq J,T];have key:=Lo (r:=r) B (eq_false hl) (by
    cases U:bt.ring with
    |false=>exact .inl rfl
    |true=>
     cases R:p.1.fl with
     |some f=>exact .inr (.inl ⟨f,rfl⟩)
     |none=>exact .inr (.inr ⟨rfl,eq_false λz=>J ⟨U,R,z⟩⟩))
   rw[V,<-Yi] at key;have e2:gD (mG h x bt ((some u).getD ""))=F2 h.carts bt.ring ((fK h x).contains u) bt.name u:=by
    show gD (mG h x bt u)=_;unfold mG F2;split
    .rfl
    .split <;> rfl
   rw[e2];exact key
end
section
variable{t rr s:List Cell}{h:aA}{x:Hl}{n k c a m j pt:Nat}{w z:Row}{L:List (Row×Nat)}{M:List Row}{hd V F B:D}{bag ob o Q:Str}{i J jj gn:Int}{G:Row->Goal}{st:List Str}{aO:List Str}{Y W:List (TK×D)}{a4 a7:ai Val}
theorem P4(R:∀l,(t++l)[c]?=some (.o (.ao (gK B F (.lst (dS st)) (.ref a) (.ref k)))))(hm:∀l,(t++l)[m]?=some (.o (.ao W)))(ins:rr[a]?=some (.o (.ao Y)))(hI:aG Y (.inr ob)=some (.ref pt))(c0:rr[pt]?=some (.o (.lst [V,pl Q J,.int gn])))(hz:aG W (.inr ob)=some hd)(D:∀S:aU,iG S (.d hd)=some hd)(ok:fj 40 hd=true)(hw:aG W (.inr bag)=some (pl o jj))(U:dP hd (pl o jj)=false\/dP hd (pl o jj)=true/\st.contains Q=true){g0:ai Val}:rF 0 [g0,aJ c,aJ m,aY bag,a4,aJ (t.length+j),aY ob,a7] ⟨t++s,rr⟩=some (.nx [g0,aJ c,aJ m,aY bag,a4,aJ (t.length+j),aY ob,ar (pl Q J)] ⟨t++s,rr⟩):=by
 unfold rF;rcases U with U|⟨U,h2⟩
 .simp only[↓ev,R,gM,ins,hI,c0,ay,hm,hz,hw,D,ok,m_,U]
 .simp only[↓ev,R,gM,ins,hI,c0,ay,hm,hz,hw,D,ok,m_,U,rL,d_,eM,h2]
theorem e6m(I:∀l,(t++l)[c]?=some (.o (.ao (gK B F (.lst (dS st)) (.ref a) (.ref k)))))(hm:∀l,(t++l)[m]?=some (.o (.ao W)))(ins:rr[a]?=some (.o (.ao Y)))(hI:aG Y (.inr ob)=some (.ref pt))(c0:rr[pt]?=some (.o (.lst [V,pl Q J,.int gn])))(hz:aG W (.inr ob)=some hd)(q:∀S:aU,iG S (.d hd)=some hd)(ok:fj 40 hd=true)(hw:aG W (.inr bag)=some (pl o jj))(D:dP hd (pl o jj)=true)(R:st.contains Q=false)(U:s[j]?=some (.o (.lst (dS aO))))(hl:aO.length<1000){g0:ai Val}:∃O s',rF 0 [g0,aJ c,aJ m,aY bag,a4,aJ (t.length+j),aY ob,a7] ⟨t++s,rr⟩=some (.nx [g0,aJ c,aJ m,aY bag,a4,aJ (t.length+O),aY ob,ar (pl Q J)] ⟨t++s',rr⟩)/\s'[O]?=some (.o (.lst (dS (if Q=o then ob::(aO++[ob]) else aO++[ob])))):=by
 have l1:((dS aO).length<1000000)=True:=br (by unfold dS;rw[ba];lia)
 have l3:(1+((dS aO).length+1)<=1000000)=True:=br (by unfold dS;rw[ba];lia)
 have l2:∀v,(s.set j v)[j]?=some v:=λv=>oV (dX.mp U).1
 by_cases e:Q=o
 .refine⟨s.length,s.set j (.o (.lst (dS (aO++[ob]))))++[.o (.lst (dS (ob::(aO++[ob]))))],?_,by rw[bJ e,oW (by simp)];simp⟩
  have e:=beq_iff_eq.mpr e;unfold dS at *;rw[cS,eC];unfold rF;simp only[↓ev,I,gM,ins,hI,c0,ay,hm,hz,hw,q,ok,m_,D,rL,d_,eM,R,U,l1,e,l2,l3,rj];rfl
 .refine⟨j,s.set j (.o (.lst (dS (aO++[ob])))),?_,by rw[bq e];exact l2 _⟩
  have e:=oY.mpr e;unfold dS at *;rw[eC];unfold rF;simp only[↓ev,I,gM,ins,hI,c0,ay,hm,hz,hw,q,ok,m_,D,rL,d_,eM,R,U,l1,e]
theorem e8m{y:Goal}:dP (gD y) (pl o jj)=decide (y=(o,some jj)):=by
 obtain⟨u,_|v⟩:=y
 .exact(pS λz=>by cases z).symm
 grind [gD,sY]
theorem uB{y:Goal}:(∀S:aU,iG S (.d (gD y))=some (gD y))/\fj 40 (gD y)=true:=by
 obtain⟨u,_|v⟩:=y <;> exact⟨λ_=>rfl,rfl⟩
noncomputable def sel(st:List Str)(G:Row->Goal)(w z:Row):Bool:=decide (G z=G w) && !st.contains z.b
def l5(st:List Str)(G:Row->Goal)(w:Row)(aO:List Str)(z:Row):List Str:=if sel st G w z=true then if z.b=(G w).1 then z.bag::(aO++[z.bag]) else aO++[z.bag] else aO
theorem Yk(sg:Sg h x L a k c ⟨t,rr⟩)(pm:(L.map (·.1)).Perm x.rows)(nb:(x.rows.map Row.bag).Nodup)(I:M.Perm x.rows)(hm:t[m]?=some (.o (.ao (cq G M))))(hw:w∈x.rows)(ew:G w=(o,some jj))(hz:z∈x.rows)(O:s[j]?=some (.o (.lst (dS aO))))(hl:aO.length<1000):∃R s' zo,rF 0 [ar hd,aJ c,aJ m,aY w.bag,a4,aJ (t.length+j),aY z.bag,a7] ⟨t++s,rr⟩=some (.nx [ar hd,aJ c,aJ m,aY w.bag,a4,aJ (t.length+R),aY z.bag,zo] ⟨t++s',rr⟩)/\s'[R]?=some (.o (.lst (dS (l5 (bG h x) G w aO z)))):=by
 obtain⟨p,mp,rfl,v⟩:=uA pm nb hz;have c0:=sg.at_ p mp;have st:=λl=>(sg.up l).st
 have d:∀l,(t++l)[m]?=some (.o (.ao (cq G M))):=λl=>by
  rw[nX (dX.mp hm).1];exact hm
 have nd:(M.map Row.bag).Nodup:=(I.map _).nodup_iff.mpr nb;have q:aG (cq G M) (.inr p.1.bag)=some (gD (G p.1)):=gP (v:=λw=>gD (G w)) nd (I.mem_iff.mpr hz)
 have D:aG (cq G M) (.inr w.bag)=some (gD (G w)):=gP (v:=λw=>gD (G w)) nd (I.mem_iff.mpr hw)
 rw[ew] at D;have U:=e8m (o:=o) (jj:=jj) (y:=G p.1);unfold l5 sel;rw[ew];cases h1:decide (G p.1=(o,some jj)) with
 |false=>
  rw[h1] at U;exact⟨j,s,_,P4 st d sg.ins v c0 q uB.1 uB.2 D (.inl U),O⟩
 |true=>
  rw[h1] at U;cases h2:(bG h x).contains p.1.b with
  |true=>exact⟨j,s,_,P4 st d sg.ins v c0 q uB.1 uB.2 D (.inr ⟨U,h2⟩),O⟩
  |false=>
   obtain⟨R,s',e1,e2⟩:=e6m (a4:=a4) (a7:=a7) (g0:=ar hd) st d sg.ins v c0 q uB.1 uB.2 D U h2 O hl;exact⟨R,s',_,e1,e2⟩
theorem Yl{d:List Row}:(d.foldl (l5 st G w) []).length<=2*d.length:=by
 have key:∀(d:List Row) (aO:List Str),(d.foldl (l5 st G w) aO).length<=aO.length+2*d.length:=λd=>by
  induction d with
  |nil=>simp
  |cons z d U=>
   grind [l5]
 simpa using key d []
theorem Ym(sg:Sg h x L a k c ⟨t,rr⟩)(pm:(L.map (·.1)).Perm x.rows)(nb:(x.rows.map Row.bag).Nodup)(I:M.Perm x.rows)(Jz:M.length<100)(hm:t[m]?=some (.o (.ao (cq G M))))(hw:w∈x.rows)(O:G w=(o,some jj)):∃j s a6 a7,aM (ae 6) (rF 0) (dS (M.map Row.bag)) [ar hd,aJ c,aJ m,aY w.bag,a4,aJ t.length,none,none] ⟨t++[.o (.lst [])],rr⟩=some (.nx [ar hd,aJ c,aJ m,aY w.bag,a4,aJ (t.length+j),a6,a7] ⟨t++s,rr⟩)/\s[j]?=some (.o (.lst (dS (M.foldl (l5 (bG h x) G w) [])))):=by
 rw[show dS (M.map Row.bag)=M.map λw=>.str w.bag by unfold dS;rw[dy];rfl]
 refine kY λkz=>?_
 obtain⟨U',S',e,j,s,a6,a7,rfl,rfl,e2⟩:=f_ (U:=[ar hd,aJ c,aJ m,aY w.bag,a4,aJ t.length,none,none]) (ae 6) (rF 0) (λw:Row=>D.str w.bag) ⟨t++[.o (.lst [])],rr⟩ (λpre U S'=>∃j s a6 a7,U=[ar hd,aJ c,aJ m,aY w.bag,a4,aJ (t.length+j),a6,a7]/\S'=⟨t++s,rr⟩/\s[j]?=some (.o (.lst (dS (pre.foldl (l5 (bG h x) G w) []))))) M ⟨0,_,_,_,rfl,rfl,rfl⟩ (by
  rintro d z post R U S' ⟨j,s,a6,a7,rfl,rfl,q⟩;have dl:=congrArg List.length R;rw[cZ,jR] at dl;obtain⟨j',s',zo,e1,e2⟩:=Yk (hd:=hd) (a4:=a4) (a7:=a7) sg pm nb I hm hw O (I.mem_iff.mp (show z∈M by rw[R];simp)) q (by have:=Yl (st:=bG h x) (G:=G) (w:=w) (d:=d);lia)
  refine⟨_,_,_,rfl,.inl e1,j',s',_,_,rfl,rfl,?_⟩
  simp_all)
 refine kz ?_;exact⟨j,s,a6,a7,e,e2⟩
end
variable{J W:List (TK×D)}{N F g1 gn:D}{b:Str}
theorem wu:∀cs:List Str,((dS cs).any λz=>dP z (pl o j))=false
 |[]=>rfl
 |_::cs=>wu cs
section
variable{t rr s:List Cell}{h:aA}{x:Hl}{n k c a m j pt:Nat}{w z:Row}{L:List (Row×Nat)}{hd:D}{bag o f:Str}{i jj:Int}{G:Row->Goal}{st:List Str}{fs:List Str}{a6 a7:ai Val}{bl:List D}{cs:List Str}
theorem JI(V:t[c]?=some (.o (.ao (gK N F (.lst (dS st)) (.ref a) (.ref k)))))(hm:t[m]?=some (.o (.ao W)))(ins:rr[a]?=some (.o (.ao J)))(hI:aG J (.inr bag)=some (.ref pt))(c0:rr[pt]?=some (.o (.lst [g1,pl b i,gn])))(Y:st.contains b=true):mT 0 [.d hd,.c c,.c m,cD bag] ⟨t,rr⟩=some (.ok (rd (.tup [.str "stopped",.str b])) ⟨t,rr⟩):=by
 unfold mT;simp only[↓ev,V,gM,ins,hI,c0,ay,rL,d_,eM,Y]
theorem JJ(U:t[c]?=some (.o (.ao (gK N F (.lst (dS st)) (.ref a) (.ref k)))))(hm:t[m]?=some (.o (.ao W)))(ins:rr[a]?=some (.o (.ao J)))(hI:aG J (.inr bag)=some (.ref pt))(c0:rr[pt]?=some (.o (.lst [g1,pl b i,gn])))(Y:st.contains b=false)(hw:aG W (.inr bag)=some (.str o))(V:cs.contains o=true):mT 0 [.d (.tup [.lst bl,.lst (dS cs)]),.c c,.c m,cD bag] ⟨t,rr⟩=some (.ok (rd .aI) ⟨t,rr⟩):=by
 unfold mT;simp only[↓ev,U,gM,ins,hI,c0,ay,rL,d_,eM,Y,hm,hw,V]
theorem JK(U:t[c]?=some (.o (.ao (gK N F (.lst (dS st)) (.ref a) (.ref k)))))(hm:t[m]?=some (.o (.ao W)))(ins:rr[a]?=some (.o (.ao J)))(hI:aG J (.inr bag)=some (.ref pt))(c0:rr[pt]?=some (.o (.lst [g1,pl b i,gn])))(Y:st.contains b=false)(hw:aG W (.inr bag)=some (pl o jj))(V:st.contains o=true):mT 0 [.d (.tup [.lst bl,.lst (dS cs)]),.c c,.c m,cD bag] ⟨t,rr⟩=some (.ok (rd (.tup [.str "stopped",.str o])) ⟨t,rr⟩):=by
 unfold mT;simp only[↓ev,U,gM,ins,hI,c0,ay,rL,d_,eM,Y,hm,hw,m_,wu,V]
theorem JL{bg:List D}(R:t[c]?=some (.o (.ao (gK N F (.lst (dS st)) (.ref a) (.ref k)))))(hm:t[m]?=some (.o (.ao W)))(ins:rr[a]?=some (.o (.ao J)))(hI:aG J (.inr bag)=some (.ref pt))(c0:rr[pt]?=some (.o (.lst [g1,pl b i,gn])))(B:st.contains b=false)(hw:aG W (.inr bag)=some (pl o jj))(T:st.contains o=false)
  (e1:v8 0 [.d (.tup [.lst bl,.lst (dS cs)]),.c c] ⟨t++[.o (.lst [])],rr⟩=some (.ok (.o (.lst bg)) ⟨t++[.o (.lst [])],rr⟩))
  (e2:aM (ae 6) (rF 0) bg [ar (.tup [.lst bl,.lst (dS cs)]),aJ c,aJ m,aY bag,ar (pl b i),aJ t.length,none,none] ⟨t++[.o (.lst [])],rr⟩=some (.nx [ar (.tup [.lst bl,.lst (dS cs)]),aJ c,aJ m,aY bag,ar (pl b i),aJ (t.length+j),a6,a7] ⟨t++s,rr⟩)) (V:s[j]?=some (.o (.lst (dS (f::fs))))):mT 0 [.d (.tup [.lst bl,.lst (dS cs)]),.c c,.c m,cD bag] ⟨t,rr⟩=some (.ok (rd (if f=bag then .aI else .tup [.str "yields",.str f])) ⟨t,rr⟩):=by
 unfold mT;unfold dS at V;rw[cS] at V;by_cases Y:f=bag
 .have U:=beq_iff_eq.mpr Y;rw[bJ Y];simp only[↓ev,R,gM,ins,hI,c0,ay,rL,d_,eM,B,hm,hw,m_,wu,T,e1,eD,e2,V,U]
 .have U:=oY.mpr Y;rw[bq Y];simp only[↓ev,R,gM,ins,hI,c0,ay,rL,d_,eM,B,hm,hw,m_,wu,T,e1,eD,e2,V,U]
end
def pG(st:List Str)(G:Row->Goal)(M:List Row)(w:Row):ai D:=match cY st G w with
 |some d=>some d
 |none=>match(G w).2 with
  |none=>none
  |some _=>match(M.foldl (l5 st G w) []).head? with
   |none=>none
   |some f=>if f=w.bag then none else some (.tup [.str "yields",.str f])
section
variable{st:List Str}{G:Row->Goal}{M:List Row}{w z:Row}{o:Str}{jj:Int}
theorem mR:cY st G z=none↔st.contains z.b=false/\((G z).2=none\/st.contains (G z).1=false):=by
 unfold cY
 grind
theorem MT(nd:(M.map Row.bag).Nodup)(hz:z∈M):z.bag∈(bQ st G M).map (·.1)↔cY st G z≠none:=by
 unfold bQ;constructor
 .intro m;obtain⟨p,Y,e⟩:=fU.mp m;obtain⟨u,mu,e2⟩:=ue.mp Y;obtain⟨y,V,rfl⟩:=c_.mp e2
  grind [mY]
 .intro n;obtain⟨y,e⟩:=LQ.mp n
  grind
theorem VO(nd:(M.map Row.bag).Nodup)(U:G w=(o,some jj))(I:st.contains o=false):∀{d:List Row},(∀z∈d,z∈M)->look ((ask G (bQ st G M) d).foldl (mZ G) []) (gk G w)=(d.foldl (l5 st G w) []).head?:=by
 intro d
 suffices key:∀(d:List Row) (C:List (bA×Str)) (aO:List Str),(∀z∈d,z∈M)->look C (gk G w)=aO.head?->look ((ask G (bQ st G M) d).foldl (mZ G) C) (gk G w)=(d.foldl (l5 st G w) aO).head? from λhd=>key d [] [] hd rfl
 intro d
 induction d with
 |nil=>exact λC aO _ e=>e
 |cons z d V=>
  intro C aO hd e;have hz:=hd z (.head _);have t:=MT (st:=st) (G:=G) nd hz;have sn:=mR (st:=st) (G:=G) (z:=z);have V:=λC aO=>V C aO λu m=>hd u (.tail _ m)
  have D:gk G w=(o,jj):=by unfold gk;rw[U];rfl
  have hc:(!((bQ st G M).map (·.1)).contains z.bag&&(G z).2.isSome)=true↔cY st G z=none/\(G z).2.isSome=true:=by
   rw[vD,Gy,<-Bool.not_eq_true,kE,t];exact and_congr_left λ_=>Decidable.not_not
  rw[yE];unfold ask at *;rw[yx];cases Y:sel st G w z with
  |true=>
   obtain⟨e1,B⟩:=vD.mp Y;have e1:=pT e1;have B:st.contains z.b=false:=by simpa using B
   rw[bJ (hc.mpr ⟨sn.mpr ⟨B,.inr (by rw[e1,U];exact I)⟩,by rw[e1,U];rfl⟩),yE]
   refine V _ _ ?_;have T:gk G z=gk G w:=by unfold gk;rw[e1]
   have g1:(gk G w).1=(G w).1:=rfl;unfold mZ l5;rw[Y,T,e,bJ rfl,g1];by_cases hb:z.b=(G w).1
   .grind [Bd]
   .rw[bq hb];cases aO with
    |nil=>rw[bJ (.inl rfl),Bd,bJ rfl];rfl
    |cons u us=>rw[bq (λq=>by rcases q with q|q;exact nomatch q;exact hb q),e];rfl
  |false=>
   rw[show l5 st G w aO z=aO by unfold l5;rw[Y];rfl]
   split
   .rename_i q
    obtain⟨O,q2⟩:=hc.mp q;rw[yE];refine V _ _ ?_;have ne:gk G z≠gk G w:=λR=>by
     rw[D] at R;unfold gk at R;unfold sel at Y;rw[U] at Y;have:=sn.mp O;generalize G z=T at *;obtain⟨u,_|v⟩:=T
     all_goals simp_all
    grind [mZ,Bd]
   .exact V _ _ e
theorem e8n:∀{d:List Row} {aO:List Str},aO≠[]\/(∃z∈d,sel st G w z=true)->d.foldl (l5 st G w) aO≠[]:=by
 intro d
 induction d with
 |nil=>intro aO h;rcases h with h|⟨_,m,_⟩;exact h;cases m
 |cons z d Y=>
  intro aO h;rw[yE];refine Y ?_;have:∀l:List Str,l++[z.bag]≠[]:=by simp
  unfold l5
  grind
end
structure Sw (h:aA) (r:Int) (x:Hl) (L:List (Row×Nat)) (a k c m:Nat) (S:aU):Prop where
 sg:Sg h x L a k c S
 wt:S.s[m]?=some (.o (.ao (cq (ah h r x) (ord h x.rows))))
abbrev nK(h:aA)(r:Int)(x:Hl)(w:Row):ai D:=pG (bG h x) (ah h r x) (ord h x.rows) w
section
variable{t rr:List Cell}{h:aA}{r:Int}{x:Hl}{n k c a m:Nat}{w z:Row}{L:List (Row×Nat)}{Q:D}{G:Row->Goal}{b:Str}
theorem Sw.up(s:Sw h r x L a k c m ⟨t,rr⟩)(l:List Cell):Sw h r x L a k c m ⟨t++l,rr⟩:=⟨s.sg.up l,by
 rw[nX (dX.mp s.wt).1];exact s.wt⟩
theorem Px(g:aH h)(sl:∀b∈h.af,0<=b.long/\b.long<=1000)(o:Ok h n x)(s:Sw h r x L a k c m ⟨t,rr⟩)(pm:(L.map (·.1)).Perm x.rows)(hw:w∈x.rows):mT 0 [.d (aF h),.c c,.c m,cD w.bag] ⟨t,rr⟩=some (.ok (rd ((nK h r x w).getD .aI)) ⟨t,rr⟩):=by
 obtain⟨p,I,rfl,v⟩:=uA pm o.nb hw;have c0:=s.sg.at_ p I;unfold jF at c0;have st:=s.sg.st;have nd:((ord h x.rows).map Row.bag).Nodup:=(o.perm.map _).nodup_iff.mpr o.nb;have U:aG (cq (ah h r x) (ord h x.rows)) (.inr p.1.bag)=some (gD (ah h r x p.1)):=gP (v:=λw=>gD (ah h r x w)) nd (o.mem.mpr hw)
 have B:aF h=.tup [.lst (h.af.map au),.lst (dS h.carts)]:=rfl;have gk:=(Io g o hw (r:=r)).1;have rl:=o.rl;have O:=o.perm.length_eq;unfold nK pG;cases Y:(bG h x).contains p.1.b with
 |true=>
  rw[show cY (bG h x) (ah h r x) p.1=_ from bJ Y];exact JI st s.wt s.sg.ins v c0 Y
 |false=>
  rw[show cY (bG h x) (ah h r x) p.1=_ from bq (by rw[Y];decide)]
  cases T:ah h r x p.1 with
  |mk u j=>
   rw[T] at U gk;cases j with
   |none=>
    rw[B];exact JJ st s.wt s.sg.ins v c0 Y U (kE.mpr (gk rfl))
   |some jj=>
    cases V:(bG h x).contains u with
    |true=>
     rw[B];have e:=JK (cs:=h.carts) (bl:=h.af.map au) st s.wt s.sg.ins v c0 Y U V;simp only[V,n4];exact e
    |false=>
     have e1:=IP g sl o (s.sg.up [.o (.lst [])]) pm;refine kY λD=>?_
     obtain⟨j,s',a6,a7,e2,R⟩:=Ym (hd:=aF h) (a4:=ar (pl p.1.b p.1.i)) s.sg pm o.nb o.perm (by lia) s.wt hw T
     have ne:(ord h x.rows).foldl (l5 (bG h x) (ah h r x) p.1) []≠[]:=e8n (.inr ⟨p.1,o.mem.mpr hw,by unfold sel;rw[Y];simp⟩)
     refine D ?_;cases hf:(ord h x.rows).foldl (l5 (bG h x) (ah h r x) p.1) [] with
     |nil=>exact cQ hf ne
     |cons f fs=>
      rw[hf] at R;rw[B] at e1 e2 ⊢;have e:=JL st s.wt s.sg.ins v c0 Y U V e1 e2 R;rw[e];simp only[V];by_cases q:f=p.1.bag <;> simp[q]
theorem e8o{V d2 N U g1 gn:D}{p:Nat}{Y:Str}{i:Int}{bg:Str}{v:Bool}(B:t[c]?=some (.o (.ao (gK V d2 N (.ref a) U))))(ins:rr[a]?=some (.o (.ao J)))(hI:aG J (.inr bg)=some (.ref p))(c0:rr[p]?=some (.o (.lst [g1,pl Y i,gn])))(T:∀S:aU,iG S (.d Q)=some Q)(ok:fj 40 Q=true)(e:dP (pl Y i) Q=v):yQ 1 [aJ c,ar Q,aY bg] ⟨t,rr⟩=some (if v=true then .rt (rd (.str bg)) ⟨t,rr⟩ else .nx [aJ c,ar Q,aY bg] ⟨t,rr⟩):=by
 unfold yQ;cases v <;> simp only[↓ev,B,gM,ins,hI,c0,ay,T,m_,ok,e]
theorem Yn{y:bA}{d:List Row}:look (ia d) y=(d.find? λz=>dP (pl z.b z.i) (pl y.1 y.2)).map Row.bag:=by
 unfold look ia;rw[List.find?_map,Option.map_map];exact congrArg (λf=>(List.find? f d).map Row.bag) (funext λz=>by
  grind [sY])
theorem E7{d:List Row}:hold G d w=(d.find? λz=>dP (pl z.b z.i) (gD (G w))).map Row.bag:=by
 unfold hold;generalize G w=y;obtain⟨u,_|v⟩:=y
 .exact(Option.map_eq_none_iff.mpr (An.mpr λz _=>by show ¬false=true;decide)).symm
 .exact Yn
theorem Ir(o:Ok h n x)(sg:Sg h x L a k c ⟨t,rr⟩)(B:L.map (·.1)=ord h x.rows){y:Goal}:p7 0 [.c c,.d (gD y)] ⟨t,rr⟩=some (.ok (rd (aN (((ord h x.rows).find? λz=>dP (pl z.b z.i) (gD y)).map Row.bag))) ⟨t,rr⟩):=by
 have rl:=o.rl;have O:=o.perm.length_eq;have pm:(L.map (·.1)).Perm x.rows:=by rw[B];exact o.perm
 have ks:(inD L).map (·.1.d)=(ord h x.rows).map λw=>.str w.bag:=by rw[Oz,B];unfold dS;rw[dy];rfl
 have one:∀z∈x.rows,∀v,dP (pl z.b z.i) (gD y)=v->yQ 1 [aJ c,ar (gD y),aY z.bag] ⟨t,rr⟩=some (if v=true then .rt (rd (.str z.bag)) ⟨t,rr⟩ else .nx [aJ c,ar (gD y),aY z.bag] ⟨t,rr⟩):=λz hz v e=>by
  obtain⟨p,R,rfl,hI⟩:=uA pm o.nb hz;have c0:=sg.at_ p R;exact e8o sg.st sg.ins hI c0 uB.1 uB.2 e
 have st:=sg.st;have ins:=sg.ins;cases hf:(ord h x.rows).find? λz=>dP (pl z.b z.i) (gD y) with
 |none=>
  obtain⟨I,S',e,⟨a2,rfl⟩,rfl⟩:=f_ (ae 2) (yQ 1) (λw:Row=>D.str w.bag) ⟨t,rr⟩ (λpre U S'=>(∃a2,U=[aJ c,ar (gD y),a2])/\S'=⟨t,rr⟩) (ord h x.rows) ⟨⟨none,rfl⟩,rfl⟩ (by
   rintro d z post Y U S' ⟨⟨a2,rfl⟩,rfl⟩;have V:z∈ord h x.rows:=by rw[Y];simp
   have e:=one z (o.mem.mp V) false (by simpa using An.mp hf z V)
   exact⟨_,_,_,rfl,.inl e,⟨_,rfl⟩,rfl⟩)
  rw[<-ks] at e;generalize gD y=Q at *;unfold p7;simp only[↓ev,st,gM,ins,pD,e,ay,aN]
 |some w=>
  obtain⟨T,d,post,Y,hd⟩:=List.find?_eq_some_iff_append.mp hf;have V:w∈ord h x.rows:=by rw[Y];simp
  have e:=Ik (gg:=ae 2) (body:=yQ 1) (f:=λw:Row=>D.str w.bag) (rv:=rd (.str w.bag)) (S':=⟨t,rr⟩) (λpre U S'=>(∃a2,U=[aJ c,ar (gD y),a2])/\S'=⟨t,rr⟩) (x:=w) (r:=post) d [] [aJ c,ar (gD y),none] ⟨t,rr⟩ ⟨⟨_,rfl⟩,rfl⟩ (by
   rintro d' z r' e2 U S' ⟨⟨a2,rfl⟩,rfl⟩;have Qx:z∈d:=by rw[Ap] at e2;rw[e2];simp
   have e:=one z (o.mem.mp (by rw[Y];simp[Qx])) false (by simpa using hd z Qx)
   exact⟨_,_,_,rfl,.inl e,⟨_,rfl⟩,rfl⟩) (by
   rintro U S' ⟨⟨a2,rfl⟩,rfl⟩;exact⟨_,rfl,one w (o.mem.mp V) true T⟩)
  rw[<-Y,<-ks] at e;generalize gD y=Q at *;unfold p7;simp only[↓ev,st,gM,ins,pD,e,ay,aN]
end
section
variable{F:Row->ai (Str×D)}{st:List Str}{G:Row->Goal}{M:List Row}{w z:Row}{W X:List (Str×D)}
theorem OA(hF:∀z p,F z=some p->p.1=z.bag):∀{L:List Row},b∉L.map Row.bag->(L.filterMap F).find? (λp=>p.1 == b)=none:=λ{L} h=>An.mpr λp m=>by
 grind
theorem Iu(hF:∀z p,F z=some p->p.1=z.bag):∀{L:List Row},(L.map Row.bag).Nodup->w∈L->(L.filterMap F).find? (λp=>p.1 == w.bag)=F w
 |z::L,nd,hw=>by
  obtain⟨n1,Y⟩:=nW.mp nd;rw[nV];rcases y0c.mp hw with rfl|hw
  .cases e:F w with
   |none=>exact OA hF n1
   |some p=>exact List.find?_cons_of_pos (by rw[hF w p e];simp)
  .have V:=Iu hF Y hw
   grind
theorem e6n(nd:(M.map Row.bag).Nodup)(hw:w∈M):(bQ st G M++(ask G (bQ st G M) M).filterMap (dU G ((ask G (bQ st G M) M).foldl (mZ G) []))).find? (λp=>p.1 == w.bag)=(pG st G M w).map λd=>(w.bag,d):=by
 rw[List.find?_append];have e1:(bQ st G M).find? (λp=>p.1 == w.bag)=(cY st G w).map λy=>(w.bag,y):=Iu (F:=λw=>(cY st G w).map λy=>(w.bag,y)) (λz p e=>by
  obtain⟨y,_,rfl⟩:=c_.mp e;rfl) nd hw
 have B:∀C z p,dU G C z=some p->p.1=z.bag:=λC z p e=>by
  grind [dU]
 have O:=MT (st:=st) (G:=G) nd hw;have V:=λu=>lz (G:=G) (W:=bQ st G M) (L:=M) (w:=u)
 have I:((ask G (bQ st G M) M).map Row.bag).Nodup:=nd.sublist (List.Sublist.map _ yC);have fi:=λo jj R D=>VO (G:=G) (st:=st) (o:=o) (jj:=jj) (w:=w) nd R D (d:=M) λ_ m=>m
 rw[e1];unfold pG;cases U:cY st G w with
 |some d=>rfl
 |none=>
  rw[Option.map_none,GD];have sn:=mR.mp U;generalize ask G (bQ st G M) M=A at *;cases Y:(G w).2 with
  |none=>
   refine OA (B _) λm=>?_
   obtain⟨u,mu,e⟩:=fU.mp m;obtain⟨t,_,T⟩:=(V u).mp mu;rw[mY nd t hw e,Y] at T;cases T
  |some jj=>
   rw[Iu (B _) I ((V w).mpr ⟨hw,by rw[O,U];simp,by rw[Y];rfl⟩)]
   unfold dU;rw[fi (G w).1 jj (by rw[<-Y]) (by rcases sn.2 with q|q;rw[Y] at q;cases q;exact q)]
   cases(M.foldl (l5 st G w) []).head? with
   |none=>rfl
   |some f=>by_cases q:f=w.bag <;> simp[q]
theorem jJ.ext(a:jJ G M W X):∃Y,X=W++Y/\∀p∈Y,∃z∈M,∃o,p=(z.bag,qg o)/\hold G M z=some o:=by
 induction a with
 |base=>exact⟨[],(jI _).symm,λp m=>by cases m⟩
 |@step X w o _ hw hc V=>
  obtain⟨Y,rfl,h⟩:=V;refine⟨Y++[(w.bag,qg o)],by rw[jz],λp m=>?_⟩
  rcases iC.mp m with m|m
  .exact h p m
  .rw[jT.mp m];exact⟨w,hw,o,rfl,hc.2.1⟩
theorem jJ.no(a:jJ G M W X){U:List Str}(B:∀u∈U,u∉W.map (·.1))(hN:∀z∈M,z.bag∈U->∀o,hold G M z=some o->o∈U):∀u∈U,u∉X.map (·.1):=by
 induction a with
 |base=>exact B
 |@step X w o _ hw hc V=>
  intro u Y m;rw[eC,iC] at m;rcases m with m|m
  .exact V u Y m
  .cases jT.mp m;exact V o (hN w hw Y o hc.2.1) hc.2.2
end
def wT:GT:=cI (gQ ku 6 (gC .aI)) (gQ g8 6 5)
abbrev yG(hd:D)(c m:Nat)(bag:Str)(k:Nat)(Y:ai Str):Gm:=[ar hd,aJ c,aJ m,aY bag,ar .aI,aJ k,ar (aN Y)]
abbrev yS(t rr:List Cell)(sn:List Str):aU:=⟨t++[.o (.lst (dS sn))],rr⟩
section
variable{t rr:List Cell}{h:aA}{x:Hl}{n c a m f:Nat}{w z:Row}{L:List (Row×Nat)}{Q J hd:D}{bag v o:Str}{sn:List Str}{ys:List D}{W:List (TK×D)}{nx:ai Str}{X:List (Str×D)}
theorem OB:a_ wT (o8 0) (f+1) (yG hd c m bag t.length none) (yS t rr sn)=some (.nx (yG hd c m bag t.length none) (yS t rr sn)):=by
 rfl
theorem Yo(h:sn.contains v=true):a_ wT (o8 0) (f+1) (yG hd c m bag t.length (some v)) (yS t rr sn)=some (.nx (yG hd c m bag t.length (some v)) (yS t rr sn)):=by
 unfold a_ wT yG aN;simp only[↓ev,ay,d_,eM,h]
theorem Yp(h:sn.contains v=false)(e1:mT 0 [.d hd,.c c,.c m,cD v] (yS t rr sn)=some (.ok (rd (.tup ys)) (yS t rr sn)))(hm:∀l,(t++l)[m]?=some (.o (.ao W)))(hw:aG W (.inr bag)=some Q)(e2:p7 0 [.c c,.d Q] (yS t rr sn)=some (.ok (rd (.str o)) (yS t rr sn))):a_ wT (o8 0) (f+1) (yG hd c m bag t.length (some v)) (yS t rr sn)=some (.rt (rd (qg o)) (yS t rr sn)):=by
 unfold a_ wT yG aN qg;unfold o8;simp only[↓ev,ay,d_,eM,h,e1,hm,hw,e2]
theorem Yq(h:sn.contains v=false)(hl:sn.length<1000)(e1:mT 0 [.d hd,.c c,.c m,cD v] (yS t rr sn)=some (.ok (rd .aI) (yS t rr sn)))(hm:∀l,(t++l)[m]?=some (.o (.ao W)))(hv:aG W (.inr v)=some J)(e2:p7 0 [.c c,.d J] (yS t rr (sn++[v]))=some (.ok (rd (aN nx)) (yS t rr (sn++[v])))):a_ wT (o8 0) (f+1) (yG hd c m bag t.length (some v)) (yS t rr sn)=a_ wT (o8 0) f (yG hd c m bag t.length nx) (yS t rr (sn++[v])):=by
 have l1:((dS sn).length<1000000)=True:=br (by unfold dS;rw[ba];lia)
 have es:yS t rr (sn++[v])=⟨t++[.o (.lst (dS sn++[.str v]))],rr⟩:=by
  simp_all
 rw[es] at e2 ⊢;rw[a_];generalize Y:a_ wT (o8 0) f=Q;unfold yG;generalize aN nx=V at *;unfold wT aN;unfold o8;simp only[↓ev,ay,d_,eM,h,e1,l1,hm,hv,e2]
end
theorem i5{W:List (Str×D)}:b∈W.map (·.1)↔W.find? (λp=>p.1 == b)≠none:=by
 simp_all
theorem OC{st:List Str}{M:List Row}{d:D}(e:pG st G M w=some d):∃ys,d=.tup ys:=by
 grind [pG,cY]
section
variable{t rr:List Cell}{h:aA}{r:Int}{x:Hl}{n k c a m:Nat}{w v:Row}{L:List (Row×Nat)}{Q o1:Str}{X:List (Str×D)}
theorem OE(o:Ok h n x)(tn:fD h r x X)(hw:w∈x.rows):∃W,jJ (ah h r x) (ord h x.rows) W X/\∀u∈x.rows,W.find? (λp=>p.1 == u.bag)=(nK h r x u).map λd=>(u.bag,d):=by
 obtain⟨C,V,gr,_⟩:=tn;refine⟨_,gr,λu Y=>?_⟩
 rw[V.2.2.2];exact e6n ((o.perm.map _).nodup_iff.mpr o.nb) (o.mem.mpr Y)
theorem OF(tn:fD h r x X)(o:Ok h n x)(hv:v∈x.rows)(e:hold (ah h r x) (ord h x.rows) v=some o1)(m:o1∈X.map (·.1)):v.bag∈X.map (·.1):=by
 obtain⟨C,_,_,fn⟩:=tn;exact QT λq=>fn v (o.mem.mpr hv) o1 ⟨q,e,m⟩
theorem NA(o:Ok h n x)(e:hold (ah h r x) (ord h x.rows) v=some o1):∃z∈x.rows,z.bag=o1:=by
 rw[E7] at e;obtain⟨z,Y,rfl⟩:=c_.mp e;exact⟨z,o.mem.mp (Ar Y),rfl⟩
theorem e6o(g:aH h)(sl:∀b∈h.af,0<=b.long/\b.long<=1000)(o:Ok h n x)(s:Sw h r x L a k c m ⟨t,rr⟩)(hL:L.map (·.1)=ord h x.rows)(tn:fD h r x X)(hw:w∈x.rows)(h0:hold (ah h r x) (ord h x.rows) w=some Q):∀(f:Nat) (sn:List Row) (Y:ai Row),(∀u∈sn,u∈x.rows)->(sn.map Row.bag).Nodup->(∀v,Y=some v->v∈x.rows)->x.rows.length+2<=sn.length+f->(∀u∈sn,nK h r x u=none)->(∀u∈sn,∀o,hold (ah h r x) (ord h x.rows) u=some o->o∈sn.map Row.bag\/Y.map Row.bag=some o)->(∀v,Y=some v->v.bag∈X.map (·.1)->w.bag∈X.map (·.1))->w∈sn->∃l,(w.bag∈X.map (·.1)/\a_ wT (o8 0) f (yG (aF h) c m w.bag t.length (Y.map Row.bag)) (yS t rr (sn.map Row.bag))=some (.rt (rd (qg Q)) ⟨t++l,rr⟩))\/(w.bag∉X.map (·.1)/\∃a6,a_ wT (o8 0) f (yG (aF h) c m w.bag t.length (Y.map Row.bag)) (yS t rr (sn.map Row.bag))=some (.nx [ar (aF h),aJ c,aJ m,aY w.bag,ar .aI,aJ t.length,a6] ⟨t++l,rr⟩)):=by
 have pm:(L.map (·.1)).Perm x.rows:=by rw[hL];exact o.perm
 have nd:((ord h x.rows).map Row.bag).Nodup:=(o.perm.map _).nodup_iff.mpr o.nb;have rl:=o.rl;obtain⟨W,gr,fW⟩:=OE o tn hw;have nx:∀(sn:List Row) (u:List Str),u=sn.map Row.bag->(∀u∈sn,u∈x.rows)->(∀u∈sn,nK h r x u=none)->(∀u∈sn,∀o,hold (ah h r x) (ord h x.rows) u=some o->o∈sn.map Row.bag)->w∈sn->w.bag∉X.map (·.1):=λsn _ _ V T R D=>gr.no (U:=sn.map Row.bag) (λb m=>by
   obtain⟨u,mu,rfl⟩:=fU.mp m;rw[i5,fW u (V u mu),T u mu];simp) (λz hz m o1=>by
   obtain⟨u,mu,e⟩:=fU.mp m;rw[mY nd (o.mem.mpr (V u mu)) hz e] at mu;exact R z mu o1) _ (l7 D)
 intro f
 induction f with
 |zero=>
  intro sn Y V Kq _ hl;have:=E5 (l2:=x.rows.map Row.bag) Kq λb m=>by
   grind
  grind
 |succ f ih=>
  intro sn Y V Kq hv hl T R D h5;cases Y with
  |none=>exact⟨_,.inr ⟨nx sn _ rfl V T (λu hu o1 e=>(R u hu o1 e).resolve_right λz=>by cases z) h5,_,OB⟩⟩
  |some v=>
   have I:=hv v rfl;have vv:=gP (v:=λw=>gD (ah h r x w)) nd (o.mem.mpr I)
   have vw:=gP (v:=λw=>gD (ah h r x w)) nd (o.mem.mpr hw)
   cases hc:(sn.map Row.bag).contains v.bag with
   |true=>
    refine⟨_,.inr ⟨nx sn _ rfl V T (λu hu o1 e=>(R u hu o1 e).elim id λz=>?_) h5,_,Yo hc⟩⟩
    simp_all
   |false=>
    have e1:=Px g sl o (s.up [.o (.lst (dS (sn.map Row.bag)))]) pm I;cases ho:nK h r x v with
    |some d=>
     obtain⟨ys,rfl⟩:=OC ho;have e2:=Ir o (s.up [.o (.lst (dS (sn.map Row.bag)))]).sg hL (y:=ah h r x w);rw[<-E7,h0] at e2;rw[ho] at e1;refine⟨_,.inl ⟨D v rfl (gr.sub _ (i5.mpr ?_)),Yp hc e1 (λl=>(s.up l).wt) vw e2⟩⟩
     simp_all
    |none=>
     rw[ho] at e1;have e2:=Ir o (s.up [.o (.lst (dS (sn.map Row.bag++[v.bag])))]).sg hL (y:=ah h r x v);rw[<-E7] at e2;obtain⟨B,e3,e4⟩:∃B:ai Row,B.map Row.bag=hold (ah h r x) (ord h x.rows) v/\∀z,B=some z->z∈x.rows:=by
      cases hh:hold (ah h r x) (ord h x.rows) v with
      |none=>exact⟨none,rfl,λz q=>by cases q⟩
      |some o1=>
       obtain⟨z,hz,O⟩:=NA o hh;exact⟨some z,congrArg some O,λ_ q=>by cases q;exact hz⟩
     rw[<-e3] at e2;have z8:sn.length<=x.rows.length:=by
      have:=E5 (l2:=x.rows.map Row.bag) Kq λb m=>by
       grind
      simp_all
     have key:=ih (sn++[v]) B (λu m=>by
      grind) (by
      grind) e4 (by rw[cZ];simp;lia) (λu m=>by
      grind) (λu m o1 e=>by
      grind) (λz O mz=>D v rfl (OF tn o I (by rw[<-e3,O];rfl) mz)) (Ag _ h5)
     rw[eC] at key;obtain⟨l,k⟩:=key;refine⟨l,?_⟩;rw[show(some v).map Row.bag=some v.bag from rfl,Yq hc (by rw[ba];lia) e1 (λl=>(s.up l).wt) vv e2]
     exact k
end
section
variable{t rr l:List Cell}{h:aA}{r:Int}{x:Hl}{n k c a m:Nat}{w:Row}{L:List (Row×Nat)}{hd Q y:D}{bag:Str}{ys:List D}{W:List (TK×D)}{X:List (Str×D)}{nx:ai Str}{a6:ai Val}
theorem e6p(e1:mT 0 [.d hd,.c c,.c m,cD bag] ⟨t,rr⟩=some (.ok (rd (.tup ys)) ⟨t,rr⟩)):uv 0 [.d hd,.c c,.c m,cD bag] ⟨t,rr⟩=some (.ok (rd (.tup ys)) ⟨t,rr⟩):=by
 unfold uv;simp only[↓ev,e1,ay]
theorem IQ(e1:mT 0 [.d hd,.c c,.c m,cD bag] ⟨t,rr⟩=some (.ok (rd .aI) ⟨t,rr⟩))(hm:∀l,(t++l)[m]?=some (.o (.ao W)))(hw:aG W (.inr bag)=some Q)(e2:p7 0 [.c c,.d Q] (yS t rr [bag])=some (.ok (rd (aN nx)) (yS t rr [bag]))){V:Fr}(Y:a_ wT (o8 0) 1000 (yG hd c m bag t.length nx) (yS t rr [bag])=some V)(hf:V=.rt (rd y) ⟨t++l,rr⟩\/y=.aI/\V=.nx [ar hd,aJ c,aJ m,aY bag,ar .aI,aJ t.length,a6] ⟨t++l,rr⟩):uv 0 [.d hd,.c c,.c m,cD bag] ⟨t,rr⟩=some (.ok (rd y) ⟨t,rr⟩):=by
 unfold yG yS wT at *;generalize aN nx=U at *;have e2:p7 0 [.c c,.d Q] ⟨t++[.o (.lst [.str bag])],rr⟩=some (.ok (rd U) ⟨t++[.o (.lst [.str bag])],rr⟩):=e2;have Y:a_ (cI (gQ ku (mB 6) (gC .aI)) (gQ g8 (mB 6) (mB 5))) (o8 0) 1000 [ar hd,aJ c,aJ m,aY bag,ar .aI,aJ t.length,ar U] ⟨t++[.o (.lst [.str bag])],rr⟩=some V:=Y;unfold uv;rcases hf with rfl|⟨rfl,rfl⟩
 .simp only[↓ev,e1,ay,hm,hw,e2,Y]
 .simp only[↓ev,e1,ay,hm,hw,e2,Y]
noncomputable def nU(X:List (Str×D))(w:Row):D:=((X.find? λp=>p.1 == w.bag).map (·.2)).getD .aI
theorem Ja(g:aH h)(sl:∀b∈h.af,0<=b.long/\b.long<=1000)(o:Ok h n x)(s:Sw h r x L a k c m ⟨t,rr⟩)(R:L.map (·.1)=ord h x.rows)(tn:fD h r x X)(hw:w∈x.rows):uv 0 [.d (aF h),.c c,.c m,cD w.bag] ⟨t,rr⟩=some (.ok (rd (nU X w)) ⟨t,rr⟩):=by
 have pm:(L.map (·.1)).Perm x.rows:=by rw[R];exact o.perm
 have nd:((ord h x.rows).map Row.bag).Nodup:=(o.perm.map _).nodup_iff.mpr o.nb;have rl:=o.rl;obtain⟨W,gr,fW⟩:=OE o tn hw;obtain⟨Y,O,hY⟩:=gr.ext;have U:X.find? (λp=>p.1 == w.bag)=(W.find? λp=>p.1 == w.bag).or (Y.find? λp=>p.1 == w.bag):=by rw[O,List.find?_append]
 have B:=fW w hw;have e1:=Px g sl o s pm hw;unfold nU;cases ho:nK h r x w with
 |some d=>
  obtain⟨ys,rfl⟩:=OC ho;rw[ho] at e1 B;rw[U,B];exact e6p e1
 |none=>
  rw[ho] at e1 B;rw[B,Option.map_none,GD] at U;have fY:∀p,Y.find? (λp=>p.1 == w.bag)=some p->∃o1,p=(w.bag,qg o1)/\hold (ah h r x) (ord h x.rows) w=some o1:=λp e=>by
   obtain⟨z,hz,o1,rfl,eh⟩:=hY p (Ar e);have:=beq_iff_eq.mp (GC (p:=λp:Str×D=>p.1 == w.bag) e)
   cases mY nd hz (o.mem.mpr hw) this;exact⟨o1,rfl,eh⟩
  have I:=gP (v:=λw=>gD (ah h r x w)) nd (o.mem.mpr hw)
  have e2:=Ir o (s.up [.o (.lst (dS [w.bag]))]).sg R (y:=ah h r x w);rw[<-E7] at e2;cases h0:hold (ah h r x) (ord h x.rows) w with
  |none=>
   rw[h0] at e2;rw[U,show Y.find? (λp=>p.1 == w.bag)=none from Option.eq_none_iff_forall_ne_some.mpr λp e=>by
    simp_all]
   exact IQ e1 (λl=>(s.up l).wt) I e2 (OB (f:=999)) (.inr ⟨rfl,rfl⟩)
  |some o0=>
   rw[h0] at e2;obtain⟨z,hz,rfl⟩:=NA o h0;obtain⟨l,key⟩:=e6o g sl o s R tn hw h0 1000 [w] (some z) (λu m=>by rw[jT.mp m];exact hw) (nW.mpr ⟨y1m,.nil⟩) (λv q=>by cases q;exact hz) (by simp;lia) (λu m=>by rw[jT.mp m];exact ho) (λu m o1 e=>by
    rw[jT.mp m,h0] at e;exact .inr e) (λv q mz=>by cases q;exact OF tn o hw h0 mz) (.head _)
   rcases key with⟨V,T⟩|⟨V,a6,T⟩
   .rw[i5] at V;obtain⟨p,ep⟩:=LQ.mp V;rw[ep];obtain⟨o1,rfl,e⟩:=fY p (U.symm.trans ep);cases Option.some.inj (h0.symm.trans e);exact IQ (a6:=none) e1 (λl=>(s.up l).wt) I e2 T (.inl rfl)
   .rw[i5] at V;rw[Decidable.not_not.mp V];exact IQ e1 (λl=>(s.up l).wt) I e2 T (.inr ⟨rfl,rfl⟩)
end
section
variable{a b c d e v:D}
theorem OG:aG (gK a b c d e) (.inr "gone")=some e:=by kernel_rfl
theorem e6q:bP (gK a b c d e) (.inr "now") v=gK v b c d e:=by kernel_rfl
end
section
variable{a b:Cell}{C:List Cell}{j:Nat}
theorem at2:(a::C)[j+1]?=C[j]?:=rfl
end
theorem J8:((1:Int)<((3:Nat):Int))=True:=br (by decide)
theorem J9:((2:Int)<((3:Nat):Int))=True:=br (by decide)
section
variable{s R C wl:List Cell}{nw i jj gn:Int}{j Q:Nat}{bag b o:Str}{Y V F d2 G hd:D}{J:List (TK×D)}{U bl ws:List D}{cs:List Str}{a2 a3 a4 a5 a6 a7 a8 a10:ai Val}
abbrev rS(R s wl:List Cell)(F d2:D)(nw:Int)(Q:Nat)(J:List (TK×D))(C:List Cell):aU:=⟨s++.o (.ao (gK (.int nw) F d2 (.ref R.length) (.ref (R.length+(Q+1)))))::wl,R++.o (.ao J)::C⟩
abbrev rQ(bl:List D)(cs:List Str)(c:Nat)(a2 a3 a4 a5 a6 a7 a8:ai Val)(e:D)(a10:ai Val):Gm:=[ar (.tup [.lst bl,.lst (dS cs)]),aJ c,a2,a3,a4,a5,a6,a7,a8,ar e,a10]
theorem Yr{B T I:D}:sy 0 (rQ bl cs s.length a2 a3 a4 a5 a6 a7 a8 (.tup [B,T,I,.tup ws]) a10) (rS R s wl F d2 nw Q J C)=some (.nx (rQ bl cs s.length a2 a3 a4 a5 a6 a7 a8 (.tup [B,T,I,.tup ws]) a10) (rS R s wl F d2 nw Q J C)):=by
 rfl
theorem e6r{p:Nat}(hv:aG J (.inr bag)=some (.ref p))(ht:eU J=true)(B:C[Q]?=some (.o (.lst U)))(hl:U.length<1000000)(hc:cs.contains o=true):sy 0 (rQ bl cs s.length a2 a3 a4 a5 a6 a7 a8 (.tup [.str bag,Y,.str o,.aI]) a10) (rS R s wl F d2 nw Q J C)=some (.nx (rQ bl cs s.length a2 a3 a4 a5 a6 a7 a8 (.tup [.str bag,Y,.str o,.aI]) (some (.d (.ref p)))) (rS R s wl F d2 nw Q (df J bag) (C.set Q (.o (.lst (U++[.tup [.str bag,.str o,.int nw]])))))):=by
 have hl:=br hl;unfold sy rQ rS;simp only[↓ev,ay,gM,hv,d_,eM,hc,ht,OG,at2,B,BC,hl]
theorem e8p(hv:aG J (.inr bag)=some (.ref (R.length+(j+1))))(B:C[j]?=some (.o (.lst [V,pl b i,.int gn]))):sy 0 (rQ bl cs s.length a2 a3 a4 a5 a6 a7 a8 (.tup [.str bag,Y,pl o jj,.aI]) a10) (rS R s wl F d2 nw Q J C)=some (.nx (rQ bl cs s.length a2 a3 a4 a5 a6 a7 a8 (.tup [.str bag,Y,pl o jj,.aI]) (some (.d (.ref (R.length+(j+1)))))) (rS R s wl F d2 nw Q J (C.set j (.o (.lst [V,pl o jj,.int (if(b == o&&jj == 0)=true then gn+1 else gn)]))))):=by
 have e2:∀v:D,(C.set j (.o (.lst [V,pl b i,v])))[j]?=some (.o (.lst [V,pl b i,v])):=λv=>oV (dX.mp B).1
 have T:∀v w:Cell,(C.set j v).set j w=C.set j w:=λv w=>DA ..
 unfold sy rQ rS;cases I:(b == o) with
 |false=>simp only[↓ev,ay,gM,hv,m_,d_,wu,at2,B,I,Int.add_zero,J9,e2,J8,T]
 |true=>
  cases O:(jj == 0) with
  |false=>simp only[↓ev,ay,gM,hv,m_,d_,wu,at2,B,I,O,Int.add_zero,J9,e2,J8,T]
  |true=>simp only[↓ev,ay,gM,hv,m_,d_,wu,at2,B,I,O,J9,e2,J8,T]
end
theorem e6s{L:List (Row×Nat)}{F:Row×Nat->Row}(hF:∀q∈L,(F q).bag=q.1.bag):inD (L.map λq=>(F q,q.2))=inD L:=by
 grind [inD,td,List.map_congr_left]
section
variable{s R C wl:List Cell}{h:aA}{r:Int}{x:Hl}{n Q:Nat}{L:List (Row×Nat)}{w:Row}{X:List (Str×D)}{F d2:D}{a2 a3 a4 a5 a6 a7 a8 a10:ai Val}
theorem e6t(g:aH h)(o:Ok h n x)(hw:w∈x.rows)(hb:bt∈h.af)(Y:bt.name=w.b)(T:(ah h r x w).2=some j):(w.b == (ah h r x w).1&&j == 0)=iB bt w.i (ah h r x w).1 j:=by
 have B:ah h r x w=iT h r x w bt:=by
  unfold ah;rw[<-Y,za g hb]
 obtain⟨a,D,U⟩:=Fl g o hw hb Y;have q:=IL g.fwd bt hb a U;obtain⟨V,qy,e2,I,O,_⟩:=(o.rw w hw).1;cases Bc g.fwd V qy bt hb (e2.trans Y.symm)
 grind [iT,iB,mG]
theorem Ys(t:fD h r x X):∀p∈X,∃a b:Str,p.2=.tup [.str a,.str b]:=by
 obtain⟨Co,_,gr,_⟩:=t;refine jJ.rec (motive:=λX _=>∀p∈X,∃a b:Str,p.2=D.tup [.str a,.str b]) ?_ ?_ gr
 .intro p m;rcases iC.mp m with m|m
  .obtain⟨w,_,e⟩:=ue.mp m
   grind [cY]
  grind [dU]
 .intro Y w c _ _ _ V p m;rcases iC.mp m with m|m
  .exact V p m
  .rw[jT.mp m];exact⟨_,_,rfl⟩
abbrev w_(h:aA)(r:Int)(x:Hl)(d:List Row):List (Str×Str×Int):=x.gone++d.filterMap (eR (ah h r x) (x.now+1))
def yK(h:aA)(r:Int)(x:Hl)(R s wl:List Cell)(F d2:D)(Q:Nat)(d:List Row)(S':aU):Prop:=∃Y V,S'=rS R s wl F d2 (x.now+1) Q (inD Y) V/\Y.map (·.1)=gY h (ah h r x) (jm d) (ord h x.rows)/\(Y.map (·.2)).Nodup/\(∀p∈Y,∃j,p.2=R.length+(j+1)/\j≠Q/\V[j]?=some (jF p.1))/\V[Q]?=some (.o (.lst (l0 (w_ h r x d))))
abbrev rH(h:aA):=rQ (h.af.map au) h.carts
theorem Yt(g:aH h)(o:Ok h n x)(hn:n<1000)(hw:w∈x.rows){d:List Row}{S':aU}(hd:w.bag∉d.map Row.bag)(dl:d.length<=1000)(i:yK h r x R s wl F d2 Q d S'):∃AF E,sy 0 (rH h s.length a2 a3 a4 a5 a6 a7 a8 (.tup [.str w.bag,pl w.b w.i,gD (ah h r x w),.aI]) a10) S'=some (.nx (rH h s.length a2 a3 a4 a5 a6 a7 a8 (.tup [.str w.bag,pl w.b w.i,gD (ah h r x w),.aI]) AF) E)/\yK h r x R s wl F d2 Q (d++[w]) E:=by
 refine kY λkz=>?_
 obtain⟨Y,C',rfl,I,O,t,h5⟩:=i;have nb:((ord h x.rows).map Row.bag).Nodup:=(o.perm.map _).nodup_iff.mpr o.nb;have T:=o.mem.mpr hw;have hp:jm d w=false:=by
  grind [jm]
 have zS:=λz=>HZ d w z
 have Qy:(Y.map λp=>p.1.bag).Nodup:=by
  grind [EL]
 obtain⟨p,B,ep⟩:=fU.mp (show w∈Y.map (·.1) by rw[I];exact Ol T hp)
 have v0:aG (inD Y) (.inr w.bag)=some (.ref p.2):=by rw[<-ep];exact gP Qy B
 obtain⟨j,ej,nj,c0⟩:=t p B;have sz:=o.sz;have gk:=(Io g o hw (r:=r)).1;refine kz ?_;cases V:(ah h r x w).2 with
 |none=>
  have hg:gD (ah h r x w)=.str (ah h r x w).1:=by
   generalize ah h r x w=gg at *;obtain⟨g1,g2⟩:=gg;cases V;rfl
  have fl:(d.filterMap (eR (ah h r x) (x.now+1))).length<=d.length:=As _ _;rw[hg];refine⟨_,_,e6r v0 sM h5 (by unfold l0;rw[ba,cZ];lia) (kE.mpr (gk V)),Y.filter (λq=>decide (q.1.bag≠w.bag)),C'.set Q (.o (.lst (l0 (w_ h r x d)++[.tup [.str w.bag,.str (ah h r x w).1,.int (x.now+1)]]))),?_,?_,O.sublist (List.Sublist.map _ yC),λq m=>?_,?_⟩
  .rw[show df (inD Y) w.bag=inD (Y.filter λq=>decide (q.1.bag≠w.bag)) from zy]
  .rw[<-Om nb T hp zS V,<-I,List.filter_map];rfl
  .obtain⟨U,e1,e2,D⟩:=t q (rb.mp m).1;exact⟨U,e1,e2,by rw[ud e2.symm];exact D⟩
  .rw[oV (dX.mp h5).1];unfold l0 w_;rw[DB,eC,<-jz,eC];simp only[nV,vJ,eR,V,qq6,qq7,eC];rfl
 |some jj=>
  have hg:gD (ah h r x w)=pl (ah h r x w).1 jj:=by
   generalize ah h r x w=gg at *;obtain⟨g1,g2⟩:=gg;cases V;rfl
  obtain⟨bt,xh,BR,_⟩:=(o.rw w hw).1;have fb:findB h.af w.b=some bt:=by rw[<-BR];exact za g xh
  have cn:=e6t g o hw xh BR V;rw[ep] at c0;unfold jF at c0;rw[ej] at v0;rw[hg];refine⟨_,_,e8p v0 c0,Y.map λq=>(eA w.bag (ah h r x w).1 jj (if iB bt w.i (ah h r x w).1 jj=true then w.gn+1 else w.gn) q.1,q.2),C'.set j (.o (.lst [aN w.fl,pl (ah h r x w).1 jj,.int (if(w.b == (ah h r x w).1&&jj == 0)=true then w.gn+1 else w.gn)])),?_,?_,?_,λq m=>?_,?_⟩
  .rw[e6s (L:=Y) (F:=λq=>eA w.bag (ah h r x w).1 jj (if iB bt w.i (ah h r x w).1 jj=true then w.gn+1 else w.gn) q.1) λq _=>Be]
  .rw[<-Po nb T hp zS V fb,<-I,dy,dy];rfl
  .rw[dy];exact O
  .obtain⟨z,mz,rfl⟩:=fU.mp m;obtain⟨U,e1,e2,D⟩:=t z mz;refine⟨U,e1,e2,?_⟩;by_cases e:z.2=p.2
   .cases mY O mz B e;have:U=j:=by lia
    subst this;rw[cn,oV (dX.mp c0).1,ep];unfold eA jF;rw[bJ rfl]
   .have e4:z.1.bag≠w.bag:=λe5=>e (by rw[mY Qy mz B (e5.trans (by rw[ep]))])
    rw[ud (by lia),D]
    unfold eA;rw[bq e4]
  .rw[ud nj,h5,show w_ h r x (d++[w])=w_ h r x d by
    unfold w_;rw[DB];simp only[nV,vJ,eR,V,jI]]
end
section
variable{s R C wl rr:List Cell}{h:aA}{r i:Int}{x:Hl}{n G a pt:Nat}{L:List (Row×Nat)}{w:Row}{X:List (Str×D)}{F d2 hd Q y Y N V g1 gn:D}{a2 a3 a4 a5 a6 a7 a8 a9 a10:ai Val}{W W' J:List (TK×D)}{bag b:Str}{lg:List D}
theorem Yu{rows:List Row}:gY h (ah h r x) (jm []) rows=rows:=by
 unfold gY;exact(HY λz _=>bq (show ¬jm [] z=true from pQ)).trans List.filterMap_some
theorem Fo(t:fD h r x X):(∃a b:Str,nU X w=.tup [.str a,.str b]/\nk X w=false/\dI X (ah h r x) w=.tup [.str w.bag,pl w.b w.i,pl w.b w.i,.tup [.str a,.str b]])\/(nU X w=.aI/\nk X w=true/\dI X (ah h r x) w=.tup [.str w.bag,pl w.b w.i,gD (ah h r x w),.aI]):=by
 unfold nU dI;rcases Oo X w with⟨e,n,_⟩|⟨p,e,n,_⟩
 .rw[e];exact .inr ⟨rfl,n,rfl⟩
 .obtain⟨a,b,U⟩:=Ys t p (Ar e);rw[e];exact .inl ⟨a,b,U,n,by show D.tup [_,_,_,p.2]=_;rw[U]⟩
theorem Yv(g:aH h)(o:Ok h n x)(d:n<1000)(t:fD h r x X)(i:yK h r x R s wl F d2 G [] S):∃a9 a10 S',aM (ae 9) (sy 0) ((ord h x.rows).map (dI X (ah h r x))) [ar (aF h),aJ s.length,a2,a3,a4,a5,a6,a7,a8,none,none] S=some (.nx [ar (aF h),aJ s.length,a2,a3,a4,a5,a6,a7,a8,a9,a10] S')/\yK h r x R s wl F d2 G (cO h x X) S':=by
 have nd:((ord h x.rows).map Row.bag).Nodup:=(o.perm.map _).nodup_iff.mpr o.nb;have rl:=o.rl;have pe:=o.perm.length_eq;refine kY λm=>?_
 obtain⟨U',S',e,⟨a9,a10,rfl⟩,i⟩:=f_ (ae 9) (sy 0) (dI X (ah h r x)) S (λpre U S'=>(∃a9 a10,U=[ar (aF h),aJ s.length,a2,a3,a4,a5,a6,a7,a8,a9,a10])/\yK h r x R s wl F d2 G (pre.filter (nk X)) S') (ord h x.rows) ⟨⟨none,none,rfl⟩,i⟩ (by
  rintro pre w post O U S' ⟨⟨a9,a10,rfl⟩,i⟩;have hw:w∈x.rows:=o.mem.mp (by rw[O];simp)
  have np:w.bag∉(pre.filter (nk X)).map Row.bag:=λz=>by
   grind
  have T:(pre.filter (nk X)).length<=1000:=by
   grind
  rcases Fo (w:=w) t with⟨_,_,_,q,hl⟩|⟨_,q,hl⟩
  .rw[hl];obtain⟨I,D,rfl,i1⟩:=i;refine⟨_,_,_,rfl,.inl Yr,⟨_,_,rfl⟩,I,D,rfl,?_⟩
   simp_all
  .rw[hl];obtain⟨AF,E,e,i2⟩:=Yt (a10:=a10) g o d hw np T i;refine⟨_,_,_,rfl,.inl e,⟨_,_,rfl⟩,?_⟩
   simp_all)
 refine m ?_;exact⟨a9,a10,S',e,i⟩
theorem e6u(e:qb 0 [.d hd,.c s.length,aT r,cD bag] ⟨s++[.o (.ao W'),.o (.ao W)],rr⟩=some (.ok (rd Q) ⟨s++[.o (.ao W'),.o (.ao W)],rr⟩))(hl:W.length<1000):AQ 0 [ar hd,aJ s.length,bx r,a3,aJ (s.length+1),aY bag,a6,a7,a8,a9,a10] ⟨s++[.o (.ao W'),.o (.ao W)],rr⟩=some (.nx [ar hd,aJ s.length,bx r,a3,aJ (s.length+1),aY bag,a6,a7,a8,a9,a10] ⟨s++[.o (.ao W'),.o (.ao (bP W (.inr bag) Q))],rr⟩):=by
 have l1:(W.length<1000000)=True:=br (by lia)
 unfold AQ;simp only[↓ev,e,ay,l1]
theorem Py(e:uv 0 [.d hd,.c s.length,.c (s.length+1),cD bag] ⟨s++[.o (.ao (gK Y F N (.ref a) V)),.o (.ao W),.o (.lst lg)],rr⟩=some (.ok (rd y) ⟨s++[.o (.ao (gK Y F N (.ref a) V)),.o (.ao W),.o (.lst lg)],rr⟩))(ins:rr[a]?=some (.o (.ao J)))(hI:aG J (.inr bag)=some (.ref pt))(c0:rr[pt]?=some (.o (.lst [g1,pl b i,gn])))(hv:aG W (.inr bag)=some Q)(hl:lg.length<1000){go:D}(U:(∃ys,y=.tup ys/\go=pl b i)\/y=.aI/\go=Q):∃T Hk,AR 0 [ar hd,aJ s.length,bx r,a3,aJ (s.length+1),aY bag,aJ (s.length+2),a7,a8,a9,a10] ⟨s++[.o (.ao (gK Y F N (.ref a) V)),.o (.ao W),.o (.lst lg)],rr⟩=some (.nx [ar hd,aJ s.length,bx r,a3,aJ (s.length+1),aY bag,aJ (s.length+2),T,Hk,a9,a10] ⟨s++[.o (.ao (gK Y F N (.ref a) V)),.o (.ao W),.o (.lst (lg++[.tup [.str bag,pl b i,go,y]]))],rr⟩):=by
 have l1:(lg.length<1000000)=True:=br (by lia)
 refine⟨ar y,ar (pl b i),?_⟩;unfold AR;rcases U with⟨ys,rfl,rfl⟩|⟨rfl,rfl⟩ <;> simp only[↓ev,e,ay,gM,ins,hI,c0,l1,hv]
end
noncomputable abbrev mQ (h:aA) (x:Hl) (a k:Nat):List (TK×D):=gK (.int x.now) (.ao (td (·.1) iP (i_ x.book))) (.lst (dS (bG h x))) (.ref a) (.ref k)
section
variable{s C rr:List Cell}{h:aA}{r:Int}{x:Hl}{n a k:Nat}{L:List (Row×Nat)}{X:List (Str×D)}{a3 a6 a7 a8 a9 a10:ai Val}
theorem Yw(g:aH h)(o:Ok h n x)(sg:Sg h x L a k s.length ⟨s++[.o (.ao (mQ h x a k))],rr⟩)(V:L.map (·.1)=ord h x.rows):∃a5,aM (ae 5) (AQ 0) (dS ((ord h x.rows).map Row.bag)) [ar (aF h),aJ s.length,bx r,a3,aJ (s.length+1),none,a6,a7,a8,a9,a10] ⟨s++[.o (.ao (mQ h x a k)),.o (.ao [])],rr⟩=some (.nx [ar (aF h),aJ s.length,bx r,a3,aJ (s.length+1),a5,a6,a7,a8,a9,a10] ⟨s++[.o (.ao (mQ h x a k)),.o (.ao (cq (ah h r x) (ord h x.rows)))],rr⟩):=by
 have nd:((ord h x.rows).map Row.bag).Nodup:=(o.perm.map _).nodup_iff.mpr o.nb;have rl:=o.rl;have T:=o.perm.length_eq;rw[show dS ((ord h x.rows).map Row.bag)=(ord h x.rows).map λw=>.str w.bag by unfold dS;rw[dy];rfl]
 obtain⟨B,S',e,⟨a5,rfl⟩,rfl⟩:=f_ (ae 5) (AQ 0) (λw:Row=>D.str w.bag) ⟨s++[.o (.ao (mQ h x a k)),.o (.ao [])],rr⟩ (λpre U S'=>(∃a5,U=[ar (aF h),aJ s.length,bx r,a3,aJ (s.length+1),a5,a6,a7,a8,a9,a10])/\S'=⟨s++[.o (.ao (mQ h x a k)),.o (.ao (cq (ah h r x) pre))],rr⟩) (ord h x.rows) ⟨⟨none,rfl⟩,rfl⟩ (by
  rintro d w post Y U S' ⟨⟨a5,rfl⟩,rfl⟩;have hw:w∈x.rows:=o.mem.mp (by rw[Y];simp)
  have dl:=congrArg List.length Y;rw[cZ] at dl;have e:=Yj (r:=r) g o (sg.up [.o (.ao (cq (ah h r x) d))]) V hw;simp only[jz,QI,KN] at e;refine⟨_,_,_,rfl,.inl (e6u e (by unfold cq;rw[kX];lia)),⟨_,rfl⟩,?_⟩
  grind [cq,zA])
 exact⟨a5,e⟩
theorem Yx(g:aH h)(sl:∀b∈h.af,0<=b.long/\b.long<=1000)(o:Ok h n x)(tn:fD h r x X)(sg:Sg h x L a k s.length ⟨s++[.o (.ao (mQ h x a k))],rr⟩)(T:L.map (·.1)=ord h x.rows){a5:ai Val}:∃q a7 a8,aM (ae 5) (AR 0) (dS ((ord h x.rows).map Row.bag)) [ar (aF h),aJ s.length,bx r,a3,aJ (s.length+1),a5,aJ (s.length+2),none,none,a9,a10] ⟨s++[.o (.ao (mQ h x a k)),.o (.ao (cq (ah h r x) (ord h x.rows))),.o (.lst [])],rr⟩=some (.nx [ar (aF h),aJ s.length,bx r,a3,aJ (s.length+1),q,aJ (s.length+2),a7,a8,a9,a10] ⟨s++[.o (.ao (mQ h x a k)),.o (.ao (cq (ah h r x) (ord h x.rows))),.o (.lst ((ord h x.rows).map (dI X (ah h r x))))],rr⟩):=by
 have nd:((ord h x.rows).map Row.bag).Nodup:=(o.perm.map _).nodup_iff.mpr o.nb;have rl:=o.rl;have pe:=o.perm.length_eq;have pm:(L.map (·.1)).Perm x.rows:=by rw[T];exact o.perm
 have m:Sw h r x L a k s.length (s.length+1) ⟨s++[.o (.ao (mQ h x a k)),.o (.ao (cq (ah h r x) (ord h x.rows)))],rr⟩:=⟨by
  have e:=sg.up [.o (.ao (cq (ah h r x) (ord h x.rows)))]
  rwa[jz] at e,zB⟩
 rw[show dS ((ord h x.rows).map Row.bag)=(ord h x.rows).map λw=>.str w.bag by unfold dS;rw[dy];rfl]
 refine kY λI=>?_
 obtain⟨U',S',e,⟨a5,a7,a8,rfl⟩,rfl⟩:=f_ (ae 5) (AR 0) (λw:Row=>D.str w.bag) ⟨s++[.o (.ao (mQ h x a k)),.o (.ao (cq (ah h r x) (ord h x.rows))),.o (.lst [])],rr⟩ (λpre U S'=>(∃a5 a7 a8,U=[ar (aF h),aJ s.length,bx r,a3,aJ (s.length+1),a5,aJ (s.length+2),a7,a8,a9,a10])/\S'=⟨s++[.o (.ao (mQ h x a k)),.o (.ao (cq (ah h r x) (ord h x.rows))),.o (.lst (pre.map (dI X (ah h r x))))],rr⟩) (ord h x.rows) ⟨⟨a5,none,none,rfl⟩,rfl⟩ (by
  rintro d w post B U S' ⟨⟨a5,a7,a8,rfl⟩,rfl⟩;have V:w∈ord h x.rows:=by rw[B];simp
  have hw:w∈x.rows:=o.mem.mp V;have dl:=congrArg List.length B;rw[cZ] at dl;have e:=Ja g sl o (m.up [.o (.lst (d.map (dI X (ah h r x))))]) T tn hw;simp only[jz,QI,KN] at e;obtain⟨p,O,rfl,hI⟩:=uA pm o.nb hw;have c0:=sg.at_ p O;unfold jF at c0;rw[eC];rcases Fo (w:=p.1) tn with⟨_,_,Y,_,hl⟩|⟨Y,_,hl⟩
  .obtain⟨t,Hk,e2⟩:=Py (a3:=a3) (a7:=a7) (a8:=a8) (a9:=a9) (a10:=a10) e sg.ins hI c0 (gP (v:=λw=>gD (ah h r x w)) nd V) (by rw[ba];lia) (.inl ⟨_,Y,rfl⟩)
   rw[Y,<-hl] at e2;exact⟨_,_,_,rfl,.inl e2,⟨_,_,_,rfl⟩,rfl⟩
  .obtain⟨t,Hk,e2⟩:=Py (a3:=a3) (a7:=a7) (a8:=a8) (a9:=a9) (a10:=a10) e sg.ins hI c0 (gP (v:=λw=>gD (ah h r x w)) nd V) (by rw[ba];lia) (.inr ⟨Y,rfl⟩)
   rw[Y,<-hl] at e2;exact⟨_,_,_,rfl,.inl e2,⟨_,_,_,rfl⟩,rfl⟩)
 refine I ?_;exact⟨a5,a7,a8,e⟩
end
section
variable{s R rr wl:List Cell}{F d2:D}{Q:Nat}{h:aA}{r:Int}{x:Hl}{n:Nat}{X:List (Str×D)}
theorem Jb{M:List Row}{c:Cell}:∀p∈M.zipIdx (R.length+1),∃j,p.2=R.length+(j+1)/\j≠M.length/\(M.map jF++[c])[j]?=some (jF p.1):=λp m=>by
 obtain⟨i,hi,rfl⟩:=List.mem_iff_getElem.mp m;rw[List.length_zipIdx] at hi;refine⟨i,?_,by lia,?_⟩
 .rw[List.getElem_zipIdx];show R.length+1+i=_;lia
 .rw[List.getElem_zipIdx,nX (by rw[ba];exact hi),fB,gu hi]
  rfl
theorem VP:yK h r x R s wl F d2 (ord h x.rows).length [] (rS R s wl F d2 (x.now+1) (ord h x.rows).length (inD ((ord h x.rows).zipIdx (R.length+1))) ((ord h x.rows).map jF++[.o (.lst (l0 x.gone))])):=by
 refine⟨_,_,rfl,?_,?_,Jb,?_⟩
 .rw[Yu,LR]
 .rw[List.zipIdx_map_snd];exact List.nodup_range'
 .rw[oW (by rw[ba];exact bU _),ba,Gn,show w_ h r x []=x.gone from jI _]
  rfl
theorem Jc{L:List (Row×Nat)}{C:List Cell}{k:Nat}(Y:∀p∈L,∃j,p.2=R.length+(j+1)/\j≠Q/\C[j]?=some (jF p.1)):Sg h x L R.length k s.length ⟨s++[.o (.ao (mQ h x R.length k))],R++.o (.ao (inD L))::C⟩:=⟨sN,sN,λp m=>by
 obtain⟨j,e,_,c⟩:=Y p m;show(R++.o (.ao (inD L))::C)[p.2]?=_;rw[e,zB];exact c⟩
theorem VJ{a:Cell}{l:List Cell}:aU.cut ⟨s++a::l,rr⟩ (s.length+1)=⟨s++[a],rr⟩:=by
 unfold aU.cut;dsimp only;rw[Gb];rfl
theorem VQ(g:aH h)(sl:∀b∈h.af,0<=b.long/\b.long<=1000)(o:Ok h n x)(q:n<1000)(tn:fD h r x X):∃V Y,AY 0 [.d (aF h),.c s.length,aT r] ⟨s++[.o (.ao (mQ h x R.length (R.length+((ord h x.rows).length+1))))],R++.o (.ao (inD ((ord h x.rows).zipIdx (R.length+1))))::((ord h x.rows).map jF++[.o (.lst (l0 x.gone))])⟩=some (.ok (rd (.lst ((ord h x.rows).map (dI X (ah h r x))))) ⟨s++[.o (.ao (mQ h (cJ h r x X) R.length (R.length+((ord h x.rows).length+1))))],R++.o (.ao (inD V))::Y⟩)/\(∀p∈V,∃j,p.2=R.length+(j+1)/\j≠(ord h x.rows).length/\Y[j]?=some (jF p.1))/\(V.map (·.1)).Perm (cJ h r x X).rows/\Y[(ord h x.rows).length]?=some (.o (.lst (l0 (cJ h r x X).gone))):=by
 have rl:=o.rl;have pe:=o.perm.length_eq;have U:((ord h x.rows).zipIdx (R.length+1)).map (·.1)=ord h x.rows:=LR ..
 have pm:(((ord h x.rows).zipIdx (R.length+1)).map (·.1)).Perm x.rows:=by rw[U];exact o.perm
 have m:=VP (h:=h) (r:=r) (x:=x) (R:=R) (s:=s) (wl:=[.o (.ao (cq (ah h r x) (ord h x.rows))),.z (.lst ((ord h x.rows).map (dI X (ah h r x))))]) (F:=.ao (td (·.1) iP (i_ x.book))) (d2:=.lst (dS (bG h x)))
 have sg:Sg h x ((ord h x.rows).zipIdx (R.length+1)) R.length (R.length+((ord h x.rows).length+1)) s.length ⟨s++[.o (.ao (mQ h x R.length (R.length+((ord h x.rows).length+1))))],R++.o (.ao (inD ((ord h x.rows).zipIdx (R.length+1))))::((ord h x.rows).map jF++[.o (.lst (l0 x.gone))])⟩:=Jc Jb;have e1:=IP g sl o sg pm;refine kY λt=>?_
 obtain⟨a5,e2⟩:=Yw (r:=r) (a3:=ar (.lst (dS ((ord h x.rows).map Row.bag)))) (a6:=none) (a7:=none) (a8:=none) (a9:=none) (a10:=none) g o sg U;obtain⟨nC,a7,a8,T⟩:=Yx (a3:=ar (.lst (dS ((ord h x.rows).map Row.bag)))) (a5:=a5) (a9:=none) (a10:=none) g sl o tn sg U;obtain⟨a9,a10,S',B,V,Y,rfl,D,_,I,O⟩:=Yv (a2:=bx r) (a3:=ar (.lst (dS ((ord h x.rows).map Row.bag)))) (a4:=aJ (s.length+1)) (a5:=nC) (a6:=aJ (s.length+2)) (a7:=a7) (a8:=a8) g o q tn m;refine t ?_;refine⟨V,Y,?_,I,?_,O⟩
 .have l2:((mQ h x R.length (R.length+((ord h x.rows).length+1))).length<1000000)=True:=br (by show 5<1000000;decide)
  show _=some (Rs.ok (_:Rv) ⟨s++[.o (.ao (gK (.int (x.now+1)) (.ao (td (·.1) iP (i_ x.book))) (.lst (dS (bG h x))) (.ref R.length) (.ref (R.length+((ord h x.rows).length+1)))))],_⟩)
  generalize dS ((ord h x.rows).map Row.bag)=bg at *;generalize(ord h x.rows).map (dI X (ah h r x))=lg at *;generalize cq (ah h r x) (ord h x.rows)=gs at *;generalize aF h=hd at *;unfold AY;have l4:(s.length+2<s.length+1)=False:=eq_false (by lia)
  unfold rS at B;simp only[↓ev,e1,ay,eD,e2,T,BC,l2,e6q,B,l4,VJ]
 .rw[D];exact o.perm.filterMap _
end
variable{tt:Bool}{a2:ai Val}
noncomputable def sD:Nat->D->Bool
 |_,.aI=>true
 |_,.str _=>true
 |_,.int _=>true
 |n+1,.lst l=>l.all (sD n)&&decide (l.length<=1000)
 |n+1,.tup l=>l.all (sD n)&&decide (l.length<=1000)
 |_,_=>false
noncomputable abbrev ra:D:=.tup [.ty "tuple",.ty "list"]
section
variable{z:Str}{i:Int}{l:List D}
theorem j1:cC (.str z) ra=some (rd (.bl false)):=rfl
theorem j2:cC (.int i) ra=some (rd (.bl false)):=rfl
theorem j3:cC .aI ra=some (rd (.bl false)):=rfl
theorem j4:cC (.lst l) ra=some (rd (.bl true)):=rfl
theorem j5:cC (.tup l) ra=some (rd (.bl true)):=rfl
theorem j6:cC (.lst l) (.ty "tuple")=some (rd (.bl false)):=rfl
theorem j7:cC (.int i) (.ty "str")=some (rd (.bl false)):=rfl
theorem j8:cC (.int i) (.ty "int")=some (rd (.bl true)):=rfl
theorem j9:cC (.int i) (.ty "bool")=some (rd (.bl false)):=rfl
end
section
variable{rf:Nat->GM}{q:Nat}{v u:Val}{S:aU}{z:Str}{i:Int}{ds:List D}
theorem Pz(hv:iG S v=some .aI):nA rf q [some v,ar .aI,none,none] S=some (.rt (rd (.bl true)) S):=by
 unfold nA;simp only[↓ev,ay,j3,hv]
theorem PB(hv:iG S v=some (.str z)):nA rf q [some v,aY z,none,none] S=some (.rt (rd (.bl true)) S):=by
 unfold nA;simp only[↓ev,ay,j1,hv]
theorem PC(hv:iG S v=some (.int i)):nA rf q [some v,bx i,none,none] S=some (.rt (rd (.bl true)) S):=by
 unfold nA;simp only[↓ev,ay,j2,j7,hv,j8,j9]
noncomputable abbrev vt:Bool->List D->D
 |true,ds=>.tup ds
 |false,ds=>.lst ds
theorem e6v{d:D}(hv:iG S v=some (vt tt ds))(U:iG S u=some (vt tt ds))(Y:du ds i=some d)(V:rf q [.d d,.d d] S=some (.ok (rd (.bl true)) S)):AZ rf q [some v,some u,a2,bx i] S=some (.nx [some v,some u,a2,bx i] S):=by
 unfold AZ;cases tt with
 |true=>simp only[↓ev,hv,Y,U,V,ay]
 |false=>simp only[↓ev,hv,Y,U,V,ay]
theorem Yy(hv:iG S v=some (vt tt ds))(B:iG S u=some (vt tt ds))(V:∀d∈ds,rf q [.d d,.d d] S=some (.ok (rd (.bl true)) S)):∃a3,aM (ae 3) (AZ rf q) (fS 0 ds.length) [some v,some u,a2,none] S=some (.nx [some v,some u,a2,a3] S):=by
 rw[mL];obtain⟨T,S',e,⟨a3,rfl⟩,rfl⟩:=f_ (ae 3) (AZ rf q) (λi:Nat=>D.int (i:Int)) S (λpre U S'=>(∃a3,U=[some v,some u,a2,a3])/\S'=S) (List.range ds.length) ⟨⟨none,rfl⟩,rfl⟩ (by
  rintro d i post Y U S' ⟨⟨a3,rfl⟩,rfl⟩;obtain⟨_,hi⟩:=EG Y;exact⟨_,_,_,rfl,.inl (e6v hv B (qd (gu hi)) (V _ (Aj hi))),⟨_,rfl⟩,rfl⟩)
 exact⟨a3,e⟩
theorem PD(hv:iG S v=some (vt tt ds))(Y:iG S u=some (vt tt ds))(hl:ds.length<=1000)(V:∀q,∀d∈ds,rf q [.d d,.d d] S=some (.ok (rd (.bl true)) S)):nA rf q [some v,some u,none,none] S=some (.rt (rd (.bl true)) S):=by
 have e:=λq=>Yy (rf:=rf) (q:=q) (a2:=(ar (.bl true))) hv Y (V q)
 have hz:Nat.ble ((ds.length:Nat):Int).natAbs 1000000000000=true:=by rw[GL];lia
 have tn:((ds.length:Nat):Int).toNat=ds.length:=DG _;unfold nA;cases tt with
 |true=>
  obtain⟨a3,e⟩:=e q;simp only[↓ev,ay,Y,j5,hv,hz,tn,Nat.max_zero,e]
 |false=>
  obtain⟨a3,e⟩:=e q;simp only[↓ev,ay,Y,j4,j6,hv,hz,tn,Nat.max_zero,e]
theorem uC(e:nA rf q [some v,some u,none,none] S=some (.rt (rd (.bl true)) S)):aV 2 4 (nA rf) q [v,u] S=some (.ok (rd (.bl true)) S):=by
 unfold aV;generalize nA rf q=ml at *;simp only[↓ev,e,ay]
theorem PF{d:D}(h:sD n d=true):iG S (.d d)=some d:=by
 cases d with
 |ref m=>cases n <;> cases h
 |_=>rfl
theorem NB(n:Nat):∀d,sD n d=true->∀j,n<j->∀q S v,iG S v=some d->xI 2 4 nA j q [v,.d d] S=some (.ok (rd (.bl true)) S):=by
 induction n with
 |zero=>
  intro d h j U q S v hv;cases j with
  |zero=>lia
  |succ j=>
   cases d with
   |aI=>exact uC (Pz hv)
   |str z=>exact uC (PB hv)
   |int z=>exact uC (PC hv)
   |_=>cases h
 |succ n B=>
  intro d h j U q S v hv;cases j with
  |zero=>lia
  |succ j=>
   have go:∀tt l,(l.all (sD n)&&decide (l.length<=1000))=true->iG S v=some (vt tt l)->xI 2 4 nA (j+1) q [v,.d (vt tt l)] S=some (.ok (rd (.bl true)) S):=λtt l h hv=>by
    obtain⟨Y,V⟩:=vD.mp h;exact uC (PD hv (by cases tt <;> rfl) (pT V) λq d hd=>B d (jS.mp Y d hd) j (by lia) q S _ (PF (jS.mp Y d hd)))
   cases d with
   |aI=>exact uC (Pz hv)
   |str z=>exact uC (PB hv)
   |int z=>exact uC (PC hv)
   |lst l=>exact go false l h hv
   |tup l=>exact go true l h hv
   |_=>cases h
theorem IS{d:D}(h:sD 4 d=true)(hv:iG S v=some d):qc q [v,.d d] S=some (.ok (rd (.bl true)) S):=NB 4 d h 5 (by decide) q S v hv
theorem Yz{l:List D}(h:l.all (sD 3)=true)(hl:l.length<=1000)(hv:iG S v=some (.lst l))(Y:iG S u=some (.lst l)):qc q [v,u] S=some (.ok (rd (.bl true)) S):=
 uC (rf:=xI 2 4 nA 4) (PD (tt:=false) hv Y hl λq d hd=>NB 3 d (jS.mp h d hd) 4 (by decide) q S _ (PF (jS.mp h d hd)))
end
section
variable{l:List Cell}{h:aA}{r:Int}{x:Hl}{n:Nat}{X Q:List (Str×D)}{w:Row}
theorem YA(g:aH h)(sl:∀b∈h.af,0<=b.long/\b.long<=1000)(o:Ok h n x)(U:fD h r x X)(T:fD h r x Q)(hw:w∈x.rows):nU X w=nU Q w:=by
 have Y:((ord h x.rows).zipIdx (([]:List Cell).length+1)).map (·.1)=ord h x.rows:=LR ..
 have sg:=Jc (h:=h) (x:=x) (s:=[]) (R:=[]) (k:=0) (Jb (M:=ord h x.rows) (c:=.o (.lst [])));have s2:=sg.up [.o (.ao (cq (ah h r x) (ord h x.rows)))];have V:Sw h r x _ _ _ _ 1 _:=⟨s2,rfl⟩;have e:=(Ja g sl o V Y U hw).symm.trans (Ja g sl o V Y T hw)
 lia
theorem e6w(g:aH h)(sl:∀b∈h.af,0<=b.long/\b.long<=1000)(o:Ok h n x)(V:fD h r x X)(U:fD h r x Q):(ord h x.rows).map (dI X (ah h r x))=(ord h x.rows).map (dI Q (ah h r x))/\cJ h r x X=cJ h r x Q:=by
 have key:∀w∈ord h x.rows,dI X (ah h r x) w=dI Q (ah h r x) w/\nk X w=nk Q w:=λw m=>by
  have e:=YA g sl o V U (o.mem.mp m)
  grind [Fo]
 refine⟨lY λw m=>(key w m).1,?_⟩
 have Y:cO h x X=cO h x Q:=List.filter_congr λw m=>(key w m).2
 unfold cJ;rw[Y]
theorem e6x(t:fD h r x X):sD 3 (dI X (ah h r x) w)=true:=by
 rcases Fo (w:=w) t with⟨_,_,_,_,e⟩|⟨_,_,e⟩ <;> rw[e]
 .rfl
 .obtain⟨u,_|v⟩:=ah h r x w <;> rfl
theorem e6y:sD 3 (bI w)=true:=by
 unfold bI;cases w.fl <;> rfl
end
section
variable{s R1 R2 Y Q:List Cell}{h:aA}{r V U nw:Int}{x:Hl}{n K:Nat}{hd:D}{st J G W:List (TK×D)}{lg bg gn:List D}
theorem YB(B:cG 0 [eB] ⟨s,R1⟩=some (.ok (.o (.ao st)) ⟨s,R2⟩))(T:AY 0 [.d hd,.c s.length,aT r] ⟨s++[.o (.ao st)],R2⟩=some (.ok (rd (.lst lg)) ⟨s++[.o (.ao J)],Y⟩))(R:Bv 0 [eB] ⟨s++[.o (.ao J)],Y⟩=some (.ok (.o (.lst lg)) ⟨s++[.o (.ao J)],Q⟩))
  (hA:∀S,qc 0 [.d (.lst lg),.d (.lst lg)] S=some (.ok (rd (.bl true)) S)) (hM:∀S,qc 0 [aT nw,aT nw] S=some (.ok (rd (.bl true)) S)) (hB:∀S,qc 0 [.d (.lst bg),.d (.lst bg)] S=some (.ok (rd (.bl true)) S)) (hO:∀t,qc 0 [.d (.lst gn),.d (.ref K)] ⟨t,Q⟩=some (.ok (rd (.bl true)) ⟨t,Q⟩))
  (D:∀l,y0 0 [eB] ⟨s++.o (.ao J)::l,Q⟩=some (.ok (rd (.int nw)) ⟨s++.o (.ao J)::l,Q⟩)) (I:∀l,rK 0 [eB] ⟨s++.o (.ao J)::l,Q⟩=some (.ok (.o (.lst bg)) ⟨s++.o (.ao J)::l,Q⟩)) (O:∀l,A8 0 [.d hd,.c s.length] ⟨s++.o (.ao J)::l,Q⟩=some (.ok (.o (.lst bg)) ⟨s++.o (.ao J)::l,Q⟩)) (q:∀l,zv 0 [eB] ⟨s++.o (.ao J)::l,Q⟩=some (.ok (.o (.lst gn)) ⟨s++.o (.ao J)::l,Q⟩))
  (vK:aG J (.inr "gone")=some (.ref K)) (vN:aG J (.inr "now")=some (.int nw)) (m:Q[0]?=some (.ins cHall (hF hd U V 0))):bV 0 [eB,.d hd,aT r] ⟨s,R1⟩=some (.ok (rd (.bl true)) ⟨s,Q⟩):=by
 unfold bV;simp only[↓ev,B,ay,T,R,hA,m,D,vN,hM,I,O,hB,q,vK,hO]
end
section
variable{s B:List Cell}{h:aA}{r:Int}{x:Hl}{n:Nat}
theorem YC(g:aH h)(sl:∀b∈h.af,0<=b.long/\b.long<=1000)(o:Ok h n x)(hn:n<64):∃O I,bV 0 [eB,.d (aF h),aT r] (hS B (aF h) r x s)=some (.ok (rd (.bl true)) (hS O (aF h) r I s))/\Ok h n I:=by
 have rl:=o.rl;have pe:=o.perm.length_eq;have sz:=o.sz;have q:=e6b (B:=B) (s:=s) (r:=r) g o hn;refine kY λkz=>?_
 obtain⟨X,tn,_⟩:=Pp (B:=B) (s:=s) (r:=r) g o (by lia)
 obtain⟨V,Y,h2,h4,pm,hk⟩:=VQ (s:=s) (R:=hR (aF h) r x B) g sl o (by lia) tn
 obtain⟨X2,T,D⟩:=Pp (B:=B++.o (.ao (inD V))::Y) (s:=s++[.o (.ao (mQ h (cJ h r x X) (hR (aF h) r x B).length ((hR (aF h) r x B).length+((ord h x.rows).length+1))))]) (r:=r) g o (by lia)
 obtain⟨e1,e2⟩:=e6w g sl o tn T;rw[<-e1,<-e2] at D;have o2:=o.turn g tn;have rl2:=o2.rl;have pe2:=o2.perm.length_eq;have sz2:=o2.sz;have U:Sg h (cJ h r x X) V _ ((hR (aF h) r x B).length+((ord h x.rows).length+1)) s.length _:=Jc (R:=hR (aF h) r (cJ h r x X) B) (h:=h) (x:=cJ h r x X) h4;have ll:((ord h x.rows).map (dI X (ah h r x))).length<=1000:=by rw[ba];lia
 have lb:((ord h (cJ h r x X).rows).map bI).length<=1000:=by rw[ba];lia
 have lo:(l0 (cJ h r x X).gone).length<=1000:=by unfold l0;rw[ba];lia
 refine kz ?_;refine⟨_,_,YB q h2 D (λS=>IS ?_ rfl) (λS=>IS rfl rfl) (λS=>IS ?_ rfl) (λt=>Yz ?_ lo rfl ?_) (λl=>Ny) (λl=>zJ g o2) (λl=>?_) (λl=>Pk) OG BC rfl,o2⟩
 .show(_&&decide (_<=1000))=true;rw[nh ll,LD];exact jS.mpr λd m=>by
   obtain⟨w,_,rfl⟩:=fU.mp m;exact e6x tn
 .show(_&&decide (_<=1000))=true;rw[nh lb,LD];exact jS.mpr λd m=>by
   obtain⟨w,_,rfl⟩:=fU.mp m;exact e6y
 .exact jS.mpr λd m=>by
   obtain⟨w,_,rfl⟩:=fU.mp m;rfl
 .show((hR (aF h) r (cJ h r x X) B++.o (.ao (inD V))::Y)[(hR (aF h) r (cJ h r x X) B).length+((ord h x.rows).length+1)]?).bind Cell.iG=_;rw[zB];show(Y[(ord h x.rows).length]?).bind Cell.iG=_;rw[hk];rfl
 .have e:=Yc g sl o2 (U.up l) pm
  rwa[jz] at e
end
variable{S E:aU}{hd:D}
theorem TU{d:D}(hd:iK d):∃t Y,d=.tup (.str t::Y)/\(t == ("turn":Str))=false:=by
 cases hd <;> exact⟨_,_,rfl,by decide +kernel⟩
section
variable{h:aA}{r:Int}{x:Hl}{n:Nat}{d:D}{g0 g4 a4 a5 a6:ai Val}{ns:List Int}
theorem e6z(e:bV 0 [eB,.d hd,aT r] S=some (.ok (rd (.bl true)) E)):iO 0 [g0,ar hd,bx r,cR,g4,a5,a6] S=some (.nx [g0,ar hd,bx r,cR,g4,a5,a6] E):=by
 unfold iO;simp only[↓ev,e,ay]
def At(h:aA)(r:Int)(n:Nat)(S:aU):Prop:=∃B x,S=hS B (aF h) r x []/\Ok h n x
theorem YD(g:aH h)(sl:∀b∈h.af,0<=b.long/\b.long<=1000)(a:At h r n S)(R:n<64)(m:Nat):∃Y S',At h r n S'/\aM (ae 6) (iO 0) (fS 0 m) [g0,ar (aF h),bx r,cR,g4,a5,a6] S=some (.nx [g0,ar (aF h),bx r,cR,g4,a5,Y] S'):=by
 rw[mL];refine kY λI=>?_
 obtain⟨q,S',e,⟨Y,rfl⟩,T⟩:=f_ (ae 6) (iO 0) (λ(i:Nat)=>D.int (i:Int)) S (λpre U S'=>(∃a6,U=[g0,ar (aF h),bx r,cR,g4,a5,a6])/\At h r n S') (List.range m) ⟨⟨a6,rfl⟩,a⟩ (by
  rintro d i post t U S' ⟨⟨a6,rfl⟩,B,x,rfl,o⟩;obtain⟨V,O,e,o'⟩:=YC (r:=r) (s:=[]) (B:=B) g sl o R;exact⟨_,_,_,rfl,.inl (e6z e),⟨_,rfl⟩,V,O,rfl,o'⟩)
 refine I ?_;exact⟨Y,S',T,e⟩
theorem YE(g:aH h)(sl:∀b∈h.af,0<=b.long/\b.long<=1000)(a:At h r n S)(T:n<64)(Y:iK d\/∃m:Int,1<=m/\m<=12/\d=ky m):∃V S',At h r (n+1) S'/\fH 0 [g0,ar (aF h),bx r,cR,g4,ar d,a6] S=some (.nx [g0,ar (aF h),bx r,cR,g4,ar d,V] S'):=by
 rcases Y with Y|⟨m,m1,m12,rfl⟩
 .obtain⟨B,x,rfl,o⟩:=a;refine kY λR=>?_
  obtain⟨v,D,o',e⟩:=e5u (B:=B) (s:=[]) (r:=r) g o (by lia) Y
  obtain⟨t,I,rfl,ht⟩:=TU Y;refine R ?_;refine⟨a6,_,⟨B,D,rfl,o'⟩,?_⟩;clear Y;generalize aF h=hd at *;unfold fH;simp only[↓ev,ay,ht,e]
 .obtain⟨V,S',⟨B,x,U,o⟩,e⟩:=YD (g0:=g0) (g4:=g4) (a5:=(ar (ky m))) (a6:=a6) g sl a T m.toNat;have hz:Nat.ble m.natAbs 1000000000000=true:=by rw[GL];lia
  refine⟨V,S',⟨B,x,U,o.up⟩,?_⟩;generalize aF h=hd at *;unfold fH;unfold ky at e ⊢;simp only[↓ev,ay,hz,eD,e]
theorem VR(g:aH h)(sl:∀b∈h.af,0<=b.long/\b.long<=1000)(a:At h r n S)(ds:List D)(hl:n+ds.length<64)(O:∀d∈ds,iK d\/∃m:Int,1<=m/\m<=12/\d=ky m):∃T Y S',At h r (n+ds.length) S'/\aM (ae 5) (fH 0) ds [g0,ar (aF h),bx r,cR,g4,a5,a6] S=some (.nx [g0,ar (aF h),bx r,cR,g4,T,Y] S'):=by
 have key:=f_ (ae 5) (fH 0) (λd:D=>d) S (λpre U S'=>(∃a5 a6,U=[g0,ar (aF h),bx r,cR,g4,a5,a6])/\At h r (n+pre.length) S') ds ⟨⟨a5,a6,rfl⟩,a⟩ (by
  rintro p d post R U S' ⟨⟨a5,a6,rfl⟩,V⟩;have hp:p.length+1<=ds.length:=by
   simp_all
  obtain⟨Y,E,a2,e⟩:=YE (g0:=g0) (g4:=g4) (a6:=a6) g sl V (by lia) (O d (by rw[R];simp))
  refine⟨_,_,_,rfl,.inl e,⟨_,_,rfl⟩,?_⟩;rw[cZ,sj];exact a2)
 rw[List.map_id'] at key;refine kY λI=>?_
 obtain⟨q,S',e,⟨T,Y,rfl⟩,V⟩:=key;refine I ?_;exact⟨T,Y,S',V,e⟩
theorem YF{Y:Int}{ds:List D}{U V:ai Val}(ed:v5 0 [.d (bC ns),aT Y,.d hd] S=some (.ok (.o (.lst ds)) S))(e:aM (ae 5) (fH 0) ds [ar (bC ns),ar hd,bx r,cR,bx Y,a5,a6] S=some (.nx [ar (bC ns),ar hd,bx r,cR,bx Y,U,V] E)):gE 0 [ar (bC ns),ar hd,bx r,cR,bx Y,a5,a6] S=some (.nx [ar (bC ns),ar hd,bx r,cR,bx Y,U,V] E):=by
 unfold gE;simp only[↓ev,ed,eD,e]
theorem e8q(g:aH h)(sl:∀b∈h.af,0<=b.long/\b.long<=1000)(R:0<h.af.length)(a:At h r 0 S)(m:Nat)(hm:m<=25):∃Y S',aM (ae 4) (gE 0) (lU 15 2 m) [ar (bC ns),ar (aF h),bx r,cR,a4,a5,a6] S=some (.nx Y S'):=by
 have er:lU 15 2 m=(List.range m).map λi=>D.int ((15+2*i:Nat):Int):=by
  grind [lU]
 rw[er];obtain⟨Y,S',e,_⟩:=f_ (ae 4) (gE 0) (λi:Nat=>D.int ((15+2*i:Nat):Int)) S (λpre U S'=>(∃a4 a5 a6,U=[ar (bC ns),ar (aF h),bx r,cR,a4,a5,a6])/\At h r (2*pre.length) S') (List.range m) ⟨⟨a4,a5,a6,rfl⟩,a⟩ (by
  rintro p i post O U S' ⟨⟨a4,a5,a6,rfl⟩,T⟩;obtain⟨q,hi⟩:=EG O;obtain⟨ds,V,ed⟩:=X5 (ns:=ns) g R (15+2*i) (by lia) S'
  have dl:=V.1;obtain⟨nC,t,E,⟨B,x,I,o⟩,e⟩:=VR (g0:=(ar (bC ns))) (g4:=(bx ((15+2*i:Nat):Int))) (a5:=a5) (a6:=a6) g sl T ds (by lia) V.2
  refine⟨_,_,_,rfl,.inl (YF ed e),⟨_,_,_,rfl⟩,B,x,I,?_⟩;rw[cZ,sj];exact⟨o.rw,o.nd,o.un,o.bk,o.bn,o.gi,o.rl,jy o.sz (by lia)⟩)
 exact⟨Y,S',e⟩
noncomputable def x0:Hl:=⟨0,[],[],[],[]⟩
theorem u9(h:aA):Ok h 0 x0:=⟨λw m=>(by cases m),Gu,Gu,λp m=>(by cases m),Gu,λp m=>(by cases m),by decide,by decide⟩
theorem e7a(e:mF 0 [ar (bC ns),none,none,none,none,none,none] ⟨[],[]⟩=some (.rt (rd (.bl true)) E)):∃S,n9 0 [.d (bC ns)] ⟨[],[]⟩=some (.ok (.v (.d (.bl true))) S):=by
 refine⟨E.cut 0,?_⟩;unfold n9 aV;generalize mF 0=ml at *;simp only[↓ev,e]
theorem e7b{t:Int}{V:Gm}{S':aU}(U:P0 y8 [.d (bC ns)] (rd hd))(T:Pr kG [.d (bC ns),aT 14,aT 3] (rd (.int r)))(hi:Ba 0 [eB,.d hd,aT r] ⟨[],[.ins cHall []]⟩=some (.ok (rd .aI) (hS [] hd r x0 [])))(ho:Pr jL [.d (bC ns),aT 14,aT 20] (rd (.int t)))(hm:(-2^64<(2:Int)/\(2:Int)<2^64 \/ -2^64<t/\t<2^64)=True)(hz:Nat.ble (23+2*t).natAbs 1000000=true)
  (hl:aM (ae 4) (gE 0) (lU 15 2 (gh 15 (23+2*t))) [ar (bC ns),ar hd,bx r,cR,none,none,none] (hS [] hd r x0 [])=some (.nx V S')):mF 0 [ar (bC ns),none,none,none,none,none,none] ⟨[],[]⟩=some (.rt (rd (.bl true)) S'):=by
 unfold mF;have Y:Nat.ble (15:Int).natAbs 1000000=true:=by decide
 simp only[↓ev,U,ay,T,hi,ho,hm,Y,hz,eD,hl]
theorem PH:∀{bs:List av},(∀b∈bs,0<=b.long)->0<=jG bs/\∀b∈bs,b.long<=jG bs
 |[],_=>⟨by unfold jG;simp,λb m=>by cases m⟩
 |c::bs,h=>by
  obtain⟨V,Y⟩:=PH (bs:=bs) λb m=>h b (.tail _ m)
  have hc:=h c (.head _);have e:jG (c::bs)=c.long+jG bs:=by unfold jG;simp
  rw[e];refine⟨by lia,λb m=>?_⟩
  rcases y0c.mp m with rfl|m
  .lia
  .have:=Y b m;lia
theorem e8r:∀ns:List Int,ns.length<=63->∃S,n9 0 [.d (.lst (ns.map D.int))] ⟨[],[]⟩=some (.ok (.v (.d (.bl true))) S):=by
 intro ns _;refine kY λR=>?_
 obtain⟨h,g,sl,V,m,c4,U⟩:=Xt ns;obtain⟨_,r0,r4⟩:=ik ns 14 0 3 (by decide) (by decide) (by decide)
 have T:Pr kG [.d (bC ns),aT 14,aT 3] _:=wo ns 14 3 (by decide) (by decide)
 obtain⟨_,t0,I⟩:=ik ns 14 1 20 (by decide) (by decide) (by decide)
 have ho:Pr jL [.d (bC ns),aT 14,aT 20] _:=ux ns 14 20 (by decide) (by decide)
 have O:∀b∈h.af,0<=b.long/\b.long<=1000:=λb hb=>by
  have Y:∀b∈h.af,0<=b.long:=λb hb=>by have:=(g.lg b hb).1;lia
  have:=(PH Y).2 b hb;exact⟨Y b hb,by lia⟩
 refine R ?_;generalize cy ns 14 0 3=r at *;generalize cy ns 14 1 20=t at *;obtain⟨q,S',hl⟩:=e8q (ns:=ns) (r:=r) (a4:=none) (a5:=none) (a6:=none) g O V ⟨[],x0,rfl,u9 h⟩ (gh 15 (23+2*t)) (by unfold gh;lia)
 exact e7a (e7b U T (δ (S:=⟨[],[]⟩) g) ho (br (.inl (by decide))) (by rw[GL];lia) hl)
end
variable{w:cL}{K:aP}{mg:Str->ai ak}{l:PySem.W.OpenLaw}
def oR(K:aP):L2.Sp:=λvs H Q _=>∃(a:aj) (ns:List Int),vs=[.ref a]/\c7 K H a (ns.map V.int)/\ns.length<=63/\∀H',Q (.bl true) H'
theorem e7c{P:dq}{base:bZ}(T:Txt K mg):dO P w K mg base (lr P w) 8 (fA K none "law") (fF K (fA K none "law")) ["_law_script"] (oR K):=by
 exact Xj (Z9 T 0) e8r
theorem us_n{us:List ak}(h:us.length=n):us=(List.range n).map (us.getD · .none):=by
 subst h;exact List.ext_getElem (by simp) λi _ _=>by simp[*]
theorem fin_mk{h:bZ}{V:aj}(X:K.In h)(G:h.Ns mainGlobals mg)(Y:mg "law"=some (.ref V))(T:Txt K mg)
  : ∃fd:kR,(∀s v,BindsTo s fd ⟨[v],[]⟩ [("_law_script",v)])/\∀base:bZ,K.In base->base.Ns mainGlobals mg->dO l.prog w K mg base (lr l.prog w) 8 V fd ["_law_script"] (oR K):=by
 have D:Df K mg "law" (top 71):=T.F 50;have e:=Y.symm.trans D.mg;cases e;obtain⟨oc,od,kV,doc,pm,an,fI,ct,oF,e,_,_⟩:=D.fn.ex;exact⟨_,λs v=>by rw[e];exact .of_eq rfl,λbase _ _=>e7c T⟩
theorem walk{q:dq}{Y:List Str}{B:(Str->ai ak)->bZ->Prop}{V:cL->bZ->Prop}{d:DefRec}{K:Params->aP}(R:l.most=some 63)(Ca:d.params.defaults=[])
  (T:∀w h,V w h->(K w.params).In h)
  (F:∀w mg U h,(K w.params).In h->h.Ns mainGlobals mg->mg d.name=some (.ref U)-> ∃fd:kR,(∀s u,BindsTo s fd ⟨[u],[]⟩ [("_law_script",u)])/\∀base:bZ,(K w.params).In base->base.Ns mainGlobals mg->dO l.prog w (K w.params) mg base (lr l.prog w) 8 U fd ["_law_script"] (oR (K w.params))) :
  PySem.W.WalkO q Y B V l.row.toRowW d [] (λf vs=>PySem.call f vs):=
 L2.ub (n:=63) (k:=8) (x:="_law_script") (CX:=λw=>lr l.prog w) (sp:=λw=>oR (K w.params)) R (by decide) Ca ⟨rfl,by decide,by decide⟩ T F (λ_ _ a ns hl _ hS=>⟨a,ns,rfl,hS,hl,λ_=>rfl⟩) λ_ _ _ _ _ ⟨_,_,_,_,_,_,z⟩=>z
end Carry
end
open PySem PySem.W PyProof.Rows
set_option maxRecDepth 100000 in
set_option maxHeartbeats 0 in
theorem PySem.Challenge.cw_carry_k66_a_turn_holds : PySem.Challenge.rw_carry_k66_a_turn.Holds := by
 simp -failIfUnchanged only[Carry.Hd.hd0];w_on;o_law;(try simp only[Carry.Hd.hd]);k_head;(case hw=>w_witness2)
 k_fill
 refine Carry.walk (l:=PySem.Challenge.rw_carry_k66_a_turn) rfl rfl (λw h Y=>PySem.W.kIn_of Y) ?F
 case F=>
  intro w mg fa h KX G hmg;refine' Carry.fin_mk KX G hmg ?T;constructor
  case atr=>
   intro p hp;simp only[Carry.atrs,y0c,y1m,or_false] at hp;rcases hp with rfl|rfl|rfl|rfl|rfl|rfl|rfl|rfl|rfl|rfl <;> (dsimp only[Carry.cHall];exact⟨⟨by k_is,by k_is,by k_is,by k_is⟩,by show _=_;k_is⟩)
  case er=>
   refine' ⟨λp hp=>?_,?GB,?hB⟩
   case GB=>(refine' L2.errC_mk ?zl ?zm ?zs ?zi;(case zl=>k_is);(case zm=>k_is);(case zs=>kernel_rfl);(case zi=>kernel_rfl))
   case hB=>refine' PySem.W.mg_of KX G ?_;k_is
   simp only[Carry.errTab,y0c,y1m,or_false] at hp;rcases hp with rfl|rfl|rfl|rfl|rfl|rfl|rfl|rfl|rfl <;> (dsimp only;refine' ⟨PySem.W.mg_of KX G ?_,?zd,?_⟩;(case zd=>refine' L2.errC_mk ?zl ?zm ?zs ?zi;(case zl=>k_is);(case zm=>k_is);(case zs=>kernel_rfl);(case zi=>kernel_rfl));all_goals k_is)
  case' F=>(intro j;dsimp only[Carry.fnT];(iterate 51 (rcases j with _|j;rotate_left));simp only[List.getD_cons_succ,List.getD_nil])
  case' G=>(intro j;dsimp only[Carry.mHall];(iterate 24 (rcases j with _|j;rotate_left));simp only[List.getD_cons_succ,List.getD_nil])
  case' B=>(intro j;dsimp only[Carry.bnT];(iterate 14 (rcases j with _|j;rotate_left));simp only[List.getD_cons_succ,List.getD_nil])
  all_goals first|refine' L2.dM KX G ?_ ?_ ?_|refine' L2.mM ?_ ?_ ?_ ?_|refine' L2.mK ?_ ?_ ?_ ?_|refine' L2.Cls.mk ?_ ?_ ?_ ?_|refine' L2.kM KX G ?_|refine' PySem.W.mg_of KX G ?_|refine' PySem.W.mg_none_of KX G ?_
  all_goals (try dsimp only[Carry.cHall])
  all_goals first|(refine' L2.fun_mk ?zl ?zc ?zk;(case zl=>k_is);(case zc=>k_is);(case zk=>k_is))|(intro _ _ _ _ _ _ us hl;rw[Carry.us_n hl];rfl)|k_is|(show _=_;k_is)|skip
  all_goals (try (refine' L2.fun_mk ?zl ?zc ?zk;(case zl=>k_is);(case zc=>k_is);(case zk=>k_is)))