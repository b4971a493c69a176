import PyProof.Rows.All
import Wide.All
import OpenK.AllK
import Wide.FinOn
import Lean
import PyProof.EqAt
import PyProof.EqKinds
import PyProof.TupleCall
import PyProof.StationsW
import PyProof.NeKinds
import KE.KRevIter
import PyProof.SeqI3
import PyProof.ZipIter
import PyProof.EnumIter
import PyProof.EnumStmt
import PyProof.EnumMake
import PyProof.WalksEnum
import PyProof.ExcClass3
import PyProof.ExcInit
import PyProof.ExcBaseAll.ValueError
import PyProof.ExcArgsOwn
import KE.KIsAll
import PyProof.ExcAttrAll.ValueError
import PyProof.InstStoreFacts
import KE.KTryMore
import PyProof.RulesAs
import PyProof.NsDelKeeps
import KE.KDictList
import KE.KItemsList
import PyProof.Rows.SortShell
import KE.IntTextLaws
import KE.KIntText
import PyProof.MeetsSeq
import PyProof.SeqRoads2
import PyProof.Rows.SortRev
import PyProof.Rows.CallKwBuiltin
import KE.KSort
import PySem.Challenge.RW_carry_k02_houses_fit_or_refused
set_option linter.all false
set_option bootstrap.genMatcherCode false
set_option compiler.extract_closed false
set_option genSizeOf false
set_option genSizeOfSpec false
namespace Carry.Hd
open Lean Meta PySem PySem.W
abbrev Ex:=Lean.Expr
def fit(ds:Array (Ex×Ex×Ex)):MetaM (Array (Ex×Ex×Ex)):=do
 let cs:Std.HashSet Ex:=ds.foldl (fun z d=>if d.1.isConst then z.insert d.1 else z) {}
 ds.filterM fun d=>do
  let ty:=Fast.bareType (<-inferType d.1)
  return (ty.find? fun y=>cs.contains y || y.isConstOf ``PySem.W.Frag).isNone
def spots(ds:Array (Ex×Ex×Ex)):Std.HashMap Ex Nat:=ds.zipIdx.foldl (fun z d=>z.insert d.1.1 d.2) {}
def parts(tw:Name->MetaM Unit)(v:Ex):MetaM (Array (Ex×Ex×Ex)):=do
 for x in Fast.constsOf v do
  if let .const c _:=x then
   if((<-getEnv).getModuleIdxFor? c).isNone || (`PySem.Challenge).isPrefixOf c then tw c
 fit (<-Fast.twinsIn v)
def twin:Nat->Name->MetaM Unit
 |0,_=>return
 |k+1,c=>do
  let (n,e) <-Fast.stemIn c true
  if(<-getEnv).contains e then return
  if let some none:=(<-Fast.primed.get).get? c then return
  let some (.defnInfo d):=(<-getEnv).find? c|return
  let ds <-parts (twin k) d.value
  if ds.isEmpty then
   Fast.primed.modify fun z=>z.insert c none
   return
  let tys <-ds.mapM fun x=>inferType x.1
  let ty <-inferType d.value
  let ix:=spots ds
  let G <-Fast.withLocals tys.toList #[] fun xs=>mkLambdaFVars xs (Fast.putIn ix (fun i=>xs[i]!) d.value)
  let mut B:=#[ty]
  for q in tys.reverse do B:=B.push (<-mkArrow q B.back!)
  let m:=ds.size
  let mut f:=G
  let mut g:=G
  let mut pf:=mkApp2 (mkConst ``Eq.refl [<-getLevel B[m]!]) B[m]! G
  for i in [0:m] do
   let (x,y,h):=ds[i]!
   pf:=mkAppN (mkConst ``congr [<-getLevel tys[i]!,<-getLevel B[m - 1 - i]!]) #[tys[i]!,B[m - 1 - i]!,f,g,x,y,pf,h]
   f:=mkApp f x
   g:=mkApp g y
  withOptions (Elab.async.set · false) do
   addDecl (.defnDecl { name:=n,levelParams:=[],type:=d.type,value:=Fast.putIn ix (fun i=>ds[i]!.2.1) d.value,hints:=d.hints,safety:=.safe})
   addDecl (.thmDecl { name:=e,levelParams:=[],type:=<-mkEq (mkConst c) (mkConst n),value:=pf})
  Fast.primed.modify fun z=>z.insert c (some (n,e))
def prep(v:Ex):MetaM (Array (Ex×Ex×Ex)):=parts (twin 9) v
def put(stem:Name)(ty v:Ex):MetaM Ex:=do
 let ds <-prep v
 let c <-defAt stem ty (Fast.putIn (spots ds) (fun i=>ds[i]!.2.1) v)
 Fast.primed.modify fun z=>z.insert c.constName! none
 return c
abbrev Objs:=Array (Obj×Obj×Ex)
def lay(old:Objs)(s t:Shared):MetaM Objs:=do
 let P:=mkConst ``Params
 unless s.heap.objs.size == t.heap.objs.size && s.toks == t.toks && toExpr s.drawn == toExpr t.drawn && toExpr s.heap.life == toExpr t.heap.life do throwError "the worlds part"
 let mut out:=#[]
 for i in [0:s.heap.objs.size] do
  let (a,b):=(s.heap.objs[i]!,t.heap.objs[i]!)
  if let some (a',b',e):=old[i]? then
   if sameObjNow a' a && sameObjNow b' b then
    out:=out.push (a',b',e)
    continue
  let v <-withLocalDeclD `P P fun p=>do
   let e:=objE p a
   unless e == objE p b do throwError "an object is the world's"
   mkLambdaFVars #[p] e
  out:=out.push (a,b,<-put `o (<-mkArrow P (mkConst ``Obj)) v)
 return out
def state(l:Bool)(old:Objs)(s t:Shared):MetaM (Objs×W.State):=do
 let P:=mkConst ``Params
 let os <-lay old s t
 let life:=toExpr s.heap.life
 let S:W.State:={ heap:=default,gens:=<-gensE s t,drawn:=toExpr s.drawn,toks:=mkRawNatLit s.toks}
 if l then
  let v <-withLocalDeclD `P P fun p=>mkLambdaFVars #[p] (mkApp2 (mkConst ``Heap.mk) (mkApp2 (mkConst ``Array.mk [0]) (mkConst ``Obj) (listE (mkConst ``Obj) (os.toList.map fun x=>mkApp x.2.2 p))) life)
  return (os,{ S with heap:=<-put `h (<-mkArrow P (mkConst ``Heap)) v})
 let v <-withLocalDeclD `P P fun p=>mkLambdaFVars #[p] (treeE p (os.map (·.2.2)) 1 0)
 return (os,{ S with tree:=some (<-put `t (<-mkArrow P (mkConst ``BT)) v,mkRawNatLit s.heap.objs.size,life)})
def aux(ty pf:Ex):MetaM Ex:=do return mkConst (<-withOptions (Elab.async.set · false) (mkAuxLemma [] ty pf (cache:=false)))
def look:Nat->Ex->Ex->MetaM Ex
 |k,l,r=>do
  let W:=mkConst ``World
  let O:=mkConst ``OsState
  let q <-withLocalDeclD `w W fun w=>withLocalDeclD `os O fun os=>do
   let un (e:Ex):MetaM Ex:=do
    let e:=(mkApp2 e w os).headBeta
    if e.isAppOf ``openSeen || e.isAppOf ``openGood then return (<-unfoldDefinition? e).getD e
    return e
   let (a,b):=(<-un l,<-un r)
   unless a.isAppOfArity ``Prod.mk 4 && b.isAppOfArity ``Prod.mk 4 do return none
   let sh (e:Ex) (i:Nat):MetaM Ex:=mkLambdaFVars #[w,os] (e.getArg! i)
   return some (<-sh a 2,<-sh b 2,<-sh a 3,<-sh b 3)
  match k,q with
  |n+1,some (a1,b1,a2,b2)=>
   let (x,y):=(<-look n a1 b1,<-look n a2 b2)
   let (ty,pf) <-withLocalDeclD `w W fun w=>withLocalDeclD `os O fun os=>do
    return (<-mkForallFVars #[w,os] (<-mkEq (mkApp2 l w os).headBeta (mkApp2 r w os).headBeta),<-mkLambdaFVars #[w,os] (<-mkAppM ``looks_pair #[mkApp2 x w os,mkApp2 y w os]))
   aux ty pf
  |_,_=>
   let P <-withLocalDeclD `w W fun w=>do mkLambdaFVars #[w] (<-mkEq (mkApp l w).headBeta (mkApp r w).headBeta)
   discard <| prep P
   let e <-byKernelQuick P []
   withLocalDeclD `w W fun w=>withLocalDeclD `os O fun os=>do mkLambdaFVars #[w,os] (<-mkAppM ``congrFun #[mkApp e w,os])
def most:Nat:=3000
def left(g:MVarId)(pE:Ex)(p:Program)(_:List String):MetaM Unit:=g.withContext do
 let a:=(<-instantiateMVars (<-g.getType)).consumeMData.getAppArgs
 let some N <-(Meta.evalNat a[7]!).run|throwError "no number"
 let (.ok t,.ok t'):=(<-traceTop p N 1,<-traceTop p N 2)|throwError "no trace"
 let tb:=mkConst ``treeTable
 let (W,O):=(mkConst ``World,mkConst ``OsState)
 let m0:=mkRawNatLit t.s0.heap.objs.size
 let ann:=toExpr t.ann
 let main <-mkAppM ``Program.main #[pE]
 let op <-mkAppM ``opening #[pE]
 let e1 <-aux (<-mkEq op (mkApp (mkConst ``plainProg) (<-mkAppM ``Scope.names #[<-mkAppM ``Module.scope #[main]]))) (<-mkEqRefl op)
 let e2 <-withLocalDeclD `s (mkConst ``Shared) fun s=>do
  let r <-mkAppM ``some #[s]
  aux (<-mkForallFVars #[s] (<-mkEq (mkApp2 (mkConst ``fenceModules?) pE s) r)) (<-mkLambdaFVars #[s] (<-mkEqRefl r))
 let e3 <-mkDecideProof (<-mkEq (mkApp2 (mkConst ``Nat.ble) (mkRawNatLit 600) a[7]!) (mkConst ``Bool.true))
 let boot:=mkAppN (mkConst ``boot_open) #[pE,a[7]!,e1,e3,e2]
 let bE <-mkAppM ``behindTheImports #[pE]
 let some cells <-cellsD? bE|throwError "no body"
 let env0 <-Elab.Term.TermElabM.run' do
  let s1 <-Elab.Term.exprToSyntax (<-mkAppM ``Module.scope #[main])
  let s2 <-Elab.Term.exprToSyntax (toExpr t.code)
  let e <-Elab.Term.withSynthesize (Elab.Term.elabTermEnsuringType (<-`(({ scope:=$s1,locals:=mainNs,globals:=mainNs,cells:=[],code:=$s2,frame:=some $(quote t.frame)}:Env))) (mkConst ``Env))
  instantiateMVars e
 let env <-defAt `env (mkConst ``Env) env0
 let fp:=toExpr t.framePos
 let cE:=mkApp2 (mkConst ``Code.body) bE env
 let B:=listE (mkConst ``Frame) [mkApp (mkConst ``topFrame) fp]
 let go (f:Name) (more:Array Ex) (n:Nat) (w s th:Ex):Ex:=mkAppN (mkConst f) (#[tb,pE,w,m0,ann]++more++#[mkRawNatLit n,s,th])
 let one:=#[mkRawNatLit 1]
 let piece (rows:List String) (l r:Ex->Ex->MetaM Ex):MetaM Ex:=do
  for x in [pE,env] do discard <| prep x
  byPiece rows l r
 let ends (S:Ex) (pos:Pos):MetaM Ex:=do mkAppM ``some #[<-mkAppM ``Prod.mk #[mkConst ``Flow.next,<-mkAppM ``Prod.mk #[S,<-mkAppM ``Prod.mk #[cE,toExpr pos]]]]
 let rowsOf (x y:Snap):=(x.rows++y.rows).eraseDups
 let mut o:Objs:=#[]
 for i in [0:t.s0.heap.objs.size] do o:=o.push (t.s0.heap.objs[i]!,t'.s0.heap.objs[i]!,mkConst ((`PySem.W).str s!"boot_o_{i}"))
 let S0:PySem.W.State:={ heap:=mkConst ``boot_heap,gens:=mkApp2 (mkConst ``Array.mk [0]) (mkConst ``GenState) (mkApp (mkConst ``List.nil [0]) (mkConst ``GenState)),drawn:=mkConst ``boot_drawn,toks:=mkConst ``boot_toks}
 let (o1,Sa) <-state true o t.pre.s t'.pre.s
 let thA:=mkApp4 (mkConst ``Thread.mk) (mkApp2 (mkConst ``denote) tb cE) cE (toExpr t.pre.pos) B
 let stub:=mkApp (mkConst ``topStub) pE
 let pre <-piece (rowsOf t.pre t'.pre) (fun w os=>pure (go ``topGo #[] t.pre.steps w (S0.at w os) stub)) fun w os=>do mkAppM ``some #[<-mkAppM ``Prod.mk #[Sa.at w os,thA]]
 let (o2,Sb) <-state false o1 t.block.s t'.block.s
 let block <-piece (rowsOf t.block t'.block) (fun w os=>pure (go ``segRun one t.block.steps.succ w (Sa.at w os) (mkAppN (mkConst ``blockOf) #[bE,env,cE,toExpr t.pre.pos,B]))) fun w os=>ends (Sb.at w os) t.block.pos
 let mut gs:Array (List Ex×Nat×Snap×Snap×List String):=#[]
 for (st,x,x') in cells.zip (t.pieces.zip t'.pieces) do
  let k:=max x.steps x'.steps
  let rs:=rowsOf x x'
  match gs.back? with
  |some (l,n,_,_,r)=>
   if n+k<=most && (r++rs).eraseDups.length<=3 then gs:=gs.pop.push (l++[st],n+k,x,x',(r++rs).eraseDups) else gs:=gs.push ([st],k,x,x',rs)
  |none=>gs:=gs.push ([st],k,x,x',rs)
 let mut cur:=(o2,Sb,t.block.pos)
 let mut lems:=#[]
 for (sts,n,x,x',rs) in gs do
  let stE <-defAt `st (mkApp (mkConst ``List [0]) (mkConst ``Stmt)) (listE (mkConst ``Stmt) sts)
  discard <| prep stE
  let (o0,S1,p1):=cur
  let (o',S') <-state false o0 x.s x'.s
  let th:=mkAppN (mkConst ``piecesOf) #[stE,env,cE,toExpr p1,B]
  let h <-piece rs (fun w os=>pure (go ``segRunT one n.succ w (S1.atT w os) th)) fun w os=>ends (S'.atT w os) x.pos
  lems:=lems.push (stE,n.succ,S1,p1,S',x.pos,<-liftT h ``segRun_of)
  cur:=(o',S',x.pos)
  logInfo m!"PIECE {sts.length} {n} {x.s.heap.objs.size}"
 let (oN,SN,pN):=cur
 let (_,Sf) <-state true oN t.fin.s t'.fin.s
 let fin <-piece (rowsOf t.fin t'.fin) (fun w os=>pure (go ``topRun #[] t.fin.steps.succ w (SN.at w os) (mkApp4 (mkConst ``Thread.mk) (mkApp (mkConst ``doneF) (mkConst ``Flow.next)) cE (toExpr pN) B))) fun w os=>mkAppM ``some #[Sf.at w os]
 let run <-withLocalDeclD `w W fun w=>withLocalDeclD `os O fun os=>do
  let w1 (l:Ex):MetaM Ex:=do mkAppM ``congrFun #[mkApp l w,os]
  let r:=Sf.at w os
  let com:=#[tb,pE,w,m0,ann,env,fp]
  let mut k <-w1 fin
  let mut M:=mkRawNatLit t.fin.steps.succ
  let mut rest:=listE (mkConst ``Stmt) []
  for (stE,n,S1,p1,S',p2,h) in lems.toList.reverse do
   k:=mkAppN (mkConst ``piece_app) (com++#[mkRawNatLit n,M,S1.at w os,S'.at w os,r,stE,rest,cE,toExpr p1,toExpr p2,<-w1 h,k])
   M:=mkApp2 (mkConst ``Nat.add) (mkRawNatLit n) M
   rest <-mkAppM ``HAppend.hAppend #[stE,rest]
  k:=mkAppN (mkConst ``piece_block) (com++#[mkRawNatLit t.block.steps.succ,M,Sa.at w os,Sb.at w os,r,bE,cE,toExpr t.pre.pos,toExpr t.block.pos,<-w1 block,k])
  M:=mkApp2 (mkConst ``Nat.add) (mkRawNatLit t.block.steps.succ) M
  k:=mkAppN (mkConst ``go_top) #[tb,pE,w,m0,ann,mkRawNatLit t.pre.steps,M,S0.at w os,Sa.at w os,r,stub,thA,<-w1 pre,k]
  M:=mkApp2 (mkConst ``Nat.add) (mkRawNatLit t.pre.steps) M
  let ty <-mkEq (mkAppN (mkConst ``topRun) #[tb,pE,w,m0,ann,M,S0.at w os,stub]) (<-mkAppM ``some #[r])
  return (M,<-aux (<-mkForallFVars #[w,os] ty) (<-mkLambdaFVars #[w,os] k))
 let lem:=mkConst ``LeftO.of_pieces
 let (ms,_,_) <-forallMetaTelescope (<-inferType lem)
 let vs:=#[pE,a[1]!,a[2]!,a[3]!,a[4]!,a[5]!,a[6]!,a[7]!,a[8]!,S0.heap,Sf.heap,S0.gens,Sf.gens,S0.drawn,Sf.drawn,S0.toks,Sf.toks,m0,ann,run.1]
 for (m,v) in ms.zip vs do m.mvarId!.assign v
 let want (i:Nat):MetaM Ex:=do instantiateMVars (<-inferType ms[i]!)
 let .forallE n1 d1 b1 i1 <-want 21|throwError "size"
 let size <-byKernelQuick (.lam n1 d1 b1 i1) []
 let .forallE _ _ bl _ <-want 24|throwError "looks"
 let (l,r) <-withLocalDeclD `w W fun w=>do
  let some (_,l,r):=(bl.instantiate1 w).eq?|throwError "looks"
  return (<-mkLambdaFVars #[w] l,<-mkLambdaFVars #[w] r)
 let h <-look 12 l r
 let looks <-withLocalDeclD `w W fun w=>do
  let f <-withLocalDeclD `os O fun os=>mkLambdaFVars #[os] (mkApp2 h w os)
  mkLambdaFVars #[w] (<-mkAppM ``funext #[f])
 g.assign (mkAppN lem (vs++#[boot,size,run.2,<-mkDecideProof (<-want 23),looks]))
simproc_decl hd (PySem.W.OpenRow.Holds _):=fun _=>do
 PySem.W.leftPieces.set (some left)
 return .continue
end Carry.Hd
noncomputable section
set_option Elab.async false
set_option maxRecDepth 100000
abbrev L2.FG:=PySem.W.Frag
namespace L2
open PySem PySem.Spec PyProof.Rows
abbrev Key:=Sum Int Str
def keyIs:Key->Value->Bool
 |.inl k,v=>Value.isInt k v
 |.inr x,v=>Value.isStrOf x v
def keyH(w:World):Key->Int
 |.inl k=>hashInt k
 |.inr x=>hashStr w x
theorem a3h:∀{k:Key} {v:Value},keyIs k v=true->(∃i t,k=Sum.inl i/\v=Value.int i t)\/(∃x t,k=Sum.inr x/\v=Value.str x t)
 |.inl i,v,h=>by
  obtain⟨t,e⟩:=Value.isInt_shape (k:=i) (v:=v) h;exact .inl ⟨i,t,rfl,e⟩
 |.inr x,v,h=>by
  obtain⟨t,e⟩:=Value.isStrOf_shape (x:=x) (v:=v) h;exact .inr ⟨x,t,rfl,e⟩
theorem d8p(a b:Int):decide ((Sum.inl a:Key)=Sum.inl b)=(a == b):=by
 by_cases e:a=b
 ·subst e;simp
 ·have h:¬(Sum.inl a:Key)=Sum.inl b:=fun q=>e (Sum.inl.inj q)
  rw[decide_eq_false h];exact(beq_eq_false_iff_ne.mpr e).symm
theorem d8q(a b:Str):decide ((Sum.inr a:Key)=Sum.inr b)=decide (a=b):=by
 by_cases e:a=b
 ·subst e;simp
 ·have h:¬(Sum.inr a:Key)=Sum.inr b:=fun q=>e (Sum.inr.inj q)
  rw[decide_eq_false h,decide_eq_false e]
theorem d8r(a:Int)(b:Str):decide ((Sum.inl a:Key)=Sum.inr b)=false:=decide_eq_false (fun q=>nomatch q)
theorem d8s(a:Str)(b:Int):decide ((Sum.inr a:Key)=Sum.inl b)=false:=decide_eq_false (fun q=>nomatch q)
def c0b(prog:Program)(w:World):PySem.KeyKind prog w Key where
 is:=keyIs
 hash:=keyH w
 inj:=fun v a b ha hb=>by
  rcases a3h ha with⟨i,t,rfl,rfl⟩|⟨x,t,rfl,rfl⟩
  ·rcases a3h hb with⟨j,u,rfl,e⟩|⟨y,u,rfl,e⟩
   ·injection e with e1 _;rw[e1]
   ·exact nomatch e
  ·rcases a3h hb with⟨j,u,rfl,e⟩|⟨y,u,rfl,e⟩
   ·exact nomatch e
   ·injection e with e1 _;rw[e1]
 byValue:=fun k v h=>by
  rcases a3h h with⟨i,t,rfl,rfl⟩|⟨x,t,rfl,rfl⟩ <;> rfl
 pyHash:=fun hv h=>by
  rcases a3h hv with⟨i,t,rfl,rfl⟩|⟨x,t,rfl,rfl⟩
  ·exact wpAny_pyHash_int h
  ·exact wpAny_pyHash_str h
 eqBool:=fun hu hv h=>by
  rcases a3h hu with⟨i,t,rfl,rfl⟩|⟨x,t,rfl,rfl⟩
  ·rcases a3h hv with⟨j,u,rfl,rfl⟩|⟨y,u,rfl,rfl⟩
   ·rw[d8p] at h;exact wpAny_eqBool_int h
   ·rw[d8r] at h;exact SeqAt.EqAt.int_str i t y u _ _ _ _ h
  ·rcases a3h hv with⟨j,u,rfl,rfl⟩|⟨y,u,rfl,rfl⟩
   ·rw[d8s] at h;exact SeqAt.EqAt.str_int x t j u _ _ _ _ h
   ·rw[d8q] at h;exact wpAny_eqBool_str h
 «strs»:=fun k x t v h=>by
  rcases a3h h with⟨i,u,rfl,e⟩|⟨y,u,rfl,e⟩
  ·exact nomatch e
  ·injection e with e1 _;subst e1;cases v <;> rfl
inductive V where
 |non|bl (b:Bool)|int (i:Int)|str (x:Str)|byt (b:Array UInt8)|flt (b:UInt64)|ref (a:Addr)|ty (n:String)
 deriving DecidableEq
def RelV:V->Value->Prop
 |.non,u=>u=Value.none
 |.bl b,u=>u=Value.bool b
 |.int i,u=>∃t,u=Value.int i t
 |.str x,u=>∃t,u=Value.str x t
 |.byt b,u=>∃t,u=Value.bytes b t
 |.flt b,u=>∃t,u=Value.float b t
 |.ref a,u=>u=Value.ref a
 |.ty n,u=>u=Value.type n
abbrev Vals:List V->List Value->Prop:=Paired RelV
theorem Vals.length{xs:List V}{us:List Value}(r:Vals xs us):xs.length=us.length:=Paired.length r
theorem Vals.get:∀{xs:List V} {us:List Value} {i:Nat} {x:V},Vals xs us->xs[i]?=some x->∃u,us[i]?=some u/\RelV x u
 |_,_,_,_,.nil,e=>by simp at e
 |_,_,0,_,.cons r _,e=>by simp at e;subst e;exact⟨_,rfl,r⟩
 |_,_,i+1,x,.cons _ t,e=>by
  obtain⟨u,h1,h2⟩:=Vals.get (i:=i) (x:=x) t (by simpa using e)
  exact⟨u,by simpa using h1,h2⟩
theorem Vals.set{x:V}{u:Value}(r:RelV x u):∀{xs:List V} {us:List Value} (i:Nat),Vals xs us->Vals (xs.set i x) (us.set i u)
 |_,_,_,.nil=>.nil
 |_,_,0,.cons _ t=>.cons r t
 |_,_,i+1,.cons q t=>.cons q (Vals.set r i t)
theorem Vals.append{xs ys:List V}{us ws:List Value}(h:Vals xs us)(s:Vals ys ws):Vals (xs++ys) (us++ws):=by
 induction h with
 |nil=>exact s
 |cons r t ih=>exact .cons r ih
theorem Vals.take:∀{xs:List V} {us:List Value} (n:Nat),Vals xs us->Vals (xs.take n) (us.take n)
 |_,_,0,_=>.nil
 |_,_,_+1,.nil=>.nil
 |_,_,n+1,.cons r t=>.cons r (Vals.take n t)
theorem Vals.drop:∀{xs:List V} {us:List Value} (n:Nat),Vals xs us->Vals (xs.drop n) (us.drop n)
 |_,_,0,r=>r
 |_,_,_+1,.nil=>.nil
 |_,_,n+1,.cons _ t=>Vals.drop n t
def RelO:Option V->Option Value->Prop
 |some v,some u=>RelV v u
 |none,none=>True
 |_,_=>False
def KV{κ:Type}:List (κ×V)->List (κ×Value)->Prop:=Paired fun(p:κ×V) (q:κ×Value)=>p.1=q.1/\RelV p.2 q.2
def kV:Key->V
 |.inl i=>.int i
 |.inr x=>.str x
inductive TK where
 |inl (i:Int)|inr (x:Str)|tp (l:List TK)
mutual
def TK.beq:TK->TK->Bool
 |.inl a,.inl b=>decide (a=b)
 |.inr a,.inr b=>decide (a=b)
 |.tp l,.tp m=>TK.beqL l m
 |_,_=>false
def TK.beqL:List TK->List TK->Bool
 |[],[]=>true
 |a::l,b::m=>TK.beq a b && TK.beqL l m
 |_,_=>false
end
mutual
theorem TK.beq_iff:∀a b:TK,TK.beq a b=true↔a=b
 |.inl a,.inl b=>by unfold TK.beq;rw[decide_eq_true_eq];exact⟨fun e=>by rw[e],fun e=>by cases e;rfl⟩
 |.inr a,.inr b=>by unfold TK.beq;rw[decide_eq_true_eq];exact⟨fun e=>by rw[e],fun e=>by cases e;rfl⟩
 |.tp l,.tp m=>by unfold TK.beq;rw[TK.beqL_iff l m];exact⟨fun e=>by rw[e],fun e=>by cases e;rfl⟩
 |.inl _,.inr _=>by unfold TK.beq;exact⟨fun e=>(nomatch e),fun e=>(nomatch e)⟩
 |.inl _,.tp _=>by unfold TK.beq;exact⟨fun e=>(nomatch e),fun e=>(nomatch e)⟩
 |.inr _,.inl _=>by unfold TK.beq;exact⟨fun e=>(nomatch e),fun e=>(nomatch e)⟩
 |.inr _,.tp _=>by unfold TK.beq;exact⟨fun e=>(nomatch e),fun e=>(nomatch e)⟩
 |.tp _,.inl _=>by unfold TK.beq;exact⟨fun e=>(nomatch e),fun e=>(nomatch e)⟩
 |.tp _,.inr _=>by unfold TK.beq;exact⟨fun e=>(nomatch e),fun e=>(nomatch e)⟩
theorem TK.beqL_iff:∀l m:List TK,TK.beqL l m=true↔l=m
 |[],[]=>by unfold TK.beqL;exact⟨fun _=>rfl,fun _=>rfl⟩
 |a::l,b::m=>by unfold TK.beqL;rw[Bool.and_eq_true,TK.beq_iff a b,TK.beqL_iff l m];exact⟨fun e=>by rw[e.1,e.2],fun e=>by cases e;exact⟨rfl,rfl⟩⟩
 |[],_::_=>by unfold TK.beqL;exact⟨fun e=>(nomatch e),fun e=>(nomatch e)⟩
 |_::_,[]=>by unfold TK.beqL;exact⟨fun e=>(nomatch e),fun e=>(nomatch e)⟩
end
instance:DecidableEq TK:=fun a b=>decidable_of_iff _ (TK.beq_iff a b)
mutual
def TK.hash(w:World):TK->Int
 |.inl i=>hashInt i
 |.inr x=>hashStr w x
 |.tp l=>reduceHash (Builtin.Tuple.tupleHashOf (TK.hashL w l))
def TK.hashL(w:World):List TK->List Int
 |[]=>[]
 |a::l=>TK.hash w a::TK.hashL w l
end
def TK.ok:Nat->TK->Bool
 |n+1,.tp l=>l.all (TK.ok n)
 |0,.tp _=>false
 |_,_=>true
def EntG(w:World)(e:TK×V×V)(x:DictEntry):Prop:=x.hash=e.1.hash w/\RelV e.2.1 x.key/\RelV e.2.2 x.val/\e.1.ok 8=true
inductive HO where
  |lst (xs:List V)
  |tup (xs:List V)
  |dK (kvs:List (Key×V))|dT (kvs:List (List Key×V))
  |dG (es:List (TK×V×V)) (ep:Nat)
  |set (S:Int->Bool) (n:Nat)
  |ins (C dx:Addr) (fs:List (Str×V))
  |own (x:Addr)
  |xd (fs:List (Str×V))
  |met (f x:Addr)
  |rng (lo hi:Int)
  |frz (o:Obj) (u:HO)
  |tbl (ps:Array Value)
  |ext (φ:Heap->Prop)
abbrev Hp:=Addr->Option HO
noncomputable def upd(H:Hp)(a:Addr)(o:HO):Hp:=fun b=>if b=a then some o else H b
theorem a1z{H:Hp}{a:Addr}{o:HO}:upd H a o a=some o:=by unfold upd;rw[if_pos rfl]
theorem a0v{H:Hp}{a b:Addr}{o:HO}(h:b≠a):upd H a o b=H b:=by unfold upd;rw[if_neg h]
theorem a1u{H:Hp}{a b:Addr}{o:HO}(h:H a=some o)(h':H b=none):a≠b:=by
 intro e;subst e;rw[h] at h';cases h'
section
variable (P:Program) (w:World)
def ObjOk(H:Hp)(h:Heap)(a:Addr):HO->Prop
 |.lst xs=>xs.length<=sizeLine/\∃(its:List Value) (n:Nat),Vals xs its/\h.get? a=some { cls:=.type "list",data:=.seq its.toArray n}
 |.tup xs=>xs.length<=sizeLine/\∃its:List Value,Vals xs its/\IsTup h a its.toArray
 |.dK kvs=>kvs.length<=sizeLine/\(a == sysModules)=false/\∃vs,KV kvs vs/\h.DictOf (c0b P w) a vs
 |.dT kvs=>kvs.length<=sizeLine/\(a == sysModules)=false/\∃xs:List (List Key×Addr×Value),
   Paired (fun(p:List Key×V) (q:List Key×Addr×Value)=>p.1=q.1/\H q.2.1=some (.tup (p.1.map kV))/\RelV p.2 q.2.2) kvs xs/\
   ∃o es ep,h.get? a=some o/\o.ExactDict/\o.data=.dict es ep/\es.toList=xs.map (entryOfKey (tupleKind (c0b P w)))/\(xs.map (·.1)).Nodup
 |.dG es ep=>es.length<=sizeLine/\(a == sysModules)=false/\∃o xs,h.get? a=some o/\o.ExactDict/\o.data=.dict xs ep/\Paired (EntG w) es xs.toList/\(es.map (·.1)).Nodup
 |.set S n=>h.SetOf (intKind P w) a S n
 |.ins C dx fs=>H dx=some (.own a)/\fs.length<=1000/\dx≠a/\h.get? a=some (PySem.W.instObj C dx)/\
   ∃mA,h.Ns1 dx mA/\(∀f,RelO (fs.lookup f) (mA f))/\PySem.Within mA (fs.map (·.1))
 |.own _=>∃o,h.get? a=some o
 |.xd fs=>∃mA,h.Ns1 a mA/\∀f,RelO (fs.lookup f) (mA f)
 |.rng lo hi=>∃t u v,h.get? a=some { cls:=.type "range",data:=.fields #[.int lo t,.int hi u,.int 1 v]}
 |.frz o u=>h.get? a=some o/\ObjOk H h a u
 |.tbl ps=>h.get? a=some { cls:=.none,data:=.fields ps}
 |.met f x=>h.get? a=some (PySem.W.methodObj (.ref f) (.ref x))
 |.ext φ=>φ h/\(∃o,h.get? a=some o)/\∀h1 h2:Heap,φ h1->(∀o,h1.get? a=some o->h2.get? a=some o)->φ h2
def HOk(H:Hp)(h:Heap):Prop:=∀a o,H a=some o->ObjOk P w H h a o
end
section
variable {P:Program} {w:World} {H H':Hp} {h h':Heap} {a:Addr} {o:HO}
theorem ObjOk.lt(x:ObjOk P w H h a o):a < h.objs.size:=by
 cases o with
 |lst xs=>obtain⟨_,_,_,_,e⟩:=x;exact Heap.lt_size e
 |tup xs=>obtain⟨_,_,_,p⟩:=x;exact p.lt
 |dK kvs=>obtain⟨_,_,_,_,o,_,_,e,_⟩:=x;exact Heap.lt_size e
 |dT kvs=>obtain⟨_,_,_,_,o,_,_,e,_⟩:=x;exact Heap.lt_size e
 |dG es ep=>obtain⟨_,_,o,_,e,_⟩:=x;exact Heap.lt_size e
 |set S n=>obtain⟨o,_,_,_,e,_⟩:=x;exact Heap.lt_size e
 |ins C dx fs=>obtain⟨_,_,_,e,_⟩:=x;exact Heap.lt_size e
 |own y=>obtain⟨_,e⟩:=x;exact Heap.lt_size e
 |xd fs=>obtain⟨_,⟨_,_,_,e,_⟩,_⟩:=x;exact Heap.lt_size e
 |rng lo hi=>obtain⟨_,_,_,e⟩:=x;exact Heap.lt_size e
 |frz ob u=>obtain⟨e,_⟩:=x;exact Heap.lt_size e
 |tbl ps=>exact Heap.lt_size (show h.get? a=some _ from x)
 |met f y=>exact Heap.lt_size (show h.get? a=some _ from x)
 |ext φ=>obtain⟨_,⟨_,e⟩,_⟩:=x;exact Heap.lt_size e
theorem Paired.mapP{α β:Type}{F G:α->β->Prop}{l₁:List α}{l₂:List β}(h:Paired F l₁ l₂)(f:∀a b,F a b->G a b):Paired G l₁ l₂:=by
 induction h with
 |nil=>exact .nil
 |cons r t ih=>exact .cons (f _ _ r) ih
theorem ObjOk.stay(x:ObjOk P w H h a o)(k:∀b u,(b=a\/H b=some (.own a))->h.get? b=some u->h'.get? b=some u)
  (ho:∀b,H b=some (.own a)->H' b=some (.own a)) (ht:∀b xs,H b=some (.tup xs)->H' b=some (.tup xs)):ObjOk P w H' h' a o:=by
 induction o with
 |lst xs=>obtain⟨z,its,n,r,e⟩:=x;exact⟨z,its,n,r,k _ _ (.inl rfl) e⟩
 |tup xs=>obtain⟨z,its,r,ob,e,c⟩:=x;exact⟨z,its,r,ob,k _ _ (.inl rfl) e,c⟩
 |dK kvs=>obtain⟨z,y,vs,r,ob,es,ep,e,c⟩:=x;exact⟨z,y,vs,r,ob,es,ep,k _ _ (.inl rfl) e,c⟩
 |dT kvs=>
  obtain⟨z,y,xs,r,ob,es,ep,e,c⟩:=x;exact⟨z,y,xs,Paired.mapP r fun p q z=>⟨z.1,ht _ _ z.2.1,z.2.2⟩,ob,es,ep,k _ _ (.inl rfl) e,c⟩
 |dG es ep=>obtain⟨z,y,ob,xs,e,c⟩:=x;exact⟨z,y,ob,xs,k _ _ (.inl rfl) e,c⟩
 |set S n=>obtain⟨ob,es,ep,t,e,c⟩:=x;exact⟨ob,es,ep,t,k _ _ (.inl rfl) e,c⟩
 |ins C dx fs=>
  obtain⟨d,z,ne,e,mA,⟨od,es,ep,e2,c⟩,r⟩:=x;exact⟨ho _ d,z,ne,k _ _ (.inl rfl) e,mA,⟨od,es,ep,k _ _ (.inr d) e2,c⟩,r⟩
 |own y=>obtain⟨ob,e⟩:=x;exact⟨ob,k _ _ (.inl rfl) e⟩
 |xd fs=>obtain⟨mA,⟨od,es,ep,e,c⟩,r⟩:=x;exact⟨mA,⟨od,es,ep,k _ _ (.inl rfl) e,c⟩,r⟩
 |rng lo hi=>obtain⟨t,u,v,e⟩:=x;exact⟨t,u,v,k _ _ (.inl rfl) e⟩
 |frz ob u ih=>obtain⟨e,q⟩:=x;exact⟨k _ _ (.inl rfl) e,ih q⟩
 |tbl ps=>
  have e:h.get? a=some { cls:=.none,data:=.fields ps}:=x;show h'.get? a=some { cls:=.none,data:=.fields ps};exact k a _ (.inl rfl) e
 |met f y=>
  have e:h.get? a=some (PySem.W.methodObj (.ref f) (.ref y)):=x;show h'.get? a=some (PySem.W.methodObj (.ref f) (.ref y));exact k a _ (.inl rfl) e
 |ext φ=>obtain⟨p,⟨o,e⟩,st⟩:=x;exact⟨st _ _ p fun o q=>k _ _ (.inl rfl) q,⟨o,k _ _ (.inl rfl) e⟩,st⟩
theorem HOk.lt(x:HOk P w H h)(e:H a=some o):a < h.objs.size:=(x a o e).lt
theorem HOk.fresh(x:HOk P w H h)(e:h.objs.size<=a):H a=none:=by
 cases q:H a with
 |none=>rfl
 |some u=>exact absurd (Nat.lt_of_lt_of_le (x.lt q) e) (Nat.lt_irrefl _)
theorem HOk.kept(x:HOk P w H h)(k:∀b u,h.get? b=some u->h'.get? b=some u):HOk P w H h':=fun a o e=>
 (x a o e).stay (fun b u _ q=>k b u q) (fun _ q=>q) fun _ _ q=>q
theorem HOk.laid(x:HOk P w H h)(k:∀b u,h.get? b=some u->h'.get? b=some u)(hp:h.objs.size<=a)(new:ObjOk P w (upd H a o) h' a o):HOk P w (upd H a o) h':=fun b u e=>by
 have hn:=x.fresh hp;by_cases hb:b=a
 ·subst hb;rw[a1z] at e;cases e;exact new
 ·rw[a0v hb] at e;exact(x b u e).stay (fun c v _ q=>k c v q) (fun c q=>by rw[a0v (a1u q hn)];exact q) fun c xs q=>by rw[a0v (a1u q hn)];exact q
end
def Rd(H:Hp)(a:Addr)(u:HO):Prop:=H a=some u\/∃o,H a=some (.frz o u)
theorem Rd.ok{P:Program}{w:World}{H:Hp}{h:Heap}{a:Addr}{u:HO}(r:Rd H a u)(x:HOk P w H h):ObjOk P w H h a u:=by
 rcases r with r|⟨o,r⟩
 ·exact x a u r
 ·obtain⟨_,q⟩:=x a _ r;exact q
def Mut:Option HO->Prop
 |some (.lst _)=>True
 |some (.dK _)=>True
 |some (.dT _)=>True
 |some (.dG _ _)=>True
 |some (.set _ _)=>True
 |some (.ins _ _ _)=>True
 |some (.ext _)=>True
 |_=>False
section
variable {P:Program} {w:World} {H:Hp} {h h':Heap} {x e:Addr} {o':HO}
theorem HOk.write(ok:HOk P w H h)(mu:Mut (H x))(he:e=x\/H e=some (.own x))(k:∀b u,b≠e->h.get? b=some u->h'.get? b=some u)(heo:∃u,h'.get? e=some u)
  (new:ObjOk P w (upd H x o') h' x o'):HOk P w (upd H x o') h':=fun b u q=>by
 have nown:∀c y,H c=some (.own y)->c≠x:=fun c y r z=>by subst z;rw[r] at mu;exact mu
 have ntup:∀c xs,H c=some (.tup xs)->c≠x:=fun c xs r z=>by subst z;rw[r] at mu;exact mu
 by_cases hb:b=x
 ·subst hb;rw[a1z] at q;cases q;exact new
 ·rw[a0v hb] at q;by_cases hbe:b=e
  ·have q':H b=some (.own x):=by
    rcases he with z|z
    ·exact absurd (hbe.trans z) hb
    ·rw[hbe];exact z
   rw[q] at q';cases q';obtain⟨v,hv⟩:=heo;exact⟨v,by rw[hbe];exact hv⟩
  ·refine(ok b u q).stay (fun c v hc r=>k c v ?_ r) (fun c r=>by rw[a0v (nown c b r)];exact r) fun c xs r=>by rw[a0v (ntup c xs r)];exact r
   rcases hc with rfl|hc
   ·exact hbe
   ·rintro rfl;rcases he with z|z
    ·exact nown c b hc z
    ·rw[hc] at z;cases z;exact hb rfl
end
structure Un (fs ex:List Addr) (H H':Hp) (h h':Heap):Prop where
 keep:∀b o,h.get? b=some o->H b=none->b∉fs->b∉ex->h'.get? b=some o
 slot:∀b o,h.get? b=some o->H b=none->b∈fs->b∉ex->∃sl,h'.get? b=some { o with slots:=sl}
 free:∀b o,h.get? b=some o->H b=none->b∉ex->H' b=none
 there:∀b o,h.get? b=some o->b∉ex->∃o',h'.get? b=some o'
 tups:∀b xs,H b=some (.tup xs)->H' b=some (.tup xs)
 frzs:∀b o u,H b=some (.frz o u)->H' b=some (.frz o u)
 tbls:∀b ps,H b=some (.tbl ps)->∃more,H' b=some (.tbl (ps++more))
section
variable {fs fs' ex ex':List Addr} {H H1 H2:Hp} {h h1 h2 h':Heap} {a x e:Addr} {o:HO}
theorem Un.any(u:Un fs ex H H1 h h1){b:Addr}{ob:Obj}(q:h.get? b=some ob)(n:H b=none)(hx:b∉ex):∃sl,h1.get? b=some { ob with slots:=sl}:=by
 by_cases hb:b∈fs
 ·exact u.slot b ob q n hb hx
 ·exact⟨ob.slots,u.keep b ob q n hb hx⟩
theorem Un.kept(k:∀b u,h.get? b=some u->h'.get? b=some u):Un fs ex H H h h':=
 ⟨fun b ob q _ _ _=>k b ob q,fun b ob q _ _ _=>⟨ob.slots,k b ob q⟩,fun _ _ _ n _=>n,fun b ob q _=>⟨ob,k b ob q⟩,fun _ _ q=>q,fun _ _ _ q=>q,fun _ ps q=>⟨#[],by rw[q];simp⟩⟩
theorem Un.refl:Un fs ex H H h h:=Un.kept fun _ _ q=>q
theorem Un.laid(k:∀b u,h.get? b=some u->h'.get? b=some u)(hp:h.objs.size<=a)(hn:H a=none):Un fs ex H (upd H a o) h h' where
 keep:=fun b u q _ _ _=>k b u q
 slot:=fun b u q _ _ _=>⟨u.slots,k b u q⟩
 free:=fun b u q n _=>by rw[a0v (Nat.ne_of_lt (Nat.lt_of_lt_of_le (Heap.lt_size q) hp))];exact n
 there:=fun b u q _=>⟨u,k b u q⟩
 tups:=fun b xs q=>by rw[a0v (a1u q hn)];exact q
 frzs:=fun b u xs q=>by rw[a0v (a1u q hn)];exact q
 tbls:=fun b ps q=>⟨#[],by rw[a0v (a1u q hn),q];simp⟩
theorem Un.write(mu:Mut (H x))(he:e=x\/H e=some (.own x))(k:∀b u,b≠e->h.get? b=some u->h'.get? b=some u)(heo:∃u,h'.get? e=some u):Un fs ex H (upd H x o) h h':=by
 have hx:∀b,H b=none->b≠x:=fun b n z=>by subst z;rw[n] at mu;exact mu
 have hb:∀b,H b=none->b≠e:=fun b n z=>by
  subst z;rcases he with r|r
  ·exact hx b n r
  ·rw[n] at r;cases r
 have hm:∀b u,H b=some u->¬Mut (some u)->b≠x:=fun b u q nm z=>by subst z;rw[q] at mu;exact nm mu
 refine⟨fun b u q n _ _=>k b u (hb b n) q,fun b u q n _ _=>⟨u.slots,k b u (hb b n) q⟩,fun b u q n _=>by rw[a0v (hx b n)];exact n,fun b u q _=>?_,
  fun b xs q=>by rw[a0v (hm b _ q fun z=>z)];exact q,fun b u xs q=>by rw[a0v (hm b _ q fun z=>z)];exact q,fun b ps q=>⟨#[],by rw[a0v (hm b _ q fun z=>z),q];simp⟩⟩
 by_cases hbe:b=e
 ·subst hbe;exact heo
 ·exact⟨u,k b u hbe q⟩
end
def trk(h:Heap)(H:Hp):List Addr:=(List.range h.objs.size).filter fun a=>(H a).isSome
def hidT(h:Heap)(H:Hp):Heap:=PySem.W.hideAll h (trk h H)
theorem c5j(h:Heap)(H:Hp):(hidT h H).objs.size=h.objs.size:=PySem.W.hideAll_size _ _
theorem d0y{h:Heap}{H:Hp}{b:Addr}{o:Obj}(e:h.get? b=some o)(n:H b=none):(hidT h H).get? b=some o:=
 PySem.W.hideAll_get _ e fun hm=>by
  have q:(H b).isSome=true:=(List.mem_filter.mp hm).2;rw[n] at q;simp at q
theorem d5c{h:Heap}{H:Hp}{b:Addr}{o:Obj}(e:(hidT h H).get? b=some o):h.get? b=some o/\H b=none:=by
 have e':h.get? b=some o:=PySem.W.of_hideAll (trk h H) e;refine⟨e',?_⟩;cases q:H b with
 |none=>rfl
 |some x=>
  have hm:b∈trk h H:=List.mem_filter.mpr ⟨List.mem_range.mpr (Heap.lt_size e'),by simp[q]⟩
  have z:(hidT h H).get? b=none:=PySem.W.hideAll_none (trk h H) hm;rw[z] at e;cases e
def d5d(g h:Heap)(L:Addr):List (Addr×Obj):=(List.range h.objs.size).filterMap fun a=>if a=L\/(g.get? a).isSome=true then none else(h.get? a).map fun o=>(a,o)
def rest(g h:Heap)(L d:Addr):List (Addr×Obj):=(d5d g h L).filter fun p=>decide (p.1≠d)
structure Mod (K:L2.FG) (mg:Str->Option Value) (base:Heap):Prop where
 kin:K.In base
 glob:base.Ns mainGlobals mg
 blt:∃mb,base.Ns builtinsNs mb/\∀x:Str,x≠"__name__"->mb x=bootBuiltins x
 nolimit:base.NoLimit
set_option genInjectivity false in
structure Cx where
 prog:Program
 w:World
 K:L2.FG
 mg:Str->Option Value
 base:Heap
 A:Around
 N:List Str
 s₀:Shared
 H₀:Hp
 env:Env
 outer:List Env
 stack:List Env
 ex:List Addr
 fn:Str->Bool
 calm:Bool
 pn:List (Addr×Obj)
 xe:Value->Shared->Prop
def frs(l:List Env):List Addr:=l.filterMap (·.frame)
abbrev Cx.fs(X:Cx):List Addr:=frs X.outer
def Vis(sc:Scope)(x:Str):Prop:=sc.names.lookup x=some .local \/ sc.names.lookup x=some .cell\/sc.names.lookup x=some .free
def Loc(sc:Scope)(x:Str):Prop:=sc.names.lookup x=some .local \/ sc.names.lookup x=some .cell
def Look(env:Env)(h:Heap)(m:Str->Option Value)(x:Str)(u:Value):Prop:=
 (env.kindOf x=some .local /\ m x=some u)\/((env.kindOf x=some .cell\/env.kindOf x=some .free)/\∃c,env.cells.lookup x=some c/\h.IsCell c (some u))
structure Cx.Ok (X:Cx):Prop where
 mod:Mod X.K X.mg X.base
 kind:X.env.scope.kind=.function
 glob:X.env.globals=mainGlobals
 blt:X.env.builtins=builtinsNs
 above:X.s₀.heap.objs.size<=X.env.locals
 inj:∀x y c,X.env.cells.lookup x=some c->X.env.cells.lookup y=some c->x=y
 has:∀x,(X.env.kindOf x=some .cell\/X.env.kindOf x=some .free)->∃c,X.env.cells.lookup x=some c
 cab:∀x c,X.fn x=true->X.env.cells.lookup x=some c->X.s₀.heap.objs.size<=c
 hd:X.calm=true->X.A.handled=none
 frames:X.A.frames=some X.stack
 stk:X.stack=X.outer\/(X.stack=X.env::X.outer/\X.env.frame=some X.env.locals)
 exf:∀b∈X.ex,b≠X.env.locals/\∀x c,X.env.cells.lookup x=some c->c≠b
 bs:∀b o,X.base.get? b=some o->X.s₀.heap.get? b=some o/\X.H₀ b=none
 bsz:X.base.objs.size<=X.s₀.heap.objs.size
 noex:∀b o,X.base.get? b=some o->b∉X.ex
 exfs:∀b∈X.ex,b∉X.fs
 funs:X.s₀.heap.FunFrames X.base X.outer
 frf:∀b∈X.fs,X.H₀ b=none
structure Inv (X:Cx) (pins:List (Addr×Obj)) (σ:List (Option V)) (H:Hp) (s:Shared):Prop where
 ok:X.Ok
 os:s.os=X.s₀.os
 bare:AllBare s.gens
 base:Un X.fs X.ex X.H₀ H X.s₀.heap s.heap
 loc:∃m,s.heap.Ns X.env.locals m/\∀(i:Nat) (x:Str) (v:V),X.N[i]?=some x->σ[i]?=some (some v)->Vis X.env.scope x->∃u,RelV v u/\Look X.env s.heap m x u
 cell:∀x c,X.env.cells.lookup x=some c->∃v,s.heap.IsCell c v
 free:H X.env.locals=none
 freeC:∀x c,X.env.cells.lookup x=some c->H c=none
 pin:∀p∈X.pn++pins,s.heap.get? p.1=some p.2/\H p.1=none/\p.1≠X.env.locals/\p.1∉X.fs/\∀v,p.2.data≠.cell v
 hok:HOk X.prog X.w H s.heap
 len:σ.length=X.N.length
section
variable {X:Cx} {pins:List (Addr×Obj)} {σ:List (Option V)} {H H':Hp} {s:Shared} {h':Heap}
theorem Cx.Ok.nofr(ok:X.Ok){b:Addr}{o:Obj}(e:X.base.get? b=some o):b∉X.fs:=fun hb=>by
 have:=(ok.funs.mem hb).1;rw[e] at this;cases this
theorem Inv.bs(I:Inv X pins σ H s):∀b o,X.base.get? b=some o->s.heap.get? b=some o/\H b=none:=fun b o e=>
 ⟨I.base.keep b o (I.ok.bs b o e).1 (I.ok.bs b o e).2 (I.ok.nofr e) (I.ok.noex b o e),I.base.free b o (I.ok.bs b o e).1 (I.ok.bs b o e).2 (I.ok.noex b o e)⟩
theorem Inv.bk(I:Inv X pins σ H s):∀b o,X.base.get? b=some o->s.heap.get? b=some o:=fun b o e=>(I.bs b o e).1
theorem Inv.mod(I:Inv X pins σ H s):Mod X.K X.mg X.base:=I.ok.mod
theorem Inv.kIn(I:Inv X pins σ H s):X.K.In s.heap:=I.ok.mod.kin.keeps I.bk
theorem Inv.lt(I:Inv X pins σ H s):X.env.locals < s.heap.objs.size:=let ⟨_,hn,_⟩:=I.loc;hn.lt
theorem Inv.sz(I:Inv X pins σ H s):X.s₀.heap.objs.size<=s.heap.objs.size:=Nat.le_trans I.ok.above (Nat.le_of_lt I.lt)
theorem Inv.nofs(I:Inv X pins σ H s){a:Addr}(h:s.heap.objs.size<=a):a∉X.fs:=fun hb=>by
 obtain⟨_,o,ho,_⟩:=I.ok.funs.mem hb;exact absurd (Nat.lt_of_lt_of_le (Heap.lt_size ho) (Nat.le_trans I.sz h)) (Nat.lt_irrefl _)
theorem Inv.cne(I:Inv X pins σ H s):∀x c,X.env.cells.lookup x=some c->c≠X.env.locals:=fun x c e z=>by
 obtain⟨v,o,ho,hd⟩:=I.cell x c e;obtain⟨m,⟨o',es,ep,ho',hd',_⟩,_⟩:=I.loc;rw[z,ho'] at ho;cases ho;rw[hd'] at hd;cases hd
theorem Inv.funs(I:Inv X pins σ H s):s.heap.FunFrames X.base X.outer:=by
 have all:∀(l:List Env),(∀b∈frs l,b∈X.fs)->X.s₀.heap.FunFrames X.base l->s.heap.FunFrames X.base l:=by
  intro l
  induction l with
  |nil=>intro _ _;trivial
  |cons env r ih=>
   intro hs hl;obtain⟨hk,⟨L,o,hf,hn,ho,hd⟩,hr⟩:=hl;have hL:L∈X.fs:=hs L (by unfold frs;rw[List.filterMap_cons,hf];exact List.mem_cons_self)
   obtain⟨sl,e⟩:=I.base.slot L o ho (I.ok.frf L hL) hL fun z=>I.ok.exfs L z hL
   exact⟨hk,⟨L,_,hf,hn,e,hd⟩,ih (fun b hb=>hs b (by unfold frs;rw[List.filterMap_cons,hf];exact List.mem_cons_of_mem _ hb)) hr⟩
 exact all X.outer (fun _ hb=>hb) I.ok.funs
theorem Inv.stack(I:Inv X pins σ H s):s.heap.FunFrames X.base X.stack:=by
 rcases I.ok.stk with e|⟨e,hf⟩
 ·rw[e];exact I.funs
 ·rw[e];obtain⟨m,hn,_⟩:=I.loc;refine .cons (by rw[I.ok.kind];decide) hf hn ?_ I.funs
  exact Heap.get?_none_of_le (Nat.le_trans I.ok.bsz I.ok.above)
theorem Inv.stkSub(I:Inv X pins σ H s):∀b∈frs X.stack,b∈X.env.locals::X.fs:=fun b hb=>by
 rcases I.ok.stk with e|⟨e,hf⟩
 ·rw[e] at hb;exact List.mem_cons_of_mem _ hb
 ·rw[e] at hb;unfold frs at hb;rw[List.filterMap_cons,hf] at hb;exact hb
theorem Inv.stkFree(I:Inv X pins σ H s):∀b∈frs X.stack,H b=none:=fun b hb=>by
 rcases List.mem_cons.mp (I.stkSub b hb) with e|hb
 ·rw[e];exact I.free
 ·obtain⟨_,o,ho,_⟩:=I.ok.funs.mem hb;exact I.base.free b o ho (I.ok.frf b hb) fun z=>I.ok.exfs b z hb
theorem Inv.step{g':Array GenState}{t':Nat}{d':Drawn}{ch:List Addr}(I:Inv X pins σ H s)
  (hch:∀b∈ch,(b∈X.ex\/X.s₀.heap.objs.size<=b)/\b≠X.env.locals/\(∀x c,X.env.cells.lookup x=some c->c≠b)/\∀p∈X.pn++pins,p.1≠b)
  (keep:∀b o,b≠X.env.locals->b∉X.fs->b∉ch->s.heap.get? b=some o->H b=none->h'.get? b=some o)
  (slot:∀b o,b≠X.env.locals->b∈X.fs->b∉ch->s.heap.get? b=some o->H b=none->∃sl,h'.get? b=some { o with slots:=sl}) (free:∀b o,b∉ch->s.heap.get? b=some o->H b=none->H' b=none)
  (there:∀b o,b∉ch->s.heap.get? b=some o->∃o',h'.get? b=some o')
  (tups:∀b xs,H b=some (.tup xs)->H' b=some (.tup xs)) (frzs:∀b o u,H b=some (.frz o u)->H' b=some (.frz o u)) (tbls:∀b ps,H b=some (.tbl ps)->∃more,H' b=some (.tbl (ps++more)))
  (ns:∀m,s.heap.Ns X.env.locals m->h'.Ns X.env.locals m) (hok:HOk X.prog X.w H' h') (hg:AllBare g') :
  Inv X pins σ H' { s with heap:=h',gens:=g',drawn:=d',toks:=t'}:=by
 have neL:∀b o,X.s₀.heap.get? b=some o->b≠X.env.locals:=fun b o e=>Nat.ne_of_lt (Nat.lt_of_lt_of_le (Heap.lt_size e) I.ok.above)
 have neC:∀b o,X.s₀.heap.get? b=some o->b∉X.ex->b∉ch:=fun b o e hx hb=>by
  rcases(hch b hb).1 with z|z
  ·exact hx z
  ·exact absurd (Nat.lt_of_lt_of_le (Heap.lt_size e) z) (Nat.lt_irrefl _)
 have cellK:∀x c,X.env.cells.lookup x=some c->∀v,s.heap.IsCell c v->h'.IsCell c v:=fun x c e v ⟨o,ho,hd⟩=>by
  have nch:c∉ch:=fun z=>(hch c z).2.2.1 x c e rfl
  by_cases hc:c∈X.fs
  ·obtain⟨sl,q⟩:=slot c o (I.cne x c e) hc nch ho (I.freeC x c e);exact⟨_,q,hd⟩
  ·exact⟨o,keep c o (I.cne x c e) hc nch ho (I.freeC x c e),hd⟩
 refine⟨I.ok,I.os,hg,⟨fun b o e n hb hx=>?_,fun b o e n hb hx=>?_,fun b o e n hx=>?_,fun b o e hx=>?_,fun b xs e=>tups b xs (I.base.tups b xs e),fun b o xs e=>frzs b o xs (I.base.frzs b o xs e),fun b ps e=>?_⟩,?_,fun x c e=>?_,?_,fun x c e=>?_,fun p hp=>?_,hok,I.len⟩
 ·exact keep b o (neL b o e) hb (neC b o e hx) (I.base.keep b o e n hb hx) (I.base.free b o e n hx)
 ·obtain⟨sl,e1⟩:=I.base.slot b o e n hb hx;obtain⟨sl',e2⟩:=slot b _ (neL b o e) hb (neC b o e hx) e1 (I.base.free b o e n hx);exact⟨sl',e2⟩
 ·obtain⟨o',e1⟩:=I.base.there b o e hx;exact free b o' (neC b o e hx) e1 (I.base.free b o e n hx)
 ·obtain⟨o',e1⟩:=I.base.there b o e hx;exact there b o' (neC b o e hx) e1
 ·obtain⟨m1,e1⟩:=I.base.tbls b ps e;obtain⟨m2,e2⟩:=tbls b _ e1;exact⟨m1++m2,by rw[e2,Array.append_assoc]⟩
 ·obtain⟨m,hn,hl⟩:=I.loc;refine⟨m,ns m hn,fun i x v e1 e2 e3=>?_⟩
  obtain⟨u,r,l⟩:=hl i x v e1 e2 e3;refine⟨u,r,?_⟩;rcases l with l|⟨k,c,e,z⟩
  ·exact .inl l
  ·exact .inr ⟨k,c,e,cellK x c e _ z⟩
 ·obtain⟨v,z⟩:=I.cell x c e;exact⟨v,cellK x c e v z⟩
 ·obtain⟨m,⟨o,_,_,ho,_⟩,_⟩:=I.loc;exact free _ o (fun z=>(hch _ z).2.1 rfl) ho I.free
 ·obtain⟨v,o,ho,hd⟩:=I.cell x c e;exact free c o (fun z=>(hch c z).2.2.1 x c e rfl) ho (I.freeC x c e)
 ·obtain⟨e,n,ne,nf,d⟩:=I.pin p hp;have nch:p.1∉ch:=fun z=>(hch p.1 z).2.2.2 p hp rfl
  exact⟨keep p.1 p.2 ne nf nch e n,free p.1 p.2 nch e n,ne,nf,d⟩
theorem Inv.un{t':Nat}(I:Inv X pins σ H s)(u:Un X.fs [] H H' s.heap h')(hok:HOk X.prog X.w H' h'):Inv X pins σ H' { s with heap:=h',toks:=t'}:=by
 obtain⟨m,⟨o,es,ep,ho,r⟩,_⟩:=id I.loc;obtain⟨sl,hL⟩:=u.any ho I.free (by simp)
 exact I.step (g':=s.gens) (d':=s.drawn) (ch:=[]) (fun _ z=>nomatch z) (fun b o _ hb _ e n=>u.keep b o e n hb (by simp)) (fun b o _ hb _ e n=>u.slot b o e n hb (by simp)) (fun b o _ e n=>u.free b o e n (by simp)) (fun b o _ e=>u.there b o e (by simp)) u.tups u.frzs u.tbls (fun m' hm=>by
  obtain⟨o',es',ep',ho',r'⟩:=hm;rw[ho] at ho';cases ho';exact⟨_,es',ep',hL,r'⟩) hok I.bare
theorem Inv.call{g':Array GenState}{t':Nat}{d':Drawn}{ch:List Addr}(I:Inv X pins σ H s)(u:Un (frs X.stack) ch H H' s.heap h')(hok:HOk X.prog X.w H' h')(hg:AllBare g')
  (hch:∀b∈ch,(b∈X.ex\/X.s₀.heap.objs.size<=b)/\b≠X.env.locals/\(∀x c,X.env.cells.lookup x=some c->c≠b)/\∀p∈X.pn++pins,p.1≠b) :
  Inv X pins σ H' { s with heap:=h',gens:=g',drawn:=d',toks:=t'}:=by
 obtain⟨m,⟨o,es,ep,ho,r⟩,_⟩:=id I.loc;obtain⟨sl,hL⟩:=u.any ho I.free fun z=>(hch _ z).2.1 rfl
 exact I.step (ch:=ch) hch (fun b o hL hb hc e n=>u.keep b o e n (fun z=>(List.mem_cons.mp (I.stkSub b z)).elim hL hb) hc) (fun b o _ _ hc e n=>u.any e n hc) (fun b o hc e n=>u.free b o e n hc) (fun b o hc e=>u.there b o e hc) u.tups u.frzs u.tbls (fun m' hm=>by
  obtain⟨o',es',ep',ho',r'⟩:=hm;rw[ho] at ho';cases ho';exact⟨_,es',ep',hL,r'⟩) hok hg
theorem Inv.turned{t':Nat}{it:Addr}(I:Inv X pins σ H s)(k:∀b o,b≠it->s.heap.get? b=some o->h'.get? b=some o)(hn:H it=none)(hL:it≠X.env.locals)
  (h1:it∈X.ex\/X.s₀.heap.objs.size<=it) (h2:∀x c,X.env.cells.lookup x=some c->c≠it) (h3:∀p∈X.pn++pins,p.1≠it):Inv X pins σ H { s with heap:=h',toks:=t'}:=by
 have nit:∀b u,H b=some u->b≠it:=fun b u e z=>by rw[z,hn] at e;cases e
 refine I.step (g':=s.gens) (d':=s.drawn) (ch:=[it]) (fun b hb=>?_) (fun b o _ _ hc e _=>k b o (fun z=>hc (by simp[z])) e) (fun b o _ _ hc e _=>⟨o.slots,k b o (fun z=>hc (by simp[z])) e⟩) (fun _ _ _ _ n=>n)
  (fun b o hc e=>⟨o,k b o (fun z=>hc (by simp[z])) e⟩) (fun _ _ e=>e) (fun _ _ _ e=>e) (fun b ps e=>⟨#[],by rw[e];simp⟩) (fun m hm=>?_) (fun b u e=>?_) I.bare
 ·have e:b=it:=by simpa using hb
  subst e;exact⟨h1,hL,h2,h3⟩
 ·obtain⟨o,es,ep,ho,r⟩:=hm;exact⟨o,es,ep,k _ o (Ne.symm hL) ho,r⟩
 ·refine(I.hok b u e).stay (fun c v hc q=>k c v ?_ q) (fun _ q=>q) fun _ _ q=>q
  rcases hc with z|z
  ·rw[z];exact nit b u e
  ·exact nit c _ z
theorem Inv.tok(I:Inv X pins σ H s)(t:Nat):Inv X pins σ H { s with toks:=t}:=I.un (h':=s.heap) (t':=t) Un.refl I.hok
theorem Inv.kept{t':Nat}(I:Inv X pins σ H s)(k:∀b u,s.heap.get? b=some u->h'.get? b=some u):Inv X pins σ H { s with heap:=h',toks:=t'}:=I.un (Un.kept k) (I.hok.kept k)
theorem Inv.laid{a:Addr}{o:HO}{t':Nat}(I:Inv X pins σ H s)(k:∀b u,s.heap.get? b=some u->h'.get? b=some u)(hp:s.heap.objs.size<=a)(new:ObjOk X.prog X.w (upd H a o) h' a o):
  Inv X pins σ (upd H a o) { s with heap:=h',toks:=t'}:=I.un (Un.laid k hp (I.hok.fresh hp)) (I.hok.laid k hp new)
theorem Inv.write{x e:Addr}{o:HO}{t':Nat}(I:Inv X pins σ H s)(mu:Mut (H x))(he:e=x\/H e=some (.own x))(k:∀b u,b≠e->s.heap.get? b=some u->h'.get? b=some u)(heo:∃u,h'.get? e=some u)
  (new:ObjOk X.prog X.w (upd H x o) h' x o):Inv X pins σ (upd H x o) { s with heap:=h',toks:=t'}:=I.un (Un.write mu he k heo) (I.hok.write mu he k heo new)
theorem Inv.pins_of{pins':List (Addr×Obj)}(I:Inv X pins σ H s)(h:∀p∈pins',s.heap.get? p.1=some p.2/\H p.1=none/\p.1≠X.env.locals/\p.1∉X.fs/\∀v,p.2.data≠.cell v):Inv X pins' σ H s:=
 ⟨I.ok,I.os,I.bare,I.base,I.loc,I.cell,I.free,I.freeC,fun p hp=>(List.mem_append.mp hp).elim (fun z=>I.pin p (List.mem_append_left _ z)) (h p),I.hok,I.len⟩
theorem b5o{N:List Str}(hN:N.Nodup){i j:Nat}{x:Str}(a:N[i]?=some x)(b:N[j]?=some x):i=j:=by
 obtain⟨h1,e1⟩:=List.getElem?_eq_some_iff.mp a;obtain⟨h2,e2⟩:=List.getElem?_eq_some_iff.mp b;exact(List.getElem_inj hN).mp (e1.trans e2.symm)
theorem b7o{M:Model}{A:Around}{E:Value->Shared->Prop}{i:Nat}{x:Str}{v:V}{u:Value}{Q:Unit->Shared->Prop}(I:Inv X pins σ H s)(hN:X.N.Nodup)(hi:X.N[i]?=some x)(hx:Loc X.env.scope x)(r:RelV v u)
  (h:∀s',Inv X pins (σ.set i (some v)) H s'->(∃a,Heap.SameBut a s.heap s'.heap/\(a=X.env.locals\/X.env.cells.lookup x=some a))->Q () s') (hf:X.fn x=true\/X.env.scope.names.lookup x=some .local := by first|exact .inl rfl|exact .inr rfl|assumption):wpAny M A (storeName X.env x u) Q E s:=by
 obtain⟨m,hn,hl⟩:=id I.loc;have hcls:(X.env.scope.kind == .class || (X.env.scope.kind == .module && X.env.locals != X.env.globals))=false:=by rw[I.ok.kind];rfl
 have hiσ:i < σ.length:=by rw[I.len];exact(List.getElem?_eq_some_iff.mp hi).1
 have cne:=I.cne;have tracked:∀{a:Addr} {h':Heap},(∃o,s.heap.get? a=some o/\H a=none)->Heap.SameBut a s.heap h'->HOk X.prog X.w H h':=fun{a h'} ha hs b ob e=>by
  obtain⟨_,_,hfree⟩:=ha;refine(I.hok b ob e).stay (fun c w' hc q=>(hs.2 c ?_).trans q) (fun _ q=>q) fun _ _ q=>q
  rintro rfl;rcases hc with rfl|hc
  ·rw[hfree] at e;cases e
  ·rw[hfree] at hc;cases hc
 rcases hx with hk|hk
 ·refine wpAny_storeName_local hk hn (fun h' hn' hs=>?_) hcls
  obtain⟨oL,_,_,hoL,_⟩:=id hn;refine h _ ⟨I.ok,I.os,I.bare,⟨fun b o e n hb hx=>?_,fun b o e n hb hx=>?_,I.base.free,fun b o e hx=>?_,I.base.tups,I.base.frzs,I.base.tbls⟩,⟨_,hn',fun j y v' e1 e2 e3=>?_⟩,fun y c e=>?_,I.free,I.freeC,fun p hp=>?_,tracked ⟨oL,hoL,I.free⟩ hs,by simpa using I.len⟩ ⟨_,hs,.inl rfl⟩
  ·exact(hs.2 b (Nat.ne_of_lt (Nat.lt_of_lt_of_le (Heap.lt_size e) I.ok.above))).trans (I.base.keep b o e n hb hx)
  ·obtain⟨sl,e1⟩:=I.base.slot b o e n hb hx;exact⟨sl,(hs.2 b (Nat.ne_of_lt (Nat.lt_of_lt_of_le (Heap.lt_size e) I.ok.above))).trans e1⟩
  ·obtain⟨o',e1⟩:=I.base.there b o e hx;exact⟨o',(hs.2 b (Nat.ne_of_lt (Nat.lt_of_lt_of_le (Heap.lt_size e) I.ok.above))).trans e1⟩
  ·by_cases hj:j=i
   ·subst hj;rw[hi] at e1;cases e1;rw[List.getElem?_set_self hiσ] at e2;cases e2;exact⟨u,r,.inl ⟨hk,by simp⟩⟩
   ·rw[List.getElem?_set_ne (Ne.symm hj)] at e2;obtain⟨u',r',q⟩:=hl j y v' e1 e2 e3;refine⟨u',r',?_⟩;rcases q with⟨k,e⟩|⟨k,c,e,z⟩
    ·refine .inl ⟨k,?_⟩;have:y≠x:=fun e=>hj (b5o hN e1 (e ▸ hi))
     simp[this,e]
    ·exact .inr ⟨k,c,e,z.sameBut hs (cne y c e)⟩
  ·obtain⟨w',z⟩:=I.cell y c e;exact⟨w',z.sameBut hs (cne y c e)⟩
  ·obtain⟨e,n,ne,nf,d⟩:=I.pin p hp;exact⟨(hs.2 p.1 ne).trans e,n,ne,nf,d⟩
 ·have hfn:X.fn x=true:=by
   rcases hf with z|z
   ·exact z
   ·rw[z] at hk;cases hk
  obtain⟨c,hc⟩:=I.ok.has x (.inl hk);obtain⟨w',z⟩:=I.cell x c hc;refine wpAny_storeName_cell I.ok.kind hk hc z (fun h' hc' hs=>?_)
  obtain⟨oc,hoc,hocd⟩:=id z;refine h { s with heap:=h'} ⟨I.ok,I.os,I.bare,⟨fun b o e n hb hx=>?_,fun b o e n hb hx=>?_,I.base.free,fun b o e hx=>?_,I.base.tups,I.base.frzs,I.base.tbls⟩,⟨m,hn.sameBut hs (Ne.symm (cne x c hc)),fun j y v' e1 e2 e3=>?_⟩,fun y c' e=>?_,I.free,I.freeC,fun p hp=>?_,tracked ⟨oc,hoc,I.freeC x c hc⟩ hs,by simpa using I.len⟩ ⟨c,hs,.inr hc⟩
  ·exact(hs.2 b (Nat.ne_of_lt (Nat.lt_of_lt_of_le (Heap.lt_size e) (I.ok.cab x c hfn hc)))).trans (I.base.keep b o e n hb hx)
  ·obtain⟨sl,e1⟩:=I.base.slot b o e n hb hx;exact⟨sl,(hs.2 b (Nat.ne_of_lt (Nat.lt_of_lt_of_le (Heap.lt_size e) (I.ok.cab x c hfn hc)))).trans e1⟩
  ·obtain⟨o',e1⟩:=I.base.there b o e hx;exact⟨o',(hs.2 b (Nat.ne_of_lt (Nat.lt_of_lt_of_le (Heap.lt_size e) (I.ok.cab x c hfn hc)))).trans e1⟩
  ·by_cases hj:j=i
   ·subst hj;rw[hi] at e1;cases e1;rw[List.getElem?_set_self hiσ] at e2;cases e2;exact⟨u,r,.inr ⟨.inl hk,c,hc,hc'⟩⟩
   ·rw[List.getElem?_set_ne (Ne.symm hj)] at e2;obtain⟨u',r',q⟩:=hl j y v' e1 e2 e3;refine⟨u',r',?_⟩;rcases q with q|⟨k,c',e,z'⟩
    ·exact .inl q
    ·refine .inr ⟨k,c',e,z'.sameBut hs ?_⟩;rintro rfl;exact hj (b5o hN e1 (I.ok.inj _ _ _ e hc ▸ hi))
  ·by_cases hcc:c'=c
   ·subst hcc;exact⟨_,hc'⟩
   ·obtain⟨w2,z2⟩:=I.cell y c' e;exact⟨w2,z2.sameBut hs hcc⟩
  ·obtain⟨e,n,ne,nf,d⟩:=I.pin p hp;refine⟨(hs.2 p.1 ?_).trans e,n,ne,nf,d⟩;intro q;rw[q,hoc] at e;have q':oc=p.2:=Option.some.inj e;exact d w' (by rw[<-q'];exact hocd)
theorem b5p{M:Model}{A:Around}{E:Value->Shared->Prop}{i:Nat}{x:Str}{v:V}{u:Value}{Q:Unit->Shared->Prop}(I:Inv X pins σ H s)(hN:X.N.Nodup)(hi:X.N[i]?=some x)(hx:Loc X.env.scope x)(r:RelV v u)
  (h:∀s',Inv X pins (σ.set i (some v)) H s'->Q () s') (hf:X.fn x=true\/X.env.scope.names.lookup x=some .local := by first|exact .inl rfl|exact .inr rfl|assumption):wpAny M A (storeName X.env x u) Q E s:=
 b7o I hN hi hx r (fun s' I' _=>h s' I') hf
theorem Inv.call'{s':Shared}{ch:List Addr}(I:Inv X pins σ H s)(ho:s'.os=s.os)(u:Un (frs X.stack) ch H H' s.heap s'.heap)(hok:HOk X.prog X.w H' s'.heap)(hg:AllBare s'.gens)
  (hch:∀b∈ch,(b∈X.ex\/X.s₀.heap.objs.size<=b)/\b≠X.env.locals/\(∀x c,X.env.cells.lookup x=some c->c≠b)/\∀p∈X.pn++pins,p.1≠b):Inv X pins σ H' s':=by
 obtain⟨h',g',d',t',o'⟩:=s';have e:o'=s.os:=ho;subst e;exact I.call (g':=g') (t':=t') (d':=d') u hok hg hch
end
abbrev XK:=Value->Option Addr->Hp->Prop
abbrev St:=List (Option V)
abbrev VK:=V->Hp->Prop
abbrev TE:=St->Hp->VK->Prop
abbrev TT:=St->Hp->(Bool->Hp->Prop)->Prop
abbrev TA:=St->Hp->(List V->Hp->Prop)->Prop
set_option genInjectivity false in
structure Ends where
 nx:St->Hp->Prop
 rt:VK
 bk:St->Hp->Prop:=fun _ _=>False
 ct:St->Hp->Prop:=fun _ _=>False
abbrev TS:=Ends->St->Hp->Prop
def EP(X:Cx)(pins:List (Addr×Obj))(σ:St)(Q:VK)(u:Value)(s':Shared):Prop:=∃v H',Inv X pins σ H' s'/\RelV v u/\Q v H'
def TP(X:Cx)(pins:List (Addr×Obj))(σ:St)(Q:Bool->Hp->Prop)(b:Bool)(s':Shared):Prop:=∃H',Inv X pins σ H' s'/\Q b H'
def AP(X:Cx)(pins:List (Addr×Obj))(σ:St)(Q:List V->Hp->Prop)(us:List Value)(s':Shared):Prop:=∃vs H',Inv X pins σ H' s'/\Vals vs us/\Q vs H'
def SP(X:Cx)(pins:List (Addr×Obj))(D:Ends)(f:Flow)(s':Shared):Prop:=
 match f with
 |.next=>∃σ' H',Inv X pins σ' H' s'/\D.nx σ' H'
 |.brk=>∃σ' H',Inv X pins σ' H' s'/\D.bk σ' H'
 |.cont=>∃σ' H',Inv X pins σ' H' s'/\D.ct σ' H'
 |.ret u=>∃v σ' H',Inv X pins σ' H' s'/\RelV v u/\D.rt v H'
def PE(X:Cx)(e:Expr)(t:TE):Prop:=
 ∀(pins:List (Addr×Obj)) (s:Shared) (σ:St) (H:Hp) (Q:VK),Inv X pins σ H s->t σ H Q->wpAny (model X.prog X.w) X.A (eval e X.env) (EP X pins σ Q) X.xe s
def PT(X:Cx)(e:Expr)(t:TT):Prop:=
 ∀(pins:List (Addr×Obj)) (s:Shared) (σ:St) (H:Hp) (Q:Bool->Hp->Prop),Inv X pins σ H s->t σ H Q->wpAny (model X.prog X.w) X.A (isTrue e X.env (eval e X.env)) (TP X pins σ Q) X.xe s
def PW(X:Cx)(e:Expr)(t:TT):Prop:=
 ∀(whole:Sem Value) (pins:List (Addr×Obj)) (s:Shared) (σ:St) (H:Hp) (Q:Bool->Hp->Prop),Inv X pins σ H s->t σ H Q->wpAny (model X.prog X.w) X.A (isTrue e X.env whole) (TP X pins σ Q) X.xe s
theorem PW.pt{X:Cx}{e:Expr}{t:TT}(h:PW X e t):PT X e t:=h _
def PA(X:Cx)(es:List Expr)(t:TA):Prop:=
 ∀(pos:Pos) (pins:List (Addr×Obj)) (s:Shared) (σ:St) (H:Hp) (Q:List V->Hp->Prop),Inv X pins σ H s->t σ H Q->wpAny (model X.prog X.w) X.A (spliced (backTo pos (starEach es X.env))) (AP X pins σ Q) X.xe s
def PS(X:Cx)(st:Stmt)(t:TS):Prop:=
 ∀(pins:List (Addr×Obj)) (s:Shared) (σ:St) (H:Hp) (D:Ends),Inv X pins σ H s->t D σ H->wpAny (model X.prog X.w) X.A (exec st X.env) (SP X pins D) X.xe s
def PSs(X:Cx)(st:List Stmt)(t:TS):Prop:=
 ∀(pins:List (Addr×Obj)) (s:Shared) (σ:St) (H:Hp) (D:Ends),Inv X pins σ H s->t D σ H->wpAny (model X.prog X.w) X.A (execs st X.env) (SP X pins D) X.xe s
theorem thn{α:Type}{t:Sem α}{Q Q':α->Shared->Prop}{M:Model}{A:Around}{E:Value->Shared->Prop}{s:Shared}(h:wpAny M A t Q E s)(hQ:∀a s,Q a s->Q' a s):wpAny M A t Q' E s:=wpAny_mono h hQ fun _ _ x=>x
section
variable {X:Cx}
def tVar(i:Nat):TE:=fun σ H Q=>∃v,σ[i]?=some (some v)/\Q v H
def tC(v:V):TE:=fun _ H Q=>Q v H
theorem d8t{i:Nat}{x:Str}{pos:Pos}(hN:X.N[i]?=some x)(hv:Vis X.env.scope x)(hd:(x == ("__debug__":Str))=false:=by decide)(hcd:(x == ("__classdict__":Str))=false:=by decide):PE X (.Name x pos) (tVar i):=by
 intro pins s σ H Q I h;obtain⟨v,e,h⟩:=h;obtain⟨m,hn,hl⟩:=I.loc;obtain⟨u,r,l⟩:=hl i x v hN e hv;have fin:EP X pins σ Q u s:=⟨v,H,I,r,h⟩;rcases l with⟨hk,hm⟩|⟨hk,c,hc,hcell⟩
 ·exact wpAny_Name (wpAny_loadName_local I.ok.kind hk hn hm fin) hd
 ·rcases hk with hk|hk
  ·exact wpAny_Name (wpAny_loadName_cell I.ok.kind hk hc hcell fin) hd
  ·exact wpAny_Name (wpAny_loadName_free I.ok.kind hk hc hcell fin hcd) hd
theorem a0e{i j pos}:PE X (.Constant (.int i) j pos) (tC (.int i)):=fun _ _ _ H _ I h=>wpAny_Constant_int ⟨.int i,H,I.tok _,⟨_,rfl⟩,h⟩
theorem b7p{b j pos}:PE X (.Constant (.bool b) j pos) (tC (.bl b)):=fun _ _ _ H _ I h=>Constant_bool ⟨.bl b,H,I,rfl,h⟩
theorem d3n{j pos}:PE X (.Constant .none j pos) (tC .non):=fun _ _ _ H _ I h=>Constant_none ⟨.non,H,I,rfl,h⟩
theorem a1g{x j pos}:PE X (.Constant (.str x) j pos) (tC (.str x)):=fun _ _ _ H _ I h=>Calls.Constant_str ⟨.str x,H,I.tok _,⟨_,rfl⟩,h⟩
def Gl(X:Cx)(x:Str):Prop:=X.env.kindOf x=some .globalImplicit
theorem b5q{E:Value->Shared->Prop}{pins:List (Addr×Obj)}{s:Shared}{σ:St}{H:Hp}{x:Str}{u:Value}{pos:Pos}{Q:Value->Shared->Prop}(I:Inv X pins σ H s)(hg:Gl X x)(hm:X.mg x=some u)(h:Q u s)
  (hd:(x == ("__debug__":Str))=false:=by decide):wpAny (model X.prog X.w) X.A (eval (.Name x pos) X.env) Q E s:=
 Calls.Name_function_global I.ok.kind hg (Calls.loadGlobal_global (by rw[I.ok.glob];exact I.mod.glob.keeps I.bk) hm h) hd
theorem b2t{E:Value->Shared->Prop}{pins:List (Addr×Obj)}{s:Shared}{σ:St}{H:Hp}{x:Str}{u:Value}{pos:Pos}{Q:Value->Shared->Prop}(I:Inv X pins σ H s)(hg:Gl X x)(hm:X.mg x=none)(hv:bootBuiltins x=some u)(h:Q u s)
  (hn:x≠"__name__":=by decide) (hd:(x == ("__debug__":Str))=false:=by decide):wpAny (model X.prog X.w) X.A (eval (.Name x pos) X.env) Q E s:=by
 obtain⟨mb,h1,h2⟩:=I.mod.blt;exact Calls.Name_function_global I.ok.kind hg (Calls.loadGlobal_builtin (by rw[I.ok.glob];exact I.mod.glob.keeps I.bk) hm (by rw[I.ok.blt];exact h1.keeps I.bk) ((h2 x hn).trans hv) h) hd
theorem b1d{x:Str}{v:V}{u:Value}{pos:Pos}(hg:Gl X x)(hm:X.mg x=some u)(r:RelV v u)(hd:(x == ("__debug__":Str))=false:=by decide):PE X (.Name x pos) (tC v):=
 fun _ _ _ H _ I h=>b5q I hg hm ⟨v,H,I,r,h⟩ hd
theorem c5k{x:Str}{v:V}{u:Value}{pos:Pos}(hg:Gl X x)(hm:X.mg x=none)(hv:bootBuiltins x=some u)(r:RelV v u)(hn:x≠"__name__":=by decide)(hd:(x == ("__debug__":Str))=false:=by decide):PE X (.Name x pos) (tC v):=
 fun _ _ _ H _ I h=>b2t I hg hm hv ⟨v,H,I,r,h⟩ hn hd
variable {a b:Expr} {ta tb:TE} {pos:Pos}
def tB(t:TE):TT:=fun σ H Q=>t σ H fun x H1=>∃c,x=.bl c/\Q c H1
variable {tA tB':TT} {rest:List Expr}
def tAnd(t u:TT):TT:=fun σ H Q=>t σ H fun c H1=>if c=true then u σ H1 Q else Q false H1
def tOr(t u:TT):TT:=fun σ H Q=>t σ H fun c H1=>if c=true then Q true H1 else u σ H1 Q
def tNot(t:TT):TT:=fun σ H Q=>t σ H fun c H1=>Q (!c) H1
theorem d5e(ha:PT X a tA):PW X (.BoolOp .And [a] pos) tA:=by
 intro wh pins s σ H Q I h;refine isTrue_and (thn (ha pins s σ H Q I h) fun c s1 e=>?_)
 cases c with
 |true=>exact isTrue_and_nil e
 |false=>exact e
theorem d8u(ha:PT X a tA):PW X (.BoolOp .Or [a] pos) tA:=by
 intro wh pins s σ H Q I h;refine isTrue_or (thn (ha pins s σ H Q I h) fun c s1 e=>?_)
 cases c with
 |false=>exact isTrue_or_nil e
 |true=>exact e
theorem d8v(ha:PT X a tA)(hb:PW X (.BoolOp .And (b::rest) pos) tB'):PW X (.BoolOp .And (a::b::rest) pos) (tAnd tA tB'):=by
 intro wh pins s σ H Q I h;refine isTrue_and (thn (ha pins s σ H _ I h) fun c s1 hh=>?_)
 obtain⟨H1,I1,q1⟩:=hh;cases c with
 |true=>exact hb wh pins s1 σ H1 Q I1 q1
 |false=>exact⟨H1,I1,q1⟩
theorem e1l(ha:PT X a tA)(hb:PW X (.BoolOp .Or (b::rest) pos) tB'):PW X (.BoolOp .Or (a::b::rest) pos) (tOr tA tB'):=by
 intro wh pins s σ H Q I h;refine isTrue_or (thn (ha pins s σ H _ I h) fun c s1 hh=>?_)
 obtain⟨H1,I1,q1⟩:=hh;cases c with
 |true=>exact⟨H1,I1,q1⟩
 |false=>exact hb wh pins s1 σ H1 Q I1 q1
theorem d8w(ha:PT X a tA):PT X (.UnaryOp .Not a pos) (tNot tA):=by
 intro pins s σ H Q I h;exact isTrue_not (ha pins s σ H (fun c H1=>Q (!c) H1) I h)
def tAndV(ta tb:TE):TE:=fun σ H Q=>ta σ H fun x H1=>∃c,x=.bl c/\if c=true then tb σ H1 Q else Q (.bl false) H1
theorem d8x{op}{t:TE}(h:PE X a t):PE X (.BoolOp op [a] pos) t:=fun pins s σ H Q I hw=>BoolOp_one (h pins s σ H Q I hw)
theorem d8y(ha:PE X a ta)(hb:PE X (.BoolOp .And (b::rest) pos) tb):PE X (.BoolOp .And (a::b::rest) pos) (tAndV ta tb):=by
 intro pins s σ H Q I h;refine BoolOp_and (thn (ha pins s σ H _ I h) fun v s1 hh=>?_)
 obtain⟨x,H1,I1,r1,q1⟩:=hh;obtain⟨c,rfl,q1⟩:=q1;cases r1;refine wpAny_truthy_bool ?_;cases c with
 |true=>exact hb pins s1 σ H1 Q I1 q1
 |false=>exact⟨.bl false,H1,I1,rfl,q1⟩
def tIf(t:TT)(ta tb:TE):TE:=fun σ H Q=>t σ H fun c H1=>if c=true then ta σ H1 Q else tb σ H1 Q
theorem d0z{c:Expr}(hc:PT X c tA)(ha:PE X a ta)(hb:PE X b tb):PE X (.IfExp c a b pos) (tIf tA ta tb):=by
 intro pins s σ H Q I h;refine wpAny_IfExp (thn (hc pins s σ H _ I h) fun d s1 hh=>?_)
 obtain⟨H1,I1,q1⟩:=hh;cases d with
 |true=>exact ha pins s1 σ H1 Q I1 q1
 |false=>exact hb pins s1 σ H1 Q I1 q1
end
def SqL(K:L2.FG)(H:Hp)(a:Addr)(xs:List V):Prop:=
 Rd H a (.lst xs)\/
  ∃(o:Obj) (its:Array Value) (n:Nat),K.lookup a=some o/\o.cls=.type "list"/\o.dict=none/\o.data=.seq its n/\its.size<=sizeLine/\Vals xs its.toList
def SqT(K:L2.FG)(H:Hp)(a:Addr)(xs:List V):Prop:=
 Rd H a (.tup xs)\/
  ∃(o:Obj) (its:Array Value) (n:Nat),K.lookup a=some o/\o.cls=.type "tuple"/\o.data=.seq its n/\its.size<=sizeLine/\Vals xs its.toList
def absV:Value->Option V
 |.none=>some .non
 |.bool b=>some (.bl b)
 |.int i _=>some (.int i)
 |.str x _=>some (.str x)
 |.bytes b _=>some (.byt b)
 |.float b _=>some (.flt b)
 |.ref a=>some (.ref a)
 |.type n=>some (.ty n)
 |_=>none
theorem RelV.abs{x:V}{u:Value}(r:RelV x u):absV u=some x:=by
 cases x with
 |non=>cases r;rfl
 |bl _=>cases r;rfl
 |int _=>obtain⟨t,rfl⟩:=r;rfl
 |str _=>obtain⟨t,rfl⟩:=r;rfl
 |byt _=>obtain⟨t,rfl⟩:=r;rfl
 |flt _=>obtain⟨t,rfl⟩:=r;rfl
 |ref _=>cases r;rfl
 |ty _=>cases r;rfl
theorem RelV.inj{x y:V}{u:Value}(r:RelV x u)(q:RelV y u):x=y:=Option.some.inj (r.abs.symm.trans q.abs)
theorem Vals.inj{xs ys:List V}{us:List Value}(h:Vals xs us)(h':Vals ys us):xs=ys:=by
 induction h generalizing ys with
 |nil=>cases h';rfl
 |cons r t ih=>
  cases h' with
  |cons r' t'=>rw[r.inj r',ih t']
section
variable {X:Cx} {pins:List (Addr×Obj)} {σ:St} {H:Hp} {s:Shared} {a:Addr} {xs ys:List V}
theorem SqL.of{K:L2.FG}(h:H a=some (.lst xs)):SqL K H a xs:=.inl (.inl h)
theorem SqT.of{K:L2.FG}(h:H a=some (.tup xs)):SqT K H a xs:=.inl (.inl h)
theorem Inv.list(I:Inv X pins σ H s)(h:SqL X.K H a xs):∃its:List Value,Vals xs its/\PlainL s.heap a its.toArray/\xs.length<=sizeLine:=by
 rcases h with h|⟨o,its,n,hk,hc,hd,hs,hz,r⟩
 ·obtain⟨z,its,n,r,e⟩:=h.ok I.hok;exact⟨its,r,⟨_,n,e,rfl,rfl,rfl⟩,z⟩
 ·refine⟨its.toList,r,⟨o,n,I.kIn a o hk,hc,hd,by simpa using hs⟩,?_⟩
  have e:=r.length;simp only[Array.length_toList] at e;omega
theorem Inv.tuple(I:Inv X pins σ H s)(h:SqT X.K H a xs):∃its:List Value,Vals xs its/\IsTup s.heap a its.toArray/\xs.length<=sizeLine:=by
 rcases h with h|⟨o,its,n,hk,hc,hs,hz,r⟩
 ·obtain⟨z,its,r,p⟩:=h.ok I.hok;exact⟨its,r,p,z⟩
 ·refine⟨its.toList,r,⟨o,I.kIn a o hk,hc,n,by simpa using hs⟩,?_⟩
  have e:=r.length;simp only[Array.length_toList] at e;omega
theorem Inv.list_inj(I:Inv X pins σ H s)(h:SqL X.K H a xs)(h':SqL X.K H a ys):xs=ys:=by
 obtain⟨its,r,⟨o,n,e,_,_,d⟩,_⟩:=I.list h;obtain⟨its',r',⟨o',n',e',_,_,d'⟩,_⟩:=I.list h';rw[e] at e';cases e';rw[d] at d';injection d' with d1 _;have:its=its':=by simpa using congrArg Array.toList d1
 subst this;exact r.inj r'
theorem Inv.tuple_inj(I:Inv X pins σ H s)(h:SqT X.K H a xs)(h':SqT X.K H a ys):xs=ys:=by
 obtain⟨its,r,⟨o,e,_,n,d⟩,_⟩:=I.tuple h;obtain⟨its',r',⟨o',e',_,n',d'⟩,_⟩:=I.tuple h';rw[e] at e';cases e';rw[d] at d';injection d' with d1 _;have:its=its':=by simpa using congrArg Array.toList d1
 subst this;exact r.inj r'
end
abbrev Cx.wish(X:Cx)(E:Value->Shared->Prop):Cx:={ X with xe:=E}
abbrev Cx.nox(X:Cx):Cx:=X.wish fun _ _=>False
theorem Cx.Ok.wish{X:Cx}(ok:X.Ok)(E:Value->Shared->Prop):(X.wish E).Ok:=
 ⟨ok.mod,ok.kind,ok.glob,ok.blt,ok.above,ok.inj,ok.has,ok.cab,ok.hd,ok.frames,ok.stk,ok.exf,ok.bs,ok.bsz,ok.noex,ok.exfs,ok.funs,ok.frf⟩
theorem Cx.Ok.unwish{X:Cx}{E:Value->Shared->Prop}(ok:(X.wish E).Ok):X.Ok:=
 ⟨ok.mod,ok.kind,ok.glob,ok.blt,ok.above,ok.inj,ok.has,ok.cab,ok.hd,ok.frames,ok.stk,ok.exf,ok.bs,ok.bsz,ok.noex,ok.exfs,ok.funs,ok.frf⟩
section
variable {X:Cx} {pins:List (Addr×Obj)} {σ:St} {H:Hp} {s:Shared} {E:Value->Shared->Prop}
theorem Inv.wish(I:Inv X pins σ H s)(E:Value->Shared->Prop):Inv (X.wish E) pins σ H s:=⟨I.ok.wish E,I.os,I.bare,I.base,I.loc,I.cell,I.free,I.freeC,I.pin,I.hok,I.len⟩
theorem Inv.unwish(I:Inv (X.wish E) pins σ H s):Inv X pins σ H s:=⟨I.ok.unwish,I.os,I.bare,I.base,I.loc,I.cell,I.free,I.freeC,I.pin,I.hok,I.len⟩
theorem SP.unwish{D:Ends}{f:Flow}{s':Shared}(h:SP (X.wish E) pins D f s'):SP X pins D f s':=by
 cases f with
 |next=>obtain⟨σ',H',I,q⟩:=h;exact⟨σ',H',I.unwish,q⟩
 |brk=>obtain⟨σ',H',I,q⟩:=h;exact⟨σ',H',I.unwish,q⟩
 |cont=>obtain⟨σ',H',I,q⟩:=h;exact⟨σ',H',I.unwish,q⟩
 |ret u=>obtain⟨v,σ',H',I,r,q⟩:=h;exact⟨v,σ',H',I.unwish,r,q⟩
theorem PSs.nox{st:List Stmt}{t:TS}(h:PSs X.nox st t):PSs X st t:=fun pins s σ H D I hw=>
 wpAny_mono (h pins s σ H D (I.wish _) hw) (fun _ _ q=>q.unwish) fun _ _ z=>False.elim z
end
section
variable {X:Cx} {st:Stmt} {rest:List Stmt} {t u:TS} {e:Expr} {te:TE} {pos:Pos}
def tNext:TS:=fun D σ H=>D.nx σ H
def tSeq(t u:TS):TS:=fun D σ H=>t { D with nx:=u D} σ H
theorem pss_nil:PSs X [] tNext:=fun _ _ σ H _ I h=>wpAny_execs_nil ⟨σ,H,I,h⟩
theorem a8k(h1:PS X st t)(h2:PSs X rest u):PSs X (st::rest) (tSeq t u):=by
 intro pins s σ H D I h;refine wpAny_execs_cons (thn (h1 pins s σ H { D with nx:=u D} I h) fun f s1 q=>?_)
 cases f with
 |next=>
  obtain⟨σ',H',I',q⟩:=q;exact h2 pins s1 σ' H' D I' q
 |ret v=>exact q
 |brk=>exact q
 |cont=>exact q
theorem d5f(h1:PS X st t):PSs X [st] t:=by
 intro pins s σ H D I h;refine wpAny_execs_cons (thn (h1 pins s σ H D I h) fun f s1 q=>?_)
 cases f with
 |next=>exact wpAny_execs_nil q
 |ret v=>exact q
 |brk=>exact q
 |cont=>exact q
theorem Inv.quiet{pins:List (Addr×Obj)}{σ:St}{H:Hp}{s:Shared}(I:Inv X pins σ H s):interactive X.env=false:=by simp[interactive,I.ok.kind]
def tDrop(te:TE):TS:=fun D σ H=>te σ H fun _ H1=>D.nx σ H1
theorem c5l(he:PE X e te)(hs:swapsWith e none pos.line X.env=pure false:=by rfl):PS X (.Expr e pos) (tDrop te):=by
 intro pins s σ H D I h;exact wpAny_Expr_any (thn (he pins s σ H _ I h) fun v s1 ⟨x,H1,I1,r1,q1⟩=>⟨σ,H1,I1,q1⟩) I.quiet hs
def tRet(te:TE):TS:=fun D σ H=>te σ H D.rt
theorem d3o(he:PE X e te):PS X (.Return (some e) pos) (tRet te):=by
 intro pins s σ H D I h;exact wpAny_Return_some (thn (he pins s σ H _ I h) fun v s1 ⟨x,H1,I1,r1,q1⟩=>⟨x,σ,H1,I1,r1,q1⟩)
def tIfS(c:TT)(t u:TS):TS:=fun D σ H=>c σ H fun b H1=>if b=true then t D σ H1 else u D σ H1
theorem d8z{c:Expr}{a b:List Stmt}{tc:TT}(hc:PT X c tc)(ha:PSs X a t)(hb:PSs X b u):PS X (.If c a b pos) (tIfS tc t u):=by
 intro pins s σ H D I h;refine wpAny_If (thn (hc pins s σ H _ I h) fun d s1 hh=>?_)
 obtain⟨H1,I1,q1⟩:=hh;cases d with
 |true=>exact ha pins s1 σ H1 D I1 q1
 |false=>exact hb pins s1 σ H1 D I1 q1
end
abbrev TG:=V->St->Hp->(St->Hp->Prop)->Prop
abbrev TGs:=List V->St->Hp->(St->Hp->Prop)->Prop
def PG(X:Cx)(target:Expr)(t:TG):Prop:=
 ∀(pins:List (Addr×Obj)) (s:Shared) (σ:St) (H:Hp) (v:V) (u:Value) (Q:St->Hp->Prop),Inv X pins σ H s->RelV v u->t v σ H Q->
  wpAny (model X.prog X.w) X.A (assign target X.env u) (fun _ s'=>∃σ' H',Inv X pins σ' H' s'/\Q σ' H') X.xe s
def PGs(X:Cx)(ts:List Expr)(t:TGs):Prop:=
 ∀(pins:List (Addr×Obj)) (s:Shared) (σ:St) (H:Hp) (vs:List V) (us:List Value) (Q:St->Hp->Prop),Inv X pins σ H s->Vals vs us->t vs σ H Q->
  wpAny (model X.prog X.w) X.A (assignInOrder ((assignEach ts X.env).map (·.2)) us) (fun _ s'=>∃σ' H',Inv X pins σ' H' s'/\Q σ' H') X.xe s
abbrev TSet:=V->V->V->Hp->(Hp->Prop)->Prop
def PSet(X:Cx)(t:TSet):Prop:=
 ∀(pins:List (Addr×Obj)) (s:Shared) (σ:St) (H:Hp) (o i v:V) (ov iv u:Value) (Q:Hp->Prop),Inv X pins σ H s->RelV o ov->RelV i iv->RelV v u->t o i v H Q->
  wpAny (model X.prog X.w) X.A (setItem ov iv u) (fun _ s'=>∃H',Inv X pins σ H' s'/\Q H') X.xe s
section
variable {X:Cx} {pos:Pos}
def gName(i:Nat):TG:=fun v σ H Q=>Q (σ.set i (some v)) H
theorem a1w{i:Nat}{x:Str}(hN:X.N.Nodup)(hi:X.N[i]?=some x)(hx:Loc X.env.scope x)(hf:X.fn x=true\/X.env.scope.names.lookup x=some .local := by first|exact .inl rfl|exact .inr rfl|assumption):PG X (.Name x pos) (gName i):=by
 intro pins s σ H v u Q I r h;exact wpAny_assign_Name (b5p I hN hi hx r (fun s' I'=>⟨_,H,I',h⟩) hf)
def gNil:TGs:=fun vs σ H Q=>vs=[]/\Q σ H
def gCons(t:TG)(u:TGs):TGs:=fun vs σ H Q=>∃v r,vs=v::r/\t v σ H fun σ' H'=>u r σ' H' Q
theorem c0c:PGs X [] gNil:=by
 intro pins s σ H vs us Q I r h;obtain⟨e,h⟩:=h;subst e;cases r;exact assignInOrder_nil ⟨σ,H,I,h⟩
theorem a5c{e:Expr}{es:List Expr}{t:TG}{u:TGs}(h1:PG X e t)(h2:PGs X es u)
  (hs:(assignEach (e::es) X.env).map (·.2)=assign e X.env::(assignEach es X.env).map (·.2):=by rfl):PGs X (e::es) (gCons t u):=by
 intro pins s σ H vs us Q I r h;obtain⟨v,vr,e1,h⟩:=h;subst e1;cases r with
 |cons r rr=>
  rw[hs];refine assignInOrder_cons (thn (h1 pins s σ H _ _ _ I r h) fun _ s1 hh=>?_)
  obtain⟨σ1,H1,I1,q1⟩:=hh;exact h2 pins s1 σ1 H1 _ _ Q I1 rr q1
def gTup(K:L2.FG)(n:Nat)(t:TGs):TG:=fun v σ H Q=>∃a xs,v=.ref a/\SqT K H a xs/\xs.length=n/\t xs σ H Q
theorem c5m{es:List Expr}{k:Nat}{t:TGs}{n:Nat}(hc:X.calm=true)(h:PGs X es t)
  (hn:(assignEach es X.env).length=n:=by rfl) (hst:(assignEach es X.env).findIdx? (·.1)=none:=by rfl):PG X (.Tuple es k pos) (gTup X.K n t):=by
 intro pins s σ H v u Q I r hw;obtain⟨a,xs,e1,hq,hl,hw⟩:=hw;subst e1;cases r;obtain⟨its,rv,ht,hz⟩:=I.tuple hq;refine assign_Tuple_tuple (I.ok.hd hc) ht (by simp[hn,<-hl,rv.length]) hst fun h' hx=>?_
 have I1:Inv X pins σ H { s with heap:=h'}:=I.kept (t':=s.toks) fun b o e=>hx b o (Nat.ne_of_lt (Heap.lt_size e)) e
 exact h pins _ σ H xs _ Q I1 (by simpa using rv) hw
def gSub(to ti:TE)(t:TSet):TG:=fun v σ H Q=>to σ H fun o H1=>ti σ H1 fun i H2=>t o i v H2 fun H3=>Q σ H3
theorem d3p{o i:Expr}{to ti:TE}{t:TSet}(ho:PE X o to)(hi:PE X i ti)(hs:PSet X t)
  (ha:∀v,assign (.Subscript o i pos) X.env v=(do
   let ov <-holding [v] (eval o X.env)
   let iv <-holding [v,ov] (eval i X.env)
   standAt pos
   holding [v,ov,iv] (setItem ov iv v)
   release [v,ov,iv] []):=by intro _;rfl):PG X (.Subscript o i pos) (gSub to ti t):=by
 intro pins s σ H v u Q I r h;rw[ha];refine wpAny_bind (wpAny_holding (thn (ho pins s σ H _ I h) fun ov s1 hh=>?_))
 obtain⟨x,H1,I1,r1,q1⟩:=hh;refine wpAny_bind (wpAny_holding (thn (hi pins s1 σ H1 _ I1 q1) fun iv s2 hh=>?_))
 obtain⟨y,H2,I2,r2,q2⟩:=hh;refine wpAny_bind (wpAny_standAt (wpAny_bind (wpAny_holding (thn (hs pins s2 σ H2 x y v ov iv u _ I2 r1 r2 r q2) fun _ s3 hh=>?_))))
 obtain⟨H3,I3,q3⟩:=hh;exact wpAny_release ⟨σ,H3,I3,q3⟩
def tAsg(te:TE)(g:TG):TS:=fun D σ H=>te σ H fun x H1=>g x σ H1 D.nx
theorem d3q{tg e:Expr}{te:TE}{g:TG}(he:PE X e te)(hg:PG X tg g)(hs:swapsWithSole [tg] e pos.line X.env=pure false:=by rfl)(hw:swappedStores [tg] e X.env=pure none:=by rfl)
  (h1:(assignEach [tg] X.env).map (·.2)=[assign tg X.env]:=by rfl):PS X (.Assign [tg] e pos) (tAsg te g):=by
 intro pins s σ H D I h;refine wpAny_Assign_stores (thn (he pins s σ H _ I h) fun v s1 hh=>?_) hs hw
 obtain⟨x,H1,I1,r1,q1⟩:=hh;rw[h1];exact thn (hg pins s1 σ H1 x v _ I1 r1 q1) fun _ s2 q=>q
theorem c1p{i:Nat}{x:Str}{e:Expr}{te:TE}{pos':Pos}(hN:X.N.Nodup)(hi:X.N[i]?=some x)(hx:Loc X.env.scope x)(he:PE X e te)(hs:swapsWith e (some (.Name x pos')) pos.line X.env=pure false:=by rfl)(hf:X.fn x=true\/X.env.scope.names.lookup x=some .local := by first|exact .inl rfl|exact .inr rfl|assumption):
  PS X (.Assign [.Name x pos'] e pos) (tAsg te (gName i)):=by
 intro pins s σ H D I h;refine wpAny_Assign_Name (thn (he pins s σ H _ I h) fun v s1 hh=>?_) hs
 obtain⟨y,H1,I1,r1,q1⟩:=hh;exact b5p I1 hN hi hx r1 (fun s2 I2=>⟨_,H1,I2,q1⟩) hf
end
section
variable {X:Cx} {pos:Pos}
end
set_option genInjectivity false in
structure It where
 go:Nat->Hp->Prop
 yld:Nat->Hp->V->Hp->Prop
 stop:Nat->Hp->Prop
def FpOk(X:Cx)(pins:List (Addr×Obj))(H:Hp)(b:Addr):Prop:=
 H b=none/\b≠X.env.locals/\b∉X.fs/\(b∈X.ex\/X.s₀.heap.objs.size<=b)/\(∀x c,X.env.cells.lookup x=some c->c≠b)/\∀p∈X.pn++pins,p.1≠b
theorem Inv.fpOk{X:Cx}{pins:List (Addr×Obj)}{σ:St}{H H':Hp}{s:Shared}{b:Addr}(I:Inv X pins σ H s)(hb:s.heap.objs.size<=b)(hn:H' b=none):FpOk X pins H' b:=by
 refine⟨hn,Nat.ne_of_gt (Nat.lt_of_lt_of_le I.lt hb),I.nofs hb,.inr (Nat.le_trans I.sz hb),fun x c e z=>?_,fun p hp z=>?_⟩
 ·obtain⟨v,q⟩:=I.cell x c e;exact absurd (Nat.lt_of_lt_of_le q.lt (by rw[z];exact hb)) (Nat.lt_irrefl _)
 ·exact absurd (Nat.lt_of_lt_of_le (Heap.lt_size (I.pin p hp).1) (by rw[z];exact hb)) (Nat.lt_irrefl _)
structure Turn (P:Program) (w:World) (K:L2.FG) (tg:Expr) (J:It) (fp:List Addr) (it:Addr) (tn:Nat->Heap->Prop):Prop where
 mem:it∈fp
 obj:∀i h,tn i h->∀b∈fp,∃o,h.get? b=some o/\∀v,o.data≠.cell v
 keep:∀i h h',tn i h->(∀b∈fp,∀o,h.get? b=some o->h'.get? b=some o)->tn i h'
 item:∀(X:Cx),X.prog=P->X.w=w->X.K=K->X.calm=true->∀(i:Nat) (pins:List (Addr×Obj)) (s:Shared) (σ:St) (H:Hp) (E:Value->Shared->Prop),Inv X pins σ H s->(∀b∈fp,FpOk X pins H b)->tn i s.heap->J.go i H->
  wpAny (model P w) X.A (pyNext (.ref it)) (fun r s1=>∃u,r=some u/\
   wpAny (model P w) X.A (letOwnedTupleGo tg (.ref it) u) (fun _ s2=>∃x H',Inv X pins σ H' s2/\RelV x u/\J.yld i H x H'/\tn (i+1) s2.heap/\∀b∈fp,H' b=none) E s1) E s
 done:∀(X:Cx),X.prog=P->X.w=w->X.K=K->X.calm=true->∀(i:Nat) (pins:List (Addr×Obj)) (s:Shared) (σ:St) (H:Hp) (E:Value->Shared->Prop),Inv X pins σ H s->(∀b∈fp,FpOk X pins H b)->tn i s.heap->J.stop i H->
  wpAny (model P w) X.A (pyNext (.ref it)) (fun r s1=>r=none/\Inv X pins σ H s1) E s
 self:∀(A:Around) (i:Nat) (s:Shared) (Q:Value->Shared->Prop) (E:Value->Shared->Prop),tn i s.heap->Q (.ref it) s->wpAny (model P w) A (pyIter (.ref it)) Q E s
abbrev TI:=St->Hp->(It->Hp->Prop)->Prop
def PIE(X:Cx)(pins:List (Addr×Obj))(σ:St)(tg:Expr)(R:It->Hp->Prop)(itv:Value)(s2:Shared):Prop:=
 ∃(it:Addr) (fp:List Addr) (tn:Nat->Heap->Prop) (J:It) (H':Hp),itv=.ref it/\Inv X pins σ H' s2/\Turn X.prog X.w X.K tg J fp it tn/\tn 0 s2.heap/\(∀b∈fp,FpOk X pins H' b)/\R J H'
def PI(X:Cx)(tg iter:Expr)(wi:TI):Prop:=
 ∀(pins:List (Addr×Obj)) (s:Shared) (σ:St) (H:Hp) (R:It->Hp->Prop),Inv X pins σ H s->wi σ H R->
  wpAny (model X.prog X.w) X.A (eval iter X.env) (fun v s1=>wpAny (model X.prog X.w) X.A (pyIter v) (PIE X pins σ tg R) X.xe s1) X.xe s
theorem d1a{M:Model}{A:Around}{E:Value->Shared->Prop}{s:Shared}{tg:Expr}{it:Addr}{u:Value}{o:Obj}{n:String}{vs:Array Value}{Q:Unit->Shared->Prop}(ho:s.heap.get? it=some o)(hc:o.cls=.type n)(hd:o.data=.fields vs)
  (hn:["enumerate","zip","dict_itemiterator","dict_reverseitemiterator","odict_iterator","itertools.zip_longest","itertools.pairwise"].contains n=false) (hQ:Q () s):wpAny M A (letOwnedTupleGo tg (.ref it) u) Q E s:=by
 unfold letOwnedTupleGo;cases tg <;> first
  |exact wpAny_pure hQ
  |(cases u <;> first
    |exact wpAny_pure hQ
    |(refine wpAny_bind (wpAny_load ho ?_)
      rw[hc,hd];show wpAny M A (if(["enumerate","zip","dict_itemiterator","dict_reverseitemiterator","odict_iterator","itertools.zip_longest","itertools.pairwise"].contains n && vs[0]? == some (rawInt _))=true then _ else _) Q E s
      rw[if_neg (by intro h;rw[hn,Bool.false_and] at h;cases h)]
      exact wpAny_pure hQ))
def Itl(K:L2.FG)(a:Addr):It:=
 ⟨fun i H=>∃xs x,SqL K H a xs/\xs[i]?=some x,fun i H x H'=>H'=H/\∀xs,SqL K H a xs->xs[i]?=some x,fun i H=>∃xs,SqL K H a xs/\xs.length<=i⟩
def Itr(lo:Int)(n:Nat):It:=⟨fun i _=>i < n,fun i H x H'=>H'=H/\x=.int (lo+i),fun i _=>n<=i⟩
theorem c5n{P:Program}{w:World}{K:L2.FG}{tg:Expr}(a it:Addr):Turn P w K tg (Itl K a) [it] it (fun i h=>h.IsListIter it a i) where
 mem:=by simp
 obj:=fun i h st b hb=>by
  have e:b=it:=by simpa using hb
  subst e;obtain⟨o,e,c,d⟩:=st;exact⟨o,e,fun v z=>by rw[d] at z;cases z⟩
 keep:=fun i h h' st k=>st.at fun o e=>k it (by simp) o e
 item:=by
  intro X hP hw hK hc i pins s σ H E I hf st hg;subst hP hw hK;obtain⟨xs,x,hq,hx⟩:=hg;obtain⟨its,rv,p,hz⟩:=I.list hq;obtain⟨u,hu,ru⟩:=rv.get hx;obtain⟨f0,f1,f2,f3,f4,f5⟩:=hf it (by simp)
  refine wpAny_pyNext_list_item st p.isList (x:=u) (by simpa using hu) fun h' st' sb=>?_
  have I1:Inv X pins σ H { s with heap:=h'}:=I.turned (t':=s.toks) (fun b o hb e=>(sb.2 b hb).trans e) f0 f1 f3 f4 f5
  obtain⟨o,e,c,d⟩:=id st';exact⟨u,rfl,d1a (s:={ s with heap:=h'}) e c d (by decide) ⟨x,H,I1,ru,⟨rfl,fun ys hy=>by rw[I.list_inj hy hq];exact hx⟩,st',fun b hb=>(hf b hb).1⟩⟩
 done:=by
  intro X hP hw hK hc i pins s σ H E I hf st hg;subst hP hw hK;obtain⟨xs,hq,hx⟩:=hg;obtain⟨its,rv,p,hz⟩:=I.list hq;obtain⟨f0,f1,f2,f3,f4,f5⟩:=hf it (by simp)
  have hl:=rv.length;exact wpAny_pyNext_list_end (I.ok.hd hc) st p.isList (by simp;omega) fun h' eb=>⟨rfl,I.turned (t':=s.toks) (fun b o hb e=>eb b o hb e) f0 f1 f3 f4 f5⟩
 self:=fun _ _ _ _ _ st h=>wpAny_pyIter_listiter st h
theorem c4e{P:Program}{w:World}{K:L2.FG}{tg:Expr}(it:Addr)(lo:Int)(n:Nat):Turn P w K tg (Itr lo n) [it] it (fun i h=>IsRangeIter h it (lo+(i:Nat) * 1) ((n:Int) - (i:Nat)) 1) where
 mem:=by simp
 obj:=fun i h st b hb=>by
  have e:b=it:=by simpa using hb
  subst e;exact⟨_,st,fun v z=>by
   have z':Data.fields _=Data.cell v:=z;cases z'⟩
 keep:=fun i h h' st k=>k it (by simp) _ st
 item:=by
  intro X hP hw hK hc i pins s σ H E I hf st hg;subst hP hw hK;obtain⟨f0,f1,f2,f3,f4,f5⟩:=hf it (by simp)
  have W:=Walks.range (prog:=X.prog) (w:=X.w) (I.ok.hd hc) it lo 1 n;refine W.item i s _ _ hg st fun v h' tk hv st' kk=>?_
  obtain⟨t,rfl⟩:=hv;have I1:Inv X pins σ H { s with heap:=h',toks:=tk}:=I.turned (fun b o hb e=>kk b o (by simpa using hb) e) f0 f1 f3 f4 f5
  refine⟨_,rfl,d1a (s:={ s with heap:=h',toks:=tk}) (n:="range_iterator") st' rfl rfl (by decide) ⟨.int (lo+i),H,I1,⟨t,?_⟩,⟨rfl,rfl⟩,st',fun b hb=>(hf b hb).1⟩⟩
  rw[Int.mul_one]
 done:=by
  intro X hP hw hK hc i pins s σ H E I hf st hg;subst hP hw hK;obtain⟨f0,f1,f2,f3,f4,f5⟩:=hf it (by simp)
  exact wpAny_pyNext_range_end (I.ok.hd hc) st (by have:n<=i:=hg;omega) fun h' eb=>⟨rfl,I.turned (t':=s.toks) (fun b o hb e=>eb b o hb e) f0 f1 f3 f4 f5⟩
 self:=fun _ _ _ _ _ st h=>wpAny_pyIter_rangeiter st h
section
variable {X:Cx} {tg:Expr}
def iList(K:L2.FG)(tl:TE):TI:=fun σ H R=>tl σ H fun x H1=>∃a,x=.ref a/\(∃xs,SqL K H1 a xs)/\R (Itl K a) H1
theorem c5o{l:Expr}{tl:TE}(hl:PE X l tl):PI X tg l (iList X.K tl):=by
 intro pins s σ H R I h;refine thn (hl pins s σ H _ I h) fun v s1 hh=>?_
 obtain⟨x,H1,I1,r1,q1⟩:=hh;obtain⟨a,e,⟨xs,hq⟩,q⟩:=q1;subst e;cases r1;obtain⟨its,rv,p,hz⟩:=I1.list hq;refine wpAny_pyIter_list p.isList ?_;refine⟨s1.heap.objs.size,[s1.heap.objs.size],_,_,H1,rfl,I1.kept (t':=s1.toks) fun b o e=>Heap.get?_push_of_some _ e,c5n a _,⟨_,Heap.get?_push_size _ rfl,rfl,rfl⟩,fun b hb=>?_,q⟩
 have e:b=s1.heap.objs.size:=by simpa using hb
 subst e;exact I1.fpOk (Nat.le_refl _) (I1.hok.fresh (Nat.le_refl _))
theorem d1b{pins:List (Addr×Obj)}{σ:St}{H:Hp}{s:Shared}{R:It->Hp->Prop}{E:Value->Shared->Prop}{lo hi:Int}{t u v:Tok}{tk:Nat}(I:Inv X pins σ H s)(h1:-(2 ^ 62)<=lo)(h2:lo < 2 ^ 62)(h3:-(2 ^ 62)<=hi)(h4:hi < 2 ^ 62)
  (q:R (Itr lo (hi - lo).toNat) H):wpAny (model X.prog X.w) X.A (pyIter (.ref s.heap.objs.size)) (PIE X pins σ tg R) E { s with heap:=s.heap.push { cls:=.type "range",data:=.fields #[.int lo t,.int hi u,.int 1 v]},toks:=tk}:=by
 refine wpAny_pyIter_range (IsRange.new ..) (small_one h1 h2 h3 h4) ?_;have I1:Inv X pins σ H { s with heap:=s.heap.push { cls:=.type "range",data:=.fields #[.int lo t,.int hi u,.int 1 v]},toks:=tk}:=I.kept fun b o e=>Heap.get?_push_of_some _ e
 refine⟨(s.heap.push { cls:=.type "range",data:=.fields #[.int lo t,.int hi u,.int 1 v]}).objs.size,[(s.heap.push { cls:=.type "range",data:=.fields #[.int lo t,.int hi u,.int 1 v]}).objs.size],_,_,H,rfl,
  I1.kept (t':=tk) fun b o e=>Heap.get?_push_of_some _ e,c4e _ lo (hi - lo).toNat,?_,fun b hb=>?_,q⟩
 ·have e1:lo+((0:Nat):Int) * 1=lo:=by simp
  have e2:(((hi - lo).toNat:Nat):Int) - ((0:Nat):Int)=Builtin.Range.rangeSize lo hi 1:=by rw[rangeSize_one];split <;> omega
  show IsRangeIter _ _ (lo+((0:Nat):Int) * 1) ((((hi - lo).toNat:Nat):Int) - ((0:Nat):Int)) 1;rw[e1,e2];exact Heap.get?_push_size _ rfl
 ·have e:b=(s.heap.push { cls:=.type "range",data:=.fields #[.int lo t,.int hi u,.int 1 v]}).objs.size:=by simpa using hb
  subst e;exact I1.fpOk (Nat.le_refl _) (I1.hok.fresh (Nat.le_refl _))
def iRng1(ta:TA):TI:=fun σ H R=>ta σ H fun vs H1=>∃j:Int,vs=[.int j] /\ -(2 ^ 62)<=j/\j < 2 ^ 62/\R (Itr 0 j.toNat) H1
theorem a7s{a:Expr}{ta:TA}{p pos:Pos}(hg:Gl X "range")(hm:X.mg "range"=none)(ha:PA X [a] ta)(hs:starEach [a] X.env=[(false,eval a X.env)]:=by rfl):PI X tg (.Call (.Name "range" p) [a] [] pos) (iRng1 ta):=by
 intro pins s σ H R I h;refine Call_ (b2t I hg hm boot_range (PyProof.Rows.callWith_type1 (thn (ha pos pins s σ H _ I h) fun us s1 hh=>?_) hs rfl))
 obtain⟨vs,H1,I1,r1,q1⟩:=hh;obtain⟨j,e,q1,q2,q⟩:=q1;subst e;cases r1 with
 |cons r rr=>
  cases rr;obtain⟨t,rfl⟩:=r;exact call_range_1 (d1b I1 (by omega) (by omega) q1 q2 (by simpa using q))
def tFor(wi:TI)(g:TG)(tb:TS):TS:=fun D σ H=>wi σ H fun J H1=>∃W:Nat->Nat->St->Hp->Prop,(∃m,W 0 m σ H1)/\∀i m σ H,W i m σ H->
 (J.stop i H/\D.nx σ H)\/(J.go i H/\∃N:St->Hp->Prop,(∀σ' H',N σ' H'->∃m',m' < m/\W (i+1) m' σ' H')/\∀x H',J.yld i H x H'->g x σ H' fun σ2 H2=>tb { D with nx:=N,ct:=N,bk:=D.nx} σ2 H2)
def b7q(fp:List Addr)(h:Heap):List (Addr×Obj):=fp.filterMap fun b=>(h.get? b).map fun o=>(b,o)
theorem a8l{fp:List Addr}{h:Heap}{b:Addr}{o:Obj}(hb:b∈fp)(e:h.get? b=some o):(b,o)∈b7q fp h:=List.mem_filterMap.mpr ⟨b,hb,by rw[e];rfl⟩
theorem c5p{fp:List Addr}{h:Heap}{p:Addr×Obj}(hp:p∈b7q fp h):p.1∈fp/\h.get? p.1=some p.2:=by
 obtain⟨b,hb,e⟩:=List.mem_filterMap.mp hp;cases q:h.get? b with
 |none=>rw[q] at e;cases e
 |some o=>
  rw[q] at e;have e':(b,o)=p:=Option.some.inj e;subst e';exact⟨hb,q⟩
theorem Inv.pinned{pins:List (Addr×Obj)}{σ:St}{H:Hp}{s:Shared}{fp:List Addr}(I:Inv X pins σ H s)(hf:∀b∈fp,FpOk X pins H b)(ho:∀b∈fp,∃o,s.heap.get? b=some o/\∀v,o.data≠.cell v):Inv X (pins++b7q fp s.heap) σ H s:=
 I.pins_of fun p hp=>(List.mem_append.mp hp).elim (fun z=>I.pin p (List.mem_append_right _ z)) fun z=>by
  obtain⟨hb,e⟩:=c5p z;obtain⟨f0,f1,f2,_⟩:=hf p.1 hb;obtain⟨o,e',d⟩:=ho p.1 hb;rw[e] at e';cases e';exact⟨e,f0,f1,f2,d⟩
theorem Inv.unpinned{pins pl:List (Addr×Obj)}{σ:St}{H:Hp}{s:Shared}(I:Inv X (pins++pl) σ H s):Inv X pins σ H s:=I.pins_of fun p hp=>I.pin p (List.mem_append_right _ (List.mem_append_left _ hp))
theorem c1q{iter:Expr}{body:List Stmt}{wi:TI}{g:TG}{tb:TS}{pos:Pos}(hp:PassesOwn (model X.prog X.w) X.A X.env X.xe)(hc:X.calm=true)(hi:PI X tg iter wi)(hg:PG X tg g)(hb:PSs X body tb)
  (hs:∀x,foldedSetIterable iter X.env x=pure x:=by intro _;rfl):PS X (.For tg iter body [] pos) (tFor wi g tb):=by
 intro pins s σ H D I h;refine wpAny_For (thn (hi pins s σ H _ I h) fun v s1 h1=>thn h1 fun itv s2 h2=>?_) hs
 obtain⟨it,fp,tn,J,H2,e,I2,T,st2,f2,W,⟨m0,w0⟩,turn⟩:=h2;subst e;have stat:∀{H':Hp},(∀b∈fp,H' b=none)->∀b∈fp,FpOk X pins H' b:=fun hn b hb=>⟨hn b hb,(f2 b hb).2⟩
 refine codeAny_forLoop_any (fun n s'=>∃i σ' H',Inv X pins σ' H' s'/\tn i s'.heap/\(∀b∈fp,H' b=none)/\W i n σ' H') ?_ m0 ⟨0,σ,H2,I2,st2,fun b hb=>(f2 b hb).1,w0⟩
 rintro n s3 ⟨i,σ3,H3,I3,st3,fr3,w3⟩;rcases turn i n σ3 H3 w3 with⟨stop,qn⟩|⟨go,N,hN,step⟩
 ·refine wpAny_passesOwn hp (thn (T.done X rfl rfl rfl hc i pins s3 σ3 H3 X.xe I3 (stat fr3) st3 stop) fun r s4 ⟨hr,I4⟩=>?_)
  subst hr;exact wpAny_execs_nil ⟨σ3,H3,I4,qn⟩
 ·refine wpAny_passesOwn hp (thn (T.item X rfl rfl rfl hc i pins s3 σ3 H3 X.xe I3 (stat fr3) st3 go) fun r s4 ⟨u,hr,h4⟩=>?_)
  subst hr;refine wpAny_passesOwn hp (thn h4 fun _ s5 hh=>?_)
  obtain⟨x,H5,I5,r5,y5,st5,fr5⟩:=hh;have I5':=I5.pinned (stat fr5) (T.obj _ _ st5);refine wpAny_passesOwn hp (thn (hg _ s5 σ3 H5 x u _ I5' r5 (step x H5 y5)) fun _ s6 hh=>?_)
  obtain⟨σ6,H6,I6,q6⟩:=hh;refine wpAny_passesOwn hp (thn (hb _ s6 σ6 H6 _ I6 q6) fun f s7 q7=>?_)
  have again:∀{σ7:St} {H7:Hp},Inv X (pins++b7q fp s5.heap) σ7 H7 s7->N σ7 H7->∃m,m < n/\∃i σ' H',Inv X pins σ' H' s7/\tn i s7.heap/\(∀b∈fp,H' b=none)/\W i m σ' H':=fun{σ7 H7} I7 n7=>by
   obtain⟨m',hm,w7⟩:=hN σ7 H7 n7;refine⟨m',hm,i+1,σ7,H7,I7.unpinned,T.keep _ _ _ st5 fun b hb o e=>(I7.pin (b,o) (List.mem_append_right _ (List.mem_append_right _ (a8l hb e)))).1,fun b hb=>?_,w7⟩
   obtain⟨o,e,d⟩:=T.obj _ _ st5 b hb;exact(I7.pin (b,o) (List.mem_append_right _ (List.mem_append_right _ (a8l hb e)))).2.1
  cases f with
  |next=>obtain⟨σ7,H7,I7,n7⟩:=q7;exact again I7 n7
  |cont=>obtain⟨σ7,H7,I7,n7⟩:=q7;exact again I7 n7
  |brk=>obtain⟨σ7,H7,I7,q7⟩:=q7;exact⟨σ7,H7,I7.unpinned,q7⟩
  |ret v=>obtain⟨x7,σ7,H7,I7,r7,q7⟩:=q7;exact⟨x7,σ7,H7,I7.unpinned,r7,q7⟩
end
theorem d1c{K:L2.FG}{a:Addr}{xs:List V}{g:TG}{tb:TS}{D:Ends}{σ:St}{H:Hp}(Pv:Nat->St->Hp->Prop)(h0:Pv 0 σ H)(hl:∀i σ H,i<=xs.length->Pv i σ H->SqL K H a xs)
  (hs:∀i x σ H,xs[i]?=some x->Pv i σ H->g x σ H fun σ2 H2=>tb { D with nx:=Pv (i+1),ct:=Pv (i+1),bk:=D.nx} σ2 H2) (hd:∀σ H,Pv xs.length σ H->D.nx σ H) :
  ∃W:Nat->Nat->St->Hp->Prop,(∃m,W 0 m σ H)/\∀i m σ H,W i m σ H->
   ((Itl K a).stop i H/\D.nx σ H)\/((Itl K a).go i H/\∃N:St->Hp->Prop,(∀σ' H',N σ' H'->∃m',m' < m/\W (i+1) m' σ' H')/\∀x H',(Itl K a).yld i H x H'->g x σ H' fun σ2 H2=>tb { D with nx:=N,ct:=N,bk:=D.nx} σ2 H2):=by
 refine⟨fun i m σ H=>m=xs.length - i/\i<=xs.length/\Pv i σ H,⟨xs.length,by simp,Nat.zero_le _,h0⟩,?_⟩
 rintro i m σ H ⟨rfl,hi,p⟩;have q:=hl i σ H hi p;by_cases hlt:i < xs.length
 ·refine .inr ⟨⟨xs,xs[i],q,by simp[hlt]⟩,Pv (i+1),fun σ' H' p'=>⟨xs.length - (i+1),by omega,rfl,hlt,p'⟩,fun x H' y=>?_⟩
  obtain⟨e,y⟩:=y;subst e;exact hs i x σ _ (y xs q) p
 ·have e:i=xs.length:=by omega
  subst e;exact .inl ⟨⟨xs,q,Nat.le_refl _⟩,hd σ H p⟩
theorem c5q{lo:Int}{n:Nat}{g:TG}{tb:TS}{D:Ends}{σ:St}{H:Hp}(Pv:Nat->St->Hp->Prop)(h0:Pv 0 σ H)
  (hs:∀i σ H,i < n->Pv i σ H->g (.int (lo+i)) σ H fun σ2 H2=>tb { D with nx:=Pv (i+1),ct:=Pv (i+1),bk:=D.nx} σ2 H2) (hd:∀σ H,Pv n σ H->D.nx σ H) :
  ∃W:Nat->Nat->St->Hp->Prop,(∃m,W 0 m σ H)/\∀i m σ H,W i m σ H->
   ((Itr lo n).stop i H/\D.nx σ H)\/((Itr lo n).go i H/\∃N:St->Hp->Prop,(∀σ' H',N σ' H'->∃m',m' < m/\W (i+1) m' σ' H')/\∀x H',(Itr lo n).yld i H x H'->g x σ H' fun σ2 H2=>tb { D with nx:=N,ct:=N,bk:=D.nx} σ2 H2):=by
 refine⟨fun i m σ H=>m=n - i/\i<=n/\Pv i σ H,⟨n,by simp,Nat.zero_le _,h0⟩,?_⟩
 rintro i m σ H ⟨rfl,hi,p⟩;by_cases hlt:i < n
 ·refine .inr ⟨hlt,Pv (i+1),fun σ' H' p'=>⟨n - (i+1),by omega,rfl,hlt,p'⟩,fun x H' y=>?_⟩
  obtain⟨e,y⟩:=y;subst e y;exact hs i σ _ hlt p
 ·have e:i=n:=by omega
  subst e;exact .inl ⟨Nat.le_refl _,hd σ H p⟩
abbrev R2:=V->V->Hp->VK->Prop
def OpR(X:Cx)(f:Value->Value->Sem Value)(r:R2):Prop:=
 ∀(pins:List (Addr×Obj)) (s:Shared) (σ:St) (H:Hp) (x y:V) (v u:Value) (Q:VK),Inv X pins σ H s->RelV x v->RelV y u->r x y H Q->
  wpAny (model X.prog X.w) X.A (f v u) (EP X pins σ Q) X.xe s
def UnR(X:Cx)(f:Value->Sem Value)(r:V->Hp->VK->Prop):Prop:=
 ∀(pins:List (Addr×Obj)) (s:Shared) (σ:St) (H:Hp) (x:V) (v:Value) (Q:VK),Inv X pins σ H s->RelV x v->r x H Q->
  wpAny (model X.prog X.w) X.A (f v) (EP X pins σ Q) X.xe s
def CallR(X:Cx)(f:Value)(r:List V->Hp->VK->Prop):Prop:=
 ∀(pins:List (Addr×Obj)) (s:Shared) (σ:St) (H:Hp) (xs:List V) (us:List Value) (Q:VK),Inv X pins σ H s->Vals xs us->r xs H Q->
  wpAny (model X.prog X.w) X.A (call f us) (EP X pins σ Q) X.xe s
def TruR(X:Cx)(r:V->Hp->(Bool->Hp->Prop)->Prop):Prop:=
 ∀(pins:List (Addr×Obj)) (s:Shared) (σ:St) (H:Hp) (x:V) (v:Value) (Q:Bool->Hp->Prop),Inv X pins σ H s->RelV x v->r x H Q->
  wpAny (model X.prog X.w) X.A (truthy v) (TP X pins σ Q) X.xe s
def tOp(r:R2)(ta tb:TE):TE:=fun σ H Q=>ta σ H fun x H1=>tb σ H1 fun y H2=>r x y H2 Q
def tUn(r:V->Hp->VK->Prop)(ta:TE):TE:=fun σ H Q=>ta σ H fun x H1=>r x H1 Q
def rI(C:Int->Int->Prop)(g:Int->Int->V):R2:=fun x y H Q=>∃i j,x=.int i/\y=.int j/\C i j/\Q (g i j) H
def rI0(g:Int->Int->V):R2:=fun x y H Q=>∃i j,x=.int i/\y=.int j/\Q (g i j) H
def rU(g:Int->V):V->Hp->VK->Prop:=fun x H Q=>∃i,x=.int i/\Q (g i) H
section
variable {X:Cx} {a b c:Expr} {ta tb tc:TE} {pos:Pos}
theorem binT(ha:PE X a ta)(hb:PE X b tb){pins:List (Addr×Obj)}{s:Shared}{σ:St}{H:Hp}{R:V->V->Hp->Prop}(I:Inv X pins σ H s)
  (h:ta σ H fun x H1=>tb σ H1 fun y H2=>R x y H2) {Q:Value->Shared->Prop} {f:Value->Value->Sem Value}
  (hf:∀v u s2 x y H2,Inv X pins σ H2 s2->RelV x v->RelV y u->R x y H2->wpAny (model X.prog X.w) X.A (f v u) Q X.xe s2) :
  wpAny (model X.prog X.w) X.A (eval a X.env) (fun v s₁=>wpAny (model X.prog X.w) X.A (eval b X.env) (fun u s₂=>wpAny (model X.prog X.w) X.A (f v u) Q X.xe s₂) X.xe s₁) X.xe s:=by
 refine thn (ha pins s σ H _ I h) fun v s1 hh=>?_
 obtain⟨x,H1,I1,r1,q1⟩:=hh;refine thn (hb pins s1 σ H1 _ I1 q1) fun u s2 hh=>?_
 obtain⟨y,H2,I2,r2,q2⟩:=hh;exact hf v u s2 x y H2 I2 r1 r2 q2
theorem e1m{op:Operator}{r:R2}(ho:OpR X (binaryOp op) r)(ha:PE X a ta)(hb:PE X b tb):PE X (.BinOp a op b pos) (tOp r ta tb):=by
 intro pins s σ H Q I h;exact wpAny_BinOp (binT ha hb I h fun v u s2 x y H2 I2 rx ry q=>ho pins s2 σ H2 x y v u Q I2 rx ry q)
theorem e1n{op:UnaryOp}{r:V->Hp->VK->Prop}(ho:UnR X (unaryOp op) r)(ha:PE X a ta):PE X (.UnaryOp op a pos) (tUn r ta):=by
 intro pins s σ H Q I h;exact UnaryOp_ (thn (ha pins s σ H _ I h) fun v s1 ⟨x,H1,I1,r1,q1⟩=>ho pins s1 σ H1 x v Q I1 r1 q1)
theorem opI{f:Value->Value->Sem Value}{C:Int->Int->Prop}{g:Int->Int->Int}
  (rule:∀(i j:Int) (t u:Tok) (s:Shared) (Q:Value->Shared->Prop) (E:Value->Shared->Prop),C i j->Q (.int (g i j) s.toks) { s with toks:=s.toks+1}->wpAny (model X.prog X.w) X.A (f (.int i t) (.int j u)) Q E s) :
  OpR X f (rI C fun i j=>.int (g i j)):=by
 intro pins s σ H x y v u Q I rx ry h;obtain⟨i,j,rfl,rfl,hc,q⟩:=h;obtain⟨t,rfl⟩:=rx;obtain⟨t',rfl⟩:=ry;exact rule i j t t' s _ _ hc ⟨.int (g i j),H,I.tok _,⟨_,rfl⟩,q⟩
theorem opI0{f:Value->Value->Sem Value}{g:Int->Int->Int}
  (rule:∀(i j:Int) (t u:Tok) (s:Shared) (Q:Value->Shared->Prop) (E:Value->Shared->Prop),Q (.int (g i j) s.toks) { s with toks:=s.toks+1}->wpAny (model X.prog X.w) X.A (f (.int i t) (.int j u)) Q E s) :
  OpR X f (rI0 fun i j=>.int (g i j)):=by
 intro pins s σ H x y v u Q I rx ry h;obtain⟨i,j,rfl,rfl,q⟩:=h;obtain⟨t,rfl⟩:=rx;obtain⟨t',rfl⟩:=ry;exact rule i j t t' s _ _ ⟨.int (g i j),H,I.tok _,⟨_,rfl⟩,q⟩
theorem opB0{f:Value->Value->Sem Value}{g:Int->Int->Bool}
  (rule:∀(i j:Int) (t u:Tok) (s:Shared) (Q:Value->Shared->Prop) (E:Value->Shared->Prop),Q (.bool (g i j)) s->wpAny (model X.prog X.w) X.A (f (.int i t) (.int j u)) Q E s) :
  OpR X f (rI0 fun i j=>.bl (g i j)):=by
 intro pins s σ H x y v u Q I rx ry h;obtain⟨i,j,rfl,rfl,q⟩:=h;obtain⟨t,rfl⟩:=rx;obtain⟨t',rfl⟩:=ry;exact rule i j t t' s _ _ ⟨.bl (g i j),H,I,rfl,q⟩
def CDiv(i j:Int):Prop:=0 < j/\j < 1073741824
def CMul(i j:Int):Prop:=(-(2 ^ 64) < i/\i < 2 ^ 64)\/(-(2 ^ 64) < j/\j < 2 ^ 64)
theorem CMul.ok{i j:Int}(h:CMul i j):IntMulOk i j:=by
 rcases h with⟨h1,h2⟩|⟨h1,h2⟩
 ·exact .of_left (intBits_le_64 h1 h2)
 ·exact .of_right (intBits_le_64 h1 h2)
theorem op_add:OpR X (binaryOp .Add) (rI0 fun i j=>.int (i+j)):=opI0 fun _ _ _ _ _ _ _ q=>add_int q
theorem c1r:OpR X (binaryOp .Sub) (rI0 fun i j=>.int (i - j)):=opI0 fun _ _ _ _ _ _ _ q=>sub_int q
theorem op_mul:OpR X (binaryOp .Mult) (rI CMul fun i j=>.int (i * j)):=opI fun _ _ _ _ _ _ _ hc q=>mul_int q hc.ok
theorem a9a:OpR X (binaryOp .FloorDiv) (rI CDiv fun i j=>.int (i / j)):=opI fun i j _ _ _ _ _ hc q=>by
 have h1:(0:Int) < j:=hc.1;have h2:j < 1073741824:=hc.2;exact floordiv_int (by omega) (by rw[Int.fdiv_eq_ediv_of_nonneg i (by omega)];exact q) (.inl (PyProof.noPylong_small (by omega)))
theorem a5i:OpR X (binaryOp .Mod) (rI (fun _ j=>0 < j) fun i j=>.int (i % j)):=opI fun i j _ _ _ _ _ hc q=>by
 have h1:(0:Int) < j:=hc;exact mod_int' (by omega) (by rw[Int.fmod_eq_emod_of_nonneg i (by omega)];exact q)
theorem unI{f:Value->Sem Value}{g:Int->Int}
  (rule:∀(i:Int) (t:Tok) (s:Shared) (Q:Value->Shared->Prop) (E:Value->Shared->Prop),Q (.int (g i) s.toks) { s with toks:=s.toks+1}->wpAny (model X.prog X.w) X.A (f (.int i t)) Q E s) :
  UnR X f (rU fun i=>.int (g i)):=by
 intro pins s σ H x v Q I rx h;obtain⟨i,rfl,q⟩:=h;obtain⟨t,rfl⟩:=rx;exact rule i t s _ _ ⟨.int (g i),H,I.tok _,⟨_,rfl⟩,q⟩
theorem d3r:UnR X (unaryOp .USub) (rU fun i=>.int (-i)):=unI fun _ _ _ _ _ q=>neg_int q
end
theorem d5g{i j:Int}:decide (V.int i=V.int j)=(i == j):=by
 rw[Bool.eq_iff_iff];simp
section
variable {X:Cx} {a b c:Expr} {ta tb tc:TE} {pos:Pos}
theorem b4m{pins:List (Addr×Obj)}{σ:St}{H:Hp}{s:Shared}{Q:VK}{k k':Bool}(I:Inv X pins σ H s)(q:Q (.bl k) H)(e:k=k'):EP X pins σ Q (.bool k') s:=by
 subst e;exact⟨.bl k,H,I,rfl,q⟩
theorem d9a:OpR X (compareOp .Lt) (rI0 fun i j=>.bl (decide (i < j))):=opB0 fun _ _ _ _ _ _ _ q=>lt_int q
theorem d9b:OpR X (compareOp .LtE) (rI0 fun i j=>.bl (decide (i<=j))):=opB0 fun _ _ _ _ _ _ _ q=>le_int q
theorem d5h:OpR X (compareOp .Gt) (rI0 fun i j=>.bl (decide (j < i))):=opB0 fun _ _ _ _ _ _ _ q=>gt_int q
theorem c5r:OpR X (compareOp .In) (fun x y H Q=>∃i j,x=.str i/\y=.str j/\Q (.bl (!(Builtin.Str.occurrences j i 0 j.length 1).isEmpty)) H):=by
 intro pins s σ H x y v u Q I rx ry h;obtain⟨i,j,rfl,rfl,q⟩:=h;obtain⟨t,rfl⟩:=rx;obtain⟨t',rfl⟩:=ry;exact in_str (b4m I q rfl)
theorem op_isN:OpR X (compareOp .Is) (fun x y H Q=>y=.non/\Q (.bl (decide (x=.non))) H):=by
 intro pins s σ H x y v u Q I rx ry h;obtain⟨rfl,q⟩:=h;cases ry;refine is_none_gen (b4m I q ?_);cases x <;> first
  |(cases rx;rfl)
  |(obtain⟨t,rfl⟩:=rx;rfl)
theorem b7r:OpR X (compareOp .NotIn) (fun x y H Q=>∃i j,x=.str i/\y=.str j/\Q (.bl (!(!(Builtin.Str.occurrences j i 0 j.length 1).isEmpty))) H):=by
 intro pins s σ H x y v u Q I rx ry h;obtain⟨i,j,rfl,rfl,q⟩:=h;obtain⟨t,rfl⟩:=rx;obtain⟨t',rfl⟩:=ry;exact notIn_str (b4m I q rfl)
theorem OpR.or{f:Value->Value->Sem Value}{r r':R2}(h:OpR X f r)(h':OpR X f r'):OpR X f (fun x y H Q=>r x y H Q\/r' x y H Q):=by
 intro pins s σ H x y v u Q I rx ry q;rcases q with q|q
 ·exact h pins s σ H x y v u Q I rx ry q
 ·exact h' pins s σ H x y v u Q I rx ry q
theorem c5s(b:Expr){op:CmpOp}(h:op≠.In:=by decide)(h2:op≠.NotIn:=by decide):behindInMarks op b=false:=by
 have e1:(op == CmpOp.In)=false:=by cases op <;> first|rfl|exact absurd rfl h
 have e2:(op == CmpOp.NotIn)=false:=by cases op <;> first|rfl|exact absurd rfl h2
 cases b <;> simp[behindInMarks,e1,e2]
theorem d5i{op:CmpOp}{r:R2}(ho:OpR X (compareOp op) r)(ha:PE X a ta)(hb:PE X b tb)(hm:behindInMarks op b=false):PE X (.Compare a [op] [b] pos) (tOp r ta tb):=by
 intro pins s σ H Q I h;exact wpAny_Compare1 (binT ha hb I h fun v u s2 x y H2 I2 rx ry q=>ho pins s2 σ H2 x y v u Q I2 rx ry q) hm
def tTest(t:TE):TT:=fun σ H Q=>t σ H fun x H'=>∃k,x=.bl k/\Q k H'
theorem c5t{op:CmpOp}{r:R2}(ho:OpR X (compareOp op) r)(ha:PE X a ta)(hb:PE X b tb)(hm:behindInMarks op b=false):PT X (.Compare a [op] [b] pos) (tTest (tOp r ta tb)):=by
 intro pins s σ H Q I h;refine wpAny_isTrue_Compare1 (thn (ha pins s σ H _ I h) fun v s1 ⟨x,H1,I1,r1,q1⟩=>thn (hb pins s1 σ H1 _ I1 q1) fun u s2 ⟨y,H2,I2,r2,q2⟩=>
  thn (ho pins s2 σ H2 x y v u _ I2 r1 r2 q2) fun c s3 ⟨z,H3,I3,r3,k,e,q3⟩=>?_) hm
 subst e;cases r3;exact wpAny_truthy_bool ⟨H3,I3,q3⟩
def d9c(r r':R2)(ta tb tc:TE):TE:=fun σ H Q=>ta σ H fun x H1=>tb σ H1 fun y H2=>r x y H2 fun z H3=>∃k,z=.bl k/\
 (if k=true then tc σ H3 fun w' H4=>r' y w' H4 Q else Q (.bl false) H3)
theorem d1d{op op':CmpOp}{r r':R2}(ho:OpR X (compareOp op) r)(ho':OpR X (compareOp op') r')(ha:PE X a ta)(hb:PE X b tb)(hc:PE X c tc)
  (hm:lastMarks [op,op'] [b,c]=false:=by with_unfolding_all rfl):PT X (.Compare a [op,op'] [b,c] pos) (tTest (d9c r r' ta tb tc)):=by
 intro pins s σ H Q I h;refine isTrue_chain (thn (ha pins s σ H _ I h) fun v s1 ⟨x,H1,I1,r1,q1⟩=>test_link (thn (hb pins s1 σ H1 _ I1 q1) fun u s2 ⟨y,H2,I2,r2,q2⟩=>
  thn (ho pins s2 σ H2 x y v u _ I2 r1 r2 q2) fun d s3 ⟨z,H3,I3,r3,k,e,q3⟩=>?_)) hm
 subst e;cases r3;refine wpAny_truthy_bool ?_;cases k with
 |false=>
  obtain⟨k',e',q'⟩:=q3;cases e';exact ite_ff ⟨H3,I3,q'⟩
 |true=>
  refine ite_tt (test_last (thn (hc pins s3 σ H3 _ I3 q3) fun w' s4 ⟨z',H4,I4,r4,q4⟩=>thn (ho' pins s4 σ H4 y z' u w' _ I4 r2 r4 q4) fun d' s5 ⟨z2,H5,I5,r5,k2,e2,q5⟩=>?_))
  subst e2;cases r5;exact wpAny_truthy_bool ⟨H5,I5,q5⟩
def TruV(K:L2.FG)(x:V)(H:Hp)(k:Bool):Prop:=
 match x with
 |.non=>k=false
 |.bl b=>k=b
 |.int i=>k=(i != 0)
 |.str y=>y.length<=sizeLine/\k=((y.length:Int) != 0)
 |.byt y=>y.size<=sizeLine/\k=((y.size:Int) != 0)
 |.ref p=>(∃xs,SqL K H p xs/\k = !xs.isEmpty)\/(∃xs,SqT K H p xs/\k = !xs.isEmpty)\/∃kvs,H p=some (.dK kvs)/\k = !kvs.isEmpty
 |_=>False
theorem c4f{κ:Type}{kvs:List (κ×V)}{vs:List (κ×Value)}(r:KV kvs vs):(!vs.isEmpty) = !kvs.isEmpty:=by
 cases r <;> rfl
theorem b4n{xs:List V}{its:List Value}(r:Vals xs its):(!its.toArray.isEmpty) = !xs.isEmpty:=by
 cases r <;> simp
theorem b2u:(sizeLine:Nat) < 2 ^ 63:=by rw[sizeLine_eq];decide
theorem d9d:TruR X (fun x H Q=>∃k,TruV X.K x H k/\Q k H):=by
 intro pins s σ H x v Q I rx h;obtain⟨k,e,q⟩:=h;have hl:=b2u;have hs:sizeLine=16777216:=sizeLine_eq;cases x with
 |non=>
  cases rx;have e':k=false:=e;subst e';exact truthy_none ⟨H,I,q⟩
 |bl b=>
  cases rx;have e':k=b:=e;subst e';exact wpAny_truthy_bool ⟨H,I,q⟩
 |int i=>
  obtain⟨t,rfl⟩:=rx;have e':k=(i != 0):=e;subst e';exact PySem.P.truthy_int ⟨H,I,q⟩
 |str y=>
  obtain⟨t,rfl⟩:=rx;obtain⟨hy,e'⟩:y.length<=sizeLine/\k=((y.length:Int) != 0):=e;subst e';exact PySem.P.truthy_str (by omega) ⟨H,I.tok _,q⟩
 |byt y=>
  obtain⟨t,rfl⟩:=rx;obtain⟨hy,e'⟩:y.size<=sizeLine/\k=((y.size:Int) != 0):=e;subst e';exact PySem.W.truthy_bytes (by omega) ⟨H,I.tok _,q⟩
 |ref p=>
  cases rx;have e':(∃xs,SqL X.K H p xs/\k = !xs.isEmpty)\/(∃xs,SqT X.K H p xs/\k = !xs.isEmpty)\/∃kvs,H p=some (.dK kvs)/\k = !kvs.isEmpty:=e;rcases e' with⟨xs,hx,e'⟩|⟨xs,hx,e'⟩|⟨kvs,hx,e'⟩
  ·subst e';obtain⟨its,r,pl,hz⟩:=I.list hx;have hlen:=r.length;exact wpAny_truthy_list pl.isList (by simp only[List.size_toArray];omega) ⟨H,I.tok _,by rw[b4n r];exact q⟩
  ·subst e';obtain⟨its,r,pl,hz⟩:=I.tuple hx;have hlen:=r.length;exact truthy_tuple pl (by simp only[List.size_toArray];omega) ⟨H,I.tok _,by rw[b4n r];exact q⟩
  ·subst e';obtain⟨hz,hS,vs,r,m⟩:kvs.length<=sizeLine/\(p == sysModules)=false/\∃vs,KV kvs vs/\s.heap.DictOf (c0b X.prog X.w) p vs:=I.hok p _ hx;have hlen:kvs.length=vs.length:=Paired.length r;exact wpAny_truthy_dict hS m (by omega) ⟨H,I.tok _,by rw[c4f r];exact q⟩
 |_=>exact(show False from e).elim
theorem d1e(ha:PE X a ta)(he:∀whole,isTrue a X.env whole=(do let v <-whole;standAt a.pos;holding [v] (truthy v))):
  PT X a (fun σ H Q=>ta σ H fun x H'=>∃k,TruV X.K x H' k/\Q k H'):=by
 intro pins s σ H Q I h;exact isTrue_plain (thn (ha pins s σ H _ I h) fun v s1 ⟨x,H1,I1,r1,q1⟩=>d9d pins s1 σ H1 x v Q I1 r1 q1) (he _)
theorem op_add_str:OpR X (binaryOp .Add) (fun x y H Q=>∃i j,x=.str i/\y=.str j/\i.length+j.length<=sizeLine/\Q (.str (i++j)) H):=by
 intro pins s σ H x y v u Q I rx ry h;obtain⟨i,j,rfl,rfl,hz,q⟩:=h;obtain⟨t,rfl⟩:=rx;obtain⟨t',rfl⟩:=ry;exact add_str (fun t' tk=>⟨.str (i++j),H,I.tok _,⟨_,rfl⟩,q⟩) hz
theorem vals1{x:V}{us:List Value}(r:Vals [x] us):∃u,us=[u]/\RelV x u:=by
 cases r with
 |cons r1 r2=>cases r2;exact⟨_,rfl,r1⟩
theorem vals2{x y:V}{us:List Value}(r:Vals [x,y] us):∃u w',us=[u,w']/\RelV x u/\RelV y w':=by
 cases r with
 |cons r1 r2=>
  cases r2 with
  |cons r3 r4=>cases r4;exact⟨_,_,rfl,r1,r3⟩
theorem a9q:CallR X (.type "int") (fun xs H Q=>(∃i,xs=[.int i]/\Q (.int i) H)\/∃k,xs=[.bl k]/\Q (.int (if k then 1 else 0)) H):=by
 intro pins s σ H xs us Q I r h;rcases h with⟨i,rfl,q⟩|⟨k,rfl,q⟩
 ·obtain⟨u,rfl,t,rfl⟩:=vals1 r;exact call_int_int ⟨.int i,H,I,⟨_,rfl⟩,q⟩
 ·obtain⟨u,rfl,r1⟩:=vals1 r;cases r1;exact call_int_bool ⟨.int (if k then 1 else 0),H,I.tok _,⟨_,rfl⟩,q⟩
end
structure ObjM (h:Heap) (x dx C:Addr) (mA:Str->Option Value):Prop where
 obj:h.get? x=some (PySem.W.instObj C dx)
 ns:h.Ns1 dx mA
 ne:dx≠x
theorem c5u{h:Heap}{dx:Addr}{mA:Str->Option Value}(n:h.Ns1 dx mA):∃od,h.get? dx=some od/\∀name,PySem.W.lookIn name od=some (mA name):=by
 obtain⟨o,es,ep,ho,hd,hk,_,hm⟩:=n;refine⟨o,ho,fun name=>?_⟩
 have e:=hm name;unfold nsFind findBy at e;rw[<-Array.find?_toList] at e;unfold PySem.W.lookIn;rw[hd];dsimp only;split
 ·rename_i y q
  rw[q] at e;exact congrArg some e
 ·rename_i q
  rw[q] at e;have a:es.toList.any (·.refKey)=false:=by
   rw[List.any_eq_false];intro y hy;obtain⟨z,t,hkey⟩:=hk y (Array.mem_toList_iff.mp hy);simp[DictEntry.refKey,hkey]
  have a':¬es.toList.any (·.refKey)=true:=by rw[a];exact Bool.false_ne_true
  rw[if_neg a'];exact congrArg some e
section
variable {prog:Program} {w:World} {A:Around} {E:Value->Shared->Prop} {s:Shared} {K:L2.FG} {x dx C f:Addr} {mA:Str->Option Value} {name:Str} {v:Value}
end
theorem RelO.some_of{v:V}{o:Option Value}(r:RelO (some v) o):∃u,o=some u/\RelV v u:=by
 cases o with
 |none=>exact(show False from r).elim
 |some u=>exact⟨u,rfl,r⟩
section
variable {P:Program} {w:World} {H H':Hp} {h h':Heap} {a C dx:Addr} {fs fs':List (Str×V)}
end
structure Cls (K:L2.FG) (C:Addr):Prop where
 pg:PySem.W.plainGet K C Str.empty=true
 hd:PySem.W.hasDictIn K C=true
 po:PySem.W.plainOver K C=true
 sa:PySem.W.findIn K (.ref C) "__setattr__"=some (some (.builtin "object.__setattr__"))
structure Con (K:L2.FG) (C:Addr) (f:Str) (v:V) (u:Value):Prop where
 at_:PySem.W.findIn K (.ref C) f=some (some u)
 rel:RelV v u
 get:PySem.W.specialIn K u "__get__"=some none
 cp:PySem.W.copiedNames.contains f=false
structure Meth (K:L2.FG) (C:Addr) (m:Str) (f:Addr):Prop where
 at_:PySem.W.findIn K (.ref C) m=some (some (.ref f))
 fn:PySem.W.isFn K (.ref f)=true
 kp:PySem.W.keepIn K (.ref f)=true
section
variable {X:Cx} {pins:List (Addr×Obj)} {σ:St} {H:Hp} {s:Shared} {a C dx:Addr} {fs:List (Str×V)} {f:Str} {v:V} {A:Around} {E:Value->Shared->Prop}
end
section
variable {X:Cx} {o e value:Expr} {f:Str} {pos pos' tpos:Pos} {ta tv:TE}
end
section
variable {X:Cx} {pins:List (Addr×Obj)} {σ:St} {H:Hp} {s:Shared} {A:Around} {E:Value->Shared->Prop} {Q:Value->Shared->Prop} {c:Value} {b:Bool}
inductive TyOf (K:L2.FG) (H:Hp):V->Value->Prop where
 |non:TyOf K H .non (.type "NoneType")
 |bl (x:Bool):TyOf K H (.bl x) (.type "bool")
 |int (i:Int):TyOf K H (.int i) (.type "int")
 |str (x:Str):TyOf K H (.str x) (.type "str")
 |flt (x:UInt64):TyOf K H (.flt x) (.type "float")
 |lst {a:Addr} {xs:List V} (e:H a=some (.lst xs)):TyOf K H (.ref a) (.type "list")
 |frz {a:Addr} {o:Obj} {xs:List V} (e:H a=some (.frz o (.lst xs))):TyOf K H (.ref a) (.type "list")
 |tup {a:Addr} {xs:List V} (e:H a=some (.tup xs)):TyOf K H (.ref a) (.type "tuple")
 |dK {a:Addr} {kvs:List (Key×V)} (e:H a=some (.dK kvs)):TyOf K H (.ref a) (.type "dict")
 |dT {a:Addr} {kvs:List (List Key×V)} (e:H a=some (.dT kvs)):TyOf K H (.ref a) (.type "dict")
 |ins {a C dx:Addr} {fs:List (Str×V)} (e:H a=some (.ins C dx fs)) (cl:Cls K C) (ha:PySem.W.findIn K (.ref C) "__class__"=some (some (.builtin "object.__class__")))
   (hn:PySem.W.specialIn K (.builtin "object.__class__") "__get__"=some (some (.builtin "getset_descriptor.__get__"))) (htk:PySem.W.takesIn K (.builtin "object.__class__")=some true)
   (hm:PySem.W.mroIn K C (.type "object")=some true):TyOf K H (.ref a) (.ref C)
end
structure Room (k:Nat) (A:Around):Prop where
 hd:A.handled=none
 dp:A.depth+3 * k+5 < recursionLimit
 un:A.units+16 * k+200 < cLine
theorem Room.mono{j k:Nat}{A:Around}(r:Room k A)(h:j<=k):Room j A:=⟨r.hd,by have:=r.dp;omega,by have:=r.un;omega⟩
theorem Room.deeper{k:Nat}{A:Around}(r:Room (k+1) A)(env:Env):Room k (A.deeper env):=
 ⟨r.hd,by have:=r.dp;show A.depth+1+3 * k+5 < _;omega,by have:=r.un;show A.units+3+16 * k+200 < _;omega⟩
theorem Room.depth{k:Nat}{A:Around}(r:Room k A):A.depth < recursionLimit:=by have:=r.dp;omega
theorem Room.units{k:Nat}{A:Around}(r:Room k A):A.units+64 < cLine:=by have:=r.un;omega
def tNil:TA:=fun _ H Q=>Q [] H
def tCons(ta:TE)(tr:TA):TA:=fun σ H Q=>ta σ H fun x H1=>tr σ H1 fun xs H2=>Q (x::xs) H2
section
variable {X:Cx} {e:Expr} {es:List Expr} {te:TE} {t:TA} {pos:Pos}
theorem pa_nil:PA X [] tNil:=fun _ _ _ _ H Q I h=>Calls.spliced_nil ⟨[],H,I,.nil,h⟩
theorem b2v(ha:PE X e te)(hr:PA X es t)(hs:starEach (e::es) X.env=(false,eval e X.env)::starEach es X.env:=by rfl):PA X (e::es) (tCons te t):=by
 intro pos pins s σ H Q I h;rw[hs];show wpAny _ _ (spliced ((false,eval e X.env)::backTo pos (starEach es X.env))) _ _ s;refine Calls.spliced_cons (thn (ha pins s σ H _ I h) fun u s1 hh=>?_)
 obtain⟨x,H1,I1,r1,q1⟩:=hh;exact thn (hr pos pins s1 σ H1 _ I1 q1) fun us s2 ⟨xs,H2,I2,r2,q2⟩=>⟨x::xs,H2,I2,.cons r1 r2,q2⟩
def tTup(t:TA):TE:=fun σ H Q=>t σ H fun xs H1=>xs.length<=sizeLine/\∀p,H1 p=none->Q (.ref p) (upd H1 p (.tup xs))
def tLst(t:TA):TE:=fun σ H Q=>t σ H fun xs H1=>xs.length<=sizeLine/\∀p,H1 p=none->Q (.ref p) (upd H1 p (.lst xs))
theorem d9e{x1}(h:PA X es t):PE X (.Tuple es x1 pos) (tTup t):=by
 intro pins s σ H Q I hq;refine wpAny_Tuple_spliced (thn (h pos pins s σ H _ I hq) fun us s1 ⟨xs,H1,I1,r,z,q⟩=>⟨by rw[<-r.length];exact z,?_⟩)
 have hf:H1 s1.heap.objs.size=none:=I1.hok.fresh (Nat.le_refl _);refine⟨.ref s1.heap.objs.size,upd H1 s1.heap.objs.size (.tup xs),I1.laid (t':=s1.toks) (fun b u e=>Heap.get?_push_of_some _ e) (Nat.le_refl _) ?_,rfl,q _ hf⟩
 exact⟨z,us,r,⟨_,Heap.get?_push_size _ rfl,rfl,_,rfl⟩⟩
theorem d9f(h:PA X es t):PE X (.List es pos) (tLst t):=by
 intro pins s σ H Q I hq;refine wpAny_List_spliced (thn (h pos pins s σ H _ I hq) fun us s1 ⟨xs,H1,I1,r,z,q⟩=>⟨by rw[<-r.length];exact z,?_⟩)
 have hf:H1 s1.heap.objs.size=none:=I1.hok.fresh (Nat.le_refl _);refine⟨.ref s1.heap.objs.size,upd H1 s1.heap.objs.size (.lst xs),I1.laid (t':=s1.toks) (fun b u e=>Heap.get?_push_of_some _ e) (Nat.le_refl _) ?_,rfl,q _ hf⟩
 exact⟨z,us,0,r,Heap.get?_push_size _ rfl⟩
end
abbrev Sp:=List V->Hp->VK->XK->Prop
abbrev CXT:=List Env->Hp->Shared->XK->Value->Shared->Prop
structure Env0 (P:Program) (w:World) (K:L2.FG) (mg:Str->Option Value) (base:Heap) (A:Around) (outer:List Env) (s:Shared) (H:Hp):Prop where
 frames:A.frames=some outer
 mod:Mod K mg base
 bs:∀b o,base.get? b=some o->s.heap.get? b=some o/\H b=none
 bsz:base.objs.size<=s.heap.objs.size
 funs:s.heap.FunFrames base outer
 frf:∀b∈frs outer,H b=none
 hok:HOk P w H s.heap
 bare:AllBare s.gens
def CE(outer:List Env)(P:Program)(w:World)(H:Hp)(s:Shared)(Q:VK)(u:Value)(s':Shared):Prop:=
 ∃v H',s'.os=s.os/\AllBare s'.gens/\Un (frs outer) [] H H' s.heap s'.heap/\HOk P w H' s'.heap/\RelV v u/\Q v H'
def CR(CX:CXT)(outer:List Env)(P:Program)(w:World)(H:Hp)(s:Shared)(Q:VK)(E:XK)(r:Result)(s':Shared):Prop:=
 match r with
 |.ok (.ret u)=>CE outer P w H s Q u s'
 |.ok _=>False
 |.error e=>CX outer H s E e s'
structure FnOk (P:Program) (w:World) (K:L2.FG) (mg:Str->Option Value) (base:Heap) (CX:CXT) (k:Nat) (f:Addr) (fd:FuncData) (ps:List Str) (sp:Sp):Prop where
 len:∀vs H Q E,sp vs H Q E->vs.length=ps.length
 run:∀(A:Around) (outer:List Env) (s:Shared) (H:Hp) (args:Args) (us:List Value) (vs:List V) (Q:VK) (E:XK),Room k A->Env0 P w K mg base A outer s H->BindsTo s fd args (ps.zip us)->Vals vs us->sp vs H Q E->
  codeAny (model P w) A (.call (.ref f) args) (CR CX outer P w H s Q E) s
theorem FnOk.imp{P:Program}{w:World}{K:L2.FG}{mg:Str->Option Value}{base:Heap}{CX:CXT}{k:Nat}{f:Addr}{fd:FuncData}{ps:List Str}{sp sp':Sp}(F:FnOk P w K mg base CX k f fd ps sp)
  (h:∀vs H Q E,sp' vs H Q E->sp vs H Q E):FnOk P w K mg base CX k f fd ps sp':=
 ⟨fun vs H Q E q=>F.len vs H Q E (h _ _ _ _ q),fun A outer s H args us vs Q E hr he hb hv hs=>F.run A outer s H args us vs Q E hr he hb hv (h _ _ _ _ hs)⟩
section
variable {X:Cx} {pins:List (Addr×Obj)} {σ:St} {H:Hp} {s s':Shared}
theorem Inv.env0(I:Inv X pins σ H s):Env0 X.prog X.w X.K X.mg X.base X.A X.stack s H:=
 ⟨I.ok.frames,I.ok.mod,I.bs,Nat.le_trans I.ok.bsz I.sz,I.stack,I.stkFree,I.hok,I.bare⟩
theorem Inv.after{Q:VK}{u:Value}(I:Inv X pins σ H s)(h:CE X.stack X.prog X.w H s Q u s'):EP X pins σ Q u s':=by
 obtain⟨v,H',os,bare,un,hok,r,q⟩:=h;obtain⟨hh,g,d,t,os'⟩:=s';obtain rfl:os'=s.os:=os;exact⟨v,H',I.call (h':=hh) (g':=g) (d':=d) (t':=t) (ch:=[]) un hok bare (fun b z=>absurd z (by simp)),r,q⟩
end
def tCall(sp:Sp)(dvs:List V)(E:St->XK)(t:TA):TE:=fun σ H Q=>t σ H fun vs H1=>sp (vs++dvs) H1 Q (E σ)
def Binds(K:L2.FG)(fd:FuncData)(ps:List Str)(ds:List Value):Prop:=
 ∀(s:Shared) (us:List Value),K.In s.heap->(us++ds).length=ps.length->BindsTo s fd ⟨us,[]⟩ (ps.zip (us++ds))
theorem Binds.all{K:L2.FG}{fd:FuncData}{ps:List Str}(h:∀us:List Value,us.length=ps.length->bindArgs fd ⟨us,[]⟩=pure (ps.zip us)):Binds K fd ps []:=fun s us _ hl=>by
 rw[List.append_nil] at hl ⊢;exact .of_eq (h us hl)
def c1s(CX:CXT)(X:Cx)(E:St->XK):Prop:=∀(pins:List (Addr×Obj)) (σ:St) (H:Hp) (s:Shared) (e:Value) (s':Shared),Inv X pins σ H s->CX X.stack H s (E σ) e s'->X.xe e s'
section
variable {X:Cx} {CX:CXT} {k:Nat} {f C:Addr} {fd:FuncData} {ps:List Str} {sp:Sp} {dvs:List V} {ds:List Value} {E:St->XK} {x m:Str} {p pos apos:Pos} {e o:Expr} {es:List Expr} {ta:TE} {t:TA}
theorem d9g{pins:List (Addr×Obj)}{σ:St}{H:Hp}{s:Shared}{Q:VK}{us:List Value}{vs:List V}(F:FnOk X.prog X.w X.K X.mg X.base CX k f fd ps sp)(hr:Room k X.A)(hb:Binds X.K fd ps ds)(hd:Vals dvs ds)(hx:c1s CX X E)
  (I:Inv X pins σ H s) (r:Vals vs us) (h:sp (vs++dvs) H Q (E σ)):wpAny (model X.prog X.w) X.A (call (.ref f) us) (EP X pins σ Q) X.xe s:=by
 have r2:Vals (vs++dvs) (us++ds):=r.append hd;have hl:(us++ds).length=ps.length:=by rw[<-r2.length];exact F.len _ _ _ _ h
 refine wpAny_call (codeAny_mono (F.run X.A X.stack s H ⟨us,[]⟩ (us++ds) (vs++dvs) Q (E σ) hr I.env0 (hb s us I.kIn hl) r2 h) fun r s' hq=>?_)
 cases r with
 |error e=>exact hx pins σ H s e s' I hq
 |ok fl=>
  cases fl with
  |ret u=>exact I.after hq
  |next=>exact False.elim hq
  |brk=>exact False.elim hq
  |cont=>exact False.elim hq
theorem c5v(F:FnOk X.prog X.w X.K X.mg X.base CX k f fd ps sp)(hr:Room k X.A)(hg:Gl X x)(hm:X.mg x=some (.ref f))(hk:PySem.W.keepIn X.K (.ref f)=true)(hb:Binds X.K fd ps ds)(hd:Vals dvs ds)(hx:c1s CX X E)
  (ha:PA X (e::es) t) (hdb:(x == ("__debug__":Str))=false:=by decide) (he:starEach (e::es) X.env=(false,eval e X.env)::starEach es X.env:=by rfl) (hpl:(backTo pos (starEach es X.env)).any (·.1)=false:=by rfl) :
  PE X (.Call (.Name x p) (e::es) [] pos) (tCall sp dvs E t):=by
 intro pins s σ H Q I h;refine wpAny_Call_Name_kw (b5q I hg hm ?_ hdb);refine PySem.W.callWith_K (h₀:=X.base) I.ok.mod.kin hk (thn (ha pos pins s σ H _ I h) fun us s1 ⟨vs,H1,I1,r,q⟩=>⟨I1.kIn,?_⟩) he hpl
 exact d9g F hr hb hd hx I1 r q
structure Mk (K:L2.FG) (C f:Addr):Prop where
 makes:PySem.W.makesIn K C=true
 init:PySem.W.findIn K (.ref C) "__init__"=some (some (.ref f))
 fn:PySem.W.isFn K (.ref f)=true
 kp:PySem.W.keepIn K (.ref C)=true
end
def PK(X:Cx)(kws:List Keyword)(t:TA):Prop:=
 ∀(pos:Pos) (pins:List (Addr×Obj)) (s:Shared) (σ:St) (H:Hp) (Q:List V->Hp->Prop),Inv X pins σ H s->t σ H Q->wpAny (model X.prog X.w) X.A (evalAll ((backToKw pos (keywordEach kws X.env)).map (·.2))) (AP X pins σ Q) X.xe s
section
variable {X:Cx} {CX:CXT} {k:Nat} {f C:Addr} {fd:FuncData} {ps ks:List Str} {sp:Sp} {E:St->XK} {x m:Str} {p pos apos kpos:Pos} {e o:Expr} {es:List Expr} {kws:List Keyword} {te ta:TE} {t tk:TA} {nm:Option Str}
theorem d9h:PK X [] tNil:=fun _ _ _ _ H Q I h=>wpAny_evalAll_nil ⟨[],H,I,.nil,h⟩
theorem d5j(ha:PE X e te)(hr:PK X kws t):PK X (⟨nm,e,kpos⟩::kws) (tCons te t):=by
 intro pos pins s σ H Q I h;show wpAny _ _ (evalAll ((do let v <-eval e X.env;standAt pos;pure v)::(backToKw pos (keywordEach kws X.env)).map (·.2))) _ _ s
 refine wpAny_evalAll_cons (wpAny_bind (thn (ha pins s σ H _ I h) fun u s1 ⟨x,H1,I1,r1,q1⟩=>wpAny_bind (wpAny_standAt (wpAny_pure ?_))))
 exact thn (hr pos pins s1 σ H1 _ I1 q1) fun us s2 ⟨xs,H2,I2,r2,q2⟩=>⟨x::xs,H2,I2,.cons r1 r2,q2⟩
structure KBinds (K:L2.FG) (fd:FuncData) (ps ks:List Str) (g:List Value->List Value->List Value) (gV:List V->List V->List V):Prop where
 to:∀(s:Shared) (us ws:List Value),K.In s.heap->(g us ws).length=ps.length->BindsTo s fd ⟨us,ks.zip ws⟩ (ps.zip (g us ws))
 rel:∀{vs:List V} {us:List Value} {zs:List V} {ws:List Value},Vals vs us->Vals zs ws->Vals (gV vs zs) (g us ws)
variable {g:List Value->List Value->List Value} {gV:List V->List V->List V}
end
structure FnScope (N P:List Str) (sc:Scope):Prop where
 kind:sc.kind=.function
 co:sc.isCoroutine=false
 gen:sc.isGenerator=false
 nd:N.Nodup
 pre:N.take P.length=P
 par:∀x∈P,sc.names.lookup x=some .local \/ sc.names.lookup x=some .cell
 nofree:∀y∈sc.names,y.2≠.free
theorem b7s{kindOf:Str->Option NameKind}{x:Str}:∀{binds:List (Str×Value)} {m:Str->Option Value},(∀v,(x,v)∉binds)->bindL kindOf binds m x=m x
 |[],_,_=>rfl
 |(n,v)::r,m,h=>by
  unfold bindL;rw[b7s fun w hw=>h w (List.mem_cons_of_mem _ hw)]
  split
  ·have:x≠n:=by rintro rfl;exact h v List.mem_cons_self
   simp[this]
  ·rfl
theorem b7t{kindOf:Str->Option NameKind}{x:Str}:∀{binds:List (Str×Value)} {m:Str->Option Value},(∀v,(x,v)∉binds)->bindC kindOf binds m x=m x
 |[],_,_=>rfl
 |(n,v)::r,m,h=>by
  unfold bindC;rw[b7t fun w hw=>h w (List.mem_cons_of_mem _ hw)]
  split
  ·rfl
  ·have:x≠n:=by rintro rfl;exact h v List.mem_cons_self
   simp[this]
theorem b7u{kindOf:Str->Option NameKind}{x:Str}{v:Value}:∀{P:List Str} {vs:List Value} {i:Nat} {m:Str->Option Value},P.Nodup->P[i]?=some x->vs[i]?=some v->kindOf x=some .local ->
  bindL kindOf (P.zip vs) m x=some v
 |[],_,_,_,_,h,_,_=>by simp at h
 |_::_,[],_,_,_,_,h,_=>by simp at h
 |p::P,w::vs,0,m,nd,h1,h2,hk=>by
  simp at h1 h2;subst h1;subst h2;show bindL kindOf ((p,w)::P.zip vs) m p=_;unfold bindL;rw[b7s fun v hv=>(List.nodup_cons.mp nd).1 (List.of_mem_zip hv).1,if_pos hk]
  simp
 |p::P,w::vs,i+1,m,nd,h1,h2,hk=>by
  show bindL kindOf ((p,w)::P.zip vs) m x=_;unfold bindL;exact b7u (i:=i) (List.nodup_cons.mp nd).2 (by simpa using h1) (by simpa using h2) hk
theorem b7v{kindOf:Str->Option NameKind}{x:Str}{v:Value}:∀{P:List Str} {vs:List Value} {i:Nat} {m:Str->Option Value},P.Nodup->P[i]?=some x->vs[i]?=some v->kindOf x≠some .local ->
  bindC kindOf (P.zip vs) m x=some v
 |[],_,_,_,_,h,_,_=>by simp at h
 |_::_,[],_,_,_,_,h,_=>by simp at h
 |p::P,w::vs,0,m,nd,h1,h2,hk=>by
  simp at h1 h2;subst h1;subst h2;show bindC kindOf ((p,w)::P.zip vs) m p=_;unfold bindC;rw[b7t fun v hv=>(List.nodup_cons.mp nd).1 (List.of_mem_zip hv).1,if_neg hk]
  simp
 |p::P,w::vs,i+1,m,nd,h1,h2,hk=>by
  show bindC kindOf ((p,w)::P.zip vs) m x=_;unfold bindC;exact b7v (i:=i) (List.nodup_cons.mp nd).2 (by simpa using h1) (by simpa using h2) hk
def start(N:List Str)(vs:List V):St:=vs.map some++List.replicate (N.length - vs.length) none
def cxOf(CX:CXT)(P:Program)(w:World)(K:L2.FG)(mg:Str->Option Value)(base:Heap)(N:List Str)(qual:Str)(scope:Scope)(f:Addr)(cd:Value)(A:Around)(outer:List Env)(s:Shared)(H:Hp)(E:XK):Cx where
 prog:=P
 w:=w
 K:=K
 mg:=mg
 base:=base
 A:=A.deeper (envOfC qual scope s.heap.objs.size f cd)
 N:=N
 s₀:=s
 H₀:=H
 env:=envOfC qual scope s.heap.objs.size f cd
 outer:=outer
 stack:=envOfC qual scope s.heap.objs.size f cd::outer
 ex:=[]
 calm:=true
 fn:=fun _=>true
 pn:=[]
 xe:=fun e s'=>wpAny (model P w) (A.deeper (envOfC qual scope s.heap.objs.size f cd)) (leaving (envOfC qual scope s.heap.objs.size f cd) e) (fun _ s''=>CX outer H s E e s'') (fun e' s''=>CX outer H s E e' s'') s'
theorem c1t{sc:Scope}{n:Nat}{x:Str}(h:sc.names.lookup x=some .cell):∃c,(cellsFrom n sc.names []).lookup x=some c:=by
 have q:=PySem.W.cellsFrom_some sc.names n [] (.inl h);exact Option.isSome_iff_exists.mp q
theorem c5w{CX:CXT}{P:Program}{w:World}{K:L2.FG}{mg:Str->Option Value}{base:Heap}{N ps:List Str}{qual:Str}{scope:Scope}{f:Addr}{cd:Value}{A:Around}{outer:List Env}{s s1:Shared}{H:Hp}{E:XK}{us:List Value}{vs:List V}
  (S:FnScope N ps scope) (hd:A.handled=none) (e0:Env0 P w K mg base A outer s H) (hl:vs.length=ps.length) (r:Vals vs us)
  (x:InCallC s s.heap.objs.size (bindL (envOfC qual scope s.heap.objs.size f cd).kindOf (ps.zip us) fun _=>none) (cellsFrom (s.heap.objs.size+1) scope.names []) (bindC (envOfC qual scope s.heap.objs.size f cd).kindOf (ps.zip us) fun _=>none) s1) :
  Inv (cxOf CX P w K mg base N qual scope f cd A outer s H E) [] (start N vs) H s1:=by
 have hpl:ps.length<=N.length:=by have:=congrArg List.length S.pre;rw[List.length_take] at this;omega
 obtain⟨h1,tk,rfl,hk⟩:=x.done;have noA:∀b:Addr,b∉(cxOf CX P w K mg base N qual scope f cd A outer s H E).ex:=fun b z=>absurd (show b∈([]:List Addr) from z) (by simp)
 refine⟨⟨e0.mod,S.kind,rfl,rfl,Nat.le_refl _,fun y z c h1 h2=>?_,fun y hy=>?_,fun y c _ h=>?_,fun _=>hd,Around.frames_deeper e0.frames,.inr ⟨rfl,rfl⟩,fun b z=>absurd z (noA b),e0.bs,e0.bsz,fun b _ _=>noA b,fun b z=>absurd z (noA b),e0.funs,e0.frf⟩,
  rfl,e0.bare,Un.kept hk,⟨_,x.toInCall.ns,fun i y v h1 h2 h3=>?_⟩,fun y c h=>⟨_,x.cell y c h⟩,e0.hok.fresh (Nat.le_refl _),fun y c h=>?_,fun p hp=>absurd (show p∈([]:List (Addr×Obj)) from hp) (by simp),e0.hok.kept hk,?_⟩
 ·exact name_of_addr x.apart (PySem.mem_of_lookup h1) (PySem.mem_of_lookup h2)
 ·have hy:scope.names.lookup y=some .cell\/scope.names.lookup y=some .free:=hy;rcases hy with hy|hy
  ·exact c1t hy
  ·exact absurd rfl (S.nofree _ (PySem.mem_of_lookup hy))
 ·exact Nat.le_of_lt (x.above y c (PySem.mem_of_lookup h))
 ·have hi:i < vs.length:=by
   unfold start at h2;by_cases hi:i < vs.length
   ·exact hi
   ·rw[List.getElem?_append_right (by simpa using hi)] at h2
    rw[List.getElem?_replicate] at h2;split at h2 <;> cases h2
  have ha:vs[i]?=some v:=by
   unfold start at h2;rw[List.getElem?_append_left (by simpa using hi),List.getElem?_map] at h2
   cases e:vs[i]? with
   |none=>rw[e] at h2;cases h2
   |some a=>rw[e] at h2;cases h2;rfl
  obtain⟨u,hu,rv⟩:=r.get ha;have hp:ps[i]?=some y:=by
   rw[<-S.pre,List.getElem?_take_of_lt (by omega)];exact h1
  have ndP:ps.Nodup:=by rw[<-S.pre];exact S.nd.sublist (List.take_sublist _ _)
  refine⟨u,rv,?_⟩;rcases S.par y (List.mem_of_getElem? hp) with k|k
  ·exact .inl ⟨k,b7u ndP hp hu k⟩
  ·obtain⟨c,e⟩:=c1t (n:=s.heap.objs.size+1) k;refine .inr ⟨.inl k,c,e,?_⟩;have q:=x.cell y c e;rw[b7v ndP hp hu (by show scope.names.lookup y≠_;rw[k];decide)] at q
   exact q
 ·exact e0.hok.fresh (Nat.le_of_lt (x.above y c (PySem.mem_of_lookup h)))
 ·unfold start;show _=N.length;rw[List.length_append,List.length_map,List.length_replicate];omega
theorem d9i{CX:CXT}{P:Program}{w:World}{K:L2.FG}{mg:Str->Option Value}{base:Heap}{k:Nat}{f:Addr}{name qual:Str}{params:Arguments}{body:List Stmt}{scope:Scope}{dV kV doc pm cdv ct oc:Value}{an od:Option Addr}
  {osl:Array (Option Value)} {N ps:List Str} {sp:Sp} (lk:K.lookup f=some ⟨oc,od,.func (PySem.W.fnOf name qual params body scope dV kV doc pm an cdv ct),osl⟩) (hcd:PySem.W.codeIn K cdv qual=true) (S:FnScope N ps scope)
  (len:∀vs H Q E,sp vs H Q E->vs.length=ps.length)
  (hbody:∀(A:Around) (outer:List Env) (s:Shared) (H:Hp) (vs:List V) (Q:VK) (E:XK),Room k (A.deeper (envOfC qual scope s.heap.objs.size f cdv))->sp vs H Q E->
   ∃t,PSs (cxOf CX P w K mg base N qual scope f cdv A outer s H E) body t/\t { nx:=fun _ H'=>Q .non H',rt:=Q} (start N vs) H) :
  FnOk P w K mg base CX (k+1) f (PySem.W.fnOf name qual params body scope dV kV doc pm an cdv ct) ps sp:=by
 refine⟨len,fun A outer s H args us vs Q E hr e0 hb r hsp=>?_⟩
 have hl:=len _ _ _ _ hsp;have KX:K.In s.heap:=e0.mod.kin.keeps fun b o e=>(e0.bs b o e).1
 have lim:s.heap.NoLimit:=e0.mod.nolimit.keeps fun b o e=>(e0.bs b o e).1
 have hkind:∀y∈ps.zip us,scope.names.lookup y.1=some .local \/ (scope.names.lookup y.1=some .cell/\((cellsFrom (s.heap.objs.size+1) scope.names []).lookup y.1).isSome=true):=fun⟨n,v⟩ hy=>by
  rcases S.par n (List.of_mem_zip hy).1 with q|q
  ·exact .inl q
  ·exact .inr ⟨q,PySem.W.cellsFrom_some _ _ _ (.inl q)⟩
 refine codeAny_call_function hr.depth (KX _ _ lk) rfl S.co S.gen rfl (PySem.W.codeRec_of KX hcd) (hb _ _ _ _ ?_);refine wpAny_newFunctionEnv_cells S.kind hkind fun env he s1 x=>?_
 subst he;refine⟨lim.keeps x.toInCall.keep,codeAny_func ?_⟩;obtain⟨t,ht,hq⟩:=hbody A outer s H vs Q E (hr.deeper _) hsp;have I:Inv (cxOf CX P w K mg base N qual scope f cdv A outer s H E) [] (start N vs) H s1:=c5w S hr.hd e0 hl r x;refine wpAny_mono (ht [] s1 (start N vs) H _ I hq) (fun fl s' hs=>?_) fun e s' hs=>hs
 have fin:∀{σ':St} {H':Hp} {v:V} {u:Value},Inv (cxOf CX P w K mg base N qual scope f cdv A outer s H E) [] σ' H' s'->RelV v u->Q v H'->CE outer P w H s Q u s':=
  fun{σ' H' v u} J rv q=>⟨v,H',J.os,J.bare,J.base,J.hok,rv,q⟩
 cases fl with
 |ret u=>
  obtain⟨v,σ',H',J,rv,q⟩:=hs;exact fin J rv q
 |next=>
  obtain⟨σ',H',J,q⟩:=hs;exact fin (v:=V.non) (u:=Value.none) J rfl q
 |brk=>
  obtain⟨_,_,_,q⟩:=hs;exact False.elim q
 |cont=>
  obtain⟨_,_,_,q⟩:=hs;exact False.elim q
section
variable {X:Cx} {x:Str} {p pos:Pos} {e:Expr} {es:List Expr} {t:TA} {id T:String} {r:List V->Hp->VK->Prop}
def tCB(r:List V->Hp->VK->Prop)(t:TA):TE:=fun σ H Q=>t σ H fun vs H1=>r vs H1 Q
theorem c1u(hc:CallR X (.builtin id) r)(hg:Gl X x)(hm:X.mg x=none)(hv:bootBuiltins x=some (.builtin id))(ha:PA X (e::es) t)(hn:x≠"__name__":=by decide)(hdb:(x == ("__debug__":Str))=false:=by decide)
  (he:starEach (e::es) X.env=(false,eval e X.env)::starEach es X.env:=by rfl) (hpl:(backTo pos (starEach es X.env)).any (·.1)=false:=by rfl):PE X (.Call (.Name x p) (e::es) [] pos) (tCB r t):=by
 intro pins s σ H Q I h;refine wpAny_Call_Name_kw (b2t I hg hm hv ?_ hn hdb);exact PyProof.Rows.callWith_builtin1 (thn (ha pos pins s σ H _ I h) fun us s1 ⟨vs,H1,I1,r1,q1⟩=>hc pins s1 σ H1 vs us Q I1 r1 q1) he hpl
theorem b7w(hc:CallR X (.type T) r)(hg:Gl X x)(hm:X.mg x=none)(hv:bootBuiltins x=some (.type T))(ha:PA X (e::es) t)(hn:x≠"__name__":=by decide)(hdb:(x == ("__debug__":Str))=false:=by decide)
  (he:starEach (e::es) X.env=(false,eval e X.env)::starEach es X.env:=by rfl) (hpl:(backTo pos (starEach es X.env)).any (·.1)=false:=by rfl):PE X (.Call (.Name x p) (e::es) [] pos) (tCB r t):=by
 intro pins s σ H Q I h;refine wpAny_Call_Name_kw (b2t I hg hm hv ?_ hn hdb);exact PyProof.Rows.callWith_type1 (thn (ha pos pins s σ H _ I h) fun us s1 ⟨vs,H1,I1,r1,q1⟩=>hc pins s1 σ H1 vs us Q I1 r1 q1) he hpl
end
end L2
namespace HT
open PySem PyProof.Rows
section
open PySem.SeqAt
open PySem.AutoSeq1 (wpAny_loadPart')
open PySem.MeetsSeq PySem.MeetsSeq2 PySem.MeetsSeq3
end
variable{sl:Addr}{vl vu:Value}{lo hi:Option Int}
section
variable {prog:Program} {w:World} {A:Around} {E:Value->Shared->Prop} {s:Shared}
def sIx(n d:Nat):Option Int->Nat
 |none=>d
 |some v=>if v < 0 then(v+(n:Int)).toNat else min v.toNat n
theorem d9j(n d:Nat)(hd:d<=n)(o:Option Int):sIx n d o<=n:=by
 cases o with
 |none=>exact hd
 |some v=>
  show(if v < 0 then(v+(n:Int)).toNat else min v.toNat n)<=n
  by_cases hv:v < 0
  ·rw[if_pos hv];omega
  ·rw[if_neg hv];exact Nat.min_le_right _ _
theorem c5x(v:Int)(n d:Nat):(if v < 0 then max (v+(n:Int)) 0 else min v (n:Int))=((sIx n d (some v):Nat):Int):=by
 show(if v < 0 then max (v+(n:Int)) 0 else min v (n:Int))=(((if v < 0 then(v+(n:Int)).toNat else min v.toNat n):Nat):Int)
 by_cases hv:v < 0
 ·simp only[if_pos hv];omega
 ·simp only[if_neg hv];omega
theorem c4g(lo hi:Option Int)(n:Nat):Builtin.Slice.sliceAdjust lo hi 1 (n:Int)=(((sIx n 0 lo:Nat):Int),((sIx n n hi:Nat):Int)):=by
 have h1:¬((1:Int) < 0):=by omega
 unfold Builtin.Slice.sliceAdjust;simp only[h1,if_false];refine Prod.ext ?_ ?_
 ·cases lo with
  |none=>rfl
  |some v=>exact c5x v n 0
 ·cases hi with
  |none=>rfl
  |some v=>exact c5x v n n
theorem c4h(i j:Nat):Builtin.Slice.slicePlaces (i:Int) (j:Int) 1=j - i:=by
 unfold Builtin.Slice.slicePlaces;have h1:(1:Int) > 0:=by omega
 simp only[h1,if_true,Int.ediv_one];split <;> omega
theorem b4o{v:Value}{o:Option Int}{Q:Option Int->Shared->Prop}(p:IsPart v o)(h:Q o s):wpAny (model prog w) A (Builtin.Slice.slicePartIndex v) Q E s:=by
 cases p with
 |none=>exact slicePart_none h
 |int i t=>exact slicePart_int h
theorem b2g{n:Nat}{Q:Int×Int×Nat->Shared->Prop}(hs:s.heap.IsSliceOf sl vl vu .none)(pl:IsPart vl lo)(pu:IsPart vu hi)
  (h:Q (((sIx n 0 lo:Nat):Int),1,sIx n n hi - sIx n 0 lo) s):wpAny (model prog w) A (Builtin.Slice.sliceApplied (.ref sl) (pure (n:Int))) Q E s:=by
 obtain⟨os,hos,hcs,hds⟩:=id hs;unfold Builtin.Slice.sliceApplied Builtin.Slice.sliceFields;refine wpAny_bind (wpAny_bind (wpAny_field hos hds (x:=vl) rfl (wpAny_bind (wpAny_field hos hds (x:=vu) rfl (wpAny_bind (wpAny_field hos hds (x:=.none) rfl (wpAny_pure ?_)))))));refine wpAny_bind (slicePart_none ?_);show wpAny _ _ (if((1:Int) == 0)=true then _ else _) _ _ s
 rw[if_neg (by decide)]
 refine wpAny_bind (b4o pl (wpAny_bind (b4o pu (wpAny_bind (wpAny_pure ?_)))));show wpAny _ _ (match Builtin.Slice.sliceAdjust lo hi 1 (n:Int) with|(lo,hi)=>pure (lo,(1:Int),Builtin.Slice.slicePlaces lo hi 1)) _ _ s
 rw[c4g lo hi n];show wpAny _ _ (pure (((sIx n 0 lo:Nat):Int),(1:Int),Builtin.Slice.slicePlaces ((sIx n 0 lo:Nat):Int) ((sIx n n hi:Nat):Int) 1)) _ _ s;rw[c4h];exact wpAny_pure h
theorem d1f(xs:Array Value)(i k:Nat):((List.range k).filterMap fun(m:Nat)=>xs[((i:Int)+(m:Int) * 1).toNat]?).toArray=((xs.toList.drop i).take k).toArray:=by
 have e:(fun(m:Nat)=>xs[((i:Int)+(m:Int) * 1).toNat]?)=fun m=>xs[i+m]?:=by
  funext m;have:((i:Int)+(m:Int) * 1).toNat=i+m:=by omega
  rw[this]
 rw[e];have:=pick_run xs i k;rw[List.filterMap_map] at this;have e2:((fun x=>xs[x]?)∘fun x=>i+x)=fun m=>xs[i+m]?:=rfl
 rw[e2] at this;rw[this]
theorem getItem_tuple_cut{t:Addr}{items:Array Value}{Q:Value->Shared->Prop}(ht:IsTup s.heap t items)(hs:s.heap.IsSliceOf sl vl vu .none)(pl:IsPart vl lo)(pu:IsPart vu hi)
  (hw:¬(sIx items.size 0 lo=0/\sIx items.size items.size hi=items.size))
  (h:Q (.ref s.heap.objs.size) { s with heap:=s.heap.push { cls:=.type "tuple",data:=.seq ((items.toList.drop (sIx items.size 0 lo)).take (sIx items.size items.size hi - sIx items.size 0 lo)).toArray}})
  (hsz:items.size<=sizeLine):wpAny (model prog w) A (getItem (.ref t) (.ref sl)) Q E s:=by
 have htake:sizeOk (.seq ((items.toList.drop (sIx items.size 0 lo)).take (sIx items.size items.size hi - sIx items.size 0 lo)).toArray):=by
  show((items.toList.drop (sIx items.size 0 lo)).take (sIx items.size items.size hi - sIx items.size 0 lo)).toArray.size<=sizeLine;rw[List.size_toArray,List.length_take,List.length_drop,Array.length_toList];omega
 have hj:sIx items.size items.size hi<=items.size:=d9j _ _ (Nat.le_refl _) hi;obtain⟨os,hos,hcs,hds⟩:=id hs;have hTs:s.TypeIs (.ref sl) "slice":=⟨os,hos,hcs⟩;unfold getItem;try with_reducible refine wpAny_holding ?_
 first|refine wpAny_bind (wpAny_pure ?_)|skip
 refine wpAny_bind (wpAny_sequenceKey ht.typeIs (by decide) ?_)
 refine wpAny_bind (wpAny_callSpecial?_slot (name:=Str.ofString "__getitem__") ht.typeIs PyProof.Rows.slot_tuple_getitem
  (wpAny_call_entry PyProof.Rows.slot_tuple_getitem ht.typeIs entry_tuple_getitem ?_ (args_tuple_getitem _ _)))
 show wpAny _ _ (Builtin.Tuple.tupleItemsOf (.ref t) >>= _) _ _ s;refine wpAny_bind (tupleItemsOf_ ht ?_);refine wpAny_bind (wpAny_typeOf hTs ?_);rw[if_pos (by decide)]
 refine wpAny_bind (b2g hs pl pu ?_);have hno:¬((((sIx items.size 0 lo:Nat):Int) == 0 && (1:Int) == 1 && (sIx items.size items.size hi - sIx items.size 0 lo) == items.size)=true):=by
  intro q;rw[Bool.and_eq_true,Bool.and_eq_true] at q;have q1:((sIx items.size 0 lo:Nat):Int)=0:=eq_of_beq q.1.1;have q2:sIx items.size items.size hi - sIx items.size 0 lo=items.size:=eq_of_beq q.2;exact hw ⟨by omega,by omega⟩
 show wpAny _ _ (if(((sIx items.size 0 lo:Nat):Int) == 0 && (1:Int) == 1 && (sIx items.size items.size hi - sIx items.size 0 lo) == items.size)=true then _ else _) _ _ s
 rw[if_neg hno,d1f];first
  |exact wpAny_bind (m:=Builtin.Tuple.tupleExact _) (wpAny_newObj_type (wpAny_pure ⟨_,rfl,wpAny_pure h⟩) htake)
  |exact wpAny_bind (m:=Builtin.Tuple.tupleExact _) (wpAny_newObj_type (wpAny_bind (wpAny_pure (wpAny_pure ⟨_,rfl,wpAny_pure h⟩))) htake)
  |exact wpAny_bind (wpAny_bind (m:=Builtin.Tuple.tupleExact _) (wpAny_newObj_type (wpAny_pure (wpAny_pure ⟨_,rfl,wpAny_pure h⟩)) htake))
  |exact wpAny_bind (wpAny_bind (m:=Builtin.Tuple.tupleExact _) (wpAny_newObj_type (wpAny_pure ⟨_,rfl,wpAny_pure h⟩) htake))
end
end HT
namespace L2
open PySem PySem.Spec PyProof.Rows
variable{r:V->Option Int->Option Int->Hp->VK->Prop}{n j t':Nat}{i:Int}{pins:List (Addr×Obj)}{σ:St}{H:Hp}{s:Shared}{its its' us:List Value}{x:V}
abbrev TO:=St->Hp->(Option Int->Hp->Prop)->Prop
def PO(X:Cx)(e:Option Expr)(t:TO):Prop:=
 ∀(pins:List (Addr×Obj)) (s:Shared) (σ:St) (H:Hp) (Q:Option Int->Hp->Prop),Inv X pins σ H s->t σ H Q->
  wpAny (model X.prog X.w) X.A (evalPart e X.env) (fun u s'=>∃o H',Inv X pins σ H' s'/\IsPart u o/\Q o H') X.xe s
def d5k:TO:=fun _ H Q=>Q none H
def tPart(t:TE):TO:=fun σ H Q=>t σ H fun x H1=>∃i,x=.int i/\Q (some i) H1
section
variable {X:Cx} {e:Expr} {te:TE} {lo hi:Option Expr} {tl th:TO} {pos p2:Pos}
theorem d5l:PO X none d5k:=by
 intro pins s σ H Q I h;rw[evalPart_none];exact wpAny_pure ⟨none,H,I,.none,h⟩
theorem d5m(h:PE X e te):PO X (some e) (tPart te):=by
 intro pins s σ H Q I hw;rw[evalPart_some];refine thn (h pins s σ H _ I hw) fun u s1 hh=>?_
 obtain⟨x,H1,I1,r1,q1⟩:=hh;obtain⟨i,rfl,q⟩:=q1;obtain⟨t,rfl⟩:=r1;exact⟨some i,H1,I1,.int i t,q⟩
def SlR(X:Cx)(r:V->Option Int->Option Int->Hp->VK->Prop):Prop:=
 ∀(pins:List (Addr×Obj)) (s:Shared) (σ:St) (H:Hp) (x:V) (v vl vu:Value) (lo hi:Option Int) (sl:Addr) (Q:VK),Inv X pins σ H s->RelV x v->s.heap.IsSliceOf sl vl vu .none->IsPart vl lo->IsPart vu hi->r x lo hi H Q->
  ∃T id,typeLookup (.type T) "__getitem__"=pure (some (.builtin id))/\s.TypeIs v T/\wpAny (model X.prog X.w) X.A (getItem v (.ref sl)) (EP X pins σ Q) X.xe s
theorem SlR.or{r':V->Option Int->Option Int->Hp->VK->Prop}(h:SlR X r)(h':SlR X r'):SlR X (fun x lo hi H Q=>r x lo hi H Q\/r' x lo hi H Q):=by
 intro pins s σ H x v vl vu lo hi sl Q I rx hs pl pu q;rcases q with q|q
 ·exact h pins s σ H x v vl vu lo hi sl Q I rx hs pl pu q
 ·exact h' pins s σ H x v vl vu lo hi sl Q I rx hs pl pu q
def tSl(r:V->Option Int->Option Int->Hp->VK->Prop)(te:TE)(tl th:TO):TE:=fun σ H Q=>te σ H fun x H1=>tl σ H1 fun l H2=>th σ H2 fun u H3=>r x l u H3 Q
theorem d1g(hr:SlR X r)(he:PE X e te)(hl:PO X lo tl)(hu:PO X hi th):PE X (.Subscript e (.Slice lo hi none p2) pos) (tSl r te tl th):=by
 intro pins s σ H Q I h;refine Subscript_ (thn (he pins s σ H _ I h) fun v s1 hh=>?_)
 obtain⟨x,H1,I1,r1,q1⟩:=hh;refine wpAny_Slice (thn (hl pins s1 σ H1 _ I1 q1) fun vl s2 ⟨l,H2,I2,pl,q2⟩=>thn (hu pins s2 σ H2 _ I2 q2) fun vu s3 ⟨u,H3,I3,pu,q3⟩=>?_)
 rw[evalPart_none];refine wpAny_pure ?_;have I4:Inv X pins σ H3 { s3 with heap:=s3.heap.push { cls:=.type "slice",data:=.fields #[vl,vu,.none]}}:=I3.kept (t':=s3.toks) fun b ob q=>Heap.get?_push_of_some _ q
 obtain⟨T,id,hT,ht,hg⟩:=hr pins { s3 with heap:=s3.heap.push { cls:=.type "slice",data:=.fields #[vl,vu,.none]}} σ H3 x v vl vu l u s3.heap.objs.size Q I4 r1 (Heap.IsSliceOf.new ..) pl pu q3;show wpAny (model X.prog X.w) X.A (subscriptTail e (.Slice lo hi none p2) v (.ref s3.heap.objs.size)) (EP X pins σ Q) X.xe { s3 with heap:=s3.heap.push { cls:=.type "slice",data:=.fields #[vl,vu,.none]}};exact tail_any (ops:=[.ref s3.heap.objs.size,v]) ht hT hg (by with_unfolding_all rfl)
def cutV(xs:List V)(lo hi:Option Int):List V:=(xs.drop (HT.sIx xs.length 0 lo)).take (HT.sIx xs.length xs.length hi - HT.sIx xs.length 0 lo)
theorem b2w(xs:List V)(lo hi:Option Int):(cutV xs lo hi).length<=xs.length:=by
 unfold cutV;rw[List.length_take,List.length_drop];omega
def rSlT(K:L2.FG):V->Option Int->Option Int->Hp->VK->Prop:=fun x lo hi H Q=>∃a xs,x=.ref a/\SqT K H a xs/\
 ¬(HT.sIx xs.length 0 lo=0/\HT.sIx xs.length xs.length hi=xs.length)/\∀p,H p=none->Q (.ref p) (upd H p (.tup (cutV xs lo hi)))
theorem d9k:SlR X (rSlT X.K):=by
 intro pins s σ H x v vl vu lo hi sl Q I rx hs pl pu h;obtain⟨a,xs,rfl,hx,hw,q⟩:=h;cases rx;obtain⟨its,r,ht,hz⟩:=I.tuple hx;have hlen:its.toArray.size=xs.length:=by rw[List.size_toArray];exact r.length.symm
 refine⟨"tuple",_,PyProof.Rows.slot_tuple_getitem.lookup,ht.typeIs,?_⟩;refine HT.getItem_tuple_cut ht hs pl pu (by rw[hlen];exact hw) ?_ (by rw[hlen];exact hz)
 rw[hlen];refine⟨.ref s.heap.objs.size,_,I.laid (t':=s.toks) (o:=.tup (cutV xs lo hi)) (fun b ob q=>Heap.get?_push_of_some _ q) (Nat.le_refl _) ?_,rfl,q _ (I.hok.fresh (Nat.le_refl _))⟩
 exact⟨Nat.le_trans (b2w xs lo hi) hz,_,(r.drop (HT.sIx xs.length 0 lo)).take (HT.sIx xs.length xs.length hi - HT.sIx xs.length 0 lo),IsTup.new _ _⟩
end
def ixN(n:Nat)(i:Int):Option Nat:=if 0<=i then(if i < n then some i.toNat else none) else if -(n:Int)<=i then some (i+n).toNat else none
def atI{α:Type}(xs:List α)(i:Int):Option α:=(ixN xs.length i).bind fun j=>xs[j]?
theorem c0d(h:ixN n i=some j):seqIndex? i n=some j/\j < n /\ -(n:Int)<=i/\i < n:=by
 unfold ixN at h;by_cases h0:0<=i
 ·rw[if_pos h0] at h;by_cases h1:i < n
  ·rw[if_pos h1] at h;have e:i.toNat=j:=Option.some.inj h;exact⟨by rw[seqIndex_of h0 h1,e],by omega,by omega,h1⟩
  ·rw[if_neg h1] at h;cases h
 ·rw[if_neg h0] at h;by_cases h1:-(n:Int)<=i
  ·rw[if_pos h1] at h;have e:(i+n).toNat=j:=Option.some.inj h;exact⟨by rw[seqIndex_neg (by omega) h1,e],by omega,h1,by omega⟩
  ·rw[if_neg h1] at h;cases h
theorem c0e{α:Type}{xs:List α}{v:α}(h:atI xs i=some v):∃j,seqIndex? i xs.length=some j/\xs[j]?=some v/\j < xs.length /\ -(xs.length:Int)<=i/\i < xs.length:=by
 unfold atI at h;cases e:ixN xs.length i with
 |none=>rw[e] at h;cases h
 |some j=>
  rw[e] at h;obtain⟨h1,h2,h3,h4⟩:=c0d e;exact⟨j,h1,h,h2,h3,h4⟩
theorem a3i{α:Type}{xs:List α}{v:α}(h:xs[j]?=some v):atI xs (j:Int)=some v:=by
 have hj:j < xs.length:=(List.getElem?_eq_some_iff.mp h).1;have e:ixN xs.length (j:Int)=some j:=by
  unfold ixN;rw[if_pos (by omega),if_pos (by omega)];simp
 unfold atI;rw[e];exact h
def b1e(b:Expr):Prop:=∀o i,subscripted b false o i=operate [o,i] (getItem o i)
def IxR(X:Cx)(r:R2):Prop:=
 ∀(value slice:Expr) (pins:List (Addr×Obj)) (s:Shared) (σ:St) (H:Hp) (x y:V) (v u:Value) (Q:VK),Inv X pins σ H s->RelV x v->RelV y u->r x y H Q->
  subscripted slice false v u=operate [v,u] (getItem v u)->wpAny (model X.prog X.w) X.A (subscriptTail value slice v u) (EP X pins σ Q) X.xe s
def MtR(X:Cx)(id:String)(r:V->List V->Hp->VK->Prop):Prop:=
 ∀(pins:List (Addr×Obj)) (s:Shared) (σ:St) (H:Hp) (x:V) (xs:List V) (v:Value) (us:List Value) (Q:VK),Inv X pins σ H s->RelV x v->Vals xs us->r x xs H Q->
  wpAny (model X.prog X.w) X.A (call (.builtin id) (v::us)) (EP X pins σ Q) X.xe s
section
variable {X:Cx} {a b:Expr} {ta tb:TE} {pos:Pos}
theorem IxR.or{r r':R2}(h:IxR X r)(h':IxR X r'):IxR X (fun x y H Q=>r x y H Q\/r' x y H Q):=by
 intro value slice pins s σ H x y v u Q I rx ry q hs;rcases q with q|q
 ·exact h value slice pins s σ H x y v u Q I rx ry q hs
 ·exact h' value slice pins s σ H x y v u Q I rx ry q hs
theorem c5y{r:R2}(hr:IxR X r)(ha:PE X a ta)(hb:PE X b tb)(hs:b1e b):PE X (.Subscript a b pos) (tOp r ta tb):=by
 intro pins s σ H Q I h;exact Subscript_ (binT ha hb I h fun v u s2 x y H2 I2 rx ry q=>hr a b pins s2 σ H2 x y v u Q I2 rx ry q (hs _ _))
def rIxL(K:L2.FG):R2:=fun x y H Q=>∃p xs i v,x=.ref p/\y=.int i/\SqL K H p xs/\atI xs i=some v/\Q v H
def rIxT(K:L2.FG):R2:=fun x y H Q=>∃p xs i v,x=.ref p/\y=.int i/\SqT K H p xs/\atI xs i=some v/\Q v H
def rIxS:R2:=fun x y H Q=>∃z i c,x=.str z/\y=.int i/\z.length<=sizeLine/\atI z.cps.toList i=some c/\Q (.str ⟨#[c]⟩) H
theorem d5n:IxR X (rIxL X.K):=by
 intro value slice pins s σ H x y v u Q I rx ry h hs;obtain⟨p,xs,i,z,rfl,rfl,hq,he,q⟩:=h;cases rx;obtain⟨t,rfl⟩:=ry;obtain⟨its,r,pl,hz⟩:=I.list hq;obtain⟨j,h1,h2,h3,h4,h5⟩:=c0e he;obtain⟨w,ew,rw'⟩:=r.get h2;have hl:=r.length;have hn:=b2u;have fin:EP X pins σ Q w s:=⟨z,H,I,rw',q⟩;by_cases h0:0<=i
 ·have hj:i.toNat=j:=by
   rw[seqIndex_of h0 h5] at h1;exact Option.some.inj h1
  exact item_listR pl.isList h0 (by omega) (by rw[hj];simpa using ew) fin hs
 ·have hj:(i+(its.toArray.size:Int)).toNat=j:=by
   rw[seqIndex_neg (by omega) h4] at h1
   rw[List.size_toArray,<-hl];exact Option.some.inj h1
  exact subscriptTail_builtinR (x:=w) pl.isList.typeIs slot_list_getitem.lookup
   (wpAny_getItem_list_neg (Q:=fun r s'=>r=w/\EP X pins σ Q r s') pl.isList (by omega) (by rw[List.size_toArray] <;> omega) (by omega) (by rw[hj];simpa using ew) ⟨rfl,fin⟩) hs
theorem d9l:IxR X (rIxT X.K):=by
 intro value slice pins s σ H x y v u Q I rx ry h hs;obtain⟨p,xs,i,z,rfl,rfl,hq,he,q⟩:=h;cases rx;obtain⟨t,rfl⟩:=ry;obtain⟨its,r,pl,hz⟩:=I.tuple hq;obtain⟨j,h1,h2,h3,h4,h5⟩:=c0e he;obtain⟨w,ew,rw'⟩:=r.get h2;have hl:=r.length;have hn:=b2u;have fin:EP X pins σ Q w s:=⟨z,H,I,rw',q⟩;exact subscriptTail_builtinR (x:=w) pl.typeIs slot_tuple_getitem.lookup
  (getItem_tuple (j:=j) (Q:=fun r s'=>r=w/\EP X pins σ Q r s') pl (by omega) (by omega) (by rw[List.size_toArray,<-hl];exact h1) (by simpa using ew) ⟨rfl,fin⟩) hs
theorem ix_str:IxR X rIxS:=by
 intro value slice pins s σ H x y v u Q I rx ry h hs;obtain⟨z,i,c,rfl,rfl,hz,he,q⟩:=h;obtain⟨t,rfl⟩:=rx;obtain⟨t',rfl⟩:=ry;obtain⟨j,h1,h2,h3,h4,h5⟩:=c0e he;have hl:z.cps.toList.length=z.length:=by simp[Str.length]
 rw[hl] at h1 h4 h5;have hn:=b2u;exact tail_any (typeIs_str s z t) slot_str_getitem.lookup (getItem_str (c:=c) (by
  have e1:decide (i < -(2 ^ 63:Int))=false:=decide_eq_false (by omega)
  have e2:decide (i>=2 ^ 63)=false:=decide_eq_false (by omega)
  rw[e1,e2,Bool.or_false]) (by rw[h1];simpa using h2) ⟨.str ⟨#[c]⟩,H,I.tok _,⟨_,rfl⟩,q⟩) hs
theorem c4i(its:List Value)(n j:Nat)(u:Value):Obj.mapSeq (·.setIfInBounds j u) { cls:=.type "list",data:=.seq its.toArray n}={ cls:=.type "list",data:=.seq (its.set j u).toArray n}:=by
 simp[Obj.mapSeq]
theorem Inv.lst{pins:List (Addr×Obj)}{σ:St}{H:Hp}{s:Shared}{p:Addr}{xs:List V}(I:Inv X pins σ H s)(h:H p=some (.lst xs)):
  ∃(its:List Value) (n:Nat),Vals xs its/\s.heap.get? p=some { cls:=.type "list",data:=.seq its.toArray n}/\xs.length<=sizeLine:=by
 obtain⟨z,its,n,r,e⟩:=I.hok p _ h;exact⟨its,n,r,e,z⟩
theorem Inv.lstUpd{p:Addr}{xs ys:List V}{n':Nat}{f:Obj->Obj}(I:Inv X pins σ H s)(h:H p=some (.lst xs))
  (ho:s.heap.get? p=some { cls:=.type "list",data:=.seq its.toArray n}) (hf:f { cls:=.type "list",data:=.seq its.toArray n}={ cls:=.type "list",data:=.seq its'.toArray n'}) (r:Vals ys its') (hz:ys.length<=sizeLine) (t:Nat) :
  Inv X pins σ (upd H p (.lst ys)) { s with heap:=s.heap.update p f,toks:=t}:=by
 have e:(s.heap.update p f).get? p=some { cls:=.type "list",data:=.seq its'.toArray n'}:=by
  rw[Heap.get?_update_self f ho (by rw[hf] <;> rfl),hf]
 refine I.write (x:=p) (e:=p) (by rw[h];trivial) (.inl rfl) (fun b u hb q=>(Heap.get?_update_other _ _ (Ne.symm hb)).trans q) ⟨_,e⟩ ?_
 exact⟨hz,its',n',r,e⟩
def rSetL:V->V->V->Hp->(Hp->Prop)->Prop:=fun o i v H Q=>∃p xs k j,o=.ref p/\i=.int k/\H p=some (.lst xs)/\ixN xs.length k=some j/\Q (upd H p (.lst (xs.set j v)))
theorem d1h:PSet X rSetL:=by
 intro pins s σ H o i v ov iv u Q I ro ri rv h;obtain⟨p,xs,k,j,rfl,rfl,hp,hj,q⟩:=h;cases ro;obtain⟨t,rfl⟩:=ri;obtain⟨its,n,r,ho,hz⟩:=I.lst hp;obtain⟨h1,h2,h3,h4⟩:=c0d hj;have hl:=r.length;have hn:=b2u;have I':Inv X pins σ (upd H p (.lst (xs.set j v))) { s with heap:=s.heap.update p (Obj.mapSeq (·.setIfInBounds j u))}:=
  I.lstUpd hp ho (c4i its n j u) (r.set rv j) (by rw[List.length_set];exact hz) s.toks
 by_cases h0:0<=k
 ·have hk:k.toNat=j:=by
   rw[seqIndex_of h0 h4] at h1;exact Option.some.inj h1
  exact PySem.W.ki_setAt ho h0 (by omega) (by rw[List.size_toArray,<-hl];exact h4) (by rw[hk];exact⟨_,I',q⟩)
 ·have hk:(k+(its.toArray.size:Int)).toNat=j:=by
   rw[seqIndex_neg (by omega) h3] at h1
   rw[List.size_toArray,<-hl];exact Option.some.inj h1
  exact PySem.W.ki_setBack ho (by omega) (by rw[List.size_toArray,<-hl];exact h3) (by omega) (by rw[hk];exact⟨_,I',q⟩)
theorem b7x(lo hi:Option Int)(n:Nat):(sliceBounds lo hi none n).1=((HT.sIx n 0 lo:Nat):Int)/\(sliceBounds lo hi none n).2.1=((HT.sIx n n hi:Nat):Int)/\(sliceBounds lo hi none n).2.2=1:=by
 refine⟨?_,?_,rfl⟩
 ·cases lo with
  |none=>simp[sliceBounds,HT.sIx]
  |some i=>
   simp only[sliceBounds,HT.sIx,Option.getD_none,show(1:Int) > 0 by decide,if_true]
   by_cases h:i < 0
   ·simp only[h,if_true] <;> omega
   ·simp only[h,if_false] <;> omega
 ·cases hi with
  |none=>simp[sliceBounds,HT.sIx]
  |some i=>
   simp only[sliceBounds,HT.sIx,Option.getD_none,show(1:Int) > 0 by decide,if_true]
   by_cases h:i < 0
   ·simp only[h,if_true] <;> omega
   ·simp only[h,if_false] <;> omega
theorem b5r(its:List Value)(lo hi:Option Int):slicePick its.toArray lo hi none=((its.drop (HT.sIx its.length 0 lo)).take (HT.sIx its.length its.length hi - HT.sIx its.length 0 lo)).toArray:=by
 obtain⟨h1,h2,h3⟩:=b7x lo hi its.toArray.size;unfold slicePick;rw[h1,h2,h3];simp only[sliceRange_one,pick_run,List.size_toArray] <;> rfl
def rSlL(K:L2.FG):V->Option Int->Option Int->Hp->VK->Prop:=fun x lo hi H Q=>∃a xs,x=.ref a/\SqL K H a xs/\∀p,H p=none->Q (.ref p) (upd H p (.lst (cutV xs lo hi)))
theorem d5o:SlR X (rSlL X.K):=by
 intro pins s σ H x v vl vu lo hi sl Q I rx hs pl pu h;obtain⟨a,xs,rfl,hx,q⟩:=h;cases rx;obtain⟨its,r,ht,hz⟩:=I.list hx;have hlen:=r.length;refine⟨"list",_,slot_list_getitem.lookup,ht.isList.typeIs,?_⟩;refine wpAny_getItem_list_slice ht.isList hs pl pu .none (by simp) ?_ (by rw[List.size_toArray] <;> omega)
 rw[b5r,<-hlen];refine⟨.ref s.heap.objs.size,_,I.laid (t':=s.toks) (o:=.lst (cutV xs lo hi)) (fun b ob q=>Heap.get?_push_of_some _ q) (Nat.le_refl _) ?_,rfl,q _ (I.hok.fresh (Nat.le_refl _))⟩
 exact⟨Nat.le_trans (b2w xs lo hi) hz,_,0,(r.drop (HT.sIx xs.length 0 lo)).take (HT.sIx xs.length xs.length hi - HT.sIx xs.length 0 lo),Heap.get?_push_size _ rfl⟩
def flatV:V->Bool
 |.non=>true
 |.bl _=>true
 |.int _=>true
 |.str _=>true
 |_=>false
def eqV:V->V->Bool
 |.non,.non=>true
 |.bl a,.bl b=>a == b
 |.bl a,.int b=>(if a then 1 else 0) == b
 |.int a,.bl b=>a == (if b then 1 else 0)
 |.int a,.int b=>a == b
 |.str a,.str b=>a == b
 |_,_=>false
theorem b7y:CallR X (.builtin "len") (fun xs H Q=>∃p ys,xs=[.ref p]/\(SqL X.K H p ys\/SqT X.K H p ys)/\Q (.int ys.length) H):=by
 intro pins s σ H xs us Q I r h;obtain⟨p,ys,rfl,hq,q⟩:=h;obtain⟨u,rfl,rx⟩:=vals1 r;cases rx;have hn:=b2u;rcases hq with hq|hq
 ·obtain⟨its,r',pl,hz⟩:=I.list hq;have hlen:=r'.length;exact Calls.call_len_list pl.isList (by simp only[List.size_toArray] <;> omega) ⟨.int ys.length,H,I.tok _,⟨s.toks+1,by rw[List.size_toArray,hlen]⟩,q⟩
 ·obtain⟨its,r',pl,hz⟩:=I.tuple hq;have hlen:=r'.length;exact len_tuple pl (by simp only[List.size_toArray] <;> omega) ⟨.int ys.length,H,I.tok _,⟨s.toks+1,by rw[List.size_toArray,hlen]⟩,q⟩
theorem b7z:CallR X (.builtin "len") (fun xs H Q=>∃z,xs=[.str z]/\z.length<=sizeLine/\Q (.int z.length) H):=by
 intro pins s σ H xs us Q I r h;obtain⟨z,rfl,hz,q⟩:=h;obtain⟨u,rfl,t,rfl⟩:=vals1 r;have hn:=b2u;exact len_str (by omega) ⟨.int z.length,H,I.tok _,⟨_,rfl⟩,q⟩
theorem CallR.or{f:Value}{r r':List V->Hp->VK->Prop}(h:CallR X f r)(h':CallR X f r'):CallR X f (fun xs H Q=>r xs H Q\/r' xs H Q):=by
 intro pins s σ H xs us Q I rs q;rcases q with q|q
 ·exact h pins s σ H xs us Q I rs q
 ·exact h' pins s σ H xs us Q I rs q
theorem b8a:CallR X (.type "list") (fun xs H Q=>∃p ys,xs=[.ref p]/\(SqL X.K H p ys\/SqT X.K H p ys)/\∀l,H l=none->Q (.ref l) (upd H l (.lst ys))):=by
 intro pins s σ H xs us Q I r h;obtain⟨p,ys,rfl,hq,q⟩:=h;obtain⟨u,rfl,rx⟩:=vals1 r;cases rx;have fin:∀(its:List Value),Vals ys its->ys.length<=sizeLine->∀(h':Heap) (c':Nat),(∀b o',s.heap.get? b=some o'->h'.get? b=some o')->
   h'.get? s.heap.objs.size=some { cls:=.type "list",dict:=none,data:=.seq its.toArray c',slots:=#[]}->EP X pins σ Q (.ref s.heap.objs.size) { s with heap:=h'}:=fun its r' hz h' c' kp e=>
  ⟨.ref s.heap.objs.size,_,I.laid (t':=s.toks) kp (Nat.le_refl _) (show ObjOk X.prog X.w _ h' _ (.lst ys) from⟨hz,its,c',r',e⟩),rfl,q _ (I.hok.fresh (Nat.le_refl _))⟩
 rcases hq with hq|hq
 ·obtain⟨its,r',pl,hz⟩:=I.list hq;have hlen:=r'.length;obtain⟨o,ho,hc,n,hd⟩:=pl.isList;exact call_list_seq p (.inl rfl) ho hc hd (fun h' c' kp e=>fin its r' hz h' c' kp e) (by simp only[List.size_toArray] <;> omega)
 ·obtain⟨its,r',pl,hz⟩:=I.tuple hq;have hlen:=r'.length;obtain⟨o,ho,hc,n,hd⟩:=pl;exact call_list_seq p (.inr rfl) ho hc hd (fun h' c' kp e=>fin its r' hz h' c' kp e) (by simp only[List.size_toArray] <;> omega)
def tyV(K:L2.FG)(T:String)(x:V)(H:Hp):Prop:=match x with
 |.str _=>T="str"
 |.int _=>T="int"
 |.ref p=>(T="list"/\∃xs,SqL K H p xs)\/(T="tuple"/\∃o,K.lookup p=some o/\o.cls=.type "tuple"/\o.dict=none)\/
   (T="dict"/\((∃kvs,H p=some (.dK kvs))\/(∃kvs,H p=some (.dT kvs))\/∃es ep,H p=some (.dG es ep)))\/(T="set"/\∃S n,H p=some (.set S n))
 |_=>False
theorem d3s{T:String}{v:Value}(I:Inv X pins σ H s)(r:RelV x v)(ty:tyV X.K T x H):
  s.TypeIs v T/\∀a,v=.ref a->∃ob,s.heap.get? a=some ob/\ob.dict=none:=by
 cases x with
 |str z=>
  obtain⟨t,rfl⟩:=r;cases(show T="str" from ty);exact⟨typeIs_str s z t,fun _ e=>nomatch e⟩
 |int i=>
  obtain⟨t,rfl⟩:=r;cases(show T="int" from ty);exact⟨typeIs_int s i t,fun _ e=>nomatch e⟩
 |ref p=>
  cases r;rcases ty with⟨rfl,xs,hq⟩|⟨rfl,o,hk,hc,hd⟩|⟨rfl,hk⟩|⟨rfl,S,n,hk⟩
  ·obtain⟨its,_,pl,_⟩:=I.list hq;refine⟨pl.isList.typeIs,fun a e=>?_⟩
   cases e;obtain⟨o,n,e,c,hd,_⟩:=pl;exact⟨o,e,hd⟩
  ·refine⟨⟨o,I.kIn p o hk,hc⟩,fun a e=>?_⟩
   cases e;exact⟨o,I.kIn _ o hk,hd⟩
  ·have z:∃o,s.heap.get? p=some o/\o.ExactDict:=by
    rcases hk with⟨kvs,hk⟩|⟨kvs,hk⟩|⟨es,ep,hk⟩
    ·obtain⟨_,_,_,_,o,_,_,e,ex,_⟩:=I.hok p _ hk;exact⟨o,e,ex⟩
    ·obtain⟨_,_,_,_,o,_,_,e,ex,_⟩:=I.hok p _ hk;exact⟨o,e,ex⟩
    ·obtain⟨_,_,o,_,e,ex,_⟩:=I.hok p _ hk;exact⟨o,e,ex⟩
   obtain⟨o,e,ex⟩:=z;refine⟨⟨o,e,ex.1⟩,fun a e2=>?_⟩
   cases e2;exact⟨o,e,ex.2.1⟩
  ·obtain⟨o,_,_,_,e,ex,_⟩:=I.hok p _ hk;refine⟨⟨o,e,ex.1⟩,fun a e2=>?_⟩
   cases e2;exact⟨o,e,ex.2.1⟩
 |_=>exact False.elim ty
def tBM0(K:L2.FG)(T:String)(r:V->List V->Hp->VK->Prop)(to:TE):TE:=fun σ H Q=>to σ H fun x H1=>tyV K T x H1/\r x [] H1 Q
def tBM(K:L2.FG)(T:String)(r:V->List V->Hp->VK->Prop)(to:TE)(t:TA):TE:=fun σ H Q=>to σ H fun x H1=>tyV K T x H1/\t σ H1 fun xs H2=>r x xs H2 Q
variable {o e:Expr} {es:List Expr} {to:TE} {t:TA} {name:Str} {apos cpos:Pos} {T id:String} {r:V->List V->Hp->VK->Prop}
theorem d3t(pa:PlainAttrs T)(slot:Slot T name id)(hty:typeOf (.builtin id)=pure (.type "method_descriptor"))(hm:MtR X id r)(ho:PE X o to)
  (hbase:attributeBase o name X.env (eval o X.env)=eval o X.env:=by rfl) (hline:(apos.endLine == cpos.line)=true:=by rfl):PE X (.Call (.Attribute o name apos) [] [] cpos) (tBM0 X.K T r to):=by
 intro pins s σ H Q I h;refine wpAny_Call_method0_late hbase hline (thn (ho pins s σ H _ I h) fun v s1 hh=>?_)
 obtain⟨x,H1,I1,r1,ty,q1⟩:=hh;obtain⟨h1,h2⟩:=d3s I1 r1 ty;exact⟨T,id,pa,slot,hty,h1,h2,Calls.callWith_builtin rfl (PySem.evalArgs_none (hm pins s1 σ H1 x [] v [] Q I1 r1 .nil q1))⟩
theorem d9m(pa:PlainAttrs T)(slot:Slot T name id)(hty:typeOf (.builtin id)=pure (.type "method_descriptor"))(hm:MtR X id r)(ho:PE X o to)(ha:PA X (e::es) t)
  (hbase:attributeBase o name X.env (eval o X.env)=eval o X.env:=by rfl)
  (hfew:((backTo cpos (starEach (e::es) X.env)).all (fun x => !x.1) && (backToKw cpos (keywordEach [] X.env)).all (fun x=>x.1.isSome)
   && decide ((e::es).length+([]:List Keyword).length+(if([]:List Keyword).isEmpty then 0 else 1) < 30))=true:=by rfl)
  (hline:(apos.endLine == cpos.line)=true:=by rfl) (hs:starEach (e::es) X.env=(false,eval e X.env)::starEach es X.env:=by rfl) (hplain:(backTo cpos (starEach es X.env)).any (·.1)=false:=by rfl) :
  PE X (.Call (.Attribute o name apos) (e::es) [] cpos) (tBM X.K T r to t):=by
 intro pins s σ H Q I h;refine wpAny_Call_method_late hbase hfew hline rfl (thn (ho pins s σ H _ I h) fun v s1 hh=>?_)
 obtain⟨x,H1,I1,r1,ty,q1⟩:=hh;obtain⟨h1,h2⟩:=d3s I1 r1 ty;refine⟨T,id,pa,slot,hty,h1,h2,?_⟩;have hA:=ha cpos pins s1 σ H1 _ I1 q1;rw[hs] at hA ⊢;refine Calls.callWith_builtin (by show(false || (backTo cpos (starEach es X.env)).any (·.1))=false;rw[hplain] <;> rfl) (Calls.evalArgs_plain ?_)
 exact thn hA fun us s2 ⟨vs,H2,I2,r2,q2⟩=>hm pins s2 σ H2 x vs v us Q I2 r1 r2 q2
end
def MtM(X:Cx)(id:String)(r:V->List V->Hp->VK->Prop):Prop:=
 ∀(pins:List (Addr×Obj)) (s:Shared) (σ:St) (H:Hp) (x:V) (xs:List V) (v:Value) (us:List Value) (Q:VK),Inv X pins σ H s->RelV x v->Vals xs us->r x xs H Q->
  wpAny (model X.prog X.w) X.A (call (.builtin id) (v::us)) (EP X pins σ Q) X.xe s
theorem Vals.one(h:Vals [x] us):∃u,us=[u]/\RelV x u:=by
 cases h with
 |cons r t=>
  cases t;exact⟨_,rfl,r⟩
theorem Vals.two{y:V}(h:Vals [x,y] us):∃u v,us=[u,v]/\RelV x u/\RelV y v:=by
 cases h with
 |cons r t=>
  obtain⟨v,rfl,q⟩:=Vals.one t;exact⟨_,_,rfl,r,q⟩
theorem Vals.zero:∀{us:List Value},Vals [] us->us=[]
 |_,.nil=>rfl
section
variable {X:Cx} {pins:List (Addr×Obj)} {σ:St} {H:Hp} {s:Shared} {l b:Addr} {xs ys zs:List V}
theorem Inv.lset{f:Array Value->Array Value}(I:Inv X pins σ H s)(hH:H l=some (.lst xs))
  (e:s.heap.get? l=some { cls:=.type "list",data:=.seq its.toArray n}) (hf:f its.toArray=its'.toArray) (hv:Vals ys its') (hz:ys.length<=sizeLine) :
  Inv X pins σ (upd H l (.lst ys)) { s with heap:=s.heap.update l (Obj.mapSeq f),toks:=t'}:=by
 have q:=PySem.IsL.update e f;rw[hf] at q;refine I.write (x:=l) (e:=l) (by rw[hH];exact trivial) (.inl rfl) (fun b' u hb hu=>(Heap.get?_update_other s.heap (Obj.mapSeq f) (Ne.symm hb)).trans hu) ⟨_,q⟩ ?_
 exact⟨hz,its',_,hv,q⟩
theorem Inv.lnew(I:Inv X pins σ H s)(hv:Vals ys its)(hz:ys.length<=sizeLine):
  Inv X pins σ (upd H s.heap.objs.size (.lst ys)) { s with heap:=s.heap.push { cls:=.type "list",data:=.seq its.toArray},toks:=t'}:=
 I.laid (fun _ _ q=>Heap.get?_push_of_some _ q) (Nat.le_refl _) ⟨hz,its,0,hv,Heap.get?_push_size _ rfl⟩
theorem Inv.fresh(I:Inv X pins σ H s):H s.heap.objs.size=none:=I.hok.fresh (Nat.le_refl _)
theorem Inv.lstM(I:Inv X pins σ H s)(hH:H l=some (.lst xs)):xs.length<=sizeLine/\∃(its:List Value) (n:Nat),Vals xs its/\xs.length=its.length/\s.heap.get? l=some { cls:=.type "list",data:=.seq its.toArray n}:=by
 obtain⟨z,its,n,r,e⟩:=I.hok l _ hH;exact⟨z,its,n,r,r.length,e⟩
end
section
variable {X:Cx}
def c5z:V->List V->Hp->VK->Prop:=fun x vs H Q=>∃l xs y,x=.ref l/\vs=[y]/\H l=some (.lst xs)/\xs.length < sizeLine/\Q .non (upd H l (.lst (xs++[y])))
theorem a3t:MtM X "list.append" c5z:=by
 intro pins s σ H x vs v us Q I rx rv h;obtain⟨l,xs,y,rfl,rfl,hH,hz,q⟩:=h;cases rx;obtain⟨u,rfl,ru⟩:=rv.one;obtain⟨z,its,n,r,hl,e⟩:=I.lstM hH;refine call_meets F.slot_list_append ⟨_,e,rfl⟩ F.entry_list_append (F.args_list_append_2 _ _) (PySem.list_append l its.toArray n u (by rw[List.size_toArray];omega)) ⟨e,?_⟩
 refine⟨.non,_,I.lset (its':=its++[u]) hH e (by simp) (r.append (.cons ru .nil)) ?_,rfl,q⟩
 rw[List.length_append,List.length_singleton];omega
def d3u:V->List V->Hp->VK->Prop:=fun x vs H Q=>∃l xs,x=.ref l/\vs=[]/\H l=some (.lst xs)/\Q .non (upd H l (.lst []))
theorem b5s:MtM X "list.clear" d3u:=by
 intro pins s σ H x vs v us Q I rx rv h;obtain⟨l,xs,rfl,rfl,hH,q⟩:=h;cases rx;have hus:=rv.zero;subst hus;obtain⟨z,its,n,r,hl,e⟩:=I.lstM hH;refine call_meets F.slot_list_clear ⟨_,e,rfl⟩ F.entry_list_clear (F.args_list_clear_1 _) (AutoSeq1.list_clear_list_0 l its.toArray n (by rw[List.size_toArray];omega)) ⟨e,?_⟩
 exact⟨.non,_,I.lset (its':=[]) (ys:=[]) hH e rfl .nil (Nat.zero_le _),rfl,q⟩
end
section
variable {prog:Program} {w:World} {A:Around} {E:Value->Shared->Prop} {s:Shared}
end
section
variable {X:Cx}
end
section
variable {κ:Type} [DecidableEq κ]
theorem RelO.isSome_eq{o:Option V}{u:Option Value}(r:RelO o u):o.isSome=u.isSome:=by
 cases o with
 |none=>cases u with
  |none=>rfl
  |some _=>exact(show False from r).elim
 |some _=>cases u with
  |none=>exact(show False from r).elim
  |some _=>rfl
end
section
variable {P:Program} {w:World} {H:Hp} {h:Heap} {a:Addr}
end
section
variable {X:Cx} {pins:List (Addr×Obj)} {σ:St} {H:Hp} {s:Shared} {a:Addr} {y v:V} {u r:Value} {o:Option V} {A:Around} {E:Value->Shared->Prop}
theorem Inv.big(I:Inv X pins σ H s):sysModules < s.heap.objs.size:=by
 have h:mainGlobals < s.heap.objs.size:=(I.mod.glob.keeps I.bk).lt;exact Nat.lt_trans (by decide) h
theorem c6a{h':Heap}{ob:HO}(I:Inv X pins σ H s)(mu:Mut (H a))(hs:Heap.SameBut a s.heap h')(he:∃q,h'.get? a=some q)(new:ObjOk X.prog X.w (upd H a ob) h' a ob):
  Inv X pins σ (upd H a ob) { s with heap:=h',toks:=t'}:=
 I.write (x:=a) (e:=a) mu (.inl rfl) (fun b q hb z=>(hs.2 b hb).trans z) he new
end
section
variable {X:Cx} {pins:List (Addr×Obj)} {σ:St} {H:Hp} {s:Shared} {a:Addr} {kvs:List (Key×V)} {k:Key} {u:Value} {A:Around} {E:Value->Shared->Prop}
end
section
variable {X:Cx} {o i e value:Expr} {pos pos' tpos:Pos} {td ty tv:TE}
end
section
variable {X:Cx} {pos:Pos}
end
structure M1 (X:Cx) (o:Expr) (m:Str) (apos:Pos) (e:Expr) (cpos:Pos):Prop where
 base:attributeBase o m X.env (eval o X.env)=eval o X.env
 few:((backTo cpos (starEach [e] X.env)).all (fun x => !x.1) && (backToKw cpos (keywordEach [] X.env)).all (fun x=>x.1.isSome)
  && decide (([e]:List Expr).length+([]:List Keyword).length+(if([]:List Keyword).isEmpty then 0 else 1) < 30))=true
 line:(apos.endLine == cpos.line)=true
 trees:backTo cpos (starEach [e] X.env)=[(false,eval e X.env)]
structure M2 (X:Cx) (o:Expr) (m:Str) (apos:Pos) (e f:Expr) (cpos:Pos):Prop where
 base:attributeBase o m X.env (eval o X.env)=eval o X.env
 few:((backTo cpos (starEach [e,f] X.env)).all (fun x => !x.1) && (backToKw cpos (keywordEach [] X.env)).all (fun x=>x.1.isSome)
  && decide (([e,f]:List Expr).length+([]:List Keyword).length+(if([]:List Keyword).isEmpty then 0 else 1) < 30))=true
 line:(apos.endLine == cpos.line)=true
 trees:backTo cpos (starEach [e,f] X.env)=[(false,eval e X.env),(false,eval f X.env)]
section
variable {X:Cx} {pins:List (Addr×Obj)} {σ:St} {H:Hp} {s:Shared} {a:Addr} {y d:V} {u r:Value} {o:Option V} {A:Around} {E:Value->Shared->Prop}
end
section
variable {X:Cx} {o e f:Expr} {apos cpos:Pos} {td ty tx:TE}
end
section
variable {X:Cx} {pins:List (Addr×Obj)} {σ:St} {H:Hp} {s:Shared} {a:Addr} {kvs:List (Key×V)} {A:Around} {E:Value->Shared->Prop}
end
section
variable {X:Cx} {pins:List (Addr×Obj)} {σ:St} {H:Hp} {s:Shared} {a:Addr} {y:V} {u:Value} {A:Around} {E:Value->Shared->Prop}
end
end L2
namespace Att
open PySem PySem.W PySem.Calls PyProof.Rows
variable{P:Params}{h:Heap}{l:OpenLaw}{n:Nat}
theorem b2x:∀(ns:List Int) (vs:List Value),WellAll P h vs (ns.map WData.int)->IntsAre vs ns:=by
 intro ns
 induction ns with
 |nil=>
  intro vs w;rw[List.map_nil] at w;cases w;exact .nil
 |cons n ns ih=>
  intro vs w;rw[List.map_cons] at w;cases w with
  |cons a b=>
   cases a;exact .cons _ _ (ih _ b)
theorem c6b(hn:l.most=some n){args:List WData}{vals:List Value}
  (hpre:l.row.toRowW.claim.pre args=true) (hwl:WellAll P h vals args) :
  ∃a vs ns,vals=[Value.ref a]/\args=[WData.list (ns.map WData.int)]/\h.get? a=some { cls:=.type "list",data:=.seq vs.toArray}/\IntsAre vs ns/\ns.length<=n:=by
 have hsh:WShape.hasAll [] args [.list .int]=true:=(pre_splitW hpre).1;have hc:l.pre.holds [] { args:=args}=true:=(pre_splitW hpre).2;obtain⟨d,r,rfl,h1,h2⟩:=hasAllW_cons hsh;obtain rfl:=hasAllW_nil h2;obtain⟨xs,rfl,h3⟩:=hasW_list h1;obtain⟨ns,rfl⟩:=items_int h3;have hlen:ns.length<=n:=by
  unfold OpenLaw.pre at hc;have h4:(WTm.not (.lt (.lit (.int (n:Int))) (.len (.arg 0)))).holds [] { args:=[.list (ns.map .int)]}=true:=by
   have h4:=(holds_andW hc).1;rw[hn] at h4;exact h4
  have h5:=condW_of h4 (w_not (w_lt w_lit (w_len_list (w_arg rfl))));rw[List.length_map] at h5;refine Nat.le_of_not_lt fun q=>?_
  have q':(n:Int) < ((ns.length:Nat):Int):=by omega
  first
   |(rw[decide_eq_true q'] at h5;exact absurd h5 (by decide))
   |(simp at h5;omega)
 cases hwl with
 |cons w1 w2=>
  cases w2;cases w1 with
  |list ho hall=>exact⟨_,_,ns,rfl,rfl,ho,b2x ns _ hall,hlen⟩
theorem c6c(l:OpenLaw)(args:List WData):l.row.toRowW.claim.post args (.bool true) args=true:=
 postW_of (r:=l.row.toRowW) (X:=(true == true))
  (show WShape.has [] (.bool true) .bool=true by first|rfl|decide|simp[WShape.has,WShape.arms,WShape.armsAll])
  (show(WTm.eq .res (.lit (.bool true))).value [] { args:=args,res:=some (.bool true),after:=args}=some (.bool (true == true)) from w_eq_bool (w_res rfl) w_lit) rfl
theorem attach_call{q:Program}{loose:List Str}{XP:(Str->Option Value)->Heap->Prop}{YP:World->Heap->Prop}{d:DefRec}
  (hn:l.most=some n) (hdf:d.params.defaults=[])
  (call:∀(w:World) (s₀ s₁:Shared) (mg mb:Str->Option Value) (fa:Addr) (o:Obj) (pm cd doc:Value) (a:Addr) (vs:List Value) (ns:List Int),
   Ground q loose [] XP w s₀ mg mb s₁.heap->YP w s₁.heap->
   s₁.heap.get? fa=some o->o.data=.func (docDef d.name d.params d.body d.scope pm cd doc)->s₁.heap.CodeRec cd d.name->mg d.name=some (.ref fa)->
   s₁.heap.get? a=some { cls:=.type "list",data:=.seq vs.toArray}->IntsAre vs ns->ns.length<=n->s₁.gens=#[]->
   codeAny (model l.prog w) callerA (.call (.ref fa) ⟨[.ref a],[]⟩) (fun r s'=>r=.ok (.ret (.bool true))/\OldK s₁.heap s'.heap/\s'.os=s₁.os/\AllBare s'.gens) s₁) :
  WalkO q loose XP YP l.row.toRowW d [] (fun f vs=>PySem.call f vs):=by
 intro w s₀ s₁ mg mb G Y fa o pm cd doc dV kV ho hd hcd hD hmg hg args vals as hpre hlay hrd hwl hlo;obtain rfl:dV=.none:=Dflts.none hD hdf;obtain rfl:kV=.none:=Dflts.noKw hD;obtain⟨a,vs,ns,rfl,rfl,hobj,hints,hlen⟩:=c6b hn hpre hwl;refine enter_call (codeAny_mono (call w s₀ s₁ mg mb fa o pm cd doc a vs ns G Y ho (fd_plain hd) hcd hmg hobj hints hlen hg) fun r s' hq=>?_)
 obtain⟨rfl,h2,h3,h4⟩:=hq;exact⟨.inl ⟨.bool true,.bool true,[],rfl,fun _=>rfl,.bool true,c6c l _,fun _=>⟨List.Pairwise.nil,fun _ hm=>(nomatch hm)⟩⟩,h2,h3,h4⟩
section
variable {prog:Program} {w:World} {A:Around} {E:Value->Shared->Prop} {s:Shared} {K:Frag}
end
end Att
namespace L2
open PySem PySem.Spec PyProof.Rows
variable{K:L2.FG}{k:Nat}{a f:Addr}{fd:FuncData}{x qual:Str}{sp:Sp}{st:Stmt}{ps:List Str}{H H':Hp}
theorem b8b:∀{vs:List Value} {ns:List Int},IntsAre vs ns->Vals (ns.map V.int) vs
 |_,_,.nil=>.nil
 |_,_,.cons n t h=>.cons ⟨t,rfl⟩ (b8b h)
def Only(H:Hp):Prop:=∀b,H b=none\/∃o xs,H b=some (.frz o (.lst xs))
theorem d1i{P:Program}{w:World}{mg mb:Str->Option Value}{CX:CXT}{fa:Addr}{s₁:Shared}{vs:List Value}{ns:List Int}
  (KX:K.In s₁.heap) (hns:s₁.heap.Ns mainGlobals mg) (hb:s₁.heap.Ns builtinsNs mb) (hbb:∀x:Str,x≠"__name__"->mb x=bootBuiltins x) (hlim:s₁.heap.NoLimit) (hg:s₁.gens=#[])
  (ha:s₁.heap.get? a=some { cls:=.type "list",data:=.seq vs.toArray}) (hi:IntsAre vs ns) (hl:ns.length<=sizeLine) (hr:Room k callerA)
  (F:∀base:Heap,K.In base->base.Ns mainGlobals mg->FnOk P w K mg base CX k fa fd [x] sp) (hbind:∀(s:Shared) (u:Value),BindsTo s fd ⟨[u],[]⟩ [(x,u)])
  (hsp:∀H:Hp,Only H->SqL K H a (ns.map V.int)->sp [.ref a] H (fun v _=>v=.bl true) fun _ _ _=>False)
  (hCX:∀H e s',CX [] H s₁ (fun _ _ _=>False) e s'->False) :
  codeAny (model P w) callerA (.call (.ref fa) ⟨[.ref a],[]⟩) (fun r s'=>r=.ok (.ret (.bool true))/\OldK s₁.heap s'.heap/\s'.os=s₁.os/\AllBare s'.gens) s₁:=by
 have rv:=b8b hi;have lenV:=hi.length;have core:∀H:Hp,Only H->SqL K H a (ns.map V.int)->HOk P w H s₁.heap->(∀b,H b≠none->b=a)->(H a≠none->K.lookup a=none)->
   codeAny (model P w) callerA (.call (.ref fa) ⟨[.ref a],[]⟩) (fun r s'=>r=.ok (.ret (.bool true))/\OldK s₁.heap s'.heap/\s'.os=s₁.os/\AllBare s'.gens) s₁:=by
  intro H hO hS hok hA hK;have base_of:∀{b:Addr} {o:Obj},s₁.heap.get? b=some o->H b=none->(hidT s₁.heap H).get? b=some o:=fun e n=>d0y e n
  have noA:∀{b:Addr} {o:Obj} {es:Array DictEntry} {ep:Nat},s₁.heap.get? b=some o->o.data=.dict es ep->H b=none:=fun{b o es ep} e d=>by
   cases q:H b with
   |none=>rfl
   |some u=>
    have e':b=a:=hA b (by rw[q];simp)
    subst e';rw[ha] at e;cases e;have d':Data.seq vs.toArray _=Data.dict es ep:=d;cases d'
  have nsK:∀{b:Addr} {m:Str->Option Value},s₁.heap.Ns b m->(hidT s₁.heap H).Ns b m:=fun{b m} ⟨o,es,ep,e,d,r⟩=>⟨o,es,ep,base_of e (noA e d),d,r⟩
  have hKb:K.In (hidT s₁.heap H):=fun b o e=>base_of (KX b o e) (by
   cases q:H b with
   |none=>rfl
   |some u=>
    have e':b=a:=hA b (by rw[q];simp)
    subst e';rw[hK (by rw[q];simp)] at e;cases e)
  have hM:Mod K mg (hidT s₁.heap H):=⟨hKb,nsK hns,⟨mb,nsK hb,hbb⟩,let ⟨mc,h1,h2⟩:=hlim;⟨mc,nsK h1,h2⟩⟩
  have e0:Env0 P w K mg (hidT s₁.heap H) callerA [] s₁ H:=⟨rfl,hM,fun b o e=>d5c e,Nat.le_of_eq (c5j _ _),trivial,fun b hb=>absurd (show b∈([]:List Addr) from hb) (by simp),hok,.of_eq hg⟩
  refine codeAny_mono ((F _ hKb (nsK hns)).run callerA [] s₁ H ⟨[.ref a],[]⟩ [.ref a] [.ref a] _ _ hr e0 (hbind s₁ (.ref a)) (.cons rfl .nil) (hsp H hO hS)) fun r s' h=>?_
  cases r with
  |error e=>exact(hCX H e s' h).elim
  |ok fl=>
   cases fl with
   |next=>exact False.elim h
   |brk=>exact False.elim h
   |cont=>exact False.elim h
   |ret u=>
    obtain⟨v,H',os,bare,un,hok',r',q⟩:=h;have q':v=.bl true:=q;subst q';obtain rfl:u=Value.bool true:=r';refine⟨rfl,OldK.of_keep fun b o e=>?_,os,bare⟩
    cases q:H b with
    |none=>exact un.keep b o e q (by intro z;exact absurd (show b∈([]:List Addr) from z) (by simp)) (by simp)
    |some u=>
     rcases hO b with z|⟨ob,xs,z⟩
     ·rw[q] at z;cases z
     ·have z2:=un.frzs b ob _ z;obtain⟨e1,_⟩:=hok b _ z;obtain⟨e2,_⟩:=hok' b _ z2;rw[e] at e1;cases e1;exact e2
 cases hk:K.lookup a with
 |some o=>
  have e:=KX a o hk;rw[ha] at e;cases e;refine core (fun _=>none) (fun _=>.inl rfl) (.inr ⟨_,vs.toArray,_,hk,rfl,rfl,rfl,by rw[List.size_toArray,lenV];exact hl,by simpa using rv⟩) (fun b u z=>by have z':(none:Option HO)=some u:=z;cases z') (fun b z=>absurd rfl z) fun z=>absurd rfl z
 |none=>
  refine core (fun b=>if b=a then some (.frz { cls:=.type "list",data:=.seq vs.toArray} (.lst (ns.map V.int))) else none) (fun b=>?_) (.inl (.inr ⟨{ cls:=.type "list",data:=.seq vs.toArray},if_pos rfl⟩)) (fun b u z=>?_) (fun b z=>?_) fun _=>hk
  ·by_cases hb:b=a
   ·exact .inr ⟨_,_,if_pos hb⟩
   ·exact .inl (if_neg hb)
  ·by_cases hb:b=a
   ·have z':=(if_pos hb).symm.trans z;cases z';subst hb;exact⟨ha,by rw[List.length_map];exact hl,vs,_,rv,ha⟩
   ·have z':=(if_neg hb).symm.trans z;cases z'
  ·by_cases hb:b=a
   ·exact hb
   ·exact absurd (if_neg hb) z
theorem walk_of{l:PySem.W.OpenLaw}{n:Nat}{q:Program}{loose:List Str}{XP:(Str->Option Value)->Heap->Prop}{YP:World->Heap->Prop}{d:DefRec}{K:Params->L2.FG}{CX:World->CXT}{sp:World->Sp}
  (hn:l.most=some n) (hn2:n<=sizeLine) (hdf:d.params.defaults=[]) (hr:Room k callerA)
  (hY:∀(w:World) (h:Heap),YP w h->(K w.params).In h)
  (F:∀(w:World) (mg:Str->Option Value) (fa:Addr) (h:Heap),(K w.params).In h->h.Ns mainGlobals mg->mg d.name=some (.ref fa)->
   ∃fd:FuncData,(∀(s:Shared) (u:Value),BindsTo s fd ⟨[u],[]⟩ [(x,u)])/\
    ∀base:Heap,(K w.params).In base->base.Ns mainGlobals mg->FnOk l.prog w (K w.params) mg base (CX w) k fa fd [x] (sp w))
  (hsp:∀(w:World) (H:Hp) (a:Addr) (ns:List Int),ns.length<=n->Only H->SqL (K w.params) H a (ns.map V.int)->sp w [.ref a] H (fun v _=>v=.bl true) fun _ _ _=>False)
  (hCX:∀(w:World) (H:Hp) (s:Shared) (e:Value) (s':Shared),CX w [] H s (fun _ _ _=>False) e s'->False) :
  PySem.W.WalkO q loose XP YP l.row.toRowW d [] (fun f vs=>PySem.call f vs):=by
 refine Att.attach_call hn hdf fun w s₀ s₁ mg mb fa o pm cd doc a vs ns G Y ho hd hcd hmg hobj hints hlen hg=>?_
 have KX:=hY w _ Y;obtain⟨fd,hb,hF⟩:=F w mg fa _ KX G.T.g hmg;exact d1i KX G.T.g G.T.b G.T.builtins G.T.nolimit hg hobj hints (Nat.le_trans hlen hn2) hr hF hb (fun H hO hS=>hsp w H a ns hlen hO hS) fun H e s'=>hCX w H s₁ e s'
def b5t(s:Stmt):Arguments:=match s with
 |.FunctionDef _ a _ _ _ _ _ _ _ _=>a
 |_=>{ posonlyargs:=[],args:=[],vararg:=none,kwonlyargs:=[],kw_defaults:=[],kwarg:=none,defaults:=[]}
def a6z(s:Stmt):List Stmt:=match s with
 |.FunctionDef _ _ b _ _ _ _ _ _ _=>b
 |_=>[]
def a0q(s:Stmt):Scope:=match s with
 |.FunctionDef _ _ _ _ _ _ sc _ _ _=>sc
 |_=>{ kind:=.function,names:=[],isGenerator:=false,isCoroutine:=false}
abbrev CX0:CXT:=fun _ _ _ _ _ _=>False
abbrev E0:XK:=fun _ _ _=>False
abbrev E1:St->XK:=fun _=>E0
theorem pass0{X:Cx}:c1s CX0 X E1:=fun _ _ _ _ _ _ _ h=>h.elim
structure Fun (K:L2.FG) (x qual:Str) (st:Stmt) (f:Addr) (fd:FuncData):Prop where
 ex:∃(oc:Value) (od:Option Addr) (kV doc pm:Value) (an:Option Addr) (cdv ct:Value) (osl:Array (Option Value)),
  fd=PySem.W.fnOf x qual (b5t st) (a6z st) (a0q st) .none kV doc pm an cdv ct/\K.lookup f=some ⟨oc,od,.func fd,osl⟩/\PySem.W.codeIn K cdv qual=true
 kp:PySem.W.keepIn K (.ref f)=true
section
variable {P:Program} {w:World} {K:L2.FG} {mg:Str->Option Value} {base:Heap}
theorem Fun.ok{N:List Str}(F:Fun K x qual st f fd)(S:FnScope N ps (a0q st))(len:∀vs H Q E,sp vs H Q E->vs.length=ps.length)
  (hbody:∀(cdv:Value) (A:Around) (outer:List Env) (s:Shared) (H:Hp) (vs:List V) (Q:VK) (E:XK),Room k (A.deeper (envOfC qual (a0q st) s.heap.objs.size f cdv))->sp vs H Q E->
   ∃t,PSs (cxOf CX0 P w K mg base N qual (a0q st) f cdv A outer s H E).nox (a6z st) t/\t { nx:=fun _ H'=>Q .non H',rt:=Q} (start N vs) H):FnOk P w K mg base CX0 (k+1) f fd ps sp:=by
 obtain⟨oc,od,kV,doc,pm,an,cdv,ct,osl,rfl,lk,hcd⟩:=F.ex;refine d9i lk hcd S len fun A outer s H vs Q E hr hsp=>?_
 obtain⟨t,h,q⟩:=hbody cdv A outer s H vs Q E hr hsp;exact⟨t,h.nox,q⟩
theorem Fun.binds(F:Fun K x qual st f fd)
  (h:∀(kV doc pm:Value) (an:Option Addr) (cdv ct:Value) (us:List Value),us.length=ps.length->bindArgs (PySem.W.fnOf x qual (b5t st) (a6z st) (a0q st) .none kV doc pm an cdv ct) ⟨us,[]⟩=pure (ps.zip us)):Binds K fd ps []:=by
 obtain⟨oc,od,kV,doc,pm,an,cdv,ct,osl,rfl,lk,hcd⟩:=F.ex;exact .all (h kV doc pm an cdv ct)
theorem fun_mk{oc:Value}{od an:Option Addr}{osl:Array (Option Value)}{kV doc pm cdv ct:Value}(l:K.lookup f=some ⟨oc,od,.func (PySem.W.fnOf x qual (b5t st) (a6z st) (a0q st) .none kV doc pm an cdv ct),osl⟩)
  (c:PySem.W.codeIn K cdv qual=true) (k:PySem.W.keepIn K (.ref f)=true):Fun K x qual st f (PySem.W.fnOf x qual (b5t st) (a6z st) (a0q st) .none kV doc pm an cdv ct):=⟨⟨oc,od,kV,doc,pm,an,cdv,ct,osl,rfl,l,c⟩,k⟩
end
theorem hu_of{A:Around}(hr:Room k A):A.units+1 < cLine:=Nat.lt_of_le_of_lt (Nat.add_le_add_left (by decide:1<=64) _) hr.units
section
variable {X:Cx}
theorem pv(i:Nat){pos:Pos}(hN:X.N[i]?=some x:=by rfl)(hv:Vis X.env.scope x:=by first|exact Or.inl rfl|exact Or.inr (Or.inl rfl)|exact Or.inr (Or.inr rfl))(hd:(x == ("__debug__":Str))=false:=by decide)
  (hcd:(x == ("__classdict__":Str))=false:=by decide):PE X (.Name x pos) (tVar i):=d8t hN hv hd hcd
end
theorem iteF{A B:Prop}(h:B):if false=true then A else B:=by
 rw[if_neg Bool.false_ne_true];exact h
theorem iteT{A B:Prop}(h:A):if true=true then A else B:=by
 rw[if_pos rfl];exact h
def Same(H H':Hp):Prop:=∀b o,H b=some o->H' b=some o
theorem Same.refl(H:Hp):Same H H:=fun _ _ h=>h
theorem Same.trans{H1 H2:Hp}(a:Same H H1)(b:Same H1 H2):Same H H2:=fun c o h=>b c o (a c o h)
theorem Same.free(e:Same H H'){l:Addr}(h:H' l=Option.none):H l=Option.none:=by
 cases q:H l with
 |none=>rfl
 |some o=>
  rw[e l o q] at h;cases h
theorem Same.seq{xs:List V}(e:Same H H')(h:SqL K H a xs):SqL K H' a xs:=by
 rcases h with(h|⟨o,h⟩)|h
 ·exact .inl (.inl (e _ _ h))
 ·exact .inl (.inr ⟨o,e _ _ h⟩)
 ·exact .inr h
section
variable {κ:Type} [DecidableEq κ]
end
end L2
set_option maxHeartbeats 4000000
namespace L2
open PySem PySem.Spec PyProof.Rows
variable{env:Env}{names:List (Str×NameKind)}{x:Str}{c a:Addr}{scope:Scope}{X:Cx}{prog P:Program}{w:World}{A:Around}{s:Shared}{pos:Pos}{σ τ:St}{H:Hp}{fp:List Addr}{Fin:List V->Hp->Prop}{wi:TI}{K:L2.FG}{tg l:Expr}{tl te:TE}{g:TG}{tt:TT}{n k:Nat}
def clOf(env:Env)(names:List (Str×NameKind)):List (Str×Addr):=((names.filter fun y=>y.2 == .free).reverse).map fun y=>(y.1,(env.cells.lookup y.1).getD 0)
theorem b2y{g:Str->Addr}{x:Str}:∀{l:List (Str×NameKind)},(∃k,(x,k)∈l)->(l.map fun y=>(y.1,g y.1)).lookup x=some (g x)
 |[],h=>by obtain⟨k,h⟩:=h;cases h
 |(n,k)::r,h=>by
  show List.lookup x ((n,g n)::_)=_;cases hx:x == n with
  |true=>
   have e:x=n:=by simpa using hx
   subst e;simp[List.lookup_cons]
  |false=>
   simp only[List.lookup_cons,hx];refine b2y (l:=r) ?_;obtain⟨k',h⟩:=h;rcases List.mem_cons.mp h with e|e
   ·cases e;simp at hx
   ·exact⟨k',e⟩
theorem a8v{g:Str->Addr}{x:Str}{c:Addr}:∀{l:List (Str×NameKind)},(l.map fun y=>(y.1,g y.1)).lookup x=some c->c=g x/\∃k,(x,k)∈l
 |[],h=>by cases h
 |(n,k)::r,h=>by
  have h:List.lookup x ((n,g n)::(r.map fun y=>(y.1,g y.1)))=some c:=h
  cases hx:x == n with
  |true=>
   have e:x=n:=by simpa using hx
   subst e;simp only[List.lookup_cons,hx] at h;exact⟨(Option.some.inj h).symm,k,List.mem_cons_self⟩
  |false=>
   simp only[List.lookup_cons,hx] at h;obtain⟨e,k',hk⟩:=a8v h;exact⟨e,k',List.mem_cons_of_mem _ hk⟩
theorem c1v(h:(x,NameKind.free)∈names)(hc:env.cells.lookup x=some c):(clOf env names).lookup x=some c:=by
 have:=b2y (g:=fun n=>(env.cells.lookup n).getD 0) (x:=x) (l:=(names.filter fun y=>y.2 == .free).reverse) ⟨.free,by simp[h]⟩
 unfold clOf;rw[this,hc];rfl
theorem c0f(hf:∀y∈names,y.2=.free->∃c,env.cells.lookup y.1=some c)(h:(clOf env names).lookup x=some c):env.cells.lookup x=some c:=by
 obtain⟨e,k,hk⟩:=a8v (g:=fun n=>(env.cells.lookup n).getD 0) h
 have hk':=List.mem_filter.mp (List.mem_reverse.mp hk);obtain⟨c',hc'⟩:=hf _ hk'.1 (by simpa using hk'.2)
 have hc'':env.cells.lookup x=some c':=hc';rw[e,hc''];rfl
theorem b1f{env:Env}:∀(names:List (Str×NameKind)) (cs:List (Str×Addr)),(∀y∈names,y.2=.free->∃c,env.cells.lookup y.1=some c)->
  (forIn names cs (fun(x:Str×NameKind) (r:List (Str×Addr))=>if(x.2 == NameKind.free)=true then(do let a <-cellOf env x.1;pure (ForInStep.yield ((x.1,a)::r))) else(pure (ForInStep.yield r):Sem (ForInStep (List (Str×Addr)))))) =
   pure (clOf env names++cs)
 |[],cs,_=>by rw[List.forIn_nil];rfl
 |(n,k)::r,cs,h=>by
  rw[List.forIn_cons];cases hk:k == NameKind.free with
  |true=>
   obtain⟨c,hc⟩:=h (n,k) List.mem_cons_self (by simpa using hk)
   have hc':env.cells.lookup n=some c:=hc;have e:cellOf env n=pure c:=by unfold cellOf;rw[hc']
   simp only[hk,if_true,e,pure_bind];rw[b1f r _ fun y hy=>h y (List.mem_cons_of_mem _ hy)]
   congr 1
   unfold clOf;rw[List.filter_cons];simp[hk,hc']
  |false=>
   simp only[hk,Bool.false_eq_true,if_false,pure_bind];rw[b1f r _ fun y hy=>h y (List.mem_cons_of_mem _ hy)]
   congr 1
   unfold clOf;rw[List.filter_cons];simp[hk]
theorem a7t(h:∀y∈scope.names,y.2=.free->∃c,env.cells.lookup y.1=some c):closureFor scope env=pure (clOf env scope.names):=by
 have:=b1f (env:=env) scope.names [] h;rw[List.append_nil] at this;unfold closureFor;show(forIn scope.names [] _ >>= fun r=>pure r)=_
 rw[bind_pure];exact this
theorem b1u{env:Env}:∀{names:List (Str×NameKind)} {x:Str},names.lookup x=some .free->
  (names.map fun(n,k)=>if(k == NameKind.free && env.scope.kind == .function && env.kindOf n == some .cell) then(n,NameKind.cell) else(n,k)).lookup x=some .cell\/
  (names.map fun(n,k)=>if(k == NameKind.free && env.scope.kind == .function && env.kindOf n == some .cell) then(n,NameKind.cell) else(n,k)).lookup x=some .free
 |[],_,h=>by simp at h
 |(n,k)::r,x,h=>by
  have ih:=@b1u env r x;show List.lookup x ((if(k == NameKind.free && env.scope.kind == .function && env.kindOf n == some .cell)=true then(n,NameKind.cell) else(n,k))::_)=_\/List.lookup x ((if(k == NameKind.free && env.scope.kind == .function && env.kindOf n == some .cell)=true then(n,NameKind.cell) else(n,k))::_)=_
  cases hx:x == n with
  |true=>
   simp only[List.lookup_cons,hx] at h;cases h;by_cases hc:(NameKind.free == NameKind.free && env.scope.kind == .function && env.kindOf n == some .cell)=true
   ·rw[if_pos hc];simp[List.lookup_cons,hx]
   ·rw[if_neg hc];simp[List.lookup_cons,hx]
  |false=>
   simp only[List.lookup_cons,hx] at h;by_cases hc:(k == NameKind.free && env.scope.kind == .function && env.kindOf n == some .cell)=true
   ·rw[if_pos hc];simp only[List.lookup_cons,hx];exact ih h
   ·rw[if_neg hc];simp only[List.lookup_cons,hx];exact ih h
theorem b1g{env:Env}:∀{names:List (Str×NameKind)} {x:Str} {q:NameKind},(q=.cell\/q=.free)->(∀y∈names,y.2≠.cell)->
  (names.map fun(n,k)=>if(k == NameKind.free && env.scope.kind == .function && env.kindOf n == some .cell) then(n,NameKind.cell) else(n,k)).lookup x=some q->(x,NameKind.free)∈names
 |[],_,_,_,_,h=>by simp at h
 |(n,k)::r,x,q,hq,hn,h=>by
  have ih:=@b1g env r x q hq fun y hy=>hn y (List.mem_cons_of_mem _ hy)
  have hk:k≠.cell:=hn (n,k) List.mem_cons_self;have h:List.lookup x ((if(k == NameKind.free && env.scope.kind == .function && env.kindOf n == some .cell)=true then(n,NameKind.cell) else(n,k))::_)=some q:=h
  cases hx:x == n with
  |true=>
   have e:x=n:=by simpa using hx
   subst e;by_cases hc:(k == NameKind.free && env.scope.kind == .function && env.kindOf x == some .cell)=true
   ·have hf:k=.free:=by
     simp only[Bool.and_eq_true,beq_iff_eq] at hc;exact hc.1.1
    subst hf;exact List.mem_cons_self
   ·rw[if_neg hc] at h;simp only[List.lookup_cons,hx] at h;have e:k=q:=Option.some.inj h;rcases hq with rfl|rfl
    ·exact absurd e hk
    ·rw[e];exact List.mem_cons_self
  |false=>
   by_cases hc:(k == NameKind.free && env.scope.kind == .function && env.kindOf n == some .cell)=true
   ·rw[if_pos hc] at h;simp only[List.lookup_cons,hx] at h;exact List.mem_cons_of_mem _ (ih h)
   ·rw[if_neg hc] at h;simp only[List.lookup_cons,hx] at h;exact List.mem_cons_of_mem _ (ih h)
def a2m(X:Cx)(scope:Scope)(M:List Str)(C:Addr)(s:Shared)(H:Hp)(fp:List Addr):Cx:=
 {X with N:=M,s₀:=s,H₀:=H,env:=compEnvC scope (clOf X.env scope.names) C X.env,outer:=X.stack,ex:=fp,fn:=fun _=>false,pn:=[],xe:=fun _ _=>False}
def capS(k:Nat)(cap:List Nat)(σ:St):St:=List.replicate k none++cap.map fun i=>(σ[i]?).join
def PTs(X:Cx)(ifs:List Expr)(t:TT):Prop:=
 ∀(pins:List (Addr×Obj)) (s:Shared) (σ:St) (H:Hp) (Q:Bool->Hp->Prop),Inv X pins σ H s->t σ H Q->
  wpAny (model X.prog X.w) X.A (forIn ifs true fun c r=>if r=true then do let ok <-isTrue c X.env (eval c X.env);pure (ForInStep.yield ok) else pure (ForInStep.yield r)) (TP X pins σ Q) X.xe s
def tYes:TT:=fun _ H Q=>Q true H
theorem pts_nil:PTs X [] tYes:=fun _ _ σ H _ I h=>wpAny_tests_nil ⟨H,I,h⟩
theorem d5p{c:Expr}{t:TT}(hc:PT X c t):PTs X [c] t:=fun pins s σ H Q I h=>wpAny_tests_one (hc pins s σ H Q I h)
theorem a9b{R:Result->Shared->Prop}{elt target iter:Expr}{ifs:List Expr}{it acc:Value}(I:Nat->Shared->Prop)
  (turn:∀n s,I n s->wpAny (model prog w) A (pyNext it) (fun r s₁=>match r with
   |none=>R (.ok .next) s₁
   |some v=>wpAny (model prog w) A (letOwnedTupleGo target it v) (fun _ s₀=>wpAny (model prog w) A (assign target env v) (fun _ s₂=>
     wpAny (model prog w) A (forIn ifs true fun c r=>if r=true then do let ok <-isTrue c env (eval c env);pure (ForInStep.yield ok) else pure (ForInStep.yield r)) (fun ok s₃=>
      if ok=true then wpAny (model prog w) A (eval elt env) (fun x s₄=>
       wpAny (model prog w) A (call (.builtin "list.append") [acc,x]) (fun _ s₅=>∃m,m < n/\I m s₅) (fun _ _=>False) s₄) (fun _ _=>False) s₃
      else ∃m,m < n/\I m s₃) (fun _ _=>False) s₂) (fun _ _=>False) s₀) (fun _ _=>False) s₁) (fun _ _=>False) s)
  (n:Nat) (h:I n s) :
  codeAny (model prog w) A (.compLoop (.ListComp elt [⟨target,iter,ifs,0⟩] scope pos) 0 it acc env) R s:=by
 refine codeAny_loop rfl I (fun n s hI=>?_) n h
 show wpAny _ A ((compTurn (.ListComp elt [⟨target,iter,ifs,0⟩] scope pos) 0 it acc env).onRaise (fun x=>do noteFrame x env;theTreesLotGoes x)) _ _ s
 refine wpAny_noted ?_;rw[compTurn_list];refine wpAny_bind (wpAny_standAt (wpAny_bind (wpAny_mono (turn n s hI) (fun r s₁ h₁=>?_) fun _ _ h'=>h'.elim)))
 cases r with
 |none=>exact wpAny_pure h₁
 |some v=>
  refine wpAny_bind (wpAny_mono h₁ (fun _ s₀ h₀=>?_) fun _ _ h'=>h'.elim)
  refine wpAny_bind (wpAny_mono h₀ (fun _ s₂ h₂=>wpAny_bind (wpAny_mono h₂ (fun ok s₃ h₃=>?_) fun _ _ h'=>h'.elim)) fun _ _ h'=>h'.elim)
  cases ok with
  |false=>exact wpAny_pure ⟨rfl,h₃⟩
  |true=>
   exact wpAny_bind (wpAny_bind (wpAny_mono h₃ (fun x s₄ h₄=>wpAny_bind (wpAny_mono h₄ (fun _ s₅ h₅=>wpAny_pure (wpAny_pure ⟨rfl,h₅⟩)) fun _ _ h'=>h'.elim)) fun _ _ h'=>h'.elim))
theorem Inv.track{pins:List (Addr×Obj)}{o:HO}(I:Inv X pins σ H s)(hn:H a=none)(hy:X.s₀.heap.objs.size<=a)(hL:a≠X.env.locals)(hC:∀x c,X.env.cells.lookup x=some c->c≠a)
  (hP:∀p∈X.pn++pins,p.1≠a) (new:ObjOk X.prog X.w (upd H a o) s.heap a o):Inv X pins σ (upd H a o) s:=by
 refine⟨I.ok,I.os,I.bare,⟨I.base.keep,I.base.slot,fun b ob e n hx=>?_,I.base.there,fun b xs e=>?_,fun b ob u e=>?_,fun b ps e=>?_⟩,I.loc,I.cell,?_,fun x c e=>?_,fun p hp=>?_,fun b u e=>?_,I.len⟩
 ·rw[a0v (Nat.ne_of_lt (Nat.lt_of_lt_of_le (Heap.lt_size e) hy))];exact I.base.free b ob e n hx
 ·have z:=I.base.tups b xs e;rw[a0v (a1u z hn)];exact z
 ·have z:=I.base.frzs b ob u e;rw[a0v (a1u z hn)];exact z
 ·obtain⟨m,z⟩:=I.base.tbls b ps e;exact⟨m,by rw[a0v (a1u z hn)];exact z⟩
 ·rw[a0v (Ne.symm hL)];exact I.free
 ·rw[a0v (hC x c e)];exact I.freeC x c e
 ·obtain⟨e,n,r⟩:=I.pin p hp;exact⟨e,by rw[a0v (hP p hp)];exact n,r⟩
 ·by_cases hb:b=a
  ·subst hb;rw[a1z] at e;cases e;exact new
  ·rw[a0v hb] at e;exact(I.hok b u e).stay (fun c v _ q=>q) (fun c q=>by rw[a0v (a1u q hn)];exact q) fun c xs q=>by rw[a0v (a1u q hn)];exact q
def CompW(J:It)(g:TG)(tt:TT)(te:TE)(τ₀:St)(H1:Hp)(Fin:List V->Hp->Prop):Prop:=
 ∃(n:Nat) (W:Nat->St->List V->Hp->Prop),W 0 τ₀ [] H1/\∀i τ acc H,i<=n->W i τ acc H->
  (J.stop i H/\Fin acc H)\/(i < n/\J.go i H/\∀x H',J.yld i H x H'->g x τ H' fun τ2 H2=>tt τ2 H2 fun b H3=>if b=true then te τ2 H3 fun v H4=>acc.length < sizeLine/\W (i+1) τ2 (acc++[v]) H4 else W (i+1) τ2 acc H3)
structure CompOk (X:Cx) (scope:Scope) (M:List Str) (k:Nat) (cap:List Nat):Prop where
 kind:scope.kind=.function
 cell:∀y∈scope.names,y.2≠.cell
 free:∀y∈scope.names,y.2=.free->X.env.kindOf y.1=some .cell\/X.env.kindOf y.1=some .free
 names:∀y∈scope.names,y.2=.local -> scope.names.lookup y.1=some .local
 len:M.length=k+cap.length
 caps:∀(j i:Nat) (x:Str),cap[j]?=some i->M[k+j]?=some x->X.N[i]?=some x/\scope.names.lookup x=some .free
section
variable {X:Cx} {pins:List (Addr×Obj)} {σ:St} {tg elt iter:Expr} {ifs:List Expr} {scope:Scope} {pos:Pos} {M:List Str} {k:Nat} {cap:List Nat} {g:TG} {tt:TT} {te:TE}
theorem Inv.hasFree(I:Inv X pins σ H s)(ok:CompOk X scope M k cap):∀y∈scope.names,y.2=.free->∃c,X.env.cells.lookup y.1=some c:=fun y hy e=>I.ok.has y.1 (ok.free y hy e)
theorem Inv.block{s4:Shared}{C D:Addr}{oD:Obj}{m:Str->Option Value}(I:Inv X pins σ H s)(ok:CompOk X scope M k cap)(f2:∀b∈fp,FpOk X pins H b)(hfo:∀b∈fp,∃o,s.heap.get? b=some o/\∀v,o.data≠.cell v)
  (hC:s.heap.objs.size<=C) (hDC:D≠C) (hD:s.heap.objs.size<=D) (old:∀b o,s.heap.get? b=some o->s4.heap.get? b=some o) (os:s4.os=s.os) (gens:s4.gens=s.gens)
  (ns:s4.heap.Ns C m) (hoD:s4.heap.get? D=some oD) (hdD:∀v,oD.data≠.cell v):Inv (a2m X scope M C s H fp) [(D,oD)] (capS k cap σ) H s4:=by
 have hf:=I.hasFree ok;have fr:∀a,s.heap.objs.size<=a->H a=none:=fun a ha=>I.hok.fresh ha
 have nfs:∀b∈frs X.stack,b < s.heap.objs.size:=fun b hb=>by
  rcases List.mem_cons.mp (I.stkSub b hb) with e|e
  ·rw[e];exact I.lt
  ·exact Nat.lt_of_not_le fun z=>I.nofs z e
 have cl:∀x c,(clOf X.env scope.names).lookup x=some c->X.env.cells.lookup x=some c:=fun x c e=>c0f hf e
 refine⟨⟨I.ok.mod,ok.kind,I.ok.glob,I.ok.blt,hC,fun x y c e1 e2=>I.ok.inj x y c (cl x c e1) (cl y c e2),fun x hx=>?_,fun x c e _=>?_,I.ok.hd,I.ok.frames,.inl rfl,fun b hb=>?_,I.bs,Nat.le_trans I.ok.bsz I.sz,fun b o e hb=>?_,fun b hb z=>?_,I.stack,I.stkFree⟩,
  os,by rw[gens];exact I.bare,Un.kept old,⟨m,ns,fun i x v h1 h2 h3=>?_⟩,fun x c e=>?_,fr C hC,fun x c e=>I.freeC x c (cl x c e),fun p hp=>?_,I.hok.kept old,?_⟩
 ·have hx:(relabel scope X.env).names.lookup x=some .cell\/(relabel scope X.env).names.lookup x=some .free:=hx;have hm:(x,NameKind.free)∈scope.names:=by
   rcases hx with h|h
   ·exact b1g (env:=X.env) (.inl rfl) ok.cell h
   ·exact b1g (env:=X.env) (.inr rfl) ok.cell h
  obtain⟨c,hc⟩:=hf _ hm rfl;exact⟨c,c1v hm hc⟩
 ·cases e
 ·obtain⟨f0,f1,f2,f3,f4,f5⟩:=f2 b hb;obtain⟨ob,eb,_⟩:=hfo b hb;exact⟨Nat.ne_of_lt (Nat.lt_of_lt_of_le (Heap.lt_size eb) hC),fun x c e=>f4 x c (cl x c e)⟩
 ·obtain⟨f0,f1,f2,f3,f4,f5⟩:=f2 b hb;rcases f3 with q|q
  ·exact I.ok.noex b o e q
  ·exact absurd (Nat.lt_of_lt_of_le (Heap.lt_size e) (Nat.le_trans I.ok.bsz q)) (Nat.lt_irrefl _)
 ·obtain⟨f0,f1,f2,f3,f4,f5⟩:=f2 b hb;rcases List.mem_cons.mp (I.stkSub b z) with q|q
  ·exact f1 q
  ·exact f2 q
 ·unfold capS at h2;have hk:¬i < k:=fun q=>by
   rw[List.getElem?_append_left (by simpa using q),List.getElem?_replicate] at h2
   split at h2 <;> cases h2
  rw[List.getElem?_append_right (by simpa using hk),List.length_replicate,List.getElem?_map] at h2
  cases e:cap[i - k]? with
  |none=>rw[e] at h2;cases h2
  |some j=>
   rw[e] at h2;have h2':(σ[j]?).join=some v:=Option.some.inj h2;have hj:σ[j]?=some (some v):=by
    cases q:σ[j]? with
    |none=>rw[q] at h2';cases h2'
    |some z=>rw[q] at h2';simp at h2';rw[h2']
   have hix:k+(i - k)=i:=by omega
   obtain⟨hN,hfr⟩:=ok.caps (i - k) j x e (by rw[hix];exact h1)
   have hm:(x,NameKind.free)∈scope.names:=PySem.mem_of_lookup hfr;have hkx:=ok.free _ hm rfl;obtain⟨mX,hnX,hlX⟩:=I.loc;obtain⟨u,ru,lk⟩:=hlX j x v hN hj (by rcases hkx with q|q;exact .inr (.inl q);exact .inr (.inr q))
   refine⟨u,ru,.inr ⟨b1u (env:=X.env) hfr,?_⟩⟩;rcases lk with⟨q,_⟩|⟨_,c,hc,hcell⟩
   ·rcases hkx with z|z
    ·rw[show X.env.kindOf x=some .cell from z] at q;cases q
    ·rw[show X.env.kindOf x=some .free from z] at q;cases q
   ·exact⟨c,c1v hm hc,hcell.keeps old⟩
 ·obtain⟨v,z⟩:=I.cell x c (cl x c e);exact⟨v,z.keeps old⟩
 ·have e:p=(D,oD):=by simpa[a2m] using hp
  subst e;exact⟨hoD,fr D hD,hDC,fun z=>absurd (Nat.lt_of_lt_of_le (nfs D z) hD) (Nat.lt_irrefl _),hdD⟩
 ·unfold capS;rw[List.length_append,List.length_replicate,List.length_map];exact ok.len.symm
theorem b8c{H2:Hp}{s2:Shared}{J:It}{it:Addr}{tn:Nat->Heap->Prop}{RR:Value->Addr->Result->Shared->Prop}{E:Value->Shared->Prop}(I2:Inv X pins σ H2 s2)(hc:X.calm=true)(ok:CompOk X scope M k cap)
  (T:Turn X.prog X.w X.K tg J fp it tn) (st2:tn 0 s2.heap) (f2:∀b∈fp,FpOk X pins H2 b)
  (hg:∀C s H fp,PG (a2m X scope M C s H fp) tg g) (ht:∀C s H fp,PTs (a2m X scope M C s H fp) ifs tt) (he:∀C s H fp,PE (a2m X scope M C s H fp) elt te)
  (hW:CompW J g tt te (capS k cap σ) H2 Fin)
  (hRR:∀D C s' H' acc,Inv X pins σ (upd H' D (.lst acc)) s'->FpOk X pins (upd H' D (.lst acc)) C->(∃m,s'.heap.Ns C m)->H' D=none->Fin acc H'->RR (.ref D) C (.ok .next) s') :
  wpAny (model X.prog X.w) X.A (newList []) (fun acc s₃=>wpAny (model X.prog X.w) X.A (newFunctionEnv scope X.env.globals (clOf X.env scope.names) [] X.env.qual none .none (some X.env)) (fun cenv s₄=>
   codeAny (model X.prog X.w) X.A (.compStart (.ListComp elt [⟨tg,iter,ifs,0⟩] scope pos) 0 (.ref it) acc { cenv with scope:=relabel scope X.env}) (RR acc cenv.locals) s₄) E s₃) E s2:=by
 refine wpAny_newObj_type (wpAny_newFunctionEnv ok.cell (by intro y hy;simp at hy) (fun h₁ hns₁ hsb₁=>?_) ok.kind)
 dsimp only at hns₁ hsb₁ ⊢;generalize hH2:s2.heap.push { cls:=.type "list",dict:=none,data:=.seq ([]:List Value).toArray}=H3 at hns₁ hsb₁ ⊢;have hCs:H3.objs.size=s2.heap.objs.size+1:=by rw[<-hH2,Heap.size_push]
 have hDC:s2.heap.objs.size≠H3.objs.size:=by rw[hCs];exact Nat.ne_of_lt (Nat.lt_succ_self _)
 have below:∀b,b < s2.heap.objs.size->b≠H3.objs.size/\b≠s2.heap.objs.size:=fun b hb=>⟨by rw[hCs];exact Nat.ne_of_lt (Nat.lt_succ_of_lt hb),Nat.ne_of_lt hb⟩
 have old:∀b o,s2.heap.get? b=some o->h₁.get? b=some o:=fun b o e=>hsb₁.extBut b o (below b (Heap.lt_size e)).1 (Heap.get?_push_of_some _ (hH2 ▸ Heap.get?_push_of_some _ e))
 have hacc:h₁.get? s2.heap.objs.size=some { cls:=.type "list",data:=.seq ([]:List Value).toArray 0}:=hsb₁.extBut _ _ hDC (Heap.get?_push_of_some _ (hH2 ▸ Heap.get?_push_size _ rfl));have hfo:=T.obj 0 _ st2;have hCle:s2.heap.objs.size<=H3.objs.size:=by rw[hCs];exact Nat.le_succ _
 obtain⟨N,W,w0,turn⟩:=hW;have st1:tn 0 h₁:=T.keep _ _ _ st2 fun b _ o e=>old b o e
 have loop:∀s₃:Shared,s₃={ s2 with heap:=h₁,toks:=s2.toks+([]:List (Str×Value)).length}->
   codeAny (model X.prog X.w) X.A (.compLoop (.ListComp elt [⟨tg,iter,ifs,0⟩] scope pos) 0 (.ref it) (.ref s2.heap.objs.size) (compEnvC scope (clOf X.env scope.names) H3.objs.size X.env))
    (RR (.ref s2.heap.objs.size) H3.objs.size) s₃:=by
  rintro s₃ rfl;have I3:Inv (a2m X scope M H3.objs.size s2 H2 fp) [(s2.heap.objs.size,{ cls:=.type "list",data:=.seq ([]:List Value).toArray 0})] (capS k cap σ) H2 { s2 with heap:=h₁,toks:=s2.toks+([]:List (Str×Value)).length}:=
   I2.block ok f2 hfo hCle hDC (Nat.le_refl _) old rfl rfl hns₁ hacc (fun v z=>by cases z)
  have fpS:∀b∈fp,b≠H3.objs.size/\b≠s2.heap.objs.size:=fun b hb=>let ⟨o,e,_⟩:=hfo b hb;below b (Heap.lt_size e)
  have stat:∀{H':Hp} {oD:Obj},(∀b∈fp,H' b=none)->∀b∈fp,FpOk (a2m X scope M H3.objs.size s2 H2 fp) [(s2.heap.objs.size,oD)] H' b:=fun{H' oD} hn b hb=>by
   obtain⟨f0,f1,f2,f3,f4,f5⟩:=f2 b hb;refine⟨hn b hb,(fpS b hb).1,fun z=>?_,.inl hb,fun x c e=>f4 x c (c0f (I2.hasFree ok) e),fun p hp z=>?_⟩
   ·rcases List.mem_cons.mp (I2.stkSub b z) with q|q
    ·exact f1 q
    ·exact f2 q
   ·have e:p=(s2.heap.objs.size,oD):=by simpa[a2m] using hp
    subst e;exact(fpS b hb).2 z.symm
  refine a9b (fun n s'=>∃(i:Nat) (τ:St) (acc:List V) (us:List Value) (c:Nat) (H':Hp),Vals acc us/\acc.length<=sizeLine/\
   Inv (a2m X scope M H3.objs.size s2 H2 fp) [(s2.heap.objs.size,{ cls:=.type "list",data:=.seq us.toArray c})] τ H' s'/\tn i s'.heap/\(∀b∈fp,H' b=none)/\n=N - i/\i<=N/\W i τ acc H') ?_ N
   ⟨0,capS k cap σ,[],[],0,H2,.nil,Nat.zero_le _,I3,st1,fun b hb=>(f2 b hb).1,rfl,Nat.zero_le _,w0⟩
  rintro n s3 ⟨i,τ,acc,us,c,H',rv,hlen,I,st,fr,rfl,hiN,w⟩;have pinD:=(I.pin (s2.heap.objs.size,{ cls:=.type "list",data:=.seq us.toArray c}) (by simp[a2m]))
  rcases turn i τ acc H' hiN w with⟨stop,qn⟩|⟨hlt,go,step⟩
  ·refine thn (T.done (a2m X scope M H3.objs.size s2 H2 fp) rfl rfl rfl hc i _ s3 τ H' (fun _ _=>False) I (stat fr) st stop) fun r s4 ⟨hr,I4⟩=>?_
   subst hr;have pinD4:=(I4.pin (s2.heap.objs.size,{ cls:=.type "list",data:=.seq us.toArray c}) (by simp[a2m]))
   have hch:∀b∈fp,(b∈X.ex\/X.s₀.heap.objs.size<=b)/\b≠X.env.locals/\(∀x c,X.env.cells.lookup x=some c->c≠b)/\∀p∈X.pn++pins,p.1≠b:=fun b hb=>by
    obtain⟨f0,f1,f2,f3,f4,f5⟩:=f2 b hb;exact⟨f3,f1,f4,f5⟩
   have J1:Inv X pins σ H' s4:=I2.call' (ch:=fp) I4.os I4.base I4.hok I4.bare hch;have young:X.s₀.heap.objs.size<=s2.heap.objs.size:=I2.sz;have apart:∀a,s2.heap.objs.size<=a->a≠X.env.locals/\(∀x c,X.env.cells.lookup x=some c->c≠a)/\∀p∈X.pn++pins,p.1≠a:=fun a ha=>
    ⟨Nat.ne_of_gt (Nat.lt_of_lt_of_le I2.lt ha),fun x c e z=>by
     obtain⟨v,q⟩:=I2.cell x c e;exact absurd (Nat.lt_of_lt_of_le q.lt (by rw[z];exact ha)) (Nat.lt_irrefl _),fun p hp z=>absurd (Nat.lt_of_lt_of_le (Heap.lt_size (I2.pin p hp).1) (by rw[z];exact ha)) (Nat.lt_irrefl _)⟩
   have aD:=apart _ (Nat.le_refl _);have aC:=apart _ hCle;have J2:Inv X pins σ (upd H' s2.heap.objs.size (.lst acc)) s4:=J1.track pinD4.2.1 young aD.1 aD.2.1 aD.2.2 ⟨hlen,us,c,rv,pinD4.1⟩;obtain⟨m,hn,_⟩:=I4.loc;have hCn:H' H3.objs.size=none:=I4.free;refine hRR _ _ s4 H' acc J2 ⟨?_,aC.1,I2.nofs hCle,.inr (Nat.le_trans young hCle),aC.2.1,aC.2.2⟩ ⟨m,hn⟩ pinD4.2.1 qn;rw[a0v (Ne.symm hDC)];exact hCn
  ·refine thn (T.item (a2m X scope M H3.objs.size s2 H2 fp) rfl rfl rfl hc i _ s3 τ H' (fun _ _=>False) I (stat fr) st go) fun r s4 ⟨u,hr,h4⟩=>?_
   subst hr;refine thn h4 fun _ s5 hh=>?_
   obtain⟨x,H5,I5,r5,y5,st5,fr5⟩:=hh;have I5':=I5.pinned (stat fr5) (T.obj _ _ st5);refine thn (hg _ _ _ _ _ s5 τ H5 x u _ I5' r5 (step x H5 y5)) fun _ s6 hh=>?_
   obtain⟨τ6,H6,I6,q6⟩:=hh;refine thn (ht _ _ _ _ _ s6 τ6 H6 _ I6 q6) fun b s7 hh=>?_
   obtain⟨H7,I7,q7⟩:=hh;have keepit:∀{s':Shared} {τ':St} {Hn:Hp},Inv (a2m X scope M H3.objs.size s2 H2 fp) ([(s2.heap.objs.size,{ cls:=.type "list",data:=.seq us.toArray c})]++b7q fp s5.heap) τ' Hn s'->tn (i+1) s'.heap/\∀b∈fp,Hn b=none:=fun{s' τ' Hn} I'=>by
    refine⟨T.keep _ _ _ st5 fun b hb o e=>(I'.pin (b,o) (List.mem_append_right _ (List.mem_append_right _ (a8l hb e)))).1,fun b hb=>?_⟩
    obtain⟨o,e,d⟩:=T.obj _ _ st5 b hb;exact(I'.pin (b,o) (List.mem_append_right _ (List.mem_append_right _ (a8l hb e)))).2.1
   cases b with
   |false=>
    rw[if_neg Bool.false_ne_true] at q7;show ∃m,m < N - i/\_;obtain⟨st7,fr7⟩:=keepit I7;exact⟨N - (i+1),by omega,i+1,τ6,acc,us,c,H7,rv,hlen,I7.unpinned,st7,fr7,rfl,hlt,q7⟩
   |true=>
    rw[if_pos rfl] at q7;show wpAny _ _ (eval elt _) _ _ s7;refine thn (he _ _ _ _ _ s7 τ6 H7 _ I7 q7) fun v s8 hh=>?_
    obtain⟨y,H8,I8,r8,hl8,w8⟩:=hh;obtain⟨st8,fr8⟩:=keepit I8;have pinD8:=(I8.pin (s2.heap.objs.size,{ cls:=.type "list",data:=.seq us.toArray c}) (by simp[a2m]))
    have hul:=rv.length;refine append_at (hsz:=by show us.toArray.size<=sizeLine;rw[List.size_toArray,<-hul];exact hlen) pinD8.1 fun h9 sb9 e9=>?_
    have e9':h9.get? s2.heap.objs.size=some { cls:=.type "list",data:=.seq (us++[v]).toArray (c+1)}:=by rw[e9,List.push_toArray]
    have I8u:=I8.unpinned;have hLoc:s2.heap.objs.size≠(a2m X scope M H3.objs.size s2 H2 fp).env.locals:=pinD8.2.2.1;have nx:∀(b:Addr),H8 b≠none->b≠s2.heap.objs.size:=fun b hb z=>hb (by rw[z];exact pinD8.2.1)
    refine⟨N - (i+1),by omega,i+1,τ6,acc++[y],us++[v],c+1,H8,rv.append (.cons r8 .nil),by rw[List.length_append,List.length_singleton];exact hl8,?_,?_,fr8,rfl,hlt,w8⟩
    ·have I9:Inv (a2m X scope M H3.objs.size s2 H2 fp) [] τ6 H8 s8:=I8u.pins_of (fun p hp=>absurd hp (by simp))
     have I10:Inv (a2m X scope M H3.objs.size s2 H2 fp) [] τ6 H8 { s8 with heap:=h9}:=I9.turned (t':=s8.toks) (fun b o hb e=>(sb9.2 b hb).trans e) pinD8.2.1 hLoc (.inr (Nat.le_refl _))
      (fun x cc e z=>by
       obtain⟨v',q⟩:=I2.cell x cc (c0f (I2.hasFree ok) e);exact absurd (Nat.lt_of_lt_of_le q.lt (by rw[z];exact Nat.le_refl _)) (Nat.lt_irrefl _)) (fun p hp=>absurd hp (by simp[a2m]))
     refine I10.pins_of fun p hp=>?_
     have e:p=(s2.heap.objs.size,{ cls:=.type "list",data:=.seq (us++[v]).toArray (c+1)}):=by simpa using hp
     subst e;exact⟨e9',pinD8.2.1,hLoc,pinD8.2.2.2.1,fun v' z=>by cases z⟩
    ·exact T.keep _ _ _ st8 fun b hb o e=>sb9.extBut b o (fpS b hb).2 e
 exact codeAny_compStart_list (loop _ rfl) (T.self _ 0 _ _ _ st1 (loop _ rfl))
def tComp(wi:TI)(g:TG)(tt:TT)(te:TE)(k:Nat)(cap:List Nat):TE:=fun σ H Q=>wi σ H fun J H1=>CompW J g tt te (capS k cap σ) H1 fun acc H'=>∀l,H' l=none->Q (.ref l) (upd H' l (.lst acc))
theorem d5q(hc:X.calm=true)(ok:CompOk X scope M k cap)(hi:PI X tg iter wi)
  (hg:∀C s H fp,PG (a2m X scope M C s H fp) tg g) (ht:∀C s H fp,PTs (a2m X scope M C s H fp) ifs tt) (he:∀C s H fp,PE (a2m X scope M C s H fp) elt te)
  (hs:∀x,foldedSetIterable iter X.env x=pure x:=by intro _;rfl):PE X (.ListComp elt [⟨tg,iter,ifs,0⟩] scope pos) (tComp wi g tt te k cap):=by
 intro pins s σ H Q I h;rw[eval_ListComp];refine wpAny_comprehension_free (use:=none) rfl hs (a7t (I.hasFree ok)) ok.kind ok.names (thn (hi pins s σ H _ I h) fun v s1 h1=>thn h1 fun itv s2 h2=>?_)
 obtain⟨it,fp,tn,J,H2,e,I2,T,st2,f2,hW⟩:=h2;subst e;refine b8c (RR:=fun acc C=>compPost (model X.prog X.w) X.A X.xe none (EP X pins σ Q) acc C) I2 hc ok T st2 f2 hg ht he hW ?_
 intro D C s' H' acc I' fC ⟨m,hn⟩ hD hq;refine⟨m,hn,fun h' sb=>?_⟩
 obtain⟨f0,f1,f2,f3,f4,f5⟩:=fC;exact⟨.ref D,_,I'.turned (t':=s'.toks) (fun b o hb e=>(sb.2 b hb).trans e) f0 f1 f3 f4 f5,rfl,hq D hD⟩
def sComp(wi:TI)(g:TG)(tt:TT)(te:TE)(k:Nat)(cap:List Nat)(i:Nat):TS:=fun D σ H=>tComp wi g tt te k cap σ H fun v H'=>D.nx (σ.set i (some v)) H'
theorem d5r{i:Nat}{px spos:Pos}(hc:X.calm=true)(ok:CompOk X scope M k cap)(hN:X.N.Nodup)(hix:X.N[i]?=some x)(hx:Loc X.env.scope x)(hi:PI X tg iter wi)
  (hg:∀C s H fp,PG (a2m X scope M C s H fp) tg g) (ht:∀C s H fp,PTs (a2m X scope M C s H fp) ifs tt) (he:∀C s H fp,PE (a2m X scope M C s H fp) elt te)
  (hsw:swapsWith (.ListComp elt [⟨tg,iter,ifs,0⟩] scope pos) (some (.Name x px)) spos.line X.env=pure true)
  (hs:∀x,foldedSetIterable iter X.env x=pure x:=by intro _;rfl) (hf:X.fn x=true\/X.env.scope.names.lookup x=some .local := by first|exact .inl rfl|exact .inr rfl|assumption) :
  PS X (.Assign [.Name x px] (.ListComp elt [⟨tg,iter,ifs,0⟩] scope pos) spos) (sComp wi g tt te k cap i):=by
 intro pins s σ H D I h;rw[exec_Assign_Name_used _ _ _ _ hsw];refine wpAny_bind (wpAny_standAt (wpAny_bind ?_));show wpAny _ X.A (do let _ <-comprehension (.ListComp elt [⟨tg,iter,ifs,0⟩] scope pos) scope X.env _ (newList []) false (eval iter X.env) (some (assign (.Name x px) X.env))) _ _ s
 refine wpAny_bind (wpAny_mono (wpAny_comprehension_free (use:=some (assign (.Name x px) X.env)) (Q:=fun _ s'=>SP X pins D .next s') rfl hs (a7t (I.hasFree ok)) ok.kind ok.names
  (thn (hi pins s σ H _ I h) fun v s1 h1=>thn h1 fun itv s2 h2=>?_)) (fun _ s' hq=>wpAny_pure (wpAny_pure hq)) fun _ _ e=>e)
 obtain⟨it,fp,tn,J,H2,e,I2,T,st2,f2,hW⟩:=h2;subst e;refine b8c (RR:=fun acc C=>compPost (model X.prog X.w) X.A X.xe (some (assign (.Name x px) X.env)) (fun _ s'=>SP X pins D .next s') acc C) I2 hc ok T st2 f2 hg ht he hW ?_
 intro D' C s' H' acc I' fC ⟨m,hn⟩ hD hq;obtain⟨f0,f1,f2,f3,f4,f5⟩:=fC;show wpAny _ X.A (assign (.Name x px) X.env (.ref D')) _ _ _;refine wpAny_assign_Name (b7o I' hN hix hx (v:=.ref D') rfl (fun s'' I'' hh=>?_) hf)
 obtain⟨a,sb,ha⟩:=hh;have hCa:C≠a:=by
  rcases ha with e|e
  ·rw[e];exact f1
  ·exact fun z=>f4 _ _ e z.symm
 refine⟨m,hn.sameBut sb hCa,fun h' sb'=>⟨_,_,I''.turned (t':=s''.toks) (fun b o hb e=>(sb'.2 b hb).trans e) f0 f1 f3 f4 f5,hq D' hD⟩⟩
end
def chr1(c:Nat):Str:=⟨#[c]⟩
def Its(x:Str):It:=⟨fun i _=>i < x.cps.size,fun i H v H'=>H'=H/\∃c,x.cps[i]?=some c/\v=.str (chr1 c),fun i _=>x.cps.size<=i⟩
theorem d1j(it:Addr)(x:Str)(t:Tok)(ty:String)(hty:ty="str_ascii_iterator"\/ty="str_iterator"):Turn P w K tg (Its x) [it] it (fun i h=>h.IsStrIter it ty x t i) where
 mem:=by simp
 obj:=fun i h st b hb=>by
  have e:b=it:=by simpa using hb
  subst e;obtain⟨o,e,c,d⟩:=st;exact⟨o,e,fun v z=>by rw[d] at z;cases z⟩
 keep:=fun i h h' st k=>by
  obtain⟨o,e,c,d⟩:=st;exact⟨o,k it (by simp) o e,c,d⟩
 item:=by
  intro X hP hw hK hc i pins s σ H E I hf st hg;subst hP hw hK;have hi:i < x.cps.size:=hg;obtain⟨f0,f1,f2,f3,f4,f5⟩:=hf it (by simp)
  have fin:∀h',h'.IsStrIter it ty x t (i+1)->Heap.SameBut it s.heap h'->∃u,some (Value.str ⟨#[x.cps[i]]⟩ s.toks)=some u/\
    wpAny (model X.prog X.w) X.A (letOwnedTupleGo tg (.ref it) u) (fun _ s2=>∃y H',Inv X pins σ H' s2/\RelV y u/\(Its x).yld i H y H'/\s2.heap.IsStrIter it ty x t (i+1)/\∀b∈[it],H' b=none) E { s with heap:=h',toks:=s.toks+1}:=fun h' st' sb=>by
   have I1:Inv X pins σ H { s with heap:=h',toks:=s.toks+1}:=I.turned (fun b o hb e=>(sb.2 b hb).trans e) f0 f1 f3 f4 f5
   obtain⟨o,e,c,d⟩:=id st';refine⟨_,rfl,d1a (s:={ s with heap:=h',toks:=s.toks+1}) e c d (by rcases hty with z|z <;> subst z <;> decide) ⟨.str (chr1 x.cps[i]),H,I1,⟨_,rfl⟩,⟨rfl,_,by simp[hi],rfl⟩,st',fun b hb=>(hf b hb).1⟩⟩
  rcases hty with z|z
  ·subst z;exact wpAny_pyNext_ascii_item st (c:=x.cps[i]) (by simp[hi]) fin
  ·subst z;exact wpAny_pyNext_wide_item st (c:=x.cps[i]) (by simp[hi]) fin
 done:=by
  intro X hP hw hK hc i pins s σ H E I hf st hg;subst hP hw hK;have hi:x.cps.size<=i:=hg;obtain⟨f0,f1,f2,f3,f4,f5⟩:=hf it (by simp)
  rcases hty with z|z
  ·subst z;exact wpAny_pyNext_ascii_end (I.ok.hd hc) st (by simp;omega) fun h' eb=>⟨rfl,I.turned (t':=s.toks) (fun b o hb e=>eb b o hb e) f0 f1 f3 f4 f5⟩
  ·subst z;exact wpAny_pyNext_wide_end (I.ok.hd hc) st (by simp;omega) fun h' eb=>⟨rfl,I.turned (t':=s.toks) (fun b o hb e=>eb b o hb e) f0 f1 f3 f4 f5⟩
 self:=fun _ _ _ _ _ st h=>by
  rcases hty with z|z
  ·subst z;exact wpAny_pyIter_striter_ascii st h
  ·subst z;exact wpAny_pyIter_striter_wide st h
def iStr(tl:TE):TI:=fun σ H R=>tl σ H fun x H1=>∃z,x=.str z/\R (Its z) H1
theorem d9n(hl:PE X l tl):PI X tg l (iStr tl):=by
 intro pins s σ H R I h;refine thn (hl pins s σ H _ I h) fun v s1 hh=>?_
 obtain⟨x,H1,I1,r1,q1⟩:=hh;obtain⟨z,e,q⟩:=q1;subst e;obtain⟨t,rfl⟩:=r1;have key:∀ty:String,ty="str_ascii_iterator"\/ty="str_iterator"->PIE X pins σ tg R (.ref s1.heap.objs.size) { s1 with heap:=s1.heap.push { cls:=.type ty,data:=.fields #[.str z t,.int 0 0]}}:=fun ty hty=>by
  refine⟨s1.heap.objs.size,[s1.heap.objs.size],_,_,H1,rfl,I1.kept (t':=s1.toks) fun b o e=>Heap.get?_push_of_some _ e,d1j _ z t ty hty,⟨_,Heap.get?_push_size _ (by rcases hty with e|e <;> subst e <;> rfl),rfl,rfl⟩,fun b hb=>?_,q⟩
  have e:b=s1.heap.objs.size:=by simpa using hb
  subst e;exact I1.fpOk (Nat.le_refl _) (I1.hok.fresh (Nat.le_refl _))
 cases ha:z.cps.all (· < 128)
 ·exact wpAny_pyIter_wide ha (key _ (.inr rfl))
 ·exact wpAny_pyIter_ascii ha (key _ (.inl rfl))
theorem b8d{xs:List V}(Pv:Nat->St->List V->Hp->Prop)(h0:Pv 0 τ [] H)(hl:∀i τ acc H,i<=xs.length->Pv i τ acc H->SqL K H a xs)
  (hs:∀i x τ acc H,xs[i]?=some x->Pv i τ acc H->g x τ H fun τ2 H2=>tt τ2 H2 fun b H3=>if b=true then te τ2 H3 fun v H4=>acc.length < sizeLine/\Pv (i+1) τ2 (acc++[v]) H4 else Pv (i+1) τ2 acc H3)
  (hd:∀τ acc H,Pv xs.length τ acc H->Fin acc H):CompW (Itl K a) g tt te τ H Fin:=by
 refine⟨xs.length,Pv,h0,fun i τ acc H hi p=>?_⟩
 have q:=hl i τ acc H hi p;by_cases hlt:i < xs.length
 ·refine .inr ⟨hlt,⟨xs,xs[i],q,by simp[hlt]⟩,fun x H' y=>?_⟩
  obtain⟨e,y⟩:=y;subst e;exact hs i x τ acc _ (y xs q) p
 ·have e:i=xs.length:=by omega
  subst e;exact .inl ⟨⟨xs,q,Nat.le_refl _⟩,hd τ acc H p⟩
theorem c4j{lo:Int}(Pv:Nat->St->List V->Hp->Prop)(h0:Pv 0 τ [] H)
  (hs:∀i τ acc H,i < n->Pv i τ acc H->g (.int (lo+i)) τ H fun τ2 H2=>tt τ2 H2 fun b H3=>if b=true then te τ2 H3 fun v H4=>acc.length < sizeLine/\Pv (i+1) τ2 (acc++[v]) H4 else Pv (i+1) τ2 acc H3)
  (hd:∀τ acc H,Pv n τ acc H->Fin acc H):CompW (Itr lo n) g tt te τ H Fin:=by
 refine⟨n,Pv,h0,fun i τ acc H hi p=>?_⟩
 by_cases hlt:i < n
 ·refine .inr ⟨hlt,hlt,fun x H' y=>?_⟩
  obtain⟨e,y⟩:=y;subst e y;exact hs i τ acc _ hlt p
 ·have e:i=n:=by omega
  subst e;exact .inl ⟨Nat.le_refl _,hd τ acc H p⟩
theorem d1k(Pv:Nat->St->List V->Hp->Prop)(h0:Pv 0 τ [] H)
  (hs:∀i c τ acc H,x.cps[i]?=some c->Pv i τ acc H->g (.str (chr1 c)) τ H fun τ2 H2=>tt τ2 H2 fun b H3=>if b=true then te τ2 H3 fun v H4=>acc.length < sizeLine/\Pv (i+1) τ2 (acc++[v]) H4 else Pv (i+1) τ2 acc H3)
  (hd:∀τ acc H,Pv x.cps.size τ acc H->Fin acc H):CompW (Its x) g tt te τ H Fin:=by
 refine⟨x.cps.size,Pv,h0,fun i τ acc H hi p=>?_⟩
 by_cases hlt:i < x.cps.size
 ·refine .inr ⟨hlt,hlt,fun v H' y=>?_⟩
  obtain⟨e,c,hc,y⟩:=y;subst e y;exact hs i c τ acc _ hc p
 ·have e:i=x.cps.size:=by omega
  subst e;exact .inl ⟨Nat.le_refl _,hd τ acc H p⟩
def c6d(names outer:List (Str×NameKind))(N M:List Str)(k:Nat)(cap:List Nat):Bool:=
 names.all (fun y=>y.2 != .cell) && (names.all (fun y=>y.2 != .free || (outer.lookup y.1 == some .cell || outer.lookup y.1 == some .free)) && (names.all (fun y=>y.2 != .local || names.lookup y.1 == some .local) &&
  (M.length == k+cap.length && (List.range cap.length).all (fun j=>match cap[j]?,M[k+j]? with|some i,some x=>N[i]? == some x && names.lookup x == some .free|_,_=>true))))
theorem CompOk.of{M:List Str}{cap:List Nat}(outer:List (Str×NameKind))(N:List Str)(h:c6d scope.names outer N M k cap=true)(ho:X.env.scope.names=outer:=by rfl)(hN:X.N=N:=by rfl)(hk:scope.kind=.function:=by rfl):CompOk X scope M k cap:=by
 unfold c6d at h;simp only[Bool.and_eq_true,List.all_eq_true,Bool.or_eq_true,bne_iff_ne,ne_eq,beq_iff_eq] at h;obtain⟨h1,h2,h3,h4,h5⟩:=h;refine⟨hk,h1,fun y hy e=>?_,fun y hy e=>?_,h4,fun j i x e1 e2=>?_⟩
 ·rcases h2 y hy with z|z
  ·exact absurd e z
  ·show X.env.scope.names.lookup y.1=_\/X.env.scope.names.lookup y.1=_;rw[ho];exact z
 ·rcases h3 y hy with z|z
  ·exact absurd e z
  ·exact z
 ·have hj:j < cap.length:=(List.getElem?_eq_some_iff.mp e1).1;have:=h5 j (List.mem_range.mpr hj);rw[e1,e2] at this;simp only[Bool.and_eq_true,beq_iff_eq] at this;rw[hN];exact this
section
variable {X:Cx}
theorem d9o:OpR X (compareOp .Is) (fun x y H Q=>∃a b,x=.bl a/\y=.bl b/\Q (.bl (a == b)) H):=by
 intro pins s σ H x y v u Q I rx ry h;obtain⟨a,b,rfl,rfl,q⟩:=h;cases rx;cases ry;exact is_bool (b4m I q rfl)
def c1w(K:L2.FG)(H:Hp):V->String->Prop
 |.non,n=>n="NoneType"
 |.bl _,n=>n="bool"
 |.int _,n=>n="int"
 |.str _,n=>n="str"
 |.ref a,n=>(n="list"/\∃xs,SqL K H a xs)\/(n="tuple"/\∃xs,SqT K H a xs)
 |_,_=>False
def isiB(k T:String):Bool:=k == T || (k == "bool" && T == "int")
theorem d1l:CallR X (.builtin "isinstance") (fun xs H Q=>∃x k T,xs=[x,.ty T]/\c1w X.K H x k/\(T="int"\/T="str"\/T="bool"\/T="list"\/T="tuple")/\Q (.bl (isiB k T)) H):=by
 intro pins s σ H xs us Q I r h;obtain⟨x,k,T,rfl,hk,hT,q⟩:=h;obtain⟨u,w',rfl,rx,ry⟩:=vals2 r;cases ry;have fin:∀b,b=isiB k T->EP X pins σ Q (.bool b) s:=fun b e=>b4m I q e.symm
 have fin':∀b,b=isiB k T->EP X pins σ Q (.bool b) { s with toks:=s.toks+1}:=fun b e=>b4m (I.tok _) q e.symm
 cases x with
 |non=>
  cases rx;have hk:k="NoneType":=hk;subst hk;rcases hT with rfl|rfl|rfl|rfl|rfl
  ·exact IsiPair.NoneType_int (fin' _ (by decide))
  ·exact IsiPair.NoneType_str (fin' _ (by decide))
  ·exact IsiPair.NoneType_bool (fin' _ (by decide))
  ·exact IsiPair.NoneType_list (fin' _ (by decide))
  ·exact IsiPair.NoneType_tuple (fin' _ (by decide))
 |bl b=>
  cases rx;have hk:k="bool":=hk;subst hk;rcases hT with rfl|rfl|rfl|rfl|rfl
  ·exact IsiPair.bool_int (fin _ (by decide))
  ·exact IsiPair.bool_str (fin' _ (by decide))
  ·exact IsiPair.bool_bool (fin _ (by decide))
  ·exact IsiPair.bool_list (fin' _ (by decide))
  ·exact IsiPair.bool_tuple (fin' _ (by decide))
 |int i=>
  obtain⟨t,rfl⟩:=rx;have hk:k="int":=hk;subst hk;rcases hT with rfl|rfl|rfl|rfl|rfl
  ·exact IsiPair.int_int (fin _ (by decide))
  ·exact IsiPair.int_str (fin' _ (by decide))
  ·exact IsiPair.int_bool (fin' _ (by decide))
  ·exact IsiPair.int_list (fin' _ (by decide))
  ·exact IsiPair.int_tuple (fin' _ (by decide))
 |str z=>
  obtain⟨t,rfl⟩:=rx;have hk:k="str":=hk;subst hk;rcases hT with rfl|rfl|rfl|rfl|rfl
  ·exact IsiPair.str_int (fin' _ (by decide))
  ·exact IsiPair.str_str (fin _ (by decide))
  ·exact IsiPair.str_bool (fin' _ (by decide))
  ·exact IsiPair.str_list (fin' _ (by decide))
  ·exact IsiPair.str_tuple (fin' _ (by decide))
 |ref a=>
  cases rx;rcases hk with⟨hk,ys,hs⟩|⟨hk,ys,hs⟩
  ·subst hk;obtain⟨its,_,⟨o,n,e,hc,_⟩,_⟩:=I.list hs;rcases hT with rfl|rfl|rfl|rfl|rfl
   ·exact IsiPair.list_int e hc (fin' _ (by decide))
   ·exact IsiPair.list_str e hc (fin' _ (by decide))
   ·exact IsiPair.list_bool e hc (fin' _ (by decide))
   ·exact IsiPair.list_list e hc (fin _ (by decide))
   ·exact IsiPair.list_tuple e hc (fin' _ (by decide))
  ·subst hk;obtain⟨its,_,⟨o,e,hc,_⟩,_⟩:=I.tuple hs;rcases hT with rfl|rfl|rfl|rfl|rfl
   ·exact IsiPair.tuple_int e hc (fin' _ (by decide))
   ·exact IsiPair.tuple_str e hc (fin' _ (by decide))
   ·exact IsiPair.tuple_bool e hc (fin' _ (by decide))
   ·exact IsiPair.tuple_list e hc (fin' _ (by decide))
   ·exact IsiPair.tuple_tuple e hc (fin _ (by decide))
 |byt _=>exact False.elim hk
 |flt _=>exact False.elim hk
 |ty _=>exact False.elim hk
theorem d9p{n:String}(hg:Gl X x)(hm:X.mg x=none)(hv:bootBuiltins x=some (.type n))(hn:x≠"__name__":=by decide)(hd:(x == ("__debug__":Str))=false:=by decide):PE X (.Name x pos) (tC (.ty n)):=
 c5k hg hm hv rfl hn hd
theorem c0g(its:List Value)(bs:List Bool)(hv:Vals (bs.map V.bl) its):TruthOf prog w A (fun i v=>its.toArray[i]?=some v) (fun i=>bs.getD i false):=by
 intro i v s Q E hP hQ;have hP':its[i]?=some v:=by simpa using hP
 have hl:=hv.length;rw[List.length_map] at hl;have hi:i < its.length:=(List.getElem?_eq_some_iff.mp hP').1;have hb:(bs.map V.bl)[i]?=some (.bl bs[i]):=by simp[show i < bs.length by omega]
 obtain⟨u,hu,ru⟩:=hv.get hb;rw[hP'] at hu;cases hu;cases ru;have e:bs.getD i false=bs[i]:=by simp[show i < bs.length by omega]
 have hQ':Q (bs.getD i false) s:=hQ;rw[e] at hQ';exact wpAny_truthy_bool hQ'
theorem c6e(bs:List Bool):(List.range bs.length).all (fun i=>bs.getD i false)=bs.all id:=by
 rw[Bool.eq_iff_iff,List.all_eq_true,List.all_eq_true];constructor
 ·intro h b hb;obtain⟨i,hi,e⟩:=List.mem_iff_getElem.mp hb;have:=h i (List.mem_range.mpr hi);simp[hi] at this;rw[<-e];exact this
 ·intro h i hi;have hi:=List.mem_range.mp hi;have:=h bs[i] (List.getElem_mem hi);simp[hi];exact this
theorem c6f(hc:X.calm=true):CallR X (.builtin "all") (fun xs H Q=>∃(a:Addr) (bs:List Bool),xs=[.ref a]/\SqL X.K H a (bs.map V.bl)/\Q (.bl (bs.all id)) H):=by
 intro pins s σ H xs us Q I r h;obtain⟨a,bs,rfl,hs,q⟩:=h;obtain⟨u,rfl,ru⟩:=vals1 r;cases ru;obtain⟨its,rv,p,hz⟩:=I.list hs;have hl:=rv.length;rw[List.length_map] at hl;refine call_all_walk (wpAny_pyIter_list p.isList ?_);have hne:a≠s.heap.objs.size:=by obtain⟨o,n,e,_⟩:=p;exact Nat.ne_of_lt (Heap.lt_size e)
 refine⟨s.heap.objs.size,_,_,its.toArray.size,_,_,fun i=>bs.getD i false,rfl,Walks.list (A:=X.A.in1) (show X.A.in1.handled=none from I.ok.hd hc) _ a hne its.toArray,⟨⟨_,Heap.get?_push_size _ rfl,rfl,rfl⟩,?_⟩,c0g its bs rv,fun h' tk hk=>?_⟩
 ·exact p.isList.at fun o e=>Heap.get?_push_of_some _ e
 ·have e1:its.toArray.size=bs.length:=by rw[List.size_toArray,<-hl]
  refine⟨.bl (bs.all id),H,I.kept (h':=h') (t':=tk) (fun b o e=>hk b o (fun z=>absurd (Nat.lt_of_lt_of_le (Heap.lt_size e) (Nat.le_of_eq (List.mem_singleton.mp z).symm)) (Nat.lt_irrefl _)) (Heap.get?_push_of_some _ e)),?_,q⟩
  show Value.bool _=Value.bool _;rw[e1,c6e]
end
structure DefAt (K:L2.FG) (mg:Str->Option Value) (x:Str) (st:Stmt) (f:Addr) (fd:FuncData) (ps:List Str):Prop where
 fn:Fun K x x st f fd
 mg:mg x=some (.ref f)
 bd:Binds K fd ps []
section
variable {X:Cx} {k:Nat} {f:Addr} {fd:FuncData} {ps:List Str} {sp:Sp} {x:Str} {p pos:Pos} {e:Expr} {es:List Expr} {t:TA} {st:Stmt}
theorem pcall(D:DefAt X.K X.mg x st f fd ps)(F:FnOk X.prog X.w X.K X.mg X.base CX0 k f fd ps sp)(hr:Room k X.A)(ha:PA X (e::es) t)(hg:Gl X x:=by rfl)(hdb:(x == ("__debug__":Str))=false:=by decide)
  (he:starEach (e::es) X.env=(false,eval e X.env)::starEach es X.env:=by rfl) (hpl:(backTo pos (starEach es X.env)).any (·.1)=false:=by rfl) :
  PE X (.Call (.Name x p) (e::es) [] pos) (tCall sp [] E1 t):=c5v F hr hg D.mg D.fn.kp D.bd .nil pass0 ha hdb he hpl
end
section
variable {X:Cx} {a b:Expr} {rest:List Expr} {pos:Pos} {ta tb:TE} {tA tB:TT}
end
theorem Same.put{H':Hp}{o:HO}(s:Same H H')(h:H' a=none):Same H (upd H' a o):=fun b u e=>by
 have z:=s b u e;rw[a0v (a1u z h)];exact z
theorem a2r{o:HO}(h:H a=none):Same H (upd H a o):=(Same.refl H).put h
theorem b2i{α:Type}{xs:List α}{k:Int}(d:α)(h0:0<=k)(hk:k < xs.length):atI xs k=some (xs.getD k.toNat d):=by
 have hk':k.toNat < xs.length:=by omega
 have e:xs[k.toNat]?=some (xs.getD k.toNat d):=by simp[hk']
 have z:=a3i e
 rwa [show((k.toNat:Nat):Int)=k by omega] at z
theorem c1x:bootBuiltins "int"=some (.type "int"):=by decide +kernel
theorem d9q:bootBuiltins "str"=some (.type "str"):=by decide +kernel
theorem b5u:bootBuiltins "list"=some (.type "list"):=by decide +kernel
theorem d3v:bootBuiltins "isinstance"=some (.builtin "isinstance"):=by decide +kernel
theorem d9r:bootBuiltins "all"=some (.builtin "all"):=by decide +kernel
theorem a4q:bootBuiltins "len"=some (.builtin "len"):=by decide +kernel
theorem d3w(h:n<=1000):n<=sizeLine:=Nat.le_trans h (by decide)
section
variable {X:Cx}
def insV(xs:List V)(k:Nat)(y:V):List V:=xs.take k++y::xs.drop k
theorem c0h(xs:List V)(k:Nat)(y:V):(insV xs k y).length=xs.length+1:=by
 unfold insV;rw[List.length_append,List.length_cons,List.length_take,List.length_drop];omega
def c6g:V->List V->Hp->VK->Prop:=fun x vs H Q=>∃l xs i y,x=.ref l/\vs=[.int i,y]/\H l=some (.lst xs)/\0<=i/\i < 2 ^ 62/\xs.length < sizeLine/\Q .non (upd H l (.lst (insV xs i.toNat y)))
theorem a9r:MtM X "list.insert" c6g:=by
 intro pins s σ H x vs v us Q I rx rv h;obtain⟨l,xs,i,y,rfl,rfl,hH,h0,hi,hz,q⟩:=h;cases rx;obtain⟨u,u',rfl,⟨t,rfl⟩,ru⟩:=rv.two;obtain⟨z,its,n,r,hl,e⟩:=I.lstM hH;have hfit:¬(!Builtin.List.listFitsIndex i)=true:=by
  unfold Builtin.List.listFitsIndex;simp;omega
 refine call_meets F.slot_list_insert ⟨_,e,rfl⟩ F.entry_list_insert (F.args_list_insert_3 _ _ _) (PySem.AutoSeq1.list_insert_list_int_val_1 l its.toArray n i t u' hfit (by rw[List.size_toArray];omega)) ⟨e,?_⟩
 refine⟨.non,_,I.lset (its':=its.take i.toNat++u'::its.drop i.toNat) hH e ?_ ((r.take i.toNat).append (.cons ru (r.drop i.toNat))) ?_,rfl,q⟩
 ·have h1:¬i < 0:=by omega
  simp only[h1,if_false];apply Array.ext';simp only[Array.toList_append,Array.toList_push,Array.toList_extract,List.size_toArray];rw[List.extract_eq_drop_take,List.extract_eq_drop_take];have e1:min i.toNat its.length - 0=min i.toNat its.length:=by omega
  rw[e1];simp only[List.drop_zero];have e2:its.take (min i.toNat its.length)=its.take i.toNat:=by rw[List.take_eq_take_iff];omega
  rw[e2];by_cases hc:i.toNat<=its.length
  ·rw[Nat.min_eq_left hc,List.take_of_length_le (l:=List.drop i.toNat its) (by rw[List.length_drop];omega)]
   simp
  ·have hc:its.length<=i.toNat:=by omega
   rw[Nat.min_eq_right hc,List.drop_of_length_le (Nat.le_refl _),List.drop_of_length_le hc];simp
 ·show(insV xs i.toNat y).length<=sizeLine;rw[c0h];omega
def Itc(a c:Int)(n:Nat):It:=⟨fun i _=>i < n,fun i H x H'=>H'=H/\x=.int (a+i * c),fun i _=>n<=i⟩
theorem c0i(it:Addr)(a c:Int)(n:Nat):Turn P w K tg (Itc a c n) [it] it (fun i h=>IsRangeIter h it (a+(i:Nat) * c) ((n:Int) - (i:Nat)) c) where
 mem:=by simp
 obj:=fun i h st b hb=>by
  have e:b=it:=by simpa using hb
  subst e;exact⟨_,st,fun v z=>by
   have z':Data.fields _=Data.cell v:=z;cases z'⟩
 keep:=fun i h h' st k=>k it (by simp) _ st
 item:=by
  intro X hP hw hK hc i pins s σ H E I hf st hg;subst hP hw hK;obtain⟨f0,f1,f2,f3,f4,f5⟩:=hf it (by simp)
  have W:=Walks.range (prog:=X.prog) (w:=X.w) (I.ok.hd hc) it a c n;refine W.item i s _ _ hg st fun v h' tk hv st' kk=>?_
  obtain⟨t,rfl⟩:=hv;have I1:Inv X pins σ H { s with heap:=h',toks:=tk}:=I.turned (fun b o hb e=>kk b o (by simpa using hb) e) f0 f1 f3 f4 f5
  exact⟨_,rfl,d1a (s:={ s with heap:=h',toks:=tk}) (n:="range_iterator") st' rfl rfl (by decide) ⟨.int (a+i * c),H,I1,⟨t,rfl⟩,⟨rfl,rfl⟩,st',fun b hb=>(hf b hb).1⟩⟩
 done:=by
  intro X hP hw hK hc i pins s σ H E I hf st hg;subst hP hw hK;obtain⟨f0,f1,f2,f3,f4,f5⟩:=hf it (by simp)
  exact wpAny_pyNext_range_end (I.ok.hd hc) st (by have:n<=i:=hg;omega) fun h' eb=>⟨rfl,I.turned (t':=s.toks) (fun b o hb e=>eb b o hb e) f0 f1 f3 f4 f5⟩
 self:=fun _ _ _ _ _ st h=>wpAny_pyIter_rangeiter st h
def iRngD(ta:TA):TI:=fun σ H R=>ta σ H fun vs H1=>∃i j:Int,vs=[.int i,.int j,.int (-1)]/\(-(2 ^ 20)<=i/\i < 2 ^ 20 /\ -(2 ^ 20)<=j/\j < 2 ^ 20)/\R (Itc i (-1) (i - j).toNat) H1
theorem c6h{a b c:Expr}{ta:TA}{p:Pos}(hg:Gl X "range")(hm:X.mg "range"=none)(ha:PA X [a,b,c] ta)(hs:starEach [a,b,c] X.env=[(false,eval a X.env),(false,eval b X.env),(false,eval c X.env)]:=by rfl)
  (hs2:starEach [b,c] X.env=[(false,eval b X.env),(false,eval c X.env)]:=by rfl):PI X tg (.Call (.Name "range" p) [a,b,c] [] pos) (iRngD ta):=by
 intro pins s σ H R I h;refine Call_ (b2t I hg hm boot_range (PyProof.Rows.callWith_type1 (thn (ha pos pins s σ H _ I h) fun us s1 ⟨vs,H1,I1,r1,q1⟩=>?_) (by rw[hs,hs2]) (by rw[hs2];rfl)))
 obtain⟨i,j,e,⟨q1,q2,q3,q4⟩,q⟩:=q1;subst e;cases r1 with
 |cons r rr=>
  cases rr with
  |cons r' rr=>
   cases rr with
   |cons r'' rr=>
    cases rr;obtain⟨t,rfl⟩:=r;obtain⟨t',rfl⟩:=r';obtain⟨t'',rfl⟩:=r'';refine call_range_3 (by decide) ?_ (Or.inl (PyProof.noPylong_small (by omega)))
    refine wpAny_pyIter_range (IsRange.new ..) (PySem.W.small_down (by omega) (by omega) (by omega) (by omega)) ?_
    have I2:Inv X pins σ H1 { s1 with heap:=s1.heap.push { cls:=.type "range",data:=.fields #[.int i t,.int j t',.int (-1) t'']}}:=I1.kept (t':=s1.toks) fun b o e=>Heap.get?_push_of_some _ e
    refine⟨(s1.heap.push { cls:=.type "range",data:=.fields #[.int i t,.int j t',.int (-1) t'']}).objs.size,[(s1.heap.push { cls:=.type "range",data:=.fields #[.int i t,.int j t',.int (-1) t'']}).objs.size],_,_,H1,rfl,
     I2.kept (t':=s1.toks) fun b o e=>Heap.get?_push_of_some _ e,c0i _ i (-1) (i - j).toNat,?_,fun b hb=>?_,q⟩
    ·have e1:i+((0:Nat):Int) * (-1)=i:=by simp
     have e2:(((i - j).toNat:Nat):Int) - ((0:Nat):Int)=Builtin.Range.rangeSize i j (-1):=by rw[PySem.W.rangeSize_downNat];omega
     show IsRangeIter _ _ (i+((0:Nat):Int) * (-1)) ((((i - j).toNat:Nat):Int) - ((0:Nat):Int)) (-1);rw[e1,e2];exact Heap.get?_push_size _ rfl
    ·have e:b=(s1.heap.push { cls:=.type "range",data:=.fields #[.int i t,.int j t',.int (-1) t'']}).objs.size:=by simpa using hb
     subst e;exact I2.fpOk (Nat.le_refl _) (I2.hok.fresh (Nat.le_refl _))
theorem c4k{a c:Int}{tb:TS}{D:Ends}(Pv:Nat->St->Hp->Prop)(h0:Pv 0 σ H)
  (hs:∀i σ H,i < n->Pv i σ H->g (.int (a+i * c)) σ H fun σ2 H2=>tb { D with nx:=Pv (i+1),ct:=Pv (i+1),bk:=D.nx} σ2 H2) (hd:∀σ H,Pv n σ H->D.nx σ H) :
  ∃W:Nat->Nat->St->Hp->Prop,(∃m,W 0 m σ H)/\∀i m σ H,W i m σ H->
   ((Itc a c n).stop i H/\D.nx σ H)\/((Itc a c n).go i H/\∃N:St->Hp->Prop,(∀σ' H',N σ' H'->∃m',m' < m/\W (i+1) m' σ' H')/\∀x H',(Itc a c n).yld i H x H'->g x σ H' fun σ2 H2=>tb { D with nx:=N,ct:=N,bk:=D.nx} σ2 H2):=by
 refine⟨fun i m σ H=>m=n - i/\i<=n/\Pv i σ H,⟨n,by simp,Nat.zero_le _,h0⟩,?_⟩
 rintro i m σ H ⟨rfl,hi,p⟩;by_cases hlt:i < n
 ·refine .inr ⟨hlt,Pv (i+1),fun σ' H' p'=>⟨n - (i+1),by omega,rfl,hlt,p'⟩,fun x H' y=>?_⟩
  obtain⟨e,y⟩:=y;subst e y;exact hs i σ _ hlt p
 ·have e:i=n:=by omega
  subst e;exact .inl ⟨Nat.le_refl _,hd σ H p⟩
def rSlS:V->Option Int->Option Int->Hp->VK->Prop:=fun x lo hi H Q=>∃z,x=.str z/\z.length<=sizeLine/\Q (.str (Txt.slice z lo hi)) H
theorem sl_str:SlR X rSlS:=by
 intro pins s σ H x v vl vu lo hi sl Q I rx hs pl pu h;obtain⟨z,rfl,hz,q⟩:=h;obtain⟨t,rfl⟩:=rx;refine⟨"str",_,F.slot_str_getitem.lookup,typeIs_str _ _ _,?_⟩;have fin:∀t' k,EP X pins σ Q (.str (Txt.slice z lo hi) t') { s with toks:=k}:=fun t' k=>⟨.str _,H,I.tok _,⟨_,rfl⟩,q⟩
 cases pl with
 |none=>
  cases pu with
  |none=>exact wpAny_getItem_str_slice (l:=none) (u:=none) (st:=none) hs rfl (post_val_or_str ⟨Nat.le_trans (Txt.slice_le z _ _) hz,fin⟩)
  |int j tj=>exact wpAny_getItem_str_slice (l:=none) (u:=some (j,tj)) (st:=none) hs rfl (post_val_or_str ⟨Nat.le_trans (Txt.slice_le z _ _) hz,fin⟩)
 |int i ti=>
  cases pu with
  |none=>exact wpAny_getItem_str_slice (l:=some (i,ti)) (u:=none) (st:=none) hs rfl (post_val_or_str ⟨Nat.le_trans (Txt.slice_le z _ _) hz,fin⟩)
  |int j tj=>exact wpAny_getItem_str_slice (l:=some (i,ti)) (u:=some (j,tj)) (st:=none) hs rfl (post_val_or_str ⟨Nat.le_trans (Txt.slice_le z _ _) hz,fin⟩)
theorem c4l:OpR X (binaryOp .Mult) (fun x y H Q=>∃z n,x=.str z/\y=.int n/\MulOk z n/\Q (.str (Txt.mul z n)) H):=by
 intro pins s σ H x y v u Q I rx ry h;obtain⟨z,n,rfl,rfl,hm,q⟩:=h;obtain⟨t,rfl⟩:=rx;obtain⟨t',rfl⟩:=ry;exact SB.mul hm fun t' k=>⟨.str _,H,I.tok _,⟨_,rfl⟩,q⟩
end
inductive EqD (K:L2.FG) (H:Hp):Nat->V->V->Bool->Prop
 |flat {d:Nat} {x y:V}:flatV x=true->flatV y=true->EqD K H d x y (eqV x y)
 |same {d:Nat} {a:Addr}:EqD K H d (.ref a) (.ref a) true
 |lst {d:Nat} {a b:Addr} {xs ys:List V} {e:Nat->Bool}:a≠b->SqL K H a xs->SqL K H b ys->xs.length=ys.length->(∀(i:Nat) x y,xs[i]?=some x->ys[i]?=some y->EqD K H d x y (e i))->EqD K H (d+1) (.ref a) (.ref b) ((List.range xs.length).all e)
 |lstN {d:Nat} {a b:Addr} {xs ys:List V}:a≠b->SqL K H a xs->SqL K H b ys->xs.length≠ys.length->EqD K H (d+1) (.ref a) (.ref b) false
 |tup {d:Nat} {a b:Addr} {xs ys:List V} {e:Nat->Bool}:a≠b->SqT K H a xs->SqT K H b ys->(∀(i:Nat) x y,xs[i]?=some x->ys[i]?=some y->EqD K H d x y (e i))->EqD K H (d+1) (.ref a) (.ref b) ((List.range (min xs.length ys.length)).all e && xs.length == ys.length)
section
variable {X:Cx} {pins:List (Addr×Obj)} {σ:St} {H:Hp} {s:Shared}
theorem Vals.at{xs:List V}{us:List Value}(r:Vals xs us){j:Nat}(h:j < us.toArray.size):∃x,xs[j]?=some x/\RelV x us.toArray[j]:=by
 have hl:=r.length;have h':j < us.length:=by simpa using h
 have hx:xs[j]?=some xs[j]:=by simp[show j < xs.length by omega]
 obtain⟨u,hu,ru⟩:=r.get hx;have:us[j]?=some us[j]:=by simp[h']
 rw[this] at hu;cases hu;exact⟨xs[j],hx,by simpa using ru⟩
end
section
variable {X:Cx}
theorem d1m(K:L2.FG)(hK:X.K=K:=by rfl):IxR X (rIxL K):=hK ▸ d5n
theorem d5s(K:L2.FG)(hK:X.K=K:=by rfl):IxR X (rIxT K):=hK ▸ d9l
theorem b5v(K:L2.FG)(hK:X.K=K:=by rfl):CallR X (.builtin "len") (fun xs H Q=>∃p ys,xs=[.ref p]/\(SqL K H p ys\/SqT K H p ys)/\Q (.int ys.length) H):=hK ▸ b7y
theorem d1n(K:L2.FG)(hK:X.K=K:=by rfl):SlR X (rSlL K):=hK ▸ d5o
theorem d5t(K:L2.FG)(hK:X.K=K:=by rfl):SlR X (rSlT K):=hK ▸ d9k
theorem b8e(K:L2.FG)(hK:X.K=K:=by rfl):CallR X (.builtin "isinstance") (fun xs H Q=>∃x k T,xs=[x,.ty T]/\c1w K H x k/\(T="int"\/T="str"\/T="bool"\/T="list"\/T="tuple")/\Q (.bl (isiB k T)) H):=hK ▸ d1l
theorem a7a(K:L2.FG)(hK:X.K=K:=by rfl):CallR X (.type "list") (fun xs H Q=>∃p ys,xs=[.ref p]/\(SqL K H p ys\/SqT K H p ys)/\∀l,H l=none->Q (.ref l) (upd H l (.lst ys))):=hK ▸ b8a
theorem c6i(K:L2.FG){a:Expr}{ta:TE}(ha:PE X a ta)(he:∀whole,isTrue a X.env whole=(do let v <-whole;standAt a.pos;holding [v] (truthy v)))(hK:X.K=K:=by rfl):
  PT X a (fun σ H Q=>ta σ H fun x H'=>∃k,TruV K x H' k/\Q k H'):=hK ▸ d1e ha he
theorem a8m(K:L2.FG)(hl:PE X l tl)(hK:X.K=K:=by rfl):PI X tg l (iList K tl):=hK ▸ c5o hl
end
theorem a7u(hr:Room k A):A.units+40 < cLine:=Nat.lt_of_le_of_lt (Nat.add_le_add_left (by decide:40<=64) _) hr.units
end L2
namespace Carry
open PySem L2
variable{m:Int}
def SB(f:Addr)(H H':Hp):Prop:=∀b o,H b=some o->b≠f->H' b=some o
structure Feed where
 ns:List Int
 pl:Int
 style:Int
 mode:Int
 num:Int
def feedO(sl:Addr)(F:Feed):HO:=.lst [.ref sl,.int F.pl,.int F.style,.int F.mode,.int F.num]
structure FeedAt (H:Hp) (f sl:Addr) (F:Feed):Prop where
 fo:H f=some (feedO sl F)
 so:H sl=some (.lst (F.ns.map V.int))
 pos:0<=F.pl
 len:F.ns.length<=63
def cellOf(F:Feed):Int:=if 0 < F.ns.length then F.ns.getD (F.pl % F.ns.length).toNat 0+F.pl / F.ns.length * 31 else F.pl
def drawV(F:Feed)(m:Int):Int:=if F.mode=1 then F.num % m else(cellOf F * 48271+31 * F.pl) % 1000003 * 69621 % 999983 % m
def drawF(F:Feed)(m:Int):Feed:=if F.mode=1 then{ F with num:=F.num / m} else{ F with pl:=F.pl+1}
theorem a0u(F:Feed)(h:0 < m):0<=drawV F m:=by
 unfold drawV;split
 ·exact Int.emod_nonneg _ (by omega)
 ·exact Int.emod_nonneg _ (by omega)
theorem a2j(F:Feed)(h:0 < m):drawV F m < m:=by
 unfold drawV;split
 ·exact Int.emod_lt_of_pos _ h
 ·exact Int.emod_lt_of_pos _ h
theorem d1o(F:Feed)(m:Int):(drawF F m).ns=F.ns:=by unfold drawF;split <;> rfl
theorem a2u(F:Feed)(m:Int):(drawF F m).style=F.style:=by unfold drawF;split <;> rfl
theorem d1p(F:Feed)(m:Int)(h:0<=F.pl):0<=(drawF F m).pl:=by
 unfold drawF;split
 ·exact h
 ·show 0<=F.pl+1;omega
def a2h(st k:Int):Str:=
 if st % 4=3 then(if 7 < k then Txt.mul "y" (k - 7) else Txt.slice "zbdgkafe" none (some (k+1)))
 else(([""  ,"ab","zzz"]:List Str).getD (st % 4).toNat ""++chr1 (("dbgkafelcjhi":Str).cps.toList.getD k.toNat 0))++(["","ba","zz"]:List Str).getD (st / 4 % 3).toNat ""
theorem b4g:∀st:Nat,st < 12->∀i:Nat,i < 12->∀j:Nat,j < 12->a2h st i=a2h st j->i=j:=by decide +kernel
theorem b1v{x:Int}{n:Nat}(h0:0<=x)(h1:x < n):∃k:Nat,x=k/\k < n:=⟨x.toNat,by omega,by omega⟩
theorem b1h{st i j:Int}(hs:0<=st)(hs':st < 12)(hi:0<=i)(hi':i < 12)(hj:0<=j)(hj':j < 12)(e:a2h st i=a2h st j):i=j:=by
 obtain⟨s,rfl,s1⟩:=b1v (n:=12) hs hs';obtain⟨a,rfl,a1⟩:=b1v (n:=12) hi hi';obtain⟨b,rfl,b1⟩:=b1v (n:=12) hj hj';rw[b4g s s1 a a1 b b1 e]
structure Belt where
 name:Str
 long:Int
 ring:Bool
 outs:List Str
structure House where
 belts:List Belt
 carts:List Str
def strs'(xs:List Str):List V:=xs.map V.str
def d9s(H:Hp)(v:V)(b:Belt):Prop:=∃p o,v=.ref p/\H p=some (.tup [.str b.name,.int b.long,.bl b.ring,.ref o])/\H o=some (.lst (strs' b.outs))
structure HouseAt (H:Hp) (p pb pc:Addr) (refs:List V) (h:House):Prop where
 top:H p=some (.tup [.ref pb,.ref pc])
 bl:H pb=some (.lst refs)
 ct:H pc=some (.lst (strs' h.carts))
 each:Paired (d9s H) refs h.belts
def insS(xs:List Str)(k:Nat)(y:Str):List Str:=xs.take k++y::xs.drop k
theorem c1y(xs:List Str)(k:Nat)(y:Str):(insS xs k y).length=xs.length+1:=by
 unfold insS;rw[List.length_append,List.length_cons,List.length_take,List.length_drop];omega
theorem mem_insS{xs:List Str}{k:Nat}{y z:Str}:z∈insS xs k y↔z=y\/z∈xs:=by
 unfold insS;rw[List.mem_append,List.mem_cons];constructor
 ·rintro(h|h|h)
  ·exact .inr (List.mem_of_mem_take h)
  ·exact .inl h
  ·exact .inr (List.mem_of_mem_drop h)
 ·rintro(h|h)
  ·exact .inr (.inl h)
  ·rw[<-List.take_append_drop k xs,List.mem_append] at h;rcases h with h|h
   ·exact .inl h
   ·exact .inr (.inr h)
def a3u(later carts:List Str)(p:Feed×List Str):Feed×List Str:=
 let m:Int:=later.length+carts.length
 let out:=(later++carts).getD (drawV p.1 m).toNat ""
 if p.2.contains out=true then(drawF p.1 m,p.2)
 else(drawF (drawF p.1 m) (p.2.length+1),insS p.2 (drawV (drawF p.1 m) (p.2.length+1)).toNat out)
def a3n(later carts:List Str):Nat->Feed×List Str->Feed×List Str
 |0,p=>p
 |n+1,p=>a3u later carts (a3n later carts n p)
def outsM(F:Feed)(later carts:List Str):Feed×List Str:=
 let p:=a3n later carts (1+drawV F 3).toNat (drawF F 3,[])
 let hand:=carts.getD 0 ""
 if(!p.2.contains hand && decide (((p.2.filter fun o=>later.contains o).length:Int)=0))=true then(drawF p.1 (p.2.length+1),insS p.2 (drawV p.1 (p.2.length+1)).toNat hand) else p
def a4r(st:Int)(n:Nat):List Str:=(List.range n).map fun(k:Nat)=>a2h st (11 - (0+(k:Int)))
def b01(b:Bool):Int:=if b=true then 1 else 0
def a6j(many wide:Int)(carts:List Str)(i:Nat)(p:Feed×List Belt):Feed×List Belt:=
 let k:Int:=many - 1+(i:Int) * (-1)
 let ring:Bool:=decide (V.int (drawV p.1 3)=V.int 0)
 let F1:=drawF p.1 3
 let long:=1+b01 ring+drawV F1 4+wide * b01 (decide (V.int k=V.int 0))
 let o:=outsM (drawF F1 4) (p.2.map Belt.name) carts
 (o.1,⟨a2h o.1.style k,long,ring,o.2⟩::p.2)
def a1i(many wide:Int)(carts:List Str):Nat->Feed×List Belt->Feed×List Belt
 |0,p=>p
 |n+1,p=>a6j many wide carts n (a1i many wide carts n p)
def wideM(many:Int)(F:Feed):Feed×Int:=if many < 3 then(drawF (drawF F 2) 20,drawV F 2 * drawV (drawF F 2) 20) else(F,0)
def a6a(c:Int)(F:Feed):Feed×House:=
 let many:=drawV F 7
 let F1:=drawF F 7
 let carts:=a4r F.style (1+drawV F1 c).toNat
 let w:=wideM many (drawF F1 c)
 let r:=a1i many w.2 carts many.toNat (w.1,[])
 (r.1,⟨r.2,carts⟩)
theorem b5w(later carts:List Str)(p:Feed×List Str):(a3u later carts p).1.style=p.1.style:=by
 unfold a3u;dsimp only;split <;> simp only[a2u]
theorem a7b(later carts:List Str)(p:Feed×List Str):∀n,(a3n later carts n p).1.style=p.1.style
 |0=>rfl
 |n+1=>(b5w later carts _).trans (a7b later carts p n)
theorem a9c(F:Feed)(later carts:List Str):(outsM F later carts).1.style=F.style:=by
 unfold outsM;dsimp only;split
 ·simp only[a2u,a7b]
 ·simp only[a2u,a7b]
theorem a6p(many wide:Int)(carts:List Str)(p:Feed×List Belt):∀n,(a1i many wide carts n p).1.style=p.1.style
 |0=>rfl
 |n+1=>by
  show(outsM _ _ _).1.style=_;simp only[a9c,a2u];exact a6p many wide carts p n
theorem a6k(many wide:Int)(carts:List Str)(p:Feed×List Belt):∀n,(a1i many wide carts n p).2.length=p.2.length+n
 |0=>rfl
 |n+1=>by
  show(_::(a1i many wide carts n p).2).length=_;rw[List.length_cons,a6k many wide carts p n];omega
theorem c0j(many:Int)(F:Feed):(wideM many F).1.style=F.style:=by
 unfold wideM;split <;> simp only[a2u]
theorem b1i(st:Int)(n:Nat):(a4r st n).length=n:=by unfold a4r;rw[List.length_map,List.length_range]
end Carry
namespace L2
open PySem PySem.Spec PyProof.Rows
variable{base:Heap}{env:Env}{outer:List Env}{L e C:Addr}{dx:Option Addr}{n:Nat}{H:Hp}{Q:Unit->Shared->Prop}
structure LeftX (fs ch:List Addr) (h h':Heap):Prop where
 keep:∀b o,b∉fs->b∉ch->h.get? b=some o->h'.get? b=some o
 slot:∀b o,b∈fs->b∉ch->h.get? b=some o->∃sl,h'.get? b=some { o with slots:=sl}
def FlyX(n:Nat)(h:Heap)(H:Hp)(e C:Addr)(dx:Option Addr):Prop:=n<=e/\H e=none/\∃oe vs,h.get? e=some oe/\oe.cls=.ref C/\oe.dict=dx/\oe.data=.fields vs/\1 < vs.size/\
 (vs[1]?=some .none\/∃T oT ts,vs[1]?=some (.ref T)/\n<=T/\H T=none/\T≠e/\h.get? T=some oT/\oT.data=.fields ts/\ts[3]?=some .none)
theorem c6j(f:Array Value->Array Value)(o:Obj):(Obj.mapFields f o).dict=o.dict:=by obtain⟨c,d,dt,sl⟩:=o;cases dt <;> rfl
section
variable {M:Model} {A:Around} {E:Value->Shared->Prop} {s:Shared}
theorem c6k{oe:Obj}{vs:Array Value}{head:Value}{had:Bool}
  (hfr:A.frames=some (env::outer)) (hl:s.heap.FunFrames base (env::outer)) (hf:env.frame=some L) (he:s.heap.get? e=some oe) (hc:oe.cls=.ref C) (hx:oe.dict=dx) (hd:oe.data=.fields vs) (hsz:1 < vs.size) (hn:n<=s.heap.objs.size) (hne:n<=e) (hHe:H e=none) (hH:∀a,s.heap.objs.size<=a->H a=none)
  (h:∀h',LeftX (frs (env::outer)) [e] s.heap h'->FlyX n h' H e C dx->Q () { s with heap:=h'}) :
  wpAny M A (do let a <-frameOf env;let pl <-entryPlaceOf L had;let b <-EntryCells.newEntry head a .none (rawInt L) .none pl;setField (.ref e) 1 b) (fun _ s'=>wpAny M A (setFlight (.ref e) none) Q E s') E s:=by
 have ene:e∉frs (env::outer):=fun m=>by
  obtain⟨_,o,ho,hnf⟩:=hl.mem m;rw[he] at ho;cases ho;exact hnf vs hd
 refine wpAny_bind (wpAny_frameOf_fun hfr hl hf fun h1 so=>wpAny_bind (wpAny_entryPlaceOf fun pl hpl=>?_))
 unfold EntryCells.newEntry newFields;refine wpAny_bind (wpAny_newObj_type ?_ (hpl.sizeOk5 _ _ _ _ _));generalize eN:({ cls:=.type "traceback",dict:=none,data:=.fields ([head,.ref L,.none,rawInt L,.none]++(if pl.isEmpty then List.replicate 6 Value.none else pl)).toArray}:Obj)=oN
 have e1:h1.get? e=some oe:=(so.2.1 e ene).trans he;have e2:(h1.push oN).get? e=some oe:=Heap.get?_push_of_some _ e1;have nT:h1.objs.size≠e:=Nat.ne_of_gt (Heap.lt_size e1);have fN:oN.data=.fields ([head,.ref L,.none,rawInt L,.none]++(if pl.isEmpty then List.replicate 6 Value.none else pl)).toArray:=by rw[<-eN]
 have lN:3 < ([head,.ref L,.none,rawInt L,.none]++(if pl.isEmpty then List.replicate 6 Value.none else pl)).toArray.size:=by simp only[List.size_toArray,List.length_append,List.length_cons,List.length_nil];omega
 have dE:=Obj.data_mapFields hd (·.setIfInBounds 1 (Value.ref h1.objs.size))
 have e3:=Heap.get?_update_self (Obj.mapFields (·.setIfInBounds 1 (Value.ref h1.objs.size))) e2 (Obj.isFreed_of_fields dE)
 have t3:((h1.push oN).update e (Obj.mapFields (·.setIfInBounds 1 (Value.ref h1.objs.size)))).get? h1.objs.size=some oN:=(Heap.get?_update_other _ _ (Ne.symm nT)).trans (Heap.get?_push_size h1 (Obj.isFreed_of_fields fN))
 have dT:=Obj.data_mapFields fN (·.setIfInBounds 3 ((none:Option Addr).elim Value.none fun f=>rawInt f))
 refine wpAny_setField e2 hd hsz ?_;unfold setFlight;refine wpAny_bind (wpAny_field e3 dE (x:=.ref h1.objs.size) (by simp[hsz]) ?_)
 rw[if_pos (show(Value.ref h1.objs.size != Value.none)=true by simp)]
 refine wpAny_setField t3 fN lN (h _ ⟨fun b o hb hc' g=>?_,fun b o hb hc' g=>?_⟩ ⟨hne,hHe,_,_,(Heap.get?_update_other _ _ nT).trans e3,(Obj.cls_mapFields _ _).trans hc,(c6j _ _).trans hx,dE,by simpa using hsz,.inr ⟨h1.objs.size,_,_,by simp[hsz],by rw[so.1];exact hn,hH _ (by rw[so.1];exact Nat.le_refl _),nT,Heap.get?_update_self _ t3 (Obj.isFreed_of_fields dT),dT,by simp[Array.getElem?_setIfInBounds,lN]⟩⟩)
 ·have be:b≠e:=fun z=>hc' (by simp[z])
  have b1:h1.get? b=some o:=(so.2.1 b hb).trans g;rw[Heap.get?_update_other _ _ (Nat.ne_of_gt (Heap.lt_size b1)),Heap.get?_update_other _ _ (Ne.symm be)];exact Heap.get?_push_of_some _ b1
 ·have be:b≠e:=fun z=>hc' (by simp[z])
  obtain⟨sl,b1⟩:=so.2.2 b o g;refine⟨sl,?_⟩;rw[Heap.get?_update_other _ _ (Nat.ne_of_gt (Heap.lt_size b1)),Heap.get?_update_other _ _ (Ne.symm be)];exact Heap.get?_push_of_some _ b1
theorem d3x
  (hfr:A.frames=some (env::outer)) (hl:s.heap.FunFrames base (env::outer)) (hf:env.frame=some L) (hn:n<=s.heap.objs.size) (hH:∀a,s.heap.objs.size<=a->H a=none) (fl:FlyX n s.heap H e C dx)
  (h:∀h' ch,(∀b∈ch,n<=b/\H b=none)->LeftX (frs (env::outer)) ch s.heap h'->FlyX n h' H e C dx->Q () { s with heap:=h'}):wpAny M A (noteFrame (.ref e) env) (fun _ s'=>wpAny M A (setFlight (.ref e) none) Q E s') E s:=by
 obtain⟨hne,hHe,oe,vs,he,hc,hx,hd,hsz,h1⟩:=fl;unfold noteFrame;simp only[hf];rcases h1 with h1|⟨T,oT,ts,h1,hnT,hHT,hTe,hT,hdT,h3⟩
 ·refine wpAny_bind (wpAny_field he hd h1 ?_);rw[if_neg (by decide)]
  exact c6k hfr hl hf he hc hx hd hsz hn hne hHe hH fun h' l f=>h h' [e] (fun b m=>by cases List.mem_singleton.1 m;exact⟨hne,hHe⟩) l f
 ·refine wpAny_bind (wpAny_field he hd h1 ?_);rw[if_pos (show(Value.ref T != Value.none)=true by simp)]
  refine wpAny_bind (wpAny_field hT hdT h3 ?_);rw[if_neg (show ¬(Value.none == rawInt L)=true by simp[rawInt])]
  refine wpAny_bind (wpAny_setField hT hdT (Array.getElem?_eq_some_iff.mp h3).1 ?_);have ot:∀b,b≠T->(s.heap.update T (Obj.mapFields (·.setIfInBounds 3 Value.none))).get? b=s.heap.get? b:=fun b z=>Heap.get?_update_other _ _ (Ne.symm z)
  have nr:∀b o,s.heap.get? b=some o->(∀vs,o.data≠.fields vs)->b≠T:=fun b o hb hnf z=>by
   rw[z,hT] at hb;cases hb;exact hnf ts hdT
  refine c6k (s:={ s with heap:=s.heap.update T (Obj.mapFields (·.setIfInBounds 3 Value.none))}) hfr (hl.of_keeps fun b o hb hnf=>⟨o,(ot b (nr b o hb hnf)).trans hb,rfl⟩) hf ((ot e (Ne.symm hTe)).trans he) hc hx hd hsz (by simpa[Heap.size_after_update] using hn) hne hHe (fun a z=>hH a (by simpa[Heap.size_after_update] using z)) fun h' l f=>h h' [e,T] (fun b m=>?_) ⟨fun b o hb hc' g=>?_,fun b o hb hc' g=>?_⟩ f
  ·simp only[List.mem_cons,List.not_mem_nil,or_false] at m;rcases m with rfl|rfl
   ·exact⟨hne,hHe⟩
   ·exact⟨hnT,hHT⟩
  ·simp only[List.mem_cons,List.not_mem_nil,or_false,not_or] at hc';exact l.keep b o hb (by simp[hc'.1]) ((ot b hc'.2).trans g)
  ·simp only[List.mem_cons,List.not_mem_nil,or_false,not_or] at hc';exact l.slot b o hb (by simp[hc'.1]) ((ot b hc'.2).trans g)
theorem d5u
  (hfr:A.frames=some (env::outer)) (hl:s.heap.FunFrames base (env::outer)) (hf:env.frame=some L) (hn:n<=s.heap.objs.size) (hH:∀a,s.heap.objs.size<=a->H a=none) (fl:FlyX n s.heap H e C dx)
  (h:∀h' ch,(∀b∈ch,n<=b/\H b=none)->LeftX (frs (env::outer)) ch s.heap h'->FlyX n h' H e C dx->Q () { s with heap:=h'}):wpAny M A (leaving env (.ref e)) Q E s:=by
 unfold leaving;exact wpAny_bind (d3x hfr hl hf hn hH fl h)
end
inductive D where
 |non|bl (b:Bool)|int (i:Int)|str (x:Str)|ty (n:String)
 |lst (xs:List D)|tup (xs:List D)|dct (kvs:List (TK×D))|scr (ns:List Int)|exc (C:Addr) (l:Option Int)|obj
mutual
def TK.d:TK->D
 |.inl i=>.int i
 |.inr x=>.str x
 |.tp l=>.tup (TK.dl l)
def TK.dl:List TK->List D
 |[]=>[]
 |k::l=>TK.d k::TK.dl l
end
def a3z:D->Option V
 |.non=>some .non
 |.bl b=>some (.bl b)
 |.int i=>some (.int i)
 |.str x=>some (.str x)
 |.ty n=>some (.ty n)
 |_=>none
def excO(C t:Addr)(d:Option Addr):Obj:={ cls:=.ref C,dict:=d,data:=.fields #[.ref t,.none,.none,.none,.bool false,.none]}
def IsX(o:Obj)(C:Addr)(d:Option Addr):Prop:=o.cls=.ref C/\o.dict=d/\∃vs,o.data=.fields vs
def ExcA(F:Hp)(a C:Addr):Option Int->Prop
 |none=>∃o,F a=some (.frz o (.own 0))/\IsX o C none
 |some n=>∃o dx,F a=some (.frz o (.own 0))/\IsX o C (some dx)/\F dx=some (.xd [("line",.int n)])
inductive RepL (K:L2.FG) (F:Hp):List V->List D->Prop
 |nil:RepL K F [] []
 |flat {v:V} {d:D} {vs:List V} {ds:List D}:a3z d=some v->RepL K F vs ds->RepL K F (v::vs) (d::ds)
 |lst {a:Addr} {ws vs:List V} {es ds:List D}:Rd F a (.lst ws)->RepL K F ws es->RepL K F vs ds->RepL K F (.ref a::vs) (.lst es::ds)
 |tup {a:Addr} {ws vs:List V} {es ds:List D}:SqT K F a ws->RepL K F ws es->RepL K F vs ds->RepL K F (.ref a::vs) (.tup es::ds)
 |dct {a:Addr} {kvs:List (TK×V×V)} {es:List (TK×D)} {ep:Nat} {vs:List V} {ds:List D}:F a=some (.dG kvs ep)->kvs.map (·.1)=es.map (·.1)->RepL K F (kvs.map (·.2.1)) (es.map (·.1.d))->RepL K F (kvs.map (·.2.2)) (es.map (·.2))->RepL K F vs ds->RepL K F (.ref a::vs) (.dct es::ds)
 |scr {a:Addr} {ns:List Int} {vs:List V} {ds:List D}:SqL K F a (ns.map V.int)->RepL K F vs ds->RepL K F (.ref a::vs) (.scr ns::ds)
 |exc {a C:Addr} {l:Option Int} {vs:List V} {ds:List D}:ExcA F a C l->RepL K F vs ds->RepL K F (.ref a::vs) (.exc C l::ds)
 |obj {a:Addr} {vs:List V} {ds:List D}:RepL K F vs ds->RepL K F (.ref a::vs) (.obj::ds)
theorem Same.rd{H H':Hp}{a:Addr}{u:HO}(e:Same H H')(h:Rd H a u):Rd H' a u:=by
 rcases h with h|⟨o,h⟩
 ·exact .inl (e _ _ h)
 ·exact .inr ⟨o,e _ _ h⟩
theorem Same.seqT{K:L2.FG}{H H':Hp}{a:Addr}{xs:List V}(e:Same H H')(h:SqT K H a xs):SqT K H' a xs:=by
 rcases h with(h|⟨o,h⟩)|h
 ·exact .inl (.inl (e _ _ h))
 ·exact .inl (.inr ⟨o,e _ _ h⟩)
 ·exact .inr h
section
variable {K:L2.FG} {F F':Hp}
theorem ExcA.mono{F F':Hp}{a C:Addr}{l:Option Int}(s:Same F F')(h:ExcA F a C l):ExcA F' a C l:=by
 cases l with
 |none=>obtain⟨o,e,z⟩:=h;exact⟨o,s _ _ e,z⟩
 |some n=>obtain⟨o,dx,e,z,q⟩:=h;exact⟨o,dx,s _ _ e,z,s _ _ q⟩
theorem RepL.mono(s:Same F F'){vs:List V}{ds:List D}(h:RepL K F vs ds):RepL K F' vs ds:=by
 induction h with
 |nil=>exact .nil
 |flat e _ ih=>exact .flat e ih
 |lst e _ _ i1 i2=>exact .lst (s.rd e) i1 i2
 |tup e _ _ i1 i2=>exact .tup (s.seqT e) i1 i2
 |dct e k _ _ _ i0 i1 i2=>exact .dct (s _ _ e) k i0 i1 i2
 |scr e _ i=>exact .scr (s.seq e) i
 |exc e _ i=>exact .exc (e.mono s) i
 |obj _ i=>exact .obj i
theorem RepL.length{vs:List V}{ds:List D}(h:RepL K F vs ds):vs.length=ds.length:=by
 induction h with
 |nil=>rfl
 |flat _ _ ih=>simp[ih]
 |lst _ _ _ _ ih=>simp[ih]
 |tup _ _ _ _ ih=>simp[ih]
 |dct _ _ _ _ _ _ _ ih=>simp[ih]
 |scr _ _ ih=>simp[ih]
 |exc _ _ ih=>simp[ih]
 |obj _ ih=>simp[ih]
theorem RepL.inv{v:V}{vs:List V}{d:D}{ds:List D}(h:RepL K F (v::vs) (d::ds)):RepL K F [v] [d]/\RepL K F vs ds:=by
 cases h with
 |flat e t=>exact⟨.flat e .nil,t⟩
 |lst e i t=>exact⟨.lst e i .nil,t⟩
 |tup e i t=>exact⟨.tup e i .nil,t⟩
 |dct e k j i t=>exact⟨.dct e k j i .nil,t⟩
 |scr e t=>exact⟨.scr e .nil,t⟩
 |exc e t=>exact⟨.exc e .nil,t⟩
 |obj t=>exact⟨.obj .nil,t⟩
theorem RepL.cons{v:V}{vs:List V}{d:D}{ds:List D}(h:RepL K F [v] [d])(t:RepL K F vs ds):RepL K F (v::vs) (d::ds):=by
 cases h with
 |flat e _=>exact .flat e t
 |lst e i _=>exact .lst e i t
 |tup e i _=>exact .tup e i t
 |dct e k j i _=>exact .dct e k j i t
 |scr e _=>exact .scr e t
 |exc e _=>exact .exc e t
 |obj _=>exact .obj t
theorem RepL.get:∀{vs:List V} {ds:List D} {i:Nat} {d:D},RepL K F vs ds->ds[i]?=some d->∃v,vs[i]?=some v/\RepL K F [v] [d]
 |[],[],i,d,_,e=>by simp at e
 |v::vs,d'::ds,0,d,h,e=>by simp at e;subst e;exact⟨v,rfl,h.inv.1⟩
 |v::vs,d'::ds,i+1,d,h,e=>by
  obtain⟨u,h1,h2⟩:=RepL.get (i:=i) h.inv.2 (by simpa using e)
  exact⟨u,by simpa using h1,h2⟩
 |[],_::_,_,_,h,_=>by have:=h.length;simp at this
 |_::_,[],_,_,h,_=>by have:=h.length;simp at this
theorem RepL.append:∀{vs:List V} {ds:List D} {ws:List V} {es:List D},RepL K F vs ds->RepL K F ws es->RepL K F (vs++ws) (ds++es)
 |[],[],_,_,_,h=>h
 |v::vs,d::ds,_,_,h,t=>.cons h.inv.1 (RepL.append h.inv.2 t)
 |[],_::_,_,_,h,_=>by have:=h.length;simp at this
 |_::_,[],_,_,h,_=>by have:=h.length;simp at this
theorem RepL.take:∀{vs:List V} {ds:List D} (n:Nat),RepL K F vs ds->RepL K F (vs.take n) (ds.take n)
 |[],[],_,_=>by simp;exact .nil
 |v::vs,d::ds,0,_=>.nil
 |v::vs,d::ds,n+1,h=>.cons h.inv.1 (RepL.take n h.inv.2)
 |[],_::_,_,h=>by have:=h.length;simp at this
 |_::_,[],_,h=>by have:=h.length;simp at this
theorem RepL.drop:∀{vs:List V} {ds:List D} (n:Nat),RepL K F vs ds->RepL K F (vs.drop n) (ds.drop n)
 |[],[],_,_=>by simp;exact .nil
 |v::vs,d::ds,0,h=>h
 |v::vs,d::ds,n+1,h=>by simpa using RepL.drop n h.inv.2
 |[],_::_,_,h=>by have:=h.length;simp at this
 |_::_,[],_,h=>by have:=h.length;simp at this
end
inductive O where
 |frz (d:D)|lst (xs:List O)|tup (xs:List O)|dct (kvs:List (TK×O))|ins (C:Addr) (ns:List Str) (ps:List O)
abbrev Gm:=List (Option O)
inductive OwnL (K:L2.FG) (F H:Hp):St->Gm->List Addr->Prop
 |nil:OwnL K F H [] [] []
 |skip {x:Option V} {σ:St} {Γ:Gm} {B:List Addr}:OwnL K F H σ Γ B->OwnL K F H (x::σ) (none::Γ) B
 |frz {v:V} {d:D} {σ:St} {Γ:Gm} {B:List Addr}:RepL K F [v] [d]->OwnL K F H σ Γ B->OwnL K F H (some v::σ) (some (.frz d)::Γ) B
 |lst {a:Addr} {ws:List V} {ps:List O} {A B:List Addr} {σ:St} {Γ:Gm}:H a=some (.lst ws)->OwnL K F H (ws.map some) (ps.map some) A->OwnL K F H σ Γ B->OwnL K F H (some (.ref a)::σ) (some (.lst ps)::Γ) (a::A++B)
 |tup {a:Addr} {ws:List V} {ps:List O} {A B:List Addr} {σ:St} {Γ:Gm}:H a=some (.tup ws)->OwnL K F H (ws.map some) (ps.map some) A->OwnL K F H σ Γ B->OwnL K F H (some (.ref a)::σ) (some (.tup ps)::Γ) (a::A++B)
 |dct {a:Addr} {kvs:List (TK×V×V)} {ps:List (TK×O)} {ep:Nat} {A B:List Addr} {σ:St} {Γ:Gm}:H a=some (.dG kvs ep)->kvs.map (·.1)=ps.map (·.1)->RepL K F (kvs.map (·.2.1)) (ps.map (·.1.d))->OwnL K F H (kvs.map fun p=>some p.2.2) (ps.map fun p=>some p.2) A->OwnL K F H σ Γ B->
   OwnL K F H (some (.ref a)::σ) (some (.dct ps)::Γ) (a::A++B)
  |ins {a dx C:Addr} {fs:List (Str×V)} {ns:List Str} {ps:List O} {A B:List Addr} {σ:St} {Γ:Gm}:H a=some (.ins C dx fs)->H dx=some (.own a)->fs.map (·.1)=ns.take ps.length->OwnL K F H (fs.map fun p=>some p.2) (ps.map some) A->OwnL K F H σ Γ B->
   OwnL K F H (some (.ref a)::σ) (some (.ins C ns ps)::Γ) (a::dx::A++B)
section
variable {K:L2.FG} {F F' H H':Hp} {σ τ:St} {Γ Θ:Gm} {A B:List Addr}
theorem OwnL.keep(h:OwnL K F H σ Γ A)(s:Same F F')(k:∀a∈A,∀o,H a=some o->H' a=some o):OwnL K F' H' σ Γ A:=by
 induction h with
 |nil=>exact .nil
 |skip _ ih=>exact .skip (ih k)
 |frz r _ ih=>exact .frz (r.mono s) (ih k)
 |lst e _ _ i1 i2=>exact .lst (k _ (by simp) _ e) (i1 fun a ha=>k a (by simp[ha])) (i2 fun a ha=>k a (by simp[ha]))
 |tup e _ _ i1 i2=>exact .tup (k _ (by simp) _ e) (i1 fun a ha=>k a (by simp[ha])) (i2 fun a ha=>k a (by simp[ha]))
 |dct e q r _ _ i1 i2=>exact .dct (k _ (by simp) _ e) q (r.mono s) (i1 fun a ha=>k a (by simp[ha])) (i2 fun a ha=>k a (by simp[ha]))
 |ins e d q _ _ i1 i2=>exact .ins (k _ (by simp) _ e) (k _ (by simp) _ d) q (i1 fun a ha=>k a (by simp[ha])) (i2 fun a ha=>k a (by simp[ha]))
theorem OwnL.there(h:OwnL K F H σ Γ A):∀a∈A,H a≠none:=by
 induction h with
 |nil=>intro a ha;cases ha
 |skip _ ih=>exact ih
 |frz _ _ ih=>exact ih
 |lst e _ _ i1 i2=>
  intro a ha;rcases List.mem_cons.mp ha with rfl|ha
  ·rw[e];exact fun z=>by cases z
  ·rcases List.mem_append.mp ha with ha|ha
   ·exact i1 a ha
   ·exact i2 a ha
 |tup e _ _ i1 i2=>
  intro a ha;rcases List.mem_cons.mp ha with rfl|ha
  ·rw[e];exact fun z=>by cases z
  ·rcases List.mem_append.mp ha with ha|ha
   ·exact i1 a ha
   ·exact i2 a ha
 |dct e _ _ _ _ i1 i2=>
  intro a ha;rcases List.mem_cons.mp ha with rfl|ha
  ·rw[e];exact fun z=>by cases z
  ·rcases List.mem_append.mp ha with ha|ha
   ·exact i1 a ha
   ·exact i2 a ha
 |ins e d _ _ _ i1 i2=>
  intro a ha;simp only[List.cons_append,List.mem_cons,List.mem_append] at ha;rcases ha with rfl|rfl|ha|ha
  ·rw[e];exact fun z=>by cases z
  ·rw[d];exact fun z=>by cases z
  ·exact i1 a ha
  ·exact i2 a ha
theorem OwnL.length(h:OwnL K F H σ Γ A):σ.length=Γ.length:=by
 induction h <;> simp_all
theorem OwnL.app(h:OwnL K F H τ Θ B)(t:OwnL K F H σ Γ A):OwnL K F H (τ++σ) (Θ++Γ) (B++A):=by
 induction h with
 |nil=>exact t
 |skip _ ih=>exact .skip ih
 |frz r _ ih=>exact .frz r ih
 |lst e i _ _ ih=>simp only[List.cons_append,List.append_assoc];exact .lst e i ih
 |tup e i _ _ ih=>simp only[List.cons_append,List.append_assoc];exact .tup e i ih
 |dct e q r i _ _ ih=>simp only[List.cons_append,List.append_assoc];exact .dct e q r i ih
 |ins e d q i _ _ ih=>simp only[List.cons_append,List.append_assoc];exact .ins e d q i ih
theorem OwnL.split:∀{τ:St} {Θ:Gm} {A:List Addr},τ.length=Θ.length->OwnL K F H (τ++σ) (Θ++Γ) A->∃B C,OwnL K F H τ Θ B/\OwnL K F H σ Γ C/\A=B++C
 |[],[],A,_,h=>⟨[],A,.nil,h,rfl⟩
 |[],_::_,_,e,_=>by simp at e
 |_::_,[],_,e,_=>by simp at e
 |x::τ,y::Θ,A,e,h=>by
  have e':τ.length=Θ.length:=by simpa using e
  cases h with
  |skip t=>obtain⟨B,C,h1,h2,h3⟩:=OwnL.split e' t;exact⟨B,C,.skip h1,h2,h3⟩
  |frz r t=>obtain⟨B,C,h1,h2,h3⟩:=OwnL.split e' t;exact⟨B,C,.frz r h1,h2,h3⟩
  |lst q i t=>obtain⟨B,C,h1,h2,h3⟩:=OwnL.split e' t;subst h3;exact⟨_,C,.lst q i h1,h2,by simp⟩
  |tup q i t=>obtain⟨B,C,h1,h2,h3⟩:=OwnL.split e' t;subst h3;exact⟨_,C,.tup q i h1,h2,by simp⟩
  |dct q z r i t=>obtain⟨B,C,h1,h2,h3⟩:=OwnL.split e' t;subst h3;exact⟨_,C,.dct q z r i h1,h2,by simp⟩
  |ins q d z i t=>obtain⟨B,C,h1,h2,h3⟩:=OwnL.split e' t;subst h3;exact⟨_,C,.ins q d z i h1,h2,by simp⟩
theorem OwnL.one{x:Option V}{y:Option O}(h:OwnL K F H (x::σ) (y::Γ) A):∃B C,OwnL K F H [x] [y] B/\OwnL K F H σ Γ C/\A=B++C:=OwnL.split (τ:=[x]) (Θ:=[y]) rfl h
theorem OwnL.take:∀{σ:St} {Γ:Gm} {A:List Addr} {i:Nat} {o:O},OwnL K F H σ Γ A->Γ[i]?=some (some o)->∃v Ai B,σ[i]?=some (some v)/\OwnL K F H [some v] [some o] Ai/\OwnL K F H σ (Γ.set i none) B/\A.Perm (Ai++B)
 |_,[],_,_,_,_,e=>by simp at e
 |[],_::_,_,_,_,h,_=>by have:=h.length;simp at this
 |x::σ,y::Γ,A,0,o,h,e=>by
  have e:y=some o:=by simpa using e
  subst e;obtain⟨B,C,h1,h2,h3⟩:=h.one;cases x with
  |none=>cases h1
  |some v=>exact⟨v,B,C,rfl,h1,.skip h2,by rw[h3]⟩
 |x::σ,y::Γ,A,i+1,o,h,e=>by
  obtain⟨B,C,h1,h2,h3⟩:=h.one;obtain⟨v,Ai,B',g1,g2,g3,g4⟩:=OwnL.take (i:=i) h2 (by simpa using e)
  refine⟨v,Ai,B++B',by simpa using g1,g2,h1.app g3,?_⟩
  subst h3;exact(List.Perm.append_left B g4).trans (by rw[<-List.append_assoc,<-List.append_assoc];exact(List.perm_append_comm).append_right _)
theorem OwnL.forget:∀{σ:St} {Γ:Gm} {A:List Addr} (i:Nat),OwnL K F H σ Γ A->∃B,OwnL K F H σ (Γ.set i none) B/\B.Sublist A
 |σ,[],A,i,h=>⟨A,by simpa using h,List.Sublist.refl _⟩
 |[],_::_,_,_,h=>by have:=h.length;simp at this
 |x::σ,y::Γ,A,0,h=>by
  obtain⟨B,C,h1,h2,h3⟩:=h.one;subst h3;exact⟨C,.skip h2,List.sublist_append_right _ _⟩
 |x::σ,y::Γ,A,i+1,h=>by
  obtain⟨B,C,h1,h2,h3⟩:=h.one;obtain⟨B',g1,g2⟩:=OwnL.forget i h2;subst h3;exact⟨B++B',h1.app g1,g2.append_left _⟩
theorem OwnL.put{v:V}{o:O}{Ai:List Addr}(q:OwnL K F H [some v] [some o] Ai):∀{σ:St} {Γ:Gm} {A:List Addr} (i:Nat),OwnL K F H σ Γ A->i < Γ.length->∃B,OwnL K F H (σ.set i (some v)) (Γ.set i (some o)) B/\∃C,B.Perm (Ai++C)/\C.Sublist A
 |_,[],_,_,_,hi=>by simp at hi
 |[],_::_,_,_,h,_=>by have:=h.length;simp at this
 |x::σ,y::Γ,A,0,h,hi=>by
  obtain⟨B,C,h1,h2,h3⟩:=h.one;subst h3;exact⟨Ai++C,q.app h2,C,.refl _,List.sublist_append_right _ _⟩
 |x::σ,y::Γ,A,i+1,h,hi=>by
  obtain⟨B,C,h1,h2,h3⟩:=h.one;obtain⟨B',g1,C',g2,g3⟩:=OwnL.put q i h2 (by simpa using hi)
  subst h3;refine⟨B++B',h1.app g1,B++C',?_,g3.append_left _⟩;exact(List.Perm.append_left B g2).trans (by rw[<-List.append_assoc,<-List.append_assoc];exact(List.perm_append_comm).append_right _)
theorem OwnL.loose{v:Option V}:∀{σ:St} {Γ:Gm} {A:List Addr} {i:Nat},OwnL K F H σ Γ A->Γ[i]?=some none->OwnL K F H (σ.set i v) Γ A
 |_,[],_,_,_,e=>by simp at e
 |[],_::_,_,_,h,_=>by have:=h.length;simp at this
 |x::σ,y::Γ,A,0,h,e=>by
  have e:y=none:=by simpa using e
  subst e;cases h with
  |skip t=>exact .skip t
 |x::σ,y::Γ,A,i+1,h,e=>by
  obtain⟨B,C,h1,h2,h3⟩:=h.one;subst h3;exact h1.app (OwnL.loose (i:=i) h2 (by simpa using e))
end
structure OK (K:L2.FG) (F H:Hp) (σ:St) (Γ:Gm) (A:List Addr):Prop where
 le:Same F H
 os:OwnL K F H σ Γ A
 nd:A.Nodup
 fr:∀a∈A,F a=none
def Att(H H':Hp):Prop:=∀a C dx fs,H a=some (.ins C dx fs)->∃fs',H' a=some (.ins C dx fs')/\∀(j:Nat) f p,fs[j]?=some (f,V.ref p)->fs'[j]?=some (f,V.ref p)
theorem Att.same{H H':Hp}(s:Same H H'):Att H H':=fun a _ _ _ e=>⟨_,s a _ e,fun _ _ _ z=>z⟩
theorem Att.trans{H H1 H2:Hp}(x:Att H H1)(y:Att H1 H2):Att H H2:=fun a C dx fs e=>by
 obtain⟨fs1,e1,z1⟩:=x a C dx fs e;obtain⟨fs2,e2,z2⟩:=y a C dx fs1 e1;exact⟨fs2,e2,fun j f p q=>z2 j f p (z1 j f p q)⟩
theorem Att.upd{H:Hp}{l:Addr}{o:HO}(h:∀C dx fs,H l≠some (.ins C dx fs)):Att H (upd H l o):=fun a C dx fs e=>by
 by_cases z:a=l
 ·subst z;exact absurd e (h C dx fs)
 ·exact⟨fs,by rw[a0v z];exact e,fun _ _ _ q=>q⟩
structure Ext (F H:Hp) (A:List Addr) (F' H':Hp) (A':List Addr):Prop where
 ff:Same F F'
 keep:∀a o,H a=some o->a∉A->H' a=some o
 dom:∀a,H a≠none->H' a≠none
 new:∀a,F' a≠none->F a≠none\/a∈A\/H a=none
 own:∀a∈A',a∈A\/H a=none
 att:Att H H'
section
variable {K:L2.FG} {F F' F1 F2 H H' H1 H2:Hp} {σ σ' τ:St} {Γ Γ' Θ:Gm} {A A' A1 A2 B C:List Addr}
theorem Ext.refl:Ext F H A F H A:=⟨Same.refl _,fun _ _ e _=>e,fun _ h=>h,fun _ h=>.inl h,fun _ h=>.inl h,.same (Same.refl _)⟩
theorem Ext.trans(x:Ext F H A F1 H1 A1)(y:Ext F1 H1 A1 F2 H2 A2):Ext F H A F2 H2 A2 where
 ff:=x.ff.trans y.ff
 keep:=fun a o e n=>y.keep a o (x.keep a o e n) fun m=>by
  rcases x.own a m with z|z
  ·exact n z
  ·rw[e] at z;cases z
 dom:=fun a h=>y.dom a (x.dom a h)
 new:=fun a h=>by
  rcases y.new a h with z|z|z
  ·exact x.new a z
  ·exact .inr (x.own a z)
  ·exact .inr (.inr (Classical.byContradiction fun q=>x.dom a q z))
 own:=fun a h=>by
  rcases y.own a h with z|z
  ·exact x.own a z
  ·exact .inr (Classical.byContradiction fun q=>x.dom a q z)
 att:=x.att.trans y.att
theorem Ext.own'(x:Ext F H A F' H' A')(h:∀a∈B,a∈A'):Ext F H A F' H' B:=⟨x.ff,x.keep,x.dom,x.new,fun a m=>x.own a (h a m),x.att⟩
theorem OK.perm(k:OwnL K F H σ Γ A)(le:Same F H)(nd:B.Nodup)(fr:∀a∈B,F a=none)(p:A.Perm B):OK K F H σ Γ A:=⟨le,k,p.nodup_iff.mpr nd,fun a m=>fr a (p.mem_iff.mp m)⟩
theorem OK.frameAt(k:OK K F H (τ++σ) (Θ++Γ) (B++C))(h1:OwnL K F H τ Θ B)(h2:OwnL K F H σ Γ C):OK K F H σ Γ C/\∀F' H' σ' Γ' A',Ext F H C F' H' A'->OK K F' H' σ' Γ' A'->∃A'',Ext F H (B++C) F' H' A''/\OK K F' H' (τ++σ') (Θ++Γ') A'':=by
 obtain⟨n1,n2,n3⟩:=List.nodup_append.mp k.nd;have nB:∀a∈B,a∉C:=fun a h1 h2=>n3 a h1 a h2 rfl
 refine⟨⟨k.le,h2,n2,fun a m=>k.fr a (List.mem_append_right _ m)⟩,fun F' H' σ' Γ' A' x k'=>?_⟩
 have hB:∀a∈B,F' a=none:=fun a m=>by
  cases e:F' a with
  |none=>rfl
  |some o=>
   rcases x.new a (by rw[e];exact fun z=>by cases z) with z|z|z
   ·exact absurd (k.fr a (List.mem_append_left _ m)) z
   ·exact absurd z (nB a m)
   ·exact absurd z (h1.there a m)
 refine⟨B++A',⟨x.ff,fun a o e n=>x.keep a o e fun m=>n (List.mem_append_right _ m),x.dom,fun a h=>?_,fun a m=>?_,x.att⟩,k'.le,(h1.keep x.ff fun a m o e=>x.keep a o e (nB a m)).app k'.os,?_,?_⟩
 ·rcases x.new a h with z|z|z
  ·exact .inl z
  ·exact .inr (.inl (List.mem_append_right _ z))
  ·exact .inr (.inr z)
 ·rcases List.mem_append.mp m with m|m
  ·exact .inl (List.mem_append_left _ m)
  ·rcases x.own a m with z|z
   ·exact .inl (List.mem_append_right _ z)
   ·exact .inr z
 ·refine List.nodup_append.mpr ⟨n1,k'.nd,fun a m b m' e=>?_⟩
  subst e;rcases x.own a m' with z|z
  ·exact nB a m z
  ·exact h1.there a m z
 ·intro a m;rcases List.mem_append.mp m with m|m
  ·exact hB a m
  ·exact k'.fr a m
theorem OK.frame(k:OK K F H (τ++σ) (Θ++Γ) A)(hl:τ.length=Θ.length):∃C,OK K F H σ Γ C/\∀F' H' σ' Γ' A',Ext F H C F' H' A'->OK K F' H' σ' Γ' A'->∃A'',Ext F H A F' H' A''/\OK K F' H' (τ++σ') (Θ++Γ') A'':=by
 obtain⟨B,C,h1,h2,h3⟩:=OwnL.split hl k.os;subst h3;exact⟨C,k.frameAt h1 h2⟩
theorem OK.swap(k:OK K F H (τ++σ) (Θ++Γ) A)(hl:τ.length=Θ.length):∃B,B.Perm A/\OK K F H (σ++τ) (Γ++Θ) B:=by
 obtain⟨B,C,h1,h2,h3⟩:=OwnL.split hl k.os;subst h3;exact⟨C++B,List.perm_append_comm,.perm (h2.app h1) k.le k.nd k.fr List.perm_append_comm⟩
theorem OK.part(k:OK K F H (τ++σ) (Θ++Γ) A)(hl:τ.length=Θ.length):∃B,OK K F H σ Γ B/\∀a∈B,a∈A:=by
 obtain⟨B,C,h1,h2,h3⟩:=OwnL.split hl k.os;subst h3;exact⟨C,⟨k.le,h2,(List.nodup_append.mp k.nd).2.1,fun a m=>k.fr a (List.mem_append_right _ m)⟩,fun a m=>List.mem_append_right _ m⟩
theorem OK.push{v:V}{o:O}{Av:List Addr}(k:OK K F H σ Γ A)(s:Same H H')(q:OwnL K F H' [some v] [some o] Av)(nd:Av.Nodup)(fresh:∀a∈Av,H a=none):
  OK K F H' (some v::σ) (some o::Γ) (Av++A)/\Ext F H A F H' (Av++A):=by
 have ne:∀a∈Av,a∉A:=fun a m z=>k.os.there a z (fresh a m)
 refine⟨⟨k.le.trans s,q.app (k.os.keep (Same.refl _) fun a _ o e=>s a o e),List.nodup_append.mpr ⟨nd,k.nd,fun a m b m' e=>?_⟩,fun a m=>?_⟩,Same.refl _,fun a o e _=>s a o e,fun a h z=>?_,fun a h=>.inl h,fun a m=>?_,.same s⟩
 ·subst e;exact ne a m m'
 ·rcases List.mem_append.mp m with m|m
  ·exact k.le.free (fresh a m)
  ·exact k.fr a m
 ·exact h (s.free z)
 ·rcases List.mem_append.mp m with m|m
  ·exact .inr (fresh a m)
  ·exact .inl m
end
inductive R where
 |own (o:O)|var (i:Nat)|fld (i j:Nat)
def R.o:R->Option O
 |.own o=>some o
 |_=>none
abbrev GE:=Gm->Option (R×Gm)
abbrev GA:=Gm->Option (List R×Gm)
abbrev GT:=Gm->Option (Bool×Gm)
def HFld(σ:St)(H:Hp)(i j:Nat)(v:V):Prop:=∃a C dx fs f p,σ[i]?=some (some (.ref a))/\H a=some (.ins C dx fs)/\fs[j]?=some (f,v)/\v=.ref p
def Held(σ:St)(H:Hp):List R->List V->Prop
 |[],[]=>True
 |.own _::rs,_::vs=>Held σ H rs vs
 |.var i::rs,v::vs=>σ[i]?=some (some v)/\Held σ H rs vs
 |.fld i j::rs,v::vs=>HFld σ H i j v/\Held σ H rs vs
 |_,_=>False
def Post(K:L2.FG)(F H:Hp)(A:List Addr)(σ:St)(Γ':Gm)(rs:List R)(vs:List V)(H':Hp):Prop:=
 ∃F' A',Ext F H A F' H' A'/\OK K F' H' (vs.map some++σ) (rs.map R.o++Γ') A'/\Held σ H' rs vs
def tG(K:L2.FG)(f:GE):TE:=fun σ H Q=>∃F A Γ r Γ',OK K F H σ Γ A/\f Γ=some (r,Γ')/\∀v H',Post K F H A σ Γ' [r] [v] H'->Q v H'
def tGA(K:L2.FG)(f:GA):TA:=fun σ H Q=>∃F A Γ rs Γ',OK K F H σ Γ A/\f Γ=some (rs,Γ')/\∀vs H',Post K F H A σ Γ' rs vs H'->Q vs H'
def tGT(K:L2.FG)(f:GT):TT:=fun σ H Q=>∃F A Γ b Γ',OK K F H σ Γ A/\f Γ=some (b,Γ')/\∀H',Post K F H A σ Γ' [] [] H'->Q b H'
theorem Held.length:∀{σ:St} {H:Hp} {rs:List R} {vs:List V},Held σ H rs vs->rs.length=vs.length
 |_,_,[],[],_=>rfl
 |_,_,.own _::rs,_::vs,h=>by simp[Held.length (σ:=_) (H:=_) (rs:=rs) (vs:=vs) h]
 |_,_,.var _::rs,_::vs,h=>by simp[Held.length (σ:=_) (H:=_) (rs:=rs) (vs:=vs) h.2]
 |_,_,.fld _ _::rs,_::vs,h=>by simp[Held.length (σ:=_) (H:=_) (rs:=rs) (vs:=vs) h.2]
 |_,_,[],_::_,h=>h.elim
 |_,_,.own _::_,[],h=>h.elim
 |_,_,.var _::_,[],h=>h.elim
 |_,_,.fld _ _::_,[],h=>h.elim
theorem HFld.att{σ:St}{H H':Hp}{i j:Nat}{v:V}(h:HFld σ H i j v)(x:Att H H'):HFld σ H' i j v:=by
 obtain⟨a,C,dx,fs,f,p,h1,h2,h3,rfl⟩:=h;obtain⟨fs',e,z⟩:=x a C dx fs h2;exact⟨a,C,dx,fs',f,p,h1,e,z j f p h3,rfl⟩
theorem Held.att:∀{σ:St} {H H':Hp} {rs:List R} {vs:List V},Held σ H rs vs->Att H H'->Held σ H' rs vs
 |_,_,_,[],[],_,_=>True.intro
 |_,_,_,.own _::rs,_::vs,h,x=>Held.att (rs:=rs) (vs:=vs) h x
 |_,_,_,.var _::rs,_::vs,h,x=>⟨h.1,Held.att (rs:=rs) (vs:=vs) h.2 x⟩
 |_,_,_,.fld _ _::rs,_::vs,h,x=>⟨h.1.att x,Held.att (rs:=rs) (vs:=vs) h.2 x⟩
 |_,_,_,[],_::_,h,_=>h.elim
 |_,_,_,.own _::_,[],h,_=>h.elim
 |_,_,_,.var _::_,[],h,_=>h.elim
 |_,_,_,.fld _ _::_,[],h,_=>h.elim
theorem Held.one{σ:St}{H:Hp}{r:R}{vs:List V}{rs:List R}{v:V}(h:Held σ H [r] [v])(t:Held σ H rs vs):Held σ H (r::rs) (v::vs):=by
 cases r with
 |own o=>exact t
 |var i=>exact⟨h.1,t⟩
 |fld i j=>exact⟨h.1,t⟩
theorem PE.mono{X:Cx}{e:Expr}{t t':TE}(h:PE X e t)(m:∀σ H Q,t' σ H Q->t σ H Q):PE X e t':=fun pins s σ H Q I q=>h pins s σ H Q I (m _ _ _ q)
theorem PT.mono{X:Cx}{e:Expr}{t t':TT}(h:PT X e t)(m:∀σ H Q,t' σ H Q->t σ H Q):PT X e t':=fun pins s σ H Q I q=>h pins s σ H Q I (m _ _ _ q)
theorem PW.mono{X:Cx}{e:Expr}{t t':TT}(h:PW X e t)(m:∀σ H Q,t' σ H Q->t σ H Q):PW X e t':=fun wh pins s σ H Q I q=>h wh pins s σ H Q I (m _ _ _ q)
theorem PA.mono{X:Cx}{e:List Expr}{t t':TA}(h:PA X e t)(m:∀σ H Q,t' σ H Q->t σ H Q):PA X e t':=fun pos pins s σ H Q I q=>h pos pins s σ H Q I (m _ _ _ q)
theorem PS.mono{X:Cx}{e:Stmt}{t t':TS}(h:PS X e t)(m:∀D σ H,t' D σ H->t D σ H):PS X e t':=fun pins s σ H D I q=>h pins s σ H D I (m _ _ _ q)
theorem PSs.mono{X:Cx}{e:List Stmt}{t t':TS}(h:PSs X e t)(m:∀D σ H,t' D σ H->t D σ H):PSs X e t':=fun pins s σ H D I q=>h pins s σ H D I (m _ _ _ q)
section
variable {K:L2.FG} {F H:Hp} {A:List Addr} {σ:St} {Γ Γ':Gm}
def seeR(Γ:Gm):R->Option O
 |.own o=>some o
 |.var i=>(Γ[i]?).join
 |.fld i j=>match Γ[i]? with
  |some (some (.ins _ _ ps))=>ps[j]?
  |_=>none
def seeL(Γ:Gm):List R->Option (List O)
 |[]=>some []
 |r::rs=>(seeR Γ r).bind fun o=>(seeL Γ rs).bind fun os=>some (o::os)
def Sees(K:L2.FG)(F H:Hp):List V->List O->Prop:=Paired fun v o=>∃B,OwnL K F H [some v] [some o] B
theorem b5x:∀{rs:List R} {vs:List V} {os:List O} {B:List Addr},OwnL K F H σ Γ A->OwnL K F H (vs.map some) (rs.map R.o) B->Held σ H rs vs->seeL Γ rs=some os->Sees K F H vs os
 |[],[],os,_,_,_,_,e=>by cases e;exact .nil
 |r::rs,v::vs,os,B,k,h,hh,e=>by
  obtain⟨B1,C1,h1,h2,_⟩:=OwnL.one h;unfold seeL at e;cases e1:seeR Γ r with
  |none=>rw[e1] at e;cases e
  |some o=>
   rw[e1] at e;cases e2:seeL Γ rs with
   |none=>rw[e2] at e;cases e
   |some os'=>
    rw[e2] at e;cases e;cases r with
    |own o'=>cases e1;exact .cons ⟨_,h1⟩ (b5x k h2 hh e2)
    |var i=>
     have e3:Γ[i]?=some (some o):=by
      have:(Γ[i]?).join=some o:=e1;cases q:Γ[i]? with
      |none=>rw[q] at this;cases this
      |some z=>rw[q] at this;exact congrArg some this
     obtain⟨v',Ai,B',g1,g2,_⟩:=k.take e3;have:=hh.1;rw[g1] at this;cases this;exact .cons ⟨_,g2⟩ (b5x k h2 hh.2 e2)
    |fld i j=>
     obtain⟨⟨a,C,dx,fs,f,p,h3,h4,h5,h6⟩,hh2⟩:=hh;unfold seeR at e1;dsimp only at e1;split at e1
     ·rename_i C' ns ps e3
      obtain⟨v',Ai,B',g1,g2,_⟩:=k.take e3;rw[h3] at g1;cases g1;cases g2 with
      |ins q1 q2 q3 q4 _=>
       rw[h4] at q1;cases q1;obtain⟨v2,A2,B2,j1,j2,_⟩:=q4.take (i:=j) (o:=o) (by rw[List.getElem?_map,e1];rfl)
       rw[List.getElem?_map,h5] at j1;cases j1;exact .cons ⟨_,j2⟩ (b5x k h2 hh2 e2)
     ·cases e1
 |[],_::_,_,_,_,_,h,_=>h.elim
 |.own _::_,[],_,_,_,_,h,_=>h.elim
 |.var _::_,[],_,_,_,_,h,_=>h.elim
 |.fld _ _::_,[],_,_,_,_,h,_=>h.elim
def Res(K:L2.FG)(F H:Hp)(o:O)(Q:VK):Prop:=∀v H' Av,Same H H'->OwnL K F H' [some v] [some o] Av->Av.Nodup->(∀a∈Av,H a=none)->Q v H'
theorem Post.res{rs:List R}{vs:List V}{H1:Hp}{os:List O}{o:O}{Q:VK}(h:Post K F H A σ Γ' rs vs H1)(e:seeL Γ' rs=some os)(q:∀v H',Post K F H A σ Γ' [.own o] [v] H'->Q v H'):
  ∃F1,Same F1 H1/\Sees K F1 H1 vs os/\Res K F1 H1 o Q:=by
 obtain⟨F1,A1,x,k,hh⟩:=h;have hl:(vs.map some).length=(rs.map R.o).length:=by rw[List.length_map,List.length_map,hh.length]
 obtain⟨B,C,h1,h2,h3⟩:=OwnL.split hl k.os;refine⟨F1,k.le,b5x h2 h1 hh e,fun v H' Av s w nd fresh=>q v H' ?_⟩
 obtain⟨B',kB,sub⟩:=k.part hl;obtain⟨k2,x2⟩:=kB.push s w nd fresh;exact⟨F1,Av++B',x.trans ((Ext.own' Ext.refl sub).trans x2),k2,True.intro⟩
theorem Res.flat{d:D}{v:V}{Q:VK}(h:Res K F H (.frz d) Q)(e:a3z d=some v):Q v H:=h v H [] (Same.refl _) (.frz (.flat e .nil) .nil) .nil (fun _ m=>by cases m)
theorem Res.frz{d:D}{v:V}{Q:VK}(h:Res K F H (.frz d) Q)(e:RepL K F [v] [d]):Q v H:=h v H [] (Same.refl _) (.frz e .nil) .nil (fun _ m=>by cases m)
end
noncomputable def gC(d:D):GE:=fun Γ=>some (.own (.frz d),Γ)
noncomputable def gVar(i:Nat):GE:=fun Γ=>match Γ[i]? with
 |some (some (.frz d))=>some (.own (.frz d),Γ)
 |some (some _)=>some (.var i,Γ)
 |_=>none
section
variable {X:Cx} {K:L2.FG} {e a b:Expr} {es:List Expr} {fa fb:GE} {fs:GA} {pos:Pos}
theorem a0s{v:V}{d:D}(h:PE X e (tC v))(q:a3z d=some v:=by rfl):PE X e (tG K (gC d)):=h.mono fun σ H Q t=>by
 obtain⟨F,A,Γ,r,Γ',k,e,w⟩:=t;cases e;obtain⟨k2,x⟩:=k.push (v:=v) (o:=.frz d) (Av:=[]) (Same.refl _) (.frz (.flat q .nil) .nil) .nil (fun _ m=>by cases m)
 exact w v H ⟨F,_,x,k2,True.intro⟩
theorem a0c{i:Nat}(h:PE X e (tVar i)):PE X e (tG K (gVar i)):=h.mono fun σ H Q t=>by
 obtain⟨F,A,Γ,r,Γ',k,e,w⟩:=t;unfold gVar at e;cases q:Γ[i]? with
 |none=>rw[q] at e;cases e
 |some z=>
  cases z with
  |none=>rw[q] at e;cases e
  |some o=>
   rw[q] at e;obtain⟨v,Ai,B,g1,g2,g3,g4⟩:=k.os.take q;refine⟨v,g1,w v H ?_⟩;cases o with
   |frz d=>
    cases e;cases g2 with
    |frz rp _=>
     obtain⟨k2,x⟩:=k.push (v:=v) (o:=.frz d) (Av:=[]) (Same.refl _) (.frz rp .nil) .nil (fun _ m=>by cases m)
     exact⟨F,_,x,k2,True.intro⟩
   |_=>
    cases e;exact⟨F,A,Ext.refl,⟨k.le,.skip k.os,k.nd,k.fr⟩,g1,True.intro⟩
noncomputable def gaNil:GA:=fun Γ=>some ([],Γ)
def a0a(f:GE)(g:GA):GA:=fun Γ=>(f Γ).bind fun p=>(g p.2).bind fun q=>some (p.1::q.1,q.2)
theorem b4p{f:GE}{g:GA}{Γ Γ':Gm}{rs:List R}(e:a0a f g Γ=some (rs,Γ')):∃r Γ1 rs',f Γ=some (r,Γ1)/\g Γ1=some (rs',Γ')/\rs=r::rs':=by
 unfold a0a at e;cases e1:f Γ with
 |none=>rw[e1] at e;cases e
 |some p=>
  rw[e1] at e;dsimp only[Option.bind] at e;cases e2:g p.2 with
  |none=>rw[e2] at e;cases e
  |some q=>rw[e2] at e;cases e;exact⟨p.1,p.2,q.1,rfl,e2,rfl⟩
theorem a0g:PA X [] (tGA K gaNil):=pa_nil.mono fun σ H Q t=>by
 obtain⟨F,A,Γ,r,Γ',k,e,w⟩:=t;cases e;exact w [] H ⟨F,A,Ext.refl,k,True.intro⟩
theorem a7c{σ:St}{H:Hp}{Q:List V->Hp->Prop}(t:tGA K (a0a fa fs) σ H Q):tCons (tG K fa) (tGA K fs) σ H Q:=by
 obtain⟨F,A,Γ,r,Γ',k,e,w⟩:=t;obtain⟨r1,Γ1,rs,e1,e2,rfl⟩:=b4p e;refine⟨F,A,Γ,r1,Γ1,k,e1,fun v H1 p=>?_⟩
 obtain⟨F1,A1,x,k1,hh⟩:=id p;obtain⟨C,kC,fr⟩:=OK.frame (τ:=[some v]) (Θ:=[r1.o]) k1 rfl;refine⟨F1,C,Γ1,rs,Γ',kC,e2,fun vs H2 p2=>w (v::vs) H2 ?_⟩
 obtain⟨F2,A2,x2,k2,h2⟩:=p2;obtain⟨A3,x3,k3⟩:=fr _ _ _ _ _ x2 k2;exact⟨F2,A3,x.trans x3,k3,Held.one (hh.att x2.att) h2⟩
theorem a0b(ha:PE X e (tG K fa))(hs:PA X es (tGA K fs))(hp:starEach (e::es) X.env=(false,eval e X.env)::starEach es X.env:=by rfl):PA X (e::es) (tGA K (a0a fa fs)):=
 (b2v ha hs hp).mono fun σ H Q t=>a7c t
def gOp(g:List O->Option O)(fs:GA):GE:=fun Γ=>(fs Γ).bind fun p=>(seeL p.2 p.1).bind fun os=>(g os).bind fun o=>some (.own o,p.2)
abbrev gBin(g:List O->Option O)(fa fb:GE):GE:=gOp g (a0a fa (a0a fb gaNil))
abbrev gUn(g:List O->Option O)(fa:GE):GE:=gOp g (a0a fa gaNil)
theorem d5v{g:List O->Option O}{Γ Γ':Gm}{r:R}(e:gOp g fs Γ=some (r,Γ')):∃rs os o,fs Γ=some (rs,Γ')/\seeL Γ' rs=some os/\g os=some o/\r=.own o:=by
 unfold gOp at e;cases e1:fs Γ with
 |none=>rw[e1] at e;cases e
 |some p=>
  rw[e1] at e;dsimp only[Option.bind] at e;cases e2:seeL p.2 p.1 with
  |none=>rw[e2] at e;cases e
  |some os=>
   rw[e2] at e;dsimp only at e;cases e3:g os with
   |none=>rw[e3] at e;cases e
   |some o=>rw[e3] at e;cases e;exact⟨p.1,os,o,rfl,e2,e3,rfl⟩
def OpOk(K:L2.FG)(r:List V->Hp->VK->Prop)(g:List O->Option O):Prop:=
 ∀(F H:Hp) (vs:List V) (os:List O) (o:O) (Q:VK),Same F H->Sees K F H vs os->g os=some o->Res K F H o Q->r vs H Q
theorem c6l{r:List V->Hp->VK->Prop}{g:List O->Option O}(ok:OpOk K r g){σ:St}{H:Hp}{Q:VK}(t:tG K (gOp g fs) σ H Q):tGA K fs σ H fun vs H1=>r vs H1 Q:=by
 obtain⟨F,A,Γ,rr,Γ',k,e,w⟩:=t;obtain⟨rs,os,o,e1,e2,e3,rfl⟩:=d5v e;refine⟨F,A,Γ,rs,Γ',k,e1,fun vs H1 p=>?_⟩
 obtain⟨F1,le,see,res⟩:=p.res e2 w;exact ok F1 H1 vs os o Q le see e3 res
def r2L(r:R2):List V->Hp->VK->Prop:=fun vs H Q=>∃x y,vs=[x,y]/\r x y H Q
def r1L(r:V->Hp->VK->Prop):List V->Hp->VK->Prop:=fun vs H Q=>∃x,vs=[x]/\r x H Q
theorem tG.mono{f:GE}{Q1 Q2:VK}{σ:St}{H:Hp}(t:tG K f σ H Q1)(q:∀v H',Q1 v H'->Q2 v H'):tG K f σ H Q2:=by
 obtain⟨F,A,Γ,rr,Γ',k,e,w⟩:=t;exact⟨F,A,Γ,rr,Γ',k,e,fun v H' p=>q _ _ (w v H' p)⟩
theorem c1z{r:R2}{g:List O->Option O}(ok:OpOk K (r2L r) g){σ:St}{H:Hp}{Q:VK}(t:tG K (gBin g fa fb) σ H Q):tOp r (tG K fa) (tG K fb) σ H Q:=by
 show tG K fa σ H fun x H1=>tG K fb σ H1 fun y H2=>r x y H2 Q
 refine tG.mono (a7c (c6l ok t)) fun x H1 h=>tG.mono (a7c h) fun y H2 h2=>?_
 obtain⟨F,A,Γ,rs,Γ',k,e,w⟩:=h2;cases e;obtain⟨x',y',e1,h3⟩:=w [] H2 ⟨F,A,Ext.refl,k,True.intro⟩;cases e1;exact h3
theorem d5w{r:V->Hp->VK->Prop}{g:List O->Option O}(ok:OpOk K (r1L r) g){σ:St}{H:Hp}{Q:VK}(t:tG K (gUn g fa) σ H Q):tG K fa σ H fun x H1=>r x H1 Q:=by
 refine tG.mono (a7c (c6l ok t)) fun x H1 h=>?_
 obtain⟨F,A,Γ,rs,Γ',k,e,w⟩:=h;cases e;obtain⟨x',e1,h3⟩:=w [] H1 ⟨F,A,Ext.refl,k,True.intro⟩;cases e1;exact h3
theorem a2b{op:Operator}{r:R2}{g:List O->Option O}(ho:OpR X (binaryOp op) r)(ok:OpOk K (r2L r) g)(ha:PE X a (tG K fa))(hb:PE X b (tG K fb)):PE X (.BinOp a op b pos) (tG K (gBin g fa fb)):=
 (e1m ho ha hb).mono fun _ _ _ t=>c1z ok t
theorem b4q{op:CmpOp}{r:R2}{g:List O->Option O}(ho:OpR X (compareOp op) r)(ok:OpOk K (r2L r) g)(ha:PE X a (tG K fa))(hb:PE X b (tG K fb))(hm:behindInMarks op b=false:=by first|rfl|exact c5s _):PE X (.Compare a [op] [b] pos) (tG K (gBin g fa fb)):=
 (d5i ho ha hb hm).mono fun _ _ _ t=>c1z ok t
theorem a1c{r:R2}{g:List O->Option O}(hr:IxR X r)(ok:OpOk K (r2L r) g)(ha:PE X a (tG K fa))(hb:PE X b (tG K fb))(hs:b1e b:=by exact fun _ _=>rfl):PE X (.Subscript a b pos) (tG K (gBin g fa fb)):=
 (c5y hr ha hb hs).mono fun _ _ _ t=>c1z ok t
theorem d9t{op:UnaryOp}{r:V->Hp->VK->Prop}{g:List O->Option O}(ho:UnR X (unaryOp op) r)(ok:OpOk K (r1L r) g)(ha:PE X a (tG K fa)):PE X (.UnaryOp op a pos) (tG K (gUn g fa)):=
 (e1n ho ha).mono fun _ _ _ t=>d5w ok t
variable {x:Str} {p:Pos} {id T:String} {r:List V->Hp->VK->Prop} {g:List O->Option O}
theorem a2g(hc:CallR X (.builtin id) r)(ok:OpOk K r g)(hm:X.mg x=none)(hv:bootBuiltins x=some (.builtin id))(ha:PA X (e::es) (tGA K fs))(hg:Gl X x:=by rfl)(hn:x≠"__name__":=by decide)(hdb:(x == ("__debug__":Str))=false:=by decide)
  (he:starEach (e::es) X.env=(false,eval e X.env)::starEach es X.env:=by rfl) (hpl:(backTo pos (starEach es X.env)).any (·.1)=false:=by rfl):PE X (.Call (.Name x p) (e::es) [] pos) (tG K (gOp g fs)):=
 (c1u hc hg hm hv ha hn hdb he hpl).mono fun _ _ _ t=>c6l ok t
theorem a6u(hc:CallR X (.type T) r)(ok:OpOk K r g)(hm:X.mg x=none)(hv:bootBuiltins x=some (.type T))(ha:PA X (e::es) (tGA K fs))(hg:Gl X x:=by rfl)(hn:x≠"__name__":=by decide)(hdb:(x == ("__debug__":Str))=false:=by decide)
  (he:starEach (e::es) X.env=(false,eval e X.env)::starEach es X.env:=by rfl) (hpl:(backTo pos (starEach es X.env)).any (·.1)=false:=by rfl):PE X (.Call (.Name x p) (e::es) [] pos) (tG K (gOp g fs)):=
 (b7w hc hg hm hv ha hn hdb he hpl).mono fun _ _ _ t=>c6l ok t
mutual
def O.d:O->D
 |.frz d=>d
 |.lst xs=>.lst (O.dl xs)
 |.tup xs=>.tup (O.dl xs)
 |.dct kvs=>.dct (O.dk kvs)
 |.ins _ _ _=>.obj
def O.dl:List O->List D
 |[]=>[]
 |x::xs=>x.d::O.dl xs
def O.dk:List (TK×O)->List (TK×D)
 |[]=>[]
 |(k,x)::xs=>(k,x.d)::O.dk xs
end
end
theorem OwnL.rep{K:L2.FG}{F F' H:Hp}{σ:St}{Γ:Gm}{A:List Addr}(h:OwnL K F H σ Γ A)(s:Same F F')(k:∀a∈A,∀o,H a=some o->F' a=some o):
  ∀(vs:List V) (os:List O),σ=vs.map some->Γ=os.map some->RepL K F' vs (O.dl os):=by
 induction h with
 |nil=>
  intro vs os e1 e2;cases vs with
  |nil=>cases os with
   |nil=>exact .nil
   |cons _ _=>cases e2
  |cons _ _=>cases e1
 |skip _ _=>
  intro vs os e1 e2;cases os with
  |nil=>cases e2
  |cons _ _=>injection e2 with e3 _;cases e3
 |frz r _ ih=>
  intro vs os e1 e2;cases vs with
  |nil=>cases e1
  |cons v vs=>cases os with
   |nil=>cases e2
   |cons o os=>
    injection e1 with e3 e4;injection e2 with e5 e6;cases e3;cases e5;exact .cons (r.mono s) (ih k vs os e4 e6)
 |lst e _ _ i1 i2=>
  intro vs os e1 e2;cases vs with
  |nil=>cases e1
  |cons v vs=>cases os with
   |nil=>cases e2
   |cons o os=>
    injection e1 with e3 e4;injection e2 with e5 e6;cases e3;cases e5;exact .lst (.inl (k _ (by simp) _ e)) (i1 (fun a m=>k a (by simp[m])) _ _ rfl rfl) (i2 (fun a m=>k a (by simp[m])) vs os e4 e6)
 |tup e _ _ i1 i2=>
  intro vs os e1 e2;cases vs with
  |nil=>cases e1
  |cons v vs=>cases os with
   |nil=>cases e2
   |cons o os=>
    injection e1 with e3 e4;injection e2 with e5 e6;cases e3;cases e5;exact .tup (SqT.of (k _ (by simp) _ e)) (i1 (fun a m=>k a (by simp[m])) _ _ rfl rfl) (i2 (fun a m=>k a (by simp[m])) vs os e4 e6)
 |@dct a kvs ps ep A B σ Γ e q r _ _ i1 i2=>
  intro vs os e1 e2;cases vs with
  |nil=>cases e1
  |cons v vs=>cases os with
   |nil=>cases e2
   |cons o os=>
    injection e1 with e3 e4;injection e2 with e5 e6;cases e3;cases e5;have hk:∀ps:List (TK×O),(O.dk ps).map (·.1)=ps.map (·.1)/\(O.dk ps).map (·.2)=O.dl (ps.map (·.2))/\(O.dk ps).map (·.1.d)=ps.map (·.1.d):=by
     intro ps
     induction ps with
     |nil=>exact⟨rfl,rfl,rfl⟩
     |cons p ps ih=>obtain⟨a,b⟩:=p;exact⟨by simp[O.dk,ih.1],by simp[O.dk,O.dl,ih.2.1],by simp[O.dk,ih.2.2]⟩
    refine .dct (k _ (by simp) _ e) (q.trans (hk ps).1.symm) (by rw[(hk ps).2.2];exact r.mono s) ?_ (i2 (fun a m=>k a (by simp[m])) vs os e4 e6)
    rw[(hk ps).2.1];exact i1 (fun a m=>k a (by simp[m])) _ _ (by simp) (by simp)
 |ins _ _ _ _ _ _ i2=>
  intro vs os e1 e2;cases vs with
  |nil=>cases e1
  |cons v vs=>cases os with
   |nil=>cases e2
   |cons o os=>
    injection e1 with e3 e4;injection e2 with e5 e6;cases e3;cases e5;exact .obj (i2 (fun a m=>k a (by simp[m])) vs os e4 e6)
section
variable {K:L2.FG} {F H:Hp} {A:List Addr} {σ:St} {Γ:Gm}
theorem OK.freeze{v:V}{o:O}(k:OK K F H (some v::σ) (some o::Γ) A):∃F' A',OK K F' H (some v::σ) (some (.frz o.d)::Γ) A'/\Ext F H A F' H A':=by
 obtain⟨B,C,h1,h2,h3⟩:=k.os.one;subst h3;obtain⟨n1,n2,n3⟩:=List.nodup_append.mp k.nd
 let F':Hp:=fun a=>if a∈B then H a else F a
 have in':∀a,a∈B->F' a=H a:=fun a m=>if_pos m
 have out':∀a,a∉B->F' a=F a:=fun a m=>if_neg m
 have s:Same F F':=fun a u e=>by
  rw[out' a fun m=>by rw[k.fr a (List.mem_append_left _ m)] at e;cases e]
  exact e
 have le:Same F' H:=fun a u e=>by
  by_cases m:a∈B
  ·rw[in' a m] at e;exact e
  ·rw[out' a m] at e;exact k.le a u e
 have rp:RepL K F' [v] [o.d]:=h1.rep s (fun a m u e=>by rw[in' a m];exact e) [v] [o] rfl rfl
 refine⟨F',C,⟨le,.frz rp (h2.keep s fun a _ u e=>e),n2,fun a m=>?_⟩,s,fun a u e _=>e,fun a h=>h,fun a h=>?_,fun a m=>.inl (List.mem_append_right _ m),.same (Same.refl _)⟩
 ·rw[out' a fun z=>n3 a z a m rfl]
  exact k.fr a (List.mem_append_right _ m)
 ·by_cases m:a∈B
  ·exact .inr (.inl (List.mem_append_left _ m))
  ·rw[out' a m] at h;exact .inl h
theorem OK.grab{v:V}{o:O}{i:Nat}{A:List Addr}(k:OK K F H (some v::σ) (none::Γ) A)(hv:σ[i]?=some (some v))(ho:Γ[i]?=some (some o)):∃A',OK K F H (some v::σ) (some o::Γ.set i none) A'/\Ext F H A F H A':=by
 obtain⟨B,C,h1,h2,h3⟩:=k.os.one;subst h3;have eB:B=[]:=by cases h1 with|skip t=>cases t;rfl
 subst eB;obtain⟨v',Ai,B',g1,g2,g3,g4⟩:=h2.take ho;rw[hv] at g1;cases g1;have nd:=k.nd;have fr:=k.fr;rw[List.nil_append] at nd fr;exact⟨Ai++B',.perm (g2.app g3) k.le nd fr g4.symm,Ext.own' Ext.refl fun a m=>g4.mem_iff.mpr m⟩
end
def gFrz(f:GE):GE:=fun Γ=>(f Γ).bind fun p=>match p.1 with
 |.own o=>some (.own (.frz o.d),p.2)
 |.var i=>match p.2[i]? with
  |some (some o)=>some (.own (.frz o.d),p.2.set i (some (.frz o.d)))
  |_=>none
 |_=>none
def gMove(f:GE):GE:=fun Γ=>(f Γ).bind fun p=>match p.1 with
 |.own o=>some (.own o,p.2)
 |.var i=>match p.2[i]? with
  |some (some o)=>some (.own o,p.2.set i none)
  |_=>none
 |_=>none
section
variable {X:Cx} {K:L2.FG} {e a b:Expr} {es:List Expr} {fa fb:GE} {fs:GA} {pos:Pos}
theorem a5q{α:Type}:∀{l:List α} {i:Nat} {x:α},l[i]?=some x->l.set i x=l
 |[],_,_,e=>by simp at e
 |y::l,0,x,e=>by simp at e;subst e;rfl
 |y::l,i+1,x,e=>by rw[List.set_cons_succ,a5q (by simpa using e)]
theorem Post.frz{F H:Hp}{A:List Addr}{σ:St}{Γ Γ1 Γ':Gm}{r r':R}{v:V}{H':Hp}{f:GE}(e:f Γ=some (r,Γ1))(e':gFrz f Γ=some (r',Γ'))(h:Post K F H A σ Γ1 [r] [v] H'):Post K F H A σ Γ' [r'] [v] H':=by
 obtain⟨F1,A1,x,k,hh⟩:=h;unfold gFrz at e';rw[e] at e';cases r with
 |own o=>
  cases e';obtain⟨F2,A2,k2,x2⟩:=OK.freeze (σ:=σ) (Γ:=Γ1) k;exact⟨F2,A2,x.trans x2,k2,True.intro⟩
 |var i=>
  dsimp only[Option.bind] at e';cases q:Γ1[i]? with
  |none=>rw[q] at e';cases e'
  |some z=>
   cases z with
   |none=>rw[q] at e';cases e'
   |some o=>
    rw[q] at e';cases e';have hv:σ[i]?=some (some v):=hh.1;obtain⟨A2,k2,x2⟩:=OK.grab (σ:=σ) (Γ:=Γ1) k hv q;obtain⟨F3,A3,k3,x3⟩:=OK.freeze k2;obtain⟨B,C,h1,h2,h3⟩:=k3.os.one;have hi:i < (Γ1.set i none).length:=by
     rw[List.length_set];exact(List.getElem?_eq_some_iff.mp q).1
    have rp:RepL K F3 [v] [o.d]:=by cases h1 with|frz r _=>exact r
    have eB:B=[]:=by cases h1 with|frz _ t=>cases t;rfl
    subst eB;obtain⟨B2,g1,C2,g2,g3⟩:=OwnL.put (.frz rp .nil) i h2 hi;rw[a5q hv,List.set_set] at g1;rw[List.nil_append] at g2 h3;subst h3;have nd2:B2.Nodup:=g2.nodup_iff.mpr (k3.nd.sublist g3);have sub:∀a∈B2,a∈A3:=fun a m=>g3.subset (g2.mem_iff.mp m)
    exact⟨F3,B2,(x.trans (x2.trans x3)).own' sub,⟨k3.le,.frz rp g1,nd2,fun a m=>k3.fr a (sub a m)⟩,True.intro⟩
 |fld i j=>cases e'
theorem d1q{f:GE}{Γ Γ':Gm}{r:R}(e:gFrz f Γ=some (r,Γ')):∃r1 Γ1,f Γ=some (r1,Γ1):=by
 unfold gFrz at e;cases q:f Γ with
 |none=>rw[q] at e;cases e
 |some p=>exact⟨p.1,p.2,rfl⟩
theorem d9u{σ:St}{H:Hp}{Q:VK}(t:tG K (gFrz fa) σ H Q):tG K fa σ H Q:=by
 obtain⟨F,A,Γ,rr,Γ',k,e,w⟩:=t;obtain⟨r1,Γ1,e1⟩:=d1q e;exact⟨F,A,Γ,r1,Γ1,k,e1,fun v H' p=>w v H' (p.frz e1 e)⟩
theorem a1f(h:PE X e (tG K fa)):PE X e (tG K (gFrz fa)):=h.mono fun _ _ _ t=>d9u t
theorem d5x{σ:St}{H:Hp}{Q:VK}(t:tG K (gMove fa) σ H Q):tG K fa σ H Q:=by
 obtain⟨F,A,Γ,rr,Γ',k,e,w⟩:=t;unfold gMove at e;cases q:fa Γ with
 |none=>rw[q] at e;cases e
 |some p=>
  rw[q] at e;refine⟨F,A,Γ,p.1,p.2,k,q,fun v H' pp=>w v H' ?_⟩
  obtain⟨r,Γ1⟩:=p;cases r with
  |own o=>cases e;exact pp
  |var i=>
   dsimp only[Option.bind] at e;cases q:Γ1[i]? with
   |none=>rw[q] at e;cases e
   |some z=>
    cases z with
    |none=>rw[q] at e;cases e
    |some o=>
     rw[q] at e;cases e;obtain⟨F1,A1,x,k,hh⟩:=pp;obtain⟨A2,k2,x2⟩:=OK.grab (σ:=σ) (Γ:=Γ1) k hh.1 q;exact⟨F1,A2,x.trans x2,k2,True.intro⟩
  |fld i j=>cases e
theorem b1j(h:PE X e (tG K fa)):PE X e (tG K (gMove fa)):=h.mono fun _ _ _ t=>d5x t
def ownL:List R->Option (List O)
 |[]=>some []
 |.own o::rs=>(ownL rs).bind fun os=>some (o::os)
 |_::_=>none
theorem a5r:∀{rs:List R} {os:List O},ownL rs=some os->rs.map R.o=os.map some
 |[],os,e=>by cases e;rfl
 |.own o::rs,os,e=>by
  unfold ownL at e;cases q:ownL rs with
  |none=>rw[q] at e;cases e
  |some os'=>rw[q] at e;cases e;simp[a5r q,R.o]
 |.var _::_,_,e=>by cases e
 |.fld _ _::_,_,e=>by cases e
def gSeq(c:List O->O)(fs:GA):GE:=fun Γ=>(fs Γ).bind fun p=>if p.1.length<=1000 then(ownL p.1).bind fun os=>some (.own (c os),p.2) else none
theorem c2a{c:List O->O}{Γ Γ':Gm}{r:R}(e:gSeq c fs Γ=some (r,Γ')):∃rs os,fs Γ=some (rs,Γ')/\rs.length<=1000/\ownL rs=some os/\r=.own (c os):=by
 unfold gSeq at e;cases e1:fs Γ with
 |none=>rw[e1] at e;cases e
 |some p=>
  rw[e1] at e;dsimp only[Option.bind] at e;split at e
  ·cases e2:ownL p.1 with
   |none=>rw[e2] at e;cases e
   |some os=>rw[e2] at e;cases e;exact⟨p.1,os,rfl,by assumption,e2,rfl⟩
  ·cases e
theorem a4s(h:PA X es (tGA K fs)):PE X (.List es pos) (tG K (gSeq .lst fs)):=(d9f h).mono fun σ H Q t=>by
 obtain⟨F,A,Γ,rr,Γ',k,e,w⟩:=t;obtain⟨rs,os,e1,e2,e3,rfl⟩:=c2a e;refine⟨F,A,Γ,rs,Γ',k,e1,fun vs H1 p=>?_⟩
 obtain⟨F1,A1,x,k1,hh⟩:=p;rw[a5r e3] at k1;have hl:=hh.length;have ho:os.length=rs.length:=by have:=congrArg List.length (a5r e3);simpa using this.symm
 refine⟨d3w (by omega),fun l hn=>w (.ref l) _ ?_⟩
 obtain⟨B,C,h1,h2,h3⟩:=OwnL.split (by simp only[List.length_map];omega) k1.os
 have nl:∀a∈A1,a≠l:=fun a m z=>k1.os.there a m (by rw[z];exact hn)
 have kp:∀a∈A1,∀o,H1 a=some o->upd H1 l (.lst vs) a=some o:=fun a m o e=>by rw[a0v (nl a m)];exact e
 subst h3;refine⟨F1,l::B++C,x.trans ⟨Same.refl _,fun a o e _=>?_,fun a h=>?_,fun a h=>.inl h,fun a m=>?_,.same (a2r hn)⟩,⟨fun a o e=>?_,?_,?_,?_⟩,True.intro⟩
 ·rw[a0v (a1u e hn)];exact e
 ·by_cases z:a=l
  ·rw[z,a1z];exact fun z=>by cases z
  ·rw[a0v z];exact h
 ·rcases List.mem_cons.mp m with rfl|m
  ·exact .inr hn
  ·exact .inl m
 ·have:=k1.le a o e;rw[a0v (a1u this hn)];exact this
 ·exact .lst a1z (h1.keep (Same.refl _) fun a m=>kp a (List.mem_append_left _ m)) (h2.keep (Same.refl _) fun a m=>kp a (List.mem_append_right _ m))
 ·exact List.nodup_cons.mpr ⟨fun m=>nl l m rfl,k1.nd⟩
 ·intro a m;rcases List.mem_cons.mp m with rfl|m
  ·exact k1.le.free hn
  ·exact k1.fr a m
theorem a8w{x1}(h:PA X es (tGA K fs)):PE X (.Tuple es x1 pos) (tG K (gSeq .tup fs)):=(d9e h).mono fun σ H Q t=>by
 obtain⟨F,A,Γ,rr,Γ',k,e,w⟩:=t;obtain⟨rs,os,e1,e2,e3,rfl⟩:=c2a e;refine⟨F,A,Γ,rs,Γ',k,e1,fun vs H1 p=>?_⟩
 obtain⟨F1,A1,x,k1,hh⟩:=p;rw[a5r e3] at k1;have hl:=hh.length;have ho:os.length=rs.length:=by have:=congrArg List.length (a5r e3);simpa using this.symm
 refine⟨d3w (by omega),fun l hn=>w (.ref l) _ ?_⟩
 obtain⟨B,C,h1,h2,h3⟩:=OwnL.split (by simp only[List.length_map];omega) k1.os
 have nl:∀a∈A1,a≠l:=fun a m z=>k1.os.there a m (by rw[z];exact hn)
 have kp:∀a∈A1,∀o,H1 a=some o->upd H1 l (.tup vs) a=some o:=fun a m o e=>by rw[a0v (nl a m)];exact e
 subst h3;refine⟨F1,l::B++C,x.trans ⟨Same.refl _,fun a o e _=>?_,fun a h=>?_,fun a h=>.inl h,fun a m=>?_,.same (a2r hn)⟩,⟨fun a o e=>?_,?_,?_,?_⟩,True.intro⟩
 ·rw[a0v (a1u e hn)];exact e
 ·by_cases z:a=l
  ·rw[z,a1z];exact fun z=>by cases z
  ·rw[a0v z];exact h
 ·rcases List.mem_cons.mp m with rfl|m
  ·exact .inr hn
  ·exact .inl m
 ·have:=k1.le a o e;rw[a0v (a1u this hn)];exact this
 ·exact .tup a1z (h1.keep (Same.refl _) fun a m=>kp a (List.mem_append_left _ m)) (h2.keep (Same.refl _) fun a m=>kp a (List.mem_append_right _ m))
 ·exact List.nodup_cons.mpr ⟨fun m=>nl l m rfl,k1.nd⟩
 ·intro a m;rcases List.mem_cons.mp m with rfl|m
  ·exact k1.le.free hn
  ·exact k1.fr a m
def c2b:GE:=fun Γ=>some (.own (.dct []),Γ)
theorem d1r{P:Program}{w:World}{H:Hp}(h:Heap)(hb:sysModules < h.objs.size):ObjOk P w H (h.push { cls:=.type "dict",data:=.dict #[]}) h.objs.size (.dG [] 0):=
 ⟨Nat.zero_le _,beq_eq_false_iff_ne.mpr (Ne.symm (Nat.ne_of_lt hb)),_,#[],Heap.get?_push_size _ rfl,⟨rfl,rfl,rfl⟩,rfl,.nil,List.nodup_nil⟩
def d9v:TE:=fun _ H Q=>∀p,H p=none->Q (.ref p) (upd H p (.dG [] 0))
theorem pe_dnewG:PE X (.Dict [] [] pos) d9v:=fun pins s σ H Q I h=>
 wpAny_Dict_empty ⟨.ref s.heap.objs.size,_,I.laid (a:=s.heap.objs.size) (o:=.dG [] 0) (t':=s.toks) (fun _ _ q=>Heap.get?_push_of_some _ q) (Nat.le_refl _) (d1r s.heap I.big),rfl,h _ (I.hok.fresh (Nat.le_refl _))⟩
theorem c2c:PE X (.Dict [] [] pos) (tG K c2b):=pe_dnewG.mono fun σ H Q t=>by
 obtain⟨F,A,Γ,rr,Γ',k,e,w⟩:=t;cases e;intro l hn;refine w (.ref l) _ ?_;have s:Same H (upd H l (.dG [] 0)):=a2r hn;obtain⟨k2,x⟩:=k.push (v:=.ref l) (o:=.dct []) (Av:=[l]++[]++[]) s (.dct (kvs:=[]) a1z rfl .nil .nil .nil) (by simp) (fun a m=>by simp at m;rw[m];exact hn)
 exact⟨F,_,x,k2,True.intro⟩
def gT(f:GE):GT:=fun Γ=>(f Γ).bind fun p=>match p.1 with
 |.own (.frz (.bl b))=>some (b,p.2)
 |_=>none
theorem Post.drop{F H:Hp}{A:List Addr}{σ:St}{Γ':Gm}{rs:List R}{vs:List V}{H':Hp}(h:Post K F H A σ Γ' rs vs H'):Post K F H A σ Γ' [] [] H':=by
 obtain⟨F1,A1,x,k,hh⟩:=h;obtain⟨B,kB,sub⟩:=k.part (by rw[List.length_map,List.length_map,hh.length])
 exact⟨F1,B,x.own' sub,kB,True.intro⟩
theorem Post.flat{F H:Hp}{A:List Addr}{σ:St}{Γ':Gm}{d:D}{v w:V}{H':Hp}(h:Post K F H A σ Γ' [.own (.frz d)] [v] H')(e:a3z d=some w):v=w:=by
 obtain⟨F1,A1,x,k,hh⟩:=h;obtain⟨B,C,h1,_⟩:=OwnL.one (σ:=σ) (Γ:=Γ') k.os;cases h1 with
 |frz r _=>
  cases r with
  |flat e' _=>rw[e] at e';exact(Option.some.inj e').symm
  |lst _ _ _=>cases e
  |tup _ _ _=>cases e
  |dct _ _ _ _ _=>cases e
  |scr _ _=>cases e
  |exc _ _=>cases e
  |obj _=>cases e
theorem c6m{f:GE}{σ:St}{H:Hp}{Q:Bool->Hp->Prop}(t:tGT K (gT f) σ H Q):tG K f σ H fun x H'=>∃k,x=.bl k/\Q k H':=by
 obtain⟨F,A,Γ,b,Γ',k,e,w⟩:=t;unfold gT at e;cases q:f Γ with
 |none=>rw[q] at e;cases e
 |some p=>
  obtain⟨r,Γ1⟩:=p;rw[q] at e;dsimp only[Option.bind] at e;cases r with
  |var i=>cases e
  |fld i j=>cases e
  |own o=>
   cases o with
   |frz d=>
    cases d with
    |bl b'=>
     cases e;exact⟨F,A,Γ,_,_,k,q,fun v H' pp=>⟨_,pp.flat rfl,w H' pp.drop⟩⟩
    |_=>cases e
   |_=>cases e
theorem a3a{op:CmpOp}{r:R2}{g:List O->Option O}(ho:OpR X (compareOp op) r)(ok:OpOk K (r2L r) g)(ha:PE X a (tG K fa))(hb:PE X b (tG K fb))(hm:behindInMarks op b=false:=by first|rfl|exact c5s _):PT X (.Compare a [op] [b] pos) (tGT K (gT (gBin g fa fb))):=
 (c5t ho ha hb hm).mono fun _ _ _ t=>c1z ok (c6m t)
def truO:O->Option Bool
 |.frz .non=>some false
 |.frz (.bl b)=>some b
 |.frz (.int i)=>some (i != 0)
 |.frz (.str x)=>if x.length<=1000000 then some ((x.length:Int) != 0) else none
 |.frz (.lst xs)=>some (!xs.isEmpty)
 |.frz (.tup xs)=>some (!xs.isEmpty)
 |.lst xs=>some (!xs.isEmpty)
 |.tup xs=>some (!xs.isEmpty)
 |_=>none
def gTru(f:GE):GT:=fun Γ=>(f Γ).bind fun p=>(seeR p.2 p.1).bind fun o=>(truO o).bind fun b=>some (b,p.2)
theorem a7d{α β:Type}{xs:List α}{ys:List β}(h:xs.length=ys.length):(!xs.isEmpty) = !ys.isEmpty:=by
 cases xs <;> cases ys <;> simp_all
theorem d5y{F H:Hp}{v:V}{o:O}{b:Bool}{B:List Addr}(le:Same F H)(h:OwnL K F H [some v] [some o] B)(e:truO o=some b):TruV K v H b:=by
 cases h with
 |lst q i _=>cases e;exact .inl ⟨_,SqL.of q,a7d (by have:=i.length;simpa using this.symm)⟩
 |tup q i _=>cases e;exact .inr (.inl ⟨_,SqT.of q,a7d (by have:=i.length;simpa using this.symm)⟩)
 |dct q z r i _=>cases e
 |ins _ _ _ _ _=>cases e
 |@frz v d σ Γ B r _=>
  cases r with
  |lst q i _=>cases e;exact .inl ⟨_,.inl (le.rd q),a7d i.length.symm⟩
  |tup q i _=>cases e;exact .inr (.inl ⟨_,le.seqT q,a7d i.length.symm⟩)
  |dct q z r i _=>cases e
  |scr _ _=>cases e
  |exc _ _=>cases e
  |obj _=>cases e
  |flat q _=>
   cases d with
   |non=>cases q;cases e;rfl
   |bl b'=>cases q;cases e;rfl
   |int i=>cases q;cases e;rfl
   |str x=>
    cases q;unfold truO at e;dsimp only at e;split at e
    ·cases e;exact⟨Nat.le_trans (by assumption) (by decide),rfl⟩
    ·cases e
   |ty n=>cases e
   |lst _=>cases q
   |tup _=>cases q
   |dct _=>cases q
   |scr _=>cases q
   |exc _ _=>cases q
   |obj=>cases q
theorem a6v{X:Cx}{a:Expr}{fa:GE}(ha:PE X a (tG K fa))(he:∀whole,isTrue a X.env whole=(do let v <-whole;standAt a.pos;holding [v] (truthy v)):=by exact fun _=>rfl)(hK:X.K=K:=by rfl):PT X a (tGT K (gTru fa)):=
 (c6i K ha he hK).mono fun σ H Q t=>by
  obtain⟨F,A,Γ,b,Γ',k,e,w⟩:=t;unfold gTru at e;cases q:fa Γ with
  |none=>rw[q] at e;cases e
  |some p=>
   obtain⟨r,Γ1⟩:=p;rw[q] at e;dsimp only[Option.bind] at e;cases q2:seeR Γ1 r with
   |none=>rw[q2] at e;cases e
   |some o=>
    rw[q2] at e;dsimp only at e;cases q3:truO o with
    |none=>rw[q3] at e;cases e
    |some b'=>
     rw[q3] at e;cases e;refine⟨F,A,Γ,r,_,k,q,fun v H' pp=>⟨_,?_,w H' pp.drop⟩⟩
     obtain⟨F1,le,see,_⟩:=Post.res (Q:=fun _ _=>True) (o:=.frz .non) pp (os:=[o]) (by unfold seeL;rw[q2];rfl) (fun _ _ _=>True.intro)
     cases see with
     |cons hs _=>obtain⟨B,hB⟩:=hs;exact d5y le hB q3
def gNotT(f:GT):GT:=fun Γ=>(f Γ).bind fun p=>some (!p.1,p.2)
def gAndT(f g:GT):GT:=fun Γ=>(f Γ).bind fun p=>if p.1=true then g p.2 else some (false,p.2)
def gOrT(f g:GT):GT:=fun Γ=>(f Γ).bind fun p=>if p.1=true then some (true,p.2) else g p.2
theorem b5y{f:GT}{h:GT}{φ:Bool->GT}(eh:∀Γ,h Γ=(f Γ).bind fun p=>φ p.1 p.2){σ:St}{H:Hp}{Q:Bool->Hp->Prop}(t:tGT K h σ H Q):tGT K f σ H fun c H1=>tGT K (φ c) σ H1 Q:=by
 obtain⟨F,A,Γ,b,Γ',k,e,w⟩:=t;rw[eh] at e;cases q:f Γ with
 |none=>rw[q] at e;cases e
 |some p=>
  obtain⟨c,Γ1⟩:=p;rw[q] at e;refine⟨F,A,Γ,c,Γ1,k,q,fun H1 pp=>?_⟩
  obtain⟨F1,A1,x,k1,_⟩:=pp;exact⟨F1,A1,Γ1,b,Γ',k1,e,fun H2 p2=>w H2 (by obtain⟨F2,A2,x2,k2,h2⟩:=p2;exact⟨F2,A2,x.trans x2,k2,h2⟩)⟩
theorem b2j{b:Bool}{σ:St}{H:Hp}{Q:Bool->Hp->Prop}(t:tGT K (fun Γ=>some (b,Γ)) σ H Q):Q b H:=by
 obtain⟨F,A,Γ,b',Γ',k,e,w⟩:=t;cases e;exact w H ⟨F,A,Ext.refl,k,True.intro⟩
theorem tGT.mono{f:GT}{Q1 Q2:Bool->Hp->Prop}{σ:St}{H:Hp}(t:tGT K f σ H Q1)(q:∀v H',Q1 v H'->Q2 v H'):tGT K f σ H Q2:=by
 obtain⟨F,A,Γ,rr,Γ',k,e,w⟩:=t;exact⟨F,A,Γ,rr,Γ',k,e,fun H' p=>q _ _ (w H' p)⟩
variable {ft gt:GT} {rest:List Expr}
theorem b4r(h:PT X a (tGT K ft)):PT X (.UnaryOp .Not a pos) (tGT K (gNotT ft)):=(d8w h).mono fun σ H Q t=>
 (b5y (φ:=fun c Γ=>some (!c,Γ)) (fun _=>rfl) t).mono fun c H1 h=>b2j h
theorem c6n(h:PT X a (tGT K ft)):PW X (.BoolOp .And [a] pos) (tGT K ft):=d5e h
theorem c6o(h:PT X a (tGT K ft)):PW X (.BoolOp .Or [a] pos) (tGT K ft):=d8u h
theorem d3y(ha:PT X a (tGT K ft))(hb:PW X (.BoolOp .And (b::rest) pos) (tGT K gt)):PW X (.BoolOp .And (a::b::rest) pos) (tGT K (gAndT ft gt)):=(d8v ha hb).mono fun σ H Q t=>
 (b5y (φ:=fun c Γ=>if c=true then gt Γ else some (false,Γ)) (fun _=>rfl) t).mono fun c H1 h=>by
  cases c with
  |true=>exact iteT (by simpa using h)
  |false=>exact iteF (b2j (by simpa using h))
theorem d5z(ha:PT X a (tGT K ft))(hb:PW X (.BoolOp .Or (b::rest) pos) (tGT K gt)):PW X (.BoolOp .Or (a::b::rest) pos) (tGT K (gOrT ft gt)):=(e1l ha hb).mono fun σ H Q t=>
 (b5y (φ:=fun c Γ=>if c=true then some (true,Γ) else gt Γ) (fun _=>rfl) t).mono fun c H1 h=>by
  cases c with
  |true=>exact iteT (b2j (by simpa using h))
  |false=>exact iteF (by simpa using h)
def gIf(c:GT)(f g:GE):GE:=fun Γ=>(c Γ).bind fun p=>if p.1=true then f p.2 else g p.2
def gAndV(f g:GE):GE:=fun Γ=>(gT f Γ).bind fun p=>if p.1=true then g p.2 else gC (.bl false) p.2
theorem d3z{f:GT}{h:GE}{φ:Bool->GE}(eh:∀Γ,h Γ=(f Γ).bind fun p=>φ p.1 p.2){σ:St}{H:Hp}{Q:VK}(t:tG K h σ H Q):tGT K f σ H fun c H1=>tG K (φ c) σ H1 Q:=by
 obtain⟨F,A,Γ,b,Γ',k,e,w⟩:=t;rw[eh] at e;cases q:f Γ with
 |none=>rw[q] at e;cases e
 |some p=>
  obtain⟨c,Γ1⟩:=p;rw[q] at e;refine⟨F,A,Γ,c,Γ1,k,q,fun H1 pp=>?_⟩
  obtain⟨F1,A1,x,k1,_⟩:=pp;exact⟨F1,A1,Γ1,b,Γ',k1,e,fun v H2 p2=>w v H2 (by obtain⟨F2,A2,x2,k2,h2⟩:=p2;exact⟨F2,A2,x.trans x2,k2,h2⟩)⟩
theorem tG_c{d:D}{v:V}{σ:St}{H:Hp}{Q:VK}(t:tG K (gC d) σ H Q)(q:a3z d=some v):Q v H:=by
 obtain⟨F,A,Γ,r,Γ',k,e,w⟩:=t;cases e;obtain⟨k2,x⟩:=k.push (v:=v) (o:=.frz d) (Av:=[]) (Same.refl _) (.frz (.flat q .nil) .nil) .nil (fun _ m=>by cases m)
 exact w v H ⟨F,_,x,k2,True.intro⟩
theorem d9w{c:Expr}{fc:GT}(hc:PT X c (tGT K fc))(ha:PE X a (tG K fa))(hb:PE X b (tG K fb)):PE X (.IfExp c a b pos) (tG K (gIf fc fa fb)):=(d0z hc ha hb).mono fun σ H Q t=>
 (d3z (φ:=fun c Γ=>if c=true then fa Γ else fb Γ) (fun _=>rfl) t).mono fun c H1 h=>by
  cases c with
  |true=>exact iteT (by simpa using h)
  |false=>exact iteF (by simpa using h)
theorem d9x{op}(h:PE X a (tG K fa)):PE X (.BoolOp op [a] pos) (tG K fa):=d8x h
theorem d9y(ha:PE X a (tG K fa))(hb:PE X (.BoolOp .And (b::rest) pos) (tG K fb)):PE X (.BoolOp .And (a::b::rest) pos) (tG K (gAndV fa fb)):=(d8y ha hb).mono fun σ H Q t=>
 tG.mono (c6m (d3z (φ:=fun c Γ=>if c=true then fb Γ else gC (.bl false) Γ) (fun _=>rfl) t)) fun v H1 ⟨c,e,h⟩=>⟨c,e,by
  cases c with
  |true=>exact iteT (by simpa using h)
  |false=>exact iteF (tG_c (d:=.bl false) (by simpa using h) rfl)⟩
end
def SubP(A B:List Addr):Prop:=∃L,A.Perm L/\L.Sublist B
theorem SubP.refl(A:List Addr):SubP A A:=⟨A,.refl _,List.Sublist.refl _⟩
theorem SubP.of_perm{A B:List Addr}(p:A.Perm B):SubP A B:=⟨B,p,List.Sublist.refl _⟩
theorem SubP.of_sub{A B:List Addr}(p:A.Sublist B):SubP A B:=⟨A,.refl _,p⟩
theorem SubP.trans{A B C:List Addr}(x:SubP A B)(y:SubP B C):SubP A C:=by
 obtain⟨L,p,s⟩:=x;obtain⟨M,q,t⟩:=y;obtain⟨N,n1,n2⟩:=List.exists_perm_sublist s q;exact⟨N,p.trans n1.symm,n2.trans t⟩
theorem SubP.mem{A B:List Addr}(x:SubP A B):∀a∈A,a∈B:=fun a m=>let ⟨_,p,s⟩:=x;s.subset (p.mem_iff.mp m)
theorem SubP.nodup{A B:List Addr}(x:SubP A B)(n:B.Nodup):A.Nodup:=let ⟨_,p,s⟩:=x;p.nodup_iff.mpr (n.sublist s)
theorem SubP.app{A B C D:List Addr}(x:SubP A B)(y:SubP C D):SubP (A++C) (B++D):=let ⟨_,p,s⟩:=x;let ⟨_,q,t⟩:=y;⟨_,p.append q,s.append t⟩
theorem OK.sub{K:L2.FG}{F H:Hp}{σ σ':St}{Γ Γ':Gm}{A B:List Addr}(k:OK K F H σ Γ A)(h:OwnL K F H σ' Γ' B)(s:SubP B A):OK K F H σ' Γ' B/\Ext F H A F H B:=
 ⟨⟨k.le,h,s.nodup k.nd,fun a m=>k.fr a (s.mem a m)⟩,Ext.own' Ext.refl s.mem⟩
inductive Fl where
 |nx|bk|ct|rt (o:O)
abbrev GS:=Gm->Option (Fl×Gm)
def Kept(m:List Bool)(σ σ':St):Prop:=∀j:Nat,m[j]?=some true->σ'[j]?=σ[j]?
theorem Kept.refl{m:List Bool}{σ:St}:Kept m σ σ:=fun _ _=>rfl
theorem Kept.trans{m:List Bool}{σ σ1 σ2:St}(a:Kept m σ σ1)(b:Kept m σ1 σ2):Kept m σ σ2:=fun j h=>(b j h).trans (a j h)
theorem Kept.set{m:List Bool}{σ:St}{i:Nat}{v:Option V}(h:(m[i]? == some true)=false):Kept m σ (σ.set i v):=fun j hj=>by
 by_cases e:i=j
 ·subst e;rw[hj] at h;simp at h
 ·rw[List.getElem?_set_ne e]
def PostS(K:L2.FG)(F H:Hp)(A:List Addr)(m:List Bool)(σ:St)(Γ':Gm)(σ':St)(H':Hp):Prop:=∃F' A',Ext F H A F' H' A'/\OK K F' H' σ' Γ' A'/\Kept m σ σ'
def PostV(K:L2.FG)(F H:Hp)(A:List Addr)(m:List Bool)(σ:St)(Γ':Gm)(o:O)(v:V)(σ':St)(H':Hp):Prop:=∃F' A',Ext F H A F' H' A'/\OK K F' H' (some v::σ') (some o::Γ') A'/\Kept m σ σ'
abbrev XW:=Addr->Option Addr->St->Hp->Prop
def isX:O->Option (Addr×Option Int)
 |.frz (.exc C l)=>some (C,l)
 |_=>none
def ExcL(F:Hp)(dx:Option Addr):Option Int->Prop
 |none=>dx=none
 |some n=>∃d,dx=some d/\F d=some (.xd [("line",.int n)])
def PostX(K:L2.FG)(F H:Hp)(A:List Addr)(m:List Bool)(σ:St)(Γ':Gm)(l:Option Int)(dx:Option Addr)(σ':St)(H':Hp):Prop:=∃F' A',Ext F H A F' H' A'/\OK K F' H' σ' Γ' A'/\Kept m σ σ'/\ExcL F' dx l
def DoneR(K:L2.FG)(m:List Bool)(D:Ends)(F H:Hp)(A:List Addr)(σ:St)(o:O)(Γ':Gm):Option XW->Prop
 |none=>∀v σ' H',PostV K F H A m σ Γ' o v σ' H'->D.rt v H'
 |some W=>match isX o with
  |some p=>∀dx σ' H',PostX K F H A m σ Γ' p.2 dx σ' H'->W p.1 dx σ' H'
  |none=>∀v σ' H',PostV K F H A m σ Γ' o v σ' H'->D.rt v H'
def Done(K:L2.FG)(m:List Bool)(W:Option XW)(D:Ends)(F H:Hp)(A:List Addr)(σ:St):Fl->Gm->Prop
 |.nx,Γ'=>∀σ' H',PostS K F H A m σ Γ' σ' H'->D.nx σ' H'
 |.bk,Γ'=>∀σ' H',PostS K F H A m σ Γ' σ' H'->D.bk σ' H'
 |.ct,Γ'=>∀σ' H',PostS K F H A m σ Γ' σ' H'->D.ct σ' H'
 |.rt o,Γ'=>DoneR K m D F H A σ o Γ' W
def tS(K:L2.FG)(m:List Bool)(W:Option XW)(f:GS):TS:=fun D σ H=>∃F A Γ fl Γ',OK K F H σ Γ A/\f Γ=some (fl,Γ')/\Done K m W D F H A σ fl Γ'
theorem DoneR.imp{K:L2.FG}{m:List Bool}{W:Option XW}{D D1:Ends}{F H F1 H1:Hp}{A A1:List Addr}{σ σ1:St}{o:O}{Γ':Gm}(d:DoneR K m D F H A σ o Γ' W)(x:Ext F H A F1 H1 A1)(kp:Kept m σ σ1)(h:∀v H,D.rt v H->D1.rt v H):DoneR K m D1 F1 H1 A1 σ1 o Γ' W:=by
 have pv:(∀v σ' H',PostV K F H A m σ Γ' o v σ' H'->D.rt v H')->∀v σ' H',PostV K F1 H1 A1 m σ1 Γ' o v σ' H'->D1.rt v H':=fun d v σ' H' ⟨F',A',x',k,q⟩=>h v H' (d v σ' H' ⟨F',A',x.trans x',k,kp.trans q⟩)
 cases W with
 |none=>exact pv d
 |some W=>
  unfold DoneR at d ⊢;cases q:isX o with
  |none=>rw[q] at d;exact pv d
  |some p=>
   rw[q] at d;exact fun dx σ' H' ⟨F',A',x',k,q,r⟩=>d dx σ' H' ⟨F',A',x.trans x',k,kp.trans q,r⟩
theorem DoneR.val{K:L2.FG}{m:List Bool}{W:Option XW}{D:Ends}{F H:Hp}{A:List Addr}{σ:St}{o:O}{Γ':Gm}(d:DoneR K m D F H A σ o Γ' W)(h:isX o=none):∀v σ' H',PostV K F H A m σ Γ' o v σ' H'->D.rt v H':=by
 cases W with
 |none=>exact d
 |some W=>unfold DoneR at d;rw[h] at d;exact d
theorem Done.step{K:L2.FG}{m:List Bool}{W:Option XW}{D:Ends}{F H F1 H1:Hp}{A A1:List Addr}{σ σ1:St}{fl:Fl}{Γ':Gm}(d:Done K m W D F H A σ fl Γ')(x:Ext F H A F1 H1 A1)(kp:Kept m σ σ1):Done K m W D F1 H1 A1 σ1 fl Γ':=by
 cases fl with
 |nx=>exact fun σ' H' ⟨F',A',x',k,q⟩=>d σ' H' ⟨F',A',x.trans x',k,kp.trans q⟩
 |bk=>exact fun σ' H' ⟨F',A',x',k,q⟩=>d σ' H' ⟨F',A',x.trans x',k,kp.trans q⟩
 |ct=>exact fun σ' H' ⟨F',A',x',k,q⟩=>d σ' H' ⟨F',A',x.trans x',k,kp.trans q⟩
 |rt o=>exact DoneR.imp d x kp fun _ _ z=>z
section
variable {X:Cx} {K:L2.FG} {m:List Bool} {W:Option XW} {st:Stmt} {rest sa sb:List Stmt} {e:Expr} {f g:GS} {fa:GE} {ft:GT} {pos:Pos}
def gsNil:GS:=fun Γ=>some (.nx,Γ)
def a0l(f g:GS):GS:=fun Γ=>(f Γ).bind fun p=>match p.1 with
 |.nx=>g p.2
 |.bk=>some (.bk,p.2)
 |.ct=>some (.ct,p.2)
 |.rt o=>some (.rt o,p.2)
theorem a2n:PSs X [] (tS K m W gsNil):=pss_nil.mono fun D σ H t=>by
 obtain⟨F,A,Γ,fl,Γ',k,e,w⟩:=t;cases e;exact w σ H ⟨F,A,Ext.refl,k,Kept.refl⟩
theorem a0m(h1:PS X st (tS K m W f))(h2:PSs X rest (tS K m W g)):PSs X (st::rest) (tS K m W (a0l f g)):=(a8k h1 h2).mono fun D σ H t=>by
 obtain⟨F,A,Γ,fl,Γ',k,e,w⟩:=t;unfold a0l at e;cases q:f Γ with
 |none=>rw[q] at e;cases e
 |some p=>
  obtain⟨fl1,Γ1⟩:=p;rw[q] at e;dsimp only[Option.bind] at e;refine⟨F,A,Γ,fl1,Γ1,k,q,?_⟩;cases fl1 with
  |nx=>
   intro σ' H' ⟨F1,A1,x,k1,kp⟩;exact⟨F1,A1,Γ1,fl,Γ',k1,e,w.step x kp⟩
  |bk=>cases e;exact w
  |ct=>cases e;exact w
  |rt o=>cases e;exact w
theorem a0t(h1:PS X st (tS K m W f)):PSs X [st] (tS K m W f):=d5f h1
def gsRet(f:GE):GS:=fun Γ=>(f Γ).bind fun p=>match p.1 with
 |.own o=>some (.rt o,p.2)
 |_=>none
theorem a5j(h:PE X e (tG K fa)):PS X (.Return (some e) pos) (tS K m none (gsRet fa)):=(d3o h).mono fun D σ H t=>by
 obtain⟨F,A,Γ,fl,Γ',k,e,w⟩:=t;unfold gsRet at e;cases q:fa Γ with
 |none=>rw[q] at e;cases e
 |some p=>
  obtain⟨r,Γ1⟩:=p;rw[q] at e;cases r with
  |var i=>cases e
  |fld i j=>cases e
  |own o=>
   cases e;exact⟨F,A,Γ,_,_,k,q,fun v H' ⟨F1,A1,x,k1,_⟩=>w v σ H' ⟨F1,A1,x,k1,Kept.refl⟩⟩
def c2d(f:GE):GS:=fun Γ=>(f Γ).bind fun p=>match p.1 with
 |.own o=>match isX o with
  |none=>some (.rt o,p.2)
  |some _=>none
 |_=>none
theorem d6a(h:PE X e (tG K fa)):PS X (.Return (some e) pos) (tS K m W (c2d fa)):=(d3o h).mono fun D σ H t=>by
 obtain⟨F,A,Γ,fl,Γ',k,e,w⟩:=t;obtain⟨⟨r,Γ1⟩,q,e⟩:=Option.bind_eq_some_iff.mp e;cases r with
 |var i=>cases e
 |fld i j=>cases e
 |own o=>
  dsimp only at e;cases hx:isX o with
  |some p=>rw[hx] at e;cases e
  |none=>
   rw[hx] at e;cases e;exact⟨F,A,Γ,_,_,k,q,fun v H' ⟨F1,A1,x,k1,_⟩=>DoneR.val w hx v σ H' ⟨F1,A1,x,k1,Kept.refl⟩⟩
def gsIf(c:GT)(f g:GS):GS:=fun Γ=>(c Γ).bind fun p=>if p.1=true then f p.2 else g p.2
theorem a4d{c:Expr}(hc:PT X c (tGT K ft))(ha:PSs X sa (tS K m W f))(hb:PSs X sb (tS K m W g)):PS X (.If c sa sb pos) (tS K m W (gsIf ft f g)):=(d8z hc ha hb).mono fun D σ H t=>by
 obtain⟨F,A,Γ,fl,Γ',k,e,w⟩:=t;unfold gsIf at e;cases q:ft Γ with
 |none=>rw[q] at e;cases e
 |some p=>
  obtain⟨b,Γ1⟩:=p;rw[q] at e;refine⟨F,A,Γ,b,Γ1,k,q,fun H1 hh=>?_⟩
  obtain⟨F1,A1,x,k1,_⟩:=hh;cases b with
  |true=>exact iteT ⟨F1,A1,Γ1,fl,Γ',k1,e,w.step x Kept.refl⟩
  |false=>exact iteF ⟨F1,A1,Γ1,fl,Γ',k1,e,w.step x Kept.refl⟩
def a2s(f:GE):GS:=fun Γ=>(f Γ).bind fun p=>some (.nx,p.2)
theorem a2v(he:PE X e (tG K fa))(hs:swapsWith e none pos.line X.env=pure false:=by rfl):PS X (.Expr e pos) (tS K m W (a2s fa)):=(c5l he hs).mono fun D σ H t=>by
 obtain⟨F,A,Γ,fl,Γ',k,e,w⟩:=t;unfold a2s at e;cases q:fa Γ with
 |none=>rw[q] at e;cases e
 |some p=>
  rw[q] at e;cases e;exact⟨F,A,Γ,p.1,p.2,k,q,fun v H' pp=>by obtain⟨F1,A1,x,k1,_⟩:=pp.drop;exact w σ H' ⟨F1,A1,x,k1,Kept.refl⟩⟩
def gsSet(i:Nat)(f:GE):GS:=fun Γ=>(f Γ).bind fun p=>match p.1 with
 |.own o=>if i < p.2.length then some (.nx,p.2.set i (some o)) else none
 |_=>none
theorem OK.store{F H:Hp}{A:List Addr}{σ:St}{Γ:Gm}{v:V}{o:O}{i:Nat}(k:OK K F H (some v::σ) (some o::Γ) A)(hi:i < Γ.length):∃B,OK K F H (σ.set i (some v)) (Γ.set i (some o)) B/\Ext F H A F H B:=by
 obtain⟨B,C,h1,h2,h3⟩:=k.os.one;obtain⟨B2,g1,C2,g2,g3⟩:=OwnL.put h1 i h2 hi;subst h3;exact⟨B2,k.sub g1 ((SubP.of_perm g2).trans ((SubP.refl B).app (.of_sub g3)))⟩
theorem a1y{i:Nat}{x:Str}{pos':Pos}(hN:X.N.Nodup)(hi:X.N[i]?=some x)(hx:Loc X.env.scope x)(he:PE X e (tG K fa))(hm:(m[i]? == some true)=false:=by rfl)(hs:swapsWith e (some (.Name x pos')) pos.line X.env=pure false:=by rfl)(hf:X.fn x=true\/X.env.scope.names.lookup x=some .local := by first|exact .inl rfl|exact .inr rfl):
  PS X (.Assign [.Name x pos'] e pos) (tS K m W (gsSet i fa)):=(c1p hN hi hx he hs hf).mono fun D σ H t=>by
 obtain⟨F,A,Γ,fl,Γ',k,e,w⟩:=t;unfold gsSet at e;cases q:fa Γ with
 |none=>rw[q] at e;cases e
 |some p=>
  obtain⟨r,Γ1⟩:=p;rw[q] at e;cases r with
  |var i=>cases e
  |fld i j=>cases e
  |own o=>
   dsimp only[Option.bind] at e;split at e
   ·cases e;refine⟨F,A,Γ,_,Γ1,k,q,fun v H' hh=>?_⟩
    obtain⟨F1,A1,x,k1,_⟩:=hh;obtain⟨B,k2,x2⟩:=OK.store (σ:=σ) (Γ:=Γ1) k1 (by assumption)
    exact w _ H' ⟨F1,B,x.trans x2,k2,Kept.set hm⟩
   ·cases e
abbrev GG:=D->Gm->Option Gm
def TgOk(K:L2.FG)(m:List Bool)(t:TG)(g:GG):Prop:=
 ∀(F H:Hp) (σ:St) (Γ Γ1:Gm) (A:List Addr) (x:V) (d:D) (Q:St->Hp->Prop),OK K F H σ Γ A->RepL K F [x] [d]->g d Γ=some Γ1->(∀σ' A',OK K F H σ' Γ1 A'->Ext F H A F H A'->Kept m σ σ'->Q σ' H)->t x σ H Q
def a0p(i:Nat):GG:=fun d Γ=>if i < Γ.length then some (Γ.set i (some (.frz d))) else none
theorem a1x{i:Nat}(hm:(m[i]? == some true)=false:=by rfl):TgOk K m (gName i) (a0p i):=by
 intro F H σ Γ Γ1 A x d Q k r e w;unfold a0p at e;split at e
 ·cases e;obtain⟨k1,x1⟩:=k.push (v:=x) (o:=.frz d) (Av:=[]) (Same.refl _) (.frz r .nil) .nil (fun _ m=>by cases m)
  obtain⟨B,k2,x2⟩:=OK.store k1 (by assumption)
  exact w _ _ k2 (x1.trans x2) (Kept.set hm)
 ·cases e
def ggAll:List GG->List D->Gm->Option Gm
 |[],[],Γ=>some Γ
 |g::gs,d::ds,Γ=>(g d Γ).bind fun Γ1=>ggAll gs ds Γ1
 |_,_,_=>none
def TgsOk(K:L2.FG)(m:List Bool)(t:TGs)(g:List GG):Prop:=
 ∀(F H:Hp) (σ:St) (Γ Γ1:Gm) (A:List Addr) (xs:List V) (ds:List D) (Q:St->Hp->Prop),OK K F H σ Γ A->RepL K F xs ds->ggAll g ds Γ=some Γ1->(∀σ' A',OK K F H σ' Γ1 A'->Ext F H A F H A'->Kept m σ σ'->Q σ' H)->t xs σ H Q
theorem c0k:TgsOk K m gNil []:=by
 intro F H σ Γ Γ1 A xs ds Q k r e w;cases ds with
 |nil=>
  cases e;cases xs with
  |nil=>exact⟨rfl,w σ A k Ext.refl Kept.refl⟩
  |cons _ _=>have:=r.length;simp at this
 |cons _ _=>cases e
theorem a5d{t:TG}{ts:TGs}{g:GG}{gs:List GG}(h1:TgOk K m t g)(h2:TgsOk K m ts gs):TgsOk K m (L2.gCons t ts) (g::gs):=by
 intro F H σ Γ Γ1 A xs ds Q k r e w;cases ds with
 |nil=>cases e
 |cons d ds=>
  cases xs with
  |nil=>have:=r.length;simp at this
  |cons x xs=>
   unfold ggAll at e;cases q:g d Γ with
   |none=>rw[q] at e;cases e
   |some Γ2=>
    rw[q] at e;refine⟨x,xs,rfl,h1 F H σ Γ Γ2 A x d _ k r.inv.1 q fun σ1 A1 k1 x1 kp1=>?_⟩
    exact h2 F H σ1 Γ2 Γ1 A1 xs ds _ k1 r.inv.2 e fun σ2 A2 k2 x2 kp2=>w σ2 A2 k2 (x1.trans x2) (kp1.trans kp2)
def ggTup(gs:List GG):GG:=fun d Γ=>match d with
 |.tup ds=>ggAll gs ds Γ
 |_=>none
theorem b8f:∀{gs:List GG} {ds:List D} {Γ Γ1:Gm},ggAll gs ds Γ=some Γ1->ds.length=gs.length
 |[],[],_,_,_=>rfl
 |g::gs,d::ds,Γ,Γ1,e=>by
  unfold ggAll at e;cases q:g d Γ with
  |none=>rw[q] at e;cases e
  |some Γ2=>rw[q] at e;simp[b8f (gs:=gs) (ds:=ds) e]
 |[],_::_,_,_,e=>by cases e
 |_::_,[],_,_,e=>by cases e
theorem c6p{ts:TGs}{gs:List GG}{n:Nat}(h:TgsOk K m ts gs)(hn:n=gs.length:=by rfl):TgOk K m (gTup K n ts) (ggTup gs):=by
 intro F H σ Γ Γ1 A x d Q k r e w;cases d with
 |tup ds=>
  have e:ggAll gs ds Γ=some Γ1:=e;cases r with
  |flat z _=>cases z
  |tup q i _=>exact⟨_,_,rfl,k.le.seqT q,by rw[hn,i.length,b8f e],h F H σ Γ Γ1 A _ ds Q k i e w⟩
 |_=>cases e
def a2a(g:GG)(f:GS):List D->GS
 |[]=>fun Γ=>some (.nx,Γ)
 |d::ds=>fun Γ=>(g d Γ).bind fun Γ1=>(f Γ1).bind fun q=>match q.1 with
   |.nx=>a2a g f ds q.2
   |.ct=>a2a g f ds q.2
   |.bk=>some (.nx,q.2)
   |.rt o=>some (.rt o,q.2)
theorem b8g{t:TG}{g:GG}(tg:TgOk K m t g){F H:Hp}{σ:St}{Γ Γ':Gm}{A:List Addr}{x:V}{d:D}{ds:List D}{fl:Fl}{E:Ends}{Pv:St->Hp->Prop}(k:OK K F H σ Γ A)(r:RepL K F [x] [d])
  (e:a2a g f (d::ds) Γ=some (fl,Γ')) (w:Done K m W E F H A σ fl Γ')
  (nxt:∀F1 H1 σ1 Γ1 A1,Ext F H A F1 H1 A1->OK K F1 H1 σ1 Γ1 A1->a2a g f ds Γ1=some (fl,Γ')->Done K m W E F1 H1 A1 σ1 fl Γ'->Pv σ1 H1):t x σ H fun σ2 H2=>tS K m W f { E with nx:=Pv,ct:=Pv,bk:=E.nx} σ2 H2:=by
 unfold a2a at e;cases q:g d Γ with
 |none=>rw[q] at e;cases e
 |some Γ1=>
  rw[q] at e;dsimp only[Option.bind] at e;cases q2:f Γ1 with
  |none=>rw[q2] at e;cases e
  |some p=>
   obtain⟨fl1,Γ2⟩:=p;rw[q2] at e;dsimp only at e;refine tg F H σ Γ Γ1 A x d _ k r q fun σ1 A1 k1 x1 kp=>⟨F,A1,Γ1,fl1,Γ2,k1,q2,?_⟩
   have w1:=w.step x1 kp;cases fl1 with
   |nx=>exact fun σ' H' ⟨F2,A2,x2,k2,kp2⟩=>nxt F2 H' σ' Γ2 A2 (x1.trans x2) k2 e (w1.step x2 kp2)
   |ct=>exact fun σ' H' ⟨F2,A2,x2,k2,kp2⟩=>nxt F2 H' σ' Γ2 A2 (x1.trans x2) k2 e (w1.step x2 kp2)
   |bk=>cases e;exact w1
   |rt o=>cases e;exact w1
theorem d1s{g:GG}{F H:Hp}{σ:St}{Γ Γ':Gm}{A:List Addr}{fl:Fl}{E:Ends}(k:OK K F H σ Γ A)(e:a2a g f [] Γ=some (fl,Γ'))(w:Done K m W E F H A σ fl Γ'):E.nx σ H:=by
 cases e;exact w σ H ⟨F,A,Ext.refl,k,Kept.refl⟩
def gsFor(it:GE)(g:GG)(f:GS):GS:=fun Γ=>(gFrz it Γ).bind fun p=>match p.1 with
 |.own (.frz (.lst ds))=>a2a g f ds p.2
 |_=>none
variable {tg iter:Expr} {t:TG} {gg:GG} {body:List Stmt}
def LI(K:L2.FG)(m:List Bool)(W:Option XW)(gg:GG)(f:GS)(E:Ends)(F1:Hp)(fl:Fl)(Γ':Gm)(ds:List D)(i:Nat)(σ:St)(H:Hp):Prop:=∃F A Γ,OK K F H σ Γ A/\a2a gg f (ds.drop i) Γ=some (fl,Γ')/\Done K m W E F H A σ fl Γ'/\Same F1 F
section
variable {F1 H1:Hp} {σ:St} {ds:List D} {i:Nat} {E:Ends} {fl:Fl} {Γ':Gm}
theorem LI.same(p:LI K m W gg f E F1 fl Γ' ds i σ H1):Same F1 H1:=by
 obtain⟨F',A',Γc,k',e',w',s'⟩:=p;exact s'.trans k'.le
theorem LI.turn(p:LI K m W gg f E F1 fl Γ' ds i σ H1)(ht:TgOk K m t gg){x:V}{d:D}(hd:ds[i]?=some d)(r:RepL K F1 [x] [d]):t x σ H1 fun σ2 H2=>tS K m W f { E with nx:=LI K m W gg f E F1 fl Γ' ds (i+1),ct:=LI K m W gg f E F1 fl Γ' ds (i+1),bk:=E.nx} σ2 H2:=by
 obtain⟨F',A',Γc,k',e',w',s'⟩:=p;obtain⟨hi,he⟩:=List.getElem?_eq_some_iff.mp hd;rw[List.drop_eq_getElem_cons hi,he] at e';exact b8g ht k' (r.mono s') e' w' fun F2 H2 σ2 Γ2 A2 x2 k2 e2 w2=>⟨F2,A2,Γ2,k2,e2,w2,s'.trans x2.ff⟩
theorem LI.step(p:LI K m W gg f E F1 fl Γ' ds i σ H1)(ht:TgOk K m t gg){ws:List V}(ri:RepL K F1 ws ds){x:V}(hx:ws[i]?=some x):t x σ H1 fun σ2 H2=>tS K m W f { E with nx:=LI K m W gg f E F1 fl Γ' ds (i+1),ct:=LI K m W gg f E F1 fl Γ' ds (i+1),bk:=E.nx} σ2 H2:=by
 have hi:i < ds.length:=by rw[<-ri.length];exact(List.getElem?_eq_some_iff.mp hx).1
 obtain⟨x2,hx2,rx⟩:=ri.get (List.getElem?_eq_getElem hi);rw[hx] at hx2;cases hx2;exact p.turn ht (List.getElem?_eq_getElem hi) rx
theorem LI.fin(p:LI K m W gg f E F1 fl Γ' ds i σ H1)(h:ds.length<=i):E.nx σ H1:=by
 obtain⟨F',A',Γc,k',e',w',s'⟩:=p;rw[List.drop_of_length_le h] at e';exact d1s k' e' w'
theorem LI.start{F H:Hp}{A A1:List Addr}{v:V}{d:D}{Γ1:Gm}(k1:OK K F1 H1 (some v::σ) (some (.frz d)::Γ1) A1)(x:Ext F H A F1 H1 A1)(w:Done K m W E F H A σ fl Γ')(e:a2a gg f ds Γ1=some (fl,Γ')):RepL K F1 [v] [d]/\LI K m W gg f E F1 fl Γ' ds 0 σ H1:=by
 obtain⟨B,C,h1,h2,h3⟩:=OwnL.one (σ:=σ) (Γ:=Γ1) k1.os;subst h3;cases h1 with
 |frz rp tl=>exact⟨rp,F1,_,Γ1,(k1.sub h2 (.of_sub (List.sublist_append_right _ _))).1,e,w.step (x.own' fun a m=>List.mem_append_right _ m) Kept.refl,Same.refl _⟩
theorem d6b{α:Type}{φ:List D->Gm->Option α}{z:α}{Γ:Gm}(e:((gFrz fa Γ).bind fun p=>match p.1 with|.own (.frz (.lst ds))=>φ ds p.2|_=>none)=some z):∃ds Γ1,gFrz fa Γ=some (.own (.frz (.lst ds)),Γ1)/\φ ds Γ1=some z:=by
 obtain⟨⟨r,Γ1⟩,q,e⟩:=Option.bind_eq_some_iff.mp e;dsimp only at e;split at e
 ·exact⟨_,Γ1,q,e⟩
 ·cases e
theorem c6q{v:V}(h:RepL K F1 [v] [.lst ds]):∃a ws,v=.ref a/\Rd F1 a (.lst ws)/\RepL K F1 ws ds:=by
 cases h with
 |flat z _=>cases z
 |@lst a ws vs es ds' sq ri _=>exact⟨a,ws,rfl,sq,ri⟩
end
theorem b2z(hp:PassesOwn (model X.prog X.w) X.A X.env X.xe)(hi:PE X iter (tG K fa))(hg:PG X tg t)(ht:TgOk K m t gg)(hb:PSs X body (tS K m W f))(hc:X.calm=true:=by rfl)(hK:X.K=K:=by rfl)(hs:∀x,foldedSetIterable iter X.env x=pure x:=by intro _;rfl):PS X (.For tg iter body [] pos) (tS K m W (gsFor fa gg f)):=by
 subst hK;refine(c1q hp hc (c5o (a1f hi)) hg hb hs).mono fun D σ H tt=>?_
 obtain⟨F,A,Γ,fl,Γ',k,e,w⟩:=tt;obtain⟨ds,Γ1,q,e⟩:=d6b (φ:=fun ds Γ=>a2a gg f ds Γ) e
 refine⟨F,A,Γ,_,Γ1,k,q,fun v H1 pp=>?_⟩
 obtain⟨F1,A1,x,k1,_⟩:=pp;obtain⟨rp,st⟩:=LI.start k1 x w e;obtain⟨a,ws,rfl,sq,ri⟩:=c6q rp;exact⟨a,rfl,⟨ws,.inl (k1.le.rd sq)⟩,d1c (xs:=ws) (LI X.K m W gg f D F1 fl Γ' ds) st (fun i σ' H' _ p=>.inl (p.same.rd sq)) (fun i x' σ' H' hx p=>p.step ht ri hx) fun σ' H' p=>p.fin (by rw[ri.length];exact Nat.le_refl _)⟩
end
def rngD(lo:Int)(n:Nat):List D:=(List.range n).map fun(k:Nat)=>D.int (lo+(k:Int))
def rngC(lo c:Int)(n:Nat):List D:=(List.range n).map fun(k:Nat)=>D.int (lo+(k:Int) * c)
theorem b4h{α:Type}(h:Nat->α){i n:Nat}(hi:i < n):((List.range n).map h).drop i=h i::((List.range n).map h).drop (i+1):=by
 have e:i < ((List.range n).map h).length:=by simpa using hi
 rw[List.drop_eq_getElem_cons e];simp
def int1:List R->Option Int
 |[.own (.frz (.int j))]=>if Nat.ble j.natAbs 1000000000000=true then some j else none
 |_=>none
def int3:List R->Option (Int×Int)
 |[.own (.frz (.int i)),.own (.frz (.int j)),.own (.frz (.int k))]=>if k = -1/\Nat.ble i.natAbs 1000000=true/\Nat.ble j.natAbs 1000000=true then some (i,j) else none
 |_=>none
theorem c2e{rs:List R}{j:Int}(e:int1 rs=some j):rs=[.own (.frz (.int j))] /\ -(2 ^ 62)<=j/\j < 2 ^ 62:=by
 unfold int1 at e;split at e
 ·split at e
  ·rename_i h
   have h:=Nat.le_of_ble_eq_true h;cases e;exact⟨rfl,by omega,by omega⟩
  ·cases e
 ·cases e
theorem d1t{rs:List R}{p:Int×Int}(e:int3 rs=some p):rs=[.own (.frz (.int p.1)),.own (.frz (.int p.2)),.own (.frz (.int (-1)))] /\ -(2 ^ 20)<=p.1/\p.1 < 2 ^ 20 /\ -(2 ^ 20)<=p.2/\p.2 < 2 ^ 20:=by
 unfold int3 at e;split at e
 ·split at e
  ·rename_i h
   obtain⟨rfl,h1,h2⟩:=h;have h1:=Nat.le_of_ble_eq_true h1;have h2:=Nat.le_of_ble_eq_true h2;cases e;exact⟨rfl,by omega,by omega,by omega,by omega⟩
  ·cases e
 ·cases e
theorem b1k{j:Int}(h:j.natAbs<=1000000):int1 [.own (.frz (.int j))]=some j:=by
 unfold int1;dsimp only;rw[if_pos (Nat.ble_eq_true_of_le (by omega))]
theorem d6c{i j:Int}(h:i.natAbs<=1000000)(h':j.natAbs<=1000000):int3 [.own (.frz (.int i)),.own (.frz (.int j)),.own (.frz (.int (-1)))]=some (i,j):=by
 unfold int3;dsimp only;rw[if_pos ⟨rfl,Nat.ble_eq_true_of_le h,Nat.ble_eq_true_of_le h'⟩]
def a9s(fs:GA)(g:GG)(f:GS):GS:=fun Γ=>(fs Γ).bind fun p=>(int1 p.1).bind fun j=>a2a g f (rngD 0 j.toNat) p.2
def b5z(fs:GA)(g:GG)(f:GS):GS:=fun Γ=>(fs Γ).bind fun p=>(int3 p.1).bind fun j=>a2a g f (rngC j.1 (-1) (j.1 - j.2).toNat) p.2
section
variable {X:Cx} {K:L2.FG} {m:List Bool} {W:Option XW} {f:GS} {fa:GE} {fs:GA} {pos p:Pos} {tg a b c:Expr} {t:TG} {gg:GG} {body:List Stmt}
theorem a9d{F H:Hp}{σ:St}{Γ:Gm}{A:List Addr}{v:V}{i:Int}(h:OwnL K F H (some v::σ) (some (.frz (.int i))::Γ) A):v=.int i/\OwnL K F H σ Γ A:=by
 cases h with
 |frz r t=>
  cases r with
  |flat e _=>cases e;exact⟨rfl,t⟩
theorem d6d{α:Type}:∀{l:List α},1=l.length->∃a,l=[a]
 |[a],_=>⟨a,rfl⟩
theorem d9z{α:Type}:∀{l:List α},2=l.length->∃a b,l=[a,b]
 |[a,b],_=>⟨a,b,rfl⟩
theorem e0a{α:Type}:∀{l:List α},3=l.length->∃a b c,l=[a,b,c]
 |[a,b,c],_=>⟨a,b,c,rfl⟩
theorem LI.ints{F1 H1:Hp}{σ:St}{E:Ends}{fl:Fl}{Γ' Γ1:Gm}{F H:Hp}{A A1:List Addr}{τ:St}{Θ:Gm}{ds:List D}(k1:OK K F1 H1 τ Θ A1)(h:OwnL K F1 H1 σ Γ1 A1)(x:Ext F H A F1 H1 A1)(w:Done K m W E F H A σ fl Γ')(e:a2a gg f ds Γ1=some (fl,Γ')):LI K m W gg f E F1 fl Γ' ds 0 σ H1:=
 ⟨F1,A1,Γ1,(k1.sub h (SubP.refl _)).1,e,w.step x Kept.refl,Same.refl _⟩
theorem d4a{g:Nat->D}{n i:Nat}(h:i < n):((List.range n).map g)[i]?=some (g i):=by rw[List.getElem?_map,List.getElem?_range h];rfl
theorem b3a(hp:PassesOwn (model X.prog X.w) X.A X.env X.xe)(hm:X.mg "range"=none)(ha:PA X [a] (tGA K fs))(hg:PG X tg t)(ht:TgOk K m t gg)(hb:PSs X body (tS K m W f))(hc:X.calm=true:=by rfl)(hgl:Gl X "range":=by rfl)
  (hs:starEach [a] X.env=[(false,eval a X.env)]:=by rfl) (hf:∀x,foldedSetIterable (.Call (.Name "range" p) [a] [] pos) X.env x=pure x:=by intro _;rfl) {fp:Pos}:PS X (.For tg (.Call (.Name "range" p) [a] [] pos) body [] fp) (tS K m W (a9s fs gg f)):=by
 refine(c1q hp hc (a7s hgl hm ha hs) hg hb hf).mono fun D σ H tt=>?_
 obtain⟨F,A,Γ,fl,Γ',k,e,w⟩:=tt;obtain⟨⟨rs,Γ1⟩,q,e⟩:=Option.bind_eq_some_iff.mp e;obtain⟨j,q2,e⟩:=Option.bind_eq_some_iff.mp e;obtain⟨hj,hb⟩:=c2e q2;subst hj;refine⟨F,A,Γ,_,Γ1,k,q,fun vs H1 pp=>?_⟩
 obtain⟨F1,A1,x,k1,hh⟩:=pp;obtain⟨v,rfl⟩:=d6d hh.length;obtain⟨rfl,h2⟩:=a9d (σ:=σ) (Γ:=Γ1) k1.os;exact⟨j,rfl,hb.1,hb.2,c5q (LI K m W gg f D F1 fl Γ' (rngD 0 j.toNat)) (.ints k1 h2 x w e) (fun i σ' H' hi p=>p.turn ht (d4a hi) (.flat rfl .nil)) fun σ' H' p=>p.fin (by simp[rngD])⟩
theorem c6r(hp:PassesOwn (model X.prog X.w) X.A X.env X.xe)(hm:X.mg "range"=none)(ha:PA X [a,b,c] (tGA K fs))(hg:PG X tg t)(ht:TgOk K m t gg)(hb:PSs X body (tS K m W f))(hc:X.calm=true:=by rfl)(hgl:Gl X "range":=by rfl)
  (hs:starEach [a,b,c] X.env=[(false,eval a X.env),(false,eval b X.env),(false,eval c X.env)]:=by rfl) (hs2:starEach [b,c] X.env=[(false,eval b X.env),(false,eval c X.env)]:=by rfl)
  (hf:∀x,foldedSetIterable (.Call (.Name "range" p) [a,b,c] [] pos) X.env x=pure x:=by intro _;rfl) {fp:Pos} :
  PS X (.For tg (.Call (.Name "range" p) [a,b,c] [] pos) body [] fp) (tS K m W (b5z fs gg f)):=by
 refine(c1q hp hc (c6h hgl hm ha hs hs2) hg hb hf).mono fun D σ H tt=>?_
 obtain⟨F,A,Γ,fl,Γ',k,e,w⟩:=tt;obtain⟨⟨rs,Γ1⟩,q,e⟩:=Option.bind_eq_some_iff.mp e;obtain⟨⟨i0,j⟩,q2,e⟩:=Option.bind_eq_some_iff.mp e;obtain⟨hj,hb⟩:=d1t q2;subst hj;refine⟨F,A,Γ,_,Γ1,k,q,fun vs H1 pp=>?_⟩
 obtain⟨F1,A1,x,k1,hh⟩:=pp;obtain⟨v,v',v'',rfl⟩:=e0a hh.length;obtain⟨rfl,h0⟩:=a9d (σ:=some v'::some v''::σ) (Γ:=some (.frz (.int j))::some (.frz (.int (-1)))::Γ1) k1.os;obtain⟨rfl,h1⟩:=a9d (σ:=some v''::σ) (Γ:=some (.frz (.int (-1)))::Γ1) h0;obtain⟨rfl,h2⟩:=a9d (σ:=σ) (Γ:=Γ1) h1;exact⟨i0,j,rfl,hb,c4k (LI K m W gg f D F1 fl Γ' (rngC i0 (-1) (i0 - j).toNat)) (.ints k1 h2 x w e) (fun i σ' H' hi p=>p.turn ht (d4a hi) (.flat rfl .nil)) fun σ' H' p=>p.fin (by simp[rngC])⟩
end
abbrev GM:=List O->Option (O×Gm)
def PostC(K:L2.FG)(F H:Hp)(A:List Addr)(vs:List V)(fin:Gm)(o:O)(v:V)(H':Hp):Prop:=∃F' A',Ext F H A F' H' A'/\OK K F' H' (some v::vs.map some) (some o::fin) A'
def SpM(K:L2.FG)(n:Nat)(M:GM):Sp:=fun vs H Q _=>vs.length=n/\∃F A os o fin,OK K F H (vs.map some) (os.map some) A/\M os=some (o,fin)/\∀v H',PostC K F H A vs fin o v H'->Q v H'
def keepM:List Bool->Gm->Gm
 |true::m,x::Γ=>x::keepM m Γ
 |false::m,_::Γ=>none::keepM m Γ
 |[],_::Γ=>none::keepM [] Γ
 |_,[]=>[]
def Fl.val:Fl->Option O
 |.rt o=>some o
 |.nx=>some (.frz .non)
 |_=>none
def runM(n:Nat)(m:List Bool)(f:GS):GM:=fun os=>(f (os.map some++List.replicate (n - os.length) none)).bind fun p=>p.1.val.bind fun o=>if p.2.length=n then some (o,keepM m (p.2.take os.length)) else none
section
variable {K:L2.FG} {F H:Hp} {σ:St} {Γ:Gm} {A:List Addr}
theorem a9t:∀n:Nat,OwnL K F H (List.replicate n none) (List.replicate n none) []
 |0=>.nil
 |n+1=>.skip (a9t n)
theorem b6a:∀{m:List Bool} {vs:List V} {σ':St} {Γ:Gm} {B:List Addr},OwnL K F H σ' Γ B->σ'.length=vs.length->(∀j:Nat,m[j]?=some true->σ'[j]?=(vs.map some)[j]?)->∃C,OwnL K F H (vs.map some) (keepM m Γ) C/\C.Sublist B
 |m,[],[],[],B,h,_,_=>by
  cases m with
  |nil=>exact⟨B,h,List.Sublist.refl _⟩
  |cons b m=>cases b <;> exact⟨B,h,List.Sublist.refl _⟩
 |m,v::vs,x::σ',y::Γ,B,h,hl,hk=>by
  obtain⟨B1,B2,h1,h2,h3⟩:=h.one;subst h3;have hl':σ'.length=vs.length:=by simpa using hl
  cases m with
  |nil=>
   obtain⟨C,g1,g2⟩:=b6a (m:=[]) h2 hl' (fun j hj=>by simp at hj)
   exact⟨C,.skip g1,g2.trans (List.sublist_append_right _ _)⟩
  |cons b m=>
   obtain⟨C,g1,g2⟩:=b6a (m:=m) h2 hl' (fun j hj=>by simpa using hk (j+1) (by simpa using hj))
   cases b with
   |false=>exact⟨C,.skip g1,g2.trans (List.sublist_append_right _ _)⟩
   |true=>
    have hx:x=some v:=by simpa using hk 0 rfl
    subst hx;exact⟨B1++C,h1.app g1,g2.append_left _⟩
 |_,[],_::_,_,_,_,hl,_=>by simp at hl
 |_,_::_,[],_,_,_,hl,_=>by simp at hl
 |_,[],[],_::_,_,h,_,_=>by have:=h.length;simp at this
 |_,_::_,_::_,[],_,h,_,_=>by have:=h.length;simp at this
theorem OK.params{m:List Bool}{vs:List V}{σ':St}{Γ':Gm}{v:V}{o:O}{rest:St}(k:OK K F H (some v::σ') (some o::Γ') A)(hl:vs.length<=σ'.length)(kp:Kept m (vs.map some++rest) σ')(hm:m.length<=vs.length):
  ∃B,OK K F H (some v::vs.map some) (some o::keepM m (Γ'.take vs.length)) B/\Ext F H A F H B:=by
 obtain⟨B,C,h1,h2,h3⟩:=k.os.one;subst h3;have hΓ:=h2.length;have e1:σ'=σ'.take vs.length++σ'.drop vs.length:=(List.take_append_drop _ _).symm;have e2:Γ'=Γ'.take vs.length++Γ'.drop vs.length:=(List.take_append_drop _ _).symm;have h2':OwnL K F H (σ'.take vs.length++σ'.drop vs.length) (Γ'.take vs.length++Γ'.drop vs.length) C:=by rw[<-e1,<-e2];exact h2
 obtain⟨C1,C2,g1,g2,g3⟩:=OwnL.split (by rw[List.length_take,List.length_take];omega) h2'
 subst g3;obtain⟨C3,j1,j2⟩:=b6a (m:=m) (vs:=vs) g1 (by rw[List.length_take];omega) (fun j hj=>by
  have hlt:j < vs.length:=by
   have:=(List.getElem?_eq_some_iff.mp hj).1;omega
  rw[List.getElem?_take_of_lt hlt,kp j hj,List.getElem?_append_left (by simpa using hlt)])
 exact⟨B++C3,k.sub (h1.app j1) ((SubP.refl B).app (.of_sub (j2.trans (List.sublist_append_left _ _))))⟩
end
section
variable {P:Program} {w:World} {K:L2.FG} {mg:Str->Option Value} {base:Heap}
theorem c6s{x qual:Str}{st:Stmt}{fa:Addr}{fd:FuncData}{N ps:List Str}{k:Nat}(m:List Bool)(f:GS)(Fn:Fun K x qual st fa fd)(S:FnScope N ps (a0q st))(hm:m.length<=ps.length)
  (hbody:∀(cdv:Value) (A:Around) (outer:List Env) (s:Shared) (H:Hp) (E:XK),Room k (A.deeper (envOfC qual (a0q st) s.heap.objs.size fa cdv))->
   PSs (cxOf CX0 P w K mg base N qual (a0q st) fa cdv A outer s H E).nox (a6z st) (tS K m none f)):FnOk P w K mg base CX0 (k+1) fa fd ps (SpM K ps.length (runM N.length m f)):=by
 refine Fn.ok S (fun vs H Q E h=>h.1) fun cdv A outer s H vs Q E hr h=>⟨_,hbody cdv A outer s H E hr,?_⟩
 obtain⟨hl,F,A0,os,o,fin,k0,e,q⟩:=h;have hlo:vs.length=os.length:=by have:=k0.os.length;simpa using this
 have hN:ps.length<=N.length:=by have:=congrArg List.length S.pre;rw[List.length_take] at this;omega
 unfold runM at e;cases q1:f (os.map some++List.replicate (N.length - os.length) none) with
 |none=>rw[q1] at e;cases e
 |some p=>
  obtain⟨fl,Γ'⟩:=p;rw[q1] at e;dsimp only[Option.bind] at e;have k1:OK K F H (start N vs) (os.map some++List.replicate (N.length - os.length) none) A0:=by
   unfold start;rw[hlo];have z:=k0.os.app (a9t (K:=K) (F:=F) (H:=H) (N.length - os.length));rw[List.append_nil] at z;exact⟨k0.le,z,k0.nd,k0.fr⟩
  cases q2:fl.val with
  |none=>rw[q2] at e;cases e
  |some o'=>
   rw[q2] at e;dsimp only at e;split at e
   ·rename_i hlen
    cases e;refine⟨F,A0,_,fl,Γ',k1,q1,?_⟩;have fin':∀{F' H':Hp} {A':List Addr} {v:V} {σ':St},Ext F H A0 F' H' A'->OK K F' H' (some v::σ') (some o::Γ') A'->Kept m (start N vs) σ'->Q v H':=by
     intro F' H' A' v σ' x k' kp;unfold start at kp;have hs:σ'.length=Γ'.length:=by have:=k'.os.length;simpa using this
     obtain⟨B,k2,x2⟩:=OK.params (m:=m) (vs:=vs) k' (by omega) kp (by omega)
     rw[hlo] at k2;exact q v H' ⟨F',B,x.trans x2,k2⟩
    cases fl with
    |nx=>
     cases q2;intro σ' H' ⟨F',A',x,k',kp⟩;obtain⟨k2,x2⟩:=k'.push (v:=.non) (o:=.frz .non) (Av:=[]) (Same.refl _) (.frz (.flat rfl .nil) .nil) .nil (fun _ m=>by cases m)
     exact fin' (x.trans x2) k2 kp
    |rt o1=>
     cases q2;intro v σ' H' ⟨F',A',x,k',kp⟩;exact fin' x k' kp
    |bk=>cases q2
    |ct=>cases q2
   ·cases e
theorem a6b{x qual:Str}{st:Stmt}{fa:Addr}{fd:FuncData}{N ps:List Str}{k:Nat}(m:List Bool)(f:GS)(Fn:Fun K x qual st fa fd)(S:FnScope N ps (a0q st)){n pn:Nat}(hn:N.length=n)(hp:ps.length=pn)(hm:m.length<=ps.length)
  (hbody:∀(cdv:Value) (A:Around) (outer:List Env) (s:Shared) (H:Hp) (E:XK),Room k (A.deeper (envOfC qual (a0q st) s.heap.objs.size fa cdv))->
   ∃f',PSs (cxOf CX0 P w K mg base N qual (a0q st) fa cdv A outer s H E).nox (a6z st) (tS K m none f')/\f'=f):FnOk P w K mg base CX0 (k+1) fa fd ps (SpM K pn (runM n m f)):=by
 subst hn hp;exact c6s m f Fn S hm fun cdv A outer s H E hr=>by
  obtain⟨f',h,e⟩:=hbody cdv A outer s H E hr;rw[<-e];exact h
end
def a3b:List R->Gm->Option (List O×Gm)
 |[],Γ=>some ([],Γ)
 |.own o::rs,Γ=>(a3b rs Γ).bind fun p=>some (o::p.1,p.2)
 |.var i::rs,Γ=>match Γ[i]? with
  |some (some o)=>(a3b rs (Γ.set i none)).bind fun p=>some (o::p.1,p.2)
  |_=>none
 |_::_,_=>none
def a4y:List R->Gm->Gm->Gm
 |.own _::rs,_::fin,Γ=>a4y rs fin Γ
 |.var i::rs,f::fin,Γ=>(a4y rs fin Γ).set i f
 |_,_,Γ=>Γ
def gCall(M:GM)(fs:GA):GE:=fun Γ=>(fs Γ).bind fun p=>(a3b p.1 p.2).bind fun q=>(M q.1).bind fun r=>some (.own r.1,a4y p.1 r.2 q.2)
section
variable {K:L2.FG} {F H:Hp} {σ:St}
theorem a9u:∀{rs:List R} {vs:List V} {Γ Γ2:Gm} {os:List O} {B C:List Addr},OwnL K F H (vs.map some) (rs.map R.o) B->OwnL K F H σ Γ C->Held σ H rs vs->a3b rs Γ=some (os,Γ2)->
  ∃B' C',OwnL K F H (vs.map some) (os.map some) B'/\OwnL K F H σ Γ2 C'/\(B'++C').Perm (B++C)
 |[],[],Γ,Γ2,os,B,C,h1,h2,_,e=>by cases e;exact⟨B,C,h1,h2,.refl _⟩
 |.own o::rs,v::vs,Γ,Γ2,os,B,C,h1,h2,hh,e=>by
  obtain⟨B1,B2,g1,g2,rfl⟩:=OwnL.one h1;unfold a3b at e;cases q:a3b rs Γ with
  |none=>rw[q] at e;cases e
  |some p=>
   rw[q] at e;cases e;obtain⟨B',C',j1,j2,j3⟩:=a9u g2 h2 hh q;exact⟨B1++B',C',g1.app j1,j2,by rw[List.append_assoc,List.append_assoc];exact .append_left _ j3⟩
 |.var i::rs,v::vs,Γ,Γ2,os,B,C,h1,h2,hh,e=>by
  obtain⟨B1,B2,g1,g2,rfl⟩:=OwnL.one h1;have eB:B1=[]:=by cases g1 with|skip t=>cases t;rfl
  subst eB;unfold a3b at e;cases q0:Γ[i]? with
  |none=>rw[q0] at e;cases e
  |some z=>
   cases z with
   |none=>rw[q0] at e;cases e
   |some o=>
    rw[q0] at e;dsimp only at e;cases q:a3b rs (Γ.set i none) with
    |none=>rw[q] at e;cases e
    |some p=>
     rw[q] at e;cases e;obtain⟨v',Ai,C1,k1,k2,k3,k4⟩:=h2.take q0;rw[hh.1] at k1;cases k1;obtain⟨B',C',j1,j2,j3⟩:=a9u g2 k3 hh.2 q;refine⟨Ai++B',C',k2.app j1,j2,?_⟩;rw[List.append_assoc,List.nil_append];refine(List.Perm.append_left Ai j3).trans ?_;rw[<-List.append_assoc];refine(List.Perm.append_right C1 List.perm_append_comm).trans ?_;rw[List.append_assoc];exact .append_left _ k4.symm
 |[],_::_,_,_,_,_,_,_,_,h,_=>h.elim
 |.own _::_,[],_,_,_,_,_,_,_,h,_=>h.elim
 |.var _::_,[],_,_,_,_,_,_,_,h,_=>h.elim
theorem b2k:∀{rs:List R} {vs:List V} {fin Γ:Gm} {B C:List Addr},OwnL K F H (vs.map some) fin B->OwnL K F H σ Γ C->Held σ H rs vs->∃D,OwnL K F H σ (a4y rs fin Γ) D/\SubP D (B++C)
 |[],[],fin,Γ,B,C,h1,h2,_=>by
  cases h1;exact⟨C,h2,.of_sub (List.sublist_append_right _ _)⟩
 |.own o::rs,v::vs,[],Γ,B,C,h1,h2,hh=>by have:=h1.length;simp at this
 |.var i::rs,v::vs,[],Γ,B,C,h1,h2,hh=>by have:=h1.length;simp at this
 |.own o::rs,v::vs,f::fin,Γ,B,C,h1,h2,hh=>by
  obtain⟨B1,B2,g1,g2,rfl⟩:=OwnL.one h1;obtain⟨D,j1,j2⟩:=b2k g2 h2 hh;exact⟨D,j1,j2.trans (by rw[List.append_assoc];exact .of_sub (List.sublist_append_right _ _))⟩
 |.var i::rs,v::vs,f::fin,Γ,B,C,h1,h2,hh=>by
  obtain⟨B1,B2,g1,g2,rfl⟩:=OwnL.one h1;obtain⟨D,j1,j2⟩:=b2k g2 h2 hh.2;cases f with
  |none=>
   obtain⟨D',k1,k2⟩:=OwnL.forget i j1;exact⟨D',k1,(SubP.of_sub k2).trans (j2.trans (by rw[List.append_assoc];exact .of_sub (List.sublist_append_right _ _)))⟩
  |some o=>
   have hi:i < (a4y rs fin Γ).length:=by
    rw[<-j1.length];exact(List.getElem?_eq_some_iff.mp hh.1).1
   obtain⟨D',k1,C',k2,k3⟩:=OwnL.put g1 i j1 hi;rw[a5q hh.1] at k1;refine⟨D',k1,(SubP.of_perm k2).trans ?_⟩;rw[List.append_assoc];exact(SubP.refl B1).app ((SubP.of_sub k3).trans j2)
 |.fld _ _::_,_,[],_,_,C,_,h2,_=>⟨C,h2,.of_sub (List.sublist_append_right _ _)⟩
 |.fld _ _::_,_,_::_,_,_,C,_,h2,_=>⟨C,h2,.of_sub (List.sublist_append_right _ _)⟩
 |[],_::_,_,_,_,_,_,_,h=>h.elim
 |.own _::_,[],_,_,_,_,_,_,h=>h.elim
 |.var _::_,[],_,_,_,_,_,_,h=>h.elim
end
section
variable {X:Cx} {K:L2.FG} {k n:Nat} {f:Addr} {fd:FuncData} {ps:List Str} {x:Str} {p pos:Pos} {e:Expr} {es:List Expr} {fs:GA} {st:Stmt} {M:GM}
theorem d6e{σ:St}{H:Hp}{Q:VK}(t:tG K (gCall M fs) σ H Q)(hn:∀rs Γ Γ',fs Γ=some (rs,Γ')->rs.length=n):tCall (SpM K n M) [] E1 (tGA K fs) σ H Q:=by
 obtain⟨F,A,Γ,rr,Γ',k,e,w⟩:=t;unfold gCall at e;cases q:fs Γ with
 |none=>rw[q] at e;cases e
 |some pr=>
  obtain⟨rs,Γ1⟩:=pr;rw[q] at e;dsimp only[Option.bind] at e;cases q2:a3b rs Γ1 with
  |none=>rw[q2] at e;cases e
  |some pr2=>
   obtain⟨os,Γ2⟩:=pr2;rw[q2] at e;dsimp only at e;cases q3:M os with
   |none=>rw[q3] at e;cases e
   |some pr3=>
    obtain⟨o,fin⟩:=pr3;rw[q3] at e;cases e;refine⟨F,A,Γ,rs,Γ1,k,q,fun vs H1 pp=>?_⟩
    show SpM K n M (vs++[]) H1 Q E0;rw[List.append_nil];obtain⟨F1,A1,x,k1,hh⟩:=pp;have hl:(vs.map some).length=(rs.map R.o).length:=by rw[List.length_map,List.length_map,hh.length]
    obtain⟨B,C,h1,h2,h3⟩:=OwnL.split hl k1.os;subst h3;obtain⟨B',C',j1,j2,j3⟩:=a9u h1 h2 hh q2;have k2:OK K F1 H1 (vs.map some++σ) (os.map some++Γ2) (B'++C'):=.perm (j1.app j2) k1.le k1.nd k1.fr j3;obtain⟨A3,p3,k3⟩:=k2.swap j1.length;obtain⟨A4,k4,fr⟩:=k3.frame j2.length;refine⟨by rw[<-hh.length];exact hn rs Γ Γ1 q,F1,A4,os,o,fin,k4,q3,fun v H' pc=>w v H' ?_⟩
    obtain⟨F5,A5,x5,k5⟩:=pc;obtain⟨A6,x6,k6⟩:=fr _ _ _ _ _ x5 k5;obtain⟨D1,D2,g1,g2,g3⟩:=OwnL.split j2.length k6.os;subst g3;obtain⟨D3,D4,g4,g5,g6⟩:=g2.one;subst g6;obtain⟨D5,g7,g8⟩:=b2k g5 g1 (hh.att x6.att);have s1:SubP (D3++D5) (D1++(D3++D4)):=by
     refine((SubP.refl D3).app g8).trans (.of_perm ?_);rw[<-List.append_assoc];exact List.perm_append_comm
    obtain⟨k7,x7⟩:=k6.sub (σ':=some v::σ) (Γ':=some o::a4y rs fin Γ2) (g4.app g7) s1;have x3:Ext F1 H1 (B++C) F1 H1 A3:=Ext.own' Ext.refl fun a m=>j3.mem_iff.mp (p3.mem_iff.mp m)
    exact⟨F5,D3++D5,((x.trans x3).trans x6).trans x7,k7,True.intro⟩
theorem a0o:∀rs Γ Γ',gaNil Γ=some (rs,Γ')->rs.length=0:=fun rs Γ Γ' e=>by cases e;rfl
theorem a0d{f:GE}{g:GA}{n:Nat}(h:∀rs Γ Γ',g Γ=some (rs,Γ')->rs.length=n):∀rs Γ Γ',a0a f g Γ=some (rs,Γ')->rs.length=n+1:=fun rs Γ Γ' e=>by
 obtain⟨r,Γ1,rs',_,e2,rfl⟩:=b4p e;simp[h _ _ _ e2]
theorem a2c(D:DefAt X.K X.mg x st f fd ps)(Fn:FnOk X.prog X.w X.K X.mg X.base CX0 k f fd ps (SpM K n M))(hr:Room k X.A)(ha:PA X (e::es) (tGA K fs))(hn:∀rs Γ Γ',fs Γ=some (rs,Γ')->rs.length=n)(hg:Gl X x:=by rfl)(hdb:(x == ("__debug__":Str))=false:=by decide)
  (he:starEach (e::es) X.env=(false,eval e X.env)::starEach es X.env:=by rfl) (hpl:(backTo pos (starEach es X.env)).any (·.1)=false:=by rfl) :
  PE X (.Call (.Name x p) (e::es) [] pos) (tG K (gCall M fs)):=(pcall D Fn hr ha hg hdb he hpl).mono fun _ _ _ t=>d6e t hn
end
def frzL:List O->Option (List D)
 |[]=>some []
 |.frz d::os=>(frzL os).bind fun ds=>some (d::ds)
 |_::_=>none
def listD:O->Option (List D)
 |.frz (.lst ds)=>some ds
 |.frz (.scr ns)=>some (ns.map .int)
 |.lst os=>frzL os
 |_=>none
def tupD:O->Option (List D)
 |.frz (.tup ds)=>some ds
 |.tup os=>frzL os
 |_=>none
theorem a5s:∀ds:List D,frzL (ds.map .frz)=some ds
 |[]=>rfl
 |d::ds=>by rw[List.map_cons,frzL,a5s ds];rfl
theorem a4t:∀ds:List D,O.dl (ds.map .frz)=ds
 |[]=>rfl
 |d::ds=>by rw[List.map_cons,O.dl,a4t ds];rfl
section
variable {K:L2.FG} {F H:Hp} {x y v:V} {o:O} {B:List Addr} {ds:List D} {d:D} {ws:List V}
theorem a9v:∀{ws:List V} {os:List O} {ds:List D} {B:List Addr},OwnL K F H (ws.map some) (os.map some) B->frzL os=some ds->RepL K F ws ds
 |[],[],_,_,_,e=>by cases e;exact .nil
 |w::ws,o::os,ds,B,h,e=>by
  obtain⟨B1,B2,h1,h2,_⟩:=OwnL.one h;cases o with
  |frz d=>
   unfold frzL at e;cases q:frzL os with
   |none=>rw[q] at e;cases e
   |some ds'=>
    rw[q] at e;cases e;cases h1 with
    |frz r _=>exact .cons r (a9v h2 q)
  |_=>cases e
 |[],_::_,_,_,h,_=>by have:=h.length;simp at this
 |_::_,[],_,_,h,_=>by have:=h.length;simp at this
theorem a9w:∀{ws:List V} {ds:List D},RepL K F ws ds->OwnL K F H (ws.map some) ((ds.map .frz).map some) []
 |[],[],_=>.nil
 |w::ws,d::ds,h=>.frz h.inv.1 (a9w h.inv.2)
 |[],_::_,h=>by have:=h.length;simp at this
 |_::_,[],h=>by have:=h.length;simp at this
theorem b6b:∀ns:List Int,RepL K F (ns.map V.int) (ns.map D.int)
 |[]=>.nil
 |n::ns=>.flat rfl (b6b ns)
theorem a8n(le:Same F H)(h:OwnL K F H [some x] [some o] B)(e:listD o=some ds):∃a ws,x=.ref a/\SqL K H a ws/\RepL K F ws ds:=by
 cases h with
 |@frz _ d _ _ _ r _=>
  cases r with
  |lst q i _=>cases e;exact⟨_,_,rfl,.inl (le.rd q),i⟩
  |exc _ _=>cases e
  |obj _=>cases e
  |scr q _=>cases e;exact⟨_,_,rfl,le.seq q,b6b _⟩
  |flat q _=>cases d <;> first|(cases q;done)|cases e
  |tup _ _ _=>cases e
  |dct _ _ _ _ _=>cases e
 |lst q i _=>exact⟨_,_,rfl,SqL.of q,a9v i e⟩
 |tup _ _ _=>cases e
 |dct _ _ _ _ _=>cases e
 |ins _ _ _ _ _=>cases e
theorem c6t(le:Same F H)(h:OwnL K F H [some x] [some o] B)(e:tupD o=some ds):∃a ws,x=.ref a/\SqT K H a ws/\RepL K F ws ds:=by
 cases h with
 |@frz _ d _ _ _ r _=>
  cases r with
  |tup q i _=>cases e;exact⟨_,_,rfl,le.seqT q,i⟩
  |scr q _=>cases e
  |exc _ _=>cases e
  |obj _=>cases e
  |flat q _=>cases d <;> first|(cases q;done)|cases e
  |lst _ _ _=>cases e
  |dct _ _ _ _ _=>cases e
 |tup q i _=>exact⟨_,_,rfl,SqT.of q,a9v i e⟩
 |lst _ _ _=>cases e
 |dct _ _ _ _ _=>cases e
 |ins _ _ _ _ _=>cases e
theorem a0z(h:OwnL K F H [some x] [some (.frz d)] B)(e:a3z d=some v):x=v:=by
 cases h with
 |frz r _=>
  cases r with
  |flat q _=>rw[e] at q;exact(Option.some.inj q).symm
  |lst _ _ _=>cases e
  |tup _ _ _=>cases e
  |dct _ _ _ _ _=>cases e
  |scr _ _=>cases e
  |exc _ _=>cases e
  |obj _=>cases e
theorem a3v(le:Same F H)(h:OwnL K F H [some x] [some o] B):RepL K H [x] [o.d]:=h.rep le (fun _ _ _ e=>e) [x] [o] rfl rfl
theorem Res.lst{Q:VK}(h:Res K F H (.lst (ds.map .frz)) Q)(r:RepL K F ws ds){l:Addr}(hn:H l=none):Q (.ref l) (upd H l (.lst ws)):=
 h (.ref l) _ ([l]++[]++[]) (a2r hn) (.lst a1z (a9w r) .nil) (by simp) (fun a m=>by simp at m;rw[m];exact hn)
theorem Res.tup{Q:VK}(h:Res K F H (.tup (ds.map .frz)) Q)(r:RepL K F ws ds){l:Addr}(hn:H l=none):Q (.ref l) (upd H l (.tup ws)):=
 h (.ref l) _ ([l]++[]++[]) (a2r hn) (.tup a1z (a9w r) .nil) (by simp) (fun a m=>by simp at m;rw[m];exact hn)
theorem Sees.one{o:O}{vs:List V}(h:Sees K F H vs [o]):∃x B,vs=[x]/\OwnL K F H [some x] [some o] B:=by
 cases h with
 |cons a t=>cases t;obtain⟨B,a⟩:=a;exact⟨_,B,rfl,a⟩
theorem Sees.two{o o':O}{vs:List V}(h:Sees K F H vs [o,o']):∃x y B C,vs=[x,y]/\OwnL K F H [some x] [some o] B/\OwnL K F H [some y] [some o'] C:=by
 cases h with
 |cons a t=>cases t with
  |cons b t=>cases t;obtain⟨B,a⟩:=a;obtain⟨C,b⟩:=b;exact⟨_,_,B,C,rfl,a,b⟩
end
section
variable {X:Cx}
def rCatL(K:L2.FG):R2:=fun x y H Q=>∃l b xs zs,x=.ref l/\y=.ref b/\SqL K H l xs/\SqL K H b zs/\xs.length+zs.length<=sizeLine/\∀p,H p=none->Q (.ref p) (upd H p (.lst (xs++zs)))
theorem d6f:OpR X (binaryOp .Add) (rCatL X.K):=by
 intro pins s σ H x y v u Q I rx ry h;obtain⟨l,b,xs,zs,rfl,rfl,hH,hB,hz,q⟩:=h;cases rx;cases ry;obtain⟨its,r,pl,_⟩:=I.list hH;obtain⟨its2,r2,pl2,_⟩:=I.list hB;have hl:=r.length;have hl2:=r2.length;obtain⟨⟨cls,dd,data,sl⟩,ho,hc,n,hd⟩:=id pl.isList;obtain⟨⟨cls2,dd2,data2,sl2⟩,ho2,hc2,n2,hd2⟩:=id pl2.isList;simp only at hc hd hc2 hd2;subst hc hd hc2 hd2;have ea:its.toArray++its2.toArray=(its++its2).toArray:=by simp
 refine concat_meets ⟨_,ho,rfl⟩ ⟨_,ho2,rfl⟩ noFill_list_add seq_list_add PySem.F.slot_list_add PySem.F.entry_list_add (PySem.F.args_list_add_2 _ _) (list_addW l b its.toArray its2.toArray n n2 dd dd2 sl sl2 (by simp only[List.size_toArray];omega)) ⟨ho,ho2,?_⟩
 rw[ea];exact⟨.ref _,_,I.lnew (t':=s.toks) (r.append r2) (by rw[List.length_append];omega),rfl,q _ I.fresh⟩
theorem d1u(K:L2.FG)(hK:X.K=K:=by rfl):OpR X (binaryOp .Add) (rCatL K):=hK ▸ d6f
def addI:O->O->Option (Option O)
 |.frz (.int i),.frz (.int j)=>some (some (.frz (.int (i+j))))
 |.frz (.str x),.frz (.str y)=>some (if x.length+y.length<=1000000 then some (.frz (.str (x++y))) else none)
 |_,_=>none
def oAdd:List O->Option O
 |[a,b]=>match addI a b with
  |some r=>r
  |none=>(listD a).bind fun xs=>(listD b).bind fun ys=>if xs.length+ys.length<=1000000 then some (.lst ((xs++ys).map .frz)) else none
 |_=>none
def rAddA(K:L2.FG):R2:=fun x y H Q=>rI0 (fun i j=>.int (i+j)) x y H Q\/(∃i j,x=.str i/\y=.str j/\i.length+j.length<=sizeLine/\Q (.str (i++j)) H)\/rCatL K x y H Q
theorem a2p(K:L2.FG)(hK:X.K=K:=by rfl):OpR X (binaryOp .Add) (rAddA K):=op_add.or (op_add_str.or (d1u K hK))
theorem ml{n:Nat}(h:n<=1000000):n<=sizeLine:=Nat.le_trans h (by decide)
theorem a4a{K:L2.FG}:OpOk K (r2L (rAddA K)) oAdd:=by
 intro F H vs os o Q le see e res;unfold oAdd at e;split at e
 ·rename_i a b
  obtain⟨x,y,B,C,rfl,h1,h2⟩:=see.two;split at e
  ·rename_i r q
   unfold addI at q;split at q
   ·cases q;cases e;cases a0z h1 rfl;cases a0z h2 rfl;exact⟨_,_,rfl,.inl ⟨_,_,rfl,rfl,res.flat rfl⟩⟩
   ·cases q;split at e
    ·cases e;cases a0z h1 rfl;cases a0z h2 rfl;exact⟨_,_,rfl,.inr (.inl ⟨_,_,rfl,rfl,ml (by assumption),res.flat rfl⟩)⟩
    ·cases e
   ·cases q
  ·cases q1:listD a with
   |none=>rw[q1] at e;cases e
   |some xs=>
    rw[q1] at e;cases q2:listD b with
    |none=>rw[q2] at e;cases e
    |some ys=>
     rw[q2] at e;dsimp only[Option.bind] at e;split at e
     ·cases e;obtain⟨a1,ws1,rfl,s1,r1⟩:=a8n le h1 q1;obtain⟨a2,ws2,rfl,s2,r2⟩:=a8n le h2 q2;refine⟨_,_,rfl,.inr (.inr ⟨a1,a2,ws1,ws2,rfl,rfl,s1,s2,ml (by rw[r1.length,r2.length];assumption),fun p hp=>res.lst (r1.append r2) hp⟩)⟩
     ·cases e
 ·cases e
def oInt(C:Int->Int->Bool)(f:Int->Int->D):List O->Option O
 |[.frz (.int i),.frz (.int j)]=>if C i j=true then some (.frz (f i j)) else none
 |_=>none
theorem b8h{K:L2.FG}{r:R2}{C:Int->Int->Bool}{f:Int->Int->D}{g:Int->Int->V}(hf:∀i j,a3z (f i j)=some (g i j))(hr:∀i j H Q,C i j=true->Q (g i j) H->r (.int i) (.int j) H Q):OpOk K (r2L r) (oInt C f):=by
 intro F H vs os o Q le see e res;unfold oInt at e;split at e
 ·split at e
  ·cases e;obtain⟨x,y,B,C,rfl,h1,h2⟩:=see.two;cases a0z h1 rfl;cases a0z h2 rfl;exact⟨_,_,rfl,hr _ _ _ _ (by assumption) (res.flat (hf _ _))⟩
  ·cases e
 ·cases e
abbrev oSub:=oInt (fun _ _=>true) fun i j=>.int (i - j)
abbrev oFdiv:=oInt (fun _ j=>decide (0 < j/\j < 1073741824)) fun i j=>.int (i / j)
abbrev oMod:=oInt (fun _ j=>decide (0 < j)) fun i j=>.int (i % j)
abbrev oLt:=oInt (fun _ _=>true) fun i j=>.bl (decide (i < j))
abbrev oGt:=oInt (fun _ _=>true) fun i j=>.bl (decide (j < i))
theorem c2f{K:L2.FG}:OpOk K (r2L (rI0 fun i j=>.int (i - j))) oSub:=b8h (fun _ _=>rfl) fun _ _ _ _ _ q=>⟨_,_,rfl,rfl,q⟩
theorem a9e{K:L2.FG}:OpOk K (r2L (rI CDiv fun i j=>.int (i / j))) oFdiv:=b8h (fun _ _=>rfl) fun i j _ _ c q=>⟨_,_,rfl,rfl,show CDiv i j from of_decide_eq_true (p:=0 < j/\j < 1073741824) c,q⟩
theorem a5k{K:L2.FG}:OpOk K (r2L (rI (fun _ j=>0 < j) fun i j=>.int (i % j))) oMod:=b8h (fun _ _=>rfl) fun _ _ _ _ c q=>⟨_,_,rfl,rfl,of_decide_eq_true c,q⟩
theorem e0b{K:L2.FG}:OpOk K (r2L (rI0 fun i j=>.bl (decide (i < j)))) oLt:=b8h (fun _ _=>rfl) fun _ _ _ _ _ q=>⟨_,_,rfl,rfl,q⟩
theorem d6g{K:L2.FG}:OpOk K (r2L (rI0 fun i j=>.bl (decide (j < i)))) oGt:=b8h (fun _ _=>rfl) fun _ _ _ _ _ q=>⟨_,_,rfl,rfl,q⟩
end
instance (z:Str) (n:Int):Decidable (MulOk z n):=by unfold MulOk;infer_instance
section
variable {X:Cx}
def mulI(j:Int):O->Option O
 |.frz (.int i)=>if(-(2 ^ 64) < i/\i < 2 ^ 64)\/(-(2 ^ 64) < j/\j < 2 ^ 64) then some (.frz (.int (i * j))) else none
 |.frz (.str z)=>if MulOk z j then some (.frz (.str (Txt.mul z j))) else none
 |_=>none
def oMulA:List O->Option O
 |[a,.frz (.int j)]=>mulI j a
 |_=>none
def rMulA:R2:=fun x y H Q=>rI CMul (fun i j=>.int (i * j)) x y H Q\/∃z n,x=.str z/\y=.int n/\MulOk z n/\Q (.str (Txt.mul z n)) H
theorem a9f:OpR X (binaryOp .Mult) rMulA:=op_mul.or c4l
theorem b3b{K:L2.FG}:OpOk K (r2L rMulA) oMulA:=by
 intro F H vs os o Q le see e res;unfold oMulA at e;split at e
 ·obtain⟨x,y,B,C,rfl,h1,h2⟩:=see.two;unfold mulI at e;split at e
  ·split at e
   ·cases e;cases a0z h1 rfl;cases a0z h2 rfl;exact⟨_,_,rfl,.inl ⟨_,_,rfl,rfl,by assumption,res.flat rfl⟩⟩
   ·cases e
  ·split at e
   ·cases e;cases a0z h1 rfl;cases a0z h2 rfl;exact⟨_,_,rfl,.inr ⟨_,_,rfl,rfl,by assumption,res.flat rfl⟩⟩
   ·cases e
  ·cases e
 ·cases e
def oNeg:List O->Option O
 |[.frz (.int i)]=>some (.frz (.int (-i)))
 |_=>none
theorem d4b{K:L2.FG}:OpOk K (r1L (rU fun i=>.int (-i))) oNeg:=by
 intro F H vs os o Q le see e res;unfold oNeg at e;split at e
 ·cases e;obtain⟨x,B,rfl,h1⟩:=see.one;cases a0z h1 rfl;exact⟨_,rfl,_,rfl,res.flat rfl⟩
 ·cases e
mutual
def eqD:D->D->Bool
 |.lst xs,.lst ys=>eqDs xs ys
 |.tup xs,.tup ys=>eqDs xs ys
 |.non,.non=>true
 |.bl a,.bl b=>a == b
 |.bl a,.int b=>(if a then 1 else 0) == b
 |.int a,.bl b=>a == (if b then 1 else 0)
 |.int a,.int b=>a == b
 |.str a,.str b=>a == b
 |_,_=>false
def eqDs:List D->List D->Bool
 |[],[]=>true
 |x::xs,y::ys=>eqD x y && eqDs xs ys
 |_,_=>false
end
def okD:Nat->D->Bool
 |n+1,.lst xs=>xs.all (okD n)
 |n+1,.tup xs=>xs.all (okD n)
 |_,.non=>true
 |_,.bl _=>true
 |_,.int _=>true
 |_,.str _=>true
 |_,_=>false
theorem b6c:∀{xs ys:List D},xs.length≠ys.length->eqDs xs ys=false
 |[],[],h=>absurd rfl h
 |[],_::_,_=>by unfold eqDs;rfl
 |_::_,[],_=>by unfold eqDs;rfl
 |x::xs,y::ys,h=>by unfold eqDs;rw[b6c (by simpa using h),Bool.and_false]
theorem b6d:∀{xs ys:List D} (n:Nat),xs.length=n->ys.length=n->eqDs xs ys=(List.range n).all fun j=>eqD (xs.getD j .non) (ys.getD j .non)
 |[],[],0,_,_=>by unfold eqDs;rfl
 |x::xs,y::ys,n+1,h1,h2=>by
  unfold eqDs;rw[b6d n (by simpa using h1) (by simpa using h2),List.range_succ_eq_map,List.all_cons,List.all_map]
  rfl
 |[],_,_+1,h,_=>by simp at h
 |_::_,[],_+1,_,h=>by simp at h
 |_::_,_,0,h,_=>by simp at h
 |[],_::_,0,_,h=>by simp at h
variable {pins:List (Addr×Obj)} {σ:St} {H:Hp} {s:Shared}
theorem c2g{K:L2.FG}{F:Hp}{ws:List V}{es:List D}(r:RepL K F ws es){its:List Value}(rv:Vals ws its){j:Nat}(h:j < its.toArray.size):∃x,RelV x its.toArray[j]/\RepL K F [x] [es.getD j .non]/\j < es.length:=by
 obtain⟨x,hx,rx⟩:=rv.at h;have hl:=r.length;have hj:j < es.length:=by
  have:=(List.getElem?_eq_some_iff.mp hx).1;omega
 obtain⟨y,hy,ry⟩:=r.get (i:=j) (d:=es[j]) (by simp[hj])
 rw[hx] at hy;cases hy;refine⟨x,rx,?_,hj⟩;rw[show es.getD j .non=es[j] by simp[hj]]
 exact ry
theorem b2l{p:D->Bool}{es:List D}(h:es.all p=true){j:Nat}(hj:j < es.length):p (es.getD j .non)=true:=by
 rw[show es.getD j .non=es[j] by simp[hj]]
 exact List.all_eq_true.mp h _ (List.getElem_mem hj)
inductive Shp (K:L2.FG) (H:Hp) (s:Shared):Value->D->Prop
 |none:Shp K H s .none .non
 |bool (b:Bool):Shp K H s (.bool b) (.bl b)
 |int (i:Int) (t:Tok):Shp K H s (.int i t) (.int i)
 |str (x:Str) (t:Tok):Shp K H s (.str x t) (.str x)
 |list {a:Addr} {its:List Value} {ws:List V} {es:List D}:s.heap.IsList a its.toArray->Vals ws its->RepL K H ws es->Shp K H s (.ref a) (.lst es)
 |tuple {a:Addr} {its:List Value} {ws:List V} {es:List D}:s.heap.IsTuple a its.toArray->Vals ws its->RepL K H ws es->Shp K H s (.ref a) (.tup es)
theorem d4c(I:Inv X pins σ H s){n:Nat}{x:V}{u:Value}{d:D}(r:RepL X.K H [x] [d])(ru:RelV x u)(ok:okD n d=true):Shp X.K H s u d:=by
 cases r with
 |lst q i _=>
  cases ru;obtain⟨its,rv,pl,_⟩:=I.list (.inl q);exact .list pl.isList rv i
 |tup q i _=>
  cases ru;obtain⟨its,rv,pl,_⟩:=I.tuple q;exact .tuple pl rv i
 |dct _ _ _ _ _=>cases n <;> cases ok
 |scr _ _=>cases n <;> cases ok
 |exc _ _=>cases n <;> cases ok
 |obj _=>cases n <;> cases ok
 |flat q _=>
  cases d with
  |non=>cases q;cases ru;exact .none
  |bl b=>cases q;cases ru;exact .bool b
  |int i=>cases q;obtain⟨t,rfl⟩:=ru;exact .int i t
  |str z=>cases q;obtain⟨t,rfl⟩:=ru;exact .str z t
  |ty _=>cases n <;> cases ok
  |lst _=>cases q
  |tup _=>cases q
  |dct _=>cases q
  |scr _=>cases q
  |exc _ _=>cases q
  |obj=>cases q
theorem b6e{n:Nat}{es:List D}(h:okD n (.lst es)=true):∃m,n=m+1/\es.all (okD m)=true:=by
 cases n with
 |zero=>cases h
 |succ n=>exact⟨n,rfl,h⟩
theorem b6f{n:Nat}{es:List D}(h:okD n (.tup es)=true):∃m,n=m+1/\es.all (okD m)=true:=by
 cases n with
 |zero=>cases h
 |succ n=>exact⟨n,rfl,h⟩
theorem b8i{es:List D}(h:∀d∈es,eqD d d=true):eqDs es es=true:=by
 induction es with
 |nil=>unfold eqDs;rfl
 |cons d es ih=>unfold eqDs;rw[h d (by simp),ih fun d m=>h d (by simp[m])];rfl
theorem a9x:∀(n:Nat) {d:D},okD n d=true->eqD d d=true:=by
 intro n
 induction n with
 |zero=>intro d h;cases d <;> first|(cases h;done)|simp[eqD]
 |succ n ih=>
  intro d h;cases d with
  |lst es=>simp only[eqD];exact b8i fun d m=>ih (List.all_eq_true.mp h d m)
  |tup es=>simp only[eqD];exact b8i fun d m=>ih (List.all_eq_true.mp h d m)
  |dct _=>cases h
  |scr _=>cases h
  |exc _ _=>cases h
  |obj=>cases h
  |ty _=>cases h
  |_=>simp[eqD]
theorem b8j{xs ys:List D}(hl:xs.length=ys.length)(h:∀j,j < xs.length->xs.getD j .non=ys.getD j .non):xs=ys:=by
 apply List.ext_getElem hl;intro j h1 h2;have:=h j h1;simpa[h1,h2] using this
def unfl:V->D
 |.bl b=>.bl b
 |.int i=>.int i
 |.str x=>.str x
 |.ty n=>.ty n
 |_=>.non
theorem b8k{d:D}{v:V}(h:a3z d=some v):d=unfl v:=by cases d <;> cases h <;> rfl
theorem a6l{d:D}{a:Addr}(h:a3z d=some (.ref a)):False:=by cases d <;> cases h
theorem b6g(I:Inv X pins σ H s):∀(n m:Nat) {x:V} {d e:D},RepL X.K H [x] [d]->RepL X.K H [x] [e]->okD n d=true->okD m e=true->d=e:=by
 intro n
 induction n using Nat.strongRecOn with
 |ind n ih=>
 intro m x d e rd re od oe;have go:∀{ws:List V} {es es2:List D} {n' m':Nat},n' < n->RepL X.K H ws es->RepL X.K H ws es2->es.all (okD n')=true->es2.all (okD m')=true->es=es2:=by
  intro ws es es2 n' m' hn r1 r2 o1 o2;have l1:=r1.length;have l2:=r2.length;refine b8j (by omega) fun j hj=>?_
  have hj2:j < es2.length:=by omega
  obtain⟨v,g1,g2⟩:=r1.get (i:=j) (d:=es[j]) (by simp[hj])
  obtain⟨v',p1,p2⟩:=r2.get (i:=j) (d:=es2[j]) (by simp[hj2])
  rw[g1] at p1;cases p1;rw[show es.getD j .non=es[j] by simp[hj],show es2.getD j .non=es2[j] by simp[hj2]]
  exact ih n' hn m' g2 p2 (List.all_eq_true.mp o1 _ (List.getElem_mem hj)) (List.all_eq_true.mp o2 _ (List.getElem_mem hj2))
 cases rd with
 |flat q _=>
  cases re with
  |flat q' _=>
   rw[b8k q,b8k q']
  |lst _ _ _=>exact(a6l q).elim
  |tup _ _ _=>exact(a6l q).elim
  |dct _ _ _ _ _=>exact(a6l q).elim
  |scr _ _=>exact(a6l q).elim
  |exc _ _=>exact(a6l q).elim
  |obj _=>exact(a6l q).elim
 |lst q i _=>
  obtain⟨n',rfl,od'⟩:=b6e od;cases re with
  |flat q' _=>exact(a6l q').elim
  |lst q' i' _=>
   obtain⟨m',rfl,oe'⟩:=b6e oe;cases I.list_inj (.inl q) (.inl q');rw[go (Nat.lt_succ_self _) i i' od' oe']
  |tup q' i' _=>
   obtain⟨_,_,p1,_⟩:=I.list (.inl q);obtain⟨_,_,p2,_⟩:=I.tuple q';exact absurd rfl (SeqAt.ne_of_list_tuple p1.isList p2)
  |dct _ _ _ _ _=>cases m <;> cases oe
  |scr _ _=>cases m <;> cases oe
  |exc _ _=>cases m <;> cases oe
  |obj _=>cases m <;> cases oe
 |tup q i _=>
  obtain⟨n',rfl,od'⟩:=b6f od;cases re with
  |flat q' _=>exact(a6l q').elim
  |tup q' i' _=>
   obtain⟨m',rfl,oe'⟩:=b6f oe;cases I.tuple_inj q q';rw[go (Nat.lt_succ_self _) i i' od' oe']
  |lst q' i' _=>
   obtain⟨_,_,p1,_⟩:=I.list (.inl q');obtain⟨_,_,p2,_⟩:=I.tuple q;exact absurd rfl (SeqAt.ne_of_list_tuple p1.isList p2)
  |dct _ _ _ _ _=>cases m <;> cases oe
  |scr _ _=>cases m <;> cases oe
  |exc _ _=>cases m <;> cases oe
  |obj _=>cases m <;> cases oe
 |dct _ _ _ _ _=>cases n <;> cases od
 |scr _ _=>cases n <;> cases od
 |exc _ _=>cases n <;> cases od
 |obj _=>cases n <;> cases od
theorem c6u(I:Inv X pins σ H s):∀(n m:Nat) {A:Around} {x y:V} {u v:Value} {d e:D},RepL X.K H [x] [d]->RepL X.K H [y] [e]->okD n d=true->okD m e=true->RelV x u->RelV y v->A.units+n < cLine->
  SeqAt.EqAt A s u v (eqD d e)/\SeqAt.RcAt A s u v (eqD d e):=by
 intro n
 induction n using Nat.strongRecOn with
 |ind n ih=>
 intro m A x y u v d e rd re od oe ru rv hu;have hu0:A.units < cLine:=by omega
 have s1:=d4c I rd ru od;have s2:=d4c I re rv oe;cases s1 with
 |none=>
  cases s2 with
  |none=>
   exact⟨SeqAt.EqAt.same _,SeqAt.RcAt.none_none⟩
  |bool a2=>
   simp only[eqD];exact⟨SeqAt.EqAt.none_bool a2,SeqAt.RcAt.none_bool a2⟩
  |int a2 t2=>
   simp only[eqD];exact⟨SeqAt.EqAt.none_int a2 t2,SeqAt.RcAt.none_int a2 t2⟩
  |str a2 t2=>
   simp only[eqD];exact⟨SeqAt.EqAt.none_str a2 t2,SeqAt.RcAt.none_str a2 t2⟩
  |list l2 v2 r2=>
   simp only[eqD];exact⟨SeqAt.EqAt.none_list l2 hu0,SeqAt.RcAt.none_list l2 hu0⟩
  |tuple l2 v2 r2=>
   simp only[eqD];exact⟨SeqAt.EqAt.none_tuple l2 hu0,SeqAt.RcAt.none_tuple l2 hu0⟩
 |bool a1=>
  cases s2 with
  |none=>
   simp only[eqD];exact⟨SeqAt.EqAt.bool_none a1,SeqAt.RcAt.bool_none a1⟩
  |bool a2=>
   simp only[eqD];exact⟨SeqAt.EqAt.bool_bool a1 a2,SeqAt.RcAt.bool_bool a1 a2⟩
  |int a2 t2=>
   simp only[eqD];exact⟨SeqAt.EqAt.bool_int a1 a2 t2,SeqAt.RcAt.bool_int a1 a2 t2⟩
  |str a2 t2=>
   simp only[eqD];exact⟨SeqAt.EqAt.bool_str a1 a2 t2,SeqAt.RcAt.bool_str a1 a2 t2⟩
  |list l2 v2 r2=>
   simp only[eqD];exact⟨SeqAt.EqAt.bool_list a1 l2 hu0,SeqAt.RcAt.bool_list a1 l2 hu0⟩
  |tuple l2 v2 r2=>
   simp only[eqD];exact⟨SeqAt.EqAt.bool_tuple a1 l2 hu0,SeqAt.RcAt.bool_tuple a1 l2 hu0⟩
 |int a1 t1=>
  cases s2 with
  |none=>
   simp only[eqD];exact⟨SeqAt.EqAt.int_none a1 t1,SeqAt.RcAt.int_none a1 t1⟩
  |bool a2=>
   simp only[eqD];exact⟨SeqAt.EqAt.int_bool a1 t1 a2,SeqAt.RcAt.int_bool a1 t1 a2⟩
  |int a2 t2=>
   simp only[eqD];exact⟨SeqAt.EqAt.int_int a1 t1 a2 t2,SeqAt.RcAt.int_int a1 t1 a2 t2⟩
  |str a2 t2=>
   simp only[eqD];exact⟨SeqAt.EqAt.int_str a1 t1 a2 t2,SeqAt.RcAt.int_str a1 t1 a2 t2⟩
  |list l2 v2 r2=>
   simp only[eqD];exact⟨SeqAt.EqAt.int_list a1 t1 l2 hu0,SeqAt.RcAt.int_list a1 t1 l2 hu0⟩
  |tuple l2 v2 r2=>
   simp only[eqD];exact⟨SeqAt.EqAt.int_tuple a1 t1 l2 hu0,SeqAt.RcAt.int_tuple a1 t1 l2 hu0⟩
 |str a1 t1=>
  cases s2 with
  |none=>
   simp only[eqD];exact⟨SeqAt.EqAt.str_none a1 t1,SeqAt.RcAt.str_none a1 t1⟩
  |bool a2=>
   simp only[eqD];exact⟨SeqAt.EqAt.str_bool a1 t1 a2,SeqAt.RcAt.str_bool a1 t1 a2⟩
  |int a2 t2=>
   simp only[eqD];exact⟨SeqAt.EqAt.str_int a1 t1 a2 t2,SeqAt.RcAt.str_int a1 t1 a2 t2⟩
  |str a2 t2=>
   simp only[eqD];exact⟨SeqAt.EqAt.str_str a1 t1 a2 t2,SeqAt.RcAt.str_str a1 t1 a2 t2⟩
  |list l2 v2 r2=>
   simp only[eqD];exact⟨SeqAt.EqAt.str_list a1 t1 l2 hu0,SeqAt.RcAt.str_list a1 t1 l2 hu0⟩
  |tuple l2 v2 r2=>
   simp only[eqD];exact⟨SeqAt.EqAt.str_tuple a1 t1 l2 hu0,SeqAt.RcAt.str_tuple a1 t1 l2 hu0⟩
 |list l1 v1 r1=>
  cases s2 with
  |none=>
   simp only[eqD];exact⟨SeqAt.EqAt.list_none l1 hu0,SeqAt.RcAt.list_none l1 hu0⟩
  |bool a2=>
   simp only[eqD];exact⟨SeqAt.EqAt.list_bool a2 l1 hu0,SeqAt.RcAt.list_bool a2 l1 hu0⟩
  |int a2 t2=>
   simp only[eqD];exact⟨SeqAt.EqAt.list_int a2 t2 l1 hu0,SeqAt.RcAt.list_int a2 t2 l1 hu0⟩
  |str a2 t2=>
   simp only[eqD];exact⟨SeqAt.EqAt.list_str a2 t2 l1 hu0,SeqAt.RcAt.list_str a2 t2 l1 hu0⟩
  |list l2 v2 r2=>
   rename_i a its ws es b its2 ws2 es2
   obtain⟨n',rfl,od'⟩:=b6e od;obtain⟨m',rfl,oe'⟩:=b6e oe;have la:=v1.length;have lb:=v2.length;have la':=r1.length;have lb':=r2.length;have rc:SeqAt.RcAt A s (.ref a) (.ref b) (eqD (.lst es) (.lst es2)):=by
    simp only[eqD];by_cases hl:es.length=es2.length
    ·rw[b6d its.toArray.size (by simp only[List.size_toArray];omega) (by simp only[List.size_toArray];omega)]
     refine SeqAt.RcAt.lists (A:=A) l1 l2 (by simp only[List.size_toArray];omega) hu0 fun j h1 h2=>?_
     obtain⟨x1,q1,q2,q3⟩:=c2g r1 v1 h1;obtain⟨y1,p1,p2,p3⟩:=c2g r2 v2 h2;exact(ih n' (Nat.lt_succ_self _) m' q2 p2 (b2l od' q3) (b2l oe' p3) q1 p1 (by show A.units+1+n' < cLine;omega)).1
    ·rw[b6c hl];exact SeqAt.RcAt.lists_lengths (A:=A) l1 l2 (by simp only[List.size_toArray,bne_iff_ne,ne_eq];omega) hu0
   refine⟨?_,rc⟩;by_cases hab:a=b
   ·subst hab;have exy:x=y:=RelV.inj ru rv;subst exy;have e2:=b6g I _ _ rd re od oe;cases e2;rw[a9x _ od];exact SeqAt.EqAt.same _
   ·exact SeqAt.EqAt.of_refs hab rc
  |tuple l2 v2 r2=>
   simp only[eqD];exact⟨SeqAt.EqAt.list_tuple l1 l2 hu0,SeqAt.RcAt.list_tuple l1 l2 hu0⟩
 |tuple l1 v1 r1=>
  cases s2 with
  |none=>
   simp only[eqD];exact⟨SeqAt.EqAt.tuple_none l1 hu0,SeqAt.RcAt.tuple_none l1 hu0⟩
  |bool a2=>
   simp only[eqD];exact⟨SeqAt.EqAt.tuple_bool a2 l1 hu0,SeqAt.RcAt.tuple_bool a2 l1 hu0⟩
  |int a2 t2=>
   simp only[eqD];exact⟨SeqAt.EqAt.tuple_int a2 t2 l1 hu0,SeqAt.RcAt.tuple_int a2 t2 l1 hu0⟩
  |str a2 t2=>
   simp only[eqD];exact⟨SeqAt.EqAt.tuple_str a2 t2 l1 hu0,SeqAt.RcAt.tuple_str a2 t2 l1 hu0⟩
  |list l2 v2 r2=>
   simp only[eqD];exact⟨SeqAt.EqAt.tuple_list l1 l2 hu0,SeqAt.RcAt.tuple_list l1 l2 hu0⟩
  |tuple l2 v2 r2=>
   rename_i a its ws es b its2 ws2 es2
   obtain⟨n',rfl,od'⟩:=b6f od;obtain⟨m',rfl,oe'⟩:=b6f oe;have la:=v1.length;have lb:=v2.length;have la':=r1.length;have lb':=r2.length;have rc:SeqAt.RcAt A s (.ref a) (.ref b) (eqD (.tup es) (.tup es2)):=by
    have z:=SeqAt.RcAt.tuples (A:=A) (e:=fun j=>eqD (es.getD j .non) (es2.getD j .non)) l1 l2 hu0 fun j h1 h2=>by
     obtain⟨x1,q1,q2,q3⟩:=c2g r1 v1 h1;obtain⟨y1,p1,p2,p3⟩:=c2g r2 v2 h2;exact(ih n' (Nat.lt_succ_self _) m' q2 p2 (b2l od' q3) (b2l oe' p3) q1 p1 (by show A.units+1+n' < cLine;omega)).1
    simp only[eqD];by_cases hl:es.length=es2.length
    ·rw[b6d its.toArray.size (by simp only[List.size_toArray];omega) (by simp only[List.size_toArray];omega)]
     have e1:its2.toArray.size=its.toArray.size:=by simp only[List.size_toArray];omega
     rw[e1,Nat.min_self,beq_self_eq_true,Bool.and_true] at z;exact z
    ·rw[b6c hl];have e1:(its.toArray.size == its2.toArray.size)=false:=by rw[beq_eq_false_iff_ne];simp only[List.size_toArray];omega
     rw[e1,Bool.and_false] at z;exact z
   refine⟨?_,rc⟩;by_cases hab:a=b
   ·subst hab;have exy:x=y:=RelV.inj ru rv;subst exy;have e2:=b6g I _ _ rd re od oe;cases e2;rw[a9x _ od];exact SeqAt.EqAt.same _
   ·exact SeqAt.EqAt.of_refs hab rc
end
mutual
theorem c0l:∀k j:TK,eqD k.d j.d=decide (k=j)
 |.inl a,.inl b=>by simp only[TK.d,eqD];rw[Bool.eq_iff_iff];simp
 |.inr a,.inr b=>by simp only[TK.d,eqD];rw[Bool.eq_iff_iff];simp
 |.tp l,.tp m=>by simp only[TK.d,eqD];rw[eqD_keys l m,Bool.eq_iff_iff];simp
 |.inl _,.inr _=>by simp[TK.d,eqD]
 |.inl _,.tp _=>by simp[TK.d,eqD]
 |.inr _,.inl _=>by simp[TK.d,eqD]
 |.inr _,.tp _=>by simp[TK.d,eqD]
 |.tp _,.inl _=>by simp[TK.d,eqD]
 |.tp _,.inr _=>by simp[TK.d,eqD]
theorem eqD_keys:∀l m:List TK,eqDs (TK.dl l) (TK.dl m)=decide (l=m)
 |[],[]=>by simp[TK.dl,eqDs]
 |a::l,b::m=>by simp only[TK.dl,eqDs];rw[c0l a b,eqD_keys l m,Bool.eq_iff_iff];simp
 |[],_::_=>by simp[TK.dl,eqDs]
 |_::_,[]=>by simp[TK.dl,eqDs]
end
theorem d4d:∀l:List TK,TK.dl l=l.map TK.d
 |[]=>by simp[TK.dl]
 |a::l=>by simp[TK.dl,d4d l]
theorem b1l:∀(n:Nat) {k:TK},k.ok n=true->okD n k.d=true
 |n,.inl i,_=>by cases n <;> simp[TK.d,okD]
 |n,.inr i,_=>by cases n <;> simp[TK.d,okD]
 |0,.tp l,h=>by simp[TK.ok] at h
 |n+1,.tp l,h=>by
  simp only[TK.d,okD,d4d,List.all_map];refine List.all_eq_true.mpr fun a m=>?_
  exact b1l n (List.all_eq_true.mp (by simpa only[TK.ok] using h) a m)
theorem c6v{α:Type}{M:Model}{A:Around}{E:Value->Shared->Prop}{s:Shared}{c:Prop}[Decidable c]{a b:Sem α}{Q:α->Shared->Prop}(h1:wpAny M A a Q E s)(h2:wpAny M A b Q E s):wpAny M A (if c then a else b) Q E s:=by
 split
 ·exact h1
 ·exact h2
theorem b1w(w:World):∀l m:List TK,TK.hashL w (l++m)=TK.hashL w l++TK.hashL w m
 |[],m=>by simp[TK.hashL]
 |a::l,m=>by simp[TK.hashL,b1w w l m]
theorem b3c{α β:Type}{R:α->β->Prop}:∀{l:List α} {m:List β} (i:Nat) {b:β},Paired R l m->m[i]?=some b->∃a,l[i]?=some a/\R a b
 |_,_,_,_,.nil,e=>by simp at e
 |_,_,0,_,.cons r _,e=>by simp at e;subst e;exact⟨_,rfl,r⟩
 |_,_,i+1,_,.cons _ t,e=>by
  obtain⟨a,h1,h2⟩:=b3c i t (by simpa using e)
  exact⟨a,by simpa using h1,h2⟩
theorem b3d{α β:Type}{R:α->β->Prop}:∀{l:List α} {m:List β} (i:Nat) {a:α},Paired R l m->l[i]?=some a->∃b,m[i]?=some b/\R a b
 |_,_,_,_,.nil,e=>by simp at e
 |_,_,0,_,.cons r _,e=>by simp at e;subst e;exact⟨_,rfl,r⟩
 |_,_,i+1,_,.cons _ t,e=>by
  obtain⟨a,h1,h2⟩:=b3d i t (by simpa using e)
  exact⟨a,by simpa using h1,h2⟩
section
variable {X:Cx} {pins:List (Addr×Obj)} {σ:St} {H:Hp}
theorem c6w{A:Around}{E:Value->Shared->Prop}{s:Shared}{y:V}{u:Value}{i:Int}{Q:Int->Shared->Prop}(r:RepL X.K H [y] [TK.d (.inl i)])(ru:RelV y u)(h:∀t,Q (TK.hash X.w (.inl i)) { s with toks:=t}):wpAny (model X.prog X.w) A (pyHash u) Q E s:=by
 simp only[TK.d] at r;cases r with
 |flat q _=>cases q;obtain⟨t,rfl⟩:=ru;exact wpAny_pyHash_int (by simpa only[TK.hash] using h _)
theorem c6x{A:Around}{E:Value->Shared->Prop}{s:Shared}{y:V}{u:Value}{i:Str}{Q:Int->Shared->Prop}(r:RepL X.K H [y] [TK.d (.inr i)])(ru:RelV y u)(h:∀t,Q (TK.hash X.w (.inr i)) { s with toks:=t}):wpAny (model X.prog X.w) A (pyHash u) Q E s:=by
 simp only[TK.d] at r;cases r with
 |flat q _=>cases q;obtain⟨t,rfl⟩:=ru;exact wpAny_pyHash_str (by simpa only[TK.hash] using h _)
theorem c2h:∀(n:Nat) {A:Around} {E:Value->Shared->Prop} {s:Shared} {y:V} {u:Value} {k:TK} {Q:Int->Shared->Prop},Inv X pins σ H s->RepL X.K H [y] [k.d]->k.ok n=true->RelV y u->A.units+n < cLine->
  (∀t,Q (k.hash X.w) { s with toks:=t})->wpAny (model X.prog X.w) A (pyHash u) Q E s:=by
 intro n
 induction n with
 |zero=>
  intro A E s y u k Q I r ok ru hu h;cases k with
  |tp l=>simp[TK.ok] at ok
  |inl i=>exact c6w r ru h
  |inr x=>exact c6x r ru h
 |succ n ih=>
  intro A E s y u k Q I r ok ru hu h;cases k with
  |inl i=>exact c6w r ru h
  |inr x=>exact c6x r ru h
  |tp l=>
   simp only[TK.d] at r;cases r with
   |flat q _=>cases q
   |@tup a ws _ _ _ q i _=>
    cases ru;obtain⟨its,rv,pl,_⟩:=I.tuple q;have hT:s.TypeIs (.ref a) "tuple":=pl.typeIs;obtain⟨o,g1,g2,nn,g3⟩:=pl;have ok:l.all (TK.ok n)=true:=by simpa only[TK.ok] using ok
    show wpAny _ _ (pyHashByItsType (.ref a)) Q E s;unfold pyHashByItsType;refine wpAny_bind (wpAny_cRoomFor_or (.inr (by omega)) (wpAny_bind (wpAny_specialOf hT F.slot_tuple_hash.lookup ?_)))
    dsimp only;rw[if_neg (by rw[beq_builtin_none];exact Bool.false_ne_true)]
    refine wpAny_bind (wpAny_specialOf hT F.slot_tuple_hash.lookup (wpAny_bind ?_));refine wpAny_callSpecialIfBoundUnlessNone?_slot hT F.slot_tuple_hash (wpAny_call_entry F.slot_tuple_hash hT F.entry_tuple_hash ?_ (F.args_tuple_hash_1 _));show wpAny _ _ (Builtin.Tuple.tupleItemsOf (.ref a) >>= fun z=>_) _ _ s
    refine wpAny_bind (wpAny_tupleItemsOf g1 g3 (wpAny_bind ?_));rw[<-Array.forIn_toList];refine wpAny_forIn_list _ (fun rest (b:Array Int) s'=>∃done left wl t,l=done++left/\RepL X.K H wl (TK.dl left)/\Vals wl rest/\b.toList=TK.hashL X.w done/\s'={ s with toks:=t}) _ ?_ ?_ _ _ ⟨[],l,ws,s.toks,rfl,i,rv,by simp[TK.hashL],rfl⟩
    ·rintro x rest b s' ⟨done,left,wl,t,e,r',v',hb,rfl⟩;cases v' with
     |@cons w1 _ wl _ rw1 v'=>
      cases left with
      |nil=>have:=r'.length;simp[TK.dl] at this
      |cons k1 left=>
       simp only[TK.dl] at r';have ok1:k1.ok n=true:=List.all_eq_true.mp ok k1 (by rw[e];simp)
       have fin:∀t',∃done' left' wl' t'',l=done'++left'/\RepL X.K H wl' (TK.dl left')/\Vals wl' rest/\(b.push (k1.hash X.w)).toList=TK.hashL X.w done'/\({ s with toks:=t'}:Shared)={ s with toks:=t''}:=
        fun t'=>⟨done++[k1],left,wl,t',by simp[e],r'.inv.2,v',by rw[b1w,<-hb];simp[TK.hashL],rfl⟩
       exact wpAny_bind (ih (I.tok t) r'.inv.1 ok1 rw1 (by show A.units+1+n < cLine;omega) fun t'=>by
        first
         |exact wpAny_pure (fin t')
         |exact wpAny_bind (wpAny_pure (wpAny_pure (fin t'))))
    ·rintro b s' ⟨done,left,wl,t,e,r',v',hb,rfl⟩;cases v';have hl:left=[]:=by
      cases left with
      |nil=>rfl
      |cons _ _=>have:=r'.length;simp[TK.dl] at this
     subst hl;rw[List.append_nil] at e;subst e;show wpAny _ _ (retInt (Builtin.Tuple.tupleHashOf b.toList)) _ _ _;rw[hb];refine wpAny_ret_mkInt ?_;have h':∀t,Q (reduceHash (Builtin.Tuple.tupleHashOf (TK.hashL X.w l))) { s with toks:=t}:=fun t=>by simpa only[TK.hash] using h t
     unfold reduceHash at h';show wpAny _ _ (if(decide (-(2:Int) ^ 63<=Builtin.Tuple.tupleHashOf (TK.hashL X.w l)) && decide (Builtin.Tuple.tupleHashOf (TK.hashL X.w l) < 2 ^ 63))=true then _ else _) Q E _
     split
     ·rename_i hc
      rw[if_pos hc] at h';exact wpAny_pure (h' _)
     ·rename_i hc
      rw[if_neg hc] at h';exact wpAny_bind (wpAny_rule (wpAny_pure (h' _)))
theorem b8l:∀(n:Nat) {A:Around} {E:Value->Shared->Prop} {s:Shared} {y:V} {u:Value} {k:TK} {Q:Bool->Shared->Prop},Inv X pins σ H s->RepL X.K H [y] [k.d]->k.ok n=true->RelV y u->Q true s->
  wpAny (model X.prog X.w) A (eqIsQuiet n u) Q E s:=by
 intro n
 induction n with
 |zero=>
  intro A E s y u k Q I r ok ru h;cases k with
  |tp l=>simp[TK.ok] at ok
  |inl i=>simp only[TK.d] at r;cases r with|flat q _=>cases q;obtain⟨t,rfl⟩:=ru;rw[eqIsQuiet_byValue 0 rfl];exact wpAny_pure h
  |inr i=>simp only[TK.d] at r;cases r with|flat q _=>cases q;obtain⟨t,rfl⟩:=ru;rw[eqIsQuiet_byValue 0 rfl];exact wpAny_pure h
 |succ n ih=>
  intro A E s y u k Q I r ok ru h;cases k with
  |inl i=>simp only[TK.d] at r;cases r with|flat q _=>cases q;obtain⟨t,rfl⟩:=ru;rw[eqIsQuiet_byValue (n+1) rfl];exact wpAny_pure h
  |inr i=>simp only[TK.d] at r;cases r with|flat q _=>cases q;obtain⟨t,rfl⟩:=ru;rw[eqIsQuiet_byValue (n+1) rfl];exact wpAny_pure h
  |tp l=>
   simp only[TK.d] at r;cases r with
   |flat q _=>cases q
   |@tup a ws _ _ _ q i _=>
    cases ru;obtain⟨its,rv,pl,_⟩:=I.tuple q;have hT:s.TypeIs (.ref a) "tuple":=pl.typeIs;obtain⟨o,g1,g2,nn,g3⟩:=pl;have ok:l.all (TK.ok n)=true:=by simpa only[TK.ok] using ok
    unfold eqIsQuiet;refine wpAny_bind (wpAny_specialOf hT F.slot_tuple_eq.lookup (wpAny_bind (wpAny_isInstance hT isSubtype_tuple_tuple ?_)));simp only[Bool.not_true,Bool.false_eq_true,if_false];refine wpAny_bind (wpAny_seqItems g1 g3 (wpAny_bind ?_));show wpAny _ _ (forIn its.toArray _ _) _ _ s;rw[<-Array.forIn_toList];refine wpAny_forIn_list _ (fun rest r s'=>r.1=none/\s'=s/\∃left wl,RepL X.K H wl (TK.dl left)/\Vals wl rest/\∀x∈left,x.ok n=true) _ ?_ ?_ _ _ ⟨rfl,rfl,l,ws,i,rv,fun x m=>List.all_eq_true.mp ok x m⟩
    ·rintro v rest r s' ⟨hr,rfl,left,wl,r',v',hk⟩;cases v' with
     |@cons w1 _ wl _ rw1 v'=>
      cases left with
      |nil=>have:=r'.length;simp[TK.dl] at this
      |cons k1 left=>
       simp only[TK.dl] at r';refine wpAny_bind (ih I r'.inv.1 (hk k1 (by simp)) rw1 ?_)
       simp only[Bool.not_true,Bool.false_eq_true,if_false];exact wpAny_pure ⟨rfl,rfl,left,wl,r'.inv.2,v',fun x m=>hk x (by simp[m])⟩
    ·rintro⟨r1,r2⟩ s' ⟨hr,rfl,_⟩;cases(show r1=none from hr);exact wpAny_pure h
structure DAt (X:Cx) (A:Around) (E:Value->Shared->Prop) (s:Shared) (xs:Array DictEntry) (es:List (TK×V×V)) (k:TK) (u:Value):Prop where
 ent:∀(j:Nat) (x:DictEntry),xs[j]?=some x->∃e,es[j]?=some e/\EntG X.w e x/\(∀(R:Bool->Shared->Prop),R (decide (e.1=k)) s->wpAny (model X.prog X.w) A (eqBool x.key u) R E s)/\
  ∀(R:Bool->Shared->Prop),R true s->wpAny (model X.prog X.w) A (eqIsQuiet 8 x.key) R E s
 ents:∀(j:Nat) (e:TK×V×V),es[j]?=some e->∃x:DictEntry,xs[j]?=some x/\EntG X.w e x
 uniq:∀(i j:Nat) (e f:TK×V×V),es[i]?=some e->es[j]?=some f->e.1=k->f.1=k->i=j
theorem e0c{A:Around}{E:Value->Shared->Prop}{s:Shared}{xs:Array DictEntry}{es:List (TK×V×V)}{k:TK}{y:V}{u:Value}(I:Inv X pins σ H s)(g3:Paired (EntG X.w) es xs.toList)(g4:(es.map (·.1)).Nodup)
  (rk:RepL X.K H (es.map (·.2.1)) (es.map (·.1.d))) (ry:RepL X.K H [y] [k.d]) (ok:k.ok 8=true) (ru:RelV y u) (hu:A.units+8 < cLine):DAt X A E s xs es k u where
 ent:=fun j x hx=>by
  obtain⟨e,e1,e2⟩:=b3c j g3 (by rw[Array.getElem?_toList];exact hx)
  obtain⟨v,v1,v2⟩:=rk.get (i:=j) (d:=e.1.d) (by rw[List.getElem?_map,e1];rfl)
  rw[List.getElem?_map,e1] at v1;cases v1;refine⟨e,e1,e2,fun R hR=>?_,fun R hR=>b8l 8 I v2 e2.2.2.2 e2.2.1 hR⟩
  refine(c6u I 8 8 v2 ry (b1l 8 e2.2.2.2) (b1l 8 ok) e2.2.1 ru hu).1 X.prog X.w E R ?_;rw[c0l];exact hR
 ents:=fun j e he=>by
  obtain⟨x,x1,x2⟩:=b3d j g3 he;exact⟨x,by rw[<-Array.getElem?_toList];exact x1,x2⟩
 uniq:=fun i j e f he hf ek fk=>by
  have hi:(es.map (·.1))[i]?=some k:=by rw[List.getElem?_map,he,<-ek];rfl
  have hj:(es.map (·.1))[j]?=some k:=by rw[List.getElem?_map,hf,<-fk];rfl
  exact(List.getElem?_inj (List.getElem?_eq_some_iff.mp hi).1 g4).mp (hi.trans hj.symm)
section
variable {A:Around} {E:Value->Shared->Prop} {s:Shared} {d:Addr} {o:Obj} {xs:Array DictEntry} {ep:Nat} {es:List (TK×V×V)} {k:TK} {u:Value} {Q:Option Nat->Shared->Prop}
abbrev plc(xs:Array DictEntry)(h:Int):List Nat:=placesWithHash xs.size (fun i=>xs[i]?.map (·.hash)) h
theorem plc_mem{h:Int}{i:Nat}:i∈plc xs h↔∃x,xs[i]?=some x/\x.hash=h:=by
 unfold plc placesWithHash;rw[List.mem_filter,List.mem_range];constructor
 ·rintro⟨h1,h2⟩;refine⟨xs[i],Array.getElem?_eq_getElem h1,?_⟩;dsimp only at h2;rw[Array.getElem?_eq_getElem h1] at h2;simpa using h2
 ·rintro⟨x,h1,h2⟩;refine⟨(Array.getElem?_eq_some_iff.mp h1).1,?_⟩;dsimp only;rw[h1,Option.map_some,h2];simp
theorem c6y{h:Int}:(plc xs h).Nodup:=List.Nodup.sublist List.filter_sublist List.nodup_range
theorem DAt.plc(D:DAt X A E s xs es k u){j:Nat}{e:TK×V×V}(he:es[j]?=some e)(ek:e.1=k):j∈plc xs (k.hash X.w):=by
 obtain⟨x,x1,x2⟩:=D.ents j e he;exact plc_mem.mpr ⟨x,x1,by rw[x2.1,ek]⟩
theorem c6z(D:DAt X A E s xs es k u)(g1:s.heap.get? d=some o)(g2:o.data=.dict xs ep)
  (q0:(∀(j:Nat) (e:TK×V×V),es[j]?=some e->e.1≠k)->Q none s) (q1:∀(j:Nat) (e:TK×V×V),es[j]?=some e->e.1=k->Q (some j) s) :
  wpAny (model X.prog X.w) A (dictWalkPlain d u (k.hash X.w) xs (plc xs (k.hash X.w))) Q E s:=by
 unfold dictWalkPlain;refine wpAny_bind (wpAny_forIn_list _ (fun rest b s'=>s'=s/\b=(none,())/\∃done,plc xs (k.hash X.w)=done++rest/\∀j e,j∈done->es[j]?=some e->e.1≠k) _ ?_ ?_ _ _ ⟨rfl,rfl,[],rfl,fun _ _ m=>by cases m⟩)
 ·rintro i rest b s' ⟨rfl,rfl,done,hd,hno⟩;obtain⟨x,x1,x2⟩:=plc_mem.mp (show i∈plc xs (k.hash X.w) by rw[hd];simp)
  obtain⟨e,e1,e2,eq,_⟩:=D.ent i x x1;simp only[x1];rw[if_pos (by rw[x2];simp)]
  refine wpAny_bind (wpAny_dictEpoch g1 g2 (wpAny_bind (eq _ (wpAny_bind (wpAny_dictEpoch g1 g2 ?_)))));rw[if_neg (by simp)]
  by_cases ek:e.1=k
  ·rw[decide_eq_true ek];exact wpAny_bind (wpAny_rule (wpAny_pure (wpAny_pure (q1 i e e1 ek))))
  ·rw[decide_eq_false ek];refine wpAny_bind (wpAny_rule (wpAny_pure ⟨rfl,rfl,done++[i],by simp[hd],fun j f m hf=>?_⟩))
   rcases List.mem_append.mp m with m|m
   ·exact hno j f m hf
   ·simp at m;subst m;rw[e1] at hf;cases hf;exact ek
 ·rintro b s' ⟨rfl,rfl,done,hd,hno⟩;refine wpAny_pure (q0 fun j e he ek=>hno j e ?_ he ek)
  have:=D.plc he ek;rw[hd] at this;simpa using this
def idv(u:Value):Value:=u
theorem d1v(D:DAt X A E s xs es k u)(g1:s.heap.get? d=some o)(g2:o.data=.dict xs ep)(hq:∀(R:Bool->Shared->Prop),R true s->wpAny (model X.prog X.w) A (eqIsQuiet 8 u) R E s)
  (hs:∀z t,u=.str z t->k=.inr z) (hst:∀(j:Nat) (x:DictEntry) (e:TK×V×V) z t,xs[j]?=some x->es[j]?=some e->x.key=.str z t->e.1=.inr z) (hh:∀a (j:Nat) (x:DictEntry) (e:TK×V×V),u=.ref a->xs[j]?=some x->es[j]?=some e->x.key=u->e.1=k)
  (q0:(∀(j:Nat) (e:TK×V×V),es[j]?=some e->e.1≠k)->Q none s) (q1:∀(j:Nat) (e:TK×V×V),es[j]?=some e->e.1=k->Q (some j) s) :
  wpAny (model X.prog X.w) A (dictFind d u (k.hash X.w)) Q E s:=by
 have walk:=c6z D g1 g2 q0 q1;have stored:∀v∈(plc xs (k.hash X.w)).filterMap (fun i=>xs[i]?.map (·.key)),∀(R:Bool->Shared->Prop),R true s->wpAny (model X.prog X.w) A (eqIsQuiet 8 v) R E s:=by
  intro v hv R hR;obtain⟨i,_,hi⟩:=List.mem_filterMap.mp hv;cases hx:xs[i]? with
  |none=>rw[hx] at hi;cases hi
  |some x=>
   rw[hx] at hi;obtain rfl:x.key=v:=by simpa using hi
   obtain⟨e,_,_,_,h⟩:=D.ent i x hx;exact h R hR
 have tell:∀(R:Bool->Shared->Prop),R false s->wpAny (model X.prog X.w) A (tableMayTell u ((plc xs (k.hash X.w)).filterMap fun i=>xs[i]?.map (·.key))) R E s:=by
  intro R hR;unfold tableMayTell;split
  ·exact wpAny_pure hR
  ·refine wpAny_bind (hq _ ?_);simp only[Bool.not_true,Bool.false_eq_true,if_false];refine wpAny_bind (wpAny_forIn_list _ (fun rest r s'=>s'=s/\r=(none,())/\∀v∈rest,∀(R:Bool->Shared->Prop),R true s->wpAny (model X.prog X.w) A (eqIsQuiet 8 v) R E s) _ ?_ ?_ _ _ ⟨rfl,rfl,stored⟩)
   ·rintro x rest r s' ⟨rfl,rfl,hr⟩;refine wpAny_bind (hr x (by simp) _ ?_)
    simp only[Bool.not_true,Bool.false_eq_true,if_false];exact wpAny_pure ⟨rfl,rfl,fun v hv=>hr v (by simp[hv])⟩
   ·rintro r s' ⟨rfl,rfl,_⟩;exact wpAny_pure hR
 have tell2:∀(R:Bool->Shared->Prop),R false s->wpAny (model X.prog X.w) A (if((plc xs (k.hash X.w)).filterMap (fun i=>xs[i]?.map (·.key)) == [u])=true then pure false else tableMayTell u ((plc xs (k.hash X.w)).filterMap fun i=>xs[i]?.map (·.key))) R E s:=by
  intro R hR;split
  ·exact wpAny_pure hR
  ·exact tell R hR
 have fin:∀(i:Nat) (x:DictEntry) (e:TK×V×V),xs[i]?=some x->es[i]?=some e->EntG X.w e x->(x.hash == k.hash X.w)=false->e.1≠k:=fun i x e _ _ he hf ek=>by
  rw[he.1,ek] at hf;simp at hf
 unfold dictFind
 (try with_reducible refine wpAny_holding ?_);refine wpAny_bind (wpAny_dictEntries g1 g2 ?_)
 dsimp only;by_cases hall:((u::(plc xs (k.hash X.w)).filterMap fun i=>xs[i]?.map (·.key)).all carriedByValue)=true
 ·rw[if_pos hall];split;next z t=>
   split;next hstr=>
    unfold foundByValue;cases hf:xs.findIdx? (fun e=>e.key.isStr z) with
    |none=>
     refine wpAny_pure (q0 fun j e he ek=>?_)
     obtain⟨x,x1,x2⟩:=D.ents j e he;have n1:=Array.findIdx?_eq_none_iff.mp hf x (Array.mem_of_getElem? x1);have e2:=x2.2.1;have n2:isExactStrKey x.key=true:=by
      have h:=Array.all_eq_true.mp hstr j (Array.getElem?_eq_some_iff.mp x1).1;rw[(Array.getElem?_eq_some_iff.mp x1).2] at h;exact h
     cases hk:x.key with
     |str z2 t2=>
      have e3:=hst j x e z2 t2 x1 he hk;rw[ek,hs z t rfl] at e3;cases e3;rw[hk] at n1;simp[Value.isStr] at n1
     |_=>rw[hk] at n2;cases n2
    |some i=>
     obtain⟨hlt,hi,_⟩:=Array.findIdx?_eq_some_iff_getElem.mp hf;obtain⟨e,e1,e2,eq,_⟩:=D.ent i xs[i] (Array.getElem?_eq_getElem hlt);have ek:e.1=k:=by
      cases hk:xs[i].key with
      |str z2 t2=>
       rw[hk] at hi;have:z2=z:=by simpa[Value.isStr] using hi
       subst this;rw[hst i _ e z2 t2 (Array.getElem?_eq_getElem hlt) e1 hk,hs z2 t rfl]
      |_=>rw[hk] at hi;simp[Value.isStr] at hi
     simp only[Array.getElem?_eq_getElem hlt];refine wpAny_bind (wpAny_dictEpoch g1 g2 (wpAny_bind (eq _ (wpAny_bind (wpAny_dictEpoch g1 g2 ?_)))));rw[if_neg (by simp),decide_eq_true ek]
     exact wpAny_bind (wpAny_rule (wpAny_pure (q1 i e e1 ek)))
   next=>exact walk
  next=>exact walk
 ·rw[if_neg hall];have nostr:∀z t,u=.str z t->¬(xs.all fun e=>isExactStrKey e.key)=true:=by
   intro z t hu hx;refine hall (List.all_eq_true.mpr fun v hv=>?_)
   rcases List.mem_cons.mp hv with rfl|hv
   ·rw[hu];rfl
   ·obtain⟨i,_,hi⟩:=List.mem_filterMap.mp hv;cases hx1:xs[i]? with
    |none=>rw[hx1] at hi;cases hi
    |some x=>
     rw[hx1] at hi;obtain rfl:x.key=v:=by simpa using hi
     have h:=Array.all_eq_true.mp hx i (Array.getElem?_eq_some_iff.mp hx1).1;rw[(Array.getElem?_eq_some_iff.mp hx1).2] at h;cases hk:x.key with
     |str _ _=>rfl
     |_=>rw[hk] at h;cases h
  have noany:∀a,u=.ref a->¬(xs.any fun e=>e.key == u && e.hash != k.hash X.w)=true:=by
   intro a hu hx;rw[Array.any_eq_true] at hx;obtain⟨i,hi,hc⟩:=hx;rw[Bool.and_eq_true,beq_iff_eq,bne_iff_ne] at hc;obtain⟨e,e1,e2,_⟩:=D.ent i xs[i] (Array.getElem?_eq_getElem hi);have:=hh a i _ e hu (Array.getElem?_eq_getElem hi) e1 hc.1;exact hc.2 (by rw[e2.1,this])
  have hid:u=idv u:=rfl;refine(fun(key:?P)=>?main) ?k
  case main=>
   rw(occs:=.pos [1]) [hid];split
   ·rename_i z t hz
    rw[if_neg (nostr z t hz)];rw(occs:=.pos [1]) [hid];split
    ·rename_i a ha
     rw[if_neg (noany a ha)];exact key
    ·exact key
   ·rw(occs:=.pos [1]) [hid];split
    ·rename_i a ha
     rw[if_neg (noany a ha)];exact key
    ·exact key
  refine(fun(key2:?P2)=>?main2) ?k2
  case main2=>
   refine c6v ?_ ?_
   ·refine wpAny_bind (wpAny_pure ?_);exact key2
   ·refine wpAny_bind (tell _ ?_);exact key2
  all_goals (
   show wpAny _ _ (if(false && _)=true then _ else _) _ _ _
   rw[if_neg (by rw[Bool.false_and];exact Bool.false_ne_true)]
   refine wpAny_bind (wpAny_forIn_list _ (fun rest b s'=>s'=s/\∃hit done,b=(none,hit)/\plc xs (k.hash X.w)=done++rest/\((hit=none/\∀(j:Nat) (e:TK×V×V),j∈done->es[j]?=some e->e.1≠k)\/∃(j:Nat) (e:TK×V×V),hit=some j/\j∈done/\es[j]?=some e/\e.1=k)) _ ?_ ?_ _ _
    ⟨rfl,none,[],rfl,rfl,.inl ⟨rfl,fun _ _ m=>by cases m⟩⟩)
   ·rintro i rest b s' ⟨rfl,hit,done,rfl,hd,hH⟩;obtain⟨x,x1,x2⟩:=plc_mem.mp (show i∈plc xs (k.hash X.w) by rw[hd];simp)
    obtain⟨e,e1,e2,eq,_⟩:=D.ent i x x1;have hni:i∉done:=fun m=>by
     have:=c6y (xs:=xs) (h:=k.hash X.w);rw[hd] at this;exact(List.nodup_append.mp this).2.2 i m i (by simp) rfl
    simp only[x1];rw[if_pos (by rw[x2];simp)]
    refine wpAny_bind (wpAny_dictEpoch g1 g2 (wpAny_bind (eq _ (wpAny_bind (wpAny_dictEpoch g1 g2 ?_)))));rw[if_neg (by simp)]
    by_cases ek:e.1=k
    ·rw[decide_eq_true ek];rcases hH with⟨rfl,hno⟩|⟨j,f,rfl,jd,jf,fk⟩
     ·first|rw[if_pos rfl]|skip
      simp only[Option.isSome_none,Bool.false_eq_true,if_false];first|refine wpAny_bind (wpAny_pure ?_)|skip
      refine wpAny_bind (wpAny_rule ?_);split
      ·exact wpAny_pure (wpAny_pure (q1 i e e1 ek))
      ·exact wpAny_pure ⟨rfl,some i,done++[i],rfl,by simp[hd],.inr ⟨i,e,rfl,by simp,e1,ek⟩⟩
     ·exact absurd (D.uniq i j e f e1 jf ek fk) fun z=>hni (by rw[z];exact jd)
    ·rw[decide_eq_false ek];have nx:(hit=none/\∀(j:Nat) (e:TK×V×V),j∈done++[i]->es[j]?=some e->e.1≠k)\/∃(j:Nat) (e:TK×V×V),hit=some j/\j∈done++[i]/\es[j]?=some e/\e.1=k:=by
      rcases hH with⟨h0,hno⟩|⟨j,f,h0,jd,jf,fk⟩
      ·refine .inl ⟨h0,fun j f m hf=>?_⟩
       rcases List.mem_append.mp m with m|m
       ·exact hno j f m hf
       ·simp at m;subst m;rw[e1] at hf;cases hf;exact ek
      ·exact .inr ⟨j,f,h0,by simp[jd],jf,fk⟩
     simp only[Bool.false_eq_true,if_false];refine wpAny_bind (wpAny_rule ?_);first|rw[if_neg (by simp)]|skip
     first
      |exact wpAny_pure ⟨rfl,hit,done++[i],rfl,by simp[hd],nx⟩
      |exact wpAny_bind (wpAny_pure (wpAny_pure ⟨rfl,hit,done++[i],rfl,by simp[hd],nx⟩))
   ·rintro b s' ⟨rfl,hit,done,rfl,hd,hH⟩;rcases hH with⟨rfl,hno⟩|⟨j,f,rfl,jd,jf,fk⟩
    ·refine wpAny_pure (q0 fun j e he ek=>hno j e ?_ he ek)
     have:=D.plc he ek;rw[hd] at this;simpa using this
    ·exact wpAny_pure (q1 j f jf fk))
end
end
def valX(es:List (TK×V×V))(k:TK):Option V:=(es.find? fun e=>decide (e.1=k)).map (·.2.2)
def putX:List (TK×V×V)->TK->V->V->List (TK×V×V)
 |[],k,y,v=>[(k,y,v)]
 |e::es,k,y,v=>if e.1=k then(e.1,e.2.1,v)::es else e::putX es k y v
def putE(es:List (TK×V×V))(k:TK)(ep:Nat):Nat:=if(es.any fun e=>decide (e.1=k))=true then ep else ep+1
def XGet(K:L2.FG)(H:Hp)(a:Addr)(y:V)(r:Option V):Prop:=∃es ep k,H a=some (.dG es ep)/\RepL K H (es.map (·.2.1)) (es.map (·.1.d))/\RepL K H [y] [k.d]/\k.ok 8=true/\r=valX es k
def XPut(K:L2.FG)(H:Hp)(a:Addr)(y v:V)(H':Hp):Prop:=∃es ep k,H a=some (.dG es ep)/\RepL K H (es.map (·.2.1)) (es.map (·.1.d))/\RepL K H [y] [k.d]/\k.ok 8=true/\es.length < sizeLine/\H'=upd H a (.dG (putX es k y v) (putE es k ep))
theorem d6h{k j:TK}(e:k.d=j.d)(h:k.ok 8=true):k=j:=by
 have h1:=c0l k j;rw[<-e,a9x 8 (b1l 8 h)] at h1;exact of_decide_eq_true h1.symm
section
variable {X:Cx} {pins:List (Addr×Obj)} {σ:St} {H:Hp}
theorem c7a{y:V}{z:Str}{t:Tok}{k:TK}(r:RepL X.K H [y] [k.d])(ru:RelV y (.str z t)):k=.inr z:=by
 cases k with
 |inl i=>simp only[TK.d] at r;cases r with|flat q _=>cases q;obtain⟨t,e⟩:=ru;cases e
 |inr i=>simp only[TK.d] at r;cases r with|flat q _=>cases q;obtain⟨t,e⟩:=ru;cases e;rfl
 |tp l=>simp only[TK.d] at r;cases r with|flat q _=>cases q|tup q _ _=>cases ru
theorem c7b{y:V}{a:Addr}(ru:RelV y (.ref a)):y=.ref a:=by
 cases y with
 |ref b=>cases ru;rfl
 |non=>cases ru
 |bl _=>cases ru
 |ty _=>cases ru
 |_=>obtain⟨t,e⟩:=ru;cases e
section
variable {A:Around} {E:Value->Shared->Prop} {s:Shared} {d:Addr} {es:List (TK×V×V)} {k:TK} {y v:V} {u r:Value}
theorem d4e{o:Obj}{xs:Array DictEntry}{ep:Nat}{Q:Option Nat->Shared->Prop}(I:Inv X pins σ H s)(g1:s.heap.get? d=some o)(g2:o.data=.dict xs ep)(g3:Paired (EntG X.w) es xs.toList)(g4:(es.map (·.1)).Nodup)
  (rk:RepL X.K H (es.map (·.2.1)) (es.map (·.1.d))) (ry:RepL X.K H [y] [k.d]) (ok:k.ok 8=true) (ru:RelV y u) (hu:A.units+8 < cLine)
  (q0:(∀(j:Nat) (e:TK×V×V),es[j]?=some e->e.1≠k)->Q none s) (q1:∀(j:Nat) (e:TK×V×V),es[j]?=some e->e.1=k->Q (some j) s):wpAny (model X.prog X.w) A (dictFind d u (k.hash X.w)) Q E s:=by
 have at':∀(j:Nat) (x:DictEntry) (e:TK×V×V),xs[j]?=some x->es[j]?=some e->EntG X.w e x/\RepL X.K H [e.2.1] [e.1.d]:=by
  intro j x e hx he;obtain⟨e',e1,e2⟩:=b3c j g3 (by rw[Array.getElem?_toList];exact hx)
  rw[he] at e1;cases e1;obtain⟨v,v1,v2⟩:=rk.get (i:=j) (d:=e.1.d) (by rw[List.getElem?_map,he];rfl)
  rw[List.getElem?_map,he] at v1;cases v1;exact⟨e2,v2⟩
 refine d1v (e0c I g3 g4 rk ry ok ru hu) g1 g2 (fun R hR=>b8l 8 I ry ok ru hR) (fun z t e=>c7a ry (by rw[<-e];exact ru)) (fun j x e z t hx he hk=>?_) (fun a j x e hu' hx he hk=>?_) q0 q1
 ·obtain⟨g,r'⟩:=at' j x e hx he;exact c7a r' (by rw[<-hk];exact g.2.1)
 ·obtain⟨g,r'⟩:=at' j x e hx he;have h1:=g.2.1;rw[hk,hu'] at h1;rw[hu'] at ru;rw[c7b h1] at r';rw[c7b ru] at ry;exact d6h (b6g I 8 8 r' ry (b1l 8 g.2.2.2) (b1l 8 ok)) g.2.2.2
theorem c7c(h:∀(j:Nat) (e:TK×V×V),es[j]?=some e->e.1≠k):valX es k=none:=by
 unfold valX;rw[List.find?_eq_none.mpr fun e m z=>?_,Option.map_none]
 obtain⟨j,hj⟩:=List.mem_iff_getElem?.mp m;exact h j e hj (of_decide_eq_true z)
theorem c7d(hn:(es.map (·.1)).Nodup){j:Nat}{e:TK×V×V}(he:es[j]?=some e)(ek:e.1=k):valX es k=some e.2.2:=by
 induction es generalizing j with
 |nil=>simp at he
 |cons x es ih=>
  rw[List.map_cons,List.nodup_cons] at hn;unfold valX;rw[List.find?_cons];cases j with
  |zero=>
   simp only[List.getElem?_cons_zero,Option.some.injEq] at he;subst he;rw[decide_eq_true ek];rfl
  |succ j=>
   simp only[List.getElem?_cons_succ] at he;have ne:¬x.1=k:=fun z=>hn.1 (by rw[z,<-ek];exact List.mem_map.mpr ⟨e,List.mem_of_getElem? he,rfl⟩)
   rw[decide_eq_false ne];exact ih hn.2 he
theorem b8m{o:Option V}{Q:Option Value->Shared->Prop}(hu:A.units+8 < cLine)(I:Inv X pins σ H s)(g:XGet X.K H d y o)(ru:RelV y u)(h:∀w t,RelO o w->Q w { s with toks:=t}):
  wpAny (model X.prog X.w) A (dictGet d u) Q E s:=by
 obtain⟨es,ep,k,hd,rk,ry,ok,rfl⟩:=g;obtain⟨_,_,ob,xs,g1,_,g2,g3,g4⟩:=(show ObjOk X.prog X.w H s.heap d (.dG es ep) from I.hok d _ hd);unfold dictGet
 (try with_reducible refine wpAny_holding ?_);refine wpAny_bind (c2h 8 I ry ok ru hu fun t=>wpAny_bind (d4e (I.tok t) g1 g2 g3 g4 rk ry ok ru hu (fun q0=>?_) (fun j e he ek=>?_)))
 ·exact wpAny_pure (h none t (by rw[c7c q0];exact True.intro))
 ·obtain⟨x,x1,x2⟩:=b3d j g3 he;refine wpAny_bind (wpAny_dictEntries (s:={ s with toks:=t}) g1 g2 (wpAny_pure ?_));rw[<-Array.getElem?_toList,x1];exact h (some x.val) t (by rw[c7d g4 he ek];exact x2.2.2.1)
theorem XGet.ty{o:Option V}(I:Inv X pins σ H s)(g:XGet X.K H d y o):s.TypeIs (.ref d) "dict"/\(d == sysModules)=false:=by
 obtain⟨es,ep,k,hd,_⟩:=g;obtain⟨_,z,ob,xs,g1,g5,_⟩:=(show ObjOk X.prog X.w H s.heap d (.dG es ep) from I.hok d _ hd);exact⟨⟨ob,g1,g5.1⟩,z⟩
theorem c7e{Q:Value->Shared->Prop}(hu:A.units+9 < cLine)(I:Inv X pins σ H s)(g:XGet X.K H d y (some v))(ru:RelV y u)(h:∀w' s',Inv X pins σ H s'->RelV v w'->Q w' s'):wpAny (model X.prog X.w) A (getItem (.ref d) u) Q E s:=by
 have hT:=(g.ty I).1;unfold getItem
 (try with_reducible refine wpAny_holding ?_);refine wpAny_bind (wpAny_sequenceKey hT (by decide) (wpAny_bind (wpAny_callSpecial?_slot (name:=Str.ofString "__getitem__") hT slot_dict_getitem (wpAny_call_entry slot_dict_getitem hT entry_dict_getitem ?_ (args_dict_getitem _ _)))))
 show wpAny _ _ (dictGet d u >>= _) _ _ s;refine wpAny_bind (b8m (by show A.units+1+8 < cLine;omega) I g ru fun w t rw'=>?_)
 obtain⟨w',rfl,r'⟩:=RelO.some_of rw';exact wpAny_pure ⟨w',rfl,wpAny_pure (h w' _ (I.tok t) r')⟩
theorem b4s{o:Option V}{Q:Bool->Shared->Prop}(hu:A.units+9 < cLine)(I:Inv X pins σ H s)(g:XGet X.K H d y o)(ru:RelV y u)(h:∀s',Inv X pins σ H s'->Q o.isSome s'):wpAny (model X.prog X.w) A (contains (.ref d) u) Q E s:=by
 obtain⟨hT,hd⟩:=g.ty I;unfold contains
 (try with_reducible refine wpAny_holding ?_);refine wpAny_bind (wpAny_specialOf hT slot_dict_contains.lookup ?_)
 dsimp only;rw[if_neg (by rw[beq_builtin_none];exact Bool.false_ne_true)]
 refine wpAny_bind (wpAny_callSpecialUnlessNone?_slot (name:=Str.ofString "__contains__") hT slot_dict_contains (wpAny_call_entry slot_dict_contains hT entry_dict_contains ?_ (args_dict_contains _ _)));show wpAny _ _ (dictGet d u >>= _) _ _ s;refine wpAny_bind (b8m (by show A.units+1+8 < cLine;omega) I g ru fun w t rw'=>?_)
 have e:=rw'.isSome_eq;cases w with
 |some w=>
  show wpAny _ _ (ret (.bool true)) _ _ _;refine wpAny_pure ⟨_,rfl,wpAny_truthy_bool ?_⟩;have:=h _ (I.tok t);rw[e] at this;exact this
 |none=>
  show wpAny _ _ (Builtin.Dict.pendingKey? d u >>= _) _ _ _;refine wpAny_bind (wpAny_pendingKey_other hd (wpAny_pure ⟨_,rfl,wpAny_truthy_bool ?_⟩));have:=h _ (I.tok t);rw[e] at this;exact this
theorem x_in{o:Option V}{Q:Value->Shared->Prop}(hu:A.units+9 < cLine)(I:Inv X pins σ H s)(g:XGet X.K H d y o)(ru:RelV y u)(h:∀s',Inv X pins σ H s'->Q (.bool o.isSome) s'):wpAny (model X.prog X.w) A (compareOp .In u (.ref d)) Q E s:=
 wpAny_bind (b4s hu I g ru fun s' I'=>wpAny_pure (h s' I'))
theorem d6i{o:Option V}{Q:Value->Shared->Prop}(hu:A.units+9 < cLine)(I:Inv X pins σ H s)(g:XGet X.K H d y o)(ru:RelV y u)(h:∀s',Inv X pins σ H s'->Q (.bool (!o.isSome)) s'):wpAny (model X.prog X.w) A (compareOp .NotIn u (.ref d)) Q E s:=
 wpAny_bind (b4s hu I g ru fun s' I'=>wpAny_pure (h s' I'))
theorem b3e(k:TK)(y v:V):∀es:List (TK×V×V),(putX es k y v).length<=es.length+1
 |[]=>by simp[putX]
 |e::es=>by
  unfold putX;have:=b3e k y v es;split <;> simp <;> omega
theorem c2i:∀{es:List (TK×V×V)},(∀(j:Nat) (e:TK×V×V),es[j]?=some e->e.1≠k)->putX es k y v=es++[(k,y,v)]
 |[],_=>rfl
 |e::es,h=>by
  unfold putX;rw[if_neg (h 0 e rfl),c2i fun j x hx=>h (j+1) x (by simpa using hx)]
  rfl
theorem d6j{w:World}{xs:List DictEntry}(g3:Paired (EntG w) es xs)(ry:RelV y u)(rv:RelV v r)(ok:k.ok 8=true):Paired (EntG w) (es++[(k,y,v)]) (xs++[⟨k.hash w,u,r⟩]):=by
 induction g3 with
 |nil=>exact .cons ⟨rfl,ry,rv,ok⟩ .nil
 |cons a _ ih=>exact .cons a ih
theorem c7f{w:World}:∀{es:List (TK×V×V)} {xs:List DictEntry} {j:Nat} {e:TK×V×V},Paired (EntG w) es xs->(es.map (·.1)).Nodup->es[j]?=some e->e.1=k->RelV v r->
  Paired (EntG w) (putX es k y v) (xs.modify j fun x=>{ x with val:=r})/\(putX es k y v).map (·.1)=es.map (·.1)
 |_,_,_,_,.nil,_,he,_,_=>by simp at he
 |_::es,_::xs,0,e,.cons a t,hn,he,ek,rv=>by
  simp only[List.getElem?_cons_zero,Option.some.injEq] at he;subst he;unfold putX;rw[if_pos ek];exact⟨.cons ⟨a.1,a.2.1,rv,a.2.2.2⟩ t,rfl⟩
 |x::es,_::xs,j+1,e,.cons a t,hn,he,ek,rv=>by
  simp only[List.getElem?_cons_succ] at he;rw[List.map_cons,List.nodup_cons] at hn;have ne:¬x.1=k:=fun z=>hn.1 (by rw[z,<-ek];exact List.mem_map.mpr ⟨e,List.mem_of_getElem? he,rfl⟩)
  unfold putX;rw[if_neg ne];have ih:=c7f t hn.2 he ek rv;exact⟨.cons a ih.1,by rw[List.map_cons,List.map_cons,ih.2]⟩
theorem c7g{H':Hp}{Q:Unit->Shared->Prop}(hu:A.units+8 < cLine)(I:Inv X pins σ H s)(g:XPut X.K H d y v H')(ru:RelV y u)(rv:RelV v r)(h:∀s',Inv X pins σ H' s'->Q () s'):
  wpAny (model X.prog X.w) A (dictSet d u r) Q E s:=by
 obtain⟨es,ep,k,hd,rk,ry,ok,hl,rfl⟩:=g;obtain⟨_,z,ob,xs,g1,g5,g2,g3,g4⟩:=(show ObjOk X.prog X.w H s.heap d (.dG es ep) from I.hok d _ hd);have hz:xs.size<=sizeLine:=by have:=Paired.length g3;simp at this;omega
 have hl2:(putX es k y v).length<=sizeLine:=by have:=b3e k y v es;omega
 unfold dictSet
 (try with_reducible refine wpAny_holding ?_);refine wpAny_bind (c2h 8 I ry ok ru hu fun t=>?_)
 unfold dictSetHashed
 (try with_reducible refine wpAny_holding ?_);refine wpAny_bind (d4e (I.tok t) g1 g2 g3 g4 rk ry ok ru hu (fun q0=>?_) (fun j e he ek=>?_))
 ·have ep2:putX es k y v=es++[(k,y,v)]:=c2i q0;have ep3:putE es k ep=ep+1:=if_neg (by
   rw[List.any_eq_true];rintro⟨e,m,q⟩;obtain⟨j,hj⟩:=List.mem_iff_getElem?.mp m;exact q0 j e hj (of_decide_eq_true q))
  rw[ep3] at h;refine wpAny_bind (wpAny_rule (wpAny_updateDictKeys (hz:=hz) (s:={ s with toks:=t}) g1 g2 (h _ ?_)));refine c6a (I.tok t) (by rw[hd];exact True.intro) (Heap.SameBut.update ..) ⟨_,Heap.get?_update_self _ g1 (Obj.isFreed_of_dict (Obj.data_mapDictKeys g2 _))⟩ ⟨hl2,z,_,_,Heap.get?_update_self _ g1 (Obj.isFreed_of_dict (Obj.data_mapDictKeys g2 _)),g5.mapDictKeys _,Obj.data_mapDictKeys g2 _,?_,?_⟩
  ·rw[ep2,Array.toList_push];exact d6j g3 ru rv ok
  ·rw[ep2,List.map_append,List.nodup_append];refine⟨g4,by simp,fun a m b m' e=>?_⟩
   simp at m';subst m';obtain⟨x,mx,rfl⟩:=List.mem_map.mp m;obtain⟨j,hj⟩:=List.mem_iff_getElem?.mp mx;exact q0 j x hj e
 ·have em:=c7f (y:=y) g3 g4 he ek rv;have ep3:putE es k ep=ep:=if_pos (List.any_eq_true.mpr ⟨e,List.mem_of_getElem? he,decide_eq_true ek⟩);rw[ep3] at h;refine wpAny_bind (wpAny_rule (wpAny_bind (wpAny_updateDict (s:={ s with toks:=t}) g1 g2 (wpAny_point (h _ ?_)))));refine c6a (I.tok t) (by rw[hd];exact True.intro) (Heap.SameBut.update ..) ⟨_,Heap.get?_update_self _ g1 (Obj.isFreed_of_dict (Obj.data_mapDict g2 _))⟩ ⟨hl2,z,_,_,Heap.get?_update_self _ g1 (Obj.isFreed_of_dict (Obj.data_mapDict g2 _)),g5.mapDict _,Obj.data_mapDict g2 _,?_,?_⟩
  ·obtain⟨l⟩:=xs;simpa using em.1
  ·rw[em.2];exact g4
theorem c7h{H':Hp}{Q:Unit->Shared->Prop}(hu:A.units+9 < cLine)(I:Inv X pins σ H s)(g:XPut X.K H d y v H')(ru:RelV y u)(rv:RelV v r)(h:∀s',Inv X pins σ H' s'->Q () s'):
  wpAny (model X.prog X.w) A (setItem (.ref d) u r) Q E s:=by
 have hT:s.TypeIs (.ref d) "dict":=by
  obtain⟨es,ep,k,hd,rk,ry,ok,_⟩:=g;exact(XGet.ty I ⟨es,ep,k,hd,rk,ry,ok,rfl⟩).1
 unfold setItem
 (try with_reducible refine wpAny_holding ?_);refine wpAny_bind (wpAny_sequenceKey hT (by decide) (wpAny_bind (wpAny_callSpecial?_slot (name:=Str.ofString "__setitem__") hT slot_dict_setitem (wpAny_call_entry slot_dict_setitem hT entry_dict_setitem ?_ (args_dict_setitem _ _ _)))))
 show wpAny _ _ (Builtin.Dict.notOrdered "__setitem__" ⟨[.ref d,u,r],[]⟩ >>= _) _ _ s;refine wpAny_bind (wpAny_notOrdered_dict hT ?_);show wpAny _ _ (dictSet d u r >>= fun z=>_) _ _ s
 exact wpAny_bind (c7g (by show A.units+1+8 < cLine;omega) I g ru rv fun s' I'=>wpAny_pure ⟨.none,rfl,wpAny_pure (h s' I')⟩)
end
end
section
variable {X:Cx} {K:L2.FG}
def rEqA(K:L2.FG):R2:=fun x y H Q=>∃d e,RepL K H [x] [d]/\RepL K H [y] [e]/\okD 40 d=true/\okD 40 e=true/\Q (.bl (eqD d e)) H
theorem a4i(K:L2.FG)(hu:X.A.units+40 < cLine)(hK:X.K=K:=by rfl):OpR X (compareOp .Eq) (rEqA K):=by
 subst hK;intro pins s σ H x y v u Q I rx ry h;obtain⟨d,e,r1,r2,o1,o2,q⟩:=h;exact(c6u I 40 40 r1 r2 o1 o2 rx ry hu).2 X.prog X.w _ _ ⟨.bl _,H,I,rfl,q⟩
open Classical in
noncomputable def inE (K:L2.FG) (H:Hp) (dx:D) (u:Value):Bool:=decide (∃x d,RelV x u/\RepL K H [x] [d]/\okD 40 d=true/\eqD d dx=true)
open Classical in
theorem d4f{pins:List (Addr×Obj)}{s:Shared}{σ:St}{H:Hp}(I:Inv X pins σ H s){dx d:D}{x:V}{u:Value}(rx:RelV x u)(r:RepL X.K H [x] [d])(ok:okD 40 d=true):inE X.K H dx u=eqD d dx:=by
 unfold inE;rw[Bool.eq_iff_iff,decide_eq_true_iff];constructor
 ·rintro⟨x',d',rx',r',ok',e⟩;have:=RelV.inj rx rx';subst this;rw[b6g I 40 40 r r' ok ok'];exact e
 ·exact fun e=>⟨x,d,rx,r,ok,e⟩
theorem c2j{pins:List (Addr×Obj)}{s:Shared}{σ:St}{H:Hp}(I:Inv X pins σ H s){dx:D}{ws:List V}{its:List Value}{ds:List D}(t:Vals ws its)(rp:RepL X.K H ws ds)(ok:ds.all (okD 40)=true):its.any (inE X.K H dx)=ds.any fun d=>eqD d dx:=by
 induction t generalizing ds with
 |nil=>
  cases ds with
  |nil=>rfl
  |cons _ _=>have:=rp.length;simp at this
 |cons r t ih=>
  cases ds with
  |nil=>have:=rp.length;simp at this
  |cons d ds=>
   rw[List.all_cons,Bool.and_eq_true] at ok;rw[List.any_cons,List.any_cons,d4f I r rp.inv.1 ok.1,ih rp.inv.2 ok.2]
theorem c2k{pins:List (Addr×Obj)}{s:Shared}{σ:St}{H:Hp}(I:Inv X pins σ H s){dx:D}{y:V}{v:Value}{A:Around}(rv:RelV y v)(ry:RepL X.K H [y] [dx])(oy:okD 40 dx=true)(hu:A.units+40 < cLine):
  ∀{ws:List V} {its:List Value} {ds:List D},Vals ws its->RepL X.K H ws ds->ds.all (okD 40)=true->∀u∈its,SeqAt.EqAt A s u v (inE X.K H dx u):=by
 intro ws its ds t
 induction t generalizing ds with
 |nil=>intro _ _ u m;cases m
 |cons r t ih=>
  intro rp ok u' m;cases ds with
  |nil=>have:=rp.length;simp at this
  |cons d ds=>
   rw[List.all_cons,Bool.and_eq_true] at ok;rcases List.mem_cons.mp m with rfl|m
   ·rw[d4f I r rp.inv.1 ok.1];exact(c6u I 40 40 rp.inv.1 ry ok.1 oy r rv hu).1
   ·exact ih rp.inv.2 ok.2 u' m
def seqO:D->Option (List D)
 |.lst ds=>some ds
 |.tup ds=>some ds
 |_=>none
def rInA(K:L2.FG)(neg:Bool):R2:=fun x y H Q=>
 (∃d e ds,RepL K H [x] [d]/\RepL K H [y] [e]/\seqO e=some ds/\okD 40 d=true/\ds.all (okD 40)=true/\Q (.bl (if neg then !ds.any fun z=>eqD z d else ds.any fun z=>eqD z d)) H)\/
 (∃i j,x=.str i/\y=.str j/\Q (.bl (if neg then !(!(Builtin.Str.occurrences j i 0 j.length 1).isEmpty) else !(Builtin.Str.occurrences j i 0 j.length 1).isEmpty)) H)\/
 ∃a o,y=.ref a/\XGet K H a x o/\Q (.bl (if neg then !o.isSome else o.isSome)) H
theorem b4t(K:L2.FG)(hu:X.A.units+41 < cLine)(hK:X.K=K:=by rfl):OpR X (compareOp .In) (rInA K false):=by
 subst hK;intro pins s σ H x y v u Q I rx ry h;rcases h with⟨d,e,ds,r1,r2,es,o1,o2,q⟩|⟨i,j,rfl,rfl,q⟩|⟨a,o,rfl,g,q⟩
 ·have hu':X.A.in1.units+40 < cLine:=by show X.A.units+1+40 < cLine;omega
  cases r2 with
  |flat z _=>cases e <;> first|(cases z;done)|cases es
  |lst sq i _=>
   cases es;cases ry;obtain⟨its,r,pl,hz⟩:=I.list (.inl sq);refine SeqAt.in_listAt (inE X.K H d) pl.isList (fun w hw=>c2k I rx r1 o1 hu' r i o2 w (by simpa using hw)) ⟨.bl _,H,I,rfl,?_⟩
   rw[show its.toArray.any (inE X.K H d)=its.any (inE X.K H d) by simp,c2j I r i o2]
   exact q
  |tup sq i _=>
   cases es;cases ry;obtain⟨its,r,pl,hz⟩:=I.tuple sq;refine SeqAt.in_tupleAt (inE X.K H d) pl (fun w hw=>c2k I rx r1 o1 hu' r i o2 w (by simpa using hw)) ⟨.bl _,H,I,rfl,?_⟩
   rw[show its.toArray.any (inE X.K H d)=its.any (inE X.K H d) by simp,c2j I r i o2]
   exact q
  |dct _ _ _ _ _=>cases es
  |scr _ _=>cases es
  |exc _ _=>cases es
  |obj _=>cases es
 ·exact c5r pins s σ H _ _ v u Q I rx ry ⟨i,j,rfl,rfl,q⟩
 ·cases ry;exact x_in (by omega) I g rx fun s3 I3=>⟨.bl o.isSome,H,I3,rfl,q⟩
theorem a9y(K:L2.FG)(hu:X.A.units+41 < cLine)(hK:X.K=K:=by rfl):OpR X (compareOp .NotIn) (rInA K true):=by
 subst hK;intro pins s σ H x y v u Q I rx ry h;rcases h with⟨d,e,ds,r1,r2,es,o1,o2,q⟩|⟨i,j,rfl,rfl,q⟩|⟨a,o,rfl,g,q⟩
 ·have hu':X.A.in1.units+40 < cLine:=by show X.A.units+1+40 < cLine;omega
  cases r2 with
  |flat z _=>cases e <;> first|(cases z;done)|cases es
  |lst sq i _=>
   cases es;cases ry;obtain⟨its,r,pl,hz⟩:=I.list (.inl sq);refine SeqAt.notIn_listAt (inE X.K H d) pl.isList (fun w hw=>c2k I rx r1 o1 hu' r i o2 w (by simpa using hw)) ⟨.bl _,H,I,rfl,?_⟩
   rw[show its.toArray.any (inE X.K H d)=its.any (inE X.K H d) by simp,c2j I r i o2]
   exact q
  |tup sq i _=>
   cases es;cases ry;obtain⟨its,r,pl,hz⟩:=I.tuple sq;refine SeqAt.notIn_tupleAt (inE X.K H d) pl (fun w hw=>c2k I rx r1 o1 hu' r i o2 w (by simpa using hw)) ⟨.bl _,H,I,rfl,?_⟩
   rw[show its.toArray.any (inE X.K H d)=its.any (inE X.K H d) by simp,c2j I r i o2]
   exact q
  |dct _ _ _ _ _=>cases es
  |scr _ _=>cases es
  |exc _ _=>cases es
  |obj _=>cases es
 ·exact b7r pins s σ H _ _ v u Q I rx ry ⟨i,j,rfl,rfl,q⟩
 ·cases ry;exact d6i (by omega) I g rx fun s3 I3=>⟨.bl (!o.isSome),H,I3,rfl,q⟩
def oEq:List O->Option O
 |[a,b]=>if okD 40 a.d=true/\okD 40 b.d=true then some (.frz (.bl (eqD a.d b.d))) else none
 |_=>none
theorem a7e:OpOk K (r2L (rEqA K)) oEq:=by
 intro F H vs os o Q le see e res;unfold oEq at e;split at e
 ·split at e
  ·cases e;obtain⟨x,y,B,C,rfl,h1,h2⟩:=see.two
   rename_i hh
   exact⟨_,_,rfl,_,_,a3v le h1,a3v le h2,hh.1,hh.2,res.flat rfl⟩
  ·cases e
 ·cases e
mutual
def tkD:D->Option TK
 |.int i=>some (.inl i)
 |.str x=>some (.inr x)
 |.tup l=>(tkDs l).map .tp
 |_=>none
def tkDs:List D->Option (List TK)
 |[]=>some []
 |d::l=>(tkD d).bind fun k=>(tkDs l).map fun ks=>k::ks
end
def keyD:D->Option TK
 |.int i=>some (.inl i)
 |.str x=>some (.inr x)
 |.tup l=>(tkDs l).bind fun ks=>if TK.ok 8 (.tp ks)=true then some (.tp ks) else none
 |_=>none
mutual
theorem e1o:∀{d:D} {k:TK},tkD d=some k->k.d=d
 |.int i,k,e=>by simp only[tkD] at e;cases e;simp[TK.d]
 |.str i,k,e=>by simp only[tkD] at e;cases e;simp[TK.d]
 |.tup l,k,e=>by
  simp only[tkD] at e;obtain⟨ks,h1,rfl⟩:=Option.map_eq_some_iff.mp e;simp only[TK.d];rw[tkDs_d h1]
 |.non,k,e=>by simp[tkD] at e
 |.bl _,k,e=>by simp[tkD] at e
 |.ty _,k,e=>by simp[tkD] at e
 |.lst _,k,e=>by simp[tkD] at e
 |.dct _,k,e=>by simp[tkD] at e
 |.scr _,k,e=>by simp[tkD] at e
 |.exc _ _,k,e=>by simp[tkD] at e
theorem tkDs_d:∀{l:List D} {ks:List TK},tkDs l=some ks->TK.dl ks=l
 |[],ks,e=>by simp only[tkDs] at e;cases e;simp[TK.dl]
 |d::l,ks,e=>by
  simp only[tkDs] at e;obtain⟨k,h1,e⟩:=Option.bind_eq_some_iff.mp e;obtain⟨ks',h2,rfl⟩:=Option.map_eq_some_iff.mp e;simp only[TK.dl];rw[e1o h1,tkDs_d h2]
end
theorem a7v{d:D}{k:TK}(e:keyD d=some k):k.d=d/\k.ok 8=true:=by
 cases d with
 |int i=>cases e;exact⟨by simp[TK.d],rfl⟩
 |str i=>cases e;exact⟨by simp[TK.d],rfl⟩
 |tup l=>
  simp only[keyD] at e;obtain⟨ks,h1,e⟩:=Option.bind_eq_some_iff.mp e;split at e
  ·rename_i h
   cases e;exact⟨by simp only[TK.d];rw[tkDs_d h1],h⟩
  ·cases e
 |_=>cases e
def dictO:O->Option (List (TK×D))
 |.frz (.dct kvs)=>some kvs
 |.dct kvs=>some (O.dk kvs)
 |_=>none
theorem c2l{α β:Type}:∀{ws:List (TK×α)} {kvs:List (TK×β)},ws.map (·.1)=kvs.map (·.1)->ws.map (·.1.d)=kvs.map (·.1.d):=fun{ws kvs} h=>by
 have:=congrArg (List.map TK.d) h;rw[List.map_map,List.map_map] at this;exact this
theorem d1w{F H:Hp}{x:V}{o:O}{B:List Addr}{kvs:List (TK×D)}(le:Same F H)(h:OwnL K F H [some x] [some o] B)(e:dictO o=some kvs):∃a ws ep,x=.ref a/\H a=some (.dG ws ep)/\ws.map (·.1)=kvs.map (·.1)/\RepL K H (ws.map (·.2.1)) (ws.map (·.1.d))/\RepL K H (ws.map (·.2.2)) (kvs.map (·.2)):=by
 have r:=a3v le h;have ed:o.d=.dct kvs:=by
  cases o with
  |frz d=>cases d <;> cases e;rfl
  |dct _=>cases e;rfl
  |_=>cases e
 rw[ed] at r;cases r with
 |flat z _=>cases z
 |dct q k r i _=>exact⟨_,_,_,rfl,q,k,by rw[c2l k];exact r,i⟩
def valD(kvs:List (TK×D))(k:TK):Option D:=(kvs.find? fun kv=>decide (kv.1=k)).map (·.2)
theorem c0m{F:Hp}{k:TK}:∀{ws:List (TK×V×V)} {kvs:List (TK×D)},ws.map (·.1)=kvs.map (·.1)->RepL K F (ws.map (·.2.2)) (kvs.map (·.2))->(valX ws k=none/\valD kvs k=none)\/∃v d,valX ws k=some v/\valD kvs k=some d/\RepL K F [v] [d]
 |[],[],_,_=>.inl ⟨rfl,rfl⟩
 |w::ws,p::kvs,h,r=>by
  rw[List.map_cons,List.map_cons] at h;injection h with h1 h2;unfold valX valD;rw[List.find?_cons,List.find?_cons,h1];by_cases e:p.1=k
  ·rw[decide_eq_true e];exact .inr ⟨w.2.2,p.2,rfl,rfl,r.inv.1⟩
  ·rw[decide_eq_false e];exact c0m h2 r.inv.2
 |[],_::_,h,_=>by simp at h
 |_::_,[],h,_=>by simp at h
theorem c4m{F:Hp}{k:TK}{ws:List (TK×V×V)}{kvs:List (TK×D)}(h:ws.map (·.1)=kvs.map (·.1))(r:RepL K F (ws.map (·.2.2)) (kvs.map (·.2))):(valX ws k).isSome=(valD kvs k).isSome:=by
 rcases c0m (k:=k) h r with⟨e1,e2⟩|⟨v,d,e1,e2,_⟩ <;> rw[e1,e2] <;> rfl
def oInG(neg:Bool):List O->Option O
 |[a,b]=>match dictO b with
  |some kvs=>(match a with
   |.frz d=>(keyD d).bind fun k=>some (.frz (.bl (if neg then !(valD kvs k).isSome else(valD kvs k).isSome)))
   |_=>none)
  |none=>(match a,b with
   |.frz (.str i),.frz (.str j)=>some (.frz (.bl (if neg then !(!(Builtin.Str.occurrences j i 0 j.length 1).isEmpty) else !(Builtin.Str.occurrences j i 0 j.length 1).isEmpty)))
   |a,b=>(seqO b.d).bind fun ds=>if okD 40 a.d=true/\ds.all (okD 40)=true then some (.frz (.bl (if neg then !ds.any fun z=>eqD z a.d else ds.any fun z=>eqD z a.d))) else none)
 |_=>none
theorem b4i(neg:Bool):OpOk K (r2L (rInA K neg)) (oInG neg):=by
 intro F H vs os o Q le see e res;unfold oInG at e;split at e
 ·rename_i a b
  obtain⟨x,y,B,C,rfl,h1,h2⟩:=see.two;cases q:dictO b with
  |some kvs=>
   rw[q] at e;dsimp only at e;cases a with
   |frz d=>
    dsimp only at e;cases q2:keyD d with
    |none=>rw[q2] at e;cases e
    |some k=>
     rw[q2] at e;cases e;obtain⟨p,ws,ep,rfl,hp,hk,rk,hr⟩:=d1w le h2 q;refine⟨_,_,rfl,.inr (.inr ⟨p,valX ws k,rfl,⟨ws,ep,k,hp,rk,by rw[(a7v q2).1];exact a3v le h1,(a7v q2).2,rfl⟩,?_⟩)⟩
     rw[c4m hk hr];exact res.flat rfl
   |_=>cases e
  |none=>
   rw[q] at e;dsimp only at e;split at e
   ·cases e;cases a0z h1 rfl;cases a0z h2 rfl;exact⟨_,_,rfl,.inr (.inl ⟨_,_,rfl,rfl,res.flat rfl⟩)⟩
   ·cases q3:seqO b.d with
    |none=>rw[q3] at e;cases e
    |some ds=>
     rw[q3] at e;dsimp only[Option.bind] at e;split at e
     ·rename_i hh
      cases e;exact⟨_,_,rfl,.inl ⟨_,_,ds,a3v le h1,a3v le h2,q3,hh.1,hh.2,res.flat rfl⟩⟩
     ·cases e
 ·cases e
def rIsA(neg:Bool):R2:=fun x y H Q=>(y=.non/\Q (.bl (if neg then !decide (x=.non) else decide (x=.non))) H)\/∃a b,x=.bl a/\y=.bl b/\Q (.bl (if neg then a != b else a == b)) H
theorem e0d:OpR X (compareOp .Is) (rIsA false):=op_isN.or d9o
def rIxA(K:L2.FG):R2:=fun x y H Q=>rIxL K x y H Q\/rIxT K x y H Q\/rIxS x y H Q\/∃a v,x=.ref a/\XGet K H a y (some v)/\Q v H
theorem d6k(hu:X.A.units+9 < cLine):IxR X (fun x y H Q=>∃a v,x=.ref a/\XGet X.K H a y (some v)/\Q v H):=by
 intro value slice pins s σ H x y v u Q I rx ry h hs;obtain⟨a,w,rfl,g,q⟩:=h;cases rx;exact tail_any (g.ty I).1 PySem.F.slot_dict_getitem.lookup (c7e hu I g ry fun w' s3 I3 rw'=>⟨w,H,I3,rw',q⟩) hs
theorem a3c(K:L2.FG)(hu:X.A.units+41 < cLine)(hK:X.K=K:=by rfl):IxR X (rIxA K):=by
 subst hK;exact(d1m X.K rfl).or ((d5s X.K rfl).or (ix_str.or (d6k (by omega))))
def unfrz:O->Option O
 |.frz d=>some (.frz d)
 |_=>none
def valO(kvs:List (TK×O))(k:TK):Option O:=(kvs.find? fun kv=>decide (kv.1=k)).map (·.2)
def intD:D->Option Int
 |.int k=>some k
 |_=>none
theorem a9g{i:D}{k:Int}(h:intD i=some k):i=.int k:=by
 cases i with
 |int _=>cases h;rfl
 |_=>cases h
def ixD(d i:D):Option O:=match d with
 |.lst ds=>(intD i).bind fun k=>(atI ds k).map .frz
 |.tup ds=>(intD i).bind fun k=>(atI ds k).map .frz
 |.scr ns=>(intD i).bind fun k=>(atI (ns.map D.int) k).map .frz
 |.str z=>(intD i).bind fun k=>if z.length<=1000000 then(atI z.cps.toList k).map fun c=>.frz (.str ⟨#[c]⟩) else none
 |.dct kvs=>(keyD i).bind fun k=>(valD kvs k).map .frz
 |_=>none
def oIx1(a:O)(i:D):Option O:=match a with
 |.frz d=>ixD d i
 |.lst os=>(intD i).bind fun k=>(atI os k).bind unfrz
 |.tup os=>(intD i).bind fun k=>(atI os k).bind unfrz
 |.dct kvs=>(keyD i).bind fun k=>(valO kvs k).bind unfrz
 |_=>none
def oIx:List O->Option O
 |[a,.frz i]=>oIx1 a i
 |_=>none
theorem c0n{F:Hp}{ws:List V}{ds:List D}{i:Int}{d:D}(r:RepL K F ws ds)(e:atI ds i=some d):∃v,atI ws i=some v/\RepL K F [v] [d]:=by
 unfold atI at e ⊢;rw[r.length];cases q:ixN ds.length i with
 |none=>rw[q] at e;cases e
 |some j=>
  rw[q] at e;exact r.get e
theorem c7i{F H:Hp}:∀{ws:List V} {os:List O} {B:List Addr} {j:Nat} {d:D},OwnL K F H (ws.map some) (os.map some) B->os[j]?=some (.frz d)->∃v,ws[j]?=some v/\RepL K F [v] [d]
 |w::ws,o::os,B,0,d,h,e=>by
  obtain⟨B1,B2,h1,h2,_⟩:=OwnL.one h;simp at e;subst e;cases h1 with
  |frz r _=>exact⟨w,rfl,r⟩
 |w::ws,o::os,B,j+1,d,h,e=>by
  obtain⟨B1,B2,h1,h2,_⟩:=OwnL.one h;obtain⟨v,g1,g2⟩:=c7i (j:=j) h2 (by simpa using e)
  exact⟨v,by simpa using g1,g2⟩
 |[],[],_,_,_,_,e=>by simp at e
 |[],_::_,_,_,_,h,_=>by have:=h.length;simp at this
 |_::_,[],_,_,_,h,_=>by have:=h.length;simp at this
theorem c7j{F H:Hp}{ws:List V}{os:List O}{B:List Addr}{i:Int}{o:O}(r:OwnL K F H (ws.map some) (os.map some) B)(e:(atI os i).bind unfrz=some o):∃v d,atI ws i=some v/\RepL K F [v] [d]/\o=.frz d:=by
 have hl:ws.length=os.length:=by have:=r.length;simpa using this
 unfold atI at e ⊢;rw[hl];cases q:ixN os.length i with
 |none=>rw[q] at e;cases e
 |some j=>
  rw[q] at e;dsimp only[Option.bind] at e;cases q2:os[j]? with
  |none=>rw[q2] at e;cases e
  |some o'=>
   rw[q2] at e;dsimp only at e;cases o' with
   |frz d=>cases e;obtain⟨v,g1,g2⟩:=c7i r q2;exact⟨v,d,g1,g2,rfl⟩
   |_=>cases e
theorem b6h{F H:Hp}{v:V}{d:D}{B:List Addr}(h:OwnL K F H [some v] [some (.frz d)] B):RepL K F [v] [d]:=by
 cases h with
 |frz r _=>exact r
theorem c7k{F H:Hp}{k:TK}{d:D}:∀{ws:List (TK×V×V)} {kvs:List (TK×O)} {B:List Addr},ws.map (·.1)=kvs.map (·.1)->OwnL K F H (ws.map fun p=>some p.2.2) (kvs.map fun p=>some p.2) B->valO kvs k=some (.frz d)->∃v,valX ws k=some v/\RepL K F [v] [d]
 |[],[],_,_,_,e=>by cases e
 |w::ws,p::kvs,B,h,r,e=>by
  rw[List.map_cons,List.map_cons] at h;injection h with h1 h2;obtain⟨B1,B2,g1,g2,_⟩:=OwnL.one r;unfold valO at e;unfold valX;rw[List.find?_cons] at e ⊢;rw[h1];by_cases q:p.1=k
  ·rw[decide_eq_true q] at e ⊢;have e:some p.2=some (.frz d):=e;injection e with e;have g1:OwnL K F H [some w.2.2] [some p.2] B1:=g1;rw[e] at g1;exact⟨w.2.2,rfl,b6h g1⟩
  ·rw[decide_eq_false q] at e ⊢;exact c7k h2 g2 e
 |[],_::_,_,h,_,_=>by simp at h
 |_::_,[],_,h,_,_=>by simp at h
theorem a1d:OpOk K (r2L (rIxA K)) oIx:=by
 intro F H vs os o Q le see e res;unfold oIx at e;split at e
 ·rename_i a i
  obtain⟨x,y,B,C,rfl,h1,h2⟩:=see.two;refine⟨_,_,rfl,?_⟩;cases h1 with
  |ins _ _ _ _ _=>cases e
  |@frz _ da _ _ _ r _=>
   cases r with
   |lst sq ri _=>
    obtain⟨k,hk,ee⟩:=Option.bind_eq_some_iff.mp (show(intD i).bind (fun k=>(atI _ k).map O.frz)=some o from e)
    cases a9g hk;cases a0z h2 rfl;obtain⟨d,q1,q2⟩:=Option.map_eq_some_iff.mp ee;subst q2;obtain⟨v,g1,g2⟩:=c0n ri q1;exact .inl ⟨_,_,_,v,rfl,rfl,.inl (le.rd sq),g1,res.frz g2⟩
   |exc _ _=>cases e
   |obj _=>cases e
   |@scr _ ns _ _ sq _=>
    obtain⟨k,hk,ee⟩:=Option.bind_eq_some_iff.mp (show(intD i).bind (fun k=>(atI (ns.map D.int) k).map O.frz)=some o from e)
    cases a9g hk;cases a0z h2 rfl;obtain⟨d,q1,q2⟩:=Option.map_eq_some_iff.mp ee;subst q2;obtain⟨v,g1,g2⟩:=c0n (b6b (K:=K) (F:=F) ns) q1;exact .inl ⟨_,_,_,v,rfl,rfl,le.seq sq,g1,res.frz g2⟩
   |tup sq ri _=>
    obtain⟨k,hk,ee⟩:=Option.bind_eq_some_iff.mp (show(intD i).bind (fun k=>(atI _ k).map O.frz)=some o from e)
    cases a9g hk;cases a0z h2 rfl;obtain⟨d,q1,q2⟩:=Option.map_eq_some_iff.mp ee;subst q2;obtain⟨v,g1,g2⟩:=c0n ri q1;exact .inr (.inl ⟨_,_,_,v,rfl,rfl,le.seqT sq,g1,res.frz g2⟩)
   |@dct _ ws es ep _ _ hd hk rk ri _=>
    obtain⟨k,q,e⟩:=Option.bind_eq_some_iff.mp (show(keyD i).bind (fun k=>(valD es k).map O.frz)=some o from e)
    obtain⟨d,q1,q2⟩:=Option.map_eq_some_iff.mp e;subst q2;rcases c0m (k:=k) hk ri with⟨_,z⟩|⟨v,d',g1,g2,g3⟩
    ·rw[q1] at z;cases z
    ·rw[q1] at g2;cases g2;exact .inr (.inr (.inr ⟨_,v,rfl,⟨ws,ep,k,le _ _ hd,by rw[c2l hk];exact rk.mono le,by rw[(a7v q).1];exact a3v le h2,(a7v q).2,g1.symm⟩,res.frz g3⟩))
   |flat z _=>
    cases da with
    |str zz=>
     obtain⟨k,hk,ee⟩:=Option.bind_eq_some_iff.mp (show(intD i).bind (fun k=>if zz.length<=1000000 then(atI zz.cps.toList k).map fun c=>O.frz (.str ⟨#[c]⟩) else none)=some o from e)
     cases a9g hk;split at ee
     ·obtain⟨c,q1,q2⟩:=Option.map_eq_some_iff.mp ee;subst q2;cases z;cases a0z h2 rfl;exact .inr (.inr (.inl ⟨_,_,c,rfl,rfl,ml (by assumption),q1,res.flat rfl⟩))
     ·cases ee
    |non=>cases e
    |bl _=>cases e
    |int _=>cases e
    |ty _=>cases e
    |_=>cases z
  |lst sq ri _=>
   obtain⟨k,hk,ee⟩:=Option.bind_eq_some_iff.mp (show(intD i).bind (fun k=>(atI _ k).bind unfrz)=some o from e)
   cases a9g hk;cases a0z h2 rfl;obtain⟨v,d,g1,g2,rfl⟩:=c7j ri ee;exact .inl ⟨_,_,_,v,rfl,rfl,SqL.of sq,g1,res.frz g2⟩
  |tup sq ri _=>
   obtain⟨k,hk,ee⟩:=Option.bind_eq_some_iff.mp (show(intD i).bind (fun k=>(atI _ k).bind unfrz)=some o from e)
   cases a9g hk;cases a0z h2 rfl;obtain⟨v,d,g1,g2,rfl⟩:=c7j ri ee;exact .inr (.inl ⟨_,_,_,v,rfl,rfl,SqT.of sq,g1,res.frz g2⟩)
  |@dct _ ws es ep _ _ _ _ hd hk rk ri _=>
   obtain⟨k,q,e⟩:=Option.bind_eq_some_iff.mp (show(keyD i).bind (fun k=>(valO es k).bind unfrz)=some o from e)
   obtain⟨o',q2,e⟩:=Option.bind_eq_some_iff.mp e;cases o' with
   |frz d=>
    cases e;obtain⟨v,g1,g2⟩:=c7k hk ri q2;exact .inr (.inr (.inr ⟨_,v,rfl,⟨ws,ep,k,hd,by rw[c2l hk];exact rk.mono le,by rw[(a7v q).1];exact a3v le h2,(a7v q).2,g1.symm⟩,res.frz g2⟩))
   |_=>cases e
 ·cases e
def rLenA(K:L2.FG):List V->Hp->VK->Prop:=fun xs H Q=>(∃p ys,xs=[.ref p]/\(SqL K H p ys\/SqT K H p ys)/\Q (.int ys.length) H)\/(∃z,xs=[.str z]/\z.length<=sizeLine/\Q (.int z.length) H)
theorem a2d(K:L2.FG)(hK:X.K=K:=by rfl):CallR X (.builtin "len") (rLenA K):=(b5v K hK).or b7z
def lenD:D->Option Int
 |.lst ds=>some ds.length
 |.tup ds=>some ds.length
 |.str z=>if z.length<=1000000 then some z.length else none
 |.scr ns=>some ns.length
 |_=>none
def oLen:List O->Option O
 |[a]=>(lenD a.d).map fun n=>.frz (.int n)
 |_=>none
theorem a4u:OpOk K (rLenA K) oLen:=by
 intro F H vs os o Q le see e res;unfold oLen at e;split at e
 ·rename_i a
  obtain⟨x,B,rfl,h1⟩:=see.one;obtain⟨n,q1,q2⟩:=Option.map_eq_some_iff.mp e;subst q2;have r:=a3v le h1;cases hd:a.d with
  |lst ds=>
   rw[hd] at q1 r;cases q1;cases r with
   |flat z _=>cases z
   |lst sq ri _=>exact .inl ⟨_,_,rfl,.inl (.inl sq),by rw[ri.length];exact res.flat rfl⟩
  |tup ds=>
   rw[hd] at q1 r;cases q1;cases r with
   |flat z _=>cases z
   |tup sq ri _=>exact .inl ⟨_,_,rfl,.inr sq,by rw[ri.length];exact res.flat rfl⟩
  |str z=>
   rw[hd] at q1 r;unfold lenD at q1;dsimp only at q1;split at q1
   ·cases q1;cases r with
    |flat z _=>cases z;exact .inr ⟨_,rfl,ml (by assumption),res.flat rfl⟩
   ·cases q1
  |scr ns=>
   rw[hd] at q1 r;cases q1;cases r with
   |flat z _=>cases z
   |scr sq _=>exact .inl ⟨_,_,rfl,.inl sq,by rw[List.length_map];exact res.flat rfl⟩
  |_=>rw[hd] at q1;cases q1
 ·cases e
def kindD:D->Option String
 |.non=>some "NoneType"
 |.bl _=>some "bool"
 |.int _=>some "int"
 |.str _=>some "str"
 |.lst _=>some "list"
 |.tup _=>some "tuple"
 |_=>none
def oIsi:List O->Option O
 |[a,.frz (.ty T)]=>if T="int"\/T="str"\/T="bool"\/T="list"\/T="tuple" then(kindD a.d).map fun k=>.frz (.bl (isiB k T)) else none
 |_=>none
theorem d1x{H:Hp}{x:V}{d:D}{k:String}(r:RepL K H [x] [d])(e:kindD d=some k):c1w K H x k:=by
 cases r with
 |flat q _=>cases d <;> cases e <;> cases q <;> rfl
 |lst sq _ _=>cases e;exact .inl ⟨rfl,_,.inl sq⟩
 |tup sq _ _=>cases e;exact .inr ⟨rfl,_,sq⟩
 |dct _ _ _ _ _=>cases e
 |scr _ _=>cases e
 |exc _ _=>cases e
 |obj _=>cases e
theorem d4g:OpOk K (fun xs H Q=>∃x k T,xs=[x,.ty T]/\c1w K H x k/\(T="int"\/T="str"\/T="bool"\/T="list"\/T="tuple")/\Q (.bl (isiB k T)) H) oIsi:=by
 intro F H vs os o Q le see e res;unfold oIsi at e;split at e
 ·split at e
  ·obtain⟨x,y,B,C,rfl,h1,h2⟩:=see.two;obtain⟨k,q1,q2⟩:=Option.map_eq_some_iff.mp e;subst q2;cases a0z h2 rfl;exact⟨x,k,_,rfl,d1x (a3v le h1) q1,by assumption,res.flat rfl⟩
  ·cases e
 ·cases e
def oInt1:List O->Option O
 |[.frz (.int i)]=>some (.frz (.int i))
 |[.frz (.bl b)]=>some (.frz (.int (if b then 1 else 0)))
 |_=>none
theorem b6i:OpOk K (fun xs H Q=>(∃i,xs=[.int i]/\Q (.int i) H)\/∃k,xs=[.bl k]/\Q (.int (if k then 1 else 0)) H) oInt1:=by
 intro F H vs os o Q le see e res;unfold oInt1 at e;split at e
 ·cases e;obtain⟨x,B,rfl,h1⟩:=see.one;cases a0z h1 rfl;exact .inl ⟨_,rfl,res.flat rfl⟩
 ·cases e;obtain⟨x,B,rfl,h1⟩:=see.one;cases a0z h1 rfl;exact .inr ⟨_,rfl,res.flat rfl⟩
 ·cases e
def seqA(o:O):Option (List D):=match listD o with
 |some ds=>some ds
 |none=>tupD o
def oList:List O->Option O
 |[a]=>(seqA a).map fun ds=>.lst (ds.map .frz)
 |_=>none
theorem c7l:OpOk K (fun xs H Q=>∃p ys,xs=[.ref p]/\(SqL K H p ys\/SqT K H p ys)/\∀l,H l=none->Q (.ref l) (upd H l (.lst ys))) oList:=by
 intro F H vs os o Q le see e res;unfold oList at e;split at e
 ·rename_i a
  obtain⟨x,B,rfl,h1⟩:=see.one;obtain⟨ds,q1,q2⟩:=Option.map_eq_some_iff.mp e;subst q2;unfold seqA at q1;cases q:listD a with
  |some ds'=>
   rw[q] at q1;cases q1;obtain⟨p,ws,rfl,sq,r⟩:=a8n le h1 q;exact⟨p,ws,rfl,.inl sq,fun l hl=>res.lst r hl⟩
  |none=>
   rw[q] at q1;obtain⟨p,ws,rfl,sq,r⟩:=c6t le h1 q1;exact⟨p,ws,rfl,.inr sq,fun l hl=>res.lst r hl⟩
 ·cases e
end
def MutOk(K:L2.FG)(r:V->List V->Hp->VK->Prop)(g:O->List O->Option (O×O)):Prop:=
 ∀(F H:Hp) (x:V) (vs:List V) (o:O) (os:List O) (o' res:O) (Ai Aτ:List Addr) (Q:VK),Same F H->OwnL K F H [some x] [some o] Ai->OwnL K F H (vs.map some) (os.map some) Aτ->(Ai++Aτ).Nodup->(∀a∈Ai++Aτ,F a=none)->
  g o os=some (o',res)->
  (∀v H' A' Ar,(∀a u,a∉Ai->H a=some u->H' a=some u)->(∀a,H a≠none->H' a≠none)->Att H H'->OwnL K F H' [some x] [some o'] A'->OwnL K F H' [some v] [some res] Ar->SubP (Ar++A') (Ai++Aτ)->Q v H')->r x vs H Q
def gMut(g:O->List O->Option (O×O))(fo:GE)(fs:GA):GE:=fun Γ=>(fo Γ).bind fun p=>match p.1 with
 |.var i=>match p.2[i]? with
  |some (some (.lst _))=>(fs p.2).bind fun q=>(ownL q.1).bind fun os=>match q.2[i]? with
   |some (some o)=>(g o os).bind fun z=>some (.own z.2,q.2.set i (some z.1))
   |_=>none
  |_=>none
 |_=>none
section
variable {K:L2.FG} {F H:Hp} {A:List Addr} {σ:St} {Γ:Gm}
theorem d1y{g:O->List O->Option (O×O)}{fo:GE}{fs:GA}{Γ Γ':Gm}{r:R}(e:gMut g fo fs Γ=some (r,Γ')):
  ∃i Γ1 ps rs Γ2 os o z,fo Γ=some (.var i,Γ1)/\Γ1[i]?=some (some (.lst ps))/\fs Γ1=some (rs,Γ2)/\ownL rs=some os/\Γ2[i]?=some (some o)/\g o os=some z/\r=.own z.2/\Γ'=Γ2.set i (some z.1):=by
 unfold gMut at e;cases q:fo Γ with
 |none=>rw[q] at e;cases e
 |some p=>
  obtain⟨r1,Γ1⟩:=p;rw[q] at e;dsimp only[Option.bind] at e;cases r1 with
  |own _=>cases e
  |fld _ _=>cases e
  |var i=>
   dsimp only at e;split at e
   ·rename_i ps h1
    cases q2:fs Γ1 with
    |none=>rw[q2] at e;cases e
    |some p2=>
     obtain⟨rs,Γ2⟩:=p2;rw[q2] at e;dsimp only at e;cases q3:ownL rs with
     |none=>rw[q3] at e;cases e
     |some os=>
      rw[q3] at e;dsimp only at e;split at e
      ·rename_i o h2
       cases q4:g o os with
       |none=>rw[q4] at e;cases e
       |some z=>rw[q4] at e;cases e;exact⟨i,Γ1,ps,rs,Γ2,os,o,z,rfl,h1,q2,q3,h2,q4,rfl,rfl⟩
      ·cases e
   ·cases e
theorem OK.mutate{vs:List V}{os:List O}{i:Nat}{x:V}{o o' res:O}{g:O->List O->Option (O×O)}{r:V->List V->Hp->VK->Prop}{Q:VK}(ok:MutOk K r g)(k:OK K F H (vs.map some++σ) (os.map some++Γ) A)(hx:σ[i]?=some (some x))(ho:Γ[i]?=some (some o))
  (hl:vs.length=os.length) (e:g o os=some (o',res)) (q:∀v H' A',Ext F H A F H' A'->OK K F H' (some v::σ) (some res::Γ.set i (some o')) A'->Q v H'):r x vs H Q:=by
 obtain⟨B,C,h1,h2,h3⟩:=OwnL.split (by simpa using hl) k.os
 subst h3;obtain⟨x',Ai,C',g1,g2,g3,g4⟩:=h2.take ho;rw[hx] at g1;cases g1;have p1:(B++C).Perm ((Ai++B)++C'):=by
  refine(List.Perm.append_left B g4).trans ?_;rw[<-List.append_assoc];exact List.perm_append_comm.append_right _
 have nd:((Ai++B)++C').Nodup:=p1.nodup_iff.mp k.nd;have fr:∀a∈(Ai++B)++C',F a=none:=fun a m=>k.fr a (p1.mem_iff.mpr m)
 obtain⟨n1,n2,n3⟩:=List.nodup_append.mp nd;have nC:∀a∈C',a∉Ai:=fun a m z=>n3 a (List.mem_append_left _ z) a m rfl
 refine ok F H x vs o os o' res Ai B Q k.le g2 h1 n1 (fun a m=>fr a (List.mem_append_left _ m)) e fun v H' A' Ar kp dm at' w1 w2 sp=>?_
 have s2:SubP ((Ar++A')++C') ((Ai++B)++C'):=sp.app (SubP.refl C');have hi:i < Γ.length:=(List.getElem?_eq_some_iff.mp ho).1;have g3':OwnL K F H' σ (Γ.set i none) C':=g3.keep (Same.refl _) fun a m u e=>kp a u (nC a m) e
 obtain⟨D,j1,C2,j2,j3⟩:=OwnL.put w1 i g3' (by rw[List.length_set];exact hi)
 rw[a5q hx,List.set_set] at j1;have s3:SubP (Ar++D) (B++C):=by
  have a1:SubP (Ar++D) (Ar++(A'++C')):=(SubP.refl Ar).app ((SubP.of_perm j2).trans ((SubP.refl A').app (.of_sub j3)));rw[<-List.append_assoc] at a1;exact a1.trans (s2.trans (.of_perm p1.symm))
 refine q v H' (Ar++D) ⟨Same.refl _,fun a u e n=>kp a u (fun m=>n (p1.mem_iff.mpr (by simp[m]))) e,dm,fun a h=>.inl h,fun a m=>.inl (s3.mem a m),at'⟩ ⟨fun a u e=>?_,w2.app j1,s3.nodup k.nd,fun a m=>k.fr a (s3.mem a m)⟩
 refine kp a u (fun m=>?_) (k.le a u e)
 rw[fr a (by simp[m])] at e
 cases e
end
section
variable {X:Cx} {K:L2.FG} {o e:Expr} {es:List Expr} {fo:GE} {fs:GA} {name:Str} {apos cpos:Pos} {id:String} {r:V->List V->Hp->VK->Prop} {g:O->List O->Option (O×O)}
theorem d4h(ok:MutOk K r g){σ:St}{H:Hp}{Q:VK}(t:tG K (gMut g fo fs) σ H Q):tBM K "list" r (tG K fo) (tGA K fs) σ H Q:=by
 obtain⟨F,A,Γ,rr,Γ',k,e,w⟩:=t;obtain⟨i,Γ1,ps,rs,Γ2,os,o,z,e1,e2,e3,e4,e5,e6,rfl,rfl⟩:=d1y e;refine⟨F,A,Γ,_,Γ1,k,e1,fun x H1 p=>?_⟩
 obtain⟨F1,A1,x1,k1,hh⟩:=p;have hx:σ[i]?=some (some x):=hh.1;obtain⟨k2,x2⟩:=k1.sub (σ':=σ) (Γ':=Γ1) (by cases k1.os with|skip t=>exact t) (SubP.refl _)
 refine⟨?_,F1,A1,Γ1,rs,Γ2,k2,e3,fun vs H2 p2=>?_⟩
 ·obtain⟨v,Ai,B,g1,g2,_⟩:=k2.os.take e2;rw[hx] at g1;cases g1;cases g2 with
  |lst hq _ _=>exact .inl ⟨rfl,_,SqL.of hq⟩
 ·obtain⟨F3,A3,x3,k3,h3⟩:=p2;rw[a5r e4] at k3;have hl:vs.length=os.length:=by
   have:=h3.length;have h4:=congrArg List.length (a5r e4);simp at h4;omega
  exact OK.mutate ok k3 hx e5 hl e6 fun v H' A' x4 k4=>w v H' ⟨F3,A',(x1.trans (x2.trans (x3.trans x4))),k4,True.intro⟩
theorem a6c(slot:Slot "list" name id)(hty:typeOf (.builtin id)=pure (.type "method_descriptor"))(hm:MtM X id r)(ok:MutOk K r g)(ho:PE X o (tG K fo))(ha:PA X (e::es) (tGA K fs))
  (hbase:attributeBase o name X.env (eval o X.env)=eval o X.env:=by rfl)
  (hfew:((backTo cpos (starEach (e::es) X.env)).all (fun x => !x.1) && (backToKw cpos (keywordEach [] X.env)).all (fun x=>x.1.isSome)
   && decide ((e::es).length+([]:List Keyword).length+(if([]:List Keyword).isEmpty then 0 else 1) < 30))=true:=by rfl)
  (hline:(apos.endLine == cpos.line)=true:=by rfl) (hs:starEach (e::es) X.env=(false,eval e X.env)::starEach es X.env:=by rfl) (hplain:(backTo cpos (starEach es X.env)).any (·.1)=false:=by rfl) (hK:X.K=K:=by rfl) :
  PE X (.Call (.Attribute o name apos) (e::es) [] cpos) (tG K (gMut g fo fs)):=by
 subst hK;exact(d9m PySem.F.plainAttrs_list slot hty hm ho ha hbase hfew hline hs hplain).mono fun _ _ _ t=>d4h ok t
theorem c7m(slot:Slot "list" name id)(hty:typeOf (.builtin id)=pure (.type "method_descriptor"))(hm:MtM X id r)(ok:MutOk K r g)(ho:PE X o (tG K fo))
  (hbase:attributeBase o name X.env (eval o X.env)=eval o X.env:=by rfl) (hline:(apos.endLine == cpos.line)=true:=by rfl) (hK:X.K=K:=by rfl) :
  PE X (.Call (.Attribute o name apos) [] [] cpos) (tG K (gMut g fo gaNil)):=by
 subst hK;refine(d3t PySem.F.plainAttrs_list slot hty hm ho hbase hline).mono fun σ H Q t=>?_
 have z:=d4h ok t;refine tG.mono z fun x H1 h=>⟨h.1,?_⟩
 obtain⟨F,A,Γ,rs,Γ',k,e,w⟩:=h.2;cases e;exact w [] H1 ⟨F,A,Ext.refl,k,True.intro⟩
end
section
variable {K:L2.FG} {F H:Hp} {l:Addr} {ws ws':List V} {ps ps':List O} {Ap A':List Addr}
theorem c4n(hn:l∉A')(h:OwnL K F H (ws'.map some) (ps'.map some) A'):OwnL K F (upd H l (.lst ws')) [some (.ref l)] [some (.lst ps')] (l::A'++[]):=
 .lst a1z (h.keep (Same.refl _) fun a m u e=>by rw[a0v (fun z=>hn (by rw[<-z];exact m):a≠l)];exact e) .nil
theorem c2m{o:HO}{Ai:List Addr}(hm:l∈Ai):∀a u,a∉Ai->H a=some u->upd H l o a=some u:=fun a u n e=>by
 rw[a0v (fun z=>n (by rw[z];exact hm):a≠l)];exact e
theorem c0o{o:HO}:∀a,H a≠none->upd H l o a≠none:=fun a h=>by
 by_cases z:a=l
 ·rw[z,a1z];exact fun z=>by cases z
 ·rw[a0v z];exact h
theorem a9z{x:V}{Ai Aτ:List Addr}{Q:VK}{o:O}(h:OwnL K F H [some x] [some o] Ai)(hps:o=.lst ps)(nd:(Ai++Aτ).Nodup){o' res:O}
  (q:∀v H' A' Ar,(∀a u,a∉Ai->H a=some u->H' a=some u)->(∀a,H a≠none->H' a≠none)->Att H H'->OwnL K F H' [some x] [some o'] A'->OwnL K F H' [some v] [some res] Ar->SubP (Ar++A') (Ai++Aτ)->Q v H') :
  ∃l ws Ap,x=.ref l/\H l=some (.lst ws)/\OwnL K F H (ws.map some) (ps.map some) Ap/\(Ap++Aτ).Nodup/\∀ws' ps' A' v Ar,o'=.lst ps'->OwnL K F H (ws'.map some) (ps'.map some) A'->OwnL K F H [some v] [some res] Ar->SubP (Ar++A') (Ap++Aτ)->Q v (upd H l (.lst ws')):=by
 subst hps;cases h with
 |@lst l ws _ Ap B _ _ hl i t=>
  have eB:B=[]:=by cases t;rfl
  subst eB;rw[List.append_nil] at nd q;obtain⟨nl,nd'⟩:=List.nodup_cons.mp (by simpa using nd:(l::(Ap++Aτ)).Nodup)
  refine⟨l,ws,Ap,rfl,hl,i,nd',fun ws' ps' A' v Ar eo w1 w2 sp=>?_⟩
  subst eo;have nA:l∉A':=fun m=>nl (sp.mem l (List.mem_append_right _ m))
  have nR:l∉Ar:=fun m=>nl (sp.mem l (List.mem_append_left _ m))
  refine q v _ _ Ar (c2m (by simp)) c0o (.upd fun C dx fs z=>by rw[hl] at z;cases z) (c4n nA w1) (w2.keep (Same.refl _) fun a m u e=>by rw[a0v (fun z=>nR (by rw[<-z];exact m):a≠l)];exact e) ?_
  rw[List.append_nil];have s1:SubP (Ar++l::A') (l::(Ar++A')):=.of_perm (by simpa using List.perm_middle)
  refine s1.trans ?_;obtain⟨L,p1,p2⟩:=sp;exact⟨l::L,p1.cons l,by rw[List.cons_append];exact p2.cons_cons l⟩
theorem b1m:OwnL K F H [some .non] [some (.frz .non)] []:=.frz (.flat rfl .nil) .nil
def a2w:O->List O->Option (O×O)
 |.lst ps,[y]=>if ps.length < 1000000 then some (.lst (ps++[y]),.frz .non) else none
 |_,_=>none
theorem a3w:MutOk K c5z a2w:=by
 intro F H x vs o os o' res Ai Aτ Q le h1 h2 nd fr e q;unfold a2w at e;split at e
 ·rename_i ps y
  split at e
  ·rename_i hz
   cases e;obtain⟨l,ws,Ap,rfl,hl,i,nd',go⟩:=a9z h1 rfl nd q
   match vs,h2 with
   |[v],h2=>
    have hlen:ws.length=ps.length:=by have:=i.length;simpa using this
    refine⟨l,ws,v,rfl,rfl,hl,Nat.lt_of_lt_of_le (by omega:ws.length < 1000000) (by decide),?_⟩
    refine go (ws++[v]) (ps++[y]) (Ap++Aτ) .non [] rfl ?_ b1m (SubP.refl _);rw[List.map_append,List.map_append];exact i.app h2
   |[],h2=>have:=h2.length;simp at this
   |_::_::_,h2=>have:=h2.length;simp at this
  ·cases e
 ·cases e
def a4j:O->List O->Option (O×O)
 |.lst ps,[.frz (.int i),y]=>if 0<=i/\i < 1000000/\ps.length < 1000000 then some (.lst (ps.take i.toNat++y::ps.drop i.toNat),.frz .non) else none
 |_,_=>none
theorem b0a:MutOk K c6g a4j:=by
 intro F H x vs o os o' res Ai Aτ Q le h1 h2 nd fr e q;unfold a4j at e;split at e
 ·rename_i ps k y
  split at e
  ·rename_i hz
   cases e;obtain⟨l,ws,Ap,rfl,hl,i,nd',go⟩:=a9z h1 rfl nd q
   match vs,h2 with
   |[v,v'],h2=>
    have hlen:ws.length=ps.length:=by have:=i.length;simpa using this
    obtain⟨rfl,h3⟩:=a9d h2;refine⟨l,ws,k,v',rfl,rfl,hl,hz.1,by omega,Nat.lt_of_lt_of_le (by omega:ws.length < 1000000) (by decide),?_⟩
    have es:OwnL K F H ((ws.take k.toNat).map some++(ws.drop k.toNat).map some) ((ps.take k.toNat).map some++(ps.drop k.toNat).map some) Ap:=by
     rw[<-List.map_append,<-List.map_append,List.take_append_drop,List.take_append_drop];exact i
    obtain⟨B,C,g1,g2,g3⟩:=OwnL.split (by simp[hlen]) es
    subst g3;refine go (insV ws k.toNat v') (ps.take k.toNat++y::ps.drop k.toNat) (B++(Aτ++C)) .non [] rfl ?_ b1m ?_
    ·unfold insV;rw[List.map_append,List.map_append,List.map_cons,List.map_cons];exact g1.app (h3.app g2)
    ·rw[List.nil_append,List.append_assoc];exact(SubP.refl B).app (.of_perm List.perm_append_comm)
   |[],h2=>have:=h2.length;simp at this
   |[_],h2=>have:=h2.length;simp at this
   |_::_::_::_,h2=>have:=h2.length;simp at this
  ·cases e
 ·cases e
def b3f:O->List O->Option (O×O)
 |.lst _,[]=>some (.lst [],.frz .non)
 |_,_=>none
theorem b6j:MutOk K d3u b3f:=by
 intro F H x vs o os o' res Ai Aτ Q le h1 h2 nd fr e q;unfold b3f at e;split at e
 ·cases e;obtain⟨l,ws,Ap,rfl,hl,i,nd',go⟩:=a9z h1 rfl nd q
  match vs,h2 with
  |[],h2=>exact⟨l,ws,rfl,rfl,hl,go [] [] [] .non [] rfl .nil b1m (.of_sub (List.nil_sublist _))⟩
  |_::_,h2=>have:=h2.length;simp at this
 ·cases e
end
def rSetA(K:L2.FG):TSet:=fun o i v H Q=>rSetL o i v H Q\/∃a H4,o=.ref a/\XPut K H a i v H4/\Q H4
theorem e0e{X:Cx}(hu:X.A.units+41 < cLine):PSet X (rSetA X.K):=by
 intro pins s σ H o i v ov iv u Q I ro ri rv h;rcases h with h|⟨a,H4,rfl,g,q⟩
 ·exact d1h pins s σ H o i v ov iv u Q I ro ri rv h
 ·cases ro;exact c7h (by omega) I g ri rv fun s4 I4=>⟨H4,I4,q⟩
def putG{α:Type}:List (TK×α)->TK->α->List (TK×α)
 |[],k,v=>[(k,v)]
 |e::es,k,v=>if e.1=k then(e.1,v)::es else e::putG es k v
def setO(v:O)(i:D):O->Option (O×O)
 |.lst ps=>(intD i).bind fun k=>(ixN ps.length k).map fun j=>(.lst (ps.set j v),.frz .non)
 |.dct kvs=>(keyD i).bind fun k=>if kvs.length < 1000000 then some (.dct (putG kvs k v),.frz .non) else none
 |_=>none
def mSet(o:O):List O->Option (O×O)
 |[v,.frz i]=>setO v i o
 |_=>none
def rSetM(K:L2.FG):V->List V->Hp->VK->Prop:=fun x vs H Q=>∃v i,vs=[v,i]/\rSetA K x i v H fun H'=>Q .non H'
section
variable {K:L2.FG} {F H:Hp}
theorem c2n{k:TK}{y v:V}{o:O}{Bv:List Addr}(q:OwnL K F H [some v] [some o] Bv)(ry:RepL K F [y] [k.d]):∀{ws:List (TK×V×V)} {kvs:List (TK×O)} {B:List Addr},ws.map (·.1)=kvs.map (·.1)->RepL K F (ws.map (·.2.1)) (kvs.map (·.1.d))->
  OwnL K F H (ws.map fun p=>some p.2.2) (kvs.map fun p=>some p.2) B->∃C,OwnL K F H ((putX ws k y v).map fun p=>some p.2.2) ((putG kvs k o).map fun p=>some p.2) C/\SubP C (Bv++B)/\(putX ws k y v).map (·.1)=(putG kvs k o).map (·.1)/\
   RepL K F ((putX ws k y v).map (·.2.1)) ((putG kvs k o).map (·.1.d))
 |[],[],B,_,_,h=>⟨Bv,q,.of_sub (List.sublist_append_left _ _),rfl,ry⟩
 |w::ws,p::kvs,B,hk,rk,h=>by
  rw[List.map_cons,List.map_cons] at hk;injection hk with h1 h2;obtain⟨B1,B2,g1,g2,rfl⟩:=OwnL.one h;unfold putX putG;rw[h1];by_cases e:p.1=k
  ·rw[if_pos e,if_pos e];refine⟨Bv++B2,OwnL.app (τ:=[some v]) (Θ:=[some o]) q g2,.of_sub ((List.Sublist.refl _).append (List.sublist_append_right _ _)),?_,?_⟩
   ·simp only[List.map_cons,h2]
   ·simp only[List.map_cons];exact rk
  ·rw[if_neg e,if_neg e];obtain⟨C,j1,j2,j3,j4⟩:=c2n q ry h2 rk.inv.2 g2;refine⟨B1++C,OwnL.app (τ:=[some w.2.2]) (Θ:=[some p.2]) g1 j1,?_,?_,?_⟩
   ·refine((SubP.refl B1).app j2).trans (.of_perm ?_);rw[<-List.append_assoc,<-List.append_assoc];exact List.perm_append_comm.append_right _
   ·simp only[List.map_cons,h1,j3]
   ·exact .cons rk.inv.1 j4
 |[],_::_,_,h,_,_=>by simp at h
 |_::_,[],_,h,_,_=>by simp at h
theorem d6l{F H:Hp}{v:V}{kvs:List (TK×O)}{A:List Addr}(h:OwnL K F H [some v] [some (.dct kvs)] A):∃a ws ep Ap,v=.ref a/\A=a::Ap/\H a=some (.dG ws ep)/\ws.map (·.1)=kvs.map (·.1)/\RepL K F (ws.map (·.2.1)) (kvs.map (·.1.d))/\OwnL K F H (ws.map fun p=>some p.2.2) (kvs.map fun p=>some p.2) Ap:=by
 cases h with
 |@dct a ws _ ep Ap B _ _ hl hk rk ch t=>
  cases t;exact⟨a,ws,ep,Ap,rfl,List.append_nil _,hl,hk,rk,ch⟩
theorem d4i:MutOk K (rSetM K) mSet:=by
 intro F H x vs o os o' res Ai Aτ Q le h1 h2 nd fr e q;unfold mSet at e;split at e
 case h_2=>cases e
 rename_i ov i
 unfold setO at e;split at e
 ·rename_i ps
  obtain⟨k,hk,e⟩:=Option.bind_eq_some_iff.mp e;cases a9g hk;obtain⟨j,e1,e2⟩:=Option.map_eq_some_iff.mp e;cases e2;obtain⟨l,ws,Ap,rfl,hl,i,nd',go⟩:=a9z h1 rfl nd q;obtain⟨v,v',rfl⟩:=d9z (l:=vs) (by have:=h2.length;simp at this;omega)
  have hlen:ws.length=ps.length:=by have:=i.length;simpa using this
  obtain⟨B1,B2,g1,g2,rfl⟩:=OwnL.one h2;obtain⟨rfl,g3⟩:=a9d g2;cases g3;have hj:j < ps.length:=(c0d e1).2.1;refine⟨v,.int k,rfl,.inl ⟨l,ws,k,j,rfl,rfl,hl,by rw[hlen];exact e1,?_⟩⟩
  obtain⟨D,j1,C2,j2,j3⟩:=OwnL.put g1 j i (by simpa using hj)
  refine go (ws.set j v) (ps.set j ov) D .non [] rfl (by rw[List.map_set,List.map_set];exact j1) b1m ?_
  rw[List.nil_append,List.append_nil];exact((SubP.of_perm j2).trans ((SubP.refl B1).app (.of_sub j3))).trans (.of_perm List.perm_append_comm)
 ·rename_i kvs
  cases q1:keyD i with
  |none=>rw[q1] at e;cases e
  |some k=>
   rw[q1] at e;dsimp only[Option.bind] at e;split at e
   ·rename_i hz
    cases e;obtain⟨v,v',rfl⟩:=d9z (l:=vs) (by have:=h2.length;simp at this;omega)
    obtain⟨B1,B2,g1,g2,rfl⟩:=OwnL.one h2;have ry:RepL K F [v'] [k.d]:=by rw[(a7v q1).1];exact b6h g2
    obtain⟨l,ws,ep,Ap,rfl,rfl,hl,hk,rk,ch⟩:=d6l h1;obtain⟨C,j1,j2,j3,j4⟩:=c2n (k:=k) g1 ry hk rk ch;have hlen:ws.length=kvs.length:=by have:=congrArg List.length hk;simpa using this
    have nd1:(l::(Ap++(B1++B2))).Nodup:=by simpa using nd
    have nC:l∉C:=fun m=>(List.nodup_cons.mp nd1).1 (by
     rcases List.mem_append.mp (j2.mem l m) with z|z
     ·simp[z]
     ·simp[z])
    refine⟨v,v',rfl,.inr ⟨l,_,rfl,⟨ws,ep,k,hl,by rw[c2l hk];exact rk.mono le,ry.mono le,(a7v q1).2,Nat.lt_of_lt_of_le (by omega:ws.length < 1000000) (by decide),rfl⟩,?_⟩⟩
    refine q .non _ (l::C++[]) [] (c2m (by simp)) c0o (.upd fun C dx fs z=>by rw[hl] at z;cases z) (.dct a1z j3 j4 (j1.keep (Same.refl _) fun a m u e=>by rw[a0v (fun z=>nC (by rw[<-z];exact m):a≠l)];exact e) .nil) b1m ?_
    rw[List.nil_append,List.append_nil];refine((SubP.refl [l]).app j2).trans ⟨l::(Ap++B1),?_,?_⟩
    ·show(l::(B1++Ap)).Perm _;exact List.perm_append_comm.cons l
    ·exact((List.Sublist.refl Ap).append (List.sublist_append_left B1 B2)).cons_cons l
   ·cases e
 ·cases e
end
def gsPut(fv fo fi:GE):GS:=fun Γ=>(fv Γ).bind fun p=>(fo p.2).bind fun q=>(fi q.2).bind fun r=>match p.1,q.1,r.1 with
 |.own v,.var i,.own y=>match r.2[i]? with
  |some (some o)=>(mSet o [v,y]).bind fun z=>some (.nx,r.2.set i (some z.1))
  |_=>none
 |_,_,_=>none
section
variable {X:Cx} {K:L2.FG} {m:List Bool} {W:Option XW} {e o i:Expr} {fv fo fi:GE} {pos pos':Pos}
theorem c7n{Γ Γ':Gm}{fl:Fl}(e:gsPut fv fo fi Γ=some (fl,Γ')):∃v Γ1 j Γ2 y Γ3 o z,fv Γ=some (.own v,Γ1)/\fo Γ1=some (.var j,Γ2)/\fi Γ2=some (.own y,Γ3)/\Γ3[j]?=some (some o)/\mSet o [v,y]=some z/\fl=.nx/\Γ'=Γ3.set j (some z.1):=by
 unfold gsPut at e;cases q1:fv Γ with
 |none=>rw[q1] at e;cases e
 |some p=>
  obtain⟨r1,Γ1⟩:=p;rw[q1] at e;dsimp only[Option.bind] at e;cases q2:fo Γ1 with
  |none=>rw[q2] at e;cases e
  |some p=>
   obtain⟨r2,Γ2⟩:=p;rw[q2] at e;dsimp only at e;cases q3:fi Γ2 with
   |none=>rw[q3] at e;cases e
   |some p=>
    obtain⟨r3,Γ3⟩:=p;rw[q3] at e;dsimp only at e;cases r1 with
    |var _=>cases e
    |fld _ _=>cases e
    |own v=>
     cases r2 with
     |own _=>cases e
     |fld _ _=>cases e
     |var j=>
      cases r3 with
      |var _=>cases e
      |fld _ _=>cases e
      |own y=>
       dsimp only at e;split at e
       ·rename_i oo h
        cases q4:mSet oo [v,y] with
        |none=>rw[q4] at e;cases e
        |some z=>rw[q4] at e;cases e;exact⟨v,Γ1,j,Γ2,y,Γ3,oo,z,rfl,q2,q3,h,q4,rfl,rfl⟩
       ·cases e
theorem b8n(he:PE X e (tG K fv))(ho:PE X o (tG K fo))(hi:PE X i (tG K fi))(hu:X.A.units+41 < cLine)
  (ha:∀v,assign (.Subscript o i pos') X.env v=(do
   let ov <-holding [v] (eval o X.env)
   let iv <-holding [v,ov] (eval i X.env)
   standAt pos'
   holding [v,ov,iv] (setItem ov iv v)
   release [v,ov,iv] []):=by intro _;rfl)
  (hs:swapsWithSole [.Subscript o i pos'] e pos.line X.env=pure false:=by rfl) (hw:swappedStores [.Subscript o i pos'] e X.env=pure none:=by rfl)
  (h1:(assignEach [.Subscript o i pos'] X.env).map (·.2)=[assign (.Subscript o i pos') X.env]:=by rfl) (hK:X.K=K:=by rfl):PS X (.Assign [.Subscript o i pos'] e pos) (tS K m W (gsPut fv fo fi)):=by
 subst hK;refine(d3q he (d3p ho hi (e0e hu) ha) hs hw h1).mono fun D σ H t=>?_
 obtain⟨F,A,Γ,fl,Γ',k,e,w⟩:=t;obtain⟨v,Γ1,j,Γ2,y,Γ3,oo,z,e1,e2,e3,e4,e5,rfl,rfl⟩:=c7n e;have t:tGA X.K (a0a fv (a0a fo (a0a fi gaNil))) σ H fun vs H'=>∃a b c,vs=[a,b,c]/\rSetA X.K b c a H' fun H4=>D.nx σ H4:=by
  refine⟨F,A,Γ,[.own v,.var j,.own y],Γ3,k,?_,fun vs H1 p=>?_⟩
  ·unfold a0a;simp only[e1,e2,e3,Option.bind,gaNil]
  ·obtain⟨F1,A1,x,k1,hh⟩:=p;obtain⟨a,b,c,rfl⟩:=e0a hh.length;refine⟨a,b,c,rfl,?_⟩;have hx:σ[j]?=some (some b):=hh.1;have k2:OK X.K F1 H1 ([a,c].map some++σ) ([v,y].map some++Γ3) A1:=by
    obtain⟨B1,C1,g1,g2,g3⟩:=OwnL.one (σ:=some b::some c::σ) (Γ:=none::some y::Γ3) k1.os;cases g2 with
    |skip g2=>subst g3;exact⟨k1.le,g1.app g2,k1.nd,k1.fr⟩
   have z':=OK.mutate (r:=rSetM X.K) (g:=mSet) (Q:=fun _ H4=>D.nx σ H4) (o':=z.1) (res:=z.2) d4i k2 hx e4 rfl e5 fun v' H' A' x4 k4=>by
    obtain⟨B2,k5,sub⟩:=OK.part (τ:=[some v']) (Θ:=[some z.2]) k4 rfl;exact w σ H' ⟨F1,B2,(x.trans x4).own' sub,k5,Kept.refl⟩
   obtain⟨v',i',ee,q⟩:=z';cases ee;exact q
 have t1:=a7c t;refine tG.mono t1 fun a H1 h=>tG.mono (a7c h) fun b H2 h2=>tG.mono (a7c h2) fun c H3 h3=>?_
 obtain⟨F,A,Γ,rs,Γ',k,e,w⟩:=h3;cases e;obtain⟨a',b',c',ee,q⟩:=w [] H3 ⟨F,A,Ext.refl,k,True.intro⟩;cases ee;exact q
end
abbrev GO:=Gm->Option (Option Int×Gm)
def tGO(K:L2.FG)(f:GO):TO:=fun σ H Q=>∃F A Γ b Γ',OK K F H σ Γ A/\f Γ=some (b,Γ')/\∀H',Post K F H A σ Γ' [] [] H'->Q b H'
def b0b:GO:=fun Γ=>some (none,Γ)
def intR:R->Option Int
 |.own (.frz (.int i))=>some i
 |_=>none
def a8x(f:GE):GO:=fun Γ=>(f Γ).bind fun p=>(intR p.1).map fun i=>(some i,p.2)
section
variable {X:Cx} {K:L2.FG} {e:Expr} {fa:GE} {lo hi:Option Expr} {fl fh:GO} {pos p2:Pos}
theorem b1n:PO X none (tGO K b0b):=by
 intro pins s σ H Q I t;refine d5l pins s σ H Q I ?_;obtain⟨F,A,Γ,b,Γ',k,e,w⟩:=t;cases e;exact w H ⟨F,A,Ext.refl,k,True.intro⟩
theorem b1o(h:PE X e (tG K fa)):PO X (some e) (tGO K (a8x fa)):=by
 intro pins s σ H Q I t;refine d5m h pins s σ H Q I ?_;obtain⟨F,A,Γ,b,Γ',k,e,w⟩:=t;unfold a8x at e;cases q:fa Γ with
 |none=>rw[q] at e;cases e
 |some p=>
  obtain⟨r,Γ1⟩:=p;rw[q] at e;obtain⟨i,e1,e2⟩:=Option.map_eq_some_iff.mp e;cases e2;have er:r=.own (.frz (.int i)):=by
   unfold intR at e1;split at e1
   ·rename_i hh;cases e1;exact hh
   ·cases e1
  subst er;exact⟨F,A,Γ,_,_,k,q,fun v H' pp=>⟨i,pp.flat rfl,w H' pp.drop⟩⟩
def cutD(ds:List D)(lo hi:Option Int):List D:=(ds.drop (HT.sIx ds.length 0 lo)).take (HT.sIx ds.length ds.length hi - HT.sIx ds.length 0 lo)
def slO(o:O)(lo hi:Option Int):Option O:=match o,listD o,tupD o with
 |.frz (.str z),_,_=>if z.length<=1000000 then some (.frz (.str (Txt.slice z lo hi))) else none
 |_,some ds,_=>some (.lst ((cutD ds lo hi).map .frz))
 |_,none,some ds=>if HT.sIx ds.length 0 lo=0/\HT.sIx ds.length ds.length hi=ds.length then none else some (.tup ((cutD ds lo hi).map .frz))
 |_,_,_=>none
def rSlA(K:L2.FG):V->Option Int->Option Int->Hp->VK->Prop:=fun x lo hi H Q=>rSlS x lo hi H Q\/rSlL K x lo hi H Q\/rSlT K x lo hi H Q
theorem sl_A(K:L2.FG)(hK:X.K=K:=by rfl):SlR X (rSlA K):=sl_str.or ((d1n K hK).or (d5t K hK))
theorem e1p{F H:Hp}{x:V}{o o':O}{B:List Addr}{Q:VK}{lo hi:Option Int}(le:Same F H)(h:OwnL K F H [some x] [some o] B)(e:slO o lo hi=some o')(res:Res K F H o' Q):rSlA K x lo hi H Q:=by
 unfold slO at e;split at e
 ·split at e
  ·cases e;cases a0z h rfl;exact .inl ⟨_,rfl,ml (by assumption),res.flat rfl⟩
  ·cases e
 ·rename_i ds _ _ q1 _
  cases e;obtain⟨a,ws,rfl,sq,r⟩:=a8n le h (by assumption)
  refine .inr (.inl ⟨a,ws,rfl,sq,fun p hp=>res.lst ?_ hp⟩)
  unfold cutV cutD;rw[r.length];exact(r.drop _).take _
 ·split at e
  ·cases e
  ·rename_i hne
   cases e;obtain⟨a,ws,rfl,sq,r⟩:=c6t le h (by assumption)
   refine .inr (.inr ⟨a,ws,rfl,sq,by rw[r.length];exact hne,fun p hp=>res.tup ?_ hp⟩)
   unfold cutV cutD;rw[r.length];exact(r.drop _).take _
 ·cases e
def a7w(f:GE)(lo hi:GO):GE:=fun Γ=>(f Γ).bind fun p=>(lo p.2).bind fun q=>(hi q.2).bind fun r=>(seeR r.2 p.1).bind fun o=>(slO o q.1 r.1).bind fun o'=>some (.own o',r.2)
theorem c4o{Γ Γ':Gm}{r:R}(e:a7w fa fl fh Γ=some (r,Γ')):∃r1 Γ1 l Γ2 u o o',fa Γ=some (r1,Γ1)/\fl Γ1=some (l,Γ2)/\fh Γ2=some (u,Γ')/\seeR Γ' r1=some o/\slO o l u=some o'/\r=.own o':=by
 unfold a7w at e;cases q1:fa Γ with
 |none=>rw[q1] at e;cases e
 |some p=>
  rw[q1] at e;dsimp only[Option.bind] at e;cases q2:fl p.2 with
  |none=>rw[q2] at e;cases e
  |some q=>
   rw[q2] at e;dsimp only at e;cases q3:fh q.2 with
   |none=>rw[q3] at e;cases e
   |some w=>
    rw[q3] at e;dsimp only at e;cases q4:seeR w.2 p.1 with
    |none=>rw[q4] at e;cases e
    |some o=>
     rw[q4] at e;dsimp only at e;cases q5:slO o q.1 w.1 with
     |none=>rw[q5] at e;cases e
     |some o'=>rw[q5] at e;cases e;exact⟨p.1,p.2,q.1,q.2,w.1,o,o',rfl,q2,q3,q4,q5,rfl⟩
theorem a8o(he:PE X e (tG K fa))(hl:PO X lo (tGO K fl))(hu:PO X hi (tGO K fh))(hK:X.K=K:=by rfl):PE X (.Subscript e (.Slice lo hi none p2) pos) (tG K (a7w fa fl fh)):=by
 refine(d1g (sl_A K hK) he hl hu).mono fun σ H Q t=>?_
 obtain⟨F,A,Γ,rr,Γ',k,e,w⟩:=t;obtain⟨r1,Γ1,l,Γ2,u,o,o',e1,e2,e3,e4,e5,rfl⟩:=c4o e;refine⟨F,A,Γ,r1,Γ1,k,e1,fun v H1 p=>?_⟩
 obtain⟨F1,A1,x1,k1,hh⟩:=p;obtain⟨C,kC,fr⟩:=OK.frame (τ:=[some v]) (Θ:=[r1.o]) k1 rfl;refine⟨F1,C,Γ1,l,Γ2,kC,e2,fun H2 p2=>?_⟩
 obtain⟨F2,A2,x2,k2,_⟩:=p2;obtain⟨A3,x3,k3⟩:=fr _ _ _ _ _ x2 k2;obtain⟨C2,kC2,fr2⟩:=OK.frame (τ:=[some v]) (Θ:=[r1.o]) k3 rfl;refine⟨F2,C2,Γ2,u,Γ',kC2,e3,fun H3 p3=>?_⟩
 obtain⟨F4,A4,x4,k4,_⟩:=p3;obtain⟨A5,x5,k5⟩:=fr2 _ _ _ _ _ x4 k4;have pp:Post K F H A σ Γ' [r1] [v] H3:=⟨F4,A5,x1.trans (x3.trans x5),k5,hh.att (x3.trans x5).att⟩;obtain⟨F6,le,see,res⟩:=pp.res (os:=[o]) (o:=o') (by unfold seeL;rw[e4];rfl) w
 obtain⟨x,B,ev,h1⟩:=see.one;cases ev;exact e1p le h1 e5 res
end
def capIn:List Nat->Gm->Gm×Gm
 |[],Γ=>([],Γ)
 |i::cap,Γ=>let p:=capIn cap (Γ.set i none);((Γ[i]?).join::p.1,p.2)
def a8y:List Nat->Gm->Gm->Gm
 |i::cap,x::Γi,Γ=>(a8y cap Γi Γ).set i x
 |_,_,Γ=>Γ
def compLoop(g:GG)(ct:GT)(ce:GE):List D->Gm->List O->Option (List O×Gm)
 |[],Γ,acc=>some (acc,Γ)
 |d::ds,Γ,acc=>(g d Γ).bind fun Γ1=>(ct Γ1).bind fun p=>if p.1=true then
   (ce p.2).bind fun q=>(ownL [q.1]).bind fun os=>if acc.length < 1000000 then compLoop g ct ce ds q.2 (acc++os) else none
  else compLoop g ct ce ds p.2 acc
section
variable {K:L2.FG} {F H:Hp} {σ:St}
theorem c2o:∀{cap:List Nat} {Γ:Gm} {C:List Addr},OwnL K F H σ Γ C->∃B C',OwnL K F H (cap.map fun i=>(σ[i]?).join) (capIn cap Γ).1 B/\OwnL K F H σ (capIn cap Γ).2 C'/\SubP (B++C') C
 |[],Γ,C,h=>⟨[],C,.nil,h,SubP.refl _⟩
 |i::cap,Γ,C,h=>by
  cases q:Γ[i]? with
  |none=>
   obtain⟨C1,g1,g2⟩:=OwnL.forget i h;obtain⟨B,C',j1,j2,j3⟩:=c2o (cap:=cap) g1;refine⟨B,C',?_,j2,j3.trans (.of_sub g2)⟩;unfold capIn;simp only[q,List.map_cons];exact .skip j1
  |some z=>
   cases z with
   |none=>
    obtain⟨C1,g1,g2⟩:=OwnL.forget i h;obtain⟨B,C',j1,j2,j3⟩:=c2o (cap:=cap) g1;refine⟨B,C',?_,j2,j3.trans (.of_sub g2)⟩;unfold capIn;simp only[q,List.map_cons];exact .skip j1
   |some o=>
    obtain⟨v,Ai,C1,g1,g2,g3,g4⟩:=h.take q;obtain⟨B,C',j1,j2,j3⟩:=c2o (cap:=cap) g3;refine⟨Ai++B,C',?_,j2,?_⟩
    ·unfold capIn;simp only[q,List.map_cons,g1];exact g2.app j1
    ·rw[List.append_assoc];exact((SubP.refl Ai).app j3).trans (.of_perm g4.symm)
theorem c7o:∀{cap:List Nat} {τ:St} {Γi Γ:Gm} {B C:List Addr},OwnL K F H τ Γi B->OwnL K F H σ Γ C->τ=(cap.map fun i=>(σ[i]?).join)->∃D,OwnL K F H σ (a8y cap Γi Γ) D/\SubP D (B++C)
 |[],_,Γi,Γ,B,C,h1,h2,e=>by
  subst e;cases h1;exact⟨C,h2,.of_sub (List.sublist_append_right _ _)⟩
 |i::cap,τ,[],Γ,B,C,h1,h2,e=>by subst e;have:=h1.length;simp at this
 |i::cap,τ,x::Γi,Γ,B,C,h1,h2,e=>by
  subst e;obtain⟨B1,B2,g1,g2,rfl⟩:=OwnL.one h1;obtain⟨D,j1,j2⟩:=c7o (cap:=cap) g2 h2 rfl;have s1:SubP D ((B1++B2)++C):=j2.trans (by rw[List.append_assoc];exact .of_sub (List.sublist_append_right _ _))
  cases x with
  |none=>
   obtain⟨D',k1,k2⟩:=OwnL.forget i j1;exact⟨D',k1,(SubP.of_sub k2).trans s1⟩
  |some o=>
   have g1:OwnL K F H [(σ[i]?).join] [some o] B1:=g1;cases q:σ[i]? with
   |none=>rw[q] at g1;cases g1
   |some z=>
    cases z with
    |none=>rw[q] at g1;cases g1
    |some v=>
     rw[q] at g1;have hi:i < (a8y cap Γi Γ).length:=by rw[<-j1.length];exact(List.getElem?_eq_some_iff.mp q).1
     obtain⟨D',k1,C',k2,k3⟩:=OwnL.put (show OwnL K F H [some v] [some o] B1 from g1) i j1 hi;rw[a5q q] at k1;refine⟨D',k1,(SubP.of_perm k2).trans ?_⟩;rw[List.append_assoc];exact(SubP.refl B1).app ((SubP.of_sub k3).trans j2)
end
def capM(k:Nat)(cap:List Nat):List Bool:=List.replicate k false++List.replicate cap.length true
def a4v(src:Gm->Option (List D×Gm))(g:GG)(ct:GT)(ce:GE)(k:Nat)(cap:List Nat):GE:=fun Γ=>(src Γ).bind fun p=>
 (compLoop g ct ce p.1 (List.replicate k none++(capIn cap p.2).1) []).bind fun q=>if q.2.length=k+cap.length then some (.own (.lst q.1),a8y cap (q.2.drop k) (capIn cap p.2).2) else none
section
variable {K:L2.FG}
structure CPv (K:L2.FG) (m:List Bool) (g:GG) (ct:GT) (ce:GE) (ds:List D) (fin:List O×Gm) (F1 H1:Hp) (C:List Addr) (τ₀:St) (i:Nat) (τ:St) (acc:List V) (H:Hp):Prop where
 ex:∃F A Γc accs,OK K F H (acc.map some++τ) (accs.map some++Γc) A/\Ext F1 H1 C F H A/\compLoop g ct ce (ds.drop i) Γc accs=some fin/\acc.length=accs.length/\Kept m τ₀ τ
theorem b4u{m:List Bool}{t:TG}{g:GG}{ct:GT}{ce:GE}(tg:TgOk K m t g){ds:List D}{fin:List O×Gm}{F1 H1:Hp}{C:List Addr}{τ₀:St}{i:Nat}{τ:St}{acc:List V}{H:Hp}{x:V}{d:D}{F:Hp}{A:List Addr}{Γc:Gm}{accs:List O}
  (k:OK K F H (acc.map some++τ) (accs.map some++Γc) A) (x0:Ext F1 H1 C F H A) (e:compLoop g ct ce (ds.drop i) Γc accs=some fin) (hl:acc.length=accs.length) (kp:Kept m τ₀ τ) (ed:ds.drop i=d::ds.drop (i+1)) (rx:RepL K F [x] [d]) :
  t x τ H fun τ2 H2=>tGT K ct τ2 H2 fun b H3=>if b=true then tG K ce τ2 H3 fun v H4=>acc.length < sizeLine/\CPv K m g ct ce ds fin F1 H1 C τ₀ (i+1) τ2 (acc++[v]) H4 else CPv K m g ct ce ds fin F1 H1 C τ₀ (i+1) τ2 acc H3:=by
 rw[ed] at e;unfold compLoop at e;cases q1:g d Γc with
 |none=>rw[q1] at e;cases e
 |some Γ1=>
  rw[q1] at e;dsimp only[Option.bind] at e;cases q2:ct Γ1 with
  |none=>rw[q2] at e;cases e
  |some pb=>
   obtain⟨b,Γ2⟩:=pb;rw[q2] at e;dsimp only at e;have hle:(acc.map some).length=(accs.map some).length:=by simp[hl]
   obtain⟨C1,k1,fr1⟩:=k.frame hle;refine tg F H τ Γc Γ1 C1 x d _ k1 rx q1 fun τ2 A2 k2 x2 kp2=>?_
   obtain⟨A3,x3,k3⟩:=fr1 _ _ _ _ _ x2 k2;obtain⟨C4,k4,fr4⟩:=k3.frame hle;refine⟨F,C4,Γ1,b,Γ2,k4,q2,fun H3 pp=>?_⟩
   obtain⟨F5,A5,x5,k5,_⟩:=pp;obtain⟨A6,x6,k6⟩:=fr4 _ _ _ _ _ x5 k5;cases b with
   |false=>exact iteF ⟨F5,A6,Γ2,accs,k6,x0.trans (x3.trans x6),e,hl,kp.trans kp2⟩
   |true=>
    have e:((ce Γ2).bind fun q=>(ownL [q.1]).bind fun os=>if accs.length < 1000000 then compLoop g ct ce (ds.drop (i+1)) q.2 (accs++os) else none)=some fin:=e
    cases q3:ce Γ2 with
    |none=>rw[q3] at e;cases e
    |some pr=>
     obtain⟨r,Γ3⟩:=pr;rw[q3] at e;dsimp only[Option.bind] at e;cases q4:ownL [r] with
     |none=>rw[q4] at e;cases e
     |some os=>
      rw[q4] at e;dsimp only at e;split at e
      ·rename_i hz
       obtain⟨C7,k7,fr7⟩:=k6.frame hle;refine iteT ⟨F5,C7,Γ2,r,Γ3,k7,q3,fun v H4 pp=>⟨Nat.lt_of_lt_of_le (by omega:acc.length < 1000000) (by decide),?_⟩⟩
       obtain⟨F8,A8,x8,k8,_⟩:=pp;rw[a5r q4] at k8;obtain⟨A9,x9,k9⟩:=fr7 _ _ _ _ _ x8 k8;refine⟨F8,A9,Γ3,accs++os,?_,x0.trans (x3.trans (x6.trans x9)),e,?_,kp.trans kp2⟩
       ·rw[List.map_append,List.map_append,List.append_assoc,List.append_assoc];exact k9
       ·have:=congrArg List.length (a5r q4);simp at this;simp[hl,this]
      ·cases e
theorem c7p{F H:Hp}{σ:St}{Γ:Gm}{A:List Addr}{p:Addr}{u:HO}(k:OK K F H σ Γ A)(hn:H p=none):OK K (upd F p u) (upd H p u) σ Γ A/\Ext F H A (upd F p u) (upd H p u) A:=by
 have hF:F p=none:=k.le.free hn;have np:∀a∈A,a≠p:=fun a m z=>k.os.there a m (by rw[z];exact hn)
 refine⟨⟨fun a o e=>?_,k.os.keep (a2r hF) fun a m o e=>by rw[a0v (np a m)];exact e,k.nd,fun a m=>by rw[a0v (np a m)];exact k.fr a m⟩,⟨a2r hF,fun a o e _=>a2r hn a o e,fun a h z=>h ((a2r hn).free z),fun a h=>?_,fun a m=>.inl m,.same (a2r hn)⟩⟩
 ·by_cases z:a=p
  ·subst z;rw[a1z] at e ⊢;exact e
  ·rw[a0v z] at e ⊢;exact k.le a o e
 ·by_cases z:a=p
  ·subst z;exact .inr (.inr hn)
  ·rw[a0v z] at h;exact .inl h
theorem c7q{m:List Bool}{t:TG}{g:GG}{ct:GT}{ce:GE}(tg:TgOk K m t g){ds:List D}{fin:List O×Gm}{F1 H1:Hp}{C:List Addr}{τ₀:St}{i:Nat}{τ:St}{acc:List V}{H:Hp}{x:V}{d:D}(p:CPv K m g ct ce ds fin F1 H1 C τ₀ i τ acc H)
  (ed:ds.drop i=d::ds.drop (i+1)) (rx:∀F,Same F1 F->RepL K F [x] [d]) :
  t x τ H fun τ2 H2=>tGT K ct τ2 H2 fun b H3=>if b=true then tG K ce τ2 H3 fun v H4=>acc.length < sizeLine/\CPv K m g ct ce ds fin F1 H1 C τ₀ (i+1) τ2 (acc++[v]) H4 else CPv K m g ct ce ds fin F1 H1 C τ₀ (i+1) τ2 acc H3:=by
 obtain⟨F,A,Γc,accs,k,x0,e,hl,kp⟩:=p.ex;exact b4u tg k x0 e hl kp ed (rx F x0.ff)
theorem c4p{m:List Bool}{t:TG}{g:GG}{ct:GT}{ce:GE}(tg:TgOk K m t g){ds:List D}{fin:List O×Gm}{F1 H1:Hp}{C:List Addr}{τ₀:St}{i:Nat}{τ:St}{acc:List V}{H:Hp}{q:Addr}{ws:List V}{es:List D}(p:CPv K m g ct ce ds fin F1 H1 C τ₀ i τ acc H)
  (ed:ds.drop i=.tup es::ds.drop (i+1)) (hq:H q=none) (rx:∀F,Same F1 F->RepL K F ws es) :
  t (.ref q) τ (upd H q (.tup ws)) fun τ2 H2=>tGT K ct τ2 H2 fun b H3=>if b=true then tG K ce τ2 H3 fun v H4=>acc.length < sizeLine/\CPv K m g ct ce ds fin F1 H1 C τ₀ (i+1) τ2 (acc++[v]) H4 else CPv K m g ct ce ds fin F1 H1 C τ₀ (i+1) τ2 acc H3:=by
 obtain⟨F,A,Γc,accs,k,x0,e,hl,kp⟩:=p.ex;obtain⟨k2,x2⟩:=c7p (u:=.tup ws) k hq;exact b4u tg k2 (x0.trans x2) e hl kp ed (.tup (SqT.of a1z) ((rx F x0.ff).mono x2.ff) .nil)
theorem d1z{m:List Bool}{g:GG}{ct:GT}{ce:GE}{ds:List D}{fin:List O×Gm}{F1 H1:Hp}{C:List Addr}{τ₀:St}{τ:St}{acc:List V}{H:Hp}(p:CPv K m g ct ce ds fin F1 H1 C τ₀ ds.length τ acc H):
  ∃F A,OK K F H (acc.map some++τ) (fin.1.map some++fin.2) A/\Ext F1 H1 C F H A/\acc.length=fin.1.length/\Kept m τ₀ τ:=by
 obtain⟨F,A,Γc,accs,k,x0,e,hl,kp⟩:=p.ex;rw[List.drop_of_length_le (Nat.le_refl _)] at e;cases e;exact⟨F,A,k,x0,hl,kp⟩
theorem b3g:∀{cap:List Nat} {Γ:Gm} {j:Nat},j∉cap->(capIn cap Γ).2[j]?=Γ[j]?
 |[],Γ,j,_=>rfl
 |i::cap,Γ,j,h=>by
  unfold capIn;dsimp only;rw[b3g (fun z=>h (List.mem_cons_of_mem _ z)),List.getElem?_set_ne (fun z=>h (by rw[z];exact List.mem_cons_self))]
theorem d2a{F H:Hp}{σ:St}{Γ:Gm}{A:List Addr}{j:Nat}{ps:List O}{a:Addr}(h:OwnL K F H σ Γ A)(hΓ:Γ[j]?=some (some (.lst ps)))(hσ:σ[j]?=some (some (.ref a))):a∈A:=by
 obtain⟨v,Ai,B,g1,g2,_,g4⟩:=h.take hΓ;rw[hσ] at g1;cases g1;cases g2 with
 |lst _ _ _=>exact g4.mem_iff.mpr (by simp)
def InSlot(σ:St)(Γ:Gm)(H:Hp)(j:Nat)(a:Addr):Prop:=(∃ps,Γ[j]?=some (some (.lst ps))/\σ[j]?=some (some (.ref a)))\/∃C ns qs i kvs,Γ[j]?=some (some (.ins C ns qs))/\qs[i]?=some (.dct kvs)/\HFld σ H j i (.ref a)
theorem d6m{F H:Hp}{σ:St}{Γ:Gm}{A:List Addr}{j:Nat}{a:Addr}(h:OwnL K F H σ Γ A)(i:InSlot σ Γ H j a):a∈A:=by
 rcases i with⟨ps,e1,e2⟩|⟨C,ns,qs,i,kvs,e1,e2,hf⟩
 ·exact d2a h e1 e2
 ·obtain⟨x,Ai,C',g1,g2,g3,g4⟩:=h.take e1;obtain⟨b,C2,dx,fs,f,p,y1,y2,y3,y4⟩:=hf;cases y4;rw[g1] at y1;cases y1;cases g2 with
  |ins q1 q2 q3 q4 t=>
   rw[y2] at q1;cases q1;have e2':(qs.map some)[i]?=some (some (.dct kvs)):=by rw[List.getElem?_map,e2];rfl
   obtain⟨v,Ac,C3,z1,z2,z3,z4⟩:=q4.take e2';rw[List.getElem?_map,y3] at z1;cases z1;refine g4.mem_iff.mpr (List.mem_append_left _ (List.mem_append_left _ ?_));refine List.mem_cons_of_mem _ (List.mem_cons_of_mem _ (z4.mem_iff.mpr (List.mem_append_left _ ?_)));cases z2 with
   |dct _ _ _ _ _=>simp
theorem InSlot.cap{σ:St}{Γ:Gm}{H:Hp}{cap:List Nat}{j:Nat}{a:Addr}(hj:j∉cap)(i:InSlot σ Γ H j a):InSlot σ (capIn cap Γ).2 H j a:=by
 rcases i with⟨ps,e1,e2⟩|⟨C,ns,qs,i,kvs,e1,r⟩
 ·exact .inl ⟨ps,by rw[b3g hj];exact e1,e2⟩
 ·exact .inr ⟨C,ns,qs,i,kvs,by rw[b3g hj];exact e1,r⟩
theorem c4q{k:Nat}{cap:List Nat}{F H:Hp}{σ:St}{Γ:Gm}{A:List Addr}(ok:OK K F H σ Γ A):∃C,OK K F H (capS k cap σ) (List.replicate k none++(capIn cap Γ).1) C/\
  (∀j a,j∉cap->InSlot σ Γ H j a->a∉C)/\
  ∀F' H' τ' accs acc Γi A',Ext F H C F' H' A'->OK K F' H' (acc.map some++τ') (accs.map some++Γi) A'->acc.length=accs.length->Kept (capM k cap) (capS k cap σ) τ'->Γi.length=k+cap.length->∀l,H' l=none->
   ∃A'',Ext F H A F' (upd H' l (.lst acc)) A''/\OK K F' (upd H' l (.lst acc)) (some (.ref l)::σ) (some (.lst accs)::a8y cap (Γi.drop k) (capIn cap Γ).2) A'':=by
 obtain⟨B,C',h1,h2,h3⟩:=c2o (cap:=cap) ok.os;have k0:OwnL K F H (capS k cap σ++σ) ((List.replicate k none++(capIn cap Γ).1)++(capIn cap Γ).2) (B++C'):=by
  have:=(a9t (K:=K) (F:=F) (H:=H) k).app h1;exact this.app h2
 obtain⟨k1,x1⟩:=ok.sub k0 h3;have hl0:(capS k cap σ).length=(List.replicate k (none:Option O)++(capIn cap Γ).1).length:=by
  have:=h1.length;unfold capS;simp at this ⊢;omega
 obtain⟨A1,p1,k2⟩:=k1.swap hl0;have k2':=k2;obtain⟨D0,C,hd0,hd1,hd2⟩:=OwnL.split h2.length k2.os;have nn:∀a∈D0,a∉C:=fun a m z=>(List.nodup_append.mp (hd2 ▸ k2.nd)).2.2 a m a z rfl
 obtain⟨k3,fr⟩:OK K F H (capS k cap σ) (List.replicate k none++(capIn cap Γ).1) C/\∀F' H' σ' Γ' A',Ext F H C F' H' A'->OK K F' H' σ' Γ' A'->∃A'',Ext F H A1 F' H' A''/\OK K F' H' (σ++σ') ((capIn cap Γ).2++Γ') A'':=by
  subst hd2;exact k2.frameAt hd0 hd1
 refine⟨C,k3,fun j a hj i=>nn a (d6m hd0 (i.cap hj)),fun F' H' τ' accs acc Γi A' x k' hl kp hΓ l hn=>?_⟩
 have hΓl:=k'.os.length;have k5:∃A5,OK K F' (upd H' l (.lst acc)) (some (.ref l)::τ') (some (.lst accs)::Γi) A5/\Ext F' H' A' F' (upd H' l (.lst acc)) A5:=by
  obtain⟨B1,C1,g1,g2,g3⟩:=OwnL.split (by simp[hl]) k'.os
  have nl:∀a∈A',a≠l:=fun a m z=>k'.os.there a m (by rw[z];exact hn)
  have kpp:∀a∈A',∀o,H' a=some o->upd H' l (.lst acc) a=some o:=fun a m o e=>by rw[a0v (nl a m)];exact e
  subst g3;refine⟨l::B1++C1,⟨fun a o e=>?_,.lst a1z (g1.keep (Same.refl _) fun a m=>kpp a (List.mem_append_left _ m)) (g2.keep (Same.refl _) fun a m=>kpp a (List.mem_append_right _ m)),List.nodup_cons.mpr ⟨fun m=>nl l m rfl,k'.nd⟩,fun a m=>?_⟩,
   Same.refl _,fun a o e _=>?_,c0o,fun a h=>.inl h,fun a m=>?_,.same (a2r hn)⟩
  ·have:=k'.le a o e;rw[a0v (a1u this hn)];exact this
  ·rcases List.mem_cons.mp m with rfl|m
   ·exact k'.le.free hn
   ·exact k'.fr a m
  ·rw[a0v (a1u e hn)];exact e
  ·rcases List.mem_cons.mp m with rfl|m
   ·exact .inr hn
   ·exact .inl m
 obtain⟨A5,k5,x5⟩:=k5;obtain⟨A6,x6,k6⟩:=fr _ _ _ _ _ (x.trans x5) k5;obtain⟨D1,D2,g1,g2,g3⟩:=OwnL.split h2.length k6.os;subst g3;obtain⟨D3,D4,g4,g5,g6⟩:=g2.one;subst g6;have hτ:τ'.length=k+cap.length:=by
  have:=g5.length;omega
 have e1:τ'=τ'.take k++τ'.drop k:=(List.take_append_drop _ _).symm;have e2:Γi=Γi.take k++Γi.drop k:=(List.take_append_drop _ _).symm;have g5':OwnL K F' (upd H' l (.lst acc)) (τ'.take k++τ'.drop k) (Γi.take k++Γi.drop k) D4:=by rw[<-e1,<-e2];exact g5
 obtain⟨D5,D6,g7,g8,g9⟩:=OwnL.split (by rw[List.length_take,List.length_take];omega) g5'
 subst g9;have eτ:τ'.drop k=cap.map fun i=>(σ[i]?).join:=by
  apply List.ext_getElem?;intro j;by_cases hj:j < cap.length
  ·have hm:(capM k cap)[k+j]?=some true:=by
    unfold capM;rw[List.getElem?_append_right (by simp)]
    simp[hj]
   have:=kp (k+j) hm;rw[List.getElem?_drop,this];unfold capS;rw[List.getElem?_append_right (by simp)]
   simp
  ·rw[List.getElem?_eq_none (by rw[List.length_drop];omega),List.getElem?_eq_none (by rw[List.length_map];omega)]
 obtain⟨D7,g10,g11⟩:=c7o g8 g1 eτ;have s1:SubP (D3++D7) (D1++(D3++(D5++D6))):=by
  refine((SubP.refl D3).app g11).trans ?_;refine SubP.trans (B:=D3++(D5++D6)++D1) ?_ (.of_perm List.perm_append_comm);rw[List.append_assoc];refine(SubP.refl D3).app ?_;rw[List.append_assoc];exact .of_sub (List.sublist_append_right _ _)
 obtain⟨k7,x7⟩:=k6.sub (σ':=some (.ref l)::σ) (Γ':=some (.lst accs)::a8y cap (Γi.drop k) (capIn cap Γ).2) (g4.app g10) s1;exact⟨D3++D7,(x1.trans (Ext.own' Ext.refl fun a m=>p1.mem_iff.mp m)).trans (x6.trans x7),k7⟩
end
def srcL(it:GE):Gm->Option (List D×Gm):=fun Γ=>(gFrz it Γ).bind fun p=>match p.1 with
 |.own (.frz (.lst ds))=>some (ds,p.2)
 |_=>none
def srcS(it:GE):Gm->Option (List D×Gm):=fun Γ=>(it Γ).bind fun p=>match p.1 with
 |.own (.frz (.str z))=>some (z.cps.toList.map fun c=>.str (chr1 c),p.2)
 |_=>none
def srcR1(fs:GA):Gm->Option (List D×Gm):=fun Γ=>(fs Γ).bind fun p=>(int1 p.1).map fun j=>(rngD 0 j.toNat,p.2)
def srcV(i:Nat)(cap:List Nat):Gm->Option (List D×Gm):=fun Γ=>if i∈cap then none else match Γ[i]? with
 |some (some (.lst os))=>(frzL os).map fun ds=>(ds,Γ)
 |_=>none
def Nw(K:L2.FG)(F1 H:Hp)(x:V)(d:D)(H':Hp):Prop:=(H'=H/\∀F,Same F1 F->RepL K F [x] [d])\/∃p ws es,x=.ref p/\d=.tup es/\H p=none/\H'=upd H p (.tup ws)/\∀F,Same F1 F->RepL K F ws es
def SrcOk(K:L2.FG)(cap:List Nat)(wi:TI)(src:Gm->Option (List D×Gm)):Prop:=
 ∀(σ:St) (F H:Hp) (A:List Addr) (Γ Γ1:Gm) (ds:List D) (R:It->Hp->Prop),OK K F H σ Γ A->src Γ=some (ds,Γ1)->
  (∀J H1 F1 A1,Ext F H A F1 H1 A1->OK K F1 H1 σ Γ1 A1->
   (∀(g:TG) (tt:TT) (te:TE) (τ:St) (Fin:List V->Hp->Prop) (Pv:Nat->St->List V->Hp->Prop),Pv 0 τ [] H1->(∀i τ acc H,Pv i τ acc H->(∃F,Same F1 F/\Same F H)/\∀(j:Nat) a o,j∉cap->InSlot σ Γ1 H1 j a->H1 a=some o->H a=some o)->
    (∀i d x τ acc H H',ds.drop i=d::ds.drop (i+1)->Nw K F1 H x d H'->Pv i τ acc H->g x τ H' fun τ2 H2=>tt τ2 H2 fun b H3=>if b=true then te τ2 H3 fun v H4=>acc.length < sizeLine/\Pv (i+1) τ2 (acc++[v]) H4 else Pv (i+1) τ2 acc H3)->
    (∀τ acc H,Pv ds.length τ acc H->Fin acc H)->CompW J g tt te τ H1 Fin)->R J H1)->wi σ H R
section
variable {X:Cx} {K:L2.FG} {fa:GE} {fs:GA}
theorem c0p{α:Type}{l:List α}{i:Nat}{x:α}(h:l[i]?=some x):l.drop i=x::l.drop (i+1):=by
 obtain⟨hi,e⟩:=List.getElem?_eq_some_iff.mp h;rw[List.drop_eq_getElem_cons hi,e]
theorem b0c{cap:List Nat}:SrcOk K cap (iList K (tG K (gFrz fa))) (srcL fa):=by
 intro σ F H A Γ Γ1 ds R k e w;unfold srcL at e;cases q:gFrz fa Γ with
 |none=>rw[q] at e;cases e
 |some p=>
  obtain⟨r,Γ2⟩:=p;rw[q] at e;dsimp only[Option.bind] at e;cases r with
  |var i=>cases e
  |fld _ _=>cases e
  |own o=>
   cases o with
   |frz d=>
    cases d with
    |lst es=>
     cases e;refine⟨F,A,Γ,_,_,k,q,fun v H1 pp=>?_⟩
     obtain⟨F1,A1,x,k1,_⟩:=pp;obtain⟨B,C,h1,h2,h3⟩:=OwnL.one (σ:=σ) k1.os;have rp:=b6h h1;subst h3;obtain⟨k2,x2⟩:=k1.sub h2 (.of_sub (List.sublist_append_right _ _));cases rp with
     |flat z _=>cases z
     |@lst a ws _ _ _ sq ri _=>
      refine⟨a,rfl,⟨ws,.inl (k1.le.rd sq)⟩,w (Itl K a) H1 F1 C (x.trans x2) k2 fun g tt te τ Fin Pv h0 hF hs hd=>?_⟩
      have hl:=ri.length;refine b8d (xs:=ws) Pv h0 (fun i τ acc H hi p=>?_) (fun i x τ acc H hx p=>?_) (fun τ acc H p=>hd τ acc H (by rw[<-hl];exact p))
      ·obtain⟨⟨F',s1,s2⟩,_⟩:=hF i τ acc H p;exact .inl ((s1.trans s2).rd sq)
      ·have hi:i < ds.length:=by
        have:=(List.getElem?_eq_some_iff.mp hx).1;omega
       obtain⟨x2,hx2,rx⟩:=ri.get (i:=i) (d:=ds[i]) (by simp[hi])
       rw[hx] at hx2;cases hx2;exact hs i ds[i] x τ acc H H (c0p (by simp[hi])) (.inl ⟨rfl,fun F' s=>rx.mono s⟩) p
    |_=>cases e
   |_=>cases e
theorem d6n{i:Nat}{cap:List Nat}:SrcOk K cap (iList K (tVar i)) (srcV i cap):=by
 intro σ F H A Γ Γ1 ds R k e w;unfold srcV at e;split at e
 ·cases e
 ·rename_i hi
  split at e
  ·rename_i os hΓ
   obtain⟨ds',e1,e2⟩:=Option.map_eq_some_iff.mp e;cases e2;obtain⟨v,Ai,B,g1,g2,_⟩:=k.os.take hΓ;refine⟨v,g1,?_⟩;cases g2 with
   |@lst a ws _ _ _ _ _ hl ch _=>
    have ri:=a9v ch e1;refine⟨a,rfl,⟨ws,SqL.of hl⟩,w (Itl K a) H F A Ext.refl k fun g tt te τ Fin Pv h0 hF hs hd=>?_⟩
    have hln:=ri.length;refine b8d (xs:=ws) Pv h0 (fun j τ acc H' hj p=>?_) (fun j x τ acc H' hx p=>?_) (fun τ acc H' p=>hd τ acc H' (by rw[<-hln];exact p))
    ·exact SqL.of ((hF j τ acc H' p).2 i a _ hi (.inl ⟨os,hΓ,g1⟩) hl)
    ·have hj:j < ds.length:=by
      have:=(List.getElem?_eq_some_iff.mp hx).1;omega
     obtain⟨x2,hx2,rx⟩:=ri.get (i:=j) (d:=ds[j]) (by simp[hj])
     rw[hx] at hx2;cases hx2;exact hs j ds[j] x τ acc H' H' (c0p (by simp[hj])) (.inl ⟨rfl,fun F' s=>rx.mono s⟩) p
  ·cases e
theorem d6o{cap:List Nat}:SrcOk K cap (iStr (tG K fa)) (srcS fa):=by
 intro σ F H A Γ Γ1 ds R k e w;unfold srcS at e;cases q:fa Γ with
 |none=>rw[q] at e;cases e
 |some p=>
  obtain⟨r,Γ2⟩:=p;rw[q] at e;dsimp only[Option.bind] at e;cases r with
  |var i=>cases e
  |fld _ _=>cases e
  |own o=>
   cases o with
   |frz d=>
    cases d with
    |str z=>
     cases e;refine⟨F,A,Γ,_,_,k,q,fun v H1 pp=>?_⟩
     have ev:=pp.flat rfl;obtain⟨F1,A1,x,k1,_⟩:=pp.drop;refine⟨z,ev,w (Its z) H1 F1 A1 x k1 fun g tt te τ Fin Pv h0 hF hs hd=>?_⟩
     refine d1k Pv h0 (fun i c τ acc H hc p=>?_) (fun τ acc H p=>hd τ acc H (by simpa using p))
     refine hs i (.str (chr1 c)) _ τ acc H H (c0p ?_) (.inl ⟨rfl,fun F' s=>.flat rfl .nil⟩) p
     rw[List.getElem?_map,Array.getElem?_toList,hc];rfl
    |_=>cases e
   |_=>cases e
theorem c2p{cap:List Nat}:SrcOk K cap (iRng1 (tGA K fs)) (srcR1 fs):=by
 intro σ F H A Γ Γ1 ds R k e w;unfold srcR1 at e;cases q:fs Γ with
 |none=>rw[q] at e;cases e
 |some p=>
  obtain⟨rs,Γ2⟩:=p;rw[q] at e;obtain⟨j,e1,e2⟩:=Option.map_eq_some_iff.mp e;cases e2;obtain⟨hj,hb⟩:=c2e e1;have hj:rs=_:=hj;subst hj;refine⟨F,A,Γ,_,_,k,q,fun vs H1 pp=>?_⟩
  obtain⟨F1,A1,x,k1,hh⟩:=pp
  match vs,hh with
  |[v],_=>
   obtain⟨rfl,h2⟩:=a9d (σ:=σ) k1.os;obtain⟨k2,x2⟩:=k1.sub h2 (SubP.refl _);refine⟨j,rfl,hb.1,hb.2,w (Itr 0 j.toNat) H1 F1 A1 x k2 fun g tt te τ Fin Pv h0 hF hs hd=>?_⟩
   refine c4j Pv h0 (fun i τ acc H hi p=>?_) (fun τ acc H p=>hd τ acc H (by simpa[rngD] using p))
   exact hs i (.int (0+(i:Int))) _ τ acc H H (by unfold rngD;exact b4h _ hi) (.inl ⟨rfl,fun F' s=>.flat rfl .nil⟩) p
theorem PTs.mono{ifs:List Expr}{t t':TT}(h:PTs X ifs t)(m:∀σ H Q,t' σ H Q->t σ H Q):PTs X ifs t':=fun pins s σ H Q I q=>h pins s σ H Q I (m _ _ _ q)
def gYes:GT:=fun Γ=>some (true,Γ)
theorem a7x:PTs X [] (tGT K gYes):=pts_nil.mono fun σ H Q t=>b2j t
theorem c0q{c:Expr}{ft:GT}(h:PT X c (tGT K ft)):PTs X [c] (tGT K ft):=d5p h
variable {tg elt iter:Expr} {ifs:List Expr} {scope:Scope} {pos:Pos} {M:List Str} {k:Nat} {cap:List Nat} {t:TG} {gg:GG} {ct:GT} {ce:GE} {wi:TI} {src:Gm->Option (List D×Gm)}
theorem c7r(so:SrcOk K cap wi src)(tg':TgOk K (capM k cap) t gg){σ:St}{H:Hp}{Q:VK}(tt:tG K (a4v src gg ct ce k cap) σ H Q):tComp wi t (tGT K ct) (tG K ce) k cap σ H Q:=by
 obtain⟨F,A,Γ,rr,Γ',ok,e,w⟩:=tt;unfold a4v at e;cases q1:src Γ with
 |none=>rw[q1] at e;cases e
 |some p=>
  obtain⟨ds,Γ1⟩:=p;rw[q1] at e;dsimp only[Option.bind] at e;cases q2:compLoop gg ct ce ds (List.replicate k none++(capIn cap Γ1).1) [] with
  |none=>rw[q2] at e;cases e
  |some fin=>
   rw[q2] at e;dsimp only at e;split at e
   ·rename_i hlen
    cases e;refine so σ F H A Γ Γ1 ds _ ok q1 fun J H1 F1 A1 x1 k1 mk=>?_
    obtain⟨C,kC,nC,back⟩:=c4q (k:=k) (cap:=cap) k1;refine mk t (tGT K ct) (tG K ce) (capS k cap σ) _ (CPv K (capM k cap) gg ct ce ds fin F1 H1 C (capS k cap σ)) ?_ ?_ ?_ ?_
    ·exact⟨F1,C,_,[],kC,Ext.refl,q2,rfl,Kept.refl⟩
    ·rintro i τ acc H ⟨F',A',Γc,accs,k',x',_⟩;exact⟨⟨F',x'.ff,k'.le⟩,fun j a o hj h1 h3=>x'.keep a o h3 (nC j a hj h1)⟩
    ·intro i d x τ acc H H' ed nw p;rcases nw with⟨rfl,rx⟩|⟨q,ws,es,rfl,rfl,hq,rfl,rx⟩
     ·obtain⟨F',A',Γc,accs,k',x',_⟩:=p.ex;exact c7q tg' p ed fun F e=>rx F e
     ·exact c4p tg' p ed hq rx
    ·intro τ acc H p l hn;obtain⟨F',A',k',x',hl,kp⟩:=d1z p;obtain⟨A'',x'',k''⟩:=back F' H τ fin.1 acc fin.2 A' x' k' hl kp hlen l hn;exact w _ _ ⟨F',A'',x1.trans x'',k'',True.intro⟩
   ·cases e
theorem a7f(so:SrcOk K cap wi src)(tg':TgOk K (capM k cap) t gg)(ok:CompOk X scope M k cap)(hi:PI X tg iter wi)
  (hg:∀C s H fp,PG (a2m X scope M C s H fp) tg t) (ht:∀C s H fp,PTs (a2m X scope M C s H fp) ifs (tGT K ct)) (he:∀C s H fp,PE (a2m X scope M C s H fp) elt (tG K ce)) (hc:X.calm=true:=by rfl)
  (hs:∀x,foldedSetIterable iter X.env x=pure x:=by intro _;rfl):PE X (.ListComp elt [⟨tg,iter,ifs,0⟩] scope pos) (tG K (a4v src gg ct ce k cap)):=
 (d5q hc ok hi hg ht he hs).mono fun _ _ _ t=>c7r so tg' t
variable {m:List Bool} {W:Option XW}
theorem c7s{i:Nat}{x:Str}{px spos:Pos}(so:SrcOk K cap wi src)(tg':TgOk K (capM k cap) t gg)(ok:CompOk X scope M k cap)(hN:X.N.Nodup)(hix:X.N[i]?=some x)(hx:Loc X.env.scope x)(hi:PI X tg iter wi)
  (hg:∀C s H fp,PG (a2m X scope M C s H fp) tg t) (ht:∀C s H fp,PTs (a2m X scope M C s H fp) ifs (tGT K ct)) (he:∀C s H fp,PE (a2m X scope M C s H fp) elt (tG K ce)) (hc:X.calm=true:=by rfl) (hm:(m[i]? == some true)=false:=by rfl)
  (hsw:swapsWith (.ListComp elt [⟨tg,iter,ifs,0⟩] scope pos) (some (.Name x px)) spos.line X.env=pure true:=by rfl)
  (hs:∀x,foldedSetIterable iter X.env x=pure x:=by intro _;rfl) (hf:X.fn x=true\/X.env.scope.names.lookup x=some .local := by first|exact .inl rfl|exact .inr rfl) :
  PS X (.Assign [.Name x px] (.ListComp elt [⟨tg,iter,ifs,0⟩] scope pos) spos) (tS K m W (gsSet i (a4v src gg ct ce k cap))):=(d5r hc ok hN hix hx hi hg ht he hsw hs hf).mono fun D σ H tt=>by
 obtain⟨F,A,Γ,fl,Γ',k,e,w⟩:=tt;unfold gsSet at e;cases q:a4v src gg ct ce _ cap Γ with
 |none=>rw[q] at e;cases e
 |some p=>
  obtain⟨r,Γ1⟩:=p;rw[q] at e;cases r with
  |var i=>cases e
  |fld _ _=>cases e
  |own o=>
   dsimp only[Option.bind] at e;split at e
   ·cases e;refine c7r so tg' ⟨F,A,Γ,_,Γ1,k,q,fun v H' hh=>?_⟩
    obtain⟨F1,A1,x,k1,_⟩:=hh;obtain⟨B,k2,x2⟩:=OK.store (σ:=σ) (Γ:=Γ1) k1 (by assumption)
    exact w _ H' ⟨F1,B,x.trans x2,k2,Kept.set hm⟩
   ·cases e
end
inductive Wk (K:L2.FG) (H:Hp):V->List Nat->V->Prop
 |nil {x:V}:Wk K H x [] x
 |cons {p:Addr} {ws:List V} {j:Nat} {y v:V} {π:List Nat}:(SqL K H p ws\/SqT K H p ws)->ws[j]?=some y->Wk K H y π v->Wk K H (.ref p) (j::π) v
theorem Wk.snoc{K:L2.FG}{H:Hp}{x v:V}{π:List Nat}{j:Nat}(h:Wk K H x (π++[j]) v):∃p ws,Wk K H x π (.ref p)/\(SqL K H p ws\/SqT K H p ws)/\ws[j]?=some v:=by
 induction π generalizing x with
 |nil=>
  cases h with
  |cons s e t=>cases t;exact⟨_,_,.nil,s,e⟩
 |cons i π ih=>
  cases h with
  |cons s e t=>
   obtain⟨p,ws,h1,h2,h3⟩:=ih t;exact⟨p,ws,.cons s e h1,h2,h3⟩
def tPath(K:L2.FG)(i:Nat)(π:List Nat):TE:=fun σ H Q=>∃x v,σ[i]?=some (some x)/\Wk K H x π v/\Q v H
section
variable {X:Cx} {K:L2.FG} {e:Expr} {i j:Nat} {π:List Nat} {pos p1 p2:Pos} {n:Nat}
theorem b1x(h:PE X e (tVar i)):PE X e (tPath K i []):=h.mono fun σ H Q t=>by
 obtain⟨x,v,e,w,q⟩:=t;cases w;exact⟨x,e,q⟩
theorem b8o(h:PE X e (tPath K i π))(hu:X.A.units+41 < cLine)(hK:X.K=K:=by rfl)(hs:b1e (.Constant (.int (j:Int)) n p1):=by exact fun _ _=>rfl):PE X (.Subscript e (.Constant (.int (j:Int)) n p1) pos) (tPath K i (π++[j])):=
 (c5y (a3c K hu hK) h a0e hs).mono fun σ H Q t=>by
  obtain⟨x,v,e,w,q⟩:=t;obtain⟨p,ws,h1,h2,h3⟩:=w.snoc;refine⟨x,.ref p,e,h1,?_⟩;rcases h2 with h2|h2
  ·exact .inl ⟨p,ws,j,v,rfl,rfl,h2,a3i h3,q⟩
  ·exact .inr (.inl ⟨p,ws,j,v,rfl,rfl,h2,a3i h3,q⟩)
end
def setP(f:O->Option (O×O)):O->List Nat->Option (O×O)
 |.lst ps,[]=>f (.lst ps)
 |.tup os,j::π=>(os[j]?).bind fun c=>(setP f c π).bind fun z=>some (.tup (os.set j z.1),z.2)
 |.lst os,j::π=>(os[j]?).bind fun c=>(setP f c π).bind fun z=>some (.lst (os.set j z.1),z.2)
 |_,_=>none
section
variable {K:L2.FG} {F H:Hp}
theorem b4v{ws:List V}{os:List O}{A:List Addr}{j:Nat}{c:O}(h:OwnL K F H (ws.map some) (os.map some) A)(e:os[j]?=some c):∃v Ac B,ws[j]?=some v/\OwnL K F H [some v] [some c] Ac/\A.Perm (Ac++B)/\
  ∀F' H' c' A',Same F F'->(∀a∈B,∀u,H a=some u->H' a=some u)->OwnL K F' H' [some v] [some c'] A'->∃D,OwnL K F' H' (ws.map some) ((os.set j c').map some) D/\SubP D (A'++B):=by
 have e':(os.map some)[j]?=some (some c):=by rw[List.getElem?_map,e];rfl
 obtain⟨v,Ac,B,g1,g2,g3,g4⟩:=h.take e';have hv:ws[j]?=some v:=by
  rw[List.getElem?_map] at g1;cases q:ws[j]? with
  |none=>rw[q] at g1;cases g1
  |some z=>rw[q] at g1;cases g1;rfl
 refine⟨v,Ac,B,hv,g2,g4,fun F' H' c' A' sf kp w=>?_⟩
 have g3':OwnL K F' H' (ws.map some) ((os.map some).set j none) B:=g3.keep sf kp;have hj:j < ((os.map some).set j none).length:=by
  rw[List.length_set,List.length_map];exact(List.getElem?_eq_some_iff.mp e).1
 obtain⟨D,k1,C,k2,k3⟩:=OwnL.put w j g3' hj;rw[List.set_set,a5q g1] at k1;refine⟨D,by rw[List.map_set];exact k1,(SubP.of_perm k2).trans ((SubP.refl A').app (.of_sub k3))⟩
def PaW(K:L2.FG)(F H:Hp)(f:O->Option (O×O))(π:List Nat)(x:V)(o' res:O)(A:List Addr):Prop:=∃v c c' Ac B,Wk K H x π v/\OwnL K F H [some v] [some c] Ac/\(∃ps,c=.lst ps)/\f c=some (c',res)/\A.Perm (Ac++B)/\
   ∀F' H' A',Same F F'->(∀a u,a∉Ac->H a=some u->H' a=some u)->OwnL K F' H' [some v] [some c'] A'->∃D,OwnL K F' H' [some x] [some o'] D/\SubP D (A'++B)
theorem b8p{f:O->Option (O×O)}{π:List Nat}{x:V}{a:Addr}{ws:List V}{os:List O}{c0 d res:O}{Ap:List Addr}{j:Nat}{N:List O->O}(nd:(a::Ap).Nodup)(ch:OwnL K F H (ws.map some) (os.map some) Ap)(q1:os[j]?=some c0)
  (ih:∀{y A},OwnL K F H [some y] [some c0] A->A.Nodup->PaW K F H f π y d res A) (hx:∀{y v},ws[j]?=some y->Wk K H y π v->Wk K H x (j::π) v)
  (mk:∀{F' H' D},(∀u,H a=some u->H' a=some u)->OwnL K F' H' (ws.map some) ((os.set j d).map some) D->OwnL K F' H' [some x] [some (N (os.set j d))] (a::D++[])):PaW K F H f (j::π) x (N (os.set j d)) res (a::Ap):=by
 obtain⟨na,nd1⟩:=List.nodup_cons.mp nd;obtain⟨y,Ay,B1,g1,g2,g3,g4⟩:=b4v ch q1;have nd2:(Ay++B1).Nodup:=g3.nodup_iff.mp nd1;obtain⟨v,c,c',Ac,B2,k1,k2,k3,k4,k5,k6⟩:=ih g2 (List.nodup_append.mp nd2).1;refine⟨v,c,c',Ac,a::(B2++B1),hx g1 k1,k2,k3,k4,?_,fun F' H' A' sf kp w=>?_⟩
 ·refine((g3.trans (k5.append_right _)).cons a).trans ?_;rw[List.append_assoc];exact List.perm_middle.symm
 ·obtain⟨D,w1,w2⟩:=k6 F' H' A' sf kp w;have hac:∀b∈Ac,b∈Ay:=fun b m=>k5.mem_iff.mpr (List.mem_append_left _ m)
  obtain⟨D2,w3,w4⟩:=g4 F' H' d D sf (fun b m u e=>kp b u (fun z=>(List.nodup_append.mp nd2).2.2 b (hac b z) b m rfl) e) w1
  have ha:a∉Ac:=fun z=>na (g3.mem_iff.mpr (List.mem_append_left _ (hac a z)))
  refine⟨a::D2++[],mk (fun u=>kp a u ha) w3,?_⟩
  rw[List.append_nil];have s1:SubP D2 (A'++(B2++B1)):=w4.trans (by rw[<-List.append_assoc];exact w2.app (SubP.refl B1))
  obtain⟨L,p1,p2⟩:=s1;exact SubP.trans ⟨a::L,p1.cons a,p2.cons_cons a⟩ (.of_perm List.perm_middle.symm)
theorem a6w{f:O->Option (O×O)}{os:List O}{N:List O->O}{j:Nat}{π:List Nat}{o' res:O}(e:((os[j]?).bind fun c=>(setP f c π).bind fun z=>some (N (os.set j z.1),z.2))=some (o',res)):∃c0 d,os[j]?=some c0/\setP f c0 π=some (d,res)/\o'=N (os.set j d):=by
 obtain⟨c,q1,e⟩:=Option.bind_eq_some_iff.1 e;obtain⟨z,q2,e⟩:=Option.bind_eq_some_iff.1 e;cases e;exact⟨c,_,q1,q2,rfl⟩
theorem b3h{f:O->Option (O×O)}{π:List Nat}:∀{x:V} {o o' res:O} {A:List Addr},OwnL K F H [some x] [some o] A->A.Nodup->setP f o π=some (o',res)->PaW K F H f π x o' res A:=by
 induction π with
 |nil=>
  intro x o o' res A h nd e;cases o with
  |lst ps=>exact⟨x,_,o',A,[],.nil,h,⟨ps,rfl⟩,e,by rw[List.append_nil],fun F' H' A' _ _ w=>⟨A',w,by rw[List.append_nil];exact SubP.refl _⟩⟩
  |_=>cases e
 |cons j π ih=>
  intro x o o' res A h nd e;cases o with
  |tup os=>
   obtain⟨c0,d,q1,q2,rfl⟩:=a6w (N:=.tup) e;cases h with
   |@tup a ws _ Ap B0 _ _ hl ch t=>
    have eB:B0=[]:=by cases t;rfl
    subst eB;rw[List.append_nil] at nd ⊢;exact b8p nd ch q1 (fun h n=>ih h n q2) (fun g1 k1=>.cons (.inr (SqT.of hl)) g1 k1) fun kp w=>.tup (kp _ hl) w .nil
  |lst os=>
   obtain⟨c0,d,q1,q2,rfl⟩:=a6w (N:=.lst) e;cases h with
   |@lst a ws _ Ap B0 _ _ hl ch t=>
    have eB:B0=[]:=by cases t;rfl
    subst eB;rw[List.append_nil] at nd ⊢;exact b8p nd ch q1 (fun h n=>ih h n q2) (fun g1 k1=>.cons (.inl (SqL.of hl)) g1 k1) fun kp w=>.lst (kp _ hl) w .nil
  |_=>cases e
end
def gMutC(g:O->List O->Option (O×O))(i:Nat)(π:List Nat)(ds:List D):GE:=fun Γ=>match Γ[i]? with
 |some (some o)=>(setP (fun c=>g c (ds.map .frz)) o π).bind fun z=>some (.own z.2,Γ.set i (some z.1))
 |_=>none
section
variable {X:Cx} {K:L2.FG} {o e:Expr} {es:List Expr} {i:Nat} {π:List Nat} {t:TA} {name:Str} {apos cpos:Pos} {id:String} {r:V->List V->Hp->VK->Prop} {g:O->List O->Option (O×O)} {ds:List D} {vs:List V}
theorem b8q{F H:Hp}:∀{ds:List D} {vs:List V},ds.map a3z=vs.map some->OwnL K F H (vs.map some) ((ds.map .frz).map some) []
 |[],[],_=>.nil
 |d::ds,v::vs,h=>by
  rw[List.map_cons,List.map_cons] at h;injection h with h1 h2;exact .frz (.flat h1 .nil) (b8q h2)
 |[],_::_,h=>by simp at h
 |_::_,[],h=>by simp at h
theorem c7t(ok:MutOk K r g)(hv:ds.map a3z=vs.map some)(ht:∀σ H Q,Q vs H->t σ H Q){σ:St}{H:Hp}{Q:VK}(tt:tG K (gMutC g i π ds) σ H Q):tBM K "list" r (tPath K i π) t σ H Q:=by
 obtain⟨F,A,Γ,rr,Γ',k,e,w⟩:=tt;unfold gMutC at e;split at e
 ·rename_i oo hΓ
  cases q:setP (fun c=>g c (ds.map .frz)) oo π with
  |none=>rw[q] at e;cases e
  |some z=>
   rw[q] at e;cases e;obtain⟨x,Ai,C,g1,g2,g3,g4⟩:=k.os.take hΓ;have nd:(Ai++C).Nodup:=g4.nodup_iff.mp k.nd;have fr:∀a∈Ai++C,F a=none:=fun a m=>k.fr a (g4.mem_iff.mpr m)
   obtain⟨n1,n2,n3⟩:=List.nodup_append.mp nd;obtain⟨v,c,c',Ac,B,k1,k2,⟨ps,k3⟩,k4,k5,k6⟩:=b3h g2 n1 q;refine⟨x,v,g1,k1,?_,ht σ H _ ?_⟩
   ·subst k3;cases k2 with
    |lst hq _ _=>exact .inl ⟨rfl,_,SqL.of hq⟩
   ·have ndc:(Ac++B).Nodup:=k5.nodup_iff.mp n1;have hac:∀a∈Ac,a∈Ai:=fun a m=>k5.mem_iff.mpr (List.mem_append_left _ m)
    refine ok F H v vs c (ds.map .frz) c' z.2 Ac [] Q k.le k2 (b8q hv) (by rw[List.append_nil];exact(List.nodup_append.mp ndc).1) (fun a m=>fr a (List.mem_append_left _ (hac a (by simpa using m)))) k4 fun v' H' A' Ar kp dm at' w1 w2 sp=>?_
    rw[List.append_nil] at sp;obtain⟨D,j1,j2⟩:=k6 F H' A' (Same.refl _) kp w1;have nC:∀a∈C,a∉Ac:=fun a m y=>n3 a (hac a y) a m rfl
    have g3':OwnL K F H' σ (Γ.set i none) C:=g3.keep (Same.refl _) fun a m u e=>kp a u (nC a m) e
    have hi:i < (Γ.set i none).length:=by rw[List.length_set];exact(List.getElem?_eq_some_iff.mp hΓ).1
    obtain⟨D2,j3,C2,j4,j5⟩:=OwnL.put j1 i g3' hi;rw[a5q g1,List.set_set] at j3;have s1:SubP (Ar++D2) A:=by
     have a1:SubP D2 (D++C):=(SubP.of_perm j4).trans ((SubP.refl D).app (.of_sub j5));have a2:SubP (Ar++D2) (Ar++((A'++B)++C)):=(SubP.refl Ar).app (a1.trans (j2.app (SubP.refl C)));have a3:SubP (Ar++((A'++B)++C)) ((Ac++B)++C):=by
      rw[<-List.append_assoc,<-List.append_assoc];exact(sp.app (SubP.refl B)).app (SubP.refl C)
     exact a2.trans (a3.trans (.of_perm ((k5.symm.append_right C).trans g4.symm)))
    refine w v' H' ⟨F,Ar++D2,⟨Same.refl _,fun a u e n=>kp a u (fun y=>n (g4.mem_iff.mpr (List.mem_append_left _ (hac a y)))) e,dm,fun a h=>.inl h,fun a m=>.inl (s1.mem a m),at'⟩,⟨fun a u e=>?_,w2.app j3,s1.nodup k.nd,fun a m=>k.fr a (s1.mem a m)⟩,True.intro⟩
    refine kp a u (fun y=>?_) (k.le a u e)
    rw[fr a (List.mem_append_left _ (hac a y))] at e;cases e
 ·cases e
theorem d6p(slot:Slot "list" name id)(hty:typeOf (.builtin id)=pure (.type "method_descriptor"))(hm:MtM X id r)(ok:MutOk K r g)(ho:PE X o (tPath K i π))(ha:PA X (e::es) t)(hv:ds.map a3z=vs.map some)(ht:∀σ H Q,Q vs H->t σ H Q)
  (hbase:attributeBase o name X.env (eval o X.env)=eval o X.env:=by rfl)
  (hfew:((backTo cpos (starEach (e::es) X.env)).all (fun x => !x.1) && (backToKw cpos (keywordEach [] X.env)).all (fun x=>x.1.isSome)
   && decide ((e::es).length+([]:List Keyword).length+(if([]:List Keyword).isEmpty then 0 else 1) < 30))=true:=by rfl)
  (hline:(apos.endLine == cpos.line)=true:=by rfl) (hs:starEach (e::es) X.env=(false,eval e X.env)::starEach es X.env:=by rfl) (hplain:(backTo cpos (starEach es X.env)).any (·.1)=false:=by rfl) (hK:X.K=K:=by rfl) :
  PE X (.Call (.Attribute o name apos) (e::es) [] cpos) (tG K (gMutC g i π ds)):=by
 subst hK;exact(d9m PySem.F.plainAttrs_list slot hty hm ho ha hbase hfew hline hs hplain).mono fun _ _ _ t=>c7t ok hv ht t
theorem d2b(slot:Slot "list" name id)(hty:typeOf (.builtin id)=pure (.type "method_descriptor"))(hm:MtM X id r)(ok:MutOk K r g)(ho:PE X o (tPath K i π))
  (hbase:attributeBase o name X.env (eval o X.env)=eval o X.env:=by rfl) (hline:(apos.endLine == cpos.line)=true:=by rfl) (hK:X.K=K:=by rfl) :
  PE X (.Call (.Attribute o name apos) [] [] cpos) (tG K (gMutC g i π [])):=by
 subst hK;refine(d3t PySem.F.plainAttrs_list slot hty hm ho hbase hline).mono fun σ H Q t=>?_
 obtain⟨x,v,h1,h2,h3,h4⟩:=c7t (t:=fun _ H Q=>Q [] H) (vs:=[]) ok rfl (fun _ _ _ q=>q) t
 exact⟨x,v,h1,h2,h3,h4⟩
end
def a7y(M:GM)(fs:GA):GE:=fun Γ=>(fs Γ).bind fun p=>(seeL p.2 p.1).bind fun os=>(M ((O.dl os).map .frz)).bind fun r=>match r.1 with
 |.frz d=>(a3z d).bind fun _=>some (.own (.frz d),p.2)
 |_=>none
section
variable {K:L2.FG}
theorem d2c{F H:Hp}(le:Same F H){vs:List V}{os:List O}(h:Sees K F H vs os):RepL K H vs (O.dl os):=by
 unfold Sees at h
 induction h with
 |nil=>exact .nil
 |cons p t ih=>obtain⟨B,h⟩:=p;exact .cons (a3v le h) ih
theorem c4r{M:GM}{fs:GA}{Γ Γ':Gm}{r:R}(e:a7y M fs Γ=some (r,Γ')):∃rs os d fin v,fs Γ=some (rs,Γ')/\seeL Γ' rs=some os/\M ((O.dl os).map .frz)=some (.frz d,fin)/\a3z d=some v/\r=.own (.frz d):=by
 unfold a7y at e;cases q1:fs Γ with
 |none=>rw[q1] at e;cases e
 |some p=>
  rw[q1] at e;dsimp only[Option.bind] at e;cases q2:seeL p.2 p.1 with
  |none=>rw[q2] at e;cases e
  |some os=>
   rw[q2] at e;dsimp only at e;cases q3:M ((O.dl os).map .frz) with
   |none=>rw[q3] at e;cases e
   |some z=>
    obtain⟨o,fin⟩:=z;rw[q3] at e;dsimp only at e;cases o with
    |frz d=>
     dsimp only at e;cases q4:a3z d with
     |none=>rw[q4] at e;cases e
     |some v=>rw[q4] at e;cases e;exact⟨p.1,os,d,fin,v,rfl,q2,q3,q4,rfl⟩
    |_=>cases e
variable {X:Cx} {k n:Nat} {f:Addr} {fd:FuncData} {ps:List Str} {x:Str} {p pos:Pos} {e:Expr} {es:List Expr} {fs:GA} {st:Stmt} {M:GM}
theorem d2d{σ:St}{H:Hp}{Q:VK}(t:tG K (a7y M fs) σ H Q)(hn:∀rs Γ Γ',fs Γ=some (rs,Γ')->rs.length=n):tCall (SpM K n M) [] E1 (tGA K fs) σ H Q:=by
 obtain⟨F,A,Γ,rr,Γ',k,e,w⟩:=t;obtain⟨rs,os,d,fin,v0,e1,e2,e3,e4,rfl⟩:=c4r e;refine⟨F,A,Γ,rs,Γ',k,e1,fun vs H1 pp=>?_⟩
 show SpM K n M (vs++[]) H1 Q E0;rw[List.append_nil];obtain⟨F1,le,see,res⟩:=pp.res e2 w;obtain⟨_,_,_,_,hh⟩:=pp;refine⟨by rw[<-hh.length];exact hn rs Γ Γ' e1,H1,[],(O.dl os).map .frz,.frz d,fin,⟨Same.refl _,a9w (d2c le see),.nil,fun _ m=>by cases m⟩,e3,fun v H' pc=>?_⟩
 obtain⟨F5,A5,x5,k5⟩:=pc;have s:Same H1 H':=fun a o e=>x5.keep a o e (by simp)
 have ev:v=v0:=by
  obtain⟨B,C,h1,_⟩:=k5.os.one;exact a0z h1 e4
 subst ev;exact res v H' [] s (.frz (.flat e4 .nil) .nil) .nil (fun _ m=>by cases m)
theorem b6k(D:DefAt X.K X.mg x st f fd ps)(Fn:FnOk X.prog X.w X.K X.mg X.base CX0 k f fd ps (SpM K n M))(hr:Room k X.A)(ha:PA X (e::es) (tGA K fs))(hn:∀rs Γ Γ',fs Γ=some (rs,Γ')->rs.length=n)(hg:Gl X x:=by rfl)(hdb:(x == ("__debug__":Str))=false:=by decide)
  (he:starEach (e::es) X.env=(false,eval e X.env)::starEach es X.env:=by rfl) (hpl:(backTo pos (starEach es X.env)).any (·.1)=false:=by rfl) :
  PE X (.Call (.Name x p) (e::es) [] pos) (tG K (a7y M fs)):=(pcall D Fn hr ha hg hdb he hpl).mono fun _ _ _ t=>d2d t hn
theorem d6q{P:Program}{w:World}{mg:Str->Option Value}{base:Heap}{k:Nat}{f:Addr}{fd:FuncData}{ps:List Str}{M:GM}(F:FnOk P w K mg base CX0 k f fd ps (SpM K 1 M))(h:∀ns:List Int,ns.length<=63->∃fin,M [.frz (.scr ns)]=some (.frz (.bl true),fin)):
  FnOk P w K mg base CX0 k f fd ps (fun vs H Q _=>∃(a:Addr) (ns:List Int),vs=[.ref a]/\SqL K H a (ns.map V.int)/\ns.length<=63/\∀H',Q (.bl true) H'):=F.imp fun vs H Q E q=>by
 obtain⟨a,ns,rfl,hS,hl,q⟩:=q;obtain⟨fin,e⟩:=h ns hl;refine⟨rfl,H,[],[.frz (.scr ns)],_,fin,⟨Same.refl _,.frz (.scr hS .nil) .nil,.nil,fun _ m=>by cases m⟩,e,fun v H' pc=>?_⟩
 obtain⟨F5,A5,x5,k5⟩:=pc;obtain⟨B,C,h1,_⟩:=k5.os.one;cases a0z h1 rfl;exact q H'
end
end L2
namespace L2
open PySem
open Lean Meta in
simproc_decl evBind (Option.bind _ _):=fun e=>do
 let a:=e.getAppArgs
 unless a.size == 4 do return .continue
 let r0 <-Simp.simp a[2]!
 let r:={ r0 with expr:=(<-instantiateMVars r0.expr).cleanupAnnotations.headBeta}
 let pr <-match r.proof? with
  |none=>pure none
  |some p=>pure (some (<-mkCongrArg (.lam `z (<-inferType a[2]!) (mkApp4 e.getAppFn a[0]! a[1]! (.bvar 0) a[3]!) .default) p))
 if r.expr.isAppOfArity ``Option.some 2 then
  return .visit { expr:=(mkApp a[3]! r.expr.appArg!).headBeta,proof?:=pr}
 if r.expr.isAppOfArity ``Option.none 1 then
  return .done { expr:=mkApp (.const ``Option.none (e.getAppFn.constLevels!.drop 1)) a[1]!,proof?:=pr}
 return .done { expr:=mkApp4 e.getAppFn a[0]! a[1]! r.expr a[3]!,proof?:=pr}
open Lean Meta in
simproc_decl evMap (Option.map _ _):=fun e=>do
 let a:=e.getAppArgs
 unless a.size == 4 do return .continue
 let r0 <-Simp.simp a[3]!
 let r:={ r0 with expr:=(<-instantiateMVars r0.expr).cleanupAnnotations.headBeta}
 let pr <-match r.proof? with
  |none=>pure none
  |some p=>pure (some (<-mkCongrArg (.lam `z (<-inferType a[3]!) (mkApp4 e.getAppFn a[0]! a[1]! a[2]! (.bvar 0)) .default) p))
 if r.expr.isAppOfArity ``Option.some 2 then
  return .visit { expr:=mkApp2 (.const ``Option.some (e.getAppFn.constLevels!.drop 1)) a[1]! (mkApp a[2]! r.expr.appArg!).headBeta,proof?:=pr}
 if r.expr.isAppOfArity ``Option.none 1 then
  return .done { expr:=mkApp (.const ``Option.none (e.getAppFn.constLevels!.drop 1)) a[1]!,proof?:=pr}
 return .done { expr:=mkApp4 e.getAppFn a[0]! a[1]! a[2]! r.expr,proof?:=pr}
section
variable (f g h:GS) (fa fb fc:GE) (fs:GA) (ft gt:GT) (lo hi:GO) (Γ:Gm) (i n:Nat) (o:O) (d:D) (ds:List D) (os:List O) (gg:GG) (M:GM) (op:List O->Option O) (mu:O->List O->Option (O×O)) (c:List O->O)
theorem a0r:a0l f g Γ=(f Γ).bind fun p=>match p.1 with
 |.nx=>g p.2
 |.bk=>some (.bk,p.2)
 |.ct=>some (.ct,p.2)
 |.rt o=>some (.rt o,p.2):=rfl
theorem a1p:gsNil Γ=some (.nx,Γ):=rfl
theorem a1t:gsSet i fa Γ=(fa Γ).bind fun p=>match p.1 with
 |.own o=>if i < p.2.length then some (.nx,p.2.set i (some o)) else none
 |_=>none:=rfl
theorem a3p:gsRet fa Γ=(fa Γ).bind fun p=>match p.1 with
 |.own o=>some (.rt o,p.2)
 |_=>none:=rfl
theorem a2q:a2s fa Γ=(fa Γ).bind fun p=>some (.nx,p.2):=rfl
theorem a1m:gsIf ft f g Γ=(ft Γ).bind fun p=>if p.1=true then f p.2 else g p.2:=rfl
theorem b4w:gsPut fa fb fc Γ=(fa Γ).bind fun p=>(fb p.2).bind fun q=>(fc q.2).bind fun r=>match p.1,q.1,r.1 with
 |.own v,.var i,.own y=>match r.2[i]? with
  |some (some o)=>(mSet o [v,y]).bind fun z=>some (.nx,r.2.set i (some z.1))
  |_=>none
 |_,_,_=>none:=rfl
theorem a6m:gsFor fa gg f Γ=(gFrz fa Γ).bind fun p=>match p.1 with
 |.own (.frz (.lst ds))=>a2a gg f ds p.2
 |_=>none:=rfl
theorem c7u:a9s fs gg f Γ=(fs Γ).bind fun p=>(int1 p.1).bind fun j=>a2a gg f (rngD 0 j.toNat) p.2:=rfl
theorem e0f:b5z fs gg f Γ=(fs Γ).bind fun p=>(int3 p.1).bind fun j=>a2a gg f (rngC j.1 (-1) (j.1 - j.2).toNat) p.2:=rfl
theorem a3s:gC d Γ=some (.own (.frz d),Γ):=rfl
theorem a0n:gVar i Γ=match Γ[i]? with
 |some (some (.frz d))=>some (.own (.frz d),Γ)
 |some (some _)=>some (.var i,Γ)
 |_=>none:=rfl
theorem a1j:gFrz fa Γ=(fa Γ).bind fun p=>match p.1 with
 |.own o=>some (.own (.frz o.d),p.2)
 |.var i=>match p.2[i]? with
  |some (some o)=>some (.own (.frz o.d),p.2.set i (some (.frz o.d)))
  |_=>none
 |_=>none:=rfl
theorem a4z:gMove fa Γ=(fa Γ).bind fun p=>match p.1 with
 |.own o=>some (.own o,p.2)
 |.var i=>match p.2[i]? with
  |some (some o)=>some (.own o,p.2.set i none)
  |_=>none
 |_=>none:=rfl
theorem a0h:gaNil Γ=some ([],Γ):=rfl
theorem a0f:a0a fa fs Γ=(fa Γ).bind fun p=>(fs p.2).bind fun q=>some (p.1::q.1,q.2):=rfl
theorem a1e:gOp op fs Γ=(fs Γ).bind fun p=>(seeL p.2 p.1).bind fun os=>(op os).bind fun o=>some (.own o,p.2):=rfl
theorem a3f:gSeq c fs Γ=(fs Γ).bind fun p=>if p.1.length<=1000 then(ownL p.1).bind fun os=>some (.own (c os),p.2) else none:=rfl
theorem a8p:c2b Γ=some (.own (.dct []),Γ):=rfl
theorem a5z:gT fa Γ=(fa Γ).bind fun p=>match p.1 with
 |.own (.frz (.bl b))=>some (b,p.2)
 |_=>none:=rfl
theorem a4e:gTru fa Γ=(fa Γ).bind fun p=>(seeR p.2 p.1).bind fun o=>(truO o).bind fun b=>some (b,p.2):=rfl
theorem a6d:gNotT ft Γ=(ft Γ).bind fun p=>some (!p.1,p.2):=rfl
theorem b1p:gAndT ft gt Γ=(ft Γ).bind fun p=>if p.1=true then gt p.2 else some (false,p.2):=rfl
theorem b0d:gOrT ft gt Γ=(ft Γ).bind fun p=>if p.1=true then some (true,p.2) else gt p.2:=rfl
theorem c7v:gIf ft fa fb Γ=(ft Γ).bind fun p=>if p.1=true then fa p.2 else fb p.2:=rfl
theorem d6r:gAndV fa fb Γ=(gT fa Γ).bind fun p=>if p.1=true then fb p.2 else gC (.bl false) p.2:=rfl
theorem a1k:gCall M fs Γ=(fs Γ).bind fun p=>(a3b p.1 p.2).bind fun q=>(M q.1).bind fun r=>some (.own r.1,a4y p.1 r.2 q.2):=rfl
theorem a4w:gMut mu fa fs Γ=(fa Γ).bind fun p=>match p.1 with
 |.var i=>match p.2[i]? with
  |some (some (.lst _))=>(fs p.2).bind fun q=>(ownL q.1).bind fun os=>match q.2[i]? with
   |some (some o)=>(mu o os).bind fun z=>some (.own z.2,q.2.set i (some z.1))
   |_=>none
  |_=>none
 |_=>none:=rfl
theorem a9h:b0b Γ=some (none,Γ):=rfl
theorem a9i:a8x fa Γ=(fa Γ).bind fun p=>(intR p.1).map fun i=>(some i,p.2):=rfl
theorem a7g:a7w fa lo hi Γ=(fa Γ).bind fun p=>(lo p.2).bind fun q=>(hi q.2).bind fun r=>(seeR r.2 p.1).bind fun o=>(slO o q.1 r.1).bind fun o'=>some (.own o',r.2):=rfl
theorem a4k(src:Gm->Option (List D×Gm))(k:Nat)(cap:List Nat):a4v src gg ft fa k cap Γ=(src Γ).bind fun p=>
 (compLoop gg ft fa p.1 (List.replicate k none++(capIn cap p.2).1) []).bind fun q=>if q.2.length=k+cap.length then some (.own (.lst q.1),a8y cap (q.2.drop k) (capIn cap p.2).2) else none:=rfl
theorem b1q:srcL fa Γ=(gFrz fa Γ).bind fun p=>match p.1 with
 |.own (.frz (.lst ds))=>some (ds,p.2)
 |_=>none:=rfl
theorem b0e:srcR1 fs Γ=(fs Γ).bind fun p=>(int1 p.1).map fun j=>(rngD 0 j.toNat,p.2):=rfl
theorem b3i:gYes Γ=some (true,Γ):=rfl
theorem a1q:a0p i d Γ=if i < Γ.length then some (Γ.set i (some (.frz d))) else none:=rfl
theorem a7h(gs:List GG):ggTup gs (.tup ds) Γ=ggAll gs ds Γ:=rfl
theorem a5t:ggAll [] [] Γ=some Γ:=rfl
theorem a5u(gs:List GG):ggAll (gg::gs) (d::ds) Γ=(gg d Γ).bind fun Γ1=>ggAll gs ds Γ1:=rfl
theorem a1n(m:List Bool):runM n m f os=(f (os.map some++List.replicate (n - os.length) none)).bind fun p=>p.1.val.bind fun o=>if p.2.length=n then some (o,keepM m (p.2.take os.length)) else none:=rfl
theorem c2q:a2a gg f [] Γ=some (.nx,Γ):=rfl
theorem a5v:a2a gg f (d::ds) Γ=(gg d Γ).bind fun Γ1=>(f Γ1).bind fun q=>match q.1 with
 |.nx=>a2a gg f ds q.2
 |.ct=>a2a gg f ds q.2
 |.bk=>some (.nx,q.2)
 |.rt o=>some (.rt o,q.2):=rfl
theorem b0f:compLoop gg ft fa [] Γ os=some (os,Γ):=rfl
theorem a7z:compLoop gg ft fa (d::ds) Γ os=(gg d Γ).bind fun Γ1=>(ft Γ1).bind fun p=>if p.1=true then
   (fa p.2).bind fun q=>(ownL [q.1]).bind fun os'=>if os.length < 1000000 then compLoop gg ft fa ds q.2 (os++os') else none
  else compLoop gg ft fa ds p.2 os:=rfl
theorem b8r:slO (.frz (.lst ds)) l u=some (.lst ((cutD ds l u).map .frz)):=rfl
theorem b3j(z:Str):slO (.frz (.str z)) l u=if z.length<=1000000 then some (.frz (.str (Txt.slice z l u))) else none:=rfl
theorem b3k:listD (.lst os)=frzL os:=rfl
theorem d4j:frzL []=some []:=rfl
theorem d4k:frzL (.frz d::os)=(frzL os).bind fun ds=>some (d::ds):=rfl
theorem a4c(a b:Int):oAdd [.frz (.int a),.frz (.int b)]=some (.frz (.int (a+b))):=rfl
theorem d6s(a b:Str):oAdd [.frz (.str a),.frz (.str b)]=if a.length+b.length<=1000000 then some (.frz (.str (a++b))) else none:=rfl
theorem c7w(a b:List O):oAdd [.lst a,.lst b]=(listD (.lst a)).bind fun xs=>(listD (.lst b)).bind fun ys=>if xs.length+ys.length<=1000000 then some (.lst ((xs++ys).map .frz)) else none:=rfl
theorem c2r(a:List O)(b:List D):oAdd [.lst a,.frz (.lst b)]=(listD (.lst a)).bind fun xs=>if xs.length+b.length<=1000000 then some (.lst ((xs++b).map .frz)) else none:=rfl
theorem b6l(a:List D)(b:List O):oAdd [.frz (.lst a),.lst b]=(listD (.lst b)).bind fun ys=>if a.length+ys.length<=1000000 then some (.lst ((a++ys).map .frz)) else none:=rfl
theorem a3d(C:Int->Int->Bool)(q:Int->Int->D)(a b:Int):oInt C q [.frz (.int a),.frz (.int b)]=if C a b=true then some (.frz (q a b)) else none:=rfl
theorem b6m(a b:Int):oMulA [.frz (.int a),.frz (.int b)]=if(-(2 ^ 64) < a/\a < 2 ^ 64)\/(-(2 ^ 64) < b/\b < 2 ^ 64) then some (.frz (.int (a * b))) else none:=rfl
theorem c7x(a:Str)(b:Int):oMulA [.frz (.str a),.frz (.int b)]=if MulOk a b then some (.frz (.str (Txt.mul a b))) else none:=rfl
theorem d4l(a:Int):oNeg [.frz (.int a)]=some (.frz (.int (-a))):=rfl
theorem a3e(a:O):oIx [a,.frz d]=oIx1 a d:=rfl
theorem a4b(k:Int):oIx1 (.frz (.lst ds)) (.int k)=(atI ds k).map .frz:=rfl
theorem a5p(k:Int):oIx1 (.frz (.tup ds)) (.int k)=(atI ds k).map .frz:=rfl
theorem a8a(k:Int):oIx1 (.lst os) (.int k)=(atI os k).bind unfrz:=rfl
theorem e0g(z:Str)(k:Int):oIx1 (.frz (.str z)) (.int k)=if z.length<=1000000 then(atI z.cps.toList k).map fun c=>.frz (.str ⟨#[c]⟩) else none:=rfl
theorem a4l:unfrz (.frz d)=some (.frz d):=rfl
theorem a4m(a:O):oLen [a]=(lenD a.d).map fun n=>.frz (.int n):=rfl
theorem a3j:lenD (.lst ds)=some (ds.length:Int):=rfl
theorem a4p(a b:O):oEq [a,b]=if okD 40 a.d=true/\okD 40 b.d=true then some (.frz (.bl (eqD a.d b.d))) else none:=rfl
theorem c2s(a:Bool):oInt1 [.frz (.bl a)]=some (.frz (.int (if a then 1 else 0))):=rfl
theorem c0r(ps:List O)(v:O)(k:Int):mSet (.lst ps) [v,.frz (.int k)]=(ixN ps.length k).map fun j=>(.lst (ps.set j v),.frz .non):=rfl
theorem a0w:a3b [] Γ=some ([],Γ):=rfl
theorem a0x(rs:List R):a3b (.own o::rs) Γ=(a3b rs Γ).bind fun p=>some (o::p.1,p.2):=rfl
theorem a1s(rs:List R):a3b (.var i::rs) Γ=match Γ[i]? with
  |some (some o)=>(a3b rs (Γ.set i none)).bind fun p=>some (o::p.1,p.2)
  |_=>none:=rfl
theorem a2e(fin:Gm):a4y [] fin Γ=Γ:=by cases fin <;> rfl
theorem a2f(rs:List R)(x:Option O)(fin:Gm):a4y (.own o::rs) (x::fin) Γ=a4y rs fin Γ:=rfl
theorem a3m(rs:List R)(x:Option O)(fin:Gm):a4y (.var i::rs) (x::fin) Γ=(a4y rs fin Γ).set i x:=rfl
theorem a0j:seeL Γ []=some []:=rfl
theorem a0k(r:R)(rs:List R):seeL Γ (r::rs)=(seeR Γ r).bind fun o=>(seeL Γ rs).bind fun os=>some (o::os):=rfl
theorem a0i:seeR Γ (.own o)=some o:=rfl
theorem a2x:seeR Γ (.var i)=(Γ[i]?).join:=rfl
theorem a1b:ownL []=some []:=rfl
theorem a1h(rs:List R):ownL (.own o::rs)=(ownL rs).bind fun os=>some (o::os):=rfl
theorem a9j(k:Int):intR (.own (.frz (.int k)))=some k:=rfl
theorem a5m(m:List Bool)(x:Option O):keepM (true::m) (x::Γ)=x::keepM m Γ:=rfl
theorem a2y(m:List Bool)(x:Option O):keepM (false::m) (x::Γ)=none::keepM m Γ:=rfl
theorem a2o(m:List Bool):keepM m []=[]:=by
 cases m with
 |nil=>rfl
 |cons b m=>cases b <;> rfl
theorem a3x:(Fl.rt o).val=some o:=rfl
theorem b3l:Fl.nx.val=some (.frz .non):=rfl
theorem a5n(b:Bool):truO (.frz (.bl b))=some b:=rfl
theorem a7i:truO (.frz (.lst ds))=some (!ds.isEmpty):=rfl
theorem a1o:(O.frz d).d=d:=rfl
theorem a5a:(O.lst os).d=.lst (O.dl os):=rfl
theorem c0s:(O.tup os).d=.tup (O.dl os):=rfl
theorem a6e:O.dl []=[]:=rfl
theorem a6f:O.dl (o::os)=o.d::O.dl os:=rfl
theorem b1y:O.dl (ds.map .frz)=ds:=a4t ds
end
theorem a2i{α:Type}(a:α)(l:List α):atI (a::l) 0=some a:=a3i (j:=0) rfl
theorem a3q{α:Type}(a b:α)(l:List α):atI (a::b::l) 1=some b:=a3i (j:=1) rfl
theorem a5w{α:Type}(a b c:α)(l:List α):atI (a::b::c::l) 2=some c:=a3i (j:=2) rfl
theorem b0g{α:Type}(a b c d:α)(l:List α):atI (a::b::c::d::l) 3=some d:=a3i (j:=3) rfl
theorem b6n{α:Type}(a b c d e:α)(l:List α):atI (a::b::c::d::e::l) 4=some e:=a3i (j:=4) rfl
theorem c7y(ns:List Int)(l u:Option Int):slO (.frz (.scr ns)) l u=some (.lst ((cutD (ns.map D.int) l u).map .frz)):=rfl
theorem c0t(i:Nat)(cap:List Nat)(Γ:Gm):srcV i cap Γ=if i∈cap then none else match Γ[i]? with
 |some (some (.lst os))=>(frzL os).map fun ds=>(ds,Γ)
 |_=>none:=rfl
theorem c7z(g:O->List O->Option (O×O))(i:Nat)(π:List Nat)(ds:List D)(Γ:Gm):gMutC g i π ds Γ=match Γ[i]? with
 |some (some o)=>(setP (fun c=>g c (ds.map .frz)) o π).bind fun z=>some (.own z.2,Γ.set i (some z.1))
 |_=>none:=rfl
theorem a4f(Γ:Gm):capIn [] Γ=([],Γ):=rfl
theorem a8q(i:Nat)(cap:List Nat)(Γ:Gm):capIn (i::cap) Γ=((Γ[i]?).join::(capIn cap (Γ.set i none)).1,(capIn cap (Γ.set i none)).2):=rfl
theorem a4g(x Γ:Gm):a8y [] x Γ=Γ:=by cases x <;> rfl
theorem a8r(i:Nat)(cap:List Nat)(x:Option O)(Γi Γ:Gm):a8y (i::cap) (x::Γi) Γ=(a8y cap Γi Γ).set i x:=rfl
theorem b0h(M:GM)(fs:GA)(Γ:Gm):a7y M fs Γ=(fs Γ).bind fun p=>(seeL p.2 p.1).bind fun os=>(M ((O.dl os).map .frz)).bind fun r=>match r.1 with
 |.frz d=>(a3z d).bind fun _=>some (.own (.frz d),p.2)
 |_=>none:=rfl
theorem c0u(a:Int):a3z (.int a)=some (.int a):=rfl
theorem c8a(a:Str):a3z (.str a)=some (.str a):=rfl
theorem c0v(a:Bool):a3z (.bl a)=some (.bl a):=rfl
theorem a3k(n:Nat)(a:Int):okD n (.int a)=true:=by cases n <;> rfl
theorem a6q(n:Nat)(a:Str):okD n (.str a)=true:=by cases n <;> rfl
theorem a4n(a b:Int):eqD (.int a) (.int b)=(a == b):=by unfold eqD;rfl
theorem b0i(a b:Str):eqD (.str a) (.str b)=(a == b):=by unfold eqD;rfl
end L2
namespace L2
open PySem PySem.Spec PyProof.Rows
section
variable {X:Cx} {pins:List (Addr×Obj)} {s:Shared} {σ:St} {H:Hp}
end
section
variable {X:Cx} {K:L2.FG}
end
end L2
namespace L2
open PySem
variable{g:GG}{ct:GT}{ce:GE}
def b0j(g:GG)(ct:GT)(ce:GE)(d:D)(Γ:Gm):Option (Option R×Gm):=(g d Γ).bind fun Γ1=>(ct Γ1).bind fun p=>if p.1=true then(ce p.2).bind fun q=>some (some q.1,q.2) else some (none,p.2)
theorem b8s{d:D}{ds:List D}{Γ Γ':Gm}{os:List O}{r:Option R}(h:b0j g ct ce d Γ=some (r,Γ')):
  compLoop g ct ce (d::ds) Γ os=match r with
   |some r=>(ownL [r]).bind fun os'=>if os.length < 1000000 then compLoop g ct ce ds Γ' (os++os') else none
   |none=>compLoop g ct ce ds Γ' os:=by
 rw[a7z];unfold b0j at h;cases e1:g d Γ with
 |none=>rw[e1] at h;cases h
 |some Γ1=>
  rw[e1] at h;rw[Option.bind_some] at h ⊢;cases e2:ct Γ1 with
  |none=>rw[e2] at h;cases h
  |some p=>
   rw[e2] at h;rw[Option.bind_some] at h ⊢;by_cases hp:p.1=true
   ·rw[if_pos hp] at h ⊢;cases e3:ce p.2 with
    |none=>rw[e3] at h;cases h
    |some q=>rw[e3] at h;cases h;rfl
   ·rw[if_neg hp] at h ⊢;cases h;rfl
theorem b2m{α:Type}{g:GG}{ct:GT}{ce:GE}(St:Gm->Prop)(enc:α->D)(p:α->Bool)(val:α->D):∀(xs:List α) (acc:List D) (Γ:Gm),St Γ->acc.length+xs.length < 1000000->
  (∀x∈xs,∀Γ,St Γ->∃Γ',b0j g ct ce (enc x) Γ=some (if p x=true then some (.own (.frz (val x))) else none,Γ')/\St Γ')->
  ∃Γ',St Γ'/\compLoop g ct ce (xs.map enc) Γ (acc.map .frz)=some ((acc++(xs.filter p).map val).map .frz,Γ')
 |[],acc,Γ,hS,_,_=>⟨Γ,hS,by rw[List.map_nil,b0f,List.filter_nil,List.map_nil,List.append_nil]⟩
 |x::xs,acc,Γ,hS,hl,h=>by
  rw[List.length_cons] at hl;obtain⟨Γ1,e1,s1⟩:=h x (.head _) Γ hS;by_cases hp:p x=true
  ·rw[if_pos hp] at e1;rw[List.map_cons,b8s e1];obtain⟨Γ2,s2,e2⟩:=b2m St enc p val xs (acc++[val x]) Γ1 s1 (by rw[List.length_append,List.length_singleton];omega) fun y hy=>h y (.tail _ hy)
   refine⟨Γ2,s2,?_⟩;show(if(acc.map O.frz).length < 1000000 then compLoop g ct ce (xs.map enc) Γ1 (acc.map O.frz++[O.frz (val x)]) else none)=_
   rw[if_pos (by rw[List.length_map];omega),List.filter_cons_of_pos hp,List.map_cons,show acc++val x::(xs.filter p).map val=acc++[val x]++(xs.filter p).map val by simp,<-e2,List.map_append]
   rfl
  ·rw[if_neg hp] at e1;rw[List.map_cons,b8s e1];obtain⟨Γ2,s2,e2⟩:=b2m St enc p val xs acc Γ1 s1 (by omega) fun y hy=>h y (.tail _ hy)
   refine⟨Γ2,s2,?_⟩;rw[List.filter_cons_of_neg hp];exact e2
theorem d2e{α:Type}(St:Gm->Prop)(enc:α->D)(val:α->D)(xs:List α)(Γ:Gm)(hS:St Γ)(hl:xs.length < 1000000)
  (h:∀x∈xs,∀Γ,St Γ->∃Γ',b0j g ct ce (enc x) Γ=some (some (.own (.frz (val x))),Γ')/\St Γ'):∃Γ',St Γ'/\compLoop g ct ce (xs.map enc) Γ []=some ((xs.map val).map .frz,Γ'):=by
 obtain⟨Γ',s,e⟩:=b2m St enc (fun _=>true) val xs [] Γ hS (by rw[List.length_nil];omega) fun x hx Γ hΓ=>h x hx Γ hΓ
 refine⟨Γ',s,?_⟩;rw[List.nil_append,List.filter_eq_self.mpr (fun _ _=>rfl)] at e
 exact e
theorem b6o(g:GG)(ct:GT)(ce:GE)(d:D)(Γ:Gm):b0j g ct ce d Γ=(g d Γ).bind fun Γ1=>(ct Γ1).bind fun p=>if p.1=true then(ce p.2).bind fun q=>some (some q.1,q.2) else some (none,p.2):=rfl
theorem c8b(os:List O):b3f (.lst os) []=some (.lst [],.frz .non):=rfl
theorem a5x{α:Type}{g:GG}{f:GS}(enc:α->D)(P:List α->Gm->Prop):∀(xs pre:List α) (Γ:Gm),P pre Γ->
  (∀q x post Γ,xs=q++x::post->P (pre++q) Γ->∃Γ2,(g (enc x) Γ).bind f=some (.nx,Γ2)/\P (pre++q++[x]) Γ2)->∃Γ',a2a g f (xs.map enc) Γ=some (.nx,Γ')/\P (pre++xs) Γ'
 |[],pre,Γ,h,_=>⟨Γ,rfl,by rw[List.append_nil];exact h⟩
 |x::xs,pre,Γ,h,st=>by
  obtain⟨Γ2,h2,h3⟩:=st [] x xs Γ rfl (by rw[List.append_nil];exact h)
  rw[List.append_nil] at h3;obtain⟨Γ',h4,h5⟩:=a5x enc P xs (pre++[x]) Γ2 h3 fun q y post Γ e p=>by
   obtain⟨Γ2,b,c⟩:=st (x::q) y post Γ (by rw[e];rfl) (by rw[show pre++x::q=pre++[x]++q by simp];exact p)
   exact⟨Γ2,b,by rw[show pre++[x]++q++[y]=pre++x::q++[y] by simp];exact c⟩
  refine⟨Γ',?_,by rw[show pre++x::xs=pre++[x]++xs by simp];exact h5⟩
  rw[List.map_cons,a5v];cases q:g (enc x) Γ with
  |none=>rw[q] at h2;cases h2
  |some Γ1=>
   rw[q] at h2;have h2:f Γ1=some (.nx,Γ2):=h2;show(f Γ1).bind _=_;rw[h2];exact h4
theorem d2f{α:Type}{f:GS}(enc:α->D)(P:Gm->Prop)(xs:List α)(Γ:Gm)(h:P Γ)(st:∀x∈xs,∀Γ,P Γ->∃Γ2,(g (enc x) Γ).bind f=some (.nx,Γ2)/\P Γ2):∃Γ',a2a g f (xs.map enc) Γ=some (.nx,Γ')/\P Γ':=
 a5x enc (fun _ Γ=>P Γ) xs [] Γ h fun q x post Γ e p=>st x (by rw[e];simp) Γ p
end L2
namespace L2
open PySem PySem.Spec PyProof.Rows
section
variable {X:Cx} {K:L2.FG} {fa fk fv:GE} {f:GS} {m:List Bool} {W:Option XW} {tg l:Expr} {t:TG} {gg:GG} {body:List Stmt} {p0 p1 pos:Pos}
end
variable{L A ch:List Addr}{t' x1 n k:Nat}{P:Program}{w:World}{K:L2.FG}{elts:List Expr}{pos:Pos}{it l e C fa:Addr}{Src:Hp->Prop}{σ:St}{H F:Hp}{h h':Heap}{X:Cx}{dx:Option Addr}{vs:List V}{x qual:Str}{st:Stmt}{fd:FuncData}{N ps:List Str}{W:XW}{mN:Str->Option Value}
section
variable {X:Cx} {K:L2.FG} {fo f:GE} {fs:GA} {g:List O->Option O} {r:V->List V->Hp->VK->Prop} {o e:Expr} {es:List Expr} {name:Str} {id:String} {apos cpos pos:Pos}
theorem b4x:∀{xs:List Str} {its:List Value},Vals (xs.map V.str) its->∃ps:List (Str×Tok),its=ps.map (fun p=>Value.str p.1 p.2)/\ps.map (·.1)=xs
 |[],its,h=>by
  rw[List.map_nil] at h;cases h;exact⟨[],rfl,rfl⟩
 |i::is,its,h=>by
  rw[List.map_cons] at h;cases h with
  |cons r t=>
   obtain⟨ps,e1,e2⟩:=b4x t;obtain⟨tk,rfl⟩:=r;exact⟨(i,tk)::ps,by rw[e1];rfl,by rw[List.map_cons,e2]⟩
def oFmt:List O->Option O
 |[.frz (.str x)]=>if x.length<=1000000 then some (.frz (.str x)) else none
 |[.frz (.int i)]=>if i.natAbs.log2 < 1920 then some (.frz (.str (Str.ofString (toString i)))) else none
 |_=>none
theorem b3m(x:Str):oFmt [.frz (.str x)]=if x.length<=1000000 then some (.frz (.str x)) else none:=rfl
theorem c8c{v:Expr}(h:PE X v (tG K f)):PE X (.FormattedValue v (-1) none pos) (tG K (gUn oFmt f)):=by
 intro pins s σ H Q I t;have ok:OpOk K (r1L fun x H Q=>(∃z:Str,x=.str z/\z.length<=sizeLine/\Q (.str z) H)\/∃i:Int,x=.int i/\i.natAbs.log2 < 1920/\Q (.str (Str.ofString (toString i))) H) oFmt:=by
  intro F H vs os o Q le see e res;unfold oFmt at e;split at e
  ·split at e
   ·rename_i hi
    cases e;obtain⟨x,B,rfl,h1⟩:=see.one;cases a0z h1 rfl;exact⟨_,rfl,.inl ⟨_,rfl,ml hi,res.flat rfl⟩⟩
   ·cases e
  ·split at e
   ·rename_i hi
    cases e;obtain⟨x,B,rfl,h1⟩:=see.one;cases a0z h1 rfl;exact⟨_,rfl,.inr ⟨_,rfl,hi,res.flat rfl⟩⟩
   ·cases e
  ·cases e
 refine wpAny_FormattedValue_plain (thn (h pins s σ H _ I (d5w ok t)) fun u s1 ⟨x,H1,I1,r1,q1⟩=>?_)
 rcases q1 with⟨z,rfl,hz,q⟩|⟨i,rfl,hi,q⟩
 ·obtain⟨t',rfl⟩:=r1;exact PyProof.Rows.formatField_str (fun t2 tk=>⟨.str z,H1,I1.tok _,⟨_,rfl⟩,q⟩) hz
 ·obtain⟨t',rfl⟩:=r1;exact wpAny_formatField_int hi ⟨.str _,H1,I1.tok _,⟨_,rfl⟩,q⟩
abbrev GJ:=Gm->Option (Str×Gm)
def gjNil:GJ:=fun Γ=>some (Str.empty,Γ)
def a3r(f:GE)(j:GJ):GJ:=fun Γ=>(f Γ).bind fun p=>match p.1 with
 |.own (.frz (.str z))=>(j p.2).bind fun q=>some (z++q.1,q.2)
 |_=>none
def a7j(j:GJ):GE:=fun Γ=>(j Γ).bind fun p=>if p.1.length<=1000000 then some (.own (.frz (.str p.1)),p.2) else none
theorem b6p(Γ:Gm):gjNil Γ=some (Str.empty,Γ):=rfl
theorem b0k(f:GE)(j:GJ)(Γ:Gm):a3r f j Γ=(f Γ).bind fun p=>match p.1 with
 |.own (.frz (.str z))=>(j p.2).bind fun q=>some (z++q.1,q.2)
 |_=>none:=rfl
theorem a8b(j:GJ)(Γ:Gm):a7j j Γ=(j Γ).bind fun p=>if p.1.length<=1000000 then some (.own (.frz (.str p.1)),p.2) else none:=rfl
def PJ(X:Cx)(K:L2.FG)(es:List Expr)(j:GJ):Prop:=∀(acc:Str) (pins:List (Addr×Obj)) (s:Shared) (σ:St) (H:Hp) (Q:Str->Hp->Prop) (R:Str->Shared->Prop) (F:Hp) (A:List Addr) (Γ Γ':Gm) (z:Str),Inv X pins σ H s->OK K F H σ Γ A->j Γ=some (z,Γ')->acc.length+z.length<=sizeLine->
 (∀H',Post K F H A σ Γ' [] [] H'->Q (acc++z) H')->(∀out s' H',out.length<=sizeLine->Inv X pins σ H' s'->Q out H'->R out s')->Joins (model X.prog X.w) X.A X.xe (evalEach es X.env) acc R s
theorem b2h(a:Str):a++Str.empty=a:=by
 show Str.mk (a.cps++#[])=a;rw[Array.append_empty]
theorem c2t:PJ X K [] gjNil:=by
 intro acc pins s σ H Q R F A Γ Γ' z I k e hl q hR;cases e;have q':=q H ⟨F,A,Ext.refl,k,True.intro⟩;rw[b2h] at q';exact Joins_nil (hR _ _ _ (by omega) I q')
theorem a5b{es:List Expr}{j:GJ}(he:PE X e (tG K f))(hj:PJ X K es j):PJ X K (e::es) (a3r f j):=by
 intro acc pins s σ H Q R F A Γ Γ' z I k e1 hl q hR;unfold a3r at e1;obtain⟨⟨r1,Γ1⟩,e2,e3⟩:=Option.bind_eq_some_iff.mp e1;dsimp only at e3;split at e3
 ·rename_i y
  obtain⟨⟨z2,Γ2⟩,e4,e5⟩:=Option.bind_eq_some_iff.mp e3;cases e5;rw[Str.length_append] at hl;dsimp only at hl;refine Joins_cons (thn (he pins s σ H (fun v H1=>v=.str y/\Post K F H A σ Γ1 [.own (.frz (.str y))] [v] H1) I ⟨F,A,Γ,_,Γ1,k,e2,fun v H1 pp=>⟨Post.flat pp rfl,pp⟩⟩) fun u s1 ⟨x,H1,I1,r1,hx,pp⟩=>?_)
  subst hx;obtain⟨t,rfl⟩:=r1;refine⟨y,t,rfl,by rw[Str.length_append];omega,?_⟩
  obtain⟨F1,A1,x1,k1,hh⟩:=pp;obtain⟨B,C,h1,h2,h3⟩:=OwnL.one (σ:=σ) (Γ:=Γ1) k1.os;subst h3;obtain⟨k2,x2⟩:=k1.sub h2 (.of_sub (List.sublist_append_right _ _));refine hj (acc++y) pins s1 σ H1 Q R F1 C Γ1 Γ2 z2 I1 k2 e4 (by rw[Str.length_append];omega) (fun H' p2=>?_) hR
  rw[Str.append_assoc];apply q;obtain⟨F2,A2,x3,k3,hh3⟩:=p2;exact⟨F2,A2,(x1.trans x2).trans x3,k3,hh3⟩
 ·cases e3
theorem b0l{v1 v2:Expr}{rest:List Expr}{j:GJ}(h:PJ X K (v1::v2::rest) j):PE X (.JoinedStr (v1::v2::rest) pos) (tG K (a7j j)):=by
 intro pins s σ H Q I t;obtain⟨F,A,Γ,rr,Γ',k,e,w⟩:=t;unfold a7j at e;obtain⟨⟨z,Γ1⟩,e2,e3⟩:=Option.bind_eq_some_iff.mp e;dsimp only at e3;split at e3
 ·rename_i hl
  cases e3;have eacc:Str.empty++z=z:=by
   show Str.mk (#[]++z.cps)=z;rw[Array.empty_append]
  refine wpAny_JoinedStr (h Str.empty pins s σ H (fun out H'=>out=z/\∃v,v=V.str z/\Q v H') _ F A Γ Γ' z I k e2 (by have:Str.empty.length=0:=rfl;rw[this];have:=ml hl;omega) (fun H' pp=>⟨eacc,_,rfl,w _ _ (by
   obtain⟨F1,A1,x1,k1,hh⟩:=pp;exact⟨F1,A1,x1,⟨k1.le,.frz (.flat rfl .nil) k1.os,k1.nd,k1.fr⟩,True.intro⟩)⟩) ?_)
  rintro out s' H' h1 I' ⟨h2,v,hv,hQ⟩;subst hv;subst h2;exact⟨h1,.str out,H',I'.tok _,⟨_,rfl⟩,hQ⟩
 ·cases e3
end
section
variable {X:Cx} {pins:List (Addr×Obj)} {σ:List (Option V)} {H:Hp} {s:Shared} {h':Heap}
theorem Inv.turnLay{T:Addr}{o:HO}(I:Inv X pins σ H s)(k:∀b ob,b∉L->s.heap.get? b=some ob->h'.get? b=some ob)(hL:∀b∈L,FpOk X pins H b)(hT:s.heap.objs.size<=T)
  (new:ObjOk X.prog X.w (upd H T o) h' T o):Inv X pins σ (upd H T o) { s with heap:=h',toks:=t'}:=by
 have hn:H T=none:=I.hok.fresh hT;have nL:∀b u,H b=some u->b∉L:=fun b u e z=>by rw[(hL b z).1] at e;cases e
 have nT:∀b u,H b=some u->b≠T:=fun b u e z=>by rw[z,hn] at e;cases e
 refine I.step (g':=s.gens) (d':=s.drawn) (ch:=L) (fun b hb=>?_) (fun b ob _ _ hc e _=>k b ob hc e) (fun b ob _ _ hc e _=>⟨ob.slots,k b ob hc e⟩) (fun b ob _ e n=>?_)
  (fun b ob hc e=>⟨ob,k b ob hc e⟩) (fun b xs e=>?_) (fun b ob u e=>?_) (fun b ps e=>⟨#[],?_⟩) (fun m hm=>?_) (fun b u e=>?_) I.bare
 ·obtain⟨f0,f1,f2,f3,f4,f5⟩:=hL b hb;exact⟨f3,f1,f4,f5⟩
 ·rw[a0v (fun z=>by subst z;exact absurd (Nat.lt_of_lt_of_le (Heap.lt_size e) hT) (Nat.lt_irrefl _))];exact n
 ·rw[a0v (nT b _ e)];exact e
 ·rw[a0v (nT b _ e)];exact e
 ·rw[a0v (nT b _ e),e];simp
 ·obtain⟨ob,es,ep,ho,r⟩:=hm;exact⟨ob,es,ep,k _ ob (fun z=>(hL _ z).2.1 rfl) ho,r⟩
 ·by_cases hb:b=T
  ·subst hb;rw[a1z] at e;cases e;exact new
  ·rw[a0v hb] at e;refine(I.hok b u e).stay (fun c v hc q=>k c v ?_ q) (fun c q=>by rw[a0v (nT c _ q)];exact q) fun c xs q=>by rw[a0v (nT c _ q)];exact q
   rcases hc with z|z
   ·rw[z];exact nL b u e
   ·exact nL c _ z
theorem Inv.turnL(I:Inv X pins σ H s)(k:∀b ob,b∉L->s.heap.get? b=some ob->h'.get? b=some ob)(hL:∀b∈L,FpOk X pins H b):Inv X pins σ H { s with heap:=h',toks:=t'}:=by
 have nL:∀b u,H b=some u->b∉L:=fun b u e z=>by rw[(hL b z).1] at e;cases e
 refine I.step (g':=s.gens) (d':=s.drawn) (ch:=L) (fun b hb=>?_) (fun b ob _ _ hc e _=>k b ob hc e) (fun b ob _ _ hc e _=>⟨ob.slots,k b ob hc e⟩) (fun b ob _ e n=>n)
  (fun b ob hc e=>⟨ob,k b ob hc e⟩) (fun b xs e=>e) (fun b ob u e=>e) (fun b ps e=>⟨#[],by rw[e];simp⟩) (fun m hm=>?_) (fun b u e=>?_) I.bare
 ·obtain⟨f0,f1,f2,f3,f4,f5⟩:=hL b hb;exact⟨f3,f1,f4,f5⟩
 ·obtain⟨ob,es,ep,ho,r⟩:=hm;exact⟨ob,es,ep,k _ ob (fun z=>(hL _ z).2.1 rfl) ho,r⟩
 ·refine(I.hok b u e).stay (fun c v hc q=>k c v ?_ q) (fun c q=>q) fun c xs q=>q
  rcases hc with z|z
  ·rw[z];exact nL b u e
  ·exact nL c _ z
end
def ItP(Src:Hp->Prop)(n:Nat)(val:Nat->List V->Prop):It:=
 ⟨fun i H=>i < n/\Src H,fun i H x H'=>∃p ws,x=.ref p/\H p=none/\val i ws/\H'=upd H p (.tup ws),fun i H=>n<=i/\Src H⟩
theorem c8d{FP wr:List Addr}{val:Nat->List V->Prop}{tn:Nat->Heap->Prop}(mem:it∈FP)(sub:∀b∈wr,b∈FP)
  (obj:∀i h,tn i h->∀b∈FP,∃o,h.get? b=some o/\∀v,o.data≠.cell v) (keep:∀i h h',tn i h->(∀b∈FP,∀o,h.get? b=some o->h'.get? b=some o)->tn i h')
  (hW:∀(X:Cx),X.prog=P->X.w=w->X.K=K->X.calm=true->∀(pins:List (Addr×Obj)) (s:Shared) (σ:St) (H:Hp),Inv X pins σ H s->Src H->∃(fpW:List Addr) (Pt:Nat->Array Value->Prop) (St:Nat->Heap->Prop) (Mid:Nat->Addr->Heap->Prop),
   WalksT P w X.A it fpW wr n Pt St Mid/\(∀i,tn i s.heap->St i s.heap)/\(∀i h,St i h->tn i h)/\∀i vals,Pt i vals->∃ws,val i ws/\Vals ws vals.toList/\ws.length<=10)
  (self:∀(A:Around) (i:Nat) (s:Shared) (Q:Value->Shared->Prop) (E:Value->Shared->Prop),tn i s.heap->Q (.ref it) s->wpAny (model P w) A (pyIter (.ref it)) Q E s) :
  Turn P w K (.Tuple elts x1 pos) (ItP Src n val) FP it (fun i h=>i<=n/\tn i h) where
 mem:=mem
 obj:=fun i h st=>obj i h st.2
 keep:=fun i h h' st k=>⟨st.1,keep i h h' st.2 k⟩
 item:=by
  intro X hP hw hK hc i pins s σ H E I hf st hg;obtain⟨fpW,Pt,St,Mid,W,toSt,ofSt,pv⟩:=hW X hP hw hK hc pins s σ H I hg.2;subst hP hw hK;refine W.item i s _ E hg.1 (toSt i st.2) fun T vals h1 tk hPt hsz hTup hMid hk1=>?_
  refine⟨.ref T,rfl,W.go elts x1 pos i T _ _ E hMid fun h2 hSt hk2=>?_⟩
  obtain⟨ws,hv,rv,hwl⟩:=pv i vals hPt;have hT2:IsTup h2 T vals:=by
   obtain⟨o,e,c⟩:=hTup;exact⟨o,hk2 T o (W.apart i T h1 hMid) e,c⟩
  have hn:H T=none:=I.hok.fresh hsz;have I2:Inv X pins σ (upd H T (.tup ws)) { s with heap:=h2,toks:=tk}:=I.turnLay (L:=wr) (fun b ob hb e=>hk2 b ob hb (hk1 b ob hb e)) (fun b hb=>hf b (sub b hb)) hsz ⟨by rw[sizeLine_eq];omega,vals.toList,rv,by simpa using hT2⟩
  refine⟨.ref T,_,I2,rfl,⟨T,ws,rfl,hn,hv,rfl⟩,⟨by have:=hg.1;omega,ofSt _ _ hSt⟩,fun b hb=>?_⟩
  have hb0:=(hf b hb).1;rw[a0v]
  ·exact hb0
  ·intro z;subst z;obtain⟨o,e,_⟩:=obj i s.heap st.2 b hb;exact absurd (Nat.lt_of_lt_of_le (Heap.lt_size e) hsz) (Nat.lt_irrefl _)
 done:=by
  intro X hP hw hK hc i pins s σ H E I hf st hg;obtain⟨fpW,Pt,St,Mid,W,toSt,ofSt,pv⟩:=hW X hP hw hK hc pins s σ H I hg.2;subst hP hw hK;have ei:i=n:=by have:=hg.1;have:=st.1;omega
  subst ei;exact W.done s _ E (toSt i st.2) fun h2 tk hk=>⟨rfl,I.turnL (L:=wr) (fun b ob hb e=>hk b ob hb e) fun b hb=>hf b (sub b hb)⟩
 self:=fun A i s Q E st h=>self A i s Q E st.2 h
theorem d2g{val:Nat->List V->Prop}{g:TG}{tb:TS}{D:Ends}(Pv:Nat->St->Hp->Prop)(h0:Pv 0 σ H)(hl:∀i σ H,i<=n->Pv i σ H->Src H)
  (hs:∀i p ws σ H,i < n->H p=none->val i ws->Pv i σ H->g (.ref p) σ (upd H p (.tup ws)) fun σ2 H2=>tb { D with nx:=Pv (i+1),ct:=Pv (i+1),bk:=D.nx} σ2 H2) (hd:∀σ H,Pv n σ H->D.nx σ H) :
  ∃W:Nat->Nat->St->Hp->Prop,(∃m,W 0 m σ H)/\∀i m σ H,W i m σ H->
   ((ItP Src n val).stop i H/\D.nx σ H)\/((ItP Src n val).go i H/\∃N:St->Hp->Prop,(∀σ' H',N σ' H'->∃m',m' < m/\W (i+1) m' σ' H')/\∀x H',(ItP Src n val).yld i H x H'->g x σ H' fun σ2 H2=>tb { D with nx:=N,ct:=N,bk:=D.nx} σ2 H2):=by
 refine⟨fun i m σ H=>m=n - i/\i<=n/\Pv i σ H,⟨n,by simp,Nat.zero_le _,h0⟩,?_⟩
 rintro i m σ H ⟨rfl,hi,p⟩;have q:=hl i σ H hi p;by_cases hlt:i < n
 ·refine .inr ⟨⟨hlt,q⟩,Pv (i+1),fun σ' H' p'=>⟨n - (i+1),by omega,rfl,hlt,p'⟩,fun x H' y=>?_⟩
  obtain⟨pp,ws,rfl,hn,hv,rfl⟩:=y;exact hs i pp ws σ H hlt hn hv p
 ·have e:i=n:=by omega
  subst e;exact .inl ⟨⟨Nat.le_refl _,q⟩,hd σ H p⟩
theorem d2h{a:Addr}{i:Nat}(p:h.IsListIter a l i):∃o,h.get? a=some o/\∀v,o.data≠.cell v:=by
 obtain⟨o,e,_,d⟩:=p;exact⟨o,e,fun v z=>by rw[d] at z;cases z⟩
def valE(xs:List V)(i:Nat)(ws:List V):Prop:=∃x,xs[i]?=some x/\ws=[.int i,x]
theorem c8e(n1:e≠it)(n2:l≠e)(n3:l≠it)(xs:List V):
  Turn P w K (.Tuple elts x1 pos) (ItP (fun H=>SqL K H l xs) xs.length (valE xs)) [e,it] e (fun i h=>i<=xs.length/\((∃old,IsEnum h e it (i:Int) old)/\h.IsListIter it l i)):=by
 refine c8d (FP:=[e,it]) (wr:=[e,it]) (by simp) (fun b hb=>hb) (fun i h st b hb=>?_) (fun i h h' st k=>?_) (fun X hP hw hK hc pins s σ H I hS=>?_) (fun A i s Q E st h=>?_)
 ·obtain⟨⟨old,s1⟩,s2⟩:=st;simp only[List.mem_cons,List.not_mem_nil,or_false] at hb;rcases hb with rfl|rfl
  ·exact⟨_,s1,fun v z=>by cases z⟩
  ·exact d2h s2
 ·obtain⟨⟨old,s1⟩,s2⟩:=st;exact⟨⟨old,k e (by simp) _ s1⟩,s2.at fun o q=>k it (by simp) o q⟩
 ·subst hP hw hK;obtain⟨its1,rv1,p1,_⟩:=I.list hS;have e1:=rv1.length;have W:=WalksT.enumerate (prog:=X.prog) (w:=X.w) (A:=X.A) (I.ok.hd hc) e it l n1 n2 n3 its1.toArray;rw[show its1.toArray.size=xs.length by rw[List.size_toArray,<-e1]] at W
  refine⟨_,_,_,_,W,fun i st=>?_,fun i h st=>?_,fun i vals hp=>?_⟩
  ·exact⟨st.1,st.2,p1.isList⟩
  ·exact⟨st.1,st.2.1⟩
  ·obtain⟨t,u,hu,rfl⟩:=hp;have hu:its1[i]?=some u:=by simpa using hu
   have hi1:i < xs.length:=by have:=(List.getElem?_eq_some_iff.mp hu).1;omega
   obtain⟨u',hu',ru⟩:=rv1.get (List.getElem?_eq_getElem hi1);rw[hu] at hu';cases hu';exact⟨[.int i,xs[i]],⟨_,List.getElem?_eq_getElem hi1,rfl⟩,.cons ⟨t,rfl⟩ (.cons ru .nil),by show 2<=10;decide⟩
 ·obtain⟨old,s1⟩:=st.1;exact wpAny_pyIter_enum s1 h
def iEnum(K:L2.FG)(ta:TA):TI:=fun σ H R=>ta σ H fun vs H1=>∃a xs,vs=[.ref a]/\SqL K H1 a xs/\R (ItP (fun H=>SqL K H a xs) xs.length (valE xs)) H1
theorem d6t{tpos:Pos}{a:Expr}{ta:TA}{p:Pos}(hg:Gl X "enumerate")(hm:X.mg "enumerate"=none)(ha:PA X [a] ta)(hs:starEach [a] X.env=[(false,eval a X.env)]:=by rfl):
  PI X (.Tuple elts x1 tpos) (.Call (.Name "enumerate" p) [a] [] pos) (iEnum X.K ta):=by
 intro pins s σ H R I h;refine Call_ (b2t I hg hm PyProof.Rows.Boot.enumerate (PyProof.Rows.callWith_type1 (thn (ha pos pins s σ H _ I h) fun us s1 hh=>?_) hs rfl))
 obtain⟨vs,H1,I1,r1,q1⟩:=hh;obtain⟨l1,xs,e,hq1,q⟩:=q1;subst e;cases r1 with
 |cons r rr=>
  cases rr;cases r;obtain⟨its1,rv1,p1,_⟩:=I1.list hq1;refine call_enumerate_list p1.isList fun h' z1 z2 z3 z4=>?_
  have L1:l1 < s1.heap.objs.size:=by obtain⟨o,n,e,_⟩:=p1;exact Heap.lt_size e
  refine wpAny_pyIter_enum z1 ?_;refine⟨s1.heap.objs.size+1,[s1.heap.objs.size+1,s1.heap.objs.size],_,_,H1,rfl,I1.kept (t':=s1.toks) z4,c8e (e:=s1.heap.objs.size+1) (it:=s1.heap.objs.size) (l:=l1) (Nat.ne_of_gt (by omega)) (Nat.ne_of_lt (Nat.lt_of_lt_of_le L1 (Nat.le_add_right _ _))) (Nat.ne_of_lt L1) xs,⟨Nat.zero_le _,⟨_,z1⟩,z2⟩,fun b hb=>?_,q⟩
  simp only[List.mem_cons,List.not_mem_nil,or_false] at hb;have hb':s1.heap.objs.size<=b:=by rcases hb with rfl|rfl <;> omega
  exact I1.fpOk hb' (I1.hok.fresh hb')
section
variable {X:Cx} {K:L2.FG} {fa fb:GE} {f:GS} {m:List Bool} {W:Option XW} {l l':Expr} {elts:List Expr} {x1:Nat} {tpos:Pos} {t:TG} {gg:GG} {body:List Stmt} {p0 p1 pos:Pos}
theorem d6u{Γ:Gm}{p:Addr}{ws:List V}(k:OK K F H σ Γ A)(hn:H p=none):OK K (upd F p (.tup ws)) (upd H p (.tup ws)) σ Γ A/\Ext F H A (upd F p (.tup ws)) (upd H p (.tup ws)) A:=by
 have hF:F p=none:=k.le.free hn;have np:∀a∈A,a≠p:=fun a m z=>k.os.there a m (by rw[z];exact hn)
 refine⟨⟨fun a o e=>?_,k.os.keep (a2r hF) fun a m o e=>by rw[a0v (np a m)];exact e,k.nd,fun a m=>by rw[a0v (np a m)];exact k.fr a m⟩,⟨a2r hF,fun a o e _=>a2r hn a o e,fun a h z=>h ((a2r hn).free z),fun a h=>?_,fun a m=>.inl m,.same (a2r hn)⟩⟩
 ·by_cases z:a=p
  ·subst z;rw[a1z] at e ⊢;exact e
  ·rw[a0v z] at e ⊢;exact k.le a o e
 ·by_cases z:a=p
  ·subst z;exact .inr (.inr hn)
  ·rw[a0v z] at h;exact .inl h
theorem LI.tup{m:List Bool}{W:Option XW}{gg:GG}{f:GS}{t:TG}{F1 H1:Hp}{σ:St}{ds es:List D}{i:Nat}{E:Ends}{fl:Fl}{Γ':Gm}{p:Addr}{us:List V}(q:LI K m W gg f E F1 fl Γ' ds i σ H1)(ht:TgOk K m t gg)(hn:H1 p=none)(hd:ds[i]?=some (.tup es))(r:RepL K F1 us es):
  t (.ref p) σ (upd H1 p (.tup us)) fun σ2 H2=>tS K m W f { E with nx:=LI K m W gg f E F1 fl Γ' ds (i+1),ct:=LI K m W gg f E F1 fl Γ' ds (i+1),bk:=E.nx} σ2 H2:=by
 obtain⟨F',A',Γc,k',e',w',s'⟩:=q;obtain⟨k2,x2⟩:=d6u (ws:=us) k' hn;have s2:Same F1 (upd F' p (.tup us)):=s'.trans x2.ff;obtain⟨hi,he⟩:=List.getElem?_eq_some_iff.mp hd;rw[List.drop_eq_getElem_cons hi,he] at e';exact b8g ht k2 (.tup (.inl (.inl a1z)) (r.mono s2) .nil) e' (w'.step x2 Kept.refl) fun F2 H2 σ2 Γ3 A2 x3 k3 e3 w3=>⟨F2,A2,Γ3,k3,e3,w3,s2.trans x3.ff⟩
def enumD(ds:List D):List D:=(List.range ds.length).zipWith (fun(i:Nat) d=>D.tup [.int i,d]) ds
def b8t(fa:GE)(gg:GG)(f:GS):GS:=fun Γ=>(gFrz fa Γ).bind fun p=>match p.1 with
 |.own (.frz (.lst ds))=>a2a gg f (enumD ds) p.2
 |_=>none
theorem c8f(fa:GE)(gg:GG)(f:GS)(Γ:Gm):b8t fa gg f Γ=(gFrz fa Γ).bind fun p=>match p.1 with
 |.own (.frz (.lst ds))=>a2a gg f (enumD ds) p.2
 |_=>none:=rfl
theorem d6v(hp:PassesOwn (model X.prog X.w) X.A X.env X.xe)(hm:X.mg "enumerate"=none)(hi:PE X l (tG K fa))(hg:PG X (.Tuple elts x1 tpos) t)(ht:TgOk K m t gg)(hb:PSs X body (tS K m W f))(hc:X.calm=true:=by rfl)(hgl:Gl X "enumerate":=by rfl)(hst:starEach [l] X.env=(false,eval l X.env)::starEach [] X.env:=by rfl)(hst2:starEach [l] X.env=[(false,eval l X.env)]:=by rfl)(hK:X.K=K:=by rfl)(hs:∀x,foldedSetIterable (.Call (.Name "enumerate" p0) [l] [] p1) X.env x=pure x:=by intro _;rfl):PS X (.For (.Tuple elts x1 tpos) (.Call (.Name "enumerate" p0) [l] [] p1) body [] pos) (tS K m W (b8t fa gg f)):=by
 subst hK;refine(c1q hp hc (d6t hgl hm (a0b (a1f hi) a0g hst) hst2) hg hb hs).mono fun De σ H tt=>?_
 obtain⟨F,A,Γ,fl,Γ',k,e,w⟩:=tt;unfold b8t at e;obtain⟨⟨r1,Γ1⟩,q1,e'⟩:=Option.bind_eq_some_iff.mp e;clear e;dsimp only at e';split at e'
 ·rename_i ds
  refine⟨F,A,Γ,[.own (.frz (.lst ds))],Γ1,k,by rw[a0f,q1];rfl,fun vs H1 pp=>?_⟩
  obtain⟨F1,A1,x,k1,hh⟩:=pp;have hlv:=hh.length;obtain⟨v1,rfl⟩:=d6d hlv;obtain⟨rp1,st⟩:=LI.start k1 x w e';obtain⟨a,ws1,rfl,sq1,ri1⟩:=c6q rp1;have hl1:=ri1.length;refine⟨a,ws1,rfl,.inl (k1.le.rd sq1),d2g (LI X.K m W gg f De F1 fl Γ' (enumD ds)) st (fun i σ' H' _ p=>.inl (p.same.rd sq1)) ?_ fun σ' H' p=>p.fin (by unfold enumD;rw[List.length_zipWith,List.length_range,hl1,Nat.min_self];exact Nat.le_refl _)⟩
  rintro i p ws σ' H' hlt hn ⟨u1,hu1,rfl⟩ q;have hi1:i < ds.length:=by omega
  obtain⟨y1,hy1,ry1⟩:=ri1.get (i:=i) (d:=ds[i]) (List.getElem?_eq_getElem hi1);rw[hu1] at hy1;cases hy1;exact q.tup ht hn (by unfold enumD;rw[List.getElem?_zipWith,List.getElem?_range hi1,List.getElem?_eq_getElem hi1]) (.flat rfl (.cons ry1 .nil))
 ·cases e'
end
section
variable {X:Cx} {K:L2.FG} {fa fo:GE} {fs:GA} {f:GS} {m:List Bool} {W:Option XW} {e o:Expr} {es:List Expr} {tg:Expr} {t:TG} {gg:GG} {pos apos cpos:Pos} {name:Str} {idn:String} {g:List O->Option O} {r:V->List V->Hp->VK->Prop}
def c2u:List D->Option (List Bool)
 |[]=>some []
 |.bl b::ds=>(c2u ds).map fun bs=>b::bs
 |_=>none
theorem b4y:∀{ds:List D} {bs:List Bool},c2u ds=some bs->ds=bs.map .bl
 |[],bs,e=>by cases e;rfl
 |d::ds,bs,e=>by
  cases d with
  |bl i=>
   obtain⟨js,e1,e2⟩:=Option.map_eq_some_iff.mp (show(c2u ds).map _=some bs from e);rw[<-e2,b4y e1];rfl
  |_=>cases e
theorem b4z{F:Hp}:∀{ws:List V} {bs:List Bool},RepL K F ws (bs.map .bl)->ws=bs.map .bl
 |[],[],_=>rfl
 |[],_::_,h=>by have:=h.length;simp at this
 |_::_,[],h=>by have:=h.length;simp at this
 |w::ws,i::is,h=>by
  rw[List.map_cons] at h;have h1:=h.inv.1;have h2:=b4z h.inv.2;rw[h2,List.map_cons];cases h1 with
  |flat e _=>cases e;rfl
def c8g(q:List Bool->Bool):List O->Option O
 |[o]=>(listD o).bind fun ds=>(c2u ds).bind fun bs=>some (.frz (.bl (q bs)))
 |_=>none
theorem d2i(q:List Bool->Bool):OpOk K (fun xs H Q=>∃(a:Addr) (bs:List Bool),xs=[.ref a]/\SqL K H a (bs.map V.bl)/\Q (.bl (q bs)) H) (c8g q):=by
 intro F H vs os o Q le see e res;unfold c8g at e;split at e
 ·obtain⟨ds,e1,e2⟩:=Option.bind_eq_some_iff.mp e;obtain⟨bs,e3,e4⟩:=Option.bind_eq_some_iff.mp e2;cases e4;obtain⟨x,B,rfl,h1⟩:=see.one;obtain⟨a,ws,rfl,sq,ri⟩:=a8n le h1 e1;rw[b4y e3] at ri;have:=b4z ri;subst this;exact⟨a,bs,rfl,sq,res.flat rfl⟩
 ·cases e
theorem c8h(K:L2.FG)(hc:X.calm=true:=by rfl)(hK:X.K=K:=by rfl):CallR X (.builtin "all") (fun xs H Q=>∃(a:Addr) (bs:List Bool),xs=[.ref a]/\SqL K H a (bs.map V.bl)/\Q (.bl (bs.all id)) H):=hK ▸ c6f hc
def c8i(z:Str):Value->Bool
 |.str y _=>y == z
 |_=>false
def findS(ys:List Str)(z:Str):Option Nat:=ys.findIdx? (· == z)
theorem b5a{ys:List Str}{z:Str}{j:Nat}(e:findS ys z=some j):ys[j]?=some z/\∀i y,i < j->ys[i]?=some y->y≠z:=by
 unfold findS at e;rw[List.findIdx?_eq_some_iff_getElem] at e;obtain⟨h,h1,h2⟩:=e;refine⟨by rw[List.getElem?_eq_getElem h];congr 1;exact eq_of_beq h1,fun i y hi ey=>?_⟩
 have:=h2 i hi;obtain⟨hl,e3⟩:=List.getElem?_eq_some_iff.mp ey;rw[e3] at this;intro z';subst z';simp at this
end
structure CXr (P:Program) (w:World) (outer:List Env) (H:Hp) (s:Shared) (H':Hp) (s':Shared) (e C:Addr) (dx:Option Addr):Prop where
 os:s'.os=s.os
 bare:AllBare s'.gens
 un:Un (frs outer) [] H H' s.heap s'.heap
 hok:HOk P w H' s'.heap
 fly:FlyX s.heap.objs.size s'.heap H' e C dx
def CX1(P:Program)(w:World):CXT:=fun outer H s E e s'=>∃a C dx H',e=.ref a/\CXr P w outer H s H' s' a C dx/\E (.ref C) dx H'
def XPass(X:Cx)(W:XW):Prop:=∀(pins:List (Addr×Obj)) (σ:St) (H:Hp) (s:Shared) (H':Hp) (s':Shared) (e C:Addr) (dx:Option Addr),Inv X pins σ H s->CXr X.prog X.w X.stack H s H' s' e C dx->W C dx σ H'->X.xe (.ref e) s'
theorem FlyX.mono{n':Nat}(f:FlyX n h H e C dx)(l:n'<=n):FlyX n' h H e C dx:=by
 obtain⟨a,b,oe,vs,c1,c2,c3,c4,c5,c6⟩:=f;refine⟨Nat.le_trans l a,b,oe,vs,c1,c2,c3,c4,c5,?_⟩;rcases c6 with c6|⟨T,oT,ts,d1,d2,d3⟩
 ·exact .inl c6
 ·exact .inr ⟨T,oT,ts,d1,Nat.le_trans l d2,d3⟩
theorem FlyX.lt(f:FlyX n h H e C dx):n<=h.objs.size:=by
 obtain⟨a,b,oe,vs,c1,_⟩:=f;exact Nat.le_of_lt (Nat.lt_of_le_of_lt a (Heap.lt_size c1))
theorem CXr.inv{pins:List (Addr×Obj)}{H':Hp}{s s':Shared}(c:CXr X.prog X.w X.stack H s H' s' e C dx)(I:Inv X pins σ H s):Inv X pins σ H' s':=
 I.call' (ch:=[]) c.os c.un c.hok c.bare fun _ z=>nomatch z
theorem LeftX.hok{fs:List Addr}(l:LeftX fs ch h h')(k:HOk P w H h)(hf:∀b∈fs,H b=none)(hc:∀b∈ch,H b=none):HOk P w H h':=fun b o q=>
 (k b o q).stay (fun c u z g=>l.keep c u (fun m=>by
  have:=hf c m;rcases z with z|z
  ·rw[z,q] at this;cases this
  ·rw[z] at this;cases this) (fun m=>by
  have:=hc c m;rcases z with z|z
  ·rw[z,q] at this;cases this
  ·rw[z] at this;cases this) g) (fun _ z=>z) fun _ _ z=>z
theorem LeftX.any{fs:List Addr}(l:LeftX fs ch h h'){b:Addr}{o:Obj}(g:h.get? b=some o)(hc:b∉ch):∃sl,h'.get? b=some { o with slots:=sl}:=by
 by_cases m:b∈fs
 ·exact l.slot b o m hc g
 ·exact⟨o.slots,l.keep b o m hc g⟩
def WF(E:XK):XW:=fun C dx _ H'=>E (.ref C) dx H'
section
variable {P:Program} {w:World} {K:L2.FG} {mg:Str->Option Value} {base:Heap} {N:List Str} {qual:Str} {scope:Scope} {f:Addr} {cd:Value} {A:Around} {outer:List Env} {s₀:Shared} {H₀:Hp} {E:XK}
theorem a5o:XPass (cxOf (CX1 P w) P w K mg base N qual scope f cd A outer s₀ H₀ E) (WF E):=by
 intro pins σ H s H' s' e C dx I c q;have I':=c.inv I;have hfr:(A.deeper (envOfC qual scope s₀.heap.objs.size f cd)).frames=some (envOfC qual scope s₀.heap.objs.size f cd::outer):=I.ok.frames;have sz:s₀.heap.objs.size<=s.heap.objs.size:=I.sz;refine d5u (base:=base) (L:=s₀.heap.objs.size) hfr I'.stack rfl c.fly.lt (fun a z=>I'.hok.fresh z) c.fly fun h' ch hch lx fl=>⟨e,C,dx,H',rfl,⟨I'.os,I'.bare,?_,lx.hok I'.hok I'.stkFree fun b m=>(hch b m).2,fl.mono sz⟩,q⟩
 have nch:∀b o,s₀.heap.get? b=some o->b∉ch:=fun b o g m=>absurd (Nat.lt_of_lt_of_le (Heap.lt_size g) (Nat.le_trans sz (hch b m).1)) (Nat.lt_irrefl _)
 have nL:∀b o,s₀.heap.get? b=some o->b∉frs outer->b∉frs (envOfC qual scope s₀.heap.objs.size f cd::outer):=fun b o g z m=>by
  rcases List.mem_cons.mp (show b∈s₀.heap.objs.size::frs outer from m) with m|m
  ·exact absurd (m ▸ Heap.lt_size g) (Nat.lt_irrefl _)
  ·exact z m
 have B:Un (frs outer) [] H₀ H' s₀.heap s'.heap:=I'.base;refine⟨fun b o g n hb hx=>lx.keep b o (nL b o g hb) (nch b o g) (B.keep b o g n hb hx),fun b o g n hb hx=>?_,B.free,fun b o g hx=>?_,B.tups,B.frzs,B.tbls⟩
 ·obtain⟨sl,g1⟩:=B.slot b o g n hb hx;obtain⟨sl',g2⟩:=lx.any g1 (nch b o g);exact⟨sl',g2⟩
 ·obtain⟨o',g1⟩:=B.there b o g hx;obtain⟨sl,g2⟩:=lx.any g1 (nch b o g);exact⟨_,g2⟩
theorem c8j:PassesOwn (model P w) (A.deeper (envOfC qual scope s₀.heap.objs.size f cd)) (envOfC qual scope s₀.heap.objs.size f cd) (cxOf (CX1 P w) P w K mg base N qual scope f cd A outer s₀ H₀ E).xe:=PassesOwn.leaving
end
def PostD(K:L2.FG)(F H:Hp)(A:List Addr)(vs:List V)(fin:Gm)(l:Option Int)(dx:Option Addr)(H':Hp):Prop:=∃F' A',Ext F H A F' H' A'/\OK K F' H' (vs.map some) fin A'/\ExcL F' dx l
def SpX(K:L2.FG)(n:Nat)(M:GM):Sp:=fun vs H Q E=>vs.length=n/\∃F A os o fin,OK K F H (vs.map some) (os.map some) A/\M os=some (o,fin)/\match isX o with
 |none=>∀v H',PostC K F H A vs fin o v H'->Q v H'
 |some p=>∀dx H',PostD K F H A vs fin p.2 dx H'->E (.ref p.1) dx H'
section
variable {P:Program} {w:World} {K:L2.FG} {mg:Str->Option Value} {base:Heap}
theorem OK.params0{m:List Bool}{σ':St}{Γ':Gm}{rest:St}(k:OK K F H σ' Γ' A)(hl:vs.length<=σ'.length)(kp:Kept m (vs.map some++rest) σ')(hm:m.length<=vs.length):
  ∃B,OK K F H (vs.map some) (keepM m (Γ'.take vs.length)) B/\Ext F H A F H B:=by
 obtain⟨k2,x2⟩:=k.push (v:=.non) (o:=.frz .non) (Av:=[]) (Same.refl _) (.frz (.flat rfl .nil) .nil) .nil (fun _ m=>by cases m)
 obtain⟨B,k3,x3⟩:=OK.params k2 hl kp hm;obtain⟨C,k4,sub⟩:=OK.part (τ:=[some V.non]) (Θ:=[some (O.frz .non)]) k3 rfl;exact⟨C,k4,(x2.trans x3).own' sub⟩
theorem c4s(m:List Bool)(f:GS)(Fn:Fun K x qual st fa fd)(S:FnScope N ps (a0q st))(hm:m.length<=ps.length)
  (hbody:∀(cdv:Value) (A:Around) (outer:List Env) (s:Shared) (H:Hp) (E:XK),Room k (A.deeper (envOfC qual (a0q st) s.heap.objs.size fa cdv))->
   PSs (cxOf (CX1 P w) P w K mg base N qual (a0q st) fa cdv A outer s H E) (a6z st) (tS K m (some (WF E)) f)):FnOk P w K mg base (CX1 P w) (k+1) fa fd ps (SpX K ps.length (runM N.length m f)):=by
 obtain⟨oc,od,kV,doc,pm,an,cdv,ct,osl,rfl,lk,hcd⟩:=Fn.ex;refine d9i lk hcd S (fun vs H Q E h=>h.1) fun A outer s H vs Q E hr h=>⟨_,hbody cdv A outer s H E hr,?_⟩
 obtain⟨hl,F,A0,os,o,fin,k0,e,q⟩:=h;have hlo:vs.length=os.length:=by have:=k0.os.length;simpa using this
 have hN:ps.length<=N.length:=by have:=congrArg List.length S.pre;rw[List.length_take] at this;omega
 obtain⟨⟨fl,Γ'⟩,q1,e⟩:=Option.bind_eq_some_iff.mp e;obtain⟨o',q2,e⟩:=Option.bind_eq_some_iff.mp e;dsimp only at e q2;split at e
 ·rename_i hlen
  cases e;have k1:OK K F H (start N vs) (os.map some++List.replicate (N.length - os.length) none) A0:=by
   unfold start;rw[hlo];have z:=k0.os.app (a9t (K:=K) (F:=F) (H:=H) (N.length - os.length));rw[List.append_nil] at z;exact⟨k0.le,z,k0.nd,k0.fr⟩
  refine⟨F,A0,_,fl,Γ',k1,q1,?_⟩;have fin':isX o=none->∀{F' H':Hp} {A':List Addr} {v:V} {σ':St},Ext F H A0 F' H' A'->OK K F' H' (some v::σ') (some o::Γ') A'->Kept m (start N vs) σ'->Q v H':=by
   intro hx F' H' A' v σ' x k' kp;rw[hx] at q;unfold start at kp;have hs:σ'.length=Γ'.length:=by have:=k'.os.length;simpa using this
   obtain⟨B,k2,x2⟩:=OK.params (m:=m) (vs:=vs) k' (by omega) kp (by omega)
   rw[hlo] at k2;exact q v H' ⟨F',B,x.trans x2,k2⟩
  cases fl with
  |nx=>
   cases q2;intro σ' H' ⟨F',A',x,k',kp⟩;obtain⟨k2,x2⟩:=k'.push (v:=.non) (o:=.frz .non) (Av:=[]) (Same.refl _) (.frz (.flat rfl .nil) .nil) .nil (fun _ m=>by cases m)
   exact fin' rfl (x.trans x2) k2 kp
  |rt o1=>
   cases q2;show DoneR K m _ F H A0 _ o Γ' (some (WF E));unfold DoneR;cases hx:isX o with
   |none=>
    intro v σ' H' ⟨F',A',x,k',kp⟩;exact fin' hx x k' kp
   |some p=>
    rw[hx] at q;intro dx σ' H' ⟨F',A',x,k',kp,el⟩;unfold start at kp;have hs:σ'.length=Γ'.length:=k'.os.length;obtain⟨B,k2,x2⟩:=OK.params0 (m:=m) (vs:=vs) k' (by omega) kp (by omega)
    rw[hlo] at k2;exact q dx H' ⟨F',B,x.trans x2,k2,el⟩
  |bk=>cases q2
  |ct=>cases q2
 ·cases e
theorem b1r(m:List Bool)(f:GS)(Fn:Fun K x qual st fa fd)(S:FnScope N ps (a0q st)){pn:Nat}(hn:N.length=n)(hp:ps.length=pn)(hm:m.length<=ps.length)
  (hbody:∀(cdv:Value) (A:Around) (outer:List Env) (s:Shared) (H:Hp) (E:XK),Room k (A.deeper (envOfC qual (a0q st) s.heap.objs.size fa cdv))->
   ∃f',PSs (cxOf (CX1 P w) P w K mg base N qual (a0q st) fa cdv A outer s H E) (a6z st) (tS K m (some (WF E)) f')/\f'=f):FnOk P w K mg base (CX1 P w) (k+1) fa fd ps (SpX K pn (runM n m f)):=by
 subst hn hp;exact c4s m f Fn S hm fun cdv A outer s H E hr=>by
  obtain⟨f',h,e⟩:=hbody cdv A outer s H E hr;rw[<-e];exact h
end
def EW(W:XW):St->XK:=fun σ c dx H'=>∃C,c=.ref C/\W C dx σ H'
theorem passW(h:XPass X W):c1s (CX1 X.prog X.w) X (EW W):=fun pins σ H s e s' I ⟨a,C,dx,H',he,c,C',hc,q⟩=>by
 cases hc;subst he;exact h pins σ H s H' s' a C dx I c q
section
variable {K:L2.FG} {F H:Hp} {σ:St}
theorem c8k{F1 H1:Hp}{rs:List R}{os:List O}{Γ1 Γ2:Gm}{A1:List Addr}(k1:OK K F1 H1 (vs.map some++σ) (rs.map R.o++Γ1) A1)(hh:Held σ H1 rs vs)(q2:a3b rs Γ1=some (os,Γ2)):
  ∃A4,OK K F1 H1 (vs.map some) (os.map some) A4/\∀F5 H' A5 (τ:St) (Θ:Gm) fin,τ.length=Θ.length->Ext F1 H1 A4 F5 H' A5->OK K F5 H' (τ++vs.map some) (Θ++fin) A5->∃A7,Ext F1 H1 A1 F5 H' A7/\OK K F5 H' (τ++σ) (Θ++a4y rs fin Γ2) A7:=by
 have hl:(vs.map some).length=(rs.map R.o).length:=by rw[List.length_map,List.length_map,hh.length]
 obtain⟨B,C,h1,h2,h3⟩:=OwnL.split hl k1.os;subst h3;obtain⟨B',C',j1,j2,j3⟩:=a9u h1 h2 hh q2;have k2:OK K F1 H1 (vs.map some++σ) (os.map some++Γ2) (B'++C'):=.perm (j1.app j2) k1.le k1.nd k1.fr j3;obtain⟨A3,p3,k3⟩:=k2.swap j1.length;obtain⟨A4,k4,fr⟩:=k3.frame j2.length;refine⟨A4,k4,fun F5 H' A5 τ Θ fin hτ x5 k5=>?_⟩
 obtain⟨A6,x6,k6⟩:=fr _ _ _ _ _ x5 k5;obtain⟨D1,D2,g1,g2,g3⟩:=OwnL.split j2.length k6.os;subst g3;obtain⟨D3,D4,g4,g5,g6⟩:=OwnL.split hτ g2;subst g6;obtain⟨D5,g7,g8⟩:=b2k g5 g1 (hh.att x6.att);have s1:SubP (D3++D5) (D1++(D3++D4)):=by
  refine((SubP.refl D3).app g8).trans (.of_perm ?_);rw[<-List.append_assoc];exact List.perm_append_comm
 obtain⟨k7,x7⟩:=k6.sub (g4.app g7) s1;have x3:Ext F1 H1 (B++C) F1 H1 A3:=Ext.own' Ext.refl fun a m=>j3.mem_iff.mp (p3.mem_iff.mp m)
 exact⟨D3++D5,(x3.trans x6).trans x7,k7⟩
def a6r(f:GE):GS:=fun Γ=>(f Γ).bind fun p=>match p.1 with
 |.own o=>match isX o with
  |some _=>some (.rt o,p.2)
  |none=>some (.nx,p.2)
 |_=>none
def PostE(K:L2.FG)(F H:Hp)(A:List Addr)(σ:St)(Γ':Gm)(W:XW)(Q:VK)(o:O):Prop:=match isX o with
 |none=>∀v H',(∃F' A',Ext F H A F' H' A'/\OK K F' H' (some v::σ) (some o::Γ') A')->Q v H'
 |some p=>∀dx H',(∃F' A',Ext F H A F' H' A'/\OK K F' H' σ Γ' A'/\ExcL F' dx p.2)->W p.1 dx σ H'
def tGX(K:L2.FG)(W:XW)(f:GE):TE:=fun σ H Q=>∃F A Γ o Γ',OK K F H σ Γ A/\f Γ=some (.own o,Γ')/\PostE K F H A σ Γ' W Q o
theorem d2j{M:GM}{fs:GA}{Q:VK}(t:tGX K W (gCall M fs) σ H Q)(hn:∀rs Γ Γ',fs Γ=some (rs,Γ')->rs.length=n):tCall (SpX K n M) [] (EW W) (tGA K fs) σ H Q:=by
 obtain⟨F,A,Γ,o,Γ',k,e,w⟩:=t;obtain⟨⟨rs,Γ1⟩,q,e⟩:=Option.bind_eq_some_iff.mp e;obtain⟨⟨os,Γ2⟩,q2,e⟩:=Option.bind_eq_some_iff.mp e;obtain⟨⟨o',fin⟩,q3,e⟩:=Option.bind_eq_some_iff.mp e;cases e;refine⟨F,A,Γ,rs,Γ1,k,q,fun vs H1 pp=>?_⟩
 show SpX K n M (vs++[]) H1 Q (EW W σ);rw[List.append_nil];obtain⟨F1,A1,x,k1,hh⟩:=pp;obtain⟨A4,k4,back⟩:=c8k k1 hh q2;refine⟨by rw[<-hh.length];exact hn rs Γ Γ1 q,F1,A4,os,o',fin,k4,q3,?_⟩
 unfold PostE at w;cases hx:isX o' with
 |none=>
  rw[hx] at w;intro v H' ⟨F5,A5,x5,k5⟩;obtain⟨A7,x7,k7⟩:=back F5 H' A5 [some v] [some o'] fin rfl x5 k5;exact w v H' ⟨F5,A7,x.trans x7,k7⟩
 |some p=>
  rw[hx] at w;intro dx H' ⟨F5,A5,x5,k5,el⟩;obtain⟨A7,x7,k7⟩:=back F5 H' A5 [] [] fin rfl x5 k5;exact⟨p.1,rfl,w dx H' ⟨F5,A7,x.trans x7,k7,el⟩⟩
variable {X:Cx} {m:List Bool} {W:XW} {e:Expr} {fa:GE} {pos:Pos}
theorem a8s(he:PE X e (tGX K W fa))(hs:swapsWith e none pos.line X.env=pure false:=by rfl):PS X (.Expr e pos) (tS K m (some W) (a6r fa)):=(c5l he hs).mono fun D σ H t=>by
 obtain⟨F,A,Γ,fl,Γ',k,e,w⟩:=t;obtain⟨⟨r,Γ1⟩,q,e⟩:=Option.bind_eq_some_iff.mp e;cases r with
 |var _=>cases e
 |fld _ _=>cases e
 |own o=>
  dsimp only at e;refine⟨F,A,Γ,o,Γ1,k,q,?_⟩;unfold PostE;cases hx:isX o with
  |some p=>
   rw[hx] at e;cases e;have w:DoneR K m D F H A σ o _ (some W):=w;unfold DoneR at w;rw[hx] at w;exact fun dx H' ⟨F',A',x,k',el⟩=>w dx σ H' ⟨F',A',x,k',Kept.refl,el⟩
  |none=>
   rw[hx] at e;cases e;intro v H' ⟨F',A',x,k'⟩;obtain⟨B,kB,sub⟩:=OK.part (τ:=[some v]) (Θ:=[some o]) k' rfl;exact w σ H' ⟨F',B,x.own' sub,kB,Kept.refl⟩
variable {k n:Nat} {f:Addr} {fd:FuncData} {ps:List Str} {x:Str} {p:Pos} {es:List Expr} {fs:GA} {st:Stmt} {M:GM}
theorem a7k(D:DefAt X.K X.mg x st f fd ps)(Fn:FnOk X.prog X.w X.K X.mg X.base (CX1 X.prog X.w) k f fd ps (SpX K n M))(hr:Room k X.A)(hp:XPass X W)(ha:PA X (e::es) (tGA K fs))(hn:∀rs Γ Γ',fs Γ=some (rs,Γ')->rs.length=n)(hg:Gl X x:=by rfl)(hdb:(x == ("__debug__":Str))=false:=by decide)
  (he:starEach (e::es) X.env=(false,eval e X.env)::starEach es X.env:=by rfl) (hpl:(backTo pos (starEach es X.env)).any (·.1)=false:=by rfl) :
  PE X (.Call (.Name x p) (e::es) [] pos) (tGX K W (gCall M fs)):=(c5v Fn hr hg D.mg D.fn.kp D.bd .nil (passW hp) ha hdb he hpl).mono fun _ _ _ t=>d2j t hn
end
section
variable {prog:Program} {w:World} {A:Around} {E:Value->Shared->Prop} {h:Heap} {g:Array GenState} {d:Drawn} {t:Nat} {os:OsState}
variable {nm q:Str} {C N:Addr} {bs bm bmB:List Value} {hdct:Bool} {sn:List Str} {sub:List Value} {ab:Bool} {col:Option Bool} {dd:Option Addr} {k0 k1 k2 k3 k5:Option Value} {B Bn newId nid initId inN:String} {bmN:List Value}
theorem tcall(Fn:ExcBaseFacts Bn newId inN bmN)(hBn:bmB.contains (.type Bn)=true)(F:ExcBaseFacts B nid initId bmB)(T:OwnTail h bmB bm){rest:List Value}{Q:Fin->Shared->Prop}
  (hC:h.get? C=some (excClassObj nm q C N bs bm hdct sn sub ab col dd k0 k1 k2 k3 k5 newId)) (hn:h.Ns N mN) (hrest:rest.length<=sizeLine)
  (hq:∀i,i=(mN "__init__").getD (.builtin initId)->wpAny (model prog w) A (bindSpecial i (.ref (h.objs.size+1))) (fun p s'=>wpAny (model prog w) A (call p.1 (p.2++rest)) (fun r s''=>r=.none/\Q (.done (.ret (.ref (h.objs.size+1)))) s'') E s') E ⟨((h.push { cls:=.type "tuple",data:=.seq rest.toArray}).push { cls:=.ref C,data:=.fields #[.ref h.objs.size,.none,.none,.none,.bool false,.none]}),g,d,t,os⟩) :
  wpAny (model prog w) A (Builtin.«type.__call__» ⟨.ref C::rest,[]⟩) Q E ⟨h,g,d,t,os⟩:=by
 repeat (first|with_reducible refine wpAny_loadPart_at hC ?_|with_reducible refine wpAny_madeBy_exc hC ?_|wp_step)
 refine codeAny_call_builtin_code (Code.quiet_builtin _ Fn.quiet) (wpAny_check_new_subU Fn hBn T hC (codeAny_exc_new_subU Fn hBn F T hC ?_ hrest));show wpAny _ _ _ _ _ _;have st:∀b o,h.get? b=some o->((h.push { cls:=.type "tuple",data:=.seq rest.toArray}).push { cls:=.ref C,data:=.fields #[.ref h.objs.size,.none,.none,.none,.bool false,.none]}).get? b=some o:=fun b o e=>Heap.get?_push_of_some _ (Heap.get?_push_of_some _ e)
 have hC₁:=st _ _ hC;have hget:((h.push { cls:=.type "tuple",data:=.seq rest.toArray}).push { cls:=.ref C,data:=.fields #[.ref h.objs.size,.none,.none,.none,.bool false,.none]}).get? (h.objs.size+1)=some { cls:=.ref C,data:=.fields #[.ref h.objs.size,.none,.none,.none,.bool false,.none]}:=by heap_get
 have hcC:(Value.ref C::bm).contains (.ref C)=true:=by simp
 unfold isInstance
 repeat (first|with_reducible refine wpAny_loadPart_at hget ?_|(with_reducible refine wpAny_isSubtype_exc hC₁ ?_;rw[hcC])|wp_step)
 show wpAny _ _ (typeLookup (.ref C) _) _ _ _;refine wpAny_typeLookup_tail hC₁ (hn.keeps st) (T.keeps st) F.mroIs F.init.lookup ?_;cases hv:mN "__init__" with
 |none=>
  refine wpAny_holding (wpAny_bind (wpAny_mono (hq _ (by rw[hv];rfl)) (fun p s' z=>wpAny_bind (wpAny_mono z (fun r s'' y=>?_) fun _ _ y=>y)) fun _ _ y=>y))
  obtain⟨rfl,y⟩:=y
  wp_walk
  exact y
 |some v=>
  refine wpAny_holding (wpAny_bind (wpAny_mono (hq _ (by rw[hv];rfl)) (fun p s' z=>wpAny_bind (wpAny_mono z (fun r s'' y=>?_) fun _ _ y=>y)) fun _ _ y=>y))
  obtain⟨rfl,y⟩:=y
  wp_walk
  exact y
theorem d2k(Fn:ExcBaseFacts Bn newId inN bmN)(hBn:bmB.contains (.type Bn)=true)(F:ExcBaseFacts B nid initId bmB)(T:OwnTail h bmB bm){rest:List Value}{Q:Value->Shared->Prop}
  (hC:h.get? C=some (excClassObj nm q C N bs bm hdct sn sub ab col dd k0 k1 k2 k3 k5 newId)) (hn:h.Ns N mN) (hrest:rest.length<=sizeLine)
  (hq:∀i,i=(mN "__init__").getD (.builtin initId)->wpAny (model prog w) (A.under (.builtin "type.__call__" ⟨.ref C::rest,[]⟩)) (bindSpecial i (.ref (h.objs.size+1))) (fun p s'=>wpAny (model prog w) (A.under (.builtin "type.__call__" ⟨.ref C::rest,[]⟩)) (call p.1 (p.2++rest)) (fun r s''=>r=.none/\Q (.ref (h.objs.size+1)) s'') E s') E ⟨((h.push { cls:=.type "tuple",data:=.seq rest.toArray}).push { cls:=.ref C,data:=.fields #[.ref h.objs.size,.none,.none,.none,.bool false,.none]}),g,d,t,os⟩) :
  wpAny (model prog w) A (call (.ref C) rest) Q E ⟨h,g,d,t,os⟩:=by
 have f1:=tc_lookup;have f2:=tc_bind (.ref C);have hT:(⟨h,g,d,t,os⟩:Shared).TypeIs (.ref C) "type":=⟨_,hC,rfl⟩;refine wpAny_call (codeAny_of_tree (show wpAny _ _ (callAny (.ref C) _) _ _ _ from ?_))
 repeat (any_goals (first|assumption|with_reducible refine wpAny_loadPart_at hC ?_|wp_step))
 exact⟨rfl,codeAny_call_builtin_at (Code.quiet_builtin _ (by decide +kernel)) entry_typeCall (wpAny_check_type_call_sub hC (tcall Fn hBn F T hC hn hrest fun i e=>hq i e))⟩
end
end L2
namespace L2
open PySem PySem.Spec PySem.W PySem.Calls PyProof.Rows
section
variable {prog:Program} {w:World} {A:Around} {E:Value->Shared->Prop} {s:Shared} {K:Frag} {x C:Addr} {ox:Obj} {od:Option Obj} {name:Str} {tk:Tok}
theorem c8l{nameV:Value}{Q:Unit->Shared->Prop}(X:K.In s.heap)(I:InstAt s.heap x ox C od)(hb:subIn K (.ref C) (.type "BaseException")=some true)(hq:Q () s):
  wpAny (model prog w) A (checkBuiltinCall "BaseException.__getattribute__" ⟨[.ref x,nameV],[]⟩) Q E s:=by
 have hk:builtinKind "BaseException.__getattribute__"=some .slot:=by decide +kernel
 have hsplit:splitId "BaseException.__getattribute__"=some ("BaseException","__getattribute__"):=by decide +kernel
 have LI:Looks (model prog w) s.heap (isInstance (.ref x) (.type "BaseException")) true:=I.type.andThen (looks_subIn X hb);have ha:=F.args_bexc_ga (.ref x) nameV;simp only[checkBuiltinCall,hk,hsplit];refine wpAny_bind (LI.at ?_)
 repeat (any_goals (first|assumption|wp_step))
theorem d2l{g a v:Value}{Q:Fin->Shared->Prop}(X:K.In s.heap)(I:InstAt s.heap x ox C od)(hf:findObj K C od name=some (.bind g a))(hc:∀R:Result->Shared->Prop,R (.ok (.ret v)) s->codeAny (model prog w) A (.call g ⟨[a,.ref x,.ref C],[]⟩) R s)(hq:Q (.done (.ret v)) s):
  wpAny (model prog w) A (Builtin.«object.__getattribute__» ⟨[.ref x,.str name tk],[]⟩) Q E s:=by
 have L0:=I.type (M:=model prog w);have L1:=looks_find (M:=model prog w) X I hf;unfold Builtin.«object.__getattribute__»
 repeat (any_goals (first|assumption|with_reducible refine wpAny_bind (L0.at ?_)|with_reducible refine wpAny_bind (L1.at ?_)|wp_step))
 refine hc _ ?_
 repeat (any_goals (first|assumption|wp_step))
theorem e0h{fill expr:Bool}{v:Value}{Q:Value->Shared->Prop}(X:K.In s.heap)(I:InstAt s.heap x ox C od)(hb:subIn K (.ref C) (.type "BaseException")=some true)
  (hg:findIn K (.ref C) "__getattribute__"=some (some (.builtin "BaseException.__getattribute__"))) (hn:findIn K (.ref C) "__getattr__"=some none)
  (hr:∀(A:Around) (E:Value->Shared->Prop) (Q:Fin->Shared->Prop),Q (.done (.ret v)) s->wpAny (model prog w) A (Builtin.«object.__getattribute__» ⟨[.ref x,.str name tk],[]⟩) Q E s) (hh:handedIn v=true) (hq:Q v s) :
  wpAny (model prog w) A (getAttrBy (.ref x) (.str name tk) fill expr) Q E s:=by
 have L0:=I.type (M:=model prog w);have L1:=looks_findIn (M:=model prog w) X hg;have L2:=looks_findIn (M:=model prog w) X hn;have f3:=F.attrBase_ValueError.ga.bind (.ref x);have hx0:(expr && onTheHeap (Value.builtin "BaseException.__getattribute__"))=false:=by cases expr <;> rfl
 have hx1:(onTheHeap (Value.ref C) && Value.builtin "BaseException.__getattribute__" == Value.builtin "object.__getattribute__")=false:=by rw[show(Value.builtin "BaseException.__getattribute__" == Value.builtin "object.__getattribute__")=false by decide +kernel];rfl
 unfold getAttrBy;refine wpAny_holding (wpAny_bind (L0.at (wpAny_bind (L1.at ?_))));dsimp only;rw[if_neg (by rw[hx1];exact Bool.false_ne_true)]
 unfold getAttrByItsOwn hookBefore;refine wpAny_bind (L2.at (wpAny_bind (wpAny_attempt (wpAny_holding ?_))));unfold callGetattribute;rw[if_neg (by rw[hx0];exact Bool.false_ne_true)]
 unfold boundAndCalled;refine wpAny_bind (wpAny_of_eq f3 (wpAny_call (codeAny_call_builtin F.attrBase_ValueError.ga.plain F.entry_bexc_ga (c8l X I hb (hr _ _ _ ?_)))));exact handed_on hh hq
theorem c8m{Q:Option Value->Shared->Prop}(X:K.In s.heap)(I:InstAt s.heap x ox C od)(hb:subIn K (.ref C) (.type "BaseException")=some true)
  (hg:findIn K (.ref C) "__getattribute__"=some (some (.builtin "BaseException.__getattribute__"))) (hn:findIn K (.ref C) "__getattr__"=some none) (hf:findObj K C od "__class__"=some (.bind (.builtin "getset_descriptor.__get__") (.builtin "object.__class__"))) (hm:mroIn K C (.type "object")=some true)
  (hq:Q (some (.ref C)) { s with toks:=s.toks+1}):wpAny (model prog w) A (getAttr? (.ref x) "__class__") Q E s:=by
 unfold getAttr? getAttrBy?;exact wpAny_bind (wpAny_mkText (wpAny_bind (wpAny_attempt (e0h (s:={ s with toks:=s.toks+1}) X I hb hg hn (fun A E Q q=>d2l (s:={ s with toks:=s.toks+1}) X I hf (fun R r=>class_get (s:={ s with toks:=s.toks+1}) X I hm r) q) rfl (wpAny_pure hq)))))
theorem d2m{ox:Obj}(hb:subIn K (.ref C) (.type "BaseException")=some true)
  (hg:findIn K (.ref C) "__getattribute__"=some (some (.builtin "BaseException.__getattribute__"))) (hn:findIn K (.ref C) "__getattr__"=some none) (hf:findObj K C od "__class__"=some (.bind (.builtin "getset_descriptor.__get__") (.builtin "object.__class__"))) (hm:mroIn K C (.type "object")=some true) (hd:hasDictIn K C=true) :
  KitX K (.ref x) (.ref C) (fun h=>InstAt h x ox C od) where
 ty:=fun _ _ _ I=>I.type
 it:=fun _ _ X _=>by
  obtain⟨cdD,hcD,_⟩:=any_some hd;unfold clsIn at hcD;split at hcD
  ·rename_i c' d' cd' sl' ho
   intro A' Q' E' s' k q;unfold isType loadHead;exact wpAny_bind (wpAny_loadPart (k _ _ (X _ _ ho)) (wpAny_pure q))
  ·cases hcD
 ne:=fun h tp dd its n sl X htp=>by
  obtain⟨cdD,hcD,_⟩:=any_some hd;refine Bool.eq_false_iff.mpr fun q=>?_
  cases Value.ref.inj (beq_iff_eq.mp q);unfold clsIn at hcD;split at hcD
  ·rename_i c' d' cd' sl' ho
   cases(X _ _ ho).symm.trans htp
  ·cases hcD
 ca:=fun X I k=>c8m X I hb hg hn hf hm k
end
end L2
namespace L2
open PySem PySem.Spec PySem.W PySem.Calls PyProof.Rows Builtin Builtin.ObjectAttr
section
variable {prog:Program} {w:World} {A:Around} {E:Value->Shared->Prop} {s:Shared} {K:Frag} {x C B0 t:Addr} {name:Str} {tk:Tok} {v:Value} {cd:ClassData}
end
section
variable {prog:Program} {w:World} {A:Around} {E:Value->Shared->Prop} {h:Heap} {g:Array GenState} {d:Drawn} {tt:Nat} {os:OsState} {x t:Addr}
variable {nm q:Str} {C N:Addr} {bs bm bmB:List Value} {hdct:Bool} {sn:List Str} {sub:List Value} {ab:Bool} {col:Option Bool} {dd:Option Addr} {k0 k1 k2 k3 k5:Option Value} {newId:String}
theorem xinit{u:Value}{Q:Value->Shared->Prop}(T:OwnTail h [.type "ValueError",.type "Exception",.type "BaseException",.type "object"] bm)(hC:h.get? C=some (excClassObj nm q C N bs bm hdct sn sub ab col dd k0 k1 k2 k3 k5 newId))(hx:h.get? x=some (excO C t none))
  (hq:∀h',h'.get? x=some (excO C h.objs.size none)->(∀b o,b≠x->h.get? b=some o->h'.get? b=some o)->Q .none ⟨h',g,d,tt,os⟩) :
  wpAny (model prog w) A (call (.builtin "ValueError.__init__") [.ref x,u]) Q E ⟨h,g,d,tt,os⟩:=by
 have FB:=F.excBase_ValueError;have hx':h.get? x=some { cls:=.ref C,data:=.fields #[.ref t,.none,.none,.none,.bool false,.none]}:=hx;refine wpAny_call (codeAny_call_builtin FB.init.plain FB.initEntry (wpAny_check_init_subU FB T hC hx' rfl ?_))
 wp_walk
 refine hq _ ?_ fun b o n e=>?_
 ·rw[Heap.get?_update_self _ (Heap.get?_push_of_some _ hx') rfl];rfl
 ·rw[Heap.get?_update_other _ _ (Ne.symm n)];exact Heap.get?_push_of_some _ e
end
end L2
namespace L2
open PySem PySem.Spec PySem.W PySem.Calls PyProof.Rows
variable{X:Cx}{pins:List (Addr×Obj)}{σ:St}{H:Hp}{s:Shared}{x:Str}{u c:Value}{w:Addr->Option Bool}{e C:Addr}{pos hp:Pos}{t' i:Nat}{g:GS}{hs:List ExceptHandler}
abbrev bmV:List Value:=[.type "ValueError",.type "Exception",.type "BaseException",.type "object"]
def ErrC(K:Frag)(C:Addr)(bm:List Value)(ini:Option Value):Prop:=∃nm q N bs sn sub ab col dd k0 k1 k2 k3 k5 on odn es ep sln,
 K.lookup C=some (excClassObj nm q C N bs bm true sn sub ab col dd k0 k1 k2 k3 k5 "ValueError.__new__")/\K.lookup N=some ⟨on,odn,.dict es ep,sln⟩/\StrKeys es/\nsFind es "__init__"=ini
section
variable {X:Cx} {pins:List (Addr×Obj)} {σ:St} {H:Hp} {s:Shared} {Q:VK} {C B0:Addr} {x:Str} {p pos:Pos} {e:Expr} {t:TA}
end
structure IsErr (K:Frag) (C:Addr):Prop where
 g:findIn K (.ref C) "__getattribute__"=some (some (.builtin "BaseException.__getattribute__"))
 n:findIn K (.ref C) "__getattr__"=some none
 c:findIn K (.ref C) "__class__"=some (some (.builtin "object.__class__"))
 s:specialIn K (.builtin "object.__class__") "__get__"=some (some (.builtin "getset_descriptor.__get__"))
 t:takesIn K (.builtin "object.__class__")=some true
section
variable {K:Frag} {C C' B0 a:Addr} {bm bm':List Value} {i i':Option Value} {l:Option Int}
theorem ErrC.cls(G:ErrC K C bm i):∃cd,clsIn K C=some cd/\cd.mro=.ref C::bm/\cd.hasDict=true/\typeIn K (.ref C)=some (.type "type"):=by
 obtain⟨nm,q,N,bs,sn,sub,ab,col,dd,k0,k1,k2,k3,k5,on,odn,es,ep,sln,g1,g2,g3,g4⟩:=G;exact⟨_,by unfold clsIn;rw[g1],rfl,rfl,by show(K.lookup C).map (·.cls)=_;rw[g1];rfl⟩
theorem ErrC.sub(G:ErrC K C bm i)(b:Value):subIn K (.ref C) b=some ((Value.ref C::bm).contains b):=by
 obtain⟨cd,c1,c2,c3,c4⟩:=G.cls;show mroIn K C b=_;unfold mroIn;rw[c1,Option.bind_some,c2];rfl
theorem ErrC.kitC(G:ErrC K C bm i)(G':ErrC K C' bm' i'):kitOne K (.ref C) (.ref C')=some ((Value.ref C::bm).contains (.ref C')):=by
 obtain⟨cd,c1,c2,c3,c4⟩:=G'.cls;unfold kitOne;split
 ·rename_i e
  cases beq_iff_eq.1 e;simp
 ·unfold kitCls;dsimp only;rw[if_pos (by rw[c1,c4];rfl)]
  exact G.sub _
theorem ErrC.kitT(G:ErrC K C (.ref B0::bmV) i):kitOne K (.ref C) (.type "ValueError")=some true:=by
 unfold kitOne;rw[if_neg (fun e=>by cases beq_iff_eq.1 e)]
 unfold kitCls;dsimp only;rw[if_pos (by decide +kernel),G.sub]
 rfl
theorem d2n(I:Inv X pins σ H s)(h:ExcA H a C l):∃ox od,InstAt s.heap a ox C od/\∀n,l=some n->∃t,∃o,od=some o/\lookIn "line" o=some (some (.int n t)):=by
 cases l with
 |none=>
  obtain⟨o,e,z1,z2,vs,z3⟩:=h;obtain⟨z,_⟩:=I.hok _ _ e;exact⟨o,none,⟨z,z1,by unfold W.notCls;rw[z3],by rw[z2];trivial⟩,fun n e=>by cases e⟩
 |some n=>
  obtain⟨o,dx,e,⟨z1,z2,vs,z3⟩,q⟩:=h;obtain⟨z,_⟩:=I.hok _ _ e;obtain⟨mA,ns,r⟩:=I.hok _ _ q;obtain⟨od,o1,o2⟩:=c5u ns;refine⟨o,some od,⟨z,z1,by unfold W.notCls;rw[z3],by rw[z2];exact o1⟩,fun m e=>?_⟩
  cases e;have r':=r "line";rw[show List.lookup (Str.ofString "line") [(Str.ofString "line",V.int n)]=some (V.int n) by rw[List.lookup_cons,beq_self_eq_true]] at r'
  cases hm:mA "line" with
  |none=>rw[hm] at r';cases r'
  |some u=>
   rw[hm] at r';obtain⟨t',rfl⟩:∃t',u=Value.int n t':=r';exact⟨t',od,rfl,by rw[o2,hm]⟩
theorem IsErr.cla(E:IsErr K C)(G:ErrC K C bm i)(od:Option Obj):findObj K C od "__class__"=some (.bind (.builtin "getset_descriptor.__get__") (.builtin "object.__class__")):=by
 obtain⟨cd,c1,_⟩:=G.cls;unfold findObj;rw[c1,Option.bind_some,E.c,Option.bind_some];simp[E.s,E.t]
def rIsiX(K:Frag)(c:Value)(x:V)(H:Hp)(Q:VK):Prop:=∃a C l i b,x=.ref a/\ExcA H a C l/\ErrC K C (.ref B0::bmV) i/\IsErr K C/\kitOne K (.ref C) c=some b/\Q (.bl b) H
theorem d6w{x:V}{Q:VK}(I:Inv X pins σ H s)(rx:RelV x u)(h:rIsiX (B0:=B0) X.K c x H Q):
  wpAny (model X.prog X.w) X.A (call (.builtin "isinstance") [u,c]) (EP X pins σ Q) X.xe s:=by
 obtain⟨a,C,l,i,b,rfl,hx,G,E,e,q⟩:=h;obtain rfl:u=Value.ref a:=rx;obtain⟨ox,od,J,_⟩:=d2n I hx;obtain⟨cd,c1,c2,c3,c4⟩:=G.cls;refine kia_one (d2m (K:=X.K) (od:=od) (ox:=ox) (by rw[G.sub];rfl) E.g E.n (E.cla G od) (by have:=G.sub (.type "object");rw[show(Value.ref C::.ref B0::bmV).contains (.type "object")=true from rfl] at this;exact this) (by unfold hasDictIn;rw[c1];exact c3)) I.kIn J e (fun z=>nomatch z) fun tk=>?_
 exact⟨.bl b,H,I.tok _,rfl,q⟩
def oIsiX(w:Addr->Option Bool):List O->Option O
 |[.frz (.exc C _)]=>(w C).map fun b=>.frz (.bl b)
 |_=>none
theorem d6x(hw:∀C b,w C=some b->(∃i,ErrC K C (.ref B0::bmV) i)/\IsErr K C/\kitOne K (.ref C) c=some b):OpOk K (r1L (rIsiX (B0:=B0) K c)) (oIsiX w):=by
 intro F H vs os o Q le see e res;unfold oIsiX at e;split at e
 ·rename_i C l
  obtain⟨x,B,rfl,h1⟩:=see.one;obtain⟨b,q1,q2⟩:=Option.map_eq_some_iff.mp e;subst q2;obtain⟨⟨i,G⟩,E,kk⟩:=hw C b q1;have r:=a3v le h1;cases r with
  |flat z _=>cases z
  |@exc a _ _ _ _ hx _=>exact⟨_,rfl,a,C,l,i,b,rfl,hx,G,E,kk,res.flat rfl⟩
 ·cases e
theorem b3n{e f:Expr}{p:Pos}{fe:GE}{v:V}(hw:∀C b,w C=some b->(∃i,ErrC K C (.ref B0::bmV) i)/\IsErr K C/\kitOne K (.ref C) c=some b)(hm:X.mg "isinstance"=none)(he:PE X e (tG K fe))(hf:PE X f (tC v))(rc:∀u,RelV v u->u=c)(hg:Gl X "isinstance":=by rfl)
  (hst:starEach [e,f] X.env=(false,eval e X.env)::starEach [f] X.env:=by rfl) (hst2:starEach [f] X.env=(false,eval f X.env)::starEach [] X.env:=by rfl) (hpl:(backTo pos (starEach [f] X.env)).any (·.1)=false:=by rfl) (hK:X.K=K:=by rfl) :
  PE X (.Call (.Name "isinstance" p) [e,f] [] pos) (tG K (gUn (oIsiX w) fe)):=by
 subst hK;have hc:CallR X (.builtin "isinstance") (fun xs H Q=>∃x,xs=[x,v]/\rIsiX (B0:=B0) X.K c x H Q):=by
  intro pins s σ H xs us Q I r h;obtain⟨x,rfl,q⟩:=h;obtain⟨u,w',rfl,rx,ry⟩:=vals2 r;cases rc _ ry;exact d6w I rx q
 refine(c1u hc hg hm (by kernel_rfl) (b2v he (b2v hf pa_nil hst2) hst) (by decide) (by decide) hst hpl).mono fun σ H Q h=>?_
 exact(d5w (d6x hw) h).mono fun x H1 q=>⟨x,rfl,q⟩
end
section
variable {K:Frag} {F H:Hp} {σ:St} {Γ:Gm} {A:List Addr} {p:Addr}
end
section
variable {K:Frag} {X:Cx} {C B0:Addr} {x:Str} {p pos:Pos} {e:Expr} {fe:GE}
end
structure InitK (K:Frag) (B0:Addr):Prop where
 g:specialIn K (.ref B0) "__getattribute__"=some (some (.builtin "type.__getattribute__"))
 r:readsIn K B0 (.type "type")=true
 c:findCls K (.ref B0) (.type "type") "__init__"=some (.val (.builtin "ValueError.__init__"))
def exD(C t dx:Addr):HO:=.frz (excO C t (some dx)) (.own 0)
section
variable {X:Cx} {pins:List (Addr×Obj)} {σ:St} {H:Hp} {s:Shared} {C B0 e t:Addr} {i:Option Value}
variable {x0:Str} {p0 ap cp pos p1:Pos} {e1 e2 o value:Expr} {k j:Nat} {v:V}
end
structure Lined (H H':Hp) (C e t dx:Addr) (n:Int):Prop where
 ne:dx≠e
 d0:H dx=none
 e1:H' e=some (exD C t dx)
 d1:H' dx=some (.xd [("line",.int n)])
 old:∀b,b≠e->b≠dx->H' b=H b
section
variable {X:Cx} {pins:List (Addr×Obj)} {σ:St} {H:Hp} {s:Shared} {Q:VK} {C B0 fI:Addr} {x:Str} {p pos:Pos} {e:Expr} {t:TA} {fd:FuncData} {k:Nat}
end
section
variable {X:Cx} {C B0 fI:Addr} {x:Str} {p pos:Pos} {e:Expr} {t:TA} {fd:FuncData} {k:Nat} {K:Frag} {fe:GE}
end
structure Errs (K:Frag) (mg:Str->Option Value) (tab:List (Str×Addr)) (L B0 fI:Addr):Prop where
 all:∀p∈tab,mg p.1=some (.ref p.2)/\ErrC K p.2 (.ref B0::bmV) none/\IsErr K p.2/\keepIn K (.ref p.2)=true
 mgL:mg "NoLine"=some (.ref L)
 GL:ErrC K L (.ref B0::bmV) (some (.ref fI))
 EL:IsErr K L
 kL:keepIn K (.ref L)=true
 sL:findIn K (.ref L) "__setattr__"=some (some (.builtin "object.__setattr__"))
 nL:findIn K (.ref L) "line"=some none
 fL:isFn K (.ref fI)=true
 mg0:mg "CarryError"=some (.ref B0)
 G0:ErrC K B0 bmV none
 I0:InitK K B0
def wE(cs:List Addr)(c:Addr)(C:Addr):Option Bool:=if cs.contains C then some (C == c) else none
def wT(cs:List Addr)(C:Addr):Option Bool:=if cs.contains C then some true else none
section
variable {K:Frag} {mg:Str->Option Value} {tab:List (Str×Addr)} {L B0 fI:Addr}
end
theorem e1q:bootBuiltins "ValueError"=some (.type "ValueError"):=by kernel_rfl
def d4m(e:DictEntry):Bool:=match e.key with|.str _ _=>true|_=>false
theorem errC_mk{K:Frag}{bm:List Value}{ini:Option Value}{nm q:Str}{N:Addr}{bs:List Value}{sn:List Str}{sub:List Value}{ab:Bool}{col:Option Bool}{dd:Option Addr}{k0 k1 k2 k3 k5:Option Value}{on:Value}{odn:Option Addr}{es:Array DictEntry}{ep:Nat}{sln:Array (Option Value)}
  (l:K.lookup C=some (excClassObj nm q C N bs bm true sn sub ab col dd k0 k1 k2 k3 k5 "ValueError.__new__")) (d:K.lookup N=some ⟨on,odn,.dict es ep,sln⟩) (s:es.toList.all d4m=true) (i:nsFind es "__init__"=ini):ErrC K C bm ini:=by
 refine⟨_,_,_,_,_,_,_,_,_,_,_,_,_,_,_,_,_,_,_,l,d,fun e he=>?_,i⟩
 have:=List.all_eq_true.1 s e (Array.mem_toList_iff.2 he);unfold d4m at this;split at this
 ·exact⟨_,_,by assumption⟩
 ·cases this
section
variable {X:Cx} {pins:List (Addr×Obj)} {σ:St} {H:Hp} {s:Shared} {C B0:Addr} {R:Value->Shared->Prop}
theorem d2o(G:ErrC X.K C (.ref B0::bmV) none)(G0:ErrC X.K B0 bmV none)(I:Inv X pins σ H s)(h:∀h' t,(∀b o,s.heap.get? b=some o->h'.get? b=some o)->h'.get? (s.heap.objs.size+1)=some (excO C t none)->R (.ref (s.heap.objs.size+1)) { s with heap:=h'}):
  wpAny (model X.prog X.w) X.A (call (.ref C) [u]) R X.xe s:=by
 obtain⟨hh,g,d,tt,os⟩:=s;have KX:X.K.In hh:=I.kIn;obtain⟨nm,q,N,bs,sn,sub,ab,col,dd,k0,k1,k2,k3,k5,on,odn,es,ep,sln,g1,g2,g3,g4⟩:=G;obtain⟨nm',q',N',bs',sn',sub',ab',col',dd',k0',k1',k2',k3',k5',on',odn',es',ep',sln',g1',g2',g3',g4'⟩:=G0;have FB:=F.excBase_ValueError;have T:OwnTail hh bmV (.ref B0::bmV):=.own (KX _ _ g1') (mA:=fun n=>nsFind es' n) ⟨_,_,_,KX _ _ g2',rfl,g3',fun _=>rfl⟩ g4' .base
 refine d2k FB rfl FB T (KX _ _ g1) (mN:=fun n=>nsFind es n) ⟨_,_,_,KX _ _ g2,rfl,g3,fun _=>rfl⟩ (by rw[sizeLine_eq];exact(by decide:1<=16777216)) fun i ei=>?_
 rw[g4] at ei;subst ei;have st:∀b o,hh.get? b=some o->((hh.push { cls:=.type "tuple",data:=.seq [u].toArray}).push { cls:=.ref C,data:=.fields #[.ref hh.objs.size,.none,.none,.none,.bool false,.none]}).get? b=some o:=fun b o e=>Heap.get?_push_of_some _ (Heap.get?_push_of_some _ e)
 have hget:((hh.push { cls:=.type "tuple",data:=.seq [u].toArray}).push { cls:=.ref C,data:=.fields #[.ref hh.objs.size,.none,.none,.none,.bool false,.none]}).get? (hh.objs.size+1)=some (excO C hh.objs.size none):=by unfold excO;heap_get
 refine wpAny_of_eq (FB.init.bind _) (xinit (T.keeps st) (st _ _ (KX _ _ g1)) hget fun h' e1 e2=>?_)
 exact⟨rfl,h h' _ (fun b o z=>e2 b o (Nat.ne_of_lt (Nat.lt_succ_of_lt (Heap.lt_size z))) (st b o z)) e1⟩
end
def a6s(C:Addr)(fe:GE):GS:=fun Γ=>(fe Γ).bind fun p=>some (.rt (.frz (.exc C none)),p.2)
section
variable {X:Cx} {K:Frag} {m:List Bool} {W:XW} {C B0:Addr} {x:Str} {p cp pos:Pos} {e:Expr} {fe:GE}
theorem a8t(G:ErrC K C (.ref B0::bmV) none)(G0:ErrC K B0 bmV none)(hk:keepIn K (.ref C)=true)(hm:X.mg x=some (.ref C))(hp:XPass X W)(he:PE X e (tG K fe))(hc:X.calm=true:=by rfl)(hg:Gl X x:=by rfl)(hdb:(x == ("__debug__":Str))=false:=by decide)
  (hst:starEach [e] X.env=(false,eval e X.env)::starEach [] X.env:=by rfl) (hpl:(backTo cp (starEach [] X.env)).any (·.1)=false:=by rfl) (hK:X.K=K:=by rfl):PS X (.Raise (some (.Call (.Name x p) [e] [] cp)) none pos) (tS K m (some W) (a6s C fe)):=by
 subst hK;intro pins s σ H D I t;obtain⟨F,A,Γ,fl,Γ',k,ee,w⟩:=t;obtain⟨⟨r1,Γ1⟩,q,ee⟩:=Option.bind_eq_some_iff.mp ee;cases ee;have w:∀dx σ' H',PostX X.K F H A m σ Γ1 none dx σ' H'->W C dx σ' H':=w;obtain⟨nm,qq,N,bs,sn,sub,ab,col,dd,k0,k1,k2,k3,k5,on,odn,es,ep,sln,g1,g2,g3,g4⟩:=id G;rw[arm_exec_Raise];show wpAny _ _ (do standAt pos;raiseStmt X.env (some (do let v <-eval (.Call (.Name x p) [e] [] cp) X.env;standAt pos;pure v)) none) _ _ _
 refine wpAny_bind (wpAny_standAt (wpAny_raiseStmt_made_sub (C:=C) (nm:=nm) (q:=qq) (N:=N) (bs:=bs) (bm:=.ref B0::bmV) (hdct:=true) (sn:=sn) (sub:=sub) (ab:=ab) (col:=col) (dd:=dd) (k0:=k0) (k1:=k1) (k2:=k2) (k3:=k3) (k5:=k5) (newId:="ValueError.__new__") rfl (I.ok.hd hc) (wpAny_bind (thn ?_ fun v s3 h3=>wpAny_bind (wpAny_standAt (wpAny_pure h3))))))
 refine wpAny_Call_Name_kw (b5q I hg hm ?_ hdb);have ha:PA X [e] (tGA X.K (a0a fe gaNil)):=a0b he a0g hst;refine PySem.W.callWith_K (h₀:=X.base) I.ok.mod.kin hk (thn (ha cp pins s σ H (fun vs H1=>vs.length=1/\Post X.K F H A σ Γ1 [r1] vs H1) I ⟨F,A,Γ,[r1],Γ1,k,by rw[a0f,q];rfl,fun vs H1 pp=>⟨by obtain⟨_,_,_,_,hh⟩:=pp;exact hh.length.symm,pp⟩⟩) fun us s1 hh=>?_) hst hpl
 obtain⟨vs,H1,I1,r,hl,pp⟩:=hh;refine⟨I1.kIn,?_⟩;obtain⟨u,rfl⟩:=d6d (show 1=us.length by rw[<-hl,r.length])
 refine d2o G G0 I1 fun h' t kp g=>⟨_,t,rfl,kp _ _ (I1.kIn _ _ g1),g,?_⟩
 obtain⟨F1,A1,x1,kk,_⟩:=pp.drop;refine hp pins σ H1 s1 H1 _ _ C none I1 ⟨rfl,I1.bare,Un.kept kp,I1.hok.kept kp,Nat.le_succ _,I1.hok.fresh (Nat.le_succ _),_,_,g,rfl,rfl,rfl,by show 1 < 6;decide,.inl rfl⟩ (w none σ H1 ⟨F1,A1,x1,kk,Kept.refl,rfl⟩)
theorem a5e(Γ:Gm):a6s C fe Γ=(fe Γ).bind fun p=>some (.rt (.frz (.exc C none)),p.2):=rfl
end
abbrev Cx.inTry(X:Cx)(pn:List (Addr×Obj))(E:Value->Shared->Prop):Cx:={ X with pn:=pn,xe:=E}
abbrev Cx.inSuite(X:Cx)(e:Value):Cx:={ X with A:=X.A.mark (some e),calm:=false,xe:=fun _ _=>False}
structure Yng (X:Cx) (pins:List (Addr×Obj)) (n:Nat):Prop where
 s:X.s₀.heap.objs.size<=n
 l:X.env.locals < n
 c:∀x c,X.env.cells.lookup x=some c->c < n
 p:∀q∈X.pn++pins,q.1 < n
section
variable {X:Cx} {pins pins':List (Addr×Obj)} {pn:List (Addr×Obj)} {σ:St} {H:Hp} {s:Shared} {E:Value->Shared->Prop} {n:Nat} {ch:List Addr} {h':Heap}
theorem Cx.Ok.inTry(ok:X.Ok):(X.inTry pn E).Ok:=⟨ok.mod,ok.kind,ok.glob,ok.blt,ok.above,ok.inj,ok.has,ok.cab,ok.hd,ok.frames,ok.stk,ok.exf,ok.bs,ok.bsz,ok.noex,ok.exfs,ok.funs,ok.frf⟩
theorem Cx.Ok.outTry(ok:(X.inTry pn E).Ok):X.Ok:=⟨ok.mod,ok.kind,ok.glob,ok.blt,ok.above,ok.inj,ok.has,ok.cab,ok.hd,ok.frames,ok.stk,ok.exf,ok.bs,ok.bsz,ok.noex,ok.exfs,ok.funs,ok.frf⟩
theorem Inv.inTry(I:Inv X pins σ H s):Inv (X.inTry (X.pn++pins) E) [] σ H s:=⟨I.ok.inTry,I.os,I.bare,I.base,I.loc,I.cell,I.free,I.freeC,fun p hp=>I.pin p (by rw[List.append_nil] at hp;exact hp),I.hok,I.len⟩
theorem Inv.outTry(I:Inv (X.inTry (X.pn++pins) E) pins' σ H s):Inv X pins σ H s:=⟨I.ok.outTry,I.os,I.bare,I.base,I.loc,I.cell,I.free,I.freeC,fun p hp=>I.pin p (List.mem_append_left _ hp),I.hok,I.len⟩
theorem Inv.inSuite{e:Value}(I:Inv X pins σ H s):Inv (X.inSuite e) pins σ H s:=
 ⟨⟨I.ok.mod,I.ok.kind,I.ok.glob,I.ok.blt,I.ok.above,I.ok.inj,I.ok.has,I.ok.cab,fun z=>(nomatch z),I.ok.frames,I.ok.stk,I.ok.exf,I.ok.bs,I.ok.bsz,I.ok.noex,I.ok.exfs,I.ok.funs,I.ok.frf⟩,I.os,I.bare,I.base,I.loc,I.cell,I.free,I.freeC,I.pin,I.hok,I.len⟩
theorem Inv.outSuite{e:Value}(I:Inv (X.inSuite e) pins σ H s)(hd:X.calm=true->X.A.handled=none):Inv X pins σ H s:=
 ⟨⟨I.ok.mod,I.ok.kind,I.ok.glob,I.ok.blt,I.ok.above,I.ok.inj,I.ok.has,I.ok.cab,hd,I.ok.frames,I.ok.stk,I.ok.exf,I.ok.bs,I.ok.bsz,I.ok.noex,I.ok.exfs,I.ok.funs,I.ok.frf⟩,I.os,I.bare,I.base,I.loc,I.cell,I.free,I.freeC,I.pin,I.hok,I.len⟩
theorem Inv.yng(I:Inv X pins σ H s):Yng X pins s.heap.objs.size:=⟨I.sz,I.lt,fun x c e=>by obtain⟨v,o,ho,_⟩:=I.cell x c e;exact Heap.lt_size ho,fun q hq=>Heap.lt_size (I.pin q hq).1⟩
theorem Yng.far(y:Yng X pins n){b:Addr}(h:n<=b):(b∈X.ex\/X.s₀.heap.objs.size<=b)/\b≠X.env.locals/\(∀x c,X.env.cells.lookup x=some c->c≠b)/\∀p∈X.pn++pins,p.1≠b:=
 ⟨.inr (Nat.le_trans y.s h),fun z=>absurd (Nat.lt_of_lt_of_le y.l h) (z ▸ Nat.lt_irrefl _),fun x c e z=>absurd (Nat.lt_of_lt_of_le (y.c x c e) h) (z ▸ Nat.lt_irrefl _),fun p hp z=>absurd (Nat.lt_of_lt_of_le (y.p p hp) h) (z ▸ Nat.lt_irrefl _)⟩
theorem LeftX.un{fs:List Addr}{h:Heap}(l:LeftX fs ch h h'):Un fs ch H H h h':=
 ⟨fun b o g _ hb hx=>l.keep b o hb hx g,fun b o g _ hb hx=>l.slot b o hb hx g,fun _ _ _ n _=>n,fun b o g hx=>let ⟨_,g2⟩:=l.any g hx;⟨_,g2⟩,fun _ _ q=>q,fun _ _ _ q=>q,fun _ ps q=>⟨#[],by rw[q];simp⟩⟩
theorem Inv.left(I:Inv X pins σ H s)(y:Yng X pins n)(l:LeftX (frs X.stack) ch s.heap h')(hch:∀b∈ch,n<=b/\H b=none):Inv X pins σ H { s with heap:=h',toks:=t'}:=
 I.call (g':=s.gens) (d':=s.drawn) (ch:=ch) l.un (l.hok I.hok I.stkFree fun b m=>(hch b m).2) I.bare fun b m=>y.far (hch b m).1
theorem Inv.trackX{o:Obj}(I:Inv X pins σ H s)(y:Yng X pins n)(hn:n<=e)(he:H e=none)(g:s.heap.get? e=some o):Inv X pins σ (upd H e (.frz o (.own 0))) s:=by
 have ne:∀b u,H b=some u->b≠e:=fun b u q z=>by rw[z,he] at q;cases q
 refine I.step (h':=s.heap) (g':=s.gens) (t':=s.toks) (d':=s.drawn) (ch:=[e]) (fun b m=>by cases List.mem_singleton.1 m;exact y.far hn) (fun b o _ _ _ g _=>g) (fun b o _ _ _ g _=>⟨o.slots,g⟩) (fun b o hc g n=>by rw[a0v (by simpa using hc)];exact n) (fun b o _ g=>⟨o,g⟩)
  (fun b xs q=>by rw[a0v (ne b _ q)];exact q) (fun b o u q=>by rw[a0v (ne b _ q)];exact q) (fun b ps q=>⟨#[],by rw[a0v (ne b _ q),q];simp⟩) (fun m hm=>hm) (fun b u q=>?_) I.bare
 by_cases z:b=e
 ·subst z;rw[a1z] at q;cases q;exact⟨g,_,g⟩
 ·rw[a0v z] at q;exact(I.hok b u q).stay (fun _ _ _ g=>g) (fun c q=>by rw[a0v (ne c _ q)];exact q) fun c xs q=>by rw[a0v (ne c _ q)];exact q
theorem Inv.goes{v:Option Value}{mm:Str->Option Value}(I:Inv X pins σ H s)(hN:X.N.Nodup)(hi:X.N[i]?=some x)(hk:X.env.kindOf x=some .local)(hm:s.heap.Ns X.env.locals mm)(hl:∀(j:Nat) (y:Str) (w:V),X.N[j]?=some y->σ[j]?=some (some w)->Vis X.env.scope y->∃u,RelV w u/\Look X.env s.heap mm y u)
  (hn:h'.Ns X.env.locals (fun y=>if y=x then v else mm y)) (hs:Heap.SameBut X.env.locals s.heap h') :Inv X pins (σ.set i none) H { s with heap:=h',toks:=t'}:=by
 have nl:∀b o,X.s₀.heap.get? b=some o->b≠X.env.locals:=fun b o g=>Nat.ne_of_lt (Nat.lt_of_lt_of_le (Heap.lt_size g) I.ok.above)
 refine⟨I.ok,I.os,I.bare,⟨fun b o g n hb hx=>(hs.2 b (nl b o g)).trans (I.base.keep b o g n hb hx),fun b o g n hb hx=>?_,I.base.free,fun b o g hx=>?_,I.base.tups,I.base.frzs,I.base.tbls⟩,⟨_,hn,fun j y w e1 e2 e3=>?_⟩,fun y c e=>?_,I.free,I.freeC,fun p hp=>?_,fun b u q=>?_,by simpa using I.len⟩
 ·obtain⟨sl,g1⟩:=I.base.slot b o g n hb hx;exact⟨sl,(hs.2 b (nl b o g)).trans g1⟩
 ·obtain⟨o',g1⟩:=I.base.there b o g hx;exact⟨o',(hs.2 b (nl b o g)).trans g1⟩
 ·have hj:j≠i:=fun z=>by
   subst z;by_cases hlt:j < σ.length
   ·rw[List.getElem?_set_self hlt] at e2;cases e2
   ·rw[List.getElem?_eq_none (by simpa using hlt)] at e2;cases e2
  rw[List.getElem?_set_ne (Ne.symm hj)] at e2;obtain⟨u,r,q⟩:=hl j y w e1 e2 e3;refine⟨u,r,?_⟩;rcases q with⟨k,e⟩|⟨k,c,e,z⟩
  ·refine .inl ⟨k,?_⟩;have:y≠x:=fun z=>hj (b5o hN e1 (z ▸ hi))
   simp[this,e]
  ·exact .inr ⟨k,c,e,z.sameBut hs (I.cne y c e)⟩
 ·obtain⟨w,z⟩:=I.cell y c e;exact⟨w,z.sameBut hs (I.cne y c e)⟩
 ·obtain⟨e,n,ne,nf,d⟩:=I.pin p hp;exact⟨(hs.2 p.1 ne).trans e,n,ne,nf,d⟩
 ·refine(I.hok b u q).stay (fun c w hc g=>(hs.2 c ?_).trans g) (fun _ z=>z) fun _ _ z=>z
  rintro rfl;rcases hc with z|z
  ·rw[<-z,I.free] at q;cases q
  ·rw[I.free] at z;cases z
theorem d2p{M:Model}{A:Around}{dx:Option Addr}{Q:Unit->Shared->Prop}(fl:FlyX n s.heap H e C dx)(h:∀h' ch,(∀b∈ch,n<=b/\H b=none)->LeftX (frs X.stack) ch s.heap h'->FlyX n h' H e C dx->Q () { s with heap:=h'}):wpAny M A (setFlight (.ref e) none) Q E s:=by
 obtain⟨hne,hHe,oe,vs,he,hc,hx,hd,hsz,h1⟩:=fl;unfold setFlight;rcases h1 with h1|⟨T,oT,ts,h1,hnT,hHT,hTe,hT,hdT,h3⟩
 ·refine wpAny_bind (wpAny_field he hd h1 ?_);rw[if_neg (by decide)]
  exact wpAny_pure (h s.heap [] (fun _ z=>nomatch z) ⟨fun _ _ _ _ g=>g,fun _ o _ _ g=>⟨o.slots,g⟩⟩ ⟨hne,hHe,oe,vs,he,hc,hx,hd,hsz,.inl h1⟩)
 ·refine wpAny_bind (wpAny_field he hd h1 ?_);rw[if_pos (show(Value.ref T != Value.none)=true by simp)]
  have l3:3 < ts.size:=(Array.getElem?_eq_some_iff.mp h3).1;have dT:=Obj.data_mapFields hdT (·.setIfInBounds 3 ((none:Option Addr).elim Value.none fun f=>rawInt f))
  refine wpAny_setField hT hdT l3 (h _ [T] (fun b m=>by cases List.mem_singleton.1 m;exact⟨hnT,hHT⟩) ⟨fun b o _ hb g=>(Heap.get?_update_other _ _ (by simpa using Ne.symm (by simpa using hb:b≠T))).trans g,fun b o _ hb g=>⟨o.slots,(Heap.get?_update_other _ _ (by simpa using Ne.symm (by simpa using hb:b≠T))).trans g⟩⟩
   ⟨hne,hHe,oe,vs,(Heap.get?_update_other _ _ hTe).trans he,hc,hx,hd,hsz,.inr ⟨T,_,_,h1,hnT,hHT,hTe,Heap.get?_update_self _ hT (Obj.isFreed_of_fields dT),dT,by simp[Array.getElem?_setIfInBounds,l3]⟩⟩)
end
abbrev GH:=Option Nat×(Addr->Option Bool)×GS
variable{gs:List GH}
def b8u(i:Option Nat)(g:GS)(C:Addr)(l:Option Int):GS:=fun Γ=>match i with
 |none=>g Γ
 |some i=>if i < Γ.length then(g (Γ.set i (some (.frz (.exc C l))))).bind fun q=>some (q.1,q.2.set i none) else none
def tryH:List GH->Addr->Option Int->GS
 |[],_,_=>fun _=>none
 |h::hs,C,l=>fun Γ=>(h.2.1 C).bind fun b=>if b=true then b8u h.1 h.2.2 C l Γ else tryH hs C l Γ
def gsTry(f:GS)(hs:List GH):GS:=fun Γ=>(f Γ).bind fun p=>match p.1 with
 |.rt o=>match isX o with
  |some c=>tryH hs c.1 c.2 p.2
  |none=>some (.rt o,p.2)
 |fl=>some (fl,p.2)
section
variable {X:Cx} {K:Frag} {m:List Bool}
def SuOk(X:Cx)(K:Frag)(m:List Bool)(nm:Option Str)(b:List Stmt)(hp:Pos)(i:Option Nat)(g:GS):Prop:=∀(pins:List (Addr×Obj)) (σ:St) (H:Hp) (s:Shared) (D:Ends) (e C:Addr) (dx:Option Addr) (l:Option Int) (F:Hp) (A:List Addr) (Γ:Gm) (fl:Fl) (Γ':Gm) (n:Nat),Inv X pins σ H s->Yng X pins n->FlyX n s.heap H e C dx->OK K F H σ Γ A->ExcL F dx l->b8u i g C l Γ=some (fl,Γ')->Done K m none D F H A σ fl Γ'->
 codeAny (model X.prog X.w) (X.A.mark (some (.ref e))) (.handlers (.ref e) [.ExceptHandler none nm b hp] X.env) (fun r s₂=>match r with
     |.ok f=>(match nm with
      |none=>SP X pins D f s₂
      |some n=>wpAny (model X.prog X.w) X.A (do bindName X.env n .none;unbindBehindTheSuite X.env n hp) (fun _ s₃=>SP X pins D f s₃) X.xe s₂)
     |.error x=>cameBackBy (model X.prog X.w) X.A X.env X.xe x s₂) s
theorem OK.unname{F:Hp}{A:List Addr}{Γ:Gm}{τ:St}{Θ:Gm}(k:OK K F H (τ++σ) (Θ++Γ) A)(hτ:τ.length=Θ.length):∃B,OK K F H (τ++σ.set i none) (Θ++Γ.set i none) B/\Ext F H A F H B:=by
 obtain⟨B,C,h1,h2,h3⟩:=OwnL.split hτ k.os;subst h3;obtain⟨C',g1,g2⟩:=OwnL.forget i h2;have g3:OwnL K F H (σ.set i none) (Γ.set i none) C':=by
  by_cases hi:i < Γ.length
  ·exact OwnL.loose g1 (by rw[List.getElem?_set_self hi])
  ·have hl:=h2.length;rw[List.set_eq_of_length_le (by omega)]
   exact g1
 exact⟨B++C',k.sub (h1.app g3) ((SubP.refl B).app (.of_sub g2))⟩
theorem e1r{b0:Stmt}{suite:List Stmt}(hN:X.N.Nodup)(hi:X.N[i]?=some x)(hk:X.env.kindOf x=some .local)(hS:∀e,PSs (X.inSuite e) (b0::suite) (tS K m none g))(hm:(m[i]? == some true)=false:=by rfl):SuOk X K m (some x) (b0::suite) hp (some i) g:=by
 intro pins σ H s D e C dx l F A Γ fl Γ' n I y f k el ee w;unfold b8u at ee;dsimp only at ee;split at ee
 ·rename_i hlt
  obtain⟨⟨fl1,Γ1⟩,q1,ee⟩:=Option.bind_eq_some_iff.mp ee;cases ee;refine codeAny_handlers_suite_as (d2p (X:=X) f fun h' ch hch lx f2=>?_)
  have I2:Inv X pins σ H { s with heap:=h',toks:=s.toks}:=I.left y lx hch;obtain⟨hne,hHe,oe,vs,he,hc,hx,hd,_⟩:=f2;have I3:=I2.trackX y hne hHe he;obtain⟨k2,x2⟩:=c7p (u:=.frz oe (.own 0)) k hHe;have hF:F e=none:=k.le.free hHe;have rp:RepL K (upd F e (.frz oe (.own 0))) [.ref e] [.exc C l]:=by
   refine .exc ?_ .nil;cases l with
   |none=>
    have el:dx=none:=el;exact⟨oe,a1z,hc,hx.trans el,vs,hd⟩
   |some nn=>
    obtain⟨d,rfl,ed⟩:=(show ∃d,dx=some d/\F d=some (.xd [("line",.int nn)]) from el);exact⟨oe,d,a1z,⟨hc,hx,vs,hd⟩,by rw[a0v (fun z=>by rw[z,hF] at ed;cases ed)];exact ed⟩
  obtain⟨k3,x3⟩:=k2.push (v:=.ref e) (o:=.frz (.exc C l)) (Av:=[]) (Same.refl _) (.frz rp .nil) .nil (fun _ m=>by cases m)
  obtain⟨B,k4,x4⟩:=OK.store (i:=i) k3 hlt;have x5:=x2.trans (x3.trans x4);have kp0:Kept m σ (σ.set i (some (.ref e))):=Kept.set hm;refine b5p I3 hN hi (.inl hk) (v:=.ref e) (u:=.ref e) rfl (fun s3 I4=>?_) (.inr hk)
  have dn:Done K m none { D with nx:=fun σ' H'=>D.nx (σ'.set i none) H',bk:=fun σ' H'=>D.bk (σ'.set i none) H',ct:=fun σ' H'=>D.ct (σ'.set i none) H'} (upd F e (.frz oe (.own 0))) (upd H e (.frz oe (.own 0))) B (σ.set i (some (.ref e))) fl1 Γ1:=by
   have go:∀{σ' H'},PostS K (upd F e (.frz oe (.own 0))) (upd H e (.frz oe (.own 0))) B m (σ.set i (some (.ref e))) Γ1 σ' H'->PostS K F H A m σ (Γ1.set i none) (σ'.set i none) H':=fun{σ' H'} ⟨F',A',x',k',kp⟩=>by
    obtain⟨B2,k6,x6⟩:=OK.unname (τ:=[]) (Θ:=[]) (i:=i) k' rfl;exact⟨F',B2,x5.trans (x'.trans x6),k6,kp0.trans (kp.trans (Kept.set hm))⟩
   cases fl1 with
   |nx=>exact fun σ' H' q=>w _ H' (go q)
   |bk=>exact fun σ' H' q=>w _ H' (go q)
   |ct=>exact fun σ' H' q=>w _ H' (go q)
   |rt o=>
    intro v σ' H' ⟨F',A',x',k',kp⟩;obtain⟨B2,k6,x6⟩:=OK.unname (τ:=[some v]) (Θ:=[some o]) (i:=i) k' rfl;exact w v _ H' ⟨F',B2,x5.trans (x'.trans x6),k6,kp0.trans (kp.trans (Kept.set hm))⟩
  refine wpAny_mono (hS (.ref e) pins s3 _ _ _ I4.inSuite ⟨_,_,_,fl1,Γ1,k4,q1,dn⟩) (fun ff s4 q=>?_) fun _ _ z=>z.elim
  have hcls:(X.env.scope.kind == .class || (X.env.scope.kind == .module && X.env.locals != X.env.globals))=false:=by rw[I.ok.kind];rfl
  cases ff with
  |next=>
   obtain⟨σ',H',J,r⟩:=q;have J:=J.outSuite I.ok.hd;obtain⟨mm,hn,hl⟩:=id J.loc;exact wpAny_nameGoes_keeps hk hn hcls fun h5 v hn' hs=>⟨_,_,J.goes hN hi hk hn hl hn' hs,r⟩
  |brk=>
   obtain⟨σ',H',J,r⟩:=q;have J:=J.outSuite I.ok.hd;obtain⟨mm,hn,hl⟩:=id J.loc;exact wpAny_nameGoes_keeps hk hn hcls fun h5 v hn' hs=>⟨_,_,J.goes hN hi hk hn hl hn' hs,r⟩
  |cont=>
   obtain⟨σ',H',J,r⟩:=q;have J:=J.outSuite I.ok.hd;obtain⟨mm,hn,hl⟩:=id J.loc;exact wpAny_nameGoes_keeps hk hn hcls fun h5 v hn' hs=>⟨_,_,J.goes hN hi hk hn hl hn' hs,r⟩
  |ret u=>
   obtain⟨v0,σ',H',J,rv,r⟩:=q;have J:=J.outSuite I.ok.hd;obtain⟨mm,hn,hl⟩:=id J.loc;exact wpAny_nameGoes_keeps hk hn hcls fun h5 v hn' hs=>⟨v0,_,_,J.goes hN hi hk hn hl hn' hs,rv,r⟩
 ·cases ee
def HB(X:Cx)(K:Frag)(m:List Bool)(hs:List ExceptHandler)(gs:List GH):Prop:=∀(pins:List (Addr×Obj)) (σ:St) (H:Hp) (s:Shared) (D:Ends) (e C:Addr) (dx:Option Addr) (l:Option Int) (F:Hp) (A:List Addr) (Γ:Gm) (fl:Fl) (Γ':Gm) (n:Nat),Inv X pins σ H s->Yng X pins n->FlyX n s.heap H e C dx->OK K F H σ Γ A->ExcL F dx l->tryH gs C l Γ=some (fl,Γ')->Done K m none D F H A σ fl Γ'->
 wpAny (model X.prog X.w) X.A (handleBy (.ref e) X.env hs) (SP X pins D) X.xe s
theorem e0i:HB X K m [] []:=fun _ _ _ _ _ _ _ _ _ _ _ _ _ _ _ _ _ _ _ _ e _=>by cases e
theorem d6y{np:Pos}{nm:Option Str}{b:List Stmt}{i:Option Nat}{wh:Addr->Option Bool}{Cc:Addr}(hm:X.mg x=some (.ref Cc))(hw:∀C b,wh C=some b->exmOne K (.ref C) (.ref Cc)=some b)(su:SuOk X K m nm b hp i g)(rest:HB X K m hs gs)(hg:Gl X x:=by rfl)(hdb:(x == ("__debug__":Str))=false:=by decide)(hK:X.K=K:=by rfl):
  HB X K m (.ExceptHandler (some (.Name x np)) nm b hp::hs) ((i,wh,g)::gs):=by
 subst hK;intro pins σ H s D e C dx l F A Γ fl Γ' n I y f k el ee w;obtain⟨bb,q1,ee⟩:=Option.bind_eq_some_iff.mp ee;dsimp only at q1 ee;refine wpAny_handleBy_cons (codeAny_handlers_test (b5q (I.inSuite (e:=.ref e)) hg hm ?_ hdb)) (by intro q;cases q)
 obtain⟨hne,hHe,oe,vs,he,hc,hr⟩:=id f;have LT:Looks (model X.prog X.w) s.heap (typeOf (.ref e)) (.ref C):=by
  rw[<-hc];exact(Looks.ld he).andThen .now
 refine(exm_one I.kIn LT (hw C bb q1)).here ?_;cases bb with
 |true=>exact su pins σ H s D e C dx l F A Γ fl Γ' n I y f k el (by simpa using ee) w
 |false=>exact rest pins σ H s D e C dx l F A Γ fl Γ' n I y f k el (by simpa using ee) w
theorem SP.outTry{pins:List (Addr×Obj)}{E:Value->Shared->Prop}{D:Ends}{f:Flow}{s':Shared}(h:SP (X.inTry (X.pn++pins) E) [] D f s'):SP X pins D f s':=by
 cases f with
 |next=>obtain⟨σ',H',I,q⟩:=h;exact⟨σ',H',I.outTry,q⟩
 |brk=>obtain⟨σ',H',I,q⟩:=h;exact⟨σ',H',I.outTry,q⟩
 |cont=>obtain⟨σ',H',I,q⟩:=h;exact⟨σ',H',I.outTry,q⟩
 |ret u=>obtain⟨v,σ',H',I,r,q⟩:=h;exact⟨v,σ',H',I.outTry,r,q⟩
theorem e0j{body:List Stmt}{h0:ExceptHandler}{f:GS}(hb:∀(pn:List (Addr×Obj)) (E:Value->Shared->Prop) (W:XW),XPass (X.inTry pn E) W->PSs (X.inTry pn E) body (tS K m (some W) f))(hh:HB X K m (h0::hs) gs)(hst:X.stack=X.env::X.outer:=by rfl)(hf:X.env.frame=some X.env.locals:=by rfl):
  PS X (.Try body (h0::hs) [] [] pos) (tS K m none (gsTry f gs)):=by
 intro pins s σ H D I t;obtain⟨F,A,Γ,fl,Γ',k,e,w⟩:=t;obtain⟨⟨fl1,Γ1⟩,q,e⟩:=Option.bind_eq_some_iff.mp e;refine wpAny_Try_except ?_;have hp:XPass (X.inTry (X.pn++pins) fun e s₁=>wpAny (model X.prog X.w) X.A (noteFrame e X.env) (fun _ s₂=>wpAny (model X.prog X.w) X.A (setFlight e none) (fun _ s₃=>wpAny (model X.prog X.w) X.A (handleBy e X.env (h0::hs)) (SP X pins D) X.xe s₃) X.xe s₂) X.xe s₁)
   (fun C dx σ' H'=>∃F' A' Γ1 l fl Γ',OK K F' H' σ' Γ1 A'/\ExcL F' dx l/\tryH gs C l Γ1=some (fl,Γ')/\Done K m none D F' H' A' σ' fl Γ'):=by
  intro pins' σ' H1 s1 H' s' e C dx I1 c q;obtain⟨F',A',Γ2,l,fl2,Γ3,k2,el,e2,w2⟩:=q;have I':Inv X pins σ' H' s':=(c.inv I1).outTry;have J:Inv X pins σ' H1 s1:=I1.outTry;refine d3x (base:=X.base) (n:=s1.heap.objs.size) (by rw[<-hst];exact I.ok.frames) (by rw[<-hst];exact I'.stack) hf c.fly.lt (fun a z=>I'.hok.fresh z) c.fly fun h' ch hch lx fl=>?_
  rw[<-hst] at lx;have I3:Inv X pins σ' H' { s' with heap:=h',toks:=s'.toks}:=I'.left J.yng lx hch;exact hh pins σ' H' _ D e C dx l F' A' Γ2 fl2 Γ3 _ I3 J.yng fl k2 el e2 w2
 refine wpAny_mono (hb _ _ _ hp [] s σ H D I.inTry ⟨F,A,Γ,fl1,Γ1,k,q,?_⟩) (fun ff s1 z=>?_) fun e s1 z=>z
 ·dsimp only at e;cases fl1 with
  |nx=>cases e;exact w
  |bk=>cases e;exact w
  |ct=>cases e;exact w
  |rt o=>
   dsimp only at e;unfold Done;dsimp only;unfold DoneR;cases hx:isX o with
   |none=>rw[hx] at e;cases e;exact w
   |some c=>
    rw[hx] at e;exact fun dx σ' H' ⟨F',A',x,k',kp,el⟩=>⟨F',A',Γ1,c.2,fl,Γ',k',el,e,w.step x kp⟩
 ·have z:=z.outTry;cases ff with
  |next=>
   obtain⟨σ',H',J,r⟩:=z;exact pss_nil pins s1 σ' H' D J r
  |brk=>exact z
  |cont=>exact z
  |ret u=>exact z
end
end L2
namespace L2
open PySem PySem.Spec PyProof.Rows
section
variable {K:L2.FG} {F H:Hp} {σ:St} {Γ:Gm} {A:List Addr} {C:Addr} {ns:List Str} {ps:List O} {x:V} {i j:Nat} {c:O}
end
section
variable {X:Cx} {K:L2.FG} {m:List Bool} {W:Option XW} {Ch:Addr} {ns:List Str} {i j:Nat} {e o value:Expr} {f:Str} {pos pos' apos cpos:Pos} {fe:GE}
end
section
variable {X:Cx} {K:L2.FG} {m:List Bool} {W:Option XW} {Ch:Addr} {ns:List Str} {i j:Nat} {e o value ei:Expr} {es:List Expr} {f name:Str} {pos pos' apos cpos tpos:Pos} {fe fv fi:GE} {fs:GA} {id:String} {r:V->List V->Hp->VK->Prop} {g:O->List O->Option (O×O)}
end
section
variable {X:Cx} {K:L2.FG} {W:XW} {Ch:Addr} {ns:List Str} {i k n:Nat} {e o:Expr} {es:List Expr} {f:Addr} {fd:FuncData} {ps:List Str} {m:Str} {pos apos p:Pos} {fs:GA} {M:GM} {fa:GE}
structure MethAt (K:L2.FG) (C:Addr) (m qual:Str) (st:Stmt) (f:Addr) (fd:FuncData) (ps:List Str):Prop where
 fn:Fun K m qual st f fd
 mt:Meth K C m f
 bd:Binds K fd ps []
end
end L2
namespace L2
open PySem PySem.Spec PySem.W PySem.Calls PyProof.Rows
section
variable {X:Cx} {pins:List (Addr×Obj)} {σ:St} {H:Hp} {s:Shared} {d:Addr} {es:List (TK×V×V)} {ep:Nat}
end
section
variable {prog:Program} {w:World} {A:Around} {E:Value->Shared->Prop} {s:Shared}
end
section
variable {X:Cx} {K:Frag}
theorem c8n:bootBuiltins "sorted"=some (.builtin "sorted"):=by decide +kernel
end
section
variable {prog:Program} {w:World} {A:Around} {E:Value->Shared->Prop} {s:Shared} {it d:Addr} {kvs:List (Str×Value)} {ep:Nat}
end
section
variable {X:Cx} {K:Frag}
end
section
variable {K:Frag} {mg:Str->Option Value} {tab:List (Str×Addr)} {L B0 fI:Addr}
theorem ErrC.exm{C C':Addr}{bm bm':List Value}{i i':Option Value}(G:ErrC K C bm i)(G':ErrC K C' bm' i')(h:(Value.ref C'::bm').contains (.type "BaseException")=true):exmOne K (.ref C) (.ref C')=some ((Value.ref C::bm).contains (.ref C')):=by
 obtain⟨cd,c1,c2,c3,c4⟩:=G'.cls;unfold exmOne;rw[G'.sub,h,if_pos (by decide)]
 unfold kitCls;dsimp only;rw[if_pos (by rw[c1,c4];rfl)]
 exact G.sub _
end
section
variable {X:Cx} {K:Frag} {B0:Addr}
end
end L2
namespace L2
open PySem PySem.Spec PyProof.Rows
section
variable {X:Cx} {K:L2.FG} {fa fb fc:GE} {m:List Bool} {W:Option XW} {a b c:Expr} {pos:Pos}
def c8o(c1 c2:Int->Int->Bool)(fa fb fc:GE):GT:=fun Γ=>(fa Γ).bind fun p=>(fb p.2).bind fun q=>match p.1,q.1 with
 |.own (.frz (.int x)),.own (.frz (.int y))=>if c1 x y=true then(fc q.2).bind fun r=>match r.1 with
   |.own (.frz (.int z))=>some (c2 y z,r.2)
   |_=>none
  else some (false,q.2)
 |_,_=>none
theorem d2q{op op':CmpOp}{c1 c2:Int->Int->Bool}(ho:OpR X (compareOp op) (rI0 fun i j=>.bl (c1 i j)))(ho':OpR X (compareOp op') (rI0 fun i j=>.bl (c2 i j)))(ha:PE X a (tG K fa))(hb:PE X b (tG K fb))(hc:PE X c (tG K fc))
  (hm:lastMarks [op,op'] [b,c]=false:=by with_unfolding_all rfl):PT X (.Compare a [op,op'] [b,c] pos) (tGT K (c8o c1 c2 fa fb fc)):=(d1d ho ho' ha hb hc hm).mono fun σ H Q t=>by
 obtain⟨F,A,Γ,rb,Γ',k,e,w⟩:=t;unfold c8o at e;obtain⟨⟨r1,Γ1⟩,e1,e'⟩:=Option.bind_eq_some_iff.mp e;clear e;obtain⟨⟨r2,Γ2⟩,e2,e⟩:=Option.bind_eq_some_iff.mp e';clear e';dsimp only at e2 e;split at e
 ·rename_i x y
  refine⟨F,A,Γ,_,Γ1,k,e1,fun v H1 pp=>?_⟩
  have hv:v=.int x:=Post.flat pp rfl;subst hv;obtain⟨F1,A1,x1,k1,hh⟩:=pp;obtain⟨B,C,h1,h2,h3⟩:=OwnL.one (σ:=σ) (Γ:=Γ1) k1.os;subst h3;obtain⟨k2,x2⟩:=k1.sub h2 (.of_sub (List.sublist_append_right _ _));refine⟨F1,C,Γ1,_,Γ2,k2,e2,fun v2 H2 pp2=>?_⟩
  have hv2:v2=.int y:=Post.flat pp2 rfl;subst hv2;obtain⟨F2,A2,x3,k3,hh2⟩:=pp2;obtain⟨B2,C2,h4,h5,h6⟩:=OwnL.one (σ:=σ) (Γ:=Γ2) k3.os;subst h6;obtain⟨k4,x4⟩:=k3.sub h5 (.of_sub (List.sublist_append_right _ _));have x12:=(x1.trans x2).trans (x3.trans x4);refine⟨x,y,rfl,rfl,c1 x y,rfl,?_⟩;cases hc1:c1 x y with
  |true=>
   rw[hc1,if_pos rfl] at e;rw[if_pos rfl];obtain⟨⟨r3,Γ3⟩,e3,e4⟩:=Option.bind_eq_some_iff.mp e;dsimp only at e4;split at e4
   ·rename_i z
    cases e4;refine⟨F2,C2,Γ2,_,_,k4,e3,fun v3 H3 pp3=>?_⟩
    have hv3:v3=.int z:=Post.flat pp3 rfl;subst hv3;obtain⟨F3,A3,x5,k5,hh3⟩:=pp3;obtain⟨B3,C3,h7,h8,h9⟩:=OwnL.one (σ:=σ) k5.os;subst h9;obtain⟨k6,x6⟩:=k5.sub h8 (.of_sub (List.sublist_append_right _ _));exact⟨y,z,rfl,rfl,_,rfl,w H3 ⟨F3,C3,x12.trans (x5.trans x6),k6,True.intro⟩⟩
   ·cases e4
  |false=>
   rw[hc1,if_neg Bool.false_ne_true] at e;rw[if_neg Bool.false_ne_true];cases e;exact⟨_,rfl,w H2 ⟨F2,C2,x12,k4,True.intro⟩⟩
 ·cases e
end
variable{x:Str}
section
variable {X:Cx} {K:L2.FG} {pos:Pos}
theorem c8p{n:Int}(hg:Gl X x)(hm:∃t,X.mg x=some (.int n t))(hd:(x == ("__debug__":Str))=false:=by decide):PE X (.Name x pos) (tC (.int n)):=by
 obtain⟨t,h⟩:=hm;exact b1d hg h ⟨t,rfl⟩ hd
theorem c8q{z:Str}(hg:Gl X x)(hm:∃t,X.mg x=some (.str z t))(hd:(x == ("__debug__":Str))=false:=by decide):PE X (.Name x pos) (tC (.str z)):=by
 obtain⟨t,h⟩:=hm;exact b1d hg h ⟨t,rfl⟩ hd
end
section
variable {X:Cx} {K:L2.FG}
def c8r:V->List V->Hp->VK->Prop:=fun x xs H Q=>∃(l:Addr) (ys:List Str) (z:Str) (j:Nat),x=.ref l/\xs=[.str z]/\H l=some (.lst (ys.map V.str))/\ys[j]?=some z/\(∀i y,i < j->ys[i]?=some y->y≠z)/\Q .non (upd H l (.lst ((ys.eraseIdx j).map V.str)))
theorem b3o{α β:Type}(f:α->β):∀(xs:List α) (j:Nat),(xs.map f).eraseIdx j=(xs.eraseIdx j).map f
 |[],j=>by simp
 |_::_,0=>rfl
 |x::xs,j+1=>by show f x::(xs.map f).eraseIdx j=f x::(xs.eraseIdx j).map f;rw[b3o f xs j]
theorem b0m:∀{ps:List (Str×Tok)},Vals ((ps.map (·.1)).map V.str) (ps.map fun p=>Value.str p.1 p.2)
 |[]=>.nil
 |p::ps=>.cons ⟨p.2,rfl⟩ b0m
theorem c8s:MtM X "list.remove" c8r:=by
 intro pins s σ H x xs v us Q I rx rs h;obtain⟨l,ys,z,j,rfl,rfl,hH,hj,hne,q⟩:=h;cases rx;obtain⟨u,rfl,ru⟩:=vals1 rs;obtain⟨t,rfl⟩:=ru;obtain⟨hz,its,n,rv,hl,eo⟩:=I.lstM hH;obtain⟨ps,e1,e2⟩:=b4x rv;subst e1;have hlen:ps.length=ys.length:=by rw[<-e2,List.length_map]
 have hjl:j < ys.length:=(List.getElem?_eq_some_iff.mp hj).1;have hys:∀i (hi:i < ps.length),ys[i]?=some ps[i].1:=fun i hi=>by rw[<-e2];simp[hi]
 have hsz:(ps.map fun p=>Value.str p.1 p.2).toArray.size=ps.length:=by simp
 have hjz:ps[j].1=z:=by
  have:=hys j (by omega)
  rw[hj] at this;exact(Option.some.inj this).symm
 refine call_meets F.slot_list_remove ⟨_,eo,rfl⟩ F.entry_list_remove (F.args_list_remove_2 _ _) (MeetsSeq.list_remove l _ n (.str z t) (c8i z) ?_ j (by rw[hsz];omega) ?_ ?_ (by rw[hsz,hlen];simpa using hz)) ⟨eo,?_⟩
 ·intro y hy;simp at hy;obtain⟨b,t',_,rfl⟩:=hy;show MeetsSeq.EqGives _ _ (b == z);rw[<-SeqAt.str_beq];exact SeqRoads2.EqGives.str b z t' t
 ·simp[c8i,hjz]
 ·intro i hi hij;rw[hsz] at hi;have:=hne i _ hij (hys i hi);simp[c8i];exact this
 ·refine⟨.non,_,I.lset (its':=(ps.eraseIdx j).map fun p=>Value.str p.1 p.2) hH eo ?_ ?_ ?_,rfl,q⟩
  ·apply Array.toList_inj.mp;simp[Array.toList_eraseIdxIfInBounds,b3o]
  ·rw[<-e2,b3o];exact b0m
  ·rw[List.length_map];have:=List.length_eraseIdx_le ys j;rw[List.length_map] at hz;omega
def strsO:List O->Option (List Str)
 |[]=>some []
 |.frz (.str x)::os=>(strsO os).map fun xs=>x::xs
 |_=>none
abbrev fzS(y:Str):O:=.frz (.str y)
theorem b8v:∀xs:List Str,strsO (xs.map fzS)=some xs
 |[]=>rfl
 |i::is=>by rw[List.map_cons];show(strsO (is.map fzS)).map _=_;rw[b8v is];rfl
theorem b8w:∀{os:List O} {xs:List Str},strsO os=some xs->os=xs.map fzS
 |[],xs,e=>by cases e;rfl
 |o::os,xs,e=>by
  unfold strsO at e;split at e
  ·cases e
   rename_i h
   cases h
  ·rename_i x os' h
   cases h;obtain⟨ys,e1,e2⟩:=Option.map_eq_some_iff.mp e;subst e2;rw[List.map_cons,<-b8w e1]
  ·cases e
theorem b1z{F H:Hp}:∀{ws:List V} {xs:List Str} {A:List Addr},OwnL K F H (ws.map some) ((xs.map fzS).map some) A->ws=xs.map .str
 |[],[],_,_=>rfl
 |[],_::_,_,h=>by have:=h.length;simp at this
 |_::_,[],_,h=>by have:=h.length;simp at this
 |w::ws,i::is,A,h=>by
  obtain⟨B1,B2,g1,g2,rfl⟩:=OwnL.one h;cases a0z g1 rfl;rw[b1z g2];rfl
theorem c2v{F H:Hp}:∀(xs:List Str),OwnL K F H ((xs.map V.str).map some) ((xs.map fzS).map some) []
 |[]=>.nil
 |_::xs=>.frz (.flat rfl .nil) (c2v xs)
def b1s:O->List O->Option (O×O)
 |.lst ps,[.frz (.str z)]=>(strsO ps).bind fun ys=>(findS ys z).map fun j=>(.lst ((ys.eraseIdx j).map fzS),.frz .non)
 |_,_=>none
theorem c8t:MutOk K c8r b1s:=by
 intro F H x vs o os o' res Ai Aτ Q le h1 h2 nd fr e q;unfold b1s at e;split at e
 ·rename_i ps z
  obtain⟨ys,e1,e2⟩:=Option.bind_eq_some_iff.mp e;obtain⟨j,e3,e4⟩:=Option.map_eq_some_iff.mp e2;cases e4;cases b8w e1;obtain⟨l,ws,Ap,rfl,hl,i,nd',go⟩:=a9z h1 rfl nd q
  match vs,h2 with
  |[v],h2=>
   cases a0z h2 rfl;cases b1z i;obtain⟨s1,s2⟩:=b5a e3;exact⟨l,ys,z,j,rfl,rfl,hl,s1,s2,go _ _ [] .non [] rfl (c2v _) b1m ⟨_,List.Perm.refl _,List.nil_sublist _⟩⟩
  |[],h2=>have:=h2.length;simp at this
  |_::_::_,h2=>have:=h2.length;simp at this
 ·cases e
theorem c8u(ys:List Str)(z:Str):b1s (.lst (ys.map fzS)) [.frz (.str z)]=(findS ys z).map fun j=>(.lst ((ys.eraseIdx j).map fzS),.frz .non):=by
 show((strsO (ys.map fzS)).bind _)=_;rw[b8v,Option.bind_some]
end
theorem c2w{X:Cx}{K:L2.FG}{a b c d e f:Expr}{es:List Expr}{fa fb fc fd fe ff:GE}{fs:GA}(h1:PE X a (tG K fa))(h2:PE X b (tG K fb))(h3:PE X c (tG K fc))(h4:PE X d (tG K fd))(h5:PE X e (tG K fe))(h6:PE X f (tG K ff))(hr:PA X es (tGA K fs))
  (s1:starEach (a::b::c::d::e::f::es) X.env=(false,eval a X.env)::starEach (b::c::d::e::f::es) X.env:=by rfl) (s2:starEach (b::c::d::e::f::es) X.env=(false,eval b X.env)::starEach (c::d::e::f::es) X.env:=by rfl)
  (s3:starEach (c::d::e::f::es) X.env=(false,eval c X.env)::starEach (d::e::f::es) X.env:=by rfl) (s4:starEach (d::e::f::es) X.env=(false,eval d X.env)::starEach (e::f::es) X.env:=by rfl)
  (s5:starEach (e::f::es) X.env=(false,eval e X.env)::starEach (f::es) X.env:=by rfl) (s6:starEach (f::es) X.env=(false,eval f X.env)::starEach es X.env:=by rfl) :
  PA X (a::b::c::d::e::f::es) (tGA K (a0a fa (a0a fb (a0a fc (a0a fd (a0a fe (a0a ff fs))))))):=a0b h1 (a0b h2 (a0b h3 (a0b h4 (a0b h5 (a0b h6 hr s6) s5) s4) s3) s2) s1
theorem fnsc{N P:List Str}{sc:Scope}(h1:sc.kind=.function:=by rfl)(h2:sc.isCoroutine=false:=by rfl)(h3:sc.isGenerator=false:=by rfl)(h4:N.Nodup:=by decide +kernel)(h5:N.take P.length=P:=by rfl)(h6:∀x∈P,sc.names.lookup x=some .local \/ sc.names.lookup x=some .cell:=by decide +kernel)(h7:∀y∈sc.names,y.2≠.free:=by decide +kernel):FnScope N P sc:=⟨h1,h2,h3,h4,h5,h6,h7⟩
theorem Room.le{k k':Nat}{A:PySem.Around}(h:Room k A)(e:k'<=k:=by decide):Room k' A:=h.mono e
section
variable {C Ch:Addr} {ns:List Str} {Γ:Gm}
theorem a4h(f:GE):a6r f Γ=(f Γ).bind fun p=>match p.1 with
 |.own o=>match isX o with
  |some _=>some (.rt o,p.2)
  |none=>some (.nx,p.2)
 |_=>none:=rfl
theorem d6z(fa:GE):c2d fa Γ=(fa Γ).bind fun p=>match p.1 with
 |.own o=>match isX o with
  |none=>some (.rt o,p.2)
  |some _=>none
 |_=>none:=by first|rfl|(unfold c2d;rfl)
theorem b8x(f:GS)(hs:List GH):gsTry f hs Γ=(f Γ).bind fun p=>match p.1 with
 |.rt o=>match isX o with
  |some c=>tryH hs c.1 c.2 p.2
  |none=>some (.rt o,p.2)
 |fl=>some (fl,p.2):=rfl
theorem b6q(h:GH)(hs:List GH)(C:Addr)(l:Option Int):tryH (h::hs) C l Γ=(h.2.1 C).bind fun b=>if b=true then b8u h.1 h.2.2 C l Γ else tryH hs C l Γ:=rfl
theorem b0n(i:Nat)(g:GS)(C:Addr)(l:Option Int):b8u (some i) g C l Γ=if i < Γ.length then(g (Γ.set i (some (.frz (.exc C l))))).bind fun q=>some (q.1,q.2.set i none) else none:=rfl
theorem a6t(C:Addr)(l:Option Int):isX (.frz (.exc C l))=some (C,l):=rfl
theorem a7l:isX (.frz .non)=none:=rfl
end
end L2
namespace L2
open PySem PySem.Spec PySem.W PyProof.Rows
mutual
def plO:O->Bool
 |.frz d=>(a3z d).isSome
 |.lst xs=>plL xs
 |.tup xs=>plL xs
 |.dct kvs=>kvs.isEmpty
 |.ins _ _ ps=>plL ps
def plL:List O->Bool
 |[]=>true
 |o::os=>plO o && plL os
end
section
variable {K:Frag} {F F' H:Hp} {σ:St} {Γ:Gm} {A:List Addr}
theorem b6r:∀{os:List O},plL os=true->∀o,some o∈os.map some->plO o=true
 |[],_,o,m=>by cases m
 |p::os,h,o,m=>by
  rw[plL,Bool.and_eq_true] at h;rcases List.mem_cons.mp m with e|m
  ·cases e;exact h.1
  ·exact b6r h.2 o m
theorem b3p(h:OwnL K F H σ Γ A):(∀o,some o∈Γ->plO o=true)->OwnL K F' H σ Γ A:=by
 induction h with
 |nil=>exact fun _=>.nil
 |skip _ ih=>exact fun p=>.skip (ih fun o m=>p o (List.mem_cons_of_mem _ m))
 |frz r _ ih=>
  intro p;have q:=p _ (List.mem_cons_self ..);rw[plO] at q;refine .frz ?_ (ih fun o m=>p o (List.mem_cons_of_mem _ m))
  cases r with
  |flat e _=>exact .flat e .nil
  |_=>exact nomatch q
 |lst e _ _ i1 i2=>
  intro p;have q:=p _ (List.mem_cons_self ..);rw[plO] at q;exact .lst e (i1 (b6r q)) (i2 fun o m=>p o (List.mem_cons_of_mem _ m))
 |tup e _ _ i1 i2=>
  intro p;have q:=p _ (List.mem_cons_self ..);rw[plO] at q;exact .tup e (i1 (b6r q)) (i2 fun o m=>p o (List.mem_cons_of_mem _ m))
 |@dct a kvs ps ep A B σ Γ e k r _ _ i1 i2=>
  intro p;have q:=p _ (List.mem_cons_self ..);rw[plO] at q;cases ps with
  |nil=>
   cases kvs with
   |nil=>exact .dct e k .nil (i1 fun o m=>by cases m) (i2 fun o m=>p o (List.mem_cons_of_mem _ m))
   |cons=>cases k
  |cons=>cases q
 |ins e d k _ _ i1 i2=>
  intro p;have q:=p _ (List.mem_cons_self ..);rw[plO] at q;exact .ins e d k (i1 (b6r q)) (i2 fun o m=>p o (List.mem_cons_of_mem _ m))
end
section
variable {X:Cx} {K:Frag} {k n:Nat} {f Ch:Addr} {fd:FuncData} {ps ns:List Str} {p pos:Pos} {e:Expr} {es:List Expr} {fs:GA} {M:GM} {W:XW}
end
section
variable {X:Cx} {K:Frag} {m:List Bool} {W:Option XW} {body:List Stmt} {f:GS} {i j:Nat}
end
section
variable {X:Cx} {K:Frag} {o e:Expr} {es:List Expr} {fo:GE} {fs:GA} {name:Str} {apos cpos:Pos} {id:String} {r:V->List V->Hp->VK->Prop} {g:O->List O->Option (O×O)}
end
end L2
namespace L2
open PySem PySem.Spec PySem.W PySem.Calls PyProof.Rows
structure Errz (K:Frag) (mg:Str->Option Value) (tab:List (Str×Addr)) (B0:Addr):Prop where
 all:∀p∈tab,mg p.1=some (.ref p.2)/\ErrC K p.2 (.ref B0::bmV) none/\IsErr K p.2/\keepIn K (.ref p.2)=true
 G0:ErrC K B0 bmV none
section
variable {K:Frag} {mg:Str->Option Value} {tab:List (Str×Addr)} {B0:Addr}
theorem Errz.ix(E:Errz K mg tab B0){i:Nat}{n:Str}{C:Addr}(h:tab[i]?=some (n,C)):mg n=some (.ref C)/\ErrC K C (.ref B0::bmV) none/\IsErr K C/\keepIn K (.ref C)=true:=E.all (n,C) (List.mem_of_getElem? h)
end
end L2
namespace L2
open PySem PySem.Spec PyProof.Rows
section
variable {C Ch:Addr} {ns:List Str} {Γ:Gm}
theorem c8v(b:Bool):isX (.frz (.bl b))=none:=rfl
end
end L2
namespace L2
open PySem PySem.Spec PySem.W PyProof.Rows
def frzG(Γ:Gm):Gm:=Γ.map (Option.map fun o=>.frz o.d)
def gLend(f:GE):GE:=fun Γ=>(f (frzG Γ)).bind fun p=>match p.1 with
 |.own o=>if plO o=true then some (.own o,Γ) else none
 |_=>none
def c2x(f:GT):GT:=fun Γ=>(f (frzG Γ)).bind fun p=>some (p.1,Γ)
section
variable {X:Cx} {K:Frag} {F H:Hp} {σ:St} {Γ:Gm} {A:List Addr} {e:Expr} {f:GE} {ft:GT} {Q:VK}
theorem c2y(le:Same F H)(h:OwnL K F H σ Γ A):OwnL K H H σ (frzG Γ) []:=by
 unfold frzG
 induction h with
 |nil=>exact .nil
 |skip _ ih=>exact .skip ih
 |frz r _ ih=>exact .frz (r.mono le) ih
 |lst e i _ _ ih=>exact .frz (a3v le (.lst e i .nil)) ih
 |tup e i _ _ ih=>exact .frz (a3v le (.tup e i .nil)) ih
 |dct e q r i _ _ ih=>exact .frz (a3v le (.dct e q r i .nil)) ih
 |ins e d q i _ _ ih=>exact .frz (a3v le (.ins e d q i .nil)) ih
theorem OK.lent(k:OK K F H σ Γ A):OK K H H σ (frzG Γ) []:=⟨Same.refl _,c2y k.le k.os,.nil,fun _ m=>by cases m⟩
theorem d7a(t:tG K (gLend f) σ H Q):tG K f σ H Q:=by
 obtain⟨F,A,Γ,r,Γ',k,e,w⟩:=t;obtain⟨⟨r1,Γ2⟩,q,e⟩:=Option.bind_eq_some_iff.mp e;dsimp only at e;split at e
 ·rename_i o
  split at e
  ·rename_i pl
   cases e;refine⟨H,[],frzG Γ,.own o,Γ2,k.lent,q,fun v H' ⟨F',A',x,k',_⟩=>w v H' ?_⟩
   have s:Same H H':=fun a u g=>x.keep a u g (by simp)
   obtain⟨B,C,h1,_,h3⟩:=OwnL.one k'.os;subst h3;obtain⟨k2,x2⟩:=k.push s (b3p h1 fun o m=>by cases List.mem_singleton.mp m;exact pl) (List.nodup_append.mp k'.nd).1 (fun a m=>(x.own a (List.mem_append_left _ m)).elim (fun z=>by cases z) id)
   exact⟨F,B++A,x2,k2,True.intro⟩
  ·cases e
 ·cases e
theorem d2r{Q:Bool->Hp->Prop}(t:tGT K (c2x ft) σ H Q):tGT K ft σ H Q:=by
 obtain⟨F,A,Γ,b,Γ',k,e,w⟩:=t;obtain⟨⟨b1,Γ2⟩,q,e⟩:=Option.bind_eq_some_iff.mp e;cases e;refine⟨H,[],frzG Γ,b1,Γ2,k.lent,q,fun H' ⟨F',A',x,k',_⟩=>w H' ?_⟩
 have s:Same H H':=fun a u g=>x.keep a u g (by simp)
 obtain⟨k2,x2⟩:=k.push (v:=.non) (o:=.frz .non) (Av:=[]) s (.frz (.flat rfl .nil) .nil) .nil (fun _ m=>by cases m)
 obtain⟨B,k3,sub⟩:=OK.part (τ:=[some V.non]) (Θ:=[some (O.frz .non)]) k2 rfl;exact⟨F,B,x2.own' sub,k3,True.intro⟩
theorem a9k(h:PE X e (tG K f)):PE X e (tG K (gLend f)):=h.mono fun _ _ _ t=>d7a t
theorem d7b(h:PT X e (tGT K ft)):PT X e (tGT K (c2x ft)):=h.mono fun _ _ _ t=>d2r t
end
def gPick(fa fb:GE):GE:=fun Γ=>(fa Γ).bind fun p=>match p.1 with
 |.own (.lst os)=>(fb p.2).bind fun q=>match q.1 with
  |.own (.frz (.int k))=>(atI os k).bind fun o=>some (.own o,q.2)
  |_=>none
 |_=>none
section
variable {X:Cx} {K:Frag} {a b:Expr} {fa fb:GE} {pos:Pos}
theorem d7c{σ:St}{H:Hp}{Q:VK}(tt:tG K (gPick fa fb) σ H Q):tOp (rIxA K) (tG K fa) (tG K fb) σ H Q:=by
 obtain⟨F,A,Γ,rr,Γ',k,e,w⟩:=tt;obtain⟨⟨r1,Γ1⟩,q,e⟩:=Option.bind_eq_some_iff.mp e;dsimp only at e;split at e
 ·rename_i os
  obtain⟨⟨r2,Γ2⟩,q2,e⟩:=Option.bind_eq_some_iff.mp e;dsimp only at e;split at e
  ·rename_i i
   obtain⟨o,q3,e⟩:=Option.bind_eq_some_iff.mp e;cases e;refine⟨F,A,Γ,.own (.lst os),Γ1,k,q,fun v H1 ⟨F1,A1,x1,k1,_⟩=>?_⟩
   have k1:OK K F1 H1 ([some v]++σ) ([some (.lst os)]++Γ1) A1:=k1;obtain⟨C,kC,fr⟩:=k1.frame rfl;refine⟨F1,C,Γ1,_,Γ',kC,q2,fun y H2 ⟨F2,A2,x2,k2,_⟩=>?_⟩
   obtain⟨A3,x3,k3⟩:=fr _ _ _ _ _ x2 k2;obtain⟨B,C1,h1,h2,h3⟩:=OwnL.one k3.os;obtain⟨B1,C2,h4,h5,h6⟩:=OwnL.one (y:=some (.frz (.int i))) (Γ:=Γ') h2;subst h3;subst h6;cases a0z h4 rfl;cases h1 with
   |@lst p ws _ Ap _ _ _ hq hi hz=>
    cases hz;have hl:ws.length=os.length:=by have:=hi.length;simpa using this
    have q3':=q3;unfold atI at q3';rw[<-hl] at q3';obtain⟨j,j1,j2⟩:=Option.bind_eq_some_iff.mp q3';obtain⟨u,Ac,Bc,g1,g2,g3,_⟩:=b4v hi j2;have ea:atI ws i=some u:=by unfold atI;rw[j1];exact g1
    refine .inl ⟨p,ws,i,u,rfl,rfl,SqL.of hq,ea,w u H2 ?_⟩;have sp:SubP (Ac++C2) ((p::Ap++[])++(B1++C2)):=by
     rw[List.append_nil];refine((((SubP.of_sub (List.sublist_append_left Ac Bc)).trans (.of_perm g3.symm)).trans (.of_sub (List.sublist_cons_self p Ap))).app (.of_sub (List.sublist_append_right B1 C2)))
    exact⟨F2,Ac++C2,(x1.trans x3).own' fun a m=>sp.mem a m,⟨k3.le,g2.app h5,sp.nodup k3.nd,fun a m=>k3.fr a (sp.mem a m)⟩,True.intro⟩
  ·cases e
 ·cases e
theorem d7d(hu:X.A.units+41 < cLine)(ha:PE X a (tG K fa))(hb:PE X b (tG K fb))(hs:b1e b:=by exact fun _ _=>rfl)(hK:X.K=K:=by rfl):PE X (.Subscript a b pos) (tG K (gPick fa fb)):=
 (c5y (a3c K hu hK) ha hb hs).mono fun _ _ _ t=>d7c t
end
end L2
namespace L2
open PySem PySem.Spec PyProof.Rows
theorem Wk.mono{K:L2.FG}{H H':Hp}(s:Same H H'){x v:V}{π:List Nat}(h:Wk K H x π v):Wk K H' x π v:=by
 induction h with
 |nil=>exact .nil
 |cons q e _ ih=>
  refine .cons ?_ e ih;rcases q with q|q
  ·exact .inl (q.imp (fun q=>s.rd q) id)
  ·exact .inr (s.seqT q)
section
variable {X:Cx} {K:L2.FG} {o e:Expr} {es:List Expr} {i:Nat} {π:List Nat} {fs:GA} {name:Str} {apos cpos:Pos} {id:String} {r:V->List V->Hp->VK->Prop} {g:O->List O->Option (O×O)}
end
end L2
namespace L2
open PySem PySem.Spec PySem.W PyProof.Rows
section
variable {X:Cx} {K:Frag} {F H:Hp} {σ:St} {Γ:Gm} {A:List Addr} {f:GE} {Q:VK}
theorem c2z{o:O}{Γ2:Gm}(k:OK K F H σ Γ A)(q:f (frzG Γ)=some (.own o,Γ2))(pl:plO o=true)(res:Res K F H o Q):tG K f σ H Q:=by
 refine⟨H,[],frzG Γ,.own o,Γ2,k.lent,q,fun v H' ⟨F',A',x,k',_⟩=>?_⟩
 obtain⟨B,C,h1,_,h3⟩:=OwnL.one k'.os;subst h3;exact res v H' B (fun a u g=>x.keep a u g (by simp)) (b3p h1 fun o m=>by cases List.mem_singleton.mp m;exact pl) (List.nodup_append.mp k'.nd).1 (fun a m=>(x.own a (List.mem_append_left _ m)).elim (fun z=>by cases z) id)
theorem Wk.split{v:V}{ρ:List Nat}:∀{π:List Nat} {x:V},Wk K H x (π++ρ) v->∃u,Wk K H x π u/\Wk K H u ρ v
 |[],x,h=>⟨x,.nil,h⟩
 |j::π,x,h=>by
  cases h with
  |cons s e t=>
   obtain⟨u,h1,h2⟩:=Wk.split t;exact⟨u,.cons s e h1,h2⟩
def tPJ(K:Frag)(i:Nat)(π:List Nat)(fj:GE)(ρ:List Nat):TE:=fun σ H Q=>∃x u,σ[i]?=some (some x)/\Wk K H x π u/\tG K fj σ H fun y H1=>∃(j:Nat) (v:V),y=.int j/\Wk K H1 u (j::ρ) v/\Q v H1
variable {e b:Expr} {i:Nat} {π ρ:List Nat} {fj:GE} {pos p1:Pos} {n:Nat}
theorem c0w{Q':VK}(t:tG K f σ H Q)(h:∀v H',Q v H'->Q' v H'):tG K f σ H Q':=by
 obtain⟨F,A,Γ,r,Γ',k,e,w⟩:=t;exact⟨F,A,Γ,r,Γ',k,e,fun v H' p=>h v H' (w v H' p)⟩
theorem dpj0(he:PE X e (tPath K i π))(hi:PE X b (tG K fj))(hu:X.A.units+41 < cLine)(hK:X.K=K:=by rfl)(hs:b1e b:=by exact fun _ _=>rfl):PE X (.Subscript e b pos) (tPJ K i π fj []):=
 (c5y (a3c K hu hK) he hi hs).mono fun σ H Q ⟨x,u,h1,h2,t⟩=>⟨x,u,h1,h2,c0w t fun y H1 ⟨j,v,e,w,q⟩=>by
  subst e;cases w with
  |@cons p ws _ y _ _ s g t=>
   cases t;rcases s with s|s
   ·exact .inl ⟨p,ws,j,_,rfl,rfl,s,a3i g,q⟩
   ·exact .inr (.inl ⟨p,ws,j,_,rfl,rfl,s,a3i g,q⟩)⟩
theorem dpjS{k:Nat}(he:PE X e (tPJ K i π fj ρ))(hu:X.A.units+41 < cLine)(hK:X.K=K:=by rfl)(hs:b1e (.Constant (.int (k:Int)) n p1):=by exact fun _ _=>rfl):PE X (.Subscript e (.Constant (.int (k:Int)) n p1) pos) (tPJ K i π fj (ρ++[k])):=
 (c5y (a3c K hu hK) he a0e hs).mono fun σ H Q ⟨x,u,h1,h2,t⟩=>⟨x,u,h1,h2,c0w t fun y H1 ⟨j,v,e,w,q⟩=>by
  obtain⟨p,ws,g1,g2,g3⟩:=Wk.snoc (π:=j::ρ) w;refine⟨j,.ref p,e,g1,?_⟩;rcases g2 with s|s
  ·exact .inl ⟨p,ws,k,v,rfl,rfl,s,a3i g3,q⟩
  ·exact .inr (.inl ⟨p,ws,k,v,rfl,rfl,s,a3i g3,q⟩)⟩
theorem c0x{x v:V}{j:Nat}{Γ2:Gm}(k:OK K F H σ Γ A)(hx:σ[i]?=some (some x))(w:Wk K H x (π++j::ρ) v)(hj:fj (frzG Γ)=some (.own (.frz (.int j)),Γ2))(q:∀H1,Same H H1->Q v H1):tPJ K i π fj ρ σ H Q:=by
 obtain⟨u,w1,w2⟩:=Wk.split w;refine⟨x,u,hx,w1,c2z k hj rfl fun y H1 Av s hy _ _=>?_⟩
 exact⟨j,v,a0z hy rfl,w2.mono s,q H1 s⟩
theorem b5b{F' H2 H':Hp}{o' c':O}{v x0:V}{ix:Nat}{σB σ':St}{Γ':Gm}{Ai Ac Bs C Bp A':List Addr}{m m':List Bool}(k:OK K F H σ Γ A)(g1:σ[i]?=some (some x0))(pA:A.Perm (Ai++C))(pc:Ai.Perm (Ac++Bs))(hAi:∀a∈Ai,H a≠none)
  (wand:∀F' H' A',Same F F'->(∀a∈Bs,∀u,H a=some u->H' a=some u)->OwnL K F' H' [some v] [some c'] A'->∃D,OwnL K F' H' [some x0] [some o'] D/\SubP D (A'++Bs))
  (s:Same H H2) (hv:σB[ix]?=some (some v)) (hi:σB[i]?=some (some x0)) (hB:∀a∈Bp,(a∈Ac\/a∈C)\/H a=none) (x:Ext F H2 Bp F' H' A') (k':OK K F' H' σ' Γ' A') (kp:Kept m' σB σ') (mi:m'[i]?=some true) (mx:m'[ix]?=some true) (e1:Γ'[i]?=some none) (e2:Γ'[ix]?=some (some c')) (ne:i≠ix)
  (hm:∀j:Nat,m[j]?=some true->σ'[j]?=σ[j]?):PostS K F H A m σ ((Γ'.set ix none).set i (some o')) σ' H':=by
 have hv':σ'[ix]?=some (some v):=(kp ix mx).trans hv;have hi':σ'[i]?=some (some x0):=(kp i mi).trans hi;obtain⟨v',A1,A2,j1,j2,j3,j4⟩:=k'.os.take e2;rw[hv'] at j1;cases j1;have ndA:(Ai++C).Nodup:=pA.nodup_iff.mp k.nd;have ndc:(Ac++Bs).Nodup:=pc.nodup_iff.mp (List.nodup_append.mp ndA).1;have bsAi:∀a∈Bs,a∈Ai:=fun a h=>pc.mem_iff.mpr (List.mem_append_right _ h)
 have nB:∀a∈Bs,a∉Bp:=fun a h z=>by
  rcases hB a z with(y|y)|y
  ·exact(List.nodup_append.mp ndc).2.2 a y a h rfl
  ·exact(List.nodup_append.mp ndA).2.2 a (bsAi a h) a y rfl
  ·exact hAi a (bsAi a h) y
 have sNe:∀a,H a≠none->H2 a≠none:=fun a h z=>by
  cases g:H a with
  |none=>exact h g
  |some u=>rw[s a u g] at z;cases z
 have nA:∀a∈Bs,a∉A':=fun a h z=>by
  rcases x.own a z with y|y
  ·exact nB a h y
  ·exact sNe a (hAi a (bsAi a h)) y
 obtain⟨D1,w1,w2⟩:=wand F' H' A1 x.ff (fun a h u g=>x.keep a u (s a u g) (nB a h)) j2
 obtain⟨D2,w3,C2,w4,w5⟩:=OwnL.put w1 i j3 (by rw[List.length_set];exact(List.getElem?_eq_some_iff.mp e1).1)
 rw[a5q hi'] at w3;have sp:SubP D2 (A'++Bs):=by
  refine((SubP.of_perm w4).trans (w2.app (.of_sub w5))).trans (.of_perm ?_);rw[List.append_assoc];refine(List.Perm.append_left A1 List.perm_append_comm).trans ?_;rw[<-List.append_assoc];exact j4.symm.append_right Bs
 have ndB:(A'++Bs).Nodup:=List.nodup_append.mpr ⟨k'.nd,(List.nodup_append.mp ndc).2.1,fun a h b h' e=>by subst e;exact nA a h' h⟩
 have inA:∀a∈Bs,a∈A:=fun a h=>pA.mem_iff.mpr (List.mem_append_left _ (bsAi a h))
 have bpA:∀a∈Bp,a∈A\/H a=none:=fun a h=>by
  rcases hB a h with(y|y)|y
  ·exact .inl (pA.mem_iff.mpr (List.mem_append_left _ (pc.mem_iff.mpr (List.mem_append_left _ y))))
  ·exact .inl (pA.mem_iff.mpr (List.mem_append_right _ y))
  ·exact .inr y
 have h2n:∀a,H2 a=none->H a=none:=fun a z=>by
  cases g:H a with
  |none=>rfl
  |some u=>rw[s a u g] at z;cases z
 refine⟨F',D2,⟨x.ff,fun a u g n=>x.keep a u (s a u g) fun z=>?_,fun a h=>x.dom a (sNe a h),fun a h=>?_,fun a h=>?_,(Att.same s).trans x.att⟩,⟨k'.le,w3,sp.nodup ndB,fun a h=>?_⟩,hm⟩
 ·rcases bpA a z with y|y
  ·exact n y
  ·rw[g] at y;cases y
 ·rcases x.new a h with y|y|y
  ·exact .inl y
  ·exact .inr (bpA a y)
  ·exact .inr (.inr (h2n a y))
 ·rcases List.mem_append.mp (sp.mem a h) with y|y
  ·rcases x.own a y with z|z
   ·exact bpA a z
   ·exact .inr (h2n a z)
  ·exact .inl (inA a y)
 ·rcases List.mem_append.mp (sp.mem a h) with y|y
  ·exact k'.fr a y
  ·cases q:F' a with
   |none=>rfl
   |some u=>
    rcases x.new a (by rw[q];exact fun z=>by cases z) with z|z|z
    ·exact absurd (k.fr a (inA a y)) z
    ·exact absurd z (nB a y)
    ·exact absurd z (sNe a (hAi a (bsAi a y)))
end
variable{v:V}{Ac:List Addr}{p:List Nat}{c:O}{z:O×O}{e:Expr}{pos' pos:Pos}
def subP(o:O)(p:List Nat):Option O:=(setP (fun c=>some (.lst [],c)) o p).map (·.2)
theorem b6s{a b:O}:∀{p:List Nat} {o z z' r r':O},setP (fun c=>some (a,c)) o p=some (z,r)->setP (fun c=>some (b,c)) o p=some (z',r')->r=r'
 |[],o,z,z',r,r',h1,h2=>by
  cases o with
  |lst ps=>cases h1;cases h2;rfl
  |_=>cases h1
 |j::p,o,z,z',r,r',h1,h2=>by
  cases o with
  |lst os=>
   obtain⟨c0,d,q1,q2,_⟩:=a6w (N:=.lst) h1;obtain⟨c1,d',q3,q4,_⟩:=a6w (N:=.lst) h2;rw[q1] at q3;cases q3;exact b6s q2 q4
  |tup os=>
   obtain⟨c0,d,q1,q2,_⟩:=a6w (N:=.tup) h1;obtain⟨c1,d',q3,q4,_⟩:=a6w (N:=.tup) h2;rw[q1] at q3;cases q3;exact b6s q2 q4
  |_=>cases h1
def natR:Option (R×Gm)->Option Nat
 |some (.own (.frz (.int j)),_)=>if 0<=j then some j.toNat else none
 |_=>none
theorem b6t{r:Option (R×Gm)}{j:Nat}(h:natR r=some j):∃Γ2,r=some (.own (.frz (.int j)),Γ2):=by
 unfold natR at h;split at h
 ·rename_i i Γ2
  split at h
  ·cases h;refine⟨Γ2,?_⟩;rw[Int.toNat_of_nonneg (by assumption)]
  ·cases h
 ·cases h
def joinA(i ix:Nat)(o:O)(p:List Nat)(r:Option (Fl×Gm)):Option (Fl×Gm):=r.bind fun q=>match q.1,q.2[i]?,q.2[ix]? with
 |.nx,some none,some (some c')=>(setP (fun c=>some (c',c)) o p).bind fun z=>some (.nx,(q.2.set ix none).set i (some z.1))
 |_,_,_=>none
theorem b8y{i ix:Nat}{o:O}{r:Option (Fl×Gm)}{fl:Fl}{Γ':Gm}(h:joinA i ix o p r=some (fl,Γ')):∃Γ1 c' z,r=some (.nx,Γ1)/\Γ1[i]?=some none/\Γ1[ix]?=some (some c')/\setP (fun c=>some (c',c)) o p=some z/\fl=.nx/\Γ'=(Γ1.set ix none).set i (some z.1):=by
 obtain⟨⟨fl1,Γ1⟩,q,h⟩:=Option.bind_eq_some_iff.mp h;dsimp only at h;split at h
 ·rename_i c' e1 e2
  obtain⟨z,q2,h⟩:=Option.bind_eq_some_iff.mp h;cases h;exact⟨Γ1,c',z,q,e1,e2,q2,rfl,rfl⟩
 ·cases h
def b3q(i ix:Nat)(π:List Nat)(fj:GE)(ρ:List Nat)(fB:GS):GS:=fun Γ=>match Γ[i]? with
 |some (some o)=>if ix < Γ.length then(natR (fj (frzG Γ))).bind fun j=>(subP o (π++j::ρ)).bind fun c=>joinA i ix o (π++j::ρ) (fB ((Γ.set i none).set ix (some c))) else none
 |_=>none
section
variable {X:Cx} {K:Frag} {F H:Hp} {σ:St} {Γ:Gm} {A:List Addr} {i ix:Nat} {π ρ:List Nat} {fj:GE} {m m':List Bool} {fB:GS}
theorem b5c{o c':O}(k:OK K F H σ Γ A)(hΓ:Γ[i]?=some (some o))(hc:subP o p=some c)(hz:setP (fun c=>some (c',c)) o p=some z):
  ∃x0 v Ai Ac Bs C,σ[i]?=some (some x0)/\OwnL K F H σ (Γ.set i none) C/\A.Perm (Ai++C)/\Ai.Perm (Ac++Bs)/\(∀a∈Ai,H a≠none)/\Wk K H x0 p v/\OwnL K F H [some v] [some c] Ac/\
   ∀F' H' A',Same F F'->(∀a∈Bs,∀u,H a=some u->H' a=some u)->OwnL K F' H' [some v] [some c'] A'->∃D,OwnL K F' H' [some x0] [some z.1] D/\SubP D (A'++Bs):=by
 obtain⟨x0,Ai,C,g1,g2,g3,g4⟩:=k.os.take hΓ;have nd:(Ai++C).Nodup:=g4.nodup_iff.mp k.nd;obtain⟨n1,n2,n3⟩:=List.nodup_append.mp nd;have hr:∀a,(fun a=>if a∈Ai then H a else none:Hp) a=if a∈Ai then H a else none:=fun _=>rfl
 generalize hHr:(fun a=>if a∈Ai then H a else none:Hp)=Hr at hr
 have sr:Same Hr H:=fun a u e=>by
  rw[hr] at e;split at e
  ·exact e
  ·cases e
 have inr:∀a u,Hr a=some u->a∈Ai:=fun a u e=>by
  rw[hr] at e;split at e
  ·assumption
  ·cases e
 have g2r:OwnL K F Hr [some x0] [some o] Ai:=g2.keep (Same.refl _) fun a m u e=>by rw[hr,if_pos m];exact e
 obtain⟨v,c1,c2,Ac,Bs,k1,k2,_,k4,k5,k6⟩:=b3h (res:=z.2) (o':=z.1) g2r n1 hz;cases k4;obtain⟨z0,q0,q1⟩:=Option.map_eq_some_iff.mp hc;have ec:z0.2=z.2:=b6s (z:=z0.1) (z':=z.1) q0 hz;rw[ec] at q1;subst q1;refine⟨x0,v,Ai,Ac,Bs,C,g1,g3,g4,k5,g2.there,k1.mono sr,k2.keep (Same.refl _) fun a m u e=>sr a u e,fun F' H' A' sf kp w=>k6 F' H' A' sf (fun a u n e=>?_) w⟩
 rcases List.mem_append.mp (k5.mem_iff.mp (inr a u e)) with y|y
 ·exact absurd y n
 ·exact kp a y u (sr a u e)
theorem c3a{H1:Hp}{Ai Bs C:List Addr}(k:OK K F H σ Γ A)(pA:A.Perm (Ai++C))(pc:Ai.Perm (Ac++Bs))(g2:OwnL K F H σ (Γ.set i none) C)(hv:OwnL K F H [some v] [some c] Ac)(hl:ix < Γ.length)(s:Same H H1):
  ∃Bp,OK K F H1 (σ.set ix (some v)) ((Γ.set i none).set ix (some c)) Bp/\∀a∈Bp,a∈Ac\/a∈C:=by
 obtain⟨Bp,o1,C',o2,o3⟩:=OwnL.put hv ix g2 (by rw[List.length_set];exact hl)
 have sp:SubP Bp (Ac++C):=(SubP.of_perm o2).trans ((SubP.refl _).app (.of_sub o3));have sA:SubP (Ac++C) A:=(((SubP.of_sub (List.sublist_append_left Ac Bs)).trans (.of_perm pc.symm)).app (SubP.refl C)).trans (.of_perm pA.symm);have sB:=sp.trans sA;exact⟨Bp,⟨k.le.trans s,o1.keep (Same.refl _) fun a _ u e=>s a u e,sB.nodup k.nd,fun a h=>k.fr a (sB.mem a h)⟩,fun a h=>List.mem_append.mp (sp.mem a h)⟩
theorem d7e{D:Ends}(ne:i≠ix)(mi:m'[i]?=some true)(mx:m'[ix]?=some true)(hm:∀j:Nat,m[j]?=some true->m'[j]?=some true/\j≠ix)(t:tS K m none (b3q i ix π fj ρ fB) D σ H):tSeq (tAsg (tPJ K i π fj ρ) (gName ix)) (tS K m' none fB) D σ H:=by
 obtain⟨F,A,Γ,fl,Γ',k,e,w⟩:=t;unfold b3q at e;split at e
 ·rename_i o hΓ
  split at e
  ·rename_i hl
   obtain⟨j,q1,e⟩:=Option.bind_eq_some_iff.mp e;obtain⟨c,q2,e⟩:=Option.bind_eq_some_iff.mp e;obtain⟨Γ2,q3⟩:=b6t q1;obtain⟨Γ1,c',z,e1,e2,e3,e4,rfl,rfl⟩:=b8y e;obtain⟨x0,v,Ai,Ac,Bs,C,g1,g2,pA,pc,hAi,wk,hv,wand⟩:=b5c k hΓ q2 e4;refine c0x k g1 wk q3 fun H1 s=>?_
   obtain⟨Bp,kB,hB⟩:=c3a k pA pc g2 hv hl s;have ls:ix < σ.length:=by rw[k.os.length];exact hl
   exact⟨F,Bp,_,.nx,Γ1,kB,e1,fun σ' H' ⟨F',A',y,k',kp⟩=>w σ' H' (b5b k g1 pA pc hAi wand s (List.getElem?_set_self ls) (by rw[List.getElem?_set_ne (Ne.symm ne)];exact g1) (fun a h=>.inl (hB a h)) y k' kp mi mx e2 e3 ne fun j h=>(kp j (hm j h).1).trans (List.getElem?_set_ne (hm j h).2.symm))⟩
  ·cases e
 ·cases e
end
def b2n(i ix:Nat)(π:List Nat)(fj:GE)(ρ:List Nat)(iw:Nat)(fE:GE)(fB:GS):GS:=fun Γ=>match Γ[i]? with
 |some (some o)=>if ix < Γ.length/\iw < Γ.length then(natR (fj (frzG Γ))).bind fun j=>(subP o (π++j::ρ)).bind fun c=>match fE (frzG (Γ.set ix (some c))) with
  |some (.own oE,_)=>if plO oE=true then joinA i ix o (π++j::ρ) (fB (((Γ.set i none).set ix (some c)).set iw (some oE))) else none
  |_=>none
  else none
 |_=>none
section
variable {X:Cx} {K:Frag} {F H:Hp} {σ:St} {Γ:Gm} {A:List Addr} {i ix iw:Nat} {π ρ:List Nat} {fj fE f:GE} {m m':List Bool} {fB:GS} {Q:VK}
theorem c8w{o:O}{Γf Γ2:Gm}(k:OK K H H σ Γf [])(q:f Γf=some (.own o,Γ2))(pl:plO o=true)(res:Res K F H o Q):tG K f σ H Q:=by
 refine⟨H,[],Γf,.own o,Γ2,k,q,fun v H' ⟨F',A',x,k',_⟩=>?_⟩
 obtain⟨B,C,h1,_,h3⟩:=OwnL.one k'.os;subst h3;exact res v H' B (fun a u g=>x.keep a u g (by simp)) (b3p h1 fun o m=>by cases List.mem_singleton.mp m;exact pl) (List.nodup_append.mp k'.nd).1 (fun a m=>(x.own a (List.mem_append_left _ m)).elim (fun z=>by cases z) id)
theorem d7f(k:OK K F H σ Γ A)(hv:OwnL K F H [some v] [some c] Ac)(hl:ix < Γ.length):OK K H H (σ.set ix (some v)) (frzG (Γ.set ix (some c))) []:=by
 have r:=a3v k.le hv;obtain⟨B,o1,C,o2,o3⟩:=OwnL.put (K:=K) (F:=H) (H:=H) (v:=v) (o:=.frz c.d) (Ai:=[]) (.frz r .nil) ix (c2y k.le k.os) (by unfold frzG;rw[List.length_map];exact hl)
 cases List.sublist_nil.mp o3;cases List.perm_nil.mp o2;have e:frzG (Γ.set ix (some c))=(frzG Γ).set ix (some (.frz c.d)):=by unfold frzG;rw[List.map_set];rfl
 rw[e];exact⟨Same.refl _,o1,.nil,fun _ m=>by cases m⟩
theorem c8x{x y:Str}{e2:Expr}{qos' qos:Pos}{body:List Stmt}(hN:X.N.Nodup)(hi:X.N[ix]?=some x)(hx:Loc X.env.scope x)(he:PE X e (tPJ K i π fj ρ))(hiw:X.N[iw]?=some y)(hy:Loc X.env.scope y)(hE:PE X e2 (tG K fE))(hB:PSs X body (tS K m' none fB))(hm:∀j:Nat,m[j]?=some true->m'[j]?=some true/\j≠ix/\j≠iw)(ne:i≠ix:=by decide)(nw:ix≠iw:=by decide)(niw:i≠iw:=by decide)(mi:m'[i]?=some true:=by rfl)(mx:m'[ix]?=some true:=by rfl)
  (hs:swapsWith e (some (.Name x pos')) pos.line X.env=pure false:=by rfl) (hf:X.fn x=true\/X.env.scope.names.lookup x=some .local := by first|exact .inl rfl|exact .inr rfl)
  (hs2:swapsWith e2 (some (.Name y qos')) qos.line X.env=pure false:=by rfl) (hf2:X.fn y=true\/X.env.scope.names.lookup y=some .local := by first|exact .inl rfl|exact .inr rfl) :
  PSs X (.Assign [.Name x pos'] e pos::.Assign [.Name y qos'] e2 qos::body) (tS K m none (b2n i ix π fj ρ iw fE fB)):=(a8k (c1p hN hi hx he hs hf) (a8k (c1p hN hiw hy hE hs2 hf2) hB)).mono fun D σ H t=>by
 obtain⟨F,A,Γ,fl,Γ',k,e,w⟩:=t;unfold b2n at e;split at e
 ·rename_i o hΓ
  split at e
  ·rename_i hl
   obtain⟨hl,hlw⟩:=hl;obtain⟨j,q1,e⟩:=Option.bind_eq_some_iff.mp e;obtain⟨c,q2,e⟩:=Option.bind_eq_some_iff.mp e;obtain⟨Γ2,q3⟩:=b6t q1;split at e
   ·rename_i oE ΓE qE
    split at e
    ·rename_i pl
     obtain⟨Γ1,c',z,e1,e2,e3,e4,rfl,rfl⟩:=b8y e;obtain⟨x0,v,Ai,Ac,Bs,C,g1,g2,pA,pc,hAi,wk,hv,wand⟩:=b5c k hΓ q2 e4;refine c0x k g1 wk q3 fun H1 s=>?_
     obtain⟨Bp,kB,hB⟩:=c3a k pA pc g2 hv hl s;have ls:ix < σ.length:=by rw[k.os.length];exact hl
     have k1:OK K F H1 σ Γ A:=⟨k.le.trans s,k.os.keep (Same.refl _) fun a _ u g=>s a u g,k.nd,k.fr⟩
     refine c8w (F:=F) (d7f k1 (hv.keep (Same.refl _) fun a _ u g=>s a u g) hl) qE pl fun vE H2 BE s2 hE nE fE=>?_
     obtain⟨k2,x2⟩:=kB.push s2 hE nE fE;obtain⟨B2,k3,x3⟩:=OK.store (i:=iw) k2 (by rw[List.length_set,List.length_set];exact hlw)
     have hn:∀a,H1 a=none->H a=none:=fun a z=>by
      cases g:H a with
      |none=>rfl
      |some u=>rw[s a u g] at z;cases z
     have hn2:∀a,H2 a=none->H1 a=none:=fun a z=>by
      cases g:H1 a with
      |none=>rfl
      |some u=>rw[s2 a u g] at z;cases z
     refine⟨F,B2,_,.nx,Γ1,k3,e1,fun σ' H' ⟨F',A',y,k',kp⟩=>w σ' H' (b5b k g1 pA pc hAi wand (s.trans s2) ?_ ?_ (fun a h=>?_) y k' kp mi mx e2 e3 ne fun j h=>?_)⟩
     ·rw[List.getElem?_set_ne (Ne.symm nw)];exact List.getElem?_set_self ls
     ·rw[List.getElem?_set_ne (Ne.symm niw),List.getElem?_set_ne (Ne.symm ne)];exact g1
     ·rcases x3.own a h with z|z
      ·rcases List.mem_append.mp z with z|z
       ·exact .inr (hn a (fE a z))
       ·exact .inl (hB a z)
      ·exact .inr (hn a (hn2 a z))
     ·obtain⟨h1,h2,h3⟩:=hm j h;rw[kp j h1,List.getElem?_set_ne (Ne.symm h3),List.getElem?_set_ne (Ne.symm h2)]
    ·cases e
   ·cases e
  ·cases e
 ·cases e
end
def PathE(K:Frag)(i:Nat)(te:TE)(fp:Gm->Option (List Nat)):Prop:=∀{σ:St} {F H:Hp} {Γ:Gm} {A:List Addr} {x v:V} {p:List Nat} {Q:VK},OK K F H σ Γ A->fp Γ=some p->σ[i]?=some (some x)->Wk K H x p v->(∀H1,Same H H1->Q v H1)->te σ H Q
def fpS(π:List Nat):Gm->Option (List Nat):=fun _=>some π
def fpJ(π:List Nat)(fj:GE)(ρ:List Nat):Gm->Option (List Nat):=fun Γ=>(natR (fj (frzG Γ))).map fun j=>π++j::ρ
section
variable {X:Cx} {K:Frag} {F H:Hp} {σ:St} {Γ:Gm} {A:List Addr} {i:Nat} {π ρ:List Nat} {fj fv fi:GE} {m:List Bool} {W:Option XW} {te:TE} {fp:Gm->Option (List Nat)} {Q:VK}
theorem Ext.of_same{H':Hp}(s:Same H H'):Ext F H A F H' A:=by
 have dm:∀a,H a≠none->H' a≠none:=fun a h z=>by
  cases g:H a with
  |none=>exact h g
  |some u=>rw[s a u g] at z;cases z
 exact⟨Same.refl _,fun a u g _=>s a u g,dm,fun a h=>.inl h,fun a m=>.inl m,.same s⟩
theorem pathS:PathE K i (tPath K i π) (fpS π):=fun _ e hx w q=>by cases e;exact⟨_,_,hx,w,q _ (Same.refl _)⟩
theorem pathJ:PathE K i (tPJ K i π fj ρ) (fpJ π fj ρ):=fun k e hx w q=>by
 obtain⟨j,q1,rfl⟩:=Option.map_eq_some_iff.mp e;obtain⟨Γ2,q3⟩:=b6t q1;exact c0x k hx w q3 q
theorem c8y{o:O}{f:O->Option (O×O)}(k:OK K F H σ Γ A)(hΓ:Γ[i]?=some (some o))(hz:setP f o p=some z):
  ∃x0 v c c' Ac Bs C Ai,σ[i]?=some (some x0)/\OwnL K F H σ (Γ.set i none) C/\A.Perm (Ai++C)/\Ai.Perm (Ac++Bs)/\Wk K H x0 p v/\OwnL K F H [some v] [some c] Ac/\(∃ps,c=.lst ps)/\f c=some (c',z.2)/\
   ∀F' H' A',Same F F'->(∀a∈Bs,∀u,H a=some u->H' a=some u)->OwnL K F' H' [some v] [some c'] A'->∃D,OwnL K F' H' [some x0] [some z.1] D/\SubP D (A'++Bs):=by
 obtain⟨x0,Ai,C,g1,g2,g3,g4⟩:=k.os.take hΓ;have nd:(Ai++C).Nodup:=g4.nodup_iff.mp k.nd;obtain⟨n1,n2,n3⟩:=List.nodup_append.mp nd;have hr:∀a,(fun a=>if a∈Ai then H a else none:Hp) a=if a∈Ai then H a else none:=fun _=>rfl
 generalize hHr:(fun a=>if a∈Ai then H a else none:Hp)=Hr at hr
 have sr:Same Hr H:=fun a u e=>by
  rw[hr] at e;split at e
  ·exact e
  ·cases e
 have inr:∀a u,Hr a=some u->a∈Ai:=fun a u e=>by
  rw[hr] at e;split at e
  ·assumption
  ·cases e
 have g2r:OwnL K F Hr [some x0] [some o] Ai:=g2.keep (Same.refl _) fun a m u e=>by rw[hr,if_pos m];exact e
 obtain⟨v,c1,c2,Ac,Bs,k1,k2,k3,k4,k5,k6⟩:=b3h (res:=z.2) (o':=z.1) g2r n1 hz;refine⟨x0,v,c1,c2,Ac,Bs,C,Ai,g1,g3,g4,k5,k1.mono sr,k2.keep (Same.refl _) fun a m u e=>sr a u e,k3,k4,fun F' H' A' sf kp w=>k6 F' H' A' sf (fun a u n e=>?_) w⟩
 rcases List.mem_append.mp (k5.mem_iff.mp (inr a u e)) with y|y
 ·exact absurd y n
 ·exact kp a y u (sr a u e)
def c3b(i:Nat)(fp:Gm->Option (List Nat)):GE:=fun Γ=>match Γ[i]? with
 |some (some o)=>(fp Γ).bind fun p=>match subP o p with
  |some (.lst os)=>(frzL os).bind fun ds=>some (.own (.lst (ds.map .frz)),Γ)
  |_=>none
 |_=>none
theorem d2s{p:Pos}(hm:X.mg "list"=none)(he:PE X e te)(po:PathE K i te fp)(hg:Gl X "list":=by rfl)(hs:starEach [e] X.env=(false,eval e X.env)::starEach [] X.env:=by rfl)(hpl:(backTo pos (starEach [] X.env)).any (·.1)=false:=by rfl)(hK:X.K=K:=by rfl):PE X (.Call (.Name "list" p) [e] [] pos) (tG K (c3b i fp)):=
 (b7w (a7a K hK) hg hm b5u (b2v he pa_nil hs) (by decide) (by decide) hs hpl).mono fun σ H Q t=>by
  obtain⟨F,A,Γ,r,Γ',k,e,w⟩:=t;unfold c3b at e;split at e
  ·rename_i o hΓ
   obtain⟨p,q1,e⟩:=Option.bind_eq_some_iff.mp e;split at e
   ·rename_i os hc
    obtain⟨ds,q2,e⟩:=Option.bind_eq_some_iff.mp e;cases e;obtain⟨z0,q3,q4⟩:=Option.map_eq_some_iff.mp hc;obtain⟨x0,v,c,c',Ac,Bs,C,Ai,g1,_,_,_,wk,hv,_,hf,_⟩:=c8y k hΓ q3;cases hf;rw[q4] at hv;refine po k q1 g1 wk fun H1 s=>?_
    have k1:OK K F H1 σ Γ A:=⟨k.le.trans s,k.os.keep (Same.refl _) fun a _ u g=>s a u g,k.nd,k.fr⟩
    cases hv with
    |@lst a ws _ Aw _ _ _ hq hi hz=>
     have hr:RepL K F ws ds:=a9v hi q2;refine⟨a,ws,rfl,.inl (SqL.of (s _ _ hq)),fun l hl=>?_⟩
     obtain⟨k2,x2⟩:=k1.push (v:=.ref l) (o:=.lst (ds.map .frz)) (Av:=[l]) (a2r hl) (.lst a1z (a9w hr) .nil) (by simp) (fun b m=>by cases List.mem_singleton.mp m;exact hl)
     refine w _ _ ⟨F,[l]++A,?_,k2,True.intro⟩;exact(Ext.of_same s).trans x2
   ·cases e
  ·cases e
def b8z(fv:GE)(i:Nat)(fp:Gm->Option (List Nat))(fi:GE):GS:=fun Γ=>(fv Γ).bind fun p=>match p.1,p.2[i]?,fi (frzG p.2) with
 |.own (.frz d),some (some o),some (.own (.frz dy),_)=>(a3z dy).bind fun _=>(fp p.2).bind fun π=>(setP (fun c=>mSet c [.frz d,.frz dy]) o π).bind fun z=>some (.nx,p.2.set i (some z.1))
 |_,_,_=>none
theorem c0y{o ie:Expr}(he:PE X e (tG K fv))(ho:PE X o te)(po:PathE K i te fp)(hi:PE X ie (tG K fi))(hu:X.A.units+41 < cLine)
  (ha:∀v,assign (.Subscript o ie pos') X.env v=(do
   let ov <-holding [v] (eval o X.env)
   let iv <-holding [v,ov] (eval ie X.env)
   standAt pos'
   holding [v,ov,iv] (setItem ov iv v)
   release [v,ov,iv] []):=by intro _;rfl)
  (hs:swapsWithSole [.Subscript o ie pos'] e pos.line X.env=pure false:=by rfl) (hw:swappedStores [.Subscript o ie pos'] e X.env=pure none:=by rfl)
  (h1:(assignEach [.Subscript o ie pos'] X.env).map (·.2)=[assign (.Subscript o ie pos') X.env]:=by rfl) (hK:X.K=K:=by rfl):PS X (.Assign [.Subscript o ie pos'] e pos) (tS K m W (b8z fv i fp fi)):=by
 subst hK;refine(d3q he (d3p ho hi (e0e hu) ha) hs hw h1).mono fun D σ H t=>?_
 obtain⟨F,A,Γ,fl,Γ',k,e,w⟩:=t;obtain⟨⟨r1,Γ1⟩,q1,e⟩:=Option.bind_eq_some_iff.mp e;dsimp only at e;split at e
 ·rename_i d oo dy Γy hΓ qy
  obtain⟨yv,q2,e⟩:=Option.bind_eq_some_iff.mp e;obtain⟨p,q3,e⟩:=Option.bind_eq_some_iff.mp e;obtain⟨z,q4,e⟩:=Option.bind_eq_some_iff.mp e;cases e;refine⟨F,A,Γ,.own (.frz d),Γ1,k,q1,fun a H1 ⟨F1,A1,x1,k1,_⟩=>?_⟩
  obtain⟨B0,C0,h0,h0',h0''⟩:=OwnL.one (y:=some (.frz d)) (Γ:=Γ1) k1.os;have ra:RepL X.K F1 [a] [d]/\B0=[]:=by
   cases h0 with
   |frz r t=>cases t;exact⟨r,rfl⟩
  obtain⟨ra,rfl⟩:=ra;rw[List.nil_append] at h0'';subst h0'';have k1:OK X.K F1 H1 σ Γ1 A1:=⟨k1.le,h0',k1.nd,k1.fr⟩;obtain⟨x0,v,c,c',Ac,Bs,C,Ai,g1,g3,pA,pc,wk,hv,_,hf,wand⟩:=c8y k1 hΓ q4;refine po k1 q3 g1 wk fun H2 s=>?_
  have k2:OK X.K F1 H2 σ Γ1 A1:=⟨k1.le.trans s,k1.os.keep (Same.refl _) fun a _ u g=>s a u g,k1.nd,k1.fr⟩
  refine c2z k2 qy (by rw[plO,q2];rfl) fun y H3 Av s3 hy _ _=>?_
  cases a0z hy q2;have s13:Same H1 H3:=s.trans s3;have ndA:(Ai++C).Nodup:=pA.nodup_iff.mp k1.nd;have ndc:(Ac++Bs).Nodup:=pc.nodup_iff.mp (List.nodup_append.mp ndA).1;have acA:∀b∈Ac,b∈A1:=fun b h=>pA.mem_iff.mpr (List.mem_append_left _ (pc.mem_iff.mpr (List.mem_append_left _ h)))
  have bsA:∀b∈Bs,b∈A1:=fun b h=>pA.mem_iff.mpr (List.mem_append_left _ (pc.mem_iff.mpr (List.mem_append_right _ h)))
  have acC:∀b∈C,b∉Ac:=fun b h y=>(List.nodup_append.mp ndA).2.2 b (pc.mem_iff.mpr (List.mem_append_left _ y)) b h rfl
  have acB:∀b∈Bs,b∉Ac:=fun b h y=>(List.nodup_append.mp ndc).2.2 b y b h rfl
  have mm:=d4i (K:=X.K) F1 H3 v [a,yv] c [.frz d,.frz dy] c' z.2 Ac [] (fun _ H4=>D.nx σ H4) (k1.le.trans s13) (hv.keep (Same.refl _) fun b _ u g=>s13 b u g) (.frz ra (.frz (.flat q2 .nil) .nil)) (by rw[List.append_nil];exact(List.nodup_append.mp ndc).1) (fun b h=>by rw[List.append_nil] at h;exact k1.fr b (acA b h)) hf fun v' H' A' Ar kp dm at' w1 w2 sp=>by
   obtain⟨D1,u1,u2⟩:=wand F1 H' A' (Same.refl _) (fun b h u g=>kp b u (acB b h) (s13 b u g)) w1
   have g3':OwnL X.K F1 H' σ (Γ1.set i none) C:=g3.keep (Same.refl _) fun b h u g=>kp b u (acC b h) (s13 b u g)
   obtain⟨D2,u3,C2,u4,u5⟩:=OwnL.put u1 i g3' (by rw[List.length_set];exact(List.getElem?_eq_some_iff.mp hΓ).1)
   rw[a5q g1,List.set_set] at u3;have s1:SubP A' Ac:=by
    refine SubP.trans ?_ (sp.trans (by rw[List.append_nil];exact SubP.refl _))
    exact .of_sub (List.sublist_append_right Ar A')
   have s2:SubP D2 A1:=by
    refine((SubP.of_perm u4).trans ((u2.trans (s1.app (SubP.refl Bs))).app (.of_sub u5))).trans (.of_perm ?_);exact(pc.symm.append_right C).trans pA.symm
   refine w σ H' ⟨F1,D2,x1.trans ((Ext.of_same s13).trans ⟨Same.refl _,fun b u g n=>kp b u (fun y=>n (acA b y)) g,dm,fun b h=>.inl h,fun b h=>.inl (s2.mem b h),at'⟩),⟨fun b u g=>kp b u (fun y=>?_) (s13 b u (k1.le b u g)),u3,s2.nodup k1.nd,fun b h=>k1.fr b (s2.mem b h)⟩,Kept.refl⟩
   rw[k1.fr b (acA b y)] at g;cases g
  obtain⟨v',i',ee,q⟩:=mm;cases ee;exact q
 ·cases e
end
end L2
namespace L2
open PySem PySem.Spec PySem.W PySem.Calls PyProof.Rows
def tSR(K:Frag)(t:TA):TE:=fun σ H Q=>t σ H fun xs H1=>∃(a:Addr) (ns:List Int),xs=[.ref a]/\SqL K H1 a (ns.map V.int)/\ns.Pairwise (·<=·)/\ns.length < 64/\∀l,H1 l=none->Q (.ref l) (upd H1 l (.lst (ns.reverse.map V.int)))
theorem c3c:∀{ns:List Int} {us:List Value},Vals (ns.map V.int) us->IntsAre us ns
 |[],_,.nil=>.nil
 |n::ns,_,.cons r t=>by obtain⟨k,rfl⟩:=r;exact .cons n k (c3c t)
theorem b2a:∀{ns:List Int} {us:List Value},IntsAre us ns->Vals (ns.map V.int) us
 |[],_,.nil=>.nil
 |n::ns,_,.cons _ t h=>.cons ⟨t,rfl⟩ (b2a h)
section
variable {X:Cx} {K:Frag} {e:Expr} {p pos kpos q:Pos} {n:Nat} {t:TA} {fs:GA}
theorem d2t(hm:X.mg "sorted"=none)(ha:PA X [e] t)(hg:Gl X "sorted":=by rfl)(he:starEach [e] X.env=(false,eval e X.env)::starEach [] X.env:=by rfl)(hpl:(backTo pos (starEach [e] X.env)).any (·.1)=false:=by rfl):
  PE X (.Call (.Name "sorted" p) [e] [⟨some "reverse",.Constant (.bool true) n q,kpos⟩] pos) (tSR X.K t):=by
 intro pins s σ H Q I h;refine wpAny_Call_Name_kw (b2t I hg hm c8n ?_ (by decide) (by decide))
 refine callWith_kw (thn (ha pos pins s σ H _ I h) fun us s1 ⟨vs,H1,I1,r1,a,ns,ev,hq,hp,hl,qq⟩=>?_) (by rw[he];rfl) hpl
 refine thn (d5j (nm:=some "reverse") (kpos:=kpos) b7p d9h pos pins s1 σ H1 (fun zs H2=>zs=[.bl true]/\H2=H1) I1 ⟨rfl,rfl⟩) fun ws s2 ⟨zs,H2,I2,rz,e1,e2⟩=>?_
 subst e1;subst e2;obtain⟨u,rfl,ru⟩:=Vals.one rz;cases ru;subst ev;obtain⟨u,rfl,ru⟩:=Vals.one r1;cases ru;obtain⟨its,rv,pl,hz⟩:=I2.list hq;have hI:=c3c rv;have hl':its.length < 64:=by have:=rv.length;rw[List.length_map] at this;omega
 refine sorted_ints_rev (b:=true) pl.isList hI hl' fun out ns' a1 a2 a3=>?_
 have en:ns'=ns.reverse:=by
  have a3:ns'.Pairwise (·>=·):=a3
  have:=lks_uniq ((List.reverse_perm ns').trans a2) (List.pairwise_reverse.mpr a3) hp;rw[<-this,List.reverse_reverse]
 subst en;obtain⟨c,hc⟩:=sortedAll_at s2.heap its out;have I3:=I2.laid (h':=sortedAll s2.heap its out) (t':=s2.toks) (o:=.lst (ns.reverse.map V.int)) (fun b o g=>sortedAll_old g) (Nat.le_succ _) (show ObjOk X.prog X.w _ _ _ (.lst (ns.reverse.map V.int)) from⟨by rw[List.length_map,List.length_reverse,sizeLine_eq];omega,out.toList,c,b2a a1,hc⟩)
 exact⟨.ref (s2.heap.objs.size+1),_,I3,rfl,qq _ (I2.hok.fresh (Nat.le_succ _))⟩
def ascI:List Int->Bool
 |a::b::l=>decide (a<=b) && ascI (b::l)
 |_=>true
def b5d:List D->Option (List Int)
 |[]=>some []
 |.int i::ds=>(b5d ds).map (i::·)
 |_=>none
end
end L2
namespace L2
open PySem PySem.Spec PySem.W PyProof.Rows
section
variable {X:Cx} {K:Frag} {e:Expr} {p pos kpos q:Pos} {n:Nat} {fs:GA}
def e0k(K:Frag)(xs:List V)(H:Hp)(Q:VK):Prop:=∃(a:Addr) (ns:List Int),xs=[.ref a]/\SqL K H a (ns.map V.int)/\ns.Pairwise (·<=·)/\ns.length < 64/\∀l,H l=none->Q (.ref l) (upd H l (.lst (ns.reverse.map V.int)))
def b5e:List O->Option O
 |[a]=>(listD a).bind fun ds=>(b5d ds).bind fun ns=>if ascI ns=true/\ns.length < 64 then some (.lst ((ns.reverse.map D.int).map .frz)) else none
 |_=>none
theorem b9a:∀{l:List Int} {a:Int},ascI (a::l)=true->∀x∈l,a<=x
 |[],_,_,_,m=>by cases m
 |b::l,a,h,x,m=>by
  unfold ascI at h;rw[Bool.and_eq_true] at h;have h1:=of_decide_eq_true h.1;rcases List.mem_cons.1 m with rfl|m
  ·exact h1
  ·exact Int.le_trans h1 (b9a h.2 x m)
theorem c8z{l:List Int}{a:Int}(h:ascI (a::l)=true):ascI l=true:=by
 cases l with
 |nil=>rfl
 |cons b l=>unfold ascI at h;rw[Bool.and_eq_true] at h;exact h.2
theorem c9a:∀{l:List Int},ascI l=true->l.Pairwise (·<=·)
 |[],_=>.nil
 |a::l,h=>.cons (b9a h) (c9a (c8z h))
theorem b5f:∀{ds:List D} {ns:List Int},b5d ds=some ns->ds=ns.map D.int
 |[],_,h=>by cases h;rfl
 |d::ds,ns,h=>by
  unfold b5d at h;split at h
  ·rename_i e;cases e
  ·rename_i e
   cases e;obtain⟨m,h1,h2⟩:=Option.map_eq_some_iff.mp h;subst h2;rw[b5f h1];rfl
  ·cases h
theorem b9b{F:Hp}:∀{ns:List Int} {ws:List V},RepL K F ws (ns.map D.int)->ws=ns.map V.int
 |[],ws,h=>by cases h;rfl
 |n::ns,ws,h=>by
  cases h with
  |flat z t=>cases z;rw[b9b t];rfl
theorem b9c{F:Hp}:∀(ns:List Int),RepL K F (ns.map V.int) (ns.map D.int)
 |[]=>.nil
 |n::ns=>.flat rfl (b9c ns)
theorem d2u:OpOk K (e0k K) b5e:=by
 intro F H vs os o Q le see e res;unfold b5e at e;split at e
 ·rename_i a
  obtain⟨ds,q1,q2⟩:=Option.bind_eq_some_iff.mp e;obtain⟨ns,q3,q4⟩:=Option.bind_eq_some_iff.mp q2;split at q4
  ·rename_i hh
   cases q4;obtain⟨x,B,rfl,h1⟩:=see.one;obtain⟨p,ws,rfl,sq,r⟩:=a8n le h1 q1;cases b5f q3;cases b9b r;exact⟨p,ns,rfl,sq,c9a hh.1,hh.2,fun l hl=>res.lst (b9c _) hl⟩
  ·cases q4
 ·cases e
theorem d2v(hm:X.mg "sorted"=none)(ha:PA X [e] (tGA K fs))(hg:Gl X "sorted":=by rfl)(he:starEach [e] X.env=(false,eval e X.env)::starEach [] X.env:=by rfl)(hpl:(backTo pos (starEach [e] X.env)).any (·.1)=false:=by rfl)(hK:X.K=K:=by rfl):
  PE X (.Call (.Name "sorted" p) [e] [⟨some "reverse",.Constant (.bool true) n q,kpos⟩] pos) (tG K (gOp b5e fs)):=by
 subst hK;exact(d2t hm ha hg he hpl).mono fun _ _ _ t=>c6l d2u t
end
section
variable {X:Cx} {K:Frag} {m m':List Bool} {f g f1 f2 fR:GS} {s1 s2:Stmt} {rest:List Stmt} {D:Ends} {σ:St} {H:Hp} {W:Option XW} {i ix:Nat} {π ρ:List Nat} {fj:GE}
theorem d4n(t:tS K m W (a0l f g) D σ H):tSeq (tS K m W f) (tS K m W g) D σ H:=by
 obtain⟨F,A,Γ,fl,Γ',k,e,w⟩:=t;unfold a0l at e;cases q:f Γ with
 |none=>rw[q] at e;cases e
 |some p=>
  obtain⟨fl1,Γ1⟩:=p;rw[q] at e;dsimp only[Option.bind] at e;refine⟨F,A,Γ,fl1,Γ1,k,q,?_⟩;cases fl1 with
  |nx=>
   intro σ' H' ⟨F1,A1,x,k1,kp⟩;exact⟨F1,A1,Γ1,fl,Γ',k1,e,w.step x kp⟩
  |bk=>cases e;exact w
  |ct=>cases e;exact w
  |rt o=>cases e;exact w
theorem c9b{x:Str}{e:Expr}{pos' pos:Pos}(hN:X.N.Nodup)(hi:X.N[ix]?=some x)(hx:Loc X.env.scope x)(he:PE X e (tPJ K i π fj ρ))(h1:PS X s1 (tS K m' none f1))(h2:PS X s2 (tS K m' none f2))(hR:PSs X rest (tS K m none fR))(hm:∀j:Nat,m[j]?=some true->m'[j]?=some true/\j≠ix)(ne:i≠ix:=by decide)(mi:m'[i]?=some true:=by rfl)(mx:m'[ix]?=some true:=by rfl)
  (hs:swapsWith e (some (.Name x pos')) pos.line X.env=pure false:=by rfl) (hf:X.fn x=true\/X.env.scope.names.lookup x=some .local := by first|exact .inl rfl|exact .inr rfl) :
  PSs X (.Assign [.Name x pos'] e pos::s1::s2::rest) (tS K m none (a0l (b3q i ix π fj ρ (a0l f1 f2)) fR)):=(a8k (c1p hN hi hx he hs hf) (a8k h1 (a8k h2 hR))).mono fun D σ H t=>by
 have a:=d7e (m':=m') ne mi mx hm (d4n t);obtain⟨x,u,a1,a2,a3⟩:=a;exact⟨x,u,a1,a2,c0w a3 fun y H1 ⟨j,v,b1,b2,q⟩=>⟨j,v,b1,b2,d4n q⟩⟩
end
section
variable {X:Cx} {K:Frag} {m:List Bool} {W:XW} {e:Expr} {fa:GE} {f:GS} {pos p1 p2:Pos} {n:Nat} {sa:List Stmt}
def gsXIf(fa:GE)(f:GS):GS:=fun Γ=>(fa Γ).bind fun p=>match p.1 with
 |.own o=>match isX o with
  |some _=>some (.rt o,p.2)
  |none=>match o with
   |.frz (.bl b)=>if b=true then f p.2 else some (.nx,p.2)
   |_=>none
 |_=>none
theorem e0l(he:PE X e (tGX K W fa))(ha:PSs X sa (tS K m (some W) f))(hm:behindInMarks .Is (.Constant (.bool true) n p1)=false:=by first|rfl|exact c5s _):PS X (.If (.Compare e [.Is] [.Constant (.bool true) n p1] p2) sa [] pos) (tS K m (some W) (gsXIf fa f)):=
 (d8z (c5t e0d he b7p hm) ha (a2n (m:=m) (W:=some W) (K:=K))).mono fun D σ H t=>by
 obtain⟨F,A,Γ,fl,Γ',k,e,w⟩:=t;obtain⟨⟨r,Γ1⟩,q,e⟩:=Option.bind_eq_some_iff.mp e;cases r with
 |var _=>cases e
 |fld _ _=>cases e
 |own o=>
  dsimp only at e;refine⟨F,A,Γ,o,Γ1,k,q,?_⟩;unfold PostE;cases hx:isX o with
  |some p=>
   rw[hx] at e;cases e;have w:DoneR K m D F H A σ o _ (some W):=w;unfold DoneR at w;rw[hx] at w;exact fun dx H' ⟨F',A',x,k',el⟩=>w dx σ H' ⟨F',A',x,k',Kept.refl,el⟩
  |none=>
   rw[hx] at e;dsimp only at e;split at e
   ·rename_i b
    intro v H' ⟨F',A',x,k'⟩;obtain⟨B,C,h1,_,h3⟩:=OwnL.one (y:=some (.frz (.bl b))) (Γ:=Γ1) k'.os;cases a0z h1 rfl;obtain⟨B,kB,sub⟩:=OK.part (τ:=[some (V.bl b)]) (Θ:=[some (O.frz (.bl b))]) k' rfl;refine .inr ⟨b,true,rfl,rfl,b == true,rfl,?_⟩;cases b with
    |true=>exact⟨F',B,Γ1,fl,Γ',kB,e,w.step (x.own' sub) Kept.refl⟩
    |false=>cases e;exact⟨F',B,_,.nx,_,kB,rfl,Done.step (fl:=.nx) w (x.own' sub) Kept.refl⟩
   ·cases e
end
structure Errw (K:Frag) (mg:Str->Option Value) (tab:List (Str×Addr)) (B0:Addr):Prop extends Errz K mg tab B0 where
 mg0:mg "CarryError"=some (.ref B0)
section
variable {K:Frag} {mg:Str->Option Value} {tab:List (Str×Addr)} {B0:Addr}
theorem Errw.ix(E:Errw K mg tab B0){i:Nat}{n:Str}{C:Addr}(h:tab[i]?=some (n,C)):mg n=some (.ref C)/\ErrC K C (.ref B0::bmV) none/\IsErr K C/\keepIn K (.ref C)=true:=E.toErrz.ix h
theorem Errw.one(E:Errw K mg tab B0){C:Addr}(h:(tab.map (·.2)).contains C=true):(∃i,ErrC K C (.ref B0::bmV) i)/\IsErr K C:=by
 obtain⟨p,m,rfl⟩:=List.mem_map.1 (List.contains_iff_mem.mp h);exact⟨⟨_,(E.all p m).2.1⟩,(E.all p m).2.2.1⟩
theorem Errw.wE(E:Errw K mg tab B0){c:Addr}(hc:(tab.map (·.2)).contains c=true)(h0:(c == B0)=false)(C:Addr)(b:Bool)(h:L2.wE (tab.map (·.2)) c C=some b):(∃i,ErrC K C (.ref B0::bmV) i)/\IsErr K C/\kitOne K (.ref C) (.ref c)=some b:=by
 unfold L2.wE at h;split at h
 ·rename_i hC
  cases h;obtain⟨⟨i,G⟩,I⟩:=E.one hC;obtain⟨⟨i',G'⟩,_⟩:=E.one hc;refine⟨⟨i,G⟩,I,(G.kitC G').trans (congrArg some ?_)⟩;have n0:c≠B0:=fun z=>by rw[z] at h0;simp at h0
  by_cases z:C=c
  ·subst z;simp
  ·rw[show(C == c)=false from beq_false_of_ne z];simp[bmV,Ne.symm z,n0]
 ·cases h
theorem Errw.wV(E:Errw K mg tab B0)(C:Addr)(b:Bool)(h:wT (tab.map (·.2)) C=some b):(∃i,ErrC K C (.ref B0::bmV) i)/\IsErr K C/\kitOne K (.ref C) (.type "ValueError")=some b:=by
 unfold wT at h;split at h
 ·rename_i hC
  cases h;obtain⟨⟨i,G⟩,I⟩:=E.one hC;exact⟨⟨i,G⟩,I,G.kitT⟩
 ·cases h
theorem Errw.xB(E:Errw K mg tab B0)(C:Addr)(b:Bool)(h:wT (tab.map (·.2)) C=some b):exmOne K (.ref C) (.ref B0)=some b:=by
 unfold wT at h;split at h
 ·rename_i hC
  cases h;obtain⟨⟨i,G⟩,I⟩:=E.one hC;exact(G.exm E.G0 rfl).trans (by simp)
 ·cases h
end
end L2
namespace L2
open PySem PySem.Spec PyProof.Rows
section
variable {Γ:Gm} {i ix iw:Nat}
theorem a7m(f:GE):gLend f Γ=(f (frzG Γ)).bind fun p=>match p.1 with
 |.own o=>if plO o=true then some (.own o,Γ) else none
 |_=>none:=rfl
theorem c3d(f:GT):c2x f Γ=(f (frzG Γ)).bind fun p=>some (p.1,Γ):=rfl
theorem b0o:frzG []=[]:=rfl
theorem b2b(o:O):frzG (some o::Γ)=some (.frz o.d)::frzG Γ:=rfl
theorem b3r:frzG (none::Γ)=none::frzG Γ:=rfl
theorem b3s(k:Int):plO (.frz (.int k))=true:=rfl
theorem c0z(x:Str):plO (.frz (.str x))=true:=rfl
theorem c1a(xs:List O):plO (.lst xs)=plL xs:=by unfold plO;rfl
theorem d7g(xs:List O):plO (.tup xs)=plL xs:=by unfold plO;rfl
theorem b6u:plL []=true:=by unfold plL;rfl
theorem c1b(o:O)(os:List O):plL (o::os)=(plO o && plL os):=by conv=>lhs;unfold plL
theorem d7h(fa fb:GE):gPick fa fb Γ=(fa Γ).bind fun p=>match p.1 with
 |.own (.lst os)=>(fb p.2).bind fun q=>match q.1 with
  |.own (.frz (.int k))=>(atI os k).bind fun o=>some (.own o,q.2)
  |_=>none
 |_=>none:=rfl
theorem b9d(fa:GE)(f:GS):gsXIf fa f Γ=(fa Γ).bind fun p=>match p.1 with
 |.own o=>match isX o with
  |some _=>some (.rt o,p.2)
  |none=>match o with
   |.frz (.bl b)=>if b=true then f p.2 else some (.nx,p.2)
   |_=>none
 |_=>none:=rfl
theorem c3e(ds:List D):oList [.frz (.lst ds)]=some (.lst (ds.map .frz)):=rfl
theorem b6v(w:Addr->Option Bool)(C:Addr)(l:Option Int):oIsiX w [.frz (.exc C l)]=(w C).map fun b=>.frz (.bl b):=rfl
theorem b1t(y:O):a2w (.lst []) [y]=some (.lst [y],.frz .non):=rfl
theorem d4o(π:List Nat):fpS π Γ=some π:=rfl
theorem c9c(π ρ:List Nat)(fj:GE):fpJ π fj ρ Γ=(natR (fj (frzG Γ))).map fun j=>π++j::ρ:=rfl
theorem b3t(j:Int):natR (some (.own (.frz (.int j)),Γ))=if 0<=j then some j.toNat else none:=rfl
theorem c3f(fp:Gm->Option (List Nat)):c3b i fp Γ=match Γ[i]? with
 |some (some o)=>(fp Γ).bind fun p=>match subP o p with
  |some (.lst os)=>(frzL os).bind fun ds=>some (.own (.lst (ds.map .frz)),Γ)
  |_=>none
 |_=>none:=rfl
theorem c1c(fv fi:GE)(fp:Gm->Option (List Nat)):b8z fv i fp fi Γ=(fv Γ).bind fun p=>match p.1,p.2[i]?,fi (frzG p.2) with
 |.own (.frz d),some (some o),some (.own (.frz dy),_)=>(a3z dy).bind fun _=>(fp p.2).bind fun π=>(setP (fun c=>mSet c [.frz d,.frz dy]) o π).bind fun z=>some (.nx,p.2.set i (some z.1))
 |_,_,_=>none:=rfl
theorem d2w(π ρ:List Nat)(fj:GE)(fB:GS):b3q i ix π fj ρ fB Γ=match Γ[i]? with
 |some (some o)=>if ix < Γ.length then(natR (fj (frzG Γ))).bind fun j=>(subP o (π++j::ρ)).bind fun c=>joinA i ix o (π++j::ρ) (fB ((Γ.set i none).set ix (some c))) else none
 |_=>none:=rfl
theorem c9d(π ρ:List Nat)(fj fE:GE)(fB:GS):b2n i ix π fj ρ iw fE fB Γ=match Γ[i]? with
 |some (some o)=>if ix < Γ.length/\iw < Γ.length then(natR (fj (frzG Γ))).bind fun j=>(subP o (π++j::ρ)).bind fun c=>match fE (frzG (Γ.set ix (some c))) with
  |some (.own oE,_)=>if plO oE=true then joinA i ix o (π++j::ρ) (fB (((Γ.set i none).set ix (some c)).set iw (some oE))) else none
  |_=>none
  else none
 |_=>none:=rfl
end
end L2
namespace L2
theorem a3o{A:PySem.Around}{k:Nat}(hr:Room k A):A.units+41 < PySem.cLine:=Nat.lt_of_le_of_lt (Nat.add_le_add_left (by decide:41<=64) _) hr.units
end L2
namespace Carry
open PySem L2
seal PE PA PT PS PSs
def top(i:Nat):Stmt:=PySem.Challenge.pw_carry_k02_houses_fit_or_refused.main.body.getD i (.Pass ⟨0,0,0,0⟩)
abbrev b0p:Stmt:=top 9
abbrev a7n:Stmt:=top 11
abbrev a7o:Stmt:=top 12
abbrev a7p:Stmt:=top 13
abbrev a9l:Stmt:=top 14
abbrev a8c:Stmt:=top 15
abbrev a8d:Stmt:=top 16
abbrev a6n:Stmt:=top 17
abbrev b0q:Stmt:=top 18
abbrev b6w:Stmt:=top 20
abbrev b6x:Stmt:=top 21
abbrev b6y:Stmt:=top 22
abbrev b2o:Stmt:=top 23
abbrev a8e:Stmt:=top 24
abbrev b0r:Stmt:=top 25
abbrev a9m:Stmt:=top 26
abbrev a5f:Stmt:=top 27
abbrev b3u:Stmt:=top 28
abbrev b2p:Stmt:=top 29
abbrev b6z:Stmt:=top 30
abbrev c9e:Stmt:=top 31
abbrev errTab:List (Str×Addr):=[("NoName",37),("NoSize",49),("NoOut",61),("NoHand",73)]
abbrev errCs:List Addr:=errTab.map (·.2)
set_option genInjectivity false in
set_option genSizeOfSpec false in
structure Adr where
 f0:Addr
 d0:FuncData
 f1:Addr
 d1:FuncData
 f2:Addr
 d2:FuncData
 f3:Addr
 d3:FuncData
 f4:Addr
 d4:FuncData
 f5:Addr
 d5:FuncData
 f6:Addr
 d6:FuncData
 f7:Addr
 d7:FuncData
 f8:Addr
 d8:FuncData
 f9:Addr
 d9:FuncData
 f10:Addr
 d10:FuncData
 f11:Addr
 d11:FuncData
 f12:Addr
 d12:FuncData
 f13:Addr
 d13:FuncData
 f14:Addr
 d14:FuncData
 f15:Addr
 d15:FuncData
 f16:Addr
 d16:FuncData
 f17:Addr
 d17:FuncData
 f18:Addr
 d18:FuncData
 f19:Addr
 d19:FuncData
 f20:Addr
 d20:FuncData
structure Txt (K:L2.FG) (mg:Str->Option Value) (t:Adr):Prop where
 F0:DefAt K mg "is_name" b0p t.f0 t.d0 ["thing"]
 F1:DefAt K mg "right_house" a7n t.f1 t.d1 ["house"]
 F2:DefAt K mg "check_carts" a7o t.f2 t.d2 ["carts","taken"]
 F3:DefAt K mg "check_belts" a7p t.f3 t.d3 ["belts","taken"]
 F4:DefAt K mg "take_name" a9l t.f4 t.d4 ["name","taken"]
 F5:DefAt K mg "check_outs" a8c t.f5 t.d5 ["belts","carts"]
 F6:DefAt K mg "check_hand" a8d t.f6 t.d6 ["house"]
 F7:DefAt K mg "belt_names" a6n t.f7 t.d7 ["belts"]
 F8:DefAt K mg "reached" b0q t.f8 t.d8 ["house","belt"]
 F9:DefAt K mg "_law_feed" b6w t.f9 t.d9 ["_law_script"]
 F10:DefAt K mg "_law_draw" b6x t.f10 t.d10 ["_law_feed_here","_law_many"]
 F11:DefAt K mg "_law_name" b6y t.f11 t.d11 ["_law_feed_here","_law_k"]
 F12:DefAt K mg "_law_outs" b2o t.f12 t.d12 ["_law_feed_here","_law_later","_law_carts"]
 F13:DefAt K mg "_law_house" a8e t.f13 t.d13 ["_law_feed_here"]
 F14:DefAt K mg "_law_spots" b0r t.f14 t.d14 ["_law_house_here"]
 F15:DefAt K mg "_law_no_name" a9m t.f15 t.d15 ["_law_c"]
 F16:DefAt K mg "_law_spoil_name" a5f t.f16 t.d16 ["_law_house_here","_law_spot","_law_c"]
 F17:DefAt K mg "_law_spoil" b3u t.f17 t.d17 ["_law_house_here","_law_spot","_law_c"]
 F18:DefAt K mg "_law_made" b2p t.f18 t.d18 ["_law_house_here"]
 F19:DefAt K mg "_law_word" b6z t.f19 t.d19 ["_law_house_here"]
 F20:DefAt K mg "law" c9e t.f20 t.d20 ["_law_script"]
 er:Errw K mg errTab 24
 b_len:mg "len"=none
 b_isinstance:mg "isinstance"=none
 b_int:mg "int"=none
 b_str:mg "str"=none
 b_list:mg "list"=none
 b_range:mg "range"=none
 b_enumerate:mg "enumerate"=none
 b_all:mg "all"=none
 b_sorted:mg "sorted"=none
 b_ValueError:mg "ValueError"=none
 c_LETTERS:∃t,mg "LETTERS"=some (.str "abcdefghijklmnopqrstuvwxyz" t)
 c_MOST_LETTERS:∃t,mg "MOST_LETTERS"=some (.int 8 t)
section
variable {P:Program} {w:World} {K:L2.FG} {mg:Str->Option Value} {base:Heap} {t:Adr}
theorem c4t:FnScope ["thing"] ["thing"] (a0q b0p):=fnsc
def b9e:GS:=(a0l (gsIf (gNotT (gTru (gOp oIsi (a0a (gVar 0) (a0a (gC (.ty "str")) gaNil)))))
  (gsRet (gC (.bl false)))
  gsNil)
 (a0l (gsIf (gNotT (c8o (fun i j=>decide (i<=j)) (fun i j=>decide (i<=j)) (gC (.int 1)) (gOp oLen (a0a (gVar 0) gaNil)) (gC (.int 8))))
  (gsRet (gC (.bl false)))
  gsNil)
 (gsRet (gOp (c8g fun bs=>bs.all id) (a0a (a4v (srcS (gVar 0)) (a0p 0) gYes (gBin (oInG false) (gVar 0) (gC (.str "abcdefghijklmnopqrstuvwxyz"))) 1 []) gaNil)))))
def a6x:GM:=runM 1 [false] b9e
abbrev b9f(P:Program)(w:World)(K:L2.FG)(mg:Str->Option Value)(base:Heap)(t:Adr):Prop:=FnOk P w K mg base CX0 1 t.f0 t.d0 ["thing"] (SpM K 1 a6x)
theorem c4u(T:Txt K mg t):b9f P w K mg base t:=
 a6b (k:=0) [false] b9e T.F0.fn c4t rfl rfl (by decide) fun cdv A outer s H E hr=>(by
  have hu41:=a3o hr;exact⟨_,(a0m (a4d (b4r (a6v (a2g (b8e K) d4g T.b_isinstance d3v (a0b (a0c (pv 0)) (a0b (a0s (d:=.ty "str") (d9p (by rfl) T.b_str d9q)) a0g)))))
   (a0t (a5j (a0s (d:=.bl false) b7p)))
   a2n)
   (a0m (a4d (b4r (d2q d9b d9b (a0s (d:=.int 1) a0e) (a2g (a2d K) a4u T.b_len a4q (a0b (a0c (pv 0)) a0g)) (a0s (d:=(.int 8)) (c8p (by rfl) T.c_MOST_LETTERS))))
   (a0t (a5j (a0s (d:=.bl false) b7p)))
   a2n)
   (a0t (a5j (a2g (c8h K) (d2i _) T.b_all d9r (a0b (a7f d6o (k:=1) (cap:=[]) a1x (M:=["sign"]) (CompOk.of (a0q b0p).names ["thing"] (by decide +kernel)) (d9n (a0c (pv 0)))
    (fun _ _ _ _=>(a1w (i:=0) (show List.Nodup (["sign"]:List Str) by decide +kernel) rfl (Or.inl rfl))) (fun _ _ _ _=>a7x) (fun _ _ _ _=>(b4q (b4t K (by exact hu41)) (b4i false) (a0c (pv 0)) (a0s (d:=(.str "abcdefghijklmnopqrstuvwxyz")) (c8q (by rfl) T.c_LETTERS))))) a0g)))))),rfl⟩)
theorem b7a:FnScope ["belts"] ["belts"] (a0q a6n):=fnsc
def a8f:GS:=(gsRet (a4v (srcL (gVar 0)) (a0p 0) gYes (gBin oIx (gVar 0) (gC (.int 0))) 1 []))
def a2t:GM:=runM 1 [false] a8f
abbrev a6o(P:Program)(w:World)(K:L2.FG)(mg:Str->Option Value)(base:Heap)(t:Adr):Prop:=FnOk P w K mg base CX0 1 t.f7 t.d7 ["belts"] (SpM K 1 a2t)
theorem b7b(T:Txt K mg t):a6o P w K mg base t:=
 a6b (k:=0) [false] a8f T.F7.fn b7a rfl rfl (by decide) fun cdv A outer s H E hr=>(by
  have hu41:=a3o hr;exact⟨_,(a0t (a5j (a7f b0c (k:=1) (cap:=[]) a1x (M:=["belt"]) (CompOk.of (a0q a6n).names ["belts"] (by decide +kernel)) (a8m K (a1f (a0c (pv 0))))
    (fun _ _ _ _=>(a1w (i:=0) (show List.Nodup (["belt"]:List Str) by decide +kernel) rfl (Or.inl rfl))) (fun _ _ _ _=>a7x) (fun _ _ _ _=>(a1c (a3c K (by exact hu41)) a1d (a0c (pv 0)) (a0s (d:=.int 0) a0e)))))),rfl⟩)
theorem sc_l_feed:FnScope ["_law_script","_law_cells"] ["_law_script"] (a0q b6w):=fnsc
def b7c:GS:=(a0l (gsSet 1 (gFrz (gBin oAdd (a7w (gVar 0) b0b (a8x (gC (.int 2)))) (gSeq .lst (a0a (gC (.int 0)) (a0a (gC (.int 0)) gaNil))))))
 (gsRet (gSeq .lst (a0a (gFrz (a7w (gVar 0) b0b (a8x (gC (.int 120))))) (a0a (gC (.int 0)) (a0a (gC (.int 0)) (a0a (gBin oMod (gBin oIx (gVar 1) (gC (.int 0))) (gC (.int 2))) (a0a (gBin oIx (gVar 1) (gC (.int 1))) gaNil))))))))
def b2q:GM:=runM 2 [false] b7c
abbrev c3g(P:Program)(w:World)(K:L2.FG)(mg:Str->Option Value)(base:Heap)(t:Adr):Prop:=FnOk P w K mg base CX0 1 t.f9 t.d9 ["_law_script"] (SpM K 1 b2q)
theorem c9f(T:Txt K mg t):c3g P w K mg base t:=
 a6b (k:=0) [false] b7c T.F9.fn sc_l_feed rfl rfl (by decide) fun cdv A outer s H E hr=>(by
  have hu41:=a3o hr;exact⟨_,(a0m (a1y (i:=1) sc_l_feed.nd rfl (Or.inl rfl) (a1f (a2b (a2p K) a4a (a8o (a0c (pv 0)) b1n (b1o (a0s (d:=.int 2) a0e))) (a4s (a0b (a0s (d:=.int 0) a0e) (a0b (a0s (d:=.int 0) a0e) a0g))))))
   (a0t (a5j (a4s (a0b (a1f (a8o (a0c (pv 0)) b1n (b1o (a0s (d:=.int 120) a0e)))) (a0b (a0s (d:=.int 0) a0e) (a0b (a0s (d:=.int 0) a0e) (a0b (a2b a5i a5k (a1c (a3c K (by exact hu41)) a1d (a0c (pv 1)) (a0s (d:=.int 0) a0e)) (a0s (d:=.int 2) a0e)) (a0b (a1c (a3c K (by exact hu41)) a1d (a0c (pv 1)) (a0s (d:=.int 1) a0e)) a0g))))))))),rfl⟩)
theorem sc_l_draw:FnScope ["_law_feed_here","_law_many","_law_found","_law_at","_law_cell"] ["_law_feed_here","_law_many"] (a0q b6x):=fnsc
def b7d:GS:=(a0l (gsIf (gT (gBin oEq (gBin oIx (gVar 0) (gC (.int 3))) (gC (.int 1))))
  (a0l (gsSet 2 (gBin oMod (gBin oIx (gVar 0) (gC (.int 4))) (gVar 1)))
 (a0l (gsPut (gBin oFdiv (gBin oIx (gVar 0) (gC (.int 4))) (gVar 1)) (gVar 0) (gC (.int 4)))
 (gsRet (gVar 2))))
  gsNil)
 (a0l (gsSet 3 (gBin oIx (gVar 0) (gC (.int 1))))
 (a0l (gsPut (gFrz (gBin oAdd (gVar 3) (gC (.int 1)))) (gVar 0) (gC (.int 1)))
 (a0l (gsSet 4 (gVar 3))
 (a0l (gsIf (gT (gBin oGt (gOp oLen (a0a (gBin oIx (gVar 0) (gC (.int 0))) gaNil)) (gC (.int 0))))
  (gsSet 4 (gFrz (gBin oAdd (gBin oIx (gBin oIx (gVar 0) (gC (.int 0))) (gBin oMod (gVar 3) (gOp oLen (a0a (gBin oIx (gVar 0) (gC (.int 0))) gaNil)))) (gBin oMulA (gBin oFdiv (gVar 3) (gOp oLen (a0a (gBin oIx (gVar 0) (gC (.int 0))) gaNil))) (gC (.int 31))))))
  gsNil)
 (gsRet (gBin oMod (gBin oMod (gBin oMulA (gBin oMod (gBin oAdd (gBin oMulA (gVar 4) (gC (.int 48271))) (gBin oMulA (gC (.int 31)) (gVar 3))) (gC (.int 1000003))) (gC (.int 69621))) (gC (.int 999983))) (gVar 1))))))))
def a1v:GM:=runM 5 [true,false] b7d
abbrev b2r(P:Program)(w:World)(K:L2.FG)(mg:Str->Option Value)(base:Heap)(t:Adr):Prop:=FnOk P w K mg base CX0 1 t.f10 t.d10 ["_law_feed_here","_law_many"] (SpM K 2 a1v)
theorem c9g(T:Txt K mg t):b2r P w K mg base t:=
 a6b (k:=0) [true,false] b7d T.F10.fn sc_l_draw rfl rfl (by decide) fun cdv A outer s H E hr=>(by
  have hu40:=a7u hr;have hu41:=a3o hr;exact⟨_,(a0m (a4d (a3a (a4i K (by exact hu40)) a7e (a1c (a3c K (by exact hu41)) a1d (a0c (pv 0)) (a0s (d:=.int 3) a0e)) (a0s (d:=.int 1) a0e))
   (a0m (a1y (i:=2) sc_l_draw.nd rfl (Or.inl rfl) (a2b a5i a5k (a1c (a3c K (by exact hu41)) a1d (a0c (pv 0)) (a0s (d:=.int 4) a0e)) (a0c (pv 1))))
   (a0m (b8n (a2b a9a a9e (a1c (a3c K (by exact hu41)) a1d (a0c (pv 0)) (a0s (d:=.int 4) a0e)) (a0c (pv 1))) (a0c (pv 0)) (a0s (d:=.int 4) a0e) (by exact hu41))
   (a0t (a5j (a0c (pv 2))))))
   a2n)
   (a0m (a1y (i:=3) sc_l_draw.nd rfl (Or.inl rfl) (a1c (a3c K (by exact hu41)) a1d (a0c (pv 0)) (a0s (d:=.int 1) a0e)))
   (a0m (b8n (a1f (a2b (a2p K) a4a (a0c (pv 3)) (a0s (d:=.int 1) a0e))) (a0c (pv 0)) (a0s (d:=.int 1) a0e) (by exact hu41))
   (a0m (a1y (i:=4) sc_l_draw.nd rfl (Or.inl rfl) (a0c (pv 3)))
   (a0m (a4d (a3a d5h d6g (a2g (a2d K) a4u T.b_len a4q (a0b (a1c (a3c K (by exact hu41)) a1d (a0c (pv 0)) (a0s (d:=.int 0) a0e)) a0g)) (a0s (d:=.int 0) a0e))
   (a0t (a1y (i:=4) sc_l_draw.nd rfl (Or.inl rfl) (a1f (a2b (a2p K) a4a (a1c (a3c K (by exact hu41)) a1d (a1c (a3c K (by exact hu41)) a1d (a0c (pv 0)) (a0s (d:=.int 0) a0e)) (a2b a5i a5k (a0c (pv 3)) (a2g (a2d K) a4u T.b_len a4q (a0b (a1c (a3c K (by exact hu41)) a1d (a0c (pv 0)) (a0s (d:=.int 0) a0e)) a0g)))) (a2b a9f b3b (a2b a9a a9e (a0c (pv 3)) (a2g (a2d K) a4u T.b_len a4q (a0b (a1c (a3c K (by exact hu41)) a1d (a0c (pv 0)) (a0s (d:=.int 0) a0e)) a0g))) (a0s (d:=.int 31) a0e))))))
   a2n)
   (a0t (a5j (a2b a5i a5k (a2b a5i a5k (a2b a9f b3b (a2b a5i a5k (a2b (a2p K) a4a (a2b a9f b3b (a0c (pv 4)) (a0s (d:=.int 48271) a0e)) (a2b a9f b3b (a0s (d:=.int 31) a0e) (a0c (pv 3)))) (a0s (d:=.int 1000003) a0e)) (a0s (d:=.int 69621) a0e)) (a0s (d:=.int 999983) a0e)) (a0c (pv 1)))))))))),rfl⟩)
theorem c9h:FnScope ["_law_feed_here","_law_k"] ["_law_feed_here","_law_k"] (a0q b6y):=fnsc
def b7e:GS:=(a0l (gsIf (gT (gBin oEq (gBin oMod (gBin oIx (gVar 0) (gC (.int 2))) (gC (.int 4))) (gC (.int 3))))
  (gsRet (gBin oIx (gSeq .lst (a0a (gFrz (a7w (gC (.str "zbdgkafe")) b0b (a8x (gBin oAdd (gVar 1) (gC (.int 1)))))) (a0a (gBin oMulA (gC (.str "y")) (gBin oSub (gVar 1) (gC (.int 7)))) gaNil))) (gOp oInt1 (a0a (gBin oGt (gVar 1) (gC (.int 7))) gaNil))))
  gsNil)
 (gsRet (gBin oAdd (gBin oAdd (gBin oIx (gSeq .lst (a0a (gC (.str "")) (a0a (gC (.str "ab")) (a0a (gC (.str "zzz")) gaNil)))) (gBin oMod (gBin oIx (gVar 0) (gC (.int 2))) (gC (.int 4)))) (gBin oIx (gC (.str "dbgkafelcjhi")) (gVar 1))) (gBin oIx (gSeq .lst (a0a (gC (.str "")) (a0a (gC (.str "ba")) (a0a (gC (.str "zz")) gaNil)))) (gBin oMod (gBin oFdiv (gBin oIx (gVar 0) (gC (.int 2))) (gC (.int 4))) (gC (.int 3)))))))
def a5g:GM:=runM 2 [false,false] b7e
abbrev c3h(P:Program)(w:World)(K:L2.FG)(mg:Str->Option Value)(base:Heap)(t:Adr):Prop:=FnOk P w K mg base CX0 1 t.f11 t.d11 ["_law_feed_here","_law_k"] (SpM K 2 a5g)
theorem c9i(T:Txt K mg t):c3h P w K mg base t:=
 a6b (k:=0) [false,false] b7e T.F11.fn c9h rfl rfl (by decide) fun cdv A outer s H E hr=>(by
  have hu40:=a7u hr;have hu41:=a3o hr;exact⟨_,(a0m (a4d (a3a (a4i K (by exact hu40)) a7e (a2b a5i a5k (a1c (a3c K (by exact hu41)) a1d (a0c (pv 0)) (a0s (d:=.int 2) a0e)) (a0s (d:=.int 4) a0e)) (a0s (d:=.int 3) a0e))
   (a0t (a5j (a1c (a3c K (by exact hu41)) a1d (a4s (a0b (a1f (a8o (a0s (d:=.str "zbdgkafe") a1g) b1n (b1o (a2b (a2p K) a4a (a0c (pv 1)) (a0s (d:=.int 1) a0e))))) (a0b (a2b a9f b3b (a0s (d:=.str "y") a1g) (a2b c1r c2f (a0c (pv 1)) (a0s (d:=.int 7) a0e))) a0g))) (a6u a9q b6i T.b_int c1x (a0b (b4q d5h d6g (a0c (pv 1)) (a0s (d:=.int 7) a0e)) a0g)))))
   a2n)
   (a0t (a5j (a2b (a2p K) a4a (a2b (a2p K) a4a (a1c (a3c K (by exact hu41)) a1d (a4s (a0b (a0s (d:=.str "") a1g) (a0b (a0s (d:=.str "ab") a1g) (a0b (a0s (d:=.str "zzz") a1g) a0g)))) (a2b a5i a5k (a1c (a3c K (by exact hu41)) a1d (a0c (pv 0)) (a0s (d:=.int 2) a0e)) (a0s (d:=.int 4) a0e))) (a1c (a3c K (by exact hu41)) a1d (a0s (d:=.str "dbgkafelcjhi") a1g) (a0c (pv 1)))) (a1c (a3c K (by exact hu41)) a1d (a4s (a0b (a0s (d:=.str "") a1g) (a0b (a0s (d:=.str "ba") a1g) (a0b (a0s (d:=.str "zz") a1g) a0g)))) (a2b a5i a5k (a2b a9a a9e (a1c (a3c K (by exact hu41)) a1d (a0c (pv 0)) (a0s (d:=.int 2) a0e)) (a0s (d:=.int 4) a0e)) (a0s (d:=.int 3) a0e))))))),rfl⟩)
theorem sc_l_spots:FnScope ["_law_house_here","_law_spots_here","_law_k"] ["_law_house_here"] (a0q b0r):=fnsc
def b3v:GS:=(a0l (gsSet 1 (a4v (srcR1 (a0a (gLend (gOp oLen (a0a (gBin oIx (gVar 0) (gC (.int 1))) gaNil))) gaNil)) (a0p 0) gYes (gFrz (gSeq .tup (a0a (gC (.str "name")) (a0a (gC (.int 1)) (a0a (gVar 0) gaNil))))) 1 []))
 (a0l (a2s (gMut a2w (gVar 1) (a0a (gFrz (gSeq .tup (a0a (gC (.str "hand")) (a0a (gC (.int 1)) (a0a (gC (.int 0)) gaNil))))) gaNil)))
 (a0l (a9s (a0a (gLend (gOp oLen (a0a (gBin oIx (gVar 0) (gC (.int 0))) gaNil))) gaNil) (a0p 2)
  (gsSet 1 (gBin oAdd (gVar 1) (gSeq .lst (a0a (gFrz (gSeq .tup (a0a (gC (.str "name")) (a0a (gC (.int 0)) (a0a (gVar 2) gaNil))))) (a0a (gFrz (gSeq .tup (a0a (gC (.str "size")) (a0a (gC (.int 0)) (a0a (gVar 2) gaNil))))) gaNil))))))
 (a0l (a9s (a0a (gLend (gOp oLen (a0a (gBin oIx (gVar 0) (gC (.int 0))) gaNil))) gaNil) (a0p 2)
  (a2s (gMut a2w (gVar 1) (a0a (gFrz (gSeq .tup (a0a (gC (.str "out")) (a0a (gC (.int 0)) (a0a (gVar 2) gaNil))))) gaNil))))
 (a0l (gsIf (c2x (gTru (gBin oIx (gVar 0) (gC (.int 0)))))
  (a2s (gMut a2w (gVar 1) (a0a (gFrz (gSeq .tup (a0a (gC (.str "far")) (a0a (gC (.int 0)) (a0a (gC (.int 0)) gaNil))))) gaNil)))
  gsNil)
 (gsRet (gMove (gVar 1))))))))
def b0s:GM:=runM 3 [true] b3v
abbrev b9g(P:Program)(w:World)(K:L2.FG)(mg:Str->Option Value)(base:Heap)(t:Adr):Prop:=FnOk P w K mg base CX0 1 t.f14 t.d14 ["_law_house_here"] (SpM K 1 b0s)
theorem c4v(T:Txt K mg t):b9g P w K mg base t:=
 a6b (k:=0) [true] b3v T.F14.fn sc_l_spots rfl rfl (by decide) fun cdv A outer s H E hr=>(by
  have hu41:=a3o hr;exact⟨_,(a0m (c7s (i:=1) c2p (k:=1) (cap:=[]) a1x (M:=["_law_k"]) (CompOk.of (a0q b0r).names ["_law_house_here","_law_spots_here","_law_k"] (by decide +kernel)) sc_l_spots.nd rfl (Or.inl rfl) (a7s (by rfl) T.b_range (a0b (a9k (a2g (a2d K) a4u T.b_len a4q (a0b (a1c (a3c K (by exact hu41)) a1d (a0c (pv 0)) (a0s (d:=.int 1) a0e)) a0g))) a0g))
    (fun _ _ _ _=>(a1w (i:=0) (show List.Nodup (["_law_k"]:List Str) by decide +kernel) rfl (Or.inl rfl))) (fun _ _ _ _=>a7x) (fun _ _ _ _=>(a1f (a8w (a0b (a0s (d:=.str "name") a1g) (a0b (a0s (d:=.int 1) a0e) (a0b (a0c (pv 0)) a0g)))))))
   (a0m (a2v (a6c PySem.F.slot_list_append PySem.F.type_list_append a3t a3w (a0c (pv 1)) (a0b (a1f (a8w (a0b (a0s (d:=.str "hand") a1g) (a0b (a0s (d:=.int 1) a0e) (a0b (a0s (d:=.int 0) a0e) a0g))))) a0g)))
   (a0m (b3a PassesOwn.never T.b_range (a0b (a9k (a2g (a2d K) a4u T.b_len a4q (a0b (a1c (a3c K (by exact hu41)) a1d (a0c (pv 0)) (a0s (d:=.int 0) a0e)) a0g))) a0g) (a1w (i:=2) sc_l_spots.nd rfl (Or.inl rfl)) a1x
   (a0t (a1y (i:=1) sc_l_spots.nd rfl (Or.inl rfl) (a2b (a2p K) a4a (a0c (pv 1)) (a4s (a0b (a1f (a8w (a0b (a0s (d:=.str "name") a1g) (a0b (a0s (d:=.int 0) a0e) (a0b (a0c (pv 2)) a0g))))) (a0b (a1f (a8w (a0b (a0s (d:=.str "size") a1g) (a0b (a0s (d:=.int 0) a0e) (a0b (a0c (pv 2)) a0g))))) a0g)))))))
   (a0m (b3a PassesOwn.never T.b_range (a0b (a9k (a2g (a2d K) a4u T.b_len a4q (a0b (a1c (a3c K (by exact hu41)) a1d (a0c (pv 0)) (a0s (d:=.int 0) a0e)) a0g))) a0g) (a1w (i:=2) sc_l_spots.nd rfl (Or.inl rfl)) a1x
   (a0t (a2v (a6c PySem.F.slot_list_append PySem.F.type_list_append a3t a3w (a0c (pv 1)) (a0b (a1f (a8w (a0b (a0s (d:=.str "out") a1g) (a0b (a0s (d:=.int 0) a0e) (a0b (a0c (pv 2)) a0g))))) a0g)))))
   (a0m (a4d (d7b (a6v (a1c (a3c K (by exact hu41)) a1d (a0c (pv 0)) (a0s (d:=.int 0) a0e))))
   (a0t (a2v (a6c PySem.F.slot_list_append PySem.F.type_list_append a3t a3w (a0c (pv 1)) (a0b (a1f (a8w (a0b (a0s (d:=.str "far") a1g) (a0b (a0s (d:=.int 0) a0e) (a0b (a0s (d:=.int 0) a0e) a0g))))) a0g))))
   a2n)
   (a0t (a5j (b1j (a0c (pv 1)))))))))),rfl⟩)
theorem sc_l_no_name:FnScope ["_law_c","_law_none"] ["_law_c"] (a0q a9m):=fnsc
def a9n:GS:=(a0l (gsSet 1 (gFrz (gSeq .lst (a0a (gC (.str "")) (a0a (gC (.str "A")) (a0a (gC (.str "abcdefghi")) (a0a (gC (.str "a b")) (a0a (gC (.str "a1")) (a0a (gC (.str "a\n")) (a0a (gC .non) (a0a (gC (.int 7)) (a0a (gC (.bl true)) (a0a (gFrz (gSeq .lst gaNil)) (a0a (gFrz (gSeq .lst (a0a (gC (.str "a")) gaNil))) (a0a (gFrz (gSeq .tup (a0a (gC (.str "a")) gaNil))) gaNil)))))))))))))))
 (gsRet (gBin oIx (gVar 1) (gBin oMod (gVar 0) (gC (.int 12))))))
def a7q:GM:=runM 2 [false] a9n
abbrev b3w(P:Program)(w:World)(K:L2.FG)(mg:Str->Option Value)(base:Heap)(t:Adr):Prop:=FnOk P w K mg base CX0 1 t.f15 t.d15 ["_law_c"] (SpM K 1 a7q)
theorem b9h(T:Txt K mg t):b3w P w K mg base t:=
 a6b (k:=0) [false] a9n T.F15.fn sc_l_no_name rfl rfl (by decide) fun cdv A outer s H E hr=>(by
  have hu41:=a3o hr;exact⟨_,(a0m (a1y (i:=1) sc_l_no_name.nd rfl (Or.inl rfl) (a1f (a4s (c2w (a0s (d:=.str "") a1g) (a0s (d:=.str "A") a1g) (a0s (d:=.str "abcdefghi") a1g) (a0s (d:=.str "a b") a1g) (a0s (d:=.str "a1") a1g) (a0s (d:=.str "a\n") a1g) (c2w (a0s (d:=.non) d3n) (a0s (d:=.int 7) a0e) (a0s (d:=.bl true) b7p) (a1f (a4s a0g)) (a1f (a4s (a0b (a0s (d:=.str "a") a1g) a0g))) (a1f (a8w (a0b (a0s (d:=.str "a") a1g) a0g))) a0g)))))
   (a0t (a5j (a1c (a3c K (by exact hu41)) a1d (a0c (pv 1)) (a2b a5i a5k (a0c (pv 0)) (a0s (d:=.int 12) a0e)))))),rfl⟩)
theorem c9j:FnScope ["_law_house_here"] ["_law_house_here"] (a0q b2p):=fnsc
def b7f:GS:=(gsRet (gSeq .tup (a0a (gFrz (a4v (srcL (gBin oIx (gVar 0) (gC (.int 0)))) (a0p 0) gYes (gFrz (gSeq .tup (a0a (gBin oIx (gVar 0) (gC (.int 0))) (a0a (gBin oIx (gVar 0) (gC (.int 1))) (a0a (gBin oIx (gVar 0) (gC (.int 2))) (a0a (gFrz (gOp oList (a0a (gBin oIx (gVar 0) (gC (.int 3))) gaNil))) gaNil)))))) 1 [])) (a0a (gFrz (gOp oList (a0a (gBin oIx (gVar 0) (gC (.int 1))) gaNil))) gaNil))))
def b0t:GM:=runM 1 [false] b7f
abbrev c3i(P:Program)(w:World)(K:L2.FG)(mg:Str->Option Value)(base:Heap)(t:Adr):Prop:=FnOk P w K mg base CX0 1 t.f18 t.d18 ["_law_house_here"] (SpM K 1 b0t)
theorem c9k(T:Txt K mg t):c3i P w K mg base t:=
 a6b (k:=0) [false] b7f T.F18.fn c9j rfl rfl (by decide) fun cdv A outer s H E hr=>(by
  have hu41:=a3o hr;exact⟨_,(a0t (a5j (a8w (a0b (a1f (a7f b0c (k:=1) (cap:=[]) a1x (M:=["_law_belt"]) (CompOk.of (a0q b2p).names ["_law_house_here"] (by decide +kernel)) (a8m K (a1f (a1c (a3c K (by exact hu41)) a1d (a0c (pv 0)) (a0s (d:=.int 0) a0e))))
    (fun _ _ _ _=>(a1w (i:=0) (show List.Nodup (["_law_belt"]:List Str) by decide +kernel) rfl (Or.inl rfl))) (fun _ _ _ _=>a7x) (fun _ _ _ _=>(a1f (a8w (a0b (a1c (a3c K (by exact hu41)) a1d (a0c (pv 0)) (a0s (d:=.int 0) a0e)) (a0b (a1c (a3c K (by exact hu41)) a1d (a0c (pv 0)) (a0s (d:=.int 1) a0e)) (a0b (a1c (a3c K (by exact hu41)) a1d (a0c (pv 0)) (a0s (d:=.int 2) a0e)) (a0b (a1f (a6u (a7a K) c7l T.b_list b5u (a0b (a1c (a3c K (by exact hu41)) a1d (a0c (pv 0)) (a0s (d:=.int 3) a0e)) a0g))) a0g))))))))) (a0b (a1f (a6u (a7a K) c7l T.b_list b5u (a0b (a1c (a3c K (by exact hu41)) a1d (a0c (pv 0)) (a0s (d:=.int 1) a0e)) a0g))) a0g))))),rfl⟩)
theorem b9i:FnScope ["name","taken"] ["name","taken"] (a0q a9l):=fnsc
def a6g:GS:=(a0l (gsIf (gOrT (gNotT (gTru (a7y a6x (a0a (gVar 0) gaNil)))) (gT (gBin (oInG false) (gVar 0) (gVar 1))))
  (a6s 37 (gC (.str "a belt or a cart has no name, or one that is taken")))
  gsNil)
 (gsPut (gC (.bl true)) (gVar 1) (gVar 0)))
def a2z:GM:=runM 2 [false,true] a6g
abbrev a9o(P:Program)(w:World)(K:L2.FG)(mg:Str->Option Value)(base:Heap)(t:Adr):Prop:=FnOk P w K mg base (CX1 P w) 2 t.f4 t.d4 ["name","taken"] (SpX K 2 a2z)
theorem b9j(T:Txt K mg t)(g0:b9f P w K mg base t):a9o P w K mg base t:=
 b1r (k:=1) [false,true] a6g T.F4.fn b9i rfl rfl (by decide) fun cdv A outer s H E hr=>(by
  have hu41:=a3o hr;exact⟨_,(a0m (a4d (PW.pt (d5z (b4r (a6v (b6k T.F0 g0 hr.le (a0b (a0c (pv 0)) a0g) (a0d a0o)))) (c6o (a3a (b4t K (by exact hu41)) (b4i false) (a0c (pv 0)) (a0c (pv 1))))))
   (a0t (a8t (T.er.ix (i:=0) rfl).2.1 T.er.G0 (T.er.ix (i:=0) rfl).2.2.2 (T.er.ix (i:=0) rfl).1 a5o (a0s (d:=.str "a belt or a cart has no name, or one that is taken") a1g)))
   a2n)
   (a0t (b8n (a0s (d:=.bl true) b7p) (a0c (pv 1)) (a0c (pv 0)) (by exact hu41)))),rfl⟩)
theorem sc_check_outs:FnScope ["belts","carts","k","belt","name","outs","left","out"] ["belts","carts"] (a0q a8c):=fnsc
def a8g:GS:=(b8t (gVar 0) (ggTup [(a0p 2),(a0p 3)])
  (a0l (gsSet 4 (gBin oIx (gVar 3) (gC (.int 0))))
 (a0l (gsSet 5 (gFrz (gIf (gTru (gOp oIsi (a0a (gBin oIx (gVar 3) (gC (.int 3))) (a0a (gC (.ty "list")) gaNil)))) (gBin oIx (gVar 3) (gC (.int 3))) (gSeq .lst gaNil))))
 (a0l (gsSet 6 (gBin oAdd (gCall a2t (a0a (gFrz (a7w (gVar 0) (a8x (gBin oAdd (gVar 2) (gC (.int 1)))) b0b)) gaNil)) (gVar 1)))
 (a0l (gsFor (gVar 5) (a0p 7)
  (a0l (gsIf (gT (gBin (oInG true) (gVar 7) (gVar 6)))
  (a6s 61 (a7j (a3r (gC (.str "belt ")) (a3r (gUn oFmt (gVar 4)) (a3r (gC (.str " has an out that is no cart, no belt behind it, or there twice")) gjNil)))))
  gsNil)
 (a2s (gMut b1s (gVar 6) (a0a (gVar 7) gaNil)))))
 (gsIf (gNotT (gTru (gVar 5)))
  (a6s 61 (a7j (a3r (gC (.str "belt ")) (a3r (gUn oFmt (gVar 4)) (a3r (gC (.str " has no outs")) gjNil)))))
  gsNil))))))
def a2k:GM:=runM 8 [false,false] a8g
abbrev b2c(P:Program)(w:World)(K:L2.FG)(mg:Str->Option Value)(base:Heap)(t:Adr):Prop:=FnOk P w K mg base (CX1 P w) 2 t.f5 t.d5 ["belts","carts"] (SpX K 2 a2k)
theorem b7g(T:Txt K mg t)(g7:a6o P w K mg base t):b2c P w K mg base t:=
 b1r (k:=1) [false,false] a8g T.F5.fn sc_check_outs rfl rfl (by decide) fun cdv A outer s H E hr=>(by
  have hu41:=a3o hr;exact⟨_,(a0t (d6v c8j T.b_enumerate (a0c (pv 0)) (c5m rfl (a5c (a1w (i:=2) sc_check_outs.nd rfl (Or.inl rfl)) (a5c (a1w (i:=3) sc_check_outs.nd rfl (Or.inl rfl)) c0c))) (c6p (a5d a1x (a5d a1x c0k)))
   (a0m (a1y (i:=4) sc_check_outs.nd rfl (Or.inl rfl) (a1c (a3c K (by exact hu41)) a1d (a0c (pv 3)) (a0s (d:=.int 0) a0e)))
   (a0m (a1y (i:=5) sc_check_outs.nd rfl (Or.inl rfl) (a1f (d9w (a6v (a2g (b8e K) d4g T.b_isinstance d3v (a0b (a1c (a3c K (by exact hu41)) a1d (a0c (pv 3)) (a0s (d:=.int 3) a0e)) (a0b (a0s (d:=.ty "list") (d9p (by rfl) T.b_list b5u)) a0g)))) (a1c (a3c K (by exact hu41)) a1d (a0c (pv 3)) (a0s (d:=.int 3) a0e)) (a4s a0g))))
   (a0m (a1y (i:=6) sc_check_outs.nd rfl (Or.inl rfl) (a2b (a2p K) a4a (a2c T.F7 g7 hr.le (a0b (a1f (a8o (a0c (pv 0)) (b1o (a2b (a2p K) a4a (a0c (pv 2)) (a0s (d:=.int 1) a0e))) b1n)) a0g) (a0d a0o)) (a0c (pv 1))))
   (a0m (b2z c8j (a0c (pv 5)) (a1w (i:=7) sc_check_outs.nd rfl (Or.inl rfl)) a1x
   (a0m (a4d (a3a (a9y K (by exact hu41)) (b4i true) (a0c (pv 7)) (a0c (pv 6)))
   (a0t (a8t (T.er.ix (i:=2) rfl).2.1 T.er.G0 (T.er.ix (i:=2) rfl).2.2.2 (T.er.ix (i:=2) rfl).1 a5o (b0l (a5b (a0s (d:=.str "belt ") a1g) (a5b (c8c (a0c (pv 4))) (a5b (a0s (d:=.str " has an out that is no cart, no belt behind it, or there twice") a1g) c2t))))))
   a2n)
   (a0t (a2v (a6c PySem.F.slot_list_remove PySem.F.type_list_remove c8s c8t (a0c (pv 6)) (a0b (a0c (pv 7)) a0g))))))
   (a0t (a4d (b4r (a6v (a0c (pv 5))))
   (a0t (a8t (T.er.ix (i:=2) rfl).2.1 T.er.G0 (T.er.ix (i:=2) rfl).2.2.2 (T.er.ix (i:=2) rfl).1 a5o (b0l (a5b (a0s (d:=.str "belt ") a1g) (a5b (c8c (a0c (pv 4))) (a5b (a0s (d:=.str " has no outs") a1g) c2t))))))
   a2n)))))))),rfl⟩)
theorem sc_reached:FnScope ["house","belt","found","name","long","ring","outs","out"] ["house","belt"] (a0q b0q):=fnsc
def b3x:GS:=(a0l (gsSet 2 c2b)
 (a0l (gsFor (gBin oIx (gVar 0) (gC (.int 0))) (ggTup [(a0p 3),(a0p 4),(a0p 5),(a0p 6)])
  (gsIf (gOrT (gT (gBin oEq (gVar 3) (gVar 1))) (gT (gBin (oInG false) (gVar 3) (gVar 2))))
  (gsFor (gVar 6) (a0p 7)
  (gsPut (gC (.bl true)) (gVar 2) (gVar 7)))
  gsNil))
 (gsRet (a4v (srcL (gBin oAdd (gCall a2t (a0a (gBin oIx (gVar 0) (gC (.int 0))) gaNil)) (gBin oIx (gVar 0) (gC (.int 1))))) (a0p 0) (gT (gBin (oInG false) (gVar 0) (gVar 1))) (gVar 0) 1 [2]))))
def b0u:GM:=runM 8 [false,false] b3x
abbrev b9k(P:Program)(w:World)(K:L2.FG)(mg:Str->Option Value)(base:Heap)(t:Adr):Prop:=FnOk P w K mg base CX0 2 t.f8 t.d8 ["house","belt"] (SpM K 2 b0u)
theorem c4w(T:Txt K mg t)(g7:a6o P w K mg base t):b9k P w K mg base t:=
 a6b (k:=1) [false,false] b3x T.F8.fn sc_reached rfl rfl (by decide) fun cdv A outer s H E hr=>(by
  have hu40:=a7u hr;have hu41:=a3o hr;exact⟨_,(a0m (a1y (i:=2) sc_reached.nd rfl (Or.inr rfl) c2c)
   (a0m (b2z PassesOwn.never (a1c (a3c K (by exact hu41)) a1d (a0c (pv 0)) (a0s (d:=.int 0) a0e)) (c5m rfl (a5c (a1w (i:=3) sc_reached.nd rfl (Or.inl rfl)) (a5c (a1w (i:=4) sc_reached.nd rfl (Or.inl rfl)) (a5c (a1w (i:=5) sc_reached.nd rfl (Or.inl rfl)) (a5c (a1w (i:=6) sc_reached.nd rfl (Or.inl rfl)) c0c))))) (c6p (a5d a1x (a5d a1x (a5d a1x (a5d a1x c0k)))))
   (a0t (a4d (PW.pt (d5z (a3a (a4i K (by exact hu40)) a7e (a0c (pv 3)) (a0c (pv 1))) (c6o (a3a (b4t K (by exact hu41)) (b4i false) (a0c (pv 3)) (a0c (pv 2))))))
   (a0t (b2z PassesOwn.never (a0c (pv 6)) (a1w (i:=7) sc_reached.nd rfl (Or.inl rfl)) a1x
   (a0t (b8n (a0s (d:=.bl true) b7p) (a0c (pv 2)) (a0c (pv 7)) (by exact hu41)))))
   a2n)))
   (a0t (a5j (a7f b0c (k:=1) (cap:=[2]) a1x (M:=["name","found"]) (CompOk.of (a0q b0q).names ["house","belt","found","name","long","ring","outs","out"] (by decide +kernel)) (a8m K (a1f (a2b (a2p K) a4a (a2c T.F7 g7 hr.le (a0b (a1c (a3c K (by exact hu41)) a1d (a0c (pv 0)) (a0s (d:=.int 0) a0e)) a0g) (a0d a0o)) (a1c (a3c K (by exact hu41)) a1d (a0c (pv 0)) (a0s (d:=.int 1) a0e)))))
    (fun _ _ _ _=>(a1w (i:=0) (show List.Nodup (["name","found"]:List Str) by decide +kernel) rfl (Or.inl rfl))) (fun _ _ _ _=>(c0q (a3a (b4t K (by exact hu41)) (b4i false) (a0c (pv 0)) (a0c (pv 1))))) (fun _ _ _ _=>(a0c (pv 0)))))))),rfl⟩)
theorem sc_l_outs:FnScope ["_law_feed_here","_law_later","_law_carts","_law_outs_here","_law_t","_law_out"] ["_law_feed_here","_law_later","_law_carts"] (a0q b2o):=fnsc
def b7h:GS:=(a0l (gsSet 3 (gSeq .lst gaNil))
 (a0l (a9s (a0a (gBin oAdd (gC (.int 1)) (gCall a1v (a0a (gVar 0) (a0a (gC (.int 3)) gaNil)))) gaNil) (a0p 4)
  (a0l (gsSet 5 (gBin oIx (gBin oAdd (gVar 1) (gVar 2)) (gCall a1v (a0a (gVar 0) (a0a (gFrz (gBin oAdd (gOp oLen (a0a (gVar 1) gaNil)) (gOp oLen (a0a (gVar 2) gaNil)))) gaNil)))))
 (gsIf (gT (gBin (oInG true) (gVar 5) (gVar 3)))
  (a2s (gMut a4j (gVar 3) (a0a (gFrz (gCall a1v (a0a (gVar 0) (a0a (gFrz (gBin oAdd (gOp oLen (a0a (gVar 3) gaNil)) (gC (.int 1)))) gaNil)))) (a0a (gVar 5) gaNil))))
  gsNil)))
 (a0l (gsIf (gAndT (gT (gBin (oInG true) (gBin oIx (gVar 2) (gC (.int 0))) (gVar 3))) (gT (gBin oEq (gOp oLen (a0a (a4v (srcV 3 [1]) (a0p 0) (gT (gBin (oInG false) (gVar 0) (gVar 1))) (gVar 0) 1 [1]) gaNil)) (gC (.int 0)))))
  (a2s (gMut a4j (gVar 3) (a0a (gFrz (gCall a1v (a0a (gVar 0) (a0a (gFrz (gBin oAdd (gOp oLen (a0a (gVar 3) gaNil)) (gC (.int 1)))) gaNil)))) (a0a (gBin oIx (gVar 2) (gC (.int 0))) gaNil))))
  gsNil)
 (gsRet (gMove (gVar 3))))))
def b0v:GM:=runM 6 [true,false,true] b7h
abbrev c3j(P:Program)(w:World)(K:L2.FG)(mg:Str->Option Value)(base:Heap)(t:Adr):Prop:=FnOk P w K mg base CX0 2 t.f12 t.d12 ["_law_feed_here","_law_later","_law_carts"] (SpM K 3 b0v)
theorem c9l(T:Txt K mg t)(g10:b2r P w K mg base t):c3j P w K mg base t:=
 a6b (k:=1) [true,false,true] b7h T.F12.fn sc_l_outs rfl rfl (by decide) fun cdv A outer s H E hr=>(by
  have hu40:=a7u hr;have hu41:=a3o hr;exact⟨_,(a0m (a1y (i:=3) sc_l_outs.nd rfl (Or.inl rfl) (a4s a0g))
   (a0m (b3a PassesOwn.never T.b_range (a0b (a2b (a2p K) a4a (a0s (d:=.int 1) a0e) (a2c T.F10 g10 hr.le (a0b (a0c (pv 0)) (a0b (a0s (d:=.int 3) a0e) a0g)) (a0d (a0d a0o)))) a0g) (a1w (i:=4) sc_l_outs.nd rfl (Or.inl rfl)) a1x
   (a0m (a1y (i:=5) sc_l_outs.nd rfl (Or.inl rfl) (a1c (a3c K (by exact hu41)) a1d (a2b (a2p K) a4a (a0c (pv 1)) (a0c (pv 2))) (a2c T.F10 g10 hr.le (a0b (a0c (pv 0)) (a0b (a1f (a2b (a2p K) a4a (a2g (a2d K) a4u T.b_len a4q (a0b (a0c (pv 1)) a0g)) (a2g (a2d K) a4u T.b_len a4q (a0b (a0c (pv 2)) a0g)))) a0g)) (a0d (a0d a0o)))))
   (a0t (a4d (a3a (a9y K (by exact hu41)) (b4i true) (a0c (pv 5)) (a0c (pv 3)))
   (a0t (a2v (a6c PySem.F.slot_list_insert PySem.F.type_list_insert a9r b0a (a0c (pv 3)) (a0b (a1f (a2c T.F10 g10 hr.le (a0b (a0c (pv 0)) (a0b (a1f (a2b (a2p K) a4a (a2g (a2d K) a4u T.b_len a4q (a0b (a0c (pv 3)) a0g)) (a0s (d:=.int 1) a0e))) a0g)) (a0d (a0d a0o)))) (a0b (a0c (pv 5)) a0g)))))
   a2n))))
   (a0m (a4d (PW.pt (d3y (a3a (a9y K (by exact hu41)) (b4i true) (a1c (a3c K (by exact hu41)) a1d (a0c (pv 2)) (a0s (d:=.int 0) a0e)) (a0c (pv 3))) (c6n (a3a (a4i K (by exact hu40)) a7e (a2g (a2d K) a4u T.b_len a4q (a0b (a7f d6n (k:=1) (cap:=[1]) a1x (M:=["_law_out","_law_later"]) (CompOk.of (a0q b2o).names ["_law_feed_here","_law_later","_law_carts","_law_outs_here","_law_t","_law_out"] (by decide +kernel)) (a8m K (pv 3))
    (fun _ _ _ _=>(a1w (i:=0) (show List.Nodup (["_law_out","_law_later"]:List Str) by decide +kernel) rfl (Or.inl rfl))) (fun _ _ _ _=>(c0q (a3a (b4t K (by exact hu41)) (b4i false) (a0c (pv 0)) (a0c (pv 1))))) (fun _ _ _ _=>(a0c (pv 0)))) a0g)) (a0s (d:=.int 0) a0e)))))
   (a0t (a2v (a6c PySem.F.slot_list_insert PySem.F.type_list_insert a9r b0a (a0c (pv 3)) (a0b (a1f (a2c T.F10 g10 hr.le (a0b (a0c (pv 0)) (a0b (a1f (a2b (a2p K) a4a (a2g (a2d K) a4u T.b_len a4q (a0b (a0c (pv 3)) a0g)) (a0s (d:=.int 1) a0e))) a0g)) (a0d (a0d a0o)))) (a0b (a1c (a3c K (by exact hu41)) a1d (a0c (pv 2)) (a0s (d:=.int 0) a0e)) a0g)))))
   a2n)
   (a0t (a5j (b1j (a0c (pv 3)))))))),rfl⟩)
theorem sc_l_spoil_name:FnScope ["_law_house_here","_law_spot","_law_c","_law_known","_law_name_here"] ["_law_house_here","_law_spot","_law_c"] (a0q a5f):=fnsc
def a5h:GS:=(a0l (gsSet 3 (gFrz (c3b 0 (fpS [1]))))
 (a0l (gsIf (gT (gBin oEq (gBin oIx (gVar 1) (gC (.int 1))) (gC (.int 1))))
  (gsSet 3 (gFrz (a7w (gVar 3) b0b (a8x (gBin oIx (gVar 1) (gC (.int 2)))))))
  (gsSet 3 (gFrz (gBin oAdd (gVar 3) (gLend (a4v (srcL (a7w (gBin oIx (gVar 0) (gC (.int 0))) b0b (a8x (gBin oIx (gVar 1) (gC (.int 2)))))) (a0p 0) gYes (gBin oIx (gVar 0) (gC (.int 0))) 1 []))))))
 (a0l (gsSet 4 (gFrz (gCall a7q (a0a (gBin oFdiv (gVar 2) (gC (.int 2))) gaNil))))
 (a0l (gsIf (gAndT (gT (gBin oEq (gBin oMod (gVar 2) (gC (.int 2))) (gC (.int 0)))) (gTru (gVar 3)))
  (gsSet 4 (gBin oIx (gVar 3) (gBin oMod (gBin oFdiv (gVar 2) (gC (.int 2))) (gOp oLen (a0a (gVar 3) gaNil)))))
  gsNil)
 (gsIf (gT (gBin oEq (gBin oIx (gVar 1) (gC (.int 1))) (gC (.int 1))))
  (b8z (gVar 4) 0 (fpS [1]) (gBin oIx (gVar 1) (gC (.int 2))))
  (b8z (gVar 4) 0 (fpJ [0] (gBin oIx (gVar 1) (gC (.int 2))) []) (gC (.int 0))))))))
def a2l:GM:=runM 5 [true,false,false] a5h
abbrev a8z(P:Program)(w:World)(K:L2.FG)(mg:Str->Option Value)(base:Heap)(t:Adr):Prop:=FnOk P w K mg base CX0 2 t.f16 t.d16 ["_law_house_here","_law_spot","_law_c"] (SpM K 3 a2l)
theorem b3y(T:Txt K mg t)(g15:b3w P w K mg base t):a8z P w K mg base t:=
 a6b (k:=1) [true,false,false] a5h T.F16.fn sc_l_spoil_name rfl rfl (by decide) fun cdv A outer s H E hr=>(by
  have hu40:=a7u hr;have hu41:=a3o hr;exact⟨_,(a0m (a1y (i:=3) sc_l_spoil_name.nd rfl (Or.inl rfl) (a1f (d2s T.b_list (b8o (j:=1) (b1x (pv 0)) (by exact hu41)) pathS)))
   (a0m (a4d (a3a (a4i K (by exact hu40)) a7e (a1c (a3c K (by exact hu41)) a1d (a0c (pv 1)) (a0s (d:=.int 1) a0e)) (a0s (d:=.int 1) a0e))
   (a0t (a1y (i:=3) sc_l_spoil_name.nd rfl (Or.inl rfl) (a1f (a8o (a0c (pv 3)) b1n (b1o (a1c (a3c K (by exact hu41)) a1d (a0c (pv 1)) (a0s (d:=.int 2) a0e)))))))
   (a0t (a1y (i:=3) sc_l_spoil_name.nd rfl (Or.inl rfl) (a1f (a2b (a2p K) a4a (a0c (pv 3)) (a9k (a7f b0c (k:=1) (cap:=[]) a1x (M:=["_law_belt"]) (CompOk.of (a0q a5f).names ["_law_house_here","_law_spot","_law_c","_law_known","_law_name_here"] (by decide +kernel)) (a8m K (a1f (a8o (a1c (a3c K (by exact hu41)) a1d (a0c (pv 0)) (a0s (d:=.int 0) a0e)) b1n (b1o (a1c (a3c K (by exact hu41)) a1d (a0c (pv 1)) (a0s (d:=.int 2) a0e))))))
    (fun _ _ _ _=>(a1w (i:=0) (show List.Nodup (["_law_belt"]:List Str) by decide +kernel) rfl (Or.inl rfl))) (fun _ _ _ _=>a7x) (fun _ _ _ _=>(a1c (a3c K (by exact hu41)) a1d (a0c (pv 0)) (a0s (d:=.int 0) a0e))))))))))
   (a0m (a1y (i:=4) sc_l_spoil_name.nd rfl (Or.inl rfl) (a1f (a2c T.F15 g15 hr.le (a0b (a2b a9a a9e (a0c (pv 2)) (a0s (d:=.int 2) a0e)) a0g) (a0d a0o))))
   (a0m (a4d (PW.pt (d3y (a3a (a4i K (by exact hu40)) a7e (a2b a5i a5k (a0c (pv 2)) (a0s (d:=.int 2) a0e)) (a0s (d:=.int 0) a0e)) (c6n (a6v (a0c (pv 3))))))
   (a0t (a1y (i:=4) sc_l_spoil_name.nd rfl (Or.inl rfl) (a1c (a3c K (by exact hu41)) a1d (a0c (pv 3)) (a2b a5i a5k (a2b a9a a9e (a0c (pv 2)) (a0s (d:=.int 2) a0e)) (a2g (a2d K) a4u T.b_len a4q (a0b (a0c (pv 3)) a0g))))))
   a2n)
   (a0t (a4d (a3a (a4i K (by exact hu40)) a7e (a1c (a3c K (by exact hu41)) a1d (a0c (pv 1)) (a0s (d:=.int 1) a0e)) (a0s (d:=.int 1) a0e))
   (a0t (c0y (a0c (pv 4)) (b8o (j:=1) (b1x (pv 0)) (by exact hu41)) pathS (a1c (a3c K (by exact hu41)) a1d (a0c (pv 1)) (a0s (d:=.int 2) a0e)) (by exact hu41)))
   (a0t (c0y (a0c (pv 4)) (dpj0 (b8o (j:=0) (b1x (pv 0)) (by exact hu41)) (a1c (a3c K (by exact hu41)) a1d (a0c (pv 1)) (a0s (d:=.int 2) a0e)) (by exact hu41)) pathJ (a0s (d:=.int 0) a0e) (by exact hu41))))))))),rfl⟩)
theorem sc_check_carts:FnScope ["carts","taken","cart"] ["carts","taken"] (a0q a7o):=fnsc
def a4o:GS:=(a0l (gsFor (gVar 0) (a0p 2)
  (a6r (gCall a2z (a0a (gVar 2) (a0a (gVar 1) gaNil)))))
 (gsIf (gNotT (gTru (gVar 0)))
  (a6s 73 (gC (.str "a house has a cart at least, the hand")))
  gsNil))
def a1l:GM:=runM 3 [false,true] a4o
abbrev b0w(P:Program)(w:World)(K:L2.FG)(mg:Str->Option Value)(base:Heap)(t:Adr):Prop:=FnOk P w K mg base (CX1 P w) 3 t.f2 t.d2 ["carts","taken"] (SpX K 2 a1l)
theorem b4j(T:Txt K mg t)(g4:a9o P w K mg base t):b0w P w K mg base t:=
 b1r (k:=2) [false,true] a4o T.F2.fn sc_check_carts rfl rfl (by decide) fun cdv A outer s H E hr=>(by
  exact⟨_,(a0m (b2z c8j (a0c (pv 0)) (a1w (i:=2) sc_check_carts.nd rfl (Or.inl rfl)) a1x
   (a0t (a8s (a7k T.F4 g4 hr.le a5o (a0b (a0c (pv 2)) (a0b (a0c (pv 1)) a0g)) (a0d (a0d a0o))))))
   (a0t (a4d (b4r (a6v (a0c (pv 0))))
   (a0t (a8t (T.er.ix (i:=3) rfl).2.1 T.er.G0 (T.er.ix (i:=3) rfl).2.2.2 (T.er.ix (i:=3) rfl).1 a5o (a0s (d:=.str "a house has a cart at least, the hand") a1g)))
   a2n))),rfl⟩)
theorem sc_check_belts:FnScope ["belts","taken","name","long","ring","outs","least"] ["belts","taken"] (a0q a7p):=fnsc
def a7r:GS:=(gsFor (gVar 0) (ggTup [(a0p 2),(a0p 3),(a0p 4),(a0p 5)])
  (a0l (a6r (gCall a2z (a0a (gVar 2) (a0a (gVar 1) gaNil))))
 (a0l (gsSet 6 (gFrz (gIf (gTru (gVar 4)) (gC (.int 2)) (gC (.int 1)))))
 (gsIf (gT (gBin oLt (gVar 3) (gVar 6)))
  (a6s 49 (a7j (a3r (gC (.str "belt ")) (a3r (gUn oFmt (gVar 2)) (a3r (gC (.str " has fewer than ")) (a3r (gUn oFmt (gVar 6)) (a3r (gC (.str " cells")) gjNil)))))))
  gsNil))))
def a1r:GM:=runM 7 [false,true] a7r
abbrev b0x(P:Program)(w:World)(K:L2.FG)(mg:Str->Option Value)(base:Heap)(t:Adr):Prop:=FnOk P w K mg base (CX1 P w) 3 t.f3 t.d3 ["belts","taken"] (SpX K 2 a1r)
theorem b4k(T:Txt K mg t)(g4:a9o P w K mg base t):b0x P w K mg base t:=
 b1r (k:=2) [false,true] a7r T.F3.fn sc_check_belts rfl rfl (by decide) fun cdv A outer s H E hr=>(by
  exact⟨_,(a0t (b2z c8j (a0c (pv 0)) (c5m rfl (a5c (a1w (i:=2) sc_check_belts.nd rfl (Or.inl rfl)) (a5c (a1w (i:=3) sc_check_belts.nd rfl (Or.inl rfl)) (a5c (a1w (i:=4) sc_check_belts.nd rfl (Or.inl rfl)) (a5c (a1w (i:=5) sc_check_belts.nd rfl (Or.inl rfl)) c0c))))) (c6p (a5d a1x (a5d a1x (a5d a1x (a5d a1x c0k)))))
   (a0m (a8s (a7k T.F4 g4 hr.le a5o (a0b (a0c (pv 2)) (a0b (a0c (pv 1)) a0g)) (a0d (a0d a0o))))
   (a0m (a1y (i:=6) sc_check_belts.nd rfl (Or.inl rfl) (a1f (d9w (a6v (a0c (pv 4))) (a0s (d:=.int 2) a0e) (a0s (d:=.int 1) a0e))))
   (a0t (a4d (a3a d9a e0b (a0c (pv 3)) (a0c (pv 6)))
   (a0t (a8t (T.er.ix (i:=1) rfl).2.1 T.er.G0 (T.er.ix (i:=1) rfl).2.2.2 (T.er.ix (i:=1) rfl).1 a5o (b0l (a5b (a0s (d:=.str "belt ") a1g) (a5b (c8c (a0c (pv 2))) (a5b (a0s (d:=.str " has fewer than ") a1g) (a5b (c8c (a0c (pv 6))) (a5b (a0s (d:=.str " cells") a1g) c2t))))))))
   a2n)))))),rfl⟩)
theorem sc_check_hand:FnScope ["house","hand","name"] ["house"] (a0q a8d):=fnsc
def handB:GS:=(gsIf (gT (gBin (oInG true) (gVar 1) (gCall b0u (a0a (gVar 0) (a0a (gVar 2) gaNil)))))
  (a6s 73 (a7j (a3r (gC (.str "the hand can not be come to from belt ")) (a3r (gUn oFmt (gVar 2)) gjNil))))
  gsNil)
def a8h:GS:=a0l (gsSet 1 (gBin oIx (gBin oIx (gVar 0) (gC (.int 1))) (gC (.int 0)))) (gsFor (gCall a2t (a0a (gBin oIx (gVar 0) (gC (.int 0))) gaNil)) (a0p 2) handB)
def a3g:GM:=runM 3 [false] a8h
abbrev b2d(P:Program)(w:World)(K:L2.FG)(mg:Str->Option Value)(base:Heap)(t:Adr):Prop:=FnOk P w K mg base (CX1 P w) 3 t.f6 t.d6 ["house"] (SpX K 1 a3g)
theorem b7i(T:Txt K mg t)(g7:a6o P w K mg base t)(g8:b9k P w K mg base t):b2d P w K mg base t:=
 b1r (k:=2) [false] a8h T.F6.fn sc_check_hand rfl rfl (by decide) fun cdv A outer s H E hr=>(by
  have hu41:=a3o hr;exact⟨_,(a0m (a1y (i:=1) sc_check_hand.nd rfl (Or.inl rfl) (a1c (a3c K (by exact hu41)) a1d (a1c (a3c K (by exact hu41)) a1d (a0c (pv 0)) (a0s (d:=.int 1) a0e)) (a0s (d:=.int 0) a0e)))
   (a0t (b2z c8j (a2c T.F7 g7 hr.le (a0b (a1c (a3c K (by exact hu41)) a1d (a0c (pv 0)) (a0s (d:=.int 0) a0e)) a0g) (a0d a0o)) (a1w (i:=2) sc_check_hand.nd rfl (Or.inl rfl)) a1x
   (a0t (a4d (a3a (a9y K (by exact hu41)) (b4i true) (a0c (pv 1)) (a2c T.F8 g8 hr.le (a0b (a0c (pv 0)) (a0b (a0c (pv 2)) a0g)) (a0d (a0d a0o))))
   (a0t (a8t (T.er.ix (i:=3) rfl).2.1 T.er.G0 (T.er.ix (i:=3) rfl).2.2.2 (T.er.ix (i:=3) rfl).1 a5o (b0l (a5b (a0s (d:=.str "the hand can not be come to from belt ") a1g) (a5b (c8c (a0c (pv 2))) c2t)))))
   a2n))))),rfl⟩)
theorem sc_l_house:FnScope ["_law_feed_here","_law_many","_law_carts","_law_belts","_law_wide","_law_k","_law_ring","_law_long","_law_outs_here"] ["_law_feed_here"] (a0q a8e):=fnsc
def b3z:GS:=(a0l (gsSet 1 (gFrz (gCall a1v (a0a (gVar 0) (a0a (gC (.int 7)) gaNil)))))
 (a0l (gsSet 2 (a4v (srcR1 (a0a (gBin oAdd (gC (.int 1)) (gCall a1v (a0a (gVar 0) (a0a (gC (.int 4)) gaNil)))) gaNil)) (a0p 0) gYes (a7y a5g (a0a (gVar 1) (a0a (gBin oSub (gC (.int 11)) (gVar 0)) gaNil))) 1 [0]))
 (a0l (gsSet 3 (gSeq .lst gaNil))
 (a0l (gsSet 4 (gC (.int 0)))
 (a0l (gsIf (gT (gBin oLt (gVar 1) (gC (.int 3))))
  (gsSet 4 (gBin oMulA (gCall a1v (a0a (gVar 0) (a0a (gC (.int 2)) gaNil))) (gCall a1v (a0a (gVar 0) (a0a (gC (.int 20)) gaNil)))))
  gsNil)
 (a0l (b5z (a0a (gBin oSub (gVar 1) (gC (.int 1))) (a0a (gUn oNeg (gC (.int 1))) (a0a (gUn oNeg (gC (.int 1))) gaNil))) (a0p 5)
  (a0l (gsSet 6 (gBin oEq (gCall a1v (a0a (gVar 0) (a0a (gC (.int 3)) gaNil))) (gC (.int 0))))
 (a0l (gsSet 7 (gFrz (gBin oAdd (gBin oAdd (gBin oAdd (gC (.int 1)) (gOp oInt1 (a0a (gVar 6) gaNil))) (gCall a1v (a0a (gVar 0) (a0a (gC (.int 4)) gaNil)))) (gBin oMulA (gVar 4) (gOp oInt1 (a0a (gBin oEq (gVar 5) (gC (.int 0))) gaNil))))))
 (a0l (gsSet 8 (gCall b0v (a0a (gVar 0) (a0a (gFrz (gLend (a4v (srcL (gVar 3)) (a0p 0) gYes (gBin oIx (gVar 0) (gC (.int 0))) 1 []))) (a0a (gVar 2) gaNil)))))
 (a2s (gMut a4j (gVar 3) (a0a (gC (.int 0)) (a0a (gSeq .lst (a0a (a7y a5g (a0a (gVar 0) (a0a (gVar 5) gaNil))) (a0a (gVar 7) (a0a (gVar 6) (a0a (gMove (gVar 8)) gaNil))))) gaNil))))))))
 (gsRet (gSeq .lst (a0a (gMove (gVar 3)) (a0a (gMove (gVar 2)) gaNil))))))))))
def b0y:GM:=runM 9 [true] b3z
abbrev b9l(P:Program)(w:World)(K:L2.FG)(mg:Str->Option Value)(base:Heap)(t:Adr):Prop:=FnOk P w K mg base CX0 3 t.f13 t.d13 ["_law_feed_here"] (SpM K 1 b0y)
theorem c4x(T:Txt K mg t)(g10:b2r P w K mg base t)(g11:c3h P w K mg base t)(g12:c3j P w K mg base t):b9l P w K mg base t:=
 a6b (k:=2) [true] b3z T.F13.fn sc_l_house rfl rfl (by decide) fun cdv A outer s H E hr=>(by
  have hu40:=a7u hr;have hu41:=a3o hr;exact⟨_,(a0m (a1y (i:=1) sc_l_house.nd rfl (Or.inl rfl) (a1f (a2c T.F10 g10 hr.le (a0b (a0c (pv 0)) (a0b (a0s (d:=.int 7) a0e) a0g)) (a0d (a0d a0o)))))
   (a0m (c7s (i:=2) c2p (k:=1) (cap:=[0]) a1x (M:=["_law_k","_law_feed_here"]) (CompOk.of (a0q a8e).names ["_law_feed_here","_law_many","_law_carts","_law_belts","_law_wide","_law_k","_law_ring","_law_long","_law_outs_here"] (by decide +kernel)) sc_l_house.nd rfl (Or.inl rfl) (a7s (by rfl) T.b_range (a0b (a2b (a2p K) a4a (a0s (d:=.int 1) a0e) (a2c T.F10 g10 hr.le (a0b (a0c (pv 0)) (a0b (a0s (d:=.int 4) a0e) a0g)) (a0d (a0d a0o)))) a0g))
    (fun _ _ _ _=>(a1w (i:=0) (show List.Nodup (["_law_k","_law_feed_here"]:List Str) by decide +kernel) rfl (Or.inl rfl))) (fun _ _ _ _=>a7x) (fun _ _ _ _=>(b6k T.F11 g11 hr.le (a0b (a0c (pv 1)) (a0b (a2b c1r c2f (a0s (d:=.int 11) a0e) (a0c (pv 0))) a0g)) (a0d (a0d a0o)))))
   (a0m (a1y (i:=3) sc_l_house.nd rfl (Or.inl rfl) (a4s a0g))
   (a0m (a1y (i:=4) sc_l_house.nd rfl (Or.inl rfl) (a0s (d:=.int 0) a0e))
   (a0m (a4d (a3a d9a e0b (a0c (pv 1)) (a0s (d:=.int 3) a0e))
   (a0t (a1y (i:=4) sc_l_house.nd rfl (Or.inl rfl) (a2b a9f b3b (a2c T.F10 g10 hr.le (a0b (a0c (pv 0)) (a0b (a0s (d:=.int 2) a0e) a0g)) (a0d (a0d a0o))) (a2c T.F10 g10 hr.le (a0b (a0c (pv 0)) (a0b (a0s (d:=.int 20) a0e) a0g)) (a0d (a0d a0o))))))
   a2n)
   (a0m (c6r PassesOwn.never T.b_range (a0b (a2b c1r c2f (a0c (pv 1)) (a0s (d:=.int 1) a0e)) (a0b (d9t d3r d4b (a0s (d:=.int 1) a0e)) (a0b (d9t d3r d4b (a0s (d:=.int 1) a0e)) a0g))) (a1w (i:=5) sc_l_house.nd rfl (Or.inl rfl)) a1x
   (a0m (a1y (i:=6) sc_l_house.nd rfl (Or.inl rfl) (b4q (a4i K (by exact hu40)) a7e (a2c T.F10 g10 hr.le (a0b (a0c (pv 0)) (a0b (a0s (d:=.int 3) a0e) a0g)) (a0d (a0d a0o))) (a0s (d:=.int 0) a0e)))
   (a0m (a1y (i:=7) sc_l_house.nd rfl (Or.inl rfl) (a1f (a2b (a2p K) a4a (a2b (a2p K) a4a (a2b (a2p K) a4a (a0s (d:=.int 1) a0e) (a6u a9q b6i T.b_int c1x (a0b (a0c (pv 6)) a0g))) (a2c T.F10 g10 hr.le (a0b (a0c (pv 0)) (a0b (a0s (d:=.int 4) a0e) a0g)) (a0d (a0d a0o)))) (a2b a9f b3b (a0c (pv 4)) (a6u a9q b6i T.b_int c1x (a0b (b4q (a4i K (by exact hu40)) a7e (a0c (pv 5)) (a0s (d:=.int 0) a0e)) a0g))))))
   (a0m (a1y (i:=8) sc_l_house.nd rfl (Or.inl rfl) (a2c T.F12 g12 hr.le (a0b (a0c (pv 0)) (a0b (a1f (a9k (a7f b0c (k:=1) (cap:=[]) a1x (M:=["_law_belt"]) (CompOk.of (a0q a8e).names ["_law_feed_here","_law_many","_law_carts","_law_belts","_law_wide","_law_k","_law_ring","_law_long","_law_outs_here"] (by decide +kernel)) (a8m K (a1f (a0c (pv 3))))
    (fun _ _ _ _=>(a1w (i:=0) (show List.Nodup (["_law_belt"]:List Str) by decide +kernel) rfl (Or.inl rfl))) (fun _ _ _ _=>a7x) (fun _ _ _ _=>(a1c (a3c K (by exact hu41)) a1d (a0c (pv 0)) (a0s (d:=.int 0) a0e)))))) (a0b (a0c (pv 2)) a0g))) (a0d (a0d (a0d a0o)))))
   (a0t (a2v (a6c PySem.F.slot_list_insert PySem.F.type_list_insert a9r b0a (a0c (pv 3)) (a0b (a0s (d:=.int 0) a0e) (a0b (a4s (a0b (b6k T.F11 g11 hr.le (a0b (a0c (pv 0)) (a0b (a0c (pv 5)) a0g)) (a0d (a0d a0o))) (a0b (a0c (pv 7)) (a0b (a0c (pv 6)) (a0b (b1j (a0c (pv 8))) a0g))))) a0g)))))))))
   (a0t (a5j (a4s (a0b (b1j (a0c (pv 3))) (a0b (b1j (a0c (pv 2))) a0g))))))))))),rfl⟩)
theorem sc_l_spoil:FnScope ["_law_house_here","_law_spot","_law_c","_law_outs_here","_law_wrong"] ["_law_house_here","_law_spot","_law_c"] (a0q b3u):=fnsc
def spIf(t:Str)(f:GS):GS:=gsIf (gT (gBin oEq (gBin oIx (gVar 1) (gC (.int 0))) (gC (.str t)))) f gsNil
def sf1:GS:=a2s (gCall a2l (a0a (gVar 0) (a0a (gVar 1) (a0a (gVar 2) gaNil))))
def sf2:GS:=a2s (gMutC b3f 0 [1] [])
def sf3:GS:=b8z (gBin oSub (gLend (gOp oInt1 (a0a (gBin oIx (gBin oIx (gBin oIx (gVar 0) (gC (.int 0))) (gBin oIx (gVar 1) (gC (.int 2)))) (gC (.int 2))) gaNil))) (gBin oMod (gVar 2) (gC (.int 3)))) 0 (fpJ [0] (gBin oIx (gVar 1) (gC (.int 2))) []) (gC (.int 1))
def pk8:GE:=gPick (gSeq .lst (a0a (gBin oIx (gBin oIx (gBin oIx (gVar 0) (gC (.int 0))) (gBin oIx (gVar 1) (gC (.int 2)))) (gC (.int 0))) (a0a (gC (.str "nowhere")) (a0a (gC .non) (a0a (gBin oIx (gVar 3) (gC (.int 0))) (a0a (gBin oIx (gBin oIx (gBin oIx (gVar 0) (gC (.int 0))) (gC (.int 0))) (gC (.int 0))) (a0a (gSeq .lst gaNil) (a0a (gSeq .tup (a0a (gC (.str "a")) gaNil)) (a0a (gC (.int 7)) gaNil))))))))) (gBin oMod (gVar 2) (gC (.int 8)))
def bd4:GS:=a0l (a2s (gMut a4j (gVar 3) (a0a (gFrz (gBin oAdd (gC (.int 1)) (gBin oMod (gBin oFdiv (gVar 2) (gC (.int 5))) (gOp oLen (a0a (gVar 3) gaNil))))) (a0a (gFrz (gVar 4)) gaNil))))
 (gsIf (gT (gBin oEq (gBin oMod (gBin oFdiv (gVar 2) (gC (.int 5))) (gC (.int 4))) (gC (.int 0))))
  (a2s (gMut b3f (gVar 3) gaNil))
  gsNil)
def sf4:GS:=b2n 0 3 [0] (gBin oIx (gVar 1) (gC (.int 2))) [3] 4 pk8 bd4
def sf5:GS:=a0l (b3q 0 3 [0] (gBin oMod (gVar 2) (gOp oLen (a0a (gBin oIx (gVar 0) (gC (.int 0))) gaNil))) [3] (a0l (a2s (gMut b3f (gVar 3) gaNil)) (a2s (gMut a2w (gVar 3) (a0a (gC (.str "oddly")) gaNil))))) (a2s (gMutC a2w 0 [1] [.str "oddly"]))
def a6h:GS:=a0l (spIf "name" sf1) (a0l (spIf "hand" sf2) (a0l (spIf "size" sf3) (a0l (spIf "out" sf4) (spIf "far" sf5))))
def a0y:GM:=runM 5 [true,false,false] a6h
abbrev b9m(P:Program)(w:World)(K:L2.FG)(mg:Str->Option Value)(base:Heap)(t:Adr):Prop:=FnOk P w K mg base CX0 3 t.f17 t.d17 ["_law_house_here","_law_spot","_law_c"] (SpM K 3 a0y)
theorem c4y(T:Txt K mg t)(g16:a8z P w K mg base t):b9m P w K mg base t:=
 a6b (k:=2) [true,false,false] a6h T.F17.fn sc_l_spoil rfl rfl (by decide) fun cdv A outer s H E hr=>(by
  have hu40:=a7u hr;have hu41:=a3o hr;exact⟨_,(a0m (a4d (a3a (a4i K (by exact hu40)) a7e (a1c (a3c K (by exact hu41)) a1d (a0c (pv 1)) (a0s (d:=.int 0) a0e)) (a0s (d:=.str "name") a1g))
   (a0t (a2v (a2c T.F16 g16 hr.le (a0b (a0c (pv 0)) (a0b (a0c (pv 1)) (a0b (a0c (pv 2)) a0g))) (a0d (a0d (a0d a0o))))))
   a2n)
   (a0m (a4d (a3a (a4i K (by exact hu40)) a7e (a1c (a3c K (by exact hu41)) a1d (a0c (pv 1)) (a0s (d:=.int 0) a0e)) (a0s (d:=.str "hand") a1g))
   (a0t (a2v (d2b (π:=[1]) PySem.F.slot_list_clear PySem.F.type_list_clear b5s b6j (b8o (j:=1) (b1x (pv 0)) (by exact hu41)))))
   a2n)
   (a0m (a4d (a3a (a4i K (by exact hu40)) a7e (a1c (a3c K (by exact hu41)) a1d (a0c (pv 1)) (a0s (d:=.int 0) a0e)) (a0s (d:=.str "size") a1g))
   (a0t (c0y (a2b c1r c2f (a9k (a6u a9q b6i T.b_int c1x (a0b (a1c (a3c K (by exact hu41)) a1d (a1c (a3c K (by exact hu41)) a1d (a1c (a3c K (by exact hu41)) a1d (a0c (pv 0)) (a0s (d:=.int 0) a0e)) (a1c (a3c K (by exact hu41)) a1d (a0c (pv 1)) (a0s (d:=.int 2) a0e))) (a0s (d:=.int 2) a0e)) a0g))) (a2b a5i a5k (a0c (pv 2)) (a0s (d:=.int 3) a0e))) (dpj0 (b8o (j:=0) (b1x (pv 0)) (by exact hu41)) (a1c (a3c K (by exact hu41)) a1d (a0c (pv 1)) (a0s (d:=.int 2) a0e)) (by exact hu41)) pathJ (a0s (d:=.int 1) a0e) (by exact hu41)))
   a2n)
   (a0m (a4d (a3a (a4i K (by exact hu40)) a7e (a1c (a3c K (by exact hu41)) a1d (a0c (pv 1)) (a0s (d:=.int 0) a0e)) (a0s (d:=.str "out") a1g))
   (c8x (m':=[true,false,false,true,false]) sc_l_spoil.nd rfl (Or.inl rfl) (dpjS (k:=3) (dpj0 (b8o (j:=0) (b1x (pv 0)) (by exact hu41)) (a1c (a3c K (by exact hu41)) a1d (a0c (pv 1)) (a0s (d:=.int 2) a0e)) (by exact hu41)) (by exact hu41)) rfl (Or.inl rfl) (d7d (by exact hu41) (a4s (a0b (a1c (a3c K (by exact hu41)) a1d (a1c (a3c K (by exact hu41)) a1d (a1c (a3c K (by exact hu41)) a1d (a0c (pv 0)) (a0s (d:=.int 0) a0e)) (a1c (a3c K (by exact hu41)) a1d (a0c (pv 1)) (a0s (d:=.int 2) a0e))) (a0s (d:=.int 0) a0e)) (a0b (a0s (d:=.str "nowhere") a1g) (a0b (a0s (d:=.non) d3n) (a0b (a1c (a3c K (by exact hu41)) a1d (a0c (pv 3)) (a0s (d:=.int 0) a0e)) (a0b (a1c (a3c K (by exact hu41)) a1d (a1c (a3c K (by exact hu41)) a1d (a1c (a3c K (by exact hu41)) a1d (a0c (pv 0)) (a0s (d:=.int 0) a0e)) (a0s (d:=.int 0) a0e)) (a0s (d:=.int 0) a0e)) (a0b (a4s a0g) (a0b (a8w (a0b (a0s (d:=.str "a") a1g) a0g)) (a0b (a0s (d:=.int 7) a0e) a0g))))))))) (a2b a5i a5k (a0c (pv 2)) (a0s (d:=.int 8) a0e)))
   (a0m (a2v (a6c PySem.F.slot_list_insert PySem.F.type_list_insert a9r b0a (a0c (pv 3)) (a0b (a1f (a2b (a2p K) a4a (a0s (d:=.int 1) a0e) (a2b a5i a5k (a2b a9a a9e (a0c (pv 2)) (a0s (d:=.int 5) a0e)) (a2g (a2d K) a4u T.b_len a4q (a0b (a0c (pv 3)) a0g))))) (a0b (a1f (a0c (pv 4))) a0g))))
   (a0t (a4d (a3a (a4i K (by exact hu40)) a7e (a2b a5i a5k (a2b a9a a9e (a0c (pv 2)) (a0s (d:=.int 5) a0e)) (a0s (d:=.int 4) a0e)) (a0s (d:=.int 0) a0e))
   (a0t (a2v (c7m PySem.F.slot_list_clear PySem.F.type_list_clear b5s b6j (a0c (pv 3)))))
   a2n))) (by intro j h;rcases j with _|_|_|j <;> first|exact⟨rfl,by decide⟩|exact⟨rfl,by decide,by decide⟩|cases h))
   a2n)
   (a0t (a4d (a3a (a4i K (by exact hu40)) a7e (a1c (a3c K (by exact hu41)) a1d (a0c (pv 1)) (a0s (d:=.int 0) a0e)) (a0s (d:=.str "far") a1g))
   (c9b (m':=[true,false,false,true,false]) sc_l_spoil.nd rfl (Or.inl rfl) (dpjS (k:=3) (dpj0 (b8o (j:=0) (b1x (pv 0)) (by exact hu41)) (a2b a5i a5k (a0c (pv 2)) (a2g (a2d K) a4u T.b_len a4q (a0b (a1c (a3c K (by exact hu41)) a1d (a0c (pv 0)) (a0s (d:=.int 0) a0e)) a0g))) (by exact hu41)) (by exact hu41)) (a2v (c7m PySem.F.slot_list_clear PySem.F.type_list_clear b5s b6j (a0c (pv 3)))) (a2v (a6c PySem.F.slot_list_append PySem.F.type_list_append a3t a3w (a0c (pv 3)) (a0b (a0s (d:=.str "oddly") a1g) a0g)))
   (a0t (a2v (d6p (π:=[1]) (ds:=[.str "oddly"]) (vs:=[.str "oddly"]) PySem.F.slot_list_append PySem.F.type_list_append a3t a3w (b8o (j:=1) (b1x (pv 0)) (by exact hu41)) (b2v a1g pa_nil) rfl (fun _ _ _ h=>h)))) (by intro j h;rcases j with _|_|_|j <;> first|exact⟨rfl,by decide⟩|exact⟨rfl,by decide,by decide⟩|cases h))
   a2n)))))),rfl⟩)
theorem sc_right_house:FnScope ["house","belts","carts","taken"] ["house"] (a0q a7n):=fnsc
def a3l:GS:=(a0l (gsSet 1 (gBin oIx (gVar 0) (gC (.int 0))))
 (a0l (gsSet 2 (gBin oIx (gVar 0) (gC (.int 1))))
 (a0l (gsSet 3 c2b)
 (a0l (a6r (gCall a1l (a0a (gVar 2) (a0a (gVar 3) gaNil))))
 (a0l (a6r (gCall a1r (a0a (gVar 1) (a0a (gVar 3) gaNil))))
 (a0l (a6r (gCall a2k (a0a (gVar 1) (a0a (gVar 2) gaNil))))
 (a0l (a6r (gCall a3g (a0a (gVar 0) gaNil)))
 (c2d (gC (.bl true))))))))))
def a1a:GM:=runM 4 [false] a3l
abbrev b0z(P:Program)(w:World)(K:L2.FG)(mg:Str->Option Value)(base:Heap)(t:Adr):Prop:=FnOk P w K mg base (CX1 P w) 4 t.f1 t.d1 ["house"] (SpX K 1 a1a)
theorem b4l(T:Txt K mg t)(g3:b0x P w K mg base t)(g2:b0w P w K mg base t)(g6:b2d P w K mg base t)(g5:b2c P w K mg base t):b0z P w K mg base t:=
 b1r (k:=3) [false] a3l T.F1.fn sc_right_house rfl rfl (by decide) fun cdv A outer s H E hr=>(by
  have hu41:=a3o hr;exact⟨_,(a0m (a1y (i:=1) sc_right_house.nd rfl (Or.inl rfl) (a1c (a3c K (by exact hu41)) a1d (a0c (pv 0)) (a0s (d:=.int 0) a0e)))
   (a0m (a1y (i:=2) sc_right_house.nd rfl (Or.inl rfl) (a1c (a3c K (by exact hu41)) a1d (a0c (pv 0)) (a0s (d:=.int 1) a0e)))
   (a0m (a1y (i:=3) sc_right_house.nd rfl (Or.inl rfl) c2c)
   (a0m (a8s (a7k T.F2 g2 hr.le a5o (a0b (a0c (pv 2)) (a0b (a0c (pv 3)) a0g)) (a0d (a0d a0o))))
   (a0m (a8s (a7k T.F3 g3 hr.le a5o (a0b (a0c (pv 1)) (a0b (a0c (pv 3)) a0g)) (a0d (a0d a0o))))
   (a0m (a8s (a7k T.F5 g5 hr.le a5o (a0b (a0c (pv 1)) (a0b (a0c (pv 2)) a0g)) (a0d (a0d a0o))))
   (a0m (a8s (a7k T.F6 g6 hr.le a5o (a0b (a0c (pv 0)) a0g) (a0d a0o)))
   (a0t (d6a (a0s (d:=.bl true) b7p)))))))))),rfl⟩)
theorem sc_l_word:FnScope ["_law_house_here","_law_words","e"] ["_law_house_here"] (a0q b6z):=fnsc
def b7j:GS:=(a0l (gsSet 1 (gSeq .lst gaNil))
 (a0l (gsTry (gsXIf (gCall a1a (a0a (gVar 0) gaNil))
  (a2s (gMut a2w (gVar 1) (a0a (gC (.str "right")) gaNil)))) [(some 2,wT errCs,(a0l (gsIf (gTru (gUn (oIsiX (wE errCs 37)) (gVar 2)))
  (a2s (gMut a2w (gVar 1) (a0a (gC (.str "name")) gaNil)))
  gsNil)
 (a0l (gsIf (gTru (gUn (oIsiX (wE errCs 49)) (gVar 2)))
  (a2s (gMut a2w (gVar 1) (a0a (gC (.str "size")) gaNil)))
  gsNil)
 (a0l (gsIf (gTru (gUn (oIsiX (wE errCs 61)) (gVar 2)))
  (a2s (gMut a2w (gVar 1) (a0a (gC (.str "out")) gaNil)))
  gsNil)
 (a0l (gsIf (gTru (gUn (oIsiX (wE errCs 73)) (gVar 2)))
  (a2s (gMut a2w (gVar 1) (a0a (gC (.str "hand")) gaNil)))
  gsNil)
 (gsIf (gNotT (gTru (gUn (oIsiX (wT errCs)) (gVar 2))))
  (a2s (gMut a2w (gVar 1) (a0a (gC (.str "odd")) gaNil)))
  gsNil))))))])
 (gsRet (gMove (gVar 1)))))
def b2s:GM:=runM 3 [false] b7j
abbrev c3k(P:Program)(w:World)(K:L2.FG)(mg:Str->Option Value)(base:Heap)(t:Adr):Prop:=FnOk P w K mg base CX0 5 t.f19 t.d19 ["_law_house_here"] (SpM K 1 b2s)
theorem c9m(T:Txt K mg t)(g1:b0z P w K mg base t):c3k P w K mg base t:=
 a6b (k:=4) [false] b7j T.F19.fn sc_l_word rfl rfl (by decide) fun cdv A outer s H E hr=>(by
  exact⟨_,(a0m (a1y (i:=1) sc_l_word.nd rfl (Or.inl rfl) (a4s a0g))
   (a0m (e0j (fun _ _ _ hp=>(a0t (e0l (a7k T.F1 g1 hr.le hp (a0b (a0c (pv 0)) a0g) (a0d a0o))
   (a0t (a2v (a6c PySem.F.slot_list_append PySem.F.type_list_append a3t a3w (a0c (pv 1)) (a0b (a0s (d:=.str "right") a1g) a0g))))))) (d6y T.er.mg0 T.er.xB (e1r (i:=2) sc_l_word.nd rfl rfl fun _=>(a0m (a4d (a6v (b3n (T.er.wE (c:=37) rfl rfl) T.b_isinstance (a0c (pv 2)) (b1d (v:=.ref 37) (by rfl) (T.er.ix (i:=0) rfl).1 rfl) (fun _ r=>r)))
   (a0t (a2v (a6c PySem.F.slot_list_append PySem.F.type_list_append a3t a3w (a0c (pv 1)) (a0b (a0s (d:=.str "name") a1g) a0g))))
   a2n)
   (a0m (a4d (a6v (b3n (T.er.wE (c:=49) rfl rfl) T.b_isinstance (a0c (pv 2)) (b1d (v:=.ref 49) (by rfl) (T.er.ix (i:=1) rfl).1 rfl) (fun _ r=>r)))
   (a0t (a2v (a6c PySem.F.slot_list_append PySem.F.type_list_append a3t a3w (a0c (pv 1)) (a0b (a0s (d:=.str "size") a1g) a0g))))
   a2n)
   (a0m (a4d (a6v (b3n (T.er.wE (c:=61) rfl rfl) T.b_isinstance (a0c (pv 2)) (b1d (v:=.ref 61) (by rfl) (T.er.ix (i:=2) rfl).1 rfl) (fun _ r=>r)))
   (a0t (a2v (a6c PySem.F.slot_list_append PySem.F.type_list_append a3t a3w (a0c (pv 1)) (a0b (a0s (d:=.str "out") a1g) a0g))))
   a2n)
   (a0m (a4d (a6v (b3n (T.er.wE (c:=73) rfl rfl) T.b_isinstance (a0c (pv 2)) (b1d (v:=.ref 73) (by rfl) (T.er.ix (i:=3) rfl).1 rfl) (fun _ r=>r)))
   (a0t (a2v (a6c PySem.F.slot_list_append PySem.F.type_list_append a3t a3w (a0c (pv 1)) (a0b (a0s (d:=.str "hand") a1g) a0g))))
   a2n)
   (a0t (a4d (b4r (a6v (b3n T.er.wV T.b_isinstance (a0c (pv 2)) (c5k (v:=.ty "ValueError") (by rfl) T.b_ValueError e1q rfl) (fun _ r=>r))))
   (a0t (a2v (a6c PySem.F.slot_list_append PySem.F.type_list_append a3t a3w (a0c (pv 1)) (a0b (a0s (d:=.str "odd") a1g) a0g))))
   a2n))))))) e0i))
   (a0t (a5j (b1j (a0c (pv 1))))))),rfl⟩)
theorem sc_law:FnScope ["_law_script","_law_feed_here","_law_house_here","_law_spots_here","_law_picked","_law_due","_law_k","_law_handed","_law_kept"] ["_law_script"] (a0q c9e):=fnsc
def d7i:GS:=(a0l (gsSet 1 (gCall b2q (a0a (gVar 0) gaNil)))
 (a0l (gsPut (gFrz (gCall a1v (a0a (gVar 1) (a0a (gC (.int 12)) gaNil)))) (gVar 1) (gC (.int 2)))
 (a0l (gsSet 2 (gCall b0y (a0a (gVar 1) gaNil)))
 (a0l (gsSet 3 (gFrz (gCall b0s (a0a (gVar 2) gaNil))))
 (a0l (gsSet 4 (gFrz (a4v (srcR1 (a0a (gCall a1v (a0a (gVar 1) (a0a (gC (.int 3)) gaNil))) gaNil)) (a0p 0) gYes (gFrz (gCall a1v (a0a (gVar 1) (a0a (gOp oLen (a0a (gVar 2) gaNil)) gaNil)))) 1 [1,3])))
 (a0l (gsSet 5 (gC (.str "right")))
 (a0l (gsFor (gOp b5e (a0a (a4v (srcR1 (a0a (gOp oLen (a0a (gVar 3) gaNil)) gaNil)) (a0p 0) (gT (gBin (oInG false) (gVar 0) (gVar 1))) (gVar 0) 1 [4]) gaNil)) (a0p 6)
  (a0l (gsIf (gOrT (gT (gBin oEq (gBin oIx (gBin oIx (gVar 3) (gVar 6)) (gC (.int 1))) (gC (.int 0)))) (gT (gBin oGt (gLend (gOp oLen (a0a (gBin oIx (gVar 2) (gC (.int 1))) gaNil))) (gC (.int 0)))))
  (a0l (a2s (gCall a0y (a0a (gVar 2) (a0a (gBin oIx (gVar 3) (gVar 6)) (a0a (gFrz (gCall a1v (a0a (gVar 1) (a0a (gC (.int 1000003)) gaNil)))) gaNil)))))
 (gsSet 5 (gBin oIx (gBin oIx (gVar 3) (gVar 6)) (gC (.int 0)))))
  gsNil)
 (gsIf (gT (gBin oEq (gVar 5) (gC (.str "far"))))
  (gsSet 5 (gC (.str "hand")))
  gsNil)))
 (a0l (gsSet 7 (gFrz (gCall b0t (a0a (gFrz (gVar 2)) gaNil))))
 (a0l (gsSet 8 (gFrz (gCall b0t (a0a (gFrz (gVar 2)) gaNil))))
 (gsRet (gAndV (gBin oEq (gCall b2s (a0a (gVar 7) gaNil)) (gSeq .lst (a0a (gVar 5) gaNil))) (gBin oEq (gVar 7) (gVar 8)))))))))))))
def d7j:GM:=runM 9 [false] d7i
theorem e0m(T:Txt K mg t)(g10:b2r P w K mg base t)(g9:c3g P w K mg base t)(g13:b9l P w K mg base t)(g18:c3i P w K mg base t)(g17:b9m P w K mg base t)(g14:b9g P w K mg base t)(g19:c3k P w K mg base t):FnOk P w K mg base CX0 6 t.f20 t.d20 ["_law_script"] (SpM K 1 d7j):=
 a6b (k:=5) [false] d7i T.F20.fn sc_law rfl rfl (by decide) fun cdv A outer s H E hr=>(by
  have hu40:=a7u hr;have hu41:=a3o hr;exact⟨_,(a0m (a1y (i:=1) sc_law.nd rfl (Or.inr rfl) (a2c T.F9 g9 hr.le (a0b (a0c (pv 0)) a0g) (a0d a0o)))
   (a0m (b8n (a1f (a2c T.F10 g10 hr.le (a0b (a0c (pv 1)) (a0b (a0s (d:=.int 12) a0e) a0g)) (a0d (a0d a0o)))) (a0c (pv 1)) (a0s (d:=.int 2) a0e) (by exact hu41))
   (a0m (a1y (i:=2) sc_law.nd rfl (Or.inl rfl) (a2c T.F13 g13 hr.le (a0b (a0c (pv 1)) a0g) (a0d a0o)))
   (a0m (a1y (i:=3) sc_law.nd rfl (Or.inr rfl) (a1f (a2c T.F14 g14 hr.le (a0b (a0c (pv 2)) a0g) (a0d a0o))))
   (a0m (a1y (i:=4) sc_law.nd rfl (Or.inr rfl) (a1f (a7f c2p (k:=1) (cap:=[1,3]) a1x (M:=["_law_t","_law_feed_here","_law_spots_here"]) (CompOk.of (a0q c9e).names ["_law_script","_law_feed_here","_law_house_here","_law_spots_here","_law_picked","_law_due","_law_k","_law_handed","_law_kept"] (by decide +kernel)) (a7s (by rfl) T.b_range (a0b (a2c T.F10 g10 hr.le (a0b (a0c (pv 1)) (a0b (a0s (d:=.int 3) a0e) a0g)) (a0d (a0d a0o))) a0g))
    (fun _ _ _ _=>(a1w (i:=0) (show List.Nodup (["_law_t","_law_feed_here","_law_spots_here"]:List Str) by decide +kernel) rfl (Or.inl rfl))) (fun _ _ _ _=>a7x) (fun _ _ _ _=>(a1f (a2c T.F10 g10 hr.le (a0b (a0c (pv 1)) (a0b (a2g (a2d K) a4u T.b_len a4q (a0b (a0c (pv 2)) a0g)) a0g)) (a0d (a0d a0o))))))))
   (a0m (a1y (i:=5) sc_law.nd rfl (Or.inl rfl) (a0s (d:=.str "right") a1g))
   (a0m (b2z PassesOwn.never (d2v T.b_sorted (a0b (a7f c2p (k:=1) (cap:=[4]) a1x (M:=["_law_k","_law_picked"]) (CompOk.of (a0q c9e).names ["_law_script","_law_feed_here","_law_house_here","_law_spots_here","_law_picked","_law_due","_law_k","_law_handed","_law_kept"] (by decide +kernel)) (a7s (by rfl) T.b_range (a0b (a2g (a2d K) a4u T.b_len a4q (a0b (a0c (pv 3)) a0g)) a0g))
    (fun _ _ _ _=>(a1w (i:=0) (show List.Nodup (["_law_k","_law_picked"]:List Str) by decide +kernel) rfl (Or.inl rfl))) (fun _ _ _ _=>(c0q (a3a (b4t K (by exact hu41)) (b4i false) (a0c (pv 0)) (a0c (pv 1))))) (fun _ _ _ _=>(a0c (pv 0)))) a0g)) (a1w (i:=6) sc_law.nd rfl (Or.inl rfl)) a1x
   (a0m (a4d (PW.pt (d5z (a3a (a4i K (by exact hu40)) a7e (a1c (a3c K (by exact hu41)) a1d (a1c (a3c K (by exact hu41)) a1d (a0c (pv 3)) (a0c (pv 6))) (a0s (d:=.int 1) a0e)) (a0s (d:=.int 0) a0e)) (c6o (a3a d5h d6g (a9k (a2g (a2d K) a4u T.b_len a4q (a0b (a1c (a3c K (by exact hu41)) a1d (a0c (pv 2)) (a0s (d:=.int 1) a0e)) a0g))) (a0s (d:=.int 0) a0e)))))
   (a0m (a2v (a2c T.F17 g17 hr.le (a0b (a0c (pv 2)) (a0b (a1c (a3c K (by exact hu41)) a1d (a0c (pv 3)) (a0c (pv 6))) (a0b (a1f (a2c T.F10 g10 hr.le (a0b (a0c (pv 1)) (a0b (a0s (d:=.int 1000003) a0e) a0g)) (a0d (a0d a0o)))) a0g))) (a0d (a0d (a0d a0o)))))
   (a0t (a1y (i:=5) sc_law.nd rfl (Or.inl rfl) (a1c (a3c K (by exact hu41)) a1d (a1c (a3c K (by exact hu41)) a1d (a0c (pv 3)) (a0c (pv 6))) (a0s (d:=.int 0) a0e)))))
   a2n)
   (a0t (a4d (a3a (a4i K (by exact hu40)) a7e (a0c (pv 5)) (a0s (d:=.str "far") a1g))
   (a0t (a1y (i:=5) sc_law.nd rfl (Or.inl rfl) (a0s (d:=.str "hand") a1g)))
   a2n))))
   (a0m (a1y (i:=7) sc_law.nd rfl (Or.inl rfl) (a1f (a2c T.F18 g18 hr.le (a0b (a1f (a0c (pv 2))) a0g) (a0d a0o))))
   (a0m (a1y (i:=8) sc_law.nd rfl (Or.inl rfl) (a1f (a2c T.F18 g18 hr.le (a0b (a1f (a0c (pv 2))) a0g) (a0d a0o))))
   (a0t (a5j (d9y (b4q (a4i K (by exact hu40)) a7e (a2c T.F19 g19 hr.le (a0b (a0c (pv 7)) a0g) (a0d a0o)) (a4s (a0b (a0c (pv 5)) a0g))) (d9x (b4q (a4i K (by exact hu40)) a7e (a0c (pv 7)) (a0c (pv 8)))))))))))))))),rfl⟩)
end
end Carry
namespace Carry
open PySem L2
variable{i n:Nat}
def feedL(F:Feed):List O:=[.frz (.lst (F.ns.map .int)),.frz (.int F.pl),.frz (.int F.style),.frz (.int F.mode),.frz (.int F.num)]
abbrev feedT(F:Feed):O:=.lst (feedL F)
def feed0(ns:List Int):Feed:=⟨ns,0,0,ns.getD 0 0 % 2,ns.getD 1 0⟩
theorem c3l(ds:List D)(n:Nat):cutD ds none (some (n:Int))=ds.take n:=by
 unfold cutD;have e1:HT.sIx ds.length 0 none=0:=rfl;have e2:HT.sIx ds.length ds.length (some (n:Int))=min n ds.length:=by
  unfold HT.sIx;simp;try omega
 rw[e1,e2];simp only[List.drop_zero,Nat.sub_zero];rw[List.take_eq_take_iff];omega
theorem cut2(ds:List D):cutD ds none (some 2)=ds.take 2:=c3l ds 2
theorem e0n(ds:List D):cutD ds none (some 120)=ds.take 120:=c3l ds 120
theorem ix54:ixN 5 4=some 4:=by decide
theorem ix51:ixN 5 1=some 1:=by decide
theorem ix52:ixN 5 2=some 2:=by decide
theorem at0(ns:List Int):atI ((ns.map D.int).take 2++[D.int 0,D.int 0]) 0=some (.int (ns.getD 0 0)):=by
 refine a3i (j:=0) ?_
 match ns with
 |[]=>rfl
 |[x]=>rfl
 |x::y::r=>rfl
theorem at1(ns:List Int):atI ((ns.map D.int).take 2++[D.int 0,D.int 0]) 1=some (.int (ns.getD 1 0)):=by
 refine a3i (j:=1) ?_
 match ns with
 |[]=>rfl
 |[x]=>rfl
 |x::y::r=>rfl
theorem qq0{α:Type _}{a:α}{l:List α}:(a::l)[0]?=some a:=rfl
theorem qq1{α:Type _}{a:α}{l:List α}:(a::l)[i+1]?=l[i]?:=rfl
theorem qq2{α:Type _}{a:α}{l:List α}:(a::l).length=l.length+1:=rfl
theorem qq3{α:Type _}:([]:List α).length=0:=rfl
theorem qq4{α:Type _}{x a:α}{l:List α}:(x::l).set 0 a=a::l:=rfl
theorem qq5{α:Type _}{x a:α}{l:List α}:(x::l).set (n+1) a=x::l.set n a:=rfl
theorem qq6{α β:Type _}{f:α->β}{a:α}{l:List α}:(a::l).map f=f a::l.map f:=rfl
theorem qq7{α β:Type _}{f:α->β}:([]:List α).map f=[]:=rfl
theorem qq8{α:Type _}{a:α}:List.replicate 0 a=[]:=rfl
theorem qq9{α:Type _}{a:α}:List.replicate (n+1) a=a::List.replicate n a:=rfl
theorem qqa{α:Type _}{a:α}{l:List α}:(a::l).take (i+1)=a::l.take i:=rfl
theorem qqb{α:Type _}{a:α}{l r:List α}:(a::l)++r=a::(l++r):=rfl
theorem qqc{α:Type _}(l:List α):[]++l=l:=rfl
theorem qqd{α:Type _}{l:List α}:l.take 0=[]:=rfl
theorem qqe:(false=true)=False:=Bool.false_eq_true
theorem qqf(n:Nat):0+n=n:=Nat.zero_add n
theorem e0o(ns:List Int)(h:ns.length<=63):b2q [.frz (.scr ns)]=some (feedT (feed0 ns),[none]):=by
 have c1:(min 2 ns.length<=999998)=True:=eq_true (by omega)
 have c2:(ns.map D.int).take 120=ns.map D.int:=List.take_of_length_le (by rw[List.length_map];omega)
 unfold b2q b7c;simp only[a1n,qq6,qq7,qq2,qq3,qqf,Nat.reduceSub,qq9,qq8,qqb,qqc,a0r,a1t,a1j,a1e,a0f,a7g,a0n,qq0,↓evBind,a9h,a9i,a3s,a9j,↓evMap,a0i,c7y,cut2,a3f,a0h,Nat.reduceAdd,Nat.reduceLeDiff,a1h,a1b,if_true,a0k,a0j,c7w,b3k,a5s,d4k,d4j,List.length_take,List.length_map,c1,a5a,b1y,Nat.reduceLT,qq5,qq4,a3p,e0n,c2,qq1,a3e,a4b,at0,a3d,Int.reduceLT,decide_true,at1,a3x,qqa,qqd,a2y,a2o];rfl
theorem e0p(F:Feed)(m:Int)(h0:0 < m)(h1:m < 1073741824)(hp:0<=F.pl)(hl:F.ns.length<=63):a1v [feedT F,.frz (.int m)]=some (.frz (.int (drawV F m)),[some (feedT (drawF F m)),none]):=by
 unfold a1v b7d feedT feedL;by_cases hm:F.mode=1
 ·have e1:drawV F m=F.num % m:=by unfold drawV;rw[if_pos hm]
  have e2:drawF F m={ F with num:=F.num / m}:=by unfold drawF;rw[if_pos hm]
  rw[e1,e2];simp only[hm,a1n,qq6,qq7,qq2,qq3,qqf,Nat.reduceAdd,Nat.reduceSub,qq9,qq8,qqb,qqc,a0r,a1m,a5z,a1e,a0f,a0n,qq0,↓evBind,a3s,a0h,a0k,a2x,Option.join_some,a0i,a0j,a3e,a8a,b0g,a4l,a4p,a1o,a3k,and_self,a4n,beq_self_eq_true,if_true,a1t,b6n,qq1,a3d,h0,decide_true,Nat.reduceLT,qq5,qq4,b4w,h1,c0r,ix54,↓evMap,a3p,a1p,a3x,qqa,qqd,a5m,a2y,a2o]
 ·have hm':(F.mode == 1)=false:=by simpa using hm
  have e1:drawV F m=(cellOf F * 48271+31 * F.pl) % 1000003 * 69621 % 999983 % m:=by unfold drawV;rw[if_neg hm]
  have e2:drawF F m={ F with pl:=F.pl+1}:=by unfold drawF;rw[if_neg hm]
  rw[e1,e2];have m1:∀x:Int,((-(2 ^ 64) < x/\x < 2 ^ 64\/(-(2 ^ 64):Int) < 31/\(31:Int) < 2 ^ 64)=True):=fun x=>eq_true (.inr ⟨by decide,by decide⟩)
  have m2:∀x:Int,((-(2 ^ 64) < x/\x < 2 ^ 64\/(-(2 ^ 64):Int) < 48271/\(48271:Int) < 2 ^ 64)=True):=fun x=>eq_true (.inr ⟨by decide,by decide⟩)
  have m3:∀x:Int,((-(2 ^ 64) < x/\x < 2 ^ 64\/(-(2 ^ 64):Int) < 69621/\(69621:Int) < 2 ^ 64)=True):=fun x=>eq_true (.inr ⟨by decide,by decide⟩)
  have m4:∀x:Int,(((-(2 ^ 64):Int) < 31/\(31:Int) < 2 ^ 64 \/ -(2 ^ 64) < x/\x < 2 ^ 64)=True):=fun x=>eq_true (.inl ⟨by decide,by decide⟩)
  by_cases hc:(0:Int) < F.ns.length
  ·have hs:(F.ns.length:Int) < 1073741824:=by omega
   have hmod:0<=F.pl % (F.ns.length:Int)/\F.pl % (F.ns.length:Int) < F.ns.length:=⟨Int.emod_nonneg _ (by omega),Int.emod_lt_of_pos _ hc⟩
   have hat:atI (F.ns.map D.int) (F.pl % (F.ns.length:Int))=some (.int (F.ns.getD (F.pl % F.ns.length).toNat 0)):=by
    have hk':(F.pl % (F.ns.length:Int)).toNat < F.ns.length:=by omega
    have e:(F.ns.map D.int)[(F.pl % (F.ns.length:Int)).toNat]?=some (.int (F.ns.getD (F.pl % F.ns.length).toNat 0)):=by simp[hk']
    have z:=a3i e
    rwa [show(((F.pl % (F.ns.length:Int)).toNat:Nat):Int)=F.pl % (F.ns.length:Int) by omega] at z
   have ec:cellOf F=F.ns.getD (F.pl % F.ns.length).toNat 0+F.pl / F.ns.length * 31:=by unfold cellOf;rw[if_pos (by omega)]
   rw[ec];simp only[a1n,qq6,qq7,qq2,qq3,qqf,Nat.reduceAdd,Nat.reduceSub,qq9,qq8,qqb,qqc,a0r,a1m,a5z,a1e,a0f,a0n,qq0,↓evBind,a3s,a0h,a0k,a2x,Option.join_some,a0i,a0j,a3e,a8a,b0g,a4l,a4p,a1o,a3k,and_self,a4n,hm',if_true,qqe,a1t,b6n,qq1,a3d,h0,decide_true,Nat.reduceLT,qq5,qq4,b4w,h1,c0r,↓evMap,a1p,if_false,a3q,a1j,a4c,ix51,a2i,a4m,a3j,List.length_map,hc,a4b,hat,hs,b6m,m1,a3p,m2,m4,Int.reduceLT,m3,a3x,qqa,qqd,a5m,a2y,a2o]
  ·have ec:cellOf F=F.pl:=by unfold cellOf;rw[if_neg (by omega)]
   rw[ec];simp only[a1n,qq6,qq7,qq2,qq3,qqf,Nat.reduceAdd,Nat.reduceSub,qq9,qq8,qqb,qqc,a0r,a1m,a5z,a1e,a0f,a0n,qq0,↓evBind,a3s,a0h,a0k,a2x,Option.join_some,a0i,a0j,a3e,a8a,b0g,a4l,a4p,a1o,a3k,and_self,a4n,hm',if_true,qqe,a1t,b6n,qq1,a3d,h0,decide_true,Nat.reduceLT,qq5,qq4,b4w,h1,c0r,↓evMap,a1p,if_false,a3q,a1j,a4c,ix51,a2i,a4m,a3j,List.length_map,hc,decide_false,a3p,b6m,m2,m4,Int.reduceLT,m3,a3x,qqa,qqd,a5m,a2y,a2o]
end Carry
namespace L2
theorem b7k{g:GG}{f:GS}(P:Nat->Gm->Prop):∀(ds:List D) (i:Nat) (Γ:Gm),P i Γ->(∀j Γ d,ds[j]?=some d->P (i+j) Γ->∃Γ2,(g d Γ).bind f=some (.nx,Γ2)/\P (i+j+1) Γ2)->∃Γ',a2a g f ds Γ=some (.nx,Γ')/\P (i+ds.length) Γ'
 |[],i,Γ,h,_=>⟨Γ,rfl,h⟩
 |d::ds,i,Γ,h,st=>by
  obtain⟨Γ2,h2,h3⟩:=st 0 Γ d rfl h;obtain⟨Γ',h4,h5⟩:=b7k P ds (i+1) Γ2 h3 fun j Γ d' e p=>by
   obtain⟨Γ2,b,c⟩:=st (j+1) Γ d' (by simpa using e) (by rw[show i+(j+1)=i+1+j by omega];exact p)
   exact⟨Γ2,b,by rw[show i+1+j+1=i+(j+1)+1 by omega];exact c⟩
  refine⟨Γ',?_,by rw[List.length_cons,show i+(ds.length+1)=i+1+ds.length by omega];exact h5⟩
  rw[a5v];cases q:g d Γ with
  |none=>rw[q] at h2;cases h2
  |some Γ1=>
   rw[q] at h2;have h2:f Γ1=some (.nx,Γ2):=h2;show(f Γ1).bind _=_;rw[h2];exact h4
end L2
namespace Carry
open PySem L2
variable{xs later ks pre gc L:List Str}{k i:Int}{F:Feed}{p:Feed×List Str}{y n b x nm due:Str}{r:List Belt}{g:Belt}{f:GS}{h n0:House}{s0:Option O}{q post ps:List (Belt×List D)}{C:Addr}{Γ Γ1:Gm}{w:World}{o0:D}{j:Nat}{l:PySem.W.OpenLaw}{K:L2.FG}{mg:Str->Option Value}{us:List Value}
theorem c9n:∀k:Nat,k < 12->MulOk "y" ((k:Int) - 7):=by unfold MulOk;decide +kernel
theorem d7k:∀n:Nat,n < 3->((["","ab","zzz"]:List Str).getD n "").length<=3:=by decide +kernel
theorem d7l:∀n:Nat,n < 3->((["","ba","zz"]:List Str).getD n "").length<=3:=by decide +kernel
theorem c9o(h:0<=k/\k < xs.length):atI (xs.map fun x=>O.frz (.str x)) k=some (.frz (.str (xs.getD k.toNat ""))):=by
 have hk':k.toNat < xs.length:=by omega
 have e:(xs.map fun x=>O.frz (.str x))[k.toNat]?=some (.frz (.str (xs.getD k.toNat ""))):=by simp[hk']
 have z:=a3i e
 rwa [show((k.toNat:Nat):Int)=k by omega] at z
theorem d4p(F:Feed)(k:Int)(s0:0<=F.style)(s1:F.style < 12)(k0:0<=k)(k1:k < 12):a5g [.frz (feedT F).d,.frz (.int k)]=some (.frz (.str (a2h F.style k)),[none,none]):=by
 unfold a5g b7e feedT feedL;have l8:(("zbdgkafe":Str).length<=1000000)=True:=eq_true (by decide +kernel)
 have l12:(("dbgkafelcjhi":Str).length<=1000000)=True:=eq_true (by decide +kernel)
 by_cases hm:F.style % 4=3
 ·obtain⟨kn,rfl,kl⟩:=b1v (n:=12) k0 k1;have hmk:MulOk "y" ((kn:Int) - 7)=True:=eq_true (c9n kn kl);by_cases hk:(7:Int) < kn
  ·have e:a2h F.style kn=Txt.mul "y" (kn - 7):=by unfold a2h;rw[if_pos hm,if_pos hk]
   rw[e];simp only[a5a,a6f,a1o,a6e,a1n,qq6,qq7,qq2,qq3,qqf,Nat.reduceAdd,Nat.reduceSub,qq8,List.append_nil,a0r,a1m,a5z,a1e,a0f,a0n,qq0,↓evBind,a3s,a0h,a0k,a0i,a0j,a3e,a4b,a5w,↓evMap,a3d,Int.reduceLT,decide_true,hm,if_true,a4p,a3k,and_self,a4n,beq_self_eq_true,a3p,a3f,a1j,a7g,a9h,a9i,qq1,a4c,a9j,b3j,l8,c7x,hmk,Nat.reduceLeDiff,a1h,a1b,hk,c2s,a8a,a3q,a4l,a1p,a3x,qqa,qqd,a2y,a2o]
  ·have e:a2h F.style kn=Txt.slice "zbdgkafe" none (some (kn+1)):=by unfold a2h;rw[if_pos hm,if_neg hk]
   rw[e];simp only[a5a,a6f,a1o,a6e,a1n,qq6,qq7,qq2,qq3,qqf,Nat.reduceAdd,Nat.reduceSub,qq8,List.append_nil,a0r,a1m,a5z,a1e,a0f,a0n,qq0,↓evBind,a3s,a0h,a0k,a0i,a0j,a3e,a4b,a5w,↓evMap,a3d,Int.reduceLT,decide_true,hm,if_true,a4p,a3k,and_self,a4n,beq_self_eq_true,a3p,a3f,a1j,a7g,a9h,a9i,qq1,a4c,a9j,b3j,l8,c7x,hmk,Nat.reduceLeDiff,a1h,a1b,hk,decide_false,c2s,qqe,if_false,a8a,a2i,a4l,a1p,a3x,qqa,qqd,a2y,a2o]
 ·have m4:0<=F.style % 4/\F.style % 4 < 3:=by omega
  have m3:0<=F.style / 4 % 3/\F.style / 4 % 3 < 3:=by omega
  have a1:=c9o (xs:=["","ab","zzz"]) m4;have a2:=c9o (xs:=["","ba","zz"]) m3;simp only[qq6,qq7] at a1 a2;have l1:=d7k (F.style % 4).toNat (by omega)
  have l2:=d7l (F.style / 4 % 3).toNat (by omega)
  have hm':(F.style % 4 == 3)=false:=by simpa using hm
  have c4:decide ((0:Int) < 4/\(4:Int) < 1073741824)=true:=by decide
  have e:a2h F.style k=((["","ab","zzz"]:List Str).getD (F.style % 4).toNat ""++chr1 (("dbgkafelcjhi":Str).cps.toList.getD k.toNat 0))++(["","ba","zz"]:List Str).getD (F.style / 4 % 3).toNat "":=by
   unfold a2h;rw[if_neg hm]
  have a3:atI ("dbgkafelcjhi":Str).cps.toList k=some (("dbgkafelcjhi":Str).cps.toList.getD k.toNat 0):=b2i 0 k0 (by show k < (12:Nat);omega)
  have q1:((["","ab","zzz"]:List Str).getD (F.style % 4).toNat "").length+(⟨#[("dbgkafelcjhi":Str).cps.toList.getD k.toNat 0]⟩:Str).length<=1000000:=by show _+1<=_;omega
  have q2:((["","ab","zzz"]:List Str).getD (F.style % 4).toNat ""++(⟨#[("dbgkafelcjhi":Str).cps.toList.getD k.toNat 0]⟩:Str)).length+((["","ba","zz"]:List Str).getD (F.style / 4 % 3).toNat "").length<=1000000:=by
   rw[Str.length_append];show _+1+_<=_;omega
  rw[e];simp only[a5a,a6f,a1o,a6e,a1n,qq6,qq7,qq2,qq3,qqf,Nat.reduceAdd,Nat.reduceSub,qq8,List.append_nil,a0r,a1m,a5z,a1e,a0f,a0n,qq0,↓evBind,a3s,a0h,a0k,a0i,a0j,a3e,a4b,a5w,↓evMap,a3d,Int.reduceLT,decide_true,if_true,a4p,a3k,and_self,a4n,hm',qqe,a3p,a3f,a1j,a7g,a9h,a9i,qq1,a4c,a9j,b3j,a1p,if_false,Nat.reduceLeDiff,a1h,a1b,a8a,a1,a4l,e0g,l12,a3,d6s,q1,a2,q2,a3x,qqa,qqd,a2y,a2o];rfl
abbrev fS(x:Str):O:=.frz (.str x)
theorem b5g(xs:List Str):xs.map fS=(xs.map D.str).map .frz:=by rw[List.map_map];rfl
theorem c9p(xs:List Str):O.dl (xs.map fS)=xs.map D.str:=by rw[b5g,a4t]
theorem c9q(xs:List Str):frzL (xs.map fS)=some (xs.map D.str):=by rw[b5g,a5s]
theorem c1d(x:Str):∀xs:List Str,((xs.map D.str).any fun z=>eqD z (.str x))=xs.contains x
 |[]=>rfl
 |y::r=>by
  rw[List.map_cons,List.any_cons,c1d x r,List.contains_cons,b0i]
  congr 1
  exact BEq.comm
theorem c1e(n:Nat)(xs:List Str):(xs.map D.str).all (okD n)=true:=by
 rw[List.all_eq_true];intro d hd;obtain⟨y,_,rfl⟩:=List.mem_map.mp hd;exact a6q n y
theorem b4a(neg:Bool)(x:Str)(xs:List Str):oInG neg [.frz (.str x),.lst (xs.map fS)]=some (.frz (.bl (if neg then !xs.contains x else xs.contains x))):=by
 unfold oInG;have e:seqO (O.lst (xs.map fS)).d=some (xs.map D.str):=by rw[b5g];show some (O.dl _)=_;rw[a4t]
 simp only[dictO,e,Option.bind_some,a1o,a6q,c1e,and_self,if_true,c1d]
theorem d4q(neg:Bool)(x:Str)(xs:List Str):oInG neg [.frz (.str x),.frz (.lst (xs.map D.str))]=some (.frz (.bl (if neg then !xs.contains x else xs.contains x))):=by
 unfold oInG;have e:seqO (.lst (xs.map D.str))=some (xs.map D.str):=rfl;simp only[dictO,e,Option.bind_some,a1o,a6q,c1e,and_self,if_true,c1d]
theorem c9r(xs:List Str)(i:Int)(y:Str)(h0:0<=i)(h1:i < 1000000)(hl:xs.length < 1000000):a4j (.lst (xs.map fS)) [.frz (.int i),.frz (.str y)]=some (.lst ((insS xs i.toNat y).map fS),.frz .non):=by
 unfold a4j;dsimp only;rw[if_pos ⟨h0,h1,by rw[List.length_map];exact hl⟩]
 unfold insS;rw[List.map_append,List.map_cons,List.map_take,List.map_drop]
theorem d7m(h0:0<=k)(h1:k < xs.length):atI ((xs.map D.str).map O.frz) k=some (.frz (.str (xs.getD k.toNat ""))):=by
 have z:=c9o ⟨h0,h1⟩;rw[List.map_map];exact z
theorem c1f(later:List Str):∀(xs acc:List Str) (a:Option O),acc.length+xs.length < 1000000->∃a',compLoop (a0p 0) (gT (gBin (oInG false) (gVar 0) (gVar 1))) (gVar 0) (xs.map D.str) [a,some (.frz (.lst (later.map D.str)))] (acc.map fS) =
  some ((acc++xs.filter fun o=>later.contains o).map fS,[a',some (.frz (.lst (later.map D.str)))])
 |[],acc,a,_=>⟨a,by rw[List.map_nil,b0f,List.filter_nil,List.append_nil]⟩
 |x::xs,acc,a,h=>by
  rw[List.length_cons] at h;have hl:(acc.map fS).length < 1000000:=by rw[List.length_map];omega
  cases hc:later.contains x with
  |true=>
   obtain⟨a',e⟩:=c1f later xs (acc++[x]) (some (fS x)) (by rw[List.length_append,List.length_singleton];omega)
   refine⟨a',?_⟩;rw[List.filter_cons,if_pos hc,show acc++x::(xs.filter fun o=>later.contains o)=acc++[x]++(xs.filter fun o=>later.contains o) by simp]
   rw[<-e,List.map_append];simp only[qq6,a7z,a1q,qq2,qq3,qqf,Nat.reduceAdd,Nat.reduceLT,qq4,if_true,↓evBind,a5z,a1e,a0f,a0n,qq0,qq1,a0h,a0k,a0i,a0j,d4q,qqe,hc,if_false,a1h,a1b,hl,qq7]
  |false=>
   obtain⟨a',e⟩:=c1f later xs acc (some (fS x)) (by omega)
   refine⟨a',?_⟩;rw[List.filter_cons,if_neg (by rw[hc];exact Bool.false_ne_true)]
   rw[<-e];simp only[qq6,a7z,a1q,qq2,qq3,qqf,Nat.reduceAdd,Nat.reduceLT,qq4,if_true,↓evBind,a5z,a1e,a0f,a0n,qq0,qq1,a0h,a0k,a0i,a0j,d4q,qqe,hc,if_false,a1h,a1b,hl]
structure GoodF (F:Feed):Prop where
 pos:0<=F.pl
 len:F.ns.length<=63
theorem GoodF.draw(h:GoodF F)(m:Int):GoodF (drawF F m):=⟨d1p F m h.pos,by rw[d1o];exact h.len⟩
theorem xd(h:GoodF F){m:Int}(h0:0 < m)(h1:m < 1073741824):a1v [feedT F,.frz (.int m)]=some (.frz (.int (drawV F m)),[some (feedT (drawF F m)),none]):=e0p F m h0 h1 h.pos h.len
theorem a5l{later carts:List Str}{F:Feed}{xs:List Str}(h:GoodF F):∀n,GoodF (a3n later carts n (F,xs)).1/\(a3n later carts n (F,xs)).2.length<=xs.length+n
 |0=>⟨h,Nat.le_refl _⟩
 |n+1=>by
  obtain⟨g1,g2⟩:=a5l (later:=later) (carts:=carts) (xs:=xs) h n;show GoodF (a3u later carts _).1/\_;unfold a3u;dsimp only;split
  ·refine⟨g1.draw _,?_⟩;show(a3u later carts _).2.length<=_;unfold a3u;dsimp only;rw[if_pos (by assumption)]
   dsimp only;omega
  ·refine⟨(g1.draw _).draw _,?_⟩;show(a3u later carts _).2.length<=_;unfold a3u;dsimp only;rw[if_neg (by assumption)]
   dsimp only;rw[c1y];omega
theorem e0q(F:Feed)(later carts:List Str)(h:GoodF F)(hl:later.length<=100)(hc0:0 < carts.length)(hc:carts.length<=100):
  b0v [feedT F,.frz (.lst (later.map .str)),.lst (carts.map fS)]=some (.lst ((outsM F later carts).2.map fS),[some (feedT (outsM F later carts).1),none,some (.lst (carts.map fS))]):=by
 have hd:=xd h (m:=3) (by decide) (by decide)
 have d0:=a0u F (m:=3) (by decide)
 have d1:=a2j F (m:=3) (by decide)
 have i1:int1 [.own (.frz (.int (1+drawV F 3)))]=some (1+drawV F 3):=b1k (by omega)
 obtain⟨Γ',eL,a,b,rfl⟩:=b7k (g:=a0p 4) (f:=a0l (gsSet 5 (gBin oIx (gBin oAdd (gVar 1) (gVar 2)) (gCall a1v (a0a (gVar 0) (a0a (gFrz (gBin oAdd (gOp oLen (a0a (gVar 1) gaNil)) (gOp oLen (a0a (gVar 2) gaNil)))) gaNil)))))
   (gsIf (gT (gBin (oInG true) (gVar 5) (gVar 3)))
    (a2s (gMut a4j (gVar 3) (a0a (gFrz (gCall a1v (a0a (gVar 0) (a0a (gFrz (gBin oAdd (gOp oLen (a0a (gVar 3) gaNil)) (gC (.int 1)))) gaNil)))) (a0a (gVar 5) gaNil))))
    gsNil))
  (fun i Γ=>∃a b,Γ=[some (feedT (a3n later carts i (drawF F 3,[])).1),some (.frz (.lst (later.map .str))),some (.lst (carts.map fS)),some (.lst ((a3n later carts i (drawF F 3,[])).2.map fS)),a,b])
  (rngD 0 (1+drawV F 3).toNat) 0 [some (feedT (drawF F 3)),some (.frz (.lst (later.map .str))),some (.lst (carts.map fS)),some (.lst []),none,none] ⟨none,none,rfl⟩ (by
   rintro j Γ d hd ⟨a,b,rfl⟩;rw[Nat.zero_add] at *;have hj:j < (1+drawV F 3).toNat:=by
    have:=(List.getElem?_eq_some_iff.mp hd).1;simpa[rngD] using this
   obtain⟨g1,g2⟩:=a5l (later:=later) (carts:=carts) (xs:=[]) (h.draw 3) j;rw[List.length_nil,Nat.zero_add] at g2;show ∃Γ2,_/\∃a b,Γ2=[some (feedT (a3u later carts (a3n later carts j (drawF F 3,[]))).1),_,_,some (.lst ((a3u later carts (a3n later carts j (drawF F 3,[]))).2.map fS)),a,b];generalize a3n later carts j (drawF F 3,[])=p at *;obtain⟨G,outs⟩:=p;dsimp only at g1 g2 ⊢;have hm0:(0:Int) < (later.length:Int)+carts.length:=by omega
   have hm1:(later.length:Int)+carts.length < 1073741824:=by omega
   have e1:=xd g1 hm0 hm1;have v0:=a0u G hm0;have v1:=a2j G hm0;have hat:atI (((later++carts).map D.str).map O.frz) (drawV G (later.length+carts.length))=some (.frz (.str ((later++carts).getD (drawV G (later.length+carts.length)).toNat ""))):=d7m v0 (by rw[List.length_append];omega)
   have c1:(later.length+carts.length<=1000000)=True:=eq_true (by omega)
   cases hc:outs.contains ((later++carts).getD (drawV G (later.length+carts.length)).toNat "") with
   |true=>
    refine⟨_,by simp only[a1q,qq2,qq3,qqf,Nat.reduceAdd,Nat.reduceLT,qq5,qq4,if_true,↓evBind,a0r,a1t,a1e,a0f,a0n,qq1,qq0,a0h,a0k,a0i,a2x,Option.join_some,a0j,b6l,b3k,c9q,List.length_map,c1,<-List.map_append,a1k,a1j,a4m,a1o,a3j,↓evMap,a5a,c9p,a4c,a1s,a0x,a0w,e1,a3m,a2f,a2e,a3e,a8a,hat,a4l,a1m,a5z,b4a,hc,Bool.not_true,qqe,a2q,a4w,a3s,a1p,if_false];rfl,?_⟩
    unfold a3u;dsimp only;rw[if_pos hc];exact⟨_,_,rfl⟩
   |false=>
    have hm2:(0:Int) < (outs.length:Int)+1:=by omega
    have hm3:(outs.length:Int)+1 < 1073741824:=by omega
    have e2:=xd (g1.draw (later.length+carts.length)) hm2 hm3;have e3:=c9r outs (drawV (drawF G (later.length+carts.length)) (outs.length+1)) ((later++carts).getD (drawV G (later.length+carts.length)).toNat "") (a0u _ hm2) (by have:=a2j (drawF G (later.length+carts.length)) hm2;omega) (by omega)
    refine⟨_,by simp only[a1q,qq2,qq3,qqf,Nat.reduceAdd,Nat.reduceLT,qq5,qq4,if_true,↓evBind,a0r,a1t,a1e,a0f,a0n,qq1,qq0,a0h,a0k,a0i,a2x,Option.join_some,a0j,b6l,b3k,c9q,List.length_map,c1,<-List.map_append,a1k,a1j,a4m,a1o,a3j,↓evMap,a5a,c9p,a4c,a1s,a0x,a0w,e1,a3m,a2f,a2e,a3e,a8a,hat,a4l,a1m,a5z,b4a,hc,Bool.not_false,a2q,a4w,a3s,e2,a1h,a1b,e3,a1p];rfl,?_⟩
    unfold a3u;dsimp only;rw[if_neg (by rw[hc];exact Bool.false_ne_true)]
    exact⟨_,_,rfl⟩)
 have hlen:(rngD 0 (1+drawV F 3).toNat).length=(1+drawV F 3).toNat:=by simp[rngD]
 rw[hlen,Nat.zero_add] at eL;obtain⟨g1,g2⟩:=a5l (later:=later) (carts:=carts) (xs:=[]) (h.draw 3) (1+drawV F 3).toNat;rw[List.length_nil,Nat.zero_add] at g2;have eO:outsM F later carts=(let p:=a3n later carts (1+drawV F 3).toNat (drawF F 3,[])
  if(!p.2.contains (carts.getD 0 "") && decide (((p.2.filter fun o=>later.contains o).length:Int)=0))=true then(drawF p.1 (p.2.length+1),insS p.2 (drawV p.1 (p.2.length+1)).toNat (carts.getD 0 "")) else p):=rfl
 rw[eO];unfold b0v b7h;generalize a3n later carts (1+drawV F 3).toNat (drawF F 3,[])=p at *;obtain⟨G,outs⟩:=p;dsimp only at eL g1 g2 ⊢;have hat:atI (carts.map fS) 0=some (.frz (.str (carts.getD 0 ""))):=by
  refine a3i (j:=0) ?_;cases carts with
  |nil=>simp at hc0
  |cons c r=>rfl
 obtain⟨a',eC⟩:=c1f later outs [] none (by rw[List.length_nil];omega)
 rw[List.map_nil,List.nil_append] at eC;have hm2:(0:Int) < (outs.length:Int)+1:=by omega
 have hm3:(outs.length:Int)+1 < 1073741824:=by omega
 have e2:=xd g1 hm2 hm3;have e3:=c9r outs (drawV G (outs.length+1)) (carts.getD 0 "") (a0u _ hm2) (by have:=a2j G hm2;omega) (by omega)
 cases hc:outs.contains (carts.getD 0 "") with
 |true=>
  simp only[a1n,qq6,qq7,qq2,qq3,qqf,Nat.reduceAdd,Nat.reduceSub,qq9,qq8,qqb,qqc,a0r,a1t,a3f,a0h,↓evBind,Nat.reduceLeDiff,a1b,if_true,Nat.reduceLT,qq5,qq4,c7u,a0f,a1e,a3s,a1k,a0n,qq0,a1s,a0x,a0w,hd,a3m,a2f,a2e,a0k,a0i,a0j,a4c,i1,eL,a1m,b1p,a5z,qq1,a2x,Option.join_some,a3e,a8a,hat,a4l,b4a,hc,Bool.not_true,qqe,a4k,c0t,List.mem_cons,Nat.reduceEqDiff,List.not_mem_nil,or_false,↓evMap,if_false,a2q,a4w,a1j,a4m,a5a,a3j,a1o,a1p,a3p,a4z,a3x,qqa,qqd,a5m,a2y,a2o,Bool.false_and]
 |false=>
  cases hz:decide (((outs.filter fun o=>later.contains o).length:Int)=0) with
  |true=>
   have hz':(((outs.filter fun o=>later.contains o).length:Int) == 0)=true:=by rw[<-hz];exact Bool.beq_eq_decide_eq _ _
   simp only[a1n,qq6,qq7,qq2,qq3,qqf,Nat.reduceAdd,Nat.reduceSub,qq9,qq8,qqb,qqc,a0r,a1t,a3f,a0h,↓evBind,Nat.reduceLeDiff,a1b,if_true,Nat.reduceLT,qq5,qq4,c7u,a0f,a1e,a3s,a1k,a0n,qq0,a1s,a0x,a0w,hd,a3m,a2f,a2e,a0k,a0i,a0j,a4c,i1,eL,a1m,b1p,a5z,qq1,a2x,Option.join_some,a3e,a8a,hat,a4l,b4a,hc,Bool.not_false,a4k,c0t,List.mem_cons,Nat.reduceEqDiff,List.not_mem_nil,or_false,c9q,↓evMap,if_false,a8q,a4f,eC,List.drop_succ_cons,List.drop_zero,a8r,a4g,a4m,a5a,c9p,a3j,List.length_map,a4p,a1o,a3k,and_self,a4n,hz',a2q,a4w,a1j,e2,a1h,e3,a1p,a3p,a4z,a3x,qqa,qqd,a5m,a2y,a2o,Bool.true_and]
  |false=>
   have hz':(((outs.filter fun o=>later.contains o).length:Int) == 0)=false:=by rw[<-hz];exact Bool.beq_eq_decide_eq _ _
   simp only[a1n,qq6,qq7,qq2,qq3,qqf,Nat.reduceAdd,Nat.reduceSub,qq9,qq8,qqb,qqc,a0r,a1t,a3f,a0h,↓evBind,Nat.reduceLeDiff,a1b,if_true,Nat.reduceLT,qq5,qq4,c7u,a0f,a1e,a3s,a1k,a0n,qq0,a1s,a0x,a0w,hd,a3m,a2f,a2e,a0k,a0i,a0j,a4c,i1,eL,a1m,b1p,a5z,qq1,a2x,Option.join_some,a3e,a8a,hat,a4l,b4a,hc,Bool.not_false,a4k,c0t,List.mem_cons,Nat.reduceEqDiff,List.not_mem_nil,or_false,c9q,↓evMap,if_false,a8q,a4f,eC,List.drop_succ_cons,List.drop_zero,a8r,a4g,a4m,a5a,c9p,a3j,List.length_map,a4p,a1o,a3k,and_self,a4n,hz',qqe,a2q,a4w,a1j,e2,a1h,e3,a1p,a3p,a4z,a3x,qqa,qqd,a5m,a2y,a2o,Bool.true_and]
structure WB where
 n:D
 l:Int
 r:Bool
 os:List D
variable{z b0:WB}
structure WH where
 bs:List WB
 cs:List D
def wbO(b:WB):O:=.lst [.frz b.n,.frz (.int b.l),.frz (.bl b.r),.lst (b.os.map .frz)]
def whO(h:WH):O:=.lst [.lst (h.bs.map wbO),.lst (h.cs.map .frz)]
def wbOf(b:Belt):WB:=⟨.str b.name,b.long,b.ring,b.outs.map .str⟩
def whOf(h:House):WH:=⟨h.belts.map wbOf,h.carts.map .str⟩
def wbL(b:WB):D:=.lst [b.n,.int b.l,.bl b.r,.lst b.os]
abbrev fW(b:Belt):O:=wbO (wbOf b)
theorem e1s(b:WB):(wbO b).d=wbL b:=by
 unfold wbO wbL;show D.lst (O.dl [.frz b.n,.frz (.int b.l),.frz (.bl b.r),.lst (b.os.map .frz)])=_;have:(O.lst (b.os.map .frz)).d=.lst b.os:=congrArg D.lst (a4t b.os);show D.lst [b.n,.int b.l,.bl b.r,(O.lst (b.os.map .frz)).d]=_;rw[this]
theorem d7n:∀bs:List WB,O.dl (bs.map wbO)=bs.map wbL
 |[]=>rfl
 |b::bs=>by
  show(wbO b).d::O.dl (bs.map wbO)=_;rw[e1s,d7n bs];rfl
theorem e1t(xs:List Belt):O.dl (xs.map fW)=xs.map fun b=>wbL (wbOf b):=by
 rw[show xs.map fW=(xs.map wbOf).map wbO by rw[List.map_map];rfl,d7n,List.map_map]
 rfl
theorem e0r:∀xs:List Str,plL (xs.map fS)=true
 |[]=>b6u
 |x::xs=>by rw[List.map_cons,c1b,c0z,e0r xs];rfl
def b5h:GS:=(a0l (gsSet 6 (gBin oEq (gCall a1v (a0a (gVar 0) (a0a (gC (.int 3)) gaNil))) (gC (.int 0))))
 (a0l (gsSet 7 (gFrz (gBin oAdd (gBin oAdd (gBin oAdd (gC (.int 1)) (gOp oInt1 (a0a (gVar 6) gaNil))) (gCall a1v (a0a (gVar 0) (a0a (gC (.int 4)) gaNil)))) (gBin oMulA (gVar 4) (gOp oInt1 (a0a (gBin oEq (gVar 5) (gC (.int 0))) gaNil))))))
 (a0l (gsSet 8 (gCall b0v (a0a (gVar 0) (a0a (gFrz (gLend (a4v (srcL (gVar 3)) (a0p 0) gYes (gBin oIx (gVar 0) (gC (.int 0))) 1 []))) (a0a (gVar 2) gaNil)))))
 (a2s (gMut a4j (gVar 3) (a0a (gC (.int 0)) (a0a (gSeq .lst (a0a (a7y a5g (a0a (gVar 0) (a0a (gVar 5) gaNil))) (a0a (gVar 7) (a0a (gVar 6) (a0a (gMove (gVar 8)) gaNil))))) gaNil)))))))
theorem b5i:∀(xs:List Belt) (acc:List Str) (a:Option O),acc.length+xs.length < 1000000->∃a',compLoop (a0p 0) gYes (gBin oIx (gVar 0) (gC (.int 0))) (xs.map fun b=>wbL (wbOf b)) [a] (acc.map fS)=some ((acc++xs.map Belt.name).map fS,[a'])
 |[],acc,a,_=>⟨a,by rw[List.map_nil,b0f,List.map_nil,List.append_nil]⟩
 |x::xs,acc,a,h=>by
  rw[List.length_cons] at h;have hl:(acc.map fS).length < 1000000:=by rw[List.length_map];omega
  obtain⟨a',e⟩:=b5i xs (acc++[x.name]) (some (.frz (wbL (wbOf x)))) (by rw[List.length_append,List.length_singleton];omega)
  refine⟨a',?_⟩;rw[List.map_cons (f:=Belt.name),show acc++x.name::xs.map Belt.name=acc++[x.name]++xs.map Belt.name by simp]
  rw[<-e,List.map_append];simp only[wbL,wbOf,qq6,a7z,a1q,qq2,qq3,qqf,Nat.reduceLT,qq4,if_true,↓evBind,b3i,a1e,a0f,a0n,qq0,a3s,a0h,a0k,a0i,a0j,a3e,a4b,a2i,↓evMap,a1h,a1b,hl,qq7]
theorem b5j(F:Feed)(s0:0<=F.style)(s1:F.style < 12):∀(n j:Nat) (acc:List Str) (a:Option O),j+n<=12->acc.length+n < 1000000->∃a',compLoop (a0p 0) gYes (a7y a5g (a0a (gVar 1) (a0a (gBin oSub (gC (.int 11)) (gVar 0)) gaNil))) ((List.range' j n).map fun(k:Nat)=>D.int (0+(k:Int))) [a,some (feedT F)] (acc.map fS) =
  some ((acc++(List.range' j n).map fun(k:Nat)=>a2h F.style (11 - (0+(k:Int)))).map fS,[a',some (feedT F)])
 |0,j,acc,a,_,_=>⟨a,by rw[List.range'_zero,List.map_nil,b0f,List.map_nil,List.append_nil]⟩
 |n+1,j,acc,a,h,h2=>by
  have hl:(acc.map fS).length < 1000000:=by rw[List.length_map];omega
  obtain⟨a',e⟩:=b5j F s0 s1 n (j+1) (acc++[a2h F.style (11 - (0+(j:Int)))]) (some (.frz (.int (0+(j:Int))))) (by omega) (by rw[List.length_append,List.length_singleton];omega)
  refine⟨a',?_⟩;have xn:=d4p F (11 - (0+(j:Int))) s0 s1 (by omega) (by omega)
  rw[List.range'_succ,List.map_cons,List.map_cons,show acc++a2h F.style (11 - (0+(j:Int)))::(List.range' (j+1) n).map (fun(k:Nat)=>a2h F.style (11 - (0+(k:Int))))=acc++[a2h F.style (11 - (0+(j:Int)))]++(List.range' (j+1) n).map (fun(k:Nat)=>a2h F.style (11 - (0+(k:Int)))) by simp]
  rw[<-e,List.map_append];have xn':a5g [.frz (.lst (O.dl (feedL F))),.frz (.int (11 - (0+(j:Int))))]=_:=xn;simp only[a7z,a1q,qq2,qq3,qqf,Nat.reduceAdd,Nat.reduceLT,qq4,if_true,↓evBind,b3i,b0h,a0f,a0n,qq1,qq0,a1e,a3s,a0h,a0k,a0i,a0j,a3d,a2x,Option.join_some,a6f,a5a,a1o,a6e,qq6,qq7,xn',c8a,a1h,a1b,hl]
theorem insB(xs:List Belt)(b:Belt)(hl:xs.length < 1000000):a4j (.lst (xs.map fW)) [.frz (.int 0),.lst [fS b.name,.frz (.int b.long),.frz (.bl b.ring),.lst (b.outs.map fS)]]=some (.lst ((b::xs).map fW),.frz .non):=by
 unfold a4j;dsimp only;rw[if_pos ⟨by decide,by decide,by rw[List.length_map];exact hl⟩,b5g]
 rfl
theorem c4z(h:GoodF F)(later carts:List Str):GoodF (outsM F later carts).1:=by
 obtain⟨g1,_⟩:=a5l (later:=later) (carts:=carts) (xs:=[]) (h.draw 3) (1+drawV F 3).toNat;unfold outsM;dsimp only;split
 ·exact g1.draw _
 ·exact g1
theorem a5y{many wide:Int}{carts:List Str}{p:Feed×List Belt}(h:GoodF p.1):∀n,GoodF (a1i many wide carts n p).1
 |0=>h
 |n+1=>by
  have:=a5y (many:=many) (wide:=wide) (carts:=carts) h n;exact c4z ((this.draw 3).draw 4) _ _
theorem c5a(many wide:Int)(G:Feed)(carts:List Str)(belts:List Belt)(k:Int)(g:GoodF G)(s0:0<=G.style)(s1:G.style < 12)(k0:0<=k)(k1:k < 12)(hb:belts.length<=100)(hc0:0 < carts.length)(hc:carts.length<=100)(a5 a6 a7 a8:Option O):
  ∃b6 b7 b8,(a0p 5 (.int k) [some (feedT G),some (.frz (.int many)),some (.lst (carts.map fS)),some (.lst (belts.map fW)),some (.frz (.int wide)),a5,a6,a7,a8]).bind
   b5h =
  some (.nx,[some (feedT (outsM (drawF (drawF G 3) 4) (belts.map Belt.name) carts).1),some (.frz (.int many)),some (.lst (carts.map fS)),
   some (.lst ((⟨a2h (outsM (drawF (drawF G 3) 4) (belts.map Belt.name) carts).1.style k,1+(if(drawV G 3 == 0) then 1 else 0)+drawV (drawF G 3) 4+wide * (if(k == 0) then 1 else 0),drawV G 3 == 0,(outsM (drawF (drawF G 3) 4) (belts.map Belt.name) carts).2⟩::belts).map fW)),some (.frz (.int wide)),some (.frz (.int k)),b6,b7,b8]):=by
 have e1:=xd g (m:=3) (by decide) (by decide)
 have e2:=xd (g.draw 3) (m:=4) (by decide) (by decide)
 obtain⟨a',e3⟩:=b5i belts [] none (by rw[List.length_nil];omega)
 rw[List.map_nil,List.nil_append] at e3;have e4:=e0q (drawF (drawF G 3) 4) (belts.map Belt.name) carts ((g.draw 3).draw 4) (by rw[List.length_map];exact hb) hc0 hc
 have hst:(outsM (drawF (drawF G 3) 4) (belts.map Belt.name) carts).1.style=G.style:=by simp only[a9c,a2u]
 generalize outsM (drawF (drawF G 3) 4) (belts.map Belt.name) carts=q at *;obtain⟨G',outs⟩:=q;dsimp only at hst e4 ⊢;have e5:a5g [.frz (.lst (O.dl (feedL G'))),.frz (.int k)]=_:=d4p G' k (by rw[hst];exact s0) (by rw[hst];exact s1) k0 k1
 have mm:∀b:Bool,((-(2 ^ 64) < wide/\wide < 2 ^ 64\/(-(2 ^ 64):Int) < (if b=true then 1 else 0)/\(if b=true then(1:Int) else 0) < 2 ^ 64)=True):=fun b=>eq_true (.inr (by cases b <;> decide))
 have e6:=insB belts ⟨a2h G'.style k,1+(if(drawV G 3 == 0) then 1 else 0)+drawV (drawF G 3) 4+wide * (if(k == 0) then 1 else 0),drawV G 3 == 0,outs⟩ (by omega)
 dsimp only at e6;exact⟨some (.frz (.bl (drawV G 3 == 0))),some (.frz (.int (1+(if(drawV G 3 == 0) then 1 else 0)+drawV (drawF G 3) 4+wide * (if(k == 0) then 1 else 0)))),none,by
  unfold b5h;simp only[a1q,qq2,qq3,qqf,Nat.reduceAdd,Nat.reduceLT,qq5,qq4,if_true,↓evBind,a0r,a1t,a1e,a0f,a1k,a0n,qq0,a3s,a0h,a1s,a0x,a0w,e1,a3m,a2f,a2e,a0k,a0i,a0j,a4p,a1o,a3k,and_self,a4n,a1j,qq1,c2s,a4c,e2,b6m,mm,a7m,b2b,a5a,c9p,e1t,a4k,b1q,qq9,qq8,a4f,List.append_nil,e3,List.drop_succ_cons,List.drop_zero,a4g,c1a,e0r,e4,a2q,a4w,a3f,b0h,a2x,Option.join_some,a6f,a6e,qq6,qq7,e5,c8a,a4z,Nat.reduceLeDiff,a1h,a1b,e6]⟩
theorem d4r(bs:List Belt)(cs:List Str):whO (whOf ⟨bs,cs⟩)=.lst [.lst (bs.map fW),.lst (cs.map fS)]:=by
 unfold whO whOf;dsimp only;rw[List.map_map,List.map_map];rfl
theorem dec01(a:Int):decide (V.int a=V.int 0)=(a == 0):=d5g
theorem c5b(st:Int)(n:Nat):a4r st n=(List.range' 0 n).map fun(k:Nat)=>a2h st (11 - (0+(k:Int))):=by unfold a4r;rw[List.range_eq_range']
theorem d7o(F:Feed)(h:GoodF F)(s0:0<=F.style)(s1:F.style < 12):
  b0y [feedT F]=some (whO (whOf (a6a 4 F).2),[some (feedT (a6a 4 F).1)]):=by
 have e1:=xd h (m:=7) (by decide) (by decide)
 have g1:=h.draw 7;have e2:=xd g1 (m:=4) (by decide) (by decide)
 have g2:=g1.draw 4;have m0:=a0u F (m:=7) (by decide)
 have m1:=a2j F (m:=7) (by decide)
 have n0:=a0u (drawF F 7) (m:=4) (by decide)
 have n1:=a2j (drawF F 7) (m:=4) (by decide)
 have i1:int1 [.own (.frz (.int (1+drawV (drawF F 7) 4)))]=some (1+drawV (drawF F 7) 4):=b1k (by omega)
 have st2:(drawF (drawF F 7) 4).style=F.style:=by simp only[a2u]
 obtain⟨a',eC⟩:=b5j (drawF (drawF F 7) 4) (by rw[st2];exact s0) (by rw[st2];exact s1) (1+drawV (drawF F 7) 4).toNat 0 [] none (by omega) (by rw[List.length_nil];omega)
 rw[List.map_nil,List.nil_append,st2,<-c5b,<-List.range_eq_range'] at eC;have eC:compLoop (a0p 0) gYes (a7y a5g (a0a (gVar 1) (a0a (gBin oSub (gC (.int 11)) (gVar 0)) gaNil))) (rngD 0 (1+drawV (drawF F 7) 4).toNat) [none,some (feedT (drawF (drawF F 7) 4))] []=_:=eC;have hcl:(a4r F.style (1+drawV (drawF F 7) 4).toNat).length=(1+drawV (drawF F 7) 4).toNat:=b1i _ _;have eH:a6a 4 F=(let w:=wideM (drawV F 7) (drawF (drawF F 7) 4);let r:=a1i (drawV F 7) w.2 (a4r F.style (1+drawV (drawF F 7) 4).toNat) (drawV F 7).toNat (w.1,[]);(r.1,⟨r.2,a4r F.style (1+drawV (drawF F 7) 4).toNat⟩)):=rfl
 rw[eH];generalize hcd:a4r F.style (1+drawV (drawF F 7) 4).toNat=carts at *;have i3:int3 [.own (.frz (.int (drawV F 7 - 1))),.own (.frz (.int (-1))),.own (.frz (.int (-1)))]=some (drawV F 7 - 1,-1):=d6c (by omega) (by omega)
 have key:∀(G:Feed) (wide:Int),GoodF G->G.style=F.style->∃a5 a6 a7 a8,a2a (a0p 5) b5h (rngC (drawV F 7 - 1) (-1) (drawV F 7 - 1 - -1).toNat)
   [some (feedT G),some (.frz (.int (drawV F 7))),some (.lst (carts.map fS)),some (.lst []),some (.frz (.int wide)),none,none,none,none] =
   some (.nx,[some (feedT (a1i (drawV F 7) wide carts (drawV F 7).toNat (G,[])).1),some (.frz (.int (drawV F 7))),some (.lst (carts.map fS)),some (.lst ((a1i (drawV F 7) wide carts (drawV F 7).toNat (G,[])).2.map fW)),some (.frz (.int wide)),a5,a6,a7,a8]):=by
  intro G wide gG sG;have hln:(rngC (drawV F 7 - 1) (-1) (drawV F 7 - 1 - -1).toNat).length=(drawV F 7).toNat:=by simp[rngC]
  obtain⟨Γ',eL,a5,a6,a7,a8,rfl⟩:=b7k (g:=a0p 5) (f:=b5h)
   (fun i Γ=>∃a5 a6 a7 a8,Γ=[some (feedT (a1i (drawV F 7) wide carts i (G,[])).1),some (.frz (.int (drawV F 7))),some (.lst (carts.map fS)),some (.lst ((a1i (drawV F 7) wide carts i (G,[])).2.map fW)),some (.frz (.int wide)),a5,a6,a7,a8])
   (rngC (drawV F 7 - 1) (-1) (drawV F 7 - 1 - -1).toNat) 0 _ ⟨none,none,none,none,rfl⟩ (by
    rintro j Γ d hd ⟨a5,a6,a7,a8,rfl⟩;have hj:j < (drawV F 7).toNat:=by
     have:=(List.getElem?_eq_some_iff.mp hd).1;omega
    have ed:d=.int (drawV F 7 - 1+(j:Int) * -1):=by
     unfold rngC at hd;rw[List.getElem?_map,List.getElem?_range (by omega)] at hd
     exact(Option.some.inj hd).symm
    subst ed;rw[Nat.zero_add];have sJ:=a6p (drawV F 7) wide carts (G,[]) j;obtain⟨b6,b7,b8,eb⟩:=c5a (drawV F 7) wide (a1i (drawV F 7) wide carts j (G,[])).1 carts (a1i (drawV F 7) wide carts j (G,[])).2 (drawV F 7 - 1+(j:Int) * -1) (a5y gG j) (by rw[sJ];show 0<=G.style;omega) (by rw[sJ];show G.style < 12;omega) (by omega) (by omega)
     (by rw[a6k];simp;omega) (by omega) (by omega) a5 a6 a7 a8
    exact⟨_,eb,_,b6,b7,b8,by
     show _=[some (feedT (a6j (drawV F 7) wide carts j (a1i (drawV F 7) wide carts j (G,[]))).1),_,_,some (.lst ((a6j (drawV F 7) wide carts j (a1i (drawV F 7) wide carts j (G,[]))).2.map fW)),_,_,_,_,_];unfold a6j;dsimp only;rw[dec01,dec01];rfl⟩)
  rw[hln,Nat.zero_add] at eL;exact⟨a5,a6,a7,a8,eL⟩
 unfold b0y b3z;have hw:wideM (drawV F 7) (drawF (drawF F 7) 4)=if drawV F 7 < 3 then(drawF (drawF (drawF (drawF F 7) 4) 2) 20,drawV (drawF (drawF F 7) 4) 2 * drawV (drawF (drawF (drawF F 7) 4) 2) 20) else(drawF (drawF F 7) 4,0):=rfl
 by_cases h3:drawV F 7 < 3
 ·rw[if_pos h3] at hw;rw[hw];have e3:=xd g2 (m:=2) (by decide) (by decide)
  have e4:=xd (g2.draw 2) (m:=20) (by decide) (by decide)
  have p0:=a0u (drawF (drawF F 7) 4) (m:=2) (by decide)
  have p1:=a2j (drawF (drawF F 7) 4) (m:=2) (by decide)
  have mm:(-(2 ^ 64) < drawV (drawF (drawF F 7) 4) 2/\drawV (drawF (drawF F 7) 4) 2 < 2 ^ 64 \/ -(2 ^ 64) < drawV (drawF (drawF (drawF F 7) 4) 2) 20/\drawV (drawF (drawF (drawF F 7) 4) 2) 20 < 2 ^ 64)=True:=eq_true (.inl ⟨by omega,by omega⟩)
  obtain⟨a5,a6,a7,a8,eL⟩:=key (drawF (drawF (drawF (drawF F 7) 4) 2) 20) (drawV (drawF (drawF F 7) 4) 2 * drawV (drawF (drawF (drawF F 7) 4) 2) 20) ((g2.draw 2).draw 20) (by simp only[a2u])
  unfold b5h at eL;dsimp only;rw[d4r];simp only[a1n,qq6,qq7,qq2,qq3,qqf,Nat.reduceSub,qq9,qq8,qqb,qqc,a0r,a1t,a1j,a1k,a0f,a0n,qq0,↓evBind,a3s,a0h,a1s,qq4,a0x,a0w,e1,a3m,a2f,a2e,a1o,Nat.reduceAdd,Nat.reduceLT,qq5,if_true,a4k,b0e,a1e,e2,a0k,a0i,a0j,a4c,i1,↓evMap,a8q,Option.join_some,a4f,eC,List.drop_succ_cons,List.drop_zero,a8r,a4g,a3f,Nat.reduceLeDiff,a1b,a1m,a5z,qq1,a3d,h3,decide_true,e3,e4,b6m,mm,a1p,e0f,d4l,Int.reduceNeg,i3,eL,a3p,a4z,a1h,a3x,qqa,qqd,a5m,a2o]
 ·rw[if_neg h3] at hw;rw[hw];obtain⟨a5,a6,a7,a8,eL⟩:=key (drawF (drawF F 7) 4) 0 g2 st2;unfold b5h at eL;dsimp only;rw[d4r];simp only[a1n,qq6,qq7,qq2,qq3,qqf,Nat.reduceSub,qq9,qq8,qqb,qqc,a0r,a1t,a1j,a1k,a0f,a0n,qq0,↓evBind,a3s,a0h,a1s,qq4,a0x,a0w,e1,a3m,a2f,a2e,a1o,Nat.reduceAdd,Nat.reduceLT,qq5,if_true,a4k,b0e,a1e,e2,a0k,a0i,a0j,a4c,i1,↓evMap,a8q,Option.join_some,a4f,eC,List.drop_succ_cons,List.drop_zero,a8r,a4g,a3f,Nat.reduceLeDiff,a1b,a1m,a5z,qq1,a3d,h3,decide_false,qqe,a1p,if_false,e0f,d4l,Int.reduceNeg,i3,eL,a3p,a4z,a1h,a3x,qqa,qqd,a5m,a2o]
structure SmallH (h:House):Prop where
 bl:h.belts.length<=100
 ct:h.carts.length<=100
 ou:(h.belts.map fun x=>x.outs.length).sum<=900
def Fwd(carts:List Str):List Belt->Prop
 |[]=>True
 |b::bs=>(∀o∈b.outs,o∈bs.map Belt.name\/o∈carts)/\b.name∉bs.map Belt.name/\b.name∉carts/\Fwd carts bs
theorem c3m{carts:List Str}:∀{bs:List Belt},Fwd carts bs->∀x∈bs,∀y∈bs,x.name=y.name->x=y
 |z::bs,f,x,hx,y,hy,e=>by
  rcases List.mem_cons.mp hx with hx1|hx1
  ·rcases List.mem_cons.mp hy with hy1|hy1
   ·rw[hx1,hy1]
   ·exact absurd (List.mem_map_of_mem (f:=Belt.name) hy1) (by rw[<-e,hx1];exact f.2.1)
  ·rcases List.mem_cons.mp hy with hy1|hy1
   ·exact absurd (List.mem_map_of_mem (f:=Belt.name) hx1) (by rw[e,hy1];exact f.2.1)
   ·exact c3m f.2.2.2 x hx1 y hy1 e
theorem c1g{carts:List Str}(hm:0 < later.length+carts.length)(h:∀o∈p.2,o∈later++carts):∀o∈(a3u later carts p).2,o∈later++carts:=by
 have hm0:(0:Int) < (later.length:Int)+carts.length:=by omega
 have v0:=a0u p.1 hm0;have v1:=a2j p.1 hm0;have hx:(later++carts).getD (drawV p.1 (later.length+carts.length)).toNat ""∈later++carts:=by
  rw[List.getD_eq_getElem?_getD,List.getElem?_eq_getElem (by rw[List.length_append];omega)]
  exact List.getElem_mem _
 unfold a3u;dsimp only;split
 ·exact h
 ·intro o ho;rcases mem_insS.mp ho with z|z
  ·rw[z];exact hx
  ·exact h o z
theorem b4b{later carts:List Str}{F:Feed}(hm:0 < later.length+carts.length):∀n,∀o∈(a3n later carts n (F,[])).2,o∈later++carts
 |0=>fun o m=>by cases m
 |n+1=>c1g hm (b4b hm n)
theorem c9s{carts:List Str}(hc:0 < carts.length):∀o∈(outsM F later carts).2,o∈later++carts:=by
 have hh:carts.getD 0 ""∈later++carts:=by
  cases carts with
  |nil=>simp at hc
  |cons c r=>simp
 have hi:=b4b (F:=drawF F 3) (later:=later) (carts:=carts) (by omega) (1+drawV F 3).toNat
 unfold outsM;dsimp only;split
 ·intro o ho;rcases mem_insS.mp ho with z|z
  ·rw[z];exact hh
  ·exact hi o z
 ·exact hi
theorem c9t{carts:List Str}(h:GoodF F):(outsM F later carts).2.length<=4:=by
 have d0:=a0u F (m:=3) (by decide)
 have d1:=a2j F (m:=3) (by decide)
 obtain⟨_,g2⟩:=a5l (later:=later) (carts:=carts) (xs:=[]) (h.draw 3) (1+drawV F 3).toNat;rw[List.length_nil] at g2;unfold outsM;dsimp only;split
 ·dsimp only;rw[c1y];omega
 ·omega
theorem c5c{carts:List Str}:carts.getD 0 ""∈(outsM F later carts).2\/∃o∈(outsM F later carts).2,o∈later:=by
 unfold outsM;dsimp only;split
 ·exact .inl (mem_insS.mpr (.inl rfl))
 ·rename_i hq
  by_cases hc:carts.getD 0 ""∈(a3n later carts (1+drawV F 3).toNat (drawF F 3,[])).2
  ·exact .inl hc
  ·right;have hc':(a3n later carts (1+drawV F 3).toNat (drawF F 3,[])).2.contains (carts.getD 0 "")=false:=by
    rw[<-Bool.not_eq_true,List.contains_iff_mem];exact hc
   have hq':=hq;cases e:(a3n later carts (1+drawV F 3).toNat (drawF F 3,[])).2.filter fun x=>later.contains x with
   |nil=>
    exfalso;apply hq;rw[hc',e];rfl
   |cons o r=>
    have:o∈(a3n later carts (1+drawV F 3).toNat (drawF F 3,[])).2.filter fun x=>later.contains x:=by rw[e];exact .head _
    rw[List.mem_filter,List.contains_iff_mem] at this;exact⟨o,this.1,this.2⟩
structure HInv (st many:Int) (carts:List Str) (i:Nat) (bs:List Belt):Prop where
 fwd:Fwd carts bs
 nm:∀b∈bs,∃k:Int,many - i<=k/\k < many/\b.name=a2h st k
 ln:(bs.map fun x=>x.outs.length).sum<=4 * i
 lg:∀b∈bs,1<=b.long/\b.long<=60
 hd:∀b∈bs,carts.getD 0 ""∈b.outs\/∃o∈b.outs,o∈bs.map Belt.name
theorem c3n{st many wide:Int}{carts:List Str}{F:Feed}(h:GoodF F)(hs:F.style=st)(s0:0<=st)(s1:st < 12)(m1:many<=6)(w0:0<=wide)(w1:wide<=19)(hc0:0 < carts.length)(hc:∀c∈carts,∃k:Int,7<=k/\k < 12/\c=a2h st k):
  ∀i:Nat,(i:Int)<=many->HInv st many carts i (a1i many wide carts i (F,[])).2
 |0,_=>⟨True.intro,fun b m=>(by cases m),Nat.le_refl _,fun b m=>(by cases m),fun b m=>(by cases m)⟩
 |i+1,hi=>by
  have ih:=c3n (wide:=wide) h hs s0 s1 m1 w0 w1 hc0 hc i (by omega)
  have gd:=a5y (many:=many) (wide:=wide) (carts:=carts) (p:=(F,[])) h i;have sJ:=a6p many wide carts (F,[]) i;show HInv st many carts (i+1) (a6j many wide carts i (a1i many wide carts i (F,[]))).2;unfold a6j;dsimp only;have so:∀later,(outsM (drawF (drawF (a1i many wide carts i (F,[])).1 3) 4) later carts).1.style=st:=fun later=>by simp only[a9c,a2u];rw[sJ];exact hs
  rw[so];have ek:many - 1+(i:Int) * (-1)=many - 1 - i:=by omega
  rw[ek];refine⟨⟨fun o ho=>?_,fun hn=>?_,fun hn=>?_,ih.fwd⟩,fun b hb=>?_,?_,fun b hb=>?_,fun b hb=>?_⟩
  ·rcases List.mem_append.mp (c9s hc0 o ho) with z|z
   ·exact .inl z
   ·exact .inr z
  ·obtain⟨b,hb,e⟩:=List.mem_map.mp hn;obtain⟨k,k1,k2,k3⟩:=ih.nm b hb;have e:b.name=a2h st (many - 1 - i):=e;rw[k3] at e;have:=b1h s0 s1 (by omega) (by omega) (by omega) (by omega) e
   omega
  ·obtain⟨k,k1,k2,k3⟩:=hc _ hn;have:=b1h s0 s1 (by omega) (by omega) (by omega) (by omega) k3
   omega
  ·rcases List.mem_cons.mp hb with rfl|hb
   ·exact⟨many - 1 - i,by omega,by omega,rfl⟩
   ·obtain⟨k,k1,k2,k3⟩:=ih.nm b hb;exact⟨k,by omega,k2,k3⟩
  ·rw[List.map_cons,List.sum_cons];have:=c9t (later:=((a1i many wide carts i (F,[])).2.map Belt.name)) (carts:=carts) ((gd.draw 3).draw 4);have:=ih.ln;dsimp only;omega
  ·rcases List.mem_cons.mp hb with rfl|hb
   ·have d0:=a0u (drawF (a1i many wide carts i (F,[])).1 3) (m:=4) (by decide)
    have d1:=a2j (drawF (a1i many wide carts i (F,[])).1 3) (m:=4) (by decide)
    dsimp only;have b1:∀x:Bool,0<=b01 x/\b01 x<=1:=fun x=>by cases x <;> decide
    have w2:∀x:Bool,0<=wide * b01 x/\wide * b01 x<=19:=fun x=>by cases x <;> simp[b01] <;> omega
    have q1:=b1 (decide (V.int (drawV (a1i many wide carts i (F,[])).1 3)=V.int 0));have q2:=w2 (decide (V.int (many - 1 - (i:Int))=V.int 0));constructor <;> omega
   ·exact ih.lg b hb
  ·rcases List.mem_cons.mp hb with rfl|hb
   ·rcases c5c (F:=drawF (drawF (a1i many wide carts i (F,[])).1 3) 4) (later:=(a1i many wide carts i (F,[])).2.map Belt.name) (carts:=carts) with z|⟨o,z1,z2⟩
    ·exact .inl z
    ·exact .inr ⟨o,z1,.tail _ z2⟩
   ·rcases ih.hd b hb with z|⟨o,z1,z2⟩
    ·exact .inl z
    ·exact .inr ⟨o,z1,.tail _ z2⟩
structure GoodD (st:Int) (h:House):Prop where
 fwd:Fwd h.carts h.belts
 sm:SmallH h
 nm:∀b∈h.belts,∃k:Int,0<=k/\k < 12/\b.name=a2h st k
 ol:∀b∈h.belts,b.outs.length<=24
 lg:∀b∈h.belts,1<=b.long/\b.long<=60
 hd:∀b∈h.belts,h.carts.getD 0 ""∈b.outs\/∃o∈b.outs,o∈h.belts.map Belt.name
 cn:h.carts.Nodup
 c0:0 < h.carts.length
 cm:∀c∈h.carts,∃k:Int,7<=k/\k < 12/\c=a2h st k
theorem c9u:∀{bs:List Belt} {b:Belt},b∈bs->b.outs.length<=(bs.map fun x=>x.outs.length).sum
 |x::bs,b,h=>by
  rw[List.map_cons,List.sum_cons];rcases List.mem_cons.mp h with rfl|h
  ·omega
  ·have:=c9u h;omega
theorem c5d(F:Feed)(h:GoodF F)(s0:0<=F.style)(s1:F.style < 12):GoodD F.style (a6a 4 F).2:=by
 have m0:=a0u F (m:=7) (by decide)
 have m1:=a2j F (m:=7) (by decide)
 have n0:=a0u (drawF F 7) (m:=4) (by decide)
 have n1:=a2j (drawF F 7) (m:=4) (by decide)
 have hcl:(a4r F.style (1+drawV (drawF F 7) 4).toNat).length=(1+drawV (drawF F 7) 4).toNat:=b1i _ _;have hcm:∀c∈a4r F.style (1+drawV (drawF F 7) 4).toNat,∃k:Int,7<=k/\k < 12/\c=a2h F.style k:=fun c m=>by
  unfold a4r at m;obtain⟨k,hk,e⟩:=List.mem_map.mp m;rw[List.mem_range] at hk;exact⟨11 - (0+(k:Int)),by omega,by omega,e.symm⟩
 have gw:GoodF (wideM (drawV F 7) (drawF (drawF F 7) 4)).1:=by
  unfold wideM;split
  ·exact(((h.draw 7).draw 4).draw 2).draw 20
  ·exact(h.draw 7).draw 4
 have sw:(wideM (drawV F 7) (drawF (drawF F 7) 4)).1.style=F.style:=by rw[c0j];simp only[a2u]
 have ww:0<=(wideM (drawV F 7) (drawF (drawF F 7) 4)).2/\(wideM (drawV F 7) (drawF (drawF F 7) 4)).2<=19:=by
  unfold wideM;split
  ·have p0:=a0u (drawF (drawF F 7) 4) (m:=2) (by decide)
   have p1:=a2j (drawF (drawF F 7) 4) (m:=2) (by decide)
   have r0:=a0u (drawF (drawF (drawF F 7) 4) 2) (m:=20) (by decide)
   have r1:=a2j (drawF (drawF (drawF F 7) 4) 2) (m:=20) (by decide)
   have:drawV (drawF (drawF F 7) 4) 2=0\/drawV (drawF (drawF F 7) 4) 2=1:=by omega
   dsimp only;rcases this with z|z <;> rw[z] <;> constructor <;> omega
  ·exact⟨Int.le_refl 0,by show(0:Int)<=19;decide⟩
 have bi:=c3n (wide:=(wideM (drawV F 7) (drawF (drawF F 7) 4)).2) gw sw s0 s1 (many:=drawV F 7) (by omega) ww.1 ww.2 (by omega) hcm (drawV F 7).toNat (by omega)
 have bl:=a6k (drawV F 7) (wideM (drawV F 7) (drawF (drawF F 7) 4)).2 (a4r F.style (1+drawV (drawF F 7) 4).toNat) ((wideM (drawV F 7) (drawF (drawF F 7) 4)).1,[]) (drawV F 7).toNat;have ln:=bi.ln;refine⟨bi.fwd,⟨?_,?_,?_⟩,fun b hb=>?_,fun b hb=>?_,bi.lg,bi.hd,?_,?_,hcm⟩
 ·show(a1i _ _ _ _ _).2.length<=100;rw[bl];simp;omega
 ·show(a4r _ _).length<=100;omega
 ·exact Nat.le_trans ln (by omega)
 ·obtain⟨k,k1,k2,k3⟩:=bi.nm b hb;exact⟨k,by omega,by omega,k3⟩
 ·exact Nat.le_trans (c9u hb) (Nat.le_trans ln (by omega))
 ·show(a4r _ _).Nodup;unfold a4r;unfold List.Nodup;rw[List.pairwise_map];refine List.Pairwise.imp_of_mem ?_ (List.nodup_range (n:=(1+drawV (drawF F 7) 4).toNat));intro i j hi hj hij e;rw[List.mem_range] at hi hj;have:=b1h s0 s1 (by omega) (by omega) (by omega) (by omega) e
  exact hij (by omega)
 ·show 0 < (a4r _ _).length;omega
theorem b9n{carts:List Str}:∀{bs:List Belt},Fwd carts bs->∀c∈carts,c∉bs.map Belt.name
 |[],_,c,_,h=>by cases h
 |b::bs,f,c,hc,h=>by
  rcases List.mem_cons.mp h with z|z
  ·exact f.2.2.1 (by rw[<-z];exact hc)
  ·exact b9n f.2.2.2 c hc z
theorem b5k{carts:List Str}:∀{xs ys:List Belt},Fwd carts (xs++ys)->Fwd carts ys
 |[],_,f=>f
 |_::xs,ys,f=>b5k (xs:=xs) f.2.2.2
theorem b5l{k:Nat}(h:xs.Nodup)(hy:y∉xs):(insS xs k y).Nodup:=by
 unfold insS;have p:(xs.take k++y::xs.drop k).Perm (y::xs):=by
  refine List.perm_middle.trans ?_;rw[List.take_append_drop]
 rw[p.nodup_iff];exact List.nodup_cons.mpr ⟨hy,h⟩
theorem c5e{carts:List Str}(h:p.2.Nodup):(a3u later carts p).2.Nodup:=by
 unfold a3u;dsimp only;split
 ·exact h
 ·rename_i hc
  exact b5l h (fun z=>hc (List.contains_iff_mem.mpr z))
theorem b5m{later carts:List Str}{p:Feed×List Str}(h:p.2.Nodup):∀n,(a3n later carts n p).2.Nodup
 |0=>h
 |n+1=>c5e (b5m h n)
theorem d2x{carts:List Str}:(outsM F later carts).2.Nodup:=by
 have h:=b5m (later:=later) (carts:=carts) (p:=(drawF F 3,[])) List.nodup_nil (1+drawV F 3).toNat;unfold outsM;dsimp only;split
 ·rename_i hc
  rw[Bool.and_eq_true,Bool.not_eq_true'] at hc;exact b5l h (fun z=>by rw[List.contains_iff_mem.mpr z] at hc;exact absurd hc.1 (by decide))
 ·exact h
theorem c3o{many wide:Int}{carts:List Str}{F:Feed}(w0:0<=wide):∀i:Nat,∀b∈(a1i many wide carts i (F,[])).2,b.outs.Nodup/\(b.ring=true->2<=b.long)
 |0,b,m=>by cases m
 |i+1,b,m=>by
  have ih:=c3o (many:=many) (wide:=wide) (carts:=carts) (F:=F) w0 i;have m:b∈(a6j many wide carts i (a1i many wide carts i (F,[]))).2:=m;unfold a6j at m;dsimp only at m;rcases List.mem_cons.mp m with rfl|m
  ·refine⟨d2x,fun hr=>?_⟩
   have d0:=a0u (drawF (a1i many wide carts i (F,[])).1 3) (m:=4) (by decide)
   have w2:∀x:Bool,0<=wide * b01 x:=fun x=>by cases x <;> simp[b01] <;> omega
   have q2:=w2 (decide (V.int (many - 1+(i:Int) * (-1))=V.int 0));dsimp only at hr ⊢;rw[hr];have:b01 true=1:=rfl;omega
  ·exact ih b m
theorem d2y(F:Feed):∀b∈(a6a 4 F).2.belts,b.outs.Nodup/\(b.ring=true->2<=b.long):=by
 have ww:0<=(wideM (drawV F 7) (drawF (drawF F 7) 4)).2:=by
  unfold wideM;split
  ·exact Int.mul_nonneg (a0u _ (by decide)) (a0u _ (by decide))
  ·exact Int.le_refl 0
 exact c3o ww _
def isT:Option (O×Gm)->Bool
 |some (.frz (.bl true),[none])=>true
 |_=>false
theorem d4s{r:Option (O×Gm)}(h:isT r=true):r=some (.frz (.bl true),[none]):=by
 unfold isT at h;split at h
 ·rfl
 ·cases h
abbrev isN(x:Str):Prop:=a6x [.frz (.str x)]=some (.frz (.bl true),[none])
abbrev noN(d:D):Prop:=a6x [.frz d]=some (.frz (.bl false),[none])
theorem c9v:∀s:Nat,s < 12->∀k:Nat,k < 12->isT (a6x [.frz (.str (a2h (s:Int) (k:Int)))])=true:=by decide +kernel
theorem b1a:∀s:Nat,s < 12->∀k:Nat,k < 12->a2h (s:Int) (k:Int)≠"oddly"/\a2h (s:Int) (k:Int)≠"nowhere"/\(a2h (s:Int) (k:Int)).length<=20:=by decide +kernel
structure GoodW (h:House):Prop where
 fwd:Fwd h.carts h.belts
 sm:SmallH h
 cm:∀c∈h.carts,isN c
 nm:∀b∈h.belts,isN b.name
 lg:∀b∈h.belts,1<=b.long/\(b.ring=true->2<=b.long)
 cn:h.carts.Nodup
 c0:0 < h.carts.length
 nd:∀b∈h.belts,b.outs.Nodup
 o0:∀b∈h.belts,b.outs≠[]
 nl:∀b∈h.belts,b.name.length<=20
 wb:∀b∈h.belts,b.name≠"nowhere"
 wc:("nowhere":Str)∉h.carts
structure GoodH (h:House):Prop extends GoodW h where
 hd:∀b∈h.belts,h.carts.getD 0 ""∈b.outs\/∃o∈b.outs,o∈h.belts.map Belt.name
 ob:∀b∈h.belts,b.name≠"oddly"
 oc:("oddly":Str)∉h.carts
 ol:∀b∈h.belts,b.outs.length<=24
theorem d2z(F:Feed)(h:GoodF F)(s0:0<=F.style)(s1:F.style < 12):GoodH (a6a 4 F).2/\(a6a 4 F).2.belts.length<=6/\(a6a 4 F).2.carts.length<=4:=by
 have g:=c5d F h s0 s1;have n:=d2y F;generalize hst:F.style=st at g s0 s1;obtain⟨sn,rfl,hs⟩:=b1v (n:=12) s0 s1;have nm:∀b∈(a6a 4 F).2.belts,∃k:Nat,k < 12/\b.name=a2h (sn:Int) (k:Int):=fun b hb=>by
  obtain⟨k,k0,k1,k2⟩:=g.nm b hb;obtain⟨kn,rfl,hk⟩:=b1v (n:=12) k0 k1;exact⟨kn,hk,k2⟩
 have cm:∀c∈(a6a 4 F).2.carts,∃k:Nat,k < 12/\c=a2h (sn:Int) (k:Int):=fun c hc=>by
  obtain⟨k,k0,k1,k2⟩:=g.cm c hc;obtain⟨kn,rfl,hk⟩:=b1v (n:=12) (x:=k) (by omega) k1
  exact⟨kn,hk,k2⟩
 have m0:=a0u F (m:=7) (by decide)
 have m1:=a2j F (m:=7) (by decide)
 have n0:=a0u (drawF F 7) (m:=4) (by decide)
 have n1:=a2j (drawF F 7) (m:=4) (by decide)
 have c4:(a6a 4 F).2.carts.length<=4:=by
  show(a4r F.style (1+drawV (drawF F 7) 4).toNat).length<=4;rw[b1i];omega
 have b6:(a6a 4 F).2.belts.length<=6:=by
  show(a1i _ _ _ _ _).2.length<=6;rw[a6k];simp;omega
 refine⟨⟨⟨g.fwd,g.sm,fun c hc=>?_,fun b hb=>?_,fun b hb=>⟨(g.lg b hb).1,(n b hb).2⟩,g.cn,g.c0,fun b hb=>(n b hb).1,fun b hb z=>?_,fun b hb=>?_,fun b hb=>?_,fun hc=>?_⟩,g.hd,fun b hb=>?_,fun hc=>?_,g.ol⟩,b6,c4⟩
 ·obtain⟨k,hk,e⟩:=cm c hc;rw[e];exact d4s (c9v sn hs k hk)
 ·obtain⟨k,hk,e⟩:=nm b hb;show isN b.name;rw[e];exact d4s (c9v sn hs k hk)
 ·rcases g.hd b hb with y|⟨o,y,_⟩
  ·rw[z] at y;cases y
  ·rw[z] at y;cases y
 ·obtain⟨k,hk,e⟩:=nm b hb;rw[e];exact(b1a sn hs k hk).2.2
 ·obtain⟨k,hk,e⟩:=nm b hb;rw[e];exact(b1a sn hs k hk).2.1
 ·obtain⟨k,hk,e⟩:=cm _ hc;exact(b1a sn hs k hk).2.1 e.symm
 ·obtain⟨k,hk,e⟩:=nm b hb;rw[e];exact(b1a sn hs k hk).1
 ·obtain⟨k,hk,e⟩:=cm _ hc;exact(b1a sn hs k hk).1 e.symm
def wbT(b:WB):D:=.tup [b.n,.int b.l,.bl b.r,.lst b.os]
abbrev beltD(b:Belt):D:=wbT (wbOf b)
def hT(bs cs:List D):D:=.tup [.lst bs,.lst cs]
def a3y(h:House):D:=hT (h.belts.map beltD) (h.carts.map .str)
abbrev fL(xs:List Str):O:=.frz (.lst (xs.map .str))
abbrev fB(b:Belt):O:=.frz (beltD b)
theorem c3p{α:Type}(enc:α->D)(xs:List α):enumD (xs.map enc)=((List.range xs.length).zip xs).map fun(p:Nat×α)=>D.tup [.int (p.1:Nat),enc p.2]:=by
 unfold enumD;rw[List.length_map,List.zipWith_map_right,List.map_zip_eq_zipWith];rfl
theorem c9w{α:Type}{g:GG}(enc:α->D)(P:List α->Gm->Prop)(xs:List α)(Γ:Gm)(h:P [] Γ)
  (st:∀q x post Γ (i:Int),xs=q++x::post->i=(q.length:Nat)->P q Γ->∃Γ2,(g (.tup [.int i,enc x]) Γ).bind f=some (.nx,Γ2)/\P (q++[x]) Γ2):∃Γ',a2a g f (enumD (xs.map enc)) Γ=some (.nx,Γ')/\P xs Γ':=by
 have hs:((List.range xs.length).zip xs).map Prod.snd=xs:=by rw[List.map_snd_zip];simp
 rw[c3p];obtain⟨Γ',e,p⟩:=a5x (g:=g) (f:=f) (fun(p:Nat×α)=>D.tup [.int (p.1:Nat),enc p.2]) (fun pre Γ=>P (pre.map Prod.snd) Γ) ((List.range xs.length).zip xs) [] Γ h (by
  intro q x post Γ e p;rw[List.nil_append] at p ⊢;have hx:xs=q.map Prod.snd++x.2::post.map Prod.snd:=by
   have:=congrArg (List.map Prod.snd) e;rw[hs] at this;rw[this,List.map_append,List.map_cons]
  have hi:x.1=q.length:=by
   have:((List.range xs.length).zip xs)[q.length]?=some x:=by rw[e,List.getElem?_append_right (Nat.le_refl _)];simp
   rw[List.getElem?_zip_eq_some] at this;have h1:=this.1;rw[List.getElem?_eq_some_iff] at h1;obtain⟨hl,h1⟩:=h1;rw[List.getElem_range] at h1;exact h1.symm
  obtain⟨Γ2,a,b⟩:=st (q.map Prod.snd) x.2 (post.map Prod.snd) Γ (x.1:Nat) hx (by rw[hi,List.length_map]) p
  exact⟨Γ2,a,by rw[List.map_append];exact b⟩)
 exact⟨Γ',e,by rw[List.nil_append,hs] at p;exact p⟩
theorem c9x{α:Type}{xs:List α}{q post:List (Nat×α)}{x:Nat×α}{n:Nat}(e:(List.range n).zip xs=q++x::post)(hn:n=xs.length):xs=q.map Prod.snd++x.2::post.map Prod.snd/\x.1=q.length:=by
 subst hn;refine⟨?_,?_⟩
 ·have:=congrArg (List.map Prod.snd) e;rw[List.map_snd_zip (by simp)] at this
  rw[this,List.map_append,List.map_cons]
 ·have:((List.range xs.length).zip xs)[q.length]?=some x:=by rw[e,List.getElem?_append_right (Nat.le_refl _)];simp
  rw[List.getElem?_zip_eq_some] at this;have h1:=this.1;rw[List.getElem?_eq_some_iff] at h1;obtain⟨hl,h1⟩:=h1;rw[List.getElem_range] at h1;exact h1.symm
theorem a8i{α:Type}{g:GG}{f:GS}(enc:α->D)(P:List α->Gm->Prop)(o:O)(R:Gm->Prop)(z:D)(rest:List D):∀(xs pre:List α) (Γ:Gm),P pre Γ->
  (∀q x post Γ,xs=q++x::post->P (pre++q) Γ->∃Γ2,(g (enc x) Γ).bind f=some (.nx,Γ2)/\P (pre++q++[x]) Γ2)->(∀Γ,P (pre++xs) Γ->∃Γ2,(g z Γ).bind f=some (.rt o,Γ2)/\R Γ2)->∃Γ',a2a g f (xs.map enc++z::rest) Γ=some (.rt o,Γ')/\R Γ'
 |[],pre,Γ,h,_,last=>by
  rw[List.append_nil] at last;obtain⟨Γ2,h2,h3⟩:=last Γ h;refine⟨Γ2,?_,h3⟩;rw[List.map_nil,List.nil_append,a5v];cases q:g z Γ with
  |none=>rw[q] at h2;cases h2
  |some Γ1=>
   rw[q] at h2;have h2:f Γ1=some (.rt o,Γ2):=h2;show(f Γ1).bind _=_;rw[h2];rfl
 |x::xs,pre,Γ,h,st,last=>by
  obtain⟨Γ2,h2,h3⟩:=st [] x xs Γ rfl (by rw[List.append_nil];exact h)
  rw[List.append_nil] at h3;obtain⟨Γ',h4,h5⟩:=a8i enc P o R z rest xs (pre++[x]) Γ2 h3 (fun q y post Γ e p=>by
   obtain⟨Γ2,b,c⟩:=st (x::q) y post Γ (by rw[e];rfl) (by rw[show pre++x::q=pre++[x]++q by simp];exact p)
   exact⟨Γ2,b,by rw[show pre++[x]++q++[y]=pre++x::q++[y] by simp];exact c⟩) (by rw[show pre++[x]++xs=pre++x::xs by simp];exact last)
  refine⟨Γ',?_,h5⟩;rw[List.map_cons,List.cons_append,a5v];cases q:g (enc x) Γ with
  |none=>rw[q] at h2;cases h2
  |some Γ1=>
   rw[q] at h2;have h2:f Γ1=some (.nx,Γ2):=h2;show(f Γ1).bind _=_;rw[h2];exact h4
theorem c3q{α:Type}{g:GG}{f:GS}(enc:α->D)(P:Gm->Prop)(o:O)(R:Gm->Prop)(M:α->Prop):∀(xs:List α) (Γ:Gm),P Γ->
  (∀x∈xs,∀Γ,P Γ->(¬M x/\∃Γ2,(g (enc x) Γ).bind f=some (.nx,Γ2)/\P Γ2)\/∃Γ2,(g (enc x) Γ).bind f=some (.rt o,Γ2)/\R Γ2)->(∃x∈xs,M x)->∃Γ',a2a g f (xs.map enc) Γ=some (.rt o,Γ')/\R Γ'
 |[],Γ,_,_,⟨x,m,_⟩=>by cases m
 |x::xs,Γ,h,st,⟨y,m,hy⟩=>by
  rw[List.map_cons,a5v];rcases st x (.head _) Γ h with⟨nm,Γ2,h2,h3⟩|⟨Γ2,h2,h3⟩
  ·have m':y∈xs:=by
    rcases List.mem_cons.mp m with rfl|m
    ·exact absurd hy nm
    ·exact m
   obtain⟨Γ',h4,h5⟩:=c3q enc P o R M xs Γ2 h3 (fun x hx=>st x (.tail _ hx)) ⟨y,m',hy⟩
   refine⟨Γ',?_,h5⟩;cases q:g (enc x) Γ with
   |none=>rw[q] at h2;cases h2
   |some Γ1=>
    rw[q] at h2;have h2:f Γ1=some (.nx,Γ2):=h2;show(f Γ1).bind _=_;rw[h2];exact h4
  ·refine⟨Γ2,?_,h3⟩;cases q:g (enc x) Γ with
   |none=>rw[q] at h2;cases h2
   |some Γ1=>
    rw[q] at h2;have h2:f Γ1=some (.rt o,Γ2):=h2;show(f Γ1).bind _=_;rw[h2];rfl
theorem c5f{α:Type}{g:GG}(enc:α->D)(P:List α->Gm->Prop)(o:O)(R:Gm->Prop)(xs:List α)(z:D)(rest:List D)(Γ:Gm)(h:P [] Γ)
  (st:∀q x post Γ (i:Int),xs=q++x::post->i=(q.length:Nat)->P q Γ->∃Γ2,(g (.tup [.int i,enc x]) Γ).bind f=some (.nx,Γ2)/\P (q++[x]) Γ2) (last:∀Γ (i:Int),i=(xs.length:Nat)->P xs Γ->∃Γ2,(g (.tup [.int i,z]) Γ).bind f=some (.rt o,Γ2)/\R Γ2):∃Γ',a2a g f (enumD (xs.map enc++z::rest)) Γ=some (.rt o,Γ')/\R Γ':=by
 have e0:enumD (xs.map enc++z::rest)=((List.range xs.length).zip xs).map (fun(p:Nat×α)=>D.tup [.int (p.1:Nat),enc p.2])++D.tup [.int (xs.length:Nat),z]::(enumD (xs.map enc++z::rest)).drop (xs.length+1):=by
  have l1:(enumD (xs.map enc++z::rest)).take xs.length=((List.range xs.length).zip xs).map (fun(p:Nat×α)=>D.tup [.int (p.1:Nat),enc p.2]):=by
   rw[<-c3p];unfold enumD;refine List.ext_getElem ?_ fun i h1 h2=>?_
   ·simp
   ·have hi:i < xs.length:=by simpa using h2
    simp[List.getElem_append,hi]
  have l2:(enumD (xs.map enc++z::rest))[xs.length]?=some (D.tup [.int (xs.length:Nat),z]):=by
   unfold enumD;simp
  obtain⟨hl,l2⟩:=List.getElem?_eq_some_iff.mp l2;have l3:=List.drop_eq_getElem_cons hl;rw[l2] at l3;rw[<-l1,<-l3,List.take_append_drop]
 rw[e0];refine a8i (g:=g) (f:=f) (fun(p:Nat×α)=>D.tup [.int (p.1:Nat),enc p.2]) (fun pre Γ=>P (pre.map Prod.snd) Γ) o R _ _ ((List.range xs.length).zip xs) [] Γ h ?_ ?_
 ·intro q x post Γ e p;rw[List.nil_append] at p ⊢;obtain⟨hx,hi⟩:=c9x e rfl;obtain⟨Γ2,a,b⟩:=st (q.map Prod.snd) x.2 (post.map Prod.snd) Γ (x.1:Nat) hx (by rw[hi,List.length_map]) p
  exact⟨Γ2,a,by rw[List.map_append];exact b⟩
 ·intro Γ p;rw[List.nil_append,List.map_snd_zip (by simp)] at p
  exact last Γ _ rfl p
theorem dl_S(cs:List Str):O.dl (cs.map fS)=cs.map D.str:=by
 rw[show cs.map fS=(cs.map D.str).map O.frz by rw[List.map_map];rfl,a4t]
theorem d7p(x:Str)(xs:List Str):oIx1 (fL (x::xs)) (.int 0)=some (.frz (.str x)):=by simp only[a4b,qq6,a2i,Option.map_some]
theorem e1u(ds:List D):oIsi [.frz (.lst ds),.frz (.ty "list")]=some (.frz (.bl true)):=by unfold oIsi;simp[kindD,isiB,O.d]
theorem xb0(b:WB):oIx1 (.frz (wbT b)) (.int 0)=some (.frz b.n):=by unfold wbT;simp only[a5p,a2i,Option.map_some]
theorem xb3(b:WB):oIx1 (.frz (wbT b)) (.int 3)=some (.frz (.lst b.os)):=by unfold wbT;simp only[a5p,b0g,Option.map_some]
theorem xh0(bs cs:List D):oIx1 (.frz (hT bs cs)) (.int 0)=some (.frz (.lst bs)):=by unfold hT;simp only[a5p,a2i,Option.map_some]
theorem xh1(bs cs:List D):oIx1 (.frz (hT bs cs)) (.int 1)=some (.frz (.lst cs)):=by unfold hT;simp only[a5p,a3q,Option.map_some]
theorem b4c:∀(xs:List WB) (acc:List D) (a:Option O),acc.length+xs.length < 1000000->∃a',compLoop (a0p 0) gYes (gBin oIx (gVar 0) (gC (.int 0))) (xs.map wbT) [a] (acc.map .frz)=some ((acc++xs.map WB.n).map .frz,[a'])
 |[],acc,a,_=>⟨a,by rw[List.map_nil,b0f,List.map_nil,List.append_nil]⟩
 |x::xs,acc,a,h=>by
  rw[List.length_cons] at h;have hl:(acc.map O.frz).length < 1000000:=by rw[List.length_map];omega
  obtain⟨a',e⟩:=b4c xs (acc++[x.n]) (some (.frz (wbT x))) (by rw[List.length_append,List.length_singleton];omega)
  refine⟨a',?_⟩;rw[List.map_cons (f:=WB.n),show acc++x.n::xs.map WB.n=acc++[x.n]++xs.map WB.n by simp]
  rw[<-e,List.map_append];simp only[qq6,a7z,a1q,qq2,qq3,qqf,Nat.reduceLT,qq4,if_true,↓evBind,b3i,a1e,a0f,a0n,qq0,a3s,a0h,a0k,a0i,a0j,a3e,xb0,a1h,a1b,hl,qq7]
theorem c3r(bs:List WB)(h:bs.length < 1000000):a2t [.frz (.lst (bs.map wbT))]=some (.lst ((bs.map WB.n).map .frz),[none]):=by
 obtain⟨a',e⟩:=b4c bs [] none (by rw[List.length_nil];omega)
 rw[List.map_nil,List.nil_append] at e;unfold a2t a8f;simp only[a1n,qq6,qq7,qq2,qq3,qqf,Nat.reduceSub,qq8,List.append_nil,a3p,a4k,b1q,a1j,a0n,qq0,↓evBind,a1o,qq9,a4f,e,Nat.reduceAdd,List.drop_succ_cons,List.drop_zero,a4g,if_true,a3x,qqa,qqd,a2y,a2o]
theorem c9y(bs:List Belt)(h:bs.length < 1000000):a2t [.frz (.lst (bs.map beltD))]=some (.lst ((bs.map Belt.name).map fS),[none]):=by
 have e:=c3r (bs.map wbOf) (by rw[List.length_map];exact h)
 rw[List.map_map,List.map_map,List.map_map] at e;rw[List.map_map];exact e
def kd(ks:List Str):List (TK×O):=ks.map fun k=>(TK.inr k,.frz (.bl true))
def kdD(ks:List Str):List (TK×D):=ks.map fun k=>(TK.inr k,.bl true)
def addS(ks:List Str)(k:Str):List Str:=if ks.contains k then ks else ks++[k]
theorem e0s:∀ks:List Str,O.dk (kd ks)=kdD ks
 |[]=>rfl
 |k::ks=>by
  show(_,_)::O.dk (kd ks)=_;rw[e0s ks];rfl
theorem d4t(x:Str):∀ks:List Str,(valD (kdD ks) (.inr x)).isSome=ks.contains x
 |[]=>rfl
 |k::ks=>by
  have ih:=d4t x ks;unfold valD kdD at *;rw[List.map_cons,List.find?_cons,List.contains_cons];by_cases e:k=x
  ·rw[decide_eq_true (by rw[e]),e,beq_self_eq_true]
   rfl
  ·rw[decide_eq_false (fun z=>e (TK.inr.inj z)),show(x == k)=false by rw[beq_eq_false_iff_ne];exact fun z=>e z.symm]
   rw[Bool.false_or];exact ih
theorem b9o(neg:Bool)(x:Str)(ks:List Str):oInG neg [.frz (.str x),.dct (kd ks)]=some (.frz (.bl (if neg then !ks.contains x else ks.contains x))):=by
 unfold oInG;simp only[dictO,e0s,keyD,Option.bind_some,d4t]
theorem d4u(k:Str):∀ks:List Str,putG (kd ks) (.inr k) (.frz (.bl true))=kd (addS ks k)
 |[]=>rfl
 |j::ks=>by
  have ih:=d4u k ks;show(if(TK.inr j)=TK.inr k then(TK.inr j,O.frz (.bl true))::kd ks else(TK.inr j,O.frz (.bl true))::putG (kd ks) (.inr k) (.frz (.bl true)))=_
  unfold addS at *;rw[List.contains_cons];by_cases e:j=k
  ·rw[if_pos (by rw[e]),e,beq_self_eq_true,Bool.true_or,if_pos rfl];rfl
  ·rw[if_neg (fun z=>e (TK.inr.inj z)),ih,show(k == j)=false by rw[beq_eq_false_iff_ne];exact fun z=>e z.symm,Bool.false_or]
   cases ks.contains k with
   |true=>rw[if_pos rfl,if_pos rfl];rfl
   |false=>rw[if_neg Bool.false_ne_true,if_neg Bool.false_ne_true];rfl
theorem d4v(ks:List Str)(k:Str)(h:ks.length < 1000000):mSet (.dct (kd ks)) [.frz (.bl true),.frz (.str k)]=some (.dct (kd (addS ks k)),.frz .non):=by
 show(if(kd ks).length < 1000000 then some (O.dct (putG (kd ks) (.inr k) (.frz (.bl true))),O.frz .non) else none)=_
 rw[if_pos (by unfold kd;rw[List.length_map];exact h),d4u]
theorem c3s(ks:List Str)(k:Str):(addS ks k).length<=ks.length+1:=by
 unfold addS;split
 ·omega
 ·rw[List.length_append,List.length_singleton];exact Nat.le_refl _
theorem d3a{k:Str}:n∈addS ks k↔n=k\/n∈ks:=by
 unfold addS;split
 ·rename_i h
  rw[List.contains_iff_mem] at h;constructor
  ·exact .inr
  ·rintro(rfl|h')
   ·exact h
   ·exact h'
 ·rw[List.mem_append,List.mem_singleton];exact Or.comm
theorem c3t:∀(outs ks:List Str) (g0 g1 g3 g4 g5 g6 a:Option O),ks.length+outs.length < 1000000->∃a',a2a (a0p 7) (gsPut (gC (.bl true)) (gVar 2) (gVar 7)) (outs.map D.str) [g0,g1,some (.dct (kd ks)),g3,g4,g5,g6,a] =
  some (.nx,[g0,g1,some (.dct (kd (outs.foldl addS ks))),g3,g4,g5,g6,a'])
 |[],ks,g0,g1,g3,g4,g5,g6,a,_=>⟨a,rfl⟩
 |o::outs,ks,g0,g1,g3,g4,g5,g6,a,h=>by
  rw[List.length_cons] at h;have hl:=c3s ks o;obtain⟨a',e⟩:=c3t outs (addS ks o) g0 g1 g3 g4 g5 g6 (some (fS o)) (by omega)
  refine⟨a',?_⟩;rw[List.foldl_cons,<-e];simp only[qq6,a5v,a1q,qq2,qq3,qqf,Nat.reduceAdd,Nat.reduceLT,qq5,qq4,if_true,↓evBind,b4w,a3s,a0n,qq1,qq0,d4v ks o (by omega)]
def stepF(b:Str)(ks:List Str)(x:Belt):List Str:=if(x.name == b || ks.contains x.name)=true then x.outs.foldl addS ks else ks
theorem d3b(outs:List Str):∀ks:List Str,(outs.foldl addS ks).length<=ks.length+outs.length:=by
 induction outs with
 |nil=>intro ks;exact Nat.le_refl _
 |cons o outs ih=>
  intro ks;rw[List.foldl_cons,List.length_cons];have:=ih (addS ks o);have:=c3s ks o;omega
theorem a8u(b:Str)(hd:D):∀(bs:List Belt) (ks:List Str) (a3 a4 a5 a6 a7:Option O),ks.length+(bs.map fun x=>x.outs.length).sum < 1000000->∃b3 b4 b5 b6 b7,a2a (ggTup [(a0p 3),(a0p 4),(a0p 5),(a0p 6)])
  (gsIf (gOrT (gT (gBin oEq (gVar 3) (gVar 1))) (gT (gBin (oInG false) (gVar 3) (gVar 2))))
  (gsFor (gVar 6) (a0p 7)
  (gsPut (gC (.bl true)) (gVar 2) (gVar 7)))
  gsNil) (bs.map beltD) [some (.frz hd),some (fS b),some (.dct (kd ks)),a3,a4,a5,a6,a7]=some (.nx,[some (.frz hd),some (fS b),some (.dct (kd (bs.foldl (stepF b) ks))),b3,b4,b5,b6,b7])
 |[],ks,a3,a4,a5,a6,a7,_=>⟨a3,a4,a5,a6,a7,rfl⟩
 |x::bs,ks,a3,a4,a5,a6,a7,h=>by
  rw[List.map_cons,List.sum_cons] at h;have hf:=d3b x.outs ks;obtain⟨a',e1⟩:=c3t x.outs ks (some (.frz hd)) (some (fS b)) (some (.frz (.str x.name))) (some (.frz (.int x.long))) (some (.frz (.bl x.ring))) (some (.frz (.lst (x.outs.map .str)))) a7 (by omega)
  cases c1:x.name == b with
  |true=>
   obtain⟨b3,b4,b5,b6,b7,e⟩:=a8u b hd bs (x.outs.foldl addS ks) (some (.frz (.str x.name))) (some (.frz (.int x.long))) (some (.frz (.bl x.ring))) (some (.frz (.lst (x.outs.map .str)))) a' (by omega)
   refine⟨b3,b4,b5,b6,b7,?_⟩;rw[List.foldl_cons,show stepF b ks x=x.outs.foldl addS ks by unfold stepF;rw[c1,Bool.true_or,if_pos rfl],<-e,List.map_cons]
   rw[show beltD x=.tup [.str x.name,.int x.long,.bl x.ring,.lst (x.outs.map .str)] from rfl];simp only[a5v,a7h,a5u,a1q,qq2,qq3,qqf,Nat.reduceAdd,Nat.reduceLT,qq5,qq4,if_true,↓evBind,a5t,a1m,b0d,a5z,a1e,a0f,a0n,qq1,qq0,a0h,a0k,a0i,a0j,a4p,a1o,a6q,and_self,b0i,c1,a2x,Option.join_some,a6m,a1j,e1,a1p]
  |false=>
   cases c2:ks.contains x.name with
   |true=>
    obtain⟨b3,b4,b5,b6,b7,e⟩:=a8u b hd bs (x.outs.foldl addS ks) (some (.frz (.str x.name))) (some (.frz (.int x.long))) (some (.frz (.bl x.ring))) (some (.frz (.lst (x.outs.map .str)))) a' (by omega)
    refine⟨b3,b4,b5,b6,b7,?_⟩;rw[List.foldl_cons,show stepF b ks x=x.outs.foldl addS ks by unfold stepF;rw[c1,c2,Bool.or_true,if_pos rfl],<-e,List.map_cons]
    rw[show beltD x=.tup [.str x.name,.int x.long,.bl x.ring,.lst (x.outs.map .str)] from rfl];simp only[a5v,a7h,a5u,a1q,qq2,qq3,qqf,Nat.reduceAdd,Nat.reduceLT,qq5,qq4,if_true,↓evBind,a5t,a1m,b0d,a5z,a1e,a0f,a0n,qq1,qq0,a0h,a0k,a0i,a0j,a4p,a1o,a6q,and_self,b0i,c1,qqe,a2x,Option.join_some,b9o,c2,if_false,a6m,a1j,e1,a1p]
   |false=>
    obtain⟨b3,b4,b5,b6,b7,e⟩:=a8u b hd bs ks (some (.frz (.str x.name))) (some (.frz (.int x.long))) (some (.frz (.bl x.ring))) (some (.frz (.lst (x.outs.map .str)))) a7 (by omega)
    refine⟨b3,b4,b5,b6,b7,?_⟩;rw[List.foldl_cons,show stepF b ks x=ks by unfold stepF;rw[c1,c2,Bool.false_or,if_neg Bool.false_ne_true],<-e,List.map_cons]
    rw[show beltD x=.tup [.str x.name,.int x.long,.bl x.ring,.lst (x.outs.map .str)] from rfl];simp only[a5v,a7h,a5u,a1q,qq2,qq3,qqf,Nat.reduceAdd,Nat.reduceLT,qq5,qq4,if_true,↓evBind,a5t,a1m,b0d,a5z,a1e,a0f,a0n,qq1,qq0,a0h,a0k,a0i,a0j,a4p,a1o,a6q,and_self,b0i,c1,qqe,a2x,Option.join_some,b9o,c2,if_false,a6m,a1j,a1p]
theorem b7l(ks:List Str)(o:O)(ho:∀x,oInG false [.frz (.str x),o]=some (.frz (.bl (ks.contains x))))(hv:gVar 1=gVar 1):∀(xs acc:List Str) (a:Option O),acc.length+xs.length < 1000000->(∀Γ0:Option O,∃r,gVar 1 [Γ0,some o]=some (r,[Γ0,some o])/\seeR [Γ0,some o] r=some o)->
  ∃a',compLoop (a0p 0) (gT (gBin (oInG false) (gVar 0) (gVar 1))) (gVar 0) (xs.map D.str) [a,some o] (acc.map fS)=some ((acc++xs.filter fun x=>ks.contains x).map fS,[a',some o])
 |[],acc,a,_,_=>⟨a,by rw[List.map_nil,b0f,List.filter_nil,List.append_nil]⟩
 |x::xs,acc,a,h,hg=>by
  rw[List.length_cons] at h;have hl:(acc.map fS).length < 1000000:=by rw[List.length_map];omega
  obtain⟨r,r1,r2⟩:=hg (some (.frz (.str x)));have v0:gVar 0 [some (.frz (.str x)),some o]=some (.own (.frz (.str x)),[some (.frz (.str x)),some o]):=rfl;cases hc:ks.contains x with
  |true=>
   obtain⟨a',e⟩:=b7l ks o ho hv xs (acc++[x]) (some (fS x)) (by rw[List.length_append,List.length_singleton];omega) hg
   refine⟨a',?_⟩;rw[List.filter_cons,if_pos hc,show acc++x::(xs.filter fun o=>ks.contains o)=acc++[x]++(xs.filter fun o=>ks.contains o) by simp]
   rw[<-e,List.map_append];simp only[↓evBind,↓evMap,qq6,qq7,a7z,a1q,qq2,qq3,Nat.reduceAdd,Nat.reduceLT,if_true,qq4,Option.bind_some,a5z,a1e,a0f,a0h,v0,r1,a0k,a0j,a0i,r2,ho,hc,a1h,a1b,hl]
  |false=>
   obtain⟨a',e⟩:=b7l ks o ho hv xs acc (some (fS x)) (by omega) hg
   refine⟨a',?_⟩;rw[List.filter_cons,if_neg (by rw[hc];exact Bool.false_ne_true)]
   rw[<-e];simp only[↓evBind,↓evMap,qq6,qq7,a7z,a1q,qq2,qq3,Nat.reduceAdd,Nat.reduceLT,if_true,qq4,Option.bind_some,a5z,a1e,a0f,a0h,v0,r1,a0k,a0j,a0i,r2,ho,hc,a1h,a1b,hl,qqe,if_false]
def a4x(bs:List Belt)(b:Str):List Str:=bs.foldl (stepF b) []
theorem c9z(h:House)(b:Str)(sm:SmallH h):b0u [.frz (a3y h),fS b]=some (.lst (((h.belts.map Belt.name++h.carts).filter fun x=>(a4x h.belts b).contains x).map fS),[none,none]):=by
 have hb:=sm.bl;have hc:=sm.ct;obtain⟨b3,b4,b5,b6,b7,e1⟩:=a8u b (a3y h) h.belts [] none none none none none (by have:=sm.ou;rw[List.length_nil];omega)
 have e2:=c9y h.belts (by omega)
 obtain⟨a',e3⟩:=b7l (a4x h.belts b) (.dct (kd (a4x h.belts b))) (fun x=>b9o false x _) rfl (h.belts.map Belt.name++h.carts) [] none (by rw[List.length_nil,List.length_append,List.length_map];omega) (fun Γ0=>⟨.var 1,rfl,rfl⟩)
 rw[List.map_nil,List.nil_append] at e3;have c1:(h.belts.length+h.carts.length<=1000000)=True:=eq_true (by omega)
 have kd0:kd []=[]:=rfl;unfold b0u b3x;unfold a4x at *;rw[kd0] at e1;unfold a3y hT at *;simp only[a1n,qq6,qq7,qq2,qq3,qqf,Nat.reduceAdd,Nat.reduceSub,qq9,qq8,qqb,qqc,a0r,a1t,a8p,↓evBind,Nat.reduceLT,qq5,qq4,if_true,a6m,a1j,a1e,a0f,a0n,qq0,a3s,a0h,a0k,a0i,a0j,a3e,a5p,a2i,↓evMap,a1o,e1,a3p,a4k,b1q,a1k,a0x,a0w,e2,a2f,a2e,a3q,c2r,b3k,c9q,List.length_map,c1,<-List.map_append,a5a,b1y,a8q,qq1,Option.join_some,a4f,e3,List.drop_succ_cons,List.drop_zero,a8r,a4g,a3x,qqa,qqd,a2y,a2o]
inductive RR (bs:List Belt) (outs:List Str):Str->Prop
 |base {n:Str}:n∈outs->RR bs outs n
 |step {m n:Str} {b:Belt}:RR bs outs m->b∈bs->b.name=m->n∈b.outs->RR bs outs n
theorem mem_fold{outs:List Str}:∀{ks:List Str} {n:Str},n∈outs.foldl addS ks↔n∈outs\/n∈ks:=by
 induction outs with
 |nil=>intro ks n;simp
 |cons o outs ih=>
  intro ks n;rw[List.foldl_cons,ih,d3a,List.mem_cons];constructor
  ·rintro(h|h|h)
   ·exact .inl (.inr h)
   ·exact .inl (.inl h)
   ·exact .inr h
  ·rintro((h|h)|h)
   ·exact .inr (.inl h)
   ·exact .inl h
   ·exact .inr (.inr h)
theorem d0a{x:Belt}(h:n∈ks):n∈stepF b ks x:=by
 unfold stepF;split
 ·exact mem_fold.mpr (.inr h)
 ·exact h
theorem d0b{bs:List Belt}:∀{ks:List Str} {n:Str},n∈ks->n∈bs.foldl (stepF b) ks:=by
 induction bs with
 |nil=>intro ks n h;exact h
 |cons x bs ih=>intro ks n h;exact ih (d0a h)
theorem b9p{carts:List Str}{b:Str}:∀{bs:List Belt} {ks:List Str} {n:Str},Fwd carts bs->n∈bs.foldl (stepF b) ks->n∈ks\/n∈bs.tail.map Belt.name\/n∈carts
 |[],ks,n,_,h=>.inl h
 |x::bs,ks,n,f,h=>by
  rcases b9p f.2.2.2 h with z|z|z
  ·unfold stepF at z;split at z
   ·rcases mem_fold.mp z with z|z
    ·rcases f.1 n z with z|z
     ·exact .inr (.inl z)
     ·exact .inr (.inr z)
    ·exact .inl z
   ·exact .inl z
  ·refine .inr (.inl ?_);cases bs with
   |nil=>exact z
   |cons y bs=>exact List.mem_cons_of_mem _ z
  ·exact .inr (.inr z)
theorem a8j{carts:List Str}{b:Str}:∀{bs:List Belt} {ks:List Str},Fwd carts bs->∀x∈bs,(x.name=b\/x.name∈bs.foldl (stepF b) ks)->∀o∈x.outs,o∈bs.foldl (stepF b) ks
 |y::bs,ks,f,x,hx,hn,o,ho=>by
  rcases List.mem_cons.mp hx with rfl|hx
  ·have h1:(x.name == b || ks.contains x.name)=true:=by
    rcases hn with hn|hn
    ·rw[hn,beq_self_eq_true,Bool.true_or]
    ·rcases b9p (b:=b) f hn with z|z|z
     ·rw[List.contains_iff_mem.mpr z,Bool.or_true]
     ·exact absurd z f.2.1
     ·exact absurd z f.2.2.1
   show o∈bs.foldl (stepF b) (stepF b ks x);refine d0b ?_;unfold stepF;rw[if_pos h1];exact mem_fold.mpr (.inl ho)
  ·exact a8j (ks:=stepF b ks y) f.2.2.2 x hx hn o ho
theorem c3u{bs0:List Belt}{b:Belt}(hb:b∈bs0)(hu:∀x∈bs0,x.name=b.name->x=b):∀{bs:List Belt} {ks:List Str},(∀x∈bs,x∈bs0)->(∀n∈ks,RR bs0 b.outs n)->∀n∈bs.foldl (stepF b.name) ks,RR bs0 b.outs n
 |[],ks,_,h,n,hn=>h n hn
 |x::bs,ks,hs,h,n,hn=>c3u hb hu (fun y hy=>hs y (List.mem_cons_of_mem _ hy)) (fun m hm=>by
   unfold stepF at hm;split at hm
   ·rename_i hc
    rcases mem_fold.mp hm with z|z
    ·rw[Bool.or_eq_true,beq_iff_eq,List.contains_iff_mem] at hc;rcases hc with hc|hc
     ·rw[hu x (hs x List.mem_cons_self) hc] at z;exact .base z
     ·exact .step (h _ hc) (hs x List.mem_cons_self) rfl z
    ·exact h m z
   ·exact h m hm) n hn
theorem b9q(f:Fwd h.carts h.belts){b:Belt}(hb:b∈h.belts)(n:Str):n∈a4x h.belts b.name↔RR h.belts b.outs n:=by
 unfold a4x;constructor
 ·exact c3u hb (fun x hx e=>c3m f x hx b hb e) (fun _ m=>m) (fun _ m=>by cases m) n
 ·intro r
  induction r with
  |base m=>exact a8j f b hb (.inl rfl) _ m
  |step r hx hn hm ih=>exact a8j f _ hx (.inr (by rw[hn];exact ih)) _ hm
def BadN(ks:List Str)(d:D):Prop:=noN d\/∃x,d=.str x/\isN x/\x∈ks
theorem d0c(x:Str)(ks:List Str)(e1:isN x)(hx:x∉ks)(hl:ks.length < 1000):a2z [fS x,.dct (kd ks)]=some (.frz .non,[none,some (.dct (kd (ks++[x])))]):=by
 have hc:ks.contains x=false:=by rw[<-Bool.not_eq_true,List.contains_iff_mem];exact hx
 have e2:=b9o false x ks;rw[hc,if_neg Bool.false_ne_true] at e2;have e3:=d4v ks x (by omega)
 have ea:addS ks x=ks++[x]:=by unfold addS;rw[hc,if_neg Bool.false_ne_true]
 rw[ea] at e3;generalize kd (ks++[x])=k2 at *;generalize kd ks=k1 at *;unfold a2z a6g;simp only[a1n,qq6,qq7,qq2,qq3,qqf,Nat.reduceAdd,Nat.reduceSub,qq8,List.append_nil,a0r,a1m,b0d,a6d,a4e,b0h,a0f,a0n,qq0,↓evBind,a0h,a0k,a0i,a0j,a6f,a1o,a6e,e1,c0v,a5n,Bool.not_true,qqe,a5z,a1e,qq1,a2x,Option.join_some,e2,if_false,a5e,a3s,a1p,b4w,e3,qq5,qq4,b3l,qqa,qqd,a2y,a5m,a2o,if_true]
theorem b9r(d:D)(ks:List Str)(h:BadN ks d):a2z [.frz d,.dct (kd ks)]=some (.frz (.exc 37 none),[none,some (.dct (kd ks))]):=by
 rcases h with e1|⟨x,rfl,e1,hx⟩
 ·generalize kd ks=k1 at *;unfold a2z a6g;simp only[a1n,qq6,qq7,qq2,qq3,qqf,Nat.reduceAdd,Nat.reduceSub,qq8,List.append_nil,a0r,a1m,b0d,a6d,a4e,b0h,a0f,a0n,qq0,↓evBind,a0h,a0k,a0i,a0j,a6f,a1o,a6e,e1,c0v,a5n,Bool.not_false,a5z,a1e,qq1,a2x,Option.join_some,if_true,a5e,a3s,a1p,a3x,qqa,qqd,a2y,a5m,a2o]
 ·have e2:=b9o false x ks;rw[List.contains_iff_mem.mpr hx,if_neg Bool.false_ne_true] at e2;generalize kd ks=k1 at *;unfold a2z a6g;simp only[a1n,qq6,qq7,qq2,qq3,qqf,Nat.reduceAdd,Nat.reduceSub,qq8,List.append_nil,a0r,a1m,b0d,a6d,a4e,b0h,a0f,a0n,qq0,↓evBind,a0h,a0k,a0i,a0j,a6f,a1o,a6e,e1,c0v,a5n,Bool.not_true,qqe,a5z,a1e,qq1,a2x,Option.join_some,e2,if_false,a5e,a3s,a1p,if_true,a3x,qqa,qqd,a2y,a5m,a2o]
def cartB:GS:=a6r (gCall a2z (a0a (gVar 2) (a0a (gVar 1) gaNil)))
theorem b9s{a:Option O}{q:List Str}(e0:isN x)(hx:x∉q)(hq:q.length < 1000):((a0p 2) (D.str x) [s0,some (.dct (kd q)),a]).bind cartB=some (.nx,[s0,some (.dct (kd (q++[x]))),some (fS x)]):=by
 have e1:=d0c x q e0 hx hq;generalize kd (q++[x])=k2 at *;generalize kd q=k1 at *;unfold cartB;simp only[a1q,qq2,qq3,qqf,Nat.reduceAdd,Nat.reduceLT,qq5,qq4,if_true,↓evBind,a4h,a1k,a0f,a0n,qq1,qq0,a0h,a0x,a1s,a0w,e1,a2f,a3m,a2e,a7l]
theorem d7q{cs:List Str}(cn:cs.Nodup)(cm:∀c∈cs,isN c)(c0:0 < cs.length)(ct:cs.length<=100):a1l [fL cs,.dct (kd [])]=some (.frz .non,[none,some (.dct (kd cs))]):=by
 obtain⟨Γ',e,a,rfl⟩:=a5x (g:=a0p 2) (f:=cartB) D.str (fun pre Γ=>∃a,Γ=[some (fL cs),some (.dct (kd pre)),a]) cs [] [some (fL cs),some (.dct (kd [])),none] ⟨_,rfl⟩ (by
  rintro q x post Γ eq ⟨a,rfl⟩;rw[List.nil_append] at *;have hx:x∉q:=fun z=>by
   rw[eq] at cn;exact(List.nodup_append.mp cn).2.2 x z x (.head _) rfl
  exact⟨_,b9s (cm x (by rw[eq];simp)) hx (by have:=congrArg List.length eq;simp at this;omega),_,rfl⟩)
 rw[List.nil_append] at e;have ht:(cs.map D.str).isEmpty=false:=by
  cases hcs:cs with
  |nil=>rw[hcs] at c0;simp at c0
  |cons _ _=>rfl
 unfold a1l a4o;unfold cartB at e;generalize kd cs=k2 at *;generalize kd []=k1 at *;simp only[a1n,qq6,qq7,qq2,qq3,qqf,Nat.reduceAdd,Nat.reduceSub,qq9,qq8,qqb,qqc,a0r,a6m,a1j,a0n,qq0,↓evBind,a1o,e,a1m,a6d,a4e,a0i,a7i,ht,Bool.not_false,Bool.not_true,qqe,a5e,a3s,a1p,if_false,b3l,qqa,qqd,a2y,a5m,a2o,if_true]
theorem c5g{d:D}{rest:List D}(cn:pre.Nodup)(cm:∀c∈pre,isN c)(ct:pre.length<=100)(hb:BadN pre d):a1l [.frz (.lst (pre.map .str++d::rest)),.dct (kd [])]=some (.frz (.exc 37 none),[none,some (.dct (kd pre))]):=by
 obtain⟨Γ',e,a,rfl⟩:=a8i (g:=a0p 2) (f:=cartB) D.str (fun q Γ=>∃a,Γ=[some (.frz (.lst (pre.map .str++d::rest))),some (.dct (kd q)),a]) (.frz (.exc 37 none)) (fun Γ=>∃a,Γ=[some (.frz (.lst (pre.map .str++d::rest))),some (.dct (kd pre)),a]) d rest pre [] [some (.frz (.lst (pre.map .str++d::rest))),some (.dct (kd [])),none] ⟨_,rfl⟩ (by
  rintro q x post Γ eq ⟨a,rfl⟩;rw[List.nil_append] at *;have hx:x∉q:=fun z=>by
   rw[eq] at cn;exact(List.nodup_append.mp cn).2.2 x z x (.head _) rfl
  exact⟨_,b9s (cm x (by rw[eq];simp)) hx (by have:=congrArg List.length eq;simp at this;omega),_,rfl⟩) (by
  rintro Γ ⟨a,rfl⟩;rw[List.nil_append] at *;have e1:=b9r d pre hb;refine⟨[some (.frz (.lst (pre.map .str++d::rest))),some (.dct (kd pre)),some (.frz d)],?_,_,rfl⟩;generalize kd pre=k1 at *;unfold cartB;simp only[a1q,qq2,qq3,qqf,Nat.reduceAdd,Nat.reduceLT,qq5,qq4,if_true,↓evBind,a4h,a1k,a0f,a0n,qq1,qq0,a0h,a0x,a1s,a0w,e1,a2f,a3m,a2e,a6t])
 unfold a1l a4o;unfold cartB at e;generalize kd pre=k2 at *;generalize kd []=k1 at *;generalize pre.map D.str++d::rest=l at *;simp only[a1n,qq6,qq7,qq2,qq3,qqf,Nat.reduceAdd,Nat.reduceSub,qq9,qq8,qqb,qqc,a0r,a6m,a1j,a0n,qq0,↓evBind,a1o,e,a3x,qqa,qqd,a2y,a5m,a2o,if_true]
theorem c1h:a1l [.frz (.lst []),.dct (kd [])]=some (.frz (.exc 73 none),[none,some (.dct (kd []))]):=by
 unfold a1l a4o;generalize kd []=k1 at *;simp only[a1n,qq6,qq7,qq2,qq3,qqf,Nat.reduceAdd,Nat.reduceSub,qq9,qq8,qqb,qqc,a0r,a6m,a1j,a0n,qq0,↓evBind,a1o,c2q,a1m,a6d,a4e,a0i,a7i,List.isEmpty_nil,Bool.not_true,Bool.not_false,a5e,a3s,a1p,if_true,a3x,qqa,qqd,a2y,a5m,a2o]
def encP(p:Belt×List D):WB:=⟨.str p.1.name,p.1.long,p.1.ring,p.2⟩
abbrev eP(p:Belt×List D):D:=wbT (encP p)
def lessB:GS:=a6s 49 (a7j (a3r (gC (.str "belt ")) (a3r (gUn oFmt (gVar 2)) (a3r (gC (.str " has fewer than ")) (a3r (gUn oFmt (gVar 6)) (a3r (gC (.str " cells")) gjNil))))))
def beltC:GS:=(a0l (a6r (gCall a2z (a0a (gVar 2) (a0a (gVar 1) gaNil))))
 (a0l (gsSet 6 (gFrz (gIf (gTru (gVar 4)) (gC (.int 2)) (gC (.int 1)))))
 (gsIf (gT (gBin oLt (gVar 3) (gVar 6)))
  lessB
  gsNil)))
abbrev beltG:GG:=ggTup [(a0p 2),(a0p 3),(a0p 4),(a0p 5)]
theorem b5n:a7r=gsFor (gVar 0) beltG beltC:=rfl
def least(r:Bool):Int:=if r=true then 2 else 1
theorem b9t{a2 a3 a4 a5 a6:Option O}{p:Belt×List D}(e0:isN p.1.name)(hx:p.1.name∉ks)(hq:ks.length < 1000)(hg:1<=p.1.long/\(p.1.ring=true->2<=p.1.long)):(beltG (eP p) [s0,some (.dct (kd ks)),a2,a3,a4,a5,a6]).bind beltC=some (.nx,[s0,some (.dct (kd (ks++[p.1.name]))),some (fS p.1.name),some (.frz (.int p.1.long)),some (.frz (.bl p.1.ring)),some (.frz (.lst p.2)),some (.frz (.int (least p.1.ring)))]):=by
 have e1:=d0c p.1.name ks e0 hx hq;generalize kd (ks++[p.1.name])=k2 at *;generalize kd ks=k1 at *;rw[show eP p=.tup [.str p.1.name,.int p.1.long,.bl p.1.ring,.lst p.2] from rfl];unfold beltC least;cases hr:p.1.ring with
 |true=>
  have c2:decide (p.1.long < 2)=false:=by have:=hg.2 hr;simp;omega
  simp only[a7h,a5u,a1q,qq2,qq3,qqf,Nat.reduceAdd,Nat.reduceLT,qq5,qq4,if_true,↓evBind,a5t,a0r,a4h,a1k,a0f,a0n,qq1,qq0,a0h,a0x,a1s,a0w,e1,a2f,a3m,a2e,a7l,a1t,a1j,c7v,a4e,a0i,a5n,a3s,a1o,a1m,a5z,a1e,a0k,a0j,a3d,c2,qqe,a1p,if_false]
 |false=>
  have c2:decide (p.1.long < 1)=false:=by have:=hg.1;simp;omega
  simp only[a7h,a5u,a1q,qq2,qq3,qqf,Nat.reduceAdd,Nat.reduceLT,qq5,qq4,if_true,↓evBind,a5t,a0r,a4h,a1k,a0f,a0n,qq1,qq0,a0h,a0x,a1s,a0w,e1,a2f,a3m,a2e,a7l,a1t,a1j,c7v,a4e,a0i,a5n,qqe,a3s,if_false,a1o,a1m,a5z,a1e,a0k,a0j,a3d,c2,a1p]
structure NmOk (gc:List Str) (bs:List Belt):Prop where
 nd:(gc++bs.map Belt.name).Nodup
 nm:∀b∈bs,isN b.name
 lg:∀b∈bs,1<=b.long/\(b.ring=true->2<=b.long)
 ln:gc.length+bs.length < 1000
theorem NmOk.at{gc:List Str}{q:List (Belt×List D)}{x:Belt×List D}{post:List (Belt×List D)}(h:NmOk gc ((q++x::post).map Prod.fst)):isN x.1.name/\x.1.name∉gc++(q.map Prod.fst).map Belt.name/\(gc++(q.map Prod.fst).map Belt.name).length < 1000/\(1<=x.1.long/\(x.1.ring=true->2<=x.1.long)):=by
 have hm:x.1∈(q++x::post).map Prod.fst:=by simp
 refine⟨h.nm _ hm,fun z=>?_,?_,h.lg _ hm⟩
 ·have:=h.nd;rw[List.map_append,List.map_append,<-List.append_assoc] at this;exact(List.nodup_append.mp this).2.2 _ z _ (by rw[List.map_cons,List.map_cons];exact .head _) rfl
 ·have:=h.ln;simp at this ⊢;omega
theorem d0d(h:NmOk gc (q.map Prod.fst)):a1r [.frz (.lst (q.map eP)),.dct (kd gc)]=some (.frz .non,[none,some (.dct (kd (gc++(q.map Prod.fst).map Belt.name)))]):=by
 obtain⟨Γ',e,a2,a3,a4,a5,a6,rfl⟩:=a5x (g:=beltG) (f:=beltC) eP (fun pre Γ=>∃a2 a3 a4 a5 a6,Γ=[some (.frz (.lst (q.map eP))),some (.dct (kd (gc++(pre.map Prod.fst).map Belt.name))),a2,a3,a4,a5,a6]) q [] [some (.frz (.lst (q.map eP))),some (.dct (kd gc)),none,none,none,none,none] ⟨none,none,none,none,none,by rw[List.map_nil,List.map_nil,List.append_nil]⟩ (by
  rintro pre x post Γ eq ⟨a2,a3,a4,a5,a6,rfl⟩;rw[List.nil_append] at *;rw[eq] at h;obtain⟨h1,h2,h3,h4⟩:=h.at;have:=b9t (s0:=some (.frz (.lst (q.map eP)))) (a2:=a2) (a3:=a3) (a4:=a4) (a5:=a5) (a6:=a6) h1 h2 h3 h4;exact⟨_,this,_,_,_,_,_,by rw[List.map_append,List.map_append,List.append_assoc];rfl⟩)
 rw[List.nil_append] at e;unfold a1r;rw[b5n];generalize kd (gc++(q.map Prod.fst).map Belt.name)=k2 at *;generalize kd gc=k1 at *;generalize q.map eP=bs at *;simp only[a1n,qq6,qq7,qq2,qq3,qqf,Nat.reduceAdd,Nat.reduceSub,qq9,qq8,qqb,qqc,a6m,a1j,a0n,qq0,↓evBind,a1o,e,b3l,qqa,qqd,a2y,a5m,a2o,if_true]
theorem b4d{z:D}{rest:List D}{k2:List (TK×O)}(h:NmOk gc (q.map Prod.fst))
  (hz:∀s0 a2 a3 a4 a5 a6,∃b2 b3 b4 b5 b6,(beltG z [s0,some (.dct (kd (gc++(q.map Prod.fst).map Belt.name))),a2,a3,a4,a5,a6]).bind beltC=some (.rt (.frz (.exc C none)),[s0,some (.dct k2),b2,b3,b4,b5,b6])) :
  a1r [.frz (.lst (q.map eP++z::rest)),.dct (kd gc)]=some (.frz (.exc C none),[none,some (.dct k2)]):=by
 obtain⟨Γ',e,a2,a3,a4,a5,a6,rfl⟩:=a8i (g:=beltG) (f:=beltC) eP (fun pre Γ=>∃a2 a3 a4 a5 a6,Γ=[some (.frz (.lst (q.map eP++z::rest))),some (.dct (kd (gc++(pre.map Prod.fst).map Belt.name))),a2,a3,a4,a5,a6]) (.frz (.exc C none)) (fun Γ=>∃a2 a3 a4 a5 a6,Γ=[some (.frz (.lst (q.map eP++z::rest))),some (.dct k2),a2,a3,a4,a5,a6]) z rest q [] [some (.frz (.lst (q.map eP++z::rest))),some (.dct (kd gc)),none,none,none,none,none] ⟨none,none,none,none,none,by rw[List.map_nil,List.map_nil,List.append_nil]⟩ (by
  rintro pre x post Γ eq ⟨a2,a3,a4,a5,a6,rfl⟩;rw[List.nil_append] at *;rw[eq] at h;obtain⟨h1,h2,h3,h4⟩:=h.at;have:=b9t (s0:=some (.frz (.lst (q.map eP++z::rest)))) (a2:=a2) (a3:=a3) (a4:=a4) (a5:=a5) (a6:=a6) h1 h2 h3 h4;exact⟨_,this,_,_,_,_,_,by rw[List.map_append,List.map_append,List.append_assoc];rfl⟩) (by
  rintro Γ ⟨a2,a3,a4,a5,a6,rfl⟩;rw[List.nil_append];obtain⟨b2,b3,b4,b5,b6,e⟩:=hz (some (.frz (.lst (q.map eP++z::rest)))) a2 a3 a4 a5 a6;exact⟨_,e,_,_,_,_,_,rfl⟩)
 unfold a1r;rw[b5n];generalize kd gc=k1 at *;generalize q.map eP++z::rest=bs at *;simp only[a1n,qq6,qq7,qq2,qq3,qqf,Nat.reduceAdd,Nat.reduceSub,qq9,qq8,qqb,qqc,a6m,a1j,a0n,qq0,↓evBind,a1o,e,a3x,qqa,qqd,a2y,a5m,a2o,if_true]
theorem c1i{rest:List D}(h:NmOk gc (q.map Prod.fst))(hz:BadN (gc++(q.map Prod.fst).map Belt.name) z.n):
  a1r [.frz (.lst (q.map eP++wbT z::rest)),.dct (kd gc)]=some (.frz (.exc 37 none),[none,some (.dct (kd (gc++(q.map Prod.fst).map Belt.name)))]):=by
 refine b4d h fun s0 a2 a3 a4 a5 a6=>?_
 have e1:=b9r z.n _ hz;generalize kd (gc++(q.map Prod.fst).map Belt.name)=k1 at *;refine⟨some (.frz z.n),some (.frz (.int z.l)),some (.frz (.bl z.r)),some (.frz (.lst z.os)),a6,?_⟩;unfold wbT beltC;simp only[a7h,a5u,a1q,qq2,qq3,qqf,Nat.reduceAdd,Nat.reduceLT,qq5,qq4,if_true,↓evBind,a5t,a0r,a4h,a1k,a0f,a0n,qq1,qq0,a0h,a0x,a1s,a0w,e1,a2f,a3m,a2e,a6t]
theorem fmt12:oFmt [.frz (.int 1)]=some (fS "1")/\oFmt [.frz (.int 2)]=some (fS "2"):=⟨by kernel_rfl,by kernel_rfl⟩
theorem c1j{rest:List D}(h:NmOk gc (q.map Prod.fst))(hn:z.n=.str x)(hx:isN x)(hm:x∉gc++(q.map Prod.fst).map Belt.name)(hq:(gc++(q.map Prod.fst).map Belt.name).length < 1000)(xl:x.length<=20)(hz:z.l < least z.r):
  a1r [.frz (.lst (q.map eP++wbT z::rest)),.dct (kd gc)]=some (.frz (.exc 49 none),[none,some (.dct (kd (gc++(q.map Prod.fst).map Belt.name++[x])))]):=by
 refine b4d h fun s0 a2 a3 a4 a5 a6=>?_
 have e1:=d0c x _ hx hm hq;generalize kd (gc++(q.map Prod.fst).map Belt.name++[x])=k2 at *;generalize kd (gc++(q.map Prod.fst).map Belt.name)=k1 at *;refine⟨some (fS x),some (.frz (.int z.l)),some (.frz (.bl z.r)),some (.frz (.lst z.os)),some (.frz (.int (least z.r))),?_⟩;have c2:(x.length<=1000000)=True:=eq_true (by omega)
 have c3:∀s:Str,s.length=1->((Str.ofString "belt "++(x++(Str.ofString " has fewer than "++(s++(Str.ofString " cells"++Str.empty))))).length<=1000000)=True:=fun s hs=>eq_true (by
  have a1:(Str.ofString "belt ").length=5:=by decide +kernel
  have a2:(Str.ofString " has fewer than ").length=16:=by decide +kernel
  have a3:(Str.ofString " cells").length=6:=by decide +kernel
  have a4:Str.empty.length=0:=rfl;rw[Str.length_append,Str.length_append,Str.length_append,Str.length_append,Str.length_append,a1,a2,a3,a4,hs];omega)
 obtain⟨f1,f2⟩:=fmt12;unfold wbT beltC lessB;unfold least at hz ⊢;cases hr:z.r with
 |true=>
  rw[hr] at hz;have c4:decide (z.l < 2)=true:=by simpa using hz
  have c5:=c3 "2" (by decide +kernel)
  simp only[hn,a7h,a5u,a1q,qq2,qq3,qqf,Nat.reduceAdd,Nat.reduceLT,qq5,qq4,if_true,↓evBind,a5t,a0r,a4h,a1k,a0f,a0n,qq1,qq0,a0h,a0x,a1s,a0w,e1,a2f,a3m,a2e,a7l,a1t,a1j,c7v,a4e,a0i,a5n,a3s,a1o,a1m,a5z,a1e,a0k,a0j,a3d,c4,a5e,a8b,b0k,b3m,c2,f2,b6p,c5,a1p]
 |false=>
  rw[hr] at hz;have c4:decide (z.l < 1)=true:=by simpa using hz
  have c5:=c3 "1" (by decide +kernel)
  simp only[hn,a7h,a5u,a1q,qq2,qq3,qqf,Nat.reduceAdd,Nat.reduceLT,qq5,qq4,if_true,↓evBind,a5t,a0r,a4h,a1k,a0f,a0n,qq1,qq0,a0h,a0x,a1s,a0w,e1,a2f,a3m,a2e,a7l,a1t,a1j,c7v,a4e,a0i,a5n,qqe,a3s,if_false,a1o,a1m,a5z,a1e,a0k,a0j,a3d,c4,a5e,a8b,b0k,b3m,c2,f1,b6p,c5,a1p]
theorem b2e{x z:Str}:∀{ys:List Str} {j:Nat},ys[j]?=some z->x∈ys->x≠z->x∈ys.eraseIdx j
 |y::ys,0,e,hx,hne=>by
  rw[List.getElem?_cons_zero] at e;cases e;rcases List.mem_cons.mp hx with rfl|hx
  ·exact absurd rfl hne
  ·exact hx
 |y::ys,j+1,e,hx,hne=>by
  rw[List.getElem?_cons_succ] at e;show x∈y::ys.eraseIdx j;rcases List.mem_cons.mp hx with rfl|hx
  ·exact .head _
  ·exact .tail _ (b2e e hx hne)
 |[],_,_,hx,_=>by cases hx
theorem b2f{z:Str}:∀{ys:List Str} {j:Nat},ys.Nodup->ys[j]?=some z->z∉ys.eraseIdx j
 |y::ys,0,nd,e,h=>by
  rw[List.getElem?_cons_zero] at e;cases e;exact(List.nodup_cons.mp nd).1 h
 |y::ys,j+1,nd,e,h=>by
  rw[List.getElem?_cons_succ] at e;obtain⟨n1,n2⟩:=List.nodup_cons.mp nd;rcases List.mem_cons.mp h with rfl|h
  ·exact n1 (List.mem_of_getElem? e)
  ·exact b2f n2 e h
theorem d0e{z:Str}{ys:List Str}(h:z∈ys):∃j,findS ys z=some j:=by
 cases q:findS ys z with
 |some j=>exact⟨j,rfl⟩
 |none=>
  unfold findS at q;rw[List.findIdx?_eq_none_iff] at q;have:=q z h;simp at this
theorem c3v(w:D):∀xs:List Str,((xs.map D.str).any fun z=>eqD z w)=xs.any fun y=>eqD (.str y) w
 |[]=>rfl
 |x::xs=>by rw[List.map_cons,List.any_cons,c3v w xs,List.any_cons]
theorem d7r(w:D)(hw:okD 40 w=true)(xs:List Str):oInG true [.frz w,.lst (xs.map fS)]=some (.frz (.bl (!(xs.any fun y=>eqD (.str y) w)))):=by
 have e:seqO (O.lst (xs.map fS)).d=some (xs.map D.str):=by rw[b5g];show some (O.dl _)=_;rw[a4t]
 have k:((seqO (O.lst (xs.map fS)).d).bind fun ds=>if okD 40 (O.frz w).d=true/\ds.all (okD 40)=true then some (O.frz (.bl (if true=true then !ds.any fun z=>eqD z (O.frz w).d else ds.any fun z=>eqD z (O.frz w).d))) else none)=some (.frz (.bl (!(xs.any fun y=>eqD (.str y) w)))):=by
  rw[e,Option.bind_some,if_pos ⟨hw,c1e 40 xs⟩,if_pos rfl,<-c3v];rfl
 unfold oInG;cases w <;> exact k
def noO(t:Str):GS:=a6s 61 (a7j (a3r (gC (.str "belt ")) (a3r (gUn oFmt (gVar 4)) (a3r (gC (.str t)) gjNil))))
theorem d0f{t:Str}(tl:t.length<=100)(nl:nm.length<=20)(s0 s1 s2 s3 s5 s6 s7:Option O):noO t [s0,s1,s2,s3,some (fS nm),s5,s6,s7]=some (.rt (.frz (.exc 61 none)),[s0,s1,s2,s3,some (fS nm),s5,s6,s7]):=by
 have c1:(nm.length<=1000000)=True:=eq_true (by omega)
 have c3:((Str.ofString "belt "++(nm++(t++Str.empty))).length<=1000000)=True:=eq_true (by
  have a1:(Str.ofString "belt ").length=5:=by decide +kernel
  have a3:Str.empty.length=0:=rfl;rw[Str.length_append,Str.length_append,Str.length_append,a1,a3];omega)
 unfold noO;simp only[a5e,a8b,b0k,a3s,↓evBind,a1e,a0f,a0n,qq1,qq0,a0h,a0k,a0i,a0j,b3m,c1,if_true,b6p,c3]
def outC:GS:=(a0l (gsIf (gT (gBin (oInG true) (gVar 7) (gVar 6)))
  (noO " has an out that is no cart, no belt behind it, or there twice")
  gsNil)
 (a2s (gMut b1s (gVar 6) (a0a (gVar 7) gaNil))))
theorem d3c(hx:x∈L)(s0 s1 s2 s3 s4 s5 a7:Option O):∃j,L[j]?=some x/\(a0p 7 (D.str x) [s0,s1,s2,s3,s4,s5,some (.lst (L.map fS)),a7]).bind outC=some (.nx,[s0,s1,s2,s3,s4,s5,some (.lst ((L.eraseIdx j).map fS)),some (fS x)]):=by
 obtain⟨j,hj⟩:=d0e hx;have e1:=b4a true x L;rw[List.contains_iff_mem.mpr hx,if_pos rfl] at e1;have e2:b1s (.lst (L.map fS)) [.frz (.str x)]=some (.lst ((L.eraseIdx j).map fS),.frz .non):=(c8u L x).trans (by rw[hj];rfl)
 refine⟨j,(b5a hj).1,?_⟩;generalize(L.eraseIdx j).map fS=l2 at *;generalize L.map fS=l1 at *;unfold outC;simp only[a1q,qq2,qq3,qqf,Nat.reduceAdd,Nat.reduceLT,qq5,qq4,if_true,↓evBind,a0r,a1m,a5z,a1e,a0f,a0n,qq1,qq0,a0h,a0k,a0i,a2x,Option.join_some,a0j,e1,Bool.not_true,qqe,a1p,if_false,a2q,a4w,a1h,a1b,e2]
structure OutOk (L outs:List Str):Prop where
 nd:outs.Nodup
 hs:∀o∈outs,o∈L
def OP(L outs:List Str)(s0 s1 s2 s3 s4 s5:Option O)(pre:List Str)(Γ:Gm):Prop:=∃(L':List Str) (b7:Option O),Γ=[s0,s1,s2,s3,s4,s5,some (.lst (L'.map fS)),b7]/\(∀o∈outs,o∉pre->o∈L')/\L'.Nodup/\∀y∈L',y∈L/\y∉pre
theorem d0g{outs q post:List Str}{s1 s2 s3 s4 s5:Option O}(h:OutOk L outs)(eq:outs=q++x::post)(p:OP L outs s0 s1 s2 s3 s4 s5 q Γ):∃Γ2,(a0p 7 (D.str x) Γ).bind outC=some (.nx,Γ2)/\OP L outs s0 s1 s2 s3 s4 s5 (q++[x]) Γ2:=by
 obtain⟨L',b7,rfl,hL,nd,sub⟩:=p;have hxq:x∉q:=fun z=>by
  have:=h.nd;rw[eq] at this;exact(List.nodup_append.mp this).2.2 x z x (.head _) rfl
 obtain⟨j,j1,e⟩:=d3c (hL x (by rw[eq];simp) hxq) s0 s1 s2 s3 s4 s5 b7
 refine⟨_,e,L'.eraseIdx j,_,rfl,fun o ho hq=>?_,nd.sublist (List.eraseIdx_sublist ..),fun y hy=>?_⟩
 ·simp only[List.mem_append,List.mem_singleton,not_or] at hq;exact b2e j1 (hL o ho hq.1) hq.2
 ·have:=sub y ((List.eraseIdx_sublist ..).subset hy);refine⟨this.1,fun z=>?_⟩
  simp only[List.mem_append,List.mem_singleton] at z;rcases z with z|z
  ·exact this.2 z
  ·rw[z] at hy;exact b2f nd j1 hy
theorem d7s{outs:List Str}(h:OutOk L outs)(Ln:L.Nodup)(s0 s1 s2 s3 s4 s5 a7:Option O):∃b6 b7,a2a (a0p 7) outC (outs.map D.str) [s0,s1,s2,s3,s4,s5,some (.lst (L.map fS)),a7]=some (.nx,[s0,s1,s2,s3,s4,s5,b6,b7]):=by
 obtain⟨Γ',e,L',b7,rfl,_⟩:=a5x (g:=a0p 7) (f:=outC) D.str (OP L outs s0 s1 s2 s3 s4 s5) outs [] [s0,s1,s2,s3,s4,s5,some (.lst (L.map fS)),a7] ⟨L,a7,rfl,fun o ho _=>h.hs o ho,Ln,fun y hy=>⟨hy,fun z=>by cases z⟩⟩ (by
  intro q x post Γ eq p;rw[List.nil_append] at *;exact d0g h eq p)
 exact⟨_,b7,e⟩
theorem d3d{w:D}{rest:List D}(h:OutOk L pre)(Ln:L.Nodup)(hw:okD 40 w=true)(hn:∀y∈L,y∉pre->eqD (.str y) w=false)(nl:nm.length<=20)(s0 s1 s2 s3 s5 a7:Option O):
  ∃b6 b7,a2a (a0p 7) outC (pre.map D.str++w::rest) [s0,s1,s2,s3,some (fS nm),s5,some (.lst (L.map fS)),a7]=some (.rt (.frz (.exc 61 none)),[s0,s1,s2,s3,some (fS nm),s5,b6,b7]):=by
 obtain⟨Γ',e,b6,b7,rfl⟩:=a8i (g:=a0p 7) (f:=outC) D.str (OP L pre s0 s1 s2 s3 (some (fS nm)) s5) (.frz (.exc 61 none)) (fun Γ=>∃b6 b7,Γ=[s0,s1,s2,s3,some (fS nm),s5,b6,b7]) w rest pre [] [s0,s1,s2,s3,some (fS nm),s5,some (.lst (L.map fS)),a7] ⟨L,a7,rfl,fun o ho _=>h.hs o ho,Ln,fun y hy=>⟨hy,fun z=>by cases z⟩⟩ (by
  intro q x post Γ eq p;rw[List.nil_append] at *;exact d0g h eq p) (by
  rintro Γ ⟨L',b7,rfl,_,_,sub⟩;rw[List.nil_append] at *;have e1:=d7r w hw L';have z:(L'.any fun y=>eqD (.str y) w)=false:=by
   rw[List.any_eq_false];intro y hy;rw[hn y (sub y hy).1 (sub y hy).2];exact Bool.false_ne_true
  rw[z] at e1;have e2:=d0f (t:=" has an out that is no cart, no belt behind it, or there twice") (nm:=nm) (by decide +kernel) nl s0 s1 s2 s3 s5 (some (.lst (L'.map fS))) (some (.frz w))
  refine⟨[s0,s1,s2,s3,some (fS nm),s5,some (.lst (L'.map fS)),some (.frz w)],?_,_,_,rfl⟩;generalize L'.map fS=l1 at *;unfold outC;generalize noO " has an out that is no cart, no belt behind it, or there twice"=nO at *;simp only[a1q,qq2,qq3,qqf,Nat.reduceAdd,Nat.reduceLT,qq5,qq4,if_true,↓evBind,a0r,a1m,a5z,a1e,a0f,a0n,qq1,qq0,a0h,a0k,a0i,a2x,Option.join_some,a0j,e1,Bool.not_false,e2,a1p])
 exact⟨b6,b7,e⟩
def a9p:GS:=(a0l (gsSet 4 (gBin oIx (gVar 3) (gC (.int 0))))
 (a0l (gsSet 5 (gFrz (gIf (gTru (gOp oIsi (a0a (gBin oIx (gVar 3) (gC (.int 3))) (a0a (gC (.ty "list")) gaNil)))) (gBin oIx (gVar 3) (gC (.int 3))) (gSeq .lst gaNil))))
 (a0l (gsSet 6 (gBin oAdd (gCall a2t (a0a (gFrz (a7w (gVar 0) (a8x (gBin oAdd (gVar 2) (gC (.int 1)))) b0b)) gaNil)) (gVar 1)))
 (a0l (gsFor (gVar 5) (a0p 7) outC)
 (gsIf (gNotT (gTru (gVar 5)))
  (noO " has no outs")
  gsNil)))))
abbrev outG:GG:=ggTup [(a0p 2),(a0p 3)]
theorem c3w:a8g=b8t (gVar 0) outG a9p:=rfl
theorem d3e{α:Type}(enc:α->D)(q:List α)(x:α)(post:List α)(i:Int)(hi:i=(q.length:Nat)):slO (.frz (.lst ((q++x::post).map enc))) (some (i+1)) none=some (.lst ((post.map enc).map .frz)):=by
 show some (O.lst ((cutD ((q++x::post).map enc) (some (i+1)) none).map .frz))=_;have:cutD ((q++x::post).map enc) (some (i+1)) none=post.map enc:=by
  unfold cutD;have e4:HT.sIx ((q++x::post).map enc).length 0 (some (i+1))=q.length+1:=by
   unfold HT.sIx;simp only[List.length_map,List.length_append,qq2];rw[if_neg (by omega)]
   omega
  have e5:HT.sIx ((q++x::post).map enc).length ((q++x::post).map enc).length none=((q++x::post).map enc).length:=rfl;have e6:((q++x::post).map enc).drop (q.length+1)=post.map enc:=by
   rw[<-List.map_drop,show q++x::post=(q++[x])++post by simp,List.drop_left' (by simp)]
  rw[e4,e5,e6];exact List.take_of_length_le (by rw[List.length_map,List.length_map,List.length_append,List.length_cons];omega)
 rw[this]
theorem b7m{x:Belt×List D}(eq:ps=q++x::post)(hi:i=(q.length:Nat))(pl:ps.length<=100)(cl:gc.length<=100)(a2 a3 a4 a5 a6 a7:Option O){r:Fl×Gm}
  (hr:(a0l (gsFor (gVar 5) (a0p 7) outC) (gsIf (gNotT (gTru (gVar 5))) (noO " has no outs") gsNil)) [some (.frz (.lst (ps.map eP))),some (fL gc),some (.frz (.int i)),some (.frz (eP x)),some (fS x.1.name),some (.frz (.lst x.2)),some (.lst (((post.map Prod.fst).map Belt.name++gc).map fS)),a7]=some r) :
  (outG (.tup [.int i,eP x]) [some (.frz (.lst (ps.map eP))),some (fL gc),a2,a3,a4,a5,a6,a7]).bind a9p=some r:=by
 have sl:=d3e eP q x post i hi;rw[<-eq] at sl;have hp:post.length < 1000000:=by have:=congrArg List.length eq;simp at this;omega
 have e1:=c3r (post.map encP) (by rw[List.length_map];exact hp)
 have n1:(post.map encP).map WB.n=((post.map Prod.fst).map Belt.name).map D.str:=by rw[List.map_map,List.map_map,List.map_map];rfl
 rw[n1,List.map_map (g:=wbT)] at e1;have e1:a2t [.frz (.lst (post.map eP))]=some (.lst ((((post.map Prod.fst).map Belt.name).map D.str).map .frz),[none]):=e1;have fz:=a5s (((post.map Prod.fst).map Belt.name).map D.str);have c1:((((post.map Prod.fst).map Belt.name).map D.str).length+(gc.map D.str).length<=1000000)=True:=eq_true (by simp only[List.length_map];have:=congrArg List.length eq;simp at this;omega)
 have en:(((post.map Prod.fst).map Belt.name).map D.str++gc.map D.str).map O.frz=((post.map Prod.fst).map Belt.name++gc).map fS:=by rw[<-List.map_append,<-b5g]
 have il:=e1u x.2;have i0:=xb0 (encP x);have i3:=xb3 (encP x);have i0:oIx1 (.frz (eP x)) (.int 0)=some (fS x.1.name):=i0;have i3:oIx1 (.frz (eP x)) (.int 3)=some (.frz (.lst x.2)):=i3;generalize((post.map Prod.fst).map Belt.name++gc).map fS=l2 at *;generalize((post.map Prod.fst).map Belt.name).map D.str=l3 at *;generalize ps.map eP=bs at *;generalize post.map eP=pd at *;generalize eP x=ex at *;unfold a9p;generalize(a0l (gsFor (gVar 5) (a0p 7) outC) (gsIf (gNotT (gTru (gVar 5))) (noO " has no outs") gsNil))=tl at *;simp only[a7h,a5u,a1q,qq2,qq3,qqf,Nat.reduceAdd,Nat.reduceLT,qq5,qq4,if_true,↓evBind,a5t,a0r,a1t,a1e,a0f,a0n,qq1,qq0,a3s,a0h,a0k,a0i,a0j,a3e,i0,a1j,c7v,a4e,i3,il,a5n,a3f,Nat.reduceLeDiff,a1b,a1o,a1k,a7g,a9i,a4c,a9j,↓evMap,a9h,sl,a5a,b1y,a0x,a0w,e1,a2f,a2e,c2r,b3k,fz,c1,en,hr]
theorem c3x{x:Belt×List D}(eq:ps=q++x::post)(hi:i=(q.length:Nat))(pl:ps.length<=100)(cl:gc.length<=100){outs:List Str}(ho:x.2=outs.map .str)(h0:outs≠[])(hk:OutOk ((post.map Prod.fst).map Belt.name++gc) outs)(Ln:((post.map Prod.fst).map Belt.name++gc).Nodup)(a2 a3 a4 a5 a6 a7:Option O):
  ∃b2 b3 b4 b5 b6 b7,(outG (.tup [.int i,eP x]) [some (.frz (.lst (ps.map eP))),some (fL gc),a2,a3,a4,a5,a6,a7]).bind a9p=some (.nx,[some (.frz (.lst (ps.map eP))),some (fL gc),b2,b3,b4,b5,b6,b7]):=by
 obtain⟨b6,b7,el⟩:=d7s hk Ln (some (.frz (.lst (ps.map eP)))) (some (fL gc)) (some (.frz (.int i))) (some (.frz (eP x))) (some (fS x.1.name)) (some (.frz (.lst x.2))) a7;have ht:(outs.map D.str).isEmpty=false:=by
  cases hcs:outs with
  |nil=>exact absurd hcs h0
  |cons _ _=>rfl
 refine⟨some (.frz (.int i)),some (.frz (eP x)),some (fS x.1.name),some (.frz (.lst x.2)),b6,b7,b7m eq hi pl cl a2 a3 a4 a5 a6 a7 ?_⟩;rw[ho] at el ⊢;generalize((post.map Prod.fst).map Belt.name++gc).map fS=l2 at *;generalize ps.map eP=bs at *;generalize eP x=ex at *;generalize outC=oc at *;simp only[a0r,a6m,a1j,a0n,qq1,qq0,↓evBind,a1o,el,a1m,a6d,a4e,a0i,a7i,ht,Bool.not_false,Bool.not_true,qqe,a1p,if_false]
def BadO(L:List Str)(os:List D):Prop:=os=[]\/∃pre w rest,os=pre.map D.str++w::rest/\OutOk L pre/\okD 40 w=true/\∀y∈L,y∉pre->eqD (.str y) w=false
theorem d7t{x:Belt×List D}(eq:ps=q++x::post)(hi:i=(q.length:Nat))(pl:ps.length<=100)(cl:gc.length<=100)(hk:BadO ((post.map Prod.fst).map Belt.name++gc) x.2)(Ln:((post.map Prod.fst).map Belt.name++gc).Nodup)(nl:x.1.name.length<=20)(a2 a3 a4 a5 a6 a7:Option O):
  ∃b2 b3 b4 b5 b6 b7,(outG (.tup [.int i,eP x]) [some (.frz (.lst (ps.map eP))),some (fL gc),a2,a3,a4,a5,a6,a7]).bind a9p=some (.rt (.frz (.exc 61 none)),[some (.frz (.lst (ps.map eP))),some (fL gc),b2,b3,b4,b5,b6,b7]):=by
 rcases hk with z|⟨pre,w,rest,z,h1,h2,h3⟩
 ·refine⟨some (.frz (.int i)),some (.frz (eP x)),some (fS x.1.name),some (.frz (.lst x.2)),some (.lst (((post.map Prod.fst).map Belt.name++gc).map fS)),a7,b7m eq hi pl cl a2 a3 a4 a5 a6 a7 ?_⟩;rw[z];have e2:=d0f (t:=" has no outs") (nm:=x.1.name) (by decide +kernel) nl (some (.frz (.lst (ps.map eP)))) (some (fL gc)) (some (.frz (.int i))) (some (.frz (eP x))) (some (.frz (.lst []))) (some (.lst (((post.map Prod.fst).map Belt.name++gc).map fS))) a7
  generalize((post.map Prod.fst).map Belt.name++gc).map fS=l2 at *;generalize ps.map eP=bs at *;generalize eP x=ex at *;generalize outC=oc at *;generalize noO " has no outs"=nO at *;simp only[a0r,a6m,a1j,a0n,qq1,qq0,↓evBind,a1o,c2q,a1m,a6d,a4e,a0i,a7i,List.isEmpty_nil,Bool.not_true,Bool.not_false,e2,a1p,if_true]
 ·obtain⟨b6,b7,el⟩:=d3d (rest:=rest) h1 Ln h2 h3 nl (some (.frz (.lst (ps.map eP)))) (some (fL gc)) (some (.frz (.int i))) (some (.frz (eP x))) (some (.frz (.lst x.2))) a7;rw[<-z] at el;refine⟨some (.frz (.int i)),some (.frz (eP x)),some (fS x.1.name),some (.frz (.lst x.2)),b6,b7,b7m eq hi pl cl a2 a3 a4 a5 a6 a7 ?_⟩;generalize x.2=os at *;generalize((post.map Prod.fst).map Belt.name++gc).map fS=l2 at *;generalize ps.map eP=bs at *;generalize eP x=ex at *;generalize outC=oc at *;simp only[a0r,a6m,a1j,a0n,qq1,qq0,↓evBind,a1o,el]
def OutsOk(gc:List Str)(post:List Belt):List (Belt×List D)->Prop
 |[]=>True
 |x::q=>(∃outs,x.2=outs.map .str/\outs≠[]/\OutOk ((q.map Prod.fst++post).map Belt.name++gc) outs)/\OutsOk gc post q
theorem OutsOk.at{gc:List Str}{post:List Belt}:∀{q:List (Belt×List D)} {x:Belt×List D} {r:List (Belt×List D)},OutsOk gc post (q++x::r)->∃outs,x.2=outs.map .str/\outs≠[]/\OutOk ((r.map Prod.fst++post).map Belt.name++gc) outs
 |[],_,_,h=>h.1
 |_::q,_,_,h=>OutsOk.at (q:=q) h.2
theorem c1k{q:List Belt}{x:Belt}(h:((q++x::r).map Belt.name++gc).Nodup):(r.map Belt.name++gc).Nodup:=by
 rw[List.map_append,List.map_cons,List.append_assoc] at h;exact(List.nodup_cons.mp (List.nodup_append.mp h).2.1).2
theorem d7u(pl:ps.length<=100)(cl:gc.length<=100)(Ln:((ps.map Prod.fst).map Belt.name++gc).Nodup)(ok:OutsOk gc [] ps):a2k [.frz (.lst (ps.map eP)),fL gc]=some (.frz .non,[none,none]):=by
 obtain⟨Γ',e,a2,a3,a4,a5,a6,a7,rfl⟩:=c9w (g:=outG) (f:=a9p) eP (fun pre Γ=>∃a2 a3 a4 a5 a6 a7,Γ=[some (.frz (.lst (ps.map eP))),some (fL gc),a2,a3,a4,a5,a6,a7]) ps [some (.frz (.lst (ps.map eP))),some (fL gc),none,none,none,none,none,none] ⟨_,_,_,_,_,_,rfl⟩ (by
  rintro q x post Γ i eq hi ⟨a2,a3,a4,a5,a6,a7,rfl⟩;obtain⟨outs,o1,o2,o3⟩:=OutsOk.at (by rw[<-eq];exact ok)
  rw[List.append_nil] at o3;have Lp:=Ln;rw[eq,List.map_append,List.map_cons] at Lp;obtain⟨b2,b3,b4,b5,b6,b7,e⟩:=c3x eq hi pl cl o1 o2 o3 (c1k Lp) a2 a3 a4 a5 a6 a7;exact⟨_,e,_,_,_,_,_,_,rfl⟩)
 unfold a2k;rw[c3w];generalize ps.map eP=bs at *;simp only[a1n,qq6,qq7,qq2,qq3,qqf,Nat.reduceAdd,Nat.reduceSub,qq9,qq8,qqb,qqc,c8f,a1j,a0n,qq0,↓evBind,a1o,e,b3l,qqa,qqd,a2y,a2o,if_true]
theorem d0h{z:Belt×List D}{r:List (Belt×List D)}(pl:(q++z::r).length<=100)(cl:gc.length<=100)(Ln:(((q++z::r).map Prod.fst).map Belt.name++gc).Nodup)(ok:OutsOk gc (z.1::r.map Prod.fst) q)(bad:BadO ((r.map Prod.fst).map Belt.name++gc) z.2)(nl:z.1.name.length<=20):a2k [.frz (.lst ((q++z::r).map eP)),fL gc]=some (.frz (.exc 61 none),[none,none]):=by
 generalize eps:q++z::r=ps at *;obtain⟨Γ',e,a2,a3,a4,a5,a6,a7,rfl⟩:=c5f (g:=outG) (f:=a9p) eP (fun pre Γ=>∃a2 a3 a4 a5 a6 a7,Γ=[some (.frz (.lst (ps.map eP))),some (fL gc),a2,a3,a4,a5,a6,a7]) (.frz (.exc 61 none)) (fun Γ=>∃a2 a3 a4 a5 a6 a7,Γ=[some (.frz (.lst (ps.map eP))),some (fL gc),a2,a3,a4,a5,a6,a7]) q (eP z) (r.map eP) [some (.frz (.lst (ps.map eP))),some (fL gc),none,none,none,none,none,none] ⟨_,_,_,_,_,_,rfl⟩ (by
  rintro q1 x post Γ i eq hi ⟨a2,a3,a4,a5,a6,a7,rfl⟩;obtain⟨outs,o1,o2,o3⟩:=OutsOk.at (by rw[<-eq];exact ok)
  have e':ps=q1++x::(post++z::r):=by rw[<-eps,eq];simp
  have Lp:=Ln;rw[e',List.map_append,List.map_cons] at Lp;have o3:OutOk (((post++z::r).map Prod.fst).map Belt.name++gc) outs:=by rw[List.map_append (f:=Prod.fst),List.map_cons];exact o3
  obtain⟨b2,b3,b4,b5,b6,b7,e⟩:=c3x e' hi pl cl o1 o2 o3 (c1k Lp) a2 a3 a4 a5 a6 a7;exact⟨_,e,_,_,_,_,_,_,rfl⟩) (by
  rintro Γ i hi ⟨a2,a3,a4,a5,a6,a7,rfl⟩;have Lp:=Ln;rw[<-eps,List.map_append,List.map_cons] at Lp;obtain⟨b2,b3,b4,b5,b6,b7,e⟩:=d7t eps.symm hi pl cl bad (c1k Lp) nl a2 a3 a4 a5 a6 a7;exact⟨_,e,_,_,_,_,_,_,rfl⟩)
 have e0:q.map eP++eP z::r.map eP=ps.map eP:=by rw[<-eps];simp
 rw[e0] at e;unfold a2k;rw[c3w];generalize ps.map eP=bs at *;simp only[a1n,qq6,qq7,qq2,qq3,qqf,Nat.reduceAdd,Nat.reduceSub,qq9,qq8,qqb,qqc,c8f,a1j,a0n,qq0,↓evBind,a1o,e,a3x,qqa,qqd,a2y,a2o,if_true]
theorem d3f{bs:List Belt}{outs:List Str}{w:Belt}(hw:w∈bs)(r:RR bs outs w.name)(r2:RR bs w.outs n):RR bs outs n:=by
 induction r2 with
 |base m=>exact .step r hw rfl m
 |step _ hb hn hm ih=>exact .step ih hb hn hm
theorem c1l{h:House}(g:GoodH h):∀{bs pre:List Belt},h.belts=pre++bs->∀b∈bs,RR h.belts b.outs (h.carts.getD 0 "")
 |x::bs,pre,eq,b,hb=>by
  have eq':h.belts=(pre++[x])++bs:=by rw[eq];simp
  rcases List.mem_cons.mp hb with rfl|hb
  ·have hbm:b∈h.belts:=by rw[eq];simp
   have fx:Fwd h.carts (b::bs):=b5k (by rw[<-eq];exact g.fwd)
   rcases g.hd b hbm with z|⟨o,z1,z2⟩
   ·exact .base z
   ·rcases fx.1 o z1 with y|y
    ·obtain⟨w,hw,ew⟩:=List.mem_map.mp y;exact d3f (w:=w) (by rw[eq'];simp[hw]) (by rw[ew];exact .base z1) (c1l g eq' w hw)
    ·exact absurd z2 (b9n g.fwd o y)
  ·exact c1l g eq' b hb
theorem b9u(sm:SmallH h){hand:Str}(hc:hand∈h.carts)(hb:b.length<=20)(a:Option O):
  (a0p 2 (D.str b) [some (.frz (a3y h)),some (fS hand),a]).bind handB=some (if hand∈a4x h.belts b then .nx else .rt (.frz (.exc 73 none)),[some (.frz (a3y h)),some (fS hand),some (fS b)]):=by
 have e1:=c9z h b sm;have e2:=b4a true hand ((h.belts.map Belt.name++h.carts).filter fun x=>(a4x h.belts b).contains x)
 have c1:(b.length<=1000000)=True:=eq_true (by omega)
 have c3:((Str.ofString "the hand can not be come to from belt "++(b++Str.empty)).length<=1000000)=True:=eq_true (by
  have a1:(Str.ofString "the hand can not be come to from belt ").length=38:=by decide +kernel
  have a3:Str.empty.length=0:=rfl;rw[Str.length_append,Str.length_append,a1,a3];omega)
 by_cases hf:hand∈a4x h.belts b
 ·have hm:hand∈(h.belts.map Belt.name++h.carts).filter fun x=>(a4x h.belts b).contains x:=by
   rw[List.mem_filter];exact⟨List.mem_append_right _ hc,List.contains_iff_mem.mpr hf⟩
  rw[List.contains_iff_mem.mpr hm,if_pos rfl] at e2;rw[if_pos hf];generalize((h.belts.map Belt.name++h.carts).filter fun x=>(a4x h.belts b).contains x).map fS=l at *
  unfold handB;simp only[a1q,qq2,qq3,qqf,Nat.reduceAdd,Nat.reduceLT,qq5,qq4,if_true,↓evBind,a1m,a5z,a1e,a0f,a0n,qq1,qq0,a1k,a0h,a0x,a0w,e1,a2f,a2e,a0k,a0i,a0j,e2,Bool.not_true,qqe,a5e,a8b,b0k,a3s,b3m,a1p,if_false]
 ·have hm:((h.belts.map Belt.name++h.carts).filter fun x=>(a4x h.belts b).contains x).contains hand=false:=by
   rw[<-Bool.not_eq_true,List.contains_iff_mem,List.mem_filter];exact fun z=>hf (List.contains_iff_mem.mp z.2)
  rw[hm,if_pos rfl] at e2;rw[if_neg hf];generalize((h.belts.map Belt.name++h.carts).filter fun x=>(a4x h.belts b).contains x).map fS=l at *
  unfold handB;simp only[a1q,qq2,qq3,qqf,Nat.reduceAdd,Nat.reduceLT,qq5,qq4,if_true,↓evBind,a1m,a5z,a1e,a0f,a0n,qq1,qq0,a1k,a0h,a0x,a0w,e1,a2f,a2e,a0k,a0i,a0j,e2,Bool.not_false,a5e,a8b,b0k,a3s,b3m,c1,b6p,c3,a1p]
theorem c1m(c0:0 < h.carts.length):h.carts.getD 0 ""∈h.carts/\oIx1 (.frz (.lst (h.carts.map .str))) (.int 0)=some (fS (h.carts.getD 0 "")):=by
 cases hcs:h.carts with
 |nil=>rw[hcs] at c0;simp at c0
 |cons c cs=>exact⟨by simp,d7p c cs⟩
theorem d0i(g:GoodW h){fl:Fl}{Γ':Gm}{o:O}(hv:fl.val=some o)(hl:Γ'.length=3)
  (e:a2a (a0p 2) handB (h.belts.map fun b=>D.str b.name) [some (.frz (a3y h)),some (fS (h.carts.getD 0 "")),none]=some (fl,Γ')):a3g [.frz (a3y h)]=some (o,[none]):=by
 have bl:=g.sm.bl;obtain⟨hc,i0⟩:=c1m g.c0;have e1:=c9y h.belts (by omega)
 have e0:=xh0 (h.belts.map beltD) (h.carts.map .str);have e01:=xh1 (h.belts.map beltD) (h.carts.map .str);have e0:oIx1 (.frz (a3y h)) (.int 0)=_:=e0;have e01:oIx1 (.frz (a3y h)) (.int 1)=_:=e01;have dn:=dl_S (h.belts.map Belt.name);have mn:(h.belts.map Belt.name).map D.str=h.belts.map fun b=>D.str b.name:=by rw[List.map_map];rfl
 rw[mn] at dn;unfold a3g;unfold a8h;generalize h.belts.map (fun b=>D.str b.name)=l1 at *
 generalize(h.belts.map Belt.name).map fS=l2 at *;generalize h.carts.getD 0 ""=hand at *;generalize h.belts.map beltD=l3 at *;generalize a3y h=hd at *;generalize handB=hB at *;obtain _|⟨x0,_|⟨x1,_|⟨x2,_|⟨x3,r⟩⟩⟩⟩:=Γ'
 ·simp at hl
 ·simp at hl
 ·simp at hl
 ·simp only[a1n,qq6,qq7,qq2,qq3,qqf,Nat.reduceSub,qq9,qq8,qqb,qqc,a0r,a1t,a1e,a0f,a0n,qq0,↓evBind,a3s,a0h,a0k,a0i,a0j,a3e,e01,i0,Nat.reduceAdd,Nat.reduceLT,qq5,qq4,if_true,a6m,a1j,a1k,e0,a0x,a0w,e1,a2f,a2e,a5a,dn,e,hv,qqa,qqd,a2y,a2o]
 ·simp at hl
theorem e0t(g:GoodH h):a3g [.frz (a3y h)]=some (.frz .non,[none]):=by
 obtain⟨hc,_⟩:=c1m g.c0;obtain⟨Γ',e,a,rfl⟩:=d2f (g:=a0p 2) (f:=handB) (fun b:Belt=>D.str b.name) (fun Γ=>∃a,Γ=[some (.frz (a3y h)),some (fS (h.carts.getD 0 "")),a]) h.belts [some (.frz (a3y h)),some (fS (h.carts.getD 0 "")),none] ⟨_,rfl⟩ (by
  rintro b hb Γ ⟨a,rfl⟩;have:=b9u g.sm hc (g.nl b hb) a;rw[if_pos ((b9q g.fwd hb _).mpr (c1l g (pre:=[]) rfl b hb))] at this;exact⟨_,this,_,rfl⟩)
 exact d0i g.toGoodW (fl:=.nx) rfl rfl e
theorem d0j(g:GoodW h)(hz:∃b∈h.belts,h.carts.getD 0 ""∉a4x h.belts b.name):a3g [.frz (a3y h)]=some (.frz (.exc 73 none),[none]):=by
 obtain⟨hc,_⟩:=c1m g.c0;obtain⟨Γ',e,a,rfl⟩:=c3q (g:=a0p 2) (f:=handB) (fun b:Belt=>D.str b.name) (fun Γ=>∃a,Γ=[some (.frz (a3y h)),some (fS (h.carts.getD 0 "")),a]) (.frz (.exc 73 none)) (fun Γ=>∃a,Γ=[some (.frz (a3y h)),some (fS (h.carts.getD 0 "")),a]) (fun b=>h.carts.getD 0 ""∉a4x h.belts b.name) h.belts [some (.frz (a3y h)),some (fS (h.carts.getD 0 "")),none] ⟨_,rfl⟩ (by
  rintro b hb Γ ⟨a,rfl⟩;have:=b9u g.sm hc (g.nl b hb) a;by_cases hf:h.carts.getD 0 ""∈a4x h.belts b.name
  ·rw[if_pos hf] at this;exact .inl ⟨fun z=>z hf,_,this,_,rfl⟩
  ·rw[if_neg hf] at this;exact .inr ⟨_,this,_,rfl⟩) hz
 exact d0i g (fl:=.rt _) rfl rfl e
theorem d7v(f:Fwd h.carts h.belts){b:Belt}(hb:b∈h.belts)(ho:b.outs=[x])(hx:x∉h.belts.map Belt.name)(hn:n≠x):n∉a4x h.belts b.name:=by
 rw[b9q f hb,ho];have key:∀m,RR h.belts [x] m->m=x:=by
  intro m r
  induction r with
  |base m=>exact List.mem_singleton.mp m
  |step _ hb' hn' _ ih=>
   rw[ih] at hn';exact absurd (by rw[<-hn'];exact List.mem_map_of_mem hb') hx
 exact fun r=>hn (key n r)
section
variable {bs cs:List D} {C:Addr} {k1 k2:List (TK×O)}
theorem c3y(e1:a1l [.frz (.lst cs),.dct []]=some (.frz (.exc C none),[none,some (.dct k1)])):a1a [.frz (hT bs cs)]=some (.frz (.exc C none),[none]):=by
 have e0:=xh0 bs cs;have e01:=xh1 bs cs;unfold a1a a3l;generalize hT bs cs=hd at *;simp only[a1n,qq6,qq7,qq2,qq3,qqf,Nat.reduceSub,qq9,qq8,qqb,qqc,a0r,a1t,a1e,a0f,a0n,qq0,↓evBind,a3s,a0h,a0k,a0i,a0j,a3e,e0,Nat.reduceAdd,Nat.reduceLT,qq5,qq4,if_true,e01,a8p,a4h,a1k,qq1,a0x,a1s,a0w,e1,a2f,a3m,a2e,a6t,a3x,qqa,qqd,a2y,a2o]
theorem c3z(e1:a1l [.frz (.lst cs),.dct []]=some (.frz .non,[none,some (.dct k1)]))(e2:a1r [.frz (.lst bs),.dct k1]=some (.frz (.exc C none),[none,some (.dct k2)])):a1a [.frz (hT bs cs)]=some (.frz (.exc C none),[none]):=by
 have e0:=xh0 bs cs;have e01:=xh1 bs cs;unfold a1a a3l;generalize hT bs cs=hd at *;simp only[a1n,qq6,qq7,qq2,qq3,qqf,Nat.reduceSub,qq9,qq8,qqb,qqc,a0r,a1t,a1e,a0f,a0n,qq0,↓evBind,a3s,a0h,a0k,a0i,a0j,a3e,e0,Nat.reduceAdd,Nat.reduceLT,qq5,qq4,if_true,e01,a8p,a4h,a1k,qq1,a0x,a1s,a0w,e1,a2f,a3m,a2e,a7l,e2,a6t,a3x,qqa,qqd,a2y,a2o]
theorem d7w(e1:a1l [.frz (.lst cs),.dct []]=some (.frz .non,[none,some (.dct k1)]))(e2:a1r [.frz (.lst bs),.dct k1]=some (.frz .non,[none,some (.dct k2)]))(e3:a2k [.frz (.lst bs),.frz (.lst cs)]=some (.frz (.exc C none),[none,none])):a1a [.frz (hT bs cs)]=some (.frz (.exc C none),[none]):=by
 have e0:=xh0 bs cs;have e01:=xh1 bs cs;unfold a1a a3l;generalize hT bs cs=hd at *;simp only[a1n,qq6,qq7,qq2,qq3,qqf,Nat.reduceSub,qq9,qq8,qqb,qqc,a0r,a1t,a1e,a0f,a0n,qq0,↓evBind,a3s,a0h,a0k,a0i,a0j,a3e,e0,Nat.reduceAdd,Nat.reduceLT,qq5,qq4,if_true,e01,a8p,a4h,a1k,qq1,a0x,a1s,a0w,e1,a2f,a3m,a2e,a7l,e2,e3,a6t,a3x,qqa,qqd,a2y,a2o]
theorem d7x(e1:a1l [.frz (.lst cs),.dct []]=some (.frz .non,[none,some (.dct k1)]))(e2:a1r [.frz (.lst bs),.dct k1]=some (.frz .non,[none,some (.dct k2)]))(e3:a2k [.frz (.lst bs),.frz (.lst cs)]=some (.frz .non,[none,none]))(e4:a3g [.frz (hT bs cs)]=some (.frz (.exc C none),[none])):a1a [.frz (hT bs cs)]=some (.frz (.exc C none),[none]):=by
 have e0:=xh0 bs cs;have e01:=xh1 bs cs;unfold a1a a3l;generalize hT bs cs=hd at *;simp only[a1n,qq6,qq7,qq2,qq3,qqf,Nat.reduceSub,qq9,qq8,qqb,qqc,a0r,a1t,a1e,a0f,a0n,qq0,↓evBind,a3s,a0h,a0k,a0i,a0j,a3e,e0,Nat.reduceAdd,Nat.reduceLT,qq5,qq4,if_true,e01,a8p,a4h,a1k,qq1,a0x,a1s,a0w,e1,a2f,a3m,a2e,a7l,e2,e3,e4,a6t,a3x,qqa,qqd,a2y,a2o]
theorem e1v(e1:a1l [.frz (.lst cs),.dct []]=some (.frz .non,[none,some (.dct k1)]))(e2:a1r [.frz (.lst bs),.dct k1]=some (.frz .non,[none,some (.dct k2)]))(e3:a2k [.frz (.lst bs),.frz (.lst cs)]=some (.frz .non,[none,none]))(e4:a3g [.frz (hT bs cs)]=some (.frz .non,[none])):a1a [.frz (hT bs cs)]=some (.frz (.bl true),[none]):=by
 have e0:=xh0 bs cs;have e01:=xh1 bs cs;unfold a1a a3l;generalize hT bs cs=hd at *;simp only[a1n,qq6,qq7,qq2,qq3,qqf,Nat.reduceSub,qq9,qq8,qqb,qqc,a0r,a1t,a1e,a0f,a0n,qq0,↓evBind,a3s,a0h,a0k,a0i,a0j,a3e,e0,Nat.reduceAdd,Nat.reduceLT,qq5,qq4,if_true,e01,a8p,a4h,a1k,qq1,a0x,a1s,a0w,e1,a2f,a3m,a2e,a7l,e2,e3,e4,d6z,c8v,a3x,qqa,qqd,a2y,a2o]
end
def pr(b:Belt):Belt×List D:=(b,b.outs.map D.str)
theorem e0u(bs:List Belt):(bs.map pr).map eP=bs.map beltD:=by rw[List.map_map];rfl
theorem c4a(bs:List Belt):(bs.map pr).map Prod.fst=bs:=by rw[List.map_map];exact List.map_id _
theorem b1b{gc:List Str}(hc:gc.Nodup):∀{bs:List Belt},Fwd gc bs->(bs.map Belt.name++gc).Nodup
 |[],_=>hc
 |b::bs,f=>by
  rw[List.map_cons,List.cons_append];refine List.nodup_cons.mpr ⟨fun z=>?_,b1b hc f.2.2.2⟩
  rcases List.mem_append.mp z with z|z
  ·exact f.2.1 z
  ·exact f.2.2.1 z
theorem GoodW.nmok(g:GoodW h){q:List Belt}(e:h.belts=q++r):NmOk h.carts q:=by
 have n:=b1b g.cn g.fwd;have n:(h.carts++h.belts.map Belt.name).Nodup:=List.perm_append_comm.nodup_iff.mp n;rw[e,List.map_append,<-List.append_assoc] at n;have sm:=g.sm.bl;have sc:=g.sm.ct;have hl:q.length<=h.belts.length:=by rw[e];simp
 exact⟨(List.nodup_append.mp n).1,fun b hb=>g.nm b (by rw[e];exact List.mem_append_left _ hb),fun b hb=>g.lg b (by rw[e];exact List.mem_append_left _ hb),by omega⟩
theorem b4e{gc:List Str}{post:List Belt}:∀{q:List (Belt×List D)},Fwd gc (q.map Prod.fst++post)->(∀x∈q,x.2=x.1.outs.map D.str/\x.1.outs.Nodup/\x.1.outs≠[])->OutsOk gc post q
 |[],_,_=>True.intro
 |x::q,f,h=>by
  obtain⟨h1,h2,h3⟩:=h x (.head _);refine⟨⟨x.1.outs,h1,h3,h2,fun o ho=>?_⟩,b4e f.2.2.2 fun y hy=>h y (.tail _ hy)⟩
  rcases f.1 o ho with z|z
  ·exact List.mem_append_left _ z
  ·exact List.mem_append_right _ z
theorem GoodW.carts{h:House}(g:GoodW h):a1l [.frz (.lst (h.carts.map .str)),.dct []]=some (.frz .non,[none,some (.dct (kd h.carts))]):=d7q g.cn g.cm g.c0 g.sm.ct
theorem GoodW.belts{h:House}(g:GoodW h):a1r [.frz (.lst (h.belts.map beltD)),.dct (kd h.carts)]=some (.frz .non,[none,some (.dct (kd (h.carts++h.belts.map Belt.name)))]):=by
 have:=d0d (gc:=h.carts) (q:=h.belts.map pr) (by rw[c4a];exact g.nmok (r:=[]) (by simp))
 rwa [e0u,c4a] at this
theorem GoodW.outs(g:GoodW h):a2k [.frz (.lst (h.belts.map beltD)),.frz (.lst (h.carts.map .str))]=some (.frz .non,[none,none]):=by
 have:=d7u (gc:=h.carts) (ps:=h.belts.map pr) (by rw[List.length_map];exact g.sm.bl) g.sm.ct (by rw[c4a];exact b1b g.cn g.fwd) (b4e (by rw[c4a,List.append_nil];exact g.fwd) fun x hx=>by
  obtain⟨b,hb,rfl⟩:=List.mem_map.mp hx;exact⟨rfl,g.nd b hb,g.o0 b hb⟩)
 rwa [e0u] at this
theorem d7y(g:GoodH h):a1a [.frz (a3y h)]=some (.frz (.bl true),[none]):=e1v g.carts g.belts g.outs (e0t g)
theorem c5h(g:GoodW h)(hz:∃b∈h.belts,h.carts.getD 0 ""∉a4x h.belts b.name):a1a [.frz (a3y h)]=some (.frz (.exc 73 none),[none]):=d7x g.carts g.belts g.outs (d0j g hz)
theorem b9v:∀(xs:List WB) (acc:List D) (a:Option O),acc.length+xs.length < 1000000->∃a',compLoop (a0p 0) gYes (gFrz (gSeq .tup (a0a (gBin oIx (gVar 0) (gC (.int 0))) (a0a (gBin oIx (gVar 0) (gC (.int 1))) (a0a (gBin oIx (gVar 0) (gC (.int 2))) (a0a (gFrz (gOp oList (a0a (gBin oIx (gVar 0) (gC (.int 3))) gaNil))) gaNil)))))) (xs.map wbL) [a] (acc.map .frz)=some ((acc++xs.map wbT).map .frz,[a'])
 |[],acc,a,_=>⟨a,by rw[List.map_nil,b0f,List.map_nil,List.append_nil]⟩
 |x::xs,acc,a,h=>by
  rw[List.length_cons] at h;have hl:(acc.map O.frz).length < 1000000:=by rw[List.length_map];omega
  obtain⟨a',e⟩:=b9v xs (acc++[wbT x]) (some (.frz (wbL x))) (by rw[List.length_append,List.length_singleton];omega)
  refine⟨a',?_⟩;rw[List.map_cons (f:=wbT),show acc++wbT x::xs.map wbT=acc++[wbT x]++xs.map wbT by simp]
  rw[<-e,List.map_append];unfold wbL wbT;simp only[qq6,a7z,a1q,qq2,qq3,qqf,Nat.reduceLT,qq4,if_true,↓evBind,b3i,a1j,a3f,a0f,a1e,a0n,qq0,a3s,a0h,a0k,a0i,a0j,a3e,a4b,a2i,↓evMap,a3q,a5w,b0g,c3e,a5a,b1y,Nat.reduceAdd,Nat.reduceLeDiff,a1h,a1b,c0s,a6f,a1o,a6e,hl,qq7]
def whL(h:WH):D:=.lst [.lst (h.bs.map wbL),.lst h.cs]
def whT(h:WH):D:=hT (h.bs.map wbT) h.cs
theorem c1n(h:WH):(whO h).d=whL h:=by
 unfold whO whL;show D.lst (O.dl [.lst (h.bs.map wbO),.lst (h.cs.map .frz)])=_;show D.lst [(O.lst (h.bs.map wbO)).d,(O.lst (h.cs.map .frz)).d]=_;rw[show(O.lst (h.bs.map wbO)).d=.lst (h.bs.map wbL) from congrArg D.lst (d7n h.bs),show(O.lst (h.cs.map .frz)).d=.lst h.cs from congrArg D.lst (a4t h.cs)]
theorem e0v(h:WH)(hl:h.bs.length<=100):∃o,b0t [.frz (whL h)]=some (o,[none])/\o.d=whT h/\∃os,o=.tup os:=by
 obtain⟨a',e⟩:=b9v h.bs [] none (by rw[List.length_nil];omega)
 rw[List.map_nil,List.nil_append] at e;refine⟨.tup [.frz (.lst (h.bs.map wbT)),.frz (.lst h.cs)],?_,rfl,_,rfl⟩;unfold b0t b7f whL;generalize h.bs.map wbL=l1 at *;generalize h.bs.map wbT=l2 at *;simp only[a1n,qq6,qq7,qq2,qq3,qqf,Nat.reduceSub,qq8,List.append_nil,a3p,a3f,a0f,a1j,a4k,b1q,a1e,a0n,qq0,↓evBind,a3s,a0h,a0k,a0i,a0j,a3e,a4b,a2i,↓evMap,a1o,qq9,a4f,e,Nat.reduceAdd,List.drop_succ_cons,List.drop_zero,a4g,if_true,a5a,b1y,a3q,c3e,Nat.reduceLeDiff,a1h,a1b,a3x,qqa,qqd,a2y,a2o]
def kindS(k:Nat):Str:=match k with
 |0=>"name"
 |1=>"hand"
 |2=>"size"
 |3=>"out"
 |_=>"far"
def resD(due:Str)(r:D):Prop:=(due="right"/\r=.bl true)\/(due="name"/\r=.exc 37 none)\/(due="size"/\r=.exc 49 none)\/(due="out"/\r=.exc 61 none)\/(due="hand"/\r=.exc 73 none)
theorem e0w{hd:D}{r:D}(h:resD due r)(e:a1a [.frz hd]=some (.frz r,[none])):b2s [.frz hd]=some (.lst [fS due],[none]):=by
 unfold b2s b7j;have w0:wT errCs 37=some true/\wT errCs 49=some true/\wT errCs 61=some true/\wT errCs 73=some true:=⟨rfl,rfl,rfl,rfl⟩;obtain⟨w1,w2,w3,w4⟩:=w0;have v1:wE errCs 37 37=some true/\wE errCs 49 37=some false/\wE errCs 61 37=some false/\wE errCs 73 37=some false:=⟨rfl,rfl,rfl,rfl⟩;have v2:wE errCs 37 49=some false/\wE errCs 49 49=some true/\wE errCs 61 49=some false/\wE errCs 73 49=some false:=⟨rfl,rfl,rfl,rfl⟩;have v3:wE errCs 37 61=some false/\wE errCs 49 61=some false/\wE errCs 61 61=some true/\wE errCs 73 61=some false:=⟨rfl,rfl,rfl,rfl⟩;have v4:wE errCs 37 73=some false/\wE errCs 49 73=some false/\wE errCs 61 73=some false/\wE errCs 73 73=some true:=⟨rfl,rfl,rfl,rfl⟩;obtain⟨a1,a2,a3,a4⟩:=v1;obtain⟨b1,b2,b3,b4⟩:=v2;obtain⟨c1,c2,c3,c4⟩:=v3;obtain⟨d1,d2,d3,d4⟩:=v4;generalize errCs=ec at *;rcases h with⟨rfl,rfl⟩|⟨rfl,rfl⟩|⟨rfl,rfl⟩|⟨rfl,rfl⟩|⟨rfl,rfl⟩
 ·simp only[a1n,qq6,qq7,qq2,qq3,qqf,Nat.reduceSub,qq9,qq8,qqb,qqc,a0r,a1t,a3f,a0h,↓evBind,Nat.reduceLeDiff,a1b,if_true,Nat.reduceAdd,Nat.reduceLT,qq5,qq4,b8x,b9d,a1k,a0f,a0n,qq0,a0x,a0w,e,a2f,a2e,c8v,a2q,a4w,qq1,a3s,a1h,b1t,a3p,a4z,a3x,qqa,qqd,a2y,a2o]
 ·simp only[a1n,qq6,qq7,qq2,qq3,qqf,Nat.reduceSub,qq9,qq8,qqb,qqc,a0r,a1t,a3f,a0h,↓evBind,Nat.reduceLeDiff,a1b,if_true,Nat.reduceAdd,Nat.reduceLT,qq5,qq4,b8x,b9d,a1k,a0f,a0n,qq0,a0x,a0w,e,a2f,a2e,a6t,b6q,w1,b0n,a1m,a4e,a1e,qq1,a0k,a0i,a0j,b6v,a1,↓evMap,a5n,a2q,a4w,a3s,a1h,b1t,a1p,a2,qqe,if_false,a3,a4,a6d,Bool.not_true,a3p,a4z,a3x,qqa,qqd,a2y,a2o]
 ·simp only[a1n,qq6,qq7,qq2,qq3,qqf,Nat.reduceSub,qq9,qq8,qqb,qqc,a0r,a1t,a3f,a0h,↓evBind,Nat.reduceLeDiff,a1b,if_true,Nat.reduceAdd,Nat.reduceLT,qq5,qq4,b8x,b9d,a1k,a0f,a0n,qq0,a0x,a0w,e,a2f,a2e,a6t,b6q,w2,b0n,a1m,a4e,a1e,qq1,a0k,a0i,a0j,b6v,b1,↓evMap,a5n,qqe,a2q,a4w,a3s,a1h,b1t,a1p,if_false,b2,b3,b4,a6d,Bool.not_true,a3p,a4z,a3x,qqa,qqd,a2y,a2o]
 ·simp only[a1n,qq6,qq7,qq2,qq3,qqf,Nat.reduceSub,qq9,qq8,qqb,qqc,a0r,a1t,a3f,a0h,↓evBind,Nat.reduceLeDiff,a1b,if_true,Nat.reduceAdd,Nat.reduceLT,qq5,qq4,b8x,b9d,a1k,a0f,a0n,qq0,a0x,a0w,e,a2f,a2e,a6t,b6q,w3,b0n,a1m,a4e,a1e,qq1,a0k,a0i,a0j,b6v,c1,↓evMap,a5n,qqe,a2q,a4w,a3s,a1h,b1t,a1p,if_false,c2,c3,c4,a6d,Bool.not_true,a3p,a4z,a3x,qqa,qqd,a2y,a2o]
 ·simp only[a1n,qq6,qq7,qq2,qq3,qqf,Nat.reduceSub,qq9,qq8,qqb,qqc,a0r,a1t,a3f,a0h,↓evBind,Nat.reduceLeDiff,a1b,if_true,Nat.reduceAdd,Nat.reduceLT,qq5,qq4,b8x,b9d,a1k,a0f,a0n,qq0,a0x,a0w,e,a2f,a2e,a6t,b6q,w4,b0n,a1m,a4e,a1e,qq1,a0k,a0i,a0j,b6v,d1,↓evMap,a5n,qqe,a2q,a4w,a3s,a1h,b1t,a1p,if_false,d2,d3,d4,a6d,Bool.not_true,a3p,a4z,a3x,qqa,qqd,a2y,a2o]
abbrev Spot:=Nat×Nat×Nat
def spD(s:Spot):D:=.tup [.str (kindS s.1),.int (s.2.1:Nat),.int (0+(s.2.2:Int))]
def spL(nc nb:Nat):List Spot:=((List.range nc).map fun k=>(0,1,k))++(1,1,0)::((List.range nb).flatMap fun k=>[(0,0,k),(2,0,k)])++((List.range nb).map fun k=>(3,0,k))++if nb=0 then[] else[(4,0,0)]
def spAt(nc nb j:Nat):Spot:=if j < nc then(0,1,j) else if j=nc then(1,1,0) else if j < nc+1+2 * nb then(if(j - nc - 1) % 2=0 then(0,0,(j - nc - 1) / 2) else(2,0,(j - nc - 1) / 2)) else if j < nc+1+3 * nb then(3,0,j - (nc+1+2 * nb)) else(4,0,0)
theorem e0x:∀nc,nc < 5->∀nb,nb < 7->spL nc nb=(List.range (nc+1+3 * nb+if nb=0 then 0 else 1)).map (spAt nc nb):=by decide +kernel
abbrev fSp(s:Spot):O:=.frz (spD s)
theorem c1o(l:List Spot):l.map fSp=(l.map spD).map .frz:=by rw[List.map_map];rfl
theorem e1w(l:List Spot):frzL (l.map fSp)=some (l.map spD):=by rw[c1o,a5s]
theorem d0k(l:List Spot)(s:Spot)(hl:l.length < 1000000):a2w (.lst (l.map fSp)) [.frz (spD s)]=some (.lst ((l++[s]).map fSp),.frz .non):=by
 show(if(l.map fSp).length < 1000000 then some (O.lst (l.map fSp++[.frz (spD s)]),O.frz .non) else none)=_
 rw[if_pos (by rw[List.length_map];exact hl),List.map_append]
 rfl
theorem d7z(h:WH)(hc:h.cs.length<=10)(hb:h.bs.length<=10):b0s [whO h]=some (.lst ((spL h.cs.length h.bs.length).map fSp),[some (whO h)]):=by
 have i1:int1 [.own (.frz (.int (h.cs.length:Nat)))]=some ((h.cs.length:Nat):Int):=b1k (by omega)
 have i2:int1 [.own (.frz (.int (h.bs.length:Nat)))]=some ((h.bs.length:Nat):Int):=b1k (by omega)
 have t1:((h.cs.length:Nat):Int).toNat=h.cs.length:=rfl;have t2:((h.bs.length:Nat):Int).toNat=h.bs.length:=rfl;generalize hnc:h.cs.length=nc at *;generalize hnb:h.bs.length=nb at *;have hle:h.bs.isEmpty=decide (nb=0):=by rw[<-hnb];cases h.bs <;> rfl
 obtain⟨Γc,⟨a0,rfl⟩,eC⟩:=d2e (g:=a0p 0) (ct:=gYes) (ce:=gFrz (gSeq .tup (a0a (gC (.str "name")) (a0a (gC (.int 1)) (a0a (gVar 0) gaNil))))) (fun Γ=>∃a,Γ=[a]) (fun(k:Nat)=>D.int (0+(k:Int))) (fun k=>spD (0,1,k)) (List.range nc) [none] ⟨_,rfl⟩ (by rw[List.length_range];omega) (by
  rintro k hk Γ ⟨a,rfl⟩;refine⟨[some (.frz (.int (0+(k:Int))))],?_,_,rfl⟩;unfold spD kindS;dsimp only;generalize(0+(k:Int))=ki;simp only[b6o,a1q,qq2,qq3,qqf,Nat.reduceLT,qq4,if_true,↓evBind,b3i,a1j,a3f,a0f,a3s,a0n,qq0,a0h,Nat.reduceAdd,Nat.reduceLeDiff,a1h,a1b,c0s,a6f,a1o,a6e];rfl)
 have c0:((List.range nc).map fun k=>spD (0,1,k)).map O.frz=((List.range nc).map fun k=>((0,1,k):Spot)).map fSp:=by rw[List.map_map,List.map_map];rfl
 rw[c0] at eC;generalize hl0:((List.range nc).map fun k=>((0,1,k):Spot))=l0 at *
 have ln0:l0.length=nc:=by rw[<-hl0];simp
 have eH:=d0k l0 (1,1,0) (by omega)
 obtain⟨Γ1,eL,a1,rfl⟩:=a5x (g:=a0p 2) (f:=gsSet 1 (gBin oAdd (gVar 1) (gSeq .lst (a0a (gFrz (gSeq .tup (a0a (gC (.str "name")) (a0a (gC (.int 0)) (a0a (gVar 2) gaNil))))) (a0a (gFrz (gSeq .tup (a0a (gC (.str "size")) (a0a (gC (.int 0)) (a0a (gVar 2) gaNil))))) gaNil))))) (fun(k:Nat)=>D.int (0+(k:Int)))
  (fun pre Γ=>∃a,Γ=[some (whO h),some (.lst ((l0++[(1,1,0)]++pre.flatMap fun k=>[(0,0,k),(2,0,k)]).map fSp)),a]) (List.range nb) [] [some (whO h),some (.lst ((l0++[(1,1,0)]).map fSp)),none] ⟨none,by rw[List.flatMap_nil,List.append_nil]⟩ (by
  rintro q k post Γ eq ⟨a,rfl⟩;rw[List.nil_append] at *;have hq:q.length<=10:=by have:=congrArg List.length eq;simp at this;omega
  rw[show l0++[(1,1,0)]++((q++[k]).flatMap fun k=>[((0,0,k):Spot),(2,0,k)])=(l0++[(1,1,0)]++q.flatMap fun k=>[(0,0,k),(2,0,k)])++[(0,0,k),(2,0,k)] by simp]
  have hln:(l0++[((1,1,0):Spot)]++q.flatMap fun k=>[(0,0,k),(2,0,k)]).length<=1000:=by
   have:(q.flatMap fun k=>[((0,0,k):Spot),(2,0,k)]).length=2 * q.length:=by
    clear hq eq
    induction q with
    |nil=>rfl
    |cons x q ih=>rw[List.flatMap_cons,List.length_append,ih];simp;omega
   simp only[List.length_append,this,List.length_singleton];omega
  generalize(l0++[((1,1,0):Spot)]++q.flatMap fun k=>[(0,0,k),(2,0,k)])=l at *
  refine⟨[some (whO h),some (.lst ((l++[(0,0,k),(2,0,k)]).map fSp)),some (.frz (.int (0+(k:Int))))],?_,_,rfl⟩;have e1:(l.map spD++[D.tup [.str "name",.int 0,.int (0+(k:Int))],.tup [.str "size",.int 0,.int (0+(k:Int))]]).map O.frz=(l++[((0,0,k):Spot),(2,0,k)]).map fSp:=by
   rw[c1o,List.map_append (f:=spD)];rfl
  have f1:=e1w l;have e2:((l.map spD).length+2<=1000000)=True:=eq_true (by simp;omega)
  generalize(l++[((0,0,k):Spot),(2,0,k)]).map fSp=l2 at *;generalize(0+(k:Int))=ki at *;generalize whO h=wo at *;generalize l.map fSp=l1 at *;generalize l.map spD=l3 at *;simp only[a1q,qq2,qq3,qqf,Nat.reduceAdd,Nat.reduceLT,qq5,qq4,if_true,↓evBind,a1t,a1e,a0f,a0n,qq1,qq0,a3f,a1j,a3s,a0h,Nat.reduceLeDiff,a1h,a1b,c0s,a6f,a1o,a6e,a0k,a2x,Option.join_some,a0i,a0j,c7w,b3k,f1,d4k,d4j,e2,e1])
 rw[List.nil_append] at eL;generalize hl2:(l0++[((1,1,0):Spot)]++(List.range nb).flatMap fun k=>[(0,0,k),(2,0,k)])=l2 at *
 have ln2:l2.length<=100:=by
  have:∀q:List Nat,(q.flatMap fun k=>[((0,0,k):Spot),(2,0,k)]).length=2 * q.length:=by
   intro q
   induction q with
   |nil=>rfl
   |cons x q ih=>rw[List.flatMap_cons,List.length_append,ih];simp;omega
  rw[<-hl2];simp only[List.length_append,this,List.length_singleton,List.length_range];omega
 obtain⟨Γ2,eM,a2,rfl⟩:=a5x (g:=a0p 2) (f:=a2s (gMut a2w (gVar 1) (a0a (gFrz (gSeq .tup (a0a (gC (.str "out")) (a0a (gC (.int 0)) (a0a (gVar 2) gaNil))))) gaNil))) (fun(k:Nat)=>D.int (0+(k:Int)))
  (fun pre Γ=>∃a,Γ=[some (whO h),some (.lst ((l2++pre.map fun k=>(3,0,k)).map fSp)),a]) (List.range nb) [] [some (whO h),some (.lst (l2.map fSp)),a1] ⟨a1,by rw[List.map_nil,List.append_nil]⟩ (by
  rintro q k post Γ eq ⟨a,rfl⟩;rw[List.nil_append] at *;have hq:q.length<=10:=by have:=congrArg List.length eq;simp at this;omega
  rw[show l2++((q++[k]).map fun k=>((3,0,k):Spot))=(l2++q.map fun k=>(3,0,k))++[(3,0,k)] by simp]
  have hln:(l2++q.map fun k=>((3,0,k):Spot)).length < 1000000:=by simp;omega
  generalize(l2++q.map fun k=>((3,0,k):Spot))=l at *
  refine⟨[some (whO h),some (.lst ((l++[(3,0,k)]).map fSp)),some (.frz (.int (0+(k:Int))))],?_,_,rfl⟩;have e1:=d0k l (3,0,k) hln;have e1:a2w (.lst (l.map fSp)) [.frz (.tup [.str "out",.int 0,.int (0+(k:Int))])]=_:=e1;generalize(l++[((3,0,k):Spot)]).map fSp=l2 at *;generalize(0+(k:Int))=ki at *;generalize whO h=wo at *;generalize l.map fSp=l1 at *;simp only[a1q,qq2,qq3,qqf,Nat.reduceAdd,Nat.reduceLT,qq5,qq4,if_true,↓evBind,a2q,a4w,a0n,qq1,qq0,a0f,a1j,a3f,a3s,a0h,Nat.reduceLeDiff,a1h,a1b,c0s,a6f,a1o,a6e,e1])
 rw[List.nil_append] at eM;have spE:spL nc nb=l2++((List.range nb).map fun k=>((3,0,k):Spot))++if nb=0 then[] else[(4,0,0)]:=by
  unfold spL;rw[<-hl2,<-hl0];simp
 rw[spE];generalize hl3:(l2++(List.range nb).map fun k=>((3,0,k):Spot))=l3 at *
 have ln3:l3.length < 1000000:=by rw[<-hl3];simp;omega
 have eF:=d0k l3 (4,0,0) ln3;have eH:a2w (.lst (l0.map fSp)) [.frz (.tup [.str "hand",.int 1,.int 0])]=_:=eH;have eF:a2w (.lst (l3.map fSp)) [.frz (.tup [.str "far",.int 0,.int 0])]=_:=eF;have eC:compLoop (a0p 0) gYes (gFrz (gSeq .tup (a0a (gC (.str "name")) (a0a (gC (.int 1)) (a0a (gVar 0) gaNil))))) (rngD 0 nc) [none] []=_:=eC;have eL:a2a (a0p 2) _ (rngD 0 nb) _=_:=eL;have eM:a2a (a0p 2) _ (rngD 0 nb) _=_:=eM;unfold b0s b3v;have wd:=c1n h;unfold whL at wd;have e2:(h.bs.map wbL).isEmpty=h.bs.isEmpty:=by cases h.bs <;> rfl
 generalize whO h=wo at *;by_cases h0:nb=0
 ·have q1:(!h.bs.isEmpty)=false:=by rw[hle,h0];rfl
  rw[if_pos h0,List.append_nil];simp only[a1n,qq6,qq7,qq2,qq3,qqf,Nat.reduceSub,qq9,qq8,qqb,qqc,a0r,a1t,a4k,b0e,a0f,a7m,b2b,wd,b3r,b0o,a1e,a0n,qq0,↓evBind,a3s,a0h,a0k,a0i,a0j,a3e,a4b,a3q,↓evMap,a4m,a1o,a3j,hnc,b3s,if_true,i1,t1,a4f,List.append_nil,eC,Nat.reduceAdd,List.drop_succ_cons,List.drop_zero,a4g,Nat.reduceLT,qq5,qq4,a2q,a4w,qq1,a1j,a3f,Nat.reduceLeDiff,a1h,a1b,c0s,a6f,a6e,eH,c7u,a5a,a2i,List.length_map,hnb,i2,t2,eL,eM,a1m,c3d,a4e,a7i,e2,q1,qqe,a1p,if_false,a3p,a4z,a3x,qqa,qqd,a5m,a2o]
 ·have q1:(!h.bs.isEmpty)=true:=by rw[hle,decide_eq_false h0];rfl
  rw[if_neg h0];simp only[a1n,qq6,qq7,qq2,qq3,qqf,Nat.reduceSub,qq9,qq8,qqb,qqc,a0r,a1t,a4k,b0e,a0f,a7m,b2b,wd,b3r,b0o,a1e,a0n,qq0,↓evBind,a3s,a0h,a0k,a0i,a0j,a3e,a4b,a3q,↓evMap,a4m,a1o,a3j,hnc,b3s,if_true,i1,t1,a4f,List.append_nil,eC,Nat.reduceAdd,List.drop_succ_cons,List.drop_zero,a4g,Nat.reduceLT,qq5,qq4,a2q,a4w,qq1,a1j,a3f,Nat.reduceLeDiff,a1h,a1b,c0s,a6f,a6e,eH,c7u,a5a,a2i,List.length_map,hnb,i2,t2,eL,eM,a1m,c3d,a4e,a7i,e2,q1,eF,a1p,a3p,a4z,a3x,qqa,qqd,a5m,a2o]
section
variable {h:WH} {b:WB} {j k:Nat}
theorem setP1(f:O->Option (O×O)):setP f (whO h) [1]=(f (.lst (h.cs.map .frz))).bind fun z=>some (.lst [.lst (h.bs.map wbO),z.1],z.2):=by
 unfold whO;show(setP f (.lst (h.cs.map .frz)) []).bind _=_;rw[show setP f (.lst (h.cs.map .frz)) []=f (.lst (h.cs.map .frz)) by unfold setP;rfl]
 rfl
theorem e0y(hb:h.bs[j]?=some b):(h.bs.map wbO)[j]?=some (wbO b):=by rw[List.getElem?_map,hb];rfl
theorem d0l(b':WB):(h.bs.map wbO).set j (wbO b')=(h.bs.set j b').map wbO:=by rw[List.map_set]
theorem setP2(f:O->Option (O×O))(hb:h.bs[j]?=some b):setP f (whO h) [0,j]=(f (wbO b)).bind fun z=>some (.lst [.lst ((h.bs.map wbO).set j z.1),.lst (h.cs.map .frz)],z.2):=by
 unfold whO;show(setP f (.lst (h.bs.map wbO)) [j]).bind _=_;have e:setP f (.lst (h.bs.map wbO)) [j]=((h.bs.map wbO)[j]?).bind fun c=>(setP f c []).bind fun z=>some (.lst ((h.bs.map wbO).set j z.1),z.2):=by conv=>lhs;unfold setP
 have e2:setP f (wbO b) []=f (wbO b):=by unfold wbO;unfold setP;rfl
 rw[e,e0y hb,Option.bind_some,e2];cases f (wbO b) with
 |none=>rfl
 |some z=>rfl
theorem setP3(f:O->Option (O×O))(hb:h.bs[j]?=some b):setP f (whO h) [0,j,3]=(f (.lst (b.os.map .frz))).bind fun z=>some (.lst [.lst ((h.bs.map wbO).set j (.lst [.frz b.n,.frz (.int b.l),.frz (.bl b.r),z.1])),.lst (h.cs.map .frz)],z.2):=by
 unfold whO;show(setP f (.lst (h.bs.map wbO)) [j,3]).bind _=_;have e:setP f (.lst (h.bs.map wbO)) [j,3]=((h.bs.map wbO)[j]?).bind fun c=>(setP f c [3]).bind fun z=>some (.lst ((h.bs.map wbO).set j z.1),z.2):=by conv=>lhs;unfold setP
 have e2:setP f (wbO b) [3]=(f (.lst (b.os.map .frz))).bind fun z=>some (.lst [.frz b.n,.frz (.int b.l),.frz (.bl b.r),z.1],z.2):=by
  unfold wbO;show(setP f (.lst (b.os.map .frz)) []).bind _=_;rw[show setP f (.lst (b.os.map .frz)) []=f (.lst (b.os.map .frz)) by unfold setP;rfl]
  rfl
 rw[e,e0y hb,Option.bind_some,e2];cases f (.lst (b.os.map .frz)) with
 |none=>rfl
 |some z=>rfl
theorem d3g(d:D)(hk:k < h.cs.length):setP (fun c=>mSet c [.frz d,.frz (.int (k:Int))]) (whO h) [1]=some (whO ⟨h.bs,h.cs.set k d⟩,.frz .non):=by
 rw[setP1];have e:mSet (.lst (h.cs.map .frz)) [.frz d,.frz (.int (k:Int))]=some (.lst ((h.cs.set k d).map .frz),.frz .non):=by
  show((ixN (h.cs.map O.frz).length (k:Int)).map fun j=>(O.lst ((h.cs.map O.frz).set j (.frz d)),O.frz .non))=_
  rw[List.length_map,show ixN h.cs.length (k:Int)=some k by unfold ixN;rw[if_pos (by omega),if_pos (by omega)];simp,List.map_set]
  rfl
 rw[e];rfl
theorem e0z(d:D)(hb:h.bs[j]?=some b):setP (fun c=>mSet c [.frz d,.frz (.int 0)]) (whO h) [0,j]=some (whO ⟨h.bs.set j { b with n:=d},h.cs⟩,.frz .non):=by
 rw[setP2 _ hb];have e:mSet (wbO b) [.frz d,.frz (.int 0)]=some (wbO { b with n:=d},.frz .non):=rfl;rw[e,Option.bind_some,d0l];rfl
theorem e1a(v:Int)(hb:h.bs[j]?=some b):setP (fun c=>mSet c [.frz (.int v),.frz (.int 1)]) (whO h) [0,j]=some (whO ⟨h.bs.set j { b with l:=v},h.cs⟩,.frz .non):=by
 rw[setP2 _ hb];have e:mSet (wbO b) [.frz (.int v),.frz (.int 1)]=some (wbO { b with l:=v},.frz .non):=rfl;rw[e,Option.bind_some,d0l];rfl
theorem d4w:subP (whO h) [1]=some (.lst (h.cs.map .frz)):=by unfold subP;rw[setP1];rfl
theorem d4x(hb:h.bs[j]?=some b):subP (whO h) [0,j,3]=some (.lst (b.os.map .frz)):=by unfold subP;rw[setP3 _ hb];rfl
theorem d0m(os:List D)(hb:h.bs[j]?=some b):setP (fun c=>some (.lst (os.map .frz),c)) (whO h) [0,j,3]=some (whO ⟨h.bs.set j { b with os:=os},h.cs⟩,.lst (b.os.map .frz)):=by
 rw[setP3 _ hb,Option.bind_some];show some (O.lst [.lst ((h.bs.map wbO).set j (wbO { b with os:=os})),.lst (h.cs.map .frz)],_)=_;rw[d0l];rfl
theorem e1b:setP (fun c=>b3f c []) (whO h) [1]=some (whO ⟨h.bs,[]⟩,.frz .non):=by rw[setP1];rfl
theorem e1c(d:D)(hl:h.cs.length < 1000000):setP (fun c=>a2w c [.frz d]) (whO h) [1]=some (whO ⟨h.bs,h.cs++[d]⟩,.frz .non):=by
 rw[setP1];have e:a2w (.lst (h.cs.map .frz)) [.frz d]=some (.lst ((h.cs++[d]).map .frz),.frz .non):=by
  show(if(h.cs.map O.frz).length < 1000000 then some (O.lst (h.cs.map O.frz++[.frz d]),O.frz .non) else none)=_
  rw[if_pos (by rw[List.length_map];exact hl),List.map_append]
  rfl
 rw[e];rfl
end
def nn:List D:=[.str "",.str "A",.str "abcdefghi",.str "a b",.str "a1",.str "a\n",.non,.int 7,.bl true,.lst [],.lst [.str "a"],.tup [.str "a"]]
theorem e1d:∀d∈nn,noN d/\okD 5 d=true:=by
 intro d hd;unfold nn at hd;simp only[List.mem_cons,List.not_mem_nil,or_false] at hd;rcases hd with rfl|rfl|rfl|rfl|rfl|rfl|rfl|rfl|rfl|rfl|rfl|rfl <;> exact⟨by kernel_rfl,rfl⟩
theorem c4b(c:Int):∃d,a7q [.frz (.int c)]=some (.frz d,[none])/\noN d/\okD 5 d=true:=by
 have c0:0<=c % 12:=Int.emod_nonneg _ (by decide)
 have c1:c % 12 < 12:=Int.emod_lt_of_pos _ (by decide)
 have ha:atI nn (c % 12)=some (nn.getD (c % 12).toNat D.non):=b2i (xs:=nn) D.non c0 (by show c % 12 < (12:Nat);omega)
 have hm:nn.getD (c % 12).toNat D.non∈nn:=by
  have hk:(c % 12).toNat < nn.length:=by show(c % 12).toNat < 12;omega
  have e:nn[(c % 12).toNat]?=some (nn.getD (c % 12).toNat D.non):=by simp[hk]
  exact List.mem_of_getElem? e
 generalize nn.getD (c % 12).toNat D.non=d at *;refine⟨d,?_,e1d d hm⟩;unfold nn at ha;unfold a7q a9n;simp only[a1n,qq6,qq7,qq2,qq3,qqf,Nat.reduceSub,qq9,qq8,qqb,qqc,a0r,a1t,a1j,a3f,a0f,a3s,↓evBind,a0h,Nat.reduceLeDiff,a1b,if_true,a5a,a6e,a1h,a6f,a1o,c0s,Nat.reduceAdd,Nat.reduceLT,qq5,qq4,a3p,a1e,a0n,qq1,qq0,a0k,a0i,a0j,a3d,Int.reduceLT,decide_true,a3e,a4b,ha,↓evMap,a3x,qqa,qqd,a2y,a2o]
theorem b4f:∀(xs:List WB) (acc:List D) (a:Option O),acc.length+xs.length < 1000000->∃a',compLoop (a0p 0) gYes (gBin oIx (gVar 0) (gC (.int 0))) (xs.map wbL) [a] (acc.map .frz)=some ((acc++xs.map WB.n).map .frz,[a'])
 |[],acc,a,_=>⟨a,by rw[List.map_nil,b0f,List.map_nil,List.append_nil]⟩
 |x::xs,acc,a,h=>by
  rw[List.length_cons] at h;have hl:(acc.map O.frz).length < 1000000:=by rw[List.length_map];omega
  obtain⟨a',e⟩:=b4f xs (acc++[x.n]) (some (.frz (wbL x))) (by rw[List.length_append,List.length_singleton];omega)
  refine⟨a',?_⟩;rw[List.map_cons (f:=WB.n),show acc++x.n::xs.map WB.n=acc++[x.n]++xs.map WB.n by simp]
  rw[<-e,List.map_append];unfold wbL;simp only[qq6,a7z,a1q,qq2,qq3,qqf,Nat.reduceLT,qq4,if_true,↓evBind,b3i,a1e,a0f,a0n,qq0,a3s,a0h,a0k,a0i,a0j,a3e,a4b,a2i,↓evMap,a1h,a1b,hl,qq7]
theorem b9w{known:List D}{c:Int}{d0:D}(h0:noN d0/\okD 5 d0=true)(hk:∀d∈known,okD 5 d=true)(hl:known.length<=1000)(s0 s1:Option O):
  ∃d,(gsIf (gAndT (gT (gBin oEq (gBin oMod (gVar 2) (gC (.int 2))) (gC (.int 0)))) (gTru (gVar 3)))
  (gsSet 4 (gBin oIx (gVar 3) (gBin oMod (gBin oFdiv (gVar 2) (gC (.int 2))) (gOp oLen (a0a (gVar 3) gaNil)))))
  gsNil) [s0,s1,some (.frz (.int c)),some (.frz (.lst known)),some (.frz d0)]=some (.nx,[s0,s1,some (.frz (.int c)),some (.frz (.lst known)),some (.frz d)])/\(noN d\/d∈known)/\okD 5 d=true:=by
 cases h2:c % 2 == 0 with
 |false=>exact⟨d0,by simp only[a1m,b1p,a5z,a1e,a0f,a0n,qq1,qq0,↓evBind,a3s,a0h,a0k,a0i,a0j,a3d,Int.reduceLT,decide_true,if_true,a4p,a1o,a3k,and_self,a4n,h2,qqe,a4e,a7i,if_false,a1t,a4m,a3j,↓evMap,decide_eq_true_eq,a1p],.inl h0.1,h0.2⟩
 |true=>
  cases hn:known with
  |nil=>exact⟨d0,by simp only[a1m,b1p,a5z,a1e,a0f,a0n,qq1,qq0,↓evBind,a3s,a0h,a0k,a0i,a0j,a3d,Int.reduceLT,decide_true,if_true,a4p,a1o,a3k,and_self,a4n,h2,a4e,a7i,List.isEmpty_nil,Bool.not_true,qqe,a1t,a4m,a3j,qq3,↓evMap,decide_eq_true_eq,a1p,if_false],.inl h0.1,h0.2⟩
  |cons x xs=>
   rw[<-hn];have hp:(0:Int) < known.length:=by rw[hn,List.length_cons];omega
   have c0:0<=c / 2 % (known.length:Int):=Int.emod_nonneg _ (by omega)
   have c1:c / 2 % (known.length:Int) < known.length:=Int.emod_lt_of_pos _ hp;have ha:atI known (c / 2 % (known.length:Int))=some (known.getD (c / 2 % (known.length:Int)).toNat D.non):=b2i (xs:=known) D.non c0 c1;have hm:known.getD (c / 2 % (known.length:Int)).toNat D.non∈known:=by
    have hk:(c / 2 % (known.length:Int)).toNat < known.length:=by omega
    have e:known[(c / 2 % (known.length:Int)).toNat]?=some (known.getD (c / 2 % (known.length:Int)).toNat D.non):=by simp[hk]
    exact List.mem_of_getElem? e
   have he:known.isEmpty=false:=by rw[hn];rfl
   have hs:(known.length:Int) < 1073741824:=by omega
   generalize known.getD (c / 2 % (known.length:Int)).toNat D.non=d at *;refine⟨d,?_,.inr hm,hk d hm⟩;simp only[a1m,b1p,a5z,a1e,a0f,a0n,qq1,qq0,↓evBind,a3s,a0h,a0k,a0i,a0j,a3d,Int.reduceLT,decide_true,if_true,a4p,a1o,a3k,and_self,a4n,h2,a4e,a7i,he,Bool.not_false,a1t,a4m,a3j,↓evMap,hp,a3e,a4b,ha,qq2,qq3,qqf,Nat.reduceAdd,Nat.reduceLT,qq5,qq4,a1p]
section
variable {h:WH} {c:Int} {k:Nat}
theorem d8a(hk:k < h.cs.length)(hl:h.cs.length<=100)(ok:∀d∈h.cs,okD 5 d=true):
  ∃d,a2l [whO h,.frz (spD (0,1,k)),.frz (.int c)]=some (.frz .non,[some (whO ⟨h.bs,h.cs.set k d⟩),none,none])/\(noN d\/d∈h.cs.take k)/\okD 5 d=true:=by
 obtain⟨d0,e0,b0⟩:=c4b (c / 2);obtain⟨d,e1,b1,b2⟩:=b9w (known:=h.cs.take k) (c:=c) b0 (fun d hd=>ok d (List.mem_of_mem_take hd)) (by rw[List.length_take];omega) (some (whO h)) (some (.frz (spD (0,1,k))))
 refine⟨d,?_,b1,b2⟩;have e2:=d3g (k:=k) d hk;have e3:=d4w (h:=h);have e4:cutD h.cs none (some (0+(k:Int)))=h.cs.take k:=by rw[Int.zero_add];exact c3l _ _
 have e5:=a5s h.cs;have es:spD (0,1,k)=.tup [.str "name",.int 1,.int (0+(k:Int))]:=rfl;have dl:=a4t h.cs;have dl2:=a4t (h.cs.take k);have e2:setP (fun c=>mSet c [.frz d,.frz (.int (0+(k:Int)))]) (whO h) [1]=some (whO ⟨h.bs,h.cs.set k d⟩,.frz .non):=by rw[Int.zero_add];exact e2
 rw[es] at e1 ⊢;unfold a2l a5h;generalize(gsIf (gAndT (gT (gBin oEq (gBin oMod (gVar 2) (gC (.int 2))) (gC (.int 0)))) (gTru (gVar 3)))
  (gsSet 4 (gBin oIx (gVar 3) (gBin oMod (gBin oFdiv (gVar 2) (gC (.int 2))) (gOp oLen (a0a (gVar 3) gaNil)))))
  gsNil)=pk at *
 generalize whO ⟨h.bs,h.cs.set k d⟩=w2 at *;generalize whO h=w1 at *;generalize h.cs.take k=tk at *;generalize(0+(k:Int))=ki at *;simp only[a1n,qq6,qq7,qq2,qq3,qqf,Nat.reduceAdd,Nat.reduceSub,qq9,qq8,qqb,qqc,a0r,a1t,a1j,c3f,qq0,d4o,↓evBind,e3,e5,a5a,dl,Nat.reduceLT,qq5,qq4,if_true,a1m,a5z,a1e,a0f,a0n,qq1,a3s,a0h,a0k,a0i,a0j,a3e,a5p,a3q,↓evMap,a4p,a1o,a3k,and_self,a4n,beq_self_eq_true,a7g,a9h,a9i,a5w,a9j,b8r,e4,dl2,a7m,b2b,b3r,b0o,a4k,b1q,a1k,a3d,Int.reduceLT,decide_true,a0x,a0w,e0,a2f,a2e,e1,c1c,c0u,e2,c9c,b3t,b3l,qqa,qqd,a5m,a2y,a2o]
theorem d8b{b:WB}(hb:h.bs[k]?=some b)(hl:h.cs.length<=100)(hl2:h.bs.length<=100)(ok:∀d∈h.cs,okD 5 d=true)(hn:∀x∈h.bs.take k,∃s,x.n=.str s):
  ∃d,a2l [whO h,.frz (spD (0,0,k)),.frz (.int c)]=some (.frz .non,[some (whO ⟨h.bs.set k { b with n:=d},h.cs⟩),none,none])/\(noN d\/d∈h.cs++(h.bs.take k).map WB.n)/\okD 5 d=true:=by
 obtain⟨d0,e0,b0⟩:=c4b (c / 2);obtain⟨d,e1,b1,b2⟩:=b9w (known:=h.cs++(h.bs.take k).map WB.n) (c:=c) b0 (fun d hd=>by
  rcases List.mem_append.mp hd with z|z
  ·exact ok d z
  ·obtain⟨x,hx,rfl⟩:=List.mem_map.mp z;obtain⟨s,hs⟩:=hn x hx;rw[hs];rfl) (by rw[List.length_append,List.length_map,List.length_take];omega) (some (whO h)) (some (.frz (spD (0,0,k))))
 refine⟨d,?_,b1,b2⟩;have e2:=e0z d hb;have e3:=d4w (h:=h);have e4:cutD (h.bs.map wbL) none (some (0+(k:Int)))=(h.bs.take k).map wbL:=by rw[Int.zero_add,List.map_take];exact c3l _ _
 have e5:=a5s h.cs;have es:spD (0,0,k)=.tup [.str "name",.int 0,.int (0+(k:Int))]:=rfl;have dl:=a4t h.cs;obtain⟨a',e6⟩:=b4f (h.bs.take k) [] none (by rw[List.length_nil,List.length_take];omega)
 rw[List.map_nil,List.nil_append] at e6;have pl:plL (((h.bs.take k).map WB.n).map .frz)=true:=by
  generalize h.bs.take k=l at hn;clear e6 b1 e4 e1
  induction l with
  |nil=>exact b6u
  |cons x l ih=>
   obtain⟨s,hs⟩:=hn x (.head _);rw[List.map_cons,List.map_cons,c1b,hs,c0z,ih fun y hy=>hn y (.tail _ hy)]
   rfl
 have fl:=a5s ((h.bs.take k).map WB.n);have c1:(h.cs.length+((h.bs.take k).map WB.n).length<=1000000)=True:=eq_true (by rw[List.length_map,List.length_take];omega)
 have dk:=a4t ((h.bs.take k).map wbL);have dl2:=a4t (h.cs++(h.bs.take k).map WB.n);have wd:=c1n h;unfold whL at wd;have t0:((0:Int)<=0+(k:Int))=True:=eq_true (by omega)
 have t1:(0+(k:Int)).toNat=k:=by omega
 rw[es] at e1 ⊢;unfold a2l a5h;generalize(gsIf (gAndT (gT (gBin oEq (gBin oMod (gVar 2) (gC (.int 2))) (gC (.int 0)))) (gTru (gVar 3)))
  (gsSet 4 (gBin oIx (gVar 3) (gBin oMod (gBin oFdiv (gVar 2) (gC (.int 2))) (gOp oLen (a0a (gVar 3) gaNil)))))
  gsNil)=pk at *
 generalize whO ⟨h.bs.set k { b with n:=d},h.cs⟩=w2 at *;generalize whO h=w1 at *;generalize(h.bs.take k).map WB.n=nk at *;generalize(h.bs.take k).map wbL=lk at *;generalize h.bs.map wbL=bl at *;generalize(0+(k:Int))=ki at *;have q01:((0:Int) == 1)=false:=rfl;simp only[a1n,qq6,qq7,qq2,qq3,qqf,Nat.reduceAdd,Nat.reduceSub,qq9,qq8,qqb,qqc,a0r,a1t,a1j,c3f,qq0,d4o,↓evBind,e3,e5,a5a,dl,Nat.reduceLT,qq5,qq4,if_true,a1m,a5z,a1e,a0f,a0n,qq1,a3s,a0h,a0k,a0i,a0j,a3e,a5p,a3q,↓evMap,a4p,a1o,a3k,and_self,a4n,q01,qqe,a7g,a9h,a9i,a5w,a9j,b8r,b1y,a7m,b2b,wd,b3r,b0o,a4k,b1q,a4b,a2i,e4,dk,a4f,List.append_nil,e6,List.drop_succ_cons,List.drop_zero,a4g,c1a,pl,b6l,b3k,fl,c1,dl2,if_false,a1k,a3d,Int.reduceLT,decide_true,a0x,a0w,e0,a2f,a2e,e1,c1c,c0u,c9c,b3t,t0,t1,e2,b3l,qqa,qqd,a5m,a2y,a2o]
end
section
variable {w1 w2:O} {a b c:D} {s t:Str} {f:GS} {x0 x3 x4:Option O} {r:Fl×Gm}
theorem a6y(h:(s == t)=false):spIf t f [x0,some (.frz (.tup [.str s,a,b])),some (.frz c),x3,x4]=some (.nx,[x0,some (.frz (.tup [.str s,a,b])),some (.frz c),x3,x4]):=by
 unfold spIf;simp only[a1m,a5z,a1e,a0f,a0n,qq1,qq0,↓evBind,a3s,a0h,a0k,a0i,a0j,a3e,a5p,a2i,↓evMap,a4p,a1o,a6q,and_self,b0i,h,if_true,qqe,a1p,if_false]
theorem b9x(h:f [x0,some (.frz (.tup [.str s,a,b])),some (.frz c),x3,x4]=some r):spIf s f [x0,some (.frz (.tup [.str s,a,b])),some (.frz c),x3,x4]=some r:=by
 unfold spIf;simp only[a1m,a5z,a1e,a0f,a0n,qq1,qq0,↓evBind,a3s,a0h,a0k,a0i,a0j,a3e,a5p,a2i,↓evMap,a4p,a1o,a6q,and_self,b0i,beq_self_eq_true,if_true,h,a1p]
theorem run1(h:sf1 [some w1,some (.frz (.tup [.str "name",a,b])),some (.frz c),none,none]=some (.nx,[some w2,some (.frz (.tup [.str "name",a,b])),some (.frz c),x3,x4])):a0y [w1,.frz (.tup [.str "name",a,b]),.frz c]=some (.frz .non,[some w2,none,none]):=by
 have e1:=b9x h;have e2:=a6y (s:="name") (t:="hand") (f:=sf2) (x0:=some w2) (a:=a) (b:=b) (c:=c) (x3:=x3) (x4:=x4) (by decide +kernel)
 have e3:=a6y (s:="name") (t:="size") (f:=sf3) (x0:=some w2) (a:=a) (b:=b) (c:=c) (x3:=x3) (x4:=x4) (by decide +kernel)
 have e4:=a6y (s:="name") (t:="out") (f:=sf4) (x0:=some w2) (a:=a) (b:=b) (c:=c) (x3:=x3) (x4:=x4) (by decide +kernel)
 have e5:=a6y (s:="name") (t:="far") (f:=sf5) (x0:=some w2) (a:=a) (b:=b) (c:=c) (x3:=x3) (x4:=x4) (by decide +kernel)
 unfold a0y;unfold a6h;simp only[a1n,qq6,qq7,qq2,qq3,qqf,Nat.reduceAdd,Nat.reduceSub,qq9,qq8,qqb,qqc,a0r,e1,↓evBind,e2,e3,e4,e5,b3l,qqa,qqd,a5m,a2y,a2o,if_true]
theorem run2(h:sf2 [some w1,some (.frz (.tup [.str "hand",a,b])),some (.frz c),none,none]=some (.nx,[some w2,some (.frz (.tup [.str "hand",a,b])),some (.frz c),x3,x4])):a0y [w1,.frz (.tup [.str "hand",a,b]),.frz c]=some (.frz .non,[some w2,none,none]):=by
 have e1:=a6y (s:="hand") (t:="name") (f:=sf1) (x0:=some w1) (a:=a) (b:=b) (c:=c) (x3:=none) (x4:=none) (by decide +kernel)
 have e2:=b9x h;have e3:=a6y (s:="hand") (t:="size") (f:=sf3) (x0:=some w2) (a:=a) (b:=b) (c:=c) (x3:=x3) (x4:=x4) (by decide +kernel)
 have e4:=a6y (s:="hand") (t:="out") (f:=sf4) (x0:=some w2) (a:=a) (b:=b) (c:=c) (x3:=x3) (x4:=x4) (by decide +kernel)
 have e5:=a6y (s:="hand") (t:="far") (f:=sf5) (x0:=some w2) (a:=a) (b:=b) (c:=c) (x3:=x3) (x4:=x4) (by decide +kernel)
 unfold a0y;unfold a6h;simp only[a1n,qq6,qq7,qq2,qq3,qqf,Nat.reduceAdd,Nat.reduceSub,qq9,qq8,qqb,qqc,a0r,e1,↓evBind,e2,e3,e4,e5,b3l,qqa,qqd,a5m,a2y,a2o,if_true]
theorem run3(h:sf3 [some w1,some (.frz (.tup [.str "size",a,b])),some (.frz c),none,none]=some (.nx,[some w2,some (.frz (.tup [.str "size",a,b])),some (.frz c),x3,x4])):a0y [w1,.frz (.tup [.str "size",a,b]),.frz c]=some (.frz .non,[some w2,none,none]):=by
 have e1:=a6y (s:="size") (t:="name") (f:=sf1) (x0:=some w1) (a:=a) (b:=b) (c:=c) (x3:=none) (x4:=none) (by decide +kernel)
 have e2:=a6y (s:="size") (t:="hand") (f:=sf2) (x0:=some w1) (a:=a) (b:=b) (c:=c) (x3:=none) (x4:=none) (by decide +kernel)
 have e3:=b9x h;have e4:=a6y (s:="size") (t:="out") (f:=sf4) (x0:=some w2) (a:=a) (b:=b) (c:=c) (x3:=x3) (x4:=x4) (by decide +kernel)
 have e5:=a6y (s:="size") (t:="far") (f:=sf5) (x0:=some w2) (a:=a) (b:=b) (c:=c) (x3:=x3) (x4:=x4) (by decide +kernel)
 unfold a0y;unfold a6h;simp only[a1n,qq6,qq7,qq2,qq3,qqf,Nat.reduceAdd,Nat.reduceSub,qq9,qq8,qqb,qqc,a0r,e1,↓evBind,e2,e3,e4,e5,b3l,qqa,qqd,a5m,a2y,a2o,if_true]
theorem run4(h:sf4 [some w1,some (.frz (.tup [.str "out",a,b])),some (.frz c),none,none]=some (.nx,[some w2,some (.frz (.tup [.str "out",a,b])),some (.frz c),x3,x4])):a0y [w1,.frz (.tup [.str "out",a,b]),.frz c]=some (.frz .non,[some w2,none,none]):=by
 have e1:=a6y (s:="out") (t:="name") (f:=sf1) (x0:=some w1) (a:=a) (b:=b) (c:=c) (x3:=none) (x4:=none) (by decide +kernel)
 have e2:=a6y (s:="out") (t:="hand") (f:=sf2) (x0:=some w1) (a:=a) (b:=b) (c:=c) (x3:=none) (x4:=none) (by decide +kernel)
 have e3:=a6y (s:="out") (t:="size") (f:=sf3) (x0:=some w1) (a:=a) (b:=b) (c:=c) (x3:=none) (x4:=none) (by decide +kernel)
 have e4:=b9x h;have e5:=a6y (s:="out") (t:="far") (f:=sf5) (x0:=some w2) (a:=a) (b:=b) (c:=c) (x3:=x3) (x4:=x4) (by decide +kernel)
 unfold a0y;unfold a6h;simp only[a1n,qq6,qq7,qq2,qq3,qqf,Nat.reduceAdd,Nat.reduceSub,qq9,qq8,qqb,qqc,a0r,e1,↓evBind,e2,e3,e4,e5,b3l,qqa,qqd,a5m,a2y,a2o,if_true]
theorem run5(h:sf5 [some w1,some (.frz (.tup [.str "far",a,b])),some (.frz c),none,none]=some (.nx,[some w2,some (.frz (.tup [.str "far",a,b])),some (.frz c),x3,x4])):a0y [w1,.frz (.tup [.str "far",a,b]),.frz c]=some (.frz .non,[some w2,none,none]):=by
 have e1:=a6y (s:="far") (t:="name") (f:=sf1) (x0:=some w1) (a:=a) (b:=b) (c:=c) (x3:=none) (x4:=none) (by decide +kernel)
 have e2:=a6y (s:="far") (t:="hand") (f:=sf2) (x0:=some w1) (a:=a) (b:=b) (c:=c) (x3:=none) (x4:=none) (by decide +kernel)
 have e3:=a6y (s:="far") (t:="size") (f:=sf3) (x0:=some w1) (a:=a) (b:=b) (c:=c) (x3:=none) (x4:=none) (by decide +kernel)
 have e4:=a6y (s:="far") (t:="out") (f:=sf4) (x0:=some w1) (a:=a) (b:=b) (c:=c) (x3:=none) (x4:=none) (by decide +kernel)
 have e5:=b9x h;unfold a0y;unfold a6h;simp only[a1n,qq6,qq7,qq2,qq3,qqf,Nat.reduceAdd,Nat.reduceSub,qq9,qq8,qqb,qqc,a0r,e1,↓evBind,e2,e3,e4,e5,b3l,qqa,qqd,a5m,a2y,a2o,if_true]
end
section
variable {h:WH} {c:Int} {k:Nat} {b:WB}
theorem a6i(h:WH):∃l,whO h=.lst l:=⟨_,rfl⟩
theorem d8c(hk:k < h.cs.length)(hl:h.cs.length<=100)(ok:∀d∈h.cs,okD 5 d=true):
  ∃d,a0y [whO h,.frz (spD (0,1,k)),.frz (.int c)]=some (.frz .non,[some (whO ⟨h.bs,h.cs.set k d⟩),none,none])/\(noN d\/d∈h.cs.take k)/\okD 5 d=true:=by
 obtain⟨d,e,b1,b2⟩:=d8a (c:=c) hk hl ok;refine⟨d,run1 (x3:=none) (x4:=none) ?_,b1,b2⟩;have e:a2l [whO h,.frz (.tup [.str "name",.int (1:Nat),.int (0+(k:Int))]),.frz (.int c)]=_:=e;unfold sf1;generalize whO ⟨h.bs,h.cs.set k d⟩=w2 at *;obtain⟨l1,hw1⟩:=a6i h;rw[hw1] at e ⊢;simp only[a2q,a1k,a0f,a0n,qq0,↓evBind,qq1,a0h,a1s,qq4,a0x,a0w,e,a3m,a2f,a2e]
theorem d8d(hb:h.bs[k]?=some b)(hl:h.cs.length<=100)(hl2:h.bs.length<=100)(ok:∀d∈h.cs,okD 5 d=true)(hn:∀x∈h.bs.take k,∃s,x.n=.str s):
  ∃d,a0y [whO h,.frz (spD (0,0,k)),.frz (.int c)]=some (.frz .non,[some (whO ⟨h.bs.set k { b with n:=d},h.cs⟩),none,none])/\(noN d\/d∈h.cs++(h.bs.take k).map WB.n)/\okD 5 d=true:=by
 obtain⟨d,e,b1,b2⟩:=d8b (c:=c) hb hl hl2 ok hn;refine⟨d,run1 (x3:=none) (x4:=none) ?_,b1,b2⟩;have e:a2l [whO h,.frz (.tup [.str "name",.int (0:Nat),.int (0+(k:Int))]),.frz (.int c)]=_:=e;unfold sf1;generalize whO ⟨h.bs.set k { b with n:=d},h.cs⟩=w2 at *;obtain⟨l1,hw1⟩:=a6i h;rw[hw1] at e ⊢;simp only[a2q,a1k,a0f,a0n,qq0,↓evBind,qq1,a0h,a1s,qq4,a0x,a0w,e,a3m,a2f,a2e]
theorem e1e:a0y [whO h,.frz (spD (1,1,0)),.frz (.int c)]=some (.frz .non,[some (whO ⟨h.bs,[]⟩),none,none]):=by
 refine run2 (x3:=none) (x4:=none) ?_;have e:=e1b (h:=h);unfold sf2;generalize whO ⟨h.bs,[]⟩=w2 at *;obtain⟨l1,hw1⟩:=a6i h;rw[hw1] at e ⊢;simp only[a2q,c7z,qq0,qq7,e,↓evBind,qq4]
theorem d8e(bs:List WB)(hb:bs[k]?=some b)(ki:Int)(hk:ki=(k:Nat)):atI (bs.map wbL) ki=some (wbL b):=by
 rw[hk];exact a3i (by rw[List.getElem?_map,hb];rfl)
theorem e1f(hb:h.bs[k]?=some b):a0y [whO h,.frz (spD (2,0,k)),.frz (.int c)]=some (.frz .non,[some (whO ⟨h.bs.set k { b with l:=(if b.r=true then 1 else 0) - c % 3},h.cs⟩),none,none]):=by
 refine run3 (x3:=none) (x4:=none) ?_;have e:=e1a ((if b.r=true then 1 else 0) - c % 3) hb
 have wd:=c1n h;unfold whL at wd;have hi:=d8e h.bs hb (0+(k:Int)) (by omega)
 have wb:wbL b=.lst [b.n,.int b.l,.bl b.r,.lst b.os]:=rfl;rw[wb] at hi;have t0:((0:Int)<=0+(k:Int))=True:=eq_true (by omega)
 have t1:(0+(k:Int)).toNat=k:=by omega
 unfold sf3;generalize whO ⟨h.bs.set k { b with l:=(if b.r=true then 1 else 0) - c % 3},h.cs⟩=w2 at *
 obtain⟨l1,hw1⟩:=a6i h;rw[hw1] at e wd ⊢;generalize h.bs.map wbL=bl at *;generalize(0+(k:Int))=ki at *;simp only[c1c,a1e,a0f,a7m,b2b,wd,a1o,b3r,b0o,a0n,qq0,↓evBind,a3s,a0h,a0k,a0i,a0j,a3e,a4b,a2i,↓evMap,qq1,a5p,a5w,hi,c2s,b3s,if_true,a3d,Int.reduceLT,decide_true,c0u,c9c,b3t,t0,t1,qqb,qqc,e,qq4]
def L8(n n0 o0:D):List O:=[.frz n,fS "nowhere",.frz .non,.frz o0,.frz n0,.lst [],.tup [fS "a"],.frz (.int 7)]
theorem d8f{r:List D}(hb:h.bs[k]?=some b)(h0:h.bs[0]?=some b0)(ho:b.os=o0::r)(fn:∃s,b.n=.str s)(fn0:∃s,b0.n=.str s)(fo:∃s,o0=.str s)(x4:Option O):
  ∃oE Γ',pk8 [some (.frz (whL h)),some (.frz (spD (3,0,k))),some (.frz (.int c)),some (.frz (.lst b.os)),x4]=some (.own oE,Γ')/\oE∈L8 b.n b0.n o0/\plO oE=true:=by
 have c0:0<=c % 8:=Int.emod_nonneg _ (by decide)
 have c1:c % 8 < 8:=Int.emod_lt_of_pos _ (by decide)
 have ha:atI (L8 b.n b0.n o0) (c % 8)=some ((L8 b.n b0.n o0).getD (c % 8).toNat (.frz .non)):=b2i (xs:=L8 b.n b0.n o0) _ c0 (by show c % 8 < (8:Nat);omega)
 have hm:(L8 b.n b0.n o0).getD (c % 8).toNat (.frz .non)∈L8 b.n b0.n o0:=by
  have hk:(c % 8).toNat < (L8 b.n b0.n o0).length:=by show(c % 8).toNat < 8;omega
  have e:(L8 b.n b0.n o0)[(c % 8).toNat]?=some ((L8 b.n b0.n o0).getD (c % 8).toNat (.frz .non)):=by simp[hk]
  exact List.mem_of_getElem? e
 generalize(L8 b.n b0.n o0).getD (c % 8).toNat (.frz .non)=oE at *;have pl:plO oE=true:=by
  obtain⟨s1,e1⟩:=fn;obtain⟨s2,e2⟩:=fn0;obtain⟨s3,e3⟩:=fo;rw[e1,e2,e3] at hm;unfold L8 at hm;simp only[List.mem_cons,List.not_mem_nil,or_false] at hm;rcases hm with rfl|rfl|rfl|rfl|rfl|rfl|rfl|rfl
  ·rfl
  ·rfl
  ·rfl
  ·rfl
  ·rfl
  ·exact(c1a _).trans b6u
  ·rw[d7g,c1b,c0z,b6u];rfl
  ·rfl
 refine⟨oE,[some (.frz (whL h)),some (.frz (spD (3,0,k))),some (.frz (.int c)),some (.frz (.lst b.os)),x4],?_,hm,pl⟩;have hi:=d8e h.bs hb (0+(k:Int)) (by omega)
 have hi0:=d8e h.bs h0 0 rfl;have wb:∀b:WB,wbL b=.lst [b.n,.int b.l,.bl b.r,.lst b.os]:=fun _=>rfl
 rw[wb] at hi hi0;rw[ho];have es:spD (3,0,k)=.tup [.str "out",.int 0,.int (0+(k:Int))]:=rfl;rw[es];unfold L8 at ha;unfold pk8 whL;generalize h.bs.map wbL=bl at *;generalize(0+(k:Int))=ki at *;simp only[d7h,a3f,a0f,a1e,a0n,qq0,↓evBind,a3s,a0h,a0k,a0i,a0j,a3e,a4b,a2i,↓evMap,qq1,a5p,a5w,hi,hi0,qq3,Nat.reduceLeDiff,a1b,if_true,qq2,qqf,a1h,Nat.reduceAdd,a3d,Int.reduceLT,decide_true,ha]
def W8(n n0 o0:D):List D:=[n,.str "nowhere",.non,o0,n0,.lst [],.tup [.str "a"],.int 7]
theorem L8_d{n n0:D}{oE:O}(hm:oE∈L8 n n0 o0):oE.d∈W8 n n0 o0:=by
 have:(L8 n n0 o0).map O.d=W8 n n0 o0:=rfl;rw[<-this];exact List.mem_map_of_mem hm
theorem frz4(x0 x1 x2 x3:Option O)(o:O):gFrz (gVar 4) [x0,x1,x2,x3,some o]=some (.own (.frz o.d),[x0,x1,x2,x3,some (.frz o.d)]):=by cases o <;> rfl
theorem e1x(os:List D)(i:Int)(w:D)(h0:0<=i)(h1:i < 1000000)(hl:os.length < 1000000):a4j (.lst (os.map .frz)) [.frz (.int i),.frz w]=some (.lst ((os.take i.toNat++w::os.drop i.toNat).map .frz),.frz .non):=by
 unfold a4j;dsimp only;rw[if_pos ⟨h0,h1,by rw[List.length_map];exact hl⟩,List.map_append,List.map_cons,List.map_take,List.map_drop]
theorem d8g{os:List D}(h0:os≠[])(hl:os.length<=900)(oE:O)(x1:Option O):∃os' x4,bd4 [none,x1,some (.frz (.int c)),some (.lst (os.map .frz)),some oE]=some (.nx,[none,x1,some (.frz (.int c)),some (.lst (os'.map .frz)),x4])/\
  (os'=[]\/∃i,1<=i/\i<=os.length/\os'=os.take i++oE.d::os.drop i):=by
 have hp:(0:Int) < os.length:=by
  cases os with
  |nil=>exact absurd rfl h0
  |cons _ _=>rw[List.length_cons];omega
 have c0:0<=c / 5 % (os.length:Int):=Int.emod_nonneg _ (by omega)
 have c1:c / 5 % (os.length:Int) < os.length:=Int.emod_lt_of_pos _ hp;have hs:(os.length:Int) < 1073741824:=by omega
 have e1:=frz4 none x1 (some (.frz (.int c))) (some (.lst (os.map .frz))) oE;have e2:=e1x os (1+c / 5 % (os.length:Int)) oE.d (by omega) (by omega) (by omega)
 have dl:(O.dl (os.map .frz)).length=os.length:=by rw[a4t]
 cases h4:c / 5 % 4 == 0 with
 |true=>
  refine⟨[],some (.frz oE.d),?_,.inl rfl⟩;unfold bd4;generalize gFrz (gVar 4)=g4 at *;generalize oE.d=w at *;generalize((os.take (1+c / 5 % (os.length:Int)).toNat++w::os.drop (1+c / 5 % (os.length:Int)).toNat).map O.frz)=l2 at *;simp only[a0r,a2q,a4w,a0n,qq1,qq0,↓evBind,a0f,a1j,a1e,a3s,a0h,a0k,a0i,a0j,a3d,Int.reduceLT,and_self,decide_true,if_true,a2x,Option.join_some,a4m,a5a,b1y,a3j,↓evMap,hp,a4c,a1o,e1,a1h,a1b,e2,qq5,qq4,a1m,a5z,a4p,a3k,a4n,h4,c8b,a1p,qq7]
 |false=>
  refine⟨_,some (.frz oE.d),?_,.inr ⟨(1+c / 5 % (os.length:Int)).toNat,by omega,by omega,rfl⟩⟩
  unfold bd4;generalize gFrz (gVar 4)=g4 at *;generalize oE.d=w at *;generalize((os.take (1+c / 5 % (os.length:Int)).toNat++w::os.drop (1+c / 5 % (os.length:Int)).toNat).map O.frz)=l2 at *;simp only[a0r,a2q,a4w,a0n,qq1,qq0,↓evBind,a0f,a1j,a1e,a3s,a0h,a0k,a0i,a0j,a3d,Int.reduceLT,and_self,decide_true,if_true,a2x,Option.join_some,a4m,a5a,b1y,a3j,↓evMap,hp,a4c,a1o,e1,a1h,a1b,e2,qq5,qq4,a1m,a5z,a4p,a3k,a4n,h4,qqe,c8b,a1p,if_false]
theorem jn(o c':O)(p:List Nat)(x1 x2 x4:Option O):joinA 0 3 o p (some (.nx,[none,x1,x2,some c',x4]))=(setP (fun c=>some (c',c)) o p).bind fun z=>some (.nx,[some z.1,x1,x2,none,x4]):=rfl
theorem e1y{r:List D}(hb:h.bs[k]?=some b)(h0:h.bs[0]?=some b0)(ho:b.os=o0::r)(hl:b.os.length<=900)(fn:∃s,b.n=.str s)(fn0:∃s,b0.n=.str s)(fo:∃s,o0=.str s):
  ∃os',a0y [whO h,.frz (spD (3,0,k)),.frz (.int c)]=some (.frz .non,[some (whO ⟨h.bs.set k { b with os:=os'},h.cs⟩),none,none])/\(os'=[]\/∃i w,1<=i/\i<=b.os.length/\os'=b.os.take i++w::b.os.drop i/\w∈W8 b.n b0.n o0):=by
 obtain⟨oE,Γ',e1,hm,pl⟩:=d8f (c:=c) hb h0 ho fn fn0 fo none;obtain⟨os',x4,e2,hq⟩:=d8g (c:=c) (os:=b.os) (by rw[ho];simp) hl oE (some (.frz (spD (3,0,k))))
 refine⟨os',run4 (x3:=none) (x4:=x4) ?_,?_⟩
 ·have e3:=d4x hb;have e4:=d0m os' hb;have wd:=c1n h;have dl:=a4t b.os;have t0:((0:Int)<=0+(k:Int))=True:=eq_true (by omega)
  have t1:(0+(k:Int)).toNat=k:=by omega
  have es:spD (3,0,k)=.tup [.str "out",.int (0:Nat),.int (0+(k:Int))]:=rfl;rw[es] at e1 e2;unfold sf4;generalize whO ⟨h.bs.set k { b with os:=os'},h.cs⟩=w2 at *;generalize whL h=wl at *;obtain⟨l1,hw1⟩:=a6i h;rw[hw1] at e3 e4 wd ⊢;generalize b.os.map O.frz=l3 at *;generalize os'.map O.frz=l4 at *;generalize pk8=p8 at *;generalize bd4=b4 at *;generalize(0+(k:Int))=ki at *;simp only[c9d,qq0,qq2,qq3,qqf,Nat.reduceAdd,Nat.reduceLT,and_self,b2b,wd,a1o,b3r,b0o,a1e,a0f,a0n,qq1,↓evBind,a3s,a0h,a0k,a0i,a0j,a3e,a5p,a5w,↓evMap,b3t,t0,t1,if_true,qqb,qqc,e3,qq5,qq4,a5a,dl,e1,pl,e2,jn,e4]
 ·rcases hq with z|⟨i,i1,i2,i3⟩
  ·exact .inl z
  ·exact .inr ⟨i,oE.d,i1,i2,i3,L8_d hm⟩
theorem e1z(hn:h.bs≠[])(hj:(j:Int)=c % (h.bs.length:Int))(hb:h.bs[j]?=some b)(hl:h.bs.length<=100)(hc:h.cs.length<=100):
  a0y [whO h,.frz (spD (4,0,0)),.frz (.int c)]=some (.frz .non,[some (whO ⟨h.bs.set j { b with os:=[.str "oddly"]},h.cs++[.str "oddly"]⟩),none,none]):=by
 have hp:(0:Int) < h.bs.length:=by
  cases hh:h.bs with
  |nil=>exact absurd hh hn
  |cons _ _=>rw[List.length_cons];omega
 have hs:(h.bs.length:Int) < 1073741824:=by omega
 refine run5 (x3:=none) (x4:=none) ?_;have e3:=d4x hb;have e4:setP (fun c=>some (.lst [fS "oddly"],c)) (whO h) [0,j,3]=some (whO ⟨h.bs.set j { b with os:=[.str "oddly"]},h.cs⟩,.lst (b.os.map .frz)):=d0m [.str "oddly"] hb
 have e5:=e1c (h:=⟨h.bs.set j { b with os:=[.str "oddly"]},h.cs⟩) (.str "oddly") (by show h.cs.length < 1000000;omega)
 have wd:=c1n h;unfold whL at wd;have ln:(h.bs.map wbL).length=h.bs.length:=List.length_map ..;have t0:((0:Int)<=c % (h.bs.length:Int))=True:=eq_true (by omega)
 have t1:(c % (h.bs.length:Int)).toNat=j:=by omega
 unfold sf5;dsimp only at e5;generalize whO ⟨h.bs.set j { b with os:=[.str "oddly"]},h.cs++[.str "oddly"]⟩=w3 at *;obtain⟨l2,hw2⟩:=a6i ⟨h.bs.set j { b with os:=[.str "oddly"]},h.cs⟩;rw[hw2] at e4 e5;obtain⟨l1,hw1⟩:=a6i h;rw[hw1] at e3 e4 wd ⊢;generalize b.os.map O.frz=l3 at *;generalize h.bs.map wbL=bl at *;rw[<-ln] at hp hs t0 t1;simp only[a0r,d2w,qq0,qq2,qq3,qqf,Nat.reduceAdd,Nat.reduceLT,b2b,wd,a1o,b3r,b0o,a1e,a0f,a0n,qq1,↓evBind,a3s,a0h,a0k,a0i,a0j,a3e,a4b,a2i,↓evMap,a4m,a3j,a3d,hp,decide_true,if_true,b3t,t0,t1,qqb,qqc,e3,qq4,qq5,a2q,a4w,a1b,c8b,a1h,b1t,jn,e4,c7z,qq6,qq7,e5]
end
def RH(h:WH)(due:Str):Prop:=∃r,resD due r/\a1a [.frz (whT h)]=some (.frz r,[none])
structure AgB (n0 G:House) (i:Nat) (h:WH):Prop where
 gw:GoodW G
 gb:G.belts.length=n0.belts.length
 gc:n0.carts.length<=G.carts.length
 bl:h.bs.length=n0.belts.length
 ca:(h.cs=[]/\i<=n0.carts.length)\/(h.cs.length=G.carts.length/\∀k,k < i\/n0.carts.length<=k->h.cs[k]?=(G.carts.map D.str)[k]?)
 bn:∀k b g,h.bs[k]?=some b->G.belts[k]?=some g->b.r=g.ring/\(n0.carts.length+1+2 * k < i->b.n=.str g.name)/\(n0.carts.length+2+2 * k < i->b.l=g.long)/\(n0.carts.length+1+2 * n0.belts.length+k < i->b.os=g.outs.map .str)
 fr:n0.carts.length+1+3 * n0.belts.length < i->G=n0
 ok:(∀d∈h.cs,okD 5 d=true)/\∀b∈h.bs,okD 5 b.n=true/\∀o∈b.os,okD 5 o=true
section
variable {n0 G:House} {i j k:Nat} {h:WH}
theorem AgB.mono(a:AgB n0 G i h)(hj:j<=i):AgB n0 G j h:=by
 refine⟨a.gw,a.gb,a.gc,a.bl,?_,fun k b g h1 h2=>?_,fun z=>a.fr (by omega),a.ok⟩
 ·rcases a.ca with⟨h1,h2⟩|⟨h1,h2⟩
  ·exact .inl ⟨h1,by omega⟩
  ·exact .inr ⟨h1,fun k hk=>h2 k (by omega)⟩
 ·obtain⟨g1,g2,g3,g4⟩:=a.bn k b g h1 h2;exact⟨g1,fun z=>g2 (by omega),fun z=>g3 (by omega),fun z=>g4 (by omega)⟩
theorem AgB.all(a:AgB n0 G i h)(hi:n0.carts.length < i):h.cs=G.carts.map .str:=by
 rcases a.ca with⟨_,h2⟩|⟨h1,h2⟩
 ·omega
 ·exact List.ext_getElem? fun k=>h2 k (by omega)
theorem c4c(cs:List Str):∀d∈cs.map D.str,okD 5 d=true:=fun d hd=>by
 obtain⟨x,_,rfl⟩:=List.mem_map.mp hd;rfl
theorem AgB.of(gw:GoodW G)(gb:G.belts.length=n0.belts.length)(gc:n0.carts.length<=G.carts.length)(fr:n0.carts.length+1+3 * n0.belts.length < i->G=n0):AgB n0 G i (whOf G):=by
 refine⟨gw,gb,gc,?_,.inr ⟨by show(G.carts.map D.str).length=_;rw[List.length_map],fun k _=>rfl⟩,fun k b g h1 h2=>?_,fr,c4c _,fun b hb=>?_⟩
 ·show(G.belts.map wbOf).length=_;rw[List.length_map,gb]
 ·have h1:(G.belts.map wbOf)[k]?=some b:=h1;rw[List.getElem?_map,h2] at h1;cases h1;exact⟨rfl,fun _=>rfl,fun _=>rfl,fun _=>rfl⟩
 ·obtain⟨g,_,rfl⟩:=List.mem_map.mp hb;exact⟨rfl,c4c _⟩
theorem pairs:∀{bs:List WB} {gb:List Belt} (m:Nat),bs.length=gb.length->(∀k b g,k < m->bs[k]?=some b->gb[k]?=some g->b.r=g.ring/\b.n=.str g.name/\b.l=g.long)->∃q:List (Belt×List D),q.map Prod.fst=gb.take m/\q.map encP=bs.take m
 |[],[],m,_,_=>⟨[],by simp,by simp⟩
 |[],_::_,_,e,_=>by simp at e
 |_::_,[],_,e,_=>by simp at e
 |b::bs,g::gb,0,_,_=>⟨[],by simp,by simp⟩
 |b::bs,g::gb,m+1,e,H=>by
  obtain⟨q,q1,q2⟩:=pairs (bs:=bs) (gb:=gb) m (by simpa using e) fun k b' g' hk h1 h2=>H (k+1) b' g' (by omega) (by rw[List.getElem?_cons_succ];exact h1) (by rw[List.getElem?_cons_succ];exact h2)
  obtain⟨h1,h2,h3⟩:=H 0 b g (by omega) rfl rfl
  refine⟨(g,b.os)::q,by rw[List.map_cons,q1];rfl,?_⟩
  rw[List.map_cons,q2];show _=b::bs.take m
  congr 1
  unfold encP;dsimp only;rw[<-h1,<-h2,<-h3]
theorem e1k{l:List WB}(e:q.map encP=l):q.map eP=l.map wbT:=by rw[<-e,List.map_map];rfl
theorem q_n{l:List WB}(e:q.map encP=l):l.map WB.n=((q.map Prod.fst).map Belt.name).map D.str:=by rw[<-e,List.map_map,List.map_map,List.map_map];rfl
theorem b1c{α:Type}{l:List α}{x y:α}(h:l[j]?=some x):l.set j y=l.take j++y::l.drop (j+1):=by
 rw[List.set_eq_take_append_cons_drop,if_pos (List.getElem?_eq_some_iff.mp h).1]
theorem c5i{α:Type}{l:List α}{x:α}(h:l[j]?=some x):l.take (j+1)=l.take j++[x]:=by rw[List.take_add_one,h];rfl
theorem d4y{l:List D}{d:D}(e:l=gc.map .str)(hn:∀x∈gc,isN x)(h:noN d\/d∈l):BadN gc d:=by
 rcases h with h|h
 ·exact .inl h
 ·rw[e] at h;obtain⟨x,hx,rfl⟩:=List.mem_map.mp h;exact .inr ⟨x,rfl,hn x hx,hx⟩
theorem d0n(a:AgB n0 G i h)(hj:j < i)(jc:j < n0.carts.length)(hne:h.cs≠[])(ct:G.carts.length<=100)(c:Int):
  ∃h',a0y [whO h,.frz (spD (0,1,j)),.frz (.int c)]=some (.frz .non,[some (whO h'),none,none])/\AgB n0 G j h'/\RH h' "name":=by
 have gc:=a.gc;rcases a.ca with⟨z,_⟩|⟨h1,h2⟩
 ·exact absurd z hne
 have hjl:j < h.cs.length:=by omega
 obtain⟨d,e,b1,b2⟩:=d8c (h:=h) (c:=c) hjl (by omega) a.ok.1
 have hs:h.cs[j]?=some h.cs[j]:=List.getElem?_eq_getElem hjl;have ht:h.cs.take j=(G.carts.take j).map .str:=by
  rw[List.map_take];refine List.ext_getElem? fun k=>?_
  rw[List.getElem?_take,List.getElem?_take];split
  ·exact h2 k (by omega)
  ·rfl
 refine⟨⟨h.bs,h.cs.set j d⟩,e,⟨a.gw,a.gb,a.gc,a.bl,.inr ⟨by rw[List.length_set];exact h1,fun k hk=>?_⟩,fun k b g g1 g2=>?_,fun z=>by omega,fun x hx=>?_,a.ok.2⟩,?_⟩
 ·show(h.cs.set j d)[k]?=_;rw[List.getElem?_set_ne (by omega)]
  exact h2 k (by omega)
 ·obtain⟨g3,_⟩:=a.bn k b g g1 g2;exact⟨g3,fun z=>by omega,fun z=>by omega,fun z=>by omega⟩
 ·rcases List.mem_or_eq_of_mem_set hx with z|z
  ·exact a.ok.1 x z
  ·rw[z];exact b2
 ·refine⟨.exc 37 none,.inr (.inl ⟨rfl,rfl⟩),?_⟩;unfold whT;dsimp only;rw[b1c hs,ht];exact c3y (c5g ((List.take_sublist ..).nodup a.gw.cn) (fun x hx=>a.gw.cm x (List.mem_of_mem_take hx)) (by rw[List.length_take];omega) (d4y ht (fun x hx=>a.gw.cm x (List.mem_of_mem_take hx)) b1))
theorem d0o(a:AgB n0 G i h)(hj:n0.carts.length < i)(c:Int):
  ∃h',a0y [whO h,.frz (spD (1,1,0)),.frz (.int c)]=some (.frz .non,[some (whO h'),none,none])/\AgB n0 G n0.carts.length h'/\RH h' "hand":=by
 refine⟨⟨h.bs,[]⟩,e1e,⟨a.gw,a.gb,a.gc,a.bl,.inl ⟨rfl,Nat.le_refl _⟩,fun k b g g1 g2=>?_,fun z=>by omega,fun x hx=>(by cases hx),a.ok.2⟩,.exc 73 none,.inr (.inr (.inr (.inr ⟨rfl,rfl⟩))),c3y c1h⟩
 obtain⟨g3,_⟩:=a.bn k b g g1 g2;exact⟨g3,fun z=>by omega,fun z=>by omega,fun z=>by omega⟩
theorem AgB.at(a:AgB n0 G i h)(hk:k < n0.belts.length):∃b g,h.bs[k]?=some b/\G.belts[k]?=some g:=⟨_,_,List.getElem?_eq_getElem (by rw[a.bl];exact hk),List.getElem?_eq_getElem (by rw[a.gb];exact hk)⟩
theorem AgB.put{b b':WB}(a:AgB n0 G i h)(hj:j < i)(hb:h.bs[k]?=some b)(hg:G.belts[k]?=some g)(hr:b'.r=b.r)(hn:n0.carts.length+1+2 * k < j->b'.n=.str g.name)(hl:n0.carts.length+2+2 * k < j->b'.l=g.long)(ho:n0.carts.length+1+2 * n0.belts.length+k < j->b'.os=g.outs.map .str)(hok:okD 5 b'.n=true/\∀o∈b'.os,okD 5 o=true):AgB n0 G j ⟨h.bs.set k b',h.cs⟩:=by
 have a':=a.mono (Nat.le_of_lt hj);refine⟨a.gw,a.gb,a.gc,by rw[List.length_set];exact a.bl,a'.ca,fun k' x g' g1 g2=>?_,a'.fr,a.ok.1,fun x hx=>?_⟩
 ·by_cases e:k'=k
  ·subst e;rw[hg] at g2;cases g2;have g1:(h.bs.set k' b')[k']?=some x:=g1;rw[List.getElem?_set_self (List.getElem?_eq_some_iff.mp hb).1] at g1;cases g1;exact⟨hr.trans (a.bn k' b g hb hg).1,hn,hl,ho⟩
  ·have g1:(h.bs.set k b')[k']?=some x:=g1;rw[List.getElem?_set_ne (Ne.symm e)] at g1;exact a'.bn k' x g' g1 g2
 ·rcases List.mem_or_eq_of_mem_set hx with z|z
  ·exact a.ok.2 x z
  ·rw[z];exact hok
theorem AgB.small(a:AgB n0 G i h):h.bs.length<=100/\G.carts.length<=100:=⟨by rw[a.bl,<-a.gb];exact a.gw.sm.bl,a.gw.sm.ct⟩
theorem AgB.pairs(a:AgB n0 G i h){m:Nat}(hm:m<=n0.belts.length)(hi:n0.carts.length+2 * m < i\/m=0):∃q:List (Belt×List D),q.map Prod.fst=G.belts.take m/\q.map encP=h.bs.take m:=
 Carry.pairs m (by rw[a.bl,a.gb]) fun k b g hk g1 g2=>by
  obtain⟨h1,h2,h3,_⟩:=a.bn k b g g1 g2;exact⟨h1,h2 (by omega),h3 (by omega)⟩
theorem d0p(a:AgB n0 G i h)(hk:k < n0.belts.length)(hj:n0.carts.length+1+2 * k < i)(c:Int):
  ∃h',a0y [whO h,.frz (spD (0,0,k)),.frz (.int c)]=some (.frz .non,[some (whO h'),none,none])/\AgB n0 G (n0.carts.length+1+2 * k) h'/\RH h' "name":=by
 obtain⟨s1,s2⟩:=a.small;have hcs:=a.all (by omega)
 obtain⟨b,g,hb,hg⟩:=a.at hk;obtain⟨q,q1,q2⟩:=a.pairs (m:=k) (by omega) (by omega)
 have qn:=q_n q2;obtain⟨d,e,b1,b2⟩:=d8d (c:=c) hb (by rw[hcs,List.length_map];exact s2) s1 a.ok.1 (fun x hx=>by
  have:x.n∈(h.bs.take k).map WB.n:=List.mem_map_of_mem hx;rw[qn] at this;obtain⟨y,_,e⟩:=List.mem_map.mp this;exact⟨y,e.symm⟩)
 refine⟨_,e,a.put hj hb hg rfl (fun z=>by omega) (fun z=>by omega) (fun z=>by omega) ⟨b2,(a.ok.2 b (List.mem_of_getElem? hb)).2⟩,.exc 37 none,.inr (.inl ⟨rfl,rfl⟩),?_⟩
 have nq:NmOk G.carts (q.map Prod.fst):=by rw[q1];exact a.gw.nmok (List.take_append_drop k G.belts).symm
 unfold whT;dsimp only;rw[b1c hb,List.map_append,List.map_cons,<-e1k q2,hcs];refine c3z a.gw.carts (c1i (z:={ b with n:=d}) nq (d4y (l:=h.cs++(h.bs.take k).map WB.n) (by rw[hcs,qn,List.map_append]) (fun x hx=>?_) b1))
 rcases List.mem_append.mp hx with z|z
 ·exact a.gw.cm x z
 ·obtain⟨y,hy,rfl⟩:=List.mem_map.mp z;exact nq.nm y hy
theorem d0q(a:AgB n0 G i h)(hk:k < n0.belts.length)(hj:n0.carts.length+2+2 * k < i)(c:Int):
  ∃h',a0y [whO h,.frz (spD (2,0,k)),.frz (.int c)]=some (.frz .non,[some (whO h'),none,none])/\AgB n0 G (n0.carts.length+2+2 * k) h'/\RH h' "size":=by
 have hcs:=a.all (by omega)
 obtain⟨b,g,hb,hg⟩:=a.at hk;obtain⟨q,q1,q2⟩:=a.pairs (m:=k) (by omega) (by omega)
 have bn:=(a.bn k b g hb hg).2.1 (by omega)
 have c0:0<=c % 3:=Int.emod_nonneg _ (by decide)
 refine⟨_,e1f hb,a.put hj hb hg rfl (fun z=>bn) (fun z=>by omega) (fun z=>by omega) (a.ok.2 b (List.mem_of_getElem? hb)),.exc 49 none,.inr (.inr (.inl ⟨rfl,rfl⟩)),?_⟩
 have nq:NmOk G.carts (q.map Prod.fst):=by rw[q1];exact a.gw.nmok (List.take_append_drop k G.belts).symm
 have nq2:NmOk G.carts ((q++[(g,b.os)]).map Prod.fst):=by
  rw[List.map_append,q1];exact a.gw.nmok (r:=G.belts.drop (k+1)) (by rw[show G.belts.take k++[(g,b.os)].map Prod.fst=G.belts.take (k+1) from(c5i hg).symm,List.take_append_drop])
 obtain⟨n1,n2,n3,_⟩:=nq2.at;unfold whT;dsimp only;rw[b1c hb,List.map_append,List.map_cons,<-e1k q2,hcs];refine c3z a.gw.carts (c1j (z:={ b with l:=(if b.r=true then 1 else 0) - c % 3}) nq bn n1 n2 n3 (a.gw.nl g (List.mem_of_getElem? hg)) ?_)
 show(if b.r=true then 1 else 0) - c % 3 < least b.r
 unfold least;split <;> omega
end
theorem b7n:∀(n:Nat) (d:D),okD n d=true->okD (n+1) d=true
 |0,d,h=>by cases d <;> first|(cases h;done)|rfl
 |n+1,d,h=>by
  cases d with
  |lst xs=>exact List.all_eq_true.mpr fun x m=>b7n n x (List.all_eq_true.mp h x m)
  |tup xs=>exact List.all_eq_true.mpr fun x m=>b7n n x (List.all_eq_true.mp h x m)
  |dct _=>cases h
  |scr _=>cases h
  |ty _=>cases h
  |exc _ _=>cases h
  |obj=>cases h
  |_=>rfl
theorem b9y{n:Nat}{d:D}(h:okD n d=true):∀k,okD (n+k) d=true
 |0=>h
 |k+1=>b7n _ _ (b9y h k)
theorem c4d(h:y≠x):eqD (.str y) (.str x)=false:=by
 rw[b0i];simpa using h
section
variable {n0 G:House} {i j k:Nat} {h:WH}
theorem AgB.outs(a:AgB n0 G i h){q:List (Belt×List D)}{m:Nat}(q1:q.map Prod.fst=G.belts.take m)(q2:q.map encP=h.bs.take m)(hi:n0.carts.length+2 * n0.belts.length+m < i\/m=0):∀x∈q,x.2=x.1.outs.map D.str/\x.1.outs.Nodup/\x.1.outs≠[]:=by
 intro x hx;obtain⟨k,hk,e⟩:=List.getElem_of_mem hx;have e0:q[k]?=some x:=by rw[List.getElem?_eq_getElem hk,e]
 have e1:(q.map Prod.fst)[k]?=some x.1:=by rw[List.getElem?_map,e0];rfl
 have e2:(q.map encP)[k]?=some (encP x):=by rw[List.getElem?_map,e0];rfl
 rw[q1,List.getElem?_take] at e1;rw[q2,List.getElem?_take] at e2;split at e1
 ·rename_i hkm
  rw[if_pos hkm] at e2;have hg:=List.mem_of_getElem? e1;exact⟨(a.bn k _ _ e2 e1).2.2.2 (by omega),a.gw.nd _ hg,a.gw.o0 _ hg⟩
 ·cases e1
theorem d0r{gc:List Str}:∀{bs:List Belt} {k:Nat} {g:Belt},Fwd gc bs->bs[k]?=some g->(∀o∈g.outs,o∈(bs.drop (k+1)).map Belt.name\/o∈gc)/\g.name∉(bs.drop (k+1)).map Belt.name/\g.name∉gc
 |b::bs,0,g,f,e=>by cases e;exact⟨f.1,f.2.1,f.2.2.1⟩
 |b::bs,k+1,g,f,e=>d0r (bs:=bs) f.2.2.2 e
theorem d3h(a:AgB n0 G i h)(hk:k < n0.belts.length)(hj:n0.carts.length+1+2 * n0.belts.length+k < i)(c:Int):
  ∃h',a0y [whO h,.frz (spD (3,0,k)),.frz (.int c)]=some (.frz .non,[some (whO h'),none,none])/\AgB n0 G (n0.carts.length+1+2 * n0.belts.length+k) h'/\RH h' "out":=by
 obtain⟨s1,s2⟩:=a.small;have hcs:=a.all (by omega)
 obtain⟨b,g,hb,hg⟩:=a.at hk;obtain⟨b0,g0,hb0,hg0⟩:=a.at (k:=0) (by omega)
 obtain⟨_,bn,_,bo⟩:=a.bn k b g hb hg;have bn:=bn (by omega)
 have bo:=bo (by omega)
 have bn0:=(a.bn 0 b0 g0 hb0 hg0).2.1 (by omega)
 have gm:=List.mem_of_getElem? hg;have g0m:=List.mem_of_getElem? hg0;cases hgo:g.outs with
 |nil=>exact absurd hgo (a.gw.o0 g gm)
 |cons x xs=>
 have bo':b.os=.str x::xs.map .str:=by rw[bo,hgo];rfl
 have ol:b.os.length<=900:=by
  rw[bo,List.length_map];exact Nat.le_trans (c9u gm) a.gw.sm.ou
 obtain⟨os',e,hq⟩:=e1y (c:=c) hb hb0 bo' ol ⟨_,bn⟩ ⟨_,bn0⟩ ⟨_,rfl⟩;obtain⟨q,q1,q2⟩:=a.pairs (m:=k) (by omega) (by omega)
 obtain⟨q3,q4,q5⟩:=a.pairs (m:=n0.belts.length) (Nat.le_refl _) (by omega)
 rw[List.take_of_length_le (by rw[a.gb];exact Nat.le_refl _)] at q4
 rw[List.take_of_length_le (by rw[a.bl];exact Nat.le_refl _)] at q5
 obtain⟨r,r1,r2⟩:∃r:List (Belt×List D),r.map Prod.fst=G.belts.drop (k+1)/\r.map encP=h.bs.drop (k+1):=⟨q3.drop (k+1),by rw[List.map_drop,q4],by rw[List.map_drop,q5]⟩
 have gsp:G.belts=G.belts.take k++g::G.belts.drop (k+1):=by
  obtain⟨hl,e⟩:=List.getElem?_eq_some_iff.mp hg;have:=List.drop_eq_getElem_cons hl;rw[e] at this;rw[<-this,List.take_append_drop]
 have okW:∀w∈W8 b.n b0.n (.str x),okD 5 w=true:=by
  intro w hw;rw[bn,bn0] at hw;unfold W8 at hw;simp only[List.mem_cons,List.not_mem_nil,or_false] at hw;rcases hw with rfl|rfl|rfl|rfl|rfl|rfl|rfl|rfl <;> rfl
 have bok:=a.ok.2 b (List.mem_of_getElem? hb);refine⟨_,e,a.put hj hb hg rfl (fun z=>bn) (fun z=>(a.bn k b g hb hg).2.2.1 (by omega)) (fun z=>by omega) ⟨bok.1,fun o ho=>?_⟩,.exc 61 none,.inr (.inr (.inr (.inl ⟨rfl,rfl⟩))),?_⟩
 ·rcases hq with z|⟨i',w,_,_,z,hw⟩
  ·have ho:o∈os':=ho;rw[z] at ho;cases ho
  ·have ho:o∈os':=ho;rw[z] at ho;rcases List.mem_append.mp ho with y|y
   ·exact bok.2 o (List.mem_of_mem_take y)
   ·rcases List.mem_cons.mp y with y|y
    ·rw[y];exact okW w hw
    ·exact bok.2 o (List.mem_of_mem_drop y)
 obtain⟨fo,fn,fc⟩:=d0r a.gw.fwd hg;obtain⟨_,fn0,fc0⟩:=d0r a.gw.fwd hg0;have fst':(q++(g,os')::r).map Prod.fst=G.belts:=by rw[List.map_append,List.map_cons,q1,r1];exact gsp.symm
 have eb:(h.bs.set k { b with os:=os'}).map wbT=(q++(g,os')::r).map eP:=by
  rw[b1c hb,List.map_append,List.map_cons,List.map_append,List.map_cons,e1k q2,e1k r2];obtain⟨z1,z2,z3,_⟩:=a.bn k b g hb hg;have z3:=z3 (by omega)
  congr 2
  unfold eP encP wbT;dsimp only;rw[bn,z1,z3]
 have bl:G.belts.length<=100:=a.gw.sm.bl;unfold whT;dsimp only;rw[eb,hcs];have nmk:NmOk G.carts ((q++(g,os')::r).map Prod.fst):=by rw[fst'];exact a.gw.nmok (r:=[]) (by simp)
 refine d7w a.gw.carts (d0d nmk) (d0h ?_ s2 (by rw[fst'];exact b1b a.gw.cn a.gw.fwd) (b4e (by rw[q1,r1,<-gsp];exact a.gw.fwd) (a.outs q1 q2 (by omega))) ?_ (a.gw.nl g gm))
 ·have:=congrArg List.length fst';rw[List.length_map] at this;omega
 ·show BadO ((r.map Prod.fst).map Belt.name++G.carts) os';rw[r1];rcases hq with z|⟨i',w,i1,i2,z,hw⟩
  ·exact .inl z
  ·refine .inr ⟨g.outs.take i',w,b.os.drop i',by rw[z,bo,List.map_take],⟨(List.take_sublist ..).nodup (a.gw.nd g gm),fun o ho=>?_⟩,b9y (okW w hw) 35,fun y hy hp=>?_⟩
   ·rcases fo o (List.mem_of_mem_take ho) with y|y
    ·exact List.mem_append_left _ y
    ·exact List.mem_append_right _ y
   ·have nx:∀n,n∉(G.belts.drop (k+1)).map Belt.name->n∉G.carts->y≠n:=fun n h1 h2 e=>by
     rw[e] at hy;rcases List.mem_append.mp hy with z|z
     ·exact h1 z
     ·exact h2 z
    rw[bn,bn0] at hw;unfold W8 at hw;simp only[List.mem_cons,List.not_mem_nil,or_false] at hw;rcases hw with rfl|rfl|rfl|rfl|rfl|rfl|rfl|rfl
    ·exact c4d (nx _ fn fc)
    ·refine c4d (nx _ (fun z=>?_) a.gw.wc)
     obtain⟨u,hu,eu⟩:=List.mem_map.mp z;exact a.gw.wb u (List.mem_of_mem_drop hu) eu
    ·rfl
    ·refine c4d fun e=>hp ?_
     rw[e,hgo];cases i' with
     |zero=>omega
     |succ n=>exact .head _
    ·refine c4d (nx _ (fun z=>fn0 ?_) fc0)
     obtain⟨u,hu,eu⟩:=List.mem_map.mp z;refine List.mem_map.mpr ⟨u,?_,eu⟩;have:G.belts.drop (k+1)=(G.belts.drop (0+1)).drop k:=by rw[List.drop_drop];congr 1;omega
     rw[this] at hu;exact List.mem_of_mem_drop hu
    ·rfl
    ·rfl
    ·rfl
end
abbrev odd:Str:="oddly"
def farB(g:Belt):Belt:={ g with outs:=[odd]}
def farH(n0:House)(j:Nat)(g:Belt):House:=⟨n0.belts.set j (farB g),n0.carts++[odd]⟩
theorem b9z{bs:List Belt}(hg:bs[j]?=some g):(bs.set j (farB g)).map Belt.name=bs.map Belt.name:=by
 rw[List.map_set];refine List.ext_getElem? fun k=>?_
 by_cases e:k=j
 ·subst e;rw[List.getElem?_set_self (by rw[List.length_map];exact(List.getElem?_eq_some_iff.mp hg).1),List.getElem?_map,hg]
  rfl
 ·rw[List.getElem?_set_ne (Ne.symm e)]
theorem d0s{gc:List Str}:∀{bs:List Belt} {j:Nat} {g:Belt},Fwd gc bs->(∀b∈bs,b.name≠odd)->bs[j]?=some g->Fwd (gc++[odd]) (bs.set j (farB g))
 |b::bs,0,g,f,ho,e=>by
  cases e;have key:∀{bs:List Belt},Fwd gc bs->(∀b∈bs,b.name≠odd)->Fwd (gc++[odd]) bs:=by
   intro bs
   induction bs with
   |nil=>exact fun _ _=>True.intro
   |cons x bs ih=>
    intro f ho;refine⟨fun o h=>?_,f.2.1,fun h=>?_,ih f.2.2.2 fun y hy=>ho y (.tail _ hy)⟩
    ·rcases f.1 o h with z|z
     ·exact .inl z
     ·exact .inr (List.mem_append_left _ z)
    ·rcases List.mem_append.mp h with z|z
     ·exact f.2.2.1 z
     ·exact ho x (.head _) (List.mem_singleton.mp z)
  have k:=key f ho;exact⟨fun o h=>.inr (List.mem_append_right _ h),k.2.1,k.2.2.1,k.2.2.2⟩
 |b::bs,j+1,g,f,ho,e=>by
  have e:bs[j]?=some g:=e;have ih:=d0s f.2.2.2 (fun y hy=>ho y (.tail _ hy)) e
  have hn:=b9z e;refine⟨fun o h=>?_,?_,fun h=>?_,ih⟩
  ·show o∈(bs.set j (farB g)).map Belt.name\/_;rw[hn];rcases f.1 o h with z|z
   ·exact .inl z
   ·exact .inr (List.mem_append_left _ z)
  ·show b.name∉(bs.set j (farB g)).map Belt.name;rw[hn];exact f.2.1
  ·rcases List.mem_append.mp h with z|z
   ·exact f.2.2.1 z
   ·exact ho b (.head _) (List.mem_singleton.mp z)
theorem d4z{m:Nat}:∀{bs:List Belt},(∀b∈bs,b.outs.length<=m)->(bs.map fun x=>x.outs.length).sum<=m * bs.length
 |[],_=>Nat.zero_le _
 |b::bs,h=>by
  rw[List.map_cons,List.sum_cons,List.length_cons,Nat.mul_succ];have:=d4z (bs:=bs) fun y hy=>h y (.tail _ hy)
  have:=h b (.head _);omega
theorem d3i(a:GoodH n0)(b6:n0.belts.length<=6)(c4:n0.carts.length<=4)(hg:n0.belts[j]?=some g):GoodW (farH n0 j g):=by
 have gm:=List.mem_of_getElem? hg;have hb:∀b∈(farH n0 j g).belts,b=farB g\/b∈n0.belts:=fun b m=>by
  rcases List.mem_or_eq_of_mem_set m with z|z
  ·exact .inr z
  ·exact .inl z
 refine⟨d0s a.fwd a.ob hg,⟨?_,?_,?_⟩,fun c hc=>?_,fun b m=>?_,fun b m=>?_,?_,?_,fun b m=>?_,fun b m=>?_,fun b m=>?_,fun b m=>?_,fun hc=>?_⟩
 ·show(n0.belts.set j (farB g)).length<=100;rw[List.length_set];omega
 ·show(n0.carts++[odd]).length<=100;rw[List.length_append,List.length_singleton];omega
 ·show((n0.belts.set j (farB g)).map fun x=>x.outs.length).sum<=900
  refine Nat.le_trans (d4z (m:=24) fun b m=>?_) (by rw[List.length_set];omega)
  rcases hb b m with rfl|z
  ·show 1<=24;decide
  ·exact a.ol b z
 ·rcases List.mem_append.mp hc with z|z
  ·exact a.cm c z
  ·rw[List.mem_singleton.mp z];show a6x [.frz (.str "oddly")]=_;kernel_rfl
 ·rcases hb b m with rfl|z
  ·exact a.nm g gm
  ·exact a.nm b z
 ·rcases hb b m with rfl|z
  ·exact a.lg g gm
  ·exact a.lg b z
 ·show(n0.carts++[odd]).Nodup;rw[List.nodup_append];exact⟨a.cn,by simp,fun x hx y hy e=>a.oc (by rw[List.mem_singleton.mp hy] at e;have z:=hx;rw[e] at z;exact z)⟩
 ·show 0 < (n0.carts++[odd]).length;simp
 ·rcases hb b m with rfl|z
  ·show[odd].Nodup;simp
  ·exact a.nd b z
 ·rcases hb b m with rfl|z
  ·show[odd]≠[];simp
  ·exact a.o0 b z
 ·rcases hb b m with rfl|z
  ·exact a.nl g gm
  ·exact a.nl b z
 ·rcases hb b m with rfl|z
  ·exact a.wb g gm
  ·exact a.wb b z
 ·rcases List.mem_append.mp hc with z|z
  ·exact a.wc z
  ·exact absurd (List.mem_singleton.mp z) (by decide +kernel)
section
variable {n0 G:House} {i j:Nat} {h:WH}
theorem d3j(gh:GoodH n0)(b6:n0.belts.length<=6)(c4:n0.carts.length<=4)(nb:0 < n0.belts.length)(a:AgB n0 G i h)(hi:n0.carts.length+1+3 * n0.belts.length < i)(c:Int):
  ∃h' G',a0y [whO h,.frz (spD (4,0,0)),.frz (.int c)]=some (.frz .non,[some (whO h'),none,none])/\AgB n0 G' (n0.carts.length+1+3 * n0.belts.length) h'/\RH h' "hand":=by
 have e:=a.fr hi;subst e;have hcs:=a.all (by omega)
 have hbs:h.bs=G.belts.map wbOf:=by
  refine List.ext_getElem? fun k=>?_
  rw[List.getElem?_map];by_cases hk:k < G.belts.length
  ·obtain⟨b,g,e1,e2⟩:=a.at hk;obtain⟨z1,z2,z3,z4⟩:=a.bn k b g e1 e2;rw[e1,e2,Option.map_some];have z2:=z2 (by omega)
   have z3:=z3 (by omega)
   have z4:=z4 (by omega)
   congr 1
   unfold wbOf;rw[<-z1,<-z2,<-z3,<-z4]
  ·rw[List.getElem?_eq_none (by rw[a.bl];omega),List.getElem?_eq_none (by omega)]
   rfl
 have hp:(0:Int) < G.belts.length:=by omega
 have c0:0<=c % (G.belts.length:Int):=Int.emod_nonneg _ (by omega)
 have c1:c % (G.belts.length:Int) < G.belts.length:=Int.emod_lt_of_pos _ hp;obtain⟨j,ej,hj⟩:=b1v c0 c1;obtain⟨b,g,hb,hg⟩:=a.at hj;have gm:=List.mem_of_getElem? hg;have eb:b=wbOf g:=by
  rw[hbs,List.getElem?_map,hg] at hb;exact(Option.some.inj hb).symm
 have s:=a.small;have z:=e1z (c:=c) (j:=j) (by intro z;have:=a.bl;rw[z] at this;simp at this;omega) (by rw[a.bl];exact ej.symm) hb s.1 (by rw[hcs,List.length_map];exact s.2)
 have ew:(⟨h.bs.set j { b with os:=[.str "oddly"]},h.cs++[.str "oddly"]⟩:WH)=whOf (farH G j g):=by
  unfold whOf farH;rw[hbs,hcs,eb,List.map_set,List.map_append];rfl
 rw[ew] at z;have gd:=d3i gh b6 c4 hg;refine⟨_,farH G j g,z,.of gd (by show(G.belts.set j (farB g)).length=_;rw[List.length_set]) (by show _<=(G.carts++[odd]).length;simp) (fun z=>by omega),.exc 73 none,.inr (.inr (.inr (.inr ⟨rfl,rfl⟩))),?_⟩
 have ht:whT (whOf (farH G j g))=a3y (farH G j g):=by
  unfold whT whOf a3y;dsimp only;rw[List.map_map];rfl
 rw[ht];refine c5h gd ⟨farB g,List.mem_of_getElem? (i:=j) (by show(G.belts.set j (farB g))[j]?=_;exact List.getElem?_set_self hj),d7v gd.fwd (List.mem_of_getElem? (i:=j) (by show(G.belts.set j (farB g))[j]?=_;exact List.getElem?_set_self hj)) rfl ?_ ?_⟩
 ·show odd∉(G.belts.set j (farB g)).map Belt.name;rw[b9z hg];intro z;obtain⟨u,hu,eu⟩:=List.mem_map.mp z;exact gh.ob u hu eu
 ·show(G.carts++[odd]).getD 0 ""≠odd;have c0:=gh.c0;have oc:=gh.oc;cases hcc:G.carts with
  |nil=>rw[hcc] at c0;simp at c0
  |cons x xs=>
   rw[hcc] at oc;intro z;exact oc (by rw[show x=odd from z];exact .head _)
def dueOf(k:Nat):Str:=if k=4 then "hand" else kindS k
theorem d8h(gh:GoodH n0)(b6:n0.belts.length<=6)(c4:n0.carts.length<=4)(a:AgB n0 G i h)(hj:j < i)(hl:j < n0.carts.length+1+3 * n0.belts.length+if n0.belts.length=0 then 0 else 1)(ap:(spAt n0.carts.length n0.belts.length j).2.1=0\/h.cs≠[])(c:Int):
  ∃h' G',a0y [whO h,.frz (spD (spAt n0.carts.length n0.belts.length j)),.frz (.int c)]=some (.frz .non,[some (whO h'),none,none])/\AgB n0 G' j h'/\RH h' (dueOf (spAt n0.carts.length n0.belts.length j).1):=by
 generalize hnc:n0.carts.length=nc at *;generalize hnb:n0.belts.length=nb at *;unfold spAt at ap ⊢;by_cases h1:j < nc
 ·rw[if_pos h1] at ap ⊢;obtain⟨h',e1,e2,e3⟩:=d0n a hj (by omega) (ap.resolve_left fun z=>by cases z) a.small.2 c
  exact⟨h',G,e1,e2,e3⟩
 rw[if_neg h1] at ap ⊢;by_cases h2:j=nc
 ·rw[if_pos h2];obtain⟨h',e1,e2,e3⟩:=d0o a (by omega) c
  rw[hnc,<-h2] at e2;exact⟨h',G,e1,e2,e3⟩
 rw[if_neg h2];by_cases h3:j < nc+1+2 * nb
 ·rw[if_pos h3];by_cases h4:(j - nc - 1) % 2=0
  ·rw[if_pos h4];obtain⟨h',e1,e2,e3⟩:=d0p (k:=(j - nc - 1) / 2) a (by omega) (by omega) c
   rw[show n0.carts.length+1+2 * ((j - nc - 1) / 2)=j by omega] at e2
   exact⟨h',G,e1,e2,e3⟩
  ·rw[if_neg h4];obtain⟨h',e1,e2,e3⟩:=d0q (k:=(j - nc - 1) / 2) a (by omega) (by omega) c
   rw[show n0.carts.length+2+2 * ((j - nc - 1) / 2)=j by omega] at e2
   exact⟨h',G,e1,e2,e3⟩
 rw[if_neg h3];by_cases h5:j < nc+1+3 * nb
 ·rw[if_pos h5];obtain⟨h',e1,e2,e3⟩:=d3h (k:=j - (nc+1+2 * nb)) a (by omega) (by omega) c
  rw[show n0.carts.length+1+2 * n0.belts.length+(j - (nc+1+2 * nb))=j by omega] at e2
  exact⟨h',G,e1,e2,e3⟩
 rw[if_neg h5];have n0':nb≠0:=fun z=>by rw[z] at hl;simp at hl;omega
 rw[if_neg n0'] at hl;obtain⟨h',G',e1,e2,e3⟩:=d3j gh (by omega) (by omega) (by omega) a (by omega) c
 rw[show n0.carts.length+1+3 * n0.belts.length=j by omega] at e2
 exact⟨h',G',e1,e2,e3⟩
end
abbrev fI(i:Int):O:=.frz (.int i)
theorem d0t(F:Feed)(v:Int):mSet (feedT F) [.frz (.int v),.frz (.int 2)]=some (feedT { F with style:=v},.frz .non):=by
 show((ixN (feedL F).length 2).map fun j=>(O.lst ((feedL F).set j (.frz (.int v))),O.frz .non))=_
 rw[show(feedL F).length=5 from rfl,ix52];rfl
theorem c0a{n:Int}(n0:0 < n)(n1:n < 1073741824)(sp:O)(hs:∃ds,sp=.frz (.lst ds)/\(ds.length:Int)=n):∀(xs:List D) (acc:List Int) (F:Feed) (a:Option O),GoodF F->acc.length+xs.length < 1000000->∃ps F' a',compLoop (a0p 0) gYes (gFrz (gCall a1v (a0a (gVar 1) (a0a (gOp oLen (a0a (gVar 2) gaNil)) gaNil)))) xs [a,some (feedT F),some sp] (acc.map fI)=some ((acc++ps).map fI,[a',some (feedT F'),some sp])/\GoodF F'/\ps.length=xs.length/\∀p∈ps,0<=p/\p < n
 |[],acc,F,a,g,_=>⟨[],F,a,by rw[b0f,List.append_nil],g,rfl,fun p m=>(by cases m)⟩
 |x::xs,acc,F,a,g,hl=>by
  rw[List.length_cons] at hl;have ha:(acc.map fI).length < 1000000:=by rw[List.length_map];omega
  have e1:=xd g n0 n1;obtain⟨ps,F',a',e2,g2,l2,h2⟩:=c0a n0 n1 sp hs xs (acc++[drawV F n]) (drawF F n) (some (.frz x)) (g.draw n) (by rw[List.length_append,List.length_singleton];omega)
  refine⟨drawV F n::ps,F',a',?_,g2,by rw[List.length_cons,List.length_cons,l2],fun p m=>?_⟩
  ·rw[show acc++drawV F n::ps=acc++[drawV F n]++ps by simp,<-e2,List.map_append]
   obtain⟨ds,rfl,hd⟩:=hs;simp only[a7z,a1q,qq2,qq3,qqf,Nat.reduceAdd,Nat.reduceLT,qq4,if_true,↓evBind,b3i,a1j,a1k,a0f,a0n,qq1,qq0,a1e,a0h,a0k,a0i,a0j,a4m,a1o,a3j,hd,↓evMap,a1s,qq5,a0x,a0w,e1,a3m,a2f,a2e,a1h,a1b,ha,qq6,qq7]
  ·rcases List.mem_cons.mp m with rfl|m
   ·exact⟨a0u F n0,a2j F n0⟩
   ·exact h2 p m
theorem d8i(x:Int)(ps:List Int):oInG false [.frz (.int x),.frz (.lst (ps.map .int))]=some (.frz (.bl (ps.contains x))):=by
 have k:∀ps:List Int,((ps.map D.int).any fun z=>eqD z (.int x))=ps.contains x:=by
  intro ps
  induction ps with
  |nil=>rfl
  |cons y r ih=>
   rw[List.map_cons,List.any_cons,ih,List.contains_cons]
   congr 1
   show eqD (.int y) (.int x)=_;rw[show eqD (.int y) (.int x)=(y == x) by unfold eqD;rfl]
   exact BEq.comm
 have o:(ps.map D.int).all (okD 40)=true:=by
  rw[List.all_eq_true];intro d hd;obtain⟨y,_,rfl⟩:=List.mem_map.mp hd;rfl
 have e:seqO (.lst (ps.map D.int))=some (ps.map D.int):=rfl;unfold oInG;simp only[dictO,e,Option.bind_some,a1o,o,and_true,qqe,if_false,k];rfl
theorem d0u:∀{ks:List Nat},ks.Pairwise (· < ·)->ascI (ks.map fun(k:Nat)=>(0+(k:Int)))=true
 |[],_=>rfl
 |[_],_=>rfl
 |a::b::l,h=>by
  have h1:=List.pairwise_cons.mp h;rw[List.map_cons,List.map_cons];unfold ascI;rw[Bool.and_eq_true];refine⟨decide_eq_true (by have:=h1.1 b (.head _);omega),?_⟩
  have:=d0u h1.2
  rwa [List.map_cons] at this
theorem d3k(ns:List Int):b5d (ns.map D.int)=some ns:=by
 induction ns with
 |nil=>rfl
 |cons n ns ih=>
  show(b5d (ns.map D.int)).map (n::·)=_
  rw[ih];rfl
theorem d0v(ks:List Nat)(hp:ks.Pairwise (· < ·))(hl:ks.length < 64):b5e [.lst ((ks.map fun(k:Nat)=>D.int (0+(k:Int))).map .frz)]=some (.lst ((ks.reverse.map fun(k:Nat)=>D.int (0+(k:Int))).map .frz)):=by
 unfold b5e;have e:(ks.map fun(k:Nat)=>D.int (0+(k:Int)))=(ks.map fun(k:Nat)=>(0+(k:Int))).map D.int:=by rw[List.map_map];rfl
 show(frzL _).bind _=_;rw[a5s,Option.bind_some,e,d3k,Option.bind_some,if_pos ⟨d0u hp,by rw[List.length_map];exact hl⟩]
 rw[<-List.map_reverse,List.map_map,List.map_map];rw[List.map_map];rfl
def doB:GS:=a0l (a2s (gCall a0y (a0a (gVar 2) (a0a (gBin oIx (gVar 3) (gVar 6)) (a0a (gFrz (gCall a1v (a0a (gVar 1) (a0a (gC (.int 1000003)) gaNil)))) gaNil)))))
 (gsSet 5 (gBin oIx (gBin oIx (gVar 3) (gVar 6)) (gC (.int 0))))
def tsB:GT:=gOrT (gT (gBin oEq (gBin oIx (gBin oIx (gVar 3) (gVar 6)) (gC (.int 1))) (gC (.int 0)))) (gT (gBin oGt (gLend (gOp oLen (a0a (gBin oIx (gVar 2) (gC (.int 1))) gaNil))) (gC (.int 0))))
def enB:GS:=gsIf (gT (gBin oEq (gVar 5) (gC (.str "far")))) (gsSet 5 (gC (.str "hand"))) gsNil
def lawB:GS:=a0l (gsIf tsB doB gsNil) enB
section
variable {s0 s4 a6:Option O} {F:Feed} {h h':WH} {sl:List D} {due:Str} {ki:Int} {k x y:Nat}
theorem fzg(x:Option O)(Γ:Gm):frzG (x::Γ)=(x.map fun o=>.frz o.d)::frzG Γ:=rfl
theorem d5a(hk:atI sl ki=some (spD (k,x,y))):tsB [s0,some (feedT F),some (whO h),some (.frz (.lst sl)),s4,some (fS due),some (.frz (.int ki)),none,none]=some (decide (x=0\/h.cs≠[]),[s0,some (feedT F),some (whO h),some (.frz (.lst sl)),s4,some (fS due),some (.frz (.int ki)),none,none]):=by
 have wd:=c1n h;unfold whL at wd;unfold spD at hk;dsimp only at hk;obtain⟨l1,hw1⟩:=a6i h;rw[hw1] at wd ⊢;by_cases hx:x=0
 ·subst hx;have c1:(((0:Nat):Int) == 0)=true:=rfl;rw[decide_eq_true (Or.inl rfl)];unfold tsB;generalize(0+(y:Int))=yi at *;generalize h.bs.map wbL=bl at *;simp only[b0d,a5z,a1e,a0f,a0n,qq1,qq0,↓evBind,a0h,a0k,a0i,a0j,a3e,a4b,hk,↓evMap,a3s,a5p,a3q,a4p,a1o,a3k,and_self,a4n,c1,if_true,a7m]
 ·have c1:((x:Int) == 0)=false:=by simpa using hx
  by_cases hc:h.cs=[]
  ·rw[decide_eq_false (by rintro(z|z);exact hx z;exact z hc)]
   rw[hc] at wd;have c2:decide ((0:Int) < ((0:Nat):Int))=false:=rfl;unfold tsB;generalize(0+(y:Int))=yi at *;generalize(x:Int)=xi at *;generalize h.bs.map wbL=bl at *;simp only[b0d,a5z,a1e,a0f,a0n,qq1,qq0,↓evBind,a0h,a0k,a0i,a0j,a3e,a4b,hk,↓evMap,a3s,a5p,a3q,a4p,a1o,a3k,and_self,a4n,c1,if_true,qqe,a7m,fzg,a5a,wd,b0o,a4m,a3j,qq3,b3s,a3d,c2,if_false]
  ·rw[decide_eq_true (Or.inr hc)];have c2:decide ((0:Int) < (h.cs.length:Int))=true:=decide_eq_true (by
    cases hh:h.cs with
    |nil=>exact absurd hh hc
    |cons _ _=>rw[List.length_cons];omega)
   unfold tsB;generalize(0+(y:Int))=yi at *;generalize(x:Int)=xi at *;generalize h.bs.map wbL=bl at *;simp only[b0d,a5z,a1e,a0f,a0n,qq1,qq0,↓evBind,a0h,a0k,a0i,a0j,a3e,a4b,hk,↓evMap,a3s,a5p,a3q,a4p,a1o,a3k,and_self,a4n,c1,if_true,qqe,a7m,fzg,a5a,wd,b0o,a4m,a3j,b3s,a3d,c2,if_false]
theorem e1g(g:GoodF F)(hk:atI sl ki=some (spD (k,x,y)))(e:a0y [whO h,.frz (spD (k,x,y)),.frz (.int (drawV F 1000003))]=some (.frz .non,[some (whO h'),none,none])):doB [s0,some (feedT F),some (whO h),some (.frz (.lst sl)),s4,some (fS due),some (.frz (.int ki)),none,none]=some (.nx,[s0,some (feedT (drawF F 1000003)),some (whO h'),some (.frz (.lst sl)),s4,some (fS (kindS k)),some (.frz (.int ki)),none,none]):=by
 have e1:=xd g (m:=1000003) (by decide) (by decide)
 unfold spD at hk e;dsimp only at hk e;generalize kindS k=ks at *;generalize whO h'=w2 at *;obtain⟨l1,hw1⟩:=a6i h;rw[hw1] at e ⊢;generalize drawV F 1000003=dv at *;generalize(0+(y:Int))=yi at *;generalize(x:Int)=xi at *;unfold doB;simp only[a0r,a2q,a1k,a0f,a0n,qq1,qq0,↓evBind,a1e,a0h,a0k,a0i,a0j,a3e,a4b,hk,↓evMap,a1j,a3s,a1s,qq5,qq4,a0x,a0w,e1,a3m,a2f,a2e,a1o,e,a1t,a5p,a2i,qq2,qq3,qqf,Nat.reduceAdd,Nat.reduceLT,if_true]
theorem d5b(s1 s2 s3:Option O):enB [s0,s1,s2,s3,s4,some (fS due),a6,none,none]=some (.nx,[s0,s1,s2,s3,s4,some (fS (if(due == "far")=true then "hand" else due)),a6,none,none]):=by
 unfold enB;cases hd:due == "far" with
 |true=>
  rw[if_pos rfl];simp only[a1m,a5z,a1e,a0f,a0n,qq1,qq0,↓evBind,a3s,a0h,a0k,a0i,a0j,a4p,a1o,a6q,and_self,b0i,hd,if_true,a1t,qq2,qq3,qqf,Nat.reduceAdd,Nat.reduceLT,qq5,qq4,a1p]
 |false=>
  rw[if_neg Bool.false_ne_true];simp only[a1m,a5z,a1e,a0f,a0n,qq1,qq0,↓evBind,a3s,a0h,a0k,a0i,a0j,a4p,a1o,a6q,and_self,b0i,hd,if_true,qqe,a1t,qq2,qq3,qqf,Nat.reduceAdd,Nat.reduceLT,qq5,qq4,a1p,if_false]
theorem e1h{c:GT}{g:GS}{b:Bool}(e:c Γ=some (b,Γ1)):gsIf c f g Γ=if b=true then f Γ1 else g Γ1:=by
 unfold gsIf;rw[e];rfl
theorem d0w{g:GS}(e:f Γ=some (.nx,Γ1)):a0l f g Γ=g Γ1:=by
 unfold a0l;rw[e];rfl
theorem d3l:∀k,k < 5->(if(kindS k == "far")=true then("hand":Str) else kindS k)=dueOf k:=by decide +kernel
theorem d8j(g:GoodF F)(k5:k < 5)(ap:x=0\/h.cs≠[])(hk:atI sl ki=some (spD (k,x,y)))(e:a0y [whO h,.frz (spD (k,x,y)),.frz (.int (drawV F 1000003))]=some (.frz .non,[some (whO h'),none,none])):
  (a0p 6 (.int ki) [s0,some (feedT F),some (whO h),some (.frz (.lst sl)),s4,some (fS due),a6,none,none]).bind lawB=some (.nx,[s0,some (feedT (drawF F 1000003)),some (whO h'),some (.frz (.lst sl)),s4,some (fS (dueOf k)),some (.frz (.int ki)),none,none]):=by
 show lawB [s0,some (feedT F),some (whO h),some (.frz (.lst sl)),s4,some (fS due),some (.frz (.int ki)),none,none]=_;unfold lawB;have e1:=d5a (s0:=s0) (s4:=s4) (F:=F) (h:=h) (due:=due) hk;rw[decide_eq_true ap] at e1;have e2:=e1h (f:=doB) (g:=gsNil) e1;rw[if_pos rfl,e1g g hk e] at e2;rw[d0w e2,d5b,d3l k k5]
theorem d8k(ap:¬(x=0\/h.cs≠[]))(hd:(due == "far")=false)(hk:atI sl ki=some (spD (k,x,y))):
  (a0p 6 (.int ki) [s0,some (feedT F),some (whO h),some (.frz (.lst sl)),s4,some (fS due),a6,none,none]).bind lawB=some (.nx,[s0,some (feedT F),some (whO h),some (.frz (.lst sl)),s4,some (fS due),some (.frz (.int ki)),none,none]):=by
 show lawB [s0,some (feedT F),some (whO h),some (.frz (.lst sl)),s4,some (fS due),some (.frz (.int ki)),none,none]=_;unfold lawB;have e1:=d5a (s0:=s0) (s4:=s4) (F:=F) (h:=h) (due:=due) hk;rw[decide_eq_false ap] at e1;have e2:=e1h (f:=doB) (g:=gsNil) e1;rw[if_neg Bool.false_ne_true] at e2;have e2:gsIf tsB doB gsNil _=some (.nx,_):=e2;rw[d0w e2,d5b,hd,if_neg Bool.false_ne_true]
end
theorem d8l{r:D}(h:resD due r):(due == "far")=false:=by
 rcases h with⟨rfl,_⟩|⟨rfl,_⟩|⟨rfl,_⟩|⟨rfl,_⟩|⟨rfl,_⟩ <;> decide +kernel
theorem e2a(nc nb j:Nat):(spAt nc nb j).1 < 5:=by
 unfold spAt
 repeat' split
 all_goals simp
theorem d3m(gh:GoodH n0)(b6:n0.belts.length<=6)(c4:n0.carts.length<=4)(gF:GoodF F)(s0 s4:Option O)(ks:List Nat)(hp:ks.Pairwise (· < ·))(hn:∀k∈ks,k < n0.carts.length+1+3 * n0.belts.length+if n0.belts.length=0 then 0 else 1):
  ∃F' h due a6,a2a (a0p 6) lawB (ks.reverse.map fun(k:Nat)=>D.int (0+(k:Int))) [s0,some (feedT F),some (whO (whOf n0)),some (.frz (.lst ((spL n0.carts.length n0.belts.length).map spD))),s4,some (fS "right"),none,none,none] =
   some (.nx,[s0,some (feedT F'),some (whO h),some (.frz (.lst ((spL n0.carts.length n0.belts.length).map spD))),s4,some (fS due),a6,none,none])/\RH h due/\∃G i,AgB n0 G i h:=by
 have hsl:∀k,k < n0.carts.length+1+3 * n0.belts.length+(if n0.belts.length=0 then 0 else 1)->((spL n0.carts.length n0.belts.length).map spD)[k]?=some (spD (spAt n0.carts.length n0.belts.length k)):=fun k hk=>by
  rw[List.getElem?_map,e0x _ (by omega) _ (by omega),List.getElem?_map,List.getElem?_range hk]
  rfl
 generalize hsd:(spL n0.carts.length n0.belts.length).map spD=sl at *;have hr:ks.reverse.Pairwise (· > ·):=by rw[List.pairwise_reverse];exact hp
 have hn':∀k∈ks.reverse,k < n0.carts.length+1+3 * n0.belts.length+if n0.belts.length=0 then 0 else 1:=fun k m=>hn k (List.mem_reverse.mp m)
 generalize ks.reverse=xs at *;have g0:RH (whOf n0) "right":=by
  refine⟨.bl true,.inl ⟨rfl,rfl⟩,?_⟩;have ht:whT (whOf n0)=a3y n0:=by
   unfold whT whOf a3y;dsimp only;rw[List.map_map];rfl
  rw[ht];exact d7y gh
 obtain⟨Γ',e,F',h,due,a6,G,i,rfl,_,a,r,_⟩:=a5x (g:=a0p 6) (f:=lawB) (fun(k:Nat)=>D.int (0+(k:Int))) (fun pre Γ=>∃F h due a6 G i,Γ=[s0,some (feedT F),some (whO h),some (.frz (.lst sl)),s4,some (fS due),a6,none,none]/\GoodF F/\AgB n0 G i h/\RH h due/\∀x post,xs=pre++x::post->x < i) xs [] [s0,some (feedT F),some (whO (whOf n0)),some (.frz (.lst sl)),s4,some (fS "right"),none,none,none]
  ⟨F,whOf n0,"right",none,n0,n0.carts.length+2+3 * n0.belts.length,rfl,gF,.of gh.toGoodW rfl (Nat.le_refl _) (fun _=>rfl),g0,fun x post ex=>by
   have:=hn' x (by rw[ex];simp)
   split at this <;> omega⟩ (by
  rintro q x post Γ eq ⟨F,h,due,a6,G,i,rfl,gF,a,r,hx⟩;rw[List.nil_append] at *;have hxi:=hx x post eq;have hxl:=hn' x (by rw[eq];simp)
  have hat:atI sl (0+(x:Int))=some (spD (spAt n0.carts.length n0.belts.length x)):=by rw[Int.zero_add];exact a3i (hsl x hxl)
  have nxt:∀y post',xs=q++[x]++y::post'->y < x:=fun y post' ey=>by
   rw[ey,List.append_assoc] at hr;exact(List.pairwise_cons.mp (List.pairwise_append.mp hr).2.1).1 y (.head _)
  have sl5:=e2a n0.carts.length n0.belts.length x;by_cases ap:(spAt n0.carts.length n0.belts.length x).2.1=0\/h.cs≠[]
  ·obtain⟨h',G',e1,e2,e3⟩:=d8h gh b6 c4 a hxi hxl ap (drawV F 1000003);exact⟨_,d8j gF sl5 ap hat e1,drawF F 1000003,h',_,_,G',x,rfl,gF.draw _,e2,e3,nxt⟩
  ·obtain⟨rr,r1,r2⟩:=r;exact⟨_,d8k ap (d8l r1) hat,F,h,due,_,G,x,rfl,gF,a.mono (Nat.le_of_lt hxi),⟨rr,r1,r2⟩,nxt⟩)
 exact⟨F',h,due,a6,e,r,G,i,a⟩
theorem d8m{h:WH}(a:(∀d∈h.cs,okD 5 d=true)/\∀b∈h.bs,okD 5 b.n=true/\∀o∈b.os,okD 5 o=true):okD 40 (whT h)=true:=by
 have hb:∀b∈h.bs,okD 38 (wbT b)=true:=fun b m=>by
  obtain⟨h1,h2⟩:=a.2 b m;show([b.n,.int b.l,.bl b.r,.lst b.os]:List D).all (okD 37)=true;rw[List.all_cons,List.all_cons,List.all_cons,List.all_cons,List.all_nil,b9y h1 32];show(b.os.all (okD 36) && true)=true;rw[Bool.and_true,List.all_eq_true];exact fun o ho=>b9y (h2 o ho) 31
 show([.lst (h.bs.map wbT),.lst h.cs]:List D).all (okD 39)=true;rw[List.all_cons,List.all_cons,List.all_nil,Bool.and_true,Bool.and_eq_true];constructor
 ·show(h.bs.map wbT).all (okD 38)=true;rw[List.all_eq_true];intro d hd;obtain⟨b,m,rfl⟩:=List.mem_map.mp hd;exact hb b m
 ·show h.cs.all (okD 38)=true;rw[List.all_eq_true];exact fun d hd=>b9y (a.1 d hd) 33
theorem d8n{d:D}(h:okD 40 d=true):oEq [.frz d,.frz d]=some (.frz (.bl true)):=by rw[a4p,a1o,if_pos ⟨h,h⟩,a9x 40 h]
theorem e1i(x:Str):oEq [.lst [fS x],.lst [fS x]]=some (.frz (.bl true)):=by
 have k:(O.lst [fS x]).d=.lst [.str x]:=rfl;have o:okD 40 (.lst [.str x])=true:=rfl;rw[a4p,k,if_pos ⟨o,o⟩,a9x 40 o]
theorem e2b(ns:List Int)(hl:ns.length<=63):∃fin,d7j [.frz (.scr ns)]=some (.frz (.bl true),fin):=by
 have e1:=e0o ns hl;have g0:GoodF (feed0 ns):=⟨Int.le_refl 0,hl⟩;have e2:=xd g0 (m:=12) (by decide) (by decide)
 have v0:=a0u (feed0 ns) (m:=12) (by decide)
 have v1:=a2j (feed0 ns) (m:=12) (by decide)
 have g1:=g0.draw 12;generalize drawV (feed0 ns) 12=st at *;generalize drawF (feed0 ns) 12=F1 at *;have e3:=d0t F1 st;have g2:GoodF { F1 with style:=st}:=⟨g1.pos,g1.len⟩;have s2:({ F1 with style:=st}:Feed).style=st:=rfl;generalize({ F1 with style:=st}:Feed)=F2 at *;have e4:=d7o F2 g2 (by rw[s2];exact v0) (by rw[s2];exact v1)
 obtain⟨gh,b6,c4⟩:=d2z F2 g2 (by rw[s2];exact v0) (by rw[s2];exact v1)
 have g3:GoodF (a6a 4 F2).1:=by
  show GoodF (a1i _ _ _ _ _).1;refine a5y ?_ _;show GoodF (wideM (drawV F2 7) (drawF (drawF F2 7) 4)).1;unfold wideM;split
  ·exact(((g2.draw 7).draw 4).draw 2).draw 20
  ·exact(g2.draw 7).draw 4
 generalize(a6a 4 F2).1=F3 at *;generalize(a6a 4 F2).2=n0 at *;have cl:(whOf n0).cs.length=n0.carts.length:=List.length_map ..;have bl:(whOf n0).bs.length=n0.belts.length:=List.length_map ..;have e5:=d7z (whOf n0) (by omega) (by omega)
 rw[cl,bl] at e5;have dsp:O.dl ((spL n0.carts.length n0.belts.length).map fSp)=(spL n0.carts.length n0.belts.length).map spD:=by rw[c1o,a4t]
 have spn:((spL n0.carts.length n0.belts.length).map spD).length=n0.carts.length+1+3 * n0.belts.length+if n0.belts.length=0 then 0 else 1:=by rw[List.length_map,e0x _ (by omega) _ (by omega),List.length_map,List.length_range]
 generalize hN:n0.carts.length+1+3 * n0.belts.length+(if n0.belts.length=0 then 0 else 1)=N at *
 have N1:0 < N:=by omega
 have N2:N<=30:=by rw[<-hN];split <;> omega
 have e6:=xd g3 (m:=3) (by decide) (by decide)
 have w0:=a0u F3 (m:=3) (by decide)
 have w1:=a2j F3 (m:=3) (by decide)
 have g4:=g3.draw 3;have i1:int1 [.own (.frz (.int (drawV F3 3)))]=some (drawV F3 3):=b1k (by omega)
 obtain⟨ps,F5,a5,e7,g5,_,_⟩:=c0a (n:=(N:Int)) (by omega) (by omega) (.frz (.lst ((spL n0.carts.length n0.belts.length).map spD))) ⟨_,rfl,by rw[spn]⟩ (rngD 0 (drawV F3 3).toNat) [] (drawF F3 3) none g4 (by simp[rngD];omega)
 rw[List.map_nil,List.nil_append] at e7;have dps:O.dl (ps.map fI)=ps.map D.int:=by rw[show ps.map fI=(ps.map D.int).map .frz by rw[List.map_map];rfl,a4t]
 have i2:int1 [.own (.frz (.int (N:Int)))]=some (N:Int):=b1k (by omega)
 have tN:(N:Int).toNat=N:=rfl;obtain⟨Γc,⟨a8,rfl⟩,e8⟩:=b2m (g:=a0p 0) (ct:=gT (gBin (oInG false) (gVar 0) (gVar 1))) (ce:=gVar 0) (fun Γ=>∃a,Γ=[a,some (.frz (.lst (ps.map .int)))]) (fun(k:Nat)=>D.int (0+(k:Int))) (fun(k:Nat)=>ps.contains (0+(k:Int))) (fun(k:Nat)=>D.int (0+(k:Int))) (List.range N) [] [none,some (.frz (.lst (ps.map .int)))] ⟨_,rfl⟩ (by rw[List.length_range,List.length_nil];omega) (by
  rintro k hk Γ ⟨a,rfl⟩;refine⟨[some (.frz (.int (0+(k:Int)))),some (.frz (.lst (ps.map .int)))],?_,_,rfl⟩;have z:=d8i (0+(k:Int)) ps;generalize(0+(k:Int))=ki at *;cases hc:ps.contains ki with
  |true=>
   rw[hc] at z;rw[if_pos rfl];simp only[b6o,a1q,qq2,qq3,qqf,Nat.reduceAdd,Nat.reduceLT,qq4,if_true,↓evBind,a5z,a1e,a0f,a0n,qq0,qq1,a0h,a0k,a0i,a0j,z]
  |false=>
   rw[hc] at z;rw[if_neg Bool.false_ne_true];simp only[b6o,a1q,qq2,qq3,qqf,Nat.reduceAdd,Nat.reduceLT,qq4,if_true,↓evBind,a5z,a1e,a0f,a0n,qq0,qq1,a0h,a0k,a0i,a0j,z,qqe,if_false])
 rw[List.map_nil,List.nil_append] at e8;have e8:compLoop (a0p 0) (gT (gBin (oInG false) (gVar 0) (gVar 1))) (gVar 0) (rngD 0 N) [none,some (.frz (.lst (ps.map .int)))] []=some ((((List.range N).filter fun(k:Nat)=>ps.contains (0+(k:Int))).map fun(k:Nat)=>D.int (0+(k:Int))).map .frz,[a8,some (.frz (.lst (ps.map .int)))]):=e8
 have pw:((List.range N).filter fun(k:Nat)=>ps.contains (0+(k:Int))).Pairwise (· < ·):=List.Pairwise.filter _ List.pairwise_lt_range
 have ln:((List.range N).filter fun(k:Nat)=>ps.contains (0+(k:Int))).length < 64:=Nat.lt_of_le_of_lt (List.length_filter_le ..) (by rw[List.length_range];omega)
 have mm:∀k∈(List.range N).filter fun(k:Nat)=>ps.contains (0+(k:Int)),k < N:=fun k hk=>List.mem_range.mp (List.mem_filter.mp hk).1
 generalize(List.range N).filter (fun(k:Nat)=>ps.contains (0+(k:Int)))=ks at *
 have e9:=d0v ks pw ln;rw[<-hN] at mm;obtain⟨F6,h,due,a6,e10,⟨rr,r1,r2⟩,G,i,ag⟩:=d3m gh b6 c4 g5 (some (.frz (.scr ns))) (some (.frz (.lst (ps.map .int)))) ks pw mm;obtain⟨om,e11,om1,os,om2⟩:=e0v h ag.small.1;have e12:=e0w r1 r2;have e13:=d8n (d8m ag.ok);have e14:=e1i due;have wd:=c1n h;subst om2;have dk:=a4t (ks.reverse.map fun(k:Nat)=>D.int (0+(k:Int)))
 refine⟨[none],?_⟩;unfold d7j d7i;unfold lawB tsB doB enB at e10;generalize(spL n0.carts.length n0.belts.length).map fSp=sf at *;generalize(spL n0.carts.length n0.belts.length).map spD=sd at *;generalize(ks.reverse.map fun(k:Nat)=>D.int (0+(k:Int)))=kr at *
 generalize(ks.map fun(k:Nat)=>D.int (0+(k:Int)))=kl at *
 generalize ps.map D.int=pd at *;generalize ps.map fI=pf at *;generalize whT h=wt at *;generalize whL h=wl at *;obtain⟨l1,hw1⟩:=a6i h;rw[hw1] at e10 wd;obtain⟨l2,hw2⟩:=a6i (whOf n0);rw[hw2] at e4 e5 e10;simp only[a1n,qq6,qq7,qq2,qq3,qqf,Nat.reduceSub,qq9,qq8,qqb,qqc,a0r,a1t,a1k,a0f,a0n,qq0,↓evBind,a0h,a0x,a0w,e1,a2f,a2e,Nat.reduceAdd,Nat.reduceLT,qq5,qq4,if_true,b4w,a1j,qq1,a3s,a1s,e2,a3m,a1o,e3,e4,e5,a5a,dsp,a4k,b0e,e6,i1,↓evMap,a8q,Option.join_some,a4f,e7,List.drop_succ_cons,List.drop_zero,a8r,a4g,dps,a6m,a1e,a0k,a0i,a0j,a4m,a3j,spn,i2,tN,e8,e9,dk,e10,wd,e11,om1,a3p,d6r,a5z,e12,a3f,Nat.reduceLeDiff,a1h,a1b,e14,e13,a3x,qqa,qqd,a2y,a2o]
def spLaw(K:L2.FG):L2.Sp:=fun vs H Q _=>∃(a:Addr) (ns:List Int),vs=[.ref a]/\SqL K H a (ns.map V.int)/\ns.length<=63/\∀H',Q (.bl true) H'
theorem e1j{P:Program}{base:Heap}{t:Adr}(T:Txt K mg t):FnOk P w K mg base CX0 6 t.f20 t.d20 ["_law_script"] (spLaw K):=by
 have z0:=c4u (P:=P) (w:=w) (base:=base) T;have z7:=b7b (P:=P) (w:=w) (base:=base) T;have z9:=c9f (P:=P) (w:=w) (base:=base) T;have z10:=c9g (P:=P) (w:=w) (base:=base) T;have z11:=c9i (P:=P) (w:=w) (base:=base) T;have z14:=c4v (P:=P) (w:=w) (base:=base) T;have z15:=b9h (P:=P) (w:=w) (base:=base) T;have z18:=c9k (P:=P) (w:=w) (base:=base) T;have z4:=b9j (P:=P) (w:=w) (base:=base) T z0;have z5:=b7g (P:=P) (w:=w) (base:=base) T z7;have z8:=c4w (P:=P) (w:=w) (base:=base) T z7;have z12:=c9l (P:=P) (w:=w) (base:=base) T z10;have z16:=b3y (P:=P) (w:=w) (base:=base) T z15;have z2:=b4j (P:=P) (w:=w) (base:=base) T z4;have z3:=b4k (P:=P) (w:=w) (base:=base) T z4;have z6:=b7i (P:=P) (w:=w) (base:=base) T z7 z8;have z13:=c4x (P:=P) (w:=w) (base:=base) T z10 z11 z12;have z17:=c4y (P:=P) (w:=w) (base:=base) T z16;have z1:=b4l (P:=P) (w:=w) (base:=base) T z3 z2 z6 z5;have z19:=c9m (P:=P) (w:=w) (base:=base) T z1;exact d6q (e0m T z10 z9 z13 z18 z17 z14 z19) e2b
theorem d0x(h:us.length=1):∃a0,us=[a0]:=by
 obtain _|⟨a0,us⟩:=us
 ·cases h
 obtain _|⟨z,us⟩:=us
 ·exact⟨a0,rfl⟩
 ·simp at h
theorem d8o(h:us.length=2):∃a0 a1,us=[a0,a1]:=by
 obtain _|⟨a0,us⟩:=us
 ·cases h
 obtain _|⟨a1,us⟩:=us
 ·cases h
 obtain _|⟨z,us⟩:=us
 ·exact⟨a0,a1,rfl⟩
 ·simp at h
theorem e2c(h:us.length=3):∃a0 a1 a2,us=[a0,a1,a2]:=by
 obtain _|⟨a0,us⟩:=us
 ·cases h
 obtain _|⟨a1,us⟩:=us
 ·cases h
 obtain _|⟨a2,us⟩:=us
 ·cases h
 obtain _|⟨z,us⟩:=us
 ·exact⟨a0,a1,a2,rfl⟩
 ·simp at h
abbrev ErrAt(K:L2.FG)(n:Str)(C:Addr)(ini:Option Value):Prop:=PySem.W.nsIn K mainGlobals n=some (some (.ref C))/\ErrC K C (.ref 24::bmV) ini/\IsErr K C/\PySem.W.keepIn K (.ref C)=true
theorem ea_mk{ini:Option Value}(a:PySem.W.nsIn K mainGlobals n=some (some (.ref C)))(b:ErrC K C (.ref 24::bmV) ini)(p:PySem.W.findIn K (.ref C) "__getattribute__"=some (some (.builtin "BaseException.__getattribute__")))(q:PySem.W.findIn K (.ref C) "__getattr__"=some none)(r:PySem.W.findIn K (.ref C) "__class__"=some (some (.builtin "object.__class__")))(x:PySem.W.specialIn K (.builtin "object.__class__") "__get__"=some (some (.builtin "getset_descriptor.__get__")))(y:PySem.W.takesIn K (.builtin "object.__class__")=some true)(d:PySem.W.keepIn K (.ref C)=true):ErrAt K n C ini:=⟨a,b,⟨p,q,r,x,y⟩,d⟩
theorem errs_mk{h:Heap}(X:K.In h)(G:h.Ns mainGlobals mg)(h0:ErrAt K "NoName" 37 none)(h1:ErrAt K "NoSize" 49 none)(h2:ErrAt K "NoOut" 61 none)(h3:ErrAt K "NoHand" 73 none)(GB:ErrC K 24 bmV none)(hB:PySem.W.nsIn K mainGlobals "CarryError"=some (some (.ref 24))):Errw K mg errTab 24:=by
 refine⟨⟨fun p hp=>?_,GB⟩,PySem.W.mg_of X G hB⟩
 simp only[errTab,List.mem_cons,List.not_mem_nil,or_false] at hp;rcases hp with rfl|rfl|rfl|rfl
 ·exact⟨PySem.W.mg_of X G h0.1,h0.2⟩
 ·exact⟨PySem.W.mg_of X G h1.1,h1.2⟩
 ·exact⟨PySem.W.mg_of X G h2.1,h2.2⟩
 ·exact⟨PySem.W.mg_of X G h3.1,h3.2⟩
theorem all_mk{h:Heap}{fa f0 f1 f2 f3 f4 f5 f6 f7 f8 f9 f10 f11 f12 f13 f14 f15 f16 f17 f18 f19 f20:Addr}{d0 d1 d2 d3 d4 d5 d6 d7 d8 d9 d10 d11 d12 d13 d14 d15 d16 d17 d18 d19 d20:FuncData}(X:K.In h)(G:h.Ns mainGlobals mg)(hfa:mg "law"=some (.ref fa))
  (a0:PySem.W.nsIn K mainGlobals "is_name"=some (some (.ref f0)))
  (a1:PySem.W.nsIn K mainGlobals "right_house"=some (some (.ref f1)))
  (a2:PySem.W.nsIn K mainGlobals "check_carts"=some (some (.ref f2)))
  (a3:PySem.W.nsIn K mainGlobals "check_belts"=some (some (.ref f3)))
  (a4:PySem.W.nsIn K mainGlobals "take_name"=some (some (.ref f4)))
  (a5:PySem.W.nsIn K mainGlobals "check_outs"=some (some (.ref f5)))
  (a6:PySem.W.nsIn K mainGlobals "check_hand"=some (some (.ref f6)))
  (a7:PySem.W.nsIn K mainGlobals "belt_names"=some (some (.ref f7)))
  (a8:PySem.W.nsIn K mainGlobals "reached"=some (some (.ref f8)))
  (a9:PySem.W.nsIn K mainGlobals "_law_feed"=some (some (.ref f9)))
  (a10:PySem.W.nsIn K mainGlobals "_law_draw"=some (some (.ref f10)))
  (a11:PySem.W.nsIn K mainGlobals "_law_name"=some (some (.ref f11)))
  (a12:PySem.W.nsIn K mainGlobals "_law_outs"=some (some (.ref f12)))
  (a13:PySem.W.nsIn K mainGlobals "_law_house"=some (some (.ref f13)))
  (a14:PySem.W.nsIn K mainGlobals "_law_spots"=some (some (.ref f14)))
  (a15:PySem.W.nsIn K mainGlobals "_law_no_name"=some (some (.ref f15)))
  (a16:PySem.W.nsIn K mainGlobals "_law_spoil_name"=some (some (.ref f16)))
  (a17:PySem.W.nsIn K mainGlobals "_law_spoil"=some (some (.ref f17)))
  (a18:PySem.W.nsIn K mainGlobals "_law_made"=some (some (.ref f18)))
  (a19:PySem.W.nsIn K mainGlobals "_law_word"=some (some (.ref f19)))
  (a20:PySem.W.nsIn K mainGlobals "law"=some (some (.ref f20)))
  (F0:Fun K "is_name" "is_name" b0p f0 d0)
  (F1:Fun K "right_house" "right_house" a7n f1 d1)
  (F2:Fun K "check_carts" "check_carts" a7o f2 d2)
  (F3:Fun K "check_belts" "check_belts" a7p f3 d3)
  (F4:Fun K "take_name" "take_name" a9l f4 d4)
  (F5:Fun K "check_outs" "check_outs" a8c f5 d5)
  (F6:Fun K "check_hand" "check_hand" a8d f6 d6)
  (F7:Fun K "belt_names" "belt_names" a6n f7 d7)
  (F8:Fun K "reached" "reached" b0q f8 d8)
  (F9:Fun K "_law_feed" "_law_feed" b6w f9 d9)
  (F10:Fun K "_law_draw" "_law_draw" b6x f10 d10)
  (F11:Fun K "_law_name" "_law_name" b6y f11 d11)
  (F12:Fun K "_law_outs" "_law_outs" b2o f12 d12)
  (F13:Fun K "_law_house" "_law_house" a8e f13 d13)
  (F14:Fun K "_law_spots" "_law_spots" b0r f14 d14)
  (F15:Fun K "_law_no_name" "_law_no_name" a9m f15 d15)
  (F16:Fun K "_law_spoil_name" "_law_spoil_name" a5f f16 d16)
  (F17:Fun K "_law_spoil" "_law_spoil" b3u f17 d17)
  (F18:Fun K "_law_made" "_law_made" b2p f18 d18)
  (F19:Fun K "_law_word" "_law_word" b6z f19 d19)
  (F20:Fun K "law" "law" c9e f20 d20)
  (er:Errw K mg errTab 24)
  (z_len:PySem.W.nsIn K mainGlobals "len"=some none)
  (z_isinstance:PySem.W.nsIn K mainGlobals "isinstance"=some none)
  (z_int:PySem.W.nsIn K mainGlobals "int"=some none)
  (z_str:PySem.W.nsIn K mainGlobals "str"=some none)
  (z_list:PySem.W.nsIn K mainGlobals "list"=some none)
  (z_range:PySem.W.nsIn K mainGlobals "range"=some none)
  (z_enumerate:PySem.W.nsIn K mainGlobals "enumerate"=some none)
  (z_all:PySem.W.nsIn K mainGlobals "all"=some none)
  (z_sorted:PySem.W.nsIn K mainGlobals "sorted"=some none)
  (z_ValueError:PySem.W.nsIn K mainGlobals "ValueError"=some none)
  {t_LETTERS:Tok} (y_LETTERS:PySem.W.nsIn K mainGlobals "LETTERS"=some (some (.str "abcdefghijklmnopqrstuvwxyz" t_LETTERS)))
  {t_MOST_LETTERS:Tok} (y_MOST_LETTERS:PySem.W.nsIn K mainGlobals "MOST_LETTERS"=some (some (.int 8 t_MOST_LETTERS)))
  : ∃fd:FuncData,(∀(s:Shared) (v:Value),BindsTo s fd ⟨[v],[]⟩ [("_law_script",v)])/\∀base:Heap,K.In base->base.Ns mainGlobals mg->FnOk l.prog w K mg base CX0 6 fa fd ["_law_script"] (spLaw K):=by
 have e:=hfa.symm.trans (PySem.W.mg_of X G a20);cases e;have T:Txt K mg ⟨f0,d0,f1,d1,f2,d2,f3,d3,f4,d4,f5,d5,f6,d6,f7,d7,f8,d8,f9,d9,f10,d10,f11,d11,f12,d12,f13,d13,f14,d14,f15,d15,f16,d16,f17,d17,f18,d18,f19,d19,fa,d20⟩:=⟨⟨F0,PySem.W.mg_of X G a0,F0.binds fun _ _ _ _ _ _ us hl=>by obtain⟨_,rfl⟩:=d0x hl;rfl⟩,⟨F1,PySem.W.mg_of X G a1,F1.binds fun _ _ _ _ _ _ us hl=>by obtain⟨_,rfl⟩:=d0x hl;rfl⟩,⟨F2,PySem.W.mg_of X G a2,F2.binds fun _ _ _ _ _ _ us hl=>by obtain⟨_,_,rfl⟩:=d8o hl;rfl⟩,⟨F3,PySem.W.mg_of X G a3,F3.binds fun _ _ _ _ _ _ us hl=>by obtain⟨_,_,rfl⟩:=d8o hl;rfl⟩,⟨F4,PySem.W.mg_of X G a4,F4.binds fun _ _ _ _ _ _ us hl=>by obtain⟨_,_,rfl⟩:=d8o hl;rfl⟩,⟨F5,PySem.W.mg_of X G a5,F5.binds fun _ _ _ _ _ _ us hl=>by obtain⟨_,_,rfl⟩:=d8o hl;rfl⟩,⟨F6,PySem.W.mg_of X G a6,F6.binds fun _ _ _ _ _ _ us hl=>by obtain⟨_,rfl⟩:=d0x hl;rfl⟩,⟨F7,PySem.W.mg_of X G a7,F7.binds fun _ _ _ _ _ _ us hl=>by obtain⟨_,rfl⟩:=d0x hl;rfl⟩,⟨F8,PySem.W.mg_of X G a8,F8.binds fun _ _ _ _ _ _ us hl=>by obtain⟨_,_,rfl⟩:=d8o hl;rfl⟩,⟨F9,PySem.W.mg_of X G a9,F9.binds fun _ _ _ _ _ _ us hl=>by obtain⟨_,rfl⟩:=d0x hl;rfl⟩,⟨F10,PySem.W.mg_of X G a10,F10.binds fun _ _ _ _ _ _ us hl=>by obtain⟨_,_,rfl⟩:=d8o hl;rfl⟩,⟨F11,PySem.W.mg_of X G a11,F11.binds fun _ _ _ _ _ _ us hl=>by obtain⟨_,_,rfl⟩:=d8o hl;rfl⟩,⟨F12,PySem.W.mg_of X G a12,F12.binds fun _ _ _ _ _ _ us hl=>by obtain⟨_,_,_,rfl⟩:=e2c hl;rfl⟩,⟨F13,PySem.W.mg_of X G a13,F13.binds fun _ _ _ _ _ _ us hl=>by obtain⟨_,rfl⟩:=d0x hl;rfl⟩,⟨F14,PySem.W.mg_of X G a14,F14.binds fun _ _ _ _ _ _ us hl=>by obtain⟨_,rfl⟩:=d0x hl;rfl⟩,⟨F15,PySem.W.mg_of X G a15,F15.binds fun _ _ _ _ _ _ us hl=>by obtain⟨_,rfl⟩:=d0x hl;rfl⟩,⟨F16,PySem.W.mg_of X G a16,F16.binds fun _ _ _ _ _ _ us hl=>by obtain⟨_,_,_,rfl⟩:=e2c hl;rfl⟩,⟨F17,PySem.W.mg_of X G a17,F17.binds fun _ _ _ _ _ _ us hl=>by obtain⟨_,_,_,rfl⟩:=e2c hl;rfl⟩,⟨F18,PySem.W.mg_of X G a18,F18.binds fun _ _ _ _ _ _ us hl=>by obtain⟨_,rfl⟩:=d0x hl;rfl⟩,⟨F19,PySem.W.mg_of X G a19,F19.binds fun _ _ _ _ _ _ us hl=>by obtain⟨_,rfl⟩:=d0x hl;rfl⟩,⟨F20,PySem.W.mg_of X G a20,F20.binds fun _ _ _ _ _ _ us hl=>by obtain⟨_,rfl⟩:=d0x hl;rfl⟩,er,PySem.W.mg_none_of X G z_len,PySem.W.mg_none_of X G z_isinstance,PySem.W.mg_none_of X G z_int,PySem.W.mg_none_of X G z_str,PySem.W.mg_none_of X G z_list,PySem.W.mg_none_of X G z_range,PySem.W.mg_none_of X G z_enumerate,PySem.W.mg_none_of X G z_all,PySem.W.mg_none_of X G z_sorted,PySem.W.mg_none_of X G z_ValueError,⟨_,PySem.W.mg_of X G y_LETTERS⟩,⟨_,PySem.W.mg_of X G y_MOST_LETTERS⟩⟩
 obtain⟨oc,od,kV,doc,pm,an,cdv,ct,osl,rfl,_,_⟩:=F20.ex;exact⟨_,fun s v=>.of_eq rfl,fun base _ _=>e1j T⟩
theorem walk{q:Program}{loose:List Str}{XP:(Str->Option Value)->Heap->Prop}{YP:World->Heap->Prop}{d:DefRec}{K:Params->L2.FG}(hn:l.most=some 63)(hdf:d.params.defaults=[])
  (hY:∀(w:World) (h:Heap),YP w h->(K w.params).In h)
  (F:∀(w:World) (mg:Str->Option Value) (fa:Addr) (h:Heap),(K w.params).In h->h.Ns mainGlobals mg->mg d.name=some (.ref fa)->
   ∃fd:FuncData,(∀(s:Shared) (u:Value),BindsTo s fd ⟨[u],[]⟩ [("_law_script",u)])/\∀base:Heap,(K w.params).In base->base.Ns mainGlobals mg->FnOk l.prog w (K w.params) mg base CX0 6 fa fd ["_law_script"] (spLaw (K w.params))) :
  PySem.W.WalkO q loose XP YP l.row.toRowW d [] (fun f vs=>PySem.call f vs):=
 L2.walk_of (n:=63) (k:=6) (x:="_law_script") (CX:=fun _=>CX0) (sp:=fun w=>spLaw (K w.params)) hn (by decide) hdf ⟨rfl,by decide,by decide⟩ hY F (fun _ _ a ns hl _ hS=>⟨a,ns,rfl,hS,hl,fun _=>rfl⟩) fun _ _ _ _ _ z=>z
end Carry
end
open PySem PySem.W PyProof.Rows
set_option maxRecDepth 100000 in
set_option maxHeartbeats 0 in
theorem PySem.Challenge.cw_carry_k02_houses_fit_or_refused_holds : PySem.Challenge.rw_carry_k02_houses_fit_or_refused.Holds := by
 w_on;o_law;(try simp only[Carry.Hd.hd]);k_head;(case hw=>w_witness2)
 k_fill
 refine Carry.walk (l:=PySem.Challenge.rw_carry_k02_houses_fit_or_refused) rfl rfl (fun w h Y=>PySem.W.kIn_of Y) ?F
 case F=>
  intro w mg fa h KX G hmg;refine' Carry.all_mk KX G hmg ?a0 ?a1 ?a2 ?a3 ?a4 ?a5 ?a6 ?a7 ?a8 ?a9 ?a10 ?a11 ?a12 ?a13 ?a14 ?a15 ?a16 ?a17 ?a18 ?a19 ?a20 ?F0 ?F1 ?F2 ?F3 ?F4 ?F5 ?F6 ?F7 ?F8 ?F9 ?F10 ?F11 ?F12 ?F13 ?F14 ?F15 ?F16 ?F17 ?F18 ?F19 ?F20   ?er ?z_len ?z_isinstance ?z_int ?z_str ?z_list ?z_range ?z_enumerate ?z_all ?z_sorted ?z_ValueError ?y_LETTERS ?y_MOST_LETTERS
  case er=>
   refine' Carry.errs_mk KX G ?h0 ?h1 ?h2 ?h3 ?GB ?hB
   all_goals first|(refine' Carry.ea_mk ?za ?zb ?zp ?zq ?zr ?zx ?zy ?zd;(case zb=>refine' L2.errC_mk ?zl ?zm ?zs ?zi;(case zl=>k_is);(case zm=>k_is);(case zs=>kernel_rfl);(case zi=>kernel_rfl));(case za=>k_is);(case zp=>k_is);(case zq=>k_is);(case zr=>k_is);(case zx=>k_is);(case zy=>k_is);(case zd=>k_is))|(refine' L2.errC_mk ?zl ?zm ?zs ?zi;(case zl=>k_is);(case zm=>k_is);(case zs=>kernel_rfl);(case zi=>kernel_rfl))|k_is
  all_goals first|(refine' L2.fun_mk ?zl ?zc ?zk;(case zl=>k_is);(case zc=>k_is);(case zk=>k_is))|k_is|skip